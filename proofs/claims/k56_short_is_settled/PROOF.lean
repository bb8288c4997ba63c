import PyProof.Rows.All
import Wide.All
import OpenK.AllK
import Wide.FinOn
import Lean
import PyProof.EqAt
import PyProof.EqKinds
import PyProof.TupleCall
import PySem.Challenge.RW_markrun_k56_short_is_settled
set_option Elab.async false
set_option linter.all false
set_option maxRecDepth 100000
def gR:=@PySem.Around.under_plainId
def Z4:=@Array.getElem?_eq_getElem
def Qg:=@Array.getElem?_eq_none
def Z5:=@Array.getElem?_toList
def VJ:=@Array.getElem_toList
def wy:=@Array.length_toList
def MR:=@Array.size_append
def KB:=@Array.toArray_toList
def KC:=@Array.toList_append
def xB:=@Bool.and_eq_true
def Qh:=@Bool.and_false
def MS:=@Bool.and_true
def Yi:=@Bool.eq_iff_iff
def VL:=@Bool.false_and
def KD:=@Bool.false_eq_true
def yR:=@Bool.false_ne_true
def MT:=@Bool.false_or
def qk:=@Bool.not_false
def tX:=@Bool.not_true
def Z6:=@Bool.or_eq_true
def Yj:=@Bool.or_false
def Yk:=@Bool.true_and
def KE:=@PySem.Calls.Name_function_global
def KF:=@PySem.Calls.call_function_entry
def KG:=@Classical.byContradiction
def Qi:=@PySem.Code.quiet_builtin
def KH:=@PySem.F.args_tuple_iterator_next_1
def uL:=@PySem.F.called_set
def Qj:=@PyProof.Rows.F.entry_set_update_loop
def KJ:=@PySem.F.entry_tuple_iterator_next
def Yl:=@PyProof.Rows.F.plain_set_update_loop
def MU:=@PySem.F.slot_list_getattribute
def Qk:=@PySem.F.slot_tuple_iterator_next
def Ql:=@PySem.F.slot_zip_next
def Ym:=@Int.emod_lt_of_pos
def Yn:=@Int.emod_nonneg
def xg:=@Int.toNat_natCast
def MV:=@Int.toNat_of_nonneg
def KL:=@List.Nodup.sublist
def MW:=@List.Pairwise.imp_of_mem
def MX:=@List.Pairwise.map
def Qm:=@List.Perm.of_eq
def pO:=@List.Perm.refl
def xz:=@List.all_cons
def wm:=@List.all_eq_true
def Z7:=@List.any_cons
def Qn:=@List.any_eq_true
def ql:=@List.append_assoc
def wW:=@List.append_nil
def KM:=@List.concat_eq_append
def VM:=@List.cons.injEq
def Z8:=@List.cons_append
def Yo:=@List.dropLast_concat
def KN:=@List.dropLast_eq_take
def VN:=@List.drop_eq_getElem_cons
def Qo:=@List.drop_eq_nil_of_le
def MY:=@List.eq_nil_of_length_eq_zero
def KO:=@List.eq_nil_or_concat
def jW:=@List.ext_getElem?
def MZ:=@List.filterMap_cons
def uc:=@List.filter_append
def vZ:=@List.filter_cons_of_neg
def vh:=@List.filter_cons_of_pos
def KP:=@List.filter_eq_nil_iff
def Ma:=@List.filter_eq_self
def Yp:=@List.filter_nil
def KQ:=@List.filter_sublist
def Yq:=@List.find?_cons
def Z9:=@List.flatten_cons
def Mb:=@List.foldl_append
def vB:=@List.foldl_cons
def Mc:=@List.forIn_cons
def x_:=@List.getD_eq_getElem?_getD
def gS:=@List.getElem?_append_left
def VO:=@List.getElem?_append_right
def yZ:=@List.getElem?_eq_getElem
def wo:=@List.getElem?_eq_none
def yM:=@List.getElem?_eq_some_iff
def xC:=@List.getElem?_map
def gT:=@List.getElem?_range
def Yr:=@List.getElem?_replicate
def Ys:=@List.getElem?_set
def KR:=@List.getElem?_set_ne
def KS:=@List.getElem?_set_self
def Qp:=@List.getElem?_toArray
def KU:=@List.getElem?_zipWith
def KW:=@List.getElem_idxOf
def ZA:=@List.getElem_mem
def VP:=@List.getElem_of_mem
def Md:=@List.idxOf_lt_length_of_mem
def yD:=@List.length_append
def xK:=@List.length_cons
def ZB:=@List.length_drop
def KY:=@List.length_dropLast
def KZ:=@List.length_eraseIdx
def pP:=@List.length_filter_le
def zj:=@List.length_map
def Yt:=@List.length_nil
def Kb:=@List.length_pos_iff
def vP:=@List.length_range
def t6:=@List.length_replicate
def u7:=@List.length_set
def VQ:=@List.length_singleton
def tY:=@List.length_take
def VR:=@List.length_zipWith
def Me:=@List.lookup_cons
def qM:=@List.map_append
def Mf:=@List.map_congr_left
def xT:=@List.map_cons
def Yu:=@List.map_id
def vC:=@List.map_map
def Qq:=@List.map_nil
def Kc:=@List.map_replicate
def w4:=@List.mem_append
def pQ:=@List.mem_append_left
def vJ:=@List.mem_append_right
def yI:=@List.mem_cons
def yX:=@List.mem_cons_of_mem
def yF:=@List.mem_cons_self
def w6:=@List.mem_filter
def Qr:=@List.mem_filterMap
def Ke:=@List.mem_iff_getElem
def wp:=@List.mem_map
def wK:=@List.mem_of_getElem?
def Kf:=@List.mem_or_eq_of_mem_set
def uM:=@List.mem_range
def yt:=@List.mem_singleton
def tZ:=@List.nil_append
def VS:=@List.nodup_append
def t7:=@List.nodup_cons
def t8:=@List.nodup_nil
def Mg:=@List.nodup_range
def wq:=@List.not_mem_nil
def Mh:=@List.of_mem_zip
def gU:=@List.pairwise_cons
def Mi:=@List.pairwise_iff_getElem
def Mj:=@List.pairwise_lt_range
def ZC:=@List.pairwise_map
def Qf:=@List.range_eq_range'
def Mk:=@List.range_succ
def pR:=@List.replicate_succ
def Kg:=@List.set_append_right
def Kh:=@List.set_cons_zero
def ya:=@List.size_toArray
def Ml:=@List.sum_cons
def ZD:=@List.take_length
def Mm:=@List.take_of_length_le
def Yv:=@List.take_succ_eq_append_getElem
def VT:=@List.take_zero
def Qs:=@List.zipWith_cons_cons
def VU:=@List.zip_cons_cons
def Ki:=@Nat.add_le_add_left
def Mn:=@Nat.and_le_left
def Kj:=@Nat.eq_of_testBit_eq
def ZE:=@Nat.le_add_right
def Yw:=@Nat.le_of_lt
def zt:=@Nat.le_refl
def Mo:=@Nat.le_succ
def wX:=@Nat.le_trans
def Mp:=@Nat.log2_lt
def vi:=@Nat.lt_irrefl
def Mq:=@Nat.lt_of_le_of_lt
def wY:=@Nat.lt_of_lt_of_le
def Yx:=@Nat.lt_or_ge
def ZF:=@Nat.lt_succ_of_lt
def ZG:=@Nat.lt_succ_self
def Qt:=@Nat.lt_trans
def Qu:=@Nat.min_self
def ZH:=@Nat.mod_two_eq_zero_or_one
def ud:=@Nat.ne_of_gt
def xh:=@Nat.ne_of_lt
def Mr:=@Nat.not_lt
def VV:=@Nat.not_lt_zero
def Kk:=@Nat.not_succ_le_self
def Kl:=@Nat.pow_le_pow_right
def Yy:=@Nat.sub_le
def VW:=@Nat.sub_self
def VX:=@Nat.succ_le_succ
def Ms:=@Nat.succ_mul
def Qv:=@Nat.testBit_and
def Yz:=@Nat.testBit_succ
def Mt:=@Nat.testBit_zero
def xn:=@Nat.zero_add
def xb:=@Nat.zero_le
def pS:=@Ne.symm
def ZI:=@Option.isSome_iff_exists
def Mu:=@Option.isSome_map
def Km:=@Option.map_eq_some_iff
def wz:=@Option.some.inj
def ue:=@PySem.PassesOwn.never
def Qw:=@PyProof.Rows.callWith_type1
def Mv:=@PyProof.Rows.slot_tuple_getitem
def Mw:=@PySem.SeqAt.EqAt.same
def VY:=@Sum.inl.inj
def Qx:=@Sum.inr.inj
def pT:=@beq_eq_false_iff_ne
def qN:=@beq_iff_eq
def jX:=@beq_self_eq_true
def gW:=@PySem.call_meets
def tf:=@PySem.codeAny_builtin
def Mx:=@PySem.codeAny_call_builtin
def ZJ:=@PySem.codeAny_mono
def Mz:=@PySem.codeAny_of_tree
def VZ:=@decide_eq_decide
def yy:=@decide_eq_false
def xD:=@decide_eq_true
def Kn:=@decide_eq_true_iff
def Va:=@PySem.fits_of_scanBound
def M_:=@PySem.gives_joinTail
def Y_:=@if_false
def zL:=@if_neg
def zK:=@if_pos
def qO:=@if_true
def B0:=@PySem.isSubtype_type
def vQ:=@of_decide_eq_true
def X0:=@PySem.plainId_quiet
def w8:=@PySem.sizeLine_eq
def Qy:=@PyProof.Rows.subscriptTail_builtinR
def B1:=@PySem.tupleKind_room_in1
def Qz:=@PySem.typeIs_str
def Vb:=@PySem.wpAny_Call_Name_kw
def X1:=@PySem.wpAny_askSetting
def B2:=@PySem.wpAny_attempt
def zE:=@PySem.wpAny_bind
def Q_:=@PySem.wpAny_call
def X2:=@PySem.wpAny_callSpecial?_slot
def pU:=@PySem.wpAny_call_entry
def Ko:=@PySem.wpAny_comprehension_free
def J0:=@PySem.wpAny_execs_nil
def ug:=@PySem.wpAny_field
def t9:=@PySem.wpAny_holding
def B3:=@PySem.wpAny_isInstance
def B4:=@PySem.wpAny_ite_split
def uh:=@PySem.wpAny_mono
def J1:=@PySem.wpAny_newList
def qm:=@PySem.wpAny_newObj_type
def Vc:=@PySem.wpAny_onRaise
def ZK:=@PySem.wpAny_passesOwn
def zX:=@PySem.wpAny_pure
def X3:=@PySem.wpAny_pyIter_list
def J2:=@PySem.wpAny_pyNext_list_end
def J3:=@PySem.wpAny_pyNext_list_item
def X4:=@PySem.wpAny_rule
def J4:=@PySem.wpAny_runValue
def qo:=@PySem.wpAny_seqItems
def B5:=@PySem.wpAny_setField
def X5:=@PySem.wpAny_setField_rec
def X6:=@PySem.wpAny_setState_of
def B6:=@PySem.wpAny_standAt
def J5:=@PySem.wpAny_truthy_bool
def X7:=@PySem.wpAny_typeOf
def B7:=@PySem.wpAny_updateSeq
def B8:=@PySem.wpAny_updateSeq_pair
namespace L2
open PySem PySem.Spec PyProof.Rows
abbrev Key:=Sum Int Str
def vT:Key->Value->Bool
 |.inl k,v=>Value.isInt k v
 |.inr x,v=>Value.isStrOf x v
def Rx(w:World):Key->Int
 |.inl k=>hashInt k
 |.inr x=>hashStr w x
theorem qG:∀{k:Key}{v:Value},vT k v=true->(∃i t,k=Sum.inl i/\v=Value.int i t)\/(∃x t,k=Sum.inr x/\v=Value.str x t)
 |.inl i,v,h=>by
  obtain⟨t,e⟩:=Value.isInt_shape (k:=i) (v:=v) h;exact .inl ⟨i,t,rfl,e⟩
 |.inr x,v,h=>by
  obtain⟨t,e⟩:=Value.isStrOf_shape (x:=x) (v:=v) h;exact .inr ⟨x,t,rfl,e⟩
theorem Ry(i:Int)(t:Tok):vT (.inl i) (.int i t)=true:=by simp[vT,Value.isInt]
theorem Rz(x:Str)(t:Tok):vT (.inr x) (.str x t)=true:=by simp[vT,Value.isStrOf]
theorem R_(a b:Int):decide ((Sum.inl a:Key)=Sum.inl b)=(a==b):=by
 by_cases e:a=b
 ·subst e; simp
 ·have h:¬ (Sum.inl a:Key)=Sum.inl b:=λq=>e (VY q)
  rw[yy h];exact(pT.mpr e).symm
theorem S5(a b:Str):decide ((Sum.inr a:Key)=Sum.inr b)=decide (a=b):=by
 by_cases e:a=b
 ·subst e; simp
 ·have h:¬ (Sum.inr a:Key)=Sum.inr b:=λq=>e (Qx q)
  rw[yy h,yy e]
theorem S0(a:Int)(b:Str):decide ((Sum.inl a:Key)=Sum.inr b)=false:=yy (λq=>nomatch q)
theorem S4(a:Str)(b:Int):decide ((Sum.inr a:Key)=Sum.inl b)=false:=yy (λq=>nomatch q)
def y_(prog:Program)(w:World):PySem.KeyKind prog w Key where
 is:=vT
 hash:=Rx w
 inj:=λv a b ha hb=>by
  rcases qG ha with⟨i,t,rfl,rfl⟩|⟨x,t,rfl,rfl⟩
  ·rcases qG hb with⟨j,u,rfl,e⟩|⟨y,u,rfl,e⟩
   ·injection e with e1 _; rw[e1]
   ·exact nomatch e
  ·rcases qG hb with⟨j,u,rfl,e⟩|⟨y,u,rfl,e⟩
   ·exact nomatch e
   ·injection e with e1 _; rw[e1]
 byValue:=λk v h=>by
  rcases qG h with⟨i,t,rfl,rfl⟩|⟨x,t,rfl,rfl⟩<;>rfl
 pyHash:=λhv h=>by
  rcases qG hv with⟨i,t,rfl,rfl⟩|⟨x,t,rfl,rfl⟩
  ·exact wpAny_pyHash_int h
  ·exact wpAny_pyHash_str h
 eqBool:=λhu hv h=>by
  rcases qG hu with⟨i,t,rfl,rfl⟩|⟨x,t,rfl,rfl⟩
  ·rcases qG hv with⟨j,u,rfl,rfl⟩|⟨y,u,rfl,rfl⟩
   ·rw[R_]at h; exact wpAny_eqBool_int h
   ·rw[S0]at h; exact SeqAt.EqAt.int_str i t y u _ _ _ _ h
  ·rcases qG hv with⟨j,u,rfl,rfl⟩|⟨y,u,rfl,rfl⟩
   ·rw[S4]at h; exact SeqAt.EqAt.str_int x t j u _ _ _ _ h
   ·rw[S5]at h; exact wpAny_eqBool_str h
 «strs»:=λk x t v h=>by
  rcases qG h with⟨i,u,rfl,e⟩|⟨y,u,rfl,e⟩
  ·exact nomatch e
  ·injection e with e1 _
   subst e1;cases v<;>rfl
theorem Sy(prog:Program)(w:World)(i:Int)(t:Tok):(y_ prog w).is (.inl i) (.int i t)=true:=Ry i t
theorem OM(prog:Program)(w:World)(x:Str)(t:Tok):(y_ prog w).is (.inr x) (.str x t)=true:=Rz x t
inductive V where
 |non|bl (b:Bool)|int (i:Int)|str (x:Str)|byt (b:Array UInt8)|flt (b:UInt64)|ref (a:Addr)|ty (n:String)
 deriving DecidableEq
def zr:V->Value->Prop
 |.non,u=>u=Value.none
 |.bl b,u=>u=Value.bool b
 |.int i,u=>∃t,u=Value.int i t
 |.str x,u=>∃t,u=Value.str x t
 |.byt b,u=>∃t,u=Value.bytes b t
 |.flt b,u=>∃t,u=Value.float b t
 |.ref a,u=>u=Value.ref a
 |.ty n,u=>u=Value.type n
abbrev zf:List V->List Value->Prop:=Paired zr
theorem zf.length{xs:List V}{us:List Value}(r:zf xs us):xs.length=us.length:=Paired.length r
theorem zf.get:∀{xs:List V}{us:List Value}{i:Nat}{x:V},zf xs us->xs[i]?=some x->∃u,us[i]?=some u/\zr x u
 |_,_,_,_,.nil,e=>by simp at e
 |_,_,0,_,.cons r _,e=>by simp at e; subst e; exact⟨_,rfl,r⟩
 |_,_,i+1,x,.cons _ t,e=>by
  obtain⟨u,h1,h2⟩:=zf.get (i:=i) (x:=x) t (by simpa using e);exact⟨u,by simpa using h1,h2⟩
theorem zf.set{x:V}{u:Value}(r:zr x u):∀{xs:List V}{us:List Value}(i:Nat),zf xs us->zf (xs.set i x) (us.set i u)
 |_,_,_,.nil=>.nil
 |_,_,0,.cons _ t=>.cons r t
 |_,_,i+1,.cons q t=>.cons q (zf.set r i t)
theorem zf.append:∀{xs ys:List V}{us ws:List Value},zf xs us->zf ys ws->zf (xs++ys) (us++ws)
 |_,_,_,_,.nil,s=>s
 |_,_,_,_,.cons r t,s=>.cons r (zf.append t s)
theorem zf.take:∀{xs:List V}{us:List Value}(n:Nat),zf xs us->zf (xs.take n) (us.take n)
 |_,_,0,_=>.nil
 |_,_,_+1,.nil=>.nil
 |_,_,n+1,.cons r t=>.cons r (zf.take n t)
theorem zf.drop:∀{xs:List V}{us:List Value}(n:Nat),zf xs us->zf (xs.drop n) (us.drop n)
 |_,_,0,r=>r
 |_,_,_+1,.nil=>.nil
 |_,_,n+1,.cons _ t=>zf.drop n t
def qU:Option V->Option Value->Prop
 |some v,some u=>zr v u
 |none,none=>True
 |_,_=>False
def KV{κ:Type}:List (κ×V)->List (κ×Value)->Prop:=Paired λ(p:κ×V) (q:κ×Value)=>p.1=q.1/\zr p.2 q.2
def kV:Key->V
 |.inl i=>.int i
 |.inr x=>.str x
inductive HO where
  |lst (xs:List V)
  |tup (xs:List V)
  |dK (kvs:List (Key×V))|dT (kvs:List (List Key×V))
  |set (S:Int->Bool) (n:Nat)
  |ins (C dx:Addr) (fs:List (Str×V))
  |own (x:Addr)
  |xd (fs:List (Str×V))
  |met (f x:Addr)
  |rng (lo hi:Int)
  |frz (o:Obj) (u:HO)
  |tbl (ps:Array Value)
  |ext (φ:Heap->Prop)
abbrev Hp:=Addr->Option HO
def ze(H:Hp)(a:Addr)(o:HO):Hp:=λb=>if b=a then some o else H b
theorem xJ{H:Hp}{a:Addr}{o:HO}:ze H a o a=some o:=by unfold ze; rw[zK rfl]
theorem ym{H:Hp}{a b:Addr}{o:HO}(h:b≠a):ze H a o b=H b:=by unfold ze; rw[zL h]
theorem AO{H:Hp}{a b:Addr}{o u:HO}(h:H a=some o)(h':H b=some u)(d:o≠u):a≠b:=by
 intro e; subst e; rw[h]at h'; exact d (wz h')
theorem uF{H:Hp}{a b:Addr}{o:HO}(h:H a=some o)(h':H b=none):a≠b:=by
 intro e; subst e; rw[h]at h'; cases h'
section
variable(P:Program)(w:World)
def xP(H:Hp)(h:Heap)(a:Addr):HO->Prop
 |.lst xs=>xs.length<=sizeLine/\∃(its:List Value) (n:Nat),zf xs its/\h.get? a=some { cls:=.type "list",data:=.seq its.toArray n }
 |.tup xs=>xs.length<=sizeLine/\∃its:List Value,zf xs its/\IsTup h a its.toArray
 |.dK kvs=>kvs.length<=sizeLine/\(a==sysModules)=false/\∃vs,KV kvs vs/\h.DictOf (y_ P w) a vs
 |.dT kvs=>kvs.length<=sizeLine/\(a==sysModules)=false/\∃xs:List (List Key×Addr×Value),
   Paired (λ(p:List Key×V) (q:List Key×Addr×Value)=>p.1=q.1/\H q.2.1=some (.tup (p.1.map kV))/\zr p.2 q.2.2) kvs xs/\
   ∃o es ep,h.get? a=some o/\o.ExactDict/\o.data=.dict es ep/\es.toList=xs.map (entryOfKey (tupleKind (y_ P w)))/\(xs.map (·.1)).Nodup
 |.set S n=>h.SetOf (intKind P w) a S n
 |.ins C dx fs=>H dx=some (.own a)/\fs.length<=1000/\dx≠a/\h.get? a=some (W.instObj C dx)/\
   ∃mA,h.Ns1 dx mA/\(∀f,qU (fs.lookup f) (mA f))/\PySem.Within mA (fs.map (·.1))
 |.own _=>∃o,h.get? a=some o
 |.xd fs=>∃mA,h.Ns1 a mA/\∀f,qU (fs.lookup f) (mA f)
 |.rng lo hi=>∃t u v,h.get? a=some { cls:=.type "range",data:=.fields #[.int lo t,.int hi u,.int 1 v] }
 |.frz o u=>h.get? a=some o/\xP H h a u
 |.tbl ps=>h.get? a=some { cls:=.none,data:=.fields ps }
 |.met f x=>h.get? a=some (W.methodObj (.ref f) (.ref x))
 |.ext φ=>φ h/\(∃o,h.get? a=some o)/\∀h1 h2:Heap,φ h1->(∀o,h1.get? a=some o->h2.get? a=some o)->φ h2
def xU(H:Hp)(h:Heap):Prop:=∀a o,H a=some o->xP P w H h a o
end
section
variable{P:Program}{w:World}{H H':Hp}{h h':Heap}{a:Addr}{o:HO}
theorem xP.lt(x:xP P w H h a o):a<h.objs.size:=by
 cases o with
 |lst xs=>obtain⟨_,_,_,_,e⟩:=x; exact Heap.lt_size e
 |tup xs=>obtain⟨_,_,_,p⟩:=x; exact p.lt
 |dK kvs=>obtain⟨_,_,_,_,o,_,_,e,_⟩:=x; exact Heap.lt_size e
 |dT kvs=>obtain⟨_,_,_,_,o,_,_,e,_⟩:=x; exact Heap.lt_size e
 |set S n=>obtain⟨o,_,_,_,e,_⟩:=x; exact Heap.lt_size e
 |ins C dx fs=>obtain⟨_,_,_,e,_⟩:=x; exact Heap.lt_size e
 |own y=>obtain⟨_,e⟩:=x; exact Heap.lt_size e
 |xd fs=>obtain⟨_,⟨_,_,_,e,_⟩,_⟩:=x; exact Heap.lt_size e
 |rng lo hi=>obtain⟨_,_,_,e⟩:=x; exact Heap.lt_size e
 |frz ob u=>obtain⟨e,_⟩:=x; exact Heap.lt_size e
 |tbl ps=>exact Heap.lt_size (show h.get? a=some _ from x)
 |met f y=>exact Heap.lt_size (show h.get? a=some _ from x)
 |ext φ=>obtain⟨_,⟨_,e⟩,_⟩:=x; exact Heap.lt_size e
theorem Paired.mapP{α β:Type}{F G:α->β->Prop}:∀{l₁:List α}{l₂:List β},Paired F l₁ l₂->(∀a b,F a b->G a b)->Paired G l₁ l₂
 |_,_,.nil,_=>.nil
 |_,_,.cons r t,f=>.cons (f _ _ r) (Paired.mapP t f)
theorem xP.stay(x:xP P w H h a o)(k:∀b u,(b=a\/H b=some (.own a))->h.get? b=some u->h'.get? b=some u)
  (ho:∀b,H b=some (.own a)->H' b=some (.own a))(ht:∀b xs,H b=some (.tup xs)->H' b=some (.tup xs)):xP P w H' h' a o:=by
 induction o with
 |lst xs=>obtain⟨z,its,n,r,e⟩:=x; exact⟨z,its,n,r,k _ _ (.inl rfl) e⟩
 |tup xs=>obtain⟨z,its,r,ob,e,c⟩:=x; exact⟨z,its,r,ob,k _ _ (.inl rfl) e,c⟩
 |dK kvs=>obtain⟨z,y,vs,r,ob,es,ep,e,c⟩:=x; exact⟨z,y,vs,r,ob,es,ep,k _ _ (.inl rfl) e,c⟩
 |dT kvs=>
  obtain⟨z,y,xs,r,ob,es,ep,e,c⟩:=x;exact⟨z,y,xs,Paired.mapP r λp q z=>⟨z.1,ht _ _ z.2.1,z.2.2⟩,ob,es,ep,k _ _ (.inl rfl) e,c⟩
 |set S n=>obtain⟨ob,es,ep,t,e,c⟩:=x; exact⟨ob,es,ep,t,k _ _ (.inl rfl) e,c⟩
 |ins C dx fs=>
  obtain⟨d,z,ne,e,mA,⟨od,es,ep,e2,c⟩,r⟩:=x;exact⟨ho _ d,z,ne,k _ _ (.inl rfl) e,mA,⟨od,es,ep,k _ _ (.inr d) e2,c⟩,r⟩
 |own y=>obtain⟨ob,e⟩:=x; exact⟨ob,k _ _ (.inl rfl) e⟩
 |xd fs=>obtain⟨mA,⟨od,es,ep,e,c⟩,r⟩:=x; exact⟨mA,⟨od,es,ep,k _ _ (.inl rfl) e,c⟩,r⟩
 |rng lo hi=>obtain⟨t,u,v,e⟩:=x; exact⟨t,u,v,k _ _ (.inl rfl) e⟩
 |frz ob u ih=>obtain⟨e,q⟩:=x; exact⟨k _ _ (.inl rfl) e,ih q⟩
 |tbl ps=>
  have e:h.get? a=some { cls:=.none,data:=.fields ps }:=x;show h'.get? a=some { cls:=.none,data:=.fields ps };exact k a _ (.inl rfl) e
 |met f y=>
  have e:h.get? a=some (W.methodObj (.ref f) (.ref y)):=x;show h'.get? a=some (W.methodObj (.ref f) (.ref y));exact k a _ (.inl rfl) e
 |ext φ=>obtain⟨p,⟨o,e⟩,st⟩:=x; exact⟨st _ _ p λo q=>k _ _ (.inl rfl) q,⟨o,k _ _ (.inl rfl) e⟩,st⟩
theorem xU.lt(x:xU P w H h)(e:H a=some o):a<h.objs.size:=(x a o e).lt
theorem xU.fresh(x:xU P w H h)(e:h.objs.size<=a):H a=none:=by
 cases q:H a with
 |none=>rfl
 |some u=>exact absurd (wY (x.lt q) e) (vi _)
theorem xU.kept(x:xU P w H h)(k:∀b u,h.get? b=some u->h'.get? b=some u):xU P w H h':=λa o e=>
 (x a o e).stay (λb u _ q=>k b u q) (λ_ q=>q) λ_ _ q=>q
theorem xU.laid(x:xU P w H h)(k:∀b u,h.get? b=some u->h'.get? b=some u)(hp:h.objs.size<=a)(new:xP P w (ze H a o) h' a o):xU P w (ze H a o) h':=λb u e=>by
 have hn:=x.fresh hp;by_cases hb:b=a
 ·subst hb; rw[xJ]at e; cases e; exact new
 ·rw[ym hb]at e;exact(x b u e).stay (λc v _ q=>k c v q) (λc q=>by rw[ym (uF q hn)]; exact q) λc xs q=>by rw[ym (uF q hn)]; exact q
end
def Rd(H:Hp)(a:Addr)(u:HO):Prop:=H a=some u\/∃o,H a=some (.frz o u)
theorem Rd.ok{P:Program}{w:World}{H:Hp}{h:Heap}{a:Addr}{u:HO}(r:Rd H a u)(x:xU P w H h):xP P w H h a u:=by
 rcases r with r|⟨o,r⟩
 ·exact x a u r
 ·obtain⟨_,q⟩:=x a _ r;exact q
def XA:Option HO->Prop
 |some (.lst _)=>True
 |some (.dK _)=>True
 |some (.dT _)=>True
 |some (.set _ _)=>True
 |some (.ins _ _ _)=>True
 |some (.ext _)=>True
 |_=>False
section
variable{P:Program}{w:World}{H:Hp}{h h':Heap}{x e:Addr}{o':HO}
theorem xU.write(ok:xU P w H h)(mu:XA (H x))(he:e=x\/H e=some (.own x))(k:∀b u,b≠e->h.get? b=some u->h'.get? b=some u)(heo:∃u,h'.get? e=some u)
  (new:xP P w (ze H x o') h' x o'):xU P w (ze H x o') h':=λb u q=>by
 have nown:∀c y,H c=some (.own y)->c≠x:=λc y r z=>by subst z; rw[r]at mu; exact mu
 have ntup:∀c xs,H c=some (.tup xs)->c≠x:=λc xs r z=>by subst z; rw[r]at mu; exact mu
 by_cases hb:b=x
 ·subst hb; rw[xJ]at q; cases q; exact new
 ·rw[ym hb]at q;by_cases hbe:b=e
  ·have q':H b=some (.own x):=by
    rcases he with z|z
    ·exact absurd (hbe.trans z) hb
    ·rw[hbe]; exact z
   rw[q]at q'; cases q';obtain⟨v,hv⟩:=heo;exact⟨v,by rw[hbe]; exact hv⟩
  ·refine(ok b u q).stay (λc v hc r=>k c v ?_ r) (λc r=>by rw[ym (nown c b r)]; exact r) λc xs r=>by rw[ym (ntup c xs r)]; exact r
   rcases hc with rfl|hc
   ·exact hbe
   ·rintro rfl;rcases he with z|z
    ·exact nown c b hc z
    ·rw[hc]at z; cases z; exact hb rfl
end
structure Un(fs ex:List Addr)(H H':Hp)(h h':Heap):Prop where
 keep:∀b o,h.get? b=some o->H b=none->b ∉ fs->b ∉ ex->h'.get? b=some o
 slot:∀b o,h.get? b=some o->H b=none->b∈fs->b ∉ ex->∃sl,h'.get? b=some { o with slots:=sl }
 free:∀b o,h.get? b=some o->H b=none->b ∉ ex->H' b=none
 there:∀b o,h.get? b=some o->b ∉ ex->∃o',h'.get? b=some o'
 tups:∀b xs,H b=some (.tup xs)->H' b=some (.tup xs)
 frzs:∀b o u,H b=some (.frz o u)->H' b=some (.frz o u)
 tbls:∀b ps,H b=some (.tbl ps)->∃more,H' b=some (.tbl (ps++more))
section
variable{fs fs' ex ex':List Addr}{H H1 H2:Hp}{h h1 h2 h':Heap}{a x e:Addr}{o:HO}
theorem Un.any(u:Un fs ex H H1 h h1){b:Addr}{ob:Obj}(q:h.get? b=some ob)(n:H b=none)(hx:b ∉ ex):∃sl,h1.get? b=some { ob with slots:=sl }:=by
 by_cases hb:b∈fs
 ·exact u.slot b ob q n hb hx
 ·exact⟨ob.slots,u.keep b ob q n hb hx⟩
theorem Un.kept(k:∀b u,h.get? b=some u->h'.get? b=some u):Un fs ex H H h h':=
 ⟨λb ob q _ _ _=>k b ob q,λb ob q _ _ _=>⟨ob.slots,k b ob q⟩,λ_ _ _ n _=>n,λb ob q _=>⟨ob,k b ob q⟩,λ_ _ q=>q,λ_ _ _ q=>q,λ_ ps q=>⟨#[],by rw[q]; simp⟩⟩
theorem Un.refl:Un fs ex H H h h:=Un.kept λ_ _ q=>q
theorem Un.laid(k:∀b u,h.get? b=some u->h'.get? b=some u)(hp:h.objs.size<=a)(hn:H a=none):Un fs ex H (ze H a o) h h' where
 keep:=λb u q _ _ _=>k b u q
 slot:=λb u q _ _ _=>⟨u.slots,k b u q⟩
 free:=λb u q n _=>by rw[ym (xh (wY (Heap.lt_size q) hp))]; exact n
 there:=λb u q _=>⟨u,k b u q⟩
 tups:=λb xs q=>by rw[ym (uF q hn)]; exact q
 frzs:=λb u xs q=>by rw[ym (uF q hn)]; exact q
 tbls:=λb ps q=>⟨#[],by rw[ym (uF q hn),q]; simp⟩
theorem Un.write(mu:XA (H x))(he:e=x\/H e=some (.own x))(k:∀b u,b≠e->h.get? b=some u->h'.get? b=some u)(heo:∃u,h'.get? e=some u):Un fs ex H (ze H x o) h h':=by
 have hx:∀b,H b=none->b≠x:=λb n z=>by subst z; rw[n]at mu; exact mu
 have hb:∀b,H b=none->b≠e:=λb n z=>by
  subst z;rcases he with r|r
  ·exact hx b n r
  ·rw[n]at r; cases r
 have hm:∀b u,H b=some u->¬ XA (some u)->b≠x:=λb u q nm z=>by subst z; rw[q]at mu; exact nm mu
 refine⟨λb u q n _ _=>k b u (hb b n) q,λb u q n _ _=>⟨u.slots,k b u (hb b n) q⟩,λb u q n _=>by rw[ym (hx b n)]; exact n,λb u q _=>?_,
  λb xs q=>by rw[ym (hm b _ q λz=>z)]; exact q,λb u xs q=>by rw[ym (hm b _ q λz=>z)]; exact q,λb ps q=>⟨#[],by rw[ym (hm b _ q λz=>z),q]; simp⟩⟩
 by_cases hbe:b=e
 ·subst hbe; exact heo
 ·exact⟨u,k b u hbe q⟩
end
def QT(h:Heap)(H:Hp):List Addr:=(List.range h.objs.size).filter λa=>(H a).isSome
def jF(h:Heap)(H:Hp):Heap:=W.hideAll h (QT h H)
theorem RP(h:Heap)(H:Hp):(jF h H).objs.size=h.objs.size:=W.hideAll_size _ _
theorem RO{h:Heap}{H:Hp}{b:Addr}{o:Obj}(e:h.get? b=some o)(n:H b=none):(jF h H).get? b=some o:=
 W.hideAll_get _ e λhm=>by
  have q:(H b).isSome=true:=(w6.mp hm).2;rw[n]at q; simp at q
theorem Ai{h:Heap}{H:Hp}{b:Addr}{o:Obj}(e:(jF h H).get? b=some o):h.get? b=some o/\H b=none:=by
 have e':h.get? b=some o:=W.of_hideAll (QT h H) e;refine⟨e',?_⟩;cases q:H b with
 |none=>rfl
 |some x=>
  have hm:b∈QT h H:=w6.mpr ⟨uM.mpr (Heap.lt_size e'),by simp[q]⟩;have z:(jF h H).get? b=none:=W.hideAll_none (QT h H) hm;rw[z]at e; cases e
def N0(g h:Heap)(L:Addr):List (Addr×Obj):=(List.range h.objs.size).filterMap λa=>if a=L\/(g.get? a).isSome=true then none else(h.get? a).map λo=>(a,o)
def yj(g h:Heap)(L d:Addr):List (Addr×Obj):=(N0 g h L).filter λp=>decide (p.1≠d)
structure Mod(K:W.Frag)(mg:Str->Option Value)(base:Heap):Prop where
 kin:K.In base
 glob:base.Ns mainGlobals mg
 blt:∃mb,base.Ns builtinsNs mb/\∀x:Str,x ≠ "__name__" -> mb x=bootBuiltins x
 nolimit:base.NoLimit
structure Cx where
 prog:Program
 w:World
 K:W.Frag
 mg:Str->Option Value
 base:Heap
 A:Around
 N:List Str
 s₀:Shared
 H₀:Hp
 env:Env
 outer:List Env
 stack:List Env
 ex:List Addr
 fn:Str->Bool
 calm:Bool
 pn:List (Addr×Obj)
 xe:Value->Shared->Prop
def tN(l:List Env):List Addr:=l.filterMap (·.frame)
abbrev Cx.fs(X:Cx):List Addr:=tN X.outer
def jk(sc:Scope)(x:Str):Prop:=sc.names.lookup x=some .local\/sc.names.lookup x=some .cell\/sc.names.lookup x=some .free
def uN(sc:Scope)(x:Str):Prop:=sc.names.lookup x=some .local\/sc.names.lookup x=some .cell
def Kr(env:Env)(h:Heap)(m:Str->Option Value)(x:Str)(u:Value):Prop:=
 (env.kindOf x=some .local/\m x=some u)\/((env.kindOf x=some .cell\/env.kindOf x=some .free)/\∃c,env.cells.lookup x=some c/\h.IsCell c (some u))
structure Cx.Ok(X:Cx):Prop where
 mod:Mod X.K X.mg X.base
 kind:X.env.scope.kind=.function
 glob:X.env.globals=mainGlobals
 blt:X.env.builtins=builtinsNs
 above:X.s₀.heap.objs.size<=X.env.locals
 inj:∀x y c,X.env.cells.lookup x=some c->X.env.cells.lookup y=some c->x=y
 has:∀x,(X.env.kindOf x=some .cell\/X.env.kindOf x=some .free)->∃c,X.env.cells.lookup x=some c
 cab:∀x c,X.fn x=true->X.env.cells.lookup x=some c->X.s₀.heap.objs.size<=c
 hd:X.calm=true->X.A.handled=none
 frames:X.A.frames=some X.stack
 stk:X.stack=X.outer\/(X.stack=X.env::X.outer/\X.env.frame=some X.env.locals)
 exf:∀b∈X.ex,b≠X.env.locals/\∀x c,X.env.cells.lookup x=some c->c≠b
 bs:∀b o,X.base.get? b=some o->X.s₀.heap.get? b=some o/\X.H₀ b=none
 bsz:X.base.objs.size<=X.s₀.heap.objs.size
 noex:∀b o,X.base.get? b=some o->b ∉ X.ex
 exfs:∀b∈X.ex,b ∉ X.fs
 funs:X.s₀.heap.FunFrames X.base X.outer
 frf:∀b∈X.fs,X.H₀ b=none
structure Inv(X:Cx)(z8:List (Addr×Obj))(σ:List (Option V))(H:Hp)(s:Shared):Prop where
 ok:X.Ok
 os:s.os=X.s₀.os
 bare:AllBare s.gens
 base:Un X.fs X.ex X.H₀ H X.s₀.heap s.heap
 loc:∃m,s.heap.Ns X.env.locals m/\∀(i:Nat)(x:Str)(v:V),X.N[i]?=some x->σ[i]?=some (some v)->jk X.env.scope x->∃u,zr v u/\Kr X.env s.heap m x u
 cell:∀x c,X.env.cells.lookup x=some c->∃v,s.heap.IsCell c v
 free:H X.env.locals=none
 freeC:∀x c,X.env.cells.lookup x=some c->H c=none
 pin:∀p∈X.pn++z8,s.heap.get? p.1=some p.2/\H p.1=none/\p.1≠X.env.locals/\p.1 ∉ X.fs/\∀v,p.2.data≠.cell v
 hok:xU X.prog X.w H s.heap
 len:σ.length=X.N.length
section
variable{X:Cx}{z8:List (Addr×Obj)}{σ:List (Option V)}{H H':Hp}{s:Shared}{h':Heap}
theorem Cx.Ok.nofr(ok:X.Ok){b:Addr}{o:Obj}(e:X.base.get? b=some o):b ∉ X.fs:=λhb=>by
 have:=(ok.funs.mem hb).1;rw[e]at this; cases this
theorem Inv.bs(I:Inv X z8 σ H s):∀b o,X.base.get? b=some o->s.heap.get? b=some o/\H b=none:=λb o e=>
 ⟨I.base.keep b o (I.ok.bs b o e).1 (I.ok.bs b o e).2 (I.ok.nofr e) (I.ok.noex b o e),I.base.free b o (I.ok.bs b o e).1 (I.ok.bs b o e).2 (I.ok.noex b o e)⟩
theorem Inv.bk(I:Inv X z8 σ H s):∀b o,X.base.get? b=some o->s.heap.get? b=some o:=λb o e=>(I.bs b o e).1
theorem Inv.mod(I:Inv X z8 σ H s):Mod X.K X.mg X.base:=I.ok.mod
theorem Inv.kIn(I:Inv X z8 σ H s):X.K.In s.heap:=I.ok.mod.kin.keeps I.bk
theorem Inv.lt(I:Inv X z8 σ H s):X.env.locals<s.heap.objs.size:=let ⟨_,hn,_⟩:=I.loc; hn.lt
theorem Inv.sz(I:Inv X z8 σ H s):X.s₀.heap.objs.size<=s.heap.objs.size:=wX I.ok.above (Yw I.lt)
theorem Inv.nofs(I:Inv X z8 σ H s){a:Addr}(h:s.heap.objs.size<=a):a ∉ X.fs:=λhb=>by
 obtain⟨_,o,ho,_⟩:=I.ok.funs.mem hb;exact absurd (wY (Heap.lt_size ho) (wX I.sz h)) (vi _)
theorem Inv.cne(I:Inv X z8 σ H s):∀x c,X.env.cells.lookup x=some c->c≠X.env.locals:=λx c e z=>by
 obtain⟨v,o,ho,hd⟩:=I.cell x c e;obtain⟨m,⟨o',es,ep,ho',hd',_⟩,_⟩:=I.loc;rw[z,ho']at ho; cases ho; rw[hd']at hd; cases hd
theorem Inv.funs(I:Inv X z8 σ H s):s.heap.FunFrames X.base X.outer:=by
 have all:∀(l:List Env),(∀b∈tN l,b∈X.fs)->X.s₀.heap.FunFrames X.base l->s.heap.FunFrames X.base l:=by
  intro l
  induction l with
  |nil=>intro _ _; trivial
  |cons env r ih=>
   intro hs hl;obtain⟨hk,⟨L,o,hf,hn,ho,hd⟩,hr⟩:=hl;have hL:L∈X.fs:=hs L (by unfold tN; rw[MZ,hf]; exact yF);obtain⟨sl,e⟩:=I.base.slot L o ho (I.ok.frf L hL) hL λz=>I.ok.exfs L z hL
   exact⟨hk,⟨L,_,hf,hn,e,hd⟩,ih (λb hb=>hs b (by unfold tN; rw[MZ,hf]; exact yX _ hb)) hr⟩
 exact all X.outer (λ_ hb=>hb) I.ok.funs
theorem Inv.stack(I:Inv X z8 σ H s):s.heap.FunFrames X.base X.stack:=by
 rcases I.ok.stk with e|⟨e,hf⟩
 ·rw[e]; exact I.funs
 ·rw[e];obtain⟨m,hn,_⟩:=I.loc;refine .cons (by rw[I.ok.kind]; decide) hf hn ?_ I.funs;exact Heap.get?_none_of_le (wX I.ok.bsz I.ok.above)
theorem Inv.stkSub(I:Inv X z8 σ H s):∀b∈tN X.stack,b∈X.env.locals::X.fs:=λb hb=>by
 rcases I.ok.stk with e|⟨e,hf⟩
 ·rw[e]at hb; exact yX _ hb
 ·rw[e]at hb;unfold tN at hb;rw[MZ,hf]at hb;exact hb
theorem Inv.stkFree(I:Inv X z8 σ H s):∀b∈tN X.stack,H b=none:=λb hb=>by
 rcases yI.mp (I.stkSub b hb)with e|hb
 ·rw[e]; exact I.free
 ·obtain⟨_,o,ho,_⟩:=I.ok.funs.mem hb;exact I.base.free b o ho (I.ok.frf b hb) λz=>I.ok.exfs b z hb
theorem Inv.step{g':Array GenState}{t':Nat}{d':Drawn}{ch:List Addr}(I:Inv X z8 σ H s)
  (hch:∀b∈ch,(b∈X.ex\/X.s₀.heap.objs.size<=b)/\b≠X.env.locals/\(∀x c,X.env.cells.lookup x=some c->c≠b)/\∀p∈X.pn++z8,p.1≠b)
  (keep:∀b o,b≠X.env.locals->b ∉ X.fs->b ∉ ch->s.heap.get? b=some o->H b=none->h'.get? b=some o)
  (slot:∀b o,b≠X.env.locals->b∈X.fs->b ∉ ch->s.heap.get? b=some o->H b=none->∃sl,h'.get? b=some { o with slots:=sl })(free:∀b o,b ∉ ch->s.heap.get? b=some o->H b=none->H' b=none)
  (there:∀b o,b ∉ ch->s.heap.get? b=some o->∃o',h'.get? b=some o')
  (tups:∀b xs,H b=some (.tup xs)->H' b=some (.tup xs))(frzs:∀b o u,H b=some (.frz o u)->H' b=some (.frz o u))(tbls:∀b ps,H b=some (.tbl ps)->∃more,H' b=some (.tbl (ps++more)))
  (ns:∀m,s.heap.Ns X.env.locals m->h'.Ns X.env.locals m)(hok:xU X.prog X.w H' h')(hg:AllBare g') :
  Inv X z8 σ H' { s with heap:=h',gens:=g',drawn:=d',toks:=t' }:=by
 have neL:∀b o,X.s₀.heap.get? b=some o->b≠X.env.locals:=λb o e=>xh (wY (Heap.lt_size e) I.ok.above)
 have neC:∀b o,X.s₀.heap.get? b=some o->b ∉ X.ex->b ∉ ch:=λb o e hx hb=>by
  rcases(hch b hb).1 with z|z
  ·exact hx z
  ·exact absurd (wY (Heap.lt_size e) z) (vi _)
 have cellK:∀x c,X.env.cells.lookup x=some c->∀v,s.heap.IsCell c v->h'.IsCell c v:=λx c e v ⟨o,ho,hd⟩=>by
  have nch:c ∉ ch:=λz=>(hch c z).2.2.1 x c e rfl
  by_cases hc:c∈X.fs
  ·obtain⟨sl,q⟩:=slot c o (I.cne x c e) hc nch ho (I.freeC x c e);exact⟨_,q,hd⟩
  ·exact⟨o,keep c o (I.cne x c e) hc nch ho (I.freeC x c e),hd⟩
 refine⟨I.ok,I.os,hg,⟨λb o e n hb hx=>?_,λb o e n hb hx=>?_,λb o e n hx=>?_,λb o e hx=>?_,λb xs e=>tups b xs (I.base.tups b xs e),λb o xs e=>frzs b o xs (I.base.frzs b o xs e),λb ps e=>?_⟩,?_,λx c e=>?_,?_,λx c e=>?_,λp hp=>?_,hok,I.len⟩
 ·exact keep b o (neL b o e) hb (neC b o e hx) (I.base.keep b o e n hb hx) (I.base.free b o e n hx)
 ·obtain⟨sl,e1⟩:=I.base.slot b o e n hb hx;obtain⟨sl',e2⟩:=slot b _ (neL b o e) hb (neC b o e hx) e1 (I.base.free b o e n hx);exact⟨sl',e2⟩
 ·obtain⟨o',e1⟩:=I.base.there b o e hx;exact free b o' (neC b o e hx) e1 (I.base.free b o e n hx)
 ·obtain⟨o',e1⟩:=I.base.there b o e hx;exact there b o' (neC b o e hx) e1
 ·obtain⟨m1,e1⟩:=I.base.tbls b ps e;obtain⟨m2,e2⟩:=tbls b _ e1;exact⟨m1++m2,by rw[e2,Array.append_assoc]⟩
 ·obtain⟨m,hn,hl⟩:=I.loc;refine⟨m,ns m hn,λi x v e1 e2 e3=>?_⟩;obtain⟨u,r,l⟩:=hl i x v e1 e2 e3;refine⟨u,r,?_⟩;rcases l with l|⟨k,c,e,z⟩
  ·exact .inl l
  ·exact .inr ⟨k,c,e,cellK x c e _ z⟩
 ·obtain⟨v,z⟩:=I.cell x c e;exact⟨v,cellK x c e v z⟩
 ·obtain⟨m,⟨o,_,_,ho,_⟩,_⟩:=I.loc;exact free _ o (λz=>(hch _ z).2.1 rfl) ho I.free
 ·obtain⟨v,o,ho,hd⟩:=I.cell x c e;exact free c o (λz=>(hch c z).2.2.1 x c e rfl) ho (I.freeC x c e)
 ·obtain⟨e,n,ne,nf,d⟩:=I.pin p hp;have nch:p.1 ∉ ch:=λz=>(hch p.1 z).2.2.2 p hp rfl
  exact⟨keep p.1 p.2 ne nf nch e n,free p.1 p.2 nch e n,ne,nf,d⟩
theorem Inv.un{t':Nat}(I:Inv X z8 σ H s)(u:Un X.fs [] H H' s.heap h')(hok:xU X.prog X.w H' h'):Inv X z8 σ H' { s with heap:=h',toks:=t' }:=by
 obtain⟨m,⟨o,es,ep,ho,r⟩,_⟩:=id I.loc;obtain⟨sl,hL⟩:=u.any ho I.free (by simp)
 exact I.step (g':=s.gens) (d':=s.drawn) (ch:=[]) (λ_ z=>nomatch z) (λb o _ hb _ e n=>u.keep b o e n hb (by simp)) (λb o _ hb _ e n=>u.slot b o e n hb (by simp)) (λb o _ e n=>u.free b o e n (by simp)) (λb o _ e=>u.there b o e (by simp)) u.tups u.frzs u.tbls (λm' hm=>by
  obtain⟨o',es',ep',ho',r'⟩:=hm;rw[ho]at ho'; cases ho';exact⟨_,es',ep',hL,r'⟩) hok I.bare
theorem Inv.call{g':Array GenState}{t':Nat}{d':Drawn}{ch:List Addr}(I:Inv X z8 σ H s)(u:Un (tN X.stack) ch H H' s.heap h')(hok:xU X.prog X.w H' h')(hg:AllBare g')
  (hch:∀b∈ch,(b∈X.ex\/X.s₀.heap.objs.size<=b)/\b≠X.env.locals/\(∀x c,X.env.cells.lookup x=some c->c≠b)/\∀p∈X.pn++z8,p.1≠b) :
  Inv X z8 σ H' { s with heap:=h',gens:=g',drawn:=d',toks:=t' }:=by
 obtain⟨m,⟨o,es,ep,ho,r⟩,_⟩:=id I.loc;obtain⟨sl,hL⟩:=u.any ho I.free λz=>(hch _ z).2.1 rfl
 exact I.step (ch:=ch) hch (λb o hL hb hc e n=>u.keep b o e n (λz=>(yI.mp (I.stkSub b z)).elim hL hb) hc) (λb o _ _ hc e n=>u.any e n hc) (λb o hc e n=>u.free b o e n hc) (λb o hc e=>u.there b o e hc) u.tups u.frzs u.tbls (λm' hm=>by
  obtain⟨o',es',ep',ho',r'⟩:=hm;rw[ho]at ho'; cases ho';exact⟨_,es',ep',hL,r'⟩) hok hg
theorem Inv.turned{t':Nat}{it:Addr}(I:Inv X z8 σ H s)(k:∀b o,b≠it->s.heap.get? b=some o->h'.get? b=some o)(hn:H it=none)(hL:it≠X.env.locals)
  (h1:it∈X.ex\/X.s₀.heap.objs.size<=it)(h2:∀x c,X.env.cells.lookup x=some c->c≠it)(h3:∀p∈X.pn++z8,p.1≠it):Inv X z8 σ H { s with heap:=h',toks:=t' }:=by
 have nit:∀b u,H b=some u->b≠it:=λb u e z=>by rw[z,hn]at e; cases e
 refine I.step (g':=s.gens) (d':=s.drawn) (ch:=[it]) (λb hb=>?_) (λb o _ _ hc e _=>k b o (λz=>hc (by simp[z])) e) (λb o _ _ hc e _=>⟨o.slots,k b o (λz=>hc (by simp[z])) e⟩) (λ_ _ _ _ n=>n)
  (λb o hc e=>⟨o,k b o (λz=>hc (by simp[z])) e⟩) (λ_ _ e=>e) (λ_ _ _ e=>e) (λb ps e=>⟨#[],by rw[e]; simp⟩) (λm hm=>?_) (λb u e=>?_) I.bare
 ·have e:b=it:=by simpa using hb
  subst e;exact⟨h1,hL,h2,h3⟩
 ·obtain⟨o,es,ep,ho,r⟩:=hm;exact⟨o,es,ep,k _ o (pS hL) ho,r⟩
 ·refine(I.hok b u e).stay (λc v hc q=>k c v ?_ q) (λ_ q=>q) λ_ _ q=>q
  rcases hc with z|z
  ·rw[z]; exact nit b u e
  ·exact nit c _ z
theorem Inv.tok(I:Inv X z8 σ H s)(t:Nat):Inv X z8 σ H { s with toks:=t }:=I.un (h':=s.heap) (t':=t) Un.refl I.hok
theorem Inv.kept{t':Nat}(I:Inv X z8 σ H s)(k:∀b u,s.heap.get? b=some u->h'.get? b=some u):Inv X z8 σ H { s with heap:=h',toks:=t' }:=I.un (Un.kept k) (I.hok.kept k)
theorem Inv.laid{a:Addr}{o:HO}{t':Nat}(I:Inv X z8 σ H s)(k:∀b u,s.heap.get? b=some u->h'.get? b=some u)(hp:s.heap.objs.size<=a)(new:xP X.prog X.w (ze H a o) h' a o) :
  Inv X z8 σ (ze H a o) { s with heap:=h',toks:=t' }:=I.un (Un.laid k hp (I.hok.fresh hp)) (I.hok.laid k hp new)
theorem Inv.write{x e:Addr}{o:HO}{t':Nat}(I:Inv X z8 σ H s)(mu:XA (H x))(he:e=x\/H e=some (.own x))(k:∀b u,b≠e->s.heap.get? b=some u->h'.get? b=some u)(heo:∃u,h'.get? e=some u)
  (new:xP X.prog X.w (ze H x o) h' x o):Inv X z8 σ (ze H x o) { s with heap:=h',toks:=t' }:=I.un (Un.write mu he k heo) (I.hok.write mu he k heo new)
theorem Inv.weak{σ':List (Option V)}(I:Inv X z8 σ H s)(hl:σ'.length=σ.length)(w:∀(i:Nat) v,σ'[i]?=some (some v)->σ[i]?=some (some v)):Inv X z8 σ' H s:=
 ⟨I.ok,I.os,I.bare,I.base,let ⟨m,hn,hl'⟩:=I.loc; ⟨m,hn,λi x v e1 e2 e3=>hl' i x v e1 (w i v e2) e3⟩,I.cell,I.free,I.freeC,I.pin,I.hok,hl.trans I.len⟩
theorem Inv.pins_of{pins':List (Addr×Obj)}(I:Inv X z8 σ H s)(h:∀p∈pins',s.heap.get? p.1=some p.2/\H p.1=none/\p.1≠X.env.locals/\p.1 ∉ X.fs/\∀v,p.2.data≠.cell v):Inv X pins' σ H s:=
 ⟨I.ok,I.os,I.bare,I.base,I.loc,I.cell,I.free,I.freeC,λp hp=>(w4.mp hp).elim (λz=>I.pin p (pQ _ z)) (h p),I.hok,I.len⟩
theorem CW{N:List Str}(hN:N.Nodup){i j:Nat}{x:Str}(a:N[i]?=some x)(b:N[j]?=some x):i=j:=by
 obtain⟨h1,e1⟩:=yM.mp a;obtain⟨h2,e2⟩:=yM.mp b;exact(List.getElem_inj hN).mp (e1.trans e2.symm)
theorem HR{M:Model}{A:Around}{E:Value->Shared->Prop}{i:Nat}{x:Str}{v:V}{u:Value}{Q:Unit->Shared->Prop}(I:Inv X z8 σ H s)(hN:X.N.Nodup)(hi:X.N[i]?=some x)(hx:uN X.env.scope x)(r:zr v u)
  (h:∀s',Inv X z8 (σ.set i (some v)) H s'->(∃a,Heap.SameBut a s.heap s'.heap/\(a=X.env.locals\/X.env.cells.lookup x=some a))->Q () s')(hf:X.fn x=true\/X.env.scope.names.lookup x=some .local:=by first|exact .inl rfl|exact .inr rfl|assumption):wpAny M A (storeName X.env x u) Q E s:=by
 obtain⟨m,hn,hl⟩:=id I.loc;have hcls:(X.env.scope.kind == .class||(X.env.scope.kind == .module&&X.env.locals != X.env.globals))=false:=by rw[I.ok.kind]; rfl
 have hiσ:i<σ.length:=by rw[I.len]; exact(yM.mp hi).1
 have cne:=I.cne
 have tracked:∀{a:Addr}{h':Heap},(∃o,s.heap.get? a=some o/\H a=none)->Heap.SameBut a s.heap h'->xU X.prog X.w H h':=λ{a h'} ha hs b ob e=>by
  obtain⟨_,_,hfree⟩:=ha;refine(I.hok b ob e).stay (λc w' hc q=>(hs.2 c ?_).trans q) (λ_ q=>q) λ_ _ q=>q
  rintro rfl;rcases hc with rfl|hc
  ·rw[hfree]at e; cases e
  ·rw[hfree]at hc; cases hc
 rcases hx with hk|hk
 ·refine wpAny_storeName_local hk hn (λh' hn' hs=>?_) hcls;obtain⟨oL,_,_,hoL,_⟩:=id hn;refine h _ ⟨I.ok,I.os,I.bare,⟨λb o e n hb hx=>?_,λb o e n hb hx=>?_,I.base.free,λb o e hx=>?_,I.base.tups,I.base.frzs,I.base.tbls⟩,⟨_,hn',λj y v' e1 e2 e3=>?_⟩,λy c e=>?_,I.free,I.freeC,λp hp=>?_,tracked ⟨oL,hoL,I.free⟩ hs,by simpa using I.len⟩ ⟨_,hs,.inl rfl⟩
  ·exact(hs.2 b (xh (wY (Heap.lt_size e) I.ok.above))).trans (I.base.keep b o e n hb hx)
  ·obtain⟨sl,e1⟩:=I.base.slot b o e n hb hx;exact⟨sl,(hs.2 b (xh (wY (Heap.lt_size e) I.ok.above))).trans e1⟩
  ·obtain⟨o',e1⟩:=I.base.there b o e hx;exact⟨o',(hs.2 b (xh (wY (Heap.lt_size e) I.ok.above))).trans e1⟩
  ·by_cases hj:j=i
   ·subst hj;rw[hi]at e1; cases e1;rw[KS hiσ]at e2;cases e2;exact⟨u,r,.inl ⟨hk,by simp⟩⟩
   ·rw[KR (pS hj)]at e2;obtain⟨u',r',q⟩:=hl j y v' e1 e2 e3;refine⟨u',r',?_⟩;rcases q with⟨k,e⟩|⟨k,c,e,z⟩
    ·refine .inl ⟨k,?_⟩;have:y≠x:=λe=>hj (CW hN e1 (e▸hi))
     simp[this,e]
    ·exact .inr ⟨k,c,e,z.sameBut hs (cne y c e)⟩
  ·obtain⟨w',z⟩:=I.cell y c e;exact⟨w',z.sameBut hs (cne y c e)⟩
  ·obtain⟨e,n,ne,nf,d⟩:=I.pin p hp;exact⟨(hs.2 p.1 ne).trans e,n,ne,nf,d⟩
 ·have hfn:X.fn x=true:=by
   rcases hf with z|z
   ·exact z
   ·rw[z]at hk; cases hk
  obtain⟨c,hc⟩:=I.ok.has x (.inl hk);obtain⟨w',z⟩:=I.cell x c hc;refine wpAny_storeName_cell I.ok.kind hk hc z (λh' hc' hs=>?_);obtain⟨oc,hoc,hocd⟩:=id z;refine h { s with heap:=h' } ⟨I.ok,I.os,I.bare,⟨λb o e n hb hx=>?_,λb o e n hb hx=>?_,I.base.free,λb o e hx=>?_,I.base.tups,I.base.frzs,I.base.tbls⟩,⟨m,hn.sameBut hs (pS (cne x c hc)),λj y v' e1 e2 e3=>?_⟩,λy c' e=>?_,I.free,I.freeC,λp hp=>?_,tracked ⟨oc,hoc,I.freeC x c hc⟩ hs,by simpa using I.len⟩ ⟨c,hs,.inr hc⟩
  ·exact(hs.2 b (xh (wY (Heap.lt_size e) (I.ok.cab x c hfn hc)))).trans (I.base.keep b o e n hb hx)
  ·obtain⟨sl,e1⟩:=I.base.slot b o e n hb hx;exact⟨sl,(hs.2 b (xh (wY (Heap.lt_size e) (I.ok.cab x c hfn hc)))).trans e1⟩
  ·obtain⟨o',e1⟩:=I.base.there b o e hx;exact⟨o',(hs.2 b (xh (wY (Heap.lt_size e) (I.ok.cab x c hfn hc)))).trans e1⟩
  ·by_cases hj:j=i
   ·subst hj;rw[hi]at e1; cases e1;rw[KS hiσ]at e2;cases e2;exact⟨u,r,.inr ⟨.inl hk,c,hc,hc'⟩⟩
   ·rw[KR (pS hj)]at e2;obtain⟨u',r',q⟩:=hl j y v' e1 e2 e3;refine⟨u',r',?_⟩;rcases q with q|⟨k,c',e,z'⟩
    ·exact .inl q
    ·refine .inr ⟨k,c',e,z'.sameBut hs ?_⟩;rintro rfl;exact hj (CW hN e1 (I.ok.inj _ _ _ e hc▸hi))
  ·by_cases hcc:c'=c
   ·subst hcc; exact⟨_,hc'⟩
   ·obtain⟨w2,z2⟩:=I.cell y c' e;exact⟨w2,z2.sameBut hs hcc⟩
  ·obtain⟨e,n,ne,nf,d⟩:=I.pin p hp;refine⟨(hs.2 p.1 ?_).trans e,n,ne,nf,d⟩;intro q;rw[q,hoc]at e;have q':oc=p.2:=wz e;exact d w' (by rw[<-q']; exact hocd)
theorem Li{M:Model}{A:Around}{E:Value->Shared->Prop}{i:Nat}{x:Str}{v:V}{u:Value}{Q:Unit->Shared->Prop}(I:Inv X z8 σ H s)(hN:X.N.Nodup)(hi:X.N[i]?=some x)(hx:uN X.env.scope x)(r:zr v u)
  (h:∀s',Inv X z8 (σ.set i (some v)) H s'->Q () s')(hf:X.fn x=true\/X.env.scope.names.lookup x=some .local:=by first|exact .inl rfl|exact .inr rfl|assumption):wpAny M A (storeName X.env x u) Q E s:=
 HR I hN hi hx r (λs' I' _=>h s' I') hf
theorem Inv.call'{s':Shared}{ch:List Addr}(I:Inv X z8 σ H s)(ho:s'.os=s.os)(u:Un (tN X.stack) ch H H' s.heap s'.heap)(hok:xU X.prog X.w H' s'.heap)(hg:AllBare s'.gens)
  (hch:∀b∈ch,(b∈X.ex\/X.s₀.heap.objs.size<=b)/\b≠X.env.locals/\(∀x c,X.env.cells.lookup x=some c->c≠b)/\∀p∈X.pn++z8,p.1≠b):Inv X z8 σ H' s':=by
 obtain⟨h',g',d',t',o'⟩:=s';have e:o'=s.os:=ho;subst e;exact I.call (g':=g') (t':=t') (d':=d') u hok hg hch
end
abbrev XK:=Value->Option Addr->Hp->Prop
abbrev St:=List (Option V)
abbrev VK:=V->Hp->Prop
abbrev TE:=St->Hp->VK->Prop
abbrev TT:=St->Hp->(Bool->Hp->Prop)->Prop
abbrev TA:=St->Hp->(List V->Hp->Prop)->Prop
structure u8 where
 nx:St->Hp->Prop
 rt:VK
 bk:St->Hp->Prop:=λ_ _=>False
 ct:St->Hp->Prop:=λ_ _=>False
abbrev TS:=u8->St->Hp->Prop
def EP(X:Cx)(z8:List (Addr×Obj))(σ:St)(Q:VK)(u:Value)(s':Shared):Prop:=∃v H',Inv X z8 σ H' s'/\zr v u/\Q v H'
def TP(X:Cx)(z8:List (Addr×Obj))(σ:St)(Q:Bool->Hp->Prop)(b:Bool)(s':Shared):Prop:=∃H',Inv X z8 σ H' s'/\Q b H'
def AP(X:Cx)(z8:List (Addr×Obj))(σ:St)(Q:List V->Hp->Prop)(us:List Value)(s':Shared):Prop:=∃vs H',Inv X z8 σ H' s'/\zf vs us/\Q vs H'
def SP(X:Cx)(z8:List (Addr×Obj))(D:u8)(f:Flow)(s':Shared):Prop:=
 match f with
 |.next=>∃σ' H',Inv X z8 σ' H' s'/\D.nx σ' H'
 |.brk=>∃σ' H',Inv X z8 σ' H' s'/\D.bk σ' H'
 |.cont=>∃σ' H',Inv X z8 σ' H' s'/\D.ct σ' H'
 |.ret u=>∃v σ' H',Inv X z8 σ' H' s'/\zr v u/\D.rt v H'
def PE(X:Cx)(e:Expr)(t:TE):Prop:=
 ∀(z8:List (Addr×Obj)) (s:Shared) (σ:St) (H:Hp) (Q:VK),Inv X z8 σ H s->t σ H Q->wpAny (model X.prog X.w) X.A (eval e X.env) (EP X z8 σ Q) X.xe s
def PT(X:Cx)(e:Expr)(t:TT):Prop:=
 ∀(z8:List (Addr×Obj)) (s:Shared) (σ:St) (H:Hp) (Q:Bool->Hp->Prop),Inv X z8 σ H s->t σ H Q->wpAny (model X.prog X.w) X.A (isTrue e X.env (eval e X.env)) (TP X z8 σ Q) X.xe s
def PW(X:Cx)(e:Expr)(t:TT):Prop:=
 ∀(whole:Sem Value)(z8:List (Addr×Obj)) (s:Shared) (σ:St) (H:Hp) (Q:Bool->Hp->Prop),Inv X z8 σ H s->t σ H Q->wpAny (model X.prog X.w) X.A (isTrue e X.env whole) (TP X z8 σ Q) X.xe s
theorem PW.pt{X:Cx}{e:Expr}{t:TT}(h:PW X e t):PT X e t:=h _
def PA(X:Cx)(es:List Expr)(t:TA):Prop:=
 ∀(pos:Pos)(z8:List (Addr×Obj)) (s:Shared) (σ:St) (H:Hp) (Q:List V->Hp->Prop),Inv X z8 σ H s->t σ H Q->wpAny (model X.prog X.w) X.A (spliced (backTo pos (starEach es X.env))) (AP X z8 σ Q) X.xe s
def PS(X:Cx)(st:Stmt)(t:TS):Prop:=
 ∀(z8:List (Addr×Obj)) (s:Shared) (σ:St) (H:Hp) (D:u8),Inv X z8 σ H s->t D σ H->wpAny (model X.prog X.w) X.A (exec st X.env) (SP X z8 D) X.xe s
def vR(X:Cx)(st:List Stmt)(t:TS):Prop:=
 ∀(z8:List (Addr×Obj)) (s:Shared) (σ:St) (H:Hp) (D:u8),Inv X z8 σ H s->t D σ H->wpAny (model X.prog X.w) X.A (execs st X.env) (SP X z8 D) X.xe s
theorem zw{α:Type}{t:Sem α}{Q Q':α->Shared->Prop}{M:Model}{A:Around}{E:Value->Shared->Prop}{s:Shared}(h:wpAny M A t Q E s)(hQ:∀a s,Q a s->Q' a s):wpAny M A t Q' E s:=uh h hQ λ_ _ x=>x
section
variable{X:Cx}
theorem NA{a b:Expr}{ta tb:TE}(ha:PE X a ta)(hb:PE X b tb){z8:List (Addr×Obj)}{s:Shared}{σ:St}{H:Hp}{R:V->V->Hp->Prop}(I:Inv X z8 σ H s)(h:ta σ H λx H1=>tb σ H1 λy H2=>R x y H2)
  {α:Type}{Q:α->Shared->Prop}{f:Value->Value->Sem α}
  (hf:∀v u s2 x y H2,Inv X z8 σ H2 s2->zr x v->zr y u->R x y H2->wpAny (model X.prog X.w) X.A (f v u) Q X.xe s2) :
  wpAny (model X.prog X.w) X.A (eval a X.env) (λv s₁=>wpAny (model X.prog X.w) X.A (eval b X.env) (λu s₂=>wpAny (model X.prog X.w) X.A (f v u) Q X.xe s₂) X.xe s₁) X.xe s:=by
 refine zw (ha z8 s σ H _ I h) λv s1 ⟨x,H1,I1,r1,q1⟩=>?_
 refine zw (hb z8 s1 σ H1 _ I1 q1) λu s2 ⟨y,H2,I2,r2,q2⟩=>?_
 exact hf v u s2 x y H2 I2 r1 r2 q2
def vf(i:Nat):TE:=λσ H Q=>∃v,σ[i]?=some (some v)/\Q v H
def tC(v:V):TE:=λ_ H Q=>Q v H
theorem W5{i:Nat}{x:Str}{pos:Pos}(hN:X.N[i]?=some x)(hv:jk X.env.scope x)(hd:(x==("__debug__" : Str))=false:=by decide)(hcd:(x==("__classdict__" : Str))=false:=by decide):PE X (.Name x pos) (vf i):=by
 intro z8 s σ H Q I h;obtain⟨v,e,h⟩:=h;obtain⟨m,hn,hl⟩:=I.loc;obtain⟨u,r,l⟩:=hl i x v hN e hv;have fin:EP X z8 σ Q u s:=⟨v,H,I,r,h⟩;rcases l with⟨hk,hm⟩|⟨hk,c,hc,hcell⟩
 ·exact wpAny_Name (wpAny_loadName_local I.ok.kind hk hn hm fin) hd
 ·rcases hk with hk|hk
  ·exact wpAny_Name (wpAny_loadName_cell I.ok.kind hk hc hcell fin) hd
  ·exact wpAny_Name (wpAny_loadName_free I.ok.kind hk hc hcell fin hcd) hd
theorem Ep{i j pos}:PE X (.Constant (.int i) j pos) (tC (.int i)):=λ_ _ _ H _ I h=>wpAny_Constant_int ⟨.int i,H,I.tok _,⟨_,rfl⟩,h⟩
theorem bK{b j pos}:PE X (.Constant (.bool b) j pos) (tC (.bl b)):=λ_ _ _ H _ I h=>Constant_bool ⟨.bl b,H,I,rfl,h⟩
theorem bY{j pos}:PE X (.Constant .none j pos) (tC .non):=λ_ _ _ H _ I h=>Constant_none ⟨.non,H,I,rfl,h⟩
theorem be{x j pos}:PE X (.Constant (.str x) j pos) (tC (.str x)):=λ_ _ _ H _ I h=>Calls.Constant_str ⟨.str x,H,I.tok _,⟨_,rfl⟩,h⟩
def Gl(X:Cx)(x:Str):Prop:=X.env.kindOf x=some .globalImplicit
theorem OG{E:Value->Shared->Prop}{z8:List (Addr×Obj)}{s:Shared}{σ:St}{H:Hp}{x:Str}{u:Value}{pos:Pos}{Q:Value->Shared->Prop}(I:Inv X z8 σ H s)(hg:Gl X x)(hm:X.mg x=some u)(h:Q u s)
  (hd:(x==("__debug__" : Str))=false:=by decide):wpAny (model X.prog X.w) X.A (eval (.Name x pos) X.env) Q E s:=
 KE I.ok.kind hg (Calls.loadGlobal_global (by rw[I.ok.glob]; exact I.mod.glob.keeps I.bk) hm h) hd
theorem Y1{E:Value->Shared->Prop}{z8:List (Addr×Obj)}{s:Shared}{σ:St}{H:Hp}{x:Str}{u:Value}{pos:Pos}{Q:Value->Shared->Prop}(I:Inv X z8 σ H s)(hg:Gl X x)(hm:X.mg x=none)(hv:bootBuiltins x=some u)(h:Q u s)
  (hn:x ≠ "__name__" := by decide)(hd:(x==("__debug__" : Str))=false:=by decide):wpAny (model X.prog X.w) X.A (eval (.Name x pos) X.env) Q E s:=by
 obtain⟨mb,h1,h2⟩:=I.mod.blt;exact KE I.ok.kind hg (Calls.loadGlobal_builtin (by rw[I.ok.glob]; exact I.mod.glob.keeps I.bk) hm (by rw[I.ok.blt]; exact h1.keeps I.bk) ((h2 x hn).trans hv) h) hd
theorem bV{x:Str}{v:V}{u:Value}{pos:Pos}(hg:Gl X x)(hm:X.mg x=some u)(r:zr v u)(hd:(x==("__debug__" : Str))=false:=by decide):PE X (.Name x pos) (tC v):=
 λ_ _ _ H _ I h=>OG I hg hm ⟨v,H,I,r,h⟩ hd
theorem bL{x:Str}{v:V}{u:Value}{pos:Pos}(hg:Gl X x)(hm:X.mg x=none)(hv:bootBuiltins x=some u)(r:zr v u)(hn:x ≠ "__name__" := by decide)(hd:(x==("__debug__" : Str))=false:=by decide):PE X (.Name x pos) (tC v):=
 λ_ _ _ H _ I h=>Y1 I hg hm hv ⟨v,H,I,r,h⟩ hn hd
def m4(ta tb:TE)(k:Int->Int->Hp->Prop):St->Hp->Prop:=λσ H=>ta σ H λx H1=>tb σ H1 λy H2=>∃i j,x=.int i/\y=.int j/\k i j H2
variable{a b:Expr}{ta tb:TE}{pos:Pos}
def PC(X:Cx)(op:CmpOp)(a b:Expr)(t:TE):Prop:=
 ∀(z8:List (Addr×Obj)) (s:Shared) (σ:St) (H:Hp) (Q:VK),Inv X z8 σ H s->t σ H Q->
  wpAny (model X.prog X.w) X.A (eval a X.env) (λv s₁=>wpAny (model X.prog X.w) X.A (eval b X.env) (λu s₂=>wpAny (model X.prog X.w) X.A (compareOp op v u) (EP X z8 σ Q) X.xe s₂) X.xe s₁) X.xe s
def Ll(p:Int->Int->Bool)(ta tb:TE):TE:=λσ H Q=>m4 ta tb (λi j H2=>Q (.bl (p i j)) H2) σ H
abbrev mG:TE->TE->TE:=Ll λi j=>decide (i<j)
abbrev mF:TE->TE->TE:=Ll λi j=>decide (i<=j)
theorem En{op:CmpOp}{p:Int->Int->Bool}(ha:PE X a ta)(hb:PE X b tb)
  (rule:∀(i j:Int)(t u:Tok)(Q:Value->Shared->Prop)(s:Shared),Q (.bool (p i j)) s->wpAny (model X.prog X.w) X.A (compareOp op (.int i t) (.int j u)) Q X.xe s):PC X op a b (Ll p ta tb):=by
 intro z8 s σ H Q I h;refine NA ha hb I h λv u s2 x y H2 I2 rx ry q=>?_
 obtain⟨i,j,rfl,rfl,q⟩:=q;obtain⟨t,rfl⟩:=rx;obtain⟨t',rfl⟩:=ry;exact rule i j t t' _ s2 ⟨.bl _,H2,I2,rfl,q⟩
theorem pc_lt(ha:PE X a ta)(hb:PE X b tb):PC X .Lt a b (mG ta tb):=En ha hb λ_ _ _ _ _ _ h=>lt_int h
theorem pc_le(ha:PE X a ta)(hb:PE X b tb):PC X .LtE a b (mF ta tb):=En ha hb λ_ _ _ _ _ _ h=>le_int h
def tB(t:TE):TT:=λσ H Q=>t σ H λx H1=>∃c,x=.bl c/\Q c H1
theorem cR{e:Expr}{t:TE}(h:PE X e t)(he:∀whole,isTrue e X.env whole=(do let v <-whole; standAt e.pos; holding [v] (truthy v)):=by intro _; rfl):PT X e (tB t):=by
 intro z8 s σ H Q I hw;refine isTrue_plain (zw (h z8 s σ H _ I hw) λv s1 ⟨x,H1,I1,r1,q1⟩=>?_) (he _);obtain⟨d,rfl,q⟩:=q1;cases r1;exact J5 ⟨H1,I1,q⟩
variable{tA tB':TT}{yj:List Expr}
def m5(t u:TT):TT:=λσ H Q=>t σ H λc H1=>if c=true then u σ H1 Q else Q false H1
def mK(t u:TT):TT:=λσ H Q=>t σ H λc H1=>if c=true then Q true H1 else u σ H1 Q
def mJ(t:TT):TT:=λσ H Q=>t σ H λc H1=>Q (!c) H1
theorem cW(ha:PT X a tA):PW X (.BoolOp .And [a] pos) tA:=by
 intro wh z8 s σ H Q I h;refine isTrue_and (zw (ha z8 s σ H Q I h) λc s1 e=>?_);cases c with
 |true=>exact isTrue_and_nil e
 |false=>exact e
theorem cY(ha:PT X a tA):PW X (.BoolOp .Or [a] pos) tA:=by
 intro wh z8 s σ H Q I h;refine isTrue_or (zw (ha z8 s σ H Q I h) λc s1 e=>?_);cases c with
 |false=>exact isTrue_or_nil e
 |true=>exact e
theorem cV(ha:PT X a tA)(hb:PW X (.BoolOp .And (b::yj) pos) tB'):PW X (.BoolOp .And (a::b::yj) pos) (m5 tA tB'):=by
 intro wh z8 s σ H Q I h;refine isTrue_and (zw (ha z8 s σ H _ I h) λc s1 ⟨H1,I1,q1⟩=>?_);cases c with
 |true=>exact hb wh z8 s1 σ H1 Q I1 q1
 |false=>exact⟨H1,I1,q1⟩
theorem cX(ha:PT X a tA)(hb:PW X (.BoolOp .Or (b::yj) pos) tB'):PW X (.BoolOp .Or (a::b::yj) pos) (mK tA tB'):=by
 intro wh z8 s σ H Q I h;refine isTrue_or (zw (ha z8 s σ H _ I h) λc s1 ⟨H1,I1,q1⟩=>?_);cases c with
 |true=>exact⟨H1,I1,q1⟩
 |false=>exact hb wh z8 s1 σ H1 Q I1 q1
theorem cQ(ha:PT X a tA):PT X (.UnaryOp .Not a pos) (mJ tA):=by
 intro z8 s σ H Q I h;exact isTrue_not (ha z8 s σ H (λc H1=>Q (!c) H1) I h)
def m7(ta tb:TE):TE:=λσ H Q=>ta σ H λx H1=>∃c,x=.bl c/\if c=true then tb σ H1 Q else Q (.bl false) H1
def mL(ta tb:TE):TE:=λσ H Q=>ta σ H λx H1=>∃c,x=.bl c/\if c=true then Q (.bl true) H1 else tb σ H1 Q
theorem bZ{op}{t:TE}(h:PE X a t):PE X (.BoolOp op [a] pos) t:=λz8 s σ H Q I hw=>BoolOp_one (h z8 s σ H Q I hw)
theorem bJ(ha:PE X a ta)(hb:PE X (.BoolOp .And (b::yj) pos) tb):PE X (.BoolOp .And (a::b::yj) pos) (m7 ta tb):=by
 intro z8 s σ H Q I h;refine BoolOp_and (zw (ha z8 s σ H _ I h) λv s1 ⟨x,H1,I1,r1,q1⟩=>?_);obtain⟨c,rfl,q1⟩:=q1;cases r1;refine J5 ?_;cases c with
 |true=>exact hb z8 s1 σ H1 Q I1 q1
 |false=>exact⟨.bl false,H1,I1,rfl,q1⟩
theorem ba(ha:PE X a ta)(hb:PE X (.BoolOp .Or (b::yj) pos) tb):PE X (.BoolOp .Or (a::b::yj) pos) (mL ta tb):=by
 intro z8 s σ H Q I h;refine BoolOp_or (zw (ha z8 s σ H _ I h) λv s1 ⟨x,H1,I1,r1,q1⟩=>?_);obtain⟨c,rfl,q1⟩:=q1;cases r1;refine J5 ?_;cases c with
 |false=>exact hb z8 s1 σ H1 Q I1 q1
 |true=>exact⟨.bl true,H1,I1,rfl,q1⟩
def mC(t:TT)(ta tb:TE):TE:=λσ H Q=>t σ H λc H1=>if c=true then ta σ H1 Q else tb σ H1 Q
theorem bW{c:Expr}(hc:PT X c tA)(ha:PE X a ta)(hb:PE X b tb):PE X (.IfExp c a b pos) (mC tA ta tb):=by
 intro z8 s σ H Q I h;refine wpAny_IfExp (zw (hc z8 s σ H _ I h) λd s1 ⟨H1,I1,q1⟩=>?_);cases d with
 |true=>exact ha z8 s1 σ H1 Q I1 q1
 |false=>exact hb z8 s1 σ H1 Q I1 q1
end
def yG(K:W.Frag)(H:Hp)(a:Addr)(xs:List V):Prop:=
 Rd H a (.lst xs) \/
  ∃(o:Obj) (its:Array Value) (n:Nat),K.lookup a=some o/\o.cls=.type "list" /\ o.dict=none/\o.data=.seq its n/\its.size<=sizeLine/\zf xs its.toList
def xE(K:W.Frag)(H:Hp)(a:Addr)(xs:List V):Prop:=
 Rd H a (.tup xs) \/
  ∃(o:Obj) (its:Array Value) (n:Nat),K.lookup a=some o/\o.cls=.type "tuple" /\ o.data=.seq its n/\its.size<=sizeLine/\zf xs its.toList
def Kw:Value->Option V
 |.none=>some .non
 |.bool b=>some (.bl b)
 |.int i _=>some (.int i)
 |.str x _=>some (.str x)
 |.bytes b _=>some (.byt b)
 |.float b _=>some (.flt b)
 |.ref a=>some (.ref a)
 |.type n=>some (.ty n)
 |_=>none
theorem zr.abs{x:V}{u:Value}(r:zr x u):Kw u=some x:=by
 cases x with
 |non=>cases r; rfl
 |bl _=>cases r; rfl
 |int _=>obtain⟨t,rfl⟩:=r; rfl
 |str _=>obtain⟨t,rfl⟩:=r; rfl
 |byt _=>obtain⟨t,rfl⟩:=r; rfl
 |flt _=>obtain⟨t,rfl⟩:=r; rfl
 |ref _=>cases r; rfl
 |ty _=>cases r; rfl
theorem zr.inj{x y:V}{u:Value}(r:zr x u)(q:zr y u):x=y:=wz (r.abs.symm.trans q.abs)
theorem zf.inj:∀{xs ys:List V}{us:List Value},zf xs us->zf ys us->xs=ys
 |_,_,_,.nil,.nil=>rfl
 |_,_,_,.cons r t,.cons r' t'=>by rw[r.inj r',zf.inj t t']
section
variable{X:Cx}{z8:List (Addr×Obj)}{σ:St}{H:Hp}{s:Shared}{a:Addr}{xs ys:List V}
theorem yG.of{K:W.Frag}(h:H a=some (.lst xs)):yG K H a xs:=.inl (.inl h)
theorem xE.of{K:W.Frag}(h:H a=some (.tup xs)):xE K H a xs:=.inl (.inl h)
theorem Inv.list(I:Inv X z8 σ H s)(h:yG X.K H a xs):∃its:List Value,zf xs its/\PlainL s.heap a its.toArray/\xs.length<=sizeLine:=by
 rcases h with h|⟨o,its,n,hk,hc,hd,hs,hz,r⟩
 ·obtain⟨z,its,n,r,e⟩:=h.ok I.hok;exact⟨its,r,⟨_,n,e,rfl,rfl,rfl⟩,z⟩
 ·refine⟨its.toList,r,⟨o,n,I.kIn a o hk,hc,hd,by simpa using hs⟩,?_⟩;have e:=r.length;simp only[wy]at e;omega
theorem Inv.tuple(I:Inv X z8 σ H s)(h:xE X.K H a xs):∃its:List Value,zf xs its/\IsTup s.heap a its.toArray/\xs.length<=sizeLine:=by
 rcases h with h|⟨o,its,n,hk,hc,hs,hz,r⟩
 ·obtain⟨z,its,r,p⟩:=h.ok I.hok;exact⟨its,r,p,z⟩
 ·refine⟨its.toList,r,⟨o,I.kIn a o hk,hc,n,by simpa using hs⟩,?_⟩;have e:=r.length;simp only[wy]at e;omega
theorem Inv.list_inj(I:Inv X z8 σ H s)(h:yG X.K H a xs)(h':yG X.K H a ys):xs=ys:=by
 obtain⟨its,r,⟨o,n,e,_,_,d⟩,_⟩:=I.list h;obtain⟨its',r',⟨o',n',e',_,_,d'⟩,_⟩:=I.list h';rw[e]at e'; cases e';rw[d]at d';injection d' with d1 _
 have:its=its':=by simpa using congrArg Array.toList d1
 subst this;exact r.inj r'
theorem Inv.tuple_inj(I:Inv X z8 σ H s)(h:xE X.K H a xs)(h':xE X.K H a ys):xs=ys:=by
 obtain⟨its,r,⟨o,e,_,n,d⟩,_⟩:=I.tuple h;obtain⟨its',r',⟨o',e',_,n',d'⟩,_⟩:=I.tuple h';rw[e]at e'; cases e';rw[d]at d';injection d' with d1 _
 have:its=its':=by simpa using congrArg Array.toList d1
 subst this;exact r.inj r'
end
abbrev Cx.wish(X:Cx)(E:Value->Shared->Prop):Cx:={ X with xe:=E }
abbrev Cx.nox(X:Cx):Cx:=X.wish λ_ _=>False
theorem Cx.Ok.wish{X:Cx}(ok:X.Ok)(E:Value->Shared->Prop):(X.wish E).Ok:=
 ⟨ok.mod,ok.kind,ok.glob,ok.blt,ok.above,ok.inj,ok.has,ok.cab,ok.hd,ok.frames,ok.stk,ok.exf,ok.bs,ok.bsz,ok.noex,ok.exfs,ok.funs,ok.frf⟩
theorem Cx.Ok.unwish{X:Cx}{E:Value->Shared->Prop}(ok:(X.wish E).Ok):X.Ok:=
 ⟨ok.mod,ok.kind,ok.glob,ok.blt,ok.above,ok.inj,ok.has,ok.cab,ok.hd,ok.frames,ok.stk,ok.exf,ok.bs,ok.bsz,ok.noex,ok.exfs,ok.funs,ok.frf⟩
section
variable{X:Cx}{z8:List (Addr×Obj)}{σ:St}{H:Hp}{s:Shared}{E:Value->Shared->Prop}
theorem Inv.wish(I:Inv X z8 σ H s)(E:Value->Shared->Prop):Inv (X.wish E) z8 σ H s:=⟨I.ok.wish E,I.os,I.bare,I.base,I.loc,I.cell,I.free,I.freeC,I.pin,I.hok,I.len⟩
theorem Inv.unwish(I:Inv (X.wish E) z8 σ H s):Inv X z8 σ H s:=⟨I.ok.unwish,I.os,I.bare,I.base,I.loc,I.cell,I.free,I.freeC,I.pin,I.hok,I.len⟩
theorem SP.unwish{D:u8}{f:Flow}{s':Shared}(h:SP (X.wish E) z8 D f s'):SP X z8 D f s':=by
 cases f with
 |next=>obtain⟨σ',H',I,q⟩:=h; exact⟨σ',H',I.unwish,q⟩
 |brk=>obtain⟨σ',H',I,q⟩:=h; exact⟨σ',H',I.unwish,q⟩
 |cont=>obtain⟨σ',H',I,q⟩:=h; exact⟨σ',H',I.unwish,q⟩
 |ret u=>obtain⟨v,σ',H',I,r,q⟩:=h; exact⟨v,σ',H',I.unwish,r,q⟩
theorem vR.nox{st:List Stmt}{t:TS}(h:vR X.nox st t):vR X st t:=λz8 s σ H D I hw=>
 uh (h z8 s σ H D (I.wish _) hw) (λ_ _ q=>q.unwish) λ_ _ z=>False.elim z
end
section
variable{X:Cx}{st:Stmt}{yj:List Stmt}{t u:TS}{e:Expr}{te:TE}{pos:Pos}
def mH:TS:=λD σ H=>D.nx σ H
def mO(t u:TS):TS:=λD σ H=>t { D with nx:=u D } σ H
theorem cP:vR X [] mH:=λ_ _ σ H _ I h=>J0 ⟨σ,H,I,h⟩
theorem Tx(h1:PS X st t)(h2:vR X yj u):vR X (st::yj) (mO t u):=by
 intro z8 s σ H D I h;refine wpAny_execs_cons (zw (h1 z8 s σ H { D with nx:=u D } I h) λf s1 q=>?_);cases f with
 |next=>
  obtain⟨σ',H',I',q⟩:=q;exact h2 z8 s1 σ' H' D I' q
 |ret v=>exact q
 |brk=>exact q
 |cont=>exact q
theorem Ox(h1:PS X st t):vR X [st] t:=by
 intro z8 s σ H D I h;refine wpAny_execs_cons (zw (h1 z8 s σ H D I h) λf s1 q=>?_);cases f with
 |next=>exact J0 q
 |ret v=>exact q
 |brk=>exact q
 |cont=>exact q
theorem Inv.quiet{z8:List (Addr×Obj)}{σ:St}{H:Hp}{s:Shared}(I:Inv X z8 σ H s):interactive X.env=false:=by simp[interactive,I.ok.kind]
def Hc(te:TE):TS:=λD σ H=>te σ H λ_ H1=>D.nx σ H1
theorem cM(he:PE X e te)(hs:swapsWith e none pos.line X.env=pure false:=by rfl):PS X (.Expr e pos) (Hc te):=by
 intro z8 s σ H D I h;exact wpAny_Expr_any (zw (he z8 s σ H _ I h) λv s1 ⟨x,H1,I1,r1,q1⟩=>⟨σ,H1,I1,q1⟩) I.quiet hs
def mN(te:TE):TS:=λD σ H=>te σ H D.rt
theorem Tw(he:PE X e te):PS X (.Return (some e) pos) (mN te):=by
 intro z8 s σ H D I h;exact wpAny_Return_some (zw (he z8 s σ H _ I h) λv s1 ⟨x,H1,I1,r1,q1⟩=>⟨x,σ,H1,I1,r1,q1⟩)
def mD(c:TT)(t u:TS):TS:=λD σ H=>c σ H λb H1=>if b=true then t D σ H1 else u D σ H1
theorem cN{c:Expr}{a b:List Stmt}{tc:TT}(hc:PT X c tc)(ha:vR X a t)(hb:vR X b u):PS X (.If c a b pos) (mD tc t u):=by
 intro z8 s σ H D I h;refine wpAny_If (zw (hc z8 s σ H _ I h) λd s1 ⟨H1,I1,q1⟩=>?_);cases d with
 |true=>exact ha z8 s1 σ H1 D I1 q1
 |false=>exact hb z8 s1 σ H1 D I1 q1
end
abbrev TG:=V->St->Hp->(St->Hp->Prop)->Prop
abbrev qz:=List V->St->Hp->(St->Hp->Prop)->Prop
def PG(X:Cx)(target:Expr)(t:TG):Prop:=
 ∀(z8:List (Addr×Obj)) (s:Shared) (σ:St) (H:Hp) (v:V) (u:Value) (Q:St->Hp->Prop),Inv X z8 σ H s->zr v u->t v σ H Q->
  wpAny (model X.prog X.w) X.A (assign target X.env u) (λ_ s'=>∃σ' H',Inv X z8 σ' H' s'/\Q σ' H') X.xe s
def XC(X:Cx)(ts:List Expr)(t:qz):Prop:=
 ∀(z8:List (Addr×Obj)) (s:Shared) (σ:St) (H:Hp) (vs:List V) (us:List Value) (Q:St->Hp->Prop),Inv X z8 σ H s->zf vs us->t vs σ H Q->
  wpAny (model X.prog X.w) X.A (assignInOrder ((assignEach ts X.env).map (·.2)) us) (λ_ s'=>∃σ' H',Inv X z8 σ' H' s'/\Q σ' H') X.xe s
abbrev UE:=V->V->V->Hp->(Hp->Prop)->Prop
def JJ(X:Cx)(t:UE):Prop:=
 ∀(z8:List (Addr×Obj)) (s:Shared) (σ:St) (H:Hp) (o i v:V) (ov iv u:Value) (Q:Hp->Prop),Inv X z8 σ H s->zr o ov->zr i iv->zr v u->t o i v H Q->
  wpAny (model X.prog X.w) X.A (setItem ov iv u) (λ_ s'=>∃H',Inv X z8 σ H' s'/\Q H') X.xe s
abbrev XH:=V->V->Hp->VK->Prop
def JI(X:Cx)(op:Operator)(t:XH):Prop:=
 ∀(z8:List (Addr×Obj)) (s:Shared) (σ:St) (H:Hp) (x y:V) (v u:Value) (Q:VK),Inv X z8 σ H s->zr x v->zr y u->t x y H Q->
  wpAny (model X.prog X.w) X.A (inplaceOp op v u) (EP X z8 σ Q) X.xe s
section
variable{X:Cx}{pos:Pos}
def vL(i:Nat):TG:=λv σ H Q=>Q (σ.set i (some v)) H
theorem bh{i:Nat}{x:Str}(hN:X.N.Nodup)(hi:X.N[i]?=some x)(hx:uN X.env.scope x)(hf:X.fn x=true\/X.env.scope.names.lookup x=some .local:=by first|exact .inl rfl|exact .inr rfl|assumption):PG X (.Name x pos) (vL i):=by
 intro z8 s σ H v u Q I r h;exact wpAny_assign_Name (Li I hN hi hx r (λs' I'=>⟨_,H,I',h⟩) hf)
def Zh:qz:=λvs σ H Q=>vs=[]/\Q σ H
def pA(t:TG)(u:qz):qz:=λvs σ H Q=>∃v r,vs=v::r/\t v σ H λσ' H'=>u r σ' H' Q
theorem bn:XC X [] Zh:=by
 intro z8 s σ H vs us Q I r h;obtain⟨e,h⟩:=h;subst e;cases r;exact assignInOrder_nil ⟨σ,H,I,h⟩
theorem bm{e:Expr}{es:List Expr}{t:TG}{u:qz}(h1:PG X e t)(h2:XC X es u)
  (hs:(assignEach (e::es) X.env).map (·.2)=assign e X.env::(assignEach es X.env).map (·.2):=by rfl):XC X (e::es) (pA t u):=by
 intro z8 s σ H vs us Q I r h;obtain⟨v,vr,e1,h⟩:=h;subst e1;cases r with
 |cons r rr=>
  rw[hs];refine assignInOrder_cons (zw (h1 z8 s σ H _ _ _ I r h) λ_ s1 ⟨σ1,H1,I1,q1⟩=>?_);exact h2 z8 s1 σ1 H1 _ _ Q I1 rr q1
def Zi(K:W.Frag)(n:Nat)(t:qz):TG:=λv σ H Q=>∃a xs,v=.ref a/\xE K H a xs/\xs.length=n/\t xs σ H Q
theorem bj{es:List Expr}{k:Nat}{t:qz}{n:Nat}(hc:X.calm=true)(h:XC X es t)
  (hn:(assignEach es X.env).length=n:=by rfl)(hst:(assignEach es X.env).findIdx? (·.1)=none:=by rfl):PG X (.Tuple es k pos) (Zi X.K n t):=by
 intro z8 s σ H v u Q I r hw;obtain⟨a,xs,e1,hq,hl,hw⟩:=hw;subst e1;cases r;obtain⟨its,rv,ht,hz⟩:=I.tuple hq;refine assign_Tuple_tuple (I.ok.hd hc) ht (by simp[hn,<-hl,rv.length]) hst λh' hx=>?_
 have I1:Inv X z8 σ H { s with heap:=h' }:=I.kept (t':=s.toks) λb o e=>hx b o (xh (Heap.lt_size e)) e
 exact h z8 _ σ H xs _ Q I1 (by simpa using rv) hw
def DX(to ti:TE)(t:UE):TG:=λv σ H Q=>to σ H λo H1=>ti σ H1 λi H2=>t o i v H2 λH3=>Q σ H3
theorem bi{o i:Expr}{to ti:TE}{t:UE}(ho:PE X o to)(hi:PE X i ti)(hs:JJ X t)
  (ha:∀v,assign (.Subscript o i pos) X.env v=(do
   let ov <-holding [v] (eval o X.env)
   let iv <-holding [v,ov] (eval i X.env)
   standAt pos
   holding [v,ov,iv] (setItem ov iv v)
   release [v,ov,iv] []):=by intro _; rfl):PG X (.Subscript o i pos) (DX to ti t):=by
 intro z8 s σ H v u Q I r h;rw[ha];refine zE (t9 (zw (ho z8 s σ H _ I h) λov s1 ⟨x,H1,I1,r1,q1⟩=>?_));refine zE (t9 (zw (hi z8 s1 σ H1 _ I1 q1) λiv s2 ⟨y,H2,I2,r2,q2⟩=>?_));refine zE (B6 (zE (t9 (zw (hs z8 s2 σ H2 x y v ov iv u _ I2 r1 r2 r q2) λ_ s3 ⟨H3,I3,q3⟩=>?_))));exact wpAny_release ⟨σ,H3,I3,q3⟩
def QM(te:TE)(g:TG):TS:=λD σ H=>te σ H λx H1=>g x σ H1 D.nx
theorem cJ{tg e:Expr}{te:TE}{g:TG}(he:PE X e te)(hg:PG X tg g)(hs:swapsWithSole [tg] e pos.line X.env=pure false:=by rfl)(hw:swappedStores [tg] e X.env=pure none:=by rfl)
  (h1:(assignEach [tg] X.env).map (·.2)=[assign tg X.env]:=by rfl):PS X (.Assign [tg] e pos) (QM te g):=by
 intro z8 s σ H D I h;refine wpAny_Assign_stores (zw (he z8 s σ H _ I h) λv s1 ⟨x,H1,I1,r1,q1⟩=>?_) hs hw;rw[h1];exact zw (hg z8 s1 σ H1 x v _ I1 r1 q1) λ_ s2 q=>q
theorem G7{i:Nat}{x:Str}{e:Expr}{te:TE}{pos':Pos}(hN:X.N.Nodup)(hi:X.N[i]?=some x)(hx:uN X.env.scope x)(he:PE X e te)(hs:swapsWith e (some (.Name x pos')) pos.line X.env=pure false:=by rfl)(hf:X.fn x=true\/X.env.scope.names.lookup x=some .local:=by first|exact .inl rfl|exact .inr rfl|assumption) :
  PS X (.Assign [.Name x pos'] e pos) (QM te (vL i)):=by
 intro z8 s σ H D I h;refine wpAny_Assign_Name (zw (he z8 s σ H _ I h) λv s1 ⟨y,H1,I1,r1,q1⟩=>?_) hs;exact Li I1 hN hi hx r1 (λs2 I2=>⟨_,H1,I2,q1⟩) hf
def m8(i:Nat)(te:TE)(ti:XH):TS:=λD σ H=>∃x,σ[i]?=some (some x)/\te σ H λy H1=>ti x y H1 λz H2=>D.nx (σ.set i (some z)) H2
theorem cK{i:Nat}{x:Str}{e:Expr}{te:TE}{op:Operator}{ti:XH}{pos':Pos}(hN:X.N.Nodup)(hi:X.N[i]?=some x)(hx:uN X.env.scope x)(he:PE X e te)(ho:JI X op ti)(hf:X.fn x=true\/X.env.scope.names.lookup x=some .local:=by first|exact .inl rfl|exact .inr rfl|assumption) :
  PS X (.AugAssign (.Name x pos') op e pos) (m8 i te ti):=by
 intro z8 s σ H D I h;obtain⟨v,e1,h⟩:=h;obtain⟨m,hn,hl⟩:=I.loc;have vis:jk X.env.scope x:=by rcases hx with k|k; exact .inl k; exact .inr (.inl k)
 obtain⟨u,r,l⟩:=hl i x v hi e1 vis;refine wpAny_AugAssign_Name ?_
 have go:wpAny (model X.prog X.w) X.A (eval e X.env) (λw s₂=>wpAny (model X.prog X.w) X.A (inplaceOp op u w) (λr s₃=>wpAny (model X.prog X.w) X.A (storeName X.env x r) (λ_=>SP X z8 D .next) X.xe s₃) X.xe s₂) X.xe s:=by
  refine zw (he z8 s σ H _ I h) λw s1 ⟨y,H1,I1,r1,q1⟩=>?_
  refine zw (ho z8 s1 σ H1 v y u w _ I1 r r1 q1) λz s2 ⟨zv,H2,I2,r2,q2⟩=>?_
  exact Li I2 hN hi hx r2 (λs3 I3=>⟨_,H2,I3,q2⟩) hf
 rcases l with⟨hk,hm⟩|⟨hk,c,hc,hcell⟩
 ·exact wpAny_loadName_local I.ok.kind hk hn hm go
 ·rcases hk with hk|hk
  ·exact wpAny_loadName_cell I.ok.kind hk hc hcell go
  ·rcases hx with k|k
   ·have:X.env.scope.names.lookup x=some .free:=hk;rw[k]at this; cases this
   ·have:X.env.scope.names.lookup x=some .free:=hk;rw[k]at this; cases this
def Du(f:Int->Int->Int):XH:=λx y H Q=>∃i j,x=.int i/\y=.int j/\Q (.int (f i j)) H
theorem Dv:JI X .Add (Du λi j=>i+j):=by
 intro z8 s σ H x y v u Q I r1 r2 h;obtain⟨i,j,e1,e2,q⟩:=h;subst e1; subst e2;obtain⟨t,rfl⟩:=r1;obtain⟨t',rfl⟩:=r2;exact iadd_int ⟨.int _,H,I.tok _,⟨_,rfl⟩,q⟩
end
section
variable{X:Cx}{pos:Pos}
def mU(c:TT)(tb:TS):TS:=λD σ H=>∃W:Nat->St->Hp->Prop,(∃m,W m σ H)/\∀m σ H,W m σ H->
 c σ H λb H1=>if b=true then ∃N:St->Hp->Prop,(∀σ' H',N σ' H'->∃m',m'<m/\W m' σ' H')/\tb { D with nx:=N,ct:=N,bk:=D.nx } σ H1 else D.nx σ H1
theorem cO{c:Expr}{body:List Stmt}{tc:TT}{tb:TS}(hp:PassesOwn (model X.prog X.w) X.A X.env X.xe)(hc:PT X c tc)(hb:vR X body tb):PS X (.While c body [] pos) (mU tc tb):=by
 intro z8 s σ H D I h;obtain⟨W,⟨m0,w0⟩,turn⟩:=h;refine wpAny_While (codeAny_whileLoop (λn s'=>∃σ' H',Inv X z8 σ' H' s'/\W n σ' H') ?_ m0 ⟨σ,H,I,w0⟩);rintro n s1 ⟨σ1,H1,I1,w1⟩;refine ZK hp (zw (hc z8 s1 σ1 H1 _ I1 (turn n σ1 H1 w1)) λb s2 ⟨H2,I2,q2⟩=>?_);cases b with
 |true=>
  obtain⟨N,hN,q2⟩:=q2;rw[zK rfl];refine ZK hp (zw (hb z8 s2 σ1 H2 _ I2 q2) λf s3 q3=>?_);cases f with
  |next=>
   obtain⟨σ3,H3,I3,n3⟩:=q3;obtain⟨m',hm,w3⟩:=hN σ3 H3 n3;exact⟨m',hm,σ3,H3,I3,w3⟩
  |cont=>
   obtain⟨σ3,H3,I3,n3⟩:=q3;obtain⟨m',hm,w3⟩:=hN σ3 H3 n3;exact⟨m',hm,σ3,H3,I3,w3⟩
  |brk=>exact q3
  |ret v=>exact q3
 |false=>
  rw[zL yR];exact J0 ⟨σ1,H2,I2,q2⟩
end
structure It where
 go:Nat->Hp->Prop
 yld:Nat->Hp->V->Hp->Prop
 stop:Nat->Hp->Prop
def tw(X:Cx)(z8:List (Addr×Obj))(H:Hp)(b:Addr):Prop:=
 H b=none/\b≠X.env.locals/\b ∉ X.fs/\(b∈X.ex\/X.s₀.heap.objs.size<=b)/\(∀x c,X.env.cells.lookup x=some c->c≠b)/\∀p∈X.pn++z8,p.1≠b
theorem Inv.fpOk{X:Cx}{z8:List (Addr×Obj)}{σ:St}{H H':Hp}{s:Shared}{b:Addr}(I:Inv X z8 σ H s)(hb:s.heap.objs.size<=b)(hn:H' b=none):tw X z8 H' b:=by
 refine⟨hn,ud (wY I.lt hb),I.nofs hb,.inr (wX I.sz hb),λx c e z=>?_,λp hp z=>?_⟩
 ·obtain⟨v,q⟩:=I.cell x c e;exact absurd (wY q.lt (by rw[z]; exact hb)) (vi _)
 ·exact absurd (wY (Heap.lt_size (I.pin p hp).1) (by rw[z]; exact hb)) (vi _)
structure ji(P:Program)(w:World)(K:W.Frag)(tg:Expr)(J:It)(fp:List Addr)(it:Addr)(tn:Nat->Heap->Prop):Prop where
 mem:it∈fp
 obj:∀i h,tn i h->∀b∈fp,∃o,h.get? b=some o/\∀v,o.data≠.cell v
 keep:∀i h h',tn i h->(∀b∈fp,∀o,h.get? b=some o->h'.get? b=some o)->tn i h'
 item:∀(X:Cx),X.prog=P->X.w=w->X.K=K->X.calm=true->∀(i:Nat)(z8:List (Addr×Obj)) (s:Shared) (σ:St) (H:Hp) (E:Value->Shared->Prop),Inv X z8 σ H s->(∀b∈fp,tw X z8 H b)->tn i s.heap->J.go i H->
  wpAny (model P w) X.A (pyNext (.ref it)) (λr s1=>∃u,r=some u/\
   wpAny (model P w) X.A (letOwnedTupleGo tg (.ref it) u) (λ_ s2=>∃x H',Inv X z8 σ H' s2/\zr x u/\J.yld i H x H'/\tn (i+1) s2.heap/\∀b∈fp,H' b=none) E s1) E s
 done:∀(X:Cx),X.prog=P->X.w=w->X.K=K->X.calm=true->∀(i:Nat)(z8:List (Addr×Obj)) (s:Shared) (σ:St) (H:Hp) (E:Value->Shared->Prop),Inv X z8 σ H s->(∀b∈fp,tw X z8 H b)->tn i s.heap->J.stop i H->
  wpAny (model P w) X.A (pyNext (.ref it)) (λr s1=>r=none/\Inv X z8 σ H s1) E s
 self:∀(A:Around)(i:Nat)(s:Shared)(Q:Value->Shared->Prop)(E:Value->Shared->Prop),tn i s.heap->Q (.ref it) s->wpAny (model P w) A (pyIter (.ref it)) Q E s
abbrev TI:=St->Hp->(It->Hp->Prop)->Prop
def JH(X:Cx)(z8:List (Addr×Obj))(σ:St)(tg:Expr)(R:It->Hp->Prop)(itv:Value)(s2:Shared):Prop:=
 ∃(it:Addr) (fp:List Addr) (tn:Nat->Heap->Prop) (J:It) (H':Hp),itv=.ref it/\Inv X z8 σ H' s2/\ji X.prog X.w X.K tg J fp it tn/\tn 0 s2.heap/\(∀b∈fp,tw X z8 H' b)/\R J H'
def PI(X:Cx)(tg iter:Expr)(wi:TI):Prop:=
 ∀(z8:List (Addr×Obj)) (s:Shared) (σ:St) (H:Hp) (R:It->Hp->Prop),Inv X z8 σ H s->wi σ H R->
  wpAny (model X.prog X.w) X.A (eval iter X.env) (λv s1=>wpAny (model X.prog X.w) X.A (pyIter v) (JH X z8 σ tg R) X.xe s1) X.xe s
theorem T7{M:Model}{A:Around}{E:Value→Shared→Prop}{s:Shared}{tg:Expr}{it:Addr}{u:Value}{o:Obj}{n:String}{vs:Array Value}{Q:Unit→Shared→Prop}(ho:s.heap.get? it=some o)(hc:o.cls=.type n)(hd:o.data=.fields vs)
    (hn:["enumerate", "zip", "dict_itemiterator", "dict_reverseitemiterator", "odict_iterator", "itertools.zip_longest", "itertools.pairwise"].contains n=false)(hQ:Q () s):wpAny M A (letOwnedTupleGo tg (.ref it) u) Q E s:=by
  unfold letOwnedTupleGo
  cases tg<;>first
    |exact zX hQ
    | (cases u<;>first
        |exact zX hQ
        | (refine zE (wpAny_load ho ?_)
           rw[hc,hd];show wpAny M A (if(["enumerate", "zip", "dict_itemiterator", "dict_reverseitemiterator", "odict_iterator", "itertools.zip_longest", "itertools.pairwise"].contains n&&vs[0]?==some (rawInt _))=true then _ else _) Q E s;rw[zL (by intro h; rw[hn,VL]at h; cases h)];exact zX hQ))
def JB(K:W.Frag)(a:Addr):It:=
 ⟨λi H=>∃xs x,yG K H a xs/\xs[i]?=some x,λi H x H'=>H'=H/\∀xs,yG K H a xs->xs[i]?=some x,λi H=>∃xs,yG K H a xs/\xs.length<=i⟩
def JC(K:W.Frag)(a:Addr):It:=
 ⟨λi H=>∃xs x,xE K H a xs/\xs[i]?=some x,λi H x H'=>H'=H/\∀xs,xE K H a xs->xs[i]?=some x,λi H=>∃xs,xE K H a xs/\xs.length<=i⟩
def U7(lo:Int)(n:Nat):It:=⟨λi _=>i<n,λi H x H'=>H'=H/\x=.int (lo+i),λi _=>n<=i⟩
theorem nS{P:Program}{w:World}{K:W.Frag}{tg:Expr}(a it:Addr):ji P w K tg (JB K a) [it] it (λi h=>h.IsListIter it a i) where
 mem:=by simp
 obj:=λi h st b hb=>by
  have e:b=it:=by simpa using hb
  subst e;obtain⟨o,e,c,d⟩:=st;exact⟨o,e,λv z=>by rw[d]at z; cases z⟩
 keep:=λi h h' st k=>st.at λo e=>k it (by simp) o e
 item:=by
  intro X hP hw hK hc i z8 s σ H E I hf st hg;subst hP hw hK;obtain⟨xs,x,hq,hx⟩:=hg;obtain⟨its,rv,p,hz⟩:=I.list hq;obtain⟨u,hu,ru⟩:=rv.get hx;obtain⟨f0,f1,f2,f3,f4,f5⟩:=hf it (by simp);refine J3 st p.isList (x:=u) (by simpa using hu) λh' st' sb=>?_
  have I1:Inv X z8 σ H { s with heap:=h' }:=I.turned (t':=s.toks) (λb o hb e=>(sb.2 b hb).trans e) f0 f1 f3 f4 f5;obtain⟨o,e,c,d⟩:=id st';exact⟨u,rfl,T7 (s:={ s with heap:=h' }) e c d (by decide) ⟨x,H,I1,ru,⟨rfl,λys hy=>by rw[I.list_inj hy hq]; exact hx⟩,st',λb hb=>(hf b hb).1⟩⟩
 done:=by
  intro X hP hw hK hc i z8 s σ H E I hf st hg;subst hP hw hK;obtain⟨xs,hq,hx⟩:=hg;obtain⟨its,rv,p,hz⟩:=I.list hq;obtain⟨f0,f1,f2,f3,f4,f5⟩:=hf it (by simp);have hl:=rv.length;exact J2 (I.ok.hd hc) st p.isList (by simp; omega) λh' eb=>⟨rfl,I.turned (t':=s.toks) (λb o hb e=>eb b o hb e) f0 f1 f3 f4 f5⟩
 self:=λ_ _ _ _ _ st h=>wpAny_pyIter_listiter st h
theorem nV{P:Program}{w:World}{K:W.Frag}{tg:Expr}(a it:Addr):ji P w K tg (JC K a) [it] it (λi h=>h.IsTupleIter it a i) where
 mem:=by simp
 obj:=λi h st b hb=>by
  have e:b=it:=by simpa using hb
  subst e;obtain⟨o,e,c,d⟩:=st;exact⟨o,e,λv z=>by rw[d]at z; cases z⟩
 keep:=λi h h' st k=>st.at λo e=>k it (by simp) o e
 item:=by
  intro X hP hw hK hc i z8 s σ H E I hf st hg;subst hP hw hK;obtain⟨xs,x,hq,hx⟩:=hg;obtain⟨its,rv,p,hz⟩:=I.tuple hq;obtain⟨u,hu,ru⟩:=rv.get hx;obtain⟨f0,f1,f2,f3,f4,f5⟩:=hf it (by simp);refine wpAny_pyNext_tuple_item st (show s.heap.IsTuple a its.toArray from p) (x:=u) (by simpa using hu) λh' st' sb=>?_
  have I1:Inv X z8 σ H { s with heap:=h' }:=I.turned (t':=s.toks) (λb o hb e=>(sb.2 b hb).trans e) f0 f1 f3 f4 f5;obtain⟨o,e,c,d⟩:=id st';exact⟨u,rfl,T7 (s:={ s with heap:=h' }) e c d (by decide) ⟨x,H,I1,ru,⟨rfl,λys hy=>by rw[I.tuple_inj hy hq]; exact hx⟩,st',λb hb=>(hf b hb).1⟩⟩
 done:=by
  intro X hP hw hK hc i z8 s σ H E I hf st hg;subst hP hw hK;obtain⟨xs,hq,hx⟩:=hg;obtain⟨its,rv,p,hz⟩:=I.tuple hq;obtain⟨f0,f1,f2,f3,f4,f5⟩:=hf it (by simp);have hl:=rv.length;exact wpAny_pyNext_tuple_end (I.ok.hd hc) st (show s.heap.IsTuple a its.toArray from p) (by simp; omega) λh' eb=>⟨rfl,I.turned (t':=s.toks) (λb o hb e=>eb b o hb e) f0 f1 f3 f4 f5⟩
 self:=λ_ _ _ _ _ st h=>wpAny_pyIter_tupleiter st h
theorem nT{P:Program}{w:World}{K:PySem.W.Frag}{tg:Expr}(it:Addr)(lo:Int)(n:Nat):ji P w K tg (U7 lo n) [it] it (λi h=>IsRangeIter h it (lo+(i:Nat)*1) ((n:Int)-(i:Nat)) 1) where
 mem:=by simp
 obj:=λi h st b hb=>by
  have e:b=it:=by simpa using hb
  subst e
  exact⟨_,st,λv z=>by
   have z':Data.fields _=Data.cell v:=z;cases z'⟩
 keep:=λi h h' st k=>k it (by simp) _ st
 item:=by
  intro X hP hw hK hc i z8 s σ H E I hf st hg;subst hP hw hK;obtain⟨f0,f1,f2,f3,f4,f5⟩:=hf it (by simp);have W:=Walks.range (prog:=X.prog) (w:=X.w) (I.ok.hd hc) it lo 1 n;refine W.item i s _ _ hg st λv h' tk hv st' kk=>?_
  obtain⟨t,rfl⟩:=hv;have I1:Inv X z8 σ H { s with heap:=h',toks:=tk }:=I.turned (λb o hb e=>kk b o (by simpa using hb) e) f0 f1 f3 f4 f5;refine⟨_,rfl,T7 (s:={ s with heap:=h',toks:=tk }) (n := "range_iterator") st' rfl rfl (by decide) ⟨.int (lo+i),H,I1,⟨t,?_⟩,⟨rfl,rfl⟩,st',λb hb=>(hf b hb).1⟩⟩;rw[Int.mul_one]
 done:=by
  intro X hP hw hK hc i z8 s σ H E I hf st hg;subst hP hw hK;obtain⟨f0,f1,f2,f3,f4,f5⟩:=hf it (by simp);exact wpAny_pyNext_range_end (I.ok.hd hc) st (by have:n<=i:=hg; omega) λh' eb=>⟨rfl,I.turned (t':=s.toks) (λb o hb e=>eb b o hb e) f0 f1 f3 f4 f5⟩
 self:=λ_ _ _ _ _ st h=>wpAny_pyIter_rangeiter st h
section
variable{X:Cx}{tg:Expr}
def RT(K:W.Frag)(tl:TE):TI:=λσ H R=>tl σ H λx H1=>∃a,x=.ref a/\(∃xs,yG K H1 a xs)/\R (JB K a) H1
def RW(K:W.Frag)(tl:TE):TI:=λσ H R=>tl σ H λx H1=>∃a,x=.ref a/\(∃xs,xE K H1 a xs)/\R (JC K a) H1
theorem bq{l:Expr}{tl:TE}(hl:PE X l tl):PI X tg l (RT X.K tl):=by
 intro z8 s σ H R I h;refine zw (hl z8 s σ H _ I h) λv s1 ⟨x,H1,I1,r1,q1⟩=>?_
 obtain⟨a,e,⟨xs,hq⟩,q⟩:=q1;subst e;cases r1;obtain⟨its,rv,p,hz⟩:=I1.list hq;refine X3 p.isList ?_;refine⟨s1.heap.objs.size,[s1.heap.objs.size],_,_,H1,rfl,I1.kept (t':=s1.toks) λb o e=>Heap.get?_push_of_some _ e,nS a _,⟨_,Heap.get?_push_size _ rfl,rfl,rfl⟩,λb hb=>?_,q⟩;have e:b=s1.heap.objs.size:=by simpa using hb
 subst e;exact I1.fpOk (zt _) (I1.hok.fresh (zt _))
theorem Es{l:Expr}{tl:TE}(hl:PE X l tl):PI X tg l (RW X.K tl):=by
 intro z8 s σ H R I h;refine zw (hl z8 s σ H _ I h) λv s1 ⟨x,H1,I1,r1,q1⟩=>?_
 obtain⟨a,e,⟨xs,hq⟩,q⟩:=q1;subst e;cases r1;obtain⟨its,rv,p,hz⟩:=I1.tuple hq;refine wpAny_pyIter_tuple (show s1.heap.IsTuple a its.toArray from p) ?_;refine⟨s1.heap.objs.size,[s1.heap.objs.size],_,_,H1,rfl,I1.kept (t':=s1.toks) λb o e=>Heap.get?_push_of_some _ e,nV a _,⟨_,Heap.get?_push_size _ rfl,rfl,rfl⟩,λb hb=>?_,q⟩;have e:b=s1.heap.objs.size:=by simpa using hb
 subst e;exact I1.fpOk (zt _) (I1.hok.fresh (zt _))
theorem dF{z8:List (Addr×Obj)}{σ:St}{H:Hp}{s:Shared}{R:It->Hp->Prop}{E:Value->Shared->Prop}{lo hi:Int}{t u v:Tok}{tk:Nat}(I:Inv X z8 σ H s)(h1 : -(2 ^ 62)<=lo)(h2:lo<2 ^ 62)(h3 : -(2 ^ 62)<=hi)(h4:hi<2 ^ 62)
  (q:R (U7 lo (hi-lo).toNat) H):wpAny (model X.prog X.w) X.A (pyIter (.ref s.heap.objs.size)) (JH X z8 σ tg R) E { s with heap:=s.heap.push { cls:=.type "range",data:=.fields #[.int lo t,.int hi u,.int 1 v] },toks:=tk }:=by
 refine wpAny_pyIter_range (IsRange.new ..) (small_one h1 h2 h3 h4) ?_;have I1:Inv X z8 σ H { s with heap:=s.heap.push { cls:=.type "range",data:=.fields #[.int lo t,.int hi u,.int 1 v] },toks:=tk }:=I.kept λb o e=>Heap.get?_push_of_some _ e
 refine⟨(s.heap.push { cls:=.type "range",data:=.fields #[.int lo t,.int hi u,.int 1 v] }).objs.size,[(s.heap.push { cls:=.type "range",data:=.fields #[.int lo t,.int hi u,.int 1 v] }).objs.size],_,_,H,rfl,
  I1.kept (t':=tk) λb o e=>Heap.get?_push_of_some _ e,nT _ lo (hi-lo).toNat,?_,λb hb=>?_,q⟩
 ·have e1:lo+((0:Nat):Int)*1=lo:=by simp
  have e2:(((hi-lo).toNat:Nat):Int)-((0:Nat):Int)=Builtin.Range.rangeSize lo hi 1:=by rw[rangeSize_one]; split<;>omega
  show IsRangeIter _ _ (lo+((0:Nat):Int)*1) ((((hi-lo).toNat:Nat):Int)-((0:Nat):Int)) 1;rw[e1,e2];exact Heap.get?_push_size _ rfl
 ·have e:b=(s.heap.push { cls:=.type "range",data:=.fields #[.int lo t,.int hi u,.int 1 v] }).objs.size:=by simpa using hb
  subst e;exact I1.fpOk (zt _) (I1.hok.fresh (zt _))
def RU(ta:TA):TI:=λσ H R=>ta σ H λvs H1=>∃j:Int,vs=[.int j] /\ -(2 ^ 62)<=j/\j<2 ^ 62/\R (U7 0 j.toNat) H1
theorem br{a:Expr}{ta:TA}{p pos:Pos}(hg:Gl X "range")(hm:X.mg "range" = none)(ha:PA X [a] ta)(hs:starEach [a] X.env=[(false,eval a X.env)]:=by rfl):PI X tg (.Call (.Name "range" p) [a] [] pos) (RU ta):=by
 intro z8 s σ H R I h;refine Call_ (Y1 I hg hm boot_range (Qw (zw (ha pos z8 s σ H _ I h) λus s1 ⟨vs,H1,I1,r1,q1⟩=>?_) hs rfl));obtain⟨j,e,q1,q2,q⟩:=q1;subst e;cases r1 with
 |cons r rr=>
  cases rr;obtain⟨t,rfl⟩:=r;exact call_range_1 (dF I1 (by omega) (by omega) q1 q2 (by simpa using q))
def mB(wi:TI)(g:TG)(tb:TS):TS:=λD σ H=>wi σ H λJ H1=>∃W:Nat->Nat->St->Hp->Prop,(∃m,W 0 m σ H1)/\∀i m σ H,W i m σ H->
 (J.stop i H/\D.nx σ H)\/(J.go i H/\∃N:St->Hp->Prop,(∀σ' H',N σ' H'->∃m',m'<m/\W (i+1) m' σ' H')/\∀x H',J.yld i H x H'->g x σ H' λσ2 H2=>tb { D with nx:=N,ct:=N,bk:=D.nx } σ2 H2)
def W6(fp:List Addr)(h:Heap):List (Addr×Obj):=fp.filterMap λb=>(h.get? b).map λo=>(b,o)
theorem Tf{fp:List Addr}{h:Heap}{b:Addr}{o:Obj}(hb:b∈fp)(e:h.get? b=some o):(b,o)∈W6 fp h:=Qr.mpr ⟨b,hb,by rw[e]; rfl⟩
theorem Aj{fp:List Addr}{h:Heap}{p:Addr×Obj}(hp:p∈W6 fp h):p.1∈fp/\h.get? p.1=some p.2:=by
 obtain⟨b,hb,e⟩:=Qr.mp hp;cases q:h.get? b with
 |none=>rw[q]at e; cases e
 |some o=>
  rw[q]at e;have e':(b,o)=p:=wz e;subst e';exact⟨hb,q⟩
theorem Inv.pinned{z8:List (Addr×Obj)}{σ:St}{H:Hp}{s:Shared}{fp:List Addr}(I:Inv X z8 σ H s)(hf:∀b∈fp,tw X z8 H b)(ho:∀b∈fp,∃o,s.heap.get? b=some o/\∀v,o.data≠.cell v):Inv X (z8++W6 fp s.heap) σ H s:=
 I.pins_of λp hp=>(w4.mp hp).elim (λz=>I.pin p (vJ _ z)) λz=>by
  obtain⟨hb,e⟩:=Aj z;obtain⟨f0,f1,f2,_⟩:=hf p.1 hb;obtain⟨o,e',d⟩:=ho p.1 hb;rw[e]at e'; cases e';exact⟨e,f0,f1,f2,d⟩
theorem Inv.unpinned{z8 pl:List (Addr×Obj)}{σ:St}{H:Hp}{s:Shared}(I:Inv X (z8++pl) σ H s):Inv X z8 σ H s:=I.pins_of λp hp=>I.pin p (vJ _ (pQ _ hp))
theorem Ow{iter:Expr}{body:List Stmt}{wi:TI}{g:TG}{tb:TS}{pos:Pos}(hp:PassesOwn (model X.prog X.w) X.A X.env X.xe)(hc:X.calm=true)(hi:PI X tg iter wi)(hg:PG X tg g)(hb:vR X body tb)
  (hs:∀x,foldedSetIterable iter X.env x=pure x:=by intro _; rfl):PS X (.For tg iter body [] pos) (mB wi g tb):=by
 intro z8 s σ H D I h;refine wpAny_For (zw (hi z8 s σ H _ I h) λv s1 h1=>zw h1 λitv s2 h2=>?_) hs;obtain⟨it,fp,tn,J,H2,e,I2,T,st2,f2,W,⟨m0,w0⟩,turn⟩:=h2;subst e;have stat:∀{H':Hp},(∀b∈fp,H' b=none)->∀b∈fp,tw X z8 H' b:=λhn b hb=>⟨hn b hb,(f2 b hb).2⟩
 refine codeAny_forLoop_any (λn s'=>∃i σ' H',Inv X z8 σ' H' s'/\tn i s'.heap/\(∀b∈fp,H' b=none)/\W i n σ' H') ?_ m0 ⟨0,σ,H2,I2,st2,λb hb=>(f2 b hb).1,w0⟩;rintro n s3 ⟨i,σ3,H3,I3,st3,fr3,w3⟩;rcases turn i n σ3 H3 w3 with⟨stop,qn⟩|⟨go,N,hN,step⟩
 ·refine ZK hp (zw (T.done X rfl rfl rfl hc i z8 s3 σ3 H3 X.xe I3 (stat fr3) st3 stop) λr s4 ⟨hr,I4⟩=>?_);subst hr;exact J0 ⟨σ3,H3,I4,qn⟩
 ·refine ZK hp (zw (T.item X rfl rfl rfl hc i z8 s3 σ3 H3 X.xe I3 (stat fr3) st3 go) λr s4 ⟨u,hr,h4⟩=>?_);subst hr;refine ZK hp (zw h4 λ_ s5 ⟨x,H5,I5,r5,y5,st5,fr5⟩=>?_);have I5':=I5.pinned (stat fr5) (T.obj _ _ st5);refine ZK hp (zw (hg _ s5 σ3 H5 x u _ I5' r5 (step x H5 y5)) λ_ s6 ⟨σ6,H6,I6,q6⟩=>?_);refine ZK hp (zw (hb _ s6 σ6 H6 _ I6 q6) λf s7 q7=>?_)
  have again:∀{σ7:St}{H7:Hp},Inv X (z8++W6 fp s5.heap) σ7 H7 s7->N σ7 H7->∃m,m<n/\∃i σ' H',Inv X z8 σ' H' s7/\tn i s7.heap/\(∀b∈fp,H' b=none)/\W i m σ' H':=λ{σ7 H7} I7 n7=>by
   obtain⟨m',hm,w7⟩:=hN σ7 H7 n7;refine⟨m',hm,i+1,σ7,H7,I7.unpinned,T.keep _ _ _ st5 λb hb o e=>(I7.pin (b,o) (vJ _ (vJ _ (Tf hb e)))).1,λb hb=>?_,w7⟩;obtain⟨o,e,d⟩:=T.obj _ _ st5 b hb;exact(I7.pin (b,o) (vJ _ (vJ _ (Tf hb e)))).2.1
  cases f with
  |next=>obtain⟨σ7,H7,I7,n7⟩:=q7; exact again I7 n7
  |cont=>obtain⟨σ7,H7,I7,n7⟩:=q7; exact again I7 n7
  |brk=>obtain⟨σ7,H7,I7,q7⟩:=q7; exact⟨σ7,H7,I7.unpinned,q7⟩
  |ret v=>obtain⟨x7,σ7,H7,I7,r7,q7⟩:=q7; exact⟨x7,σ7,H7,I7.unpinned,r7,q7⟩
end
abbrev R2:=V->V->Hp->VK->Prop
def yT(X:Cx)(f:Value->Value->Sem Value)(r:R2):Prop:=
 ∀(z8:List (Addr×Obj)) (s:Shared) (σ:St) (H:Hp) (x y:V) (v u:Value) (Q:VK),Inv X z8 σ H s->zr x v->zr y u->r x y H Q->
  wpAny (model X.prog X.w) X.A (f v u) (EP X z8 σ Q) X.xe s
def XJ(X:Cx)(f:Value->Sem Value)(r:V->Hp->VK->Prop):Prop:=
 ∀(z8:List (Addr×Obj)) (s:Shared) (σ:St) (H:Hp) (x:V) (v:Value) (Q:VK),Inv X z8 σ H s->zr x v->r x H Q->
  wpAny (model X.prog X.w) X.A (f v) (EP X z8 σ Q) X.xe s
def wr(X:Cx)(f:Value)(r:List V->Hp->VK->Prop):Prop:=
 ∀(z8:List (Addr×Obj)) (s:Shared) (σ:St) (H:Hp) (xs:List V) (us:List Value) (Q:VK),Inv X z8 σ H s->zf xs us->r xs H Q->
  wpAny (model X.prog X.w) X.A (call f us) (EP X z8 σ Q) X.xe s
def QP(r:R2)(ta tb:TE):TE:=λσ H Q=>ta σ H λx H1=>tb σ H1 λy H2=>r x y H2 Q
def mT(r:V->Hp->VK->Prop)(ta:TE):TE:=λσ H Q=>ta σ H λx H1=>r x H1 Q
def rI(C:Int->Int->Prop)(g:Int->Int->V):R2:=λx y H Q=>∃i j,x=.int i/\y=.int j/\C i j/\Q (g i j) H
def tU(g:Int->Int->V):R2:=λx y H Q=>∃i j,x=.int i/\y=.int j/\Q (g i j) H
def rU(g:Int->V):V->Hp->VK->Prop:=λx H Q=>∃i,x=.int i/\Q (g i) H
section
variable{X:Cx}{a b c:Expr}{ta tb tc:TE}{pos:Pos}
theorem JV(ha:PE X a ta)(hb:PE X b tb){z8:List (Addr×Obj)}{s:Shared}{σ:St}{H:Hp}{R:V->V->Hp->Prop}(I:Inv X z8 σ H s)
  (h:ta σ H λx H1=>tb σ H1 λy H2=>R x y H2){Q:Value->Shared->Prop}{f:Value->Value->Sem Value}
  (hf:∀v u s2 x y H2,Inv X z8 σ H2 s2->zr x v->zr y u->R x y H2->wpAny (model X.prog X.w) X.A (f v u) Q X.xe s2) :
  wpAny (model X.prog X.w) X.A (eval a X.env) (λv s₁=>wpAny (model X.prog X.w) X.A (eval b X.env) (λu s₂=>wpAny (model X.prog X.w) X.A (f v u) Q X.xe s₂) X.xe s₁) X.xe s:=by
 refine zw (ha z8 s σ H _ I h) λv s1 ⟨x,H1,I1,r1,q1⟩=>?_
 refine zw (hb z8 s1 σ H1 _ I1 q1) λu s2 ⟨y,H2,I2,r2,q2⟩=>?_
 exact hf v u s2 x y H2 I2 r1 r2 q2
theorem On{op:Operator}{r:R2}(ho:yT X (binaryOp op) r)(ha:PE X a ta)(hb:PE X b tb):PE X (.BinOp a op b pos) (QP r ta tb):=by
 intro z8 s σ H Q I h;exact wpAny_BinOp (JV ha hb I h λv u s2 x y H2 I2 rx ry q=>ho z8 s2 σ H2 x y v u Q I2 rx ry q)
theorem bg{op:UnaryOp}{r:V->Hp->VK->Prop}(ho:XJ X (unaryOp op) r)(ha:PE X a ta):PE X (.UnaryOp op a pos) (mT r ta):=by
 intro z8 s σ H Q I h;exact UnaryOp_ (zw (ha z8 s σ H _ I h) λv s1 ⟨x,H1,I1,r1,q1⟩=>ho z8 s1 σ H1 x v Q I1 r1 q1)
theorem W2{f:Value->Value->Sem Value}{C:Int->Int->Prop}{g:Int->Int->Int}
  (rule:∀(i j:Int)(t u:Tok)(s:Shared)(Q:Value->Shared->Prop)(E:Value->Shared->Prop),C i j->Q (.int (g i j) s.toks) { s with toks:=s.toks+1 }->wpAny (model X.prog X.w) X.A (f (.int i t) (.int j u)) Q E s) :
  yT X f (rI C λi j=>.int (g i j)):=by
 intro z8 s σ H x y v u Q I rx ry h;obtain⟨i,j,rfl,rfl,hc,q⟩:=h;obtain⟨t,rfl⟩:=rx;obtain⟨t',rfl⟩:=ry;exact rule i j t t' s _ _ hc ⟨.int (g i j),H,I.tok _,⟨_,rfl⟩,q⟩
theorem To{f:Value->Value->Sem Value}{g:Int->Int->Int}
  (rule:∀(i j:Int)(t u:Tok)(s:Shared)(Q:Value->Shared->Prop)(E:Value->Shared->Prop),Q (.int (g i j) s.toks) { s with toks:=s.toks+1 }->wpAny (model X.prog X.w) X.A (f (.int i t) (.int j u)) Q E s) :
  yT X f (tU λi j=>.int (g i j)):=by
 intro z8 s σ H x y v u Q I rx ry h;obtain⟨i,j,rfl,rfl,q⟩:=h;obtain⟨t,rfl⟩:=rx;obtain⟨t',rfl⟩:=ry;exact rule i j t t' s _ _ ⟨.int (g i j),H,I.tok _,⟨_,rfl⟩,q⟩
theorem Og{f:Value->Value->Sem Value}{g:Int->Int->Bool}
  (rule:∀(i j:Int)(t u:Tok)(s:Shared)(Q:Value->Shared->Prop)(E:Value->Shared->Prop),Q (.bool (g i j)) s->wpAny (model X.prog X.w) X.A (f (.int i t) (.int j u)) Q E s) :
  yT X f (tU λi j=>.bl (g i j)):=by
 intro z8 s σ H x y v u Q I rx ry h;obtain⟨i,j,rfl,rfl,q⟩:=h;obtain⟨t,rfl⟩:=rx;obtain⟨t',rfl⟩:=ry;exact rule i j t t' s _ _ ⟨.bl (g i j),H,I,rfl,q⟩
def J7(i j:Int):Prop:=0<=j/\j<=1000000/\i.natAbs<2 ^ 64
def X8(i j:Int):Prop:=(-(2 ^ 64)<i/\i<2 ^ 64)\/(-(2 ^ 64)<j/\j<2 ^ 64)
theorem X8.ok{i j:Int}(h:X8 i j):IntMulOk i j:=by
 rcases h with⟨h1,h2⟩|⟨h1,h2⟩
 ·exact .of_left (intBits_le_64 h1 h2)
 ·exact .of_right (intBits_le_64 h1 h2)
theorem ak:yT X (binaryOp .Add) (tU λi j=>.int (i+j)):=To λ_ _ _ _ _ _ _ q=>add_int q
theorem Eh:yT X (binaryOp .Sub) (tU λi j=>.int (i-j)):=To λ_ _ _ _ _ _ _ q=>sub_int q
theorem Tp:yT X (binaryOp .Mult) (rI X8 λi j=>.int (i*j)):=W2 λ_ _ _ _ _ _ _ hc q=>mul_int q hc.ok
theorem xj:yT X (binaryOp .Mod) (rI (λ_ j=>0<j) λi j=>.int (i%j)):=W2 λi j _ _ _ _ _ hc q=>by
 have h1:(0:Int)<j:=hc;exact mod_int' (by omega) (by rw[Int.fmod_eq_emod_of_nonneg i (by omega)]; exact q)
theorem W3:yT X (binaryOp .LShift) (rI J7 λi j=>.int (i*2 ^ j.toNat)):=W2 λ_ _ _ _ _ _ _ hc q=>lshift_int_small hc.1 hc.2.1 hc.2.2 q
theorem Ee:yT X (binaryOp .BitAnd) (tU λi j=>.int (Builtin.bitAnd i j)):=To λ_ _ _ _ _ _ _ q=>and_int q
theorem jM:yT X (binaryOp .BitOr) (tU λi j=>.int (Builtin.bitOr i j)):=To λ_ _ _ _ _ _ _ q=>or_int q
theorem Hk{f:Value->Sem Value}{g:Int->Int}
  (rule:∀(i:Int)(t:Tok)(s:Shared)(Q:Value->Shared->Prop)(E:Value->Shared->Prop),Q (.int (g i) s.toks) { s with toks:=s.toks+1 }->wpAny (model X.prog X.w) X.A (f (.int i t)) Q E s) :
  XJ X f (rU λi=>.int (g i)):=by
 intro z8 s σ H x v Q I rx h;obtain⟨i,rfl,q⟩:=h;obtain⟨t,rfl⟩:=rx;exact rule i t s _ _ ⟨.int (g i),H,I.tok _,⟨_,rfl⟩,q⟩
theorem Z1:XJ X (unaryOp .USub) (rU λi=>.int (-i)):=Hk λ_ _ _ _ _ q=>neg_int q
theorem rY:XJ X (unaryOp .Invert) (rU λi=>.int (Builtin.bitNot i)):=Hk λ_ _ _ _ _ q=>invert_int q
theorem am:yT X (binaryOp .Add) (λx y H Q=>∃i k,x=.int i/\y=.bl k/\Q (.int (i+b2i k)) H):=by
 intro z8 s σ H x y v u Q I rx ry h;obtain⟨i,k,rfl,rfl,q⟩:=h;obtain⟨t,rfl⟩:=rx;cases ry;exact add_int_bool ⟨.int (i+b2i k),H,I.tok _,⟨_,rfl⟩,q⟩
end
def LT:V->V->Bool
 |.non,.non=>true|.non,.int _=>true|.int _,.non=>true|.non,.bl _=>true|.bl _,.non=>true|.non,.str _=>true|.str _,.non=>true
 |.int _,.int _=>true|.bl _,.bl _=>true|.str _,.str _=>true|.byt _,.byt _=>true
 |.int _,.str _=>true|.str _,.int _=>true|.bl _,.str _=>true|.str _,.bl _=>true
 |_,_=>false
def cr:R2:=λx y H Q=>LT x y=true/\Q (.bl (decide (x=y))) H
def cy:R2:=λx y H Q=>LT x y=true/\Q (.bl (!decide (x=y))) H
theorem Jf{i j:Int}:decide (V.int i=V.int j)=(i==j):=by
 rw[Yi];simp
theorem Je{i j:Bool}:decide (V.bl i=V.bl j)=(i==j):=by
 rw[Yi];simp
theorem Jg{i j:Str}:decide (V.str i=V.str j)=(i==j):=by
 rw[Yi];simp
theorem DB{i j:Array UInt8}:decide (V.byt i=V.byt j)=(i.toList==j.toList):=by
 rw[Yi];cases i;cases j;simp
section
variable{X:Cx}{a b c:Expr}{ta tb tc:TE}{pos:Pos}
theorem xZ{z8:List (Addr×Obj)}{σ:St}{H:Hp}{s:Shared}{Q:VK}{k k':Bool}(I:Inv X z8 σ H s)(q:Q (.bl k) H)(e:k=k'):EP X z8 σ Q (.bool k') s:=by
 subst e;exact⟨.bl k,H,I,rfl,q⟩
theorem ar:yT X (compareOp .Eq) cr:=by
 intro z8 s σ H x y v u Q I rx ry h;obtain⟨hs,q⟩:=h;cases x with
 |non=>
  cases rx;cases y with
  |non=>cases ry; exact PySem.EqNone.eq_none_none (xZ I q (by simp))
  |bl j=>cases ry; exact PySem.EqNone.eq_none_bool (xZ I q (by simp))
  |int j=>obtain⟨t',rfl⟩:=ry; exact PySem.EqNone.eq_none_int (xZ I q (by simp))
  |str j=>obtain⟨t',rfl⟩:=ry; exact PySem.EqNone.eq_none_str (xZ I q (by simp))
  |_=>exact absurd (show false=true from hs) yR
 |bl i=>
  cases rx;cases y with
  |non=>cases ry; exact PySem.EqNone.eq_bool_none (xZ I q (by simp))
  |bl j=>cases ry; exact eq_bool (xZ I q Je)
  |str j=>obtain⟨t',rfl⟩:=ry; exact PySem.EqMixed.eq_bool_str (xZ I q (by simp))
  |_=>exact absurd (show false=true from hs) yR
 |int i=>
  obtain⟨t,rfl⟩:=rx;cases y with
  |non=>cases ry; exact PySem.EqNone.eq_int_none (xZ I q (by simp))
  |int j=>obtain⟨t',rfl⟩:=ry; exact eq_int (xZ I q Jf)
  |str j=>obtain⟨t',rfl⟩:=ry; exact PySem.EqMixed.eq_int_str (xZ I q (by simp))
  |_=>exact absurd (show false=true from hs) yR
 |str i=>
  obtain⟨t,rfl⟩:=rx;cases y with
  |non=>cases ry; exact PySem.EqNone.eq_str_none (xZ I q (by simp))
  |bl j=>cases ry; exact PySem.EqMixed.eq_str_bool (xZ I q (by simp))
  |int j=>obtain⟨t',rfl⟩:=ry; exact PySem.EqMixed.eq_str_int (xZ I q (by simp))
  |str j=>obtain⟨t',rfl⟩:=ry; exact eq_str (xZ I q Jg)
  |_=>exact absurd (show false=true from hs) yR
 |byt i=>
  obtain⟨t,rfl⟩:=rx;cases y with
  |byt j=>obtain⟨t',rfl⟩:=ry; exact W.eq_bytes (xZ I q DB)
  |_=>exact absurd (show false=true from hs) yR
 |_=>cases y<;>exact absurd (show false=true from hs) yR
theorem b4:yT X (compareOp .NotEq) cy:=by
 intro z8 s σ H x y v u Q I rx ry h;obtain⟨hs,q⟩:=h;cases x with
 |non=>
  cases rx;cases y with
  |non=>cases ry; exact PySem.EqNone.ne_none_none (xZ I q (by simp))
  |bl j=>cases ry; exact PySem.EqNone.ne_none_bool (xZ I q (by simp))
  |int j=>obtain⟨t',rfl⟩:=ry; exact PySem.EqNone.ne_none_int (xZ I q (by simp))
  |str j=>obtain⟨t',rfl⟩:=ry; exact PySem.EqNone.ne_none_str (xZ I q (by simp))
  |_=>exact absurd (show false=true from hs) yR
 |bl i=>
  cases rx;cases y with
  |non=>cases ry; exact PySem.EqNone.ne_bool_none (xZ I q (by simp))
  |bl j=>cases ry; exact ne_bool (xZ I q (congrArg not Je))
  |str j=>obtain⟨t',rfl⟩:=ry; exact PySem.EqMixed.ne_bool_str (xZ I q (by simp))
  |_=>exact absurd (show false=true from hs) yR
 |int i=>
  obtain⟨t,rfl⟩:=rx;cases y with
  |non=>cases ry; exact PySem.EqNone.ne_int_none (xZ I q (by simp))
  |int j=>obtain⟨t',rfl⟩:=ry; exact ne_int (xZ I q (congrArg not Jf))
  |str j=>obtain⟨t',rfl⟩:=ry; exact PySem.EqMixed.ne_int_str (xZ I q (by simp))
  |_=>exact absurd (show false=true from hs) yR
 |str i=>
  obtain⟨t,rfl⟩:=rx;cases y with
  |non=>cases ry; exact PySem.EqNone.ne_str_none (xZ I q (by simp))
  |bl j=>cases ry; exact PySem.EqMixed.ne_str_bool (xZ I q (by simp))
  |int j=>obtain⟨t',rfl⟩:=ry; exact PySem.EqMixed.ne_str_int (xZ I q (by simp))
  |str j=>obtain⟨t',rfl⟩:=ry; exact ne_str (xZ I q (congrArg not Jg))
  |_=>exact absurd (show false=true from hs) yR
 |byt i=>
  obtain⟨t,rfl⟩:=rx;cases y with
  |byt j=>obtain⟨t',rfl⟩:=ry; exact W.ne_bytes (xZ I q (congrArg not DB))
  |_=>exact absurd (show false=true from hs) yR
 |_=>cases y<;>exact absurd (show false=true from hs) yR
theorem kU:yT X (compareOp .Lt) (tU λi j=>.bl (decide (i<j))):=Og λ_ _ _ _ _ _ _ q=>lt_int q
theorem az:yT X (compareOp .LtE) (tU λi j=>.bl (decide (i<=j))):=Og λ_ _ _ _ _ _ _ q=>le_int q
theorem Oh:yT X (compareOp .Gt) (tU λi j=>.bl (decide (j<i))):=Og λ_ _ _ _ _ _ _ q=>gt_int q
theorem ay:yT X (compareOp .In) (λx y H Q=>∃i j,x=.str i/\y=.str j/\Q (.bl (!(Builtin.Str.occurrences j i 0 j.length 1).isEmpty)) H):=by
 intro z8 s σ H x y v u Q I rx ry h;obtain⟨i,j,rfl,rfl,q⟩:=h;obtain⟨t,rfl⟩:=rx;obtain⟨t',rfl⟩:=ry;exact in_str (xZ I q rfl)
theorem Eg:yT X (compareOp .Is) (λx y H Q=>y=.non/\Q (.bl (decide (x=.non))) H):=by
 intro z8 s σ H x y v u Q I rx ry h;obtain⟨rfl,q⟩:=h;cases ry;refine is_none_gen (xZ I q ?_)
 cases x<;>first
  |(cases rx; rfl)
  |(obtain⟨t,rfl⟩:=rx; rfl)
theorem bA:yT X (compareOp .IsNot) (λx y H Q=>y=.non/\Q (.bl (!decide (x=.non))) H):=by
 intro z8 s σ H x y v u Q I rx ry h;obtain⟨rfl,q⟩:=h;cases ry;refine isnot_none_gen (xZ I q ?_)
 cases x<;>first
  |(cases rx; rfl)
  |(obtain⟨t,rfl⟩:=rx; rfl)
theorem yT.or{f:Value->Value->Sem Value}{r r':R2}(h:yT X f r)(h':yT X f r'):yT X f (λx y H Q=>r x y H Q\/r' x y H Q):=by
 intro z8 s σ H x y v u Q I rx ry q;rcases q with q|q
 ·exact h z8 s σ H x y v u Q I rx ry q
 ·exact h' z8 s σ H x y v u Q I rx ry q
theorem yH(b:Expr){op:CmpOp}(h:op≠.In:=by decide)(h2:op≠.NotIn:=by decide):behindInMarks op b=false:=by
 have e1:(op==CmpOp.In)=false:=by cases op<;>first|rfl|exact absurd rfl h
 have e2:(op==CmpOp.NotIn)=false:=by cases op<;>first|rfl|exact absurd rfl h2
 cases b<;>simp[behindInMarks,e1,e2]
theorem bT{op:CmpOp}{r:R2}(ho:yT X (compareOp op) r)(ha:PE X a ta)(hb:PE X b tb)(hm:behindInMarks op b=false):PE X (.Compare a [op] [b] pos) (QP r ta tb):=by
 intro z8 s σ H Q I h;exact wpAny_Compare1 (JV ha hb I h λv u s2 x y H2 I2 rx ry q=>ho z8 s2 σ H2 x y v u Q I2 rx ry q) hm
def mR(t:TE):TT:=λσ H Q=>t σ H λx H'=>∃k,x=.bl k/\Q k H'
theorem G9{op:CmpOp}{r:R2}(ho:yT X (compareOp op) r)(ha:PE X a ta)(hb:PE X b tb)(hm:behindInMarks op b=false):PT X (.Compare a [op] [b] pos) (mR (QP r ta tb)):=by
 intro z8 s σ H Q I h
 refine wpAny_isTrue_Compare1 (zw (ha z8 s σ H _ I h) λv s1 ⟨x,H1,I1,r1,q1⟩=>zw (hb z8 s1 σ H1 _ I1 q1) λu s2 ⟨y,H2,I2,r2,q2⟩=>
  zw (ho z8 s2 σ H2 x y v u _ I2 r1 r2 q2) λc s3 ⟨z,H3,I3,r3,k,e,q3⟩=>?_) hm
 subst e;cases r3;exact J5 ⟨H3,I3,q3⟩
theorem Y2:(sizeLine:Nat)<2 ^ 63:=by rw[w8]; decide
theorem ao:yT X (binaryOp .Add) (λx y H Q=>∃i j,x=.str i/\y=.str j/\i.length+j.length<=sizeLine/\Q (.str (i++j)) H):=by
 intro z8 s σ H x y v u Q I rx ry h;obtain⟨i,j,rfl,rfl,hz,q⟩:=h;obtain⟨t,rfl⟩:=rx;obtain⟨t',rfl⟩:=ry;exact add_str (λt' tk=>⟨.str (i++j),H,I.tok _,⟨_,rfl⟩,q⟩) hz
theorem ub{x:V}{us:List Value}(r:zf [x] us):∃u,us=[u]/\zr x u:=by
 cases r with
 |cons r1 r2=>cases r2; exact⟨_,rfl,r1⟩
theorem Lx{x y:V}{us:List Value}(r:zf [x,y] us):∃u w',us=[u,w']/\zr x u/\zr y w':=by
 cases r with
 |cons r1 r2=>
  cases r2 with
  |cons r3 r4=>cases r4; exact⟨_,_,rfl,r1,r3⟩
end
structure JF(h:Heap)(x dx C:Addr)(mA:Str->Option Value):Prop where
 obj:h.get? x=some (W.instObj C dx)
 ns:h.Ns1 dx mA
 ne:dx≠x
theorem Sr{h:Heap}{dx:Addr}{mA:Str->Option Value}(n:h.Ns1 dx mA):∃od,h.get? dx=some od/\∀name,W.lookIn name od=some (mA name):=by
 obtain⟨o,es,ep,ho,hd,hk,_,hm⟩:=n;refine⟨o,ho,λname=>?_⟩;have e:=hm name;unfold nsFind findBy at e;rw[<-Array.find?_toList]at e;unfold W.lookIn;rw[hd];dsimp only
 split
 ·rename_i y q;rw[q]at e;exact congrArg some e
 ·rename_i q;rw[q]at e
  have a:es.toList.any (·.refKey)=false:=by
   rw[List.any_eq_false];intro y hy;obtain⟨z,t,hkey⟩:=hk y (Array.mem_toList_iff.mp hy);simp[DictEntry.refKey,hkey]
  have a':¬ es.toList.any (·.refKey)=true:=by rw[a]; exact yR
  rw[zL a'];exact congrArg some e
theorem JF.look{h:Heap}{x dx C:Addr}{mA:Str->Option Value}(I:JF h x dx C mA):∃od,W.InstAt h x (W.instObj C dx) C (some od)/\∀name,W.lookIn name od=some (mA name):=
 let ⟨od,ho,hl⟩:=Sr I.ns
 ⟨od,⟨I.obj,rfl,rfl,ho⟩,hl⟩
section
variable{prog:Program}{w:World}{A:Around}{E:Value->Shared->Prop}{s:Shared}{K:W.Frag}{x dx C f:Addr}{mA:Str->Option Value}{name:Str}{v:Value}
end
theorem qU.some_of{v:V}{o:Option Value}(r:qU (some v) o):∃u,o=some u/\zr v u:=by
 cases o with
 |none=>exact(show False from r).elim
 |some u=>exact⟨u,rfl,r⟩
section
variable{P:Program}{w:World}{H H':Hp}{h h':Heap}{a C dx:Addr}{fs fs':List (Str×V)}
theorem Ra(hok:xU P w H h)(e:H a=some (.ins C dx fs)):∃mA,JF h a dx C mA/\(∀f,qU (fs.lookup f) (mA f))/\PySem.Within mA (fs.map (·.1))/\fs.length<=1000/\H dx=some (.own a):=by
 obtain⟨d,z,ne,ob,mA,n,r,q⟩:=(show xP P w H h a (.ins C dx fs)from hok a _ e);exact⟨mA,⟨ob,n,ne⟩,r,q,z,d⟩
end
structure J8(K:W.Frag)(C:Addr):Prop where
 pg:W.plainGet K C Str.empty=true
 hd:W.hasDictIn K C=true
 po:W.plainOver K C=true
 sa:W.findIn K (.ref C) "__setattr__" = some (some (.builtin "object.__setattr__"))
theorem J8.get{K:W.Frag}{C:Addr}(c:J8 K C)(f:Str):W.plainGet K C f=true:=c.pg
section
variable{X:Cx}{z8:List (Addr×Obj)}{σ:St}{H:Hp}{s:Shared}{a C dx:Addr}{fs:List (Str×V)}{f:Str}{v:V}{A:Around}{E:Value->Shared->Prop}
end
section
variable{X:Cx}{o e value:Expr}{f:Str}{pos pos' tpos:Pos}{ta tv:TE}
end
section
variable{X:Cx}{z8:List (Addr×Obj)}{σ:St}{H:Hp}{s:Shared}{A:Around}{E:Value->Shared->Prop}{Q:Value->Shared->Prop}{c:Value}{b:Bool}
inductive qA(K:PySem.W.Frag)(H:Hp):V->Value->Prop where
 |non:qA K H .non (.type "NoneType")
 |bl (x:Bool):qA K H (.bl x) (.type "bool")
 |int (i:Int):qA K H (.int i) (.type "int")
 |str (x:Str):qA K H (.str x) (.type "str")
 |flt (x:UInt64):qA K H (.flt x) (.type "float")
 |lst {a:Addr} {xs:List V} (e:H a=some (.lst xs)):qA K H (.ref a) (.type "list")
 |frz {a:Addr} {o:Obj} {xs:List V} (e:H a=some (.frz o (.lst xs))):qA K H (.ref a) (.type "list")
 |tup {a:Addr} {xs:List V} (e:H a=some (.tup xs)):qA K H (.ref a) (.type "tuple")
 |dK {a:Addr} {kvs:List (Key×V)} (e:H a=some (.dK kvs)):qA K H (.ref a) (.type "dict")
 |dT {a:Addr} {kvs:List (List Key×V)} (e:H a=some (.dT kvs)):qA K H (.ref a) (.type "dict")
 |ins {a C dx:Addr} {fs:List (Str×V)} (e:H a=some (.ins C dx fs)) (cl:J8 K C) (ha:PySem.W.findIn K (.ref C) "__class__" = some (some (.builtin "object.__class__")))
   (hn:PySem.W.specialIn K (.builtin "object.__class__") "__get__" = some (some (.builtin "getset_descriptor.__get__"))) (htk:PySem.W.takesIn K (.builtin "object.__class__")=some true)
   (hm:PySem.W.mroIn K C (.type "object")=some true):qA K H (.ref a) (.ref C)
theorem TK{x:V}{u t:Value}(I:Inv X z8 σ H s)(rx:zr x u)(ty:qA X.K H x t)(e:W.kitOne X.K t c=some b)(h:∀tk,Q (.bool b) { s with toks:=tk }) :
  wpAny (model X.prog X.w) A (call (.builtin "isinstance") [u,c]) Q E s:=by
 cases ty with
 |non=>cases(show u=Value.none from rx); exact W.kia_one W.kitx_none I.kIn True.intro e (λz=>nomatch z) h
 |bl y=>cases(show u=Value.bool y from rx); exact W.kia_one W.kitx_bool I.kIn True.intro e (λz=>nomatch z) h
 |int i=>obtain⟨t,q⟩:=(show ∃t,u=Value.int i t from rx); cases q; exact W.kia_one W.kitx_int I.kIn True.intro e (λz=>nomatch z) h
 |str y=>obtain⟨t,q⟩:=(show ∃t,u=Value.str y t from rx); cases q; exact W.kia_one W.kitx_str I.kIn True.intro e (λz=>nomatch z) h
 |flt y=>obtain⟨t,q⟩:=(show ∃t,u=Value.float y t from rx); cases q; exact W.kia_one W.kitx_float I.kIn True.intro e (λz=>nomatch z) h
 |@lst a xs ea=>
  cases(show u=Value.ref a from rx);obtain⟨_,_,n,_,h1⟩:=(show xP X.prog X.w H s.heap a (.lst xs)from I.hok a _ ea);exact W.kia_one W.kitx_list I.kIn ⟨_,h1,rfl⟩ e (λz=>nomatch z) h
 |@frz a ob xs ea=>
  cases(show u=Value.ref a from rx);obtain⟨_,_,_,n,_,h1⟩:=(show xP X.prog X.w H s.heap a (.frz ob (.lst xs))from I.hok a _ ea);exact W.kia_one W.kitx_list I.kIn ⟨_,h1,rfl⟩ e (λz=>nomatch z) h
 |@tup a xs ea=>
  cases(show u=Value.ref a from rx);obtain⟨_,_,_,p⟩:=(show xP X.prog X.w H s.heap a (.tup xs)from I.hok a _ ea);obtain⟨o,h1,h2,_⟩:=p;exact W.kia_one W.kitx_tuple I.kIn ⟨o,h1,h2⟩ e (λz=>nomatch z) h
 |@dK a kvs ea=>
  cases(show u=Value.ref a from rx);obtain⟨_,_,vs,_,p⟩:=(show xP X.prog X.w H s.heap a (.dK kvs)from I.hok a _ ea);obtain⟨o,es,ep,h1,h2,_⟩:=p;exact W.kia_one W.kitx_dict I.kIn ⟨o,h1,h2.1⟩ e (λz=>nomatch z) h
 |@dT a kvs ea=>
  cases(show u=Value.ref a from rx);obtain⟨_,_,xs,_,o,es,ep,h1,h2,_⟩:=(show xP X.prog X.w H s.heap a (.dT kvs)from I.hok a _ ea);exact W.kia_one W.kitx_dict I.kIn ⟨o,h1,h2.1⟩ e (λz=>nomatch z) h
 |@ins a C dx fs ea cl ha hn htk hm=>
  cases(show u=Value.ref a from rx);obtain⟨mA,O,_⟩:=Ra I.hok ea;obtain⟨od,J,_⟩:=O.look;exact W.kia_one (W.kitx_own (cl.get _) cl.hd ha hn htk hm) I.kIn J e (λz=>nomatch z) h
end
structure xX(k:Nat)(A:Around):Prop where
 hd:A.handled=none
 dp:A.depth+3*k+5<recursionLimit
 un:A.units+16*k+200<cLine
theorem xX.mono{j k:Nat}{A:Around}(r:xX k A)(h:j<=k):xX j A:=⟨r.hd,by have:=r.dp; omega,by have:=r.un; omega⟩
theorem xX.deeper{k:Nat}{A:Around}(r:xX (k+1) A)(env:Env):xX k (A.deeper env):=
 ⟨r.hd,by have:=r.dp; show A.depth+1+3*k+5<_; omega,by have:=r.un; show A.units+3+16*k+200<_; omega⟩
theorem xX.depth{k:Nat}{A:Around}(r:xX k A):A.depth<recursionLimit:=by have:=r.dp; omega
theorem xX.units{k:Nat}{A:Around}(r:xX k A):A.units+64<cLine:=by have:=r.un; omega
def QO:TA:=λ_ H Q=>Q [] H
def Lm(ta:TE)(tr:TA):TA:=λσ H Q=>ta σ H λx H1=>tr σ H1 λxs H2=>Q (x::xs) H2
section
variable{X:Cx}{e:Expr}{es:List Expr}{te:TE}{t:TA}{pos:Pos}
theorem YA:PA X [] QO:=λ_ _ _ _ H Q I h=>Calls.spliced_nil ⟨[],H,I,.nil,h⟩
theorem bI(ha:PE X e te)(hr:PA X es t)(hs:starEach (e::es) X.env=(false,eval e X.env)::starEach es X.env:=by rfl):PA X (e::es) (Lm te t):=by
 intro pos z8 s σ H Q I h;rw[hs];show wpAny _ _ (spliced ((false,eval e X.env)::backTo pos (starEach es X.env))) _ _ s;refine Calls.spliced_cons (zw (ha z8 s σ H _ I h) λu s1 ⟨x,H1,I1,r1,q1⟩=>?_);exact zw (hr pos z8 s1 σ H1 _ I1 q1) λus s2 ⟨xs,H2,I2,r2,q2⟩=>⟨x::xs,H2,I2,.cons r1 r2,q2⟩
def mS(t:TA):TE:=λσ H Q=>t σ H λxs H1=>xs.length<=sizeLine/\∀p,H1 p=none->Q (.ref p) (ze H1 p (.tup xs))
def Hd(t:TA):TE:=λσ H Q=>t σ H λxs H1=>xs.length<=sizeLine/\∀p,H1 p=none->Q (.ref p) (ze H1 p (.lst xs))
theorem bf{x1}(h:PA X es t):PE X (.Tuple es x1 pos) (mS t):=by
 intro z8 s σ H Q I hq;refine wpAny_Tuple_spliced (zw (h pos z8 s σ H _ I hq) λus s1 ⟨xs,H1,I1,r,z,q⟩=>⟨by rw[<-r.length]; exact z,?_⟩);have hf:H1 s1.heap.objs.size=none:=I1.hok.fresh (zt _);refine⟨.ref s1.heap.objs.size,ze H1 s1.heap.objs.size (.tup xs),I1.laid (t':=s1.toks) (λb u e=>Heap.get?_push_of_some _ e) (zt _) ?_,rfl,q _ hf⟩;exact⟨z,us,r,⟨_,Heap.get?_push_size _ rfl,rfl,_,rfl⟩⟩
theorem Er(h:PA X es t):PE X (.List es pos) (Hd t):=by
 intro z8 s σ H Q I hq;refine wpAny_List_spliced (zw (h pos z8 s σ H _ I hq) λus s1 ⟨xs,H1,I1,r,z,q⟩=>⟨by rw[<-r.length]; exact z,?_⟩);have hf:H1 s1.heap.objs.size=none:=I1.hok.fresh (zt _);refine⟨.ref s1.heap.objs.size,ze H1 s1.heap.objs.size (.lst xs),I1.laid (t':=s1.toks) (λb u e=>Heap.get?_push_of_some _ e) (zt _) ?_,rfl,q _ hf⟩;exact⟨z,us,0,r,Heap.get?_push_size _ rfl⟩
end
abbrev Sp:=List V->Hp->VK->XK->Prop
abbrev qt:=List Env->Hp->Shared->XK->Value->Shared->Prop
structure U4(P:Program)(w:World)(K:W.Frag)(mg:Str->Option Value)(base:Heap)(A:Around)(outer:List Env)(s:Shared)(H:Hp):Prop where
 frames:A.frames=some outer
 mod:Mod K mg base
 bs:∀b o,base.get? b=some o->s.heap.get? b=some o/\H b=none
 bsz:base.objs.size<=s.heap.objs.size
 funs:s.heap.FunFrames base outer
 frf:∀b∈tN outer,H b=none
 hok:xU P w H s.heap
 bare:AllBare s.gens
def CE(outer:List Env)(P:Program)(w:World)(H:Hp)(s:Shared)(Q:VK)(u:Value)(s':Shared):Prop:=
 ∃v H',s'.os=s.os/\AllBare s'.gens/\Un (tN outer) [] H H' s.heap s'.heap/\xU P w H' s'.heap/\zr v u/\Q v H'
def CR(CX:qt)(outer:List Env)(P:Program)(w:World)(H:Hp)(s:Shared)(Q:VK)(E:XK)(r:Result)(s':Shared):Prop:=
 match r with
 |.ok (.ret u)=>CE outer P w H s Q u s'
 |.ok _=>False
 |.error e=>CX outer H s E e s'
structure uq(P:Program)(w:World)(K:W.Frag)(mg:Str->Option Value)(base:Heap)(CX:qt)(k:Nat)(f:Addr)(fd:FuncData)(ps:List Str)(sp:Sp):Prop where
 len:∀vs H Q E,sp vs H Q E->vs.length=ps.length
 run:∀(A:Around)(outer:List Env)(s:Shared)(H:Hp)(args:Args)(us:List Value)(vs:List V)(Q:VK)(E:XK),xX k A->U4 P w K mg base A outer s H->BindsTo s fd args (ps.zip us)->zf vs us->sp vs H Q E->
  codeAny (model P w) A (.call (.ref f) args) (CR CX outer P w H s Q E) s
section
variable{X:Cx}{z8:List (Addr×Obj)}{σ:St}{H:Hp}{s s':Shared}
theorem Inv.env0(I:Inv X z8 σ H s):U4 X.prog X.w X.K X.mg X.base X.A X.stack s H:=
 ⟨I.ok.frames,I.ok.mod,I.bs,wX I.ok.bsz I.sz,I.stack,I.stkFree,I.hok,I.bare⟩
theorem Inv.after{Q:VK}{u:Value}(I:Inv X z8 σ H s)(h:CE X.stack X.prog X.w H s Q u s'):EP X z8 σ Q u s':=by
 obtain⟨v,H',os,bare,un,hok,r,q⟩:=h;obtain⟨hh,g,d,t,os'⟩:=s';obtain rfl:os'=s.os:=os;exact⟨v,H',I.call (h':=hh) (g':=g) (d':=d) (t':=t) (ch:=[]) un hok bare (λb z=>absurd z (by simp)),r,q⟩
end
def Lk(sp:Sp)(dvs:List V)(E:XK)(t:TA):TE:=λσ H Q=>t σ H λvs H1=>sp (vs++dvs) H1 Q E
def qr(K:W.Frag)(fd:FuncData)(ps:List Str)(ds:List Value):Prop:=
 ∀(s:Shared)(us:List Value),K.In s.heap->(us++ds).length=ps.length->BindsTo s fd ⟨us,[]⟩ (ps.zip (us++ds))
theorem qr.all{K:W.Frag}{fd:FuncData}{ps:List Str}(h:∀us:List Value,us.length=ps.length->bindArgs fd ⟨us,[]⟩=pure (ps.zip us)):qr K fd ps []:=λs us _ hl=>by
 rw[wW]at hl ⊢;exact .of_eq (h us hl)
def UB(CX:qt)(X:Cx)(E:XK):Prop:=∀(z8:List (Addr×Obj)) (σ:St) (H:Hp) (s:Shared) (e:Value) (s':Shared),Inv X z8 σ H s->CX X.stack H s E e s'->X.xe e s'
section
variable{X:Cx}{CX:qt}{k:Nat}{f C:Addr}{fd:FuncData}{ps:List Str}{sp:Sp}{dvs:List V}{ds:List Value}{E:XK}{x m:Str}{p pos apos:Pos}{e o:Expr}{es:List Expr}{ta:TE}{t:TA}
theorem LJ{z8:List (Addr×Obj)}{σ:St}{H:Hp}{s:Shared}{Q:VK}{us:List Value}{vs:List V}(F:uq X.prog X.w X.K X.mg X.base CX k f fd ps sp)(hr:xX k X.A)(hb:qr X.K fd ps ds)(hd:zf dvs ds)(hx:UB CX X E)
  (I:Inv X z8 σ H s)(r:zf vs us)(h:sp (vs++dvs) H Q E):wpAny (model X.prog X.w) X.A (call (.ref f) us) (EP X z8 σ Q) X.xe s:=by
 have r2:zf (vs++dvs) (us++ds):=r.append hd;have hl:(us++ds).length=ps.length:=by rw[<-r2.length]; exact F.len _ _ _ _ h
 refine Q_ (ZJ (F.run X.A X.stack s H ⟨us,[]⟩ (us++ds) (vs++dvs) Q E hr I.env0 (hb s us I.kIn hl) r2 h) λr s' hq=>?_);cases r with
 |error e=>exact hx z8 σ H s e s' I hq
 |ok fl=>
  cases fl with
  |ret u=>exact I.after hq
  |next=>exact False.elim hq
  |brk=>exact False.elim hq
  |cont=>exact False.elim hq
theorem bP(F:uq X.prog X.w X.K X.mg X.base CX k f fd ps sp)(hr:xX k X.A)(hg:Gl X x)(hm:X.mg x=some (.ref f))(hk:W.keepIn X.K (.ref f)=true)(hb:qr X.K fd ps ds)(hd:zf dvs ds)(hx:UB CX X E)
  (ha:PA X (e::es) t)(hdb:(x==("__debug__" : Str))=false:=by decide)(he:starEach (e::es) X.env=(false,eval e X.env)::starEach es X.env:=by rfl)(hpl:(backTo pos (starEach es X.env)).any (·.1)=false:=by rfl) :
  PE X (.Call (.Name x p) (e::es) [] pos) (Lk sp dvs E t):=by
 intro z8 s σ H Q I h;refine Vb (OG I hg hm ?_ hdb);refine W.callWith_K (h₀:=X.base) I.ok.mod.kin hk (zw (ha pos z8 s σ H _ I h) λus s1 ⟨vs,H1,I1,r,q⟩=>⟨I1.kIn,?_⟩) he hpl;exact LJ F hr hb hd hx I1 r q
theorem bQ(F:uq X.prog X.w X.K X.mg X.base CX k f fd ps sp)(hr:xX k X.A)(hg:Gl X x)(hm:X.mg x=some (.ref f))(hk:W.keepIn X.K (.ref f)=true)(hb:qr X.K fd ps ds)(hd:zf dvs ds)(hx:UB CX X E)
  (hdb:(x==("__debug__" : Str))=false:=by decide):PE X (.Call (.Name x p) [] [] pos) (Lk sp dvs E QO):=by
 intro z8 s σ H Q I h;refine Vb (OG I hg hm ?_ hdb);exact W.callWith_K0 I.kIn hk (LJ (us:=[]) F hr hb hd hx I .nil h)
end
section
variable{X:Cx}{CX:qt}{k:Nat}{f C:Addr}{fd:FuncData}{ps ks:List Str}{sp:Sp}{E:XK}{x m:Str}{p pos apos kpos:Pos}{e o:Expr}{es:List Expr}{kws:List Keyword}{te ta:TE}{t tk:TA}{nm:Option Str}
variable{g:List Value->List Value->List Value}{gV:List V->List V->List V}
end
structure yS(N P:List Str)(sc:Scope):Prop where
 kind:sc.kind=.function
 co:sc.isCoroutine=false
 gen:sc.isGenerator=false
 nd:N.Nodup
 pre:N.take P.length=P
 par:∀x∈P,sc.names.lookup x=some .local\/sc.names.lookup x=some .cell
 nofree:∀y∈sc.names,y.2≠.free
theorem Bb{kindOf:Str->Option NameKind}{x:Str}:∀{binds:List (Str×Value)} {m:Str->Option Value},(∀v,(x,v) ∉ binds)->bindL kindOf binds m x=m x
 | [],_,_=>rfl
 |(n,v)::r,m,h=>by
  unfold bindL;rw[Bb λw hw=>h w (yX _ hw)]
  split
  ·have:x≠n:=by rintro rfl; exact h v yF
   simp[this]
  ·rfl
theorem BZ{kindOf:Str->Option NameKind}{x:Str}:∀{binds:List (Str×Value)} {m:Str->Option Value},(∀v,(x,v) ∉ binds)->bindC kindOf binds m x=m x
 | [],_,_=>rfl
 |(n,v)::r,m,h=>by
  unfold bindC;rw[BZ λw hw=>h w (yX _ hw)]
  split
  ·rfl
  ·have:x≠n:=by rintro rfl; exact h v yF
   simp[this]
theorem Ba{kindOf:Str->Option NameKind}{x:Str}{v:Value}:∀{P:List Str}{vs:List Value}{i:Nat}{m:Str->Option Value},P.Nodup->P[i]?=some x->vs[i]?=some v->kindOf x=some .local->
  bindL kindOf (P.zip vs) m x=some v
 | [],_,_,_,_,h,_,_=>by simp at h
 |_::_,[],_,_,_,_,h,_=>by simp at h
 |p::P,w::vs,0,m,nd,h1,h2,hk=>by
  simp at h1 h2; subst h1; subst h2;show bindL kindOf ((p,w)::P.zip vs) m p=_;unfold bindL;rw[Bb λv hv=>(t7.mp nd).1 (Mh hv).1,zK hk];simp
 |p::P,w::vs,i+1,m,nd,h1,h2,hk=>by
  show bindL kindOf ((p,w)::P.zip vs) m x=_;unfold bindL;exact Ba (i:=i) (t7.mp nd).2 (by simpa using h1) (by simpa using h2) hk
theorem BY{kindOf:Str->Option NameKind}{x:Str}{v:Value}:∀{P:List Str}{vs:List Value}{i:Nat}{m:Str->Option Value},P.Nodup->P[i]?=some x->vs[i]?=some v->kindOf x≠some .local->
  bindC kindOf (P.zip vs) m x=some v
 | [],_,_,_,_,h,_,_=>by simp at h
 |_::_,[],_,_,_,_,h,_=>by simp at h
 |p::P,w::vs,0,m,nd,h1,h2,hk=>by
  simp at h1 h2; subst h1; subst h2;show bindC kindOf ((p,w)::P.zip vs) m p=_;unfold bindC;rw[BZ λv hv=>(t7.mp nd).1 (Mh hv).1,zL hk];simp
 |p::P,w::vs,i+1,m,nd,h1,h2,hk=>by
  show bindC kindOf ((p,w)::P.zip vs) m x=_;unfold bindC;exact BY (i:=i) (t7.mp nd).2 (by simpa using h1) (by simpa using h2) hk
def start(N:List Str)(vs:List V):St:=vs.map some++List.replicate (N.length-vs.length) none
def j9(CX:qt)(P:Program)(w:World)(K:W.Frag)(mg:Str->Option Value)(base:Heap)(N:List Str)(qual:Str)(scope:Scope)(f:Addr)(cd:Value)(A:Around)(outer:List Env)(s:Shared)(H:Hp)(E:XK):Cx where
 prog:=P
 w:=w
 K:=K
 mg:=mg
 base:=base
 A:=A.deeper (envOfC qual scope s.heap.objs.size f cd)
 N:=N
 s₀:=s
 H₀:=H
 env:=envOfC qual scope s.heap.objs.size f cd
 outer:=outer
 stack:=envOfC qual scope s.heap.objs.size f cd::outer
 ex:=[]
 calm:=true
 fn:=λ_=>true
 pn:=[]
 xe:=λe s'=>wpAny (model P w) (A.deeper (envOfC qual scope s.heap.objs.size f cd)) (leaving (envOfC qual scope s.heap.objs.size f cd) e) (λ_ s''=>CX outer H s E e s'') (λe' s''=>CX outer H s E e' s'') s'
theorem Br{sc:Scope}{n:Nat}{x:Str}(h:sc.names.lookup x=some .cell):∃c,(cellsFrom n sc.names []).lookup x=some c:=by
 have q:=W.cellsFrom_some sc.names n [] (.inl h);exact ZI.mp q
theorem Rg{CX:qt}{P:Program}{w:World}{K:W.Frag}{mg:Str->Option Value}{base:Heap}{N ps:List Str}{qual:Str}{scope:Scope}{f:Addr}{cd:Value}{A:Around}{outer:List Env}{s s1:Shared}{H:Hp}{E:XK}{us:List Value}{vs:List V}
  (S:yS N ps scope)(hd:A.handled=none)(e0:U4 P w K mg base A outer s H)(hl:vs.length=ps.length)(r:zf vs us)
  (x:InCallC s s.heap.objs.size (bindL (envOfC qual scope s.heap.objs.size f cd).kindOf (ps.zip us) λ_=>none) (cellsFrom (s.heap.objs.size+1) scope.names []) (bindC (envOfC qual scope s.heap.objs.size f cd).kindOf (ps.zip us) λ_=>none) s1) :
  Inv (j9 CX P w K mg base N qual scope f cd A outer s H E) [] (start N vs) H s1:=by
 have hpl:ps.length<=N.length:=by have:=congrArg List.length S.pre; rw[tY]at this; omega
 obtain⟨h1,tk,rfl,hk⟩:=x.done;have noA:∀b:Addr,b ∉ (j9 CX P w K mg base N qual scope f cd A outer s H E).ex:=λb z=>absurd (show b∈([]:List Addr)from z) (by simp)
 refine⟨⟨e0.mod,S.kind,rfl,rfl,zt _,λy z c h1 h2=>?_,λy hy=>?_,λy c _ h=>?_,λ_=>hd,Around.frames_deeper e0.frames,.inr ⟨rfl,rfl⟩,λb z=>absurd z (noA b),e0.bs,e0.bsz,λb _ _=>noA b,λb z=>absurd z (noA b),e0.funs,e0.frf⟩,
  rfl,e0.bare,Un.kept hk,⟨_,x.toInCall.ns,λi y v h1 h2 h3=>?_⟩,λy c h=>⟨_,x.cell y c h⟩,e0.hok.fresh (zt _),λy c h=>?_,λp hp=>absurd (show p∈([]:List (Addr×Obj))from hp) (by simp),e0.hok.kept hk,?_⟩
 ·exact name_of_addr x.apart (PySem.mem_of_lookup h1) (PySem.mem_of_lookup h2)
 ·have hy:scope.names.lookup y=some .cell\/scope.names.lookup y=some .free:=hy;rcases hy with hy|hy
  ·exact Br hy
  ·exact absurd rfl (S.nofree _ (PySem.mem_of_lookup hy))
 ·exact Yw (x.above y c (PySem.mem_of_lookup h))
 ·have hi:i<vs.length:=by
   unfold start at h2;by_cases hi:i<vs.length
   ·exact hi
   ·rw[VO (by simpa using hi)]at h2;rw[Yr]at h2
    split at h2<;>cases h2
  have ha:vs[i]?=some v:=by
   unfold start at h2;rw[gS (by simpa using hi),xC]at h2;cases e:vs[i]? with
   |none=>rw[e]at h2; cases h2
   |some a=>rw[e]at h2; cases h2; rfl
  obtain⟨u,hu,rv⟩:=r.get ha
  have hp:ps[i]?=some y:=by
   rw[<-S.pre,List.getElem?_take_of_lt (by omega)]; exact h1
  have ndP:ps.Nodup:=by rw[<-S.pre]; exact S.nd.sublist (List.take_sublist _ _)
  refine⟨u,rv,?_⟩;rcases S.par y (wK hp)with k|k
  ·exact .inl ⟨k,Ba ndP hp hu k⟩
  ·obtain⟨c,e⟩:=Br (n:=s.heap.objs.size+1) k;refine .inr ⟨.inl k,c,e,?_⟩;have q:=x.cell y c e;rw[BY ndP hp hu (by show scope.names.lookup y≠_; rw[k]; decide)]at q;exact q
 ·exact e0.hok.fresh (Yw (x.above y c (PySem.mem_of_lookup h)))
 ·unfold start;show _=N.length;rw[yD,zj,t6];omega
theorem Pc{CX:qt}{P:Program}{w:World}{K:W.Frag}{mg:Str->Option Value}{base:Heap}{k:Nat}{f:Addr}{name qual:Str}{params:Arguments}{body:List Stmt}{scope:Scope}{dV kV doc pm cdv ct oc:Value}{an od:Option Addr}
  {osl:Array (Option Value)}{N ps:List Str}{sp:Sp}(lk:K.lookup f=some ⟨oc,od,.func (W.fnOf name qual params body scope dV kV doc pm an cdv ct),osl⟩)(hcd:W.codeIn K cdv qual=true)(S:yS N ps scope)
  (len:∀vs H Q E,sp vs H Q E->vs.length=ps.length)
  (hbody:∀(A:Around)(outer:List Env)(s:Shared)(H:Hp)(vs:List V)(Q:VK)(E:XK),xX k (A.deeper (envOfC qual scope s.heap.objs.size f cdv))->sp vs H Q E->
   ∃t,vR (j9 CX P w K mg base N qual scope f cdv A outer s H E) body t/\t { nx:=λ_ H'=>Q .non H',rt:=Q } (start N vs) H) :
  uq P w K mg base CX (k+1) f (W.fnOf name qual params body scope dV kV doc pm an cdv ct) ps sp:=by
 refine⟨len,λA outer s H args us vs Q E hr e0 hb r hsp=>?_⟩;have hl:=len _ _ _ _ hsp;have KX:K.In s.heap:=e0.mod.kin.keeps λb o e=>(e0.bs b o e).1
 have lim:s.heap.NoLimit:=e0.mod.nolimit.keeps λb o e=>(e0.bs b o e).1
 have hkind:∀y∈ps.zip us,scope.names.lookup y.1=some .local\/(scope.names.lookup y.1=some .cell/\((cellsFrom (s.heap.objs.size+1) scope.names []).lookup y.1).isSome=true):=λ⟨n,v⟩ hy=>by
  rcases S.par n (Mh hy).1 with q|q
  ·exact .inl q
  ·exact .inr ⟨q,W.cellsFrom_some _ _ _ (.inl q)⟩
 refine codeAny_call_function hr.depth (KX _ _ lk) rfl S.co S.gen rfl (W.codeRec_of KX hcd) (hb _ _ _ _ ?_);refine wpAny_newFunctionEnv_cells S.kind hkind λenv he s1 x=>?_
 subst he;refine⟨lim.keeps x.toInCall.keep,codeAny_func ?_⟩;obtain⟨t,ht,hq⟩:=hbody A outer s H vs Q E (hr.deeper _) hsp;have I:Inv (j9 CX P w K mg base N qual scope f cdv A outer s H E) [] (start N vs) H s1:=Rg S hr.hd e0 hl r x;refine uh (ht [] s1 (start N vs) H _ I hq) (λfl s' hs=>?_) λe s' hs=>hs
 have fin:∀{σ':St}{H':Hp}{v:V}{u:Value},Inv (j9 CX P w K mg base N qual scope f cdv A outer s H E) [] σ' H' s'->zr v u->Q v H'->CE outer P w H s Q u s':=
  λ{σ' H' v u} J rv q=>⟨v,H',J.os,J.bare,J.base,J.hok,rv,q⟩
 cases fl with
 |ret u=>
  obtain⟨v,σ',H',J,rv,q⟩:=hs;exact fin J rv q
 |next=>
  obtain⟨σ',H',J,q⟩:=hs;exact fin (v:=V.non) (u:=Value.none) J rfl q
 |brk=>
  obtain⟨_,_,_,q⟩:=hs;exact False.elim q
 |cont=>
  obtain⟨_,_,_,q⟩:=hs;exact False.elim q
section
variable{X:Cx}{x:Str}{p pos:Pos}{e:Expr}{es:List Expr}{t:TA}{id T:String}{r:List V->Hp->VK->Prop}
def QN(r:List V->Hp->VK->Prop)(t:TA):TE:=λσ H Q=>t σ H λvs H1=>r vs H1 Q
theorem bR(hc:wr X (.builtin id) r)(hg:Gl X x)(hm:X.mg x=none)(hv:bootBuiltins x=some (.builtin id))(ha:PA X (e::es) t)(hn:x ≠ "__name__" := by decide)(hdb:(x==("__debug__" : Str))=false:=by decide)
  (he:starEach (e::es) X.env=(false,eval e X.env)::starEach es X.env:=by rfl)(hpl:(backTo pos (starEach es X.env)).any (·.1)=false:=by rfl):PE X (.Call (.Name x p) (e::es) [] pos) (QN r t):=by
 intro z8 s σ H Q I h;refine Vb (Y1 I hg hm hv ?_ hn hdb);exact PyProof.Rows.callWith_builtin1 (zw (ha pos z8 s σ H _ I h) λus s1 ⟨vs,H1,I1,r1,q1⟩=>hc z8 s1 σ H1 vs us Q I1 r1 q1) he hpl
theorem bS(hc:wr X (.type T) r)(hg:Gl X x)(hm:X.mg x=none)(hv:bootBuiltins x=some (.type T))(ha:PA X (e::es) t)(hn:x ≠ "__name__" := by decide)(hdb:(x==("__debug__" : Str))=false:=by decide)
  (he:starEach (e::es) X.env=(false,eval e X.env)::starEach es X.env:=by rfl)(hpl:(backTo pos (starEach es X.env)).any (·.1)=false:=by rfl):PE X (.Call (.Name x p) (e::es) [] pos) (QN r t):=by
 intro z8 s σ H Q I h;refine Vb (Y1 I hg hm hv ?_ hn hdb);exact Qw (zw (ha pos z8 s σ H _ I h) λus s1 ⟨vs,H1,I1,r1,q1⟩=>hc z8 s1 σ H1 vs us Q I1 r1 q1) he hpl
end
end L2
namespace HT
open PySem PyProof.Rows
section
open PySem.SeqAt
open PySem.AutoSeq1 (wpAny_loadPart')
open PySem.MeetsSeq PySem.MeetsSeq2 PySem.MeetsSeq3
end
section
variable{prog:Program}{w:World}{A:Around}{E:Value->Shared->Prop}{s:Shared}
theorem cat_tup{t b:Addr}{vs ws:List Value}{Q:Value->Shared->Prop}(ht:IsTup s.heap t vs.toArray)(hb:IsTup s.heap b ws.toArray)(hv:vs≠[])
  (h1:ws=[]->Q (.ref t) s)(h2:ws≠[]->Q (.ref s.heap.objs.size) { s with heap:=s.heap.push { cls:=.type "tuple",data:=.seq (vs++ws).toArray } })
  (hsz:vs.length+ws.length<=sizeLine):wpAny (model prog w) A (binaryOp .Add (.ref t) (.ref b)) Q E s:=by
 obtain⟨⟨cls,dd,data,sl⟩,ho,hc,n,hd⟩:=id ht;obtain⟨⟨cls2,dd2,data2,sl2⟩,ho2,hc2,n2,hd2⟩:=id hb;simp only at hc hd hc2 hd2;subst hc hd hc2 hd2;have e:vs.toArray++ws.toArray=(vs++ws).toArray:=by simp
 by_cases hw:ws=[]
 ·exact concat_meets ⟨_,ho,rfl⟩ ⟨_,ho2,rfl⟩ noFill_tuple_add seq_tuple_add PySem.F.slot_tuple_add PySem.F.entry_tuple_add (PySem.F.args_tuple_add_2 _ _)
   (tuple_addW1 t b vs.toArray ws.toArray n n2 dd dd2 sl sl2 (by simpa using hv) (by simp[hw])) ⟨ho,ho2,h1 hw⟩
 ·refine concat_meets ⟨_,ho,rfl⟩ ⟨_,ho2,rfl⟩ noFill_tuple_add seq_tuple_add PySem.F.slot_tuple_add PySem.F.entry_tuple_add (PySem.F.args_tuple_add_2 _ _)
   (tuple_addW2 t b vs.toArray ws.toArray n n2 dd dd2 sl sl2 (by simpa using hv) (by simpa using hw) (by rw[ya,ya]; exact hsz)) ⟨ho,ho2,?_⟩
  rw[e];exact h2 hw
def sIx(n d:Nat):Option Int->Nat
 |none=>d
 |some v=>if v<0 then(v+(n:Int)).toNat else min v.toNat n
theorem sIx_nat(n d k:Nat):sIx n d (some (k:Int))=min k n:=by
 show(if(k:Int)<0 then((k:Int)+(n:Int)).toNat else min (k:Int).toNat n)=min k n;rw[zL (by omega),xg]
theorem sIx_le(n d:Nat)(hd:d<=n)(o:Option Int):sIx n d o<=n:=by
 cases o with
 |none=>exact hd
 |some v=>
  show(if v<0 then(v+(n:Int)).toNat else min v.toNat n)<=n;by_cases hv:v<0
  ·rw[zK hv]; omega
  ·rw[zL hv]; exact Nat.min_le_right _ _
theorem Bs(v:Int)(n d:Nat):(if v<0 then max (v+(n:Int)) 0 else min v (n:Int))=((sIx n d (some v):Nat):Int):=by
 show(if v<0 then max (v+(n:Int)) 0 else min v (n:Int))=(((if v<0 then(v+(n:Int)).toNat else min v.toNat n):Nat):Int);by_cases hv:v<0
 ·simp only[zK hv]; omega
 ·simp only[zL hv]; omega
theorem Kz(lo hi:Option Int)(n:Nat):Builtin.Slice.sliceAdjust lo hi 1 (n:Int)=(((sIx n 0 lo:Nat):Int),((sIx n n hi:Nat):Int)):=by
 have h1:¬ ((1:Int)<0):=by omega
 unfold Builtin.Slice.sliceAdjust;simp only[h1,Y_];refine Prod.ext ?_ ?_
 ·cases lo with
  |none=>rfl
  |some v=>exact Bs v n 0
 ·cases hi with
  |none=>rfl
  |some v=>exact Bs v n n
theorem bz(i j:Nat):Builtin.Slice.slicePlaces (i:Int) (j:Int) 1=j-i:=by
 unfold Builtin.Slice.slicePlaces;have h1:(1:Int)>0:=by omega
 simp only[h1,qO,Int.ediv_one]
 split<;>omega
theorem HF{v:Value}{o:Option Int}{Q:Option Int->Shared->Prop}(p:IsPart v o)(h:Q o s):wpAny (model prog w) A (Builtin.Slice.slicePartIndex v) Q E s:=by
 cases p with
 |none=>exact slicePart_none h
 |int i t=>exact slicePart_int h
theorem lH{sl:Addr}{vl vu:Value}{lo hi:Option Int}{n:Nat}{Q:Int×Int×Nat->Shared->Prop}(hs:s.heap.IsSliceOf sl vl vu .none)(pl:IsPart vl lo)(pu:IsPart vu hi)
  (h:Q (((sIx n 0 lo:Nat):Int),1,sIx n n hi-sIx n 0 lo) s):wpAny (model prog w) A (Builtin.Slice.sliceApplied (.ref sl) (pure (n:Int))) Q E s:=by
 obtain⟨os,hos,hcs,hds⟩:=id hs;unfold Builtin.Slice.sliceApplied Builtin.Slice.sliceFields;refine zE (zE (ug hos hds (x:=vl) rfl (zE (ug hos hds (x:=vu) rfl (zE (ug hos hds (x:=.none) rfl (zX ?_)))))));refine zE (slicePart_none ?_);show wpAny _ _ (if((1:Int)==0)=true then _ else _) _ _ s;rw[zL (by decide)];refine zE (HF pl (zE (HF pu (zE (zX ?_)))));show wpAny _ _ (match Builtin.Slice.sliceAdjust lo hi 1 (n:Int)with|(lo,hi)=>pure (lo,(1:Int),Builtin.Slice.slicePlaces lo hi 1)) _ _ s;rw[Kz lo hi n];show wpAny _ _ (pure (((sIx n 0 lo:Nat):Int),(1:Int),Builtin.Slice.slicePlaces ((sIx n 0 lo:Nat):Int) ((sIx n n hi:Nat):Int) 1)) _ _ s;rw[bz];exact zX h
theorem bv(xs:Array Value)(i k:Nat):((List.range k).filterMap λ(m:Nat)=>xs[((i:Int)+(m:Int)*1).toNat]?).toArray=((xs.toList.drop i).take k).toArray:=by
 have e:(λ(m:Nat)=>xs[((i:Int)+(m:Int)*1).toNat]?)=λm=>xs[i+m]?:=by
  funext m
  have:((i:Int)+(m:Int)*1).toNat=i+m:=by omega
  rw[this]
 rw[e];have:=pick_run xs i k;rw[List.filterMap_map]at this;have e2:((λx=>xs[x]?)∘λx=>i+x)=λm=>xs[i+m]?:=rfl
 rw[e2]at this;rw[this]
theorem getItem_tuple_cut{t sl:Addr}{z6:Array Value}{vl vu:Value}{lo hi:Option Int}{Q:Value->Shared->Prop}(ht:IsTup s.heap t z6)(hs:s.heap.IsSliceOf sl vl vu .none)(pl:IsPart vl lo)(pu:IsPart vu hi)
  (hw:¬ (sIx z6.size 0 lo=0/\sIx z6.size z6.size hi=z6.size))
  (h:Q (.ref s.heap.objs.size) { s with heap:=s.heap.push { cls:=.type "tuple",data:=.seq ((z6.toList.drop (sIx z6.size 0 lo)).take (sIx z6.size z6.size hi-sIx z6.size 0 lo)).toArray } })
  (hsz:z6.size<=sizeLine):wpAny (model prog w) A (getItem (.ref t) (.ref sl)) Q E s:=by
 have htake:sizeOk (.seq ((z6.toList.drop (sIx z6.size 0 lo)).take (sIx z6.size z6.size hi-sIx z6.size 0 lo)).toArray):=by
  show((z6.toList.drop (sIx z6.size 0 lo)).take (sIx z6.size z6.size hi-sIx z6.size 0 lo)).toArray.size<=sizeLine;rw[ya,tY,ZB,wy];omega
 have hj:sIx z6.size z6.size hi<=z6.size:=sIx_le _ _ (zt _) hi;obtain⟨os,hos,hcs,hds⟩:=id hs;have hTs:s.TypeIs (.ref sl) "slice" := ⟨os,hos,hcs⟩;unfold getItem
 try with_reducible refine t9 ?_
 first|refine zE (zX ?_)|skip
 refine zE (wpAny_sequenceKey ht.typeIs (by decide) ?_)
 refine zE (X2 (name:=Str.ofString "__getitem__") ht.typeIs Mv
  (pU Mv ht.typeIs entry_tuple_getitem ?_ (args_tuple_getitem _ _)))
 show wpAny _ _ (Builtin.Tuple.tupleItemsOf (.ref t) >>= _) _ _ s;refine zE (tupleItemsOf_ ht ?_);refine zE (X7 hTs ?_);rw[zK (by decide)];refine zE (lH hs pl pu ?_)
 have hno:¬ ((((sIx z6.size 0 lo:Nat):Int)==0&&(1:Int)==1&&(sIx z6.size z6.size hi-sIx z6.size 0 lo)==z6.size)=true):=by
  intro q;rw[xB,xB]at q;have q1:((sIx z6.size 0 lo:Nat):Int)=0:=eq_of_beq q.1.1;have q2:sIx z6.size z6.size hi-sIx z6.size 0 lo=z6.size:=eq_of_beq q.2;exact hw ⟨by omega,by omega⟩
 show wpAny _ _ (if(((sIx z6.size 0 lo:Nat):Int)==0&&(1:Int)==1&&(sIx z6.size z6.size hi-sIx z6.size 0 lo)==z6.size)=true then _ else _) _ _ s;rw[zL hno,bv]
 first
  |exact zE (m:=Builtin.Tuple.tupleExact _) (qm (zX ⟨_,rfl,zX h⟩) htake)
  |exact zE (m:=Builtin.Tuple.tupleExact _) (qm (zE (zX (zX ⟨_,rfl,zX h⟩))) htake)
  |exact zE (zE (m:=Builtin.Tuple.tupleExact _) (qm (zX (zX ⟨_,rfl,zX h⟩)) htake))
  |exact zE (zE (m:=Builtin.Tuple.tupleExact _) (qm (zX ⟨_,rfl,zX h⟩) htake))
end
end HT
namespace L2
open PySem PySem.Spec PyProof.Rows
abbrev TO:=St->Hp->(Option Int->Hp->Prop)->Prop
def PO(X:Cx)(e:Option Expr)(t:TO):Prop:=
 ∀(z8:List (Addr×Obj)) (s:Shared) (σ:St) (H:Hp) (Q:Option Int->Hp->Prop),Inv X z8 σ H s->t σ H Q->
  wpAny (model X.prog X.w) X.A (evalPart e X.env) (λu s'=>∃o H',Inv X z8 σ H' s'/\IsPart u o/\Q o H') X.xe s
def mI:TO:=λ_ H Q=>Q none H
def mM(t:TE):TO:=λσ H Q=>t σ H λx H1=>∃i,x=.int i/\Q (some i) H1
section
variable{X:Cx}{e:Expr}{te:TE}{lo hi:Option Expr}{tl th:TO}{pos p2:Pos}
theorem cE:PO X none mI:=by
 intro z8 s σ H Q I h;rw[evalPart_none];exact zX ⟨none,H,I,.none,h⟩
theorem cF(h:PE X e te):PO X (some e) (mM te):=by
 intro z8 s σ H Q I hw;rw[evalPart_some];refine zw (h z8 s σ H _ I hw) λu s1 ⟨x,H1,I1,r1,q1⟩=>?_
 obtain⟨i,rfl,q⟩:=q1;obtain⟨t,rfl⟩:=r1;exact⟨some i,H1,I1,.int i t,q⟩
def j5(X:Cx)(r:V->Option Int->Option Int->Hp->VK->Prop):Prop:=
 ∀(z8:List (Addr×Obj)) (s:Shared) (σ:St) (H:Hp) (x:V) (v vl vu:Value) (lo hi:Option Int) (sl:Addr) (Q:VK),Inv X z8 σ H s->zr x v->s.heap.IsSliceOf sl vl vu .none->IsPart vl lo->IsPart vu hi->r x lo hi H Q->
  ∃T id,typeLookup (.type T) "__getitem__" = pure (some (.builtin id))/\s.TypeIs v T/\wpAny (model X.prog X.w) X.A (getItem v (.ref sl)) (EP X z8 σ Q) X.xe s
theorem j5.or{r r':V->Option Int->Option Int->Hp->VK->Prop}(h:j5 X r)(h':j5 X r'):j5 X (λx lo hi H Q=>r x lo hi H Q\/r' x lo hi H Q):=by
 intro z8 s σ H x v vl vu lo hi sl Q I rx hs pl pu q;rcases q with q|q
 ·exact h z8 s σ H x v vl vu lo hi sl Q I rx hs pl pu q
 ·exact h' z8 s σ H x v vl vu lo hi sl Q I rx hs pl pu q
def mQ(r:V->Option Int->Option Int->Hp->VK->Prop)(te:TE)(tl th:TO):TE:=λσ H Q=>te σ H λx H1=>tl σ H1 λl H2=>th σ H2 λu H3=>r x l u H3 Q
theorem bc{r:V->Option Int->Option Int->Hp->VK->Prop}(hr:j5 X r)(he:PE X e te)(hl:PO X lo tl)(hu:PO X hi th):PE X (.Subscript e (.Slice lo hi none p2) pos) (mQ r te tl th):=by
 intro z8 s σ H Q I h;refine Subscript_ (zw (he z8 s σ H _ I h) λv s1 ⟨x,H1,I1,r1,q1⟩=>?_);refine wpAny_Slice (zw (hl z8 s1 σ H1 _ I1 q1) λvl s2 ⟨l,H2,I2,pl,q2⟩=>zw (hu z8 s2 σ H2 _ I2 q2) λvu s3 ⟨u,H3,I3,pu,q3⟩=>?_);rw[evalPart_none];refine zX ?_;have I4:Inv X z8 σ H3 { s3 with heap:=s3.heap.push { cls:=.type "slice",data:=.fields #[vl,vu,.none] } }:=I3.kept (t':=s3.toks) λb ob q=>Heap.get?_push_of_some _ q
 obtain⟨T,id,hT,ht,hg⟩:=hr z8 { s3 with heap:=s3.heap.push { cls:=.type "slice",data:=.fields #[vl,vu,.none] } } σ H3 x v vl vu l u s3.heap.objs.size Q I4 r1 (Heap.IsSliceOf.new ..) pl pu q3;show wpAny (model X.prog X.w) X.A (subscriptTail e (.Slice lo hi none p2) v (.ref s3.heap.objs.size)) (EP X z8 σ Q) X.xe { s3 with heap:=s3.heap.push { cls:=.type "slice",data:=.fields #[vl,vu,.none] } };exact tail_any (ops:=[.ref s3.heap.objs.size,v]) ht hT hg (by with_unfolding_all rfl)
def jo(xs:List V)(lo hi:Option Int):List V:=(xs.drop (HT.sIx xs.length 0 lo)).take (HT.sIx xs.length xs.length hi-HT.sIx xs.length 0 lo)
theorem Bz(xs:List V)(lo hi:Option Int):(jo xs lo hi).length<=xs.length:=by
 unfold jo;rw[tY,ZB];omega
def GW(K:W.Frag):V->Option Int->Option Int->Hp->VK->Prop:=λx lo hi H Q=>∃a xs,x=.ref a/\xE K H a xs/\
 ¬ (HT.sIx xs.length 0 lo=0/\HT.sIx xs.length xs.length hi=xs.length)/\∀p,H p=none->Q (.ref p) (ze H p (.tup (jo xs lo hi)))
theorem lG:j5 X (GW X.K):=by
 intro z8 s σ H x v vl vu lo hi sl Q I rx hs pl pu h;obtain⟨a,xs,rfl,hx,hw,q⟩:=h;cases rx;obtain⟨its,r,ht,hz⟩:=I.tuple hx;have hlen:its.toArray.size=xs.length:=by rw[ya]; exact r.length.symm
 refine⟨"tuple",_,Mv.lookup,ht.typeIs,?_⟩;refine HT.getItem_tuple_cut ht hs pl pu (by rw[hlen]; exact hw) ?_ (by rw[hlen]; exact hz);rw[hlen];refine⟨.ref s.heap.objs.size,_,I.laid (t':=s.toks) (o:=.tup (jo xs lo hi)) (λb ob q=>Heap.get?_push_of_some _ q) (zt _) ?_,rfl,q _ (I.hok.fresh (zt _))⟩;exact⟨wX (Bz xs lo hi) hz,_,(r.drop (HT.sIx xs.length 0 lo)).take (HT.sIx xs.length xs.length hi-HT.sIx xs.length 0 lo),IsTup.new _ _⟩
def GN(K:W.Frag):R2:=λx y H Q=>∃a b xs ys,x=.ref a/\y=.ref b/\xE K H a xs/\xE K H b ys/\xs≠[]/\xs.length+ys.length<=sizeLine/\
 (ys=[]->Q (.ref a) H)/\(ys≠[]->∀p,H p=none->Q (.ref p) (ze H p (.tup (xs++ys))))
theorem zf.nil_iff{xs:List V}{us:List Value}(r:zf xs us):us=[]↔xs=[]:=by
 cases r with
 |nil=>simp
 |cons _ _=>simp
theorem aq:yT X (binaryOp .Add) (GN X.K):=by
 intro z8 s σ H x y v u Q I rx ry h;obtain⟨a,b,xs,ys,rfl,rfl,ha,hb,hx,hz,q1,q2⟩:=h;cases rx;cases ry;obtain⟨its,r1,p1,_⟩:=I.tuple ha;obtain⟨its2,r2,p2,_⟩:=I.tuple hb;refine HT.cat_tup p1 p2 (λz=>hx (r1.nil_iff.mp z)) (λz=>⟨.ref a,H,I,rfl,q1 (r2.nil_iff.mp z)⟩) (λz=>?_) (by rw[<-r1.length,<-r2.length]; exact hz);refine⟨.ref s.heap.objs.size,_,I.laid (t':=s.toks) (o:=.tup (xs++ys)) (λb ob q=>Heap.get?_push_of_some _ q) (zt _) ?_,rfl,q2 (λw=>z (r2.nil_iff.mpr w)) _ (I.hok.fresh (zt _))⟩;exact⟨by rw[yD]; exact hz,_,r1.append r2,IsTup.new _ _⟩
end
def ixN(n:Nat)(i:Int):Option Nat:=if 0<=i then(if i<n then some i.toNat else none)else if -(n:Int)<=i then some (i+n).toNat else none
def uT{α:Type}(xs:List α)(i:Int):Option α:=(ixN xs.length i).bind λj=>xs[j]?
theorem FB{n:Nat}{i:Int}{j:Nat}(h:ixN n i=some j):seqIndex? i n=some j/\j<n /\ -(n:Int)<=i/\i<n:=by
 unfold ixN at h;by_cases h0:0<=i
 ·rw[zK h0]at h;by_cases h1:i<n
  ·rw[zK h1]at h;have e:i.toNat=j:=wz h;exact⟨by rw[seqIndex_of h0 h1,e],by omega,by omega,h1⟩
  ·rw[zL h1]at h; cases h
 ·rw[zL h0]at h;by_cases h1 : -(n:Int)<=i
  ·rw[zK h1]at h;have e:(i+n).toNat=j:=wz h;exact⟨by rw[seqIndex_neg (by omega) h1,e],by omega,h1,by omega⟩
  ·rw[zL h1]at h; cases h
theorem JP{α:Type}{xs:List α}{i:Int}{v:α}(h:uT xs i=some v):∃j,seqIndex? i xs.length=some j/\xs[j]?=some v/\j<xs.length /\ -(xs.length:Int)<=i/\i<xs.length:=by
 unfold uT at h;cases e:ixN xs.length i with
 |none=>rw[e]at h; cases h
 |some j=>
  rw[e]at h;obtain⟨h1,h2,h3,h4⟩:=FB e;exact⟨j,h1,h,h2,h3,h4⟩
theorem N4{α:Type}{xs:List α}{j:Nat}{v:α}(h:xs[j]?=some v):uT xs (j:Int)=some v:=by
 have hj:j<xs.length:=(yM.mp h).1
 have e:ixN xs.length (j:Int)=some j:=by
  unfold ixN;rw[zK (by omega),zK (by omega)]; simp
 unfold uT; rw[e]; exact h
def BF(b:Expr):Prop:=∀o i,subscripted b false o i=operate [o,i] (getItem o i)
def tH(X:Cx)(r:R2):Prop:=
 ∀(value slice:Expr)(z8:List (Addr×Obj)) (s:Shared) (σ:St) (H:Hp) (x y:V) (v u:Value) (Q:VK),Inv X z8 σ H s->zr x v->zr y u->r x y H Q->
  subscripted slice false v u=operate [v,u] (getItem v u)->wpAny (model X.prog X.w) X.A (subscriptTail value slice v u) (EP X z8 σ Q) X.xe s
def gx(X:Cx)(id:String)(r:V->List V->Hp->VK->Prop):Prop:=
 ∀(z8:List (Addr×Obj)) (s:Shared) (σ:St) (H:Hp) (x:V) (xs:List V) (v:Value) (us:List Value) (Q:VK),Inv X z8 σ H s->zr x v->zf xs us->r x xs H Q->
  wpAny (model X.prog X.w) X.A (call (.builtin id) (v::us)) (EP X z8 σ Q) X.xe s
section
variable{X:Cx}{a b:Expr}{ta tb:TE}{pos:Pos}
theorem tH.or{r r':R2}(h:tH X r)(h':tH X r'):tH X (λx y H Q=>r x y H Q\/r' x y H Q):=by
 intro value slice z8 s σ H x y v u Q I rx ry q hs;rcases q with q|q
 ·exact h value slice z8 s σ H x y v u Q I rx ry q hs
 ·exact h' value slice z8 s σ H x y v u Q I rx ry q hs
theorem Tq{r:R2}(hr:tH X r)(ha:PE X a ta)(hb:PE X b tb)(hs:BF b):PE X (.Subscript a b pos) (QP r ta tb):=by
 intro z8 s σ H Q I h;exact Subscript_ (JV ha hb I h λv u s2 x y H2 I2 rx ry q=>hr a b z8 s2 σ H2 x y v u Q I2 rx ry q (hs _ _))
def GQ(K:W.Frag):R2:=λx y H Q=>∃p xs i v,x=.ref p/\y=.int i/\yG K H p xs/\uT xs i=some v/\Q v H
def GS(K:W.Frag):R2:=λx y H Q=>∃p xs i v,x=.ref p/\y=.int i/\xE K H p xs/\uT xs i=some v/\Q v H
def GR:R2:=λx y H Q=>∃z i c,x=.str z/\y=.int i/\z.length<=sizeLine/\uT z.cps.toList i=some c/\Q (.str ⟨#[c]⟩) H
theorem FD:tH X (GQ X.K):=by
 intro value slice z8 s σ H x y v u Q I rx ry h hs;obtain⟨p,xs,i,z,rfl,rfl,hq,he,q⟩:=h;cases rx;obtain⟨t,rfl⟩:=ry;obtain⟨its,r,pl,hz⟩:=I.list hq;obtain⟨j,h1,h2,h3,h4,h5⟩:=JP he;obtain⟨w,ew,rw'⟩:=r.get h2;have hl:=r.length;have hn:=Y2;have fin:EP X z8 σ Q w s:=⟨z,H,I,rw',q⟩;by_cases h0:0<=i
 ·have hj:i.toNat=j:=by
   rw[seqIndex_of h0 h5]at h1;exact wz h1
  exact item_listR pl.isList h0 (by omega) (by rw[hj]; simpa using ew) fin hs
 ·have hj:(i+(its.toArray.size:Int)).toNat=j:=by
   rw[seqIndex_neg (by omega) h4]at h1;rw[ya,<-hl];exact wz h1
  exact Qy (x:=w) pl.isList.typeIs slot_list_getitem.lookup
   (wpAny_getItem_list_neg (Q:=λr s'=>r=w/\EP X z8 σ Q r s') pl.isList (by omega) (by rw[ya]<;>omega) (by omega) (by rw[hj]; simpa using ew) ⟨rfl,fin⟩) hs
theorem Rs:tH X (GS X.K):=by
 intro value slice z8 s σ H x y v u Q I rx ry h hs;obtain⟨p,xs,i,z,rfl,rfl,hq,he,q⟩:=h;cases rx;obtain⟨t,rfl⟩:=ry;obtain⟨its,r,pl,hz⟩:=I.tuple hq;obtain⟨j,h1,h2,h3,h4,h5⟩:=JP he;obtain⟨w,ew,rw'⟩:=r.get h2;have hl:=r.length;have hn:=Y2;have fin:EP X z8 σ Q w s:=⟨z,H,I,rw',q⟩
 exact Qy (x:=w) pl.typeIs slot_tuple_getitem.lookup
  (getItem_tuple (j:=j) (Q:=λr s'=>r=w/\EP X z8 σ Q r s') pl (by omega) (by omega) (by rw[ya,<-hl]; exact h1) (by simpa using ew) ⟨rfl,fin⟩) hs
theorem Rr:tH X GR:=by
 intro value slice z8 s σ H x y v u Q I rx ry h hs;obtain⟨z,i,c,rfl,rfl,hz,he,q⟩:=h;obtain⟨t,rfl⟩:=rx;obtain⟨t',rfl⟩:=ry;obtain⟨j,h1,h2,h3,h4,h5⟩:=JP he;have hl:z.cps.toList.length=z.length:=by simp[Str.length]
 rw[hl]at h1 h4 h5;have hn:=Y2
 exact tail_any (Qz s z t) slot_str_getitem.lookup (getItem_str (c:=c) (by
  have e1:decide (i < -(2 ^ 63:Int))=false:=yy (by omega);have e2:decide (i≥2 ^ 63)=false:=yy (by omega);rw[e1,e2,Yj]) (by rw[h1]; simpa using h2) ⟨.str ⟨#[c]⟩,H,I.tok _,⟨_,rfl⟩,q⟩) hs
def LC(K:W.Frag):R2:=λx y H Q=>GQ K x y H Q\/GS K x y H Q\/GR x y H Q
theorem Rq:tH X (LC X.K):=FD.or (Rs.or Rr)
theorem Sv(its:List Value)(n j:Nat)(u:Value):Obj.mapSeq (·.setIfInBounds j u) { cls:=.type "list",data:=.seq its.toArray n }={ cls:=.type "list",data:=.seq (its.set j u).toArray n }:=by
 simp[Obj.mapSeq]
theorem Inv.lst{z8:List (Addr×Obj)}{σ:St}{H:Hp}{s:Shared}{p:Addr}{xs:List V}(I:Inv X z8 σ H s)(h:H p=some (.lst xs)) :
  ∃(its:List Value) (n:Nat),zf xs its/\s.heap.get? p=some { cls:=.type "list",data:=.seq its.toArray n }/\xs.length<=sizeLine:=by
 obtain⟨z,its,n,r,e⟩:=I.hok p _ h;exact⟨its,n,r,e,z⟩
theorem Inv.lstUpd{z8:List (Addr×Obj)}{σ:St}{H:Hp}{s:Shared}{p:Addr}{xs ys:List V}{its its':List Value}{n n':Nat}{f:Obj->Obj}(I:Inv X z8 σ H s)(h:H p=some (.lst xs))
  (ho:s.heap.get? p=some { cls:=.type "list",data:=.seq its.toArray n })(hf:f { cls:=.type "list",data:=.seq its.toArray n }={ cls:=.type "list",data:=.seq its'.toArray n' })(r:zf ys its')(hz:ys.length<=sizeLine)(t:Nat) :
  Inv X z8 σ (ze H p (.lst ys)) { s with heap:=s.heap.update p f,toks:=t }:=by
 have e:(s.heap.update p f).get? p=some { cls:=.type "list",data:=.seq its'.toArray n' }:=by
  rw[Heap.get?_update_self f ho (by rw[hf]<;>rfl),hf]
 refine I.write (x:=p) (e:=p) (by rw[h]; trivial) (.inl rfl) (λb u hb q=>(Heap.get?_update_other _ _ (pS hb)).trans q) ⟨_,e⟩ ?_;exact⟨hz,its',n',r,e⟩
def d9:V->V->V->Hp->(Hp->Prop)->Prop:=λo i v H Q=>∃p xs k j,o=.ref p/\i=.int k/\H p=some (.lst xs)/\ixN xs.length k=some j/\Q (ze H p (.lst (xs.set j v)))
theorem fw:JJ X d9:=by
 intro z8 s σ H o i v ov iv u Q I ro ri rv h;obtain⟨p,xs,k,j,rfl,rfl,hp,hj,q⟩:=h;cases ro;obtain⟨t,rfl⟩:=ri;obtain⟨its,n,r,ho,hz⟩:=I.lst hp;obtain⟨h1,h2,h3,h4⟩:=FB hj;have hl:=r.length;have hn:=Y2
 have I':Inv X z8 σ (ze H p (.lst (xs.set j v))) { s with heap:=s.heap.update p (Obj.mapSeq (·.setIfInBounds j u)) }:=
  I.lstUpd hp ho (Sv its n j u) (r.set rv j) (by rw[u7]; exact hz) s.toks
 by_cases h0:0<=k
 ·have hk:k.toNat=j:=by
   rw[seqIndex_of h0 h4]at h1;exact wz h1
  exact W.ki_setAt ho h0 (by omega) (by rw[ya,<-hl]; exact h4) (by rw[hk]; exact⟨_,I',q⟩)
 ·have hk:(k+(its.toArray.size:Int)).toNat=j:=by
   rw[seqIndex_neg (by omega) h3]at h1;rw[ya,<-hl];exact wz h1
  exact W.ki_setBack ho (by omega) (by rw[ya,<-hl]; exact h3) (by omega) (by rw[hk]; exact⟨_,I',q⟩)
theorem lJ(lo hi:Option Int)(n:Nat):(sliceBounds lo hi none n).1=((HT.sIx n 0 lo:Nat):Int)/\(sliceBounds lo hi none n).2.1=((HT.sIx n n hi:Nat):Int)/\(sliceBounds lo hi none n).2.2=1:=by
 refine⟨?_,?_,rfl⟩
 ·cases lo with
  |none=>simp[sliceBounds,HT.sIx]
  |some i=>
   simp only[sliceBounds,HT.sIx,Option.getD_none,show(1:Int)>0 by decide,qO];by_cases h:i<0
   ·simp only[h,qO]<;>omega
   ·simp only[h,Y_]<;>omega
 ·cases hi with
  |none=>simp[sliceBounds,HT.sIx]
  |some i=>
   simp only[sliceBounds,HT.sIx,Option.getD_none,show(1:Int)>0 by decide,qO];by_cases h:i<0
   ·simp only[h,qO]<;>omega
   ·simp only[h,Y_]<;>omega
theorem lI(its:List Value)(lo hi:Option Int):slicePick its.toArray lo hi none=((its.drop (HT.sIx its.length 0 lo)).take (HT.sIx its.length its.length hi-HT.sIx its.length 0 lo)).toArray:=by
 obtain⟨h1,h2,h3⟩:=lJ lo hi its.toArray.size;unfold slicePick;rw[h1,h2,h3];simp only[sliceRange_one,pick_run,ya]<;>rfl
def GU(K:W.Frag):V->Option Int->Option Int->Hp->VK->Prop:=λx lo hi H Q=>∃a xs,x=.ref a/\yG K H a xs/\∀p,H p=none->Q (.ref p) (ze H p (.lst (jo xs lo hi)))
theorem lD:j5 X (GU X.K):=by
 intro z8 s σ H x v vl vu lo hi sl Q I rx hs pl pu h;obtain⟨a,xs,rfl,hx,q⟩:=h;cases rx;obtain⟨its,r,ht,hz⟩:=I.list hx;have hlen:=r.length;refine⟨"list",_,slot_list_getitem.lookup,ht.isList.typeIs,?_⟩;refine wpAny_getItem_list_slice ht.isList hs pl pu .none (by simp) ?_ (by rw[ya]<;>omega);rw[lI,<-hlen];refine⟨.ref s.heap.objs.size,_,I.laid (t':=s.toks) (o:=.lst (jo xs lo hi)) (λb ob q=>Heap.get?_push_of_some _ q) (zt _) ?_,rfl,q _ (I.hok.fresh (zt _))⟩;exact⟨wX (Bz xs lo hi) hz,_,0,(r.drop (HT.sIx xs.length 0 lo)).take (HT.sIx xs.length xs.length hi-HT.sIx xs.length 0 lo),Heap.get?_push_size _ rfl⟩
def tM:V->Bool
 |.non=>true
 |.bl _=>true
 |.int _=>true
 |.str _=>true
 |_=>false
def uV:V->V->Bool
 |.non,.non=>true
 |.bl a,.bl b=>a==b
 |.bl a,.int b=>(if a then 1 else 0)==b
 |.int a,.bl b=>a==(if b then 1 else 0)
 |.int a,.int b=>a==b
 |.str a,.str b=>a==b
 |_,_=>false
theorem DP{A:Around}{s:Shared}{y x:V}{u v:Value}(ry:zr y u)(rx:zr x v)(fy:tM y=true)(fx:tM x=true):SeqAt.EqAt A s u v (uV y x):=by
 cases y with
 |non=>
  cases ry;cases x with
  |non=>cases rx; exact Mw _
  |bl b=>cases rx; exact SeqAt.EqAt.none_bool b
  |int b=>obtain⟨t,rfl⟩:=rx; exact SeqAt.EqAt.none_int b t
  |str b=>obtain⟨t,rfl⟩:=rx; exact SeqAt.EqAt.none_str b t
  |_=>exact absurd (show false=true from fx) yR
 |bl a=>
  cases ry;cases x with
  |non=>cases rx; exact SeqAt.EqAt.bool_none a
  |bl b=>cases rx; exact SeqAt.EqAt.bool_bool a b
  |int b=>obtain⟨t,rfl⟩:=rx; exact SeqAt.EqAt.bool_int a b t
  |str b=>obtain⟨t,rfl⟩:=rx; exact SeqAt.EqAt.bool_str a b t
  |_=>exact absurd (show false=true from fx) yR
 |int a=>
  obtain⟨t',rfl⟩:=ry;cases x with
  |non=>cases rx; exact SeqAt.EqAt.int_none a t'
  |bl b=>cases rx; exact SeqAt.EqAt.int_bool a t' b
  |int b=>obtain⟨t,rfl⟩:=rx; exact SeqAt.EqAt.int_int a t' b t
  |str b=>obtain⟨t,rfl⟩:=rx; exact SeqAt.EqAt.int_str a t' b t
  |_=>exact absurd (show false=true from fx) yR
 |str a=>
  obtain⟨t',rfl⟩:=ry;cases x with
  |non=>cases rx; exact SeqAt.EqAt.str_none a t'
  |bl b=>cases rx; exact SeqAt.EqAt.str_bool a t' b
  |int b=>obtain⟨t,rfl⟩:=rx; exact SeqAt.EqAt.str_int a t' b t
  |str b=>obtain⟨t,rfl⟩:=rx; exact SeqAt.EqAt.str_str a t' b t
  |_=>exact absurd (show false=true from fx) yR
 |_=>exact absurd (show false=true from fy) yR
def vo(x:V)(u:Value):Bool:=match u with
 |.none=>uV .non x
 |.bool b=>uV (.bl b) x
 |.int i _=>uV (.int i) x
 |.str z _=>uV (.str z) x
 |_=>false
theorem Jj{x y:V}{u:Value}(r:zr y u)(f:tM y=true):vo x u=uV y x:=by
 cases y with
 |non=>cases r; rfl
 |bl b=>cases r; rfl
 |int i=>obtain⟨t,rfl⟩:=r; rfl
 |str z=>obtain⟨t,rfl⟩:=r; rfl
 |_=>exact absurd (show false=true from f) yR
theorem XL{x:V}:∀{xs:List V}{us:List Value},zf xs us->xs.all tM=true->us.any (vo x)=xs.any λy=>uV y x
 |_,_,.nil,_=>rfl
 |y::xs,u::us,.cons r t,f=>by
  rw[xz,xB]at f;rw[Z7,Z7,Jj r f.1,XL t f.2]
theorem Y5{A:Around}{s:Shared}{x:V}{v:Value}(rx:zr x v)(fx:tM x=true):∀{xs:List V}{us:List Value},zf xs us->xs.all tM=true->∀u∈us,SeqAt.EqAt A s u v (vo x u)
 |_,_,.nil,_=>λu hu=>by cases hu
 |y::xs,u::us,.cons r t,f=>λu' hu=>by
  rw[xz,xB]at f;rcases yI.mp hu with rfl|hu
  ·rw[Jj r f.1]; exact DP r rx f.1 fx
  ·exact Y5 rx fx t f.2 u' hu
def TF(x:V)(xs:List V):Bool:=xs.any λy=>uV y x
def LA(K:W.Frag)(neg:Bool):R2:=λx y H Q=>∃p xs,y=.ref p/\(yG K H p xs\/xE K H p xs)/\tM x=true/\xs.all tM=true/\Q (.bl (if neg then !TF x xs else TF x xs)) H
theorem ax:yT X (compareOp .In) (LA X.K false):=by
 intro z8 s σ H x y v u Q I rx ry h;obtain⟨p,xs,rfl,hq,fx,fs,q⟩:=h;cases ry;rcases hq with hq|hq
 ·obtain⟨its,r,pl,hz⟩:=I.list hq;refine SeqAt.in_listAt (vo x) pl.isList (λw hw=>Y5 rx fx r fs w (by simpa using hw)) ⟨.bl _,H,I,rfl,?_⟩;rw[show its.toArray.any (vo x)=its.any (vo x) by simp,XL r fs];exact q
 ·obtain⟨its,r,pl,hz⟩:=I.tuple hq;refine SeqAt.in_tupleAt (vo x) pl (λw hw=>Y5 rx fx r fs w (by simpa using hw)) ⟨.bl _,H,I,rfl,?_⟩;rw[show its.toArray.any (vo x)=its.any (vo x) by simp,XL r fs];exact q
theorem b8:yT X (compareOp .NotIn) (LA X.K true):=by
 intro z8 s σ H x y v u Q I rx ry h;obtain⟨p,xs,rfl,hq,fx,fs,q⟩:=h;cases ry;rcases hq with hq|hq
 ·obtain⟨its,r,pl,hz⟩:=I.list hq;refine SeqAt.notIn_listAt (vo x) pl.isList (λw hw=>Y5 rx fx r fs w (by simpa using hw)) ⟨.bl _,H,I,rfl,?_⟩;rw[show its.toArray.any (vo x)=its.any (vo x) by simp,XL r fs];exact q
 ·obtain⟨its,r,pl,hz⟩:=I.tuple hq;refine SeqAt.notIn_tupleAt (vo x) pl (λw hw=>Y5 rx fx r fs w (by simpa using hw)) ⟨.bl _,H,I,rfl,?_⟩;rw[show its.toArray.any (vo x)=its.any (vo x) by simp,XL r fs];exact q
theorem b9:yT X (compareOp .NotIn) (λx y H Q=>∃i j,x=.str i/\y=.str j/\Q (.bl (!(!(Builtin.Str.occurrences j i 0 j.length 1).isEmpty))) H):=by
 intro z8 s σ H x y v u Q I rx ry h;obtain⟨i,j,rfl,rfl,q⟩:=h;obtain⟨t,rfl⟩:=rx;obtain⟨t',rfl⟩:=ry;exact notIn_str ⟨.bl _,H,I,rfl,q⟩
theorem NV:wr X (.builtin "len") (λxs H Q=>∃p ys,xs=[.ref p]/\(yG X.K H p ys\/xE X.K H p ys)/\Q (.int ys.length) H):=by
 intro z8 s σ H xs us Q I r h;obtain⟨p,ys,rfl,hq,q⟩:=h;obtain⟨u,rfl,rx⟩:=ub r;cases rx;have hn:=Y2;rcases hq with hq|hq
 ·obtain⟨its,r',pl,hz⟩:=I.list hq;have hlen:=r'.length;exact Calls.call_len_list pl.isList (by simp only[ya]<;>omega) ⟨.int ys.length,H,I.tok _,⟨s.toks+1,by rw[ya,hlen]⟩,q⟩
 ·obtain⟨its,r',pl,hz⟩:=I.tuple hq;have hlen:=r'.length;exact len_tuple pl (by simp only[ya]<;>omega) ⟨.int ys.length,H,I.tok _,⟨s.toks+1,by rw[ya,hlen]⟩,q⟩
theorem NW:wr X (.builtin "len") (λxs H Q=>∃z,xs=[.str z]/\z.length<=sizeLine/\Q (.int z.length) H):=by
 intro z8 s σ H xs us Q I r h;obtain⟨z,rfl,hz,q⟩:=h;obtain⟨u,rfl,t,rfl⟩:=ub r;have hn:=Y2;exact len_str (by omega) ⟨.int z.length,H,I.tok _,⟨_,rfl⟩,q⟩
theorem wr.or{f:Value}{r r':List V->Hp->VK->Prop}(h:wr X f r)(h':wr X f r'):wr X f (λxs H Q=>r xs H Q\/r' xs H Q):=by
 intro z8 s σ H xs us Q I rs q;rcases q with q|q
 ·exact h z8 s σ H xs us Q I rs q
 ·exact h' z8 s σ H xs us Q I rs q
theorem NY:wr X (.type "list") (λxs H Q=>∃p ys,xs=[.ref p]/\(yG X.K H p ys\/xE X.K H p ys)/\∀l,H l=none->Q (.ref l) (ze H l (.lst ys))):=by
 intro z8 s σ H xs us Q I r h;obtain⟨p,ys,rfl,hq,q⟩:=h;obtain⟨u,rfl,rx⟩:=ub r;cases rx
 have fin:∀(its:List Value),zf ys its->ys.length<=sizeLine->∀(h':Heap)(c':Nat),(∀b o',s.heap.get? b=some o'->h'.get? b=some o')->
   h'.get? s.heap.objs.size=some { cls:=.type "list",dict:=none,data:=.seq its.toArray c',slots:=#[] }->EP X z8 σ Q (.ref s.heap.objs.size) { s with heap:=h' }:=λits r' hz h' c' kp e=>
  ⟨.ref s.heap.objs.size,_,I.laid (t':=s.toks) kp (zt _) (show xP X.prog X.w _ h' _ (.lst ys)from⟨hz,its,c',r',e⟩),rfl,q _ (I.hok.fresh (zt _))⟩
 rcases hq with hq|hq
 ·obtain⟨its,r',pl,hz⟩:=I.list hq;have hlen:=r'.length;obtain⟨o,ho,hc,n,hd⟩:=pl.isList;exact call_list_seq p (.inl rfl) ho hc hd (λh' c' kp e=>fin its r' hz h' c' kp e) (by simp only[ya]<;>omega)
 ·obtain⟨its,r',pl,hz⟩:=I.tuple hq;have hlen:=r'.length;obtain⟨o,ho,hc,n,hd⟩:=pl;exact call_list_seq p (.inr rfl) ho hc hd (λh' c' kp e=>fin its r' hz h' c' kp e) (by simp only[ya]<;>omega)
def Lr(K:W.Frag)(T:String)(x:V)(H:Hp):Prop:=match x with
 |.str _=>T = "str"
 |.int _=>T = "int"
 |.ref p=>(T = "list" /\ ∃xs,yG K H p xs)\/(T = "tuple" /\ ∃o,K.lookup p=some o/\o.cls=.type "tuple" /\ o.dict=none) \/
   (T = "dict" /\ ((∃kvs,H p=some (.dK kvs))\/∃kvs,H p=some (.dT kvs)))\/(T = "set" /\ ∃S n,H p=some (.set S n))
 |_=>False
theorem Hi{z8:List (Addr×Obj)}{σ:St}{H:Hp}{s:Shared}{T:String}{x:V}{v:Value}(I:Inv X z8 σ H s)(r:zr x v)(ty:Lr X.K T x H) :
  s.TypeIs v T/\∀a,v=.ref a->∃ob,s.heap.get? a=some ob/\ob.dict=none:=by
 cases x with
 |str z=>
  obtain⟨t,rfl⟩:=r;cases(show T = "str" from ty);exact⟨Qz s z t,λ_ e=>nomatch e⟩
 |int i=>
  obtain⟨t,rfl⟩:=r;cases(show T = "int" from ty);exact⟨typeIs_int s i t,λ_ e=>nomatch e⟩
 |ref p=>
  cases r;rcases ty with⟨rfl,xs,hq⟩|⟨rfl,o,hk,hc,hd⟩|⟨rfl,hk⟩|⟨rfl,S,n,hk⟩
  ·obtain⟨its,_,pl,_⟩:=I.list hq;refine⟨pl.isList.typeIs,λa e=>?_⟩;cases e;obtain⟨o,n,e,c,hd,_⟩:=pl;exact⟨o,e,hd⟩
  ·refine⟨⟨o,I.kIn p o hk,hc⟩,λa e=>?_⟩;cases e;exact⟨o,I.kIn _ o hk,hd⟩
  ·have z:∃o,s.heap.get? p=some o/\o.ExactDict:=by
    rcases hk with⟨kvs,hk⟩|⟨kvs,hk⟩
    ·obtain⟨_,_,_,_,o,_,_,e,ex,_⟩:=I.hok p _ hk;exact⟨o,e,ex⟩
    ·obtain⟨_,_,_,_,o,_,_,e,ex,_⟩:=I.hok p _ hk;exact⟨o,e,ex⟩
   obtain⟨o,e,ex⟩:=z;refine⟨⟨o,e,ex.1⟩,λa e2=>?_⟩;cases e2;exact⟨o,e,ex.2.1⟩
  ·obtain⟨o,_,_,_,e,ex,_⟩:=I.hok p _ hk;refine⟨⟨o,e,ex.1⟩,λa e2=>?_⟩;cases e2;exact⟨o,e,ex.2.1⟩
 |_=>exact False.elim ty
def HZ(K:W.Frag)(T:String)(r:V->List V->Hp->VK->Prop)(to:TE):TE:=λσ H Q=>to σ H λx H1=>Lr K T x H1/\r x [] H1 Q
def HY(K:W.Frag)(T:String)(r:V->List V->Hp->VK->Prop)(to:TE)(t:TA):TE:=λσ H Q=>to σ H λx H1=>Lr K T x H1/\t σ H1 λxs H2=>r x xs H2 Q
variable{o e:Expr}{es:List Expr}{to:TE}{t:TA}{name:Str}{apos cpos:Pos}{T id:String}{r:V->List V->Hp->VK->Prop}
theorem bN(pa:PlainAttrs T)(slot:Slot T name id)(hty:typeOf (.builtin id)=pure (.type "method_descriptor"))(hm:gx X id r)(ho:PE X o to)
  (hbase:attributeBase o name X.env (eval o X.env)=eval o X.env:=by rfl)(hline:(apos.endLine==cpos.line)=true:=by rfl):PE X (.Call (.Attribute o name apos) [] [] cpos) (HZ X.K T r to):=by
 intro z8 s σ H Q I h;refine wpAny_Call_method0_late hbase hline (zw (ho z8 s σ H _ I h) λv s1 ⟨x,H1,I1,r1,ty,q1⟩=>?_);obtain⟨h1,h2⟩:=Hi I1 r1 ty;exact⟨T,id,pa,slot,hty,h1,h2,Calls.callWith_builtin rfl (PySem.evalArgs_none (hm z8 s1 σ H1 x [] v [] Q I1 r1 .nil q1))⟩
theorem bM(pa:PlainAttrs T)(slot:Slot T name id)(hty:typeOf (.builtin id)=pure (.type "method_descriptor"))(hm:gx X id r)(ho:PE X o to)(ha:PA X (e::es) t)
  (hbase:attributeBase o name X.env (eval o X.env)=eval o X.env:=by rfl)
  (hfew:((backTo cpos (starEach (e::es) X.env)).all (λx=>!x.1)&&(backToKw cpos (keywordEach [] X.env)).all (λx=>x.1.isSome)
   && decide ((e::es).length+([]:List Keyword).length+(if([]:List Keyword).isEmpty then 0 else 1)<30))=true:=by rfl)
  (hline:(apos.endLine==cpos.line)=true:=by rfl)(hs:starEach (e::es) X.env=(false,eval e X.env)::starEach es X.env:=by rfl)(hplain:(backTo cpos (starEach es X.env)).any (·.1)=false:=by rfl) :
  PE X (.Call (.Attribute o name apos) (e::es) [] cpos) (HY X.K T r to t):=by
 intro z8 s σ H Q I h;refine wpAny_Call_method_late hbase hfew hline rfl (zw (ho z8 s σ H _ I h) λv s1 ⟨x,H1,I1,r1,ty,q1⟩=>?_);obtain⟨h1,h2⟩:=Hi I1 r1 ty;refine⟨T,id,pa,slot,hty,h1,h2,?_⟩;have hA:=ha cpos z8 s1 σ H1 _ I1 q1;rw[hs]at hA ⊢;refine Calls.callWith_builtin (by show(false||(backTo cpos (starEach es X.env)).any (·.1))=false; rw[hplain]<;>rfl) (Calls.evalArgs_plain ?_);exact zw hA λus s2 ⟨vs,H2,I2,r2,q2⟩=>hm z8 s2 σ H2 x vs v us Q I2 r1 r2 q2
end
def U9(X:Cx)(id:String)(r:V->List V->Hp->VK->Prop):Prop:=
 ∀(z8:List (Addr×Obj)) (s:Shared) (σ:St) (H:Hp) (x:V) (xs:List V) (v:Value) (us:List Value) (Q:VK),Inv X z8 σ H s->zr x v->zf xs us->r x xs H Q->
  wpAny (model X.prog X.w) X.A (call (.builtin id) (v::us)) (EP X z8 σ Q) X.xe s
theorem zf.one:∀{x:V}{us:List Value},zf [x] us->∃u,us=[u]/\zr x u
 |_,_,.cons r .nil=>⟨_,rfl,r⟩
theorem zf.zero:∀{us:List Value},zf [] us->us=[]
 |_,.nil=>rfl
theorem zf.dropLast{xs:List V}{us:List Value}(h:zf xs us):zf xs.dropLast us.dropLast:=by
 induction h with
 |nil=>exact .nil
 |cons r t ih=>
  cases t with
  |nil=>exact .nil
  |cons q t'=>exact .cons r ih
theorem zf.rep{xs:List V}{us:List Value}(h:zf xs us):∀k:Nat,zf (List.replicate k xs).flatten (List.replicate k us).flatten
 |0=>.nil
 |k+1=>by
  rw[pR,pR,Z9,Z9];exact zf.append h (zf.rep h k)
theorem PJ{α:Type}(l:List α):l.eraseIdx (l.length-1)=l.dropLast:=by
 induction l with
 |nil=>rfl
 |cons a r ih=>
  cases r with
  |nil=>rfl
  |cons b r=>
   have e:(a::b::r).length-1=((b::r).length-1)+1:=by
    have h1:(a::b::r).length=r.length+2:=rfl;have h2:(b::r).length=r.length+1:=rfl;omega
   rw[e,List.eraseIdx_cons_succ,ih]
   all_goals rfl
theorem DW(its:List Value):∀(k:Nat)(acc:List Value),
  List.foldl (λx1 x2=>x1++x2) acc.toArray (List.replicate k its.toArray)=(acc++(List.replicate k its).flatten).toArray
 |0,acc=>by simp
 |k+1,acc=>by
  have e:acc.toArray++its.toArray=(acc++its).toArray:=by simp
  have e2:(acc++its)++(List.replicate k its).flatten=acc++(List.replicate (k+1) its).flatten:=by
   rw[pR,Z9,ql]
  rw[<-e2,<-DW its k (acc++its),<-e,pR,vB]
section
variable{X:Cx}{z8:List (Addr×Obj)}{σ:St}{H:Hp}{s:Shared}{l b:Addr}{xs ys zs:List V}
theorem Inv.lset{its its':List Value}{n:Nat}{f:Array Value->Array Value}{t':Nat}(I:Inv X z8 σ H s)(hH:H l=some (.lst xs))
  (e:s.heap.get? l=some { cls:=.type "list",data:=.seq its.toArray n })(hf:f its.toArray=its'.toArray)(hv:zf ys its')(hz:ys.length<=sizeLine) :
  Inv X z8 σ (ze H l (.lst ys)) { s with heap:=s.heap.update l (Obj.mapSeq f),toks:=t' }:=by
 have q:=PySem.IsL.update e f;rw[hf]at q;refine I.write (x:=l) (e:=l) (by rw[hH]; exact trivial) (.inl rfl) (λb' u hb hu=>(Heap.get?_update_other s.heap (Obj.mapSeq f) (pS hb)).trans hu) ⟨_,q⟩ ?_;exact⟨hz,its',_,hv,q⟩
theorem Inv.lnew{its:List Value}{t':Nat}(I:Inv X z8 σ H s)(hv:zf ys its)(hz:ys.length<=sizeLine) :
  Inv X z8 σ (ze H s.heap.objs.size (.lst ys)) { s with heap:=s.heap.push { cls:=.type "list",data:=.seq its.toArray },toks:=t' }:=
 I.laid (λ_ _ q=>Heap.get?_push_of_some _ q) (zt _) ⟨hz,its,0,hv,Heap.get?_push_size _ rfl⟩
theorem Inv.fresh(I:Inv X z8 σ H s):H s.heap.objs.size=none:=I.hok.fresh (zt _)
theorem Inv.lstM(I:Inv X z8 σ H s)(hH:H l=some (.lst xs)):xs.length<=sizeLine/\∃(its:List Value) (n:Nat),zf xs its/\xs.length=its.length/\s.heap.get? l=some { cls:=.type "list",data:=.seq its.toArray n }:=by
 obtain⟨z,its,n,r,e⟩:=I.hok l _ hH;exact⟨z,its,n,r,r.length,e⟩
theorem CY{n:Nat}(h:n<=sizeLine):Builtin.List.listTooLong n=false:=by
 unfold Builtin.List.listTooLong;exact yy (by omega)
end
section
variable{X:Cx}
def ck:V->List V->Hp->VK->Prop:=λx vs H Q=>∃l xs y,x=.ref l/\vs=[y]/\H l=some (.lst xs)/\xs.length<sizeLine/\Q .non (ze H l (.lst (xs++[y])))
theorem C2:U9 X "list.append" ck:=by
 intro z8 s σ H x vs v us Q I rx rv h;obtain⟨l,xs,y,rfl,rfl,hH,hz,q⟩:=h;cases rx;obtain⟨u,rfl,ru⟩:=rv.one;obtain⟨z,its,n,r,hl,e⟩:=I.lstM hH;refine gW F.slot_list_append ⟨_,e,rfl⟩ F.entry_list_append (F.args_list_append_2 _ _) (PySem.list_append l its.toArray n u (by rw[ya]; omega)) ⟨e,?_⟩;refine⟨.non,_,I.lset (its':=its++[u]) hH e (by simp) (r.append (.cons ru .nil)) ?_,rfl,q⟩;rw[yD,VQ];omega
def cz:V->List V->Hp->VK->Prop:=λx vs H Q=>∃l xs y,x=.ref l/\vs=[]/\H l=some (.lst xs)/\xs[xs.length-1]?=some y/\Q y (ze H l (.lst xs.dropLast))
theorem A4:U9 X "list.pop" cz:=by
 intro z8 s σ H x vs v us Q I rx rv h;obtain⟨l,xs,y,rfl,rfl,hH,hy,q⟩:=h;cases rx;have hus:=rv.zero;subst hus;obtain⟨z,its,n,r,hl,e⟩:=I.lstM hH;obtain⟨u,hu,ru⟩:=r.get hy
 have hy':its.toArray[its.toArray.size-1]?=some u:=by
  show its.toArray[its.length-1]?=some u;rw[<-Z5,<-hl];exact hu
 refine gW F.slot_list_pop ⟨_,e,rfl⟩ F.entry_list_pop (F.args_list_pop_1 _) (MeetsSeq.list_pop_last l its.toArray n u hy' (by rw[ya]; omega)) ⟨e,?_⟩;refine⟨y,_,I.lset (its':=its.dropLast) hH e ?_ r.dropLast ?_,ru,q⟩
 ·show its.toArray.eraseIdxIfInBounds (its.toArray.size-1)=its.dropLast.toArray;rw[ya,List.eraseIdxIfInBounds_toArray,PJ]
 ·rw[KY];omega
def cn:V->List V->Hp->VK->Prop:=λx vs H Q=>∃l xs,x=.ref l/\vs=[]/\H l=some (.lst xs)/\Q .non (ze H l (.lst []))
theorem S_:U9 X "list.clear" cn:=by
 intro z8 s σ H x vs v us Q I rx rv h;obtain⟨l,xs,rfl,rfl,hH,q⟩:=h;cases rx;have hus:=rv.zero;subst hus;obtain⟨z,its,n,r,hl,e⟩:=I.lstM hH;refine gW F.slot_list_clear ⟨_,e,rfl⟩ F.entry_list_clear (F.args_list_clear_1 _) (AutoSeq1.list_clear_list_0 l its.toArray n (by rw[ya]; omega)) ⟨e,?_⟩;exact⟨.non,_,I.lset (its':=[]) (ys:=[]) hH e rfl .nil (xb _),rfl,q⟩
def d7:R2:=λx y H Q=>∃l k xs,x=.ref l/\y=.int k/\H l=some (.lst xs) /\ -(2 ^ 63)<=k/\k<2 ^ 63/\xs.length*k.toNat<=sizeLine/\
 ∀p,H p=none->Q (.ref p) (ze H p (.lst (List.replicate k.toNat xs).flatten))
theorem Fw{α:Type}(xs:List α)(k:Nat):(List.replicate k xs).flatten.length=k*xs.length:=by
 induction k with
 |zero=>simp
 |succ k ih=>rw[pR,Z9,yD,ih,Ms,Nat.add_comm]
theorem bB:yT X (binaryOp .Mult) d7:=by
 intro z8 s σ H x y v u Q I rx ry h;obtain⟨l,k,xs,rfl,rfl,hH,h1,h2,hz,q⟩:=h;cases rx;obtain⟨t,rfl⟩:=ry;obtain⟨z,its,n,r,hl,e⟩:=I.lstM hH;have hlen:its.toArray.size*k.toNat<=sizeLine:=by rw[ya,<-hl]; exact hz
 have hcap:¬ its.toArray.size*k.toNat>(2 ^ 63-1)/8:=by
  have:(sizeLine:Nat)<=(2 ^ 63-1)/8:=by decide
  omega
 have hfit:¬ (!Builtin.List.listFitsIndex k)=true:=by
  rw[fitsIndex_both h1 h2];exact yR
 have hlong:¬ Builtin.List.listTooLong (its.toArray.size*k.toNat)=true:=by
  rw[CY hlen];exact yR
 have hnew:List.foldl (λx1 x2=>x1++x2) #[] (List.replicate (if its.toArray.isEmpty=true then 0 else k.toNat) its.toArray)=(List.replicate k.toNat its).flatten.toArray:=by
  have f0:∀m:Nat,List.foldl (λx1 x2=>x1++x2) #[] (List.replicate m its.toArray)=(List.replicate m its).flatten.toArray:=λm=>by
   have:=DW its m [];rw[tZ]at this;exact this
  rw[f0];cases its with
  |nil=>simp
  |cons a r'=>rw[zL (by simp)]
 refine wpAny_binaryOp_repeat_ref (T := "list") (U := "int") (by decide) ⟨_,e,rfl⟩ (λs'=>typeIs_int s' k t) noFill_list_mul F.fills_int_mul F.slot_int_rmul repeat_list F.slot_int_index.lookup
  (gW F.slot_int_rmul (typeIs_int s k t) F.entry_int_rmul (F.args_int_rmul_2 _ _) (int___rmul___int_list k t l its.toArray n)
   ⟨e,rfl,⟨_,e,rfl⟩,gW F.slot_list_mul ⟨_,e,rfl⟩ F.entry_list_mul (F.args_list_mul_2 _ _) (AutoListH.list___mul___list_int_3 l its.toArray n k t hfit hcap hlong) ⟨e,?_⟩⟩)
 rw[hnew];exact⟨.ref _,_,I.lnew (t':=s.toks) (r.rep k.toNat) (by rw[Fw,Nat.mul_comm]; exact hz),rfl,q _ I.fresh⟩
end
section
variable{prog:Program}{w:World}{A:Around}{E:Value->Shared->Prop}{s:Shared}
end
section
variable{X:Cx}
end
end L2
namespace Att
open PySem PySem.W PySem.Calls PyProof.Rows
theorem Rc{P:Params}{h:Heap}:∀(ns:List Int)(vs:List Value),WellAll P h vs (ns.map WData.int)->IntsAre vs ns:=by
 intro ns
 induction ns with
 |nil=>
  intro vs w;rw[Qq]at w;cases w;exact .nil
 |cons n ns ih=>
  intro vs w;rw[xT]at w;cases w with
  |cons a b=>
   cases a;exact .cons _ _ (ih _ b)
theorem script_of{l:OpenLaw}{n:Nat}(hn:l.most=some n){P:Params}{h:Heap}{args:List WData}{vals:List Value}
  (hpre:l.row.toRowW.claim.pre args=true)(hwl:WellAll P h vals args) :
  ∃a vs ns,vals=[Value.ref a]/\args=[WData.list (ns.map WData.int)]/\h.get? a=some { cls:=.type "list",data:=.seq vs.toArray }/\IntsAre vs ns/\ns.length<=n:=by
 have hsh:WShape.hasAll [] args [.list .int]=true:=(pre_splitW hpre).1;have hc:l.pre.holds [] { args:=args }=true:=(pre_splitW hpre).2;obtain⟨d,r,rfl,h1,h2⟩:=hasAllW_cons hsh;obtain rfl:=hasAllW_nil h2;obtain⟨xs,rfl,h3⟩:=hasW_list h1;obtain⟨ns,rfl⟩:=items_int h3
 have hlen:ns.length<=n:=by
  unfold OpenLaw.pre at hc
  have h4:(WTm.not (.lt (.lit (.int (n:Int))) (.len (.arg 0)))).holds [] { args:=[.list (ns.map .int)] }=true:=by
   have h4:=(holds_andW hc).1;rw[hn]at h4;exact h4
  have h5:=condW_of h4 (w_not (w_lt w_lit (w_len_list (w_arg rfl))));rw[zj]at h5;refine Nat.le_of_not_lt λq=>?_
  have q':(n:Int)<((ns.length:Nat):Int):=by omega
  first
   |(rw[xD q']at h5; exact absurd h5 (by decide))
   |(simp at h5; omega)
 cases hwl with
 |cons w1 w2=>
  cases w2;cases w1 with
  |list ho hall=>exact⟨_,_,ns,rfl,rfl,ho,Rc ns _ hall,hlen⟩
theorem post_true(l:OpenLaw)(args:List WData):l.row.toRowW.claim.post args (.bool true) args=true:=
 postW_of (r:=l.row.toRowW) (X:=(true==true))
  (show WShape.has [] (.bool true) .bool=true by first|rfl|decide|simp[WShape.has,WShape.arms,WShape.armsAll])
  (show(WTm.eq .res (.lit (.bool true))).value [] { args:=args,res:=some (.bool true),after:=args }=some (.bool (true==true))from w_eq_bool (w_res rfl) w_lit) rfl
section
variable{prog:Program}{w:World}{A:Around}{E:Value->Shared->Prop}{s:Shared}{K:Frag}
end
end Att
namespace L2
open PySem PySem.Spec PyProof.Rows
theorem Hr:∀{vs:List Value}{ns:List Int},IntsAre vs ns->zf (ns.map V.int) vs
 |_,_,.nil=>.nil
 |_,_,.cons n t h=>.cons ⟨t,rfl⟩ (Hr h)
def BE(H:Hp):Prop:=∀b,H b=none\/∃o xs,H b=some (.frz o (.lst xs))
theorem Sd{P:Program}{w:World}{K:W.Frag}{mg mb:Str->Option Value}{CX:qt}{k:Nat}{fa a:Addr}{fd:FuncData}{x:Str}{sp:Sp}{s₁:Shared}{vs:List Value}{ns:List Int}
  (KX:K.In s₁.heap)(hns:s₁.heap.Ns mainGlobals mg)(hb:s₁.heap.Ns builtinsNs mb)(hbb:∀x:Str,x ≠ "__name__" -> mb x=bootBuiltins x)(hlim:s₁.heap.NoLimit)(hg:s₁.gens=#[])
  (ha:s₁.heap.get? a=some { cls:=.type "list",data:=.seq vs.toArray })(hi:IntsAre vs ns)(hl:ns.length<=sizeLine)(hr:xX k callerA)
  (F:∀base:Heap,K.In base->base.Ns mainGlobals mg->uq P w K mg base CX k fa fd [x] sp)(hbind:∀(s:Shared)(u:Value),BindsTo s fd ⟨[u],[]⟩ [(x,u)])
  (hsp:∀H:Hp,BE H->yG K H a (ns.map V.int)->sp [.ref a] H (λv _=>v=.bl true) λ_ _ _=>False)
  (hCX:∀H e s',CX [] H s₁ (λ_ _ _=>False) e s'->False) :
  codeAny (model P w) callerA (.call (.ref fa) ⟨[.ref a],[]⟩) (λr s'=>r=.ok (.ret (.bool true))/\OldK s₁.heap s'.heap/\s'.os=s₁.os/\AllBare s'.gens) s₁:=by
 have rv:=Hr hi;have lenV:=hi.length
 have core:∀H:Hp,BE H->yG K H a (ns.map V.int)->xU P w H s₁.heap->(∀b,H b≠none->b=a)->(H a≠none->K.lookup a=none)->
   codeAny (model P w) callerA (.call (.ref fa) ⟨[.ref a],[]⟩) (λr s'=>r=.ok (.ret (.bool true))/\OldK s₁.heap s'.heap/\s'.os=s₁.os/\AllBare s'.gens) s₁:=by
  intro H hO hS hok hA hK;have base_of:∀{b:Addr}{o:Obj},s₁.heap.get? b=some o->H b=none->(jF s₁.heap H).get? b=some o:=λe n=>RO e n
  have noA:∀{b:Addr}{o:Obj}{es:Array DictEntry}{ep:Nat},s₁.heap.get? b=some o->o.data=.dict es ep->H b=none:=λ{b o es ep} e d=>by
   cases q:H b with
   |none=>rfl
   |some u=>
    have e':b=a:=hA b (by rw[q]; simp);subst e';rw[ha]at e; cases e;have d':Data.seq vs.toArray _=Data.dict es ep:=d;cases d'
  have nsK:∀{b:Addr}{m:Str->Option Value},s₁.heap.Ns b m->(jF s₁.heap H).Ns b m:=λ{b m} ⟨o,es,ep,e,d,r⟩=>⟨o,es,ep,base_of e (noA e d),d,r⟩
  have hKb:K.In (jF s₁.heap H):=λb o e=>base_of (KX b o e) (by
   cases q:H b with
   |none=>rfl
   |some u=>
    have e':b=a:=hA b (by rw[q]; simp);subst e';rw[hK (by rw[q]; simp)]at e; cases e)
  have hM:Mod K mg (jF s₁.heap H):=⟨hKb,nsK hns,⟨mb,nsK hb,hbb⟩,let ⟨mc,h1,h2⟩:=hlim; ⟨mc,nsK h1,h2⟩⟩;have e0:U4 P w K mg (jF s₁.heap H) callerA [] s₁ H:=⟨rfl,hM,λb o e=>Ai e,Nat.le_of_eq (RP _ _),trivial,λb hb=>absurd (show b∈([]:List Addr)from hb) (by simp),hok,.of_eq hg⟩;refine ZJ ((F _ hKb (nsK hns)).run callerA [] s₁ H ⟨[.ref a],[]⟩ [.ref a] [.ref a] _ _ hr e0 (hbind s₁ (.ref a)) (.cons rfl .nil) (hsp H hO hS)) λr s' h=>?_
  cases r with
  |error e=>exact(hCX H e s' h).elim
  |ok fl=>
   cases fl with
   |next=>exact False.elim h
   |brk=>exact False.elim h
   |cont=>exact False.elim h
   |ret u=>
    obtain⟨v,H',os,bare,un,hok',r',q⟩:=h;have q':v=.bl true:=q;subst q';obtain rfl:u=Value.bool true:=r';refine⟨rfl,OldK.of_keep λb o e=>?_,os,bare⟩;cases q:H b with
    |none=>exact un.keep b o e q (by intro z; exact absurd (show b∈([]:List Addr)from z) (by simp)) (by simp)
    |some u=>
     rcases hO b with z|⟨ob,xs,z⟩
     ·rw[q]at z; cases z
     ·have z2:=un.frzs b ob _ z;obtain⟨e1,_⟩:=hok b _ z;obtain⟨e2,_⟩:=hok' b _ z2;rw[e]at e1; cases e1;exact e2
 cases hk:K.lookup a with
 |some o=>
  have e:=KX a o hk;rw[ha]at e;cases e;refine core (λ_=>none) (λ_=>.inl rfl) (.inr ⟨_,vs.toArray,_,hk,rfl,rfl,rfl,by rw[ya,lenV]; exact hl,by simpa using rv⟩) (λb u z=>by have z':(none:Option HO)=some u:=z; cases z') (λb z=>absurd rfl z) λz=>absurd rfl z
 |none=>
  refine core (λb=>if b=a then some (.frz { cls:=.type "list",data:=.seq vs.toArray } (.lst (ns.map V.int)))else none) (λb=>?_) (.inl (.inr ⟨{ cls:=.type "list",data:=.seq vs.toArray },zK rfl⟩)) (λb u z=>?_) (λb z=>?_) λ_=>hk
  ·by_cases hb:b=a
   ·exact .inr ⟨_,_,zK hb⟩
   ·exact .inl (zL hb)
  ·by_cases hb:b=a
   ·have z':=(zK hb).symm.trans z;cases z';subst hb;exact⟨ha,by rw[zj]; exact hl,vs,_,rv,ha⟩
   ·have z':=(zL hb).symm.trans z;cases z'
  ·by_cases hb:b=a
   ·exact hb
   ·exact absurd (zL hb) z
def Zd(s:Stmt):Arguments:=match s with
 |.FunctionDef _ a _ _ _ _ _ _ _ _=>a
 |_=>{ posonlyargs:=[],args:=[],vararg:=none,kwonlyargs:=[],kw_defaults:=[],kwarg:=none,defaults:=[] }
def p6(s:Stmt):List Stmt:=match s with
 |.FunctionDef _ _ b _ _ _ _ _ _ _=>b
 |_=>[]
def yB(s:Stmt):Scope:=match s with
 |.FunctionDef _ _ _ _ _ _ sc _ _ _=>sc
 |_=>{ kind:=.function,names:=[],isGenerator:=false,isCoroutine:=false }
abbrev ui:qt:=λ_ _ _ _ _ _=>False
abbrev E0:XK:=λ_ _ _=>False
theorem Om{X:Cx}:UB ui X E0:=λ_ _ _ _ _ _ _ h=>h.elim
structure jd(K:W.Frag)(x qual:Str)(st:Stmt)(f:Addr)(fd:FuncData):Prop where
 ex:∃(oc:Value) (od:Option Addr) (kV doc pm:Value) (an:Option Addr) (cdv ct:Value) (osl:Array (Option Value)),
  fd=W.fnOf x qual (Zd st) (p6 st) (yB st) .none kV doc pm an cdv ct/\K.lookup f=some ⟨oc,od,.func fd,osl⟩/\W.codeIn K cdv qual=true
 kp:W.keepIn K (.ref f)=true
section
variable{P:Program}{w:World}{K:W.Frag}{mg:Str->Option Value}{base:Heap}
theorem jd.ok{x qual:Str}{st:Stmt}{f:Addr}{fd:FuncData}{N ps:List Str}{k:Nat}{sp:Sp}(F:jd K x qual st f fd)(S:yS N ps (yB st))(len:∀vs H Q E,sp vs H Q E->vs.length=ps.length)
  (hbody:∀(cdv:Value)(A:Around)(outer:List Env)(s:Shared)(H:Hp)(vs:List V)(Q:VK)(E:XK),xX k (A.deeper (envOfC qual (yB st) s.heap.objs.size f cdv))->sp vs H Q E->
   ∃t,vR (j9 ui P w K mg base N qual (yB st) f cdv A outer s H E).nox (p6 st) t/\t { nx:=λ_ H'=>Q .non H',rt:=Q } (start N vs) H):uq P w K mg base ui (k+1) f fd ps sp:=by
 obtain⟨oc,od,kV,doc,pm,an,cdv,ct,osl,rfl,lk,hcd⟩:=F.ex;refine Pc lk hcd S len λA outer s H vs Q E hr hsp=>?_
 obtain⟨t,h,q⟩:=hbody cdv A outer s H vs Q E hr hsp;exact⟨t,h.nox,q⟩
theorem jd.binds{x qual:Str}{st:Stmt}{f:Addr}{fd:FuncData}{ps:List Str}(F:jd K x qual st f fd)
  (h:∀(kV doc pm:Value)(an:Option Addr)(cdv ct:Value)(us:List Value),us.length=ps.length->bindArgs (W.fnOf x qual (Zd st) (p6 st) (yB st) .none kV doc pm an cdv ct) ⟨us,[]⟩=pure (ps.zip us)):qr K fd ps []:=by
 obtain⟨oc,od,kV,doc,pm,an,cdv,ct,osl,rfl,lk,hcd⟩:=F.ex;exact .all (h kV doc pm an cdv ct)
theorem yq{x qual:Str}{st:Stmt}{f:Addr}{oc:Value}{od an:Option Addr}{osl:Array (Option Value)}{kV doc pm cdv ct:Value}(l:K.lookup f=some ⟨oc,od,.func (W.fnOf x qual (Zd st) (p6 st) (yB st) .none kV doc pm an cdv ct),osl⟩)
  (c:W.codeIn K cdv qual=true)(k:W.keepIn K (.ref f)=true):jd K x qual st f (W.fnOf x qual (Zd st) (p6 st) (yB st) .none kV doc pm an cdv ct):=⟨⟨oc,od,kV,doc,pm,an,cdv,ct,osl,rfl,l,c⟩,k⟩
end
theorem za{A:Around}{k:Nat}(hr:xX k A):A.units+1<cLine:=Mq (Ki (by decide:1<=64) _) hr.units
theorem lL{n:Nat}(h:n<=1000):n<sizeLine:=Mq h (by decide)
section
variable{X:Cx}
end
theorem jw{A B:Prop}(h:B):if false=true then A else B:=by
 rw[zL yR];exact h
theorem jx{A B:Prop}(h:A):if true=true then A else B:=by
 rw[zK rfl];exact h
def zx(H H':Hp):Prop:=∀b o,H b=some o->H' b=some o
theorem zx.refl(H:Hp):zx H H:=λ_ _ h=>h
theorem zx.trans{H H1 H2:Hp}(a:zx H H1)(b:zx H1 H2):zx H H2:=λc o h=>b c o (a c o h)
theorem zx.free{H H':Hp}(e:zx H H'){l:Addr}(h:H' l=Option.none):H l=Option.none:=by
 cases q:H l with
 |none=>rfl
 |some o=>
  rw[e l o q]at h;cases h
end L2
set_option linter.all false
set_option maxRecDepth 100000
set_option maxHeartbeats 4000000
namespace L2
open PySem PySem.Spec PyProof.Rows
def zP(K:W.Frag)(mg:Str->Option Value)(x:Str)(st:Stmt)(ps:List Str):Prop:=
 ∃(f:Addr) (fd:FuncData),jd K x x st f fd/\mg x=some (.ref f)/\qr K fd ps []
def zU(P:Program)(w:World)(K:W.Frag)(mg:Str->Option Value)(base:Heap)(x:Str)(ps:List Str)(k:Nat)(sp:Sp):Prop:=
 ∃(f:Addr) (fd:FuncData),mg x=some (.ref f)/\W.keepIn K (.ref f)=true/\qr K fd ps []/\uq P w K mg base ui k f fd ps sp
def yn(mg:Str->Option Value)(x:Str)(v:V):Prop:=∃u,mg x=some u/\zr v u
section
variable{P:Program}{w:World}{K:W.Frag}{mg:Str->Option Value}{base:Heap}
theorem zP.ok{x:Str}{st:Stmt}{N ps:List Str}{k:Nat}{sp:Sp}(d:zP K mg x st ps)(S:yS N ps (yB st))(len:∀vs H Q E,sp vs H Q E->vs.length=ps.length)
  (hbody:∀(f:Addr)(cdv:Value)(A:Around)(outer:List Env)(s:Shared)(H:Hp)(vs:List V)(Q:VK)(E:XK),xX k (A.deeper (envOfC x (yB st) s.heap.objs.size f cdv))->sp vs H Q E->
   ∃t,vR (j9 ui P w K mg base N x (yB st) f cdv A outer s H E).nox (p6 st) t/\t { nx:=λ_ H'=>Q .non H',rt:=Q } (start N vs) H):zU P w K mg base x ps (k+1) sp:=by
 obtain⟨f,fd,F,hm,hb⟩:=d;exact⟨f,fd,hm,F.kp,hb,F.ok S len (hbody f)⟩
end
section
variable{X:Cx}{x:Str}{p pos:Pos}{e:Expr}{es:List Expr}{t:TA}{ps:List Str}{j k:Nat}{sp:Sp}{v:V}{T:String}
def xM:Expr->Bool
 |.Starred ..=>false
 |_=>true
theorem tW{e:Expr}{es:List Expr}{env:Env}(h:xM e=true):starEach (e::es) env=(false,eval e env)::starEach es env:=by
 cases e<;>first|rfl|cases h
theorem YX{env:Env}{pos:Pos}:∀{es:List Expr},es.all xM=true->(backTo pos (starEach es env)).any (·.1)=false
 | [],_=>rfl
 |e::es,h=>by
  rw[xz,xB]at h;rw[tW h.1];have ih:=YX (env:=env) (pos:=pos) h.2;unfold backTo at ih ⊢;rw[xT,Z7,ih];rfl
theorem W4{te:TE}(ha:PE X e te)(hr:PA X es t)(h:xM e=true:=by rfl):PA X (e::es) (Lm te t):=bI ha hr (tW h)
def UG:Expr->Option Int
 |.Constant (.int i) _ _=>some i
 |_=>none
theorem N2{e:Expr}{i:Int}(h:UG e=some i):∃k p,e=.Constant (.int i) k p:=by
 cases e<;>first|(cases h; done)|skip
 rename_i c k p;cases c<;>first|(cases h; done)|skip
 cases h;exact⟨k,p,rfl⟩
def intsOf:List Expr->Option (List Int)
 | []=>some []
 |e::r=>(UG e).bind λi=>(intsOf r).map (i::·)
theorem Ek:∀{es:List Expr}{is:List Int},intsOf es=some is->PA X es (λ_ H Q=>Q (is.map V.int) H)
 | [],is,h=>by
  cases(show some []=some is from h);exact YA
 |e::r,is,h=>by
  have q:((UG e).bind λi=>(intsOf r).map (i::·))=some is:=h;cases e1:UG e with
  |none=>rw[e1]at q; cases q
  |some i=>
   rw[e1]at q;obtain⟨k,p,rfl⟩:=N2 e1;cases e2:intsOf r with
   |none=>rw[e2]at q; cases q
   |some js=>
    rw[e2]at q;cases(show some (i::js)=some is from q);exact W4 Ep (Ek e2)
theorem Oo(h:zU X.prog X.w X.K X.mg X.base x ps k sp)(hr:xX j X.A)(hg:Gl X x)(ha:PA X (e::es) t)(hk:k<=j:=by decide)(hdb:(x==("__debug__" : Str))=false:=by decide)
  (he:(e::es).all xM=true:=by rfl):PE X (.Call (.Name x p) (e::es) [] pos) (Lk sp [] E0 t):=by
 obtain⟨f,fd,hm,kp,b,F⟩:=h;rw[xz,xB]at he;exact bP F (hr.mono hk) hg hm kp b .nil Om ha hdb (tW he.1) (YX he.2)
theorem YB(h:yn X.mg x v)(hg:Gl X x)(hd:(x==("__debug__" : Str))=false:=by decide):PE X (.Name x pos) (tC v):=by
 obtain⟨u,hm,r⟩:=h;exact bV hg hm r hd
theorem bO(hg:Gl X x)(hm:X.mg x=none)(hv:bootBuiltins x=some (.type T))(hn:x ≠ "__name__" := by decide)(hd:(x==("__debug__" : Str))=false:=by decide):PE X (.Name x pos) (tC (.ty T)):=
 bL hg hm hv rfl hn hd
end
section
variable{X:Cx}{st:Stmt}{t:TS}
end
section
variable{X:Cx}
theorem uY:yT X (binaryOp .FloorDiv) (rI (λ_ j=>0<j/\j<2 ^ 64) λi j=>.int (i/j)):=W2 λi j _ _ _ _ _ hc q=>by
 have h1:(0:Int)<j:=hc.1;have h2:j<2 ^ 64:=hc.2;have h3:j.natAbs.log2<64:=(Mp (by omega)).mpr (by omega);exact PyProof.Rows.floordiv_int (by omega) (by rw[Int.fdiv_eq_ediv_of_nonneg i (by omega)]; exact q) (.inl (PyProof.noPylong_of_log2 (by omega)))
end
theorem wT:bootBuiltins "len" = some (.builtin "len"):=by decide +kernel
theorem NL:bootBuiltins "isinstance" = some (.builtin "isinstance"):=by decide +kernel
theorem Uq:bootBuiltins "all" = some (.builtin "all"):=by decide +kernel
theorem NH:bootBuiltins "int" = some (.type "int"):=by decide +kernel
theorem NG:bootBuiltins "bool" = some (.type "bool"):=by decide +kernel
theorem Bm:bootBuiltins "str" = some (.type "str"):=by decide +kernel
theorem JZ:bootBuiltins "list" = some (.type "list"):=by decide +kernel
theorem NJ:bootBuiltins "tuple" = some (.type "tuple"):=by decide +kernel
theorem SC{K:W.Frag}:W.kitOne K (.type "int") (.type "int")=some true:=by rfl
theorem S8{K:W.Frag}:W.kitOne K (.type "bool") (.type "int")=some true:=by kernel_rfl
theorem S9{K:W.Frag}:W.kitOne K (.type "int") (.type "bool")=some false:=by kernel_rfl
theorem S7{K:W.Frag}:W.kitOne K (.type "bool") (.type "bool")=some true:=by rfl
theorem SH{K:W.Frag}:W.kitOne K (.type "NoneType") (.type "int")=some false:=by kernel_rfl
theorem SD{K:W.Frag}:W.kitOne K (.type "NoneType") (.type "bool")=some false:=by kernel_rfl
theorem SK{K:W.Frag}:W.kitOne K (.type "tuple") (.type "tuple")=some true:=by rfl
theorem SJ{K:W.Frag}:W.kitOne K (.type "str") (.type "str")=some true:=by rfl
theorem v7{H:Hp}{p:Addr}(h:H p=none)(o:HO):zx H (ze H p o):=λb u q=>by rw[ym (uF q h)]; exact q
theorem small{n:Nat}(h:n<=1000):n<=sizeLine:=Yw (lL h)
section
variable{X:Cx}{tg:Expr}
end
def jb(env:Env):List (Str×Addr)->Prop
 | []=>True
 |p::r=>env.cells.lookup p.1=some p.2/\jb env r
theorem jb.get{env:Env}:∀{cl:List (Str×Addr)} {y:Str} {c:Addr},jb env cl->cl.lookup y=some c->env.cells.lookup y=some c
 | [],_,_,_,h=>by cases h
 |(n,a)::r,y,c,hc,h=>by
  rw[Me]at h;cases e:y==n with
  |true=>
   rw[e]at h;have e':y=n:=by simpa using e
   subst e';have h':a=c:=by simpa using h
   subst h';exact hc.1
  |false=>
   rw[e]at h;exact jb.get hc.2 (by simpa using h)
def Zc(scope:Scope)(env:Env)(cl:List (Str×Addr))(own:List Str):Bool:=
 scope.names.all λp=>p.1 != ("." : Str)&&((p.2 == .local&&(own.contains p.1||p.1==(".0" : Str)))||p.2 == .globalImplicit||p.2 == .globalExplicit ||
  (p.2 == .free&&(env.kindOf p.1==some .cell||env.kindOf p.1==some .free)&&(cl.lookup p.1).isSome))
def Xg(own:List Str)(y:Str):Str:=if own.contains y||y==(".0" : Str)then "." else y
def xV(N own:List Str):List Str:=N.map (Xg own)++own
theorem LD{env:Env}:∀{names:List (Str×NameKind)} {y:Str} {k:NameKind},
  (names.map λ(n,k)=>if(k==NameKind.free&&env.scope.kind == .function&&env.kindOf n==some .cell)then(n,NameKind.cell)else(n,k)).lookup y=some k->∃k0,(y,k0)∈names/\(k=k0\/(k0=.free/\k=.cell))
 | [],_,_,h=>by simp at h
 |(n,k')::r,y,k,h=>by
  rw[xT]at h;by_cases hc:(k'==NameKind.free&&env.scope.kind == .function&&env.kindOf n==some .cell)=true
  ·dsimp only at h;rw[zK hc,Me]at h;cases e:y==n with
   |true=>
    rw[e]at h;have e':y=n:=by simpa using e
    subst e';have h':NameKind.cell=k:=by simpa using h
    have hf:k'=.free:=by
     rw[xB,xB]at hc;simpa using hc.1.1
    exact⟨k',yF,.inr ⟨hf,h'.symm⟩⟩
   |false=>
    rw[e]at h;obtain⟨k0,m,z⟩:=LD (env:=env) (by simpa using h);exact⟨k0,yX _ m,z⟩
  ·dsimp only at h;rw[zL hc,Me]at h;cases e:y==n with
   |true=>
    rw[e]at h;have e':y=n:=by simpa using e
    subst e';have h':k'=k:=by simpa using h
    exact⟨k',yF,.inl h'.symm⟩
   |false=>
    rw[e]at h;obtain⟨k0,m,z⟩:=LD (env:=env) (by simpa using h);exact⟨k0,yX _ m,z⟩
def wc(X:Cx)(scope:Scope)(cl:List (Str×Addr))(own:List Str)(C:Addr)(s2:Shared)(H2:Hp)(fp:List Addr)(pn:List (Addr×Obj)):Cx:=
 { X with N:=xV X.N own,s₀:=s2,H₀:=H2,env:=compEnvC scope cl C X.env,outer:=X.stack,stack:=X.stack,ex:=fp,fn:=λ_=>false,pn:=pn,xe:=λ_ _=>False }
section
variable{X:Cx}{z8:List (Addr×Obj)}{σ:St}{H2:Hp}{s2:Shared}{scope:Scope}{cl:List (Str×Addr)}{own:List Str}{C D:Addr}{fp:List Addr}
theorem Be(hb:Zc scope X.env cl own=true){y:Str}{k:NameKind}(h:(relabel scope X.env).names.lookup y=some k) :
  y ≠ "." /\ ((k=.local->own.contains y=true\/y = ".0")/\((k=.cell\/k=.free)->(∃k0,(y,k0)∈scope.names/\k0=.cell)\/((X.env.kindOf y=some .cell\/X.env.kindOf y=some .free)/\∃c,cl.lookup y=some c))):=by
 obtain⟨k0,m,z⟩:=LD h;have q:=wm.mp hb _ m;rw[xB]at q;obtain⟨q1,q2⟩:=q;refine⟨by simpa using q1,λhk=>?_,λhk=>?_⟩
 ·rcases z with z|⟨_,z⟩
  ·subst z;subst hk;simpa using q2
  ·rw[z]at hk;cases hk
 ·have hf:k0=.free\/k0=.cell:=by
   rcases z with z|⟨z,_⟩
   ·subst z;rcases hk with hk|hk
    ·exact .inr hk
    ·exact .inl hk
   ·exact .inl z
  rcases hf with hf|hf
  ·subst hf
   right
   have q3:((X.env.kindOf y==some .cell||X.env.kindOf y==some .free)&&(cl.lookup y).isSome)=true:=by simpa using q2
   rw[xB]at q3;refine⟨?_,ZI.mp q3.2⟩;have:=q3.1;rw[Z6]at this;rcases this with t|t
   ·exact .inl (by simpa using t)
   ·exact .inr (by simpa using t)
  ·exact .inl ⟨k0,m,hf⟩
theorem JW(hb:Zc scope X.env cl own=true)(hcell:∀y∈scope.names,y.2≠.cell){y:Str}{k:NameKind}(h:(relabel scope X.env).names.lookup y=some k)(hk:k=.cell\/k=.free) :
  (X.env.kindOf y=some .cell\/X.env.kindOf y=some .free)/\∃c,cl.lookup y=some c:=by
 rcases(Be hb h).2.2 hk with⟨k0,m,e⟩|q
 ·exact absurd e (hcell _ m)
 ·exact q
theorem Bf(I:Inv X z8 σ H2 s2)(hk:scope.kind=.function)(hcell:∀y∈scope.names,y.2≠.cell)(hcap:jb X.env cl)(hb:Zc scope X.env cl own=true)(hC:s2.heap.objs.size<=C)
  (hfp:∀b∈fp,tw X z8 H2 b)(hfo:∀b∈fp,∃o,s2.heap.get? b=some o):(wc X scope cl own C s2 H2 fp (X.pn++z8)).Ok where
 mod:=I.ok.mod
 kind:=hk
 glob:=I.ok.glob
 blt:=I.ok.blt
 above:=hC
 inj:=λx y c h1 h2=>I.ok.inj x y c (hcap.get h1) (hcap.get h2)
 has:=λx hx=>by
  rcases hx with hx|hx
  ·exact(JW hb hcell (show(relabel scope X.env).names.lookup x=_ from hx) (.inl rfl)).2
  ·exact(JW hb hcell (show(relabel scope X.env).names.lookup x=_ from hx) (.inr rfl)).2
 cab:=λx c h=>by cases h
 hd:=I.ok.hd
 frames:=I.ok.frames
 stk:=.inl rfl
 exf:=λb hx=>⟨by
  obtain⟨o,e⟩:=hfo b hx;exact xh (wY (Heap.lt_size e) hC),λx c h=>(hfp b hx).2.2.2.2.1 x c (hcap.get h)⟩
 bs:=I.bs
 bsz:=wX I.ok.bsz I.sz
 noex:=λb o e hx=>by
  rcases(hfp b hx).2.2.2.1 with z|z
  ·exact I.ok.noex b o e z
  ·exact absurd (wY (Heap.lt_size e) (wX I.ok.bsz z)) (vi _)
 exfs:=λb hx hz=>by
  rcases yI.mp (I.stkSub b hz)with z|z
  ·exact(hfp b hx).2.1 z
  ·exact(hfp b hx).2.2.1 z
 funs:=I.stack
 frf:=I.stkFree
theorem T5{α:Type}{σ:List (Option α)}{n i:Nat}{v:α}(h:(σ++List.replicate n none)[i]?=some (some v)):σ[i]?=some (some v):=by
 by_cases hi:i<σ.length
 ·rw[gS hi]at h;exact h
 ·rw[VO (by omega),Yr]at h
  split at h<;>cases h
theorem NE{h4:Heap}{m0:Str->Option Value}{dobj:Obj}{tk:Nat}(I:Inv X z8 σ H2 s2)(hk:scope.kind=.function)(hcell:∀y∈scope.names,y.2≠.cell)(hcap:jb X.env cl)(hb:Zc scope X.env cl own=true)
  (hC:s2.heap.objs.size<=C)(hD:s2.heap.objs.size<=D)(hDC:D≠C)(hfp:∀b∈fp,tw X z8 H2 b)(hfo:∀b∈fp,∃o,s2.heap.get? b=some o)
  (keep:∀b o,s2.heap.get? b=some o->h4.get? b=some o)(ns:h4.Ns C m0)(hd:h4.get? D=some dobj)(hdd:∀v,dobj.data≠.cell v) :
  Inv (wc X scope cl own C s2 H2 fp (X.pn++z8)) [(D,dobj)] (σ++List.replicate own.length none) H2 { s2 with heap:=h4,toks:=tk }:=by
 have nfs:∀a,s2.heap.objs.size<=a->a ∉ tN X.stack:=λa ha hz=>by
  rcases yI.mp (I.stkSub a hz)with z|z
  ·exact absurd (wY I.lt ha) (by rw[z]; exact vi _)
  ·exact I.nofs ha z
 refine⟨Bf I hk hcell hcap hb hC hfp hfo,rfl,I.bare,Un.kept keep,⟨m0,ns,λi y v e1 e2 e3=>?_⟩,λx c h=>?_,I.hok.fresh hC,λx c h=>I.freeC x c (hcap.get h),λp hp=>?_,I.hok.kept keep,?_⟩
 ·have e2':σ[i]?=some (some v):=T5 e2
  have hi:i<X.N.length:=by
   have:=(yM.mp e2').1;rw[I.len]at this;exact this
  have e1':(X.N.map (Xg own)++own)[i]?=some y:=e1;rw[gS (by simpa using hi),xC]at e1';cases en:X.N[i]? with
  |none=>
   rw[en]at e1';cases e1'
  |some n=>
   rw[en]at e1';have ey:Xg own n=y:=wz e1'
   have vis:∃k,(relabel scope X.env).names.lookup y=some k/\(k=.local\/k=.cell\/k=.free):=by
    rcases e3 with z|z|z
    ·exact⟨_,z,.inl rfl⟩
    ·exact⟨_,z,.inr (.inl rfl)⟩
    ·exact⟨_,z,.inr (.inr rfl)⟩
   obtain⟨k,lk,kk⟩:=vis;obtain⟨nd,loc,_⟩:=Be hb lk;unfold Xg at ey;by_cases ho:(own.contains n||n==(".0" : Str))=true
   ·rw[zK ho]at ey;exact absurd ey.symm nd
   ·rw[zL ho]at ey;subst ey
    have kk':k=.cell\/k=.free:=by
     rcases kk with z|z
     ·exfalso
      apply ho;rcases loc z with t|t
      ·rw[t]; rfl
      ·subst t; simp
     ·exact z
    obtain⟨ok,c,hc⟩:=JW hb hcell lk kk';obtain⟨m,hn,hl⟩:=I.loc;obtain⟨u,r,l⟩:=hl i n v en e2' (.inr ok);refine⟨u,r,.inr ⟨?_,c,hc,?_⟩⟩
    ·rcases kk' with z|z
     ·subst z; exact .inl lk
     ·subst z; exact .inr lk
    ·rcases l with⟨z,_⟩|⟨_,c',hc',z⟩
     ·rcases ok with t|t<;>(rw[t]at z; cases z)
     ·rw[hcap.get hc]at hc';cases hc';obtain⟨o,ho',hd'⟩:=z;exact⟨o,keep _ _ ho',hd'⟩
 ·obtain⟨v,o,ho,hd'⟩:=I.cell x c (hcap.get h);exact⟨v,o,keep _ _ ho,hd'⟩
 ·rcases w4.mp hp with z|z
  ·obtain⟨e,n,ne,nf,d⟩:=I.pin p z;refine⟨keep _ _ e,n,xh (wY (Heap.lt_size e) hC),λhz=>?_,d⟩;rcases yI.mp (I.stkSub p.1 hz)with t|t
   ·exact ne t
   ·exact nf t
  ·have e:p=(D,dobj):=by simpa using z
   subst e;exact⟨hd,I.hok.fresh hD,hDC,nfs D hD,hdd⟩
 ·show(σ++List.replicate own.length none).length=(X.N.map (Xg own)++own).length;rw[yD,yD,t6,zj,I.len]
end
def gy(X:Cx)(ifs:List Expr)(tc:TT):Prop:=
 ∀(z8:List (Addr×Obj)) (s:Shared) (σ:St) (H:Hp) (Q:Bool->Hp->Prop),Inv X z8 σ H s->tc σ H Q->
  wpAny (model X.prog X.w) X.A (forIn ifs true λc r=>if r=true then do let ok <-isTrue c X.env (eval c X.env); pure (ForInStep.yield ok)else pure (ForInStep.yield r)) (TP X z8 σ Q) X.xe s
def Lo:TT:=λ_ H Q=>Q true H
theorem GA{X:Cx}:gy X [] Lo:=λ_ _ _ H _ I h=>wpAny_tests_nil ⟨H,I,h⟩
theorem cS{X:Cx}{c:Expr}{t:TT}(h:PT X c t):gy X [c] t:=λz8 s σ H Q I q=>wpAny_tests_one (h z8 s σ H Q I q)
section
variable{prog:Program}{w:World}{A:Around}{R:Result->Shared->Prop}{s:Shared}
theorem Sh{elt tg iter:Expr}{ifs:List Expr}{scope:Scope}{pos:Pos}{it acc:Value}{env:Env}(J:Nat->Shared->Prop)
  (turn:∀n s,J n s->wpAny (model prog w) A (pyNext it) (λr s₁=>match r with
   |none=>R (.ok .next) s₁
   |some v=>wpAny (model prog w) A (letOwnedTupleGo tg it v) (λ_ z=>wpAny (model prog w) A (assign tg env v) (λ_ s₂=>
    wpAny (model prog w) A (forIn ifs true λc r=>if r=true then do let ok <-isTrue c env (eval c env); pure (ForInStep.yield ok)else pure (ForInStep.yield r)) (λok s₃=>
     if ok=true then wpAny (model prog w) A (eval elt env) (λx s₄=>wpAny (model prog w) A (call (.builtin "list.append") [acc,x]) (λ_ s₅=>∃m,m<n/\J m s₅) (λ_ _=>False) s₄) (λ_ _=>False) s₃
     else ∃m,m<n/\J m s₃) (λ_ _=>False) s₂) (λ_ _=>False) z) (λ_ _=>False) s₁) (λ_ _=>False) s)
  (n:Nat)(h:J n s):codeAny (model prog w) A (.compLoop (.ListComp elt [⟨tg,iter,ifs,0⟩] scope pos) 0 it acc env) R s:=by
 have no:∀{P:Value->Shared->Prop},∀e s',(λ_ _=>False:Value->Shared->Prop) e s'->P e s':=λ_ _ z=>z.elim
 refine codeAny_loop rfl J (λn s hI=>?_) n h;show wpAny _ A (Sem.onRaise (compTurn (.ListComp elt [⟨tg,iter,ifs,0⟩] scope pos) 0 it acc env) (λx=>do noteFrame x env; theTreesLotGoes x)) _ _ s;refine wpAny_noted ?_;rw[compTurn_list];refine zE (B6 (zE (uh (turn n s hI) (λr s₁ h₁=>?_) no)));cases r with
 |none=>exact zX h₁
 |some v=>
  refine zE (uh h₁ (λ_ z hz=>?_) no);refine zE (uh hz (λ_ s₂ h₂=>?_) no);refine zE (uh h₂ (λok s₃ h₃=>?_) no);cases ok with
  |false=>exact zX ⟨rfl,h₃⟩
  |true=>
   refine zE (zE (uh h₃ (λx s₄ h₄=>?_) no));exact zE (uh h₄ (λ_ s₅ h₅=>zX (zX ⟨rfl,h₅⟩)) no)
end
abbrev vG(its:List Value)(k:Nat):Obj:={ cls:=.type "list",data:=.seq its.toArray k }
theorem Fy{its:List Value}{k:Nat}:∀v,(vG its k).data≠.cell v:=λ_ z=>nomatch z
section
variable{X:Cx}{σ:St}{H:Hp}{s:Shared}{D:Addr}
theorem Rf{pl:List (Addr×Obj)}{its its':List Value}{k k' tk:Nat}{h':Heap}(I:Inv X ((D,vG its k)::pl) σ H s)(hD:X.s₀.heap.objs.size<=D)(hpn:∀p∈X.pn,p.1≠D)
  (hs:Heap.SameBut D s.heap h')(hd:h'.get? D=some (vG its' k')):Inv X [(D,vG its' k')] σ H { s with heap:=h',toks:=tk }:=by
 obtain⟨e,n,ne,nf,d⟩:=I.pin (D,vG its k) (vJ _ yF);have I0:Inv X [] σ H s:=I.pins_of λp hp=>absurd hp (by simp)
 have I1:Inv X [] σ H { s with heap:=h',toks:=tk }:=I0.turned (it:=D) (λb o hb q=>(hs.2 b hb).trans q) n ne (.inr hD) (λx c hc z=>by
  subst z;obtain⟨v,o,ho,hv⟩:=I.cell x c hc;rw[show s.heap.get? c=some (vG its k)from e]at ho;cases ho;exact d v hv) (λp hp=>hpn p (by simpa using hp))
 exact I1.pins_of λp hp=>by
  have q:p=(D,vG its' k'):=by simpa using hp
  subst q;exact⟨hd,n,ne,nf,Fy⟩
end
section
variable{X:Cx}{tg iter elt:Expr}{ifs:List Expr}{scope:Scope}{cl:List (Str×Addr)}{own:List Str}{pos:Pos}{te:TE}{tc:TT}{g:TG}{wi:TI}
theorem rZ{fs ex:List Addr}{H H':Hp}{h h':Heap}{D:Addr}{o:HO}(u:Un fs ex H H' h h')(hD:h.objs.size<=D)(hn:H' D=none):Un fs ex H (ze H' D o) h h' where
 keep:=u.keep
 slot:=u.slot
 free:=λb ob q n hx=>by rw[ym (λz=>by subst z; exact absurd (wY (Heap.lt_size q) hD) (vi _))]; exact u.free b ob q n hx
 there:=u.there
 tups:=λb xs q=>by rw[ym (uF (u.tups b xs q) hn)]; exact u.tups b xs q
 frzs:=λb ob v q=>by rw[ym (uF (u.frzs b ob v q) hn)]; exact u.frzs b ob v q
 tbls:=λb ps q=>by
  obtain⟨more,z⟩:=u.tbls b ps q;exact⟨more,by rw[ym (uF z hn)]; exact z⟩
theorem Dm{P:Program}{w:World}{H:Hp}{h:Heap}{D:Addr}{o:HO}(x:xU P w H h)(hn:H D=none)(new:xP P w (ze H D o) h D o):xU P w (ze H D o) h:=λb u e=>by
 by_cases hb:b=D
 ·subst hb;rw[xJ]at e;cases e;exact new
 ·rw[ym hb]at e;refine(x b u e).stay (λc v _ q=>q) (λc q=>?_) (λc xs q=>?_)
  ·rw[ym (uF q hn)]; exact q
  ·rw[ym (uF q hn)]; exact q
structure gZ(X:Cx)(scope:Scope)(cl:List (Str×Addr))(own:List Str):Prop where
 kind:scope.kind=.function
 cell:∀y∈scope.names,y.2≠.cell
 cap:jb X.env cl
 ok:Zc scope X.env cl own=true
 clos:closureFor scope X.env=pure cl
 names:∀y∈scope.names,y.2=.local->scope.names.lookup y.1=some .local
structure UA(X:Cx)(z8:List (Addr×Obj))(H:Hp)(s:Shared)(C:Addr):Prop where
 free:H C=none
 ne:C≠X.env.locals
 old:X.s₀.heap.objs.size<=C
 cell:∀x c,X.env.cells.lookup x=some c->c≠C
 pin:∀p∈X.pn++z8,p.1≠C
def Xq(σ:St)(n:Nat)(J:It)(g:TG)(tc:TT)(te:TE)(W:Nat->Nat->List V->Hp->Prop)(Fin:List V->Hp->Prop):Prop:=
 ∀i m ys H,W i m ys H->(J.stop i H/\Fin ys H)\/(J.go i H/\ys.length<sizeLine/\∃N:List V->Hp->Prop,(∀ys' H',N ys' H'->∃m',m'<m/\W (i+1) m' ys' H')/\
  ∀x H',J.yld i H x H'->g x (σ++List.replicate n none) H' λσ2 H3=>(∃τ,σ2=σ++τ)/\tc σ2 H3 λc H4=>if c=true then te σ2 H4 λy H5=>N (ys++[y]) H5 else N ys H4)
theorem Bi{z8:List (Addr×Obj)}{σ:St}{H2:Hp}{s2:Shared}{fp:List Addr}{it:Addr}{tn:Nat->Heap->Prop}{J:It}{W:Nat->Nat->List V->Hp->Prop}{Fin:List V->Hp->Prop}{m0:Nat}
  {RR:Value->Addr->Result->Shared->Prop}(hcalm:X.calm=true)(B:gZ X scope cl own)(I:Inv X z8 σ H2 s2)(T:ji X.prog X.w X.K tg J fp it tn)(t0:tn 0 s2.heap)(hfp:∀b∈fp,tw X z8 H2 b)
  (hg:∀C s H fp pn,PG (wc X scope cl own C s H fp pn) tg g)(hc:∀C s H fp pn,gy (wc X scope cl own C s H fp pn) ifs tc)(he:∀C s H fp pn,PE (wc X scope cl own C s H fp pn) elt te)
  (W0:W 0 m0 [] H2)(turn:Xq σ own.length J g tc te W Fin)
  (hRR:∀D C s' H' ys m',Inv X z8 σ (ze H' D (.lst ys)) s'->H' D=none->Fin ys H'->s'.heap.Ns C m'->UA X z8 (ze H' D (.lst ys)) s' C->RR (.ref D) C (.ok .next) s'){E:Value->Shared->Prop} :
  wpAny (model X.prog X.w) X.A (newList []) (λacc s3=>wpAny (model X.prog X.w) X.A (newFunctionEnv scope X.env.globals cl [] X.env.qual none .none (some X.env)) (λcenv s4=>
   codeAny (model X.prog X.w) X.A (.compStart (.ListComp elt [⟨tg,iter,ifs,0⟩] scope pos) 0 (.ref it) acc { cenv with scope:=relabel scope X.env }) (RR acc cenv.locals) s4) E s3) E s2:=by
 refine qm (wpAny_newFunctionEnv B.cell (by intro y hy; simp at hy) (λh4 hns hsb=>?_) B.kind);dsimp only at hns hsb ⊢;generalize hP:s2.heap.push (vG [] 0)=P2 at hns hsb ⊢;have hC:P2.objs.size=s2.heap.objs.size+1:=by rw[<-hP,Heap.size_push]
 have hDC:s2.heap.objs.size≠P2.objs.size:=by rw[hC]; exact xh (ZG _)
 have hCle:s2.heap.objs.size<=P2.objs.size:=by rw[hC]; exact Mo _
 have keep:∀b o,s2.heap.get? b=some o->h4.get? b=some o:=λb o e=>
  hsb.extBut b o (xh (wY (Heap.lt_size e) hCle)) (Heap.get?_push_of_some _ (hP▸Heap.get?_push_of_some _ e))
 have hd4:h4.get? s2.heap.objs.size=some (vG [] 0):=hsb.extBut _ _ hDC (Heap.get?_push_of_some _ (hP▸Heap.get?_push_size _ rfl));have hfo:∀b∈fp,∃o,s2.heap.get? b=some o:=λb hb=>let ⟨o,e,_⟩:=T.obj 0 _ t0 b hb; ⟨o,e⟩
 have lt:∀b∈fp,b<s2.heap.objs.size:=λb hb=>let ⟨o,e⟩:=hfo b hb; Heap.lt_size e
 generalize hDD:s2.heap.objs.size=D at hDC hd4 ⊢;generalize hCC:P2.objs.size=C at hDC hns hsb hCle ⊢;have hDle:s2.heap.objs.size<=D:=Nat.le_of_eq hDD
 let X':=wc X scope cl own C s2 H2 fp (X.pn++z8)
 have hpn:∀p∈X'.pn,p.1≠D:=λp hp z=>by
  obtain⟨e,_⟩:=I.pin p hp;rw[z]at e;exact absurd (wY (Heap.lt_size e) hDle) (vi _)
 have okb:=Bf I B.kind B.cell B.cap B.ok hCle hfp hfo
 have fpok:∀{k:Nat}{its:List Value}{H':Hp},(∀b∈fp,H' b=none)->∀b∈fp,tw X' [(D,vG its k)] H' b:=λ{k its H'} hn b hb=>
  ⟨hn b hb,(okb.exf b hb).1,okb.exfs b hb,.inl hb,(okb.exf b hb).2,λp hp=>by
   rcases w4.mp hp with z|z
   ·exact(hfp b hb).2.2.2.2.2 p z
   ·have q:p=(D,vG its k):=by simpa using z
    subst q;exact λz=>absurd (lt b hb) (by rw[<-z]; exact Mr.mpr hDle)⟩
 have loop:∀s4:Shared,s4={ s2 with heap:=h4,toks:=s2.toks+([]:List (Str×Value)).length }->
   codeAny (model X.prog X.w) X.A (.compLoop (.ListComp elt [⟨tg,iter,ifs,0⟩] scope pos) 0 (.ref it) (.ref D) (compEnvC scope cl C X.env)) (RR (.ref D) C) s4:=by
  rintro s4 rfl
  refine Sh (λn s'=>∃(i:Nat) (ys:List V) (its:List Value) (k:Nat) (H':Hp),Inv X' [(D,vG its k)] (σ++List.replicate own.length none) H' s'/\zf ys its/\tn i s'.heap/\(∀b∈fp,H' b=none)/\W i n ys H'/\ys.length<=sizeLine) ?_ m0
   ⟨0,[],[],0,H2,NE I B.kind B.cell B.cap B.ok hCle hDle hDC hfp hfo keep hns hd4 Fy,.nil,T.keep _ _ _ t0 λb _ o e=>keep b o e,λb hb=>(hfp b hb).1,W0,xb _⟩
  rintro n s5 ⟨i,ys,its,k,H5,I5,v5,st5,fr5,w5,z5⟩;rcases turn i n ys H5 w5 with⟨stop,fin⟩|⟨go,room,N,hN,step⟩
  ·refine uh (T.done X' rfl rfl rfl hcalm i _ s5 _ H5 (λ_ _=>False) I5 (fpok fr5) st5 stop) (λr s6 ⟨hr,I6⟩=>?_) λ_ _ z=>z
   subst hr;obtain⟨e6,n6,ne6,nf6,d6⟩:=I6.pin (D,vG its k) (vJ _ yF);obtain⟨m6,ns6,_⟩:=I6.loc;have u6:Un (tN X.stack) fp H2 (ze H5 D (.lst ys)) s2.heap s6.heap:=rZ I6.base hDle n6;have new6:xP X.prog X.w (ze H5 D (.lst ys)) s6.heap D (.lst ys):=⟨z5,its,k,v5,e6⟩;have I7:Inv X z8 σ (ze H5 D (.lst ys)) s6:=I.call' I6.os u6 (Dm I6.hok n6 new6) I6.bare (λb hb=>⟨(hfp b hb).2.2.2.1,(hfp b hb).2.1,(hfp b hb).2.2.2.2.1,(hfp b hb).2.2.2.2.2⟩);refine hRR D C s6 H5 ys m6 I7 n6 fin ns6 ⟨?_,?_,?_,λx c hcx z=>?_,λp hp z=>?_⟩
   ·rw[ym (pS hDC)]; exact I6.free
   ·exact λz=>absurd I.lt (by rw[<-z]; exact Mr.mpr hCle)
   ·exact wX I.sz hCle
   ·subst z;obtain⟨v,o,ho,_⟩:=I.cell x c hcx;exact absurd (wY (Heap.lt_size ho) hCle) (vi _)
   ·obtain⟨e,_⟩:=I.pin p hp;rw[z]at e;exact absurd (wY (Heap.lt_size e) hCle) (vi _)
  ·refine uh (T.item X' rfl rfl rfl hcalm i _ s5 _ H5 (λ_ _=>False) I5 (fpok fr5) st5 go) (λr s6 ⟨u,hr,h6⟩=>?_) λ_ _ z=>z
   subst hr;refine uh h6 (λ_ s7 ⟨x,H7,I7,r7,y7,st7,fr7⟩=>?_) λ_ _ z=>z
   have I7':=I7.pinned (fpok fr7) (T.obj _ _ st7);refine uh (hg C s2 H2 fp _ _ s7 _ H7 x u _ I7' r7 (step x H7 y7)) (λ_ s8 ⟨σ8,H8,I8,⟨τ,hτ⟩,q8⟩=>?_) λ_ _ z=>z
   subst hτ
   have back:∀{n':Nat}{ys':List V}{its':List Value}{k':Nat}{H9:Hp}{s9:Shared}{pl:List (Addr×Obj)},Inv X' ((D,vG its' k')::pl) (σ++τ) H9 s9->zf ys' its'->tn (i+1) s9.heap->(∀b∈fp,H9 b=none)->W (i+1) n' ys' H9->ys'.length<=sizeLine->
     ∃(i:Nat) (ys:List V) (its:List Value) (k:Nat) (H':Hp),Inv X' [(D,vG its k)] (σ++List.replicate own.length none) H' s9/\zf ys its/\tn i s9.heap/\(∀b∈fp,H' b=none)/\W i n' ys H'/\ys.length<=sizeLine:=λ{n' ys' its' k' H9 s9 pl} I9 v9 st9 fr9 w9 z9=>by
    have I9':Inv X' [(D,vG its' k')] (σ++τ) H9 s9:=I9.pins_of λp hp=>I9.pin p (vJ _ (by
     have q:p=(D,vG its' k'):=by simpa using hp
     subst q;exact yF))
    refine⟨i+1,ys',its',k',H9,I9'.weak ?_ (λj v e=>?_),v9,st9,fr9,w9,z9⟩
    ·rw[I9'.len,<-I5.len]
    ·have e':=T5 e;rw[gS (yM.mp e').1];exact e'
   have keepIt:∀{σ9:St}{H9:Hp}{s9:Shared},Inv X' ([(D,vG its k)]++W6 fp s7.heap) σ9 H9 s9->tn (i+1) s9.heap/\∀b∈fp,H9 b=none:=λ{σ9 H9 s9} I9=>
    ⟨T.keep _ _ _ st7 λb hb o e=>(I9.pin (b,o) (vJ _ (vJ _ (Tf hb e)))).1,λb hb=>by
     obtain⟨o,e,_⟩:=T.obj _ _ st7 b hb;exact(I9.pin (b,o) (vJ _ (vJ _ (Tf hb e)))).2.1⟩
   refine uh (hc C s2 H2 fp _ _ s8 _ H8 _ I8 q8) (λc s9 ⟨H9,I9,q9⟩=>?_) λ_ _ z=>z
   cases c with
   |false=>
    rw[zL yR]at q9 ⊢;obtain⟨m',hm,w9⟩:=hN _ _ q9;exact⟨m',hm,back I9 v5 (keepIt I9).1 (keepIt I9).2 w9 z5⟩
   |true=>
    rw[zK rfl]at q9 ⊢;refine uh (he C s2 H2 fp _ _ s9 _ H9 _ I9 q9) (λyv sa ⟨y,Ha,Ia,ra,qa⟩=>?_) λ_ _ z=>z
    obtain⟨m',hm,wa⟩:=hN _ _ qa;obtain⟨ea,na,_⟩:=Ia.pin (D,vG its k) (vJ _ (pQ _ yF))
    have szi:its.toArray.size<=sizeLine:=by
     have:=v5.length;simp only[ya];omega
    refine wpAny_list_append_plain (hsz:=szi) ⟨k,ea⟩ λhb hlb hsb'=>?_
    obtain⟨kb,eb⟩:=hlb;have eb':hb.get? D=some (vG (its++[yv]) kb):=by rw[eb]; simp
    have Ib:Inv X' [(D,vG (its++[yv]) kb)] (σ++τ) Ha { sa with heap:=hb,toks:=sa.toks }:=Rf (tk:=sa.toks) Ia hDle hpn hsb' eb';have stb:tn (i+1) hb:=T.keep _ _ _ (keepIt Ia).1 λb hbf o e=>(hsb'.2 b (λz=>absurd (lt b hbf) (by rw[z]; exact Mr.mpr hDle))).trans e
    exact⟨m',hm,back Ib (zf.append v5 (.cons ra .nil)) stb (keepIt Ia).2 wa (by rw[yD]; exact room)⟩
 exact codeAny_compStart_list (loop _ rfl) (T.self X.A 0 _ _ _ (T.keep _ _ _ t0 λb _ o e=>keep b o e) (loop _ rfl))
def mE(n:Nat)(wi:TI)(g:TG)(tc:TT)(te:TE):TE:=λσ H Q=>wi σ H λJ H1=>∃W:Nat->Nat->List V->Hp->Prop,(∃m,W 0 m [] H1)/\
 Xq σ n J g tc te W λys H'=>∀p,H' p=none->Q (.ref p) (ze H' p (.lst ys))
theorem UA.inv{z8:List (Addr×Obj)}{σ:St}{H:Hp}{s:Shared}{C:Addr}{h':Heap}(o:UA X z8 H s C)(I:Inv X z8 σ H s)(hs:Heap.SameBut C s.heap h'):Inv X z8 σ H { s with heap:=h' }:=
 I.turned (it:=C) (t':=s.toks) (λb u hb q=>(hs.2 b hb).trans q) o.free o.ne (.inr o.old) o.cell o.pin
theorem bX(hcalm:X.calm=true)(B:gZ X scope cl own)(hi:PI X tg iter wi)(hg:∀C s H fp pn,PG (wc X scope cl own C s H fp pn) tg g)(hc:∀C s H fp pn,gy (wc X scope cl own C s H fp pn) ifs tc)
  (he:∀C s H fp pn,PE (wc X scope cl own C s H fp pn) elt te)(hs:∀x,foldedSetIterable iter X.env x=pure x:=by intro _; rfl) :
  PE X (.ListComp elt [⟨tg,iter,ifs,0⟩] scope pos) (mE own.length wi g tc te):=by
 intro z8 s σ H Q I h;rw[eval_ListComp];refine Ko (use:=none) rfl hs B.clos B.kind B.names (zw (hi z8 s σ H _ I h) λv s1 h1=>zw h1 λitv s2 h2=>?_);obtain⟨it,fp,tn,J,H2,e,I2,T,st2,f2,W,⟨m0,w0⟩,turn⟩:=h2;subst e;refine Bi (RR:=λacc C=>compPost (model X.prog X.w) X.A X.xe none (EP X z8 σ Q) acc C) hcalm B I2 T st2 f2 hg hc he w0 turn ?_;intro D C s' H' ys m' I' n' fin ns' off;exact⟨m',ns',λh' hs'=>⟨.ref D,ze H' D (.lst ys),off.inv I' hs',rfl,fin D n'⟩⟩
def mP(i n:Nat)(wi:TI)(g:TG)(tc:TT)(te:TE):TS:=λD σ H=>wi σ H λJ H1=>∃W:Nat->Nat->List V->Hp->Prop,(∃m,W 0 m [] H1)/\
 Xq σ n J g tc te W λys H'=>∀p,H' p=none->D.nx (σ.set i (some (.ref p))) (ze H' p (.lst ys))
theorem G8{i:Nat}{x:Str}{px spos:Pos}(hcalm:X.calm=true)(hN:X.N.Nodup)(hix:X.N[i]?=some x)(hx:X.env.scope.names.lookup x=some .local)(B:gZ X scope cl own)
  (hsw:swapsWith (.ListComp elt [⟨tg,iter,ifs,0⟩] scope pos) (some (.Name x px)) spos.line X.env=pure true)(hi:PI X tg iter wi)
  (hg:∀C s H fp pn,PG (wc X scope cl own C s H fp pn) tg g)(hc:∀C s H fp pn,gy (wc X scope cl own C s H fp pn) ifs tc)(he:∀C s H fp pn,PE (wc X scope cl own C s H fp pn) elt te)
  (hs:∀x,foldedSetIterable iter X.env x=pure x:=by intro _; rfl) :
  PS X (.Assign [.Name x px] (.ListComp elt [⟨tg,iter,ifs,0⟩] scope pos) spos) (mP i own.length wi g tc te):=by
 intro z8 s σ H D I h;rw[exec_Assign_Name_used _ _ _ _ hsw];refine zE (B6 (zE ?_));show wpAny _ X.A (do let _ <-comprehension (.ListComp elt [⟨tg,iter,ifs,0⟩] scope pos) scope X.env _ (newList []) false (eval iter X.env) (some (assign (.Name x px) X.env))) _ _ s
 refine zE (zw (Ko (use:=some (assign (.Name x px) X.env)) (Q:=λ_ s'=>SP X z8 D .next s') rfl hs B.clos B.kind B.names
  (zw (hi z8 s σ H _ I h) λv s1 h1=>zw h1 λitv s2 h2=>?_)) λ_ s' hq=>zX (zX hq))
 obtain⟨it,fp,tn,J,H2,e,I2,T,st2,f2,W,⟨m0,w0⟩,turn⟩:=h2;subst e;refine Bi (RR:=λacc C=>compPost (model X.prog X.w) X.A X.xe (some (assign (.Name x px) X.env)) (λ_ s'=>SP X z8 D .next s') acc C) hcalm B I2 T st2 f2 hg hc he w0 turn ?_;intro L C s' H' ys m' I' n' fin ns' off;show wpAny _ X.A (assign (.Name x px) X.env (.ref L)) _ _ s';refine wpAny_assign_Name (HR I' hN hix (.inl hx) (v:=.ref L) rfl (λs3 I3 q3=>?_) (.inr hx));obtain⟨a,hsa,ha⟩:=q3
 have hCa:C≠a:=by
  rcases ha with z|z
  ·rw[z]; exact off.ne
  ·exact λy=>off.cell x a z y.symm
 refine⟨m',ns'.sameBut hsa hCa,λh' hs'=>?_⟩;exact⟨_,_,UA.inv (H:=ze H' L (.lst ys)) ⟨off.free,off.ne,off.old,off.cell,off.pin⟩ I3 hs',fin L n'⟩
end
structure QE(X:Cx)(e:Expr)(t:TE):Prop where
 h:PE X e t
structure QA(X:Cx)(es:List Expr)(t:TA):Prop where
 h:PA X es t
structure QS(X:Cx)(st:Stmt)(t:TS):Prop where
 h:PS X st t
structure QG(X:Cx)(e:Expr)(t:TG):Prop where
 h:PG X e t
structure UC(X:Cx)(es:List Expr)(t:qz):Prop where
 h:XC X es t
structure QI(X:Cx)(tg e:Expr)(t:TI):Prop where
 h:PI X tg e t
section
variable{X:Cx}{x y:Str}{p pos pos' apos cpos p2:Pos}{e a b c o tg iter elt:Expr}{es yj:List Expr}{te ta tb tc to:TE}{t:TA}{tA tB':TT}{r r':R2}{v:V}{T id:String}{ps:List Str}{j k i:Nat}{sp:Sp}
theorem qv(i:Nat){x:Str}{pos:Pos}(hN:X.N[i]?=some x:=by rfl)(hv:jk X.env.scope x:=by first|exact Or.inl rfl|exact Or.inr (Or.inl rfl)|exact Or.inr (Or.inr rfl))(hd:(x==("__debug__" : Str))=false:=by decide)
  (hcd:(x==("__classdict__" : Str))=false:=by decide):QE X (.Name x pos) (vf i):=⟨W5 hN hv hd hcd⟩
theorem ce(h:yn X.mg x v)(hg:Gl X x)(hd:(x==("__debug__" : Str))=false:=by decide):QE X (.Name x pos) (tC v):=⟨YB h hg hd⟩
theorem cZ(hg:Gl X x)(hm:X.mg x=none)(hv:bootBuiltins x=some (.type T))(hn:x ≠ "__name__" := by decide)(hd:(x==("__debug__" : Str))=false:=by decide):QE X (.Name x pos) (tC (.ty T)):=⟨bO hg hm hv hn hd⟩
def Ev:Expr->Bool
 |.Name ..=>true
 |.Call ..=>true
 |.Subscript ..=>true
 |.Attribute ..=>true
 |.Constant ..=>true
 |.List ..=>true
 |.Tuple ..=>true
 |.BinOp ..=>true
 |_=>false
theorem cC{e:Expr}{env:Env}(h:Ev e=true):∀whole,isTrue e env whole=(do let v <-whole; standAt e.pos; holding [v] (truthy v)):=by
 cases e<;>first|(intro _; rfl)|cases h
theorem Tz:QA X [] QO:=⟨YA⟩
theorem W7(ha:QE X e te)(hr:QA X es t)(h:xM e=true:=by rfl):QA X (e::es) (Lm te t):=⟨W4 ha.h hr.h h⟩
def kW:Expr->Bool
 |.Name ..=>true
 |.Constant ..=>true
 |.BinOp ..=>true
 |.Call ..=>true
 |.UnaryOp ..=>true
 |.Subscript ..=>true
 |.Attribute ..=>true
 |_=>false
theorem Tt{b:Expr}(h:kW b=true):BF b:=by
 cases b<;>first|(intro _ _; rfl)|cases h
theorem W8{r:List V->Hp->VK->Prop}(hc:wr X (.builtin id) r)(hg:Gl X x)(hm:X.mg x=none)(hv:bootBuiltins x=some (.builtin id))(ha:QA X (e::es) t)(hn:x ≠ "__name__" := by decide)(hdb:(x==("__debug__" : Str))=false:=by decide)
  (he:(e::es).all xM=true:=by rfl):QE X (.Call (.Name x p) (e::es) [] pos) (QN r t):=by
 rw[xz,xB]at he;exact⟨bR hc hg hm hv ha.h hn hdb (tW he.1) (YX he.2)⟩
theorem YG{r:List V->Hp->VK->Prop}(hc:wr X (.type T) r)(hg:Gl X x)(hm:X.mg x=none)(hv:bootBuiltins x=some (.type T))(ha:QA X (e::es) t)(hn:x ≠ "__name__" := by decide)(hdb:(x==("__debug__" : Str))=false:=by decide)
  (he:(e::es).all xM=true:=by rfl):QE X (.Call (.Name x p) (e::es) [] pos) (QN r t):=by
 rw[xz,xB]at he;exact⟨bS hc hg hm hv ha.h hn hdb (tW he.1) (YX he.2)⟩
variable{st:Stmt}{sts body:List Stmt}{ts us tbs:TS}{g:TG}{wi:TI}
def kS:Expr->Bool
 |.ListComp ..=>false
 |.SetComp ..=>false
 |.DictComp ..=>false
 |_=>true
theorem CU{e:Expr}{tgt:Option Expr}{n:Nat}{env:Env}(h:kS e=true):swapsWith e tgt n env=pure false:=by
 cases e<;>first|rfl|cases h
theorem W9(he:QE X e te)(hs:kS e=true:=by rfl):QS X (.Expr e pos) (Hc te):=⟨cM he.h (CU hs)⟩
theorem T_{i:Nat}{x:Str}{pos':Pos}(hN:X.N.Nodup)(hi:X.N[i]?=some x)(hx:uN X.env.scope x)(he:QE X e te)(hs:kS e=true:=by rfl)(hf:X.fn x=true\/X.env.scope.names.lookup x=some .local:=by first|exact .inl rfl|exact .inr rfl|assumption) :
  QS X (.Assign [.Name x pos'] e pos) (QM te (vL i)):=⟨G7 hN hi hx he.h (CU hs) hf⟩
theorem yx{i:Nat}{x:Str}(hN:X.N.Nodup)(hi:X.N[i]?=some x)(hx:uN X.env.scope x)(hf:X.fn x=true\/X.env.scope.names.lookup x=some .local:=by first|exact .inl rfl|exact .inr rfl|assumption):QG X (.Name x pos) (vL i):=⟨bh hN hi hx hf⟩
theorem cf{o i:Expr}{to ti:TE}{t:UE}(ho:QE X o to)(hi:QE X i ti)(hs:JJ X t)(hp:kW i=true:=by rfl):QG X (.Subscript o i pos) (DX to ti t):=by
 refine⟨bi ho.h hi.h hs ?_⟩;cases i<;>first|(intro _; rfl)|cases hp
theorem kZ:UC X [] Zh:=⟨bn⟩
theorem uw{t:TG}{u:qz}(h1:QG X e t)(h2:UC X es u)(hs:(assignEach (e::es) X.env).map (·.2)=assign e X.env::(assignEach es X.env).map (·.2):=by rfl):UC X (e::es) (pA t u):=⟨bm h1.h h2.h hs⟩
theorem kY{k:Nat}{t:qz}{n:Nat}(hc:X.calm=true)(h:UC X es t)(hn:(assignEach es X.env).length=n:=by rfl)(hst:(assignEach es X.env).findIdx? (·.1)=none:=by rfl):QG X (.Tuple es k pos) (Zi X.K n t):=⟨bj hc h.h hn hst⟩
variable{ifs:List Expr}{scope:Scope}{cl:List (Str×Addr)}{own:List Str}{tcc:TT}
variable{name:Str}{rm:V->List V->Hp->VK->Prop}
theorem HP{env:Env}{pos:Pos}:∀{es:List Expr},es.all xM=true->(backTo pos (starEach es env)).all (λx=>!x.1)=true
 | [],_=>rfl
 |e::es,h=>by
  rw[xz,xB]at h;rw[tW h.1];have ih:=HP (env:=env) (pos:=pos) h.2;unfold backTo at ih ⊢;rw[xT,xz,ih];rfl
theorem YF(pa:PlainAttrs T)(slot:Slot T name id)(hty:typeOf (.builtin id)=pure (.type "method_descriptor"))(hm:gx X id rm)(ho:QE X o to)(ha:QA X (e::es) t)
  (hbase:attributeBase o name X.env (eval o X.env)=eval o X.env:=by rfl)(hline:(apos.endLine==cpos.line)=true:=by rfl)(he:(e::es).all xM=true:=by rfl)(hl:(e::es).length<30:=by decide) :
  QE X (.Call (.Attribute o name apos) (e::es) [] cpos) (HY X.K T rm to t):=⟨by
 have ha':=HP (env:=X.env) (pos:=cpos) he;rw[xz,xB]at he;refine bM pa slot hty hm ho.h ha.h hbase ?_ hline (tW he.1) (YX he.2);rw[ha'];show(true&&true&&decide ((e::es).length+0+0<30))=true;rw[xD (show(e::es).length+0+0<30 from hl)];rfl⟩
end
section
variable{P:Program}{w:World}{K:W.Frag}{mg:Str->Option Value}{base:Heap}
end
def BJ(K:W.Frag)(H:Hp)(a c:Addr)(xs ys:List V):Prop:=(xE K H a xs/\xE K H c ys)\/(yG K H a xs/\yG K H c ys)
section
variable{X:Cx}{z8:List (Addr×Obj)}{σ:St}{H:Hp}{s:Shared}
theorem dG{A:Around}{a c:Addr}{xs ys:List V}{e:Nat->Bool}(I:Inv X z8 σ H s)(hu:A.units<cLine)(hq:BJ X.K H a c xs ys)
  (he:∀(j:Nat) x' y' u v,xs[j]?=some x'->ys[j]?=some y'->zr x' u->zr y' v->SeqAt.EqAt A.in1 s u v (e j)) :
  SeqAt.RcAt A s (.ref a) (.ref c) ((List.range (min xs.length ys.length)).all e&&xs.length==ys.length)/\SeqAt.RcNeAt A s (.ref a) (.ref c) (!((List.range (min xs.length ys.length)).all e&&xs.length==ys.length)):=by
 have get:∀{zs:List V}{us:List Value}{j:Nat}(hj:j<us.toArray.size),zf zs us->∃z,zs[j]?=some z/\zr z us.toArray[j]:=λ{zs us j} hj r=>by
  have hl:=r.length
  have hj':j<zs.length:=by
   rw[ya]at hj;omega
  obtain⟨u,hu',ru⟩:=r.get (yZ hj');refine⟨_,yZ hj',?_⟩
  have:us.toArray[j]=u:=by
   have h2:us[j]?=some us[j]:=yZ (by omega);rw[h2]at hu';simpa using hu'
  rw[this];exact ru
 rcases hq with⟨ha,hc⟩|⟨ha,hc⟩
 ·obtain⟨us,ra,pa,_⟩:=I.tuple ha;obtain⟨vs,rc,pc,_⟩:=I.tuple hc;have h1:=ra.length;have h2:=rc.length
  have key:∀j (k1:j<us.toArray.size) (k2:j<vs.toArray.size),SeqAt.EqAt A.in1 s us.toArray[j] vs.toArray[j] (e j):=λj k1 k2=>by
   obtain⟨z1,e1,r1⟩:=get k1 ra;obtain⟨z2,e2,r2⟩:=get k2 rc;exact he j z1 z2 _ _ e1 e2 r1 r2
  have p:=SeqAt.RcAt.tuples (e:=e) pa pc hu key;have q:=SeqAt.RcNeAt.tuples (e:=e) pa pc hu key;rw[ya,ya,<-h1,<-h2]at p q;exact⟨p,q⟩
 ·obtain⟨us,ra,pa,_⟩:=I.list ha;obtain⟨vs,rc,pc,_⟩:=I.list hc;have h1:=ra.length;have h2:=rc.length
  have key:∀j (k1:j<us.toArray.size) (k2:j<vs.toArray.size),SeqAt.EqAt A.in1 s us.toArray[j] vs.toArray[j] (e j):=λj k1 k2=>by
   obtain⟨z1,e1,r1⟩:=get k1 ra;obtain⟨z2,e2,r2⟩:=get k2 rc;exact he j z1 z2 _ _ e1 e2 r1 r2
  by_cases hl:xs.length=ys.length
  ·have hs:us.toArray.size=vs.toArray.size:=by rw[ya,ya]; omega
   have p:=SeqAt.RcAt.lists (e:=e) pa.isList pc.isList hs hu key;have q:=SeqAt.RcNeAt.lists (e:=e) pa.isList pc.isList hs hu key;have e1:min xs.length ys.length=us.toArray.size:=by rw[ya]; omega
   have e2:(xs.length==ys.length)=true:=by simp[hl]
   rw[e1,e2,MS];exact⟨p,q⟩
  ·have hs:(us.toArray.size != vs.toArray.size)=true:=by
    rw[ya,ya];simp;omega
   have e2:(xs.length==ys.length)=false:=by simp[hl]
   rw[e2,Qh];exact⟨SeqAt.RcAt.lists_lengths pa.isList pc.isList hs hu,SeqAt.RcNeAt.lists_lengths pa.isList pc.isList hs hu⟩
theorem TD(A:Around):A.in1.units=A.units+1:=rfl
end
theorem PB{x:V}(h:tM x=true):uV x x=true:=by
 cases x<;>first|rfl|(simp[uV]; done)|cases h
open PySem.W (hideAll)
section
variable{P:Program}{w:World}{l:List Env}{H H':Hp}{h B h' h'':Heap}
end
section
variable{X:Cx}{z8:List (Addr×Obj)}{σ:St}{H H':Hp}{s:Shared}{B h':Heap}
variable{x:Str}{C:Addr}{np cpos pos:Pos}{e:Expr}{es:List Expr}{t:TA}{E:XK}
end
section
variable{P:Program}{w:World}{K:W.Frag}{mg:Str->Option Value}{base:Heap}{N:List Str}{qual:Str}{scope:Scope}{f:Addr}{cd:Value}{A:Around}{outer:List Env}{s₀:Shared}{H₀:Hp}{E:XK}
end
section
variable{X:Cx}{x:Str}{np cpos pos p:Pos}{e:Expr}{es:List Expr}{t:TA}{E:XK}{C:Addr}{ps:List Str}{j k:Nat}{sp:Sp}
end
end L2
namespace L2
open PySem PySem.Spec PyProof.Rows
section
variable{X:Cx}{z8:List (Addr×Obj)}{σ:St}{H H':Hp}{s:Shared}{a C:Addr}
theorem re{fs ex:List Addr}{H H':Hp}{h h':Heap}{D:Addr}{o:HO}(u:Un fs ex H H' h h')(hD:h.get? D=none)(hn:H' D=none):Un fs ex H (ze H' D o) h h' where
 keep:=u.keep
 slot:=u.slot
 free:=λb ob q n hx=>by rw[ym (λz=>by subst z; rw[hD]at q; cases q)]; exact u.free b ob q n hx
 there:=u.there
 tups:=λb xs q=>by rw[ym (uF (u.tups b xs q) hn)]; exact u.tups b xs q
 frzs:=λb ob v q=>by rw[ym (uF (u.frzs b ob v q) hn)]; exact u.frzs b ob v q
 tbls:=λb ps q=>by
  obtain⟨more,z⟩:=u.tbls b ps q;exact⟨more,by rw[ym (uF z hn)]; exact z⟩
end
section
variable{X:Cx}{x n:Str}{p pos np hpos tpos:Pos}{e e1 e2:Expr}{es:List Expr}{ta:TA}{te:TE}{tx:TX}{ps:List Str}{j k i:Nat}{sp:Sp}{E:XK}{D:Addr}
variable{suite:List Stmt}{ts:TS}{b₀:Stmt}
end
section
variable{X:Cx}{x:Str}{p pos:Pos}{e:Expr}{es:List Expr}{t:TA}{ps:List Str}{j k:Nat}{sp:Sp}
end
section
variable{X:Cx}{e e1 e2:Expr}{es:List Expr}{te:TE}{t:TJ}{pos:Pos}
end
open PySem.W (Looks findIn mroIn looks_findIn looks_mroIn clsIn)
section
variable{prog:Program}{w:World}{A:Around}{E:Value->Shared->Prop}{h:Heap}{g:Array GenState}{d:Drawn}{t:Nat}{os:OsState}{a C:Addr}{o:Obj}{K:W.Frag}
end
end L2
namespace L2
open PySem PySem.Spec PyProof.Rows
section
variable{X:Cx}
theorem sB{bs:List Bool}{its:List Value}(r:zf (bs.map V.bl) its){i:Nat}{v:Value}(h:its.toArray[i]?=some v):v=.bool (bs.getD i false):=by
 have hi:i<its.length:=by
  rw[Qp]at h;exact(yM.mp h).1
 have hl:bs.length=its.length:=by have:=r.length; rw[zj]at this; exact this
 have hx:(bs.map V.bl)[i]?=some (.bl (bs.getD i false)):=by
  rw[xC,x_,yZ (by omega)];rfl
 obtain⟨u,hu,ru⟩:=r.get hx;rw[Qp,hu]at h;cases h;exact ru
theorem dE{bs:List Bool}:(List.range bs.length).all (λi=>bs.getD i false)=bs.all id:=by
 rw[Yi,wm,wm]
 constructor
 ·intro h b hb;obtain⟨i,hi,rfl⟩:=Ke.mp hb;have:=h i (uM.mpr hi)
  rwa [x_,yZ hi]at this
 ·intro h i hi;have hi':=uM.mp hi;rw[x_,yZ hi'];exact h _ (ZA hi')
def GL(K:W.Frag):List V->Hp->VK->Prop:=λxs H Q=>∃(p:Addr) (bs:List Bool),xs=[.ref p]/\yG K H p (bs.map V.bl)/\Q (.bl (bs.all id)) H
theorem Ur(hc:X.calm=true):wr X (.builtin "all") (GL X.K):=by
 intro z8 s σ H xs us Q I r h;obtain⟨p,bs,rfl,hq,q⟩:=h;obtain⟨u,rfl,rx⟩:=ub r;cases rx;have hd:=I.ok.hd hc;refine call_all_walk ?_;obtain⟨its,rv,pl,hz⟩:=I.list hq;have hl:bs.length=its.toArray.size:=by have:=rv.length; rw[zj]at this; rw[ya]; exact this
 have hlt:p<s.heap.objs.size:=by obtain⟨o,n,e,_⟩:=pl; exact Heap.lt_size e
 refine X3 pl.isList ?_;refine⟨_,_,_,_,_,_,λi=>bs.getD i false,rfl,Walks.list (by exact hd) s.heap.objs.size p (xh hlt) its.toArray,⟨⟨_,Heap.get?_push_size _ rfl,rfl,rfl⟩,pl.isList.push _⟩,?_,?_⟩
 ·intro i v Q' E' s' hv h';rw[sB rv hv];exact zX h'
 ·intro h' tk k;rw[<-hl,dE]
  exact⟨.bl (bs.all id),H,I.kept (t':=tk) λb o eb=>k b o (λz=>by
   have:b=s.heap.objs.size:=by simpa using z
   rw[this]at eb;exact absurd (Heap.lt_size eb) (vi _)) (Heap.get?_push_of_some _ eb),rfl,q⟩
end
open Builtin.SmallTypes (nextOf)
structure gz(P:Program)(w:World)(it l:Addr)(st:Nat->Heap->Prop)(n:Nat)(val:Nat->Value):Prop where
 keep:∀i h h',st i h->(∀b o,(b=it\/b=l)->h.get? b=some o->h'.get? b=some o)->st i h'
 item:∀{A:Around}{Q:Value->Shared->Prop}{E:Value->Shared->Prop}{s:Shared}(i:Nat),st i s.heap->i<n->(∀h',st (i+1) h'->Heap.SameBut it s.heap h'->Q (val i) { s with heap:=h' })->wpAny (model P w) A (nextOf (.ref it)) Q E s
 done:∀{A:Around}{Q:Value->Shared->Prop}{E:Value->Shared->Prop}{s:Shared}(i:Nat),A.handled=none->st i s.heap->n<=i->
  (∀h' e,Heap.ExtBut it s.heap h'->(∃o,h'.get? e=some o/\o.cls=.type "StopIteration")->E (.ref e) { s with heap:=h' })->wpAny (model P w) A (nextOf (.ref it)) Q E s
section
variable{prog:Program}{w:World}{A:Around}{E:Value->Shared->Prop}{s:Shared}
theorem AU{it t:Addr}{i:Nat}{z6}{x:Value}{Q:Value->Shared->Prop}(hit:s.heap.IsTupleIter it t i)(ht:s.heap.IsTuple t z6)(hx:z6[i]?=some x)
  (hQ:∀h',h'.IsTupleIter it t (i+1)->Heap.SameBut it s.heap h'->Q x { s with heap:=h' }):wpAny (model prog w) A (nextOf (.ref it)) Q E s:=by
 obtain⟨o,ho,hc,hd⟩:=id hit;obtain⟨ol,hol,_,nl,hdl⟩:=ht;unfold nextOf
 refine zE (X2 (name:=Str.ofString "__next__") hit.typeIs Qk
  (pU Qk hit.typeIs KJ ?_ (KH _)))
 refine zE (m:=field (.ref it) 0) (ug ho hd (x:=.ref t) rfl ?_);show wpAny _ _ (if(Value.ref t==Value.none)=true then _ else _) _ _ s;rw[zL (show ¬ ((Value.ref t==Value.none)=true)from yR)];refine zE (m:=field (.ref it) 1) (ug ho hd (x:=.int i 0) rfl ?_);refine zE (m:=seqItems? (.ref t)) (qo hol hdl ?_);simp only[xg,hx];refine zE (B5 ho hd (by simp) (zX ⟨x,rfl,zX (hQ _ ?_ (Heap.SameBut.update ..))⟩))
 exact⟨_,Heap.get?_update_self _ ho (Obj.isFreed_of_fields (Obj.data_mapFields hd _)),(Obj.cls_mapFields ..).trans hc,by
  rw[Obj.data_mapFields hd]; simp[rawInt]⟩
theorem AT{it t:Addr}{i:Nat}{z6}{Q:Value->Shared->Prop}(hh:A.handled=none)(hit:s.heap.IsTupleIter it t i)(ht:s.heap.IsTuple t z6)(hx:z6[i]?=none)
  (hE:∀h' e,Heap.ExtBut it s.heap h'->(∃o,h'.get? e=some o/\o.cls=.type "StopIteration")->E (.ref e) { s with heap:=h' }):wpAny (model prog w) A (nextOf (.ref it)) Q E s:=by
 obtain⟨o,ho,hc,hd⟩:=id hit;obtain⟨ol,hol,_,nl,hdl⟩:=ht;unfold nextOf
 refine zE (X2 (name:=Str.ofString "__next__") hit.typeIs Qk
  (pU Qk hit.typeIs KJ ?_ (KH _)))
 refine zE (m:=field (.ref it) 0) (ug ho hd (x:=.ref t) rfl ?_);show wpAny _ _ (if(Value.ref t==Value.none)=true then _ else _) _ _ s;rw[zL (show ¬ ((Value.ref t==Value.none)=true)from yR)];refine zE (m:=field (.ref it) 1) (ug ho hd (x:=.int i 0) rfl ?_);refine zE (m:=seqItems? (.ref t)) (qo hol hdl ?_);simp only[xg,hx];refine zE (X4 (zE (B5 ho hd (by simp) ?_)));refine zE (m:=newExc (.type "StopIteration") []) ?_;simp only[newExc,newTuple];refine zE (qm ?_ (by size_fits));refine zE (m:=firstArgMember _ _) (wpAny_of_eq (a:=Value.none) (by first|rfl|(simp only[firstArgMember]; rfl)) ?_);refine qm ?_ (by size_fits);simp only[raiseNew];refine zE (wpAny_handled ?_)
 first|rw[show A.in1.handled=none from hh]|rw[hh]
 refine zE (zX (wpAny_throw ?_));exact hE _ _ (((Heap.SameBut.update ..).extBut.push _).push _) ⟨_,Heap.get?_push_size _ rfl,rfl⟩
theorem lS{it l:Addr}(hne:l≠it)(z6:Array Value):gz prog w it l (λi h=>h.IsListIter it l i/\h.IsList l z6) z6.size (λi=>z6.getD i .none) where
 keep:=λi h h' st k=>⟨st.1.at λo e=>k it o (.inl rfl) e,st.2.at λo e=>k l o (.inr rfl) e⟩
 item:=λi st hi hQ=>wpAny_nextOf_list_item st.1 st.2 (x:=z6.getD i .none) (by simp[Array.getD,hi]) λh' st' sb=>hQ h' ⟨st',st.2.extBut sb.extBut hne⟩ sb
 done:=λi hh st hi hE=>wpAny_nextOf_list_end hh st.1 st.2 (Qg hi) hE
theorem lU{it l:Addr}(hne:l≠it)(z6:Array Value):gz prog w it l (λi h=>h.IsTupleIter it l i/\h.IsTuple l z6) z6.size (λi=>z6.getD i .none) where
 keep:=λi h h' st k=>⟨st.1.at λo e=>k it o (.inl rfl) e,st.2.at λo e=>k l o (.inr rfl) e⟩
 item:=λi st hi hQ=>AU st.1 st.2 (x:=z6.getD i .none) (by simp[Array.getD,hi]) λh' st' sb=>hQ h' ⟨st',st.2.extBut sb.extBut hne⟩ sb
 done:=λi hh st hi hE=>AT hh st.1 st.2 (Qg hi) hE
variable{z TI TO i1 i2 l1 l2:Addr}{st1 st2:Nat->Heap->Prop}{n1 n2:Nat}{v1 v2:Nat->Value}{a b:Value}{k:Nat}
theorem z0q{Q:Value->Shared->Prop}(D:ZipApart z TI TO i1 i2 l1 l2)(S1:gz prog w i1 l1 st1 n1 v1)(S2:gz prog w i2 l2 st2 n2 v2)
  (hz:IsZip s.heap z TI TO .none)(hTI:IsPair s.heap TI (.ref i1) (.ref i2))(hTO:IsPair s.heap TO a b)(h1:st1 k s.heap)(h2:st2 k s.heap)(k1:k<n1)(k2:k<n2)
  (hi1:i1<s.heap.objs.size)(hi2:i2<s.heap.objs.size)(hl1:l1<s.heap.objs.size)(hl2:l2<s.heap.objs.size)
  (hQ:∀h',IsZip h' z TI TO (rawInt s.heap.objs.size)->IsPair h' TO (v1 k) (v2 k)->st1 (k+1) h'->st2 (k+1) h'->IsPair h' s.heap.objs.size (v1 k) (v2 k)->
   (∀c o,c≠z->c≠TO->c≠i1->c≠i2->s.heap.get? c=some o->h'.get? c=some o)->Q (.ref s.heap.objs.size) { s with heap:=h' }) :
  wpAny (model prog w) A (Builtin.«zip.__next__» ⟨[.ref z],[]⟩) (λfin s'=>∃v,fin=.done (.ret v)/\Q v s') E s:=by
 refine zE (m:=field (.ref z) 2) (ug hz rfl (x:=.bool false) rfl ?_);refine zE (m:=field (.ref z) 3) (ug hz rfl (x:=.ref TI) rfl ?_);refine zE (qo hTI rfl ?_);refine zE (m:=Builtin.SmallTypes.ownedTupleIsFree (.ref z)) ?_;unfold Builtin.SmallTypes.ownedTupleIsFree;refine zE (ug hz rfl (x:=.none) rfl (zX ?_));simp only[qO];refine zE (X4 (zE (ug hz rfl (x:=.ref TO) rfl ?_)));refine zE (X5 hz (by simp) λha hza sa=>?_)
 replace hza:IsZip ha z TI TO .ellipsis:=hza
 refine zE ?_;simp only[List.zipIdx_cons,List.zipIdx_nil,Mc,List.forIn_nil];have h1a:st1 k ha:=S1.keep k _ _ h1 λc o hc e=>sa.extBut c o (by rcases hc with rfl|rfl; exact D.i1z; exact D.l1z) e
 refine zE (zE (Vc (zE (m:=nextOf (.ref i1)) (S1.item k h1a k1 λhb h1b sb=>zX ?_))));have hTOb:IsPair hb TO a b:=sb.extBut _ _ D.TOi1 (sa.extBut _ _ D.TOz hTO);refine zE (qo hTOb rfl (zE (B8 hTOb λhc hTOc sc=>?_)))
 replace hTOc:IsPair hc TO (v1 k) b:=hTOc
 refine zE (wpAny_letGo (zX ?_))
 have h2c:st2 k hc:=S2.keep k _ _ h2 λc o hcc e=>by
  rcases hcc with rfl|rfl
  ·exact sc.extBut _ _ D.TOi2.symm (sb.extBut _ _ D.i12.symm (sa.extBut _ _ D.i2z e))
  ·exact sc.extBut _ _ D.l2TO (sb.extBut _ _ D.l2i1 (sa.extBut _ _ D.l2z e))
 refine zE (zE (Vc (zE (m:=nextOf (.ref i2)) (S2.item k h2c k2 λhd h2d sd=>zX ?_))));have hTOd:IsPair hd TO (v1 k) b:=sd.extBut _ _ D.TOi2 hTOc;refine zE (qo hTOd rfl (zE (B8 hTOd λhe hTOe se=>?_)))
 replace hTOe:IsPair he TO (v1 k) (v2 k):=hTOe
 refine zE (wpAny_letGo (zX (zX ?_)));refine zE (qo hTOe rfl (zE (wpAny_newTuple ?_)));have hsz:he.objs.size=s.heap.objs.size:=by rw[se.1,sd.1,sc.1,sb.1,sa.1]
 have hze:IsZip he z TI TO .ellipsis:=se.extBut _ _ D.TOz.symm (sd.extBut _ _ D.i2z.symm (sc.extBut _ _ D.TOz.symm (sb.extBut _ _ D.i1z.symm hza)))
 have hke:∀c o,c≠z->c≠TO->c≠i1->c≠i2->s.heap.get? c=some o->he.get? c=some o:=λc o c1 c2 c3 c4 e=>
  se.extBut _ _ c2 (sd.extBut _ _ c4 (sc.extBut _ _ c2 (sb.extBut _ _ c3 (sa.extBut _ _ c1 e))))
 have h1e:st1 (k+1) he:=S1.keep _ _ _ h1b λc o hcc e=>by
  rcases hcc with rfl|rfl
  ·exact se.extBut _ _ D.TOi1.symm (sd.extBut _ _ D.i12 (sc.extBut _ _ D.TOi1.symm e))
  ·exact se.extBut _ _ D.l1TO (sd.extBut _ _ D.l1i2 (sc.extBut _ _ D.l1TO e))
 have h2e:st2 (k+1) he:=S2.keep _ _ _ h2d λc o hcc e=>by
  rcases hcc with rfl|rfl
  ·exact se.extBut _ _ D.TOi2.symm e
  ·exact se.extBut _ _ D.l2TO e
 have hzlt:z<he.objs.size:=Heap.lt_size hze;refine zE (m:=Builtin.SmallTypes.ownedTupleHandOut (.ref z) (.ref he.objs.size)) ?_;unfold Builtin.SmallTypes.ownedTupleHandOut;have hzf:IsZip (he.push { cls:=.type "tuple",data:=.seq #[v1 k,v2 k] }) z TI TO .ellipsis:=Heap.get?_push_of_some _ hze;refine zE (X5 hzf (by simp) λhg hzg sg=>?_)
 replace hzg:IsZip hg z TI TO (rawInt he.objs.size):=hzg
 refine X5 hzg (by simp) λhh hzh sh=>?_
 replace hzh:IsZip hh z TI TO (rawInt he.objs.size):=hzh
 have up:∀c o,c≠z->he.get? c=some o->hh.get? c=some o:=λc o c1 e=>sh.extBut _ _ c1 (sg.extBut _ _ c1 (Heap.get?_push_of_some _ e))
 have hT:IsPair hh he.objs.size (v1 k) (v2 k):=sh.extBut _ _ (ud hzlt) (sg.extBut _ _ (ud hzlt) (Heap.get?_push_size _ rfl));rw[hsz]at hzh hT;refine zX ⟨_,rfl,?_⟩;show Q (.ref he.objs.size) _;rw[hsz];refine hQ hh hzh (up _ _ D.TOz hTOe) (S1.keep _ _ _ h1e λc o hcc e=>up c o ?_ e) (S2.keep _ _ _ h2e λc o hcc e=>up c o ?_ e) hT λc o c1 c2 c3 c4 e=>up c o c1 (hke c o c1 c2 c3 c4 e)
 ·rcases hcc with rfl|rfl
  ·exact D.i1z
  ·exact D.l1z
 ·rcases hcc with rfl|rfl
  ·exact D.i2z
  ·exact D.l2z
theorem z0p{Q:Fin->Shared->Prop}(hh:A.handled=none)(D:ZipApart z TI TO i1 i2 l1 l2)(S1:gz prog w i1 l1 st1 n1 v1)(S2:gz prog w i2 l2 st2 n2 v2)
  (hz:IsZip s.heap z TI TO .none)(hTI:IsPair s.heap TI (.ref i1) (.ref i2))(hTO:IsPair s.heap TO a b)(h1:st1 k s.heap)(h2:st2 k s.heap)(hend:n1<=k\/n2<=k)
  (hE:∀h' e,(∀c o,c≠z->c≠TO->c≠i1->c≠i2->s.heap.get? c=some o->h'.get? c=some o)->(∃o,h'.get? e=some o/\o.cls=.type "StopIteration")->E (.ref e) { s with heap:=h' }) :
  wpAny (model prog w) A (Builtin.«zip.__next__» ⟨[.ref z],[]⟩) Q E s:=by
 refine zE (m:=field (.ref z) 2) (ug hz rfl (x:=.bool false) rfl ?_);refine zE (m:=field (.ref z) 3) (ug hz rfl (x:=.ref TI) rfl ?_);refine zE (qo hTI rfl ?_);refine zE (m:=Builtin.SmallTypes.ownedTupleIsFree (.ref z)) ?_;unfold Builtin.SmallTypes.ownedTupleIsFree;refine zE (ug hz rfl (x:=.none) rfl (zX ?_));simp only[qO];refine zE (X4 (zE (ug hz rfl (x:=.ref TO) rfl ?_)));refine zE (X5 hz (by simp) λha hza sa=>?_)
 replace hza:IsZip ha z TI TO .ellipsis:=hza
 refine zE ?_;simp only[List.zipIdx_cons,List.zipIdx_nil,Mc,List.forIn_nil];have h1a:st1 k ha:=S1.keep k _ _ h1 λc o hc e=>sa.extBut c o (by rcases hc with rfl|rfl; exact D.i1z; exact D.l1z) e
 by_cases k1:k<n1
 ·have k2:n2<=k:=by omega
  refine zE (zE (Vc (zE (m:=nextOf (.ref i1)) (S1.item k h1a k1 λhb h1b sb=>zX ?_))));have hTOb:IsPair hb TO a b:=sb.extBut _ _ D.TOi1 (sa.extBut _ _ D.TOz hTO);refine zE (qo hTOb rfl (zE (B8 hTOb λhc hTOc sc=>?_)));refine zE (wpAny_letGo (zX ?_))
  have h2c:st2 k hc:=S2.keep k _ _ h2 λc o hcc e=>by
   rcases hcc with rfl|rfl
   ·exact sc.extBut _ _ D.TOi2.symm (sb.extBut _ _ D.i12.symm (sa.extBut _ _ D.i2z e))
   ·exact sc.extBut _ _ D.l2TO (sb.extBut _ _ D.l2i1 (sa.extBut _ _ D.l2z e))
  refine zE (zE (Vc (zE (m:=nextOf (.ref i2)) (S2.done k hh h2c k2 λhd e sd he=>?_))));obtain⟨oe,hoe,hce⟩:=he;have hzd:IsZip hd z TI TO .ellipsis:=sd _ _ D.i2z.symm (sc.extBut _ _ D.TOz.symm (sb.extBut _ _ D.i1z.symm hza));have hez:e≠z:=λx=>by subst x; rw[hzd]at hoe; cases hoe; simp at hce
  exact X5 hzd (by simp) λhf _ sf=>hE hf e (λc o c1 c2 c3 c4 x=>sf.extBut _ _ c1 (sd _ _ c4 (sc.extBut _ _ c2 (sb.extBut _ _ c3 (sa.extBut _ _ c1 x))))) ⟨oe,sf.extBut _ _ hez hoe,hce⟩
 ·refine zE (zE (Vc (zE (m:=nextOf (.ref i1)) (S1.done k hh h1a (by omega) λhb e sb he=>?_))));obtain⟨oe,hoe,hce⟩:=he;have hzb:IsZip hb z TI TO .ellipsis:=sb _ _ D.i1z.symm hza;have hez:e≠z:=λx=>by subst x; rw[hzb]at hoe; cases hoe; simp at hce
  exact X5 hzb (by simp) λhf _ sf=>hE hf e (λc o c1 _ c3 _ x=>sf.extBut _ _ c1 (sb _ _ c3 (sa.extBut _ _ c1 x))) ⟨oe,sf.extBut _ _ hez hoe,hce⟩
end
end L2
namespace L2
open PySem PySem.Spec PyProof.Rows
def uD(K:W.Frag)(tp:Bool)(H:Hp)(a:Addr)(xs:List V):Prop:=match tp with
 |true=>xE K H a xs
 |false=>yG K H a xs
def Xk(tp:Bool):String:=match tp with
 |true => "tuple_iterator"
 |false => "list_iterator"
def uS(tp:Bool)(h:Heap)(a:Addr)(its:Array Value):Prop:=match tp with
 |true=>h.IsTuple a its
 |false=>h.IsList a its
def je(tp:Bool)(h:Heap)(it l:Addr)(i:Nat):Prop:=∃o,h.get? it=some o/\o.cls=.type (Xk tp)/\o.data=.fields #[.ref l,.int i 0]
theorem je.at{tp:Bool}{h h':Heap}{it l:Addr}{i:Nat}(x:je tp h it l i)(e:∀o,h.get? it=some o->h'.get? it=some o):je tp h' it l i:=let ⟨o,ho,r⟩:=x; ⟨o,e _ ho,r⟩
theorem uS.push{tp:Bool}{h:Heap}{a:Addr}{its:Array Value}(x:uS tp h a its)(o:Obj):uS tp (h.push o) a its:=by
 cases tp
 ·exact Heap.IsList.push x o
 ·exact Heap.IsTuple.push x o
theorem uS.lt{tp:Bool}{h:Heap}{a:Addr}{its:Array Value}(x:uS tp h a its):a<h.objs.size:=by
 cases tp
 ·obtain⟨o,e,_⟩:=x; exact Heap.lt_size e
 ·obtain⟨o,e,_⟩:=x; exact Heap.lt_size e
section
variable{prog:Program}{w:World}{A:Around}{E:Value->Shared->Prop}{s:Shared}
theorem QH{tp:Bool}{it l:Addr}(hne:l≠it)(z6:Array Value):gz prog w it l (λi h=>je tp h it l i/\uS tp h l z6) z6.size (λi=>z6.getD i .none):=by
 cases tp
 ·exact lS hne z6
 ·exact lU hne z6
theorem GH{tp:Bool}{l:Addr}{z6:Array Value}{Q:Value->Shared->Prop}(h:uS tp s.heap l z6)
  (hQ:Q (.ref s.heap.objs.size) { s with heap:=s.heap.push { cls:=.type (Xk tp),data:=.fields #[.ref l,.int 0 0] } }):wpAny (model prog w) A (pyIter (.ref l)) Q E s:=by
 cases tp
 ·exact X3 (show s.heap.IsList l z6 from h) hQ
 ·exact wpAny_pyIter_tuple (show s.heap.IsTuple l z6 from h) hQ
abbrev Qb(t1:Bool)(h:Heap)(l1:Addr):Heap:=h.push { cls:=.type (Xk t1),data:=.fields #[.ref l1,.int 0 0] }
abbrev Qc(t1 t2:Bool)(h:Heap)(l1 l2:Addr):Heap:=(Qb t1 h l1).push { cls:=.type (Xk t2),data:=.fields #[.ref l2,.int 0 0] }
abbrev Qd(t1 t2:Bool)(h:Heap)(l1 l2:Addr):Heap:=(Qc t1 t2 h l1 l2).push { cls:=.type "tuple",data:=.seq #[.ref h.objs.size,.ref (Qb t1 h l1).objs.size] }
abbrev Qe(t1 t2:Bool)(h:Heap)(l1 l2:Addr):Heap:=(Qd t1 t2 h l1 l2).push { cls:=.type "tuple",data:=.seq #[.none,.none] }
abbrev Yf(t1 t2:Bool)(h:Heap)(l1 l2:Addr):Heap:=(Qe t1 t2 h l1 l2).push { cls:=.type "zip",data:=.fields #[.none,.bool false,.bool false,.ref (Qc t1 t2 h l1 l2).objs.size,.ref (Qd t1 t2 h l1 l2).objs.size] }
theorem z0t(t1 t2:Bool)(l1 l2:Addr)(xs ys:Array Value) :
  Meets (Builtin.«zip.__new__» ⟨[.type "zip",.ref l1,.ref l2],[]⟩) (λ_ R s=>uS t1 s.heap l1 xs/\uS t2 s.heap l2 ys/\R (.ok (.ret (.ref (Qe t1 t2 s.heap l1 l2).objs.size))) { s with heap:=Yf t1 t2 s.heap l1 l2 }):=
 .of_wp λprog w A R s h=>by
  obtain⟨hp,g,d,tk,os⟩:=s; obtain⟨hl1,hl2,h⟩:=h;have hsub:=sub_zip;have hL1:uS t1 (Shared.heap ⟨hp,g,d,tk,os⟩) l1 xs:=hl1;have hL2:uS t2 (Shared.heap ⟨hp.push { cls:=.type (Xk t1),data:=.fields #[.ref l1,.int 0 0] },g,d,tk,os⟩) l2 ys:=uS.push hl2 _
  wp_walk using GH hL1,GH hL2
  exact⟨_,rfl,h⟩
theorem Nh{t1 t2:Bool}{l1 l2:Addr}{xs ys:Array Value}{Q:Value->Shared->Prop}(hl1:uS t1 s.heap l1 xs)(hl2:uS t2 s.heap l2 ys)
  (h:∀h',IsZip h' (s.heap.objs.size+4) (s.heap.objs.size+2) (s.heap.objs.size+3) .none->IsPair h' (s.heap.objs.size+2) (.ref s.heap.objs.size) (.ref (s.heap.objs.size+1))->
   IsPair h' (s.heap.objs.size+3) .none .none->je t1 h' s.heap.objs.size l1 0->je t2 h' (s.heap.objs.size+1) l2 0->
   (∀c o,s.heap.get? c=some o->h'.get? c=some o)->Q (.ref (s.heap.objs.size+4)) { s with heap:=h' }) :
  wpAny (model prog w) A (call (.type "zip") [.ref l1,.ref l2]) Q E s:=by
 refine callType_new F.called_zip (by decide) (F.typeCall_zip_2 _ _) (F.newCall_zip_2 _ _) (λobj=>F.args_object_init_3 obj _ _) F.entry_zip_new (z0t t1 t2 l1 l2 xs ys) ⟨hl1,hl2,?_⟩;have z1:(Qb t1 s.heap l1).objs.size=s.heap.objs.size+1:=Heap.size_push ..;have z2:(Qc t1 t2 s.heap l1 l2).objs.size=s.heap.objs.size+2:=by rw[Heap.size_push,z1]
 have z3:(Qd t1 t2 s.heap l1 l2).objs.size=s.heap.objs.size+3:=by rw[Heap.size_push,z2]
 have z4:(Qe t1 t2 s.heap l1 l2).objs.size=s.heap.objs.size+4:=by rw[Heap.size_push,z3]
 have g5:(Yf t1 t2 s.heap l1 l2).get? (Qe t1 t2 s.heap l1 l2).objs.size=some _:=Heap.get?_push_size _ rfl;have g4:(Yf t1 t2 s.heap l1 l2).get? (Qd t1 t2 s.heap l1 l2).objs.size=some _:=Heap.get?_push_of_some _ (Heap.get?_push_size _ rfl);have g3:(Yf t1 t2 s.heap l1 l2).get? (Qc t1 t2 s.heap l1 l2).objs.size=some _:=Heap.get?_push_of_some _ (Heap.get?_push_of_some _ (Heap.get?_push_size _ rfl));have g2:(Yf t1 t2 s.heap l1 l2).get? (Qb t1 s.heap l1).objs.size=some _:=Heap.get?_push_of_some _ (Heap.get?_push_of_some _ (Heap.get?_push_of_some _ (Heap.get?_push_size _ rfl)));have g1:(Yf t1 t2 s.heap l1 l2).get? s.heap.objs.size=some _:=Heap.get?_push_of_some _ (Heap.get?_push_of_some _ (Heap.get?_push_of_some _ (Heap.get?_push_of_some _ (Heap.get?_push_size _ rfl))));show _/\_;rw[z2,z3,z4]at g5;rw[z1,z2]at g3;rw[z3]at g4;rw[z1]at g2;rw[z4]
 exact⟨⟨_,g5,rfl⟩,h _ g5 g3 g4 ⟨_,g1,rfl,rfl⟩ ⟨_,g2,rfl,rfl⟩ λc o x=>
  Heap.get?_push_of_some _ (Heap.get?_push_of_some _ (Heap.get?_push_of_some _ (Heap.get?_push_of_some _ (Heap.get?_push_of_some _ x))))⟩
end
section
variable{X:Cx}{z8:List (Addr×Obj)}{σ:St}{H:Hp}{s:Shared}
theorem Inv.seqX{tp:Bool}{a:Addr}{xs:List V}(I:Inv X z8 σ H s)(h:uD X.K tp H a xs):∃its:List Value,zf xs its/\uS tp s.heap a its.toArray:=by
 cases tp
 ·obtain⟨its,r,p,_⟩:=I.list h;exact⟨its,r,p.isList⟩
 ·obtain⟨its,r,p,_⟩:=I.tuple h;exact⟨its,r,p⟩
theorem Inv.seqX_inj{tp:Bool}{a:Addr}{xs ys:List V}(I:Inv X z8 σ H s)(h:uD X.K tp H a xs)(h':uD X.K tp H a ys):xs=ys:=by
 cases tp
 ·exact I.list_inj h h'
 ·exact I.tuple_inj h h'
theorem Hl{fs ch:List Addr}{h h':Heap}(k:∀b o,b ∉ ch->h.get? b=some o->h'.get? b=some o):Un fs ch H H h h':=
 ⟨λb o e _ _ hx=>k b o hx e,λb o e _ _ hx=>⟨o.slots,k b o hx e⟩,λ_ _ _ n _=>n,λb o e hx=>⟨o,k b o hx e⟩,λ_ _ z=>z,λ_ _ _ z=>z,λb ps e=>⟨#[],by rw[e]; simp⟩⟩
theorem Dl{P:Program}{w:World}{ch:List Addr}{h h':Heap}(x:xU P w H h)(hn:∀b∈ch,H b=none)(k:∀b o,b ∉ ch->h.get? b=some o->h'.get? b=some o):xU P w H h':=λb u e=>by
 have nit:∀c v,H c=some v->c ∉ ch:=λc v e z=>by rw[hn c z]at e; cases e
 refine(x b u e).stay (λc v hc q=>k c v ?_ q) (λ_ q=>q) λ_ _ q=>q
 rcases hc with z|z
 ·rw[z]; exact nit b u e
 ·exact nit c _ z
theorem Inv.but{ch:List Addr}{h':Heap}{tk:Nat}(I:Inv X z8 σ H s)(hf:∀b∈ch,tw X z8 H b)(k:∀b o,b ∉ ch->s.heap.get? b=some o->h'.get? b=some o):Inv X z8 σ H { s with heap:=h',toks:=tk }:=
 I.call' (s':={ s with heap:=h',toks:=tk }) rfl (Hl k) (Dl I.hok (λb hb=>(hf b hb).1) k) I.bare λb hb=>⟨(hf b hb).2.2.2.1,(hf b hb).2.1,(hf b hb).2.2.2.2.1,(hf b hb).2.2.2.2.2⟩
theorem Inv.butNew{ch:List Addr}{h':Heap}{tk:Nat}{T:Addr}{o:HO}(I:Inv X z8 σ H s)(hf:∀b∈ch,tw X z8 H b)(k:∀b o,b ∉ ch->s.heap.get? b=some o->h'.get? b=some o)(hT:s.heap.get? T=none)(hn:H T=none)
  (new:xP X.prog X.w (ze H T o) h' T o):Inv X z8 σ (ze H T o) { s with heap:=h',toks:=tk }:=
 I.call' (s':={ s with heap:=h',toks:=tk }) rfl (re (Hl k) hT hn) (Dm (Dl I.hok (λb hb=>(hf b hb).1) k) hn new) I.bare λb hb=>⟨(hf b hb).2.2.2.1,(hf b hb).2.1,(hf b hb).2.2.2.2.1,(hf b hb).2.2.2.2.2⟩
end
def JD(K:W.Frag)(t1 t2:Bool)(a b:Addr):It:=
  ⟨λi H=>∃xs ys x y,uD K t1 H a xs/\uD K t2 H b ys/\xs[i]?=some x/\ys[i]?=some y,
   λi H v H'=>∃p,H p=none/\v=.ref p/\∀xs ys,uD K t1 H a xs->uD K t2 H b ys->∃x y,xs[i]?=some x/\ys[i]?=some y/\H'=ze H p (.tup [x,y]),
   λi H=>∃xs ys,uD K t1 H a xs/\uD K t2 H b ys/\(xs.length<=i\/ys.length<=i)⟩
theorem nW{P:Program}{w:World}{K:W.Frag}{elts:List Expr}{kk:Nat}{pos:Pos}(t1 t2:Bool)(a b z TI TO i1 i2:Addr)(D:ZipApart z TI TO i1 i2 a b) :
  ji P w K (.Tuple elts kk pos) (JD K t1 t2 a b) [z,TI,TO,i1,i2] z (λi h=>IsZip h z TI TO .none/\IsPair h TI (.ref i1) (.ref i2)/\(∃u v,IsPair h TO u v)/\je t1 h i1 a i/\je t2 h i2 b i) where
 mem:=by simp
 obj:=λi h st c hc=>by
  obtain⟨s1,s2,⟨u,v,s3⟩,⟨o4,s4,_,d4⟩,⟨o5,s5,_,d5⟩⟩:=st;simp only[yI,wq,or_false]at hc;rcases hc with rfl|rfl|rfl|rfl|rfl
  ·exact⟨_,s1,λv q=>nomatch q⟩
  ·exact⟨_,s2,λv q=>nomatch q⟩
  ·exact⟨_,s3,λv q=>nomatch q⟩
  ·exact⟨_,s4,λv q=>by rw[d4]at q; cases q⟩
  ·exact⟨_,s5,λv q=>by rw[d5]at q; cases q⟩
 keep:=λi h h' st k=>by
  obtain⟨s1,s2,⟨u,v,s3⟩,s4,s5⟩:=st;exact⟨k z (by simp) _ s1,k TI (by simp) _ s2,⟨u,v,k TO (by simp) _ s3⟩,s4.at λo e=>k i1 (by simp) o e,s5.at λo e=>k i2 (by simp) o e⟩
 item:=by
  intro X hP hw hK hc i z8 s σ H E I hf st hg;subst hP hw hK;obtain⟨s1,s2,⟨u,v,s3⟩,s4,s5⟩:=st;obtain⟨xs,ys,x,y,hx,hy,ex,ey⟩:=hg;obtain⟨us,ru,pu⟩:=I.seqX hx;obtain⟨ws,rw',pw⟩:=I.seqX hy;obtain⟨xu,hxu,rxu⟩:=ru.get ex;obtain⟨yw,hyw,ryw⟩:=rw'.get ey;have k1:i<us.toArray.size:=by rw[ya]; exact(yM.mp hxu).1
  have k2:i<ws.toArray.size:=by rw[ya]; exact(yM.mp hyw).1
  have e1:us.toArray.getD i .none=xu:=by
   have:=yM.mp hxu;obtain⟨l,e⟩:=this;simp[Array.getD,l,e]
  have e2:ws.toArray.getD i .none=yw:=by
   have:=yM.mp hyw;obtain⟨l,e⟩:=this;simp[Array.getD,l,e]
  have hT:s.TypeIs (.ref z) "zip" := ⟨_,s1,rfl⟩;have q4:i1<s.heap.objs.size:=by obtain⟨o,e,_⟩:=s4; exact Heap.lt_size e
  have q5:i2<s.heap.objs.size:=by obtain⟨o,e,_⟩:=s5; exact Heap.lt_size e
  unfold pyNext
  refine zE (B2 (X2 (name:=Str.ofString "__next__") hT Ql (pU Ql hT F.entry_zip_next
   (z0q D (QH D.l1i1 us.toArray) (QH D.l2i2 ws.toArray) s1 s2 s3 ⟨s4,pu⟩ ⟨s5,pw⟩ k1 k2 q4 q5 pu.lt pw.lt λh' a1 a2 a3 a4 a5 a6=>zX ?_) (F.args_zip_next_1 _))))
  rw[e1,e2]at a2 a5;refine⟨_,rfl,wpAny_letOwnedTupleGo_zip (s:={ s with heap:=h' }) a1 λh'' b1 sb=>?_⟩
  have hTs:s.heap.get? s.heap.objs.size=none:=by
   cases q:s.heap.get? s.heap.objs.size with
   |none=>rfl
   |some o=>exact absurd (Heap.lt_size q) (vi _)
  have hTf:H s.heap.objs.size=none:=I.hok.fresh (zt _);have hTz:s.heap.objs.size≠z:=ud (Heap.lt_size s1);have tup:h''.get? s.heap.objs.size=some { cls:=.type "tuple",data:=.seq #[xu,yw] }:=sb.extBut _ _ hTz a5
  have kk:∀c o,c ∉ [z,TI,TO,i1,i2]->s.heap.get? c=some o->h''.get? c=some o:=λc o hc e=>by
   simp only[yI,wq,or_false,not_or]at hc;exact sb.extBut _ _ hc.1 (a6 c o hc.1 hc.2.2.1 hc.2.2.2.1 hc.2.2.2.2 e)
  have new:xP X.prog X.w (ze H s.heap.objs.size (.tup [x,y])) h'' s.heap.objs.size (.tup [x,y]):=⟨(by show 2<=sizeLine; decide),[xu,yw],.cons rxu (.cons ryw .nil),⟨_,tup,rfl,_,rfl⟩⟩;refine⟨.ref s.heap.objs.size,ze H s.heap.objs.size (.tup [x,y]),I.butNew (tk:=s.toks) hf kk hTs hTf new,rfl,⟨s.heap.objs.size,hTf,rfl,λxs' ys' hx' hy'=>?_⟩,⟨b1,?_,⟨_,_,sb.extBut _ _ D.TOz a2⟩,a3.1.at λo e=>sb.extBut _ _ D.i1z e,a4.1.at λo e=>sb.extBut _ _ D.i2z e⟩,λc hc=>?_⟩
  ·rw[I.seqX_inj hx' hx,I.seqX_inj hy' hy];exact⟨x,y,ex,ey,rfl⟩
  ·exact sb.extBut _ _ D.TIz (a6 _ _ D.TIz D.TITO D.TIi1 D.TIi2 s2)
  ·rw[ym]
   ·exact(hf c hc).1
   ·intro q
    have hlt:c<s.heap.objs.size:=by
     simp only[yI,wq,or_false]at hc;rcases hc with rfl|rfl|rfl|rfl|rfl
     ·exact Heap.lt_size s1
     ·exact Heap.lt_size s2
     ·exact Heap.lt_size s3
     ·exact q4
     ·exact q5
    rw[q]at hlt;exact absurd hlt (vi _)
 done:=by
  intro X hP hw hK hc i z8 s σ H E I hf st hg;subst hP hw hK;obtain⟨s1,s2,⟨u,v,s3⟩,s4,s5⟩:=st;obtain⟨xs,ys,hx,hy,hend⟩:=hg;obtain⟨us,ru,pu⟩:=I.seqX hx;obtain⟨ws,rw',pw⟩:=I.seqX hy
  have hend':us.toArray.size<=i\/ws.toArray.size<=i:=by
   have l1:=ru.length;have l2:=rw'.length;rw[ya,ya];omega
  have hT:s.TypeIs (.ref z) "zip" := ⟨_,s1,rfl⟩;unfold pyNext
  refine zE (B2 (X2 (name:=Str.ofString "__next__") hT Ql (pU Ql hT F.entry_zip_next
   (z0p (by exact I.ok.hd hc) D (QH D.l1i1 us.toArray) (QH D.l2i2 ws.toArray) s1 s2 s3 ⟨s4,pu⟩ ⟨s5,pw⟩ hend' λh' e kk he=>?_) (F.args_zip_next_1 _))))
  obtain⟨o,ho,hcl⟩:=he;refine zE (B3 (T := "StopIteration") (b:=true) ⟨o,ho,hcl⟩ isSubtype_stop ?_);refine zX ⟨rfl,I.but (tk:=s.toks) hf λc ob hcc eb=>?_⟩;simp only[yI,wq,or_false,not_or]at hcc;exact kk c ob hcc.1 hcc.2.2.1 hcc.2.2.2.1 hcc.2.2.2.2 eb
 self:=λ_ _ _ _ _ st h=>wpAny_pyIter_zip st.1 h
theorem yi{a b:Nat}(h:a≠b):@Ne Addr a b:=h
theorem z0r{n l1 l2:Nat}(h1:l1<n)(h2:l2<n):ZipApart (n+4) (n+2) (n+3) n (n+1) l1 l2:=
 ⟨yi (by omega),yi (by omega),yi (by omega),yi (by omega),yi (by omega),yi (by omega),yi (by omega),yi (by omega),yi (by omega),yi (by omega),yi (by omega),yi (by omega),yi (by omega),yi (by omega),yi (by omega),yi (by omega),yi (by omega),yi (by omega)⟩
theorem NK:bootBuiltins "zip" = some (.type "zip"):=by decide +kernel
section
variable{X:Cx}
def Dn(K:W.Frag)(ta:TA):TI:=λσ H R=>ta σ H λvs H1=>∃a b xs ys t1 t2,vs=[.ref a,.ref b]/\uD K t1 H1 a xs/\uD K t2 H1 b ys/\R (JD K t1 t2 a b) H1
theorem bu{a b:Expr}{ta:TA}{p pos:Pos}{elts:List Expr}{kk:Nat}{tp:Pos}(hg:Gl X "zip")(hm:X.mg "zip" = none)(ha:PA X [a,b] ta)(hs:starEach [a,b] X.env=[(false,eval a X.env),(false,eval b X.env)]:=by rfl)
  (hs2:starEach [b] X.env=[(false,eval b X.env)]:=by rfl):PI X (.Tuple elts kk tp) (.Call (.Name "zip" p) [a,b] [] pos) (Dn X.K ta):=by
 intro z8 s σ H R I h;refine Call_ (Y1 I hg hm NK (Qw (zw (ha pos z8 s σ H _ I h) λus s1 ⟨vs,H1,I1,r1,q1⟩=>?_) (by rw[hs,hs2]) (by rw[hs2]; rfl)));obtain⟨l1,l2,xs,ys,t1,t2,rfl,hx,hy,q⟩:=q1;obtain⟨u,v,rfl,ru,rv⟩:=Lx r1;cases(show u=Value.ref l1 from ru);cases(show v=Value.ref l2 from rv);obtain⟨us,_,pu⟩:=I1.seqX hx;obtain⟨ws,_,pw⟩:=I1.seqX hy;have w1:=pu.lt;have w2:=pw.lt;refine Nh pu pw λh' a1 a2 a3 a4 a5 kp=>?_
 have I2:Inv X z8 σ H1 { s1 with heap:=h' }:=I1.kept (t':=s1.toks) kp;refine wpAny_pyIter_zip (s:={ s1 with heap:=h' }) a1 ?_;generalize hn:s1.heap.objs.size=n at a1 a2 a3 a4 a5 w1 w2
 have D:ZipApart (n+4) (n+2) (n+3) n (n+1) l1 l2:=by
  exact z0r w1 w2
 refine⟨n+4,[n+4,n+2,n+3,n,n+1],_,_,H1,rfl,I2,nW t1 t2 l1 l2 (n+4) (n+2) (n+3) n (n+1) D,⟨a1,a2,⟨_,_,a3⟩,a4,a5⟩,λc hc=>?_,q⟩
 have hle:s1.heap.objs.size<=c:=by
  rw[hn];simp only[yI,wq,or_false]at hc;rcases hc with rfl|rfl|rfl|rfl|rfl
  ·exact ZE _ _
  ·exact ZE _ _
  ·exact ZE _ _
  ·exact zt _
  ·exact ZE _ _
 exact I1.fpOk hle (I1.hok.fresh hle)
theorem cg{a b:Expr}{ta:TA}{p pos:Pos}{elts:List Expr}{kk:Nat}{tp:Pos}(hg:Gl X "zip")(hm:X.mg "zip" = none)(ha:QA X [a,b] ta)(hs:xM a=true:=by rfl)(hs2:xM b=true:=by rfl) :
  QI X (.Tuple elts kk tp) (.Call (.Name "zip" p) [a,b] [] pos) (Dn X.K ta):=⟨bu hg hm ha.h (by rw[tW hs,tW hs2]; rfl) (tW hs2)⟩
end
def Bc(scope:Scope)(env:Env)(cl:List (Str×Addr))(own:List Str):Bool:=
 scope.kind == .function&&scope.names.all (λy=>y.2 != .cell)&&Zc scope env cl own&&scope.names.all (λy=>y.2 != .local||scope.names.lookup y.1==some .local)
theorem wS{X:Cx}{scope:Scope}{cl:List (Str×Addr)}{own:List Str}(clos:closureFor scope X.env=pure cl)(cap:jb X.env cl:=by first|exact True.intro|exact⟨rfl,True.intro⟩|exact⟨rfl,rfl,True.intro⟩|exact⟨rfl,rfl,rfl,True.intro⟩|exact⟨rfl,rfl,rfl,rfl,True.intro⟩)
  (ok:Bc scope X.env cl own=true:=by rfl):gZ X scope cl own:=by
 unfold Bc at ok;simp only[xB]at ok;obtain⟨⟨⟨h1,h2⟩,h3⟩,h4⟩:=ok;refine⟨qN.mp h1,λy hy e=>?_,cap,h3,clos,λy hy e=>?_⟩
 ·have:=wm.mp h2 y hy;rw[e]at this;cases this
 ·have:=wm.mp h4 y hy;rw[e]at this;simpa using this
theorem ci{X:Cx}{e:Expr}{te:TE}{pos:Pos}{i:Nat}{x:Str}{pos':Pos}(hN:X.N.Nodup)(hi:X.N[i]?=some x)(hx:uN X.env.scope x)(he:QE X e te)(hs:swapsWith e (some (.Name x pos')) pos.line X.env=pure false:=by rfl)
  (hf:X.fn x=true\/X.env.scope.names.lookup x=some .local:=by first|exact .inl rfl|exact .inr rfl|assumption):QS X (.Assign [.Name x pos'] e pos) (QM te (vL i)):=⟨G7 hN hi hx he.h hs hf⟩
section
variable{X:Cx}(K:W.Frag)(hK:X.K=K)
include hK
end
def Kq(K:W.Frag)(a:Addr)(xs:List V):Prop:=∀H,xE K H a xs
theorem xQ{K:W.Frag}{a:Addr}{xs:List V}{d:Option Addr}{its:Array Value}{n:Nat}{sl:Array (Option Value)}(h:K.lookup a=some ⟨.type "tuple",d,.seq its n,sl⟩)(hz:its.size<=sizeLine)(r:zf xs its.toList):Kq K a xs:=
 λ_=>.inr ⟨_,its,n,h,rfl,rfl,hz,r⟩
open Builtin Builtin.Str
section
variable{X:Cx}
theorem Hs:∀{ts:List Str}{its:List Value},zf (ts.map V.str) its->∃l:List (Str×Tok),its=strValues l/\l.map (·.1)=ts
 | [],_,.nil=>⟨[],rfl,rfl⟩
 |t::ts,_,.cons r rr=>by
  obtain⟨k,e⟩:=(show ∃k,_=Value.str t k from r);obtain⟨l,e1,e2⟩:=Hs rr;subst e e1;exact⟨(t,k)::l,rfl,by rw[xT,e2]⟩
def cv(K:W.Frag):V->List V->Hp->VK->Prop:=λx vs H Q=>∃(sep:Str) (p:Addr) (ts:List Str),x=.str sep/\vs=[.ref p]/\yG K H p (ts.map V.str)/\(ts.map (·.length)).sum+ts.length*sep.length<=sizeLine/\Q (.str (glued sep ts)) H
theorem Df(sep:Str):∀ts:List Str,(glued sep ts).length<=(ts.map (·.length)).sum+ts.length*sep.length
 | []=>by show(Str.length _)<=_; simp[glued,Str.length,Str.empty]
 |t::ts=>by
  have h:∀(us:List Str)(a:Array Nat),(us.foldl (λacc p=>acc++sep.cps++p.cps) a).size=a.size+(us.map (·.length)).sum+us.length*sep.length:=λus=>by
   induction us with
   |nil=>intro a; simp
   |cons u us ih=>
    intro a;rw[vB,ih];simp only[MR,xT,Ml,xK,Ms,Str.length];omega
  show(ts.foldl (λacc p=>acc++sep.cps++p.cps) t.cps).size<=_;rw[h];simp only[xT,Ml,xK,Ms,Str.length];omega
theorem A3:gx X "str.join" (cv X.K):=by
 intro z8 s σ H x vs v us Q I rx rv h;obtain⟨sep,p,ts,rfl,rfl,hq,hz,q⟩:=h;obtain⟨t,rfl⟩:=(show ∃t,v=Value.str sep t from rx);obtain⟨u,rfl,ru⟩:=ub rv;cases(show u=Value.ref p from ru);obtain⟨its,r,pl,_⟩:=I.list hq;obtain⟨l,rfl,el⟩:=Hs r;have hT:s.TypeIs (.ref p) "list" := pl.isList.typeIs;obtain⟨o,ho,hc,n,hd⟩:=pl.isList
 have hno:tooLong ((l.map (·.1)).toArray.foldl (·+·.length+sep.length) 0)=false:=by
  rw[el,StrLaws.joinTotal];unfold tooLong;exact yy (by omega)
 have fit:(glued sep ts).length<=sizeLine:=wX (Df sep ts) hz;refine Q_ (Mx F.slot_str_join.plain F.entry_str_join (F.slot_str_join.check _ _ _ _ _ _ _ _ (Qz _ _ _) (F.args_str_join_2 _ _) ?_));obtain⟨other,e⟩:=join_tree sep t p;rw[e];refine zE (X7 hT ?_);rw[zK (by decide)];refine zE (qo ho hd ?_);show wpAny _ _ (joinTail sep (strValues l)) _ _ _;rcases l with _|⟨a,_|⟨b,c⟩⟩
 ·subst el;exact M_ sep [] hno X.prog X.w _ (λr s'=>match r with|.ok (.ret v)=>EP X z8 σ Q v s'|.ok _=>False|.error e=>X.xe e s') s ⟨fit,.str _,H,I.tok _,⟨_,rfl⟩,q⟩
 ·subst el;exact M_ sep [a] hno X.prog X.w _ (λr s'=>match r with|.ok (.ret v)=>EP X z8 σ Q v s'|.ok _=>False|.error e=>X.xe e s') s ⟨.str _,H,I,⟨_,rfl⟩,q⟩
 ·subst el;exact M_ sep (a::b::c) hno X.prog X.w _ (λr s'=>match r with|.ok (.ret v)=>EP X z8 σ Q v s'|.ok _=>False|.error e=>X.xe e s') s ⟨fit,.str _,H,I.tok _,⟨_,rfl⟩,q⟩
end
def U8(z:Str):It:=⟨λi _=>i<z.length,λi H x H'=>H'=H/\∃c,z.cps[i]?=some c/\x=.str ⟨#[c]⟩,λi _=>z.length<=i⟩
section
variable{X:Cx}{tg:Expr}
def RV(te:TE):TI:=λσ H R=>te σ H λx H1=>∃z,x=.str z/\R (U8 z) H1
theorem nU{P:Program}{w:World}{K:W.Frag}{it:Addr}{z:Str}{t:Tok}{ty:String}(hty:ty = "str_ascii_iterator" \/ ty = "str_iterator"):ji P w K tg (U8 z) [it] it (λi h=>h.IsStrIter it ty z t i/\i<=z.length) where
 mem:=by simp
 obj:=λi h st b hb=>by
  have e:b=it:=by simpa using hb
  subst e;obtain⟨⟨o,e,c,d⟩,_⟩:=st;exact⟨o,e,λv z=>by rw[d]at z; cases z⟩
 keep:=λi h h' st k=>⟨let ⟨o,ho,r⟩:=st.1; ⟨o,k it (by simp) o ho,r⟩,st.2⟩
 item:=by
  intro X hP hw hK hc i z8 s σ H E I hf st hg;subst hP hw hK;obtain⟨f0,f1,f2,f3,f4,f5⟩:=hf it (by simp);have hg':i<z.cps.size:=hg;have hx:z.cps[i]?=some z.cps[i]:=by simp[hg']
  have go:∀h' tk (u:Value),(∃t',u=Value.str ⟨#[z.cps[i]]⟩ t')->h'.IsStrIter it ty z t (i+1)->Heap.SameBut it s.heap h'->∃v,some u=some v/\
    wpAny (model X.prog X.w) X.A (letOwnedTupleGo tg (.ref it) v) (λ_ s2=>∃x H',Inv X z8 σ H' s2/\zr x v/\(U8 z).yld i H x H'/\(s2.heap.IsStrIter it ty z t (i+1)/\i+1<=z.length)/\∀b∈[it],H' b=none) E { s with heap:=h',toks:=tk }:=λh' tk u hu st' sb=>by
   obtain⟨t',rfl⟩:=hu;have I1:Inv X z8 σ H { s with heap:=h',toks:=tk }:=I.turned (λb o hb e=>(sb.2 b hb).trans e) f0 f1 f3 f4 f5;obtain⟨o,e,c,d⟩:=id st';exact⟨_,rfl,T7 (s:={ s with heap:=h',toks:=tk }) e c d (by rcases hty with rfl|rfl<;>decide) ⟨.str ⟨#[z.cps[i]]⟩,H,I1,⟨t',rfl⟩,⟨rfl,_,hx,rfl⟩,⟨st',hg⟩,λb hb=>(hf b hb).1⟩⟩
  rcases hty with rfl|rfl
  ·exact wpAny_pyNext_ascii_item st.1 hx λh' st' sb=>go h' _ _ ⟨_,rfl⟩ st' sb
  ·exact wpAny_pyNext_wide_item st.1 hx λh' st' sb=>go h' _ _ ⟨_,rfl⟩ st' sb
 done:=by
  intro X hP hw hK hc i z8 s σ H E I hf st hg;subst hP hw hK;obtain⟨f0,f1,f2,f3,f4,f5⟩:=hf it (by simp);have hx:z.cps[i]?=none:=Qg hg;rcases hty with rfl|rfl
  ·exact wpAny_pyNext_ascii_end (I.ok.hd hc) st.1 hx λh' eb=>⟨rfl,I.turned (t':=s.toks) (λb o hb e=>eb b o hb e) f0 f1 f3 f4 f5⟩
  ·exact wpAny_pyNext_wide_end (I.ok.hd hc) st.1 hx λh' eb=>⟨rfl,I.turned (t':=s.toks) (λb o hb e=>eb b o hb e) f0 f1 f3 f4 f5⟩
 self:=λ_ _ _ _ _ st h=>by
  rcases hty with rfl|rfl
  ·exact wpAny_pyIter_striter_ascii st.1 h
  ·exact wpAny_pyIter_striter_wide st.1 h
theorem bt{e:Expr}{te:TE}(he:PE X e te):PI X tg e (RV te):=by
 intro z8 s σ H R I h;refine zw (he z8 s σ H _ I h) λv s1 ⟨x,H1,I1,r1,q1⟩=>?_
 obtain⟨z,rfl,q⟩:=q1;obtain⟨t,rfl⟩:=(show ∃t,v=Value.str z t from r1)
 have fin:∀(ty:String),(ty = "str_ascii_iterator" \/ ty = "str_iterator")->∀o:Obj,(s1.heap.push o).IsStrIter s1.heap.objs.size ty z t 0->JH X z8 σ tg R (.ref s1.heap.objs.size) { s1 with heap:=s1.heap.push o }:=λty hty o st=>
  ⟨s1.heap.objs.size,[s1.heap.objs.size],_,_,H1,rfl,I1.kept (t':=s1.toks) λb o e=>Heap.get?_push_of_some _ e,nU hty,⟨st,xb _⟩,λb hb=>by
   have e:b=s1.heap.objs.size:=by simpa using hb
   subst e;exact I1.fpOk (zt _) (I1.hok.fresh (zt _)),q⟩
 cases ha:z.cps.all (·<128)
 ·exact wpAny_pyIter_wide ha (fin _ (.inr rfl) _ ⟨_,Heap.get?_push_size _ rfl,rfl,rfl⟩)
 ·exact wpAny_pyIter_ascii ha (fin _ (.inl rfl) _ ⟨_,Heap.get?_push_size _ rfl,rfl,rfl⟩)
end
def cutS(z:Str)(lo hi:Option Int):Str:=⟨((z.cps.toList.drop (HT.sIx z.length 0 lo)).take (HT.sIx z.length z.length hi-HT.sIx z.length 0 lo)).toArray⟩
theorem Nm(n:Nat)(lo:Option Int):(match lo with|none=>(0:Int)|some i=>max 0 (min (if i<0 then i+(n:Int)else i) (n:Int)))=((HT.sIx n 0 lo:Nat):Int)\/∃i,lo=some i/\i<0/\(n:Int)<i+n:=by
 cases lo with
 |none=>left; rfl
 |some i=>
  left
  show max 0 (min (if i<0 then i+(n:Int)else i) (n:Int))=(((if i<0 then(i+(n:Int)).toNat else min i.toNat n):Nat):Int);by_cases h:i<0
  ·simp only[h,qO]; omega
  ·simp only[h,Y_]; omega
theorem Nl(n:Nat)(hi:Option Int):(match hi with|none=>(n:Int)|some i=>max 0 (min (if i<0 then i+(n:Int)else i) (n:Int)))=((HT.sIx n n hi:Nat):Int):=by
 cases hi with
 |none=>rfl
 |some i=>
  show max 0 (min (if i<0 then i+(n:Int)else i) (n:Int))=(((if i<0 then(i+(n:Int)).toNat else min i.toNat n):Nat):Int);by_cases h:i<0
  ·simp only[h,qO]; omega
  ·simp only[h,Y_]; omega
theorem Nn(n:Nat)(lo:Option Int):(match lo with|none=>(0:Int)|some i=>max 0 (min (if i<0 then i+(n:Int)else i) (n:Int)))=((HT.sIx n 0 lo:Nat):Int):=by
 rcases Nm n lo with h|⟨i,_,h1,h2⟩
 ·exact h
 ·omega
theorem Eu(z:Str)(lo hi:Option Int):(strSliceIndices lo hi 1 z.length)=(List.range (HT.sIx z.length z.length hi-HT.sIx z.length 0 lo)).map (HT.sIx z.length 0 lo+·):=by
 have h1:=Nn z.length lo;have h2:=Nl z.length hi;rw[<-sliceRange_one,<-h1,<-h2];unfold strSliceIndices;simp only[show(1:Int)>0 by decide,qO];cases lo<;>cases hi<;>rfl
theorem Nu(z:Str)(lo hi:Option Int):(⟨((strSliceIndices lo hi 1 z.length).filterMap (z.cps[·]?)).toArray⟩:Str)=cutS z lo hi:=by
 rw[Eu,pick_run];rfl
theorem sIx_le(n d:Nat)(hd:d<=n)(v:Option Int):HT.sIx n d v<=n:=by
 cases v with
 |none=>exact hd
 |some i=>
  show(if i<0 then(i+(n:Int)).toNat else min i.toNat n)<=n;by_cases h:i<0
  ·simp only[h,qO]; omega
  ·simp only[h,Y_]; omega
theorem Nv(z:Str)(lo hi:Option Int)(h:(strSliceIndices lo hi 1 z.length).length=z.length):cutS z lo hi=z:=by
 rw[Eu,zj,vP]at h;have a:=sIx_le z.length 0 (xb _) lo;have b:=sIx_le z.length z.length (zt _) hi;unfold cutS;rw[h];have hz:HT.sIx z.length 0 lo=0\/z.length=0:=by omega
 have hl:z.cps.toList.length=z.length:=by simp[Str.length]
 rcases hz with q|q
 ·rw[q,List.drop_zero,<-hl,ZD]
 ·have e:z.cps.toList=[]:=MY (by omega);rw[e];simp;cases z with
  |mk c=>simp[Str.length]at q; simp[q]
theorem cut_len(z:Str)(lo hi:Option Int):(cutS z lo hi).length<=z.length:=by
 show(List.toArray _).size<=z.cps.size;rw[ya,tY,ZB,wy];omega
section
variable{X:Cx}
theorem Em{v:Value}{lo:Option Int}(h:IsPart v lo):∃l:Option (Int×Tok),v=partValue l/\l.map (·.1)=lo:=by
 cases h with
 |none=>exact⟨none,rfl,rfl⟩
 |int i t=>exact⟨some (i,t),rfl,rfl⟩
def GV:V->Option Int->Option Int->Hp->VK->Prop:=λx lo hi H Q=>∃z:Str,x=.str z/\z.length<=sizeLine/\Q (.str (cutS z lo hi)) H
theorem lE:j5 X GV:=by
 intro z8 s σ H x v vl vu lo hi sl Q I rx hs pl pu h;obtain⟨z,rfl,hz,q⟩:=h;obtain⟨t,rfl⟩:=(show ∃t,v=Value.str z t from rx);obtain⟨l,rfl,rfl⟩:=Em pl;obtain⟨u,rfl,rfl⟩:=Em pu;refine⟨"str",_,F.slot_str_getitem.lookup,Qz _ _ _,?_⟩;refine wpAny_getItem_str_slice (l:=l) (u:=u) (st:=none) hs rfl ?_;unfold sliceMade;have hp:slicePicked z l u none=strSliceIndices (l.map (·.1)) (u.map (·.1)) 1 z.length:=rfl;rw[hp]
 split
 ·rename_i hc
  have e:(strSliceIndices (l.map (·.1)) (u.map (·.1)) 1 z.length).length=z.length:=by
   rw[xB]at hc;exact qN.mp hc.2
  rw[Nv z _ _ e]at q;exact⟨.str z,H,I,⟨_,rfl⟩,q⟩
 ·rw[Nu];exact⟨wX (cut_len z _ _) hz,.str _,H,I.tok _,⟨_,rfl⟩,q⟩
end
section
variable{X:Cx}{e o:Expr}{te to:TE}{pos apos cpos:Pos}{name:Str}{T id:String}{rm:V->List V->Hp->VK->Prop}
theorem GJ(pa:PlainAttrs T)(slot:Slot T name id)(hty:typeOf (.builtin id)=pure (.type "method_descriptor"))(hm:gx X id rm)(ho:QE X o to)
  (hbase:attributeBase o name X.env (eval o X.env)=eval o X.env:=by rfl)(hline:(apos.endLine==cpos.line)=true:=by rfl):QE X (.Call (.Attribute o name apos) [] [] cpos) (HZ X.K T rm to):=⟨bN pa slot hty hm ho.h hbase hline⟩
end
end L2
namespace L2
open PySem PySem.Spec PyProof.Rows
section
variable{κ:Type}[DecidableEq κ]
def t4(kvs:List (κ×V))(k:κ):Option V:=(kvs.find? λkv=>decide (kv.1=k)).map (·.2)
def vy(kvs:List (κ×V))(k:κ)(v:V):List (κ×V):=
 if(kvs.any λkv=>decide (kv.1=k))=true then kvs.map (λkv=>if kv.1=k then(kv.1,v)else kv)else kvs++[(k,v)]
theorem QV{p:κ×V}{r:List (κ×V)}{k:κ}(e:p.1=k):t4 (p::r) k=some p.2:=by simp[t4,Yq,e]
theorem QU{p:κ×V}{r:List (κ×V)}{k:κ}(e:¬ p.1=k):t4 (p::r) k=t4 r k:=by simp[t4,Yq,e]
theorem Hq(k:κ):∀kvs:List (κ×V),(kvs.any λkv=>decide (kv.1=k))=(t4 kvs k).isSome
 | []=>rfl
 |p::r=>by
  rw[Z7];by_cases e:p.1=k
  ·simp only[QV e,xD e,Bool.true_or,Option.isSome_some]
  ·rw[QU e,yy e,MT]; exact Hq k r
theorem OH(kvs:List (κ×V))(k:κ)(v:V):(vy kvs k v).length<=kvs.length+1:=by
 unfold vy
 split
 ·rw[zj]; omega
 ·rw[yD,xK,Yt]; omega
theorem qU.isSome_eq{o:Option V}{u:Option Value}(r:qU o u):o.isSome=u.isSome:=by
 cases o with
 |none=>cases u with
  |none=>rfl
  |some _=>exact(show False from r).elim
 |some _=>cases u with
  |none=>exact(show False from r).elim
  |some _=>rfl
theorem KV.val{kvs:List (κ×V)}{vs:List (κ×Value)}(r:KV kvs vs)(k:κ):qU (t4 kvs k) (valueAt vs k):=by
 unfold KV at r
 induction r with
 |nil=>exact True.intro
 |@cons p q ps qs h t ih=>
  obtain⟨h1,h2⟩:=h;by_cases e:p.1=k
  ·have e':q.1=k:=h1.symm.trans e;have b:valueAt (q::qs) k=some q.2:=by simp[valueAt,Yq,e']
   rw[QV e,b]; exact h2
  ·have e':¬ q.1=k:=λz=>e (h1.trans z)
   have b:valueAt (q::qs) k=valueAt qs k:=by simp[valueAt,Yq,e']
   rw[QU e,b]; exact ih
theorem KV.any{kvs:List (κ×V)}{vs:List (κ×Value)}(r:KV kvs vs)(k:κ):(kvs.any λkv=>decide (kv.1=k))=vs.any λkv=>decide (kv.1=k):=by
 unfold KV at r
 induction r with
 |nil=>rfl
 |cons h t ih=>rw[Z7,Z7,ih,h.1]
theorem KV.repl{kvs:List (κ×V)}{vs:List (κ×Value)}(r:KV kvs vs)(k:κ){y:V}{u:Value}(ry:zr y u) :
  KV (kvs.map λkv=>if kv.1=k then(kv.1,y)else kv) (vs.map λkv=>if kv.1=k then(kv.1,u)else kv):=by
 unfold KV at r ⊢
 induction r with
 |nil=>exact .nil
 |@cons p q ps qs h t ih=>
  rw[xT,xT];refine .cons ?_ ih;obtain⟨h1,h2⟩:=h;by_cases e:p.1=k
  ·rw[zK e,zK (h1.symm.trans e)]; exact⟨h1,ry⟩
  ·rw[zL e,zL (λz=>e (h1.trans z))]; exact⟨h1,h2⟩
theorem KV.put{kvs:List (κ×V)}{vs:List (κ×Value)}(r:KV kvs vs)(k:κ){y:V}{u:Value}(ry:zr y u):KV (vy kvs k y) (stored vs k u):=by
 unfold vy stored;rw[r.any k];by_cases e:(vs.any λkv=>decide (kv.1=k))=true
 ·rw[zK e,zK e]; exact r.repl k ry
 ·rw[zL e,zL e]; exact Paired.snoc r ⟨rfl,ry⟩
theorem KV.length{kvs:List (κ×V)}{vs:List (κ×Value)}(r:KV kvs vs):kvs.length=vs.length:=Paired.length r
end
theorem jH{P:Program}{w:World}{k:Key}{u:Value}(r:zr (kV k) u):(y_ P w).is k u=true:=by
 cases k with
 |inl i=>obtain⟨t,e⟩:=(show ∃t,u=Value.int i t from r); subst e; exact Sy P w i t
 |inr x=>obtain⟨t,e⟩:=(show ∃t,u=Value.str x t from r); subst e; exact OM P w x t
theorem Dz{P:Program}{w:World}:∀{ks:List Key}{us:List Value},zf (ks.map kV) us->ItemsAre (y_ P w) ks us
 | [],_,r=>by rw[Qq]at r; cases r; exact .nil
 |k::ks,_,r=>by
  rw[xT]at r;cases r with
  |cons h t=>exact .cons (jH h) (Dz t)
abbrev KT(H:Hp):List (List Key×V)->List (List Key×Addr×Value)->Prop:=Paired λp q=>p.1=q.1/\H q.2.1=some (.tup (p.1.map kV))/\zr p.2 q.2.2
theorem KT.val{H:Hp}{kvs:List (List Key×V)}{xs:List (List Key×Addr×Value)}(r:KT H kvs xs)(k:List Key):qU (t4 kvs k) ((atKey xs k).map (·.2)):=by
 induction r with
 |nil=>exact True.intro
 |@cons p q ps qs h t ih=>
  obtain⟨h1,_,h2⟩:=h;by_cases e:p.1=k
  ·have e':q.1=k:=h1.symm.trans e;have b:atKey (q::qs) k=some q.2:=by simp[atKey,Yq,e']
   rw[QV e,b]; exact h2
  ·have e':¬ q.1=k:=λz=>e (h1.trans z)
   have b:atKey (q::qs) k=atKey qs k:=by simp[atKey,Yq,e']
   rw[QU e,b]; exact ih
theorem KT.repl{H:Hp}{kvs:List (List Key×V)}{xs:List (List Key×Addr×Value)}(r:KT H kvs xs)(k:List Key){y:V}{u:Value}(ry:zr y u) :
  KT H (kvs.map λkv=>if kv.1=k then(kv.1,y)else kv) (xs.map (putAt k u)):=by
 induction r with
 |nil=>exact .nil
 |@cons p q ps qs h t ih=>
  rw[xT,xT];refine .cons ?_ ih;obtain⟨h1,h2,h3⟩:=h;unfold putAt;by_cases e:p.1=k
  ·rw[zK e,zK (h1.symm.trans e)]; exact⟨h1,h2,ry⟩
  ·rw[zL e,zL (λz=>e (h1.trans z))]; exact⟨h1,h2,h3⟩
theorem KT.put{H:Hp}{kvs:List (List Key×V)}{xs:List (List Key×Addr×Value)}(r:KT H kvs xs)(k:List Key){b:Addr}{y:V}{u:Value}(hb:H b=some (.tup (k.map kV)))(ry:zr y u) :
  KT H (vy kvs k y) (storedH xs k b u):=by
 have e:(kvs.any λkv=>decide (kv.1=k))=(atKey xs k).isSome:=by
  rw[Hq,(r.val k).isSome_eq,Mu]
 unfold vy storedH;rw[e];by_cases q:(atKey xs k).isSome=true
 ·rw[zK q,zK q]; exact r.repl k ry
 ·rw[zL q,zL q]; exact Paired.snoc r ⟨rfl,hb,ry⟩
theorem KT.keeps{H H':Hp}{kvs:List (List Key×V)}{xs:List (List Key×Addr×Value)}(r:KT H kvs xs)(ht:∀b ys,H b=some (.tup ys)->H' b=some (.tup ys)):KT H' kvs xs:=
 Paired.mapP r λ_ _ z=>⟨z.1,ht _ _ z.2.1,z.2.2⟩
section
variable{P:Program}{w:World}{H:Hp}{h:Heap}{a:Addr}
theorem Gf{u:HO}(ok:xU P w H h)(e:Rd H a u):xP P w H h a u:=e.ok ok
theorem Ze{kvs:List (Key×V)}(ok:xU P w H h)(e:Rd H a (.dK kvs)):kvs.length<=sizeLine/\(a==sysModules)=false/\∃vs,KV kvs vs/\h.DictOf (y_ P w) a vs:=
 show xP P w H h a (.dK kvs)from Gf ok e
theorem P3{kvs:List (Key×V)}(ok:xU P w H h)(e:H a=some (.dK kvs)):kvs.length<=sizeLine/\(a==sysModules)=false/\∃vs,KV kvs vs/\h.DictOf (y_ P w) a vs:=Ze ok (.inl e)
theorem TQ{ks:List Key}(ok:xU P w H h)(e:H a=some (.tup (ks.map kV))):(tupleKind (y_ P w)).is h ks a:=by
 obtain⟨_,its,r,o,h1,h2,n,h3⟩:=(show xP P w H h a (.tup (ks.map kV))from ok a _ e);exact⟨o,its.toArray,n,h1,h2,h3,by simpa using Dz r⟩
theorem Ut{kvs:List (List Key×V)}(ok:xU P w H h)(e:Rd H a (.dT kvs)):kvs.length<=sizeLine/\(a==sysModules)=false/\
  ∃xs,KT H kvs xs/\h.DictOfH (tupleKind (y_ P w)) a xs:=by
 obtain⟨z,y,xs,r,o,es,ep,h1,h2,h3,h4,h5⟩:=(show xP P w H h a (.dT kvs)from Gf ok e);refine⟨z,y,xs,r,o,es,ep,h1,h2,h3,h4,λx hx=>?_,h5⟩
 have all:∀{l:List (List Key×V)} {m:List (List Key×Addr×Value)},KT H l m->∀x∈m,(tupleKind (y_ P w)).is h x.1 x.2.1:=by
  intro l m q
  induction q with
  |nil=>intro x hx; exact nomatch hx
  |@cons p q ps qs hq t ih=>
   intro x hx;rcases yI.mp hx with e|hx
   ·subst e;exact TQ ok (by rw[<-hq.1]; exact hq.2.1)
   ·exact ih x hx
 exact all r x hx
theorem P5{kvs:List (List Key×V)}(ok:xU P w H h)(e:H a=some (.dT kvs)):kvs.length<=sizeLine/\(a==sysModules)=false/\
  ∃xs,KT H kvs xs/\h.DictOfH (tupleKind (y_ P w)) a xs:=Ut ok (.inl e)
end
def J9(H:Hp)(a:Addr)(y:V)(r:Option V):Prop:=
 (∃kvs k,Rd H a (.dK kvs)/\y=kV k/\r=t4 kvs k)\/∃kvs k b,Rd H a (.dT kvs)/\y=.ref b/\H b=some (.tup (k.map kV))/\r=t4 kvs k
def BC(H:Hp)(a:Addr)(y v:V)(H':Hp):Prop:=
 (∃kvs k,H a=some (.dK kvs)/\y=kV k/\kvs.length<sizeLine/\H'=ze H a (.dK (vy kvs k v))) \/
 ∃kvs k b,H a=some (.dT kvs)/\y=.ref b/\H b=some (.tup (k.map kV))/\kvs.length<sizeLine/\H'=ze H a (.dT (vy kvs k v))
section
variable{X:Cx}{z8:List (Addr×Obj)}{σ:St}{H:Hp}{s:Shared}{a:Addr}{y v:V}{u r:Value}{o:Option V}{A:Around}{E:Value->Shared->Prop}
theorem Inv.big(I:Inv X z8 σ H s):sysModules<s.heap.objs.size:=by
 have h:mainGlobals<s.heap.objs.size:=(I.mod.glob.keeps I.bk).lt;exact Qt (by decide) h
theorem Nw{Q:Value->Shared->Prop}(hu:A.units+1<cLine)(I:Inv X z8 σ H s)(g:J9 H a y o)(ry:zr y u)(h:∀s',Inv X z8 σ H s'->Q (.bool o.isSome) s') :
  wpAny (model X.prog X.w) A (compareOp .In u (.ref a)) Q E s:=by
 rcases g with⟨kvs,k,e,ey,l⟩|⟨kvs,k,b,e,ey,eb,l⟩
 ·subst ey;obtain⟨z,hd,vs,rel,dd⟩:=Ze I.hok e;refine wpAny_in_of (jH ry) hd dd.mapOf ?_;rw[<-(rel.val k).isSome_eq,<-l];exact h _ (I.tok _)
 ·subst ey;cases(show u=Value.ref b from ry);obtain⟨z,hd,xs,rel,dd⟩:=Ut I.hok e;refine wpAny_in_heap (B1 hu) (TQ I.hok eb) hd dd ?_;have q:=(rel.val k).isSome_eq;rw[Mu]at q;rw[<-q,<-l];exact h _ (I.tok _)
theorem Nx{Q:Value->Shared->Prop}(hu:A.units+1<cLine)(I:Inv X z8 σ H s)(g:J9 H a y o)(ry:zr y u)(h:∀s',Inv X z8 σ H s'->Q (.bool (!o.isSome)) s') :
  wpAny (model X.prog X.w) A (compareOp .NotIn u (.ref a)) Q E s:=by
 rcases g with⟨kvs,k,e,ey,l⟩|⟨kvs,k,b,e,ey,eb,l⟩
 ·subst ey;obtain⟨z,hd,vs,rel,dd⟩:=Ze I.hok e;refine wpAny_notIn_of (jH ry) hd dd.mapOf ?_;rw[<-(rel.val k).isSome_eq,<-l];exact h _ (I.tok _)
 ·subst ey;cases(show u=Value.ref b from ry);obtain⟨z,hd,xs,rel,dd⟩:=Ut I.hok e;refine wpAny_notIn_heap (B1 hu) (TQ I.hok eb) hd dd ?_;have q:=(rel.val k).isSome_eq;rw[Mu]at q;rw[<-q,<-l];exact h _ (I.tok _)
theorem DA{h':Heap}{t':Nat}{ob:HO}(I:Inv X z8 σ H s)(mu:XA (H a))(hs:Heap.SameBut a s.heap h')(he:∃q,h'.get? a=some q)(new:xP X.prog X.w (ze H a ob) h' a ob) :
  Inv X z8 σ (ze H a ob) { s with heap:=h',toks:=t' }:=
 I.write (x:=a) (e:=a) mu (.inl rfl) (λb q hb z=>(hs.2 b hb).trans z) he new
theorem DE{P:Program}{w:World}{H':Hp}{h':Heap}{kvs:List (Key×V)}{vs:List (Key×Value)}(z:kvs.length<=sizeLine)(hd:(a==sysModules)=false)(rel:KV kvs vs)(dd:h'.DictOf (y_ P w) a vs) :
  xP P w H' h' a (.dK kvs):=⟨z,hd,vs,rel,dd⟩
theorem Ny{H':Hp}{Q:Unit->Shared->Prop}(hu:A.units+1<cLine)(I:Inv X z8 σ H s)(g:BC H a y v H')(ry:zr y u)(rv:zr v r)(h:∀s',Inv X z8 σ H' s'->Q () s') :
  wpAny (model X.prog X.w) A (setItem (.ref a) u r) Q E s:=by
 rcases g with⟨kvs,k,e,ey,l,eH⟩|⟨kvs,k,b,e,ey,eb,l,eH⟩
 ·subst ey eH;obtain⟨z,hd,vs,rel,dd⟩:=P3 I.hok e;have hz:vs.length<=sizeLine:=by rw[<-rel.length]; exact z
  have hl:(vy kvs k v).length<=sizeLine:=by have:=OH kvs k v; omega
  refine wpAny_setItem_pairs (hsz:=hz) (jH ry) dd λh' dd' hs=>h _ ?_
  have he:∃q,h'.get? a=some q:=let ⟨q,_,_,hq,_⟩:=dd'; ⟨q,hq⟩;exact DA I (by rw[e]; exact True.intro) hs he (DE hl hd (rel.put k rv) dd')
 ·subst ey eH;cases(show u=Value.ref b from ry);obtain⟨z,hd,xs,rel,dd⟩:=P5 I.hok e;have hz:xs.length<=sizeLine:=by rw[<-Paired.length rel]; exact z
  have hl:(vy kvs k v).length<=sizeLine:=by have:=OH kvs k v; omega
  refine wpAny_setItem_heap (hsz:=hz) (B1 hu) (TQ I.hok eb) dd λh' dd' hs=>h _ ?_
  obtain⟨q,es,ep,hq,h2,h3,h4,_,h5⟩:=dd';refine DA I (by rw[e]; exact True.intro) hs ⟨q,hq⟩ ⟨hl,hd,_,(rel.put k eb rv).keeps λc ys ec=>?_,q,es,ep,hq,h2,h3,h4,h5⟩;rw[ym (AO ec e (λz=>nomatch z))];exact ec
end
section
variable{X:Cx}{z8:List (Addr×Obj)}{σ:St}{H:Hp}{s:Shared}{a:Addr}{kvs:List (Key×V)}{k:Key}{u:Value}{A:Around}{E:Value->Shared->Prop}
end
theorem N_{X:Cx}{z8:List (Addr×Obj)}{σ:St}{H:Hp}{s:Shared}{a:Addr}{y:V}{o:Option V}(I:Inv X z8 σ H s)(g:J9 H a y o):s.TypeIs (.ref a) "dict" := by
 rcases g with⟨kvs,k,e,_,_⟩|⟨kvs,k,b,e,_,_,_⟩
 ·obtain⟨_,_,vs,_,dd⟩:=Ze I.hok e;exact dd.typeIs
 ·obtain⟨_,_,xs,_,dd⟩:=Ut I.hok e;exact dd.typeIs
def fD(td ty tv:TE):TS:=λD σ H=>tv σ H λv H1=>td σ H1 λx H2=>ty σ H2 λy H3=>∃a H4,x=.ref a/\BC H3 a y v H4/\D.nx σ H4
section
variable{X:Cx}{o i e value:Expr}{pos pos' tpos:Pos}{td ty tv:TE}
theorem cL(hu:X.A.units+1<cLine)(ho:PE X o td)(hi:PE X i ty)(hv:PE X value tv)(hs:swapsWith value (some (.Subscript o i pos')) pos.line X.env=pure false) :
  PS X (.Assign [.Subscript o i pos'] value pos) (fD td ty tv):=by
 intro z8 s σ H D I h;refine wpAny_Assign_Subscript (zw (hv z8 s σ H _ I h) λr s1 ⟨v,H1,I1,rv,q1⟩=>zw (ho z8 s1 σ H1 _ I1 q1) λu s2 ⟨x,H2,I2,rx,q2⟩=>zw (hi z8 s2 σ H2 _ I2 q2) λiv s3 ⟨y,H3,I3,ry,a,H4,ex,g,q3⟩=>?_) hs;subst ex;obtain rfl:u=Value.ref a:=rx;exact Ny hu I3 g ry rv λs4 I4=>⟨σ,H4,I4,q3⟩
end
theorem P1{P:Program}{w:World}{H:Hp}(h:Heap)(hb:sysModules<h.objs.size):xP P w H (h.push { cls:=.type "dict",data:=.dict #[] }) h.objs.size (.dK []):=
 ⟨xb _,pT.mpr (pS (xh hb)),[],.nil,Heap.DictOf.new h⟩
def m9:TE:=λ_ H Q=>∀p,H p=none->Q (.ref p) (ze H p (.dK []))
section
variable{X:Cx}{pos:Pos}
theorem bU:PE X (.Dict [] [] pos) m9:=λz8 s σ H Q I h=>
 wpAny_Dict_empty ⟨.ref s.heap.objs.size,_,I.laid (a:=s.heap.objs.size) (o:=.dK []) (t':=s.toks) (λ_ _ q=>Heap.get?_push_of_some _ q) (zt _) (P1 s.heap I.big),rfl,h _ (I.hok.fresh (zt _))⟩
end
def jJ(kvs more:List (Key×V)):List (Key×V):=more.foldl (λacc kv=>vy acc kv.1 kv.2) kvs
theorem KV.merge:∀{more:List (Key×V)} {rs:List (Key×Value)} {kvs:List (Key×V)} {vs:List (Key×Value)},KV more rs->KV kvs vs->KV (jJ kvs more) (merged vs rs):=by
 intro more rs kvs vs r;unfold KV at r
 induction r generalizing kvs vs with
 |nil=>intro q; exact q
 |@cons p q ps qs h t ih=>
  intro r0
  have e:KV (vy kvs p.1 p.2) (stored vs q.1 q.2):=by
   have:=r0.put p.1 h.2;rw[<-h.1]; exact this
  exact ih e
theorem Fx:∀(more kvs:List (Key×V)),(jJ kvs more).length<=kvs.length+more.length
 | [],kvs=>by show kvs.length<=kvs.length+0; omega
 |p::r,kvs=>by
  have h1:=Fx r (vy kvs p.1 p.2);have h2:=OH kvs p.1 p.2;show(jJ (vy kvs p.1 p.2) r).length<=_;rw[xK]; omega
section
variable{X:Cx}{z8:List (Addr×Obj)}{σ:St}{H:Hp}{s:Shared}{a:Addr}{y d:V}{u r:Value}{o:Option V}{A:Around}{E:Value->Shared->Prop}
end
section
variable{X:Cx}{o e f:Expr}{apos cpos:Pos}{td ty tx:TE}
end
section
variable{X:Cx}{z8:List (Addr×Obj)}{σ:St}{H:Hp}{s:Shared}{a:Addr}{kvs:List (Key×V)}{A:Around}{E:Value->Shared->Prop}
end
section
variable{X:Cx}{z8:List (Addr×Obj)}{σ:St}{H:Hp}{s:Shared}{a:Addr}{y:V}{u:Value}{A:Around}{E:Value->Shared->Prop}
end
end L2
namespace L3
open PySem
inductive D where
 |non|bl (b:Bool)|int (i:Int)|str (x:Str)|tup (xs:List D)|lst (xs:List D)|dic (ks:List (Sum Int Str)) (vs:List D)
theorem D.ind{P:D->Prop}(non:P .non)(bl:∀b,P (.bl b))(int:∀i,P (.int i))(str:∀x,P (.str x))(tup:∀xs,(∀d∈xs,P d)->P (.tup xs))(lst:∀xs,(∀d∈xs,P d)->P (.lst xs))
  (dic:∀ks xs,(∀d∈xs,P d)->P (.dic ks xs))(d:D):P d:=
 D.rec (motive_1:=P) (motive_2:=λds=>∀d∈ds,P d) non bl int str (λxs h=>tup xs h) (λxs h=>lst xs h) (λks xs h=>dic ks xs h) (λ_ h=>absurd h (by simp))
  (λd ds hd hds e he=>by
   rcases yI.mp he with z|z
   ·exact z▸hd
   ·exact hds e z) d
mutual
def zk:D->D->Bool
 |.non,.non=>true
 |.bl a,.bl b=>a==b
 |.bl a,.int b=>(if a then 1 else 0)==b
 |.int a,.bl b=>a==(if b then 1 else 0)
 |.int a,.int b=>a==b
 |.str a,.str b=>a==b
 |.tup xs,.tup ys=>dEqs xs ys
 |.lst xs,.lst ys=>dEqs xs ys
 |_,_=>false
def dEqs:List D->List D->Bool
 | [],[]=>true
 |x::xs,y::ys=>zk x y&&dEqs xs ys
 |_,_=>false
end
abbrev Sl:=Bool×D
abbrev zi:=List (Option Sl)
abbrev FE:=zi->Option D
abbrev FT:=zi->Option Bool
abbrev FA:=zi->Option (List D)
abbrev FG:=D->zi->Option zi
inductive Fl where
 |nx (σ:zi)|rt (o:Bool) (d:D)|bk (σ:zi)|ct (σ:zi)
abbrev FS:=zi->Option Fl
abbrev yK:Nat:=16777216
def z7(i:Nat):FE:=λσ=>match σ[i]? with
 |some (some (false,d))=>some d
 |_=>none
def vn(i:Nat):FE:=λσ=>match σ[i]? with
 |some (some (_,d))=>some d
 |_=>none
def eC(d:D):FE:=λ_=>some d
def e1(F:D->Option D)(a:FE):FE:=λσ=>(a σ).bind F
def e2(F:D->D->Option D)(a b:FE):FE:=λσ=>(a σ).bind λx=>(b σ).bind λy=>F x y
def eL(F:List D->Option D)(a:FA):FE:=λσ=>(a σ).bind F
def zD:FA:=λ_=>some []
def zC(a:FE)(r:FA):FA:=λσ=>(a σ).bind λx=>(r σ).bind λxs=>some (x::xs)
def Zb:D->Option Bool
 |.bl b=>some b
 |_=>none
def tE(a:FE):FT:=λσ=>(a σ).bind Zb
def gP(a b:FT):FT:=λσ=>(a σ).bind λk=>match k with
 |true=>b σ
 |false=>some false
def xm(a b:FT):FT:=λσ=>(a σ).bind λk=>match k with
 |true=>some true
 |false=>b σ
def pL(a:FT):FT:=λσ=>(a σ).bind λk=>some (!k)
def XV(a b:FE):FE:=λσ=>(a σ).bind λx=>(Zb x).bind λk=>match k with
 |true=>b σ
 |false=>some (.bl false)
def Ji(a b:FE):FE:=λσ=>(a σ).bind λx=>(Zb x).bind λk=>match k with
 |true=>some (.bl true)
 |false=>b σ
def P7(a:FE):FE:=λσ=>(a σ).bind λx=>(Zb x).bind λk=>some (.bl (!k))
def kB(c:FT)(a b:FE):FE:=λσ=>(c σ).bind λk=>match k with
 |true=>a σ
 |false=>b σ
def xt(a:FA):FE:=λσ=>(a σ).bind λxs=>some (.tup xs)
def xY(a:FA):FE:=λσ=>(a σ).bind λxs=>some (.lst xs)
def xS:D->D->Option D
 |.int i,.int j=>some (.int (i+j))
 |.int i,.bl b=>some (.int (i+(if b then 1 else 0)))
 |.str x,.str y=>if x.length+y.length<=yK then some (.str (x++y))else none
 |.lst x,.lst y=>if x.length+y.length<=yK then some (.lst (x++y))else none
 |.tup x,.tup y=>if x.isEmpty=false/\x.length+y.length<=yK then some (.tup (x++y))else none
 |_,_=>none
def fI(C:Int->Int->Bool)(g:Int->Int->Int):D->D->Option D
 |.int i,.int j=>match C i j with
  |true=>some (.int (g i j))
  |false=>none
 |_,_=>none
def T3:D->D->Option D
 |.int i,.int j=>some (.int (i-j))
 |_,_=>none
def g8(i:Int):Bool:=decide (-(2 ^ 64)<i)&&decide (i<2 ^ 64)
def U_:D->D->Option D:=fI (λi _=>g8 i) (·*·)
def T2:D->D->Option D:=fI (λ_ j=>g8 j) (·*·)
def xN:D->D->Option D:=fI (λ_ j=>decide (0<j)) (· % ·)
def vF:D->D->Option D:=fI (λ_ j=>decide (0<j)&&decide (j<2 ^ 64)) (· / ·)
def YC(i j:Int):Bool:=decide (0<=j)&&(decide (j<=1000000)&&decide (i.natAbs<2 ^ 64))
def PQ:D->D->Option D:=fI YC λi j=>i ^ j.toNat
def kG:D->D->Option D:=fI YC λi j=>i*2 ^ j.toNat
def PV:D->D->Option D:=fI (λ_ j=>decide (0<=j)) λi j=>i/2 ^ j.toNat
def vb(g:Int->Int->Int):D->D->Option D
 |.int i,.int j=>some (.int (g i j))
 |_,_=>none
def jA:D->Option D
 |.int i=>some (.int (-i))
 |_=>none
def Uz:D->Option D
 |.int i=>some (.int (Builtin.bitNot i))
 |_=>none
def uE(g:Int->Int->Bool):D->D->Option D
 |.int i,.int j=>some (.bl (g i j))
 |_,_=>none
def jv:D->Bool
 |.non=>true
 |_=>false
def kE:D->D->Option D
 |x,.non=>some (.bl (jv x))
 |_,_=>none
def Jw:D->D->Option D
 |x,.non=>some (.bl (!jv x))
 |_,_=>none
def xF:D->Bool
 |.non=>true
 |.bl _=>true
 |.int _=>true
 |.str _=>true
 |_=>false
def uU(f:D->D->Bool):List D->List D->Bool
 |x::xs,y::ys=>f x y&&uU f xs ys
 |_,_=>true
def wb:Nat->D->D->Bool
 |0,_,_=>false
 |n+1,x,y=>match x,y with
  |.tup xs,.tup ys=>uU (wb n) xs ys
  |.lst xs,.lst ys=>uU (wb n) xs ys
  |x,y=>xF x&&xF y
def p8:D->D->Option Bool
 |.int _,.bl _=>none
 |.bl _,.int _=>none
 |x,y=>match wb 6 x y with
  |true=>some (zk x y)
  |false=>none
def zu(x y:D):Option D:=(p8 x y).bind λk=>some (.bl k)
def yd(x y:D):Option D:=(p8 x y).bind λk=>some (.bl (!k))
def qE:D->Option (Sum Int Str)
 |.int i=>some (.inl i)
 |.str x=>some (.inr x)
 |_=>none
def getK{α:Type}:List (Sum Int Str)->List α->Sum Int Str->Option α
 |k'::ks,v::vs,k=>if k'=k then some v else getK ks vs k
 |_,_,_=>none
def yY(ks:List (Sum Int Str))(k:Sum Int Str):Bool:=ks.any λj=>decide (j=k)
def wN(ks:List (Sum Int Str))(k:Sum Int Str):List (Sum Int Str):=if yY ks k=true then ks else ks++[k]
def wV{α:Type}(ks:List (Sum Int Str))(vs:List α)(k:Sum Int Str)(v:α):List α:=if yY ks k=true then List.zipWith (λk' x=>if k'=k then v else x) ks vs else vs++[v]
def Jq(x:D):D->Option Bool
 |.lst ys=>match xF x&&ys.all xF with
  |true=>some (ys.any λy=>zk y x)
  |false=>none
 |.tup ys=>match xF x&&ys.all xF with
  |true=>some (ys.any λy=>zk y x)
  |false=>none
 |.str j=>match x with
  |.str i=>some (!(Builtin.Str.occurrences j i 0 j.length 1).isEmpty)
  |_=>none
 |.dic ks _=>(qE x).bind λk=>some (yY ks k)
 |_=>none
def yb(x y:D):Option D:=(Jq x y).bind λk=>some (.bl k)
def jt(x y:D):Option D:=(Jq x y).bind λk=>some (.bl (!k))
def vm{α:Type}(xs:List α)(i:Int):Option α:=if 0<=i then xs[i.toNat]? else if -(xs.length:Int)<=i then xs[(i+xs.length).toNat]? else none
def zO:D->D->Option D
 |.lst xs,.int i=>vm xs i
 |.tup xs,.int i=>vm xs i
 |.str z,.int i=>(vm z.cps.toList i).bind λc=>some (.str ⟨#[c]⟩)
 |.dic ks vs,k=>(qE k).bind λk=>getK ks vs k
 |_,_=>none
def xW:List D->Option D
 | [.lst xs]=>some (.int xs.length)
 | [.tup xs]=>some (.int xs.length)
 | [.str z]=>some (.int z.length)
 |_=>none
def PM:List D->Option D
 | [.int i]=>some (.int i)
 | [.bl k]=>some (.int (if k then 1 else 0))
 |_=>none
inductive jj where
 |int|bool|str|list|tuple
def jj.nm:jj->String
 |.int => "int"
 |.bool => "bool"
 |.str => "str"
 |.list => "list"
 |.tuple => "tuple"
def TH:jj->D->Option Bool
 |_,.dic _ _=>none
 |.int,.int _=>some true
 |.int,.bl _=>some true
 |.int,_=>some false
 |.bool,.bl _=>some true
 |.bool,_=>some false
 |.str,.str _=>some true
 |.str,_=>some false
 |.list,.lst _=>some true
 |.list,_=>some false
 |.tuple,.tup _=>some true
 |.tuple,_=>some false
def jq(T:jj)(a:FE):FE:=λτ=>(a τ).bind λd=>(TH T d).bind λb=>some (.bl b)
def v0(a:FE):FA:=λσ=>(a σ).bind λd=>match d with
 |.lst xs=>some xs
 |.tup xs=>some xs
 |.str z=>some (z.cps.toList.map λc=>.str ⟨#[c]⟩)
 |_=>none
def qX(lo hi:FE):FA:=λσ=>(lo σ).bind λx=>(hi σ).bind λy=>match x,y with
 |.int i,.int j=>if i.natAbs<=yK/\j.natAbs<=yK/\(j-i).toNat<=yK then some ((List.range (j-i).toNat).map λk:Nat=>.int (i+k))else none
 |_,_=>none
def zz(i:Nat):FG:=λd σ=>some (σ.set i (some (false,d)))
def wL(i j:Nat):FG:=λd σ=>match d with
 |.tup [x,y]=>some ((σ.set i (some (false,x))).set j (some (false,y)))
 |_=>none
def yc:FS:=λσ=>some (.nx σ)
def zI(a b:FS):FS:=λσ=>(a σ).bind λf=>match f with
 |.nx σ'=>b σ'
 |f=>some f
def zb(i:Nat)(e:FE):FS:=λσ=>(e σ).bind λd=>some (.nx (σ.set i (some (false,d))))
def vX(i:Nat)(e:FE):FS:=λσ=>(e σ).bind λd=>some (.nx (σ.set i (some (true,d))))
def yW(e:FE):FS:=λσ=>(e σ).bind λd=>some (.rt false d)
def v6(e:FE):FS:=λσ=>(e σ).bind λd=>some (.rt true d)
def jP(i:Nat):FS:=λσ=>match σ[i]? with
 |some (some (true,d))=>some (.rt true d)
 |_=>none
def yP(c:FT)(a b:FS):FS:=λσ=>(c σ).bind λk=>match k with
 |true=>a σ
 |false=>b σ
def g7(g:FG)(b:FS):List D->zi->Option Fl
 | [],σ=>some (.nx σ)
 |d::r,σ=>(g d σ).bind λσ1=>(b σ1).bind λf=>match f with
  |.nx σ2=>g7 g b r σ2
  |.ct σ2=>g7 g b r σ2
  |.bk σ2=>some (.nx σ2)
  |.rt o d=>some (.rt o d)
def gF(it:FA)(g:FG)(b:FS):FS:=λσ=>(it σ).bind λds=>g7 g b ds σ
def vI(c:FT)(b:FS):Nat->zi->Option Fl
 |0,_=>none
 |n+1,σ=>(c σ).bind λk=>match k with
  |false=>some (.nx σ)
  |true=>(b σ).bind λf=>match f with
   |.nx σ2=>vI c b n σ2
   |.ct σ2=>vI c b n σ2
   |.bk σ2=>some (.nx σ2)
   |.rt o d=>some (.rt o d)
def U5:Nat:=100000000
def pK(c:FT)(b:FS):FS:=λσ=>vI c b U5 σ
def uy(i:Nat):FS:=λσ=>match σ[i]? with
 |some (some (_,d))=>some (.nx (σ.set i (some (false,d))))
 |_=>none
def YI(i:Nat)(F:D->Option D):FS:=λσ=>match σ[i]? with
 |some (some (true,d))=>(F d).bind λd'=>some (.nx (σ.set i (some (true,d'))))
 |_=>none
def vN(i:Nat)(F:D->D->Option D)(e:FE):FS:=λσ=>match σ[i]? with
 |some (some (true,d))=>(e σ).bind λx=>(F d x).bind λd'=>some (.nx (σ.set i (some (true,d'))))
 |_=>none
def vE:D->D->Option D
 |.lst xs,y=>if xs.length<yK then some (.lst (xs++[y]))else none
 |_,_=>none
def kn(i:Nat)(k v:FE):FS:=λσ=>(v σ).bind λy=>match σ[i]? with
 |some (some (true,.dic ks ds))=>(k σ).bind λx=>(qE x).bind λx=>if ks.length<yK then some (.nx (σ.set i (some (true,.dic (wN ks x) (wV ks ds x y)))))else none
 |_=>none
def jr(ks:List (Sum Int Str))(ds:List D)(x:D):Option D:=(qE x).bind λk=>getK ks ds k
def Jp(ks:List (Sum Int Str))(x:D):Option D:=(qE x).bind λk=>some (.bl (!yY ks k))
def wU(g:FG)(c:FT)(e:FE)(σ:zi):List D->Option (List D)
 | []=>some []
 |d::r=>(g d σ).bind λσ1=>(c σ1).bind λk=>match k with
  |true=>(e σ1).bind λx=>(wU g c e σ r).bind λxs=>some (x::xs)
  |false=>wU g c e σ r
def xw:FT:=λ_=>some true
def xr(n:Nat)(it:FA)(g:FG)(c:FT)(e:FE):FE:=λσ=>(it σ).bind λds=>(wU g c e (σ++List.replicate n none) ds).bind λxs=>some (.lst xs)
def zh(n:Nat)(b:FS)(ds:List D):Option (Bool×D):=(b (ds.map (λd=>some (false,d))++List.replicate (n-ds.length) none)).bind λf=>match f with
 |.rt o d=>some (o,d)
 |.nx _=>some (false,.non)
 |_=>none
def zW(F:List D->Option (Bool×D))(a:FA):FE:=λσ=>(a σ).bind λds=>(F ds).bind λr=>some r.2
def wC(F:List D->Option (Bool×D))(a:FA):FE:=λσ=>(a σ).bind λds=>(F ds).bind λr=>match r with
 |(true,d)=>some d
 |_=>none
def Uu(F:List D->Option (Bool×D))(a:FA):FE:=λσ=>(zW F a σ).bind λd=>if xF d=true then some d else none
open PySem.Spec PyProof.Rows L2
abbrev St:=L2.St
def Kt(_:W.Frag)(H:Hp)(a:Addr)(kvs:List (Key×V)):Prop:=Rd H a (.dK kvs)
mutual
def zY(K:W.Frag)(H:Hp):D->V->Prop
 |.non,v=>v=.non
 |.bl b,v=>v=.bl b
 |.int i,v=>v=.int i
 |.str x,v=>v=.str x/\x.length<=sizeLine
 |.tup ds,v=>∃a vs,v=.ref a/\xE K H a vs/\Reps K H ds vs/\ds.length<=sizeLine
 |.lst ds,v=>∃a vs,v=.ref a/\yG K H a vs/\Reps K H ds vs/\ds.length<=sizeLine
 |.dic ks ds,v=>∃a vs,v=.ref a/\Kt K H a (ks.zip vs)/\ks.length=vs.length/\Reps K H ds vs/\ds.length<=sizeLine
def Reps(K:W.Frag)(H:Hp):List D->List V->Prop
 | [],vs=>vs=[]
 |d::ds,vs=>∃v r,vs=v::r/\zY K H d v/\Reps K H ds r
end
section
variable{K:W.Frag}{G H H':Hp}
theorem Rd.mono{a:Addr}{u:HO}(s:zx H H')(h:Rd H a u):Rd H' a u:=by
 rcases h with h|⟨o,h⟩
 ·exact .inl (s _ _ h)
 ·exact .inr ⟨o,s _ _ h⟩
theorem uK{a:Addr}{xs:List V}(s:zx H H')(h:xE K H a xs):xE K H' a xs:=by
 rcases h with h|h
 ·exact .inl (Rd.mono s h)
 ·exact .inr h
theorem v8{a:Addr}{xs:List V}(s:zx H H')(h:yG K H a xs):yG K H' a xs:=by
 rcases h with h|h
 ·exact .inl (Rd.mono s h)
 ·exact .inr h
theorem Reps.imp:∀{ds:List D}{vs:List V},(∀d∈ds,∀v,zY K H d v->zY K H' d v)->Reps K H ds vs->Reps K H' ds vs
 | [],_,_,h=>h
 |d::ds,vs,f,h=>by
  obtain⟨v,r,rfl,hv,hr⟩:=h;exact⟨v,r,rfl,f d yF v hv,Reps.imp (λd' m=>f d' (yX _ m)) hr⟩
theorem zY.mono(s:zx H H'):∀{d:D}{v:V},zY K H d v->zY K H' d v:=λ{d}=>by
 refine D.ind (P:=λd=>∀v,zY K H d v->zY K H' d v) (λv h=>h) (λb v h=>h) (λi v h=>h) (λx v h=>h) ?_ ?_ ?_ d _
 ·rintro xs ih v ⟨a,vs,e,q,r,l⟩;exact⟨a,vs,e,uK s q,Reps.imp ih r,l⟩
 ·rintro xs ih v ⟨a,vs,e,q,r,l⟩;exact⟨a,vs,e,v8 s q,Reps.imp ih r,l⟩
 ·rintro ks xs ih v ⟨a,vs,e,q,z,r,l⟩;exact⟨a,vs,e,Rd.mono s q,z,Reps.imp ih r,l⟩
theorem Reps.mono(s:zx H H'){ds:List D}{vs:List V}(h:Reps K H ds vs):Reps K H' ds vs:=Reps.imp (λ_ _ _=>zY.mono s) h
theorem Reps.length:∀{ds:List D}{vs:List V},Reps K H ds vs->vs.length=ds.length
 | [],_,h=>by cases(show _=[]from h); rfl
 |d::ds,_,h=>by
  obtain⟨v,r,rfl,_,hr⟩:=h;rw[xK,xK,Reps.length hr]
theorem Reps.get:∀{ds:List D}{vs:List V}{i:Nat}{d:D},Reps K H ds vs->ds[i]?=some d->∃v,vs[i]?=some v/\zY K H d v
 | [],_,_,_,_,e=>by cases e
 |d::ds,_,0,_,h,e=>by
  obtain⟨v,r,rfl,hv,hr⟩:=h;cases e;exact⟨v,rfl,hv⟩
 |d::ds,_,i+1,d',h,e=>by
  obtain⟨v,r,rfl,hv,hr⟩:=h;exact Reps.get (i:=i) hr (by simpa using e)
theorem Reps.at{ds:List D}{vs:List V}{i:Nat}{v:V}(h:Reps K H ds vs)(e:vs[i]?=some v):∃d,ds[i]?=some d/\zY K H d v:=by
 have l:=h.length;have hi:i<ds.length:=by rw[<-l]; exact(yM.mp e).1
 obtain⟨v',e',r⟩:=h.get (yZ hi);rw[e]at e';cases e';exact⟨_,yZ hi,r⟩
theorem Reps.append:∀{ds es:List D}{vs us:List V},Reps K H ds vs->Reps K H es us->Reps K H (ds++es) (vs++us)
 | [],_,_,_,h,g=>by cases(show _=[]from h); exact g
 |d::ds,_,_,_,h,g=>by
  obtain⟨v,r,rfl,hv,hr⟩:=h;exact⟨v,_,rfl,hv,Reps.append hr g⟩
theorem Reps.one{d:D}{v:V}(h:zY K H d v):Reps K H [d] [v]:=⟨v,[],rfl,h,rfl⟩
theorem Reps.take:∀{ds:List D}{vs:List V}(n:Nat),Reps K H ds vs->Reps K H (ds.take n) (vs.take n)
 |_,_,0,_=>by rw[VT,VT]; rfl
 | [],_,n+1,h=>by cases(show _=[]from h); rfl
 |d::ds,_,n+1,h=>by
  obtain⟨v,r,rfl,hv,hr⟩:=h;exact⟨v,_,rfl,hv,Reps.take n hr⟩
theorem Reps.drop:∀{ds:List D}{vs:List V}(n:Nat),Reps K H ds vs->Reps K H (ds.drop n) (vs.drop n)
 |_,_,0,h=>h
 | [],_,n+1,h=>by cases(show _=[]from h); rfl
 |d::ds,_,n+1,h=>by
  obtain⟨v,r,rfl,hv,hr⟩:=h;exact Reps.drop n hr
theorem Reps.ints:∀{ns:List Int},Reps K H (ns.map D.int) (ns.map V.int)
 | []=>rfl
 |n::ns=>⟨_,_,rfl,rfl,Reps.ints⟩
end
structure zT(G H G' H':Hp):Prop where
 g:zx G G'
 h:zx H H'
 gh:zx G' H'
 new:∀p,G' p≠none->G p≠none\/H p=none
section
variable{G H G' H' G0 H0 G1 H1 G2 H2:Hp}{p:Addr}{o:HO}
theorem zT.refl(s:zx G H):zT G H G H:=⟨zx.refl _,zx.refl _,s,λ_ h=>.inl h⟩
theorem zT.trans(a:zT G H G1 H1)(b:zT G1 H1 G2 H2):zT G H G2 H2:=⟨a.g.trans b.g,a.h.trans b.h,b.gh,λp h=>by
 rcases b.new p h with z|z
 ·exact a.new p z
 ·exact .inr (a.h.free z)⟩
theorem zT.rebase(a:zT G0 H0 G1 H1)(b:zT G1 H0 G2 H2):zT G0 H0 G2 H2:=⟨a.g.trans b.g,b.h,b.gh,λp h=>by
 rcases b.new p h with z|z
 ·exact a.new p z
 ·exact .inr z⟩
theorem zT.far(a:zT G0 H0 G1 H1):zT G1 H0 G1 H1:=⟨zx.refl _,a.h,a.gh,λ_ h=>.inl h⟩
theorem Lu{H:Hp}{p q:Addr}{o:HO}(h:ze H p o q≠none):q=p\/H q≠none:=by
 by_cases e:q=p
 ·exact .inl e
 ·rw[ym e]at h;exact .inr h
theorem fG(s:zx G H):zx (ze G p o) (ze H p o):=λb u e=>by
 by_cases hb:b=p
 ·subst hb;rw[xJ]at e ⊢;exact e
 ·rw[ym hb]at e ⊢;exact s _ _ e
theorem zT.lay(s:zx G H)(h:H p=none):zT G H (ze G p o) (ze H p o):=⟨v7 (s.free h) o,v7 h o,fG s,λq z=>by
 rcases Lu z with e|e
 ·exact .inr (e▸h)
 ·exact .inl e⟩
theorem zT.layO(s:zx G H)(h:H p=none):zT G H G (ze H p o):=⟨zx.refl _,v7 h o,s.trans (v7 h o),λ_ z=>.inl z⟩
theorem zT.frz(a:zT G H G1 H1)(h:H p=none)(g:G1 p=none)(e:H1 p=some o):zT G H (ze G1 p o) H1:=⟨a.g.trans (v7 g o),a.h,λb u q=>by
 by_cases hb:b=p
 ·subst hb;rw[xJ]at q;cases q;exact e
 ·rw[ym hb]at q;exact a.gh _ _ q,λq z=>by
 rcases Lu z with w|w
 ·exact .inr (w▸h)
 ·exact a.new q w⟩
end
def uC(K:W.Frag)(G H:Hp)(d:D)(p:Addr):Prop:=match d with
 |.lst ds=>∃vs,H p=some (.lst vs)/\Reps K G ds vs/\ds.length<=sizeLine
 |.dic ks ds=>∃vs,H p=some (.dK (ks.zip vs))/\ks.length=vs.length/\Reps K G ds vs/\ds.length<=sizeLine
 |_=>False
section
variable{K:W.Frag}{G H G' H':Hp}{d:D}{p:Addr}
theorem uC.some(h:uC K G H d p):H p≠none:=by
 cases d with
 |lst ds=>obtain⟨vs,e,_⟩:=h; rw[e]; exact λz=>nomatch z
 |dic ks ds=>obtain⟨vs,e,_⟩:=h; rw[e]; exact λz=>nomatch z
 |_=>exact h.elim
theorem uC.mono(g:zx G G')(h:zx H H')(o:uC K G H d p):uC K G' H' d p:=by
 cases d with
 |lst ds=>obtain⟨vs,e,r,l⟩:=o; exact⟨vs,h _ _ e,r.mono g,l⟩
 |dic ks ds=>obtain⟨vs,e,z,r,l⟩:=o; exact⟨vs,h _ _ e,z,r.mono g,l⟩
 |_=>exact o.elim
theorem uC.rep(s:zx G H)(o:uC K G H d p):zY K H d (.ref p):=by
 cases d with
 |lst ds=>obtain⟨vs,e,r,l⟩:=o; exact⟨p,vs,rfl,yG.of e,r.mono s,l⟩
 |dic ks ds=>obtain⟨vs,e,z,r,l⟩:=o; exact⟨p,vs,rfl,.inl e,z,r.mono s,l⟩
 |_=>exact o.elim
theorem uC.frz(o:uC K G H d p)(g:G p=none):∃u,H p=Option.some u/\zY K (ze G p u) d (.ref p):=by
 cases d with
 |lst ds=>obtain⟨vs,e,r,l⟩:=o; exact⟨_,e,p,vs,rfl,yG.of xJ,r.mono (v7 g _),l⟩
 |dic ks ds=>obtain⟨vs,e,z,r,l⟩:=o; exact⟨_,e,p,vs,rfl,.inl xJ,z,r.mono (v7 g _),l⟩
 |_=>exact o.elim
end
structure zg(K:W.Frag)(n:Nat)(G0 H0 G H:Hp)(τ:zi)(σ:St):Prop where
 ext:zT G0 H0 G H
 l1:σ.length=n
 l2:τ.length=n
 fr:∀(i:Nat)(d:D),τ[i]?=some (some (false,d))->∃v,σ[i]?=some (some v)/\zY K G d v
 ow:∀(i:Nat)(d:D),τ[i]?=some (some (true,d))->∃p,σ[i]?=some (some (V.ref p))/\G p=none/\H0 p=none/\uC K G H d p
 ap:∀(i j:Nat)(d e:D)(p:Addr),i≠j->τ[i]?=some (some (true,d))->τ[j]?=some (some (true,e))->σ[i]?=some (some (V.ref p))->σ[j]?=some (some (V.ref p))->False
section
variable{K:W.Frag}{n:Nat}{G0 H0 G H G' H':Hp}{τ:zi}{σ:St}
theorem zg.go(E:zg K n G0 H0 G H τ σ)(x:zT G H G' H'):zg K n G0 H0 G' H' τ σ:=⟨E.ext.trans x,E.l1,E.l2,λi d h=>by
 obtain⟨v,e,r⟩:=E.fr i d h;exact⟨v,e,r.mono x.g⟩,λi d h=>by
 obtain⟨p,e,g,z,o⟩:=E.ow i d h;refine⟨p,e,?_,z,o.mono x.g x.h⟩;cases q:G' p with
 |none=>rfl
 |some u=>
  rcases x.new p (by rw[q]; exact λz=>nomatch z)with w|w
  ·exact absurd g w
  ·exact absurd w o.some,E.ap⟩
theorem zg.far(E:zg K n G0 H0 G H τ σ):zg K n G H0 G H τ σ:=⟨E.ext.far,E.l1,E.l2,E.fr,E.ow,E.ap⟩
theorem zg.near{Ga Ha:Hp}(a:zT G0 H0 Ga Ha)(E:zg K n Ga H0 G H τ σ):zg K n G0 H0 G H τ σ:=⟨a.rebase E.ext,E.l1,E.l2,E.fr,E.ow,E.ap⟩
theorem zg.lt{i:Nat}{s:Option Sl}(E:zg K n G0 H0 G H τ σ)(h:τ[i]?=some s):i<n:=by
 rw[<-E.l2];exact(yM.mp h).1
theorem wQ{α:Type}{xs:List α}{i j:Nat}{x y:α}(h:(xs.set i x)[j]?=some y):(j=i/\y=x)\/(j≠i/\xs[j]?=some y):=by
 rw[Ys]at h;by_cases e:i=j
 ·subst e;rw[zK rfl]at h
  split at h
  ·cases h; exact .inl ⟨rfl,rfl⟩
  ·cases h
 ·rw[zL e]at h;exact .inr ⟨λz=>e z.symm,h⟩
theorem pB{α:Type}{xs:List α}{i:Nat}{x:α}(h:i<xs.length):(xs.set i x)[i]?=some x:=by rw[Ys,zK rfl,zK h]
theorem w_{α:Type}{xs:List α}{i j:Nat}{x:α}(h:j≠i):(xs.set i x)[j]?=xs[j]?:=by rw[Ys,zL (λz=>h z.symm)]
theorem zg.set{i:Nat}{d:D}{v:V}(E:zg K n G0 H0 G H τ σ)(hi:i<n)(r:zY K G d v):zg K n G0 H0 G H (τ.set i (some (false,d))) (σ.set i (some v)):=⟨E.ext,by rw[u7]; exact E.l1,by rw[u7]; exact E.l2,λj e h=>by
 rcases wQ h with⟨rfl,z⟩|⟨ne,z⟩
 ·cases z;exact⟨v,pB (by rw[E.l1]; exact hi),r⟩
 ·rw[w_ ne];exact E.fr j e z,λj e h=>by
 rcases wQ h with⟨rfl,z⟩|⟨ne,z⟩
 ·cases z
 ·rw[w_ ne];exact E.ow j e z,λj k e f p hne h1 h2=>by
 rcases wQ h1 with⟨rfl,z⟩|⟨ne,z⟩
 ·cases z
 ·rcases wQ h2 with⟨rfl,z'⟩|⟨ne',z'⟩
  ·cases z'
  ·rw[w_ ne,w_ ne'];exact E.ap j k e f p hne z z'⟩
theorem zg.setO{i:Nat}{d:D}{p:Addr}(E:zg K n G0 H0 G H τ σ)(hi:i<n)(hg:G p=none)(h0:H0 p=none)(o:uC K G H d p)(hn:∀(j:Nat)(e:D),j≠i->τ[j]?=some (some (true,e))->σ[j]?=some (some (V.ref p))->False) :
  zg K n G0 H0 G H (τ.set i (some (true,d))) (σ.set i (some (.ref p))):=⟨E.ext,by rw[u7]; exact E.l1,by rw[u7]; exact E.l2,λj e h=>by
 rcases wQ h with⟨rfl,z⟩|⟨ne,z⟩
 ·cases z
 ·rw[w_ ne];exact E.fr j e z,λj e h=>by
 rcases wQ h with⟨rfl,z⟩|⟨ne,z⟩
 ·cases z;exact⟨p,pB (by rw[E.l1]; exact hi),hg,h0,o⟩
 ·rw[w_ ne];exact E.ow j e z,λj k e f q hne h1 h2 h3 h4=>by
 rcases wQ h1 with⟨rfl,z⟩|⟨ne,z⟩
 ·rcases wQ h2 with⟨rfl,z'⟩|⟨ne',z'⟩
  ·exact hne rfl
  ·rw[pB (by rw[E.l1]; exact hi)]at h3;rw[w_ ne']at h4;cases h3;exact hn k f ne' z' h4
 ·rcases wQ h2 with⟨rfl,z'⟩|⟨ne',z'⟩
  ·rw[pB (by rw[E.l1]; exact hi)]at h4;rw[w_ ne]at h3;cases h4;exact hn j e ne z h3
  ·rw[w_ ne]at h3;rw[w_ ne']at h4;exact E.ap j k e f q hne z z' h3 h4⟩
theorem zg.newO{i:Nat}{p:Addr}(E:zg K n G0 H0 G H τ σ)(hp:H p=none):∀(j:Nat)(e:D),j≠i->τ[j]?=some (some (true,e))->σ[j]?=some (some (V.ref p))->False:=λj e _ h1 h2=>by
 obtain⟨q,e1,_,_,o⟩:=E.ow j e h1;rw[h2]at e1;cases e1;exact o.some hp
theorem zg.freeze{i:Nat}{b:Bool}{d:D}(E:zg K n G0 H0 G H τ σ)(hi:τ[i]?=some (some (b,d))):∃G',zg K n G0 H0 G' H (τ.set i (some (false,d))) σ/\zx G G':=by
 have hin:=E.lt hi;cases b with
 |false=>
  refine⟨G,?_,zx.refl _⟩
  have e:τ.set i (some (false,d))=τ:=by
   apply jW;intro j;by_cases hj:j=i
   ·subst hj; rw[pB (by rw[E.l2]; exact hin),hi]
   ·rw[w_ hj]
  rw[e];exact E
 |true=>
  obtain⟨p,e,g,z,o⟩:=E.ow i d hi;obtain⟨u,hu,r⟩:=o.frz g;have x:zT G0 H0 (ze G p u) H:=E.ext.frz z g hu;refine⟨ze G p u,⟨x,E.l1,by rw[u7]; exact E.l2,λj d' h=>?_,λj d' h=>?_,λj k e1 f q hne h1 h2=>?_⟩,v7 g _⟩
  ·rcases wQ h with⟨rfl,w⟩|⟨ne,w⟩
   ·cases w;exact⟨_,e,r⟩
   ·obtain⟨v,e',r'⟩:=E.fr j d' w;exact⟨v,e',r'.mono (v7 g _)⟩
  ·rcases wQ h with⟨rfl,w⟩|⟨ne,w⟩
   ·cases w
   ·obtain⟨q,e',g',z',o'⟩:=E.ow j d' w;refine⟨q,e',?_,z',o'.mono (v7 g _) (zx.refl _)⟩;rw[ym (λc=>?_)]
    ·exact g'
    ·subst c;exact E.ap i j d d' q (λc=>ne c.symm) hi w e e'
  ·rcases wQ h1 with⟨rfl,w⟩|⟨ne,w⟩
   ·cases w
   ·rcases wQ h2 with⟨rfl,w'⟩|⟨ne',w'⟩
    ·cases w'
    ·exact E.ap j k e1 f q hne w w'
end
section
variable(X:Cx)
structure SE(e:Expr)(f:FE):Prop where
 h:∃t,PE X e t/\∀{G0 H0 G H:Hp}{τ:zi}{σ:St}{d:D}{Q:VK},zg X.K X.N.length G0 H0 G H τ σ->f τ=some d->(∀v G' H',zT G H G' H'->zY X.K G' d v->Q v H')->t σ H Q
structure SB(e:Expr)(f:FE):Prop where
 h:∃t,PE X e t/\∀{G0 H0 G H:Hp}{τ:zi}{σ:St}{d:D}{Q:VK},zg X.K X.N.length G0 H0 G H τ σ->f τ=some d->(∀v G' H',zT G H G' H'->zY X.K H' d v->Q v H')->t σ H Q
structure SF(e:Expr)(f:FE):Prop where
 h:∃t,PE X e t/\∀{G0 H0 G H:Hp}{τ:zi}{σ:St}{d:D}{Q:VK},zg X.K X.N.length G0 H0 G H τ σ->f τ=some d->(∀p G' H',zT G H G' H'->H p=none->G' p=none->uC X.K G' H' d p->Q (.ref p) H')->t σ H Q
structure ST(e:Expr)(f:FT):Prop where
 h:∃t,PT X e t/\∀{G0 H0 G H:Hp}{τ:zi}{σ:St}{d:Bool}{Q:Bool->Hp->Prop},zg X.K X.N.length G0 H0 G H τ σ->f τ=some d->(∀G' H',zT G H G' H'->Q d H')->t σ H Q
structure SW(e:Expr)(f:FT):Prop where
 h:∃t,PW X e t/\∀{G0 H0 G H:Hp}{τ:zi}{σ:St}{d:Bool}{Q:Bool->Hp->Prop},zg X.K X.N.length G0 H0 G H τ σ->f τ=some d->(∀G' H',zT G H G' H'->Q d H')->t σ H Q
structure SA(es:List Expr)(f:FA):Prop where
 h:∃t,PA X es t/\∀{G0 H0 G H:Hp}{τ:zi}{σ:St}{ds:List D}{Q:List V->Hp->Prop},zg X.K X.N.length G0 H0 G H τ σ->f τ=some ds->(∀vs G' H',zT G H G' H'->Reps X.K G' ds vs->Q vs H')->t σ H Q
structure XE(es:List Expr)(f:FA):Prop where
 h:∃t,PA X es t/\∀{G0 H0 G H:Hp}{τ:zi}{σ:St}{ds:List D}{Q:List V->Hp->Prop},zg X.K X.N.length G0 H0 G H τ σ->f τ=some ds->(∀vs G' H',zT G H G' H'->Reps X.K H' ds vs->Q vs H')->t σ H Q
end
def vk(K:W.Frag)(n:Nat)(G0 H0:Hp)(E:u8):Fl->Prop
 |.nx τ=>∀σ G H,zg K n G0 H0 G H τ σ->E.nx σ H
 |.bk τ=>∀σ G H,zg K n G0 H0 G H τ σ->E.bk σ H
 |.ct τ=>∀σ G H,zg K n G0 H0 G H τ σ->E.ct σ H
 |.rt false d=>∀v G H,zT G0 H0 G H->zY K G d v->E.rt v H
 |.rt true d=>∀p G H,zT G0 H0 G H->H0 p=none->G p=none->uC K G H d p->E.rt (.ref p) H
section
variable(X:Cx)
structure SS(st:Stmt)(f:FS):Prop where
 h:∃t,PS X st t/\∀{G0 H0 G H:Hp}{τ:zi}{σ:St}{fl:Fl}{E:u8},zg X.K X.N.length G0 H0 G H τ σ->f τ=some fl->vk X.K X.N.length G0 H0 E fl->t E σ H
structure uR(st:List Stmt)(f:FS):Prop where
 h:∃t,vR X st t/\∀{G0 H0 G H:Hp}{τ:zi}{σ:St}{fl:Fl}{E:u8},zg X.K X.N.length G0 H0 G H τ σ->f τ=some fl->vk X.K X.N.length G0 H0 E fl->t E σ H
end
structure j6(K:W.Frag)(J:It)(G:Hp)(ds:List D):Prop where
 go:∀i G2 H,zx G G2->zx G2 H->i<ds.length->J.go i H
 yld:∀i G2 H x H',zx G G2->zx G2 H->i<ds.length->J.yld i H x H'->∃G3 d,zT G2 H G3 H'/\ds[i]?=some d/\zY K G3 d x
 stop:∀i G2 H,zx G G2->zx G2 H->ds.length<=i->J.stop i H
structure SI(X:Cx)(tg iter:Expr)(f:FA):Prop where
 h:∃wi,PI X tg iter wi/\∀{G0 H0 G H:Hp}{τ:zi}{σ:St}{ds:List D}{R:It->Hp->Prop},zg X.K X.N.length G0 H0 G H τ σ->f τ=some ds->(∀J G' H',zT G H G' H'->ds.length<=sizeLine->j6 X.K J G' ds->R J H')->wi σ H R
def zV(K:W.Frag)(F:List D->Option (Bool×D)):Sp:=λvs H Q _=>∃G ds o d,zx G H/\Reps K G ds vs/\F ds=some (o,d)/\
 match o with
 |false=>∀v G' H',zT G H G' H'->zY K G' d v->Q v H'
 |true=>∀p G' H',zT G H G' H'->H p=none->G' p=none->uC K G' H' d p->Q (.ref p) H'
theorem zM{α β:Type}{o:Option α}{f:α->Option β}{b:β}(h:o.bind f=some b):∃a,o=some a/\f a=some b:=by
 cases o with
 |none=>cases h
 |some a=>exact⟨a,rfl,h⟩
theorem DI{i:Nat}{τ:zi}{d:D}(h:z7 i τ=some d):τ[i]?=some (some (false,d)):=by
 unfold z7 at h
 split at h
 ·rename_i e;cases h;exact e
 ·cases h
theorem DH{i:Nat}{τ:zi}{d:D}(h:vn i τ=some d):∃b,τ[i]?=some (some (b,d)):=by
 unfold vn at h
 split at h
 ·rename_i b d' e;cases h;exact⟨_,e⟩
 ·cases h
section
variable{X:Cx}{x:Str}{p pos apos cpos p2:Pos}{e a b c o:Expr}{es yj:List Expr}{f fa fb fc:FE}{ft fu:FT}{fs:FA}{F:D->D->Option D}{r:R2}
theorem SE.sb(h:SE X e f):SB X e f:=⟨let ⟨t,p,k⟩:=h.h; ⟨t,p,λE hf q=>k E hf λv G' H' x r=>q v G' H' x (r.mono x.gh)⟩⟩
theorem SF.se(h:SF X e f):SE X e f:=⟨let ⟨t,p,k⟩:=h.h; ⟨t,p,λE hf q=>k E hf λp G' H' x hp gp o=>by
 obtain⟨u,hu,r⟩:=o.frz gp;exact q _ _ _ (x.frz hp gp hu) r⟩⟩
theorem zJ(h:SE X e f):SB X e f:=h.sb
theorem xA(h:SF X e f):SE X e f:=h.se
theorem zA(i:Nat){x:Str}{pos:Pos}(hN:X.N[i]?=some x:=by rfl)(hv:jk X.env.scope x:=by first|exact Or.inl rfl|exact Or.inr (Or.inl rfl)|exact Or.inr (Or.inr rfl))(hd:(x==("__debug__" : Str))=false:=by decide)
  (hcd:(x==("__classdict__" : Str))=false:=by decide):SE X (.Name x pos) (z7 i):=⟨⟨_,W5 hN hv hd hcd,λE hf q=>by
 obtain⟨v,e,r⟩:=E.fr _ _ (DI hf);exact⟨v,e,q v _ _ (zT.refl E.ext.gh) r⟩⟩⟩
theorem YK(i:Nat){x:Str}{pos:Pos}(hN:X.N[i]?=some x:=by rfl)(hv:jk X.env.scope x:=by first|exact Or.inl rfl|exact Or.inr (Or.inl rfl)|exact Or.inr (Or.inr rfl))(hd:(x==("__debug__" : Str))=false:=by decide)
  (hcd:(x==("__classdict__" : Str))=false:=by decide):SB X (.Name x pos) (vn i):=⟨⟨_,W5 hN hv hd hcd,λE hf q=>by
 obtain⟨b,hb⟩:=DH hf;cases b with
 |false=>
  obtain⟨v,e,r⟩:=E.fr _ _ hb;exact⟨v,e,q v _ _ (zT.refl E.ext.gh) (r.mono E.ext.gh)⟩
 |true=>
  obtain⟨p,e,_,_,o⟩:=E.ow _ _ hb;exact⟨_,e,q _ _ _ (zT.refl E.ext.gh) (o.rep E.ext.gh)⟩⟩⟩
theorem V8{v:V}{d:D}(h:PE X e (tC v))(r:∀H,zY X.K H d v):SE X e (eC d):=⟨⟨_,h,λE hf q=>by
 cases hf;exact q v _ _ (zT.refl E.ext.gh) (r _)⟩⟩
theorem zQ{i k pos}:SE X (.Constant (.int i) k pos) (eC (.int i)):=V8 Ep λ_=>rfl
theorem uI{i k pos}:SE X (.Constant (.bool i) k pos) (eC (.bl i)):=V8 bK λ_=>rfl
theorem VA{k pos}:SE X (.Constant .none k pos) (eC .non):=V8 bY λ_=>rfl
theorem zp{x k pos}(h:x.length<=1000:=by decide):SE X (.Constant (.str x) k pos) (eC (.str x)):=V8 be λ_=>⟨rfl,small h⟩
theorem uJ{v:V}{d:D}(h:yn X.mg x v)(r:∀H,zY X.K H d v)(hg:Gl X x)(hd:(x==("__debug__" : Str))=false:=by decide):SE X (.Name x pos) (eC d):=V8 (YB h hg hd) r
def uB(K:W.Frag)(r:R2)(F:D->D->Option D):Prop:=∀G H x y u v d (Q:VK),zx G H->zY K G x u->zY K G y v->F x y=some d->(∀w G' H',zT G H G' H'->zY K G' d w->Q w H')->r u v H Q
def tz(K:W.Frag)(r:R2)(F:D->D->Option D):Prop:=∀H x y u v d (Q:VK),zY K H x u->zY K H y v->F x y=some d->∃k,d=.bl k/\(Q (.bl k) H->r u v H Q)
theorem zc{op:Operator}(ho:yT X (binaryOp op) r)(hF:uB X.K r F)(ha:SE X a fa)(hb:SE X b fb):SE X (.BinOp a op b pos) (e2 F fa fb):=by
 obtain⟨ta,pa,ka⟩:=ha.h;obtain⟨tb,pb,kb⟩:=hb.h;refine⟨⟨_,On ho pa pb,λE hf q=>?_⟩⟩;obtain⟨x,hx,hf⟩:=zM hf;obtain⟨y,hy,hf⟩:=zM hf;refine ka E hx λv G1 H1 x1 r1=>?_
 refine kb (E.go x1) hy λu G2 H2 x2 r2=>?_
 exact hF G2 H2 x y v u _ _ x2.gh (r1.mono x2.g) r2 hf λw G' H' x3 r3=>q w G' H' (x1.trans (x2.trans x3)) r3
theorem zn(hr:tH X r)(hF:uB X.K r F)(ha:SE X a fa)(hb:SE X b fb)(hs:kW b=true:=by rfl):SE X (.Subscript a b pos) (e2 F fa fb):=by
 obtain⟨ta,pa,ka⟩:=ha.h;obtain⟨tb,pb,kb⟩:=hb.h;refine⟨⟨_,Tq hr pa pb (Tt hs),λE hf q=>?_⟩⟩;obtain⟨x,hx,hf⟩:=zM hf;obtain⟨y,hy,hf⟩:=zM hf;refine ka E hx λv G1 H1 x1 r1=>?_
 refine kb (E.go x1) hy λu G2 H2 x2 r2=>?_
 exact hF G2 H2 x y v u _ _ x2.gh (r1.mono x2.g) r2 hf λw G' H' x3 r3=>q w G' H' (x1.trans (x2.trans x3)) r3
theorem tV{op:CmpOp}(ho:yT X (compareOp op) r)(hF:tz X.K r F)(ha:SB X a fa)(hb:SB X b fb)(hm:behindInMarks op b=false):SE X (.Compare a [op] [b] pos) (e2 F fa fb):=by
 obtain⟨ta,pa,ka⟩:=ha.h;obtain⟨tb,pb,kb⟩:=hb.h;refine⟨⟨_,bT ho pa pb hm,λE hf q=>?_⟩⟩;obtain⟨x,hx,hf⟩:=zM hf;obtain⟨y,hy,hf⟩:=zM hf;refine ka E hx λv G1 H1 x1 r1=>?_
 refine kb (E.go x1) hy λu G2 H2 x2 r2=>?_
 obtain⟨k,rfl,z⟩:=hF H2 x y v u _ _ (r1.mono x2.h) r2 hf;exact z (q _ _ _ (x1.trans x2) rfl)
theorem zy{op:CmpOp}(ho:yT X (compareOp op) r)(hF:tz X.K r F)(ha:SB X a fa)(hb:SB X b fb)(hm:behindInMarks op b=false):ST X (.Compare a [op] [b] pos) (tE (e2 F fa fb)):=by
 obtain⟨ta,pa,ka⟩:=ha.h;obtain⟨tb,pb,kb⟩:=hb.h;refine⟨⟨_,G9 ho pa pb hm,λE hf q=>?_⟩⟩;obtain⟨z,hz,hf⟩:=zM hf;obtain⟨x,hx,hz⟩:=zM hz;obtain⟨y,hy,hz⟩:=zM hz;refine ka E hx λv G1 H1 x1 r1=>?_
 refine kb (E.go x1) hy λu G2 H2 x2 r2=>?_
 obtain⟨k,rfl,z⟩:=hF H2 x y v u _ _ (r1.mono x2.h) r2 hz;cases hf;exact z ⟨_,rfl,q _ _ (x1.trans x2)⟩
theorem v_(h:SE X e f)(he:Ev e=true:=by rfl):ST X e (tE f):=by
 obtain⟨t,p,k⟩:=h.h;refine⟨⟨_,cR p (cC he),λE hf q=>?_⟩⟩;obtain⟨z,hz,hf⟩:=zM hf;refine k E hz λv G' H' x r=>?_
 cases z<;>first|cases hf|skip
 cases r;exact⟨_,rfl,q _ _ x⟩
theorem QL(h:ST X a ft):SW X (.BoolOp .And [a] pos) ft:=⟨let ⟨t,p,k⟩:=h.h; ⟨t,cW p,k⟩⟩
theorem qh(h:ST X a ft):SW X (.BoolOp .Or [a] pos) ft:=⟨let ⟨t,p,k⟩:=h.h; ⟨t,cY p,k⟩⟩
theorem QK(ha:ST X a ft)(hb:SW X (.BoolOp .And (b::yj) pos) fu):SW X (.BoolOp .And (a::b::yj) pos) (gP ft fu):=by
 obtain⟨ta,pa,ka⟩:=ha.h;obtain⟨tb,pb,kb⟩:=hb.h;refine⟨⟨_,cV pa pb,λE hf q=>?_⟩⟩;obtain⟨k,hk,hf⟩:=zM hf;refine ka E hk λG1 H1 x1=>?_
 cases k with
 |true=>exact jx (kb (E.go x1) hf λG' H' x2=>q _ _ (x1.trans x2))
 |false=>cases hf; exact jw (q _ _ x1)
theorem uZ(ha:ST X a ft)(hb:SW X (.BoolOp .Or (b::yj) pos) fu):SW X (.BoolOp .Or (a::b::yj) pos) (xm ft fu):=by
 obtain⟨ta,pa,ka⟩:=ha.h;obtain⟨tb,pb,kb⟩:=hb.h;refine⟨⟨_,cX pa pb,λE hf q=>?_⟩⟩;obtain⟨k,hk,hf⟩:=zM hf;refine ka E hk λG1 H1 x1=>?_
 cases k with
 |false=>exact jw (kb (E.go x1) hf λG' H' x2=>q _ _ (x1.trans x2))
 |true=>cases hf; exact jx (q _ _ x1)
theorem ua(h:SW X e ft):ST X e ft:=⟨let ⟨t,p,k⟩:=h.h; ⟨t,p.pt,k⟩⟩
theorem gO(h:ST X a ft):ST X (.UnaryOp .Not a pos) (pL ft):=by
 obtain⟨ta,pa,ka⟩:=h.h;refine⟨⟨_,cQ pa,λE hf q=>?_⟩⟩;obtain⟨k,hk,hf⟩:=zM hf;cases hf;exact ka E hk λG1 H1 x1=>q _ _ x1
theorem QD{op}(h:SE X a f):SE X (.BoolOp op [a] pos) f:=⟨let ⟨t,p,k⟩:=h.h; ⟨t,bZ p,k⟩⟩
theorem Gh{K:W.Frag}{G:Hp}{z:D}{v:V}{k:Bool}(r:zY K G z v)(h:Zb z=some k):v=.bl k:=by
 cases z<;>first|cases h|skip
 exact r
theorem LU(ha:SE X a fa)(hb:SE X (.BoolOp .And (b::yj) pos) fb):SE X (.BoolOp .And (a::b::yj) pos) (XV fa fb):=by
 obtain⟨ta,pa,ka⟩:=ha.h;obtain⟨tb,pb,kb⟩:=hb.h;refine⟨⟨_,bJ pa pb,λE hf q=>?_⟩⟩;obtain⟨z,hz,hf⟩:=zM hf;obtain⟨k,hk,hf⟩:=zM hf;refine ka E hz λv G1 H1 x1 r1=>⟨k,Gh r1 hk,?_⟩
 cases k with
 |true=>exact jx (kb (E.go x1) hf λv G' H' x2 r2=>q v _ _ (x1.trans x2) r2)
 |false=>cases hf; exact jw (q _ _ _ x1 rfl)
theorem ff(ha:SE X a fa)(hb:SE X (.BoolOp .Or (b::yj) pos) fb):SE X (.BoolOp .Or (a::b::yj) pos) (Ji fa fb):=by
 obtain⟨ta,pa,ka⟩:=ha.h;obtain⟨tb,pb,kb⟩:=hb.h;refine⟨⟨_,ba pa pb,λE hf q=>?_⟩⟩;obtain⟨z,hz,hf⟩:=zM hf;obtain⟨k,hk,hf⟩:=zM hf;refine ka E hz λv G1 H1 x1 r1=>⟨k,Gh r1 hk,?_⟩
 cases k with
 |false=>exact jw (kb (E.go x1) hf λv G' H' x2 r2=>q v _ _ (x1.trans x2) r2)
 |true=>cases hf; exact jx (q _ _ _ x1 rfl)
theorem V9(hc:ST X c ft)(ha:SE X a fa)(hb:SE X b fb):SE X (.IfExp c a b pos) (kB ft fa fb):=by
 obtain⟨tc,pc,kc⟩:=hc.h;obtain⟨ta,pa,ka⟩:=ha.h;obtain⟨tb,pb,kb⟩:=hb.h;refine⟨⟨_,bW pc pa pb,λE hf q=>?_⟩⟩;obtain⟨k,hk,hf⟩:=zM hf;refine kc E hk λG1 H1 x1=>?_
 cases k with
 |true=>exact jx (ka (E.go x1) hf λv G' H' x2 r2=>q v _ _ (x1.trans x2) r2)
 |false=>exact jw (kb (E.go x1) hf λv G' H' x2 r2=>q v _ _ (x1.trans x2) r2)
theorem zN:SA X [] zD:=⟨⟨_,YA,λE hf q=>by cases hf; exact q _ _ _ (zT.refl E.ext.gh) rfl⟩⟩
theorem zG(ha:SE X e f)(hr:SA X es fs)(h:xM e=true:=by rfl):SA X (e::es) (zC f fs):=by
 obtain⟨ta,pa,ka⟩:=ha.h;obtain⟨tb,pb,kb⟩:=hr.h;refine⟨⟨_,W4 pa pb h,λE hf q=>?_⟩⟩;obtain⟨x,hx,hf⟩:=zM hf;obtain⟨xs,hxs,hf⟩:=zM hf;cases hf;refine ka E hx λv G1 H1 x1 r1=>kb (E.go x1) hxs λvs G2 H2 x2 r2=>?_
 exact q _ _ _ (x1.trans x2) ⟨v,vs,rfl,r1.mono x2.g,r2⟩
theorem xl:XE X [] zD:=⟨⟨_,YA,λE hf q=>by cases hf; exact q _ _ _ (zT.refl E.ext.gh) rfl⟩⟩
theorem xf(ha:SB X e f)(hr:XE X es fs)(h:xM e=true:=by rfl):XE X (e::es) (zC f fs):=by
 obtain⟨ta,pa,ka⟩:=ha.h;obtain⟨tb,pb,kb⟩:=hr.h;refine⟨⟨_,W4 pa pb h,λE hf q=>?_⟩⟩;obtain⟨x,hx,hf⟩:=zM hf;obtain⟨xs,hxs,hf⟩:=zM hf;cases hf;refine ka E hx λv G1 H1 x1 r1=>kb (E.go x1) hxs λvs G2 H2 x2 r2=>?_
 exact q _ _ _ (x1.trans x2) ⟨v,vs,rfl,r1.mono x2.h,r2⟩
theorem fE{is:List Int}(h:intsOf es=some is):SA X es (λ_=>some (is.map D.int)):=⟨⟨_,Ek h,λE hf q=>by cases hf; exact q _ _ _ (zT.refl E.ext.gh) Reps.ints⟩⟩
theorem wv{x1}(h:SA X es fs)(hl:∀τ ds,fs τ=some ds->ds.length<=1000):SE X (.Tuple es x1 pos) (xt fs):=by
 obtain⟨t,pt,k⟩:=h.h;refine⟨⟨_,bf pt,λE hf q=>?_⟩⟩;obtain⟨xs,hx,hf⟩:=zM hf;cases hf;have l:xs.length<=sizeLine:=small (hl _ _ hx);refine k E hx λvs G1 H1 x1 r1=>⟨by rw[r1.length]; exact l,λp hp=>?_⟩
 exact q _ _ _ (x1.trans (zT.lay x1.gh hp)) ⟨p,vs,rfl,xE.of xJ,r1.mono (v7 (x1.gh.free hp) _),l⟩
theorem wJ(h:SA X es fs)(hl:∀τ ds,fs τ=some ds->ds.length<=1000):SF X (.List es pos) (xY fs):=by
 obtain⟨t,pt,k⟩:=h.h;refine⟨⟨_,Er pt,λE hf q=>?_⟩⟩;obtain⟨xs,hx,hf⟩:=zM hf;cases hf;have l:xs.length<=sizeLine:=small (hl _ _ hx);refine k E hx λvs G1 H1 x1 r1=>⟨by rw[r1.length]; exact l,λp hp=>?_⟩
 exact q _ _ _ (x1.trans (zT.layO x1.gh hp)) (x1.h.free hp) (x1.gh.free hp) ⟨vs,xJ,r1,l⟩
theorem yU:∀(τ:zi) ds,zD τ=some ds->ds.length<=0:=λ_ _ h=>by cases h; exact zt _
theorem zd{n:Nat}(h:∀τ ds,fs τ=some ds->ds.length<=n):∀τ ds,zC f fs τ=some ds->ds.length<=n+1:=λτ ds e=>by
 obtain⟨x,_,e⟩:=zM e;obtain⟨xs,hx,e⟩:=zM e;cases e;exact VX (h _ _ hx)
theorem K_{is:List Int}{n:Nat}(h:is.length<=n):∀(τ:zi) ds,(some (is.map D.int))=some ds->ds.length<=n:=λ_ _ e=>by
 cases e;rw[zj];exact h
theorem yQ{m n:Nat}(h:∀τ ds,fs τ=some ds->ds.length<=m)(hmn:m<=n):∀τ ds,fs τ=some ds->ds.length<=n:=λτ ds e=>wX (h τ ds e) hmn
variable{ps:List Str}{j k:Nat}{FF:List D->Option (Bool×D)}{FL:List D->Option D}{id T:String}
theorem qI(h:zU X.prog X.w X.K X.mg X.base x ps k (zV X.K FF))(hr:xX j X.A)(hg:Gl X x)(ha:SA X (e::es) fs)(hk:k<=j:=by decide)(hdb:(x==("__debug__" : Str))=false:=by decide)
  (he:(e::es).all xM=true:=by rfl):SF X (.Call (.Name x p) (e::es) [] pos) (wC FF fs):=by
 obtain⟨t,pt,kt⟩:=ha.h;refine⟨⟨_,Oo h hr hg pt hk hdb he,λE hf q=>?_⟩⟩;obtain⟨ds,hd,hf⟩:=zM hf;obtain⟨⟨o,d⟩,hr,hf⟩:=zM hf;cases o with
 |false=>cases hf
 |true=>
  cases hf;refine kt E hd λvs G1 H1 x1 r1=>⟨G1,ds,true,_,x1.gh,by rw[wW]; exact r1,hr,λp G' H' x2 hp gp o=>?_⟩
  exact q p G' H' (x1.trans x2) (x1.h.free hp) gp o
theorem yC(h:zU X.prog X.w X.K X.mg X.base x ps k (zV X.K FF))(hr:xX j X.A)(hg:Gl X x)(ha:SA X (e::es) fs)(hk:k<=j:=by decide)(hdb:(x==("__debug__" : Str))=false:=by decide)
  (he:(e::es).all xM=true:=by rfl):SE X (.Call (.Name x p) (e::es) [] pos) (zW FF fs):=by
 obtain⟨t,pt,kt⟩:=ha.h;refine⟨⟨_,Oo h hr hg pt hk hdb he,λE hf q=>?_⟩⟩;obtain⟨ds,hd,hf⟩:=zM hf;obtain⟨⟨o,d⟩,hr,hf⟩:=zM hf;cases hf;refine kt E hd λvs G1 H1 x1 r1=>⟨G1,ds,o,d,x1.gh,by rw[wW]; exact r1,hr,?_⟩
 cases o with
 |false=>exact λv G' H' x2 r=>q v G' H' (x1.trans x2) r
 |true=>
  intro p G' H' x2 hp gp o;obtain⟨u,hu,r⟩:=o.frz gp;exact q _ _ _ (x1.trans (x2.frz hp gp hu)) r
theorem fW(h:zU X.prog X.w X.K X.mg X.base x ps k (zV X.K FF))(hr:xX j X.A)(hg:Gl X x)(ha:XE X (e::es) fs)(hk:k<=j:=by decide)(hdb:(x==("__debug__" : Str))=false:=by decide)
  (he:(e::es).all xM=true:=by rfl):SE X (.Call (.Name x p) (e::es) [] pos) (Uu FF fs):=by
 obtain⟨t,pt,kt⟩:=ha.h;refine⟨⟨_,Oo h hr hg pt hk hdb he,λE hf q=>?_⟩⟩;obtain⟨d0,h0,hf⟩:=zM hf;obtain⟨ds,hd,h0⟩:=zM h0;obtain⟨⟨o,d⟩,hr,h0⟩:=zM h0;cases h0;by_cases fl:xF d=true
 ·rw[zK fl]at hf;cases hf;refine kt E hd λvs G1 H1 x1 r1=>⟨H1,ds,o,d,zx.refl _,by rw[wW]; exact r1,hr,?_⟩
  have flat:∀{G G':Hp}{v:V},zY X.K G d v->zY X.K G' d v:=λ{G G' v} r=>by
   cases d<;>first|exact r|exact absurd fl yR
  cases o with
  |false=>exact λv G' H' x2 r=>q v G1 H' (x1.trans ⟨zx.refl _,x2.h,x1.gh.trans x2.h,λ_ z=>.inl z⟩) (flat r)
  |true=>
   intro p G' H' x2 hp gp o;cases d<;>first|exact o.elim|exact absurd fl yR
 ·rw[zL fl]at hf;cases hf
def JG(K:W.Frag)(r:List V->Hp->VK->Prop)(F:List D->Option D):Prop:=∀G H ds vs d (Q:VK),zx G H->Reps K H ds vs->F ds=some d->(∀w G' H',zT G H G' H'->zY K G' d w->Q w H')->r vs H Q
theorem xv{rc:List V->Hp->VK->Prop}(hc:wr X (.builtin id) rc)(hF:JG X.K rc FL)(hg:Gl X x)(hm:X.mg x=none)(hv:bootBuiltins x=some (.builtin id))(ha:XE X (e::es) fs)(hn:x ≠ "__name__" := by decide)(hdb:(x==("__debug__" : Str))=false:=by decide)
  (he:(e::es).all xM=true:=by rfl):SE X (.Call (.Name x p) (e::es) [] pos) (eL FL fs):=by
 obtain⟨t,pt,kt⟩:=ha.h;refine⟨⟨_,(W8 hc hg hm hv ⟨pt⟩ hn hdb he).h,λE hf q=>?_⟩⟩;obtain⟨ds,hd,hf⟩:=zM hf;exact kt E hd λvs G1 H1 x1 r1=>hF G1 H1 ds vs _ _ x1.gh r1 hf λw G' H' x2 r2=>q w G' H' (x1.trans x2) r2
theorem gJ{op:UnaryOp}{ru:V->Hp->VK->Prop}{F1:D->Option D}(ho:XJ X (unaryOp op) ru)(hF:∀(G H:Hp) x u d (Q:VK),zY X.K G x u->F1 x=some d->∃w,(∀G,zY X.K G d w)/\(Q w H->ru u H Q))(ha:SE X a fa):SE X (.UnaryOp op a pos) (e1 F1 fa):=by
 obtain⟨t,pt,kt⟩:=ha.h;refine⟨⟨_,bg ho pt,λE hf q=>?_⟩⟩;obtain⟨x,hx,hf⟩:=zM hf;refine kt E hx λv G1 H1 x1 r1=>?_
 obtain⟨w,rw_,z⟩:=hF G1 H1 x v _ _ r1 hf;exact z (q w _ _ x1 (rw_ _))
end
section
variable{X:Cx}{x:Str}{p pos pos' apos cpos:Pos}{e a b c tg iter elt:Expr}{es ifs:List Expr}{f fa fb:FE}{ft:FT}{fs:FA}{st:Stmt}{sts body:List Stmt}{g g':FS}
theorem xI:uR X [] yc:=⟨⟨_,cP,λ{_ _ G H τ σ fl E} K hf q=>by
 cases hf;exact q σ G H K⟩⟩
theorem vk.with{K:W.Frag}{n:Nat}{G0 H0:Hp}{E E':u8}{fl:Fl}(h:vk K n G0 H0 E fl)(hn:∀τ,fl=.nx τ->vk K n G0 H0 E' (.nx τ))(hb:∀τ,fl=.bk τ->vk K n G0 H0 E' (.bk τ))(hc:∀τ,fl=.ct τ->vk K n G0 H0 E' (.ct τ))(hr:E'.rt=E.rt):vk K n G0 H0 E' fl:=by
 cases fl with
 |nx τ=>exact hn τ rfl
 |bk τ=>exact hb τ rfl
 |ct τ=>exact hc τ rfl
 |rt o d=>
  cases o with
  |false=>intro v G H x r; rw[hr]; exact h v G H x r
  |true=>intro v G H x r1 r2 r3; rw[hr]; exact h v G H x r1 r2 r3
theorem zR(h1:SS X st g)(h2:uR X sts g'):uR X (st::sts) (zI g g'):=by
 obtain⟨t,p,k⟩:=h1.h;obtain⟨t',p',k'⟩:=h2.h;refine⟨⟨_,Tx p p',λ{G0 H0 G H τ σ fl E} K hf q=>?_⟩⟩;obtain⟨f1,h1,hf⟩:=zM hf;refine k K h1 ?_;cases f1 with
 |nx τ'=>exact λσ' G' H' K'=>k' K' hf q
 |bk τ'=>cases hf; exact q
 |ct τ'=>cases hf; exact q
 |rt o d=>cases hf; exact vk.with q (λ_ z=>nomatch z) (λ_ z=>nomatch z) (λ_ z=>nomatch z) rfl
theorem zZ(h1:SS X st g):uR X [st] g:=⟨let ⟨t,p,k⟩:=h1.h; ⟨t,Ox p,k⟩⟩
theorem gM(i:Nat)(h:uR X sts g):uR X sts (zI (uy i) g):=by
 obtain⟨t,p,k⟩:=h.h;refine⟨⟨t,p,λ{G0 H0 G H τ σ fl E} K hf q=>?_⟩⟩;obtain⟨f1,h1,hf⟩:=zM hf;unfold uy at h1
 split at h1
 ·rename_i bb d hd;cases h1;obtain⟨G',K',_⟩:=K.freeze hd;exact k K' hf q
 ·cases h1
theorem yA{i:Nat}{x:Str}{pos':Pos}(hN:X.N.Nodup)(hi:X.N[i]?=some x)(hx:uN X.env.scope x)(he:SE X e f)(hs:kS e=true:=by rfl)(hf:X.fn x=true\/X.env.scope.names.lookup x=some .local:=by first|exact .inl rfl|exact .inr rfl|assumption) :
  SS X (.Assign [.Name x pos'] e pos) (zb i f):=by
 obtain⟨t,p,k⟩:=he.h;refine⟨⟨_,(T_ hN hi hx ⟨p⟩ hs hf).h,λ{G0 H0 G H τ σ fl E} K hf q=>?_⟩⟩;obtain⟨d,hd,hf⟩:=zM hf;cases hf;exact k K hd λv G' H' x r=>q _ _ _ ((K.go x).set (yM.mp hi).1 r)
theorem uz{i:Nat}{x:Str}{pos':Pos}(hN:X.N.Nodup)(hi:X.N[i]?=some x)(hx:uN X.env.scope x)(he:SF X e f)(hs:kS e=true:=by rfl)(hf:X.fn x=true\/X.env.scope.names.lookup x=some .local:=by first|exact .inl rfl|exact .inr rfl|assumption) :
  SS X (.Assign [.Name x pos'] e pos) (vX i f):=by
 obtain⟨t,p,k⟩:=he.h;refine⟨⟨_,(T_ hN hi hx ⟨p⟩ hs hf).h,λ{G0 H0 G H τ σ fl E} K hf q=>?_⟩⟩;obtain⟨d,hd,hf⟩:=zM hf;cases hf;refine k K hd λp G' H' x hp gp o=>q _ _ _ ((K.go x).setO (yM.mp hi).1 gp (K.ext.h.free hp) o ?_)
 exact K.newO hp
theorem yr(he:SE X e f):SS X (.Return (some e) pos) (yW f):=by
 obtain⟨t,p,k⟩:=he.h;refine⟨⟨_,Tw p,λ{G0 H0 G H τ σ fl E} K hf q=>?_⟩⟩;obtain⟨d,hd,hf⟩:=zM hf;cases hf;exact k K hd λv G' H' x r=>q v _ _ (K.ext.trans x) r
theorem vO(he:SF X e f):SS X (.Return (some e) pos) (v6 f):=by
 obtain⟨t,p,k⟩:=he.h;refine⟨⟨_,Tw p,λ{G0 H0 G H τ σ fl E} K hf q=>?_⟩⟩;obtain⟨d,hd,hf⟩:=zM hf;cases hf;exact k K hd λp G' H' x hp gp o=>q p _ _ (K.ext.trans x) (K.ext.h.free hp) gp o
theorem YW(i:Nat){x:Str}{pos':Pos}(hN:X.N[i]?=some x:=by rfl)(hv:jk X.env.scope x:=by first|exact Or.inl rfl|exact Or.inr (Or.inl rfl)|exact Or.inr (Or.inr rfl))(hd:(x==("__debug__" : Str))=false:=by decide)
  (hcd:(x==("__classdict__" : Str))=false:=by decide):SS X (.Return (some (.Name x pos')) pos) (jP i):=by
 refine⟨⟨_,Tw (W5 hN hv hd hcd),λ{G0 H0 G H τ σ fl E} K hf q=>?_⟩⟩;unfold jP at hf
 split at hf
 ·rename_i d he;cases hf;obtain⟨p,e,g,z,o⟩:=K.ow _ _ he;exact⟨_,e,q p _ _ K.ext z g o⟩
 ·cases hf
theorem yk{sa sb:List Stmt}(hc:ST X c ft)(ha:uR X sa g)(hb:uR X sb g'):SS X (.If c sa sb pos) (yP ft g g'):=by
 obtain⟨tc,pc,kc⟩:=hc.h;obtain⟨ta,pa,ka⟩:=ha.h;obtain⟨tb,pb,kb⟩:=hb.h;refine⟨⟨_,cN pc pa pb,λ{G0 H0 G H τ σ fl E} K hf q=>?_⟩⟩;obtain⟨k,hk,hf⟩:=zM hf;refine kc K hk λG1 H1 x1=>?_
 cases k with
 |true=>exact jx (ka (K.go x1) hf q)
 |false=>exact jw (kb (K.go x1) hf q)
theorem VE{ft:FT}(hp:PassesOwn (model X.prog X.w) X.A X.env X.xe)(hc:ST X c ft)(hb:uR X body g):SS X (.While c body [] pos) (pK ft g):=by
 obtain⟨tc,pc,kc⟩:=hc.h;obtain⟨tb,pb,kb⟩:=hb.h;refine⟨⟨_,cO hp pc pb,λ{G0 H0 G H τ σ fl E} K hf q=>?_⟩⟩;refine⟨λm σ H=>∃τ G,zg X.K X.N.length G0 H0 G H τ σ/\vI ft g m τ=some fl,⟨U5,τ,G,K,hf⟩,?_⟩;rintro m σ H ⟨τ,G,K,hf⟩;cases m with
 |zero=>cases hf
 |succ n=>
  obtain⟨k,hk,hf⟩:=zM (show(ft τ).bind _=_ from hf);refine kc K hk λG1 H1 x1=>?_
  cases k with
  |false=>
   cases hf;exact jw (q _ _ _ (K.go x1))
  |true=>
   obtain⟨f1,h1,hf⟩:=zM (show(g τ).bind _=_ from hf);refine jx ⟨λσ' H'=>∃τ G,zg X.K X.N.length G0 H0 G H' τ σ'/\vI ft g n τ=some fl,λσ' H' z=>⟨n,ZG n,z⟩,kb (K.go x1) h1 ?_⟩;cases f1 with
   |nx τ2=>exact λσ2 G2 H2 K2=>⟨τ2,G2,K2,hf⟩
   |ct τ2=>exact λσ2 G2 H2 K2=>⟨τ2,G2,K2,hf⟩
   |bk τ2=>cases hf; exact q
   |rt o d=>cases hf; exact vk.with q (λ_ z=>nomatch z) (λ_ z=>nomatch z) (λ_ z=>nomatch z) rfl
theorem vk.near{K:W.Frag}{n:Nat}{G0 H0 Ga Ha:Hp}{E:u8}{fl:Fl}(x:zT G0 H0 Ga Ha)(h:vk K n G0 H0 E fl):vk K n Ga H0 E fl:=by
 cases fl with
 |nx τ=>exact λσ G H z=>h σ G H (zg.near x z)
 |bk τ=>exact λσ G H z=>h σ G H (zg.near x z)
 |ct τ=>exact λσ G H z=>h σ G H (zg.near x z)
 |rt o d=>
  cases o with
  |false=>exact λv G H y r=>h v G H (x.rebase y) r
  |true=>exact λp G H y r1 r2 r3=>h p G H (x.rebase y) r1 r2 r3
structure SG(X:Cx)(tg:Expr)(fg:FG):Prop where
 h:∃t,PG X tg t/\∀{G0 H0 G H:Hp}{τ τ':zi}{σ:St}{d:D}{v:V}{Q:St->Hp->Prop},zg X.K X.N.length G0 H0 G H τ σ->zY X.K G d v->fg d τ=some τ'->(∀σ',zg X.K X.N.length G0 H0 G H τ' σ'->Q σ' H)->t v σ H Q
theorem VB{i:Nat}{x:Str}(h:QG X (.Name x pos) (vL i))(hi:X.N[i]?=some x):SG X (.Name x pos) (zz i):=⟨⟨_,h.h,λK r hf q=>by
 cases hf;exact q _ (K.set (yM.mp hi).1 r)⟩⟩
theorem h_{i j:Nat}{x y:Str}{p1 p2:Pos}{kk:Nat}(h:QG X (.Tuple [.Name x p1,.Name y p2] kk pos) (Zi X.K 2 (pA (vL i) (pA (vL j) Zh))))(hi:X.N[i]?=some x)(hj:X.N[j]?=some y):SG X (.Tuple [.Name x p1,.Name y p2] kk pos) (wL i j):=⟨⟨_,h.h,λ{G0 H0 G H τ τ' σ d v Q} K r hf q=>by
 unfold wL at hf
 split at hf
 ·rename_i d1 d2;cases hf;obtain⟨a,vs,rfl,sq,⟨v1,r1,rfl,h1,⟨v2,r2,rfl,h2,h3⟩⟩,_⟩:=r;cases(show r2=[]from h3);refine⟨a,_,rfl,uK K.ext.gh sq,rfl,v1,_,rfl,v2,_,rfl,rfl,?_⟩;exact q _ ((K.set (yM.mp hi).1 h1).set (yM.mp hj).1 h2)
 ·cases hf⟩⟩
theorem YV{fg:FG}(hp:PassesOwn (model X.prog X.w) X.A X.env X.xe)(hc:X.calm=true)(hi:SI X tg iter fs)(hg:SG X tg fg)(hb:uR X body g)(hs:∀x,foldedSetIterable iter X.env x=pure x:=by intro _; rfl):SS X (.For tg iter body [] pos) (gF fs fg g):=by
 obtain⟨ti,pi,ki⟩:=hi.h;obtain⟨tg',pg,kg⟩:=hg.h;obtain⟨tb,pb,kb⟩:=hb.h;refine⟨⟨_,Ow hp hc pi pg pb hs,λ{G0 H0 G H τ σ fl E} K hf q=>?_⟩⟩;obtain⟨ds,hd,hf⟩:=zM hf;refine ki K hd λJ Ga Ha xa _ wk=>?_
 have Ka:=K.go xa;have q':=vk.near Ka.ext q;refine⟨λi m σ H=>m=ds.length-i/\i<=ds.length/\∃τ G,zg X.K X.N.length Ga H0 G H τ σ/\g7 fg g (ds.drop i) τ=some fl,⟨ds.length,rfl,xb _,τ,Ga,Ka.far,hf⟩,?_⟩;rintro i m σ H ⟨rfl,hle,τ,G,K,hf⟩;by_cases hlt:i<ds.length
 ·refine .inr ⟨wk.go i G H K.ext.g K.ext.gh hlt,λσ' H'=>∃τ G,zg X.K X.N.length Ga H0 G H' τ σ'/\g7 fg g (ds.drop (i+1)) τ=some fl,λσ' H' z=>⟨ds.length-(i+1),by omega,rfl,hlt,z⟩,λx H' y=>?_⟩;obtain⟨G3,d,x3,ed,rd⟩:=wk.yld i G H x H' K.ext.g K.ext.gh hlt y;rw[VN hlt]at hf;rw[yZ hlt]at ed;cases ed;obtain⟨τ1,h1,hf⟩:=zM (show(fg _ τ).bind _=_ from hf);obtain⟨f1,h2,hf⟩:=zM hf;refine kg (K.go x3) rd h1 λσ1 K1=>kb K1 h2 ?_
  cases f1 with
  |nx τ2=>exact λσ2 G2 H2 K2=>⟨τ2,G2,K2,hf⟩
  |ct τ2=>exact λσ2 G2 H2 K2=>⟨τ2,G2,K2,hf⟩
  |bk τ2=>cases hf; exact q'
  |rt o d=>cases hf; exact vk.with q' (λ_ z=>nomatch z) (λ_ z=>nomatch z) (λ_ z=>nomatch z) rfl
 ·have e:ds.drop i=[]:=Qo (by omega);rw[e]at hf;cases hf;exact .inl ⟨wk.stop i G H K.ext.g K.ext.gh (by omega),q' _ _ _ K⟩
theorem Re{K:W.Frag}{G:Hp}{lo:Int}{n:Nat}:j6 K (U7 lo n) G ((List.range n).map λk:Nat=>D.int (lo+k)) where
 go:=λi G2 H _ _ hi=>by
  show i<n;simpa using hi
 yld:=λi G2 H x H' _ g2 hi y=>by
  obtain⟨rfl,rfl⟩:=y;exact⟨G2,.int (lo+i),zT.refl g2,by simp at hi; simp[hi],rfl⟩
 stop:=λi G2 H _ _ hi=>by
  show n<=i;simpa using hi
theorem gK(hg:Gl X "range")(hm:X.mg "range" = none)(ha:SE X a fa)(hs:xM a=true:=by rfl):SI X tg (.Call (.Name "range" p) [a] [] pos) (qX (eC (.int 0)) fa):=by
 obtain⟨t,pt,k⟩:=(zG ha zN hs).h;refine⟨⟨_,br hg hm pt (tW hs),λ{G0 H0 G H τ σ ds R} K hf q=>?_⟩⟩;obtain⟨x,hx,hf⟩:=zM hf;cases hx;obtain⟨y,hy,hf⟩:=zM hf;refine k K (ds:=[y]) (by unfold zC; rw[hy]; rfl) λvs G1 H1 x1 r1=>?_
 cases y<;>first|cases hf|skip
 rename_i j;obtain⟨v,r,rfl,hv,hr⟩:=r1;cases(show r=[]from hr);cases(show v=.int j from hv)
 change (if(0:Int).natAbs<=yK/\j.natAbs<=yK/\(j-0).toNat<=yK then _ else _)=_ at hf
 by_cases c:(0:Int).natAbs<=yK/\j.natAbs<=yK/\(j-0).toNat<=yK
 ·rw[zK c]at hf;cases hf;have c2:j.natAbs<=16777216:=c.2.1;have c3:(j-0).toNat<=16777216:=c.2.2;refine⟨j,rfl,by omega,by omega,q _ _ _ x1 ?_ ?_⟩
  ·rw[zj,vP,w8]; omega
  ·have e:(j-0).toNat=j.toNat:=by omega
   rw[e];exact Re
 ·rw[zL c]at hf;cases hf
theorem Sq{K:W.Frag}{G:Hp}{a:Addr}{vs:List V}{ds:List D}(sq:yG K G a vs)(r:Reps K G ds vs):j6 K (JB K a) G ds where
 go:=λi G2 H g1 g2 hi=>by
  obtain⟨v,e,_⟩:=r.get (yZ hi);exact⟨vs,v,v8 (g1.trans g2) sq,e⟩
 yld:=λi G2 H x H' g1 g2 hi y=>by
  obtain⟨rfl,y⟩:=y;have e:=y vs (v8 (g1.trans g2) sq);obtain⟨d,ed,rd⟩:=r.at e;exact⟨G2,d,zT.refl g2,ed,rd.mono g1⟩
 stop:=λi G2 H g1 g2 hi=>⟨vs,v8 (g1.trans g2) sq,by rw[r.length]; exact hi⟩
theorem nP{K:W.Frag}{G:Hp}{a:Addr}{vs:List V}{ds:List D}(sq:xE K G a vs)(r:Reps K G ds vs):j6 K (JC K a) G ds where
 go:=λi G2 H g1 g2 hi=>by
  obtain⟨v,e,_⟩:=r.get (yZ hi);exact⟨vs,v,uK (g1.trans g2) sq,e⟩
 yld:=λi G2 H x H' g1 g2 hi y=>by
  obtain⟨rfl,y⟩:=y;have e:=y vs (uK (g1.trans g2) sq);obtain⟨d,ed,rd⟩:=r.at e;exact⟨G2,d,zT.refl g2,ed,rd.mono g1⟩
 stop:=λi G2 H g1 g2 hi=>⟨vs,uK (g1.trans g2) sq,by rw[r.length]; exact hi⟩
theorem m3{K:W.Frag}{G:Hp}{z:Str}:j6 K (U8 z) G (z.cps.toList.map λc=>D.str ⟨#[c]⟩) where
 go:=λi G2 H _ _ hi=>by
  rw[zj,wy]at hi;exact hi
 yld:=λi G2 H x H' _ g2 hi y=>by
  obtain⟨rfl,c,ec,rfl⟩:=y;refine⟨G2,.str ⟨#[c]⟩,zT.refl g2,?_,rfl,small (n:=1) (by decide)⟩;rw[xC,Z5,ec];rfl
 stop:=λi G2 H _ _ hi=>by
  rw[zj,wy]at hi;exact hi
theorem PI.or{w1 w2:TI}(h1:PI X tg e w1)(h2:PI X tg e w2):PI X tg e (λσ H R=>w1 σ H R\/w2 σ H R):=λz8 s σ H R I q=>by
 rcases q with q|q
 ·exact h1 z8 s σ H R I q
 ·exact h2 z8 s σ H R I q
theorem vY(h:SE X e f):SI X tg e (v0 f):=by
 obtain⟨t,p,k⟩:=h.h;refine⟨⟨_,PI.or (bq p) (PI.or (Es p) (bt p)),λ{G0 H0 G H τ σ ds R} K hf q=>?_⟩⟩;obtain⟨d,hd,hf⟩:=zM hf;cases d<;>first|cases hf|skip
 ·rename_i z;refine .inr (.inr (k K hd λv G' H' x r=>?_));obtain⟨rfl,l⟩:=r;exact⟨z,rfl,q _ _ _ x (by rw[zj,wy]; exact l) m3⟩
 ·refine .inr (.inl (k K hd λv G' H' x r=>?_));obtain⟨a,vs,rfl,sq,rs,l⟩:=r;exact⟨a,rfl,⟨vs,uK x.gh sq⟩,q _ _ _ x l (nP sq rs)⟩
 ·refine .inl (k K hd λv G' H' x r=>?_);obtain⟨a,vs,rfl,sq,rs,l⟩:=r;exact⟨a,rfl,⟨vs,v8 x.gh sq⟩,q _ _ _ x l (Sq sq rs)⟩
end
def Ln(K:W.Frag)(n:Nat)(f:FE):TE:=λσ H Q=>∃G0 H0 G τ d,zg K n G0 H0 G H τ σ/\f τ=some d/\∀v G' H',zT G H G' H'->zY K G' d v->Q v H'
def QR(K:W.Frag)(n:Nat)(f:FT):TT:=λσ H Q=>∃G0 H0 G τ d,zg K n G0 H0 G H τ σ/\f τ=some d/\∀G' H',zT G H G' H'->Q d H'
structure XF(X:Cx)(es:List Expr)(f:FT):Prop where
 h:gy X es (QR X.K X.N.length f)
section
variable{X:Cx}{e c:Expr}{f:FE}{ft:FT}
theorem SE.pe(h:SE X e f):PE X e (Ln X.K X.N.length f):=λz8 s σ H Q I q=>by
 obtain⟨t,p,k⟩:=h.h;obtain⟨G0,H0,G,τ,d,K,hf,z⟩:=q;exact p z8 s σ H Q I (k K hf z)
theorem ST.pt(h:ST X e ft):PT X e (QR X.K X.N.length ft):=λz8 s σ H Q I q=>by
 obtain⟨t,p,k⟩:=h.h;obtain⟨G0,H0,G,τ,d,K,hf,z⟩:=q;exact p z8 s σ H Q I (k K hf z)
theorem u_:XF X [] xw:=⟨λz8 s σ H Q I q=>by
 obtain⟨G0,H0,G,τ,d,K,hf,z⟩:=q;cases hf;exact GA z8 s σ H Q I (z _ _ (zT.refl K.ext.gh))⟩
theorem qf(h:ST X c ft):XF X [c] ft:=⟨cS h.pt⟩
end
theorem zg.more{K:W.Frag}{n:Nat}{G0 H0 G H:Hp}{τ:zi}{σ:St}(k:Nat)(E:zg K n G0 H0 G H τ σ):zg K (n+k) G0 H0 G H (τ++List.replicate k none) (σ++List.replicate k none):=by
 have at_:∀{i:Nat}{s:Sl},(τ++List.replicate k none)[i]?=some (some s)->τ[i]?=some (some s)/\(σ++List.replicate k none)[i]?=σ[i]?:=λ{i s} h=>by
  have h':=T5 h;have hi:i<n:=E.lt h';exact⟨h',gS (by rw[E.l1]; exact hi)⟩
 refine⟨E.ext,by rw[yD,t6,E.l1],by rw[yD,t6,E.l2],λi d h=>?_,λi d h=>?_,λi j d e p hne h1 h2 h3 h4=>?_⟩
 ·obtain⟨h',e⟩:=at_ h;rw[e];exact E.fr i d h'
 ·obtain⟨h',e⟩:=at_ h;rw[e];exact E.ow i d h'
 ·obtain⟨h1',e1⟩:=at_ h1;obtain⟨h2',e2⟩:=at_ h2;rw[e1]at h3;rw[e2]at h4;exact E.ap i j d e p hne h1' h2' h3 h4
theorem Fn{K:PySem.W.Frag}{n k:Nat}{G0 H0 Ga Ha:Hp}{τ:zi}{σ:St}{J:It}{ds out:List D}{g:TG}{fg:FG}{ft:FT}{f:FE}{Fin:List V->Hp->Prop}(wk:j6 K J Ga ds)(hl:ds.length<=sizeLine)(Ka:zg K n G0 H0 Ga Ha τ σ)
  (hf:wU fg ft f (τ++List.replicate k none) ds=some out)
  (kg:∀G H d v τ' (Q:St->Hp->Prop),zg K (n+k) G0 H0 G H (τ++List.replicate k none) (σ++List.replicate k none)->zY K G d v->fg d (τ++List.replicate k none)=some τ'->(∀ρ,zg K (n+k) G0 H0 G H τ' (σ++ρ)->Q (σ++ρ) H)->g v (σ++List.replicate k none) H Q)
  (fin:∀ys G H,zT Ga Ha G H->Reps K G out ys->out.length<=sizeLine->Fin ys H) :
  ∃W:Nat->Nat->List V->Hp->Prop,(∃m,W 0 m [] Ha)/\Xq σ k J g (QR K (n+k) ft) (Ln K (n+k) f) W Fin:=by
 refine⟨λi m ys H=>m=ds.length-i/\i<=ds.length/\ys.length<=i/\∃G done yj,zT Ga Ha G H/\Reps K G done ys/\wU fg ft f (τ++List.replicate k none) (ds.drop i)=some yj/\done++yj=out,⟨ds.length,rfl,xb _,zt _,Ga,[],out,zT.refl Ka.ext.gh,rfl,hf,rfl⟩,?_⟩;rintro i m ys H ⟨rfl,hle,hys,G,done,yj,x,rd,hf,eo⟩;by_cases hlt:i<ds.length
 ·refine .inr ⟨wk.go i G H x.g x.gh hlt,by omega,λys H=>ys.length<=i+1/\∃G done yj,zT Ga Ha G H/\Reps K G done ys/\wU fg ft f (τ++List.replicate k none) (ds.drop (i+1))=some yj/\done++yj=out,λys' H' z=>⟨ds.length-(i+1),by omega,rfl,hlt,z.1,z.2⟩,λv H' y=>?_⟩;obtain⟨G3,d,x3,ed,rv⟩:=wk.yld i G H v H' x.g x.gh hlt y;rw[VN hlt]at hf;rw[yZ hlt]at ed;cases ed;obtain⟨τ1,h1,hf⟩:=zM (show(fg _ _).bind _=_ from hf);obtain⟨kk,h2,hf⟩:=zM hf;have K3:=((Ka.go x).go x3).more k;refine kg G3 H' _ v τ1 _ K3 rv h1 λρ K4=>⟨⟨ρ,rfl⟩,_,_,_,_,kk,K4,h2,λG5 H5 x5=>?_⟩
  cases kk with
  |false=>exact jw ⟨by omega,G5,done,yj,x.trans (x3.trans x5),rd.mono (x3.g.trans x5.g),hf,eo⟩
  |true=>
   obtain⟨z,hz,hf⟩:=zM (show(f _).bind _=_ from hf);obtain⟨more,hm,hf⟩:=zM hf;cases hf;refine jx ⟨_,_,_,_,z,K4.go x5,hz,λu G6 H6 x6 r6=>⟨by rw[yD]; exact VX hys,G6,done++[z],more,x.trans (x3.trans (x5.trans x6)),(rd.mono (x3.g.trans (x5.g.trans x6.g))).append (Reps.one r6),hm,?_⟩⟩;rw[ql];exact eo
 ·have e:ds.drop i=[]:=Qo (by omega);rw[e]at hf;cases hf;rw[wW]at eo;subst eo;refine .inl ⟨wk.stop i G H x.g x.gh (by omega),fin ys G H x rd ?_⟩;rw[<-rd.length];omega
section
variable{X:Cx}{tg iter elt:Expr}{ifs:List Expr}{scope:Scope}{cl:List (Str×Addr)}{own:List Str}{pos:Pos}{fs:FA}{fg:FG}{ft:FT}{f:FE}{g:TG}
theorem LW{α:Type}(xs:List α)(y:α)(ys:List α){n:Nat}(h:n=xs.length)(z:α):(xs++y::ys).set n z=xs++z::ys:=by
 subst h;rw[Kg _ _ (zt _),VW];rfl
structure BG(X:Cx)(scope:Scope)(cl:List (Str×Addr))(own:List Str)(tg:Expr)(g:TG)(fg:FG):Prop where
 q:∀C s H fp pn,QG (wc X scope cl own C s H fp pn) tg g
 k:∀{G0 H0:Hp}{τ:zi}{σ:St},τ.length=X.N.length->σ.length=X.N.length->∀G H d v τ' (Q:St->Hp->Prop),zg X.K (X.N.length+own.length) G0 H0 G H (τ++List.replicate own.length none) (σ++List.replicate own.length none)->zY X.K G d v->fg d (τ++List.replicate own.length none)=some τ'->
  (∀ρ,zg X.K (X.N.length+own.length) G0 H0 G H τ' (σ++ρ)->Q (σ++ρ) H)->g v (σ++List.replicate own.length none) H Q
theorem vD{x:Str}{i:Nat}(q:∀C s H fp pn,QG (wc X scope cl [x] C s H fp pn) tg (vL i))(hi:i=X.N.length):BG X scope cl [x] tg (vL i) (zz i):=⟨q,λ{G0 H0 τ σ} l1 l2 G H d v τ' Q E r hf k=>by
 cases hf;have E':=E.set (i:=i) (v:=v) (by rw[hi]; exact ZG _) r;have es:(σ++List.replicate 1 none).set i (some v)=σ++[some v]:=LW σ none [] (hi.trans l2.symm) (some v);show Q ((σ++List.replicate 1 none).set i (some v)) H;rw[es];refine k [some v] ?_;rw[<-es];exact E'⟩
theorem XQ{x y:Str}{i j:Nat}(q:∀C s H fp pn,QG (wc X scope cl [x,y] C s H fp pn) tg (Zi X.K 2 (pA (vL i) (pA (vL j) Zh))))(hi:i=X.N.length)(hj:j=X.N.length+1):BG X scope cl [x,y] tg (Zi X.K 2 (pA (vL i) (pA (vL j) Zh))) (wL i j):=⟨q,λ{G0 H0 τ σ} l1 l2 G H d v τ' Q E r hf k=>by
 unfold wL at hf
 split at hf
 ·rename_i d1 d2;cases hf;obtain⟨a,vs,rfl,sq,⟨v1,r1,rfl,h1,⟨v2,r2,rfl,h2,h3⟩⟩,_⟩:=r;cases(show r2=[]from h3);have E':=(E.set (i:=i) (v:=v1) (by rw[hi]; exact Nat.lt_add_of_pos_right (Nat.succ_pos _)) h1).set (i:=j) (v:=v2) (by rw[hj]; exact ZG _) h2
  have es:((σ++List.replicate 2 none).set i (some v1)).set j (some v2)=σ++[some v1,some v2]:=by
   have e1:(σ++List.replicate 2 none).set i (some v1)=σ++[some v1,none]:=LW σ none [none] (hi.trans l2.symm) (some v1);rw[e1];have e2:σ++[some v1,none]=(σ++[some v1])++[none]:=by simp
   rw[e2,LW (σ++[some v1]) none [] (by rw[yD,hj,l2]; rfl) (some v2)];simp
  refine⟨a,_,rfl,uK E.ext.gh sq,rfl,v1,_,rfl,v2,_,rfl,rfl,?_⟩;show Q (((σ++List.replicate 2 none).set i (some v1)).set j (some v2)) H;rw[es];refine k [some v1,some v2] ?_;rw[<-es];exact E'
 ·cases hf⟩
theorem Bd(X:Cx)(own:List Str):(xV X.N own).length=X.N.length+own.length:=by
 unfold xV;rw[yD,zj]
theorem Bg{C:Addr}{s:Shared}{H:Hp}{fp:List Addr}{pn:List (Addr×Obj)}(h:SE (wc X scope cl own C s H fp pn) elt f):PE (wc X scope cl own C s H fp pn) elt (Ln X.K (X.N.length+own.length) f):=by
 have q:=h.pe;rw[show(wc X scope cl own C s H fp pn).N.length=X.N.length+own.length from Bd X own]at q;exact q
theorem Bh{C:Addr}{s:Shared}{H:Hp}{fp:List Addr}{pn:List (Addr×Obj)}(h:XF (wc X scope cl own C s H fp pn) ifs ft):gy (wc X scope cl own C s H fp pn) ifs (QR X.K (X.N.length+own.length) ft):=by
 have q:=h.h;rw[show(wc X scope cl own C s H fp pn).N.length=X.N.length+own.length from Bd X own]at q;exact q
theorem vH(hcalm:X.calm=true)(B:gZ X scope cl own)(hi:SI X tg iter fs)(hg:BG X scope cl own tg g fg)(hc:∀C s H fp pn,XF (wc X scope cl own C s H fp pn) ifs ft)
  (he:∀C s H fp pn,SE (wc X scope cl own C s H fp pn) elt f)(hs:∀x,foldedSetIterable iter X.env x=pure x:=by intro _; rfl) :
  SF X (.ListComp elt [⟨tg,iter,ifs,0⟩] scope pos) (xr own.length fs fg ft f):=by
 obtain⟨ti,pi,ki⟩:=hi.h;refine⟨⟨_,bX hcalm B pi (λC s H fp pn=>(hg.q C s H fp pn).h) (λC s H fp pn=>Bh (hc C s H fp pn)) (λC s H fp pn=>Bg (he C s H fp pn)) hs,λ{G0 H0 G H τ σ d Q} K hf q=>?_⟩⟩;obtain⟨ds,hd,hf⟩:=zM hf;obtain⟨out,ho,hf⟩:=zM hf;cases hf;refine ki K hd λJ Ga Ha xa l wk=>Fn wk l (K.go xa) ho (hg.k K.l2 K.l1) λys G1 H1 x1 r1 l1 p hp=>?_
 exact q p _ _ (xa.trans (x1.trans (zT.layO x1.gh hp))) (xa.h.free (x1.h.free hp)) (x1.gh.free hp) ⟨ys,xJ,r1,l1⟩
theorem QJ{i:Nat}{x:Str}{px spos:Pos}(hcalm:X.calm=true)(hN:X.N.Nodup)(hix:X.N[i]?=some x)(hx:X.env.scope.names.lookup x=some .local)(B:gZ X scope cl own)
  (hsw:swapsWith (.ListComp elt [⟨tg,iter,ifs,0⟩] scope pos) (some (.Name x px)) spos.line X.env=pure true)(hi:SI X tg iter fs)(hg:BG X scope cl own tg g fg)(hc:∀C s H fp pn,XF (wc X scope cl own C s H fp pn) ifs ft)
  (he:∀C s H fp pn,SE (wc X scope cl own C s H fp pn) elt f)(hs:∀x,foldedSetIterable iter X.env x=pure x:=by intro _; rfl) :
  SS X (.Assign [.Name x px] (.ListComp elt [⟨tg,iter,ifs,0⟩] scope pos) spos) (zb i (xr own.length fs fg ft f)):=by
 obtain⟨ti,pi,ki⟩:=hi.h;refine⟨⟨_,G8 hcalm hN hix hx B hsw pi (λC s H fp pn=>(hg.q C s H fp pn).h) (λC s H fp pn=>Bh (hc C s H fp pn)) (λC s H fp pn=>Bg (he C s H fp pn)) hs,λ{G0 H0 G H τ σ fl E} K hf q=>?_⟩⟩;obtain⟨d,hf1,hf⟩:=zM hf;cases hf;obtain⟨ds,hd,hf1⟩:=zM hf1;obtain⟨out,ho,hf1⟩:=zM hf1;cases hf1;refine ki K hd λJ Ga Ha xa l wk=>Fn wk l (K.go xa) ho (hg.k K.l2 K.l1) λys G1 H1 x1 r1 l1 p hp=>?_
 have K2:=((K.go xa).go x1).go (zT.lay (o:=.lst ys) x1.gh hp);exact q _ _ _ (K2.set (yM.mp hix).1 ⟨p,ys,rfl,yG.of xJ,r1.mono (v7 (x1.gh.free hp) _),l1⟩)
end
section
variable{K:W.Frag}{n:Nat}{G0 H0 G H:Hp}{τ:zi}{σ:St}
theorem zg.mut{i:Nat}{d d':D}{p:Addr}{o:HO}(E:zg K n G0 H0 G H τ σ)(hi:τ[i]?=some (some (true,d)))(hp:σ[i]?=some (some (.ref p)))(new:uC K G (ze H p o) d' p):zg K n G0 H0 G (ze H p o) (τ.set i (some (true,d'))) σ:=by
 obtain⟨p',e,g,z,_⟩:=E.ow i d hi;rw[hp]at e;cases e
 have keep:∀{H1:Hp},H1 p=none->zx H1 H->zx H1 (ze H p o):=λ{H1} h s b u q=>by
  rw[ym (uF q h)];exact s _ _ q
 refine⟨⟨E.ext.g,keep z E.ext.h,keep g E.ext.gh,E.ext.new⟩,E.l1,by rw[u7]; exact E.l2,λj e h=>?_,λj e h=>?_,λj k e f q hne h1 h2 h3 h4=>?_⟩
 ·rcases wQ h with⟨rfl,w⟩|⟨ne,w⟩
  ·cases w
  ·exact E.fr j e w
 ·rcases wQ h with⟨rfl,w⟩|⟨ne,w⟩
  ·cases w;exact⟨p,hp,g,z,new⟩
  ·obtain⟨q,eq,gq,zq,oq⟩:=E.ow j e w;refine⟨q,eq,gq,zq,?_⟩
   have hne:q≠p:=λc=>by
    subst c;exact E.ap i j d e q (λc=>ne c.symm) hi w hp eq
   cases e with
   |lst ds=>obtain⟨vs,ev,r⟩:=oq; exact⟨vs,by rw[ym hne]; exact ev,r⟩
   |dic ks ds=>obtain⟨vs,ev,r⟩:=oq; exact⟨vs,by rw[ym hne]; exact ev,r⟩
   |_=>exact oq.elim
 ·have t:∀{j:Nat}{e:D},(τ.set i (some (true,d')))[j]?=some (some (true,e))->∃e,τ[j]?=some (some (true,e)):=λ{j e} h=>by
   rcases wQ h with⟨rfl,_⟩|⟨_,w⟩
   ·exact⟨_,hi⟩
   ·exact⟨_,w⟩
  obtain⟨e1,w1⟩:=t h1;obtain⟨e2,w2⟩:=t h2;exact E.ap j k e1 e2 q hne w1 w2 h3 h4
end
section
variable{X:Cx}{x:Str}{xp pos apos cpos:Pos}{e:Expr}{f:FE}
theorem qJ{i:Nat}(ho:QE X (.Name x xp) (vf i))(he:SE X e f)(hbase:attributeBase (.Name x xp) "append" X.env (eval (.Name x xp) X.env)=eval (.Name x xp) X.env:=by rfl)(hline:(apos.endLine==cpos.line)=true:=by rfl)(hs:xM e=true:=by rfl) :
  SS X (.Expr (.Call (.Attribute (.Name x xp) "append" apos) [e] [] cpos) pos) (vN i vE f):=by
 obtain⟨t,p,k⟩:=(zG he zN hs).h;refine⟨⟨_,(W9 (YF PySem.F.plainAttrs_list PySem.F.slot_list_append PySem.F.type_list_append C2 ho ⟨p⟩ hbase hline (by rw[xz,hs]; rfl) (by show 1<30; decide)) rfl).h,λ{G0 H0 G H τ σ fl E} K hf q=>?_⟩⟩;unfold vN at hf
 split at hf
 ·rename_i d hd;obtain⟨y,hy,hf⟩:=zM hf;obtain⟨d',hd',hf⟩:=zM hf;cases hf;obtain⟨a,ea,g,z,o⟩:=K.ow _ _ hd;cases d with
  |lst ds=>
   obtain⟨vs,ev,rs,l⟩:=o;refine⟨_,ea,.inl ⟨rfl,vs,yG.of ev⟩,k K (ds:=[y]) (by unfold zC; rw[hy]; rfl) λus G1 H1 x1 r1=>?_⟩;obtain⟨u,r,rfl,hu,hr⟩:=r1;cases(show r=[]from hr)
   change (if ds.length<yK then some (D.lst (ds++[y]))else none)=some d' at hd'
   by_cases c:ds.length<yK
   ·rw[zK c]at hd';cases hd';refine⟨a,vs,u,rfl,rfl,x1.h _ _ ev,by rw[rs.length,w8]; exact c,?_⟩;refine q _ _ _ ((K.go x1).mut hd ea ⟨vs++[u],xJ,(rs.mono x1.g).append (Reps.one hu),?_⟩);rw[yD,w8];exact c
   ·rw[zL c]at hd';cases hd'
  |_=>cases hd'
 ·cases hf
end
section
variable{P:Program}{w:World}{K:W.Frag}{mg:Str->Option Value}{base:Heap}
theorem OL{α β:Type}{ds:List α}{k i:Nat}{h:α->Option β}{y:β}(e:(ds.map h++List.replicate k none)[i]?=some (some y)):∃d,ds[i]?=some d/\h d=some y:=by
 have e':=T5 e;rw[xC]at e';cases q:ds[i]? with
 |none=>rw[q]at e'; cases e'
 |some d=>
  rw[q]at e';exact⟨d,rfl,wz e'⟩
theorem DO{N:List Str}{G H:Hp}{ds:List D}{vs:List V}(s:zx G H)(r:Reps K G ds vs)(hl:ds.length<=N.length):zg K N.length G H G H (ds.map (λd=>some (false,d))++List.replicate (N.length-ds.length) none) (L2.start N vs):=by
 have l:=r.length;refine⟨zT.refl s,?_,?_,λi d h=>?_,λi d h=>?_,λi j d e p _ h1=>?_⟩
 ·unfold L2.start;rw[yD,zj,t6];omega
 ·rw[yD,zj,t6];omega
 ·obtain⟨d',e,z⟩:=OL h;cases z;obtain⟨v,ev,rv⟩:=r.get e;refine⟨v,?_,rv⟩;unfold L2.start;rw[gS (by rw[zj]; exact(yM.mp ev).1),xC,ev];rfl
 ·obtain⟨d',e,z⟩:=OL h;cases z
 ·obtain⟨d',e,z⟩:=OL h1;cases z
theorem zP.okS{x:Str}{st:Stmt}{N ps:List Str}{k:Nat}{F:List D->Option (Bool×D)}{b:FS}(d:zP K mg x st ps)(S:yS N ps (yB st))(hN:ps.length<=N.length)(hF:∀ds r,F ds=some r->ds.length=ps.length/\zh N.length b ds=some r)
  (hb:∀(f:Addr)(cdv:Value)(A:Around)(outer:List Env)(s:Shared)(H:Hp)(E:XK),xX k (A.deeper (envOfC x (yB st) s.heap.objs.size f cdv))->uR (j9 ui P w K mg base N x (yB st) f cdv A outer s H E).nox (p6 st) b):zU P w K mg base x ps (k+1) (zV K F):=by
 refine d.ok S (λvs H Q E h=>?_) λf cdv A outer s H vs Q E hr h=>?_
 ·obtain⟨G,ds,o,dd,_,r,e,_⟩:=h;rw[r.length,(hF _ _ e).1]
 ·obtain⟨G,ds,o,dd,s',r,e,q⟩:=h;obtain⟨l,hrun⟩:=hF _ _ e;obtain⟨t,p,kt⟩:=(hb f cdv A outer s H E hr).h;obtain⟨fl,hfl,hrun⟩:=zM hrun;refine⟨t,p,kt (DO (N:=N) s' r (by omega)) hfl ?_⟩;cases fl with
  |nx τ=>
   cases hrun;exact λσ G' H' z=>q .non G' H' z.ext rfl
  |rt o' d'=>
   cases hrun;cases o with
   |false=>exact q
   |true=>exact q
  |_=>cases hrun
end
section
variable{P:Program}{w:World}{K:W.Frag}{mg:Str->Option Value}{base:Heap}
end
section
variable{X:Cx}{K:W.Frag}
theorem Y9{C:Int->Int->Prop}{Cb:Int->Int->Bool}{g:Int->Int->Int}(h:∀i j,Cb i j=true->C i j):uB K (rI C λi j=>.int (g i j)) (fI Cb g):=λG H x y u v d Q s rx ry hf q=>by
 cases x<;>first|(cases hf; done)|skip
 cases y<;>first|(cases hf; done)|skip
 rename_i i j
 change (match Cb i j with|true=>some (D.int (g i j))|false=>none)=some d at hf
 cases c:Cb i j with
 |false=>rw[c]at hf; cases hf
 |true=>
  rw[c]at hf;cases hf;exact⟨i,j,rx,ry,h i j c,q _ _ _ (zT.refl s) rfl⟩
theorem qc{g:Int->Int->Int}:uB K (tU λi j=>.int (g i j)) (vb g):=λG H x y u v d Q s rx ry hf q=>by
 cases x<;>first|(cases hf; done)|skip
 cases y<;>first|(cases hf; done)|skip
 cases hf;exact⟨_,_,rx,ry,q _ _ _ (zT.refl s) rfl⟩
theorem Eb:uB K (tU λi j=>.int (i-j)) T3:=λG H x y u v d Q s rx ry hf q=>by
 cases x<;>first|(cases hf; done)|skip
 cases y<;>first|(cases hf; done)|skip
 cases hf;exact⟨_,_,rx,ry,q _ _ _ (zT.refl s) rfl⟩
theorem Fz{i:Int}(h:g8 i=true) : -(2 ^ 64)<i/\i<2 ^ 64:=by
 unfold g8 at h;rw[xB]at h;exact⟨vQ h.1,vQ h.2⟩
theorem EZ:uB K (rI X8 λi j=>.int (i*j)) U_:=Y9 λ_ _ h=>.inl (Fz h)
theorem Ea:uB K (rI X8 λi j=>.int (i*j)) T2:=Y9 λ_ _ h=>.inr (Fz h)
theorem xi:uB K (rI (λ_ j=>0<j) λi j=>.int (i%j)) xN:=Y9 λ_ _ h=>vQ h
theorem uX:uB K (rI (λ_ j=>0<j/\j<2 ^ 64) λi j=>.int (i/j)) vF:=Y9 λ_ _ h=>by
 rw[xB]at h;exact⟨vQ h.1,vQ h.2⟩
theorem cG{i j:Int}(h:YC i j=true):J7 i j:=by
 unfold YC at h;rw[xB,xB]at h;exact⟨vQ h.1,vQ h.2.1,vQ h.2.2⟩
theorem W1:uB K (rI J7 λi j=>.int (i*2 ^ j.toNat)) kG:=Y9 λ_ _ h=>cG h
theorem qd{g:Int->Int->Bool}:tz K (tU λi j=>.bl (g i j)) (uE g):=λH x y u v d Q rx ry hf=>by
 cases x<;>first|(cases hf; done)|skip
 cases y<;>first|(cases hf; done)|skip
 cases hf;exact⟨_,rfl,λq=>⟨_,_,rx,ry,q⟩⟩
theorem Dx{H:Hp}{x:D}{u:V}(r:zY K H x u):jv x=decide (u=.non):=by
 cases x with
 |non=>cases r; rfl
 |bl b=>cases r; rfl
 |int b=>cases r; rfl
 |str b=>obtain⟨rfl,_⟩:=r; rfl
 |tup b=>obtain⟨a,vs,rfl,_⟩:=r; rfl
 |lst b=>obtain⟨a,vs,rfl,_⟩:=r; rfl
 |dic b c=>obtain⟨a,vs,rfl,_⟩:=r; rfl
theorem EY:tz K (λx y H Q=>y=.non/\Q (.bl (decide (x=.non))) H) kE:=λH x y u v d Q rx ry hf=>by
 cases y<;>first|(cases hf; done)|skip
 have e:=Dx rx;refine⟨jv x,(wz hf).symm,λq=>⟨ry,?_⟩⟩;rw[<-e];exact q
theorem aS:tz K (λx y H Q=>y=.non/\Q (.bl (!decide (x=.non))) H) Jw:=λH x y u v d Q rx ry hf=>by
 cases y<;>first|(cases hf; done)|skip
 have e:=Dx rx;refine⟨!jv x,(wz hf).symm,λq=>⟨ry,?_⟩⟩;rw[<-e];exact q
theorem k_:∀(G H:Hp) x u d (Q:VK),zY K G x u->jA x=some d->∃w,(∀G,zY K G d w)/\(Q w H->rU (λi=>.int (-i)) u H Q):=λG H x u d Q r hf=>by
 cases x<;>first|(cases hf; done)|skip
 cases hf;exact⟨_,λ_=>rfl,λq=>⟨_,r,q⟩⟩
theorem rX:∀(G H:Hp) x u d (Q:VK),zY K G x u->Uz x=some d->∃w,(∀G,zY K G d w)/\(Q w H->rU (λi=>.int (Builtin.bitNot i)) u H Q):=λG H x u d Q r hf=>by
 cases x<;>first|(cases hf; done)|skip
 cases hf;exact⟨_,λ_=>rfl,λq=>⟨_,r,q⟩⟩
def GM(K:W.Frag):R2:=λx y H Q=>∃l b xs zs,x=.ref l/\y=.ref b/\yG K H l xs/\yG K H b zs/\xs.length+zs.length<=sizeLine/\∀p,H p=none->Q (.ref p) (ze H p (.lst (xs++zs)))
theorem Ef:yT X (binaryOp .Add) (GM X.K):=by
 intro z8 s σ H x y v u Q I rx ry h;obtain⟨l,b,xs,zs,rfl,rfl,hl,hb,hz,q⟩:=h;cases rx;cases ry;obtain⟨its,r1,p1,_⟩:=I.list hl;obtain⟨its2,r2,p2,_⟩:=I.list hb;obtain⟨⟨c1,d1,t1,sl1⟩,n1,ho1,hc1,hd1,ht1⟩:=p1;obtain⟨⟨c2,d2,t2,sl2⟩,n2,ho2,hc2,hd2,ht2⟩:=p2;simp only at hc1 ht1 hc2 ht2;subst hc1 ht1 hc2 ht2
 refine concat_meets ⟨_,ho1,rfl⟩ ⟨_,ho2,rfl⟩ noFill_list_add seq_list_add PySem.F.slot_list_add PySem.F.entry_list_add (PySem.F.args_list_add_2 _ _)
  (list_addW l b its.toArray its2.toArray n1 n2 d1 d2 sl1 sl2 (by rw[ya,ya,<-r1.length,<-r2.length]; exact hz)) ⟨ho1,ho2,?_⟩
 rw[show its.toArray++its2.toArray=(its++its2).toArray by simp];exact⟨.ref _,_,I.lnew (t':=s.toks) (r1.append r2) (by rw[yD]; exact hz),rfl,q _ I.fresh⟩
def GK(K:W.Frag):R2:=λx y H Q=>tU (λi j=>.int (i+j)) x y H Q\/(∃i k,x=.int i/\y=.bl k/\Q (.int (i+b2i k)) H)\/(∃i j,x=.str i/\y=.str j/\i.length+j.length<=sizeLine/\Q (.str (i++j)) H)\/GM K x y H Q\/GN K x y H Q
theorem wH:yT X (binaryOp .Add) (GK X.K):=ak.or (am.or (ao.or (Ef.or aq)))
theorem wE:uB K (GK K) xS:=λG H x y u v d Q s rx ry hf q=>by
 cases x<;>cases y<;>first|(cases hf; done)|skip
 ·rename_i i b;cases rx;cases ry;cases hf;refine .inr (.inl ⟨i,b,rfl,rfl,?_⟩);have e:i+b2i b=i+(if b then 1 else 0):=by cases b<;>rfl
  rw[e];exact q _ _ _ (zT.refl s) rfl
 ·cases hf;exact .inl ⟨_,_,rx,ry,q _ _ _ (zT.refl s) rfl⟩
 ·rename_i i j;obtain⟨rfl,l1⟩:=rx;obtain⟨rfl,l2⟩:=ry
  change (if i.length+j.length<=yK then _ else _)=_ at hf
  by_cases c:i.length+j.length<=yK
  ·rw[zK c]at hf;cases hf;have c':i.length+j.length<=sizeLine:=by rw[w8]; exact c
   exact .inr (.inr (.inl ⟨i,j,rfl,rfl,c',q _ _ _ (zT.refl s) ⟨rfl,by rw[strLen_append]; exact c'⟩⟩))
  ·rw[zL c]at hf;cases hf
 ·rename_i xs ys;obtain⟨a,vs,rfl,sa,ra,_⟩:=rx;obtain⟨b,us,rfl,sb,rb,_⟩:=ry
  change (if xs.isEmpty=false/\xs.length+ys.length<=yK then _ else _)=_ at hf
  by_cases c0:xs.isEmpty=false/\xs.length+ys.length<=yK
  ·rw[zK c0]at hf;have c:=c0.2;cases hf;have c':(xs++ys).length<=sizeLine:=by rw[w8,yD]; exact c
   have hx:vs≠[]:=λe=>by
    have l:=ra.length;rw[e]at l;cases xs with
    |nil=>cases c0.1
    |cons=>cases l
   ·refine .inr (.inr (.inr (.inr ⟨a,b,vs,us,rfl,rfl,uK s sa,uK s sb,hx,by rw[ra.length,rb.length,w8]; exact c,λe=>?_,λe p hp=>?_⟩)))
    ·subst e
     have e2:ys=[]:=by
      cases ys with
      |nil=>rfl
      |cons=>obtain⟨_,_,z,_⟩:=rb; cases z
     subst e2;exact q _ _ _ (zT.refl s) ⟨a,vs,rfl,sa,by rw[wW]; exact ra,c'⟩
    ·exact q _ _ _ (zT.lay s hp) ⟨p,vs++us,rfl,xE.of xJ,(ra.append rb).mono (v7 (s.free hp) _),c'⟩
  ·rw[zL c0]at hf;cases hf
 ·rename_i xs ys;obtain⟨a,vs,rfl,sa,ra,_⟩:=rx;obtain⟨b,us,rfl,sb,rb,_⟩:=ry
  change (if xs.length+ys.length<=yK then _ else _)=_ at hf
  by_cases c:xs.length+ys.length<=yK
  ·rw[zK c]at hf;cases hf;have c':(xs++ys).length<=sizeLine:=by rw[w8,yD]; exact c
   refine .inr (.inr (.inr (.inl ⟨a,b,vs,us,rfl,rfl,v8 s sa,v8 s sb,by rw[ra.length,rb.length,w8]; exact c,λp hp=>?_⟩)));exact q _ _ _ (zT.lay s hp) ⟨p,vs++us,rfl,yG.of xJ,(ra.append rb).mono (v7 (s.free hp) _),c'⟩
  ·rw[zL c]at hf;cases hf
theorem N3{α:Type}{xs:List α}{i:Int}{x:α}(h:uT xs i=some x):∃j:Nat,xs[j]?=some x/\∀{β:Type}(ys:List β),ys.length=xs.length->uT ys i=ys[j]?:=by
 unfold uT at h;cases e:ixN xs.length i with
 |none=>rw[e]at h; cases h
 |some j=>
  rw[e]at h;exact⟨j,h,λys l=>by unfold uT; rw[l,e]; rfl⟩
theorem BP{α:Type}(xs:List α)(i:Int):uT xs i=vm xs i:=by
 unfold uT vm ixN;by_cases h:0<=i
 ·rw[zK h,zK h];by_cases h2:i<xs.length
  ·rw[zK h2]; rfl
  ·rw[zL h2];exact(wo (by omega)).symm
 ·rw[zL h,zL h]
  split<;>rfl
theorem LE{H:Hp}{ds:List D}{vs:List V}{i:Int}{d:D}(r:Reps K H ds vs)(h:vm ds i=some d):∃v,uT vs i=some v/\zY K H d v:=by
 rw[<-BP]at h;obtain⟨j,e,k⟩:=N3 h;obtain⟨v,ev,rv⟩:=r.get e;exact⟨v,by rw[k vs r.length]; exact ev,rv⟩
def PN:D->D->Option D
 |.lst xs,.int i=>vm xs i
 |.tup xs,.int i=>vm xs i
 |.str z,.int i=>(vm z.cps.toList i).bind λc=>some (.str ⟨#[c]⟩)
 |_,_=>none
theorem Od:uB K (LC K) PN:=λG H x y u v d Q s rx ry hf q=>by
 cases x<;>first|(cases hf; done)|skip
 all_goals (cases y<;>first|(cases hf; done)|skip)
 ·rename_i z i;obtain⟨rfl,l⟩:=rx;cases ry;obtain⟨c,hc,hf⟩:=zM hf;cases hf;rw[<-BP]at hc;exact .inr (.inr ⟨z,i,c,rfl,rfl,l,hc,q _ _ _ (zT.refl s) ⟨rfl,small (n:=1) (by decide)⟩⟩)
 ·rename_i xs i;obtain⟨a,vs,rfl,sa,ra,_⟩:=rx;cases ry;obtain⟨w,hw,rw_⟩:=LE ra hf;exact .inr (.inl ⟨a,vs,i,w,rfl,rfl,uK s sa,hw,q _ _ _ (zT.refl s) rw_⟩)
 ·rename_i xs i;obtain⟨a,vs,rfl,sa,ra,_⟩:=rx;cases ry;obtain⟨w,hw,rw_⟩:=LE ra hf;exact .inl ⟨a,vs,i,w,rfl,rfl,v8 s sa,hw,q _ _ _ (zT.refl s) rw_⟩
theorem wZ:wr X (.builtin "len") (λxs H Q=>(∃p ys,xs=[.ref p]/\(yG X.K H p ys\/xE X.K H p ys)/\Q (.int ys.length) H)\/∃z,xs=[.str z]/\z.length<=sizeLine/\Q (.int z.length) H):=NV.or NW
theorem we:JG K (λxs H Q=>(∃p ys,xs=[.ref p]/\(yG K H p ys\/xE K H p ys)/\Q (.int ys.length) H)\/∃z,xs=[.str z]/\z.length<=sizeLine/\Q (.int z.length) H) xW:=λG H ds vs d Q s r hf q=>by
 match ds,hf with
 | [.lst xs],hf=>
  cases hf;obtain⟨v,r',rfl,⟨a,us,rfl,sq,ru,_⟩,h2⟩:=r;cases(show r'=[]from h2);exact .inl ⟨a,us,rfl,.inl sq,by rw[ru.length]; exact q _ _ _ (zT.refl s) rfl⟩
 | [.tup xs],hf=>
  cases hf;obtain⟨v,r',rfl,⟨a,us,rfl,sq,ru,_⟩,h2⟩:=r;cases(show r'=[]from h2);exact .inl ⟨a,us,rfl,.inr sq,by rw[ru.length]; exact q _ _ _ (zT.refl s) rfl⟩
 | [.str z],hf=>
  cases hf;obtain⟨v,r',rfl,⟨rfl,l⟩,h2⟩:=r;cases(show r'=[]from h2);exact .inr ⟨z,rfl,l,q _ _ _ (zT.refl s) rfl⟩
end
theorem B_:∀xs ys:List D,(((List.range (min xs.length ys.length)).all λj=>zk (xs.getD j .non) (ys.getD j .non))&&xs.length==ys.length)=dEqs xs ys
 | [],[]=>rfl
 | [],_::_=>rfl
 |_::_,[]=>rfl
 |x::xs,y::ys=>by
  have ih:=B_ xs ys;show _=(zk x y&&dEqs xs ys);rw[<-ih,xK,xK,Nat.succ_min_succ,List.range_succ_eq_map,xz,List.all_map,Bool.and_assoc]
  congr 1
  congr 1
  rw[Yi];simp
theorem Bt{f:D->D->Bool}:∀{xs ys:List D},uU f xs ys=true->∀(j:Nat) x y,xs[j]?=some x->ys[j]?=some y->f x y=true
 | [],_,_,j,x,y,e,_=>by cases e
 |x::xs,[],_,j,_,y,_,e=>by cases e
 |x::xs,y::ys,h,0,_,_,e1,e2=>by
  cases e1;cases e2;have h':(f x y&&uU f xs ys)=true:=h;rw[xB]at h';exact h'.1
 |x::xs,y::ys,h,j+1,a,b,e1,e2=>by
  have h':(f x y&&uU f xs ys)=true:=h;rw[xB]at h';exact Bt h'.2 j a b (by simpa using e1) (by simpa using e2)
section
variable{X:Cx}{z8:List (Addr×Obj)}{σ:St}{H:Hp}{s:Shared}{K:W.Frag}
theorem Jl{n:Nat}(ih:∀d1 d2 v,wb n d1 d2=true->zY K H d1 v->zY K H d2 v->zk d1 d2=true):∀{xs ys:List D}{vs:List V},uU (wb n) xs ys=true->Reps K H xs vs->Reps K H ys vs->dEqs xs ys=true
 | [],[],_,_,_,_=>rfl
 | [],_::_,_,_,r1,r2=>by
  cases(show _=[]from r1);obtain⟨_,_,e,_⟩:=r2;cases e
 |_::_,[],_,_,r1,r2=>by
  cases(show _=[]from r2);obtain⟨_,_,e,_⟩:=r1;cases e
 |x::xs,y::ys,_,h,r1,r2=>by
  obtain⟨v,r,rfl,a,b⟩:=r1;obtain⟨v',r',e,a',b'⟩:=r2;cases e;have h':(wb n x y&&uU (wb n) xs ys)=true:=h;rw[xB]at h';show(zk x y&&dEqs xs ys)=true;rw[ih x y v h'.1 a a',Jl ih h'.2 b b'];rfl
theorem Jc{n:Nat}{x y:D}(h:wb (n+1) x y=true):(∃xs ys,x=.tup xs/\y=.tup ys/\uU (wb n) xs ys=true)\/(∃xs ys,x=.lst xs/\y=.lst ys/\uU (wb n) xs ys=true)\/(xF x=true/\xF y=true):=by
 unfold wb at h
 split at h
 ·exact .inl ⟨_,_,rfl,rfl,h⟩
 ·exact .inr (.inl ⟨_,_,rfl,rfl,h⟩)
 ·rw[xB]at h;exact .inr (.inr h)
theorem kf{d:D}{v:V}(h:xF d=true)(r:zY K H d v):tM v=true:=by
 cases d<;>first|exact absurd h yR|skip
 ·cases(show v=_ from r); rfl
 ·cases(show v=_ from r); rfl
 ·cases(show v=_ from r); rfl
 ·cases(show v=_/\_ from r).1; rfl
theorem WC{d1 d2:D}{x y:V}(h1:xF d1=true)(h2:xF d2=true)(r1:zY K H d1 x)(r2:zY K H d2 y):uV x y=zk d1 d2:=by
 cases d1<;>first|exact absurd h1 yR|skip
 all_goals (cases d2<;>first|exact absurd h2 yR|skip)
 all_goals first
  |(cases(show x=_ from r1); cases(show y=_ from r2); rfl)
  |(cases(show x=_ from r1); cases(show y=_/\_ from r2).1; rfl)
  |(cases(show x=_/\_ from r1).1; cases(show y=_ from r2); rfl)
  |(cases(show x=_/\_ from r1).1; cases(show y=_/\_ from r2).1; rfl)
theorem Ux(I:Inv X z8 σ H s):∀(n:Nat)(d1 d2:D)(v:V),wb n d1 d2=true->zY X.K H d1 v->zY X.K H d2 v->zk d1 d2=true
 |0,_,_,_,h,_,_=>by cases h
 |n+1,d1,d2,v,h,r1,r2=>by
  rcases Jc h with⟨xs,ys,rfl,rfl,h⟩|⟨xs,ys,rfl,rfl,h⟩|⟨f1,f2⟩
  ·obtain⟨a,vs,rfl,s1,q1,_⟩:=r1;obtain⟨a',us,e,s2,q2,_⟩:=r2;cases e;cases I.tuple_inj s1 s2;exact Jl (λd1 d2 v=>Ux I n d1 d2 v) h q1 q2
  ·obtain⟨a,vs,rfl,s1,q1,_⟩:=r1;obtain⟨a',us,e,s2,q2,_⟩:=r2;cases e;cases I.list_inj s1 s2;exact Jl (λd1 d2 v=>Ux I n d1 d2 v) h q1 q2
  ·rw[<-WC f1 f2 r1 r2];exact PB (kf f1 r1)
theorem DY{α:Type}{xs:List α}{j:Nat}{x d:α}(h:xs[j]?=some x):xs.getD j d=x:=by rw[x_,h]; rfl
theorem Q2{A:Around}{n:Nat}{a c:Addr}{xs ys:List D}{vs us:List V}(I:Inv X z8 σ H s)(hu:A.units<cLine)(hq:BJ X.K H a c vs us)(q1:Reps X.K H xs vs)(q2:Reps X.K H ys us)(h:uU (wb n) xs ys=true)
  (ih:∀(d1 d2:D)(x y:V)(u v:Value),wb n d1 d2=true->zY X.K H d1 x->zY X.K H d2 y->zr x u->zr y v->SeqAt.EqAt A.in1 s u v (zk d1 d2)):SeqAt.RcAt A s (.ref a) (.ref c) (dEqs xs ys)/\SeqAt.RcNeAt A s (.ref a) (.ref c) (!dEqs xs ys):=by
 have z:=dG (A:=A) (e:=λj=>zk (xs.getD j .non) (ys.getD j .non)) I hu hq λj x' y' u' v' e1 e2 w1 w2=>by
  obtain⟨d1,g1,t1⟩:=q1.at e1;obtain⟨d2,g2,t2⟩:=q2.at e2;show SeqAt.EqAt A.in1 s u' v' (zk (xs.getD j .non) (ys.getD j .non));rw[DY g1,DY g2];exact ih d1 d2 x' y' u' v' (Bt h j d1 d2 g1 g2) t1 t2 w1 w2
 rw[q1.length,q2.length,B_]at z;exact z
theorem Uw(I:Inv X z8 σ H s):∀(n:Nat)(A:Around)(d1 d2:D)(x y:V)(u v:Value),A.units+n<cLine->wb n d1 d2=true->zY X.K H d1 x->zY X.K H d2 y->zr x u->zr y v->SeqAt.EqAt A s u v (zk d1 d2)
 |0,_,_,_,_,_,_,_,_,h,_,_,_,_=>by cases h
 |n+1,A,d1,d2,x,y,u,v,hu,h,r1,r2,rx,ry=>by
  have h0:=h;have ra:=r1;have rb:=r2;rcases Jc h with⟨xs,ys,rfl,rfl,h⟩|⟨xs,ys,rfl,rfl,h⟩|⟨f1,f2⟩
  ·obtain⟨a,vs,rfl,s1,q1,l1⟩:=r1;obtain⟨c,us,rfl,s2,q2,l2⟩:=r2;cases(show u=Value.ref a from rx);cases(show v=Value.ref c from ry);by_cases hac:a=c
   ·subst hac;rw[Ux I (n+1) _ _ _ h0 ra rb];exact Mw _
   ·exact SeqAt.EqAt.of_refs hac (Q2 I (by omega) (.inl ⟨s1,s2⟩) q1 q2 h λd1 d2 x y u v hh t1 t2 w1 w2=>Uw I n A.in1 d1 d2 x y u v (by rw[TD]; omega) hh t1 t2 w1 w2).1
  ·obtain⟨a,vs,rfl,s1,q1,l1⟩:=r1;obtain⟨c,us,rfl,s2,q2,l2⟩:=r2;cases(show u=Value.ref a from rx);cases(show v=Value.ref c from ry);by_cases hac:a=c
   ·subst hac;rw[Ux I (n+1) _ _ _ h0 ra rb];exact Mw _
   ·exact SeqAt.EqAt.of_refs hac (Q2 I (by omega) (.inr ⟨s1,s2⟩) q1 q2 h λd1 d2 x y u v hh t1 t2 w1 w2=>Uw I n A.in1 d1 d2 x y u v (by rw[TD]; omega) hh t1 t2 w1 w2).1
  ·rw[<-WC f1 f2 r1 r2];exact DP rx ry (kf f1 r1) (kf f2 r2)
end
def WA(K:W.Frag)(neg:Bool):R2:=λx y H Q=>∃d1 d2 k,zY K H d1 x/\zY K H d2 y/\p8 d1 d2=some k/\Q (.bl (if neg then !k else k)) H
theorem yg{A:Around}{k:Nat}(hr:xX k A):A.units+7<cLine:=Mq (Ki (by decide:7<=64) _) hr.units
section
variable{X:Cx}{K:W.Frag}
theorem Jo{d1 d2:D}{k:Bool}(h:p8 d1 d2=some k):wb 6 d1 d2=true/\k=zk d1 d2:=by
 unfold p8 at h
 split at h
 ·cases h
 ·cases h
 ·split at h
  ·rename_i e;cases h;exact⟨e,rfl⟩
  ·cases h
theorem Gy{H:Hp}{d1 d2:D}{x y:V}{k:Bool}(h:p8 d1 d2=some k)(h1:xF d1=true)(h2:xF d2=true)(r1:zY K H d1 x)(r2:zY K H d2 y):LT x y=true/\decide (x=y)=k:=by
 obtain⟨_,e⟩:=Jo h;subst e;cases d1<;>first|exact absurd h1 yR|skip
 all_goals (cases d2<;>first|exact absurd h2 yR|(cases h; done)|skip)
 all_goals first
  |(cases(show x=_ from r1); cases(show y=_ from r2); exact⟨rfl,by first|rfl|exact Jf|exact Je⟩)
  |(cases(show x=_ from r1); cases(show y=_/\_ from r2).1; exact⟨rfl,rfl⟩)
  |(cases(show x=_/\_ from r1).1; cases(show y=_ from r2); exact⟨rfl,rfl⟩)
  |(cases(show x=_/\_ from r1).1; cases(show y=_/\_ from r2).1; exact⟨rfl,Jg⟩)
theorem DR{z8:List (Addr×Obj)}{σ:St}{H:Hp}{s:Shared}{A:Around}{d1 d2:D}{x y:V}{u v:Value}(I:Inv X z8 σ H s)(hu:A.units+7<cLine)(h:wb 6 d1 d2=true)(hf:¬ (xF d1&&xF d2)=true)(r1:zY X.K H d1 x)(r2:zY X.K H d2 y)(rx:zr x u)(ry:zr y v) :
  SeqAt.RcAt A s u v (zk d1 d2)/\SeqAt.RcNeAt A s u v (!zk d1 d2):=by
 rcases Jc h with⟨xs,ys,rfl,rfl,h⟩|⟨xs,ys,rfl,rfl,h⟩|⟨f1,f2⟩
 ·obtain⟨a,vs,rfl,s1,q1,l1⟩:=r1;obtain⟨c,us,rfl,s2,q2,l2⟩:=r2;cases(show u=Value.ref a from rx);cases(show v=Value.ref c from ry);exact Q2 I (by omega) (.inl ⟨s1,s2⟩) q1 q2 h λd1 d2 x y u v hh t1 t2 w1 w2=>Uw I 5 A.in1 d1 d2 x y u v (by rw[TD]; omega) hh t1 t2 w1 w2
 ·obtain⟨a,vs,rfl,s1,q1,l1⟩:=r1;obtain⟨c,us,rfl,s2,q2,l2⟩:=r2;cases(show u=Value.ref a from rx);cases(show v=Value.ref c from ry);exact Q2 I (by omega) (.inr ⟨s1,s2⟩) q1 q2 h λd1 d2 x y u v hh t1 t2 w1 w2=>Uw I 5 A.in1 d1 d2 x y u v (by rw[TD]; omega) hh t1 t2 w1 w2
 ·exact absurd (by rw[f1,f2]; rfl) hf
theorem wI(hu:X.A.units+7<cLine):yT X (compareOp .Eq) (WA X.K false):=by
 intro z8 s σ H x y v u Q I rx ry h;obtain⟨d1,d2,k,r1,r2,hk,q⟩:=h;by_cases hf:(xF d1&&xF d2)=true
 ·have hf':=hf;rw[xB]at hf';obtain⟨a,b⟩:=Gy hk hf'.1 hf'.2 r1 r2;exact ar z8 s σ H x y v u Q I rx ry ⟨a,by rw[b]; exact q⟩
 ·obtain⟨hc,rfl⟩:=Jo hk;exact(DR I hu hc hf r1 r2 rx ry).1 _ _ _ _ ⟨.bl _,H,I,rfl,q⟩
theorem vx(hu:X.A.units+7<cLine):yT X (compareOp .NotEq) (WA X.K true):=by
 intro z8 s σ H x y v u Q I rx ry h;obtain⟨d1,d2,k,r1,r2,hk,q⟩:=h;by_cases hf:(xF d1&&xF d2)=true
 ·have hf':=hf;rw[xB]at hf';obtain⟨a,b⟩:=Gy hk hf'.1 hf'.2 r1 r2;exact b4 z8 s σ H x y v u Q I rx ry ⟨a,by rw[b]; exact q⟩
 ·obtain⟨hc,rfl⟩:=Jo hk;exact(DR I hu hc hf r1 r2 rx ry).2 _ _ _ _ ⟨.bl _,H,I,rfl,q⟩
theorem wG:tz K (WA K false) zu:=λH x y u v d Q rx ry hf=>by
 obtain⟨k,hk,hf⟩:=zM hf;cases hf;exact⟨_,rfl,λq=>⟨x,y,k,rx,ry,hk,q⟩⟩
theorem vv:tz K (WA K true) yd:=λH x y u v d Q rx ry hf=>by
 obtain⟨k,hk,hf⟩:=zM hf;cases hf;exact⟨_,rfl,λq=>⟨x,y,k,rx,ry,hk,q⟩⟩
end
theorem SL{K:W.Frag}:W.kitOne K (.type "NoneType") (.type "str")=some false/\W.kitOne K (.type "NoneType") (.type "list")=some false/\W.kitOne K (.type "NoneType") (.type "tuple")=some false/\
  W.kitOne K (.type "bool") (.type "str")=some false/\W.kitOne K (.type "bool") (.type "list")=some false/\W.kitOne K (.type "bool") (.type "tuple")=some false/\
  W.kitOne K (.type "int") (.type "str")=some false/\W.kitOne K (.type "int") (.type "list")=some false/\W.kitOne K (.type "int") (.type "tuple")=some false:=by refine⟨?_,?_,?_,?_,?_,?_,?_,?_,?_⟩<;>kernel_rfl
theorem SM{K:W.Frag}:W.kitOne K (.type "str") (.type "int")=some false/\W.kitOne K (.type "str") (.type "bool")=some false/\W.kitOne K (.type "str") (.type "list")=some false/\W.kitOne K (.type "str") (.type "tuple")=some false/\
  W.kitOne K (.type "list") (.type "int")=some false/\W.kitOne K (.type "list") (.type "bool")=some false/\W.kitOne K (.type "list") (.type "str")=some false/\W.kitOne K (.type "list") (.type "tuple")=some false/\W.kitOne K (.type "list") (.type "list")=some true:=by refine⟨?_,?_,?_,?_,?_,?_,?_,?_,?_⟩<;>first|kernel_rfl|rfl
theorem SN{K:W.Frag}:W.kitOne K (.type "tuple") (.type "int")=some false/\W.kitOne K (.type "tuple") (.type "bool")=some false/\W.kitOne K (.type "tuple") (.type "list")=some false/\W.kitOne K (.type "tuple") (.type "str")=some false:=by refine⟨?_,?_,?_,?_⟩<;>kernel_rfl
def nv:D->String
 |.non => "NoneType"
 |.bl _ => "bool"
 |.int _ => "int"
 |.str _ => "str"
 |.tup _ => "tuple"
 |.lst _ => "list"
 |.dic _ _ => "dict"
theorem Y0{K:W.Frag}{T:jj}{d:D}{b:Bool}(h:TH T d=some b):W.kitOne K (.type (nv d)) (.type T.nm)=some b:=by
 obtain⟨x1,x2,x3,x4,x5,x6,x7,x8,x9⟩:=SL (K:=K);obtain⟨y1,y2,y3,y4,y5,y6,y7,y8,y9⟩:=SM (K:=K);obtain⟨z1,z2,z3,z4⟩:=SN (K:=K);cases T<;>cases d<;>cases h
 all_goals first|exact SC|exact S8|exact S9|exact S7|exact SH|exact SD|exact SK|exact SJ|assumption
def cu(K:W.Frag)(T:jj):List V->Hp->VK->Prop:=λxs H Q=>∃x d b,xs=[x,.ty T.nm]/\zY K H d x/\TH T d=some b/\Q (.bl b) H
theorem NR{X:Cx}(T:jj):wr X (.builtin "isinstance") (cu X.K T):=by
 intro z8 s σ H xs us Q I r h;obtain⟨x,d,b,rfl,rd,e,q⟩:=h;obtain⟨u,c,rfl,rx,rc⟩:=Lx r;cases(show c=Value.type T.nm from rc);have fin:∀tk,EP X z8 σ Q (.bool b) { s with toks:=tk }:=λtk=>⟨.bl b,H,I.tok tk,rfl,q⟩
 cases d with
 |non=>cases(show x=_ from rd); exact TK I rx .non (Y0 (d:=.non) e) fin
 |bl y=>cases(show x=_ from rd); exact TK I rx (.bl _) (Y0 (d:=.bl y) e) fin
 |int y=>cases(show x=_ from rd); exact TK I rx (.int _) (Y0 (d:=.int y) e) fin
 |str y=>cases(show x=_/\_ from rd).1; exact TK I rx (.str _) (Y0 (d:=.str y) e) fin
 |tup ds=>
  obtain⟨a,vs,rfl,sq,_⟩:=rd;cases(show u=Value.ref a from rx);obtain⟨its,_,⟨o,h1,h2,_⟩,_⟩:=I.tuple sq;exact W.kia_one W.kitx_tuple I.kIn ⟨o,h1,h2⟩ (Y0 (d:=.tup ds) e) (λz=>nomatch z) fin
 |lst ds=>
  obtain⟨a,vs,rfl,sq,_⟩:=rd;cases(show u=Value.ref a from rx);obtain⟨its,_,⟨o,n,h1,h2,_⟩,_⟩:=I.list sq;exact W.kia_one W.kitx_list I.kIn ⟨o,h1,h2⟩ (Y0 (d:=.lst ds) e) (λz=>nomatch z) fin
 |dic ks ds=>cases T<;>cases e
theorem YQ{X:Cx}{a:Expr}{f:FE}{x:Str}{p p1 pos:Pos}(T:jj)(hg:Gl X "isinstance")(hgT:Gl X x)(hm:X.mg "isinstance" = none)(hmT:X.mg x=none)(hv:bootBuiltins x=some (.type T.nm))(ha:SB X a f)(hs:xM a=true:=by rfl)
  (hn:x ≠ "__name__" := by decide)(hd:(x==("__debug__" : Str))=false:=by decide):SE X (.Call (.Name "isinstance" p) [a,.Name x p1] [] pos) (jq T f):=by
 obtain⟨t,pt,k⟩:=ha.h;refine⟨⟨_,(W8 (NR T) hg hm NL (W7 ⟨pt⟩ (W7 (cZ hgT hmT hv hn hd) Tz rfl) hs) (by decide) (by decide) (by rw[xz,hs]; rfl)).h,λ{G0 H0 G H τ σ d Q} E hf q=>?_⟩⟩;obtain⟨z,hz,hf⟩:=zM hf;obtain⟨b,hb,hf⟩:=zM hf;cases hf;exact k E hz λv G' H' x r=>⟨v,z,b,rfl,r,hb,q _ _ _ x rfl⟩
end L3
namespace L3
open PySem
theorem L_{c:FT}{b:FS}:∀{n:Nat}{σ:zi}{fl:Fl}(k:Nat),vI c b n σ=some fl->vI c b (n+k) σ=some fl
 |0,_,_,_,h=>by cases h
 |n+1,σ,fl,k,h=>by
  rw[Nat.succ_add];unfold vI at h ⊢;cases hc:c σ with
  |none=>rw[hc]at h; cases h
  |some kk=>
   rw[hc]at h;cases kk with
   |false=>exact h
   |true=>
    change (b σ).bind _=_ at h
    show(b σ).bind _=_;cases hb:b σ with
    |none=>rw[hb]at h; cases h
    |some f=>
     rw[hb]at h;cases f with
     |nx τ=>exact L_ k h
     |ct τ=>exact L_ k h
     |bk τ=>exact h
     |rt o d=>exact h
theorem kq{c:FT}{b:FS}{σ:zi}{fl:Fl}(n:Nat)(h:vI c b n σ=some fl)(hn:n<=U5:=by decide):pK c b σ=some fl:=by
 have e:=L_ (U5-n) h;rw[Nat.add_sub_of_le hn]at e;exact e
theorem Ye{c:FT}{b:FS}{σ σ':zi}{n:Nat}(hc:c σ=some true)(hb:b σ=some (.nx σ')):vI c b (n+1) σ=vI c b n σ':=by
 show(c σ).bind _=_;rw[hc];show(b σ).bind _=_;rw[hb];rfl
theorem Z3{c:FT}{b:FS}{σ:zi}{n:Nat}(hc:c σ=some false):vI c b (n+1) σ=some (.nx σ):=by
 show(c σ).bind _=_;rw[hc];rfl
theorem kP{g:FG}{b:FS}(P:Nat->zi->Prop):∀{ds:List D}{σ:zi}(n:Nat),P n σ->(∀i d σ,ds[i]?=some d->P (n+i) σ->∃σ1 σ2,g d σ=some σ1/\(b σ1=some (.nx σ2)\/b σ1=some (.ct σ2))/\P (n+i+1) σ2)->
  ∃σ',g7 g b ds σ=some (.nx σ')/\P (n+ds.length) σ'
 | [],σ,n,h,_=>⟨σ,rfl,h⟩
 |d::ds,σ,n,h,step=>by
  obtain⟨σ1,σ2,e1,e2,p2⟩:=step 0 d σ rfl h
  obtain⟨σ',e3,p3⟩:=kP P (ds:=ds) (σ:=σ2) (n+1) p2 λi d' τ hd hp=>by
   obtain⟨a,b',c1,c2,c3⟩:=step (i+1) d' τ (by simpa using hd) (by rw[show n+(i+1)=n+1+i by omega]; exact hp);exact⟨a,b',c1,c2,by rw[show n+1+i+1=n+(i+1)+1 by omega]; exact c3⟩
  refine⟨σ',?_,by rw[xK,show n+(ds.length+1)=n+1+ds.length by omega]; exact p3⟩;show(g d σ).bind _=_;rw[e1];show(b σ1).bind _=_;rcases e2 with e2|e2
  ·rw[e2]; exact e3
  ·rw[e2]; exact e3
theorem wP{a b:FS}{σ σ':zi}(h:a σ=some (.nx σ')):zI a b σ=b σ':=by
 show(a σ).bind _=_;rw[h];rfl
abbrev ww(j:Nat):List D:=(List.range j).map λk:Nat=>D.int k
theorem gC{f:FE}{τ:zi}{n:Int}(h:f τ=some (.int n))(h1:n.natAbs<=1000000):qX (eC (.int 0)) f τ=some (ww n.toNat):=by
 unfold qX;rw[h];show(if(0:Int).natAbs<=yK/\n.natAbs<=yK/\(n-0).toNat<=yK then _ else _)=_;rw[zK ⟨by decide,by show _<=16777216; omega,by show _<=16777216; omega⟩,Int.sub_zero];simp only[Int.zero_add]
end L3
namespace L3
def shx:=
 And.intro zh.eq_1<|And.intro zI.eq_1<|And.intro zb.eq_1<|And.intro vX.eq_1<|And.intro yW.eq_1<|And.intro v6.eq_1<|And.intro jP.eq_1<|And.intro yP.eq_1<|And.intro yc.eq_1<|And.intro uy.eq_1 <|
 And.intro YI.eq_1<|And.intro vN.eq_1<|And.intro gF.eq_1<|And.intro g7.eq_1<|And.intro g7.eq_2<|And.intro e1.eq_1<|And.intro e2.eq_1<|And.intro eL.eq_1<|And.intro eC.eq_1<|And.intro z7.eq_1<|And.intro vn.eq_1 <|
 And.intro zC.eq_1<|And.intro zD.eq_1<|And.intro tE.eq_1<|And.intro Zb.eq_def<|And.intro gP.eq_1<|And.intro xm.eq_1<|And.intro pL.eq_1<|And.intro XV.eq_1<|And.intro Ji.eq_1<|And.intro P7.eq_1<|And.intro kB.eq_1 <|
 And.intro xt.eq_1<|And.intro xY.eq_1<|And.intro jq.eq_1<|And.intro TH.eq_def<|And.intro fI.eq_def<|And.intro T3.eq_def<|And.intro uE.eq_def<|And.intro U_.eq_1<|And.intro T2.eq_1<|And.intro xN.eq_1<|And.intro vF.eq_1 <|
 And.intro PQ.eq_1<|And.intro kG.eq_1<|And.intro PV.eq_1<|And.intro vb.eq_def<|And.intro jA.eq_def<|And.intro xW.eq_def<|And.intro PM.eq_def<|And.intro kE.eq_def<|And.intro Jw.eq_def<|And.intro jv.eq_def <|
 And.intro zz.eq_1<|And.intro wL.eq_1<|And.intro v0.eq_1<|And.intro zW.eq_1<|And.intro wC.eq_1<|And.intro xr.eq_1 <|
 And.intro @Option.bind_some.{0,0} <| And.intro @Option.bind_none.{0,0} <| And.intro @List.getElem?_cons_zero.{0} <| And.intro @List.getElem?_cons_succ.{0} <| And.intro @Kh.{0} <| And.intro @List.set_cons_succ.{0} <| And.intro @xT.{0,0} <| And.intro @Qq.{0,0} <|
 And.intro @Z8.{0} <| And.intro @tZ.{0} <| And.intro @xK.{0} <| And.intro @Yt.{0} <| And.intro @List.replicate_zero.{0} <| And.intro @pR.{0} <| And.intro tX<|And.intro qk <|
 And.intro @decide_true<|And.intro @decide_false<|And.intro Bool.and_self<|And.intro MS Yk
open PySem PySem.Spec PyProof.Rows L2
section
variable{α:Type}
theorem K6:∀{ks:List Key}{vs:List α}(k:Key),ks.length=vs.length->((ks.zip vs).any λkv=>decide (kv.1=k))=yY ks k
 | [],[],_,_=>rfl
 |k'::ks,v::vs,k,h=>by
  have ih:=K6 (ks:=ks) (vs:=vs) k (by simpa using h);show(decide (k'=k)||((ks.zip vs).any λkv=>decide (kv.1=k)))=(decide (k'=k)||yY ks k);rw[ih]
theorem Yh:∀{ks:List Key}{vs:List V}(k:Key),ks.length=vs.length->t4 (ks.zip vs) k=getK ks vs k
 | [],[],_,_=>rfl
 |k'::ks,v::vs,k,h=>by
  have ih:=Yh (ks:=ks) (vs:=vs) k (by simpa using h);by_cases e:k'=k
  ·rw[VU,QV (p:=(k',v)) e];show _=(if k'=k then some v else _);rw[zK e]
  ·rw[VU,QU (p:=(k',v)) e,ih];show _=(if k'=k then some v else _);rw[zL e]
theorem K9:∀{ks:List Key}{vs:List V}(k:Key)(v:V),ks.length=vs.length->((ks.zip vs).map λkv=>if kv.1=k then(kv.1,v)else kv)=ks.zip (List.zipWith (λk' x=>if k'=k then v else x) ks vs)
 | [],[],_,_,_=>rfl
 |k'::ks,u::vs,k,v,h=>by
  have ih:=K9 (ks:=ks) (vs:=vs) k v (by simpa using h);rw[VU,xT,ih,Qs,VU];by_cases e:k'=k
  ·rw[zK e,zK e]
  ·rw[zL e,zL e]
theorem KA{ks:List Key}{vs:List V}{k:Key}{v:V}(h:ks.length=vs.length):vy (ks.zip vs) k v=(wN ks k).zip (wV ks vs k v):=by
 unfold vy wN wV;rw[K6 k h];by_cases c:yY ks k=true
 ·rw[zK c,zK c,zK c,K9 k v h]
 ·rw[zL c,zL c,zL c,List.zip_append h];rfl
theorem kX{ks:List Key}{vs:List α}{k:Key}{v:α}(h:ks.length=vs.length):(wN ks k).length=(wV ks vs k v).length:=by
 unfold wN wV
 split
 ·rw[VR,h,Qu]
 ·rw[yD,yD,h];rfl
theorem GG{ks:List Key}{vs:List α}{k:Key}{v:α}(h:ks.length=vs.length):(wV ks vs k v).length<=vs.length+1:=by
 unfold wV
 split
 ·rw[VR,h,Qu];exact Mo _
 ·rw[yD];exact zt _
end
section
variable{K:W.Frag}{G H:Hp}
theorem Reps.getK:∀{ks:List Key}{ds:List D}{vs:List V}{k:Key}{d:D},Reps K H ds vs->getK ks ds k=some d->∃v,getK ks vs k=some v/\zY K H d v
 | [],_,_,_,_,_,e=>by cases e
 |_::_,[],_,_,_,_,e=>by cases e
 |k'::ks,d'::ds,_,k,d,r,e=>by
  obtain⟨v,r',rfl,hv,hr⟩:=r
  change (if k'=k then some d' else L3.getK ks ds k)=some d at e
  by_cases c:k'=k
  ·rw[zK c]at e;cases e;exact⟨v,by show(if k'=k then some v else _)=_; rw[zK c],hv⟩
  ·rw[zL c]at e;obtain⟨u,hu,ru⟩:=Reps.getK hr e;exact⟨u,by show(if k'=k then some v else _)=_; rw[zL c]; exact hu,ru⟩
theorem IM{α:Type}:∀{ks:List Key}{vs:List α}(k:Key),ks.length=vs.length->(getK ks vs k).isSome=yY ks k
 | [],[],_,_=>rfl
 |k'::ks,v::vs,k,h=>by
  have ih:=IM (ks:=ks) (vs:=vs) k (by simpa using h);show(if k'=k then some v else getK ks vs k).isSome=(decide (k'=k)||_);by_cases c:k'=k
  ·rw[zK c,xD c]; rfl
  ·rw[zL c,yy c,ih]; rfl
theorem Reps.zipW{k:Key}{d:D}{v:V}(hv:zY K H d v):∀{ks:List Key}{ds:List D}{vs:List V},Reps K H ds vs->Reps K H (List.zipWith (λk' x=>if k'=k then d else x) ks ds) (List.zipWith (λk' x=>if k'=k then v else x) ks vs)
 | [],_,_,_=>rfl
 |_::_,[],_,r=>by cases(show _=[]from r); rfl
 |k'::ks,d'::ds,_,r=>by
  obtain⟨u,r',rfl,hu,hr⟩:=r;refine⟨_,_,rfl,?_,Reps.zipW hv hr⟩;show zY K H (if k'=k then d else d') (if k'=k then v else u);by_cases c:k'=k
  ·rw[zK c,zK c]; exact hv
  ·rw[zL c,zL c]; exact hu
theorem Reps.put{ks:List Key}{ds:List D}{vs:List V}{k:Key}{d:D}{v:V}(r:Reps K H ds vs)(hv:zY K H d v):Reps K H (wV ks ds k d) (wV ks vs k v):=by
 unfold wV
 split
 ·exact Reps.zipW hv r
 ·exact r.append (Reps.one hv)
theorem kL{x:D}{k:Key}{u:V}(h:qE x=some k)(r:zY K H x u):u=kV k:=by
 cases x<;>first|(cases h; done)|skip
 ·cases h; exact r
 ·cases h; exact(show u=_/\_ from r).1
end
section
variable{X:Cx}{K:W.Frag}
def GP:R2:=λx y H Q=>∃a kvs k v,x=.ref a/\y=kV k/\Rd H a (.dK kvs)/\t4 kvs k=some v/\Q v H
theorem Rp:tH X GP:=by
 intro value slice z8 s σ H x y v u Q I rx ry h hs;obtain⟨a,kvs,k,z,rfl,rfl,e,l,q⟩:=h;cases rx;obtain⟨_,_,vs,rel,dd⟩:=Ze I.hok e;obtain⟨w',hw,rw'⟩:=qU.some_of (v:=z) (o:=valueAt vs k) (by rw[<-l]; exact rel.val k)
 exact Qy (x:=w') (N_ I (.inl ⟨kvs,k,e,rfl,rfl⟩)) PySem.F.slot_dict_getitem.lookup
  (wpAny_getItem_of (Q:=λr s'=>r=w'/\EP X z8 σ Q r s') (jH ry) dd.mapOf hw ⟨rfl,z,H,I.tok _,rw',q⟩) hs
def GO(K:W.Frag):R2:=λx y H Q=>LC K x y H Q\/GP x y H Q
theorem zl(_:X.A.units+1<cLine):tH X (GO X.K):=Rq.or Rp
theorem zm:uB K (GO K) zO:=λG H x y u v d Q s rx ry hf q=>by
 cases x with
 |dic ks ds=>
  obtain⟨a,vs,rfl,sq,l,rs,_⟩:=rx;obtain⟨k,hk,hf⟩:=zM hf;obtain⟨z,hz,rz⟩:=rs.getK hf;exact .inr ⟨a,_,k,z,rfl,kL hk ry,Rd.mono s sq,by rw[Yh k l]; exact hz,q _ _ _ (zT.refl s) rz⟩
 |non=>cases hf
 |bl b=>cases hf
 |int b=>cases hf
 |str z=>exact .inl (Od G H (.str z) y u v d Q s rx ry (by cases y<;>exact hf) q)
 |tup z=>exact .inl (Od G H (.tup z) y u v d Q s rx ry (by cases y<;>exact hf) q)
 |lst z=>exact .inl (Od G H (.lst z) y u v d Q s rx ry (by cases y<;>exact hf) q)
theorem fY{i:Nat}{x:Str}{p pos:Pos}{b:Expr}{fb:FE}(hu:X.A.units+1<cLine)(ho:QE X (.Name x p) (vf i))(hb:SE X b fb)(hs:kW b=true:=by rfl):SE X (.Subscript (.Name x p) b pos) (e2 zO (vn i) fb):=by
 obtain⟨tb,pb,kb⟩:=hb.h;refine⟨⟨_,Tq (zl hu) ho.h pb (Tt hs),λ{G0 H0 G H τ σ d Q} E hf q=>?_⟩⟩;obtain⟨x,hx,hf⟩:=zM hf;obtain⟨y,hy,hf⟩:=zM hf;obtain⟨o,ho⟩:=DH hx;cases o with
 |false=>
  obtain⟨v,ev,rv⟩:=E.fr _ _ ho;exact⟨v,ev,kb E hy λu G2 H2 x2 r2=>zm G2 H2 x y v u _ _ x2.gh (rv.mono x2.g) r2 hf λw G' H' x3 r3=>q w G' H' (x2.trans x3) r3⟩
 |true=>
  obtain⟨p,ev,_,_,o⟩:=E.ow _ _ ho;refine⟨_,ev,kb E hy λu G2 H2 x2 r2=>?_⟩;cases x with
  |lst ds=>
   obtain⟨vs,e1,rs,_⟩:=o;cases y<;>first|(cases hf; done)|skip
   rename_i i;obtain⟨w,hw,rw_⟩:=LE rs hf;cases r2;exact .inl (.inl ⟨p,vs,i,w,rfl,rfl,yG.of (x2.h _ _ e1),hw,q _ _ _ x2 (rw_.mono x2.g)⟩)
  |dic ks ds=>
   obtain⟨vs,e1,l,rs,_⟩:=o;obtain⟨k,hk,hf⟩:=zM hf;obtain⟨z,hz,rz⟩:=rs.getK hf;exact .inr ⟨p,_,k,z,rfl,kL hk r2,.inl (x2.h _ _ e1),by rw[Yh k l]; exact hz,q _ _ _ x2 (rz.mono x2.g)⟩
  |_=>exact o.elim
def LB(neg:Bool):R2:=λx y H Q=>∃a kvs k,y=.ref a/\x=kV k/\Rd H a (.dK kvs)/\Q (.bl (if neg then !(t4 kvs k).isSome else(t4 kvs k).isSome)) H
theorem au(hu:X.A.units+1<cLine):yT X (compareOp .In) (LB false):=by
 intro z8 s σ H x y v u Q I rx ry h;obtain⟨a,kvs,k,rfl,rfl,e,q⟩:=h;cases ry;exact Nw hu I (.inl ⟨kvs,k,e,rfl,rfl⟩) rx λs' I'=>⟨.bl _,H,I',rfl,q⟩
theorem b7(hu:X.A.units+1<cLine):yT X (compareOp .NotIn) (LB true):=by
 intro z8 s σ H x y v u Q I rx ry h;obtain⟨a,kvs,k,rfl,rfl,e,q⟩:=h;cases ry;exact Nx hu I (.inl ⟨kvs,k,e,rfl,rfl⟩) rx λs' I'=>⟨.bl _,H,I',rfl,q⟩
def jO(K:W.Frag)(neg:Bool):R2:=λx y H Q=>LA K neg x y H Q\/(∃i j,x=.str i/\y=.str j/\Q (.bl (if neg then !(!(Builtin.Str.occurrences j i 0 j.length 1).isEmpty)else !(Builtin.Str.occurrences j i 0 j.length 1).isEmpty)) H)\/LB neg x y H Q
theorem vw(hu:X.A.units+1<cLine):yT X (compareOp .In) (jO X.K false):=ax.or (ay.or (au hu))
theorem Oi(hu:X.A.units+1<cLine):yT X (compareOp .NotIn) (jO X.K true):=b8.or (b9.or (b7 hu))
theorem Q4{H:Hp}{x:D}{u:V}(hx:xF x=true)(rx:zY K H x u):∀{ys:List D}{vs:List V},Reps K H ys vs->ys.all xF=true->vs.all tM=true/\TF u vs=ys.any λy=>zk y x
 | [],_,r,_=>by cases(show _=[]from r); exact⟨rfl,rfl⟩
 |y::ys,_,r,h=>by
  obtain⟨v,r',rfl,hv,hr⟩:=r;rw[xz,xB]at h;obtain⟨a,b⟩:=Q4 hx rx hr h.2;refine⟨by rw[xz,kf h.1 hv,a]; rfl,?_⟩;show(uV v u||TF u r')=(zk y x||_);rw[WC h.1 hx hv rx,b]
theorem Do{neg:Bool}{H:Hp}{x y:D}{u v:V}{k:Bool}{Q:VK}(rx:zY K H x u)(ry:zY K H y v)(hf:Jq x y=some k)(q:Q (.bl (if neg then !k else k)) H):jO K neg u v H Q:=by
 cases y with
 |lst ys=>
  obtain⟨a,vs,rfl,sq,rs,_⟩:=ry
  change (match xF x&&ys.all xF with|true=>some (ys.any λy=>zk y x)|false=>none)=some k at hf
  cases c:(xF x&&ys.all xF)with
  |false=>rw[c]at hf; cases hf
  |true=>
   rw[c]at hf;cases hf;rw[xB]at c;obtain⟨c1,c2⟩:=Q4 c.1 rx rs c.2;exact .inl ⟨a,vs,rfl,.inl sq,kf c.1 rx,c1,by rw[c2]; exact q⟩
 |tup ys=>
  obtain⟨a,vs,rfl,sq,rs,_⟩:=ry
  change (match xF x&&ys.all xF with|true=>some (ys.any λy=>zk y x)|false=>none)=some k at hf
  cases c:(xF x&&ys.all xF)with
  |false=>rw[c]at hf; cases hf
  |true=>
   rw[c]at hf;cases hf;rw[xB]at c;obtain⟨c1,c2⟩:=Q4 c.1 rx rs c.2;exact .inl ⟨a,vs,rfl,.inr sq,kf c.1 rx,c1,by rw[c2]; exact q⟩
 |str j=>
  cases x<;>first|(cases hf; done)|skip
  rename_i i;cases hf;exact .inr (.inl ⟨i,j,(show u=_/\_ from rx).1,(show v=_/\_ from ry).1,q⟩)
 |dic ks ds=>
  obtain⟨kk,hk,hf⟩:=zM hf;cases hf;obtain⟨a,vs,rfl,sq,l,rs,_⟩:=ry;refine .inr (.inr ⟨a,_,kk,rfl,kL hk rx,sq,?_⟩);rw[Yh kk l,IM kk l];exact q
 |_=>cases hf
theorem vt:tz K (jO K false) yb:=λH x y u v d Q rx ry hf=>by
 obtain⟨k,hk,hf⟩:=zM hf;cases hf;exact⟨_,rfl,λq=>Do rx ry hk q⟩
theorem Oe:tz K (jO K true) jt:=λH x y u v d Q rx ry hf=>by
 obtain⟨k,hk,hf⟩:=zM hf;cases hf;exact⟨_,rfl,λq=>Do rx ry hk q⟩
theorem LZ{pos:Pos}:SF X (.Dict [] [] pos) (eC (.dic [] [])):=⟨⟨_,bU,λ{G0 H0 G H τ σ d Q} E hf q p hp=>by
 cases hf;exact q p G _ (zT.layO E.ext.gh hp) hp (E.ext.gh.free hp) ⟨[],xJ,rfl,rfl,xb _⟩⟩⟩
theorem Le{i:Nat}{x:Str}{xp pos pos':Pos}{k v:Expr}{fk fv:FE}(hu:X.A.units+1<cLine)(ho:QE X (.Name x xp) (vf i))(hk:SE X k fk)(hv:SE X v fv)(hs:swapsWith v (some (.Subscript (.Name x xp) k pos')) pos.line X.env=pure false:=by rfl) :
  SS X (.Assign [.Subscript (.Name x xp) k pos'] v pos) (kn i fk fv):=by
 obtain⟨tk,pk,kk⟩:=hk.h;obtain⟨tv,pv,kv⟩:=hv.h;refine⟨⟨_,cL hu ho.h pk pv hs,λ{G0 H0 G H τ σ fl E} K hf q=>?_⟩⟩;obtain⟨y,hy,hf⟩:=zM hf;refine kv K hy λw G1 H1 x1 r1=>?_
 split at hf
 ·rename_i ks ds hd;obtain⟨xk,hx,hf⟩:=zM hf;obtain⟨key,hkey,hf⟩:=zM hf;by_cases c:ks.length<yK
  ·rw[zK c]at hf;cases hf;have K1:=K.go x1;obtain⟨a,ea,g,z,vs,ev,l,rs,hl⟩:=K1.ow _ _ hd;refine⟨_,ea,kk K1 hx λu G2 H2 x2 r2=>⟨a,_,rfl,.inl ⟨_,key,x2.h _ _ ev,kL hkey r2,?_,rfl⟩,?_⟩⟩
   ·rw[List.length_zip,l,Qu,w8,<-l]; exact c
   ·refine q _ _ _ ((K1.go x2).mut hd ea ⟨wV ks vs key w,?_,kX l,(rs.mono x2.g).put (r1.mono x2.g),?_⟩)
    ·rw[xJ,KA l]
    ·have h1:=GG (ks:=ks) (vs:=ds) (k:=key) (v:=y) (by rw[l,rs.length]);have h2:ds.length<16777216:=by rw[<-rs.length,<-l]; exact c
     rw[w8];omega
  ·rw[zL c]at hf;cases hf
 ·cases hf
def qT(K:W.Frag)(w:World)(a:Addr)(ks:List Key)(ds:List D):Prop:=
 ∃us:List V,ks.length=us.length/\(a==sysModules)=false/\(∀H,Reps K H ds us)/\∀(P:Program)(h:Heap),K.In h->∃vs,KV (ks.zip us) vs/\h.DictOf (y_ P w) a vs
inductive pz(w:World):List DictEntry->List Str->List Value->Prop
 |nil:pz w [] [] []
 |cons {x:Str} {t:Tok} {v:Value} {es:List DictEntry} {xs:List Str} {vs:List Value} (r:pz w es xs vs):pz w (⟨PyData.keyHash w.params x,.str x t,v⟩::es) (x::xs) (v::vs)
theorem pz.pairs{w:World}{P:Program}:∀{es:List DictEntry}{xs:List Str}{vs:List Value},pz w es xs vs->Pairs (y_ P w) es ((xs.map Sum.inr).zip vs)/\(∀e∈es,∃k,(y_ P w).is k e.key=true/\e.hash=(y_ P w).hash k)
 |_,_,_,.nil=>⟨.nil,λe h=>absurd h (by simp)⟩
 |_,_,_,.cons (x:=x) (t:=t) r=>by
  obtain⟨a,b⟩:=pz.pairs (P:=P) r;refine⟨.cons (OM P w x t) rfl a,λe h=>?_⟩;rcases yI.mp h with rfl|h
  ·exact⟨.inr x,OM P w x t,rfl⟩
  ·exact b e h
theorem pz.len{w:World}:∀{es:List DictEntry}{xs:List Str}{vs:List Value},pz w es xs vs->xs.length=vs.length
 |_,_,_,.nil=>rfl
 |_,_,_,.cons r=>by rw[xK,xK,r.len]
theorem Fc:∀{ks:List Key}{us:List V}{vs:List Value},zf us vs->ks.length=us.length->KV (ks.zip us) (ks.zip vs)
 | [],_,_,.nil,_=>.nil
 |k::ks,_,_,.cons r t,h=>.cons ⟨rfl,r⟩ (Fc t (by simpa using h))
theorem K8:∀{ks:List Key}{vs:List Value},ks.length=vs.length->(ks.zip vs).map (·.1)=ks
 | [],[],_=>rfl
 |k::ks,v::vs,h=>by rw[VU,xT,K8 (by simpa using h)]
theorem IL{w:World}{a:Addr}{es:List DictEntry}{n:Nat}{xs:List Str}{vs:List Value}{us:List V}{ds:List D}(l:K.lookup a=some { cls:=.type "dict",data:=.dict es.toArray n })(e:pz w es xs vs)(nd:xs.Nodup)(hs:(a==sysModules)=false)(r:zf us vs)(rd:∀H,Reps K H ds us) :
  qT K w a (xs.map .inr) ds:=by
 have hl:(xs.map Sum.inr:List Key).length=us.length:=by rw[zj,e.len,r.length]
 refine⟨us,hl,hs,rd,λP h KI=>⟨_,Fc r hl,?_⟩⟩;obtain⟨p,q⟩:=e.pairs (P:=P);refine⟨_,_,_,KI _ _ l,⟨rfl,rfl,rfl⟩,rfl,λe he=>q e (by simpa using he),p,?_⟩;rw[K8 (by rw[zj]; exact e.len)];exact MX _ (λa b h z=>h (Qx z)) nd
theorem Pd{A:Addr}{ks:List Key}{ds:List D}(g:qT X.K X.w A ks ds):tH X (λx y H Q=>x=.ref A/\∃k,y=kV k/\∃d,getK ks ds k=some d/\∀v,(∀H,∃H',zx H H'/\True)->(∀H,zY X.K H d v)->Q v H):=by
 intro value slice z8 s σ H x y v u Q I rx ry h hs;obtain⟨rfl,k,rfl,d,hd,q⟩:=h;cases rx;obtain⟨us,hl,hsys,rd,mk⟩:=g;obtain⟨vs,rel,dd⟩:=mk X.prog s.heap I.kIn;obtain⟨z,hz,_⟩:=(rd H).getK hd
 have rz:∀H,zY X.K H d z:=λH'=>by
  obtain⟨z',hz',r'⟩:=(rd H').getK hd;rw[hz]at hz';cases hz';exact r'
 obtain⟨w',hw,rw'⟩:=qU.some_of (v:=z) (o:=valueAt vs k) (by rw[<-hz,<-Yh k hl]; exact rel.val k)
 exact Qy (x:=w') dd.typeIs PySem.F.slot_dict_getitem.lookup
  (wpAny_getItem_of (Q:=λr s'=>r=w'/\EP X z8 σ Q r s') (jH ry) dd.mapOf hw ⟨rfl,z,H,I.tok _,rw',q z (λH=>⟨H,zx.refl H,trivial⟩) rz⟩) hs
theorem LV{A:Addr}{ks:List Key}{ds:List D}{x:Str}{p pos:Pos}{b:Expr}{fb:FE}(h:yn X.mg x (.ref A))(g:qT X.K X.w A ks ds)(hg:Gl X x)(hb:SE X b fb)(hs:kW b=true:=by rfl)(hd:(x==("__debug__" : Str))=false:=by decide) :
  SE X (.Subscript (.Name x p) b pos) (e1 (jr ks ds) fb):=by
 obtain⟨tb,pb,kb⟩:=hb.h;refine⟨⟨_,Tq (Pd g) (YB h hg hd) pb (Tt hs),λ{G0 H0 G H τ σ d Q} E hf q=>?_⟩⟩;obtain⟨y,hy,hf⟩:=zM hf;obtain⟨k,hk,hf⟩:=zM hf;exact kb E hy λu G2 H2 x2 r2=>⟨rfl,k,kL hk r2,d,hf,λv _ rv=>q v _ _ x2 (rv _)⟩
theorem Pe{A:Addr}{ks:List Key}{ds:List D}(g:qT X.K X.w A ks ds):yT X (compareOp .NotIn) (λx y H Q=>y=.ref A/\∃k,x=kV k/\Q (.bl (!yY ks k)) H):=by
 intro z8 s σ H x y v u Q I rx ry h;obtain⟨rfl,k,rfl,q⟩:=h;cases ry;obtain⟨us,hl,hsys,rd,mk⟩:=g;obtain⟨vs,rel,dd⟩:=mk X.prog s.heap I.kIn;refine wpAny_notIn_of (jH rx) hsys dd.mapOf ?_;rw[<-(rel.val k).isSome_eq,Yh k hl,IM k hl];exact⟨.bl _,H,I.tok _,rfl,q⟩
end
def QF:D->Option (List D)
 |.lst xs=>some xs
 |.tup xs=>some xs
 |_=>none
def I_(a b:FE):FA:=λσ=>(a σ).bind λx=>(b σ).bind λy=>(QF x).bind λxs=>(QF y).bind λys=>some (List.zipWith (λx y=>D.tup [x,y]) xs ys)
section
variable{K:W.Frag}{G H:Hp}
theorem Gz{x:D}{xs:List D}{u:V}(h:QF x=some xs)(r:zY K G x u):∃t a vs,u=.ref a/\uD K t G a vs/\Reps K G xs vs/\xs.length<=sizeLine:=by
 cases x<;>first|(cases h; done)|skip
 ·cases h;obtain⟨a,vs,rfl,sq,rs,l⟩:=r;exact⟨true,a,vs,rfl,sq,rs,l⟩
 ·cases h;obtain⟨a,vs,rfl,sq,rs,l⟩:=r;exact⟨false,a,vs,rfl,sq,rs,l⟩
theorem gL{H':Hp}{t:Bool}{a:Addr}{vs:List V}(s:zx H H')(h:uD K t H a vs):uD K t H' a vs:=by
 cases t
 ·exact v8 s h
 ·exact uK s h
theorem z0s{t1 t2:Bool}{a b:Addr}{vs us:List V}{xs ys:List D}(s1:uD K t1 G a vs)(s2:uD K t2 G b us)(r1:Reps K G xs vs)(r2:Reps K G ys us):j6 K (JD K t1 t2 a b) G (List.zipWith (λx y=>D.tup [x,y]) xs ys) where
 go:=λi G2 H g1 g2 hi=>by
  rw[VR]at hi;obtain⟨v,e1,_⟩:=r1.get (yZ (show i<xs.length by omega));obtain⟨u,e2,_⟩:=r2.get (yZ (show i<ys.length by omega));exact⟨vs,us,v,u,gL (g1.trans g2) s1,gL (g1.trans g2) s2,e1,e2⟩
 yld:=λi G2 H x H' g1 g2 hi y=>by
  obtain⟨p,hp,rfl,k⟩:=y;obtain⟨v,u,e1,e2,rfl⟩:=k vs us (gL (g1.trans g2) s1) (gL (g1.trans g2) s2);obtain⟨d1,f1,q1⟩:=r1.at e1;obtain⟨d2,f2,q2⟩:=r2.at e2;refine⟨ze G2 p (.tup [v,u]),.tup [d1,d2],zT.lay g2 hp,by rw[KU,f1,f2],?_⟩;have sm:zx G (ze G2 p (.tup [v,u])):=g1.trans (v7 (g2.free hp) _);exact⟨p,[v,u],rfl,xE.of xJ,⟨v,_,rfl,q1.mono sm,⟨u,_,rfl,q2.mono sm,rfl⟩⟩,small (n:=2) (by decide)⟩
 stop:=λi G2 H g1 g2 hi=>by
  rw[VR]at hi;refine⟨vs,us,gL (g1.trans g2) s1,gL (g1.trans g2) s2,?_⟩;rw[r1.length,r2.length];omega
end
section
variable{X:Cx}{a b e o:Expr}{fa fb f:FE}{p pos apos cpos:Pos}
theorem iB{elts:List Expr}{kk:Nat}{tp:Pos}(hg:Gl X "zip")(hm:X.mg "zip" = none)(ha:SE X a fa)(hb:SE X b fb)(hs:xM a=true:=by rfl)(hs2:xM b=true:=by rfl):SI X (.Tuple elts kk tp) (.Call (.Name "zip" p) [a,b] [] pos) (I_ fa fb):=by
 obtain⟨t,pt,k⟩:=(zG ha (zG hb zN hs2) hs).h;refine⟨⟨_,(cg hg hm ⟨pt⟩ hs hs2).h,λ{G0 H0 G H τ σ ds R} K hf q=>?_⟩⟩;obtain⟨x,hx,hf⟩:=zM hf;obtain⟨y,hy,hf⟩:=zM hf;obtain⟨xs,hxs,hf⟩:=zM hf;obtain⟨ys,hys,hf⟩:=zM hf;cases hf;refine k K (ds:=[x,y]) (by unfold zC; rw[hx,hy]; rfl) λvs G1 H1 x1 r1=>?_
 obtain⟨v,r,rfl,hv,⟨v2,r2,rfl,hv2,hr⟩⟩:=r1;cases(show r2=[]from hr);obtain⟨t1,a1,vs1,rfl,s1,q1,l1⟩:=Gz hxs hv;obtain⟨t2,a2,vs2,rfl,s2,q2,l2⟩:=Gz hys hv2;refine⟨a1,a2,vs1,vs2,t1,t2,rfl,gL x1.gh s1,gL x1.gh s2,q _ _ _ x1 ?_ (z0s s1 s2 q1 q2)⟩;rw[VR];omega
abbrev FO:=zi->Option (Option Int)
def tS:FO:=λ_=>some none
def tT(f:FE):FO:=λσ=>(f σ).bind λd=>match d with
 |.int i=>some (some i)
 |_=>none
def j8{α:Type}(xs:List α)(lo hi:Option Int):List α:=(xs.drop (HT.sIx xs.length 0 lo)).take (HT.sIx xs.length xs.length hi-HT.sIx xs.length 0 lo)
def Xa(d:D)(lo hi:Option Int):Option D:=match d with
 |.lst xs=>some (.lst (j8 xs lo hi))
 |.tup xs=>if HT.sIx xs.length 0 lo=0/\HT.sIx xs.length xs.length hi=xs.length then none else some (.tup (j8 xs lo hi))
 |.str z=>some (.str (cutS z lo hi))
 |_=>none
def tK(a:FE)(lo hi:FO):FE:=λσ=>(a σ).bind λd=>(lo σ).bind λl=>(hi σ).bind λh=>Xa d l h
structure SO(X:Cx)(e:Option Expr)(f:FO):Prop where
 h:∃t,PO X e t/\∀{G0 H0 G H:Hp}{τ:zi}{σ:St}{d:Option Int}{Q:Option Int->Hp->Prop},zg X.K X.N.length G0 H0 G H τ σ->f τ=some d->(∀G' H',zT G H G' H'->Q d H')->t σ H Q
theorem YT:SO X none tS:=⟨⟨_,cE,λE hf q=>by cases hf; exact q _ _ (zT.refl E.ext.gh)⟩⟩
theorem YU(h:SE X e f):SO X (some e) (tT f):=by
 obtain⟨t,pt,k⟩:=h.h;refine⟨⟨_,cF pt,λ{G0 H0 G H τ σ d Q} E hf q=>?_⟩⟩;obtain⟨x,hx,hf⟩:=zM hf;cases x<;>first|(cases hf; done)|skip
 cases hf;exact k E hx λv G' H' x r=>⟨_,r,q _ _ x⟩
theorem Reps.cut{K:W.Frag}{G:Hp}{ds:List D}{vs:List V}(r:Reps K G ds vs)(lo hi:Option Int):Reps K G (j8 ds lo hi) (jo vs lo hi):=by
 unfold j8 jo;rw[r.length];exact(r.drop _).take _
theorem By{α:Type}(xs:List α)(lo hi:Option Int):(j8 xs lo hi).length<=xs.length:=by
 unfold j8;rw[tY,ZB];omega
def dB(K:W.Frag):V->Option Int->Option Int->Hp->VK->Prop:=λx lo hi H Q=>GU K x lo hi H Q\/GW K x lo hi H Q\/GV x lo hi H Q
theorem i_:j5 X (dB X.K):=lD.or (lG.or lE)
theorem YR{lo hi:Option Expr}{fl fh:FO}{p2:Pos}(ha:SE X a fa)(hl:SO X lo fl)(hh:SO X hi fh):SE X (.Subscript a (.Slice lo hi none p2) pos) (tK fa fl fh):=by
 obtain⟨ta,pa,ka⟩:=ha.h;obtain⟨tl,pl,kl⟩:=hl.h;obtain⟨th,ph,kh⟩:=hh.h;refine⟨⟨_,bc i_ pa pl ph,λ{G0 H0 G H τ σ d Q} E hf q=>?_⟩⟩;obtain⟨x,hx,hf⟩:=zM hf;obtain⟨l,hl,hf⟩:=zM hf;obtain⟨h,hh,hf⟩:=zM hf;refine ka E hx λv G1 H1 x1 r1=>kl (E.go x1) hl λG2 H2 x2=>kh ((E.go x1).go x2) hh λG3 H3 x3=>?_
 have xx:=x1.trans (x2.trans x3);have r3:=r1.mono (x2.g.trans x3.g);cases x with
 |lst xs=>
  cases hf;obtain⟨a,vs,rfl,sq,rs,ll⟩:=r3;refine .inl ⟨a,vs,rfl,v8 x3.gh sq,λp hp=>q _ _ _ (xx.trans (zT.lay x3.gh hp)) ⟨p,_,rfl,yG.of xJ,(rs.cut l h).mono (v7 (x3.gh.free hp) _),wX (By ..) ll⟩⟩
 |tup xs=>
  change (if HT.sIx xs.length 0 l=0/\HT.sIx xs.length xs.length h=xs.length then none else some (D.tup (j8 xs l h)))=some d at hf
  by_cases c:HT.sIx xs.length 0 l=0/\HT.sIx xs.length xs.length h=xs.length
  ·rw[zK c]at hf;cases hf
  ·rw[zL c]at hf;cases hf;obtain⟨a,vs,rfl,sq,rs,ll⟩:=r3;refine .inr (.inl ⟨a,vs,rfl,uK x3.gh sq,by rw[rs.length]; exact c,λp hp=>?_⟩);exact q _ _ _ (xx.trans (zT.lay x3.gh hp)) ⟨p,_,rfl,xE.of xJ,(rs.cut l h).mono (v7 (x3.gh.free hp) _),wX (By ..) ll⟩
 |str z=>
  cases hf;obtain⟨rfl,ll⟩:=r3;exact .inr (.inr ⟨z,rfl,ll,q _ _ _ xx ⟨rfl,wX (cut_len ..) ll⟩⟩)
 |_=>cases hf
def uv:List D->Option D
 | [.lst xs]=>some (.lst xs)
 | [.tup xs]=>some (.lst xs)
 |_=>none
theorem qe{K:W.Frag}{G:Hp}{d:D}{vs:List V}(r:Reps K G [d] vs):∃v,vs=[v]/\zY K G d v:=by
 obtain⟨v,r',rfl,hv,hr⟩:=r;cases(show r'=[]from hr);exact⟨v,rfl,hv⟩
theorem Lb{fs:FA}(hg:Gl X "list")(hm:X.mg "list" = none)(ha:SA X [e] fs)(hs:xM e=true:=by rfl):SF X (.Call (.Name "list" p) [e] [] pos) (eL uv fs):=by
 obtain⟨t,pt,k⟩:=ha.h;refine⟨⟨_,(YG NY hg hm JZ ⟨pt⟩ (by decide) (by decide) (by rw[xz,hs]; rfl)).h,λ{G0 H0 G H τ σ d Q} E hf q=>?_⟩⟩;obtain⟨ds,hd,hf⟩:=zM hf;refine k E hd λvs G1 H1 x1 r1=>?_
 match ds,hf with
 | [.lst xs],hf=>
  cases hf;obtain⟨v,rfl,a,us,rfl,sq,rs,l⟩:=qe r1;exact⟨a,us,rfl,.inl (v8 x1.gh sq),λp hp=>q p _ _ (x1.trans (zT.layO x1.gh hp)) (x1.h.free hp) (x1.gh.free hp) ⟨us,xJ,rs,l⟩⟩
 | [.tup xs],hf=>
  cases hf;obtain⟨v,rfl,a,us,rfl,sq,rs,l⟩:=qe r1;exact⟨a,us,rfl,.inr (uK x1.gh sq),λp hp=>q p _ _ (x1.trans (zT.layO x1.gh hp)) (x1.h.free hp) (x1.gh.free hp) ⟨us,xJ,rs,l⟩⟩
def Xm(x:D):List D->Nat->Option Nat
 | [],_=>none
 |y::ys,n=>match zk y x with
  |true=>some n
  |false=>Xm x ys (n+1)
def PL:D->D->Option D
 |.lst ys,x=>match xF x&&ys.all xF with
  |true=>(Xm x ys 0).bind λn=>some (.int n)
  |false=>none
 |_,_=>none
theorem FC{x:D}:∀{ys:List D}{n m:Nat},Xm x ys n=some m->∃j y,m=n+j/\ys[j]?=some y/\zk y x=true/\∀i z,i<j->ys[i]?=some z->zk z x=false
 | [],_,_,h=>by cases h
 |y::ys,n,m,h=>by
  change (match zk y x with|true=>some n|false=>Xm x ys (n+1))=some m at h
  cases c:zk y x with
  |true=>
   rw[c]at h;cases h;exact⟨0,y,rfl,rfl,c,λi z hi=>absurd hi (VV _)⟩
  |false=>
   rw[c]at h;obtain⟨j,y',e1,e2,e3,e4⟩:=FC h;refine⟨j+1,y',by omega,by simpa using e2,e3,λi z hi ez=>?_⟩;cases i with
   |zero=>cases ez; exact c
   |succ i=>exact e4 i z (by omega) (by simpa using ez)
theorem HH{i:Nat}{x:Str}{op:Operator}{ti:XH}{F:D->D->Option D}{pos':Pos}(ho:JI X op ti)(hF:uB X.K ti F)(hN:X.N.Nodup)(hi:X.N[i]?=some x)(hx:uN X.env.scope x)(he:SE X e f)(hf:X.fn x=true\/X.env.scope.names.lookup x=some .local:=by first|exact .inl rfl|exact .inr rfl|assumption) :
  SS X (.AugAssign (.Name x pos') op e pos) (zb i (e2 F (z7 i) f)):=by
 obtain⟨t,pt,k⟩:=he.h;refine⟨⟨_,cK hN hi hx pt ho hf,λ{G0 H0 G H τ σ fl E} K hf q=>?_⟩⟩;obtain⟨d,hd,hf⟩:=zM hf;cases hf;obtain⟨x,hx,hd⟩:=zM hd;obtain⟨y,hy,hd⟩:=zM hd;obtain⟨v,ev,rv⟩:=K.fr _ _ (DI hx);refine⟨v,ev,k K hy λu G1 H1 x1 r1=>hF G1 H1 x y v u d _ x1.gh (rv.mono x1.g) r1 hd λw G2 H2 x2 r2=>?_⟩;exact q _ _ _ (((K.go x1).go x2).set (yM.mp hi).1 r2)
theorem EX{K:W.Frag}:uB K (Du λi j=>i+j) (vb λi j=>i+j):=λG H x y u v d Q s rx ry hf q=>by
 cases x<;>first|(cases hf; done)|skip
 cases y<;>first|(cases hf; done)|skip
 cases hf;exact⟨_,_,rx,ry,q _ _ _ (zT.refl s) rfl⟩
theorem lj{i:Nat}{x:Str}{pos':Pos}(hN:X.N.Nodup)(hi:X.N[i]?=some x)(hx:uN X.env.scope x)(he:SE X e f)(hs:swapsWith e (some (.Name x pos')) pos.line X.env=pure false:=by rfl)
  (hf:X.fn x=true\/X.env.scope.names.lookup x=some .local:=by first|exact .inl rfl|exact .inr rfl|assumption):SS X (.Assign [.Name x pos'] e pos) (zb i f):=by
 obtain⟨t,p,k⟩:=he.h;refine⟨⟨_,(ci hN hi hx ⟨p⟩ hs hf).h,λ{G0 H0 G H τ σ fl E} K hf q=>?_⟩⟩;obtain⟨d,hd,hf⟩:=zM hf;cases hf;exact k K hd λv G' H' x r=>q _ _ _ ((K.go x).set (yM.mp hi).1 r)
theorem lv{A:Addr}{ks:List Key}{ds:List D}{x:Str}{p:Pos}(h:yn X.mg x (.ref A))(g:qT X.K X.w A ks ds)(hg:Gl X x)(ha:SE X a fa)(hm:behindInMarks .NotIn (.Name x p)=false:=by with_unfolding_all rfl)(hd:(x==("__debug__" : Str))=false:=by decide) :
  ST X (.Compare a [.NotIn] [.Name x p] pos) (tE (e1 (Jp ks) fa)):=by
 obtain⟨tb,pb,kb⟩:=ha.h;refine⟨⟨_,G9 (Pe g) pb (YB h hg hd) hm,λ{G0 H0 G H τ σ d Q} E hf q=>?_⟩⟩;obtain⟨z,hz,hf⟩:=zM hf;obtain⟨y,hy,hz⟩:=zM hz;obtain⟨k,hk,hz⟩:=zM hz;cases hz;cases hf;exact kb E hy λu G2 H2 x2 r2=>⟨rfl,k,kL hk r2,_,rfl,q _ _ x2⟩
variable{x:Str}{ps:List Str}{j k:Nat}{FF:List D->Option (Bool×D)}
theorem fV(h:zU X.prog X.w X.K X.mg X.base x ps k (zV X.K FF))(hr:xX j X.A)(hg:Gl X x)(hk:k<=j:=by decide)(hdb:(x==("__debug__" : Str))=false:=by decide):SE X (.Call (.Name x p) [] [] pos) (zW FF zD):=by
 obtain⟨f,fd,hm,kp,b,F⟩:=h;refine⟨⟨_,bQ F (hr.mono hk) hg hm kp b .nil Om hdb,λ{G0 H0 G H τ σ d Q} E hf q=>?_⟩⟩;obtain⟨ds,hd,hf⟩:=zM hf;cases hd;obtain⟨⟨o,d⟩,hr,hf⟩:=zM hf;cases hf;refine⟨G,[],o,d,E.ext.gh,rfl,hr,?_⟩;cases o with
 |false=>exact λv G' H' x2 r=>q v G' H' x2 r
 |true=>
  intro p G' H' x2 hp gp o;obtain⟨u,hu,r⟩:=o.frz gp;exact q _ _ _ (x2.frz hp gp hu) r
end
def FR(n N:Nat)(b:FS)(ds:List D):Option (Bool×D):=if ds.length=n then zh N b ds else none
theorem yz{n N:Nat}{b:FS}:∀ds r,FR n N b ds=some r->ds.length=n/\zh N b ds=some r:=λds r h=>by
 unfold FR at h
 split at h
 ·rename_i c;exact⟨c,h⟩
 ·cases h
theorem Hh{M:Model}{A:Around}{E:Value->Shared->Prop}{z6:Array Value}{x:Value}{e:Value->Bool}{j:Nat}(hM:∃prog w,M=model prog w)(hj:j<z6.size)(hit:e z6[j]=true)(no:∀m (hm:m<z6.size),m<j->e z6[m]=false){s:Shared}
  (he:∀y∈z6,SeqAt.EqAt A s y x (e y)){Q:Option PySem.Fin×Unit->Shared->Prop}(h:Q (some (.done (.ret (.int j s.toks))),()) { s with toks:=s.toks+1 }):∀m i:Nat,i+m=z6.size->i<=j->
  wpAny M A (forIn (List.range' i m) ((none,()):Option PySem.Fin×Unit) λ(i:Nat) (_:Option PySem.Fin×Unit)=>match z6[i]? with
   |some y=>do
    let __do_lift <-eqBool y x
    if __do_lift=true then do
      let __do_lift <-retInt (i:Int)
      pure (ForInStep.done (some __do_lift,()))
     else pure (ForInStep.yield (none,()))
   |_=>pure (ForInStep.yield (none,()))) Q E s
 |0,i,h1,h2=>by omega
 |m+1,i,h1,h2=>by
  obtain⟨prog,w,rfl⟩:=hM;have hi:i<z6.size:=by omega
  rw[List.range'_succ,Mc];refine zE ?_;rw[Z4 hi];refine zE (he _ (Array.getElem_mem hi) prog w E _ ?_);by_cases c:i=j
  ·subst c;rw[hit,zK rfl]
   wp_walk
   exact h
  ·rw[no i hi (by omega),zL (by decide)];refine zX ?_;exact Hh ⟨prog,w,rfl⟩ hj hit no he h m (i+1) (by omega) (by omega)
theorem nQ(t:Addr)(z6:Array Value)(x:Value)(e:Value->Bool)(j:Nat)(hj:j<z6.size)(hit:e z6[j]=true)(no:∀m (hm:m<z6.size),m<j->e z6[m]=false) :
  Meets (Builtin.«tuple.index» ⟨[.ref t,x],[]⟩) (λA R s=>IsTup s.heap t z6/\(∀y∈z6,SeqAt.EqAt A.in1 s y x (e y))/\R (.ok (.ret (.int j s.toks))) { s with toks:=s.toks+1 }):=by
 intro prog w A R s h;obtain⟨hp,g,d,tk,os⟩:=s;obtain⟨⟨o,ho,hc,n,hd⟩,he,h⟩:=h;unfold Builtin.«tuple.index»
 wp_walk
 skip
 rw[hd];refine zX (zX ?_);show wpAny _ _ (pure 0 >>= _) _ _ _;refine zE (zX (zE (zX (zE ?_))));rw[Std.Legacy.Range.forIn_eq_forIn_range'];have hs:Std.Legacy.Range.size [0:min z6.size z6.size]=z6.size:=by simp[Std.Legacy.Range.size]
 rw[hs];refine Hh ⟨prog,w,rfl⟩ hj hit no he ?_ z6.size 0 (by omega) (by omega);exact zX h
section
variable{X:Cx}{e o k v:Expr}{f fo fk fv:FE}{x:Str}{xp p pos apos cpos:Pos}
theorem A0:gx X "tuple.index" (λx vs H Q=>∃(a:Addr) (us:List V) (y:V) (j:Nat) (u:V),x=.ref a/\vs=[y]/\xE X.K H a us/\tM y=true/\us.all tM=true/\us[j]?=some u/\uV u y=true/\(∀i z,i<j->us[i]?=some z->uV z y=false)/\Q (.int (j:Int)) H):=by
 intro z8 s σ H x xs v us' Q I rx rs h;obtain⟨a,us,y,j,u,rfl,rfl,sq,fy,fu,eu,hit,no,q⟩:=h;cases rx;obtain⟨w,rfl,ry⟩:=ub rs;obtain⟨its,r,pt,hz⟩:=I.tuple sq;have hl:=r.length;have hj:j<us.length:=(yM.mp eu).1
 have key:∀(i:Nat)(z:V)(hi:i<its.toArray.size),us[i]?=some z->vo y its.toArray[i]=uV z y:=λi z hi ez=>by
  obtain⟨t,et,rt⟩:=r.get ez
  have e:its.toArray[i]=t:=by
   have h2:its[i]?=some its[i]:=yZ (by rw[ya]at hi; exact hi);rw[h2]at et;simpa using et
  rw[e];exact Jj rt (wm.mp fu z (wK ez))
 have hjs:j<its.toArray.size:=by rw[ya,<-hl]; exact hj
 refine gW PySem.F.slot_tuple_index pt.typeIs PySem.F.entry_tuple_index (PySem.F.args_tuple_index_2 _ _) (nQ a its.toArray w (vo y) j hjs (by rw[key j u hjs eu]; exact hit) λm hm hlt=>?_) ⟨pt,λt ht=>?_,⟨.int j,H,I.tok _,⟨_,rfl⟩,q⟩⟩
 ·have hm':m<us.length:=by rw[ya,<-hl]at hm; exact hm
  rw[key m us[m] hm (yZ hm')];exact no m _ hlt (yZ hm')
 ·exact Y5 ry fy r fu t (by simpa using ht)
def q_(K:W.Frag)(A:Addr):Prop:=∃o,K.lookup A=some o/\o.cls=.type "tuple" /\ o.dict=none
def DS(ds:List D)(y:D):Option D:=PL (.lst ds) y
theorem fX{A:Addr}{ds:List D}(h:yn X.mg x (.ref A))(r:∀H,zY X.K H (.tup ds) (.ref A))(kt:q_ X.K A)(hg:Gl X x)(he:SE X e f)(hd:(x==("__debug__" : Str))=false:=by decide)
  (hbase:attributeBase (.Name x xp) "index" X.env (eval (.Name x xp) X.env)=eval (.Name x xp) X.env:=by rfl)(hline:(apos.endLine==cpos.line)=true:=by rfl)(hs:xM e=true:=by rfl) :
  SE X (.Call (.Attribute (.Name x xp) "index" apos) [e] [] cpos) (e1 (DS ds) f):=by
 obtain⟨te,pe,ke⟩:=(zG he zN hs).h;refine⟨⟨_,(YF PySem.F.plainAttrs_tuple PySem.F.slot_tuple_index PySem.F.type_tuple_index A0 (ce h hg hd) ⟨pe⟩ hbase hline (by rw[xz,hs]; rfl) (by show 1<30; decide)).h,λ{G0 H0 G H τ σ d Q} E hf q=>?_⟩⟩;obtain⟨y,hy,hf⟩:=zM hf;refine⟨.inr (.inl ⟨rfl,kt⟩),ke E (ds:=[y]) (by unfold zC; rw[hy]; rfl) λws G2 H2 x2 r2=>?_⟩;obtain⟨w,rfl,rw_⟩:=qe r2;obtain⟨a,us,ea,sq,rs,_⟩:=r G2;cases ea
 change (match xF y&&ds.all xF with|true=>(Xm y ds 0).bind λn=>some (D.int n)|false=>none)=some d at hf
 cases c:(xF y&&ds.all xF)with
 |false=>rw[c]at hf; cases hf
 |true=>
  rw[c]at hf;obtain⟨n,hn,hf⟩:=zM hf;cases hf;rw[xB]at c;obtain⟨j,z,e1,e2,e3,e4⟩:=FC hn;rw[xn]at e1;subst e1;obtain⟨u,eu,ru⟩:=rs.get e2;have fl:∀{i:Nat}{z:D},ds[i]?=some z->xF z=true:=λ{i z} ez=>wm.mp c.2 z (wK ez)
  refine⟨A,us,w,n,u,rfl,rfl,uK x2.gh sq,kf c.1 rw_,(Q4 c.1 rw_ rs c.2).1,eu,by rw[WC (fl e2) c.1 ru rw_]; exact e3,λi z hi ez=>?_,q _ _ _ x2 rfl⟩;obtain⟨dz,ed,rd⟩:=rs.at ez;rw[WC (fl ed) c.1 rd rw_];exact e4 i dz hi ed
def wR(i:Int):Nat:=Builtin.Int.intBits i
def Jv:D->D->Option D:=fI (λi j=>decide (wR i+wR j<=134217728)) (·*·)
theorem a_:yT X (binaryOp .Mult) (rI (λi j=>wR i+wR j<=134217728) λi j=>.int (i*j)):=W2 λi j _ _ _ _ _ hc q=>mul_int q (by
 unfold IntMulOk;intro h;rw[xB]at h;have h2:decide (((Builtin.Int.intBits i+Builtin.Int.intBits j:Nat):Int)>(134217728:Nat))=true:=h.2;have h3:=vQ h2;have h4:Builtin.Int.intBits i+Builtin.Int.intBits j<=134217728:=hc;omega)
theorem aL{K:W.Frag}:uB K (rI (λi j=>wR i+wR j<=134217728) λi j=>.int (i*j)) Jv:=Y9 λ_ _ h=>vQ h
end
open PySem.W
theorem Hu:∀{ns:List Int}{m:Int},m∈ns->wR m<=WData.weightAll (ns.map WData.int)
 | [],_,h=>by cases h
 |n::ns,m,h=>by
  have e:WData.weightAll ((n::ns).map WData.int)=wR n+1+WData.weightAll (ns.map WData.int):=by
   show WData.weightAll (WData.int n::ns.map WData.int)=_;rw[WData.weightAll];rfl
  rw[e];rcases yI.mp h with rfl|h
  ·omega
  ·have:=Hu h;omega
theorem Sf{ns:List Int}(h:WData.layableAll [.list (ns.map WData.int)]=true):∀m∈ns,wR m<=1048576:=λm hm=>by
 have h1:WData.layable (.list (ns.map WData.int))=true:=wm.mp h _ (yt.mpr rfl);unfold WData.layable at h1;rw[xB]at h1;have h2:WData.weight (.list (ns.map WData.int))<=2 ^ 20:=vQ h1.2;have h3:=Hu hm;have h4:WData.weight (.list (ns.map WData.int))=WData.weightAll (ns.map WData.int):=by rw[WData.weight]
 omega
section
variable{P:Program}{w:World}{K:W.Frag}{mg:Str->Option Value}{base:Heap}
def VD(K:W.Frag):Sp:=λvs H Q _=>∃(a:Addr) (ns:List Int),vs=[.ref a]/\yG K H a (ns.map V.int)/\ns.length<=63/\(∀m∈ns,wR m<=1048576)/\∀H',Q (.bl true) H'
theorem Se{x:Str}{st:Stmt}{N:List Str}{k:Nat}{b:FS}{f:Addr}{fd:FuncData}(d:jd K "law" "law" st f fd)(S:yS N [x] (yB st))(hN:1<=N.length)(hrun:∀ns:List Int,ns.length<=63->(∀m∈ns,wR m<=1048576)->∃o,zh N.length b [.lst (ns.map D.int)]=some (o,.bl true))
  (hb:∀(cdv:Value)(A:Around)(outer:List Env)(s:Shared)(H:Hp)(E:XK),xX k (A.deeper (envOfC "law" (yB st) s.heap.objs.size f cdv))->uR (j9 ui P w K mg base N "law" (yB st) f cdv A outer s H E).nox (p6 st) b):uq P w K mg base ui (k+1) f fd [x] (VD K):=by
 refine d.ok S (λvs H Q E h=>?_) λcdv A outer s H vs Q E hr h=>?_
 ·obtain⟨a,ns,rfl,_⟩:=h;rfl
 ·obtain⟨a,ns,rfl,sq,l,hbits,q⟩:=h;obtain⟨o,hrun⟩:=hrun ns l hbits;obtain⟨t,p,kt⟩:=(hb cdv A outer s H E hr).h;obtain⟨fl,hfl,hrun⟩:=zM hrun;have r:Reps K H [.lst (ns.map D.int)] [.ref a]:=⟨_,_,rfl,⟨a,_,rfl,sq,Reps.ints,by rw[zj]; exact small (by omega)⟩,rfl⟩;refine⟨t,p,kt (DO (N:=N) (zx.refl H) r hN) hfl ?_⟩;cases fl with
  |nx τ=>cases hrun
  |rt o' d'=>
   cases hrun;cases o with
   |false=>
    intro v G H' _ r;cases(show v=.bl true from r);exact q H'
   |true=>exact λp G H' _ _ _ z=>z.elim
  |_=>cases hrun
end
theorem walkB{l:W.OpenLaw}{n k:Nat}{q:Program}{loose:List Str}{XP:(Str->Option Value)->Heap->Prop}{YP:World->Heap->Prop}{d:DefRec}{K:Params->W.Frag}{sp:W.Frag->Sp}{x:Str}
  (hn:l.most=some n)(hn2:n<=sizeLine)(hdf:d.params.defaults=[])(hr:xX k callerA)(hY:∀(w:World)(h:Heap),YP w h->(K w.params).In h)
  (F:∀(w:World)(mg:Str->Option Value)(fa:Addr)(h:Heap),(K w.params).In h->h.Ns mainGlobals mg->mg d.name=some (.ref fa)->
   ∃fd:FuncData,(∀(s:Shared)(u:Value),BindsTo s fd ⟨[u],[]⟩ [(x,u)])/\∀base:Heap,(K w.params).In base->base.Ns mainGlobals mg->uq l.prog w (K w.params) mg base ui k fa fd [x] (sp (K w.params)))
  (hsp:∀(K:W.Frag)(H:Hp)(a:Addr)(ns:List Int),ns.length<=n->(∀m∈ns,wR m<=1048576)->yG K H a (ns.map V.int)->sp K [.ref a] H (λv _=>v=.bl true) λ_ _ _=>False) :
  W.WalkO q loose XP YP l.row.toRowW d [] (λf vs=>PySem.call f vs):=by
 intro w s0 s1 mg mb Gr Y fa o pm cd doc dV kV ho hd hcd hD hmg hg args vals as hpre hlay hrd hwl hlo;have e1:dV=.none:=Dflts.none hD hdf;have e2:kV=.none:=Dflts.noKw hD;subst e1 e2;obtain⟨a,vs,ns,rfl,rfl,hobj,hints,hlen⟩:=Att.script_of hn hpre hwl;have KX:=hY w _ Y;obtain⟨fd,hb,hF⟩:=F w mg fa _ KX Gr.T.g hmg;have main:=Sd KX Gr.T.g Gr.T.b Gr.T.builtins Gr.T.nolimit hg hobj hints (wX hlen hn2) hr hF hb (λH _ hS=>hsp _ H a ns hlen (Sf hlay) hS) (λ_ _ _ z=>z);refine enter_call (ZJ main λr s' hq=>?_);obtain⟨rfl,h2,h3,h4⟩:=hq;refine⟨.inl ⟨.bool true,.bool true,[],rfl,λ_=>rfl,.bool true,Att.post_true l _,λ_=>?_⟩,h2,h3,h4⟩;exact⟨List.Pairwise.nil,λ_ hm=>nomatch hm⟩
end L3
namespace L3
open PySem PySem.Spec PyProof.Rows L2
theorem Pg{prog:Program}{w:World}{A:Around}{E:Value->Shared->Prop}{s:Shared}{a:Addr}{o:Obj}{xs:Array Value}{k:Nat}{name:Str}{Q:Option Value->Shared->Prop}
  (hx:s.heap.get? a=some o)(hc:o.cls=.type "list")(hdat:o.data=.seq xs k)(hd:o.dict=none)(hmiss:typeLookup (.type "list") name=pure none)
  (hname:(["__module__", "__name__", "__qualname__", "__doc__", "__annotations__"]:List Str).contains name=false)(hA:A.handled=none)
  (h:∀h' tk,(∀b ob,s.heap.get? b=some ob->h'.get? b=some ob)->Q none { s with heap:=h',toks:=tk })(hsz:name.length+100<=sizeLine) :
  wpAny (model prog w) A (getAttr? (.ref a) name) Q E s:=by
 obtain⟨c,dct,dat,sl⟩:=o;simp only at hc hdat hd;subst hc hdat hd;obtain⟨hp,g,d,tk,os⟩:=s;have hT:∀tk',(⟨hp,g,d,tk',os⟩:Shared).TypeIs (.ref a) "list" := λ_=>⟨_,hx,rfl⟩
 have f1:=sub_AttributeError;have f3:=MU.lookup;have f4:=MU.bind (.ref a);have f5:=am_list_getattr_none;unfold getAttr? getAttrBy? getAttrBy
 repeat (any_goals (first|assumption|exact hT _|((with_reducible show wpAny _ _ (call (Value.builtin "list.__getattribute__") _ _) _ _ _); refine gW MU (hT _) am_entry_list_getattribute (F.args_list_getattribute_2 _ _) (meets_getattribute_miss_list a xs k sl name _ hmiss hname hsz) ⟨hx,hA,λh' tk' e hx'=>?_⟩)|wp_step))
 obtain⟨t',u',he⟩:=hx'.there;show wpAny _ _ (getattributeRaised _ _ _ _ _ _ _) _ _ _;unfold getattributeRaised
 repeat (any_goals (first|assumption|wp_step))
 exact h _ _ hx'.keeps
theorem Tu:plainId "dict.update.loop" = true:=by decide +kernel
theorem DN:entryFor table "dict.update.loop" = some Builtin.«dict.update.loop»:=entryFor_of_fast (by kernel_rfl)
theorem _root_.PySem.Heap.DictOf.keepB{prog:Program}{w:World}{h h':Heap}{a:Addr}{kvs:List (Key×Value)}(hm:h.DictOf (y_ prog w) a kvs)(k:∀o,h.get? a=some o->h'.get? a=some o):h'.DictOf (y_ prog w) a kvs:=
 let ⟨o',es,ep,ho,r⟩:=hm; ⟨o',es,ep,k _ ho,r⟩
theorem l_(kvs:List (Key×Value))(k:Key)(v:Value):(stored kvs k v).length<=kvs.length+1:=by
 unfold stored
 split
 ·rw[zj]; omega
 ·rw[yD]; exact zt _
def JK(h:Heap)(v:Value)(k:Key)(x:Value):Prop:=∃b key,v=.ref b/\vT k key=true/\IsTup h b #[key,x]
theorem Hn{prog:Program}{w:World}{A:Around}{R:Result->Shared->Prop}{d it l:Addr}{its:List Value}(hA:A.handled=none)(hdl:d≠l)(hdi:d≠it)(hli:l≠it) :
  ∀(kvs:List (Key×Value)) (i:Nat) (acc:List (Key×Value)) (s:Shared),s.heap.IsListIter it l i->s.heap.IsList l its.toArray->i+kvs.length=its.length->(∀j kv,kvs[j]?=some kv->∃v,its[i+j]?=some v/\JK s.heap v kv.1 kv.2)->
   s.heap.DictOf (y_ prog w) d acc->acc.length+kvs.length<=sizeLine->(∀h' tk,h'.DictOf (y_ prog w) d (kvs.foldl (λa kv=>stored a kv.1 kv.2) acc)->(∀b o,b≠d->b≠it->s.heap.get? b=some o->h'.get? b=some o)->R (.ok (.ret .none)) { s with heap:=h',toks:=tk })->
   wpAny (model prog w) A.in1 (Builtin.«dict.update.loop» ⟨[.ref d,.ref it,rawInt i,.none],[]⟩) (λfin s'=>match fin with|.done f=>R (.ok f) s'|.again c'=>c'.quiet=true/\codeAny (model prog w) A c' R s') (λe s'=>R (.error e) s') s
 | [],i,acc,s,st,hl,hn,hp,hd,hz,h=>by
  unfold Builtin.«dict.update.loop»;refine zE (J2 (by exact hA) st hl (by simp at hn ⊢; omega) λh' eb=>?_);show wpAny _ _ (Builtin.Dict.addKeywords d [] >>= _) _ _ _;refine zE (zX (zX ?_));exact h h' s.toks (hd.keepB λo e=>eb d o hdi e) (λb o _ hb e=>eb b o hb e)
 |kv::kvs,i,acc,s,st,hl,hn,hp,hd,hz,h=>by
  obtain⟨v,hv,b,key,rfl,hk,ht⟩:=hp 0 kv rfl;unfold Builtin.«dict.update.loop»;refine zE (J3 st hl (x:=.ref b) (by simpa using hv) λh1 st1 sb=>?_);have keep1:∀c o,c≠it->s.heap.get? c=some o->h1.get? c=some o:=λc o hc e=>(sb.2 c hc).trans e
  have notIt:∀{c:Addr}{xs:Array Value},IsTup s.heap c xs->c≠it:=λ{c xs} t e=>by
   subst e;obtain⟨o,e1,c1,_⟩:=t;obtain⟨o',e2,c2,_⟩:=st;rw[e1]at e2;cases e2;rw[c1]at c2;exact absurd (Value.type.inj c2) (by decide)
  have notD:∀{c:Addr}{xs:Array Value},IsTup s.heap c xs->c≠d:=λ{c xs} t e=>by
   subst e;obtain⟨o,e1,c1,_⟩:=t;obtain⟨o',es,ep,e2,c2,_⟩:=hd;rw[e1]at e2;cases e2;have c3:=c2.1;rw[c1]at c3;exact absurd (Value.type.inj c3) (by decide)
  obtain⟨o,ho,hc,n,hdat⟩:=ht;have ho1:=keep1 b o (notIt ⟨o,ho,hc,n,hdat⟩) ho;have hd1:h1.DictOf (y_ prog w) d acc:=hd.keepB λo e=>keep1 d o hdi e
  refine zE (t9 (zE (wpAny_tryCatch ?_)));unfold Builtin.Dict.pairItems;refine zE (X7 (T := "tuple") ⟨o,ho1,hc⟩ ?_);rw[zK (by rfl)];refine zE (qo ho1 hdat (zX ?_));refine t9 (wpAny_dictSet_pairs (knd:=y_ prog w) (k:=kv.1) hk hd1 (λh2 hd2 sb2=>?_) (by omega));refine zX ⟨X0 Tu _,tf DN ?_⟩;rw[gR Tu _];have keep2:∀c o,c≠d->c≠it->s.heap.get? c=some o->h2.get? c=some o:=λc o h1' h2' e=>(sb2.2 c h1').trans (keep1 c o h2' e)
  have key2:∀{c:Addr}{xs:Array Value},IsTup s.heap c xs->IsTup h2 c xs:=λ{c xs} t=>by
   have a1:=notD t;have a2:=notIt t;obtain⟨o,e1,r⟩:=t;exact⟨o,keep2 c o a1 a2 e1,r⟩
  refine Hn (its:=its) hA hdl hdi hli kvs (i+1) (stored acc kv.1 kv.2) _ ?_ ?_ (by rw[xK]at hn; omega) (λj kv' e=>?_) hd2 ?_ λh' tk hd' kp=>?_
  ·exact st1.at λo e=>(sb2.2 it (λz=>hdi z.symm)).trans e
  ·obtain⟨o,e,r⟩:=hl;exact⟨o,keep2 l o (λz=>hdl z.symm) hli e,r⟩
  ·obtain⟨v',hv',b',key',rfl,hk',ht'⟩:=hp (j+1) kv' (by simpa using e);exact⟨_,by rw[show i+1+j=i+(j+1) by omega]; exact hv',b',key',rfl,hk',key2 ht'⟩
  ·have:=l_ acc kv.1 kv.2;rw[xK]at hz;omega
  ·exact h h' tk hd' λc o h1' h2' e=>kp c o h1' h2' (keep2 c o h1' h2' e)
theorem NQ{prog:Program}{w:World}{A:Around}{E:Value->Shared->Prop}{s:Shared}{l:Addr}{o:Obj}{its:List Value}{n:Nat}{kvs:List (Key×Value)}{Q:Value->Shared->Prop}(hA:A.handled=none)(ho:s.heap.get? l=some o)(hc:o.cls=.type "list")(hdd:o.dict=none)(hdat:o.data=.seq its.toArray n)
  (hn:kvs.length=its.length)(hp:∀(j:Nat)(kv:Key×Value),kvs[j]?=some kv->∃v,its[j]?=some v/\JK s.heap v kv.1 kv.2)(hz:kvs.length<=sizeLine)
  (h:∀h' tk,h'.DictOf (y_ prog w) s.heap.objs.size (kvs.foldl (λa kv=>stored a kv.1 kv.2) [])->(∀b o,s.heap.get? b=some o->h'.get? b=some o)->Q (.ref s.heap.objs.size) { s with heap:=h',toks:=tk }) :
  wpAny (model prog w) A (call (.type "dict") [.ref l]) Q E s:=by
 refine callType_codes (Q₁:=λobj s₁=>obj=.ref s.heap.objs.size/\s₁={ s with heap:=s.heap.push { cls:=.type "dict",data:=.dict #[] } }) F.kt_called_dict (F.kt_typeCall_dict_1 _) F.entry_dict_init (kt_code_dict_new _ ⟨rfl,rfl⟩) ?_;rintro obj s₁ ⟨rfl,rfl⟩;have hnew:(s.heap.push { cls:=.type "dict",data:=.dict #[] }).DictOf (y_ prog w) s.heap.objs.size []:=Heap.DictOf.new s.heap;refine⟨hnew.typeIs,F.args_dict_init_2 _ _,?_⟩;unfold Builtin.«dict.__init__»;refine zE ?_;unfold Builtin.Dict.selfAndRest;refine zE (wpAny_notOrdered_dict hnew.typeIs ?_);show wpAny _ _ (pure (s.heap.objs.size,[Value.ref l])) _ _ _;refine zX ?_;show wpAny _ _ (Builtin.Dict.updateFrom "dict.__init__" s.heap.objs.size (.ref l) [] .none) _ _ _;unfold Builtin.Dict.updateFrom;have hlt:=Heap.lt_size ho;have ho1:(s.heap.push { cls:=.type "dict",data:=.dict #[] }).get? l=some o:=Heap.get?_push_of_some _ ho;refine zE (X7 (T := "list") ⟨o,ho1,hc⟩ ?_);rw[zK (by rfl)];refine zE (Pg (o:=o) ho1 hc hdat hdd (am_miss_of_fast (by kernel_rfl)) (by decide) (by exact hA) (λh1 tk1 kp1=>?_) (by decide));rw[zK (by rfl)];have hd1:h1.DictOf (y_ prog w) s.heap.objs.size []:=hnew.keepB λo e=>kp1 _ _ e
 have ho2:h1.get? l=some o:=kp1 _ _ ho1;have hl1:h1.IsList l its.toArray:=⟨o,ho2,hc,n,hdat⟩
 have hd1lt:s.heap.objs.size<h1.objs.size:=by
  obtain⟨o',_,_,e,_⟩:=hd1;exact Heap.lt_size e
 show wpAny _ _ (pure () >>= _) _ _ _;refine zE (zX (zE ?_));refine X3 (s:={ s with heap:=h1,toks:=tk1 }) hl1 ?_;refine zX ⟨X0 Tu _,tf DN ?_⟩;rw[gR Tu _];have k0:∀b ob,s.heap.get? b=some ob->(h1.push { cls:=.type "list_iterator",data:=.fields #[.ref l,.int 0 0] }).get? b=some ob:=λb ob e=>Heap.get?_push_of_some _ (kp1 b ob (Heap.get?_push_of_some _ e))
 refine Hn (l:=l) (its:=its) (A:=A.in1) (by exact hA) (yi (ud hlt)) (yi (xh hd1lt)) (yi (xh (Qt hlt hd1lt))) kvs 0 [] _ ⟨_,Heap.get?_push_size _ rfl,rfl,rfl⟩ ⟨o,k0 l o ho,hc,n,hdat⟩ (by rw[xn]; exact hn) (λj kv e=>?_) (hd1.push _) (by simpa using hz) λh' tk hd' kp=>?_
 ·obtain⟨v,hv,b,key,rfl,hk,o',e1,r⟩:=hp j kv e;exact⟨_,by rw[xn]; exact hv,b,key,rfl,hk,o',k0 b o' e1,r⟩
 ·refine⟨rfl,h h' tk hd' λb ob e=>?_⟩;have hb:=Heap.lt_size e;exact kp b ob (yi (xh hb)) (yi (xh (Qt hb hd1lt))) (k0 b ob e)
section
variable{X:Cx}
theorem El{z8:List (Addr×Obj)}{σ:St}{H:Hp}{s:Shared}(I:Inv X z8 σ H s):∀{kvs:List (Key×V)} {vs:List V} {its:List Value},zf vs its->kvs.length=vs.length->(∀(j:Nat)(kv:Key×V),kvs[j]?=some kv->∃b,vs[j]?=some (V.ref b)/\xE X.K H b [kV kv.1,kv.2])->
  ∃ws:List (Key×Value),KV kvs ws/\∀(j:Nat)(kw:Key×Value),ws[j]?=some kw->∃v,its[j]?=some v/\JK s.heap v kw.1 kw.2
 | [],_,_,_,_,_=>⟨[],.nil,λj kw e=>by cases e⟩
 |kv::kvs,[],_,_,h,_=>by cases h
 |kv::kvs,_::vs,_::its,.cons r t,h,hp=>by
  obtain⟨ws,rk,hw⟩:=El I t (by simpa using h) λj kv' e=>by
   obtain⟨b,e1,q⟩:=hp (j+1) kv' (by simpa using e);exact⟨b,by simpa using e1,q⟩
  obtain⟨b,e1,sq⟩:=hp 0 kv rfl;cases e1;obtain⟨is,ri,pt,_⟩:=I.tuple sq;obtain⟨key,x,rfl,rkey,rx⟩:=Lx ri;refine⟨(kv.1,x)::ws,.cons ⟨rfl,rx⟩ rk,λj kw e=>?_⟩;cases j with
  |zero=>
   cases e;exact⟨_,rfl,b,key,r,jH (P:=X.prog) (w:=X.w) rkey,pt⟩
  |succ j=>
   obtain⟨v,e2,q⟩:=hw j kw (by simpa using e);exact⟨v,by simpa using e2,q⟩
def cq(K:W.Frag):List V->Hp->VK->Prop:=λxs H Q=>∃a vs kvs,xs=[.ref a]/\yG K H a vs/\kvs.length=vs.length/\(∀(j:Nat)(kv:Key×V),kvs[j]?=some kv->∃b,vs[j]?=some (.ref b)/\xE K H b [kV kv.1,kv.2])/\∀p,H p=none->Q (.ref p) (ze H p (.dK (jJ [] kvs)))
theorem NP(hcalm:X.calm=true):wr X (.type "dict") (cq X.K):=by
 intro z8 s σ H xs us Q I r h;obtain⟨a,vs,kvs,rfl,sq,hl,hp,q⟩:=h;obtain⟨u,rfl,ru⟩:=ub r;cases(show u=Value.ref a from ru);obtain⟨its,rv,⟨o,n,ho,hc,hdd,hdat⟩,hz⟩:=I.list sq;obtain⟨ws,rk,hw⟩:=El I rv hl hp;have hlw:ws.length=its.length:=by rw[<-rk.length,hl,rv.length]
 refine NQ (I.ok.hd hcalm) ho hc hdd hdat hlw hw (by rw[hlw,<-rv.length]; exact hz) λh' tk dd kp=>?_
 have hle:(jJ [] kvs).length<=sizeLine:=by
  have h1:=Fx kvs [];rw[Yt]at h1;omega
 have hm:(s.heap.objs.size==sysModules)=false:=by
  have:=I.big;rw[pT];exact yi (ud this)
 exact⟨.ref s.heap.objs.size,_,I.laid (a:=s.heap.objs.size) (o:=.dK (jJ [] kvs)) (t':=tk) kp (zt _) (DE hle hm (rk.merge .nil) dd),rfl,q _ I.fresh⟩
end
def pD:List D->Option (List (Sum Int Str)×List D)
 | []=>some ([],[])
 |.tup [k,v]::r=>(qE k).bind λk=>(pD r).bind λp=>some (k::p.1,v::p.2)
 |_=>none
def xO{α:Type}:List (Sum Int Str)->List α->List (Sum Int Str)->List α->List (Sum Int Str)×List α
 |ks,ds,k::r,v::q=>xO (wN ks k) (wV ks ds k v) r q
 |ks,ds,_,_=>(ks,ds)
def kD:List D->Option D
 | [.lst xs]=>(pD xs).bind λp=>some (.dic (xO [] [] p.1 p.2).1 (xO [] [] p.1 p.2).2)
 |_=>none
theorem GD:∀{ks:List Key}{us:List V}{as:List Key}{vs:List V},ks.length=us.length->as.length=vs.length->jJ (as.zip vs) (ks.zip us)=(xO as vs ks us).1.zip (xO as vs ks us).2/\(xO as vs ks us).1.length=(xO as vs ks us).2.length
 | [],[],as,vs,_,h=>⟨rfl,h⟩
 |k::ks,u::us,as,vs,h1,h2=>by
  have ih:=GD (ks:=ks) (us:=us) (as:=wN as k) (vs:=wV as vs k u) (by simpa using h1) (kX h2);refine⟨?_,ih.2⟩;show jJ (vy (as.zip vs) k u) (ks.zip us)=_;rw[KA h2];exact ih.1
theorem GC{K:W.Frag}{G:Hp}:∀{ks:List Key}{es:List D}{us:List V}{as:List Key}{ds:List D}{vs:List V},Reps K G es us->Reps K G ds vs->ks.length=us.length->as.length=vs.length->Reps K G (xO as ds ks es).2 (xO as vs ks us).2/\(xO as ds ks es).1=(xO as vs ks us).1
 | [],es,us,as,ds,vs,r1,r2,h1,h2=>by
  have e1:xO as ds [] es=(as,ds):=by unfold xO; rfl
  have e2:xO as vs [] us=(as,vs):=by unfold xO; rfl
  rw[e1,e2];exact⟨r2,rfl⟩
 |k::ks,es,[],as,ds,vs,r1,r2,h1,h2=>by cases h1
 |k::ks,[],u::us,as,ds,vs,r1,r2,h1,h2=>by cases(show _=[]from r1)
 |k::ks,e::es,_::_,as,ds,vs,r1,r2,h1,h2=>by
  obtain⟨v,r,ev,hv,hr⟩:=r1;cases ev;exact GC (ks:=ks) (es:=es) (as:=wN as k) hr (r2.put hv) (by simpa using h1) (kX h2)
theorem GB{α:Type}:∀{ks:List Key}{es:List α}{as:List Key}{ds:List α},as.length=ds.length->(xO as ds ks es).2.length<=ds.length+es.length
 | [],es,as,ds,_=>by
  have e:xO as ds [] es=(as,ds):=by unfold xO; rfl
  rw[e];exact ZE _ _
 |_::_,[],as,ds,_=>by
  have e:∀k ks,xO as ds (k::ks) ([]:List α)=(as,ds):=λ_ _=>by unfold xO; rfl
  rw[e];exact ZE _ _
 |k::ks,e::es,as,ds,h=>by
  have ih:=GB (ks:=ks) (es:=es) (as:=wN as k) (ds:=wV as ds k e) (kX h);have:=GG (ks:=as) (vs:=ds) (k:=k) (v:=e) h;show(xO (wN as k) (wV as ds k e) ks es).2.length<=_;rw[xK];omega
theorem FW{K:W.Frag}{G:Hp}:∀{xs:List D}{vs:List V}{ks:List Key}{ds:List D},pD xs=some (ks,ds)->Reps K G xs vs->∃us,Reps K G ds us/\ks.length=us.length/\ks.length=vs.length/\∀(j:Nat)(kv:Key×V),(ks.zip us)[j]?=some kv->∃b,vs[j]?=some (V.ref b)/\xE K G b [kV kv.1,kv.2]
 | [],_,_,_,h,r=>by
  cases h;cases(show _=[]from r);exact⟨[],rfl,rfl,rfl,λj kv e=>by cases e⟩
 |x::xs,_,ks,ds,h,r=>by
  obtain⟨v,r',rfl,hv,hr⟩:=r;unfold pD at h
  split at h
  ·rename_i e; cases e
  ·rename_i k y r2 e;cases e;obtain⟨key,hk,h⟩:=zM h;obtain⟨⟨ks2,ds2⟩,h2,h⟩:=zM h;cases h;obtain⟨us,q1,q2,q3,q4⟩:=FW h2 hr;obtain⟨b,ws,rfl,sq,⟨u1,_,rfl,hu1,⟨u2,_,rfl,hu2,e3⟩⟩,_⟩:=hv;cases(show _=[]from e3);refine⟨u2::us,⟨u2,us,rfl,hu2,q1⟩,by rw[xK,xK,q2],by rw[xK,xK,q3],λj kv e=>?_⟩;cases j with
   |zero=>
    cases e;refine⟨b,rfl,?_⟩;rw[<-kL hk hu1];exact sq
   |succ j=>
    obtain⟨b',e1,e2⟩:=q4 j kv (by simpa using e);exact⟨b',by simpa using e1,e2⟩
  ·cases h
theorem LY{X:Cx}{e:Expr}{fs:FA}{p pos:Pos}(hcalm:X.calm=true)(hg:Gl X "dict")(hm:X.mg "dict" = none)(hv:bootBuiltins "dict" = some (.type "dict"))(ha:SA X [e] fs)(hs:xM e=true:=by rfl):SF X (.Call (.Name "dict" p) [e] [] pos) (eL kD fs):=by
 obtain⟨t,pt,k⟩:=ha.h;refine⟨⟨_,(YG (NP hcalm) hg hm hv ⟨pt⟩ (by decide) (by decide) (by rw[xz,hs]; rfl)).h,λ{G0 H0 G H τ σ d Q} E hf q=>?_⟩⟩;obtain⟨ds,hd,hf⟩:=zM hf;refine k E hd λvs G1 H1 x1 r1=>?_
 unfold kD at hf
 split at hf
 ·rename_i xs;obtain⟨⟨ks,es⟩,hk,hf⟩:=zM hf;cases hf;obtain⟨v,rfl,a,ws,rfl,sq,rs,l⟩:=qe r1;obtain⟨us,q1,q2,q3,q4⟩:=FW hk rs;obtain⟨z1,z2⟩:=GD (ks:=ks) (us:=us) (as:=[]) (vs:=[]) q2 rfl;obtain⟨z3,z4⟩:=GC (ks:=ks) (as:=[]) (ds:=[]) (vs:=[]) q1 rfl q2 rfl;refine⟨a,ws,ks.zip us,rfl,v8 x1.gh sq,by rw[List.length_zip,q2,Qu,<-q2,q3],λj kv e=>?_,λp hp=>?_⟩
  ·obtain⟨b,e1,e2⟩:=q4 j kv e;exact⟨b,e1,uK x1.gh e2⟩
  ·refine q p _ _ (x1.trans (zT.layO x1.gh hp)) (x1.h.free hp) (x1.gh.free hp) ⟨(xO [] [] ks us).2,?_,?_,z3,?_⟩
   ·show ze H1 p (.dK (jJ [] (ks.zip us))) p=some (.dK ((xO [] [] ks es).1.zip (xO [] [] ks us).2));rw[xJ,z4];exact congrArg (λx=>some (HO.dK x)) z1
   ·show(xO [] [] ks es).1.length=_;rw[z4];exact z2
   ·have:=GB (ks:=ks) (es:=es) (as:=[]) (ds:=[]) rfl;have e1:es.length=ws.length:=by rw[<-q1.length,<-q2,q3]
    rw[rs.length]at e1;show(xO [] [] ks es).2.length<=sizeLine;simp only[Yt,xn]at this;omega
 ·cases hf
open PyProof Builtin Builtin.Str
section
variable{X:Cx}{e o a b c:Expr}{f fo fa fb fc:FE}{x:Str}{xp p pos apos cpos:Pos}
def kz:List D->Option (List Str)
 | []=>some []
 |.str z::r=>(kz r).bind λts=>some (z::ts)
 |_=>none
def Js:D->D->Option D
 |.str sep,.lst xs=>(kz xs).bind λts=>if(ts.map (·.length)).sum+ts.length*sep.length<=yK then some (.str (glued sep ts))else none
 |_,_=>none
theorem HV{K:W.Frag}{G:Hp}:∀{xs:List D}{vs:List V}{ts:List Str},kz xs=some ts->Reps K G xs vs->vs=ts.map V.str
 | [],_,_,h,r=>by
  cases h;exact r
 |x::xs,_,ts,h,r=>by
  obtain⟨v,r',rfl,hv,hr⟩:=r;unfold kz at h
  split at h
  ·rename_i e; cases e
  ·rename_i z r2 e;cases e;obtain⟨ts2,h2,h⟩:=zM h;cases h;rw[xT,(show v=_/\_ from hv).1,HV h2 hr]
  ·cases h
theorem fe(ho:SE X o fo)(he:SB X e f)(hbase:attributeBase o "join" X.env (eval o X.env)=eval o X.env:=by rfl)(hline:(apos.endLine==cpos.line)=true:=by rfl)(hs:xM e=true:=by rfl) :
  SE X (.Call (.Attribute o "join" apos) [e] [] cpos) (e2 Js fo f):=by
 obtain⟨to,po,ko⟩:=ho.h;obtain⟨te,pe,ke⟩:=(xf he xl hs).h;refine⟨⟨_,(YF PySem.F.plainAttrs_str PySem.F.slot_str_join PySem.F.type_str_join A3 ⟨po⟩ ⟨pe⟩ hbase hline (by rw[xz,hs]; rfl) (by show 1<30; decide)).h,λ{G0 H0 G H τ σ d Q} E hf q=>?_⟩⟩;obtain⟨x,hx,hf⟩:=zM hf;obtain⟨y,hy,hf⟩:=zM hf;refine ko E hx λv G1 H1 x1 r1=>?_
 cases x with
 |str sep=>
  obtain⟨rfl,l1⟩:=r1;refine⟨rfl,ke (E.go x1) (ds:=[y]) (by unfold zC; rw[hy]; rfl) λws G2 H2 x2 r2=>?_⟩;obtain⟨w,rfl,rw_⟩:=qe r2;cases y with
  |lst xs=>
   obtain⟨ts,hts,hf⟩:=zM hf;obtain⟨aa,vs,rfl,sq,rs,_⟩:=rw_;have ev:=HV hts rs;subst ev;by_cases cc:(ts.map (·.length)).sum+ts.length*sep.length<=yK
   ·rw[zK cc]at hf;cases hf;have c':(ts.map (·.length)).sum+ts.length*sep.length<=sizeLine:=by rw[w8]; exact cc
    exact⟨sep,aa,ts,rfl,rfl,sq,c',q _ _ _ (x1.trans x2) ⟨rfl,wX (Df sep ts) c'⟩⟩
   ·rw[zL cc]at hf;cases hf
  |_=>cases hf
 |_=>cases hf
theorem lg{i:Nat}{nm:Str}{id:String}{rm:V->List V->Hp->VK->Prop}{F:D->Option D}(slot:Slot "list" nm id)(hty:typeOf (.builtin id)=pure (.type "method_descriptor"))(hm:gx X id rm)
  (hF:∀(G H:Hp)(ds:List D)(vs:List V)(a:Addr)(d':D)(Q:VK),H a=some (.lst vs)->Reps X.K G ds vs->ds.length<=sizeLine->F (.lst ds)=some d'->(∀ws es,d'=.lst es->Reps X.K G es ws->es.length<=sizeLine->Q .non (ze H a (.lst ws)))->rm (.ref a) [] H Q)
  (hFl:∀d d',F d=some d'->∃ds es,d=.lst ds/\d'=.lst es)(ho:QE X (.Name x xp) (vf i))(hbase:attributeBase (.Name x xp) nm X.env (eval (.Name x xp) X.env)=eval (.Name x xp) X.env:=by rfl)(hline:(apos.endLine==cpos.line)=true:=by rfl) :
  SS X (.Expr (.Call (.Attribute (.Name x xp) nm apos) [] [] cpos) pos) (YI i F):=by
 refine⟨⟨_,(W9 (GJ PySem.F.plainAttrs_list slot hty hm ho hbase hline) rfl).h,λ{G0 H0 G H τ σ fl E} K hf q=>?_⟩⟩;unfold YI at hf
 split at hf
 ·rename_i d hd;obtain⟨d',hd',hf⟩:=zM hf;cases hf;obtain⟨ds,es,rfl,rfl⟩:=hFl d d' hd';obtain⟨a,ea,g,z,vs,ev,rs,l⟩:=K.ow _ _ hd;refine⟨_,ea,.inl ⟨rfl,vs,yG.of ev⟩,hF G H ds vs a _ _ ev rs l hd' λws es' e rw_ lw=>?_⟩;cases e;exact q _ _ _ (K.mut hd ea ⟨ws,xJ,rw_,lw⟩)
 ·cases hf
def Uy:D->Option D
 |.lst _=>some (.lst [])
 |_=>none
theorem Su{F:List D->List D}{d d':D}(h:(match d with|.lst xs=>some (D.lst (F xs))|_=>none)=some d'):∃ds es,d=.lst ds/\d'=.lst es:=by
 cases d<;>first|(cases h; done)|skip
 cases h;exact⟨_,_,rfl,rfl⟩
theorem lV{i:Nat}(ho:QE X (.Name x xp) (vf i))(hbase:attributeBase (.Name x xp) "clear" X.env (eval (.Name x xp) X.env)=eval (.Name x xp) X.env:=by rfl)(hline:(apos.endLine==cpos.line)=true:=by rfl):SS X (.Expr (.Call (.Attribute (.Name x xp) "clear" apos) [] [] cpos) pos) (YI i Uy):=
 lg PySem.F.slot_list_clear PySem.F.type_list_clear S_ (λG H ds vs a d' Q ev rs l hf q=>by
  cases hf;exact⟨a,vs,rfl,rfl,ev,q [] [] rfl rfl (xb _)⟩) (λd d' h=>Su (F:=λ_=>[]) h) ho hbase hline
theorem JY:bootBuiltins "dict" = some (.type "dict"):=by decide +kernel
def WF(i:Nat)(k v:FE):FS:=λσ=>(v σ).bind λy=>match σ[i]? with
 |some (some (true,.lst ds))=>(k σ).bind λx=>match x with
  |.int j=>(ixN ds.length j).bind λn=>some (.nx (σ.set i (some (true,.lst (ds.set n y)))))
  |_=>none
 |_=>none
theorem Reps.set{K:W.Frag}{G:Hp}{d:D}{v:V}(hv:zY K G d v):∀{ds:List D}{vs:List V}(n:Nat),Reps K G ds vs->Reps K G (ds.set n d) (vs.set n v)
 | [],_,_,r=>by cases(show _=[]from r); rfl
 |d'::ds,_,0,r=>by
  obtain⟨u,r',rfl,hu,hr⟩:=r;exact⟨v,r',rfl,hv,hr⟩
 |d'::ds,_,n+1,r=>by
  obtain⟨u,r',rfl,hu,hr⟩:=r;exact⟨u,_,rfl,hu,Reps.set hv n hr⟩
theorem lh{i:Nat}{k v:Expr}{fk fv:FE}{pos':Pos}(ho:QE X (.Name x xp) (vf i))(hk:SE X k fk)(hv:SE X v fv)(hp:kW k=true:=by rfl)(hs:swapsWithSole [.Subscript (.Name x xp) k pos'] v pos.line X.env=pure false:=by rfl)
  (hw:swappedStores [.Subscript (.Name x xp) k pos'] v X.env=pure none:=by rfl)(h1:(assignEach [.Subscript (.Name x xp) k pos'] X.env).map (·.2)=[assign (.Subscript (.Name x xp) k pos') X.env]:=by rfl):SS X (.Assign [.Subscript (.Name x xp) k pos'] v pos) (WF i fk fv):=by
 obtain⟨tk,pk,kk⟩:=hk.h;obtain⟨tv,pv,kv⟩:=hv.h;refine⟨⟨_,cJ pv (cf ho ⟨pk⟩ fw hp).h hs hw h1,λ{G0 H0 G H τ σ fl E} K hf q=>?_⟩⟩;obtain⟨y,hy,hf⟩:=zM hf;refine kv K hy λw G1 H1 x1 r1=>?_
 split at hf
 ·rename_i ds hd;obtain⟨xk,hx,hf⟩:=zM hf;cases xk with
  |int j=>
   obtain⟨n,hn,hf⟩:=zM hf;cases hf;have K1:=K.go x1;obtain⟨aa,ea,g,z,vs,ev,rs,l⟩:=K1.ow _ _ hd;refine⟨_,ea,kk K1 hx λu G2 H2 x2 r2=>?_⟩;cases(show u=_ from r2);refine⟨aa,vs,j,n,rfl,rfl,x2.h _ _ ev,by rw[rs.length]; exact hn,?_⟩;exact q _ _ _ ((K1.go x2).mut hd ea ⟨_,xJ,Reps.set (r1.mono x2.g) n (rs.mono x2.g),by rw[u7]; exact l⟩)
  |_=>cases hf
 ·cases hf
def gG(j i:Nat):FS:=λσ=>match σ[i]? with
 |some (some (true,.lst ds))=>(ds.getLast?).bind λd=>if j=i then none else some (.nx ((σ.set i (some (true,.lst ds.dropLast))).set j (some (false,d))))
 |_=>none
theorem Reps.dropLast{K:W.Frag}{G:Hp}{ds:List D}{vs:List V}(r:Reps K G ds vs):Reps K G ds.dropLast vs.dropLast:=by
 rw[KN,KN,r.length];exact r.take _
end
end L3
namespace L2
open PySem PySem.Spec PyProof.Rows
def JA(K:W.Frag)(a:Addr):It:=
  ⟨λi H=>∃xs x,yG K H a xs/\xs[i]?=some x,
   λi H v H'=>∃p,H p=none/\v=.ref p/\∀xs,yG K H a xs->∃x,xs[i]?=some x/\H'=ze H p (.tup [.int (i:Int),x]),
   λi H=>∃xs,yG K H a xs/\xs.length<=i⟩
theorem nR{P:Program}{w:World}{K:W.Frag}{elts:List Expr}{kk:Nat}{pos:Pos}(a e it:Addr)(hei:e≠it) :
  ji P w K (.Tuple elts kk pos) (JA K a) [e,it] e (λi h=>(∃old,IsEnum h e it (i:Int) old)/\h.IsListIter it a i) where
 mem:=by simp
 obj:=λi h st c hc=>by
  obtain⟨⟨old,s1⟩,⟨o2,s2,_,d2⟩⟩:=st;simp only[yI,wq,or_false]at hc;rcases hc with rfl|rfl
  ·exact⟨_,s1,λv q=>nomatch q⟩
  ·exact⟨_,s2,λv q=>by rw[d2]at q; cases q⟩
 keep:=λi h h' st k=>by
  obtain⟨⟨old,s1⟩,s2⟩:=st;exact⟨⟨old,k e (by simp) _ s1⟩,s2.at λo x=>k it (by simp) o x⟩
 item:=by
  intro X hP hw hK hc i z8 s σ H E I hf st hg;subst hP hw hK;obtain⟨⟨old,s1⟩,s2⟩:=st;obtain⟨xs,x,hx,ex⟩:=hg;obtain⟨us,ru,pu,_⟩:=I.list hx;have pl:=pu.isList;obtain⟨xu,hxu,rxu⟩:=ru.get ex;have hx':us.toArray[i]?=some xu:=by rw[Qp]; exact hxu
  have lt1:e<s.heap.objs.size:=Heap.lt_size s1;have lt2:it<s.heap.objs.size:=by obtain⟨o,z,_⟩:=s2; exact Heap.lt_size z
  refine wpAny_pyNext_enum_item s1 s2 pl hx' hei λh1 heo hit1 ht1 hz1 hk1=>?_
  refine⟨_,rfl,wpAny_letOwnedTupleGo_enum (s:={ s with heap:=h1,toks:=s.toks+1 }) heo λh2 he2 hs2=>?_⟩
  replace hs2:Heap.SameBut e h1 h2:=hs2
  have hTs:s.heap.get? s.heap.objs.size=none:=by
   cases q:s.heap.get? s.heap.objs.size with
   |none=>rfl
   |some o=>exact absurd (Heap.lt_size q) (vi _)
  have hTf:H s.heap.objs.size=none:=I.hok.fresh (zt _);have tup:h2.get? s.heap.objs.size=some { cls:=.type "tuple",data:=.seq #[.int i s.toks,xu] }:=hs2.extBut _ _ (ud lt1) ht1
  have kk:∀c o,c ∉ [e,it]->s.heap.get? c=some o->h2.get? c=some o:=λc o hc z=>by
   simp only[yI,wq,or_false,not_or]at hc;exact hs2.extBut _ _ hc.1 (hk1 c o hc.1 hc.2 z)
  have new:xP X.prog X.w (ze H s.heap.objs.size (.tup [.int (i:Int),x])) h2 s.heap.objs.size (.tup [.int (i:Int),x]):=⟨(by show 2<=sizeLine; decide),[.int i s.toks,xu],.cons ⟨_,rfl⟩ (.cons rxu .nil),⟨_,tup,rfl,_,rfl⟩⟩;refine⟨.ref s.heap.objs.size,ze H s.heap.objs.size (.tup [.int (i:Int),x]),I.butNew (tk:=s.toks+1) hf kk hTs hTf new,rfl,⟨s.heap.objs.size,hTf,rfl,λxs' hx'=>?_⟩,⟨⟨xu,?_⟩,hit1.at λo z=>hs2.extBut _ _ hei.symm z⟩,λc hc=>?_⟩
  ·rw[I.list_inj hx' hx];exact⟨x,ex,rfl⟩
  ·rw[show((i+1:Nat):Int)=(i:Int)+1 from rfl];exact he2
  ·rw[ym]
   ·exact(hf c hc).1
   ·intro q
    have hlt:c<s.heap.objs.size:=by
     simp only[yI,wq,or_false]at hc;rcases hc with rfl|rfl
     ·exact lt1
     ·exact lt2
    rw[q]at hlt;exact absurd hlt (vi _)
 done:=by
  intro X hP hw hK hc i z8 s σ H E I hf st hg;subst hP hw hK;obtain⟨⟨old,s1⟩,s2⟩:=st;obtain⟨xs,hx,hend⟩:=hg;obtain⟨us,ru,pu,_⟩:=I.list hx;have pl:=pu.isList
  have hx':us.toArray[i]?=none:=by
   rw[Qp];exact wo (by have:=ru.length; omega)
  refine wpAny_pyNext_enum_end (by exact I.ok.hd hc) s1 s2 pl hx' λh1 he1=>?_
  refine⟨rfl,I.but (tk:=s.toks) hf λc ob hcc eb=>?_⟩;simp only[yI,wq,or_false,not_or]at hcc;exact he1 c ob hcc.2 eb
 self:=λ_ _ _ _ _ st h=>by
  obtain⟨⟨old,s1⟩,_⟩:=st;exact wpAny_pyIter_enum s1 h
section
variable{X:Cx}
def RS(K:W.Frag)(ta:TA):TI:=λσ H R=>ta σ H λvs H1=>∃a xs,vs=[.ref a]/\yG K H1 a xs/\R (JA K a) H1
theorem bo{a:Expr}{ta:TA}{p pos:Pos}{elts:List Expr}{kk:Nat}{tp:Pos}(hg:Gl X "enumerate")(hm:X.mg "enumerate" = none)(ha:PA X [a] ta)(hs:starEach [a] X.env=[(false,eval a X.env)]:=by rfl) :
  PI X (.Tuple elts kk tp) (.Call (.Name "enumerate" p) [a] [] pos) (RS X.K ta):=by
 intro z8 s σ H R I h;refine Call_ (Y1 I hg hm boot_enumerate (Qw (zw (ha pos z8 s σ H _ I h) λus s1 ⟨vs,H1,I1,r1,q1⟩=>?_) (by rw[hs]; rfl) rfl));obtain⟨l1,xs,rfl,hx,q⟩:=q1;obtain⟨u,rfl,ru⟩:=ub r1;cases(show u=Value.ref l1 from ru);obtain⟨us,_,pu,_⟩:=I1.list hx;refine call_enumerate_list pu.isList λh' a1 a2 hz kp=>?_
 have I2:Inv X z8 σ H1 { s1 with heap:=h' }:=I1.kept (t':=s1.toks) kp;refine wpAny_pyIter_enum (s:={ s1 with heap:=h' }) a1 ?_;generalize hn:s1.heap.objs.size=n at a1 a2 hz;refine⟨n+1,[n+1,n],_,_,H1,rfl,I2,nR l1 (n+1) n (yi (by omega)),⟨⟨_,a1⟩,a2⟩,λc hc=>?_,q⟩
 have hle:s1.heap.objs.size<=c:=by
  rw[hn];simp only[yI,wq,or_false]at hc;rcases hc with rfl|rfl
  ·exact ZE _ _
  ·exact zt _
 exact I1.fpOk hle (I1.hok.fresh hle)
end
end L2
namespace L3
open PySem PySem.Spec PyProof.Rows L2
def tR(xs:List D):List D:=List.zipWith (λ(i:Nat) x=>D.tup [.int (i:Int),x]) (List.range xs.length) xs
def uW(a:FE):FA:=λσ=>(a σ).bind λd=>match d with
 |.lst xs=>some (tR xs)
 |_=>none
theorem jL(xs:List D):(tR xs).length=xs.length:=by simp[tR]
theorem kT(xs:List D)(i:Nat):(tR xs)[i]?=(xs[i]?).map λx=>D.tup [.int (i:Int),x]:=by
 unfold tR;rw[KU];by_cases h:i<xs.length
 ·rw[gT h,yZ h]; rfl
 ·rw[wo (by simpa using h),wo (by omega)]; rfl
section
variable{K:W.Frag}{G H:Hp}
theorem P9{a:Addr}{vs:List V}{xs:List D}(s1:yG K G a vs)(r1:Reps K G xs vs):j6 K (JA K a) G (tR xs) where
 go:=λi G2 H g1 g2 hi=>by
  rw[jL]at hi;obtain⟨v,e1,_⟩:=r1.get (yZ hi);exact⟨vs,v,v8 (g1.trans g2) s1,e1⟩
 yld:=λi G2 H x H' g1 g2 hi y=>by
  obtain⟨p,hp,rfl,k⟩:=y;obtain⟨v,e1,rfl⟩:=k vs (v8 (g1.trans g2) s1);obtain⟨d1,f1,q1⟩:=r1.at e1;refine⟨ze G2 p (.tup [.int (i:Int),v]),.tup [.int (i:Int),d1],zT.lay g2 hp,by rw[kT,f1]; rfl,?_⟩;have sm:zx G (ze G2 p (.tup [.int (i:Int),v])):=g1.trans (v7 (g2.free hp) _);exact⟨p,[.int (i:Int),v],rfl,xE.of xJ,⟨_,_,rfl,rfl,⟨v,_,rfl,q1.mono sm,rfl⟩⟩,small (n:=2) (by decide)⟩
 stop:=λi G2 H g1 g2 hi=>by
  rw[jL]at hi;exact⟨vs,v8 (g1.trans g2) s1,by rw[r1.length]; exact hi⟩
end
theorem YS{X:Cx}{a:Expr}{fa:FE}{p pos:Pos}{elts:List Expr}{kk:Nat}{tp:Pos}(hg:Gl X "enumerate")(hm:X.mg "enumerate" = none)(ha:SE X a fa)(hs:xM a=true:=by rfl):SI X (.Tuple elts kk tp) (.Call (.Name "enumerate" p) [a] [] pos) (uW fa):=by
 obtain⟨t,pt,k⟩:=(zG ha zN hs).h;refine⟨⟨_,bo hg hm pt (tW hs),λ{G0 H0 G H τ σ ds R} K hf q=>?_⟩⟩;obtain⟨x,hx,hf⟩:=zM hf;cases x<;>first|(cases hf; done)|skip
 cases hf;rename_i xs;refine k K (ds:=[.lst xs]) (by unfold zC; rw[hx]; rfl) λvs G1 H1 x1 r1=>?_
 obtain⟨v,r,rfl,hv,hr⟩:=r1;cases(show r=[]from hr);obtain⟨aa,vs1,rfl,s1,q1,l1⟩:=hv;exact⟨aa,vs1,rfl,v8 x1.gh s1,q _ _ _ x1 (by rw[jL]; exact l1) (P9 s1 q1)⟩
end L3
namespace L2
open PySem PySem.Spec PyProof PyProof.Rows
def insI(a:Int):List Int->List Int
 | []=>[a]
 |b::r=>if a<=b then a::b::r else b::insI a r
def isort:List Int->List Int
 | []=>[]
 |a::r=>insI a (isort r)
theorem O1(a:Int):∀l:List Int,(insI a l).Perm (a::l)
 | []=>pO _
 |b::r=>by
  unfold insI
  split
  ·exact pO _
  ·exact((O1 a r).cons b).trans (List.Perm.swap a b r)
theorem isort_perm:∀l:List Int,(isort l).Perm l
 | []=>pO _
 |a::r=>(O1 a _).trans ((isort_perm r).cons a)
theorem Dp(a:Int):∀{l:List Int},l.Pairwise (·<=·)->(insI a l).Pairwise (·<=·)
 | [],_=>by simp[insI]
 |b::r,h=>by
  obtain⟨h1,h2⟩:=gU.mp h;unfold insI
  split
  ·rename_i hab
   exact gU.mpr ⟨λx hx=>by
    rcases yI.mp hx with rfl|hx
    ·exact hab
    ·exact Int.le_trans hab (h1 x hx),h⟩
  ·rename_i hab;refine gU.mpr ⟨λx hx=>?_,Dp a h2⟩;rcases yI.mp ((O1 a r).mem_iff.mp hx)with rfl|hx
   ·omega
   ·exact h1 x hx
theorem isort_sorted:∀l:List Int,(isort l).Pairwise (·<=·)
 | []=>List.Pairwise.nil
 |a::r=>Dp a (isort_sorted r)
theorem Ld:∀{a b:List Int},a.Perm b->a.Pairwise (·<=·)->b.Pairwise (·<=·)->a=b
 | [],b,p,_,_=>(List.nil_perm.mp p).symm
 |x::a,[],p,_,_=>by cases p.length_eq
 |x::a,y::b,p,ha,hb=>by
  obtain⟨h1,h2⟩:=gU.mp ha;obtain⟨g1,g2⟩:=gU.mp hb
  have e:x=y:=by
   have hx:x∈y::b:=p.mem_iff.mp (yF ..);have hy:y∈x::a:=p.mem_iff.mpr (yF ..);rcases yI.mp hx with rfl|hx
   ·rfl
   ·rcases yI.mp hy with e|hy
    ·exact e.symm
    ·exact Int.le_antisymm (h1 y hy) (g1 x hx)
  subst e;rw[Ld (List.perm_cons x |>.mp p) h2 g2]
theorem O3:∀{ns:List Int}{its:List Value},IntsAre its ns->zf (ns.map V.int) its
 | [],_,.nil=>.nil
 |_::_,_,.cons _ _ r=>.cons ⟨_,rfl⟩ (O3 r)
section
variable{X:Cx}
end
end L2
namespace L3
open PySem PySem.Spec PyProof.Rows L2
theorem Bp:bootBuiltins "sorted" = some (.builtin "sorted"):=by decide +kernel
def intsOf:List D->Option (List Int)
 | []=>some []
 |.int i::r=>(intsOf r).bind λns=>some (i::ns)
 |_=>none
theorem Dt:∀ns:List Int,intsOf (ns.map D.int)=some ns
 | []=>rfl
 |n::ns=>by
  show(intsOf (ns.map D.int)).bind _=_;rw[Dt ns];rfl
theorem Ds:∀{ds:List D}{ns:List Int},intsOf ds=some ns->ds=ns.map D.int
 | [],_,h=>by cases h; rfl
 |d::ds,ns,h=>by
  unfold intsOf at h
  split at h
  ·rename_i e; cases e
  ·rename_i i r e;cases e;obtain⟨ns',h1,h⟩:=zM h;cases h;rw[Ds h1];rfl
  ·cases h
theorem Gi{K:W.Frag}{G:Hp}:∀{ns:List Int}{vs:List V},Reps K G (ns.map D.int) vs->vs=ns.map V.int
 | [],_,r=>r
 |n::ns,_,r=>by
  obtain⟨v,r',rfl,hv,hr⟩:=r;rw[Gi hr,show v=V.int n from hv];rfl
theorem Dq{K:W.Frag}{G:Hp}:∀ns:List Int,Reps K G (ns.map D.int) (ns.map V.int)
 | []=>rfl
 |n::ns=>⟨.int n,_,rfl,rfl,Dq ns⟩
end L3
namespace L2
open PySem PySem.Spec PyProof.Rows
section
variable{X:Cx}
end
end L2
namespace L3
open PySem PySem.Spec PyProof.Rows L2
section
variable{X:Cx}{e o a b c:Expr}{f fo fa fb fc:FE}{x:Str}{xp p pos apos cpos:Pos}
end
def XX:D->D->Option D
 |.lst x,.lst y=>if x.length+y.length<=yK then some (.lst (x++y))else none
 |_,_=>none
theorem PK{x y d:D}(h:XX x y=some d):∃xs ys,x=.lst xs/\y=.lst ys/\xs.length+ys.length<=yK/\d=.lst (xs++ys):=by
 unfold XX at h
 split at h
 ·rename_i xs ys;by_cases c:xs.length+ys.length<=yK
  ·rw[zK c]at h;cases h;exact⟨_,_,rfl,rfl,c,rfl⟩
  ·rw[zL c]at h;cases h
 ·cases h
section
variable{X:Cx}{a b:Expr}{fa fb:FE}{x:Str}{xp pos:Pos}
theorem f_(ha:SE X a fa)(hb:SE X b fb):SF X (.BinOp a .Add b pos) (e2 XX fa fb):=by
 obtain⟨ta,pa,ka⟩:=ha.h;obtain⟨tb,pb,kb⟩:=hb.h;refine⟨⟨_,On Ef pa pb,λ{G0 H0 G H τ σ d Q} E hf q=>?_⟩⟩;obtain⟨x,hx,hf⟩:=zM hf;obtain⟨y,hy,hf⟩:=zM hf;refine ka E hx λv G1 H1 x1 r1=>?_
 refine kb (E.go x1) hy λu G2 H2 x2 r2=>?_
 obtain⟨xs,ys,rfl,rfl,c,rfl⟩:=PK hf;obtain⟨aa,vs,rfl,sa,ra,_⟩:=r1;obtain⟨bb,us,rfl,sb,rb,_⟩:=r2
 ·have c':(xs++ys).length<=sizeLine:=by rw[w8,yD]; exact c
  have x12:=x1.trans x2;refine⟨aa,bb,vs,us,rfl,rfl,v8 (x2.g.trans x2.gh) sa,v8 x2.gh sb,by rw[ra.length,rb.length,w8]; exact c,λp hp=>?_⟩;exact q p _ _ (x12.trans (zT.layO x12.gh hp)) (x12.h.free hp) (x12.gh.free hp) ⟨_,xJ,(ra.mono x2.g).append rb,c'⟩
end
section
variable{X:Cx}{e:Expr}{es:List Expr}{fs:FA}{x:Str}{ps:List Str}{k j:Nat}{FF:List D->Option (Bool×D)}{p pos:Pos}
end
section
variable{X:Cx}{e:Expr}{es:List Expr}{fs:FA}{x y:Str}{ps:List Str}{k j:Nat}{FF:List D->Option (Bool×D)}{p pos pos' cpos:Pos}
end
section
variable{X:Cx}{x:Str}{xp pos apos cpos:Pos}
end
def p9:Option Sl->Option Sl
 |some (_,d)=>some (false,d)
 |none=>none
def J_(τ:zi):zi:=τ.map p9
def Lq:Nat->D->Bool
 |0,_=>false
 |n+1,.tup xs=>xs.all (Lq n)
 |_+1,d=>xF d
def gQ(d:D):Bool:=Lq 6 d
def p7(f:FE):FE:=λτ=>(f (J_ τ)).bind λd=>match d with
 |.lst xs=>if xs.all gQ=true then some (.lst xs)else none
 |_=>none
def jR(f:FT):FT:=λτ=>f (J_ τ)
theorem mV(τ:zi)(k:Nat)(h:k<τ.length):(((τ.take k).map p9)++τ.drop k).set k (p9 τ[k])=((τ.take (k+1)).map p9)++τ.drop (k+1):=by
 have e:τ.drop k=τ[k]::τ.drop (k+1):=VN h;have l:((τ.take k).map p9).length=k:=by rw[zj,tY]; omega
 rw[e,Kg _ _ (by omega),l,VW,Kh,Yv h,qM,ql];rfl
section
variable{K:W.Frag}{n:Nat}{G0 H0 G H G' H':Hp}{τ:zi}{σ:St}
def qy(G G':Hp):Prop:=∀p,G p=none->G' p≠none->∃u,G' p=some u/\(∀xs,u≠.tup xs)/\∀o v,u≠.frz o v
theorem bG{d:D}{p:Addr}(o:uC K G H d p):∃u,H p=some u/\(∀xs,u≠.tup xs)/\∀o v,u≠.frz o v:=by
 cases d with
 |lst ds=>obtain⟨vs,e,_⟩:=o; exact⟨_,e,(λxs z=>by cases z),(λo v z=>by cases z)⟩
 |dic ks ds=>obtain⟨vs,e,_⟩:=o; exact⟨_,e,(λxs z=>by cases z),(λo v z=>by cases z)⟩
 |_=>exact o.elim
theorem zg.freezeL{i:Nat}{b:Bool}{d:D}(E:zg K n G0 H0 G H τ σ)(hi:τ[i]?=some (some (b,d))):∃G',zg K n G0 H0 G' H (τ.set i (some (false,d))) σ/\zx G G'/\qy G G':=by
 cases b with
 |false=>
  refine⟨G,?_,zx.refl _,λp h1 h2=>absurd h1 h2⟩
  have e:τ.set i (some (false,d))=τ:=by
   apply jW;intro j;by_cases hj:j=i
   ·subst hj; rw[pB (by rw[E.l2]; exact E.lt hi),hi]
   ·rw[w_ hj]
  rw[e];exact E
 |true=>
  have hin:=E.lt hi;obtain⟨p,e,g,z,o⟩:=E.ow i d hi;obtain⟨u',hu',nt⟩:=bG o;obtain⟨u,hu,r⟩:=o.frz g;have eu:u=u':=by rw[hu]at hu'; cases hu'; rfl
  subst eu;have x:zT G0 H0 (ze G p u) H:=E.ext.frz z g hu;refine⟨ze G p u,⟨x,E.l1,by rw[u7]; exact E.l2,λj d' h=>?_,λj d' h=>?_,λj k e1 f q hne h1 h2=>?_⟩,v7 g _,λq h1 h2=>?_⟩
  ·rcases wQ h with⟨rfl,w⟩|⟨ne,w⟩
   ·cases w;exact⟨_,e,r⟩
   ·obtain⟨v,e',r'⟩:=E.fr j d' w;exact⟨v,e',r'.mono (v7 g _)⟩
  ·rcases wQ h with⟨rfl,w⟩|⟨ne,w⟩
   ·cases w
   ·obtain⟨q,e',g',z',o'⟩:=E.ow j d' w;refine⟨q,e',?_,z',o'.mono (v7 g _) (zx.refl _)⟩;rw[ym (λc=>?_)]
    ·exact g'
    ·subst c;exact E.ap i j d d' q (λc=>ne c.symm) hi w e e'
  ·rcases wQ h1 with⟨rfl,w⟩|⟨ne,w⟩
   ·cases w
   ·rcases wQ h2 with⟨rfl,w'⟩|⟨ne',w'⟩
    ·cases w'
    ·exact E.ap j k e1 f q hne w w'
  ·rcases Lu h2 with c|c
   ·subst c;exact⟨u,xJ,nt⟩
   ·exact absurd h1 c
theorem qy.trans{G1 G2:Hp}(s2:zx G1 G2)(a:qy G G1)(b:qy G1 G2):qy G G2:=λp h1 h2=>by
 cases e:G1 p with
 |none=>exact b p e h2
 |some u=>
  obtain⟨u',hu,nt⟩:=a p h1 (by rw[e]; exact λz=>nomatch z);exact⟨u',s2 _ _ hu,nt⟩
theorem zg.freezeK(E:zg K n G0 H0 G H τ σ):∀k,k<=n->∃G',zg K n G0 H0 G' H (((τ.take k).map p9)++τ.drop k) σ/\zx G G'/\qy G G'
 |0,_=>⟨G,by rw[VT]; exact E,zx.refl _,λp h1 h2=>absurd h1 h2⟩
 |k+1,hk=>by
  obtain⟨G1,E1,s1,l1⟩:=zg.freezeK E k (by omega);have hkl:k<τ.length:=by rw[E.l2]; omega
  have e:=mV τ k hkl
  have gk:(((τ.take k).map p9)++τ.drop k)[k]?=some τ[k]:=by
   rw[VO (by rw[zj,tY]; omega),zj,tY,Nat.min_eq_left (by omega),VW,List.getElem?_drop,Nat.add_zero,yZ hkl]
  cases t:τ[k]with
  |none=>
   refine⟨G1,?_,s1,l1⟩;rw[<-e,t]
   have e2:(((τ.take k).map p9)++τ.drop k).set k (p9 none)=((τ.take k).map p9)++τ.drop k:=by
    apply jW;intro j;by_cases hj:j=k
    ·subst hj; rw[pB (by rw[E1.l2]; omega),gk,t]; rfl
    ·rw[w_ hj]
   rw[e2];exact E1
  |some s=>
   obtain⟨b,d⟩:=s;rw[t]at gk;obtain⟨G2,E2,s2,l2⟩:=E1.freezeL gk;refine⟨G2,?_,s1.trans s2,l1.trans s2 l2⟩;rw[<-e,t];exact E2
theorem zg.freezeA(E:zg K n G0 H0 G H τ σ):∃G',zg K n G0 H0 G' H (J_ τ) σ/\zx G G'/\qy G G':=by
 obtain⟨G',E',s,l⟩:=E.freezeK n (zt _);refine⟨G',?_,s,l⟩;have e:τ.take n=τ:=by rw[<-E.l2]; exact ZD
 have e2:τ.drop n=[]:=by rw[<-E.l2]; exact List.drop_length
 rw[e,e2,wW]at E';exact E'
noncomputable def back(G G' G1:Hp):Hp:=λp=>if G p=none/\G' p≠none then none else G1 p
theorem zT.back{G1 H1:Hp}(s:zx G G')(sh:zx G' H)(x:zT G' H G1 H1):zT G H (back G G' G1) H1:=by
 refine⟨λb u e=>?_,x.h,λb u e=>?_,λp h=>?_⟩
 ·show(if G b=none/\G' b≠none then none else G1 b)=some u;rw[zL (λc=>by rw[c.1]at e; cases e)];exact x.g _ _ (s _ _ e)
 ·by_cases c:G b=none/\G' b≠none
  ·have e':(if G b=none/\G' b≠none then none else G1 b)=some u:=e;rw[zK c]at e';cases e'
  ·have e':(if G b=none/\G' b≠none then none else G1 b)=some u:=e;rw[zL c]at e';exact x.gh _ _ e'
 ·by_cases c:G p=none/\G' p≠none
  ·have e':(if G p=none/\G' p≠none then none else G1 p)≠none:=h;rw[zK c]at e';exact absurd rfl e'
  ·have e':(if G p=none/\G' p≠none then none else G1 p)≠none:=h;rw[zL c]at e';rcases x.new p e' with z|z
   ·by_cases g:G p=none
    ·exact absurd ⟨g,z⟩ c
    ·exact .inl g
   ·exact .inr z
theorem N5{G1:Hp}{p:Addr}(h:G1 p=none):back G G' G1 p=none:=by
 show(if G p=none/\G' p≠none then none else G1 p)=none
 split
 ·rfl
 ·exact h
theorem dH{G1:Hp}(s:zx G' G1)(l:qy G G'){a:Addr}{xs:List V}(h:Rd G1 a (.tup xs)):Rd (back G G' G1) a (.tup xs):=by
 by_cases c:G a=none/\G' a≠none
 ·obtain⟨u,hu,nt⟩:=l a c.1 c.2;have:=s _ _ hu;rcases h with h|⟨o,h⟩
  ·rw[this]at h; cases h; exact absurd rfl (nt.1 xs)
  ·rw[this]at h; cases h; exact absurd rfl (nt.2 o _)
 ·have e:back G G' G1 a=G1 a:=zL c;rcases h with h|⟨o,h⟩
  ·exact .inl (e.trans h)
  ·exact .inr ⟨o,e.trans h⟩
theorem Gg{G1:Hp}(s:zx G' G1)(l:qy G G'):∀(m:Nat){d:D}{v:V},Lq m d=true->zY K G1 d v->zY K (back G G' G1) d v
 |0,_,_,h,_=>by cases h
 |m+1,d,v,h,r=>by
  cases d with
  |tup xs=>
   obtain⟨a,vs,e,q,rs,z⟩:=r;refine⟨a,vs,e,?_,Reps.imp (λd hd v r=>Gg s l m (wm.mp h d hd) r) rs,z⟩;rcases q with q|q
   ·exact .inl (dH s l q)
   ·exact .inr q
  |lst xs=>cases h
  |dic ks xs=>cases h
  |_=>exact r
theorem dL{G1:Hp}(s:zx G' G1)(l:qy G G'){xs:List D}{vs:List V}(h:xs.all gQ=true)(r:Reps K G1 xs vs):Reps K (back G G' G1) xs vs:=
 Reps.imp (λd hd v r=>Gg s l 6 (wm.mp h d hd) r) r
end
section
variable{X:Cx}{e:Expr}{f:FE}{ft:FT}
theorem HL(h:ST X e ft):ST X e (jR ft):=by
 obtain⟨t,p,k⟩:=h.h;refine⟨⟨t,p,λ{G0 H0 G H τ σ d Q} E hf q=>?_⟩⟩;obtain⟨G',E',s,l⟩:=E.freezeA;exact k E' hf λG1 H1 x1=>q _ _ (zT.back s E'.ext.gh x1)
theorem La(h:SF X e f):SF X e (p7 f):=by
 obtain⟨t,p,k⟩:=h.h;refine⟨⟨t,p,λ{G0 H0 G H τ σ d Q} E hf q=>?_⟩⟩;obtain⟨d',hd,hf⟩:=zM hf;cases d' with
 |lst xs=>
  have hf:(if xs.all gQ=true then some (D.lst xs)else none)=some d:=hf;by_cases c:xs.all gQ=true
  ·rw[zK c]at hf;cases hf;obtain⟨G',E',s,l⟩:=E.freezeA;refine k E' hd λp G1 H1 x1 hp gp o=>?_
   obtain⟨vs,ev,rs,z⟩:=o;exact q p _ _ (zT.back s E'.ext.gh x1) hp (N5 gp) ⟨vs,ev,dL x1.g l c rs,z⟩
  ·rw[zL c]at hf;cases hf
 |_=>cases hf
end
def wO(i:Nat)(e:FE):FS:=λσ=>match σ[i]? with
 |some (some (true,.lst xs))=>(e σ).bind λy=>match y with
  |.lst ys=>if xs.length+ys.length<=yK then some (.nx (σ.set i (some (true,.lst (xs++ys)))))else none
  |_=>none
 |_=>none
def XZ:D->D->Option D
 |.lst x,.int k=>if 0<=k/\k<=1000000/\x.length*k.toNat<=yK then some (.lst (List.replicate k.toNat x).flatten)else none
 |_,_=>none
theorem PU{x y d:D}(h:XZ x y=some d):∃xs k,x=.lst xs/\y=.int k/\(0<=k/\k<=1000000/\xs.length*k.toNat<=yK)/\d=.lst (List.replicate k.toNat xs).flatten:=by
 unfold XZ at h
 split at h
 ·rename_i xs k;by_cases c:0<=k/\k<=1000000/\xs.length*k.toNat<=yK
  ·rw[zK c]at h;cases h;exact⟨_,_,rfl,rfl,c,rfl⟩
  ·rw[zL c]at h;cases h
 ·cases h
theorem Reps.rep{K:W.Frag}{G:Hp}{ds:List D}{vs:List V}(r:Reps K G ds vs):∀k:Nat,Reps K G (List.replicate k ds).flatten (List.replicate k vs).flatten
 |0=>rfl
 |k+1=>by
  rw[pR,Z9,pR,Z9];exact r.append (Reps.rep r k)
section
variable{X:Cx}{a b:Expr}{f fa fb:FE}{x:Str}{xp pos apos cpos:Pos}{e:Expr}
theorem h9(ha:SF X a fa)(hb:SE X b fb):SF X (.BinOp a .Mult b pos) (e2 XZ fa fb):=by
 obtain⟨ta,pa,ka⟩:=ha.h;obtain⟨tb,pb,kb⟩:=hb.h;refine⟨⟨_,On bB pa pb,λ{G0 H0 G H τ σ d Q} E hf q=>?_⟩⟩;obtain⟨x,hx,hf⟩:=zM hf;obtain⟨y,hy,hf⟩:=zM hf;refine ka E hx λp G1 H1 x1 hp gp o=>?_
 refine kb (E.go x1) hy λu G2 H2 x2 r2=>?_
 obtain⟨xs,k,rfl,rfl,c,rfl⟩:=PU hf;obtain⟨vs,ev,rv,_⟩:=o;cases(show u=.int k from r2);have x12:=x1.trans x2;refine⟨p,k,vs,rfl,rfl,x2.h _ _ ev,by omega,by omega,by rw[rv.length,w8]; exact c.2.2,λp' hp'=>?_⟩;refine q p' _ _ (x12.trans (zT.layO x12.gh hp')) (x12.h.free hp') (x12.gh.free hp') ⟨_,xJ,Reps.rep (rv.mono x2.g) _,?_⟩;rw[w8,Fw,Nat.mul_comm]; exact c.2.2
end
section
variable{X:Cx}{js:List Nat}{e c:Expr}{f:FE}{ft:FT}{g g':FS}{sts sa:List Stmt}{pos xp apos cpos:Pos}{x:Str}
end
def tQ(τ:zi):Bool:=τ.all λs=>match s with
 |some (true,_)=>false
 |_=>true
section
variable{X:Cx}{js:List Nat}{e0 e1:Expr}{f0 f1:FE}{fm fr:FS}{mid yj:List Stmt}{p1 p2 p3 xp cp sp apos cpos pos:Pos}{x:Str}{kd:Nat}
end
end L3
namespace L2
open PySem PySem.Spec PyProof PyProof.Rows
section
variable{X:Cx}
theorem b6:yT X (compareOp .IsNot) (λx y H Q=>∃a b,x=.bl a/\y=.bl b/\Q (.bl (!(a==b))) H):=by
 intro z8 s σ H x y v u Q I rx ry h;obtain⟨a,b,rfl,rfl,q⟩:=h;cases rx;cases ry;refine PySem.wpAny_isNot_plain (by cases a<;>cases b<;>rfl) ⟨.bl (!(a==b)),H,I,?_,q⟩;cases a<;>cases b<;>rfl
def O4:V->Bool
 |.str _=>true
 |_=>false
def WB(K:W.Frag):R2:=λx y H Q=>∃p xs r ys,x=.ref r/\(yG K H r ys\/xE K H r ys)/\y=.ref p/\xE K H p xs/\xs.all O4=true/\Q (.bl false) H
theorem HS{A:Around}{s:Shared}{r:Addr}(hr:(∃its,s.heap.IsList r its)\/∃its,s.heap.IsTuple r its)(hu:A.units<cLine):∀{xs:List V}{us:List Value},zf xs us->xs.all O4=true->∀u∈us,SeqAt.EqAt A s u (.ref r) false
 |_,_,.nil,_=>λu hu=>by cases hu
 |y::xs,u::us,.cons h t,f=>λu' hu'=>by
  rw[xz,xB]at f;rcases yI.mp hu' with rfl|hu'
  ·cases y with
   |str z=>
    obtain⟨tk,rfl⟩:=h;rcases hr with⟨its,hl⟩|⟨its,hl⟩
    ·exact SeqAt.EqAt.str_list z tk hl hu
    ·exact SeqAt.EqAt.str_tuple z tk hl hu
   |_=>exact absurd f.1 yR
  ·exact HS hr hu t f.2 u' hu'
theorem aw(hu:X.A.units+1<cLine):yT X (compareOp .In) (WB X.K):=by
 intro z8 s σ H x y v u Q I rx ry h;obtain⟨p,xs,r,ys,rfl,hq,rfl,hp,fs,q⟩:=h;cases rx;cases ry;obtain⟨its,rr,pl,hz⟩:=I.tuple hp
 have hr:(∃its,s.heap.IsList r its)\/∃its,s.heap.IsTuple r its:=by
  rcases hq with hq|hq
  ·obtain⟨its2,_,pl2,_⟩:=I.list hq;exact .inl ⟨_,pl2.isList⟩
  ·obtain⟨its2,_,pl2,_⟩:=I.tuple hq;exact .inr ⟨_,pl2⟩
 refine SeqAt.in_tupleAt (λ_=>false) pl (λw hw=>HS hr hu rr fs w (by simpa using hw)) ⟨.bl _,H,I,rfl,?_⟩;rw[show(its.toArray.any λ_=>false)=false by simp];exact q
end
end L2
namespace L3
open PySem PySem.Spec PyProof.Rows L2
def VF(ys:List D):Bool:=ys.all λy=>match y with
 |.str _=>true
 |_=>false
def O0:D->Option D
 |.tup ys=>if VF ys=true then some (.bl false)else none
 |_=>none
def Jr(x y:D):Option D:=match x with
 |.lst _=>O0 y
 |.tup _=>O0 y
 |x=>yb x y
section
variable{X:Cx}{K:W.Frag}
def Zf:D->D->Option D
 |.bl a,.bl b=>some (.bl (!(a==b)))
 |_,_=>none
theorem aR:tz K (λx y H Q=>∃a b,x=.bl a/\y=.bl b/\Q (.bl (!(a==b))) H) Zf:=λH x y u v d Q rx ry hf=>by
 unfold Zf at hf
 split at hf
 ·rename_i a b;cases hf;exact⟨_,rfl,λq=>⟨a,b,rx,ry,q⟩⟩
 ·cases hf
theorem Gk{H:Hp}:∀{ys:List D}{vs:List V},Reps K H ys vs->VF ys=true->vs.all O4=true
 | [],_,r,_=>by cases(show _=[]from r); rfl
 |y::ys,_,r,h=>by
  obtain⟨v,r',rfl,hv,hr⟩:=r;unfold VF at h;rw[xz,xB]at h;rw[xz,Gk hr h.2,MS];cases y with
  |str z=>rw[(show v=.str z/\_ from hv).1]; rfl
  |_=>exact absurd h.1 yR
theorem av(hu:X.A.units+1<cLine):yT X (compareOp .In) (λx y H Q=>jO X.K false x y H Q\/WB X.K x y H Q):=(vw hu).or (aw hu)
theorem Ap:tz K (λx y H Q=>jO K false x y H Q\/WB K x y H Q) Jr:=λH x y u v d Q rx ry hf=>by
 have ref:∀(r:Addr)(ys:List V),u=.ref r->(yG K H r ys\/xE K H r ys)->O0 y=some d->∃k,d=.bl k/\(Q (.bl k) H->(jO K false u v H Q\/WB K u v H Q)):=λr ys hu hq hf=>by
  cases y with
  |tup zs=>
   have hf:(if VF zs=true then some (D.bl false)else none)=some d:=hf;by_cases c:VF zs=true
   ·rw[zK c]at hf;cases hf;obtain⟨b,vs,rfl,sb,rb,_⟩:=ry;exact⟨false,rfl,λq=>.inr ⟨b,vs,r,ys,hu,hq,rfl,sb,Gk rb c,q⟩⟩
   ·rw[zL c]at hf;cases hf
  |_=>cases hf
 have old:yb x y=some d->∃k,d=.bl k/\(Q (.bl k) H->(jO K false u v H Q\/WB K u v H Q)):=λhf=>by
  obtain⟨k,e,z⟩:=vt H x y u v d Q rx ry hf;exact⟨k,e,λq=>.inl (z q)⟩
 cases x with
 |lst xs=>
  obtain⟨a,vs,ea,sa,_,_⟩:=rx;exact ref a vs ea (.inl sa) hf
 |tup xs=>
  obtain⟨a,vs,ea,sa,_,_⟩:=rx;exact ref a vs ea (.inr sa) hf
 |_=>exact old hf
end
def qV:List D->Option (List Bool)
 | []=>some []
 |.bl b::r=>(qV r).bind λbs=>some (b::bs)
 |_=>none
theorem Bl:∀bs:List Bool,qV (bs.map D.bl)=some bs
 | []=>rfl
 |b::bs=>by
  show(qV (bs.map D.bl)).bind _=_;rw[Bl bs];rfl
theorem Bk:∀{ds:List D}{bs:List Bool},qV ds=some bs->ds=bs.map D.bl
 | [],_,h=>by cases h; rfl
 |d::ds,bs,h=>by
  unfold qV at h
  split at h
  ·rename_i e; cases e
  ·rename_i b r e;cases e;obtain⟨bs',h1,h⟩:=zM h;cases h;rw[Bk h1];rfl
  ·cases h
theorem Gj{K:W.Frag}{G:Hp}:∀{bs:List Bool}{vs:List V},Reps K G (bs.map D.bl) vs->vs=bs.map V.bl
 | [],_,r=>r
 |b::bs,_,r=>by
  obtain⟨v,r',rfl,hv,hr⟩:=r;rw[Gj hr,show v=V.bl b from hv];rfl
def kC:List D->Option D
 | [.lst xs]=>(qV xs).bind λbs=>some (.bl (bs.all id))
 |_=>none
theorem Tm{K:W.Frag}:JG K (GL K) kC:=λG H ds vs d Q s r hf q=>by
 match ds,hf with
 | [.lst xs],hf=>
  obtain⟨bs,hb,hf⟩:=zM (show(qV xs).bind _=some d from hf);cases hf;obtain⟨v,rfl,a,us,rfl,sq,rs,l⟩:=qe r;rw[Bk hb]at rs;rw[Gj rs]at sq;exact⟨a,bs,rfl,sq,q _ _ _ (zT.refl s) rfl⟩
end L3
namespace L2
open PySem PySem.Spec PyProof PyProof.Rows
def memK(ks:List Key)(k:Key):Bool:=ks.any λk'=>decide (k'=k)
def addK(acc:List Key)(k:Key):List Key:=if memK acc k=true then acc else acc++[k]
theorem BM(acc:List Key)(k:Key):(addK acc k).length<=acc.length+1:=by
 unfold addK
 split
 ·omega
 ·rw[yD]; exact zt _
theorem O8{k:Key}{v:Value}(h:vT k v=true):v.scannable=true:=by
 rcases qG h with⟨i,t,_,rfl⟩|⟨x,t,_,rfl⟩<;>rfl
section
variable{prog:Program}{w:World}
def ur(prog:Program)(w:World)(a:Addr)(ks:List Key)(h:Heap):Prop:=h.SetOf (y_ prog w) a (memK ks) ks.length
theorem ur.keep{a:Addr}{ks:List Key}{h h':Heap}(z:ur prog w a ks h)(k:∀o,h.get? a=some o->h'.get? a=some o):ur prog w a ks h':=by
 obtain⟨o,es,ep,t,ho,r⟩:=z;exact⟨o,es,ep,t,k o ho,r⟩
theorem ur.grow{a:Addr}{ks:List Key}{k:Key}{h:Heap}(z:h.SetOf (y_ prog w) a (λk'=>memK ks k'||decide (k'=k)) (if memK ks k then ks.length else ks.length+1)):ur prog w a (addK ks k) h:=by
 unfold ur addK;cases c:memK ks k with
 |true=>
  rw[zK rfl];rw[c,zK rfl]at z
  have e:(λk'=>memK ks k'||decide (k'=k))=memK ks:=funext λk'=>by
   by_cases q:k'=k
   ·subst q; rw[c]; rfl
   ·rw[yy q,Yj]
  rw[e]at z;exact z
 |false=>
  rw[zL yR];rw[c,zL yR]at z
  have e:(λk'=>memK ks k'||decide (k'=k))=memK (ks++[k]):=funext λk'=>by
   unfold memK;rw[List.any_append,Z7,List.any_nil,Yj]
   congr 1
   exact VZ.mpr ⟨Eq.symm,Eq.symm⟩
  rw[e]at z;rw[yD];exact z
theorem G_{A:Around}{R:Result->Shared->Prop}{d it l:Addr}{its:List Value}(hA:A.handled=none)(hdl:d≠l)(hdi:d≠it)(hli:l≠it) :
  ∀(ks:List Key)(i:Nat)(acc:List Key)(s:Shared),s.heap.IsListIter it l i->s.heap.IsList l its.toArray->i+ks.length=its.length->(∀(j:Nat)(k:Key),ks[j]?=some k->∃v,its[i+j]?=some v/\vT k v=true)->
   ur prog w d acc s.heap->acc.length+ks.length+1<scanBound->(∀h' tk,ur prog w d (ks.foldl addK acc) h'->(∀b o,b≠d->b≠it->s.heap.get? b=some o->h'.get? b=some o)->R (.ok (.ret .none)) { s with heap:=h',toks:=tk })->
   codeAny (model prog w) A (.builtin "set.update.loop" ⟨[.ref d,.ref it],[]⟩) R s
 | [],i,acc,s,st,hl,hn,hp,hd,hz,h=>by
  refine tf Qj ?_;rw[gR Yl _];unfold Builtin.«set.update.loop»;refine zE (J2 (by exact hA) st hl (by simp at hn ⊢; omega) λh' eb=>?_);exact zX (h h' s.toks (hd.keep λo e=>eb d o hdi e) λb o _ hb e=>eb b o hb e)
 |k::ks,i,acc,s,st,hl,hn,hp,hd,hz,h=>by
  obtain⟨v,hv,hk⟩:=hp 0 k rfl;refine tf Qj ?_;rw[gR Yl _];unfold Builtin.«set.update.loop»;refine zE (J3 st hl (x:=v) (by simpa using hv) λh1 st1 sb=>?_);have keep1:∀c o,c≠it->s.heap.get? c=some o->h1.get? c=some o:=λc o hc e=>(sb.2 c hc).trans e
  have hd1:ur prog w d acc h1:=hd.keep λo e=>keep1 d o hdi e
  rw[xK]at hz hn;refine zE (t9 ?_);unfold setAdd;refine t9 (zE ((y_ prog w).pyHash (k:=k) hk ?_));refine wpAny_setAddHashed_of (knd:=y_ prog w) (k:=k) hk (O8 hk) hd1 (by omega) λh2 sb2 hd2=>?_
  have keep2:∀c o,c≠d->c≠it->s.heap.get? c=some o->h2.get? c=some o:=λc o a1 a2 e=>(sb2.2 c a1).trans (keep1 c o a2 e)
  refine zX ⟨X0 Yl _,?_⟩;have hl2:=BM acc k;refine G_ (its:=its) hA hdl hdi hli ks (i+1) (addK acc k) _ ?_ ?_ (by omega) (λj k' e=>?_) (ur.grow hd2) (by omega) λh' tk hd' kp=>?_
  ·exact st1.at λo e=>(sb2.2 it (λz=>hdi z.symm)).trans e
  ·obtain⟨o,e,r⟩:=hl;exact⟨o,keep2 l o (λz=>hdl z.symm) hli e,r⟩
  ·obtain⟨v',hv',hk'⟩:=hp (j+1) k' (by simpa using e);exact⟨v',by rw[show i+1+j=i+(j+1) by omega]; exact hv',hk'⟩
  ·exact h h' tk hd' λc o a1 a2 e=>kp c o a1 a2 (keep2 c o a1 a2 e)
set_option maxHeartbeats 8000000 in
theorem Nc{A:Around}{E:Value->Shared->Prop}{s:Shared}{l:Addr}{o:Obj}{its:List Value}{n:Nat}{ks:List Key}{Q:Value->Shared->Prop}(hA:A.handled=none)(ho:s.heap.get? l=some o)(hc:o.cls=.type "list")(hdat:o.data=.seq its.toArray n)
  (hn:ks.length=its.length)(hp:∀(j:Nat)(k:Key),ks[j]?=some k->∃v,its[j]?=some v/\vT k v=true)(hz:ks.length+1<scanBound)
  (h:∀h' tk,ur prog w s.heap.objs.size (ks.foldl addK []) h'->(∀b o,s.heap.get? b=some o->h'.get? b=some o)->Q (.ref s.heap.objs.size) { s with heap:=h',toks:=tk }) :
  wpAny (model prog w) A (call (.type "set") [.ref l]) Q E s:=by
 obtain⟨_,_,em⟩:=uL.mro;have e1:=uL.made; have e2:=uL.sub; have e3:=uL.notType; have e4:=uL.canCreate; have e5:=F.typeCall_set_1 (.ref l);refine Q_ (Mz (show wpAny _ _ (callAny (.type "set") _) _ _ _ from zX ⟨Qi _ (by decide +kernel),tf F.entry_type_call ?_⟩));rw[Around.under_plain (weight_type_call_type "set" [.ref l] []) rfl]
 repeat (any_goals (first|wp_step|assumption))
 refine ZJ (code_set_new_1 (.ref l) (E:=E) (Q₁:=λv s1=>∃b:Bool,v=.ref s.heap.objs.size/\s1={ s with heap:=s.heap.push { cls:=.type "set",dict:=none,data:=.set #[] 0 (.fresh 0 0 b) } }) λb=>⟨b,rfl,rfl⟩) λr s1 hr=>?_
 cases r with
 |error e=>exact hr
 |ok fl=>
  cases fl with
  |ret v=>
   obtain⟨b,rfl,rfl⟩:=hr;obtain⟨h0,hh0⟩:∃h0,h0=s.heap.push { cls:=.type "set",dict:=none,data:=.set #[] 0 (.fresh 0 0 b) }:=⟨_,rfl⟩;have g0:h0.get? s.heap.objs.size=some { cls:=.type "set",dict:=none,data:=.set #[] 0 (.fresh 0 0 b) }:=by rw[hh0]; exact Heap.get?_push_size _ rfl
   have k0:∀c oc,s.heap.get? c=some oc->h0.get? c=some oc:=λc oc e=>by rw[hh0]; exact Heap.get?_push_of_some _ e
   have z0:h0.objs.size=s.heap.objs.size+1:=by rw[hh0]; exact Heap.size_push ..
   have set0:ur prog w s.heap.objs.size [] h0:=⟨_,#[],0,_,g0,⟨rfl,rfl,rfl⟩,rfl,λe he=>by simp at he,λk=>by simp[memK],by decide,by rfl,rfl⟩;rw[<-hh0];have hT:Shared.TypeIs { s with heap:=h0 } (.ref s.heap.objs.size) "set" := ⟨_,g0,rfl⟩;have i1:=uL.init.lookup; have i2:=uL.init.bind (.ref s.heap.objs.size)
   repeat (any_goals (first|wp_step|assumption))
   refine ZJ (Mx (R:=wants (λr s2=>r=.none/\∃h' tk,s2={ s with heap:=h',toks:=tk }/\ur prog w s.heap.objs.size (ks.foldl addK []) h'/\∀b o,s.heap.get? b=some o->h'.get? b=some o) E) uL.init.plain F.entry_set_init (check_set_init_1 hT ?_)) λr2 s2 hr2=>?_
   ·have ho0:=k0 l o ho;obtain⟨oc,od,odt,os⟩:=o;simp only at hc hdat;subst hc hdat;have hl0:h0.IsList l its.toArray:=⟨_,ho0,rfl,n,rfl⟩;have s1:=F.sub_list_set; have s2:=F.sub_list_frozenset;have ne:(Value.type "list" == Value.type "dict")=false:=by decide
    have hlt:=Heap.lt_size ho;unfold Builtin.«set.__init__» noKeywords Builtin.Frozenset.updateFrom;generalize eP:pyIter=P
    wp_walk
    subst eP;refine X3 hl0 (zE (J4 ?_));have ki:∀c oc,s.heap.get? c=some oc->(h0.push { cls:=.type "list_iterator",data:=.fields #[.ref l,.int 0 0] }).get? c=some oc:=λc oc e=>Heap.get?_push_of_some _ (k0 c oc e)
    refine G_ (l:=l) (its:=its) (by simp[hA]) (yi (ud hlt)) (yi (by rw[z0]; exact xh (ZG _))) (yi (by rw[z0]; exact xh (ZF hlt))) ks 0 [] _ ⟨_,Heap.get?_push_size _ rfl,rfl,rfl⟩ ⟨_,ki l _ ho,rfl,n,rfl⟩ (by rw[xn]; exact hn) (λj k e=>by rw[xn]; exact hp j k e) (set0.keep λoc e=>Heap.get?_push_of_some _ e) (by simpa using hz) λh' tk hs kp=>?_
    refine zX (show wpAny _ _ (ret Value.none) _ _ _ from zX ⟨rfl,h',tk,rfl,hs,λc oc e=>?_⟩);have hb:=Heap.lt_size e;exact kp c oc (yi (xh hb)) (yi (by rw[z0]; exact xh (ZF hb))) (ki c oc e)
   ·cases r2 with
    |error e=>exact hr2
    |ok f2=>
     cases f2 with
     |ret r=>
      obtain⟨rfl,h',tk,rfl,hs,kp⟩:=hr2
      repeat (any_goals (first|wp_step|assumption))
      exact h _ _ hs kp
     |_=>exact hr2.elim
  |_=>exact hr.elim
end
abbrev UD(prog:Program)(w:World)(a:Addr)(ks:List Key):HO:=.ext (ur prog w a ks)
section
variable{X:Cx}
theorem OA(P:Program)(w:World):∀{ks:List Key}{its:List Value},zf (ks.map kV) its->∀(j:Nat)(k:Key),ks[j]?=some k->∃v,its[j]?=some v/\vT k v=true
 | [],_,.nil,j,k,h=>by cases h
 |k::ks,_,.cons r t,j,k',h=>by
  cases j with
  |zero=>
   cases h;exact⟨_,rfl,jH (P:=P) (w:=w) r⟩
  |succ j=>
   obtain⟨v,e,q⟩:=OA P w t j k' (by simpa using h);exact⟨v,by simpa using e,q⟩
def d8(X:Cx):List V->Hp->VK->Prop:=λxs H Q=>∃(a:Addr) (ks:List Key),xs=[.ref a]/\yG X.K H a (ks.map kV)/\ks.length<1000/\∀p,H p=none->Q (.ref p) (ze H p (UD X.prog X.w p (ks.foldl addK [])))
theorem Na(hcalm:X.calm=true):wr X (.type "set") (d8 X):=by
 intro z8 s σ H xs us Q I r h;obtain⟨a,ks,rfl,sq,hl,q⟩:=h;obtain⟨u,rfl,ru⟩:=ub r;cases(show u=Value.ref a from ru);obtain⟨its,rv,⟨o,n,ho,hc,hdd,hdat⟩,hz⟩:=I.list sq;have hn:ks.length=its.length:=by rw[<-rv.length,zj]
 refine Nc (I.ok.hd hcalm) ho hc hdat hn (OA X.prog X.w rv) (by unfold scanBound; omega) λh' tk hs kp=>?_
 refine⟨.ref s.heap.objs.size,_,I.laid (a:=s.heap.objs.size) (o:=UD X.prog X.w s.heap.objs.size (ks.foldl addK [])) (t':=tk) kp (zt _) ⟨hs,?_,λh1 h2 z k=>z.keep k⟩,rfl,q _ I.fresh⟩;obtain⟨o',_,_,_,e,_⟩:=hs;exact⟨o',e⟩
def cw(X:Cx):List V->Hp->VK->Prop:=λxs H Q=>∃(a:Addr) (ks:List Key),xs=[.ref a]/\H a=some (UD X.prog X.w a ks)/\Q (.int ks.length) H
theorem NU:wr X (.builtin "len") (cw X):=by
 intro z8 s σ H xs us Q I r h;obtain⟨a,ks,rfl,ea,q⟩:=h;obtain⟨u,rfl,ru⟩:=ub r;cases(show u=Value.ref a from ru);obtain⟨⟨o,es,ep,t,ho,hx,hd,_,_,hb,hf,hl⟩,_⟩:=(show xP X.prog X.w H s.heap a (UD X.prog X.w a ks)from I.hok a _ ea);refine call_len_set ho hx hd hf (by unfold scanBound at hb; omega) ?_;rw[hl];exact⟨.int ks.length,H,I.tok _,⟨_,rfl⟩,q⟩
end
end L2
namespace L3
open PySem PySem.Spec PyProof.Rows L2
theorem Bo:bootBuiltins "set" = some (.type "set"):=by decide +kernel
def Zz:List D->Option (List (Sum Int Str))
 | []=>some []
 |d::r=>(qE d).bind λk=>(Zz r).bind λks=>some (k::ks)
def Jt:List D->Option D
 | [.lst xs]=>(Zz xs).bind λks=>if ks.length<1000 then some (.int (ks.foldl addK []).length)else none
 |_=>none
theorem FQ{K:W.Frag}{G:Hp}:∀{ds:List D}{ks:List Key}{vs:List V},Zz ds=some ks->Reps K G ds vs->vs=ks.map kV
 | [],_,_,h,r=>by
  cases h;exact r
 |d::ds,ks,_,h,⟨v,r,rfl,hv,hr⟩=>by
  obtain⟨k,hk,h⟩:=zM h;obtain⟨ks',h1,h⟩:=zM h;cases h;rw[FQ h1 hr,xT];cases d with
  |int i=>cases hk; rw[show v=V.int i from hv]; rfl
  |str z=>cases hk; rw[show v=V.str z from hv.1]; rfl
  |_=>cases hk
section
variable{X:Cx}{K:W.Frag}
theorem fZ{e:Expr}{p p2 pos pos2:Pos}{fs:FA}(hcalm:X.calm=true)(hg:Gl X "len")(hm:X.mg "len" = none)(hg2:Gl X "set")(hm2:X.mg "set" = none)(ha:SA X [e] fs)(hs:xM e=true:=by rfl) :
  SE X (.Call (.Name "len" p) [.Call (.Name "set" p2) [e] [] pos2] [] pos) (eL Jt fs):=by
 obtain⟨t,pt,k⟩:=ha.h;have q1:=YG (p:=p2) (pos:=pos2) (Na hcalm) hg2 hm2 Bo ⟨pt⟩ (by decide) (by decide) (by rw[xz,hs]; rfl);refine⟨⟨_,(W8 (p:=p) (pos:=pos) NU hg hm wT (W7 q1 Tz) (by decide) (by decide)).h,λ{G0 H0 G H τ σ d Q} E hf q=>?_⟩⟩;obtain⟨ds,hd,hf⟩:=zM hf;refine k E hd λvs G1 H1 x1 r1=>?_
 match ds,hf with
 | [.lst xs],hf=>
  obtain⟨ks,hk,hf⟩:=zM hf
  have hlt:ks.length<1000:=by
   by_cases c:ks.length<1000
   ·exact c
   ·rw[zL c]at hf; cases hf
  rw[zK hlt]at hf;cases hf;obtain⟨v,rfl,a,us,rfl,sq,rs,l⟩:=qe r1;rw[FQ hk rs]at sq;refine⟨a,ks,rfl,v8 x1.gh sq,hlt,λp hp=>?_⟩;exact⟨p,_,rfl,xJ,q _ _ _ (x1.trans (zT.layO x1.gh hp)) rfl⟩
end
end L3
namespace L2
open PySem PySem.Spec PyProof PyProof.Rows
structure xq(t:SetTable):Prop where
 du:t.dummies=#[]
 up:t.place.toList.Pairwise (·<·)
theorem JS{xs:Array Nat}(up:xs.toList.Pairwise (·<·))(j:Nat):∀(f lo hi:Nat),lo<=hi->hi<=xs.size->hi-lo<=f->(∀(i:Nat)(h:i<xs.size),i<lo->xs[i]<j)->(∀(i:Nat)(h:i<xs.size),hi<=i->j<=xs[i])->
  SetTable.below.go xs j f lo hi<=xs.size/\(∀(i:Nat)(h:i<xs.size),i<SetTable.below.go xs j f lo hi->xs[i]<j)/\(∀(i:Nat)(h:i<xs.size),SetTable.below.go xs j f lo hi<=i->j<=xs[i])
 |0,lo,hi,h1,h2,h3,a,b=>by
  unfold SetTable.below.go;exact⟨by omega,a,λi h c=>b i h (by omega)⟩
 |f+1,lo,hi,h1,h2,h3,a,b=>by
  have mono:∀(i k:Nat)(hi:i<xs.size)(hk:k<xs.size),i<k->xs[i]<xs[k]:=λi k hi hk c=>by
   have:=Mi.mp up i k (by simpa using hi) (by simpa using hk) c;simpa using this
  unfold SetTable.below.go;by_cases c:lo<hi
  ·rw[zK c];have hm:(lo+hi)/2<xs.size:=by omega
   have e:xs.getD ((lo+hi)/2) j=xs[(lo+hi)/2]:=by simp[Array.getD,hm]
   show(if xs.getD ((lo+hi)/2) j<j then _ else _)<=_/\_;dsimp only;rw[e];by_cases q:xs[(lo+hi)/2]<j
   ·rw[zK q];refine JS up j f ((lo+hi)/2+1) hi (by omega) h2 (by omega) (λi h z=>?_) b;by_cases y:i=(lo+hi)/2
    ·subst y; exact q
    ·exact Qt (mono i _ h hm (by omega)) q
   ·rw[zL q];refine JS up j f lo ((lo+hi)/2) (by omega) (by omega) (by omega) a (λi h z=>?_);by_cases y:i=(lo+hi)/2
    ·subst y; omega
    ·have:=mono _ i hm h (by omega);omega
  ·rw[zL c];exact⟨by omega,a,λi h z=>b i h (by omega)⟩
theorem JT{xs:Array Nat}(up:xs.toList.Pairwise (·<·))(j:Nat):SetTable.below xs j<=xs.size/\(∀(i:Nat)(h:i<xs.size),i<SetTable.below xs j->xs[i]<j)/\(∀(i:Nat)(h:i<xs.size),SetTable.below xs j<=i->j<=xs[i]):=
 JS up j xs.size 0 xs.size (xb _) (zt _) (by omega) (λi _ h=>by omega) λi h c=>by omega
theorem cU{xs:Array Nat}{j:Nat}(up:xs.toList.Pairwise (·<·))(no:xs[SetTable.below xs j]?≠some j):(SetTable.insertAt xs (SetTable.below xs j) j).toList.Pairwise (·<·):=by
 obtain⟨b0,b1,b2⟩:=JT up j;generalize SetTable.below xs j=p at *;rw[SetTable.toList_insertAt];refine List.pairwise_append.mpr ⟨up.sublist (List.take_sublist ..),gU.mpr ⟨λa ha=>?_,up.sublist (List.drop_sublist ..)⟩,λa ha b hb=>?_⟩
 ·obtain⟨i,hi,rfl⟩:=VP ha;rw[ZB,wy]at hi;rw[List.getElem_drop,VJ];have h1:=b2 (p+i) (by omega) (by omega)
  have h2:xs[p+i]'(by omega)≠j:=λz=>by
   cases i with
   |zero=>exact no (by rw[Z4 (by omega)]; exact congrArg some z)
   |succ i=>
    have h3:=b2 p (by omega) (zt _);have h4:=Mi.mp up p (p+(i+1)) (by simp; omega) (by simp; omega) (by omega);simp only[VJ]at h4;omega
  omega
 ·have lt:a<j:=by
   obtain⟨i,hi,rfl⟩:=VP ha;rw[tY,wy]at hi;rw[List.getElem_take,VJ];exact b1 i (by omega) (by omega)
  rcases yI.mp hb with rfl|hb
  ·exact lt
  ·obtain⟨i,hi,rfl⟩:=VP hb;rw[ZB,wy]at hi;rw[List.getElem_drop,VJ];have:=b2 (p+i) (by omega) (by omega);omega
theorem CQ{t:SetTable}(h:xq t)(j:Nat):SetTable.has t.dummies j=false:=by
 rw[h.du];rfl
theorem lK{t:SetTable}(h:xq t)(j:Nat):(t.slot j=.empty/\t.place[SetTable.below t.place j]?≠some j)\/∃i,t.slot j=.live i:=by
 unfold SetTable.slot;dsimp only;by_cases c:t.place[SetTable.below t.place j]?=some j
 ·rw[zK (by rw[c]; exact jX _)];exact .inr ⟨_,rfl⟩
 ·rw[zL (by rw[qN]; exact c),CQ h,zL yR];exact .inl ⟨rfl,c⟩
theorem G4{t:SetTable}(h:xq t){f:Nat->Int}{hh:Int}:∀(n:Nat)(p:SetTable.Probe){j:Nat}{d:Option Nat},p.dummy=none->SetTable.probe.go t f hh n p=some (.empty j d)->d=none/\t.place[SetTable.below t.place j]?≠some j
 |0,p,j,d,hp,e=>by
  unfold SetTable.probe.go at e;cases e
 |n+1,p,j,d,hp,e=>by
  have adv:(t.advance p).dummy=none:=by
   unfold SetTable.advance
   split
   ·exact hp
   ·exact hp
  unfold SetTable.probe.go at e;rcases lK h p.j with⟨s,no⟩|⟨i,s⟩
  ·rw[s]at e;dsimp only at e;cases e;exact⟨hp,no⟩
  ·rw[s]at e;dsimp only at e
   split at e
   ·cases e
   ·exact G4 h n (t.advance p) adv e
theorem xq.stand(t:SetTable)(n:Nat):xq (t.standIn n):=⟨rfl,by
 show(Array.range n).toList.Pairwise (·<·);rw[Array.toList_range];exact Mj⟩
theorem xq.lay{t:SetTable}(h:xq t)(es:Array (Int×Value))(hh:Int)(x:Value):xq (layNew t es hh x).2.1:=by
 unfold layNew
 split
 ·rename_i slot wd hs;dsimp only
  have put:xq (t.put slot).1:=by
   unfold SetTable.freeSlot at hs
   split at hs
   ·rename_i j d e;obtain⟨rfl,no⟩:=G4 h _ _ (show(t.probeStart hh).dummy=none from rfl) e;cases hs;unfold SetTable.put;refine⟨?_,?_⟩
    ·show(if SetTable.has t.dummies _=true then _ else _)=_;rw[CQ h,zL yR];exact h.du
    ·exact cU h.up no
   ·cases hs
  unfold SetTable.orStandIn
  split
  ·exact put
  ·exact xq.stand _ _
 ·exact xq.stand _ _
theorem xq.plain{t:SetTable}(h:xq t)(b:Bool):xq { t with plain:=b }:=⟨h.du,h.up⟩
theorem SX{mask finger moves:Nat}{led plain:Bool}{hs:Array Int}{t':SetTable}{order:Array Nat}(e:SetTable.laid mask finger moves led plain hs=some (t',order)):xq t'/\t'.led=led:=by
 unfold SetTable.laid at e;cases c:SetTable.layClean mask hs with
 |none=>rw[c]at e; cases e
 |some owner=>
  rw[c]at e;cases e;refine⟨⟨rfl,?_⟩,rfl⟩;show((List.filterMap _ _).map _).Pairwise _;refine MX _ (R:=λa b:Nat×Nat=>a.1<b.1) (λa b z=>z) ?_;refine List.Pairwise.filterMap _ (R:=λa b:Nat=>a<b) (λa b z x hx y hy=>?_) Mj;obtain⟨_,_,rfl⟩:=Km.mp hx;obtain⟨_,_,rfl⟩:=Km.mp hy;exact z
theorem xq.relay{t:SetTable}(es:Array (Int×Value))(n:Nat)(h:xq t):xq (relayAll t es n).2.1/\(relayAll t es n).2.1.led=t.led:=by
 unfold relayAll
 split
 ·rename_i t' order e;dsimp only
  split
  ·exact SX e
  ·exact⟨xq.stand _ _,rfl⟩
 ·exact⟨xq.stand _ _,rfl⟩
theorem Sg(t:SetTable)(es:Array (Int×Value))(hh:Int)(x:Value):(layNew t es hh x).2.1.led=t.led:=by
 unfold layNew
 split
 ·dsimp only;unfold SetTable.orStandIn
  split<;>rfl
 ·rfl
section
variable{prog:Program}{w:World}{K:Type}[DecidableEq K]{knd:KeyKind prog w K}{A:Around}{E:Value->Shared->Prop}
theorem GE{h:Heap}{a:Addr}{o:Obj}{es es2:Array (Int×Value)}{ep:Nat}{t t2:SetTable}(ho:h.get? a=some o)(hd:o.data=.set es ep t) :
  (h.update a (Obj.putSet es2 t2)).get? a=some { o with data:=.set es2 (ep+1) t2 }:=by
 have e:=Heap.get?_update_self (Obj.putSet es2 t2) ho (by rw[putSet_of es2 t2 hd]; rfl);rw[putSet_of es2 t2 hd]at e;exact e
theorem He{s:Shared}{g:Bool->Sem Unit}(hg:∀(b:Bool)(s1:Shared)(Q1:Unit->Shared->Prop),Q1 () s1->wpAny (model prog w) A (g b) Q1 E s1){a:Addr}{o:Obj}{es:Array (Int×Value)}{ep:Nat}{t:SetTable}(ho:s.heap.get? a=some o)(hd:o.data=.set es ep t)
  {es1:Array (Int×Value)}{t2:SetTable}(hb:es1.size<scanBound)(hf:t2.fits es1.size=true)(tb:xq t2){wd:Bool}{R:Option Bool->Shared->Prop}
  (h:∀(h':Heap)(es':Array (Int×Value)) (ep':Nat) (t':SetTable),Heap.SameBut a s.heap h'->h'.get? a=some { o with data:=.set es' ep' t' }->es'.toList.Perm es1.toList->t'.fits es'.size=true->xq t'->t'.led=t2.led->R (some true) { s with heap:=h' }) :
  wpAny (model prog w) A (storeSet a es1 t2 >>= λ_=>if(!wd&&t2.tooFull)=true then g (relayAll t2 es1 (SetTable.grown es1.size)).2.2 >>= λ_=>storeSet a (relayAll t2 es1 (SetTable.grown es1.size)).1 (relayAll t2 es1 (SetTable.grown es1.size)).2.1 >>= λ_=>pure (some true)else pure (some true)) R E s:=by
 refine zE (wpAny_storeSet_of (es':=es1) (t':=t2) ho hd ?_ (Va hb));have h1:=GE (es2:=es1) (t2:=t2) ho hd;have k1:=Heap.SameBut.update s.heap a (Obj.putSet es1 t2)
 split
 ·have pm:=relayAll_perm t2 es1 (SetTable.grown es1.size);have hf3:=relayAll_fits t2 es1 (SetTable.grown es1.size);obtain⟨tb3,ld3⟩:=tb.relay es1 (SetTable.grown es1.size);generalize relayAll t2 es1 (SetTable.grown es1.size)=L at *;obtain⟨es2,t3,gv⟩:=L;dsimp only at *;have hz:es2.size=es1.size:=by rw[<-wy,pm.length_eq,wy]
  refine zE (hg gv _ _ (zE (wpAny_storeSet_of (es':=es2) (t':=t3) h1 rfl (zX ?_) (Va (by omega)))));exact h _ es2 _ t3 (k1.trans (Heap.SameBut.update _ a _)) (GE (o:={ o with data:=.set es1 (ep+1) t2 }) h1 rfl) pm hf3 tb3 ld3
 ·exact zX (h _ es1 _ t2 k1 h1 (pO _) hf tb rfl)
theorem Ky{s:Shared}{a:Addr}{o:Obj}{es:Array (Int×Value)}{ep:Nat}{t:SetTable}{k:K}{x:Value}{Q:Bool->Shared->Prop}(hkey:knd.is k x=true)(hsc:x.scannable=true)(ho:s.heap.get? a=some o)(hd:o.data=.set es ep t)(hel:ElemsOf knd es.toList)(hb:es.size+1<scanBound)(hf:t.fits es.size=true)(tb:xq t)
  (h0:(∃e∈es.toList,knd.is k e.2=true)->Q false s)
  (h1:(∀e∈es.toList,knd.is k e.2=false)->∀(h':Heap)(es':Array (Int×Value)) (ep':Nat) (t':SetTable),Heap.SameBut a s.heap h'->h'.get? a=some { o with data:=.set es' ep' t' }->es'.toList.Perm (es.toList++[(knd.hash k,x)])->t'.fits es'.size=true->xq t'->t'.led=t.led->Q true { s with heap:=h' }) :
  wpAny (model prog w) A (setAddHashed a x (knd.hash k)) Q E s:=by
 unfold setAddHashed setAddHashedIn;refine t9 (zE (X6 (es:=es) (t:=t) ho hd hf ?_));dsimp only;rw[byScan_of hsc (Nat.lt_of_succ_lt hb) hel,zK rfl];unfold setAddByScan;refine zE (zE (X4 (zE (wpAny_setScan_of hkey ho hd hf hel ?_))));cases hr:List.findIdx? (λe=>knd.is k e.2) es.toList with
 |some j=>
  dsimp only;obtain⟨hj,hp,_⟩:=List.findIdx?_eq_some_iff_getElem.mp hr;exact zX (zX (h0 ⟨es.toList[j],ZA hj,hp⟩))
 |none=>
  dsimp only;have no:∀e∈es.toList,knd.is k e.2=false:=λe he=>List.findIdx?_eq_none_iff.mp hr e he
  have gw:∀(b:Bool){s1:Shared}{Q1:Unit->Shared->Prop},Q1 () s1->wpAny (model prog w) A (match b with|true=>rule "set.scan.the-table-gave-way" |false=>pure ()) Q1 E s1:=λb _ _ q=>by
   cases b
   ·exact zX q
   ·exact X4 q
  have pm:=layNew_perm t es (knd.hash k) x;have hf1:=layNew_fits t es (knd.hash k) x;have tb1:=tb.lay es (knd.hash k) x;have ld1:=Sg t es (knd.hash k) x;generalize layNew t es (knd.hash k) x=L at *;obtain⟨es1,t1,wd,gv⟩:=L;dsimp only at *;rw[Array.toList_push]at pm
  have hb1:es1.size<scanBound:=by
   rw[<-wy,pm.length_eq,yD,wy];exact hb
  refine zE (gw gv ?_)
  split
  ·refine zE ?_;rw[hashByValue_scannable 8 hsc];refine zX ?_
   have tb2:xq (if plainKind x=true then t1 else { t1 with plain:=false })/\(if plainKind x=true then t1 else { t1 with plain:=false }).led=t1.led/\(if plainKind x=true then t1 else { t1 with plain:=false }).fits es1.size=true:=by
    split
    ·exact⟨tb1,rfl,hf1⟩
    ·exact⟨tb1.plain false,rfl,SetTable.fits_plain_off hf1⟩
   refine He (λb s1 Q1 q=>gw b q) ho hd hb1 tb2.2.2 tb2.1 λh' es' ep' t' kp g p f b l=>?_
   dsimp only;exact zX (h1 no h' es' ep' t' kp g (p.trans pm) f b ((l.trans tb2.2.1).trans ld1))
  ·refine zE (zX ?_);simp only[↓reduceIte];refine He (λb s1 Q1 q=>gw b q) ho hd hb1 hf1 tb1 λh' es' ep' t' kp g p f b l=>?_
   dsimp only;exact zX (h1 no h' es' ep' t' kp g (p.trans pm) f b (l.trans ld1))
end
def jz:Value->Key
 |.int i _=>.inl i
 |.str x _=>.inr x
 |_=>.inl 0
theorem O9{k:Key}{v:Value}(h:vT k v=true):jz v=k:=by
 rcases qG h with⟨i,t,rfl,rfl⟩|⟨x,t,rfl,rfl⟩<;>rfl
section
variable{prog:Program}{w:World}
def ut(prog:Program)(w:World)(a:Addr)(ks:List Key)(h:Heap):Prop:=∃o es ep t,h.get? a=some o/\o.ExactSet/\o.data=.set es ep t/\ElemsOf (y_ prog w) es.toList/\es.size<scanBound/\t.fits es.size=true/\xq t/\t.led=(!w.params.followText "set-order")/\(es.toList.map λe=>jz e.2).Perm ks
theorem ut.keep{a:Addr}{ks:List Key}{h h':Heap}(z:ut prog w a ks h)(k:∀o,h.get? a=some o->h'.get? a=some o):ut prog w a ks h':=by
 obtain⟨o,es,ep,t,ho,r⟩:=z;exact⟨o,es,ep,t,k o ho,r⟩
theorem DL{es:List (Int×Value)}(hel:ElemsOf (y_ prog w) es){e:Int×Value}(he:e∈es):vT (jz e.2) e.2=true:=by
 obtain⟨⟨k,hk,_⟩,_⟩:=hel e he;have hk:vT k e.2=true:=hk;rw[O9 hk];exact hk
theorem C1{ks:List Key}{k:Key}:memK ks k=true↔k∈ks:=by
 unfold memK;rw[Qn];exact⟨λ⟨x,hx,e⟩=>vQ e▸hx,λh=>⟨k,h,xD rfl⟩⟩
theorem ut.add{A:Around}{E:Value->Shared->Prop}{s:Shared}{a:Addr}{ks:List Key}{k:Key}{x:Value}{Q:Bool->Shared->Prop}(z:ut prog w a ks s.heap)(hk:vT k x=true)(hb:ks.length+1<scanBound)
  (h:∀(h':Heap)(b:Bool),(∀c o,c≠a->s.heap.get? c=some o->h'.get? c=some o)->ut prog w a (addK ks k) h'->Q b { s with heap:=h' }):wpAny (model prog w) A (setAddHashed a x ((y_ prog w).hash k)) Q E s:=by
 obtain⟨o,es,ep,t,ho,hx,hd,hel,hb0,hf,tb,ld,pm⟩:=z;have hz:es.size=ks.length:=by rw[<-pm.length_eq,zj,wy]
 refine Ky (knd:=y_ prog w) (k:=k) hk (O8 hk) ho hd hel (by omega) hf tb (λ⟨e,he,q⟩=>?_) λno h' es' ep' t' kp g p f tb' l=>?_
 ·have q:vT k e.2=true:=q;have m:memK ks k=true:=C1.mpr (pm.mem_iff.mp (wp.mpr ⟨e,he,O9 q⟩));have ea:addK ks k=ks:=by unfold addK; rw[m,zK rfl]
  have:=h s.heap false (λ_ _ _ e=>e) (by rw[ea]; exact⟨o,es,ep,t,ho,hx,hd,hel,hb0,hf,tb,ld,pm⟩);exact this
 ·have m:memK ks k=false:=by
   cases c:memK ks k with
   |false=>rfl
   |true=>
    exfalso
    obtain⟨e,he,q⟩:=wp.mp (pm.mem_iff.mpr (C1.mp c));have i:=DL hel he;rw[q]at i;have n:vT k e.2=false:=no e he;rw[n]at i;cases i
  have ea:addK ks k=ks++[k]:=by unfold addK; rw[m,zL yR]
  have ez:es'.size=es.size+1:=by rw[<-wy,p.length_eq,yD,wy]; rfl
  refine h h' true (λc oc hc e=>(kp.2 c hc).trans e) ?_;rw[ea];refine⟨_,es',ep',t',g,hx,rfl,(hel.push (knd:=y_ prog w) (k:=k) hk (O8 hk)).perm p,by omega,f,tb',l.trans ld,?_⟩;refine(p.map λe=>jz e.2).trans ?_;rw[qM];refine pm.append (Qm ?_);show[jz x]=[k];rw[O9 hk]
theorem fz{A:Around}{E:Value->Shared->Prop}{s:Shared}(a:Value){Q₁:Value->Shared->Prop}(h:Q₁ (.ref s.heap.objs.size) { s with heap:=s.heap.push { cls:=.type "set",dict:=none,data:=.set #[] 0 (.fresh 0 0 (!w.params.followText "set-order")) } }) :
  codeAny (model prog w) A (.call (.builtin "set.__new__") ⟨[.type "set",a],[]⟩) (wants Q₁ E) s:=by
 refine Mz (show wpAny _ A.in1 (checkBuiltinCall "set.__new__" ⟨[.type "set",a],[]⟩ >>= λ_=>again (.builtin "set.__new__" ⟨[.type "set",a],[]⟩)) _ _ s from ?_);refine zE (wpAny_of_eq (F.newCall_set_1 a) (zX ⟨X0 F.plain_set_new _,tf (F.entry_set_new) ?_⟩));rw[gR (F.plain_set_new) _];unfold Builtin.«set.__new__» Builtin.Frozenset.newClass;have e:=sub_set_self;obtain⟨hp,g,d,tk,os⟩:=s;dsimp only
 wp_walk
 refine X1 (zX ?_);dsimp only;simp only[newObj];exact zE (wpAny_alloc (zX (zX h)))
theorem HA{A:Around}{R:Result->Shared->Prop}{d it l:Addr}{its:List Value}(hA:A.handled=none)(hdl:d≠l)(hdi:d≠it)(hli:l≠it) :
  ∀(ks:List Key)(i:Nat)(acc:List Key)(s:Shared),s.heap.IsListIter it l i->s.heap.IsList l its.toArray->i+ks.length=its.length->(∀(j:Nat)(k:Key),ks[j]?=some k->∃v,its[i+j]?=some v/\vT k v=true)->
   ut prog w d acc s.heap->acc.length+ks.length+1<scanBound->(∀h' tk,ut prog w d (ks.foldl addK acc) h'->(∀b o,b≠d->b≠it->s.heap.get? b=some o->h'.get? b=some o)->R (.ok (.ret .none)) { s with heap:=h',toks:=tk })->
   codeAny (model prog w) A (.builtin "set.update.loop" ⟨[.ref d,.ref it],[]⟩) R s
 | [],i,acc,s,st,hl,hn,hp,hd,hz,h=>by
  refine tf Qj ?_;rw[gR Yl _];unfold Builtin.«set.update.loop»;refine zE (J2 (by exact hA) st hl (by simp at hn ⊢; omega) λh' eb=>?_);exact zX (h h' s.toks (hd.keep λo e=>eb d o hdi e) λb o _ hb e=>eb b o hb e)
 |k::ks,i,acc,s,st,hl,hn,hp,hd,hz,h=>by
  obtain⟨v,hv,hk⟩:=hp 0 k rfl;refine tf Qj ?_;rw[gR Yl _];unfold Builtin.«set.update.loop»;refine zE (J3 st hl (x:=v) (by simpa using hv) λh1 st1 sb=>?_);have keep1:∀c o,c≠it->s.heap.get? c=some o->h1.get? c=some o:=λc o hc e=>(sb.2 c hc).trans e
  have hd1:ut prog w d acc h1:=hd.keep λo e=>keep1 d o hdi e
  rw[xK]at hz hn;refine zE (t9 ?_);unfold setAdd;refine t9 (zE ((y_ prog w).pyHash (k:=k) hk ?_));refine hd1.add (s:={ s with heap:=h1,toks:=_ }) hk (by omega) λh2 bb kp2 hd2=>?_
  have keep2:∀c o,c≠d->c≠it->s.heap.get? c=some o->h2.get? c=some o:=λc o a1 a2 e=>(kp2 c o a1 (keep1 c o a2 e))
  refine zX ⟨X0 (Yl) _,?_⟩;have hl2:=BM acc k;refine HA (its:=its) hA hdl hdi hli ks (i+1) (addK acc k) _ ?_ ?_ (by omega) (λj k' e=>?_) hd2 (by omega) λh' tk hd' kp=>?_
  ·exact st1.at λo e=>kp2 it o (λz=>hdi z.symm) e
  ·obtain⟨o,e,r⟩:=hl;exact⟨o,keep2 l o (λz=>hdl z.symm) hli e,r⟩
  ·obtain⟨v',hv',hk'⟩:=hp (j+1) k' (by simpa using e);exact⟨v',by rw[show i+1+j=i+(j+1) by omega]; exact hv',hk'⟩
  ·exact h h' tk hd' λc o a1 a2 e=>kp c o a1 a2 (keep2 c o a1 a2 e)
set_option maxHeartbeats 8000000 in
theorem Nd{A:Around}{E:Value->Shared->Prop}{s:Shared}{l:Addr}{o:Obj}{its:List Value}{n:Nat}{ks:List Key}{Q:Value->Shared->Prop}(hA:A.handled=none)(ho:s.heap.get? l=some o)(hc:o.cls=.type "list")(hdat:o.data=.seq its.toArray n)
  (hn:ks.length=its.length)(hp:∀(j:Nat)(k:Key),ks[j]?=some k->∃v,its[j]?=some v/\vT k v=true)(hz:ks.length+1<scanBound)
  (h:∀h' tk,ut prog w s.heap.objs.size (ks.foldl addK []) h'->(∀b o,s.heap.get? b=some o->h'.get? b=some o)->Q (.ref s.heap.objs.size) { s with heap:=h',toks:=tk }) :
  wpAny (model prog w) A (call (.type "set") [.ref l]) Q E s:=by
 obtain⟨_,_,em⟩:=uL.mro;have e1:=uL.made; have e2:=uL.sub; have e3:=uL.notType; have e4:=uL.canCreate; have e5:=F.typeCall_set_1 (.ref l);refine Q_ (Mz (show wpAny _ _ (callAny (.type "set") _) _ _ _ from zX ⟨Qi _ (by decide +kernel),tf F.entry_type_call ?_⟩));rw[Around.under_plain (weight_type_call_type "set" [.ref l] []) rfl]
 repeat (any_goals (first|wp_step|assumption))
 refine ZJ (fz (.ref l) (E:=E) (Q₁:=λv s1=>v=.ref s.heap.objs.size/\s1={ s with heap:=s.heap.push { cls:=.type "set",dict:=none,data:=.set #[] 0 (.fresh 0 0 (!w.params.followText "set-order")) } }) ⟨rfl,rfl⟩) λr s1 hr=>?_
 cases r with
 |error e=>exact hr
 |ok fl=>
  cases fl with
  |ret v=>
   obtain⟨rfl,rfl⟩:=hr;generalize hb0:(!w.params.followText "set-order")=b;obtain⟨h0,hh0⟩:∃h0,h0=s.heap.push { cls:=.type "set",dict:=none,data:=.set #[] 0 (.fresh 0 0 b) }:=⟨_,rfl⟩;have g0:h0.get? s.heap.objs.size=some { cls:=.type "set",dict:=none,data:=.set #[] 0 (.fresh 0 0 b) }:=by rw[hh0]; exact Heap.get?_push_size _ rfl
   have k0:∀c oc,s.heap.get? c=some oc->h0.get? c=some oc:=λc oc e=>by rw[hh0]; exact Heap.get?_push_of_some _ e
   have z0:h0.objs.size=s.heap.objs.size+1:=by rw[hh0]; exact Heap.size_push ..
   have set0:ut prog w s.heap.objs.size [] h0:=⟨_,#[],0,_,g0,⟨rfl,rfl,rfl⟩,rfl,λe he=>by simp at he,by decide,by rfl,⟨rfl,List.Pairwise.nil⟩,hb0.symm,pO _⟩;rw[<-hh0];have hT:Shared.TypeIs { s with heap:=h0 } (.ref s.heap.objs.size) "set" := ⟨_,g0,rfl⟩;have i1:=uL.init.lookup; have i2:=uL.init.bind (.ref s.heap.objs.size)
   repeat (any_goals (first|wp_step|assumption))
   refine ZJ (Mx (R:=wants (λr s2=>r=.none/\∃h' tk,s2={ s with heap:=h',toks:=tk }/\ut prog w s.heap.objs.size (ks.foldl addK []) h'/\∀b o,s.heap.get? b=some o->h'.get? b=some o) E) uL.init.plain F.entry_set_init (check_set_init_1 hT ?_)) λr2 s2 hr2=>?_
   ·have ho0:=k0 l o ho;obtain⟨oc,od,odt,os⟩:=o;simp only at hc hdat;subst hc hdat;have hl0:h0.IsList l its.toArray:=⟨_,ho0,rfl,n,rfl⟩;have s1:=F.sub_list_set; have s2:=F.sub_list_frozenset;have ne:(Value.type "list" == Value.type "dict")=false:=by decide
    have hlt:=Heap.lt_size ho;unfold Builtin.«set.__init__» noKeywords Builtin.Frozenset.updateFrom;generalize eP:pyIter=P
    wp_walk
    subst eP;refine X3 hl0 (zE (J4 ?_));have ki:∀c oc,s.heap.get? c=some oc->(h0.push { cls:=.type "list_iterator",data:=.fields #[.ref l,.int 0 0] }).get? c=some oc:=λc oc e=>Heap.get?_push_of_some _ (k0 c oc e)
    refine HA (l:=l) (its:=its) (by simp[hA]) (yi (ud hlt)) (yi (by rw[z0]; exact xh (ZG _))) (yi (by rw[z0]; exact xh (ZF hlt))) ks 0 [] _ ⟨_,Heap.get?_push_size _ rfl,rfl,rfl⟩ ⟨_,ki l _ ho,rfl,n,rfl⟩ (by rw[xn]; exact hn) (λj k e=>by rw[xn]; exact hp j k e) (set0.keep λoc e=>Heap.get?_push_of_some _ e) (by simpa using hz) λh' tk hs kp=>?_
    refine zX (show wpAny _ _ (ret Value.none) _ _ _ from zX ⟨rfl,h',tk,rfl,hs,λc oc e=>?_⟩);have hb:=Heap.lt_size e;exact kp c oc (yi (xh hb)) (yi (by rw[z0]; exact xh (ZF hb))) (ki c oc e)
   ·cases r2 with
    |error e=>exact hr2
    |ok f2=>
     cases f2 with
     |ret r=>
      obtain⟨rfl,h',tk,rfl,hs,kp⟩:=hr2
      repeat (any_goals (first|wp_step|assumption))
      exact h _ _ hs kp
     |_=>exact hr2.elim
  |_=>exact hr.elim
end
theorem VC:Slot "set_iterator" "__next__" "set_iterator.__next__":=
 .of (owner := "set_iterator") (n := "__next__") (by rw[typeLookup_type,builtinLookup_eq_fast]; kernel_rfl) (by decide +kernel) (by decide +kernel) (by decide +kernel) (by first|exact .inl (by decide +kernel)|exact .inr (by decide +kernel)) (by rw[B0]; kernel_rfl)
theorem HE:Slot "set_iterator" "__iter__" "set_iterator.__iter__":=
 .of (owner := "set_iterator") (n := "__iter__") (by rw[typeLookup_type,builtinLookup_eq_fast]; kernel_rfl) (by decide +kernel) (by decide +kernel) (by decide +kernel) (by first|exact .inl (by decide +kernel)|exact .inr (by decide +kernel)) (by rw[B0]; kernel_rfl)
theorem iA:entryFor table "set_iterator.__next__" = some Builtin.«set_iterator.__next__»:=entryFor_of_tree (by kernel_rfl)
theorem i9:entryFor table "set_iterator.__iter__" = some Builtin.«dict_keyiterator.__iter__»:=entryFor_alias (id' := "dict_keyiterator.__iter__") (by kernel_rfl) (by first|rfl|decide +kernel) (by decide +kernel) (by kernel_rfl)
theorem fq:entryFor table "set.__iter__" = some Builtin.«frozenset.__iter__»:=entryFor_alias (id' := "frozenset.__iter__") (by kernel_rfl) rfl (by decide +kernel) (by kernel_rfl)
theorem HD:Manifest.owners.lookup (String.ofList "set_iterator".toList)=some Manifest.sig_set_iterator:=by kernel_rfl
theorem i8(a:Value):argsOk "set_iterator.__next__" ⟨[a],[]⟩:=by
 unfold argsOk; rw[signature?_of (id := "set_iterator.__next__") (n:=['_','_','t','x','e','n','_','_']) (o:=['r','o','t','a','r','e','t','i','_','t','e','s']) (by kernel_rfl) HD]; kernel_rfl
theorem i7(a:Value):argsOk "set_iterator.__iter__" ⟨[a],[]⟩:=by
 unfold argsOk; rw[signature?_of (id := "set_iterator.__iter__") (n:=['_','_','r','e','t','i','_','_']) (o:=['r','o','t','a','r','e','t','i','_','t','e','s']) (by kernel_rfl) HD]; kernel_rfl
section
variable{M:Model}{A:Around}{E:Value->Shared->Prop}
theorem Nk{s:Shared}{src:Source}{n:Nat}{Q:Nat->Shared->Prop}(hn:n≠0)(h:∀i d,i<n->Q i { s with drawn:=d }):wpAny M A (choose src n) Q E s:=
 λ_ _ _=>⟨hn,h _ _ (Nat.mod_lt _ (Nat.pos_of_ne_zero hn))⟩
theorem Jm{α:Type}:∀{xs:List α}{i:Nat}{x:α},xs[i]?=some x->(x::xs.eraseIdx i).Perm xs
 | [],_,_,h=>by cases h
 |y::ys,0,x,h=>by
  cases h;exact pO _
 |y::ys,i+1,x,h=>(List.Perm.swap y x _).trans ((Jm (by simpa using h)).cons y)
theorem DG{α:Type}:∀(n:Nat)(xs:List α)(s:Shared){Q:List α->Shared->Prop},xs.length<=n->(∀ys d,ys.Perm xs->Q ys { s with drawn:=d })->wpAny M A (drawOrder n xs) Q E s
 |0,xs,s,Q,hn,h=>by
  cases xs with
  |nil=>
   unfold drawOrder;exact zX (h [] s.drawn (pO _))
  |cons _ _=>simp at hn
 |n+1,[],s,Q,hn,h=>by
  unfold drawOrder;exact zX (h [] s.drawn (pO _))
 |n+1,x::xs,s,Q,hn,h=>by
  unfold drawOrder;refine zE (Nk (by simp) λi d hi=>?_);have e:(x::xs)[i]?=some ((x::xs)[i]):=yZ hi;rw[e]
  have hl:((x::xs).eraseIdx i).length<=n:=by
   rw[KZ,zK hi];rw[xK]at hn ⊢;omega
  refine zE (DG n _ { s with drawn:=d } hl λys d' p=>zX ?_);exact h _ d' ((List.Perm.cons _ p).trans (Jm e))
end
theorem Et{α:Type}(next:Nat->Nat):∀(n k:Nat)(left:List α)(out:Array α),left.length<=n->(pickOrder.go next n k left out).toList.Perm (out.toList++left)
 |0,k,left,out,h=>by
  cases left with
  |nil=>
   unfold pickOrder.go;exact Qm (wW _).symm
  |cons _ _=>simp at h
 |n+1,k,left,out,h=>by
  unfold pickOrder.go;cases left with
  |nil=>exact Qm (wW _).symm
  |cons x xs=>
   have hi:next k%(x::xs).length<(x::xs).length:=Nat.mod_lt _ (by simp);have e:(x::xs)[next k%(x::xs).length]?=some ((x::xs)[next k%(x::xs).length]):=yZ hi;rw[e];dsimp only
   have hl:((x::xs).eraseIdx (next k%(x::xs).length)).length<=n:=by
    rw[KZ,zK hi];rw[xK]at h ⊢;omega
   refine(Et next n (k+1) _ _ hl).trans ?_;rw[Array.toList_push,ql];exact(pO _).append (Jm e)
theorem bw{α:Type}(next:Nat->Nat)(xs:Array α):(pickOrder next xs).toList.Perm xs.toList:=by
 show(pickOrder.go next xs.size 0 xs.toList #[]).toList.Perm _;have:=Et next xs.size 0 xs.toList #[] (by simp);simpa using this
theorem N9{xs:Array Nat}(up:xs.toList.Pairwise (·<·)):SetTable.below xs 0=0:=by
 obtain⟨a,b,_⟩:=JT up 0;by_cases c:SetTable.below xs 0=0
 ·exact c
 ·have:=b 0 (by omega) (by omega);omega
theorem N8{xs:Array Nat}(up:xs.toList.Pairwise (·<·)){i:Nat}(h:i<xs.size):SetTable.below xs (xs[i]+1)=i+1:=by
 obtain⟨a,b,c⟩:=JT up (xs[i]+1);generalize SetTable.below xs (xs[i]+1)=p at *;rcases Nat.lt_trichotomy p (i+1)with q|q|q
 ·have:=c i h (by omega);omega
 ·exact q
 ·have h1:=b (i+1) (by omega) q;have h2:=Mi.mp up i (i+1) (by simpa using h) (by simp; omega) (by omega);simp only[VJ]at h2;omega
section
variable{prog:Program}{w:World}{A:Around}{E:Value->Shared->Prop}
def Za(h:Heap)(I:Addr)(fs:Array Value):Prop:=h.get? I=some { cls:=.type "set_iterator",data:=.fields fs }
structure Wk(w:World)(a:Addr)(es:Array (Int×Value))(ep:Nat)(t:SetTable)(ord:List Value)(I tp:Addr)(i:Nat)(h:Heap):Prop where
 st:∃o,h.get? a=some o/\o.data=.set es ep t
 md:(w.params.followText "set-order" = true/\ord=(pickOrder (w.params.setOrder a ep) es).toList.map (·.2)/\∃sl:Nat,Za h I #[rawInt sl,rawInt i,.ref a,rawInt es.size,rawInt ep]) \/
  (w.params.followText "set-order" = false/\(!t.plain&&decide (es.size>1))=false/\t.led=true/\xq t/\ord=es.toList.map (·.2)/\∃sl:Nat,Za h I #[rawInt sl,rawInt i,.ref a,rawInt es.size,rawInt ep]/\SetTable.below t.place sl=i) \/
  ∃places:List Nat,ord=places.map (λp=>(es.getD p (0,.none)).2)/\(∀p∈places,p<es.size)/\Za h I #[.ref tp,rawInt i,.ref a,rawInt es.size,rawInt ep]/\h.get? tp=some { cls:=.type "tuple",data:=.seq (places.map λp:Nat=>rawInt p).toArray }
theorem Ro{s:Shared}{a:Addr}{o:Obj}{es:Array (Int×Value)}{ep:Nat}{t:SetTable}{Q:Value->Shared->Prop}(ho:s.heap.get? a=some o)(hx:o.ExactSet)(hd:o.data=.set es ep t)(hf:t.fits es.size=true)(hb:es.size<scanBound)(tb:xq t)(ld:t.led=(!w.params.followText "set-order"))
  (h:∀h' d ord I tp,ord.Perm (es.toList.map (·.2))->s.heap.objs.size<=I->(tp=a\/s.heap.objs.size<=tp)->I≠tp->Wk w a es ep t ord I tp 0 h'->(∀b ob,s.heap.get? b=some ob->h'.get? b=some ob)->Q (.ref I) { s with heap:=h',drawn:=d }):wpAny (model prog w) A (pyIter (.ref a)) Q E s:=by
 have hT:s.TypeIs (.ref a) "set" := ⟨o,ho,hx.1⟩;refine wpAny_pyIter_slot hT F.slot_set_iter (pU (F.slot_set_iter) hT fq ?_ (F.args_set_iter_1 _));unfold Builtin.«frozenset.__iter__» Builtin.Frozenset.slot0 slotArgs;simp only[List.isEmpty_nil,tX,KD,↓reduceIte,bind_assoc,Yt,bne_self_eq_false];unfold Builtin.Frozenset.addrOf Builtin.Frozenset.sizeOf;refine zE (zX ?_)
 try dsimp only
 refine zE (zX ?_);refine zE (zE (wpAny_setEntries_of (es:=es) ho hd hf (zX ?_)));unfold setDrawn setsByText;refine zE (zE (X6 (es:=es) (t:=t) ho hd hf ?_));dsimp only;refine zE (zE (X1 (zX (zX ?_))));show wpAny _ _ (if(!w.params.followText "set-order" && (!t.plain&&decide (es.size>1)))=true then _ else _) _ _ _;have hn:es.size<=sizeLine:=Va hb;by_cases c:(!w.params.followText "set-order" && (!t.plain&&decide (es.size>1)))=true
 ·rw[zK c];refine zE (DG es.size _ s (by simp) λys d p=>?_);have ly:ys.length=es.size:=by rw[p.length_eq,vP]
  refine zE (wpAny_newTuple ?_ (by rw[zj,ly]; exact hn));have ho1:(s.heap.push { cls:=.type "tuple",data:=.seq (ys.map λi:Nat=>rawInt i).toArray }).get? a=some o:=Heap.get?_push_of_some _ ho;refine zE (wpAny_setEpoch_of (es:=es) (t:=t) ho1 hd hf ?_);unfold newFields;refine zE (qm (zX ⟨_,rfl, "set_iterator",_,⟨_,Heap.get?_push_size _ rfl,rfl⟩,VC.lookup,?_⟩));refine h _ d (ys.map λp=>(es.getD p (0,.none)).2) _ s.heap.objs.size ?_ ?_ (.inr (zt _)) ?_ ⟨⟨o,Heap.get?_push_of_some _ ho1,hd⟩,.inr (.inr ⟨ys,rfl,λq hq=>?_,Heap.get?_push_size _ rfl,Heap.get?_push_of_some _ (Heap.get?_push_size _ rfl)⟩)⟩ λb ob e=>Heap.get?_push_of_some _ (Heap.get?_push_of_some _ e)
  ·refine(p.map _).trans (Qm ?_);refine List.ext_getElem (by simp) λj h1 h2=>?_
   have hj:j<es.size:=by simpa using h1
   simp[Array.getD,hj]
  ·rw[Heap.size_push];exact Mo _
  ·rw[Heap.size_push];exact yi (ud (ZG _))
  ·simpa using p.mem_iff.mp hq
 ·rw[zL c];refine zE (zX (zE (wpAny_setEpoch_of (es:=es) (t:=t) ho hd hf ?_)));unfold newFields;refine zE (qm (zX ⟨_,rfl, "set_iterator",_,⟨_,Heap.get?_push_size _ rfl,rfl⟩,VC.lookup,?_⟩));cases f:w.params.followText "set-order" with
  |true=>
   exact h _ s.drawn _ _ a ((bw (w.params.setOrder a ep) es).map (·.2)) (zt _) (.inl rfl) (yi (ud (Heap.lt_size ho))) ⟨⟨o,Heap.get?_push_of_some _ ho,hd⟩,.inl ⟨f,rfl,0,Heap.get?_push_size _ rfl⟩⟩ λb ob e=>Heap.get?_push_of_some _ e
  |false=>
   rw[f]at c ld
   have c:(!t.plain&&decide (es.size>1))=false:=by
    rw[Bool.not_eq_true]at c;exact c
   exact h _ s.drawn _ _ a (pO _) (zt _) (.inl rfl) (yi (ud (Heap.lt_size ho))) ⟨⟨o,Heap.get?_push_of_some _ ho,hd⟩,.inr (.inl ⟨f,c,ld,tb,rfl,0,Heap.get?_push_size _ rfl,N9 tb.up⟩)⟩ λb ob e=>Heap.get?_push_of_some _ e
theorem AW{s:Shared}{a:Addr}{o:Obj}{es:Array (Int×Value)}{ep:Nat}{t:SetTable}{sl g:Nat}{Q:Option (Value×Nat)->Shared->Prop}(ho:s.heap.get? a=some o)(hd:o.data=.set es ep t)(hf:t.fits es.size=true)(f:w.params.followText "set-order" = true)
  (h:Q (((pickOrder (w.params.setOrder a ep) es)[g]?).map λe=>(e.2,sl)) s):wpAny (model prog w) A (setNext a sl g ep) Q E s:=by
 unfold setNext setsByText;refine zE (X6 (es:=es) (t:=t) ho hd hf ?_);dsimp only;refine zE (zE (X1 (zX ?_)));show wpAny _ _ (if w.params.followText "set-order" = true then _ else _) _ _ _;rw[zK f,zL (by simp)];unfold setWalk setsByText;refine zE (zE (X6 (es:=es) (t:=t) ho hd hf ?_));dsimp only;refine zE (zE (X1 (zX ?_)));show wpAny _ _ (if w.params.followText "set-order" = true then _ else _) _ _ _;rw[zK f];exact zE (X1 (zX (zX h)))
theorem AV{s:Shared}{a:Addr}{o:Obj}{es:Array (Int×Value)}{ep:Nat}{t:SetTable}{sl g e:Nat}{Q:Option (Value×Nat)->Shared->Prop}(ho:s.heap.get? a=some o)(hd:o.data=.set es ep t)(hf:t.fits es.size=true)(f:w.params.followText "set-order" = false)(c:(!t.plain&&decide (es.size>1))=false)(ld:t.led=true)
  (h:Q (match es[SetTable.below t.place sl]?,t.place[SetTable.below t.place sl]? with|some (_,x),some j=>some (x,j+1)|_,_=>none) s):wpAny (model prog w) A (setNext a sl g e) Q E s:=by
 unfold setNext setsByText;refine zE (X6 (es:=es) (t:=t) ho hd hf ?_);dsimp only;refine zE (zE (X1 (zX ?_)));show wpAny _ _ (if w.params.followText "set-order" = true then _ else _) _ _ _;rw[zL (by rw[f]; exact yR)];refine zE (zX ?_);show wpAny _ _ (if(!t.plain&&decide (es.size>1))=true then _ else _) _ _ _;rw[zL (by rw[c]; exact yR)];refine zE (show wpAny _ _ (if(!t.led&&!es.isEmpty)=true then _ else _) _ _ _ from ?_);rw[zL (by rw[ld]; exact yR)];exact zX (zX h)
theorem Lh{s:Shared}{P:Fin->Shared->Prop}{Q:Option Value->Shared->Prop}(hh:A.handled=none)(h:∀h',(∀b ob,s.heap.get? b=some ob->h'.get? b=some ob)->Q none { s with heap:=h' }) :
  wpAny (model prog w) A.in1 (newExc (.type "StopIteration") [] >>= λe=>(raiseNew e:Sem Fin)) P (λe s'=>wpAny (model prog w) A (isInstance e (.type "StopIteration") >>= λb=>if b=true then pure none else throw e) Q E s') s:=by
 refine zE ?_;simp only[newExc,newTuple];refine zE (qm (zE (m:=firstArgMember _ _) (wpAny_of_eq (a:=Value.none) (by first|rfl|(simp only[firstArgMember]; rfl)) (qm ?_ (by size_fits)))) (by size_fits));simp only[raiseNew];refine zE (wpAny_handled ?_);rw[show A.in1.handled=none from hh];refine zE (zX ?_);refine wpAny_throw (zE ?_);refine B3 (T := "StopIteration") (b:=true) ⟨_,Heap.get?_push_size _ rfl,rfl⟩ isSubtype_stop ?_;exact zX (h _ λb ob e=>Heap.get?_push_of_some _ (Heap.get?_push_of_some _ e))
theorem jQ{s:Shared}{I:Addr}{fs:Array Value}{k:Nat}{v:Value}{Q:Unit->Shared->Prop}(hit:Za s.heap I fs)(hk:k<fs.size)(h:∀h',Za h' I (fs.setIfInBounds k v)->Heap.SameBut I s.heap h'->Q () { s with heap:=h' }):wpAny (model prog w) A (setField (.ref I) k v) Q E s:=
 B5 hit rfl hk (h _ (Heap.get?_update_self _ hit rfl) (Heap.SameBut.update ..))
theorem C7{s:Shared}{a:Addr}{es:Array (Int×Value)}{ep:Nat}{t:SetTable}{ord:List Value}{I tp:Addr}{i:Nat}{Q:Option Value->Shared->Prop}(hh:A.handled=none)(hIa:I≠a)(hIt:I≠tp)(hf:t.fits es.size=true)(lo:ord.length=es.size)(W:Wk w a es ep t ord I tp i s.heap)(hi:i<=ord.length)
  (h1:∀v h',ord[i]?=some v->Wk w a es ep t ord I tp (i+1) h'->Heap.SameBut I s.heap h'->Q (some v) { s with heap:=h' })
  (h0:i=ord.length->∀h',(∀b ob,b≠I->s.heap.get? b=some ob->h'.get? b=some ob)->Q none { s with heap:=h' }):wpAny (model prog w) A (pyNext (.ref I)) Q E s:=by
 obtain⟨⟨o,ho,hd⟩,md⟩:=W
 obtain⟨first,hit⟩:∃first,Za s.heap I #[first,rawInt i,.ref a,rawInt es.size,rawInt ep]:=by
  rcases md with⟨_,_,sl,z⟩|⟨_,_,_,_,_,sl,z,_⟩|⟨_,_,_,z,_⟩
  ·exact⟨_,z⟩
  ·exact⟨_,z⟩
  ·exact⟨_,z⟩
 have hT:s.TypeIs (.ref I) "set_iterator" := ⟨_,hit,rfl⟩;unfold pyNext;refine zE (B2 (X2 (name:=Str.ofString "__next__") hT VC (pU VC hT iA ?_ (i8 _))));unfold Builtin.«set_iterator.__next__» slotArgs;simp only[List.isEmpty_nil,tX,KD,↓reduceIte,bind_assoc,Yt,bne_self_eq_false];refine zE (zX ?_)
 try dsimp only
 refine zE (wpAny_fieldsOf hit rfl ?_);show wpAny _ _ (setEntries a >>= _) _ _ s;refine zE (wpAny_setEntries_of (es:=es) ho hd hf ?_);rw[zL (by simp)];refine zE (zX ?_);rcases md with⟨f,eo,sl,z⟩|⟨f,c,ld,tb,eo,sl,z,hb⟩|⟨places,eo,hp,z,ht⟩
 ·cases(wz (hit.symm.trans z));show wpAny _ _ (setNext a (sl:Int).toNat (i:Int).toNat (ep:Int).toNat >>= _) _ _ s;rw[xg,xg,xg]
  have eg:((pickOrder (w.params.setOrder a ep) es)[i]?).map (λe=>(e.2,sl))=(ord[i]?).map λv=>(v,sl):=by
   rw[eo,xC,Z5,Option.map_map];rfl
  refine zE (AW ho hd hf f ?_);rw[eg];cases hv:ord[i]? with
  |some v=>
   show wpAny _ _ (setField (.ref I) 0 (rawInt sl) >>= _) _ _ _;refine zE (jQ hit (by simp) λh2 i2 k2=>?_);refine zE (jQ (s:={ s with heap:=h2 }) i2 (by simp) λh3 i3 k3=>?_);refine zX ⟨v,rfl,zX (h1 v h3 hv ⟨⟨o,?_,hd⟩,.inl ⟨f,eo,sl,?_⟩⟩ (k2.trans k3))⟩
   ·exact(k3.2 a hIa.symm).trans ((k2.2 a hIa.symm).trans ho)
   ·exact i3
  |none=>
   show wpAny _ _ (setField (.ref I) 2 .none >>= _) _ _ _;refine zE (jQ hit (by simp) λh2 i2 k2=>?_)
   have e:i=ord.length:=by
    have:=List.getElem?_eq_none_iff.mp hv;omega
   exact Lh hh λh3 k3=>h0 e h3 λb ob hbI eb=>k3 b ob ((k2.2 b hbI).trans eb)
 ·cases(wz (hit.symm.trans z));show wpAny _ _ (setNext a (sl:Int).toNat (i:Int).toNat (ep:Int).toNat >>= _) _ _ s;rw[xg,xg,xg];refine zE (AV ho hd hf f c ld ?_);rw[hb]
  have hps:t.place.size=es.size:=by
   simp only[SetTable.fits,xB,qN]at hf;exact hf.1
  by_cases hlt:i<es.size
  ·have e1:es[i]?=some (es[i].1,es[i].2):=Z4 hlt;have e2:t.place[i]?=some (t.place[i]'(by omega)):=Z4 (by omega);rw[e1,e2]
   have hv:ord[i]?=some es[i].2:=by
    rw[eo,xC,Z5,e1];rfl
   show wpAny _ _ (setField (.ref I) 0 (rawInt ((t.place[i]'(by omega)+1:Nat):Int)) >>= _) _ _ _;refine zE (jQ hit (by simp) λh2 i2 k2=>?_);refine zE (jQ (s:={ s with heap:=h2 }) i2 (by simp) λh3 i3 k3=>?_);refine zX ⟨es[i].2,rfl,zX (h1 _ h3 hv ⟨⟨o,?_,hd⟩,.inr (.inl ⟨f,c,ld,tb,eo,t.place[i]'(by omega)+1,?_,N8 tb.up (by omega)⟩)⟩ (k2.trans k3))⟩
   ·exact(k3.2 a hIa.symm).trans ((k2.2 a hIa.symm).trans ho)
   ·exact i3
  ·have e1:es[i]?=none:=Qg (by omega);rw[e1];show wpAny _ _ (setField (.ref I) 2 .none >>= _) _ _ _;refine zE (jQ hit (by simp) λh2 i2 k2=>?_);exact Lh hh λh3 k3=>h0 (by omega) h3 λb ob hbI eb=>k3 b ob ((k2.2 b hbI).trans eb)
 ·cases(wz (hit.symm.trans z));show wpAny _ _ (seqItems? (.ref tp) >>= _) _ _ s;refine zE (qo ht rfl ?_);have lp:places.length=es.size:=by rw[<-lo,eo,zj]
  show wpAny _ _ (match(places.map λp:Nat=>rawInt p).toArray[(i:Int).toNat]? with|some (.int place _)=>_|some _=>_|none=>_) _ _ _;rw[xg];by_cases hlt:i<places.length
  ·have e1:(places.map λp:Nat=>rawInt p).toArray[i]?=some (rawInt (places[i]:Nat)):=by simp[hlt]
   have hpi:=hp places[i] (ZA hlt);have e2:es[places[i]]?=some (es[places[i]].1,es[places[i]].2):=Z4 hpi
   have hv:ord[i]?=some es[places[i]].2:=by
    rw[eo,xC,yZ hlt];simp[Array.getD,hpi]
   rw[e1];show wpAny _ _ (setNextDrawn a ((places[i]:Nat):Int).toNat (ep:Int).toNat >>= _) _ _ _;rw[xg,xg];unfold setNextDrawn;refine zE (zE (X6 (es:=es) (t:=t) ho hd hf ?_));dsimp only;rw[zL (by simp),e2];refine zX ?_;refine zE (jQ hit (by simp) λh2 i2 k2=>?_);refine zX ⟨_,rfl,zX (h1 _ h2 hv ⟨⟨o,(k2.2 a hIa.symm).trans ho,hd⟩,.inr (.inr ⟨places,eo,hp,i2,(k2.2 tp hIt.symm).trans ht⟩)⟩ k2)⟩
  ·have e1:(places.map λp:Nat=>rawInt p).toArray[i]?=none:=by simp; omega
   rw[e1];show wpAny _ _ (setField (.ref I) 0 (rawInt 0) >>= _) _ _ _;refine zE (jQ hit (by simp) λh2 i2 k2=>?_);refine zE (jQ (s:={ s with heap:=h2 }) i2 (by simp) λh3 i3 k3=>?_);exact Lh hh λh4 k4=>h0 (by omega) h4 λb ob hbI eb=>k4 b ob ((k3.2 b hbI).trans ((k2.2 b hbI).trans eb))
end
section
variable{prog:Program}{w:World}{A:Around}{E:Value->Shared->Prop}
theorem z0l{a:Addr}{es:Array (Int×Value)}{ep:Nat}{t:SetTable}{ord:List Value}{I tp:Addr}(hh:A.handled=none)(hIa:I≠a)(hIt:I≠tp)(hf:t.fits es.size=true)(lo:ord.length=es.size) :
  Walks prog w A I [I,a,tp] [I] ord.length (λi v=>ord[i]?=some v) (λi h=>i<=ord.length/\Wk w a es ep t ord I tp i h) where
 sub:=λb hb=>by
  rw[yt.mp hb];exact yF ..
 frame:=λi h h' ⟨hi,W⟩ k=>by
  obtain⟨⟨o,ho,hd⟩,md⟩:=W;have kI:=k I (yF ..);have ka:=k a (yX _ (yF ..));have kt:=k tp (yX _ (yX _ (yF ..)));refine⟨hi,⟨o,ka o ho,hd⟩,?_⟩;rcases md with⟨f,eo,sl,z⟩|⟨f,c,ld,tb,eo,sl,z,hb⟩|⟨places,eo,hp,z,ht⟩
  ·exact .inl ⟨f,eo,sl,kI _ z⟩
  ·exact .inr (.inl ⟨f,c,ld,tb,eo,sl,kI _ z,hb⟩)
  ·exact .inr (.inr ⟨places,eo,hp,kI _ z,kt _ ht⟩)
 item:=λi s Q E hi ⟨hle,W⟩ hQ=>C7 hh hIa hIt hf lo W hle (λv h' hv W' k=>by
  have:=hQ v h' s.toks hv ⟨hi,W'⟩ λb o hb e=>(k.2 b λz=>hb (by rw[z]; exact yF ..)).trans e
  exact this) λz=>absurd z (xh hi)
 done:=λs Q E ⟨hle,W⟩ hQ=>C7 hh hIa hIt hf lo W hle (λv h' hv=>by
  rw[wo (zt _)]at hv;cases hv) λ_ h' k=>hQ h' s.toks λb o hb e=>k b o (λz=>hb (by rw[z]; exact yF ..)) e
 self:=λi s Q E ⟨hle,W⟩ hQ=>by
  obtain⟨_,md⟩:=W
  have hT:s.TypeIs (.ref I) "set_iterator" := by
   rcases md with⟨_,_,sl,z⟩|⟨_,_,_,_,_,sl,z,_⟩|⟨_,_,_,z,_⟩<;>exact⟨_,z,rfl⟩
  refine wpAny_pyIter_slot hT HE (pU HE hT i9 (show wpAny _ _ (ret (.ref I)) _ _ s from ?_) (i7 _));exact zX ⟨_,rfl, "set_iterator",_,hT,VC.lookup,hQ⟩
theorem RQ{s:Shared}{a:Addr}{Q:Bool->Shared->Prop}(hT:s.TypeIs (.ref a) "set")(h:Q false s):wpAny (model prog w) A (Builtin.List.listLengthHint (.ref a)) Q E s:=by
 unfold Builtin.List.listLengthHint;refine zE (wpAny_specialOf hT (F.slot_set_len.lookup) ?_);generalize hi:("set.__len__" : String)=x
 wp_delta
 rw[show splitId x=some ("set", "__len__")from by subst hi; decide +kernel];subst hi;refine zE (B3 (T := "set") (b:=true) hT (by rw[B0]; kernel_rfl) ?_);refine B4 (λz=>absurd z (by decide)) λ_=>B4 (λ_=>?_) λz=>absurd (by decide +kernel) z
 exact zE (X7 hT (zX h))
theorem Np{s:Shared}{a:Addr}{o:Obj}{es:Array (Int×Value)}{ep:Nat}{t:SetTable}{Q:List Value->Shared->Prop}(hh:A.handled=none)(ho:s.heap.get? a=some o)(hx:o.ExactSet)(hd:o.data=.set es ep t)(hf:t.fits es.size=true)(hb:es.size<scanBound)(tb:xq t)(ld:t.led=(!w.params.followText "set-order"))
  (h:∀h' d tk ord,ord.Perm (es.toList.map (·.2))->s.heap.objs.size<h'.objs.size->(∀b ob,s.heap.get? b=some ob->h'.get? b=some ob)->Q ord { s with heap:=h',drawn:=d,toks:=tk }):wpAny (model prog w) A (collect (.ref a)) Q E s:=by
 unfold collect;refine zE (J4 (tf (entry_proto_collect') ?_));show wpAny _ _ (newList [] >>= λl=>again (.builtin "list.__iadd__" ⟨[l,.ref a],[]⟩)) _ _ s;refine zE (J1 (zX ⟨Qi _ (by decide +kernel),tf (entry_list_iadd') ?_⟩));show wpAny _ _ (Builtin.List.listExtendWith (.ref s.heap.objs.size) (.ref a) (.ref s.heap.objs.size)) _ _ { s with heap:=s.heap.push (seqObj "list" #[] 0) };unfold Builtin.List.listExtendWith;have ho0:(s.heap.push (seqObj "list" #[] 0)).get? a=some o:=Heap.get?_push_of_some _ ho;have hlt:=Heap.lt_size ho;have neS:s.heap.objs.size≠a:=yi (ud hlt);refine zE (X7 (T := "set") ⟨o,ho0,hx.1⟩ ?_);have q1:Builtin.List.listSameRef (.ref s.heap.objs.size) (.ref a)=false:=by simp[Builtin.List.listSameRef,neS]
 have q2:(Value.type "set" == Value.type "list")=false:=by decide
 have q3:(Value.type "set" == Value.type "tuple")=false:=by decide
 rw[zL (by rw[q1,q2,q3]; exact yR)];refine zE (Ro ho0 hx hd hf hb tb ld λh1 d ord I tp pm hI htp hIt W0 kp=>?_);refine zE (t9 (RQ ⟨o,kp a o ho0,hx.1⟩ ?_));refine B4 (λ_=>?_) λz=>absurd (by decide +kernel) z
 refine zE (X4 (zE ?_));have z0:(s.heap.push (seqObj "list" #[] 0)).objs.size=s.heap.objs.size+1:=Heap.size_push ..;rw[z0]at hI htp;have lo:ord.length=es.size:=by rw[pm.length_eq,zj,wy]
 have hIa:I≠a:=yi (ud (wY (ZF hlt) hI))
 have hSf:s.heap.objs.size ∉ [I,a,tp]:=λm=>by
  simp only[yI,wq,or_false]at m;rcases m with m|m|m
  ·exact absurd hI (by rw[<-m]; exact Kk _)
  ·exact neS m
  ·rcases htp with e|e
   ·exact neS (m.trans e)
   ·exact absurd e (by rw[<-m]; exact Kk _)
 show wpAny _ _ (updateSeq s.heap.objs.size (·.push .none) >>= λ_=>updateSeq s.heap.objs.size (·.pop)) _ _ _;have S1:h1.get? s.heap.objs.size=some (seqObj "list" #[] 0):=kp _ _ (Heap.get?_push_size _ rfl);refine zE (B7 S1 rfl ?_);have S2:=Heap.get?_update_self (Obj.mapSeq (·.push Value.none)) S1 rfl;refine B7 (hz:=by seq_fits) S2 rfl (zX ⟨X0 (F.plain_extend_loop) _,?_⟩);have S3:=Heap.get?_update_self (Obj.mapSeq (·.pop)) S2 rfl;have W:=z0l (prog:=prog) (w:=w) (A:=A.in1) (ep:=ep) (t:=t) (es:=es) (by exact hh) hIa hIt hf lo
 have keep:∀b ob,b≠s.heap.objs.size->h1.get? b=some ob->((h1.update s.heap.objs.size (Obj.mapSeq (·.push Value.none))).update s.heap.objs.size (Obj.mapSeq (·.pop))).get? b=some ob:=λb ob hbS e=>
  (Heap.get?_update_other _ _ (pS hbS)).trans ((Heap.get?_update_other _ _ (pS hbS)).trans e)
 refine codeAny_extend_loopS W.toS (by rw[lo]; exact Va hb) s.heap.objs.size hSf (.ref s.heap.objs.size) ord.length 0 _ #[] _ rfl (xb _) (W.frame 0 h1 _ ⟨xb _,W0⟩ λb hb' ob e=>keep b ob (λz=>hSf (z▸hb')) e) S3 (ItemsOf.nil _) λs' acc' c' hm hS' hacc=>?_
 rw[Moved.eq_with hm];refine zE (wpAny_load hS' ?_)
 have ea:acc'.toList=ord:=by
  refine jW λj=>?_
  by_cases c:j<ord.length
  ·have hj:j<acc'.size:=by rw[hacc.1]; exact c
   rw[Z5,Z4 hj];exact(hacc.2 j _ (Z4 hj)).symm
  ·rw[wo (by rw[wy,hacc.1]; omega),wo (by omega)]
 show wpAny _ _ (pure acc'.toList) _ _ _;rw[ea];refine zX (h s'.heap d s'.toks ord pm (Heap.lt_size hS') λb ob e=>?_);have hbl:=Heap.lt_size e;refine hm.heap b ob (λm=>?_) (keep b ob (yi (xh hbl)) (kp b ob (Heap.get?_push_of_some _ e)));rcases yI.mp m with m|m
 ·exact absurd hbl (by rw[m]; exact vi _)
 ·rw[yt.mp m]at hbl;exact absurd (wY hbl (Nat.le_of_succ_le hI)) (vi _)
end
def O2:Value->Int
 |.int i _=>i
 |_=>0
theorem Dr:∀{vs:List Value},(∀v∈vs,∃i t,v=.int i t)->IntsAre vs (vs.map O2)
 | [],_=>.nil
 |v::vs,h=>by
  obtain⟨i,t,rfl⟩:=h v (yF ..);exact .cons _ _ (Dr λx hx=>h x (yX _ hx))
section
variable{prog:Program}{w:World}{A:Around}{E:Value->Shared->Prop}
theorem lR{s:Shared}{a:Addr}{ns:List Int}{Q:Value->Shared->Prop}(hh:A.handled=none)(z:ut prog w a (ns.map Sum.inl) s.heap)(h64:ns.length<64)
  (h:∀h' d tk p out c ns',s.heap.objs.size<=p->h'.get? p=some (seqObj "list" out c)->IntsAre out.toList ns'->ns'.Perm ns->ns'.Pairwise (·<=·)->(∀b ob,s.heap.get? b=some ob->h'.get? b=some ob)->Q (.ref p) { s with heap:=h',drawn:=d,toks:=tk }) :
  wpAny (model prog w) A (call (.builtin "sorted") [.ref a]) Q E s:=by
 obtain⟨o,es,ep,t,ho,hx,hd,hel,hb,hf,tb,ld,pk⟩:=z;refine KF kind_sorted plain_sorted entry_sorted (args_sorted1 _) ?_;unfold Builtin.«sorted»;refine zE (m:=checkCount "sorted" 1 1 _) (zX (zE (Np (by exact hh) ho hx hd hf hb tb ld λh1 d tk ord pm hle kp=>zE (J1 ?_ (by rw[pm.length_eq,zj,wy]; exact Va hb)))))
 have pk2:(ord.map jz).Perm (ns.map Sum.inl):=by
  have:=pm.map jz;rw[vC]at this;exact this.trans pk
 have hv:∀v∈ord,∃i tk,v=Value.int i tk:=λv hv=>by
  obtain⟨e,he,rfl⟩:=wp.mp (pm.mem_iff.mp hv);obtain⟨i,_,ei⟩:=wp.mp (pk2.mem_iff.mp (List.mem_map_of_mem hv));have:=DL hel he;rw[<-ei]at this;rcases qG this with⟨j,tk,_,e⟩|⟨x,tk,e,_⟩
  ·exact⟨j,tk,e⟩
  ·cases e
 have hI:=Dr hv
 have pj:(ord.map O2).Perm ns:=by
  have g:=pk2.map λk:Key=>match k with|.inl i=>i|.inr _=>(0:Int)
  rw[vC,vC]at g
  have e1:ns.map ((λk:Key=>match k with|.inl i=>i|.inr _=>(0:Int))∘Sum.inl)=ns:=by
   rw[show((λk:Key=>match k with|.inl i=>i|.inr _=>(0:Int))∘Sum.inl)=id from rfl,Yu]
  have e2:ord.map ((λk:Key=>match k with|.inl i=>i|.inr _=>(0:Int))∘jz)=ord.map O2:=Mf λv hvv=>by
   obtain⟨i,tk,rfl⟩:=hv v hvv;rfl
  rw[e1,e2]at g;exact g
 have l64:ord.length<64:=by
  have:=pj.length_eq;rw[zj]at this;omega
 have g1:(h1.push (seqObj "list" ord.toArray 0)).get? h1.objs.size=some (seqObj "list" ord.toArray 0):=Heap.get?_push_size _ rfl;refine zE (t9 (pU slot_list_sort ⟨_,g1,rfl⟩ entry_list_sort (list_sort_tree g1 hI l64 λout ns' a1 a2 a3=>⟨_,rfl,?_⟩) (args_list_sort _)));obtain⟨c,hc⟩:=sortedHeap_at (vs:=ord) (out:=out) g1;refine zX ⟨_,rfl,h _ d tk h1.objs.size out c ns' (Yw hle) hc a1 (a2.trans pj) a3 λb ob e=>?_⟩;have hbl:=Heap.lt_size (kp b ob e);rw[sortedHeap_old (yi (xh hbl)) (by rw[size_push']; exact ZF hbl)];exact Heap.get?_push_of_some _ (kp b ob e)
end
section
variable{X:Cx}
abbrev XG(prog:Program)(w:World)(a:Addr)(ks:List Key):HO:=.ext (ut prog w a ks)
def dA(X:Cx):List V->Hp->VK->Prop:=λxs H Q=>∃(a:Addr) (ks:List Key),xs=[.ref a]/\yG X.K H a (ks.map kV)/\ks.length<1000/\∀p,H p=none->Q (.ref p) (ze H p (XG X.prog X.w p (ks.foldl addK [])))
theorem Nb(hcalm:X.calm=true):wr X (.type "set") (dA X):=by
 intro z8 s σ H xs us Q I r h;obtain⟨a,ks,rfl,sq,hl,q⟩:=h;obtain⟨u,rfl,ru⟩:=ub r;cases(show u=Value.ref a from ru);obtain⟨its,rv,⟨o,n,ho,hc,hdd,hdat⟩,hz⟩:=I.list sq;have hn:ks.length=its.length:=by rw[<-rv.length,zj]
 refine Nd (I.ok.hd hcalm) ho hc hdat hn (OA X.prog X.w rv) (by unfold scanBound; omega) λh' tk hs kp=>?_
 refine⟨.ref s.heap.objs.size,_,I.laid (a:=s.heap.objs.size) (o:=XG X.prog X.w s.heap.objs.size (ks.foldl addK [])) (t':=tk) kp (zt _) ⟨hs,?_,λh1 h2 z k=>z.keep k⟩,rfl,q _ I.fresh⟩;obtain⟨o',_,_,_,e,_⟩:=hs;exact⟨o',e⟩
theorem _root_.L2.Inv.draw{z8:List (Addr×Obj)}{σ:St}{H:Hp}{s:Shared}(I:Inv X z8 σ H s)(d:Drawn):Inv X z8 σ H { s with drawn:=d }:=⟨I.ok,I.os,I.bare,I.base,I.loc,I.cell,I.free,I.freeC,I.pin,I.hok,I.len⟩
def dD(X:Cx):List V->Hp->VK->Prop:=λxs H Q=>∃(a:Addr) (ns:List Int),xs=[.ref a]/\H a=some (XG X.prog X.w a (ns.map Sum.inl))/\ns.length<64/\∀l,H l=none->Q (.ref l) (ze H l (.lst ((isort ns).map V.int)))
theorem Ng(hcalm:X.calm=true):wr X (.builtin "sorted") (dD X):=by
 intro z8 s σ H xs us Q I r h;obtain⟨a,ns,rfl,ea,h64,q⟩:=h;obtain⟨u,rfl,ru⟩:=ub r;cases(show u=Value.ref a from ru);obtain⟨z,_⟩:=(show xP X.prog X.w H s.heap a (XG X.prog X.w a (ns.map Sum.inl))from I.hok a _ ea);refine lR (I.ok.hd hcalm) z h64 λh' d tk p out c ns' hp hc a1 a2 a3 kp=>?_
 have e:ns'=isort ns:=Ld (a2.trans (isort_perm ns).symm) a3 (isort_sorted ns);subst e;have hl2:(isort ns).length=ns.length:=(isort_perm ns).length_eq;refine⟨.ref p,_,(I.draw d).laid (t':=tk) (h':=h') kp hp (show xP X.prog X.w _ _ _ (.lst ((isort ns).map V.int))from⟨?_,out.toList,c,O3 a1,?_⟩),rfl,q _ (I.hok.fresh hp)⟩
 ·rw[zj,hl2];show _<=sizeLine;rw[w8];omega
 ·rw[KB];exact hc
end
end L2
namespace L3
open PySem PySem.Spec PyProof.Rows L2
def qB(acc:List Int)(n:Int):List Int:=if(acc.any λm=>decide (m=n))=true then acc else acc++[n]
def uH(ns:List Int):List Int:=ns.foldl qB []
theorem Kx(acc:List Int)(n:Int):addK (acc.map Sum.inl) (.inl n)=(qB acc n).map Sum.inl:=by
 have e:memK (acc.map Sum.inl) (.inl n)=acc.any λm=>decide (m=n):=by
  unfold memK;rw[List.any_map]
  congr 1
  funext m
  exact VZ.mpr ⟨VY,congrArg _⟩
 unfold addK qB;rw[e]
 split
 ·rfl
 ·rw[qM];rfl
theorem Ec:∀(ns acc:List Int),(ns.map Sum.inl).foldl addK (acc.map Sum.inl)=(ns.foldl qB acc).map Sum.inl
 | [],_=>rfl
 |n::ns,acc=>by
  rw[xT,vB,vB,Kx];exact Ec ns (qB acc n)
def kH:List D->Option D
 | [.lst xs]=>(intsOf xs).bind λns=>if ns.length<1000/\(uH ns).length<64 then some (.lst ((isort (uH ns)).map D.int))else none
 |_=>none
theorem Lc{X:Cx}{e:Expr}{fs:FA}{p p2 pos pos2:Pos}(hcalm:X.calm=true)(hg:Gl X "sorted")(hm:X.mg "sorted" = none)(hg2:Gl X "set")(hm2:X.mg "set" = none)(ha:SA X [e] fs)(hs:xM e=true:=by rfl) :
  SF X (.Call (.Name "sorted" p) [.Call (.Name "set" p2) [e] [] pos2] [] pos) (eL kH fs):=by
 obtain⟨t,pt,k⟩:=ha.h;have q1:=YG (p:=p2) (pos:=pos2) (Nb hcalm) hg2 hm2 Bo ⟨pt⟩ (by decide) (by decide) (by rw[xz,hs]; rfl);refine⟨⟨_,(W8 (p:=p) (pos:=pos) (Ng hcalm) hg hm Bp (W7 q1 Tz) (by decide) (by decide)).h,λ{G0 H0 G H τ σ d Q} E hf q=>?_⟩⟩;obtain⟨ds,hd,hf⟩:=zM hf;refine k E hd λvs G1 H1 x1 r1=>?_
 match ds,hf with
 | [.lst xs],hf=>
  obtain⟨ns,hn,hf⟩:=zM (show(intsOf xs).bind _=some d from hf)
  split at hf
  ·rename_i h64;cases hf;obtain⟨v,rfl,a,us,rfl,sq,rs,l⟩:=qe r1;rw[Ds hn]at rs l;rw[Gi rs]at sq
   have sq:yG X.K G1 a ((ns.map Sum.inl).map kV):=by
    rw[vC];exact sq
   have ek:(ns.map Sum.inl).foldl addK []=(uH ns).map Sum.inl:=Ec ns [];refine⟨a,ns.map Sum.inl,rfl,v8 x1.gh sq,by rw[zj]; exact h64.1,λp1 hp1=>?_⟩;have x2:=x1.trans (zT.layO (o:=XG X.prog X.w p1 ((ns.map Sum.inl).foldl addK [])) x1.gh hp1);refine⟨p1,uH ns,rfl,by rw[ek]; exact xJ,h64.2,λp hp=>?_⟩;refine q p _ _ (x2.trans (zT.layO x2.gh hp)) (x2.h.free hp) (x2.gh.free hp) ⟨_,xJ,Dq _,?_⟩;rw[zj,(isort_perm _).length_eq];show _<=16777216;omega
  ·cases hf
end L3
namespace L2
open PySem PySem.Spec PyProof PyProof.Rows
def YZ(i j c:Int):Nat:=if i<j then((j-i-1)/c+1).toNat else 0
theorem HQ{i j c:Int}(hc:0<c):Builtin.Range.rangeSize i j c=(YZ i j c:Int):=by
 unfold Builtin.Range.rangeSize YZ;rw[zK hc]
 split
 ·have:0<=(j-i-1)/c:=Int.ediv_nonneg (by omega) (by omega);omega
 ·rfl
theorem lz{i j c:Int}(hc:0<c):YZ i j c<=(j-i).toNat:=by
 unfold YZ
 split
 ·have:(j-i-1)/c<=j-i-1:=Int.ediv_le_self _ (by omega);omega
 ·omega
theorem lM{i j c:Int}(hc:0<c)(h1:i.natAbs<=16777216)(h2:j.natAbs<=16777216)(h3:c<=16777216):Builtin.Range.small i j c=true:=by
 unfold Builtin.Range.small;rw[HQ hc];have:=lz (i:=i) (j:=j) hc;simp only[Builtin.Range.rangeFitsLong,xB,Z6,decide_eq_true_eq,qN,zK (show c>0 from hc)];generalize YZ i j c=n at *;omega
section
variable{X:Cx}{tg:Expr}
end
end L2
namespace L3
open PySem PySem.Spec PyProof.Rows L2
end L3
namespace L2
open PySem PySem.Spec PyProof PyProof.Rows
open PySem.AutoSeq1 in
theorem So(l:Addr)(z6:Array Value)(n:Nat)(b:Addr)(items2:Array Value)(n2:Nat)(d2:Option Addr)(sl2:Array (Option Value))(hc0:¬(!z6.isEmpty&&Builtin.List.listTooLong (z6.size+items2.size))=true)(hc1:z6.size<=sizeLine)(hs2:z6.size+items2.size<=sizeLine+1) :
  Meets (Builtin.«list.extend» ⟨[.ref l,.ref b],[]⟩) (λ_ R s=>s.heap.get? l=some { cls:=.type "list",dict:=none,data:=.seq z6 n,slots:=#[] }/\s.heap.get? b=some { cls:=.type "list",dict:=d2,data:=.seq items2 n2,slots:=sl2 }/\R (.ok (.ret Value.none)) { s with heap:=s.heap.update l (Obj.mapSeq λx=>x++items2),toks:=s.toks }):=
 .of_wp λprog w A R s h=>by
  obtain⟨hp,g,d,tk,os⟩:=s;obtain⟨hl,hb,h⟩:=h;have f1:=idx_int; have f2:=AutoSeq1.sub_tuple_tuple; have f3:=AutoSeq1.sub_list_list; have f4:=AutoSeq1.sub_tuple_list; have f5:=AutoSeq1.sub_list_tuple;have hz':(z6++items2).size<=sizeLine+1:=by rw[MR]; exact hs2
  wp_walk using(B7 hl rfl (hz:=hc1) (_hz':=hz')),wpAny_loadPart' hl,wpAny_loadPart' hb
  exact⟨_,rfl,h⟩
theorem zf.of_get:∀{xs:List V}{us:List Value},us.length=xs.length->(∀(j:Nat)(x:V)(v:Value),xs[j]?=some x->us[j]?=some v->zr x v)->zf xs us
 | [],[],_,_=>.nil
 | [],_::_,h,_=>by cases h
 |_::_,[],h,_=>by cases h
 |x::xs,u::us,h,f=>.cons (f 0 x u rfl rfl) (zf.of_get (by simpa using h) λj y v h1 h2=>f (j+1) y v (by simpa using h1) (by simpa using h2))
section
variable{X:Cx}
def cs(K:W.Frag):V->List V->Hp->VK->Prop:=λx vs H Q=>∃l b xs zs,x=.ref l/\vs=[.ref b]/\H l=some (.lst xs)/\yG K H b zs/\xs.length+zs.length<=sizeLine/\Q .non (ze H l (.lst (xs++zs)))
theorem C3:U9 X "list.extend" (cs X.K):=by
 intro z8 s σ H x vs v us Q I rx rv h;obtain⟨l,b,xs,zs,rfl,rfl,hH,hB,hz,q⟩:=h;cases rx;obtain⟨u,rfl,ru⟩:=rv.one;cases ru;obtain⟨z,its,n,r,hl,e⟩:=I.lstM hH;obtain⟨its2,r2,p2,_⟩:=I.list hB;obtain⟨⟨c2,d2,t2,sl2⟩,n2,ho2,hc2,hd2,ht2⟩:=p2;simp only at hc2 ht2;subst hc2 ht2;have hl2:=r2.length;have hsz:its.toArray.size+its2.toArray.size<=sizeLine:=by rw[ya,ya]; omega
 have hlong:¬ (!its.toArray.isEmpty&&Builtin.List.listTooLong (its.toArray.size+its2.toArray.size))=true:=by
  rw[CY hsz,Qh];exact yR
 refine gW F.slot_list_extend ⟨_,e,rfl⟩ F.entry_list_extend (F.args_list_extend_2 _ _)
  (So l its.toArray n b its2.toArray n2 d2 sl2 hlong (by rw[ya]; omega) (by omega)) ⟨e,ho2,?_⟩
 refine⟨.non,_,I.lset (its':=its++its2) hH e (by simp) (r.append r2) ?_,rfl,q⟩;rw[yD];omega
def BH(a:Addr)(n:Nat)(h:Heap):Prop:=∃t u v,IsRange h a 0 n 1 t u v
abbrev XD(a:Addr)(n:Nat):HO:=.ext (BH a n)
def c_:List V->Hp->VK->Prop:=λxs H Q=>∃j:Int,xs=[.int j]/\0<=j/\∀p,H p=none->Q (.ref p) (ze H p (XD p j.toNat))
theorem NZ:wr X (.type "range") c_:=by
 intro z8 s σ H xs us Q I r h;obtain⟨j,rfl,h0,q⟩:=h;obtain⟨u,rfl,ru⟩:=ub r;obtain⟨t,rfl⟩:=(show ∃t,u=Value.int j t from ru);refine call_range_1 ?_;have e:((j.toNat:Nat):Int)=j:=by omega
 have hr:BH s.heap.objs.size j.toNat (s.heap.push { cls:=.type "range",data:=.fields #[.int 0 s.toks,.int j t,.int 1 (s.toks+1)] }):=by
  refine⟨s.toks,t,s.toks+1,?_⟩;rw[e];exact IsRange.new ..
 refine⟨.ref s.heap.objs.size,_,I.laid (a:=s.heap.objs.size) (o:=XD s.heap.objs.size j.toNat) (λ_ _ q=>Heap.get?_push_of_some _ q) (zt _) ⟨hr,?_,λh1 h2 z k=>?_⟩,rfl,q _ I.fresh⟩
 ·obtain⟨t,u,v,e⟩:=hr;exact⟨_,e⟩
 ·obtain⟨t,u,v,e⟩:=z;exact⟨t,u,v,k _ e⟩
def cx:List V->Hp->VK->Prop:=λxs H Q=>∃(a:Addr) (n:Nat),xs=[.ref a]/\H a=some (XD a n)/\n<=1000000/\∀p,H p=none->Q (.ref p) (ze H p (.lst ((List.range n).map λk:Nat=>V.int k)))
theorem NX(hcalm:X.calm=true):wr X (.type "list") cx:=by
 intro z8 s σ H xs us Q I r h;obtain⟨a,n,rfl,ea,hn,q⟩:=h;obtain⟨u,rfl,ru⟩:=ub r;cases(show u=Value.ref a from ru);obtain⟨⟨t,u,v,hr⟩,_⟩:=(show xP X.prog X.w H s.heap a (XD a n)from I.hok a _ ea)
 have hs:Builtin.Range.rangeSize 0 (n:Int) 1=(n:Int):=by
  rw[HQ (by decide)];unfold YZ
  split<;>omega
 refine call_list_range (I.ok.hd hcalm) hr (lM (by decide) (by decide) (by omega) (by decide)) hs (by omega) λh' tk acc' c' kp hS hacc=>?_
 obtain⟨hsz,hat⟩:=hacc
 have rv:zf ((List.range n).map λk:Nat=>V.int k) acc'.toList:=by
  refine zf.of_get (by simp[hsz]) λj x v h1 h2=>?_
  rw[xC,gT (by
   have:=(yM.mp h2).1;rw[wy,hsz]at this;exact this)]at h1
  cases h1;obtain⟨t,e⟩:=hat j v (by rw[<-Z5]; exact h2);refine⟨t,?_⟩;rw[e];simp
 refine⟨.ref s.heap.objs.size,_,I.laid (a:=s.heap.objs.size) (o:=.lst ((List.range n).map λk:Nat=>V.int k)) (t':=tk) kp (zt _) ⟨?_,acc'.toList,c',rv,?_⟩,rfl,q _ I.fresh⟩
 ·rw[zj,vP,w8];show n<=16777216;omega
 ·rw[hS]
end
end L2
namespace L3
open PySem PySem.Spec PyProof.Rows L2
def Ju:List D->Option D
 | [.int j]=>if 0<=j/\j<=1000000 then some (.lst ((List.range j.toNat).map λk:Nat=>.int k))else none
 |_=>none
theorem dM{K:W.Frag}{G:Hp}(l:List Nat):Reps K G (l.map λk:Nat=>D.int k) (l.map λk:Nat=>V.int k):=by
 induction l with
 |nil=>rfl
 |cons a r ih=>exact⟨_,_,rfl,rfl,ih⟩
section
variable{X:Cx}{x y:Str}{xp yp pos apos cpos:Pos}{e:Expr}{f:FE}
theorem HK{i j:Nat}(ho:QE X (.Name x xp) (vf i))(hN:X.N.Nodup)(hj:X.N[j]?=some y)(hy:uN X.env.scope y)
  (hbase:attributeBase (.Name x xp) "pop" X.env (eval (.Name x xp) X.env)=eval (.Name x xp) X.env:=by rfl)(hline:(apos.endLine==cpos.line)=true:=by rfl)(hf:X.fn y=true\/X.env.scope.names.lookup y=some .local:=by first|exact .inl rfl|exact .inr rfl|assumption) :
  SS X (.Assign [.Name y yp] (.Call (.Attribute (.Name x xp) "pop" apos) [] [] cpos) pos) (gG j i):=by
 refine⟨⟨_,(T_ hN hj hy (GJ PySem.F.plainAttrs_list PySem.F.slot_list_pop PySem.F.type_list_pop A4 ho hbase hline) rfl hf).h,λ{G0 H0 G H τ σ fl E} K hf q=>?_⟩⟩;unfold gG at hf
 split at hf
 ·rename_i ds hd;obtain⟨d,hl,hf⟩:=zM hf;by_cases hne:j=i
  ·rw[zK hne]at hf;cases hf
  ·rw[zL hne]at hf;cases hf;obtain⟨aa,ea,g,z,vs,ev,rs,l⟩:=K.ow _ _ hd;rw[List.getLast?_eq_getElem?]at hl;obtain⟨v,hv,rv⟩:=rs.get hl;rw[<-rs.length]at hv;refine⟨_,ea,.inl ⟨rfl,vs,yG.of ev⟩,aa,vs,v,rfl,rfl,ev,hv,?_⟩;refine q _ _ _ ((K.mut (d':=.lst ds.dropLast) hd ea ⟨_,xJ,Reps.dropLast rs,?_⟩).set (yM.mp hj).1 rv);rw[KY];omega
 ·cases hf
theorem HI{i:Nat}(ho:QE X (.Name x xp) (vf i))(he:SE X e f)(hbase:attributeBase (.Name x xp) "extend" X.env (eval (.Name x xp) X.env)=eval (.Name x xp) X.env:=by rfl)(hline:(apos.endLine==cpos.line)=true:=by rfl)(hs:xM e=true:=by rfl) :
  SS X (.Expr (.Call (.Attribute (.Name x xp) "extend" apos) [e] [] cpos) pos) (wO i f):=by
 obtain⟨t,p,k⟩:=(zG he zN hs).h;refine⟨⟨_,(W9 (YF PySem.F.plainAttrs_list PySem.F.slot_list_extend PySem.F.type_list_extend C3 ho ⟨p⟩ hbase hline (by rw[xz,hs]; rfl) (by show 1<30; decide)) rfl).h,λ{G0 H0 G H τ σ fl E} K hf q=>?_⟩⟩;unfold wO at hf
 split at hf
 ·rename_i xs hd;obtain⟨y,hy,hf⟩:=zM hf;cases y with
  |lst ys=>
   change (if xs.length+ys.length<=yK then some (Fl.nx (τ.set i (some (true,.lst (xs++ys)))))else none)=some fl at hf
   by_cases c:xs.length+ys.length<=yK
   ·rw[zK c]at hf;cases hf;obtain⟨aa,ea,g,z,vs,ev,rs,l⟩:=K.ow _ _ hd;refine⟨_,ea,.inl ⟨rfl,vs,yG.of ev⟩,k K (ds:=[.lst ys]) (by unfold zC; rw[hy]; rfl) λus G1 H1 x1 r1=>?_⟩;obtain⟨v,rfl,b,zs,rfl,sq,rz,_⟩:=qe r1;refine⟨aa,b,vs,zs,rfl,rfl,x1.h _ _ ev,v8 x1.gh sq,by rw[rs.length,rz.length,w8]; exact c,?_⟩;refine q _ _ _ ((K.go x1).mut hd ea ⟨_,xJ,(rs.mono x1.g).append rz,?_⟩);rw[w8,yD]; exact c
   ·rw[zL c]at hf;cases hf
  |_=>cases hf
 ·cases hf
theorem h8{p p2 pos2:Pos}{fs:FA}(hcalm:X.calm=true)(hg:Gl X "list")(hm:X.mg "list" = none)(hg2:Gl X "range")(hm2:X.mg "range" = none)(ha:SA X [e] fs)(hs:xM e=true:=by rfl) :
  SF X (.Call (.Name "list" p) [.Call (.Name "range" p2) [e] [] pos2] [] pos) (eL Ju fs):=by
 obtain⟨t,pt,k⟩:=ha.h;have q1:=YG (p:=p2) (pos:=pos2) NZ hg2 hm2 boot_range ⟨pt⟩ (by decide) (by decide) (by rw[xz,hs]; rfl);refine⟨⟨_,(YG (p:=p) (pos:=pos) (NX hcalm) hg hm JZ (W7 q1 Tz) (by decide) (by decide)).h,λ{G0 H0 G H τ σ d Q} E hf q=>?_⟩⟩;obtain⟨ds,hd,hf⟩:=zM hf;refine k E hd λvs G1 H1 x1 r1=>?_
 match ds,hf with
 | [.int j],hf=>
  change (if 0<=j/\j<=1000000 then some (D.lst ((List.range j.toNat).map λk:Nat=>.int k))else none)=some d at hf
  by_cases c:0<=j/\j<=1000000
  ·rw[zK c]at hf;cases hf;obtain⟨v,rfl,hv⟩:=qe r1;cases(show v=.int j from hv);refine⟨j,rfl,c.1,λp hp=>⟨p,j.toNat,rfl,xJ,by omega,λp' hp'=>?_⟩⟩;have x2:=x1.trans (zT.layO (o:=XD p j.toNat) x1.gh hp);refine q p' _ _ (x2.trans (zT.layO x2.gh hp')) (x2.h.free hp') (x2.gh.free hp') ⟨_,xJ,dM _,?_⟩;rw[zj,vP,w8];show j.toNat<=16777216;omega
  ·rw[zL c]at hf;cases hf
end
structure j4(K:W.Frag)(H0 G H:Hp)(p:Addr)(qs:List Addr)(nds:List (List D)):Prop where
 hp:H p=some (.lst (qs.map V.ref))
 p0:H0 p=none
 pg:G p=none
 np:p ∉ qs
 nd:qs.Nodup
 ln:nds.length=qs.length
 el:∀(j:Nat)(q:Addr),qs[j]?=some q->∃ds vs,nds[j]?=some ds/\H q=some (.lst vs)/\H0 q=none/\G q=none/\Reps K G ds vs/\ds.length<=sizeLine
structure jg(K:W.Frag)(n:Nat)(G0 H0 G H:Hp)(τ:zi)(σ:St)(i:Nat)(nds:List (List D)):Prop where
 env:zg K n G0 H0 G H τ σ
 no:tQ τ=true
 nst:∃p qs,σ[i]?=some (some (.ref p))/\j4 K H0 G H p qs nds
inductive NF where
 |nx (nds:List (List D)) (τ:zi)
 |rt (d:D)
abbrev uO:=List (List D)->zi->Option NF
def ZY(K:W.Frag)(n:Nat)(G0 H0:Hp)(E:u8)(i:Nat):NF->Prop
 |.nx nds τ=>∀σ G H,jg K n G0 H0 G H τ σ i nds->E.nx σ H
 |.rt d=>∀v G H,zT G0 H0 G H->zY K G d v->E.rt v H
structure NS(X:Cx)(i:Nat)(st:Stmt)(f:uO):Prop where
 h:∃t,PS X st t/\∀{G0 H0 G H:Hp}{τ:zi}{σ:St}{nds:List (List D)} {fl:NF} {E:u8},jg X.K X.N.length G0 H0 G H τ σ i nds->f nds τ=some fl->ZY X.K X.N.length G0 H0 E i fl->t E σ H
structure XB(X:Cx)(i:Nat)(st:List Stmt)(f:uO):Prop where
 h:∃t,vR X st t/\∀{G0 H0 G H:Hp}{τ:zi}{σ:St}{nds:List (List D)} {fl:NF} {E:u8},jg X.K X.N.length G0 H0 G H τ σ i nds->f nds τ=some fl->ZY X.K X.N.length G0 H0 E i fl->t E σ H
section
variable{K:W.Frag}{n:Nat}{G0 H0 G H G' H':Hp}{τ:zi}{σ:St}{i:Nat}{nds:List (List D)}{p:Addr}{qs:List Addr}
theorem OQ(x:zT G H G' H'){a:Addr}(hg:G a=none)(hh:H a≠none):G' a=none:=by
 cases e:G' a with
 |none=>rfl
 |some u=>
  rcases x.new a (by rw[e]; exact λz=>nomatch z)with w|w
  ·exact absurd hg w
  ·exact absurd w hh
theorem j4.go(N:j4 K H0 G H p qs nds)(x:zT G H G' H'):j4 K H0 G' H' p qs nds:=⟨x.h _ _ N.hp,N.p0,OQ x N.pg (by rw[N.hp]; exact λz=>nomatch z),N.np,N.nd,N.ln,λj q hq=>by
 obtain⟨ds,vs,e1,e2,e3,e4,r,l⟩:=N.el j q hq;exact⟨ds,vs,e1,x.h _ _ e2,e3,OQ x e4 (by rw[e2]; exact λz=>nomatch z),r.mono x.g,l⟩⟩
theorem jg.go(N:jg K n G0 H0 G H τ σ i nds)(x:zT G H G' H'):jg K n G0 H0 G' H' τ σ i nds:=by
 obtain⟨p,qs,e,w⟩:=N.nst;exact⟨N.env.go x,N.no,p,qs,e,w.go x⟩
theorem Tk(h:tQ τ=true){j:Nat}{d:D}(e:τ[j]?=some (some (true,d))):False:=by
 have:=wm.mp h _ (wK e);cases this
theorem zg.poke(E:zg K n G0 H0 G H τ σ)(no:tQ τ=true){q:Addr}{o:HO}(h0:H0 q=none)(hg:G q=none):zg K n G0 H0 G (ze H q o) τ σ:=by
 have keep:∀{H1:Hp},H1 q=none->zx H1 H->zx H1 (ze H q o):=λ{H1} h s b u z=>by
  rw[ym (uF z h)];exact s _ _ z
 exact⟨⟨E.ext.g,keep h0 E.ext.h,keep hg E.ext.gh,E.ext.new⟩,E.l1,E.l2,E.fr,λj d h=>(Tk no h).elim,λj k d e p _ h=>(Tk no h).elim⟩
theorem zg.unset(E:zg K n G0 H0 G H τ σ)(no:tQ τ=true)(v:V):zg K n G0 H0 G H (τ.set i none) (σ.set i (some v)):=by
 refine⟨E.ext,by rw[u7]; exact E.l1,by rw[u7]; exact E.l2,λj d h=>?_,λj d h=>?_,λj k d e p _ h=>?_⟩
 ·rcases wQ h with⟨_,z⟩|⟨ne,z⟩
  ·cases z
  ·rw[w_ ne];exact E.fr j d z
 ·rcases wQ h with⟨_,z⟩|⟨ne,z⟩
  ·cases z
  ·exact(Tk no z).elim
 ·rcases wQ h with⟨_,z⟩|⟨ne,z⟩
  ·cases z
  ·exact(Tk no z).elim
theorem Ad(h:tQ τ=true)(i:Nat):tQ (τ.set i none)=true:=by
 refine wm.mpr λs hs=>?_
 rcases Kf hs with z|z
 ·exact wm.mp h _ z
 ·subst z; rfl
theorem OR(h:tQ τ=true)(i:Nat)(d:D):tQ (τ.set i (some (false,d)))=true:=by
 refine wm.mpr λs hs=>?_
 rcases Kf hs with z|z
 ·exact wm.mp h _ z
 ·subst z; rfl
theorem zT.frzs(x:zT G0 H0 G H):∀(l:List Addr),l.Nodup->(∀a∈l,H0 a=none/\G a=none/\H a≠none)->∃G',zT G0 H0 G' H/\zx G G'/\(∀a∈l,G' a=H a)/\∀b,b ∉ l->G' b=G b
 | [],_,_=>⟨G,x,zx.refl _,λ_ h=>(wq h).elim,λ_ _=>rfl⟩
 |a::l,nd,h=>by
  obtain⟨na,nl⟩:=t7.mp nd;obtain⟨G1,x1,s1,e1,f1⟩:=zT.frzs x l nl λb hb=>h b (yX _ hb)
  obtain⟨h0,hg,hh⟩:=h a yF;cases e:H a with
  |none=>exact absurd e hh
  |some u=>
   have ga:G1 a=none:=by rw[f1 a na]; exact hg
   refine⟨ze G1 a u,x1.frz h0 ga e,s1.trans (v7 ga u),λb hb=>?_,λb hb=>?_⟩
   ·by_cases c:b=a
    ·subst c; rw[xJ,e]
    ·rw[ym c];exact e1 b ((yI.mp hb).resolve_left c)
   ·rw[ym (λc:b=a=>hb (by rw[c]; exact yF)),f1 b λc=>hb (yX _ c)]
theorem j4.rep(N:j4 K H0 G H p qs nds)(x:zT G0 H0 G H)(hl:nds.length<=sizeLine):∃G',zT G0 H0 G' H/\zY K G' (.lst (nds.map .lst)) (.ref p):=by
 have all:∀a∈p::qs,H0 a=none/\G a=none/\H a≠none:=λa ha=>by
  rcases yI.mp ha with rfl|ha
  ·exact⟨N.p0,N.pg,by rw[N.hp]; exact λz=>nomatch z⟩
  ·obtain⟨j,hj⟩:=List.getElem?_of_mem ha;obtain⟨ds,vs,_,e2,e3,e4,_⟩:=N.el j a hj;exact⟨e3,e4,by rw[e2]; exact λz=>nomatch z⟩
 obtain⟨G',x',s',e',f'⟩:=x.frzs (p::qs) (t7.mpr ⟨N.np,N.nd⟩) all;refine⟨G',x',p,qs.map V.ref,rfl,yG.of ((e' p yF).trans N.hp),?_,by rw[zj]; exact hl⟩
 have el:∀(j:Nat)(q:Addr),qs[j]?=some q->∃ds,nds[j]?=some ds/\zY K G' (.lst ds) (.ref q):=λj q hq=>by
  obtain⟨ds,vs,e1,e2,_,_,r,l⟩:=N.el j q hq;exact⟨ds,e1,q,vs,rfl,yG.of ((e' q (yX _ (wK hq))).trans e2),r.mono s',l⟩
 have ln:=N.ln;clear all N x' e' f' hl x s'
 induction nds generalizing qs with
 |nil=>
  cases qs with
  |nil=>rfl
  |cons q qs=>cases ln
 |cons d nds ih=>
  cases qs with
  |nil=>cases ln
  |cons q qs=>
   obtain⟨ds,e1,r1⟩:=el 0 q rfl;cases e1
   exact⟨_,_,rfl,r1,ih (λj q' h=>by
    obtain⟨ds,e,r⟩:=el (j+1) q' (by simpa using h);exact⟨ds,by simpa using e,r⟩) (by simpa using ln)⟩
theorem ZY.near{Ga Ha:Hp}{E:u8}{fl:NF}(x:zT G0 H0 Ga Ha)(h:ZY K n G0 H0 E i fl):ZY K n Ga H0 E i fl:=by
 cases fl with
 |nx nds τ=>exact λσ G H z=>h σ G H ⟨zg.near x z.env,z.no,z.nst⟩
 |rt d=>exact λv G H y r=>h v G H (x.rebase y) r
end
def Y7(f g:uO):uO:=λnds τ=>(f nds τ).bind λfl=>match fl with
 |.nx nds τ=>g nds τ
 |.rt d=>some (.rt d)
def C4(k v:FE):uO:=λnds τ=>(k τ).bind λx=>(v τ).bind λy=>match x with
 |.int j=>match nds[j.toNat]? with
  |some ds=>if 0<=j/\ds.length<yK then some (.nx (nds.set j.toNat (ds++[y])) τ)else none
  |none=>none
 |_=>none
def Xt(g:FG)(b:uO):List D->List (List D)->zi->Option NF
 | [],nds,τ=>some (.nx nds τ)
 |d::ds,nds,τ=>(g d τ).bind λτ'=>(b nds τ').bind λfl=>match fl with
  |.nx nds' τ''=>Xt g b ds nds' τ''
  |.rt d=>some (.rt d)
def Y6(it:FA)(g:FG)(b:uO):uO:=λnds τ=>(it τ).bind λds=>Xt g b ds nds τ
def Xv:uO:=λnds _=>if nds.length<=yK then some (.rt (.lst (nds.map .lst)))else none
section
variable{X:Cx}{i:Nat}{x:Str}{p pos pos' apos cpos xp sp:Pos}{e k v c tg iter:Expr}{f fk fv:FE}{ft:FT}{fs:FA}{st:Stmt}{sts body sa sb:List Stmt}{g g':uO}{fg:FG}
theorem Ag(h1:NS X i st g)(h2:XB X i sts g'):XB X i (st::sts) (Y7 g g'):=by
 obtain⟨t,p,k⟩:=h1.h;obtain⟨t',p',k'⟩:=h2.h;refine⟨⟨_,Tx p p',λ{G0 H0 G H τ σ nds fl E} K hf q=>?_⟩⟩;obtain⟨f1,h1,hf⟩:=zM hf;refine k K h1 ?_;cases f1 with
 |nx nds' τ'=>exact λσ' G' H' K'=>k' K' hf q
 |rt d=>cases hf; exact q
theorem Ob(h1:NS X i st g):XB X i [st] g:=⟨let ⟨t,p,k⟩:=h1.h; ⟨t,Ox p,k⟩⟩
theorem Ae(hu:X.A.units+1<cLine)(ho:QE X (.Name x xp) (vf i))(hk:SE X k fk)(hv:SE X v fv)(hp:kW k=true:=by rfl)
  (hbase:attributeBase (.Subscript (.Name x xp) k sp) "append" X.env (eval (.Subscript (.Name x xp) k sp) X.env)=eval (.Subscript (.Name x xp) k sp) X.env:=by rfl)(hline:(apos.endLine==cpos.line)=true:=by rfl)(hs:xM v=true:=by rfl) :
  NS X i (.Expr (.Call (.Attribute (.Subscript (.Name x xp) k sp) "append" apos) [v] [] cpos) pos) (C4 fk fv):=by
 obtain⟨tk,pk,kk⟩:=hk.h;obtain⟨t,pv,kv⟩:=(zG hv zN hs).h;refine⟨⟨_,(W9 (YF PySem.F.plainAttrs_list PySem.F.slot_list_append PySem.F.type_list_append C2 (o:=.Subscript (.Name x xp) k sp) ⟨Tq (FD (X:=X)) ho.h pk (Tt hp)⟩ ⟨pv⟩ hbase hline (by rw[xz,hs]; rfl) (by show 1<30; decide)) rfl).h,λ{G0 H0 G H τ σ nds fl E} K hf q=>?_⟩⟩;obtain⟨xk,hk,hf⟩:=zM hf;obtain⟨y,hy,hf⟩:=zM hf;cases xk with
 |int j=>
  dsimp only at hf;cases hds:nds[j.toNat]? with
  |none=>rw[hds]at hf; cases hf
  |some ds=>
  rw[hds]at hf;dsimp only at hf;by_cases c:0<=j/\ds.length<yK
  ·rw[zK c]at hf;cases hf;obtain⟨a,qs,ea,w⟩:=K.nst;refine⟨_,ea,kk K.env hk λu G1 H1 x1 r1=>?_⟩;cases(show u=.int j from r1);have w1:=w.go x1;have hq:qs[j.toNat]?=some (qs[j.toNat]'(by rw[<-w.ln]; exact(yM.mp hds).1)):=yZ _;generalize (qs[j.toNat]'(by rw[<-w.ln]; exact(yM.mp hds).1))=q0 at hq
   have hat:uT (qs.map V.ref) j=some (.ref q0):=by
    have e:=N4 (xs:=qs.map V.ref) (j:=j.toNat) (v:=.ref q0) (by rw[xC,hq]; rfl);rw[show((j.toNat:Nat):Int)=j by omega]at e;exact e
   obtain⟨ds1,vs1,e1,e2,_⟩:=w1.el _ _ hq;refine⟨a,qs.map V.ref,j,.ref q0,rfl,rfl,yG.of w1.hp,hat,.inl ⟨rfl,vs1,yG.of e2⟩,kv (K.env.go x1) (ds:=[y]) (by unfold zC; rw[hy]; rfl) λus G2 H2 x2 r2=>?_⟩;obtain⟨u,r,rfl,hu',hr⟩:=r2;cases(show r=[]from hr);have K2:=K.go (x1.trans x2);have w2:=w1.go x2;obtain⟨ds2,vs2,e1',e2',h0,hg,rs,l⟩:=w2.el _ _ hq;rw[hds]at e1';cases e1';refine⟨q0,vs2,u,rfl,rfl,e2',by rw[rs.length,w8]; exact c.2,?_⟩;refine q _ _ _ ⟨K2.env.poke K2.no h0 hg,K2.no,a,qs,ea,?_⟩;have nea:a≠q0:=λz=>w.np (z▸wK hq)
   refine⟨by rw[ym nea]; exact w2.hp,w2.p0,w2.pg,w2.np,w2.nd,by rw[u7]; exact w2.ln,λj' q' hq'=>?_⟩;by_cases cj:j'=j.toNat
   ·subst cj;rw[hq]at hq';cases hq';refine⟨ds++[y],vs2++[u],pB (yM.mp hds).1,xJ,h0,hg,rs.append (Reps.one hu'),?_⟩;rw[yD,w8];exact c.2
   ·have neq:q'≠q0:=λz=>cj ((List.getElem?_inj (yM.mp hq').1 w2.nd).mp (by rw[hq',hq,z]))
    obtain⟨ds3,vs3,f1,f2,f3⟩:=w2.el _ _ hq';exact⟨ds3,vs3,by rw[w_ cj]; exact f1,by rw[ym neq]; exact f2,f3⟩
  ·rw[zL c]at hf;cases hf
 |_=>cases hf
structure JL(X:Cx)(i:Nat)(tg:Expr)(fg:FG):Prop where
 h:∃t,PG X tg t/\∀{G0 H0 G H:Hp}{τ τ':zi}{σ:St}{d:D}{v:V}{Q:St->Hp->Prop},zg X.K X.N.length G0 H0 G H τ σ->tQ τ=true->zY X.K G d v->fg d τ=some τ'->(∀σ',zg X.K X.N.length G0 H0 G H τ' σ'->tQ τ'=true->σ'[i]?=σ[i]?->Q σ' H)->t v σ H Q
theorem i5{j:Nat}(h:QG X (.Name x pos) (vL j))(hi:X.N[j]?=some x)(hij:i≠j:=by decide):JL X i (.Name x pos) (zz j):=⟨⟨_,h.h,λK no r hf q=>by
 cases hf;exact q _ (K.set (yM.mp hi).1 r) (OR no _ _) (w_ hij)⟩⟩
theorem i4{j l:Nat}{y:Str}{p1 p2:Pos}{kk:Nat}(h:QG X (.Tuple [.Name x p1,.Name y p2] kk pos) (Zi X.K 2 (pA (vL j) (pA (vL l) Zh))))(hi:X.N[j]?=some x)(hj:X.N[l]?=some y)(hij:i≠j:=by decide)(hil:i≠l:=by decide):JL X i (.Tuple [.Name x p1,.Name y p2] kk pos) (wL j l):=⟨⟨_,h.h,λ{G0 H0 G H τ τ' σ d v Q} K no r hf q=>by
 unfold wL at hf
 split at hf
 ·rename_i d1 d2;cases hf;obtain⟨a,vs,rfl,sq,⟨v1,r1,rfl,h1,⟨v2,r2,rfl,h2,h3⟩⟩,_⟩:=r;cases(show r2=[]from h3);refine⟨a,_,rfl,uK K.ext.gh sq,rfl,v1,_,rfl,v2,_,rfl,rfl,?_⟩;exact q _ ((K.set (yM.mp hi).1 h1).set (yM.mp hj).1 h2) (OR (OR no _ _) _ _) (by rw[w_ hil,w_ hij])
 ·cases hf⟩⟩
theorem Cj(hp:PassesOwn (model X.prog X.w) X.A X.env X.xe)(hc:X.calm=true)(hi:SI X tg iter fs)(hg:JL X i tg fg)(hb:XB X i body g)(hs:∀x,foldedSetIterable iter X.env x=pure x:=by intro _; rfl):NS X i (.For tg iter body [] pos) (Y6 fs fg g):=by
 obtain⟨ti,pi,ki⟩:=hi.h;obtain⟨tg',pg,kg⟩:=hg.h;obtain⟨tb,pb,kb⟩:=hb.h;refine⟨⟨_,Ow hp hc pi pg pb hs,λ{G0 H0 G H τ σ nds fl E} K hf q=>?_⟩⟩;obtain⟨ds,hd,hf⟩:=zM hf;refine ki K.env hd λJ Ga Ha xa _ wk=>?_
 have Ka:=K.go xa;have q':=ZY.near Ka.env.ext q;refine⟨λj m σ H=>m=ds.length-j/\j<=ds.length/\∃τ G nds,jg X.K X.N.length Ga H0 G H τ σ i nds/\Xt fg g (ds.drop j) nds τ=some fl,⟨ds.length,rfl,xb _,τ,Ga,nds,⟨Ka.env.far,Ka.no,Ka.nst⟩,hf⟩,?_⟩;rintro j m σ H ⟨rfl,hle,τ,G,nds,K,hf⟩;by_cases hlt:j<ds.length
 ·refine .inr ⟨wk.go j G H K.env.ext.g K.env.ext.gh hlt,λσ' H'=>∃τ G nds,jg X.K X.N.length Ga H0 G H' τ σ' i nds/\Xt fg g (ds.drop (j+1)) nds τ=some fl,λσ' H' z=>⟨ds.length-(j+1),by omega,rfl,hlt,z⟩,λx H' y=>?_⟩;obtain⟨G3,d,x3,ed,rd⟩:=wk.yld j G H x H' K.env.ext.g K.env.ext.gh hlt y;rw[VN hlt]at hf;rw[yZ hlt]at ed;cases ed;obtain⟨τ1,h1,hf⟩:=zM (show(fg _ τ).bind _=_ from hf);obtain⟨f1,h2,hf⟩:=zM hf;have K3:=K.go x3;obtain⟨a,qs,ea,w⟩:=K3.nst;refine kg K3.env K3.no rd h1 λσ1 E1 no1 s1=>kb (nds:=nds) ⟨E1,no1,a,qs,by rw[s1]; exact ea,w⟩ h2 ?_
  cases f1 with
  |nx nds2 τ2=>exact λσ2 G2 H2 K2=>⟨τ2,G2,nds2,K2,hf⟩
  |rt d=>cases hf; exact q'
 ·have e:ds.drop j=[]:=Qo (by omega);rw[e]at hf;cases hf;exact .inl ⟨wk.stop j G H K.env.ext.g K.env.ext.gh (by omega),q' _ _ _ K⟩
theorem Af(hN:X.N[i]?=some x:=by rfl)(hv:jk X.env.scope x:=by first|exact Or.inl rfl|exact Or.inr (Or.inl rfl)|exact Or.inr (Or.inr rfl))(hd:(x==("__debug__" : Str))=false:=by decide)
  (hcd:(x==("__classdict__" : Str))=false:=by decide):NS X i (.Return (some (.Name x pos')) pos) Xv:=by
 refine⟨⟨_,Tw (W5 hN hv hd hcd),λ{G0 H0 G H τ σ nds fl E} K hf q=>?_⟩⟩;unfold Xv at hf;by_cases c:nds.length<=yK
 ·rw[zK c]at hf;cases hf;obtain⟨a,qs,ea,w⟩:=K.nst;obtain⟨G',x',r⟩:=w.rep K.env.ext (by rw[w8]; exact c);exact⟨_,ea,q _ G' H x' r⟩
 ·rw[zL c]at hf;cases hf
end
def YJ(i:Nat)(fi:zi->Option Nat)(g:uO):FS:=λτ=>match tQ τ with
 |false=>none
 |true=>(fi τ).bind λm=>(g (List.replicate m []) (τ.set i none)).bind λfl=>match fl with
  |.rt d=>some (.rt false d)
  |.nx _ _=>none
def Xu(it:FA):zi->Option Nat:=λτ=>(it τ).bind λds=>some ds.length
section
variable{X:Cx}{i:Nat}{x:Str}{pos pos' p spos:Pos}{e tg iter:Expr}{st:Stmt}{fi:zi->Option Nat}{fs:FA}{yj:List Stmt}{g:uO}{scope:Scope}{cl:List (Str×Addr)}{own:List Str}{tG:TG}{fg:FG}
theorem AS{G0 H0 G H Ga Ha:Hp}{τ:zi}{σ:St}{J:It}{ds:List D}{Q:Addr->Hp->Prop}(wk:j6 X.K J Ga ds)(l:ds.length<=sizeLine)(K:zg X.K X.N.length G0 H0 G H τ σ)(xa:zT G H Ga Ha)(hg:BG X scope cl own tg tG fg)(hfg:∀d τ,(fg d τ).isSome=true)
  (q:∀p qs G' H',zT G H G' H'->j4 X.K H G' H' p qs (List.replicate ds.length [])->Q p H') :
  ∃W:Nat->Nat->List V->Hp->Prop,(∃m,W 0 m [] Ha)/\Xq σ own.length J tG Lo (Hd QO) W λys H'=>∀p,H' p=none->Q p (ze H' p (.lst ys)):=by
 have Ka:=K.go xa;refine⟨λi m ys H'=>m=ds.length-i/\i<=ds.length/\∃(G':Hp) (qs:List Addr),zT Ga Ha G' H'/\ys=qs.map V.ref/\qs.length=i/\qs.Nodup/\∀b∈qs,H' b=some (.lst [])/\Ha b=none/\G' b=none,⟨ds.length,rfl,xb _,Ga,[],zT.refl Ka.ext.gh,rfl,rfl,t8,λ_ h=>(wq h).elim⟩,?_⟩;rintro i m ys H1 ⟨rfl,hle,G1,qs,x1,rfl,lq,nd,hq⟩;by_cases hlt:i<ds.length
 ·refine .inr ⟨wk.go i G1 H1 x1.g x1.gh hlt,by rw[zj]; omega,λys H'=>∃(G':Hp) (qs:List Addr),zT Ga Ha G' H'/\ys=qs.map V.ref/\qs.length=i+1/\qs.Nodup/\∀b∈qs,H' b=some (.lst [])/\Ha b=none/\G' b=none,λys' H' z=>⟨ds.length-(i+1),by omega,rfl,hlt,z⟩,λv H' y=>?_⟩;obtain⟨G3,d,x3,ed,rv⟩:=wk.yld i G1 H1 v H' x1.g x1.gh hlt y;have K3:=((Ka.go x1).go x3).more own.length;obtain⟨τ1,h1⟩:=ZI.mp (hfg d (τ++List.replicate own.length none));refine hg.k K.l2 K.l1 G3 H' d v τ1 _ K3 rv h1 λρ K4=>⟨⟨ρ,rfl⟩,?_⟩
  dsimp only;unfold Lo;dsimp only;rw[zK rfl];refine⟨xb _,λb hb=>?_⟩;have x13:=x1.trans x3
  have fresh:b ∉ qs:=λz=>by
   have:=x3.h _ _ (hq b z).1;rw[this]at hb;cases hb
  refine⟨G3,qs++[b],x13.trans (zT.layO x13.gh hb),by rw[qM]; rfl,by rw[yD,lq]; rfl,?_,λc hc=>?_⟩
  ·exact VS.mpr ⟨nd,t7.mpr ⟨wq,t8⟩,λu hu w hw e=>fresh (by cases yt.mp hw; exact e▸hu)⟩
  ·rcases w4.mp hc with z|z
   ·obtain⟨z1,z2,z3⟩:=hq c z;have z1':=x3.h _ _ z1;refine⟨by rw[ym (λe:c=b=>fresh (e▸z))]; exact z1',z2,OQ x3 z3 (by rw[z1]; exact λz=>nomatch z)⟩
   ·cases yt.mp z;exact⟨xJ,x13.h.free hb,x13.gh.free hb⟩
 ·have ei:i=ds.length:=by omega
  subst ei;refine .inl ⟨wk.stop ds.length G1 H1 x1.g x1.gh (zt _),λb hb=>?_⟩;have xx:=xa.trans x1
  have fresh:b ∉ qs:=λz=>by
   rw[(hq b z).1]at hb;cases hb
  refine q b qs G1 _ (xx.trans (zT.layO xx.gh hb)) ⟨xJ,xx.h.free hb,xx.gh.free hb,fresh,nd,by rw[t6]; exact lq.symm,λj c hc=>?_⟩;have mem:=wK hc;obtain⟨z1,z2,z3⟩:=hq c mem;refine⟨[],[],?_,by rw[ym (λe:c=b=>fresh (e▸mem))]; exact z1,xa.h.free z2,z3,rfl,xb _⟩;rw[Yr,zK (by have:=(yM.mp hc).1; omega)]
structure BI(X:Cx)(i:Nat)(st:Stmt)(f:zi->Option Nat):Prop where
 h:∃t,PS X st t/\∀{G0 H0 G H:Hp}{τ:zi}{σ:St}{m:Nat}{E:u8},zg X.K X.N.length G0 H0 G H τ σ->f τ=some m->(∀p qs G' H',zT G H G' H'->j4 X.K H G' H' p qs (List.replicate m [])->E.nx (σ.set i (some (.ref p))) H')->t E σ H
theorem lN(hcalm:X.calm=true)(hN:X.N.Nodup)(hix:X.N[i]?=some x)(hx:X.env.scope.names.lookup x=some .local)(B:gZ X scope cl own)
  (hsw:swapsWith (.ListComp (.List [] p) [⟨tg,iter,[],0⟩] scope pos) (some (.Name x pos')) spos.line X.env=pure true)(hi:SI X tg iter fs)(hg:BG X scope cl own tg tG fg)(hfg:∀d τ,(fg d τ).isSome=true)(hs:∀x,foldedSetIterable iter X.env x=pure x:=by intro _; rfl) :
  BI X i (.Assign [.Name x pos'] (.ListComp (.List [] p) [⟨tg,iter,[],0⟩] scope pos) spos) (Xu fs):=by
 obtain⟨ti,pi,ki⟩:=hi.h;refine⟨⟨_,G8 hcalm hN hix hx B hsw pi (λC s H fp pn=>(hg.q C s H fp pn).h) (λC s H fp pn=>GA) (λC s H fp pn=>Er YA) hs,λ{G0 H0 G H τ σ m E} K hf q=>?_⟩⟩;obtain⟨ds,hd,hf⟩:=zM hf;cases hf;exact ki K hd λJ Ga Ha xa l wk=>AS (Q:=λp H'=>E.nx (σ.set i (some (.ref p))) H') wk l K xa hg hfg q
theorem lu(hi:X.N[i]?=some x)(he:BI X i st fi)(hr:XB X i yj g):uR X (st::yj) (YJ i fi g):=by
 obtain⟨t,p,k⟩:=he.h;obtain⟨tr,pr,kr⟩:=hr.h;refine⟨⟨_,Tx p pr,λ{G0 H0 G H τ σ fl E} K hf q=>?_⟩⟩;unfold YJ at hf;cases no:tQ τ with
 |false=>rw[no]at hf; cases hf
 |true=>
 rw[no]at hf;obtain⟨m,hm,hf⟩:=zM (show(fi τ).bind _=some fl from hf);obtain⟨f1,h1,hf⟩:=zM hf;refine k K hm λa qs G' H' x w=>?_
 have in_:i<X.N.length:=(yM.mp hi).1
 have w':j4 X.K H0 G' H' a qs (List.replicate m []):=⟨w.hp,K.ext.h.free w.p0,w.pg,w.np,w.nd,w.ln,λj q hq=>by
  obtain⟨ds,vs,e1,e2,e3,e4⟩:=w.el j q hq;exact⟨ds,vs,e1,e2,K.ext.h.free e3,e4⟩⟩
 refine kr (nds:=List.replicate m []) (τ:=τ.set i none) ⟨(K.go x).unset no _,Ad no i,a,qs,pB (by rw[K.l1]; exact in_),w'⟩ h1 ?_;cases f1 with
 |nx nds τ2=>cases hf
 |rt d=>cases hf; exact q
end
section
variable{P:Program}{w:World}{K:W.Frag}{mg:Str->Option Value}{base:Heap}
end
section
variable{X:Cx}{e:Expr}{es:List Expr}{f:FE}{fs:FA}{x:Str}{p pos:Pos}{ps:List Str}{j k:Nat}{FF:List D->Option (Bool×D)}
end
end L3
namespace L2
open PySem PySem.Spec PyProof PyProof.Rows
section
variable{prog:Program}{w:World}{A:Around}{E:Value->Shared->Prop}
theorem No{s:Shared}{a:Addr}{kvs:List (Key×Value)}{ep:Nat}{Q:List Value->Shared->Prop}(hh:A.handled=none)(lo:(a==sysModules)=false)(hm:s.heap.DictAt (y_ prog w) a kvs ep)(hb:kvs.length<=sizeLine)
  (h:∀h' tk vs,vs.length=kvs.length->(∀(j:Nat)(v:Value),vs[j]?=some v->∃k x,kvs[j]?=some (k,x)/\(y_ prog w).is k v=true)->s.heap.objs.size<h'.objs.size->(∀b ob,s.heap.get? b=some ob->h'.get? b=some ob)->Q vs { s with heap:=h',toks:=tk }):wpAny (model prog w) A (collect (.ref a)) Q E s:=by
 unfold collect;refine zE (J4 (tf (entry_proto_collect') ?_));show wpAny _ _ (newList [] >>= λl=>again (.builtin "list.__iadd__" ⟨[l,.ref a],[]⟩)) _ _ s;refine zE (J1 (zX ⟨Qi _ (by decide +kernel),tf (entry_list_iadd') ?_⟩));have hlt:a<s.heap.objs.size:=hm.lt_size;have neS:s.heap.objs.size≠a:=yi (ud hlt);rw[gR (by decide +kernel)]
 refine W.kdl_extend (R:=λr s'=>match r with
  |.ok (.ret v)=>wpAny (model prog w) A (match v with
   |Value.ref a=>(do
    let o <-load a
    match o.data with
    |.seq xs _=>pure xs.toList
    |_=>unsupported "internal:collect")
   |_=>unsupported "internal:collect") Q E s'
  |.ok _=>False
  |.error e=>E e s') (s:={ s with heap:=s.heap.push (seqObj "list" #[] 0) }) (W.kdl_dict (knd:=y_ prog w) (kvs:=kvs) (ep:=ep) lo) (by exact hh) (hm.push _) s.heap.objs.size neS neS (.ref s.heap.objs.size) 0 (Heap.get?_push_size _ rfl) (λh' tk acc' c' hk hS' hacc=>?_) hb
 refine zE (wpAny_load hS' ?_);show wpAny _ _ (pure acc'.toList) _ _ _;refine zX (h h' tk acc'.toList (by rw[wy]; exact hacc.1) (λj v e=>hacc.2 j v (by rw[<-Z5]; exact e)) (Heap.lt_size hS') λb ob e=>?_);exact hk b ob (yi (xh (Heap.lt_size e))) (Heap.get?_push_of_some _ e)
theorem lQ{s:Shared}{a:Addr}{kvs:List (Key×Value)}{ep:Nat}{ns:List Int}{Q:Value->Shared->Prop}(hh:A.handled=none)(lo:(a==sysModules)=false)(hm:s.heap.DictAt (y_ prog w) a kvs ep)(hk:kvs.map (·.1)=ns.map Sum.inl)(h64:ns.length<64)
  (h:∀h' tk p out c ns',s.heap.objs.size<=p->h'.get? p=some (seqObj "list" out c)->IntsAre out.toList ns'->ns'.Perm ns->ns'.Pairwise (·<=·)->(∀b ob,s.heap.get? b=some ob->h'.get? b=some ob)->Q (.ref p) { s with heap:=h',toks:=tk }) :
  wpAny (model prog w) A (call (.builtin "sorted") [.ref a]) Q E s:=by
 have hl:kvs.length=ns.length:=by
  have:=congrArg List.length hk
  rwa [zj,zj]at this
 have hb:kvs.length<=sizeLine:=by rw[w8]; omega
 refine KF kind_sorted plain_sorted entry_sorted (args_sorted1 _) ?_;unfold Builtin.«sorted»;refine zE (m:=checkCount "sorted" 1 1 _) (zX (zE (No (by exact hh) lo hm hb λh1 tk ord ol oe hle kp=>zE (J1 ?_ (by rw[ol]; exact hb)))))
 have hI:IntsAre ord ns:=by
  have:∀(vs:List Value)(kvs:List (Key×Value)) (ns:List Int),vs.length=kvs.length->kvs.map (·.1)=ns.map Sum.inl->(∀(j:Nat)(v:Value),vs[j]?=some v->∃k x,kvs[j]?=some (k,x)/\(y_ prog w).is k v=true)->IntsAre vs ns:=by
   intro vs
   induction vs with
   |nil=>
    intro kvs ns h1 h2 _;cases kvs with
    |nil=>
     cases ns with
     |nil=>exact .nil
     |cons n ns=>cases h2
    |cons _ _=>cases h1
   |cons v vs ih=>
    intro kvs ns h1 h2 h3;cases kvs with
    |nil=>cases h1
    |cons kx kvs=>
     cases ns with
     |nil=>cases h2
     |cons n ns=>
      obtain⟨k,x,e,z⟩:=h3 0 v rfl;cases e;have e0:k=Sum.inl n:=(List.cons.inj h2).1;subst e0;obtain⟨t,rfl⟩:=Value.isInt_shape (k:=n) (v:=v) z;exact .cons _ _ (ih kvs ns (by simpa using h1) (List.cons.inj h2).2 λj u hu=>by simpa using h3 (j+1) u (by simpa using hu))
  exact this ord kvs ns ol hk oe
 have l64:ord.length<64:=by omega
 have g1:(h1.push (seqObj "list" ord.toArray 0)).get? h1.objs.size=some (seqObj "list" ord.toArray 0):=Heap.get?_push_size _ rfl;refine zE (t9 (pU slot_list_sort ⟨_,g1,rfl⟩ entry_list_sort (list_sort_tree g1 hI l64 λout ns' a1 a2 a3=>⟨_,rfl,?_⟩) (args_list_sort _)));obtain⟨c,hc⟩:=sortedHeap_at (vs:=ord) (out:=out) g1;refine zX ⟨_,rfl,h _ tk h1.objs.size out c ns' (Yw hle) hc a1 a2 a3 λb ob e=>?_⟩;have hbl:=Heap.lt_size (kp b ob e);rw[sortedHeap_old (yi (xh hbl)) (by rw[size_push']; exact ZF hbl)];exact Heap.get?_push_of_some _ (kp b ob e)
end
section
variable{X:Cx}
theorem Fb:∀{kvs:List (Key×V)} {vs:List (Key×Value)},KV kvs vs->vs.map (·.1)=kvs.map (·.1)
 |_,_,.nil=>rfl
 |_,_,.cons r t=>by rw[xT,xT,Fb t,r.1]
def dC:List V->Hp->VK->Prop:=λxs H Q=>∃(a:Addr) (kvs:List (Key×V)) (ns:List Int),xs=[.ref a]/\Rd H a (.dK kvs)/\kvs.map (·.1)=ns.map Sum.inl/\ns.length<64/\∀l,H l=none->Q (.ref l) (ze H l (.lst ((isort ns).map V.int)))
theorem Nf(hcalm:X.calm=true):wr X (.builtin "sorted") dC:=by
 intro z8 s σ H xs us Q I r h;obtain⟨a,kvs,ns,rfl,ea,hk,h64,q⟩:=h;obtain⟨u,rfl,ru⟩:=ub r;cases(show u=Value.ref a from ru);obtain⟨_,lo,vs,rel,o,es,ep,ho,hx,hd,k1,k2,k3⟩:=Ze I.hok ea;have hm:s.heap.DictAt (y_ X.prog X.w) a vs ep:=⟨o,es,ho,hx,hd,k1,k2,k3⟩;refine lQ (I.ok.hd hcalm) lo hm ((Fb rel).trans hk) h64 λh' tk p out c ns' hp hc a1 a2 a3 kp=>?_
 have e:ns'=isort ns:=Ld (a2.trans (isort_perm ns).symm) a3 (isort_sorted ns);subst e;have hl2:(isort ns).length=ns.length:=(isort_perm ns).length_eq;refine⟨.ref p,_,I.laid (t':=tk) (h':=h') kp hp (show xP X.prog X.w _ _ _ (.lst ((isort ns).map V.int))from⟨?_,out.toList,c,O3 a1,?_⟩),rfl,q _ (I.hok.fresh hp)⟩
 ·rw[zj,hl2];show _<=sizeLine;rw[w8];omega
 ·rw[KB];exact hc
end
end L2
namespace L3
open PySem PySem.Spec PyProof.Rows L2
def Z_:List (Sum Int Str)->Option (List Int)
 | []=>some []
 |.inl i::r=>(Z_ r).bind λns=>some (i::ns)
 |.inr _::_=>none
theorem FV:∀{ks:List (Sum Int Str)} {ns:List Int},Z_ ks=some ns->ks=ns.map Sum.inl
 | [],_,h=>by cases h; rfl
 |.inl i::r,_,h=>by
  obtain⟨ns,h1,h⟩:=zM h;cases h;rw[FV h1];rfl
 |.inr _::_,_,h=>by cases h
def Jx:List D->Option D
 | [.dic ks _]=>(Z_ ks).bind λns=>if ns.length<64 then some (.lst ((isort ns).map D.int))else none
 |_=>none
theorem hU{X:Cx}{e:Expr}{fs:FA}{p pos:Pos}(hcalm:X.calm=true)(hg:Gl X "sorted")(hm:X.mg "sorted" = none)(ha:SA X [e] fs)(hs:xM e=true:=by rfl) :
  SF X (.Call (.Name "sorted" p) [e] [] pos) (eL Jx fs):=by
 obtain⟨t,pt,k⟩:=ha.h;refine⟨⟨_,(W8 (p:=p) (pos:=pos) (Nf hcalm) hg hm Bp ⟨pt⟩ (by decide) (by decide) (by rw[xz,hs]; rfl)).h,λ{G0 H0 G H τ σ d Q} E hf q=>?_⟩⟩;obtain⟨ds,hd,hf⟩:=zM hf;refine k E hd λvs G1 H1 x1 r1=>?_
 match ds,hf with
 | [.dic ks xs],hf=>
  obtain⟨ns,hn,hf⟩:=zM hf;by_cases c:ns.length<64
  ·rw[zK c]at hf;cases hf;obtain⟨v,rfl,a,us,rfl,sq,hl,rs,l⟩:=qe r1;refine⟨a,ks.zip us,ns,rfl,Rd.mono x1.gh sq,?_,c,λp' hp'=>?_⟩
   ·rw[<-FV hn];exact List.map_fst_zip (by omega)
   ·refine q p' _ _ (x1.trans (zT.layO x1.gh hp')) (x1.h.free hp') (x1.gh.free hp') ⟨_,xJ,Reps.ints,?_⟩;rw[zj,(isort_perm ns).length_eq,w8];show _<=16777216;omega
  ·rw[zL c]at hf;cases hf
end L3
namespace L2
open PySem PySem.Spec PyProof PyProof.Rows
section
variable{X:Cx}{x:Str}{e:Expr}{es:List Expr}{t:TA}{p pos:Pos}{i j:Nat}
def Hb(X:Cx)(j i:Nat)(t:TA):TE:=λσ H Q=>∃(f:Addr) (fd:FuncData) (ps:List Str) (k:Nat) (sp:Sp),σ[i]?=some (some (.ref f))/\k<=j/\W.keepIn X.K (.ref f)=true/\qr X.K fd ps []/\uq X.prog X.w X.K X.mg X.base ui k f fd ps sp/\t σ H λvs H1=>sp (vs++[]) H1 Q E0
theorem Eo(hr:xX j X.A)(ho:PE X (.Name x p) (vf i))(ha:PA X (e::es) t)(he:(e::es).all xM=true:=by rfl):PE X (.Call (.Name x p) (e::es) [] pos) (Hb X j i t):=by
 intro z8 s σ H Q I h;obtain⟨f,fd,ps,k,sp,ei,hk,kp,b,F,h⟩:=h;rw[xz,xB]at he;refine Vb (zw (ho z8 s σ H (λv H1=>v=.ref f/\H1=H) I ⟨_,ei,rfl,rfl⟩) λu s1 ⟨v,H1,I1,r1,e1,e2⟩=>?_);subst e1 e2;cases r1;refine W.callWith_K (h₀:=X.base) I.ok.mod.kin kp (zw (ha pos z8 s1 σ _ _ I1 h) λus s2 ⟨vs,H2,I2,r,q⟩=>⟨I2.kIn,?_⟩) (tW he.1) (YX he.2);exact LJ F (hr.mono hk) b .nil Om I2 r q
end
end L2
namespace L3
open PySem PySem.Spec PyProof.Rows L2
theorem zg.lose{K:W.Frag}{n:Nat}{G0 H0 G H:Hp}{τ:zi}{σ:St}{i:Nat}(E:zg K n G0 H0 G H τ σ)(v:V):zg K n G0 H0 G H (τ.set i none) (σ.set i (some v)):=by
 refine⟨E.ext,by rw[u7]; exact E.l1,by rw[u7]; exact E.l2,λj d h=>?_,λj d h=>?_,λj k d e p hne h1 h2 h3 h4=>?_⟩
 ·rcases wQ h with⟨_,z⟩|⟨ne,z⟩
  ·cases z
  ·rw[w_ ne];exact E.fr j d z
 ·rcases wQ h with⟨_,z⟩|⟨ne,z⟩
  ·cases z
  ·rw[w_ ne];exact E.ow j d z
 ·rcases wQ h1 with⟨_,z1⟩|⟨n1,z1⟩
  ·cases z1
  ·rcases wQ h2 with⟨_,z2⟩|⟨n2,z2⟩
   ·cases z2
   ·rw[w_ n1]at h3;rw[w_ n2]at h4;exact E.ap j k d e p hne z1 z2 h3 h4
def gr(X:Cx)(j:Nat)(f:Addr)(F:List D->Option (Bool×D)):Prop:=∃(fd:FuncData) (ps:List Str) (k:Nat),k<=j/\W.keepIn X.K (.ref f)=true/\qr X.K fd ps []/\uq X.prog X.w X.K X.mg X.base ui k f fd ps (zV X.K F)
structure BX(X:Cx)(i:Nat)(t:TS)(f:Addr)(g:FS):Prop where
 h:∀{G0 H0 G H:Hp}{τ:zi}{σ:St}{fl:Fl}{E:u8},zg X.K X.N.length G0 H0 G H τ σ->σ[i]?=some (some (.ref f))->g τ=some fl->vk X.K X.N.length G0 H0 E fl->t E σ H
inductive qq(X:Cx)(i:Nat)(t:TS):List Addr->List FS->Prop
 |nil:qq X i t [] []
 |cons {f:Addr} {fs:List Addr} {g:FS} {gs:List FS}:BX X i t f g->qq X i t fs gs->qq X i t (f::fs) (g::gs)
theorem qq.len{X:Cx}{i:Nat}{t:TS}:∀{fs:List Addr}{gs:List FS},qq X i t fs gs->fs.length=gs.length
 |_,_,.nil=>rfl
 |_,_,.cons _ h=>by rw[xK,xK,h.len]
theorem qq.get{X:Cx}{i:Nat}{t:TS}:∀{fs:List Addr}{gs:List FS}{k:Nat}{f:Addr},qq X i t fs gs->fs[k]?=some f->∃g,gs[k]?=some g/\BX X i t f g
 |_,_,_,_,.nil,h=>by cases h
 |_,_,0,_,.cons b _,h=>by cases h; exact⟨_,rfl,b⟩
 |_,_,k+1,_,.cons _ h,e=>qq.get (k:=k) h (by simpa using e)
def vq(i:Nat):List FS->zi->Option Fl
 | [],τ=>some (.nx τ)
 |g::gs,τ=>(g (τ.set i none)).bind λfl=>match fl with
  |.nx τ'=>vq i gs τ'
  |.ct τ'=>vq i gs τ'
  |.bk τ'=>some (.nx τ')
  |f=>some f
section
variable{X:Cx}{x y o gn:Str}{e:Expr}{es:List Expr}{fs:FA}{p p2 pos pos' xp gp op apos cpos:Pos}{i io iy j:Nat}{body yj:List Stmt}{t:TS}{g:FS}
theorem gr.of{n:Str}{ps:List Str}{k:Nat}{f:Addr}{F:List D->Option (Bool×D)}(h:zU X.prog X.w X.K X.mg X.base n ps k (zV X.K F))(hm:X.mg n=some (.ref f))(hk:k<=j:=by decide):gr X j f F:=by
 obtain⟨f',fd,hm',kp,b,F⟩:=h;rw[hm]at hm';cases hm';exact⟨fd,ps,k,hk,kp,b,F⟩
theorem Bq{ta:TA}(ka:∀{G0 H0 G H:Hp}{τ:zi}{σ:St}{ds:List D}{Q:List V->Hp->Prop},zg X.K X.N.length G0 H0 G H τ σ->fs τ=some ds->(∀vs G' H',zT G H G' H'->Reps X.K G' ds vs->Q vs H')->ta σ H Q)
  {f:Addr}{F:List D->Option (Bool×D)}(h:gr X j f F){G0 H0 G H:Hp}{τ:zi}{σ:St}{d:D}{Q:VK}(E:zg X.K X.N.length G0 H0 G H τ σ)(hs:σ[i]?=some (some (.ref f)))(hf:zW F fs τ=some d)(q:∀v G' H',zT G H G' H'->zY X.K G' d v->Q v H'):Hb X j i ta σ H Q:=by
 obtain⟨fd,ps,k,hk,kp,b,F'⟩:=h;obtain⟨ds,hd,hf⟩:=zM hf;obtain⟨⟨o,d'⟩,hr,hf⟩:=zM hf;cases hf;refine⟨f,fd,ps,k,_,hs,hk,kp,b,F',ka E hd λvs G1 H1 x1 r1=>⟨G1,ds,o,d',x1.gh,by rw[wW]; exact r1,hr,?_⟩⟩;cases o with
 |false=>exact λv G' H' x2 r=>q v G' H' (x1.trans x2) r
 |true=>
  intro p G' H' x2 hp gp o;obtain⟨u,hu,r⟩:=o.frz gp;exact q _ _ _ (x1.trans (x2.frz hp gp hu)) r
theorem NM(hr:xX j X.A)(hx:PE X (.Name x xp) (vf i))(ho:QE X (.Name o op) (vf io))(ha:SA X (e::es) fs)(he:(e::es).all xM=true:=by rfl)(hbase:attributeBase (.Name o op) "extend" X.env (eval (.Name o op) X.env)=eval (.Name o op) X.env:=by rfl)(hline:(apos.endLine==cpos.line)=true:=by rfl) :
  ∃t,vR X [.Expr (.Call (.Attribute (.Name o op) "extend" apos) [.Call (.Name x xp) (e::es) [] p2] [] cpos) pos] t/\∀f F,gr X j f F->BX X i t f (wO io (zW F fs)):=by
 obtain⟨ta,pa,ka⟩:=ha.h;refine⟨_,Ox (W9 (YF PySem.F.plainAttrs_list PySem.F.slot_list_extend PySem.F.type_list_extend C3 ho ⟨W4 (Eo hr hx pa he) YA rfl⟩ hbase hline rfl (by show 1<30; decide)) rfl).h,λf F hF=>⟨λ{G0 H0 G H τ σ fl E} K hs hf q=>?_⟩⟩;unfold wO at hf
 split at hf
 ·rename_i xs hd;obtain⟨y,hy,hf⟩:=zM hf;cases y with
  |lst ys=>
   change (if xs.length+ys.length<=yK then some (Fl.nx (τ.set io (some (true,.lst (xs++ys)))))else none)=some fl at hf
   by_cases c:xs.length+ys.length<=yK
   ·rw[zK c]at hf;cases hf;obtain⟨aa,ea,g,z,vs,ev,rs,l⟩:=K.ow _ _ hd;refine⟨_,ea,.inl ⟨rfl,vs,yG.of ev⟩,Bq ka hF K hs hy λu G1 H1 x1 r1=>?_⟩;obtain⟨b,zs,rfl,sq,rz,_⟩:=r1;refine⟨aa,b,vs,zs,rfl,rfl,x1.h _ _ ev,v8 x1.gh sq,by rw[rs.length,rz.length,w8]; exact c,?_⟩;refine q _ _ _ ((K.go x1).mut hd ea ⟨_,xJ,(rs.mono x1.g).append rz,?_⟩);rw[w8,yD]; exact c
   ·rw[zL c]at hf;cases hf
  |_=>cases hf
 ·cases hf
theorem NO(hr:xX j X.A)(hx:PE X (.Name x xp) (vf i))(hN:X.N.Nodup)(hy:X.N[iy]?=some y)(hl:uN X.env.scope y)(ha:SA X (e::es) fs)(hrest:uR X yj g)(he:(e::es).all xM=true:=by rfl)(hs:kS (.Call (.Name x xp) (e::es) [] p2)=true:=by rfl)(hf:X.fn y=true\/X.env.scope.names.lookup y=some .local:=by first|exact .inl rfl|exact .inr rfl|assumption) :
  ∃t,vR X (.Assign [.Name y pos'] (.Call (.Name x xp) (e::es) [] p2) pos::yj) t/\∀f F,gr X j f F->BX X i t f (zI (zb iy (zW F fs)) g):=by
 obtain⟨ta,pa,ka⟩:=ha.h;obtain⟨tr,pr,kr⟩:=hrest.h;refine⟨_,Tx (T_ hN hy hl ⟨Eo hr hx pa he⟩ hs hf).h pr,λf F hF=>⟨λ{G0 H0 G H τ σ fl E} K hs hf q=>?_⟩⟩;obtain⟨f1,h1,hf⟩:=zM hf;obtain⟨d,hd,h1⟩:=zM h1;cases h1;exact Bq ka hF K hs hd λv G' H' x r=>kr ((K.go x).set (yM.mp hy).1 r) hf q
theorem HJ{a:Addr}{fs:List Addr}{gs:List FS}(hp:PassesOwn (model X.prog X.w) X.A X.env X.xe)(hc:X.calm=true)(hgl:PE X (.Name gn gp) (tC (.ref a)))(hT:∀H,xE X.K H a (fs.map V.ref))(hg:QG X (.Name x xp) (vL i))(hi:X.N[i]?=some x)(hb:vR X body t)(hB:qq X i t fs gs)
  (hs:∀x,foldedSetIterable (.Name gn gp) X.env x=pure x:=by intro _; rfl):SS X (.For (.Name x xp) (.Name gn gp) body [] pos) (vq i gs):=by
 refine⟨⟨_,Ow hp hc (Es hgl) hg.h hb hs,λ{G0 H0 G H τ σ fl E} K hf q=>?_⟩⟩;refine⟨a,rfl,⟨_,hT H⟩,?_⟩;have gl:=hB.len;refine⟨λk m σ H=>m=gs.length-k/\k<=gs.length/\∃τ G,zg X.K X.N.length G0 H0 G H τ σ/\vq i (gs.drop k) τ=some fl,⟨gs.length,rfl,xb _,τ,G,K,hf⟩,?_⟩;rintro k m σ H ⟨rfl,hle,τ,G,K,hf⟩;by_cases hlt:k<gs.length
 ·have hfk:fs[k]?=some (fs[k]'(by omega)):=yZ (by omega);generalize (fs[k]'(by omega))=f at hfk;have hk:(fs.map V.ref)[k]?=some (V.ref f):=by rw[xC,hfk]; rfl
  refine .inr ⟨⟨_,_,hT H,hk⟩,λσ' H'=>∃τ G,zg X.K X.N.length G0 H0 G H' τ σ'/\vq i (gs.drop (k+1)) τ=some fl,λσ' H' z=>⟨gs.length-(k+1),by omega,rfl,hlt,z⟩,λv H' y=>?_⟩;obtain⟨rfl,y⟩:=y;have e:=y _ (hT _);rw[hk]at e;cases e;obtain⟨g,eg,B⟩:=hB.get hfk;rw[VN hlt]at hf;rw[yZ hlt]at eg;cases eg;obtain⟨f1,h2,hf⟩:=zM (show(gs[k] (τ.set i none)).bind _=_ from hf);have in_:i<X.N.length:=(yM.mp hi).1;refine B.h (K.lose (i:=i) (.ref f)) (pB (by rw[K.l1]; exact in_)) h2 ?_;cases f1 with
  |nx τ2=>exact λσ2 G2 H2 K2=>⟨τ2,G2,K2,hf⟩
  |ct τ2=>exact λσ2 G2 H2 K2=>⟨τ2,G2,K2,hf⟩
  |bk τ2=>cases hf; exact q
  |rt o d=>cases hf; exact vk.with q (λ_ z=>nomatch z) (λ_ z=>nomatch z) (λ_ z=>nomatch z) rfl
 ·have e:gs.drop k=[]:=Qo (by omega);rw[e]at hf;cases hf;exact .inl ⟨⟨_,hT H,by rw[zj]; omega⟩,q _ _ _ K⟩
end
def XI(K:W.Frag)(mg:Str->Option Value)(A:Addr)(names:List Str):Prop:=∃fs:List Addr,(∀H,xE K H A (fs.map V.ref))/\names.map mg=fs.map λf=>some (.ref f)
inductive uA(X:Cx)(j:Nat):List Str->List (List D->Option (Bool×D))->Prop
 |nil:uA X j [] []
 |cons {n:Str} {ns:List Str} {F:List D->Option (Bool×D)} {Fs:List (List D->Option (Bool×D))} {ps:List Str} {k:Nat} (h:zU X.prog X.w X.K X.mg X.base n ps k (zV X.K F)) (r:uA X j ns Fs) (hk:k<=j:=by decide):uA X j (n::ns) (F::Fs)
section
variable{X:Cx}{x y o gn:Str}{e:Expr}{es:List Expr}{fs:FA}{p p2 pos pos' xp xp2 gp op apos cpos:Pos}{i io iy j:Nat}{yj:List Stmt}{g:FS}{a:Addr}{names:List Str}{Fs:List (List D->Option (Bool×D))}{gs:List FS}
theorem Ja{t:TS}{G:(List D->Option (Bool×D))->FS}(hB:∀f F,gr X j f F->BX X i t f (G F)):∀{names:List Str}{Fs:List (List D->Option (Bool×D))} {as:List Addr},uA X j names Fs->names.map X.mg=as.map (λf=>some (.ref f))->qq X i t as (Fs.map G)
 |_,_,[],.nil,_=>.nil
 |_,_,_::_,.nil,h=>by cases h
 |_,_,[],.cons _ _ _,h=>by cases h
 |_,_,f::as,.cons hh r hk,h=>by
  rw[xT,xT]at h;injection h with h1 h2
  exact .cons (hB _ _ (gr.of hh h1 hk)) (Ja hB r h2)
theorem lX(hp:PassesOwn (model X.prog X.w) X.A X.env X.xe)(hc:X.calm=true)(hG:yn X.mg gn (.ref a))(hgl:Gl X gn)(hT:XI X.K X.mg a names)(hL:uA X j names Fs)(hr:xX j X.A)(hg:QG X (.Name x xp) (vL i))(hi:X.N[i]?=some x)(hx:QE X (.Name x xp2) (vf i))(ho:QE X (.Name o op) (vf io))(ha:SA X (e::es) fs)
  (hgs:gs=Fs.map λF=>wO io (zW F fs))(hdb:(gn==("__debug__" : Str))=false:=by decide)(he:(e::es).all xM=true:=by rfl)(hbase:attributeBase (.Name o op) "extend" X.env (eval (.Name o op) X.env)=eval (.Name o op) X.env:=by rfl)(hline:(apos.endLine==cpos.line)=true:=by rfl)(hs:∀x,foldedSetIterable (.Name gn gp) X.env x=pure x:=by intro _; rfl) :
  SS X (.For (.Name x xp) (.Name gn gp) [.Expr (.Call (.Attribute (.Name o op) "extend" apos) [.Call (.Name x xp2) (e::es) [] p2] [] cpos) pos'] [] pos) (vq i gs):=by
 subst hgs;obtain⟨t,pt,hB⟩:=NM (p2:=p2) (pos:=pos') (apos:=apos) (cpos:=cpos) hr hx.h ho ha he hbase hline;obtain⟨as,h1,h2⟩:=hT;exact HJ hp hc (YB hG hgl hdb) h1 hg hi pt (Ja hB hL h2) hs
theorem lY(hp:PassesOwn (model X.prog X.w) X.A X.env X.xe)(hc:X.calm=true)(hG:yn X.mg gn (.ref a))(hgl:Gl X gn)(hT:XI X.K X.mg a names)(hL:uA X j names Fs)(hr:xX j X.A)(hg:QG X (.Name x xp) (vL i))(hi:X.N[i]?=some x)(hx:QE X (.Name x xp2) (vf i))(hN:X.N.Nodup)(hy:X.N[iy]?=some y)(hl:uN X.env.scope y)(ha:SA X (e::es) fs)(hrest:uR X yj g)
  (hgs:gs=Fs.map λF=>zI (zb iy (zW F fs)) g)(hdb:(gn==("__debug__" : Str))=false:=by decide)(he:(e::es).all xM=true:=by rfl)(hnc:kS (.Call (.Name x xp2) (e::es) [] p2)=true:=by rfl)(hf:X.fn y=true\/X.env.scope.names.lookup y=some .local:=by first|exact .inl rfl|exact .inr rfl|assumption)(hs:∀x,foldedSetIterable (.Name gn gp) X.env x=pure x:=by intro _; rfl) :
  SS X (.For (.Name x xp) (.Name gn gp) (.Assign [.Name y op] (.Call (.Name x xp2) (e::es) [] p2) pos'::yj) [] pos) (vq i gs):=by
 subst hgs;obtain⟨t,pt,hB⟩:=NO (p2:=p2) (pos:=pos') (pos':=op) hr hx.h hN hy hl ha hrest he hnc hf;obtain⟨as,h1,h2⟩:=hT;exact HJ hp hc (YB hG hgl hdb) h1 hg hi pt (Ja hB hL h2) hs
end
section
variable{α:Type}{P:List α->Prop}
theorem Ho(h:P []):∀us:List α,us.length=0->P us
 | [],_=>h
theorem Lv{n:Nat}(h:∀a (r:List α),r.length=n->P (a::r)):∀us:List α,us.length=n+1->P us
 |a::r,e=>h a r (Nat.succ.inj e)
theorem xy(h:∀a,P [a]):∀us:List α,us.length=1->P us:=Lv λa=>Ho (P:=λr=>P (a::r)) (h a)
theorem jT(h:∀a b,P [a,b]):∀us:List α,us.length=2->P us:=Lv λa=>xy (P:=λr=>P (a::r)) (h a)
theorem Yd(h:∀a b c,P [a,b,c]):∀us:List α,us.length=3->P us:=Lv λa=>jT (P:=λr=>P (a::r)) (h a)
end
abbrev yo(x:Str)(st:Stmt)(oc:Value)(od:Option Addr)(sl:Array (Option Value))(kV dc pm:Value)(an:Option Addr)(cd ct:Value):Option Obj:=some ⟨oc,od,.func (W.fnOf x x (Zd st) (p6 st) (yB st) .none kV dc pm an cd ct),sl⟩
section
variable{P:Program}{w:World}{K:W.Frag}{mg:Str->Option Value}{base:Heap}
end
section
variable{X:Cx}{tg iter elt:Expr}{scope:Scope}{cl:List (Str×Addr)}{own:List Str}{pos p1:Pos}{fs:FA}{fg:FG}{f:FE}{tG:TG}{st:Stmt}{sts:List Stmt}{g:FS}{b:FSN}
end
open PyProof
section
variable{X:Cx}{i m:Nat}{x:Str}{es:List Expr}{p pos pos' spos:Pos}
end
def XY:D->D->Option D
 |.lst _,.non=>some (.bl true)
 |.lst xs,.lst ys=>yd (.lst xs) (.lst ys)
 |_,_=>none
def GT(K:W.Frag):R2:=λx y H Q=>(∃a xs,x=.ref a/\y=.non/\yG K H a xs/\Q (.bl true) H)\/WA K true x y H Q
section
variable{X:Cx}{K:W.Frag}
theorem b5(hu:X.A.units+7<cLine):yT X (compareOp .NotEq) (GT X.K):=by
 intro z8 s σ H x y v u Q I rx ry h;rcases h with⟨a,xs,rfl,rfl,sq,q⟩|h
 ·cases(show v=Value.ref a from rx);cases(show u=Value.none from ry);obtain⟨its,_,hl,_⟩:=I.list sq;exact SeqAt.RcNeAt.list_none hl.isList (by omega) _ _ _ _ ⟨.bl true,H,I,rfl,q⟩
 ·exact vx hu z8 s σ H x y v u Q I rx ry h
theorem aO:tz K (GT K) XY:=λH x y u v d Q rx ry hf=>by
 cases x with
 |lst xs=>
  cases y with
  |non=>
   cases hf;obtain⟨a,vs,rfl,sq,_⟩:=rx;cases(show v=V.non from ry);exact⟨_,rfl,λq=>.inl ⟨a,vs,rfl,rfl,sq,q⟩⟩
  |lst ys=>
   obtain⟨w,e,k⟩:=vv (K:=K) H (.lst xs) (.lst ys) u v d Q rx ry hf;exact⟨w,e,λq=>.inr (k q)⟩
  |_=>cases hf
 |_=>cases hf
end
end L3
namespace L2
open PySem PySem.Spec PyProof PyProof.Rows
end L2
namespace L3
open PySem PySem.Spec PyProof PyProof.Rows L2
end L3
namespace L2
open PySem PySem.Spec PyProof PyProof.Rows
section
variable{X:Cx}{A:Addr}{ks:List Key}{us:List V}{x:Str}{p apos cpos:Pos}
end
end L2
namespace L3
open PySem PySem.Spec PyProof PyProof.Rows L2
end L3
namespace L2
open PySem PySem.Spec PyProof PyProof.Rows
section
variable{X:Cx}{x n:Str}{p pos np hpos tpos:Pos}{e e1 e2:Expr}{es:List Expr}{ta:TA}{te:TE}{tx:TX}{ps:List Str}{j k i:Nat}{sp:Sp}{E:XK}{D:Addr}{suite:List Stmt}{ts:TS}{b₀:Stmt}
end
end L2
namespace L3
open PySem PySem.Spec PyProof PyProof.Rows L2
section
variable{X:Cx}{E:XK}{x:Str}{C:Addr}{st:Stmt}{sts yj:List Stmt}{g:FS}{f:FSX}{ft:FT}{fa:FA}{c e:Expr}{es:List Expr}{np cpos pos ipos:Pos}
end
section
variable{P:Program}{w:World}{K:W.Frag}{mg:Str->Option Value}{base:Heap}
end
section
variable{X:Cx}{iy i j k kb:Nat}{y n x z f g pn:Str}{C D:Addr}{ps:List Str}{F:FX}{B:Str->Option Bool}{fa:FA}{fc:FE}{c e:Expr}{es:List Expr}{yp fp cp ap np gp mp gc bp rp hpos tpos:Pos}
end
end L3
namespace L2
open PySem PySem.Spec PyProof PyProof.Rows
section
variable{prog:Program}{w:World}{A:Around}{E:Value->Shared->Prop}{s:Shared}
end
end L2
namespace L3
open PySem PySem.Spec PyProof PyProof.Rows L2
end L3
local macro_rules
 | `(tactic| simp![$ls,*])=>`(tactic| simp only[L3.shx,Nat.reduceAdd,Nat.reduceSub,Int.reduceLT,Int.reduceLE,Int.reducePow,Int.reduceToNat,Int.reduceAdd,Int.reduceSub,Int.reduceMul,Int.reduceNeg,$ls,*])
namespace L3
open PySem
def Ph:List D:=[(.str "jump"),(.str "when"),(.str "unless")]
def T8:D:=.tup Ph
def Dc:List D:=[(.str "carry"),(.str "nought"),(.str "sign")]
def Xd:D:=.tup Dc
def Pj:List D:=[(.str "high"),(.str "left"),(.str "right"),(.str "add"),(.str "addc"),(.str "sub"),(.str "subc"),(.str "and"),(.str "or"),(.str "xor"),(.str "test"),(.str "store"),(.str "storew")]
def IO:D:=.tup Pj
def Pk:List D:=[(.str "copy"),(.str "load"),(.str "loadw"),(.str "add"),(.str "addc"),(.str "sub"),(.str "subc"),(.str "and"),(.str "or"),(.str "xor"),(.str "test"),(.str "store"),(.str "storew")]
def IP:D:=.tup Pk
def Pi:List D:=[(.str "addc"),(.str "subc")]
def IN:D:=.tup Pi
def Pm:List D:=[(.str "set"),(.str "high"),(.str "copy"),(.str "load"),(.str "loadw"),(.str "add"),(.str "addc"),(.str "sub"),(.str "subc"),(.str "and"),(.str "or"),(.str "xor"),(.str "left"),(.str "right")]
def IR:D:=.tup Pm
def Pn:List D:=[(.str "add"),(.str "addc"),(.str "sub"),(.str "subc"),(.str "test"),(.str "and"),(.str "or"),(.str "xor"),(.str "left"),(.str "right")]
def IS:D:=.tup Pn
def Zm:List (Sum Int Str):=List.map .inr ["label", "set", "high", "copy", "add", "addc", "sub", "subc", "and", "or", "xor", "test", "left", "right", "load", "store", "loadw", "storew", "jump", "when", "unless", "stop"]
def T9:List D:=[(.tup [(.str "name")]),(.tup [(.str "d"),(.str "n")]),(.tup [(.str "d"),(.str "n")]),(.tup [(.str "d"),(.str "s")]),(.tup [(.str "d"),(.str "s")]),(.tup [(.str "d"),(.str "s")]),(.tup [(.str "d"),(.str "s")]),(.tup [(.str "d"),(.str "s")]),(.tup [(.str "d"),(.str "s")]),(.tup [(.str "d"),(.str "s")]),(.tup [(.str "d"),(.str "s")]),(.tup [(.str "d"),(.str "s")]),(.tup [(.str "d"),(.str "n")]),(.tup [(.str "d"),(.str "n")]),(.tup [(.str "d"),(.str "s"),(.str "n")]),(.tup [(.str "d"),(.str "s"),(.str "n")]),(.tup [(.str "d"),(.str "s"),(.str "n")]),(.tup [(.str "d"),(.str "s"),(.str "n")]),(.tup [(.str "name")]),(.tup [(.str "mark"),(.str "name")]),(.tup [(.str "mark"),(.str "name")]),(.tup [])]
def T6:List (Sum Int Str):=List.map .inr ["set", "high", "left", "right", "load", "store", "loadw", "storew"]
def TB:List D:=[(.int 16),(.int 16),(.int 5),(.int 5),(.int 8),(.int 8),(.int 8),(.int 8)]
def Xb:List (Sum Int Str):=List.map .inr ["kind", "d", "s", "mark", "distance"]
def Xe:List D:=[(.tup [(.int 27),(.int 5)]),(.tup [(.int 24),(.int 3)]),(.tup [(.int 21),(.int 3)]),(.tup [(.int 24),(.int 2)]),(.tup [(.int 0),(.int 5)])]
def Pl:List D:=[(.str "add"),(.str "addc"),(.str "sub"),(.str "subc"),(.str "test"),(.str "left"),(.str "right")]
def IQ:D:=.tup Pl
def BR:FS:=
 (zI (yP (tE (e2 (uE λi j=>decide (i<j)) (z7 1) (eL xW (zC (z7 0) zD))))
   (yW (e2 zO (z7 0) (z7 1)))
   yc)
  (yW (eC (.int 0))))
theorem Rb(ns:List Int)(k:Nat):(ns.map D.int)[k]?=(ns[k]?).map D.int:=xC
def XU(ns:List Int)(k:Int):Int:=ns.getD k.toNat 0
def ZQ:List D->Option (Bool×D)
 | [.lst xs,.int k]=>if 0<=k then((xs[k.toNat]?).getD (.int 0) |> λd=>some (false,d))else none
 |_=>none
theorem Nj(ns:List Int){k:Int}(h:0<=k):ZQ [.lst (ns.map D.int),.int k]=some (false,.int (XU ns k)):=by
 show(if 0<=k then _ else _)=_;rw[zK h,Rb];unfold XU;rw[x_];cases ns[k.toNat]?<;>rfl
theorem d_:∀ds r,ZQ ds=some r->ds.length=2/\zh 2 BR ds=some r:=λds r h=>by
 unfold ZQ at h
 split at h
 ·rename_i xs k;refine⟨rfl,?_⟩;by_cases h0:0<=k
  ·rw[zK h0]at h;cases h;unfold BR;by_cases c:k<(xs.length:Int)
   ·have e:zO (.lst xs) (.int k)=some ((xs[k.toNat]?).getD (.int 0)):=by
     show vm xs k=_;unfold vm;rw[zK h0,yZ (by omega)];rfl
    simp![xD c,e]
   ·have e:xs[k.toNat]?=none:=wo (by omega);simp![yy c,e,Option.getD]
  ·rw[zL h0]at h;cases h
 ·cases h
def lt(k:Int):Str:=⟨#[97+k.toNat]⟩
theorem Ku{k:Int}(h0:0<=k)(h1:k<26):vm ("abcdefghijklmnopqrstuvwxyz" : Str).cps.toList k=some (97+k.toNat):=by
 have h:∀j:Fin 26,vm ("abcdefghijklmnopqrstuvwxyz" : Str).cps.toList (j.val:Int)=some (97+j.val):=by decide +kernel
 have:=h ⟨k.toNat,by omega⟩;rw[show((⟨k.toNat,by omega⟩:Fin 26).val:Int)=k by show(k.toNat:Int)=k; omega]at this;exact this
theorem JO{k:Int}(h0:0<=k)(h1:k<26):zO (.str "abcdefghijklmnopqrstuvwxyz") (.int k)=some (.str (lt k)):=by
 show(vm _ k).bind _=_;rw[Ku h0 h1];rfl
theorem add_str{a b:Str}(h:a.length+b.length<=100000):xS (.str a) (.str b)=some (.str (a++b)):=by
 show(if a.length+b.length<=yK then _ else _)=_;rw[zK (by show _<=16777216; omega)]
theorem Xs(a b:Str):(a++b).length=a.length+b.length:=MR
theorem Y3(k:Int):(lt k).length=1:=rfl
theorem Kv:((("abcdefghijklmnopqrstuvwxyz" : Str).length:Nat):Int)=26:=by decide +kernel
theorem OK(k:Int)(s:Str):(lt k++s).length=1+s.length:=by rw[Xs,Y3]
theorem jI{g:FG}{c:FT}{e:FE}{σ:zi}(p:D->Bool)(v:D->D):∀{ds:List D},(∀d∈ds,∃σ1,g d σ=some σ1/\c σ1=some (p d)/\(p d=true->e σ1=some (v d)))->wU g c e σ ds=some ((ds.filter p).map v)
 | [],_=>rfl
 |d::ds,h=>by
  obtain⟨σ1,e1,e2,e3⟩:=h d (yF ..);have ih:=jI p v (ds:=ds) λx hx=>h x (yX _ hx)
  show(g d σ).bind _=_;rw[e1];show(c σ1).bind _=_;rw[e2];cases hp:p d with
  |false=>
   rw[vZ (by rw[hp]; decide)];exact ih
  |true=>
   rw[vh hp];show(e σ1).bind _=_;rw[e3 hp];show(wU g c e σ ds).bind _=_;rw[ih];rfl
theorem g6{g:FG}{e:FE}{σ:zi}(v:D->D){ds:List D}(h:∀d∈ds,∃σ1,g d σ=some σ1/\e σ1=some (v d)):wU g xw e σ ds=some (ds.map v):=by
 have:=jI (g:=g) (c:=xw) (e:=e) (σ:=σ) (λ_=>true) v (ds:=ds) λd hd=>by
  obtain⟨σ1,a,b⟩:=h d hd;exact⟨σ1,a,rfl,λ_=>b⟩
 rw[this,Ma.mpr (λ_ _=>rfl)]
inductive py(R:D->D->Prop):List D->List D->Prop
 |nil:py R [] []
 |cons {x y:D} {xs ys:List D}:R x y->py R xs ys->py R (x::xs) (y::ys)
theorem OF{g:FG}{e:FE}{σ:zi}(R:D->D->Prop):∀{ds:List D},(∀d∈ds,∃σ1 x,g d σ=some σ1/\e σ1=some x/\R d x)->∃xs,wU g xw e σ ds=some xs/\py R ds xs
 | [],_=>⟨[],rfl,.nil⟩
 |d::ds,h=>by
  obtain⟨σ1,x,e1,e2,r⟩:=h d (yF ..);obtain⟨xs,ih,rs⟩:=OF R (ds:=ds) λx hx=>h x (yX _ hx)
  refine⟨x::xs,?_,.cons r rs⟩;show(g d σ).bind _=_;rw[e1];show(e σ1).bind _=_;rw[e2];show(wU g xw e σ ds).bind _=_;rw[ih];rfl
theorem VG{n i:Nat}{d:D}(h:(ww n)[i]?=some d):i<n/\d=.int (i:Int):=by
 have hi:i<n:=by
  have:=(yM.mp h).1;simpa using this
 refine⟨hi,?_⟩;simp[hi]at h;exact h.symm
theorem Ls{n:Nat}{d:D}(h:d∈ww n):∃i:Nat,i<n/\d=.int (i:Int):=by
 obtain⟨i,hi,e⟩:=VP h;exact⟨i,(VG (yM.mpr ⟨hi,e⟩))⟩
theorem Z2(n:Nat):(ww n).length=n:=by simp
theorem tJ{α:Type}{xs:List α}{i:Int}{a:α}(h0:0<=i)(h:xs[i.toNat]?=some a):vm xs i=some a:=by
 unfold vm;rw[zK h0,h]
def qH:Nat->D->Bool
 |0,_=>false
 |n+1,.tup xs=>xs.all (qH n)
 |n+1,.lst xs=>xs.all (qH n)
 |_+1,d=>xF d
theorem Jb{f:D->D->Bool}:∀{xs:List D},(∀x∈xs,f x x=true)->uU f xs xs=true
 | [],_=>rfl
 |x::xs,h=>by
  show(f x x&&uU f xs xs)=true;rw[h x (yF ..),Jb λy hy=>h y (yX _ hy)];rfl
theorem Jd:∀{xs:List D},(∀x∈xs,zk x x=true)->dEqs xs xs=true
 | [],_=>by unfold dEqs; rfl
 |x::xs,h=>by
  unfold dEqs;rw[h x (yF ..),Jd λy hy=>h y (yX _ hy)];rfl
theorem X_:∀(n:Nat)(d:D),qH n d=true->wb n d d=true/\zk d d=true
 |0,_,h=>by cases h
 |n+1,d,h=>by
  cases d with
  |tup xs=>
   have h':∀x∈xs,qH n x=true:=wm.mp h;exact⟨Jb λx hx=>(X_ n x (h' x hx)).1,by unfold zk; exact Jd λx hx=>(X_ n x (h' x hx)).2⟩
  |lst xs=>
   have h':∀x∈xs,qH n x=true:=wm.mp h;exact⟨Jb λx hx=>(X_ n x (h' x hx)).1,by unfold zk; exact Jd λx hx=>(X_ n x (h' x hx)).2⟩
  |dic ks vs=>cases h
  |non=>exact⟨rfl,by unfold zk; rfl⟩
  |bl b=>exact⟨rfl,by unfold zk; exact jX b⟩
  |int i=>exact⟨rfl,by unfold zk; exact jX i⟩
  |str z=>exact⟨rfl,by unfold zk; exact jX z⟩
theorem DQ{d:D}(h:qH 6 d=true):p8 d d=some true:=by
 obtain⟨h1,h2⟩:=X_ 6 d h
 have e:p8 d d=match wb 6 d d with
  |true=>some (zk d d)
  |false=>none:=by cases d<;>rfl
 rw[e,h1,h2]
theorem PH{d:D}(h:qH 6 d=true):zu d d=some (.bl true):=by
 unfold zu;rw[DQ h];rfl
theorem Ti{d:D}(h:qH 6 d=true):yd d d=some (.bl false):=by
 unfold yd;rw[DQ h];rfl
theorem Xh{i j:Int}(h:i=j):zu (.int i) (.int j)=some (.bl true):=by
 subst h;show some (D.bl (i==i))=_;rw[jX]
theorem Xi{i j:Int}(h:i≠j):zu (.int i) (.int j)=some (.bl false):=by
 show some (D.bl (i==j))=_;rw[pT.mpr h]
theorem add_int{i j:Int}:xS (.int i) (.int j)=some (.int (i+j)):=rfl
theorem HU:∀ts:List Str,kz (ts.map D.str)=some ts
 | []=>rfl
 |t::ts=>by
  show(kz (ts.map D.str)).bind _=_;rw[HU ts];rfl
theorem Rt{sep:Str}{ts:List Str}(h:(ts.map (·.length)).sum+ts.length*sep.length<=1000000):Js (.str sep) (.lst (ts.map D.str))=some (.str (Builtin.Str.glued sep ts)):=by
 show(kz (ts.map D.str)).bind _=_;rw[HU];show(if _<=yK then _ else _)=_;rw[zK (by show _<=16777216; omega)]
theorem cut_len(z:Str)(lo hi:Option Int):(L2.cutS z lo hi).length<=z.length:=by
 show((z.cps.toList.drop _).take _).toArray.size<=z.cps.size;simp only[ya,tY,ZB,wy];omega
theorem Db{α:Type}{k:Sum Int Str}{v:α}:∀{ks:List (Sum Int Str)} {vs:List α},ks.length=vs.length->∀k',getK (wN ks k) (wV ks vs k v) k'=if k=k' then some v else getK ks vs k':=by
 have one:∀{ks:List (Sum Int Str)} {vs:List α},ks.length=vs.length->∀k',yY ks k=true->getK ks (List.zipWith (λk' x=>if k'=k then v else x) ks vs) k'=if k=k' then some v else getK ks vs k':=by
  intro ks
  induction ks with
  |nil=>intro vs _ k' h; cases h
  |cons a ks ih=>
   intro vs hl k' h;cases vs with
   |nil=>cases hl
   |cons b vs=>
    rw[Qs];unfold getK;by_cases e1:a=k
    ·subst e1;by_cases e2:a=k'
     ·rw[zK e2,zK e2,zK rfl]
     ·rw[zL e2,zL e2,zL e2];by_cases e3:yY ks a=true
      ·have:=ih (vs:=vs) (by simpa using hl) k' e3;rw[this,zL e2]
      ·have:∀{ks:List (Sum Int Str)} {vs:List α},ks.length=vs.length->yY ks a=false->getK ks (List.zipWith (λk' x=>if k'=a then v else x) ks vs) k'=getK ks vs k':=by
        intro ks
        induction ks with
        |nil=>intro vs _ _; rfl
        |cons a' ks ih'=>
         intro vs hl h;cases vs with
         |nil=>cases hl
         |cons b vs=>
          have h2:decide (a'=a)=false/\yY ks a=false:=by
           have:(decide (a'=a)||yY ks a)=false:=h;exact Bool.or_eq_false_iff.mp this
          rw[Qs];unfold getK;rw[zL (of_decide_eq_false h2.1),ih' (by simpa using hl) h2.2]
       exact this (by simpa using hl) (by simpa using e3)
    ·have h2:yY ks k=true:=by
      have:(decide (a=k)||yY ks k)=true:=h;rw[yy e1]at this;exact this
     have:=ih (vs:=vs) (by simpa using hl) k' h2;rw[this,zL e1];by_cases e2:a=k'
     ·rw[zK e2];rw[zL (λe=>e1 (e2.trans e.symm)),zK e2]
     ·rw[zL e2];by_cases e3:k=k'
      ·rw[zK e3,zK e3]
      ·rw[zL e3,zL e3,zL e2]
 intro ks vs hl k';unfold wN wV;by_cases h:yY ks k=true
 ·rw[zK h,zK h];exact one hl k' h
 ·rw[zL h,zL h];clear one
  induction ks generalizing vs with
  |nil=>
   cases vs with
   |nil=>rfl
   |cons _ _=>cases hl
  |cons a ks ih=>
   cases vs with
   |nil=>cases hl
   |cons b vs=>
    have h2:¬ a=k/\¬ yY ks k=true:=by
     have:¬ (decide (a=k)||yY ks k)=true:=h
     constructor
     ·intro e; exact this (by rw[xD e]; rfl)
     ·intro e; exact this (by rw[e,Bool.or_true])
    rw[Z8,Z8];show(if a=k' then some b else getK (ks++[k]) (vs++[v]) k')=if k=k' then some v else if a=k' then some b else getK ks vs k'
    rw[ih (by simpa using hl) h2.2];by_cases e:a=k'
    ·rw[zK e,zK e];rw[zL (λe'=>h2.1 (e.trans e'.symm))]
    ·rw[zL e,zL e]
theorem Dk{k:Sum Int Str}{ks:List (Sum Int Str)}(k':Sum Int Str):yY (wN ks k) k'=(yY ks k'||decide (k=k')):=by
 unfold wN;by_cases h:yY ks k=true
 ·rw[zK h];by_cases e:k=k'
  ·subst e; rw[h]; rfl
  ·rw[yy e,Yj]
 ·rw[zL h];unfold yY;rw[List.any_append];simp
theorem Iz{α:Type}:∀{ks:List (Sum Int Str)} {us:List α} {as:List (Sum Int Str)} {vs:List α},ks.length=us.length->∀k,yY (xO as vs ks us).1 k=(yY as k||yY ks k)
 | [],us,as,vs,_,k=>by
  show yY as k=(yY as k||false);rw[Yj]
 |a::ks,[],_,_,h,_=>by cases h
 |a::ks,u::us,as,vs,h,k=>by
  show yY (xO (wN as a) (wV as vs a u) ks us).1 k=_;rw[Iz (by simpa using h),Dk];show _=(yY as k||(decide (a=k)||yY ks k));rw[Bool.or_assoc]
theorem Tg(xs:List D):yd (.lst xs) (.lst [])=some (.bl (!xs.isEmpty)):=by
 cases xs with
 |nil=>exact Ti (d:=.lst []) rfl
 |cons x r=>
  have e:zk (.lst (x::r)) (.lst [])=false:=by unfold zk; unfold dEqs; rfl
  show(some (zk (.lst (x::r)) (.lst []))).bind _=_;rw[e];rfl
theorem JU:∀(n:Nat){l:List Nat},l.Nodup->(∀x∈l,x<n)->l.length<=n
 |0,l,_,h=>by
  cases l with
  |nil=>exact zt _
  |cons x r=>exact absurd (h x (yF ..)) (VV _)
 |n+1,l,hd,h=>by
  by_cases hm:n∈l
  ·have h1:=JU n (hd.erase n) λx hx=>by
    have:=(hd.mem_erase_iff).mp hx;have:=h x this.2;omega
   rw[List.length_erase_of_mem hm]at h1;omega
  ·have h1:=JU n hd λx hx=>by
    have h2:=h x hx;have h3:x≠n:=λe=>hm (e▸hx)
    omega
   omega
theorem Th{x y:D}{b:Bool}(h:zu x y=some (.bl b)):yd x y=some (.bl (!b)):=by
 unfold zu at h;unfold yd;cases e:p8 x y with
 |none=>rw[e]at h; cases h
 |some k=>
  rw[e]at h;cases h;rfl
theorem ND{i:Int}{m:Nat}(h:wR i<=m):i.natAbs<2 ^ m:=by
 by_cases c:i=0
 ·subst c;exact Nat.pow_pos (by decide)
 ·have e:wR i=i.natAbs.log2+1:=by
   show(if(i==0)=true then 0 else i.natAbs.log2+1)=_;rw[zL (by simpa using c)]
  exact(Mp (by omega)).mp (by omega)
theorem NC{i:Int}{m:Nat}(h:i.natAbs<2 ^ m):wR i<=m:=by
 by_cases c:i=0
 ·subst c;exact xb _
 ·have e:wR i=i.natAbs.log2+1:=by
   show(if(i==0)=true then 0 else i.natAbs.log2+1)=_;rw[zL (by simpa using c)]
  rw[e];exact(Mp (by omega)).mpr h
theorem Ni{ns:List Int}{M:Nat}(hb:∀m∈ns,wR m<=M)(k:Int):wR (XU ns k)<=M:=by
 unfold XU;rw[x_];cases e:ns[k.toNat]? with
 |none=>exact xb _
 |some m=>exact hb m (wK e)
def UQ:FS:=
 (zI (zb 2 (e2 xS (e2 xS (e2 xS (e2 T2 (zW ZQ (zC (z7 0) (zC (z7 1) zD))) (eC (.int 48271))) (e2 U_ (eC (.int 104729)) (z7 1))) (e2 U_ (eC (.int 7919)) (eL xW (zC (z7 0) zD)))) (eC (.int 1))))
  (yW (e2 xN (e2 T2 (e2 xN (e2 Jv (z7 2) (z7 2)) (eC (.int 2147483647))) (eC (.int 2003))) (eC (.int 2147483629)))))
def va:List D->Option (Bool×D):=FR 2 3 UQ
theorem e7:∀ds r,va ds=some r->ds.length=2/\zh 3 UQ ds=some r:=yz
theorem Py(x0 x1:D):va [x0,x1]=zh 3 UQ [x0,x1]:=rfl
theorem Sw{c k l:Int}{M:Nat}(hM:4<=M)(hc:wR c<=M)(k0:0<=k)(k1:k<100)(l0:0<=l)(l1:l<=63):wR (c*48271+104729*k+7919*l+1)<=M+20:=by
 have h1:=ND hc;have h2:2 ^ 4<=2 ^ M:=Kl (by decide) hM;refine NC ?_;rw[Nat.pow_add];generalize 2 ^ M=P at h1 h2;have h3:(2:Nat) ^ 20=1048576:=by decide
 have h4:(2:Nat) ^ 4=16:=by decide
 rw[h3];rw[h4]at h2;omega
theorem Y4{ns:List Int}(hl:ns.length<=63)(hb:∀m∈ns,wR m<=1048576){k:Int}(k0:0<=k)(k1:k<100):∃m:Int,0<=m/\m<2147483629/\va [.lst (ns.map D.int),.int k]=some (false,.int m):=by
 have hc:=Nj ns (k:=k) k0;have cb:=Ni hb k;generalize XU ns k=c at hc cb;have mb:=Sw (M:=1048576) (l:=(ns.length:Int)) (by decide) cb k0 k1 (by omega) (by omega);have g1:decide (wR (c*48271+104729*k+7919*(ns.length:Int)+1)+wR (c*48271+104729*k+7919*(ns.length:Int)+1)<=134217728)=true:=xD (by omega);have g2:g8 48271=true/\g8 104729=true/\g8 7919=true/\g8 2003=true:=⟨by decide,by decide,by decide,by decide⟩;have ai:∀{i j:Int},xS (.int i) (.int j)=some (.int (i+j)):=rfl;refine⟨(c*48271+104729*k+7919*(ns.length:Int)+1)*(c*48271+104729*k+7919*(ns.length:Int)+1)%2147483647*2003%2147483629,Yn _ (by decide),Ym _ (by decide),?_⟩;rw[Py];unfold UQ;simp only[shx,Nat.reduceAdd,Nat.reduceSub,hc,zj,ai,g2,Jv,g1,decide_true,Int.reduceLT]
inductive uP:D->Prop
 |stop:uP (.tup [.str "stop"])
 |gX {w:Str} {d n:Int} (hw:w = "set" \/ w = "high") (d0:0<=d) (d1:d<8) (n0:0<=n) (n1:n<65536):uP (.tup [.str w,.int d,.int n])
 |two {w:Str} {d s:Int} (hw:w = "copy" \/ w = "add" \/ w = "addc" \/ w = "sub" \/ w = "subc" \/ w = "and" \/ w = "or" \/ w = "xor" \/ w = "test") (d0:0<=d) (d1:d<8) (s0:0<=s) (s1:s<8):uP (.tup [.str w,.int d,.int s])
 |gY {w:Str} {d n:Int} (hw:w = "left" \/ w = "right") (d0:0<=d) (d1:d<8) (n0:0<=n) (n1:n<32):uP (.tup [.str w,.int d,.int n])
 |mem {w:Str} {d s n:Int} (hw:w = "load" \/ w = "store" \/ w = "loadw" \/ w = "storew") (d0:0<=d) (d1:d<8) (s0:0<=s) (s1:s<8) (n0:0<=n) (n1:n<256):uP (.tup [.str w,.int d,.int s,.int n])
inductive JE(m:Int):D->Prop
 |wA {p:Int} (p0:0<=p) (p1:p<=m):JE m (.tup [.str "jump",.int p])
 |cond {w k:Str} {p:Int} (hw:w = "when" \/ w = "unless") (hk:k = "carry" \/ k = "nought" \/ k = "sign") (p0:0<=p) (p1:p<=m):JE m (.tup [.str w,.str k,.int p])
def Ks(m:Int)(d:D):Prop:=uP d\/JE m d
theorem D_{a:D}{r:List D}:zO (.tup (a::r)) (.int 0)=some a:=rfl
def yL:D->Bool
 |.tup (.str w::_)=>w == "jump" || w == "when" || w == "unless"
 |_=>false
def Fj:D->D
 |.tup xs=>(vm xs (-1)).getD .non
 |_=>.non
def Ru:D:=.tup [.str "jump",.str "when",.str "unless"]
theorem gA{d:D}(h:uP d):∃w,zO d (.int 0)=some (.str w)/\yb (.str w) Ru=some (.bl false)/\zu (.str w) (.str "label")=some (.bl false)/\yL d=false/\qH 5 d=true:=by
 cases h with
 |stop=>exact⟨_,rfl,rfl,rfl,rfl,rfl⟩
 |gX hw=>rcases hw with rfl|rfl<;>exact⟨_,rfl,rfl,rfl,rfl,rfl⟩
 |two hw=>rcases hw with rfl|rfl|rfl|rfl|rfl|rfl|rfl|rfl|rfl<;>exact⟨_,rfl,rfl,rfl,rfl,rfl⟩
 |gY hw=>rcases hw with rfl|rfl<;>exact⟨_,rfl,rfl,rfl,rfl,rfl⟩
 |mem hw=>rcases hw with rfl|rfl|rfl|rfl<;>exact⟨_,rfl,rfl,rfl,rfl,rfl⟩
def zS:D->Bool
 |.tup (.str w::_)=>w == "label"
 |_=>false
def xG(t:Str):D:=.tup [.str "label",.str t]
theorem Q5{m:Int}{d:D}(h:Ks m d):∃w,zO d (.int 0)=some (.str w)/\zu (.str w) (.str "label")=some (.bl false)/\zS d=false/\qH 5 d=true:=by
 rcases h with h|h
 ·cases h with
  |stop=>exact⟨_,rfl,rfl,rfl,rfl⟩
  |gX hw=>rcases hw with rfl|rfl<;>exact⟨_,rfl,rfl,rfl,rfl⟩
  |two hw=>rcases hw with rfl|rfl|rfl|rfl|rfl|rfl|rfl|rfl|rfl<;>exact⟨_,rfl,rfl,rfl,rfl⟩
  |gY hw=>rcases hw with rfl|rfl<;>exact⟨_,rfl,rfl,rfl,rfl⟩
  |mem hw=>rcases hw with rfl|rfl|rfl|rfl<;>exact⟨_,rfl,rfl,rfl,rfl⟩
 ·cases h with
  |wA=>exact⟨_,rfl,rfl,rfl,rfl⟩
  |cond hw hk=>rcases hw with rfl|rfl<;>rcases hk with rfl|rfl|rfl<;>exact⟨_,rfl,rfl,rfl,rfl⟩
def Xx(t:Str):D->Bool
 |.tup [_,.str u]=>u==t
 |_=>false
def vU(t:Str)(s:Nat×Option Nat)(d:D):Nat×Option Nat:=match zS d with
 |true=>(s.1,match Xx t d with
  |true=>some s.1
  |false=>s.2)
 |false=>(s.1+1,s.2)
def xH(t:Str)(L:List D):Nat×Option Nat:=L.foldl (vU t) (0,none)
theorem Ez(t:Str)(L:List D)(d:D):xH t (L++[d])=vU t (xH t L) d:=by
 unfold xH;rw[Mb];rfl
theorem Tv(t:Str):∀(L:List D)(s:Nat×Option Nat),(L.foldl (vU t) s).1=s.1+(L.filter λd=>!zS d).length
 | [],_=>rfl
 |d::L,s=>by
  rw[vB,Tv t L];unfold vU;cases h:zS d with
  |true=>rw[vZ (by rw[h]; decide)]
  |false=>
   rw[vh (by rw[h]; rfl),xK];show s.1+1+_=_;omega
theorem Os(t u:Str)(L:List D):(xH t (L++[xG u])).2=if u=t then some (L.filter λd=>!zS d).length else(xH t L).2:=by
 rw[Ez];have h:=Tv t L (0,none);show(match(u==t)with|true=>some (xH t L).1|false=>(xH t L).2)=_;by_cases e:u=t
 ·rw[zK e,qN.mpr e];show some (xH t L).1=_;rw[show(xH t L).1=_ from h,xn]
 ·rw[zL e,pT.mpr e]
theorem Ou{t:Str}{L:List D}{d:D}(h:zS d=false):(xH t (L++[d])).2=(xH t L).2:=by
 rw[Ez];unfold vU;rw[h]
theorem j7{L:List D}{r:D}(h:L.length<=1000):vE (.lst L) r=some (.lst (L++[r])):=by
 show(if L.length<yK then _ else _)=_;rw[zK (by show _<16777216; omega)]
inductive yO:D->Prop
 |label (t:Str):yO (xG t)
 |plain {d:D}:uP d->yO d
 |wA (t:Str):yO (.tup [.str "jump",.str t])
 |cond {w k:Str} (t:Str) (hw:w = "when" \/ w = "unless") (hk:k = "carry" \/ k = "nought" \/ k = "sign"):yO (.tup [.str w,.str k,.str t])
theorem Xl{d:D}(h:yO d):∃w,zO d (.int 0)=some (.str w)/\zu (.str w) (.str "label")=some (.bl (zS d))/\qH 5 d=true:=by
 cases h with
 |label=>exact⟨_,rfl,rfl,rfl⟩
 |plain h=>
  obtain⟨w,a,b,c,e⟩:=Q5 (m:=0) (.inl h);exact⟨w,a,by rw[c]; exact b,e⟩
 |wA=>exact⟨_,rfl,rfl,rfl⟩
 |cond t hw hk=>rcases hw with rfl|rfl<;>rcases hk with rfl|rfl|rfl<;>exact⟨_,rfl,rfl,rfl⟩
theorem Dw{x:D}(h:zS x=true):yL x=false:=by
 unfold zS at h
 split at h
 ·rename_i w r;have e:w = "label" := by simpa using h
  subst e;rfl
 ·cases h
theorem DJ{R:D->D->Prop}:∀{xs ys:List D},py R xs ys->xs.length=ys.length
 |_,_,.nil=>rfl
 |_,_,.cons _ r=>by rw[xK,xK,DJ r]
theorem XW{R:D->D->Prop}:∀{xs ys:List D},py R xs ys->∀y∈ys,∃x∈xs,R x y
 |_,_,.nil,_,h=>by cases h
 |x::xs,y::ys,.cons r rs,z,hz=>by
  rcases yI.mp hz with rfl|hz
  ·exact⟨x,yF ..,r⟩
  ·obtain⟨w,hw,h⟩:=XW rs z hz;exact⟨w,yX _ hw,h⟩
theorem DK{R:D->D->Prop}:∀{xs ys:List D},xs.length=ys.length->(∀(i:Nat) x y,xs[i]?=some x->ys[i]?=some y->R x y)->py R xs ys
 | [],[],_,_=>.nil
 | [],_::_,h,_=>by cases h
 |_::_,[],h,_=>by cases h
 |x::xs,y::ys,h,r=>.cons (r 0 x y rfl rfl) (DK (by simpa using h) λi a b ha hb=>r (i+1) a b (by simpa using ha) (by simpa using hb))
inductive t_(N:List Str):D->Prop
 |plain {d:D}:uP d->t_ N d
 |wA {t:Str} (ht:t∈N):t_ N (.tup [.str "jump",.str t])
 |cond {w k t:Str} (hw:w = "when" \/ w = "unless") (hk:k = "carry" \/ k = "nought" \/ k = "sign") (ht:t∈N):t_ N (.tup [.str w,.str k,.str t])
def X9(N:List Str)(d:D):Prop:=t_ N d\/∃t∈N,d=xG t
theorem LG{N:List Str}{d:D}(h:t_ N d):yO d/\zS d=false:=by
 cases h with
 |plain h=>
  obtain⟨_,_,_,l,_⟩:=Q5 (m:=0) (.inl h);exact⟨.plain h,l⟩
 |wA ht=>exact⟨.wA _,rfl⟩
 |cond hw hk ht=>exact⟨.cond _ hw hk,by rcases hw with rfl|rfl<;>rfl⟩
theorem Rj{N:List Str}{d:D}(h:X9 N d):yO d:=by
 rcases h with h|⟨t,_,rfl⟩
 ·exact(LG h).1
 ·exact .label t
def UL:FS:=
 (yW (e2 zu (e2 zO (z7 0) (eC (.int 0))) (eC (.str "label"))))
def tq:List D->Option (Bool×D):=FR 1 1 UL
theorem dk:∀ds r,tq ds=some r->ds.length=1/\zh 1 UL ds=some r:=yz
theorem Pt(x0:D):tq [x0]=zh 1 UL [x0]:=rfl
def H_:FE:=(z7 1)
def ML:FT:=(pL (tE (zW tq (zC (z7 1) zD))))
def Uh:FS:=
 (v6 (xr 1 (v0 (z7 0)) (zz 1) ML H_))
def wB:List D->Option (Bool×D):=FR 1 1 Uh
theorem eX:∀ds r,wB ds=some r->ds.length=1/\zh 1 Uh ds=some r:=yz
theorem RE(x0:D):wB [x0]=zh 1 Uh [x0]:=rfl
theorem TM{d:D}(h:yO d):tq [d]=some (false,.bl (zS d)):=by
 obtain⟨w,a,b,_⟩:=Xl h;rw[Pt];unfold UL;simp![a,b]
theorem gE{z6:List D}(h:∀d∈z6,yO d):wB [.lst z6]=some (true,.lst (z6.filter λd=>!zS d)):=by
 have e:=jI (g:=zz 1) (c:=ML) (e:=H_) (σ:=[some (false,.lst z6),none]) (λd=>!zS d) id (ds:=z6) λd hd=>by
  have hf:=TM (h d hd);refine⟨_,rfl,?_,λ_=>rfl⟩;unfold ML;simp![hf]
 rw[Yu]at e;rw[RE];unfold Uh;simp![e]
def UK:FS:=
 (yW (e2 yb (e2 zO (z7 0) (eC (.int 0))) (eC T8)))
def tm:List D->Option (Bool×D):=FR 1 1 UK
theorem dj:∀ds r,tm ds=some r->ds.length=1/\zh 1 UK ds=some r:=yz
theorem Ps(x0:D):tm [x0]=zh 1 UK [x0]:=rfl
def TR:FS:=(yP (tE (zW tq (zC (z7 3) zD)))
     (kn 1 (e2 zO (z7 3) (eC (.int 1))) (z7 2))
     (zb 2 (e2 (vb λi j=>i+j) (z7 2) (eC (.int 1)))))
def UN:FS:=
 (zI (vX 1 (eC (.dic [] [])))
  (zI (zb 2 (eC (.int 0)))
  (zI (gF (v0 (z7 0)) (zz 3)
   TR)
  (jP 1))))
def qP:List D->Option (Bool×D):=FR 1 4 UN
theorem dt:∀ds r,qP ds=some r->ds.length=1/\zh 4 UN ds=some r:=yz
theorem Pv(x0:D):qP [x0]=zh 4 UN [x0]:=rfl
theorem TL{d:D}(h:yO d):tm [d]=some (false,.bl (yL d)):=by
 have:∃w,zO d (.int 0)=some (.str w)/\yb (.str w) T8=some (.bl (yL d)):=by
  cases h with
  |label=>exact⟨_,rfl,rfl⟩
  |plain h=>
   obtain⟨w,a,b,_,c,_⟩:=gA h;exact⟨w,a,by rw[c]; exact b⟩
  |wA=>exact⟨_,rfl,rfl⟩
  |cond t hw hk=>rcases hw with rfl|rfl<;>exact⟨_,rfl,rfl⟩
 obtain⟨w,a,b⟩:=this;rw[Ps];unfold UK;simp![a,b]
theorem kK{d:D}(h:yO d)(hl:zS d=true):∃t,d=xG t:=by
 cases h with
 |label t=>exact⟨t,rfl⟩
 |plain h=>
  obtain⟨_,_,_,z,_⟩:=Q5 (m:=0) (.inl h);rw[z]at hl;cases hl
 |wA=>cases hl
 |cond t hw hk=>rcases hw with rfl|rfl<;>cases hl
theorem Fg{z6:List D}(h:∀d∈z6,yO d)(hl:z6.length<=1000):∃ks vs,qP [.lst z6]=some (true,.dic ks vs)/\ks.length=vs.length/\∀t,getK ks vs (.inr t)=((xH t z6).2).map λn:Nat=>D.int n:=by
 obtain⟨σ',e,ks,vs,x3,a1,a2,a3,rfl⟩:=kP (g:=zz 3) (b:=TR) (λi σ=>∃ks vs x3,ks.length=vs.length/\ks.length<=i/\(∀t,getK ks vs (.inr t)=((xH t (z6.take i)).2).map λn:Nat=>D.int n)/\σ=[some (false,.lst z6),some (true,.dic ks vs),some (false,.int (((z6.take i).filter λd=>!zS d).length:Nat)),x3]) (ds:=z6)
  (σ:=[some (false,.lst z6),some (true,.dic [] []),some (false,.int 0),none]) 0 ⟨[],[],none,rfl,zt _,λt=>rfl,rfl⟩ (by
  rintro i v σ hv ⟨ks,vs,x3,a1,a2,a3,rfl⟩;rw[xn]at *;have hi:i<z6.length:=(yM.mp hv).1;have ev:z6[i]=v:=(yM.mp hv).2;have ht:z6.take (i+1)=z6.take i++[v]:=by rw[Yv hi,ev]
  have hI:=h v (wK hv);have hf:=TM hI;generalize hn:((z6.take i).filter λd=>!zS d).length=n;cases hL:zS v with
  |true=>
   obtain⟨u,rfl⟩:=kK hI hL;rw[hL]at hf;have i1:zO (xG u) (.int 1)=some (.str u):=rfl;have kd:qE (.str u)=some (.inr u):=rfl;have hlim:ks.length<yK:=by show _<16777216; omega
   have hn2:((z6.take (i+1)).filter λd=>!zS d).length=n:=by
    rw[ht,uc,yD,hn];rfl
   have hlk:(wN ks (.inr u)).length<=i+1:=by
    unfold wN
    split
    ·omega
    ·rw[yD]; show _+1<=_; omega
   refine⟨_,[some (false,.lst z6),some (true,.dic (wN ks (.inr u)) (wV ks vs (.inr u) (.int (n:Nat)))),some (false,.int (n:Nat)),some (false,xG u)],rfl,.inl ?_,wN ks (.inr u),wV ks vs (.inr u) (.int (n:Nat)),_,kX a1,hlk,λt=>?_,by rw[hn2]⟩
   ·unfold TR;simp![hf,kn,i1,kd,zK hlim]
   ·rw[Db a1,ht,Os,hn,a3];by_cases e:u=t
    ·rw[zK (by rw[e]),zK e];rfl
    ·rw[zL (λz=>e (Qx z)),zL e]
  |false=>
   rw[hL]at hf
   have hn2:((z6.take (i+1)).filter λd=>!zS d).length=n+1:=by
    rw[ht,uc,yD,hn,vh (by rw[hL]; rfl)];rfl
   refine⟨_,[some (false,.lst z6),some (true,.dic ks vs),some (false,.int ((n:Nat)+1:Int)),some (false,v)],rfl,.inl ?_,ks,vs,_,a1,by omega,λt=>?_,by rw[hn2]; rfl⟩
   ·unfold TR;simp![hf]
   ·rw[ht,Ou hL,a3])
 rw[xn,ZD]at a3;refine⟨ks,vs,?_,a1,a3⟩;rw[Pv];unfold UN;simp![e]
theorem Ff{z6:List D}(h:∀d∈z6,yO d)(hl:z6.length<=1000):∃ks vs,qP [.lst z6]=some (true,.dic ks vs)/\∀t,getK ks vs (.inr t)=((xH t z6).2).map λn:Nat=>D.int n:=by
 obtain⟨ks,vs,a,_,b⟩:=Fg h hl;exact⟨ks,vs,a,b⟩
def BS:FS:=
 (zI (zb 0 (xY (zC (eC (.str "set")) (zC (eC (.str "high")) (zC (eC (.str "copy")) (zC (eC (.str "add")) (zC (eC (.str "addc")) (zC (eC (.str "sub")) (zC (eC (.str "subc")) (zC (eC (.str "and")) (zC (eC (.str "or")) (zC (eC (.str "xor")) (zC (eC (.str "test")) (zC (eC (.str "left")) (zC (eC (.str "right")) zD)))))))))))))))
  (zI (zb 0 (e2 xS (z7 0) (xY (zC (eC (.str "load")) (zC (eC (.str "store")) (zC (eC (.str "loadw")) (zC (eC (.str "storew")) (zC (eC (.str "jump")) (zC (eC (.str "when")) (zC (eC (.str "unless")) (zC (eC (.str "stop")) zD)))))))))))
  (yW (e2 xS (z7 0) (xY (zC (eC (.str "set")) (zC (eC (.str "copy")) (zC (eC (.str "add")) (zC (eC (.str "when")) (zC (eC (.str "unless")) (zC (eC (.str "test")) (zC (eC (.str "sub")) zD))))))))))))
def ZU:List D->Option (Bool×D):=FR 0 1 BS
theorem eE:∀ds r,ZU ds=some r->ds.length=0/\zh 1 BS ds=some r:=yz
def p5:FS:=
 (zI (zb 3 (e2 zO (zW ZU zD) (e2 xN (z7 0) (eC (.int 28)))))
  (zI (zb 0 (e2 vF (z7 0) (eC (.int 28))))
  (zI (zb 4 (e2 xN (z7 0) (z7 2)))
  (zI (zb 5 (e2 xN (e2 vF (z7 0) (eC (.int 8))) (z7 2)))
  (zI (zb 6 (e2 vF (z7 0) (eC (.int 64))))
  (zI (yP (tE (e2 yb (z7 3) (xt (zC (eC (.str "set")) (zC (eC (.str "high")) zD)))))
   (yW (xt (zC (z7 3) (zC (z7 4) (zC (e2 zO (xY (zC (e2 xN (z7 6) (eC (.int 65536))) (zC (e2 xN (z7 6) (eC (.int 3))) zD))) (e2 xN (e2 vF (z7 0) (eC (.int 32))) (eC (.int 2)))) zD)))))
   yc)
  (zI (yP (tE (e2 yb (z7 3) (xt (zC (eC (.str "left")) (zC (eC (.str "right")) zD)))))
   (yW (xt (zC (z7 3) (zC (z7 4) (zC (e2 zO (xY (zC (e2 xN (z7 6) (eC (.int 32))) (zC (e2 xN (z7 6) (eC (.int 3))) zD))) (e2 xN (e2 vF (z7 0) (eC (.int 32))) (eC (.int 2)))) zD)))))
   yc)
  (zI (yP (tE (e2 yb (z7 3) (xt (zC (eC (.str "load")) (zC (eC (.str "store")) (zC (eC (.str "loadw")) (zC (eC (.str "storew")) zD)))))))
   (yW (xt (zC (z7 3) (zC (z7 4) (zC (z7 5) (zC (e2 zO (xY (zC (e2 xN (z7 6) (eC (.int 256))) (zC (e2 xN (z7 6) (eC (.int 4))) zD))) (e2 xN (e2 vF (z7 0) (eC (.int 32))) (eC (.int 2)))) zD))))))
   yc)
  (zI (yP (tE (e2 zu (z7 3) (eC (.str "jump"))))
   (yW (xt (zC (z7 3) (zC (e2 zO (z7 1) (e2 xN (z7 6) (eL xW (zC (z7 1) zD)))) zD))))
   yc)
  (zI (yP (tE (e2 yb (z7 3) (xt (zC (eC (.str "when")) (zC (eC (.str "unless")) zD)))))
   (yW (xt (zC (z7 3) (zC (e2 zO (xY (zC (eC (.str "carry")) (zC (eC (.str "nought")) (zC (eC (.str "sign")) zD)))) (e2 xN (z7 5) (eC (.int 3)))) (zC (e2 zO (z7 1) (e2 xN (z7 6) (eL xW (zC (z7 1) zD)))) zD)))))
   yc)
  (zI (yP (tE (e2 zu (z7 3) (eC (.str "stop"))))
   (yW (xt (zC (z7 3) zD)))
   yc)
  (yW (xt (zC (z7 3) (zC (z7 4) (zC (z7 5) zD))))))))))))))))
def ZS:List D->Option (Bool×D):=FR 3 7 p5
theorem eA:∀ds r,ZS ds=some r->ds.length=3/\zh 7 p5 ds=some r:=yz
theorem kJ(x0 x1 x2:D):ZS [x0,x1,x2]=zh 7 p5 [x0,x1,x2]:=rfl
def GX:FA:=(qX (eC (.int 0)) (z7 3))
def QW:FE:=(e2 zO (z7 2) (e2 xN (e2 vF (e2 vF (z7 0) (eC (.int 8))) (e2 zO (xY (λ_=>some (List.map D.int [1,26,676,17576,3,5,7]))) (z7 6))) (eC (.int 26))))
def GY:FA:=(qX (eC (.int 0)) (z7 1))
def M4:FE:=(e2 xS (e2 xS (tK (z7 4) tS (tT (z7 5))) (e2 zO (z7 2) (e2 xN (e2 xS (e2 vF (z7 0) (eC (.int 512))) (z7 6)) (eC (.int 26))))) (tK (z7 4) (tT (z7 5)) tS))
def UR:FS:=
 (zI (zb 2 (eC (.str "abcdefghijklmnopqrstuvwxyz")))
  (zI (zb 3 (e2 xN (z7 0) (eC (.int 8))))
  (zI (zb 4 (e2 Js (eC (.str "")) (xr 1 GX (zz 6) xw QW)))
  (zI (zb 5 (e2 xN (e2 vF (z7 0) (eC (.int 64))) (e2 xS (z7 3) (eC (.int 1)))))
  (zI (zb 4 (tK (z7 4) tS (tT (eC (.int 7)))))
  (v6 (xr 1 GY (zz 6) xw M4)))))))
def ZR:List D->Option (Bool×D):=FR 2 6 UR
theorem e8:∀ds r,ZR ds=some r->ds.length=2/\zh 6 UR ds=some r:=yz
theorem Pz(x0 x1:D):ZR [x0,x1]=zh 6 UR [x0,x1]:=rfl
def GZ:FA:=(qX (eC (.int 0)) (z7 3))
def M5:FE:=(zW ZS (zC (zW va (zC (z7 0) (zC (e2 xS (e2 xS (z7 1) (eC (.int 3))) (z7 9)) zD))) (zC (z7 4) (zC (z7 5) zD))))
def Gb:FA:=(qX (eC (.int 0)) (e2 xS (z7 3) (eC (.int 1))))
def M6:FE:=(z7 9)
def QZ:FT:=(tE (e2 zu (e2 zO (z7 9) (e1 jA (eC (.int 1)))) (e2 zO (z7 4) (z7 7))))
def TV:FS:=(zI (yP (xm (tE (e2 yd (xr 1 (v0 (z7 6)) (zz 9) QZ M6) (xY zD))) (tE (e2 zu (e2 xN (e2 vF (zW va (zC (z7 0) (zC (e2 xS (z7 1) (eC (.int 2))) zD))) (eC (.int 2))) (eC (.int 5))) (z7 7))))
     (vN 8 vE (xt (zC (eC (.str "label")) (zC (e2 zO (z7 4) (z7 7)) zD))))
     yc)
    (yP (tE (e2 (uE λi j=>decide (i<j)) (z7 7) (z7 3)))
     (vN 8 vE (e2 zO (z7 6) (z7 7)))
     yc))
def US:FS:=
 (zI (zb 3 (e2 xN (zW va (zC (z7 0) (zC (z7 1) zD))) (e2 xS (z7 2) (eC (.int 1)))))
  (zI (zb 4 (zW ZR (zC (zW va (zC (z7 0) (zC (e2 xS (z7 1) (eC (.int 1))) zD))) (zC (e2 xS (z7 3) (eC (.int 1))) zD))))
  (zI (zb 5 (e2 zO (xY (zC (eC (.int 3)) (zC (eC (.int 8)) zD))) (e2 xN (zW va (zC (z7 0) (zC (e2 xS (z7 1) (eC (.int 2))) zD))) (eC (.int 2)))))
  (zI (zb 6 (xr 1 GZ (zz 9) xw M5))
  (zI (vX 8 (xY zD))
  (zI (gF Gb (zz 7)
   TV)
  (jP 8)))))))
def gi:List D->Option (Bool×D):=FR 3 9 US
theorem e9:∀ds r,gi ds=some r->ds.length=3/\zh 9 US ds=some r:=yz
theorem P_(x0 x1 x2:D):gi [x0,x1,x2]=zh 9 US [x0,x1,x2]:=rfl
theorem Nr(a b:Str):(a++b).cps.toList=a.cps.toList++b.cps.toList:=KC
theorem Us(z:Str)(lo hi:Option Int):(L2.cutS z lo hi).length<=z.length:=cut_len z lo hi
theorem Nt(z:Str):(L2.cutS z none (some 7)).length<=7:=by
 show(((z.cps.toList.drop 0).take (HT.sIx z.length z.length (some ((7:Nat):Int))-0)).toArray).size<=7;rw[HT.sIx_nat,ya,tY];omega
theorem AK{m:Int}(m0:0<=m){many:Int}(n0:0<=many)(n1:many<=20):∃N:List Str,N.length=many.toNat/\N.Nodup/\(∃ln:Nat,ln<=100/\∀t∈N,t.length=ln)/\ZR [.int m,.int many]=some (true,.lst (N.map D.str)):=by
 have r1:GX [some (false,.int m),some (false,.int many),some (false,.str "abcdefghijklmnopqrstuvwxyz"),some (false,.int (m%8)),none,none]=some (ww (m%8).toNat):=gC (n:=m%8) rfl (by omega)
 obtain⟨ts,e1,ht⟩:∃ts:List Str,wU (zz 6) xw QW [some (false,.int m),some (false,.int many),some (false,.str "abcdefghijklmnopqrstuvwxyz"),some (false,.int (m%8)),none,none,none] (ww (m%8).toNat)=some (ts.map D.str)/\∀t∈ts,t.length=1:=by
  obtain⟨xs,ex,ea⟩:=OF (g:=zz 6) (e:=QW) (σ:=[some (false,.int m),some (false,.int many),some (false,.str "abcdefghijklmnopqrstuvwxyz"),some (false,.int (m%8)),none,none,none]) (λ_ y=>∃t:Str,y=.str t/\t.length=1) (ds:=ww (m%8).toNat) λd hd=>by
   obtain⟨i,hi,rfl⟩:=Ls hd
   obtain⟨p,p0,p1,ep⟩:∃p:Int,0<p/\p<20000/\zO (.lst (List.map D.int [1,26,676,17576,3,5,7])) (.int (i:Int))=some (.int p):=by
    rcases(show i=0\/i=1\/i=2\/i=3\/i=4\/i=5\/i=6 by omega)with rfl|rfl|rfl|rfl|rfl|rfl|rfl<;>exact⟨_,by decide,by decide,rfl⟩
   have a:=JO (k:=m/8/p%26) (by omega) (by omega);have g1:decide (0<p)=true:=xD p0;have g2:decide (p<18446744073709551616)=true:=xD (by omega);refine⟨_,.str (lt (m/8/p%26)),rfl,?_,_,rfl,Y3 _⟩;unfold QW;generalize List.map D.int [1,26,676,17576,3,5,7]=PS at ep;simp![ep,g1,g2,a,Yk]
  have:∃ts:List Str,xs=ts.map D.str/\∀t∈ts,t.length=1:=by
   have h:∀x∈xs,∃t:Str,x=.str t/\t.length=1:=λx hx=>by
    obtain⟨_,_,r⟩:=XW ea x hx;exact r
   clear ex ea
   induction xs with
   |nil=>exact⟨[],rfl,λ_ h=>by cases h⟩
   |cons x xs ih=>
    obtain⟨t,rfl,l⟩:=h x (yF ..);obtain⟨ts,rfl,ls⟩:=ih λy hy=>h y (yX _ hy)
    exact⟨t::ts,rfl,λy hy=>by
     rcases yI.mp hy with rfl|hy
     ·exact l
     ·exact ls y hy⟩
  obtain⟨ts,rfl,h⟩:=this;exact⟨ts,ex,h⟩
 have tl:ts.length=(m%8).toNat:=by
  have:=congrArg (λo=>(o.getD []).length) e1
  have h2:∀{g:FG}{e:FE}{σ:zi}{ds xs:List D},wU g xw e σ ds=some xs->xs.length=ds.length:=λ{g e σ ds}=>by
   induction ds with
   |nil=>intro xs h; cases h; rfl
   |cons d ds ih=>
    intro xs h;obtain⟨σ1,h1,h⟩:=zM (show(g d σ).bind _=some xs from h);obtain⟨x,h3,h⟩:=zM (show(e σ1).bind _=some xs from h);obtain⟨ys,h4,h⟩:=zM h;cases h;rw[xK,xK,ih h4]
  have:=h2 e1;rw[zj,Z2]at this;exact this
 have sm:∀{l:List Str},(∀t∈l,t.length=1)->(l.map (·.length)).sum=l.length:=λ{l}=>by
  induction l with
  |nil=>intro _; rfl
  |cons x l ih=>
   intro h;rw[xT,Ml,ih λy hy=>h y (yX _ hy),h x (yF ..),xK];omega
 have e0:("" : Str).length=0:=rfl;have jn:=Rt (sep := "") (ts:=ts) (by rw[sm ht,e0,tl]; omega);generalize Builtin.Str.glued "" ts=W0 at jn;obtain⟨W,hW⟩:∃W:Str,W=L2.cutS W0 none (some 7):=⟨_,rfl⟩;have lW:W.length<=7:=by rw[hW]; exact Nt W0
 have g1:decide (0<m%8+1)=true:=xD (by omega);obtain⟨sp,hsp⟩:∃sp:Int,sp=m/64%(m%8+1):=⟨_,rfl⟩;have r2:GY [some (false,.int m),some (false,.int many),some (false,.str "abcdefghijklmnopqrstuvwxyz"),some (false,.int (m%8)),some (false,.str W),some (false,.int sp)]=some (ww many.toNat):=gC (n:=many) rfl (by omega)
 have e2:=g6 (g:=zz 6) (e:=M4) (σ:=[some (false,.int m),some (false,.int many),some (false,.str "abcdefghijklmnopqrstuvwxyz"),some (false,.int (m%8)),some (false,.str W),some (false,.int sp),none]) (λd=>match d with|.int j=>D.str (L2.cutS W none (some sp)++lt ((m/512+j)%26)++L2.cutS W (some sp) none)|d=>d) (ds:=ww many.toNat) λd hd=>by
  obtain⟨i,hi,rfl⟩:=Ls hd;have a:=JO (k:=(m/512+(i:Int))%26) (by omega) (by omega);have l1:=Us W none (some sp);have l2:=Us W (some sp) none;have l3:=Y3 ((m/512+(i:Int))%26);have s1:tK (z7 4) tS (tT (z7 5)) [some (false,.int m),some (false,.int many),some (false,.str "abcdefghijklmnopqrstuvwxyz"),some (false,.int (m%8)),some (false,.str W),some (false,.int sp),some (false,.int (i:Int))]=some (.str (L2.cutS W none (some sp))):=rfl;have s2:tK (z7 4) (tT (z7 5)) tS [some (false,.int m),some (false,.int many),some (false,.str "abcdefghijklmnopqrstuvwxyz"),some (false,.int (m%8)),some (false,.str W),some (false,.int sp),some (false,.int (i:Int))]=some (.str (L2.cutS W (some sp) none)):=rfl;have ad1:=add_str (a:=L2.cutS W none (some sp)) (b:=lt ((m/512+(i:Int))%26)) (by omega);have ad2:=add_str (a:=L2.cutS W none (some sp)++lt ((m/512+(i:Int))%26)) (b:=L2.cutS W (some sp) none) (by rw[Xs]; omega);refine⟨_,rfl,?_⟩;unfold M4;simp![s1,s2,add_int,a,ad1,ad2]
 have w2:(ww many.toNat).map (λd=>match d with|.int j=>D.str (L2.cutS W none (some sp)++lt ((m/512+j)%26)++L2.cutS W (some sp) none)|d=>d)=((List.range many.toNat).map λj:Nat=>L2.cutS W none (some sp)++lt ((m/512+(j:Int))%26)++L2.cutS W (some sp) none).map D.str:=by
  rw[vC,vC];rfl
 rw[w2]at e2;refine⟨(List.range many.toNat).map λj:Nat=>L2.cutS W none (some sp)++lt ((m/512+(j:Int))%26)++L2.cutS W (some sp) none,by rw[zj,vP],?_,⟨(L2.cutS W none (some sp)).length+1+(L2.cutS W (some sp) none).length,?_,λt ht=>?_⟩,?_⟩
 ·refine ZC.mpr (MW (λ{a b} ha hb hab=>?_) (Mg (n:=many.toNat)));intro h;have ha:=uM.mp ha;have hb:=uM.mp hb;have h1:=congrArg (λz:Str=>z.cps.toList) h;have lc:∀x:Int,(lt x).cps.toList=[97+x.toNat]:=λ_=>rfl
  simp only[Nr,lc,ql,List.append_cancel_left_eq,Z8,tZ,VM]at h1;omega
 ·have l1:=Us W none (some sp);have l2:=Us W (some sp) none;omega
 ·obtain⟨j,_,rfl⟩:=wp.mp ht;rw[Xs,Xs,Y3]
 ·have sl:Xa (.str W0) none (some 7)=some (.str W):=by rw[hW]; rfl
  rw[Pz];unfold UR;generalize List.map D.str (List.map (λj:Nat=>L2.cutS W none (some sp)++lt ((m/512+(j:Int))%26)++L2.cutS W (some sp) none) (List.range many.toNat))=NN at *;generalize ts.map D.str=TT at *;simp![r1,e1,jn,add_int,g1,<-hsp,tK,tT,tS,sl,r2,e2]
abbrev VH:D:=.lst [.str "set",.str "high",.str "copy",.str "add",.str "addc",.str "sub",.str "subc",.str "and",.str "or",.str "xor",.str "test",.str "left",.str "right",.str "load",.str "store",.str "loadw",.str "storew",.str "jump",.str "when",.str "unless",.str "stop",.str "set",.str "copy",.str "add",.str "when",.str "unless",.str "test",.str "sub"]
theorem z0o:ZU []=some (false,VH):=by rfl
def UF(w:Str):Prop:=(w = "set" \/ w = "high")\/(w = "left" \/ w = "right")\/(w = "load" \/ w = "store" \/ w = "loadw" \/ w = "storew")\/(w = "copy" \/ w = "add" \/ w = "addc" \/ w = "sub" \/ w = "subc" \/ w = "and" \/ w = "or" \/ w = "xor" \/ w = "test")\/w = "jump" \/ (w = "when" \/ w = "unless")\/w = "stop"
def Ht(w:Str):Decidable (UF w):=by unfold UF; infer_instance
theorem z0m:((List.range 28).all λk:Nat=>match zO VH (.int (k:Int))with
  |some (.str w)=>@decide (UF w) (Ht w)
  |_=>false)=true:=by decide +kernel
theorem z0n{v:Int}(h0:0<=v)(h1:v<28):∃w:Str,UF w/\zO VH (.int v)=some (.str w):=by
 have h:=wm.mp z0m v.toNat (uM.mpr (by omega));rw[MV h0]at h;generalize zO VH (.int v)=o at h ⊢
 split at h
 ·exact⟨_,@vQ _ (Ht _) h,rfl⟩
 ·cases h
theorem Tr{a b i:Int}(h0:0<=i)(h1:i<2):∃n,(n=a\/n=b)/\zO (.lst [.int a,.int b]) (.int i)=some (.int n):=by
 rcases(show i=0\/i=1 by omega)with rfl|rfl
 ·exact⟨a,by simp,rfl⟩
 ·exact⟨b,by simp,rfl⟩
theorem dW{N:List Str}(hN:N≠[]){m:Int}(m0:0<=m){mn:Int}(hm:mn=3\/mn=8):∃r,t_ N r/\ZS [.int m,.lst (N.map D.str),.int mn]=some (false,r):=by
 obtain⟨w,hw,ew⟩:=z0n (v:=m%28) (by omega) (by omega);have wF:=z0o;have hp:0<N.length:=Kb.mpr hN;have g0:decide (0<mn)=true:=xD (by omega);obtain⟨q,hq⟩:∃q:Int,q=m/28:=⟨_,rfl⟩;have o0:=Yn q (show mn≠0 by omega);have o1:=Ym q (show 0<mn by omega);have t0:=Yn (q/8) (show mn≠0 by omega);have t1:=Ym (q/8) (show 0<mn by omega);obtain⟨one,h1⟩:∃z:Int,z=q%mn:=⟨_,rfl⟩;obtain⟨two,h2⟩:∃z:Int,z=q/8%mn:=⟨_,rfl⟩;rw[<-h1]at o0 o1;rw[<-h2]at t0 t1
 have start:∀yj:FS,zI (zb 3 (e2 zO (zW ZU zD) (e2 xN (z7 0) (eC (.int 28)))))
  (zI (zb 0 (e2 vF (z7 0) (eC (.int 28))))
  (zI (zb 4 (e2 xN (z7 0) (z7 2)))
  (zI (zb 5 (e2 xN (e2 vF (z7 0) (eC (.int 8))) (z7 2)))
  (zI (zb 6 (e2 vF (z7 0) (eC (.int 64)))) yj)))) [some (false,.int m),some (false,.lst (N.map D.str)),some (false,.int mn),none,none,none,none]=yj [some (false,.int q),some (false,.lst (N.map D.str)),some (false,.int mn),some (false,.str w),some (false,.int one),some (false,.int two),some (false,.int (q/64))]:=λyj=>by
  generalize N.map D.str=NN at *
  rw[wP (σ':=[some (false,.int m),some (false,.lst NN),some (false,.int mn),some (false,.str w),none,none,none]) (by
   generalize VH=WD at *;simp![wF,ew])]
  rw[wP (σ':=[some (false,.int q),some (false,.lst NN),some (false,.int mn),some (false,.str w),none,none,none]) (by simp![<-hq])];rw[wP (σ':=[some (false,.int q),some (false,.lst NN),some (false,.int mn),some (false,.str w),some (false,.int one),none,none]) (by simp![g0,<-h1])];rw[wP (σ':=[some (false,.int q),some (false,.lst NN),some (false,.int mn),some (false,.str w),some (false,.int one),some (false,.int two),none]) (by simp![g0,<-h2])];rw[wP (σ':=[some (false,.int q),some (false,.lst NN),some (false,.int mn),some (false,.str w),some (false,.int one),some (false,.int two),some (false,.int (q/64))]) (by simp![])]
 have nm:∃t∈N,zO (.lst (N.map D.str)) (.int (q/64%(N.length:Int)))=some (.str t):=by
  have a0:=Yn (q/64) (show(N.length:Int)≠0 by omega);have a1:=Ym (q/64) (show 0<(N.length:Int) by omega);have hv:(q/64%(N.length:Int)).toNat<N.length:=by omega
  exact⟨N[(q/64%(N.length:Int)).toNat],ZA hv,tJ a0 (by rw[xC,yZ hv]; rfl)⟩
 obtain⟨t,ht,et⟩:=nm;have gN:decide (0<(N.length:Int))=true:=xD (by omega);rcases hw with hw|hw|hw|hw|hw|hw|hw
 ·obtain⟨n,hn,en⟩:=Tr (a:=q/64%65536) (b:=q/64%3) (i:=q/32%2) (by omega) (by omega);have k1:yb (.str w) (.tup [.str "set",.str "high"])=some (.bl true):=by rcases hw with rfl|rfl<;>rfl
  refine⟨_,.plain (.gX hw o0 (by omega) (show 0<=n by omega) (by omega)),?_⟩;rw[kJ];unfold p5;show((zI _ _ [some (false,.int m),some (false,.lst (N.map D.str)),some (false,.int mn),none,none,none,none]).bind _)=_;rw[start];simp![k1,en]
 ·obtain⟨n,hn,en⟩:=Tr (a:=q/64%32) (b:=q/64%3) (i:=q/32%2) (by omega) (by omega);have k1:yb (.str w) (.tup [.str "set",.str "high"])=some (.bl false):=by rcases hw with rfl|rfl<;>rfl
  have k2:yb (.str w) (.tup [.str "left",.str "right"])=some (.bl true):=by rcases hw with rfl|rfl<;>rfl
  refine⟨_,.plain (.gY hw o0 (by omega) (show 0<=n by omega) (by omega)),?_⟩;rw[kJ];unfold p5;show((zI _ _ [some (false,.int m),some (false,.lst (N.map D.str)),some (false,.int mn),none,none,none,none]).bind _)=_;rw[start];simp![k1,k2,en]
 ·obtain⟨n,hn,en⟩:=Tr (a:=q/64%256) (b:=q/64%4) (i:=q/32%2) (by omega) (by omega);have k1:yb (.str w) (.tup [.str "set",.str "high"])=some (.bl false):=by rcases hw with rfl|rfl|rfl|rfl<;>rfl
  have k2:yb (.str w) (.tup [.str "left",.str "right"])=some (.bl false):=by rcases hw with rfl|rfl|rfl|rfl<;>rfl
  have k3:yb (.str w) (.tup [.str "load",.str "store",.str "loadw",.str "storew"])=some (.bl true):=by rcases hw with rfl|rfl|rfl|rfl<;>rfl
  refine⟨_,.plain (.mem hw o0 (by omega) t0 (by omega) (show 0<=n by omega) (by omega)),?_⟩;rw[kJ];unfold p5;show((zI _ _ [some (false,.int m),some (false,.lst (N.map D.str)),some (false,.int mn),none,none,none,none]).bind _)=_;rw[start];simp![k1,k2,k3,en]
 ·have k:yb (.str w) (.tup [.str "set",.str "high"])=some (.bl false)/\yb (.str w) (.tup [.str "left",.str "right"])=some (.bl false)/\yb (.str w) (.tup [.str "load",.str "store",.str "loadw",.str "storew"])=some (.bl false)/\zu (.str w) (.str "jump")=some (.bl false)/\yb (.str w) (.tup [.str "when",.str "unless"])=some (.bl false)/\zu (.str w) (.str "stop")=some (.bl false):=by
   rcases hw with rfl|rfl|rfl|rfl|rfl|rfl|rfl|rfl|rfl<;>exact⟨rfl,rfl,rfl,rfl,rfl,rfl⟩
  obtain⟨k1,k2,k3,k4,k5,k6⟩:=k;refine⟨_,.plain (.two hw o0 (by omega) t0 (by omega)),?_⟩;rw[kJ];unfold p5;show((zI _ _ [some (false,.int m),some (false,.lst (N.map D.str)),some (false,.int mn),none,none,none,none]).bind _)=_;rw[start];simp![k1,k2,k3,k4,k5,k6]
 ·subst hw;have k:yb (.str "jump") (.tup [.str "set",.str "high"])=some (.bl false)/\yb (.str "jump") (.tup [.str "left",.str "right"])=some (.bl false)/\yb (.str "jump") (.tup [.str "load",.str "store",.str "loadw",.str "storew"])=some (.bl false)/\zu (.str "jump") (.str "jump")=some (.bl true):=⟨rfl,rfl,rfl,rfl⟩;obtain⟨k1,k2,k3,k4⟩:=k;refine⟨_,.wA ht,?_⟩;rw[kJ];unfold p5;show((zI _ _ [some (false,.int m),some (false,.lst (N.map D.str)),some (false,.int mn),none,none,none,none]).bind _)=_;rw[start];simp![k1,k2,k3,k4,zj,gN,et]
 ·have k:yb (.str w) (.tup [.str "set",.str "high"])=some (.bl false)/\yb (.str w) (.tup [.str "left",.str "right"])=some (.bl false)/\yb (.str w) (.tup [.str "load",.str "store",.str "loadw",.str "storew"])=some (.bl false)/\zu (.str w) (.str "jump")=some (.bl false)/\yb (.str w) (.tup [.str "when",.str "unless"])=some (.bl true):=by
   rcases hw with rfl|rfl<;>exact⟨rfl,rfl,rfl,rfl,rfl⟩
  obtain⟨k1,k2,k3,k4,k5⟩:=k
  obtain⟨kk,hk,ek⟩:∃k:Str,(k = "carry" \/ k = "nought" \/ k = "sign")/\zO (.lst [.str "carry",.str "nought",.str "sign"]) (.int (two%3))=some (.str k):=by
   rcases(show two%3=0\/two%3=1\/two%3=2 by omega)with h|h|h<;>rw[h]
   ·exact⟨"carry",by simp,rfl⟩
   ·exact⟨"nought",by simp,rfl⟩
   ·exact⟨"sign",by simp,rfl⟩
  refine⟨_,.cond hw hk ht,?_⟩;rw[kJ];unfold p5;show((zI _ _ [some (false,.int m),some (false,.lst (N.map D.str)),some (false,.int mn),none,none,none,none]).bind _)=_;rw[start];simp![k1,k2,k3,k4,k5,zj,gN,et,ek]
 ·subst hw;have k:yb (.str "stop") (.tup [.str "set",.str "high"])=some (.bl false)/\yb (.str "stop") (.tup [.str "left",.str "right"])=some (.bl false)/\yb (.str "stop") (.tup [.str "load",.str "store",.str "loadw",.str "storew"])=some (.bl false)/\zu (.str "stop") (.str "jump")=some (.bl false)/\yb (.str "stop") (.tup [.str "when",.str "unless"])=some (.bl false)/\zu (.str "stop") (.str "stop")=some (.bl true):=⟨rfl,rfl,rfl,rfl,rfl,rfl⟩;obtain⟨k1,k2,k3,k4,k5,k6⟩:=k;refine⟨_,.plain .stop,?_⟩;rw[kJ];unfold p5;show((zI _ _ [some (false,.int m),some (false,.lst (N.map D.str)),some (false,.int mn),none,none,none,none]).bind _)=_;rw[start];simp![k1,k2,k3,k4,k5,k6]
structure PC(z6:List D):Prop where
 it:∀d∈z6,yO d
 nd:(z6.filter zS).Nodup
 tg:∀d∈z6,yL d=true->∃(t:Str) (p:Nat),zO d (.int (-1))=some (.str t)/\(xH t z6).2=some p
 ln:z6.length<=100
def pH(t:Str)(d:D):Bool:=zk (Fj d) (.str t)
theorem SY{N:List Str}{d:D}(h:t_ N d)(t:Str):∃x,zO d (.int (-1))=some x/\zu x (.str t)=some (.bl (pH t d)):=by
 cases h with
 |plain h=>cases h<;>exact⟨_,rfl,rfl⟩
 |wA ht=>exact⟨_,rfl,rfl⟩
 |cond hw hk ht=>exact⟨_,rfl,rfl⟩
theorem dU{N:List Str}{d:D}(h:t_ N d)(hj:yL d=true):∃t∈N,zO d (.int (-1))=some (.str t)/\pH t d=true:=by
 cases h with
 |plain h=>
  obtain⟨_,_,_,_,c,_⟩:=gA h;rw[c]at hj;cases hj
 |wA ht=>
  rename_i t;exact⟨t,ht,rfl,by show zk (.str t) (.str t)=true; unfold zk; exact jX _⟩
 |cond hw hk ht=>
  rename_i t;exact⟨t,ht,rfl,by show zk (.str t) (.str t)=true; unfold zk; exact jX _⟩
structure BK(N:List Str)(R:List D)(k:Nat)(L:List D):Prop where
 it:∀d∈L,X9 N d
 rs:L.filter (λd=>!zS d)=R.take k
 nd:(L.filter zS).Nodup
 lb:∀d∈L,zS d=true->∃j,j<k/\∃t,N[j]?=some t/\d=xG t
 pl:∀j t,j<k->N[j]?=some t->(∃r∈R,pH t r=true)->(xH t L).2=some j
 ln:L.length<=2*k
theorem CV:∀{N:List Str},N.Nodup->∀{i j:Nat}{u:Str},N[i]?=some u->N[j]?=some u->i=j
 | [],_,_,_,_,h,_=>by cases h
 |x::N,h,0,0,_,_,_=>rfl
 |x::N,h,0,j+1,u,hi,hj=>by
  cases hi;exact absurd (wK (by simpa using hj)) (t7.mp h).1
 |x::N,h,i+1,0,u,hi,hj=>by
  cases hj;exact absurd (wK (by simpa using hi)) (t7.mp h).1
 |x::N,h,i+1,j+1,u,hi,hj=>by rw[CV (t7.mp h).2 (i:=i) (j:=j) (by simpa using hi) (by simpa using hj)]
theorem Fd{t u:Str}(h:xG t=xG u):t=u:=by
 unfold xG at h;injection h with h
 injection h with _ h
 injection h with h _
 injection h
theorem lx{N:List Str}(hN:N.Nodup){R L:List D}{k:Nat}(S:BK N R k L){t:Str}(ht:N[k]?=some t)(hk:k<=R.length) :
  (∀d∈L++[xG t],X9 N d)/\(L++[xG t]).filter (λd=>!zS d)=R.take k/\((L++[xG t]).filter zS).Nodup/\(∀d∈L++[xG t],zS d=true->∃j,j<k+1/\∃t,N[j]?=some t/\d=xG t)/\(∀j u,j<k+1->N[j]?=some u->(∃r∈R,pH u r=true)->(xH u (L++[xG t])).2=some j):=by
 have inj:∀{i j:Nat}{u:Str},N[i]?=some u->N[j]?=some u->i=j:=λhi hj=>CV hN hi hj
 refine⟨λd hd=>?_,?_,?_,λd hd hl=>?_,λj u hj hu hr=>?_⟩
 ·rcases w4.mp hd with hd|hd
  ·exact S.it d hd
  ·cases yt.mp hd;exact .inr ⟨t,wK ht,rfl⟩
 ·rw[uc,S.rs];show R.take k++[]=_;rw[wW]
 ·rw[uc];show(L.filter zS++[xG t]).Nodup;refine VS.mpr ⟨S.nd,t7.mpr ⟨by simp,t8⟩,λa ha b hb e=>?_⟩;cases yt.mp hb;obtain⟨ha,hl⟩:=w6.mp ha;obtain⟨j,hj,u,hu,ed⟩:=S.lb a ha hl;have:=Fd (ed.symm.trans e);subst this;have:=inj hu ht;omega
 ·rcases w4.mp hd with hd|hd
  ·obtain⟨j,hj,u,hu,ed⟩:=S.lb d hd hl;exact⟨j,by omega,u,hu,ed⟩
  ·cases yt.mp hd;exact⟨k,by omega,t,ht,rfl⟩
 ·rw[Os];by_cases e:t=u
  ·subst e;have:=inj hu ht;rw[zK rfl,S.rs,tY,this]
   congr 1
   omega
  ·rw[zL e];refine S.pl j u ?_ hu hr;rcases Yx j k with h|h
   ·exact h
   ·have:j=k:=by omega
    subst this;rw[ht]at hu;cases hu;exact absurd rfl e
theorem cI{ns:List Int}(hl:ns.length<=63)(hb:∀m∈ns,wR m<=1048576){first most:Int}(f0:0<=first)(f1:first<=40)(m0:0<=most)(m1:most<=14) :
  ∃(N:List Str) (R z6:List D),R.length<=14/\N.length=R.length+1/\N.Nodup/\(∀r∈R,t_ N r)/\PC z6/\z6.filter (λd=>!zS d)=R/\z6.length<=40/\gi [.lst (ns.map D.int),.int first,.int most]=some (true,.lst z6)/\(∃ln:Nat,∀t∈N,t.length=ln)/\∀t,xG t∈z6->t∈N:=by
 obtain⟨a,a0,a1,ea⟩:=Y4 hl hb (k:=first) f0 (by omega);obtain⟨b,b0,b1,eb⟩:=Y4 hl hb (k:=first+1) (by omega) (by omega);obtain⟨c,c0,c1,ec⟩:=Y4 hl hb (k:=first+2) (by omega) (by omega)
 have em:∀i:Nat,i<20->∃m:Int,0<=m/\va [.lst (ns.map D.int),.int (first+3+(i:Int))]=some (false,.int m):=λi hi=>by
  obtain⟨m,h0,_,e⟩:=Y4 hl hb (k:=first+3+(i:Int)) (by omega) (by omega);exact⟨m,h0,e⟩
 generalize D.lst (ns.map D.int)=s at ea eb ec em ⊢;have g0:decide (0<most+1)=true:=xD (by omega);obtain⟨ct,hct⟩:∃z:Int,z=a%(most+1):=⟨_,rfl⟩;have ct0:0<=ct:=by rw[hct]; exact Yn _ (by omega)
 have ct1:ct<most+1:=by rw[hct]; exact Ym _ (by omega)
 obtain⟨N,nl,nd,nlen,en⟩:=AK b0 (many:=ct+1) (by omega) (by omega);have nn:N≠[]:=λz=>by rw[z]at nl; simp at nl; omega
 obtain⟨mn,hmn,emn⟩:=Tr (a:=3) (b:=8) (i:=c%2) (by omega) (by omega);have r1:GZ [some (false,s),some (false,.int first),some (false,.int most),some (false,.int ct),some (false,.lst (N.map D.str)),some (false,.int mn),none,none,none]=some (ww ct.toNat):=gC (n:=ct) rfl (by omega)
 obtain⟨R,e1,eR⟩:=OF (g:=zz 9) (e:=M5) (σ:=[some (false,s),some (false,.int first),some (false,.int most),some (false,.int ct),some (false,.lst (N.map D.str)),some (false,.int mn),none,none,none,none]) (λ_ y=>t_ N y) (ds:=ww ct.toNat) λd hd=>by
  obtain⟨i,hi,rfl⟩:=Ls hd;obtain⟨m,h0,e⟩:=em i (by omega);obtain⟨r,hr,er⟩:=dW nn h0 hmn;refine⟨_,r,rfl,?_,hr⟩;unfold M5;generalize N.map D.str=NN at *;simp![add_int,e,er]
 have rl:R.length=ct.toNat:=by rw[<-DJ eR,Z2]
 have hR:∀r∈R,t_ N r:=λr hr=>by
  obtain⟨_,_,h⟩:=XW eR r hr;exact h
 have r2:Gb [some (false,s),some (false,.int first),some (false,.int most),some (false,.int ct),some (false,.lst (N.map D.str)),some (false,.int mn),some (false,.lst R),none,some (true,.lst [])]=some (ww (ct.toNat+1)):=by
  have:=gC (f:=e2 xS (z7 3) (eC (.int 1))) (τ:=[some (false,s),some (false,.int first),some (false,.int most),some (false,.int ct),some (false,.lst (N.map D.str)),some (false,.int mn),some (false,.lst R),none,some (true,.lst [])]) (n:=ct+1) rfl (by omega);rw[show(ct+1).toNat=ct.toNat+1 by omega]at this;exact this
 obtain⟨σ',e3,L,x7,S,rfl⟩:=kP (g:=zz 7) (b:=TV) (λi σ=>∃L x7,BK N R i L/\σ=[some (false,s),some (false,.int first),some (false,.int most),some (false,.int ct),some (false,.lst (N.map D.str)),some (false,.int mn),some (false,.lst R),x7,some (true,.lst L)]) (ds:=ww (ct.toNat+1))
  (σ:=[some (false,s),some (false,.int first),some (false,.int most),some (false,.int ct),some (false,.lst (N.map D.str)),some (false,.int mn),some (false,.lst R),none,some (true,.lst [])]) 0 ⟨[],none,⟨(λ_ h=>by cases h),by rw[VT]; rfl,t8,(λ_ h=>by cases h),(λj _ h=>absurd h (VV _)),zt _⟩,rfl⟩ (by
  rintro i v σ hv ⟨L,x7,S,rfl⟩;obtain⟨hi,rfl⟩:=VG hv;rw[xn]at *;have hiN:i<N.length:=by omega
  have gN:N[i]?=some N[i]:=yZ hiN;have ix:zO (.lst (N.map D.str)) (.int (i:Int))=some (.str N[i]):=tJ (by omega) (by rw[xg,xC,gN]; rfl)
  have f1:=jI (g:=zz 9) (c:=QZ) (e:=M6) (σ:=[some (false,s),some (false,.int first),some (false,.int most),some (false,.int ct),some (false,.lst (N.map D.str)),some (false,.int mn),some (false,.lst R),some (false,.int (i:Int)),some (true,.lst L),none]) (pH N[i]) id (ds:=R) λd hd=>by
   obtain⟨x,q1,q2⟩:=SY (hR d hd) N[i];refine⟨_,rfl,?_,λ_=>rfl⟩;unfold QZ;generalize N.map D.str=NN at *;simp![q1,ix,q2]
  rw[Yu]at f1;have ne:=Tg (R.filter (pH N[i]))
  have lab:∃ L',yP (xm (tE (e2 yd (xr 1 (v0 (z7 6)) (zz 9) QZ M6) (xY zD))) (tE (e2 zu (e2 xN (e2 vF (zW va (zC (z7 0) (zC (e2 xS (z7 1) (eC (.int 2))) zD))) (eC (.int 2))) (eC (.int 5))) (z7 7))))
     (vN 8 vE (xt (zC (eC (.str "label")) (zC (e2 zO (z7 4) (z7 7)) zD))))
     yc [some (false,s),some (false,.int first),some (false,.int most),some (false,.int ct),some (false,.lst (N.map D.str)),some (false,.int mn),some (false,.lst R),some (false,.int (i:Int)),some (true,.lst L)]=some (.nx [some (false,s),some (false,.int first),some (false,.int most),some (false,.int ct),some (false,.lst (N.map D.str)),some (false,.int mn),some (false,.lst R),some (false,.int (i:Int)),some (true,.lst L')])/\
    L'.length<=2*i+1/\(∀d∈L',X9 N d)/\L'.filter (λd=>!zS d)=R.take i/\(L'.filter zS).Nodup/\(∀d∈L',zS d=true->∃j,j<i+1/\∃t,N[j]?=some t/\d=xG t)/\(∀j u,j<i+1->N[j]?=some u->(∃r∈R,pH u r=true)->(xH u L').2=some j):=by
   have hap:=j7 (L:=L) (r:=xG N[i]) (by have:=S.ln; omega);have with_:=lx nd S gN (by omega);have ll:(L++[xG N[i]]).length<=2*i+1:=by rw[yD]; have:=S.ln; show L.length+1<=_; omega
   unfold xG at hap;cases hE:(R.filter (pH N[i])).isEmpty with
   |false=>
    rw[hE]at ne;refine⟨L++[xG N[i]],?_,ll,with_⟩;unfold xG;generalize N.map D.str=NN at *;simp![f1,ne,ix,hap,qk]
   |true=>
    rw[hE]at ne
    have none_:¬ ∃r∈R,pH N[i] r=true:=λ⟨r,hr,h⟩=>by
     have:r∈R.filter (pH N[i]):=w6.mpr ⟨hr,h⟩;rw[List.isEmpty_iff.mp hE]at this;cases this
    by_cases hc:c/2%5=(i:Int)
    ·have k:=Xh hc;refine⟨L++[xG N[i]],?_,ll,with_⟩;unfold xG;generalize N.map D.str=NN at *;simp![f1,ne,add_int,ec,k,ix,hap,tX]
    ·have k:=Xi hc;refine⟨L,?_,by have:=S.ln; omega,S.it,S.rs,S.nd,λd hd hl=>?_,λj u hj hu hr=>?_⟩
     ·generalize N.map D.str=NN at *;simp![f1,ne,add_int,ec,k,tX]
     ·obtain⟨j,hj,t,ht,e⟩:=S.lb d hd hl;exact⟨j,by omega,t,ht,e⟩
     ·rcases Yx j i with h|h
      ·exact S.pl j u h hu hr
      ·have:j=i:=by omega
       subst this;rw[gN]at hu;cases hu;exact absurd hr none_
  obtain⟨L',el,ll,l1,l2,l3,l4,l5⟩:=lab;by_cases hir:i<ct.toNat
  ·have cond:decide ((i:Int)<ct)=true:=xD (by omega);have hiR:i<R.length:=by omega
   have ixR:zO (.lst R) (.int (i:Int))=some R[i]:=tJ (by omega) (by rw[xg]; exact yZ hiR);have hap:=j7 (L:=L') (r:=R[i]) (by omega);have rA:=hR _ (ZA hiR);have rl0:=(LG rA).2;refine⟨_,[some (false,s),some (false,.int first),some (false,.int most),some (false,.int ct),some (false,.lst (N.map D.str)),some (false,.int mn),some (false,.lst R),some (false,.int (i:Int)),some (true,.lst (L'++[R[i]]))],rfl,.inl ?_,L'++[R[i]],_,⟨?_,?_,?_,?_,?_,?_⟩,rfl⟩
   ·unfold TV;show zI _ _ [some (false,s),some (false,.int first),some (false,.int most),some (false,.int ct),some (false,.lst (N.map D.str)),some (false,.int mn),some (false,.lst R),some (false,.int (i:Int)),some (true,.lst L)]=_;rw[wP el];generalize N.map D.str=NN at *;generalize R[i]=RI at *;simp![cond,ixR,hap]
   ·intro d hd;rcases w4.mp hd with hd|hd
    ·exact l1 d hd
    ·cases yt.mp hd;exact .inl rA
   ·rw[uc,l2,vh (by rw[rl0]; rfl),Yp,Yv hiR]
   ·rw[uc,vZ (by rw[rl0]; decide),Yp,wW];exact l3
   ·intro d hd hl;rcases w4.mp hd with hd|hd
    ·exact l4 d hd hl
    ·cases yt.mp hd;rw[rl0]at hl;cases hl
   ·intro j u hj hu hr;rw[Ou rl0];exact l5 j u hj hu hr
   ·rw[yD];show L'.length+1<=_;omega
  ·have cond:decide ((i:Int)<ct)=false:=yy (by omega);refine⟨_,[some (false,s),some (false,.int first),some (false,.int most),some (false,.int ct),some (false,.lst (N.map D.str)),some (false,.int mn),some (false,.lst R),some (false,.int (i:Int)),some (true,.lst L')],rfl,.inl ?_,L',_,⟨l1,?_,l3,l4,l5,by omega⟩,rfl⟩
   ·unfold TV;show zI _ _ [some (false,s),some (false,.int first),some (false,.int most),some (false,.int ct),some (false,.lst (N.map D.str)),some (false,.int mn),some (false,.lst R),some (false,.int (i:Int)),some (true,.lst L)]=_;rw[wP el];generalize N.map D.str=NN at *;simp![cond]
   ·rw[l2,Mm (by omega),Mm (by omega)])
 rw[Z2,xn]at S;have ln:=S.ln;refine⟨N,R,L,by omega,by omega,nd,hR,⟨λd hd=>Rj (S.it d hd),S.nd,λd hd hj=>?_,by omega⟩,by rw[S.rs,Mm (by omega)],by omega,?_,?_,λt ht=>?_⟩
 ·rcases S.it d hd with h|⟨t,_,rfl⟩
  ·obtain⟨t,ht,e,li⟩:=dU h hj;obtain⟨j,hj2,ej⟩:=VP ht
   have dR:d∈R:=by
    have:d∈L.filter λd=>!zS d:=w6.mpr ⟨hd,by rw[(LG h).2]; rfl⟩
    rw[S.rs]at this;exact List.mem_of_mem_take this
   exact⟨t,j,e,S.pl j t (by omega) (by rw[yZ hj2,ej]) ⟨d,dR,li⟩⟩
  ·cases hj
 ·rw[P_];unfold US;generalize N.map D.str=NN at *;simp![ea,add_int,g0,<-hct,eb,en,ec,emn,r1,e1,r2,e3]
 ·obtain⟨ln,_,h⟩:=nlen;exact⟨ln,h⟩
 ·obtain⟨j,_,u,hu,e⟩:=S.lb _ ht rfl;rw[Fd e];exact wK hu
theorem cH{ns:List Int}(hl:ns.length<=63)(hb:∀m∈ns,wR m<=1048576){first most:Int}(f0:0<=first)(f1:first<=40)(m0:0<=most)(m1:most<=14) :
  ∃(N:List Str) (R z6:List D),R.length<=14/\N.length=R.length+1/\N.Nodup/\(∀r∈R,t_ N r)/\PC z6/\z6.filter (λd=>!zS d)=R/\z6.length<=40/\gi [.lst (ns.map D.int),.int first,.int most]=some (true,.lst z6):=by
 obtain⟨N,R,z6,a,b,c,d,e,f,g,h,_⟩:=cI hl hb f0 f1 m0 m1;exact⟨N,R,z6,a,b,c,d,e,f,g,h⟩
def Hw:FE:=(z7 1)
def MH:FT:=(tE (e2 yd (e2 zO (z7 1) (eC (.int 0))) (eC (.str "label"))))
def UT:FS:=
 (v6 (xr 1 (v0 (z7 0)) (zz 1) MH Hw))
def tD:List D->Option (Bool×D):=FR 1 1 UT
theorem eB:∀ds r,tD ds=some r->ds.length=1/\zh 1 UT ds=some r:=yz
theorem R1(x0:D):tD [x0]=zh 1 UT [x0]:=rfl
theorem Fm{z6:List D}(h:∀d∈z6,yO d):tD [.lst z6]=some (true,.lst (z6.filter λd=>!zS d)):=by
 have e:=jI (g:=zz 1) (c:=MH) (e:=Hw) (σ:=[some (false,.lst z6),none]) (λd=>!zS d) id (ds:=z6) λd hd=>by
  obtain⟨w,a,b,_⟩:=Xl (h d hd);have b:=Th b;refine⟨_,rfl,?_,λ_=>rfl⟩;unfold MH;simp![a,b]
 rw[Yu]at e;rw[R1];unfold UT;simp![e]
def zH(qs:List Nat):List D:=qs.map λi:Nat=>D.int i
theorem FY:∀qs:List Nat,pD (qs.map λi:Nat=>D.tup [.int i,.bl true])=some (qs.map λi:Nat=>Sum.inl (i:Int),qs.map λ_=>D.bl true)
 | []=>rfl
 |a::qs=>by
  show(qE (.int (a:Int))).bind _=_;show(pD (qs.map λi:Nat=>D.tup [.int i,.bl true])).bind _=_;rw[FY qs];rfl
theorem Xf(n:Nat):∀qs:List Nat,yY (qs.map λi:Nat=>Sum.inl (i:Int)) (.inl (n:Int))=decide (n∈qs)
 | []=>rfl
 |a::qs=>by
  show(decide ((Sum.inl (a:Int):Sum Int Str)=.inl (n:Int))||yY (qs.map λi:Nat=>Sum.inl (i:Int)) (.inl (n:Int)))=_;rw[Xf n qs];by_cases h:a=n
  ·subst h;rw[xD (p:=(Sum.inl (a:Int):Sum Int Str)=.inl (a:Int)) rfl,xD (yF ..)];rfl
  ·rw[yy (p:=(Sum.inl (a:Int):Sum Int Str)=.inl (n:Int)) (λe=>h (by have:=VY e; omega)),MT];refine VZ.mpr ⟨λz=>yX _ z,λz=>?_⟩;rcases yI.mp z with z|z
   ·exact absurd z.symm h
   ·exact z
theorem DC(qs:List Nat):∃K V,kD [.lst (qs.map λi:Nat=>D.tup [.int i,.bl true])]=some (.dic K V)/\∀n:Nat,yY K (.inl (n:Int))=decide (n∈qs):=by
 refine⟨(xO [] [] (qs.map λi:Nat=>Sum.inl (i:Int)) (qs.map λ_=>D.bl true)).1,(xO [] [] (qs.map λi:Nat=>Sum.inl (i:Int)) (qs.map λ_=>D.bl true)).2,?_,λn=>?_⟩
 ·show(pD _).bind _=_;rw[FY];rfl
 ·rw[Iz (by simp),Xf];rfl
def Sb(a b:Nat):Prop:=∀k,a.testBit k=true->b.testBit k=true
theorem Sb.refl(a:Nat):Sb a a:=λ_ h=>h
theorem Sb.trans{a b c:Nat}(h:Sb a b)(g:Sb b c):Sb a c:=λk z=>g k (h k z)
theorem Sb.J6{a b:Nat}(h:Sb a b)(g:Sb b a):a=b:=Kj λk=>by
 cases ea:a.testBit k with
 |true=>exact(h k ea).symm
 |false=>
  cases eb:b.testBit k with
  |false=>rfl
  |true=>rw[g k eb]at ea; cases ea
theorem LM(a:Nat):Sb 0 a:=λk h=>by rw[Nat.zero_testBit]at h; cases h
theorem DF:∀(k a p:Nat),(a-(a &&& p)).testBit k=(a.testBit k&&!p.testBit k)
 |0,a,p=>by
  have h1:(a &&& p)%2=(a%2)*(p%2):=by
   have:(a &&& p).testBit 0=(a.testBit 0&&p.testBit 0):=Qv ..;simp only[Mt]at this;rcases ZH a with e|e<;>rcases ZH p with f|f<;>rcases ZH (a &&& p)with g|g<;>rw[e,f,g]at this<;>rw[e,f,g]<;>first|rfl|(simp at this)
  have h2:(a &&& p)<=a:=Mn;simp only[Mt];rcases ZH a with e|e<;>rcases ZH p with f|f<;>rw[e,f]at h1<;>simp only[e,f]<;>simp<;>omega
 |k+1,a,p=>by
  have h1:(a-(a &&& p))/2=a/2-(a/2 &&& p/2):=by
   have d:(a &&& p)/2=(a/2 &&& p/2):=by
    refine Kj λj=>?_
    rw[Qv,<-Yz,<-Yz,<-Yz,Qv]
   have h2:(a &&& p)<=a:=Mn
   have h3:(a &&& p)%2<=a%2:=by
    have:(a &&& p).testBit 0=(a.testBit 0&&p.testBit 0):=Qv ..;simp only[Mt]at this;rcases ZH a with e|e<;>rcases ZH (a &&& p)with g|g<;>rw[e,g]at this<;>rw[e,g]<;>first|omega|(simp at this)
   rw[<-d];omega
  rw[Yz,h1,DF k,Yz,Yz]
theorem JX(a:Nat):decide ((0:Int)<=Builtin.bitNot (a:Int))=false:=yy (by unfold Builtin.bitNot; omega)
theorem b0(a:Nat):decide ((0:Int)<=(a:Int))=true:=xD (Int.natCast_nonneg a)
theorem Bj(a:Int):Builtin.bitNot (Builtin.bitNot a)=a:=by unfold Builtin.bitNot; omega
theorem Bn(a b:Nat):Builtin.bitOr (a:Int) (b:Int)=((a ||| b:Nat):Int):=by
 unfold Builtin.bitOr Builtin.bitAnd;rw[JX,JX];simp only[Bj,xg]
theorem N6(a b:Nat):Builtin.bitAnd (a:Int) (b:Int)=((a &&& b:Nat):Int):=by
 unfold Builtin.bitAnd;rw[b0,b0];simp only[xg]
theorem N7(a p:Nat):Builtin.bitAnd (a:Int) (Builtin.bitNot (p:Int))=((a-(a &&& p):Nat):Int):=by
 have h2:(a &&& p)<=a:=Mn;unfold Builtin.bitAnd;rw[b0,JX];simp only[Bj,xg];omega
theorem NB{x k:Nat}(h:x<2048)(hk:x.testBit k=true):k<11:=by
 rcases Yx k 11 with c|c
 ·exact c
 ·have:x<2 ^ k:=wY h (Kl (n:=2) (by decide) c);rw[Nat.testBit_lt_two_pow this]at hk;cases hk
theorem Ei{a b:Nat}(ha:a<2048)(hb:b<2048):(a ||| b)<2048:=Nat.or_lt_two_pow (n:=11) ha hb
theorem P4{a:Nat}(p:Nat)(ha:a<2048):a-(a &&& p)<2048:=by omega
def pc(x:Nat):Nat:=(List.range 11).countP λk=>x.testBit k
theorem pc_le(x:Nat):pc x<=11:=by
 have:=List.countP_le_length (p:=λk=>x.testBit k) (l:=List.range 11);rw[vP]at this;exact this
theorem Bv{p q:Nat->Bool}:∀{l:List Nat},(∀k∈l,p k=true->q k=true)->(∃k∈l,q k=true/\p k=false)->l.countP p<l.countP q
 | [],_,⟨k,h,_⟩=>by cases h
 |a::l,h,⟨k,hk,h1,h2⟩=>by
  have hm:l.countP p<=l.countP q:=List.countP_mono_left λk hk z=>h k (yX _ hk) z
  rcases yI.mp hk with rfl|hk
  ·rw[List.countP_cons_of_pos h1,List.countP_cons_of_neg (by rw[h2]; decide)];omega
  ·have ih:=Bv (l:=l) (λk hk=>h k (yX _ hk)) ⟨k,hk,h1,h2⟩;rw[List.countP_cons,List.countP_cons];have:=h a yF;by_cases c:p a=true
   ·rw[zK c,zK (this c)]; omega
   ·rw[zL c]; omega
theorem pc_lt{a b:Nat}(h:Sb a b)(hb:b<2048)(ne:a≠b):pc a<pc b:=by
 refine Bv (λk _ z=>h k z) ?_;apply KG;intro hn;refine ne (h.J6 λk z=>?_);cases e:a.testBit k with
 |true=>rfl
 |false=>exact(hn ⟨k,uM.mpr (NB hb z),z,e⟩).elim
def BT:FS:=
 (yW (e2 kG (eC (.int 1)) (e2 xS (eC (.int 8)) (e1 (DS Dc) (z7 0)))))
def j0:List D->Option (Bool×D):=FR 1 1 BT
theorem eI:∀ds r,j0 ds=some r->ds.length=1/\zh 1 BT ds=some r:=yz
def BU:FS:=
 (yW (XV (Ji (e2 zu (e2 zO (z7 0) (eC (.int 0))) (eC (.str "left"))) (e2 zu (e2 zO (z7 0) (eC (.int 0))) (eC (.str "right")))) (e2 zu (e2 zO (z7 0) (eC (.int 2))) (eC (.int 0)))))
def U6:List D->Option (Bool×D):=FR 1 1 BU
theorem eJ:∀ds r,U6 ds=some r->ds.length=1/\zh 1 BU ds=some r:=yz
def BW:FS:=
 (zI (yP (tE (e2 zu (e2 zO (z7 0) (eC (.int 0))) (eC (.str "stop"))))
   (yW (eC (.int 2047)))
   yc)
  (zI (yP (xm (tE (e2 zu (e2 zO (z7 0) (eC (.int 0))) (eC (.str "when")))) (tE (e2 zu (e2 zO (z7 0) (eC (.int 0))) (eC (.str "unless")))))
   (yW (zW j0 (zC (e2 zO (z7 0) (eC (.int 1))) zD)))
   yc)
  (zI (zb 1 (eC (.int 0)))
  (zI (yP (tE (e2 yb (e2 zO (z7 0) (eC (.int 0))) (eC IO)))
   (zb 1 (e2 (vb Builtin.bitOr) (z7 1) (e2 kG (eC (.int 1)) (e2 zO (z7 0) (eC (.int 1))))))
   yc)
  (zI (yP (tE (e2 yb (e2 zO (z7 0) (eC (.int 0))) (eC IP)))
   (zb 1 (e2 (vb Builtin.bitOr) (z7 1) (e2 kG (eC (.int 1)) (e2 zO (z7 0) (eC (.int 2))))))
   yc)
  (zI (yP (tE (e2 yb (e2 zO (z7 0) (eC (.int 0))) (eC IN)))
   (zb 1 (e2 (vb Builtin.bitOr) (z7 1) (zW j0 (zC (eC (.str "carry")) zD))))
   yc)
  (yW (z7 1))))))))
def tu:List D->Option (Bool×D):=FR 1 2 BW
theorem e_:∀ds r,tu ds=some r->ds.length=1/\zh 2 BW ds=some r:=yz
def BV:FS:=
 (zI (zb 1 (eC (.int 0)))
  (zI (yP (tE (e2 yb (e2 zO (z7 0) (eC (.int 0))) (eC IR)))
   (zb 1 (e2 (vb Builtin.bitOr) (z7 1) (e2 kG (eC (.int 1)) (e2 zO (z7 0) (eC (.int 1))))))
   yc)
  (zI (yP (tE (e2 yb (e2 zO (z7 0) (eC (.int 0))) (eC IS)))
   (zb 1 (e2 (vb Builtin.bitOr) (e2 (vb Builtin.bitOr) (z7 1) (zW j0 (zC (eC (.str "nought")) zD))) (zW j0 (zC (eC (.str "sign")) zD))))
   yc)
  (zI (yP (gP (tE (e2 yb (e2 zO (z7 0) (eC (.int 0))) (eC IQ))) (pL (tE (zW U6 (zC (z7 0) zD)))))
   (zb 1 (e2 (vb Builtin.bitOr) (z7 1) (zW j0 (zC (eC (.str "carry")) zD))))
   yc)
  (yW (z7 1))))))
def um:List D->Option (Bool×D):=FR 1 2 BV
theorem eV:∀ds r,um ds=some r->ds.length=1/\zh 2 BV ds=some r:=yz
def Tl:Option (Bool×D)->Bool
 |some (false,.int u)=>decide (0<=u/\u<2048)
 |_=>false
def pJ(r:D):Bool:=Tl (tu [r])&&Tl (um [r])
theorem rq:pJ (.tup [.str "stop"])=true:=by decide +kernel
theorem rg:∀n:Int,(["set", "high"].all λw=>(List.range 8).all λd=>pJ (.tup [.str (Str.ofString w),.int d,.int n]))=true:=λn=>by kernel_rfl
theorem r_:(["copy", "add", "addc", "sub", "subc", "and", "or", "xor", "test"].all λw=>(List.range 8).all λd=>(List.range 8).all λs=>pJ (.tup [.str (Str.ofString w),.int d,.int s]))=true:=by kernel_rfl
theorem rn:(["left", "right"].all λw=>(List.range 8).all λd=>(List.range 32).all λs=>pJ (.tup [.str (Str.ofString w),.int d,.int s]))=true:=by kernel_rfl
theorem rj:∀n:Int,(["load", "store", "loadw", "storew"].all λw=>(List.range 8).all λd=>(List.range 8).all λs=>pJ (.tup [.str (Str.ofString w),.int d,.int s,.int n]))=true:=λn=>by kernel_rfl
theorem rh:∀t:Str,pJ (.tup [.str "jump",.str t])=true:=λn=>by kernel_rfl
theorem rf:∀t:Str,(["when", "unless"].all λw=>["carry", "nought", "sign"].all λk=>pJ (.tup [.str (Str.ofString w),.str (Str.ofString k),.str t]))=true:=λn=>by kernel_rfl
theorem EW{o:Option (Bool×D)}(h:Tl o=true):∃u:Nat,u<2048/\o=some (false,.int u):=by
 unfold Tl at h
 split at h
 ·rename_i u;have:=vQ h;exact⟨u.toNat,by omega,by rw[MV this.1]⟩
 ·cases h
theorem z_{α:Type}{l:List α}{f:α->Bool}(h:l.all f=true){x:α}(hx:x∈l):f x=true:=wm.mp h x hx
theorem kQ{d:Int}{n:Nat}(h0:0<=d)(h1:d<n):∃k∈List.range n,d=(k:Nat):=⟨d.toNat,uM.mpr (by omega),by omega⟩
theorem Rk{f:D->Bool}(u0:f (.tup [.str "stop"])=true)
  (u1:∀n:Int,(["set", "high"].all λw=>(List.range 8).all λd=>f (.tup [.str (Str.ofString w),.int d,.int n]))=true)
  (u2:(["copy", "add", "addc", "sub", "subc", "and", "or", "xor", "test"].all λw=>(List.range 8).all λd=>(List.range 8).all λs=>f (.tup [.str (Str.ofString w),.int d,.int s]))=true)
  (u3:(["left", "right"].all λw=>(List.range 8).all λd=>(List.range 32).all λs=>f (.tup [.str (Str.ofString w),.int d,.int s]))=true)
  (u4:∀n:Int,(["load", "store", "loadw", "storew"].all λw=>(List.range 8).all λd=>(List.range 8).all λs=>f (.tup [.str (Str.ofString w),.int d,.int s,.int n]))=true)
  (u5:∀t:Str,f (.tup [.str "jump",.str t])=true)
  (u6:∀t:Str,(["when", "unless"].all λw=>["carry", "nought", "sign"].all λk=>f (.tup [.str (Str.ofString w),.str (Str.ofString k),.str t]))=true)
  {r:D}(h:yO r)(hl:zS r=false):f r=true:=by
 cases h with
 |label t=>cases hl
 |plain h=>
  cases h with
  |stop=>exact u0
  |gX hw d0 d1 n0 n1=>
   obtain⟨k,hk,rfl⟩:=kQ (n:=8) d0 d1;rcases hw with rfl|rfl
   ·exact z_ (z_ (u1 _) (x := "set") (by decide)) hk
   ·exact z_ (z_ (u1 _) (x := "high") (by decide)) hk
  |two hw d0 d1 s0 s1=>
   obtain⟨k,hk,rfl⟩:=kQ (n:=8) d0 d1;obtain⟨j,hj,rfl⟩:=kQ (n:=8) s0 s1;rcases hw with rfl|rfl|rfl|rfl|rfl|rfl|rfl|rfl|rfl
   ·exact z_ (z_ (z_ u2 (x := "copy") (by decide)) hk) hj
   ·exact z_ (z_ (z_ u2 (x := "add") (by decide)) hk) hj
   ·exact z_ (z_ (z_ u2 (x := "addc") (by decide)) hk) hj
   ·exact z_ (z_ (z_ u2 (x := "sub") (by decide)) hk) hj
   ·exact z_ (z_ (z_ u2 (x := "subc") (by decide)) hk) hj
   ·exact z_ (z_ (z_ u2 (x := "and") (by decide)) hk) hj
   ·exact z_ (z_ (z_ u2 (x := "or") (by decide)) hk) hj
   ·exact z_ (z_ (z_ u2 (x := "xor") (by decide)) hk) hj
   ·exact z_ (z_ (z_ u2 (x := "test") (by decide)) hk) hj
  |gY hw d0 d1 n0 n1=>
   obtain⟨k,hk,rfl⟩:=kQ (n:=8) d0 d1;obtain⟨j,hj,rfl⟩:=kQ (n:=32) n0 n1;rcases hw with rfl|rfl
   ·exact z_ (z_ (z_ u3 (x := "left") (by decide)) hk) hj
   ·exact z_ (z_ (z_ u3 (x := "right") (by decide)) hk) hj
  |mem hw d0 d1 s0 s1 n0 n1=>
   obtain⟨k,hk,rfl⟩:=kQ (n:=8) d0 d1;obtain⟨j,hj,rfl⟩:=kQ (n:=8) s0 s1;rcases hw with rfl|rfl|rfl|rfl
   ·exact z_ (z_ (z_ (u4 _) (x := "load") (by decide)) hk) hj
   ·exact z_ (z_ (z_ (u4 _) (x := "store") (by decide)) hk) hj
   ·exact z_ (z_ (z_ (u4 _) (x := "loadw") (by decide)) hk) hj
   ·exact z_ (z_ (z_ (u4 _) (x := "storew") (by decide)) hk) hj
 |wA t=>exact u5 t
 |cond t hw hk=>
  rcases hw with rfl|rfl<;>rcases hk with rfl|rfl|rfl
  ·exact z_ (z_ (u6 t) (x := "when") (by decide)) (x := "carry") (by decide)
  ·exact z_ (z_ (u6 t) (x := "when") (by decide)) (x := "nought") (by decide)
  ·exact z_ (z_ (u6 t) (x := "when") (by decide)) (x := "sign") (by decide)
  ·exact z_ (z_ (u6 t) (x := "unless") (by decide)) (x := "carry") (by decide)
  ·exact z_ (z_ (u6 t) (x := "unless") (by decide)) (x := "nought") (by decide)
  ·exact z_ (z_ (u6 t) (x := "unless") (by decide)) (x := "sign") (by decide)
theorem Hm{r:D}(h:yO r)(hl:zS r=false):pJ r=true:=Rk rq rg r_ rn rj rh rf h hl
def g9:Option (Bool×D)->Nat
 |some (_,.int u)=>u.toNat
 |_=>0
theorem sA{r:D}(h:yO r)(hl:zS r=false):tu [r]=some (false,.int (g9 (tu [r]):Nat))/\g9 (tu [r])<2048:=by
 have:=Hm h hl;unfold pJ at this;rw[xB]at this;obtain⟨u,hu,e⟩:=EW this.1;rw[e];exact⟨rfl,hu⟩
theorem cT{r:D}(h:yO r)(hl:zS r=false):um [r]=some (false,.int (g9 (um [r]):Nat))/\g9 (um [r])<2048:=by
 have:=Hm h hl;unfold pJ at this;rw[xB]at this;obtain⟨u,hu,e⟩:=EW this.2;rw[e];exact⟨rfl,hu⟩
def MB:FE:=(kB (tE (zW tm (zC (z7 2) zD))) (e2 zO (z7 1) (e2 zO (z7 2) (e1 jA (eC (.int 1))))) (eC .non))
def Uj:FS:=
 (zI (zb 1 (zW qP (zC (z7 0) zD)))
  (v6 (xr 1 (v0 (zW wB (zC (z7 0) zD))) (zz 2) xw MB)))
def qS:List D->Option (Bool×D):=FR 1 2 Uj
theorem eZ:∀ds r,qS ds=some r->ds.length=1/\zh 2 Uj ds=some r:=yz
theorem RH(x0:D):qS [x0]=zh 2 Uj [x0]:=rfl
def Ul:FS:=
 (zI (yP (tE (e2 zu (e2 zO (z7 0) (eC (.int 0))) (eC (.str "stop"))))
   (v6 (xY zD))
   yc)
  (zI (yP (tE (e2 zu (e2 zO (z7 0) (eC (.int 0))) (eC (.str "jump"))))
   (v6 (xY (zC (z7 2) zD)))
   yc)
  (zI (yP (tE (e2 kE (z7 2) (eC .non)))
   (v6 (xY (zC (e2 xS (z7 1) (eC (.int 1))) zD)))
   yc)
  (v6 (eL kH (zC (xY (zC (e2 xS (z7 1) (eC (.int 1))) (zC (z7 2) zD))) zD))))))
def ZX:List D->Option (Bool×D):=FR 3 3 Ul
theorem fA:∀ds r,ZX ds=some r->ds.length=3/\zh 3 Ul ds=some r:=yz
theorem RK(x0 x1 x2:D):ZX [x0,x1,x2]=zh 3 Ul [x0,x1,x2]:=rfl
def wd:D->Str
 |.tup (.str w::_)=>w
 |_ => ""
def kR(r:D):Str:=match Fj r with
 |.str t=>t
 |_ => ""
def yl(z6:List D)(r:D):Option Nat:=match yL r with
 |true=>(xH (kR r) z6).2
 |false=>none
def yf:Option Nat->D
 |none=>.non
 |some p=>.int (p:Int)
def two(a b:Nat):List Nat:=if a=b then[a]else if a<b then[a,b]else[b,a]
def jU(r:D)(i:Nat)(t:Option Nat):List Nat:=if wd r = "stop" then[]else match t with
 |none=>[i+1]
 |some p=>if wd r = "jump" then[p]else two (i+1) p
def zB(z6:List D):List D:=z6.filter λd=>!zS d
def Wf(z6:List D)(i:Nat):List Nat:=match(zB z6)[i]? with
 |some r=>jU r i (yl z6 r)
 |none=>[]
theorem TZ{g:FG}{e:FE}{σ:zi}(v:Nat->D):∀{ds:List D}(k:Nat),(∀i d,ds[i]?=some d->∃σ1,g d σ=some σ1/\e σ1=some (v (k+i)))->wU g xw e σ ds=some ((List.range' k ds.length).map v)
 | [],_,_=>rfl
 |d::ds,k,h=>by
  obtain⟨σ1,e1,e2⟩:=h 0 d rfl
  have ih:=TZ v (ds:=ds) (k+1) λi d' hd=>by
   rw[show k+1+i=k+(i+1) by omega];exact h (i+1) d' (by simpa using hd)
  show(g d σ).bind _=_;rw[e1];show(e σ1).bind _=_;rw[e2];show(wU g xw e σ ds).bind _=_;rw[ih];rfl
theorem O5{r:D}(h:yO r):zO r (.int 0)=some (.str (wd r)):=by
 cases h with
 |label t=>rfl
 |plain h=>cases h<;>rfl
 |wA t=>rfl
 |cond t hw hk=>rfl
theorem Rl{r:D}(h:yO r):yL r=(wd r == "jump" || wd r == "when" || wd r == "unless"):=by
 cases h with
 |label t=>rfl
 |plain h=>cases h<;>rfl
 |wA t=>rfl
 |cond t hw hk=>rfl
theorem Zx{r:D}{t:Str}(h:yO r)(hj:yL r=true)(e:zO r (.int (-1))=some (.str t)):kR r=t:=by
 cases h with
 |label u=>cases hj
 |plain h=>
  obtain⟨_,_,_,_,z,_⟩:=gA h;rw[z]at hj;cases hj
 |wA u=>cases e; rfl
 |cond u hw hk=>cases e; rfl
theorem Lj(a b:Str):zu (.str a) (.str b)=some (.bl (a==b)):=rfl
theorem lP(a b:Nat):kH [.lst [.int (a:Int),.int (b:Int)]]=some (.lst (zH (two a b))):=by
 have e:uH [(a:Int),(b:Int)]=if a=b then[(a:Int)]else[(a:Int),(b:Int)]:=by
  show qB (qB [] (a:Int)) (b:Int)=_;unfold qB;by_cases h:a=b
  ·subst h; simp
  ·have:¬ (a:Int)=(b:Int):=by omega
   simp[h,this]
 show(if([(a:Int),(b:Int)]).length<1000/\(uH [(a:Int),(b:Int)]).length<64 then some (D.lst ((L2.isort (uH [(a:Int),(b:Int)])).map D.int))else none)=_;rw[e];unfold two;by_cases h:a=b
 ·rw[zK h,zK h];rfl
 ·rw[zL h,zL h,zK ⟨by show 2<1000; decide,by show 2<64; decide⟩];show some (D.lst ((L2.insI (a:Int) [(b:Int)]).map D.int))=_;unfold L2.insI;by_cases h2:a<b
  ·rw[zK h2,zK (by omega)]; rfl
  ·rw[zL h2,zL (by omega)]; rfl
theorem z0j{r:D}(h:yO r)(i:Nat){t:Option Nat}(ht:t.isSome=yL r):ZX [r,.int (i:Int),yf t]=some (true,.lst (zH (jU r i t))):=by
 have e0:=O5 h;have ej:=Rl h;have e1:=Lj (wd r) "stop";have e2:=Lj (wd r) "jump";rw[RK];unfold Ul jU;by_cases c1:wd r = "stop"
 ·rw[zK c1];rw[qN.mpr c1]at e1;simp![e0,e1];rfl
 ·rw[zL c1];rw[pT.mpr c1]at e1;by_cases c2:wd r = "jump"
  ·rw[qN.mpr c2]at e2 ej;rw[ej]at ht;cases t with
   |none=>cases ht
   |some p=>
    dsimp only;rw[zK c2];unfold yf;simp![e0,e1,e2];rfl
  ·rw[pT.mpr c2]at e2;cases t with
   |none=>
    unfold yf;simp![e0,e1,e2,kE,add_int];rfl
   |some p=>
    dsimp only;rw[zL c2];unfold yf;have e3:=lP (i+1) p;rw[show((i+1:Nat):Int)=(i:Int)+1 by omega]at e3;simp![e0,e1,e2,kE,add_int,e3]
theorem Yb{z6:List D}(P:PC z6){r:D}(hr:r∈z6):(yl z6 r).isSome=yL r/\∀t,yL r=true->zO r (.int (-1))=some (.str t)->kR r=t:=by
 have hi:=P.it r hr;refine⟨?_,λt hj e=>Zx hi hj e⟩;unfold yl;cases hj:yL r with
 |false=>rfl
 |true=>
  obtain⟨t,p,e1,e2⟩:=P.tg r hr hj;rw[Zx hi hj e1,e2];rfl
theorem Lp{z6:List D}(P:PC z6):qS [.lst z6]=some (true,.lst ((zB z6).map λr=>yf (yl z6 r))):=by
 obtain⟨ks,vs,e1,hk⟩:=Ff P.it (by have:=P.ln; omega);have e2:wB [.lst z6]=some (true,.lst (zB z6)):=gE P.it
 have e3:=g6 (g:=zz 2) (e:=MB) (σ:=[some (false,.lst z6),some (false,.dic ks vs),none]) (λr=>yf (yl z6 r)) (ds:=zB z6) λr hr=>by
  have hm:r∈z6:=(w6.mp hr).1;have hj:=TL (P.it r hm);refine⟨_,rfl,?_⟩;unfold MB yl;cases z:yL r with
  |true=>
   rw[z]at hj;obtain⟨t,p,b1,b2⟩:=P.tg r hm z
   have eg:zO (.dic ks vs) (.str t)=some (.int (p:Int)):=by
    show getK ks vs (.inr t)=_;rw[hk,b2];rfl
   rw[Zx (P.it r hm) z b1,b2];unfold yf;simp![hj,b1,eg]
  |false=>
   rw[z]at hj;unfold yf;simp![hj]
 rw[RH];unfold Uj;simp![e1,e2,e3]
def xo(z6:List D):List D:=(List.range (zB z6).length).map λi=>.lst (zH (Wf z6 i))
theorem Lz{z6:List D}{i:Nat}(h:i<(zB z6).length):zO (.lst (xo z6)) (.int (i:Int))=some (.lst (zH (Wf z6 i))):=by
 refine tJ (by omega) ?_;unfold xo;rw[xg,xC,gT h];rfl
theorem Ot(t:Str):∀(L:List D)(s:Nat×Option Nat),(∀p,s.2=some p->p<=s.1)->∀p,(L.foldl (vU t) s).2=some p->p<=(L.foldl (vU t) s).1
 | [],s,h=>h
 |d::L,s,h=>by
  rw[vB];refine Ot t L _ λp hp=>?_
  unfold vU at hp ⊢;cases hl:zS d with
  |true=>
   rw[hl]at hp;dsimp only at hp ⊢;cases hn:Xx t d with
   |true=>
    rw[hn]at hp;cases hp;exact zt _
   |false=>
    rw[hn]at hp;exact h p hp
  |false=>
   rw[hl]at hp;exact Nat.le_succ_of_le (h p hp)
theorem JM{z6:List D}{i w:Nat}(hi:i<(zB z6).length)(h:w∈Wf z6 i):w<=(zB z6).length:=by
 have bound:∀t p,(xH t z6).2=some p->p<=(zB z6).length:=λt p hp=>by
  have:=Ot t z6 (0,none) (λp z=>nomatch z) p hp;rw[Tv t z6 (0,none),xn]at this;exact this
 unfold Wf at h;rw[yZ hi]at h;generalize (zB z6)[i]=r at h;dsimp only at h;unfold jU at h
 split at h
 ·cases h
 ·have hb:∀p,yl z6 r=some p->p<=(zB z6).length:=λp hp=>by
   unfold yl at hp
   split at hp
   ·exact bound _ _ hp
   ·cases hp
  split at h
  ·cases yt.mp h;omega
  ·rename_i p hp;have:=hb p hp
   split at h
   ·cases yt.mp h;omega
   ·unfold two at h
    split at h
    ·cases yt.mp h;omega
    ·split at h
     ·rcases yI.mp h with rfl|h
      ·omega
      ·cases yt.mp h; omega
     ·rcases yI.mp h with rfl|h
      ·omega
      ·cases yt.mp h; omega
theorem JN(z6:List D)(i:Nat):(Wf z6 i).length<=2:=by
 unfold Wf jU two
 split
 ·split
  ·exact xb _
  ·split
   ·exact VX (xb _)
   ·split
    ·exact VX (xb _)
    ·split
     ·exact VX (xb _)
     ·split<;>exact zt 2
 ·exact xb _
def MC:FE:=(zW ZX (zC (e2 zO (z7 1) (z7 2)) (zC (z7 2) (zC (z7 3) zD))))
def Um:FS:=
 (zI (zb 1 (zW wB (zC (z7 0) zD)))
  (v6 (xr 2 (uW (zW qS (zC (z7 0) zD))) (wL 2 3) xw MC)))
def qx:List D->Option (Bool×D):=FR 1 2 Um
theorem fB:∀ds r,qx ds=some r->ds.length=1/\zh 2 Um ds=some r:=yz
theorem RL(x0:D):qx [x0]=zh 2 Um [x0]:=rfl
theorem Ly{z6:List D}(P:PC z6):qx [.lst z6]=some (true,.lst (xo z6)):=by
 have e1:wB [.lst z6]=some (true,.lst (zB z6)):=gE P.it;have e2:=Lp P
 have e3:=TZ (g:=wL 2 3) (e:=MC) (σ:=[some (false,.lst z6),some (false,.lst (zB z6)),none,none]) (λi=>.lst (zH (Wf z6 i))) (ds:=tR ((zB z6).map λr=>yf (yl z6 r))) 0 λi d hd=>by
  rw[kT,xC]at hd;cases hr:(zB z6)[i]? with
  |none=>rw[hr]at hd; cases hd
  |some r=>
   rw[hr]at hd;cases hd;refine⟨_,rfl,?_⟩;have hm:r∈z6:=(w6.mp (wK hr)).1;have e4:=z0j (P.it r hm) i (t:=yl z6 r) (Yb P hm).1;have ew:Wf z6 i=jU r i (yl z6 r):=by unfold Wf; rw[hr]
   rw[xn,ew];have ix:zO (.lst (zB z6)) (.int (i:Int))=some r:=tJ (by omega) (by rw[xg]; exact hr);unfold MC;simp![ix,e4]
 rw[jL,zj,<-Qf]at e3;rw[RL];unfold Um xo;generalize (zB z6).map (λr=>yf (yl z6 r))=ts at *;simp![e1,e2,uW,e3]
def OB:FS:=(zb 2 (e2 (vb Builtin.bitOr) (z7 2) (e2 zO (z7 0) (z7 3))))
def Ua:FS:=
 (zI (zb 2 (eC (.int 0)))
  (zI (gF (v0 (z7 1)) (zz 3)
   OB)
  (yW (z7 2))))
def j2:List D->Option (Bool×D):=FR 2 4 Ua
theorem eN:∀ds r,j2 ds=some r->ds.length=2/\zh 4 Ua ds=some r:=yz
theorem R8(x0 x1:D):j2 [x0,x1]=zh 4 Ua [x0,x1]:=rfl
def Q0:FA:=(qX (eC (.int 0)) (e2 xS (eL xW (zC (z7 0) zD)) (eC (.int 1))))
def ON:uO:=(C4 (z7 2) (z7 3))
def Xw:uO:=(Y6 (v0 (z7 4)) (zz 2)
      ON)
def JQ:FS:=
 (YJ 1 (Xu Q0)
  (Y7 (Y6 (uW (z7 0)) (wL 3 4)
    Xw)
   Xv))
def gf:List D->Option (Bool×D):=FR 1 5 JQ
theorem da:∀ds r,gf ds=some r->ds.length=1/\zh 5 JQ ds=some r:=yz
theorem Po(x0:D):gf [x0]=zh 5 JQ [x0]:=rfl
def Xo:FS:=(zI (gG 6 5)
    (zI (zb 7 (e2 (vb Builtin.bitOr) (zW tu (zC (e2 zO (z7 1) (z7 6)) zD)) (e2 (vb Builtin.bitAnd) (Uu j2 (zC (vn 4) (zC (e2 zO (z7 2) (z7 6)) zD))) (e1 Uz (zW um (zC (e2 zO (z7 1) (z7 6)) zD))))))
    (yP (tE (e2 yd (z7 7) (e2 zO (vn 4) (z7 6))))
     (zI (WF 4 (z7 6) (z7 7))
      (wO 5 (e2 zO (z7 3) (z7 6))))
     yc)))
def XR:FT:=(tE (e2 yd (vn 5) (xY zD)))
def Ub:FS:=
 (zI (zb 1 (zW wB (zC (z7 0) zD)))
  (zI (zb 2 (zW qx (zC (z7 0) zD)))
  (zI (zb 3 (zW gf (zC (z7 2) zD)))
  (zI (vX 4 (e2 XX (e2 XZ (xY (zC (eC (.int 0)) zD)) (eL xW (zC (z7 1) zD))) (xY (zC (eC (.int 2047)) zD))))
  (zI (vX 5 (eL Ju (zC (eL xW (zC (z7 1) zD)) zD)))
  (zI (pK XR
   Xo)
  (zI (uy 5) (jP 4))))))))
def qQ:List D->Option (Bool×D):=FR 1 8 Ub
theorem eO:∀ds r,qQ ds=some r->ds.length=1/\zh 8 Ub ds=some r:=yz
theorem R9(x0:D):qQ [x0]=zh 8 Ub [x0]:=rfl
def gt(T:List Nat)(i:Nat):Nat:=T.getD i 0
theorem IT{T:List Nat}{i:Nat}(h:i<T.length):T[i]?=some (gt T i):=by
 unfold gt;rw[x_,yZ h];rfl
theorem RN{T:List Nat}{m i x:Nat}(h:m<T.length):gt (T.set m x) i=if i=m then x else gt T i:=by
 unfold gt;rw[x_,x_,Ys];by_cases c:m=i
 ·rw[zK c,zK c.symm,zK (c▸h)];rfl
 ·rw[zL c,zL (λz=>c z.symm)]
def v4(T:List Nat)(ws:List Nat):Nat:=ws.foldl (λa w=>a ||| gt T w) 0
theorem Ej(T:List Nat)(k:Nat):∀(ws:List Nat)(a:Nat),(ws.foldl (λa w=>a ||| gt T w) a).testBit k=true↔a.testBit k=true\/∃w∈ws,(gt T w).testBit k=true
 | [],a=>⟨.inl,λh=>h.elim id λ⟨_,z,_⟩=>by cases z⟩
 |w::ws,a=>by
  rw[vB,Ej T k ws,Nat.testBit_or,Z6]
  constructor
  ·rintro((h|h)|⟨v,hv,h⟩)
   ·exact .inl h
   ·exact .inr ⟨w,yF,h⟩
   ·exact .inr ⟨v,yX _ hv,h⟩
  ·rintro(h|⟨v,hv,h⟩)
   ·exact .inl (.inl h)
   ·rcases yI.mp hv with rfl|hv
    ·exact .inl (.inr h)
    ·exact .inr ⟨v,hv,h⟩
theorem bD(T ws:List Nat)(k:Nat):(v4 T ws).testBit k=true↔∃w∈ws,(gt T w).testBit k=true:=by
 unfold v4;rw[Ej,Nat.zero_testBit];exact⟨λh=>h.elim (λz=>by cases z) id,.inr⟩
theorem bF(T ws:List Nat)(w:Nat):v4 T (ws++[w])=(v4 T ws ||| gt T w):=by
 unfold v4;rw[Mb];rfl
theorem bE{T:List Nat}(h:∀i,gt T i<2048)(ws:List Nat):v4 T ws<2048:=by
 have:∀(ws:List Nat)(a:Nat),a<2048->ws.foldl (λa w=>a ||| gt T w) a<2048:=by
  intro ws
  induction ws with
  |nil=>exact λa ha=>ha
  |cons w ws ih=>exact λa ha=>ih _ (Ei ha (h w))
 exact this ws 0 (by decide)
def rl(u p:Nat)(T ws:List Nat):Nat:=u ||| (v4 T ws-(v4 T ws &&& p))
theorem dQ(u p:Nat)(T ws:List Nat)(k:Nat):(rl u p T ws).testBit k=true↔u.testBit k=true\/((∃w∈ws,(gt T w).testBit k=true)/\p.testBit k=false):=by
 unfold rl;rw[Nat.testBit_or,DF,Z6,xB,bD,Bool.not_eq_true']
theorem WE{u p:Nat}{T T' ws:List Nat}(h:∀w∈ws,Sb (gt T w) (gt T' w)):Sb (rl u p T ws) (rl u p T' ws):=λk z=>by
 rw[dQ]at z ⊢;exact z.imp id λ⟨⟨w,hw,e⟩,hp⟩=>⟨⟨w,hw,h w hw k e⟩,hp⟩
theorem dS{u p:Nat}{T T' ws:List Nat}(h:∀w∈ws,gt T w=gt T' w):rl u p T ws=rl u p T' ws:=
 (WE λw hw=>by rw[h w hw]; exact Sb.refl _).J6 (WE λw hw=>by rw[h w hw]; exact Sb.refl _)
theorem Gm{u p:Nat}{T ws:List Nat}(hu:u<2048)(h:∀i,gt T i<2048):rl u p T ws<2048:=Ei hu (P4 _ (bE h ws))
structure BA(n:Nat)(U P:Nat->Nat)(W:Nat->List Nat)(S:List Nat):Prop where
 last:gt S n=2047
 all:∀i,i<n->Sb (rl (U i) (P i) S (W i)) (gt S i)
structure NI(n:Nat)(U P:Nat->Nat)(W:Nat->List Nat)(T dl:List Nat):Prop where
 len:T.length=n+1
 last:gt T n=2047
 lt:∀i,gt T i<2048
 up:∀i,i<n->Sb (gt T i) (rl (U i) (P i) T (W i))
 fx:∀i,i<n->i ∉ dl->gt T i=rl (U i) (P i) T (W i)
 dn:∀i∈dl,i<n
 least:∀S,BA n U P W S->∀i,i<=n->Sb (gt T i) (gt S i)
section
variable{n:Nat}{U P:Nat->Nat}{W:Nat->List Nat}{T dl:List Nat}{m:Nat}
theorem Aa:NI n U P W (List.replicate n 0++[2047]) (List.range n):=by
 have g0:∀i,i<n->gt (List.replicate n 0++[2047]) i=0:=λi hi=>by
  unfold gt;rw[x_,gS (by rw[t6]; exact hi),Yr,zK hi];rfl
 have gn:gt (List.replicate n 0++[2047]) n=2047:=by
  unfold gt;rw[x_,VO (by rw[t6]; exact zt _),t6,VW];rfl
 refine⟨by rw[yD,t6]; rfl,gn,λi=>?_,λi hi=>by rw[g0 i hi]; exact LM _,λi hi z=>(z (uM.mpr hi)).elim,λi hi=>uM.mp hi,λS c i hi=>?_⟩
 ·rcases Nat.lt_trichotomy i n with h|h|h
  ·rw[g0 i h]; decide
  ·rw[h,gn]; decide
  ·unfold gt;rw[x_,wo (by rw[yD,t6]; exact h)]
   decide
 ·rcases Yx i n with h|h
  ·rw[g0 i h]; exact LM _
  ·have:i=n:=by omega
   rw[this,gn,c.last];exact Sb.refl _
theorem AZ(N:NI n U P W T (dl++[m]))(e:rl (U m) (P m) T (W m)=gt T m):NI n U P W T dl:=⟨N.len,N.last,N.lt,N.up,λi hi h=>by
 by_cases c:i=m
 ·rw[c,e]
 ·exact N.fx i hi λz=>(w4.mp z).elim h λz=>c (yt.mp z),λi hi=>N.dn i (pQ _ hi),N.least⟩
theorem AY{C:List Nat}(N:NI n U P W T (dl++[m]))(hu:U m<2048)(hC:∀j,j∈C↔(j<n/\m∈W j)):NI n U P W (T.set m (rl (U m) (P m) T (W m))) (dl++C):=by
 have hm:m<n:=N.dn m (vJ _ (yt.mpr rfl));have ht:m<T.length:=by rw[N.len]; omega
 have gs:∀i,gt (T.set m (rl (U m) (P m) T (W m))) i=if i=m then rl (U m) (P m) T (W m)else gt T i:=λi=>RN ht
 have up:∀i,Sb (gt T i) (gt (T.set m (rl (U m) (P m) T (W m))) i):=λi=>by
  rw[gs];by_cases c:i=m
  ·rw[zK c,c]; exact N.up m hm
  ·rw[zL c]; exact Sb.refl _
 have same:∀i,m ∉ W i->rl (U i) (P i) T (W i)=rl (U i) (P i) (T.set m (rl (U m) (P m) T (W m))) (W i):=λi h=>dS λw hw=>by
  rw[gs,zL (λz:w=m=>h (z▸hw))]
 refine⟨by rw[u7]; exact N.len,by rw[gs,zL (by omega)]; exact N.last,λi=>?_,λi hi=>?_,λi hi h=>?_,λi hi=>?_,λS c i hi=>?_⟩
 ·rw[gs]
  split
  ·exact Gm hu N.lt
  ·exact N.lt i
 ·rw[gs];by_cases c:i=m
  ·rw[zK c,c]; exact WE λw _=>up w
  ·rw[zL c]; exact(N.up i hi).trans (WE λw _=>up w)
 ·have nw:m ∉ W i:=λz=>h (vJ _ ((hC i).mpr ⟨hi,z⟩))
  rw[<-same i nw,gs];by_cases c:i=m
  ·rw[zK c,c]
  ·rw[zL c];exact N.fx i hi λz=>(w4.mp z).elim (λz=>h (pQ _ z)) λz=>c (yt.mp z)
 ·rcases w4.mp hi with z|z
  ·exact N.dn i (pQ _ z)
  ·exact((hC i).mp z).1
 ·rw[gs];by_cases e:i=m
  ·rw[zK e,e];refine Sb.trans (WE λw hw=>?_) (c.all m hm);rcases Yx w (n+1)with hw'|hw'
   ·exact N.least S c w (by omega)
   ·have:gt T w=0:=by
     unfold gt;rw[x_,wo (by rw[N.len]; exact hw')];rfl
    rw[this];exact LM _
  ·rw[zL e]; exact N.least S c i hi
def qg(T:List Nat):Nat:=(T.map pc).sum
theorem HW:∀T:List Nat,qg T<=11*T.length
 | []=>zt _
 |x::T=>by
  have:=HW T;have h:=pc_le x;show pc x+(T.map pc).sum<=11*(T.length+1);unfold qg at this;omega
theorem HX:∀{T:List Nat}{m x:Nat},m<T.length->qg (T.set m x)+pc (gt T m)=qg T+pc x
 | [],m,x,h=>by cases h
 |y::T,0,x,_=>by
  show pc x+(T.map pc).sum+pc y=pc y+(T.map pc).sum+pc x;omega
 |y::T,m+1,x,h=>by
  have ih:=HX (T:=T) (m:=m) (x:=x) (by simpa using h);have e:gt (y::T) (m+1)=gt T m:=rfl;rw[e];show pc y+qg (T.set m x)+pc (gt T m)=pc y+qg T+pc x;omega
end
theorem OP{T:List Nat}{i:Nat}(h:i<T.length):zO (.lst (zH T)) (.int (i:Int))=some (.int (gt T i:Nat)):=by
 refine tJ (by omega) ?_;unfold zH;rw[xg,xC,IT h];rfl
theorem C6{T ws:List Nat}(h:∀w∈ws,w<T.length):j2 [.lst (zH T),.lst (zH ws)]=some (false,.int (v4 T ws:Nat)):=by
 obtain⟨σ',e1,x3,rfl⟩:=kP (g:=zz 3) (b:=OB) (λi σ=>∃x3,σ=[some (false,.lst (zH T)),some (false,.lst (zH ws)),some (false,.int ((v4 T (ws.take i):Nat):Int)),x3]) (ds:=zH ws)
  (σ:=[some (false,.lst (zH T)),some (false,.lst (zH ws)),some (false,.int 0),none]) 0 ⟨none,rfl⟩ (by
  rintro i d σ hd ⟨x3,rfl⟩;rw[xn];unfold zH at hd;rw[xC]at hd;cases hw:ws[i]? with
  |none=>rw[hw]at hd; cases hd
  |some w=>
   rw[hw]at hd;cases hd;have hi:=(yM.mp hw).1;have ix:=OP (T:=T) (h w (wK hw))
   have eo:v4 T (ws.take (i+1))=(v4 T (ws.take i) ||| gt T w):=by
    rw[Yv hi,bF];rw[yZ hi]at hw;cases hw;rfl
   have eb:=Bn (v4 T (ws.take i)) (gt T w);rw[<-eo]at eb;refine⟨_,[some (false,.lst (zH T)),some (false,.lst (zH ws)),some (false,.int ((v4 T (ws.take (i+1)):Nat):Int)),some (false,.int (w:Int))],rfl,.inl ?_,_,rfl⟩;unfold OB;generalize zH T=TT at *;generalize zH ws=WW at *;simp![ix,eb])
 have hl:(zH ws).length=ws.length:=by unfold zH; rw[zj]
 rw[hl,xn,ZD]at e1;rw[R8];unfold Ua;generalize zH T=TT at *;generalize zH ws=WW at *;simp![e1]
theorem OI{g:FG}{b:uO}(P:Nat->List (List D)->zi->Prop):∀{ds:List D}{nds:List (List D)} {σ:zi} (n:Nat),P n nds σ->(∀i d nds σ,ds[i]?=some d->P (n+i) nds σ->∃σ1 nds2 σ2,g d σ=some σ1/\b nds σ1=some (.nx nds2 σ2)/\P (n+i+1) nds2 σ2)->
  ∃nds' σ',Xt g b ds nds σ=some (.nx nds' σ')/\P (n+ds.length) nds' σ'
 | [],nds,σ,n,h,_=>⟨nds,σ,rfl,h⟩
 |d::ds,nds,σ,n,h,step=>by
  obtain⟨σ1,nds2,σ2,e1,e2,p2⟩:=step 0 d nds σ rfl h
  obtain⟨nds',σ',e3,p3⟩:=OI P (ds:=ds) (nds:=nds2) (σ:=σ2) (n+1) p2 λi d' nn τ hd hp=>by
   obtain⟨a,b1,b2,c1,c2,c3⟩:=step (i+1) d' nn τ (by simpa using hd) (by rw[show n+(i+1)=n+1+i by omega]; exact hp);exact⟨a,b1,b2,c1,c2,by rw[show n+1+i+1=n+(i+1)+1 by omega]; exact c3⟩
  refine⟨nds',σ',?_,by rw[xK,show n+(ds.length+1)=n+1+ds.length by omega]; exact p3⟩;show(g d σ).bind _=_;rw[e1];show(b nds σ1).bind _=_;rw[e2];exact e3
def gl(L:List (List Nat))(p:Nat):List Nat:=L.getD p []
theorem De{L:List (List Nat)}{i:Nat}(h:i<L.length):L[i]?=some (gl L i):=by
 unfold gl;rw[x_,yZ h];rfl
theorem Dd{T:List (List Nat)}{m i:Nat}{x:List Nat}(h:m<T.length):gl (T.set m x) i=if i=m then x else gl T i:=by
 unfold gl;rw[x_,x_,Ys];by_cases c:m=i
 ·rw[zK c,zK c.symm,zK (c▸h)];rfl
 ·rw[zL c,zL (λz=>c z.symm)]
theorem Nq{n:Nat}{W:Nat->List Nat}(hn:n<=100)(hw:∀i,i<n->∀w∈W i,w<=n)(hl:∀i,(W i).length<=2) :
  ∃L:List (List Nat),L.length=n+1/\(∀p,p<=n->∀j,j∈gl L p↔(j<n/\p∈W j))/\(∀p,(gl L p).length<=2*n)/\gf [.lst ((List.range n).map λi=>.lst (zH (W i)))]=some (false,.lst (L.map λl=>.lst (zH l))):=by
 obtain⟨ws,hws⟩:∃ws:List D,ws=(List.range n).map λi=>.lst (zH (W i)):=⟨_,rfl⟩
 have wl:ws.length=n:=by rw[hws,zj,vP]
 have r1:Q0 [some (false,.lst ws),none,none,none,none]=some (ww (n+1)):=by
  refine gC (n:=((n+1:Nat):Int)) ?_ (by omega);show some (D.int ((ws.length:Int)+1))=_;rw[wl];rfl
 rw[<-hws]
 obtain⟨nds',σ',e1,L,x2,x3,x4,l1,l2,l3,rfl,rfl⟩:=OI (g:=wL 3 4) (b:=Xw) (λi nds σ=>∃(L:List (List Nat)) (x2 x3 x4:Option (Bool×D)),L.length=n+1/\(∀p,p<=n->∀j,j∈gl L p↔(j<i/\p∈W j))/\(∀p,(gl L p).length<=2*i)/\nds=L.map zH/\σ=[some (false,.lst ws),none,x2,x3,x4]) (ds:=tR ws)
  (nds:=List.replicate (n+1) []) (σ:=[some (false,.lst ws),none,none,none,none]) 0 ⟨List.replicate (n+1) [],none,none,none,t6,λp hp j=>by
   rw[show gl (List.replicate (n+1) []) p=[] by unfold gl; rw[x_,Yr]; split<;>rfl];exact⟨λz=>(wq z).elim,λz=>(VV _ z.1).elim⟩,λp=>by
   rw[show gl (List.replicate (n+1) []) p=[] by unfold gl; rw[x_,Yr]; split<;>rfl];exact xb _,by rw[Kc]; rfl,rfl⟩ (by
  rintro i d nds σ hd ⟨L,x2,x3,x4,l1,l2,l3,rfl,rfl⟩;rw[xn]at *;rw[kT]at hd
  have hi:i<n:=by
   rw[<-wl];cases z:ws[i]? with
   |none=>rw[z]at hd; cases hd
   |some y=>exact(yM.mp z).1
  have ew:ws[i]?=some (.lst (zH (W i))):=by rw[hws,xC,gT hi]; rfl
  rw[ew]at hd;cases hd
  obtain⟨nds2,σ2,e2,L2,y2,k1,k2,k3,rfl,rfl⟩:=OI (g:=zz 2) (b:=ON) (λk nds σ=>∃(L:List (List Nat)) (x2:Option (Bool×D)),L.length=n+1/\(∀p,p<=n->∀j,j∈gl L p↔(j<i/\p∈W j\/j=i/\p∈(W i).take k))/\(∀p,(gl L p).length<=2*i+k)/\nds=L.map zH/\σ=[some (false,.lst ws),none,x2,some (false,.int (i:Int)),some (false,.lst (zH (W i)))]) (ds:=zH (W i))
   (nds:=L.map zH) (σ:=[some (false,.lst ws),none,x2,some (false,.int (i:Int)),some (false,.lst (zH (W i)))]) 0 ⟨L,x2,l1,λp hp j=>by
    rw[l2 p hp j];exact⟨.inl,λz=>z.elim id λz=>by rw[VT]at z; cases z.2⟩,l3,rfl,rfl⟩ (by
   rintro k d nds σ hd ⟨L,x2,l1,l2,l3,rfl,rfl⟩;rw[xn]at *;unfold zH at hd;rw[xC]at hd;cases hw':(W i)[k]? with
   |none=>rw[hw']at hd; cases hd
   |some w=>
    rw[hw']at hd;cases hd;have hk:=(yM.mp hw').1;have wn:=hw i hi w (wK hw');have hwl:w<L.length:=by omega
    have et:(W i).take (k+1)=(W i).take k++[w]:=by
     rw[Yv hk];rw[yZ hk]at hw';cases hw';rfl
    refine⟨_,(L.set w (gl L w++[i])).map zH,[some (false,.lst ws),none,some (false,.int (w:Int)),some (false,.int (i:Int)),some (false,.lst (zH (W i)))],rfl,?_,L.set w (gl L w++[i]),_,by rw[u7]; exact l1,λp hp j=>?_,λp=>?_,rfl,rfl⟩
    ·have en:(L.map zH)[w]?=some (zH (gl L w)):=by rw[xC,De hwl]; rfl
     have es:(L.map zH).set w (zH (gl L w)++[D.int (i:Int)])=(L.set w (gl L w++[i])).map zH:=by
      rw[List.map_set];unfold zH;rw[qM];rfl
     unfold ON
     show(match(L.map zH)[((w:Nat):Int).toNat]? with
      |some ds=>if 0<=((w:Nat):Int)/\ds.length<yK then some (NF.nx ((L.map zH).set ((w:Nat):Int).toNat (ds++[D.int (i:Int)])) [some (false,.lst ws),none,some (false,.int (w:Int)),some (false,.int (i:Int)),some (false,.lst (zH (W i)))])else none
      |none=>none)=_
     rw[xg,en];dsimp only
     rw[zK ⟨by omega,by
      unfold zH;rw[zj];have:=l3 w;have:=hl i;show _<16777216;omega⟩,es]
    ·rw[Dd hwl,et];by_cases c:p=w
     ·rw[zK c,w4,c,l2 w wn,w4,yt,yt]
      constructor
      ·rintro((h|h)|h)
       ·exact .inl h
       ·exact .inr ⟨h.1,.inl h.2⟩
       ·exact .inr ⟨h,.inr rfl⟩
      ·rintro(h|⟨h,h2|h2⟩)
       ·exact .inl (.inl h)
       ·exact .inl (.inr ⟨h,h2⟩)
       ·exact .inr h
     ·rw[zL c,l2 p hp,w4,yt]
      constructor
      ·rintro(h|h)
       ·exact .inl h
       ·exact .inr ⟨h.1,.inl h.2⟩
      ·rintro(h|⟨h,h2|h2⟩)
       ·exact .inl h
       ·exact .inr ⟨h,h2⟩
       ·exact absurd h2 c
    ·rw[Dd hwl];have:=l3 p;have:=l3 w
     split
     ·rw[yD,VQ]; omega
     ·omega)
  have hln:(zH (W i)).length=(W i).length:=by unfold zH; rw[zj]
  rw[hln,xn,ZD]at k2;rw[hln,xn]at k3;refine⟨_,_,_,rfl,?_,L2,y2,some (false,.int (i:Int)),some (false,.lst (zH (W i))),k1,λp hp j=>?_,λp=>?_,rfl,rfl⟩
  ·exact e2
  ·rw[k2 p hp j]
   constructor
   ·rintro(h|⟨rfl,h⟩)
    ·exact⟨by omega,h.2⟩
    ·exact⟨by omega,h⟩
   ·rintro⟨h1,h2⟩;rcases Yx j i with c|c
    ·exact .inl ⟨c,h2⟩
    ·have:j=i:=by omega
     subst this;exact .inr ⟨rfl,h2⟩
  ·have:=k3 p;have:=hl i;omega)
 rw[jL,wl,xn]at l2 l3;refine⟨L,l1,l2,l3,?_⟩;rw[Po];show(YJ 1 (Xu Q0) _ [some (false,.lst ws),none,none,none,none]).bind _=_
 have en:YJ 1 (Xu Q0) (Y7 (Y6 (uW (z7 0)) (wL 3 4) Xw) Xv) [some (false,.lst ws),none,none,none,none]=some (.rt false (.lst (L.map λl=>.lst (zH l)))):=by
  unfold YJ;rw[show tQ [some (false,.lst ws),none,none,none,none]=true from rfl];dsimp only;unfold Xu;rw[r1];have e3:Y6 (uW (z7 0)) (wL 3 4) Xw (List.replicate (n+1) []) [some (false,.lst ws),none,none,none,none]=some (.nx (L.map zH) [some (false,.lst ws),none,x2,x3,x4]):=e1
  have e4:Y7 (Y6 (uW (z7 0)) (wL 3 4) Xw) Xv (List.replicate (n+1) []) [some (false,.lst ws),none,none,none,none]=some (.rt (.lst (L.map λl=>.lst (zH l)))):=by
   unfold Y7;rw[e3];show(if(L.map zH).length<=yK then some (NF.rt (.lst ((L.map zH).map .lst)))else none)=_;rw[zK (by rw[zj,l1]; show _<=16777216; omega),vC];rfl
  show((some (ww (n+1)).length).bind _)=_;rw[Z2];show((Y7 _ _ (List.replicate (n+1) []) [some (false,.lst ws),none,none,none,none]).bind _)=_;rw[e4];rfl
 rw[en];rfl
theorem E_{σ:zi}{i j:Nat}{ds:List D}{d:D}(h:σ[i]?=some (some (true,.lst (ds++[d]))))(ne:j≠i):gG j i σ=some (.nx ((σ.set i (some (true,.lst ds))).set j (some (false,d)))):=by
 unfold gG;rw[h];dsimp only;rw[List.getLast?_append,Yo];show(if j=i then none else _)=_;rw[zL ne];rfl
theorem fj{σ:zi}{i j:Nat}{k v:FE}{ds:List D}{y:D}(hv:v σ=some y)(h:σ[i]?=some (some (true,.lst ds)))(hk:k σ=some (.int (j:Int)))(hj:j<ds.length):WF i k v σ=some (.nx (σ.set i (some (true,.lst (ds.set j y))))):=by
 unfold WF;rw[hv]
 show(match σ[i]? with
  |some (some (true,.lst ds))=>(k σ).bind λx=>match x with
   |.int j=>(L2.ixN ds.length j).bind λn=>some (Fl.nx (σ.set i (some (true,.lst (ds.set n y)))))
   |_=>none
  |_=>none)=_
 rw[h];dsimp only;rw[hk];show(L2.ixN ds.length (j:Int)).bind _=_;unfold L2.ixN;rw[zK (by omega),zK (by omega),xg];rfl
theorem Jn{σ:zi}{i:Nat}{f:FE}{xs ys:List D}(h:σ[i]?=some (some (true,.lst xs)))(hf:f σ=some (.lst ys))(hl:xs.length+ys.length<=10000000):wO i f σ=some (.nx (σ.set i (some (true,.lst (xs++ys))))):=by
 unfold wO;rw[h];dsimp only;rw[hf];show(if xs.length+ys.length<=yK then _ else _)=_;rw[zK (by show _<=16777216; omega)]
theorem pI(T:List Nat):(zH T).length=T.length:=by unfold zH; rw[zj]
theorem Xy(T:List Nat)(m:Nat):zH (T++[m])=zH T++[.int (m:Int)]:=by unfold zH; rw[qM]; rfl
theorem OO(T S:List Nat):zH (T++S)=zH T++zH S:=by unfold zH; rw[qM]
theorem AN(T:List Nat)(m x:Nat):(zH T).set m (.int (x:Int))=zH (T.set m x):=by unfold zH; rw[List.map_set]
def zo(z6:List D)(i:Nat):D:=(zB z6).getD i .non
def Uf(z6:List D)(i:Nat):Nat:=g9 (tu [zo z6 i])
def Pf(z6:List D)(i:Nat):Nat:=g9 (um [zo z6 i])
theorem ve{z6:List D}{i:Nat}(h:i<(zB z6).length):(zB z6)[i]?=some (zo z6 i):=by
 unfold zo;rw[x_,yZ h];rfl
theorem dY{z6:List D}{i:Nat}(h:i<(zB z6).length):zO (.lst (zB z6)) (.int (i:Int))=some (zo z6 i):=tJ (by omega) (by rw[xg]; exact ve h)
theorem vW{z6:List D}(P:PC z6){i:Nat}(h:i<(zB z6).length):yO (zo z6 i)/\zS (zo z6 i)=false:=by
 have:=w6.mp (wK (ve h));exact⟨P.it _ this.1,by simpa using this.2⟩
theorem Lw{z6:List D}(P:PC z6){i:Nat}(h:i<(zB z6).length):tu [zo z6 i]=some (false,.int (Uf z6 i:Nat))/\Uf z6 i<2048:=sA (vW P h).1 (vW P h).2
theorem GF{z6:List D}(P:PC z6){i:Nat}(h:i<(zB z6).length):um [zo z6 i]=some (false,.int (Pf z6 i:Nat))/\Pf z6 i<2048:=cT (vW P h).1 (vW P h).2
def vA(z6:List D)(L:List (List Nat))(T dl:List Nat)(x6 x7:Option (Bool×D)):zi:=[some (false,.lst z6),some (false,.lst (zB z6)),some (false,.lst (xo z6)),some (false,.lst (L.map λl=>.lst (zH l))),some (true,.lst (zH T)),some (true,.lst (zH dl)),x6,x7]
theorem C5(a b:Nat):yd (.int (a:Int)) (.int (b:Int))=some (.bl (!decide (a=b))):=by
 show some (D.bl (!((a:Int)==(b:Int))))=_;by_cases c:a=b
 ·subst c; simp
 ·rw[pT.mpr (by omega),yy c]
theorem AR{z6:List D}(P:PC z6){L:List (List Nat)}{T dl:List Nat}{m:Nat}{x6 x7:Option (Bool×D)}(hL:L.length=(zB z6).length+1)(hlen:∀p,(gl L p).length<=2*(zB z6).length)(hd:dl.length<=1000000)
  (N:NI (zB z6).length (Uf z6) (Pf z6) (Wf z6) T (dl++[m])) :
  Xo (vA z6 L T (dl++[m]) x6 x7)=some (.nx (if rl (Uf z6 m) (Pf z6 m) T (Wf z6 m)=gt T m then vA z6 L T dl (some (false,.int (m:Int))) (some (false,.int (rl (Uf z6 m) (Pf z6 m) T (Wf z6 m):Nat)))
   else vA z6 L (T.set m (rl (Uf z6 m) (Pf z6 m) T (Wf z6 m))) (dl++gl L m) (some (false,.int (m:Int))) (some (false,.int (rl (Uf z6 m) (Pf z6 m) T (Wf z6 m):Nat))))):=by
 have hm:m<(zB z6).length:=N.dn m (vJ _ (yt.mpr rfl));have hr:(zB z6).length<=100:=wX (pP _ _) P.ln;have ix:=dY hm;have eu:=(Lw P hm).1;have ep:=(GF P hm).1;have ew:=Lz hm;have en:=C6 (T:=T) (ws:=Wf z6 m) λw hw=>by rw[N.len]; have:=JM hm hw; omega
 have eb:=N7 (v4 T (Wf z6 m)) (Pf z6 m);have eo:=Bn (Uf z6 m) (v4 T (Wf z6 m)-(v4 T (Wf z6 m) &&& Pf z6 m));have eo:Builtin.bitOr (Uf z6 m:Nat) ((v4 T (Wf z6 m)-(v4 T (Wf z6 m) &&& Pf z6 m):Nat):Int)=((rl (Uf z6 m) (Pf z6 m) T (Wf z6 m):Nat):Int):=eo;have et:=OP (T:=T) (i:=m) (by rw[N.len]; omega);have hne:=C5 (rl (Uf z6 m) (Pf z6 m) T (Wf z6 m)) (gt T m);have hp:=E_ (σ:=vA z6 L T (dl++[m]) x6 x7) (i:=5) (j:=6) (ds:=zH dl) (d:=.int (m:Int)) (by rw[<-Xy]; rfl) (by decide);have hp:gG 6 5 (vA z6 L T (dl++[m]) x6 x7)=some (.nx (vA z6 L T dl (some (false,.int (m:Int))) x7)):=hp;have ec:zO (.lst (L.map λl=>D.lst (zH l))) (.int (m:Int))=some (.lst (zH (gl L m))):=tJ (by omega) (by rw[xg,xC,De (by omega)]; rfl);unfold Xo;rw[wP hp]
 have h7:zb 7 (e2 (vb Builtin.bitOr) (zW tu (zC (e2 zO (z7 1) (z7 6)) zD)) (e2 (vb Builtin.bitAnd) (Uu j2 (zC (vn 4) (zC (e2 zO (z7 2) (z7 6)) zD))) (e1 Uz (zW um (zC (e2 zO (z7 1) (z7 6)) zD))))) (vA z6 L T dl (some (false,.int (m:Int))) x7)=some (.nx (vA z6 L T dl (some (false,.int (m:Int))) (some (false,.int (rl (Uf z6 m) (Pf z6 m) T (Wf z6 m):Nat))))):=by
  unfold vA;generalize rl (Uf z6 m) (Pf z6 m) T (Wf z6 m)=need at *;generalize zB z6=RR at *;generalize xo z6=WW at *;generalize L.map (λl=>D.lst (zH l))=LL at *;generalize zH T=TT at *;generalize zH dl=DD at *;simp![ix,eu,ew,Uu,en,xF,qO,ep,Uz,eb,eo]
 rw[wP h7];generalize hneed:rl (Uf z6 m) (Pf z6 m) T (Wf z6 m)=need at *;by_cases c:need=gt T m
 ·rw[xD c]at hne;rw[zK c];unfold vA;generalize zB z6=RR at *;generalize xo z6=WW at *;generalize L.map (λl=>D.lst (zH l))=LL at *;generalize zH T=TT at *;generalize zH dl=DD at *;simp![et,hne,tX]
 ·rw[yy c]at hne;rw[zL c];have hs:=fj (σ:=vA z6 L T dl (some (false,.int (m:Int))) (some (false,.int (need:Int)))) (i:=4) (j:=m) (k:=z7 6) (v:=z7 7) (ds:=zH T) (y:=.int (need:Int)) rfl rfl rfl (by rw[pI,N.len]; omega);rw[AN]at hs;have hs:WF 4 (z7 6) (z7 7) (vA z6 L T dl (some (false,.int (m:Int))) (some (false,.int (need:Int))))=some (.nx (vA z6 L (T.set m need) dl (some (false,.int (m:Int))) (some (false,.int (need:Int))))):=hs
  have he:=Jn (σ:=vA z6 L (T.set m need) dl (some (false,.int (m:Int))) (some (false,.int (need:Int)))) (i:=5) (f:=e2 zO (z7 3) (z7 6)) (xs:=zH dl) (ys:=zH (gl L m)) rfl (by
   show zO (.lst (L.map λl=>D.lst (zH l))) (.int (m:Int))=_;exact ec) (by rw[pI,pI]; have:=hlen m; omega)
  rw[<-OO]at he;have he:wO 5 (e2 zO (z7 3) (z7 6)) (vA z6 L (T.set m need) dl (some (false,.int (m:Int))) (some (false,.int (need:Int))))=some (.nx (vA z6 L (T.set m need) (dl++gl L m) (some (false,.int (m:Int))) (some (false,.int (need:Int))))):=he
  have ht:(tE (e2 yd (z7 7) (e2 zO (vn 4) (z7 6)))) (vA z6 L T dl (some (false,.int (m:Int))) (some (false,.int (need:Int))))=some true:=by
   unfold vA;generalize zB z6=RR at *;generalize xo z6=WW at *;generalize L.map (λl=>D.lst (zH l))=LL at *;generalize zH T=TT at *;generalize zH dl=DD at *;simp![et,hne,qk]
  show((tE (e2 yd (z7 7) (e2 zO (vn 4) (z7 6)))) _).bind _=_;rw[ht];show zI _ _ _=_;rw[wP hs,he]
theorem AQ{z6:List D}(P:PC z6){L:List (List Nat)}(hL:L.length=(zB z6).length+1)(hlen:∀p,(gl L p).length<=2*(zB z6).length)(hC:∀p,p<=(zB z6).length->∀j,j∈gl L p↔(j<(zB z6).length/\p∈Wf z6 j)) :
  ∀(M:Nat){T dl:List Nat}{x6 x7:Option (Bool×D)},NI (zB z6).length (Uf z6) (Pf z6) (Wf z6) T dl->(11*((zB z6).length+1)-qg T)*(2*(zB z6).length+2)+dl.length<=M->M<=1000000->
   ∃T' y6 y7,NI (zB z6).length (Uf z6) (Pf z6) (Wf z6) T' []/\vI XR Xo (M+1) (vA z6 L T dl x6 x7)=some (.nx (vA z6 L T' [] y6 y7)):=by
 intro M
 induction M with
 |zero=>
  intro T dl x6 x7 N hM _;have:dl=[]:=MY (by omega);subst this;exact⟨T,x6,x7,N,Z3 rfl⟩
 |succ M ih=>
  intro T dl x6 x7 N hM hb;rcases KO dl with rfl|⟨dl',m,hdl⟩
  ·exact⟨T,x6,x7,N,Z3 rfl⟩
  ·rw[KM]at hdl;subst hdl;have ll:(dl'++[m]).length=dl'.length+1:=by rw[yD]; rfl
   have hm:m<(zB z6).length:=N.dn m (vJ _ (yt.mpr rfl))
   have hc:XR (vA z6 L T (dl'++[m]) x6 x7)=some true:=by
    have:=Tg (zH (dl'++[m]));rw[show(zH (dl'++[m])).isEmpty=false by rw[Xy]; cases zH dl'<;>rfl]at this;unfold XR vA;generalize zB z6=RR at *;generalize xo z6=WW at *;generalize L.map (λl=>D.lst (zH l))=LL at *;generalize zH T=TT at *;generalize zH (dl'++[m])=DD at *;simp![this,qk]
   have ht:=AR P (x6:=x6) (x7:=x7) hL hlen (by omega) N;rw[Ye hc ht];by_cases c:rl (Uf z6 m) (Pf z6 m) T (Wf z6 m)=gt T m
   ·rw[zK c];exact ih (AZ N c) (by omega) (by omega)
   ·rw[zL c];refine ih (AY N (Lw P hm).2 (hC m (by omega))) ?_ (by omega);have h1:=HX (T:=T) (m:=m) (x:=rl (Uf z6 m) (Pf z6 m) T (Wf z6 m)) (by rw[N.len]; omega);have h2:=pc_lt (N.up m hm) (Gm (Lw P hm).2 N.lt) (λz=>c z.symm);have h3:=HW (T.set m (rl (Uf z6 m) (Pf z6 m) T (Wf z6 m)));rw[u7,N.len]at h3;have h4:=hlen m;rw[yD];generalize qg (T.set m (rl (Uf z6 m) (Pf z6 m) T (Wf z6 m)))=s' at *;generalize qg T=s at *;generalize (zB z6).length=n at *;obtain⟨a,ha⟩:∃a,11*(n+1)-s=a+1+(11*(n+1)-s'):=⟨11*(n+1)-s-1-(11*(n+1)-s'),by omega⟩;rw[ha,Nat.add_mul,Nat.add_mul,Nat.one_mul]at hM;have:0<=a*(2*n+2):=xb _;omega
theorem Tj{z6:List D}(P:PC z6):∃T,NI (zB z6).length (Uf z6) (Pf z6) (Wf z6) T []/\qQ [.lst z6]=some (true,.lst (zH T)):=by
 have hr:(zB z6).length<=100:=wX (pP _ _) P.ln;have q1:wB [.lst z6]=some (true,.lst (zB z6)):=gE P.it;have q2:=Ly P;obtain⟨L,l1,l2,l3,q3⟩:=Nq (n:=(zB z6).length) (W:=Wf z6) hr (λi hi w hw=>JM hi hw) (JN z6);have q3:gf [.lst (xo z6)]=some (false,.lst (L.map λl=>.lst (zH l))):=q3
 have bd:(11*((zB z6).length+1)-qg (List.replicate (zB z6).length 0++[2047]))*(2*(zB z6).length+2)+(List.range (zB z6).length).length<=300000:=by
  rw[vP];have:(11*((zB z6).length+1)-qg (List.replicate (zB z6).length 0++[2047]))*(2*(zB z6).length+2)<=1111*202:=Nat.mul_le_mul (by omega) (by omega);omega
 obtain⟨T,y6,y7,N,ew⟩:=AQ P l1 l3 l2 300000 (x6:=none) (x7:=none) Aa bd (by omega);have ew:=kq (300000+1) ew (by decide);refine⟨T,N,?_⟩
 have a1:XZ (.lst [.int 0]) (.int ((zB z6).length:Nat))=some (.lst (zH (List.replicate (zB z6).length 0))):=by
  show(if 0<=(((zB z6).length:Nat):Int)/\(((zB z6).length:Nat):Int)<=1000000/\([D.int 0]).length*(((zB z6).length:Nat):Int).toNat<=yK then some (D.lst (List.replicate (((zB z6).length:Nat):Int).toNat [D.int 0]).flatten)else none)=_;rw[zK ⟨by omega,by omega,by show 1*_<=16777216; omega⟩,xg]
  congr 2
  unfold zH;rw[Kc];generalize (zB z6).length=n
  induction n with
  |zero=>rfl
  |succ n ih=>rw[pR,pR,Z9,ih]; rfl
 have a2:XX (.lst (zH (List.replicate (zB z6).length 0))) (.lst [.int 2047])=some (.lst (zH (List.replicate (zB z6).length 0++[2047]))):=by
  show(if(zH (List.replicate (zB z6).length 0)).length+1<=yK then _ else _)=_;rw[zK (by rw[pI,t6]; show _<=16777216; omega),Xy];rfl
 have h5:Ju [.int ((zB z6).length:Nat)]=some (.lst (zH (List.range (zB z6).length))):=by
  show(if 0<=(((zB z6).length:Nat):Int)/\(((zB z6).length:Nat):Int)<=1000000 then some (D.lst ((List.range (((zB z6).length:Nat):Int).toNat).map λk:Nat=>D.int k))else none)=_;rw[zK ⟨by omega,by omega⟩,xg];rfl
 have ew:pK XR Xo [some (false,.lst z6),some (false,.lst (zB z6)),some (false,.lst (xo z6)),some (false,.lst (L.map λl=>.lst (zH l))),some (true,.lst (zH (List.replicate (zB z6).length 0++[2047]))),some (true,.lst (zH (List.range (zB z6).length))),none,none]=some (.nx [some (false,.lst z6),some (false,.lst (zB z6)),some (false,.lst (xo z6)),some (false,.lst (L.map λl=>.lst (zH l))),some (true,.lst (zH T)),some (true,.lst (zH [])),y6,y7]):=ew;rw[R9];unfold Ub;generalize zH T=TT at *;generalize zH (List.range (zB z6).length)=DD at *;generalize zH (List.replicate (zB z6).length 0++[2047])=T0 at *;generalize zH (List.replicate (zB z6).length 0)=T1 at *;generalize zH []=DZ at *;generalize zB z6=RR at *;generalize xo z6=WW at *;generalize L.map (λl=>D.lst (zH l))=LL at *;simp![q1,q2,q3,a1,a2,h5,ew]
theorem K5{α:Type}:∀l:List α,qV (l.map λ_=>D.bl true)=some (l.map λ_=>true)
 | []=>rfl
 |_::l=>by
  show(qV (l.map λ_=>D.bl true)).bind _=_;rw[K5 l];rfl
theorem BO{α:Type}(l:List α):kC [.lst (l.map λ_=>D.bl true)]=some (.bl true):=by
 show(qV _).bind _=_;rw[K5];show some (D.bl ((l.map λ_=>true).all id))=_
 congr 2
 exact wm.mpr λy hy=>by
  obtain⟨_,_,rfl⟩:=wp.mp hy;rfl
def Xj(t:Str)(d:D):Bool:=zS d&&Xx t d
theorem Rh{t:Str}{d:D}(h:yO d)(ht:Xj t d=true):d=xG t:=by
 unfold Xj at ht;rw[xB]at ht;obtain⟨u,rfl⟩:=kK h ht.1;have:(u==t)=true:=ht.2;rw[qN]at this;rw[this]
theorem CT{t:Str}:∀{L:List D}{s:Nat×Option Nat},(∀d∈L,Xj t d=false)->(L.foldl (vU t) s).2=s.2
 | [],_,_=>rfl
 |d::L,s,h=>by
  rw[vB,CT λx hx=>h x (yX _ hx)];have:=h d (yF ..);unfold Xj at this;unfold vU;cases hl:zS d with
  |false=>rfl
  |true=>
   rw[hl,Yk]at this;rw[this]
def Xp:FS:=(zI (gG 4 3)
    (yP (gP (tE (e2 (uE λi j=>decide (i<j)) (z7 4) (eL xW (zC (z7 1) zD)))) (tE (e2 jt (z7 4) (vn 2))))
     (zI (kn 2 (z7 4) (eC (.bl true)))
      (wO 3 (e2 zO (z7 1) (z7 4))))
     yc))
def XS:FT:=(tE (e2 yd (vn 3) (xY zD)))
def Ug:FS:=
 (zI (zb 1 (zW qx (zC (z7 0) zD)))
  (zI (vX 2 (eC (.dic [] [])))
  (zI (vX 3 (xY (zC (eC (.int 0)) zD)))
  (zI (pK XS
   Xp)
  (zI (uy 3) (zI (uy 2) (v6 (eL Jx (zC (z7 2) zD)))))))))
def qR:List D->Option (Bool×D):=FR 1 5 Ug
theorem eW:∀ds r,qR ds=some r->ds.length=1/\zh 5 Ug ds=some r:=yz
theorem RD(x0:D):qR [x0]=zh 5 Ug [x0]:=rfl
inductive pq(n:Nat)(W:Nat->List Nat):Nat->Prop
 |zero:pq n W 0
 |step {i w:Nat}:pq n W i->i<n->w∈W i->pq n W w
structure RI(n:Nat)(W:Nat->List Nat)(F dl:List Nat):Prop where
 nd:F.Nodup
 fl:∀f∈F,f<n/\pq n W f
 dc:∀d∈dl,pq n W d
 z:0<n->0∈F\/0∈dl
 cl:∀f∈F,∀w∈W f,w<n->w∈F\/w∈dl
theorem OS{n:Nat}:∀{F:List Nat},F.Nodup->(∀f∈F,f<n)->F.length<=n:=λ{F} nd h=>by
 have:=List.Nodup.length_le_of_subset nd (l₂:=List.range n) λx hx=>uM.mpr (h x hx)
 rw[vP]at this;exact this
section
variable{n:Nat}{W:Nat->List Nat}{F dl:List Nat}{m:Nat}
theorem dP(R:RI n W F (dl++[m]))(h:¬ m<n\/m∈F):RI n W F dl:=by
 have sub:∀w,w<n->w∈F\/w∈dl++[m]->w∈F\/w∈dl:=λw hw h'=>by
  rcases h' with h'|h'
  ·exact .inl h'
  ·rcases w4.mp h' with z|z
   ·exact .inr z
   ·cases yt.mp z;rcases h with h|h
    ·exact absurd hw h
    ·exact .inl h
 exact⟨R.nd,R.fl,λd hd=>R.dc d (pQ _ hd),λh0=>sub 0 h0 (R.z h0),λf hf w hw hn=>sub w hn (R.cl f hf w hw hn)⟩
theorem LF(R:RI n W F (dl++[m]))(hm:m<n)(hF:m ∉ F):RI n W (F++[m]) (dl++W m):=by
 have cm:pq n W m:=R.dc m (vJ _ (yt.mpr rfl))
 have sub:∀w,w∈F\/w∈dl++[m]->w∈F++[m]\/w∈dl++W m:=λw h=>by
  rcases h with h|h
  ·exact .inl (pQ _ h)
  ·rcases w4.mp h with z|z
   ·exact .inr (pQ _ z)
   ·exact .inl (vJ _ z)
 refine⟨VS.mpr ⟨R.nd,t7.mpr ⟨wq,t8⟩,λa ha b hb e=>hF (by cases yt.mp hb; exact e▸ha)⟩,λf hf=>?_,λd hd=>?_,λh0=>sub 0 (R.z h0),λf hf w hw hn=>?_⟩
 ·rcases w4.mp hf with z|z
  ·exact R.fl f z
  ·cases yt.mp z;exact⟨hm,cm⟩
 ·rcases w4.mp hd with z|z
  ·exact R.dc d (pQ _ z)
  ·exact .step cm hm z
 ·rcases w4.mp hf with z|z
  ·exact sub w (R.cl f z w hw hn)
  ·cases yt.mp z;exact .inr (vJ _ hw)
theorem dO(R:RI n W F []){i:Nat}(h:pq n W i):i<n->i∈F:=by
 induction h with
 |zero=>exact λhi=>(R.z hi).resolve_right wq
 |step hc hj hw ih=>exact λhi=>(R.cl _ (ih hj) _ hw hi).resolve_right wq
theorem dN(R:RI n W F [])(i:Nat):i∈F↔i<n/\pq n W i:=⟨R.fl i,λh=>dO R h.2 h.1⟩
end
def v3(F:List Nat):List (Sum Int Str):=F.map λi:Nat=>.inl (i:Int)
def qi(F:List Nat):List D:=F.map λ_=>.bl true
theorem S6(F:List Nat):(v3 F).length=F.length:=by unfold v3; rw[zj]
theorem FU:∀F:List Nat,Z_ (v3 F)=some (F.map λi:Nat=>(i:Int))
 | []=>rfl
 |f::F=>by
  show(Z_ (v3 F)).bind _=_;rw[FU F];rfl
def vz(z6:List D)(F dl:List Nat)(x4:Option (Bool×D)):zi:=[some (false,.lst z6),some (false,.lst (xo z6)),some (true,.dic (v3 F) (qi F)),some (true,.lst (zH dl)),x4]
theorem dJ{z6:List D}{F dl:List Nat}{m:Nat}{x4:Option (Bool×D)}(hF:F.length<=1000)(hd:dl.length<=1000):Xp (vz z6 F (dl++[m]) x4)=some (.nx (if m<(zB z6).length/\m ∉ F then vz z6 (F++[m]) (dl++Wf z6 m) (some (false,.int (m:Int)))else vz z6 F dl (some (false,.int (m:Int))))):=by
 have hp:=E_ (σ:=vz z6 F (dl++[m]) x4) (i:=3) (j:=4) (ds:=zH dl) (d:=.int (m:Int)) (by rw[<-Xy]; rfl) (by decide);have hp:gG 4 3 (vz z6 F (dl++[m]) x4)=some (.nx (vz z6 F dl (some (false,.int (m:Int))))):=hp;have wl:(xo z6).length=(zB z6).length:=by unfold xo; rw[zj,vP]
 unfold Xp;rw[wP hp]
 have hn:jt (.int (m:Int)) (.dic (v3 F) (qi F))=some (.bl (!decide (m∈F))):=by
  show(some (yY (v3 F) (.inl (m:Int)))).bind _=_;rw[show yY (v3 F) (.inl (m:Int))=decide (m∈F)from Xf m F];rfl
 have ht:(gP (tE (e2 (uE λi j=>decide (i<j)) (z7 4) (eL xW (zC (z7 1) zD)))) (tE (e2 jt (z7 4) (vn 2)))) (vz z6 F dl (some (false,.int (m:Int))))=some (decide (m<(zB z6).length/\m ∉ F)):=by
  have e1:decide ((m:Int)<((xo z6).length:Nat))=decide (m<(zB z6).length):=by rw[wl]; exact VZ.mpr (by omega)
  unfold vz;generalize xo z6=WW at *;generalize v3 F=KK at *;generalize qi F=YY at *;generalize zH dl=DD at *;by_cases c:m<(zB z6).length
  ·rw[xD c]at e1;by_cases c2:m∈F
   ·rw[xD c2]at hn;rw[yy (λz=>z.2 c2)];simp![e1,hn,tX]
   ·rw[yy c2]at hn;rw[xD ⟨c,c2⟩];simp![e1,hn,qk]
  ·rw[yy c]at e1;rw[yy (λz=>c z.1)];simp![e1]
 show((gP _ _) (vz z6 F dl (some (false,.int (m:Int))))).bind _=_;rw[ht];by_cases c:m<(zB z6).length/\m ∉ F
 ·rw[xD c,zK c];have ew:=Lz c.1
  have nh:¬ yY (v3 F) (.inl (m:Int))=true:=by
   rw[show yY (v3 F) (.inl (m:Int))=decide (m∈F)from Xf m F,yy c.2]
   decide
  have hs:kn 2 (z7 4) (eC (.bl true)) (vz z6 F dl (some (false,.int (m:Int))))=some (.nx (vz z6 (F++[m]) dl (some (false,.int (m:Int))))):=by
   show(if(v3 F).length<yK then some (Fl.nx ((vz z6 F dl (some (false,.int (m:Int)))).set 2 (some (true,.dic (wN (v3 F) (.inl (m:Int))) (wV (v3 F) (qi F) (.inl (m:Int)) (.bl true))))))else none)=_;rw[zK (by rw[S6]; show _<16777216; omega)];unfold wN wV;rw[zL nh,zL nh];have e1:v3 F++[.inl (m:Int)]=v3 (F++[m]):=by unfold v3; rw[qM]; rfl
   have e2:qi F++[.bl true]=qi (F++[m]):=by unfold qi; rw[qM]; rfl
   rw[e1,e2];rfl
  have he:=Jn (σ:=vz z6 (F++[m]) dl (some (false,.int (m:Int)))) (i:=3) (f:=e2 zO (z7 1) (z7 4)) (xs:=zH dl) (ys:=zH (Wf z6 m)) rfl ew (by rw[pI,pI]; have:=JN z6 m; omega);rw[<-OO]at he;show zI _ _ _=_;rw[wP hs];exact he
 ·rw[yy c,zL c];rfl
theorem dI{z6:List D}(hr:(zB z6).length<=100) :
  ∀(M:Nat){F dl:List Nat}{x4:Option (Bool×D)},RI (zB z6).length (Wf z6) F dl->3*((zB z6).length-F.length)+dl.length<=M->M<=1000->∃F' y4,RI (zB z6).length (Wf z6) F' []/\vI XS Xp (M+1) (vz z6 F dl x4)=some (.nx (vz z6 F' [] y4)):=by
 intro M
 induction M with
 |zero=>
  intro F dl x4 R hM _;have:dl=[]:=MY (by omega);subst this;exact⟨F,x4,R,Z3 rfl⟩
 |succ M ih=>
  intro F dl x4 R hM hb;have hFl:=OS R.nd λf hf=>(R.fl f hf).1
  rcases KO dl with rfl|⟨dl',m,hdl⟩
  ·exact⟨F,x4,R,Z3 rfl⟩
  ·rw[KM]at hdl;subst hdl;have ll:(dl'++[m]).length=dl'.length+1:=by rw[yD]; rfl
   have hc:XS (vz z6 F (dl'++[m]) x4)=some true:=by
    have:=Tg (zH (dl'++[m]));rw[show(zH (dl'++[m])).isEmpty=false by rw[Xy]; cases zH dl'<;>rfl]at this;unfold XS vz;generalize xo z6=WW at *;generalize v3 F=KK at *;generalize qi F=YY at *;generalize zH (dl'++[m])=DD at *;simp![this,qk]
   rw[Ye hc (dJ (by omega) (by omega))];by_cases c:m<(zB z6).length/\m ∉ F
   ·rw[zK c];refine ih (LF R c.1 c.2) ?_ (by omega);have h2:=OS (LF R c.1 c.2).nd λf hf=>((LF R c.1 c.2).fl f hf).1
    have h3:=JN z6 m;rw[yD,VQ]at h2;rw[yD,yD,VQ];omega
   ·rw[zL c];exact ih (dP R (Decidable.not_and_iff_or_not.mp c |>.imp id λz=>Decidable.not_not.mp z)) (by omega) (by omega)
theorem nO{l:List Int}(h:∀x∈l,0<=x):(l.map Int.toNat).map (λi:Nat=>(i:Int))=l:=by
 rw[vC]
 conv=>rhs; rw[<-Yu l]
 exact Mf λx hx=>MV (h x hx)
theorem Q3{z6:List D}(P:PC z6)(hr:(zB z6).length<=60):∃R:List Nat,R.Pairwise (·<·)/\(∀i,i∈R↔i<(zB z6).length/\pq (zB z6).length (Wf z6) i)/\qR [.lst z6]=some (true,.lst (zH R)):=by
 have e1:=Ly P
 obtain⟨F,y4,RF,ew⟩:=dI (z6:=z6) (by omega) 200 (F:=[]) (dl:=[0]) (x4:=none) ⟨t8,(λ_ h=>by cases h),(λd hd=>by cases yt.mp hd; exact .zero),λ_=>.inr (yt.mpr rfl),λ_ h=>by cases h⟩ (by
  show 3*((zB z6).length-0)+1<=200;omega) (by omega)
 have ew:=kq (200+1) ew (by decide);have hl:=OS RF.nd λf hf=>(RF.fl f hf).1
 obtain⟨R,hR⟩:∃R,R=(L2.isort (F.map λi:Nat=>(i:Int))).map Int.toNat:=⟨_,rfl⟩;have pm:=L2.isort_perm (F.map λi:Nat=>(i:Int))
 have eR:R.map (λi:Nat=>(i:Int))=L2.isort (F.map λi:Nat=>(i:Int)):=by
  rw[hR];refine nO λx hx=>?_
  obtain⟨f,_,rfl⟩:=wp.mp (pm.mem_iff.mp hx);omega
 have memR:∀i,i∈R↔i∈F:=λi=>by
  have h1:i∈R↔(i:Int)∈R.map (λi:Nat=>(i:Int)):=⟨λh=>wp.mpr ⟨i,h,rfl⟩,λh=>by
   obtain⟨j,hj,e⟩:=wp.mp h;have:j=i:=by omega
   exact this▸hj⟩
  rw[h1,eR,pm.mem_iff]
  exact⟨λh=>by
   obtain⟨j,hj,e⟩:=wp.mp h;have:j=i:=by omega
   exact this▸hj,λh=>wp.mpr ⟨i,h,rfl⟩⟩
 have srt:R.Pairwise (·<·):=by
  have s1:(R.map (λi:Nat=>(i:Int))).Pairwise (·<=·):=by rw[eR]; exact L2.isort_sorted _
  have n1:R.Nodup:=by
   have:(R.map (λi:Nat=>(i:Int))).Nodup:=by
    rw[eR,pm.nodup_iff];exact ZC.mpr (RF.nd.imp λh e=>h (by omega))
   exact(ZC.mp this).imp λh e=>h (by rw[e])
  rw[ZC]at s1;exact s1.imp₂ (λa b h1 h2=>by have:a≠b:=h2; omega) n1
 have es:Jx [.dic (v3 F) (qi F)]=some (.lst (zH R)):=by
  show(Z_ (v3 F)).bind _=_;rw[FU];show(if(F.map λi:Nat=>(i:Int)).length<64 then some (D.lst ((L2.isort (F.map λi:Nat=>(i:Int))).map D.int))else none)=_;rw[zK (by rw[zj]; omega),<-eR,vC];rfl
 refine⟨R,srt,λi=>(memR i).trans (dN RF i),?_⟩;have ew:pK XS Xp [some (false,.lst z6),some (false,.lst (xo z6)),some (true,.dic [] []),some (true,.lst [.int 0]),none]=some (.nx [some (false,.lst z6),some (false,.lst (xo z6)),some (true,.dic (v3 F) (qi F)),some (true,.lst (zH [])),y4]):=ew;rw[RD];unfold Ug;generalize zH R=RR at *;generalize zH []=DZ at *;generalize v3 F=KK at *;generalize qi F=YY at *;generalize xo z6=WW at *;simp![e1,ew,es]
def M9:FE:=(xt (zC (z7 2) (zC (eC (.bl true)) zD)))
def Ge:FA:=(qX (eC (.int 0)) (eL xW (zC (zW wB (zC (z7 0) zD)) zD)))
def Hz:FE:=(z7 2)
def MK:FT:=(tE (e2 jt (z7 2) (z7 1)))
def Ud:FS:=
 (zI (zb 1 (eL kD (zC (xr 1 (v0 (zW qR (zC (z7 0) zD))) (zz 2) xw M9) zD)))
  (v6 (xr 1 Ge (zz 2) MK Hz)))
def ul:List D->Option (Bool×D):=FR 1 2 Ud
theorem eS:∀ds r,ul ds=some r->ds.length=1/\zh 2 Ud ds=some r:=yz
theorem RB(x0:D):ul [x0]=zh 2 Ud [x0]:=rfl
def K0:FE:=(z7 1)
def MM:FT:=(tE (e2 zu (z7 2) (e2 xS (z7 1) (eC (.int 1)))))
def Uk:FS:=
 (v6 (xr 2 (uW (zW qS (zC (z7 0) zD))) (wL 1 2) MM K0))
def uo:List D->Option (Bool×D):=FR 1 1 Uk
theorem eh:∀ds r,uo ds=some r->ds.length=1/\zh 1 Uk ds=some r:=yz
theorem RJ(x0:D):uo [x0]=zh 1 Uk [x0]:=rfl
def Hv:FE:=(z7 1)
def ME:FT:=(gP (tE (e2 zu (e2 zO (z7 2) (eC (.int 0))) (eC (.str "copy")))) (tE (e2 zu (e2 zO (z7 2) (eC (.int 1))) (e2 zO (z7 2) (eC (.int 2))))))
def UH:FS:=
 (v6 (xr 2 (uW (zW wB (zC (z7 0) zD))) (wL 1 2) ME Hv))
def uj:List D->Option (Bool×D):=FR 1 1 UH
theorem db:∀ds r,uj ds=some r->ds.length=1/\zh 1 UH ds=some r:=yz
theorem Pp(x0:D):uj [x0]=zh 1 UH [x0]:=rfl
def QY:FE:=(zW um (zC (z7 4) zD))
def Gd:FA:=(qX (eC (.int 0)) (eL xW (zC (z7 3) zD)))
def Hy:FE:=(z7 4)
def MJ:FT:=(gP (tE (e2 yd (e2 zO (z7 3) (z7 4)) (eC (.int 0)))) (tE (e2 zu (e2 (vb Builtin.bitAnd) (e2 zO (z7 3) (z7 4)) (zW j2 (zC (z7 1) (zC (e2 zO (z7 2) (z7 4)) zD)))) (eC (.int 0)))))
def Uc:FS:=
 (zI (zb 1 (wC qQ (zC (z7 0) zD)))
  (zI (zb 2 (zW qx (zC (z7 0) zD)))
  (zI (zb 3 (xr 1 (v0 (zW wB (zC (z7 0) zD))) (zz 4) xw QY))
  (v6 (xr 1 Gd (zz 4) MJ Hy)))))
def uk:List D->Option (Bool×D):=FR 1 4 Uc
theorem eQ:∀ds r,uk ds=some r->ds.length=1/\zh 4 Uc ds=some r:=yz
theorem RA(x0:D):uk [x0]=zh 4 Uc [x0]:=rfl
def UI:FS:=
 (zI (vX 1 (xY zD))
  (zI (vq 2 [wO 1 (zW ul (zC (z7 0) zD)),wO 1 (zW uo (zC (z7 0) zD)),wO 1 (zW uj (zC (z7 0) zD)),wO 1 (zW uk (zC (z7 0) zD))])
  (zI (uy 1) (v6 (eL kH (zC (z7 1) zD))))))
def p_:List D->Option (Bool×D):=FR 1 3 UI
theorem df:∀ds r,p_ ds=some r->ds.length=1/\zh 3 UI ds=some r:=yz
theorem Pq(x0:D):p_ [x0]=zh 3 UI [x0]:=rfl
theorem Fo{g:FG}{c:FT}{e:FE}{σ:zi}(p:Nat->Bool):∀{ds:List D}(k:Nat),(∀i d,ds[i]?=some d->∃σ1,g d σ=some σ1/\c σ1=some (p (k+i))/\e σ1=some (.int ((k+i:Nat):Int)))->wU g c e σ ds=some (zH ((List.range' k ds.length).filter p))
 | [],_,_=>rfl
 |d::ds,k,h=>by
  obtain⟨σ1,e1,e2,e3⟩:=h 0 d rfl
  have ih:=Fo p (ds:=ds) (k+1) λi d' hd=>by
   rw[show k+1+i=k+(i+1) by omega];exact h (i+1) d' (by simpa using hd)
  show(g d σ).bind _=_;rw[e1];show(c σ1).bind _=_;rw[e2,xK,List.range'_succ,Nat.add_zero];cases hp:p k with
  |false=>
   rw[vZ (by rw[hp]; decide)];exact ih
  |true=>
   rw[vh hp];show(e σ1).bind _=_;rw[e3];show(wU g c e σ ds).bind _=_;rw[ih];rfl
def pN(n:Nat)(p:Nat->Bool):List Nat:=(List.range n).filter p
theorem jN{n:Nat}{p:Nat->Bool}{i:Nat}:i∈pN n p↔i<n/\p i=true:=by
 unfold pN;rw[w6,uM]
theorem Ta{g:FG}{c:FT}{e:FE}{σ:zi}(p:Nat->Bool){ds:List D}(h:∀i d,ds[i]?=some d->∃σ1,g d σ=some σ1/\c σ1=some (p i)/\e σ1=some (.int (i:Int))):wU g c e σ ds=some (zH (pN ds.length p)):=by
 have:=Fo (g:=g) (c:=c) (e:=e) (σ:=σ) p (ds:=ds) 0 λi d hd=>by
  rw[xn];exact h i d hd
 rw[this,<-Qf];rfl
theorem Ca{z6:List D}(P:PC z6){R:List Nat}(eR:qR [.lst z6]=some (true,.lst (zH R))):ul [.lst z6]=some (true,.lst (zH (pN (zB z6).length λi=>!decide (i∈R)))):=by
 have hr:(zB z6).length<=100:=wX (pP _ _) P.ln;have q1:wB [.lst z6]=some (true,.lst (zB z6)):=gE P.it
 have e1:wU (zz 2) xw M9 [some (false,.lst z6),none,none] (zH R)=some (R.map λi:Nat=>D.tup [.int i,.bl true]):=by
  have:=g6 (g:=zz 2) (e:=M9) (σ:=[some (false,.lst z6),none,none]) (λd=>.tup [d,.bl true]) (ds:=zH R) λd hd=>⟨_,rfl,rfl⟩
  rw[this];unfold zH;rw[vC];rfl
 obtain⟨K,V,e2,hk⟩:=DC R
 have r1:Ge [some (false,.lst z6),some (false,.dic K V)]=some (ww (zB z6).length):=by
  refine gC (n:=((zB z6).length:Nat)) ?_ (by omega);generalize zB z6=RR at *;simp![q1]
 have e3:=Ta (g:=zz 2) (c:=MK) (e:=Hz) (σ:=[some (false,.lst z6),some (false,.dic K V),none]) (λi=>!decide (i∈R)) (ds:=ww (zB z6).length) λi d hd=>by
  obtain⟨_,rfl⟩:=VG hd;refine⟨_,rfl,?_,rfl⟩
  have hn:jt (.int (i:Int)) (.dic K V)=some (.bl (!decide (i∈R))):=by
   show(some (yY K (.inl (i:Int)))).bind _=_;rw[hk];rfl
  unfold MK;simp![hn]
 rw[Z2]at e3;rw[RB];unfold Ud;generalize zH (pN (zB z6).length λi=>!decide (i∈R))=AA at *;generalize zH R=RR at *;generalize (R.map λi:Nat=>D.tup [.int i,.bl true])=TT at *;simp![eR,e1,e2,r1,e3]
def qZ(z6:List D)(i:Nat):Bool:=decide (yl z6 (zo z6 i)=some (i+1))
theorem bC(o:Option Nat)(i:Nat):zu (yf o) (.int ((i:Int)+1))=some (.bl (decide (o=some (i+1)))):=by
 cases o with
 |none=>rfl
 |some p=>
  show some (D.bl ((p:Int)==(i:Int)+1))=_;by_cases c:p=i+1
  ·subst c;rw[xD rfl,show((i+1:Nat):Int)=(i:Int)+1 by omega,jX]
  ·rw[yy (by intro z; cases z; exact c rfl),pT.mpr (by omega)]
theorem Hg{z6:List D}(P:PC z6):uo [.lst z6]=some (true,.lst (zH (pN (zB z6).length (qZ z6)))):=by
 have q1:=Lp P
 have e3:=Ta (g:=wL 1 2) (c:=MM) (e:=K0) (σ:=[some (false,.lst z6),none,none]) (qZ z6) (ds:=tR ((zB z6).map λr=>yf (yl z6 r))) λi d hd=>by
  rw[kT,xC]at hd;cases hr:(zB z6)[i]? with
  |none=>rw[hr]at hd; cases hd
  |some r=>
   rw[hr]at hd;cases hd
   have er:zo z6 i=r:=by
    have:=ve (yM.mp hr).1;rw[hr]at this;exact(wz this).symm
   refine⟨_,rfl,?_,rfl⟩;have hq:=bC (yl z6 r) i;unfold MM qZ;rw[er];simp![add_int,hq]
 rw[jL,zj]at e3;rw[RJ];unfold Uk;generalize zH (pN (zB z6).length (qZ z6))=AA at *;generalize (zB z6).map (λr=>yf (yl z6 r))=ts at *;simp![q1,uW,e3]
def uu:D->Bool
 |.tup [.str w,.int d,.int s]=>(w == "copy")&&(d==s)
 |_=>false
theorem Bw{r:D}(h:yO r):∃b,zu (.str (wd r)) (.str "copy")=some (.bl b)/\(b=true->∃x y,zO r (.int 1)=some x/\zO r (.int 2)=some y/\zu x y=some (.bl (uu r)))/\(b=false->uu r=false):=by
 refine⟨wd r == "copy",Lj _ _,λhb=>?_,λhb=>?_⟩
 ·cases h with
  |label t=>cases hb
  |plain h=>
   cases h with
   |stop=>cases hb
   |gX hw=>rcases hw with rfl|rfl<;>cases hb
   |@two w d s hw d0 d1 s0 s1=>
    have q:(w==("copy" : Str))=true:=hb;refine⟨_,_,rfl,rfl,?_⟩;show some (D.bl (d==s))=some (D.bl ((w==("copy" : Str))&&(d==s)));rw[q];rfl
   |gY hw=>rcases hw with rfl|rfl<;>cases hb
   |mem hw=>rcases hw with rfl|rfl|rfl|rfl<;>cases hb
  |wA t=>cases hb
  |cond t hw hk=>rcases hw with rfl|rfl<;>cases hb
 ·unfold uu
  split
  ·rename_i w d s;have:(w==("copy" : Str))=false:=hb;rw[this];rfl
  ·rfl
theorem Bu{z6:List D}(P:PC z6):uj [.lst z6]=some (true,.lst (zH (pN (zB z6).length λi=>uu (zo z6 i)))):=by
 have q1:wB [.lst z6]=some (true,.lst (zB z6)):=gE P.it
 have e3:=Ta (g:=wL 1 2) (c:=ME) (e:=Hv) (σ:=[some (false,.lst z6),none,none]) (λi=>uu (zo z6 i)) (ds:=tR (zB z6)) λi d hd=>by
  rw[kT]at hd;cases hr:(zB z6)[i]? with
  |none=>rw[hr]at hd; cases hd
  |some r=>
   rw[hr]at hd;cases hd;have hi:=(yM.mp hr).1
   have er:zo z6 i=r:=by
    have:=ve hi;rw[hr]at this;exact(wz this).symm
   have hI:=(vW P hi).1;rw[er]at hI;have w0:=O5 hI;obtain⟨b,b1,b2,b3⟩:=Bw hI;refine⟨_,rfl,?_,rfl⟩;unfold ME;rw[er];cases b with
   |true=>
    obtain⟨x,y,c1,c2,c3⟩:=b2 rfl;simp![w0,b1,c1,c2,c3]
   |false=>
    rw[b3 rfl];simp![w0,b1]
 rw[jL]at e3;rw[Pp];unfold UH;generalize zH (pN (zB z6).length λi=>uu (zo z6 i))=AA at *;generalize zB z6=RR at *;simp![q1,uW,e3]
def qY(z6:List D)(T:List Nat)(i:Nat):Bool:=decide (Pf z6 i≠0)&&decide ((Pf z6 i &&& v4 T (Wf z6 i))=0)
theorem PD(a:Nat):zu (.int (a:Int)) (.int 0)=some (.bl (decide (a=0))):=by
 show some (D.bl ((a:Int)==0))=_;by_cases c:a=0
 ·subst c; rfl
 ·rw[pT.mpr (by omega),yy c]
theorem CZ{z6:List D}(P:PC z6){T:List Nat}(lT:T.length=(zB z6).length+1)(eT:qQ [.lst z6]=some (true,.lst (zH T))):uk [.lst z6]=some (true,.lst (zH (pN (zB z6).length (qY z6 T)))):=by
 have hr:(zB z6).length<=100:=wX (pP _ _) P.ln;have q1:wB [.lst z6]=some (true,.lst (zB z6)):=gE P.it;have q2:=Ly P;obtain⟨ps,hps⟩:∃ps:List Nat,ps=(List.range (zB z6).length).map (Pf z6):=⟨_,rfl⟩;have pl:ps.length=(zB z6).length:=by rw[hps,zj,vP]
 have pg:∀i,i<(zB z6).length->gt ps i=Pf z6 i:=λi hi=>by
  unfold gt;rw[hps,x_,xC,gT hi];rfl
 have e1:wU (zz 4) xw QY [some (false,.lst z6),some (false,.lst (zH T)),some (false,.lst (xo z6)),none,none] (zB z6)=some (zH ps):=by
  have:=TZ (g:=zz 4) (e:=QY) (σ:=[some (false,.lst z6),some (false,.lst (zH T)),some (false,.lst (xo z6)),none,none]) (λi=>.int (Pf z6 i:Nat)) (ds:=zB z6) 0 λi d hd=>by
   have hi:=(yM.mp hd).1
   have er:zo z6 i=d:=by
    have:=ve hi;rw[hd]at this;exact(wz this).symm
   have ep:=(GF P hi).1;rw[er]at ep;refine⟨_,rfl,?_⟩;rw[xn];unfold QY;generalize zH T=TT at *;generalize xo z6=WW at *;simp![ep]
  rw[this,<-Qf,hps];unfold zH;rw[vC];rfl
 have r1:Gd [some (false,.lst z6),some (false,.lst (zH T)),some (false,.lst (xo z6)),some (false,.lst (zH ps))]=some (ww (zB z6).length):=by
  have:=gC (f:=eL xW (zC (z7 3) zD)) (τ:=[some (false,.lst z6),some (false,.lst (zH T)),some (false,.lst (xo z6)),some (false,.lst (zH ps))]) (n:=((zB z6).length:Nat)) (by
   show some (D.int ((zH ps).length:Nat))=_;rw[pI,pl]) (by omega)
  rw[xg]at this;exact this
 have e3:=Ta (g:=zz 4) (c:=MJ) (e:=Hy) (σ:=[some (false,.lst z6),some (false,.lst (zH T)),some (false,.lst (xo z6)),some (false,.lst (zH ps)),none]) (qY z6 T) (ds:=ww (zB z6).length) λi d hd=>by
  obtain⟨hi,rfl⟩:=VG hd;refine⟨_,rfl,?_,rfl⟩;have i1:=OP (T:=ps) (i:=i) (by omega);rw[pg i hi]at i1;have i2:=Lz hi;have i3:=C6 (T:=T) (ws:=Wf z6 i) λw hw=>by have:=JM hi hw; omega
  have b1:=N6 (Pf z6 i) (v4 T (Wf z6 i));have z1:=C5 (Pf z6 i) 0;have z1:yd (.int (Pf z6 i:Nat)) (.int 0)=some (.bl (!decide (Pf z6 i=0))):=z1;have z2:=PD (Pf z6 i &&& v4 T (Wf z6 i));unfold MJ qY;generalize zH T=TT at *;generalize xo z6=WW at *;generalize zH ps=PP at *;generalize zH (Wf z6 i)=WI at *;by_cases c:Pf z6 i=0
  ·rw[xD c]at z1;rw[yy (λz=>z c),VL];simp![i1,z1,tX]
  ·rw[yy c]at z1;rw[xD c,Yk];simp![i1,z1,qk,i2,i3,b1,z2]
 rw[Z2]at e3;rw[RA];unfold Uc;generalize zH (pN (zB z6).length (qY z6 T))=AA at *;generalize zH T=TT at *;generalize zH ps=PP at *;generalize xo z6=WW at *;generalize ww (zB z6).length=UU at *;generalize zB z6=RR at *;simp![eT,q2,q1,e1,r1,e3]
theorem Of:∀(ns acc:List Int),acc.Nodup->(ns.foldl qB acc).Nodup/\∀x,x∈ns.foldl qB acc↔x∈acc\/x∈ns
 | [],acc,h=>⟨h,λx=>⟨.inl,λz=>z.elim id λz=>by cases z⟩⟩
 |n::ns,acc,h=>by
  rw[vB];by_cases c:(acc.any λm=>decide (m=n))=true
  ·have e:qB acc n=acc:=zK c;rw[e];obtain⟨a,b⟩:=Of ns acc h;refine⟨a,λx=>(b x).trans ⟨λz=>z.imp id (yX _),λz=>z.elim .inl λz=>?_⟩⟩;rcases yI.mp z with rfl|z
   ·obtain⟨m,hm,e⟩:=Qn.mp c;exact .inl (vQ e▸hm)
   ·exact .inr z
  ·have e:qB acc n=acc++[n]:=zL c;rw[e];have hn:n ∉ acc:=λz=>c (Qn.mpr ⟨n,z,xD rfl⟩)
   obtain⟨a,b⟩:=Of ns (acc++[n]) (VS.mpr ⟨h,t7.mpr ⟨wq,t8⟩,λx hx y hy z=>hn (by cases yt.mp hy; exact z▸hx)⟩);refine⟨a,λx=>(b x).trans ?_⟩;rw[w4,yt,yI];exact⟨λz=>z.elim (λz=>z.elim .inl λz=>.inr (.inl z)) λz=>.inr (.inr z),λz=>z.elim (λz=>.inl (.inl z)) λz=>z.elim (λz=>.inl (.inr z)) .inr⟩
theorem C0:∀{a b:List Int},a.Pairwise (·<·)->b.Pairwise (·<·)->(∀x,x∈a↔x∈b)->a=b
 | [],[],_,_,_=>rfl
 | [],y::b,_,_,h=>by have:=(h y).mpr yF; cases this
 |x::a,[],_,_,h=>by have:=(h x).mp yF; cases this
 |x::a,y::b,ha,hb,h=>by
  rw[gU]at ha hb
  have e:x=y:=by
   rcases yI.mp ((h x).mp yF)with z|z
   ·exact z
   ·rcases yI.mp ((h y).mpr yF)with w|w
    ·exact w.symm
    ·have:=hb.1 x z;have:=ha.1 y w;omega
  subst e
  rw[C0 ha.2 hb.2 λz=>⟨λhz=>by
   rcases yI.mp ((h z).mp (yX _ hz))with w|w
   ·have:=ha.1 z hz; omega
   ·exact w,λhz=>by
   rcases yI.mp ((h z).mpr (yX _ hz))with w|w
   ·have:=hb.1 z hz; omega
   ·exact w⟩]
theorem bH(n:Nat)(p:Nat->Bool):((pN n p).map λi:Nat=>(i:Int)).Pairwise (·<·):=by
 rw[ZC];unfold pN;exact List.Pairwise.filter _ (Mj.imp λh=>by omega)
theorem HG{n:Nat}(hn:n<64){l:List Nat}(hl:l.length<1000){p:Nat->Bool}(h:∀i,i∈l↔i<n/\p i=true):kH [.lst (zH l)]=some (.lst (zH (pN n p))):=by
 have e0:intsOf (zH l)=some (l.map λi:Nat=>(i:Int)):=by
  have:=Dt (l.map λi:Nat=>(i:Int));rw[vC]at this;exact this
 obtain⟨nd,mem⟩:=Of (l.map λi:Nat=>(i:Int)) [] t8;have pm:=L2.isort_perm (uH (l.map λi:Nat=>(i:Int)))
 have s0:(L2.isort (uH (l.map λi:Nat=>(i:Int)))).Pairwise (·<·):=by
  have n1:(L2.isort (uH (l.map λi:Nat=>(i:Int)))).Nodup:=pm.nodup_iff.mpr nd;exact(L2.isort_sorted (uH (l.map λi:Nat=>(i:Int)))).imp₂ (λa b h1 h2=>by have:a≠b:=h2; omega) n1
 have eq:L2.isort (uH (l.map λi:Nat=>(i:Int)))=(pN n p).map λi:Nat=>(i:Int):=C0 s0 (bH n p) λx=>by
  rw[pm.mem_iff,show x∈uH (l.map λi:Nat=>(i:Int))↔x∈([]:List Int)\/x∈l.map (λi:Nat=>(i:Int))from mem x]
  constructor
  ·rintro(z|z)
   ·cases z
   ·obtain⟨i,hi,rfl⟩:=wp.mp z;exact wp.mpr ⟨i,jN.mpr ((h i).mp hi),rfl⟩
  ·intro z;obtain⟨i,hi,rfl⟩:=wp.mp z;exact .inr (wp.mpr ⟨i,(h i).mpr (jN.mp hi),rfl⟩)
 have len:(uH (l.map λi:Nat=>(i:Int))).length<64:=by
  rw[<-pm.length_eq,eq,zj];unfold pN;have:=pP p (List.range n);rw[vP]at this;omega
 show(intsOf (zH l)).bind _=_;rw[e0];show(if(l.map λi:Nat=>(i:Int)).length<1000/\(uH (l.map λi:Nat=>(i:Int))).length<64 then some (D.lst ((L2.isort (uH (l.map λi:Nat=>(i:Int)))).map D.int))else none)=_;rw[zK ⟨by rw[zj]; exact hl,len⟩,eq,vC];rfl
def Zw(z6:List D)(R T:List Nat)(i:Nat):Bool:=!decide (i∈R)||qZ z6 i||uu (zo z6 i)||qY z6 T i
theorem RY{z6:List D}(P:PC z6)(hr:(zB z6).length<=60){R T:List Nat}(eR:qR [.lst z6]=some (true,.lst (zH R)))(lT:T.length=(zB z6).length+1)(eT:qQ [.lst z6]=some (true,.lst (zH T))) :
  p_ [.lst z6]=some (true,.lst (zH (pN (zB z6).length (Zw z6 R T)))):=by
 have a1:=Ca P eR;have a2:=Hg P;have a3:=Bu P;have a4:=CZ P lT eT
 have pl:∀p:Nat->Bool,(pN (zB z6).length p).length<=60:=λp=>by
  unfold pN;have:=pP p (List.range (zB z6).length);rw[vP]at this;omega
 obtain⟨A,hA⟩:∃A,A=pN (zB z6).length λi=>!decide (i∈R):=⟨_,rfl⟩
 obtain⟨B,hB⟩:∃B,B=pN (zB z6).length (qZ z6):=⟨_,rfl⟩;obtain⟨C,hC⟩:∃C,C=pN (zB z6).length λi=>uu (zo z6 i):=⟨_,rfl⟩
 obtain⟨Z,hZ⟩:∃Z,Z=pN (zB z6).length (qY z6 T):=⟨_,rfl⟩;have lA:A.length<=60:=hA▸pl _;have lB:B.length<=60:=hB▸pl _;have lC:C.length<=60:=hC▸pl _;have lZ:Z.length<=60:=hZ▸pl _;rw[<-hA]at a1;rw[<-hB]at a2;rw[<-hC]at a3;rw[<-hZ]at a4
 have es:=HG (n:=(zB z6).length) (by omega) (l:=A++B++C++Z) (by rw[yD,yD,yD]; omega) (p:=Zw z6 R T) λi=>by
  rw[w4,w4,w4,hA,hB,hC,hZ,jN,jN,jN,jN];unfold Zw;rw[Z6,Z6,Z6]
  constructor
  ·rintro(((⟨h,z⟩|⟨h,z⟩)|⟨h,z⟩)|⟨h,z⟩)
   ·exact⟨h,.inl (.inl (.inl z))⟩
   ·exact⟨h,.inl (.inl (.inr z))⟩
   ·exact⟨h,.inl (.inr z)⟩
   ·exact⟨h,.inr z⟩
  ·rintro⟨h,((z|z)|z)|z⟩
   ·exact .inl (.inl (.inl ⟨h,z⟩))
   ·exact .inl (.inl (.inr ⟨h,z⟩))
   ·exact .inl (.inr ⟨h,z⟩)
   ·exact .inr ⟨h,z⟩
 have c1:∀X Y:List Nat,X.length<=300->Y.length<=60->∀F:List D->Option (Bool×D),F [.lst z6]=some (true,.lst (zH Y))->wO 1 (zW F (zC (z7 0) zD)) [some (false,.lst z6),some (true,.lst (zH X)),none]=some (.nx [some (false,.lst z6),some (true,.lst (zH (X++Y))),none]):=λX Y hX hY F hF=>by
  have:=Jn (σ:=[some (false,.lst z6),some (true,.lst (zH X)),none]) (i:=1) (f:=zW F (zC (z7 0) zD)) (xs:=zH X) (ys:=zH Y) rfl (by
   show(F [.lst z6]).bind _=_;rw[hF];rfl) (by rw[pI,pI]; omega)
  rw[<-OO]at this;exact this
 have lp:vq 2 [wO 1 (zW ul (zC (z7 0) zD)),wO 1 (zW uo (zC (z7 0) zD)),wO 1 (zW uj (zC (z7 0) zD)),wO 1 (zW uk (zC (z7 0) zD))] [some (false,.lst z6),some (true,.lst (zH [])),none]=some (.nx [some (false,.lst z6),some (true,.lst (zH (A++B++C++Z))),none]):=by
  show(wO 1 (zW ul (zC (z7 0) zD)) [some (false,.lst z6),some (true,.lst (zH [])),none]).bind _=_;rw[c1 [] A (xb _) lA _ a1];show(wO 1 (zW uo (zC (z7 0) zD)) [some (false,.lst z6),some (true,.lst (zH ([]++A))),none]).bind _=_;rw[c1 ([]++A) B (by rw[tZ]; omega) lB _ a2];show(wO 1 (zW uj (zC (z7 0) zD)) [some (false,.lst z6),some (true,.lst (zH ([]++A++B))),none]).bind _=_;rw[c1 ([]++A++B) C (by rw[tZ,yD]; omega) lC _ a3];show(wO 1 (zW uk (zC (z7 0) zD)) [some (false,.lst z6),some (true,.lst (zH ([]++A++B++C))),none]).bind _=_;rw[c1 ([]++A++B++C) Z (by rw[tZ,yD,yD]; omega) lZ _ a4,tZ];rfl
 have lp:vq 2 [wO 1 (zW ul (zC (z7 0) zD)),wO 1 (zW uo (zC (z7 0) zD)),wO 1 (zW uj (zC (z7 0) zD)),wO 1 (zW uk (zC (z7 0) zD))] [some (false,.lst z6),some (true,.lst []),none]=some (.nx [some (false,.lst z6),some (true,.lst (zH (A++B++C++Z))),none]):=lp;rw[Pq];unfold UI;generalize vq 2 _=LX at *;generalize zH (A++B++C++Z)=ZZ at *;generalize zH (pN (zB z6).length (Zw z6 R T))=AA at *;simp![lp,es]
def vd:D->Option Str
 |.tup [_,.str t]=>some t
 |_=>none
def gD(g:Str->Str):D->D
 |.tup [a,.str t]=>.tup [a,.str (g t)]
 |.tup [a,b,.str t]=>.tup [a,b,.str (g t)]
 |d=>d
theorem pC{d:D}(h:yO d)(hj:yL d=true):∃(hd:List D) (t:Str),d=.tup (hd++[.str t])/\hd≠[]/\hd.length<=2/\(∀g,gD g d=.tup (hd++[.str (g t)]))/\(∀u,yO (.tup (hd++[.str u]))/\yL (.tup (hd++[.str u]))=true/\zS (.tup (hd++[.str u]))=false)/\(∀u,vd (.tup (hd++[.str u]))=(vd d).map λ_=>u):=by
 cases h with
 |label u=>cases hj
 |plain h=>
  obtain⟨_,_,_,_,c,_⟩:=gA h;rw[c]at hj;cases hj
 |wA t=>exact⟨[.str "jump"],t,rfl,by simp,by simp,λ_=>rfl,λu=>⟨.wA u,rfl,rfl⟩,λ_=>rfl⟩
 |cond t hw hk=>
  rename_i w k;exact⟨[.str w,.str k],t,rfl,by simp,by simp,λ_=>rfl,λu=>⟨.cond u hw hk,by rcases hw with rfl|rfl<;>rfl,by rcases hw with rfl|rfl<;>rfl⟩,λ_=>rfl⟩
theorem jG{hd:List D}{t u:Str}(h1:hd≠[])(h2:hd.length<=2):Xa (.tup (hd++[.str t])) none (some (-1))=some (.tup hd)/\zO (.tup (hd++[.str t])) (.int (-1))=some (.str t)/\xS (.tup hd) (.tup [.str u])=some (.tup (hd++[.str u])):=by
 match hd,h1,h2 with
 | [a],_,_=>exact⟨rfl,rfl,rfl⟩
 | [a,b],_,_=>exact⟨rfl,rfl,rfl⟩
 | [],h,_=>exact absurd rfl h
 |_::_::_::_,_,h=>simp at h
section
variable(J:Nat->Option Str)(pl:Str->Nat)
inductive uQ:Nat->Str->List Nat->Option Str->Prop
 |stop {a:Str} {seen:List Nat}:J (pl a)=none->uQ 0 a seen (some a)
 |qp {a r:Str} {seen:List Nat}:J (pl a)=some r->pl a∈seen->uQ 0 a seen none
 |go {a r:Str} {seen:List Nat} {k:Nat} {o:Option Str}:J (pl a)=some r->pl a ∉ seen->uQ k r (pl a::seen) o->uQ (k+1) a seen o
def u9:Nat->Str->Prop
 |0,a=>J (pl a)=none
 |k+1,a=>∃r,J (pl a)=some r/\u9 k r
inductive gu:Nat->Str->Str->Prop
 |refl {a:Str}:gu 0 a a
 |step {a r b:Str} {k:Nat}:J (pl a)=some r->gu k r b->gu (k+1) a b
end
section
variable{J:Nat->Option Str}{pl:Str->Nat}
theorem Go:∀{k k':Nat}{a:Str}{seen:List Nat}{o o':Option Str},uQ J pl k a seen o->uQ J pl k' a seen o'->o=o'
 |_,_,_,_,_,_,.stop _,.stop _=>rfl
 |_,_,_,_,_,_,.stop h,.qp h' _=>by rw[h]at h'; cases h'
 |_,_,_,_,_,_,.stop h,.go h' _ _=>by rw[h]at h'; cases h'
 |_,_,_,_,_,_,.qp h _,.stop h'=>by rw[h]at h'; cases h'
 |_,_,_,_,_,_,.qp _ _,.qp _ _=>rfl
 |_,_,_,_,_,_,.qp _ m,.go _ m' _=>absurd m m'
 |_,_,_,_,_,_,.go h _ _,.stop h'=>by rw[h]at h'; cases h'
 |_,_,_,_,_,_,.go _ m _,.qp _ m'=>absurd m' m
 |_,_,_,_,_,_,.go h _ r,.go h' _ r'=>by rw[h]at h'; cases h'; exact Go r r'
theorem kj{n:Nat}(hJ:∀p r,J p=some r->p<n):∀(m:Nat)(a:Str)(seen:List Nat),seen.Nodup->(∀q∈seen,q<n)->n-seen.length<=m->∃k o,k<=m/\uQ J pl k a seen o
 |m,a,seen,nd,hs,hm=>by
  cases h:J (pl a)with
  |none=>exact⟨0,_,xb _,.stop h⟩
  |some r=>
   by_cases hi:pl a∈seen
   ·exact⟨0,_,xb _,.qp h hi⟩
   ·have hp:=hJ _ _ h;have nd':(pl a::seen).Nodup:=t7.mpr ⟨hi,nd⟩
    have hs':∀q∈pl a::seen,q<n:=λq hq=>by
     rcases yI.mp hq with rfl|hq
     ·exact hp
     ·exact hs q hq
    have:=JU n nd' hs';rw[xK]at this
    match m,hm with
    |0,hm=>omega
    |m+1,hm=>
     obtain⟨k,o,hk,R⟩:=kj hJ m r (pl a::seen) nd' hs' (by rw[xK]; omega);exact⟨k+1,o,by omega,.go h hi R⟩
theorem Q8:∀{k:Nat}{a:Str}{seen:List Nat}{b:Str},uQ J pl k a seen (some b)->J (pl b)=none/\∃j,u9 J pl j a
 |_,_,_,_,.stop h=>⟨h,0,h⟩
 |_,_,_,_,.go h _ r=>by
  obtain⟨a,j,e⟩:=Q8 r;exact⟨a,j+1,_,h,e⟩
theorem DM:∀{k k':Nat}{a:Str},u9 J pl k a->u9 J pl k' a->k=k'
 |0,0,_,_,_=>rfl
 |0,k'+1,_,h,⟨r,h',_⟩=>by rw[show J (pl _)=none from h]at h'; cases h'
 |k+1,0,_,⟨r,h,_⟩,h'=>by rw[show J (pl _)=none from h']at h; cases h
 |k+1,k'+1,_,⟨r,h,e⟩,⟨r',h',e'⟩=>by
  rw[h]at h';cases h';rw[DM e e']
theorem Fp:∀{m k:Nat}{a b:Str},gu J pl m a b->u9 J pl k a->∃k',k'+m=k/\u9 J pl k' b
 |_,k,_,_,.refl,h=>⟨k,rfl,h⟩
 |_,0,_,_,.step h _,h'=>by rw[show J (pl _)=none from h']at h; cases h
 |_,k+1,_,_,.step h l,⟨r,h',e⟩=>by
  rw[h]at h';cases h';obtain⟨k',e1,e2⟩:=Fp l e;exact⟨k',by omega,e2⟩
theorem P8{k:Nat}{a b:Str}(h:pl a=pl b)(e:u9 J pl k a):u9 J pl k b:=by
 cases k with
 |zero=>exact(congrArg J h).symm.trans e
 |succ k=>
  obtain⟨r,h1,h2⟩:=e;exact⟨r,by rw[<-h]; exact h1,h2⟩
theorem Fq:∀{m:Nat}{a b r:Str},gu J pl m a b->J (pl b)=some r->gu J pl (m+1) a r
 |_,_,_,_,.refl,h=>.step h .refl
 |_,_,_,_,.step h l,h'=>.step h (Fq l h')
theorem LK:∀{k:Nat}{a:Str}{seen:List Nat},uQ J pl k a seen none->(∀q∈seen,∃m r b,J q=some r/\gu J pl m r b/\pl b=pl a)->¬ ∃j,u9 J pl j a
 |_,a,seen,.qp h hi,inv=>λ⟨j,e⟩=>by
  obtain⟨m,r,b,hr,l,pb⟩:=inv _ hi
  match j,e with
  |0,e=>rw[show J (pl a)=none from e]at hr; cases hr
  |j+1,⟨r',h',e'⟩=>
   rw[hr]at h';cases h';obtain⟨k',e1,e2⟩:=Fp l e';have:=DM (P8 pb e2) (show u9 J pl (j+1) a from⟨r,hr,e'⟩);omega
 |_,a,seen,.go (r:=r) h hi R,inv=>λ⟨j,e⟩=>by
  match j,e with
  |0,e=>rw[show J (pl a)=none from e]at h; cases h
  |j+1,⟨r',h',e'⟩=>
   rw[h]at h';cases h';refine LK R (λq hq=>?_) ⟨j,e'⟩;rcases yI.mp hq with rfl|hq
   ·exact⟨0,r,r,h,.refl,rfl⟩
   ·obtain⟨m,r1,b,hr1,l,pb⟩:=inv q hq;exact⟨m+1,r1,r,hr1,Fq l (by rw[pb]; exact h),rfl⟩
end
noncomputable def vc(J:Nat->Option Str)(pl:Str->Nat)(t:Str):Str:=open Classical in if h:∃o k,uQ J pl k t [] o then(Classical.choose h).getD t else t
theorem kO{J:Nat->Option Str}{pl:Str->Nat}{t:Str}{k:Nat}{o:Option Str}(h:uQ J pl k t [] o):vc J pl t=o.getD t:=by
 have ex:∃o k,uQ J pl k t [] o:=⟨o,k,h⟩;unfold vc;rw[dif_pos ex];obtain⟨k',h'⟩:=Classical.choose_spec ex;rw[Go h' h]
theorem SZ{J:Nat->Option Str}{pl:Str->Nat}{n:Nat}(hJ:∀p r,J p=some r->p<n)(t:Str) :
  vc (λp=>(J p).map (vc J pl)) pl (vc J pl t)=vc J pl t:=by
 have hJ':∀p r,(λp=>(J p).map (vc J pl)) p=some r->p<n:=λp r h=>by
  cases e:J p with
  |none=>rw[show(λp=>(J p).map (vc J pl)) p=(J p).map (vc J pl)from rfl,e]at h; cases h
  |some r'=>exact hJ p r' e
 obtain⟨k,o,_,R⟩:=kj (pl:=pl) hJ n t [] t8 (λ_ h=>by cases h) (Yy _ _);rw[kO R];cases o with
 |some b=>
  have h:=(Q8 R).1;exact kO (k:=0) (o:=some b) (.stop (by show(J (pl b)).map _=none; rw[h]; rfl))
 |none=>
  have ne:=LK R (λ_ h=>by cases h);show vc _ pl t=t
  have keep:∀u,(¬ ∃j,u9 J pl j u)->∃r,J (pl u)=some r/\(¬ ∃j,u9 J pl j r)/\vc J pl r=r:=λu hu=>by
   cases e:J (pl u)with
   |none=>exact absurd ⟨0,e⟩ hu
   |some r=>
    have hr:¬ ∃j,u9 J pl j r:=λ⟨j,z⟩=>hu ⟨j+1,r,e,z⟩
    refine⟨r,rfl,hr,?_⟩;obtain⟨k',o',_,R'⟩:=kj (pl:=pl) hJ n r [] t8 (λ_ h=>by cases h) (Yy _ _);rw[kO R'];cases o' with
    |none=>rfl
    |some b=>exact absurd (Q8 R').2 hr
  have same:∀{k':Nat}{u:Str}{seen:List Nat}{o':Option Str},uQ (λp=>(J p).map (vc J pl)) pl k' u seen o'->(¬ ∃j,u9 J pl j u)->o'=none:=λ{k'}=>by
   induction k' with
   |zero=>
    intro u seen o' R' hu;obtain⟨r,hr,_,_⟩:=keep u hu;cases R' with
    |stop h=>
     have h:(J (pl u)).map (vc J pl)=none:=h;rw[hr]at h;cases h
    |qp _ _=>rfl
   |succ k' ih=>
    intro u seen o' R' hu;obtain⟨r,hr,hn,hl⟩:=keep u hu;cases R' with
    |go h _ R2=>
     have h:(J (pl u)).map (vc J pl)=some _:=h;rw[hr,Option.map_some,hl]at h;cases h;exact ih R2 hn
  obtain⟨k',o',_,R'⟩:=kj (pl:=pl) hJ' n t [] t8 (λ_ h=>by cases h) (Yy _ _);rw[kO R',same R' ne];rfl
theorem Ov{t:Str}:∀{L:List D}(s:Nat×Option Nat),xG t∈L\/s.2.isSome=true->((L.foldl (vU t) s).2).isSome=true
 | [],s,h=>h.elim (λz=>by cases z) id
 |d::L,s,h=>by
  rw[vB];refine Ov _ ?_;rcases h with h|h
  ·rcases yI.mp h with rfl|h
   ·refine .inr ?_;have:Xx t (xG t)=true:=jX t;unfold vU;rw[show zS (xG t)=true from rfl];dsimp only;rw[this];rfl
   ·exact .inl h
  ·refine .inr ?_;unfold vU;cases zS d with
   |true=>
    dsimp only;cases Xx t d with
    |true=>rfl
    |false=>exact h
   |false=>exact h
theorem lO{z6:List D}(h:∀d∈z6,yO d){t:Str}{p:Nat}(e:(xH t z6).2=some p):xG t∈z6:=by
 apply KG;intro hn
 have:=CT (t:=t) (L:=z6) (s:=(0,none)) λd hd=>by
  cases ht:Xj t d with
  |false=>rfl
  |true=>exact absurd (Rh (h d hd) ht▸hd) hn
 unfold xH at e;rw[this]at e;cases e
def UW:FS:=
 (yW (XV (e2 (uE λi j=>decide (i<j)) (z7 1) (eL xW (zC (z7 0) zD))) (e2 zu (e2 zO (e2 zO (z7 0) (z7 1)) (eC (.int 0))) (eC (.str "jump")))))
def ZV:List D->Option (Bool×D):=FR 2 2 UW
theorem eF:∀ds r,ZV ds=some r->ds.length=2/\zh 2 UW ds=some r:=yz
theorem R4(x0 x1:D):ZV [x0,x1]=zh 2 UW [x0,x1]:=rfl
def j_:FS:=(zI (yP (tE (e2 yb (e2 zO (z7 2) (z7 4)) (vn 3)))
     (yW (z7 0))
     yc)
    (zI (kn 3 (e2 zO (z7 2) (z7 4)) (eC (.bl true)))
    (zb 4 (e2 zO (e2 zO (z7 1) (e2 zO (z7 2) (z7 4))) (e1 jA (eC (.int 1)))))))
def jm:FT:=(tE (zW ZV (zC (z7 1) (zC (e2 zO (z7 2) (z7 4)) zD))))
def UP:FS:=
 (zI (vX 3 (eC (.dic [] [])))
  (zI (zb 4 (z7 0))
  (zI (pK jm
   j_)
  (zI (uy 3) (yW (z7 4))))))
def ZP:List D->Option (Bool×D):=FR 3 5 UP
theorem dw:∀ds r,ZP ds=some r->ds.length=3/\zh 5 UP ds=some r:=yz
theorem Px(x0 x1 x2:D):ZP [x0,x1,x2]=zh 5 UP [x0,x1,x2]:=rfl
def M8:FE:=(kB (tE (zW tm (zC (z7 3) zD))) (e2 xS (tK (z7 3) tS (tT (e1 jA (eC (.int 1))))) (xt (zC (zW ZP (zC (e2 zO (z7 3) (e1 jA (eC (.int 1)))) (zC (z7 1) (zC (z7 2) zD)))) zD))) (z7 3))
def UX:FS:=
 (zI (zb 1 (zW wB (zC (z7 0) zD)))
  (zI (zb 2 (zW qP (zC (z7 0) zD)))
  (v6 (xr 1 (v0 (z7 0)) (zz 3) xw M8))))
def tt:List D->Option (Bool×D):=FR 1 3 UX
theorem eG:∀ds r,tt ds=some r->ds.length=1/\zh 3 UX ds=some r:=yz
theorem R5(x0:D):tt [x0]=zh 3 UX [x0]:=rfl
def jn(rows:List D)(p:Nat):Option Str:=match rows[p]? with
 |some (.tup [_,.str t])=>some t
 |_=>none
theorem jy(rows:List D)(p:Nat):jn rows p=(rows[p]?).bind vd:=by
 unfold jn;cases e:rows[p]? with
 |none=>rfl
 |some d=>
  show(match some d with|some (.tup [_,.str t])=>some t|_=>none)=vd d;unfold vd
  split<;>rename_i h
  ·cases h;rfl
  ·split
   ·rename_i a b;exact absurd rfl (h _ _)
   ·rfl
theorem Q6{d:D}(h:yO d)(hl:zS d=false):∃w,zO d (.int 0)=some (.str w)/\zu (.str w) (.str "jump")=some (.bl (vd d).isSome)/\∀t,vd d=some t->d=.tup [.str "jump",.str t]:=by
 cases h with
 |label u=>cases hl
 |plain h=>cases h with
  |stop=>exact⟨_,rfl,rfl,λt z=>by cases z⟩
  |gX hw=>rcases hw with rfl|rfl<;>exact⟨_,rfl,rfl,λt z=>by cases z⟩
  |two hw=>rcases hw with rfl|rfl|rfl|rfl|rfl|rfl|rfl|rfl|rfl<;>exact⟨_,rfl,rfl,λt z=>by cases z⟩
  |gY hw=>rcases hw with rfl|rfl<;>exact⟨_,rfl,rfl,λt z=>by cases z⟩
  |mem hw=>rcases hw with rfl|rfl|rfl|rfl<;>exact⟨_,rfl,rfl,λt z=>by cases z⟩
 |wA u=>exact⟨_,rfl,rfl,λt z=>by cases z; rfl⟩
 |cond u hw hk=>rcases hw with rfl|rfl<;>exact⟨_,rfl,rfl,λt z=>by cases z⟩
def yu(z6:List D)(t:Str):Nat:=((xH t z6).2).getD 0
def j3(z6:List D)(t:Str):Prop:=∃p,(xH t z6).2=some p
theorem SU{z6:List D}{t:Str}(h:j3 z6 t):(xH t z6).2=some (yu z6 t):=by
 obtain⟨p,e⟩:=h;unfold yu;rw[e];rfl
theorem LI{z6:List D}(P:PC z6){p:Nat}{d:D}(h:(zB z6)[p]?=some d):d∈z6/\yO d/\zS d=false:=by
 have:=w6.mp (wK h);exact⟨this.1,P.it d this.1,by simpa using this.2⟩
theorem Zy{z6:List D}(P:PC z6){p:Nat}{r:Str}(h:jn (zB z6) p=some r):(zB z6)[p]?=some (.tup [.str "jump",.str r])/\j3 z6 r/\p<(zB z6).length:=by
 rw[jy]at h;cases e:(zB z6)[p]? with
 |none=>rw[e]at h; cases h
 |some d=>
  rw[e]at h;obtain⟨m,hi,hl⟩:=LI P e;obtain⟨w,a,b,c⟩:=Q6 hi hl;have ed:=c r h;subst ed;refine⟨rfl,?_,(yM.mp e).1⟩;obtain⟨t,q,e1,e2⟩:=P.tg _ m rfl;cases e1;exact⟨q,e2⟩
theorem Fr{z6:List D}(P:PC z6)(p:Nat):ZV [.lst (zB z6),.int (p:Int)]=some (false,.bl (jn (zB z6) p).isSome):=by
 rw[R4];unfold UW;by_cases h:p<(zB z6).length
 ·have c:decide ((p:Int)<((zB z6).length:Int))=true:=xD (by omega);have e:(zB z6)[p]?=some (zB z6)[p]:=yZ h;obtain⟨_,hi,hl⟩:=LI P e;obtain⟨w,a,b,_⟩:=Q6 hi hl;have ix:zO (.lst (zB z6)) (.int (p:Int))=some (zB z6)[p]:=tJ (by omega) (by rw[xg]; exact e);have ej:jn (zB z6) p=vd (zB z6)[p]:=by rw[jy,e]; rfl
  rw[ej];generalize (zB z6)[p]=d at *;generalize zB z6=RR at *;simp![c,ix,a,b]
 ·have c:decide ((p:Int)<((zB z6).length:Int))=false:=yy (by omega);have ej:jn (zB z6) p=none:=by rw[jy,wo (by omega)]; rfl
  rw[ej];generalize zB z6=RR at *;simp![c];rfl
theorem Sc{z6:List D}(P:PC z6){ks:List (Sum Int Str)}{vs:List D}(hk:∀t,getK ks vs (.inr t)=((xH t z6).2).map λn:Nat=>D.int n)(name:Str) :
  ∀{k:Nat}{a:Str}{seen:List Nat}{o:Option Str},uQ (jn (zB z6)) (yu z6) k a seen o->j3 z6 a->∀(K:List (Sum Int Str)) (V:List D),K.length=V.length->K.length+k<=1000->(∀q:Nat,yY K (.inl (q:Int))=decide (q∈seen))->
  (∃b K' V',o=some b/\vI jm j_ (k+1) [some (false,.str name),some (false,.lst (zB z6)),some (false,.dic ks vs),some (true,.dic K V),some (false,.str a)]=some (.nx [some (false,.str name),some (false,.lst (zB z6)),some (false,.dic ks vs),some (true,.dic K' V'),some (false,.str b)])) \/
  (o=none/\vI jm j_ (k+1) [some (false,.str name),some (false,.lst (zB z6)),some (false,.dic ks vs),some (true,.dic K V),some (false,.str a)]=some (.rt false (.str name))):=by
 have ix:∀{a:Str},j3 z6 a->zO (.dic ks vs) (.str a)=some (.int (yu z6 a:Nat)):=λ{a} h=>by
  show getK ks vs (.inr a)=_;rw[hk,SU h];rfl
 intro k
 induction k with
 |zero=>
  intro a seen o R ka K V l1 l2 inv;have i1:=ix ka;have lf:=Fr P (yu z6 a);cases R with
  |stop h=>
   refine .inl ⟨a,K,V,rfl,?_⟩;rw[h]at lf;rw[Z3];unfold jm;generalize zB z6=RR at *;simp![i1,lf];rfl
  |qp h hi=>
   refine .inr ⟨rfl,?_⟩;rw[h]at lf
   have hin:yb (.int (yu z6 a:Nat)) (.dic K V)=some (.bl true):=by
    show(some (yY K (.inl ((yu z6 a:Nat):Int)))).bind _=_;rw[inv,xD hi];rfl
   unfold vI
   have ec:jm [some (false,.str name),some (false,.lst (zB z6)),some (false,.dic ks vs),some (true,.dic K V),some (false,.str a)]=some true:=by
    unfold jm;generalize zB z6=RR at *;simp![i1,lf];rfl
   have eb:j_ [some (false,.str name),some (false,.lst (zB z6)),some (false,.dic ks vs),some (true,.dic K V),some (false,.str a)]=some (.rt false (.str name)):=by
    unfold j_;generalize zB z6=RR at *;simp![i1,hin]
   rw[ec];show(j_ _).bind _=_;rw[eb];rfl
 |succ k ih=>
  intro a seen o R ka K V l1 l2 inv;have i1:=ix ka;have lf:=Fr P (yu z6 a);cases R with
  |go h hi R=>
   rename_i r;obtain⟨er,kr,hp⟩:=Zy P h;rw[h]at lf
   have hin:yb (.int (yu z6 a:Nat)) (.dic K V)=some (.bl false):=by
    show(some (yY K (.inl ((yu z6 a:Nat):Int)))).bind _=_;rw[inv,yy hi];rfl
   have ir:zO (.lst (zB z6)) (.int (yu z6 a:Nat))=some (.tup [.str "jump",.str r]):=tJ (by omega) (by rw[xg]; exact er);have il:zO (.tup [.str "jump",.str r]) (.int (-1))=some (.str r):=rfl;have kd:qE (.int (yu z6 a:Nat))=some (.inl ((yu z6 a:Nat):Int)):=rfl;have lim:K.length<yK:=by show _<16777216; omega
   have ec:jm [some (false,.str name),some (false,.lst (zB z6)),some (false,.dic ks vs),some (true,.dic K V),some (false,.str a)]=some true:=by
    unfold jm;generalize zB z6=RR at *;simp![i1,lf];rfl
   have eb:j_ [some (false,.str name),some (false,.lst (zB z6)),some (false,.dic ks vs),some (true,.dic K V),some (false,.str a)]=some (.nx [some (false,.str name),some (false,.lst (zB z6)),some (false,.dic ks vs),some (true,.dic (wN K (.inl ((yu z6 a:Nat):Int))) (wV K V (.inl ((yu z6 a:Nat):Int)) (.bl true))),some (false,.str r)]):=by
    unfold j_;generalize zB z6=RR at *;simp![i1,hin,kn,kd,zK lim,ir,il]
   have:=ih R kr (wN K (.inl ((yu z6 a:Nat):Int))) (wV K V (.inl ((yu z6 a:Nat):Int)) (.bl true)) (kX l1) (by
    have:(wN K (.inl ((yu z6 a:Nat):Int))).length<=K.length+1:=by
     unfold wN
     split
     ·omega
     ·rw[yD]; exact zt _
    omega) λq=>by
    rw[Dk,inv];by_cases e:q=yu z6 a
    ·subst e;rw[xD (p:=(Sum.inl ((yu z6 a:Nat):Int):Sum Int Str)=Sum.inl ((yu z6 a:Nat):Int)) rfl,Bool.or_true,xD (yF ..)]
    ·rw[yy (p:=(Sum.inl ((yu z6 a:Nat):Int):Sum Int Str)=Sum.inl (q:Int)) (λz=>e (by have:=VY z; omega)),Yj];refine VZ.mpr ⟨λz=>yX _ z,λz=>?_⟩;rcases yI.mp z with z|z
     ·exact absurd z e
     ·exact z
   rw[Ye ec eb];exact this
theorem Sa{z6:List D}(P:PC z6){ks:List (Sum Int Str)}{vs:List D}(hk:∀t,getK ks vs (.inr t)=((xH t z6).2).map λn:Nat=>D.int n){t:Str}(ht:j3 z6 t) :
  ZP [.str t,.lst (zB z6),.dic ks vs]=some (false,.str (vc (jn (zB z6)) (yu z6) t)):=by
 have rl:(zB z6).length<=100:=wX (pP _ _) P.ln;obtain⟨k,o,hk2,R⟩:=kj (J:=jn (zB z6)) (pl:=yu z6) (n:=(zB z6).length) (λp r h=>(Zy P h).2.2) (zB z6).length t [] t8 (λ_ h=>by cases h) (Yy _ _);rw[kO R,Px];unfold UP;rcases Sc P hk t R ht [] [] rfl (by show 0+k<=_; omega) (λq=>rfl)with⟨b,K',V',rfl,e⟩|⟨rfl,e⟩
 ·have e2:=kq _ e (wX (show k+1<=101 by omega) (by decide));generalize zB z6=RR at *;simp![e2];rfl
 ·have e2:=kq _ e (wX (show k+1<=101 by omega) (by decide));generalize zB z6=RR at *;simp![e2];rfl
noncomputable def wD(z6:List D)(t:Str):Str:=vc (jn (zB z6)) (yu z6) t
noncomputable def yh(z6:List D)(d:D):D:=match yL d with
 |true=>gD (wD z6) d
 |false=>d
theorem Fu{z6:List D}(P:PC z6):tt [.lst z6]=some (true,.lst (z6.map (yh z6))):=by
 obtain⟨ks,vs,e1,hk⟩:=Ff P.it (by have:=P.ln; omega);have e2:=gE P.it
 have e3:=g6 (g:=zz 3) (e:=M8) (σ:=[some (false,.lst z6),some (false,.lst (zB z6)),some (false,.dic ks vs),none]) (yh z6) (ds:=z6) λd hd=>by
  have hj:=TL (P.it d hd);refine⟨_,rfl,?_⟩;unfold M8 yh;cases z:yL d with
  |false=>
   rw[z]at hj;generalize zB z6=RR at *;simp![hj]
  |true=>
   rw[z]at hj;obtain⟨t0,p,q1,q2⟩:=P.tg d hd z;obtain⟨hd',t,ed,n1,n2,rl,_,_⟩:=pC (P.it d hd) z;obtain⟨p1,p2,p3⟩:=jG (t:=t) (u:=wD z6 t) n1 n2;rw[rl];subst ed;rw[p2]at q1;injection q1 with q1
   injection q1 with q1
   subst q1;have lf:=Sa P hk ⟨p,q2⟩;unfold wD at *;generalize vc (jn (zB z6)) (yu z6) t=u at *;generalize zB z6=RR at *;generalize hd'++[D.str t]=dd at *;simp![hj,tK,tT,tS,p1,p2,lf,p3]
 rw[R5];unfold UX;generalize z6.map (yh z6)=LL at *;have e2:wB [.lst z6]=some (true,.lst (zB z6)):=e2;generalize zB z6=RR at *;simp![e2,e1,e3]
theorem FJ{f:D->D}(t:Str):∀{L:List D}(s:Nat×Option Nat),(∀d∈L,zS (f d)=zS d/\(zS d=true->f d=d))->(L.map f).foldl (vU t) s=L.foldl (vU t) s
 | [],_,_=>rfl
 |d::L,s,h=>by
  rw[xT,vB,vB,FJ t _ λx hx=>h x (yX _ hx)];obtain⟨a,b⟩:=h d (yF ..)
  congr 1
  unfold vU;rw[a];cases hl:zS d with
  |true=>rw[b hl]
  |false=>rfl
theorem FI{f:D->D}:∀{L:List D},(∀d∈L,zS (f d)=zS d/\(zS d=true->f d=d))->(L.map f).filter zS=L.filter zS
 | [],_=>rfl
 |d::L,h=>by
  obtain⟨a,b⟩:=h d (yF ..);have ih:=FI λx hx=>h x (yX _ hx)
  rw[xT];cases hl:zS d with
  |true=>rw[vh (by rw[a]; exact hl),vh hl,ih,b hl]
  |false=>rw[vZ (by rw[a,hl]; decide),vZ (by rw[hl]; decide),ih]
theorem FM{f:D->D}:∀{L:List D},(∀d∈L,zS (f d)=zS d)->(L.map f).filter (λd=>!zS d)=(L.filter λd=>!zS d).map f
 | [],_=>rfl
 |d::L,h=>by
  have a:=h d (yF ..);have ih:=FM λx hx=>h x (yX _ hx)
  rw[xT];cases hl:zS d with
  |true=>rw[vZ (by rw[a,hl]; decide),vZ (by rw[hl]; decide),ih]
  |false=>rw[vh (by rw[a,hl]; rfl),vh (by rw[hl]; rfl),ih,xT]
theorem Ft{z6:List D}(P:PC z6):∀d∈z6,yO (yh z6 d)/\yL (yh z6 d)=yL d/\zS (yh z6 d)=zS d/\(zS d=true->yh z6 d=d)/\vd (yh z6 d)=(if yL d=true then(vd d).map (wD z6)else vd d):=λd hd=>by
 unfold yh;cases z:yL d with
 |false=>exact⟨P.it d hd,z,rfl,λ_=>rfl,by rw[zL yR]⟩
 |true=>
  obtain⟨hd',t,ed,n1,n2,rl,it,nj⟩:=pC (P.it d hd) z;show yO (gD (wD z6) d)/\_;rw[rl,zK rfl,nj];have l0:zS d=false:=by rw[ed]; exact(it t).2.2
  refine⟨(it _).1,(it _).2.1,by rw[l0]; exact(it _).2.2,(λy=>by rw[l0]at y; cases y),?_⟩;have:=nj t;rw[<-ed]at this;cases e:vd d with
  |none=>rfl
  |some u=>
   rw[e]at this;have hu:u=t:=wz this;rw[hu];rfl
theorem SR{z6:List D}(P:PC z6){t:Str}(ht:j3 z6 t):j3 z6 (wD z6 t):=by
 obtain⟨k,o,_,R⟩:=kj (J:=jn (zB z6)) (pl:=yu z6) (n:=(zB z6).length) (λp r h=>(Zy P h).2.2) (zB z6).length t [] t8 (λ_ h=>by cases h) (Yy _ _);unfold wD;rw[kO R]
 have go:∀{k:Nat}{a:Str}{seen:List Nat}{b:Str},uQ (jn (zB z6)) (yu z6) k a seen (some b)->j3 z6 a->j3 z6 b:=λ{k}=>by
  induction k with
  |zero=>intro a seen b R h; cases R; exact h
  |succ k ih=>
   intro a seen b R h;cases R with
   |go e _ R=>exact ih R (Zy P e).2.1
 cases o with
 |none=>exact ht
 |some b=>exact go R ht
theorem Xr{z6:List D}(P:PC z6):PC (z6.map (yh z6))/\(∀t,xH t (z6.map (yh z6))=xH t z6)/\zB (z6.map (yh z6))=(zB z6).map (yh z6):=by
 have kp:=Ft P;have pk:∀t,xH t (z6.map (yh z6))=xH t z6:=λt=>FJ t _ λd hd=>⟨(kp d hd).2.2.1,(kp d hd).2.2.2.1⟩
 refine⟨⟨λd hd=>?_,?_,λd hd hj=>?_,by rw[zj]; exact P.ln⟩,pk,FM λd hd=>(kp d hd).2.2.1⟩
 ·obtain⟨x,hx,rfl⟩:=wp.mp hd;exact(kp x hx).1
 ·rw[FI λd hd=>⟨(kp d hd).2.2.1,(kp d hd).2.2.2.1⟩];exact P.nd
 ·obtain⟨x,hx,rfl⟩:=wp.mp hd;have hjx:=hj;rw[(kp x hx).2.1]at hjx;obtain⟨t0,p,q1,q2⟩:=P.tg x hx hjx;obtain⟨hd',t,ed,n1,n2,rl,_,_⟩:=pC (P.it x hx) hjx
  have e:yh z6 x=.tup (hd'++[.str (wD z6 t)]):=by
   unfold yh;rw[hjx];exact rl _
  obtain⟨_,p2,_⟩:=jG (t:=t) (u:=t) n1 n2;rw[ed,p2]at q1;injection q1 with q1
  injection q1 with q1
  subst q1;obtain⟨q,eq⟩:=SR P ⟨p,q2⟩;refine⟨wD z6 t,q,?_,by rw[pk]; exact eq⟩;rw[e];exact(jG (t:=wD z6 t) (u:=t) n1 n2).2.1
theorem Sj{z6:List D}(P:PC z6):(z6.map (yh z6)).map (yh (z6.map (yh z6)))=z6.map (yh z6):=by
 obtain⟨P',pk,rk⟩:=Xr P;have kp:=Ft P;have epl:yu (z6.map (yh z6))=yu z6:=funext λt=>by unfold yu; rw[pk]
 have ej:jn (zB (z6.map (yh z6)))=λp=>(jn (zB z6) p).map (wD z6):=funext λp=>by
  rw[jy,rk,xC];show _=(jn (zB z6) p).map (wD z6);rw[jy];cases e:(zB z6)[p]? with
  |none=>rfl
  |some d=>
   show vd (yh z6 d)=(vd d).map (wD z6);obtain⟨m,hi,hl⟩:=LI P e;rw[(kp d m).2.2.2.2];cases hj:yL d with
   |true=>rw[zK rfl]
   |false=>
    rw[zL yR];cases en:vd d with
    |none=>rfl
    |some u=>
     obtain⟨_,_,_,c⟩:=Q6 hi hl;have:=c u en;subst this;cases hj
 have la:∀t,wD (z6.map (yh z6)) (wD z6 t)=wD z6 t:=λt=>by
  show vc (jn (zB (z6.map (yh z6)))) (yu (z6.map (yh z6))) (wD z6 t)=_;rw[epl,ej];exact SZ (n:=(zB z6).length) (λp r h=>(Zy P h).2.2) t
 rw[vC];refine Mf λd hd=>?_
 show yh (z6.map (yh z6)) (yh z6 d)=yh z6 d;cases hj:yL d with
 |false=>
  have e:yh z6 d=d:=by unfold yh; rw[hj]
  rw[e];unfold yh;rw[hj]
 |true=>
  obtain⟨hd',t,ed,n1,n2,rl,it,_⟩:=pC (P.it d hd) hj
  have e:yh z6 d=.tup (hd'++[.str (wD z6 t)]):=by
   unfold yh;rw[hj];exact rl _
  rw[e];obtain⟨hd2,t2,ed2,m1,m2,rl2,_,_⟩:=pC (it (wD z6 t)).1 (it (wD z6 t)).2.1
  have e2:yh (z6.map (yh z6)) (.tup (hd'++[.str (wD z6 t)]))=.tup (hd2++[.str (wD (z6.map (yh z6)) t2)]):=by
   unfold yh;rw[(it (wD z6 t)).2.1];exact rl2 _
  have ee:=D.tup.inj ed2;obtain⟨e3,e4⟩:=List.append_inj' ee rfl;have e5:wD z6 t=t2:=by injection e4 with z _; injection z
  rw[e2,<-e5,la,e3]
def MD:FE:=(xt (zC (z7 6) (zC (eC (.bl true)) zD)))
def OC:FS:=(yP (tE (zW tq (zC (z7 5) zD)))
     (vN 4 vE (z7 5))
     (zI (yP (tE (e2 jt (z7 3) (z7 2)))
       (vN 4 vE (z7 5))
       yc)
      (zb 3 (e2 (vb λi j=>i+j) (z7 3) (eC (.int 1))))))
def Uo:FS:=
 (zI (zb 2 (eL kD (zC (xr 1 (v0 (z7 1)) (zz 6) xw MD) zD)))
  (zI (vX 4 (xY zD))
  (zI (zb 3 (eC (.int 0)))
  (zI (gF (v0 (z7 0)) (zz 5)
   OC)
  (jP 4)))))
def gm:List D->Option (Bool×D):=FR 2 6 Uo
theorem fC:∀ds r,gm ds=some r->ds.length=2/\zh 6 Uo ds=some r:=yz
theorem RM(x0 x1:D):gm [x0,x1]=zh 6 Uo [x0,x1]:=rfl
def wu(qs:List Nat)(s:Nat×List D)(d:D):Nat×List D:=match zS d with
 |true=>(s.1,s.2++[d])
 |false=>(s.1+1,if s.1∈qs then s.2 else s.2++[d])
def wt(qs:List Nat)(L:List D):Nat×List D:=L.foldl (wu qs) (0,[])
theorem Rw(qs:List Nat)(L:List D)(d:D):wt qs (L++[d])=wu qs (wt qs L) d:=by
 unfold wt;rw[Mb];rfl
theorem O7(qs:List Nat):∀(L:List D)(s:Nat×List D),(L.foldl (wu qs) s).2.length<=s.2.length+L.length
 | [],s=>zt _
 |d::L,s=>by
  rw[vB];have h:=O7 qs L (wu qs s d)
  have:(wu qs s d).2.length<=s.2.length+1:=by
   unfold wu;cases zS d with
   |true=>show(s.2++[d]).length<=_; rw[yD]; exact zt _
   |false=>
    show(if s.1∈qs then s.2 else s.2++[d]).length<=_
    split
    ·omega
    ·rw[yD]; exact zt _
  rw[xK];omega
theorem FP(qs:List Nat):∀(L:List D)(s:Nat×List D),∀x∈(L.foldl (wu qs) s).2,x∈s.2\/x∈L
 | [],s,x,h=>.inl h
 |d::L,s,x,h=>by
  rw[vB]at h;rcases FP qs L _ x h with h|h
  ·have:x∈s.2\/x=d:=by
    unfold wu at h;cases hl:zS d with
    |true=>
     rw[hl]at h;rcases w4.mp h with h|h
     ·exact .inl h
     ·exact .inr (yt.mp h)
    |false=>
     rw[hl]at h;have h:x∈(if s.1∈qs then s.2 else s.2++[d]):=h
     split at h
     ·exact .inl h
     ·rcases w4.mp h with h|h
      ·exact .inl h
      ·exact .inr (yt.mp h)
   rcases this with h|h
   ·exact .inl h
   ·exact .inr (h▸yF ..)
  ·exact .inr (yX _ h)
theorem z0k{z6:List D}(h:∀d∈z6,yO d)(hl:z6.length<=100)(qs:List Nat):gm [.lst z6,.lst (zH qs)]=some (true,.lst (wt qs z6).2):=by
 have e1:wU (zz 6) xw MD [some (false,.lst z6),some (false,.lst (zH qs)),none,none,none,none,none] (zH qs)=some (qs.map λi:Nat=>D.tup [.int i,.bl true]):=by
  have:=g6 (g:=zz 6) (e:=MD) (σ:=[some (false,.lst z6),some (false,.lst (zH qs)),none,none,none,none,none]) (λd=>.tup [d,.bl true]) (ds:=zH qs) λd hd=>⟨_,rfl,rfl⟩
  rw[this];unfold zH;rw[vC];rfl
 obtain⟨K,V,e2,hK⟩:=DC qs
 obtain⟨σ',e3,x5,rfl⟩:=kP (g:=zz 5) (b:=OC) (λi σ=>∃x5,σ=[some (false,.lst z6),some (false,.lst (zH qs)),some (false,.dic K V),some (false,.int (((wt qs (z6.take i)).1:Nat):Int)),some (true,.lst (wt qs (z6.take i)).2),x5]) (ds:=z6)
  (σ:=[some (false,.lst z6),some (false,.lst (zH qs)),some (false,.dic K V),some (false,.int 0),some (true,.lst []),none]) 0 ⟨none,rfl⟩ (by
  rintro i v σ hv ⟨x5,rfl⟩;rw[xn]at *;have hi:i<z6.length:=(yM.mp hv).1;have ev:z6[i]=v:=(yM.mp hv).2;have ht:z6.take (i+1)=z6.take i++[v]:=by rw[Yv hi,ev]
  have hf:=TM (h v (wK hv));have ll:=O7 qs (z6.take i) (0,[]);have lt:(z6.take i).length<=100:=by rw[tY]; omega
  have hni:jt (.int (((wt qs (z6.take i)).1:Nat):Int)) (.dic K V)=some (.bl (!decide ((wt qs (z6.take i)).1∈qs))):=by
   show(some (yY K (.inl _))).bind _=_;rw[hK];rfl
  have hap:=j7 (L:=(wt qs (z6.take i)).2) (r:=v) (by have:(wt qs (z6.take i)).2.length<=0+(z6.take i).length:=ll; omega);refine⟨_,[some (false,.lst z6),some (false,.lst (zH qs)),some (false,.dic K V),some (false,.int (((wt qs (z6.take (i+1))).1:Nat):Int)),some (true,.lst (wt qs (z6.take (i+1))).2),some (false,v)],rfl,.inl ?_,_,rfl⟩;rw[ht,Rw];generalize wt qs (z6.take i)=s at *;unfold OC wu;cases hL:zS v with
  |true=>
   rw[hL]at hf;simp![hf,hap]
  |false=>
   rw[hL]at hf;by_cases hm:s.1∈qs
   ·rw[xD hm]at hni;simp![hf,hni,tX,zK hm];rfl
   ·rw[yy hm]at hni;simp![hf,hni,qk,hap,zL hm];rfl)
 rw[xn,ZD]at e3;rw[RM];unfold Uo;generalize zH qs=QQ at *;simp![e1,e2,e3]
def kN:FS:=(zI (zb 1 (e2 xS (e2 zO (eC (.str "abcdefghijklmnopqrstuvwxyz")) (e2 xN (e2 T3 (z7 2) (eC (.int 1))) (eL xW (zC (eC (.str "abcdefghijklmnopqrstuvwxyz")) zD)))) (z7 1)))
    (zb 2 (e2 vF (e2 T3 (z7 2) (eC (.int 1))) (eL xW (zC (eC (.str "abcdefghijklmnopqrstuvwxyz")) zD)))))
def g_:FT:=(tE (e2 (uE λi j=>decide (j<i)) (z7 2) (eC (.int 0))))
def UY:FS:=
 (zI (zb 1 (eC (.str "")))
  (zI (zb 2 (e2 xS (z7 0) (eC (.int 1))))
  (zI (pK g_
   kN)
  (yW (z7 1)))))
def gj:List D->Option (Bool×D):=FR 1 3 UY
theorem eK:∀ds r,gj ds=some r->ds.length=1/\zh 3 UY ds=some r:=yz
theorem R6(x0:D):gj [x0]=zh 3 UY [x0]:=rfl
def nm(n:Nat):Str:=if n<26 then lt (n:Int) ++ "" else lt (((n:Int)-26)/26)++(lt (((n:Int)-26)%26) ++ "")
theorem Ah{n left:Int}{acc:Str}(hl:acc.length<=100):kN [some (false,.int n),some (false,.str acc),some (false,.int left)]=some (.nx [some (false,.int n),some (false,.str (lt ((left-1)%26)++acc)),some (false,.int ((left-1)/26))]):=by
 have hi:=JO (k:=(left-1)%26) (by omega) (by omega);have ha:=add_str (a:=lt ((left-1)%26)) (b:=acc) (by rw[Y3]; omega);unfold kN;simp![Kv,hi,ha]
theorem EF{n left:Int}{acc:Str}:g_ [some (false,.int n),some (false,.str acc),some (false,.int left)]=some (decide (0<left)):=by
 unfold g_;simp![]
theorem Oc{n left:Int}{acc:Str}{k:Nat}(h:0<left)(hl:acc.length<=100):vI g_ kN (k+1) [some (false,D.int n),some (false,.str acc),some (false,.int left)] =
  vI g_ kN k [some (false,.int n),some (false,.str (lt ((left-1)%26)++acc)),some (false,.int ((left-1)/26))]:=Ye (EF.trans (by rw[xD h])) (Ah hl)
theorem EE{n left:Int}{acc:Str}{k:Nat}(h:¬ 0<left):vI g_ kN (k+1) [some (false,D.int n),some (false,.str acc),some (false,.int left)]=some (.nx [some (false,D.int n),some (false,.str acc),some (false,.int left)]):=
 Z3 (EF.trans (by rw[yy h]))
theorem AI{n:Nat}(h:n<702):gj [.int (n:Int)]=some (false,.str (nm n)):=by
 have fin:∀{s:Str}{left:Int},pK g_ kN [some (false,.int (n:Int)),some (false,.str ""),some (false,.int ((n:Int)+1))]=some (.nx [some (false,.int (n:Int)),some (false,.str s),some (false,.int left)])->gj [.int (n:Int)]=some (false,.str s):=λ{s left} h=>by
  rw[R6];unfold UY;simp![add_int,h]
 unfold nm
 split
 ·refine fin (left:=((n:Int)+1-1)/26) (kq 2 ((Oc (by omega) (by decide)).trans ?_));rw[EE (by omega),show((n:Int)+1-1)%26=n by omega]
 ·refine fin (left:=(((n:Int)+1-1)/26-1)/26) (kq 3 ((Oc (by omega) (by decide)).trans ((Oc (by omega) (by rw[Xs,Y3]; decide)).trans ?_)));rw[EE (by omega),show((n:Int)+1-1)%26=((n:Int)-26)%26 by omega,show(((n:Int)+1-1)/26-1)%26=((n:Int)-26)/26 by omega]
theorem FZ(v:Nat->D):∀qs:List Nat,pD (qs.map λi:Nat=>D.tup [.int i,v i])=some (qs.map λi:Nat=>Sum.inl (i:Int),qs.map v)
 | []=>rfl
 |a::qs=>by
  show(qE (.int (a:Int))).bind _=_;show(pD (qs.map λi:Nat=>D.tup [.int i,v i])).bind _=_;rw[FZ v qs];rfl
theorem Da(v:Nat->D)(n:Nat):∀(qs:List Nat)(as:List (Sum Int Str)) (ds:List D),as.length=ds.length->getK (xO as ds (qs.map λi:Nat=>Sum.inl (i:Int)) (qs.map v)).1 (xO as ds (qs.map λi:Nat=>Sum.inl (i:Int)) (qs.map v)).2 (.inl (n:Int))=if n∈qs then some (v n)else getK as ds (.inl (n:Int))
 | [],as,ds,_=>by rw[zL wq]; unfold xO; rfl
 |a::qs,as,ds,h=>by
  show getK (xO (wN as (.inl (a:Int))) (wV as ds (.inl (a:Int)) (v a)) (qs.map λi:Nat=>Sum.inl (i:Int)) (qs.map v)).1 (xO (wN as (.inl (a:Int))) (wV as ds (.inl (a:Int)) (v a)) (qs.map λi:Nat=>Sum.inl (i:Int)) (qs.map v)).2 (.inl (n:Int))=_;rw[Da v n qs _ _ (kX h),Db h];by_cases c:n∈qs
  ·rw[zK c,zK (yX _ c)]
  ·rw[zL c];by_cases e:a=n
   ·subst e;rw[zK rfl,zK (yF ..)]
   ·rw[zL (λz=>e (by have:=VY z; omega)),zL (λz=>(yI.mp z).elim (λz=>e z.symm) c)]
theorem Nz(v:Nat->D)(qs:List Nat):∃K V,kD [.lst (qs.map λi:Nat=>D.tup [.int i,v i])]=some (.dic K V)/\(∀n:Nat,yY K (.inl (n:Int))=decide (n∈qs))/\∀n∈qs,getK K V (.inl (n:Int))=some (v n):=by
 refine⟨(xO [] [] (qs.map λi:Nat=>Sum.inl (i:Int)) (qs.map v)).1,(xO [] [] (qs.map λi:Nat=>Sum.inl (i:Int)) (qs.map v)).2,?_,λn=>?_,λn hn=>?_⟩
 ·show(pD _).bind _=_;rw[FZ];rfl
 ·rw[Iz (by simp),Xf];rfl
 ·rw[Da v n qs [] [] rfl,zK hn]
def Hx:FE:=(z7 2)
def MI:FT:=(tE (e2 Jw (z7 2) (eC .non)))
def QX:FE:=(xt (zC (z7 3) (zC (zW gj (zC (z7 2) zD)) zD)))
def UZ:FS:=
 (zI (zb 1 (eL kH (zC (xr 1 (v0 (z7 0)) (zz 2) MI Hx) zD)))
  (v6 (eL kD (zC (xr 2 (uW (z7 1)) (wL 2 3) xw QX) zD))))
def ZW:List D->Option (Bool×D):=FR 1 2 UZ
theorem eM:∀ds r,ZW ds=some r->ds.length=1/\zh 2 UZ ds=some r:=yz
theorem R7(x0:D):ZW [x0]=zh 2 UZ [x0]:=rfl
def TU:FS:=(zI (yP (tE (e2 yb (z7 4) (z7 2)))
     (vN 3 vE (xt (zC (eC (.str "label")) (zC (e2 zO (z7 2) (z7 4)) zD))))
     yc)
    (vN 3 vE (kB (tE (e2 kE (e2 zO (z7 1) (z7 4)) (eC .non))) (z7 5) (e2 xS (z7 5) (xt (zC (e2 zO (z7 2) (e2 zO (z7 1) (z7 4))) zD))))))
def UO:FS:=
 (zI (zb 2 (zW ZW (zC (z7 1) zD)))
  (zI (vX 3 (xY zD))
  (zI (gF (uW (z7 0)) (wL 4 5)
   TU)
  (zI (yP (tE (e2 yb (eL xW (zC (z7 0) zD)) (z7 2)))
   (vN 3 vE (xt (zC (eC (.str "label")) (zC (e2 zO (z7 2) (eL xW (zC (z7 0) zD))) zD))))
   yc)
  (jP 3)))))
def ZO:List D->Option (Bool×D):=FR 2 6 UO
theorem dv:∀ds r,ZO ds=some r->ds.length=2/\zh 6 UO ds=some r:=yz
theorem Pw(x0 x1:D):ZO [x0,x1]=zh 6 UO [x0,x1]:=rfl
def MA:FE:=(kB (tE (zW tm (zC (z7 2) zD))) (tK (z7 2) tS (tT (e1 jA (eC (.int 1))))) (z7 2))
def Ue:FS:=
 (zI (zb 1 (xr 1 (v0 (zW wB (zC (z7 0) zD))) (zz 2) xw MA))
  (v6 (wC ZO (zC (z7 1) (zC (zW qS (zC (z7 0) zD)) zD)))))
def qw:List D->Option (Bool×D):=FR 1 2 Ue
theorem eU:∀ds r,qw ds=some r->ds.length=1/\zh 2 Ue ds=some r:=yz
theorem RC(x0:D):qw [x0]=zh 2 Ue [x0]:=rfl
def jS(zF:List (Option Nat)):List Nat:=zF.filterMap id
def yV(n:Nat)(zF:List (Option Nat)):List Nat:=pN (n+1) λi=>decide (i∈jS zF)
theorem Oq{n:Nat}{zF:List (Option Nat)}(h:∀p,some p∈zF->p<=n){p:Nat}:p∈yV n zF↔some p∈zF:=by
 unfold yV jS;rw[jN,Kn,Qr]
 constructor
 ·rintro⟨_,a,ha,e⟩;have e:a=some p:=e;exact e▸ha
 ·exact λz=>⟨Nat.lt_succ_of_le (h p z),some p,z,rfl⟩
def xR(n:Nat)(zF:List (Option Nat))(p:Nat):Str:=nm ((yV n zF).idxOf p)
theorem Op(n:Nat)(zF:List (Option Nat)):(yV n zF).length<=n+1:=by
 unfold yV pN;have:=pP (λi=>decide (i∈jS zF)) (List.range (n+1));rw[vP]at this;exact this
theorem bx(n:Nat)(zF:List (Option Nat)):(yV n zF).Nodup:=by
 unfold yV pN;exact KL KQ Mg
theorem Oj:∀zF:List (Option Nat),(zF.map yf).filter (λd=>!jv d)=zH (jS zF)
 | []=>rfl
 |none::zF=>by
  rw[xT,vZ (by decide),Oj zF];rfl
 |some p::zF=>by
  rw[xT,vh (by rfl),Oj zF];rfl
theorem AL{n:Nat}(hn:n<=60){zF:List (Option Nat)}(hl:zF.length<=900)(h:∀p,some p∈zF->p<=n) :
  ∃K V,ZW [.lst (zF.map yf)]=some (true,.dic K V)/\(∀p:Nat,yY K (.inl (p:Int))=decide (p∈yV n zF))/\∀p∈yV n zF,getK K V (.inl (p:Int))=some (.str (xR n zF p)):=by
 have e1:=jI (g:=zz 2) (c:=MI) (e:=Hx) (σ:=[some (false,.lst (zF.map yf)),none,none]) (λd=>!jv d) id (ds:=zF.map yf) λd hd=>by
  refine⟨_,rfl,?_,λ_=>rfl⟩;unfold MI;simp![]
 rw[Yu,Oj]at e1
 have e2:=HG (n:=n+1) (by omega) (l:=jS zF) (by
  have:(jS zF).length<=zF.length:=List.length_filterMap_le _ _;omega) (p:=λi=>decide (i∈jS zF)) λi=>by
  rw[Kn];refine⟨λz=>⟨?_,z⟩,λz=>z.2⟩;obtain⟨a,ha,e⟩:=Qr.mp z;have e:a=some i:=e;exact Nat.lt_succ_of_le (h i (e▸ha))
 have e2:kH [.lst (zH (jS zF))]=some (.lst (zH (yV n zF))):=e2;obtain⟨K,V,e4,hK,hV⟩:=Nz (λp=>.str (xR n zF p)) (yV n zF)
 have e3:wU (wL 2 3) xw QX [some (false,.lst (zF.map yf)),some (false,.lst (zH (yV n zF))),none,none] (tR (zH (yV n zF)))=some ((yV n zF).map λp:Nat=>D.tup [.int p,.str (xR n zF p)]):=by
  have:=TZ (g:=wL 2 3) (e:=QX) (σ:=[some (false,.lst (zF.map yf)),some (false,.lst (zH (yV n zF))),none,none]) (λi=>match(yV n zF)[i]? with|some p=>D.tup [.int p,.str (xR n zF p)]|none=>.non) (ds:=tR (zH (yV n zF))) 0 λi d hd=>by
   rw[kT]at hd;unfold zH at hd;rw[xC]at hd;cases hp:(yV n zF)[i]? with
   |none=>rw[hp]at hd; cases hd
   |some p=>
    rw[hp]at hd;cases hd;have hi:=(yM.mp hp).1;have le:=Op n zF
    have ix:(yV n zF).idxOf p=i:=by
     have e:(yV n zF)[i]=p:=(yM.mp hp).2;rw[<-e];exact(bx n zF).idxOf_getElem i hi
    have nf:=AI (n:=i) (by omega);refine⟨_,rfl,?_⟩;rw[xn,hp];show _=some (D.tup [.int p,.str (nm ((yV n zF).idxOf p))]);rw[ix];unfold QX;generalize zH (yV n zF)=PP at *;generalize zF.map yf=TT at *;simp![nf]
  rw[this,<-Qf,jL,pI];refine congrArg some (jW λi=>?_);rw[xC,xC];by_cases hi:i<(yV n zF).length
  ·rw[gT hi,yZ hi];show some (match(yV n zF)[i]? with|some p=>D.tup [.int p,.str (xR n zF p)]|none=>.non)=_;rw[yZ hi];rfl
  ·rw[wo (by rw[vP]; omega),wo (by omega)];rfl
 refine⟨K,V,?_,hK,hV⟩;rw[R7];unfold UZ;generalize (yV n zF).map (λp:Nat=>D.tup [.int p,.str (xR n zF p)])=PR at *;generalize zH (yV n zF)=PP at *;generalize zH (jS zF)=NN at *;generalize zF.map yf=TT at *;simp![e1,e2,uW,e3,e4]
def N1:D->Str->D
 |.tup xs,s=>.tup (xs++[.str s])
 |d,_=>d
def wM(n:Nat)(zF:List (Option Nat))(p:Nat):List D:=if p∈yV n zF then[xG (xR n zF p)]else[]
def ux(n:Nat)(zF:List (Option Nat))(r:D):Option Nat->D
 |none=>r
 |some p=>N1 r (xR n zF p)
def xc(rows:List D)(zF:List (Option Nat)):Nat->List D
 |0=>[]
 |i+1=>xc rows zF i++(wM rows.length zF i++[ux rows.length zF (rows.getD i .non) (zF.getD i none)])
def tP(rows:List D)(zF:List (Option Nat)):List D:=xc rows zF rows.length++wM rows.length zF rows.length
theorem OD(n:Nat)(zF:List (Option Nat))(p:Nat):(wM n zF p).length<=1:=by
 unfold wM
 split
 ·exact zt _
 ·exact xb _
theorem TY(rows:List D)(zF:List (Option Nat)):∀i,(xc rows zF i).length<=2*i
 |0=>zt _
 |i+1=>by
  unfold xc;rw[yD,yD,VQ];have:=TY rows zF i;have:=OD rows.length zF i;omega
theorem SV{rows:List D}{zF:List (Option Nat)}(hn:rows.length<=60)(hl:zF.length=rows.length)(h:∀p,some p∈zF->p<=rows.length)(hr:∀i p:Nat,zF[i]?=some (some p)->∃hd:List D,rows[i]?=some (D.tup hd)/\hd≠[]/\hd.length<=2) :
  ZO [.lst rows,.lst (zF.map yf)]=some (true,.lst (tP rows zF)):=by
 obtain⟨K,V,e1,hK,hV⟩:=AL hn (by omega) h
 have inK:∀p:Nat,yb (.int (p:Int)) (.dic K V)=some (.bl (decide (p∈yV rows.length zF))):=λp=>by
  show(some (yY K (.inl (p:Int)))).bind _=_;rw[hK];rfl
 have ixK:∀p∈yV rows.length zF,zO (.dic K V) (.int (p:Int))=some (.str (xR rows.length zF p)):=λp hp=>hV p hp
 have lab:∀(p:Nat)(L:List D)(f:FE)(σ:zi),σ[3]?=some (some (true,.lst L))->σ[2]?=some (some (false,.dic K V))->f σ=some (.int (p:Int))->L.length<=900->(∀L',f (σ.set 3 L')=f σ)->yP (tE (e2 yb f (z7 2))) (vN 3 vE (xt (zC (eC (.str "label")) (zC (e2 zO (z7 2) f) zD)))) yc σ=some (.nx (σ.set 3 (some (true,.lst (L++wM rows.length zF p))))):=λp L f σ h3 h2 hf hL _=>by
  have i1:=inK p;unfold wM;by_cases c:p∈yV rows.length zF
  ·rw[zK c];rw[xD c]at i1;have i2:=ixK p c;have ap:=j7 (L:=L) (r:=xG (xR rows.length zF p)) (by omega);unfold xG at *;simp![hf,h2,i1,i2,h3,ap]
  ·rw[zL c,wW];rw[yy c]at i1
   have e:σ.set 3 (some (true,.lst L))=σ:=by
    refine jW λj=>?_
    rw[Ys];by_cases z:3=j
    ·subst z;rw[zK rfl,zK (yM.mp h3).1,h3]
    ·rw[zL z]
   rw[e];simp![hf,h2,i1]
 obtain⟨σ',e2,x4,x5,rfl⟩:=kP (g:=wL 4 5) (b:=TU) (λi σ=>∃(x4 x5:Option Sl),σ=[some (false,.lst rows),some (false,.lst (zF.map yf)),some (false,.dic K V),some (true,.lst (xc rows zF i)),x4,x5]) (ds:=tR rows)
  (σ:=[some (false,.lst rows),some (false,.lst (zF.map yf)),some (false,.dic K V),some (true,.lst []),none,none]) 0 ⟨none,none,rfl⟩ (by
  rintro i d σ hd ⟨x4,x5,rfl⟩;rw[xn]at *;rw[kT]at hd;cases hx:rows[i]? with
  |none=>rw[hx]at hd; cases hd
  |some r=>
   rw[hx]at hd;cases hd;have hi:=(yM.mp hx).1;have ll:=TY rows zF i;have la:=OD rows.length zF i;have er:rows.getD i .non=r:=by rw[x_,hx]; rfl
   have ht:zF[i]?=some zF[i]:=yZ (by omega);have et:zF.getD i none=zF[i]:=by rw[x_,ht]; rfl
   have it:zO (.lst (zF.map yf)) (.int (i:Int))=some (yf zF[i]):=tJ (by omega) (by rw[xg,xC,ht]; rfl);have s1:=lab i (xc rows zF i) (z7 4) [some (false,.lst rows),some (false,.lst (zF.map yf)),some (false,.dic K V),some (true,.lst (xc rows zF i)),some (false,.int (i:Int)),some (false,r)] rfl rfl rfl (by omega) (λ_=>rfl);have ap0:=j7 (L:=xc rows zF i++wM rows.length zF i) (r:=ux rows.length zF r zF[i]) (by rw[yD]; omega);refine⟨_,[some (false,.lst rows),some (false,.lst (zF.map yf)),some (false,.dic K V),some (true,.lst (xc rows zF (i+1))),some (false,.int (i:Int)),some (false,r)],rfl,.inl ?_,_,_,rfl⟩;show TU [some (false,.lst rows),some (false,.lst (zF.map yf)),some (false,.dic K V),some (true,.lst (xc rows zF i)),some (false,.int (i:Int)),some (false,r)]=some (Fl.nx [some (false,.lst rows),some (false,.lst (zF.map yf)),some (false,.dic K V),some (true,.lst (xc rows zF i++(wM rows.length zF i++[ux rows.length zF (rows.getD i .non) (zF.getD i none)]))),some (false,.int (i:Int)),some (false,r)]);rw[er,et,<-ql];unfold TU;rw[wP s1];show vN 3 vE _ [some (false,.lst rows),some (false,.lst (zF.map yf)),some (false,.dic K V),some (true,.lst (xc rows zF i++wM rows.length zF i)),some (false,.int (i:Int)),some (false,r)]=_;cases hg:zF[i]with
   |none=>
    rw[hg]at it ap0;have it:zO (.lst (zF.map yf)) (.int (i:Int))=some .non:=it;have ap:vE (.lst (xc rows zF i++wM rows.length zF i)) r=some (.lst (xc rows zF i++wM rows.length zF i++[r])):=ap0;clear ap0;show _=some (Fl.nx [some (false,.lst rows),some (false,.lst (zF.map yf)),some (false,.dic K V),some (true,.lst (xc rows zF i++wM rows.length zF i++[r])),some (false,.int (i:Int)),some (false,r)]);generalize zF.map yf=TT at *;generalize xc rows zF i++wM rows.length zF i=LL at *;simp![it,ap]
   |some p=>
    rw[hg]at it ap0 ht;obtain⟨hd,hx',n1,n2⟩:=hr i p ht;rw[hx]at hx';cases hx';have hp:p∈yV rows.length zF:=(Oq h).mpr (wK ht);have i2:=ixK p hp;have z:kE (.int (p:Int)) .non=some (.bl false):=rfl;have it:zO (.lst (zF.map yf)) (.int (i:Int))=some (.int (p:Int)):=it;have ad:=(jG (t := "") (u:=xR rows.length zF p) n1 n2).2.2;have ap:vE (.lst (xc rows zF i++wM rows.length zF i)) (.tup (hd++[.str (xR rows.length zF p)]))=some (.lst (xc rows zF i++wM rows.length zF i++[.tup (hd++[.str (xR rows.length zF p)])])):=ap0;clear ap0;show _=some (Fl.nx [some (false,.lst rows),some (false,.lst (zF.map yf)),some (false,.dic K V),some (true,.lst (xc rows zF i++wM rows.length zF i++[.tup (hd++[.str (xR rows.length zF p)])])),some (false,.int (i:Int)),some (false,.tup hd)]);generalize xR rows.length zF p=u at *;generalize zF.map yf=TT at *;generalize xc rows zF i++wM rows.length zF i=LL at *;generalize D.tup (hd++[.str u])=dd at *;generalize D.tup hd=dh at *;simp![it,z,i2,ad,ap])
 rw[jL,xn]at e2;have ll:=TY rows zF rows.length;have s3:=lab rows.length (xc rows zF rows.length) (eL xW (zC (z7 0) zD)) [some (false,.lst rows),some (false,.lst (zF.map yf)),some (false,.dic K V),some (true,.lst (xc rows zF rows.length)),x4,x5] rfl rfl rfl (by omega) (λ_=>rfl);rw[Pw];unfold UO;show((zI _ _ [some (false,.lst rows),some (false,.lst (zF.map yf)),none,none,none,none]).bind _)=_
 rw[wP (σ':=[some (false,.lst rows),some (false,.lst (zF.map yf)),some (false,.dic K V),none,none,none]) (by
  generalize zF.map yf=TT at *;simp![e1])]
 rw[wP (σ':=[some (false,.lst rows),some (false,.lst (zF.map yf)),some (false,.dic K V),some (true,.lst []),none,none]) (by simp![])]
 rw[wP (σ':=[some (false,.lst rows),some (false,.lst (zF.map yf)),some (false,.dic K V),some (true,.lst (xc rows zF rows.length)),x4,x5]) (by
  generalize zF.map yf=TT at *;simp![uW,e2])]
 rw[wP s3];rfl
def yN(r:D):D:=match yL r with
 |true=>match r with
  |.tup xs=>.tup xs.dropLast
  |d=>d
 |false=>r
def yE(z6:List D):List (Option Nat):=(zB z6).map (yl z6)
def ye(z6:List D):List D:=tP ((zB z6).map yN) (yE z6)
theorem JR{d:D}(h:yO d)(hj:yL d=true):∃hd:List D,yN d=.tup hd/\hd≠[]/\hd.length<=2/\Xa d none (some (-1))=some (.tup hd)/\∀u,yO (.tup (hd++[.str u])):=by
 obtain⟨hd,t,ed,n1,n2,_,it,_⟩:=pC h hj;obtain⟨p1,_,_⟩:=jG (t:=t) (u:=t) n1 n2;refine⟨hd,?_,n1,n2,by rw[ed]; exact p1,λu=>(it u).1⟩;unfold yN;rw[hj];subst ed;show D.tup (hd++[D.str t]).dropLast=_;rw[Yo]
theorem Hf{z6:List D}{r:D}{p:Nat}(h:yl z6 r=some p):p<=(zB z6).length:=by
 unfold yl at h
 split at h
 ·have:=Ot (kR r) z6 (0,none) (λ_ z=>nomatch z) p h;rw[Tv]at this;show p<=(z6.filter λd=>!zS d).length;omega
 ·cases h
theorem Ts{z6:List D}(P:PC z6)(hr:(zB z6).length<=60):qw [.lst z6]=some (true,.lst (ye z6))/\∀d∈ye z6,yO d:=by
 have q1:wB [.lst z6]=some (true,.lst (zB z6)):=gE P.it;have q2:=Lp P
 have e1:=g6 (g:=zz 2) (e:=MA) (σ:=[some (false,.lst z6),none,none]) yN (ds:=zB z6) λd hd=>by
  have hI:=P.it d (w6.mp hd).1;have hj:=TL hI;refine⟨_,rfl,?_⟩;unfold MA;cases z:yL d with
  |false=>
   rw[z]at hj;have e:yN d=d:=by unfold yN; rw[z]
   rw[e];simp![hj]
  |true=>
   rw[z]at hj;obtain⟨hd',eb,_,_,p1,_⟩:=JR hI z;rw[eb];simp![hj,tK,tT,tS,p1]
 have lr:((zB z6).map yN).length=(zB z6).length:=zj _
 have at_:∀i p,(yE z6)[i]?=some (some p)->∃r,(zB z6)[i]?=some r/\yl z6 r=some p/\yO r/\yL r=true:=λi p h=>by
  unfold yE at h;rw[xC]at h;cases e:(zB z6)[i]? with
  |none=>rw[e]at h; cases h
  |some r=>
   rw[e]at h;have h:some (yl z6 r)=some (some p):=h;injection h with h
   refine⟨r,e,h,P.it r (w6.mp (wK e)).1,?_⟩;cases z:yL r with
   |true=>rfl
   |false=>
    unfold yl at h;rw[z]at h;cases h
 have hle:∀p,some p∈yE z6->p<=((zB z6).map yN).length:=λp hp=>by
  rw[lr];obtain⟨r,_,e⟩:=wp.mp hp;exact Hf e
 have e3:=SV (rows:=(zB z6).map yN) (zF:=yE z6) (by omega) (by unfold yE; rw[zj,lr]) hle (λi p h=>by
  obtain⟨r,e,_,hI,hj⟩:=at_ i p h;obtain⟨hd,eb,n1,n2,_⟩:=JR hI hj;exact⟨hd,by rw[xC,e,<-eb]; rfl,n1,n2⟩)
 have q3:qS [.lst z6]=some (true,.lst ((yE z6).map yf)):=by
  rw[q2];unfold yE;rw[vC];rfl
 clear q2;refine⟨?_,?_⟩
 ·rw[RC];unfold Ue ye;generalize tP ((zB z6).map yN) (yE z6)=LL at *;generalize (yE z6).map yf=TT at *;generalize (zB z6).map yN=BB at *;generalize zB z6=RR at *;simp![q1,e1,q3,e3]
 ·have la:∀n p,∀d∈wM n (yE z6) p,yO d:=λn p d hd=>by
   unfold wM at hd
   split at hd
   ·cases yt.mp hd;exact .label _
   ·cases hd
  have go:∀i,i<=(zB z6).length->∀d∈xc ((zB z6).map yN) (yE z6) i,yO d:=λi=>by
   induction i with
   |zero=>exact λ_ d hd=>by cases hd
   |succ i ih=>
    intro hi d hd;unfold xc at hd;rcases w4.mp hd with hd|hd
    ·exact ih (by omega) d hd
    ·rcases w4.mp hd with hd|hd
     ·exact la _ _ d hd
     ·cases yt.mp hd;have hr:(zB z6)[i]?=some (zB z6)[i]:=yZ (by omega);have hm:=(w6.mp (wK hr)).1;have e1:((zB z6).map yN).getD i .non=yN (zB z6)[i]:=by rw[x_,xC,hr]; rfl
      have e2:(yE z6).getD i none=yl z6 (zB z6)[i]:=by unfold yE; rw[x_,xC,hr]; rfl
      rw[e1,e2];generalize (zB z6)[i]=r at hm;have hI:=P.it r hm;cases z:yL r with
      |false=>
       have e3:yl z6 r=none:=by unfold yl; rw[z]
       have e4:yN r=r:=by unfold yN; rw[z]
       rw[e3,e4];exact hI
      |true=>
       have:=(Yb P hm).1;rw[z]at this;obtain⟨p,hp⟩:=ZI.mp this;obtain⟨hd',eb,_,_,_,it⟩:=JR hI z;rw[hp,eb];exact it _
  intro d hd;unfold ye tP at hd;rcases w4.mp hd with hd|hd
  ·exact go _ (by rw[lr]; exact zt _) d hd
  ·exact la _ _ d hd
def Tb:D->Bool
 |.int _=>true
 |.str _=>true
 |_=>false
theorem Si{x y:D}(hx:Tb x=true)(hy:Tb y=true):wb 4 x y=true/\(zk x y=true↔x=y):=by
 cases x<;>first|(cases hx; done)|skip
 all_goals (cases y<;>first|(cases hy; done)|skip)
 ·rename_i a b;refine⟨rfl,?_⟩;rw[show zk (.int a) (.int b)=(a==b) by unfold zk; rfl,qN];exact⟨λh=>by rw[h],λh=>by injection h⟩
 ·exact⟨rfl,⟨(λh=>by unfold zk at h; cases h),(λh=>by cases h)⟩⟩
 ·exact⟨rfl,⟨(λh=>by unfold zk at h; cases h),(λh=>by cases h)⟩⟩
 ·rename_i a b;refine⟨rfl,?_⟩;rw[show zk (.str a) (.str b)=(a==b) by unfold zk; rfl,qN];exact⟨λh=>by rw[h],λh=>by injection h⟩
theorem Jk{p:D->Bool}{f:D->D->Bool}(h:∀x y,p x=true->p y=true->f x y=true/\(zk x y=true↔x=y)):∀{xs ys:List D},(∀x∈xs,p x=true)->(∀y∈ys,p y=true)->uU f xs ys=true/\(dEqs xs ys=true↔xs=ys)
 | [],[],_,_=>⟨rfl,by unfold dEqs; exact⟨λ_=>rfl,λ_=>rfl⟩⟩
 | [],_::_,_,_=>⟨rfl,by unfold dEqs; exact⟨(λh=>by cases h),(λh=>by cases h)⟩⟩
 |_::_,[],_,_=>⟨rfl,by unfold dEqs; exact⟨(λh=>by cases h),(λh=>by cases h)⟩⟩
 |x::xs,y::ys,hx,hy=>by
  obtain⟨a1,a2⟩:=h x y (hx x (yF ..)) (hy y (yF ..));obtain⟨b1,b2⟩:=Jk h (xs:=xs) (ys:=ys) (λz hz=>hx z (yX _ hz)) (λz hz=>hy z (yX _ hz));refine⟨?_,?_⟩
  ·show(f x y&&uU f xs ys)=true;rw[a1,b1];rfl
  ·rw[show dEqs (x::xs) (y::ys)=(zk x y&&dEqs xs ys) by rw[dEqs],xB,a2,b2];exact⟨λ⟨e1,e2⟩=>by rw[e1,e2],λe=>by injection e with e1 e2; exact⟨e1,e2⟩⟩
def YH:D->Bool
 |.tup xs=>xs.all Tb
 |_=>false
theorem dX{x y:D}(hx:YH x=true)(hy:YH y=true):wb 5 x y=true/\(zk x y=true↔x=y):=by
 cases x<;>first|(cases hx; done)|skip
 cases y<;>first|(cases hy; done)|skip
 rename_i xs ys;obtain⟨a,b⟩:=Jk (p:=Tb) (f:=wb 4) (λx y=>Si) (wm.mp hx) (wm.mp hy);refine⟨a,?_⟩;rw[show zk (.tup xs) (.tup ys)=dEqs xs ys by rw[zk],b];exact⟨λh=>by rw[h],λh=>by injection h⟩
theorem dZ{xs ys:List D}(hx:∀x∈xs,YH x=true)(hy:∀y∈ys,YH y=true)[Decidable (xs=ys)]:p8 (.lst xs) (.lst ys)=some (decide (xs=ys)):=by
 obtain⟨a,b⟩:=Jk (p:=YH) (f:=wb 5) (λx y=>dX) hx hy;show(match wb 6 (.lst xs) (.lst ys)with|true=>some (zk (.lst xs) (.lst ys))|false=>none)=_;rw[show wb 6 (.lst xs) (.lst ys)=true from a];show some (zk (.lst xs) (.lst ys))=_;rw[show zk (.lst xs) (.lst ys)=dEqs xs ys by rw[zk]];by_cases c:xs=ys
 ·rw[xD c,b.mpr c]
 ·rw[yy c];cases z:dEqs xs ys with
  |false=>rfl
  |true=>exact absurd (b.mp z) c
theorem Dy{d:D}(h:yO d):YH d=true:=by
 cases h with
 |label u=>rfl
 |plain h=>cases h<;>rfl
 |wA u=>rfl
 |cond u hw hk=>rfl
theorem Rn{xs ys:List D}(hx:∀x∈xs,yO x)(hy:∀y∈ys,yO y)[Decidable (xs=ys)]:yd (.lst xs) (.lst ys)=some (.bl (!decide (xs=ys))):=by
 unfold yd;rw[dZ (λx h=>Dy (hx x h)) (λy h=>Dy (hy y h))];rfl
theorem Tn{z6:List D}(h:∀d∈z6,yO d):qH 6 (.lst z6)=true:=wm.mpr λd hd=>(Xl (h d hd)).choose_spec.2.2
def vM:FS:=(yP (tE (e2 yd (z7 2) (xY zD)))
     (yW (z7 2))
     yc)
def UJ:FS:=
 (zI (vq 1 [zI (zb 2 (zW ul (zC (z7 0) zD))) vM,zI (zb 2 (zW uo (zC (z7 0) zD))) vM,zI (zb 2 (zW uj (zC (z7 0) zD))) vM,zI (zb 2 (zW uk (zC (z7 0) zD))) vM])
  (v6 (xY zD)))
def ZL:List D->Option (Bool×D):=FR 1 3 UJ
theorem dg:∀ds r,ZL ds=some r->ds.length=1/\zh 3 UJ ds=some r:=yz
theorem Pr(x0:D):ZL [x0]=zh 3 UJ [x0]:=rfl
def tL:List (List Nat)->List Nat
 | []=>[]
 |l::ls=>if l.isEmpty=true then tL ls else l
def Z0:Option (Bool×D)->List Nat
 |some (_,.lst ds)=>ds.map λd=>match d with
  |.int i=>i.toNat
  |_=>0
 |_=>[]
theorem Yc(o:Bool)(R:List Nat):Z0 (some (o,.lst (zH R)))=R:=by
 show(zH R).map _=R;unfold zH;rw[vC];exact List.map_id'' (λi=>xg i) R
def pE(z6:List D)(R T:List Nat)(n:Nat):List (List Nat):=[pN n λi=>!decide (i∈R),pN n (qZ z6),pN n λi=>uu (zo z6 i),pN n (qY z6 T)]
def vV(led:List D):List Nat:=tL (pE led (Z0 (qR [.lst led])) (Z0 (qQ [.lst led])) (zB led).length)
theorem DT:∀{ls:List (List Nat)} {n:Nat},(∀l∈ls,∀i∈l,i<n)->∀i∈tL ls,i<n
 | [],_,_,_,h=>by cases h
 |l::ls,n,h,i,hi=>by
  unfold tL at hi
  split at hi
  ·exact DT (λl hl=>h l (yX _ hl)) i hi
  ·exact h l (yF ..) i hi
theorem GI{led:List D}:∀i∈vV led,i<(zB led).length:=DT λl hl i hi=>by
 unfold pE at hl;simp only[yI,wq,or_false]at hl;rcases hl with rfl|rfl|rfl|rfl<;>exact(jN.mp hi).1
theorem AM(Y:List Nat):(zH Y).isEmpty=Y.isEmpty:=by cases Y<;>rfl
theorem Ed{z6:List D}:∀(ps:List ((List D->Option (Bool×D))×List Nat)) (x2:Option Sl),(∀p∈ps,p.1 [.lst z6]=some (true,.lst (zH p.2)))->
  ((tL (ps.map (·.2))=[]/\∃y2,vq 1 (ps.map λp=>zI (zb 2 (zW p.1 (zC (z7 0) zD))) vM) [some (false,.lst z6),none,x2]=some (.nx [some (false,.lst z6),none,y2])) \/
  vq 1 (ps.map λp=>zI (zb 2 (zW p.1 (zC (z7 0) zD))) vM) [some (false,.lst z6),none,x2]=some (.rt false (.lst (zH (tL (ps.map (·.2)))))))
 | [],x2,_=>.inl ⟨rfl,x2,rfl⟩
 |(F,Y)::ps,x2,h=>by
  have hF:F [.lst z6]=some (true,.lst (zH Y)):=h (F,Y) (yF ..);have ne:=Tg (zH Y);rw[AM]at ne;rw[xT,xT];show(tL (Y::ps.map (·.2))=[]/\∃y2,(zI (zb 2 (zW F (zC (z7 0) zD))) vM [some (false,.lst z6),none,x2]).bind _=_)\/(zI (zb 2 (zW F (zC (z7 0) zD))) vM [some (false,.lst z6),none,x2]).bind _=_;unfold tL;cases e:Y.isEmpty with
  |true=>
   rw[e]at ne
   have s:zI (zb 2 (zW F (zC (z7 0) zD))) vM [some (false,.lst z6),none,x2]=some (.nx [some (false,.lst z6),none,some (false,.lst (zH Y))]):=by
    unfold vM;generalize zH Y=YY at *;simp![hF,ne,tX]
   rw[s,zK rfl];exact Ed ps _ λp hp=>h p (yX _ hp)
  |false=>
   rw[e]at ne;refine .inr ?_
   have s:zI (zb 2 (zW F (zC (z7 0) zD))) vM [some (false,.lst z6),none,x2]=some (.rt false (.lst (zH Y))):=by
    unfold vM;generalize zH Y=YY at *;simp![hF,ne,qk]
   rw[s,zL yR];rfl
theorem RX{z6:List D}(P:PC z6)(hr:(zB z6).length<=60):∃o,ZL [.lst z6]=some (o,.lst (zH (vV z6))):=by
 obtain⟨R,_,_,eR⟩:=Q3 P hr;obtain⟨T,NT,eT⟩:=Tj P;have a1:=Ca P eR;have a2:=Hg P;have a3:=Bu P;have a4:=CZ P NT.len eT
 have eq:vV z6=tL (pE z6 R T (zB z6).length):=by
  unfold vV;rw[eR,eT,Yc,Yc]
 rw[eq]
 have lp:=Ed (z6:=z6) [(ul,pN (zB z6).length λi=>!decide (i∈R)),(uo,pN (zB z6).length (qZ z6)),(uj,pN (zB z6).length λi=>uu (zo z6 i)),(uk,pN (zB z6).length (qY z6 T))] none λp hp=>by
  simp only[yI,wq,or_false]at hp;rcases hp with rfl|rfl|rfl|rfl
  ·exact a1
  ·exact a2
  ·exact a3
  ·exact a4
 rw[Pr];unfold UJ;rcases lp with⟨e0,y2,e⟩|e
 ·have e0:tL (pE z6 R T (zB z6).length)=[]:=e0;rw[e0];refine⟨true,?_⟩;have e:vq 1 [zI (zb 2 (zW ul (zC (z7 0) zD))) vM,zI (zb 2 (zW uo (zC (z7 0) zD))) vM,zI (zb 2 (zW uj (zC (z7 0) zD))) vM,zI (zb 2 (zW uk (zC (z7 0) zD))) vM] [some (false,.lst z6),none,none]=some (.nx [some (false,.lst z6),none,y2]):=e;show((zI _ _ [some (false,.lst z6),none,none]).bind _)=_;rw[wP e];rfl
 ·refine⟨false,?_⟩;show(((vq 1 _ [some (false,.lst z6),none,none]).bind _).bind _)=_;have e:vq 1 [zI (zb 2 (zW ul (zC (z7 0) zD))) vM,zI (zb 2 (zW uo (zC (z7 0) zD))) vM,zI (zb 2 (zW uj (zC (z7 0) zD))) vM,zI (zb 2 (zW uk (zC (z7 0) zD))) vM] [some (false,.lst z6),none,none]=some (.rt false (.lst (zH (tL (pE z6 R T (zB z6).length))))):=e;rw[e];rfl
theorem FN(qs:List Nat):∀(L:List D)(s:Nat×List D),(L.foldl (wu qs) s).2.filter zS=s.2.filter zS++L.filter zS
 | [],s=>by rw[Yp,wW]; rfl
 |d::L,s=>by
  rw[vB,FN qs L];unfold wu;cases hl:zS d with
  |true=>
   show(s.2++[d]).filter zS++_=_;rw[uc,vh hl,vh hl,Yp,ql];rfl
  |false=>
   show(if s.1∈qs then s.2 else s.2++[d]).filter zS++_=_;rw[vZ (by rw[hl]; decide)]
   split
   ·rfl
   ·rw[uc,vZ (by rw[hl]; decide),Yp,wW]
theorem TN(qs:List Nat):∀(L:List D)(s:Nat×List D),(zB (L.foldl (wu qs) s).2).length<=(zB s.2).length+(zB L).length/\((∃q∈qs,s.1<=q/\q<s.1+(zB L).length)->(zB (L.foldl (wu qs) s).2).length<(zB s.2).length+(zB L).length)
 | [],s=>⟨zt _,λ⟨q,_,h1,h2⟩=>by
  have:(zB []).length=0:=rfl;omega⟩
 |d::L,s=>by
  rw[vB];obtain⟨a,b⟩:=TN qs L (wu qs s d)
  have e:(zB (d::L)).length=(if zS d=true then 0 else 1)+(zB L).length:=by
   unfold zB;cases hl:zS d with
   |true=>
    rw[vZ (by rw[hl]; decide)];simp
   |false=>
    rw[vh (by rw[hl]; rfl),xK];simp;omega
  rw[e]
  have one:∀x:List D,(zB (x++[d])).length=(zB x).length+(if zS d=true then 0 else 1):=λx=>by
   unfold zB;rw[uc,yD];cases hl:zS d with
   |true=>rw[vZ (by rw[hl]; decide)]; rfl
   |false=>rw[vh (by rw[hl]; rfl)]; rfl
  cases hl:zS d with
  |true=>
   have k:wu qs s d=(s.1,s.2++[d]):=by unfold wu; rw[hl]
   rw[k]at a b ⊢;have o:=one s.2;rw[hl,zK rfl]at o;rw[o]at a b;rw[zK rfl];refine⟨by omega,λ⟨q,hq,h1,h2⟩=>?_⟩;have:=b ⟨q,hq,h1,by show q<s.1+_; omega⟩;omega
  |false=>
   have o:=one s.2;rw[hl,zL yR]at o;rw[zL yR];by_cases c:s.1∈qs
   ·have k:wu qs s d=(s.1+1,s.2):=by unfold wu; rw[hl]; show(s.1+1,if s.1∈qs then s.2 else s.2++[d])=_; rw[zK c]
    rw[k]at a b ⊢;dsimp only at a b ⊢;refine⟨by omega,λ_=>by omega⟩
   ·have k:wu qs s d=(s.1+1,s.2++[d]):=by unfold wu; rw[hl]; show(s.1+1,if s.1∈qs then s.2 else s.2++[d])=_; rw[zL c]
    rw[k]at a b ⊢;rw[o]at a b;refine⟨by omega,λ⟨q,hq,h1,h2⟩=>?_⟩;have ne:s.1≠q:=λz=>c (z▸hq)
    have:=b ⟨q,hq,by show s.1+1<=q; omega,by show q<s.1+1+_; omega⟩;omega
theorem Xn:∀(L:List D)(s:Nat×List D),(L.foldl (wu []) s).2=s.2++L
 | [],s=>by rw[wW]; rfl
 |d::L,s=>by
  rw[vB,Xn L]
  have:(wu [] s d).2=s.2++[d]:=by
   unfold wu;cases zS d with
   |true=>rfl
   |false=>show(if s.1∈([]:List Nat)then s.2 else s.2++[d])=_; rw[zL wq]
  rw[this,ql];rfl
theorem Rv{L:List D}(P:PC L)(qs:List Nat):PC (wt qs L).2:=by
 have km:∀x∈(wt qs L).2,x∈L:=λx hx=>by
  rcases FP qs L (0,[]) x hx with h|h
  ·cases h
  ·exact h
 have kl:(wt qs L).2.filter zS=L.filter zS:=FN qs L (0,[]);refine⟨λd hd=>P.it d (km d hd),by rw[kl]; exact P.nd,λd hd hj=>?_,?_⟩
 ·obtain⟨t,p,e1,e2⟩:=P.tg d (km d hd) hj;have h1:=lO P.it e2
  have h2:xG t∈(wt qs L).2:=by
   have:xG t∈L.filter zS:=w6.mpr ⟨h1,rfl⟩;rw[<-kl]at this;exact(w6.mp this).1
  obtain⟨q,hq⟩:=ZI.mp (Ov (0,none) (.inl h2));exact⟨t,q,e1,hq⟩
 ·have:=O7 qs L (0,[]);have e:(wt qs L).2.length<=0+L.length:=this;have:=P.ln;omega
noncomputable def xL(z6:List D):List D:=z6.map (yh z6)
noncomputable def wj(z6:List D):List D:=(wt (vV (xL z6)) (xL z6)).2
theorem Tc{z6:List D}(P:PC z6):(zB (xL z6)).length=(zB z6).length:=by
 unfold xL;rw[(Xr P).2.2,zj]
theorem Lg{z6:List D}(P:PC z6):PC (wj z6)/\(zB (wj z6)).length<=(zB z6).length:=by
 have P':PC (xL z6):=(Xr P).1;refine⟨Rv P' _,?_⟩;have:=(TN (vV (xL z6)) (xL z6) (0,[])).1;have e:(zB (wj z6)).length<=0+(zB (xL z6)).length:=this;rw[Tc P]at e;omega
inductive jh:Nat->List D->List D->Prop
 |fin {a:List D}:wj a=a->jh 0 a a
 |go {a b:List D} {k:Nat}:wj a≠a->jh k (wj a) b->jh (k+1) a b
theorem HM:∀(n:Nat){a:List D},PC a->(zB a).length<=n->∃k b,k<=n+1/\jh k a b
 |n,a,P,hn=>by
  by_cases c:wj a=a
  ·exact⟨0,a,xb _,.fin c⟩
  ·by_cases q:vV (xL a)=[]
   ·have e:wj a=xL a:=by
     unfold wj wt;rw[q,Xn];rfl
    have P':PC (xL a):=(Xr P).1;have e2:xL (xL a)=xL a:=Sj P
    have e3:wj (xL a)=xL a:=by
     unfold wj wt;rw[e2,q,Xn];rfl
    exact⟨1,xL a,by omega,.go c (by rw[e]; exact .fin e3)⟩
   ·obtain⟨x,hx⟩:=List.exists_mem_of_ne_nil _ q;have lt:=GI x hx;have dec:=(TN (vV (xL a)) (xL a) (0,[])).2 ⟨x,hx,xb _,by show x<0+_; omega⟩;have dec:(zB (wj a)).length<0+(zB (xL a)).length:=dec;rw[Tc P]at dec
    match n,hn with
    |0,hn=>omega
    |n+1,hn=>
     obtain⟨k,b,hk,S⟩:=HM n (Lg P).1 (by omega);exact⟨k+1,b,by omega,.go c S⟩
def TW:FS:=(zI (zb 1 (z7 2))
    (zI (zb 3 (wC tt (zC (z7 1) zD)))
    (zb 2 (zW gm (zC (z7 3) (zC (zW ZL (zC (z7 3) zD)) zD))))))
def XT:FT:=(tE (e2 XY (z7 2) (z7 1)))
def Ui:FS:=
 (zI (zb 1 (eC .non))
  (zI (zb 2 (z7 0))
  (zI (pK XT
   TW)
  (v6 (wC qw (zC (z7 2) zD))))))
def vj:List D->Option (Bool×D):=FR 1 4 Ui
theorem eY:∀ds r,vj ds=some r->ds.length=1/\zh 4 Ui ds=some r:=yz
theorem RG(x0:D):vj [x0]=zh 4 Ui [x0]:=rfl
theorem HC{i0:D}{z6:List D}{x1 x3:Option Sl}(P:PC z6)(hr:(zB z6).length<=60):∃y3,TW [some (false,i0),x1,some (false,.lst z6),x3]=some (.nx [some (false,i0),some (false,.lst z6),some (false,.lst (wj z6)),y3]):=by
 have e1:tt [.lst z6]=some (true,.lst (xL z6)):=Fu P;have P':PC (xL z6):=(Xr P).1;obtain⟨o,e2⟩:=RX P' (by rw[Tc P]; exact hr);have e3:gm [.lst (xL z6),.lst (zH (vV (xL z6)))]=some (true,.lst (wj z6)):=z0k P'.it P'.ln _;refine⟨some (false,.lst (xL z6)),?_⟩;unfold TW;generalize zH (vV (xL z6))=QQ at *;generalize wj z6=SS at *;generalize xL z6=LL at *;simp![e1,e2,e3]
theorem i6{i0:D}:∀{k:Nat}{a b:List D},jh k a b->PC a->(zB a).length<=60->∀(x1:D)(x3:Option Sl),XY (.lst a) x1=some (.bl true)->∃y3,vI XT TW (k+2) [some (false,i0),some (false,x1),some (false,.lst a),x3]=some (.nx [some (false,i0),some (false,.lst b),some (false,.lst b),y3]):=λ{k}=>by
 induction k with
 |zero=>
  intro a b S P hr x1 x3 hx;cases S with
  |fin h=>
   obtain⟨y3,e⟩:=HC (i0:=i0) (x1:=some (false,x1)) (x3:=x3) P hr;rw[h]at e;refine⟨y3,?_⟩;have q:XY (.lst a) (.lst a)=some (.bl false):=Ti (Tn P.it);rw[Ye (by unfold XT; simp![hx]) e,Z3 (by unfold XT; simp![q])]
 |succ k ih=>
  intro a b S P hr x1 x3 hx;cases S with
  |go h S=>
   obtain⟨y3,e⟩:=HC (i0:=i0) (x1:=some (false,x1)) (x3:=x3) P hr;obtain⟨P',r'⟩:=Lg P
   have q:XY (.lst (wj a)) (.lst a)=some (.bl true):=by
    haveI:=Classical.propDecidable (wj a=a)
    show yd _ _=_;rw[Rn P'.it P.it,yy h];rfl
   rw[Ye (by unfold XT; simp![hx]) e];exact ih S P' (by omega) (.lst a) y3 q
theorem Lf:∀{k:Nat}{a b:List D},jh k a b->PC a->PC b/\(zB b).length<=(zB a).length
 |_,_,_,.fin _,P=>⟨P,zt _⟩
 |_,_,_,.go _ S,P=>by
  obtain⟨P',r'⟩:=Lg P;obtain⟨P2,r2⟩:=Lf S P';exact⟨P2,by omega⟩
theorem HB{k:Nat}{a b:List D}(S:jh k a b)(P:PC a)(hr:(zB a).length<=60)(hk:k<=100):vj [.lst a]=some (true,.lst (ye b)):=by
 obtain⟨P2,r2⟩:=Lf S P;obtain⟨pF,_⟩:=Ts P2 (by omega);obtain⟨y3,e⟩:=i6 (i0:=.lst a) S P hr .non none rfl;have e2:=kq _ e (wX (show k+2<=102 by omega) (by decide));rw[RG];unfold Ui;generalize ye b=BB at *;simp![e2,pF]
def M7:FE:=(e2 zO (z7 7) (eC (.int 1)))
def Qa:FT:=(tE (e2 zu (e2 zO (z7 7) (eC (.int 0))) (eC (.str "label"))))
def Gc:FA:=(qX (eC (.int 0)) (eL xW (zC (z7 0) zD)))
def kM:FS:=(zI (zb 6 (zW va (zC (z7 1) (zC (e2 xS (z7 2) (z7 5)) zD))))
    (yP (xm (tE (e2 zu (e2 zO (e2 zO (z7 0) (z7 5)) (eC (.int 0))) (eC (.str "label")))) (xm (tE (e2 (uE λi j=>decide (i<j)) (e2 xN (z7 6) (eC (.int 4))) (eC (.int 2)))) (tE (e2 zu (z7 3) (xY zD)))))
     (vN 4 vE (e2 zO (z7 0) (z7 5)))
     (yP (tE (e2 zu (e2 xN (z7 6) (eC (.int 4))) (eC (.int 2))))
       (vN 4 vE (xt (zC (eC (.str "jump")) (zC (e2 zO (z7 3) (e2 xN (e2 vF (z7 6) (eC (.int 4))) (eL xW (zC (z7 3) zD)))) zD))))
       (vN 4 vE (xt (zC (eC (.str "copy")) (zC (e2 xN (e2 vF (z7 6) (eC (.int 4))) (eC (.int 8))) (zC (e2 xN (e2 vF (z7 6) (eC (.int 4))) (eC (.int 8))) zD))))))))
def UV:FS:=
 (zI (zb 3 (xr 1 (v0 (z7 0)) (zz 7) Qa M7))
  (zI (vX 4 (xY zD))
  (zI (gF Gc (zz 5)
   kM)
  (jP 4))))
def ZT:List D->Option (Bool×D):=FR 3 7 UV
theorem eD:∀ds r,ZT ds=some r->ds.length=3/\zh 7 UV ds=some r:=yz
theorem R3(x0 x1 x2:D):ZT [x0,x1,x2]=zh 7 UV [x0,x1,x2]:=rfl
theorem sC{z6:List D}(P:PC z6)(h40:z6.length<=40){s:D}(em:∀i:Nat,i<41->∃m:Int,0<=m/\va [s,.int (46+(i:Int))]=some (false,.int m)):∃items',PC items'/\items'.length=z6.length/\ZT [.lst z6,s,.int 46]=some (true,.lst items'):=by
 have ln:=P.ln
 obtain⟨ns,e1,hns⟩:∃ns:List Str,wU (zz 7) Qa M7 [some (false,.lst z6),some (false,s),some (false,.int 46),none,none,none,none,none] z6=some (ns.map D.str)/\∀t∈ns,xG t∈z6:=by
  have e:=jI (g:=zz 7) (c:=Qa) (e:=M7) (σ:=[some (false,.lst z6),some (false,s),some (false,.int 46),none,none,none,none,none]) zS (λd=>match d with|.tup [_,x]=>x|d=>d) (ds:=z6) λd hd=>by
   obtain⟨w,a,b,_⟩:=Xl (P.it d hd);refine⟨_,rfl,?_,λhl=>?_⟩
   ·unfold Qa;simp![a,b]
   ·obtain⟨t,rfl⟩:=kK (P.it d hd) hl;rfl
  have g:∀L:List D,(∀d∈L,d∈z6)->∃ns:List Str,(L.filter zS).map (λd=>match d with|.tup [_,x]=>x|d=>d)=ns.map D.str/\∀t∈ns,xG t∈z6:=λL=>by
   induction L with
   |nil=>intro _; exact⟨[],rfl,λ_ h=>by cases h⟩
   |cons d L ih=>
    intro h;obtain⟨ns,h1,h2⟩:=ih λx hx=>h x (yX _ hx)
    have hd:=h d (yF ..);cases hl:zS d with
    |false=>
     rw[vZ (by rw[hl]; decide)];exact⟨ns,h1,h2⟩
    |true=>
     obtain⟨t,rfl⟩:=kK (P.it d hd) hl;rw[vh hl,xT,h1]
     exact⟨t::ns,rfl,λu hu=>by
      rcases yI.mp hu with rfl|hu
      ·exact hd
      ·exact h2 u hu⟩
  obtain⟨ns,h1,h2⟩:=g z6 λ_ h=>h
  rw[h1]at e;exact⟨ns,e,h2⟩
 have eqn:zu (.lst (ns.map D.str)) (.lst [])=some (.bl (ns.map D.str).isEmpty):=by cases ns<;>rfl
 have r1:Gc [some (false,.lst z6),some (false,s),some (false,.int 46),some (false,.lst (ns.map D.str)),some (true,.lst []),none,none]=some (ww z6.length):=gC (n:=(z6.length:Int)) rfl (by omega)
 have one:∀(i:Nat)(hi:i<z6.length),∃y,(y=z6[i]\/(zS z6[i]=false/\((∃t∈ns,y=.tup [.str "jump",.str t])\/uP y)))/\∀(L:List D)(x6:Option Sl),L.length<=1000->∃y6,kM [some (false,.lst z6),some (false,s),some (false,.int 46),some (false,.lst (ns.map D.str)),some (true,.lst L),some (false,.int (i:Int)),x6]=some (.nx [some (false,.lst z6),some (false,s),some (false,.int 46),some (false,.lst (ns.map D.str)),some (true,.lst (L++[y])),some (false,.int (i:Int)),y6]):=λi hi=>by
  obtain⟨m,m0,ef⟩:=em i (by omega);have ix:zO (.lst z6) (.int (i:Int))=some z6[i]:=tJ (by omega) (by rw[xg]; exact yZ hi);obtain⟨w,a,b0,_⟩:=Xl (P.it _ (ZA hi))
  have old:∀(b1 b2 b3:Bool),zu (.str w) (.str "label")=some (.bl b1)->decide (m%4<2)=b2->zu (.lst (ns.map D.str)) (.lst [])=some (.bl b3)->(b1||(b2||b3))=true->∃y,(y=z6[i]\/(zS z6[i]=false/\((∃t∈ns,y=.tup [.str "jump",.str t])\/uP y)))/\∀(L:List D)(x6:Option Sl),L.length<=1000->∃y6,kM [some (false,.lst z6),some (false,s),some (false,.int 46),some (false,.lst (ns.map D.str)),some (true,.lst L),some (false,.int (i:Int)),x6]=some (.nx [some (false,.lst z6),some (false,s),some (false,.int 46),some (false,.lst (ns.map D.str)),some (true,.lst (L++[y])),some (false,.int (i:Int)),y6]):=λb1 b2 b3 k1 k2 k3 hb=>by
   refine⟨z6[i],.inl rfl,λL x6 hL=>⟨some (false,.int m),?_⟩⟩;have hap:=j7 (L:=L) (r:=z6[i]) hL;unfold kM;generalize z6[i]=d at *;generalize ns.map D.str=NN at *;cases b1 with
   |true=>simp![add_int,ef,ix,a,k1,hap]
   |false=>
    cases b2 with
    |true=>simp![add_int,ef,ix,a,k1,k2,hap]
    |false=>
     cases b3 with
     |true=>simp![add_int,ef,ix,a,k1,k2,k3,hap]
     |false=>cases hb
  cases hl:zS z6[i]with
  |true=>
   rw[hl]at b0;exact hl▸old _ _ _ b0 rfl eqn rfl
  |false=>
   rw[hl]at b0;by_cases h2:m%4<2
   ·exact hl▸old _ _ _ b0 (xD h2) eqn rfl
   ·have k2:decide (m%4<2)=false:=yy h2;by_cases hn:ns=[]
    ·subst hn;exact hl▸old _ _ _ b0 k2 eqn rfl
    ·have hp:0<ns.length:=Kb.mpr hn
     have ie:(ns.map D.str).isEmpty=false:=by
      cases ns with
      |nil=>exact absurd rfl hn
      |cons _ _=>rfl
     rw[ie]at eqn;by_cases h4:m%4=2
     ·have k4:=Xh h4;have a0:=Yn (m/4) (show(ns.length:Int)≠0 by omega);have a1:=Ym (m/4) (show 0<(ns.length:Int) by omega);have hv:(m/4%(ns.length:Int)).toNat<ns.length:=by omega
      have it:zO (.lst (ns.map D.str)) (.int (m/4%(ns.length:Int)))=some (.str ns[(m/4%(ns.length:Int)).toNat]):=tJ a0 (by rw[xC,yZ hv]; rfl);have mt:=ZA hv;generalize ns[(m/4%(ns.length:Int)).toNat]=t at it mt;have gN:decide (0<(ns.length:Int))=true:=xD (by omega);refine⟨.tup [.str "jump",.str t],.inr ⟨rfl,.inl ⟨t,mt,rfl⟩⟩,λL x6 hL=>⟨some (false,.int m),?_⟩⟩;have hap:=j7 (L:=L) (r:=.tup [.str "jump",.str t]) hL;have ll:(ns.map D.str).length=ns.length:=zj _;unfold kM;generalize z6[i]=d at *;generalize ns.map D.str=NN at *;simp![add_int,ef,ix,a,b0,k2,eqn,k4,ll,gN,it,hap]
     ·have k4:=Xi h4;refine⟨.tup [.str "copy",.int (m/4%8),.int (m/4%8)],.inr ⟨rfl,.inr (.two (.inl rfl) (by omega) (by omega) (by omega) (by omega))⟩,λL x6 hL=>⟨some (false,.int m),?_⟩⟩;have hap:=j7 (L:=L) (r:=.tup [.str "copy",.int (m/4%8),.int (m/4%8)]) hL;unfold kM;generalize z6[i]=d at *;generalize ns.map D.str=NN at *;simp![add_int,ef,ix,a,b0,k2,eqn,k4,hap]
 obtain⟨σ',e2,L,x5,x6,l1,l2,rfl⟩:=kP (g:=zz 5) (b:=kM) (λi σ=>∃L x5 x6,L.length=i/\(∀j y,j<i->L[j]?=some y->∃d,z6[j]?=some d/\(y=d\/(zS d=false/\((∃t∈ns,y=.tup [.str "jump",.str t])\/uP y))))/\σ=[some (false,.lst z6),some (false,s),some (false,.int 46),some (false,.lst (ns.map D.str)),some (true,.lst L),x5,x6]) (ds:=ww z6.length)
  (σ:=[some (false,.lst z6),some (false,s),some (false,.int 46),some (false,.lst (ns.map D.str)),some (true,.lst []),none,none]) 0 ⟨[],none,none,rfl,(λj _ h=>absurd h (VV _)),rfl⟩ (by
  rintro i v σ hv ⟨L,x5,x6,l1,l2,rfl⟩;obtain⟨hi,rfl⟩:=VG hv;rw[xn]at *;obtain⟨y,hy,ey⟩:=one i hi;obtain⟨y6,ey⟩:=ey L x6 (by omega);refine⟨_,_,rfl,.inl ey,L++[y],_,_,by rw[yD,l1]; rfl,λj z hj hz=>?_,rfl⟩;by_cases c:j<i
  ·rw[gS (by omega)]at hz;exact l2 j z c hz
  ·have:j=i:=by omega
   subst this;rw[VO (by omega),l1,VW]at hz;cases hz;exact⟨z6[j],yZ hi,hy⟩)
 rw[Z2,xn]at l1 l2
 have ea:py (λd y=>y=d\/(zS d=false/\((∃t∈ns,y=.tup [.str "jump",.str t])\/uP y))) z6 L:=DK l1.symm λi x y hx hy=>by
  obtain⟨d,hd,h⟩:=l2 i y (by rw[<-l1]; exact(yM.mp hy).1) hy;rw[hx]at hd;cases hd;exact h
 have plL:∀y,uP y->zS y=false:=λy h=>(Q5 (m:=0) (.inl h)).choose_spec.2.2.1
 have kl:∀{xs ys:List D},py (λd y=>y=d\/(zS d=false/\((∃t∈ns,y=.tup [.str "jump",.str t])\/uP y))) xs ys->ys.filter zS=xs.filter zS/\∀t s,ys.foldl (vU t) s=xs.foldl (vU t) s:=λ{xs ys} h=>by
  induction h with
  |nil=>exact⟨rfl,λ_ _=>rfl⟩
  |cons r _ ih=>
   rename_i x y _ _ _;rcases r with rfl|⟨hl,r⟩
   ·exact⟨by rw[List.filter_cons,List.filter_cons,ih.1],λt s=>by rw[vB,vB,ih.2]⟩
   ·have hy:zS y=false:=by
     rcases r with⟨t,_,rfl⟩|r
     ·rfl
     ·exact plL y r
    refine⟨by rw[vZ (by rw[hy]; decide),vZ (by rw[hl]; decide),ih.1],λu s=>?_⟩;rw[vB,vB,ih.2]
    congr 1
    unfold vU;rw[hl,hy]
 obtain⟨k1,k2⟩:=kl ea;have k2:∀t,xH t L=xH t z6:=λt=>k2 t _
 refine⟨L,⟨λd hd=>?_,by rw[k1]; exact P.nd,λd hd hj=>?_,by omega⟩,l1,?_⟩
 ·obtain⟨x,hx,h⟩:=XW ea d hd;rcases h with rfl|⟨_,⟨t,_,rfl⟩|h⟩
  ·exact P.it _ hx
  ·exact .wA t
  ·exact .plain h
 ·obtain⟨x,hx,h⟩:=XW ea d hd;rcases h with rfl|⟨_,⟨t,ht,rfl⟩|h⟩
  ·obtain⟨t,p,q1,q2⟩:=P.tg _ hx hj;exact⟨t,p,q1,by rw[k2]; exact q2⟩
  ·obtain⟨p,hp⟩:=ZI.mp (Ov (L:=z6) (0,none) (.inl (hns t ht)));exact⟨t,p,rfl,by rw[k2]; exact hp⟩
  ·rw[(gA h).choose_spec.2.2.2.1]at hj;cases hj
 ·rw[R3];unfold UV;generalize ns.map D.str=NN at *;simp![e1,r1,e2]
theorem kA(a b:Str):(a++b).cps.toList=a.cps.toList++b.cps.toList:=KC
theorem Ab{a b:Nat}(ha:a<702)(hb:b<702)(h:nm a=nm b):a=b:=by
 have h1:=congrArg (λz:Str=>z.cps.toList) h;have lc:∀x:Int,(lt x).cps.toList=[97+x.toNat]:=λ_=>rfl
 have le:(("" : Str)).cps.toList=[]:=rfl;unfold nm at h1;by_cases ca:a<26
 ·by_cases cb:b<26
  ·simp only[zK ca,zK cb,kA,lc,le,wW,VM]at h1;omega
  ·simp only[zK ca,zL cb,kA,lc,le,wW,Z8,tZ,VM]at h1;exact absurd h1.2 (λz=>nomatch z)
 ·by_cases cb:b<26
  ·simp only[zL ca,zK cb,kA,lc,le,wW,Z8,tZ,VM]at h1;exact absurd h1.2 (λz=>nomatch z)
  ·simp only[zL ca,zL cb,kA,lc,le,wW,Z8,tZ,VM]at h1;omega
section
variable{n:Nat}{zF:List (Option Nat)}
theorem CP(hn:n<=60){p q:Nat}(hp:p∈yV n zF)(hq:q∈yV n zF)(h:xR n zF p=xR n zF q):p=q:=by
 have le:=Op n zF;have a:=Md hp;have b:=Md hq;have e:=Ab (by omega) (by omega) h;have ga:(yV n zF)[(yV n zF).idxOf p]=p:=KW a;have gb:(yV n zF)[(yV n zF).idxOf q]=q:=KW b;rw[<-ga,<-gb]
 exact congrArg (λi=>(yV n zF).getD i 0) e |> λz=>by
  rw[x_,x_,yZ a,yZ b]at z;exact z
end
structure jf(rows:List D)(zF:List (Option Nat)):Prop where
 Kp:rows.length<=60
 ln:zF.length=rows.length
 le:∀p,some p∈zF->p<=rows.length
 nl:∀i,i<rows.length->zS (ux rows.length zF (rows.getD i .non) (zF.getD i none))=false
section
variable{rows:List D}{zF:List (Option Nat)}
theorem OE{n p:Nat}:∀d∈wM n zF p,zS d=true:=λd hd=>by
 unfold wM at hd
 split at hd
 ·cases yt.mp hd;rfl
 ·cases hd
theorem Fe{n p:Nat}:zB (wM n zF p)=[]:=KP.mpr λd hd=>by
 rw[OE d hd]
 decide
theorem LH(a b:List D):zB (a++b)=zB a++zB b:=uc ..
theorem Q7(Y:jf rows zF):∀i,i<=rows.length->zB (xc rows zF i)=(List.range i).map λj=>ux rows.length zF (rows.getD j .non) (zF.getD j none)
 |0,_=>rfl
 |i+1,h=>by
  unfold xc;rw[LH,LH,Q7 Y i (by omega),Fe,tZ,Mk,qM]
  congr 1
  show List.filter _ [_]=_;rw[vh (by rw[Y.nl i (by omega)]; rfl)];rfl
theorem Gn(Y:jf rows zF):zB (tP rows zF)=(List.range rows.length).map λj=>ux rows.length zF (rows.getD j .non) (zF.getD j none):=by
 unfold tP;rw[LH,Q7 Y _ (zt _),Fe,wW]
theorem Fi(Y:jf rows zF):∀i,i<=rows.length->(xc rows zF i).filter zS=((List.range i).filter λp=>decide (p∈yV rows.length zF)).map λp=>xG (xR rows.length zF p)
 |0,_=>rfl
 |i+1,h=>by
  unfold xc;rw[uc,uc,Fi Y i (by omega),Mk,uc,qM]
  congr 1
  rw[vZ (by rw[Y.nl i (by omega)]; decide),Yp,wW,Ma.mpr OE];unfold wM;by_cases c:i∈yV rows.length zF
  ·rw[zK c,vh (by rw[xD c])];rfl
  ·rw[zL c,vZ (by rw[yy c]; decide)];rfl
theorem Fh(Y:jf rows zF):(tP rows zF).filter zS=((List.range (rows.length+1)).filter λp=>decide (p∈yV rows.length zF)).map λp=>xG (xR rows.length zF p):=by
 unfold tP;rw[uc,Fi Y _ (zt _),Mk,uc,qM]
 congr 1
 rw[Ma.mpr OE];unfold wM;by_cases c:rows.length∈yV rows.length zF
 ·rw[zK c,vh (by rw[xD c])];rfl
 ·rw[zL c,vZ (by rw[yy c]; decide)];rfl
theorem Ex(Y:jf rows zF){q:Nat}(hq:q∈yV rows.length zF)(L:List D)(i:Nat)(hi:(zB L).length=i)(h:(xH (xR rows.length zF q) L).2=if q<i then some q else none):(xH (xR rows.length zF q) (L++wM rows.length zF i)).2=if q<i+1 then some q else none:=by
 unfold wM;by_cases c:i∈yV rows.length zF
 ·rw[zK c,Os];by_cases e:i=q
  ·subst e;rw[zK rfl,zK (by omega)];exact congrArg some hi
  ·rw[zL (λz=>e (CP Y.Kp c hq z)),h];by_cases z:q<i
   ·rw[zK z,zK (by omega)]
   ·rw[zL z,zL (by omega)]
 ·rw[zL c,wW,h];have e:i≠q:=λz=>c (z▸hq)
  by_cases z:q<i
  ·rw[zK z,zK (by omega)]
  ·rw[zL z,zL (by omega)]
theorem Ey(Y:jf rows zF){q:Nat}(hq:q∈yV rows.length zF):∀i,i<=rows.length->(xH (xR rows.length zF q) (xc rows zF i)).2=if q<i then some q else none
 |0,_=>rfl
 |i+1,h=>by
  unfold xc;rw[<-ql,Ou (Y.nl i (by omega))];exact Ex Y hq _ i (by rw[Q7 Y i (by omega),zj,vP]) (Ey Y hq i (by omega))
theorem cD(Y:jf rows zF){q:Nat}(hq:q∈yV rows.length zF):(xH (xR rows.length zF q) (tP rows zF)).2=some q:=by
 unfold tP;rw[Ex Y hq _ rows.length (by rw[Q7 Y _ (zt _),zj,vP]) (Ey Y hq _ (zt _))];have:=(Oq Y.le).mp hq;have:=Y.le q this;rw[zK (by omega)]
end
theorem Ew{z6:List D}(P:PC z6)(hr:(zB z6).length<=60):jf ((zB z6).map yN) (yE z6)/\∀i,i<(zB z6).length->(yL (zo z6 i)=false/\yl z6 (zo z6 i)=none/\ux (zB z6).length (yE z6) (((zB z6).map yN).getD i .non) ((yE z6).getD i none)=zo z6 i)\/(yL (zo z6 i)=true/\∃(hd:List D) (p:Nat),yl z6 (zo z6 i)=some p/\yN (zo z6 i)=.tup hd/\hd≠[]/\hd.length<=2/\p∈yV (zB z6).length (yE z6)/\ux (zB z6).length (yE z6) (((zB z6).map yN).getD i .non) ((yE z6).getD i none)=.tup (hd++[.str (xR (zB z6).length (yE z6) p)])/\∀u,yO (.tup (hd++[.str u]))/\yL (.tup (hd++[.str u]))=true/\zS (.tup (hd++[.str u]))=false):=by
 have lr:((zB z6).map yN).length=(zB z6).length:=zj _
 have hle:∀p,some p∈yE z6->p<=(zB z6).length:=λp hp=>by
  obtain⟨r,_,e⟩:=wp.mp hp;exact Hf e
 have main:∀i,i<(zB z6).length->(yL (zo z6 i)=false/\yl z6 (zo z6 i)=none/\ux (zB z6).length (yE z6) (((zB z6).map yN).getD i .non) ((yE z6).getD i none)=zo z6 i)\/(yL (zo z6 i)=true/\∃(hd:List D) (p:Nat),yl z6 (zo z6 i)=some p/\yN (zo z6 i)=.tup hd/\hd≠[]/\hd.length<=2/\p∈yV (zB z6).length (yE z6)/\ux (zB z6).length (yE z6) (((zB z6).map yN).getD i .non) ((yE z6).getD i none)=.tup (hd++[.str (xR (zB z6).length (yE z6) p)])/\∀u,yO (.tup (hd++[.str u]))/\yL (.tup (hd++[.str u]))=true/\zS (.tup (hd++[.str u]))=false):=λi hi=>by
  have hr:=ve hi;have hm:zo z6 i∈z6:=(w6.mp (wK hr)).1;have e1:((zB z6).map yN).getD i .non=yN (zo z6 i):=by rw[x_,xC,hr]; rfl
  have e2:(yE z6).getD i none=yl z6 (zo z6 i):=by unfold yE; rw[x_,xC,hr]; rfl
  rw[e1,e2];have hI:=P.it _ hm;cases z:yL (zo z6 i)with
  |false=>
   have e3:yl z6 (zo z6 i)=none:=by unfold yl; rw[z]
   have e4:yN (zo z6 i)=zo z6 i:=by unfold yN; rw[z]
   rw[e3,e4];exact .inl ⟨rfl,rfl,rfl⟩
  |true=>
   have:=(Yb P hm).1;rw[z]at this;obtain⟨p,hp⟩:=ZI.mp this;obtain⟨hd,t,ed,n1,n2,_,it,_⟩:=pC hI z
   have eb:yN (zo z6 i)=.tup hd:=by
    unfold yN;rw[z,ed];show D.tup (hd++[D.str t]).dropLast=_;rw[Yo]
   have hpm:some p∈yE z6:=wp.mpr ⟨_,wK hr,hp⟩;refine .inr ⟨rfl,hd,p,hp,eb,n1,n2,(Oq hle).mpr hpm,?_,it⟩;rw[hp,eb];rfl
 refine⟨⟨by omega,by unfold yE; rw[zj,lr],λp hp=>by rw[lr]; exact hle p hp,λi hi=>?_⟩,main⟩;rw[lr]at hi ⊢;rcases main i hi with⟨_,_,e⟩|⟨_,hd,p,_,_,_,_,_,e,it⟩
 ·rw[e];exact(vW P hi).2
 ·rw[e];exact(it _).2.2
structure vS(X Y:List D):Prop where
 bare:(zB X).map yN=(zB Y).map yN
 zF:yE X=yE Y
theorem b_{z6:List D}(P:PC z6)(hr:(zB z6).length<=45):PC (ye z6)/\vS z6 (ye z6):=by
 obtain⟨Y,main⟩:=Ew P (by omega);have lr:((zB z6).map yN).length=(zB z6).length:=zj _;have ra:=Gn Y;have la:=Fh Y;rw[lr]at ra la;have ra:zB (ye z6)=(List.range (zB z6).length).map λj=>ux (zB z6).length (yE z6) (((zB z6).map yN).getD j .non) ((yE z6).getD j none):=ra
 have hI:=(Ts P (by omega)).2
 have inr:∀d∈ye z6,zS d=false->∃i,i<(zB z6).length/\d=ux (zB z6).length (yE z6) (((zB z6).map yN).getD i .non) ((yE z6).getD i none):=λd hd hl=>by
  have:d∈zB (ye z6):=w6.mpr ⟨hd,by rw[hl]; rfl⟩;rw[ra]at this;obtain⟨i,hi,e⟩:=wp.mp this;exact⟨i,uM.mp hi,e.symm⟩
 have pa:∀{q:Nat},q∈yV (zB z6).length (yE z6)->(xH (xR (zB z6).length (yE z6) q) (ye z6)).2=some q:=λ{q} hq=>by
  have:=cD Y (q:=q) (by rw[lr]; exact hq);rw[lr]at this;exact this
 have one:∀i,i<(zB z6).length->yN (ux (zB z6).length (yE z6) (((zB z6).map yN).getD i .non) ((yE z6).getD i none))=yN (zo z6 i)/\yl (ye z6) (ux (zB z6).length (yE z6) (((zB z6).map yN).getD i .non) ((yE z6).getD i none))=yl z6 (zo z6 i):=λi hi=>by
  rcases main i hi with⟨z,e0,e⟩|⟨z,hd,p,e0,eb,n1,n2,hp,e,it⟩
  ·rw[e,e0];exact⟨rfl,by unfold yl; rw[z]⟩
  ·rw[e,e0,eb];obtain⟨i1,i2,i3⟩:=it (xR (zB z6).length (yE z6) p);refine⟨?_,?_⟩
   ·unfold yN;rw[i2];show D.tup (hd++[D.str _]).dropLast=_;rw[Yo]
   ·unfold yl;rw[i2];show(xH (kR _) (ye z6)).2=_;rw[Zx i1 i2 (jG (t:=xR (zB z6).length (yE z6) p) (u := "") n1 n2).2.1];exact pa hp
 refine⟨⟨hI,?_,λd hd hj=>?_,?_⟩,⟨?_,?_⟩⟩
 ·show((tP _ _).filter zS).Nodup;rw[la];refine ZC.mpr (MW (λ{a b} ha hb hab=>?_) (KL KQ (Mg (n:=(zB z6).length+1))));intro h
  have h:xR (zB z6).length (yE z6) a=xR (zB z6).length (yE z6) b:=by
   unfold xG at h;injection h with h
   injection h with _ h
   injection h with h _
   injection h
  exact hab (CP (by omega) (vQ (w6.mp ha).2) (vQ (w6.mp hb).2) h)
 ·have hl:zS d=false:=by
   cases z:zS d with
   |false=>rfl
   |true=>rw[Dw z]at hj; cases hj
  obtain⟨i,hi,rfl⟩:=inr d hd hl;rcases main i hi with⟨z,e0,e⟩|⟨z,hd',p,e0,eb,n1,n2,hp,e,it⟩
  ·rw[e,z]at hj;cases hj
  ·rw[e];exact⟨_,p,(jG (t:=xR (zB z6).length (yE z6) p) (u := "") n1 n2).2.1,pa hp⟩
 ·have a:=TY ((zB z6).map yN) (yE z6) ((zB z6).map yN).length;have b:=OD ((zB z6).map yN).length (yE z6) ((zB z6).map yN).length;show(xc _ _ _++wM _ _ _).length<=100;rw[yD];omega
 ·rw[ra,vC];refine jW λi=>?_
  rw[xC,xC];by_cases hi:i<(zB z6).length
  ·rw[ve hi,gT hi];exact congrArg some (one i hi).1.symm
  ·rw[wo (by omega),wo (by rw[vP]; omega)];rfl
 ·show(zB z6).map (yl z6)=(zB (ye z6)).map (yl (ye z6));rw[ra,vC];refine jW λi=>?_
  rw[xC,xC];by_cases hi:i<(zB z6).length
  ·rw[ve hi,gT hi];exact congrArg some (one i hi).2.symm
  ·rw[wo (by omega),wo (by rw[vP]; omega)];rfl
theorem cA{X Y:List D}(S:vS X Y):ye X=ye Y:=by
 unfold ye;rw[S.bare,S.zF]
def Xz(r:D):D:=match yL r with
 |true=>gD (λ_ => "") r
 |false=>r
def qW(r:D):Nat×Nat:=(g9 (tu [r]),g9 (um [r]))
theorem rW(t:Str):qW (.tup [.str "jump",.str t])=qW (.tup [.str "jump",.str ""]):=by kernel_rfl
theorem rV(t:Str):(["when", "unless"].all λw=>["carry", "nought", "sign"].all λk=>decide (qW (.tup [.str (Str.ofString w),.str (Str.ofString k),.str t])=qW (.tup [.str (Str.ofString w),.str (Str.ofString k),.str ""])))=true:=by kernel_rfl
theorem Hj{r:D}(h:yO r):qW (Xz r)=qW r:=by
 unfold Xz;cases z:yL r with
 |false=>rfl
 |true=>
  show qW (gD (λ_ => "") r)=_;cases h with
  |label u=>cases z
  |plain h=>
   obtain⟨_,_,_,_,c,_⟩:=gA h;rw[c]at z;cases z
  |wA t=>exact(rW t).symm
  |cond t hw hk=>
   rename_i w k;have a:=rV t;have go:∀w0∈["when", "unless"],∀k0∈["carry", "nought", "sign"],qW (.tup [.str (Str.ofString w0),.str (Str.ofString k0),.str ""])=qW (.tup [.str (Str.ofString w0),.str (Str.ofString k0),.str t]):=λw0 h1 k0 h2=>(vQ (z_ (z_ a h1) h2)).symm
   rcases hw with rfl|rfl<;>rcases hk with rfl|rfl|rfl
   ·exact go "when" (by decide) "carry" (by decide)
   ·exact go "when" (by decide) "nought" (by decide)
   ·exact go "when" (by decide) "sign" (by decide)
   ·exact go "unless" (by decide) "carry" (by decide)
   ·exact go "unless" (by decide) "nought" (by decide)
   ·exact go "unless" (by decide) "sign" (by decide)
theorem Up{r r':D}(h:yO r)(h':yO r')(hj:yL r=yL r')(hb:yN r=yN r'):Xz r=Xz r'/\wd r=wd r'/\(yL r=false->r=r'):=by
 cases z:yL r with
 |false=>
  have z':=hj.symm.trans z
  have e:r=r':=by
   unfold yN at hb;rw[z,z']at hb;exact hb
  rw[e];exact⟨rfl,rfl,λ_=>rfl⟩
 |true=>
  have z':=hj.symm.trans z;obtain⟨hd,t,ed,n1,n2,rl,_,_⟩:=pC h z;obtain⟨hd',t',ed',n1',n2',rl',_,_⟩:=pC h' z'
  have e:hd=hd':=by
   unfold yN at hb;rw[z,z',ed,ed']at hb;have hb:D.tup (hd++[D.str t]).dropLast=D.tup (hd'++[D.str t']).dropLast:=hb;rw[Yo,Yo]at hb;injection hb
  subst e;refine⟨?_,?_,λw=>nomatch w⟩
  ·unfold Xz;rw[z,z'];show gD _ r=gD _ r';rw[rl,rl']
  ·rw[ed,ed']
   match hd,n1 with
   |a::hd,_=>cases a<;>rfl
theorem Bx{r:D}(h:yO r)(hj:yL r=true):uu r=false:=by
 obtain⟨b,b1,b2,b3⟩:=Bw h;cases h with
 |label u=>cases hj
 |plain h=>
  obtain⟨_,_,_,_,c,_⟩:=gA h;rw[c]at hj;cases hj
 |wA t=>rfl
 |cond t hw hk=>rfl
section
variable{X Y:List D}
theorem vS.len(S:vS X Y):(zB X).length=(zB Y).length:=by
 have:=congrArg List.length S.bare;rw[zj,zj]at this;exact this
theorem vS.row(S:vS X Y)(PX:PC X)(PY:PC Y){i:Nat}(hi:i<(zB X).length):yN (zo X i)=yN (zo Y i)/\yl X (zo X i)=yl Y (zo Y i)/\yL (zo X i)=yL (zo Y i):=by
 have hi':i<(zB Y).length:=by rw[<-S.len]; exact hi
 have b:=congrArg (λl:List D=>l[i]?) S.bare;have t:=congrArg (λl:List (Option Nat)=>l[i]?) S.zF;unfold yE at t;simp only[xC,ve hi,ve hi',Option.map_some,Option.some.injEq]at b t;refine⟨b,t,?_⟩;have m1:zo X i∈X:=(w6.mp (wK (ve hi))).1;have m2:zo Y i∈Y:=(w6.mp (wK (ve hi'))).1;rw[<-(Yb PX m1).1,<-(Yb PY m2).1,t]
theorem vS.B9{X:List D}{i:Nat}(hi:¬ i<(zB X).length):zo X i=.non:=by
 unfold zo;rw[x_,wo (by omega)];rfl
theorem vS.uf(S:vS X Y)(PX:PC X)(PY:PC Y):Uf X=Uf Y/\Pf X=Pf Y:=by
 have go:∀i,qW (zo X i)=qW (zo Y i):=λi=>by
  by_cases hi:i<(zB X).length
  ·have hi':i<(zB Y).length:=by rw[<-S.len]; exact hi
   obtain⟨b,_,j⟩:=S.row PX PY hi;rw[<-Hj (vW PX hi).1,<-Hj (vW PY hi').1,(Up (vW PX hi).1 (vW PY hi').1 j b).1]
  ·rw[vS.B9 hi,vS.B9 (by rw[<-S.len]; exact hi)]
 exact⟨funext λi=>congrArg Prod.fst (go i),funext λi=>congrArg Prod.snd (go i)⟩
theorem vS.wf(S:vS X Y)(PX:PC X)(PY:PC Y):Wf X=Wf Y:=funext λi=>by
 unfold Wf;by_cases hi:i<(zB X).length
 ·have hi':i<(zB Y).length:=by rw[<-S.len]; exact hi
  rw[ve hi,ve hi'];obtain⟨b,t,j⟩:=S.row PX PY hi;show jU _ i _=jU _ i _;rw[t];unfold jU;rw[(Up (vW PX hi).1 (vW PY hi').1 j b).2.1]
 ·rw[wo (by omega),wo (by rw[<-S.len]; omega)]
theorem AX{n:Nat}{U P:Nat->Nat}{W:Nat->List Nat}{T T':List Nat}(A:NI n U P W T [])(B:NI n U P W T' []):T=T':=by
 have cl:∀{T:List Nat},NI n U P W T []->BA n U P W T:=λA=>⟨A.last,λi hi=>by rw[A.fx i hi wq]; exact Sb.refl _⟩
 have eq:∀i,i<=n->gt T i=gt T' i:=λi hi=>(A.least T' (cl B) i hi).J6 (B.least T (cl A) i hi)
 refine jW λi=>?_
 by_cases hi:i<n+1
 ·rw[IT (by rw[A.len]; exact hi),IT (by rw[B.len]; exact hi),eq i (by omega)]
 ·rw[wo (by rw[A.len]; omega),wo (by rw[B.len]; omega)]
theorem F_:∀{a b:List Nat},a.Pairwise (·<·)->b.Pairwise (·<·)->(∀x,x∈a↔x∈b)->a=b
 | [],[],_,_,_=>rfl
 | [],y::b,_,_,h=>by have:=(h y).mpr yF; cases this
 |x::a,[],_,_,h=>by have:=(h x).mp yF; cases this
 |x::a,y::b,ha,hb,h=>by
  rw[gU]at ha hb
  have e:x=y:=by
   rcases yI.mp ((h x).mp yF)with z|z
   ·exact z
   ·rcases yI.mp ((h y).mpr yF)with w|w
    ·exact w.symm
    ·have:=hb.1 x z;have:=ha.1 y w;omega
  subst e
  rw[F_ ha.2 hb.2 λz=>⟨λhz=>by
   rcases yI.mp ((h z).mp (yX _ hz))with w|w
   ·have:=ha.1 z hz; omega
   ·exact w,λhz=>by
   rcases yI.mp ((h z).mpr (yX _ hz))with w|w
   ·have:=hb.1 z hz; omega
   ·exact w⟩]
theorem Ol{n:Nat}{p q:Nat->Bool}(h:∀i,i<n->p i=q i):pN n p=pN n q:=by
 unfold pN;exact List.filter_congr λi hi=>h i (uM.mp hi)
theorem vS.kinds(S:vS X Y)(PX:PC X)(PY:PC Y)(hr:(zB X).length<=60):vV X=vV Y/\pE X (Z0 (qR [.lst X])) (Z0 (qQ [.lst X])) (zB X).length=pE Y (Z0 (qR [.lst Y])) (Z0 (qQ [.lst Y])) (zB Y).length:=by
 obtain⟨R,s1,m1,eR⟩:=Q3 PX hr;obtain⟨R',s2,m2,eR'⟩:=Q3 PY (by rw[<-S.len]; exact hr);obtain⟨T,NT,eT⟩:=Tj PX;obtain⟨T',NT',eT'⟩:=Tj PY;obtain⟨u,p⟩:=S.uf PX PY;have w:=S.wf PX PY;have l:=S.len;rw[<-l,<-u,<-p,<-w]at NT';rw[<-l,<-w]at m2;have e1:R=R':=F_ s1 s2 λi=>by rw[m1,m2]
 have e2:T=T':=AX NT NT';subst e1 e2
 have k:pE X R T (zB X).length=pE Y R T (zB Y).length:=by
  unfold pE;rw[<-l]
  have k1:pN (zB X).length (qZ X)=pN (zB X).length (qZ Y):=Ol λi hi=>by
   unfold qZ;rw[(S.row PX PY hi).2.1]
  have k2:(pN (zB X).length λi=>uu (zo X i))=pN (zB X).length λi=>uu (zo Y i):=Ol λi hi=>by
   obtain⟨b,_,j⟩:=S.row PX PY hi;have hi':i<(zB Y).length:=by rw[<-l]; exact hi
   cases z:yL (zo X i)with
   |true=>rw[Bx (vW PX hi).1 z,Bx (vW PY hi').1 (j.symm.trans z)]
   |false=>rw[(Up (vW PX hi).1 (vW PY hi').1 j b).2.2 z]
  have k3:pN (zB X).length (qY X T)=pN (zB X).length (qY Y T):=Ol λi hi=>by
   unfold qY;rw[p,w]
  rw[k1,k2,k3]
 unfold vV;rw[eR,eR',eT,eT',Yc,Yc,k];exact⟨rfl,rfl⟩
def jp(X:List D)(p:Nat):Option Nat:=(jn (zB X) p).map (yu X)
def U3(J:Nat->Option Nat):Nat->Nat->Prop
 |0,a=>J a=none
 |k+1,a=>∃r,J a=some r/\U3 J k r
theorem Uv{J:Nat->Option Str}{pl:Str->Nat}:∀{k:Nat}{a:Str},u9 J pl k a↔U3 (λp=>(J p).map pl) k (pl a)
 |0,a=>by
  show J (pl a)=none↔(J (pl a)).map pl=none;cases J (pl a)with
  |none=>exact⟨λ_=>rfl,λ_=>rfl⟩
  |some r=>exact⟨(λz=>nomatch z),(λz=>nomatch z)⟩
 |k+1,a=>by
  show(∃r,J (pl a)=some r/\u9 J pl k r)↔∃r,(J (pl a)).map pl=some r/\U3 (λp=>(J p).map pl) k r
  constructor
  ·rintro⟨r,e,h⟩;exact⟨pl r,by rw[e]; rfl,Uv.mp h⟩
  ·rintro⟨r,e,h⟩;cases z:J (pl a)with
   |none=>rw[z]at e; cases e
   |some r0=>
    rw[z]at e;have e:pl r0=r:=wz e;subst e;exact⟨r0,rfl,Uv.mpr h⟩
def BL(J:Nat->Option Nat)(p:Nat):Prop:=J p=none\/¬ ∃k,U3 J k p
theorem Fk(P:PC X)(t:Str):wD X t=t↔BL (jp X) (yu X t):=by
 obtain⟨k,o,_,R⟩:=kj (J:=jn (zB X)) (pl:=yu X) (n:=(zB X).length) (λp r h=>(Zy P h).2.2) (zB X).length t [] t8 (λ_ h=>by cases h) (Yy _ _);have el:wD X t=o.getD t:=kO R;rw[el]
 have jn_jp:jn (zB X) (yu X t)=none↔jp X (yu X t)=none:=by
  unfold jp;cases jn (zB X) (yu X t)with
  |none=>exact⟨λ_=>rfl,λ_=>rfl⟩
  |some r=>exact⟨(λz=>nomatch z),(λz=>nomatch z)⟩
 cases o with
 |none=>
  refine⟨λ_=>.inr ?_,λ_=>rfl⟩;rintro⟨j,hj⟩;exact LK R (λ_ h=>by cases h) ⟨j,Uv.mpr hj⟩
 |some b=>
  obtain⟨h1,j,h2⟩:=Q8 R
  constructor
  ·intro e;have e:b=t:=e;subst e;exact .inl (jn_jp.mp h1)
  ·rintro(e|e)
   ·have e:=jn_jp.mpr e;cases R with
    |stop _=>rfl
    |go z _ _=>rw[e]at z; cases z
   ·exact absurd ⟨j,Uv.mp h2⟩ e
theorem Te{f:D->D}:∀{L:List D},L.map f=L↔∀d∈L,f d=d
 | []=>⟨(λ_ d h=>by cases h),λ_=>rfl⟩
 |x::L=>by
  rw[xT]
  constructor
  ·intro h d hd;injection h with h1 h2
   rcases yI.mp hd with rfl|hd
   ·exact h1
   ·exact Te.mp h2 d hd
  ·intro h;rw[h x (yF ..),Te.mpr λd hd=>h d (yX _ hd)]
theorem Fv(P:PC X):xL X=X↔∀i p,i<(zB X).length->yl X (zo X i)=some p->BL (jp X) p:=by
 have one:∀d∈X,yL d=true->∃(t:Str) (p:Nat),yl X d=some p/\yu X t=p/\(yh X d=d↔wD X t=t):=λd hd hj=>by
  obtain⟨t0,p,q1,q2⟩:=P.tg d hd hj;obtain⟨hd',t,ed,n1,n2,rl,_,_⟩:=pC (P.it d hd) hj;have q3:=(jG (t:=t) (u:=t) n1 n2).2.1;rw[<-ed,q1]at q3;injection q3 with q3
  injection q3 with q3
  subst q3;refine⟨t0,p,?_,?_,?_⟩
  ·unfold yl;rw[hj];show(xH (kR d) X).2=_;rw[Zx (P.it d hd) hj q1];exact q2
  ·unfold yu;rw[q2];rfl
  ·unfold yh;rw[hj];show gD (wD X) d=d↔_;rw[rl]
   constructor
   ·intro e;rw[ed]at e;injection e with e
    have:=List.append_inj_right e rfl;injection this with this _
    injection this
   ·intro e;rw[e,ed]
 constructor
 ·intro h i p hi hp;have hm:zo X i∈X:=(w6.mp (wK (ve hi))).1
  have hj:yL (zo X i)=true:=by
   rw[<-(Yb P hm).1,hp];rfl
  obtain⟨t,p',e1,e2,e3⟩:=one _ hm hj;rw[hp]at e1;cases e1;rw[<-e2];refine(Fk P t).mp (e3.mp ?_);exact Te.mp h _ hm
 ·intro h;refine Te.mpr λd hd=>?_
  cases hj:yL d with
  |false=>unfold yh; rw[hj]
  |true=>
   obtain⟨t,p,e1,e2,e3⟩:=one d hd hj;refine e3.mpr ((Fk P t).mpr ?_);rw[e2]
   have hl:zS d=false:=by
    cases z:zS d with
    |false=>rfl
    |true=>rw[Dw z]at hj; cases hj
   have hm:d∈zB X:=w6.mpr ⟨hd,by rw[hl]; rfl⟩;obtain⟨i,hi,ei⟩:=Ke.mp hm
   have er:zo X i=d:=by
    have:=ve hi;rw[yZ hi]at this;rw[<-ei];exact(wz this).symm
   exact h i p hi (by rw[er]; exact e1)
theorem FH(P:PC X){i:Nat}(hi:i<(zB X).length):jp X i=if wd (zo X i) = "jump" then yl X (zo X i)else none:=by
 obtain⟨hI,hl⟩:=vW P hi;have hm:zo X i∈X:=(w6.mp (wK (ve hi))).1;obtain⟨w,a,b,c⟩:=Q6 hI hl;have ew:=O5 hI;rw[ew]at a;injection a with a
 injection a with a
 subst a;have b:some (D.bl (wd (zo X i) == "jump"))=some (D.bl (vd (zo X i)).isSome):=b;injection b with b
 injection b with b
 unfold jp;rw[jy,ve hi];show(vd (zo X i)).map (yu X)=_;cases e:vd (zo X i)with
 |none=>
  rw[e]at b;have:wd (zo X i) ≠ "jump" := λz=>by rw[z]at b; cases b
  rw[zL this];rfl
 |some t=>
  rw[e]at b;have z:wd (zo X i) = "jump" := qN.mp b;rw[zK z];have ed:=c t e;obtain⟨t0,p,q1,q2⟩:=P.tg _ hm (by rw[ed]; rfl);have q1':=q1;rw[ed]at q1';cases q1';unfold yl;rw[show yL (zo X i)=true by rw[ed]; rfl];show some (yu X t)=(xH (kR (zo X i)) X).2;rw[Zx hI (by rw[ed]; rfl) q1,q2];unfold yu;rw[q2];rfl
theorem vS.jp(S:vS X Y)(PX:PC X)(PY:PC Y):L3.jp X=L3.jp Y:=funext λi=>by
 by_cases hi:i<(zB X).length
 ·have hi':i<(zB Y).length:=by rw[<-S.len]; exact hi
  obtain⟨b,t,j⟩:=S.row PX PY hi;rw[FH PX hi,FH PY hi',t,(Up (vW PX hi).1 (vW PY hi').1 j b).2.1]
 ·unfold L3.jp;rw[jy,jy,wo (by omega),wo (by rw[<-S.len]; omega)];rfl
theorem vS.led(S:vS X Y)(PX:PC X)(PY:PC Y)(h:xL X=X):xL Y=Y:=by
 refine(Fv PY).mpr λi p hi hp=>?_
 have hi':i<(zB X).length:=by rw[S.len]; exact hi
 rw[<-S.jp PX PY];exact(Fv PX).mp h i p hi' (by rw[(S.row PX PY hi').2.1]; exact hp)
end
def XO:FS:=
 (zI (yP (xm (tE (jq .bool (z7 0))) (pL (tE (jq .int (z7 0)))))
   (yW (eC (.bl false)))
   yc)
  (yW (XV (e2 (uE λi j=>decide (i<=j)) (eC (.int 0)) (z7 0)) (e2 (uE λi j=>decide (i<j)) (z7 0) (e2 kG (eC (.int 1)) (z7 1))))))
def ZN:List D->Option (Bool×D):=FR 2 2 XO
theorem dq:∀ds r,ZN ds=some r->ds.length=2/\zh 2 XO ds=some r:=yz
theorem Di(x0 x1:D):ZN [x0,x1]=zh 2 XO [x0,x1]:=rfl
def M0:FE:=(e2 yb (z7 1) (eC (.str "abcdefghijklmnopqrstuvwxyz")))
def XN:FS:=
 (zI (yP (pL (tE (jq .str (z7 0))))
   (yW (eC (.bl false)))
   yc)
  (zI (yP (xm (tE (e2 (uE λi j=>decide (i<j)) (eL xW (zC (z7 0) zD)) (eC (.int 1)))) (tE (e2 (uE λi j=>decide (j<i)) (eL xW (zC (z7 0) zD)) (eC (.int 8)))))
   (yW (eC (.bl false)))
   yc)
  (yW (eL kC (zC (xr 1 (v0 (z7 0)) (zz 1) xw M0) zD)))))
def ZM:List D->Option (Bool×D):=FR 1 1 XN
theorem dm:∀ds r,ZM ds=some r->ds.length=1/\zh 1 XN ds=some r:=yz
theorem Dh(x0:D):ZM [x0]=zh 1 XN [x0]:=rfl
def jl:FS:=
 (zI (yP (tE (e2 zu (z7 1) (eC (.str "name"))))
   (yW (zW ZM (zC (z7 2) zD)))
   yc)
  (zI (yP (tE (e2 zu (z7 1) (eC (.str "mark"))))
   (yW (e2 Jr (z7 2) (eC Xd)))
   yc)
  (zI (zb 3 (kB (tE (e2 zu (z7 1) (eC (.str "n")))) (e1 (jr T6 TB) (z7 0)) (e2 zO (e1 (jr Xb Xe) (z7 1)) (eC (.int 1)))))
  (yW (zW ZN (zC (z7 2) (zC (z7 3) zD)))))))
def gg:List D->Option (Bool×D):=FR 3 4 jl
theorem de:∀ds r,gg ds=some r->ds.length=3/\zh 4 jl ds=some r:=yz
theorem Xc(x0 x1 x2:D):gg [x0,x1,x2]=zh 4 jl [x0,x1,x2]:=rfl
def VI:FE:=(zW gg (zC (z7 1) (zC (z7 3) (zC (z7 4) zD))))
def XM:FS:=
 (zI (yP (xm (pL (tE (jq .tuple (z7 0)))) (tE (e2 zu (eL xW (zC (z7 0) zD)) (eC (.int 0)))))
   (yW (eC (.bl false)))
   yc)
  (zI (zb 1 (e2 zO (z7 0) (eC (.int 0))))
  (zI (yP (xm (pL (tE (jq .str (z7 1)))) (tE (e1 (Jp Zm) (z7 1))))
   (yW (eC (.bl false)))
   yc)
  (zI (zb 2 (e1 (jr Zm T9) (z7 1)))
  (zI (yP (tE (e2 yd (eL xW (zC (z7 0) zD)) (e2 xS (eL xW (zC (z7 2) zD)) (eC (.int 1)))))
   (yW (eC (.bl false)))
   yc)
  (yW (eL kC (zC (xr 2 (I_ (z7 2) (tK (z7 0) (tT (eC (.int 1))) tS)) (wL 3 4) xw VI) zD))))))))
def qu:List D->Option (Bool×D):=FR 1 3 XM
theorem di:∀ds r,qu ds=some r->ds.length=1/\zh 3 XM ds=some r:=yz
theorem Dg(x0:D):qu [x0]=zh 3 XM [x0]:=rfl
inductive Kd where
 |name|mark|num (m:Int)
def vp(z:Str):Bool:=!(Builtin.Str.occurrences "abcdefghijklmnopqrstuvwxyz" z 0 ("abcdefghijklmnopqrstuvwxyz" : Str).length 1).isEmpty
theorem RZ(z:Str):yb (.str z) (.str "abcdefghijklmnopqrstuvwxyz")=some (.bl (vp z)):=rfl
def Y8(t:Str):Bool:=!decide ((t.length:Int)<1)&&(!decide (8<(t.length:Int))&&(t.cps.toList.map λc=>vp ⟨#[c]⟩).all id)
def Sz(t:Str):Bool:=("carry" : Str)==t||(("nought" : Str)==t||(("sign" : Str)==t||false))
def vK:Kd->D->Bool
 |.name,.str t=>Y8 t
 |.mark,.str t=>Sz t
 |.num m,.int i=>decide (0<=i)&&decide (i<m)
 |_,_=>false
def uG:D->Bool
 |.dic _ _=>false
 |_=>true
theorem Sn{σ:zi}{n:Nat}{e:FE}(he:∀z:Str,∃σ1,zz n (.str z) σ=some σ1/\e σ1=some (.bl (vp z)))(t:Str):wU (zz n) xw e σ (t.cps.toList.map λc=>.str ⟨#[c]⟩)=some ((t.cps.toList.map λc=>vp ⟨#[c]⟩).map D.bl):=by
 have:=g6 (g:=zz n) (e:=e) (σ:=σ) (λd=>match d with|.str z=>.bl (vp z)|d=>d) (ds:=t.cps.toList.map λc=>.str ⟨#[c]⟩) λd hd=>by
  obtain⟨c,_,rfl⟩:=wp.mp hd;exact he _
 rw[this,vC,vC];rfl
theorem BN(bs:List Bool):kC [.lst (bs.map D.bl)]=some (.bl (bs.all id)):=by
 show(qV _).bind _=_;rw[Bl];rfl
theorem AJ{d:D}(h:uG d=true):ZM [d]=some (false,.bl (vK .name d)):=by
 cases d with
 |str t=>
  have lc:=Sn (n:=1) (e:=M0) (σ:=[some (false,.str t),none]) (λz=>⟨_,rfl,by have:=RZ z; unfold M0; simp![this]⟩) t;have al:=BN (t.cps.toList.map λc=>vp ⟨#[c]⟩);show _=some (false,D.bl (!decide ((t.length:Int)<1)&&(!decide (8<(t.length:Int))&&(t.cps.toList.map λc=>vp ⟨#[c]⟩).all id)));rw[Dh];unfold XN;generalize (t.cps.toList.map λc=>vp ⟨#[c]⟩)=BB at *;cases h1:decide ((t.length:Int)<1)with
  |true=>simp![h1,tX,VL]
  |false=>
   cases h2:decide (8<(t.length:Int))with
   |true=>simp![h1,h2,tX,qk,VL,Qh]
   |false=>simp![h1,h2,lc,al,qk,Yk]
 |dic ks ds=>cases h
 |_=>rw[Dh]; unfold XN; simp![]; rfl
theorem Sx{d:D}(h:uG d=true):Jr d Xd=some (.bl (vK .mark d)):=by
 cases d with
 |str t=>
  have e:∀u:Str,zk (.str u) (.str t)=(u==t):=λu=>by unfold zk; rfl
  show some (D.bl (zk (.str "carry") (.str t)||(zk (.str "nought") (.str t)||(zk (.str "sign") (.str t)||false))))=_;rw[e,e,e];rfl
 |dic ks ds=>cases h
 |lst xs=>rfl
 |tup xs=>rfl
 |int i=>
  have e:∀u:Str,zk (.str u) (.int i)=false:=λu=>by unfold zk; rfl
  show some (D.bl (zk (.str "carry") (.int i)||(zk (.str "nought") (.int i)||(zk (.str "sign") (.int i)||false))))=_;rw[e,e,e];rfl
 |bl b=>
  have e:∀u:Str,zk (.str u) (.bl b)=false:=λu=>by unfold zk; rfl
  show some (D.bl (zk (.str "carry") (.bl b)||(zk (.str "nought") (.bl b)||(zk (.str "sign") (.bl b)||false))))=_;rw[e,e,e];rfl
 |non=>
  have e:∀u:Str,zk (.str u) .non=false:=λu=>by unfold zk; rfl
  show some (D.bl (zk (.str "carry") .non||(zk (.str "nought") .non||(zk (.str "sign") .non||false))))=_;rw[e,e,e];rfl
theorem EG{d:D}(h:uG d=true){W m:Int}(hp:YC 1 W=true)(hm:1*2 ^ W.toNat=m):ZN [d,.int W]=some (false,.bl (vK (.num m) d)):=by
 cases d with
 |int i=>
  show _=some (false,D.bl (decide (0<=i)&&decide (i<m)));rw[Di];unfold XO;cases h1:decide (0<=i)<;>simp![h1,hp,hm,Yk,VL]
 |dic ks ds=>cases h
 |_=>rw[Di]; unfold XO; simp![]; rfl
structure FK(w f:Str)(k:Kd)(s:D):Prop where
 ft:∀d,uG d=true->gg [.str w,.str f,d]=some (false,.bl (vK k d))
 sh:(k=.name/\s=.str "name")\/(k=.mark/\s=.str "mark")\/∃m:Int,k=.num m/\s=.int m
theorem Jy(w:Str):FK w "name" .name (.str "name"):=⟨λd h=>by
 have e:zu (.str "name") (.str "name")=some (.bl true):=by rfl
 have n:=AJ h;rw[Xc];unfold jl;simp![e,n],.inl ⟨rfl,rfl⟩⟩
theorem Pa(w:Str):FK w "mark" .mark (.str "mark"):=⟨λd h=>by
 have e:zu (.str "mark") (.str "name")=some (.bl false):=by rfl
 have e2:zu (.str "mark") (.str "mark")=some (.bl true):=by rfl
 have n:=Sx h;rw[Xc];unfold jl;simp![e,e2,n],.inr (.inl ⟨rfl,rfl⟩)⟩
theorem Zg(w:Str){f:Str}(hf:f = "d" \/ f = "s"):FK w f (.num 8) (.int 8):=⟨λd h=>by
 have n:=EG h (W:=3) (m:=8) (by decide) (by decide);rcases hf with rfl|rfl
 ·have e:zu (.str "d") (.str "name")=some (.bl false):=by rfl
  have e2:zu (.str "d") (.str "mark")=some (.bl false):=by rfl
  have e3:zu (.str "d") (.str "n")=some (.bl false):=by rfl
  have g:jr Xb Xe (.str "d")=some (.tup [.int 24,.int 3]):=by rfl
  have i1:zO (.tup [.int 24,.int 3]) (.int 1)=some (.int 3):=rfl;rw[Xc];unfold jl;simp![e,e2,e3,g,i1,n]
 ·have e:zu (.str "s") (.str "name")=some (.bl false):=by rfl
  have e2:zu (.str "s") (.str "mark")=some (.bl false):=by rfl
  have e3:zu (.str "s") (.str "n")=some (.bl false):=by rfl
  have g:jr Xb Xe (.str "s")=some (.tup [.int 21,.int 3]):=by rfl
  have i1:zO (.tup [.int 21,.int 3]) (.int 1)=some (.int 3):=rfl;rw[Xc];unfold jl;simp![e,e2,e3,g,i1,n],.inr (.inr ⟨8,rfl,rfl⟩)⟩
theorem Jz{w:Str}{W m:Int}(hw:jr T6 TB (.str w)=some (.int W))(hp:YC 1 W=true)(hm:1*2 ^ W.toNat=m):FK w "n" (.num m) (.int m):=⟨λd h=>by
 have n:=EG h hp hm;have e:zu (.str "n") (.str "name")=some (.bl false):=by rfl
 have e2:zu (.str "n") (.str "mark")=some (.bl false):=by rfl
 have e3:zu (.str "n") (.str "n")=some (.bl true):=by rfl
 rw[Xc];unfold jl;simp![e,e2,e3,hw,n],.inr (.inr ⟨m,rfl,rfl⟩)⟩
structure BD(w:Str)(fs:List Str):Prop where
 ni:Jp Zm (.str w)=some (.bl false)
 gd:jr Zm T9 (.str w)=some (.tup (fs.map D.str))
def p4:List Kd->List D->Bool
 |k::ks,d::ds=>vK k d&&p4 ks ds
 | [],[]=>true
 |_,_=>false
inductive ge(w:Str):List Str->List Kd->List D->Prop
 |nil:ge w [] [] []
 |cons {f:Str} {k:Kd} {s:D} {fs:List Str} {ks:List Kd} {ss:List D}:FK w f k s->ge w fs ks ss->ge w (f::fs) (k::ks) (s::ss)
theorem DV{w:Str}:∀{fs:List Str}{ks:List Kd}{ss:List D},ge w fs ks ss->fs.length=ks.length/\ss.length=ks.length
 |_,_,_,.nil=>⟨rfl,rfl⟩
 |_,_,_,.cons _ r=>by
  obtain⟨a,b⟩:=DV r;exact⟨by rw[xK,xK,a],by rw[xK,xK,b]⟩
theorem K7{w:Str}{σ:zi}(he:∀f d:D,∃σ1,wL 3 4 (.tup [f,d]) σ=some σ1/\VI σ1=(gg [.str w,f,d]).bind λr=>some r.2):∀{fs:List Str}{ks:List Kd}{ss ds:List D},ge w fs ks ss->(∀d∈ds,uG d=true)->ds.length=ks.length->
  ∃bs:List Bool,bs.all id=p4 ks ds/\wU (wL 3 4) xw VI σ (List.zipWith (λx y=>D.tup [x,y]) (fs.map D.str) ds)=some (bs.map D.bl)
 |_,_,_,ds,.nil,_,hl=>by
  cases ds with
  |nil=>exact⟨[],rfl,rfl⟩
  |cons _ _=>cases hl
 |f::fs,k::ks,s::ss,ds,.cons F r,hn,hl=>by
  cases ds with
  |nil=>cases hl
  |cons d ds=>
   obtain⟨bs,hb,e⟩:=K7 he r (ds:=ds) (λx hx=>hn x (yX _ hx)) (by simpa using hl);obtain⟨σ1,e1,e2⟩:=he (.str f) d;refine⟨vK k d::bs,by rw[xz,hb]; rfl,?_⟩;rw[xT,Qs];show(wL 3 4 (.tup [.str f,d]) σ).bind _=_;rw[e1];show(VI σ1).bind _=_;rw[e2,F.ft d (hn d (yF ..))];show(wU _ _ _ _ _).bind _=_;rw[e];rfl
theorem SQ{w:Str}{fs:List Str}{ks:List Kd}{ss ds:List D}(W:BD w fs)(F:ge w fs ks ss)(hn:∀d∈ds,uG d=true)(hk:ks.length<=5)(hd:ds.length<=400) :
  qu [.tup (.str w::ds)]=some (false,.bl (p4 ks ds)):=by
 obtain⟨l1,l2⟩:=DV F;obtain⟨ni,gd⟩:=W;have e0:zu (.int ((ds.length+1:Nat):Int)) (.int 0)=some (.bl false):=Xi (by omega);have lf:(fs.map D.str).length=ks.length:=by rw[zj,l1]
 have mis:ds.length≠ks.length->p4 ks ds=false:=λh=>by
  have g:∀{ks:List Kd}{ds:List D},ds.length≠ks.length->p4 ks ds=false:=λ{ks}=>by
   induction ks with
   |nil=>
    intro ds h;cases ds with
    |nil=>exact absurd rfl h
    |cons _ _=>rfl
   |cons k ks ih=>
    intro ds h;cases ds with
    |nil=>rfl
    |cons d ds=>
     show(vK k d&&p4 ks ds)=false;rw[ih (by simpa using h),Qh]
  exact g h
 by_cases hl:ds.length=ks.length
 ·have sl:Xa (.tup (.str w::ds)) (some 1) none=some (.tup ds):=by
   show(if HT.sIx (ds.length+1) 0 (some 1)=0/\HT.sIx (ds.length+1) (ds.length+1) none=ds.length+1 then none else some (D.tup (j8 (.str w::ds) (some 1) none)))=_
   rw[zL (λz=>by
    have:=z.1;rw[show(1:Int)=((1:Nat):Int)from rfl,HT.sIx_nat]at this;omega)]
   unfold j8;rw[show(1:Int)=((1:Nat):Int)from rfl,HT.sIx_nat];show some (D.tup ((List.drop (min 1 (ds.length+1)) (.str w::ds)).take (ds.length+1-min 1 (ds.length+1))))=_;rw[show min 1 (ds.length+1)=1 by omega,show ds.length+1-1=ds.length by omega];show some (D.tup (ds.take ds.length))=_;rw[ZD]
  have q1:yd (.int ((ds.length+1:Nat):Int)) (.int ((ks.length:Int)+1))=some (.bl false):=by
   have:=Xh (i:=((ds.length+1:Nat):Int)) (j:=(ks.length:Int)+1) (by omega);exact Th this
  obtain⟨bs,hbs,ez⟩:=K7 (w:=w) (σ:=[some (false,.tup (.str w::ds)),some (false,.str w),some (false,.tup (fs.map D.str)),none,none]) (λf d=>⟨_,rfl,by unfold VI; simp![]⟩) F hn hl;have al:=BN bs;rw[hbs]at al;rw[Dg];unfold XM;generalize bs.map D.bl=BB at *;generalize hF:fs.map D.str=FF at *;simp![e0,D_,ni,gd,lf,add_int,q1,I_,tK,tT,tS,sl,QF,ez,al]
 ·have q1:yd (.int ((ds.length+1:Nat):Int)) (.int ((ks.length:Int)+1))=some (.bl true):=by
   have:=Xi (i:=((ds.length+1:Nat):Int)) (j:=(ks.length:Int)+1) (by omega);exact Th this
  rw[mis hl,Dg];unfold XM;generalize hF:fs.map D.str=FF at *;simp![e0,D_,ni,gd,lf,add_int,q1]
def M1:FE:=(zW qu (zC (z7 3) zD))
def M2:FE:=(e2 zO (z7 3) (eC (.int 1)))
def MF:FT:=(tE (zW tq (zC (z7 3) zD)))
def M3:FE:=(e2 yb (e2 zO (z7 3) (e1 jA (eC (.int 1)))) (z7 2))
def MG:FT:=(tE (zW tm (zC (z7 3) zD)))
def UM:FS:=
 (zI (yP (xm (pL (tE (jq .list (z7 0)))) (pL (tE (eL kC (zC (xr 1 (v0 (z7 0)) (zz 3) xw M1) zD)))))
   (yW (eC (.bl false)))
   yc)
  (zI (zb 1 (xr 1 (v0 (z7 0)) (zz 3) MF M2))
  (zI (yP (tE (e2 yd (eL Jt (zC (z7 1) zD)) (eL xW (zC (z7 1) zD))))
   (yW (eC (.bl false)))
   yc)
  (zI (zb 2 (zW qP (zC (z7 0) zD)))
  (yW (eL kC (zC (xr 1 (v0 (z7 0)) (zz 3) MG M3) zD)))))))
def jc:List D->Option (Bool×D):=FR 1 3 UM
theorem dr:∀ds r,jc ds=some r->ds.length=1/\zh 3 UM ds=some r:=yz
theorem Pu(x0:D):jc [x0]=zh 3 UM [x0]:=rfl
def pG:D->Str
 |.tup [_,.str t]=>t
 |_ => ""
theorem Rm{d:D}(h:yO d)(hl:zS d=true):zO d (.int 1)=some (.str (pG d)):=by
 obtain⟨t,rfl⟩:=kK h hl;rfl
def Jh(N:List Str):Nat:=((N.map Sum.inr).foldl L2.addK []).length
theorem Fa:∀N:List Str,Zz (N.map D.str)=some (N.map Sum.inr)
 | []=>rfl
 |t::N=>by
  show(Zz (N.map D.str)).bind _=_;rw[Fa N];rfl
theorem Sk{N:List Str}(h:N.length<1000):Jt [.lst (N.map D.str)]=some (.int (Jh N:Int)):=by
 show(Zz (N.map D.str)).bind _=_;rw[Fa];show(if(N.map Sum.inr).length<1000 then _ else _)=_;rw[zK (by rw[zj]; exact h)];rfl
theorem CS:∀(ks acc:List L2.Key),(acc++ks).Nodup->ks.foldl L2.addK acc=acc++ks
 | [],acc,_=>(wW _).symm
 |k::ks,acc,h=>by
  have nk:L2.memK acc k=false:=by
   cases c:L2.memK acc k with
   |false=>rfl
   |true=>
    exfalso
    obtain⟨j,hj,e⟩:=Qn.mp c;have e:=vQ e;subst e;exact(VS.mp h).2.2 j hj j (yF ..) rfl
  have e:L2.addK acc k=acc++[k]:=by
   unfold L2.addK;rw[nk,zL yR]
  rw[vB,e,CS ks (acc++[k]) (by rw[ql]; exact h),ql];rfl
theorem P6{N:List Str}(h:N.Nodup):Jh N=N.length:=by
 unfold Jh
 rw[CS (N.map Sum.inr) [] (by
  rw[tZ];exact MX _ (λa b ne z=>ne (Qx z)) h),tZ,zj]
theorem Dj{k:Sum Int Str}:∀{ks:List (Sum Int Str)} {vs:List D},ks.length=vs.length->yY ks k=(getK ks vs k).isSome
 | [],vs,_=>by
  unfold getK;rfl
 |j::ks,[],h=>by cases h
 |j::ks,v::vs,h=>by
  show(decide (j=k)||yY ks k)=_;unfold getK;by_cases c:j=k
  ·rw[zK c,xD c];rfl
  ·rw[zL c,yy c,MT];exact Dj (by simpa using h)
theorem jK{m n:Int}(h0:0<=n)(h1:n<m):vK (.num m) (.int n)=true:=by
 show(decide (0<=n)&&decide (n<m))=true;rw[xD h0,xD h1];rfl
theorem Ss{c:Nat}(h0:97<=c)(h1:c<=122):vp ⟨#[c]⟩=true:=by
 have h:∀j:Fin 26,vp ⟨#[97+j.val]⟩=true:=by decide +kernel
 have:=h ⟨c-97,by omega⟩;rw[show 97+(⟨c-97,by omega⟩:Fin 26).val=c by show 97+(c-97)=c; omega]at this;exact this
theorem Td{N:List Str}(hN:∀t∈N,Y8 t=true){d:D}(h:X9 N d):qu [d]=some (false,.bl true):=by
 have go:∀{w:Str}{fs:List Str}{ks:List Kd}{ss ds:List D},BD w fs->ge w fs ks ss->ks.length<=5->(∀d∈ds,uG d=true)->ds.length<=400->p4 ks ds=true->qu [.tup (.str w::ds)]=some (false,.bl true):=λW F a b c e=>by
  have:=SQ W F b a c;rw[e]at this;exact this
 have a1:∀{k:Kd}{x:D},vK k x=true->p4 [k] [x]=true:=λ{k x} h=>by
  show(vK k x&&true)=true;rw[h]; rfl
 have a2:∀{k l:Kd}{x y:D},vK k x=true->vK l y=true->p4 [k,l] [x,y]=true:=λ{k l x y} h1 h2=>by
  show(vK k x&&(vK l y&&true))=true;rw[h1,h2]; rfl
 have a3:∀{k l m:Kd}{x y z:D},vK k x=true->vK l y=true->vK m z=true->p4 [k,l,m] [x,y,z]=true:=λ{k l m x y z} h1 h2 h3=>by
  show(vK k x&&(vK l y&&(vK m z&&true)))=true;rw[h1,h2,h3]; rfl
 have n1:∀{x:D},uG x=true->∀d∈[x],uG d=true:=λh d hd=>by rw[yt.mp hd]; exact h
 have n2:∀{x y:D},uG x=true->uG y=true->∀d∈[x,y],uG d=true:=λh1 h2 d hd=>by
  rcases yI.mp hd with rfl|hd
  ·exact h1
  ·exact n1 h2 d hd
 have n3:∀{x y z:D},uG x=true->uG y=true->uG z=true->∀d∈[x,y,z],uG d=true:=λh1 h2 h3 d hd=>by
  rcases yI.mp hd with rfl|hd
  ·exact h1
  ·exact n2 h2 h3 d hd
 rcases h with h|⟨t,ht,rfl⟩
 ·cases h with
  |plain h=>
   cases h with
   |stop=>exact go (ks:=[]) (ss:=[]) ⟨rfl,rfl⟩ .nil (by simp) (λ_ h=>by cases h) (by simp) rfl
   |gX hw d0 d1 z0 z1=>
    rename_i w x n;exact go (fs:=["d", "n"]) (ks:=[.num 8,.num 65536]) (ss:=[.int 8,.int 65536]) (by rcases hw with rfl|rfl<;>exact⟨rfl,rfl⟩) (.cons (Zg w (.inl rfl)) (.cons (Jz (W:=16) (by rcases hw with rfl|rfl<;>rfl) (by decide) (by decide)) .nil)) (by simp) (n2 rfl rfl) (by simp) (a2 (jK d0 d1) (jK z0 z1))
   |gY hw d0 d1 z0 z1=>
    rename_i w x n;exact go (fs:=["d", "n"]) (ks:=[.num 8,.num 32]) (ss:=[.int 8,.int 32]) (by rcases hw with rfl|rfl<;>exact⟨rfl,rfl⟩) (.cons (Zg w (.inl rfl)) (.cons (Jz (W:=5) (by rcases hw with rfl|rfl<;>rfl) (by decide) (by decide)) .nil)) (by simp) (n2 rfl rfl) (by simp) (a2 (jK d0 d1) (jK z0 z1))
   |two hw d0 d1 z0 z1=>
    rename_i w x n;exact go (fs:=["d", "s"]) (ks:=[.num 8,.num 8]) (ss:=[.int 8,.int 8]) (by rcases hw with rfl|rfl|rfl|rfl|rfl|rfl|rfl|rfl|rfl<;>exact⟨rfl,rfl⟩) (.cons (Zg w (.inl rfl)) (.cons (Zg w (.inr rfl)) .nil)) (by simp) (n2 rfl rfl) (by simp) (a2 (jK d0 d1) (jK z0 z1))
   |mem hw d0 d1 z0 z1 y0 y1=>
    rename_i w x n m;exact go (fs:=["d", "s", "n"]) (ks:=[.num 8,.num 8,.num 256]) (ss:=[.int 8,.int 8,.int 256]) (by rcases hw with rfl|rfl|rfl|rfl<;>exact⟨rfl,rfl⟩) (.cons (Zg w (.inl rfl)) (.cons (Zg w (.inr rfl)) (.cons (Jz (W:=8) (by rcases hw with rfl|rfl|rfl|rfl<;>rfl) (by decide) (by decide)) .nil))) (by simp) (n3 rfl rfl rfl) (by simp) (a3 (jK d0 d1) (jK z0 z1) (jK y0 y1))
  |wA ht=>exact go (fs:=["name"]) (ks:=[.name]) (ss:=[.str "name"]) ⟨rfl,rfl⟩ (.cons (Jy _) .nil) (by simp) (n1 rfl) (by simp) (a1 (hN _ ht))
  |cond hw hk ht=>
   rename_i w k0 t;exact go (fs:=["mark", "name"]) (ks:=[.mark,.name]) (ss:=[.str "mark",.str "name"]) (by rcases hw with rfl|rfl<;>exact⟨rfl,rfl⟩) (.cons (Pa w) (.cons (Jy w) .nil)) (by simp) (n2 rfl rfl) (by simp) (a2 (by rcases hk with rfl|rfl|rfl<;>rfl) (hN _ ht))
 ·exact go (fs:=["name"]) (ks:=[.name]) (ss:=[.str "name"]) ⟨rfl,rfl⟩ (.cons (Jy _) .nil) (by simp) (n1 rfl) (by simp) (a1 (hN _ ht))
theorem Ri{L:List D}(P:PC L)(hi:∀d∈L,qu [d]=some (false,.bl true)):jc [.lst L]=some (false,.bl true):=by
 have ln:=P.ln
 have b1:=g6 (g:=zz 3) (e:=M1) (σ:=[some (false,.lst L),none,none,none]) (λ_=>D.bl true) (ds:=L) λd hd=>by
  have e:=hi d hd;refine⟨_,rfl,?_⟩;unfold M1;simp![e]
 have al:=BO L
 have n1:=jI (g:=zz 3) (c:=MF) (e:=M2) (σ:=[some (false,.lst L),none,none,none]) zS (λd=>.str (pG d)) (ds:=L) λd hd=>by
  have e:=TM (P.it d hd);refine⟨_,rfl,?_,λhl=>?_⟩
  ·unfold MF;simp![e]
  ·have f:=Rm (P.it d hd) hl;unfold M2;simp![f]
 have en:(L.filter zS).map (λd=>D.str (pG d))=((L.filter zS).map pG).map D.str:=by rw[vC]; rfl
 rw[en]at n1
 have ll:((L.filter zS).map pG).length<=100:=by
  rw[zj];have:=pP zS L;omega
 have nd:((L.filter zS).map pG).Nodup:=by
  refine ZC.mpr (MW (λ{a b} ha hb hab=>?_) P.nd);obtain⟨ma,la⟩:=w6.mp ha;obtain⟨mb,lb⟩:=w6.mp hb;obtain⟨t,rfl⟩:=kK (P.it a ma) la;obtain⟨u,rfl⟩:=kK (P.it b mb) lb;intro z;have z:t=u:=z;exact hab (by rw[z])
 have ls:=Sk (N:=(L.filter zS).map pG) (by omega);rw[P6 nd]at ls;have lm:(((L.filter zS).map pG).map D.str).length=((L.filter zS).map pG).length:=zj _;generalize (L.filter zS).map pG=N at *;have q:yd (.int (N.length:Int)) (.int (N.length:Int))=some (.bl false):=Th (Xh rfl);obtain⟨ks,vs,el,lk,hk⟩:=Fg P.it (by omega)
 have j1:=jI (g:=zz 3) (c:=MG) (e:=M3) (σ:=[some (false,.lst L),some (false,.lst (N.map D.str)),some (false,.dic ks vs),none]) yL (λ_=>D.bl true) (ds:=L) λd hd=>by
  have e:=TL (P.it d hd);refine⟨_,rfl,?_,λhj=>?_⟩
  ·unfold MG;generalize N.map D.str=NN at *;simp![e]
  ·obtain⟨t,p,e1,e2⟩:=P.tg d hd hj
   have e3:yb (.str t) (.dic ks vs)=some (.bl true):=by
    show(some (yY ks (.inr t))).bind _=_;rw[Dj lk,hk,e2];rfl
   unfold M3;generalize N.map D.str=NN at *;simp![e1,e3]
 have aj:=BO (L.filter yL);rw[Pu];unfold UM;generalize L.map (λ_=>D.bl true)=A1 at *;generalize (L.filter yL).map (λ_=>D.bl true)=A2 at *;generalize N.map D.str=NN at *;simp![b1,al,tX,n1,ls,lm,q,el,j1,aj]
def BQ:FS:=
 (zI (zb 1 (wC gi (zC (z7 0) (zC (eC (.int 1)) (zC (eC (.int 14)) zD)))))
  (zI (yP (tE (e2 zu (e2 xN (zW va (zC (z7 0) (zC (eC (.int 28)) zD))) (eC (.int 3))) (eC (.int 1))))
   (zb 1 (zW ZT (zC (z7 1) (zC (z7 0) (zC (eC (.int 46)) zD)))))
   yc)
  (zI (vX 2 (eL uv (zC (z7 1) zD)))
  (zI (vX 3 (p7 (wC vj (zC (z7 2) zD))))
  (zI (yP (jR (xm (tE (e2 Zf (zW jc (zC (z7 3) zD)) (eC (.bl true)))) (xm (tE (e2 yd (z7 2) (z7 1))) (tE (e2 (uE λi j=>decide (j<i)) (eL xW (zC (zW tD (zC (z7 3) zD)) zD)) (eL xW (zC (zW tD (zC (z7 1) zD)) zD)))))))
   (yW (eC (.bl false)))
   yc)
  (zI (zb 4 (p7 (eL uv (zC (z7 3) zD))))
  (zI (zb 5 (p7 (eL uv (zC (z7 3) zD))))
  (zI (yP (jR (xm (tE (e2 yd (wC qw (zC (z7 3) zD)) (z7 3))) (xm (tE (e2 yd (wC tt (zC (z7 3) zD)) (z7 3))) (xm (tE (e2 yd (wC p_ (zC (z7 3) zD)) (xY zD))) (tE (e2 yd (wC vj (zC (z7 3) zD)) (z7 3)))))))
   (yW (eC (.bl false)))
   yc)
  (zI (vX 6 (wC vj (zC (z7 4) zD)))
  (zI (vN 6 vE (xt (zC (eC (.str "stop")) zD)))
  (zI (uy 6) (zI (vN 3 vE (xt (zC (eC (.str "stop")) zD)))
  (zI (uy 3) (zI (yP (xm (tE (e2 yd (vn 2) (z7 1))) (tE (e2 yd (z7 4) (z7 5))))
   (yW (eC (.bl false)))
   yc)
  (zI (YI 2 Uy)
  (zI (uy 2) (yW (e2 zu (wC vj (zC (z7 1) zD)) (z7 5)))))))))))))))))))
theorem OJ(k:Int)(h0:0<=k)(h1:k<26):vp (lt k)=true:=Ss (c:=97+k.toNat) (by omega) (by omega)
theorem Ac{n:Nat}(h:n<702):Y8 (nm n)=true:=by
 have lc:∀x:Int,(lt x).cps.toList=[97+x.toNat]:=λ_=>rfl
 have le:(("" : Str)).cps.toList=[]:=rfl;unfold nm
 split
 ·have l:(lt (n:Int) ++ "").length=1:=by rw[OK]; rfl
  have z:=OJ (n:Int) (by omega) (by omega);have z:vp ⟨#[97+(n:Int).toNat]⟩=true:=z;unfold Y8;rw[l,kA,lc,le,wW];show(true&&(true&&(vp ⟨#[97+(n:Int).toNat]⟩&&true)))=true;rw[z];rfl
 ·have l:(lt (((n:Int)-26)/26)++(lt (((n:Int)-26)%26) ++ "")).length=2:=by rw[OK,OK]; rfl
  have z:vp ⟨#[97+(((n:Int)-26)/26).toNat]⟩=true:=OJ (((n:Int)-26)/26) (by omega) (by omega);have y:vp ⟨#[97+(((n:Int)-26)%26).toNat]⟩=true:=OJ (((n:Int)-26)%26) (by omega) (by omega);unfold Y8;rw[l,kA,kA,lc,lc,le,wW];show(true&&(true&&(vp ⟨#[97+(((n:Int)-26)/26).toNat]⟩&&(vp ⟨#[97+(((n:Int)-26)%26).toNat]⟩&&true))))=true;rw[z,y];rfl
theorem cB{z6:List D}(P:PC z6)(hr:(zB z6).length<=45):∀d∈ye z6,qu [d]=some (false,.bl true):=λd hd=>by
 obtain⟨Y,main⟩:=Ew P (by omega);have lr:((zB z6).map yN).length=(zB z6).length:=zj _;have hI:=(Ts P (by omega)).2 d hd
 have nmI:∀p,p∈yV (zB z6).length (yE z6)->Y8 (xR (zB z6).length (yE z6) p)=true:=λp hp=>by
  have le:=Op (zB z6).length (yE z6);have:=Md hp;exact Ac (by omega)
 cases hl:zS d with
 |true=>
  have hm:d∈(ye z6).filter zS:=w6.mpr ⟨hd,hl⟩;have la:=Fh Y;rw[lr]at la;have hm:d∈(tP ((zB z6).map yN) (yE z6)).filter zS:=hm;rw[la]at hm;obtain⟨p,hp,rfl⟩:=wp.mp hm;have hp:=vQ (w6.mp hp).2;exact Td (N:=[xR (zB z6).length (yE z6) p]) (λt ht=>by rw[yt.mp ht]; exact nmI p hp) (.inr ⟨_,yt.mpr rfl,rfl⟩)
 |false=>
  have hm:d∈zB (ye z6):=w6.mpr ⟨hd,by rw[hl]; rfl⟩;have ra:=Gn Y;rw[lr]at ra;have hm:d∈zB (tP ((zB z6).map yN) (yE z6)):=hm;rw[ra]at hm;obtain⟨i,hi,rfl⟩:=wp.mp hm;have hi:=uM.mp hi;rcases main i hi with⟨z,_,e⟩|⟨z,hd',p,_,_,n1,n2,hp,e,it⟩
  ·rw[e]at hI hl ⊢;generalize zo z6 i=r at hI hl z ⊢;cases hI with
   |label u=>cases hl
   |plain h=>exact Td (N:=[]) (λ_ h=>by cases h) (.inl (.plain h))
   |wA t=>cases z
   |cond t hw hk=>rcases hw with rfl|rfl<;>cases z
  ·rw[e]at hI hl ⊢;obtain⟨i1,i2,i3⟩:=it (xR (zB z6).length (yE z6) p);obtain⟨_,e1,_⟩:=jG (t:=xR (zB z6).length (yE z6) p) (u := "") n1 n2;have ok:=nmI p hp;generalize xR (zB z6).length (yE z6) p=u at *;generalize D.tup (hd'++[D.str u])=dd at *;cases i1 with
   |label t=>cases i2
   |plain h=>
    obtain⟨_,_,_,_,c,_⟩:=gA h;rw[c]at i2;cases i2
   |wA t=>
    have e1:some (D.str t)=some (D.str u):=e1;injection e1 with e1
    injection e1 with e1
    subst e1;exact Td (N:=[t]) (λx hx=>by rw[yt.mp hx]; exact ok) (.inl (.wA (yt.mpr rfl)))
   |cond t hw hk=>
    have e1:some (D.str t)=some (D.str u):=e1;injection e1 with e1
    injection e1 with e1
    subst e1;exact Td (N:=[t]) (λx hx=>by rw[yt.mp hx]; exact ok) (.inl (.cond hw hk (yt.mpr rfl)))
theorem DU:∀{ls:List (List Nat)},tL ls=[]->∀l∈ls,l=[]
 | [],_,_,h=>by cases h
 |l::ls,h,x,hx=>by
  unfold tL at h
  split at h
  ·rename_i e;rcases yI.mp hx with rfl|hx
   ·exact List.isEmpty_iff.mp e
   ·exact DU h x hx
  ·rename_i e;rw[h]at e;exact absurd rfl e
theorem PZ{b:List D}(P:PC b)(h:wj b=b):vV (xL b)=[]/\xL b=b:=by
 have q:vV (xL b)=[]:=by
  cases z:vV (xL b)with
  |nil=>rfl
  |cons x xs=>
   have hx:x∈vV (xL b):=by rw[z]; exact yF
   have lt:=GI x hx;have dec:=(TN (vV (xL b)) (xL b) (0,[])).2 ⟨x,hx,xb _,by show x<0+_; omega⟩;have dec:(zB (wj b)).length<0+(zB (xL b)).length:=dec;rw[Tc P,h]at dec;omega
 refine⟨q,?_⟩
 have e:wj b=xL b:=by
  unfold wj wt;rw[q,Xn];rfl
 rw[<-e];exact h
theorem HN:∀{k:Nat}{a b:List D},jh k a b->wj b=b
 |_,_,_,.fin h=>h
 |_,_,_,.go _ S=>HN S
theorem dy:∀ns:List Int,ns.length<=63->(∀m∈ns,wR m<=1048576)->∃o,zh 7 BQ [.lst (ns.map D.int)]=some (o,.bl true):=λns hl hb=>by
 refine⟨false,?_⟩;obtain⟨N,R0,items0,hR0,_,_,_,P0,er0,l0,e0⟩:=cH hl hb (first:=1) (most:=14) (by decide) (by decide) (by decide) (by decide);obtain⟨a,a0,a1,ea⟩:=Y4 hl hb (k:=28) (by decide) (by decide)
 have em:∀i:Nat,i<41->∃m:Int,0<=m/\va [.lst (ns.map D.int),.int (46+(i:Int))]=some (false,.int m):=λi hi=>by
  obtain⟨m,h0,_,e⟩:=Y4 hl hb (k:=46+(i:Int)) (by omega) (by omega);exact⟨m,h0,e⟩
 generalize D.lst (ns.map D.int)=s at e0 ea em ⊢
 have go:∀z6:List D,PC z6->z6.length<=40->(zI (vX 2 (eL uv (zC (z7 1) zD)))
  (zI (vX 3 (p7 (wC vj (zC (z7 2) zD))))
  (zI (yP (jR (xm (tE (e2 Zf (zW jc (zC (z7 3) zD)) (eC (.bl true)))) (xm (tE (e2 yd (z7 2) (z7 1))) (tE (e2 (uE λi j=>decide (j<i)) (eL xW (zC (zW tD (zC (z7 3) zD)) zD)) (eL xW (zC (zW tD (zC (z7 1) zD)) zD)))))))
   (yW (eC (.bl false)))
   yc)
  (zI (zb 4 (p7 (eL uv (zC (z7 3) zD))))
  (zI (zb 5 (p7 (eL uv (zC (z7 3) zD))))
  (zI (yP (jR (xm (tE (e2 yd (wC qw (zC (z7 3) zD)) (z7 3))) (xm (tE (e2 yd (wC tt (zC (z7 3) zD)) (z7 3))) (xm (tE (e2 yd (wC p_ (zC (z7 3) zD)) (xY zD))) (tE (e2 yd (wC vj (zC (z7 3) zD)) (z7 3)))))))
   (yW (eC (.bl false)))
   yc)
  (zI (vX 6 (wC vj (zC (z7 4) zD)))
  (zI (vN 6 vE (xt (zC (eC (.str "stop")) zD)))
  (zI (uy 6) (zI (vN 3 vE (xt (zC (eC (.str "stop")) zD)))
  (zI (uy 3) (zI (yP (xm (tE (e2 yd (vn 2) (z7 1))) (tE (e2 yd (z7 4) (z7 5))))
   (yW (eC (.bl false)))
   yc)
  (zI (YI 2 Uy)
  (zI (uy 2) (yW (e2 zu (wC vj (zC (z7 1) zD)) (z7 5))))))))))))))))) [some (false,s),some (false,.lst z6),none,none,none,none,none]=some (.rt false (.bl true)):=λz6 P h40=>by
  have rl:(zB z6).length<=z6.length:=pP _ _;obtain⟨k,b,hk,S⟩:=HM (zB z6).length P (zt _);have s1:=HB S P (by omega) (by omega);obtain⟨Pb,rb⟩:=Lf S P;obtain⟨qb,lb⟩:=PZ Pb (HN S);obtain⟨PF,Sm⟩:=b_ Pb (by omega);have lF:=Sm.led Pb PF lb;have rF:(zB (ye b)).length=(zB b).length:=Sm.len.symm;have eqp:ye (ye b)=ye b:=(cA Sm).symm;have kF:=Sm.kinds Pb PF (by omega)
  have qF:vV (ye b)=[]:=by
   rw[<-kF.1];rw[lb]at qb;exact qb
  have fF:wj (ye b)=ye b:=by
   unfold wj wt;rw[lF,qF,Xn];rfl
  have s2:=HB (.fin fF) PF (by omega) (by omega);obtain⟨p2,_⟩:=Ts PF (by omega);rw[eqp]at s2 p2;have ip:=Ri PF (cB Pb (by omega))
  have ld:tt [.lst (ye b)]=some (true,.lst (ye b)):=by
   have:=Fu PF;have lF:(ye b).map (yh (ye b))=ye b:=lF;rw[lF]at this;exact this
  have idl:p_ [.lst (ye b)]=some (true,.lst []):=by
   obtain⟨R,_,_,eR⟩:=Q3 PF (by omega);obtain⟨T,NT,eT⟩:=Tj PF;have z:=RY PF (by omega) eR NT.len eT;have ks:=DU qF;rw[eR,eT,Yc,Yc]at ks
   have no:∀p:Nat->Bool,pN (zB (ye b)).length p=[]->∀i,i<(zB (ye b)).length->p i=false:=λp h i hi=>by
    cases e:p i with
    |false=>rfl
    |true=>
     have:i∈pN (zB (ye b)).length p:=jN.mpr ⟨hi,e⟩;rw[h]at this;cases this
   have k0:=no _ (ks _ (yF ..));have k1:=no _ (ks _ (yX _ (yF ..)));have k2:=no _ (ks _ (yX _ (yX _ (yF ..))));have k3:=no _ (ks _ (yX _ (yX _ (yX _ (yF ..)))))
   have e:pN (zB (ye b)).length (Zw (ye b) R T)=[]:=by
    unfold pN;refine KP.mpr λi hi=>?_
    have hi:=uM.mp hi;unfold Zw;have z0:(!decide (i∈R))=false:=k0 i hi;have z2:uu (zo (ye b) i)=false:=k2 i hi;rw[z0,k1 i hi,z2,k3 i hi]
    decide
   rw[e]at z;exact z
  have r1:tD [.lst (ye b)]=some (true,.lst (zB (ye b))):=Fm PF.it;have r2:tD [.lst z6]=some (true,.lst (zB z6)):=Fm P.it;have c1:decide (((zB z6).length:Int)<((zB (ye b)).length:Int))=false:=yy (by omega);have fl:∀L:List D,uv [.lst L]=some (.lst L):=λ_=>rfl
  have tI:∀{L:List D},(∀d∈L,yO d)->L.all gQ=true:=λ{L} h=>wm.mpr λd hd=>by
   have:=h d hd;cases this with
   |label u=>rfl
   |plain h=>cases h<;>rfl
   |wA u=>rfl
   |cond u hw hk=>rfl
  have tF:=tI PF.it;have n1:=Ti (Tn P.it);have n2:=Ti (Tn PF.it);have q2:=PH (Tn PF.it);have n3:yd (.lst []) (.lst [])=some (.bl false):=rfl;have nb:Zf (.bl true) (.bl true)=some (.bl false):=rfl;have ap:=j7 (L:=ye b) (r:=.tup [.str "stop"]) (by have:=PF.ln; omega);have cl:Uy (.lst z6)=some (.lst []):=rfl;generalize zB (ye b)=RF at *;generalize zB z6=RI at *;generalize ye b=FF at *
  have d1:p7 (wC vj (zC (z7 2) zD)) [some (false,s),some (false,.lst z6),some (true,.lst z6),none,none,none,none]=some (.lst FF):=by
   show((wC vj (zC (z7 2) zD) [some (false,s),some (false,.lst z6),some (false,.lst z6),none,none,none,none]).bind _)=_;rw[show wC vj (zC (z7 2) zD) [some (false,s),some (false,.lst z6),some (false,.lst z6),none,none,none,none]=some (.lst FF) by simp![s1]];show(if FF.all gQ=true then _ else _)=_;rw[zK tF]
  have t1:(jR (xm (tE (e2 Zf (zW jc (zC (z7 3) zD)) (eC (.bl true)))) (xm (tE (e2 yd (z7 2) (z7 1))) (tE (e2 (uE λi j=>decide (j<i)) (eL xW (zC (zW tD (zC (z7 3) zD)) zD)) (eL xW (zC (zW tD (zC (z7 1) zD)) zD))))))) [some (false,s),some (false,.lst z6),some (true,.lst z6),some (true,.lst FF),none,none,none]=some false:=by
   show(xm _ _) [some (false,s),some (false,.lst z6),some (false,.lst z6),some (false,.lst FF),none,none,none]=_;simp![ip,nb,n1,r1,r2,c1]
  have d2:p7 (eL uv (zC (z7 3) zD)) [some (false,s),some (false,.lst z6),some (true,.lst z6),some (true,.lst FF),none,none,none]=some (.lst FF):=by
   show((eL uv (zC (z7 3) zD) [some (false,s),some (false,.lst z6),some (false,.lst z6),some (false,.lst FF),none,none,none]).bind _)=_;rw[show eL uv (zC (z7 3) zD) [some (false,s),some (false,.lst z6),some (false,.lst z6),some (false,.lst FF),none,none,none]=some (.lst FF) by simp![fl]];show(if FF.all gQ=true then _ else _)=_;rw[zK tF]
  have d3:p7 (eL uv (zC (z7 3) zD)) [some (false,s),some (false,.lst z6),some (true,.lst z6),some (true,.lst FF),some (false,.lst FF),none,none]=some (.lst FF):=by
   show((eL uv (zC (z7 3) zD) [some (false,s),some (false,.lst z6),some (false,.lst z6),some (false,.lst FF),some (false,.lst FF),none,none]).bind _)=_;rw[show eL uv (zC (z7 3) zD) [some (false,s),some (false,.lst z6),some (false,.lst z6),some (false,.lst FF),some (false,.lst FF),none,none]=some (.lst FF) by simp![fl]];show(if FF.all gQ=true then _ else _)=_;rw[zK tF]
  have t2:(jR (xm (tE (e2 yd (wC qw (zC (z7 3) zD)) (z7 3))) (xm (tE (e2 yd (wC tt (zC (z7 3) zD)) (z7 3))) (xm (tE (e2 yd (wC p_ (zC (z7 3) zD)) (xY zD))) (tE (e2 yd (wC vj (zC (z7 3) zD)) (z7 3))))))) [some (false,s),some (false,.lst z6),some (true,.lst z6),some (true,.lst FF),some (false,.lst FF),some (false,.lst FF),none]=some false:=by
   show(xm _ _) [some (false,s),some (false,.lst z6),some (false,.lst z6),some (false,.lst FF),some (false,.lst FF),some (false,.lst FF),none]=_;simp![p2,n2,ld,idl,n3,s2]
  rw[wP (σ':=[some (false,s),some (false,.lst z6),some (true,.lst z6),none,none,none,none]) (by simp![fl])];rw[wP (σ':=[some (false,s),some (false,.lst z6),some (true,.lst z6),some (true,.lst FF),none,none,none]) (by simp![d1])]
  rw[wP (σ':=[some (false,s),some (false,.lst z6),some (true,.lst z6),some (true,.lst FF),none,none,none]) (by
   show((jR _ _).bind _)=_;rw[t1];rfl)]
  rw[wP (σ':=[some (false,s),some (false,.lst z6),some (true,.lst z6),some (true,.lst FF),some (false,.lst FF),none,none]) (by simp![d2])];rw[wP (σ':=[some (false,s),some (false,.lst z6),some (true,.lst z6),some (true,.lst FF),some (false,.lst FF),some (false,.lst FF),none]) (by simp![d3])]
  rw[wP (σ':=[some (false,s),some (false,.lst z6),some (true,.lst z6),some (true,.lst FF),some (false,.lst FF),some (false,.lst FF),none]) (by
   show((jR _ _).bind _)=_;rw[t2];rfl)]
  simp![s2,ap,n1,n2,cl,s1,q2]
 unfold BQ;show((zI _ _ _).bind _)=_;rw[wP (σ':=[some (false,s),some (false,.lst items0),none,none,none,none,none]) (by simp![e0])];by_cases h:a%3=1
 ·have k1:=Xh h;obtain⟨z6,P,l1,ej⟩:=sC P0 l0 em;rw[wP (σ':=[some (false,s),some (false,.lst z6),none,none,none,none,none]) (by simp![ea,k1,ej]),go z6 P (by omega)];rfl
 ·have k1:=Xi h;rw[wP (σ':=[some (false,s),some (false,.lst items0),none,none,none,none,none]) (by simp![ea,k1]),go items0 P0 l0];rfl
end L3
namespace My
open PySem L2 L3
set_option maxHeartbeats 4000000
def top(i:Nat):Stmt:=PySem.Challenge.pw_markrun_k56_short_is_settled.main.body.getD i (.Pass ⟨0,0,0,0⟩)
section
variable{P:Program}{w:World}{K:W.Frag}{mg:Str->Option Value}{base:Heap}{pW:Addr}{tj:Addr}{pY:Addr}{pZ:Addr}{pX:Addr}{pf:Addr}{pp:Addr}{jY:Addr}{jZ:Addr}{ja:Addr}{pd:Addr}{pV:Addr}
abbrev WO:Stmt:=top 14
theorem fK:yS ["item"] ["item"] (yB WO):=⟨rfl,rfl,rfl,by decide +kernel,rfl,by decide +kernel,by decide +kernel⟩
theorem As(d:zP K mg "is_label" WO ["item"]):zU P w K mg base "is_label" ["item"] 1 (zV K tq):=
 zP.okS d fK (by decide) dk λf cdv A outer s H E hr=>(zZ (yr (tV (wI (yg hr)) wG (zJ (zn (zl (za hr)) zm (zA 0) zQ)) (zJ zp) (yH _))))
abbrev WN:Stmt:=top 15
theorem fJ:yS ["item"] ["item"] (yB WN):=⟨rfl,rfl,rfl,by decide +kernel,rfl,by decide +kernel,by decide +kernel⟩
theorem Ar(d:zP K mg "is_jump" WN ["item"])(IA:yn mg "JUMPS" (.ref pW))(Oy:∀H,zY K H T8 (.ref pW)):zU P w K mg base "is_jump" ["item"] 1 (zV K tm):=
 zP.okS d fJ (by decide) dj λf cdv A outer s H E hr=>(zZ (yr (tV (vw (za hr)) vt (zJ (zn (zl (za hr)) zm (zA 0) zQ)) (zJ (uJ IA Oy rfl)) (by with_unfolding_all rfl))))
abbrev Wt:Stmt:=top 16
theorem fS:yS ["items"] ["items"] (yB Wt):=⟨rfl,rfl,rfl,by decide +kernel,rfl,by decide +kernel,by decide +kernel⟩
theorem aY(d:zP K mg "rows_of" Wt ["items"])(qD:zU P w K mg base "is_label" ["item"] 1 (zV K tq)):zU P w K mg base "rows_of" ["items"] 2 (zV K wB):=
 zP.okS d fS (by decide) eX λf cdv A outer s H E hr=>(zZ (vO (vH rfl (wS (own:=["item"]) rfl) (vY (zA 0)) (vD (λC s H fp pn=>(yx (i:=1) (show(xV ["items"] ["item"]).Nodup by decide +kernel) rfl (Or.inl rfl))) rfl) (λC s H fp pn=>(qf (gO (v_ (yC qD hr rfl (zG (zA 1) zN)))))) (λC s H fp pn=>(zA 1)))))
abbrev WS:Stmt:=top 17
theorem V1:yS ["items", "places", "place", "item"] ["items"] (yB WS):=⟨rfl,rfl,rfl,by decide +kernel,rfl,by decide +kernel,by decide +kernel⟩
theorem Aw(d:zP K mg "label_places" WS ["items"])(qD:zU P w K mg base "is_label" ["item"] 1 (zV K tq)):zU P w K mg base "label_places" ["items"] 2 (zV K qP):=
 zP.okS d V1 (by decide) dt λf cdv A outer s H E hr=>(zR (uz (i:=1) V1.nd rfl (Or.inl rfl) LZ)
  (zR (yA (i:=2) V1.nd rfl (Or.inl rfl) zQ)
  (zR (YV ue rfl (vY (zA 0)) (VB (yx (i:=3) V1.nd rfl (Or.inl rfl)) rfl)
   (zZ (yk (v_ (yC qD hr rfl (zG (zA 3) zN)))
     (zZ (Le (za hr) (qv 1) (zn (zl (za hr)) zm (zA 3) zQ) (zA 2)))
     (zZ (HH (i:=2) Dv EX V1.nd rfl (Or.inl rfl) zQ)))))
  (zZ (YW 1)))))
abbrev WQ:Stmt:=top 1
theorem fM:yS ["thing", "width"] ["thing", "width"] (yB WQ):=⟨rfl,rfl,rfl,by decide +kernel,rfl,by decide +kernel,by decide +kernel⟩
theorem Au(d:zP K mg "is_number" WQ ["thing", "width"])(t5:mg "isinstance" = none)(MO:mg "int" = none)(MN:mg "bool" = none):zU P w K mg base "is_number" ["thing", "width"] 1 (zV K ZN):=
 zP.okS d fM (by decide) dq λf cdv A outer s H E hr=>(zR (yk (ua (uZ (v_ (YQ .bool rfl rfl t5 MN NG (zJ (zA 0)))) (qh (gO (v_ (YQ .int rfl rfl t5 MO NH (zJ (zA 0))))))))
   (zZ (yr uI))
   xI)
  (zZ (yr (LU (tV az qd (zJ zQ) (zJ (zA 0)) (yH _)) (QD (tV kU qd (zJ (zA 0)) (zJ (zc W3 W1 zQ (zA 1))) (yH _)))))))
abbrev WP:Stmt:=top 12
theorem fL:yS ["thing"] ["thing"] (yB WP):=⟨rfl,rfl,rfl,by decide +kernel,rfl,by decide +kernel,by decide +kernel⟩
theorem At(d:zP K mg "is_name" WP ["thing"])(t5:mg "isinstance" = none)(Yg:mg "str" = none)(yJ:mg "len" = none)(pM:mg "all" = none)(IF:yn mg "NAME_LONGEST" (.int 8))(L4:∀H,zY K H (.int 8) (.int 8))(ju:yn mg "LETTERS" (.str "abcdefghijklmnopqrstuvwxyz"))(gB:∀H,zY K H (.str "abcdefghijklmnopqrstuvwxyz") (.str "abcdefghijklmnopqrstuvwxyz")):zU P w K mg base "is_name" ["thing"] 1 (zV K ZM):=
 zP.okS d fL (by decide) dm λf cdv A outer s H E hr=>(zR (yk (gO (v_ (YQ .str rfl rfl t5 Yg Bm (zJ (zA 0)))))
   (zZ (yr uI))
   xI)
  (zR (yk (ua (uZ (zy kU qd (zJ (xv wZ we rfl yJ wT (xf (zJ (zA 0)) xl))) (zJ zQ) (yH _)) (qh (zy Oh qd (zJ (xv wZ we rfl yJ wT (xf (zJ (zA 0)) xl))) (zJ (uJ IF L4 rfl)) (yH _)))))
   (zZ (yr uI))
   xI)
  (zZ (yr (xv (Ur rfl) Tm rfl pM Uq (xf (zJ (xA (vH rfl (wS (own:=["sign"]) rfl) (vY (zA 0)) (vD (λC s H fp pn=>(yx (i:=1) (show(xV ["thing"] ["sign"]).Nodup by decide +kernel) rfl (Or.inl rfl))) rfl) (λC s H fp pn=>u_) (λC s H fp pn=>(tV (vw (za hr)) vt (zJ (zA 1)) (zJ (uJ ju gB rfl)) (by with_unfolding_all rfl)))))) xl))))))
abbrev WJ:Stmt:=top 11
theorem Gp:yS ["kind", "field", "thing", "width"] ["kind", "field", "thing"] (yB WJ):=⟨rfl,rfl,rfl,by decide +kernel,rfl,by decide +kernel,by decide +kernel⟩
theorem Am(d:zP K mg "fits" WJ ["kind", "field", "thing"])(Zl:yn mg "MARKS" (.ref tj))(YE:∀H,zY K H Xd (.ref tj))(IG:yn mg "NUMBER_WIDTHS" (.ref jZ))(L5:qT K w jZ T6 TB)(IH:yn mg "PLACES" (.ref ja))(L6:qT K w ja Xb Xe)(IZ:zU P w K mg base "is_name" ["thing"] 1 (zV K ZM))(Ic:zU P w K mg base "is_number" ["thing", "width"] 1 (zV K ZN)):zU P w K mg base "fits" ["kind", "field", "thing"] 2 (zV K gg):=
 zP.okS d Gp (by decide) de λf cdv A outer s H E hr=>(zR (yk (zy (wI (yg hr)) wG (zJ (zA 1)) (zJ zp) (yH _))
   (zZ (yr (yC IZ hr rfl (zG (zA 2) zN))))
   xI)
  (zR (yk (zy (wI (yg hr)) wG (zJ (zA 1)) (zJ zp) (yH _))
   (zZ (yr (tV (av (za hr)) Ap (zJ (zA 2)) (zJ (uJ Zl YE rfl)) (by with_unfolding_all rfl))))
   xI)
  (zR (yA (i:=3) Gp.nd rfl (Or.inl rfl) (V9 (zy (wI (yg hr)) wG (zJ (zA 1)) (zJ zp) (yH _)) (LV IG L5 rfl (zA 0)) (zn (zl (za hr)) zm (LV IH L6 rfl (zA 1)) zQ)))
  (zZ (yr (yC Ic hr rfl (zG (zA 2) (zG (zA 3) zN))))))))
abbrev WM:Stmt:=top 10
theorem LP:yS ["thing", "kind", "fields"] ["thing"] (yB WM):=⟨rfl,rfl,rfl,by decide +kernel,rfl,by decide +kernel,by decide +kernel⟩
theorem Aq(d:zP K mg "is_item" WM ["thing"])(yJ:mg "len" = none)(t5:mg "isinstance" = none)(MP:mg "tuple" = none)(Yg:mg "str" = none)(pM:mg "all" = none)(MQ:mg "zip" = none)(T4:yn mg "FIELDS" (.ref jY))(Ty:qT K w jY Zm T9)(IV:zU P w K mg base "fits" ["kind", "field", "thing"] 2 (zV K gg)):zU P w K mg base "is_item" ["thing"] 3 (zV K qu):=
 zP.okS d LP (by decide) di λf cdv A outer s H E hr=>(zR (yk (ua (uZ (gO (v_ (YQ .tuple rfl rfl t5 MP NJ (zJ (zA 0))))) (qh (zy (wI (yg hr)) wG (zJ (xv wZ we rfl yJ wT (xf (zJ (zA 0)) xl))) (zJ zQ) (yH _)))))
   (zZ (yr uI))
   xI)
  (zR (yA (i:=1) LP.nd rfl (Or.inr rfl) (zn (zl (za hr)) zm (zA 0) zQ))
  (zR (yk (ua (uZ (gO (v_ (YQ .str rfl rfl t5 Yg Bm (zJ (zA 1))))) (qh (lv T4 Ty rfl (zA 1)))))
   (zZ (yr uI))
   xI)
  (zR (yA (i:=2) LP.nd rfl (Or.inl rfl) (LV T4 Ty rfl (zA 1)))
  (zR (yk (zy (vx (yg hr)) vv (zJ (xv wZ we rfl yJ wT (xf (zJ (zA 0)) xl))) (zJ (zc wH wE (xv wZ we rfl yJ wT (xf (zJ (zA 2)) xl)) zQ)) (yH _))
   (zZ (yr uI))
   xI)
  (zZ (yr (xv (Ur rfl) Tm rfl pM Uq (xf (zJ (xA (vH rfl (wS (own:=["field", "held"]) rfl) (iB rfl MQ (zA 2) (YR (zA 0) (YU zQ) YT)) (XQ (λC s H fp pn=>(kY (n:=2) rfl (uw (yx (i:=3) (show(xV ["thing", "kind", "fields"] ["field", "held"]).Nodup by decide +kernel) rfl (Or.inl rfl)) (uw (yx (i:=4) (show(xV ["thing", "kind", "fields"] ["field", "held"]).Nodup by decide +kernel) rfl (Or.inl rfl)) kZ)))) rfl rfl) (λC s H fp pn=>u_) (λC s H fp pn=>(yC IV hr rfl (zG (zA 1) (zG (zA 3) (zG (zA 4) zN)))))))) xl)))))))))
abbrev WR:Stmt:=top 13
theorem LQ:yS ["thing", "names", "places"] ["thing"] (yB WR):=⟨rfl,rfl,rfl,by decide +kernel,rfl,by decide +kernel,by decide +kernel⟩
theorem Av(d:zP K mg "is_program" WR ["thing"])(pM:mg "all" = none)(t5:mg "isinstance" = none)(qj:mg "list" = none)(yJ:mg "len" = none)(qK:mg "set" = none)(IY:zU P w K mg base "is_item" ["thing"] 3 (zV K qu))(qD:zU P w K mg base "is_label" ["item"] 1 (zV K tq))(jB:zU P w K mg base "label_places" ["items"] 2 (zV K qP))(qC:zU P w K mg base "is_jump" ["item"] 1 (zV K tm)):zU P w K mg base "is_program" ["thing"] 4 (zV K jc):=
 zP.okS d LQ (by decide) dr λf cdv A outer s H E hr=>(zR (yk (ua (uZ (gO (v_ (YQ .list rfl rfl t5 qj JZ (zJ (zA 0))))) (qh (gO (v_ (xv (Ur rfl) Tm rfl pM Uq (xf (zJ (xA (vH rfl (wS (own:=["held"]) rfl) (vY (zA 0)) (vD (λC s H fp pn=>(yx (i:=3) (show(xV ["thing", "names", "places"] ["held"]).Nodup by decide +kernel) rfl (Or.inl rfl))) rfl) (λC s H fp pn=>u_) (λC s H fp pn=>(yC IY hr rfl (zG (zA 3) zN)))))) xl)))))))
   (zZ (yr uI))
   xI)
  (zR (QJ (i:=1) rfl LQ.nd rfl rfl (wS (own:=["item"]) rfl) rfl (vY (zA 0)) (vD (λC s H fp pn=>(yx (i:=3) (show(xV ["thing", "names", "places"] ["item"]).Nodup by decide +kernel) rfl (Or.inl rfl))) rfl) (λC s H fp pn=>(qf (v_ (yC qD hr rfl (zG (zA 3) zN))))) (λC s H fp pn=>(zn (zl (za hr)) zm (zA 3) zQ)))
  (zR (yk (zy (vx (yg hr)) vv (zJ (fZ rfl rfl yJ rfl qK (zG (zA 1) zN))) (zJ (xv wZ we rfl yJ wT (xf (zJ (zA 1)) xl))) (yH _))
   (zZ (yr uI))
   xI)
  (zR (yA (i:=2) LQ.nd rfl (Or.inr rfl) (yC jB hr rfl (zG (zA 0) zN)))
  (zZ (yr (xv (Ur rfl) Tm rfl pM Uq (xf (zJ (xA (vH rfl (wS (own:=["item"]) rfl) (vY (zA 0)) (vD (λC s H fp pn=>(yx (i:=3) (show(xV ["thing", "names", "places"] ["item"]).Nodup by decide +kernel) rfl (Or.inl rfl))) rfl) (λC s H fp pn=>(qf (v_ (yC qC hr rfl (zG (zA 3) zN))))) (λC s H fp pn=>(tV (vw (za hr)) vt (zJ (zn (zl (za hr)) zm (zA 3) (gJ Z1 k_ zQ))) (zJ (zA 2)) (by with_unfolding_all rfl)))))) xl))))))))
abbrev Wv:Stmt:=top 18
theorem Gw:yS ["items", "places"] ["items"] (yB Wv):=⟨rfl,rfl,rfl,by decide +kernel,rfl,by decide +kernel,by decide +kernel⟩
theorem ab(d:zP K mg "targets_of" Wv ["items"])(jB:zU P w K mg base "label_places" ["items"] 2 (zV K qP))(wg:zU P w K mg base "rows_of" ["items"] 2 (zV K wB))(qC:zU P w K mg base "is_jump" ["item"] 1 (zV K tm)):zU P w K mg base "targets_of" ["items"] 3 (zV K qS):=
 zP.okS d Gw (by decide) eZ λf cdv A outer s H E hr=>(zR (yA (i:=1) Gw.nd rfl (Or.inr rfl) (yC jB hr rfl (zG (zA 0) zN)))
  (zZ (vO (vH rfl (wS (own:=["row"]) rfl) (vY (yC wg hr rfl (zG (zA 0) zN))) (vD (λC s H fp pn=>(yx (i:=2) (show(xV ["items", "places"] ["row"]).Nodup by decide +kernel) rfl (Or.inl rfl))) rfl) (λC s H fp pn=>u_) (λC s H fp pn=>(V9 (v_ (yC qC hr rfl (zG (zA 2) zN))) (zn (zl (za hr)) zm (zA 1) (zn (zl (za hr)) zm (zA 2) (gJ Z1 k_ zQ))) VA))))))
abbrev Wh:Stmt:=top 30
theorem fQ:yS ["mark"] ["mark"] (yB Wh):=⟨rfl,rfl,rfl,by decide +kernel,rfl,by decide +kernel,by decide +kernel⟩
theorem aJ(d:zP K mg "mark_bit" Wh ["mark"])(IE:yn mg "MARK_LOW" (.int 8))(L1:∀H,zY K H (.int 8) (.int 8))(Zl:yn mg "MARKS" (.ref tj))(YE:∀H,zY K H Xd (.ref tj))(O6:q_ K tj):zU P w K mg base "mark_bit" ["mark"] 1 (zV K j0):=
 zP.okS d fQ (by decide) eI λf cdv A outer s H E hr=>(zZ (yr (zc W3 W1 zQ (zc wH wE (uJ IE L1 rfl) (fX Zl YE O6 rfl (zA 0))))))
abbrev Wi:Stmt:=top 31
theorem fR:yS ["row"] ["row"] (yB Wi):=⟨rfl,rfl,rfl,by decide +kernel,rfl,by decide +kernel,by decide +kernel⟩
theorem aK(d:zP K mg "moves_by_nought" Wi ["row"]):zU P w K mg base "moves_by_nought" ["row"] 1 (zV K U6):=
 zP.okS d fR (by decide) eJ λf cdv A outer s H E hr=>(zZ (yr (LU (ff (tV (wI (yg hr)) wG (zJ (zn (zl (za hr)) zm (zA 0) zQ)) (zJ zp) (yH _)) (QD (tV (wI (yg hr)) wG (zJ (zn (zl (za hr)) zm (zA 0) zQ)) (zJ zp) (yH _)))) (QD (tV (wI (yg hr)) wG (zJ (zn (zl (za hr)) zm (zA 0) zQ)) (zJ zQ) (yH _))))))
abbrev Wx:Stmt:=top 28
theorem V7:yS ["row", "need"] ["row"] (yB Wx):=⟨rfl,rfl,rfl,by decide +kernel,rfl,by decide +kernel,by decide +kernel⟩
theorem ae(d:zP K mg "used" Wx ["row"])(Zj:yn mg "ALL_NEEDED" (.int 2047))(YD:∀H,zY K H (.int 2047) (.int 2047))(IC:yn mg "LOOK_AT_D" (.ref pY))(O_:∀H,zY K H IO (.ref pY))(ID:yn mg "LOOK_AT_S" (.ref pZ))(L0:∀H,zY K H IP (.ref pZ))(IB:yn mg "LOOK_AT_CARRY" (.ref pX))(Oz:∀H,zY K H IN (.ref pX))(jC:zU P w K mg base "mark_bit" ["mark"] 1 (zV K j0)):zU P w K mg base "used" ["row"] 2 (zV K tu):=
 zP.okS d V7 (by decide) e_ λf cdv A outer s H E hr=>(zR (yk (zy (wI (yg hr)) wG (zJ (zn (zl (za hr)) zm (zA 0) zQ)) (zJ zp) (yH _))
   (zZ (yr (uJ Zj YD rfl)))
   xI)
  (zR (yk (ua (uZ (zy (wI (yg hr)) wG (zJ (zn (zl (za hr)) zm (zA 0) zQ)) (zJ zp) (yH _)) (qh (zy (wI (yg hr)) wG (zJ (zn (zl (za hr)) zm (zA 0) zQ)) (zJ zp) (yH _)))))
   (zZ (yr (yC jC hr rfl (zG (zn (zl (za hr)) zm (zA 0) zQ) zN))))
   xI)
  (zR (yA (i:=1) V7.nd rfl (Or.inl rfl) zQ)
  (zR (yk (zy (vw (za hr)) vt (zJ (zn (zl (za hr)) zm (zA 0) zQ)) (zJ (uJ IC O_ rfl)) (by with_unfolding_all rfl))
   (zZ (yA (i:=1) V7.nd rfl (Or.inl rfl) (zc jM qc (zA 1) (zc W3 W1 zQ (zn (zl (za hr)) zm (zA 0) zQ)))))
   xI)
  (zR (yk (zy (vw (za hr)) vt (zJ (zn (zl (za hr)) zm (zA 0) zQ)) (zJ (uJ ID L0 rfl)) (by with_unfolding_all rfl))
   (zZ (yA (i:=1) V7.nd rfl (Or.inl rfl) (zc jM qc (zA 1) (zc W3 W1 zQ (zn (zl (za hr)) zm (zA 0) zQ)))))
   xI)
  (zR (yk (zy (vw (za hr)) vt (zJ (zn (zl (za hr)) zm (zA 0) zQ)) (zJ (uJ IB Oz rfl)) (by with_unfolding_all rfl))
   (zZ (yA (i:=1) V7.nd rfl (Or.inl rfl) (zc jM qc (zA 1) (yC jC hr rfl (zG zp zN)))))
   xI)
  (zZ (yr (zA 1)))))))))
abbrev Wr:Stmt:=top 29
theorem V5:yS ["row", "need"] ["row"] (yB Wr):=⟨rfl,rfl,rfl,by decide +kernel,rfl,by decide +kernel,by decide +kernel⟩
theorem aW(d:zP K mg "put" Wr ["row"])(IJ:yn mg "PUT_D" (.ref pf))(L8:∀H,zY K H IR (.ref pf))(IK:yn mg "PUT_NOUGHT_AND_SIGN" (.ref pp))(L9:∀H,zY K H IS (.ref pp))(II:yn mg "PUT_CARRY" (.ref pd))(L7:∀H,zY K H IQ (.ref pd))(jC:zU P w K mg base "mark_bit" ["mark"] 1 (zV K j0))(Ip:zU P w K mg base "moves_by_nought" ["row"] 1 (zV K U6)):zU P w K mg base "put" ["row"] 2 (zV K um):=
 zP.okS d V5 (by decide) eV λf cdv A outer s H E hr=>(zR (yA (i:=1) V5.nd rfl (Or.inl rfl) zQ)
  (zR (yk (zy (vw (za hr)) vt (zJ (zn (zl (za hr)) zm (zA 0) zQ)) (zJ (uJ IJ L8 rfl)) (by with_unfolding_all rfl))
   (zZ (yA (i:=1) V5.nd rfl (Or.inl rfl) (zc jM qc (zA 1) (zc W3 W1 zQ (zn (zl (za hr)) zm (zA 0) zQ)))))
   xI)
  (zR (yk (zy (vw (za hr)) vt (zJ (zn (zl (za hr)) zm (zA 0) zQ)) (zJ (uJ IK L9 rfl)) (by with_unfolding_all rfl))
   (zZ (yA (i:=1) V5.nd rfl (Or.inl rfl) (zc jM qc (zc jM qc (zA 1) (yC jC hr rfl (zG zp zN))) (yC jC hr rfl (zG zp zN)))))
   xI)
  (zR (yk (ua (QK (zy (vw (za hr)) vt (zJ (zn (zl (za hr)) zm (zA 0) zQ)) (zJ (uJ II L7 rfl)) (by with_unfolding_all rfl)) (QL (gO (v_ (yC Ip hr rfl (zG (zA 0) zN)))))))
   (zZ (yA (i:=1) V5.nd rfl (Or.inl rfl) (zc jM qc (zA 1) (yC jC hr rfl (zG zp zN)))))
   xI)
  (zZ (yr (zA 1)))))))
abbrev Wy:Stmt:=top 33
theorem fU:yS ["row", "number", "target"] ["row", "number", "target"] (yB Wy):=⟨rfl,rfl,rfl,by decide +kernel,rfl,by decide +kernel,by decide +kernel⟩
theorem af(d:zP K mg "ways_from" Wy ["row", "number", "target"])(qL:mg "sorted" = none)(qK:mg "set" = none):zU P w K mg base "ways_from" ["row", "number", "target"] 1 (zV K ZX):=
 zP.okS d fU (by decide) fA λf cdv A outer s H E hr=>(zR (yk (zy (wI (yg hr)) wG (zJ (zn (zl (za hr)) zm (zA 0) zQ)) (zJ zp) (yH _))
   (zZ (vO (wJ zN (yQ yU (by decide)))))
   xI)
  (zR (yk (zy (wI (yg hr)) wG (zJ (zn (zl (za hr)) zm (zA 0) zQ)) (zJ zp) (yH _))
   (zZ (vO (wJ (zG (zA 2) zN) (yQ (zd yU) (by decide)))))
   xI)
  (zR (yk (zy Eg EY (zJ (zA 2)) (zJ VA) (yH _))
   (zZ (vO (wJ (zG (zc wH wE (zA 1) zQ) zN) (yQ (zd yU) (by decide)))))
   xI)
  (zZ (vO (Lc rfl rfl qL rfl qK (zG (xA (wJ (zG (zc wH wE (zA 1) zQ) (zG (zA 2) zN)) (yQ (zd (zd yU)) (by decide)))) zN)))))))
abbrev Wz:Stmt:=top 32
theorem Gx:yS ["items", "rows"] ["items"] (yB Wz):=⟨rfl,rfl,rfl,by decide +kernel,rfl,by decide +kernel,by decide +kernel⟩
theorem ag(d:zP K mg "ways_of" Wz ["items"])(vg:mg "enumerate" = none)(wg:zU P w K mg base "rows_of" ["items"] 2 (zV K wB))(jD:zU P w K mg base "targets_of" ["items"] 3 (zV K qS))(Ix:zU P w K mg base "ways_from" ["row", "number", "target"] 1 (zV K ZX)):zU P w K mg base "ways_of" ["items"] 4 (zV K qx):=
 zP.okS d Gx (by decide) fB λf cdv A outer s H E hr=>(zR (yA (i:=1) Gx.nd rfl (Or.inr rfl) (yC wg hr rfl (zG (zA 0) zN)))
  (zZ (vO (vH rfl (wS (own:=["number", "target"]) rfl) (YS rfl vg (yC jD hr rfl (zG (zA 0) zN))) (XQ (λC s H fp pn=>(kY (n:=2) rfl (uw (yx (i:=2) (show(xV ["items", "rows"] ["number", "target"]).Nodup by decide +kernel) rfl (Or.inl rfl)) (uw (yx (i:=3) (show(xV ["items", "rows"] ["number", "target"]).Nodup by decide +kernel) rfl (Or.inl rfl)) kZ)))) rfl rfl) (λC s H fp pn=>u_) (λC s H fp pn=>(yC Ix hr rfl (zG (zn (zl (za hr)) zm (zA 1) (zA 2)) (zG (zA 2) (zG (zA 3) zN)))))))))
abbrev Wm:Stmt:=top 37
theorem QB:yS ["told", "places", "need", "place"] ["told", "places"] (yB Wm):=⟨rfl,rfl,rfl,by decide +kernel,rfl,by decide +kernel,by decide +kernel⟩
theorem aP(d:zP K mg "needed_at" Wm ["told", "places"]):zU P w K mg base "needed_at" ["told", "places"] 1 (zV K j2):=
 zP.okS d QB (by decide) eN λf cdv A outer s H E hr=>(zR (yA (i:=2) QB.nd rfl (Or.inl rfl) zQ)
  (zR (YV ue rfl (vY (zA 1)) (VB (yx (i:=3) QB.nd rfl (Or.inl rfl)) rfl)
   (zZ (yA (i:=2) QB.nd rfl (Or.inl rfl) (zc jM qc (zA 2) (zn (zl (za hr)) zm (zA 0) (zA 3))))))
  (zZ (yr (zA 2)))))
abbrev WG:Stmt:=top 38
theorem V0:yS ["ways", "comers", "place", "number", "places"] ["ways"] (yB WG):=⟨rfl,rfl,rfl,by decide +kernel,rfl,by decide +kernel,by decide +kernel⟩
theorem Ak(d:zP K mg "comers_of" WG ["ways"])(wx:mg "range" = none)(yJ:mg "len" = none)(vg:mg "enumerate" = none):zU P w K mg base "comers_of" ["ways"] 1 (zV K gf):=
 zP.okS d V0 (by decide) da λf cdv A outer s H E hr=>(lu (i:=1) rfl (lN (i:=1) rfl V0.nd rfl rfl (wS (own:=["place"]) rfl) rfl (gK rfl wx (zc wH wE (xv wZ we rfl yJ wT (xf (zJ (zA 0)) xl)) zQ)) (vD (λC s H fp pn=>(yx (i:=5) (show(xV ["ways", "comers", "place", "number", "places"] ["place"]).Nodup by decide +kernel) rfl (Or.inl rfl))) rfl) (λ_ _=>rfl))
  (Ag (Cj ue rfl (YS rfl vg (zA 0)) (i4 (kY (n:=2) rfl (uw (yx (i:=3) V0.nd rfl (Or.inl rfl)) (uw (yx (i:=4) V0.nd rfl (Or.inl rfl)) kZ))) rfl rfl)
    (Ob (Cj ue rfl (vY (zA 4)) (i5 (yx (i:=2) V0.nd rfl (Or.inl rfl)) rfl)
      (Ob (Ae (za hr) (qv 1) (zA 2) (zA 3))))))
   (Ob Af)))
abbrev Ws:Stmt:=top 34
theorem V6:yS ["items", "ways", "found", "due", "number"] ["items"] (yB Ws):=⟨rfl,rfl,rfl,by decide +kernel,rfl,by decide +kernel,by decide +kernel⟩
theorem aX(d:zP K mg "reached" Ws ["items"])(yJ:mg "len" = none)(qL:mg "sorted" = none)(jE:zU P w K mg base "ways_of" ["items"] 4 (zV K qx)):zU P w K mg base "reached" ["items"] 5 (zV K qR):=
 zP.okS d V6 (by decide) eW λf cdv A outer s H E hr=>(zR (yA (i:=1) V6.nd rfl (Or.inl rfl) (yC jE hr rfl (zG (zA 0) zN)))
  (zR (uz (i:=2) V6.nd rfl (Or.inl rfl) LZ)
  (zR (uz (i:=3) V6.nd rfl (Or.inl rfl) (wJ (zG zQ zN) (yQ (zd yU) (by decide))))
  (zR (VE ue (zy (vx (yg hr)) vv (YK 3) (zJ (xA (wJ zN (yQ yU (by decide))))) (yH _))
   (zR (HK (i:=3) (j:=4) (qv 3) V6.nd rfl (Or.inl rfl))
    (zZ (yk (ua (QK (zy kU qd (zJ (zA 4)) (zJ (xv wZ we rfl yJ wT (xf (zJ (zA 1)) xl))) (yH _)) (QL (zy (Oi (za hr)) Oe (zJ (zA 4)) (YK 2) (by with_unfolding_all rfl)))))
     (zR (Le (za hr) (qv 2) (zA 4) uI)
      (zZ (HI (qv 3) (zn (zl (za hr)) zm (zA 1) (zA 4)))))
     xI))))
  (gM 3 (gM 2 (zZ (vO (hU rfl rfl qL (zG (zA 2) zN))))))))))
abbrev Wn:Stmt:=top 36
theorem gI:yS ["items", "rows", "ways", "comers", "told", "due", "number", "need"] ["items"] (yB Wn):=⟨rfl,rfl,rfl,by decide +kernel,rfl,by decide +kernel,by decide +kernel⟩
theorem aQ(d:zP K mg "needs" Wn ["items"])(yJ:mg "len" = none)(qj:mg "list" = none)(wx:mg "range" = none)(Zj:yn mg "ALL_NEEDED" (.int 2047))(YD:∀H,zY K H (.int 2047) (.int 2047))(wg:zU P w K mg base "rows_of" ["items"] 2 (zV K wB))(jE:zU P w K mg base "ways_of" ["items"] 4 (zV K qx))(IU:zU P w K mg base "comers_of" ["ways"] 1 (zV K gf))(Iw:zU P w K mg base "used" ["row"] 2 (zV K tu))(Zp:zU P w K mg base "needed_at" ["told", "places"] 1 (zV K j2))(Zt:zU P w K mg base "put" ["row"] 2 (zV K um)):zU P w K mg base "needs" ["items"] 6 (zV K qQ):=
 zP.okS d gI (by decide) eO λf cdv A outer s H E hr=>(zR (yA (i:=1) gI.nd rfl (Or.inl rfl) (yC wg hr rfl (zG (zA 0) zN)))
  (zR (yA (i:=2) gI.nd rfl (Or.inl rfl) (yC jE hr rfl (zG (zA 0) zN)))
  (zR (yA (i:=3) gI.nd rfl (Or.inl rfl) (yC IU hr rfl (zG (zA 2) zN)))
  (zR (uz (i:=4) gI.nd rfl (Or.inl rfl) (f_ (xA (h9 (wJ (zG zQ zN) (yQ (zd yU) (by decide))) (xv wZ we rfl yJ wT (xf (zJ (zA 1)) xl)))) (xA (wJ (zG (uJ Zj YD rfl) zN) (yQ (zd yU) (by decide))))))
  (zR (uz (i:=5) gI.nd rfl (Or.inl rfl) (h8 rfl rfl qj rfl wx (zG (xv wZ we rfl yJ wT (xf (zJ (zA 1)) xl)) zN)))
  (zR (VE ue (zy (vx (yg hr)) vv (YK 5) (zJ (xA (wJ zN (yQ yU (by decide))))) (yH _))
   (zR (HK (i:=5) (j:=6) (qv 5) gI.nd rfl (Or.inl rfl))
    (zR (yA (i:=7) gI.nd rfl (Or.inl rfl) (zc jM qc (yC Iw hr rfl (zG (zn (zl (za hr)) zm (zA 1) (zA 6)) zN)) (zc Ee qc (fW Zp hr rfl (xf (YK 4) (xf (zJ (zn (zl (za hr)) zm (zA 2) (zA 6))) xl))) (gJ rY rX (yC Zt hr rfl (zG (zn (zl (za hr)) zm (zA 1) (zA 6)) zN))))))
    (zZ (yk (zy (vx (yg hr)) vv (zJ (zA 7)) (zJ (fY (za hr) (qv 4) (zA 6))) (yH _))
     (zR (lh (qv 4) (zA 6) (zA 7))
      (zZ (HI (qv 5) (zn (zl (za hr)) zm (zA 3) (zA 6)))))
     xI)))))
  (gM 5 (zZ (YW 4)))))))))
abbrev Wp:Stmt:=top 40
theorem Gu:yS ["items", "there"] ["items"] (yB Wp):=⟨rfl,rfl,rfl,by decide +kernel,rfl,by decide +kernel,by decide +kernel⟩
theorem aU(d:zP K mg "not_reached" Wp ["items"])(jV:mg "dict" = none)(wx:mg "range" = none)(yJ:mg "len" = none)(Iv:zU P w K mg base "reached" ["items"] 5 (zV K qR))(wg:zU P w K mg base "rows_of" ["items"] 2 (zV K wB)):zU P w K mg base "not_reached" ["items"] 6 (zV K ul):=
 zP.okS d Gu (by decide) eS λf cdv A outer s H E hr=>(zR (yA (i:=1) Gu.nd rfl (Or.inr rfl) (xA (LY rfl rfl jV JY (zG (xA (vH rfl (wS (own:=["number"]) rfl) (vY (yC Iv hr rfl (zG (zA 0) zN))) (vD (λC s H fp pn=>(yx (i:=2) (show(xV ["items", "there"] ["number"]).Nodup by decide +kernel) rfl (Or.inl rfl))) rfl) (λC s H fp pn=>u_) (λC s H fp pn=>(wv (zG (zA 2) (zG uI zN)) (yQ (zd (zd yU)) (by decide)))))) zN))))
  (zZ (vO (vH rfl (wS (own:=["number"]) rfl) (gK rfl wx (xv wZ we rfl yJ wT (xf (zJ (yC wg hr rfl (zG (zA 0) zN))) xl))) (vD (λC s H fp pn=>(yx (i:=2) (show(xV ["items", "there"] ["number"]).Nodup by decide +kernel) rfl (Or.inl rfl))) rfl) (λC s H fp pn=>(qf (zy (Oi (za hr)) Oe (zJ (zA 2)) (zJ (zA 1)) (by with_unfolding_all rfl)))) (λC s H fp pn=>(zA 2))))))
abbrev Ww:Stmt:=top 41
theorem fT:yS ["items"] ["items"] (yB Ww):=⟨rfl,rfl,rfl,by decide +kernel,rfl,by decide +kernel,by decide +kernel⟩
theorem ac(d:zP K mg "to_the_next_row" Ww ["items"])(vg:mg "enumerate" = none)(jD:zU P w K mg base "targets_of" ["items"] 3 (zV K qS)):zU P w K mg base "to_the_next_row" ["items"] 4 (zV K uo):=
 zP.okS d fT (by decide) eh λf cdv A outer s H E hr=>(zZ (vO (vH rfl (wS (own:=["number", "target"]) rfl) (YS rfl vg (yC jD hr rfl (zG (zA 0) zN))) (XQ (λC s H fp pn=>(kY (n:=2) rfl (uw (yx (i:=1) (show(xV ["items"] ["number", "target"]).Nodup by decide +kernel) rfl (Or.inl rfl)) (uw (yx (i:=2) (show(xV ["items"] ["number", "target"]).Nodup by decide +kernel) rfl (Or.inl rfl)) kZ)))) rfl rfl) (λC s H fp pn=>(qf (zy (wI (yg hr)) wG (zJ (zA 2)) (zJ (zc wH wE (zA 1) zQ)) (yH _)))) (λC s H fp pn=>(zA 1)))))
abbrev WH:Stmt:=top 42
theorem fH:yS ["items"] ["items"] (yB WH):=⟨rfl,rfl,rfl,by decide +kernel,rfl,by decide +kernel,by decide +kernel⟩
theorem Al(d:zP K mg "copied_to_itself" WH ["items"])(vg:mg "enumerate" = none)(wg:zU P w K mg base "rows_of" ["items"] 2 (zV K wB)):zU P w K mg base "copied_to_itself" ["items"] 3 (zV K uj):=
 zP.okS d fH (by decide) db λf cdv A outer s H E hr=>(zZ (vO (vH rfl (wS (own:=["number", "row"]) rfl) (YS rfl vg (yC wg hr rfl (zG (zA 0) zN))) (XQ (λC s H fp pn=>(kY (n:=2) rfl (uw (yx (i:=1) (show(xV ["items"] ["number", "row"]).Nodup by decide +kernel) rfl (Or.inl rfl)) (uw (yx (i:=2) (show(xV ["items"] ["number", "row"]).Nodup by decide +kernel) rfl (Or.inl rfl)) kZ)))) rfl rfl) (λC s H fp pn=>(qf (ua (QK (zy (wI (yg hr)) wG (zJ (zn (zl (za hr)) zm (zA 2) zQ)) (zJ zp) (yH _)) (QL (zy (wI (yg hr)) wG (zJ (zn (zl (za hr)) zm (zA 2) zQ)) (zJ (zn (zl (za hr)) zm (zA 2) zQ)) (yH _))))))) (λC s H fp pn=>(zA 1)))))
abbrev Wo:Stmt:=top 43
theorem QC:yS ["items", "told", "ways", "puts"] ["items"] (yB Wo):=⟨rfl,rfl,rfl,by decide +kernel,rfl,by decide +kernel,by decide +kernel⟩
theorem aT(d:zP K mg "not_needed" Wo ["items"])(wx:mg "range" = none)(yJ:mg "len" = none)(Iu:zU P w K mg base "needs" ["items"] 6 (zV K qQ))(jE:zU P w K mg base "ways_of" ["items"] 4 (zV K qx))(wg:zU P w K mg base "rows_of" ["items"] 2 (zV K wB))(Zt:zU P w K mg base "put" ["row"] 2 (zV K um))(Zp:zU P w K mg base "needed_at" ["told", "places"] 1 (zV K j2)):zU P w K mg base "not_needed" ["items"] 7 (zV K uk):=
 zP.okS d QC (by decide) eQ λf cdv A outer s H E hr=>(zR (yA (i:=1) QC.nd rfl (Or.inr rfl) (xA (qI Iu hr rfl (zG (zA 0) zN))))
  (zR (yA (i:=2) QC.nd rfl (Or.inr rfl) (yC jE hr rfl (zG (zA 0) zN)))
  (zR (lj (i:=3) QC.nd rfl (Or.inr rfl) (xA (vH rfl (wS (own:=["row"]) rfl) (vY (yC wg hr rfl (zG (zA 0) zN))) (vD (λC s H fp pn=>(yx (i:=4) (show(xV ["items", "told", "ways", "puts"] ["row"]).Nodup by decide +kernel) rfl (Or.inl rfl))) rfl) (λC s H fp pn=>u_) (λC s H fp pn=>(yC Zt hr rfl (zG (zA 4) zN))))))
  (zZ (vO (vH rfl (wS (own:=["number"]) rfl) (gK rfl wx (xv wZ we rfl yJ wT (xf (zJ (zA 3)) xl))) (vD (λC s H fp pn=>(yx (i:=4) (show(xV ["items", "told", "ways", "puts"] ["number"]).Nodup by decide +kernel) rfl (Or.inl rfl))) rfl) (λC s H fp pn=>(qf (ua (QK (zy (vx (yg hr)) vv (zJ (zn (zl (za hr)) zm (zA 3) (zA 4))) (zJ zQ) (yH _)) (QL (zy (wI (yg hr)) wG (zJ (zc Ee qc (zn (zl (za hr)) zm (zA 3) (zA 4)) (yC Zp hr rfl (zG (zA 1) (zG (zn (zl (za hr)) zm (zA 2) (zA 4)) zN))))) (zJ zQ) (yH _))))))) (λC s H fp pn=>(zA 4))))))))
abbrev WK:Stmt:=top 45
theorem LN:yS ["items", "numbers", "told_by"] ["items"] (yB WK):=⟨rfl,rfl,rfl,by decide +kernel,rfl,by decide +kernel,by decide +kernel⟩
theorem An(d:zP K mg "idle" WK ["items"])(qL:mg "sorted" = none)(qK:mg "set" = none)(Zk:yn mg "IDLE_KINDS" (.ref pV))(Ya:XI K mg pV ["not_reached", "to_the_next_row", "copied_to_itself", "not_needed"])(Zr:zU P w K mg base "not_reached" ["items"] 6 (zV K ul))(Zv:zU P w K mg base "to_the_next_row" ["items"] 4 (zV K uo))(Zn:zU P w K mg base "copied_to_itself" ["items"] 3 (zV K uj))(Zq:zU P w K mg base "not_needed" ["items"] 7 (zV K uk)):zU P w K mg base "idle" ["items"] 8 (zV K p_):=
 zP.okS d LN (by decide) df λf cdv A outer s H E hr=>(zR (uz (i:=1) LN.nd rfl (Or.inl rfl) (wJ zN (yQ yU (by decide))))
  (zR (lX ue rfl Zk rfl Ya (uA.cons Zr (uA.cons Zv (uA.cons Zn (uA.cons Zq uA.nil)))) hr (yx (i:=2) LN.nd rfl (Or.inl rfl)) rfl (qv 2) (qv 1) (zG (zA 0) zN) rfl)
  (gM 1 (zZ (vO (Lc rfl rfl qL rfl qK (zG (zA 1) zN)))))))
abbrev WL:Stmt:=top 46
theorem LO:yS ["items", "told_by", "numbers"] ["items"] (yB WL):=⟨rfl,rfl,rfl,by decide +kernel,rfl,by decide +kernel,by decide +kernel⟩
theorem Ao(d:zP K mg "idle_of_one_kind" WL ["items"])(Zk:yn mg "IDLE_KINDS" (.ref pV))(Ya:XI K mg pV ["not_reached", "to_the_next_row", "copied_to_itself", "not_needed"])(Zr:zU P w K mg base "not_reached" ["items"] 6 (zV K ul))(Zv:zU P w K mg base "to_the_next_row" ["items"] 4 (zV K uo))(Zn:zU P w K mg base "copied_to_itself" ["items"] 3 (zV K uj))(Zq:zU P w K mg base "not_needed" ["items"] 7 (zV K uk)):zU P w K mg base "idle_of_one_kind" ["items"] 8 (zV K ZL):=
 zP.okS d LO (by decide) dg λf cdv A outer s H E hr=>(zR (lY ue rfl Zk rfl Ya (uA.cons Zr (uA.cons Zv (uA.cons Zn (uA.cons Zq uA.nil)))) hr (yx (i:=1) LO.nd rfl (Or.inl rfl)) rfl (qv 1) LO.nd rfl (Or.inl rfl) (zG (zA 0) zN)
   (zZ (yk (zy (vx (yg hr)) vv (zJ (zA 2)) (zJ (xA (wJ zN (yQ yU (by decide))))) (yH _))
     (zZ (yr (zA 2)))
     xI)) rfl)
  (zZ (vO (wJ zN (yQ yU (by decide))))))
abbrev W_:Stmt:=top 47
theorem YO:yS ["items", "numbers", "dropped", "number", "kept", "item"] ["items", "numbers"] (yB W_):=⟨rfl,rfl,rfl,by decide +kernel,rfl,by decide +kernel,by decide +kernel⟩
theorem ah(d:zP K mg "without" W_ ["items", "numbers"])(jV:mg "dict" = none)(qD:zU P w K mg base "is_label" ["item"] 1 (zV K tq)):zU P w K mg base "without" ["items", "numbers"] 2 (zV K gm):=
 zP.okS d YO (by decide) fC λf cdv A outer s H E hr=>(zR (yA (i:=2) YO.nd rfl (Or.inl rfl) (xA (LY rfl rfl jV JY (zG (xA (vH rfl (wS (own:=["number"]) rfl) (vY (zA 1)) (vD (λC s H fp pn=>(yx (i:=6) (show(xV ["items", "numbers", "dropped", "number", "kept", "item"] ["number"]).Nodup by decide +kernel) rfl (Or.inl rfl))) rfl) (λC s H fp pn=>u_) (λC s H fp pn=>(wv (zG (zA 6) (zG uI zN)) (yQ (zd (zd yU)) (by decide)))))) zN))))
  (zR (uz (i:=4) YO.nd rfl (Or.inl rfl) (wJ zN (yQ yU (by decide))))
  (zR (yA (i:=3) YO.nd rfl (Or.inl rfl) zQ)
  (zR (YV ue rfl (vY (zA 0)) (VB (yx (i:=5) YO.nd rfl (Or.inl rfl)) rfl)
   (zZ (yk (v_ (yC qD hr rfl (zG (zA 5) zN)))
     (zZ (qJ (qv 4) (zA 5)))
     (zR (yk (zy (Oi (za hr)) Oe (zJ (zA 3)) (zJ (zA 2)) (by with_unfolding_all rfl))
       (zZ (qJ (qv 4) (zA 5)))
       xI)
      (zZ (HH (i:=3) Dv EX YO.nd rfl (Or.inl rfl) zQ))))))
  (zZ (YW 4))))))
abbrev We:Stmt:=top 51
theorem fP:yS ["rows", "place"] ["rows", "place"] (yB We):=⟨rfl,rfl,rfl,by decide +kernel,rfl,by decide +kernel,by decide +kernel⟩
theorem aH(d:zP K mg "leads_on" We ["rows", "place"])(yJ:mg "len" = none):zU P w K mg base "leads_on" ["rows", "place"] 1 (zV K ZV):=
 zP.okS d fP (by decide) eF λf cdv A outer s H E hr=>(zZ (yr (LU (tV kU qd (zJ (zA 1)) (zJ (xv wZ we rfl yJ wT (xf (zJ (zA 0)) xl))) (yH _)) (QD (tV (wI (yg hr)) wG (zJ (zn (zl (za hr)) zm (zn (zl (za hr)) zm (zA 0) (zA 1)) zQ)) (zJ zp) (yH _))))))
abbrev WU:Stmt:=top 50
theorem Q9:yS ["name", "rows", "places", "met", "last"] ["name", "rows", "places"] (yB WU):=⟨rfl,rfl,rfl,by decide +kernel,rfl,by decide +kernel,by decide +kernel⟩
theorem Ay(d:zP K mg "last_name" WU ["name", "rows", "places"])(Io:zU P w K mg base "leads_on" ["rows", "place"] 1 (zV K ZV)):zU P w K mg base "last_name" ["name", "rows", "places"] 2 (zV K ZP):=
 zP.okS d Q9 (by decide) dw λf cdv A outer s H E hr=>(zR (uz (i:=3) Q9.nd rfl (Or.inl rfl) LZ)
  (zR (yA (i:=4) Q9.nd rfl (Or.inl rfl) (zA 0))
  (zR (VE ue (v_ (yC Io hr rfl (zG (zA 1) (zG (zn (zl (za hr)) zm (zA 2) (zA 4)) zN))))
   (zR (yk (zy (vw (za hr)) vt (zJ (zn (zl (za hr)) zm (zA 2) (zA 4))) (YK 3) (by with_unfolding_all rfl))
     (zZ (yr (zA 0)))
     xI)
    (zR (Le (za hr) (qv 3) (zn (zl (za hr)) zm (zA 2) (zA 4)) uI)
    (zZ (yA (i:=4) Q9.nd rfl (Or.inl rfl) (zn (zl (za hr)) zm (zn (zl (za hr)) zm (zA 1) (zn (zl (za hr)) zm (zA 2) (zA 4))) (gJ Z1 k_ zQ)))))))
  (gM 3 (zZ (yr (zA 4)))))))
abbrev Wg:Stmt:=top 49
theorem LS:yS ["items", "rows", "places"] ["items"] (yB Wg):=⟨rfl,rfl,rfl,by decide +kernel,rfl,by decide +kernel,by decide +kernel⟩
theorem aI(d:zP K mg "led_on" Wg ["items"])(wg:zU P w K mg base "rows_of" ["items"] 2 (zV K wB))(jB:zU P w K mg base "label_places" ["items"] 2 (zV K qP))(qC:zU P w K mg base "is_jump" ["item"] 1 (zV K tm))(Ig:zU P w K mg base "last_name" ["name", "rows", "places"] 2 (zV K ZP)):zU P w K mg base "led_on" ["items"] 3 (zV K tt):=
 zP.okS d LS (by decide) eG λf cdv A outer s H E hr=>(zR (yA (i:=1) LS.nd rfl (Or.inr rfl) (yC wg hr rfl (zG (zA 0) zN)))
  (zR (yA (i:=2) LS.nd rfl (Or.inr rfl) (yC jB hr rfl (zG (zA 0) zN)))
  (zZ (vO (vH rfl (wS (own:=["item"]) rfl) (vY (zA 0)) (vD (λC s H fp pn=>(yx (i:=3) (show(xV ["items", "rows", "places"] ["item"]).Nodup by decide +kernel) rfl (Or.inl rfl))) rfl) (λC s H fp pn=>u_) (λC s H fp pn=>(V9 (v_ (yC qC hr rfl (zG (zA 3) zN))) (zc wH wE (YR (zA 3) YT (YU (gJ Z1 k_ zQ))) (wv (zG (yC Ig hr rfl (zG (zn (zl (za hr)) zm (zA 3) (gJ Z1 k_ zQ)) (zG (zA 1) (zG (zA 2) zN)))) zN) (yQ (zd yU) (by decide)))) (zA 3))))))))
abbrev Wj:Stmt:=top 53
theorem V4:yS ["number", "name", "left"] ["number"] (yB Wj):=⟨rfl,rfl,rfl,by decide +kernel,rfl,by decide +kernel,by decide +kernel⟩
theorem aM(d:zP K mg "name_of" Wj ["number"])(yJ:mg "len" = none)(ju:yn mg "LETTERS" (.str "abcdefghijklmnopqrstuvwxyz"))(gB:∀H,zY K H (.str "abcdefghijklmnopqrstuvwxyz") (.str "abcdefghijklmnopqrstuvwxyz")):zU P w K mg base "name_of" ["number"] 1 (zV K gj):=
 zP.okS d V4 (by decide) eK λf cdv A outer s H E hr=>(zR (yA (i:=1) V4.nd rfl (Or.inl rfl) zp)
  (zR (yA (i:=2) V4.nd rfl (Or.inl rfl) (zc wH wE (zA 0) zQ))
  (zR (VE ue (zy Oh qd (zJ (zA 2)) (zJ zQ) (yH _))
   (zR (yA (i:=1) V4.nd rfl (Or.inl rfl) (zc wH wE (zn (zl (za hr)) zm (uJ ju gB rfl) (zc xj xi (zc Eh Eb (zA 2) zQ) (xv wZ we rfl yJ wT (xf (zJ (uJ ju gB rfl)) xl)))) (zA 1)))
    (zZ (yA (i:=2) V4.nd rfl (Or.inl rfl) (zc uY uX (zc Eh Eb (zA 2) zQ) (xv wZ we rfl yJ wT (xf (zJ (uJ ju gB rfl)) xl)))))))
  (zZ (yr (zA 1))))))
abbrev Wl:Stmt:=top 56
theorem Gs:yS ["targets", "places"] ["targets"] (yB Wl):=⟨rfl,rfl,rfl,by decide +kernel,rfl,by decide +kernel,by decide +kernel⟩
theorem aN(d:zP K mg "names_of_places" Wl ["targets"])(qL:mg "sorted" = none)(qK:mg "set" = none)(jV:mg "dict" = none)(vg:mg "enumerate" = none)(Iq:zU P w K mg base "name_of" ["number"] 1 (zV K gj)):zU P w K mg base "names_of_places" ["targets"] 2 (zV K ZW):=
 zP.okS d Gs (by decide) eM λf cdv A outer s H E hr=>(zR (yA (i:=1) Gs.nd rfl (Or.inl rfl) (xA (Lc rfl rfl qL rfl qK (zG (xA (vH rfl (wS (own:=["target"]) rfl) (vY (zA 0)) (vD (λC s H fp pn=>(yx (i:=2) (show(xV ["targets", "places"] ["target"]).Nodup by decide +kernel) rfl (Or.inl rfl))) rfl) (λC s H fp pn=>(qf (zy bA aS (zJ (zA 2)) (zJ VA) (yH _)))) (λC s H fp pn=>(zA 2)))) zN))))
  (zZ (vO (LY rfl rfl jV JY (zG (xA (vH rfl (wS (own:=["number", "place"]) rfl) (YS rfl vg (zA 1)) (XQ (λC s H fp pn=>(kY (n:=2) rfl (uw (yx (i:=2) (show(xV ["targets", "places"] ["number", "place"]).Nodup by decide +kernel) rfl (Or.inl rfl)) (uw (yx (i:=3) (show(xV ["targets", "places"] ["number", "place"]).Nodup by decide +kernel) rfl (Or.inl rfl)) kZ)))) rfl rfl) (λC s H fp pn=>u_) (λC s H fp pn=>(wv (zG (zA 3) (zG (yC Iq hr rfl (zG (zA 2) zN)) zN)) (yQ (zd (zd yU)) (by decide)))))) zN)))))
abbrev WT:Stmt:=top 55
theorem V2:yS ["rows", "targets", "names", "items", "number", "row"] ["rows", "targets"] (yB WT):=⟨rfl,rfl,rfl,by decide +kernel,rfl,by decide +kernel,by decide +kernel⟩
theorem Ax(d:zP K mg "labelled" WT ["rows", "targets"])(vg:mg "enumerate" = none)(yJ:mg "len" = none)(Ir:zU P w K mg base "names_of_places" ["targets"] 2 (zV K ZW)):zU P w K mg base "labelled" ["rows", "targets"] 3 (zV K ZO):=
 zP.okS d V2 (by decide) dv λf cdv A outer s H E hr=>(zR (yA (i:=2) V2.nd rfl (Or.inl rfl) (yC Ir hr rfl (zG (zA 1) zN)))
  (zR (uz (i:=3) V2.nd rfl (Or.inl rfl) (wJ zN (yQ yU (by decide))))
  (zR (YV ue rfl (YS rfl vg (zA 0)) (h_ (kY (n:=2) rfl (uw (yx (i:=4) V2.nd rfl (Or.inl rfl)) (uw (yx (i:=5) V2.nd rfl (Or.inl rfl)) kZ))) rfl rfl)
   (zR (yk (zy (vw (za hr)) vt (zJ (zA 4)) (zJ (zA 2)) (by with_unfolding_all rfl))
     (zZ (qJ (qv 3) (wv (zG zp (zG (zn (zl (za hr)) zm (zA 2) (zA 4)) zN)) (yQ (zd (zd yU)) (by decide)))))
     xI)
    (zZ (qJ (qv 3) (V9 (zy Eg EY (zJ (zn (zl (za hr)) zm (zA 1) (zA 4))) (zJ VA) (yH _)) (zA 5) (zc wH wE (zA 5) (wv (zG (zn (zl (za hr)) zm (zA 2) (zn (zl (za hr)) zm (zA 1) (zA 4))) zN) (yQ (zd yU) (by decide)))))))))
  (zR (yk (zy (vw (za hr)) vt (zJ (xv wZ we rfl yJ wT (xf (zJ (zA 0)) xl))) (zJ (zA 2)) (by with_unfolding_all rfl))
   (zZ (qJ (qv 3) (wv (zG zp (zG (zn (zl (za hr)) zm (zA 2) (xv wZ we rfl yJ wT (xf (zJ (zA 0)) xl))) zN)) (yQ (zd (zd yU)) (by decide)))))
   xI)
  (zZ (YW 3))))))
abbrev Wq:Stmt:=top 54
theorem Gv:yS ["items", "rows"] ["items"] (yB Wq):=⟨rfl,rfl,rfl,by decide +kernel,rfl,by decide +kernel,by decide +kernel⟩
theorem aV(d:zP K mg "plain" Wq ["items"])(wg:zU P w K mg base "rows_of" ["items"] 2 (zV K wB))(qC:zU P w K mg base "is_jump" ["item"] 1 (zV K tm))(Ie:zU P w K mg base "labelled" ["rows", "targets"] 3 (zV K ZO))(jD:zU P w K mg base "targets_of" ["items"] 3 (zV K qS)):zU P w K mg base "plain" ["items"] 4 (zV K qw):=
 zP.okS d Gv (by decide) eU λf cdv A outer s H E hr=>(zR (QJ (i:=1) rfl Gv.nd rfl rfl (wS (own:=["row"]) rfl) rfl (vY (yC wg hr rfl (zG (zA 0) zN))) (vD (λC s H fp pn=>(yx (i:=2) (show(xV ["items", "rows"] ["row"]).Nodup by decide +kernel) rfl (Or.inl rfl))) rfl) (λC s H fp pn=>u_) (λC s H fp pn=>(V9 (v_ (yC qC hr rfl (zG (zA 2) zN))) (YR (zA 2) YT (YU (gJ Z1 k_ zQ))) (zA 2))))
  (zZ (vO (qI Ie hr rfl (zG (zA 1) (zG (yC jD hr rfl (zG (zA 0) zN)) zN))))))
abbrev Wu:Stmt:=top 58
theorem YN:yS ["items", "before", "now", "led"] ["items"] (yB Wu):=⟨rfl,rfl,rfl,by decide +kernel,rfl,by decide +kernel,by decide +kernel⟩
theorem aZ(d:zP K mg "short" Wu ["items"])(Zo:zU P w K mg base "led_on" ["items"] 3 (zV K tt))(Iy:zU P w K mg base "without" ["items", "numbers"] 2 (zV K gm))(IX:zU P w K mg base "idle_of_one_kind" ["items"] 8 (zV K ZL))(Zs:zU P w K mg base "plain" ["items"] 4 (zV K qw)):zU P w K mg base "short" ["items"] 9 (zV K vj):=
 zP.okS d YN (by decide) eY λf cdv A outer s H E hr=>(zR (yA (i:=1) YN.nd rfl (Or.inl rfl) VA)
  (zR (yA (i:=2) YN.nd rfl (Or.inl rfl) (zA 0))
  (zR (VE ue (zy (b5 (yg hr)) aO (zJ (zA 2)) (zJ (zA 1)) (yH _))
   (zR (yA (i:=1) YN.nd rfl (Or.inl rfl) (zA 2))
    (zR (yA (i:=3) YN.nd rfl (Or.inl rfl) (xA (qI Zo hr rfl (zG (zA 1) zN))))
    (zZ (yA (i:=2) YN.nd rfl (Or.inl rfl) (yC Iy hr rfl (zG (zA 3) (zG (yC IX hr rfl (zG (zA 3) zN)) zN))))))))
  (zZ (vO (qI Zs hr rfl (zG (zA 2) zN)))))))
abbrev WV:Stmt:=top 60
theorem fN:yS ["_law_script", "_law_k"] ["_law_script", "_law_k"] (yB WV):=⟨rfl,rfl,rfl,by decide +kernel,rfl,by decide +kernel,by decide +kernel⟩
theorem A_(d:zP K mg "_law_cell_at" WV ["_law_script", "_law_k"])(yJ:mg "len" = none):zU P w K mg base "_law_cell_at" ["_law_script", "_law_k"] 1 (zV K ZQ):=
 zP.okS d fN (by decide) d_ λf cdv A outer s H E hr=>(zR (yk (zy kU qd (zJ (zA 1)) (zJ (xv wZ we rfl yJ wT (xf (zJ (zA 0)) xl))) (yH _))
   (zZ (yr (zn (zl (za hr)) zm (zA 0) (zA 1))))
   xI)
  (zZ (yr zQ)))
abbrev WX:Stmt:=top 61
theorem Gq:yS ["_law_script", "_law_k", "_law_mark_here"] ["_law_script", "_law_k"] (yB WX):=⟨rfl,rfl,rfl,by decide +kernel,rfl,by decide +kernel,by decide +kernel⟩
theorem aA(d:zP K mg "_law_mark" WX ["_law_script", "_law_k"])(yJ:mg "len" = none)(Ih:zU P w K mg base "_law_cell_at" ["_law_script", "_law_k"] 1 (zV K ZQ)):zU P w K mg base "_law_mark" ["_law_script", "_law_k"] 2 (zV K va):=
 zP.okS d Gq (by decide) e7 λf cdv A outer s H E hr=>(zR (yA (i:=2) Gq.nd rfl (Or.inl rfl) (zc wH wE (zc wH wE (zc wH wE (zc Tp Ea (yC Ih hr rfl (zG (zA 0) (zG (zA 1) zN))) zQ) (zc Tp EZ zQ (zA 1))) (zc Tp EZ zQ (xv wZ we rfl yJ wT (xf (zJ (zA 0)) xl)))) zQ))
  (zZ (yr (zc xj xi (zc Tp Ea (zc xj xi (zc a_ aL (zA 2) (zA 2)) zQ) zQ) zQ))))
abbrev Wd:Stmt:=top 62
theorem LR:yS ["_law_found"] [] (yB Wd):=⟨rfl,rfl,rfl,by decide +kernel,rfl,by decide +kernel,by decide +kernel⟩
theorem aG(d:zP K mg "_law_words" Wd []):zU P w K mg base "_law_words" [] 1 (zV K ZU):=
 zP.okS d LR (by decide) eE λf cdv A outer s H E hr=>(zR (yA (i:=0) LR.nd rfl (Or.inl rfl) (xA (wJ (zG zp (zG zp (zG zp (zG zp (zG zp (zG zp (zG zp (zG zp (zG zp (zG zp (zG zp (zG zp (zG zp zN))))))))))))) (yQ (zd (zd (zd (zd (zd (zd (zd (zd (zd (zd (zd (zd (zd yU))))))))))))) (by decide)))))
  (zR (yA (i:=0) LR.nd rfl (Or.inl rfl) (zc wH wE (zA 0) (xA (wJ (zG zp (zG zp (zG zp (zG zp (zG zp (zG zp (zG zp (zG zp zN)))))))) (yQ (zd (zd (zd (zd (zd (zd (zd (zd yU)))))))) (by decide))))))
  (zZ (yr (zc wH wE (zA 0) (xA (wJ (zG zp (zG zp (zG zp (zG zp (zG zp (zG zp (zG zp zN))))))) (yQ (zd (zd (zd (zd (zd (zd (zd yU))))))) (by decide)))))))))
abbrev Wa:Stmt:=top 63
theorem YM:yS ["_law_mark_here", "_law_names_here", "_law_many", "_law_word", "_law_one", "_law_two", "_law_rest"] ["_law_mark_here", "_law_names_here", "_law_many"] (yB Wa):=⟨rfl,rfl,rfl,by decide +kernel,rfl,by decide +kernel,by decide +kernel⟩
theorem aD(d:zP K mg "_law_row_by" Wa ["_law_mark_here", "_law_names_here", "_law_many"])(yJ:mg "len" = none)(Im:zU P w K mg base "_law_words" [] 1 (zV K ZU)):zU P w K mg base "_law_row_by" ["_law_mark_here", "_law_names_here", "_law_many"] 2 (zV K ZS):=
 zP.okS d YM (by decide) eA λf cdv A outer s H E hr=>(zR (yA (i:=3) YM.nd rfl (Or.inl rfl) (zn (zl (za hr)) zm (fV Im hr rfl) (zc xj xi (zA 0) zQ)))
  (zR (yA (i:=0) YM.nd rfl (Or.inl rfl) (zc uY uX (zA 0) zQ))
  (zR (yA (i:=4) YM.nd rfl (Or.inl rfl) (zc xj xi (zA 0) (zA 2)))
  (zR (yA (i:=5) YM.nd rfl (Or.inl rfl) (zc xj xi (zc uY uX (zA 0) zQ) (zA 2)))
  (zR (yA (i:=6) YM.nd rfl (Or.inl rfl) (zc uY uX (zA 0) zQ))
  (zR (yk (zy (vw (za hr)) vt (zJ (zA 3)) (zJ (wv (zG zp (zG zp zN)) (yQ (zd (zd yU)) (by decide)))) (by with_unfolding_all rfl))
   (zZ (yr (wv (zG (zA 3) (zG (zA 4) (zG (zn (zl (za hr)) zm (xA (wJ (zG (zc xj xi (zA 6) zQ) (zG (zc xj xi (zA 6) zQ) zN)) (yQ (zd (zd yU)) (by decide)))) (zc xj xi (zc uY uX (zA 0) zQ) zQ)) zN))) (yQ (zd (zd (zd yU))) (by decide)))))
   xI)
  (zR (yk (zy (vw (za hr)) vt (zJ (zA 3)) (zJ (wv (zG zp (zG zp zN)) (yQ (zd (zd yU)) (by decide)))) (by with_unfolding_all rfl))
   (zZ (yr (wv (zG (zA 3) (zG (zA 4) (zG (zn (zl (za hr)) zm (xA (wJ (zG (zc xj xi (zA 6) zQ) (zG (zc xj xi (zA 6) zQ) zN)) (yQ (zd (zd yU)) (by decide)))) (zc xj xi (zc uY uX (zA 0) zQ) zQ)) zN))) (yQ (zd (zd (zd yU))) (by decide)))))
   xI)
  (zR (yk (zy (vw (za hr)) vt (zJ (zA 3)) (zJ (wv (zG zp (zG zp (zG zp (zG zp zN)))) (yQ (zd (zd (zd (zd yU)))) (by decide)))) (by with_unfolding_all rfl))
   (zZ (yr (wv (zG (zA 3) (zG (zA 4) (zG (zA 5) (zG (zn (zl (za hr)) zm (xA (wJ (zG (zc xj xi (zA 6) zQ) (zG (zc xj xi (zA 6) zQ) zN)) (yQ (zd (zd yU)) (by decide)))) (zc xj xi (zc uY uX (zA 0) zQ) zQ)) zN)))) (yQ (zd (zd (zd (zd yU)))) (by decide)))))
   xI)
  (zR (yk (zy (wI (yg hr)) wG (zJ (zA 3)) (zJ zp) (yH _))
   (zZ (yr (wv (zG (zA 3) (zG (zn (zl (za hr)) zm (zA 1) (zc xj xi (zA 6) (xv wZ we rfl yJ wT (xf (zJ (zA 1)) xl)))) zN)) (yQ (zd (zd yU)) (by decide)))))
   xI)
  (zR (yk (zy (vw (za hr)) vt (zJ (zA 3)) (zJ (wv (zG zp (zG zp zN)) (yQ (zd (zd yU)) (by decide)))) (by with_unfolding_all rfl))
   (zZ (yr (wv (zG (zA 3) (zG (zn (zl (za hr)) zm (xA (wJ (zG zp (zG zp (zG zp zN))) (yQ (zd (zd (zd yU))) (by decide)))) (zc xj xi (zA 5) zQ)) (zG (zn (zl (za hr)) zm (zA 1) (zc xj xi (zA 6) (xv wZ we rfl yJ wT (xf (zJ (zA 1)) xl)))) zN))) (yQ (zd (zd (zd yU))) (by decide)))))
   xI)
  (zR (yk (zy (wI (yg hr)) wG (zJ (zA 3)) (zJ zp) (yH _))
   (zZ (yr (wv (zG (zA 3) zN) (yQ (zd yU) (by decide)))))
   xI)
  (zZ (yr (wv (zG (zA 3) (zG (zA 4) (zG (zA 5) zN))) (yQ (zd (zd (zd yU))) (by decide))))))))))))))))
abbrev WY:Stmt:=top 64
theorem YL:yS ["_law_mark_here", "_law_many", "_law_letters", "_law_size", "_law_word", "_law_spot"] ["_law_mark_here", "_law_many"] (yB WY):=⟨rfl,rfl,rfl,by decide +kernel,rfl,by decide +kernel,by decide +kernel⟩
theorem aB(d:zP K mg "_law_names" WY ["_law_mark_here", "_law_many"])(wx:mg "range" = none):zU P w K mg base "_law_names" ["_law_mark_here", "_law_many"] 1 (zV K ZR):=
 zP.okS d YL (by decide) e8 λf cdv A outer s H E hr=>(zR (yA (i:=2) YL.nd rfl (Or.inr rfl) zp)
  (zR (yA (i:=3) YL.nd rfl (Or.inl rfl) (zc xj xi (zA 0) zQ))
  (zR (yA (i:=4) YL.nd rfl (Or.inr rfl) (fe zp (zJ (xA (vH rfl (wS (own:=["_law_k"]) rfl) (gK rfl wx (zA 3)) (vD (λC s H fp pn=>(yx (i:=6) (show(xV ["_law_mark_here", "_law_many", "_law_letters", "_law_size", "_law_word", "_law_spot"] ["_law_k"]).Nodup by decide +kernel) rfl (Or.inl rfl))) rfl) (λC s H fp pn=>u_) (λC s H fp pn=>(zn (zl (za hr)) zm (zA 2) (zc xj xi (zc uY uX (zc uY uX (zA 0) zQ) (zn (zl (za hr)) zm (xA (wJ (fE (is:=[1,26,676,17576,3,5,7]) rfl) (yQ (K_ (n:=7) (by decide)) (by decide)))) (zA 6))) zQ))))))))
  (zR (yA (i:=5) YL.nd rfl (Or.inr rfl) (zc xj xi (zc uY uX (zA 0) zQ) (zc wH wE (zA 3) zQ)))
  (zR (yA (i:=4) YL.nd rfl (Or.inr rfl) (YR (zA 4) YT (YU zQ)))
  (zZ (vO (vH rfl (wS (own:=["_law_k"]) rfl) (gK rfl wx (zA 1)) (vD (λC s H fp pn=>(yx (i:=6) (show(xV ["_law_mark_here", "_law_many", "_law_letters", "_law_size", "_law_word", "_law_spot"] ["_law_k"]).Nodup by decide +kernel) rfl (Or.inl rfl))) rfl) (λC s H fp pn=>u_) (λC s H fp pn=>(zc wH wE (zc wH wE (YR (zA 4) YT (YU (zA 5))) (zn (zl (za hr)) zm (zA 2) (zc xj xi (zc wH wE (zc uY uX (zA 0) zQ) (zA 6)) zQ))) (YR (zA 4) (YU (zA 5)) YT)))))))))))
abbrev WZ:Stmt:=top 65
theorem ky:yS ["_law_script", "_law_first", "_law_most", "_law_count", "_law_names_here", "_law_many", "_law_rows_here", "_law_k", "_law_items"] ["_law_script", "_law_first", "_law_most"] (yB WZ):=⟨rfl,rfl,rfl,by decide +kernel,rfl,by decide +kernel,by decide +kernel⟩
theorem aC(d:zP K mg "_law_program_by" WZ ["_law_script", "_law_first", "_law_most"])(wx:mg "range" = none)(tO:zU P w K mg base "_law_mark" ["_law_script", "_law_k"] 2 (zV K va))(Ii:zU P w K mg base "_law_names" ["_law_mark_here", "_law_many"] 1 (zV K ZR))(Ik:zU P w K mg base "_law_row_by" ["_law_mark_here", "_law_names_here", "_law_many"] 2 (zV K ZS)):zU P w K mg base "_law_program_by" ["_law_script", "_law_first", "_law_most"] 3 (zV K gi):=
 zP.okS d ky (by decide) e9 λf cdv A outer s H E hr=>(zR (yA (i:=3) ky.nd rfl (Or.inl rfl) (zc xj xi (yC tO hr rfl (zG (zA 0) (zG (zA 1) zN))) (zc wH wE (zA 2) zQ)))
  (zR (yA (i:=4) ky.nd rfl (Or.inr rfl) (yC Ii hr rfl (zG (yC tO hr rfl (zG (zA 0) (zG (zc wH wE (zA 1) zQ) zN))) (zG (zc wH wE (zA 3) zQ) zN))))
  (zR (yA (i:=5) ky.nd rfl (Or.inr rfl) (zn (zl (za hr)) zm (xA (wJ (zG zQ (zG zQ zN)) (yQ (zd (zd yU)) (by decide)))) (zc xj xi (yC tO hr rfl (zG (zA 0) (zG (zc wH wE (zA 1) zQ) zN))) zQ)))
  (zR (QJ (i:=6) rfl ky.nd rfl rfl (wS (own:=["_law_k"]) rfl) rfl (gK rfl wx (zA 3)) (vD (λC s H fp pn=>(yx (i:=9) (show(xV ["_law_script", "_law_first", "_law_most", "_law_count", "_law_names_here", "_law_many", "_law_rows_here", "_law_k", "_law_items"] ["_law_k"]).Nodup by decide +kernel) rfl (Or.inl rfl))) rfl) (λC s H fp pn=>u_) (λC s H fp pn=>(yC Ik hr rfl (zG (yC tO hr rfl (zG (zA 0) (zG (zc wH wE (zc wH wE (zA 1) zQ) (zA 9)) zN))) (zG (zA 4) (zG (zA 5) zN))))))
  (zR (uz (i:=8) ky.nd rfl (Or.inl rfl) (wJ zN (yQ yU (by decide))))
  (zR (YV ue rfl (gK rfl wx (zc wH wE (zA 3) zQ)) (VB (yx (i:=7) ky.nd rfl (Or.inr rfl)) rfl)
   (zR (yk (ua (uZ (zy (vx (yg hr)) vv (zJ (xA (vH rfl (wS (own:=["_law_row"]) rfl) (vY (zA 6)) (vD (λC s H fp pn=>(yx (i:=9) (show(xV ["_law_script", "_law_first", "_law_most", "_law_count", "_law_names_here", "_law_many", "_law_rows_here", "_law_k", "_law_items"] ["_law_row"]).Nodup by decide +kernel) rfl (Or.inl rfl))) rfl) (λC s H fp pn=>(qf (zy (wI (yg hr)) wG (zJ (zn (zl (za hr)) zm (zA 9) (gJ Z1 k_ zQ))) (zJ (zn (zl (za hr)) zm (zA 4) (zA 7))) (yH _)))) (λC s H fp pn=>(zA 9))))) (zJ (xA (wJ zN (yQ yU (by decide))))) (yH _)) (qh (zy (wI (yg hr)) wG (zJ (zc xj xi (zc uY uX (yC tO hr rfl (zG (zA 0) (zG (zc wH wE (zA 1) zQ) zN))) zQ) zQ)) (zJ (zA 7)) (yH _)))))
     (zZ (qJ (qv 8) (wv (zG zp (zG (zn (zl (za hr)) zm (zA 4) (zA 7)) zN)) (yQ (zd (zd yU)) (by decide)))))
     xI)
    (zZ (yk (zy kU qd (zJ (zA 7)) (zJ (zA 3)) (yH _))
     (zZ (qJ (qv 8) (zn (zl (za hr)) zm (zA 6) (zA 7))))
     xI))))
  (zZ (YW 8))))))))
abbrev Wb:Stmt:=top 66
theorem fO:yS ["_law_items"] ["_law_items"] (yB Wb):=⟨rfl,rfl,rfl,by decide +kernel,rfl,by decide +kernel,by decide +kernel⟩
theorem aE(d:zP K mg "_law_rows" Wb ["_law_items"]):zU P w K mg base "_law_rows" ["_law_items"] 1 (zV K tD):=
 zP.okS d fO (by decide) eB λf cdv A outer s H E hr=>(zZ (vO (vH rfl (wS (own:=["_law_item"]) rfl) (vY (zA 0)) (vD (λC s H fp pn=>(yx (i:=1) (show(xV ["_law_items"] ["_law_item"]).Nodup by decide +kernel) rfl (Or.inl rfl))) rfl) (λC s H fp pn=>(qf (zy (vx (yg hr)) vv (zJ (zn (zl (za hr)) zm (zA 1) zQ)) (zJ zp) (yH _)))) (λC s H fp pn=>(zA 1)))))
abbrev Wc:Stmt:=top 68
theorem V3:yS ["_law_items", "_law_script", "_law_first", "_law_names_here", "_law_found", "_law_k", "_law_mark_here"] ["_law_items", "_law_script", "_law_first"] (yB Wc):=⟨rfl,rfl,rfl,by decide +kernel,rfl,by decide +kernel,by decide +kernel⟩
theorem aF(d:zP K mg "_law_varied" Wc ["_law_items", "_law_script", "_law_first"])(wx:mg "range" = none)(yJ:mg "len" = none)(tO:zU P w K mg base "_law_mark" ["_law_script", "_law_k"] 2 (zV K va)):zU P w K mg base "_law_varied" ["_law_items", "_law_script", "_law_first"] 3 (zV K ZT):=
 zP.okS d V3 (by decide) eD λf cdv A outer s H E hr=>(zR (QJ (i:=3) rfl V3.nd rfl rfl (wS (own:=["_law_item"]) rfl) rfl (vY (zA 0)) (vD (λC s H fp pn=>(yx (i:=7) (show(xV ["_law_items", "_law_script", "_law_first", "_law_names_here", "_law_found", "_law_k", "_law_mark_here"] ["_law_item"]).Nodup by decide +kernel) rfl (Or.inl rfl))) rfl) (λC s H fp pn=>(qf (zy (wI (yg hr)) wG (zJ (zn (zl (za hr)) zm (zA 7) zQ)) (zJ zp) (yH _)))) (λC s H fp pn=>(zn (zl (za hr)) zm (zA 7) zQ)))
  (zR (uz (i:=4) V3.nd rfl (Or.inl rfl) (wJ zN (yQ yU (by decide))))
  (zR (YV ue rfl (gK rfl wx (xv wZ we rfl yJ wT (xf (zJ (zA 0)) xl))) (VB (yx (i:=5) V3.nd rfl (Or.inl rfl)) rfl)
   (zR (yA (i:=6) V3.nd rfl (Or.inl rfl) (yC tO hr rfl (zG (zA 1) (zG (zc wH wE (zA 2) (zA 5)) zN))))
    (zZ (yk (ua (uZ (zy (wI (yg hr)) wG (zJ (zn (zl (za hr)) zm (zn (zl (za hr)) zm (zA 0) (zA 5)) zQ)) (zJ zp) (yH _)) (uZ (zy kU qd (zJ (zc xj xi (zA 6) zQ)) (zJ zQ) (yH _)) (qh (zy (wI (yg hr)) wG (zJ (zA 3)) (zJ (xA (wJ zN (yQ yU (by decide))))) (yH _))))))
     (zZ (qJ (qv 4) (zn (zl (za hr)) zm (zA 0) (zA 5))))
     (zZ (yk (zy (wI (yg hr)) wG (zJ (zc xj xi (zA 6) zQ)) (zJ zQ) (yH _))
       (zZ (qJ (qv 4) (wv (zG zp (zG (zn (zl (za hr)) zm (zA 3) (zc xj xi (zc uY uX (zA 6) zQ) (xv wZ we rfl yJ wT (xf (zJ (zA 3)) xl)))) zN)) (yQ (zd (zd yU)) (by decide)))))
       (zZ (qJ (qv 4) (wv (zG zp (zG (zc xj xi (zc uY uX (zA 6) zQ) zQ) (zG (zc xj xi (zc uY uX (zA 6) zQ) zQ) zN))) (yQ (zd (zd (zd yU))) (by decide)))))))))))
  (zZ (YW 4)))))
abbrev ku:Stmt:=top 69
theorem gH:yS ["_law_script", "_law_items", "_law_handed", "_law_found", "_law_kept", "_law_held", "_law_more"] ["_law_script"] (yB ku):=⟨rfl,rfl,rfl,by decide +kernel,rfl,by decide +kernel,by decide +kernel⟩
theorem Az{f:Addr}{fd:FuncData}(d:jd K "law" "law" ku f fd)(qj:mg "list" = none)(yJ:mg "len" = none)(Ij:zU P w K mg base "_law_program_by" ["_law_script", "_law_first", "_law_most"] 3 (zV K gi))(tO:zU P w K mg base "_law_mark" ["_law_script", "_law_k"] 2 (zV K va))(Il:zU P w K mg base "_law_varied" ["_law_items", "_law_script", "_law_first"] 3 (zV K ZT))(Zu:zU P w K mg base "short" ["items"] 9 (zV K vj))(TC:zU P w K mg base "_law_rows" ["_law_items"] 1 (zV K tD))(Id:zU P w K mg base "is_program" ["thing"] 4 (zV K jc))(IW:zU P w K mg base "idle" ["items"] 8 (zV K p_))(Zo:zU P w K mg base "led_on" ["items"] 3 (zV K tt))(Zs:zU P w K mg base "plain" ["items"] 4 (zV K qw)):uq P w K mg base ui 10 f fd ["_law_script"] (VD K):=
 Se d gH (by decide) dy λcdv A outer s H E hr=>(zR (yA (i:=1) gH.nd rfl (Or.inl rfl) (xA (qI Ij hr rfl (zG (zA 0) (zG zQ (zG zQ zN))))))
  (zR (yk (zy (wI (yg hr)) wG (zJ (zc xj xi (yC tO hr rfl (zG (zA 0) (zG zQ zN))) zQ)) (zJ zQ) (yH _))
   (zZ (yA (i:=1) gH.nd rfl (Or.inl rfl) (yC Il hr rfl (zG (zA 1) (zG (zA 0) (zG zQ zN))))))
   xI)
  (zR (uz (i:=2) gH.nd rfl (Or.inl rfl) (Lb rfl qj (zG (zA 1) zN)))
  (zR (uz (i:=3) gH.nd rfl (Or.inl rfl) (La (qI Zu hr rfl (zG (zA 2) zN))))
  (zR (yk (HL (ua (uZ (zy b6 aR (zJ (yC Id hr rfl (zG (zA 3) zN))) (zJ uI) (yH _)) (uZ (zy (vx (yg hr)) vv (zJ (zA 2)) (zJ (zA 1)) (yH _)) (qh (zy Oh qd (zJ (xv wZ we rfl yJ wT (xf (zJ (yC TC hr rfl (zG (zA 3) zN))) xl))) (zJ (xv wZ we rfl yJ wT (xf (zJ (yC TC hr rfl (zG (zA 1) zN))) xl))) (yH _)))))))
   (zZ (yr uI))
   xI)
  (zR (yA (i:=4) gH.nd rfl (Or.inl rfl) (xA (La (Lb rfl qj (zG (zA 3) zN)))))
  (zR (yA (i:=5) gH.nd rfl (Or.inl rfl) (xA (La (Lb rfl qj (zG (zA 3) zN)))))
  (zR (yk (HL (ua (uZ (zy (vx (yg hr)) vv (zJ (xA (qI Zs hr rfl (zG (zA 3) zN)))) (zJ (zA 3)) (yH _)) (uZ (zy (vx (yg hr)) vv (zJ (xA (qI Zo hr rfl (zG (zA 3) zN)))) (zJ (zA 3)) (yH _)) (uZ (zy (vx (yg hr)) vv (zJ (xA (qI IW hr rfl (zG (zA 3) zN)))) (zJ (xA (wJ zN (yQ yU (by decide))))) (yH _)) (qh (zy (vx (yg hr)) vv (zJ (xA (qI Zu hr rfl (zG (zA 3) zN)))) (zJ (zA 3)) (yH _))))))))
   (zZ (yr uI))
   xI)
  (zR (uz (i:=6) gH.nd rfl (Or.inl rfl) (qI Zu hr rfl (zG (zA 4) zN)))
  (zR (qJ (qv 6) (wv (zG zp zN) (yQ (zd yU) (by decide))))
  (gM 6 (zR (qJ (qv 3) (wv (zG zp zN) (yQ (zd yU) (by decide))))
  (gM 3 (zR (yk (ua (uZ (zy (vx (yg hr)) vv (YK 2) (zJ (zA 1)) (yH _)) (qh (zy (vx (yg hr)) vv (zJ (zA 4)) (zJ (zA 5)) (yH _)))))
   (zZ (yr uI))
   xI)
  (zR (lV (qv 2))
  (gM 2 (zZ (yr (tV (wI (yg hr)) wG (zJ (xA (qI Zu hr rfl (zG (zA 1) zN)))) (zJ (zA 5)) (yH _))))))))))))))))))))
end
theorem all_mk{l:W.OpenLaw}{w:World}{K:W.Frag}{h:Heap}{mg:Str->Option Value}{fa:Addr}(X:K.In h)(G:h.Ns mainGlobals mg)(hfa:mg "law" = some (.ref fa))
  {f0:Addr}{od0 an0:Option Addr}{sl0:Array (Option Value)}{oc0 kV0 dc0 pm0 cd0 ct0:Value}
  {f1:Addr}{od1 an1:Option Addr}{sl1:Array (Option Value)}{oc1 kV1 dc1 pm1 cd1 ct1:Value}
  {f2:Addr}{od2 an2:Option Addr}{sl2:Array (Option Value)}{oc2 kV2 dc2 pm2 cd2 ct2:Value}
  {f3:Addr}{od3 an3:Option Addr}{sl3:Array (Option Value)}{oc3 kV3 dc3 pm3 cd3 ct3:Value}
  {f4:Addr}{od4 an4:Option Addr}{sl4:Array (Option Value)}{oc4 kV4 dc4 pm4 cd4 ct4:Value}
  {f5:Addr}{od5 an5:Option Addr}{sl5:Array (Option Value)}{oc5 kV5 dc5 pm5 cd5 ct5:Value}
  {f6:Addr}{od6 an6:Option Addr}{sl6:Array (Option Value)}{oc6 kV6 dc6 pm6 cd6 ct6:Value}
  {f7:Addr}{od7 an7:Option Addr}{sl7:Array (Option Value)}{oc7 kV7 dc7 pm7 cd7 ct7:Value}
  {f8:Addr}{od8 an8:Option Addr}{sl8:Array (Option Value)}{oc8 kV8 dc8 pm8 cd8 ct8:Value}
  {f9:Addr}{od9 an9:Option Addr}{sl9:Array (Option Value)}{oc9 kV9 dc9 pm9 cd9 ct9:Value}
  {f10:Addr}{od10 an10:Option Addr}{sl10:Array (Option Value)}{oc10 kV10 dc10 pm10 cd10 ct10:Value}
  {f11:Addr}{od11 an11:Option Addr}{sl11:Array (Option Value)}{oc11 kV11 dc11 pm11 cd11 ct11:Value}
  {f12:Addr}{od12 an12:Option Addr}{sl12:Array (Option Value)}{oc12 kV12 dc12 pm12 cd12 ct12:Value}
  {f13:Addr}{od13 an13:Option Addr}{sl13:Array (Option Value)}{oc13 kV13 dc13 pm13 cd13 ct13:Value}
  {f14:Addr}{od14 an14:Option Addr}{sl14:Array (Option Value)}{oc14 kV14 dc14 pm14 cd14 ct14:Value}
  {f15:Addr}{od15 an15:Option Addr}{sl15:Array (Option Value)}{oc15 kV15 dc15 pm15 cd15 ct15:Value}
  {f16:Addr}{od16 an16:Option Addr}{sl16:Array (Option Value)}{oc16 kV16 dc16 pm16 cd16 ct16:Value}
  {f17:Addr}{od17 an17:Option Addr}{sl17:Array (Option Value)}{oc17 kV17 dc17 pm17 cd17 ct17:Value}
  {f18:Addr}{od18 an18:Option Addr}{sl18:Array (Option Value)}{oc18 kV18 dc18 pm18 cd18 ct18:Value}
  {f19:Addr}{od19 an19:Option Addr}{sl19:Array (Option Value)}{oc19 kV19 dc19 pm19 cd19 ct19:Value}
  {f20:Addr}{od20 an20:Option Addr}{sl20:Array (Option Value)}{oc20 kV20 dc20 pm20 cd20 ct20:Value}
  {f21:Addr}{od21 an21:Option Addr}{sl21:Array (Option Value)}{oc21 kV21 dc21 pm21 cd21 ct21:Value}
  {f22:Addr}{od22 an22:Option Addr}{sl22:Array (Option Value)}{oc22 kV22 dc22 pm22 cd22 ct22:Value}
  {f23:Addr}{od23 an23:Option Addr}{sl23:Array (Option Value)}{oc23 kV23 dc23 pm23 cd23 ct23:Value}
  {f24:Addr}{od24 an24:Option Addr}{sl24:Array (Option Value)}{oc24 kV24 dc24 pm24 cd24 ct24:Value}
  {f25:Addr}{od25 an25:Option Addr}{sl25:Array (Option Value)}{oc25 kV25 dc25 pm25 cd25 ct25:Value}
  {f26:Addr}{od26 an26:Option Addr}{sl26:Array (Option Value)}{oc26 kV26 dc26 pm26 cd26 ct26:Value}
  {f27:Addr}{od27 an27:Option Addr}{sl27:Array (Option Value)}{oc27 kV27 dc27 pm27 cd27 ct27:Value}
  {f28:Addr}{od28 an28:Option Addr}{sl28:Array (Option Value)}{oc28 kV28 dc28 pm28 cd28 ct28:Value}
  {f29:Addr}{od29 an29:Option Addr}{sl29:Array (Option Value)}{oc29 kV29 dc29 pm29 cd29 ct29:Value}
  {f30:Addr}{od30 an30:Option Addr}{sl30:Array (Option Value)}{oc30 kV30 dc30 pm30 cd30 ct30:Value}
  {f31:Addr}{od31 an31:Option Addr}{sl31:Array (Option Value)}{oc31 kV31 dc31 pm31 cd31 ct31:Value}
  {f32:Addr}{od32 an32:Option Addr}{sl32:Array (Option Value)}{oc32 kV32 dc32 pm32 cd32 ct32:Value}
  {f33:Addr}{od33 an33:Option Addr}{sl33:Array (Option Value)}{oc33 kV33 dc33 pm33 cd33 ct33:Value}
  {f34:Addr}{od34 an34:Option Addr}{sl34:Array (Option Value)}{oc34 kV34 dc34 pm34 cd34 ct34:Value}
  {f35:Addr}{od35 an35:Option Addr}{sl35:Array (Option Value)}{oc35 kV35 dc35 pm35 cd35 ct35:Value}
  {f36:Addr}{od36 an36:Option Addr}{sl36:Array (Option Value)}{oc36 kV36 dc36 pm36 cd36 ct36:Value}
  {f37:Addr}{od37 an37:Option Addr}{sl37:Array (Option Value)}{oc37 kV37 dc37 pm37 cd37 ct37:Value}
  {f38:Addr}{od38 an38:Option Addr}{sl38:Array (Option Value)}{oc38 kV38 dc38 pm38 cd38 ct38:Value}
  {f39:Addr}{od39 an39:Option Addr}{sl39:Array (Option Value)}{oc39 kV39 dc39 pm39 cd39 ct39:Value}
  {f40:Addr}{od40 an40:Option Addr}{sl40:Array (Option Value)}{oc40 kV40 dc40 pm40 cd40 ct40:Value}
  {f41:Addr}{od41 an41:Option Addr}{sl41:Array (Option Value)}{oc41 kV41 dc41 pm41 cd41 ct41:Value}
  {f42:Addr}{od42 an42:Option Addr}{sl42:Array (Option Value)}{oc42 kV42 dc42 pm42 cd42 ct42:Value}
  {f43:Addr}{od43 an43:Option Addr}{sl43:Array (Option Value)}{oc43 kV43 dc43 pm43 cd43 ct43:Value}
  (a0:W.nsIn K mainGlobals "is_label" = some (some (.ref f0)))
  (l0:K.lookup f0=yo "is_label" WO oc0 od0 sl0 kV0 dc0 pm0 an0 cd0 ct0)
  (c0:W.codeIn K cd0 "is_label" = true)(k0:W.keepIn K (.ref f0)=true)
  (a1:W.nsIn K mainGlobals "is_jump" = some (some (.ref f1)))
  (l1:K.lookup f1=yo "is_jump" WN oc1 od1 sl1 kV1 dc1 pm1 an1 cd1 ct1)
  (c1:W.codeIn K cd1 "is_jump" = true)(k1:W.keepIn K (.ref f1)=true)
  (a2:W.nsIn K mainGlobals "rows_of" = some (some (.ref f2)))
  (l2:K.lookup f2=yo "rows_of" Wt oc2 od2 sl2 kV2 dc2 pm2 an2 cd2 ct2)
  (c2:W.codeIn K cd2 "rows_of" = true)(k2:W.keepIn K (.ref f2)=true)
  (a3:W.nsIn K mainGlobals "label_places" = some (some (.ref f3)))
  (l3:K.lookup f3=yo "label_places" WS oc3 od3 sl3 kV3 dc3 pm3 an3 cd3 ct3)
  (c3:W.codeIn K cd3 "label_places" = true)(k3:W.keepIn K (.ref f3)=true)
  (a4:W.nsIn K mainGlobals "is_number" = some (some (.ref f4)))
  (l4:K.lookup f4=yo "is_number" WQ oc4 od4 sl4 kV4 dc4 pm4 an4 cd4 ct4)
  (c4:W.codeIn K cd4 "is_number" = true)(k4:W.keepIn K (.ref f4)=true)
  (a5:W.nsIn K mainGlobals "is_name" = some (some (.ref f5)))
  (l5:K.lookup f5=yo "is_name" WP oc5 od5 sl5 kV5 dc5 pm5 an5 cd5 ct5)
  (c5:W.codeIn K cd5 "is_name" = true)(k5:W.keepIn K (.ref f5)=true)
  (a6:W.nsIn K mainGlobals "fits" = some (some (.ref f6)))
  (l6:K.lookup f6=yo "fits" WJ oc6 od6 sl6 kV6 dc6 pm6 an6 cd6 ct6)
  (c6:W.codeIn K cd6 "fits" = true)(k6:W.keepIn K (.ref f6)=true)
  (a7:W.nsIn K mainGlobals "is_item" = some (some (.ref f7)))
  (l7:K.lookup f7=yo "is_item" WM oc7 od7 sl7 kV7 dc7 pm7 an7 cd7 ct7)
  (c7:W.codeIn K cd7 "is_item" = true)(k7:W.keepIn K (.ref f7)=true)
  (a8:W.nsIn K mainGlobals "is_program" = some (some (.ref f8)))
  (l8:K.lookup f8=yo "is_program" WR oc8 od8 sl8 kV8 dc8 pm8 an8 cd8 ct8)
  (c8:W.codeIn K cd8 "is_program" = true)(k8:W.keepIn K (.ref f8)=true)
  (a9:W.nsIn K mainGlobals "targets_of" = some (some (.ref f9)))
  (l9:K.lookup f9=yo "targets_of" Wv oc9 od9 sl9 kV9 dc9 pm9 an9 cd9 ct9)
  (c9:W.codeIn K cd9 "targets_of" = true)(k9:W.keepIn K (.ref f9)=true)
  (a10:W.nsIn K mainGlobals "mark_bit" = some (some (.ref f10)))
  (l10:K.lookup f10=yo "mark_bit" Wh oc10 od10 sl10 kV10 dc10 pm10 an10 cd10 ct10)
  (c10:W.codeIn K cd10 "mark_bit" = true)(k10:W.keepIn K (.ref f10)=true)
  (a11:W.nsIn K mainGlobals "moves_by_nought" = some (some (.ref f11)))
  (l11:K.lookup f11=yo "moves_by_nought" Wi oc11 od11 sl11 kV11 dc11 pm11 an11 cd11 ct11)
  (c11:W.codeIn K cd11 "moves_by_nought" = true)(k11:W.keepIn K (.ref f11)=true)
  (a12:W.nsIn K mainGlobals "used" = some (some (.ref f12)))
  (l12:K.lookup f12=yo "used" Wx oc12 od12 sl12 kV12 dc12 pm12 an12 cd12 ct12)
  (c12:W.codeIn K cd12 "used" = true)(k12:W.keepIn K (.ref f12)=true)
  (a13:W.nsIn K mainGlobals "put" = some (some (.ref f13)))
  (l13:K.lookup f13=yo "put" Wr oc13 od13 sl13 kV13 dc13 pm13 an13 cd13 ct13)
  (c13:W.codeIn K cd13 "put" = true)(k13:W.keepIn K (.ref f13)=true)
  (a14:W.nsIn K mainGlobals "ways_from" = some (some (.ref f14)))
  (l14:K.lookup f14=yo "ways_from" Wy oc14 od14 sl14 kV14 dc14 pm14 an14 cd14 ct14)
  (c14:W.codeIn K cd14 "ways_from" = true)(k14:W.keepIn K (.ref f14)=true)
  (a15:W.nsIn K mainGlobals "ways_of" = some (some (.ref f15)))
  (l15:K.lookup f15=yo "ways_of" Wz oc15 od15 sl15 kV15 dc15 pm15 an15 cd15 ct15)
  (c15:W.codeIn K cd15 "ways_of" = true)(k15:W.keepIn K (.ref f15)=true)
  (a16:W.nsIn K mainGlobals "needed_at" = some (some (.ref f16)))
  (l16:K.lookup f16=yo "needed_at" Wm oc16 od16 sl16 kV16 dc16 pm16 an16 cd16 ct16)
  (c16:W.codeIn K cd16 "needed_at" = true)(k16:W.keepIn K (.ref f16)=true)
  (a17:W.nsIn K mainGlobals "comers_of" = some (some (.ref f17)))
  (l17:K.lookup f17=yo "comers_of" WG oc17 od17 sl17 kV17 dc17 pm17 an17 cd17 ct17)
  (c17:W.codeIn K cd17 "comers_of" = true)(k17:W.keepIn K (.ref f17)=true)
  (a18:W.nsIn K mainGlobals "reached" = some (some (.ref f18)))
  (l18:K.lookup f18=yo "reached" Ws oc18 od18 sl18 kV18 dc18 pm18 an18 cd18 ct18)
  (c18:W.codeIn K cd18 "reached" = true)(k18:W.keepIn K (.ref f18)=true)
  (a19:W.nsIn K mainGlobals "needs" = some (some (.ref f19)))
  (l19:K.lookup f19=yo "needs" Wn oc19 od19 sl19 kV19 dc19 pm19 an19 cd19 ct19)
  (c19:W.codeIn K cd19 "needs" = true)(k19:W.keepIn K (.ref f19)=true)
  (a20:W.nsIn K mainGlobals "not_reached" = some (some (.ref f20)))
  (l20:K.lookup f20=yo "not_reached" Wp oc20 od20 sl20 kV20 dc20 pm20 an20 cd20 ct20)
  (c20:W.codeIn K cd20 "not_reached" = true)(k20:W.keepIn K (.ref f20)=true)
  (a21:W.nsIn K mainGlobals "to_the_next_row" = some (some (.ref f21)))
  (l21:K.lookup f21=yo "to_the_next_row" Ww oc21 od21 sl21 kV21 dc21 pm21 an21 cd21 ct21)
  (c21:W.codeIn K cd21 "to_the_next_row" = true)(k21:W.keepIn K (.ref f21)=true)
  (a22:W.nsIn K mainGlobals "copied_to_itself" = some (some (.ref f22)))
  (l22:K.lookup f22=yo "copied_to_itself" WH oc22 od22 sl22 kV22 dc22 pm22 an22 cd22 ct22)
  (c22:W.codeIn K cd22 "copied_to_itself" = true)(k22:W.keepIn K (.ref f22)=true)
  (a23:W.nsIn K mainGlobals "not_needed" = some (some (.ref f23)))
  (l23:K.lookup f23=yo "not_needed" Wo oc23 od23 sl23 kV23 dc23 pm23 an23 cd23 ct23)
  (c23:W.codeIn K cd23 "not_needed" = true)(k23:W.keepIn K (.ref f23)=true)
  (a24:W.nsIn K mainGlobals "idle" = some (some (.ref f24)))
  (l24:K.lookup f24=yo "idle" WK oc24 od24 sl24 kV24 dc24 pm24 an24 cd24 ct24)
  (c24:W.codeIn K cd24 "idle" = true)(k24:W.keepIn K (.ref f24)=true)
  (a25:W.nsIn K mainGlobals "idle_of_one_kind" = some (some (.ref f25)))
  (l25:K.lookup f25=yo "idle_of_one_kind" WL oc25 od25 sl25 kV25 dc25 pm25 an25 cd25 ct25)
  (c25:W.codeIn K cd25 "idle_of_one_kind" = true)(k25:W.keepIn K (.ref f25)=true)
  (a26:W.nsIn K mainGlobals "without" = some (some (.ref f26)))
  (l26:K.lookup f26=yo "without" W_ oc26 od26 sl26 kV26 dc26 pm26 an26 cd26 ct26)
  (c26:W.codeIn K cd26 "without" = true)(k26:W.keepIn K (.ref f26)=true)
  (a27:W.nsIn K mainGlobals "leads_on" = some (some (.ref f27)))
  (l27:K.lookup f27=yo "leads_on" We oc27 od27 sl27 kV27 dc27 pm27 an27 cd27 ct27)
  (c27:W.codeIn K cd27 "leads_on" = true)(k27:W.keepIn K (.ref f27)=true)
  (a28:W.nsIn K mainGlobals "last_name" = some (some (.ref f28)))
  (l28:K.lookup f28=yo "last_name" WU oc28 od28 sl28 kV28 dc28 pm28 an28 cd28 ct28)
  (c28:W.codeIn K cd28 "last_name" = true)(k28:W.keepIn K (.ref f28)=true)
  (a29:W.nsIn K mainGlobals "led_on" = some (some (.ref f29)))
  (l29:K.lookup f29=yo "led_on" Wg oc29 od29 sl29 kV29 dc29 pm29 an29 cd29 ct29)
  (c29:W.codeIn K cd29 "led_on" = true)(k29:W.keepIn K (.ref f29)=true)
  (a30:W.nsIn K mainGlobals "name_of" = some (some (.ref f30)))
  (l30:K.lookup f30=yo "name_of" Wj oc30 od30 sl30 kV30 dc30 pm30 an30 cd30 ct30)
  (c30:W.codeIn K cd30 "name_of" = true)(k30:W.keepIn K (.ref f30)=true)
  (a31:W.nsIn K mainGlobals "names_of_places" = some (some (.ref f31)))
  (l31:K.lookup f31=yo "names_of_places" Wl oc31 od31 sl31 kV31 dc31 pm31 an31 cd31 ct31)
  (c31:W.codeIn K cd31 "names_of_places" = true)(k31:W.keepIn K (.ref f31)=true)
  (a32:W.nsIn K mainGlobals "labelled" = some (some (.ref f32)))
  (l32:K.lookup f32=yo "labelled" WT oc32 od32 sl32 kV32 dc32 pm32 an32 cd32 ct32)
  (c32:W.codeIn K cd32 "labelled" = true)(k32:W.keepIn K (.ref f32)=true)
  (a33:W.nsIn K mainGlobals "plain" = some (some (.ref f33)))
  (l33:K.lookup f33=yo "plain" Wq oc33 od33 sl33 kV33 dc33 pm33 an33 cd33 ct33)
  (c33:W.codeIn K cd33 "plain" = true)(k33:W.keepIn K (.ref f33)=true)
  (a34:W.nsIn K mainGlobals "short" = some (some (.ref f34)))
  (l34:K.lookup f34=yo "short" Wu oc34 od34 sl34 kV34 dc34 pm34 an34 cd34 ct34)
  (c34:W.codeIn K cd34 "short" = true)(k34:W.keepIn K (.ref f34)=true)
  (a35:W.nsIn K mainGlobals "_law_cell_at" = some (some (.ref f35)))
  (l35:K.lookup f35=yo "_law_cell_at" WV oc35 od35 sl35 kV35 dc35 pm35 an35 cd35 ct35)
  (c35:W.codeIn K cd35 "_law_cell_at" = true)(k35:W.keepIn K (.ref f35)=true)
  (a36:W.nsIn K mainGlobals "_law_mark" = some (some (.ref f36)))
  (l36:K.lookup f36=yo "_law_mark" WX oc36 od36 sl36 kV36 dc36 pm36 an36 cd36 ct36)
  (c36:W.codeIn K cd36 "_law_mark" = true)(k36:W.keepIn K (.ref f36)=true)
  (a37:W.nsIn K mainGlobals "_law_words" = some (some (.ref f37)))
  (l37:K.lookup f37=yo "_law_words" Wd oc37 od37 sl37 kV37 dc37 pm37 an37 cd37 ct37)
  (c37:W.codeIn K cd37 "_law_words" = true)(k37:W.keepIn K (.ref f37)=true)
  (a38:W.nsIn K mainGlobals "_law_row_by" = some (some (.ref f38)))
  (l38:K.lookup f38=yo "_law_row_by" Wa oc38 od38 sl38 kV38 dc38 pm38 an38 cd38 ct38)
  (c38:W.codeIn K cd38 "_law_row_by" = true)(k38:W.keepIn K (.ref f38)=true)
  (a39:W.nsIn K mainGlobals "_law_names" = some (some (.ref f39)))
  (l39:K.lookup f39=yo "_law_names" WY oc39 od39 sl39 kV39 dc39 pm39 an39 cd39 ct39)
  (c39:W.codeIn K cd39 "_law_names" = true)(k39:W.keepIn K (.ref f39)=true)
  (a40:W.nsIn K mainGlobals "_law_program_by" = some (some (.ref f40)))
  (l40:K.lookup f40=yo "_law_program_by" WZ oc40 od40 sl40 kV40 dc40 pm40 an40 cd40 ct40)
  (c40:W.codeIn K cd40 "_law_program_by" = true)(k40:W.keepIn K (.ref f40)=true)
  (a41:W.nsIn K mainGlobals "_law_rows" = some (some (.ref f41)))
  (l41:K.lookup f41=yo "_law_rows" Wb oc41 od41 sl41 kV41 dc41 pm41 an41 cd41 ct41)
  (c41:W.codeIn K cd41 "_law_rows" = true)(k41:W.keepIn K (.ref f41)=true)
  (a42:W.nsIn K mainGlobals "_law_varied" = some (some (.ref f42)))
  (l42:K.lookup f42=yo "_law_varied" Wc oc42 od42 sl42 kV42 dc42 pm42 an42 cd42 ct42)
  (c42:W.codeIn K cd42 "_law_varied" = true)(k42:W.keepIn K (.ref f42)=true)
  (a43:W.nsIn K mainGlobals "law" = some (some (.ref f43)))
  (l43:K.lookup f43=yo "law" ku oc43 od43 sl43 kV43 dc43 pm43 an43 cd43 ct43)
  (c43:W.codeIn K cd43 "law" = true)(k43:W.keepIn K (.ref f43)=true)
  (EM:W.nsIn K mainGlobals "isinstance" = some none)
  (EL:W.nsIn K mainGlobals "int" = some none)
  (EI:W.nsIn K mainGlobals "bool" = some none)
  (ET:W.nsIn K mainGlobals "str" = some none)
  (EN:W.nsIn K mainGlobals "len" = some none)
  (EH:W.nsIn K mainGlobals "all" = some none)
  (EU:W.nsIn K mainGlobals "tuple" = some none)
  (EV:W.nsIn K mainGlobals "zip" = some none)
  (EO:W.nsIn K mainGlobals "list" = some none)
  (ER:W.nsIn K mainGlobals "set" = some none)
  (ES:W.nsIn K mainGlobals "sorted" = some none)
  (EK:W.nsIn K mainGlobals "enumerate" = some none)
  (EQ:W.nsIn K mainGlobals "range" = some none)
  (EJ:W.nsIn K mainGlobals "dict" = some none)
  {pW:Addr}{A7:Nat}{ii:Array (Option Value)}{ny oK oT:Tok}(CB:W.nsIn K mainGlobals "JUMPS" = some (some (.ref pW)))
  (OT:K.lookup pW=some ⟨.type "tuple",none,.seq #[.str "jump" ny,.str "when" oK,.str "unless" oT] A7,ii⟩)
  {mZ:Tok}(CJ:W.nsIn K mainGlobals "NAME_LONGEST" = some (some (.int 8 mZ)))
  {mX:Tok}(CC:W.nsIn K mainGlobals "LETTERS" = some (some (.str "abcdefghijklmnopqrstuvwxyz" mX)))
  {tj:Addr}{AC:Nat}{iq:Array (Option Value)}{o6 oP oW:Tok}(CH:W.nsIn K mainGlobals "MARKS" = some (some (.ref tj)))
  (OX:K.lookup tj=some ⟨.type "tuple",none,.seq #[.str "carry" o6,.str "nought" oP,.str "sign" oW] AC,iq⟩)
  {jZ:Addr}{AD:Nat}(CK:W.nsIn K mainGlobals "NUMBER_WIDTHS" = some (some (.ref jZ)))
  {mf:Tok}
  {nX:Tok}
  {my:Tok}
  {nY:Tok}
  {n8:Tok}
  {nZ:Tok}
  {nB:Tok}
  {nc:Tok}
  {nE:Tok}
  {ng:Tok}
  {nH:Tok}
  {nq:Tok}
  {nJ:Tok}
  {nr:Tok}
  {nL:Tok}
  {nu:Tok}
  (Ce:K.lookup jZ=some { cls:=.type "dict",data:=.dict #[⟨PyData.keyHash w.params "set",.str "set" mf,.int 16 nX⟩,⟨PyData.keyHash w.params "high",.str "high" my,.int 16 nY⟩,⟨PyData.keyHash w.params "left",.str "left" n8,.int 5 nZ⟩,⟨PyData.keyHash w.params "right",.str "right" nB,.int 5 nc⟩,⟨PyData.keyHash w.params "load",.str "load" nE,.int 8 ng⟩,⟨PyData.keyHash w.params "store",.str "store" nH,.int 8 nq⟩,⟨PyData.keyHash w.params "loadw",.str "loadw" nJ,.int 8 nr⟩,⟨PyData.keyHash w.params "storew",.str "storew" nL,.int 8 nu⟩] AD })(Ch:(jZ==sysModules)=false)
  {ja:Addr}{AE:Nat}(CL:W.nsIn K mainGlobals "PLACES" = some (some (.ref ja)))
  {mh:Tok}
  {Ve:Addr}{d0_PLACES:Option Addr}{n0_PLACES:Nat}{iD:Array (Option Value)}
  {sE sF:Tok}
  {mz:Tok}
  {Vq:Addr}{d1_PLACES:Option Addr}{n1_PLACES:Nat}{iP:Array (Option Value)}
  {so su:Tok}
  {n9:Tok}
  {Vu:Addr}{d2_PLACES:Option Addr}{n2_PLACES:Nat}{iT:Array (Option Value)}
  {sy z00:Tok}
  {nC:Tok}
  {Vw:Addr}{d3_PLACES:Option Addr}{n3_PLACES:Nat}{iV:Array (Option Value)}
  {z02 z04:Tok}
  {nF:Tok}
  {Vy:Addr}{d4_PLACES:Option Addr}{n4_PLACES:Nat}{iX:Array (Option Value)}
  {z06 z08:Tok}
  (Cf:K.lookup ja=some { cls:=.type "dict",data:=.dict #[⟨PyData.keyHash w.params "kind",.str "kind" mh,.ref Ve⟩,⟨PyData.keyHash w.params "d",.str "d" mz,.ref Vq⟩,⟨PyData.keyHash w.params "s",.str "s" n9,.ref Vu⟩,⟨PyData.keyHash w.params "mark",.str "mark" nC,.ref Vw⟩,⟨PyData.keyHash w.params "distance",.str "distance" nF,.ref Vy⟩] AE })(Ci:(ja==sysModules)=false)
  (Cl:K.lookup Ve=some ⟨.type "tuple",d0_PLACES,.seq #[.int 27 sE,.int 5 sF] n0_PLACES,iD⟩)
  (Cy:K.lookup Vq=some ⟨.type "tuple",d1_PLACES,.seq #[.int 24 so,.int 3 su] n1_PLACES,iP⟩)
  (E4:K.lookup Vu=some ⟨.type "tuple",d2_PLACES,.seq #[.int 21 sy,.int 3 z00] n2_PLACES,iT⟩)
  (E6:K.lookup Vw=some ⟨.type "tuple",d3_PLACES,.seq #[.int 24 z02,.int 2 z04] n3_PLACES,iV⟩)
  (E8:K.lookup Vy=some ⟨.type "tuple",d4_PLACES,.seq #[.int 0 z06,.int 5 z08] n4_PLACES,iX⟩)
  {jY:Addr}{A5:Nat}(C9:W.nsIn K mainGlobals "FIELDS" = some (some (.ref jY)))
  {me:Tok}
  {Vd:Addr}{d0_FIELDS:Option Addr}{n0_FIELDS:Nat}{iC:Array (Option Value)}
  {sD:Tok}
  {mx:Tok}
  {Vp:Addr}{d1_FIELDS:Option Addr}{n1_FIELDS:Nat}{iO:Array (Option Value)}
  {sn sr:Tok}
  {n5:Tok}
  {Vt:Addr}{d2_FIELDS:Option Addr}{n2_FIELDS:Nat}{iS:Array (Option Value)}
  {sx s_:Tok}
  {nA:Tok}
  {Vv:Addr}{d3_FIELDS:Option Addr}{n3_FIELDS:Nat}{iU:Array (Option Value)}
  {z01 z03:Tok}
  {nD:Tok}
  {Vx:Addr}{d4_FIELDS:Option Addr}{n4_FIELDS:Nat}{iW:Array (Option Value)}
  {z05 z07:Tok}
  {nG:Tok}
  {Vz:Addr}{d5_FIELDS:Option Addr}{n5_FIELDS:Nat}{iY:Array (Option Value)}
  {z09 z0a:Tok}
  {nI:Tok}
  {V_:Addr}{d6_FIELDS:Option Addr}{n6_FIELDS:Nat}{iZ:Array (Option Value)}
  {z0b z0c:Tok}
  {nK:Tok}
  {U0:Addr}{d7_FIELDS:Option Addr}{n7_FIELDS:Nat}{ia:Array (Option Value)}
  {z0d z0e:Tok}
  {nM:Tok}
  {U1:Addr}{d8_FIELDS:Option Addr}{n8_FIELDS:Nat}{ib:Array (Option Value)}
  {z0f z0g:Tok}
  {nN:Tok}
  {U2:Addr}{d9_FIELDS:Option Addr}{n9_FIELDS:Nat}{ic:Array (Option Value)}
  {z0h z0i:Tok}
  {mi:Tok}
  {Vf:Addr}{d10_FIELDS:Option Addr}{n10_FIELDS:Nat}{iE:Array (Option Value)}
  {sG sH:Tok}
  {mj:Tok}
  {Vg:Addr}{d11_FIELDS:Option Addr}{n11_FIELDS:Nat}{iF:Array (Option Value)}
  {sI sJ:Tok}
  {ml:Tok}
  {Vh:Addr}{d12_FIELDS:Option Addr}{n12_FIELDS:Nat}{iG:Array (Option Value)}
  {sK sL:Tok}
  {mm:Tok}
  {Vi:Addr}{d13_FIELDS:Option Addr}{n13_FIELDS:Nat}{iH:Array (Option Value)}
  {sM sN:Tok}
  {mo:Tok}
  {Vj:Addr}{d14_FIELDS:Option Addr}{n14_FIELDS:Nat}{iI:Array (Option Value)}
  {sO sP sQ:Tok}
  {mq:Tok}
  {Vk:Addr}{d15_FIELDS:Option Addr}{n15_FIELDS:Nat}{iJ:Array (Option Value)}
  {sR sS sT:Tok}
  {mr:Tok}
  {Vl:Addr}{d16_FIELDS:Option Addr}{n16_FIELDS:Nat}{iK:Array (Option Value)}
  {sU sV sW:Tok}
  {ms:Tok}
  {Vm:Addr}{d17_FIELDS:Option Addr}{n17_FIELDS:Nat}{iL:Array (Option Value)}
  {sX sY sZ:Tok}
  {mv:Tok}
  {Vn:Addr}{d18_FIELDS:Option Addr}{n18_FIELDS:Nat}{iM:Array (Option Value)}
  {si:Tok}
  {mw:Tok}
  {Vo:Addr}{d19_FIELDS:Option Addr}{n19_FIELDS:Nat}{iN:Array (Option Value)}
  {sj sk:Tok}
  {m_:Tok}
  {Vr:Addr}{d20_FIELDS:Option Addr}{n20_FIELDS:Nat}{iQ:Array (Option Value)}
  {sv sw:Tok}
  {n4:Tok}
  {Vs:Addr}{d21_FIELDS:Option Addr}{n21_FIELDS:Nat}{iR:Array (Option Value)}
  (Cc:K.lookup jY=some { cls:=.type "dict",data:=.dict #[⟨PyData.keyHash w.params "label",.str "label" me,.ref Vd⟩,⟨PyData.keyHash w.params "set",.str "set" mx,.ref Vp⟩,⟨PyData.keyHash w.params "high",.str "high" n5,.ref Vt⟩,⟨PyData.keyHash w.params "copy",.str "copy" nA,.ref Vv⟩,⟨PyData.keyHash w.params "add",.str "add" nD,.ref Vx⟩,⟨PyData.keyHash w.params "addc",.str "addc" nG,.ref Vz⟩,⟨PyData.keyHash w.params "sub",.str "sub" nI,.ref V_⟩,⟨PyData.keyHash w.params "subc",.str "subc" nK,.ref U0⟩,⟨PyData.keyHash w.params "and",.str "and" nM,.ref U1⟩,⟨PyData.keyHash w.params "or",.str "or" nN,.ref U2⟩,⟨PyData.keyHash w.params "xor",.str "xor" mi,.ref Vf⟩,⟨PyData.keyHash w.params "test",.str "test" mj,.ref Vg⟩,⟨PyData.keyHash w.params "left",.str "left" ml,.ref Vh⟩,⟨PyData.keyHash w.params "right",.str "right" mm,.ref Vi⟩,⟨PyData.keyHash w.params "load",.str "load" mo,.ref Vj⟩,⟨PyData.keyHash w.params "store",.str "store" mq,.ref Vk⟩,⟨PyData.keyHash w.params "loadw",.str "loadw" mr,.ref Vl⟩,⟨PyData.keyHash w.params "storew",.str "storew" ms,.ref Vm⟩,⟨PyData.keyHash w.params "jump",.str "jump" mv,.ref Vn⟩,⟨PyData.keyHash w.params "when",.str "when" mw,.ref Vo⟩,⟨PyData.keyHash w.params "unless",.str "unless" m_,.ref Vr⟩,⟨PyData.keyHash w.params "stop",.str "stop" n4,.ref Vs⟩] A5 })(Cg:(jY==sysModules)=false)
  (Ck:K.lookup Vd=some ⟨.type "tuple",d0_FIELDS,.seq #[.str "name" sD] n0_FIELDS,iC⟩)
  (Cw:K.lookup Vp=some ⟨.type "tuple",d1_FIELDS,.seq #[.str "d" sn,.str "n" sr] n1_FIELDS,iO⟩)
  (E3:K.lookup Vt=some ⟨.type "tuple",d2_FIELDS,.seq #[.str "d" sx,.str "n" s_] n2_FIELDS,iS⟩)
  (E5:K.lookup Vv=some ⟨.type "tuple",d3_FIELDS,.seq #[.str "d" z01,.str "s" z03] n3_FIELDS,iU⟩)
  (E7:K.lookup Vx=some ⟨.type "tuple",d4_FIELDS,.seq #[.str "d" z05,.str "s" z07] n4_FIELDS,iW⟩)
  (E9:K.lookup Vz=some ⟨.type "tuple",d5_FIELDS,.seq #[.str "d" z09,.str "s" z0a] n5_FIELDS,iY⟩)
  (EA:K.lookup V_=some ⟨.type "tuple",d6_FIELDS,.seq #[.str "d" z0b,.str "s" z0c] n6_FIELDS,iZ⟩)
  (EB:K.lookup U0=some ⟨.type "tuple",d7_FIELDS,.seq #[.str "d" z0d,.str "s" z0e] n7_FIELDS,ia⟩)
  (EC:K.lookup U1=some ⟨.type "tuple",d8_FIELDS,.seq #[.str "d" z0f,.str "s" z0g] n8_FIELDS,ib⟩)
  (ED:K.lookup U2=some ⟨.type "tuple",d9_FIELDS,.seq #[.str "d" z0h,.str "s" z0i] n9_FIELDS,ic⟩)
  (Cm:K.lookup Vf=some ⟨.type "tuple",d10_FIELDS,.seq #[.str "d" sG,.str "s" sH] n10_FIELDS,iE⟩)
  (Cn:K.lookup Vg=some ⟨.type "tuple",d11_FIELDS,.seq #[.str "d" sI,.str "s" sJ] n11_FIELDS,iF⟩)
  (Co:K.lookup Vh=some ⟨.type "tuple",d12_FIELDS,.seq #[.str "d" sK,.str "n" sL] n12_FIELDS,iG⟩)
  (Cp:K.lookup Vi=some ⟨.type "tuple",d13_FIELDS,.seq #[.str "d" sM,.str "n" sN] n13_FIELDS,iH⟩)
  (Cq:K.lookup Vj=some ⟨.type "tuple",d14_FIELDS,.seq #[.str "d" sO,.str "s" sP,.str "n" sQ] n14_FIELDS,iI⟩)
  (Cr:K.lookup Vk=some ⟨.type "tuple",d15_FIELDS,.seq #[.str "d" sR,.str "s" sS,.str "n" sT] n15_FIELDS,iJ⟩)
  (Cs:K.lookup Vl=some ⟨.type "tuple",d16_FIELDS,.seq #[.str "d" sU,.str "s" sV,.str "n" sW] n16_FIELDS,iK⟩)
  (Ct:K.lookup Vm=some ⟨.type "tuple",d17_FIELDS,.seq #[.str "d" sX,.str "s" sY,.str "n" sZ] n17_FIELDS,iL⟩)
  (Cu:K.lookup Vn=some ⟨.type "tuple",d18_FIELDS,.seq #[.str "name" si] n18_FIELDS,iM⟩)
  (Cv:K.lookup Vo=some ⟨.type "tuple",d19_FIELDS,.seq #[.str "mark" sj,.str "name" sk] n19_FIELDS,iN⟩)
  (Cz:K.lookup Vr=some ⟨.type "tuple",d20_FIELDS,.seq #[.str "mark" sv,.str "name" sw] n20_FIELDS,iQ⟩)
  (C_:K.lookup Vs=some ⟨.type "tuple",d21_FIELDS,.seq #[] n21_FIELDS,iR⟩)
  {mY:Tok}(CI:W.nsIn K mainGlobals "MARK_LOW" = some (some (.int 8 mY)))
  {mW:Tok}(C8:W.nsIn K mainGlobals "ALL_NEEDED" = some (some (.int 2047 mW)))
  {pY:Addr}{A9:Nat}{ik:Array (Option Value)}{n_ oN oU oa om oy rB rH rM rQ oA oD oG:Tok}(CF:W.nsIn K mainGlobals "LOOK_AT_D" = some (some (.ref pY)))
  (OV:K.lookup pY=some ⟨.type "tuple",none,.seq #[.str "high" n_,.str "left" oN,.str "right" oU,.str "add" oa,.str "addc" om,.str "sub" oy,.str "subc" rB,.str "and" rH,.str "or" rM,.str "xor" rQ,.str "test" oA,.str "store" oD,.str "storew" oG] A9,ik⟩)
  {pZ:Addr}{AB:Nat}{im:Array (Option Value)}{o3 oO oV og oo oz rC rJ rN rR oB oE oH:Tok}(CG:W.nsIn K mainGlobals "LOOK_AT_S" = some (some (.ref pZ)))
  (OW:K.lookup pZ=some ⟨.type "tuple",none,.seq #[.str "copy" o3,.str "load" oO,.str "loadw" oV,.str "add" og,.str "addc" oo,.str "sub" oz,.str "subc" rC,.str "and" rJ,.str "or" rN,.str "xor" rR,.str "test" oB,.str "store" oE,.str "storew" oH] AB,im⟩)
  {pX:Addr}{A8:Nat}{ij:Array (Option Value)}{nz oM:Tok}(CD:W.nsIn K mainGlobals "LOOK_AT_CARRY" = some (some (.ref pX)))
  (OU:K.lookup pX=some ⟨.type "tuple",none,.seq #[.str "addc" nz,.str "subc" oM] A8,ij⟩)
  {pf:Addr}{AG:Nat}{iw:Array (Option Value)}{o8 oR oY oi ou r8 rE rK rO rS oC oF oI oJ:Tok}(CN:W.nsIn K mainGlobals "PUT_D" = some (some (.ref pf)))
  (OZ:K.lookup pf=some ⟨.type "tuple",none,.seq #[.str "set" o8,.str "high" oR,.str "copy" oY,.str "load" oi,.str "loadw" ou,.str "add" r8,.str "addc" rE,.str "sub" rK,.str "subc" rO,.str "and" rS,.str "or" oC,.str "xor" oF,.str "left" oI,.str "right" oJ] AG,iw⟩)
  {pp:Addr}{AH:Nat}{iz:Array (Option Value)}{o9 oS oZ oj ox r9 rG rL rP rT:Tok}(CO:W.nsIn K mainGlobals "PUT_NOUGHT_AND_SIGN" = some (some (.ref pp)))
  (Oa:K.lookup pp=some ⟨.type "tuple",none,.seq #[.str "add" o9,.str "addc" oS,.str "sub" oZ,.str "subc" oj,.str "test" ox,.str "and" r9,.str "or" rG,.str "xor" rL,.str "left" rP,.str "right" rT] AH,iz⟩)
  {pd:Addr}{AF:Nat}{iu:Array (Option Value)}{o7 oQ oX oh ot o_ rD:Tok}(CM:W.nsIn K mainGlobals "PUT_CARRY" = some (some (.ref pd)))
  (OY:K.lookup pd=some ⟨.type "tuple",none,.seq #[.str "add" o7,.str "addc" oQ,.str "sub" oX,.str "subc" oh,.str "test" ot,.str "left" o_,.str "right" rD] AF,iu⟩)
  {pV:Addr}{A6:Nat}{ig:Array (Option Value)}(CA:W.nsIn K mainGlobals "IDLE_KINDS" = some (some (.ref pV)))
  (Cd:K.lookup pV=some ⟨.type "tuple",none,.seq #[.ref f20,.ref f21,.ref f22,.ref f23] A6,ig⟩)
  : ∃fd:FuncData,(∀(s:Shared)(v:Value),BindsTo s fd ⟨[v],[]⟩ [("_law_script",v)])/\∀base:Heap,K.In base->base.Ns mainGlobals mg->uq l.prog w K mg base ui 10 fa fd ["_law_script"] (VD K):=by
 have e:=hfa.symm.trans (W.mg_of X G a43);cases e;have t5:mg "isinstance" = none:=W.mg_none_of X G EM;have MO:mg "int" = none:=W.mg_none_of X G EL;have MN:mg "bool" = none:=W.mg_none_of X G EI;have Yg:mg "str" = none:=W.mg_none_of X G ET;have yJ:mg "len" = none:=W.mg_none_of X G EN;have pM:mg "all" = none:=W.mg_none_of X G EH;have MP:mg "tuple" = none:=W.mg_none_of X G EU;have MQ:mg "zip" = none:=W.mg_none_of X G EV;have qj:mg "list" = none:=W.mg_none_of X G EO;have qK:mg "set" = none:=W.mg_none_of X G ER;have qL:mg "sorted" = none:=W.mg_none_of X G ES;have vg:mg "enumerate" = none:=W.mg_none_of X G EK;have wx:mg "range" = none:=W.mg_none_of X G EQ;have jV:mg "dict" = none:=W.mg_none_of X G EJ;have z0u:q_ K pW:=⟨_,OT,rfl,rfl⟩;have IA:yn mg "JUMPS" (.ref pW):=⟨_,W.mg_of X G CB,rfl⟩;have Oy:∀H,zY K H T8 (.ref pW):=λH=>⟨pW,_,rfl,xQ (xs:=[.str "jump",.str "when",.str "unless"]) OT (by show(3:Nat)<=sizeLine; decide) (.cons ⟨_,rfl⟩ (.cons ⟨_,rfl⟩ (.cons ⟨_,rfl⟩ .nil))) H,⟨_,_,rfl,⟨rfl,small (by decide)⟩,⟨_,_,rfl,⟨rfl,small (by decide)⟩,⟨_,_,rfl,⟨rfl,small (by decide)⟩,rfl⟩⟩⟩,small (by decide)⟩
 have IF:yn mg "NAME_LONGEST" (.int 8):=⟨_,W.mg_of X G CJ,⟨_,rfl⟩⟩;have L4:∀H,zY K H (.int 8) (.int 8):=λ_=>rfl
 have ju:yn mg "LETTERS" (.str "abcdefghijklmnopqrstuvwxyz"):=⟨_,W.mg_of X G CC,⟨_,rfl⟩⟩;have gB:∀H,zY K H (.str "abcdefghijklmnopqrstuvwxyz") (.str "abcdefghijklmnopqrstuvwxyz"):=λ_=>⟨rfl,small (by decide)⟩
 have O6:q_ K tj:=⟨_,OX,rfl,rfl⟩;have Zl:yn mg "MARKS" (.ref tj):=⟨_,W.mg_of X G CH,rfl⟩;have YE:∀H,zY K H Xd (.ref tj):=λH=>⟨tj,_,rfl,xQ (xs:=[.str "carry",.str "nought",.str "sign"]) OX (by show(3:Nat)<=sizeLine; decide) (.cons ⟨_,rfl⟩ (.cons ⟨_,rfl⟩ (.cons ⟨_,rfl⟩ .nil))) H,⟨_,_,rfl,⟨rfl,small (by decide)⟩,⟨_,_,rfl,⟨rfl,small (by decide)⟩,⟨_,_,rfl,⟨rfl,small (by decide)⟩,rfl⟩⟩⟩,small (by decide)⟩
 have IG:yn mg "NUMBER_WIDTHS" (.ref jZ):=⟨_,W.mg_of X G CK,rfl⟩;have L5:qT K w jZ T6 TB:=IL (us:=[.int 16,.int 16,.int 5,.int 5,.int 8,.int 8,.int 8,.int 8]) Ce (.cons (.cons (.cons (.cons (.cons (.cons (.cons (.cons .nil)))))))) (by decide +kernel) Ch (.cons ⟨_,rfl⟩ (.cons ⟨_,rfl⟩ (.cons ⟨_,rfl⟩ (.cons ⟨_,rfl⟩ (.cons ⟨_,rfl⟩ (.cons ⟨_,rfl⟩ (.cons ⟨_,rfl⟩ (.cons ⟨_,rfl⟩ .nil)))))))) λH=>⟨_,_,rfl,rfl,⟨_,_,rfl,rfl,⟨_,_,rfl,rfl,⟨_,_,rfl,rfl,⟨_,_,rfl,rfl,⟨_,_,rfl,rfl,⟨_,_,rfl,rfl,⟨_,_,rfl,rfl,rfl⟩⟩⟩⟩⟩⟩⟩⟩
 have IH:yn mg "PLACES" (.ref ja):=⟨_,W.mg_of X G CL,rfl⟩;have L6:qT K w ja Xb Xe:=IL (us:=[.ref Ve,.ref Vq,.ref Vu,.ref Vw,.ref Vy]) Cf (.cons (.cons (.cons (.cons (.cons .nil))))) (by decide +kernel) Ci (.cons rfl (.cons rfl (.cons rfl (.cons rfl (.cons rfl .nil))))) λH=>⟨_,_,rfl,⟨Ve,_,rfl,xQ (xs:=[.int 27,.int 5]) Cl (by show(2:Nat)<=sizeLine; decide) (.cons ⟨_,rfl⟩ (.cons ⟨_,rfl⟩ .nil)) H,⟨_,_,rfl,rfl,⟨_,_,rfl,rfl,rfl⟩⟩,small (by decide)⟩,⟨_,_,rfl,⟨Vq,_,rfl,xQ (xs:=[.int 24,.int 3]) Cy (by show(2:Nat)<=sizeLine; decide) (.cons ⟨_,rfl⟩ (.cons ⟨_,rfl⟩ .nil)) H,⟨_,_,rfl,rfl,⟨_,_,rfl,rfl,rfl⟩⟩,small (by decide)⟩,⟨_,_,rfl,⟨Vu,_,rfl,xQ (xs:=[.int 21,.int 3]) E4 (by show(2:Nat)<=sizeLine; decide) (.cons ⟨_,rfl⟩ (.cons ⟨_,rfl⟩ .nil)) H,⟨_,_,rfl,rfl,⟨_,_,rfl,rfl,rfl⟩⟩,small (by decide)⟩,⟨_,_,rfl,⟨Vw,_,rfl,xQ (xs:=[.int 24,.int 2]) E6 (by show(2:Nat)<=sizeLine; decide) (.cons ⟨_,rfl⟩ (.cons ⟨_,rfl⟩ .nil)) H,⟨_,_,rfl,rfl,⟨_,_,rfl,rfl,rfl⟩⟩,small (by decide)⟩,⟨_,_,rfl,⟨Vy,_,rfl,xQ (xs:=[.int 0,.int 5]) E8 (by show(2:Nat)<=sizeLine; decide) (.cons ⟨_,rfl⟩ (.cons ⟨_,rfl⟩ .nil)) H,⟨_,_,rfl,rfl,⟨_,_,rfl,rfl,rfl⟩⟩,small (by decide)⟩,rfl⟩⟩⟩⟩⟩
 have T4:yn mg "FIELDS" (.ref jY):=⟨_,W.mg_of X G C9,rfl⟩;have Ty:qT K w jY Zm T9:=IL (us:=[.ref Vd,.ref Vp,.ref Vt,.ref Vv,.ref Vx,.ref Vz,.ref V_,.ref U0,.ref U1,.ref U2,.ref Vf,.ref Vg,.ref Vh,.ref Vi,.ref Vj,.ref Vk,.ref Vl,.ref Vm,.ref Vn,.ref Vo,.ref Vr,.ref Vs]) Cc (.cons (.cons (.cons (.cons (.cons (.cons (.cons (.cons (.cons (.cons (.cons (.cons (.cons (.cons (.cons (.cons (.cons (.cons (.cons (.cons (.cons (.cons .nil)))))))))))))))))))))) (by decide +kernel) Cg (.cons rfl (.cons rfl (.cons rfl (.cons rfl (.cons rfl (.cons rfl (.cons rfl (.cons rfl (.cons rfl (.cons rfl (.cons rfl (.cons rfl (.cons rfl (.cons rfl (.cons rfl (.cons rfl (.cons rfl (.cons rfl (.cons rfl (.cons rfl (.cons rfl (.cons rfl .nil)))))))))))))))))))))) λH=>⟨_,_,rfl,⟨Vd,_,rfl,xQ (xs:=[.str "name"]) Ck (by show(1:Nat)<=sizeLine; decide) (.cons ⟨_,rfl⟩ .nil) H,⟨_,_,rfl,⟨rfl,small (by decide)⟩,rfl⟩,small (by decide)⟩,⟨_,_,rfl,⟨Vp,_,rfl,xQ (xs:=[.str "d",.str "n"]) Cw (by show(2:Nat)<=sizeLine; decide) (.cons ⟨_,rfl⟩ (.cons ⟨_,rfl⟩ .nil)) H,⟨_,_,rfl,⟨rfl,small (by decide)⟩,⟨_,_,rfl,⟨rfl,small (by decide)⟩,rfl⟩⟩,small (by decide)⟩,⟨_,_,rfl,⟨Vt,_,rfl,xQ (xs:=[.str "d",.str "n"]) E3 (by show(2:Nat)<=sizeLine; decide) (.cons ⟨_,rfl⟩ (.cons ⟨_,rfl⟩ .nil)) H,⟨_,_,rfl,⟨rfl,small (by decide)⟩,⟨_,_,rfl,⟨rfl,small (by decide)⟩,rfl⟩⟩,small (by decide)⟩,⟨_,_,rfl,⟨Vv,_,rfl,xQ (xs:=[.str "d",.str "s"]) E5 (by show(2:Nat)<=sizeLine; decide) (.cons ⟨_,rfl⟩ (.cons ⟨_,rfl⟩ .nil)) H,⟨_,_,rfl,⟨rfl,small (by decide)⟩,⟨_,_,rfl,⟨rfl,small (by decide)⟩,rfl⟩⟩,small (by decide)⟩,⟨_,_,rfl,⟨Vx,_,rfl,xQ (xs:=[.str "d",.str "s"]) E7 (by show(2:Nat)<=sizeLine; decide) (.cons ⟨_,rfl⟩ (.cons ⟨_,rfl⟩ .nil)) H,⟨_,_,rfl,⟨rfl,small (by decide)⟩,⟨_,_,rfl,⟨rfl,small (by decide)⟩,rfl⟩⟩,small (by decide)⟩,⟨_,_,rfl,⟨Vz,_,rfl,xQ (xs:=[.str "d",.str "s"]) E9 (by show(2:Nat)<=sizeLine; decide) (.cons ⟨_,rfl⟩ (.cons ⟨_,rfl⟩ .nil)) H,⟨_,_,rfl,⟨rfl,small (by decide)⟩,⟨_,_,rfl,⟨rfl,small (by decide)⟩,rfl⟩⟩,small (by decide)⟩,⟨_,_,rfl,⟨V_,_,rfl,xQ (xs:=[.str "d",.str "s"]) EA (by show(2:Nat)<=sizeLine; decide) (.cons ⟨_,rfl⟩ (.cons ⟨_,rfl⟩ .nil)) H,⟨_,_,rfl,⟨rfl,small (by decide)⟩,⟨_,_,rfl,⟨rfl,small (by decide)⟩,rfl⟩⟩,small (by decide)⟩,⟨_,_,rfl,⟨U0,_,rfl,xQ (xs:=[.str "d",.str "s"]) EB (by show(2:Nat)<=sizeLine; decide) (.cons ⟨_,rfl⟩ (.cons ⟨_,rfl⟩ .nil)) H,⟨_,_,rfl,⟨rfl,small (by decide)⟩,⟨_,_,rfl,⟨rfl,small (by decide)⟩,rfl⟩⟩,small (by decide)⟩,⟨_,_,rfl,⟨U1,_,rfl,xQ (xs:=[.str "d",.str "s"]) EC (by show(2:Nat)<=sizeLine; decide) (.cons ⟨_,rfl⟩ (.cons ⟨_,rfl⟩ .nil)) H,⟨_,_,rfl,⟨rfl,small (by decide)⟩,⟨_,_,rfl,⟨rfl,small (by decide)⟩,rfl⟩⟩,small (by decide)⟩,⟨_,_,rfl,⟨U2,_,rfl,xQ (xs:=[.str "d",.str "s"]) ED (by show(2:Nat)<=sizeLine; decide) (.cons ⟨_,rfl⟩ (.cons ⟨_,rfl⟩ .nil)) H,⟨_,_,rfl,⟨rfl,small (by decide)⟩,⟨_,_,rfl,⟨rfl,small (by decide)⟩,rfl⟩⟩,small (by decide)⟩,⟨_,_,rfl,⟨Vf,_,rfl,xQ (xs:=[.str "d",.str "s"]) Cm (by show(2:Nat)<=sizeLine; decide) (.cons ⟨_,rfl⟩ (.cons ⟨_,rfl⟩ .nil)) H,⟨_,_,rfl,⟨rfl,small (by decide)⟩,⟨_,_,rfl,⟨rfl,small (by decide)⟩,rfl⟩⟩,small (by decide)⟩,⟨_,_,rfl,⟨Vg,_,rfl,xQ (xs:=[.str "d",.str "s"]) Cn (by show(2:Nat)<=sizeLine; decide) (.cons ⟨_,rfl⟩ (.cons ⟨_,rfl⟩ .nil)) H,⟨_,_,rfl,⟨rfl,small (by decide)⟩,⟨_,_,rfl,⟨rfl,small (by decide)⟩,rfl⟩⟩,small (by decide)⟩,⟨_,_,rfl,⟨Vh,_,rfl,xQ (xs:=[.str "d",.str "n"]) Co (by show(2:Nat)<=sizeLine; decide) (.cons ⟨_,rfl⟩ (.cons ⟨_,rfl⟩ .nil)) H,⟨_,_,rfl,⟨rfl,small (by decide)⟩,⟨_,_,rfl,⟨rfl,small (by decide)⟩,rfl⟩⟩,small (by decide)⟩,⟨_,_,rfl,⟨Vi,_,rfl,xQ (xs:=[.str "d",.str "n"]) Cp (by show(2:Nat)<=sizeLine; decide) (.cons ⟨_,rfl⟩ (.cons ⟨_,rfl⟩ .nil)) H,⟨_,_,rfl,⟨rfl,small (by decide)⟩,⟨_,_,rfl,⟨rfl,small (by decide)⟩,rfl⟩⟩,small (by decide)⟩,⟨_,_,rfl,⟨Vj,_,rfl,xQ (xs:=[.str "d",.str "s",.str "n"]) Cq (by show(3:Nat)<=sizeLine; decide) (.cons ⟨_,rfl⟩ (.cons ⟨_,rfl⟩ (.cons ⟨_,rfl⟩ .nil))) H,⟨_,_,rfl,⟨rfl,small (by decide)⟩,⟨_,_,rfl,⟨rfl,small (by decide)⟩,⟨_,_,rfl,⟨rfl,small (by decide)⟩,rfl⟩⟩⟩,small (by decide)⟩,⟨_,_,rfl,⟨Vk,_,rfl,xQ (xs:=[.str "d",.str "s",.str "n"]) Cr (by show(3:Nat)<=sizeLine; decide) (.cons ⟨_,rfl⟩ (.cons ⟨_,rfl⟩ (.cons ⟨_,rfl⟩ .nil))) H,⟨_,_,rfl,⟨rfl,small (by decide)⟩,⟨_,_,rfl,⟨rfl,small (by decide)⟩,⟨_,_,rfl,⟨rfl,small (by decide)⟩,rfl⟩⟩⟩,small (by decide)⟩,⟨_,_,rfl,⟨Vl,_,rfl,xQ (xs:=[.str "d",.str "s",.str "n"]) Cs (by show(3:Nat)<=sizeLine; decide) (.cons ⟨_,rfl⟩ (.cons ⟨_,rfl⟩ (.cons ⟨_,rfl⟩ .nil))) H,⟨_,_,rfl,⟨rfl,small (by decide)⟩,⟨_,_,rfl,⟨rfl,small (by decide)⟩,⟨_,_,rfl,⟨rfl,small (by decide)⟩,rfl⟩⟩⟩,small (by decide)⟩,⟨_,_,rfl,⟨Vm,_,rfl,xQ (xs:=[.str "d",.str "s",.str "n"]) Ct (by show(3:Nat)<=sizeLine; decide) (.cons ⟨_,rfl⟩ (.cons ⟨_,rfl⟩ (.cons ⟨_,rfl⟩ .nil))) H,⟨_,_,rfl,⟨rfl,small (by decide)⟩,⟨_,_,rfl,⟨rfl,small (by decide)⟩,⟨_,_,rfl,⟨rfl,small (by decide)⟩,rfl⟩⟩⟩,small (by decide)⟩,⟨_,_,rfl,⟨Vn,_,rfl,xQ (xs:=[.str "name"]) Cu (by show(1:Nat)<=sizeLine; decide) (.cons ⟨_,rfl⟩ .nil) H,⟨_,_,rfl,⟨rfl,small (by decide)⟩,rfl⟩,small (by decide)⟩,⟨_,_,rfl,⟨Vo,_,rfl,xQ (xs:=[.str "mark",.str "name"]) Cv (by show(2:Nat)<=sizeLine; decide) (.cons ⟨_,rfl⟩ (.cons ⟨_,rfl⟩ .nil)) H,⟨_,_,rfl,⟨rfl,small (by decide)⟩,⟨_,_,rfl,⟨rfl,small (by decide)⟩,rfl⟩⟩,small (by decide)⟩,⟨_,_,rfl,⟨Vr,_,rfl,xQ (xs:=[.str "mark",.str "name"]) Cz (by show(2:Nat)<=sizeLine; decide) (.cons ⟨_,rfl⟩ (.cons ⟨_,rfl⟩ .nil)) H,⟨_,_,rfl,⟨rfl,small (by decide)⟩,⟨_,_,rfl,⟨rfl,small (by decide)⟩,rfl⟩⟩,small (by decide)⟩,⟨_,_,rfl,⟨Vs,_,rfl,xQ (xs:=[]) C_ (by show(0:Nat)<=sizeLine; decide) .nil H,rfl,small (by decide)⟩,rfl⟩⟩⟩⟩⟩⟩⟩⟩⟩⟩⟩⟩⟩⟩⟩⟩⟩⟩⟩⟩⟩⟩
 have IE:yn mg "MARK_LOW" (.int 8):=⟨_,W.mg_of X G CI,⟨_,rfl⟩⟩;have L1:∀H,zY K H (.int 8) (.int 8):=λ_=>rfl
 have Zj:yn mg "ALL_NEEDED" (.int 2047):=⟨_,W.mg_of X G C8,⟨_,rfl⟩⟩;have YD:∀H,zY K H (.int 2047) (.int 2047):=λ_=>rfl
 have z0w:q_ K pY:=⟨_,OV,rfl,rfl⟩;have IC:yn mg "LOOK_AT_D" (.ref pY):=⟨_,W.mg_of X G CF,rfl⟩;have O_:∀H,zY K H IO (.ref pY):=λH=>⟨pY,_,rfl,xQ (xs:=[.str "high",.str "left",.str "right",.str "add",.str "addc",.str "sub",.str "subc",.str "and",.str "or",.str "xor",.str "test",.str "store",.str "storew"]) OV (by show(13:Nat)<=sizeLine; decide) (.cons ⟨_,rfl⟩ (.cons ⟨_,rfl⟩ (.cons ⟨_,rfl⟩ (.cons ⟨_,rfl⟩ (.cons ⟨_,rfl⟩ (.cons ⟨_,rfl⟩ (.cons ⟨_,rfl⟩ (.cons ⟨_,rfl⟩ (.cons ⟨_,rfl⟩ (.cons ⟨_,rfl⟩ (.cons ⟨_,rfl⟩ (.cons ⟨_,rfl⟩ (.cons ⟨_,rfl⟩ .nil))))))))))))) H,⟨_,_,rfl,⟨rfl,small (by decide)⟩,⟨_,_,rfl,⟨rfl,small (by decide)⟩,⟨_,_,rfl,⟨rfl,small (by decide)⟩,⟨_,_,rfl,⟨rfl,small (by decide)⟩,⟨_,_,rfl,⟨rfl,small (by decide)⟩,⟨_,_,rfl,⟨rfl,small (by decide)⟩,⟨_,_,rfl,⟨rfl,small (by decide)⟩,⟨_,_,rfl,⟨rfl,small (by decide)⟩,⟨_,_,rfl,⟨rfl,small (by decide)⟩,⟨_,_,rfl,⟨rfl,small (by decide)⟩,⟨_,_,rfl,⟨rfl,small (by decide)⟩,⟨_,_,rfl,⟨rfl,small (by decide)⟩,⟨_,_,rfl,⟨rfl,small (by decide)⟩,rfl⟩⟩⟩⟩⟩⟩⟩⟩⟩⟩⟩⟩⟩,small (by decide)⟩
 have z0x:q_ K pZ:=⟨_,OW,rfl,rfl⟩;have ID:yn mg "LOOK_AT_S" (.ref pZ):=⟨_,W.mg_of X G CG,rfl⟩;have L0:∀H,zY K H IP (.ref pZ):=λH=>⟨pZ,_,rfl,xQ (xs:=[.str "copy",.str "load",.str "loadw",.str "add",.str "addc",.str "sub",.str "subc",.str "and",.str "or",.str "xor",.str "test",.str "store",.str "storew"]) OW (by show(13:Nat)<=sizeLine; decide) (.cons ⟨_,rfl⟩ (.cons ⟨_,rfl⟩ (.cons ⟨_,rfl⟩ (.cons ⟨_,rfl⟩ (.cons ⟨_,rfl⟩ (.cons ⟨_,rfl⟩ (.cons ⟨_,rfl⟩ (.cons ⟨_,rfl⟩ (.cons ⟨_,rfl⟩ (.cons ⟨_,rfl⟩ (.cons ⟨_,rfl⟩ (.cons ⟨_,rfl⟩ (.cons ⟨_,rfl⟩ .nil))))))))))))) H,⟨_,_,rfl,⟨rfl,small (by decide)⟩,⟨_,_,rfl,⟨rfl,small (by decide)⟩,⟨_,_,rfl,⟨rfl,small (by decide)⟩,⟨_,_,rfl,⟨rfl,small (by decide)⟩,⟨_,_,rfl,⟨rfl,small (by decide)⟩,⟨_,_,rfl,⟨rfl,small (by decide)⟩,⟨_,_,rfl,⟨rfl,small (by decide)⟩,⟨_,_,rfl,⟨rfl,small (by decide)⟩,⟨_,_,rfl,⟨rfl,small (by decide)⟩,⟨_,_,rfl,⟨rfl,small (by decide)⟩,⟨_,_,rfl,⟨rfl,small (by decide)⟩,⟨_,_,rfl,⟨rfl,small (by decide)⟩,⟨_,_,rfl,⟨rfl,small (by decide)⟩,rfl⟩⟩⟩⟩⟩⟩⟩⟩⟩⟩⟩⟩⟩,small (by decide)⟩
 have z0v:q_ K pX:=⟨_,OU,rfl,rfl⟩;have IB:yn mg "LOOK_AT_CARRY" (.ref pX):=⟨_,W.mg_of X G CD,rfl⟩;have Oz:∀H,zY K H IN (.ref pX):=λH=>⟨pX,_,rfl,xQ (xs:=[.str "addc",.str "subc"]) OU (by show(2:Nat)<=sizeLine; decide) (.cons ⟨_,rfl⟩ (.cons ⟨_,rfl⟩ .nil)) H,⟨_,_,rfl,⟨rfl,small (by decide)⟩,⟨_,_,rfl,⟨rfl,small (by decide)⟩,rfl⟩⟩,small (by decide)⟩
 have z0z:q_ K pf:=⟨_,OZ,rfl,rfl⟩;have IJ:yn mg "PUT_D" (.ref pf):=⟨_,W.mg_of X G CN,rfl⟩;have L8:∀H,zY K H IR (.ref pf):=λH=>⟨pf,_,rfl,xQ (xs:=[.str "set",.str "high",.str "copy",.str "load",.str "loadw",.str "add",.str "addc",.str "sub",.str "subc",.str "and",.str "or",.str "xor",.str "left",.str "right"]) OZ (by show(14:Nat)<=sizeLine; decide) (.cons ⟨_,rfl⟩ (.cons ⟨_,rfl⟩ (.cons ⟨_,rfl⟩ (.cons ⟨_,rfl⟩ (.cons ⟨_,rfl⟩ (.cons ⟨_,rfl⟩ (.cons ⟨_,rfl⟩ (.cons ⟨_,rfl⟩ (.cons ⟨_,rfl⟩ (.cons ⟨_,rfl⟩ (.cons ⟨_,rfl⟩ (.cons ⟨_,rfl⟩ (.cons ⟨_,rfl⟩ (.cons ⟨_,rfl⟩ .nil)))))))))))))) H,⟨_,_,rfl,⟨rfl,small (by decide)⟩,⟨_,_,rfl,⟨rfl,small (by decide)⟩,⟨_,_,rfl,⟨rfl,small (by decide)⟩,⟨_,_,rfl,⟨rfl,small (by decide)⟩,⟨_,_,rfl,⟨rfl,small (by decide)⟩,⟨_,_,rfl,⟨rfl,small (by decide)⟩,⟨_,_,rfl,⟨rfl,small (by decide)⟩,⟨_,_,rfl,⟨rfl,small (by decide)⟩,⟨_,_,rfl,⟨rfl,small (by decide)⟩,⟨_,_,rfl,⟨rfl,small (by decide)⟩,⟨_,_,rfl,⟨rfl,small (by decide)⟩,⟨_,_,rfl,⟨rfl,small (by decide)⟩,⟨_,_,rfl,⟨rfl,small (by decide)⟩,⟨_,_,rfl,⟨rfl,small (by decide)⟩,rfl⟩⟩⟩⟩⟩⟩⟩⟩⟩⟩⟩⟩⟩⟩,small (by decide)⟩
 have z10:q_ K pp:=⟨_,Oa,rfl,rfl⟩;have IK:yn mg "PUT_NOUGHT_AND_SIGN" (.ref pp):=⟨_,W.mg_of X G CO,rfl⟩;have L9:∀H,zY K H IS (.ref pp):=λH=>⟨pp,_,rfl,xQ (xs:=[.str "add",.str "addc",.str "sub",.str "subc",.str "test",.str "and",.str "or",.str "xor",.str "left",.str "right"]) Oa (by show(10:Nat)<=sizeLine; decide) (.cons ⟨_,rfl⟩ (.cons ⟨_,rfl⟩ (.cons ⟨_,rfl⟩ (.cons ⟨_,rfl⟩ (.cons ⟨_,rfl⟩ (.cons ⟨_,rfl⟩ (.cons ⟨_,rfl⟩ (.cons ⟨_,rfl⟩ (.cons ⟨_,rfl⟩ (.cons ⟨_,rfl⟩ .nil)))))))))) H,⟨_,_,rfl,⟨rfl,small (by decide)⟩,⟨_,_,rfl,⟨rfl,small (by decide)⟩,⟨_,_,rfl,⟨rfl,small (by decide)⟩,⟨_,_,rfl,⟨rfl,small (by decide)⟩,⟨_,_,rfl,⟨rfl,small (by decide)⟩,⟨_,_,rfl,⟨rfl,small (by decide)⟩,⟨_,_,rfl,⟨rfl,small (by decide)⟩,⟨_,_,rfl,⟨rfl,small (by decide)⟩,⟨_,_,rfl,⟨rfl,small (by decide)⟩,⟨_,_,rfl,⟨rfl,small (by decide)⟩,rfl⟩⟩⟩⟩⟩⟩⟩⟩⟩⟩,small (by decide)⟩
 have z0y:q_ K pd:=⟨_,OY,rfl,rfl⟩;have II:yn mg "PUT_CARRY" (.ref pd):=⟨_,W.mg_of X G CM,rfl⟩;have L7:∀H,zY K H IQ (.ref pd):=λH=>⟨pd,_,rfl,xQ (xs:=[.str "add",.str "addc",.str "sub",.str "subc",.str "test",.str "left",.str "right"]) OY (by show(7:Nat)<=sizeLine; decide) (.cons ⟨_,rfl⟩ (.cons ⟨_,rfl⟩ (.cons ⟨_,rfl⟩ (.cons ⟨_,rfl⟩ (.cons ⟨_,rfl⟩ (.cons ⟨_,rfl⟩ (.cons ⟨_,rfl⟩ .nil))))))) H,⟨_,_,rfl,⟨rfl,small (by decide)⟩,⟨_,_,rfl,⟨rfl,small (by decide)⟩,⟨_,_,rfl,⟨rfl,small (by decide)⟩,⟨_,_,rfl,⟨rfl,small (by decide)⟩,⟨_,_,rfl,⟨rfl,small (by decide)⟩,⟨_,_,rfl,⟨rfl,small (by decide)⟩,⟨_,_,rfl,⟨rfl,small (by decide)⟩,rfl⟩⟩⟩⟩⟩⟩⟩,small (by decide)⟩
 have Zk:yn mg "IDLE_KINDS" (.ref pV):=⟨_,W.mg_of X G CA,rfl⟩;have Ya:XI K mg pV ["not_reached", "to_the_next_row", "copied_to_itself", "not_needed"]:=⟨[f20,f21,f22,f23],λH=>xQ (xs:=[.ref f20,.ref f21,.ref f22,.ref f23]) Cd (by show(4:Nat)<=sizeLine; decide) (.cons rfl (.cons rfl (.cons rfl (.cons rfl .nil)))) H,by simp only[xT,Qq,W.mg_of X G a20,W.mg_of X G a21,W.mg_of X G a22,W.mg_of X G a23]⟩;have F0:=yq (st:=WO) l0 c0 k0;have D0:zP K mg "is_label" WO ["item"]:=⟨_,_,F0,W.mg_of X G a0,F0.binds λ_ _ _ _ _ _=>xy λ_=>rfl⟩;have F1:=yq (st:=WN) l1 c1 k1;have D1:zP K mg "is_jump" WN ["item"]:=⟨_,_,F1,W.mg_of X G a1,F1.binds λ_ _ _ _ _ _=>xy λ_=>rfl⟩;have F2:=yq (st:=Wt) l2 c2 k2;have D2:zP K mg "rows_of" Wt ["items"]:=⟨_,_,F2,W.mg_of X G a2,F2.binds λ_ _ _ _ _ _=>xy λ_=>rfl⟩;have F3:=yq (st:=WS) l3 c3 k3;have D3:zP K mg "label_places" WS ["items"]:=⟨_,_,F3,W.mg_of X G a3,F3.binds λ_ _ _ _ _ _=>xy λ_=>rfl⟩;have F4:=yq (st:=WQ) l4 c4 k4;have D4:zP K mg "is_number" WQ ["thing", "width"]:=⟨_,_,F4,W.mg_of X G a4,F4.binds λ_ _ _ _ _ _=>jT λ_ _=>rfl⟩;have F5:=yq (st:=WP) l5 c5 k5;have D5:zP K mg "is_name" WP ["thing"]:=⟨_,_,F5,W.mg_of X G a5,F5.binds λ_ _ _ _ _ _=>xy λ_=>rfl⟩;have F6:=yq (st:=WJ) l6 c6 k6;have D6:zP K mg "fits" WJ ["kind", "field", "thing"]:=⟨_,_,F6,W.mg_of X G a6,F6.binds λ_ _ _ _ _ _=>Yd λ_ _ _=>rfl⟩;have F7:=yq (st:=WM) l7 c7 k7;have D7:zP K mg "is_item" WM ["thing"]:=⟨_,_,F7,W.mg_of X G a7,F7.binds λ_ _ _ _ _ _=>xy λ_=>rfl⟩;have F8:=yq (st:=WR) l8 c8 k8;have D8:zP K mg "is_program" WR ["thing"]:=⟨_,_,F8,W.mg_of X G a8,F8.binds λ_ _ _ _ _ _=>xy λ_=>rfl⟩;have F9:=yq (st:=Wv) l9 c9 k9;have D9:zP K mg "targets_of" Wv ["items"]:=⟨_,_,F9,W.mg_of X G a9,F9.binds λ_ _ _ _ _ _=>xy λ_=>rfl⟩;have F10:=yq (st:=Wh) l10 c10 k10;have D10:zP K mg "mark_bit" Wh ["mark"]:=⟨_,_,F10,W.mg_of X G a10,F10.binds λ_ _ _ _ _ _=>xy λ_=>rfl⟩;have F11:=yq (st:=Wi) l11 c11 k11;have D11:zP K mg "moves_by_nought" Wi ["row"]:=⟨_,_,F11,W.mg_of X G a11,F11.binds λ_ _ _ _ _ _=>xy λ_=>rfl⟩;have F12:=yq (st:=Wx) l12 c12 k12;have D12:zP K mg "used" Wx ["row"]:=⟨_,_,F12,W.mg_of X G a12,F12.binds λ_ _ _ _ _ _=>xy λ_=>rfl⟩;have F13:=yq (st:=Wr) l13 c13 k13;have D13:zP K mg "put" Wr ["row"]:=⟨_,_,F13,W.mg_of X G a13,F13.binds λ_ _ _ _ _ _=>xy λ_=>rfl⟩;have F14:=yq (st:=Wy) l14 c14 k14;have D14:zP K mg "ways_from" Wy ["row", "number", "target"]:=⟨_,_,F14,W.mg_of X G a14,F14.binds λ_ _ _ _ _ _=>Yd λ_ _ _=>rfl⟩;have F15:=yq (st:=Wz) l15 c15 k15;have D15:zP K mg "ways_of" Wz ["items"]:=⟨_,_,F15,W.mg_of X G a15,F15.binds λ_ _ _ _ _ _=>xy λ_=>rfl⟩;have F16:=yq (st:=Wm) l16 c16 k16;have D16:zP K mg "needed_at" Wm ["told", "places"]:=⟨_,_,F16,W.mg_of X G a16,F16.binds λ_ _ _ _ _ _=>jT λ_ _=>rfl⟩;have F17:=yq (st:=WG) l17 c17 k17;have D17:zP K mg "comers_of" WG ["ways"]:=⟨_,_,F17,W.mg_of X G a17,F17.binds λ_ _ _ _ _ _=>xy λ_=>rfl⟩;have F18:=yq (st:=Ws) l18 c18 k18;have D18:zP K mg "reached" Ws ["items"]:=⟨_,_,F18,W.mg_of X G a18,F18.binds λ_ _ _ _ _ _=>xy λ_=>rfl⟩;have F19:=yq (st:=Wn) l19 c19 k19;have D19:zP K mg "needs" Wn ["items"]:=⟨_,_,F19,W.mg_of X G a19,F19.binds λ_ _ _ _ _ _=>xy λ_=>rfl⟩;have F20:=yq (st:=Wp) l20 c20 k20;have D20:zP K mg "not_reached" Wp ["items"]:=⟨_,_,F20,W.mg_of X G a20,F20.binds λ_ _ _ _ _ _=>xy λ_=>rfl⟩;have F21:=yq (st:=Ww) l21 c21 k21;have D21:zP K mg "to_the_next_row" Ww ["items"]:=⟨_,_,F21,W.mg_of X G a21,F21.binds λ_ _ _ _ _ _=>xy λ_=>rfl⟩;have F22:=yq (st:=WH) l22 c22 k22;have D22:zP K mg "copied_to_itself" WH ["items"]:=⟨_,_,F22,W.mg_of X G a22,F22.binds λ_ _ _ _ _ _=>xy λ_=>rfl⟩;have F23:=yq (st:=Wo) l23 c23 k23;have D23:zP K mg "not_needed" Wo ["items"]:=⟨_,_,F23,W.mg_of X G a23,F23.binds λ_ _ _ _ _ _=>xy λ_=>rfl⟩;have F24:=yq (st:=WK) l24 c24 k24;have D24:zP K mg "idle" WK ["items"]:=⟨_,_,F24,W.mg_of X G a24,F24.binds λ_ _ _ _ _ _=>xy λ_=>rfl⟩;have F25:=yq (st:=WL) l25 c25 k25;have D25:zP K mg "idle_of_one_kind" WL ["items"]:=⟨_,_,F25,W.mg_of X G a25,F25.binds λ_ _ _ _ _ _=>xy λ_=>rfl⟩;have F26:=yq (st:=W_) l26 c26 k26;have D26:zP K mg "without" W_ ["items", "numbers"]:=⟨_,_,F26,W.mg_of X G a26,F26.binds λ_ _ _ _ _ _=>jT λ_ _=>rfl⟩;have F27:=yq (st:=We) l27 c27 k27;have D27:zP K mg "leads_on" We ["rows", "place"]:=⟨_,_,F27,W.mg_of X G a27,F27.binds λ_ _ _ _ _ _=>jT λ_ _=>rfl⟩;have F28:=yq (st:=WU) l28 c28 k28;have D28:zP K mg "last_name" WU ["name", "rows", "places"]:=⟨_,_,F28,W.mg_of X G a28,F28.binds λ_ _ _ _ _ _=>Yd λ_ _ _=>rfl⟩;have F29:=yq (st:=Wg) l29 c29 k29;have D29:zP K mg "led_on" Wg ["items"]:=⟨_,_,F29,W.mg_of X G a29,F29.binds λ_ _ _ _ _ _=>xy λ_=>rfl⟩;have F30:=yq (st:=Wj) l30 c30 k30;have D30:zP K mg "name_of" Wj ["number"]:=⟨_,_,F30,W.mg_of X G a30,F30.binds λ_ _ _ _ _ _=>xy λ_=>rfl⟩;have F31:=yq (st:=Wl) l31 c31 k31;have D31:zP K mg "names_of_places" Wl ["targets"]:=⟨_,_,F31,W.mg_of X G a31,F31.binds λ_ _ _ _ _ _=>xy λ_=>rfl⟩;have F32:=yq (st:=WT) l32 c32 k32;have D32:zP K mg "labelled" WT ["rows", "targets"]:=⟨_,_,F32,W.mg_of X G a32,F32.binds λ_ _ _ _ _ _=>jT λ_ _=>rfl⟩;have F33:=yq (st:=Wq) l33 c33 k33;have D33:zP K mg "plain" Wq ["items"]:=⟨_,_,F33,W.mg_of X G a33,F33.binds λ_ _ _ _ _ _=>xy λ_=>rfl⟩;have F34:=yq (st:=Wu) l34 c34 k34;have D34:zP K mg "short" Wu ["items"]:=⟨_,_,F34,W.mg_of X G a34,F34.binds λ_ _ _ _ _ _=>xy λ_=>rfl⟩;have F35:=yq (st:=WV) l35 c35 k35;have D35:zP K mg "_law_cell_at" WV ["_law_script", "_law_k"]:=⟨_,_,F35,W.mg_of X G a35,F35.binds λ_ _ _ _ _ _=>jT λ_ _=>rfl⟩;have F36:=yq (st:=WX) l36 c36 k36;have D36:zP K mg "_law_mark" WX ["_law_script", "_law_k"]:=⟨_,_,F36,W.mg_of X G a36,F36.binds λ_ _ _ _ _ _=>jT λ_ _=>rfl⟩;have F37:=yq (st:=Wd) l37 c37 k37;have D37:zP K mg "_law_words" Wd []:=⟨_,_,F37,W.mg_of X G a37,F37.binds λ_ _ _ _ _ _=>Ho rfl⟩;have F38:=yq (st:=Wa) l38 c38 k38;have D38:zP K mg "_law_row_by" Wa ["_law_mark_here", "_law_names_here", "_law_many"]:=⟨_,_,F38,W.mg_of X G a38,F38.binds λ_ _ _ _ _ _=>Yd λ_ _ _=>rfl⟩;have F39:=yq (st:=WY) l39 c39 k39;have D39:zP K mg "_law_names" WY ["_law_mark_here", "_law_many"]:=⟨_,_,F39,W.mg_of X G a39,F39.binds λ_ _ _ _ _ _=>jT λ_ _=>rfl⟩;have F40:=yq (st:=WZ) l40 c40 k40;have D40:zP K mg "_law_program_by" WZ ["_law_script", "_law_first", "_law_most"]:=⟨_,_,F40,W.mg_of X G a40,F40.binds λ_ _ _ _ _ _=>Yd λ_ _ _=>rfl⟩;have F41:=yq (st:=Wb) l41 c41 k41;have D41:zP K mg "_law_rows" Wb ["_law_items"]:=⟨_,_,F41,W.mg_of X G a41,F41.binds λ_ _ _ _ _ _=>xy λ_=>rfl⟩;have F42:=yq (st:=Wc) l42 c42 k42;have D42:zP K mg "_law_varied" Wc ["_law_items", "_law_script", "_law_first"]:=⟨_,_,F42,W.mg_of X G a42,F42.binds λ_ _ _ _ _ _=>Yd λ_ _ _=>rfl⟩;have F43:=yq (st:=ku) l43 c43 k43;refine⟨W.fnOf "law" "law" (Zd ku) (p6 ku) (yB ku) .none kV43 dc43 pm43 an43 cd43 ct43,λs v=>.of_eq rfl,λbase _ _=>?_⟩;have qD:=As (P:=l.prog) (w:=w) (base:=base) D0 ;have qC:=Ar (P:=l.prog) (w:=w) (base:=base) D1 IA Oy;have wg:=aY (P:=l.prog) (w:=w) (base:=base) D2 qD;have jB:=Aw (P:=l.prog) (w:=w) (base:=base) D3 qD;have Ic:=Au (P:=l.prog) (w:=w) (base:=base) D4 t5 MO MN;have IZ:=At (P:=l.prog) (w:=w) (base:=base) D5 t5 Yg yJ pM IF L4 ju gB;have IV:=Am (P:=l.prog) (w:=w) (base:=base) D6 Zl YE IG L5 IH L6 IZ Ic;have IY:=Aq (P:=l.prog) (w:=w) (base:=base) D7 yJ t5 MP Yg pM MQ T4 Ty IV;have Id:=Av (P:=l.prog) (w:=w) (base:=base) D8 pM t5 qj yJ qK IY qD jB qC;have jD:=ab (P:=l.prog) (w:=w) (base:=base) D9 jB wg qC;have jC:=aJ (P:=l.prog) (w:=w) (base:=base) D10 IE L1 Zl YE O6;have Ip:=aK (P:=l.prog) (w:=w) (base:=base) D11 ;have Iw:=ae (P:=l.prog) (w:=w) (base:=base) D12 Zj YD IC O_ ID L0 IB Oz jC;have Zt:=aW (P:=l.prog) (w:=w) (base:=base) D13 IJ L8 IK L9 II L7 jC Ip;have Ix:=af (P:=l.prog) (w:=w) (base:=base) D14 qL qK;have jE:=ag (P:=l.prog) (w:=w) (base:=base) D15 vg wg jD Ix;have Zp:=aP (P:=l.prog) (w:=w) (base:=base) D16 ;have IU:=Ak (P:=l.prog) (w:=w) (base:=base) D17 wx yJ vg;have Iv:=aX (P:=l.prog) (w:=w) (base:=base) D18 yJ qL jE;have Iu:=aQ (P:=l.prog) (w:=w) (base:=base) D19 yJ qj wx Zj YD wg jE IU Iw Zp Zt;have Zr:=aU (P:=l.prog) (w:=w) (base:=base) D20 jV wx yJ Iv wg;have Zv:=ac (P:=l.prog) (w:=w) (base:=base) D21 vg jD;have Zn:=Al (P:=l.prog) (w:=w) (base:=base) D22 vg wg;have Zq:=aT (P:=l.prog) (w:=w) (base:=base) D23 wx yJ Iu jE wg Zt Zp;have IW:=An (P:=l.prog) (w:=w) (base:=base) D24 qL qK Zk Ya Zr Zv Zn Zq;have IX:=Ao (P:=l.prog) (w:=w) (base:=base) D25 Zk Ya Zr Zv Zn Zq;have Iy:=ah (P:=l.prog) (w:=w) (base:=base) D26 jV qD;have Io:=aH (P:=l.prog) (w:=w) (base:=base) D27 yJ;have Ig:=Ay (P:=l.prog) (w:=w) (base:=base) D28 Io;have Zo:=aI (P:=l.prog) (w:=w) (base:=base) D29 wg jB qC Ig;have Iq:=aM (P:=l.prog) (w:=w) (base:=base) D30 yJ ju gB;have Ir:=aN (P:=l.prog) (w:=w) (base:=base) D31 qL qK jV vg Iq;have Ie:=Ax (P:=l.prog) (w:=w) (base:=base) D32 vg yJ Ir;have Zs:=aV (P:=l.prog) (w:=w) (base:=base) D33 wg qC Ie jD;have Zu:=aZ (P:=l.prog) (w:=w) (base:=base) D34 Zo Iy IX Zs;have Ih:=A_ (P:=l.prog) (w:=w) (base:=base) D35 yJ;have tO:=aA (P:=l.prog) (w:=w) (base:=base) D36 yJ Ih;have Im:=aG (P:=l.prog) (w:=w) (base:=base) D37 ;have Ik:=aD (P:=l.prog) (w:=w) (base:=base) D38 yJ Im;have Ii:=aB (P:=l.prog) (w:=w) (base:=base) D39 wx;have Ij:=aC (P:=l.prog) (w:=w) (base:=base) D40 wx tO Ii Ik;have TC:=aE (P:=l.prog) (w:=w) (base:=base) D41 ;have Il:=aF (P:=l.prog) (w:=w) (base:=base) D42 wx yJ tO;exact Az F43 qj yJ Ij tO Il Zu TC Id IW Zo Zs
theorem walk{l:W.OpenLaw}{q:Program}{loose:List Str}{XP:(Str->Option Value)->Heap->Prop}{YP:World->Heap->Prop}{d:DefRec}{K:Params->W.Frag}(hn:l.most=some 63)(hdf:d.params.defaults=[])
  (hY:∀(w:World)(h:Heap),YP w h->(K w.params).In h)
  (F:∀(w:World)(mg:Str->Option Value)(fa:Addr)(h:Heap),(K w.params).In h->h.Ns mainGlobals mg->mg d.name=some (.ref fa)->
   ∃fd:FuncData,(∀(s:Shared)(u:Value),BindsTo s fd ⟨[u],[]⟩ [("_law_script",u)])/\∀base:Heap,(K w.params).In base->base.Ns mainGlobals mg->uq l.prog w (K w.params) mg base ui 10 fa fd ["_law_script"] (VD (K w.params))) :
  W.WalkO q loose XP YP l.row.toRowW d [] (λf vs=>PySem.call f vs):=
 L3.walkB (n:=63) (k:=10) (x := "_law_script") (sp:=VD) hn (by decide) hdf ⟨rfl,by decide,by decide⟩ hY F λ_ _ a ns hl hb hS=>⟨a,ns,rfl,hS,hl,hb,λ_=>rfl⟩
end My
namespace PySem.W.Fast
def tw811900291051327712:=0
def tw9804506390588986881:=0
def tw14563974440809349669:=0
def tw1662325195446561753:=0
def tw873697144565041989:=0
def tw9237219784659734035:=0
def tw12113159401337903139:=0
def tw2714773506907686604:=0
def tw1387094405504208971:=0
def tw10229894533504123471:=0
def tw92692866004437687:=0
def tw651336775984497861:=0
def tw9239975723951679631:=0
def tw2048344460088488310:=0
def tw16829716713005715215:=0
def tw7379190908150429833:=0
def tw17553071601766356511:=0
def tw15951579659934498903:=0
def tw15004185681529073885:=0
def tw11734964073112870724:=0
def tw12306154458272710741:=0
def tw11413464707826589867:=0
def tw4765209019801473061:=0
def tw17099353877196360097:=0
def tw15758033771930935504:=0
def tw5848527051005190675:=0
def tw2198132980692582746:=0
def tw9898107111568811329:=0
def tw3600412415431601725:=0
def tw7282841786492913359:=0
def tw8855242264856648870:=0
def tw5118026115656206176:=0
def tw11495315056851420265:=0
def tw5053013060213165584:=0
def tw13428391084546566275:=0
def tw3936574835046994004:=0
def tw4652213779889614625:=0
def tw15372885963282031996:=0
def tw12195555325221672269:=0
def tw16515330783028516628:=0
def tw12437707620972548440:=0
def tw3496229777930101478:=0
def tw15317047587485890746:=0
def tw17811316643556291034:=0
def tw8822278762290016130:=0
def tw8355686202189290159:=0
def tw17305668742668984265:=0
def tw12066188581640586734:=0
def tw8843801752910953760:=0
def tw4348654075204007430:=0
def tw9257326591538679564:=0
def tw4982287999511200966:=0
def tw15646060842311435401:=0
def tw11862623779682209086:=0
def tw7981350678977706869:=0
def tw12087376770355631740:=0
def tw3138410649329302910:=0
def tw7466992660242806114:=0
def tw783354987282313411:=0
def tw14660895335261645780:=0
def tw16064327898730136283:=0
def tw14673674350644121523:=0
def tw10289003129268831102:=0
def tw2126611705982578880:=0
def tw6932904685498454363:=0
def tw4629736309536727792:=0
def tw10210305664749314564:=0
def tw9623267369749514476:=0
def tw562816665329005598:=0
def tw3801960500323381860:=0
def tw14403130213876382910:=0
def tw3580780494582545676:=0
def tw10536985571678883676:=0
def tw15771283858583434857:=0
def tw14673719104547511576:=0
def tw909381681458683339:=0
def tw4048981099095568034:=0
def tw6217648763515832251:=0
def tw104117765306751637:=0
def tw16769129175276724373:=0
def tw16890576655513272511:=0
def tw3337572001011317854:=0
def tw14425010896662890645:=0
def tw2645056132574543339:=0
def tw941863660572241223:=0
def tw14164658797136962792:=0
def tw1167129856630255614:=0
def tw2629494589453524397:=0
def tw613022167475920934:=0
def tw4720891313373312107:=0
def tw6645431518824122552:=0
def tw3741347012516669526:=0
def tw9729470719379443696:=0
def tw1394946018926603080:=0
def tw3137725837482145229:=0
def tw5079435276723672276:=0
def tw6225235985529306640:=0
def tw13656295941825075797:=0
def tw18066200970160543689:=0
def tw10317376278631271357:=0
def tw14492077519443363165:=0
def tw11742545185848940090:=0
def tw832510818722520178:=0
def tw11029454193796705919:=0
def tw1587101679103759434:=0
def tw5729347416789925161:=0
def tw11727815683420317849:=0
end PySem.W.Fast
open PySem PySem.W PyProof.Rows
set_option maxRecDepth 100000 in
set_option maxHeartbeats 0 in
theorem PySem.Challenge.cw_markrun_k56_short_is_settled_holds : PySem.Challenge.rw_markrun_k56_short_is_settled.Holds := by
 w_on; o_law; k_head; (case hw=>w_witness2)
 k_fill
 refine My.walk (l:=PySem.Challenge.rw_markrun_k56_short_is_settled) rfl rfl (λw h Y=>PySem.W.kIn_of Y) ?F
 case F=>
  intro w mg fa h KX G hmg;refine' My.all_mk KX G hmg ?a0 ?l0 ?c0 ?k0 ?a1 ?l1 ?c1 ?k1 ?a2 ?l2 ?c2 ?k2 ?a3 ?l3 ?c3 ?k3 ?a4 ?l4 ?c4 ?k4 ?a5 ?l5 ?c5 ?k5 ?a6 ?l6 ?c6 ?k6 ?a7 ?l7 ?c7 ?k7 ?a8 ?l8 ?c8 ?k8 ?a9 ?l9 ?c9 ?k9 ?a10 ?l10 ?c10 ?k10 ?a11 ?l11 ?c11 ?k11 ?a12 ?l12 ?c12 ?k12 ?a13 ?l13 ?c13 ?k13 ?a14 ?l14 ?c14 ?k14 ?a15 ?l15 ?c15 ?k15 ?a16 ?l16 ?c16 ?k16 ?a17 ?l17 ?c17 ?k17 ?a18 ?l18 ?c18 ?k18 ?a19 ?l19 ?c19 ?k19 ?a20 ?l20 ?c20 ?k20 ?a21 ?l21 ?c21 ?k21 ?a22 ?l22 ?c22 ?k22 ?a23 ?l23 ?c23 ?k23 ?a24 ?l24 ?c24 ?k24 ?a25 ?l25 ?c25 ?k25 ?a26 ?l26 ?c26 ?k26 ?a27 ?l27 ?c27 ?k27 ?a28 ?l28 ?c28 ?k28 ?a29 ?l29 ?c29 ?k29 ?a30 ?l30 ?c30 ?k30 ?a31 ?l31 ?c31 ?k31 ?a32 ?l32 ?c32 ?k32 ?a33 ?l33 ?c33 ?k33 ?a34 ?l34 ?c34 ?k34 ?a35 ?l35 ?c35 ?k35 ?a36 ?l36 ?c36 ?k36 ?a37 ?l37 ?c37 ?k37 ?a38 ?l38 ?c38 ?k38 ?a39 ?l39 ?c39 ?k39 ?a40 ?l40 ?c40 ?k40 ?a41 ?l41 ?c41 ?k41 ?a42 ?l42 ?c42 ?k42 ?a43 ?l43 ?c43 ?k43 ?EM ?EL ?EI ?ET ?EN ?EH ?EU ?EV ?EO ?ER ?ES ?EK ?EQ ?EJ ?CB ?OT ?CJ ?CC ?CH ?OX ?CK ?Ce ?Ch ?CL ?Cl ?Cy ?E4 ?E6 ?E8 ?Cf ?Ci ?C9 ?Ck ?Cw ?E3 ?E5 ?E7 ?E9 ?EA ?EB ?EC ?ED ?Cm ?Cn ?Co ?Cp ?Cq ?Cr ?Cs ?Ct ?Cu ?Cv ?Cz ?C_ ?Cc ?Cg ?CI ?C8 ?CF ?OV ?CG ?OW ?CD ?OU ?CN ?OZ ?CO ?Oa ?CM ?OY ?CA ?Cd
  all_goals try (first|k_is|k_exc|kit_is|kts_exm)
  all_goals decide
