import PyProof.Rows.All
import Wide.All
import OpenK.AllK
import Wide.FinOn
import Lean
import PyProof.EqAt
import PyProof.EqKinds
import PyProof.TupleCall
import PySem.Challenge.RW_markrun_k57_parts_leave_the_same
set_option Elab.async false
set_option linter.all false
set_option maxRecDepth 100000
set_option genSizeOf false
set_option genInjectivity false
set_option compiler.extract_closed false
set_option bootstrap.genMatcherCode false
section
open Lean
def rb0(f:Syntax→Syntax)(s:Syntax):Syntax:=s.rewriteBottomUp f
def ix0(b w:Nat)(s:Syntax):Nat:=match s with
 |.ident _ _ (.str .anonymous x) _=>
  let n:=x.front.toNat
  let n:=if b=192&&970≤n then n-586 else n
  if n<b||b+w≤n||2<x.length then 99999 else 2*(if x.length=1 then n-b else n-b+w*(x.back.toNat-96))
 |_=>99999
def wr0(k:Name)(x:Array Syntax):Syntax:=.node .none ``Parser.Tactic.rcasesPatLo #[.node .none ``Parser.Tactic.rcasesPatMed #[mkNullNode #[.node .none k x]],mkNullNode]
def pt0(s:Syntax):Syntax:=rb0 (λs=>if s.isIdent then wr0 ``Parser.Tactic.rcasesPat.one #[s]else if s.isOfKind ``Parser.Term.hole then wr0 ``Parser.Tactic.rcasesPat.ignore #[s[0]]else if s.isOfKind ``Parser.Term.anonymousCtor then wr0 ``Parser.Tactic.rcasesPat.tuple s.getArgs else s) s
def hs0:Nat→Syntax→Bool
 |0,_=>false
 |n+1,s=>!s.isOfKind ``Parser.Term.byTactic&&(s.isOfKind ``Parser.Term.syntheticHole||s.getArgs.any (hs0 n))
def fs0(s:Syntax):Syntax:=match s with
 |.node _ k a=>if k==`«term{_}» then .node .none ``Parser.Term.anonymousCtor #[mkAtom "⟨",a[1]!,mkAtom "⟩"]
  else if k==choiceKind then (a.find? (·.isOfKind ``Parser.Term.anonymousCtor)).getD s
  else if k==``Parser.Tactic.tacticLet__ then
   let p:=s[2][0][0]
   if p.isOfKind ``Parser.Term.anonymousCtor then .node .none ``Parser.Tactic.obtain #[mkAtom "obtain",mkNullNode #[(pt0 p)[0]],mkNullNode,mkNullNode #[mkAtom ":=",mkNullNode #[s[2][0][4]]]]
   else if s[1][0].getNumArgs=0 then .node .none ``Parser.Tactic.tacticHave__ (a.set! 0 (mkAtom "have"))
   else s.setArg 1 (.node .none ``Parser.Term.letConfig #[mkNullNode])
  else if k==``Parser.Tactic.show then if hs0 99 s then .node .none ``Parser.Tactic.refine #[mkAtom "refine",s[1]]else .node .none ``Parser.Tactic.exact #[mkAtom "exact",s[1]]
  else if k==``Parser.Tactic.exact then .node .none ``Parser.Tactic.show #[mkAtom "show",s[1]]
  else if k==``Parser.Command.declModifiers then if s[6][0].isOfKind ``Parser.Command.nonrec then (s.setArg 4 (mkNullNode #[.node .none ``Parser.Command.noncomputable #[mkAtom "noncomputable"]])).setArg 6 mkNullNode else s
  else s
 |_=>s
def tq0(s:Syntax):Bool:=s.isOfKind ``Parser.Tactic.rwSeq&&s[2][1][0][1].isOfKind ``Parser.Term.paren&&s[2][1][0][1][1].isOfKind ``Parser.Term.byTactic
def fb0(t s:Syntax):Syntax:=match s with
 |.atom _ v=>.atom .none v
 |.ident ..=>let u:=t[1][0][1][ix0 192 242 s]
  if u.isMissing||u.isOfKind numLitKind then s else u
 |.node _ k a=>if k==``Parser.Term.app then
   let u:=t[1][2][0][1][ix0 913 57 s[0]]
   if u.isMissing||u.isOfKind numLitKind then s else rb0 (λx=>let y:=s[1][ix0 7936 8 x/2]
    if y.isMissing then x else y) u
  else if k==nullKind then
   let l:=s[0][2][1][1][0][0][0][4][1]
   if l.isMissing then (if a.any tq0 then mkNullNode (a.flatMap λc=>if tq0 c then c[2][1][0][1][1][1][0][0].getArgs else #[c]) else s) else mkNullNode (l.getArgs++a.extract 1 a.size)
  else if k==``Parser.Command.print then .node .none ``Parser.Command.end #[mkAtom "end",mkNullNode (if s[1].getId==`a then #[]else #[s[1],mkNullNode])]else .node .none k a
 |_=>s
end
open Lean in
local macro_rules(kind:=Lean.Parser.Command.mutual)|s=>do
 let c:=s[1][0]
 unless c.isOfKind ``Parser.Command.check do Macro.throwUnsupported
 let g:Syntax→Syntax:=λt=>rb0 (fb0 t) t
 return rb0 fs0 (rb0 (fb0 (g (g (g (g (g (g c[1]))))))) (s[1].setArg 0 mkNullNode))
mutual
#check([some,List,Nat,true,false,none,Int,Str,Prop,Option,(by omega),Addr,base,autoParam,Shared,Bool,if_pos,if_neg,(by decide),PySem.wpAny_bind,W.Frag,Expr,(by simp only[_root_.L3.yM,_root_.L3.zR,_root_.L3.yF,_root_.L3.t4,_root_.L3.yY,_root_.L3.vY,_root_.L3.qz,_root_.L3.yS,_root_.L3.yi,_root_.L3.ZW,_root_.L3.nC,_root_.L3.u_,_root_.L3.qy,_root_.L3.jx,_root_.L3.e1,_root_.L3.e2,_root_.L3.eL,_root_.L3.eC,_root_.L3.z7,_root_.L3.tV,_root_.L3.zB,_root_.L3.zF,_root_.L3.tE,_root_.L3.Y0,_root_.L3.ub,_root_.L3.kN,_root_.L3.gI,_root_.L3.XQ,_root_.L3.JX,_root_.L3.Le,_root_.L3.jJ,_root_.L3.xz,_root_.L3.xV,_root_.L3.XR,_root_.L3.Jx,_root_.L3.kQ,_root_.L3.qK.sel,_root_.L3.fI,_root_.L3.jK,_root_.L3.qN,_root_.L3.Ja,_root_.L3.Jb,_root_.L3.yx,_root_.L3.vF,_root_.L3.dG,_root_.L3.vg,_root_.L3.T5,_root_.L3.wz,_root_.L3.gi,_root_.L3.uj,_root_.L3.Ll,_root_.L3.XS,_root_.L3.Lm,_root_.L3.VF,_root_.L3.zt,_root_.L3.vq,_root_.L3.w_,_root_.L3.zg,_root_.L3.wQ,_root_.L3.wK,Option.bind_some,Option.bind_none,List.getElem?_cons_zero,List.getElem?_cons_succ,List.set_cons_zero,List.set_cons_succ,List.map,List.cons_append,List.nil_append,List.length_cons,List.length_nil,List.replicate_zero,List.replicate_succ,Bool.not_true,Bool.not_false,decide_true,decide_false,Bool.and_self,Bool.and_true,Bool.true_and,Nat.reduceAdd,Nat.reduceSub,Int.reduceLT,Int.reduceLE,Int.reducePow,Int.reduceToNat,Int.reduceAdd,Int.reduceSub,Int.reduceMul,Int.reduceNeg]),0,wpAny,Array,X.env,s.heap.objs.size,Stmt,absurd,Keyed,(zD z6),"RowMachine",s.heap,(Or.inl rfl),sizeLine,(Bool×D),List.length_map,World,heap,List.length_append,(model prog w),And.intro,Reps,xs.length,PyProof.Rows.wpS_bind,(i+1),Program,X.mg,X.N.length,PySem.wpAny_pure,(by simp),(Ë×Obj),X.prog,s.heap.get?,0,Around,decide_eq_true,cons,(z7 1),PyProof.Rows.wpS_pure,(z7 0),ds.length,False,(.bl Ä),SortSt,(zD X),prog,(model X.prog X.w),[b,a],data,outer,List.length_cons,Nat.le_trans,h'.get?,getK,Bool.and_eq_true,vs.length,(z8 1),(e::es),s.toks,toks,List.getElem?_eq_getElem,Int.toNat_natCast,decide_eq_false,Value.ref,I.zh,Heap.get?_push_of_some,mainGlobals,h.get?,D.int,eval,List.mem_cons_self,(eC (.int 0)),(z8 0),ps.length,(Ŕ _),Heap.lt_size,"list",(n+1),(.ref f),List.size_toArray,Bool.false_ne_true,List.mem_cons.mp,all_at,X.xe,(z7 3),name,(.bl Ã),"items",List.mem_singleton.mp,(Æ×Æ),(kP ps),Sum.inl,(zT (zO b)),Array.length_toList,(z7 2),X.base,PySem,List.getElem?_eq_some_iff.mp,(eC (.int 1)),(Sum Æ Ç),Nat.zero_add,"State",l.prog,scope,List.map_cons,z.length,ks.length,(Ľp=Ä),z6.size,FuncData,(by simp only[_root_.L3.yM,_root_.L3.zR,_root_.L3.yF,_root_.L3.t4,_root_.L3.yY,_root_.L3.vY,_root_.L3.qz,_root_.L3.yS,_root_.L3.yi,_root_.L3.ZW,_root_.L3.nC,_root_.L3.u_,_root_.L3.qy,_root_.L3.jx,_root_.L3.e1,_root_.L3.e2,_root_.L3.eL,_root_.L3.eC,_root_.L3.z7,_root_.L3.tV,_root_.L3.zB,_root_.L3.zF,_root_.L3.tE,_root_.L3.Y0,_root_.L3.ub,_root_.L3.kN,_root_.L3.gI,_root_.L3.XQ,_root_.L3.JX,_root_.L3.Le,_root_.L3.jJ,_root_.L3.xz,_root_.L3.xV,_root_.L3.XR,_root_.L3.Jx,_root_.L3.kQ,_root_.L3.qK.sel,_root_.L3.fI,_root_.L3.jK,_root_.L3.qN,_root_.L3.Ja,_root_.L3.Jb,_root_.L3.yx,_root_.L3.vF,_root_.L3.dG,_root_.L3.vg,_root_.L3.T5,_root_.L3.wz,_root_.L3.gi,_root_.L3.uj,_root_.L3.Ll,_root_.L3.XS,_root_.L3.Lm,_root_.L3.VF,_root_.L3.zt,_root_.L3.vq,_root_.L3.w_,_root_.L3.zg,_root_.L3.wQ,_root_.L3.wK,Option.bind_some,Option.bind_none,List.getElem?_cons_zero,List.getElem?_cons_succ,List.set_cons_zero,List.set_cons_succ,List.map,List.cons_append,List.nil_append,List.length_cons,List.length_nil,List.replicate_zero,List.replicate_succ,Bool.not_true,Bool.not_false,decide_true,decide_false,Bool.and_self,Bool.and_true,Bool.true_and,Nat.reduceAdd,Nat.reduceSub,Int.reduceLT,Int.reduceLE,Int.reducePow,Int.reduceToNat,Int.reduceAdd,Int.reduceSub,Int.reduceMul,Int.reduceNeg,_root_.L3.xW,_root_.L3.ZN,_root_.L3.ZO,_root_.L3.ZP,_root_.L3.jR,_root_.L3.tM,_root_.L3.wO,_root_.L3.ju,_root_.L3.JR,_root_.L3.z2a,_root_.L3.z28,_root_.L3.Yf,_root_.L3.RT,_root_.L3.RS,_root_.L3.x6p,_root_.L3.Tt,_root_.L3.LR,_root_.L3.z27,_root_.L3.gb,_root_.L3.g6,_root_.L3.putAt,_root_.L3.z1f,_root_.L3.y70,_root_.L3.gj,_root_.L3.hide,_root_.L3.p6,_root_.L3.x3f,_root_.L3.x3g,_root_.L3.x3h,_root_.L3.x3i,_root_.L3.x3j,_root_.L3.x3k,_root_.L3.x46,_root_.L3.x47,_root_.L3.x48,_root_.L3.x49,_root_.L3.x4a,_root_.L3.x4b,_root_.L3.x4c,_root_.L3.Hz,_root_.L3.ZQ,_root_.L3.VM,_root_.L3.pW,_root_.L3.z9n,_root_.L3.Ho,_root_.L3.z9i,_root_.L3.z9j,_root_.L3.vM,_root_.L3.Uw,_root_.L3.wH,_root_.L3.z0y,_root_.L3.jD,_root_.L3.z1b,_root_.L3.Tx,_root_.L3.LV,_root_.L3.jO,_root_.L3.Y6,_root_.L3.pQ,_root_.L3.JU,_root_.L3.E8,_root_.L3.ZF,_root_.L3.Lg,_root_.L3.wZ,_root_.L3.dP,_root_.L3.z3k,_root_.L3.z3j,_root_.L3.z2b,_root_.L3.z29,_root_.L3.z83,_root_.L3.TD,Option.map_some,Option.map_none,List.take_succ_cons,List.take_zero]),List.replicate,List.getElem?_map,PyProof.Rows,kvs.length,a.size,["state","row"],(wI Ws),(.ref a),(zZ st),HT.sIx,"set",cond,PySem.Spec,"self",StateT,Nat.le_refl,PySem.sizeLine_eq,(.inl rfl),N.length,(.str w),(.dK kvs),ys.length,(.ref C),ns.length,(z7 4),(k+1),cpos,Nat.lt_of_lt_of_le,of_decide_eq_true,(a.d2 X G),(z8 2),(z_ X i),[.lst z6],congrArg,W.kitOne,E.l2,E.l1,List.append_assoc,(vP ps),(.ref p),z.elim,X.calm,zero,List.mem_cons_of_mem,Heap.get?_push_size,List.all_cons,(Ûa 8),iter,K.In,List.getD_eq_getElem?_getD,(.Name x xp),(a.d1 X G),(.int 0),if_true,succ,List.mem_append.mp,(yB _),bootBuiltins,"tuple",o.push,rawInt,OwnMs,apos,List.append_nil,Nat.ne_of_lt,Nat.zero_le,"unless",es.size,b.size,W.nsIn,I.wE,X.length,I.list,cLine,P.it,K.go,List.mem_of_getElem?,Nat.le_add_right,its.toArray,r.length,ps.map,k.toNat,(xf 0),stop,(zB ý zF),(ns.map D.int),[.ref a],add_int,"when",[b,a,c],o.data,(j+1),List.mem_map.mp,X.env.locals,"carry",K.lookup,(À v),"copy",j.toNat,(zW×V),I.tok,(u q),(by decide +kernel),0,"_law_script",Option.some.inj,List.length_set,(wR I q ó),(z8 3),L.length,(.int i),(z7 6),"dict",(a σ),D.str,plain,pos',seen,rows,F.dj,List.not_mem_nil,List.foldl_cons,s.heap.push,(.int (i:Æ)),X.env.scope,ns.map,g.length,d.length,b.length,W.keepIn,(Ĝ ..),(vf st),0,I.tuple,(Ņa s),l.map,List.range,((ď).all xC=Ã),List.length_take,(Or.inr rfl),(.int 8),"nought",us.length,(z8 4),(zM zo),c.length,"sign",String,Scope,Unit,(vN X scope cl own C s H fp pn),(λ_ z=>nomatch z),List.length_range,Nat.le_of_lt,(.Name x pos),List.map_map,(xR prog w),"held",(ò ?_),P.length,I.ok.hd,"test",x.size,r.mono,0,D.bl,getA,List.mem_range.mpr,List.all_eq_true.mp,(by simpa using h),"number",Int.le_of_lt,(xC e=Ã),X.N.Nodup,A.handled,if_false,a.length,(.int 1),(z8 6),(À c),"jump",(Ìc _),"subc","addc",elem',E.go,args,compareOp,(.type Ģ),(.lst ŋ),False.elim,(.ref Û),"storew",(.lst xs),"right",(À ś),"store",xs.size,vn.cons,(zK T),"row",label,I.loc,F.at_,h.Ns,List.mem_append_right,List.length_replicate,Array.getElem?_toList,Builtin.bitAnd,X.env.cells.lookup,Nat.succ_le_succ,PySem.wpAny_mono,(λz=>nomatch z),List.map_append,(a==sysModules),SetTable.below,(.inr z),ms.length,f.length,"word","left",j.length,(z8 2),(Û+1),IsPair,I.cell,zQ.t9,"zip","sub","add",ya.of,I.pin,F.ok,step,(.Call (.Name x p) ď [] pos),List.getElem?_append_left,Int.eq_ofNat_of_zero_le,List.getElem?_eq_none,(by simpa using e),Str.ofString,(zC Ğ zN),List.length_drop,zQ.refl,Nat.ne_of_gt,(zW×Value),z6.length,fs.length,Ws.length,(À Ĥ),(.tup xs),"table","loadw",(zO b),W.findIn,T.length,yE.refl,X.stack,"range","load",PyProof,A.units,(uE F),most,keep,X.fs,E.ow,E.fr,(X.fn x=Ã\/X.env.scope.names.lookup x=À .local),(À (Ä,.int (m:Æ))),List.filter_cons_of_pos,List.filter_cons_of_neg,PySem.wpAny_holding,(eq_of_beq c),(Â×Â×Â),List.mem_cons,(.type "int"),(.str "subc"),(.str "addc"),Heap.SameBut,"sorted",True.intro,E.ext.gh,(.type ſ),vs.toArray,"state",(.int 2),X.A.units,(a &&& p),K.ext.gh,t.length,SetTable,L2.cutS,t.place,(Á D),(z8 5),intsOf,I.laid,I.free,I.bare,(f β),keyOf,"and",r.get,V.ref,E.own,"or",E.lp,(by with_unfolding_all rfl),(eC (.int 2)),List.take_append_drop,Builtin.bitOr,"_law_items",(.str "jump"),a.heap.objs.size,beq_self_eq_true,(by kernel_rfl),Heap.size_push,(.type "bool"),(.ye o ř),(Æ×Value),"_law_k",Int.le_refl,binaryOp,(zM Ğ),(É Value),its.length,(z7 5),(Ç×Ë),(.int 16),a.toArray,W.kia_one,(zM zE),(g i j),(xG t L),or_false,(ķ h),(À m),(κ×V),(x::xs),y.Perm,(zt 1),(zK a),(tW x),(lo+i),(k<=j),0,isort,(W i),yb.tr,tplDs,V.int,"xor",o.cls,IsZip,A.in1,(j-1),memK,its',D.nx,PySem.PassesOwn.never,((apos.endLine==cpos.line)=Ã),beq_eq_false_iff_ne.mpr,(zB û zF),"_law_first",(x ≠ "__name__"),own.length,attributeBase,foldedSetIterable,"registers",starEach,a.toList.drop,(Nat.sub_le _ _),(eC (.int 3)),Nat.min_eq_left,0,(.str "test"),List.nodup_nil,(.builtin id),(.str "add"),List.any_cons,(ks.zip vs),(.type "str"),"truths","words",(Wf z6 m),h.objs.size,ForInStep,(.ref it),b.extract,(Ða V.int),Obj.mapSeq,(.inl z),"__init__",(xR P w),b.toArray,(ķ hi),envOfC,y.toList,s.TypeIs,Reps.imp,I.turned,(qo rfl),"high",IntsAre,L.map,(ϐ _),0,(xV zF),(wm z6),X.H₀,f.map,(z7 7),(py i),"due","law",value,I.len,(x+1),item,body,P.jf,E.ap,(.tup [.str k,.int (d:Æ),.int (s:Æ)]),PySem.wpAny_field,PySem.wpAny_call_entry,PySem.wpAny_seqItems,Array.getElem_toList,List.replicate_succ,Nat.lt_of_le_of_lt,List.zip_cons_cons,(eC (.int 4)),(.str "stop"),(e2 zH û ĝ),b.toArray.size,(.ins C dx fs),I.zh.fresh,(σ++[À v]),Value.none,A.deeper,(a.d3 X G),"memory",c.trans,I.ok.kind,(.type T),(gt T i),(.inl a),codeAny,BindsTo,(Ûa n),qs.map,"end",(zt 3),(zD L),(jQ X),forIn,D.tup,small,IsTup,E.pin,[d,s],x.gh,putF,call,I.pE,(zV Ĳ zU Ď zE),(.ListComp elt [{tg,iter,ifs,0}] scope pos),"_law_mark_here",List.getElem?_append_right,Nat.lt_succ_self,(e2 zH ý ĝ),Int.emod_lt_of_pos,a.toList.take,Bool.false_eq_true,Int.emod_nonneg,Builtin.bitNot,"set_iterator",Nat.testBit_and,(N.map D.str),(EP X zA σ Q),a.extract,Nat.le_of_eq,Nat.min_self,(K w.params),(.str "sub"),(.str "and"),swapsWith,DecidableEq,(Á zW×V),(model P w),(.str "or"),SeqAt.EqAt,(zM ϻ),(.ref I),scanBound,Value.str,(eC ßa),(eC .zP),(Ű _ b),(.nx β2),"stands",q.toList,W.codeIn,List.map,(Ç×V),(.ref l),(.inl h),Ne.symm,z.symm,(À d),(.bl b),(z8 7),(z8 3),(lo+k),putAt,N.len,names,N.map,E.ext,(w=0),hide,True,K.lp,(backToKw pos (keywordEach [] Ú)),((x==("__classdict__" : Ç))=Ä),List.mem_append_left,"first_words",List.pairwise_append.mp,List.drop_eq_getElem_cons,List.mem_filter.mp,(.tup [.str "stop"]),Nat.lt_succ_of_lt,List.filter_append,(zC Ď zN),rows.length,List.getElem_mem,b.toList.take,Nat.le_antisymm,beq_iff_eq.mpr,a.toArray.size,a.names.lookup,(.dic hk hv),(À (Ã,d)),(.Name x p),"enumerate",Nat.sub_self,(yP x p f g),(.lst ys),(.int 32),L.filter,decide_true,d.trans,(Θ (x+3)),"places",pos.line,(dl++[m]),beq_iff_eq,Value.type,(z_ z6 i),es.toList,Value.int,PassesOwn,(Ņa Ŭa),(Á Â),(j d ó),(.dT kvs),R.length,["item"],(.int v),"thing",x.length,l.length,i.length,callWith,(w_ ý),(vv Ğ),(g d σ),(Pf X i),(.str x),(.str t),(.str k),(.ref z),(.int 3),Rd.mono,(c b a),"stop",nextOf,Sum.inr,0,(ϳ _),(uS i),assign,L2.ixN,IsPart,drawn,[x,y],self,s.ws,s.ps,many,dEqs,cont,X.pn,P.ln,I.os,"abcdefghijklmnopqrstuvwxyz",Nat.lt_irrefl,Int.natCast_nonneg,[À (Ä,.lst a),Å,Å,Å,Å],List.take_succ_eq_append_getElem,PySem.wpAny_newObj_type,X.s₀.heap.objs.size,(wB zN (yN yX Ò)),Option.isSome_iff_exists.mp,(List.length_filter_le _ _),PySem.codeAny_builtin,Nat.mod_two_eq_zero_or_one,0,PyProof.Rows.wpS_forRange,[.int w,.int 31,.int 1],List.take_of_length_le,(st ws a b c hk hv),(À (Ä,d)),(by simpa using c),Nat.lt_of_succ_lt,Option.bind_some,Nat.zero_testBit,"first_held",(u_ 4 uR (z7 5)),List.nil_append,List.length_zip,(yP a0 p0 f0 g),(zC zE zN),Sum.inl.inj,isort_perm,behindInMarks,b.toList.drop,(Α (z7 2)),Nat.lt_or_ge,List.zipWith,(Ç×Value),(λd=>!zi d),(λ_ _=>ÿ),fs.lookup,(Θ (x+2)),(Θ (x+1)),(Θ (x+0)),(ps.zip us),(.type Ãa),0,(Α Ī),SortSt.mk',(λ_=>Å),(xX X.K F),(thaws ms),(.inr rfl),DictEntry,n.length,(Ν ϯ),(Ù Þ),(I z x y),(.lst []),(ϟ pD),"rows",ts.map,"do_sum",x.toList,o.length,NameKind,(ġ e),(top 93),(L++[d]),(.lst X),(.int j),valueAt,W.mg_of,Nat.ble,Iff.rfl,zQ.lay,(ϰj s),xs.map,t.fits,stored,q.size,o.elim,backTo,(zt 2),(Wf X),a.map,"int",whole,t.led,field,bindL,bindC,nds',hi.h,c.gh,P.tg,P.nd,(zV Ĳ zU Ğ zE),[.str "jump",.str t],(starEach ď Ú=(Ä,eval e Ú)::starEach es Ú),(zV Ĳ zU (vH Ğ wN) ıb),(.tup [.str "set",.str "high"]),(qN λi j=>decide (i<j)),List.Perm.refl,Array.getElem?_eq_getElem,(f.map D.str),PySem.wpAny_passesOwn,(Á zW×Ë×Value),Nat.add_le_add_left,Array.toList_append,(λC s H c b=>tq),[.bl a,.bl b,.bl c],(getMethod ov m pl),(Ða WData.int),(z6.take i),(Ûa (ß).length),(.str "left"),Nat.le_succ_of_le,Nat.le_of_lt_succ,List.flatten_cons,(λC s H d c=>tq),(zX uX uW Ğ zE),(eC (.dic [] [])),[.at [Ļ] ða],Int.not_lt.mp,PySem.call_meets,List.take_length,List.mem_map.mpr,List.cons_append,F.heap.objs.size,(wg as vs ks us),"set-order","isinstance",X.env.kindOf,List.mem_append,List.length_nil,Bool.or_eq_true,Bool.eq_iff_iff,s.heap.update,(τ++Ņ k Å),"_law_many",g.objs.size,(yP y q Å g),(.tup [x,y,z]),"_law_found",(dl'++[m]),(YU Vq Vp zE),(xG t z6),(.int x),(ű _ rfl),(start N vs),(failedOf s),(F.ok i q z),(.str "xor"),apos.atName,List.lookup,(.tup īc),(.str ϭ),(.int 2047),(.int (-1)),"__next__",sep.length,env.kindOf,Str.length,(ze H p o),(kindOf s),(Zc a b c),x.testBit,m.testBit,OwnMs.imp,[ða,Åd],(Β Ěa),(Γ ıa),(É Â),(λ_=>?_),(start _),(j s ó),(arrOf s),(Uf z6 m),(Pf z6 m),(.rt o d),r.append,Y.length,(lo+hi),e.trans,(õb zK),(gt T w),(İc _),s'.heap,l.toNat,kvs.map,N.Nodup,I.fresh,(Ād c),(ĵb _),(Wf z6),ys.all,fs.map,"done",wf.one,modify,l.mono,h.elim,eq_int,Ws.set,W.fnOf,(ux n),(lo+m),(e σ),(c σ),"run",z.cps,xJ.of,x.new,thaws,Xn.nd,(i+k),insI,putO,nds2,hv.h,hk.h,e.gh,dict,I.ok,[À (Ä,.str name),À (Ä,.lst ß),À (Ä,.dic ks vs),À (Ã,.dic K V),À (Ä,.str a)],[.str w,.str k,.str t],0,(qT (l.map λi:Â=>(i:Æ))),(.Call (.Attribute o m apos) [] [] pos),(.tup [.str "left",.str "right"]),PySem.wpAny_callSpecial?_slot,Array.getElem?_eq_some_iff.mp,(.str "label"),PySem.Around.under_plainId,(wy T e fw fh sd due done),w.params.followText,(.int 4294967296),"address",X.env.scope.names.lookup,PySem.wpAny_setField_rec,PySem.wpAny_Call_Name_kw,PySem.wpAny_pyIter_list,List.getElem?_replicate,"_law_names_here",(.dic İ ū),Nat.add_sub_cancel',(zX w6 x_ Ď zE),List.drop_eq_nil_of_le,(vj x rr tt d r κ Lf),(by exact 1<30;decide),(YV h ó λn q j=>?_),List.getElem?_toArray,Heap.get?_update_self,(seqObj Ģ #[] 0),List.all_eq_true.mpr,0,"StopIteration",List.nodup_cons.mpr,List.mem_filter.mpr,(ςa (Òb ď Ú)),(.Name o op),PySem.wpAny_rule,PySem.wpAny_typeOf,PySem.codeAny_mono,[Y8 X fw fh s i j],(ςa (Òb es Ú)),(zV Ĳ zU ϻ zE),(zV Ĳ zU ţ zE),(L.foldl (vX t) s),(.type "NoneType"),x.extract,(Ía W.emptyDict),(σ++Ņ Îb Å),c.heap.objs.size,Nat.testBit_succ,(.fz (.int m)),[.int i,.bl Ã],(.builtin "len"),Nat.succ.inj,(kB (yR b)),WData.weightAll,List.find?_cons,(X.N[i]?=À x),"_law_most",I.base.free,s.heap.IsTuple,(Θ (x+n)),0,(τ.set i Å),(fs.map V.ref),(.inl (n:Æ)),(.inl (m:Æ)),(yN Že Ò),Bool.true_and,many.toNat,[Œ,àb,ða],b.trans,(eL uj ϣ),W.callWith_K,Nat.add_comm,(knd.hash k),(.tup [x,y]),eq_of_beq,Array.getD,scope.names,OwnMs.cells,L2.isort,I.ok.mod.Yu,(.tup ϵc),(.str ĕa),(κ×Value),(uQ (vS e)),(e1 gi ĸ),a.testBit,ord.length,(ϟa .Add),(zC q_ zN),(uT a Ļc),(gt T î),(gX Ïa x),(.lst Ă),(zM Ď),"place","items","do_bits",Reps.ints,[b,a,c,d],(Ĕb Ġ),(Ű _ c),(ė _ e),(c.val k),(.ref i1),[.ref p],["mark"],(us++ds),(Wf X i),(ϊ p),t.extBut,p.extBut,i.natAbs,Operator,G.extBut,(řg nd),(uT a L),(o++[l]),(lo+m-1),(gb r.1),(eC Àd),(F++[m]),(.ref x),(.own x),(.inr t),(ìa c),(ġ g),(w%256),(i∈R),(qv 2),"marks",h.trans,callerA,base.Ns,X.outer,K.ext.g,AllBare,(i==j),(ϑb c),(wI ns),(jH st),(e σ1),(G b d),(.bl k),"told",pyNext,c.symm,(zK R),y.size,pyIter,o.getD,ks.zip,isTrue,c.drop,Result,Paired,I.kept,(xm t),(v1 k),(c β),(b σ),(a::r),"one",slots,binds,a.any,Vh.nd,Vg.nd,Model,F.map,D.lst,(n+k),(m+4),(j+2),(g=1),(yN (zb (zb yX)) Ò),(.tup [.str "load",.str "store",.str "loadw",.str "storew"]),["self","table","end","registers","memory"],(min (if i<0 then i+(n:Æ)else i) (n:Æ)),(!w.params.followText "set-order"),PyProof.Rows.wpS_mono,(À (Ä,.int (need:Æ))),(!t.plain&&decide (es.size>1)),(xB T e fw fh s due done),(L.map λl=>.lst (zK l)),(SetTable.grown c.size),(eC (.str "when")),(yO (vI tZ b rfl Ńa)),(.Assign [.Name x pos'] e pos),(yN (zb yX) Ò),PySem.wpAny_setState_of,List.pairwise_iff_getElem.mp,(by simp only[ĥ]<;>omega),List.extract_eq_take_drop,List.pairwise_append.mpr,Builtin.List.listTooLong,PySem.wpAny_truthy_bool,PySem.fits_of_scanBound,PySem.F.plainAttrs_list,(assignEach es Ú),(Nat.not_lt_zero _),[À (Ä,.int x),Å],(λi:Â=>(i:Æ)),List.pairwise_cons.mp,(.UnaryOp .Not a pos),(zX w6 x_ ϻ zE),decide_eq_decide.mpr,Nat.eq_of_testBit_eq,List.mem_of_mem_take,Array.toList_extract,(by rw[E.l1];show c),(X.drop k++Y.take e),(.int (xj z6 a:Â)),PySem.plainId_quiet,List.mem_reverse.mp,List.length_zipWith,List.getElem_of_mem,List.getElem?_range,Int.toNat_of_nonneg,Builtin.Int.intBits,(.builtin Ūa),(À (Ã,.lst ds)),(λl=>D.lst (zK l)),(λ_ h=>by cases h),(ps.take i),xs.toList.Pairwise,ForInStep.yield,(by rw[ĳ];omega),(by rw[hl];decide),SetTable.below.go,List.mem_range.mp,List.getElem?_set,Array.toList_push,(yN (zb Že) Ò),(wI (Ws.set d w)),(relabel Ľ Ú),(Q2 b t2 á a d),((ϴ).mpr īa),(wQ uN ϣ),(.fz (.int w)),"_law_rows_here",0,List.lookup_cons,(wD z6 r),(Á D->É ä),(z6.map (uF z6)),(tj z6 F dl şa),sliceBounds,Nat.zero_lt_one,List.filter_nil,Int.min_eq_left,[.at [à] ůa],(À (V.ref p)),(tupleKind êb),(e2 zH Ĵ ĝ),(e2 xF û ĸ),(by simp;omega),((ϴ).mpr èb),(Wf z6 i),(V s+n),"other",Nat.not_lt.mpr,(Ωb (z8 4)),(wA ks vs k v),(.int (q:Æ)),s.heap.DictAt,Nat.add_assoc,Bool.or_false,[ða,Åd,Įa],[p0,p1,p2,p3],0,(Φc (b::yC)),(À (Ã,e)),(β++[À m]),(YG c.heap H),(.Name gn gp),(ě e Ú),"_law_items",isort_sorted,List.map_nil,Int.pow_zero,Int.ediv_one,I.base.there,Around.under,assignEach,(Ņ ģ []),a.heap.push,X.base.get?,OwnMs.focus,List.map_id,List.length,Int.one_mul,I.base.slot,(À (b,d)),(wH ŝ vM),(vz X.K FF),(ks.zip us),(f (p6 β)),(T.set m x),z6.filter,L2.start,(s q z),0,(ZU fs f),(.tup ys),(.fz ŝc),out.toList,its.toList,W.plainGet,(ze H a o),(xC a=Ã),(TQ e=Ã),(.str àa),(.dic K V),l.extBut,"do_move",y.testBit,I.base.uf,I.base.qE,I.base.pF,(pY ŏa),(.inr u),[Ϸ,ϝa],(Ćc Åa),(Φc Ûk),(Ďa .In),(οa ąa),(Θ Ìe),(ŭb _ z),(w8 ks k),(vs++dvs),(d.n X G),(.ye o u),(.tbl ps),(gj β),Y.take,y.length,y.extBut,w.length,s.drawn,p.toList,oneType',j.natAbs,h.length,h.extBut,h.DictOf,d.extBut,b.typeIs,b.toList,ZipApart,Reps.one,OwnMs.pG,C.extBut,B.extBut,(ϊe ?_),(zM ıb),(zK ϸa),(wz ϓa),(wz ģa),(wd Ť),(vz K F),(kP ϥd),(jn ß),(gl L p),(eC ϕa),(X.Z0 E),(.ref A),(.own a),(.int n),(.fz d),ds.set,X.drop,"again",x.trans,tS.with,i.toNat,getItem,cut_len,Un.kept,Sb.refl,E.ext.h,[p0,p1],(Ŝc.2),(ϰj d),(ĸb i),(ķ e),(zK ws),(xj z6),(c d a),(Pf z6),"step","bool",xs.all,u.keep,sIx_le,preSum,o.dict,layNew,knd.is,W.isFn,T.keep,I.base,B.kind,(zt 6),(zt 5),(wS f),(vX t),(uU x),(u::v),(tC v),(qv 4),(kS F),(Y0 x),(X++M),(Ux x),(0<=i),R.map,"str",wx.Os,start,m.map,error,atKey,Tg.nd,Tf.nd,Te.nd,Td.nd,T.obj,[a,b],(m%8),(i-1),(h a),(g _),(U i),(P i),(e2 zH (e1 (xv [Ļ] "words") ý) (e2 zH û ĸ)),(zb (zb (zb yX))),["table","end","first_words","first_held"],(.inl ((xj z6 a:Â):Æ)),PyProof.Rows.wpS_get,(.Call (.Attribute (.Name c p) m apos) ď [] pos),(.tup [.str (ła w),.int (d:Â),.int (s:Â)]),[.int g0,.int g1,.int g2,.int g3],(xB T e fw fh s d j),(Ïb o name Ú (eval o Ú)=eval o Ú),(.Call (.Attribute o m apos) ď [] pos),(V3 X.K 2 (jw (uS i) (jw (uS j) V2))),(Ņ (ß).length 0++[2047]),PyProof.Rows.subscriptTail_builtinR,Builtin.SmallTypes.ownedTupleIsFree,PySem.wpAny_askSetting,(c*48271+104729*k+7919*(Ŝ:Æ)+1),(mirror x lo (lo+m) ((lo+m-lo)/2)),(T.set m (rl (U m) (P m) T (W m))),(zc (gF (qv 4) (z8 5))),PySem.F.slot_tuple_iterator_next,[g0,g1*256,g2*65536,g3*16777216],Builtin.Str.occurrences,[wy T e fw fh (vJ s) due done],[.Subscript ŷ k pos'],(Ě (1*2 ^ ((w:Æ)).toNat)),(λc=>∃r,c.1=À r/\ua t r),(x.extract (d+ϖ) (d+ϖ+e)),(.tup [.str "label",.str t]),PyProof.Rows.callWith_type1,[À (Ä,.lst z6),Å,Å],(if k'=k then À v else _),(.type "method_descriptor"),[.Subscript o k pos'],(vE (own:=[ýa]) rfl),((u p).mpr Ŗ),(zV (zT (zO a)) zU Ď zE),Builtin.Slice.slicePlaces,(λw e=>TL g f r c w Ła),PySem.mem_of_lookup,PySem.tupleKind_room_in1,Builtin.Tuple.tupleExact,(seqObj Ģ d.toArray 0),((zK (Wf X i)).filter p),"set_iterator.__next__","set_iterator.__iter__",strSliceIndices,Builtin.Range.rangeSize,0,(e1 (xv [à] ůa) ý),(eC (.str ϰ)),Array.getElem?_eq_none,[1,26,676,17576,3,5,7],PySem.wpAny_execs_nil,PySem.F.slot_zip_next,List.nodup_append.mpr,List.length_singleton,[ýa,"target"],(.Name x pos'),(λ_=>œ ā Sem β),(vE (own:=[ϝa]) rfl),(by rw[E.l1];show hi),(.tup (hd++[.str u])),(.Subscript ŷ k sp),(.Return (À e) pos),Nat.sub_succ_lt_self,(σ.set i (À Ŭ)),(λn=>by kernel_rfl),(ys.any λy=>xh y x),(if b then 1 else 0),(Nat.lt_of_not_le c),(.Attribute e f pos),letOwnedTupleGo,beq_eq_false_iff_ne,PySem.wpAny_newList,PySem.wpAny_attempt,List.mem_map_of_mem,0,(æd (d+k) (d+ϖ)),(zV Ĳ zU Ğ Ď),(by simpa using hi),(by simpa using h1),Nat.sub_add_cancel,List.mem_singleton,(w/2147483648%2=1),(b∈X.ex\/Ñc<=b),(by simpa using b),(by simpa using a),(.int (p:Æ)),s2.heap.objs.size,(Η (zM Īc) ãa),decide_eq_true_eq,W.instObj,Nat.lt_trichotomy,List.getElem_drop,List.ext_getElem?,List.Pairwise.nil,[Œ,ĭ,Ñb,ęb],[(a:Æ),(b:Æ)],(Ç×Tok×Value),(yD YF b rfl Ńa),(by rw[M1];omega),((p,w)::P.zip vs),s.heap.FunFrames,PySem.wpAny_call,PySem.typeIs_str,Nat.testBit_zero,Nat.min_eq_right,List.map_fst_zip,0,List.filter_cons,Int.max_eq_right,(λi=>K x (b+i)),(w/16777216%256),(o++ŀb i (i+k)),(IS n x (c x a)),(.tup [x,y,z,w]),(.lst [a,b,c,d]),z.cps.toList,p.toNat.testBit,List.Perm.of_eq,Int.ediv_nonneg,d.zh.fresh,(σ++Ņ k Å),(λc=>f c.symm),(yP a0 p0 f0 u),(wz λi j=>i+j),(m/4%(ĭa:Æ)),(e2 zH ý û),(e2 xF Ī ĸ),(I.ok.bs b o e),g.toArray.size,List.take_zero,Bool.false_and,(eC Ā),"width","_law_kind","_law_item",I.base.keep,(Ζ (.int 8)),(zM (ς Ϡa)),(Ya a b o i j),(YZ a b o i j),(.type "type"),(.int (w:Æ)),(.int (k:Æ)),(.int (a:Æ)),(zC ıa zN),(ks.map kV),es.toList.map,beq_iff_eq.mp,a.toArray.any,List.sum_cons,[Įa,"count"],[àb,ßb,ða],(ě ŷ Ú),(Χc (b::yC)),(zx.near x z),(putF f v fs),(lo+k-(lo+l)),pickOrder.go,own.contains,decide_false,P2.objs.size,Nat.lt_trans,Nat.le_total,K.ext.h.free,Int.le_trans,(.str åa),[Œ,"most"],[b,a,c,d,x4],[(D,uV a k)],(Ďa .NotIn),(λ_ _=>rfl),(ze H p ϝj),(xs.set i x),(xR õ X.w),(g6 β i π),(e2 F fa fb),(F.ok j q z),(BO r ta tb),(.int (i+j)),"do_storew",f.toArray,W.hasDictIn,Option.bind,Nat.le_succ,(Ó ?_),(.int k),(æf C Û),(Ġa _ ŝg),(Á M×yL),(y b o e a),(x-x/p%r*p),(vR ps a b),(vH Ğ jq),(ns.take k),(l+(r-l)/2),(.type ŏ),(.bool Ã),((n:Æ)=0),(wI s.ws),"do_store","do_loadw",ws.toArray,tJ.some_of,setsByText,cond_false,Value.bool,"_law_row",Pt.testBit,PlainAttrs,ns.getD,[.str ϳb],[.lst ŋ],(ğ<=ŗ),(λ_=>rfl),(λ_ q=>q),(yF 1 ϳd),(wD X Ť),(qW kvs k),(Xi k=Ã),(T.map pc),(E.r8 k d),(.tup ſg),(.str ób),(.str Ŏa),(.str ēa),(.own Ìd),(.lst ß),(.int p.1),(.int i t),(.int due),(úa hd),(xs++ys),(uw [r]),(eC Ĭ),"do_load","do_high","do_copy",zl.append,xs.toList,ts.length,qs.length,pc.isList,l.swap.hd,h'.DictOf,drawOrder,dl.length,cond_true,cl.lookup,__do_lift,W.makesIn,PySem.Str,Paired.DY,E.ext.new,[Ϸ,Ìb],[z_ z6 i],[j,f,g,h],(ϴb äb),(żg _ _),(Χc Ûk),(Ða ı),(Μ ąa),(Μ âa),(Α ŝ),(ñ+Îb),(Ű _ a),(Á Æ),(σ++[v]),(β++[m]),(uF z6 d),(h p ϩe),(.ref i2),(.ref WM),(.ref US),(.ref UR),(.ref UQ),(.ref UO),(.ref UN),(.ref UM),(.ref UL),(.ref UJ),(.int κ),(.int 40),"do_set","append",u.extBut,s.length,q.extBut,0,p.isList,mergeAt',m.length,l.countP,h.isList,f.typeIs,f.toList,entryFor,e.length,c.isList,bindArgs,X.take,W.lookIn,W.length,Reps.set,K.length,F.length,(Ϗb zi),(ãb Xq),(σ++ρ),(zK Ëe),(zK Śc),(xX K F),(vq 1 2),(uk g _),(tu Ŷb),(qp X t),(kG P h),0,(eC Ľc),(eC Äd),(YR ϣa),(YG h H),(BL r t),(2 ^ 64),(.ref t),(.ref e),(.ref c),(.nx σ),(.int w),(.int e),(.inr x),(.inr k),"slice","label",z6.take,uo.swap,uo.move,unaryOp,u.there,setNext,l.trans,j.trans,ds.drop,b.drop,add_str,ZB.cons,W8.putO,I.write,I.ok.k_,0,A.depth,(Ęe e),(Ča d),(Žg q),(èc b),(ŉ-1),(ϊ q),(Ób i),(Íc k),(Íc _),(ώ _),(ġ q),(Ħ z),(ķ p),(ķ f),(É V),(À b),(uF z6),(q::qs),(p6 β),(n::ns),(jU xs),(hi-lo),(b β1),(Uf z6),(x++y),"ways",y.get?,vs.map,u.slot,u.free,typeOf,s.gens,p.size,not_or,newExc,kindOf,e.symm,ds.map,d.kept,d.getD,bs.map,argsOk,a.toks,R.take,Params,Or.inr,O.heap,J.stop,InLong,I.mono,C.mono,V.str,(z8 9),(z7 9),(wd r),(wI W),(vD r),(v2 k),(tu n),(r β),(qz 4),(qv 1),(q/64),(pl a),(kL 4),(k σ),(g==k),(a==b),(Uf X),(Pf X),(Oz z),"low",there,table,o.loc,l.fin,h.Ns1,g.get,M.ind,Ix.nd,Iw.nd,Iv.nd,Iu.nd,Ir.nd,Iq.nd,D.ind,D.i2z,D.i1z,D.TOz,CmpOp,[À (Ä,s),À (Ä,.int first),À (Ä,.int most),À (Ä,.int l),À (Ä,.lst (N.map D.str)),À (Ä,.int A),À (Ä,.lst R),À (Ä,.int (i:Æ)),À (Ã,.lst L)],[À (Ä,s),À (Ä,.int first),À (Ä,.int most),À (Ä,.int l),À (Ä,.lst (N.map D.str)),À (Ä,.int A),À (Ä,.lst R),Å,À (Ã,.lst [])],(e2 zH û ĸ),(λr f=>match r with|.ok (.ret v)=>EP X k σ Q v f|.ok _=>False|.error e=>X.xe e f),(Ía { cls:=.type "range",data:=.fields #[.int lo t,.int hi u,.int 1 v] }),(zC zo (zC zo (zC zo (zC zo (zC zo (zC zo zN)))))),List.nodup_cons.mp,[vO 1 (zg X9 ϣ),vO 1 (zg XA ϣ),vO 1 (zg X2 ϣ),vO 1 (zg X8 ϣ)],((z6.toList.drop (sIx ł 0 lo)).take (sIx ł ł hi-sIx ł 0 lo)),[À (xB T e fw fh s d0 j0),À (.fz (.int m)),À (.fz (.int k))],(List.mem_singleton.mpr rfl),[À (Ä,I),À (Ä,.str t),À (Ä,.int (n:Æ)),À (Ä,d)],(À (Ä,.int (rl (Uf z6 m) (Pf z6 m) T (Wf z6 m):Â))),((∃t∈f,y=.tup īc)\/qG y),(if plainKind x=Ã then d else { d with plain:=Ä }),(List.zipWith (λk' x=>if k'=k then v else x) ks vs),(A.under (.builtin "type.__call__" {.ref C::us,a})),(.tup [.str k,.int (d:Æ),.int n]),(Η (zM Ď) (zM zE)),[rows.getD k .zP,.int ((k:Æ)+1),tgs.getD k .zP],(if i<0 then(i+(n:Æ)).toNat else min i.toNat n),(e2 zH (e1 (xv [Ļ] àb) ý) (e2 zH û ϑa)),[wy T e fw fh (jv ŋ a b c İ ū) due done],(f.2 b (Ϗ (Š (ġ e) (I.ok.UA x c F l)))),(YV (s:={ s with ç:=n }) q ó λx K m=>?_),(if k=f then(k,v)::r else(k,x)::putF f v r),(.tup [.str ϰ,.int (d:Æ),.int (s:Æ)]),(À (.builtin "type.__getattribute__")),(by rw[PySem.isSubtype_type];kernel_rfl),(.tup [.str "high",.int (d:Æ),.int n]),(pickOrder (w.params.setOrder a ep) es),[o0,c,a,o3,o4,o5,o6,À ώe,o8,o9,o10],[o0,c,a,o3,o4,o5,o6,o7,À ώe,o9,o10],(tU L P w K G h N c a f d A ć s H E),(tE (e2 vG (z7 7) (e2 zH (tV 4) Âa))),(f.2 b (Ϗ (Š (ġ e) I.ok.above))),(À (.builtin "object.__setattr__")),(ze H l (Β ((isort ns).map V.int))),(.tup [.str ŏ,.int (d:Æ),.int n]),PyProof.Rows.F.plain_set_update_loop,(.Call (.Name "zip" p) [a,b] [] pos),Nat.min_le_right,Int.ofNat_le.mpr,Heap.SameBut.update,[.int (i:Æ),x],(ϟ λp=>if p.1=a then(a,b)else p),(if s.1∈a then s.2 else s.2++[d]),Array.mem_toList_iff.mpr,(yD XU b rfl (zC zo zN)),(À (.obj à že [a,b,c,d])::yC),(y.toList.drop lo),Nat.eq_zero_of_not_pos,Heap.get?_update_other,PySem.Calls.call_function_entry,Array.mem_of_getElem?,(ϊ q++(åb m (j-1)).reverse),(ya X.K H p ys\/xJ X.K H p ys),(if Ãd Ōc=Ã then _ else _),(by rw[e];show λz=>nomatch z),((c==("__debug__" : Ç))=Ä),List.eq_nil_of_length_eq_zero,Array.perm_iff_toList_perm.mp,(.builtin "object.__class__"),((ß).map λr=>uz (wD z6 r)),PySem.wpAny_pyNext_list_item,PySem.Calls.callWith_builtin,(Ņ (ß).length 0),(e2 zH û (eC Űa)),[.str k,.int x,.int y,.bl a],(vN X Ľ cl own C s H l pn),(pN (Ă).length (VE X R T)),(by exact _<=16777216;omega),PySem.wpAny_pyNext_list_end,(e2 vF ŝ (eC (.int 256))),PySem.wpAny_updateSeq_pair,List.length_eq_zero_iff.mp,[ĭ,"told","ways","puts"],["kind","one","other",ϭ],(Ĩ (e t) (x := ϧ) Ò),(Ĩ (e t) (x := ϑ) Ò),(r.2.set a (À (.fz d1))),(.tup [.str ϧ,.str ϑ]),(.For tg iter body [] pos),List.pairwise_reverse.mpr,List.mem_or_eq_of_mem_set,Classical.byContradiction,Builtin.Slice.sliceAdjust,(zb (zb (zb Že))),[xB T e fw fh s due done],0,(ėb (íb x ō Û f c)),(rI Qg λi j=>.int (i*j)),(f (.int i t) (.int j u)),(((1:Æ)*2 ^ w-1)*2 ^ l),(zC zo (zC zo (zC zo zN))),PySem.wpAny_pyIter_tuple,PySem.Calls.spliced_cons,List.mem_iff_getElem?.mp,(β.set i (À (.fz d))),(.tup [.str ća,.str r]),Nat.testBit_mul_two_pow,Nat.add_sub_cancel_left,List.length_pos_iff.mpr,[.int a,.int (gK ps a)],(λp r h=>(TC P h).2.2),(k K g λv n m x r=>?_),(if zi d then 0 else 1),(.ins C dx (fs.zip vs)),(zM (yO Òc)),"_law_leaves_the_same",PySem.wpAny_isInstance,List.zipWith_cons_cons,List.pairwise_cons.mpr,List.getElem?_set_self,List.Perm.append_right,(λi=>z6.getD i .none),(o++(ŀb k i).reverse),(.BoolOp .And [a] pos),0,h.symm.trans,PySem.wpAny_updateSeq,PySem.wpAny_ite_split,PySem.SeqAt.EqAt.same,PySem.F.slot_dict_get,List.set_append_right,List.eq_nil_or_concat,List.concat_eq_append,List.Perm.append_left,[.int x,.int y,.bl p],(λz=>a (by simp[z])),(λa w=>a ||| gt T w),(by simp only[Ö,s]),(by dsimp only;omega),(.Slice lo hi Å p2),(eC (.str ϑ)),(e2 zH ý ĸ),PySem.wpAny_setField,PySem.wpAny_newTuple,PySem.gives_joinTail,Nat.pow_le_pow_right,List.range_eq_range',List.mem_of_mem_drop,List.getElem?_set_ne,Array.toArray_toList,[D.bl a,.bl b,.bl c],(.Subscript o i pos),((m/512+(j:Æ))%26),PySem.wpAny_standAt,List.reverse_append,List.map_congr_left,0,List.filterMap_cons,(vQ XT Xj rfl),(by size_fits),(T.set m need),(.int (m:Â)),(Ûa (min ì Ś)),(zV Ĳ zU ţ âa),(wK Îb fs fg ft f),(relayAll t2 c Ŵd),(jv ws a b c hk hv),(by simpa using hv),(by rw[e];show ūa),(a++[.int (i:Æ)]),((j.2 b k).trans J),((i:Æ)+(m:Æ)*1),"copied_to_itself","__getattribute__",decide_eq_true_iff,Nat.lt_or_eq_of_le,List.set_cons_zero,List.set_cons_succ,List.map_replicate,[ěa,ýa,"target"],[mX X fw fh s i j],["kind","one",Íe],(ε (zM Īc) ãa),(ςa (Òb [] Ú)),(λb u q=>ė _ q),(λ_ _ q=>ė _ q),(λC s H c b=>Ď),(seqObj Ģ out c),(n i s σ H _ I h),(by simpa using m),(by simpa using f),(by rw[Ćd e];rfl),(by rw[ĥ];omega),(args_list_sort _),(L.foldl (qP a) s),(2*(ß).length+2),(.tup [row,nx,tg]),"to_the_next_row","moves_by_nought","_law_program_by",z.cps.toList.drop,bne_self_eq_false,SetTable.probe.go,Option.isSome_map,Nat.sub_pos_of_lt,List.reverse_perm,List.getElem_take,List.foldl_append,Array.size_append,(Àe lo hi Å n),(íb b a Û f d),(ϴe lo hi 1 Ŀ),(Ņ n 0++[2047]),(τ++Ņ Îb Å),(ze a p (.lst b)),(Zb rows tgs Ŷb),(Q0 q Ê Ê ?_),(Nat.log2_lt Ê),(.tup (k.map kV)),"_law_registers",s.heap.IsSliceOf,h.heap.objs.size,env.cells.lookup,X.s₀.heap.get?,X.env.scope.kind,Nat.max_eq_right,List.zipIdx_cons,Int.toNat_eq_max,Int.min_eq_right,(zB ý Ëb),[.fz (.lst Ϥ)],(Ϗb λd=>!zi d),(Ç->É Value),(xV (zB ĝ zF)),(wg as ds ks es),(wg [] [] ks es),(w==(ϰ : Ç)),(tO kvs p.1 p.2),(q/64%(ŗ:Æ)),(pV (wQ ZA ϣ)),(ks.foldl tK []),(d b _ q λz=>z),(args_sorted1 _),(FD K t1 t2 a b),(.cons rfl .nil),"table_of_rows","list_iterator",entry_list_sort,a.setIfInBounds,W.methodCall_KW,Nat.and_le_left,List.take_left',List.of_mem_zip,List.forIn_cons,List.drop_left',[Įa,"low",đf],(ôd b o e n a),(Β (ûb Åa)),(Ζ (.bl Ã)),(Ó (ϕe ña)),(σ++Ņ n Å),(ys.getD j .zP),(xs.getD j .zP),(eC (.str ŏ)),(e2 zH Ī ĸ),(e2 zH Ī ĝ),(e2 zH Ĵ ŝ),(e2 zH Ĵ ĸ),(e2 yx Âa ďb),(by rw[q];simp),(.dK (m.zip l)),(zg XB ϣ),(zT (zO d)),(zC ıb zN),((i:Æ)+1),"label_places","_law_of_kind","_law_cell_at",sortedHeap_old,slot_list_sort,list_sort_tree,d.names.lookup,Nat.testBit_or,Nat.le_min.mpr,List.take_take,List.drop_drop,Builtin.bitXor,[kV kv.1,kv.2],[.int w,.bl u],(τ.set i Üc),(zB (z7 2) zF),(vQ T6 TZ rfl),(call ϡd ϥ),(by rw[è,I]),(TP X zA σ Q),(Kr R c.1 c.2),(.obj x fs ms),(.int (n:Æ)),(.int (n:Â)),(.int (m:Æ)),(.builtin ōc),((Ϗg).take m),sysModules,"set.__new__","not_reached","moved_right","_law_varied","_law_row_by","_law_number","_law_memory","__setattr__",swapsWithSole,swappedStores,sortedHeap_at,s.heap.IsList,p.toList.take,p.toList.drop,X.env.globals,W.plainGet_of,Paired.length,Nat.reduceSub,Nat.reduceAdd,L2.isort_perm,Bool.not_true,Bool.and_true,(μ/3%256),(.str ŕa),(.str ėa),[.type ŏ,a],(Η Ōb Ϩa),(λr=>uz ϸd),(zp.near x z),(ze H5 D ύb),(yP a p fl g),(w/65536%256),(ZP (wO Đf)),(Ww xs lo hi),0,(T.set m Ϭj),(.str {#[c]}),(.str (wd r)),(.mk e1 e2 d),(.Expr e pos),"words_from","targets_of","not_needed","moved_left","is_address","bytes_from","address_of","address_in","_law_words","_law_place","_law_names","_law_count","IDLE_KINDS",setAddHashed,seqIndex_neg,s2.heap.get?,plain_sorted,ns'.Pairwise,l.row.toRowW,its'.toArray,h.IsListIter,entry_sorted,e.gh.free,0,concat_meets,WData.weight,SeqAt.RcNeAt,PySem.Within,PySem.W.Frag,Nat.zero_max,Nat.succ_mul,List.map_set,List.any_map,K.env.ext.gh,Int.ne_of_gt,E.ext.h.free,Code.isFrame,Bool.or_true,(Òb es Ú),(λz=>c Ŝb),(ze H a ϛa),(ze G a ϛa),(zB Ĵ øc),(x.rebase y),(wB æc Ÿd),(tO kvs k v),(pairsOf vs),(gallopOf s),(atKey xs k),(I.pE x c e),(HP h rfl f),(.int 65536),["State"],(ZL N[i]),(.dK Ýb),0,"with_part","ways_from","next_rows","needed_at","last_name","is_number","four_from","comers_of","_law_told","_law_rows","_law_mark",wpAny_of_eq,seqIndex_of,p.length_eq,kind_sorted,c.heap.get?,a.names.all,W.specialIn,W.plainOver,W.kitx_list,W.emptyDict,Value.float,Sum.inr.inj,Reps.length,K.env.ext.g,Int.pow_pos,D.TOi2.symm,["address"],(ě o Ú),(ϟa .Mult),(ĺb _ Ò),(ķb _ Ò),(λx=>!x.1),(zB ĸ zF),(wQ WU Ëb),(w/256%256),(v4 âa qQ),(pl a::Èa),(ixN þ j),(by show O),(L++[xm t]),(.type Ød),(.str w::_),(.rt m β2),(.refl _ _),(.list ĺc),(.Name c p),relayAll,ns.foldl,R.filter,"put_word","put_byte","pairs_of","mark_bit","leads_on","is_label","bytes_of","__name__",z.cps.size,wpAny_load,wpAny_Name,typeIs_int,tgs.length,scope.kind,o.ExactSet,m.zh.fresh,checkCount,builtinsNs,b.Pairwise,X.Pairwise,SeqAt.RcAt,OwnMs.snoc,OwnMs.join,List.foldl,I.ok.above,D.i1z.symm,D.TOz.symm,[.lst Ϥ],(õe N vs),(ϸ this),(Ņ m []),(Á M×M),(λ_=>ÿ),(ze H x o),(yF 2 ĝ),(w8 K ſe),(vz X.K F),(eL FL fs),(acc++its),(.ye ob v),(.val Ĥ),(.str ϰ),(.int Ś),(.bl (!k)),((k,x)::r),"word_of","word_at","without","ways_of","rows_of","reached","look_at","is_pair","is_jump","byte_at",zl.of_get,t.dummies,reduceIte,ps.take,o.reverse,names.map,n.testBit,inplaceOp,collect,cellsFrom,c.toArray,c.heap.Ns,c.gh.free,as.length,a.size_eq,a.g.trans,WData.int,W.takerIn,W.readsIn,W.findCls,W.OpenLaw,U.testBit,Str.empty,PySem.Fin,IsTup.new,Decidable,[ąc,Ěd],[ϣb,đf],[įa,ĕa],[Įa,ýa],[ůa,Įa],[ĭ,ýa],(Ļe n y),(øa ńd),(ϙ r c),(ϙ d A),(ûb ı),(Ąf Ġ),(Ċd Ϸc),(οa ıa),(Γ Šb),(Γ ϻ),(ς ęd),(Ϝ _ _),(Α ϣa),(Ûa þd),(Ű _ z),(ė _ g),(ò Ņf),(ò ña),(À Ō),(À Ã),(λz=>?_),(λc=>?_),(xs[i]+1),(xs++[x]),(x-y-q<0),(x b u e),(x ^^^ y),(x &&& y),(st::sts),(n*65536),(n*2 ^ l),(m.n X G),(gt T i1),(d i q z),(Tv P hi),(.v d::a),(.tup ds),(.ref WL),(.nx σ2),(.nx σ'),(.lst z6),(.lst ws),(.lst ds),0,(.fz ņf),(.bool b),(ò h),(vS j),"summed","led_on","joined","do_row",xU.focus,ws.foldl,tgs.getD,raiseNew,qs.Nodup,pick_run,p.length,o.toList,ns'.Perm,n.natAbs,its.size,i.h.free,d.isList,c.toList,c.h.free,b.h.free,a.toList,Reps.rep,OwnMs.Am,I.ok.mod,0,A.length,[.ref l],[.lst X],["four"],(Īk%26),(žg ..),(ãb Tj),(Ûa 32),(σ++τ),(zM şb),(zM âa),(zM ţ),(zM Īc),(wY ţ),(wO Ĵ),(wO ĝ),(vq 3 4),(uh [r]),(qS q c),(pN n p),(lo+y-1),(kv.1=k),(jN œa),(gt T m),(eC Øb),(by rfl),(IU ŏa),(FC K a),(FB K a),(F8 K a),(BR h H),0,(2 ^ 62),(.str a),(.ref D),(.own d),(.lst b),(.inr a),(.inl i),(.inl e),(.inl d),(.bl d'),"need","words","taken","needs","leads","count","added",xs.getD,wf.snoc,wf.mono,v.trans,u.toNat,setItem,propext,p.trans,o.trans,n.trans,m.trans,h1.get?,getAttr,a.trans,a.names,Reps.Av,PySem.W,N.least,L3.getA,L.foldl,ElemsOf,E.ext.g,C.trans,(Æg k),(Ϗl i),(ļe k),(Ča f),(Ča e),(ϊc/2),(ĥk _),(Øh z),(õb f),(źa r),(ñc f),(Ěb f),(Ěb b),(îd h),(Œa _),(Ņc c),(Ÿb j),(Ļb i),(řg h),(Íc n),(ìa G),(Ϗ c),(ĺ _),(þ+1),(Ñ g),(É M),(À r),(À 7),(zK qs),(x-y-q),(wY zE),(qp z6),(n+þ),(n+i+1),(m∈F),(j-i-1),(j+1+m),(h _ z),(g b a),(f ėe),(f v u),(eC T7),(c σ1),(b r.2),(TK ps),(Jw xs),(J _ z),(IL Mo),(B q c),"used","part","idle",uo.fin,t'.led,r.drop,o.bind,ns.sum,m.mono,l.most,k.mono,items',h.symm,h.push,g.get?,frames,c.size,c.heap,bubble,b.Perm,Y.drop,N.last,N.keep,K.keep,I.step,I.look,H.get?,E.back,D.l2TO,B.mono,B.cell,(zt 7),(zt 4),(zK l),(z7 i),(z7 2),(vJ m),(u==t),(qz 2),(qz 1),(qv 3),(mA f),(lo+y),(lo+j),(kV k),(kL 2),(kL 1),(k'=k),(jz d),(i::a),(d==s),(a++b),(a β),(OA X),(O4 K),(Ls i),(yl (yR b)),(ym (yG (pY (zO b)) pX (zM (z8 3)) (zM (wj (zC zo (zC zo zN)) Ūd)) ϐa) (zc (yg (wj (zC (z8 3) (zC (z8 4) (Γ (zV Ĳ zU (yO (wB (zC (Μ (z8 6)) (zC (Μ (z8 6)) zN)) Ūd)) (Μ (zX uX uW Ğ zE)))))) (yN Že Ò)))) xH),[À (Ä,s),À (Ä,.int first),À (Ä,.int most),À (Ä,.int l),À (Ä,.lst (N.map D.str)),À (Ä,.int A),À (Ä,.lst R),À (Ä,.int (i:Æ)),À (Ã,.lst w)],[.tup [.int (Θ (x+0)),.int (w%256)],.tup [.int (Θ (x+1)),.int (w/256%256)],.tup [.int (Θ (x+2)),.int (w/65536%256)],.tup [.int (Θ (x+3)),.int (w/16777216%256)]],(vp (Ρ (yz (i:=6) (show(wJ ["_law_mark_here","_law_many","_law_letters","_law_size","_law_word","_law_spot"] ["_law_k"]).Nodup by decide +kernel) rfl â)) rfl),(kN (tE (e2 vG (wK 1 (w_ (z7 6)) (zt 9) Bh Rl) (xV zF))) (Κ (e2 yx (e2 vF (zg uC (zB ý (Α (e2 xF û (eC (.int 2)))))) ϑa) (eC (.int 5))) (z7 7))),(e2 (wz ϓa) (zg uh (Α (e2 zH û (z7 6)))) (e2 (wz ģa) (Ld We (zB (tV 4) (Α (e2 zH (z7 2) (z7 6))))) (e1 T3 (zg uw (Α (e2 zH û (z7 6))))))),(tE (e2 ql (e2 zH (z7 6) ĝ) (xz (zB (eC ϕa) (zB (eC (.str "when")) (zB (eC (.str ϑ)) (zB (eC (.str "stop")) (zB (eC (.str "store")) (Ζ (.str "storew")))))))))),[À (Ä,.int m),À (Ä,.int many),À (Ä,.str Ëc),À (Ä,.int (m%8)),À (Ä,.str W),À (Ä,.int c),À (Ä,.int (i:Æ))],(.nx [À (Ä,.lst z6),À (Ä,s),À (Ä,.int 46),À (Ä,.lst (f.map D.str)),À (Ã,.lst (L++[y])),À (Ä,.int (i:Æ)),y6]),(.ins C dx (putF f w (fs.zip vs))),((p.setIfInBounds i (d,ϖ+Y.length,H)).eraseIdxIfInBounds î),[À (Ä,.lst X),À (Ä,.int κ),À (Ä,.lst Ă),À (Ä,.lst (zK T)),À (Ã,.lst a),À (Ä,.int (i:Æ)),x6],[À (Ä,.lst z6),À (Ä,s),À (Ä,.int 46),À (Ä,.lst Ĳc),À (Ã,.lst L),À (Ä,.int (i:Æ)),B],(λd=>match d with|.int j=>D.str (L2.cutS W Å (À c)++lt ((m/512+j)%26)++L2.cutS W (À c) Å)|d=>d),(.tup [.str (ła w),.int d,.int s]),[À (Ä,.lst z6),À (Ä,s),À (Ä,.int 46),À (Ä,.lst Ĳc),À (Ã,.lst []),Å,Å],[À (Ä,.lst a),Å,À (Ä,.int (w:Æ)),À (Ä,.int (i:Æ)),À (Ä,.lst (zK (W i)))],(λk:zW=>match k with|.inl i=>i|.inr _=>(0:Æ)),[.tup [.int g0,.int 0],.tup [.int g1,.int 8],.tup [.int g2,.int 16],.tup [.int g3,.int 24]],[À (Ä,.int m),À (Ä,.int many),À (Ä,.str Ëc),À (Ä,.int (m%8)),Å,Å,Å],(λxs H Q=>(∃i,xs=[.int i]/\Q Áa H)\/∃k,xs=[.bl k]/\Q (.int (if k then 1 else 0)) H),[À (Ä,.lst z6),À (Ä,.lst (zK T)),À (Ä,.lst (wm z6)),À (Ä,.lst (zK a))],(PySem.wpAny_newList (ò {PySem.Code.quiet_builtin _ ϵ,Õc (entry_list_iadd') ?_})),(λr s'=>r=.ok (.ret (.bool Ã))/\OldK c.heap s'.heap/\s'.os=c.os/\AllBare s'.gens),(rl (Uf z6 m) (Pf z6 m) T áb),(λq z w=>by rcases z with⟨z,_⟩|z;show z;show i q (t q z ((u q).mpr (.inr w)))),(zw (h pos i s σ H _ I j) λg a ⟨k,c,d,r,z,q⟩=>{by rw[<-Ϟ];show z,?_}),(((sIx ł 0 lo:Â):Æ)==0&&(1:Æ)==1&&(sIx ł ł hi-sIx ł 0 lo)==ł),pendingOf,(λc=>c.1=Å/\∃y q g,st=yP y q Å g/\vw 0 q.toList y.toList/\y.Perm x),[À (Ä,.lst a),Å,m,À (Ä,.int (i:Æ)),À (Ä,.lst (zK (W i)))],[.tup [.str ϭ,.bl Ä],.tup [.str àa,.bl Ä],.tup [.str åa,.bl Ä]],(zw (u pos c s σ H _ I h) λi m ⟨j,f,o,q,g⟩=>d c m σ f j i Q o q g),(tE (e2 xM (e2 zH Âa ĝ) (xz (zB (eC ϕa) (zB ŵd (Ζ (.str ϑ))))))),0,[À (Ä,.lst z6),À (Ä,.lst (zK T)),À (Ä,.lst (wm z6)),Å,Å],[.int (x%256),.int (x/256%256),.int (x/65536%256),.int (x/16777216%256)],(by let:=Int.add_le_add_right (þa h) (n:Æ);rwa [Int.zero_add]at this),(λq z=>h q (Ιa (s q z))),(yD YE b rfl (zC Ğ ŵb)),[.fz (.lst X),.fz (.lst V),.fz (.lst Ϥ),.fz (.int 30),.fz (.int 40)],(newList [] >>= λl=>again (.builtin "list.__iadd__" {[l,.ref a],[]})),[À (Ä,.lst Ϥ),À (Ä,.int 38),À (Ä,.dic İ ū),c,j,Å],[À (Ä,.lst z6),À (Ä,s),À (Ä,.int 46),Å,Å,Å,Å,Å],[.fz T,.fz (.int e),.fz Đa,.fz Žb],[À (Ä,.lst z6),À (Ä,.lst rows),À (Ã,.dic [] []),Å,Å],[À (Ä,.lst Ϥ),À (Ä,.int 38),À (Ã,.dic [] []),Å,Å],(.Attribute o name apos),["not_reached","to_the_next_row","copied_to_itself","not_needed"],(λr=>pure (.done (À r,e.2.1,e.2.2.1,e.2.2.2.1,e.2.2.2.2.1))),(zB (e1 (xv [Ļ] ða) ý) (Α (zg X1 (zB ý (zB û zF))))),(l.map λp=>{PyData.keyHash w.params p.1,.str p.1 p.2.1,p.2.2}),(ò ⟨_,rfl,ò h⟩),[À (Ä,.lst z6),À (Ä,.lst (zK a)),Å,Å,Å,Å,Å],[.fz (.lst X),.fz (.lst Y),.fz S,.fz (.int 30),.fz (.int 40)],(λxs H Q=>∃a kvs,xs=[V.ref a]/\Rd H a ř/\Q (.int ň) H),(wg [] [] (a.map λi:Â=>ı (i:Æ)) (a.map λ_=>D.bl Ã)),(zw (m pos i s σ H _ I h) λy B ⟨z,v,c,r,q⟩=>{c.wE,?_}),(setNext a (u:Æ).toNat (i:Æ).toNat (ep:Æ).toNat >>= _),(Κ (zg Ug (χa (e2 zH Âa (e1 gi ĸ)))) (e2 xF ϣa ĸ)),(wV (Xa (wY q_))),[.int g0,.int (g1*256),.int (g2*65536),.int (g3*16777216)],(ub (tE (e2 įc ŝ (eL uj Ëb))) (tE (e2 ql ŝ (tV 2)))),0,(Ðc (ò {_,rfl, ļb,_,{_,ű _ rfl,rfl},O3.lookup,?_})),(e2 zH (e1 (xv [à] ōa) ý) (e1 (xv [à] "due") ý)),(by rw[typeLookup_type,builtinLookup_eq_fast];kernel_rfl),(a::b::yC),(.tup [.str k,d,s,n]),(.done (À (YZ a b (ϊ q) i (j+1)),ϊ q,i,j+1,g,k,u)),(PySem.wpAny_runValue (Õc (entry_proto_collect') ?_)),(.tup [.str (ła w),.int (d:Â),.int (s:Â),.int n]),[À (xB T d fw fh b a c),À ëd,À (.fz (.int k))],(λr=>pure (.done (À r,d.2.1,d.2.2.1,d.2.2.2.1,g))),(u_ 8 uR (xz (zB (eC Àd) (Α (e2 zH ŝ (z7 7)))))),(if t then Wc [.int x,.int n]else Wd [.int x,.int n]),(yF 3 (e2 zH (zg Qw zF) (e2 yx ý (eC (.int 28))))),(.yield (Å,e.2.1,e.2.2.1,e.2.2.2.1,e.2.2.2.2.1+1)),(Γ (zV Ĳ zU Ď (zX xO xN ąa (ς (zM Ď))))),(wK 1 (w_ (zg Uk (zB ý (Α ϣa)))) (zt 7) Bg Rj),(.tup [.str k,d,s]),(if v<0 then max (v+(n:Æ)) 0 else min v (n:Æ)),(.tup [.str ŕa,.int (d:Æ),.int (s:Æ),.int n]),(.tup [.str Ŏa,.int (d:Æ),.int (s:Æ),.int n]),(.tup [.str ėa,.int (d:Æ),.int (s:Æ),.int n]),(.tup [.str ēa,.int (d:Æ),.int (s:Æ),.int n]),['r','o','t','a','r','e','t','i','_','t','e','s'],(zw (l f s σ H _ I h) λv i ⟨x,g,e,k,d⟩=>?_),(if v<0 then(v+(n:Æ)).toNat else min v.toNat n),(.ListComp (.List [] p) [{tg,iter,[],0}] Ľ pos),(Ïb Üd "extend" Ú (ě Üd Ú)=ě Üd Ú),(jD 0 ńc (Uw (zg X1 (zB ý Ëb)) (Uw że vM))),(W.fnOf x a (jH st) Öa ō .none kV d g h b ct),((œc a (çb λ_=>#[])).push (seqObj ſ Ůa 0)),[.fz n,.fz q,.fz S,.fz (.int 30),.fz (.int 40)],0,(.nx (vj x rr tt d r κ (cond c (Lf++[d]) Lf))),[ϰ,"add",Ċa,"sub",ĉa,"and","or","xor",ôa],[À (Ä,.lst z6),À (Ã,.lst (zK [])),Å],(λi=>decide (0<=i)&&decide (i<1099511627776)),(by first|rfl|(simp only[firstArgMember];rfl)),[À (Ä,.lst z6),À (Ã,.lst (zK X)),Å],[À (Ä,.dic İ ū),À (Ä,.int x),Å],(zw (k e s σ H _ I h) λc i ⟨f,d,g⟩=>?_),(kvs.map λkv=>if kv.1=k then(kv.1,y)else kv),(j (E.go d) c λv y t g l=>q v _ _ (ϑb g) l),(by rw[I.ok.glob];show I.mod.glob.keeps I.bk),(assign (.Name x f) Ú),[D1,.tup [.str k,.int (d:Æ),.int (s:Æ)]],(Ýd (Ó (Ĉb hz rfl (x:=.ref TO) rfl ?_))),(À (Ä,wy T e fw fh (vJ s) due done)::τ),(λq=>(o q/\¬ E q)\/((E q/\¬ L1 q)\/L2 q)),(tU xK P w K mg Ì N c ō f g A ć s H E),(tU xK P w K mg Ì N a ō f b A ć s H E),(ds.map (λd=>À (Ä,d))++Ņ (n-þ) Å),(W.fnOf x a (jH st) Öa ō h kV d g i b ct),(W.fnOf m q (jH st) Öa ō g kV c d h a ct),[ĭ,"numbers","dropped",ýa,"kept","item"],(zV (zT (zO a)) zU (vH Ğ Wq) (vH Ğ Z_)),(uc=Ä->k = "add" \/ k = "sub" \/ k = ôa),(h.imp (λz=>by omega) λz=>{by omega,z.2}),(.tup [.str ôa,.int (d:Æ),.int (s:Æ)]),(ņb e (À (.Name x a)) ϔb Ú=pure Ä),(yF 1 (e2 (wz ϓa) û (zg Wb (Ζ Ŧc)))),(tU xK P w K mg a N x ō f c A ć s H E),(tU xK P w K mg a N q ō f c A ć s H E),(if(i==0)=Ã then 0 else i.natAbs.log2+1),(if([]:Á Keyword).isEmpty then 0 else 1),(.tup [.str (ła w),.int d,.int s,.int n]),(Αb (λi j=>vC i+vC j<=134217728) (i*j)),(Α (e2 zH û (e2 yx Âa (eL uj Ëb)))),(λ_=>ü {_,rfl,Xt.go {h,f,d,by omega}}),(Yb (t5 (O0 .list rfl rfl Zg gL LP Ϡa))),(.tup [.str k,.int (d:Â),.int (s:Â)]),(.tup [.str (ła w),.str (ła k),.str t]),(m[ϱ]'(by rw[<-w.ln];show(ķ hds).1)),(by rw[<-m];show Nat.not_succ_le_self _),(Vu (by rcases b with rfl|rfl<;>decide)),(Builtin.«zip.__next__» {[.ref z],[]}),(.dic (kP (ZV ps x w)) (vP (ZV ps x w))),(.Call (.Subscript ſb k p2) ď [] pos),Array.Perm.refl,(Ía { cls:=.type Ãa,Ć:=.dict #[] }),(vN X Ľ cl own C s2 H2 fp (X.pn++zA)),(W.fnOf ī c g i a dV kV F pm an d ct),(.Tuple [.Name x p1,.Name y p2] kk pos),(m/512+(i:Æ)),(λq a b=>dj q ((ϴ).mpr (.inr a)) b),(λd=>match d with|.tup [_,x]=>x|d=>d),(ze (ze m i (.own y)) y (.ins C i [])),(tU Q P w K J l N g d f G A ć s H E),(pN (ß).length λi=>!decide (i∈R)),(p.pin (b,o) (Ġa _ (Ġa _ (MN l e)))),(by first|show .inl ϵ|show .inr ϵ),(Z.pin (b,o) (Ġa _ (Ġa _ (MN d e)))),(PySem.F.args_tuple_iterator_next_1 _),(Κ (e2 zH Âa ĸ) (e2 zH Âa ϑa)),(if x∈cs then getA fs a f else Å),(if k'=k then À v else ċ ks vs k),(i (E.go d) c λu p g=>q _ _ (ϑb g)),(gz (tf ϡ jE) (ML ϻj (ML ĭc qQ))),(.Tuple [.Name x g,.Name y p2] f pos),(.Tuple [.Name x e,.Name y p2] c pos),(λ_ _ z=>nomatch z),(.dic (kP d) (vP d)),Builtin.SmallTypes.ownedTupleHandOut,[.str ϰ,.int (m/4%8),.int (m/4%8)],(λv:Æ=>decide (v/2147483648%2=1)),(ůb (show uo _ _ _ _ _ from h).sx),(γ (gC t a b y) (Tk t a b (x+1))),(zw (d b s σ H Q I h) λc f e=>?_),(e2 zH (e1 (xv [Ļ] ßb) ý) ŕg),(backToKw ş (keywordEach [] Ú)),(0<(gt T (w:Æ).toNat &&& Pf X i)),(.tup [.str (ła w),.int d,.int n]),(Αb (λ_ j=>0<j/\j<2 ^ 64) (i/j)),(Ŏc y=À .cell\/Ŏc y=À .free),(Ĉb hz rfl (x:=.bool Ä) rfl ?_),(ĉ (show k+1<=101 by omega) Ò),(yF 5 (e2 yx (e2 vF ý Őb) Ĵ)),(O2 rfl kT (yO (vI VD b rfl Ńa))),PySem.F.entry_tuple_iterator_next,(λq z=>(ϴ).mpr (.inr (s q z))),(λq z w=>B q ϲd λF=>w (i q F)),((ħ h).resolve_left λz=>c Ŝb),(!w.params.followText Ōc && űd),PySem.F.slot_dict_getitem.lookup,PySem.Calls.Name_function_global,(z6.take î),(Ĉb hz rfl (x:=.ref TI) rfl ?_),(Μ (yD uy a rfl (zC Ğ æc))),(λm f j c s o=>i m f j c Ϻj o),(λm f a c s o=>i m f a c Ϻj o),(g0+g1*256+g2*65536+g3*16777216),(.ListComp d [{tg,b,g,0}] a pos),PyProof.Rows.slot_tuple_getitem,List.take_sublist,[.own Ìd,.fz ŝc,.fz (.int w)],[.lst Ϥ,.int first,.int most],[.int w,.int 16,.int 16,.int n],(Αb (λ_ j=>0<=j) (i/2 ^ ϱ)),(Òb [a] Ú=[(Ä,ě a Ú)]),(Ĉb hz rfl (x:=.none) rfl ña),(γ (gE t a b y) (Tl t a b x)),(λp=>if p.1=a then(a,b)else p),(zX Xg Xe (zX kD kA zE ţ) zE),(rI Dg λi j=>.int (i*2 ^ ϱ)),(kvs.any λkv=>decide (kv.1=k)),(k = ϭ \/ k = àa \/ k = åa),(gB left (wS f) λi=>K x (b+i)),(PySem.F.args_dict_get_3 _ _ _),(Nat.le_of_sub_eq_zero (ϐg c)),((σ++Ņ 2 Å).set i (À b)),(zX kD kA zE Īc),PySem.wpAny_comprehension_free,Array.perm_iff_toList_perm.mpr,[ϔa,"_law_other",Ϸ,Ìb,ód],(Ο (Α (e2 zH (z7 2) ŝ))),(Ċd (F.map λi:Â=>(i:Æ))),(Ϡb<=14/\(ňa:Æ)<=2*most+2),(Źd (es:=es) (t:=t) i b d ?_),(υ (wJ [ěd,"there"] [ýa])),(λq z w=>t q z (Ιa (j q w))),(λq z w=>B q (Ιa (j q z)) w),(y=z6[i]\/(zi z6[i]=Ä/\Šg)),(by rw[size_push'];show ųb f),(X.take k++r.toList++Y.drop e),(PySem.F.args_tuple_add_2 _ _),["ways","comers",Ěd,ýa,ϓb],(Ŏ Ŀ Ŀ hi-Ŏ Ŀ 0 lo),(Ŏ ì ì hi-Ŏ ì 0 lo),(Ě (x/2 ^ ((l:Æ)).toNat)),(Ě (g*2 ^ ((n:Æ)).toNat)),(Β (õb λl=>D.lst (zK l))),(λq=>(t i q/\¬ L1 q)\/L2 q),(λd y=>y=d\/(zi d=Ä/\Šg)),(pN (ß).length λi=>pR Ϙb),(pN (ß).length (VE z6 R T)),(.tup [.str w,.int d,.int n]),(.Attribute Üd "extend" ύ),[.int (i:Æ),v],((ß).length+1),[À (Ä,.lst ύe),Å,Å],[À (Ä,.lst a),Å,m,x,A],[st ŋ a b c hk hv,.fz Ťg],[st ŋ a b c hk hv,.fz ćb],[.str ća,.str ϧ,.str ϑ],(ņb e Å ϔb Ú=pure Ä),(Β (õb λl=>.lst (zK l))),(λc f i e=>k a d j c f i e),(wJ ["four"] ["byte","low"]),(st ŋ Ä Ä Ä İ ū),(setField ōb 2 .none >>= _),(if g=f then À u else k g),((Ă).map λr=>uz (wD X r)),((p:Æ)<((ß).length:Æ)),(!(Ϝe j i 0 İa 1).isEmpty),Nat.lt_succ_iff_lt_or_eq.mp,List.getElem?_concat_length,Builtin.List.listLengthHint,Builtin.List.listExtendWith,(Ïb e f Ú Ýe=ě e Ú),(λq=>(o q/\¬ L1 q)\/L2 q),(λq=>(L q/\¬ L1 q)\/L2 q),(λd1 d2 v=>Li I n d1 d2 v),(zg uv (pO à Ŕb ý zF)),(zV Ĳ zU (vH Ğ qL) ıb),(pN (ß).length (jS z6 T)),(e2 yx (e2 vF Âa ďb) Őb),(e2 jK (e2 vg ĸ Ĵ) ĸ),(List.pairwise_map.mp this),(.Assign [.Name x a] e pos),(υa (.int 64)),"dict_reverseitemiterator",Int.fdiv_eq_ediv_of_nonneg,Builtin.Slice.sliceApplied,0,Array.toList_setIfInBounds,[wy T e fw fh sd due done],(λb p=>b++sep.cps++p.cps),(zC (vH Ğ jE) (Γ ϻj)),(yG KF KC Ϡa (zM kH) Ž),(if p.1=a then(a,b)else p),(by rw[mirror_size];omega),(W.methodObj Ĥ (.ref y)),((ĝb).testBit k=Ã->x=y),"_law_machine",Option.map_eq_some_iff.mp,[ōa,ģb,Ůb,ác,ůa,þb],(ėb (íb q ō Û f c)),(ėb (íb c ō Û f g)),(ėb (íb a ō Û f b)),(Λa (ĕ t==Value.none)),(Β ((Ϸa a).map D.int)),(Κ (e2 zH Âa ĝ) ϸe),(Γ (zV Ĳ zU Ď ąa)),(τ.set i (À (Ã,d'))),(λf vs=>PySem.call f vs),(rule "list.sort.gallop"),(pN (ß).length (j_ z6)),(e7 Ė (λb a=>ϲb.1) k),(by unfold zB;rw[hy];rfl),(by simp at hn ⊢;omega),(X.N.map (hide own)++own),(TM (pV ý) (vq 3 4) IN),0,(Nat.le_of_ble_eq_true z),(.nx (Ν (À (Ã,a)))),(.ins C dx (putF f y fs)),(.call (.ref U) {ϥ,[]}),(.Compare a [op] [b] pos),(j.2 a l.symm),slot_list_getitem.lookup,PySem.F.type_list_extend,PySem.F.type_list_append,PySem.F.slot_tuple_index,PySem.F.slot_list_extend,PySem.F.slot_list_append,Builtin.List.listSameRef,(Αb (λ_ j=>0<j) (i%j)),(ϊ q++åb Ϫ (j+1+m)),(ģa w (Ļb 4294901760)),(xs.drop (Ŏ ì 0 lo)),(uJ z6 L ûh dl şa Űd),(if i∈a then 0 else 1),(by unfold zB;rw[Q];rfl),(by rw[k];simpa using m),(by exact 2<=ã;decide),(Option.map (λx=>!x) y),(.tup [.str ća,.str u]),(.Attribute o "get" ύ),"itertools.zip_longest",PySem.F.entry_tuple_add,Nat.testBit_mod_two_pow,Nat.testBit_div_two_pow,Nat.not_lt.mp,List.getElem?_cons_zero,0,List.getElem?_cons_succ,F.entry_set_update_loop,Builtin.Dict.updateFrom,[À (Ä,.lst z6),Å],(Β ((Ϸa b).map ϻa)),(λx l r Q c U N O=>?_),(λv:Æ=>decide (v=0)),(λd=>.tup [d,.bl Ã]),(e2 ql ϣa (zg Z8 ϣ)),(Xk d m A hv {u} o b r),(L.set w (gl L w++[i])),(.Return (À Äf) pos),(.Name Ūa p),PySem.F.slot_tuple_add,PySem.F.entry_dict_get,PyProof.Rows.bitAnd_pp,Nat.testBit_lt_two_pow,List.pairwise_lt_range,[.str w,.int d,.int s],(À (Ä,.dic ks ds)),(λq z=>(ϴ).mpr èb),(λc=>BI x (z+1) c st),(λb o j e=>S b o j e),(zV Ĳ zU ϻ (z8 4)),(yO (vI tZ b rfl Ńa)),(yO (vI Jt b rfl Ńa)),(yO (vI Jr b rfl Ńa)),(yO (vI Jp b rfl ŵb)),(yF 4 (e2 yx ý Ĵ)),(yF 0 (υa (.int 28))),(xB T e fw fh s d0 j0),(vi T áb &&& Pf z6 m),(uJ z6 L T dl şa Űd),(rI C λi j=>.int ϩa),(o.trans (Ĕc e.gh i)),(jv ŋ a b c İ ū),(i.trans (ĵa i.gh g)),(by rw[z];show Ĝ ..),(by rw[uZ Ê];show w),(by rw[c];show{_,m,q}),(Pf z6 i &&& vi T Ëe),(BE a b (ϊ q) i Äb),(.inl {b,k,e,rfl,rfl}),(.While c body [] pos),(.Subscript ŷ k Ça),(.Call Çk ď [] ş),"RowMachine.__init__","PUT_NOUGHT_AND_SIGN",X.s₀.heap.FunFrames,Std.Legacy.Range.size,PyProof.Rows.wpS_lift,Nat.add_lt_of_lt_sub',List.pairwise_map.mpr,List.length_filter_le,List.getElem?_zipWith,List.dropLast_eq_take,List.Pairwise.sublist,Int.mul_ediv_add_emod,[ōa,ģb,Ůb,ác,ůa],[Ϸ,Ìb,řc,ϝa,ĳb],[.int x,.int (n:Æ)],[.dic İ ū,.int x],(Θ ((x+n)%65536+3)),(Θ ((x+n)%65536+2)),(Θ ((x+n)%65536+1)),(Θ ((x+n)%65536+0)),(x.above y c (ϭe h)),(vE (own:=[ēf]) rfl),(vE (own:=[ěa]) rfl),(uJ z6 L T ϕb x6 x7),(uJ z6 L T dl şa x7),(qS (u.uf b c v q) d),(jJ (tE Ĵ) ĸ ĝ),(f.trans (i.trans n)),(es.getD p (0,.none)),(dE I m j hf f e g i),(by simpa using this),(by let:=çc z;omega),(Pf X i &&& vi T ħd),(F.args_zip_next_1 _),(BJ D.l2i2 C.toArray),(BJ D.l1i1 J.toArray),(.Call Çk [] [] ş),(.Call ſb [] [] pos),(.BoolOp .Or [a] pos),(.Attribute o f tpos),((Ϛ x).set ìb.1 r),(A++B++C++Z),(.ret .none),"str_ascii_iterator","itertools.pairwise",wpAny_loadName_local,codeAny_call_builtin,Nat.add_le_of_le_sub,Nat.add_le_add_right,List.length_eraseIdx,List.length_dropLast,List.any_eq_true.mpr,Calls.evalArgs_plain,Array.toList_reverse,[xB T d fw fh b a c],[.Attribute o f Ça],["one",Íe,"borrow"],(ι (XR .list ý)),(đd 0&&p.testBit 0),(Γ (vQ Jh Ih rfl)),(Γ (vQ Jf Ie rfl)),(λz=>e (a.trans z)),(λq z=>j q (i q z)),(λj _ h=>Ý h ύd),(xh x y&&dEqs xs ys),(wJ [ěd] [ýa,ěa]),(wH ϣa (wH Âa vM)),(w a/2147483648%2=1),(w = ϧ \/ w = ϑ),(v4 Źa (v4 ąa qQ)),(tE (e2 za û Õb)),(tE (e2 XS ý őb)),(if k then 1 else 0),(if a then 1 else 0),(by rw[ĥ]<;>omega),(by rw[yH z];show c),(by rw[k,j];show hz),(by rw[a,hl];decide),(by let:=P.ln;omega),(Ya a b Ĩd (i-1) j),(TH I k v hv ?_ l a),(Nat.le_add_left ..),(.tup (c++[.str t])),(.rt Ä (.str ī)),(.inr (j q (i q z))),(.Subscript o k Ça),(.Subscript a b pos),(.Call c ď [] pos),(.BoolOp op [a] pos),(.Attribute o f Ça),((d q).mpr (.inl c)),"dict_itemiterator","_law_name","Machine.registers",z.cps.toList.length,ws.take,wpAny_setEntries_of,wpAny_loadName_cell,wpAny_letGo,Nat.sub_le_sub_left,List.replicate_zero,List.range',List.isEmpty_iff.mp,List.any_eq_true.mp,Builtin.Range.small,[Įa,"low",đf,ýa],(ψc (.Name Ŕa p)),(ψc (.Name ϊb p)),(οb (d.lst i ţa)),(εb (.Name Ãa p)),(ζc (ω (x=.zP))),(ζc (η (x=.zP))),(ϟ λp=>.int p.1),(űb (ϛ (g9 hi))),(Θ (Ìe%65536+3)),(Θ (Ìe%65536+2)),(Θ (Ìe%65536+1)),(Θ (Ìe%65536+0)),(ė _ (ė _ Şc)),(À (Ã,.lst xs)),(λx l r Q c q=>?_),(zV Ĳ zU âa şb),(zV Ĳ zU Ğ Źa),(zC zo (zC zo Řg)),(vv (vQ V4 VY rfl)),(vR ps öd (v%256)),(vE (own:=ĥd) rfl),(vE (own:=ϡb) rfl),(vE (own:=Ãf) rfl),(storeName Ú x u),(qw λi j=>.bl ϩa),(qS (u.qE b e q) d),(intBits_le_64 b a),(hv b s σ H _ I h),0,(f x y&&jG f xs ys),(by simpa using hz),(by simpa using hj),(by simpa using h2),(by simpa using e2),(by simpa using e1),(by rw[ĳ];show b),(by rw[å];show c),(by rw[w.l];show g),(by rw[H.l];show d),(Xo (t5 ţ) zE zE),(Obj.putSet es2 t2),(.tup (p.1.map kV)),(.ret (.int j Đ)),(.Tuple elts kk tp),(.Assign ϧe v pos),(.Assign Ϟe v pos),(yl (yR a)),"internal:collect","dict.update.loop","Machine.__init__",s.heap.IsTupleIter,getattributeRaised,SetTable.orStandIn,SeqAt.EqAt.str_int,SeqAt.EqAt.of_refs,SeqAt.EqAt.int_str,Obj.data_mapFields,0,Nat.pos_of_ne_zero,Nat.lt_of_le_of_ne,List.zip_nil_right,List.getElem?_take,(Ād (ĵa b.gh f)),(Ěb (ĵa c.gh e)),(ςa (Òb es env)),(Κ Ķb (eC Đb)),(λv _=>v=.bl Ã),(λb u e=>ė _ e),(λb H G q=>J b q),(λ_ h=>Ý h ó),(β.set i (À a)),(zX w6 x_ Ğ Ď),(zX kC tN Ď ύg),(zX ib iV Ğ Ď),(zC ţ (Γ ϒd)),(wpAny_handled ?_),(wg [] [] p.1 p.2),(seqObj Ģ Łf 0),(seqObj Ģ #[] c),(n m s σ H _ I h),(m a s σ H _ I h),(call Úb (v::us)),(by simpa using t),(by simpa using T),(by simpa using I),(by rw[ţb];omega),(by rw[Ų,n];rfl),(by rw[Ĉ];omega),(by rw[r9];decide),0,(by rw[hp];decide),(by rw[Ts];show a),(ZF (β.take ğ)),(Bl t1 t2 h l1 l2),(Bk t1 t2 h l1 l2),(B8 a b Ĩd î j),(.obj à že Äk),(.Tuple es x1 pos),(.IfExp c a b pos),((ĕ t==Ėb)=Ã),((a:Æ)==(b:Æ)),wpAny_storeSet_of,wpAny_setEpoch_of,wpAny_pyIter_slot,wpAny_pyIter_enum,wpAny_assign_Name,s.heap.IsListIter,d.params.defaults,Value.isInt_shape,Nat.or_lt_two_pow,Nat.add_sub_of_le,List.pairwise_map,List.nodup_append,List.getElem?_inj,List.drop_sublist,List.any_eq_false,List.Pairwise.map,Heap.get?_push_ne,Calls.spliced_nil,Builtin.Str.glued,Bool.not_eq_true',[ŕa,ėa,Ŏa,ēa],[.lst Ϥ,.int k],(Ļa i q (I q z)),(Ĕf b o e n C t),(ϑg _ _ (śb u)),(íb g d Û f G),(λz=>by cases z),(λx=>x.1.isSome),(λC s H b a=>tq),(zi d=Ã->f d=d),(zX xO xN Ğ zE),(zX Xg Xe zE Ïe),(y.toList.map wS),(xi g xY e σ ds),(x.toList.map wS),(wW (ß).length),(uk (s.free r) _),(not_not_intro z),(i<1099511627776),(by rw[z];show a),(by rw[q];decide),(by rw[i];show R),(by rw[i];show O),(by rw[c];decide),(by rw[b];show c),(by rw[<-IP];rfl),(List.cons.inj a),(.tup [_,.str t]),(.tbl (ps++more)),(.Tuple es k pos),(.Pass {0,0,0,0}),(.Dict [] [] pos),"odict_iterator","_law_told_here","_law_mark_here","State.__init__","REGISTER_COUNT","Machine.stands","Machine.memory",z.cps.toList.map,wpAny_pyIter_zip,wpAny_getItem_of,wpAny_execs_cons,noFill_tuple_add,f.heap.objs.size,d.heap.objs.size,W.cellsFrom_some,Option.getD_none,Nat.succ_lt_succ,List.range'_succ,List.isEmpty_nil,List.countP_cons,List.any_eq_true,List.all_eq_true,Int.ediv_le_self,Heap.size_update,F.entry_zip_next,[p0,p1,p2,p3,p4],["name",ąc,ϓb],["_law_address"],(ôe λd=>!zi d),(À (xA K ſe)),(λz=>h (çc z)),(λx y=>Ĩb Ác),(λq=>nomatch q),(λq z=>h q öe),(yP x Ϟj Å g),(yN (zb yX) Ò),(xi g c e σ ds),(wg [] [] ks us),(wW (m%8).toNat),(wW (m%4).toNat),(wA K V ſe Ĭ),(tj z6 F ϕb x4),(putO o (w g) q),(e2 įc û ād),(by simp[ćd,b]),(a.symm.trans e),(ZF (β.take b)),(.obj à [] []),(.fresh 0 0 Ůd),(.done (Å,())),(.builtin "sum"),(.builtin "all"),((όd).length=n),"type.__call__","numbers","Machine.marks","Machine.again","LOOK_AT_CARRY",wpAny_loadPart',u.toNat.testBit,sc.names.lookup,es'.toList.Perm,codeAny_of_tree,List.zipIdx_nil,L2.isort_sorted,Heap.DictOf.new,F.slot_set_iter,F.slot_int_rmul,F.plain_set_new,[.at [Ļ] àb],[.at [Ļ] ßb],[.at [à] ác],[.at [à] Ůb],(Ρa (Α Ϡg)),(Ε (i+b2i k)),(Ε (gK ps a)),(Ŷa W Ća Å),(Ŷa W Å Ća),(Łb (Íd ĸd)),(Κa (Γ Îd)),(Β (xs++[y])),(Β (TK s.ps)),(Β (Lf++[d])),(Òb [e,f] Ú),(ĥa (Ϝ x z)),(σ++Ņ 1 Å),(λ_=>.inl rfl),(β++[À ĺe]),(uH ks ms k m2),(q _ _ _ d rfl),(kK rfl uA ϻ),(h.swap.pa e c),(f x (Å,l,r)),(eO λi j=>i+j),(eC (.int 256)),(e2 za û ĝ),(e2 zH Ī Âa),(e2 zH Ī ŝ),(e2 zH Ĵ ϣa),(e2 zH û ϑa),(e2 zH ý ϣa),(e2 zH ý ϑa),(e2 yx Âa Õb),(e2 yx ŝ Õb),(e2 xF ý û),(e2 vF ŝ ďb),(e2 T5 ý û),(e.2.2.2.2.1+1),(Rd.tw t Ļk q),(K.set ìb.1 r),(K.ext.trans x),(IH I j n ?_ a),(I.ok.UF b o e),(BM sp [] E0 t),(11*ϓk-kM ϒe),(.nx (Ν Üc)),(.bl (xA ks k)),0,((Ýl).trans B),((ϴ).mpr Ğb),((u p).mpr rfl),"str_iterator","Machine.step","ADDRESS_BITS",sliceRange_one,slicePart_none,recursionLimit,isSubtype_stop,firstArgMember,env.scope.kind,entryFor_alias,c.toArray.size,c.resolve_left,Value.type.inj,PyData.keyHash,Nat.add_le_add,List.forIn_nil,List.Perm.swap,J.toArray.size,C.toArray.size,Bool.and_false,[z,TI,TO,i1,A],[.dic İ ū],(ħb [:n] c f),(Òf tg äb u),(ϧd (Å,())),0,(Β (zK ϟg)),(Β (BQ s b)),(ĕ Ĳa::Ħd),(Á V×Á D),(λi=>Şf i 0),(λ_ _ _ e=>e),(β'++[À m]),(yP x p Å g),(xS (ņa Ĺd)),(xQ x&&ϗc xQ),(x-y-qt Ä<0),(wJ [ěd] Ãf),(wA ks ds x y),(vQ Lq Mh rfl),(vQ Ji Ii rfl),(vQ Jg Ig rfl),(uk (Öi i) _),(u8 d&&Ϻa ds),(pre_splitW b),(pZ fs vs f w),(pZ fs ms f e),(m.2 a l.symm),(l.lst hl ţa),(kK rfl uA zE),(h [] Ĝe ώc),(glued sep ts),(d2 q (C▸f)),(cutS z lo hi),(a.getD i Ä),(Zb Éa tgs n),(Ku _ _ _ _ _),0,(H _ _ Ê ?_),(.int ϩa Đ),(.int (j:Æ)),(.int (b:Æ)),(.ins C dx []),(.inl (i:Æ)),(.fz (.int u)),(.fresh 0 0 b),(.List es pos),"list.append","__getitem__","Machine.run",x.toList.drop,subscriptTail,seq_tuple_add,s.heap.IsCell,listUpdate_at,i.natAbs.log2,h.IsTupleIter,evalPart_none,call_list_seq,WData.layable,W.callWith_K0,Value.isStrOf,SetTable.laid,Reps.dropLast,NameKind.free,NameKind.cell,Int.reduceSub,Bool.or_assoc,Bool.false_or,A.in1.handled,[ŝd,Íe,ϭ],[ōa,ģb,Ůb],[ϔa,Ϸ,Ìb],[ĳb,Ëd,ŕc],[ĭ,ąc,ϓb],[Ϸ,Ìb,ód],[À Ųd,a,b],(Ļa i q öe),(ăe _ _ n x),(Ε (2 ^ w)),(ϋc (ϑb k)),(åe ď Ú),(όg (ϓg b)),(Ŷa z lo hi),(ě ía Ú),(ψa (n++ys)),(À Ųd::yC),(σ++[À b]),(λj o=>j++o),(λi h z=>?_),(ze H' D ύb),(zb (zb ϴg)),(xx.size-1+1),(wI (Åb ps)),(wI (W++[v])),(vR ps x ĺd),(vR ps v Ϫh),(uH A a k m'),(rl u p T ws),(putO o x Ws),(ps++[(a,b)]),(j p (i p w)),(i.gh.free g),(gK ps a≠0),(g6 r.2 i π),(eC (.int 7)),(b.gh.free f),(a/2 &&& p/2),([]++A++B++C),(ZV ps öd v),(ZP (wO Ŷf)),(YL kvs more),(XN xs lo hi),(St->Hp->È),(H _ _ lo ?_),(EP X c σ Q),(.str s t::r),(.str (i++j)),(.rt Ä âf),(.Name Ģ p),(.Name x xp2),(eC Ûb),"ALL_NEEDED",setNextDrawn,p.mem_iff.mp,h'.objs.size,e2.length_eq,call_range_1,call_meetsIn,c.toList.any,c.symm.trans,W.kitx_tuple,SetTable.has,OwnMs.length,Nat.succ_pos,Nat.mul_comm,Nat.lt_asymm,Nat.add_zero,Int.max_comm,Array.toList,(Ĩi jr acc),(ħi t es n),(Β (x::r)),(Ďa .NotEq),(Ðc ?_ úh),(Ņ Ϡ xs),(λx v h=>h),(λi v h=>h),(λc=>l ōd),(λb v h=>h),(ze H l ùe),(ze H l ύb),(zC ţ Ŭh),(zC Ď ĝf),(yP y p f g),(xv ôi àb),(xS (Ϗ i)),(xS (Ϗ f)),(xQ l&&xQ o),(w_ (eC T8)),(tO kvs k y),(tC (.ty T)),(qO ĝ Ī),(pf m π m2),(pf P π m2),(p.bs b o e),(okb.QZ b d),(newList []),(n.append o),(n+M.length),(loop _ rfl),(ks.map ſa),(is.map Ě),(i+1+1==ŉ),(fs[k]' Ê),(dl++gl L m),(c (p6 r.2)),(by cases h),(a.h _ _ e1),(V3 X.K n t),(I.WG x c e),(F9 a o kvs),(Bj t1 h l1),(46+(i:Æ)),(.type T.nm),(.tup [v,u]),(.tup [u,v]),(.tab ks ms),(.int 65535),(.inr {i,b}),(.inr {h,z}),(.inl {z,w}),(.inl {i,b}),(.inl {c,w}),(.dic ks ds),"_law_word","WORD_BITS","PUT_CARRY","LOOK_AT_S","LOOK_AT_D","BYTE_LOWS","BYTE_BITS",y.objs.size,xs.dropLast,wpAny_throw,wpAny_in_of,unsupported,subscripted,seqEpoch_at,o.ExactDict,mirror_perm,interactive,i.objs.size,ds.dropLast,c.objs.size,binarySort',acc.toArray,W.kitx_dict,0,Value.isInt,Value.bytes,Shared.heap,Reps.append,Paired.snoc,OwnMs.split,Option.none,Nat.sub_sub,Nat.add_mul,IsRangeIter,IsRange.new,Int.mul_one,I.ok.j7.mem,I.ok.frames,Heap.ExtBut,F.heap.get?,E.ext.trans,D.TOi1.symm,Code.guards,Code.frames,Builtin.Str,[a,.fz Čd],[a,.fz ťc],[a,.fz èk],[a,.fz Ük],[S,.int 38],[S,.int 37],[S,.int 30],0,[S,.fz èk],[S,.fz Ük],(ϕl k þ),(Ļa n q z),(Ļa n q c),(Ε (a%3)),(ςb (j<i)),(χc (Ļc)),(ě e env),(ě a Ú),(Νa (i-j)),(η (i=j)),(ϥj∘ı),(åb m Äb),(Ðc Ìk a),(Ġa _ Ĝ),(Š ċc f),(ĉ l Ò),(ĉ G Ò),(Ņ k its),(Ű _ Õa),(Ű _ Ĝ),(À (_,d)),(zg uC ŀh),(zg Ua ëc),(ze H' D o),(ze H x o'),(ze H a u'),(zC Źa zN),(zC ϻ zN),(zC Īc zN),0,(zC Ď zN),(zC zE æc),(zC o zN d),(zB Đf zF),(y j q l z),(wR I q ?_),(wQ X7 ϣ),(wQ WX ϣ),(w8 ks Ċe),(uQ (vS p)),(uQ (vS f)),(kB (yR d)),(j.cut l h),(fs.zip vs),(eL uj Ëb),(by show u),(by show A),(as.zip vs),(SP X zA D),(IU (zO d)),(HS f y fs),(11*ģ-s'),(.ye o öi),(.ye o Ĕa),(.type Ķa),(.rt Ã d),(.rt Ä d),(.ok .next),(.Name x f),((i:Æ)<l),"__iter__","MARK_LOW",us.toArray,typeLookup,tJ.none_of,size_push',pushGuards,places.map,nds.length,l.swap.fin,isTrue_and,dl'.length,closureFor,boot_range,bind_assoc,acc.length,a.Pairwise,Walks.list,WShape.has,W.handedIn,Subscript_,R.Pairwise,OwnMs.putF,Nat.mod_lt,D.i2z.symm,D.i12.symm,[p0,p1,p2],[.tup ϵc],(Ğc V.bl),(Ėc .inr),(æf C dx),(ŉa<1000),(ņa this),(ì==Ś),(Ņ k xs),(Ã==Ã),(Û==ϓh),(λv h=>h),(ze H q o),(ze H a d),(ze H T o),(ze H D o),(ze G p u),(ze G p o),(zC zo zN),(yF 6 ϲk),(yF 2 Ūh),(yF 1 ĝ),(xh d1 d2),(xC b=Ã),(w/2 ^ 31),(vR d u v),(v.da ţa),(uV its k),(uT a Ŕk),(uP Āf i),(truthy v),(tO f k v),(s.2++[d]),(qP a s d),(n b ob e),(l b ob e),(j+1==ϓ),(hb _ _ d),(d.db ţa),(by rw[h]),(by rw[e]),(by rw[c]),(arrOf st),(a.d4 X G),([]++A++B),(YN ŵf=0),(Xi b=Ã),(P.zip vs),(KL e=Ã),(KG _ _ _),(IA Ė n),(H b ob e),(BK b ϸb),(2 ^ 63-1),(.tup ϒk),(.tup Ğf),(.str ϑ),(.str Ëc),(.str x t),(.ref Ŗc),(.ref ϖa),(.own ļk),(.int ϩa),(.int Ŀ),(.int ì),(.inr åa),(.inr àa),(.inr ϭ),(.inl Ϙa),(.inl p.1),"Machine",zs.length,z.sameBut,ws.length,updateSeq,t.advance,strValues,spos.line,sortRuns',slicePick,sh.extBut,sg.extBut,s.ws.getD,s.heap.Ns,rows.getD,putSet_of,ok.frames,o.g.trans,newFields,l.swap.sa,kvs.foldl,j.gh.free,isTrue_or,i.g.trans,h.swap.ca,h.IsTuple,h.DictOfH,getMethod,g.toArray,g.isEmpty,g.gh.free,f.g.trans,es.length,d.sublist,countRun',b.testBit,Reps.take,Reps.getK,Reps.getA,Reps.drop,Int.toNat,I.zh.kept,Classical,Arguments,[ŋd,ϓb],[Äl,ĳb],[ěa,Ăj],[ōa,ģb],[ŏ,ób],[ϧ,ϑ],[ϔa,όl],[ϔa,Ēf],[ĳb,ŕc],[ĭ,ŭm],0,[ĭ,ąc],[x,y,z,u],[w,x,y,z],[v,ov,iv],[a,.fz r],[3,2,1,0],[2,0,3,1],[1,3,0,2],[0,1,2,3],[.p 0 []],(Ϭc a l),(ũe Ϗd),(ñg î),(ũi Ō),(Ťi î),(ĩi õi),(ϒl ña),(Ϗl î),(Ğc ı),(Ōd äb),(õl hlt),(Şf i 0),(Ϙc ĕ),(Ε ŭh),(Ĕc s r),(Ŝk _ _),(ϙ d j),(ψb Ŵf),0,(ûb ſa),(ϱb s h),(Ćc Ĭg),(χc Ŕk),(εb Ąl),(εc èh),(Ϫa.1+1),(Νa ϩa),(ω Ļd),(ϋ Ŗc),(Ψc ŏl),(Ωb ąa),(Κa ŵb),(Β đg),(Β Ŏd),(Β œf),(Β Ąc),(Β ľb),(Ďa .Eq),(Ņa ųa),(Ζ Ĳf),(Ζ ώb),(Ζ ϥa),(Ζ Đb),(Ĩ rfl),(Ía Õd),(Γ ùh),(Γ Źa),(Γ âa),(ς Ōb),(ς Ϡa),0,(Ϗ ċc),(Ġa _ z),(Ûa âb),(Ûa ϱ),(Ű _ q),(Ű _ e),(ò Ϲi),(ò Ìk),(À ăk),(À Äf),(À Ŭ),(zg F fs),(zB f fs),(xj z6 a),(xX K pI),(xX K j8),(xX K Z6),(xX K Y_),(xX K UW),(xX K UV),(x/2 ^ l),(x a o e),(w8 ks x),(vz K uv),(vz K WR),(vz K WQ),(vz K WP),(uV [] 0),(u e1 e2),(qp z6 t),(q _ _ d),(pQ F fa),(o=À k),(o++x++y),(k K a z),(jS z6 T),(hv s hs),(h r g f),(gA E.WF),(fg d τ),(f _ _ e),(ds++[y]),(d+k+x.2),(cut H L),(a::b::r),(a++[yv]),(YL [] b),(W y c e),(RD te t),(Pf z6 i),(Oy lo n),(L.n X G),(JV ns k),(IZ P hi),(Hp->È),(F b o e),(B q èb),(B q īa),(2 ^ w-1),(.ref UK),(.ok Ől),(.nx r.2),(.lst vs),(.lst Lf),(.int g0),(.int 30),(.int 24),(.fz üh),(.fz Ϣb),(x==("__debug__" : Str)),(yN (JL (n:=4) Ò) Ò),(tf ϡ wN),(wH ý (wH (eC (.int 30)) (wH (eC (.int 40)) vM))),(by cases y<;>show c),(v4 Ğ (v4 zE (v4 zE qQ))),(tf ϡ qL),(úa (show n<32 by omega)),(uQ (vS l)),(eC (.int 26)),(by exact _<16777216;omega),(by unfold uJ;generalize zD z6=RR at b a ⊢;generalize wm z6=WW at b a ⊢;generalize õb ϣd=LL at b a ⊢;generalize zK T=TT at b a ⊢;generalize zK dl=DD at b a ⊢),(by omega;rintro _ g (⟨f⟩|⟨l⟩);show ü {g,rfl,_,rfl,f}),(by rw[V7];unfold Y3;show Vd Ÿc ?_),(by decide +kernel),(by show ďj {?_,?_};rintro(⟨z,w⟩|⟨z,w⟩|z);show .inl {z,λF=>w (i q F)};show .inl {j q z,w};show .inr z;rintro(⟨z,w⟩|z)),(by let{c,z,rfl,b,j,B}:=r2;cases(show u=ĕ a from rx);cases(show v=ĕ c from ry);by_cases hac:a=c;subst hac;rw[Li I ģ _ _ _ q p o]),(by rw[show ġf ϳa=Šd ϳa by simp,JN r c];show q),(by intro n s σ H x y v u Q I g i h;let{l,o,k,f,e,d,q}:=h;by_cases hf:Űn=Ã;let c:=hf;rw[Č]at c;let{a,b}:=nQ d c.1 c.2 f e),(by unfold XM;generalize zD z6=RR at c f ⊢;simp only[Ö,c,f];rfl),(by subst e;let{o,e,c,d}:=st;show{o,e,λv z=>by rw[d]at z;cases z}),(by show this),(by intro c s σ H x y v u Q I a b h),(by simpa using this),(by dsimp only),(by exact(Ϫb).bind _=_;rw[e1]),(by show ϒg Ći Ði Õi ōh ?_;unfold Builtin.«sorted»),(by intro i s σ H Q I h),(by let{a,w,rfl,i,g,F}:=n;let{c,z,rfl,b,j,B}:=m;cases(show u=ĕ a from o);cases(show v=ĕ c from p)),(by intro X F x A Q i O s σ H E I r st n;subst F x A;let{_,g,f,J}:=Eh Ė n.1 d;let m:Ña=ň:=IB f),(by by_cases c:k'=k;rw[Ð c]at e;cases e),(by kernel_rfl),(by rw[<-(Ģd).UD,<-l];show h _ Ϸb;subst f;cases(show u=ĕ b from m);let{z,j,r,c,d}:=U_ Ė e),(by let{t,p,k}:=h.h),(by rw[Ñ c]at b;cases b),(by rw[Ð c]at b;cases b),(by show{_,rfl,?_}),(by obtain⟨⟨m,β1⟩,hy,a⟩:=zG a;let{y,ey,a}:=zG a;cases Wu ey;let{nd,hn,a}:=zG a),(by intro X hP hw hK d i zA s σ H E I hf st hg;subst hP hw hK;let{g,j,{u,v,m},n,p}:=st),(by split at a),(by intro e s σ H x y v u Q I b d h;let{i,j,rfl,rfl,q}:=h;let{t,rfl}:=b;let{c,rfl}:=d),(by show x.h _ _ l;cases e;rw[Ũ]at c;subst c;show{_,gA ũ,?_};simp only[Ìc,Ăa,ź]),(by intro X U G J b i zA s σ H E I C st O;subst U G J;obtain⟨⟨old,g⟩,j⟩:=st),(by split at h;rename_i e),(by split at h),(by rw[Ŷ,Ŷ,Ϭd];by_cases c:m=i;rw[Ð c,Ð ōd,Ð (c▸h)];rfl;rw[Ñ c,Ñ çi]),(by intro X r g l u i A s σ H E I d st m;subst r g l;let{x,q,C,p,j,y}:=d it ó),(by intro X Q L N R i O s σ H E I F st q;subst Q L N;let{G,B,Z,y,p,J}:=F it ó),(by rw[Ð c]at h;cases h;show{_,_,rfl,rfl,c,rfl};rw[Ñ c]at h;cases h;cases h),(by simp only[c,ϐb,ź];show ü (v c);simp only[c,Ĭf,Ĺb,Ăa];show ü (z c)),(by rw[ŕp];show Ó Şh;exact Ø _ _ ϖg _ _ _),(by rw[ŕp];rw[Ñ Ê];refine í øn;cases e2:B ŏf;show ü (O e2);show ü (N e2)),(by show{c.typeIs,λb q=>?_,h};cases q;let{ob,_,_,i,f,_}:=c;show{ob,i,f.2.1}),(by show Ó (m:=ϔe ϯb) ?_;unfold ϔe;show Ó Ţk;simp only[ź];show Ó ąk),(by let:=Hx Ðg;rw[show(Ðg).isEmpty=Ä by rw[IP];cases zK dl'<;>rfl]at this),(by rename_i lo y q g L R;let K:=ůi;have ll:ŏd=lo+Ϡb:=by rw[<-ĳ,f,è,o]),(by exact _<=16777216;omega),(by intro b m;exact b<(Ía _).objs.size;rw[ϙa];simp only[ťa,Ëa,ϫa]at m),(by let e2:=Mu _ e Ŋk;generalize zD z6=RR at e2 ⊢;simp only[Ö,e2];rfl),(by by_cases hj:j=i;subst hj;rw[hi]at e1;cases e1;rw[Òh J]at e2;cases e2),(by rw[ïh (śb hj)]at e2;let{u',r',q}:=hl j y v' e1 e2 Z;show{u',r',?_}),(by omega;rw[è];show Ŕ _),(by cases a;show{_,_,b,c,q _ _ _ Ùa rfl}),(by rw[Ōp];by_cases c:E q;show .inr ϝn;show .inl {z,c};show .inr īa),(by intro i s σ H x y v u Q I f g h;let{a,b,k,rfl,rfl,e,q}:=h;cases g),(by show ĵb _;show ųb c;rw[<-l];show oX B;intro G x t' k;rw[<-l,e]),(by rw[Ŗp];exact(ňd).bind _=_;rw[e2];exact(Ĥm).bind _=_;rw[c];rfl),(by let{B,e1,E}:=f o t;let{J,e2,F}:=f n l;show O j B J _ _ e1 e2 E F),(by intro k s σ H x y v u Q I g j h;let{p,l,rfl,b,f,c,q}:=h;cases j),(by cases f;rename_i g h;let{a,k,rfl,B,n,_}:=t;let{b,w,rfl,C,o,_}:=A),(by let{t,u,i}:=y.h;show{{_,(āl).h,λE a q=>?_}};let{s,j,a}:=zG a),(by let z:decide (k<m)=Ã:=ù hk;unfold Y5;simp only[ń,Xv,z,cR,h]),(by rename_i p i;let{a,j,rfl,f,h,_}:=k;cases m;let{w,g,e}:=Kq h b),(by change (match xQ x&&ϗc xQ with|Ã=>À Îf|Ä=>Å)=À k at b),(by unfold ũi;show Ó Þk;exact Ø _ _ Ák _ _ s;refine Ó Ϫj),(by rw[Ĉ,show n+ķj=n+1+þ by omega]),(by split at d),(by rw[ũ];show Š Ϭa.1 Ϗa),(by let{k,b,a}:=zG a;cases a),(by generalize z_ X i=r at *),(by by_cases hb:b=a;subst hb),(by rw[œp];let{i,j,rfl,rfl,q}:=h;let{t,rfl}:=a;let{d,rfl}:=b),(by rw[show n+1+i+1=n+î+1 by omega]),(by let{va,E,e1,Z,j,X}:=ée r b;let{v1,L1,a1,Y,i,Q}:=Ãj Z ee),(by let{d,rfl}:=Ŀa d0;let{s,rfl}:=Ŀa s0;let b:d<8:=by omega),(by cases d;rw[c]at a;cases a;rw[l]at b;cases b;show Ϛc r e),(by rw[Şp];show{{t,p,λE a q=>?_}}),(by rw[è,å,ġa];omega),(by rintro i m σ H ⟨rfl,O,τ,G,K,a⟩;by_cases hlt:i<Óa),(by rintro g f v ⟨b,c,e,q,r,l⟩;show{b,c,e,?_,ðb f r,l}),(by omega;rintro⟨q,c⟩ g ⟨r,e,f⟩;cases e;show ü ĝp),(by let{v,r,rfl,b,a}:=h),(by let l:Òa=Żb:=by let:=Ŵa;rw[å]at this;rw[ĥ];rw[Œp]),(by rw[show(éa).N.length=ñ+Îb from bu X own]at q;show q),(by let{a,z}:=u.pF b g q;show{a,by rw[yH (qS z d)];show z}),(by intro a Èa o R m K V x B g;let c:=s m;let f:=fR P ąp),(by show Ó (m:=Ģc ϯb 2) ŉk;show Ó (m:=Ģc ϯb 3) ŕk),(by let:(Ųa).testBit 0=Šl:=Ľb ..;simp only[ôf]at this),(by let q:=(Ģd).UD;rw[Ħh]at q;rw[<-q,<-l];show h _ Ϸb),(by cases(show _=[]from r)),(by cases(show _=[]from h)),(by cases f;let m:(g++h).length<=ã:=by rw[ŕ,è];show c),(by show{{o,e,d.1},λa e2=>?_};cases e2;show{o,e,d.2.1}),(by show .inr z),(by let{a,l,rfl,d,c,_}:=r1;let{k,m,e,b,f,_}:=r2;cases e),(by exact Ø _ _ Êl _ _ s;rw[Ñ (show ¬ ām from Ħ)]),(by constructor),(by by_cases c:k'=k;rw[Ð c,Ð c]),(by let{t,h,q}:=c b A ć s H vs Q E l g;show{t,h.qD,q}),(by by_cases z:n=0;let a:decide Œf=Ã:=ù Ê;rw[Ð z]),(by simpa using e),0,(by rw[Ϲ];show Ũ),(by rw[this]at g;show Ý Ĺd Ĉa),(by rw[show n+î=n+1+i by omega]),(by let{a,b,c}:=Ļa i q z),(by intro X C q t O i N s σ H E I l st y;subst C q t),(by intro X C n r O i N s σ H E I j st y;subst C n r),(by cases(ϸ ħj);exact Ø _ _ Òk _ _ s;rw[ē,ē,ē]),(by cases a;show q _ _ _ Ϝb rfl),(by exact(match qu 1 (w:Æ)with|Ã=>À ϟe|Ä=>Å)=_),(by exact À όi=_;rw[show ńd=decide (i=j)from rfl]),(by unfold zK;rw[Ĩa]),(by dsimp only at e),(by let{_,_,_,_,o,_,_,e,d,_}:=Ė p _ b;show{o,e,d}),(by let p:(ŏo).length<=ã:=by let:=Hi f k v;omega),(by intro c s σ H Q I h),(by let:Æd x=À .free:=a;rw[k]at this;cases this),(by let:b=Û:=by simpa using z),(by cases(show v=_ from r);rfl),(by let{u,rfl,n}:=uq r;cases(show u=ĕ a from n)),(by let{u,rfl,m}:=uq r;cases(show u=ĕ a from m)),(by let e:x[b+i]?=À x[b+i]:=getElem?_pos _ _ Ê),(by intro e s σ H x y v u Q I d a h;let{c,q}:=h),(by split at b),(by let:=rM h b;unfold ZT at this;rw[Č]at this),(by let e:vC i=ĉn+1:=by exact Ėk=_;rw[Ñ Ýc]),(by exact(Ϥc).bind _=_),(by cases Į h;omega),(by by_cases c:i=m;rw[Ð c,c]),0,(by rintro x _ L ⟨l,o,rfl,p,t,u,C⟩;rw[ŕp]),(by by_cases c:ÿc+Ś<=yV;rw[Ð c]at a;cases a),(by by_cases c:L q),(by subst e;show d.WK Ġ ϐi),(by rw[uZ Ê]at this;rw[Œp]),(by let{d,b,a}:=zG a;cases a),(by let{a,w,rfl,i,g,E}:=r1;rw[ōp];show Ûh _),(by split at z),(by split at f;rw[ϓp]),(by show{_,rfl,?_,rfl}),(by rw[ϕp];show{_,rfl,λq=>{x,y,k,c,e,b,q}}),(by let{J,ru,Y}:=I.UI Z;let{C,r,pw}:=I.UI hy),(by show .inl z;show .inr ϛn;show .inr īa),(by show .inl h),(by unfold MF;exact zR _ _ œg=_;rw[v6 el]),(by subst this),(by show Ó ?_;simp only[Ľh,Ŷm,Řh,Ín]),(by rw[ŕ,è];show c;rw[Ñ c]at a;cases a),(by rintro _ ⟨l,_,_,z⟩),(by let{t,rfl}:=d),(by cases a;show{_,λ_=>rfl,λq=>{_,r,q}}),(by by_cases z:b=a;subst z),(by by_cases c:i=0;subst c),(by show{L++[xm N[i]],?_,ll,B};unfold xm),(by rw[ũp];rename_i c;show{c,h};cases h),(by rintro _ _ ⟨rfl,y,q,g,rfl,d,a,F⟩),(by rintro _ _ ⟨rfl,l,o,rfl,p,t,u,C⟩),(by let:x≠n:=by rintro rfl;show h v Ĝ),(by exact Ø _ _ Ϟk _ _ _;refine Ó Òd),(by unfold zK;rw[îa];rfl),(by unfold vX;rw[h,a];show{?_,by rw[b]}),0,(by rw[ϕp];show{_,rfl,λq=>eA c e b q}),(by let{us,L,Q,_}:=ϗ B;let F:=Q.isList),(by let{c,rfl,d}:=d;cases k;show ſd ?_),(by let{a,e,{y,r},q}:=k;subst e;cases t),(by let{E,G}:=hv d hd;let{Q,X}:=hv s hs),(by let i:d<Ŋa:=Ćg.1;rw[dt];unfold LH),(by by_cases e:p.1=k;let a:q.1=k:=Ŕn e),(by unfold zK;rw[å]),(by show .inl {(ϴ).mpr īa,w};rw[Ϯp]),(by rw[ŕp];rw[Ð c];show ü q;rw[Űp]),(by let{k,e,c}:=zG c),(by let{j,p,e}:=ϫ h;let:j=i:=by omega),(by show q _ _ _ Ùa rfl),(by rw[å]at b;rw[äc,<-j,łb];show b),(by rw[t.ne b hb];show h),(by let{w,l,_}:=šc.2.2;rw[l];rw[Ŧp]),(by let:c=b:=by simpa using Ŧ ŝn d1),(by let e:=Ϟ;simp only[ĳ]at e;omega),(by intro e s σ H Q I h),(by intro a s σ H D I h),(by by_cases e2:i=j;rw[e2];show Ϟa _),(by by_cases c:m<(ß).length/\m ∉ F),(by unfold gl;rw[Ŷ,Êd];split<;>rfl),(by obtain⟨⟨h,m'⟩,k,c⟩:=zG c),(by let f:gZ Ůf 0 ńc=.p 0 ńc:=rfl),(by exact _<=ã;rw[ŕ];omega;rw[ðh]),(by cases e;let{a,c,h}:=zG h;cases h),(by by_cases hx:x∈cs;rw[Ð hx]at b),(by by_cases h:p.1=a;rw[Ð ŗo,Ð h]),(by subst f;let{z,j,t,c,d}:=gf Ė e),(by simpa using h),(by simp only[Ö,e]),(by simp only[Ö,e1,e2]),(by simp at h1 h2;subst h1;subst h2),(by show Ó ña),(by show .inl z;rintro(z|z);rw[Ϯp]),(by rw[Ũp];cases e),(by rw[e]at h;let a:y=n:=by rw[ϵp]),(by rintro(⟨z,w⟩|z)),(by let{x,p,r}:=n.h;let{u,o,j}:=i.h),(by let{tb,pb,kb}:=hb.h),(by let{t,m,n}:=j.h;let{r,l,i}:=f.h),(by exact(Śd).bind _=_),(by cases Į hk;show hd),(by cases this)],[(zB ἀ zF),(.lst ἀ),(zC ἀ zN),(zc (yg ἀ)),(.int ἀ),(Α (eC ἀ)),(yG ϓj yk ἀ ἁ Ž),(ἀ%65536),(λC s H d c=>ἀ),(tE (e2 za ἀ ἁ)),(Ĩ ἀ a),(zX xO xN ἀ zE),(σ.set i ἀ),(.nx (À ἀ::yC)),(zB û ἀ),0,(λC s H c b=>ἀ),0,0,(zc (u7 (vt rfl ἀ ἁ ἂ ἃ ἄ))),(kJ ἀ rfl),(zc (u7 ἀ)),(zd (gH Èb rfl ἀ ἁ ἂ) (zc ἃ)),(ze H p ἀ),(À ἀ::yC),0,0,0,0,0,0,0,0,0,(λr st=>∃g,st=yP a0 p0 f0 g/\jX ἀ ἁ r),(ZQ 0 [.at [Ļ] "words"] ŕg ἀ),(ul ϓj yk ἀ ἁ Ž),(ym (Η ἀ ἁ) (Δ ἂ) xH),(.bl (decide ἀ)),(wV (Xb Ŀp ıb ἀ)),(gI (tE ἀ)),0,0,0,(wj ἀ Ūd),(vp ἀ rfl),(yz (i:=1) (show (ἀ).Nodup by decide +kernel) rfl â),0,0,(tP qk qr rfl wp qM (uG ἀ uY)),0,0,(yz (i:=2) (show (ἀ).Nodup by decide +kernel) rfl â),0,(PyProof.Rows.wpS_modify ἀ),(VZ (n:=2) rfl (pp ἀ ἁ)),(.bl (!decide ἀ)),(xZ ἀ λc=>?_),(λC s H c b=>ἀ),(zd (ym ἀ ἁ xH) (zd ἂ ἃ)),(ò (Ó ἀ)),(zV Ĳ zU ἀ ἁ),(zC Ď ἀ),(zC ἀ zN),(pp ἀ Va),((u q).mpr (.inr ἀ)),(yD uy b rfl (zC Ğ ἀ)),(if ἀ=Ã then _ else _),(vp (Ι ἀ) rfl),(qw λi j=>.int ἀ),(tE (e2 xM Ķb ἀ)),(al (al ἀ m) p),0,(zB Ĵ ἀ),0,0,(Yb (t5 ἀ)),(wV (ZS ἀ)),(zC Ğ ἀ),(PyProof.Rows.wpS_lift (PySem.wpAny_rule {rfl,í ἀ})),(Ó (PySem.wpAny_onRaise ἀ)),(λC s H d c=>(ZY ἀ)),0,0,0,0,0,0,0,0,0,(Δ (wj (zC ἀ ἁ) Ūd)),(zd (ym ἀ ἁ xH) (zc ἂ)),(xV (λ_=>À ἀ)),(kK rfl uA ἀ),(yY (xz ἀ)),(wY (yO ἀ)),(Yf (tE ἀ)),0,0,0,(ůd ἀ ?_),(zB ý ἀ),(zM (zV Ĳ zU ἀ zE)),0,0,(backTo pos ἀ),0,0,(e2 vF ý (eC ἀ)),0,(zB ý (Α ἀ)),(À (Ã,.lst ἀ)),(VM 0 [.at [Ļ] ßb] (eC ἀ) (wO ἁ)),(rI ἀ λi j=>.int ἁ),(λc=>ü {g,rfl,gE.fin ἀ}),(qw λi j=>.bl (decide ἀ)),(tE (e2 xM Ī (xz ἀ))),(vp (Ρ (ο ἀ)) rfl),(D.lst ((ἀ).map Ě)),(tE (e2 za ý ἀ)),(Tz ἀ ἁ {l} ?_ ?_ ?_),(IK ŏa Ńp zo ἀ),(δb (zB ŝ ἀ)),(zc (O9 ļd zE ἀ)),(λC s H b a=>ἀ),(yO (wB ἀ ľp)),(uG (zM ἀ) uY),(LM ἀ rfl rfl),0,(Ψ (Β ἀ)),0,0,(XY ἀ Ôk XZ),(Ρ (ZY ἀ)),(ym ἀ O8 xH),(Υc ŏa ἀ),(zM (yO ἀ)),(Μ (zX uX uW ἀ zE)),0,0,0,0,0,0,0,0,0,(yz (i:=3) (show (ἀ).Nodup by decide +kernel) rfl â),(yY (xz (zB Ī ἀ))),(.Call ἀ [e] [] pos),(ņb v (À ἀ) ϔb Ú=pure Ä),(Α (Οe (e2 yx Âa ἀ) (zB ἁ zF))),(ZS (YK VB b rfl (gz ϡ ἀ))),(λc=>ü {g,rfl,gC.fin ἀ}),0,0,0,(ym (pq (Za ťg ἀ)) ϙe xH),(KD G H ἀ y u v d Q s e f Łp q),(λc=>ü (h _ _ ἀ)),0,0,(qN λi j=>decide ἀ),0,0,(.Call ἀ [e] [] ş),0,(xS (by rw[u];show Ϗ ἀ)),(.nx (Ν (ψa ἀ))),(setField ōb 0 ἀ >>= _),(jR (pQ Wa (jD 0 [] ἀ))),(λC s H fp pn=>Cz ἀ),(λC s H fp pn=>C_ ἀ),(yG ïd k9 ἀ Íh Ž),(λC s H fp pn=>(ἀ).h),(zg uC (zB ý ἀ)),(ym (pq ἀ) (zc ἁ) xH),(rU λi=>.int ἀ),(ν (zC zo ἀ)),(Ρe Ϻi Ņp ἀ),(zg uC (χa ἀ)),(yO (wB ἀ Ūd)),(ἀ%4294967296),(Ρa (Α ἀ)),(Ζa (Γ ἀ)),0,(ϊe (í ἀ)),0,0,(w_lt rfl ἀ ἁ ?_),(yG (pY ἀ) pX (zM Īc) (zM ἁ) ϐa),(.BoolOp .And ἀ pos),(.BoolOp .Or ἀ pos),(.nx [À (Ä,.lst z6),À (Ã,.lst (zK ἀ)),Å]),(zc (yc (i:=1) Iy.nd rfl â (zX kC tN Ď ἀ))),0,0,0,0,0,0,0,0,0,(λxs H Q=>(∃p ys,xs=[.ref p]/\ἀ/\Q ἁ H)\/∃z,xs=[.str z]/\Ŀ<=ã/\Q (.int Ŀ) H),(Mp I Ê ἀ g j h λd1 d2 x y u v d e l f k=>Lh I n A.in1 d1 d2 x y u v ἁ d e l f k),(yF 1 (e2 (wz ϓa) û (e2 vg ĸ ἀ))),(λx y H Q=>y=.zP/\Q ἀ H),(Μa (yz (i:=5) (show (ἀ).Nodup by decide +kernel) rfl â)),(Ι (yz (i:=9) (show (ἀ).Nodup by decide +kernel) rfl â)),(Ps rfl rfl Xw LO (Γ (yO ἀ))),0,0,0,(Μa (yz (i:=4) (show (ἀ).Nodup by decide +kernel) rfl â)),(ε (zM (yD pU b rfl ἀ)) Ϩa),(λx y H Q=>∃i j,x=.str i/\y=.str j/\Q (.bl ἀ) H),0,0,(yz (i:=7) (show (ἀ).Nodup by decide +kernel) rfl â),0,0,(jJ (tE (e2 za û ĝ)) őb (e2 za (zg wv ἀ) ĸ)),0,((ἀ).filter λd=>!zi d),(.Call ἀ [a] [] pos),(if ÿc+Ś<=yV then À (Fl.nx ἀ)else Å),(.done (À ἀ,i,m,ϊ q++(ἁ).reverse,g,k,j-1-m)),(λd=>match d with|.int j=>.int ἀ|d=>d),(ζ Ϡa ãa (yD Lw b rfl (zC Ď ἀ))),(qR (i:=1) Mw.nd rfl â Ò (wY ἀ)),(Δ (nR cF iW rfl Vv E5 (Γ ἀ))),(Αa (λc=>ü {_,rfl,Xt.fin ἀ})),(Αa (λc=>ü {_,rfl,Xr.fin ἀ})),(YK Ly a rfl (v4 Ď (v4 ἀ łp))),(.done (À ἀ,i,j-1,ϊ q,g,k,u)),(yD pU b rfl (zC ţ (zC zE ἀ))),(.done (À ἀ,o++ŀb i ἁ,i+k,j,g,k,u)),(Q w H->rU (λi=>.int ἀ) u H Q),(λc=>ü (both λp j q f=>Ϲa ἀ ἁ)),(zB (eC ϫh) (zB (eC Ϭh) (zB ἀ ἁ))),(λxs H Q=>∃p ys,xs=Ĥd/\ἀ),0,(ym (Υc ŏa ἀ) (Ωc ŭk) xH),0,0,(.nx [À ἀ,À úe,À ϴd,À ἁ,À ἂ]),(Ţb β i π (.obj x øe ἀ)),(λq z=>yH λc=>z ((ἀ).mpr c)),(zw ἀ λd f ⟨i,g,j⟩=>?_),(if (ἀ).length<yV then À ἁ else Å),(λc=>ü {_,rfl,gC.fin ἀ}),0,0,0,0,0,0,0,0,0,(pQ X6 (wH û (wH ἀ ŀp))),(by rw[Ū,<-Ū ἀ,ϒa,ex]),(yG ĉe pX Ōb (zM ἀ) ϐa),(Δ (wj (zC Šb ἀ) üd)),(ub (tE (e2 za û ἀ)) t),((ἀ).all λw=>(ἁ).all λd=>(ἂ).all λs=>ZT Ϣj),((ἀ).all λw=>(ἁ).all λd=>(ἂ).all λs=>f Ϣj),0,0,0,(λq z=>.inl ((ἀ).mpr z)),(zV ūh zU ıa (Μ ἀ)),(ul Ìm yk (zM ἀ) (zM ἁ) Ž),0,0,(ms.map À++Ņ ἀ Å),0,0,(N O h' es' c t' I g ἀ f b ἁ),0,(e2 zH Ĵ (e2 yx ἀ ņp)),(Ţb r.2 i π (.own ἀ)),(zX w6 x_ Ğ (yO ἀ)),(yO (ιc (vt rfl Ϩe ἀ ἁ ķc ἂ))),(yG ïd k9 ἀ Ϩa Ž),(u9 d (í ἀ)),(zM (yD Lz b rfl ἀ)),(yY (eL Jd (Α ἀ))),(zC ıb (zC ĭc ἀ)),(zB ϸe (zB ŋn ἀ)),(zB đb (zB że ἀ)),(al (al ἀ ųf) ńp),(Xo ťg kH (ξc ἀ)),(.nx ((ἀ).set j Üc)),(.Expr (υb ἀ) pos),(χ (í (Γe ἀ))),(zB ŵd (zB çh ἀ)),(e2 zH (xV (zB ἀ ἁ)) (e2 yx (υa ώb) (eC Űa))),0,((uQ (vS f)).trans ((uQ ἀ).trans ((ἁ).trans ἂ)))])
def q0 (h0:0=0:=by first|show .inl rfl|show .inr rfl|assumption)(h1:0=0:=by decide)(h2:0=0:=by intro _;rfl)(h3:0=0:=by rfl)(h4:0=0:=by first|show Or.inl rfl|show Ħg â|show Ħg Þa)(h5:0=0:=by first|show ūa|show⟨rfl,ūa⟩|show⟨rfl,rfl,ūa⟩|show⟨rfl,rfl,rfl,ūa⟩|show⟨rfl,rfl,rfl,rfl,ūa⟩)(h6:0=0:=by intros;show λ_ _ _ _ _ _=>rfl):ũb:=⟨⟩
def q7:=q0._auto_1
def q10:=q0._auto_2
def q11:=q0._auto_3
def q12:=q0._auto_4
def q13:=q0._auto_5
def q14:=q0._auto_6
def q15:=q0._auto_7
local macro_rules|`(tactic|omega)=>`(tactic|lia)
local macro_rules
  |`(tactic|cases $h:ident)=>`(tactic|first|(subst $h:ident)|(injection $h:ident;done)|(injection $h:ident with g;clear $h:ident;cases g)|(injection $h:ident with g k;clear $h:ident;cases g;cases k))
  |`(tactic|cases $h:term)=>`(tactic|first|(have g:=$h;subst g)|(have g:=$h;injection g;done)|(have g:=$h;injection g with k;clear g;cases k)|(have g:=$h;injection g with k l;clear g;cases k;cases l))
noncomputable section
namespace L2
open Ķ ő Ň
abbrev zW:=Sum Æ Ç
nonrec def tL:zW->Value->Ï
 |.inl k,v=>Ϸn k v|.inr x,v=>ďn x v
nonrec def z87(w:æ):zW->Æ
 |.inl k=>hashInt k|.inr x=>hashStr w x
def jP:∀{k:zW}{v:Value},tL k v=Ã->(∃i t,k=ı i/\v=Ϛb i t)\/(∃x t,k=ϵb x/\v=ŏb x t)
 |.inl i,v,h=>by let{t,e}:=Ċm (k:=i) (v:=v) h;show .inl {i,t,rfl,e}
 |.inr x,v,h=>by let{t,e}:=Value.isStrOf_shape (x:=x) (v:=v) h;show .inr {x,t,rfl,e}
def z88(i:Æ)(t:Tok):tL þj űf=Ã:=by simp[tL,Ϸn]
theorem z89(x:Ç)(t:Tok):tL äg Ūo=Ã:=by simp[tL,ďn]
theorem z8a(a b:Æ):decide ((ı a:zW)=ı b)=ļg:=by
 by_cases e:a=b;subst e;simp;let h:¬ (ı a:zW)=ı b:=λq=>e (çc q)
 rw[Ĕ h];show(Êb e).symm
def z8f(a b:Ç):decide ((ϵb a:zW)=ϵb b)=decide (a=b):=by
 by_cases e:a=b;subst e;simp;let h:¬ (ϵb a:zW)=ϵb b:=λq=>e (Ďi q)
 rw[Ĕ h,Ĕ e]
theorem z8b(a:Æ)(b:Ç):decide ((ı a:zW)=ϵb b)=Ä:=Ĕ ŗm
def z8e(a:Ç)(b:Æ):decide ((ϵb a:zW)=ı b)=Ä:=Ĕ ŗm
def xR(ă:ï)(w:æ):PySem.KeyKind ă w zW where
 is:=tL
 hash:=z87 w
 inj:=λv a b g d=>by
  rcases jP g with⟨i,t,rfl,rfl⟩|⟨x,t,rfl,rfl⟩;rcases jP d with⟨j,u,rfl,e⟩|⟨y,u,rfl,e⟩;injection e with e1 _;rw[e1];show nomatch e
  rcases jP d with⟨j,u,rfl,e⟩|⟨y,u,rfl,e⟩;show nomatch e
  injection e with e1 _;rw[e1]
 byValue:=λk v h=>by rcases jP h with⟨i,t,rfl,rfl⟩|⟨x,t,rfl,rfl⟩<;>rfl
 pyHash:=λc h=>by rcases jP c with⟨i,t,rfl,rfl⟩|⟨x,t,rfl,rfl⟩;show wpAny_pyHash_int h;show wpAny_pyHash_str h
 eqBool:=λf c h=>by rcases jP f with⟨i,t,rfl,rfl⟩|⟨x,t,rfl,rfl⟩;rcases jP c with⟨j,u,rfl,rfl⟩|⟨y,u,rfl,rfl⟩;rw[z8a]at h;show wpAny_eqBool_int h;rw[z8b]at h;show Õm i t y u _ _ _ _ h;rcases jP c with⟨j,u,rfl,rfl⟩|⟨y,u,rfl,rfl⟩;rw[z8e]at h;show Óm x t j u _ _ _ _ h;rw[z8f]at h;show wpAny_eqBool_str h
 «strs»:=λk x t v h=>by
  rcases jP h with⟨i,u,rfl,e⟩|⟨y,u,rfl,e⟩;show nomatch e
  injection e with e1 _
  subst e1;cases v<;>rfl
def y05(ă:ï)(w:æ)(i:Æ)(t:Tok):(ïa).is þj űf=Ã:=z88 i t
def Ht(ă:ï)(w:æ)(x:Ç)(t:Tok):(ïa).is äg Ūo=Ã:=z89 x t
set_option genInjectivity true
inductive V where
 |zP|bl (b:Ï)|int (i:Æ)|str (x:Ç)|byt (b:Ù UInt8)|WJ (b:UInt64)|ref (a:Ë)|ty (n:æa)
 deriving Ňb
set_option genInjectivity false
def zy:V->Value->È
 |.zP,u=>u=Ėb|.bl b,u=>u=Śf b|.int i,u=>∃t,u=Ϛb i t|.str x,u=>∃t,u=ŏb x t|.byt b,u=>∃t,u=ϸn b t|.WJ b,u=>∃t,u=či b t|.ref a,u=>u=ĕ a|.ty n,u=>u=ϗb n
abbrev zl:Á V->Á Value->È:=Ŗd zy
theorem zl.length{xs:Á V}{us:Á Value}(r:zl xs us):ì=áa:=Ϥh r
theorem zl.get:∀{xs:Á V}{us:Á Value}{i:Â}{x:V},zl xs us->xs[i]?=À x->∃u,us[i]?=À u/\zy x u
 |_,_,_,_,.nil,e=>by simp at e|_,_,0,_,.cons r _,e=>by simp at e;subst e;show{_,rfl,r}|_,_,i+1,x,.cons _ t,e=>by let{u,b,a}:=zl.get (i:=i) (x:=x) t Ła;show{u,by simpa using b,a}
theorem zl.set{x:V}{u:Value}(r:zy x u):∀{xs:Á V}{us:Á Value}(i:Â),zl xs us->zl Ĺf (us.set i u)
 |_,_,_,.nil=>.nil|_,_,0,.cons _ t=>.cons r t|_,_,i+1,.cons q t=>.cons q (zl.set r i t)
theorem źf:∀{xs ys:Á V}{us ws:Á Value},zl xs us->zl ys ws->zl Ŵf (us++ws)
 |_,_,_,_,.nil,s=>s|_,_,_,_,.cons r t,s=>.cons r (źf t s)
theorem zl.take:∀{xs:Á V}{us:Á Value}(n:Â),zl xs us->zl (xs.take n) (us.take n)
 |_,_,0,_=>.nil|_,_,_+1,.nil=>.nil|_,_,n+1,.cons r t=>.cons r (zl.take n t)
theorem zl.drop:∀{xs:Á V}{us:Á Value}(n:Â),zl xs us->zl (xs.drop n) (us.drop n)
 |_,_,0,r=>r|_,_,_+1,.nil=>.nil|_,_,n+1,.cons _ t=>zl.drop n t
def tJ:É V->É Value->È
 |À v,À u=>zy v u|Å,Å=>ũb|_,_=>ÿ
def KV{κ:Type}:Á Ϯa->Á Ďd->È:=Ŗd λ(p:κ×V) (q:κ×Value)=>p.1=q.1/\zy p.2 q.2
nonrec def kV:zW->V
 |.inl i=>.int i|.inr x=>.str x
inductive HO where
  |lst (xs:Á V)
  |tup (xs:Á V)
  |dK (kvs:Á ϲ)|dT (kvs:Á ňb)
  |set (S:Æ->Ï) (n:Â)
  |ins (C dx:Ë) (fs:Á Řb)
  |own (x:Ë)
  |xd (fs:Á Řb)
  |met (f x:Ë)
  |rng (lo hi:Æ)
  |ye (o:Obj) (u:HO)
  |tbl (ps:Ù Value)
  |ext (φ:Heap->È)
abbrev Hp:=Ë->É HO
nonrec def ze(H:Hp)(a:Ë)(o:HO):Hp:=λb=>if b=a then À o else H b
def yh{H:Hp}{a:Ë}{o:HO}:ze H a o a=À o:=by unfold ze;rw[Ð rfl]
theorem yH{H:Hp}{a b:Ë}{o:HO}(h:b≠a):ze H a o b=H b:=by unfold ze;rw[Ñ h]
theorem y0m{H:Hp}{a b:Ë}{o u:HO}(h:H a=À o)(h':H b=À u)(d:o≠u):a≠b:=by intro e;subst e;rw[h]at h';show d (ϸ h')
def qS{H:Hp}{a b:Ë}{o:HO}(h:H a=À o)(h':H b=Å):a≠b:=by intro e;subst e;rw[h]at h';cases h'
section
variable(P:ï)(w:æ)
def xT(H:Hp)(h:Heap)(a:Ë):HO->È
 |.lst xs=>ì<=ã/\∃(its:Á Value) (n:Â),zl xs its/\ę a=À { cls:=.type Ģ,Ć:=.seq ϝ n }|.tup xs=>ì<=ã/\∃its:Á Value,zl xs its/\Īb h a ϝ|.dK kvs=>ň<=ã/\ĩa=Ä/\∃vs,KV kvs vs/\Ģe êb a vs|.dT kvs=>ň<=ã/\ĩa=Ä/\∃xs:Á Ĵc,
   Ŗd (λ(p:Á zW×V) (q:Á zW×Ë×Value)=>p.1=q.1/\H q.2.1=À Çm/\zy p.2 q.2.2) kvs xs/\
   ∃o es ep,ę a=À o/\ϭn/\ϩ=.dict es ep/\ϙb=Ėc (entryOfKey Æe)/\(Ėc (·.1)).Nodup
 |.set S n=>h.SetOf (intKind P w) a S n|.ins C dx fs=>H dx=À ĸe/\ŉa<=1000/\dx≠a/\ę a=À Ĵo/\
   ∃mA,Ņg dx mA/\(∀f,tJ Īj źj)/\Ûi mA (Ϙc (·.1))
 |.own _=>∃o,ę a=À o|.xd fs=>∃mA,Ņg a mA/\∀f,tJ Īj źj|.rng lo hi=>∃t u v,ę a=À { cls:=.type Ŕa,Ć:=.fields #[.int lo t,.int hi u,.int 1 v] }|.ye o u=>ę a=À o/\xT H h a u|.tbl ps=>ę a=À { cls:=.none,Ć:=.fields ps }|.met f x=>ę a=À (W.methodObj Ĥ ĵd)|.ext φ=>φ h/\(∃o,ę a=À o)/\∀h1 h2:Heap,φ h1->(∀o,Ĕj a=À o->h2.get? a=À o)->φ h2
def wG(H:Hp)(h:Heap):È:=∀a o,H a=À o->xT P w H h a o
#print a
section
variable{P:ï}{w:æ}{H H':Hp}{h h':Heap}{a:Ë}{o:HO}
theorem xT.lt(x:xT P w H h a o):a<âb:=by
 cases o with
 |lst xs=>let{_,_,_,_,e}:=x;show ġ e
 |tup xs=>let{_,_,_,p}:=x;show p.lt
 |dK kvs=>let{_,_,_,_,o,_,_,e,_}:=x;show ġ e
 |dT kvs=>let{_,_,_,_,o,_,_,e,_}:=x;show ġ e
 |set S n=>let{o,_,_,_,e,_}:=x;show ġ e
 |ins C dx fs=>let{_,_,_,e,_}:=x;show ġ e
 |own y=>let{_,e}:=x;show ġ e
 |xd fs=>let{_,{_,_,_,e,_},_}:=x;show ġ e
 |rng lo hi=>let{_,_,_,e}:=x;show ġ e
 |ye ob u=>let{e,_}:=x;show ġ e
 |tbl ps=>show ġ (show ę a=À _ from x)|met f y=>show ġ (show ę a=À _ from x)|ext φ=>let{_,{_,e},_}:=x;show ġ e
theorem ϒf{α β:Type}{F G:α->β->È}:∀{l₁:Á α}{l₂:Á β},Ŗd F l₁ l₂->(∀a b,F a b->G a b)->Ŗd G l₁ l₂
 |_,_,.nil,_=>.nil|_,_,.cons r t,f=>.cons (f _ _ r) (ϒf t f)
def xT.Yw(x:xT P w H h a o)(k:∀b u,(b=a\/H b=À ĸe)->ę b=À u->Ċ b=À u)(B:∀b,H b=À ĸe->H' b=À ĸe)(F:∀b xs,H b=À Ōa->H' b=À Ōa):xT P w H' h' a o:=by
 induction o with
 |lst xs=>let{z,l,n,r,e}:=x;show{z,l,n,r,k _ _ Ŗ e}
 |tup xs=>let{z,l,r,g,e,c}:=x;show{z,l,r,g,k _ _ Ŗ e,c}
 |dK kvs=>let{z,y,E,r,g,i,j,e,c}:=x;show{z,y,E,r,g,i,j,k _ _ Ŗ e,c}
 |dT kvs=>let{z,y,xs,r,g,i,j,e,c}:=x;show{z,y,xs,ϒf r λp q z=>{z.1,F _ _ z.2.1,z.2.2},g,i,j,k _ _ Ŗ e,c}
 |set S n=>let{g,i,j,t,e,c}:=x;show{g,i,j,t,k _ _ Ŗ e,c}
 |ins C dx fs=>let{d,z,A,e,s,{m,i,j,e2,c},r}:=x;show{B _ d,z,A,k _ _ Ŗ e,s,{m,i,j,k _ _ (.inr d) e2,c},r}
 |own y=>let{g,e}:=x;show{g,k _ _ Ŗ e}
 |xd fs=>let{s,{m,i,j,e,c},r}:=x;show{s,{m,i,j,k _ _ Ŗ e,c},r}
 |rng lo hi=>let{t,u,v,e}:=x;show{t,u,v,k _ _ Ŗ e}
 |ye g u ih=>let{e,q}:=x;show{k _ _ Ŗ e,ih q}
 |tbl ps=>have e:ę a=À { cls:=.none,Ć:=.fields ps }:=x;exact Ċ a=À { cls:=.none,Ć:=.fields ps };show k a _ Ŗ e|met f y=>have e:ę a=À Âl:=x;exact Ċ a=À Âl;show k a _ Ŗ e|ext φ=>let{p,{o,e},st}:=x;show{st _ _ p λo q=>k _ _ Ŗ q,{o,k _ _ Ŗ e},st}
theorem wG.lt(x:wG P w H h)(e:H a=À o):a<âb:=(čp).lt
def wG.fresh(x:wG P w H h)(e:âb<=a):H a=Å:=by
 cases q:H a with
 |Å=>rfl|À u=>show Ý (Š (x.lt q) e) Ĉa
def wG.kept(x:wG P w H h)(k:∀b u,ę b=À u->Ċ b=À u):wG P w H h':=λa o e=>
 (čp).Yw (λb u _ q=>k b u q) ţf λ_ _ q=>q
def wG.laid(x:wG P w H h)(k:∀b u,ę b=À u->Ċ b=À u)(g:âb<=a)(d:xT P w þe h' a o):wG P w þe h':=λb u e=>by let f:=x.fresh g;rw[ϗp];rw[yh]at e;cases e;show d;rw[yH hb]at e;show(Ϥi).Yw (λc v _ q=>k c v q) (λc q=>by rw[yH (qS q f)];show q) λc i q=>by rw[yH (qS q f)];show q
#print a
def Rd(H:Hp)(a:Ë)(u:HO):È:=H a=À u\/∃o,H a=À ĕe
def Rd.ok{P:ï}{w:æ}{H:Hp}{h:Heap}{a:Ë}{u:HO}(r:Rd H a u)(x:wG P w H h):xT P w H h a u:=by rcases r with r|⟨o,r⟩;show x a u r;let{_,q}:=x a _ r;show q
def J9:É HO->È
 |À (.lst _)=>ũb|À (.dK _)=>ũb|À (.dT _)=>ũb|À (.set _ _)=>ũb|À (.ins _ _ _)=>ũb|À (.ext _)=>ũb|_=>ÿ
section
variable{P:ï}{w:æ}{H:Hp}{h h':Heap}{x e:Ë}{o':HO}
def wG.write(ok:wG P w H h)(i:J9 (H x))(n:e=x\/H e=À Ķd)(k:∀b u,b≠e->ę b=À u->Ċ b=À u)(l:∃u,Ċ e=À u)(j:xT P w òo h' x o'):wG P w òo h':=λb u q=>by
 let a:∀c y,H c=À (.own y)->c≠x:=λc y r z=>by subst z;rw[r]at i;show i
 let d:∀c g,H c=À (.tup g)->c≠x:=λc g r z=>by subst z;rw[r]at i;show i
 by_cases hb:b=x;subst hb;rw[yh]at q;cases q;show j;rw[yH hb]at q;by_cases hbe:b=e;let m:H b=À Ķd:=by rcases n with z|z;show Ý (hbe.trans z) hb;rw[hbe];show z
 rw[q]at m;cases m;let{v,o}:=l;show{v,by rw[hbe];show o};show(ok b u q).Yw (λc v f r=>k c v ?_ r) (λc r=>by rw[yH (a c b r)];show r) λc g r=>by rw[yH (d c g r)];show r
 rcases f with rfl|f;show hbe;rintro rfl;rcases n with z|z;show a c b f z;rw[f]at z;cases z;show hb rfl
#print a
structure Un(fs ex:Á Ë)(H H':Hp)(h h':Heap):È where
 Śa:∀b o,ę b=À o->H b=Å->b ∉ fs->b ∉ ex->Ċ b=À o
 slot:∀b o,ę b=À o->H b=Å->b∈fs->b ∉ ex->∃sl,Ċ b=À { o with Şd:=sl }
 free:∀b o,ę b=À o->H b=Å->b ∉ ex->H' b=Å
 Łg:∀b o,ę b=À o->b ∉ ex->∃o',Ċ b=À o'
 qE:∀b xs,H b=À Ōa->H' b=À Ōa
 uf:∀b o u,H b=À ĕe->H' b=À ĕe
 pF:∀b ps,H b=À Ėe->∃more,H' b=À ĳm
section
variable{fs ex:Á Ë}{H H1:Hp}{h h1 h':Heap}{a x e:Ë}{o:HO}
def Un.any(u:Un fs ex H H1 h h1){b:Ë}{a:Obj}(q:ę b=À a)(n:H b=Å)(c:b ∉ ex):∃sl,Ĕj b=À { a with Şd:=sl }:=by by_cases hb:b∈fs;show ĕg b a q n hb c;show{a.slots,Œe b a q n hb c}
def Ńe(k:∀b u,ę b=À u->Ċ b=À u):Un fs ex H H h h':=
 {λb a q _ _ _=>k b a q,λb a q _ _ _=>{a.slots,k b a q},λ_ _ _ n _=>n,λb a q _=>{a,k b a q},λ_ _ q=>q,λ_ _ _ q=>q,λ_ c q=>{#[],by rw[q];simp}}
def Un.refl:Un fs ex H H h h:=Ńe λ_ _ q=>q
def Un.laid(k:∀b u,ę b=À u->Ċ b=À u)(d:âb<=a)(c:H a=Å):Un fs ex H þe h h' where
 Śa:=λb u q _ _ _=>k b u q
 slot:=λb u q _ _ _=>{u.slots,k b u q}
 free:=λb u q n _=>by rw[yH (Ϗ (Š ăg d))];show n
 Łg:=λb u q _=>{u,k b u q}
 qE:=λb e q=>by rw[yH êj];show q
 uf:=λb u e q=>by rw[yH êj];show q
 pF:=λb f q=>{#[],by rw[yH êj,q];simp}
def Un.write(a:J9 (H x))(i:e=x\/H e=À Ķd)(k:∀b u,b≠e->ę b=À u->Ċ b=À u)(c:∃u,Ċ e=À u):Un fs ex H ŋi h h':=by
 let g:∀b,H b=Å->b≠x:=λb n z=>by subst z;rw[n]at a;show a
 let f:∀b,H b=Å->b≠e:=λb n z=>by subst z;rcases i with r|r;show g b n r;rw[n]at r;cases r
 let d:∀b u,H b=À u->¬ J9 (À u)->b≠x:=λb u q l z=>by subst z;rw[q]at a;show l a
 refine⟨λb u q n _ _=>k b u (f b n) q,λb u q n _ _=>{u.slots,k b u (f b n) q},λb u q n _=>by rw[yH (g b n)];show n,λb u q _=>?_,
  λb j q=>by rw[yH Ōh];show q,λb u j q=>by rw[yH Ōh];show q,λb m q=>{#[],by rw[yH Ōh,q];simp}⟩
 by_cases hbe:b=e;subst hbe;show c;show{u,k b u hbe q}
#print a
nonrec def BR(h:Heap)(H:Hp):Á Ë:=(úp).filter λa=>(H a).isSome
def YG(h:Heap)(H:Hp):Heap:=W.hideAll h öj
def z76(h:Heap)(H:Hp):(Ûg).objs.size=âb:=W.hideAll_size _ _
def z75{h:Heap}{H:Hp}{b:Ë}{o:Obj}(e:ę b=À o)(n:H b=Å):(Ûg).get? b=À o:=
 W.hideAll_get _ e λa=>by let q:(H b).isSome=Ã:=(űb a).2;rw[n]at q;simp at q
def y23{h:Heap}{H:Hp}{b:Ë}{o:Obj}(e:(Ûg).get? b=À o):ę b=À o/\H b=Å:=by
 let a:ę b=À o:=W.of_hideAll öj e;show{a,?_};cases q:H b with
 |Å=>rfl|À x=>have c:b∈BR h H:=Úd {úa (ġ a),by simp[q]};let z:(Ûg).get? b=Å:=W.hideAll_none öj c;rw[z]at e;cases e
nonrec def z18(g h:Heap)(L:Ë):Á ô:=(úp).filterMap λa=>if a=L\/(şj a).isSome=Ã then Å else(ę a).map λo=>(a,o)
def yC(g h:Heap)(L d:Ë):Á ô:=(z18 g h L).filter λp=>decide (p.1≠d)
structure Mod(K:Ô)(mg:Ç->É Value)(Ì:Heap):È where
 Yu:ŵ Ì
 glob:ŀd Ę mg
 blt:∃mb,ŀd Ļi mb/\∀x:Ç,x ≠ ıi->mb x=ž x
 nolimit:base.NoLimit
structure Cx where
 ă:ï
 w:æ
 K:Ô
 mg:Ç->É Value
 Ì:Heap
 A:ø
 N:Á Ç
 s₀:Î
 H₀:Hp
 env:Env
 ć:Á Env
 stack:Á Env
 ex:Á Ë
 fn:Ç->Ï
 calm:Ï
 pn:Á ô
 xe:Value->Î->È
nonrec def jN(l:Á Env):Á Ë:=l.filterMap (·.frame)
abbrev Cx.fs(X:Cx):Á Ë:=jN Łd
def gX(a:ça)(x:Ç):È:=żb x=À .local\/żb x=À .cell\/żb x=À .free
def qg(a:ça)(x:Ç):È:=żb x=À .local\/żb x=À .cell
def z0v(env:Env)(h:Heap)(m:Ç->É Value)(x:Ç)(u:Value):È:=
 (ūc x=À .local/\m x=À u)\/((ūc x=À .cell\/ūc x=À .free)/\∃c,Ĺh x=À c/\h.IsCell c (À u))
structure Cx.Ok(X:Cx):È where
 mod:Mod X.K ð ĵ
 kind:Ļh=.function
 glob:Ϣh=Ę
 blt:X.env.builtins=Ļi
 above:Ñc<=Ϭ
 inj:∀x y c,Ĥa x=À c->Ĥa y=À c->x=y
 has:∀x,(Ŏc x=À .cell\/Ŏc x=À .free)->∃c,Ĥa x=À c
 UA:∀x c,X.fn x=Ã->Ĥa x=À c->Ñc<=c
 hd:Ů=Ã->X.A.handled=Å
 Šj:X.A.frames=À œa
 Qe:œa=Łd\/(œa=Ú::Łd/\X.env.frame=À Ϭ)
 QZ:∀b∈X.ex,b≠Ϭ/\∀x c,Ĥa x=À c->c≠b
 bs:∀b o,èe b=À o->ĺh b=À o/\úb b=Å
 k_:X.base.objs.size<=Ñc
 UF:∀b o,èe b=À o->b ∉ X.ex
 UC:∀b∈X.ex,b ∉ śa
 j7:Ĩl ĵ Łd
 Ys:∀b∈śa,úb b=Å
structure Inv(X:Cx)(zA:Á ô)(σ:Á ćg)(H:Hp)(s:Î):È where
 ok:X.Ok
 os:s.os=X.s₀.os
 bare:Ńd Ęg
 Ì:Un śa X.ex úb H X.s₀.heap á
 loc:∃m,ύo Ϭ m/\∀(i:Â)(x:Ç)(v:V),X.N[i]?=À x->σ[i]?=À ϯ->gX Ïa x->∃u,zy v u/\z0v Ú á m x u
 cell:∀x c,Ĥa x=À c->∃v,ćn c v
 free:H Ϭ=Å
 pE:∀x c,Ĥa x=À c->H c=Å
 pin:∀p∈Èc++zA,ö p.1=À p.2/\H p.1=Å/\p.1≠Ϭ/\p.1 ∉ śa/\∀v,p.2.data≠.cell v
 zh:wG õ X.w H á
 len:σ.length=ñ
section
variable{X:Cx}{zA:Á ô}{σ:Á ćg}{H H':Hp}{s:Î}{h':Heap}
def Cx.Ok.z0j(ok:X.Ok){b:Ë}{o:Obj}(e:èe b=À o):b ∉ śa:=λa=>by let:=(ok.j7.mem a).1;rw[e]at this;rw[Ĥq]
theorem Inv.bs(I:Inv X zA σ H s):∀b o,èe b=À o->ö b=À o/\H b=Å:=λb o e=>
 {Ĕf b o Čf.1 Čf.2 (I.ok.z0j e) ϱm,ôd b o Čf.1 Čf.2 ϱm}
def Inv.bk(I:Inv X zA σ H s):∀b o,èe b=À o->ö b=À o:=λb o e=>(I.bs b o e).1
theorem Inv.mod(I:Inv X zA σ H s):Mod X.K ð ĵ:=Öj
def Inv.wE(I:Inv X zA σ H s):X.K.In á:=I.ok.mod.Yu.keeps I.bk
theorem Inv.lt(I:Inv X zA σ H s):Ϭ<Û:=let ⟨_,hn,_⟩:=ĝa;hn.lt
def Inv.sz(I:Inv X zA σ H s):Ñc<=Û:=ĉ łi (ìa I.lt)
def Inv.Ap(I:Inv X zA σ H s){a:Ë}(h:Û<=a):a ∉ śa:=λb=>by let{_,o,c,_}:=Ço b;show Ý (Š (ġ c) (ĉ I.sz h)) Ĉa
def Inv.WG(I:Inv X zA σ H s):∀x c,Ĥa x=À c->c≠Ϭ:=λx c e z=>by let{v,o,d,f}:=Ĵa x c e;let{m,{i,g,h,b,a,_},_}:=ĝa;rw[z,b]at d;cases d;rw[a]at f;cases f
theorem Inv.j7(I:Inv X zA σ H s):ñf ĵ Łd:=by
 let f:∀(l:Á Env),(∀b∈jN l,b∈śa)->Ĩl ĵ l->ñf ĵ l:=by
  intro l
  induction l with
  |nil=>intro _ _;trivial|ú env r ih=>
   intro g m;let{h,{L,o,c,k,i,j},n}:=m;let d:L∈śa:=g L (by unfold jN;rw[øh,c];show Ĝ);let{p,e}:=íe L o i (I.ok.Ys L d) d λz=>I.ok.UC L z d
   show{h,{L,_,c,k,e,j},ih (λb a=>g b (by unfold jN;rw[øh,c];show Ű _ a)) n}
 show f Łd (λ_ a=>a) I.ok.j7
theorem Inv.stack(I:Inv X zA σ H s):ñf ĵ œa:=by rcases I.ok.Qe with e|⟨e,hf⟩;rw[e];show I.j7;rw[e];let{m,a,_}:=ĝa;refine .cons (by rw[ěb];decide) hf a ?_ I.j7;show Heap.get?_none_of_le (ĉ ög łi)
def Inv.Qf(I:Inv X zA σ H s):∀b∈jN œa,b∈Ϭ::śa:=λb a=>by rcases I.ok.Qe with e|⟨e,hf⟩;rw[e]at a;show Ű _ a;rw[e]at a;unfold jN at a;rw[øh,hf]at a;show a
def Inv.At(I:Inv X zA σ H s):∀b∈jN œa,H b=Å:=λb a=>by rcases ħ (I.Qf b a)with e|a;rw[e];show ża;let{_,o,c,_}:=Ço a;show ôd b o c (I.ok.Ys b a) λz=>I.ok.UC b z a
def Inv.step{g':Ù GenState}{t':Â}{d':Drawn}{ch:Á Ë}(I:Inv X zA σ H s)(g:∀b∈ch,ßf/\b≠Ϭ/\(∀x c,Ĥa x=À c->c≠b)/\∀p∈Èc++zA,p.1≠b)(j:∀b o,b≠Ϭ->b ∉ śa->b ∉ ch->ö b=À o->H b=Å->Ċ b=À o)(A:∀b o,b≠Ϭ->b∈śa->b ∉ ch->ö b=À o->H b=Å->∃sl,Ċ b=À { o with Şd:=sl })(f:∀b o,b ∉ ch->ö b=À o->H b=Å->H' b=Å)(B:∀b o,b ∉ ch->ö b=À o->∃o',Ċ b=À o')(W:∀b xs,H b=À Ōa->H' b=À Ōa)(Y:∀b o u,H b=À ĕe->H' b=À ĕe)(O:∀b ps,H b=À Ėe->∃more,H' b=À ĳm)(ns:∀m,ύo Ϭ m->h'.Ns Ϭ m)(Z:wG õ X.w H' h')(P:Ńd g') :Inv X zA σ H' { s with ç:=h',gens:=g',Àc:=d',đ:=t' }:=by
 let F:∀b o,ĺh b=À o->b≠Ϭ:=λb o e=>Ϗ (Š ċc łi)
 let y:∀b o,ĺh b=À o->b ∉ X.ex->b ∉ ch:=λb o e a C=>by rcases(g b C).1 with z|z;show a z;show Ý (Š ċc z) Ĉa
 let t:∀x c,Ĥa x=À c->∀v,ćn c v->h'.IsCell c v:=λx c e v ⟨o,E,G⟩=>by
  let h:c ∉ ch:=λz=>(g c z).2.2.1 x c e rfl
  by_cases hc:c∈śa;let{sl,q}:=A c o ϐn hc h E ñi;show{_,q,G};show{o,j c o ϐn hc h E ñi,G}
 show{ϳc,Êc,P,{λb o e n C a=>?_,λb o e n C a=>?_,λb o e n a=>?_,λb o e a=>?_,λb xs e=>W b xs (će b xs e),λb o xs e=>Y b o xs (Će b o xs e),λb ps e=>?_},?_,λx c e=>?_,?_,λx c e=>?_,λp L=>?_,Z,āb};show j b o įp C Ŋf (Ĕf b o e n C a) śh;let{sl,e1}:=íe b o e n C a;let{J,e2}:=A b _ įp C Ŋf e1 śh;show{J,e2};let{o',e1}:=ãe b o e a;show f b o' Ŋf e1 śh;let{o',e1}:=ãe b o e a;show B b o' Ŋf e1;let{U,e1}:=Ĉe b ps e;let{S,e2}:=O b _ e1;show{U++S,by rw[e2,Array.append_assoc]};let{m,Q,R}:=ĝa;show{m,ns m Q,λi x v e1 e2 T=>?_};let{u,r,l}:=R i x v e1 e2 T;show{u,r,?_};rcases l with l|⟨k,c,e,z⟩;show .inl l;show .inr {k,c,e,t x c e _ z};let{v,z}:=Ĵa x c e;show{v,t x c e v z};let{m,{o,_,_,E,_},_}:=ĝa;show f _ o (λz=>(g _ z).2.1 rfl) E ża;let{v,o,E,G}:=Ĵa x c e;show f c o (λz=>(g c z).2.2.1 x c e rfl) E ñi;let{e,n,K,N,d}:=ĺa p L;let h:p.1 ∉ ch:=λz=>(g p.1 z).2.2.2 p L rfl
 show{j p.1 p.2 K N h e n,f p.1 p.2 h e n,K,N,d}
def Inv.un{t':Â}(I:Inv X zA σ H s)(u:Un śa [] H H' á h')(i:wG õ X.w H' h'):Inv X zA σ H' { s with ç:=h',đ:=t' }:=by
 let{m,{o,l,q,g,r},_}:=id ĝa;let{p,h}:=u.any g ża ó
 show ũj (g':=Ęg) (d':=Ĝe) (ch:=[]) êa (λb o _ c _ e n=>Œe b o e n c ó) (λb o _ c _ e n=>ĕg b o e n c ó) (λb o _ e n=>Ėg b o e n ó) (λb o _ e=>ìg b o e ó) u.qE u.uf u.pF (λt j=>by let{v,f,d,a,k}:=j;rw[g]at a;cases a;show{_,f,d,h,k}) i Ža
def Inv.call{g':Ù GenState}{t':Â}{d':Drawn}{ch:Á Ë}(I:Inv X zA σ H s)(u:Un îj ch H H' á h')(q:wG õ X.w H' h')(l:Ńd g')(f:∀b∈ch,ßf/\b≠Ϭ/\(∀x c,Ĥa x=À c->c≠b)/\∀p∈Èc++zA,p.1≠b) :Inv X zA σ H' { s with ç:=h',gens:=g',Àc:=d',đ:=t' }:=by
 let{m,{o,y,B,j,r},_}:=id ĝa;let{A,g}:=u.any j ża λz=>(f _ z).2.1 rfl
 show ũj (ch:=ch) f (λb o g k a e n=>Œe b o e n (λz=>(ħ (I.Qf b z)).elim g k) a) (λb o _ _ a e n=>u.any e n a) (λb o a e n=>Ėg b o e n a) (λb o a e=>ìg b o e a) u.qE u.uf u.pF (λC t=>by let{E,i,h,d,v}:=t;rw[j]at d;cases d;show{_,i,h,g,v}) q l
def Inv.turned{t':Â}{it:Ë}(I:Inv X zA σ H s)(k:∀b o,b≠it->ö b=À o->Ċ b=À o)(y:H it=Å)(f:it≠Ϭ)(w:it∈X.ex\/Ñc<=it)(j:∀x c,Ĥa x=À c->c≠it)(t:∀p∈Èc++zA,p.1≠it):Inv X zA σ H { s with ç:=h',đ:=t' }:=by
 let d:∀b u,H b=À u->b≠it:=λb u e z=>by rw[z,y]at e;cases e
 show ũj (g':=Ęg) (d':=Ĝe) (ch:=[it]) (λb i=>?_) (λb o _ _ a e _=>k b o âh e) (λb o _ _ a e _=>{o.slots,k b o âh e}) (λ_ _ _ _ n=>n)
  (λb o a e=>{o,k b o âh e}) (λ_ _ e=>e) Ýn (λb B e=>{#[],by rw[e];simp}) (λm A=>?_) (λb u e=>?_) Ža
 let e:b=it:=by simpa using i
 subst e;show{w,f,j,t};let{o,g,h,l,r}:=A;show{o,g,h,k _ o (śb f) l,r};show(Ė b u e).Yw (λc v a q=>k c v ?_ q) ţf λ_ _ q=>q
 rcases a with z|z;rw[z];show d b u e;show d c _ z
def Inv.tok(I:Inv X zA σ H s)(t:Â):Inv X zA σ H { s with đ:=t }:=I.un (h':=á) (t':=t) Un.refl Ė
theorem Inv.kept{t':Â}(I:Inv X zA σ H s)(k:∀b u,ö b=À u->Ċ b=À u):Inv X zA σ H { s with ç:=h',đ:=t' }:=I.un (Ńe k) (ϩo k)
theorem Inv.laid{a:Ë}{o:HO}{t':Â}(I:Inv X zA σ H s)(k:∀b u,ö b=À u->Ċ b=À u)(c:Û<=a)(d:xT õ X.w þe h' a o) :Inv X zA σ þe { s with ç:=h',đ:=t' }:=I.un (Un.laid k c (Ĕb c)) (I.zh.laid k c d)
theorem Inv.write{x e:Ë}{o:HO}{t':Â}(I:Inv X zA σ H s)(f:J9 (H x))(d:e=x\/H e=À Ķd)(k:∀b u,b≠e->ö b=À u->Ċ b=À u)(a:∃u,Ċ e=À u)(c:xT õ X.w ŋi h' x o):Inv X zA σ ŋi { s with ç:=h',đ:=t' }:=I.un (Un.write f d k a) (I.zh.write f d k a c)
def Inv.weak{σ':Á ćg}(I:Inv X zA σ H s)(a:σ'.length=σ.length)(w:∀(i:Â) v,σ'[i]?=À ϯ->σ[i]?=À ϯ):Inv X zA σ' H s:=
 {ϳc,Êc,Ža,Śe,let ⟨m,hn,hl'⟩:=ĝa;{m,hn,λi x v e1 e2 b=>hl' i x v e1 (w i v e2) b},Ĵa,ża,İb,ĺa,Ė,Ėj āb}
def Inv.Qd{a:Á ô}(I:Inv X zA σ H s)(h:∀p∈a,ö p.1=À p.2/\H p.1=Å/\p.1≠Ϭ/\p.1 ∉ śa/\∀v,p.2.data≠.cell v):Inv X a σ H s:=
 {ϳc,Êc,Ža,Śe,ĝa,Ĵa,ża,İb,λp b=>(ż b).elim (λz=>ĺa p đe) (h p),Ė,āb}
def iF{N:Á Ç}(c:ϒc){i j:Â}{x:Ç}(a:N[i]?=À x)(b:N[j]?=À x):i=j:=by let{e,e1}:=ķ a;let{d,e2}:=ķ b;show(List.getElem_inj c).mp (e1.trans e2.symm)
def oR{M:ţd}{A:ø}{E:Value->Î->È}{i:Â}{x:Ç}{v:V}{u:Value}{Q:èa->Î->È}(I:Inv X zA σ H s)(hN:Āa)(hi:X.N[i]?=À x)(t:qg Ïa x)(r:zy v u)(h:∀s',Inv X zA Āc H s'->(∃a,ũa a á Ϗc/\(a=Ϭ\/Ĥa x=À a))->Q () s')(hf:Í Şa q7):Ø M A ϱl Q E s:=by
 let{m,T,hl}:=id ĝa;let G:(Ļh == .class||(Ļh == .module&&Ϭ != Ϣh))=Ä:=by rw[ěb];rfl
 let J:i<σ.length:=by rw[āb];show ìb.1
 let W:=I.WG
 let g:∀{a:Ë}{h':Heap},(∃o,ö a=À o/\H a=Å)->ũa a á h'->wG õ X.w H h':=λ{a h'} ha f b ob e=>by
  let{_,_,B}:=ha;show(Ė b ob e).Yw (λc S l q=>(f.2 c ?_).trans q) ţf λ_ _ q=>q
  rintro rfl;rcases l with rfl|l;rw[B]at e;cases e;rw[B]at l;cases l
 rcases t with hk|hk;show wpAny_storeName_local hk T (λh' Y f=>?_) G;let{oL,_,_,hoL,_}:=id T;show h _ {ϳc,Êc,Ža,{λb o e n C t=>?_,λb o e n C t=>?_,ôd,λb o e t=>?_,će,Će,Ĉe},{_,Y,λj y v' e1 e2 Z=>?_},λy c e=>?_,ża,İb,λp U=>?_,g {oL,hoL,ża} f,by simpa using āb} {_,f,.inl rfl};show(Ŷg).trans Ěm;let{sl,e1}:=íe b o e n C t;show{sl,(Ŷg).trans e1};let{o',e1}:=ãe b o e t;show{o',(Ŷg).trans e1};rw[Ÿp];show{u,r,.inl {hk,by simp}};rw[Źp];rcases q with⟨k,e⟩|⟨k,c,e,z⟩;show .inl {k,?_};let:y≠x:=λe=>hj (iF hN e1 (e▸hi))
 simp[this,e];show .inr {k,c,e,Ÿo f ħp};let{S,z}:=Ĵa y c e;show{S,Ÿo f ħp};let{e,n,P,nf,d}:=ĺa p U;show{(f.2 p.1 P).trans e,n,P,nf,d};let F:X.fn x=Ã:=by rcases hf with z|z;show z;rw[z]at hk;cases hk
 let{c,l}:=I.ok.has x (.inl hk);let{S,z}:=Ĵa x c l;show wpAny_storeName_cell ěb hk l z (λh' K f=>?_);let{oc,O,L}:=id z;show h { s with ç:=h' } {ϳc,Êc,Ža,{λb o e n C t=>?_,λb o e n C t=>?_,ôd,λb o e t=>?_,će,Će,Ĉe},{m,T.sameBut f (śb (W x c l)),λj y v' e1 e2 Z=>?_},λy R e=>?_,ża,İb,λp U=>?_,g {oc,O,İb x c l} f,by simpa using āb} {c,f,.inr l};show(Ūg).trans Ěm;let{sl,e1}:=íe b o e n C t;show{sl,(Ūg).trans e1};let{o',e1}:=ãe b o e t;show{o',(Ūg).trans e1};rw[Ÿp];show{u,r,.inr {.inl hk,c,l,K}};rw[Źp];rcases q with q|⟨k,R,e,z'⟩;show .inl q;show .inr {k,R,e,z'.sameBut f ?_};rintro rfl;show hj (iF hN e1 (I.ok.inj _ _ _ e l▸hi));by_cases hcc:R=c;subst hcc;show{_,K};let{w2,z2}:=Ĵa y R e;show{w2,z2.sameBut f hcc};let{e,n,P,nf,d}:=ĺa p U;show{(f.2 p.1 ?_).trans e,n,P,nf,d};intro q;rw[q,O]at e;let q':oc=p.2:=ϸ e;show d S (by rw[<-q'];show L)
def RB{M:ţd}{A:ø}{E:Value->Î->È}{i:Â}{x:Ç}{v:V}{u:Value}{Q:èa->Î->È}(I:Inv X zA σ H s)(c:Āa)(hi:X.N[i]?=À x)(b:qg Ïa x)(r:zy v u)(h:∀s',Inv X zA Āc H s'->Q () s')(d:Í Şa q7):Ø M A ϱl Q E s:=
 oR I c hi b r (λs' a _=>h s' a) d
def Inv.DV{s':Î}{ch:Á Ë}(I:Inv X zA σ H s)(f:s'.os=s.os)(u:Un îj ch H H' á Ϗc)(d:wG õ X.w H' Ϗc)(g:Ńd s'.gens)(a:∀b∈ch,ßf/\b≠Ϭ/\(∀x c,Ĥa x=À c->c≠b)/\∀p∈Èc++zA,p.1≠b):Inv X zA σ H' s':=by let{h',g',d',t',h}:=s';let e:h=s.os:=f;subst e;show I.call (g':=g') (t':=t') (d':=d') u d g a
#print a
abbrev XK:=Value->É Ë->Hp->È
abbrev St:=Á ćg
abbrev VK:=V->Hp->È
abbrev TE:=St->Hp->VK->È
abbrev TT:=St->Hp->(Ï->Hp->È)->È
abbrev TA:=St->Hp->(Á V->Hp->È)->È
structure ug where
 nx:St->Hp->È
 rt:VK
 bk:St->Hp->È:=λ_ _=>ÿ
 ct:St->Hp->È:=λ_ _=>ÿ
abbrev TS:=ug->St->Hp->È
def EP(X:Cx)(a:Á ô)(σ:St)(Q:VK)(u:Value)(s':Î):È:=∃v H',Inv X a σ H' s'/\zy v u/\Q v H'
def TP(X:Cx)(a:Á ô)(σ:St)(Q:Ï->Hp->È)(b:Ï)(s':Î):È:=∃H',Inv X a σ H' s'/\Q b H'
def AP(X:Cx)(a:Á ô)(σ:St)(Q:Á V->Hp->È)(us:Á Value)(s':Î):È:=∃vs H',Inv X a σ H' s'/\zl vs us/\Q vs H'
def SP(X:Cx)(a:Á ô)(D:ug)(f:Flow)(s':Î):È:=
 match f with
 |.next=>∃σ' H',Inv X a σ' H' s'/\Çb σ' H'|.brk=>∃σ' H',Inv X a σ' H' s'/\D.bk σ' H'|.cont=>∃σ' H',Inv X a σ' H' s'/\D.ct σ' H'|.ret u=>∃v σ' H',Inv X a σ' H' s'/\zy v u/\D.rt v H'
def PE(X:Cx)(e:Õ)(t:TE):È:=
 ∀(zA:Á ô) (s:Î) (σ:St) (H:Hp) (Q:VK),Inv X zA σ H s->t σ H Q->Ø Ą X.A Ýe Ŀb ĩ s
def PT(X:Cx)(e:Õ)(t:TT):È:=
 ∀(zA:Á ô) (s:Î) (σ:St) (H:Hp) (Q:Ï->Hp->È),Inv X zA σ H s->t σ H Q->Ø Ą X.A (œd e Ú Ýe) ϋh ĩ s
def PW(X:Cx)(e:Õ)(t:TT):È:=
 ∀(Ġc:Sem Value)(zA:Á ô) (s:Î) (σ:St) (H:Hp) (Q:Ï->Hp->È),Inv X zA σ H s->t σ H Q->Ø Ą X.A (œd e Ú Ġc) ϋh ĩ s
def PW.pt{X:Cx}{e:Õ}{t:TT}(h:PW X e t):PT X e t:=h _
def PA(X:Cx)(es:Á Õ)(t:TA):È:=
 ∀(pos:Pos)(zA:Á ô) (s:Î) (σ:St) (H:Hp) (Q:Á V->Hp->È),Inv X zA σ H s->t σ H Q->Ø Ą X.A (spliced ád) (AP X zA σ Q) ĩ s
def PS(X:Cx)(st:Ü)(t:TS):È:=
 ∀(zA:Á ô) (s:Î) (σ:St) (H:Hp) (D:ug),Inv X zA σ H s->t D σ H->Ø Ą X.A (exec st Ú) Ċo ĩ s
def uO(X:Cx)(st:Á Ü)(t:TS):È:=
 ∀(zA:Á ô) (s:Î) (σ:St) (H:Hp) (D:ug),Inv X zA σ H s->t D σ H->Ø Ą X.A (execs st Ú) Ċo ĩ s
def zw{α:Type}{t:Sem α}{Q b:α->Î->È}{M:ţd}{A:ø}{E:Value->Î->È}{s:Î}(h:Ø M A t Q E s)(c:∀a s,Q a s->b a s):Ø M A t b E s:=Ħa h c λ_ _ x=>x
section
variable{X:Cx}
nonrec def py(i:Â):TE:=λσ H Q=>∃v,σ[i]?=À ϯ/\Q v H
nonrec def tC(v:V):TE:=λ_ H Q=>Q v H
def VU{i:Â}{x:Ç}{pos:Pos}(k:X.N[i]?=À x)(hv:gX Ïa x)(g:Í Ł q10)(f:Í Ŭb q10):PE X ía ýb:=by intro n s σ H Q I h;let{v,e,h}:=h;let{m,o,p}:=ĝa;let{u,r,l}:=p i x v k e hv;let d:EP X n σ Q u s:={v,H,I,r,h};rcases l with⟨b,q⟩|⟨b,c,j,a⟩;show Ĵi (œl ěb b o q d) g;rcases b with b|b;show Ĵi (ϑl ěb b j a d) g;show Ĵi (wpAny_loadName_free ěb b j a d f) g
def l6{i j pos}:PE X (.Constant Áa j pos) (tC Áa):=λ_ _ _ H _ I h=>wpAny_Constant_int {.int i,H,ϳ _,{_,rfl},h}
def y5h{b j pos}:PE X (.Constant ϸi j pos) (tC Şb):=λ_ _ _ H _ I h=>Constant_bool {.bl b,H,I,rfl,h}
def y60{j pos}:PE X (.Constant .none j pos) (tC .zP):=λ_ _ _ H _ I h=>Constant_none {.zP,H,I,rfl,h}
def y66{x j pos}:PE X (.Constant Ϭb j pos) (tC Ϭb):=λ_ _ _ H _ I h=>Calls.Constant_str {.str x,H,ϳ _,{_,rfl},h}
def Gl(X:Cx)(x:Ç):È:=Ŏc x=À .globalImplicit
def IH{E:Value->Î->È}{d:Á ô}{s:Î}{σ:St}{H:Hp}{x:Ç}{u:Value}{pos:Pos}{Q:Value->Î->È}(I:Inv X d σ H s)(c:Gl X x)(a:ð x=À u)(h:Q u s)(b:Í Ł q10):Ø Ą X.A Ħn Q E s:=
 œk ěb c (Calls.loadGlobal_global Ăk a h) b
def TH{E:Value->Î->È}{c:Á ô}{s:Î}{σ:St}{H:Hp}{x:Ç}{u:Value}{pos:Pos}{Q:Value->Î->È}(I:Inv X c σ H s)(g:Gl X x)(d:ð x=Å)(hv:ž x=À u)(h:Q u s)(a:Í Íb q10)(e:Í Ł q10):Ø Ą X.A Ħn Q E s:=by let{i,f,b}:=I.mod.blt;show œk ěb g (Calls.loadGlobal_builtin Ăk d (by rw[I.ok.blt];show f.keeps I.bk) ((b x a).trans hv) h) e
def y5w{x:Ç}{v:V}{u:Value}{pos:Pos}(c:Gl X x)(a:ð x=À u)(r:zy v u)(b:Í Ł q10):PE X ía Ţe:=
 λ_ _ _ H _ I h=>IH I c a {v,H,I,r,h} b
def y5i{x:Ç}{v:V}{u:Value}{pos:Pos}(d:Gl X x)(b:ð x=Å)(hv:ž x=À u)(r:zy v u)(a:Í Íb q10)(c:Í Ł q10):PE X ía Ţe:=
 λ_ _ _ H _ I h=>TH I d b hv {v,H,I,r,h} a c
variable{a b:Õ}{ta tb:TE}{pos:Pos}
nonrec def tB(t:TE):TT:=λσ H Q=>t σ H λx a=>∃c,x=.bl c/\Q c a
def lr{e:Õ}{t:TE}(h:PE X e t)(g:Í (∀Ġc,œd e Ú Ġc=(do let v <-Ġc;standAt e.pos;holding [v] Ŏo)) q11):PT X e (tB t):=by intro f s σ H Q I a;show isTrue_plain (zw (h f s σ H _ I a) λv k ⟨x,b,i,j,c⟩=>?_) Źe;let{d,rfl,q}:=c;cases j;show ſd {b,i,q}
variable{tA tB':TT}{yC:Á Õ}
nonrec def x2a(t u:TT):TT:=λσ H Q=>t σ H λc a=>if c=Ã then u σ a Q else Q Ä a
nonrec def x2r(t u:TT):TT:=λσ H Q=>t σ H λc a=>if c=Ã then Q Ã a else u σ a Q
nonrec def x2p(t:TT):TT:=λσ H Q=>t σ H λc a=>Q (!c) a
def mG(d:PT X a tA):PW X Öh tA:=by
 intro g b s σ H Q I h;show Ġo łk;cases c with
 |Ã=>show isTrue_and_nil e|Ä=>show e
def y7a(d:PT X a tA):PW X Ōl tA:=by
 intro g b s σ H Q I h;show ϖo łk;cases c with
 |Ä=>show isTrue_or_nil e|Ã=>show e
def mF(k:PT X a tA)(j:PW X Øe tB'):PW X če (x2a tA tB'):=by
 intro l e s σ H Q I h;show Ġo ÿk;cases c with
 |Ã=>show j l e i σ f Q d g|Ä=>show{f,d,g}
def y79(k:PT X a tA)(j:PW X Ħf tB'):PW X ϙf (x2r tA tB'):=by
 intro l e s σ H Q I h;show ϖo ÿk;cases c with
 |Ã=>show{f,d,g}|Ä=>show j l e i σ f Q d g
def lj(e:PT X a tA):PT X ϑd (x2p tA):=by intro b s σ H Q I h;show isTrue_not (e b s σ H (λc d=>Q (!c) d) I h)
nonrec def x2b(ta tb:TE):TE:=λσ H Q=>ta σ H λx a=>∃c,x=.bl c/\if c=Ã then tb σ a Q else Q Ā a
nonrec def x2s(ta tb:TE):TE:=λσ H Q=>ta σ H λx a=>∃c,x=.bl c/\if c=Ã then Q Ĭ a else tb σ a Q
nonrec def x2q(ta:TE):TE:=λσ H Q=>ta σ H λx a=>∃c,x=.bl c/\Q (.bl (!c)) a
def y62{op}{t:TE}(h:PE X a t):PE X žl t:=λc s σ H Q I b=>BoolOp_one (h c s σ H Q I b)
def y5g(l:PE X a ta)(j:PE X Øe tb):PE X če (x2b ta tb):=by
 intro f s σ H Q I h;show BoolOp_and ïk;rw[úq];cases c with
 |Ã=>show j f i σ g Q e d|Ä=>show{.bl Ä,g,e,rfl,d}
def y63(l:PE X a ta)(j:PE X Ħf tb):PE X ϙf (x2s ta tb):=by
 intro f s σ H Q I h;show BoolOp_or ïk;rw[úq];cases c with
 |Ä=>show j f i σ g Q e d|Ã=>show{.bl Ã,g,e,rfl,d}
def y61(i:PE X a ta):PE X ϑd (x2q ta):=by rw[Ċq];show UnaryOp_ (zw (i e s σ H _ I h) λv j ⟨x,f,d,g,b⟩=>?_);let{c,rfl,b}:=b;cases g;show not_of (ſd {.bl (!c),f,d,rfl,b})
nonrec def x2i(t:TT)(ta tb:TE):TE:=λσ H Q=>t σ H λc a=>if c=Ã then ta σ a Q else tb σ a Q
def y5x{c:Õ}(k:PT X c tA)(m:PE X a ta)(l:PE X b tb):PE X Ām (x2i tA ta tb):=by
 rw[Ċq];show wpAny_IfExp (Χd (k e s σ H _ I h));cases d with
 |Ã=>show m e f σ i Q g j|Ä=>show l e f σ i Q g j
#print a
def ya(K:Ô)(H:Hp)(a:Ë)(xs:Á V):È:=
 Rd H a Ĕa \/
  ∃(o:Obj) (its:Ù Value) (n:Â),Ϯ a=À o/\Áb=.type Ģ/\ŕe=Å/\ϩ=.seq its n/\Íj<=ã/\zl xs üe
def xJ(K:Ô)(H:Hp)(a:Ë)(xs:Á V):È:=
 Rd H a Ōa \/
  ∃(o:Obj) (its:Ù Value) (n:Â),Ϯ a=À o/\Áb=.type ſ/\ϩ=.seq its n/\Íj<=ã/\zl xs üe
nonrec def z10:Value->É V
 |.none=>À .zP|.bool b=>À Şb|.int i _=>À Áa|.str x _=>À Ϭb|.bytes b _=>À (.byt b)|.float b _=>À (.WJ b)|.ref a=>À Ō|.type n=>À (.ty n)|_=>Å
def zy.abs{x:V}{u:Value}(r:zy x u):z10 u=À x:=by
 cases x with
 |zP=>cases r;rfl|bl _=>cases r;rfl|int _=>let{t,rfl}:=r;rfl
 |str _=>let{t,rfl}:=r;rfl
 |byt _=>let{t,rfl}:=r;rfl
 |WJ _=>let{t,rfl}:=r;rfl
 |ref _=>cases r;rfl|ty _=>cases r;rfl
def zy.inj{x y:V}{u:Value}(r:zy x u)(q:zy y u):x=y:=ϸ (r.abs.symm.trans q.abs)
theorem zl.inj:∀{xs ys:Á V}{us:Á Value},zl xs us->zl ys us->xs=ys
 |_,_,_,.nil,.nil=>rfl|_,_,_,.cons r t,.cons r' t'=>by rw[r.inj r',zl.inj t t']
section
variable{X:Cx}{zA:Á ô}{σ:St}{H:Hp}{s:Î}{a:Ë}{xs ys:Á V}
def Ĺa{K:Ô}(h:H a=À Ĕa):ya K H a xs:=.inl Śb
def ϧc{K:Ô}(h:H a=À Ōa):xJ K H a xs:=.inl Śb
def Inv.list(I:Inv X zA σ H s)(h:ya X.K H a xs):∃its:Á Value,zl xs its/\PlainL á a ϝ/\ì<=ã:=by rcases h with h|⟨o,its,n,hk,hc,hd,hs,hz,r⟩;let{z,its,n,r,e}:=h.ok Ė;show{its,r,{_,n,e,rfl,rfl,rfl},z};refine{üe,r,{o,n,ϕ a o hk,hc,hd,by simpa using hs},?_};rw[ĉq]
def Inv.tuple(I:Inv X zA σ H s)(h:xJ X.K H a xs):∃its:Á Value,zl xs its/\Īb á a ϝ/\ì<=ã:=by rcases h with h|⟨o,its,n,hk,hc,hs,hz,r⟩;let{z,its,r,p}:=h.ok Ė;show{its,r,p,z};refine{üe,r,{o,ϕ a o hk,hc,n,by simpa using hs},?_};rw[ĉq]
def Inv.Op(I:Inv X zA σ H s)(h:ya X.K H a xs)(h':ya X.K H a ys):xs=ys:=by
 let{c,r,{o,n,e,_,_,d},_}:=ϗ h;let{b,i,{k,j,g,_,_,f},_}:=ϗ h';rw[e]at g;cases g;rw[d]at f;injection f with d1 _
 rw[Ĉq]
 rw[çq];show r.inj i
def Inv.De(I:Inv X zA σ H s)(h:xJ X.K H a xs)(h':xJ X.K H a ys):xs=ys:=by
 let{c,r,{o,e,_,n,d},_}:=Øa h;let{b,i,{k,g,_,j,f},_}:=Øa h';rw[e]at g;cases g;rw[d]at f;injection f with d1 _
 rw[Ĉq]
 rw[çq];show r.inj i
#print a
abbrev Cx.Z0(X:Cx)(E:Value->Î->È):Cx:={ X with xe:=E }
abbrev Cx.qD(X:Cx):Cx:=X.Z0 λ_ _=>ÿ
theorem Cx.Ok.Z0{X:Cx}(ok:X.Ok)(E:Value->Î->È):(Ķe).Ok:=
 {ok.mod,ok.kind,ok.glob,ok.blt,ok.above,ok.inj,ok.has,ok.UA,ok.hd,ϐo,ok.Qe,ok.QZ,ok.bs,ok.k_,ok.UF,ok.UC,ok.j7,ok.Ys}
def Cx.Ok.Yx{X:Cx}{E:Value->Î->È}(ok:(Ķe).Ok):X.Ok:=
 {ok.mod,ok.kind,ok.glob,ok.blt,ok.above,ok.inj,ok.has,ok.UA,ok.hd,ϐo,ok.Qe,ok.QZ,ok.bs,ok.k_,ok.UF,ok.UC,ok.j7,ok.Ys}
section
variable{X:Cx}{zA:Á ô}{σ:St}{H:Hp}{s:Î}{E:Value->Î->È}
theorem Inv.Z0(I:Inv X zA σ H s)(E:Value->Î->È):Inv Ķe zA σ H s:={I.ok.Z0 E,Êc,Ža,Śe,ĝa,Ĵa,ża,İb,ĺa,Ė,āb}
theorem Inv.Yx(I:Inv Ķe zA σ H s):Inv X zA σ H s:={I.ok.Yx,Êc,Ža,Śe,ĝa,Ĵa,ża,İb,ĺa,Ė,āb}
theorem SP.Yx{D:ug}{f:Flow}{s':Î}(h:SP Ķe zA D f s'):SP X zA D f s':=by
 cases f with
 |next=>let{σ',a,I,q}:=h;show{σ',a,I.Yx,q}
 |brk=>let{σ',a,I,q}:=h;show{σ',a,I.Yx,q}
 |Çc=>let{σ',a,I,q}:=h;show{σ',a,I.Yx,q}
 |ret u=>let{v,σ',a,I,r,q}:=h;show{v,σ',a,I.Yx,r,q}
theorem uO.qD{st:Á Ü}{t:TS}(h:uO X.qD st t):uO X st t:=λzA s σ H D I a=>
 Ħa (h zA s σ H D (I.Z0 _) a) (λ_ _ q=>q.Yx) λ_ _ z=>đa z
#print a
section
variable{X:Cx}{st:Ü}{yC:Á Ü}{t u:TS}{e:Õ}{te:TE}{pos:Pos}
nonrec def x2n:TS:=λD σ H=>Çb σ H
nonrec def x2w(t u:TS):TS:=λD σ H=>t { D with nx:=u D } σ H
def lh:uO X [] x2n:=λ_ _ σ H _ I h=>ϻe {σ,H,I,h}
def Md(g:PS X st t)(e:uO X yC u):uO X (st::yC) (x2w t u):=by
 rw[ċq];show Łm (zw (g a s σ H { D with nx:=u D } I h) λf c q=>?_);cases f with
 |next=>let{σ',b,d,q}:=q;show e a c σ' b D d q
 |ret v=>show q|brk=>show q|Çc=>show q
def Me(b:PS X st t):uO X [st] t:=by
 rw[ċq];show Łm (zw (b a s σ H D I h) λf c q=>?_);cases f with
 |next=>show ϻe q|ret v=>show q|brk=>show q|Çc=>show q
def Inv.quiet{a:Á ô}{σ:St}{H:Hp}{s:Î}(I:Inv X a σ H s):ϯn Ú=Ä:=by simp[ϯn,ěb]
nonrec def ox(te:TE):TS:=λD σ H=>te σ H λ_ a=>Çb σ a
def lR(b:PE X e te)(a:Í ϙk q12):PS X ϻh (ox te):=by intro d s σ H D I h;show wpAny_Expr_any (zw (b d s σ H _ I h) λv i ⟨x,f,c,j,g⟩=>{σ,f,c,g}) I.quiet a
nonrec def x2u(te:TE):TS:=λD σ H=>te σ H D.rt
def IY(a:PE X e te):PS X Êf (x2u te):=by intro c s σ H D I h;show wpAny_Return_some (zw (a c s σ H _ I h) λv i ⟨x,d,b,f,g⟩=>{x,σ,d,b,f,g})
nonrec def x2j(c:TT)(t u:TS):TS:=λD σ H=>c σ H λb a=>if b=Ã then t D σ a else u D σ a
def lS{c:Õ}{a b:Á Ü}{k:TT}(l:PT X c k)(n:uO X a t)(m:uO X b u):PS X (.If c a b pos) (x2j k t u):=by
 intro e s σ H D I h;show wpAny_If (Χd (l e s σ H _ I h));cases d with
 |Ã=>show n e f σ i D g j|Ä=>show m e f σ i D g j
nonrec def x2m:TS:=λ_ _ _=>ÿ
def y6x{a:Á Ü}:uO X a x2m:=λ_ _ _ _ _ _ h=>ϝc
#print a
abbrev TG:=V->St->Hp->Ńn->È
abbrev ZE:=Á V->St->Hp->Ńn->È
def PG(X:Cx)(a:Õ)(t:TG):È:=
 ∀(zA:Á ô) (s:Î) (σ:St) (H:Hp) (v:V) (u:Value) (Q:St->Hp->È),Inv X zA σ H s->zy v u->t v σ H Q->
  Ø Ą X.A (Ϲb a Ú u) (λ_ b=>∃σ' H',Inv X zA σ' H' b/\Q σ' H') ĩ s
def JB(X:Cx)(ts:Á Õ)(t:ZE):È:=
 ∀(zA:Á ô) (s:Î) (σ:St) (H:Hp) (vs:Á V) (us:Á Value) (Q:St->Hp->È),Inv X zA σ H s->zl vs us->t vs σ H Q->
  Ø Ą X.A (assignInOrder ((åe ts Ú).map (·.2)) us) (λ_ a=>∃σ' H',Inv X zA σ' H' a/\Q σ' H') ĩ s
abbrev L7:=V->V->V->Hp->Įp->È
def FK(X:Cx)(t:L7):È:=
 ∀(zA:Á ô) (s:Î) (σ:St) (H:Hp) (o i v:V) (ov iv u:Value) (Q:Hp->È),Inv X zA σ H s->zy o ov->zy i iv->zy v u->t o i v H Q->
  Ø Ą X.A (Ďj ov iv u) (λ_ a=>∃H',Inv X zA σ H' a/\Q H') ĩ s
abbrev JE:=V->V->Hp->VK->È
def L5(X:Cx)(a:Ĭd)(t:JE):È:=
 ∀(zA:Á ô) (s:Î) (σ:St) (H:Hp) (x y:V) (v u:Value) (Q:VK),Inv X zA σ H s->zy x v->zy y u->t x y H Q->
  Ø Ą X.A (Ũi a v u) Ŀb ĩ s
section
variable{X:Cx}{pos:Pos}
nonrec def uS(i:Â):TG:=λv σ H Q=>Q Āc H
def y69{i:Â}{x:Ç}(b:Āa)(hi:X.N[i]?=À x)(d:qg Ïa x)(c:Í Şa q7):PG X ía ϸb:=by intro e s σ H v u Q I r h;show ćm (RB I b hi d r (λf a=>{_,H,a,h}) c)
nonrec def V2:ZE:=λa σ H Q=>a=[]/\Q σ H
nonrec def jw(t:TG)(u:ZE):ZE:=λb σ H Q=>∃v r,b=v::r/\t v σ H λσ' a=>u r σ' a Q
def y6d:JB X [] V2:=by intro a s σ H c b Q I r h;let{e,h}:=h;subst e;cases r;show assignInOrder_nil {σ,H,I,h}
def y6c{e:Õ}{es:Á Õ}{t:TG}{u:ZE}(g:PG X e t)(c:JB X es u)(b:Í ((ģn).map (·.2)=Ϲb e Ú::(όd).map (·.2)) q12):JB X ď (jw t u):=by
 intro a s σ H l k Q I r h;let{v,m,e1,h}:=h;subst e1;cases r with
 |ú r rr=>rw[b];show assignInOrder_cons (zw (g a s σ H _ _ _ I r h) λ_ i ⟨σ1,d,j,f⟩=>?_);show c a i σ1 d _ _ Q j rr f
nonrec def V3(K:Ô)(n:Â)(t:ZE):TG:=λv σ H Q=>∃a xs,v=.ref a/\xJ K H a xs/\ì=n/\t xs σ H Q
def y6b{es:Á Õ}{k:Â}{t:ZE}{n:Â}(i:Ů=Ã)(h:JB X es t)(m:Í ūm q12)(d:Í ((όd).findIdx? (·.1)=Å) q12):PG X Ĵm Ϗn:=by
 intro g s σ H v u Q I r c;let{a,y,e1,q,p,c}:=c;subst e1;cases r;let{j,f,x,A}:=Øa q;refine assign_Tuple_tuple (óa i) x (by simp[m,<-p,ĭa]) d λl z=>?_
 let w:Inv X g σ H { s with ç:=l }:=ŗd (t':=Đ) λb o e=>z b o øp e
 show h g _ σ H y _ Q w ęh c
nonrec def dS(d b:TE)(t:L7):TG:=λv σ H Q=>d σ H λo c=>b σ c λi a=>t o i v a λe=>Q σ e
def y6a{o i:Õ}{b c:TE}{t:L7}(j:PE X o b)(hi:PE X i c)(d:FK X t)(C:∀v,Ϲb òh Ú v=(do
   let ov <-holding [v] Ĕi
   let iv <-holding [v,ov] (ě i Ú)
   standAt pos
   holding Ϻo (Ďj ov iv v)
   release Ϻo []):=by intro _;rfl):PG X òh (dS b c t):=by
 intro a s σ H v u Q I r h;rw[C];show Ó (Ţa (zw (j a s σ H _ I h) λov p ⟨x,k,z,A,m⟩=>?_));show Ó (Ţa (zw (hi a p σ k _ z m) λiv f ⟨y,q,e,w,B⟩=>?_));show Ó (ôh (Ó (Ţa (zw (d a f σ q x y v ov iv u _ e A w r B) λ_ E ⟨n,l,g⟩=>?_))));show wpAny_release {σ,n,l,g}
nonrec def BK(b:TE)(g:TG):TS:=λD σ H=>b σ H λx a=>g x σ a Çb
def lO{tg e:Õ}{b:TE}{g:TG}(m:PE X e b)(k:PG X tg g)(c:Í (Ϝh [tg] e ϔb Ú=pure Ä) q12)(d:Í (ϝh [tg] e Ú=pure Å) q12)(j:Í ((åe [tg] Ú).map (·.2)=[Ϲb tg Ú]) q12):PS X (.Assign [tg] e pos) (BK b g):=by rw[ċq];show wpAny_Assign_stores (zw îm λv l ⟨x,f,n,o,i⟩=>?_) c d;rw[j];show zw (k a l σ f x v _ n o i) λ_ p q=>q
def lU{i:Â}{x:Ç}{e:Õ}{b:TE}{a:Pos}(f:Āa)(hi:X.N[i]?=À x)(p:qg Ïa x)(m:PE X e b)(c:Í Ēk q12)(g:Í Şa q7) :PS X ϱk Ťo:=by intro l s σ H D I h;show wpAny_Assign_Name (zw (m l s σ H _ I h) λv r ⟨y,j,n,o,k⟩=>?_) c;show RB n f hi p o (λq d=>{_,j,d,k}) g
nonrec def x2c(i:Â)(d:TE)(c:JE):TS:=λD σ H=>∃x,σ[i]?=À (À x)/\d σ H λy a=>c x y a λz b=>Çb (Ν (À z)) b
def lP{i:Â}{x:Ç}{e:Õ}{q:TE}{n:Ĭd}{p:JE}{d:Pos}(B:Āa)(hi:X.N[i]?=À x)(j:qg Ïa x)(Z:PE X e q)(S:L5 X n p)(R:Í Şa q7) :PS X (.AugAssign (.Name x d) n e pos) (x2c i q p):=by
 intro g s σ H D I h;let{v,e1,h}:=h;let{m,F,G}:=ĝa;let f:gX Ïa x:=by rcases j with k|k;show .inl k;show .inr (.inl k)
 let{u,r,l}:=G i x v hi e1 f;show wpAny_AugAssign_Name ?_
 let o:Ø Ą X.A Ýe (λw O=>Ø Ą X.A (Ũi n u w) (λr E=>Ø Ą X.A (storeName Ú x r) (λ_=>SP X g D .next) ĩ E) ĩ O) ĩ s:=by
  show zw (Z g s σ H _ I h) λw W ⟨y,C,J,K,U⟩=>?_
  show zw (S g W σ C v y u w _ J r K U) λz s2 ⟨zv,Y,t,P,q2⟩=>?_
  show RB t B hi j P (λs3 T=>{_,Y,T,q2}) R
 rcases l with⟨a,L⟩|⟨a,c,Q,b⟩;show œl ěb a F L o;rcases a with a|a;show ϑl ěb a Q b o;rcases j with k|k;rw[Êq];rw[Êq]
nonrec def eO(f:Æ->Æ->Æ):JE:=λx y H Q=>∃i j,x=.int i/\y=.int j/\Q (Ε (f i j)) H
def HF:L5 X .Add Ϟm:=by intro c s σ H x y v u Q I b a h;let{i,j,e1,e2,q}:=h;subst e1;subst e2;let{t,rfl}:=b;let{d,rfl}:=a;show iadd_int {.int _,H,ϳ _,{_,rfl},q}
#print a
section
variable{X:Cx}{pos:Pos}
nonrec def x32(c:TT)(d:TS):TS:=λD σ H=>∃W:Â->St->Hp->È,(∃m,W m σ H)/\∀m σ H,W m σ H->
 c σ H λb a=>if b=Ã then ∃N:St->Hp->È,(∀σ' H',N σ' H'->∃m',m'<m/\W m' σ' H')/\d { D with nx:=N,ct:=N,bk:=Çb } σ a else Çb σ a
def lg{c:Õ}{a:Á Ü}{x:TT}{z:TS}(u:ϛb Ą X.A Ú ĩ)(F:PT X c x)(G:uO X a z):PS X (.While c a [] pos) (x32 x z):=by
 intro j s σ H D I h;let{W,{K,E},d}:=h;show wpAny_While (codeAny_whileLoop (λn O=>∃σ' H',Inv X j σ' H' O/\W n σ' H') ?_ K {σ,H,I,E});rintro n L ⟨σ1,t,C,J⟩;show ĳc u (zw (F j L σ1 t _ C (d n σ1 t J)) λb B ⟨y,q,i⟩=>?_);cases b with
 |Ã=>
  let{N,r,i}:=i;rw[Ð rfl];show ĳc u (zw (G j B σ1 y _ q i) λf P g=>?_);cases f with
  |next=>let{σ3,e,l,m}:=g;let{o,k,p}:=r σ3 e m;show{o,k,σ3,e,l,p}
  |Çc=>let{σ3,e,l,m}:=g;let{o,k,p}:=r σ3 e m;show{o,k,σ3,e,l,p}
  |brk=>show g|ret v=>show g
 |Ä=>rw[Ñ Ħ];show ϻe {σ1,y,q,i}
#print a
structure It where
 go:Â->Hp->È
 tD:Â->Hp->V->Hp->È
 Ϣ:Â->Hp->È
def jh(X:Cx)(a:Á ô)(H:Hp)(b:Ë):È:=
 H b=Å/\b≠Ϭ/\b ∉ śa/\ßf/\(∀x c,Ĥa x=À c->c≠b)/\∀p∈Èc++a,p.1≠b
def Inv.WK{X:Cx}{d:Á ô}{σ:St}{H H':Hp}{s:Î}{b:Ë}(I:Inv X d σ H s)(a:Û<=b)(g:H' b=Å):jh X d H' b:=by show{g,ņa (Š I.lt a),I.Ap a,.inr (ĉ I.sz a),λx c e z=>?_,λp f z=>?_};let{v,q}:=Ĵa x c e;show Ý (Š q.lt Īm) Ĉa;show Ý (Š (ġ (ĺa p f).1) Īm) Ĉa
structure Zz(P:ï)(w:æ)(K:Ô)(tg:Õ)(J:It)(fp:Á Ë)(it:Ë)(tn:Â->Heap->È):È where
 mem:it∈fp
 obj:∀i h,tn i h->∀b∈fp,∃o,ę b=À o/\∀v,ϩ≠.cell v
 Śa:∀i h h',tn i h->(∀b∈fp,∀o,ę b=À o->Ċ b=À o)->tn i h'
 ăb:∀(X:Cx),õ=P->X.w=w->X.K=K->Ů=Ã->∀(i:Â)(zA:Á ô) (s:Î) (σ:St) (H:Hp) (E:Value->Î->È),Inv X zA σ H s->(∀b∈fp,jh X zA H b)->tn i á->J.go i H->
  Ø ŉb X.A Îp (λr s1=>∃u,r=À u/\
   Ø ŉb X.A Õn (λ_ s2=>∃x H',Inv X zA σ H' s2/\zy x u/\J.tD i H x H'/\tn î s2.heap/\∀b∈fp,H' b=Å) E s1) E s
 done:∀(X:Cx),õ=P->X.w=w->X.K=K->Ů=Ã->∀(i:Â)(zA:Á ô) (s:Î) (σ:St) (H:Hp) (E:Value->Î->È),Inv X zA σ H s->(∀b∈fp,jh X zA H b)->tn i á->Ĩg i H->
  Ø ŉb X.A Îp (λr s1=>r=Å/\Inv X zA σ H s1) E s
 Âc:∀(A:ø)(i:Â)(s:Î)(Q:Value->Î->È)(E:Value->Î->È),tn i á->Q äb s->Ø ŉb A (Őd äb) Q E s
abbrev TI:=St->Hp->(It->Hp->È)->È
def FJ(X:Cx)(d:Á ô)(σ:St)(tg:Õ)(R:It->Hp->È)(a:Value)(c:Î):È:=
 ∃(it:Ë) (fp:Á Ë) (tn:Â->Heap->È) (J:It) (H':Hp),a=.ref it/\Inv X d σ H' c/\Zz õ X.w X.K tg J fp it tn/\tn 0 Ţj/\(∀b∈fp,jh X d H' b)/\R J H'
def PI(X:Cx)(tg a:Õ)(b:TI):È:=
 ∀(zA:Á ô) (s:Î) (σ:St) (H:Hp) (R:It->Hp->È),Inv X zA σ H s->b σ H R->
  Ø Ą X.A áo (λv c=>Ø Ą X.A (Őd v) (FJ X zA σ tg R) ĩ c) ĩ s
def Jk{M:ţd}{A:ø}{E:Value→Î→È}{s:Î}{tg:Õ}{it:Ë}{u:Value}{o:Obj}{n:æa}{vs:Ù Value}{Q:èa→Î→È}(e:ö it=À o)(d:Áb=.type n)(c:ϩ=.fields vs)(b:[ϊb,Ķa,ϋl,ϳk,ķm,ñl,Œl].contains n=Ä)(a:Q () s):Ø M A Õn Q E s:=by
  unfold Òf
  cases tg<;>first
    |show ò a
    | (cases u<;>first
        |show ò a
        | (show Ó (ĳi e ?_)
           rw[d,c];exact Ø M A (Λa ([ϊb,Ķa,ϋl,ϳk,ķm,ñl,Œl].contains n&&vs[0]?==À (ϋ _))) Q E s;rw[Ñ (by intro h;rw[b,ďf]at h;cases h)];show ò a))
nonrec def FB(K:Ô)(a:Ë):It:=
 {λi H=>∃xs x,ya K H a xs/\xs[i]?=À x,λi H x b=>b=H/\∀xs,ya K H a xs->xs[i]?=À x,λi H=>∃xs,ya K H a xs/\ì<=i}
nonrec def FC(K:Ô)(a:Ë):It:=
 {λi H=>∃xs x,xJ K H a xs/\xs[i]?=À x,λi H x b=>b=H/\∀xs,xJ K H a xs->xs[i]?=À x,λi H=>∃xs,xJ K H a xs/\ì<=i}
nonrec def Oy(lo:Æ)(n:Â):It:={λi _=>i<n,λi H x a=>a=H/\x=.int ϴa,λi _=>n<=i}
def x4j{P:ï}{w:æ}{K:Ô}{tg:Õ}(a it:Ë):Zz P w K tg ôj [it] it (λi h=>Ôi it a i) where
 mem:=by simp
 obj:=λi h st b f=>by
  let e:b=it:=by simpa using f
  rw[őp]
 Śa:=λi h l st k=>st.at λo e=>k it ó o e
 ăb:=by
  rw[Àq];let{Y,x,m,F}:=y;let{t,G,p,S}:=ϗ m;let{u,T,R}:=G.get F;let{J,B,Q,A,q,L}:=j it ó;refine ϝg st Ϸf (x:=u) ñm λl g Z=>?_
  let U:Inv X N σ H { s with ç:=l }:=ñb (t':=Đ) (λb o f e=>(Z.2 b f).trans e) J B A q L;let{o,e,c,d}:=id g;show{u,rfl,Jk (s:={ s with ç:=l }) e c d Ò {x,H,U,R,{rfl,λys hy=>by rw[I.Op hy m];show F},g,λb f=>(j b f).1}}
 done:=by rw[Àq];let{Y,m,F}:=y;let{t,G,p,S}:=ϗ m;let{J,B,Q,A,q,L}:=j it ó;let hl:=G.length;show ϥg (óa O) st Ϸf Ée λl eb=>{rfl,ñb (t':=Đ) (λb o f e=>eb b o f e) J B A q L}
 Âc:=λ_ _ _ _ _ st h=>wpAny_pyIter_listiter st h
def x4m{P:ï}{w:æ}{K:Ô}{tg:Õ}(a it:Ë):Zz P w K tg ój [it] it (λi h=>Ċn it a i) where
 mem:=by simp
 obj:=λi h st b g=>by
  let e:b=it:=by simpa using g
  rw[őp]
 Śa:=λi h m st k=>st.at λo e=>k it ó o e
 ăb:=by
  rw[ϻp];let{Y,x,n,F}:=y;let{f,G,p,S}:=Øa n;let{u,T,R}:=G.get F;let{J,B,Q,A,r,L}:=l it ó;refine wpAny_pyNext_tuple_item st (show õd a Łf from p) (x:=u) ñm λm j Z=>?_
  let U:Inv X N σ H { s with ç:=m }:=ñb (t':=Đ) (λb o g e=>(Z.2 b g).trans e) J B A r L;let{o,e,c,d}:=id j;show{u,rfl,Jk (s:={ s with ç:=m }) e c d Ò {x,H,U,R,{rfl,λys hy=>by rw[I.De hy n];show F},j,λb g=>(l b g).1}}
 done:=by rw[ϻp];let{Y,n,F}:=y;let{f,G,p,S}:=Øa n;let{J,B,Q,A,r,L}:=l it ó;let hl:=G.length;show wpAny_pyNext_tuple_end (óa O) st (show õd a Łf from p) Ée λm eb=>{rfl,ñb (t':=Đ) (λb o g e=>eb b o g e) J B A r L}
 Âc:=λ_ _ _ _ _ st h=>wpAny_pyIter_tupleiter st h
def x4k{P:ï}{w:æ}{K:Üi}{tg:Õ}(it:Ë)(lo:Æ)(n:Â):Zz P w K tg Īp [it] it (λi h=>Äo h it (lo+(i:Â)*1) ((n:Æ)-(i:Â)) 1) where
 mem:=by simp
 obj:=λi h st b a=>by
  let e:b=it:=by simpa using a
  subst e
  show{_,st,λv z=>by let L:Data.fields _=Data.cell v:=z;cases L}
 Śa:=λi h f st k=>k it ó _ st
 ăb:=by
  rw[ūp];let W:=Walks.range (ă:=õ) (w:=X.w) (óa u) it lo 1 n;show W.item i s _ _ m st λv f B J c G=>?_
  let{t,rfl}:=J;let F:Inv X A σ H { s with ç:=f,đ:=B }:=ñb (λb o a e=>G b o áf e) x q p j y;refine{_,rfl,Jk (s:={ s with ç:=f,đ:=B }) (n := "range_iterator") c rfl rfl Ò {.int ϴa,H,F,{t,?_},{rfl,rfl},c,λb a=>(d b a).1}};rw[Æo]
 done:=by rw[ūp];show wpAny_pyNext_range_end (óa u) st (by let:n<=i:=m;omega) λf N=>{rfl,ñb (t':=Đ) (λb o a e=>N b o a e) x q p j y}
 Âc:=λ_ _ _ _ _ st h=>wpAny_pyIter_rangeiter st h
section
variable{X:Cx}{tg:Õ}
def z7b(K:Ô)(c:TE):TI:=λσ H R=>c σ H λx b=>∃a,x=.ref a/\(∃xs,ya K b a xs)/\R ôj b
def z7e(K:Ô)(c:TE):TI:=λσ H R=>c σ H λx b=>∃a,x=.ref a/\(∃xs,xJ K b a xs)/\R ój b
def y6g{l:Õ}{f:TE}(n:PE X l f):PI X tg l (z7b X.K f):=by
 intro m s σ H R I h;show zw ím λv c ⟨x,j,d,t,k⟩=>?_
 rw[ûq];let{i,w,p,u}:=d.list r;show Éd Ϸf ?_;show{éd,[éd],_,_,j,rfl,ğg (t':=c.toks) λb o e=>ė _ e,x4j a _,{_,ű _ rfl,rfl,rfl},λb g=>?_,q};let e:b=éd:=by simpa using g
 rw[Ûq]
def lD{l:Õ}{g:TE}(n:PE X l g):PI X tg l (z7e X.K g):=by
 intro m s σ H R I h;show zw ím λv c ⟨x,j,d,t,k⟩=>?_
 rw[ûq];let{f,w,p,u}:=d.tuple r;show Àh (show c.heap.IsTuple a Łf from p) ?_;show{éd,[éd],_,_,j,rfl,ğg (t':=c.toks) λb o e=>ė _ e,x4m a _,{_,ű _ rfl,rfl,rfl},λb i=>?_,q};let e:b=éd:=by simpa using i
 rw[Ûq]
def y84{c:Á ô}{σ:St}{H:Hp}{s:Î}{R:It->Hp->È}{E:Value->Î->È}{lo hi:Æ}{t u v:Tok}{tk:Â}(I:Inv X c σ H s)(i : -øj<=lo)(g:lo<2 ^ 62)(h : -øj<=hi)(d:hi<2 ^ 62)(q:R (Oy lo (Ďg).toNat) H):Ø Ą X.A (Őd Ēa) (FJ X c σ tg R) E { s with ç:=Ía { cls:=.type Ŕa,Ć:=.fields #[.int lo t,.int hi u,.int 1 v] },đ:=tk }:=by
 show wpAny_pyIter_range (Åo ..) (small_one i g h d) ?_;let a:Inv X c σ H { s with ç:=Ía { cls:=.type Ŕa,Ć:=.fields #[.int lo t,.int hi u,.int 1 v] },đ:=tk }:=ŗd λb o e=>ė _ e
 refine⟨(ŗg).objs.size,[(ŗg).objs.size],_,_,H,rfl,
  a.kept (t':=tk) λb o e=>ė _ e,x4k _ lo (Ďg).toNat,?_,λb f=>?_,q⟩
 let e1:lo+((0:Â):Æ)*1=lo:=by simp
 let e2:(((Ďg).toNat:Â):Æ)-((0:Â):Æ)=ϵe lo hi 1:=by rw[rangeSize_one];split<;>omega
 exact Äo _ _ (lo+((0:Â):Æ)*1) ((((Ďg).toNat:Â):Æ)-((0:Â):Æ)) 1;rw[e1,e2];show ű _ rfl;let e:b=(ŗg).objs.size:=by simpa using f
 subst e;show a.WK Ġ (a.zh.fresh Ġ)
def z7c(b:TA):TI:=λσ H R=>b σ H λc a=>∃j:Æ,c=[.int j] /\ -øj<=j/\j<2 ^ 62/\R (Oy 0 ϱ) a
def y6h{a:Õ}{c:TA}{p pos:Pos}(g:Gl X Ŕa)(n:ð Ŕa=Å)(m:PA X [a] c)(d:Í šk q12):PI X tg Ϛl (z7c c):=by
 intro f s σ H R I h;show Call_ (TH I g n ģo (ϣe (zw (m pos f s σ H _ I h) λv w ⟨u,o,i,k,b⟩=>?_) d rfl));let{j,e,b,l,q}:=b;subst e;cases k with
 |ú r rr=>cases rr;let{t,rfl}:=r;show őn (y84 i Ê Ê b l (by simpa using q))
nonrec def x2h(c:TI)(g:TG)(d:TS):TS:=λD σ H=>c σ H λJ a=>∃W:Â->Â->St->Hp->È,(∃m,W 0 m σ a)/\∀i m σ H,W i m σ H->
 (Ĩg i H/\Çb σ H)\/(J.go i H/\∃N:St->Hp->È,(∀σ' H',N σ' H'->∃m',m'<m/\W î m' σ' H')/\∀x H',J.tD i H x H'->g x σ H' λσ2 b=>d { D with nx:=N,ct:=N,bk:=Çb } σ2 b)
nonrec def IX(a:Á Ë)(h:Heap):Á ô:=a.filterMap λb=>(ę b).map λo=>(b,o)
def MN{a:Á Ë}{h:Heap}{b:Ë}{o:Obj}(c:b∈a)(e:ę b=À o):(b,o)∈IX a h:=List.mem_filterMap.mpr {b,c,by rw[e];rfl}
def y24{a:Á Ë}{h:Heap}{p:Ë×Obj}(d:p∈IX a h):p.1∈a/\ę p.1=À p.2:=by
 let{b,f,e}:=List.mem_filterMap.mp d;cases q:ę b with
 |Å=>rw[q]at e;cases e|À o=>rw[q]at e;let c:(b,o)=p:=ϸ e;subst c;show{f,q}
def Inv.pinned{c:Á ô}{σ:St}{H:Hp}{s:Î}{a:Á Ë}(I:Inv X c σ H s)(k:∀b∈a,jh X c H b)(l:∀b∈a,∃o,ö b=À o/\∀v,ϩ≠.cell v):Inv X (c++IX a á) σ H s:=
 I.Qd λp h=>(ż h).elim (λz=>ĺa p ùp) λz=>by let{f,e}:=y24 z;let{j,m,i,_}:=k p.1 f;let{o,g,d}:=l p.1 f;rw[e]at g;cases g;show{e,j,m,i,d}
def Inv.Df{a pl:Á ô}{σ:St}{H:Hp}{s:Î}(I:Inv X (a++pl) σ H s):Inv X a σ H s:=I.Qd λp b=>ĺa p (Ġa _ (ŭb _ b))
def Mc{a:Õ}{t:Á Ü}{wi:TI}{g:TG}{tb:TS}{pos:Pos}(L:ϛb Ą X.A Ú ĩ)(hc:Ů=Ã)(hi:PI X tg a wi)(hg:PG X tg g)(l:uO X t tb)(hs:Í (∀x,Ðb a Ú x=pure x) q11):PS X (.For tg a t [] pos) (x2h wi g tb):=by
 intro y s σ H D I h;show wpAny_For (zw (hi y s σ H _ I h) λv s1 h1=>zw h1 λitv s2 h2=>?_) hs;let{it,O,tn,J,H2,e,I2,T,Q,Z,W,{m0,w0},B}:=h2;subst e;let k:∀{H':Hp},(∀b∈O,H' b=Å)->∀b∈O,jh X y H' b:=λhn b l=>{hn b l,(Z b l).2}
 show codeAny_forLoop_any (λn s'=>∃i σ' H',Inv X y σ' H' s'/\tn i Ϗc/\(∀b∈O,H' b=Å)/\W i n σ' H') ?_ m0 {0,σ,H2,I2,Q,λb l=>(Z b l).1,w0};rintro n s3 ⟨i,σ3,P,I3,E,C,w3⟩;rcases B i n σ3 P w3 with⟨F,qn⟩|⟨go,N,hN,K⟩;show ĳc L (zw (T.done X rfl rfl rfl hc i y s3 σ3 P ĩ I3 (k C) E F) λr s4 ⟨S,I4⟩=>?_);subst S;show ϻe {σ3,P,I4,qn}
 .show ĳc L (zw (T.item X rfl rfl rfl hc i y s3 σ3 P ĩ I3 (k C) E go) λr s4 ⟨u,S,h4⟩=>?_);subst S;show ĳc L (zw h4 λ_ s5 ⟨x,H5,I5,r5,y5,z,Y⟩=>?_);let R:=I5.pinned (k Y) (Ŵe _ _ z);show ĳc L (zw (hg _ s5 σ3 H5 x u _ R r5 (K x H5 y5)) λ_ s6 ⟨σ6,H6,I6,q6⟩=>?_);show ĳc L (zw (l _ s6 σ6 H6 _ I6 q6) λf U q=>?_)
  let j:∀{σ7:St}{c:Hp},Inv X (y++IX O s5.heap) σ7 c U->N σ7 c->∃m,m<n/\∃i σ' H',Inv X y σ' H' U/\tn i U.heap/\(∀b∈O,H' b=Å)/\W i m σ' H':=λ{σ7 c} p G=>by let{m',hm,w7}:=hN σ7 c G;show{m',hm,i+1,σ7,c,p.Df,ře _ _ _ z λb l o e=>İk.1,λb l=>?_,w7};let{o,e,d}:=Ŵe _ _ z b l;show İk.2.1
  cases f with
  |next=>let{σ7,c,p,G}:=q;show j p G
  |Çc=>let{σ7,c,p,G}:=q;show j p G
  |brk=>let{σ7,c,p,q}:=q;show{σ7,c,p.Df,q}
  |ret v=>let{x7,σ7,c,p,r7,q}:=q;show{x7,σ7,c,p.Df,r7,q}
#print a
abbrev R2:=V->V->Hp->VK->È
def y_(X:Cx)(f:Value->Value->Sem Value)(r:R2):È:=
 ∀(zA:Á ô) (s:Î) (σ:St) (H:Hp) (x y:V) (v u:Value) (Q:VK),Inv X zA σ H s->zy x v->zy y u->r x y H Q->
  Ø Ą X.A ňj Ŀb ĩ s
def JF(X:Cx)(f:Value->Sem Value)(r:V->Hp->VK->È):È:=
 ∀(zA:Á ô) (s:Î) (σ:St) (H:Hp) (x:V) (v:Value) (Q:VK),Inv X zA σ H s->zy x v->r x H Q->
  Ø Ą X.A (f v) Ŀb ĩ s
def wu(X:Cx)(f:Value)(r:Á V->Hp->VK->È):È:=
 ∀(zA:Á ô) (s:Î) (σ:St) (H:Hp) (xs:Á V) (us:Á Value) (Q:VK),Inv X zA σ H s->zl xs us->r xs H Q->
  Ø Ą X.A (įb f us) Ŀb ĩ s
nonrec def BO(r:R2)(c d:TE):TE:=λσ H Q=>c σ H λx a=>d σ a λy b=>r x y b Q
nonrec def x31(r:V->Hp->VK->È)(b:TE):TE:=λσ H Q=>b σ H λx a=>r x a Q
nonrec def rI(C:Æ->Æ->È)(g:Æ->Æ->V):R2:=λx y H Q=>∃i j,x=.int i/\y=.int j/\C i j/\Q ϩa H
nonrec def qw(g:Æ->Æ->V):R2:=λx y H Q=>∃i j,x=.int i/\y=.int j/\Q ϩa H
def rU(g:Æ->V):V->Hp->VK->È:=λx H Q=>∃i,x=.int i/\Q (g i) H
section
variable{X:Cx}{a b c:Õ}{ta tb:TE}{pos:Pos}
def Cw(n:PE X a ta)(e:PE X b tb){c:Á ô}{s:Î}{σ:St}{H:Hp}{R:V->V->Hp->È}(I:Inv X c σ H s)(h:ta σ H λx H1=>tb σ H1 λy H2=>R x y H2){Q:Value->Î->È}{f:Value->Value->Sem Value}(g:∀v u s2 x y H2,Inv X c σ H2 s2->zy x v->zy y u->R x y H2->Ø Ą X.A ňj Q ĩ s2) :Ø Ą X.A áo (λv s₁=>Ø Ą X.A (ě b Ú) (λu s₂=>Ø Ą X.A ňj Q ĩ s₂) ĩ s₁) ĩ s:=by
 show zw (n c s σ H _ I h) λv j ⟨x,H1,k,l,i⟩=>?_
 show zw (e c j σ H1 _ k i) λu s2 ⟨y,H2,d,o,m⟩=>?_
 show g v u s2 x y H2 d l o m
def KJ{c:Ĭd}{r:R2}(g:y_ X (ϟa c) r)(l:PE X a ta)(f:PE X b tb):PE X (.BinOp a c b pos) ľf:=by rw[Řp];show wpAny_BinOp (Cw l f I h λv u e x y j d k m q=>g i e σ j x y v u Q d k m q)
def y68{b:UnaryOp}{r:V->Hp->VK->È}(f:JF X (ëg b) r)(j:PE X a ta):PE X (.UnaryOp b a pos) (x31 r ta):=by rw[Éq];show UnaryOp_ (zw (j c s σ H _ I h) λv d ⟨x,g,e,i,k⟩=>f c d σ g x v Q e i k)
def TX{f:Value->Value->Sem Value}{C:Æ->Æ->È}{g:Æ->Æ->Æ}(a:∀(i j:Æ)(t u:Tok)(s:Î)(Q:Value->Î->È)(E:Value->Î->È),C i j->Q ùn { s with đ:=Đ+1 }->Ø Ą X.A Ϲg Q E s) :y_ X f ęl:=by intro k s σ H x y v u Q I c e h;let{i,j,rfl,rfl,b,q}:=h;let{t,rfl}:=c;let{d,rfl}:=e;show a i j t d s _ _ b {.int ϩa,H,ϳ _,{_,rfl},q}
def IT{f:Value->Value->Sem Value}{g:Æ->Æ->Æ}(a:∀(i j:Æ)(t u:Tok)(s:Î)(Q:Value->Î->È)(E:Value->Î->È),Q ùn { s with đ:=Đ+1 }->Ø Ą X.A Ϲg Q E s) :y_ X f ßp:=by rw[ťp];show a i j t c s _ _ {.int ϩa,H,ϳ _,{_,rfl},q}
def MR{f:Value->Value->Sem Value}{g:Æ->Æ->Ï}(a:∀(i j:Æ)(t u:Tok)(s:Î)(Q:Value->Î->È)(E:Value->Î->È),Q (.bool ϩa) s->Ø Ą X.A Ϲg Q E s) :y_ X f ϲl:=by rw[ťp];show a i j t c s _ _ {.bl ϩa,H,I,rfl,q}
def Dg(i j:Æ):È:=0<=j/\j<=1000000/\īd<2 ^ 64
def Qg(i j:Æ):È:=(-Ýg<i/\i<2 ^ 64)\/(-Ýg<j/\j<2 ^ 64)
def Qg.ok{i j:Æ}(h:Qg i j):IntMulOk i j:=by rcases h with⟨b,a⟩|⟨b,a⟩;show .of_left ϴl;show .of_right ϴl
def x4q(k:Â):(0:Æ)<=2 ^ k:=by rw[two_pow_cast];show Íc _
def y4q:y_ X ēd (Νa (i+j)):=IT λ_ _ _ _ _ _ _ q=>Ϧ q
def Xg:y_ X (ϟa .Sub) âo:=IT λ_ _ _ _ _ _ _ q=>sub_int q
def MU:y_ X ĕi ϸg:=TX λ_ _ _ _ _ _ _ a q=>mul_int q a.ok
def xO:y_ X (ϟa .Mod) ål:=TX λi j _ _ _ _ _ a q=>by let b:(0:Æ)<j:=a;show mod_int' Ê (by rw[Int.fmod_eq_emod_of_nonneg i Ê];show q)
def kD:y_ X (ϟa .LShift) Ŧk:=TX λ_ _ _ _ _ _ _ a q=>lshift_int_small a.1 a.2.1 a.2.2 q
def ib:y_ X (ϟa .RShift) Šk:=TX λi j _ _ _ _ _ a q=>
 rshift_int a (by rw[ϴk i (x4q _)];show q)
def TY:y_ X (ϟa .BitAnd) (Νa (ģa i j)):=IT λ_ _ _ _ _ _ _ q=>and_int q
def kC:y_ X (ϟa .BitOr) (Νa (ϓa i j)):=IT λ_ _ _ _ _ _ _ q=>or_int q
def y57:y_ X (ϟa .BitXor) (Νa (Źh i j)):=IT λ_ _ _ _ _ _ _ q=>xor_int q
def rH{f:Value->Sem Value}{g:Æ->Æ}(a:∀(i:Æ)(t:Tok)(s:Î)(Q:Value->Î->È)(E:Value->Î->È),Q (.int (g i) Đ) { s with đ:=Đ+1 }->Ø Ą X.A (f űf) Q E s) :JF X f (Θc (g i)):=by intro c s σ H x v Q I b h;let{i,rfl,q}:=h;let{t,rfl}:=b;show a i t s _ _ {.int (g i),H,ϳ _,{_,rfl},q}
def Vq:JF X (ëg .USub) (Θc (-i)):=rH λ_ _ _ _ _ q=>neg_int q
def rL:JF X (ëg .Invert) (Θc ıj):=rH λ_ _ _ _ _ q=>invert_int q
def y4r:y_ X ēd (λx y H Q=>∃i k,x=.int i/\y=.bl k/\Q ϋm H):=by rw[œp];let{i,k,rfl,rfl,q}:=h;let{t,rfl}:=a;cases b;show add_int_bool {.int (i+b2i k),H,ϳ _,{_,rfl},q}
#print a
nonrec def Pq:V->V->Ï
 |.zP,.zP=>Ã|.zP,.int _=>Ã|.int _,.zP=>Ã|.zP,.bl _=>Ã|.bl _,.zP=>Ã|.zP,.str _=>Ã|.str _,.zP=>Ã|.int _,.int _=>Ã|.bl _,.bl _=>Ã|.str _,.str _=>Ã|.byt _,.byt _=>Ã|.int _,.str _=>Ã|.str _,.int _=>Ã|.bl _,.str _=>Ã|.str _,.bl _=>Ã|_,_=>Ä
def y7o:R2:=λx y H Q=>Pq x y=Ã/\Q (η (x=y)) H
def y7t:R2:=λx y H Q=>Pq x y=Ã/\Q (ω (x=y)) H
def EF{i j:Æ}:decide (ϻa i=ϻa j)=ńd:=by rw[Œc];simp
def ED{i j:Ï}:decide (V.bl i=V.bl j)=ńd:=by rw[Œc];simp
def EG{i j:Ç}:decide (Ĭg i=Ĭg j)=ńd:=by rw[Œc];simp
def ce{i j:Ù UInt8}:decide (V.byt i=V.byt j)=(i.toList==j.toList):=by rw[Œc];cases i;cases j;simp
section
variable{X:Cx}{a b c:Õ}{ta tb:TE}{pos:Pos}
def wR{b:Á ô}{σ:St}{H:Hp}{s:Î}{Q:VK}{k a:Ï}(I:Inv X b σ H s)(q:Q Ŋd H)(e:k=a):EP X b σ Q (.bool a) s:=by subst e;show{.bl k,H,I,rfl,q}
def y4u:y_ X êp y7o:=by
 rw[Ðq];cases x with
 |zP=>
  cases d;cases y with
  |zP=>cases a;show PySem.EqNone.eq_none_none Ϻ|bl j=>cases a;show PySem.EqNone.eq_none_bool Ϻ|int j=>let{b,rfl}:=a;show PySem.EqNone.eq_none_int Ϻ
  |str j=>let{b,rfl}:=a;show PySem.EqNone.eq_none_str Ϻ
  |_=>show Ý (show Ä=Ã from c) Ħ
 |bl i=>
  cases d;cases y with
  |zP=>cases a;show PySem.EqNone.eq_bool_none Ϻ|bl j=>cases a;show eq_bool (wR I q ED)|str j=>let{b,rfl}:=a;show PySem.EqMixed.eq_bool_str Ϻ
  |_=>show Ý (show Ä=Ã from c) Ħ
 |int i=>
  rw[ëq];cases y with
  |zP=>cases a;show PySem.EqNone.eq_int_none Ϻ|int j=>let{b,rfl}:=a;show Ϟc (wR I q EF)
  |str j=>let{b,rfl}:=a;show PySem.EqMixed.eq_int_str Ϻ
  |_=>show Ý (show Ä=Ã from c) Ħ
 |str i=>
  rw[ëq];cases y with
  |zP=>cases a;show PySem.EqNone.eq_str_none Ϻ|bl j=>cases a;show PySem.EqMixed.eq_str_bool Ϻ|int j=>let{b,rfl}:=a;show PySem.EqMixed.eq_str_int Ϻ
  |str j=>let{b,rfl}:=a;show eq_str (wR I q EG)
  |_=>show Ý (show Ä=Ã from c) Ħ
 |byt i=>
  rw[ëq];cases y with
  |byt j=>let{b,rfl}:=a;show W.eq_bytes (wR I q ce)
  |_=>show Ý (show Ä=Ã from c) Ħ
 |_=>cases y<;>show Ý (show Ä=Ã from c) Ħ
def y51:y_ X šn y7t:=by
 rw[Ðq];cases x with
 |zP=>
  cases d;cases y with
  |zP=>cases a;show PySem.EqNone.ne_none_none Ϻ|bl j=>cases a;show PySem.EqNone.ne_none_bool Ϻ|int j=>let{b,rfl}:=a;show PySem.EqNone.ne_none_int Ϻ
  |str j=>let{b,rfl}:=a;show PySem.EqNone.ne_none_str Ϻ
  |_=>show Ý (show Ä=Ã from c) Ħ
 |bl i=>
  cases d;cases y with
  |zP=>cases a;show PySem.EqNone.ne_bool_none Ϻ|bl j=>cases a;show ne_bool (wR I q (Ŧ not ED))|str j=>let{b,rfl}:=a;show PySem.EqMixed.ne_bool_str Ϻ
  |_=>show Ý (show Ä=Ã from c) Ħ
 |int i=>
  rw[ëq];cases y with
  |zP=>cases a;show PySem.EqNone.ne_int_none Ϻ|int j=>let{b,rfl}:=a;show ne_int (wR I q (Ŧ not EF))
  |str j=>let{b,rfl}:=a;show PySem.EqMixed.ne_int_str Ϻ
  |_=>show Ý (show Ä=Ã from c) Ħ
 |str i=>
  rw[ëq];cases y with
  |zP=>cases a;show PySem.EqNone.ne_str_none Ϻ|bl j=>cases a;show PySem.EqMixed.ne_str_bool Ϻ|int j=>let{b,rfl}:=a;show PySem.EqMixed.ne_str_int Ϻ
  |str j=>let{b,rfl}:=a;show ne_str (wR I q (Ŧ not EG))
  |_=>show Ý (show Ä=Ã from c) Ħ
 |byt i=>
  rw[ëq];cases y with
  |byt j=>let{b,rfl}:=a;show W.ne_bytes (wR I q (Ŧ not ce))
  |_=>show Ý (show Ä=Ã from c) Ħ
 |_=>cases y<;>show Ý (show Ä=Ã from c) Ħ
def Xf:y_ X (Ďa .Lt) (Γb (i<j)):=MR λ_ _ _ _ _ _ _ q=>lt_int q
def y4z:y_ X (Ďa .LtE) (Γb (i<=j)):=MR λ_ _ _ _ _ _ _ q=>le_int q
def iZ:y_ X (Ďa .Gt) (Γb (j<i)):=MR λ_ _ _ _ _ _ _ q=>gt_int q
def y4v:y_ X (Ďa .GtE) (Γb (j<=i)):=MR λ_ _ _ _ _ _ _ q=>ge_int q
def y4y:y_ X Ďe (οc Ϣk):=by rw[Ϙp];show in_str (wR I q rfl)
def KF:y_ X (Ďa .Is) ϟl:=by
 rw[œp];let{rfl,q}:=h;cases b;show is_none_gen ýo
 cases x<;>first
  |(cases a;rfl)
  |(let{t,rfl}:=a;rfl)
def y55:y_ X (Ďa .IsNot) Ϟl:=by
 rw[œp];let{rfl,q}:=h;cases b;show isnot_none_gen ýo
 cases x<;>first
  |(cases a;rfl)
  |(let{t,rfl}:=a;rfl)
def y_.or{f:Value->Value->Sem Value}{r c:R2}(h:y_ X f r)(h':y_ X f c):y_ X f (λx y H Q=>r x y H Q\/c x y H Q):=by intro a s σ H x y v u Q I b d q;rcases q with q|q;show h a s σ H x y v u Q I b d q;show h' a s σ H x y v u Q I b d q
def yB(b:Õ){a:Œg}(h:Í (a≠.In) q10)(c:Í (a≠.NotIn) q10):éc a b=Ä:=by
 let e1:(a==CmpOp.In)=Ä:=by cases a<;>first|rfl|show Ý rfl h
 let e2:(a==CmpOp.NotIn)=Ä:=by cases a<;>first|rfl|show Ý rfl c
 cases b<;>simp[éc,e1,e2]
theorem y5t{c:Œg}{r:R2}(g:y_ X (Ďa c) r)(l:PE X a ta)(f:PE X b tb)(m:éc c b=Ä):PE X (.Compare a [c] [b] pos) ľf:=by rw[Řp];show wpAny_Compare1 (Cw l f I h λv u e x y j d k n q=>g i e σ j x y v u Q d k n q) m
nonrec def x2z(t:TE):TT:=λσ H Q=>t σ H λx a=>∃k,x=.bl k/\Q k a
def KQ{f:Œg}{r:R2}(m:y_ X (Ďa f) r)(F:PE X a ta)(l:PE X b tb)(G:éc f b=Ä):PT X (.Compare a [f] [b] pos) (x2z ľf):=by
 intro d s σ H Q I h
 refine wpAny_isTrue_Compare1 (zw (F d s σ H _ I h) λv t ⟨x,n,B,C,p⟩=>zw (l d t σ n _ B p) λu i ⟨y,w,g,A,E⟩=>
  zw (m d i σ w x y v u _ g C A E) λc K ⟨z,q,o,J,k,e,j⟩=>?_) G
 subst e;cases J;show ſd {q,o,j}
def TJ:(ã:Â)<2 ^ 63:=by rw[ŕ];decide
def y4s:y_ X ēd (λx y H Q=>∃i j,x=.str i/\y=.str j/\Ϧb+İa<=ã/\Q Ňn H):=by intro e s σ H x y v u Q I b d h;let{i,j,rfl,rfl,a,q}:=h;let{t,rfl}:=b;let{c,rfl}:=d;show òg (λc f=>{.str (i++j),H,ϳ _,{_,rfl},q}) a
def uq{x:V}{us:Á Value}(r:zl [x] us):∃u,us=[u]/\zy x u:=by
 cases r with
 |ú r1 r2=>cases r2;show{_,rfl,r1}
def Rb{x y:V}{us:Á Value}(r:zl Ác us):∃u w',us=[u,w']/\zy x u/\zy y w':=by
 cases r with
 |ú r1 r2=>
  cases r2 with
  |ú r3 r4=>cases r4;show{_,_,rfl,r1,r3}
def z2i:wu X Ŧa Ϩj:=by intro c s σ H xs b Q I r h;rcases h with⟨i,rfl,q⟩|⟨k,rfl,q⟩;let{u,rfl,t,rfl}:=uq r;show call_int_int {.int i,H,I,{_,rfl},q};let{u,rfl,a}:=uq r;cases a;show call_int_bool {.int Ůl,H,ϳ _,{_,rfl},q}
#print a
structure Wj(h:Heap)(x dx C:Ë)(mA:Ç->É Value):È where
 obj:ę x=À Ĵo
 ns:Ņg dx mA
 ne:dx≠x
def z9h{h:Heap}{f:Ë}{d:Ç->É Value}(n:Ņg f d):∃od,ę f=À od/\∀ī,Çg ī od=À (d ī):=by
 let{o,c,p,i,j,g,_,m}:=n;show{o,i,λname=>?_};let e:=m ī;unfold nsFind findBy at e;rw[<-Array.find?_toList]at e;unfold Çg;rw[j];rw[ŕp]
 split;rename_i y q;rw[q]at e;show Ŧ À e;rename_i q;rw[q]at e
 let a:œn (·.refKey)=Ä:=by rw[đm];intro y l;let{z,t,b}:=g y (Array.mem_toList_iff.mp l);simp[DictEntry.refKey,b]
 let k:¬ œn (·.refKey)=Ã:=by rw[a];show Ħ
 rw[Ñ k];show Ŧ À e
def Wj.look{h:Heap}{x b C:Ë}{a:Ç->É Value}(I:Wj h x b C a):∃od,W.InstAt h x (æf C b) C (À od)/\∀ī,Çg ī od=À (a ī):=
 let ⟨od,ho,hl⟩:=z9h I.ns
 {od,{I.obj,rfl,rfl,ho},hl}
section
variable{ă:ï}{w:æ}{A:ø}{E:Value->Î->È}{s:Î}{K:Ô}{x dx C f:Ë}{mA:Ç->É Value}{ī:Ç}{v:Value}
def z4n{a:Ï}{Q:Value->Î->È}(X:ŵ á)(I:Wj á x dx C mA)(f:ýe K C ī=Ã)(d:łf K C=Ã)(e:Őa K ś ī=À Å)(hv:mA ī=À v)(b:ĩo v=Ã)(h:Q v { s with đ:=Đ+1 }) :Ø é A (ĕj ĵd ī a) Q E s:=by let{g,J,c}:=Ūj;show W.get_value X J (ϣh f).1 (W.findObj_own d e rfl (by rw[c,hv])) b h
def z4o{pl:Sem Ï}{Q:Value×Á Value->Î->È}(X:ŵ á)(I:Wj á x dx C mA)(a:ýe K C ī=Ã)(e:Őa K ś ī=À ŋa)(b:Ře K Ĥ=Ã)(hv:mA ī=Å)(h:Q (.ref f,[.ref x]) s) :Ø é A (ϛo ĵd ī pl) Q E s:=by let{c,J,d}:=Ūj;show W.method_fn X J (ϣh a).1 (ϣh a).2 e (Ġf b) (by exact(Çg ī c).map (·.isSome)=À Ä;rw[d,hv];rfl) h
def x0l{ns:Á Ç}{Q:èa->Î->È}(X:ŵ á)(I:Wj á x dx C mA)(j:Őa K ś ϛh=À ŷg)(o:Ċi K C=Ã)(p:Ųi K C ī=À Å)(m:łf K C=Ã)(k:Ûi mA ns)(hsz:Ŝ<=ã)(h:∀h',Wj h' x dx C (λy=>if y=ī then À v else mA y)->ũa dx á h'->Q () { s with ç:=h',đ:=Đ+2 }) :Ø é A (setAttr ĵd ī v) Q E s:=by
 let{B,J,F}:=Ūj;show W.set_plain X J j (W.osa_open (s:={ s with đ:=Đ+1 }) (r:=Å) X J o p λb=>?_);let{u,l,g}:=W.any_some m;let q:ö x=À {.ref C,À dx,.plain,#[]}:=I.obj;show Ó (Δa (Ó (wpAny_loadPart q (Ó (W.Looks.here (s:={ s with đ:=Đ+1 }) (W.looks_clsIn X l) ?_)))));rw[g];show ò (a:=À dx) (Ó ϛi);show wpAny_nsSet1 (s:={ s with đ:=Đ+1 }) I.ns λh' c d=>?_
 let{z,t,n,f,i,e}:=c.count (PySem.Within.cons ī v k);refine Ó (wpAny_lookBehind f (by rw[i];show pastItsLine_dict (ĉ e õm)) ?_);show ò (h _ {(d.2 _ (śb I.ne)).trans I.obj,c,I.ne} d)
def z9r{R:ŕd->Î->È}{vs:Á Value}{b:Á îc}(X:ŵ á)(e:ϐf K C=Ã)(hi:Őa K ś éb=À ŋa)(c:W.typeIn K Ĥ=À (.type "function"))(h:ğb é (A.under (.builtin Ŭm {.ref C::vs,b})) (.call Ĥ {.ref Ĳa::vs,b}) (W.InitBack Ĳa R)
   { s with ç:=(çd).push Ňf }) :
  ğb é A (.call ś {vs,b}) R s:=by
 let{j,g,d,t,i}:=s;show W.make_core (W.makes_of X e) (W.looks_findIn X hi) (λa=>W.bind_fn X a c) Ŗ h
#print a
nonrec def Įb(f:Ç)(v:V):Á Řb->Á Řb
 | []=>[(f,v)]|(g,x)::r=>if g=f then(g,v)::r else(g,x)::Įb f v r
theorem fY(f g:Ç)(v:V):∀fs:Á Řb,(Ĩf).lookup g=if g=f then À v else ñc g
 | []=>by exact Ťc g [(f,v)]=_;by_cases h:g=f;let a:(g==f)=Ã:=źb h;simp only[Ťc,a,Ð h];let a:(g==f)=Ä:=Êb h;simp only[Ťc,a,Ñ h]|(k,x)::r=>by let b:=fY f g v r;rw[show Įb f v Ŗi=Ŭg from rfl];by_cases hk:k=f;rw[Ð hk];by_cases h:g=k;let a:Ļg=Ã:=źb h;simp only[Ťc,a,Ð (ľd hk)];let a:Ļg=Ä:=Êb h;simp only[Ťc,a,Ñ (λe:g=f=>h (ϋc hk.symm))];rw[Ñ hk];by_cases h:g=k;let a:Ļg=Ã:=źb h;simp only[Ťc,a,Ñ (λe:g=f=>hk (Øh e))];let a:Ļg=Ä:=Êb h;simp only[Ťc,a];show b
theorem HS(f:Ç)(v:V):∀fs:Á Řb,f∈(Ĩf).map (·.1)/\∀g,g∈Ϙc (·.1)->g∈(Ĩf).map (·.1)
 | []=>{by simp[Įb],λg h=>by simp at h}|(k,x)::r=>by let{b,a}:=HS f v r;rw[show Įb f v Ŗi=Ŭg from rfl];by_cases hk:k=f;rw[Ð hk];subst hk;show{by simp,λg h=>by rw[Ėq]};rw[Ñ hk];show{?_,λg h=>?_};rw[ľ];show Ű _ b;rw[ľ]at h ⊢;rcases ħ h with e|e;show List.mem_cons.mpr ÿj;show Ű _ (a g e)
theorem fV(f:Ç)(v:V):∀fs:Á Řb,(Ĩf).length<=ŉa+1
 | []=>by simp[Įb]|(k,x)::r=>by let a:=fV f v r;rw[show Įb f v Ŗi=Ŭg from rfl];by_cases hk:k=f;rw[Ð hk,Ĉ,Ĉ];omega;rw[Ñ hk,Ĉ,Ĉ];omega
def ŗf{v:V}{o:É Value}(r:tJ ϯ o):∃u,o=À u/\zy v u:=by
 cases o with
 |Å=>show(show ÿ from r).elim|À u=>show{u,rfl,r}
def Ěo{o:É Value}(r:tJ Å o):o=Å:=by
 cases o with
 |Å=>rfl|À u=>show(show ÿ from r).elim
def z74{v:V}{u:Value}(r:zy v u):ĩo u=Ã:=by
 cases v with
 |zP=>cases(show u=Ėb from r);rfl|bl b=>cases(show u=Śf b from r);rfl|int i=>let{t,e}:=(show ∃t,u=Ϛb i t from r);cases e;rfl
 |str x=>let{t,e}:=(show ∃t,u=ŏb x t from r);cases e;rfl
 |byt b=>let{t,e}:=(show ∃t,u=ϸn b t from r);cases e;rfl
 |WJ b=>let{t,e}:=(show ∃t,u=či b t from r);cases e;rfl
 |ref a=>cases(show u=ĕ a from r);rfl|ty n=>cases(show u=ϗb n from r);rfl
section
variable{P:ï}{w:æ}{H:Hp}{h:Heap}{a C dx:Ë}{fs:Á Řb}
def M4(b:wG P w H h)(e:H a=À ēb):∃mA,Wj h a dx C mA/\(∀f,tJ Īj źj)/\Ûi mA (Ϙc (·.1))/\ŉa<=1000/\H dx=À ĸe:=by let{d,z,c,g,mA,n,r,q}:=(show xT P w H h a ēb from b a _ e);show{mA,{g,n,c},r,q,z,d}
#print a
structure tR(K:Ô)(C:Ë):È where
 pg:ýe K C ŷi=Ã
 hd:łf K C=Ã
 po:Ċi K C=Ã
 sa:Őa K ś ϛh=À ŷg
def tR.get{K:Ô}{C:Ë}(c:tR K C)(f:Ç):ýe K C f=Ã:=c.pg
def XH(K:Ô)(C:Ë)(f:Ç):È:=Őa K ś f=À Å
def XH.z0r{K:Ô}{C:Ë}{f:Ç}(n:XH K C f):Ųi K C f=À Å:=by unfold Ųi;rw[show Őa K ś f=À Å from n];rfl
structure L0(K:Ô)(C:Ë)(m:Ç)(f:Ë):È where
 at_:Őa K ś m=À ŋa
 fn:Ře K Ĥ=Ã
 kp:Ôa K Ĥ=Ã
section
variable{X:Cx}{zA:Á ô}{σ:St}{H:Hp}{s:Î}{a C dx:Ë}{fs:Á Řb}{f:Ç}{v:V}{A:ø}{E:Value->Î->È}
def df{b:Ï}{Q:Value->Î->È}(I:Inv X zA σ H s)(e:H a=À ēb)(c:tR X.K C)(n:XH X.K C f)(l:ñc f=À v)(h:∀u s',Inv X zA σ H s'->zy v u->Q u s'):Ø Ą A (ĕj Ō f b) Q E s:=by let{i,O,r,_,_,_}:=M4 Ė e;let{u,g,d}:=ŗf (v:=v) (o:=i f) (by rw[<-l];show r f);show z4n ϕ O (c.get f) c.hd n g (z74 d) (h u _ Ϸb d)
def dg{m:Ç}{g:Ë}{pl:Sem Ï}{Q:Value×Á Value->Î->È}(I:Inv X zA σ H s)(e:H a=À ēb)(c:tR X.K C)(k:L0 X.K C m g)(l:ñc m=Å)(h:Q (.ref g,ϥ) s):Ø Ą A (ϛo Ō m pl) Q E s:=by let{d,O,r,_,_,_}:=M4 Ė e;have b:d m=Å:=Ěo (by rw[<-l];show r m);show z4o ϕ O (c.get m) k.at_ k.fn b h
def nc{y:V}{u:Value}{Q:èa->Î->È}(I:Inv X zA σ H s)(e:H a=À ēb)(c:tR X.K C)(n:XH X.K C f)(G:ŉa<1000)(F:zy y u)(h:∀s',Inv X zA σ (ze H a Úl) s'->Q () s'):Ø Ą A (setAttr Ō f u) Q E s:=by
 let{k,O,r,j,_,i}:=M4 Ė e;let l:(Ϙc (·.1)).length<=ã:=by rw[å,ŕ];omega
 show x0l ϕ O c.sa c.po n.z0r c.hd j l λv d B=>h _ ?_
 let p:∃o,v.get? dx=À o:=let ⟨o,_,_,e',_⟩:=d.ns;{o,e'};refine õg (x:=a) (e:=dx) ăh (.inr i) (λb q m z=>(B.2 b m).trans z) p ?_;refine{by rw[yH O.ne];show i,?_,O.ne,d.obj,_,d.ns,λg=>?_,λg t=>?_};let:=fV f y fs;omega;exact tJ ((Įb f y fs).lookup g) ϟk;rw[fY];by_cases q:g=f;rw[Ð q,Ð q];show F;rw[Ñ q,Ñ q];show r g;by_cases q:g=f;rw[q];show Čo.1;show Čo.2 g (j g λz=>t ?_);exact ϟk=Å;rw[Ñ q];show z
def Inv.made(I:Inv X zA σ H s):Inv X zA σ (ze (ze H Û (.own Ĳa)) Ĳa (.ins C Û [])) { s with ç:=(çd).push Ňf }:=by
 let e1:(çd).get? Û=À Či:=ű á rfl
 let e2:((çd).push Ňf).get? (Û+1)=À Ňf:=by
  let:=ű çd (o:=æf C Û) rfl
  rwa [ϙa]at this
 let g:(çd).Ns Û úc:={Či,#[],_,e1,rfl,(λe d=>Ý d ó),λ_=>rfl};let f:=Ża (a:=Û) (o:=.own Ĳa) (h':=Ía Či) (t':=Đ) ēh Ġ {_,e1};show f.laid (a:=Û+1) (o:=.ins C Û []) (t':=Đ) ēh (Łb (ϙa _ _)) ?_;let c:Û≠Û+1:=Ϗ ϕc;refine{by rw[yH c,yh],ϐ _,c,e2,λ_=>Å,(Heap.Ns1.of_empty g).at λo q=>ė _ q,λ_=>ūa,λy h=>Ý rfl h}
def z1g{ă:ï}{w:æ}{env:Env}{e:Õ}{f:Ç}{pos:Pos}{s:Î}{Q:Value->Î->È}(a:Ïb e f env ào=ě e env)(h:Ø é A ào (λo s₁=>Ø é A (ĕj o f Ã) Q E s₁) E s):Ø é A (ě Ñf env) Q E s:=
 Attribute_any_ h (by rw[arm_eval_Attribute,a])
#print a
nonrec def x2g(K:Ô)(c:TE)(f:Ç):TE:=λσ H Q=>c σ H λx b=>∃a C dx fs v,x=.ref a/\b a=À ēb/\tR K C/\XH K C f/\ñc f=À v/\Q v b
def y8w(K:Ô)(e d:TE)(f:Ç):TS:=λD σ H=>d σ H λy c=>e σ c λx b=>∃a C dx fs,x=.ref a/\b a=À ēb/\tR K C/\XH K C f/\ŉa<1000/\
 Çb σ (ze b a Úl)
def bJ(X:Cx)(a:Ĭd)(b:V->V->Hp->VK->È):È:=
 ∀(zA:Á ô) (s:Î) (σ:St) (H:Hp) (x y:V) (u v:Value) (Q:VK),Inv X zA σ H s->zy x u->zy y v->b x y H Q->Ø Ą X.A (Ũi a u v) Ŀb ĩ s
def y8x(K:Ô)(h g:TE)(e:V->V->Hp->VK->È)(f:Ç):TS:=λD σ H=>h σ H λx b=>∃a C dx fs v,x=.ref a/\b a=À ēb/\tR K C/\XH K C f/\ñc f=À v/\
 g σ b λy d=>e v y d λz c=>∃dx' fs',c a=À (.ins C dx' fs')/\fs'.length<1000/\Çb σ (ze c a (.ins C dx' (Įb f z fs')))
section
variable{X:Cx}{o e Āb:Õ}{f:Ç}{pos Ça tpos:Pos}{ta tv:TE}
def i_(m:PE X e ta)(g:Ïb e f Ú Ýe=ě e Ú):PE X Ñf (x2g X.K ta f):=by intro j s σ H Q I h;show z1g g (zw (m j s σ H _ I h) λu w ⟨x,i,o,p,a,C,y,z,v,r,k,c,n,l,q⟩=>?_);subst r;obtain rfl:u=ĕ a:=p;show df o k c n l λA t b d=>{v,i,b,d,q}
def y6v(w:PE X o ta)(hv:PE X Āb tv)(d:ņb Āb (À ſl) ϔb Ú=pure Ä):PS X (.Assign ŝl Āb pos) (y8w X.K ta tv f):=by intro b s σ H D I h;show plainObj_wpAny_Assign_Attribute (zw ϵl λu t ⟨y,g,j,z,q⟩=>zw (w b t σ g _ j q) λm A ⟨x,G,e,k,a,C,E,F,p,i,c,n,l,v⟩=>?_) d;subst p;obtain rfl:m=ĕ a:=k;show nc e i c n l z λB r=>{σ,_,r,v}
def y6w{i:Ĭd}{g:V->V->Hp->VK->È}(T:PE X o ta)(hv:PE X Āb tv)(b:bJ X i g):PS X (.AugAssign ōl i Āb pos) (y8x X.K ta tv g f):=by
 intro d s σ H D I h;show wpAny_AugAssign_AttributeAny (zw (T d s σ H _ I h) λF s1 ⟨x,p,w,A,a,C,dx,fs,v,G,r,c,n,l,q⟩=>?_);subst G;obtain rfl:F=ĕ a:=A;show df w r c n l λu k j m=>zw (hv d k σ p _ j q) λU W ⟨y,S,Q,P,L⟩=>zw (b d W σ S v y u U _ Q m P L) λZ Y ⟨z,H3,J,B,E,O,e,t,R⟩=>?_
 show nc J e c n t B λs5 N=>{σ,_,N,R}
def y7l:V->V->Hp->VK->È:=λx y H Q=>∃i j,x=.int i/\y=.int j/\Q Ŀf H
def z7k:bJ X .Add y7l:=by rintro d s σ H x y u v Q I b c ⟨i,j,rfl,rfl,q⟩;let{t,rfl}:=(show ∃t,u=Ϛb i t from b);let{a,rfl}:=(show ∃a,v=Ϛb j a from c);show PyProof.Rows.iadd_int {.int (i+j),H,ϳ _,{_,rfl},q}
#print a
section
variable{X:Cx}{zA:Á ô}{σ:St}{H:Hp}{s:Î}{A:ø}{E:Value->Î->È}{Q:Value->Î->È}{c:Value}{b:Ï}
inductive jo(K:Üi)(H:Hp):V->Value->È where
 |zP:jo K H .zP åd
 |bl (x:Ï):jo K H (.bl x) Ϛa
 |int (i:Æ):jo K H Áa Ŧa
 |str (x:Ç):jo K H Ϭb Þb
 |WJ (x:UInt64):jo K H (.WJ x) (.type "float")
 |lst {a:Ë} {xs:Á V} (e:H a=À Ĕa):jo K H Ō ďa
 |ye {a:Ë} {o:Obj} {xs:Á V} (e:H a=À ďo):jo K H Ō ďa
 |tup {a:Ë} {xs:Á V} (e:H a=À Ōa):jo K H Ō ŭa
 |dK {a:Ë} {kvs:Á ϲ} (e:H a=À ř):jo K H Ō öc
 |dT {a:Ë} {kvs:Á ňb} (e:H a=À ϟb):jo K H Ō öc
 |ins {a C dx:Ë} {fs:Á Řb} (e:H a=À ēb) (cl:tR K C) (ha:PySem.W.findIn K ś "__class__"=À (À ϛg))
   (hn:PySem.W.specialIn K ϛg "__get__"=À (À (.builtin "getset_descriptor.__get__"))) (htk:PySem.W.takesIn K ϛg=À Ã)
   (hm:PySem.W.mroIn K C (.type "object")=À Ã):jo K H Ō ś
def M6{x:V}{u t:Value}(I:Inv X zA σ H s)(d:zy x u)(m:jo X.K H x t)(e:ŧ X.K t c=À b)(h:∀tk,Q ϸi { s with đ:=tk }) :Ø Ą A (įb ϑh [u,c]) Q E s:=by
 cases m with
 |zP=>cases(show u=Ėb from d);show ϧa W.kitx_none ϕ ūa e ħa h|bl y=>cases(show u=Śf y from d);show ϧa W.kitx_bool ϕ ūa e ħa h|int i=>let{t,q}:=(show ∃t,u=Ϛb i t from d);cases q;show ϧa W.kitx_int ϕ ūa e ħa h
 |str y=>let{t,q}:=(show ∃t,u=ŏb y t from d);cases q;show ϧa W.kitx_str ϕ ūa e ħa h
 |WJ y=>let{t,q}:=(show ∃t,u=či y t from d);cases q;show ϧa W.kitx_float ϕ ūa e ħa h
 |@lst a g ea=>cases(show u=ĕ a from d);let{_,_,n,_,f}:=(show xT õ X.w H á a (.lst g)from Ė a _ ea);show ϧa ċi ϕ {_,f,rfl} e ħa h
 |@ye a ob g ea=>cases(show u=ĕ a from d);let{_,_,_,n,_,f}:=(show xT õ X.w H á a (.ye ob (.lst g))from Ė a _ ea);show ϧa ċi ϕ {_,f,rfl} e ħa h
 |@tup a g ea=>cases(show u=ĕ a from d);let{_,_,_,p}:=(show xT õ X.w H á a (.tup g)from Ė a _ ea);let{o,f,j,_}:=p;show ϧa ŕn ϕ {o,f,j} e ħa h
 |@dK a kvs ea=>cases(show u=ĕ a from d);let{_,_,r,_,p}:=(show xT õ X.w H á a ř from Ė a _ ea);let{o,k,l,f,j,_}:=p;show ϧa ϵn ϕ {o,f,j.1} e ħa h
 |@dT a kvs ea=>cases(show u=ĕ a from d);let{_,_,g,_,o,k,l,f,j,_}:=(show xT õ X.w H á a ϟb from Ė a _ ea);show ϧa ϵn ϕ {o,f,j.1} e ħa h
 |@ins a C dx fs ea cl ha hn htk hm=>cases(show u=ĕ a from d);let{B,O,_}:=M4 Ė ea;let{v,J,_}:=O.look;show ϧa (W.kitx_own (cl.get _) cl.hd ha hn htk hm) ϕ J e ħa h
#print a
structure yf(k:Â)(A:ø):È where
 hd:āa=Å
 dp:øg+3*k+5<Ãn
 un:ŗa+16*k+200<Ϙ
 gd:A.guards=À []
theorem yf.mono{j k:Â}{A:ø}(r:yf k A)(h:j<=k):yf j A:={r.hd,by let:=r.dp;omega,by let:=r.un;omega,r.gd}
theorem yf.deeper{k:Â}{A:ø}(r:yf Ş A)(env:Env):yf k (ėb env):=
 {r.hd,by let:=r.dp;exact øg+1+3*k+5<_;omega,by let:=r.un;exact ŗa+3+16*k+200<_;omega,by first|show r.gd|simp[äe,Ío,Ĝo,r.gd]}
def z9q{A:ø}{C:Ë}{us:Á Value}{a:Á îc}:(ţg).depth=øg+1:=by first|rfl|simp[äe,Code.weight,Code.isCreation,Code.isGuard,Code.isCaller,Îo,äi,guardIds]
theorem z9s{A:ø}{C:Ë}{us:Á Value}{a:Á îc}:(ţg).units=ŗa+1:=by first|rfl|simp[äe,Code.cUnits,Îo,äi]
theorem yf.make{k:Â}{A:ø}(r:yf Ş A)(C:Ë)(us:Á Value)(a:Á îc):yf k ţg:=
 {r.hd,by let:=r.dp;rw[z9q];omega,by let:=r.un;rw[z9s];omega,by first|show r.gd|simp[äe,Ío,Ĝo,r.gd]}
theorem yf.depth{k:Â}{A:ø}(r:yf k A):øg<Ãn:=by let:=r.dp;omega
theorem yf.units{k:Â}{A:ø}(r:yf k A):ŗa+64<Ϙ:=by let:=r.un;omega
nonrec def Vo:TA:=λ_ H Q=>Q [] H
nonrec def RD(d:TE)(e:TA):TA:=λσ H Q=>d σ H λx a=>e σ a λb c=>Q (x::b) c
section
variable{X:Cx}{e:Õ}{es:Á Õ}{te:TE}{t:TA}{pos:Pos}
def VS:PA X [] Vo:=λ_ _ _ _ H Q I h=>Ĕm {[],H,I,.nil,h}
def y5b(m:PE X e te)(o:PA X es t)(b:Í Ĭc q12):PA X ď Ĩp:=by intro pos a s σ H Q I h;rw[b];exact Ø _ _ (spliced ((Ä,ě e Ú)::ěc pos æi)) _ _ s;show Áh (zw îm λu g ⟨x,d,j,k,f⟩=>?_);show zw (o pos a g σ d _ j f) λr q ⟨n,i,c,p,l⟩=>⟨x::n,i,c,.cons k p,l⟩
def x30(t:TA):TE:=λσ H Q=>t σ H λb a=>Óa<=ã/\∀p,a p=Å->Q Ŭ (ze a p (.tup b))
def oy(t:TA):TE:=λσ H Q=>t σ H λb a=>Óa<=ã/\∀p,a p=Å->Q Ŭ ıh
def y67{x1}(h:PA X es t):PE X ÿm (x30 t):=by intro i s σ H Q I j;refine wpAny_Tuple_spliced Ϯj;let f:c ϖa=Å:=Ąf Ġ;show{.ref ϖa,ze c ϖa (.tup k),d.laid (t':=ģg) ám Ġ ?_,rfl,q _ f};show{z,g,r,{_,ű _ rfl,rfl,_,rfl}}
def l8(h:PA X es t):PE X Ān (oy t):=by intro i s σ H Q I j;refine wpAny_List_spliced Ϯj;let f:c ϖa=Å:=Ąf Ġ;show{.ref ϖa,ze c ϖa (.lst k),d.laid (t':=ģg) ám Ġ ?_,rfl,q _ f};show{z,g,0,r,ű _ rfl}
#print a
abbrev Sp:=Á V->Hp->VK->XK->È
abbrev Z4:=Á Env->Hp->Î->XK->Value->Î->È
structure WO(P:ï)(w:æ)(K:Ô)(mg:Ç->É Value)(Ì:Heap)(A:ø)(ć:Á Env)(s:Î)(H:Hp):È where
 Šj:A.frames=À ć
 mod:Mod K mg Ì
 bs:∀b o,base.get? b=À o->ö b=À o/\H b=Å
 k_:base.objs.size<=Û
 j7:ñf Ì ć
 Ys:∀b∈jN ć,H b=Å
 zh:wG P w H á
 bare:Ńd Ęg
def CE(ć:Á Env)(P:ï)(w:æ)(H:Hp)(s:Î)(Q:VK)(u:Value)(s':Î):È:=
 ∃v H',s'.os=s.os/\Ńd s'.gens/\Un (jN ć) [] H H' á Ϗc/\wG P w H' Ϗc/\zy v u/\Q v H'
def CR(a:Z4)(ć:Á Env)(P:ï)(w:æ)(H:Hp)(s:Î)(Q:VK)(E:XK)(r:ŕd)(s':Î):È:=
 match r with
 |.ok (.ret u)=>CE ć P w H s Q u s'|.ok _=>ÿ|.error e=>a ć H s E e s'
structure xP(P:ï)(w:æ)(K:Ô)(mg:Ç->É Value)(Ì:Heap)(CX:Z4)(k:Â)(f:Ë)(fd:Ń)(ps:Á Ç)(sp:Sp):È where
 len:∀vs H Q E,sp vs H Q E->č=ğ
 run:∀(A:ø)(ć:Á Env)(s:Î)(H:Hp)(ča:Args)(us:Á Value)(vs:Á V)(Q:VK)(E:XK),yf k A->WO P w K mg Ì A ć s H->Ġb s fd ča õc->zl vs us->sp vs H Q E->
  ğb ŉb A (.call Ĥ ča) (CR CX ć P w H s Q E) s
def xP.imp{P:ï}{w:æ}{K:Ô}{i:Ç->É Value}{a:Heap}{g:Z4}{k:Â}{f:Ë}{e:Ń}{ps:Á Ç}{sp d:Sp}(F:xP P w K i a g k f e ps sp)(h:∀vs H Q E,d vs H Q E->sp vs H Q E):xP P w K i a g k f e ps d:=
 {λvs H Q E q=>F.len vs H Q E (h _ _ _ _ q),λA b s H c m vs Q E p n l o j=>F.run A b s H c m vs Q E p n l o (h _ _ _ _ j)}
def WO.make{P:ï}{w:æ}{K:Ô}{b:Ç->É Value}{a:Heap}{A:ø}{ć:Á Env}{s:Î}{H:Hp}(e:WO P w K b a A ć s H)(C:Ë)(us:Á Value)(c:Á îc) :WO P w K b a (A.under (.builtin Ŭm {.ref C::us,c})) ć s H:={by first|show e.frames|(simpa [äe,Code.envs,äi,pushEnvs]using e.frames),e.mod,e.bs,e.k_,e.j7,e.Ys,e.zh,e.bare}
section
variable{X:Cx}{zA:Á ô}{σ:St}{H:Hp}{s s':Î}
def Inv.Al(I:Inv X zA σ H s):WO õ X.w X.K ð ĵ X.A œa s H:=
 {Èo,Öj,I.bs,ĉ ög I.sz,I.stack,I.At,Ė,Ža}
def Inv.after{Q:VK}{u:Value}(I:Inv X zA σ H s)(h:CE œa õ X.w H s Q u s'):EP X zA σ Q u s':=by let{v,j,e,a,i,k,r,q}:=h;let{f,g,d,t,c}:=s';obtain rfl:c=s.os:=e;show{v,j,I.call (h':=f) (g':=g) (d':=d) (t':=t) (ch:=[]) i k a (λb z=>Ý z ó),r,q}
#print a
nonrec def BM(sp:Sp)(a:Á V)(E:XK)(t:TA):TE:=λσ H Q=>t σ H λc b=>sp (c++a) b Q E
nonrec def BN(C:Ë)(m:Ç)(sp:Sp)(b:Á V)(E:XK)(e:TE)(t:TA):TE:=λσ H Q=>e σ H λx c=>∃a dx fs,x=.ref a/\c a=À ēb/\ñc m=Å/\
 t σ c λf d=>sp (x::(f++b)) d Q E
def x2l(C:Ë)(sp:Sp)(b:Á V)(E:XK)(t:TA):TE:=λσ H Q=>t σ H λd a=>∀x dx,a x=Å->a dx=Å->dx≠x->
 sp (.ref x::(d++b)) (ze (ze a dx Ķd) x ün) (λv c=>v=.zP/\Q ĵd c) E
def vy(K:Ô)(a:Ń)(ps:Á Ç)(ds:Á Value):È:=
 ∀(s:Î)(us:Á Value),ŵ á->(Ħd).length=ğ->Ġb s a {us,[]} (ps.zip Ħd)
def vy.all{K:Ô}{b:Ń}{ps:Á Ç}(h:∀us:Á Value,áa=ğ->Åg b {us,[]}=pure õc):vy K b ps []:=λs us _ a=>by rw[ώ]at a ⊢;show .of_eq (h us a)
def XI(a:Z4)(X:Cx)(E:XK):È:=∀(zA:Á ô) (σ:St) (H:Hp) (s:Î) (e:Value) (s':Î),Inv X zA σ H s->a œa H s E e s'->ĩ e s'
section
variable{X:Cx}{CX:Z4}{k:Â}{f C:Ë}{fd:Ń}{ps:Á Ç}{sp:Sp}{dvs:Á V}{ds:Á Value}{E:XK}{x m:Ç}{p pos ύ:Pos}{e o:Õ}{es:Á Õ}{ta:TE}{t:TA}
def Vc{b:Á ô}{σ:St}{H:Hp}{s:Î}{Q:VK}{us:Á Value}{vs:Á V}(F:xP õ X.w X.K ð ĵ CX k f fd ps sp)(m:yf k X.A)(g:vy X.K fd ps ds)(i:zl dvs ds)(l:XI CX X E)(I:Inv X b σ H s)(r:zl vs us)(h:sp ēe H Q E):Ø Ą X.A (įb Ĥ us) (EP X b σ Q) ĩ s:=by
 let c:zl ēe Ħd:=žc i;have d:(Ħd).length=ğ:=by rw[<-äa];show F.len _ _ _ _ h
 show òf (ßd (F.run X.A œa s H {us,[]} Ħd ēe Q E m I.Al (g s us ϕ d) c h) λr j a=>?_);cases r with
 |Ůe e=>show l b σ H s e j I a|ok fl=>
  cases fl with
  |ret u=>show I.after a|next=>show đa a|brk=>show đa a|Çc=>show đa a
def y5m(F:xP õ X.w X.K ð ĵ CX k f fd ps sp)(u:yf k X.A)(j:Gl X x)(n:ð x=À Ĥ)(hk:Ôa X.K Ĥ=Ã)(d:vy X.K fd ps ds)(g:zl dvs ds)(o:XI CX X E)(m:PA X ď t)(a:Í Ł q10)(l:Í Ĭc q12)(b:Í ((ád).any (·.1)=Ä) q12) :PE X Ľa (BM sp dvs E t):=by rw[Řp];show Èd ϰm;show Ăd (h₀:=ĵ) ċd hk Ñk l b;show Vc F u d g o c r q
def y5n(F:xP õ X.w X.K ð ĵ CX k f fd ps sp)(i:yf k X.A)(e:Gl X x)(c:ð x=À Ĥ)(hk:Ôa X.K Ĥ=Ã)(b:vy X.K fd ps ds)(d:zl dvs ds)(g:XI CX X E)(a:Í Ł q10):PE X ŋl (BM sp dvs E Vo):=by intro j s σ H Q I h;show Èd (IH I e c ?_ a);show Ďn ϕ hk (Vc (us:=[]) F i b d g I .nil h)
def y5z{pl:Sem Ï}(G:PE X o ta)(c:tR X.K C)(n:L0 X.K C m f)(F:xP õ X.w X.K ð ĵ CX k f fd ps sp)(S:yf k X.A)(p:vy X.K fd ps ds)(y:zl dvs ds)(P:XI CX X E)(N:PA X ď t)(b:Í Ĭc q12)(d:Í ((ád).any (·.1)=Ä) q12)(O:ě ϐe Ú=(do
   let ov <-ě o Ú
   standAt ţc
   let (f,first) <-holding [ov] Ĺc
   ϧb pos f first Ûd ūb):=by rfl) :
  PE X ϐe (BN C m sp dvs E ta t):=by
 rw[Řp];show Ŕh (pl:=pl) (zw (G i s σ H _ I h) λu B ⟨x,v,j,L,a,Y,Z,R,z,l,q⟩=>?_) O;subst R;obtain rfl:u=ĕ a:=L;show dg j z c n l ?_;show Ăd (first:=ϥ) (h₀:=ĵ) ċd n.kp (zw (N pos i B σ v _ j q) λus T ⟨vs,U,g,r,J⟩=>{g.wE,?_}) b d;show Vc (us:=.ref a::us) (vs:=.ref a::vs) F S p y P g (.cons rfl r) J
def l9{pl:Sem Ï}(n:PE X o ta)(c:tR X.K C)(d:L0 X.K C m f)(F:xP õ X.w X.K ð ĵ CX k f fd ps sp)(y:yf k X.A)(e:vy X.K fd ps ds)(g:zl dvs ds)(t:XI CX X E)(r:ě ϸc Ú=(do
   let ov <-ě o Ú
   standAt ţc
   let (f,first) <-holding [ov] Ĺc
   ϧb pos f first Ēh ūb):=by rfl) :
  PE X ϸc (BN C m sp dvs E ta Vo):=by
 rw[Řp];show Ŕh (pl:=pl) (zw ėh λu B ⟨x,z,b,p,a,G,J,v,j,l,q⟩=>?_) r;subst v;obtain rfl:u=ĕ a:=p;show dg b j c d l ?_;show Ďn (first:=ϥ) b.wE d.kp (Vc (us:=ϥ) (vs:=ϥ) F y e g t b ŏh q)
structure Mk(K:Ô)(C f:Ë):È where
 makes:ϐf K C=Ã
 init:Őa K ś éb=À ŋa
 fn:Ře K Ĥ=Ã
 kp:Ôa K ś=Ã
def y8r{c:Á ô}{σ:St}{H:Hp}{s:Î}{Q:VK}{us:Á Value}{vs:Á V}(M:Mk X.K C f)(F:xP õ X.w X.K ð ĵ CX k f fd ps sp)(z:yf Ş X.A)(j:vy X.K fd ps ds)(l:zl dvs ds)(y:XI CX X E)(I:Inv X c σ H s)(r:zl vs us)(h:∀x dx,H x=Å->H dx=Å->dx≠x->sp (.ref x::ēe) (ze (ze H dx Ķd) x ün) (λv H2=>v=.zP/\Q ĵd H2) E) :Ø Ą X.A (įb ś us) Ņn ĩ s:=by
 let g:=h Ĳa Û (Ĕb (ńf _)) ğd (Ϗ ϕc);let b:=Inv.made (C:=C) I;let d:zl (όa Ĳa::ēe) Ún:=.cons rfl (žc l)
 let p:(ĕ Ĳa::us++ds).length=ğ:=by let e:=Òa;rw[F.len _ _ _ _ g]at e;show ĝg
 refine òf (z9r (f:=f) ϕ M.makes M.init (Ġf M.fn) (ßd (F.run _ œa _ _ {ĕ Ĳa::us,[]} Ún _ _ E (z.make C us [])
  (b.Al.make C us []) (j _ (ĕ Ĳa::us) b.wE p) d g) λr t a=>?_))
 cases r with
 |Ůe e=>show y c σ _ _ e t b a|ok fl=>
  cases fl with
  |ret u=>let{v,o,n,m,q,i}:=b.after a;subst q;show{m,{όa Ĳa,o,n,rfl,i}}
  |next=>show đa a|brk=>show đa a|Çc=>show đa a
def y5y(M:Mk X.K C f)(F:xP õ X.w X.K ð ĵ CX k f fd ps sp)(u:yf Ş X.A)(j:Gl X x)(n:ð x=À ś)(d:vy X.K fd ps ds)(g:zl dvs ds)(o:XI CX X E)(m:PA X ď t)(a:Í Ł q10)(l:Í Ĭc q12)(b:Í ((ád).any (·.1)=Ä) q12) :PE X Ľa (x2l C sp dvs E t):=by rw[Řp];show Èd ϰm;show Ăd (h₀:=ĵ) ċd M.kp Ñk l b;show y8r M F u d g o c r q
#print a
structure zj(N P:Á Ç)(sc:ça):È where
 kind:sc.kind=.function
 co:sc.isCoroutine=Ä
 gen:sc.isGenerator=Ä
 nd:ϒc
 pre:N.take òa=P
 par:∀x∈P,ųm x=À .local\/ųm x=À .cell
 z0k:∀y∈sc.names,y.2≠.free
theorem bq{a:Ç->É Ċc}{x:Ç}:∀{şd:Á îc} {m:Ç->É Value},(∀v,(x,v) ∉ şd)->ģc a şd m x=m x
 | [],_,_=>rfl|(n,v)::r,m,h=>by
  unfold ģc;rw[bq λw b=>h w Œb]
  split;rw[óq]
  simp[this];rfl
theorem bo{a:Ç->É Ċc}{x:Ç}:∀{şd:Á îc} {m:Ç->É Value},(∀v,(x,v) ∉ şd)->Ĥc a şd m x=m x
 | [],_,_=>rfl|(n,v)::r,m,h=>by
  unfold Ĥc;rw[bo λw b=>h w Œb]
  split;rfl;rw[óq]
  simp[this]
theorem bp{a:Ç->É Ċc}{x:Ç}{v:Value}:∀{P:Á Ç}{vs:Á Value}{i:Â}{m:Ç->É Value},P.Nodup->P[i]?=À x->vs[i]?=À v->a x=À .local->
  ģc a şo m x=À v
 | [],_,_,_,_,h,_,_=>by simp at h|_::_,[],_,_,_,_,h,_=>by simp at h|p::P,w::vs,0,m,nd,h1,h2,hk=>by rw[ęq];exact ģc a ðf m p=_;unfold ģc;rw[bq λv b=>Įd.1 (ŗh b).1,Ð hk];simp|p::P,w::vs,i+1,m,nd,h1,h2,hk=>by exact ģc a ðf m x=_;unfold ģc;show bp (i:=i) Įd.2 Ûf Ϻl hk
theorem bn{a:Ç->É Ċc}{x:Ç}{v:Value}:∀{P:Á Ç}{vs:Á Value}{i:Â}{m:Ç->É Value},P.Nodup->P[i]?=À x->vs[i]?=À v->a x≠À .local->
  Ĥc a şo m x=À v
 | [],_,_,_,_,h,_,_=>by simp at h|_::_,[],_,_,_,_,h,_=>by simp at h|p::P,w::vs,0,m,nd,h1,h2,hk=>by rw[ęq];exact Ĥc a ðf m p=_;unfold Ĥc;rw[bo λv b=>Įd.1 (ŗh b).1,Ñ hk];simp|p::P,w::vs,i+1,m,nd,h1,h2,hk=>by exact Ĥc a ðf m x=_;unfold Ĥc;show bn (i:=i) Įd.2 Ûf Ϻl hk
nonrec def Ŭe(N:Á Ç)(vs:Á V):St:=Ĕg À++Ņ (ŗ-č) Å
nonrec def tU(g:Z4)(P:ï)(w:æ)(K:Ô)(mg:Ç->É Value)(Ì:Heap)(N:Á Ç)(b:Ç)(a:ça)(f:Ë)(d:Value)(A:ø)(ć:Á Env)(s:Î)(H:Hp)(E:XK):Cx where
 ă:=P
 w:=w
 K:=K
 mg:=mg
 Ì:=Ì
 A:=ėb ĭh
 N:=N
 s₀:=s
 H₀:=H
 env:=íb b a Û f d
 ć:=ć
 stack:=íb b a Û f d::ć
 ex:=[]
 calm:=Ã
 fn:=λ_=>Ã
 pn:=[]
 xe:=λe i=>Ø ŉb (ėb ĭh) (leaving ĭh e) (λ_ c=>g ć H s E e c) (λh c=>g ć H s E h c) i
def cG{a:ça}{n:Â}{x:Ç}(h:żb x=À .cell):∃c,(Ūi n ėj []).lookup x=À c:=by let q:=Ņm ėj n [] Śb;show Óc q
def z7q{Q:Z4}{P:ï}{w:æ}{K:Ô}{J:Ç->É Value}{l:Heap}{N ps:Á Ç}{g:Ç}{d:ça}{f:Ë}{G:Value}{A:ø}{ć:Á Env}{s R:Î}{H:Hp}{E:XK}{us:Á Value}{vs:Á V}(S:zj N ps d)(T:āa=Å)(m:WO P w K J l A ć s H)(hl:č=ğ)(r:zl vs us)(x:InCallC s Û (ģc (Ĝm).kindOf õc λ_=>Å) (Ūi Ĳa d.names []) (Ĥc (Ĝm).kindOf õc λ_=>Å) R) :Inv Įk [] şc H R:=by
 let U:ğ<=ŗ:=by let:=Ŧ ëe S.pre;rw[Ýa]at this;omega
 let{F,tk,rfl,L}:=x.done;let o:∀b:Ë,b ∉ (Įk).ex:=λb z=>Ý (show b∈([]:Á Ë)from z) ó
 show⟨{m.mod,S.kind,rfl,rfl,Ŕ _,λy z c F j=>?_,λy t=>?_,λy c _ h=>?_,λ_=>T,Around.frames_deeper m.frames,.inr {rfl,rfl},λb z=>Ý z (o b),m.bs,m.k_,λb _ _=>o b,λb z=>Ý z (o b),m.j7,m.Ys},
  rfl,m.bare,Ńe L,{_,x.toInCall.ns,λi y v F j Z=>?_},λy c h=>{_,x.cell y c h},Ĺi Ġ,λy c h=>?_,λp C=>Ý (show p∈([]:Á ô)from C) ó,m.zh.kept L,?_⟩
 show name_of_addr x.apart (ϭe F) (ϭe j);let t:Ŵh y=À .cell\/Ŵh y=À .free:=t;rcases t with t|t;show cG t;show Ý rfl (S.z0k _ (ϭe t));show ìa ĺl;let I:i<č:=by
  unfold Ŭe at j;by_cases I:i<č;show I;rw[Ĵb òm]at j;rw[Êd]at j
  split at j<;>cases j
 let Y:vs[i]?=À v:=by
  unfold Ŭe at j;rw[ľa òm,ņ]at j;cases e:vs[i]? with
  |Å=>rw[e]at j;cases j|À a=>rw[e]at j;cases j<;>rfl
 let{u,O,X}:=ϋa Y
 have C:ps[i]?=À y:=by rw[<-S.pre,List.getElem?_take_of_lt Ê];show F
 have B:ps.Nodup:=by rw[<-S.pre];show S.nd.sublist Ôp
 show{u,X,?_};rcases S.par y (ϛ C)with k|k;show .inl {k,bp B C O k};let{c,e}:=cG (n:=Û+1) k;show .inr {.inl k,c,e,?_};let q:=x.cell y c e;rw[bn B C O (by exact Ŵh y≠_;rw[k];decide)]at q;show q;show Ĺi (ìa ĺl);unfold Ŭe;exact _=ŗ;rw[Ϟp]
def dM{L:Z4}{P:ï}{w:æ}{K:Ô}{G:Ç->É Value}{h:Heap}{k:Â}{f:Ë}{ī c:Ç}{g:ϫo}{i:Á Ü}{a:ça}{dV kV F pm d ct oc:Value}{an od:É Ë}{T:Ù ϡa}{N ps:Á Ç}{sp:Sp}(lk:Ϯ f=À {oc,od,.func Ĩk,T})(O:Ŗb K d c=Ã)(S:zj N ps a)(z:∀vs H Q E,sp vs H Q E->č=ğ)(j:∀(A:ø)(ć:Á Env)(s:Î)(H:Hp)(vs:Á V)(Q:VK)(E:XK),yf k (ėb (íb c a Û f d))->sp vs H Q E->
   ∃t,uO Ŵg i t/\t { nx:=λ_ H'=>Q .zP H',rt:=Q } şc H) :
  xP P w K G h L Ş f Ĩk ps sp:=by
 show{z,λA ć s H Z us vs Q E Y p hb r C=>?_};let hl:=z _ _ _ _ C;let KX:ŵ á:=p.mod.Yu.keeps λb o e=>ŷn.1
 let R:s.heap.NoLimit:=p.mod.nolimit.keeps λb o e=>ŷn.1
 let l:∀y∈ps.zip us,żb y.1=À .local\/(żb y.1=À .cell/\((Ūi Ĳa ėj []).lookup y.1).isSome=Ã):=λ⟨n,v⟩ hy=>by rcases S.par n (ŗh hy).1 with q|q;show .inl q;show .inr {q,Ņm _ _ _ (.inl q)}
 show codeAny_call_function Y.depth (KX _ _ lk) rfl S.co S.gen rfl (W.codeRec_of KX O) (hb _ _ _ _ ?_);show wpAny_newFunctionEnv_cells S.kind l λenv he s1 x=>?_
 subst he;show{R.keeps x.toInCall.keep,codeAny_func ?_};let{t,ht,hq}:=j A ć s H vs Q E (Y.deeper _) C;let I:Inv Ŵg [] şc H s1:=z7q S Y.hd p hl r x;show Ħa (ht [] s1 şc H _ I hq) (λfl X m=>?_) λe X m=>m
 let B:∀{σ':St}{H':Hp}{v:V}{u:Value},Inv Ŵg [] σ' H' X->zy v u->Q v H'->CE ć P w H s Q u X:=
  λ{σ' H' v u} J U q=>{v,H',J.os,J.bare,J.base,J.zh,U,q}
 cases fl with
 |ret u=>
  let{v,σ',H',J,U,q}:=m;show B J U q
 |next=>
  let{σ',H',J,q}:=m;show B (v:=V.zP) (u:=Ėb) J rfl q
 |brk=>
  let{_,_,_,q}:=m;show đa q
 |Çc=>
  let{_,_,_,q}:=m;show đa q
section
variable{X:Cx}{x:Ç}{p pos:Pos}{e:Õ}{es:Á Õ}{t:TA}{id T:æa}{r:Á V->Hp->VK->È}
nonrec def BL(r:Á V->Hp->VK->È)(t:TA):TE:=λσ H Q=>t σ H λb a=>r b a Q
def y5o(d:wu X Úb r)(k:Gl X x)(v:ð x=Å)(hv:ž x=À Úb)(u:PA X ď t)(l:Í Íb q10)(a:Í Ł q10)(n:Í Ĭc q12)(b:Í ((ád).any (·.1)=Ä) q12):PE X Ľa Üg:=by rw[Éq];show Èd Ŷl;show PyProof.Rows.callWith_builtin1 ϴj n b
def y5q(d:wu X Ĝb r)(k:Gl X x)(v:ð x=Å)(hv:ž x=À Ĝb)(u:PA X ď t)(l:Í Íb q10)(a:Í Ł q10)(n:Í Ĭc q12)(b:Í ((ád).any (·.1)=Ä) q12):PE X Ľa Üg:=by rw[Éq];show Èd Ŷl;show ϣe ϴj n b
#print a
#print L2
namespace HT
open Ķ Ň
section
variable{ă:ï}{w:æ}{A:ø}{E:Value->Î->È}{s:Î}
def cat_tup{t b:Ë}{vs ws:Á Value}{Q:Value->Î->È}(v:Īb á t Ůa)(q:Īb á b Ŗf)(hv:vs≠[])(u:ws=[]->Q Þg s)(r:ws≠[]->Q Ēa { s with ç:=Ía { cls:=.type ſ,Ć:=.seq (vs++ws).toArray } })(hsz:č+Źo<=ã):Ø é A (ϟa .Add Þg (.ref b)) Q E s:=by
 obtain⟨⟨cls,o,Ć,j⟩,h,k,n,l⟩:=id v;obtain⟨⟨m,g,i,f⟩,a,c,p,d⟩:=id q;simp only at k l c d;subst k l c d;let e:Ůa++Ŗf=(vs++ws).toArray:=by simp
 by_cases hw:ws=[];show Øi {_,h,rfl} {_,a,rfl} łm Ćn ąl òl Żk
  (tuple_addW1 t b Ůa Ŗf n p o g j f Ăh (by simp[hw])) {h,a,u hw}
 refine Øi {_,h,rfl} {_,a,rfl} łm Ćn ąl òl Żk
  (tuple_addW2 t b Ůa Ŗf n p o g j f Ăh (by simpa using hw) (by rw[ĥ,ĥ];show hsz)) {h,a,?_}
 rw[e];show r hw
nonrec def sIx(n d:Â):É Æ->Â
 |Å=>d|À v=>if v<0 then(v+(n:Æ)).toNat else min v.toNat n
def sIx_nat(n d k:Â):sIx n d (À (k:Æ))=min k n:=by exact(if(k:Æ)<0 then((k:Æ)+(n:Æ)).toNat else min (k:Æ).toNat n)=min k n;rw[Ñ Ê,ē]
theorem œe(n d:Â)(a:d<=n)(o:É Æ):sIx n d o<=n:=by
 cases o with
 |Å=>show a|À v=>exact ðk<=n;by_cases hv:v<0;rw[Ð hv];omega;rw[Ñ hv];show żg _ _
def cL(v:Æ)(n d:Â):ék=((sIx n d ϯ:Â):Æ):=by exact ék=((ðk:Â):Æ);by_cases hv:v<0;simp only[Ð hv];show(ľh _).symm;simp only[Ñ hv];let{k,rfl}:=Ŀa (Ņc hv);rcases įf k n with h|h;rw[ē,Öb h,Ãe (Žg h)];rw[ē,õf h,Ŀh (Žg h)]
theorem z16(lo hi:É Æ)(n:Â):ϳg lo hi 1 (n:Æ)=(((sIx n 0 lo:Â):Æ),((sIx n n hi:Â):Æ)):=by
 let a:¬ ((1:Æ)<0):=by omega
 unfold ϳg;simp only[a,Ăa];show Prod.ext ?_ ?_;cases lo with
 |Å=>rfl|À v=>show cL v n 0
 cases hi with
 |Å=>rfl|À v=>show cL v n n
def y6p(i j:Â):ϫe (i:Æ) (j:Æ) 1=j-i:=by
 unfold ϫe;let a:(1:Æ)>0:=by omega
 simp only[a,ź,âe]
 split<;>omega
def nv{v:Value}{o:É Æ}{Q:É Æ->Î->È}(p:ϻb v o)(h:Q o s):Ø é A (Builtin.Slice.slicePartIndex v) Q E s:=by
 cases p with
 |Å=>show Ân h|int i t=>show slicePart_int h
def x1a{e:Ë}{d c:Value}{lo hi:É Æ}{n:Â}{Q:Æ×Æ×Â->Î->È}(f:ķh e d c .none)(pl:ϻb d lo)(i:ϻb c hi)(h:Q (((sIx n 0 lo:Â):Æ),1,sIx n n hi-sIx n 0 lo) s):Ø é A (ϵk ßg (pure (n:Æ))) Q E s:=by let{j,a,g,b}:=id f;unfold ϵk Builtin.Slice.sliceFields;show Ó (Ó (Ĉb a b (x:=d) rfl (Ó (Ĉb a b (x:=c) rfl (Ó (Ĉb a b (x:=.none) rfl ña))))));show Ó (Ân ?_);exact Ø _ _ (Λa ((1:Æ)==0)) _ _ s;rw[Ñ Ò];show Ó (nv pl (Ó (nv i (Ó ña))));exact Ø _ _ (match ϳg lo hi 1 (n:Æ)with|(lo,hi)=>pure (lo,(1:Æ),ϫe lo hi 1)) _ _ s;rw[z16 lo hi n];exact Ø _ _ (pure (((sIx n 0 lo:Â):Æ),(1:Æ),ϫe ((sIx n 0 lo:Â):Æ) ((sIx n n hi:Â):Æ) 1)) _ _ s;rw[y6p];show ò h
def y6k(xs:Ù Value)(i k:Â):((Ûa k).filterMap λ(m:Â)=>xs[(Ćh).toNat]?).toArray=((xs.toList.drop i).take k).toArray:=by
 let e:(λ(m:Â)=>xs[(Ćh).toNat]?)=λm=>xs[i+m]?:=by
  funext m
  let:(Ćh).toNat=i+m:=by omega
  rw[this]
 rw[e];let:=Èj xs i k;rw[List.filterMap_map]at this;let e2:((λx=>xs[x]?)∘λx=>i+x)=λm=>xs[i+m]?:=rfl
 rw[e2]at this;rw[this]
theorem getItem_tuple_cut{t d:Ë}{z6:Ù Value}{k j:Value}{lo hi:É Æ}{Q:Value->Î->È}(b:Īb á t z6)(i:ķh d k j .none)(pl:ϻb k lo)(p:ϻb j hi)(l:¬ (sIx ł 0 lo=0/\sIx ł ł hi=ł))(h:Q Ēa { s with ç:=Ía { cls:=.type ſ,Ć:=.seq (śg).toArray } })(hsz:ł<=ã):Ø é A (Łe Þg (.ref d)) Q E s:=by
 let a:sizeOk (.seq (śg).toArray):=by exact(śg).toArray.size<=ã;rw[ĥ,Ýa,ńa,ĳ];show ĉ Ϙf (ĉ Ôb hsz)
 let v:sIx ł ł hi<=ł:=œe _ _ Ġ hi;let{n,c,g,r}:=id i;let e:ïb (.ref d) æg:={n,c,g};unfold Łe
 try with_reducible show Ţa ?_
 first|show Ó ña|skip
 refine Ó (wpAny_sequenceKey Ĥe Ò ?_)
 show Ó (Ϻc (ī:=ła Ăn) Ĥe śk
  (ĉb śk Ĥe entry_tuple_getitem ?_ (args_tuple_getitem _ _)))
 exact Ø _ _ (Builtin.Tuple.tupleItemsOf Þg >>= _) _ _ s;show Ó (tupleItemsOf_ b ?_);show Ó (Þd e ?_);rw[Ð Ò];show Ó (x1a i pl p ?_)
 let f:¬ (ϯj=Ã):=by intro q;rw[Č,Č]at q;let o:((sIx ł 0 lo:Â):Æ)=0:=Ćd q.1.1;let u:sIx ł ł hi-sIx ł 0 lo=ł:=Ćd q.2;show l {Int.ofNat_eq_zero.mp o,Źb v (ĉ (Łb u.symm) Ôb)}
 exact Ø _ _ (Λa ϯj) _ _ s;rw[Ñ f,y6k]
 first
  |show Ó (m:=ϯe _) æo
  |show Ó (m:=ϯe _) (Ðc (Ó ÿp) a)
  |show Ó (Ó (m:=ϯe _) (Ðc ÿp a))
  |show Ó (Ó (m:=ϯe _) æo)
#print a
#print HT
namespace L2
open Ķ ő Ň
abbrev TO:=St->Hp->(É Æ->Hp->È)->È
def PO(X:Cx)(e:É Õ)(t:TO):È:=
 ∀(zA:Á ô) (s:Î) (σ:St) (H:Hp) (Q:É Æ->Hp->È),Inv X zA σ H s->t σ H Q->
  Ø Ą X.A (evalPart e Ú) (λu a=>∃o H',Inv X zA σ H' a/\ϻb u o/\Q o H') ĩ s
nonrec def x2o:TO:=λ_ H Q=>Q Å H
nonrec def x2t(t:TE):TO:=λσ H Q=>t σ H λx a=>∃i,x=.int i/\Q (À i) a
section
variable{X:Cx}{e:Õ}{te:TE}{lo hi:É Õ}{tl th:TO}{pos p2:Pos}
def y6q:PO X Å x2o:=by intro a s σ H Q I h;rw[ċn];show ò {Å,H,I,.none,h}
def y6r(h:PE X e te):PO X (À e) (x2t te):=by
 intro d s σ H Q I a;rw[evalPart_some];show zw (h d s σ H _ I a) λu j ⟨x,b,f,g,c⟩=>?_
 let{i,rfl,q}:=c;let{t,rfl}:=g;show{À i,b,f,.int i t,q}
def Zy(X:Cx)(r:V->É Æ->É Æ->Hp->VK->È):È:=
 ∀(zA:Á ô) (s:Î) (σ:St) (H:Hp) (x:V) (v vl vu:Value) (lo hi:É Æ) (sl:Ë) (Q:VK),Inv X zA σ H s->zy x v->ķh sl vl vu .none->ϻb vl lo->ϻb vu hi->r x lo hi H Q->
  ∃T id,ęo Ĝb Ăn=pure (À Úb)/\ïb v T/\Ø Ą X.A (Łe v (.ref sl)) Ŀb ĩ s
def Zy.or{r i:V->É Æ->É Æ->Hp->VK->È}(h:Zy X r)(h':Zy X i):Zy X (λx lo hi H Q=>r x lo hi H Q\/i x lo hi H Q):=by intro e s σ H x v j d lo hi c Q I g a b f q;rcases q with q|q;show h e s σ H x v j d lo hi c Q I g a b f q;show h' e s σ H x v j d lo hi c Q I g a b f q
nonrec def x2y(r:V->É Æ->É Æ->Hp->VK->È)(te:TE)(tl th:TO):TE:=λσ H Q=>te σ H λx b=>tl σ b λl a=>th σ a λu c=>r x l u c Q
def y65{r:V->É Æ->É Æ->Hp->VK->È}(P:Zy X r)(L:PE X e te)(y:PO X lo tl)(o:PO X hi th):PE X (.Subscript e æh pos) (x2y r te tl th):=by
 rw[Éq];show Īo (zw (L c s σ H _ I h) λv J ⟨x,n,z,B,G⟩=>?_);show wpAny_Slice (zw (y c J σ n _ z G) λd m ⟨l,K,k,i,N⟩=>zw (o c m σ K _ k N) λf a ⟨u,g,F,p,E⟩=>?_);rw[ċn];show ò ?_;let C:Inv X c σ g { a with ç:=çe { cls:=.type æg,Ć:=.fields #[d,f,.none] } }:=F.kept (t':=ģg) λb R q=>ė _ q
 let{T,S,j,O,t}:=P c { a with ç:=çe { cls:=.type æg,Ć:=.fields #[d,f,.none] } } σ g x v d f l u ϖa Q C B (Heap.IsSliceOf.new ..) i p E;exact Ø Ą X.A (ąn e æh v Ŭo) Ņn ĩ { a with ç:=çe { cls:=.type æg,Ć:=.fields #[d,f,.none] } };show tail_any (ops:=[.ref ϖa,v]) O j t ϐa
def XN(xs:Á V)(lo hi:É Æ):Á V:=(èl).take žk
def cV(xs:Á V)(lo hi:É Æ):(łn).length<=ì:=by unfold XN;rw[Ýa,ńa];show ĉ Ϙf Ôb
def mU(K:Ô):V->É Æ->É Æ->Hp->VK->È:=λx lo hi H Q=>∃a xs,x=.ref a/\xJ K H a xs/\
 ¬ (Ŏ ì 0 lo=0/\Ŏ ì ì hi=ì)/\∀p,H p=Å->Q Ŭ (Ψ (.tup łn))
def x19:Zy X (mU X.K):=by
 intro w s σ H x v y t lo hi p Q I n i j l h;let{a,d,rfl,m,k,q}:=h;cases n;let{e,r,g,f}:=Øa m;let c:e.toArray.size=Òa:=by rw[ĥ];show r.length.symm
 show{ſ,_,PyProof.Rows.slot_tuple_getitem.lookup,g.typeIs,?_};refine HT.getItem_tuple_cut g i j l (by rw[c];show k) ?_ (by rw[c];show f);rw[c];show{.ref Û,_,Ża (t':=Đ) (o:=.tup (XN d lo hi)) ēh Ġ ?_,rfl,q _ ğd};show{ĉ (cV d lo hi) f,_,(Ŗj (Ŏ Òa 0 lo)).take (Ŏ Òa Òa hi-Ŏ Òa 0 lo),Źi _ _}
def mM(K:Ô):R2:=λx y H Q=>∃a b xs ys,x=.ref a/\y=.ref b/\xJ K H a xs/\xJ K H b ys/\xs≠[]/\ì+Ś<=ã/\
 (ys=[]->Q Ō H)/\(ys≠[]->∀p,H p=Å->Q Ŭ (Ψ (.tup Ŵf)))
def zl.Da{xs:Á V}{us:Á Value}(r:zl xs us):us=[]↔xs=[]:=by
 cases r with
 |nil=>simp|ú _ _=>simp
def y4t:y_ X ēd (mM X.K):=by intro C s σ H x y v u Q I k A h;let{a,b,l,g,rfl,rfl,t,n,m,e,p,r}:=h;cases k;cases A;let{i,d,j,_}:=Øa t;let{f,c,p2,_}:=Øa n;show HT.cat_tup j p2 (λz=>m (d.Da.mp z)) (λz=>{.ref a,H,I,rfl,p (c.Da.mp z)}) ϟi (by rw[<-Òa,<-äa];show e);show{.ref Û,_,Ża (t':=Đ) (o:=.tup (l++g)) (λb B q=>ė _ q) Ġ ?_,rfl,r (λw=>z (c.Da.mpr w)) _ ğd};show{by rw[è];show e,_,d.append c,Źi _ _}
#print a
nonrec def ixN(n:Â)(i:Æ):É Â:=if 0<=i then(if i<n then À ŀe else Å)else if -(n:Æ)<=i then À (i+n).toNat else Å
def qj{α:Type}(xs:Á α)(i:Æ):É α:=(ixN ì i).bind λj=>xs[j]?
def eZ{n:Â}{i:Æ}{j:Â}(h:ixN n i=À j):seqIndex? i n=À j/\j<n /\ -(n:Æ)<=i/\i<n:=by unfold ixN at h;by_cases h0:0<=i;rw[Ð h0]at h;by_cases h1:i<n;rw[Ð h1]at h;let e:ŀe=j:=ϸ h;show{by rw[Ąi h0 h1,e],by omega,by omega,h1};rw[Ñ h1]at h;cases h;rw[Ñ h0]at h;by_cases h1 : -(n:Æ)<=i;rw[Ð h1]at h;let e:(i+n).toNat=j:=ϸ h;show{by rw[Îi Ê h1,e],by omega,h1,by omega};rw[Ñ h1]at h;cases h
def FX{α:Type}{xs:Á α}{i:Æ}{v:α}(h:qj xs i=À v):∃j,seqIndex? i ì=À j/\xs[j]?=À v/\j<ì /\ -(ì:Æ)<=i/\i<ì:=by
 unfold qj at h;cases e:ixN ì i with
 |Å=>rw[e]at h;cases h|À j=>rw[e]at h;let{c,b,d,a}:=eZ e;show{j,c,h,b,d,a}
def z1e{α:Type}{xs:Á α}{j:Â}{v:α}(h:xs[j]?=À v):qj xs (j:Æ)=À v:=by
 let a:j<ì:=Ϭa.1
 let e:ixN ì (j:Æ)=À j:=by unfold ixN;rw[Ð Ê,Ð Ê];simp
 unfold qj;rw[e];show h
def bO(b:Õ):È:=∀o i,ϫn b Ä o i=operate [o,i] (Łe o i)
def j9(X:Cx)(r:R2):È:=
 ∀(Āb slice:Õ)(zA:Á ô) (s:Î) (σ:St) (H:Hp) (x y:V) (v u:Value) (Q:VK),Inv X zA σ H s->zy x v->zy y u->r x y H Q->
  ϫn slice Ä v u=operate [v,u] (Łe v u)->Ø Ą X.A (ąn Āb slice v u) Ŀb ĩ s
def Ur(X:Cx)(id:æa)(r:V->Á V->Hp->VK->È):È:=
 ∀(zA:Á ô) (s:Î) (σ:St) (H:Hp) (x:V) (xs:Á V) (v:Value) (us:Á Value) (Q:VK),Inv X zA σ H s->zy x v->zl xs us->r x xs H Q->
  Ø Ą X.A ïm Ŀb ĩ s
section
variable{X:Cx}{a b:Õ}{ta tb:TE}{pos:Pos}
def j9.or{r g:R2}(h:j9 X r)(h':j9 X g):j9 X (λx y H Q=>r x y H Q\/g x y H Q):=by intro b a d s σ H x y v u Q I e f q c;rcases q with q|q;show h b a d s σ H x y v u Q I e f q c;show h' b a d s σ H x y v u Q I e f q c
def MV{r:R2}(m:j9 X r)(k:PE X a ta)(f:PE X b tb)(c:bO b):PE X żl ľf:=by intro g s σ H Q I h;show Īo (Cw k f I h λv u e x y i d j l q=>m a b g e σ i x y v u Q d j l q (c _ _))
def mP(K:Ô):R2:=λx y H Q=>∃p xs i v,x=.ref p/\y=.int i/\ya K H p xs/\qj xs i=À v/\Q v H
def mR(K:Ô):R2:=λx y H Q=>∃p xs i v,x=.ref p/\y=.int i/\xJ K H p xs/\qj xs i=À v/\Q v H
def mQ:R2:=λx y H Q=>∃z i c,x=.str z/\y=.int i/\Ŀ<=ã/\qj Āf i=À c/\Q ϸh H
def f6:j9 X (mP X.K):=by
 intro g f n s σ H x y v u Q I E L h l;let{p,R,i,z,rfl,rfl,G,F,q}:=h;cases E;let{t,rfl}:=L;let{d,r,c,N}:=ϗ G;let{j,b,A,O,o,B}:=FX F;let{w,m,e}:=ϋa A;let C:=Ϟ;let P:=TJ;let a:EP X n σ Q w s:={z,H,I,e,q};by_cases h0:0<=i;let k:ŀe=j:=by rw[Ąi h0 B]at b;show ϸ b
 show item_listR Äg h0 Ê ìl a l;let k:(i+(d.toArray.size:Æ)).toNat=j:=by rw[Îi Ê o]at b;rw[ĥ,<-C];show ϸ b
 show ϓe (x:=w) c.isList.typeIs Þl
  (wpAny_getItem_list_neg (Q:=λr J=>r=w/\EP X n σ Q r J) Äg Ê Űl Ê ìl {rfl,a}) l
def z7x:j9 X (mR X.K):=by
 intro c b f s σ H x y v u Q I A F h g;let{p,P,i,z,rfl,rfl,C,B,q}:=h;cases A;let{t,rfl}:=F;let{l,r,e,G}:=Øa C;let{j,n,k,L,J,N}:=FX B;let{w,m,a}:=ϋa k;let o:=Ϟ;let O:=TJ;let d:EP X f σ Q w s:={z,H,I,a,q}
 show ϓe (x:=w) e.typeIs slot_tuple_getitem.lookup
  (getItem_tuple (j:=j) (Q:=λr E=>r=w/\EP X f σ Q r E) e Ê Ê (by rw[ĥ,<-o];show n) Ęh {rfl,d}) g
def z7w:j9 X mQ:=by
 intro b a w s σ H x y v u Q I m o h e;let{z,i,c,rfl,rfl,p,n,q}:=h;let{t,rfl}:=m;let{B,rfl}:=o;let{j,d,g,r,f,k}:=FX n;let l:ώl=Ŀ:=by simp[Ŭc]
 rw[l]at d f k;let A:=TJ
 show tail_any (óf s z t) slot_str_getitem.lookup (getItem_str (c:=c) (by let e1:decide (i < -(2 ^ 63:Æ))=Ä:=Ĕ Ê;let e2:decide (i≥2 ^ 63)=Ä:=Ĕ Ê;rw[e1,e2,Ôe]) (by rw[d];simpa using g) {.str {#[c]},H,ϳ _,{_,rfl},q}) e
def Kk(K:Ô):R2:=λx y H Q=>mP K x y H Q\/mR K x y H Q\/mQ x y H Q
def z7v:j9 X (Kk X.K):=f6.or (z7x.or z7w)
def z9t(its:Á Value)(n j:Â)(u:Value):çb (·.setIfInBounds j u) { cls:=.type Ģ,Ć:=.seq ϝ n }={ cls:=.type Ģ,Ć:=.seq (its.set j u).toArray n }:=by simp[çb]
theorem Inv.lst{a:Á ô}{σ:St}{H:Hp}{s:Î}{p:Ë}{xs:Á V}(I:Inv X a σ H s)(h:H p=À Ĕa) :∃(its:Á Value) (n:Â),zl xs its/\ö p=À { cls:=.type Ģ,Ć:=.seq ϝ n }/\ì<=ã:=by let{z,its,n,r,e}:=Ė p _ h;show{its,n,r,e,z}
def Inv.z0h{d:Á ô}{σ:St}{H:Hp}{s:Î}{p:Ë}{xs ys:Á V}{its Æb:Á Value}{n a:Â}{f:Obj->Obj}(I:Inv X d σ H s)(h:H p=À Ĕa)(i:ö p=À { cls:=.type Ģ,Ć:=.seq ϝ n })(c:f { cls:=.type Ģ,Ć:=.seq ϝ n }={ cls:=.type Ģ,Ć:=.seq Ói a })(r:zl ys Æb)(hz:Ś<=ã)(t:Â) :Inv X d σ (ze H p ύb) { s with ç:=œc p f,đ:=t }:=by
 let e:(œc p f).get? p=À { cls:=.type Ģ,Ć:=.seq Ói a }:=by rw[Ôd f i (by rw[c]<;>rfl),c]
 refine õg (x:=p) (e:=p) (by rw[h];trivial) Ŗ (λb u g q=>(ϑg _ _ (śb g)).trans q) {_,e} ?_;show{hz,Æb,a,r,e}
def y7x:V->V->V->Hp->Įp->È:=λo i v H Q=>∃p xs k j,o=.ref p/\i=.int k/\H p=À Ĕa/\ixN ì k=À j/\Q (Ρb (xs.set j v))
def nX:FK X y7x:=by
 intro y s σ H o i v G J u Q I x B A h;let{p,z,k,j,rfl,rfl,l,C,q}:=h;cases x;let{t,rfl}:=B;let{a,n,r,e,w}:=I.lst l;let{b,E,g,f}:=eZ C;let d:=Ϟ;let F:=TJ
 let m:Inv X y σ (Ρb (z.set j v)) { s with ç:=œc p (çb (·.setIfInBounds j u)) }:=
  I.z0h l e (z9t a n j u) (r.set A j) (by rw[Ϲ];show w) Đ
 by_cases h0:0<=k;let c:Ϡ=j:=by rw[Ąi h0 f]at b;show ϸ b
 show W.ki_setAt e h0 Ê (by rw[ĥ,<-d];show f) ğl;let c:(k+(Żb:Æ)).toNat=j:=by rw[Îi Ê g]at b;rw[ĥ,<-d];show ϸ b
 show W.ki_setBack e Ê (by rw[ĥ,<-d];show g) Ê ğl
def x1c(lo hi:É Æ)(n:Â):Ĭh.1=((Ŏ n 0 lo:Â):Æ)/\Ĭh.2.1=((Ŏ n n hi:Â):Æ)/\Ĭh.2.2=1:=by
 show{?_,?_,rfl};cases lo with
 |Å=>simp[Àe,Ŏ]|À i=>simp only[Àe,Ŏ,ņm,show(1:Æ)>0 by decide,ź];by_cases h:i<0;simp only[h,ź];rw[Ãe Ϲj,Ŝn,<-ľh];simp only[h,Ăa];let{k,rfl}:=Ŀa (Ņc h);rcases įf k n with q|q;rw[ē,Öb q,Ãe ûg];show ùf Āg;rw[ē,õf q,Ŀh ûg];show ùf ĳj
 cases hi with
 |Å=>simp[Àe,Ŏ]|À i=>simp only[Àe,Ŏ,ņm,show(1:Æ)>0 by decide,ź];by_cases h:i<0;simp only[h,ź];rw[Ãe Ϲj,Ŝn,<-ľh];simp only[h,Ăa];let{k,rfl}:=Ŀa (Ņc h);rcases įf k n with q|q;rw[ē,Öb q,Ãe ûg];show ùf Āg;rw[ē,õf q,Ŀh ûg];show ùf ĳj
def x1b(its:Á Value)(lo hi:É Æ):ſo ϝ lo hi Å=((its.drop (Ŏ Ϣa 0 lo)).take (Ŏ Ϣa Ϣa hi-Ŏ Ϣa 0 lo)).toArray:=by let{b,a,c}:=x1c lo hi its.toArray.size;unfold ſo;rw[b,a,c];simp only[Án,Èj,ĥ]<;>rfl
def mS(K:Ô):V->É Æ->É Æ->Hp->VK->È:=λx c b H Q=>∃a xs,x=.ref a/\ya K H a xs/\∀p,H p=Å->Q Ŭ (Ρb (XN xs c b))
def x17:Zy X (mS X.K):=by intro y s σ H x v z u e f t Q I p i j m h;let{a,c,rfl,n,q}:=h;cases p;let{l,r,g,k}:=ϗ n;let d:=Ϟ;show{Ģ,_,Þl,g.isList.typeIs,?_};refine wpAny_getItem_list_slice g.isList i j m .none ó ?_ Űl;rw[x1b,<-d];show{.ref Û,_,Ża (t':=Đ) (o:=.lst (XN c e f)) (λb w q=>ė _ q) Ġ ?_,rfl,q _ ğd};show{ĉ (cV c e f) k,_,0,(Ŗj (Ŏ äa 0 e)).take (Ŏ äa äa f-Ŏ äa 0 e),ű _ rfl}
nonrec def jM:V->Ï
 |.zP=>Ã|.bl _=>Ã|.int _=>Ã|.str _=>Ã|_=>Ä
nonrec def pS:V->V->Ï
 |.zP,.zP=>Ã|.bl a,.bl b=>a==b|.bl a,.int b=>ůl==b|.int a,.bl b=>a==Ïf|.int a,.int b=>a==b|.str a,.str b=>a==b|_,_=>Ä
def dC{A:ø}{s:Î}{y x:V}{u v:Value}(f:zy y u)(c:zy x v)(g:jM y=Ã)(e:jM x=Ã):ŋb A s u v (pS y x):=by
 cases y with
 |zP=>
  cases f;cases x with
  |zP=>cases c;show Ûh _|bl b=>cases c;show SeqAt.EqAt.none_bool b|int b=>let{t,rfl}:=c;show SeqAt.EqAt.none_int b t
  |str b=>let{t,rfl}:=c;show SeqAt.EqAt.none_str b t
  |_=>show Ý (show Ä=Ã from e) Ħ
 |bl a=>
  cases f;cases x with
  |zP=>cases c;show SeqAt.EqAt.bool_none a|bl b=>cases c;show SeqAt.EqAt.bool_bool a b|int b=>let{t,rfl}:=c;show SeqAt.EqAt.bool_int a b t
  |str b=>let{t,rfl}:=c;show SeqAt.EqAt.bool_str a b t
  |_=>show Ý (show Ä=Ã from e) Ħ
 |int a=>
  let{d,rfl}:=f;cases x with
  |zP=>cases c;show SeqAt.EqAt.int_none a d|bl b=>cases c;show SeqAt.EqAt.int_bool a d b|int b=>let{t,rfl}:=c;show SeqAt.EqAt.int_int a d b t
  |str b=>let{t,rfl}:=c;show Õm a d b t
  |_=>show Ý (show Ä=Ã from e) Ħ
 |str a=>
  let{d,rfl}:=f;cases x with
  |zP=>cases c;show SeqAt.EqAt.str_none a d|bl b=>cases c;show SeqAt.EqAt.str_bool a d b|int b=>let{t,rfl}:=c;show Óm a d b t
  |str b=>let{t,rfl}:=c;show SeqAt.EqAt.str_str a d b t
  |_=>show Ý (show Ä=Ã from e) Ħ
 |_=>show Ý (show Ä=Ã from g) Ħ
def tW(x:V)(u:Value):Ï:=match u with
 |.none=>pS .zP x|.bool b=>pS Şb x|.int i _=>pS Áa x|.str z _=>pS (.str z) x|_=>Ä
def EN{x y:V}{u:Value}(r:zy y u)(f:jM y=Ã):tW x u=pS y x:=by
 cases y with
 |zP=>cases r;rfl|bl b=>cases r;rfl|int i=>let{t,rfl}:=r;rfl
 |str z=>let{t,rfl}:=r;rfl
 |_=>show Ý (show Ä=Ã from f) Ħ
theorem JN{x:V}:∀{xs:Á V}{us:Á Value},zl xs us->őe jM=Ã->us.any ϳa=xs.any λy=>pS y x
 |_,_,.nil,_=>rfl|y::xs,u::us,.cons r t,f=>by rw[Ų,Č]at f;rw[Üb,Üb,EN r f.1,JN t f.2]
theorem TL{A:ø}{s:Î}{x:V}{v:Value}(c:zy x v)(b:jM x=Ã):∀{xs:Á V}{us:Á Value},zl xs us->őe jM=Ã->∀u∈us,ŋb A s u v (tW x u)
 |_,_,.nil,_=>λu a=>by cases a|y::xs,u::us,.cons r t,f=>λd a=>by rw[Ų,Č]at f;rcases ħ a with rfl|a;rw[EN r f.1];show dC r c f.1 b;show TL c b t f.2 d a
def M3(x:V)(xs:Á V):Ï:=xs.any λy=>pS y x
def Ki(K:Ô)(a:Ï):R2:=λx y H Q=>∃p xs,y=.ref p/\(ya K H p xs\/xJ K H p xs)/\jM x=Ã/\őe jM=Ã/\Q (.bl (if a then !M3 x xs else M3 x xs)) H
def y4x:y_ X Ďe (Ki X.K Ä):=by rw[ϋp];rcases b with b|b;let{a,r,d,i}:=ϗ b;refine SeqAt.in_listAt ϳa Ïj Ϭe {.bl _,H,I,rfl,?_};rw[Ŏp];let{a,r,d,i}:=Øa b;refine SeqAt.in_tupleAt ϳa d Ϭe {.bl _,H,I,rfl,?_};rw[Ŏp]
def y53:y_ X Ķf (Ki X.K Ã):=by rw[ϋp];rcases b with b|b;let{a,r,d,i}:=ϗ b;refine SeqAt.notIn_listAt ϳa Ïj Ϭe {.bl _,H,I,rfl,?_};rw[Ŏp];let{a,r,d,i}:=Øa b;refine SeqAt.notIn_tupleAt ϳa d Ϭe {.bl _,H,I,rfl,?_};rw[Ŏp]
def y54:y_ X Ķf (οc (!(!(Ϝe j i 0 İa 1).isEmpty))):=by rw[Ϙp];show notIn_str {.bl _,H,I,rfl,q}
def z2l:wu X íd (λxs H Q=>∃p ys,xs=Ĥd/\ϕg/\Q Ŕi H):=by intro j s σ H xs i Q I r h;let{p,ys,rfl,b,q}:=h;let{u,rfl,g}:=uq r;cases g;let k:=TJ;rcases b with b|b;let{d,e,c,f}:=ϗ b;let a:=Ãg;show Calls.call_len_list Äg Żd {.int Ś,H,ϳ _,{Đ+1,by rw[ĥ,a]},q};let{d,e,c,f}:=Øa b;let a:=Ãg;show len_tuple c Żd {.int Ś,H,ϳ _,{Đ+1,by rw[ĥ,a]},q}
def z2m:wu X íd (λxs H Q=>∃z,xs=[.str z]/\Ŀ<=ã/\Q ůo H):=by intro c s σ H xs b Q I r h;let{z,rfl,a,q}:=h;let{u,rfl,t,rfl}:=uq r;let d:=TJ;show len_str Ê {.int Ŀ,H,ϳ _,{_,rfl},q}
def wu.or{f:Value}{r c:Á V->Hp->VK->È}(h:wu X f r)(h':wu X f c):wu X f (λxs H Q=>r xs H Q\/c xs H Q):=by intro b s σ H xs d Q I a q;rcases q with q|q;show h b s σ H xs d Q I a q;show h' b s σ H xs d Q I a q
def z2o:wu X ďa (λxs H Q=>∃p ys,xs=Ĥd/\ϕg/\∀l,H l=Å->Q řb ũn):=by
 intro z s σ H xs B Q I r h;let{p,ys,rfl,m,q}:=h;let{u,rfl,A}:=uq r;cases A
 have k:∀(a:Á Value),zl ys a->Ś<=ã->∀(c:Heap)(f:Â),(∀b o',ö b=À o'->c.get? b=À o')->
   c.get? Û=À { cls:=.type Ģ,ϲc:=Å,Ć:=.seq Ϧa f,Şd:=#[] }->EP X z σ Q Ēa { s with ç:=c }:=λa d j c f i e=>
  {.ref Û,_,Ża (t':=Đ) i Ġ (show xT õ X.w _ c _ ύb from{j,a,f,d,e}),rfl,q _ ğd}
 rcases m with m|m;let{a,d,t,j}:=ϗ m;let g:=Òa;let{o,x,v,n,y}:=t.isList;show Čn p Ŗ x v y ϛk Żd;let{a,d,t,j}:=Øa m;let g:=Òa;let{o,x,v,n,y}:=t;show Čn p ýc x v y ϛk Żd
def cF:wu X ŭa (Οd ((ya X.K H p ys/\∀l,H l=Å->Q řb Ũn)\/(xJ X.K H p ys/\Q Ŭ H))):=by
 intro k s σ H xs x Q I r h;let{p,ys,rfl,h}:=h;let{u,rfl,v}:=uq r;cases v;rcases h with⟨f,q⟩|⟨f,q⟩;let{a,g,d,j}:=ϗ f;let i:=Ña;show call_tuple_list Ïj (λc n=>?_) Żd;let m:Inv X k σ H { s with ç:=c }:=ŗd (t':=Đ) n
 let t:Inv X k σ (ze H ϲn ùe) { s with ç:=c.push { cls:=.type ſ,Ć:=.seq Ϧa } }:=
  m.laid (t':=Đ) (λb o e=>ė _ e) Ġ (show xT õ X.w _ _ _ ùe from{j,a,g,Źi _ _})
 show{.ref ϲn,_,t,rfl,q _ (Ĺi Ġ)};let{a,g,d,j}:=Øa f;show call_tuple_same d {.ref p,H,I,rfl,q}
def RQ(K:Ô)(T:æa)(x:V)(H:Hp):È:=match x with
 |.str _=>T = Ūe|.int _=>T = ğc|.ref p=>(T = Ģ/\∃xs,ya K H p xs)\/(T = ſ/\∃o,Ϯ p=À o/\Áb=.type ſ/\ŕe=Å) \/
   (T = Ãa/\((∃kvs,H p=À ř)\/∃kvs,H p=À ϟb))\/(T = ŏ/\∃S n,H p=À (.set S n))
 |_=>ÿ
def rG{m:Á ô}{σ:St}{H:Hp}{s:Î}{T:æa}{x:V}{v:Value}(I:Inv X m σ H s)(r:zy x v)(f:RQ X.K T x H) :ïb v T/\∀a,v=.ref a->∃ob,ö a=À ob/\ob.dict=Å:=by
 cases x with
 |str z=>let{t,rfl}:=r;cases(show T = Ūe from f);show{óf s z t,λ_ e=>nomatch e}
 |int i=>let{t,rfl}:=r;cases(show T = ğc from f);show{ĵi s i t,λ_ e=>nomatch e}
 |ref p=>
  cases r;rcases f with⟨rfl,u,q⟩|⟨rfl,o,b,k,g⟩|⟨rfl,b⟩|⟨rfl,S,n,b⟩;let{l,_,j,_}:=ϗ q;show{j.isList.typeIs,λa e=>?_};cases e;let{o,n,e,c,g,_}:=j;show{o,e,g};show{{o,ϕ p o b,k},λa e=>?_};cases e;show{o,ϕ _ o b,g};let z:∃o,ö p=À o/\ϭn:=by rcases b with⟨h,b⟩|⟨h,b⟩;rw[Çq];rw[Çq]
  let{o,e,d}:=z;rw[ϭp];let{o,_,_,_,e,d,_}:=Ė p _ b;rw[ϭp]
 |_=>show đa f
nonrec def oj(K:Ô)(T:æa)(r:V->Á V->Hp->VK->È)(b:TE):TE:=λσ H Q=>b σ H λx a=>RQ K T x a/\r x [] a Q
nonrec def oi(K:Ô)(T:æa)(r:V->Á V->Hp->VK->È)(b:TE)(t:TA):TE:=λσ H Q=>b σ H λx a=>RQ K T x a/\t σ a λc d=>r x c d Q
variable{o e:Õ}{es:Á Õ}{to:TE}{t:TA}{ī:Ç}{ύ ş:Pos}{T id:æa}{r:V->Á V->Hp->VK->È}
def y5k(t:ŝf T)(c:Slot T ī id)(d:ėg Úb=pure Ϧe)(q:Ur X id r)(j:PE X o to)(a:Í Ϗe q12)(b:Í Éb q12):PE X Ŋl (oj X.K T r to):=by rw[Ċq];show wpAny_Call_method0_late a b (zw (j e s σ H _ I h) λv n ⟨x,k,f,g,p,l⟩=>?_);let{m,i}:=rG f g p;show{T,id,t,c,d,m,i,Ϟg rfl (PySem.evalArgs_none (q e n σ k x [] v [] Q f g .nil l))}
def y5j(O:ŝf T)(d:Slot T ī id)(g:ėg Úb=pure Ϧe)(N:Ur X id r)(u:PE X o to)(L:PA X ď t)(b:Í Ϗe q12)(f:((ěc ş (Òb ď Ú)).all Ęi&&(ńk).all Ğm
   && decide ((ď).length+([]:Á Keyword).length+ėk<30))=Ã:=by rfl)
  (c:Í Éb q12)(m:Í Ĭc q12)(a:Í ((ěc ş æi).any (·.1)=Ä) q12) :
  PE X ĥl (oi X.K T r to t):=by
 rw[Řp];show wpAny_Call_method_late b f c rfl (zw (u i s σ H _ I h) λv C ⟨x,w,k,l,J,A⟩=>?_);let{B,q}:=rG k l J;show{T,id,O,d,g,B,q,?_};let j:=L ş i C σ w _ k A;rw[m]at j ⊢;refine Ϟg (by exact(Ä||(ěc ş æi).any (·.1))=Ä;rw[a]<;>rfl) (Śl ?_);show zw j λy p ⟨z,E,n,F,G⟩=>N i p σ E x z v y Q n l F G
#print a
def FI(X:Cx)(id:æa)(r:V->Á V->Hp->VK->È):È:=
 ∀(zA:Á ô) (s:Î) (σ:St) (H:Hp) (x:V) (xs:Á V) (v:Value) (us:Á Value) (Q:VK),Inv X zA σ H s->zy x v->zl xs us->r x xs H Q->
  Ø Ą X.A ïm Ŀb ĩ s
def zl.one:∀{x:V}{us:Á Value},zl [x] us->∃u,us=[u]/\zy x u
 |_,_,.cons r .nil=>{_,rfl,r}
def zl.zero:∀{us:Á Value},zl [] us->us=[]
 |_,.nil=>rfl
theorem zl.dropLast{xs:Á V}{us:Á Value}(h:zl xs us):zl ϧn us.dropLast:=by
 induction h with
 |nil=>show .nil|ú r t ih=>
  cases t with
  |nil=>show .nil|ú q t'=>show .cons r ih
theorem zl.rep{xs:Á V}{us:Á Value}(h:zl xs us):∀k:Â,zl (ĸo).flatten (Ņ k us).flatten
 |0=>.nil|k+1=>by rw[Čb,Čb,ŀc,ŀc];show źf h (zl.rep h k)
def z4g{α:Type}(l:Á α):l.eraseIdx (ϥb-1)=l.dropLast:=by
 induction l with
 |nil=>rfl|ú a r ih=>
  cases r with
  |nil=>rfl|ú b r=>
   let e:(Ĥp).length-1=((b::r).length-1)+1:=by let d:(Ĥp).length=Ϟ+2:=rfl;let c:(b::r).length=Ϟ+1:=rfl;omega
   rw[e,List.eraseIdx_cons_succ,ih]
   all_goals rfl
theorem dN(its:Á Value):∀(k:Â)(acc:Á Value),
  Łi (λx1 x2=>x1++x2) ϴn (Ņ k ϝ)=(acc++(ëo).flatten).toArray
 |0,acc=>by simp|k+1,acc=>by
  let e:ϴn++ϝ=(Ői).toArray:=by simp
  let e2:Ői++(ëo).flatten=acc++(Ņ Ş its).flatten:=by rw[Čb,ŀc,Ū]
  rw[<-e2,<-dN its k Ői,<-e,Čb,Ìa]
section
variable{X:Cx}{zA:Á ô}{σ:St}{H:Hp}{s:Î}{l b:Ë}{xs ys:Á V}
def Inv.DX{its Æb:Á Value}{n:Â}{f:Ù Value->Ù Value}{t':Â}(I:Inv X zA σ H s)(b:H l=À Ĕa)(e:ö l=À { cls:=.type Ģ,Ć:=.seq ϝ n })(d:f ϝ=Ói)(hv:zl ys Æb)(hz:Ś<=ã) :Inv X zA σ ũn { s with ç:=œc l (çb f),đ:=t' }:=by let q:=PySem.IsL.update e f;rw[d]at q;refine õg (x:=l) (e:=l) (by rw[b];show trivial) Ŗ (λg u c a=>(ϑg á (çb f) (śb c)).trans a) {_,q} ?_;show{hz,Æb,_,hv,q}
def Inv.An{its:Á Value}{t':Â}(I:Inv X zA σ H s)(hv:zl ys its)(hz:Ś<=ã) :Inv X zA σ (ze H Û ύb) { s with ç:=Ía { cls:=.type Ģ,Ć:=.seq ϝ },đ:=t' }:=
 Ża Ĕh Ġ {hz,its,0,hv,ű _ rfl}
theorem Inv.fresh(I:Inv X zA σ H s):H Û=Å:=Ĕb Ġ
def Inv.Oq(I:Inv X zA σ H s)(a:H l=À Ĕa):ì<=ã/\∃(its:Á Value) (n:Â),zl xs its/\ì=Ϣa/\ö l=À { cls:=.type Ģ,Ć:=.seq ϝ n }:=by let{z,its,n,r,e}:=Ė l _ a;show{z,its,n,r,Ϟ,e}
def iH{n:Â}(h:n<=ã):žd n=Ä:=by unfold žd;show Ĕ Ê
#print a
section
variable{X:Cx}
def y7m:V->Á V->Hp->VK->È:=λx a H Q=>∃l xs y,x=.ref l/\a=[y]/\H l=À Ĕa/\ì<ã/\Q .zP (ze H l ϑm)
def i0:FI X ān y7m:=by intro k s σ H x j v i Q I f d h;let{l,o,y,rfl,rfl,b,g,q}:=h;cases f;let{u,rfl,c}:=d.one;let{z,a,n,r,m,e}:=I.Oq b;refine ņc F.slot_list_append {_,e,rfl} F.entry_list_append (F.args_list_append_2 _ _) (PySem.list_append l Ϧa n u ěh) {e,?_};refine{.zP,_,I.DX (Æb:=a++[u]) b e ó (žc (.cons c .nil)) ?_,rfl,q};rw[è,Âf];omega
def y7u:V->Á V->Hp->VK->È:=λx a H Q=>∃l xs y,x=.ref l/\a=[]/\H l=À Ĕa/\xs[ì-1]?=À y/\Q y (ze H l (.lst ϧn))
def y0e:FI X "list.pop" y7u:=by
 intro t s σ H x p v o Q I k i h;let{l,w,y,rfl,rfl,d,m,q}:=h;cases k;let c:=i.zero;subst c;let{z,a,n,r,j,e}:=I.Oq d;let{u,g,f}:=ϋa m
 let b:Ϧa[Żb-1]?=À u:=by exact Ϧa[ăa-1]?=À u;rw[<-Ģa,<-j];show g
 refine ņc F.slot_list_pop {_,e,rfl} F.entry_list_pop (F.args_list_pop_1 _) (MeetsSeq.list_pop_last l Ϧa n u b ěh) {e,?_};show{y,_,I.DX (Æb:=a.dropLast) d e ?_ r.dropLast ?_,f,q};exact a.toArray.eraseIdxIfInBounds (Żb-1)=a.dropLast.toArray;rw[ĥ,List.eraseIdxIfInBounds_toArray,z4g];rw[Řl];omega
def y7w:R2:=λx y H Q=>∃l k xs,x=.ref l/\y=.int k/\H l=À Ĕa /\ -(2 ^ 63)<=k/\k<2 ^ 63/\ì*Ϡ<=ã/\
 ∀p,H p=Å->Q Ŭ (Ψ (.lst (ţn).flatten))
def fT{α:Type}(xs:Á α)(k:Â):(ĸo).flatten.length=k*ì:=by
 induction k with
 |ů=>simp|Ż k ih=>rw[Čb,ŀc,è,ih,Þi,ăd]
theorem y56:y_ X ĕi y7w:=by
 intro L s σ H x y v u Q I C K h;let{l,k,N,rfl,rfl,J,A,w,p,q}:=h;cases C;let{t,rfl}:=K;let{z,b,n,r,B,e}:=I.Oq J;have d:Ēb*Ϡ<=ã:=by rw[ĥ,<-B];show p
 let i:¬ Ēb*Ϡ>ťo/8:=by
  let:(ã:Â)<=ťo/8:=by decide
  omega
 let f:¬ (!Builtin.List.listFitsIndex k)=Ã:=by rw[fitsIndex_both A w];show Ħ
 let c:¬ žd (Ēb*Ϡ)=Ã:=by rw[iH d];show Ħ
 let g:Łi Īn #[] (Ņ (if b.toArray.isEmpty=Ã then 0 else Ϡ) ëb)=(Ņ Ϡ b).flatten.toArray:=by
  let E:∀m:Â,Łi Īn #[] (Ņ m ëb)=(Ņ m b).flatten.toArray:=λm=>by let:=dN b m [];rw[ãc]at this;rw[Œp]
  rw[E];cases b with
  |nil=>simp|ú a r'=>rw[Ñ ó]
 refine wpAny_binaryOp_repeat_ref (T := Ģ) (U := ğc) Ò {_,e,rfl} (λG=>ĵi G k t) noFill_list_mul F.fills_int_mul źm repeat_list F.slot_int_index.lookup
  (ņc źm (ĵi s k t) F.entry_int_rmul (F.args_int_rmul_2 _ _) (int___rmul___int_list k t l ëb n)
   {e,rfl,{_,e,rfl},ņc F.slot_list_mul {_,e,rfl} F.entry_list_mul (F.args_list_mul_2 _ _) (AutoListH.list___mul___list_int_3 l ëb n k t f i c) {e,?_}})
 rw[g];show{.ref _,_,I.An (t':=Đ) (r.rep Ϡ) (by rw[fT,řn];show p),rfl,q _ ϓc}
#print a
#print L2
namespace Att
open Ķ ęj PySem.Calls Ň
def z7n{P:ĥg}{h:Heap}:∀(ns:Á Æ)(vs:Á Value),WellAll P h vs ĺc->ôb vs ns:=by
 intro ns
 induction ns with
 |nil=>intro vs w;rw[àe]at w;cases w;show .nil|ú n ns ih=>
  intro vs w;rw[ľ]at w;cases w with
  |ú a b=>cases a;show .cons _ _ (ih _ b)
def script_of{l:OpenLaw}{n:Â}(t:Śj=À n){P:ĥg}{h:Heap}{ča:Á WData}{c:Á Value}(b:l.row.toRowW.claim.pre ča=Ã)(i:WellAll P h c ča) :∃a vs ns,c=[ĕ a]/\ča=[WData.list ĺc]/\ę a=À { cls:=.type Ģ,Ć:=.seq Ůa }/\ôb vs ns/\Ŝ<=n:=by
 let j:WShape.hasAll [] ča [.list .int]=Ã:=ên.1;let k:l.pre.holds [] { ča:=ča }=Ã:=ên.2;let{d,r,rfl,s,o}:=hasAllW_cons j;obtain rfl:=hasAllW_nil o;let{u,rfl,p}:=hasW_list s;let{ns,rfl}:=items_int p
 let e:Ŝ<=n:=by
  unfold OpenLaw.pre at k
  let f:(WTm.not (.lt (.lit ώh) (.len (.arg 0)))).holds [] { ča:=[.list (Ða .int)] }=Ã:=by let f:=(holds_andW k).1;rw[t]at f;show f
  let g:=condW_of f (w_not (w_lt w_lit (w_len_list (w_arg rfl))));rw[å]at g;show Nat.le_of_not_lt λq=>?_
  let m:(n:Æ)<((Ŝ:Â):Æ):=by omega
  first
   |(rw[ù m]at g;show Ý g Ò)
   |(simp at g;omega)
 cases i with
 |ú w1 w2=>
  cases w2;cases w1 with
  |list ho hall=>show{_,_,ns,rfl,rfl,ho,z7n ns _ hall,e}
def post_true(l:OpenLaw)(ča:Á WData):l.row.toRowW.claim.post ča őf ča=Ã:=
 postW_of (r:=Òi) (X:=Ĺo)
  (show Ĩo [] őf .bool=Ã by first|rfl|decide|simp[Ĩo,WShape.arms,WShape.armsAll])
  (show(WTm.eq .res (.lit őf)).value [] { ča:=ča,res:=À őf,after:=ča }=À (.bool Ĺo)from w_eq_bool (w_res rfl) w_lit) rfl
#print Att
namespace L2
open Ķ ő Ň
theorem rT:∀{vs:Á Value}{ns:Á Æ},ôb vs ns->zl æb vs
 |_,_,.nil=>.nil|_,_,.cons n t h=>.cons {t,rfl} (rT h)
def bN(H:Hp):È:=∀b,H b=Å\/∃o xs,H b=À ďo
def z93{P:ï}{w:æ}{K:Ô}{B N:Ç->É Value}{CX:Z4}{k:Â}{U a:Ë}{Y:Ń}{x:Ç}{sp:Sp}{c:Î}{vs:Á Value}{ns:Á Æ}(KX:ŵ Ţj)(E:Ŭi Ę B)(g:Ŭi Ļi N)(R:∀x:Ç,x ≠ ıi->N x=ž x)(G:c.heap.NoLimit)(hg:c.gens=#[])(L:ći a=À { cls:=.type Ģ,Ć:=.seq Ůa })(hi:ôb vs ns)(Z:Ŝ<=ã)(hr:yf k Ŀd)(F:∀Ì:Heap,ŵ Ì->ŀd Ę B->xP P w K B Ì CX k U Y [x] sp)(l:∀(s:Î)(u:Value),Ġb s Y {[u],[]} [(x,u)])(Q:∀H:Hp,bN H->ya K H a æb->sp ϥ H àm λ_ _ _=>ÿ)(S:∀H e s',CX [] H c (λ_ _ _=>ÿ) e s'->ÿ) :ğb ŉb Ŀd Ûl ϫj c:=by
 let rv:=rT hi;let C:=hi.length
 have j:∀H:Hp,bN H->ya K H a æb->wG P w H Ţj->(∀b,H b≠Å->b=a)->(H a≠Å->Ϯ a=Å)->
   ğb ŉb Ŀd Ûl ϫj c:=by
  intro H hO hS zh hA hK;let f:∀{b:Ë}{o:Obj},ći b=À o->H b=Å->(Ûe).get? b=À o:=λe n=>z75 e n
  let T:∀{b:Ë}{o:Obj}{p:Ù þc}{t:Â},ći b=À o->ϩ=.dict p t->H b=Å:=λ{b o p t} e d=>by
   cases q:H b with
   |Å=>rfl|À u=>have O:b=a:=hA b Ũh;subst O;rw[L]at e;cases e;let d':Data.seq Ůa _=Data.dict p t:=d;cases d'
  let i:∀{b:Ë}{m:Ç->É Value},Ŭi b m->(Ûe).Ns b m:=λ{b m} ⟨o,p,t,e,d,r⟩=>{o,p,t,f e (T e d),d,r}
  let I:ŵ Ûe:=λb o e=>f (KX b o e) (by
   cases q:H b with
   |Å=>rfl|À u=>have O:b=a:=hA b Ũh;subst O;rw[hK Ũh]at e;cases e)
  let hM:Mod K B Ûe:={I,i E,{N,i g,R},let ⟨mc,h1,h2⟩:=G;{mc,i h1,h2}};let e0:WO P w K B Ûe Ŀd [] c H:={rfl,hM,λb o e=>y23 e,Łb (z76 _ _),trivial,λb g=>Ý (show b∈([]:Á Ë)from g) ó,zh,.of_eq hg};show ßd ((F _ I (i E)).run Ŀd [] c H {ϥ,[]} ϥ ϥ _ _ hr e0 (l c Ō) ŏh (Q H hO hS)) λr s' h=>?_
  cases r with
  |Ůe e=>show(S H e s' h).elim|ok fl=>
   cases fl with
   |next=>show đa h|brk=>show đa h|Çc=>show đa h|ret u=>
    let{v,H',os,y,X,A,r',q}:=h;let q':v=.bl Ã:=q;subst q';obtain rfl:u=Śf Ã:=r';show{rfl,OldK.of_keep λb o e=>?_,os,y};cases q:H b with
    |Å=>show X.keep b o e q (by intro z;show Ý (show b∈([]:Á Ë)from z) ó) ó|À u=>
     rcases hO b with z|⟨ob,xs,z⟩
     .rw[q]at z;cases z
     .let z2:=X.uf b ob _ z;let{e1,_}:=zh b _ z;let{e2,_}:=A b _ z2;rw[e]at e1;cases e1;show e2
 cases hk:Ϯ a with
 |À o=>have e:=KX a o hk;rw[L]at e;cases e;refine j úc ϗm (.inr {_,Ůa,_,hk,rfl,rfl,rfl,by rw[ĥ,C];show Z,by simpa using rv}) (λb u z=>by let J:(Å:É HO)=À u:=z;cases J) (λb z=>Ý rfl z) λz=>Ý rfl z|Å=>show j (λb=>if b=a then À (.ye { cls:=.type Ģ,Ć:=.seq Ůa } (Β (ns.map ϻa)))else Å) (λb=>?_) (.inl (.inr {{ cls:=.type Ģ,Ć:=.seq Ůa },Ð rfl})) (λb u z=>?_) (λb z=>?_) λ_=>hk;by_cases g:b=a;show .inr {_,_,Ð g};show .inl ĸj;by_cases g:b=a;let J:=(Ð g).symm.trans z;cases J;subst g;show{L,by rw[å];show Z,vs,_,rv,L};let J:=(ĸj).symm.trans z;cases J;by_cases g:b=a;show g;show Ý ĸj z
nonrec def ZI(s:Ü)(j:Â):Ü:=match s with
 |.ClassDef _ _ _ Ąb _ _ _ _ _ _ _=>body.getD j ĵm|_=>.Pass {0,0,0,0}
nonrec def jH(s:Ü):ϫo:=match s with
 |.FunctionDef _ a _ _ _ _ _ _ _ _=>a|_=>{ posonlyargs:=[],ča:=[],vararg:=Å,kwonlyargs:=[],kw_defaults:=[],kwarg:=Å,defaults:=[] }
nonrec def vf(s:Ü):Á Ü:=match s with
 |.FunctionDef _ _ b _ _ _ _ _ _ _=>b|_=>[]
nonrec def zZ(s:Ü):ça:=match s with
 |.FunctionDef _ _ _ _ _ _ sc _ _ _=>sc|_=>{ kind:=.function,Ťb:=[],isGenerator:=Ä,isCoroutine:=Ä }
abbrev xK:Z4:=λ_ _ _ _ _ _=>ÿ
abbrev E0:XK:=λ_ _ _=>ÿ
def YT{X:Cx}:XI xK X E0:=λ_ _ _ _ _ _ _ h=>ϝc
structure Fun(K:Ô)(x qual:Ç)(st:Ü)(f:Ë)(fd:Ń):È where
 ex:∃(oc:Value) (od:É Ë) (kV doc pm:Value) (an:É Ë) (cdv ct:Value) (osl:Ù ϡa),
  fd=Ϡc x qual Ňd Öa ō .none kV doc pm an cdv ct/\Ϯ f=À {oc,od,.func fd,osl}/\Ŗb K cdv qual=Ã
 kp:Ôa K Ĥ=Ã
section
variable{P:ï}{w:æ}{K:Ô}{mg:Ç->É Value}{Ì:Heap}
def Fun.ok{x a:Ç}{st:Ü}{f:Ë}{i:Ń}{N ps:Á Ç}{k:Â}{sp:Sp}(F:Fun K x a st f i)(S:zj N ps ō)(e:∀vs H Q E,sp vs H Q E->č=ğ)(c:∀(b:Value)(A:ø)(ć:Á Env)(s:Î)(H:Hp)(vs:Á V)(Q:VK)(E:XK),yf k Él->sp vs H Q E->
   ∃t,uO (ĉk).qD Öa t/\t { nx:=λ_ H'=>Q .zP H',rt:=Q } şc H):xP P w K mg Ì xK Ş f i ps sp:=by
 let{r,p,kV,m,u,v,b,o,j,rfl,n,d}:=F.ex;show dM n d S e λA ć s H vs Q E l g=>?_
 rw[ϳp]
def Fun.binds{x a:Ç}{st:Ü}{f:Ë}{g:Ń}{ps:Á Ç}(F:Fun K x a st f g)(h:∀(kV c e:Value)(d:É Ë)(b ct:Value)(us:Á Value),áa=ğ->Åg (Ϡc x a Ňd Öa ō .none kV c e d b ct) {us,[]}=pure õc):vy K g ps []:=by let{l,k,kV,c,e,d,b,ct,j,rfl,m,i}:=F.ex;show .all (h kV c e d b ct)
def dQ{x a:Ç}{st:Ü}{f:Ë}{j:Value}{i h:É Ë}{e:Ù ϡa}{kV d g b ct:Value}(l:Ϯ f=À {j,i,.func ôk,e})(c:Ŗb K b a=Ã)(k:Ôa K Ĥ=Ã):Fun K x a st f ôk:={{j,i,kV,d,g,h,b,ct,e,rfl,l,c},k}
#print a
def zO{A:ø}{k:Â}(a:yf k A):ŗa+1<Ϙ:=čb (ĵc (by decide:1<=64) _) a.units
def x1e{n:Â}(h:n<=1000):n<ã:=čb h Ò
def gm{A B:È}(h:B):if Ä=Ã then A else B:=by rw[Ñ Ħ];show h
def gr{A B:È}(h:A):if Ã=Ã then A else B:=by rw[Ð rfl];show h
def yE(H H':Hp):È:=∀b o,H b=À o->H' b=À o
def Œa(H:Hp):yE H H:=λ_ _ h=>h
def yE.trans{H d e:Hp}(a:yE H d)(b:yE d e):yE H e:=λc o h=>b c o (a c o h)
def yE.free{H H':Hp}(e:yE H H'){l:Ë}(h:H' l=Áo):H l=Áo:=by
 cases q:H l with
 |Å=>rfl|À o=>rw[e l o q]at h;cases h
#print L2
set_option linter.all false
set_option maxRecDepth 100000
set_option maxHeartbeats 4000000
namespace L2
open Ķ ő Ň
def Def(K:Ô)(a:Ç->É Value)(x:Ç)(st:Ü)(ps:Á Ç):È:=
 ∃(f:Ë) (fd:Ń),Fun K x x st f fd/\a x=À Ĥ/\vy K fd ps []
def wX(P:ï)(w:æ)(K:Ô)(b:Ç->É Value)(a:Heap)(x:Ç)(ps:Á Ç)(k:Â)(sp:Sp):È:=
 ∃(f:Ë) (fd:Ń),b x=À Ĥ/\Ôa K Ĥ=Ã/\vy K fd ps []/\xP P w K b a xK k f fd ps sp
def vB(a:Ç->É Value)(x:Ç)(v:V):È:=∃u,a x=À u/\zy v u
section
variable{P:ï}{w:æ}{K:Ô}{mg:Ç->É Value}{Ì:Heap}
theorem Def.ok{x:Ç}{st:Ü}{N ps:Á Ç}{k:Â}{sp:Sp}(d:Def K mg x st ps)(S:zj N ps ō)(c:∀vs H Q E,sp vs H Q E->č=ğ)(a:∀(f:Ë)(b:Value)(A:ø)(ć:Á Env)(s:Î)(H:Hp)(vs:Á V)(Q:VK)(E:XK),yf k (ėb (íb x ō Û f b))->sp vs H Q E->
   ∃t,uO (tU xK P w K mg Ì N x ō f b A ć s H E).qD Öa t/\t { nx:=λ_ H'=>Q .zP H',rt:=Q } şc H):wX P w K mg Ì x ps Ş sp:=by
 let{f,h,F,g,e}:=d;show{f,h,g,F.kp,e,Ļa S c (a f)}
#print a
section
variable{X:Cx}{x:Ç}{p pos:Pos}{e:Õ}{es:Á Õ}{t:TA}{ps:Á Ç}{j k:Â}{sp:Sp}{v:V}{T:æa}
nonrec def xC:Õ->Ï
 |.Starred ..=>Ä|_=>Ã
def tm{e:Õ}{es:Á Õ}{env:Env}(h:xC e=Ã):Òb ď env=(Ä,ě e env)::Òb es env:=by cases e<;>first|rfl|cases h
theorem ZX{env:Env}{pos:Pos}:∀{es:Á Õ},es.all xC=Ã->(Þm).any (·.1)=Ä
 | [],_=>rfl|e::es,h=>by rw[Ų,Č]at h;rw[tm h.1];let a:=ZX (env:=env) (pos:=pos) h.2;unfold ěc at a ⊢;rw[ľ,Üb,a];rfl
def Xh{a:TE}(b:PE X e a)(c:PA X es t)(h:Í ÿa q12):PA X ď (RD a t):=y5b b c (tm h)
nonrec def LD:Õ->É Æ
 |.Constant Áa _ _=>À i|_=>Å
def z1c{e:Õ}{i:Æ}(h:LD e=À i):∃k p,e=.Constant Áa k p:=by
 cases e<;>first|(cases h;done)|skip
 rename_i c k p;cases c<;>first|(cases h;done)|skip
 cases h;show{k,p,rfl}
def źa:Á Õ->É Ϡf
 | []=>À []|e::r=>(LD e).bind λi=>(ĩj).map (i::·)
theorem ip:∀{es:Á Õ}{is:Á Æ},źa es=À is->PA X es (λ_ H Q=>Q (is.map ϻa) H)
 | [],is,h=>by cases(show À []=À is from h);show VS|e::r,is,h=>by
  let q:((LD e).bind λi=>(ĩj).map (i::·))=À is:=h;cases e1:LD e with
  |Å=>rw[e1]at q;cases q|À i=>
   rw[e1]at q;let{k,p,rfl}:=z1c e1;cases e2:źa r with
   |Å=>rw[e2]at q;cases q|À js=>rw[e2]at q;cases(show À (i::js)=À is from q);show Xh l6 (ip e2)
def MX(h:wX õ X.w X.K ð ĵ x ps k sp)(l:yf j X.A)(m:Gl X x)(g:PA X ď t)(hk:Í ϵa q10)(a:Í Ł q10)(c:Í Üa q12):PE X Ľa ϲm:=by let{f,n,i,d,b,F}:=h;rw[Ų,Č]at c;show y5m F (Ϝc hk) m i d b .nil YT g a (tm c.1) (ZX c.2)
def IW(h:vB ð x v)(c:Gl X x)(b:Í Ł q10):PE X ía Ţe:=by let{u,a,r}:=h;show y5w c a r b
def y5l(d:Gl X x)(a:ð x=Å)(hv:ž x=À Ĝb)(b:Í Íb q10)(c:Í Ł q10):PE X ía ųn:=
 y5i d a hv rfl b c
#print a
section
variable{X:Cx}
def uX:y_ X (ϟa .FloorDiv) Ňk:=TX λi j _ _ _ _ _ a q=>by let d:(0:Æ)<j:=a.1;let b:j<2 ^ 64:=a.2;let c:j.natAbs.log2<64:=(Ĵh).mpr Ê;show PyProof.Rows.floordiv_int Ê (by rw[ϴk i Ê];show q) (.inl (PyProof.noPylong_of_log2 Ê))
#print a
def qM:ž "len"=À íd:=by rw[ŋp]
def z21:ž ōc=À ϑh:=by rw[ŋp]
def z23:ž "sum"=À ũm:=by rw[ŋp]
def z20:ž "all"=À Ūm:=by rw[ŋp]
def cA:ž ğc=À Ŧa:=by rw[ŋp]
def z1y:ž Őe=À Ϛa:=by rw[ŋp]
def LP:ž Ģ=À ďa:=by rw[ŋp]
def E5:ž ſ=À ŭa:=by rw[ŋp]
def z8m{K:Ô}:ŧ K Ŧa Ŧa=À Ã:=by rfl
def z8k{K:Ô}:ŧ K Ϛa Ŧa=À Ã:=by rw[Ŝp]
def z8l{K:Ô}:ŧ K Ŧa Ϛa=À Ä:=by rw[Ŝp]
def z8j{K:Ô}:ŧ K Ϛa Ϛa=À Ã:=by rfl
def z8o{K:Ô}:ŧ K åd Ŧa=À Ä:=by rw[Ŝp]
def z8n{K:Ô}:ŧ K åd Ϛa=À Ä:=by rw[Ŝp]
def z8q{K:Ô}:ŧ K ŭa ŭa=À Ã:=by rfl
def z8p{K:Ô}:ŧ K Þb Þb=À Ã:=by rfl
def uk{H:Hp}{p:Ë}(h:H p=Å)(o:HO):yE H ŭc:=λb u q=>by rw[yH (qS q h)];show q
def ĩb{n:Â}(h:n<=1000):n<=ã:=ìa (x1e h)
def Yz(env:Env):Á Ϥa->È
 | []=>ũb|p::r=>Ĺh p.1=À p.2/\Yz env r
theorem Yz.get{env:Env}:∀{cl:Á Ϥa} {y:Ç} {c:Ë},Yz env cl->ώf y=À c->Ĺh y=À c
 | [],_,_,_,h=>by cases h|(n,a)::r,y,c,hc,h=>by
  rw[Ϸd]at h;cases e:y==n with
  |Ã=>
   rw[e]at h;let b:y=n:=by rw[ϵp]
   subst b;let d:a=c:=by rw[Ėq]
   subst d;show hc.1
  |Ä=>rw[e]at h;show Yz.get hc.2 üa
nonrec def Uy(a:ça)(env:Env)(b:Á Ϥa)(own:Á Ç):Ï:=
 Ĉi λp=>p.1 != ("." : Ç)&&((p.2 == .local&&(īf p.1||p.1==(".0" : Ç)))||p.2 == .globalImplicit||p.2 == .globalExplicit ||
  (p.2 == .free&&(ūc p.1==À .cell||ūc p.1==À .free)&&(b.lookup p.1).isSome))
nonrec def Ũb(own:Á Ç)(y:Ç):Ç:=if īf y||y==(".0" : Ç)then "." else y
def wJ(N own:Á Ç):Á Ç:=ťb (Ũb own)++own
theorem Km{env:Env}:∀{Ťb:Á (Ç×Ċc)} {y:Ç} {k:Ċc},
  (Ŧi λ(n,k)=>if(k==Ēn&&Æn == .function&&ūc n==À .cell)then(n,ēn)else(n,k)).lookup y=À k->∃k0,(y,k0)∈Ťb/\(k=k0\/(k0=.free/\k=.cell))
 | [],_,_,h=>by simp at h|(n,k')::r,y,k,h=>by
  rw[ľ]at h;by_cases hc:(k'==Ēn&&Æn == .function&&ūc n==À .cell)=Ã;dsimp only at h;rw[Ð hc,Ϸd]at h;cases e:y==n with
  |Ã=>
   rw[ĝq]
   subst a;let b:ēn=k:=by rw[Ėq]
   let c:k'=.free:=by rw[Č,Č]at hc;simpa using hc.1.1
   show{k',Ĝ,.inr {c,b.symm}}
  |Ä=>rw[e]at h;let{k0,m,z}:=Km (env:=env) üa;show{k0,Ű _ m,z}
  dsimp only at h;rw[Ñ hc,Ϸd]at h;cases e:y==n with
  |Ã=>
   rw[ĝq]
   subst a;let b:k'=k:=by rw[Ėq]
   show{k',Ĝ,.inl b.symm}
  |Ä=>rw[e]at h;let{k0,m,z}:=Km (env:=env) üa;show{k0,Ű _ m,z}
def vN(X:Cx)(a:ça)(b:Á Ϥa)(own:Á Ç)(C:Ë)(e:Î)(d:Hp)(c:Á Ë)(pn:Á ô):Cx:=
 { X with N:=wJ X.N own,s₀:=e,H₀:=d,env:=compEnvC a b C Ú,ć:=œa,stack:=œa,ex:=c,fn:=λ_=>Ä,pn:=pn,xe:=λ_ _=>ÿ }
section
variable{X:Cx}{zA:Á ô}{σ:St}{H2:Hp}{s2:Î}{Ľ:ça}{cl:Á Ϥa}{own:Á Ç}{C D:Ë}{fp:Á Ë}
def bv(f:Uy Ľ Ú cl own=Ã){y:Ç}{k:Ċc}(h:(ϰd).names.lookup y=À k) :y ≠ "."/\((k=.local->īf y=Ã\/y = ".0")/\((k=.cell\/k=.free)->(∃k0,(y,k0)∈Ĉd/\k0=.cell)\/(ňk/\∃c,ώf y=À c))):=by
 let{k0,m,z}:=Km h;let q:=ûa f _ m;rw[Č]at q;let{g,e}:=q;refine{by simpa using g,λa=>?_,λa=>?_};rcases z with z|⟨_,z⟩;subst z;subst a;rw[ϵp];rw[z]at a;cases a;let b:k0=.free\/k0=.cell:=by rcases z with z|⟨z,_⟩;subst z;rcases a with a|a;show .inr a;show .inl a;show .inl z
 rcases b with b|b;subst b
 right
 let d:((Ŏc y==À .cell||Ŏc y==À .free)&&(ώf y).isSome)=Ã:=by rw[ϵp]
 rw[Č]at d;show{?_,Óc d.2};let:=d.1;rw[őc]at this;rcases this with t|t;show .inl ðm;show .inr ðm;show .inl {k0,m,b}
def Cy(b:Uy Ľ Ú cl own=Ã)(a:∀y∈Ĉd,y.2≠.cell){y:Ç}{k:Ċc}(h:(ϰd).names.lookup y=À k)(hk:k=.cell\/k=.free) :ňk/\∃c,ώf y=À c:=by rcases(bv b h).2.2 hk with⟨d,m,e⟩|q;show Ý e (a _ m);show q
def bw(I:Inv X zA σ H2 s2)(hk:ķi=.function)(f:∀y∈Ĉd,y.2≠.cell)(d:Yz Ú cl)(j:Uy Ľ Ú cl own=Ã)(k:ãf<=C)(g:∀b∈fp,jh X zA H2 b)(i:∀b∈fp,∃o,Ïi b=À o):(ħk).Ok where
 mod:=Öj
 kind:=hk
 glob:=I.ok.glob
 blt:=I.ok.blt
 above:=k
 inj:=λx y c n m=>I.ok.inj x y c (d.get n) (d.get m)
 has:=λx a=>by rcases a with a|a;show(Cy j f (show(ϰd).names.lookup x=_ from a) Ŗ).2;show(Cy j f (show(ϰd).names.lookup x=_ from a) ýc).2
 UA:=λx c h=>by cases h
 hd:=óa
 Šj:=Èo
 Qe:=.inl rfl
 QZ:=λb a=>{by let{o,e}:=i b a;show Ϗ (Š ċc k),λx c h=>ņj.2.2.2.2.1 x c (d.get h)}
 bs:=I.bs
 k_:=ĉ ög I.sz
 UF:=λb o e a=>by rcases(g b a).2.2.2.1 with z|z;show I.ok.UF b o e z;show Ý (Š ċc (ĉ ög z)) Ĉa
 UC:=λb a l=>by rcases ħ (I.Qf b l)with z|z;show ņj.2.1 z;show ņj.2.2.1 z
 j7:=I.stack
 Ys:=I.At
def Lu{α:Type}{σ:Á (É α)}{n i:Â}{v:α}(h:şh[i]?=À ϯ):σ[i]?=À ϯ:=by
 by_cases hi:i<σ.length;rw[ľa hi]at h;show h;rw[Ĵb Ê,Êd]at h
 split at h<;>cases h
def z1w{H:Heap}{m0:Ç->É Value}{j:Obj}{tk:Â}(I:Inv X zA σ H2 s2)(hk:ķi=.function)(s:∀y∈Ĉd,y.2≠.cell)(g:Yz Ú cl)(R:Uy Ľ Ú cl own=Ã)(S:ãf<=C)(hD:ãf<=D)(W:D≠C)(O:∀b∈fp,jh X zA H2 b)(U:∀b∈fp,∃o,Ïi b=À o)(f:∀b o,Ïi b=À o->ūj b=À o)(ns:H.Ns C m0)(hd:ūj D=À j)(Y:∀v,j.data≠.cell v) :Inv ħk [(D,j)] èd H2 { s2 with ç:=H,đ:=tk }:=by
 let P:∀a,ãf<=a->a ∉ jN œa:=λa ha L=>by rcases ħ (I.Qf a L)with z|z;show Ý (Š I.lt ha) (by rw[z];show Ìc _);show I.Ap ha z
 show{bw I hk s g R S O U,rfl,Ža,Ńe f,{m0,ns,λi y v e1 e2 e3=>?_},λx c h=>?_,Ĕb S,λx c h=>İb x c (ņg h),λp hp=>?_,ϩo f,?_};let A:σ[i]?=À ϯ:=Lu e2
 let hi:i<ñ:=by let:=(ķ A).1;rw[āb]at this;rw[Œp]
 let q:Õl[i]?=À y:=e1;rw[ľa Úf,ņ]at q;cases en:X.N[i]? with
 |Å=>rw[en]at q;cases q|À n=>
  rw[en]at q;let E:Ũb own n=y:=ϸ q
  let K:∃k,(ϰd).names.lookup y=À k/\(k=.local\/k=.cell\/k=.free):=by rcases e3 with z|z|z;show{_,z,.inl rfl};show{_,z,.inr Ŗ};show{_,z,.inr ýc}
  let{k,J,kk}:=K;let{nd,Q,_}:=bv R J;unfold Ũb at E;by_cases G:(īf n||n==(".0" : Ç))=Ã;rw[Ð G]at E;show Ý E.symm nd;rw[Ñ G]at E;subst E
  let F:k=.cell\/k=.free:=by
   rcases kk with z|z;exfalso
   apply G;rcases Q z with t|t;rw[t];rfl;subst t;simp;show z
  let{Z,c,hc}:=Cy R s J F;let{m,hn,hl}:=ĝa;let{u,r,l}:=hl i n v en A (.inr Z);show{u,r,.inr {?_,c,hc,?_}};rcases F with z|z;subst z;show .inl J;subst z;show .inr J;rcases l with⟨z,_⟩|⟨_,c',B,z⟩;rcases Z with t|t<;>(rw[t]at z;cases z);rw[ņg hc]at B;cases B;let{o,T,w}:=z;show{o,f _ _ T,w}
 let{v,o,G,w}:=Ĵa x c (ņg h);show{v,o,f _ _ G,w};rcases ż hp with z|z;let{e,n,ne,nf,d}:=ĺa p z;show{f _ _ e,n,Ϗ (Š ċc S),λL=>?_,d};rcases ħ (I.Qf p.1 L)with t|t;show ne t;show nf t;let e:p=(D,j):=by simpa using z
 subst e;show{hd,Ĕb hD,W,P D hD,Y};exact(èd).length=(Õl).length;rw[è,è,ġa,å,āb]
#print a
def Wm(X:Cx)(a:Á Õ)(b:TT):È:=
 ∀(zA:Á ô) (s:Î) (σ:St) (H:Hp) (Q:Ï->Hp->È),Inv X zA σ H s->b σ H Q->
  Ø Ą X.A (ħb a Ã λc r=>if r=Ã then do let ok <-œd c Ú (ě c Ú);pure (ϧd ok)else pure (ϧd r)) ϋh ĩ s
nonrec def RG:TT:=λ_ H Q=>Q Ã H
def lz{X:Cx}:Wm X [] RG:=λ_ _ _ H _ I h=>wpAny_tests_nil {H,I,h}
def y6y{X:Cx}{c:Õ}{t:TT}(h:PT X c t):Wm X [c] t:=λa s σ H Q I q=>wpAny_tests_one (h a s σ H Q I q)
section
variable{ă:ï}{w:æ}{A:ø}{R:ŕd->Î->È}{s:Î}
def z99{d tg b:Õ}{g:Á Õ}{a:ça}{pos:Pos}{it f:Value}{env:Env}(J:Â->Î->È)(j:∀n s,J n s->Ø é A (Ōd it) (λr s₁=>match r with
   |Å=>R ēo s₁|À v=>Ø é A (Òf tg it v) (λ_ z=>Ø é A (Ϲb tg env v) (λ_ s₂=>
    Ø é A (ħb g Ã λc r=>if r=Ã then do let ok <-œd c env (ě c env);pure (ϧd ok)else pure (ϧd r)) (λok s₃=>
     if ok=Ã then Ø é A (ě d env) (λx s₄=>Ø é A (įb (.builtin ān) [f,x]) (λ_ s₅=>∃m,m<n/\J m s₅) ðc s₄) ðc s₃
     else ∃m,m<n/\J m s₃) ðc s₂) ðc z) ðc s₁) ðc s)
  (n:Â)(h:J n s):ğb é A (.compLoop Śk 0 it f env) R s:=by
 let i:∀{P:Value->Î->È},∀e s',(λ_ _=>ÿ:Value->Î->È) e s'->P e s':=λ_ _ z=>ŭ
 show codeAny_loop rfl J (λn s t=>?_) n h;exact Ø _ A (Sem.onRaise (compTurn Śk 0 it f env) (λx=>do noteFrame x env;theTreesLotGoes x)) _ _ s;show wpAny_noted ?_;rw[compTurn_list];show Ó (ôh (Ó (Ħa (j n s t) (λr s₁ l=>?_) i)));cases r with
 |Å=>show ò l|À v=>
  show Ó (Ħa l (λ_ z p=>?_) i);show Ó (Ħa p (λ_ s₂ u=>?_) i);show Ó (Ħa u (λok s₃ k=>?_) i);cases ok with
  |Ä=>show ò {rfl,k}|Ã=>
   show Ó (Ó (Ħa k (λx s₄ q=>?_) i));show Ó (Ħa q (λ_ s₅ o=>ò (ò {rfl,o})) i)
#print a
abbrev uV(its:Á Value)(k:Â):Obj:={ cls:=.type Ģ,Ć:=.seq ϝ k }
def fX{its:Á Value}{k:Â}:∀v,(ŋo).data≠.cell v:=λ_ z=>nomatch z
section
variable{X:Cx}{σ:St}{H:Hp}{s:Î}{D:Ë}
def z7p{pl:Á ô}{its Æb:Á Value}{k f tk:Â}{h':Heap}(I:Inv X ((D,uV its k)::pl) σ H s)(m:Ñc<=D)(g:∀p∈Èc,p.1≠D)(j:ũa D á h')(t:Ċ D=À (uV Æb f)):Inv X [(D,uV Æb f)] σ H { s with ç:=h',đ:=tk }:=by
 let{e,n,h,w,d}:=ĺa (D,uV its k) ço;let u:Inv X [] σ H s:=I.Qd λp a=>Ý a ó
 let A:Inv X [] σ H { s with ç:=h',đ:=tk }:=u.turned (it:=D) (λb o r q=>(j.2 b r).trans q) n h (.inr m) (λx c l z=>by subst z;let{v,o,i,y}:=Ĵa x c l;rw[show ö c=À ŋo from e]at i;cases i;show d v y) (λp a=>g p áf)
 show A.Qd λp a=>by
  let q:p=(D,uV Æb f):=by simpa using a
  subst q;show{t,n,h,w,fX}
#print a
section
variable{X:Cx}{tg Ŵ elt:Õ}{ifs:Á Õ}{Ľ:ça}{cl:Á Ϥa}{own:Á Ç}{pos:Pos}{te:TE}{tc:TT}{g:TG}{wi:TI}
def x6q{fs ex:Á Ë}{H H':Hp}{h h':Heap}{D:Ë}{o:HO}(u:Un fs ex H H' h h')(f:âb<=D)(d:H' D=Å):Un fs ex H ño h h' where
 Śa:=Œe
 slot:=ĕg
 free:=λb c q n i=>by rw[yH (λz=>by subst z;show Ý (Š ăg f) Ĉa)];show Ėg b c q n i
 Łg:=ìg
 qE:=λb e q=>by rw[yH ϳl];show u.qE b e q
 uf:=λb c v q=>by rw[yH Ŀl];show u.uf b c v q
 pF:=λb g q=>by rw[ϥp]
def e8{P:ï}{w:æ}{H:Hp}{h:Heap}{D:Ë}{o:HO}(x:wG P w H h)(d:H D=Å)(a:xT P w Ŀo h D o):wG P w Ŀo h:=λb u e=>by by_cases hb:b=D;subst hb;rw[yh]at e;cases e;show a;rw[yH hb]at e;show(Ϥi).Yw (λc v _ q=>q) (λc q=>?_) (λc f q=>?_);rw[yH (qS q d)];show q;rw[yH (qS q d)];show q
structure Yy(X:Cx)(Ľ:ça)(cl:Á Ϥa)(own:Á Ç):È where
 kind:ķi=.function
 cell:∀y∈Ĉd,y.2≠.cell
 On:Yz Ú cl
 ok:Uy Ľ Ú cl own=Ã
 Oo:Ģo Ľ Ú=pure cl
 Ťb:∀y∈Ĉd,y.2=.local->scope.names.lookup y.1=À .local
structure L4(X:Cx)(zA:Á ô)(H:Hp)(s:Î)(C:Ë):È where
 free:H C=Å
 ne:C≠Ϭ
 old:Ñc<=C
 cell:∀x c,Ĥa x=À c->c≠C
 pin:∀p∈Èc++zA,p.1≠C
def IG(σ:St)(n:Â)(J:It)(g:TG)(tc:TT)(te:TE)(W:Â->Â->Á V->Hp->È)(a:Á V->Hp->È):È:=
 ∀i m ys H,W i m ys H->(Ĩg i H/\a ys H)\/(J.go i H/\Ś<ã/\∃N:Á V->Hp->È,(∀ys' H',N ys' H'->∃m',m'<m/\W î m' ys' H')/\
  ∀x H',J.tD i H x H'->g x şh H' λσ2 e=>(∃τ,σ2=σ++τ)/\tc σ2 e λc b=>if c=Ã then te σ2 b λy d=>N (ys++[y]) d else N ys b)
def bz{zA:Á ô}{σ:St}{H2:Hp}{F:Î}{l:Á Ë}{it:Ë}{tn:Â->Heap->È}{J:It}{W:Â->Â->Á V->Hp->È}{Fin:Á V->Hp->È}{m0:Â}{RR:Value->Ë->ŕd->Î->È}(S:Ů=Ã)(B:Yy X Ľ cl own)(I:Inv X zA σ H2 F)(T:Zz õ X.w X.K tg J l it tn)(t0:tn 0 F.heap)(G:∀b∈l,jh X zA H2 b)(hg:∀C s H l pn,PG Ϣg tg g)(hc:∀C s H l pn,Wm Ϣg ifs tc)(he:∀C s H l pn,PE Ϣg elt te)(W0:W 0 m0 [] H2)(turn:IG σ Îb J g tc te W Fin)(hRR:∀D C s' H' ys m',Inv X zA σ Ĭn s'->H' D=Å->Fin ys H'->s'.heap.Ns C m'->L4 X zA Ĭn s' C->RR új C ēo s'){E:Value->Î->È} :Ø Ą X.A Źn (λacc s3=>Ø Ą X.A (newFunctionEnv Ľ Ϣh cl [] X.env.qual Å .none (À Ú)) (λcenv s4=>
   ğb Ą X.A (.compStart Ĳb 0 äb acc { cenv with Ľ:=relabel Ľ Ú }) (RR acc cenv.locals) s4) E s3) E F:=by
 refine Ðc (wpAny_newFunctionEnv ůj (by intro y hy;simp at hy) (λh4 hns U=>?_) śe);dsimp only at hns U ⊢;generalize hP:F.heap.push ēp=P2 at hns U ⊢;have hC:ĭf=Ŋc+1:=by rw[<-hP,ϙa]
 let Q:Ŋc≠ĭf:=by rw[hC];show Ϗ ϕc
 let f:Ŋc<=ĭf:=by rw[hC];show ńf _
 let R:∀b o,Êo b=À o->h4.get? b=À o:=λb o e=>
  U.extBut b o (Ϗ èo) (ė _ (hP▸ė _ e))
 let hd4:h4.get? Ŋc=À ēp:=U.extBut _ _ Q (ė _ (hP▸ű _ rfl));let hfo:∀b∈l,∃o,Êo b=À o:=λb d=>let ⟨o,e,_⟩:=Ŵe 0 _ t0 b d;{o,e}
 let lt:∀b∈l,b<Ŋc:=λb d=>let ⟨o,e⟩:=hfo b d;ġ e
 generalize hDD:Ŋc=D at Q hd4 ⊢;generalize hCC:ĭf=C at Q hns U f ⊢;let t:Ŋc<=D:=Łb hDD
 let +zeta X':=vN X Ľ cl own C F H2 l (Èc++zA)
 let hpn:∀p∈X'.pn,p.1≠D:=λp hp z=>by let{e,_}:=ĺa p hp;rw[z]at e;show Ý (Š ċc t) Ĉa
 let okb:=bw I śe ůj B.On B.ok f G hfo
 let Y:∀{k:Â}{a:Á Value}{H':Hp},(∀b∈l,H' b=Å)->∀b∈l,jh X' ĵf H' b:=λ{k a H'} hn b d=>
  ⟨hn b d,Ÿn.1,okb.UC b d,.inl d,Ÿn.2,λp hp=>by
   rcases ż hp with z|z;show ŉd.2.2.2.2.2 p z;let q:p=(D,uV a k):=by simpa using z
   subst q;show λz=>Ý (lt b d) (by rw[<-z];show Îe t)⟩
 have loop:∀s4:Î,s4={ F with ç:=h4,đ:=F.toks+([]:Á îc).length }->
   ğb Ą X.A (.compLoop Ĳb 0 äb új (compEnvC Ľ cl C Ú)) (RR új C) s4:=by
  rintro s4 rfl
  show z99 (λn s'=>∃(i:Â) (ys:Á V) (a:Á Value) (k:Â) (H':Hp),Inv X' ĵf èd H' s'/\zl ys a/\tn i Ϗc/\(∀b∈l,H' b=Å)/\W i n ys H'/\Ś<=ã) ?_ m0
   {0,[],[],0,H2,z1w I śe ůj B.On B.ok f t Q G hfo R hns hd4 fX,.nil,ře _ _ _ t0 λb _ o e=>R b o e,λb d=>ŉd.1,W0,ϐ _}
  rintro n s5 ⟨i,ys,a,k,H5,I5,v5,st5,fr5,w5,z5⟩;rcases turn i n ys H5 w5 with⟨Ϣ,fin⟩|⟨go,room,N,hN,ļa⟩
  .show Ħa (T.done X' rfl rfl rfl S i _ s5 _ H5 ðc I5 (Y fr5) st5 Ϣ) (λr s6 ⟨hr,I6⟩=>?_) λ_ _ z=>z
   subst hr;let{e6,n6,ne6,nf6,d6}:=I6.pin (D,uV a k) ço;let{m6,ns6,_}:=I6.loc;let u6:Un îj l H2 ϱh F.heap s6.heap:=x6q I6.base t n6;let new6:xT õ X.w ϱh s6.heap D ύb:={z5,a,k,v5,e6};let I7:Inv X zA σ ϱh s6:=I.DV I6.os u6 (e8 I6.zh n6 new6) I6.bare (λb d=>{ŉd.2.2.2.1,ŉd.2.1,ŉd.2.2.2.2.1,ŉd.2.2.2.2.2});show hRR D C s6 H5 ys m6 I7 n6 fin ns6 {?_,?_,?_,λx c hcx z=>?_,λp hp z=>?_}
   .rw[yH (śb Q)];show I6.free
   .show λz=>Ý I.lt (by rw[<-z];show Îe f)
   .show ĉ I.sz f
   .subst z;let{v,o,ho,_}:=Ĵa x c hcx;show Ý (Š (ġ ho) f) Ĉa
   .let{e,_}:=ĺa p hp;rw[z]at e;show Ý èo Ĉa
  .show Ħa (T.item X' rfl rfl rfl S i _ s5 _ H5 ðc I5 (Y fr5) st5 go) (λr s6 ⟨u,hr,h6⟩=>?_) λ_ _ z=>z
   subst hr;show Ħa h6 (λ_ s7 ⟨x,H7,I7,r7,y7,st7,fr7⟩=>?_) λ_ _ z=>z
   let I7':=I7.pinned (Y fr7) (Ŵe _ _ st7);show Ħa (hg C F H2 l _ _ s7 _ H7 x u _ I7' r7 (ļa x H7 y7)) (λ_ s8 ⟨σ8,H8,I8,⟨τ,hτ⟩,q8⟩=>?_) λ_ _ z=>z
   subst hτ
   have back:∀{n':Â}{P:Á V}{m:Á Value}{k':Â}{L:Hp}{O:Î}{pl:Á ô},Inv X' ((D,uV m k')::pl) àj L O->zl P m->tn î ħg->(∀b∈l,L b=Å)->W î n' P L->òa<=ã->
     ∃(i:Â) (ys:Á V) (a:Á Value) (k:Â) (H':Hp),Inv X' ĵf èd H' O/\zl ys a/\tn i ħg/\(∀b∈l,H' b=Å)/\W i n' ys H'/\Ś<=ã:=λ{n' P m k' L O pl} Z v9 st9 fr9 w9 z9=>by
    let I9':Inv X' [(D,uV m k')] àj L O:=Z.Qd λp hp=>Z.pin p (Ġa _ (by
     let q:p=(D,uV m k'):=by simpa using hp
     subst q;show Ĝ))
    show{i+1,P,m,k',L,I9'.weak ?_ (λj v e=>?_),v9,st9,fr9,w9,z9}
    .rw[I9'.len,<-I5.len]
    .let e':=Lu e;rw[ľa (ķ e').1];show e'
   let h:∀{σ9:St}{L:Hp}{O:Î},Inv X' (ĵf++IX l s7.heap) σ9 L O->tn î ħg/\∀b∈l,L b=Å:=λ{σ9 L O} Z=>
    {ře _ _ _ st7 λb d o e=>Ĳk.1,λb d=>by let{o,e,_}:=Ŵe _ _ st7 b d;show Ĳk.2.1}
   show Ħa (hc C F H2 l _ _ s8 _ H8 _ I8 q8) (λc O ⟨L,Z,q9⟩=>?_) λ_ _ z=>z
   cases c with
   |Ä=>
    rw[Ñ Ħ]at q9 ⊢;let{m',hm,w9}:=hN _ _ q9;show{m',hm,back Z v5 (h Z).1 (h Z).2 w9 z5}
   |Ã=>
    rw[Ð rfl]at q9 ⊢;show Ħa (he C F H2 l _ _ O _ L _ Z q9) (λyv sa ⟨y,Ha,Ia,ra,qa⟩=>?_) λ_ _ z=>z
    let{m',hm,wa}:=hN _ _ qa;let{ea,na,_}:=Ia.pin (D,uV a k) (Ġa _ (ŭb _ Ĝ))
    let szi:Żb<=ã:=by let:=v5.length;simp only[ĥ];omega
    show wpAny_list_append_plain (hsz:=szi) {k,ea} λd hlb hsb'=>?_
    let{kb,eb}:=hlb;let eb':d.get? D=À (uV ĥp kb):=by rw[eb];simp
    let Ib:Inv X' [(D,uV ĥp kb)] àj Ha { sa with ç:=d,đ:=sa.toks }:=z7p (tk:=sa.toks) Ia t hpn hsb' eb';let stb:tn î d:=ře _ _ _ (h Ia).1 λb hbf o e=>(hsb'.2 b (λz=>Ý (lt b hbf) (by rw[z];show Îe t))).trans e
    show{m',hm,back Ib (źf v5 (.cons ra .nil)) stb (h Ia).2 wa (by rw[è];show room)}
 show codeAny_compStart_list żn (T.self X.A 0 _ _ _ (ře _ _ _ t0 λb _ o e=>R b o e) żn)
def x2k(n:Â)(wi:TI)(g:TG)(tc:TT)(te:TE):TE:=λσ H Q=>wi σ H λJ c=>∃W:Â->Â->Á V->Hp->È,(∃m,W 0 m [] c)/\
 IG σ n J g tc te W λb a=>∀p,a p=Å->Q Ŭ ıh
def L4.inv{a:Á ô}{σ:St}{H:Hp}{s:Î}{C:Ë}{h':Heap}(o:L4 X a H s C)(I:Inv X a σ H s)(c:ũa C á h'):Inv X a σ H { s with ç:=h' }:=
 ñb (it:=C) (t':=Đ) (λb u d q=>(c.2 b d).trans q) o.free o.ne (.inr o.old) o.cell o.pin
def l7(a:Ů=Ã)(B:Yy X Ľ cl own)(hi:PI X tg Ŵ wi)(t:∀C s H fp pn,PG éa tg g)(z:∀C s H fp pn,Wm éa ifs tc)(K:∀C s H fp pn,PE éa elt te)(m:Í (∀x,Ðb Ŵ Ú x=pure x) q11) :PE X Ĳb (x2k Îb wi g tc te):=by intro l s σ H Q I h;rw[eval_ListComp];show Ůk (use:=Å) rfl m B.Oo śe B.names (zw (hi l s σ H _ I h) λv S r=>zw r λL N p=>?_);let{P,fp,O,J,U,e,o,T,c,n,W,{Y,u},b}:=p;subst e;show bz (RR:=λf C=>compPost Ą X.A ĩ Å (EP X l σ Q) f C) a B o T c n t z K u b ?_;intro D C Z F q G y E k i j;show{G,i,λR d=>{.ref D,ze F D (.lst q),j.inv y d,rfl,k D E}}
def x2x(i n:Â)(wi:TI)(g:TG)(tc:TT)(te:TE):TS:=λD σ H=>wi σ H λJ c=>∃W:Â->Â->Á V->Hp->È,(∃m,W 0 m [] c)/\
 IG σ n J g tc te W λb a=>∀p,a p=Å->Çb Ìf ıh
def lV{i:Â}{x:Ç}{f c:Pos}(d:Ů=Ã)(S:Āa)(l:X.N[i]?=À x)(F:Æd x=À .local)(B:Yy X Ľ cl own)(n:ņb Ĳb (À Ĕo) c.line Ú=pure Ã)(hi:PI X tg Ŵ wi)(Y:∀C s H fp pn,PG éa tg g)(hc:∀C s H fp pn,Wm éa ifs tc)(he:∀C s H fp pn,PE éa elt te)(G:Í (∀x,Ðb Ŵ Ú x=pure x) q11) :PS X (.Assign [.Name x f] Ĳb c) (x2x i Îb wi g tc te):=by
 intro p s σ H D I h;rw[exec_Assign_Name_used _ _ _ _ n];show Ó (ôh Ņf);exact Ø _ X.A (do let _ <-comprehension Ĳb Ľ Ú _ Źn Ä (ě Ŵ Ú) Āp) _ _ s
 refine Ó (zw (Ůk (use:=À ăk) (Q:=λ_ j=>SP X p D .next j) rfl G B.Oo śe B.names
  (zw (hi p s σ H _ I h) λv s1 U=>zw U λitv s2 P=>?_)) λ_ j hq=>ò (ò hq))
 let{it,fp,tn,J,H2,e,O,T,m,K,W,{m0,Z},k}:=P;subst e;show bz (RR:=λq C=>compPost Ą X.A ĩ Āp (λ_ j=>SP X p D .next j) q C) d B O T m K Y hc he Z k ?_;intro L C j H' R m' I' n' E t b;exact Ø _ X.A (Ϲb Ĕo Ú (.ref L)) _ _ j;show ćm (oR I' S l (.inl F) (v:=.ref L) rfl (λs3 I3 q3=>?_) (.inr F));let{a,r,ha}:=q3
 let u:C≠a:=by rcases ha with z|z;rw[z];show b.ne;show λy=>b.cell x a z y.symm
 show{m',t.sameBut r u,λh' o=>?_};show{_,_,L4.inv (H:=ze H' L (.lst R)) {b.free,b.ne,b.old,b.cell,b.pin} I3 o,E L n'}
#print a
structure QE(X:Cx)(e:Õ)(t:TE):È where
 h:PE X e t
structure QA(X:Cx)(es:Á Õ)(t:TA):È where
 h:PA X es t
structure QS(X:Cx)(st:Ü)(t:TS):È where
 h:PS X st t
structure QG(X:Cx)(e:Õ)(t:TG):È where
 h:PG X e t
structure L6(X:Cx)(es:Á Õ)(t:ZE):È where
 h:JB X es t
structure QI(X:Cx)(tg e:Õ)(t:TI):È where
 h:PI X tg e t
section
variable{X:Cx}{x:Ç}{p pos Ça ύ ş:Pos}{e a b c o:Õ}{es:Á Õ}{te to:TE}{t:TA}{r:R2}{v:V}{T id:æa}{j k i:Â}
def qv(i:Â){x:Ç}{pos:Pos}(b:Í òd q12)(hv:Í ėd q13)(c:Í Ł q10)(a:Í Ŭb q10):QE X ía ýb:={VU b hv c a}
def y7f(h:vB ð x v)(b:Gl X x)(a:Í Ł q10):QE X ía Ţe:={IW h b a}
def y7e(d:Gl X x)(a:ð x=Å)(hv:ž x=À Ĝb)(b:Í Íb q10)(c:Í Ł q10):QE X ía ųn:={y5l d a hv b c}
nonrec def KL:Õ->Ï
 |.Name ..=>Ã|.Call ..=>Ã|.Subscript ..=>Ã|.Attribute ..=>Ã|.Constant ..=>Ã|.List ..=>Ã|.Tuple ..=>Ã|.BinOp ..=>Ã|_=>Ä
def lH{e:Õ}{env:Env}(h:KL e=Ã):∀Ġc,œd e env Ġc=(do let v <-Ġc;standAt e.pos;holding [v] Ŏo):=by cases e<;>first|(intro _;rfl)|cases h
def Kg:QA X [] Vo:={VS}
def Mi(a:QE X e te)(b:QA X es t)(h:Í ÿa q12):QA X ď Ĩp:={Xh a.h b.h h}
nonrec def Xi:Õ->Ï
 |.Name ..=>Ã|.Constant ..=>Ã|.BinOp ..=>Ã|.Call ..=>Ã|.UnaryOp ..=>Ã|.Subscript ..=>Ã|.Attribute ..=>Ã|_=>Ä
def Ma{b:Õ}(h:Xi b=Ã):bO b:=by cases b<;>first|(intro _ _;rfl)|cases h
def Ij{r:Á V->Hp->VK->È}(g:wu X Úb r)(i:Gl X x)(f:ð x=Å)(hv:ž x=À Úb)(c:QA X ď t)(d:Í Íb q10)(a:Í Ł q10)(b:Í Üa q12):QE X Ľa Üg:=by rw[Ų,Č]at b;show{y5o g i f hv c.h d a (tm b.1) (ZX b.2)}
def Xk{r:Á V->Hp->VK->È}(g:wu X Ĝb r)(i:Gl X x)(f:ð x=Å)(hv:ž x=À Ĝb)(c:QA X ď t)(d:Í Íb q10)(a:Í Ł q10)(b:Í Üa q12):QE X Ľa Üg:=by rw[Ų,Č]at b;show{y5q g i f hv c.h d a (tm b.1) (ZX b.2)}
variable{g:TG}
nonrec def TQ:Õ->Ï
 |.ListComp ..=>Ä|.SetComp ..=>Ä|.DictComp ..=>Ä|_=>Ã
def iD{e:Õ}{a:É Õ}{n:Â}{env:Env}(h:TQ e=Ã):ņb e a n env=pure Ä:=by cases e<;>first|rfl|cases h
def Mj(b:QE X e te)(a:Í Āe q12):QS X ϻh (ox te):={lR b.h (iD a)}
def Ml{i:Â}{x:Ç}{Ça:Pos}(d:Āa)(hi:X.N[i]?=À x)(b:qg Ïa x)(c:QE X e te)(a:Í Āe q12)(f:Í Şa q7) :QS X ŷd (BK te ϸb):={lU d hi b c.h (iD a) f}
def yz{i:Â}{x:Ç}(b:Āa)(hi:X.N[i]?=À x)(a:qg Ïa x)(c:Í Şa q7):QG X ía ϸb:={y69 b hi a c}
def mI{o i:Õ}{to a:TE}{t:L7}(d:QE X o to)(hi:QE X i a)(b:FK X t)(c:Í (Xi i=Ã) q12):QG X òh (dS to a t):=by show{y6a d.h Ħc b ?_};cases i<;>first|(intro _;rfl)|cases c
def Va:L6 X [] V2:={y6d}
def pp{t:TG}{u:ZE}(c:QG X e t)(b:L6 X es u)(a:Í ((ģn).map (·.2)=Ϲb e Ú::(όd).map (·.2)) q12):L6 X ď (jw t u):={y6c c.h b.h a}
def VZ{k:Â}{t:ZE}{n:Â}(c:Ů=Ã)(h:L6 X es t)(b:Í ūm q12)(a:Í ((όd).findIdx? (·.1)=Å) q12):QG X Ĵm Ϗn:={y6b c h.h b a}
variable{ī:Ç}{rm:V->Á V->Hp->VK->È}
theorem oO{env:Env}{pos:Pos}:∀{es:Á Õ},es.all xC=Ã->(Þm).all Ęi=Ã
 | [],_=>rfl|e::es,h=>by rw[Ų,Č]at h;rw[tm h.1];let a:=oO (env:=env) (pos:=pos) h.2;unfold ěc at a ⊢;rw[ľ,Ų,a];rfl
def Ta(j:ŝf T)(c:Slot T ī id)(f:ėg Úb=pure Ϧe)(m:Ur X id rm)(k:QE X o to)(l:QA X ď t)(a:Í Ϗe q12)(b:Í Éb q12)(d:Í Üa q12)(i:Í ((ď).length<30) q10) :QE X ĥl (oi X.K T rm to t):={by let g:=oO (env:=Ú) (pos:=ş) d;rw[Ų,Č]at d;show y5j j c f m k.h l.h a ?_ b (tm d.1) (ZX d.2);rw[g];exact(Ã&&Ã&&decide ((ď).length+0+0<30))=Ã;rw[ù (show(ď).length+0+0<30 from i)];rfl}
#print a
def bT(K:Ô)(H:Hp)(a c:Ë)(xs ys:Á V):È:=(xJ K H a xs/\xJ K H c ys)\/(ya K H a xs/\ya K H c ys)
section
variable{X:Cx}{zA:Á ô}{σ:St}{H:Hp}{s:Î}
def y85{A:ø}{a c:Ë}{xs ys:Á V}{e:Â->Ï}(I:Inv X zA σ H s)(i:ŗa<Ϙ)(R:bT X.K H a c xs ys)(O:∀(j:Â) x' y' u v,xs[j]?=À x'->ys[j]?=À y'->zy x' u->zy y' v->ŋb Ãb s u v (e j)) :ľi A s Ō àg ((ýh).all e&&ì==Ś)/\Úi A s Ō àg (!((ýh).all e&&ì==Ś)):=by
 let f:∀{x:Á V}{b:Á Value}{j:Â}(P:j<Ēb),zl x b->∃z,x[j]?=À z/\zy z ëb[j]:=λ{x b j} P r=>by
  let C:=Ϟ
  let m:j<Ϥb:=by rw[ĥ]at P;omega
  let{u,w,Q}:=ϋa (Ē m);show{_,Ē m,?_}
  let:ëb[j]=u:=by let y:b[j]?=À b[j]:=Ē Ê;rw[y]at w;simpa using w
  rw[this];show Q
 rcases R with⟨L,G⟩|⟨L,G⟩;let{b,t,h,_}:=Øa L;let{g,l,pc,_}:=Øa G;let N:=Ŵa;let y:=ϥb
 let d:∀j (o:j<Ēb) (n:j<čf),ŋb Ãb s ëb[j] Ϝo[j] (e j):=λj o n=>by rw[ϊp]
 let p:=SeqAt.RcAt.tuples (e:=e) h pc i d;let q:=SeqAt.RcNeAt.tuples (e:=e) h pc i d;rw[ĥ,ĥ,<-N,<-y]at p q;show{p,q};let{b,t,h,_}:=ϗ L;let{g,l,pc,_}:=ϗ G;let N:=Ŵa;let y:=ϥb
 let d:∀j (o:j<Ēb) (n:j<čf),ŋb Ãb s ëb[j] Ϝo[j] (e j):=λj o n=>by rw[ϊp]
 by_cases C:ì=Ś;let k:Ēb=čf:=by rw[ĥ,ĥ];omega
 let p:=SeqAt.RcAt.lists (e:=e) ϻf žf k i d;let q:=SeqAt.RcNeAt.lists (e:=e) ϻf žf k i d;let e1:min ì Ś=Ēb:=by rw[ĥ];omega
 let e2:ķo=Ã:=by simp[C]
 rw[e1,e2,ϩh];show{p,q};let k:(Ēb != čf)=Ã:=by rw[ĥ,ĥ];simp;omega
 let e2:ķo=Ä:=by simp[C]
 rw[e2,Ñn];show{SeqAt.RcAt.lists_lengths ϻf žf k i,SeqAt.RcNeAt.lists_lengths ϻf žf k i}
def M1(A:ø):A.in1.units=ŗa+1:=rfl
#print a
def z4c{x:V}(h:jM x=Ã):pS x x=Ã:=by cases x<;>first|rfl|show ϗa _|cases h
open ęj (hideAll)
#print L2
namespace L2
open Ķ ő Ň
section
variable{H H':Hp}{a C:Ë}
def z0u(a C:Ë)(h:Heap):È:=∃o vs,ę a=À o/\Áb=.ref C/\ϩ=.fields vs
def x6r{fs ex:Á Ë}{H H':Hp}{h h':Heap}{D:Ë}{o:HO}(u:Un fs ex H H' h h')(f:ę D=Å)(d:H' D=Å):Un fs ex H ño h h' where
 Śa:=Œe
 slot:=ĕg
 free:=λb c q n i=>by rw[yH (λz=>by subst z;rw[f]at q;cases q)];show Ėg b c q n i
 Łg:=ìg
 qE:=λb e q=>by rw[yH ϳl];show u.qE b e q
 uf:=λb c v q=>by rw[yH Ŀl];show u.uf b c v q
 pF:=λb g q=>by rw[ϥp]
#print a
section
variable{X:Cx}
def rS{ns:Á Æ}{its:Á Value}(r:zl æb its){i:Â}{v:Value}(h:ϝ[i]?=À v):∃t,v=.int Ðp t:=by
 let d:i<Ϣa:=by rw[Ód]at h;show Ϭa.1
 let e:Ŝ=Ϣa:=by let:=Ϟ;rw[å]at this;rw[Œp]
 let b:æb[i]?=À (Ε Ðp):=by rw[ņ,Ŷ,Ē Ê];rfl
 let{u,a,c}:=ϋa b;rw[Ód,a]at h;cases h;show c
theorem KP{ns:Á Æ}:∀(k:Â),k<=Ŝ->Ŕe Ün k=(Ŏf).sum
 |0,_=>by simp[Ŕe]|k+1,h=>by rw[Ŕe,KP k Ê,Ïc Ê,List.sum_append,Ŷ,Ē Ê];exact _+ns[k]=_+(ns[k]+0);rw[Int.add_zero]
def bV(ns:Á Æ):È:=(∀n∈ns,ĩg n)/\∀k,k<=Ŝ->ĩg (Ŏf).sum
def mV(K:Ô):Á V->Hp->VK->È:=λa H Q=>∃(p:Ë) (ns:Á Æ),a=Ĥd/\(ya K H p æb\/xJ K H p æb)/\bV ns/\Q (.int Řj) H
def oX{ns:Á Æ}(h:bV ns):∀j,j<Ŝ->ĩg (Şf j 0)/\ĩg (Ŕe Ün Ϫ):=λj a=>by show{h.1 _ ?_,?_};rw[Ŷ,Ē a];show ŷb a;rw[KP _ Ê];show h.2 _ Ê
def z2v(F:Ů=Ã):wu X ũm (mV X.K):=by
 intro J s σ H L N Q I r h;let{p,d,rfl,w,B,q}:=h;let{u,rfl,E}:=uq r;cases E;let A:=óa F;let e:Ŕe (λi=>Ġg i 0) Òa=d.sum:=by rw[KP _ Ġ,Ňc]
 show call_sum_walk ?_;rcases w with w|w;let{a,t,j,C}:=ϗ w;rw[ϣp]
 let c:p<Û:=by let{o,n,e,_}:=j;show ġ e
 show Éd j.isList ?_;refine{_,_,_,_,_,_,λi=>Ġg i 0,rfl,ħo Ĉo Û p ĵj Ϧa,{{_,ű _ rfl,rfl,rfl},j.isList.push _},?_,λi v y=>rS t y,?_,?_};rw[Ŷp];rcases m with rfl|rfl;rw[žp]
 show⟨.int d.sum,H,ŗd (t':=x) λb o g=>k b o (λz=>by
  rw[Ëq]
  rw[ϸp]) Ϛi,{_,rfl},q⟩
 let{a,t,j,C}:=Øa w;rw[ϣp]
 let f:õd p Ϧa:=j;let c:p<Û:=by let{o,e,_}:=f;show ġ e
 show Àh f ?_;refine{_,_,_,_,_,_,λi=>Ġg i 0,rfl,Walks.tuple Ĉo Û p ĵj Ϧa,{{_,ű _ rfl,rfl,rfl},f.push _},?_,λi v y=>rS t y,?_,?_};rw[Ŷp];rcases m with rfl|rfl;rw[žp]
 show⟨.int d.sum,H,ŗd (t':=x) λb o g=>k b o (λz=>by
  rw[Ëq]
  rw[ϸp]) Ϛi,{_,rfl},q⟩
def x75{a:Á Ï}{its:Á Value}(r:zl Ĳo its){i:Â}{v:Value}(h:ϝ[i]?=À v):v=.bool ôn:=by
 let e:i<Ϣa:=by rw[Ód]at h;show Ϭa.1
 let f:ăa=Ϣa:=by let:=Ϟ;rw[å]at this;rw[Œp]
 let c:Ĳo[i]?=À (.bl ôn):=by rw[ņ,Ŷ,Ē Ê];rfl
 let{u,b,d}:=ϋa c;rw[Ód,b]at h;cases h;show d
def y83{d:Á Ï}:(Ûa Òa).all (λi=>Ġg i Ä)=d.all id:=by
 rw[Œc,Ōm,Ōm]
 rw[ϱp];intro h b e;let{i,c,rfl}:=List.mem_iff_getElem.mp e;let:=h i (úa c)
 rwa [Ŷ,Ē c]at this;intro h i c;let a:=ϫd c;rw[Ŷ,Ē a];show h _ (ŷb a)
def mK(K:Ô):Á V->Hp->VK->È:=λa H Q=>∃(p:Ë) (bs:Á Ï),a=Ĥd/\ya K H p (ġg V.bl)/\Q (.bl (bs.all id)) H
def z2e(y:Ů=Ã):wu X Ūm (mK X.K):=by
 intro E s σ H G J Q I r h;let{p,f,rfl,A,q}:=h;let{u,rfl,w}:=uq r;cases w;let m:=óa y;show call_all_walk ?_;let{a,j,c,C}:=ϗ A;let t:ĭa=Żb:=by let:=İa;rw[å]at this;rw[ĥ];rw[Œp]
 let d:p<Û:=by let{o,n,e,_}:=c;show ġ e
 show Éd Äg ?_;refine{_,_,_,_,_,_,λi=>f.getD i Ä,rfl,ħo (by show m) Û p (Ϗ d) Ϧa,{{_,ű _ rfl,rfl,rfl},c.isList.push _},?_,?_};intro i v F L N B l;rw[x75 j B];show ò l;intro l x k;rw[<-t,y83]
 show⟨.bl (f.all id),H,ŗd (t':=x) λb o g=>k b o (λz=>by
  rw[Ëq]
  rw[ϸp]) Ϛi,rfl,q⟩
#print a
open Builtin.SmallTypes (ϴb)
structure Wn(P:ï)(w:æ)(it l:Ë)(st:Â->Heap->È)(n:Â)(val:Â->Value):È where
 Śa:∀i h h',st i h->(∀b o,(b=it\/b=l)->ę b=À o->Ċ b=À o)->st i h'
 ăb:∀{A:ø}{Q:Value->Î->È}{E:Value->Î->È}{s:Î}(i:Â),st i á->i<n->(∀h',st î h'->ũa it á h'->Q (val i) { s with ç:=h' })->Ø ŉb A ϗf Q E s
 done:∀{A:ø}{Q:Value->Î->È}{E:Value->Î->È}{s:Î}(i:Â),āa=Å->st i á->n<=i->
  (∀h' e,Éo it á h'->(∃o,Ċ e=À o/\Áb=.type Ød)->E ßg { s with ç:=h' })->Ø ŉb A ϗf Q E s
section
variable{ă:ï}{w:æ}{A:ø}{E:Value->Î->È}{s:Î}
def y0s{it t:Ë}{i:Â}{z6}{x:Value}{Q:Value->Î->È}(a:Ðm it t i)(h:õd t z6)(j:z6[i]?=À x)(g:∀h',h'.IsTupleIter it t î->ũa it á h'->Q x { s with ç:=h' }):Ø é A ϗf Q E s:=by
 let{o,c,f,b}:=id a;let{k,e,_,l,d}:=h;unfold ϴb
 show Ó (Ϻc (ī:=ła ũc) a.typeIs Ϛe
  (ĉb Ϛe a.typeIs ōk ?_ ĳk))
 show Ó (m:=Ģc äb 0) (Ĉb c b (x:=.ref t) rfl ?_);rw[ϰp];show Ó (m:=Ģc äb 1) (Ĉb c b (x:=.int i 0) rfl ?_);show Ó (m:=seqItems? (.ref t)) (Ċb e d ?_);simp only[ē,j];refine Ó (éh c b ó (ò {x,rfl,ò (g _ ?_ Ýj)}))
 show{_,Ôd _ c (Obj.isFreed_of_fields (Öm b _)),(Obj.cls_mapFields ..).trans f,by rw[Öm b];simp[ϋ]}
def y0r{it t:Ë}{i:Â}{z6}{Q:Value->Î->È}(h:āa=Å)(b:Ðm it t i)(k:õd t z6)(l:z6[i]?=Å)(j:∀h' e,Éo it á h'->(∃o,Ċ e=À o/\Áb=.type Ød)->E ßg { s with ç:=h' }):Ø é A ϗf Q E s:=by
 let{o,d,n,f}:=id b;let{p,g,_,q,c}:=k;unfold ϴb
 show Ó (Ϻc (ī:=ła ũc) Ĥe Ϛe
  (ĉb Ϛe Ĥe ōk ?_ ĳk))
 show Ó (m:=Ģc äb 0) (Ĉb d f (x:=.ref t) rfl ?_);rw[ϰp];show Ó (m:=Ģc äb 1) (Ĉb d f (x:=.int i 0) rfl ?_);show Ó (m:=seqItems? (.ref t)) (Ċb g c ?_);simp only[ē,l];refine Ó (Ýd (Ó (éh d f ó ?_)));show Ó (m:=ěg ġi []) ?_;simp only[ěg,newTuple];show Ó Ţn;refine Ó (m:=Ån _ _) (ăi (a:=Ėb) ük ?_);show Ðc ?_ úh;simp only[Æj];show Ó ém
 first|rw[show ėn=Å from h]|rw[h]
 show Ó (ò (Ϩn ?_));show j _ _ (((Ýj).extBut.push _).push _) {_,ű _ rfl,rfl}
def x1q{it l:Ë}(c:l≠it)(z6:Ù Value):Wn ă w it l (λi h=>Ôi it l i/\h.IsList l z6) ł Ôh where
 Śa:=λi h f st k=>{st.1.at λo e=>k it o Ŗ e,st.2.at λo e=>k l o ýc e}
 ăb:=λi st b m=>wpAny_nextOf_list_item st.1 st.2 (x:=z6.getD i .none) ţm λf a d=>m f {a,st.2.extBut ģe c} d
 done:=λi j st b g=>wpAny_nextOf_list_end j st.1 st.2 (Ϲe b) g
def x1r{it l:Ë}(c:l≠it)(z6:Ù Value):Wn ă w it l (λi h=>Ċn it l i/\ϙo l z6) ł Ôh where
 Śa:=λi h f st k=>{st.1.at λo e=>k it o Ŗ e,st.2.at λo e=>k l o ýc e}
 ăb:=λi st b m=>y0s st.1 st.2 (x:=z6.getD i .none) ţm λf a d=>m f {a,st.2.extBut ģe c} d
 done:=λi j st b g=>y0r j st.1 st.2 (Ϲe b) g
variable{z TI TO i1 i2 l1 l2:Ë}{st1 st2:Â->Heap->È}{n1 n2:Â}{v1 v2:Â->Value}{a b:Value}{k:Â}
def x7x{Q:Value->Î->È}(D:Ħe z TI TO i1 i2 l1 l2)(N:Wn ă w i1 l1 st1 n1 v1)(K:Wn ă w i2 l2 st2 n2 v2)(hz:Âb á z TI TO .none)(X:ĳa á TI ģd ϥf)(U:ĳa á TO a b)(h1:st1 k á)(h2:st2 k á)(k1:k<n1)(k2:k<n2)(hi1:i1<Û)(hi2:i2<Û)(hl1:l1<Û)(hl2:l2<Û)(hQ:∀h',Âb h' z TI TO (ϋ Û)->ĳa h' TO řd Ĳg->st1 Ş h'->st2 Ş h'->ĳa h' Û řd Ĳg->
   (∀c o,c≠z->c≠TO->c≠i1->c≠i2->ö c=À o->Ċ c=À o)->Q Ēa { s with ç:=h' }) :
  Ø é A Ģk (λfin s'=>∃v,fin=.done (.ret v)/\Q v s') E s:=by
 rw[ϧp];show Ó (Ċb X rfl ?_);rw[Ųp];refine Ó (Çd hz ó λha u B=>?_)
 replace u:Âb ha z TI TO .ellipsis:=u
 rw[èq];let Y:st1 k ha:=ŧj k _ _ h1 λc o J e=>Īe c o (by rcases J with rfl|rfl;show Őg;show D.l1z) e
 show Ó (Ψa (Ó (m:=ϴb ģd) (N.item k Y k1 λhb Z y=>ò ?_)));let l:ĳa hb TO a b:=Ěe _ _ D.TOi1 (Īe _ _ őg U);show Ó (Ċb l rfl (Ó (ϧg l λJ h t=>?_)))
 replace h:ĳa J TO řd b:=h
 show Ó Ëp
 let O:st2 k J:=Ũj k _ _ h2 λc o d e=>by rcases d with rfl|rfl;show ĩd _ _ Ēi (Ěe _ _ įo (Īe _ _ ŏg e));show ĩd _ _ ŭj (Ěe _ _ D.l2i1 (Īe _ _ D.l2z e))
 show Ó (Ψa (Ó (m:=ϴb ϥf) (K.item k O k2 λhd T C=>ò ?_)));let n:ĳa hd TO řd b:=ĩe _ _ D.TOi2 h;show Ó (Ċb n rfl (Ó (ϧg n λg f p=>?_)))
 replace f:ĳa g TO řd Ĳg:=f
 show Ó (ϒl Ϝi);show Ó (Ċb f rfl (Ó (êh ?_)));let G:Ŗc=Û:=by rw[p.1,C.1,t.1,y.1,B.1]
 let F:Âb g z TI TO .ellipsis:=Īd _ _ ńi (ĩe _ _ Įo (ĩd _ _ ńi (Ěe _ _ Ńi u)))
 let hke:∀c o,c≠z->c≠TO->c≠i1->c≠i2->ö c=À o->şj c=À o:=λc o q I W S e=>
  Īd _ _ I (ĩe _ _ S (ĩd _ _ I (Ěe _ _ W (Īe _ _ q e))))
 let h1e:st1 Ş g:=ŧj _ _ _ Z λc o d e=>by rcases d with rfl|rfl;show Īd _ _ Ìo (ĩe _ _ D.i12 (ĩd _ _ Ìo e));show Īd _ _ D.l1TO (ĩe _ _ D.l1i2 (ĩd _ _ D.l1TO e))
 let R:st2 Ş g:=Ũj _ _ _ T λc o d e=>by rcases d with rfl|rfl;show Īd _ _ Ēi e;show Īd _ _ ŭj e
 let j:z<Ŗc:=ġ F;show Ó (m:=Ľk ϯb ūo) ?_;unfold Ľk;let P:Âb (g.push { cls:=.type ſ,Ć:=.seq #[v1 k,v2 k] }) z TI TO .ellipsis:=ė _ F;refine Ó (Çd P ó λhg r sg=>?_)
 replace r:Âb hg z TI TO áp:=r
 refine Çd r ó λH i sh=>?_
 replace i:Âb H z TI TO áp:=i
 let L:∀c o,c≠z->şj c=À o->ūj c=À o:=λc o q e=>ϊo _ _ q (ϋo _ _ q ġd)
 let hT:ĳa H Ŗc řd Ĳg:=ϊo _ _ (ņa j) (ϋo _ _ (ņa j) Şc);rw[G]at i hT;show ò {_,rfl,?_};exact Q ūo _;rw[G];show hQ H i (L _ _ őg f) (ŧj _ _ _ h1e λc o d e=>L c o ?_ e) (Ũj _ _ _ R λc o d e=>L c o ?_ e) hT λc o q I W S e=>L c o q (hke c o q I W S e)
 .rcases d with rfl|rfl
  .show Őg
  .show D.l1z
 .rcases d with rfl|rfl
  .show ŏg
  .show D.l2z
def x7w{Q:Fin->Î->È}(N:āa=Å)(D:Ħe z TI TO i1 i2 l1 l2)(L:Wn ă w i1 l1 st1 n1 v1)(R:Wn ă w i2 l2 st2 n2 v2)(hz:Âb á z TI TO .none)(J:ĳa á TI ģd ϥf)(G:ĳa á TO a b)(Z:st1 k á)(W:st2 k á)(O:n1<=k\/n2<=k)(S:∀h' e,(∀c o,c≠z->c≠TO->c≠i1->c≠i2->ö c=À o->Ċ c=À o)->(∃o,Ċ e=À o/\Áb=.type Ød)->E ßg { s with ç:=h' }) :Ø é A Ģk Q E s:=by
 rw[ϧp];show Ó (Ċb J rfl ?_);rw[Ųp];refine Ó (Çd hz ó λT g l=>?_)
 replace g:Âb T z TI TO .ellipsis:=g
 rw[èq];let r:st1 k T:=L.keep k _ _ Z λc o B e=>ăe c o (by rcases B with rfl|rfl;show Őg;show D.l1z) e
 by_cases k1:k<n1;let Y:n2<=k:=by omega
 show Ó (Ψa (Ó (m:=ϴb ģd) (L.item k r k1 λC h1b h=>ò ?_)));let i:ĳa C TO a b:=ġe _ _ D.TOi1 (ăe _ _ őg G);show Ó (Ċb i rfl (Ó (ϧg i λB P u=>?_)));show Ó Ëp
 let v:st2 k B:=R.keep k _ _ W λc o y e=>by rcases y with rfl|rfl;show ϳf _ _ Ēi (ġe _ _ įo (ăe _ _ ŏg e));show ϳf _ _ ŭj (ġe _ _ D.l2i1 (ăe _ _ D.l2z e))
 show Ó (Ψa (Ó (m:=ϴb ϥf) (R.done k N v Y λX e U K=>?_)));let{I,d,f}:=K;let p:Âb X z TI TO .ellipsis:=U _ _ Įo (ϳf _ _ ńi (ġe _ _ Ńi g));let j:e≠z:=λx=>by subst x;rw[p]at d;cases d;simp at f
 show Çd p ó λF _ q=>S F e (λc o n c2 H c4 x=>ϵf _ _ n (U _ _ c4 (ϳf _ _ c2 (ġe _ _ H Ġn)))) {I,ϵf _ _ j d,f};refine Ó (Ψa (Ó (m:=ϴb ģd) (L.done k N r Ê λC e h K=>?_)));let{I,d,f}:=K;let t:Âb C z TI TO .ellipsis:=h _ _ Ńi g;let j:e≠z:=λx=>by subst x;rw[t]at d;cases d;simp at f
 show Çd t ó λF _ q=>S F e (λc o n _ H _ x=>ϵf _ _ n (h _ _ H Ġn)) {I,ϵf _ _ j d,f}
#print a
#print L2
namespace L2
open Ķ ő Ň
def qJ(K:Ô)(b:Ï)(H:Hp)(a:Ë)(xs:Á V):È:=match b with
 |Ã=>xJ K H a xs|Ä=>ya K H a xs
nonrec def Jy(a:Ï):æa:=match a with
 |Ã => "tuple_iterator"|Ä => őh
def qi(b:Ï)(h:Heap)(a:Ë)(its:Ù Value):È:=match b with
 |Ã=>ϙo a its|Ä=>h.IsList a its
def XE(a:Ï)(h:Heap)(it l:Ë)(i:Â):È:=∃o,ę it=À o/\Áb=.type (Jy a)/\ϩ=.fields #[.ref l,.int i 0]
theorem XE.at{a:Ï}{h h':Heap}{it l:Ë}{i:Â}(x:XE a h it l i)(e:∀o,ę it=À o->Ċ it=À o):XE a h' it l i:=let ⟨o,ho,r⟩:=x;{o,e _ ho,r}
theorem qi.push{b:Ï}{h:Heap}{a:Ë}{its:Ù Value}(x:qi b h a its)(o:Obj):qi b (Şj o) a its:=by cases b;show Heap.IsList.push x o;show Heap.IsTuple.push x o
def qi.lt{b:Ï}{h:Heap}{a:Ë}{its:Ù Value}(x:qi b h a its):a<âb:=by cases b;let{o,e,_}:=x;show ġ e;let{o,e,_}:=x;show ġ e
section
variable{ă:ï}{w:æ}{A:ø}{E:Value->Î->È}{s:Î}
def BJ{b:Ï}{it l:Ë}(a:l≠it)(z6:Ù Value):Wn ă w it l (λi h=>XE b h it l i/\qi b h l z6) ł Ôh:=by cases b;show x1q a z6;show x1r a z6
def mH{a:Ï}{l:Ë}{z6:Ù Value}{Q:Value->Î->È}(h:qi a á l z6)(b:Q Ēa { s with ç:=Ía { cls:=.type (Jy a),Ć:=.fields #[.ref l,.int 0 0] } }):Ø é A (Őd řb) Q E s:=by cases a;show Éd (show ϟh l z6 from h) b;show Àh (show õd l z6 from h) b
abbrev Bj(t1:Ï)(h:Heap)(l1:Ë):Heap:=Şj { cls:=.type (Jy t1),Ć:=.fields #[.ref l1,.int 0 0] }
abbrev Bk(t1 t2:Ï)(h:Heap)(l1 l2:Ë):Heap:=(ϒn).push { cls:=.type (Jy t2),Ć:=.fields #[.ref l2,.int 0 0] }
abbrev Bl(t1 t2:Ï)(h:Heap)(l1 l2:Ë):Heap:=(üm).push { cls:=.type ſ,Ć:=.seq #[.ref âb,.ref (ϒn).objs.size] }
abbrev Bm(t1 t2:Ï)(h:Heap)(l1 l2:Ë):Heap:=(ûm).push { cls:=.type ſ,Ć:=.seq #[.none,.none] }
abbrev Q2(t1 t2:Ï)(h:Heap)(l1 l2:Ë):Heap:=(Bm t1 t2 h l1 l2).push { cls:=.type Ķa,Ć:=.fields #[.none,.bool Ä,.bool Ä,.ref (üm).objs.size,.ref (ûm).objs.size] }
def x81(b t2:Ï)(a c:Ë)(xs ys:Ù Value) :Meets (Builtin.«zip.__new__» {[.type Ķa,.ref a,.ref c],[]}) (λ_ R s=>qi b á a xs/\qi t2 á c ys/\R (.ok (.ret (.ref (Bm b t2 á a c).objs.size))) { s with ç:=Q2 b t2 á a c }):=
 .of_wp λprog w A R s h=>by
  let{l,g,d,n,k}:=s;let{e,i,h}:=h;let m:=sub_zip;let f:qi b (Ϲn {l,g,d,n,k}) a xs:=e;let j:qi t2 (Ϲn {l.push { cls:=.type (Jy b),Ć:=.fields #[.ref a,.int 0 0] },g,d,n,k}) c ys:=qi.push i _
  wp_walk using mH f,mH j
  show{_,rfl,h}
def z2w{b t2:Ï}{a d:Ë}{xs ys:Ù Value}{Q:Value->Î->È}(g:qi b á a xs)(i:qi t2 á d ys)(h:∀h',Âb h' (Û+4) (Û+2) (Û+3) .none->ĳa h' (Û+2) Ēa (.ref Ĳa)->
   ĳa h' (Û+3) .none .none->XE b h' Û a 0->XE t2 h' Ĳa d 0->
   (∀c o,ö c=À o->Ċ c=À o)->Q (.ref (Û+4)) { s with ç:=h' }) :
  Ø é A (įb Đo [.ref a,.ref d]) Q E s:=by
 refine callType_new F.called_zip Ò (F.typeCall_zip_2 _ _) (F.newCall_zip_2 _ _) (λk=>F.args_object_init_3 k _ _) F.entry_zip_new (x81 b t2 a d xs ys) {g,i,?_};let e:(Bj b á a).objs.size=Û+1:=ϙa ..;let j:(Bk b t2 á a d).objs.size=Û+2:=by rw[ϙa,e]
 let f:(Bl b t2 á a d).objs.size=Û+3:=by rw[ϙa,j]
 let m:(Bm b t2 á a d).objs.size=Û+4:=by rw[ϙa,f]
 let l:(ϱd).get? (Bm b t2 á a d).objs.size=À _:=ű _ rfl;let p:(ϱd).get? (Bl b t2 á a d).objs.size=À _:=ė _ Şc;let n:(ϱd).get? (Bk b t2 á a d).objs.size=À _:=ė _ (ė _ Şc);let q:(ϱd).get? (Bj b á a).objs.size=À _:=ė _ Ϧl;let r:(ϱd).get? Û=À _:=ė _ (ė _ Ϧl);exact _/\_;rw[j,f,m]at l;rw[e,j]at n;rw[f]at p;rw[e]at q;rw[m]
 show⟨{_,l,rfl},h _ l n p {_,r,rfl,rfl} {_,q,rfl,rfl} λc o x=>
  ė _ (ė _ (ė _ (ė _ (ė _ x))))⟩
#print a
section
variable{X:Cx}{zA:Á ô}{σ:St}{H:Hp}{s:Î}
def Inv.UI{b:Ï}{a:Ë}{xs:Á V}(I:Inv X zA σ H s)(h:qJ X.K b H a xs):∃its:Á Value,zl xs its/\qi b á a ϝ:=by cases b;let{its,r,p,_}:=ϗ h;show{its,r,Ϸf};let{its,r,p,_}:=Øa h;show{its,r,p}
def Inv.Ar{b:Ï}{a:Ë}{xs ys:Á V}(I:Inv X zA σ H s)(h:qJ X.K b H a xs)(h':qJ X.K b H a ys):xs=ys:=by cases b;show I.Op h h';show I.De h h'
def rK{fs ch:Á Ë}{h h':Heap}(k:∀b o,b ∉ ch->ę b=À o->Ċ b=À o):Un fs ch H H h h':=
 {λb o e _ _ a=>k b o a e,λb o e _ _ a=>{o.slots,k b o a e},λ_ _ _ n _=>n,λb o e a=>{o,k b o a e},λ_ _ z=>z,λ_ _ _ z=>z,λb c e=>{#[],by rw[e];simp}}
def e7{P:ï}{w:æ}{ch:Á Ë}{h h':Heap}(x:wG P w H h)(d:∀b∈ch,H b=Å)(k:∀b o,b ∉ ch->ę b=À o->Ċ b=À o):wG P w H h':=λb u e=>by
 let a:∀c v,H c=À v->c ∉ ch:=λc v e z=>by rw[d c z]at e;cases e
 show(Ϥi).Yw (λc v f q=>k c v ?_ q) ţf λ_ _ q=>q
 rcases f with z|z;rw[z];show a b u e;show a c _ z
def Inv.but{ch:Á Ë}{h':Heap}{tk:Â}(I:Inv X zA σ H s)(c:∀b∈ch,jh X zA H b)(k:∀b o,b ∉ ch->ö b=À o->Ċ b=À o):Inv X zA σ H { s with ç:=h',đ:=tk }:=
 I.DV (s':={ s with ç:=h',đ:=tk }) rfl (rK k) Òl Ža λb a=>{ϲb.2.2.2.1,ϲb.2.1,ϲb.2.2.2.2.1,ϲb.2.2.2.2.2}
def Inv.Ak{ch:Á Ë}{h':Heap}{tk:Â}{T:Ë}{o:HO}(I:Inv X zA σ H s)(c:∀b∈ch,jh X zA H b)(k:∀b o,b ∉ ch->ö b=À o->Ċ b=À o)(f:ö T=Å)(e:H T=Å)(d:xT õ X.w ľo h' T o):Inv X zA σ ľo { s with ç:=h',đ:=tk }:=
 I.DV (s':={ s with ç:=h',đ:=tk }) rfl (x6r (rK k) f e) (e8 Òl e d) Ža λb a=>{ϲb.2.2.2.1,ϲb.2.1,ϲb.2.2.2.2.1,ϲb.2.2.2.2.2}
#print a
def FD(K:Ô)(c t2:Ï)(a b:Ë):It:=
  ⟨λi H=>∃xs ys x y,qJ K c H a xs/\qJ K t2 H b ys/\xs[i]?=À x/\ys[i]?=À y,
   λi H v d=>∃p,H p=Å/\v=.ref p/\∀xs ys,qJ K c H a xs->qJ K t2 H b ys->∃x y,xs[i]?=À x/\ys[i]?=À y/\d=ze H p ąd,
   λi H=>∃xs ys,qJ K c H a xs/\qJ K t2 H b ys/\(ì<=i\/Ś<=i)⟩
def x4n{P:ï}{w:æ}{K:Ô}{R:Á Õ}{O:Â}{pos:Pos}(t1 t2:Ï)(a b z TI TO i1 A:Ë)(D:Ħe z TI TO i1 A a b) :Zz P w K (.Tuple R O pos) Ŏh Òn z (λi h=>Âb h z TI TO .none/\ĳa h TI ģd ķe/\(∃u v,ĳa h TO u v)/\XE t1 h i1 a i/\XE t2 h A b i) where
 mem:=by simp
 obj:=λi h st c d=>by let{g,j,{u,v,m},{o4,n,_,d4},{o5,p,_,d5}}:=st;simp only[ťa,Ëa,ϫa]at d;rcases d with rfl|rfl|rfl|rfl|rfl;show{_,g,λv q=>nomatch q};show{_,j,λv q=>nomatch q};show{_,m,λv q=>nomatch q};show{_,n,λv q=>by rw[d4]at q;cases q};show{_,p,λv q=>by rw[d5]at q;cases q}
 Śa:=λi h h' st k=>by let{g,j,{u,v,m},n,p}:=st;show{k z ó _ g,k TI ó _ j,{u,v,k TO ó _ m},n.at λo e=>k i1 ó o e,p.at λo e=>k A ó o e}
 ăb:=by
  rw[ţp];let{xs,ys,x,y,Z,hy,ex,ey}:=hg;rw[ãq];let{xu,S,rxu}:=ru.get ex;let{yw,Q,ryw}:=ϋa ey;let k1:i<Ïn:=by rw[ĥ];show(ķ S).1
  let k2:i<Ðn:=by rw[ĥ];show(ķ Q).1
  let e1:J.toArray.getD i .none=xu:=by let:=ķ S;let{l,e}:=this;simp[ćd,l,e]
  let e2:C.toArray.getD i .none=yw:=by let:=ķ Q;let{l,e}:=this;simp[ćd,l,e]
  let L:ïb ϯb Ķa:={_,g,rfl};let q4:i1<Û:=by let{o,e,_}:=n;show ġ e
  let q5:A<Û:=by let{o,e,_}:=p;show ġ e
  unfold Ōd
  show Ó (Õf (Ϻc (ī:=ła ũc) L Àf (ĉb Àf L ŏm
   (x7x D ŉl ňl g j m {n,Y} {p,pw} k1 k2 q4 q5 Y.lt pw.lt λh' a1 a2 a3 a4 a5 a6=>ò ?_) Ňl)))
  rw[e1,e2]at a2 a5;show{_,rfl,wpAny_letOwnedTupleGo_zip (s:={ s with ç:=h' }) a1 λB b1 G=>?_}
  let hTs:ö Û=Å:=by
   cases q:ö Û with
   |Å=>rfl|À o=>show Ý ăg Ĉa
  let U:H Û=Å:=Ĕb Ġ;let hTz:Û≠z:=ņa Ĺd;let tup:B.get? Û=À { cls:=.type ſ,Ć:=.seq #[xu,yw] }:=ĭd _ _ hTz a5
  let O:∀c o,c ∉ Òn->ö c=À o->B.get? c=À o:=λc o d e=>by simp only[ťa,Ëa,ϫa,Ěg]at d;show ĭd _ _ d.1 (a6 c o d.1 d.2.2.1 d.2.2.2.1 d.2.2.2.2 e)
  let new:xT õ X.w (ze H Û ąd) B Û ąd:={íl,[xu,yw],.cons rxu (.cons ryw .nil),{_,tup,rfl,_,rfl}};show{.ref Û,ze H Û ąd,I.Ak (tk:=Đ) hf O hTs U new,rfl,{Û,U,rfl,λxs' ys' hx' hy'=>?_},{b1,?_,{_,_,ĭd _ _ őg a2},a3.1.at λo e=>ĭd _ _ Őg e,a4.1.at λo e=>ĭd _ _ ŏg e},λc d=>?_};rw[I.Ar hx' Z,I.Ar hy' hy];show{x,y,ex,ey,rfl};show ĭd _ _ D.TIz (a6 _ _ D.TIz D.TITO D.TIi1 D.TIi2 j);rw[yH];show(hf c d).1;intro q
  let N:c<Û:=by simp only[ťa,Ëa,ϫa]at d;rcases d with rfl|rfl|rfl|rfl|rfl;show ġ g;show ġ j;show ġ m;show q4;show q5
  rw[q]at N;show Ý N Ĉa
 done:=by
  rw[ţp];let{xs,ys,Z,hy,hend}:=hg;rw[ãq]
  let t:Ïn<=i\/Ðn<=i:=by let l1:=ru.length;let l2:=Ϟ;rw[ĥ,ĥ];omega
  let L:ïb ϯb Ķa:={_,g,rfl};unfold Ōd
  show Ó (Õf (Ϻc (ī:=ła ũc) L Àf (ĉb Àf L ŏm
   (x7w (by show óa d) D ŉl ňl g j m {n,Y} {p,pw} t λh' e O he=>?_) Ňl)))
  let{o,ho,hcl}:=he;show Ó (Ïh (T := Ød) (b:=Ã) {o,ho,hcl} Än ?_);show ò {rfl,I.but (tk:=Đ) hf λc ob f eb=>?_};simp only[ťa,Ëa,ϫa,Ěg]at f;show O c ob f.1 f.2.2.1 f.2.2.2.1 f.2.2.2.2 eb
 Âc:=λ_ _ _ _ _ st h=>Ŀm st.1 h
def xS{a b:Â}(h:a≠b):@Ne Ë a b:=h
def x7y{n a b:Â}(d:a<n)(c:b<n):Ħe (n+4) (n+2) (n+3) n ģ a b:=
 {xS Ê,xS Ê,xS Ê,xS Ê,xS Ê,xS Ê,xS Ê,xS Ê,xS Ê,xS Ê,xS Ê,xS Ê,xS Ê,xS Ê,xS Ê,xS Ê,xS Ê,xS Ê}
def z1z:ž Ķa=À Đo:=by rw[ŋp]
section
variable{X:Cx}
def e9(K:Ô)(d:TA):TI:=λσ H R=>d σ H λe c=>∃a b xs ys t1 t2,e=[.ref a,.ref b]/\qJ K t1 c a xs/\qJ K t2 c b ys/\R Ŏh c
def y6j{a b:Õ}{z:TA}{p pos:Pos}{e:Á Õ}{U:Â}{O:Pos}(P:Gl X Ķa)(S:ð Ķa=Å)(ha:PA X ŵe z)(G:Í (Òb ŵe Ú=[(Ä,ě a Ú),(Ä,ě b Ú)]) q12)(g:Í (Òb [b] Ú=[(Ä,ě b Ú)]) q12):PI X (.Tuple e U O) Żg (e9 X.K z):=by
 intro t s σ H R I h;show Call_ (TH I P S z1z (ϣe (zw (ha pos t s σ H _ I h) λus f ⟨vs,o,d,Q,Z⟩=>?_) (by rw[G,g]) (by rw[g];rfl)));let{k,j,xs,ys,N,t2,rfl,T,hy,q}:=Z;let{u,v,rfl,L,Y}:=Rb Q;cases(show u=ĕ k from L);cases(show v=ĕ j from Y);let{us,_,w}:=d.UI T;let{ws,_,r}:=d.UI hy;let B:=w.lt;let y:=r.lt;show z2w w r λC l x m E F W=>?_
 let J:Inv X t σ o { f with ç:=C }:=ğg (t':=f.toks) W;show Ŀm (s:={ f with ç:=C }) l ?_;generalize hn:Ńm=n at l x m E F B y
 let D:Ħe (n+4) (n+2) (n+3) n ģ k j:=by show x7y B y
 show{n+4,[n+4,n+2,n+3,n,n+1],_,_,o,rfl,J,x4n N t2 k j (n+4) (n+2) (n+3) n ģ D,{l,x,{_,_,m},E,F},λc A=>?_,q}
 let i:Ńm<=c:=by rw[hn];simp only[ťa,Ëa,ϫa]at A;rcases A with rfl|rfl|rfl|rfl|rfl;show Ϝ _ _;show Ϝ _ _;show Ϝ _ _;show Ŕ _;show Ϝ _ _
 show d.WK i (Ąf i)
def y7g{a b:Õ}{e:TA}{p pos:Pos}{d:Á Õ}{j:Â}{k:Pos}(l:Gl X Ķa)(i:ð Ķa=Å)(g:QA X ŵe e)(f:Í ÿe q12)(c:Í Ňo q12) :QI X (.Tuple d j k) Żg (e9 X.K e):={y6j l i g.h (by rw[tm f,tm c];rfl) (tm c)}
#print a
def bt(a:ça)(env:Env)(b:Á Ϥa)(own:Á Ç):Ï:=
 a.kind == .function&&Ĉi (λy=>y.2 != .cell)&&Uy a env b own&&Ĉi (λy=>y.2 != .local||żb y.1==À .local)
def vE{X:Cx}{a:ça}{b:Á Ϥa}{own:Á Ç}(d:Ģo a Ú=pure b)(i:Í (Yz Ú b) q14)(ok:Í (bt a Ú b own=Ã) q12):Yy X a b own:=by unfold bt at ok;simp only[Č]at ok;obtain⟨⟨⟨j,g⟩,h⟩,f⟩:=ok;show{Ġf j,λy c e=>?_,i,h,d,λy c e=>?_};let:=ûa g y c;rw[e]at this;rw[Ĥq];let:=ûa f y c;rw[e]at this;rw[Ŕp]
def y7h{X:Cx}{e:Õ}{b:TE}{pos:Pos}{i:Â}{x:Ç}{a:Pos}(g:Āa)(hi:X.N[i]?=À x)(f:qg Ïa x)(d:QE X e b)(c:Í Ēk q12)(j:Í Şa q7):QS X ϱk Ťo:={lU g hi f d.h c j}
section
variable{X:Cx}(K:Ô)(hK:X.K=K)
include hK
#print a
def z0t(K:Ô)(a:Ë)(xs:Á V):È:=∀H,xJ K H a xs
def cQ{K:Ô}{a:Ë}{xs:Á V}{d:É Ë}{its:Ù Value}{n:Â}{b:Ù ϡa}(h:Ϯ a=À {.type ſ,d,.seq its n,b})(hz:Íj<=ã)(r:zl xs üe):z0t K a xs:=
 λ_=>.inr {_,its,n,h,rfl,rfl,hz,r}
open Builtin Ïo
section
variable{X:Cx}
theorem rW:∀{ts:Á Ç}{its:Á Value},zl Úp its->∃l:Á (Ç×Tok),its=żo l/\Úa (·.1)=ts
 | [],_,.nil=>{[],rfl,rfl}|t::ts,_,.cons r rr=>by let{k,e}:=(show ∃k,_=ŏb t k from r);let{l,e1,e2}:=rW rr;subst e e1;show{(t,k)::l,rfl,by rw[ľ,e2]}
def y7r(K:Ô):V->Á V->Hp->VK->È:=λx a H Q=>∃(sep:Ç) (p:Ë) (ts:Á Ç),x=.str sep/\a=Ĥd/\ya K H p Úp/\(Ćc (·.length)).sum+żf*Ūc<=ã/\Q (.str ñn) H
def dm(sep:Ç):∀ts:Á Ç,(ñn).length<=(Ćc (·.length)).sum+żf*Ūc
 | []=>by exact(Ŭc _)<=_;simp[glued,Ŭc,ŷi]|t::ts=>by
  let h:∀(c:Á Ç)(a:Ù Â),(c.foldl Ϲk a).size=ŉ+(c.map (·.length)).sum+äa*Ūc:=λc=>by
   induction c with
   |nil=>intro a;simp|ú u c ih=>intro a;rw[Ìa,ih];simp only[īh,ľ,Ģf,Ĉ,Þi,Ŭc];omega
  exact(ts.foldl Ϲk t.cps).size<=_;rw[h];simp only[ľ,Ģf,Ĉ,Þi,Ŭc];omega
def y0c:Ur X "str.join" (y7r X.K):=by
 intro k s σ H x P v S Q I J N h;let{d,p,z,rfl,rfl,O,B,q}:=h;let{t,rfl}:=(show ∃t,v=ŏb d t from J);let{u,rfl,C}:=uq N;cases(show u=ĕ p from C);let{E,r,y,_}:=ϗ O;let{l,rfl,j}:=rW r;let A:ïb Ŭ Ģ:=y.isList.typeIs;let{o,L,R,n,G}:=y.isList
 let g:tooLong ((Úa (·.1)).toArray.foldl (·+·.length+Òa) 0)=Ä:=by rw[j,StrLaws.joinTotal];unfold tooLong;show Ĕ Ê
 let i:(glued d z).length<=ã:=ĉ (dm d z) B;show òf (Ŕl F.slot_str_join.plain F.entry_str_join (F.slot_str_join.check _ _ _ _ _ _ _ _ (óf _ _ _) (F.args_str_join_2 _ _) ?_));let{m,e}:=join_tree d t p;rw[e];show Ó (Þd A ?_);rw[Ð Ò];show Ó (Ċb L G ?_);exact Ø _ _ (joinTail d (żo l)) _ _ _;rcases l with _|⟨a,_|⟨b,c⟩⟩;subst j;show ëh d [] g õ X.w _ Ŗg s {i,.str _,H,ϳ _,{_,rfl},q};subst j;show ëh d [a] g õ X.w _ Ŗg s {.str _,H,I,{_,rfl},q};subst j;show ëh d (a::b::c) g õ X.w _ Ŗg s {i,.str _,H,ϳ _,{_,rfl},q}
#print a
nonrec def Oz(z:Ç):It:={λi _=>i<Ŀ,λi H x a=>a=H/\∃c,Ϧc[i]?=À c/\x=.str {#[c]},λi _=>Ŀ<=i}
section
variable{X:Cx}{tg:Õ}
def z7d(b:TE):TI:=λσ H R=>b σ H λx a=>∃z,x=.str z/\R Ŀg a
def x4l{P:ï}{w:æ}{K:Ô}{it:Ë}{z:Ç}{t:Tok}{n:æa}(g:n = ől \/ n = Ϻm):Zz P w K tg Ŀg [it] it (λi h=>h.IsStrIter it n z t i/\i<=Ŀ) where
 mem:=by simp
 obj:=λi h st b j=>by
  let e:b=it:=by simpa using j
  subst e;obtain⟨⟨o,e,c,d⟩,_⟩:=st;show{o,e,λv z=>by rw[d]at z;cases z}
 Śa:=λi h f st k=>{let ⟨o,ho,r⟩:=st.1;{o,k it ó o ho,r},st.2}
 ăb:=by
  rw[Ŭp];let T:i<Ĳi:=q;let l:Ϧc[i]?=À Ϧc[i]:=by simp[T]
  have Y:∀f C (u:Value),(∃t',u=ŏb {#[Ϧc[i]]} t')->f.IsStrIter it n z t î->ũa it á f->∃v,À u=À v/\
    Ø Ą X.A (Òf tg äb v) (λ_ U=>∃x H',Inv X O σ H' U/\zy x v/\(Ŀg).tD i H x H'/\(U.heap.IsStrIter it n z t î/\i+1<=Ŀ)/\∀b∈[it],H' b=Å) E { s with ç:=f,đ:=C }:=λf C u hu a m=>by
   let{t',rfl}:=hu;let I1:Inv X O σ H { s with ç:=f,đ:=C }:=ñb (λb o j e=>(m.2 b j).trans e) G B y p J;let{o,e,c,d}:=id a;show{_,rfl,Jk (s:={ s with ç:=f,đ:=C }) e c d (by rcases g with rfl|rfl<;>decide) {.str {#[Ϧc[i]]},H,I1,{t',rfl},{rfl,_,l,rfl},{a,q},λb j=>(F b j).1}}
  rcases g with rfl|rfl;show wpAny_pyNext_ascii_item st.1 l λf a m=>Y f _ _ {_,rfl} a m;show wpAny_pyNext_wide_item st.1 l λf a m=>Y f _ _ {_,rfl} a m
 done:=by rw[Ŭp];let l:Ϧc[i]?=Å:=Ϲe q;rcases g with rfl|rfl;show wpAny_pyNext_ascii_end (óa R) st.1 l λf S=>{rfl,ñb (t':=Đ) Ďl G B y p J};show wpAny_pyNext_wide_end (óa R) st.1 l λf S=>{rfl,ñb (t':=Đ) Ďl G B y p J}
 Âc:=λ_ _ _ _ _ st h=>by rcases g with rfl|rfl;show wpAny_pyIter_striter_ascii st.1 h;show wpAny_pyIter_striter_wide st.1 h
def y6i{e:Õ}{j:TE}(n:PE X e j):PI X tg e (z7d j):=by
 intro i s σ H R I h;show zw ėh λv a ⟨x,l,g,p,m⟩=>?_
 let{z,rfl,q}:=m;let{t,rfl}:=(show ∃t,v=ŏb z t from p)
 let c:∀(d:æa),(d = ől \/ d = Ϻm)->∀o:Obj,(çe o).IsStrIter ϖa d z t 0->FJ X i σ tg R Ŭo { a with ç:=çe o }:=λd f o st=>
  ⟨ϖa,[ϖa],_,_,l,rfl,g.kept (t':=ģg) λb o e=>ė _ e,x4l f,{st,ϐ _},λb k=>by
   let e:b=ϖa:=by simpa using k
   subst e;show g.WK Ġ (g.zh.fresh Ġ),q⟩
 cases ha:z.cps.all (·<128);show wpAny_pyIter_wide ha (c _ ýc _ {_,ű _ rfl,rfl,rfl});show wpAny_pyIter_ascii ha (c _ Ŗ _ {_,ű _ rfl,rfl,rfl})
#print a
def cutS(z:Ç)(lo hi:É Æ):Ç:={((ģh (Ŏ Ŀ 0 lo)).take Žk).toArray}
def z36(n:Â)(lo:É Æ):(match lo with|Å=>(0:Æ)|À i=>max 0 ŭd)=((Ŏ n 0 lo:Â):Æ)\/∃i,lo=À i/\i<0/\(n:Æ)<i+n:=by
 cases lo with
 |Å=>left;rfl|À i=>
  left
  exact max 0 ŭd=((ŧg:Â):Æ);by_cases h:i<0;simp only[h,ź];omega;simp only[h,Ăa];omega
def z35(n:Â)(hi:É Æ):(match hi with|Å=>(n:Æ)|À i=>max 0 ŭd)=((Ŏ n n hi:Â):Æ):=by
 cases hi with
 |Å=>rfl|À i=>exact max 0 ŭd=((ŧg:Â):Æ);by_cases h:i<0;simp only[h,ź];omega;simp only[h,Ăa];omega
def z37(n:Â)(lo:É Æ):(match lo with|Å=>(0:Æ)|À i=>max 0 ŭd)=((Ŏ n 0 lo:Â):Æ):=by rcases z36 n lo with h|⟨i,_,h1,h2⟩;show h;omega
def lF(z:Ç)(lo hi:É Æ):Įh=(Ûa Žk).map (Ŏ Ŀ 0 lo+·):=by let b:=z37 Ŀ lo;let a:=z35 Ŀ hi;rw[<-Án,<-b,<-a];unfold ϴe;simp only[show(1:Æ)>0 by decide,ź];cases lo<;>cases hi<;>rfl
def z3f(z:Ç)(lo hi:É Æ):({((Įh).filterMap (Ϧc[·]?)).toArray}:Ç)=cutS z lo hi:=by rw[lF,Èj];rfl
def œe(n d:Â)(a:d<=n)(v:É Æ):Ŏ n d v<=n:=by
 cases v with
 |Å=>show a|À i=>exact ŧg<=n;by_cases h:i<0;simp only[h,ź];omega;simp only[h,Ăa];omega
def z3i(z:Ç)(lo hi:É Æ)(h:(Įh).length=Ŀ):cutS z lo hi=z:=by
 rw[lF,å,ëa]at h;let a:=œe Ŀ 0 öb lo;let b:=œe Ŀ Ŀ Ġ hi;unfold cutS;rw[h];let f:Ŏ Ŀ 0 lo=0\/Ŀ=0:=by omega
 let d:ώl=Ŀ:=by simp[Ŭc]
 rcases f with q|q;rw[q,List.drop_zero,<-d,Ňc];let e:Āf=[]:=ϙg Ê;rw[e];simp;cases z with
 |mk c=>simp[Ŭc]at q;simp[q]
theorem łe(z:Ç)(lo hi:É Æ):(ón).length<=Ŀ:=by exact(List.toArray _).size<=Ĳi;rw[ĥ,Ýa,ńa,ĳ];show ĉ Ϙf Ôb
section
variable{X:Cx}
def iz{v:Value}{lo:É Æ}(h:ϻb v lo):∃l:É (Æ×Tok),v=partValue l/\Úa (·.1)=lo:=by
 cases h with
 |Å=>show{Å,rfl,rfl}|int i t=>show{À (i,t),rfl,rfl}
def mT:V->É Æ->É Æ->Hp->VK->È:=λx b a H Q=>∃z:Ç,x=.str z/\Ŀ<=ã/\Q (.str (cutS z b a)) H
def x18:Zy X mT:=by
 intro m s σ H x v p k n o j Q I i b c f h;let{z,rfl,d,q}:=h;let{t,rfl}:=(show ∃t,v=ŏb z t from i);let{l,rfl,rfl}:=iz c;let{u,rfl,rfl}:=iz f;show{Ūe,_,F.slot_str_getitem.lookup,óf _ _ _,?_};show wpAny_getItem_str_slice (l:=l) (u:=u) (st:=Å) b rfl ?_;unfold sliceMade;let g:slicePicked z l u Å=ϴe (Úa (·.1)) (u.map (·.1)) 1 Ŀ:=rfl;rw[g]
 split;rename_i a
 let e:(ϴe (Úa (·.1)) (u.map (·.1)) 1 Ŀ).length=Ŀ:=by rw[Č]at a;show Ġf a.2
 rw[z3i z _ _ e]at q;show{.str z,H,I,{_,rfl},q};rw[z3f];show{ĉ (łe z _ _) d,.str _,H,ϳ _,{_,rfl},q}
#print a
section
variable{X:Cx}{e o:Õ}{to:TE}{ύ ş:Pos}{ī:Ç}{T id:æa}{rm:V->Á V->Hp->VK->È}
def y7d(f:ŝf T)(c:Slot T ī id)(d:ėg Úb=pure Ϧe)(e:Ur X id rm)(g:QE X o to)(a:Í Ϗe q12)(b:Í Éb q12):QE X Ŋl (oj X.K T rm to):={y5k f c d e g.h a b}
#print a
#print L2
namespace L2
open Ķ ő Ň
section
variable{κ:Type}[Ňb κ]
nonrec def qW(kvs:Á Ϯa)(k:κ):É V:=(kvs.find? λa=>decide (a.1=k)).map (·.2)
nonrec def tO(kvs:Á Ϯa)(k:κ)(v:V):Á Ϯa:=
 if(kvs.any λa=>decide (a.1=k))=Ã then ϑc (λa=>if a.1=k then(a.1,v)else a)else kvs++[(k,v)]
theorem BV{p:κ×V}{r:Á Ϯa}{k:κ}(e:p.1=k):qW (p::r) k=À p.2:=by simp[qW,ñd,e]
theorem BU{p:κ×V}{r:Á Ϯa}{k:κ}(e:¬ p.1=k):qW (p::r) k=qW r k:=by simp[qW,ñd,e]
theorem rQ(k:κ):∀kvs:Á Ϯa,ŧk=(Ŧf).isSome
 | []=>rfl|p::r=>by rw[Üb];by_cases e:p.1=k;simp only[BV e,ù e,Bool.true_or,Option.isSome_some];rw[BU e,Ĕ e,Ėn];show rQ k r
def Hi(kvs:Á Ϯa)(k:κ)(v:V):(íi).length<=ň+1:=by
 unfold tO
 split;rw[å];omega;rw[è,Ĉ,Őc];omega
def tJ.UD{o:É V}{u:É Value}(r:tJ o u):o.isSome=u.isSome:=by
 cases o with
 |Å=>cases u with
  |Å=>rfl|À _=>show(show ÿ from r).elim
 |À _=>cases u with
  |Å=>show(show ÿ from r).elim|À _=>rfl
theorem tJ.getD{o:É V}{u:É Value}{d:V}{d':Value}(r:tJ o u)(a:zy d d'):zy (őd d) (u.getD d'):=by
 cases o with
 |Å=>cases u with
  |Å=>show a|À _=>show(show ÿ from r).elim
 |À _=>cases u with
  |Å=>show(show ÿ from r).elim|À _=>show r
def KV.val{kvs:Á Ϯa}{vs:Á Ďd}(r:KV kvs vs)(k:κ):tJ Ŧf (Đc vs k):=by
 unfold KV at r
 induction r with
 |nil=>show ūa|@cons p q ps qs h t ih=>
  let{c,d}:=h;rw[þq];let b:Đc Ċg k=À q.2:=by simp[Đc,ñd,a]
  rw[BV e,b];show d;let a:¬ q.1=k:=λz=>e (Ěb z)
  let b:Đc Ċg k=Đc qs k:=by simp[Đc,ñd,a]
  rw[BU e,b];show ih
theorem KV.any{kvs:Á Ϯa}{vs:Á Ďd}(r:KV kvs vs)(k:κ):ŧk=vs.any λkv=>decide íj:=by
 unfold KV at r
 induction r with
 |nil=>rfl|ú h t ih=>rw[Üb,Üb,ih,h.1]
theorem KV.Db{kvs:Á Ϯa}{vs:Á Ďd}(r:KV kvs vs)(k:κ){y:V}{u:Value}(b:zy y u) :KV Āk (Ĕg λkv=>if kv.1=k then(kv.1,u)else kv):=by
 unfold KV at r ⊢
 induction r with
 |nil=>show .nil|@cons p q ps qs h t ih=>rw[ľ,ľ];show .cons ?_ ih;let{a,c}:=h;by_cases e:p.1=k;rw[Ð e,Ð Ťm];show{a,b};rw[Ñ e,Ñ ţl];show{a,c}
def KV.put{kvs:Á Ϯa}{vs:Á Ďd}(r:KV kvs vs)(k:κ){y:V}{u:Value}(a:zy y u):KV Ųn (Ęc vs k u):=by unfold tO Ęc;rw[r.any k];by_cases e:(vs.any λb=>decide (b.1=k))=Ã;rw[Ð e,Ð e];show r.Db k a;rw[Ñ e,Ñ e];show ϻn r {rfl,a}
theorem KV.length{kvs:Á Ϯa}{vs:Á Ďd}(r:KV kvs vs):ň=č:=Ϥh r
#print a
def ZJ{P:ï}{w:æ}{k:zW}{u:Value}(r:zy Žj u):(êb).is k u=Ã:=by
 cases k with
 |inl i=>let{t,e}:=(show ∃t,u=Ϛb i t from r);subst e;show y05 P w i t
 |inr x=>let{t,e}:=(show ∃t,u=ŏb x t from r);subst e;show Ht P w x t
theorem eW{P:ï}{w:æ}:∀{ks:Á zW}{us:Á Value},zl Ğf us->ItemsAre êb ks us
 | [],_,r=>by rw[àe]at r;cases r;show .nil|k::ks,_,r=>by
  rw[ľ]at r;cases r with
  |ú h t=>show .cons (ZJ h) (eW t)
abbrev KT(H:Hp):Á ňb->Á Ĵc->È:=Ŗd λp q=>p.1=q.1/\H q.2.1=À Çm/\zy p.2 q.2.2
def KT.val{H:Hp}{kvs:Á ňb}{xs:Á Ĵc}(r:KT H kvs xs)(k:Á zW):tJ Ŧf ((ði).map (·.2)):=by
 induction r with
 |nil=>show ūa|@cons p q ps qs h t ih=>
  let{c,_,d}:=h;rw[þq];let b:ůe Ċg k=À q.2:=by simp[ůe,ñd,a]
  rw[BV e,b];show d;let a:¬ q.1=k:=λz=>e (Ěb z)
  let b:ůe Ċg k=ůe qs k:=by simp[ůe,ñd,a]
  rw[BU e,b];show ih
def KT.Db{H:Hp}{kvs:Á ňb}{xs:Á Ĵc}(r:KT H kvs xs)(k:Á zW){y:V}{u:Value}(c:zy y u) :KT H Āk (Ėc (Ţb k u)):=by
 induction r with
 |nil=>show .nil|@cons p q ps qs h t ih=>rw[ľ,ľ];show .cons ?_ ih;let{a,b,d}:=h;unfold Ţb;by_cases e:p.1=k;rw[Ð e,Ð Ťm];show{a,b,c};rw[Ñ e,Ñ ţl];show{a,b,d}
def KT.put{H:Hp}{kvs:Á ňb}{xs:Á Ĵc}(r:KT H kvs xs)(k:Á zW){b:Ë}{y:V}{u:Value}(d:H b=À ĵh)(a:zy y u) :KT H Ųn (storedH xs k b u):=by
 let e:(kvs.any λc=>decide (c.1=k))=(ði).isSome:=by rw[rQ,(r.val k).UD,Ħh]
 unfold tO storedH;rw[e];by_cases q:(ði).isSome=Ã;rw[Ð q,Ð q];show r.Db k a;rw[Ñ q,Ñ q];show ϻn r {rfl,d,a}
def KT.keeps{H H':Hp}{kvs:Á ňb}{xs:Á Ĵc}(r:KT H kvs xs)(a:∀b ys,H b=À ùe->H' b=À ùe):KT H' kvs xs:=
 ϒf r λ_ _ z=>{z.1,a _ _ z.2.1,z.2.2}
section
variable{P:ï}{w:æ}{H:Hp}{h:Heap}{a:Ë}
def mq{u:HO}(ok:wG P w H h)(e:Rd H a u):xT P w H h a u:=e.ok ok
def gf{kvs:Á ϲ}(ok:wG P w H h)(e:Rd H a ř):ň<=ã/\ĩa=Ä/\∃vs,KV kvs vs/\Ģe êb a vs:=
 show xT P w H h a ř from mq ok e
def z3v{kvs:Á ϲ}(ok:wG P w H h)(e:H a=À ř):ň<=ã/\ĩa=Ä/\∃vs,KV kvs vs/\Ģe êb a vs:=gf ok ÿj
def IA{ks:Á zW}(ok:wG P w H h)(e:H a=À ŧo):(Æe).is h ks a:=by let{_,b,r,o,f,c,n,d}:=(show xT P w H h a ŧo from ok a _ e);show{o,ëb,n,f,c,d,by simpa using eW r}
def U_{kvs:Á ňb}(ok:wG P w H h)(e:Rd H a ϟb):ň<=ã/\ĩa=Ä/\
  ∃xs,KT H kvs xs/\Ϛo Æe a xs:=by
 let{z,y,xs,r,o,d,g,k,i,j,f,n}:=(show xT P w H h a ϟb from mq ok e);show{z,y,xs,r,o,d,g,k,i,j,f,λx b=>?_,n}
 let c:∀{l:Á ňb} {m:Á Ĵc},KT H l m->∀x∈m,(Æe).is h x.1 x.2.1:=by
  intro l m q
  induction q with
  |nil=>intro x b;show nomatch b|@cons p q ps qs hq t ih=>intro x b;rcases ħ b with e|b;subst e;show IA ok (by rw[<-hq.1];show hq.2.1);show ih x b
 show c r x b
def z4a{kvs:Á ňb}(ok:wG P w H h)(e:H a=À ϟb):ň<=ã/\ĩa=Ä/\
  ∃xs,KT H kvs xs/\Ϛo Æe a xs:=U_ ok ÿj
#print a
def Qh(H:Hp)(a:Ë)(y:V)(r:É V):È:=
 (∃kvs k,Rd H a ř/\y=kV k/\r=qW kvs k)\/∃kvs k b,Rd H a ϟb/\y=.ref b/\H b=À ĵh/\r=qW kvs k
def Ax(H:Hp)(a:Ë)(y v:V)(H':Hp):È:=
 (∃kvs k,H a=À ř/\y=kV k/\ň<ã/\H'=ze H a (.dK íi)) \/
 ∃kvs k b,H a=À ϟb/\y=.ref b/\H b=À ĵh/\ň<ã/\H'=ze H a (.dT íi)
section
variable{X:Cx}{zA:Á ô}{σ:St}{H:Hp}{s:Î}{a:Ë}{y v:V}{u r:Value}{o:É V}{A:ø}{E:Value->Î->È}
def Inv.big(I:Inv X zA σ H s):ϓh<Û:=by let h:Ę<Û:=(I.mod.glob.keeps I.bk).lt;show Įf Ò h
def z3m{Q:Value->Î->È}(p:ŗa+1<Ϙ)(I:Inv X zA σ H s)(g:Qh H a y o)(m:zy y u)(h:∀s',Inv X zA σ H s'->Q (.bool o.isSome) s') :Ø Ą A (Ďa .In u Ō) Q E s:=by rcases g with⟨i,k,e,f,l⟩|⟨i,k,b,e,f,n,l⟩;rw[ĕq];show ϩn (ZJ m) j d.mapOf ?_;rw[ŝp];show wpAny_in_heap (Ϯe p) Ţo j d ?_;rw[ϩp]
def z3o{Q:Value->Î->È}(p:ŗa+1<Ϙ)(I:Inv X zA σ H s)(g:Qh H a y o)(m:zy y u)(h:∀s',Inv X zA σ H s'->Q (.bool (!o.isSome)) s') :Ø Ą A (Ďa .NotIn u Ō) Q E s:=by rcases g with⟨i,k,e,f,l⟩|⟨i,k,b,e,f,n,l⟩;rw[ĕq];show wpAny_notIn_of (ZJ m) j d.mapOf ?_;rw[ŝp];show wpAny_notIn_heap (Ϯe p) Ţo j d ?_;rw[ϩp]
def cZ{h':Heap}{t':Â}{d:HO}(I:Inv X zA σ H s)(i:J9 (H a))(f:ũa a á h')(g:∃q,Ċ a=À q)(c:xT õ X.w Ľo h' a d) :Inv X zA σ Ľo { s with ç:=h',đ:=t' }:=
 õg (x:=a) (e:=a) i Ŗ (λb q h z=>(f.2 b h).trans z) g c
def EH{P:ï}{w:æ}{H':Hp}{h':Heap}{kvs:Á ϲ}{vs:Á Ňa}(z:ň<=ã)(c:ĩa=Ä)(b:KV kvs vs)(d:ϊf êb a vs) :xT P w H' h' a ř:={z,c,vs,b,d}
def z3p{H':Hp}{Q:èa->Î->È}(S:ŗa+1<Ϙ)(I:Inv X zA σ H s)(g:Ax H a y v H')(K:zy y u)(F:zy v r)(h:∀s',Inv X zA σ H' s'->Q () s') :Ø Ą A (Ďj Ō u r) Q E s:=by
 rcases g with⟨f,k,e,t,l,B⟩|⟨f,k,b,e,t,J,l,B⟩;subst t B;let{z,o,T,d,x}:=z3v Ė e;have n:őa<=ã:=by rw[<-Òa];show z
 rw[Èq]
 show wpAny_setItem_pairs (hsz:=n) (ZJ K) x λG i m=>h _ ?_
 let Y:∃q,G.get? a=À q:=let ⟨q,_,_,j,_⟩:=i;{q,j};show cZ I ăh m Y (EH p o (d.put k F) i);subst t B;cases(show u=ĕ b from K);let{z,o,W,d,x}:=z4a Ė e;have n:Èg<=ã:=by rw[<-Ϥh d];show z
 rw[Èq]
 show wpAny_setItem_heap (hsz:=n) (Ϯe S) (IA Ė J) x λG i m=>h _ ?_
 let{q,L,O,j,P,R,N,_,U}:=i;refine cZ I ăh m {q,j} {p,o,_,(d.put k J F).keeps λc Z C=>?_,q,L,O,j,P,R,N,U};rw[yH (y0m C e ħa)];show C
#print a
section
variable{X:Cx}{zA:Á ô}{σ:St}{H:Hp}{s:Î}{a:Ë}{kvs:Á ϲ}{A:ø}{E:Value->Î->È}
def z3n{Q:Value->Î->È}(I:Inv X zA σ H s)(e:Rd H a ř)(h:∀t s',Inv X zA σ H s'->Q (.int ň t) s'):Ø Ą A (įb íd ϥ) Q E s:=by let{z,c,f,b,d}:=gf Ė e;refine call_len_dict c d (by rw[<-Óa];rw[ŕ]at z;omega) ?_;rw[<-Óa];show h _ _ Ϸb
#print a
def z3t{X:Cx}{f:Á ô}{σ:St}{H:Hp}{s:Î}{a:Ë}{y:V}{o:É V}(I:Inv X f σ H s)(g:Qh H a y o):ïb Ō Ãa:=by rcases g with⟨c,k,e,_,_⟩|⟨c,k,b,e,_,_,_⟩;let{_,_,i,_,d}:=gf Ė e;show d.typeIs;let{_,_,h,_,d}:=U_ Ė e;show d.typeIs
nonrec def y8v(b e f:TE):TS:=λD σ H=>f σ H λv d=>b σ d λx c=>e σ c λy g=>∃a H4,x=.ref a/\Ax g a y v H4/\Çb σ H4
section
variable{X:Cx}{o i e Āb:Õ}{pos Ça:Pos}{td ty tv:TE}
def lQ(j:űa+1<Ϙ)(t:PE X o td)(hi:PE X i ty)(hv:PE X Āb tv)(c:ņb Āb (À (.Subscript o i Ça)) ϔb Ú=pure Ä) :PS X (.Assign [.Subscript o i Ça] Āb pos) (y8v td ty tv):=by intro b s σ H D I h;show wpAny_Assign_Subscript (zw ϵl λr E ⟨v,f,l,z,B⟩=>zw (t b E σ f _ l B) λu e ⟨x,F,d,m,G⟩=>zw (hi b e σ F _ d G) λL N ⟨y,K,C,w,a,k,n,g,q⟩=>?_) c;subst n;obtain rfl:u=ĕ a:=m;show z3p j C g w z λJ p=>{σ,k,p,q}
#print a
def z3u{P:ï}{w:æ}{H:Hp}(h:Heap)(a:ϓh<âb):xT P w H (Şj { cls:=.type Ãa,Ć:=.dict #[] }) âb (.dK []):=
 {ϐ _,Êb (śb (Ϗ a)),[],.nil,Ÿm h}
def x2f:TE:=λ_ H Q=>∀p,H p=Å->Q Ŭ (Ψ (.dK []))
section
variable{X:Cx}{pos:Pos}
def y5v:PE X Ķm x2f:=λb s σ H Q I h=>
 wpAny_Dict_empty {.ref Û,_,Ża (a:=Û) (o:=.dK []) (t':=Đ) Ĕh Ġ (z3u á I.big),rfl,h _ ğd}
#print a
def YL(kvs a:Á ϲ):Á ϲ:=a.foldl (λb c=>tO b c.1 c.2) kvs
def KV.merge:∀{more:Á ϲ} {rs:Á Ňa} {kvs:Á ϲ} {vs:Á Ňa},KV more rs->KV kvs vs->KV Łn (merged vs rs):=by
 intro more rs kvs vs r;unfold KV at r
 induction r generalizing kvs vs with
 |nil=>intro q;show q|@cons p q ps qs h t ih=>
  intro a
  let e:KV ňh (Ęc vs q.1 q.2):=by let:=a.put p.1 h.2;rw[<-h.1];rw[Œp]
  show ih e
theorem fU:∀(more kvs:Á ϲ),(Łn).length<=ň+more.length
 | [],kvs=>by exact ň<=ň+0;omega|p::r,kvs=>by let b:=fU r ňh;let a:=Hi kvs p.1 p.2;exact(YL ňh r).length<=_;rw[Ĉ];omega
structure M2(X:Cx)(o:Õ)(m:Ç)(ύ:Pos)(e f:Õ)(ş:Pos):È where
 Ì:Ïb o m Ú Ĕi=ě o Ú
 z0f:((ěc ş ϔm).all Ęi&&(ńk).all Ğm
  && decide (([e,f]:Á Õ).length+([]:Á Keyword).length+ėk<30))=Ã
 line:(apos.endLine==cpos.line)=Ã
 trees:ěc ş ϔm=[(Ä,ě e Ú),(Ä,ě f Ú)]
def bK(H:Hp)(a:Ë):È:=(∃kvs,Rd H a ř)\/∃kvs,Rd H a ϟb
def z7r{X:Cx}{j:Á ô}{σ:St}{H:Hp}{s:Î}{a:Ë}(I:Inv X j σ H s)(d:bK H a) :ïb Ō Ãa/\(∀b,ĕ a=.ref b->∃ob,ö b=À ob/\ob.dict=Å)/\ĩa=Ä:=by rcases d with⟨g,e⟩|⟨g,e⟩;let{_,h,l,_,c}:=gf Ė e;rw[űp];let{_,h,k,_,c}:=U_ Ė e;rw[űp]
section
variable{X:Cx}{zA:Á ô}{σ:St}{H:Hp}{s:Î}{a:Ë}{y d:V}{u r:Value}{o:É V}{A:ø}{E:Value->Î->È}
def z3l{Q:Value->Î->È}(v:ŗa+1<Ϙ)(I:Inv X zA σ H s)(g:Qh H a y o)(p:zy y u)(n:zy d r)(h:∀w' s',Inv X zA σ H s'->zy (őd d) w'->Q w' s') :Ø Ą A (įb (.builtin "dict.get") [.ref a,u,r]) Q E s:=by rcases g with⟨j,k,e,i,l⟩|⟨j,k,b,e,i,t,l⟩;subst i;let{z,m,x,c,f}:=gf Ė e;show Œn Üh Àg Ćl Ūk (meets_dict_get_default ĺf a (ZJ p) m r) {_,f.mapOf,h _ _ Ϸb ?_};rw[l];show(Ģd).getD n;subst i;cases(show u=ĕ b from p);let{z,m,q,c,f}:=U_ Ė e;show Œn Üh Àg Ćl Ūk (meetsH_dict_get_default (tupleKind ĺf) a b m r) {Ϯe v,k,q,IA Ė t,f,h _ _ Ϸb ?_};rw[l];show(Ģd).getD n
#print a
nonrec def x2e(d g f:TE):TE:=λσ H Q=>d σ H λx b=>∃a,x=.ref a/\bK b a/\g σ b λy e=>f σ e λz c=>∃o,Qh c a y o/\Q (őd z) c
section
variable{X:Cx}{o e f:Õ}{ύ ş:Pos}{td ty tx:TE}
def y5u(p:űa+1<Ϙ)(C:PE X o td)(N:PE X e ty)(B:PE X f tx)(m:M2 X o "get" ύ e f ş):PE X (.Call ðl [e,f] [] ş) (x2e td ty tx):=by
 intro b s σ H Q I h;show wpAny_Call_method m.base m.z0f m.line PySem.F.plainAttrs_dict Üh PySem.F.type_dict_get (zw (C b s σ H _ I h) λu K ⟨x,l,i,q,a,t,d,G⟩=>?_);subst t;obtain rfl:u=ĕ a:=q;let{n,R,_}:=z7r i d;show{n,R,?_};rw[m.trees]
 refine Ϟg rfl (Śl (Áh (zw (N b K σ l _ i G) λZ k ⟨y,L,j,P,O⟩=>
  Áh (zw (B b k σ L _ j O) λT S ⟨z,J,E,r,W,g,w⟩=>Ĕm ?_))))
 show z3l p E g P r λY U v c=>{_,J,v,c,w}
#print a
#print L2
namespace L3
open Ķ
inductive D where
 |zP|bl (b:Ï)|int (i:Æ)|str (x:Ç)|tup (xs:Á D)|lst (xs:Á D)|dic (ks:Á Ĺ) (vs:Á D)|exc (x:Ç)|obj (x:Ç) (fs:Á Ç) (vs:Á D)
def Ŏg{P:D->È}(r:P .zP)(o:∀b,P Şb)(a:∀i,P Áa)(c:∀x,P Ϭb)(m:∀xs,(∀d∈xs,P d)->P Ōa)(f:∀xs,(∀d∈xs,P d)->P Ĕa)(g:∀ks xs,(∀d∈xs,P d)->P (.dic ks xs))(l:∀x,P (.exc x))(k:∀x fs xs,(∀d∈xs,P d)->P (.obj x fs xs))(d:D):P d:=
 D.rec (motive_1:=P) (motive_2:=λn=>∀d∈n,P d) r o a c (λxs h=>m xs h) (λxs h=>f xs h) (λks xs h=>g ks xs h) l (λx fs xs h=>k x fs xs h) ãm
  (λd n p j e q=>by rcases ħ q with z|z;show z▸p;show j e z) d
mutual
nonrec def xh:D->D->Ï
 |.zP,.zP=>Ã|.bl a,.bl b=>a==b|.bl a,.int b=>ůl==b|.int a,.bl b=>a==Ïf|.int a,.int b=>a==b|.str a,.str b=>a==b|.tup xs,.tup ys=>Æc xs ys|.lst xs,.lst ys=>Æc xs ys|_,_=>Ä
nonrec def Æc:Á D->Á D->Ï
 | [],[]=>Ã|x::xs,y::ys=>xh x y&&Æc xs ys|_,_=>Ä
end
abbrev Sl:=Ï×D
abbrev zu:=Á (É Sl)
abbrev FE:=zu->É D
abbrev FT:=zu->É Ï
abbrev FA:=zu->É Ÿa
abbrev FG:=D->zu->É zu
inductive Fl where
 |nx (σ:zu)|rt (o:Ï) (d:D)|bk (σ:zu)|ct (σ:zu)
abbrev FS:=zu->É Fl
abbrev yV:Â:=16777216
nonrec def z7(i:Â):FE:=λσ=>match σ[i]? with
 |À Üc=>À d|_=>Å
nonrec def tV(i:Â):FE:=λσ=>match σ[i]? with
 |À îo=>À d|_=>Å
nonrec def eC(d:D):FE:=λ_=>À d
nonrec def e1(F:D->É D)(a:FE):FE:=λσ=>(Äa).bind F
nonrec def e2(F:D->D->É D)(a b:FE):FE:=λσ=>(Äa).bind λx=>(śd).bind λy=>F x y
nonrec def eL(F:Á D->É D)(a:FA):FE:=λσ=>(Äa).bind F
nonrec def zF:FA:=λ_=>À []
nonrec def zB(a:FE)(r:FA):FA:=λσ=>(Äa).bind λx=>(r σ).bind λb=>À (x::b)
nonrec def Y0:D->É Ï
 |.bl b=>À b|_=>Å
def tE(a:FE):FT:=λσ=>(Äa).bind Y0
nonrec def ub(a b:FT):FT:=λσ=>(Äa).bind λk=>match k with
 |Ã=>b σ|Ä=>À Ä
nonrec def kN(a b:FT):FT:=λσ=>(Äa).bind λk=>match k with
 |Ã=>À Ã|Ä=>b σ
nonrec def gI(a:FT):FT:=λσ=>(Äa).bind λk=>À (!k)
def XQ(a b:FE):FE:=λσ=>(Äa).bind λx=>(ťe).bind λk=>match k with
 |Ã=>b σ|Ä=>À Ā
def JX(a b:FE):FE:=λσ=>(Äa).bind λx=>(ťe).bind λk=>match k with
 |Ã=>À Ĭ|Ä=>b σ
def Le(a:FE):FE:=λσ=>(Äa).bind λx=>(ťe).bind λk=>À ŕi
nonrec def jJ(c:FT)(a b:FE):FE:=λσ=>(Ϥc).bind λk=>match k with
 |Ã=>a σ|Ä=>b σ
nonrec def xz(a:FA):FE:=λσ=>(Äa).bind λb=>À (.tup b)
nonrec def xV(a:FA):FE:=λσ=>(Äa).bind λb=>À üj
nonrec def xF:D->D->É D
 |.int i,.int j=>À Ŀf|.int i,.bl b=>À (Ε (i+Ïf))|.str x,.str y=>if Ϥb+ęe<=yV then À (.str đg)else Å|.lst x,.lst y=>if Ϥb+ęe<=yV then À åp else Å|.tup x,.tup y=>if x.isEmpty=Ä/\Ϥb+ęe<=yV then À (.tup đg)else Å|_,_=>Å
nonrec def fI(C:Æ->Æ->Ï)(g:Æ->Æ->Æ):D->D->É D
 |.int i,.int j=>match C i j with
  |Ã=>À Ůo|Ä=>Å
 |_,_=>Å
nonrec def jK:D->D->É D
 |.int i,.int j=>À (Ε (i-j))|_,_=>Å
nonrec def XX(i:Æ):Ï:=decide (-Ýg<i)&&decide (i<2 ^ 64)
def Ja:D->D->É D:=fI (λi _=>XX i) (·*·)
def Jb:D->D->É D:=fI (λ_ j=>XX j) (·*·)
def yx:D->D->É D:=fI (λ_ j=>decide (0<j)) (· % ·)
def vF:D->D->É D:=fI (λ_ j=>decide (0<j)&&decide (j<2 ^ 64)) (· / ·)
nonrec def qu(i j:Æ):Ï:=decide (0<=j)&&(decide (j<=1000000)&&decide (īd<2 ^ 64))
def dG:D->D->É D:=fI qu λi j=>i ^ ϱ
def vg:D->D->É D:=fI qu λi j=>i*2 ^ ϱ
def T5:D->D->É D:=fI (λ_ j=>decide (0<=j)) λi j=>i/2 ^ ϱ
nonrec def wz(g:Æ->Æ->Æ):D->D->É D
 |.int i,.int j=>À Ůo|_,_=>Å
nonrec def gi:D->É D
 |.int i=>À (Ε (-i))|_=>Å
nonrec def T3:D->É D
 |.int i=>À (Ε ıj)|_=>Å
nonrec def qN(g:Æ->Æ->Ï):D->D->É D
 |.int i,.int j=>À (.bl ϩa)|_,_=>Å
nonrec def VF:D->Ï
 |.zP=>Ã|_=>Ä
def XS:D->D->É D
 |x,.zP=>À (.bl (VF x))|_,_=>Å
def Lm:D->D->É D
 |x,.zP=>À (.bl (!VF x))|_,_=>Å
nonrec def xQ:D->Ï
 |.zP=>Ã|.bl _=>Ã|.int _=>Ã|.str _=>Ã|_=>Ä
nonrec def jG(f:D->D->Ï):Á D->Á D->Ï
 |x::xs,y::ys=>f x y&&jG f xs ys|_,_=>Ã
def ux:Â->D->D->Ï
 |0,_,_=>Ä|n+1,x,y=>match x,y with
  |.tup xs,.tup ys=>jG ϡc xs ys|.lst xs,.lst ys=>jG ϡc xs ys|x,y=>xQ x&&xQ y
def YA:D->D->É Ï
 |.int _,.bl _=>Å|.bl _,.int _=>Å|x,y=>match ux 6 x y with
  |Ã=>À (xh x y)|Ä=>Å
def za(x y:D):É D:=(YA x y).bind λk=>À Ŋd
def vG(x y:D):É D:=(YA x y).bind λk=>À ŕi
nonrec def uU:D->É Ĺ
 |.int i=>À þj|.str x=>À äg|_=>Å
nonrec def ċ{α:Type}:Á Ĺ->Á α->Sum Æ Ç->É α
 |k'::ks,v::vs,k=>if k'=k then À v else ċ ks vs k|_,_,_=>Å
nonrec def xA(ks:Á Ĺ)(k:Sum Æ Ç):Ï:=ks.any λj=>decide (j=k)
def w8(ks:Á Ĺ)(k:Sum Æ Ç):Á Ĺ:=if xA ks k=Ã then ks else ks++[k]
def wA(ks:Á Ĺ)(vs:Á α)(k:Sum Æ Ç)(v:α):Á α:=if xA ks k=Ã then íc (λa x=>if a=k then v else x) ks vs else vs++[v]
def Lk(x:D):D->É Ï
 |.lst ys=>match xQ x&&ϗc xQ with
  |Ã=>À Îf|Ä=>Å
 |.tup ys=>match xQ x&&ϗc xQ with
  |Ã=>À Îf|Ä=>Å
 |.str j=>match x with
  |.str i=>À Ϣk|_=>Å
 |.dic ks _=>(Še).bind λk=>À (xA ks k)|_=>Å
def xM(x y:D):É D:=(Lk x y).bind λk=>À Ŋd
def ql(x y:D):É D:=(Lk x y).bind λk=>À ŕi
nonrec def uP(xs:Á α)(i:Æ):É α:=if 0<=i then xs[ŀe]? else if -(ì:Æ)<=i then xs[(i+ì).toNat]? else Å
def zH:D->D->É D
 |.lst xs,.int i=>uP xs i|.tup xs,.int i=>uP xs i|.str z,.int i=>(ōo).bind λc=>À ϸh|.dic ks vs,k=>(uU k).bind λk=>ċ ks vs k|_,_=>Å
nonrec def uj:Á D->É D
 | [.lst xs]=>À Űo| [.tup xs]=>À Űo| [.str z]=>À ůo|_=>Å
nonrec def Ll:Á D->É D
 | [.int i]=>À Áa| [.bl k]=>À (Ε Ůl)|_=>Å
inductive qK where
 |int|bool|str|list|tuple
nonrec def qK.nm:qK->æa
 |.int => ğc|.bool => Őe|.str => Ūe|.list => Ģ|.tuple => ſ
nonrec def kQ:D->É (Ï×Ï×Ï×Ï×Ï)
 |.zP=>À (Ä,Ä,Ä,Ä,Ä)|.bl _=>À (Ã,Ã,Ä,Ä,Ä)|.int _=>À (Ã,Ä,Ä,Ä,Ä)|.str _=>À (Ä,Ä,Ã,Ä,Ä)|.tup _=>À (Ä,Ä,Ä,Ä,Ã)|.lst _=>À (Ä,Ä,Ä,Ã,Ä)|.dic _ _=>Å|.exc _=>Å|.obj _ _ _=>Å
nonrec def qK.sel:qK->Ï×Ï×Ï×Ï×Ï->Ï
 |.int,k=>k.1|.bool,k=>k.2.1|.str,k=>k.2.2.1|.list,k=>k.2.2.2.1|.tuple,k=>k.2.2.2.2
def Jx(T:qK)(d:D):É Ï:=(kQ d).bind λk=>À (T.sel k)
def XR(T:qK)(a:FE):FE:=λτ=>(a τ).bind λd=>(Jx T d).bind λb=>À Şb
nonrec def w_(a:FE):FA:=λσ=>(Äa).bind λd=>match d with
 |.lst xs=>À xs|.tup xs=>À xs|.str z=>À (ľm λc=>.str {#[c]})|_=>Å
nonrec def qO(lo hi:FE):FA:=λσ=>(lo σ).bind λx=>(hi σ).bind λy=>match x,y with
 |.int i,.int j=>if īd<=yV/\ğe<=yV/\(j-i).toNat<=yV then À ((Ûa (j-i).toNat).map λk:Â=>.int ϫc)else Å|_,_=>Å
nonrec def zt(i:Â):FG:=λd σ=>À (Ν Üc)
nonrec def vq(i j:Â):FG:=λd σ=>match d with
 |.tup Ác=>À ((Ν (À (Ä,x))).set j (À (Ä,y)))|_=>Å
nonrec def yi:FS:=λσ=>À ág
nonrec def zR(a b:FS):FS:=λσ=>(Äa).bind λf=>match f with
 |.nx σ'=>b σ'|f=>À f
nonrec def yF(i:Â)(e:FE):FS:=λσ=>(ϣc).bind λd=>À ϴm
nonrec def t4(i:Â)(e:FE):FS:=λσ=>(ϣc).bind λd=>À (.nx (Ν žb))
nonrec def yY(e:FE):FS:=λσ=>(ϣc).bind λd=>À Ēo
nonrec def vY(e:FE):FS:=λσ=>(ϣc).bind λd=>À đo
nonrec def qz(i:Â):FS:=λσ=>match σ[i]? with
 |À žb=>À đo|_=>Å
nonrec def yS(c:FT)(a b:FS):FS:=λσ=>(Ϥc).bind λk=>match k with
 |Ã=>a σ|Ä=>b σ
nonrec def jx(g:FG)(b:FS):Á D->zu->É Fl
 | [],σ=>À ág|d::r,σ=>(Ϫb).bind λσ1=>(b σ1).bind λf=>match f with
  |.nx σ2=>jx g b r σ2|.ct σ2=>jx g b r σ2|.bk σ2=>À ϱi|.rt o d=>À Žc
def qy(it:FA)(g:FG)(b:FS):FS:=λσ=>(it σ).bind λa=>jx g b a σ
nonrec def tz(c:FT)(b:FS):Â->zu->É Fl
 |0,_=>Å|n+1,σ=>(Ϥc).bind λk=>match k with
  |Ä=>À ág|Ã=>(śd).bind λf=>match f with
   |.nx σ2=>tz c b n σ2|.ct σ2=>tz c b n σ2|.bk σ2=>À ϱi|.rt o d=>À Žc
nonrec def Zu:Â:=100000000
def Ve(c:FT)(b:FS):FS:=λσ=>tz c b Zu σ
nonrec def ZW(i:Â):FS:=λσ=>match σ[i]? with
 |À îo=>À ϴm|_=>Å
nonrec def nC(i:Â)(F:D->É D):FS:=λσ=>match σ[i]? with
 |À žb=>(F d).bind λa=>À Ùl|_=>Å
nonrec def u_(i:Â)(F:D->D->É D)(e:FE):FS:=λσ=>match σ[i]? with
 |À žb=>(ϣc).bind λx=>(F d x).bind λa=>À Ùl|_=>Å
nonrec def uR:D->D->É D
 |.lst xs,y=>if ì<yV then À ϑm else Å|_,_=>Å
def jV(i:Â)(k v:FE):FS:=λσ=>(v σ).bind λy=>match σ[i]? with
 |À (À (Ã,.dic ks ds))=>(ĺg).bind λx=>(Še).bind λx=>if ŀ<yV then À (.nx (Ν (À (Ã,.dic Ďp än))))else Å|_=>Å
def V0(ks:Á Ĺ)(x:D):É D:=(Še).bind λk=>À ϵm
def EK(d k e:FE):FE:=λσ=>(d σ).bind λx=>match x with
 |.dic ks ds=>(ĺg).bind λy=>(ϣc).bind λz=>(uU y).bind λy=>À ((ċ ks ds y).getD z)|_=>Å
nonrec def xi(g:FG)(c:FT)(e:FE)(σ:zu):Á D->É Ÿa
 | []=>À []|d::r=>(Ϫb).bind λσ1=>(Ŋj).bind λk=>match k with
  |Ã=>(ňd).bind λx=>(xi g c e σ r).bind λa=>À (x::a)|Ä=>xi g c e σ r
nonrec def xY:FT:=λ_=>À Ã
def wK(n:Â)(it:FA)(g:FG)(c:FT)(e:FE):FE:=λσ=>(it σ).bind λa=>(xi g c e şh a).bind λb=>À üj
nonrec def yM(n:Â)(b:FS)(ds:Á D):É ä:=(b Ċk).bind λf=>match f with
 |.rt o d=>À (o,d)|.nx _=>À (Ä,.zP)|_=>Å
nonrec def zg(F:Á D->É ä)(a:FA):FE:=λσ=>(Äa).bind λb=>(F b).bind λr=>À r.2
nonrec def wQ(F:Á D->É ä)(a:FA):FE:=λσ=>(Äa).bind λb=>(F b).bind λr=>match r with
 |(Ã,d)=>À d|_=>Å
def Ld(F:Á D->É ä)(a:FA):FE:=λσ=>(zg F a σ).bind λd=>if xQ d=Ã then À d else Å
open ő Ň L2
abbrev St:=L2.St
def z0x(_:Ô)(H:Hp)(a:Ë)(kvs:Á ϲ):È:=Rd H a ř
mutual
def zY(K:Ô)(H:Hp):D->V->È
 |.zP,v=>v=.zP|.bl b,v=>v=.bl b|.int i,v=>v=.int i|.str x,v=>v=.str x/\Ϥb<=ã|.tup ds,v=>∃a vs,v=.ref a/\xJ K H a vs/\ë K H ds vs/\þ<=ã|.lst ds,v=>∃a vs,v=.ref a/\ya K H a vs/\ë K H ds vs/\þ<=ã|.dic ks ds,v=>∃a vs,v=.ref a/\z0x K H a Ýb/\ŀ=č/\ë K H ds vs/\þ<=ã|.exc x,v=>∃a C,v=.ref a/\ϔ K Ę x=À Ėa/\H a=À (.ext (z0u a C))|.obj x fs ds,v=>∃a C dx vs,v=.ref a/\ϔ K Ę x=À Ėa/\H a=À Ìh/\ŉa=č/\ë K H ds vs
def ë(K:Ô)(H:Hp):Á D->Á V->È
 | [],vs=>vs=[]|d::ds,vs=>∃v r,vs=v::r/\zY K H d v/\ë K H ds r
end
section
variable{K:Ô}{H H':Hp}
def ϱb{a:Ë}{u:HO}(s:yE H H')(h:Rd H a u):Rd H' a u:=by rcases h with h|⟨o,h⟩;show .inl (s _ _ h);show .inr {o,s _ _ h}
def um(s:yE H H')(h:xJ K H a xs):xJ K H' a xs:=by rcases h with h|h;show .inl Ùp;show .inr h
def uI(s:yE H H')(h:ya K H a xs):ya K H' a xs:=by rcases h with h|h;show .inl Ùp;show .inr h
theorem ðb:∀{ds:Á D}{vs:Á V},(∀d∈ds,∀v,zY K H d v->zY K H' d v)->ë K H ds vs->ë K H' ds vs
 | [],_,_,h=>h|d::ds,vs,f,h=>by let{v,r,rfl,c,a}:=h;show{v,r,rfl,f d Ĝ v c,ðb (λb m=>f b (Ű _ m)) a}
theorem zY.mono(s:yE H H'):∀{d:D}{v:V},zY K H d v->zY K H' d v:=λ{d}=>by show Ŏg (P:=λd=>∀v,zY K H d v->zY K H' d v) Ļo ŧn ťn Ťn ?_ ?_ ?_ ?_ ?_ d _;rintro g f v ⟨a,c,e,q,r,l⟩;show{a,c,e,um s q,ðb f r,l};rintro g f v ⟨a,c,e,q,r,l⟩;show{a,c,e,uI s q,ðb f r,l};rintro k g f v ⟨a,c,e,q,z,r,l⟩;show{a,c,e,ϱb s q,z,ðb f r,l};rintro x v ⟨a,C,e,n,h⟩;show{a,C,e,n,s _ _ h};rintro x m g f v ⟨a,C,j,c,e,n,h,l,r⟩;show{a,C,j,c,e,n,s _ _ h,l,ðb f r}
theorem Reps.mono(s:yE H H'){ds:Á D}{vs:Á V}(h:ë K H ds vs):ë K H' ds vs:=ðb (λ_ _ _=>zY.mono s) h
theorem ďi:∀{ds:Á D}{vs:Á V},ë K H ds vs->č=þ
 | [],_,h=>by rw[ϫp];rfl|d::ds,_,h=>by let{v,r,rfl,_,a}:=h;rw[Ĉ,Ĉ,ďi a]
theorem Reps.get:∀{ds:Á D}{vs:Á V}{i:Â}{d:D},ë K H ds vs->ds[i]?=À d->∃v,vs[i]?=À v/\zY K H d v
 | [],_,_,_,_,e=>by cases e|d::ds,_,0,_,h,e=>by rw[Ϣp];cases e;show{v,rfl,b}
 |d::ds,_,i+1,d',h,e=>by rw[Ϣp];show Reps.get (i:=i) a Ła
theorem Reps.at{ds:Á D}{vs:Á V}{i:Â}{v:V}(h:ë K H ds vs)(e:vs[i]?=À v):∃d,ds[i]?=À d/\zY K H d v:=by
 let l:=Ġe;have b:i<þ:=by rw[<-l];show Ŋe.1
 let{c,a,r}:=h.get (Ē b);rw[e]at a;cases a;show{_,Ē b,r}
theorem Ϻn:∀{ds es:Á D}{vs us:Á V},ë K H ds vs->ë K H es us->ë K H (ds++es) (vs++us)
 | [],_,_,_,h,g=>by rw[ϫp];show g|d::ds,_,_,_,h,g=>by rw[Ϣp];show{v,_,rfl,b,Ϻn a g}
def ħe(h:zY K H d v):ë K H [d] [v]:={v,[],rfl,h,rfl}
theorem Ϥo:∀{ds:Á D}{vs:Á V}(n:Â),ë K H ds vs->ë K H (ds.take n) (vs.take n)
 |_,_,0,_=>by rw[Ďf,Ďf];rfl| [],_,n+1,h=>by rw[ϫp];rfl|d::ds,_,n+1,h=>by rw[Ϣp];show{v,_,rfl,b,Ϥo n a}
theorem ϧo:∀{ds:Á D}{vs:Á V}(n:Â),ë K H ds vs->ë K H (ðg n) (vs.drop n)
 |_,_,0,h=>h| [],_,n+1,h=>by rw[ϫp];rfl|d::ds,_,n+1,h=>by rw[Ϣp];show ϧo n a
theorem ĝd:∀{ns:Á Æ},ë K H Ϥ æb
 | []=>rfl|n::ns=>{_,_,rfl,rfl,ĝd}
#print a
structure zQ(G H G' H':Hp):È where
 g:yE G G'
 h:yE H H'
 gh:yE G' H'
 new:∀p,G' p≠Å->G p≠Å\/H p=Å
section
variable{G H G0 H0 G1 H1 G2 H2:Hp}{p:Ë}{o:HO}
theorem Ņa(s:yE G H):zQ G H G H:={Œa _,Œa _,s,λ_ h=>.inl h}
theorem zQ.trans(a:zQ G H G1 H1)(b:zQ G1 H1 G2 H2):zQ G H G2 H2:={Űi b.g,a.h.trans b.h,b.gh,λp h=>by rcases b.new p h with z|z;show a.new p z;show .inr (a.h.free z)}
def zQ.rebase(a:zQ G0 H0 G1 H1)(b:zQ G1 H0 G2 H2):zQ G0 H0 G2 H2:={Űi b.g,b.h,b.gh,λp h=>by rcases b.new p h with z|z;show a.new p z;rw[Ϯp]}
def zQ.WH(a:zQ G0 H0 G1 H1):zQ G1 H0 G1 H1:={Œa _,a.h,a.gh,λ_ h=>.inl h}
def rO(h:ze H p o q≠Å):q=p\/H q≠Å:=by by_cases e:q=p;show .inl e;rw[yH e]at h;show .inr h
def Pe(s:yE G H):yE Ło ŭc:=λb u e=>by by_cases hb:b=p;subst hb;rw[yh]at e ⊢;show e;rw[yH hb]at e ⊢;show s _ _ e
def Ĕc(s:yE G H)(h:H p=Å):zQ G H Ło ŭc:={uk (s.free h) o,uk h o,Pe s,λq z=>by rcases rO z with e|e;show .inr (e▸h);show .inl e}
def ĵa(s:yE G H)(h:H p=Å):zQ G H G ŭc:={Œa _,uk h o,s.trans (uk h o),λ_ z=>.inl z}
def zQ.ye(a:zQ G H G1 H1)(h:H p=Å)(g:G1 p=Å)(e:H1 p=À o):zQ G H (ze G1 p o) H1:=⟨Űi (uk g o),a.h,λb u q=>by
 by_cases hb:b=p;subst hb;rw[yh]at q;cases q;show e;rw[yH hb]at q;show a.gh _ _ q,λq z=>by
 rcases rO z with w|w;show .inr (w▸h);show a.new q w⟩
#print a
def vW(K:Ô)(G H:Hp)(d:D)(p:Ë):È:=match d with
 |.lst ds=>∃vs,H p=À Ķp/\ë K G ds vs/\þ<=ã|.dic ks ds=>∃vs,H p=À öi/\ŀ=č/\ë K G ds vs/\þ<=ã|_=>ÿ
section
variable{K:Ô}{G H G' H':Hp}{d:D}{p:Ë}
def vW.some(h:vW K G H d p):H p≠Å:=by
 cases d with
 |lst ds=>let{a,e,_}:=h;rw[e];show λz=>nomatch z
 |dic ks ds=>let{a,e,_}:=h;rw[e];show λz=>nomatch z
 |_=>show ϝc
theorem vW.mono(g:yE G G')(h:yE H H')(o:vW K G H d p):vW K G' H' d p:=by
 cases d with
 |lst ds=>let{a,e,r,l}:=o;show{a,h _ _ e,öa g,l}
 |dic ks ds=>let{a,e,z,r,l}:=o;show{a,h _ _ e,z,öa g,l}
 |_=>show Ěc
def vW.rep(s:yE G H)(o:vW K G H d p):zY K H d Ŭ:=by
 cases d with
 |lst ds=>let{a,e,r,l}:=o;show{p,a,rfl,Ĺa e,öa s,l}
 |dic ks ds=>let{a,e,z,r,l}:=o;show{p,a,rfl,.inl e,z,öa s,l}
 |_=>show Ěc
def vW.ye(o:vW K G H d p)(g:G p=Å):∃u,H p=Option.some u/\zY K ŀo d Ŭ:=by
 cases d with
 |lst ds=>let{a,e,r,l}:=o;show{_,e,p,a,rfl,Ĺa yh,öa Óg,l}
 |dic ks ds=>let{a,e,z,r,l}:=o;show{_,e,p,a,rfl,.inl yh,z,öa Óg,l}
 |_=>show Ěc
#print a
structure zp(K:Ô)(n:Â)(G0 H0 G H:Hp)(τ:zu)(σ:St):È where
 ext:zQ G0 H0 G H
 l1:σ.length=n
 l2:τ.length=n
 fr:∀(i:Â)(d:D),τ[i]?=À Üc->∃v,σ[i]?=À ϯ/\zY K G d v
 ow:∀(i:Â)(d:D),τ[i]?=À žb->∃p,σ[i]?=À Åe/\G p=Å/\H0 p=Å/\vW K G H d p
 ap:∀(i j:Â)(d e:D)(p:Ë),i≠j->τ[i]?=À žb->τ[j]?=À Ùe->σ[i]?=À Åe->σ[j]?=À Åe->ÿ
section
variable{K:Ô}{n:Â}{G0 H0 G H G' H':Hp}{τ:zu}{σ:St}
def zp.go(E:zp K n G0 H0 G H τ σ)(x:zQ G H G' H'):zp K n G0 H0 G' H' τ σ:=⟨Ëo x,ũ,Ũ,λi d h=>by
 let{v,e,r}:=ŝa i d h;show{v,e,öa x.g},λi d h=>by
 let{p,e,g,z,o}:=Ŝa i d h;show{p,e,?_,z,o.mono x.g x.h};cases q:G' p with
 |Å=>rfl|À u=>rcases Ϩc p (by rw[q];show λz=>nomatch z)with w|w;show Ý g w;show Ý w o.some,Ćb⟩
theorem zp.WH(E:zp K n G0 H0 G H τ σ):zp K n G H0 G H τ σ:={E.ext.WH,ũ,Ũ,ŝa,Ŝa,Ćb}
def zp.near(a:zQ G0 H0 Ga Ha)(E:zp K n Ga H0 G H τ σ):zp K n G0 H0 G H τ σ:={a.rebase Ŧb,ũ,Ũ,ŝa,Ŝa,Ćb}
def zp.lt{i:Â}{s:É Sl}(E:zp K n G0 H0 G H τ σ)(h:τ[i]?=À s):i<n:=by rw[<-Ũ];show Ϭa.1
def vZ{α:Type}{xs:Á α}{i j:Â}{x y:α}(h:Ĺf[j]?=À y):(j=i/\y=x)\/(j≠i/\xs[j]?=À y):=by
 rw[Ϭd]at h;by_cases e:i=j;subst e;rw[Ð rfl]at h
 rw[ũp];cases h;show .inl {rfl,rfl};cases h;rw[Ñ e]at h;show .inr {λz=>e Ŝb,h}
def YC{α:Type}{xs:Á α}{i:Â}{x:α}(h:i<ì):Ĺf[i]?=À x:=by rw[Ϭd,Ð rfl,Ð h]
theorem uD{α:Type}{xs:Á α}{i j:Â}{x:α}(h:j≠i):Ĺf[j]?=xs[j]?:=by rw[Ϭd,Ñ (λz=>h Ŝb)]
theorem zp.set{i:Â}{d:D}{v:V}(E:zp K n G0 H0 G H τ σ)(hi:i<n)(r:zY K G d v):zp K n G0 H0 G H żh Āc:=⟨Ŧb,by rw[Ϲ];show ũ,by rw[Ϸp],λj e h=>by
 rcases vZ h with⟨rfl,z⟩|⟨a,z⟩;cases z;show{v,YC Çf,r};rw[uD a];show ŝa j e z,λj e h=>by
 rcases vZ h with⟨rfl,z⟩|⟨a,z⟩;cases z;rw[uD a];show Ŝa j e z,λj k e f p c m l=>by
 rcases vZ m with⟨rfl,z⟩|⟨a,z⟩;cases z;rcases vZ l with⟨rfl,g⟩|⟨b,g⟩;cases g;rw[uD a,uD b];show Ćb j k e f p c z g⟩
def zp.z0q{i:Â}{d:D}{p:Ë}(E:zp K n G0 H0 G H τ σ)(hi:i<n)(v:G p=Å)(t:H0 p=Å)(o:vW K G H d p)(s:∀(j:Â)(e:D),j≠i->τ[j]?=À Ùe->σ[j]?=À Åe->ÿ) :zp K n G0 H0 G H (τ.set i žb) Ìf:=⟨Ŧb,by rw[Ϲ];show ũ,by rw[Ϸp],λj e h=>by
 rcases vZ h with⟨rfl,z⟩|⟨b,z⟩;cases z;rw[uD b];show ŝa j e z,λj e h=>by
 rcases vZ h with⟨rfl,z⟩|⟨b,z⟩;cases z;show{p,YC Çf,v,t,o};rw[uD b];show Ŝa j e z,λj k e f q l u r g c=>by
 rcases vZ u with⟨rfl,z⟩|⟨b,z⟩;rcases vZ r with⟨rfl,m⟩|⟨a,m⟩;show l rfl;rw[YC Çf]at g;rw[uD a]at c;cases g;show s k f a m c;rcases vZ r with⟨rfl,m⟩|⟨a,m⟩;rw[YC Çf]at c;rw[uD b]at g;cases c;show s j e b z g;rw[uD b]at g;rw[uD a]at c;show Ćb j k e f q l z m g c⟩
def zp.z0i(E:zp K n G0 H0 G H τ σ)(a:H p=Å):∀(j:Â)(e:D),j≠i->τ[j]?=À Ùe->σ[j]?=À Åe->ÿ:=λj e _ c b=>by let{q,e1,_,_,o}:=Ŝa j e c;rw[b]at e1;cases e1;show o.some a
def zp.freeze{i:Â}{b:Ï}{d:D}(E:zp K n G0 H0 G H τ σ)(hi:τ[i]?=À îe):∃G',zp K n G0 H0 G' H żh σ/\yE G G':=by
 let y:=E.lt hi;cases b with
 |Ä=>
  show{G,?_,Œa _}
  let e:τ.set i Üc=τ:=by apply éf;intro j;by_cases hj:j=i;subst hj;rw[YC (by rw[Ũ];show y),hi];rw[uD hj]
  rw[e];show E
 |Ã=>let{p,e,g,z,o}:=Ŝa i d hi;let{u,B,r}:=o.ye g;let x:zQ G0 H0 ŀo H:=E.ext.ye z g B;refine{ze G p u,{x,ũ,by rw[Ϸp],λj a h=>?_,λj a h=>?_,λj k e1 f q s F A=>?_},uk g _};rcases vZ h with⟨rfl,w⟩|⟨m,w⟩;cases w;show{_,e,r};let{v,l,L}:=ŝa j a w;show{v,l,L.mono Óg};rcases vZ h with⟨rfl,w⟩|⟨m,w⟩;cases w;let{q,l,I,J,C}:=Ŝa j a w;show{q,l,?_,J,īg Óg Įj};rw[yH Ϡi];show I;subst c;show Ćb i j d a q (λc=>m ōd) hi w e l;rcases vZ F with⟨rfl,w⟩|⟨m,w⟩;cases w;rcases vZ A with⟨rfl,t⟩|⟨N,t⟩;cases t;show Ćb j k e1 f q s w t
#print a
section
variable(X:Cx)
structure SE(e:Õ)(f:FE):È where
 h:∃t,PE X e t/\∀{G0 H0 G H:Hp}{τ:zu}{σ:St}{d:D}{Q:VK},zp X.K ñ G0 H0 G H τ σ->f τ=À d->(∀v G' H',zQ G H G' H'->zY X.K G' d v->Q v H')->t σ H Q
structure SB(e:Õ)(f:FE):È where
 h:∃t,PE X e t/\∀{G0 H0 G H:Hp}{τ:zu}{σ:St}{d:D}{Q:VK},zp X.K ñ G0 H0 G H τ σ->f τ=À d->(∀v G' H',zQ G H G' H'->zY X.K H' d v->Q v H')->t σ H Q
structure SF(e:Õ)(f:FE):È where
 h:∃t,PE X e t/\∀{G0 H0 G H:Hp}{τ:zu}{σ:St}{d:D}{Q:VK},zp X.K ñ G0 H0 G H τ σ->f τ=À d->(∀p G' H',zQ G H G' H'->H p=Å->G' p=Å->vW X.K G' H' d p->Q Ŭ H')->t σ H Q
structure ST(e:Õ)(f:FT):È where
 h:∃t,PT X e t/\∀{G0 H0 G H:Hp}{τ:zu}{σ:St}{d:Ï}{Q:Ï->Hp->È},zp X.K ñ G0 H0 G H τ σ->f τ=À d->(∀G' H',zQ G H G' H'->Q d H')->t σ H Q
structure SW(e:Õ)(f:FT):È where
 h:∃t,PW X e t/\∀{G0 H0 G H:Hp}{τ:zu}{σ:St}{d:Ï}{Q:Ï->Hp->È},zp X.K ñ G0 H0 G H τ σ->f τ=À d->(∀G' H',zQ G H G' H'->Q d H')->t σ H Q
structure SA(es:Á Õ)(f:FA):È where
 h:∃t,PA X es t/\∀{G0 H0 G H:Hp}{τ:zu}{σ:St}{ds:Á D}{Q:Á V->Hp->È},zp X.K ñ G0 H0 G H τ σ->f τ=À ds->(∀vs G' H',zQ G H G' H'->ë X.K G' ds vs->Q vs H')->t σ H Q
structure Ut(es:Á Õ)(f:FA):È where
 h:∃t,PA X es t/\∀{G0 H0 G H:Hp}{τ:zu}{σ:St}{ds:Á D}{Q:Á V->Hp->È},zp X.K ñ G0 H0 G H τ σ->f τ=À ds->(∀vs G' H',zQ G H G' H'->ë X.K H' ds vs->Q vs H')->t σ H Q
#print a
def tS(K:Ô)(n:Â)(b a:Hp)(E:ug):Fl->È
 |.nx τ=>∀σ G H,zp K n b a G H τ σ->E.nx σ H|.bk τ=>∀σ G H,zp K n b a G H τ σ->E.bk σ H|.ct τ=>∀σ G H,zp K n b a G H τ σ->E.ct σ H|.rt Ä d=>∀v G H,zQ b a G H->zY K G d v->E.rt v H|.rt Ã d=>∀p G H,zQ b a G H->a p=Å->G p=Å->vW K G H d p->E.rt Ŭ H
section
variable(X:Cx)
structure SS(st:Ü)(f:FS):È where
 h:∃t,PS X st t/\∀{G0 H0 G H:Hp}{τ:zu}{σ:St}{fl:Fl}{E:ug},zp X.K ñ G0 H0 G H τ σ->f τ=À fl->tS X.K ñ G0 H0 E fl->t E σ H
structure qI(st:Á Ü)(f:FS):È where
 h:∃t,uO X st t/\∀{G0 H0 G H:Hp}{τ:zu}{σ:St}{fl:Fl}{E:ug},zp X.K ñ G0 H0 G H τ σ->f τ=À fl->tS X.K ñ G0 H0 E fl->t E σ H
#print a
structure gY(K:Ô)(J:It)(G:Hp)(ds:Á D):È where
 go:∀i G2 H,yE G G2->yE G2 H->i<þ->J.go i H
 tD:∀i G2 H x H',yE G G2->yE G2 H->i<þ->J.tD i H x H'->∃G3 d,zQ G2 H G3 H'/\ds[i]?=À d/\zY K G3 d x
 Ϣ:∀i G2 H,yE G G2->yE G2 H->þ<=i->Ĩg i H
structure SI(X:Cx)(tg Ŵ:Õ)(f:FA):È where
 h:∃wi,PI X tg Ŵ wi/\∀{G0 H0 G H:Hp}{τ:zu}{σ:St}{ds:Á D}{R:It->Hp->È},zp X.K ñ G0 H0 G H τ σ->f τ=À ds->(∀J G' H',zQ G H G' H'->þ<=ã->gY X.K J G' ds->R J H')->wi σ H R
nonrec def vz(K:Ô)(F:Á D->É ä):Sp:=λa H Q _=>∃G ds o d,yE G H/\ë K G ds a/\F ds=À (o,d)/\
 match o with
 |Ä=>∀v G' H',zQ G H G' H'->zY K G' d v->Q v H'|Ã=>∀p G' H',zQ G H G' H'->H p=Å->G' p=Å->vW K G' H' d p->Q Ŭ H'
def zG{α β:Type}{o:É α}{f:α->É β}{b:β}(h:ŗj f=À b):∃a,o=À a/\f a=À b:=by
 cases o with
 |Å=>cases h|À a=>show{a,rfl,h}
def EL(h:z7 i τ=À d):τ[i]?=À Üc:=by
 unfold z7 at h
 rw[Ũp];cases h;show e;cases h
def cy(h:tV i τ=À d):∃b,τ[i]?=À îe:=by
 unfold tV at h
 rw[ũp];rename_i b a e;cases h;show{_,e};cases h
section
variable{X:Cx}{x:Ç}{p pos:Pos}{e a b c o:Õ}{es yC:Á Õ}{f fa fb:FE}{ft fu:FT}{fs:FA}{F:D->D->É D}{r:R2}
def SE.sb(h:SE X e f):SB X e f:={let ⟨t,p,k⟩:=h.h;{t,p,λE b q=>k E b λv c a x r=>q v c a x (öa ĭb)}}
def SF.se(h:SF X e f):SE X e f:={let ⟨t,p,k⟩:=h.h;{t,p,λE c q=>k E c λp i g x b a o=>by let{u,d,r}:=o.ye a;show q _ _ _ (x.ye b a d) r}}
def zM(h:SE X e f):SB X e f:=h.sb
def yO(h:SF X e f):SE X e f:=h.se
def z8(i:Â)(b:Í òd q12)(hv:Í ėd q13)(d:Í Ł q10)(a:Í Ŭb q10):SE X ía ųj:={{_,VU b hv d a,λE c q=>by let{v,e,r}:=ŝa _ _ (EL c);show{v,e,q v _ _ Ϝb r}}}
def Tc(i:Â)(d:Í òd q12)(hv:Í ėd q13)(g:Í Ł q10)(a:Í Ŭb q10):SB X ía (tV i):=⟨⟨_,VU d hv g a,λE f q=>by
 let{b,c}:=cy f;cases b with
 |Ä=>let{v,e,r}:=ŝa _ _ c;show{v,e,q v _ _ Ϝb (öa Ŭa)}
 |Ã=>let{p,e,_,_,o}:=Ŝa _ _ c;show{_,e,q _ _ _ Ϝb (o.rep Ŭa)}⟩⟩
def I_(h:PE X e Ţe)(r:∀H,zY X.K H d v):SE X e (eC d):={{_,h,λE a q=>by cases a;show q v _ _ Ϝb (r _)}}
def zE{i k pos}:SE X (.Constant Áa k pos) (eC Áa):=I_ l6 λ_=>rfl
def q_{i k pos}:SE X (.Constant (.bool i) k pos) (eC (.bl i)):=I_ y5h λ_=>rfl
def kH{k pos}:SE X (.Constant .none k pos) őb:=I_ y60 λ_=>rfl
def zo{x k pos}(h:Í (Ϥb<=1000) q10):SE X (.Constant Ϭb k pos) (eC Ϭb):=I_ y66 λ_=>{rfl,ĩb h}
def vQ(h:vB ð x v)(r:∀H,zY X.K H d v)(b:Gl X x)(a:Í Ł q10):SE X ía (eC d):=I_ (IW h b a) r
def tI(K:Ô)(r:R2)(F:D->D->É D):È:=∀G H x y u v d (Q:VK),yE G H->zY K G x u->zY K G y v->F x y=À d->(∀w G' H',zQ G H G' H'->zY K G' d w->Q w H')->r u v H Q
def ZD(K:Ô)(r:R2)(F:D->D->É D):È:=∀H x y u v d (Q:VK),zY K H x u->zY K H y v->F x y=À d->∃k,d=.bl k/\(Q Ŋd H->r u v H Q)
def zX(j:y_ X (ϟa op) r)(m:tI X.K r F)(B:SE X a fa)(i:SE X b fb):SE X (.BinOp a op b pos) ļf:=by
 let{O,G,I}:=B.h;let{L,z,l}:=i.h;show{{_,KJ j G z,λE c q=>?_}};let{x,C,c}:=zG c;let{y,t,c}:=zG c;show I E C λv N J e s=>?_
 show l Ĥj t λu f o d p=>?_
 show m f o x y v u _ _ d.gh (s.mono d.g) p c λw H n k A=>q w H n Ģn A
def zV(o:j9 X r)(m:tI X.K r F)(C:SE X a fa)(j:SE X b fb)(f:Í Şo q12):SE X żl ļf:=by
 let{P,H,J}:=C.h;let{N,A,l}:=j.h;show{{_,MV o H A (Ma f),λE c q=>?_}};let{x,G,c}:=zG c;let{y,z,c}:=zG c;show J E G λv O L e t=>?_
 show l Ĥj z λu i p d s=>?_
 show m i p x y v u _ _ d.gh (t.mono d.g) s c λw I n k B=>q w I n Ģn B
def ul(g:y_ X (Ďa op) r)(j:ZD X.K r F)(s:SB X a fa)(f:SB X b fb)(t:éc op b=Ä):SE X Ül ļf:=by
 let{J,A,B}:=s.h;let{H,p,i}:=f.h;show{{_,y5t g A p t,λE c q=>?_}};let{x,w,c}:=zG c;let{y,o,c}:=zG c;show B E w λv I G d n=>?_
 show i úg o λu C l e m=>?_
 let{k,rfl,z}:=j l x y v u _ _ (n.mono e.h) m c;show z (q _ _ _ (ϑb e) rfl)
def yG(i:y_ X (Ďa op) r)(l:ZD X.K r F)(t:SB X a fa)(g:SB X b fb)(w:éc op b=Ä):ST X Ül (tE ļf):=by
 let{L,B,C}:=t.h;let{I,s,j}:=g.h;show{{_,KQ i B s w,λE d q=>?_}};let{z,c,d}:=zG d;let{x,A,c}:=zG c;let{y,p,c}:=zG c;show C E A λv J H e o=>?_
 show j Ĥj p λu G m f n=>?_
 let{k,rfl,z}:=l m x y v u _ _ (o.mono f.h) n c;cases d;show z {_,rfl,q _ _ (ϋc f)}
def t5(h:SE X e f)(c:Í Šo q12):ST X e (tE f):=by
 rw[Şp];show{{_,lr p (lH c),λE a q=>?_}};let{z,b,a}:=zG a;show k E b λv g d x r=>?_
 cases z<;>first|cases a|skip
 cases r;show{_,rfl,q _ _ x}
def Xu(h:ST X a ft):SW X Öh ft:={let ⟨t,p,k⟩:=h.h;{t,mG p,k}}
def Tr(h:ST X a ft):SW X Ōl ft:={let ⟨t,p,k⟩:=h.h;{t,y7a p,k}}
def Za(j:ST X a ft)(f:SW X Øe fu):SW X če (ub ft fu):=by
 rw[ġq];show{{_,mF m l,λE c q=>?_}};rw[Ăq];show n E e λs o d=>?_
 cases k with
 |Ã=>show gr ķk|Ä=>cases c;show gm Ėp
def Vn(j:ST X a ft)(f:SW X Ħf fu):SW X ϙf (kN ft fu):=by
 rw[ġq];show{{_,y79 m l,λE c q=>?_}};rw[Ăq];show n E e λs o d=>?_
 cases k with
 |Ä=>show gm ķk|Ã=>cases c;show gr Ėp
def pq(h:SW X e ft):ST X e ft:={let ⟨t,p,k⟩:=h.h;{t,p.pt,k}}
def Yb(h:ST X a ft):ST X ϑd (gI ft):=by let{j,e,f}:=h.h;show{{_,lj e,λE b q=>?_}};let{k,d,b}:=zG b;cases b;show f E d λi g c=>q _ _ c
def Vi{op}(h:SE X a f):SE X žl f:={let ⟨t,p,k⟩:=h.h;{t,y62 p,k}}
def Mq{K:Ô}{G:Hp}{z:D}{v:V}{k:Ï}(r:zY K G z v)(h:Y0 z=À k):v=.bl k:=by
 cases z<;>first|cases h|skip
 show r
def Iz(n:SE X a fa)(i:SE X Øe fb):SE X če (XQ fa fb):=by
 rw[ğq];show{{_,y5g p o,λE c q=>?_}};let{z,f,c}:=zG c;rw[Ăq];show r E f λv w s d m=>{k,Mq m e,?_}
 cases k with
 |Ã=>show gr āk|Ä=>cases c;show gm Ϛm
def nS(n:SE X a fa)(i:SE X Ħf fb):SE X ϙf (JX fa fb):=by
 rw[ğq];show{{_,y63 p o,λE c q=>?_}};let{z,f,c}:=zG c;rw[Ăq];show r E f λv w s d m=>{k,Mq m e,?_}
 cases k with
 |Ä=>show gm āk|Ã=>cases c;show gr Ϛm
def x0e(g:SE X a fa):SE X ϑd (Le fa):=by let{n,i,j}:=g.h;show{{_,y61 i,λE b q=>?_}};let{z,e,b}:=zG b;let{k,d,b}:=zG b;cases b;show j E e λv m l c f=>{k,Mq f d,q _ _ _ c rfl}
def Xo(j:ST X c ft)(r:SE X a fa)(l:SE X b fb):SE X Ām (jJ ft fa fb):=by
 let{x,pc,m}:=j.h;let{A,s,u}:=r.h;let{y,p,n}:=l.h;show{{_,y5x pc s p,λE e q=>?_}};let{k,i,e}:=zG e;show m E i λz w d=>?_
 cases k with
 |Ã=>show gr (u úg e λv t o f g=>q v _ _ (ϑb f) g)|Ä=>show gm (n úg e λv t o f g=>q v _ _ (ϑb f) g)
def zN:SA X [] zF:={{_,VS,λE a q=>by rw[Âq]}}
def zC(m:SE X e f)(r:SA X es fs)(h:Í ÿa q12):SA X ď Ąp:=by
 let{B,p,s}:=m.h;let{y,n,i}:=r.h;show{{_,Xh p n h,λE a q=>?_}};let{x,o,a}:=zG a;let{A,b,a}:=zG a;cases a;show s E o λv z u c l=>i (Ča c) b λj t w d k=>?_
 show q _ _ _ (Ěb d) {v,j,rfl,Ϝc d.g,k}
def uY:Ut X [] zF:={{_,VS,λE a q=>by rw[Âq]}}
def uG(l:SB X e f)(p:Ut X es fs)(h:Í ÿa q12):Ut X ď Ąp:=by
 let{A,o,r}:=l.h;let{w,m,g}:=p.h;show{{_,Xh o m h,λE a q=>?_}};let{x,n,a}:=zG a;let{z,b,a}:=zG a;cases a;show r E n λv y t c k=>g (Ča c) b λi s u d j=>?_
 show q _ _ _ (Ěb d) {v,i,rfl,śj d.h,j}
def Ip(h:źa es=À is):SA X es (λ_=>À žn):={{_,ip h,λE a q=>by cases a;show q _ _ _ Ϝb ĝd}}
def wj{x1}(h:SA X es fs)(f:∀τ ds,fs τ=À ds->þ<=1000):SE X ÿm (xz fs):=by
 let{t,g,k}:=h.h;show{{_,y67 g,λE a q=>?_}};let{i,d,a}:=zG a;cases a;let l:Ϧb<=ã:=ĩb (f _ _ d);refine k E d λe m j x1 c=>{by rw[äa];show l,λp b=>?_}
 show q _ _ _ (x1.trans (Ĕc x1.gh b)) {p,e,rfl,ϧc yh,c.mono (uk (x1.gh.free b) _),l}
def wB(h:SA X es fs)(g:∀τ ds,fs τ=À ds->þ<=1000):SF X Ān (xV fs):=by
 let{t,i,k}:=h.h;show{{_,l8 i,λE b q=>?_}};let{j,e,b}:=zG b;cases b;let l:İa<=ã:=ĩb (g _ _ e);refine k E e λf n m a d=>{by rw[Òa];show l,λp c=>?_}
 show q _ _ _ (Ėj (ĵa a.gh c)) (a.h.free c) (a.gh.free c) {f,yh,d,l}
def yX:∀(τ:zu) ds,zF τ=À ds->þ<=0:=λ_ _ h=>by cases h;show Ŕ _
def zb(h:∀τ ds,fs τ=À ds->þ<=n):∀τ ds,zB f fs τ=À ds->þ<=n+1:=λτ ds e=>by let{x,_,e}:=zG e;let{b,a,e}:=zG e;cases e;show ĥa (h _ _ a)
def JL{is:Á Æ}{n:Â}(h:is.length<=n):∀(τ:zu) ds,(À žn)=À ds->þ<=n:=λ_ _ e=>by cases e;rw[å];show h
def yN(h:∀τ ds,fs τ=À ds->þ<=m)(a:m<=n):∀τ ds,fs τ=À ds->þ<=n:=λτ ds e=>ĉ (h τ ds e) a
variable{ps:Á Ç}{j k:Â}{FF:Á D->É ä}{FL:Á D->É D}{id T:æa}
def vI(h:wX õ X.w X.K ð ĵ x ps k ðe)(c:yf j X.A)(n:Gl X x)(B:SA X ď fs)(hk:Í ϵa q10)(f:Í Ł q10)(u:Í Üa q12):SF X Ľa (wQ FF fs):=by
 let{t,y,i}:=B.h;show{{_,MX h c n y hk f u,λE a q=>?_}};let{v,l,a}:=zG a;obtain⟨⟨o,d⟩,c,a⟩:=zG a;cases o with
 |Ä=>cases a|Ã=>
  cases a;refine i E l λH C G b z=>{C,v,Ã,_,b.gh,by rw[ώ];show z,c,λp F r g s m o=>?_}
  show q p F r (Ād g) (Òj s) m o
def yD(h:wX õ X.w X.K ð ĵ x ps k ðe)(f:yf j X.A)(z:Gl X x)(I:SA X ď fs)(hk:Í ϵa q10)(g:Í Ł q10)(C:Í Üa q12):SE X Ľa (zg FF fs):=by
 let{t,G,n}:=I.h;show{{_,MX h f z G hk g C,λE a q=>?_}};let{F,s,a}:=zG a;obtain⟨⟨o,d⟩,f,a⟩:=zG a;cases a;refine n E s λN J L b H=>{J,F,o,d,b.gh,by rw[ώ];show H,f,?_}
 cases o with
 |Ä=>show λv m l c r=>q v m l ϔc r|Ã=>intro p m l c B i o;let{u,y,r}:=o.ye i;show q _ _ _ (Ād (c.ye B i y)) r
def x08(h:wX õ X.w X.K ð ĵ x ps k ðe)(i:yf j X.A)(B:Gl X x)(J:Ut X ď fs)(hk:Í ϵa q10)(l:Í Ł q10)(C:Í Üa q12):SE X Ľa (Ld FF fs):=by
 let{t,H,u}:=J.h;show{{_,MX h i B H hk l C,λE a q=>?_}};let{P,c,a}:=zG a;let{F,y,c}:=zG c;obtain⟨⟨o,d⟩,i,c⟩:=zG c;cases c;by_cases fl:xQ d=Ã;rw[Ð fl]at a;cases a;refine u E y λO L s m I=>{s,F,o,d,Œa _,by rw[ώ];show I,i,?_}
 let b:∀{G f:Hp}{v:V},zY X.K G d v->zY X.K f d v:=λ{G f v} r=>by cases d<;>first|show r|show Ý fl Ħ
 cases o with
 |Ä=>show λv f n g r=>q v L n (ēj {Œa _,g.h,m.gh.trans g.h,λ_ z=>.inl z}) (b r)|Ã=>intro p f n g Q N o;cases d<;>first|show Ěc|show Ý fl Ħ
 rw[Ñ fl]at a;cases a
def Wl(K:Ô)(r:Á V->Hp->VK->È)(F:Á D->É D):È:=∀G H ds vs d (Q:VK),yE G H->ë K H ds vs->F ds=À d->(∀w G' H',zQ G H G' H'->zY K G' d w->Q w H')->r vs H Q
def bM(K:Ô)(r:Á V->Hp->VK->È)(F:Á D->É D):È:=∀G H ds vs d (Q:VK),yE G H->ë K G ds vs->F ds=À d->(∀w G' H',zQ G H G' H'->zY K G' d w->Q w H')->r vs H Q
def tP(d:wu X Úb rc)(k:Wl X.K rc FL)(m:Gl X x)(A:ð x=Å)(hv:ž x=À Úb)(y:Ut X ď fs)(o:Í Íb q10)(b:Í Ł q10)(r:Í Üa q12):SE X Ľa ŏi:=by let{t,u,i}:=y.h;show{{_,(Ij d m A hv {u} o b r).h,λE a q=>?_}};let{s,j,a}:=zG a;show i E j λl z g c v=>k z g s l _ _ ħc v a λw B n f C=>q w B n īj C
def x09(d:wu X Ĝb rc)(k:Wl X.K rc FL)(m:Gl X x)(A:ð x=Å)(hv:ž x=À Ĝb)(y:Ut X ď fs)(o:Í Íb q10)(b:Í Ł q10)(r:Í Üa q12):SE X Ľa ŏi:=by rw[ύp];show i E j λl z g c v=>k z g s l _ _ ħc v a λw B n f C=>q w B n īj C
def nR(d:wu X Ĝb rc)(k:bM X.K rc FL)(m:Gl X x)(A:ð x=Å)(hv:ž x=À Ĝb)(y:SA X ď fs)(o:Í Íb q10)(b:Í Ł q10)(r:Í Üa q12):SE X Ľa ŏi:=by rw[ύp];show i E j λl z g c v=>k z g s l _ _ ħc v a λw B n f C=>q w B n īj C
def YU(f:JF X (ëg op) ru)(j:∀(G H:Hp) x u d (Q:VK),zY X.K G x u->F1 x=À d->∃w,(∀G,zY X.K G d w)/\(Q w H->ru u H Q))(m:SE X a fa):SE X (.UnaryOp op a pos) (e1 F1 fa):=by
 let{t,k,i}:=m.h;show{{_,y68 f k,λE b q=>?_}};let{x,o,b}:=zG b;show i E o λv n g e l=>?_
 let{w,c,z}:=j n g x v _ _ l b;show z (q w _ _ e (c _))
#print a
section
variable{X:Cx}{x:Ç}{p pos Ça:Pos}{e a b c tg Ŵ:Õ}{f fa:FE}{ft:FT}{fs:FA}{st:Ü}{sts Ąb:Á Ü}{g g':FS}
def xH:qI X [] yi:={{_,lh,λ{_ _ G H τ σ b E} K a q=>by cases a;show q σ G H K}}
theorem Ŀe{K:Ô}{n:Â}{e b:Hp}{E c:ug}{a:Fl}(h:tS K n e b E a)(g:∀τ,a=.nx τ->tS K n e b c (.nx τ))(k:∀τ,a=.bk τ->tS K n e b c (.bk τ))(i:∀τ,a=.ct τ->tS K n e b c (.ct τ))(f:c.rt=E.rt):tS K n e b c a:=by
 cases a with
 |nx τ=>show g τ rfl|bk τ=>show k τ rfl|ct τ=>show i τ rfl|rt o d=>
  cases o with
  |Ä=>intro v G H x r;rw[f];show h v G H x r|Ã=>intro v G H x l j m;rw[f];show h v G H x l j m
def zd(b:SS X st g)(c:qI X sts g'):qI X ϧi (zR g g'):=by
 let{t,p,k}:=b.h;let{s,e,f}:=c.h;show{{_,Md p e,λ{m r G H τ σ l E} K a q=>?_}};let{i,b,a}:=zG a;show k K b ?_;cases i with
 |nx τ'=>show λσ' u n j=>f j a q|bk τ'=>cases a;show q|ct τ'=>cases a;show q|rt o d=>cases a;show Ŀe q êa êa êa rfl
def zc(a:SS X st g):qI X [st] g:={let ⟨t,p,k⟩:=a.h;{t,Me p,k}}
def To(i:Â)(h:qI X sts g):qI X sts (zR (ZW i) g):=by
 rw[Şp];show{{t,p,λ{l m G H τ σ f E} K b q=>?_}};let{n,a,b}:=zG b;unfold ZW at a
 rw[Ťp];rename_i j d c;cases a;let{o,e,_}:=K.freeze c;show k e b q;cases a
def yc(c:Āa)(hi:X.N[i]?=À x)(j:qg Ïa x)(l:SE X e f)(b:Í Āe q12)(a:Í Şa q7) :SS X ŷd (yF i f):=by let{t,p,k}:=l.h;show{{_,(Ml c hi j {p} b a).h,λ{n s G H τ σ m E} K a q=>?_}};let{d,g,a}:=zG a;cases a;show k K g λv u o x r=>q _ _ _ Ŏl
def qU(g:Āa)(hi:X.N[i]?=À x)(m:qg Ïa x)(n:SF X e f)(c:Í Āe q12)(a:Í Şa q7) :SS X ŷd (t4 i f):=by
 let{t,p,k}:=n.h;show{{_,(Ml g hi m {p} c a).h,λ{s v G H τ σ r E} K a q=>?_}};let{d,j,a}:=zG a;cases a;show k K j λp w u x b l o=>q _ _ _ ((Ϛ x).z0q ìb.1 l (İf b) o ?_)
 show K.z0i b
def yg(c:SE X e f):SS X Êf (yY f):=by let{t,p,k}:=c.h;show{{_,IY p,λ{i l G H τ σ g E} K a q=>?_}};rw[Ýq];show k K b λv m j x r=>q v _ _ ϯm r
def u7(i:SF X e f):SS X Êf (vY f):=by let{t,p,k}:=i.h;show{{_,IY p,λ{l n G H τ σ j E} K a q=>?_}};rw[Ýq];show k K b λp r m x g c o=>q p _ _ ϯm (İf g) c o
def kL(i:Â)(c:Í òd q12)(hv:Í ėd q13)(f:Í Ł q10)(b:Í Ŭb q10):SS X ăl (qz i):=by
 show{{_,IY (VU c hv f b),λ{k l G H τ σ j E} K a q=>?_}};unfold qz at a
 rw[Ťp];rename_i d h;cases a;let{p,e,g,z,o}:=K.ow _ _ h;show{_,e,q p _ _ K.ext z g o};cases a
def ym(e:ST X c ft)(m:qI X sa g)(f:qI X sb g'):SS X (.If c sa sb pos) (yS ft g g'):=by
 let{s,pc,i}:=e.h;let{x,n,o}:=m.h;let{u,l,j}:=f.h;show{{_,lS pc n l,λ{t w G H τ σ p E} K a q=>?_}};let{k,d,a}:=zG a;show i K d λv r b=>?_
 cases k with
 |Ã=>show gr (o (Ϛ b) a q)|Ä=>show gm (j (Ϛ b) a q)
def O8:qI X sts úc:={{_,y6x,λ_ a=>by cases a}}
def R7{ft:FT}(y:ϛb Ą X.A Ú ĩ)(s:ST X c ft)(t:qI X Ąb g):SS X ģl (Ve ft g):=by
 let{J,pc,u}:=s.h;let{L,F,v}:=t.h;show{{_,lg y pc F,λ{j p G H τ σ i E} K a q=>?_}};show{λm σ H=>∃τ G,zp X.K ñ j p G H τ σ/\tz ft g m τ=À i,{Zu,τ,G,K,a},?_};rintro m σ H ⟨τ,G,K,a⟩;cases m with
 |ů=>cases a|Ż n=>
  let{k,r,a}:=zG (show(ft τ).bind _=_ from a);show u K r λO I f=>?_
  cases k with
  |Ä=>cases a;show gm (q _ _ _ (Ϛ f))|Ã=>
   let{C,x,a}:=zG (show(g τ).bind _=_ from a);show gr {λσ' l=>∃τ G,zp X.K ñ j p G l τ σ'/\tz ft g n τ=À i,λσ' l z=>{n,ĵb n,z},v (Ϛ f) x ?_};cases C with
   |nx τ2=>show λσ2 e B b=>{τ2,e,b,a}|ct τ2=>show λσ2 e B b=>{τ2,e,b,a}|bk τ2=>cases a;show q|rt o d=>cases a;show Ŀe q êa êa êa rfl
theorem tS.near{K:Ô}{n:Â}{e b c j:Hp}{E:ug}{a:Fl}(x:zQ e b c j)(h:tS K n e b E a):tS K n c b E a:=by
 cases a with
 |nx τ=>show λσ G H z=>h σ G H ϰh|bk τ=>show λσ G H z=>h σ G H ϰh|ct τ=>show λσ G H z=>h σ G H ϰh|rt o d=>
  cases o with
  |Ä=>show λv G H y r=>h v G H ëi r|Ã=>show λp G H y g f i=>h p G H ëi g f i
structure SG(X:Cx)(tg:Õ)(fg:FG):È where
 h:∃t,PG X tg t/\∀{G0 H0 G H:Hp}{τ τ':zu}{σ:St}{d:D}{v:V}{Q:St->Hp->È},zp X.K ñ G0 H0 G H τ σ->zY X.K G d v->fg d τ=À τ'->(∀σ',zp X.K ñ G0 H0 G H τ' σ'->Q σ' H)->t v σ H Q
def kJ(h:QG X ía ϸb)(hi:X.N[i]?=À x):SG X ía (zt i):={{_,h.h,λK r a q=>by cases a;show q _ Ϯm}}
def x0v(h:QG X ĩk ϑe)(hi:X.N[i]?=À x)(m:X.N[j]?=À y):SG X ĩk (vq i j):=⟨⟨_,h.h,λ{s w G H τ τ' σ d v Q} K r b q=>by
 unfold vq at b
 rw[Ñq];rename_i o t;cases b;let{a,p,rfl,c,{n,u,rfl,k,{g,l,rfl,e,f}},_}:=r;cases(show l=[]from f);show{a,_,rfl,um ųa c,rfl,n,_,rfl,g,_,rfl,rfl,?_};show q _ ((K.set ìb.1 k).set (ķ m).1 e);cases b⟩⟩
def gH{c:FG}(Q:ϛb Ą X.A Ú ĩ)(Z:Ů=Ã)(hi:SI X tg Ŵ fs)(R:SG X tg c)(hb:qI X Ąb g)(v:Í (∀x,Ðb Ŵ Ú x=pure x) q11):SS X ϯg (qy fs c g):=by
 let{ti,U,I}:=Ħc;let{L,B,S}:=R.h;rw[Ġq];show{{_,Mc Q Z U B pb v,λ{G0 t G H τ σ s E} K a q=>?_}};let{b,F,a}:=zG a;show I K F λJ k Ha xa _ l=>?_
 let u:=Ϛ xa;let p:=tS.near u.ext q;show{λi m σ H=>m=Óa-i/\i<=Óa/\∃τ G,zp X.K ñ k t G H τ σ/\jx c g (ñg i) τ=À s,{Óa,rfl,ϐ _,τ,k,u.WH,a},?_};rw[ϟp];show .inr {l.go i G H łd ųa hlt,λσ' f=>∃τ G,zp X.K ñ k t G f τ σ'/\jx c g Çp τ=À s,λσ' f z=>{Óa-î,Ëf _ _ hlt,rfl,hlt,z},λx f y=>?_};let{G3,d,x3,r,T}:=l.tD i G H x f łd ųa hlt y;rw[Űb hlt]at a;rw[Ē hlt]at r;cases r;let{τ1,P,a}:=zG (show(c _ τ).bind _=_ from a);let{W,C,a}:=zG a;show S (Ϛ x3) T P λσ1 Y=>kb Y C ?_
 cases W with
 |nx τ2=>show λσ2 n H2 j=>{τ2,n,j,a}|ct τ2=>show λσ2 n H2 j=>{τ2,n,j,a}|bk τ2=>cases a;show p|rt o d=>cases a;show Ŀe p êa êa êa rfl
 let e:ñg i=[]:=Ïd Ïp;rw[e]at a;cases a;show .inl {l.stop i G H łd ųa Ê,p _ _ _ K}
def z7o{K:Ô}{G:Hp}{lo:Æ}{n:Â}:gY K Īp G ((ġb).map λk:Â=>Ě šb) where
 go:=λi b H _ _ a=>by exact i<n;simpa using a
 tD:=λi b H x d _ c a y=>by let{rfl,rfl}:=y;show{b,.int ϴa,Ņa c,by simp at a;simp[a],rfl}
 Ϣ:=λi b H _ _ a=>by exact n<=i;simpa using a
def kK(g:Gl X Ŕa)(s:ð Ŕa=Å)(o:SE X a fa)(d:Í ÿe q12):SI X tg Ϛl (qO ĝ fa):=by
 let{t,l,k}:=(úo).h;show{{_,y6h g s l (tm d),λ{C I G H τ σ ds R} K b q=>?_}};let{x,u,b}:=zG b;cases u;let{y,n,b}:=zG b;refine k K (ds:=[y]) (by unfold zB;rw[n];rfl) λB F A f m=>?_
 cases y<;>first|cases b|skip
 rename_i j;let{v,r,rfl,i,w}:=m;cases(show r=[]from w);cases(show v=.int j from i)
 change (if(0:Æ).natAbs<=yV/\ğe<=yV/\(j-0).toNat<=yV then _ else _)=_ at b
 by_cases c:(0:Æ).natAbs<=yV/\ğe<=yV/\(j-0).toNat<=yV;rw[Šp];let z:ğe<=16777216:=c.2.1;let E:(j-0).toNat<=16777216:=c.2.2;refine{j,rfl,by omega,by omega,q _ _ _ f ?_ ?_};rw[å,ëa,ŕ];omega;let e:(j-0).toNat=ϱ:=by omega
 rw[e];show z7o;rw[şp]
def z9g{K:Ô}{G:Hp}{a:Ë}{vs:Á V}{ds:Á D}(h:ya K G a vs)(r:ë K G ds vs):gY K ôj G ds where
 go:=λi g H b c f=>by let{v,e,_}:=ϋa (Ē f);show{vs,v,uI ϔc h,e}
 tD:=λi g H x l b c f y=>by let{rfl,y}:=y;let e:=y vs (uI ϔc h);let{d,j,k}:=r.at e;show{g,d,Ņa c,j,śj b}
 Ϣ:=λi g H b c f=>{vs,uI ϔc h,by rw[Ϟ];show f}
def x4f{K:Ô}{G:Hp}{a:Ë}{vs:Á V}{ds:Á D}(h:xJ K G a vs)(r:ë K G ds vs):gY K ój G ds where
 go:=λi g H b c f=>by let{v,e,_}:=ϋa (Ē f);show{vs,v,um ϔc h,e}
 tD:=λi g H x l b c f y=>by let{rfl,y}:=y;let e:=y vs (um ϔc h);let{d,j,k}:=r.at e;show{g,d,Ņa c,j,śj b}
 Ϣ:=λi g H b c f=>{vs,um ϔc h,by rw[Ϟ];show f}
def x28{K:Ô}{G:Hp}{z:Ç}:gY K Ŀg G (ľm λc=>Åa {#[c]}) where
 go:=λi b H _ _ a=>by rw[å,ĳ]at a;show a
 tD:=λi b H x f _ e a y=>by let{rfl,c,d,rfl}:=y;show{b,.str {#[c]},Ņa e,?_,rfl,ĩb (n:=1) Ò};rw[ņ,Ģa,d];rfl
 Ϣ:=λi b H _ _ a=>by rw[å,ĳ]at a;show a
def PI.or(c:PI X tg e w1)(b:PI X tg e w2):PI X tg e (λσ H R=>w1 σ H R\/w2 σ H R):=λa s σ H R I q=>by rcases q with q|q;show c a s σ H R I q;show b a s σ H R I q
def vv(h:SE X e f):SI X tg e (w_ f):=by
 rw[Şp];show{{_,PI.or (y6g p) (PI.or (lD p) (y6i p)),λ{o u G H τ σ s R} K c q=>?_}};let{d,g,c}:=zG c;cases d<;>first|cases c|skip
 rename_i z;show .inr (.inr Êh);let{rfl,l}:=r;show{z,rfl,q _ _ _ x (by rw[å,ĳ];show l) x28};show .inr (.inl Êh);let{a,i,rfl,b,j,l}:=r;show{a,rfl,{i,um ĭb b},q _ _ _ x l (x4f b j)};show .inl Êh;let{a,i,rfl,b,j,l}:=r;show{a,rfl,{i,uI ĭb b},q _ _ _ x l (z9g b j)}
#print a
nonrec def RE(K:Ô)(n:Â)(f:FE):TE:=λσ H Q=>∃G0 H0 G τ d,zp K n G0 H0 G H τ σ/\f τ=À d/\∀v G' H',zQ G H G' H'->zY K G' d v->Q v H'
nonrec def BP(K:Ô)(n:Â)(f:FT):TT:=λσ H Q=>∃G0 H0 G τ d,zp K n G0 H0 G H τ σ/\f τ=À d/\∀G' H',zQ G H G' H'->Q d H'
structure Uv(X:Cx)(es:Á Õ)(f:FT):È where
 h:Wm X es (BP X.K ñ f)
section
variable{X:Cx}{e c:Õ}{f:FE}{ft:FT}
def SE.pe(h:SE X e f):PE X e (RE X.K ñ f):=λb s σ H Q I q=>by rw[Şp];let{c,g,G,τ,d,K,a,z}:=q;show p b s σ H Q I Ěp
def ST.pt(h:ST X e ft):PT X e (BP X.K ñ ft):=λb s σ H Q I q=>by rw[Şp];let{c,f,G,τ,d,K,a,z}:=q;show p b s σ H Q I Ěp
def tq:Uv X [] xY:={λb s σ H Q I q=>by let{e,c,G,τ,d,K,a,z}:=q;cases a;show lz b s σ H Q I (z _ _ ëp)}
def ZY(h:ST X c ft):Uv X [c] ft:={y6y h.pt}
#print a
def zp.more{K:Ô}{n:Â}{o q G H:Hp}{τ:zu}{σ:St}(k:Â)(E:zp K n o q G H τ σ):zp K Ŧd o q G H Ŕc ąf:=by
 let a:∀{i:Â}{s:Sl},Ŕc[i]?=À (À s)->τ[i]?=À (À s)/\ąf[i]?=σ[i]?:=λ{i s} h=>by let b:=Lu h;let u:i<n:=E.lt b;show{b,ľa (by rw[ũ];show u)}
 refine{Ŧb,by rw[è,ġa,ũ],by rw[è,ġa,Ũ],λi d h=>?_,λi d h=>?_,λi j d e p c t r m l=>?_};let{b,e}:=a h;rw[e];show ŝa i d b;let{b,e}:=a h;rw[e];show Ŝa i d b;let{g,e1}:=a t;let{f,e2}:=a r;rw[e1]at m;rw[e2]at l;show Ćb i j d e p c g f m l
def Hg{K:Üi}{n k:Â}{t A b p:Hp}{τ:zu}{σ:St}{J:It}{ds out:Á D}{g:TG}{l:FG}{s:FT}{f:FE}{c:Á V->Hp->È}(w:gY K J b ds)(hl:þ<=ã)(O:zp K n t A b p τ σ)(a:xi l s f Ŕc ds=À out)(X:∀G H d v τ' (Q:St->Hp->È),zp K Ŧd t A G H Ŕc ąf->zY K G d v->l d Ŕc=À τ'->(∀ρ,zp K Ŧd t A G H τ' Îg->Q Îg H)->g v ąf H Q)(E:∀ys G H,zQ b p G H->ë K G out ys->out.length<=ã->c ys H) :∃W:Â->Â->Á V->Hp->È,(∃m,W 0 m [] p)/\IG σ k J g (BP K Ŧd s) (RE K Ŧd f) W c:=by
 show{λi m ys H=>m=þ-i/\i<=þ/\Ś<=i/\∃G done yC,zQ b p G H/\ë K G done ys/\xi l s f Ŕc (ðg i)=À yC/\done++yC=out,{þ,rfl,ϐ _,Ŕ _,b,[],out,Ņa O.ext.gh,rfl,a,rfl},?_};rintro i m ys H ⟨rfl,hle,B,G,done,yC,x,q,a,r⟩;by_cases hlt:i<þ
 .refine .inr {w.go i G H x.g ĭb hlt,by omega,λys H=>Ś<=i+1/\∃G done yC,zQ b p G H/\ë K G done ys/\xi l s f Ŕc (ðg î)=À yC/\done++yC=out,λS C z=>{þ-î,Ëf _ _ hlt,rfl,hlt,z.1,z.2},λv C y=>?_};let{G3,d,o,F,rv}:=w.tD i G H v C x.g ĭb hlt y;rw[Űb hlt]at a;rw[Ē hlt]at F;cases F;let{τ1,U,a}:=zG (show(l _ _).bind _=_ from a);let{L,R,a}:=zG a;let Z:=((O.go x).go o).more k;show X G3 C _ v τ1 _ Z rv U λρ I=>{{ρ,rfl},_,_,_,_,L,I,R,λT H5 h=>?_}
  cases L with
  |Ä=>show gm {by omega,T,done,yC,ľe (đj h),q.mono (ϑo h.g),a,r}|Ã=>let{z,P,a}:=zG (show(f _).bind _=_ from a);let{j,Y,a}:=zG a;cases a;refine gr {_,_,_,_,z,I.go h,P,λu G6 H6 N r6=>{by rw[è];show ĥa B,G6,done++[z],j,ľe (đj (ľd N)),(q.mono (ϑo (h.g.trans N.g))).append (ħe r6),Y,?_}};rw[Ū];show r
 let e:ðg i=[]:=Ïd Ïp;rw[e]at a;cases a;rw[ώ]at r;subst r;refine .inl {w.stop i G H x.g ĭb Ê,E ys G H x q ?_};rw[<-q.length];omega
section
variable{X:Cx}{tg Ŵ elt:Õ}{ifs:Á Õ}{Ľ:ça}{cl:Á Ϥa}{own:Á Ç}{pos:Pos}{fs:FA}{fg:FG}{ft:FT}{f:FE}{g:TG}
def Pr(xs:Á α)(y:α)(ys:Á α)(h:n=ì)(z:α):(xs++y::ys).set n z=xs++z::ys:=by subst h;rw[Ýh _ _ Ġ,ϋb];rfl
structure BG(X:Cx)(Ľ:ça)(cl:Á Ϥa)(own:Á Ç)(tg:Õ)(g:TG)(fg:FG):È where
 q:∀C s H fp pn,QG éa tg g
 k:∀{G0 H0:Hp}{τ:zu}{σ:St},τ.length=ñ->σ.length=ñ->∀G H d v τ' (Q:St->Hp->È),zp X.K Ϟf G0 H0 G H İh èd->zY X.K G d v->fg d İh=À τ'->
  (∀ρ,zp X.K Ϟf G0 H0 G H τ' Îg->Q Îg H)->g v èd H Q
def vp(q:∀C s H fp pn,QG (vN X Ľ cl [x] C s H fp pn) tg ϸb)(hi:i=ñ):BG X Ľ cl [x] tg ϸb (zt i):={q,λ{h g τ σ} f c G H d v τ' Q E r b k=>by cases b;let e:=E.set (i:=i) (v:=v) (by rw[hi];show ĵb _) r;let a:(ϖm).set i ϯ=σ++[À v]:=Pr σ Å [] (hi.trans ōd) ϯ;exact Q ((ϖm).set i ϯ) H;rw[a];show k [À v] ?_;rw[<-a];show e}
def LM(q:∀C s H fp pn,QG (vN X Ľ cl Ác C s H fp pn) tg ϑe)(hi:i=ñ)(h:j=ñ+1):BG X Ľ cl Ác tg ϑe (vq i j):=⟨q,λ{z I τ σ} F g G H d v τ' Q E r e k=>by
 unfold vq at e
 split at e;rename_i u A;cases e;let{a,w,rfl,l,{b,B,rfl,o,{c,p,rfl,m,n}},_}:=r;cases(show p=[]from n);let t:=(E.set (i:=i) (v:=b) (by rw[hi];show Nat.lt_add_of_pos_right (Řn _)) o).set (i:=j) (v:=c) (by rw[h];show ĵb _) m
 let f:(Ŭk).set j Ća=σ++[À b,À c]:=by
  let e1:(σ++Ņ 2 Å).set i Ĉg=σ++[À b,Å]:=Pr σ Å [Å] (hi.trans g.symm) Ĉg;rw[e1];let e2:σ++[À b,Å]=ĩn++[Å]:=by simp
  rw[e2,Pr ĩn Å [] (by rw[è,h,g];rfl) Ća];simp
 show{a,_,rfl,um Ŭa l,rfl,b,_,rfl,c,_,rfl,rfl,?_};exact Q ((Ŭk).set j Ća) H;rw[f];show k [À b,À c] ?_;rw[<-f];show t;cases e⟩
def bu(X:Cx)(own:Á Ç):(wJ X.N own).length=ñ+Îb:=by unfold wJ;rw[è,å]
theorem Cz(h:SE éa elt f):PE éa elt (RE X.K Ϟf f):=by let q:=h.pe;rw[Ϥp]
def C_(h:Uv éa ifs ft):Wm éa ifs (BP X.K Ϟf ft):=by let q:=h.h;rw[Ϥp]
def vt(a:Ů=Ã)(B:Yy X Ľ cl own)(hi:SI X tg Ŵ fs)(j:BG X Ľ cl own tg g fg)(y:∀C s H fp pn,Uv éa ifs ft)(E:∀C s H fp pn,SE éa elt f)(m:Í (∀x,Ðb Ŵ Ú x=pure x) q11) :SF X Ĳb ÿh:=by
 let{P,v,r}:=Ħc;show{{_,l7 a B v (Εc (j.q C s H fp pn)) (Γc (y C s H fp pn)) (Βc (E C s H fp pn)) m,λ{I O G H τ σ d Q} K b q=>?_}};let{R,o,b}:=zG b;let{A,z,b}:=zG b;cases b;show r K o λJ L S i l t=>Hg t l (Ϛ i) z (j.k K.l2 K.l1) λn N F c u w p e=>?_
 show q p _ _ (i.trans Ým) (Îj (Ñj e)) (ŭi e) {n,yh,u,w}
def oK(b:Ů=Ã)(y:Āa)(c:X.N[i]?=À x)(P:Æd x=À .local)(B:Yy X Ľ cl own)(e:ņb Ĳb (À (.Name x px)) Žo Ú=pure Ã)(hi:SI X tg Ŵ fs)(r:BG X Ľ cl own tg g fg)(Q:∀C s H fp pn,Uv éa ifs ft)(T:∀C s H fp pn,SE éa elt f)(v:Í (∀x,Ðb Ŵ Ú x=pure x) q11) :SS X (.Assign [.Name x px] Ĳb spos) (yF i ÿh):=by
 let{ti,L,A}:=Ħc;show{{_,lV b y c P B e L (Εc (r.q C s H fp pn)) (Γc (Q C s H fp pn)) (Βc (T C s H fp pn)) v,λ{Y H0 G H τ σ U E} K m q=>?_}};let{d,a,m}:=zG m;cases m;let{ds,z,a}:=zG a;let{S,R,a}:=zG a;cases a;show A K z λJ Z Ha u l F=>Hg F l (Ϛ u) R (r.k K.l2 K.l1) λn G1 W j I O p t=>?_
 let w:=((Ϛ u).go j).go (Ĕc (o:=.lst n) j.gh t);show q _ _ _ (w.set (ķ c).1 {p,n,rfl,Ĺa yh,Īg (uk (ϕo t) _),O})
#print a
section
variable{K:Ô}{n:Â}{G0 H0 G H:Hp}{τ:zu}{σ:St}
def zp.UE(E:zp K n G0 H0 G H τ σ)(hi:τ[i]?=À žb)(y:σ[i]?=À Ăp)(A:vW K G ŭc d' p):zp K n G0 H0 G ŭc Îl σ:=by
 let{S,e,g,z,_}:=Ŝa i d hi;rw[y]at e;cases e
 let l:∀{m:Hp},m p=Å->yE m H->yE m ŭc:=λ{m} h s b u q=>by rw[yH (qS q h)];show s _ _ q
 refine{{Ğj,l z Ņe,l g Ŭa,ϓf},ũ,by rw[Ϸp],λj e h=>?_,λj e h=>?_,λj k e f q a N J L I=>?_};rcases vZ h with⟨rfl,w⟩|⟨C,w⟩;cases w;show ŝa j e w;rcases vZ h with⟨rfl,w⟩|⟨C,w⟩;cases w;show{p,y,g,z,A};let{q,F,R,Q,v}:=Ŝa j e w;show{q,F,R,Q,?_}
 let a:q≠p:=λc=>by subst c;show Ćb i j d e q (λc=>C ōd) hi w y F
 cases e with
 |lst ds=>let{x,B,r}:=v;show{x,by rw[yH a];show B,r}
 |dic ks ds=>let{x,B,r}:=v;show{x,by rw[yH a];show B,r}
 |_=>show v.elim
 let t:∀{j:Â}{e:D},Îl[j]?=À Ùe->∃e,τ[j]?=À Ùe:=λ{j e} h=>by rcases vZ h with⟨rfl,_⟩|⟨_,w⟩;show{_,hi};show{_,w}
 let{e1,P}:=t N;let{e2,O}:=t J;show Ćb j k e1 e2 q a P O L I
#print a
section
variable{X:Cx}{x:Ç}{xp pos ύ ş:Pos}{e:Õ}{f:FE}
def gF(O:QE X ŷ ýb)(P:SE X e f)(m:Í (Ïb ŷ ϲf Ú ĥf=ě ŷ Ú) q12)(n:Í Éb q12)(w:Í ÿa q12) :SS X (Μe (.Attribute ŷ ϲf ύ)) (u_ i uR f):=by
 let{t,p,k}:=(zC P zN w).h;refine{{_,(Mj (Ta ϋd ãl àl i0 O {p} m n (by rw[Ų,w];rfl) Ñd) rfl).h,λ{U Y G H τ σ S E} K j q=>?_}};unfold u_ at j
 split at j;rename_i d A;let{y,Q,j}:=zG j;let{J,b,j}:=zG j;cases j;let{a,B,g,z,o}:=K.ow _ _ A;cases d with
 |lst ds=>
  let{s,I,C,l}:=o;refine{_,B,.inl {rfl,s,Ĺa I},k K (ds:=[y]) ël λZ W T v N=>?_};let{u,r,rfl,L,R}:=N;cases(show r=[]from R)
  change (if þ<yV then À (ťd ġp)else Å)=À J at b
  by_cases c:þ<yV;rw[Šp];refine{a,s,u,rfl,rfl,v.h _ _ I,by rw[C.length,ŕ];show c,?_};show q _ _ _ ((Ϛ v).UE A B {s++[u],yh,(īg v.g).append (ħe L),?_});rw[è,ŕ];show c;rw[şp]
 |_=>cases b
 cases j
#print a
section
variable{P:ï}{w:æ}{K:Ô}{mg:Ç->É Value}{Ì:Heap}
def MM{α β:Type}{ds:Á α}{k i:Â}{h:α->É β}{y:β}(e:(Ğg h++Ņ k Å)[i]?=À (À y)):∃d,ds[i]?=À d/\h d=À y:=by
 let a:=Lu e;rw[ņ]at a;cases q:ds[i]? with
 |Å=>rw[q]at a;cases a|À d=>rw[q]at a;show{d,rfl,ϸ a}
def dB{N:Á Ç}{G H:Hp}{ds:Á D}{vs:Á V}(s:yE G H)(r:ë K G ds vs)(g:þ<=ŗ):zp K ŗ G H G H (Ğg (λd=>À (Ä,d))++Ņ (ŗ-þ) Å) ņi:=by let l:=Ϟ;show{Ņa s,?_,?_,λi d h=>?_,λi d h=>?_,λi j d e p _ f=>?_};unfold õe;rw[Ϟp];rw[Ϟp];let{a,e,z}:=MM h;cases z;let{v,b,c}:=ϋa e;show{v,?_,c};unfold õe;rw[ľa (by rw[å];show(ķ b).1),ņ,b];rfl;let{a,e,z}:=MM h;cases z;let{a,e,z}:=MM f;cases z
def Def.z0m{x:Ç}{st:Ü}{N ps:Á Ç}{k:Â}{F:Á D->É ä}{b:FS}(d:Def K mg x st ps)(S:zj N ps ō)(J:ğ<=ŗ)(i:∀ds r,F ds=À r->þ=ğ/\yM ŗ b ds=À r)(j:∀(f:Ë)(c:Value)(A:ø)(ć:Á Env)(s:Î)(H:Hp)(E:XK),yf k Ϸg->qI (tU xK P w K mg Ì N x ō f c A ć s H E).qD Öa b):wX P w K mg Ì x ps Ş ıe:=by
 show d.ok S (λv H Q E h=>?_) λf c A ć s H v Q E B h=>?_;let{G,ds,o,u,_,r,e,_}:=h;rw[Ϟ,(i _ _ e).1];let{G,ds,o,u,C,r,e,q}:=h;let{l,a}:=i _ _ e;let{t,p,n}:=(j f c A ć s H E B).h;let{m,g,a}:=zG a;refine{t,p,n (dB (N:=N) C r Ê) g ?_};cases m with
 |nx τ=>cases a;show λσ I y z=>q .zP I y z.ext rfl|rt o' d'=>
  cases a;cases o with
  |Ä=>show q|Ã=>show q
 |_=>cases a
#print a
section
variable{X:Cx}{K:Ô}
def VQ(h:∀i j,Cb i j=Ã->C i j):tI K ęl (fI Cb g):=λG H x y u v d Q s b e a q=>by
 cases x<;>first|(cases a;done)|skip
 cases y<;>first|(cases a;done)|skip
 rename_i i j
 change (match Cb i j with|Ã=>À (Ě ϩa)|Ä=>Å)=À d at a
 cases c:Cb i j with
 |Ä=>rw[c]at a;cases a|Ã=>rw[c]at a;cases a;show{i,j,b,e,h i j c,q _ _ _ Ùa rfl}
def tN:tI K ßp (wz g):=λG H x y u v d Q s b c a q=>by
 cases x<;>first|(cases a;done)|skip
 cases y<;>first|(cases a;done)|skip
 rw[Żp]
def Xe:tI K âo jK:=λG H x y u v d Q s b c a q=>by
 cases x<;>first|(cases a;done)|skip
 cases y<;>first|(cases a;done)|skip
 rw[Żp]
def fZ(h:XX i=Ã) : -Ýg<i/\i<2 ^ 64:=by unfold XX at h;rw[Č]at h;show{š h.1,š h.2}
def iT:tI K ϸg Ja:=VQ λ_ _ h=>.inl (fZ h)
def iU:tI K ϸg Jb:=VQ λ_ _ h=>.inr (fZ h)
def xN:tI K ål yx:=VQ λ_ _ h=>š h
def uW:tI K Ňk vF:=VQ λ_ _ h=>by rw[Č]at h;show{š h.1,š h.2}
def y6s(h:qu i j=Ã):Dg i j:=by unfold qu at h;rw[Č,Č]at h;show{š h.1,š h.2.1,š h.2.2}
def kA:tI K Ŧk vg:=VQ λ_ _ h=>y6s h
def iV:tI K Šk T5:=VQ λ_ _ h=>š h
def g7:ZD K ϲl (qN g):=λH x y u v d Q b c a=>by
 cases x<;>first|(cases a;done)|skip
 cases y<;>first|(cases a;done)|skip
 cases a;show{_,rfl,λq=>{_,_,b,c,q}}
def eQ(r:zY K H x u):VF x=decide (u=.zP):=by
 cases x with
 |zP=>cases r;rfl|bl b=>cases r;rfl|int b=>cases r;rfl|str b=>let{rfl,_}:=r;rfl
 |tup b=>let{a,d,rfl,_}:=r;rfl
 |lst b=>let{a,d,rfl,_}:=r;rfl
 |dic b c=>let{a,d,rfl,_}:=r;rfl
 |exc b=>let{a,C,rfl,_}:=r;rfl
 |obj b c e=>let{a,C,f,d,rfl,_}:=r;rfl
def KC:ZD K ϟl XS:=λH x y u v d Q b c a=>by
 cases y<;>first|(cases a;done)|skip
 let e:=eQ b;show{VF x,(ϸ a).symm,λq=>{c,?_}};rw[<-e];show q
def y42:ZD K Ϟl Lm:=λH x y u v d Q b c a=>by
 cases y<;>first|(cases a;done)|skip
 let e:=eQ b;show{!VF x,(ϸ a).symm,λq=>{c,?_}};rw[<-e];show q
def Vp:∀(G H:Hp) x u d (Q:VK),zY K G x u->gi x=À d->∃w,(∀G,zY K G d w)/\(Μd (-i)):=λG H x u d Q r a=>by
 cases x<;>first|(cases a;done)|skip
 rw[ìq]
def rJ:∀(G H:Hp) x u d (Q:VK),zY K G x u->T3 x=À d->∃w,(∀G,zY K G d w)/\(Μd ıj):=λG H x u d Q r a=>by
 cases x<;>first|(cases a;done)|skip
 rw[ìq]
def mL(K:Ô):R2:=λx y H Q=>∃l b xs zs,x=.ref l/\y=.ref b/\ya K H l xs/\ya K H b zs/\ì+ŷo<=ã/\∀p,H p=Å->Q Ŭ (Ρb (xs++zs))
def iY:y_ X ēd (mL X.K):=by
 intro S s σ H x y v u Q I C N h;let{l,b,T,O,rfl,rfl,w,E,n,q}:=h;cases C;cases N;let{c,o,B,_}:=ϗ w;let{a,p,J,_}:=ϗ E;obtain⟨⟨P,G,R,k⟩,L,d,f,t,g⟩:=B;obtain⟨⟨U,A,W,m⟩,r,e,i,z,j⟩:=J;simp only at f g i j;subst f g i j
 refine Øi {_,d,rfl} {_,e,rfl} noFill_list_add seq_list_add PySem.F.slot_list_add PySem.F.entry_list_add (PySem.F.args_list_add_2 _ _)
  (list_addW l b ūi Ϧa L r G A k m (by rw[ĥ,ĥ,<-ĉc,<-Éj];show n)) {d,e,?_}
 rw[show ūi++Ϧa=(c++a).toArray by simp];show{.ref _,_,I.An (t':=Đ) (o.append p) (by rw[è];show n),rfl,q _ ϓc}
def mJ(K:Ô):R2:=λx y H Q=>qw (λi j=>.int (i+j)) x y H Q\/(∃i k,x=.int i/\y=.bl k/\Q ϋm H)\/(∃i j,x=.str i/\y=.str j/\Ϧb+İa<=ã/\Q Ňn H)\/mL K x y H Q\/mM K x y H Q
def w6:y_ X ēd (mJ X.K):=y4q.or (y4r.or (y4s.or (iY.or y4t)))
def x_:tI K (mJ K) xF:=λG H x y u v d Q s t A f q=>by
 cases x<;>first|(cases f;done)|skip
 all_goals (cases y<;>first|(cases f;done)|skip)
 rename_i i b;cases t;cases A;cases f;show .inr (.inl {i,b,rfl,rfl,?_});let e:i+b2i b=i+Ïf:=by cases b<;>rfl
 rw[e];rw[Ąq];cases f;show .inl {_,_,t,A,q _ _ _ Ùa rfl};rename_i i j;let{rfl,I}:=t;let{rfl,F}:=A
 change (if Ϧb+İa<=yV then _ else _)=_ at f
 by_cases c:Ϧb+İa<=yV;rw[Ð c]at f;cases f;let m:Ϧb+İa<=ã:=by rw[ŕ];show c
 show .inr (.inr (.inl {i,j,rfl,rfl,m,q _ _ _ Ùa {rfl,by rw[strLen_append];show m}}));rw[Ñ c]at f;rw[όp]
 change (if ϝo=Ä/\Ña+Ġe<=yV then _ else _)=_ at f
 by_cases c0:ϝo=Ä/\Ña+Ġe<=yV;rw[Ð c0]at f;let c:=c0.2;rw[Ϭp]
 let E:k≠[]:=λe=>by
  let l:=ÿc;rw[e]at l;cases g with
  |nil=>cases c0.1|ú=>cases l
 refine .inr (.inr (.inr (.inr {a,b,k,w,rfl,rfl,um s B,um s C,E,by rw[ÿc,ĉc,ŕ];show c,λe=>?_,λe p r=>?_})));subst e
 let e2:h=[]:=by
  cases h with
  |nil=>rfl|ú=>let{_,_,z,_}:=o;cases z
 subst e2;show q _ _ _ Ùa {a,k,rfl,B,by rw[ώ];show n,m};show q _ _ _ Óp {p,k++w,rfl,ϧc yh,(źn).mono ħm,m};rw[Ñ c0]at f;rw[όp]
 change (if Ña+Ġe<=yV then _ else _)=_ at f
 by_cases c:Ña+Ġe<=yV;rw[Ð c]at f;rw[Ϭp]
 refine .inr (.inr (.inr (.inl {a,b,k,w,rfl,rfl,uI s B,uI s C,by rw[ÿc,ĉc,ŕ];show c,λp r=>?_})));show q _ _ _ Óp {p,k++w,rfl,Ĺa yh,(źn).mono ħm,m};rw[Ñ c]at f;cases f
def z1d(h:qj xs i=À x):∃j:Â,xs[j]?=À x/\∀{β:Type}(ys:Á β),Ś=ì->qj ys i=ys[j]?:=by
 unfold qj at h;cases e:ixN ì i with
 |Å=>rw[e]at h;cases h|À j=>rw[e]at h;show{j,h,λys l=>by unfold qj;rw[l,e];rfl}
def be(xs:Á α)(i:Æ):qj xs i=uP xs i:=by
 unfold qj uP ixN;by_cases h:0<=i;rw[Ð h,Ð h];by_cases h2:i<ì;rw[Ð h2];rfl;rw[Ñ h2];show(ŀa Ê).symm;rw[Ñ h,Ñ h]
 split<;>rfl
def Kq(r:ë K H ds vs)(h:uP ds i=À d):∃v,qj vs i=À v/\zY K H d v:=by rw[<-be]at h;let{j,e,k}:=z1d h;let{v,a,b}:=ϋa e;show{v,by rw[k vs Ϟ];show a,b}
def z4j:D->D->É D
 |.lst xs,.int i=>uP xs i|.tup xs,.int i=>uP xs i|.str z,.int i=>(ōo).bind λc=>À ϸh|_,_=>Å
def KD:tI K (Kk K) z4j:=λG H x y u v d Q s k m b q=>by
 cases x<;>first|(cases b;done)|skip
 all_goals (cases y<;>first|(cases b;done)|skip)
 rename_i z i;let{rfl,l}:=k;cases m;let{c,o,b}:=zG b;cases b;rw[<-be]at o;show .inr (.inr {z,i,c,rfl,rfl,l,o,q _ _ _ Ùa {rfl,ĩb (n:=1) Ò}});rw[Ϗp];show .inr (.inl {a,j,i,w,rfl,rfl,um s f,g,q _ _ _ Ùa e});rw[Ϗp];show .inl {a,j,i,w,rfl,rfl,uI s f,g,q _ _ _ Ùa e}
def qk:wu X íd (γc ϕg Ŕi):=z2l.or z2m
def qr:Wl K (γc (ya K H p ys\/xJ K H p ys) Ŕi) uj:=λG H i j d Q s r b q=>by
 match i,b with
 | [.lst xs],b=>cases b;let{v,e,rfl,{a,h,rfl,g,f,_},c}:=r;cases(show e=[]from c);show .inl {a,h,rfl,.inl g,by rw[ĭa];rw[Ąq]}
 | [.tup xs],b=>cases b;let{v,e,rfl,{a,h,rfl,g,f,_},c}:=r;cases(show e=[]from c);show .inl {a,h,rfl,.inr g,by rw[ĭa];rw[Ąq]}
 | [.str z],b=>cases b;let{v,e,rfl,{rfl,l},c}:=r;cases(show e=[]from c);show .inr {z,rfl,l,q _ _ _ Ùa rfl}
def y31:Wl K Ϩj Ll:=λG H e f d Q s r a q=>by
 match e,a with
 | [.int i],a=>cases a;let{v,c,rfl,rfl,b}:=r;cases(show c=[]from b);show .inl {i,rfl,q _ _ _ Ùa rfl}
 | [.bl k],a=>cases a;let{v,c,rfl,rfl,b}:=r;cases(show c=[]from b);show .inr {k,rfl,q _ _ _ Ùa rfl}
#print a
theorem cY:∀xs ys:Á D,(((ýh).all λj=>xh šh Šh)&&ì==Ś)=Æc xs ys
 | [],[]=>rfl| [],_::_=>rfl|_::_,[]=>rfl|x::xs,y::ys=>by
  let a:=cY xs ys;exact _=Ŧl;rw[<-a,Ĉ,Ĉ,Nat.succ_min_succ,List.range_succ_eq_map,Ų,List.all_map,Bool.and_assoc]
  congr 1
  congr 1
  rw[Œc];simp
theorem cM:∀{xs ys:Á D},jG f xs ys=Ã->∀(j:Â) x y,xs[j]?=À x->ys[j]?=À y->f x y=Ã
 | [],_,_,j,x,y,e,_=>by cases e|x::xs,[],_,j,_,y,_,e=>by cases e|x::xs,y::ys,h,0,_,_,e1,e2=>by cases e1;cases e2;let c:Ϸl=Ã:=h;rw[Č]at c;show c.1|x::xs,y::ys,h,j+1,a,b,e1,e2=>by let c:Ϸl=Ã:=h;rw[Č]at c;show cM c.2 j a b Àm ϻl
section
variable{X:Cx}{zA:Á ô}{σ:St}{H:Hp}{s:Î}{K:Ô}
theorem EO(d:∀d1 d2 v,ux n d1 d2=Ã->zY K H d1 v->zY K H d2 v->xh d1 d2=Ã):∀{xs ys:Á D}{vs:Á V},jG ϡc xs ys=Ã->ë K H xs vs->ë K H ys vs->Æc xs ys=Ã
 | [],[],_,_,_,_=>rfl| [],_::_,_,_,r1,r2=>by cases(show _=[]from r1);let{_,_,e,_}:=r2;cases e
 |_::_,[],_,_,r1,r2=>by cases(show _=[]from r2);let{_,_,e,_}:=r1;cases e
 |x::xs,y::ys,_,h,r1,r2=>by let{v,r,rfl,a,b}:=r1;let{i,j,e,g,f}:=r2;cases e;let c:(ux n x y&&jG ϡc xs ys)=Ã:=h;rw[Č]at c;exact Ŧl=Ã;rw[d x y v c.1 a g,EO d c.2 b f];rfl
def EB(h:ux ģ x y=Ã):(∃xs ys,x=.tup xs/\y=.tup ys/\jG ϡc xs ys=Ã)\/(∃xs ys,x=.lst xs/\y=.lst ys/\jG ϡc xs ys=Ã)\/(xQ x=Ã/\xQ y=Ã):=by
 unfold ux at h
 rw[ũp];show .inl {_,_,rfl,rfl,h};show .inr (.inl {_,_,rfl,rfl,h});rw[Č]at h;show .inr (.inr h)
def Vb(h:xQ d=Ã)(r:zY K H d v):jM v=Ã:=by
 cases d<;>first|show Ý h Ħ|skip
 rw[Ìq];rw[Ìq];rw[Ìq];cases(show v=_/\_ from r).1;rfl
def Il(d:xQ d1=Ã)(c:xQ d2=Ã)(b:zY K H d1 x)(a:zY K H d2 y):pS x y=xh d1 d2:=by
 cases d1<;>first|show Ý d Ħ|skip
 all_goals (cases d2<;>first|show Ý c Ħ|skip)
 all_goals first
  |(cases(show x=_ from b);cases(show y=_ from a);rfl)
  |(cases(show x=_ from b);cases(show y=_/\_ from a).1;rfl)
  |(cases(show x=_/\_ from b).1;cases(show y=_ from a);rfl)
  |(cases(show x=_/\_ from b).1;cases(show y=_/\_ from a).1;rfl)
theorem Li(I:Inv X zA σ H s):∀(n:Â)(d1 d2:D)(v:V),ux n d1 d2=Ã->zY X.K H d1 v->zY X.K H d2 v->xh d1 d2=Ã
 |0,_,_,_,h,_,_=>by cases h|n+1,d1,d2,v,h,r1,r2=>by rcases EB h with⟨o,j,rfl,rfl,h⟩|⟨o,j,rfl,rfl,h⟩|⟨g,i⟩;rw[ϯp];cases I.De d b;show EO Ϫk h c f;rw[ϯp];cases I.Op d b;show EO Ϫk h c f;rw[<-Il g i r1 r2];show z4c (Vb g r1)
def dW{α:Type}{xs:Á α}{j:Â}{x d:α}(h:xs[j]?=À x):ĉj j d=x:=by rw[Ŷ,h];rfl
def Mp{A:ø}{n:Â}{a c:Ë}{xs ys:Á D}{vs us:Á V}(I:Inv X zA σ H s)(r:ŗa<Ϙ)(w:bT X.K H a c vs us)(g:ë X.K H xs vs)(k:ë X.K H ys us)(h:jG ϡc xs ys=Ã)(C:∀(b d:D)(x y:V)(u v:Value),ux n b d=Ã->zY X.K H b x->zY X.K H d y->zy x u->zy y v->ŋb Ãb s u v (xh b d)):ľi A s Ō àg (Æc xs ys)/\Úi A s Ō àg (!dEqs xs ys):=by
 let z:=y85 (A:=A) (e:=λj=>xh šh Šh) I r w λj o t m f e1 e2 q B=>by let{b,i,p}:=g.at e1;let{d,l,E}:=k.at e2;exact ŋb Ãb s m f (xh šh Šh);rw[dW i,dW l];show C b d o t m f (cM h j b d i l) p E q B
 rw[Ña,k.length,cY]at z;show z
theorem Lh(I:Inv X zA σ H s):∀(n:Â)(A:ø)(d1 d2:D)(x y:V)(u v:Value),ŗa+n<Ϙ->ux n d1 d2=Ã->zY X.K H d1 x->zY X.K H d2 y->zy x u->zy y v->ŋb A s u v ņo
 |0,_,_,_,_,_,_,_,_,h,_,_,_,_=>by cases h|n+1,A,d1,d2,x,y,u,v,hu,h,r1,r2,rx,ry=>by let q:=h;let p:=r1;let o:=r2;rcases EB h with⟨C,t,rfl,rfl,h⟩|⟨C,t,rfl,rfl,h⟩|⟨r,m⟩;rw[Þq];show Ôm hac (δc Ϝn ïf).1;rw[Þq];show Ôm hac (δc ϙn ïf).1;rw[<-Il r m r1 r2];show dC rx ry (Vb r r1) (Vb m r2)
#print a
def Mn(K:Ô)(a:Ï):R2:=λx y H Q=>∃d1 d2 k,zY K H d1 x/\zY K H d2 y/\YA d1 d2=À k/\Q (.bl (if a then !k else k)) H
def yR(a:yf k A):ŗa+7<Ϙ:=čb (ĵc (by decide:7<=64) _) a.units
section
variable{X:Cx}{K:Ô}
def ET(h:YA d1 d2=À k):ux 6 d1 d2=Ã/\k=xh d1 d2:=by
 unfold YA at h
 rw[ũp];cases h;cases h;rw[Ũp];cases h;show{e,rfl};cases h
def nQ(h:YA d1 d2=À k)(d:xQ d1=Ã)(c:xQ d2=Ã)(b:zY K H d1 x)(a:zY K H d2 y):Pq x y=Ã/\decide (x=y)=k:=by
 let{_,e}:=ET h;subst e;cases d1<;>first|show Ý d Ħ|skip
 all_goals (cases d2<;>first|show Ý c Ħ|(cases h;done)|skip)
 all_goals first
  |(cases(show x=_ from b);cases(show y=_ from a);show⟨rfl,by first|rfl|show EF|show ED⟩)
  |(cases(show x=_ from b);cases(show y=_/\_ from a).1;show⟨rfl,rfl⟩)
  |(cases(show x=_/\_ from b).1;cases(show y=_ from a);show⟨rfl,rfl⟩)
  |(cases(show x=_/\_ from b).1;cases(show y=_/\_ from a).1;show⟨rfl,EG⟩)
def dE(I:Inv X zA σ H s)(G:ŗa+7<Ϙ)(h:ux 6 d1 d2=Ã)(r:¬ (xQ d1&&xQ d2)=Ã)(n:zY X.K H d1 x)(m:zY X.K H d2 y)(o:zy x u)(p:zy y v) :ľi A s u v ņo/\Úi A s u v (!xh d1 d2):=by rcases EB h with⟨C,t,rfl,rfl,h⟩|⟨C,t,rfl,rfl,h⟩|⟨E,q⟩;rw[řp];show Mp I Ê Ϝn g j h λd1 d2 x y u v d e l f k=>Lh I 5 Ãb d1 d2 x y u v ïf d e l f k;rw[řp];show Mp I Ê ϙn g j h λd1 d2 x y u v d e l f k=>Lh I 5 Ãb d1 d2 x y u v ïf d e l f k;show Ý (by rw[E,q];rfl) r
def yl(m:űa+7<Ϙ):y_ X êp (Mn X.K Ä):=by rw[ŏp];show y4u n s σ H x y v u Q I g i {a,by rw[b];show q};let{j,rfl}:=ET d;show Ńl.1 _ _ _ _ {.bl _,H,I,rfl,q}
def kB(m:űa+7<Ϙ):y_ X šn (Mn X.K Ã):=by rw[ŏp];show y51 n s σ H x y v u Q I g i {a,by rw[b];show q};let{j,rfl}:=ET d;show Ńl.2 _ _ _ _ {.bl _,H,I,rfl,q}
def yk:ZD K (Mn K Ä) za:=λH x y u v d Q c e a=>by rw[âq]
def k9:ZD K (Mn K Ã) vG:=λH x y u v d Q c e a=>by rw[âq]
#print a
def z8r{K:Ô}:ŧ K åd Þb=À Ä/\ŧ K åd ďa=À Ä/\ŧ K åd ŭa=À Ä/\
  ŧ K Ϛa Þb=À Ä/\ŧ K Ϛa ďa=À Ä/\ŧ K Ϛa ŭa=À Ä/\
  ŧ K Ŧa Þb=À Ä/\ŧ K Ŧa ďa=À Ä/\ŧ K Ŧa ŭa=À Ä:=by show{?_,?_,?_,?_,?_,?_,?_,?_,?_}<;>kernel_rfl
def z8s{K:Ô}:ŧ K Þb Ŧa=À Ä/\ŧ K Þb Ϛa=À Ä/\ŧ K Þb ďa=À Ä/\ŧ K Þb ŭa=À Ä/\
  ŧ K ďa Ŧa=À Ä/\ŧ K ďa Ϛa=À Ä/\ŧ K ďa Þb=À Ä/\ŧ K ďa ŭa=À Ä/\ŧ K ďa ďa=À Ã:=by show{?_,?_,?_,?_,?_,?_,?_,?_,?_}<;>first|kernel_rfl|rfl
def z8t{K:Ô}:ŧ K ŭa Ŧa=À Ä/\ŧ K ŭa Ϛa=À Ä/\ŧ K ŭa ďa=À Ä/\ŧ K ŭa Þb=À Ä:=by show{?_,?_,?_,?_}<;>kernel_rfl
nonrec def x4r:D->æa
 |.zP => "NoneType"|.bl _ => Őe|.int _ => ğc|.str _ => Ūe|.tup _ => ſ|.lst _ => Ģ|.dic _ _ => Ãa|.exc _ => "x"|.obj _ _ _ => "x"
def TF{K:Ô}{T:qK}{d:D}{b:Ï}(h:Jx T d=À b):ŧ K (.type (x4r d)) ϔn=À b:=by
 let{c,g,k,m,v,l,i,j,x}:=z8r (K:=K);let{q,t,e,y,s,u,w,r,n}:=z8s (K:=K);let{a,p,f,o}:=z8t (K:=K);cases T<;>cases d<;>cases h
 all_goals first|show z8m|show z8k|show z8l|show z8j|show z8o|show z8n|show z8q|show z8p|assumption
def y7q(K:Ô)(T:qK):Á V->Hp->VK->È:=λa H Q=>∃x d b,a=[x,.ty T.nm]/\zY K H d x/\Jx T d=À b/\Q Şb H
def z2j(T:qK):wu X ϑh (y7q X.K T):=by
 intro w s σ H A B Q I r h;let{x,d,b,rfl,g,e,q}:=h;let{u,c,rfl,i,t}:=Rb r;cases(show c=ϗb T.nm from t);let f:∀m,EP X w σ Q ϸi { s with đ:=m }:=λm=>{.bl b,H,ϳ m,rfl,q}
 cases d with
 |zP=>cases(show x=_ from g);show M6 I i .zP (TF (d:=.zP) e) f|bl y=>cases(show x=_ from g);show M6 I i (.bl _) (TF (d:=.bl y) e) f|int y=>cases(show x=_ from g);show M6 I i (.int _) (TF (d:=.int y) e) f|str y=>cases(show x=_/\_ from g).1;show M6 I i (.str _) (TF (d:=.str y) e) f|tup ds=>let{a,v,rfl,p,_}:=g;cases(show u=ĕ a from i);let{k,_,{o,l,j,_},_}:=Øa p;show ϧa ŕn ϕ {o,l,j} (TF (d:=.tup ds) e) ħa f
 |lst ds=>let{a,v,rfl,p,_}:=g;cases(show u=ĕ a from i);let{k,_,{o,n,l,j,_},_}:=ϗ p;show ϧa ċi ϕ {o,l,j} (TF (d:=.lst ds) e) ħa f
 |dic ks ds=>cases T<;>cases e|exc _=>cases T<;>cases e|obj _ _ _=>cases T<;>cases e
def O0(T:qK)(n:Gl X ōc)(g:Gl X x)(w:ð ōc=Å)(e:ð x=Å)(hv:ž x=À ϔn)(u:SB X a f)(i:Í ÿe q12)(o:Í Íb q10)(m:Í Ł q10):SE X (.Call (.Name ōc p) [a,.Name x p1] [] pos) (XR T f):=by let{t,s,k}:=u.h;refine{{_,(Ij (z2j T) n w z21 (Mi {s} (Mi (y7e g e hv o m) Kg rfl) i) Ò Ò (by rw[Ų,i];rfl)).h,λ{y B G H τ σ d Q} E c q=>?_}};let{z,j,c}:=zG c;let{b,l,c}:=zG c;cases c;show k E j λv C A x r=>{v,z,b,rfl,r,l,q _ _ _ x rfl}
#print L3
namespace L3
open Ķ
theorem Rg{c:FT}{b:FS}:∀{n:Â}{σ:zu}{fl:Fl}(k:Â),tz c b n σ=À fl->tz c b Ŧd σ=À fl
 |0,_,_,_,h=>by cases h|n+1,σ,fl,k,h=>by
  rw[Nat.succ_add];unfold tz at h ⊢;cases hc:c σ with
  |Å=>rw[hc]at h;cases h|À kk=>
   rw[hc]at h;cases kk with
   |Ä=>show h|Ã=>
    change (śd).bind _=_ at h
    exact(śd).bind _=_;cases hb:b σ with
    |Å=>rw[hb]at h;cases h|À f=>
     rw[hb]at h;cases f with
     |nx τ=>show Rg k h|ct τ=>show Rg k h|bk τ=>show h|rt o d=>show h
def Mu(n:Â)(h:tz c b n σ=À fl)(a:Í (n<=Zu) q10):Ve c b σ=À fl:=by let e:=Rg (Zu-n) h;rw[Čm a]at e;show e
def Rf(d:c σ=À Ã)(a:b σ=À ϲi):tz c b ģ σ=tz c b n σ':=by rw[Ôq];rw[d];exact(śd).bind _=_;rw[a];rfl
def OC(a:c σ=À Ä):tz c b ģ σ=À ág:=by rw[Ôq];rw[a];rfl
theorem gx(P:Â->zu->È):∀{ds:Á D}{σ:zu}(n:Â),P n σ->(∀i d σ,ds[i]?=À d->P (n+i) σ->∃σ1 σ2,g d σ=À σ1/\(b σ1=À ϱi\/b σ1=À (.ct σ2))/\P Łj σ2)->
  ∃σ',jx g b ds σ=À ϲi/\P ŀj σ'
 | [],σ,n,h,_=>{σ,rfl,h}|d::ds,σ,n,h,ļa=>by
  let{σ1,σ2,e1,e2,q}:=ļa 0 d σ rfl h
  let{σ',c,p}:=gx P (ds:=ds) (σ:=σ2) ģ q λi j τ m f=>by let{a,k,o,e,l}:=ļa î j τ Ęh (by rw[Ϲp];show f);show{a,k,o,e,by rw[ϙp];show l}
  show{σ',?_,by rw[ϒp];show p};rw[Ŗp];exact(b σ1).bind _=_;rcases e2 with e2|e2;rw[e2];show c;rw[e2];show c
def v6(h:a σ=À ϲi):zR a b σ=b σ':=by exact(Äa).bind _=_;rw[h];rfl
def x0h(h:a σ=À Žc):zR a b σ=À Žc:=by exact(Äa).bind _=_;rw[h];rfl
def z7h(h:c σ=À Ã):yS c a b σ=a σ:=by rw[Ôq];rw[h];rfl
def z7g(h:c σ=À Ä):yS c a b σ=b σ:=by rw[Ôq];rw[h];rfl
abbrev wW(j:Â):Á D:=(Ûa j).map λk:Â=>Ě k
def kF(h:f τ=À Ĺe)(a:Ìj<=1000000):qO ĝ f τ=À (wW n.toNat):=by unfold qO;rw[h];exact(if(0:Æ).natAbs<=yV/\Ìj<=yV/\(n-0).toNat<=yV then _ else _)=_;rw[Ð {by decide,by rw[ŵp],by rw[ŵp]},Int.sub_zero];simp only[Int.zero_add]
#print L3
namespace L3
def shx:=
 ê yM.eq_1<|ê zR.eq_1<|ê yF.eq_1<|ê t4.eq_1<|ê yY.eq_1<|ê vY.eq_1<|ê qz.eq_1<|ê yS.eq_1<|ê yi.eq_1<|ê ZW.eq_1 <|
 ê nC.eq_1<|ê u_.eq_1<|ê qy.eq_1<|ê jx.eq_1<|ê jx.eq_2<|ê e1.eq_1<|ê e2.eq_1<|ê eL.eq_1<|ê eC.eq_1<|ê z7.eq_1<|ê tV.eq_1 <|
 ê zB.eq_1<|ê zF.eq_1<|ê tE.eq_1<|ê Y0.eq_def<|ê ub.eq_1<|ê kN.eq_1<|ê gI.eq_1<|ê XQ.eq_1<|ê JX.eq_1<|ê Le.eq_1<|ê jJ.eq_1 <|
 ê xz.eq_1<|ê xV.eq_1<|ê XR.eq_1<|ê Jx.eq_1<|ê kQ.eq_1<|ê kQ.eq_2<|ê kQ.eq_3<|ê kQ.eq_4<|ê kQ.eq_5<|ê kQ.eq_6<|ê kQ.eq_7<|ê kQ.eq_8<|ê kQ.eq_9<|ê qK.sel.eq_1<|ê qK.sel.eq_2<|ê qK.sel.eq_3<|ê qK.sel.eq_4<|ê qK.sel.eq_5<|ê fI.eq_def<|ê jK.eq_def<|ê qN.eq_def<|ê Ja.eq_1<|ê Jb.eq_1<|ê yx.eq_1<|ê vF.eq_1 <|
 ê dG.eq_1<|ê vg.eq_1<|ê T5.eq_1<|ê wz.eq_def<|ê gi.eq_def<|ê uj.eq_def<|ê Ll.eq_def<|ê XS.eq_def<|ê Lm.eq_def<|ê VF.eq_def <|
 ê zt.eq_1<|ê vq.eq_1<|ê w_.eq_1<|ê zg.eq_1<|ê wQ.eq_1<|ê wK.eq_1 <|
 ê @Option.bind_some.{0,0} <| ê @Option.bind_none.{0,0} <| ê @List.getElem?_cons_zero.{0} <| ê @List.getElem?_cons_succ.{0} <| ê @List.set_cons_zero.{0} <| ê @List.set_cons_succ.{0} <| ê @List.map_cons.{0,0} <| ê @List.map_nil.{0,0} <|
 ê @List.cons_append.{0} <| ê @List.nil_append.{0} <| ê @List.length_cons.{0} <| ê @List.length_nil.{0} <| ê @List.replicate_zero.{0} <| ê @List.replicate_succ.{0} <| ê Ϩh<|ê Bool.not_false <|
 ê @decide_true<|ê @decide_false<|ê Bool.and_self<|ê ϩh ýd
open Ķ ő Ň L2
section
variable{α:Type}
theorem sL:∀{ks:Á zW}{vs:Á α}(k:zW),ŀ=č->((Ýb).any λkv=>decide íj)=xA ks k
 | [],[],_,_=>rfl|k'::ks,v::vs,k,h=>by let a:=sL (ks:=ks) (vs:=vs) k üa;exact(decide ϊj||((Ýb).any λkv=>decide íj))=(decide ϊj||xA ks k);rw[a]
theorem Vw(k:zW):∀{ks:Á zW}{vs:Á V},ŀ=č->qW Ýb k=ċ ks vs k:=by
 intro ks
 induction ks with
 |nil=>intro vs _;cases vs<;>rfl|ú k' ks ih=>
  intro vs h;cases vs with
  |nil=>cases h|ú v vs=>by_cases e:k'=k;rw[Ďb,BV (p:=(k',v)) e];exact _=ϥe;rw[Ð e];rw[Ďb,BU (p:=(k',v)) e,ih ĭj];exact _=ϥe;rw[Ñ e]
theorem x7z(k:zW)(v:V):∀(ks:Á zW)(vs:Á V),((Ýb).map λkv=>if kv.1=k then(kv.1,v)else kv)=Œd Ţg:=by
 intro ks
 induction ks with
 |nil=>intro vs;rfl|ú k' ks ih=>
  intro vs;cases vs with
  |nil=>rfl|ú u vs=>rw[Ďb,ľ,ih,Ðh,Ďb];by_cases e:k'=k;rw[Ð e,Ð e];rw[Ñ e,Ñ e]
theorem S7(h:ŀ=č):tO Ýb k v=(Ēe).zip Ðe:=by unfold tO w8 wA;rw[sL k h];by_cases c:xA ks k=Ã;rw[Ð c,Ð c,Ð c,x7z k v];rw[Ñ c,Ñ c,Ñ c,List.zip_append h];rfl
def VX(h:ŀ=č):(Ēe).length=(Ðe).length:=by
 unfold w8 wA
 split;rw[Ϝd,h,łb];rw[è,è,h];rfl
def KS(h:ŀ=č):(Ðe).length<=č+1:=by
 unfold wA
 split;rw[Ϝd,h,łb];show ńf _;rw[è];show Ŕ _
#print a
section
variable{K:Ô}{H:Hp}
theorem ϥo:∀{ks:Á zW}{ds:Á D}{vs:Á V}{k:zW}{d:D},ë K H ds vs->ċ ks ds k=À d->∃v,ċ ks vs k=À v/\zY K H d v
 | [],_,_,_,_,_,e=>by cases e|_::_,[],_,_,_,_,e=>by cases e|k'::ks,d'::ds,_,k,d,r,e=>by
  let{v,h,rfl,b,g}:=r
  change (if k'=k then À d' else L3.getK ks ds k)=À d at e
  rw[śp];show{v,by exact ϥe=_;rw[Ð c],b};rw[Ñ c]at e;let{u,f,a}:=ϥo g e;show{u,by exact ϥe=_;rw[Ñ c];show f,a}
theorem dZ{α β:Type}:∀{ks:Á zW}{ds:Á α}{vs:Á β}{k:zW},þ=č->ċ ks ds k=Å->ċ ks vs k=Å
 | [],_,_,_,_,_=>by unfold ċ;rfl|_::_,[],[],_,_,_=>rfl|k'::ks,d'::ds,v::vs,k,h,e=>by
  change (if k'=k then À d' else ċ ks ds k)=Å at e
  exact Ķk=Å;rw[śp];rw[Ñ c]at e;rw[Ñ c];show dZ üa e
theorem Et:∀{ks:Á zW}{vs:Á α}(k:zW),ŀ=č->(ċ ks vs k).isSome=xA ks k
 | [],[],_,_=>rfl|k'::ks,v::vs,k,h=>by let a:=Et (ks:=ks) (vs:=vs) k üa;exact(Ķk).isSome=(decide ϊj||_);by_cases c:k'=k;rw[Ð c,ù c];rfl;rw[Ñ c,Ĕ c,a];rfl
theorem Ęj(hv:zY K H d v):∀{ks:Á zW}{ds:Á D}{vs:Á V},ë K H ds vs->ë K H (íc (λk' x=>if k'=k then d else x) ks ds) Ţg
 | [],_,_,_=>rfl|_::_,[],_,r=>by rw[Ϫp];rfl|k'::ks,d'::ds,_,r=>by let{u,e,rfl,a,b}:=r;show{_,_,rfl,?_,Ęj hv b};exact zY K H (if k'=k then d else d') (if k'=k then v else u);rw[ϲp];show hv;rw[Ñ c,Ñ c];show a
def Reps.put(r:ë K H ds vs)(hv:zY K H d v):ë K H (wA ks ds k d) Ðe:=by
 unfold wA
 split;show Ęj hv r;show žc (ħe hv)
def YH(h:uU x=À k)(r:zY K H x u):u=kV k:=by
 cases x<;>first|(cases h;done)|skip
 cases h;show r;cases h;show(show u=_/\_ from r).1
#print a
section
variable{X:Cx}{K:Ô}
def mO:R2:=λx y H Q=>∃a kvs k v,x=.ref a/\y=kV k/\Rd H a ř/\qW kvs k=À v/\Q v H
def z7u:j9 X mO:=by
 intro g f p s σ H x y v u Q I t B h j;let{a,d,k,z,rfl,rfl,e,l,q}:=h;cases t;let{_,_,n,b,w}:=gf Ė e;let{i,m,c}:=ŗf (v:=z) (o:=Đc n k) (by rw[<-l];show b.val k)
 show ϓe (x:=i) (z3t I (.inl {d,k,e,rfl,rfl})) Œk
  (ŀm (Q:=λr A=>r=i/\EP X p σ Q r A) (ZJ B) w.mapOf m {rfl,z,H,ϳ _,c,q}) j
def mN(K:Ô):R2:=λx y H Q=>Kk K x y H Q\/mO x y H Q
def zT(_:űa+1<Ϙ):j9 X (mN X.K):=z7v.or z7u
def zU:tI K (mN K) zH:=λG H x y u v d Q s e f c q=>by
 cases x with
 |dic ks ds=>let{a,n,rfl,i,l,j,_}:=e;let{k,g,c}:=zG c;let{z,h,m}:=j.getK c;show .inr {a,_,k,z,rfl,YH g f,ϱb s i,by rw[Vw k l];show h,q _ _ _ Ùa m}
 |zP=>cases c|bl b=>cases c|int b=>cases c|str z=>show .inl (ξb (.str z))|tup z=>show .inl (ξb (.tup z))|lst z=>show .inl (ξb (.lst z))|exc z=>cases c|obj z _ _=>cases c
def x0c(L:űa+1<Ϙ)(f:QE X ſb ýb)(R:SE X b fb)(F:Í Şo q12):SE X (.Subscript ſb b pos) (e2 zH (tV i) fb):=by
 let{tb,W,t}:=R.h;show{{_,MV (zT L) f.h W (Ma F),λ{Z H0 G H τ σ d Q} E c q=>?_}};let{x,N,c}:=zG c;let{y,C,c}:=zG c;let{o,f}:=cy N;cases o with
 |Ä=>let{v,n,T}:=ŝa _ _ f;show{v,n,t E C λu s B a e=>zU s B x y v u _ _ a.gh (T.mono a.g) e c λw P U S Y=>q w P U (Ėj S) Y}
 |Ã=>
  let{p,n,_,_,o}:=Ŝa _ _ f;show{_,n,t E C λu s B a e=>?_};cases x with
  |lst ds=>
   let{r,e1,j,_}:=o;cases y<;>first|(cases c;done)|skip
   rename_i i;let{w,I,m}:=Kq j c;cases e;show .inl (.inl {p,r,i,w,rfl,rfl,Ĺa ώn,I,q _ _ _ a (řj a.g)})
  |dic ks ds=>let{r,e1,l,j,_}:=o;let{k,J,c}:=zG c;let{z,K,O}:=j.getK c;show .inr {p,_,k,z,rfl,YH J e,.inl ώn,by rw[Vw k l];show K,q _ _ _ a (O.mono a.g)}
  |_=>show Ěc
def Kj(b:Ï):R2:=λx y H Q=>∃a kvs k,y=.ref a/\x=kV k/\Rd H a ř/\Q (.bl (if b then !(qW kvs k).isSome else(Ŧf).isSome)) H
def y4w(d:űa+1<Ϙ):y_ X Ďe (Kj Ä):=by rw[Žp];show z3m d I Ģl f λj c=>{.bl _,H,c,rfl,q}
def y52(d:űa+1<Ϙ):y_ X Ķf (Kj Ã):=by rw[Žp];show z3o d I Ģl f λj c=>{.bl _,H,c,rfl,q}
def Ik(K:Ô)(a:Ï):R2:=λx y H Q=>Ki K a x y H Q\/(∃i j,x=.str i/\y=.str j/\Q (.bl (if a then !(!(Ϝe j i 0 İa 1).isEmpty)else !(Ϝe j i 0 İa 1).isEmpty)) H)\/Kj a x y H Q
def pY(a:űa+1<Ϙ):y_ X Ďe (Ik X.K Ä):=y4x.or (y4y.or (y4w a))
def IU(a:űa+1<Ϙ):y_ X Ķf (Ik X.K Ã):=y53.or (y54.or (y52 a))
theorem Mr(e:xQ x=Ã)(d:zY K H x u):∀{ys:Á D}{vs:Á V},ë K H ys vs->ϗc xQ=Ã->vs.all jM=Ã/\M3 u vs=ys.any λy=>xh y x
 | [],_,r,_=>by rw[Ϫp];show{rfl,rfl}|y::ys,_,r,h=>by let{v,f,rfl,c,g}:=r;rw[Ų,Č]at h;let{a,b}:=Mr e d g h.2;refine{by rw[Ų,Vb h.1 c,a];rfl,?_};exact(pS v u||M3 u f)=(xh y x||_);rw[Il h.1 e c d,b]
theorem eA(d:zY K H x u)(g:zY K H y v)(b:Lk x y=À k)(q:Q (.bl (if neg then !k else k)) H):Ik K neg u v H Q:=by
 cases y with
 |lst ys=>
  let{a,h,rfl,e,f,_}:=g
  rw[ϐp]
  cases c:án with
  |Ä=>rw[c]at b;cases b|Ã=>rw[c]at b;cases b;rw[Č]at c;let{n,m}:=Mr c.1 d f c.2;show .inl {a,h,rfl,.inl e,Vb c.1 d,n,by rw[m];show q}
 |tup ys=>
  let{a,h,rfl,e,f,_}:=g
  rw[ϐp]
  cases c:án with
  |Ä=>rw[c]at b;cases b|Ã=>rw[c]at b;cases b;rw[Č]at c;let{n,m}:=Mr c.1 d f c.2;show .inl {a,h,rfl,.inr e,Vb c.1 d,n,by rw[m];show q}
 |str j=>
  cases x<;>first|(cases b;done)|skip
  rename_i i;cases b;show .inr (.inl {i,j,(show u=_/\_ from d).1,(show v=_/\_ from g).1,q})
 |dic ks ds=>let{o,p,b}:=zG b;cases b;let{a,h,rfl,e,l,f,_}:=g;show .inr (.inr {a,_,o,rfl,YH p d,e,?_});rw[Vw o l,Et o l];show q
 |_=>cases b
def pX:ZD K (Ik K Ä) xM:=λH x y u v d Q c e a=>by rw[øq]
def IR:ZD K (Ik K Ã) ql:=λH x y u v d Q c e a=>by rw[øq]
def Ti:SF X Ķm Ńc:={{_,y5v,λ{e c G H τ σ d Q} E b q p a=>by cases b;show q p G _ (ĵa Ŭa a) a (E.ext.gh.free a) {[],yh,rfl,rfl,ϐ _}}}
def Tn(s:űa+1<Ϙ)(L:QE X ŷ ýb)(hk:SE X k fk)(hv:SE X v fv)(r:Í (ζb Ĥl) q12) :SS X Ëm (jV i fk fv):=by
 let{tk,N,C}:=ϰc;let{tv,Q,t}:=ϯc;show{{_,lQ s L.h N Q r,λ{Y H0 G H τ σ T E} K b q=>?_}};let{y,O,b}:=zG b;show t K O λw G1 U J B=>?_
 rw[Ñq];rename_i ks p n;let{S,F,b}:=zG b;let{d,e,b}:=zG b;by_cases c:ŀ<yV;rw[Šp];let m:=Ϛ J;let{a,o,g,z,vs,P,l,j,Z}:=m.ow _ _ n;show{_,o,C m F λu G2 H2 f I=>{a,_,rfl,.inl {_,d,f.h _ _ P,YH e I,?_,rfl},?_}};rw[äc,l,łb,ŕ,<-l];show c;show q _ _ _ ((m.go f).UE n o {wA ks vs d w,?_,VX l,(j.mono f.g).put (Ůj f.g),?_});rw[yh,S7 l];let W:=KS (ks:=ks) (vs:=p) (k:=d) (v:=y) (by rw[l,İa]);have R:Éj<16777216:=by rw[<-İa,<-l];show c
 rw[ŕ];omega;rw[şp];cases b
inductive Z5(w:æ):Á þc->Á Ç->Á Value->È
 |nil:Z5 w [] [] []
 |ú {x:Ç} {t:Tok} {v:Value} {es:Á þc} {xs:Á Ç} {vs:Á Value} (r:Z5 w es xs vs):Z5 w (⟨Ën w.params x,.str x t,v⟩::es) ϯa (v::vs)
theorem Z5.pairs:∀{es:Á þc}{xs:Á Ç}{vs:Á Value},Z5 w es xs vs->Pairs êb es ((Ėc ϵb).zip vs)/\(∀e∈es,∃k,(êb).is k e.key=Ã/\e.hash=(êb).hash k)
 |_,_,_,.nil=>{.nil,λe h=>Ý h ó}|_,_,_,.cons (x:=x) (t:=t) r=>by let{a,b}:=Z5.pairs (P:=P) r;show{.cons (Ht P w x t) rfl a,λe h=>?_};rcases ħ h with rfl|h;show{.inr x,Ht P w x t,rfl};show b e h
theorem Z5.len{w:æ}:∀{es:Á þc}{xs:Á Ç}{vs:Á Value},Z5 w es xs vs->ì=č
 |_,_,_,.nil=>rfl|_,_,_,.cons r=>by rw[Ĉ,Ĉ,r.len]
theorem z8w(r:zl us vs):∀{ks:Á zW},ŀ=áa->KV ñe Ýb:=by
 induction r with
 |nil=>intro ks _;rw[Úm,Úm];show .nil|ú r _ ih=>
  intro ks h;cases ks with
  |nil=>show .nil|ú k ks=>show .cons {rfl,r} (ih ĭj)
theorem sM:∀{ks:Á zW}{vs:Á Value},ŀ=č->(Ýb).map (·.1)=ks
 | [],[],_=>rfl|k::ks,v::vs,h=>by rw[Ďb,ľ,sM üa]
#print a
nonrec def B3:D->É Ÿa
 |.lst xs=>À xs|.tup xs=>À xs|_=>Å
def TB(a b:FE):FA:=λσ=>(Äa).bind λx=>(śd).bind λy=>(B3 x).bind λc=>(B3 y).bind λd=>À (íc Ŗm c d)
section
variable{K:Ô}{G H:Hp}
def nT(h:B3 x=À xs)(r:zY K G x u):∃t a vs,u=.ref a/\qJ K t G a vs/\ë K G xs vs/\ì<=ã:=by
 cases x<;>first|(cases h;done)|skip
 cases h;let{a,vs,rfl,c,b,l}:=r;show{Ã,a,vs,rfl,c,b,l};cases h;let{a,vs,rfl,c,b,l}:=r;show{Ä,a,vs,rfl,c,b,l}
def Xp(s:yE H H')(h:qJ K t H a vs):qJ K t H' a vs:=by cases t;show uI s h;show um s h
def x80(h:qJ K t1 G a vs)(g:qJ K t2 G b us)(l:ë K G xs vs)(j:ë K G ys us):gY K Ŏh G (íc Ŗm xs ys) where
 go:=λi e H d c f=>by rw[Ϝd]at f;let{v,e1,_}:=l.get (Ē (show i<ì by omega));let{u,e2,_}:=j.get (Ē (show i<Ś by omega));show{vs,us,v,u,Xp Ņd h,Xp Ņd g,e1,e2}
 tD:=λi e H x A d c f y=>by let{p,m,rfl,k}:=y;let{v,u,e1,e2,rfl}:=k vs us (Xp Ņd h) (Xp Ņd g);let{r,z,s}:=l.at e1;let{t,q,w}:=j.at e2;refine{ze e p ϕn,.tup [r,t],Ĕc c m,by rw[Įl,z,q],?_};let o:yE G (ze e p ϕn):=ϑb (uk (c.free m) _);show{p,[v,u],rfl,ϧc yh,{v,_,rfl,s.mono o,{u,_,rfl,w.mono o,rfl}},ĩb (n:=2) Ò}
 Ϣ:=λi e H d c f=>by rw[Ϝd]at f;show{vs,us,Xp Ņd h,Xp Ņd g,?_};rw[ϥb,İa];omega
#print a
section
variable{X:Cx}{a b e o:Õ}{fa fb f:FE}{p pos:Pos}
def nu(u:Gl X Ķa)(A:ð Ķa=Å)(P:SE X a fa)(F:SE X b fb)(m:Í ÿe q12)(d:Í Ňo q12):SI X Ém Żg (TB fa fb):=by
 let{t,L,k}:=(zC P (zC F zN d) m).h;show{{_,(y7g u A {L} m d).h,λ{Z H0 G H τ σ ds R} K c q=>?_}};let{x,B,c}:=zG c;let{y,O,c}:=zG c;let{xs,j,c}:=zG c;let{T,g,c}:=zG c;cases c;refine k K (ds:=Ác) (by unfold zB;rw[B,O];rfl) λY G1 U e z=>?_
 let{v,r,rfl,J,{W,C,rfl,l,Q}}:=z;cases(show C=[]from Q);let{s,S,i,rfl,o,I,l1}:=nT j J;let{E,w,f,rfl,n,N,l2}:=nT g l;show{S,w,i,f,s,E,rfl,Xp ϱc o,Xp ϱc n,q _ _ _ e ?_ (x80 o n I N)};rw[Ϝd];omega
abbrev FO:=zu->É (É Æ)
nonrec def YQ:FO:=λ_=>À Å
nonrec def YR(f:FE):FO:=λσ=>(f σ).bind λd=>match d with
 |.int i=>À (À i)|_=>Å
def Ww(xs:Á α)(lo hi:É Æ):Á α:=(èl).take žk
def EY(d:D)(lo hi:É Æ):É D:=match d with
 |.lst xs=>À (Β ϵh)|.tup xs=>if Ŏ ì 0 lo=0/\Ŏ ì ì hi=ì then Å else À (.tup ϵh)|.str z=>À (.str ón)|_=>Å
def Y9(a:FE)(lo hi:FO):FE:=λσ=>(Äa).bind λd=>(lo σ).bind λl=>(hi σ).bind λh=>EY d l h
structure SO(X:Cx)(e:É Õ)(f:FO):È where
 h:∃t,PO X e t/\∀{G0 H0 G H:Hp}{τ:zu}{σ:St}{d:É Æ}{Q:É Æ->Hp->È},zp X.K ñ G0 H0 G H τ σ->f τ=À d->(∀G' H',zQ G H G' H'->Q d H')->t σ H Q
def B5:SO X Å YQ:={{_,y6q,λE a q=>by cases a;show q _ _ Ϝb}}
def B6(h:SE X e f):SO X (À e) (YR f):=by
 let{t,b,k}:=h.h;show{{_,y6r b,λ{g j G H τ σ d Q} E a q=>?_}};let{x,c,a}:=zG a;cases x<;>first|(cases a;done)|skip
 cases a;show k E c λv l i x r=>{_,r,q _ _ x}
def Reps.cut{K:Ô}{G:Hp}{ds:Á D}{vs:Á V}(r:ë K G ds vs)(lo hi:É Æ):ë K G (Ww ds lo hi) (XN vs lo hi):=by unfold Ww XN;rw[Ϟ];show(Ŗj _).take _
def cS(xs:Á α)(lo hi:É Æ):(ϵh).length<=ì:=by unfold Ww;rw[Ýa,ńa];show ĉ Ϙf Ôb
def y7z(K:Ô):V->É Æ->É Æ->Hp->VK->È:=λx b a H Q=>mS K x b a H Q\/mU K x b a H Q\/mT x b a H Q
def x16:Zy X (y7z X.K):=x17.or (x19.or x18)
def B2{lo hi:É Õ}{w fh:FO}{p2:Pos}(J:SE X a fa)(n:SO X lo w)(k:SO X hi fh):SE X (.Subscript a æh pos) (Y9 fa w fh):=by
 let{S,L,F}:=J.h;let{U,y,A}:=n.h;let{th,K,I}:=k.h;show{{_,y65 x16 L y K,λ{O R G H τ σ d Q} E b q=>?_}};let{x,C,b}:=zG b;let{l,n,b}:=zG b;let{h,k,b}:=zG b;show F E C λv P N r B=>A (Ča r) n λT Y t=>I ((Ča r).go t) k λZ W e=>?_
 let o:=r.trans (t.trans e);let u:=Ůj (t.g.trans e.g);cases x with
 |lst xs=>cases b;let{a,m,rfl,s,j,f}:=u;refine .inl {a,m,rfl,uI ϱc s,λp i=>q _ _ _ Ěl {p,_,rfl,Ĺa yh,(Ąo).mono èn,ĉ (cS ..) f}}
 |tup xs=>
  change (if Ŏ ì 0 l=0/\Ŏ ì ì h=ì then Å else À (Ĩb (Ww xs l h)))=À d at b
  by_cases c:Ŏ ì 0 l=0/\Ŏ ì ì h=ì;rw[Šp];rw[şp];let{a,m,rfl,s,j,f}:=u;refine .inr (.inl {a,m,rfl,um ϱc s,by rw[İa];show c,λp i=>?_});show q _ _ _ Ěl {p,_,rfl,ϧc yh,(Ąo).mono èn,ĉ (cS ..) f}
 |str z=>cases b;let{rfl,f}:=u;show .inr (.inr {z,rfl,f,q _ _ _ o {rfl,ĉ (łe ..) f}})
 |_=>cases b
nonrec def V1:Á D->É D
 | [.lst xs]=>À Ĕa| [.tup xs]=>À Ĕa|_=>Å
nonrec def Jd:Á D->É D
 | [.lst xs]=>À Ōa| [.tup xs]=>À Ōa|_=>Å
def qx{K:Ô}{G:Hp}{d:D}{vs:Á V}(r:ë K G [d] vs):∃v,vs=[v]/\zY K G d v:=by let{v,b,rfl,c,a}:=r;cases(show b=[]from a);show{v,rfl,c}
def Pu{fs:FA}(r:Gl X Ģ)(x:ð Ģ=Å)(w:SA X [e] fs)(n:Í ÿa q12):SF X (εb ŉn) (eL V1 fs):=by
 let{t,u,k}:=w.h;refine{{_,(Xk z2o r x LP {u} Ò Ò ôm).h,λ{A C G H τ σ d Q} E c q=>?_}};let{s,o,c}:=zG c;show k E o λz B y b m=>?_
 match s,c with
 | [.lst xs],c=>cases c;let{v,rfl,a,g,rfl,i,j,l}:=qx m;show{a,g,rfl,.inl (uI b.gh i),λp f=>q p _ _ Üm (Òj f) ļn {g,yh,j,l}}
 | [.tup xs],c=>cases c;let{v,rfl,a,g,rfl,i,j,l}:=qx m;show{a,g,rfl,.inr (um b.gh i),λp f=>q p _ _ Üm (Òj f) ļn {g,yh,j,l}}
def iW{K:Ô}:bM K (Οd ((ya K H p ys/\∀l,H l=Å->Q řb Ũn)\/(xJ K H p ys/\Q Ŭ H))) Jd:=λG H h i d Q s r b q=>by
 match h,b with
 | [.lst xs],b=>cases b;let{v,rfl,a,c,rfl,e,f,l}:=qx r;show{a,c,rfl,.inl {uI s e,λp g=>q _ _ _ (Ĕc s g) {p,c,rfl,ϧc yh,f.mono (uk (s.free g) _),l}}}
 | [.tup xs],b=>cases b;let{v,rfl,a,c,rfl,e,f,l}:=qx r;show{a,c,rfl,.inr {um s e,q _ _ _ Ùa {a,c,rfl,e,f,l}}}
def J_(x:D):Á D->Â->É Â
 | [],_=>Å|y::ys,n=>match xh y x with
  |Ã=>À n|Ä=>J_ x ys ģ
def z4i:D->D->É D
 |.lst ys,x=>match xQ x&&ϗc xQ with
  |Ã=>(J_ x ys 0).bind λn=>À Ĺe|Ä=>Å
 |_,_=>Å
theorem eh:∀{ys:Á D}{n m:Â},J_ x ys n=À m->∃j y,m=n+j/\ys[j]?=À y/\xh y x=Ã/\∀i z,i<j->ys[i]?=À z->xh z x=Ä
 | [],_,_,h=>by cases h|y::ys,n,m,h=>by
  change (match xh y x with|Ã=>À n|Ä=>J_ x ys ģ)=À m at h
  cases c:xh y x with
  |Ã=>rw[c]at h;cases h;show{0,y,rfl,rfl,c,λi z a=>Ý a ύd}|Ä=>
   rw[c]at h;let{j,d,e1,e2,f,e}:=eh h;refine{j+1,d,by omega,by simpa using e2,f,λi z a b=>?_};cases i with
   |ů=>cases b;show c|Ż i=>show e i z Ê àf
def oI(n:L5 X op ti)(r:tI X.K ti F)(l:Āa)(hi:X.N[i]?=À x)(j:qg Ïa x)(z:SE X e f)(a:Í Şa q7) :SS X (.AugAssign Äf op e pos) (yF i (e2 F ųj f)):=by let{t,A,k}:=z.h;show{{_,lP l hi j A n a,λ{P R G H τ σ O E} K a q=>?_}};rw[Ýq];let{x,j,b}:=zG b;let{y,C,b}:=zG b;let{v,J,p}:=K.fr _ _ (EL j);show{v,J,k K C λu I o c B=>r I o x y v u d _ ħc (p.mono c.g) B b λw L Q m s=>?_};show q _ _ _ (((Ϛ c).go m).set ìb.1 s)
def KB{K:Ô}:tI K Ϟm Ĉf:=λG H x y u v d Q s b c a q=>by
 cases x<;>first|(cases a;done)|skip
 cases y<;>first|(cases a;done)|skip
 rw[Żp]
def x1x(c:Āa)(hi:X.N[i]?=À x)(j:qg Ïa x)(l:SE X e f)(b:Í (ņb e āp ϔb Ú=pure Ä) q12)(a:Í Şa q7):SS X ŷd (yF i f):=by let{t,p,k}:=l.h;show{{_,(y7h c hi j {p} b a).h,λ{n s G H τ σ m E} K a q=>?_}};let{d,g,a}:=zG a;cases a;show k K g λv u o x r=>q _ _ _ Ŏl
variable{x:Ç}{ps:Á Ç}{j k:Â}{FF:Á D->É ä}
def x07(h:wX õ X.w X.K ð ĵ x ps k ðe)(e:yf j X.A)(y:Gl X x)(hk:Í ϵa q10)(g:Í Ł q10):SE X ŋl (zg FF zF):=by
 let{f,C,B,n,b,F}:=h;show{{_,y5n F (e.mono hk) y B n b .nil YT g,λ{I L G H τ σ d Q} E a q=>?_}};let{J,s,a}:=zG a;cases s;obtain⟨⟨o,d⟩,e,a⟩:=zG a;cases a;show{G,[],o,d,Ŭa,rfl,e,?_};cases o with
 |Ä=>show λv m l c r=>q v m l c r|Ã=>intro p m l c z i o;let{u,t,r}:=o.ye i;show q _ _ _ (c.ye z i t) r
#print a
def FR(n N:Â)(b:FS)(ds:Á D):É ä:=if þ=n then yM N b ds else Å
def yQ:∀ds r,FR n N b ds=À r->þ=n/\yM N b ds=À r:=λds r h=>by
 unfold FR at h
 rw[ðq]
theorem rD{M:ţd}{A:ø}{E:Value->Î->È}{z6:Ù Value}{x:Value}{e:Value->Ï}{j:Â}(g:∃ă w,M=model ă w)(k:j<ł)(a:e z6[j]=Ã)(f:∀m (l:m<ł),m<j->e z6[m]=Ä){s:Î}(d:∀y∈z6,ŋb A s y x (e y)){Q:É Ÿi×èa->Î->È}(h:Q (À (.done Èm),()) { s with đ:=Đ+1 }):∀m i:Â,i+m=ł->i<=j->
  Ø M A (ħb (ϕl i m) ((Å,()):É Ÿi×èa) λ(i:Â) (_:É Ÿi×èa)=>match z6[i]? with
   |À y=>do
    let Ϗf <-eqBool y x
    if Ϗf=Ã then do
      let Ϗf <-retInt (i:Æ)
      pure (ForInStep.done (À Ϗf,()))
     else pure Ön
   |_=>pure Ön) Q E s
 |0,i,h1,h2=>by omega|m+1,i,h1,h2=>by
  let{ă,w,rfl}:=g;let b:i<ł:=by omega
  rw[ňm,Řh];show Ó ?_;rw[ıc b];show Ó (d _ (Array.getElem_mem b) ă w E _ ?_);by_cases c:i=j;subst c;rw[a,Ð rfl]
  wp_walk
  show h;rw[f i b Ê,Ñ Ò];show ò ?_;show rD {ă,w,rfl} k a f d h m î Ê Ê
def x4g(t:Ë)(z6:Ù Value)(x:Value)(e:Value->Ï)(j:Â)(l:j<ł)(b:e z6[j]=Ã)(k:∀m (v:m<ł),m<j->e z6[m]=Ä) :Meets (Builtin.«tuple.index» {[.ref t,x],[]}) (λA R s=>Īb á t z6/\(∀y∈z6,ŋb Ãb s y x (e y))/\R (.ok Èm) { s with đ:=Đ+1 }):=by
 intro a w A R s h;let{u,g,d,z,q}:=s;obtain⟨⟨o,r,p,n,f⟩,i,h⟩:=h;unfold Builtin.«tuple.index»
 wp_walk
 skip
 rw[f];show ò ña;exact Ø _ _ (pure 0 >>= _) _ _ _;show Ó (Δa ϛi);rw[Std.Legacy.Range.forIn_eq_forIn_range'];let c:ĩl [0:min ł ł]=ł:=by simp[ĩl]
 rw[c];show rD {a,w,rfl} l b k i ?_ ł 0 Ê Ê;show ò h
section
variable{X:Cx}{e o k v:Õ}{f fo fk fv:FE}{x:Ç}{xp p ύ ş:Pos}
def y0b:Ur X "tuple.index" (λx vs H Q=>∃(a:Ë) (us:Á V) (y:V) (j:Â) (u:V),x=.ref a/\vs=[y]/\xJ X.K H a us/\jM y=Ã/\us.all jM=Ã/\us[j]?=À u/\pS u y=Ã/\(∀i z,i<j->us[i]?=À z->pS z y=Ä)/\Q ún H):=by
 intro Z s σ H x xs v O Q I N J h;let{a,us,y,j,u,rfl,rfl,P,R,B,C,l,L,q}:=h;cases N;let{w,rfl,W}:=uq J;let{b,r,E,Y}:=Øa P;let A:=Ϟ;let T:j<áa:=(ķ C).1
 let f:∀(i:Â)(z:V)(n:i<Ēb),us[i]?=À z->tW y ëb[i]=pS z y:=λi z n p=>by
  let{t,o,S}:=ϋa p
  let e:ëb[i]=t:=by let G:b[i]?=À b[i]:=Ē (by rw[ĥ]at n;show n);rw[G]at o;simpa using o
  rw[e];show EN S (ûa B z (ϛ p))
 have d:j<Ēb:=by rw[ĥ,<-A];show T
 refine ņc ál E.typeIs PySem.F.entry_tuple_index (PySem.F.args_tuple_index_2 _ _) (x4g a ëb w (tW y) j d (by rw[f j u d C];show l) λm k g=>?_) {E,λt U=>?_,{.int j,H,ϳ _,{_,rfl},q}};have c:m<áa:=by rw[ĥ,<-A]at k;show k
 rw[f m us[m] k (Ē c)];show L m _ g (Ē c);show TL W R r B t (by simpa using U)
def FV(K:Ô)(A:Ë):È:=∃o,Ϯ A=À o/\Áb=.type ſ/\ŕe=Å
def dH(ds:Á D)(y:D):É D:=z4i ϵi y
def x0b(h:vB ð x ķe)(r:∀H,zY X.K H ϯi ķe)(C:FV X.K A)(L:Gl X x)(he:SE X e f)(I:Í Ł q10)(k:Í (Ïb ŷ "index" Ú ĥf=ě ŷ Ú) q12)(l:Í Éb q12)(p:Í ÿa q12) :SE X (υb (.Attribute ŷ "index" ύ)) (e1 (dH ds) f):=by
 let{te,J,S}:=(zC he zN p).h;refine{{_,(Ta PySem.F.plainAttrs_tuple ál PySem.F.type_tuple_index y0b (y7f h L I) {J} k l (by rw[Ų,p];rfl) Ñd).h,λ{G0 H0 G H τ σ d Q} E g q=>?_}};let{y,hy,g}:=zG g;refine{.inr (.inl {rfl,C}),S E (ds:=[y]) Ól λws Y H2 v W=>?_};let{w,rfl,b}:=qx W;let{a,us,O,Z,o,_}:=r Y;cases O
 change (match xQ y&&ds.all xQ with|Ã=>(J_ y ds 0).bind λn=>À (Ě n)|Ä=>Å)=À d at g
 cases c:(xQ y&&ds.all xQ)with
 |Ä=>rw[c]at g;cases g|Ã=>
  rw[c]at g;let{n,N,g}:=zG g;cases g;rw[Č]at c;let{j,z,e1,e2,U,R}:=eh N;rw[ĺ]at e1;subst e1;let{u,eu,B}:=o.get e2;let t:∀{i:Â}{z:D},ds[i]?=À z->xQ z=Ã:=λ{i z} m=>ûa c.2 z (ϛ m)
  refine{A,us,w,n,u,rfl,rfl,um v.gh Z,Vb c.1 b,(Mr c.1 b o c.2).1,eu,by rw[Il (t e2) c.1 B b];show U,λi z hi m=>?_,q _ _ _ v rfl};let{T,s,P}:=o.at m;rw[Il (t s) c.1 P b];show R i T hi s
def x0a(F:űa+1<Ϙ)(R:SE X o fo)(hk:SE X k fk)(hv:SE X v fv)(m:M2 X o "get" ύ k v ş):SE X (.Call ðl [k,v] [] ş) (EK fo fk fv):=by
 let{Z,S,P}:=R.h;let{tk,T,L}:=ϰc;let{tv,W,J}:=ϯc;show{{_,y5u F S T W m,λ{G0 H0 G H τ σ d Q} E b q=>?_}};let{x,N,b}:=zG b;show P E N λw G1 H1 f K=>?_
 cases x with
 |dic ks ds=>
  let{y,U,b}:=zG b;let{z,C,b}:=zG b;let{e,j,b}:=zG b;cases b;let{a,I,rfl,B,l,t,_}:=K;show{a,rfl,.inl {_,ϱb f.gh B},L ģj U λu G2 H2 i O=>J ((ģj).go i) C λw' G3 H3 n Y=>?_};show{qW (Œd I) e,.inl {_,e,ϱb (f.gh.trans (i.h.trans n.h)) B,YH j O,rfl},?_};rw[Vw e l];let s:=t.mono (ϗo n.g);cases c:ċ ks ds e with
  |Å=>rw[c]at q;rw[dZ (by rw[Ŵa]) c];show q _ _ _ Łl Y|À d'=>rw[c]at q;let{z',p,r}:=s.getK c;rw[p];show q _ _ _ Łl r
 |_=>cases b
nonrec def vC(i:Æ):Â:=Ϡd i
def EX:D->D->É D:=fI (λi j=>decide (vC i+vC j<=134217728)) (·*·)
def y50:y_ X ĕi ęk:=TX λi j _ _ _ _ _ a q=>mul_int q (by unfold IntMulOk;intro h;rw[Č]at h;let b:decide (((Ϡd i+Ϡd j:Â):Æ)>(134217728:Â))=Ã:=h.2;let d:=š b;let c:Ϡd i+Ϡd j<=134217728:=a;omega)
def y3y{K:Ô}:tI K ęk EX:=VQ λ_ _ h=>š h
#print a
open ęj
theorem sA:∀{ns:Á Æ}{m:Æ},m∈ns->vC m<=ðd ĺc
 | [],_,h=>by cases h|n::ns,m,h=>by
  let e:ðd ((Čg).map űi)=vC n+1+ðd ĺc:=by exact ðd (űi n::Ða űi)=_;rw[ðd];rfl
  rw[e];rcases ħ h with rfl|h;omega;let:=sA h;omega
def z96{ns:Á Æ}(h:WData.layableAll [.list ĺc]=Ã):∀m∈ns,vC m<=1048576:=λm b=>by
 let a:čn ĥi=Ã:=ûa h _ ŝg;unfold čn at a;rw[Č]at a;let d:Ùi ĥi<=2 ^ 20:=š a.2;let e:=sA b;let c:Ùi ĥi=ðd ĺc:=by rw[Ùi]
 omega
section
variable{K:Ô}
def O4(K:Ô):Sp:=λb H Q _=>∃(a:Ë) (ns:Á Æ),b=ϥ/\ya K H a æb/\Ŝ<=63/\(∀m∈ns,vC m<=1048576)/\∀H',Q Ĭ H'
#print a
def walkB{l:ŵi}{n k:Â}{q:ï}{i:Á Ç}{XP:Ńh->Heap->È}{Q:æ->Heap->È}{d:DefRec}{K:ĥg->Ô}{sp:Ô->Sp}{x:Ç}(hn:Śj=À n)(E:n<=ã)(J:ĉm=[])(hr:yf k Ŀd)(hY:∀(w:æ)(h:Heap),Q w h->(Ńb).In h)(F:∀(w:æ)(j:Ç->É Value)(C:Ë)(h:Heap),(Ńb).In h->ğa Ę j->j d.name=À ś->
   ∃fd:Ń,(∀(s:Î)(u:Value),Ġb s fd {[u],[]} [(x,u)])/\∀Ì:Heap,(Ńb).In Ì->ŀd Ę j->xP ļ w Ńb j Ì xK k C fd [x] (sp Ńb))
  (I:∀(K:Ô)(H:Hp)(a:Ë)(ns:Á Æ),Ŝ<=n->(∀m∈ns,vC m<=1048576)->ya K H a æb->sp K ϥ H àm λ_ _ _=>ÿ) :
  W.WalkO q i XP Q Òi d [] Ïl:=by
 intro w s0 s1 j mb A Y C o pm cd doc dV kV ho hd hcd P G hg N O as p B hrd L hlo;let e1:dV=.none:=Dflts.none P J;let e2:kV=.none:=Dflts.noKw P;subst e1 e2;let{a,vs,ns,rfl,rfl,t,e,c}:=Att.script_of hn p L;let R:=hY w _ Y;let{fd,hb,hF}:=F w j C _ R A.T.g G;let y:=z93 R A.T.g A.T.b A.T.builtins A.T.nolimit hg t e (ĉ c E) hr hF hb (λH _ S=>I _ H a ns c (z96 B) S) (λ_ _ _ z=>z);show enter_call (ßd y λr s' hq=>?_);let{rfl,X,Z,U}:=hq;show{.inl {.bool Ã,.bool Ã,[],rfl,λ_=>rfl,.bool Ã,Att.post_true l _,λ_=>?_},X,Z,U};show{êf,λ_ hm=>nomatch hm}
#print L3
namespace L3
open Ķ ő Ň L2
def z4m{ă:ï}{w:æ}{A:ø}{E:Value->Î->È}{s:Î}{a:Ë}{o:Obj}{xs:Ù Value}{k:Â}{ī:Ç}{Q:É Value->Î->È}(r:ö a=À o)(p:Áb=.type Ģ)(f:ϩ=.seq xs k)(q:ŕe=Å)(j:ęo ďa ī=pure Å)(i:(["__module__",ıi,"__qualname__","__doc__","__annotations__"]:Á Ç).contains ī=Ä)(v:āa=Å)(h:∀h' tk,(∀b ob,ö b=À ob->Ċ b=À ob)->Q Å { s with ç:=h',đ:=tk })(hsz:name.length+100<=ã) :Ø é A (getAttr? (.ref a) ī) Q E s:=by
 let{c,x,z,t}:=o;simp only at p f q;subst p f q;let{y,g,d,tk,u}:=s;let n:∀m,({y,g,d,m,u}:Î).TypeIs Ō Ģ:=λ_=>{_,r,rfl}
 let H:=sub_AttributeError;let C:=PySem.F.slot_list_getattribute.lookup;let B:=PySem.F.slot_list_getattribute.bind Ō;let J:=am_list_getattr_none;unfold getAttr? getAttrBy? getAttrBy
 repeat (any_goals (first|assumption|show n _|((with_reducible exact Ø _ _ (įb (Value.builtin "list.__getattribute__") _ _) _ _ _);show ņc PySem.F.slot_list_getattribute (n _) am_entry_list_getattribute (F.args_list_getattribute_2 _ _) (meets_getattribute_miss_list a xs k t ī _ j i hsz) ⟨r,v,λh' m e l=>?_⟩)|wp_step))
 let{I,K,G}:=l.there;exact Ø _ _ (Ñm _ _ _ _ _ _ _) _ _ _;unfold Ñm
 repeat (any_goals (first|assumption|wp_step))
 show h _ _ l.keeps
def Mb:plainId Îm=Ã:=by rw[ŋp]
def d8:Âg łg Îm=À Builtin.«dict.update.loop»:=entryFor_of_fast Ϙa
def _root_.PySem.Heap.DictOf.DW{ă:ï}{w:æ}{h h':Heap}{a:Ë}{kvs:Á Ňa}(b:Ģe ïa a kvs)(k:∀o,ę a=À o->Ċ a=À o):ϊf ïa a kvs:=
 let ⟨o',es,ep,ho,r⟩:=b;{o',es,ep,k _ ho,r}
def x27(kvs:Á Ňa)(k:zW)(v:Value):(Ęc kvs k v).length<=ň+1:=by
 unfold Ęc
 split;rw[å];rw[źp]
def FN(h:Heap)(v:Value)(k:zW)(x:Value):È:=∃b key,v=.ref b/\tL k key=Ã/\Īb h b #[key,x]
theorem rN{ă:ï}{w:æ}{A:ø}{R:ŕd->Î->È}{d it l:Ë}{its:Á Value}(hA:āa=Å)(I:d≠l)(y:d≠it)(K:l≠it) :∀(kvs:Á Ňa) (i:Â) (acc:Á Ňa) (s:Î),Ĉm it l i->ϟh l ϝ->i+ň=Ϣa->(∀j kv,kvs[j]?=À kv->∃v,its[i+j]?=À v/\FN á v kv.1 kv.2)->
   s.heap.DictOf ïa d acc->ĥo+ň<=ã->(∀h' tk,ϊf ïa d (ϔo (λa kv=>Ęc a kv.1 kv.2) acc)->(∀b o,b≠d->b≠it->ö b=À o->Ċ b=À o)->R Ĵp { s with ç:=h',đ:=tk })->
   Ø é Ãb (Builtin.«dict.update.loop» {[.ref d,.ref it,ϋ i,.none],[]}) (λfin s'=>match fin with|.done f=>R (.ok f) s'|.again c'=>c'.quiet=Ã/\ğb é A c' R s') (λe s'=>R (.error e) s') s
 | [],i,acc,s,st,hl,hn,hp,hd,hz,h=>by unfold Builtin.«dict.update.loop»;refine Ó (ϥg (by show hA) st hl Ôl λh' eb=>?_);exact Ø _ _ (Builtin.Dict.addKeywords d [] >>= _) _ _ _;show Ó Ϝi;show h h' Đ (hd.DW λo e=>eb d o y e) (λb o _ hb e=>eb b o hb e)|kv::kvs,i,acc,s,st,hl,hn,hp,hd,hz,h=>by
  let{v,hv,b,key,rfl,hk,ht}:=hp 0 kv rfl;unfold Builtin.«dict.update.loop»;refine Ó (ϝg st hl (x:=.ref b) Ăh λh1 Z sb=>?_);let m:∀c o,c≠it->ö c=À o->Ĕj c=À o:=λc o N e=>(sb.2 c N).trans e
  let p:∀{c:Ë}{q:Ù Value},Īb á c q->c≠it:=λ{c q} t e=>by subst e;let{o,e1,O,_}:=t;let{o',e2,L,_}:=st;rw[e1]at e2;cases e2;rw[O]at L;show Ý (Ên L) Ò
  let F:∀{c:Ë}{q:Ù Value},Īb á c q->c≠d:=λ{c q} t e=>by subst e;let{o,e1,O,_}:=t;let{o',es,ep,e2,L,_}:=hd;rw[e1]at e2;cases e2;let c3:=L.1;rw[O]at c3;show Ý (Ên c3) Ò
  let{o,ho,N,n,C}:=ht;let E:=m b o (p {o,ho,N,n,C}) ho;let P:h1.DictOf ïa d acc:=hd.DW λo e=>m d o y e
  show Ó (Ţa (Ó (wpAny_tryCatch ?_)));unfold Builtin.Dict.pairItems;show Ó (Þd (T := ſ) {o,E,N} ?_);rw[Ð ñj];show Ó (Ċb E C ña);show Ţa (wpAny_dictSet_pairs (knd:=xR ă w) (k:=kv.1) hk P (λh2 Q J=>?_) Ê);show ò {Ϛd Mb _,Õc d8 ?_};rw[Ád Mb _];let g:∀c o,c≠d->c≠it->ö c=À o->h2.get? c=À o:=λc o u B e=>(J.2 c u).trans (m c o B e)
  let H:∀{c:Ë}{q:Ù Value},Īb á c q->Īb h2 c q:=λ{c q} t=>by let a1:=F t;let a2:=p t;let{o,e1,r}:=t;show{o,g c o a1 a2 e1,r}
  show rN (its:=its) hA I y K kvs î (Ęc acc kv.1 kv.2) _ ?_ ?_ (by rw[Ĉ]at hn;omega) (λj S e=>?_) Q ?_ λh' tk X kp=>?_;show Z.at λo e=>(J.2 it (λz=>y Ŝb)).trans e;let{o,e,r}:=hl;show{o,g l o (λz=>I Ŝb) K e,r};let{v',U,b',G,rfl,Y,W}:=hp Ϫ S Ła;show{_,by rw[show i+1+j=i+Ϫ by omega];show U,b',G,rfl,Y,H W};let:=x27 acc kv.1 kv.2;rw[Ĉ]at hz;omega;show h h' tk X λc o u B e=>kp c o u B (g c o u B e)
def z2h{ă:ï}{w:æ}{A:ø}{E:Value->Î->È}{s:Î}{l:Ë}{o:Obj}{its:Á Value}{n:Â}{kvs:Á Ňa}{Q:Value->Î->È}(O:āa=Å)(C:ö l=À o)(x:Áb=.type Ģ)(J:ŕe=Å)(d:ϩ=.seq ϝ n)(R:ň=Ϣa)(S:∀(j:Â)(g:zW×Value),kvs[j]?=À g->∃v,its[j]?=À v/\FN á v g.1 g.2)(hz:ň<=ã)(h:∀h' tk,ϊf ïa Û (ϔo (λa g=>Ęc a g.1 g.2) [])->(∀b o,ö b=À o->Ċ b=À o)->Q Ēa { s with ç:=h',đ:=tk }) :Ø é A (įb öc Ùj) Q E s:=by
 show callType_codes (Q₁:=λu N=>u=.ref Û/\N={ s with ç:=Ía { cls:=.type Ãa,Ć:=.dict #[] } }) F.kt_called_dict (F.kt_typeCall_dict_1 _) F.entry_dict_init (kt_code_dict_new _ {rfl,rfl}) ?_;rintro u N ⟨rfl,rfl⟩;let f:(Ħk).DictOf ïa Û []:=Ÿm á;show{Àg,F.args_dict_init_2 _ _,?_};unfold Builtin.«dict.__init__»;show Ó ?_;unfold Builtin.Dict.selfAndRest;show Ó (wpAny_notOrdered_dict Àg ?_);exact Ø _ _ (pure (Û,[ĕ l])) _ _ _;show ò ?_;exact Ø _ _ (úl "dict.__init__" Û řb [] .none) _ _ _;unfold úl;let t:=ġ C;let i:(Ħk).get? l=À o:=ė _ C;show Ó (Þd (T := Ģ) {o,i,x} ?_);rw[Ð ñj];refine Ó (z4m (o:=o) i x d J (am_miss_of_fast Ϙa) Ò ği (λp H m=>?_) Ò);rw[Ð ñj];let q:p.DictOf ïa Û []:=f.DW λo e=>m _ _ e
 let y:p.get? l=À o:=m _ _ i;let B:p.IsList l ϝ:={o,y,x,n,d}
 let c:Û<p.objs.size:=by let{K,_,_,e,_}:=q;show ġ e
 exact Ø _ _ (pure () >>= _) _ _ _;show Ó ϛi;show Éd (s:={ s with ç:=p,đ:=H }) B ?_;show ò {Ϛd Mb _,Õc d8 ?_};rw[Ád Mb _];let G:∀b k,ö b=À k->(p.push { cls:=.type őh,Ć:=.fields #[.ref l,.int 0 0] }).get? b=À k:=λb k e=>ė _ (m b k ġd)
 refine rN (l:=l) (its:=its) (A:=Ãb) ği (xS (ņa t)) (xS ĵj) (xS (Ϗ (Įf t c))) kvs 0 [] _ {_,ű _ rfl,rfl,rfl} {o,G l o C,x,n,d} (by rw[ĺ];show R) (λj g e=>?_) (q.push _) ϸl λh' tk I U=>?_;let{v,W,b,z,rfl,P,K,e1,r}:=S j g e;show{_,by rw[ĺ];show W,b,z,rfl,P,K,G b K e1,r};show{rfl,h h' tk I λb k e=>?_};let L:=ġ e;show U b k (xS (Ϗ L)) (xS (Ϗ (Įf L c))) (G b k e)
section
variable{X:Cx}
theorem iq{k:Á ô}{σ:St}{H:Hp}{s:Î}(I:Inv X k σ H s):∀{kvs:Á ϲ} {vs:Á V} {its:Á Value},zl vs its->ň=č->(∀(j:Â)(kv:zW×V),kvs[j]?=À kv->∃b,vs[j]?=À (όa b)/\xJ X.K H b źh)->
  ∃ws:Á Ňa,KV kvs ws/\∀(j:Â)(kw:zW×Value),ws[j]?=À kw->∃v,its[j]?=À v/\FN á v kw.1 kw.2
 | [],_,_,_,_,_=>{[],.nil,λj kw e=>by cases e}|kv::kvs,[],_,_,h,_=>by cases h|kv::kvs,_::vs,_::its,.cons r t,h,hp=>by
  let{ws,rk,f}:=iq I t üa λj c e=>by let{b,e1,q}:=hp Ϫ c Ła;show{b,by simpa using e1,q}
  let{b,e1,g}:=hp 0 kv rfl;cases e1;let{n,i,l,_}:=Øa g;let{d,x,rfl,a,m}:=Rb i;show{(kv.1,x)::ws,.cons {rfl,m} rk,λj kw e=>?_};cases j with
  |ů=>cases e;show{_,rfl,b,d,r,ZJ (P:=õ) (w:=X.w) a,l}|Ż j=>let{v,e2,q}:=f j kw Ła;show{v,by simpa using e2,q}
def y7n(K:Ô):Á V->Hp->VK->È:=λc H Q=>∃a vs kvs,c=ϥ/\ya K H a vs/\ň=č/\(∀(j:Â)(kv:zW×V),kvs[j]?=À kv->∃b,vs[j]?=À (.ref b)/\xJ K H b źh)/\∀p,H p=Å->Q Ŭ (Ψ (.dK (YL [] kvs)))
def z2g(c:Ů=Ã):wu X öc (y7n X.K):=by
 intro G s σ H J L Q I r h;let{a,F,b,rfl,B,k,v,q}:=h;rw[Îq];let{f,g,{o,n,C,z,i,d},p}:=ϗ B;let{w,rk,l}:=iq I g k v;have e:ěe=ĭa:=by rw[<-rk.length,k,Ña]
 refine z2h (óa c) C z i d e l (by rw[e,<-Ña];show p) λN y E A=>?_
 let j:(Ħp).length<=ã:=by let t:=fU b [];rw[Őc]at t;omega
 let x:ĺo=Ä:=by let:=I.big;rw[Óf];show xS Ķo
 show{.ref Û,_,Ża (a:=Û) (o:=.dK Ħp) (t':=y) A Ġ (EH j x (rk.merge .nil) E),rfl,q _ ϓc}
#print a
def VH:Á D->É (Á Ĺ×Á D)
 | []=>À ([],[])|.tup [k,v]::r=>(uU k).bind λk=>(VH r).bind λp=>À (k::p.1,v::p.2)|_=>Å
def wg{α:Type}:Á Ĺ->Á α->Á Ĺ->Á α->Á Ĺ×Á α
 |ks,ds,k::r,v::q=>wg Ēe (wA ks ds k v) r q|ks,ds,_,_=>(ks,ds)
def W_:Á D->É D
 | [.lst xs]=>(VH xs).bind λp=>À (.dic êm.1 êm.2)|_=>Å
theorem m5:∀{ks:Á zW}{us:Á V}{as:Á zW}{vs:Á V},ŀ=áa->Ůi=č->YL ĉo ñe=ŋc.1.zip ŋc.2/\ŋc.1.length=ŋc.2.length
 | [],[],as,vs,_,h=>{rfl,h}|k::ks,u::us,as,vs,h1,h2=>by let a:=m5 (ks:=ks) (us:=us) (as:=w8 as k) (vs:=wA as vs k u) Ûf (VX h2);show{?_,a.2};exact YL (tO ĉo k u) ñe=_;rw[S7 h2];show a.1
theorem m4{K:Ô}{G:Hp}:∀{ks:Á zW}{es:Á D}{us:Á V}{as:Á zW}{ds:Á D}{vs:Á V},ë K G es us->ë K G ds vs->ŀ=áa->Ůi=č->ë K G Ņh.2 ŋc.2/\Ņh.1=ŋc.1
 | [],es,us,as,ds,vs,r1,r2,h1,h2=>by
  let e1:wg as ds [] es=(as,ds):=by unfold wg;rfl
  let e2:wg as vs [] us=(as,vs):=by unfold wg;rfl
  rw[e1,e2];show{r2,rfl}
 |k::ks,es,[],as,ds,vs,r1,r2,h1,h2=>by cases h1|k::ks,[],u::us,as,ds,vs,r1,r2,h1,h2=>by cases(show _=[]from r1)|k::ks,e::es,_::_,as,ds,vs,r1,r2,h1,h2=>by let{v,r,a,c,b}:=r1;cases a;show m4 (ks:=ks) (es:=es) (as:=w8 as k) b (r2.put c) Ûf (VX h2)
theorem l_{α:Type}:∀{ks:Á zW}{es:Á α}{as:Á zW}{ds:Á α},Ůi=þ->Ņh.2.length<=þ+Ϡo
 | [],es,as,ds,_=>by
  let e:wg as ds [] es=(as,ds):=by unfold wg;rfl
  rw[e];show Ϝ _ _
 |_::_,[],as,ds,_=>by
  let e:∀k ks,wg as ds (k::ks) ([]:Á α)=(as,ds):=λ_ _=>by unfold wg;rfl
  rw[e];show Ϝ _ _
 |k::ks,e::es,as,ds,h=>by let a:=l_ (ks:=ks) (es:=es) (as:=w8 as k) (ds:=wA as ds k e) (VX h);let:=KS (ks:=as) (vs:=ds) (k:=k) (v:=e) h;exact(wg (w8 as k) (wA as ds k e) ks es).2.length<=_;rw[Ĉ];omega
theorem fG{K:Ô}{G:Hp}:∀{xs:Á D}{vs:Á V}{ks:Á zW}{ds:Á D},VH xs=À (ks,ds)->ë K G xs vs->∃us,ë K G ds us/\ŀ=áa/\ŀ=č/\∀(j:Â)(kv:zW×V),ñe[j]?=À kv->∃b,vs[j]?=À (όa b)/\xJ K G b źh
 | [],_,_,_,h,r=>by cases h;rw[Ϫp];show{[],rfl,rfl,rfl,λj kv e=>by cases e}|x::xs,_,ks,ds,h,r=>by
  let{v,E,rfl,u,z}:=r;unfold VH at h
  rw[Ĝq];rename_i k y B e;cases e;let{o,f,h}:=zG h;obtain⟨⟨l,m⟩,i,h⟩:=zG h;cases h;let{us,t,w,p,s}:=fG i z;let{b,A,rfl,q,{C,_,rfl,a,{d,_,rfl,c,n}},_}:=u;cases(show _=[]from n);refine⟨d::us,{d,us,rfl,c,t},by rw[Ĉ,Ĉ,w],by rw[Ĉ,Ĉ,p],λj kv e=>?_⟩;cases j with
  |ů=>cases e;show{b,rfl,?_};rw[<-YH f a];show q|Ż j=>let{g,e1,e2}:=s j kv Ła;show{g,by simpa using e1,e2}
  cases h
def Ps{X:Cx}{e:Õ}{fs:FA}{p pos:Pos}(f:Ů=Ã)(C:Gl X Ãa)(J:ð Ãa=Å)(hv:ž Ãa=À öc)(R:SA X [e] fs)(y:Í ÿa q12):SF X ϝl (eL W_ fs):=by
 let{t,P,k}:=R.h;refine{{_,(Xk (z2g f) C J hv {P} Ò Ò (by rw[Ų,y];rfl)).h,λ{S U G H τ σ d Q} E c q=>?_}};let{ds,A,c}:=zG c;show k E A λvs T B g I=>?_
 unfold W_ at c
 split at c;rename_i W;obtain⟨⟨ks,es⟩,z,c⟩:=zG c;cases c;let{v,rfl,a,o,rfl,L,n,l}:=qx I;let{us,u,i,r,N}:=fG z n;let{w,O}:=m5 (ks:=ks) (us:=us) (as:=[]) (vs:=[]) i rfl;let{K,s}:=m4 (ks:=ks) (as:=[]) (ds:=[]) (vs:=[]) u rfl i rfl;refine{a,o,Œd us,rfl,uI g.gh L,by rw[äc,i,łb,<-i,r],λj F e=>?_,λp m=>?_};let{b,e1,e2}:=N j F e;show{b,e1,um g.gh e2};show q p _ _ (g.trans (ĵa g.gh m)) (g.h.free m) (Ϟo m) {Ŝm.2,?_,?_,K,?_};exact ze B p (.dK (YL [] ñe)) p=À (.dK (ņh.1.zip Ŝm.2));rw[yh,s];show Ŧ (λx=>À (HO.dK x)) w;exact ņh.1.length=_;rw[s];show O;let:=l_ (ks:=ks) (es:=es) (as:=[]) (ds:=[]) rfl;have e1:Ϡo=ĉc:=by rw[<-u.length,<-i,r]
 rw[ÿc]at e1;exact ņh.2.length<=ã;simp only[Őc,ĺ]at this;omega;cases c
open Ŗa Builtin Ïo
section
variable{X:Cx}{e o a b c:Õ}{f fo:FE}{x:Ç}{xp p pos ύ ş:Pos}
nonrec def Vm:Á D->É (Á Ç)
 | []=>À []|.str z::r=>(Vm r).bind λa=>À (z::a)|_=>Å
def EU:D->D->É D
 |.str sep,.lst xs=>(Vm xs).bind λa=>if(Ğc (·.length)).sum+ăa*Ūc<=yV then À (.str (glued sep a))else Å|_,_=>Å
theorem oW{K:Ô}{G:Hp}:∀{xs:Á D}{vs:Á V}{ts:Á Ç},Vm xs=À ts->ë K G xs vs->vs=Ćc Ĭg
 | [],_,_,h,r=>by cases h;show r|x::xs,_,ts,h,r=>by
  let{v,g,rfl,b,d}:=r;unfold Vm at h
  rw[Ĝq];rename_i z f e;rw[Ēq];rw[ľ,(show v=_/\_ from b).1,oW c d];cases h
def x0d(C:SE X o fo)(K:SB X e f)(b:Í (Ïb o "join" Ú Ĕi=ě o Ú) q12)(c:Í Éb q12)(k:Í ÿa q12) :SE X (υb (.Attribute o "join" ύ)) (e2 EU fo f):=by
 let{O,I,z}:=C.h;let{te,n,r}:=(uG K uY k).h;refine{{_,(Ta PySem.F.plainAttrs_str PySem.F.slot_str_join PySem.F.type_str_join y0c {I} {n} b c (by rw[Ų,k];rfl) Ñd).h,λ{S W G H τ σ d Q} E a q=>?_}};let{x,t,a}:=zG a;let{y,L,a}:=zG a;show z E t λv U P m s=>?_
 cases x with
 |str sep=>
  let{rfl,Y}:=s;refine{rfl,r (Ča m) (ds:=[y]) (by unfold zB;rw[L];rfl) λT Z H2 A u=>?_};let{w,rfl,i}:=qx u;cases y with
  |lst xs=>
   let{g,j,a}:=zG a;let{J,R,rfl,B,p,_}:=i;let N:=oW j p;subst N;by_cases cc:(g.map (·.length)).sum+Ña*Ūc<=yV;rw[Ð cc]at a;cases a;let l:(g.map (·.length)).sum+Ña*Ūc<=ã:=by rw[ŕ];show cc
   show{sep,J,g,rfl,rfl,B,l,q _ _ _ (ēj A) {rfl,ĉ (dm sep g) l}};rw[Ñ cc]at a;cases a
  |_=>cases a
 |_=>cases a
def LO:ž Ãa=À öc:=by rw[ŋp]
def jW(i:Â)(k v:FE):FS:=λσ=>(v σ).bind λy=>match σ[i]? with
 |À Ϣd=>(ĺg).bind λx=>match x with
  |.int j=>(Ği).bind λn=>À (ψb ϋi)|_=>Å
 |_=>Å
theorem Ég{K:Ô}{G:Hp}{d:D}{v:V}(hv:zY K G d v):∀{ds:Á D}{vs:Á V}(n:Â),ë K G ds vs->ë K G (Ļe n d) (vs.set n v)
 | [],_,_,r=>by rw[Ϫp];rfl|d'::ds,_,0,r=>by let{u,b,rfl,c,a}:=r;show{v,b,rfl,hv,a}
 |d'::ds,_,n+1,r=>by let{u,b,rfl,c,a}:=r;show{u,_,rfl,c,Ég hv n a}
def O9(N:QE X ŷ ýb)(hk:SE X k fk)(hv:SE X v fv)(A:Í ŧf q12)(m:Í (Ϝh Ϟe v ϔb Ú=pure Ä) q12)(o:Í (ϝh Ϟe v Ú=pure Å) q12)(s:Í ((åe Ϟe Ú).map (·.2)=[Ϲb Ĥl Ú]) q12):SS X Ëm (jW i fk fv):=by
 let{tk,O,F}:=ϰc;let{tv,S,B}:=ϯc;show{{_,lO S (mI N {O} nX A).h m o s,λ{W Z G H τ σ T E} K a q=>?_}};let{y,Q,a}:=zG a;show B K Q λw Y U L C=>?_
 rw[Ťp];rename_i ds d;let{p,I,a}:=zG a;cases p with
 |int j=>let{n,t,a}:=zG a;cases a;let c:=Ϛ L;let{P,e,g,z,r,R,f,l}:=c.ow _ _ d;show{_,e,F c I λu G2 H2 b J=>?_};cases(show u=_ from J);refine{P,r,j,n,rfl,rfl,b.h _ _ R,by rw[ĭa];show t,?_};show q _ _ _ ((c.go b).UE d e {_,yh,Ég (īg b.g) n (f.mono b.g),by rw[Ϲ];show l})
 |_=>cases a
 cases a
nonrec def Xm(j i:Â):FS:=λσ=>match σ[i]? with
 |À Ϣd=>(ds.getLast?).bind λd=>if j=i then Å else À (Λe (Ν (À (Ã,.lst ϱn))))|_=>Å
theorem đn{K:Ô}{G:Hp}{ds:Á D}{vs:Á V}(r:ë K G ds vs):ë K G ϱn vs.dropLast:=by rw[įl,įl,Ϟ];show r.take _
#print a
#print L3
namespace L2
open Ķ ő Ň
def F8(K:Ô)(a:Ë):It:=
  ⟨λi H=>∃xs x,ya K H a xs/\xs[i]?=À x,
   λi H v b=>∃p,H p=Å/\v=.ref p/\∀xs,ya K H a xs->∃x,xs[i]?=À x/\b=ze H p Ūf,
   λi H=>∃xs,ya K H a xs/\ì<=i⟩
def x4i{P:ï}{w:æ}{K:Ô}{p:Á Õ}{Z:Â}{pos:Pos}(a e it:Ë)(t:e≠it) :Zz P w K (.Tuple p Z pos) õj [e,it] e (λi h=>(∃old,IsEnum h e it (i:Æ) old)/\Ôi it a i) where
 mem:=by simp
 obj:=λi h st c b=>by obtain⟨⟨old,g⟩,⟨o2,j,_,d2⟩⟩:=st;simp only[ťa,Ëa,ϫa]at b;rcases b with rfl|rfl;show{_,g,λv q=>nomatch q};show{_,j,λv q=>by rw[d2]at q;cases q}
 Śa:=λi h h' st k=>by obtain⟨⟨old,g⟩,j⟩:=st;show{{old,k e ó _ g},j.at λo x=>k it ó o x}
 ăb:=by
  rw[ŧp];let{xs,x,B,ex}:=O;rw[ùq];let{A,hxu,R}:=L.get ex;let f:Ęo[i]?=À A:=by rw[Ód];show hxu
  let l:e<Û:=ġ g;let lt2:it<Û:=by let{o,z,_}:=j;show ġ z
  show wpAny_pyNext_enum_item g j F f t λN S u Y hz1 hk1=>?_
  show{_,rfl,wpAny_letOwnedTupleGo_enum (s:={ s with ç:=N,đ:=Đ+1 }) S λy he2 d=>?_}
  replace d:ũa e N y:=d
  let hTs:ö Û=Å:=by
   cases q:ö Û with
   |Å=>rfl|À o=>show Ý ăg Ĉa
  let r:H Û=Å:=Ĕb Ġ;let tup:ēg Û=À { cls:=.type ſ,Ć:=.seq #[.int i Đ,A] }:=ģe _ _ (ņa l) Y
  let Z:∀c o,c ∉ [e,it]->ö c=À o->ēg c=À o:=λc o b z=>by simp only[ťa,Ëa,ϫa,Ěg]at b;show ģe _ _ b.1 (hk1 c o b.1 b.2 z)
  let new:xT õ X.w (ze H Û Ūf) y Û Ūf:={íl,[.int i Đ,A],.cons {_,rfl} (.cons R .nil),{_,tup,rfl,_,rfl}};show{.ref Û,ze H Û Ūf,I.Ak (tk:=Đ+1) C Z hTs r new,rfl,{Û,r,rfl,λxs' f=>?_},{{A,?_},u.at λo z=>ģe _ _ t.symm z},λc b=>?_};rw[I.Op f B];show{x,ex,rfl};rw[show((i+1:Â):Æ)=(i:Æ)+1 from rfl];show he2;rw[yH];show(C c b).1;intro q
  let m:c<Û:=by simp only[ťa,Ëa,ϫa]at b;rcases b with rfl|rfl;show l;show lt2
  rw[q]at m;show Ý m Ĉa
 done:=by
  rw[ŧp];let{xs,B,hend}:=O;rw[ùq]
  let f:Ęo[i]?=Å:=by rw[Ód];show ŀa (by let:=Àa;omega)
  refine wpAny_pyNext_enum_end (by show óa b) g j F f λN T=>?_
  show{rfl,I.but (tk:=Đ) C λc ob n eb=>?_};simp only[ťa,Ëa,ϫa,Ěg]at n;show T c ob n.2 eb
 Âc:=λ_ _ _ _ _ st h=>by obtain⟨⟨old,g⟩,_⟩:=st;show Ćm g h
section
variable{X:Cx}
def z7a(K:Ô)(c:TA):TI:=λσ H R=>c σ H λd b=>∃a xs,d=ϥ/\ya K b a xs/\R õj b
def y6f{a:Õ}{m:TA}{p pos:Pos}{b:Á Õ}{F:Â}{y:Pos}(A:Gl X ϊb)(C:ð ϊb=Å)(N:PA X [a] m)(t:Í šk q12) :PI X (.Tuple b F y) ϛl (z7a X.K m):=by
 intro j s σ H R I h;show Call_ (TH I A C boot_enumerate (ϣe (zw (N pos j s σ H _ I h) λL d ⟨O,i,f,B,J⟩=>?_) (by rw[t];rfl) rfl));let{l,P,rfl,E,q}:=J;let{u,rfl,w}:=uq B;cases(show u=ĕ l from w);let{L,_,z,_}:=f.list E;show call_enumerate_list z.isList λr g k x G=>?_
 let v:Inv X j σ i { d with ç:=r }:=f.kept (t':=d.toks) G;show Ćm (s:={ d with ç:=r }) g ?_;generalize hn:ńm=n at g k x;refine{n+1,[n+1,n],_,_,i,rfl,v,x4i l ģ n (xS Ê),{{_,g},k},λc o=>?_,q}
 let e:ńm<=c:=by rw[hn];simp only[ťa,Ëa,ϫa]at o;rcases o with rfl|rfl;show Ϝ _ _;show Ŕ _
 show f.WK e (f.zh.fresh e)
#print a
#print L2
namespace L3
open Ķ ő Ň L2
nonrec def jU(xs:Á D):Á D:=íc (λ(i:Â) x=>Ĩb ſg) (Ûa ì) xs
def pV(a:FE):FA:=λσ=>(Äa).bind λd=>match d with
 |.lst xs=>À čg|_=>Å
def YO(xs:Á D):(čg).length=ì:=by simp[jU]
theorem TV(xs:Á D)(i:Â):čg[i]?=(xs[i]?).map λx=>Ĩb ſg:=by unfold jU;rw[Įl];by_cases h:i<ì;rw[Ϟd h,Ē h];rfl;rw[ŀa üa,ŀa Ê];rfl
section
variable{K:Ô}{G H:Hp}
def z4b(f:ya K G a vs)(g:ë K G xs vs):gY K õj G čg where
 go:=λi e H c b d=>by rw[YO]at d;let{v,e1,_}:=ņg (Ē d);show{vs,v,uI Ĭj f,e1}
 tD:=λi e H x q c b d y=>by let{p,h,rfl,k}:=y;let{v,e1,rfl}:=k vs (uI Ĭj f);let{j,m,l}:=g.at e1;refine{ze e p Ŧo,.tup [.int (i:Æ),j],Ĕc b h,by rw[TV,m];rfl,?_};let o:yE G (ze e p Ŧo):=Ěb (uk (b.free h) _);show{p,ϒk,rfl,ϧc yh,{_,_,rfl,rfl,{v,_,rfl,Ϝc o,rfl}},ĩb (n:=2) Ò}
 Ϣ:=λi e H c b d=>by rw[YO]at d;show{vs,uI Ĭj f,by rw[Ña];show d}
#print a
def O2(j:Gl X ϊb)(w:ð ϊb=Å)(o:SE X a fa)(d:Í ÿe q12):SI X Ém ϛl (pV fa):=by
 let{t,m,k}:=(úo).h;show{{_,y6f j w m (tm d),λ{C F G H τ σ ds R} K b q=>?_}};let{x,y,b}:=zG b;cases x<;>first|(cases b;done)|skip
 cases b;rename_i s;refine k K (ds:=[.lst s]) (by unfold zB;rw[y];rfl) λB E A e n=>?_
 let{v,r,rfl,l,z}:=n;cases(show r=[]from z);let{i,c,rfl,f,g,u}:=l;show{i,c,rfl,uI ϱc f,q _ _ _ e (by rw[YO];show u) (z4b f g)}
#print L3
namespace L2
open Ķ ő Ŗa Ň
nonrec def Ϭc(a:Æ):Á Æ->Á Æ
 | []=>[a]|b::r=>if a<=b then a::b::r else b::Ϭc a r
def Ϸa:Á Æ->Á Æ
 | []=>[]|a::r=>Ϭc a (Ϸa r)
theorem HC(a:Æ):∀l:Á Æ,(Åp).Perm (a::l)
 | []=>İc _|b::r=>by
  unfold Ϭc
  split;show İc _;show((HC a r).cons b).trans (În a b r)
theorem èc:∀l:Á Æ,(Ϸa l).Perm l
 | []=>İc _|a::r=>(HC a _).trans ((èc r).cons a)
theorem eD(a:Æ):∀{l:Á Æ},l.Pairwise (·<=·)->(Åp).Pairwise (·<=·)
 | [],_=>by simp[Ϭc]|b::r,h=>by
  let{e,f}:=ϐd h;unfold Ϭc
  split;rename_i c
  show Ñh {λx d=>by rcases ħ d with rfl|d;show c;show ıf c (e x d),h};rename_i c;show Ñh {λx d=>?_,eD a f};rcases ħ ((HC a r).mem_iff.mp d)with rfl|d;omega;show e x d
theorem ße:∀l:Á Æ,(Ϸa l).Pairwise (·<=·)
 | []=>êf|a::r=>eD a (ße r)
theorem B7:∀{a b:Á Æ},a.Perm b->Ħo (·<=·)->ļi (·<=·)->a=b
 | [],b,p,_,_=>(List.nil_perm.mp p).symm|x::a,[],p,_,_=>by cases ąi|x::a,y::b,p,ha,hb=>by
  let{i,h}:=ϐd ha;let{f,g}:=ϐd hb
  let e:x=y:=by let d:x∈y::b:=Ŏn Õa;let c:y∈x::a:=p.mem_iff.mpr Õa;rcases ħ d with rfl|d;rfl;rcases ħ c with e|c;show ĝg;show Int.le_antisymm (i y c) (f x d)
  subst e;rw[B7 (List.perm_cons x |>.mp p) h g]
theorem M5:∀{ns:Á Æ}{its:Á Value},ôb its ns->zl æb its
 | [],_,.nil=>.nil|_::_,_,.cons _ _ r=>.cons {_,rfl} (M5 r)
#print L2
namespace L3
open Ķ ő Ň L2
def E7:ž Ūa=À ϡd:=by rw[ŋp]
nonrec def źa:Á D->É Ϡf
 | []=>À []|.int i::r=>(ĩj).bind λa=>À όj|_=>Å
theorem eN:∀ns:Á Æ,źa Ϥ=À ns
 | []=>rfl|n::ns=>by exact(źa Ϥ).bind _=_;rw[eN ns];rfl
theorem eK:∀{ds:Á D}{ns:Á Æ},źa ds=À ns->ds=Ða Ě
 | [],_,h=>by cases h;rfl|d::ds,ns,h=>by
  unfold źa at h
  rw[Ĝq];rename_i i r e;cases e;let{a,b,h}:=zG h;cases h;rw[eK b];rfl;cases h
theorem mv{K:Ô}{G:Hp}:∀{ns:Á Æ}{vs:Á V},ë K G Ϥ vs->vs=Ða ϻa
 | [],_,r=>r|n::ns,_,r=>by let{v,c,rfl,b,a}:=r;rw[mv a,show v=ϻa n from b];rfl
theorem eG{K:Ô}{G:Hp}:∀ns:Á Æ,ë K G Ϥ æb
 | []=>rfl|n::ns=>{.int n,_,rfl,rfl,eG ns}
nonrec def JZ:D->D->É D
 |.lst x,.lst y=>if Ϥb+ęe<=yV then À åp else Å|_,_=>Å
def z4h{x y d:D}(h:JZ x y=À d):∃xs ys,x=.lst xs/\y=.lst ys/\ì+Ś<=yV/\d=.lst Ŵf:=by
 unfold JZ at h
 rw[ũp];rename_i xs ys;by_cases c:ì+Ś<=yV;rw[ŭp]
section
variable{X:Cx}{a b:Õ}{fa fb:FE}{x:Ç}{pos:Pos}
def x0n(P:SE X a fa)(I:SE X b fb):SF X (.BinOp a .Add b pos) (e2 JZ fa fb):=by
 let{Y,R,B}:=P.h;let{tb,O,J}:=I.h;show{{_,KJ iY R O,λ{T W G H τ σ d Q} E i q=>?_}};let{x,w,i}:=zG i;let{y,N,i}:=zG i;show B E w λv U S k s=>?_
 show J (Ča k) N λu Z H2 f C=>?_
 let{t,n,rfl,rfl,c,rfl}:=z4h i;let{L,r,rfl,F,m,_}:=s;let{o,K,rfl,z,l,_}:=C;let A:(t++n).length<=ã:=by rw[ŕ,è];show c
 let e:=k.trans f;refine{L,o,r,K,rfl,rfl,uI (ϟo f.gh) F,uI f.gh z,by rw[Ϲf,ϥb,ŕ];show c,λp j=>?_};show q p _ _ (ϋc (ĵa ϱc j)) (e.h.free j) (Öi j) {_,yh,(řj f.g).append l,A}
#print a
nonrec def vO(i:Â)(e:FE):FS:=λσ=>match σ[i]? with
 |À ϧl=>(ϣc).bind λy=>match y with
  |.lst ys=>if ì+Ś<=yV then À Öp else Å|_=>Å
 |_=>Å
nonrec def T4:D->D->É D
 |.lst x,.int k=>if 0<=k/\k<=1000000/\Ϥb*Ϡ<=yV then À (.lst (Ņ Ϡ x).flatten)else Å|_,_=>Å
def z4k(h:T4 x y=À d):∃xs k,x=.lst xs/\y=.int k/\(0<=k/\k<=1000000/\ì*Ϡ<=yV)/\d=.lst (ţn).flatten:=by
 unfold T4 at h
 rw[ũp];rename_i xs k;by_cases c:0<=k/\k<=1000000/\ì*Ϡ<=yV;rw[ŭp]
theorem Ôj{K:Ô}{G:Hp}{ds:Á D}{vs:Á V}(r:ë K G ds vs):∀k:Â,ë K G (Ņ k ds).flatten (Ņ k vs).flatten
 |0=>rfl|k+1=>by rw[Čb,ŀc,Čb,ŀc];show žc (Ôj r k)
section
variable{X:Cx}{a b:Õ}{f fa fb:FE}{x:Ç}{pos:Pos}{e:Õ}
def ng(F:SF X a fa)(v:SE X b fb):SF X (.BinOp a .Mult b pos) (e2 T4 fa fb):=by
 let{S,I,s}:=F.h;let{W,B,w}:=v.h;show{{_,KJ y56 I B,λ{L P G H τ σ d Q} E i q=>?_}};let{x,r,i}:=zG i;let{y,A,i}:=zG i;show s E r λp O J l N K o=>?_
 show w (Ča l) A λu T U j t=>?_
 let{R,k,rfl,rfl,c,rfl}:=z4k i;let{n,C,m,_}:=o;cases(show u=.int k from t);let e:=îg j;refine{p,k,n,rfl,rfl,j.h _ _ C,by omega,by omega,by rw[Ϲf,ŕ];show c.2.2,λz f=>?_};show q z _ _ (ϋc (ĵa ϱc f)) (e.h.free f) (Öi f) {_,yh,Ôj (řj j.g) _,?_};rw[ŕ,fT,řn];show c.2.2
#print a
nonrec def jT(τ:zu):Ï:=τ.all λs=>match s with
 |À (Ã,_)=>Ä|_=>Ã
nonrec def JQ:Á D->É (Á Ï)
 | []=>À []|.bl b::r=>(JQ r).bind λa=>À (b::a)|_=>Å
theorem c9:∀{ds:Á D}{bs:Á Ï},JQ ds=À bs->ds=ġg øa
 | [],_,h=>by cases h;rfl|d::ds,bs,h=>by
  unfold JQ at h
  rw[Ĝq];rename_i b r e;rw[Ēq];rw[c9 c];rfl;cases h
theorem mw{K:Ô}{G:Hp}:∀{bs:Á Ï}{vs:Á V},ë K G (ġg øa) vs->vs=ġg V.bl
 | [],_,r=>r|b::bs,_,r=>by let{v,d,rfl,c,a}:=r;rw[mw a,show v=V.bl b from c];rfl
def ES:Á D->É D
 | [.lst xs]=>(JQ xs).bind λa=>À (.bl (a.all id))|_=>Å
def y2i{K:Ô}:Wl K (mK K) ES:=λG H g j d Q s r b q=>by
 match g,b with
 | [.lst xs],b=>let{h,f,b}:=zG (show(JQ xs).bind _=À d from b);cases b;let{v,rfl,a,i,rfl,c,e,l}:=qx r;rw[c9 f]at e;rw[mw e]at c;show{a,h,rfl,c,q _ _ _ Ùa rfl}
#print L3
namespace L2
open Ķ ő Ŗa Ň
nonrec def Åb(ks:Á zW)(k:zW):Ï:=ks.any λa=>decide (a=k)
def tK(a:Á zW)(k:zW):Á zW:=if Åb a k=Ã then a else a++[k]
theorem z14(a:Á zW)(k:zW):(tK a k).length<=ăa+1:=by
 unfold tK
 split;rw[źp]
def fD{k:zW}{v:Value}(h:tL k v=Ã):v.scannable=Ã:=by rcases jP h with⟨i,t,_,rfl⟩|⟨x,t,_,rfl⟩<;>rfl
section
theorem fH(P:ï)(w:æ):∀{ks:Á zW}{its:Á Value},zl Ğf its->∀(j:Â)(k:zW),ks[j]?=À k->∃v,its[j]?=À v/\tL k v=Ã
 | [],_,.nil,j,k,h=>by cases h|k::ks,_,.cons r t,j,k',h=>by
  cases j with
  |ů=>cases h;show{_,rfl,ZJ (P:=P) (w:=w) r}|Ż j=>let{v,e,q}:=fH P w t j k' üa;show{v,by rw[ϵp],q}
#print a
#print L2
namespace L3
open Ķ ő Ň L2
def z22:ž ŏ=À Őf:=by rw[ŋp]
#print L3
namespace L2
open Ķ ő Ŗa Ň
structure wx(t:ŵa):È where
 du:Ţi=#[]
 up:t.place.toList.Pairwise (·<·)
theorem Ct(l:Ϧd (·<·))(j:Â):∀(f lo hi:Â),lo<=hi->hi<=Ęa->hi-lo<=f->(∀(i:Â)(h:i<Ęa),i<lo->xs[i]<j)->(∀(i:Â)(h:i<Ęa),hi<=i->j<=xs[i])->
  Ϫd xs j f lo hi<=Ęa/\(∀(i:Â)(h:i<Ęa),i<Ϫd xs j f lo hi->xs[i]<j)/\(∀(i:Â)(h:i<Ęa),Ϫd xs j f lo hi<=i->j<=xs[i])
 |0,lo,hi,h1,h2,h3,a,b=>by unfold Ϫd;show{by omega,a,λi h c=>b i h Ê}|f+1,lo,hi,h1,h2,h3,a,b=>by
  let d:∀(i k:Â)(hi:i<Ęa)(m:k<Ęa),i<k->xs[i]<xs[k]:=λi k hi m c=>by let:=źd l i k Úf Ęh c;rw[Ŕp]
  unfold Ϫd;by_cases c:lo<hi;rw[Ð c];let g:ϊc/2<Ęa:=by omega
  let e:ĉj ĥj j=xs[ϊc/2]:=by simp[ćd,g]
  exact(if ĉj ĥj j<j then _ else _)<=_/\_;rw[ŕp];rw[e];by_cases q:xs[ϊc/2]<j;rw[Ð q];refine Ct l j f (ϊc/2+1) hi Ê h2 Ê īn b;by_cases y:i=ϊc/2;subst y;show q;show Įf (d i _ h g Ê) q;rw[Ñ q];refine Ct l j f lo ĥj Ê Ê Ê a īn;by_cases y:i=ϊc/2;subst y;omega;let:=d _ i g h Ê;omega;rw[Ñ c];show{by omega,a,λi h z=>b i h Ê}
def Cu(a:Ϧd (·<·))(j:Â):Īa xs j<=Ęa/\(∀(i:Â)(h:i<Ęa),i<Īa xs j->xs[i]<j)/\(∀(i:Â)(h:i<Ęa),Īa xs j<=i->j<=xs[i]):=
 Ct a j Ęa 0 Ęa öb Ġ Ê (λi _ h=>by omega) λi h c=>by omega
def y74(d:Ϧd (·<·))(l:xs[Īa xs j]?≠À j):(SetTable.insertAt xs (Īa xs j) j).toList.Pairwise (·<·):=by
 let{b0,h,f}:=Cu d j;generalize Īa xs j=p at *;rw[SetTable.toList_insertAt];show Žd {ϡo (Ŝk ..),Ñh {λa g=>?_,ϡo (Đm ..)},λa g b e=>?_};let{i,c,rfl}:=ϝd g;rw[ńa,ĳ]at c;rw[èf,ċb];let o:=f (p+i) Ê Ê
 let m:xs[p+i]' Ê≠j:=λz=>by
  cases i with
  |ů=>show l (by rw[ıc Ê];show Ŧ À z)|Ż i=>have n:=f p Ê Ġ;let k:=źd d p (p+î) Ée Ée Ê;simp only[ċb]at k;omega
 omega;let lt:a<j:=by let{i,c,rfl}:=ϝd g;rw[Ýa,ĳ]at c;rw[ĩh,ċb];show h i Ê Ê
 rcases ħ e with rfl|e;show lt;let{i,c,rfl}:=ϝd e;rw[ńa,ĳ]at c;rw[èf,ċb];let:=f (p+i) Ê Ê;omega
def iC(h:wx t)(j:Â):Ŗn Ţi j=Ä:=by rw[h.du];rfl
def x1d(h:wx t)(j:Â):(t.slot j=.empty/\ŷa[Īa ŷa j]?≠À j)\/∃i,t.slot j=.live i:=by unfold SetTable.slot;rw[ŕp];by_cases c:ŷa[Īa ŷa j]?=À j;rw[Ð (by rw[c];show ϗa _)];show .inr {_,rfl};rw[Ñ (by rw[ϖb];show c),iC h,Ñ Ħ];show .inl {rfl,c}
theorem lM(h:wx t):∀(n:Â)(p:SetTable.Probe){j:Â}{d:É Â},p.dummy=Å->ĥh t f hh n p=À (.empty j d)->d=Å/\ŷa[Īa ŷa j]?≠À j
 |0,p,j,d,hp,e=>by unfold ĥh at e;cases e|n+1,p,j,d,hp,e=>by
  let a:(Żo p).dummy=Å:=by
   unfold SetTable.advance
   split;show hp;show hp
  unfold ĥh at e;rcases x1d h p.j with⟨s,b⟩|⟨i,s⟩;rw[s]at e;rw[Æq];cases e;show{hp,b};rw[s]at e;rw[Æq]
  split at e;cases e;show lM h n (Żo p) a e
def ūe(t:ŵa)(n:Â):wx (t.standIn n):={rfl,by exact(Array.range n).toList.Pairwise (·<·);rw[Array.toList_range];show ĉl}
def wx.lay(h:wx t)(es:Ù Ϝa)(f:Æ)(x:Value):wx (Ŗe t es f x).2.1:=by
 unfold Ŗe
 split;rename_i a wd b;rw[ŕp]
 let c:wx (t.put a).1:=by
  unfold SetTable.freeSlot at b
  rw[Ñq];rename_i j d e;let{rfl,g}:=lM h _ _ (show(t.probeStart f).dummy=Å from rfl) e;cases b;unfold SetTable.put;show{?_,?_};exact(if Ŗn Ţi _=Ã then _ else _)=_;rw[iC h,Ñ Ħ];show h.du;show y74 h.up g;cases b
 unfold Òm
 split;show c;show ūe _ _;show ūe _ _
theorem wx.plain(h:wx t)(b:Ï):wx { t with Æa:=b }:={h.du,h.up}
def z8y{f d i:Â}{j h:Ï}{k:Ù Æ}{t':ŵa}{g:Ù Â}(e:Đn f d i j h k=À (t',g)):wx t'/\ŕj=j:=by
 unfold Đn at e;cases c:SetTable.layClean f k with
 |Å=>rw[c]at e;cases e|À owner=>rw[c]at e;cases e;show{{rfl,?_},rfl};exact((List.filterMap _ _).map _).Pairwise _;show Ēm _ (R:=λa b:Â×Â=>a.1<b.1) (λa b z=>z) ?_;show List.Pairwise.filterMap _ (R:=λa b:Â=>a<b) (λa b z x m y l=>?_) ĉl;let{_,_,rfl}:=Ål m;let{_,_,rfl}:=Ål l;show z
def wx.z0p(es:Ù Ϝa)(n:Â)(h:wx t):wx şn.2.1/\şn.2.1.led=ġc:=by
 unfold ħi
 split;rename_i b a e;rw[ŕp]
 split;show z8y e;show{ūe _ _,rfl};show{ūe _ _,rfl}
def z97(t:ŵa)(es:Ù Ϝa)(a:Æ)(x:Value):(Ŗe t es a x).2.1.led=ġc:=by
 unfold Ŗe
 split;rw[ŕp];unfold Òm
 split<;>rfl;rfl
section
variable{ă:ï}{w:æ}{K:Type}[Ňb K]{knd:KeyKind ă w K}{A:ø}{E:Value->Î->È}
def mB{h:Heap}{a:Ë}{o:Obj}{es es2:Ù Ϝa}{ep:Â}{t t2:ŵa}(c:ę a=À o)(b:ϩ=.set es ep t) :(h.update a Æm).get? a=À { o with Ć:=.set es2 (ep+1) t2 }:=by let e:=Ôd Æm c (by rw[Ϗo es2 t2 b];rfl);rw[Ϗo es2 t2 b]at e;show e
def oz{s:Î}{g:Ï->Sem èa}(z:∀(b:Ï)(p:Î)(n:èa->Î->È),n () p->Ø é A (g b) n E p){a:Ë}{o:Obj}{es:Ù Ϝa}{ep:Â}{t:ŵa}(l:ö a=À o)(m:ϩ=.set es ep t){c:Ù Ϝa}{t2:ŵa}(x:šj<Ŏb)(y:t2.fits šj=Ã)(r:wx t2){wd:Ï}{R:É Ï->Î->È}(h:∀(h':Heap)(es':Ù Ϝa) (e:Â) (t':ŵa),ũa a á h'->Ċ a=À { o with Ć:=.set es' e t' }->Ŵm Ðj->t'.fits es'.size=Ã->wx t'->ŕj=t2.led->R Ϟi { s with ç:=h' }) :Ø é A (storeSet a c t2 >>= λ_=>if(!wd&&t2.tooFull)=Ã then g Āh.2.2 >>= λ_=>storeSet a Āh.1 Āh.2.1 >>= λ_=>pure Ϟi else pure Ϟi) R E s:=by
 show Ó (ăm (es':=c) (t':=t2) l m ?_ (ϊd x));let d:=mB (es2:=c) (t2:=t2) l m;let u:=žg á a (Obj.putSet c t2)
 split;let q:=relayAll_perm t2 c Ŵd;let j:=relayAll_fits t2 c Ŵd;let{i,f}:=r.z0p c Ŵd;generalize ħi t2 c Ŵd=L at *;let{es2,k,v}:=L;dsimp only at *;have B:es2.size=šj:=by rw[<-ĳ,q.length_eq,ĳ]
 show Ó (z v _ _ (Ó (ăm (es':=es2) (t':=k) d rfl ña (ϊd Ê))));show h _ es2 _ k (u.trans (žg _ a _)) (mB (o:={ o with Ć:=.set c (ep+1) t2 }) d rfl) q j i f;show ò (h _ c _ t2 u d ώc y r rfl)
def z15{s:Î}{a:Ë}{o:Obj}{es:Ù Ϝa}{ep:Â}{t:ŵa}{k:K}{x:Value}{Q:Ï->Î->È}(z:ŗe k x=Ã)(y:x.scannable=Ã)(F:ö a=À o)(B:ϩ=.set es ep t)(n:ĝj knd ϙb)(P:ϒ+1<Ŏb)(R:ėc ϒ=Ã)(X:wx t)(U:(∃e∈ϙb,ŗe k e.2=Ã)->Q Ä s)(N:(∀e∈ϙb,ŗe k e.2=Ä)->∀(h':Heap)(es':Ù Ϝa) (c:Â) (t':ŵa),ũa a á h'->Ċ a=À { o with Ć:=.set es' c t' }->Ŵm (ϙb++[(knd.hash k,x)])->t'.fits es'.size=Ã->wx t'->ŕj=ġc->Q Ã { s with ç:=h' }) :Ø é A (Íi a x Ąd) Q E s:=by
 unfold Íi setAddHashedIn;show Ţa (Ó (Źd (es:=es) (t:=t) F B R ?_));rw[ŕp];rw[byScan_of y (Þc P) n,Ð rfl];unfold setAddByScan;show Ó (Ó (Ýd (Ó (wpAny_setScan_of z F B R n ?_))));cases hr:List.findIdx? (λe=>ŗe k e.2) ϙb with
 |À j=>dsimp only;let{Y,T,_}:=List.findIdx?_eq_some_iff_getElem.mp hr;show ò (ò (U {ϙb[j],ŷb Y,T}))
 |Å=>
  dsimp only;let O:∀e∈ϙb,ŗe k e.2=Ä:=λe W=>List.findIdx?_eq_none_iff.mp hr e W
  let J:∀(b:Ï){H:Î}{G:èa->Î->È},G () H->Ø é A (match b with|Ã=>rule "set.scan.the-table-gave-way" |Ä=>pure ()) G E H:=λb _ _ q=>by cases b;show ò q;show Ýd q
  let C:=layNew_perm t es Ąd x;let i:=layNew_fits t es Ąd x;let h:=X.lay es Ąd x;let r:=z97 t es Ąd x;generalize Ŗe t es Ąd x=L at *;let{u,d,wd,S}:=L;dsimp only at *;rw[ϭd]at C
  have v:u.size<Ŏb:=by rw[<-ĳ,C.length_eq,è,ĳ];show P
  show Ó (J S ?_)
  split;show Ó ?_;rw[hashByValue_scannable 8 y];show ò ?_
  let m:wx šg/\(šg).led=d.led/\(šg).fits u.size=Ã:=by split;show{h,rfl,i};show{h.plain Ä,rfl,SetTable.fits_plain_off i}
  show oz âm F B v m.2.2 m.1 λh' es' c t' I g p f b l=>?_
  rw[ŕp];show ò (υd (Đj C) ((îg m.2.1).trans r));rw[Ěq];simp only[↓ţi];show oz âm F B v i h λh' es' c t' I g p f b l=>?_
  rw[ŕp];show ò (υd (Đj C) (îg r))
#print a
nonrec def ſa:Value->zW
 |.int i _=>.inl i|.str x _=>.inr x|_=>.inl 0
def HR(h:tL k v=Ã):ſa v=k:=by rcases jP h with⟨i,t,rfl,rfl⟩|⟨x,t,rfl,rfl⟩<;>rfl
section
variable{ă:ï}{w:æ}
def pL(ă:ï)(w:æ)(a:Ë)(ks:Á zW)(h:Heap):È:=∃o es ep t,ę a=À o/\ĸi/\ϩ=.set es ep t/\ĝj ïa ϙb/\ϒ<Ŏb/\ėc ϒ=Ã/\wx t/\ġc=Ůd/\(ğf λe=>ſa e.2).Perm ks
def pL.keep{a:Ë}{ks:Á zW}{h h':Heap}(z:pL ă w a ks h)(k:∀o,ę a=À o->Ċ a=À o):pL ă w a ks h':=by let{o,b,c,t,d,r}:=z;show{o,b,c,t,k o d,r}
def d7(b:ĝj ïa es)(c:e∈es):tL (ſa e.2) e.2=Ã:=by obtain⟨⟨k,a,_⟩,_⟩:=b e c;let a:tL k e.2=Ã:=a;rw[HR a];show a
def h8:Åb ks k=Ã↔k∈ks:=by unfold Åb;rw[ŋm];show{λ⟨x,a,e⟩=>š e▸a,λh=>{k,h,ù rfl}}
def pL.add{A:ø}{E:Value->Î->È}{s:Î}{a:Ë}{ks:Á zW}{k:zW}{x:Value}{Q:Ï->Î->È}(z:pL ă w a ks á)(hk:tL k x=Ã)(W:ŀ+1<Ŏb)(h:∀(h':Heap)(b:Ï),(∀c o,c≠a->ö c=À o->Ċ c=À o)->pL ă w a (tK ks k) h'->Q b { s with ç:=h' }):Ø é A (Íi a x ((ïa).hash k)) Q E s:=by
 let{o,v,N,t,K,I,H,d,C,J,L,G,r}:=z;have T:v.size=ŀ:=by rw[<-r.length_eq,å,ĳ]
 refine z15 (knd:=xR ă w) (k:=k) hk (fD hk) K H d Ê J L (λ⟨e,u,q⟩=>?_) λO h' j y S P g p f F l=>?_;let q:tL k e.2=Ã:=q;let m:Åb ks k=Ã:=h8.mpr (r.mem_iff.mp (ňc {e,u,HR q}));let B:tK ks k=ks:=by unfold tK;rw[m,Ð rfl]
 let:=h á Ä Ýn (by rw[B];show{o,v,N,t,K,I,H,d,C,J,L,G,r});rw[Œp];let m:Åb ks k=Ä:=by
  cases c:Åb ks k with
  |Ä=>rfl|Ã=>
   exfalso
   let{e,u,q}:=ϫ (r.mem_iff.mpr (h8.mp c));let i:=d7 d u;rw[q]at i;let n:tL k e.2=Ä:=O e u;rw[n]at i;cases i
 let B:tK ks k=ks++[k]:=by unfold tK;rw[m,Ñ Ħ]
 have U:j.size=v.size+1:=by rw[<-ĳ,ąi,è,ĳ];rfl
 show h h' Ã (λc X R e=>(P.2 c R).trans e) ?_;rw[B];refine{_,j,y,S,g,I,rfl,(d.push (knd:=xR ă w) (k:=k) hk (fD hk)).perm p,by omega,f,F,îg G,?_};show(p.map λe=>ſa e.2).trans ?_;rw[Ĩa];show žc (Ăf ?_);exact[ſa x]=[k];rw[HR hk]
theorem x0m{A:ø}{E:Value->Î->È}{s:Î}(a:Value){Q₁:Value->Î->È}(h:Q₁ Ēa { s with ç:=Ía { cls:=.type ŏ,ϲc:=Å,Ć:=.set #[] 0 ŧm } }) :ğb é A (.call (.builtin ϔh) {ϭh,[]}) (wants Q₁ E) s:=by
 show ŵm (show Ø _ Ãb (checkBuiltinCall ϔh {ϭh,[]} >>= λ_=>again (.builtin ϔh {ϭh,[]})) _ _ s from ?_);show Ó (ăi (F.newCall_set_1 a) (ò {Ϛd Żm _,Õc (F.entry_set_new) ?_}));rw[Ád (Żm) _];unfold Builtin.«set.__new__» Builtin.Frozenset.newClass;let e:=sub_set_self;let{b,g,d,f,c}:=s;rw[ŕp]
 wp_walk
 show ϕe ña;rw[ŕp];simp only[newObj];show Ó (wpAny_alloc þp)
theorem nY{A:ø}{R:ŕd->Î->È}{d it l:Ë}{its:Á Value}(J:āa=Å)(m:d≠l)(g:d≠it)(n:l≠it) :∀(ks:Á zW)(i:Â)(acc:Á zW)(s:Î),Ĉm it l i->ϟh l ϝ->i+ŀ=Ϣa->(∀(j:Â)(k:zW),ks[j]?=À k->∃v,its[i+j]?=À v/\tL k v=Ã)->
   pL ă w d acc á->ĥo+ŀ+1<Ŏb->(∀h' tk,pL ă w d (ks.foldl tK acc) h'->(∀b o,b≠d->b≠it->ö b=À o->Ċ b=À o)->R Ĵp { s with ç:=h',đ:=tk })->
   ğb é A (.builtin "set.update.loop" {[.ref d,.ref it],[]}) R s
 | [],i,acc,s,st,hl,hn,hp,hd,hz,h=>by show Õc ùl ?_;rw[Ád źg _];unfold Builtin.«set.update.loop»;refine Ó (ϥg (by show J) st hl Ôl λh' K=>?_);show ò (h h' Đ (hd.keep λo e=>K d o g e) λb o _ U e=>K b o U e)|k::ks,i,acc,s,st,hl,hn,hp,hd,hz,h=>by
  let{v,W,I}:=hp 0 k rfl;show Õc ùl ?_;rw[Ád źg _];unfold Builtin.«set.update.loop»;refine Ó (ϝg st hl (x:=v) (by simpa using W) λu H P=>?_);let f:∀c o,c≠it->ö c=À o->u.get? c=À o:=λc o S e=>(P.2 c S).trans e
  let y:pL ă w d acc u:=hd.keep λo e=>f d o g e
  rw[Ĉ]at hz hn;show Ó (Ţa ?_);unfold setAdd;show Ţa (Ó ((ïa).pyHash (k:=k) I ?_));refine y.add (s:={ s with ç:=u,đ:=_ }) I Ê λN X p B=>?_
  let a:∀c o,c≠d->c≠it->ö c=À o->N.get? c=À o:=λc o t q e=>(p c o t (f c o q e))
  show ò {Ϛd (źg) _,?_};let L:=z14 acc k;show nY (its:=its) J m g n ks î (tK acc k) _ ?_ ?_ Ê (λj O e=>?_) B Ê λh' tk E T=>?_;show H.at λo e=>p it o (λz=>g Ŝb) e;let{o,e,r}:=hl;show{o,a l o (λz=>m Ŝb) n e,r};let{Q,C,G}:=hp Ϫ O Ła;show{Q,by rw[show i+1+j=i+Ϫ by omega];show C,G};show h h' tk E λc o t q e=>T c o t q (a c o t q e)
set_option maxHeartbeats 8000000 in
def z2r{A:ø}{E:Value->Î->È}{s:Î}{l:Ë}{o:Obj}{its:Á Value}{n:Â}{ks:Á zW}{Q:Value->Î->È}(U:āa=Å)(z:ö l=À o)(J:Áb=.type Ģ)(g:ϩ=.seq ϝ n)(O:ŀ=Ϣa)(S:∀(j:Â)(k:zW),ks[j]?=À k->∃v,its[j]?=À v/\tL k v=Ã)(hz:ŀ+1<Ŏb)(h:∀h' tk,pL ă w Û ŋh h'->(∀b o,ö b=À o->Ċ b=À o)->Q Ēa { s with ç:=h',đ:=tk }) :Ø é A (įb Őf Ùj) Q E s:=by
 let{_,_,em}:=PySem.F.called_set.mro;let e1:=PySem.F.called_set.made;let e2:=PySem.F.called_set.sub;let e3:=PySem.F.called_set.notType;let e4:=PySem.F.called_set.canCreate;let e5:=F.typeCall_set_1 řb;refine òf (ŵm (show Ø _ _ (callAny Őf _) _ _ _ from ò {PySem.Code.quiet_builtin _ ϵ,Õc F.entry_type_call ?_}));rw[Around.under_plain (weight_type_call_type ŏ Ùj []) rfl]
 repeat (any_goals (first|wp_step|assumption))
 show ßd (x0m řb (E:=E) (Q₁:=λv B=>v=.ref Û/\B={ s with ç:=Ía { cls:=.type ŏ,ϲc:=Å,Ć:=.set #[] 0 ŧm } }) {rfl,rfl}) λr B C=>?_
 cases r with
 |Ůe e=>show C|ok fl=>
  cases fl with
  |ret v=>
   let{rfl,rfl}:=C;generalize hb0:Ůd=b;obtain⟨f,d⟩:∃f,f=Ía { cls:=.type ŏ,ϲc:=Å,Ć:=.set #[] 0 ÿn }:={_,rfl};let I:f.get? Û=À { cls:=.type ŏ,ϲc:=Å,Ć:=.set #[] 0 ÿn }:=by rw[d];show ű _ rfl
   let L:∀c a,ö c=À a->f.get? c=À a:=λc a e=>by rw[d];show ė _ e
   let u:f.objs.size=Û+1:=by rw[d];show ϙa ..
   let m:pL ă w Û [] f:={_,#[],0,_,I,{rfl,rfl,rfl},rfl,λe X=>by simp at X,by decide,by rfl,{rfl,êf},hb0.symm,İc _};rw[<-d];let N:Shared.TypeIs { s with ç:=f } Ēa ŏ:={_,I,rfl};let i1:=PySem.F.called_set.init.lookup;let i2:=PySem.F.called_set.init.bind Ēa
   repeat (any_goals (first|wp_step|assumption))
   show ßd (Ŕl (R:=wants (λr t=>r=.none/\∃h' tk,t={ s with ç:=h',đ:=tk }/\pL ă w Û ŋh h'/\∀b o,ö b=À o->Ċ b=À o) E) PySem.F.called_set.init.plain F.entry_set_init (check_set_init_1 N ?_)) λT t i=>?_;let y:=L l o z;let{a,od,W,Y}:=o;simp only at J g;subst J g;let G:f.IsList l ϝ:={_,y,rfl,n,rfl};let B:=F.sub_list_set;let t:=F.sub_list_frozenset;let Z:(ϗb Ģ == ϗb Ãa)=Ä:=by decide
   let p:=ġ z;unfold Builtin.«set.__init__» noKeywords Builtin.Frozenset.updateFrom;generalize eP:Őd=P
   wp_walk
   subst eP;show Éd G (Ó (PySem.wpAny_runValue ?_));let H:∀c a,ö c=À a->(f.push { cls:=.type őh,Ć:=.fields #[.ref l,.int 0 0] }).get? c=À a:=λc a e=>ė _ (L c a e)
   refine nY (l:=l) (its:=its) (by simp[U]) (xS (ņa p)) (χb ϕc) (χb (ųb p)) ks 0 [] _ {_,ű _ rfl,rfl,rfl} {_,H l _ z,rfl,n,rfl} (by rw[ĺ];show O) (λj k e=>by rw[ĺ];show S j k e) (m.keep λa e=>ė _ e) ϸl λh' tk q x=>?_
   show ò (show Ø _ _ (ret Ėb) _ _ _ from ò {rfl,h',tk,rfl,q,λc a e=>?_});let K:=ġ e;show x c a (xS (Ϗ K)) (χb (ųb K)) (H c a e)
   .cases T with
    |Ůe e=>show i|ok f2=>
     cases f2 with
     |ret r=>
      let{rfl,h',tk,rfl,q,x}:=i
      repeat (any_goals (first|wp_step|assumption))
      show h _ _ q x
     |_=>show i.elim
  |_=>show C.elim
#print a
def O3:Slot ļb ũc ϲe:=
 .of (owner := ļb) (n := ũc) Úk ϵ ϵ ϵ ık ůg
def nr:Slot ļb Ėo ϳe:=
 .of (owner := ļb) (n := Ėo) Úk ϵ ϵ ϵ ık ůg
def x14:Âg łg ϲe=À Builtin.«set_iterator.__next__»:=entryFor_of_tree Ϙa
def x11:Âg łg ϳe=À Builtin.«dict_keyiterator.__iter__»:=Çn (id' := "dict_keyiterator.__iter__") Ϙa (by first|rfl|decide +kernel) ϵ Ϙa
def x0k:Âg łg "set.__iter__"=À Builtin.«frozenset.__iter__»:=Çn (id' := "frozenset.__iter__") Ϙa rfl ϵ Ϙa
def nk:Manifest.owners.lookup (String.ofList (ļb).toList)=À Manifest.sig_set_iterator:=by rw[Ŝp]
def x0z(a:Value):Ģg ϲe {[a],[]}:=by unfold Ģg;rw[signature?_of (id := ϲe) (n:=['_','_','t','x','e','n','_','_']) (o:=îk) Ϙa nk];rw[Ŝp]
def x0y(a:Value):Ģg ϳe {[a],[]}:=by unfold Ģg;rw[signature?_of (id := ϳe) (n:=['_','_','r','e','t','i','_','_']) (o:=îk) Ϙa nk];rw[Ŝp]
section
variable{M:ţd}{A:ø}{E:Value->Î->È}
def z30(a:n≠0)(h:∀i d,i<n->Q i { s with Àc:=d }):Ø M A (choose src n) Q E s:=
 λ_ _ _=>{a,h _ _ (ĭo _ (Øm a))}
theorem EQ{α:Type}:∀{xs:Á α}{i:Â}{x:α},xs[i]?=À x->(x::xs.eraseIdx i).Perm xs
 | [],_,_,h=>by cases h|y::ys,0,x,h=>by cases h;show İc _|y::ys,i+1,x,h=>(În y x _).trans ((EQ üa).cons y)
theorem cx:∀(n:Â)(xs:Á α)(s:Î){Q:Á α->Î->È},ì<=n->(∀ys d,ys.Perm xs->Q ys { s with Àc:=d })->Ø M A (ϋf n xs) Q E s
 |0,xs,s,Q,hn,h=>by
  cases xs with
  |nil=>unfold ϋf;show ò ðn|ú _ _=>simp at hn
 |n+1,[],s,Q,hn,h=>by unfold ϋf;show ò ðn|n+1,x::xs,s,Q,hn,h=>by
  unfold ϋf;refine Ó (z30 ó λi d a=>?_);let e:ϯa[i]?=À (ϯa[i]):=Ē a;rw[e]
  let c:((ϯa).eraseIdx i).length<=n:=by rw[ŗl,Ð a];rw[Ĉ]at hn ⊢;omega
  show Ó (cx n _ { s with Àc:=d } c λys b p=>ò ?_);show h _ b ((List.Perm.cons _ p).trans (EQ e))
#print a
theorem lE(next:Â->Â):∀(n k:Â)(left:Á α)(out:Ù α),left.length<=n->(Īf next n k left out).toList.Perm (ûe++left)
 |0,k,left,out,h=>by
  cases left with
  |nil=>unfold Īf;show Ăf (Ăg).symm|ú _ _=>simp at h
 |n+1,k,left,out,h=>by
  unfold Īf;cases left with
  |nil=>show Ăf (Ăg).symm|ú x xs=>
   let a:next k%(ϯa).length<(ϯa).length:=ĭo _ ó;let e:ϯa[next k%(ϯa).length]?=À (ϯa[next k%(ϯa).length]):=Ē a;rw[e];rw[ŕp]
   let b:((ϯa).eraseIdx (next k%(ϯa).length)).length<=n:=by rw[ŗl,Ð a];rw[Ĉ]at h ⊢;omega
   show(lE next n Ş _ _ b).trans ?_;rw[ϭd,Ū];show(ώc).append (EQ e)
def y6l(next:Â->Â)(xs:Ù α):(pickOrder next xs).toList.Perm Żf:=by exact(Īf next Ęa 0 Żf #[]).toList.Perm _;let:=lE next Ęa 0 Żf #[] ó;rw[Ŕp]
def z1p(d:Ϧd (·<·)):Īa xs 0=0:=by let{a,b,_}:=Cu d 0;by_cases c:Īa xs 0=0;show c;let:=b 0 Ê Ê;omega
def z1o(d:Ϧd (·<·))(h:i<Ęa):Īa xs ϡi=i+1:=by let{a,b,c}:=Cu d ϡi;generalize Īa xs ϡi=p at *;rcases çf p î with q|q|q;let:=c i h Ê;omega;show q;let f:=b î Ê q;let e:=źd d i î üa Ée Ê;simp only[ċb]at e;omega
section
variable{ă:ï}{w:æ}{A:ø}{E:Value->Î->È}
def Uu(h:Heap)(I:Ë)(fs:Ù Value):È:=ę I=À { cls:=.type ļb,Ć:=.fields fs }
structure Wk(w:æ)(a:Ë)(es:Ù Ϝa)(ep:Â)(t:ŵa)(ord:Á Value)(I tp:Ë)(i:Â)(h:Heap):È where
 st:∃o,ę a=À o/\ϩ=.set es ep t
 md:(Ãd Ōc=Ã/\ord=(űg).toList.map (·.2)/\∃sl:Â,Uu h I #[ϋ sl,ϋ i,.ref a,ϋ ϒ,ϋ ep]) \/
  (Ãd Ōc=Ä/\űd=Ä/\ġc=Ã/\wx t/\ord=ğf (·.2)/\∃sl:Â,Uu h I #[ϋ sl,ϋ i,.ref a,ϋ ϒ,ϋ ep]/\Īa ŷa sl=i) \/
  ∃places:Á Â,ord=ĝo (λp=>łl.2)/\(∀p∈places,p<ϒ)/\Uu h I #[.ref tp,ϋ i,.ref a,ϋ ϒ,ϋ ep]/\ę tp=À { cls:=.type ſ,Ć:=.seq (ĝo λp:Â=>ϋ p).toArray }
def z7t(g:ö a=À o)(z:ĸi)(k:ϩ=.set es ep t)(n:ėc ϒ=Ã)(v:ϒ<Ŏb)(u:wx t)(ld:ġc=Ůd)(h:∀h' d ord I tp,ord.Perm (ğf (·.2))->Û<=I->(tp=a\/Û<=tp)->I≠tp->Wk w a es ep t ord I tp 0 h'->(∀b ob,ö b=À ob->Ċ b=À ob)->Q ōb { s with ç:=h',Àc:=d }):Ø é A (Őd Ō) Q E s:=by
 let r:ïb Ō ŏ:={o,g,z.1};show ąm r Źm (ĉb (Źm) r x0k ?_ (F.args_set_iter_1 _));unfold Builtin.«frozenset.__iter__» Builtin.Frozenset.slot0 slotArgs;simp only[ŉm,Ϩh,Ĺb,↓ţi,Ĥo,Őc,Ĥh];unfold Builtin.Frozenset.addrOf Builtin.Frozenset.sizeOf;rw[Ěq]
 try dsimp only
 rw[Ěq];show Ó (Ó (ϐl (es:=es) g k n ña));unfold setDrawn Řf;show Ó (Ó (Źd (es:=es) (t:=t) g k n ?_));rw[ŕp];show Ó (Ó (ϕe Ϝi));exact Ø _ _ (Λa ők) _ _ _;let y:ϒ<=ã:=ϊd v;by_cases c:ők=Ã;rw[Ð c];refine Ó (cx ϒ _ s ó λm d p=>?_);let G:Ϲf=ϒ:=by rw[ąi,ëa]
 show Ó (êh ?_ (by rw[å,G];show y));let l:(Ía { cls:=.type ſ,Ć:=.seq (ŭe λi:Â=>ϋ i).toArray }).get? a=À o:=ė _ g;show Ó (Ąm (es:=es) (t:=t) l k n ?_);unfold ϒo;show Ó Øk;show h _ d (ŭe λp=>łl.2) _ Û ?_ ?_ (.inr Ġ) ?_ {{o,ė _ l,k},.inr (.inr {m,rfl,λq B=>?_,ű _ rfl,ė _ Şc})} λb ob e=>ė _ ġd;show(p.map _).trans (Ăf ?_);refine List.ext_getElem ó λj x H=>?_
 let C:j<ϒ:=by simpa using x
 simp[ćd,C];rw[ϙa];show ńf _;rw[ϙa];show xS (ņa ϕc);simpa using Ŏn B;rw[Ñ c];show Ó (Δa (Ąm (es:=es) (t:=t) g k n ?_));unfold ϒo;show Ó Øk;cases f:Ãd Ōc with
 |Ã=>show h _ Ĝe _ _ a ((y6l (w.params.setOrder a ep) es).map (·.2)) Ġ Ŗ àn {{o,ė _ g,k},.inl {f,rfl,0,ű _ rfl}} λb ob e=>ė _ e|Ä=>
  rw[f]at c ld
  let c:űd=Ä:=by rw[Bool.not_eq_true]at c;show c
  show h _ Ĝe _ _ a ώc Ġ Ŗ àn {{o,ė _ g,k},.inr (.inl {f,c,ld,u,rfl,0,ű _ rfl,z1p u.up})} λb ob e=>ė _ e
def y0v{s:Î}{a:Ë}{o:Obj}{es:Ù Ϝa}{ep:Â}{t:ŵa}{c g:Â}{Q:É (Value×Â)->Î->È}(i:ö a=À o)(b:ϩ=.set es ep t)(d:ėc ϒ=Ã)(f:Ãd Ōc=Ã)(h:Q ((űg[g]?).map λe=>(e.2,c)) s):Ø é A (íg a c g ep) Q E s:=by unfold íg Řf;show Ó Ŵk;rw[ůp];rw[Ð f,Ñ ó];unfold setWalk Řf;show Ó (Ó Ŵk);rw[ůp];rw[Ð f];show Ó (ϕe þp)
def y0u{s:Î}{a:Ë}{o:Obj}{es:Ù Ϝa}{ep:Â}{t:ŵa}{b g e:Â}{Q:É (Value×Â)->Î->È}(k:ö a=À o)(d:ϩ=.set es ep t)(i:ėc ϒ=Ã)(f:Ãd Ōc=Ä)(c:űd=Ä)(ld:ġc=Ã)(h:Q (match es[Īa ŷa b]?,ŷa[Īa ŷa b]? with|À (_,x),À j=>À (x,j+1)|_,_=>Å) s):Ø é A (íg a b g e) Q E s:=by unfold íg Řf;show Ó (Źd (es:=es) (t:=t) k d i ?_);rw[ůp];rw[Ñ (by rw[f];show Ħ)];rw[Ěq];exact Ø _ _ (if űd=Ã then _ else _) _ _ _;rw[Ñ (by rw[c];show Ħ)];show Ó (show Ø _ _ (Λa (!t.led&&!es.isEmpty)) _ _ _ from ?_);rw[Ñ (by rw[ld];show Ħ)];show ò Ϲi
def RA{s:Î}{P:Fin->Î->È}{Q:É Value->Î->È}(c:āa=Å)(h:∀h',(∀b ob,ö b=À ob->Ċ b=À ob)->Q Å { s with ç:=h' }) :Ø é Ãb (ěg ġi [] >>= λe=>(Æj e:Sem Fin)) P (λe s'=>Ø é A (isInstance e ġi >>= λb=>if b=Ã then pure Å else throw e) Q E s') s:=by show Ó ?_;simp only[ěg,newTuple];refine Ó (Ðc (Ó (m:=Ån _ _) (ăi (a:=Ėb) ük Ţn)) úh);simp only[Æj];show Ó ém;rw[show ėn=Å from c];rw[Ěq];show Ϩn Ņf;show Ïh (T := Ød) (b:=Ã) {_,ű _ rfl,rfl} Än ?_;show ò (h _ λb ob e=>ė _ ġd)
def YV{s:Î}{I:Ë}{fs:Ù Value}{k:Â}{v:Value}{Q:èa->Î->È}(a:Uu á I fs)(hk:k<fs.size)(h:∀h',Uu h' I (fs.setIfInBounds k v)->ũa I á h'->Q () { s with ç:=h' }):Ø é A (setField ōb k v) Q E s:=
 éh a rfl hk (h _ (Ôd _ a rfl) Ýj)
def iA{s:Î}{a:Ë}{es:Ù Ϝa}{ep:Â}{t:ŵa}{g:Á Value}{I G:Ë}{i:Â}{Q:É Value->Î->È}(L:āa=Å)(l:I≠a)(P:I≠G)(C:ėc ϒ=Ã)(lo:Ña=ϒ)(W:Wk w a es ep t g I G i á)(hi:i<=Ña)(N:∀v h',g[i]?=À v->Wk w a es ep t g I G î h'->ũa I á h'->Q ϯ { s with ç:=h' })(O:i=Ña->∀h',(∀b ob,b≠I->ö b=À ob->Ċ b=À ob)->Q Å { s with ç:=h' }):Ø é A (Ōd ōb) Q E s:=by
 obtain⟨⟨o,B,y⟩,U⟩:=W
 obtain⟨first,h⟩:∃first,Uu á I #[first,ϋ i,.ref a,ϋ ϒ,ϋ ep]:=by rcases U with⟨_,_,u,z⟩|⟨_,_,_,_,_,u,z,_⟩|⟨_,_,_,z,_⟩;show{_,z};show{_,z};show{_,z}
 let R:ïb ōb ļb:={_,h,rfl};unfold Ōd;show Ó (Õf (Ϻc (ī:=ła ũc) R O3 (ĉb O3 R x14 ?_ (x0z _))));unfold Builtin.«set_iterator.__next__» slotArgs;simp -iota only [ŉm,Ϩh,Ĺb,↓ţi,Ĥo,Őc,Ĥh];rw[Ěq];show Ó (wpAny_fieldsOf h rfl ?_);exact Ø _ _ (setEntries a >>= _) _ _ s;show Ó (ϐl (es:=es) B y C ?_);rw[Ñ ó];rw[Ěq];rcases U with⟨f,r,u,z⟩|⟨f,c,S,X,r,u,z,hb⟩|⟨d,r,T,z,Y⟩;rw[Áq]
 let eg:(űg[i]?).map (λe=>(e.2,u))=(g[i]?).map λv=>(v,u):=by rw[r,ņ,Ģa,Option.map_map];rfl
 show Ó (y0v B y C f ?_);rw[eg];cases F:g[i]? with
 |À v=>exact Ø _ _ (ωb (ϋ u)) _ _ _;refine Ó Òd;refine Ó ūg;show ò {v,rfl,ò (N v x F {{o,?_,y},.inl {f,r,u,?_}} (ïg m))};show(ín).trans Ϸm;show K
 |Å=>
  rw[ôq]
  let e:i=Ña:=by let:=List.getElem?_eq_none_iff.mp F;omega
  show RA L λx m=>O e x λb ob k J=>m b ob ąh
 rw[Áq];show Ó (y0u B y C f c S ?_);rw[hb]
 let hps:t.place.size=ϒ:=by simp only[SetTable.fits,Č,ϖb]at C;show C.1
 by_cases hlt:i<ϒ;let e1:es[i]?=À (es[i].1,es[i].2):=ıc hlt;let e2:ŷa[i]?=À (ŷa[i]' Ê):=ıc Ê;rw[e1,e2]
 let F:g[i]?=À es[i].2:=by rw[r,ņ,Ģa,e1];rfl
 exact Ø _ _ (ωb (ϋ ((ŷa[i]' Ê+1:Â):Æ))) _ _ _;refine Ó Òd;refine Ó ūg;show ò {es[i].2,rfl,ò (N _ x F {{o,?_,y},.inr (.inl {f,c,S,X,r,ŷa[i]' Ê+1,?_,z1o X.up Ê})} (ïg m))};show(ín).trans Ϸm;show K;let e1:es[i]?=Å:=Ϲe Ê;rw[e1];rw[ôq];show RA L λx m=>O Ê x λb ob k J=>m b ob ąh;cases(ϸ ħj);exact Ø _ _ (seqItems? (.ref G) >>= _) _ _ s;show Ó (Ċb Y rfl ?_);have lp:Òa=ϒ:=by rw[<-lo,r,å]
 exact Ø _ _ (match(d.map λp:Â=>ϋ p).toArray[(i:Æ).toNat]? with|À (.int place _)=>_|À _=>_|Å=>_) _ _ _;rw[ē];by_cases hlt:i<Òa;let e1:(d.map λp:Â=>ϋ p).toArray[i]?=À (ϋ (d[i]:Â)):=by simp[hlt]
 let H:=T d[i] (ŷb hlt);let e2:es[d[i]]?=À (es[d[i]].1,es[d[i]].2):=ıc H
 let F:g[i]?=À es[d[i]].2:=by rw[r,ņ,Ē hlt];simp[ćd,H]
 rw[e1];exact Ø _ _ (ōn a ((d[i]:Â):Æ).toNat (ep:Æ).toNat >>= _) _ _ _;rw[ē,ē];unfold ōn;show Ó (Ó (Źd (es:=es) (t:=t) B y C ?_));rw[ŕp];rw[Ñ ó,e2];show ò ?_;refine Ó Òd;refine ò {_,rfl,ò (N _ n F {{o,(Ýl).trans B,y},.inr (.inr {d,r,T,q,(j.2 G P.symm).trans Y})} j)};let e1:(d.map λp:Â=>ϋ p).toArray[i]?=Å:=by simp;omega
 rw[e1];exact Ø _ _ (ωb (ϋ 0)) _ _ _;refine Ó Òd;refine Ó ūg;show RA L λZ k4=>O Ê Z λb ob k J=>k4 b ob ((m.2 b k).trans ąh)
#print a
section
variable{ă:ï}{w:æ}{A:ø}{E:Value->Î->È}
def x7r(F:āa=Å)(l:I≠a)(r:I≠tp)(G:ėc ϒ=Ã)(lo:Ēd=ϒ) :Walks ă w A I [I,a,tp] [I] Ēd (λi v=>ord[i]?=À v) (λi h=>i<=Ēd/\Wk w a es ep t ord I tp i h) where
 sub:=λb j=>by rw[Į j];show Ĝ ..
 frame:=λi h q ⟨u,W⟩ k=>by obtain⟨⟨o,P,J⟩,C⟩:=W;let B:=k I Õa;let O:=k a ìo;let K:=k tp (Ű _ ìo);show{u,{o,O o P,J},?_};rcases C with⟨f,n,p,z⟩|⟨f,c,H,R,n,p,z,j⟩|⟨d,n,N,z,S⟩;show .inl {f,n,p,B _ z};show .inr (.inl {f,c,H,R,n,p,B _ z,j});show .inr (.inr {d,n,N,B _ z,K _ S})
 ăb:=λi s Q E u ⟨g,W⟩ m=>iA F l r G lo W g (λv q x L k=>by
  let:=m v q Đ x {u,L} λb o j e=>(k.2 b λz=>j ĝl).trans e
  rw[Œp]) λz=>Ý z (Ϗ u)
 done:=λs Q E ⟨g,W⟩ m=>iA F l r G lo W g (λv q x=>by rw[ŀa Ġ]at x;cases x) λ_ q k=>m q Đ λb o j e=>k b o (λz=>j ĝl) e
 Âc:=λi s Q E ⟨g,W⟩ m=>by
  let{_,C}:=W
  let y:ïb ōb ļb:=by rcases C with⟨_,_,p,z⟩|⟨_,_,_,_,_,p,z,_⟩|⟨_,_,_,z,_⟩<;>show{_,z,rfl}
  show ąm y nr (ĉb nr y x11 (show Ø _ _ (ret ōb) _ _ s from ?_) (x0y _));show ò {_,rfl, ļb,_,y,O3.lookup,m}
def z78(c:ïb Ō ŏ)(h:Q Ä s):Ø é A (ϥk Ō) Q E s:=by
 unfold ϥk;show Ó (wpAny_specialOf c (F.slot_set_len.lookup) ?_);generalize hi:("set.__len__" : æa)=x
 wp_delta
 rw[show splitId x=À (ŏ,"__len__")from by subst hi;rw[ŋp]];subst hi;refine Ó (Ïh (T := ŏ) (b:=Ã) c ůg ?_);refine Úh (λz=>Ý z Ò) λ_=>Úh ŷc λz=>Ý ϵ z
 show Ó (Þd c Ϲi)
def z38(hh:āa=Å)(S:ö a=À o)(H:ĸi)(hd:ϩ=.set es ep t)(R:ėc ϒ=Ã)(P:ϒ<Ŏb)(tb:wx t)(ld:ġc=Ůd)(h:∀h' d tk ord,ord.Perm (ğf (·.2))->Û<ŏn->(∀b ob,ö b=À ob->Ċ b=À ob)->Q ord { s with ç:=h',Àc:=d,đ:=tk }):Ø é A Èp Q E s:=by
 rw[ϑp];exact Ø _ _ (Ϧk Ēa Ō Ēa) _ _ { s with ç:=Ía Õd };unfold Ϧk;let p:(ñp).get? a=À o:=ė _ S;let q:=ġ S;let n:Û≠a:=xS (ņa q);show Ó (Þd (T := ŏ) {o,p,H.1} ?_);let q1:äl Ēa Ō=Ä:=by simp[äl,n]
 let q2:(ϗb ŏ == ϗb Ģ)=Ä:=by decide
 let q3:(ϗb ŏ == ϗb ſ)=Ä:=by decide
 rw[Ñ (by rw[q1,q2,q3];show Ħ)];show Ó (z7t p H hd R P tb ld λy d ord I tp N B x K W0 J=>?_);show Ó (Ţa (z78 {o,J a o p,H.1} ?_));show Úh ŷc λz=>Ý ϵ z
 show Ó (Ýd Ņf);let z0:(ñp).objs.size=Û+1:=ϙa ..;rw[z0]at B x;let L:Ēd=ϒ:=by rw[N.length_eq,å,ĳ]
 let C:I≠a:=xS (ņa (Š (ųb q) B))
 let r:Û ∉ [I,a,tp]:=λm=>by simp only[ťa,Ëa,ϫa]at m;rcases m with m|m|m;show Ý B Ġk;show n m;rcases x with e|e;show n (ēj e);show Ý e Ġk
 exact Ø _ _ (źo Û (·.push .none) >>= λ_=>źo Û (·.pop)) _ _ _;let Y:ēg Û=À Õd:=J _ _ Şc;show Ó (Ùh Y rfl ?_);let U:=Ôd (çb (·.push Ėb)) Y rfl;refine Ùh (hz:=by seq_fits) U rfl (ò {Ϛd (F.plain_extend_loop) _,?_});let S3:=Ôd (çb (·.pop)) U rfl;let W:=x7r (ă:=ă) (w:=w) (A:=Ãb) (ep:=ep) (t:=t) (es:=es) (by show hh) C K R L
 let k:∀b ob,b≠Û->ēg b=À ob->((y.update Û (çb (·.push Ėb))).update Û (çb (·.pop))).get? b=À ob:=λb ob u e=>
  (ěm).trans ((ěm).trans e)
 refine codeAny_extend_loopS W.toS (by rw[L];show ϊd P) Û r Ēa Ēd 0 _ #[] _ rfl öb (W.frame 0 y _ {ϐ _,W0} λb G ob e=>k b ob (λz=>r (z▸G)) e) S3 (ItemsOf.nil _) λZ f c' O v g=>?_
 rw[Moved.eq_with O];show Ó (ĳi v ?_)
 let ea:Ág=ord:=by
  show éf λj=>?_
  by_cases c:j<Ēd;let X:j<f.size:=by rw[g.1];show c
  rw[Ģa,ıc X];show(g.2 j _ (ıc X)).symm;rw[ŀa (by rw[ĳ,g.1];omega),ŀa Ê]
 exact Ø _ _ (pure Ág) _ _ _;rw[ea];show ò (h Z.heap d Z.toks ord N (ġ v) λb ob e=>?_);let i:=ġ e;show ħg b ob (λm=>?_) (k b ob Ůn (J b ob ġd));rcases ħ m with m|m;show Ý i (by rw[m];show Ìc _);rw[Į m]at i;show Ý (Š i (Nat.le_of_succ_le B)) Ĉa
#print a
nonrec def HE:Value->Æ
 |.int i _=>i|_=>0
theorem eJ:∀{vs:Á Value},(∀v∈vs,∃i t,v=.int i t)->ôb vs (Ĕg HE)
 | [],_=>.nil|v::vs,h=>by let{i,t,rfl}:=h v Õa;show .cons _ _ (eJ λx a=>h x ϟf)
section
variable{ă:ï}{w:æ}{A:ø}{E:Value->Î->È}
def x1m(O:āa=Å)(z:pL ă w a Ϛf á)(P:Ŝ<64)(h:∀h' d tk p out c ns',Û<=p->Ċ p=À Ėh->ôb ûe ns'->Ëj ns->Ñi (·<=·)->(∀b ob,ö b=À ob->Ċ b=À ob)->Q Ŭ { s with ç:=h',Àc:=d,đ:=tk }) :Ø é A ſh Q E s:=by
 let{o,es,ep,t,X,T,R,r,I,W,tb,L,Y}:=z;rw[ŗp];refine Ó (m:=ĺi Ūa 1 1 _) (Δa (z38 ği X T R W I tb L λy d tk f B G H=>Ó (Ôf ?_ (by rw[B.length_eq,å,ĳ];show ϊd I))))
 let q:(Øp).Perm Ϛf:=by let:=B.map ſa;rw[îa]at this;show this.trans Y
 let n:∀v∈f,∃i tk,v=Ϛb i tk:=λv n=>by let{e,he,rfl}:=ϫ (B.mem_iff.mp n);let{i,_,ei}:=ϫ (q.mem_iff.mp (Öf n));let:=d7 r he;rw[<-ei]at this;rcases jP this with⟨j,tk,_,e⟩|⟨x,tk,e,_⟩;show{j,tk,e};cases e
 let Z:=eJ n
 let J:(ûb HE).Perm ns:=by
  let g:=q.map λk:zW=>match k with|.inl i=>i|.inr _=>(0:Æ)
  rw[îa,îa]at g
  let e1:Ða äo=ns:=by rw[show äo=id from rfl,êe]
  let e2:ûb (ϥj∘ſa)=ûb HE:=öh λv C=>by let{i,tk,rfl}:=n v C;rfl
  rw[e1,e2]at g;show g
 let u:ĭa<64:=by let:=J.length_eq;rw[å]at this;omega
 let F:(y.push ëm).get? Ϧn=À ëm:=ű _ rfl;show Ó (Ţa (ĉb Ųh {_,F,rfl} Œh (ųh F Z u λout ns' N S K=>{_,rfl,?_}) Ĝh));let{c,U}:=Ϟh (vs:=f) (out:=out) F;show ò {_,rfl,h _ d tk Ϧn out c ns' Ĵj U N (S.trans J) K λb ob e=>?_};let l:=ġ ţo;rw[űh (xS (Ϗ l)) (by rw[ěo];show ųb l)];show ė _ ţo
#print a
section
variable{X:Cx}
abbrev JD(ă:ï)(w:æ)(a:Ë)(ks:Á zW):HO:=.ext (pL ă w a ks)
def y7y(X:Cx):Á V->Hp->VK->È:=λb H Q=>∃(a:Ë) (ks:Á zW),b=ϥ/\ya X.K H a Ğf/\ŀ<1000/\∀p,H p=Å->Q Ŭ (Ψ (JD õ X.w p ŋh))
def z2q(b:Ů=Ã):wu X Őf (y7y X):=by
 intro F s σ H J K Q I r h;let{a,g,rfl,v,G,q}:=h;let{u,rfl,j}:=uq r;cases(show u=ĕ a from j);let{d,i,{o,n,x,p,y,c},B}:=ϗ v;have l:Ña=Òa:=by rw[<-Ϧb,å]
 refine z2r (óa b) x p c l (fH õ X.w i) (by unfold Ŏb;omega) λL m f t=>?_
 show{.ref Û,_,Ża (a:=Û) (o:=JD õ X.w Û (g.foldl tK [])) (t':=m) t Ġ {f,?_,λE C z k=>z.keep k},rfl,q _ ϓc};let{A,_,_,_,e,_}:=f;show{A,e}
def _root_.L2.Inv.draw(I:Inv X zA σ H s)(d:Drawn):Inv X zA σ H { s with Àc:=d }:={ϳc,Êc,Ža,Śe,ĝa,Ĵa,ża,İb,ĺa,Ė,āb}
def y82(X:Cx):Á V->Hp->VK->È:=λb H Q=>∃(a:Ë) (ns:Á Æ),b=ϥ/\H a=À (JD õ X.w a Ϛf)/\Ŝ<64/\∀l,H l=Å->Q řb Ÿg
def z2u(f:Ů=Ã):wu X ϡd (y82 X):=by
 intro B s σ H C E Q I r h;let{a,b,rfl,o,g,q}:=h;rw[Íq];let{z,_}:=(show xT õ X.w H á a (JD õ X.w a (b.map ı))from Ė a _ o);show x1m (óa f) z g λh' d v p k c j l x A t m y=>?_
 let e:j=Ϸa b:=B7 (t.trans (üg).symm) m (ße b);subst e;let i:(Ϸa b).length=Óa:=(üg).length_eq;show{.ref p,_,(I.draw d).laid (t':=v) (h':=h') y l (show xT õ X.w _ _ _ ül from{?_,k.toList,c,M5 A,?_}),rfl,q _ (Ĕb l)};rw[å,i];rw[đq];show x
#print a
#print L2
namespace L3
open Ķ ő Ň L2
nonrec def jr(a:Á Æ)(n:Æ):Á Æ:=if(Šd λm=>decide (m=n))=Ã then a else a++[n]
def qT(ns:Á Æ):Á Æ:=Ĩi jr []
theorem z13(a:Á Æ)(n:Æ):tK Íp (.inl n)=(jr a n).map ı:=by
 let e:Åb Íp (.inl n)=Šd λm=>decide (m=n):=by
  unfold Åb;rw[ài]
  congr 1
  funext m
  show ϓd {çc,Ŧ _}
 unfold tK jr;rw[e]
 split;rfl;rw[Ĩa];rfl
theorem iX:∀(ns acc:Á Æ),(Ϛf).foldl tK (acc.map ı)=(Şn).map ı
 | [],_=>rfl|n::ns,acc=>by rw[ľ,Ìa,Ìa,z13];show iX ns (jr acc n)
def Jc:Á D->É D
 | [.lst xs]=>(źa xs).bind λa=>if ăa<1000/\(qT a).length<64 then À (Β ((Ϸa (qT a)).map D.int))else Å|_=>Å
def ni(b:Ů=Ã)(B:Gl X Ūa)(J:ð Ūa=Å)(r:Gl X ŏ)(s:ð ŏ=Å)(R:SA X [e] fs)(z:Í ÿa q12) :SF X (.Call Ąl [.Call (.Name ŏ p2) [e] [] pos2] [] pos) (eL Jc fs):=by
 let{t,P,k}:=R.h;let N:=Xk (p:=p2) (pos:=pos2) (z2q b) r s z22 {P} Ò Ò (by rw[Ų,z];rfl);refine{{_,(Ij (p:=p) (pos:=pos) (z2u b) B J E7 (Mi N Kg) Ò Ò).h,λ{U W G H τ σ d Q} E c q=>?_}};let{O,A,c}:=zG c;show k E A λT I S n F=>?_
 match O,c with
 | [.lst xs],c=>
  let{f,C,c}:=zG (show(źa xs).bind _=À d from c)
  split at c;rename_i g;cases c;let{v,rfl,a,Y,rfl,i,x,l}:=qx F;rw[eK C]at x l;rw[mv x]at i
  let i:ya X.K I a ((Ϗi).map kV):=by rw[îa];show i
  let L:(Ϗi).foldl tK []=(qT f).map ı:=iX f [];refine{a,ûb ı,rfl,uI n.gh i,by rw[å];show g.1,λy u=>?_};let j:=Ēj (ĵa (o:=JD õ X.w y ((Ϗi).foldl tK [])) n.gh u);refine{y,qT f,rfl,by rw[L];show yh,g.2,λp m=>?_};show q p _ _ (ïg (ĵa j.gh m)) (j.h.free m) (ϕo m) {_,yh,eG _,?_};rw[å,(èc _).length_eq];rw[ŵp];cases c
#print L3
namespace L2
open Ķ ő Ŗa Ň
nonrec def Tp(i j c:Æ):Â:=if i<j then(Ńj/c+1).toNat else 0
def oQ{i j c:Æ}(a:0<c):ϵe i j c=(Tp i j c:Æ):=by
 unfold ϵe Tp;rw[Ð a]
 split;let:0<=Ńj/c:=ăf Ê Ê;omega;rfl
def x25{i j c:Æ}(a:0<c):Tp i j c<=(j-i).toNat:=by
 unfold Tp
 split;let:Ńj/c<=j-i-1:=ōm _ Ê;omega;omega
def x1f{i j c:Æ}(a:0<c)(e:īd<=16777216)(d:ğe<=16777216)(b:c<=16777216):Ϙl i j c=Ã:=by unfold Ϙl;rw[oQ a];let:=x25 (i:=i) (j:=j) a;simp only[Builtin.Range.rangeFitsLong,Č,őc,åf,ϖb,Ð (show c>0 from a)];generalize Tp i j c=n at *;omega
open PySem.AutoSeq1 in
def z9f(l:Ë)(z6:Ù Value)(n:Â)(b:Ë)(a:Ù Value)(p:Â)(q:É Ë)(f:Ù ϡa)(o:¬(!z6.isEmpty&&žd (ł+ŉ))=Ã)(e:ł<=ã)(i:ł+ŉ<=ã+1) :Meets (Builtin.«list.extend» {[.ref l,.ref b],[]}) (λ_ R s=>ö l=À { cls:=.type Ģ,ϲc:=Å,Ć:=.seq z6 n,Şd:=#[] }/\ö b=À { cls:=.type Ģ,ϲc:=q,Ć:=.seq a p,Şd:=f }/\R (.ok (.ret Ėb)) { s with ç:=œc l (çb λx=>x++a),đ:=Đ }):=
 .of_wp λj w A R s h=>by
  let{v,g,d,C,u}:=s;let{k,m,h}:=h;let z:=idx_int;let r:=AutoSeq1.sub_tuple_tuple;let y:=AutoSeq1.sub_list_list;let t:=AutoSeq1.sub_tuple_list;let B:=AutoSeq1.sub_list_tuple;let c:(z6++a).size<=ã+1:=by rw[īh];show i
  wp_walk using(Ùh k rfl (hz:=e) (_hz':=c)),űm k,űm m
  show{_,rfl,h}
theorem ši:∀{xs:Á V}{us:Á Value},áa=ì->(∀(j:Â)(x:V)(v:Value),xs[j]?=À x->us[j]?=À v->zy x v)->zl xs us
 | [],[],_,_=>.nil| [],_::_,h,_=>by cases h|_::_,[],h,_=>by cases h|x::xs,u::us,h,f=>.cons (f 0 x u rfl rfl) (ši üa λj y v b a=>f Ϫ y v àf áf)
section
variable{X:Cx}
def y7p(K:Ô):V->Á V->Hp->VK->È:=λx a H Q=>∃l b xs zs,x=.ref l/\a=[.ref b]/\H l=À Ĕa/\ya K H b zs/\ì+ŷo<=ã/\Q .zP (ze H l (Β (xs++zs)))
def i4:FI X "list.extend" (y7p X.K):=by
 intro O s σ H x N v T Q I B C h;let{l,b,R,J,rfl,rfl,o,E,L,q}:=h;cases B;let{u,rfl,p}:=C.one;cases p;let{z,c,n,r,P,e}:=I.Oq o;let{a,m,G,_}:=ϗ E;obtain⟨⟨S,A,U,j⟩,w,i,f,y,g⟩:=G;simp only at f g;subst f g;let t:=Ϲf;let k:Èn+Żb<=ã:=by rw[ĥ,ĥ];omega
 let d:¬ (!c.toArray.isEmpty&&žd (Èn+Żb))=Ã:=by rw[iH k,Ñn];show Ħ
 refine ņc F.slot_list_extend {_,e,rfl} F.entry_list_extend (F.args_list_extend_2 _ _)
  (z9f l ūi n b Ϧa w A j d ěh Ê) {e,i,?_}
 refine{.zP,_,I.DX (Æb:=c++a) o e ó (žc m) ?_,rfl,q};rw[è];omega
def bP(a:Ë)(n:Â)(h:Heap):È:=∃t u v,IsRange h a 0 n 1 t u v
abbrev JC(a:Ë)(n:Â):HO:=.ext (bP a n)
def y7v:Á V->Hp->VK->È:=λa H Q=>∃j:Æ,a=[.int j]/\0<=j/\∀p,H p=Å->Q Ŭ (Ψ (JC p ϱ))
def z2p:wu X (.type Ŕa) y7v:=by
 intro l s σ H m g Q I r h;let{j,rfl,f,q}:=h;let{u,rfl,c}:=uq r;let{t,rfl}:=(show ∃t,u=Ϛb j t from c);show őn ?_;let e:((ϱ:Â):Æ)=j:=by omega
 let b:bP Û ϱ (Ía { cls:=.type Ŕa,Ć:=.fields #[.int 0 Đ,.int j t,.int 1 (Đ+1)] }):=by show{Đ,t,Đ+1,?_};rw[e];show Åo ..
 show{.ref Û,_,Ża (a:=Û) (o:=JC Û ϱ) Ĕh Ġ {b,?_,λi d z k=>?_},rfl,q _ ϓc};let{t,u,v,e}:=b;show{_,e};let{t,u,v,e}:=z;show{t,u,v,k _ e}
def y7s:Á V->Hp->VK->È:=λb H Q=>∃(a:Ë) (n:Â),b=ϥ/\H a=À (JC a n)/\n<=1000000/\∀p,H p=Å->Q Ŭ (Ψ (.lst ((ġb).map λk:Â=>ϻa k)))
def z2n(c:Ů=Ã):wu X ďa y7s:=by
 intro G s σ H K L Q I r h;let{a,n,rfl,z,J,q}:=h;let{u,rfl,y}:=uq r;cases(show u=ĕ a from y);obtain⟨⟨t,u,v,F⟩,_⟩:=(show xT õ X.w H á a (JC a n)from Ė a _ z)
 let m:ϵe 0 (n:Æ) 1=(n:Æ):=by
  rw[oQ Ò];unfold Tp
  split<;>omega
 refine call_list_range (óa c) F (x1f Ò Ò Ê Ò) m Ê λN B b A C p d=>?_
 let{f,g}:=d
 let E:zl ((ġb).map λk:Â=>ϻa k) ĥe:=by
  refine ši (by simp[f]) λj x v l i=>?_
  rw[ņ,Ϟd (by let:=(ķ i).1;rw[ĳ,f]at this;rw[Œp])]at l
  cases l;let{t,e}:=g j v (by rw[<-Ģa];show i);show{t,?_};rw[e];simp
 show{.ref Û,_,Ża (a:=Û) (o:=.lst ((ġb).map λk:Â=>ϻa k)) (t':=B) C Ġ {?_,ĥe,A,E,?_},rfl,q _ ϓc};rw[å,ëa,ŕ];exact n<=16777216;omega;rw[p]
#print a
#print L2
namespace L3
open Ķ ő Ň L2
nonrec def EW:Á D->É D
 | [.int j]=>if 0<=j/\j<=1000000 then À (.lst ((ûp).map λk:Â=>.int k))else Å|_=>Å
def y8b{K:Ô}{G:Hp}(l:Á Â):ë K G (Úa λk:Â=>Ě k) (Úa λk:Â=>ϻa k):=by
 induction l with
 |nil=>rfl|ú a r ih=>show{_,_,rfl,rfl,ih}
section
variable{X:Cx}{x y:Ç}{xp yp pos ύ ş:Pos}{e:Õ}{f:FE}
def oN{i j:Â}(t:QE X ŷ ýb)(s:Āa)(p:X.N[j]?=À y)(B:qg Ïa y)(b:Í (Ïb ŷ "pop" Ú ĥf=ě ŷ Ú) q12)(c:Í Éb q12)(a:Í (X.fn y=Ã\/Æd y=À .local) q7) :SS X (.Assign [.Name y yp] (.Call (.Attribute ŷ "pop" ύ) [] [] ş) pos) (Xm j i):=by
 show{{_,(Ml s p B (y7d ϋd PySem.F.slot_list_pop PySem.F.type_list_pop y0e t b c) rfl a).h,λ{I J G H τ σ C E} K a q=>?_}};unfold Xm at a
 rw[Ťp];rename_i A f;let{d,n,a}:=zG a;by_cases hne:j=i;rw[Ð hne]at a;cases a;rw[Ñ hne]at a;cases a;let{w,m,g,z,k,r,e,l}:=K.ow _ _ f;rw[List.getLast?_eq_getElem?]at n;let{v,o,u}:=e.get n;rw[<-Ãg]at o;show{_,m,.inl {rfl,k,Ĺa r},w,k,v,rfl,rfl,r,o,?_};show q _ _ _ ((K.UE (d':=.lst A.dropLast) f m {_,yh,đn e,?_}).set ąg.1 u);rw[Řl];omega;cases a
def oJ{i:Â}(N:QE X ŷ ýb)(P:SE X e f)(d:Í (Ïb ŷ "extend" Ú ĥf=ě ŷ Ú) q12)(j:Í Éb q12)(o:Í ÿa q12) :SS X (Μe (.Attribute ŷ "extend" ύ)) (vO i f):=by
 let{t,p,k}:=(zC P zN o).h;refine{{_,(Mj (Ta ϋd âl ßl i4 N {p} d j (by rw[Ų,o];rfl) Ñd) rfl).h,λ{S U G H τ σ I E} K a q=>?_}};unfold vO at a
 rw[Ťp];rename_i n r;let{y,Q,a}:=zG a;cases y with
 |lst ys=>
  change (ωc (τ.set i ħn))=À I at a
  rw[Ùq];let{O,u,g,z,s,B,w,l}:=K.ow _ _ r;refine{_,u,.inl {rfl,s,Ĺa B},k K (ds:=[.lst ys]) ël λW T R m J=>?_};let{v,rfl,b,C,rfl,L,A,_}:=qx J;refine{O,b,s,C,rfl,rfl,m.h _ _ B,uI m.gh L,by rw[ěe,Øj,ŕ];show c,?_};show q _ _ _ ((Ϛ m).UE r u {_,yh,(w.mono m.g).append A,?_});rw[éq]
 |_=>cases a
 cases a
def x0q{p p2 b:Pos}{fs:FA}(f:Ů=Ã)(x:Gl X Ģ)(I:ð Ģ=Å)(l:Gl X Ŕa)(m:ð Ŕa=Å)(F:SA X [e] fs)(r:Í ÿa q12) :SF X (.Call ŉn [.Call (.Name Ŕa p2) [e] [] b] [] pos) (eL EW fs):=by
 let{t,B,k}:=F.h;let u:=Xk (p:=p2) (pos:=b) z2p l m ģo {B} Ò Ò (by rw[Ų,r];rfl);refine{{_,(Xk (p:=p) (pos:=pos) (z2n f) x I LP (Mi u Kg) Ò Ò).h,λ{L O G H τ σ d Q} E a q=>?_}};let{z,s,a}:=zG a;show k E s λK N J n C=>?_
 match z,a with
 | [.int j],a=>
  change (if 0<=j/\j<=1000000 then À (ťd ((ûp).map λk:Â=>.int k))else Å)=À d at a
  by_cases c:0<=j/\j<=1000000;rw[Ð c]at a;cases a;let{v,rfl,A}:=qx C;cases(show v=.int j from A);refine{j,rfl,c.1,λp y=>{p,ϱ,rfl,yh,by omega,λw g=>?_}};let i:=Ēj (ĵa (o:=JC p ϱ) n.gh y);show q w _ _ Ĝl (Îj g) ĸn {_,yh,y8b _,?_};rw[å,ëa,ŕ];exact ϱ<=16777216;omega;rw[Ñ c]at a;cases a
#print a
structure Zx(K:Ô)(H0 G H:Hp)(p:Ë)(qs:Á Ë)(nds:Á Ÿa):È where
 hp:H p=À (Β (Ģb όa))
 p0:H0 p=Å
 pg:G p=Å
 np:p ∉ qs
 nd:Çj
 ln:Ğo=Žf
 el:∀(j:Â)(q:Ë),qs[j]?=À q->∃ds vs,nds[j]?=À ds/\H q=À Ķp/\H0 q=Å/\G q=Å/\ë K G ds vs/\þ<=ã
structure XG(K:Ô)(n:Â)(G0 H0 G H:Hp)(τ:zu)(σ:St)(i:Â)(nds:Á Ÿa):È where
 env:zp K n G0 H0 G H τ σ
 no:jT τ=Ã
 UG:∃p qs,σ[i]?=À Ăp/\Zx K H0 G H p qs nds
inductive NF where
 |nx (nds:Á Ÿa) (τ:zu)
 |rt (d:D)
abbrev qh:=Á Ÿa->zu->É NF
def Us(K:Ô)(n:Â)(b a:Hp)(E:ug)(i:Â):NF->È
 |.nx nds τ=>∀σ G H,XG K n b a G H τ σ i nds->E.nx σ H|.rt d=>∀v G H,zQ b a G H->zY K G d v->E.rt v H
structure NS(X:Cx)(i:Â)(st:Ü)(f:qh):È where
 h:∃t,PS X st t/\∀{G0 H0 G H:Hp}{τ:zu}{σ:St}{nds:Á Ÿa} {fl:NF} {E:ug},XG X.K ñ G0 H0 G H τ σ i nds->f nds τ=À fl->Us X.K ñ G0 H0 E i fl->t E σ H
structure JA(X:Cx)(i:Â)(st:Á Ü)(f:qh):È where
 h:∃t,uO X st t/\∀{G0 H0 G H:Hp}{τ:zu}{σ:St}{nds:Á Ÿa} {fl:NF} {E:ug},XG X.K ñ G0 H0 G H τ σ i nds->f nds τ=À fl->Us X.K ñ G0 H0 E i fl->t E σ H
section
variable{K:Ô}{n:Â}{G0 H0 G H G' H':Hp}{τ:zu}{σ:St}{i:Â}{nds:Á Ÿa}{p:Ë}{qs:Á Ë}
def H_(x:zQ G H G' H'){a:Ë}(c:G a=Å)(b:H a≠Å):G' a=Å:=by
 cases e:G' a with
 |Å=>rfl|À u=>rcases Ϩc a ϗg with w|w;show Ý c w;show Ý w b
def Zx.go(N:Zx K H0 G H p qs nds)(x:zQ G H G' H'):Zx K H0 G' H' p qs nds:={x.h _ _ N.hp,N.p0,H_ x N.pg (by rw[N.hp];show λz=>nomatch z),N.np,N.nd,N.ln,λj q b=>by let{c,e,e1,e2,d,a,r,l}:=N.el j q b;show{c,e,e1,x.h _ _ e2,d,H_ x a (by rw[e2];show λz=>nomatch z),öa x.g,l}}
theorem XG.go(N:XG K n G0 H0 G H τ σ i nds)(x:zQ G H G' H'):XG K n G0 H0 G' H' τ σ i nds:=by let{p,qs,e,w}:=N.UG;show{N.env.go x,N.no,p,qs,e,w.go x}
def MP(h:jT τ=Ã){j:Â}{d:D}(e:τ[j]?=À žb):ÿ:=by let:=ûa h _ (ϛ e);rw[Ĥq]
def zp.z0n(E:zp K n G0 H0 G H τ σ)(f:jT τ=Ã){q:Ë}{o:HO}(l:H0 q=Å)(i:G q=Å):zp K n G0 H0 G ļo τ σ:=by
 let a:∀{c:Hp},c q=Å->yE c H->yE c ļo:=λ{c} h s b u z=>by rw[yH (qS z h)];show s _ _ z
 show{{Ğj,a l Ņe,a i Ŭa,ϓf},ũ,Ũ,ŝa,λj d h=>(MP f h).elim,λj k d e p _ h=>(MP f h).elim}
def zp.unset(E:zp K n G0 H0 G H τ σ)(b:jT τ=Ã)(v:V):zp K n G0 H0 G H ød Āc:=by refine{Ŧb,by rw[Ϲ];show ũ,by rw[Ϸp],λj d h=>?_,λj d h=>?_,λj k d e p _ h=>?_};rcases vZ h with⟨_,z⟩|⟨a,z⟩;cases z;rw[uD a];show ŝa j d z;rcases vZ h with⟨_,z⟩|⟨a,z⟩;cases z;show(MP b z).elim;rcases vZ h with⟨_,z⟩|⟨a,z⟩;cases z;show(MP b z).elim
def y1h(h:jT τ=Ã)(i:Â):jT ød=Ã:=by
 show Öd λs a=>?_
 rcases ϱg a with z|z;show ûa h _ z;subst z;rfl
def K6(h:jT τ=Ã)(i:Â)(d:D):jT żh=Ã:=by
 show Öd λs a=>?_
 rcases ϱg a with z|z;show ûa h _ z;subst z;rfl
theorem zQ.uf(x:zQ G0 H0 G H):∀(l:Á Ë),l.Nodup->(∀a∈l,H0 a=Å/\G a=Å/\H a≠Å)->∃G',zQ G0 H0 G' H/\yE G G'/\(∀a∈l,G' a=H a)/\∀b,b ∉ l->G' b=G b
 | [],_,_=>{G,x,Œa _,λ_ h=>(Ëa h).elim,λ_ _=>rfl}|a::l,nd,h=>by
  let{q,m}:=řg nd;let{g,j,p,e1,i}:=zQ.uf x l m λb d=>h b (Ű _ d)
  let{n,o,k}:=h a Ĝ;cases e:H a with
  |Å=>show Ý e k|À u=>
   let f:g a=Å:=by rw[i a q];show o
   show{ze g a u,j.ye n f e,Đj (uk f u),λb d=>?_,λb d=>?_};by_cases c:b=a;subst c;rw[yh,e];rw[yH c];show e1 b ((ħ d).resolve_left c);rw[yH (λc:b=a=>d (by rw[c];show Ĝ)),i b λc=>d Ġd]
theorem Zx.rep(N:Zx K H0 G H p qs nds)(x:zQ G0 H0 G H)(o:Ğo<=ã):∃G',zQ G0 H0 G' H/\zY K G' (Β (nds.map .lst)) Ŭ:=by
 let c:∀a∈p::qs,H0 a=Å/\G a=Å/\H a≠Å:=λa i=>by rcases ħ i with rfl|i;show{N.p0,N.pg,by rw[N.hp];show λz=>nomatch z};let{j,A}:=List.getElem?_of_mem i;let{b,n,_,e2,w,v,_}:=N.el j a A;show{w,v,by rw[e2];show λz=>nomatch z}
 let{G',m,t,g,B}:=x.uf (p::qs) (Ùd {N.np,N.nd}) c;show{G',m,p,Ģb όa,rfl,Ĺa ((g p Ĝ).trans N.hp),?_,by rw[å];show o}
 let k:∀(j:Â)(q:Ë),qs[j]?=À q->∃b,nds[j]?=À b/\zY K G' üj (.ref q):=λj q s=>by let{b,n,e1,e2,_,_,r,l}:=N.el j q s;show{b,e1,q,n,rfl,Ĺa ((g q (Ű _ (ϛ s))).trans e2),öa t,l}
 let f:=N.ln;clear c N m g B o x t
 induction nds generalizing qs with
 |nil=>
  cases qs with
  |nil=>rfl|ú q qs=>cases f
 |ú d nds ih=>
  cases qs with
  |nil=>cases f|ú q qs=>
   let{b,e1,y}:=k 0 q rfl;cases e1
   show{_,_,rfl,y,ih (λj u h=>by let{b,e,r}:=k Ϫ u üa;show{b,by rw[ϵp],r}) ęh}
theorem Us.near{b c:Hp}{E:ug}{a:NF}(x:zQ G0 H0 b c)(h:Us K n G0 H0 E i a):Us K n b H0 E i a:=by
 cases a with
 |nx nds τ=>show λσ G H z=>h σ G H {zp.near x z.env,z.no,z.UG}|rt d=>show λv G H y r=>h v G H ëi r
#print a
nonrec def TN(f g:qh):qh:=λa τ=>(f a τ).bind λb=>match b with
 |.nx a τ=>g a τ|.rt d=>À (.rt d)
nonrec def i6(k v:FE):qh:=λa τ=>(k τ).bind λx=>(v τ).bind λy=>match x with
 |.int j=>match a[ϱ]? with
  |À ds=>if 0<=j/\þ<yV then À (.nx (a.set ϱ ġp) τ)else Å|Å=>Å
 |_=>Å
nonrec def IJ(g:FG)(b:qh):Á D->Á Ÿa->zu->É NF
 | [],nds,τ=>À (.nx nds τ)|d::ds,nds,τ=>(g d τ).bind λτ'=>(b nds τ').bind λa=>match a with
  |.nx ĥc τ''=>IJ g b ds ĥc τ''|.rt d=>À (.rt d)
def TM(it:FA)(g:FG)(b:qh):qh:=λa τ=>(it τ).bind λc=>IJ g b c a τ
nonrec def IM:qh:=λa _=>if ăa<=yV then À (.rt (Β (Ğc .lst)))else Å
section
variable{X:Cx}{i:Â}{x:Ç}{p pos Ça ύ ş xp sp:Pos}{e k v c tg Ŵ:Õ}{f fk fv:FE}{fs:FA}{st:Ü}{sts Ąb:Á Ü}{g g':qh}{fg:FG}
def y1o(b:NS X i st g)(c:JA X i sts g'):JA X i ϧi (TN g g'):=by
 let{t,p,k}:=b.h;let{u,e,f}:=c.h;show{{_,Md p e,λ{o s G H τ σ l n E} K a q=>?_}};let{j,b,a}:=zG a;show k K b ?_;cases j with
 |nx ĥc τ'=>show λσ' v r m=>f m a q|rt d=>cases a;show q
def K9(a:NS X i st g):JA X i [st] g:={let ⟨t,p,k⟩:=a.h;{t,Me p,k}}
def y1m(hu:űa+1<Ϙ)(ho:QE X ŷ ýb)(hk:SE X k fk)(hv:SE X v fv)(hp:Í ŧf q12)(g:Í (Ïb Éf ϲf Ú (ě Éf Ú)=ě Éf Ú) q12)(n:Í Éb q12)(Z:Í (xC v=Ã) q12) :NS X i (.Expr (.Call (.Attribute Éf ϲf ύ) [v] [] ş) pos) (i6 fk fv):=by
 let{tk,pk,kk}:=ϰc;let{t,pv,kv}:=(zC hv zN Z).h;refine{{_,(Mj (Ta ϋd ãl àl i0 (o:=.Subscript ŷ k sp) {MV (f6 (X:=X)) ho.h pk (Ma hp)} {pv} g n (by rw[Ų,Z];rfl) Ñd) rfl).h,λ{G0 H0 G H τ σ I fl E} K b q=>?_}};let{xk,hk,b}:=zG b;let{y,hy,b}:=zG b;cases xk with
 |int j=>
  dsimp only at b;cases hds:I[ϱ]? with
  |Å=>rw[hds]at b;cases b|À ds=>
  rw[hds]at b;dsimp only at b;by_cases c:0<=j/\þ<yV;rw[Šp];let{a,m,ea,w}:=K.UG;show{_,ea,kk K.env hk λu G1 H1 J r1=>?_};cases(show u=.int j from r1);let L:=w.go J;have p:m[ϱ]?=À ğk:=Ē _;generalize ğk=q0 at p
  let N:qj (ŭe όa) j=À (.ref q0):=by let e:=z1e (xs:=ŭe όa) (j:=ϱ) (v:=.ref q0) (by rw[ņ,p];rfl);rw[show((ϱ:Â):Æ)=j by omega]at e;show e
  let{ds1,O,e1,e2,_}:=L.el _ _ p;refine{a,ŭe όa,j,.ref q0,rfl,rfl,Ĺa L.hp,N,.inl {rfl,O,Ĺa e2},kv (K.env.go J) (ds:=[y]) Ól λus G2 H2 x2 r2=>?_};let{u,r,rfl,U,hr}:=r2;cases(show r=[]from hr);let Q:=Ϛ (J.trans x2);let f:=L.go x2;let{ds2,B,s,R,h0,W,Y,l}:=f.el _ _ p;rw[hds]at s;cases s;refine{q0,B,u,rfl,rfl,R,by rw[ſc,ŕ];show c.2,?_};show q _ _ _ {Q.env.z0n Q.no h0 W,Q.no,a,m,ea,?_};let P:a≠q0:=λz=>w.np (z▸ϛ p)
  refine{by rw[yH P];show f.hp,f.p0,f.pg,f.np,f.nd,by rw[Ϲ];show f.ln,λj' q' d=>?_};by_cases cj:j'=ϱ;subst cj;rw[p]at d;cases d;show{ds++[y],B++[u],YC (ķ hds).1,yh,h0,W,Y.append (ħe U),?_};rw[è,ŕ];show c.2;let C:q'≠q0:=λz=>cj ((ďm (ķ d).1 f.nd).mp (by rw[d,p,z]))
  let{S,T,f1,f2,f3}:=f.el _ _ d;show{S,T,by rw[uD cj];show f1,by rw[yH C];show f2,f3};rw[şp]
 |_=>cases b
structure FQ(X:Cx)(i:Â)(tg:Õ)(fg:FG):È where
 h:∃t,PG X tg t/\∀{G0 H0 G H:Hp}{τ τ':zu}{σ:St}{d:D}{v:V}{Q:St->Hp->È},zp X.K ñ G0 H0 G H τ σ->jT τ=Ã->zY X.K G d v->fg d τ=À τ'->(∀σ',zp X.K ñ G0 H0 G H τ' σ'->jT τ'=Ã->σ'[i]?=σ[i]?->Q σ' H)->t v σ H Q
def x0x{j:Â}(h:QG X ía (uS j))(hi:X.N[j]?=À x)(a:Í (i≠j) q10):FQ X i ía (zt j):={{_,h.h,λK b r c q=>by cases c;show q _ Ϯm (K6 b _ _) (uD a)}}
def x0w{j l:Â}{y:Ç}{g p2:Pos}{f:Â}(h:QG X Ĺk (V3 X.K 2 (jw (uS j) (jw (uS l) V2))))(hi:X.N[j]?=À x)(u:X.N[l]?=À y)(c:Í (i≠j) q10)(e:Í (i≠l) q10):FQ X i Ĺk (vq j l):=⟨⟨_,h.h,λ{B F G H τ τ' σ d v Q} K t r b q=>by
 unfold vq at b
 rw[Ñq];rename_i z C;cases b;let{a,A,rfl,k,{w,E,rfl,p,{o,s,rfl,m,n}},_}:=r;cases(show s=[]from n);show{a,_,rfl,um ųa k,rfl,w,_,rfl,o,_,rfl,rfl,?_};show q _ ((K.set ìb.1 p).set (ķ u).1 m) (K6 (K6 t _ _) _ _) (by rw[uD e,uD c]);cases b⟩⟩
def iR(S:ϛb Ą X.A Ú ĩ)(hc:Ů=Ã)(hi:SI X tg Ŵ fs)(U:FQ X i tg fg)(hb:JA X i Ąb g)(v:Í (∀x,Ðb Ŵ Ú x=pure x) q11):NS X i ϯg (TM fs fg g):=by
 let{ti,Z,O}:=Ħc;let{P,C,W}:=U.h;rw[Ġq];show{{_,Mc S hc Z C pb v,λ{G0 t G H τ σ nds s E} K b q=>?_}};let{c,I,b}:=zG b;show O K.env I λJ n Ha xa _ o=>?_
 let k:=Ϛ xa;let u:=Us.near k.env.ext q;show{λj m σ H=>m=äa-j/\j<=äa/\∃τ G nds,XG X.K ñ n t G H τ σ i nds/\IJ fg g (Ŕd j) nds τ=À s,{äa,rfl,ϐ _,τ,n,nds,{k.env.WH,k.no,k.UG},b},?_};rintro j m σ H ⟨rfl,Q,τ,G,nds,K,b⟩;by_cases hlt:j<äa;refine .inr {o.go j G H Đi ái hlt,λσ' f=>∃τ G nds,XG X.K ñ n t G f τ σ' i nds/\IJ fg g (Ŕd Ϫ) nds τ=À s,λσ' f z=>{äa-Ϫ,by omega,rfl,hlt,z},λx f y=>?_};let{G3,d,x3,r,Y}:=o.tD j G H x f Đi ái hlt y;rw[Űb hlt]at b;rw[Ē hlt]at r;cases r;let{τ1,R,b}:=zG (show(fg _ τ).bind _=_ from b);let{f1,F,b}:=zG b;let p:=Ϛ x3;let{a,L,T,w}:=p.UG;refine W p.env p.no Y R λσ1 E1 l s1=>kb (nds:=nds) {E1,l,a,L,by rw[s1];show T,w} F ?_
 cases f1 with
 |nx Ϯc τ2=>show λσ2 G2 H2 B=>{τ2,G2,Ϯc,B,b}|rt d=>cases b;show u
 let e:Ŕd j=[]:=Ïd Ê;rw[e]at b;cases b;show .inl {o.stop j G H Đi ái Ê,u _ _ _ K}
def y1n(f:Í òd q12)(hv:Í ėd q13)(h:Í Ł q10)(d:Í Ŭb q10):NS X i ăl IM:=by show{{_,IY (VU f hv h d),λ{n o G H τ σ e l E} K b q=>?_}};unfold IM at b;by_cases c:Ãg<=yV;rw[Šp];let{a,m,j,w}:=K.UG;let{k,g,r}:=w.rep K.env.ext (by rw[ŕ];show c);show{_,j,q _ k H g r};rw[şp]
#print a
def Tb(i:Â)(a:zu->É Â)(g:qh):FS:=λτ=>match jT τ with
 |Ä=>Å|Ã=>(a τ).bind λm=>(g ňi ød).bind λb=>match b with
  |.rt d=>À Ēo|.nx _ _=>Å
nonrec def IL(it:FA):zu->É Â:=λτ=>(it τ).bind λa=>À ăa
section
variable{X:Cx}{i:Â}{x:Ç}{pos Ça p spos:Pos}{e tg Ŵ:Õ}{st:Ü}{fi:zu->É Â}{fs:FA}{yC:Á Ü}{g:qh}{Ľ:ça}{cl:Á Ϥa}{own:Á Ç}{tG:TG}{fg:FG}
def y0q{G0 H0 G H t r:Hp}{τ:zu}{σ:St}{J:It}{ds:Á D}{Q:Ë->Hp->È}(L:gY X.K J t ds)(l:þ<=ã)(K:zp X.K ñ G0 H0 G H τ σ)(O:zQ G H t r)(hg:BG X Ľ cl own tg tG fg)(T:∀d τ,(ğp).isSome=Ã)(q:∀p qs G' H',zQ G H G' H'->Zx X.K H G' H' p qs (Ņ þ [])->Q p H') :∃W:Â->Â->Á V->Hp->È,(∃m,W 0 m [] r)/\IG σ Îb J tG RG (oy Vo) W λys H'=>∀p,H' p=Å->Q p (ze H' p ύb):=by
 let Ka:=Ϛ O;show{λi m ys H'=>m=þ-i/\i<=þ/\∃(G':Hp) (qs:Á Ë),zQ t r G' H'/\ys=Ģb όa/\Žf=i/\Çj/\∀b∈qs,H' b=À ăc/\r b=Å/\G' b=Å,{þ,rfl,ϐ _,t,[],Ņa Ka.ext.gh,rfl,rfl,Ùb,λ_ h=>(Ëa h).elim},?_};rintro i m ys I ⟨rfl,hle,C,qs,o,rfl,U,Y,F⟩;by_cases hlt:i<þ;refine .inr {L.go i C I o.g o.gh hlt,by rw[å];omega,λys H'=>∃(G':Hp) (qs:Á Ë),zQ t r G' H'/\ys=Ģb όa/\Žf=i+1/\Çj/\∀b∈qs,H' b=À ăc/\r b=Å/\G' b=Å,λys' H' z=>{þ-î,Ëf _ _ hlt,rfl,hlt,z},λv H' y=>?_};let{Z,d,x,ed,rv}:=L.tD i C I v H' o.g o.gh hlt y;let K3:=((Ka.go o).go x).more Îb;let{τ1,h1}:=Óc (T d İh);show hg.k K.l2 K.l1 Z H' d v τ1 _ K3 rv h1 λρ K4=>{{ρ,rfl},?_}
 rw[ŕp];unfold RG;rw[ŕp];rw[Ð rfl];show{ϐ _,λb f=>?_};let n:=đj x
 let a:b ∉ qs:=λz=>by let:=x.h _ _ (F b z).1;rw[this]at f;cases f
 refine{Z,qs++[b],Ēj (ĵa n.gh f),by rw[Ĩa];rfl,by rw[è,U];rfl,?_,λc E=>?_};show Áf {Y,Ùd {Ëa,Ùb},λu hu w hw e=>a (by cases Į hw;show e▸hu)};rcases ż E with z|z;let{A,R,P}:=F c z;let S:=x.h _ _ A;refine{by rw[yH (λe:c=b=>a (e▸z))];show S,R,H_ x P (by rw[A];show λz=>nomatch z)};cases Į z;show{yh,n.h.free f,n.gh.free f};let ei:i=þ:=by omega
 subst ei;show .inl {L.stop þ C I o.g o.gh Ġ,λb f=>?_};let B:=O.trans o
 let a:b ∉ qs:=λz=>by rw[(F b z).1]at f;cases f
 refine q b qs C _ (B.trans (ĵa B.gh f)) {yh,B.h.free f,B.gh.free f,a,Y,by rw[ġa];show U.symm,λj c E=>?_};let s:=ϛ E;let{A,R,P}:=F c s;show{[],[],?_,by rw[yH (λe:c=b=>a (e▸s))];show A,O.h.free R,P,rfl,ϐ _};rw[Êd,Ð (by let:=(ķ E).1;omega)]
structure bS(X:Cx)(i:Â)(st:Ü)(f:zu->É Â):È where
 h:∃t,PS X st t/\∀{G0 H0 G H:Hp}{τ:zu}{σ:St}{m:Â}{E:ug},zp X.K ñ G0 H0 G H τ σ->f τ=À m->(∀p qs G' H',zQ G H G' H'->Zx X.K H G' H' p qs ňi->E.nx Ìf H')->t E σ H
def x1g(a:Ů=Ã)(o:Āa)(e:X.N[i]?=À x)(y:Æd x=À .local)(B:Yy X Ľ cl own)(f:ņb ñk āp Žo Ú=pure Ã)(hi:SI X tg Ŵ fs)(k:BG X Ľ cl own tg tG fg)(j:∀d τ,(ğp).isSome=Ã)(n:Í (∀x,Ðb Ŵ Ú x=pure x) q11) :bS X i (.Assign [.Name x Ça] ñk spos) (IL fs):=by let{I,w,t}:=Ħc;show{{_,lV a o e y B f w (λC s H c b=>(k.q C s H c b).h) (λC s H c b=>lz) (λC s H c b=>l8 VS) n,λ{A O G H τ σ m E} K g q=>?_}};let{L,r,g}:=zG g;cases g;show t K r λJ F P z l v=>y0q (Q:=λp u=>E.nx Ìf u) v l K z k j q
def x1y(hi:X.N[i]?=À x)(C:bS X i st fi)(L:JA X i yC g):qI X (st::yC) (Tb i fi g):=by
 let{t,p,k}:=C.h;let{P,J,z}:=L.h;show{{_,Md p J,λ{O u G H τ σ f E} K b q=>?_}};unfold Tb at b;cases no:jT τ with
 |Ä=>rw[no]at b;cases b|Ã=>
 rw[no]at b;let{m,s,b}:=zG (show(fi τ).bind _=À f from b);let{v,n,b}:=zG b;show k K s λa e y B x w=>?_
 let c:i<ñ:=ìb.1
 let A:Zx X.K u y B a e ňi:={w.hp,İf w.p0,w.pg,w.np,w.nd,w.ln,λj q F=>by let{I,l,e1,e2,r,o}:=w.el j q F;show{I,l,e1,e2,İf r,o}}
 refine z (nds:=Ņ m []) (τ:=τ.set i Å) {(Ϛ x).unset no _,y1h no i,a,e,YC (by rw[K.l1];show c),A} n ?_;cases v with
 |nx nds τ2=>cases b|rt d=>cases b;show q
#print a
#print L3
namespace L2
open Ķ ő Ŗa Ň
section
variable{ă:ï}{w:æ}{A:ø}{E:Value->Î->È}
def cN{s:Î}{a:Ë}{kvs:Á Ňa}{ep:Â}{Q:Á Value->Î->È}(q:āa=Å)(lo:ĩa=Ä)(m:Òe ïa a kvs ep)(t:ň<=ã)(h:∀h' tk vs,č=ň->(∀(j:Â)(v:Value),vs[j]?=À v->∃k x,kvs[j]?=À (k,x)/\(ïa).is k v=Ã)->Û<ŏn->(∀b ob,ö b=À ob->Ċ b=À ob)->Q vs { s with ç:=h',đ:=tk }):Ø é A Èp Q E s:=by
 rw[ϑp];let i:a<Û:=m.lt_size;let f:Û≠a:=xS (ņa i);rw[Ád ϵ]
 refine W.kdl_extend (R:=λr n=>match r with
  |.ok (.ret v)=>Ø é A (match v with
   |ĕ a=>(do
    let o <-load a
    match ϩ with
    |.seq xs _=>pure Żf|_=>Ϫn Ím)
   |_=>Ϫn Ím) Q E n
  |.ok _=>ÿ|.error e=>E e n) (s:={ s with ç:=Ía Õd }) (W.kdl_dict (knd:=xR ă w) (kvs:=kvs) (ep:=ep) lo) (by show q) (m.push _) Û f f Ēa 0 Şc (λh' tk c u p g d=>?_) t
 show Ó (ĳi g ?_);exact Ø _ _ (pure Ðj) _ _ _;refine ò (h h' tk Ðj (by rw[ĳ];show d.1) (λj v e=>d.2 j v (by rw[<-Ģa];show e)) Ĺd λb ob e=>?_);show p b ob (xS øp) ġd
def eM(vs:Á Value)(kvs:Á Ňa)(ns:Á Æ)(b:č=ň)(a:ϑc (·.1)=Ða ı)(c:∀(j:Â)(v:Value),vs[j]?=À v->∃k x,kvs[j]?=À (k,x)/\(ïa).is k v=Ã):ôb vs ns:=by
 revert kvs ns
 induction vs with
 |nil=>
  intro kvs ns b a _;cases kvs with
  |nil=>
   cases ns with
   |nil=>show .nil|ú n ns=>cases a
  |ú _ _=>cases b
 |ú v vs ih=>
  intro kvs ns b a c;cases kvs with
  |nil=>cases b|ú kx kvs=>
   cases ns with
   |nil=>cases a|ú n ns=>let{k,x,e,z}:=c 0 v rfl;cases e;let d:k=ı n:=ım.1;subst d;let{t,rfl}:=Ċm (k:=n) (v:=v) z;show .cons _ _ (ih kvs ns àf ım.2 λj u f=>by simpa using c Ϫ u ęh)
def x1k{s:Î}{a:Ë}{kvs:Á Ňa}{ep:Â}{ns:Á Æ}{Q:Value->Î->È}(u:āa=Å)(lo:ĩa=Ä)(z:Òe ïa a kvs ep)(hk:ϑc (·.1)=Ða ı)(t:Ŝ<64)(h:∀h' tk p out c ns',Û<=p->Ċ p=À Ėh->ôb ûe ns'->Ëj ns->Ñi (·<=·)->(∀b ob,ö b=À ob->Ċ b=À ob)->Q Ŭ { s with ç:=h',đ:=tk }) :Ø é A ſh Q E s:=by
 let C:ň=Ŝ:=by
  let:=Ŧ ëe hk
  rwa [å,å]at this
 let n:ň<=ã:=by rw[ŕ];omega
 rw[ŗp];refine Ó (m:=ĺi Ūa 1 1 _) (Δa (cN ćo lo z n λi tk d o x k l=>Ó (Ôf ?_ (by rw[o];show n))));let v:=eM d kvs ns o hk x;let g:Òa<64:=by omega
 let j:(i.push ϰe).get? ϰn=À ϰe:=ű _ rfl;show Ó (Ţa (ĉb Ųh {_,j,rfl} Œh (ųh j v g λout ns' B y q=>{_,rfl,?_}) Ĝh));let{c,r}:=Ϟh (vs:=d) (out:=out) j;show ò {_,rfl,h _ tk ϰn out c ns' (ìa k) r B y q λb ob e=>?_};let f:=ġ œo;rw[űh ůn Źk];show ė _ œo
#print a
section
variable{X:Cx}
theorem HV:∀{kvs:Á ϲ} {vs:Á Ňa},KV kvs vs->Ĕg (·.1)=ϑc (·.1)
 |_,_,.nil=>rfl|_,_,.cons r t=>by rw[ľ,ľ,HV t,r.1]
def y80:Á V->Hp->VK->È:=λb H Q=>∃(a:Ë) (kvs:Á ϲ) (ns:Á Æ),b=ϥ/\Rd H a ř/\ϑc (·.1)=Ða ı/\Ŝ<64/\∀l,H l=Å->Q řb Ÿg
def z2s(d:Ů=Ã):wu X ϡd y80:=by
 intro T s σ H U W Q I r h;let{a,F,b,rfl,C,n,f,q}:=h;let{u,rfl,v}:=uq r;cases(show u=ĕ a from v);let{_,B,z,i,o,t,x,P,J,y,K,A,R}:=gf Ė C;let G:Òe ĺf a z x:={o,t,P,J,y,K,A,R};show x1k (óa d) B G ((HV i).trans n) f λh' L p k c j l N S E m O=>?_
 let e:j=Ϸa b:=B7 (E.trans (üg).symm) m (ße b);subst e;let g:(Ϸa b).length=Óa:=(üg).length_eq;show{.ref p,_,Ża (t':=L) (h':=h') O l (show xT õ X.w _ _ _ ül from{?_,k.toList,c,M5 S,?_}),rfl,q _ (Ĕb l)};rw[å,g];rw[đq];show N
#print a
#print L2
namespace L3
open Ķ ő Ň L2
nonrec def ZK:Á Ĺ->É Ϡf
 | []=>À []|.inl i::r=>(ZK r).bind λa=>À όj|.inr _::_=>Å
theorem MB:∀{ks:Á Ĺ} {ns:Á Æ},ZK ks=À ns->ks=Ða ı
 | [],_,h=>by cases h;rfl|.inl i::r,_,h=>by let{ns,a,h}:=zG h;cases h;rw[MB a];rfl
 |.inr _::_,_,h=>by cases h
def EZ:Á D->É D
 | [.dic ks _]=>(ZK ks).bind λa=>if ăa<64 then À Ël else Å|_=>Å
def x0s{X:Cx}{e:Õ}{fs:FA}{p pos:Pos}(f:Ů=Ã)(u:Gl X Ūa)(B:ð Ūa=Å)(A:SA X [e] fs)(m:Í ÿa q12) :SF X Üp (eL EZ fs):=by
 let{t,y,k}:=A.h;refine{{_,(Ij (p:=p) (pos:=pos) (z2s f) u B E7 {y} Ò Ò (by rw[Ų,m];rfl)).h,λ{I N G H τ σ d Q} E b q=>?_}};let{x,o,b}:=zG b;show k E o λF L C i z=>?_
 match x,b with
 | [.dic ks xs],b=>let{j,w,b}:=zG b;by_cases c:İa<64;rw[Ð c]at b;cases b;let{v,rfl,a,r,rfl,n,K,J,l}:=qx z;show{a,Œd r,j,rfl,ϱb i.gh n,?_,c,λs g=>?_};rw[<-MB w];show öf Ê;show q s _ _ Ĝl (Îj g) ĸn {_,yh,ĝd,?_};rw[å,(èc j).length_eq,ŕ];exact _<=16777216;omega;rw[Ñ c]at b;cases b
#print L3
namespace L2
open Ķ ő Ŗa Ň
section
variable{X:Cx}{x:Ç}{e:Õ}{es:Á Õ}{t:TA}{p pos:Pos}{i j:Â}
nonrec def ot(X:Cx)(j i:Â)(t:TA):TE:=λσ H Q=>∃(f:Ë) (fd:Ń) (ps:Á Ç) (k:Â) (sp:Sp),σ[i]?=À ŋa/\k<=j/\Ôa X.K Ĥ=Ã/\vy X.K fd ps []/\xP õ X.w X.K ð ĵ xK k f fd ps sp/\t σ H λb a=>sp (b++[]) a Q E0
def y5r(C:yf j X.A)(n:PE X ſb ýb)(B:PA X ď t)(a:Í Üa q12):PE X Ľa (ot X j i t):=by intro g s σ H Q I h;let{f,G,O,k,J,o,l,m,b,F,h}:=h;rw[Ų,Č]at a;show Èd (zw (n g s σ H (λv d=>v=.ref f/\d=H) I {_,o,rfl,rfl}) λu w ⟨v,d,y,z,e1,e2⟩=>?_);subst e1 e2;cases z;show Ăd (h₀:=ĵ) ċd m (zw (B pos g w σ _ _ y h) λL E ⟨K,N,c,r,q⟩=>{c.wE,?_}) (tm a.1) (ZX a.2);show Vc F (īg l) b .nil YT c r q
#print a
#print L2
namespace L3
open Ķ ő Ň L2
def zp.z0g{K:Ô}{n:Â}{m o G H:Hp}{τ:zu}{σ:St}{i:Â}(E:zp K n m o G H τ σ)(v:V):zp K n m o G H ød Āc:=by refine{Ŧb,by rw[Ϲ];show ũ,by rw[Ϸp],λj d h=>?_,λj d h=>?_,λj k d e p c s q l g=>?_};rcases vZ h with⟨_,z⟩|⟨b,z⟩;cases z;rw[uD b];show ŝa j d z;rcases vZ h with⟨_,z⟩|⟨b,z⟩;cases z;rw[uD b];show Ŝa j d z;rcases vZ s with⟨_,a⟩|⟨t,a⟩;cases a;rcases vZ q with⟨_,f⟩|⟨r,f⟩;cases f;rw[uD t]at l;rw[uD r]at g;show Ćb j k d e p c a f l g
def Up(X:Cx)(j:Â)(f:Ë)(F:Á D->É ä):È:=∃(fd:Ń) (ps:Á Ç) (k:Â),k<=j/\Ôa X.K Ĥ=Ã/\vy X.K fd ps []/\xP õ X.w X.K ð ĵ xK k f fd ps Ŏi
structure BX(X:Cx)(i:Â)(t:TS)(f:Ë)(g:FS):È where
 h:∀{G0 H0 G H:Hp}{τ:zu}{σ:St}{fl:Fl}{E:ug},zp X.K ñ G0 H0 G H τ σ->σ[i]?=À ŋa->g τ=À fl->tS X.K ñ G0 H0 E fl->t E σ H
inductive Z3(X:Cx)(i:Â)(t:TS):Á Ë->Á FS->È
 |nil:Z3 X i t [] []
 |ú {f:Ë} {fs:Á Ë} {g:FS} {gs:Á FS}:BX X i t f g->Z3 X i t fs gs->Z3 X i t (f::fs) (g::gs)
theorem Z3.len{X:Cx}{i:Â}{t:TS}:∀{fs:Á Ë}{gs:Á FS},Z3 X i t fs gs->ŉa=gs.length
 |_,_,.nil=>rfl|_,_,.cons _ h=>by rw[Ĉ,Ĉ,h.len]
theorem Z3.get{X:Cx}{i:Â}{t:TS}:∀{fs:Á Ë}{gs:Á FS}{k:Â}{f:Ë},Z3 X i t fs gs->fs[k]?=À f->∃g,gs[k]?=À g/\BX X i t f g
 |_,_,_,_,.nil,h=>by cases h|_,_,0,_,.cons b _,h=>by cases h;show{_,rfl,b}|_,_,k+1,_,.cons _ h,e=>Z3.get (k:=k) h Ła
nonrec def ZM(i:Â):Á FS->zu->É Fl
 | [],τ=>À (.nx τ)|g::gs,τ=>(g ød).bind λa=>match a with
  |.nx τ'=>ZM i gs τ'|.ct τ'=>ZM i gs τ'|.bk τ'=>À (.nx τ')|f=>À f
section
variable{X:Cx}{x y o gn:Ç}{e:Õ}{es:Á Õ}{fs:FA}{p p2 pos xp gp op ύ ş:Pos}{i io j:Â}{Ąb:Á Ü}{t:TS}{g:FS}
def Up.of{n:Ç}{ps:Á Ç}{k:Â}{f:Ë}{F:Á D->É ä}(h:wX õ X.w X.K ð ĵ n ps k Ŏi)(c:ð n=À Ĥ)(hk:Í ϵa q10):Up X j f F:=by let{g,e,a,d,b,F}:=h;rw[c]at a;cases a;show{e,ps,k,hk,d,b,F}
def z2d{m:TA}(O:∀{g l G H:Hp}{τ:zu}{σ:St}{ds:Á D}{Q:Á V->Hp->È},zp X.K ñ g l G H τ σ->fs τ=À ds->(∀vs G' H',zQ G H G' H'->ë X.K G' ds vs->Q vs H')->m σ H Q){f:Ë}{F:Á D->É ä}(h:Up X j f F){g l G H:Hp}{τ:zu}{σ:St}{d:D}{Q:VK}(E:zp X.K ñ g l G H τ σ)(n:σ[i]?=À ŋa)(a:zg F fs τ=À d)(q:∀v G' H',zQ G H G' H'->zY X.K G' d v->Q v H'):ot X j i m σ H Q:=by
 let{z,I,k,s,w,b,A}:=h;let{ds,x,a}:=zG a;obtain⟨⟨o,t⟩,C,a⟩:=zG a;cases a;refine{f,z,I,k,_,n,s,w,b,A,O E x λvs L P c J=>{L,ds,o,t,ħc,by rw[ώ];show J,C,?_}};cases o with
 |Ä=>show λv G' H' e r=>q v G' H' (Ěb e) r|Ã=>intro p G' H' e B gp o;let{u,y,r}:=o.ye gp;show q _ _ _ (Ěb (e.ye B gp y)) r
def z24(Z:yf j X.A)(N:PE X ŷ ýb)(Q:QE X Üd (py io))(W:SA X ď fs)(T:Í Üa q12)(d:Í òk q12)(k:Í Éb q12) :∃t,uO X [.Expr (.Call ϑk [.Call ŷ ď [] p2] [] ş) pos] t/\∀f F,Up X j f F->BX X i t f (vO io ăp):=by
 let{ta,Y,O}:=W.h;refine{_,Me (Mj (Ta ϋd âl ßl i4 Q {Xh (y5r Z N Y T) VS rfl} d k rfl Ñd) rfl).h,λf F R=>{λ{G0 H0 G H τ σ J E} K C a q=>?_}};unfold vO at a
 rw[Ťp];rename_i n p;let{y,U,a}:=zG a;cases y with
 |lst ys=>
  change (ωc (τ.set io ħn))=À J at a
  rw[Ùq];let{S,s,g,z,r,B,v,l}:=K.ow _ _ p;show{_,s,.inl {rfl,r,Ĺa B},z2d O R K C U λu G1 H1 m L=>?_};let{b,I,rfl,P,w,_}:=L;refine{S,b,r,I,rfl,rfl,m.h _ _ B,uI m.gh P,by rw[v.length,ěe,ŕ];show c,?_};show q _ _ _ ((Ϛ m).UE p s {_,yh,(v.mono m.g).append w,?_});rw[éq]
 |_=>cases a
 cases a
def x1w{a:Ë}{fs:Á Ë}{c:Á FS}(T:ϛb Ą X.A Ú ĩ)(W:Ů=Ã)(r:PE X Üe (tC Ō))(l:∀H,xJ X.K H a ùd)(S:QG X ŷ ϸb)(hi:X.N[i]?=À x)(Y:uO X Ąb t)(L:Z3 X i t fs c)(P:Í (∀x,Ðb Üe Ú x=pure x) q11):SS X (.For ŷ Üe Ąb [] pos) (ZM i c):=by
 show{{_,Mc T W (lD r) S.h Y P,λ{I J G H τ σ F E} K b q=>?_}};show{a,rfl,{_,l H},?_};let gl:=L.len;show{λk m σ H=>m=äa-k/\k<=äa/\∃τ G,zp X.K ñ I J G H τ σ/\ZM i (Ŕd k) τ=À F,{äa,rfl,ϐ _,τ,G,K,b},?_};rintro k m σ H ⟨rfl,R,τ,G,K,b⟩;by_cases hlt:k<äa;let j:fs[k]?=À ϊn:=Ē Ê;generalize ϊn=f at j;let C:ùd[k]?=À (όa f):=by rw[ņ,j];rfl
 refine .inr {{_,_,l H,C},λσ' u=>∃τ G,zp X.K ñ I J G u τ σ'/\ZM i (Ŕd Ş) τ=À F,λσ' u z=>{äa-Ş,by omega,rfl,hlt,z},λv u y=>?_};let{rfl,y}:=y;let e:=y _ (l _);rw[C]at e;cases e;let{g,O,B}:=L.get j;rw[Űb hlt]at b;rw[Ē hlt]at O;cases O;let{U,Q,b}:=zG (show(c[k] ød).bind _=_ from b);let p:i<ñ:=ìb.1;refine B.h (K.z0g (i:=i) Ĥ) (YC (by rw[K.l1];show p)) Q ?_;cases U with
 |nx τ2=>show λσ2 s Z n=>{τ2,s,n,b}|ct τ2=>show λσ2 s Z n=>{τ2,s,n,b}|bk τ2=>cases b;show q|rt o d=>cases b;show Ŀe q êa êa êa rfl
 let e:Ŕd k=[]:=Ïd Ê;rw[e]at b;cases b;show .inl {{_,l H,by rw[å];omega},q _ _ _ K}
#print a
def FU(K:Ô)(a:Ç->É Value)(A:Ë)(Ťb:Á Ç):È:=∃fs:Á Ë,(∀H,xJ K H A ùd)/\Ŧi a=Ϙc λf=>À Ĥ
inductive ZB(X:Cx)(j:Â):Á Ç->Á Ϲd->È
 |nil:ZB X j [] []
 |ú {n:Ç} {ns:Á Ç} {F:Á D->É ä} {Fs:Á Ϲd} {ps:Á Ç} {k:Â} (h:wX õ X.w X.K ð ĵ n ps k Ŏi) (r:ZB X j ns Fs) (hk:Í ϵa q10):ZB X j Čg (F::Fs)
section
variable{X:Cx}{x y o gn:Ç}{e:Õ}{es:Á Õ}{fs:FA}{p p2 pos Ça xp xp2 gp op ύ ş:Pos}{i io j:Â}{g:FS}{a:Ë}{Ťb:Á Ç}{Fs:Á Ϲd}{gs:Á FS}
theorem cC{t:TS}{G:Ϲd->FS}(a:∀f F,Up X j f F->BX X i t f (G F)):∀{Ťb:Á Ç}{Fs:Á Ϲd} {as:Á Ë},ZB X j Ťb Fs->Ŧi ð=as.map (λf=>À Ĥ)->Z3 X i t as (Fs.map G)
 |_,_,[],.nil,_=>.nil|_,_,_::_,.nil,h=>by cases h|_,_,[],.cons _ _ _,h=>by cases h|_,_,f::as,.cons hh r hk,h=>by
  rw[ľ,ľ]at h;injection h with h1 h2
  show .cons (a _ _ (Up.of hh h1 hk)) (cC a r h2)
def x1v(v:ϛb Ą X.A Ú ĩ)(m:Ů=Ã)(E:vB ð gn Ō)(g:Gl X gn)(k:FU X.K ð a Ťb)(q:ZB X j Ťb Fs)(G:yf j X.A)(u:QG X ŷ ϸb)(hi:X.N[i]?=À x)(y:QE X Ŋn ýb)(p:QE X Üd (py io))(C:SA X ď fs)(d:gs=Fs.map λF=>vO io ăp)(f:Í ((gn==("__debug__" : Ç))=Ä) q10)(z:Í Üa q12)(b:Í òk q12)(c:Í Éb q12)(l:Í (∀x,Ðb Üe Ú x=pure x) q11) :SS X (.For ŷ Üe [.Expr (.Call ϑk [.Call Ŋn ď [] p2] [] ş) Ça] [] pos) (ZM i gs):=by subst d;let{t,B,r}:=z24 (p2:=p2) (pos:=Ça) (ύ:=ύ) (ş:=ş) G y.h p C z b c;let{H,s,n}:=k;show x1w v m (IW E g f) s u hi B (cC r q n) l
#print a
section
variable{α:Type}{P:Á α->È}
def rP(h:P []):∀us:Á α,áa=0->P us
 | [],_=>h
def OB{n:Â}(h:∀a (r:Á α),Ϟ=n->P Ŝd):∀us:Á α,áa=n+1->P us
 |a::r,e=>h a r (îd e)
def us1(h:∀a,P [a]):∀us:Á α,áa=1->P us:=OB λa=>rP (P:=λr=>P Ŝd) Ÿe
def us2(h:∀a b,P ŵe):∀us:Á α,áa=2->P us:=OB λa=>us1 (P:=λr=>P Ŝd) Ÿe
def us3(h:∀a b c,P [a,b,c]):∀us:Á α,áa=3->P us:=OB λa=>us2 (P:=λr=>P Ŝd) Ÿe
def us4(h:∀a b c d,P [a,b,c,d]):∀us:Á α,áa=4->P us:=OB λa=>us3 (P:=λr=>P Ŝd) Ÿe
def us5(h:∀a b c d e,P [a,b,c,d,e]):∀us:Á α,áa=5->P us:=OB λa=>us4 (P:=λr=>P Ŝd) Ÿe
#print a
abbrev Lo(x:Ç)(st:Ü)(oc:Value)(od:É Ë)(sl:Ù ϡa)(kV dc pm:Value)(an:É Ë)(cd ct:Value):É Obj:=À {oc,od,.func (Ϡc x x Ňd Öa ō .none kV dc pm an cd ct),sl}
#print L3
namespace L2
open Ķ ő Ŗa Ň
def z8c{k:zW}{v:Value}(h:tL k v=Ã):zy Žj v:=by rcases jP h with⟨i,t,rfl,rfl⟩|⟨x,t,rfl,rfl⟩;show{t,rfl};show{t,rfl}
theorem IB:∀{kvs:Á ϲ} {vs:Á Ňa},KV kvs vs->č=ň
 |_,_,.nil=>rfl|_,_,.cons _ t=>by rw[Ĉ,Ĉ,IB t]
#print L2
namespace L3
open Ķ ő Ŗa Ň L2
nonrec def ſa:zW->D
 |.inl i=>.int i|.inr x=>.str x
nonrec def TW:zW->Ï
 |.inl _=>Ã|.inr x=>decide (Ϥb<=yV)
def z8d{K:Ô}{G:Hp}{k:zW}(h:TW k=Ã):zY K G (ſa k) Žj:=by
 cases k with
 |inl i=>rfl|inr x=>show{rfl,by rw[ŕ];show š h}
#print L3
namespace L2
open Ķ ő Ŗa Ň
section
variable{X:Cx}{zA:Á ô}{σ:St}{H:Hp}{s:Î}{a:Ë}{o:Obj}{kvs:Á ϲ}
def Inv.swap(I:Inv X zA σ H s)(e:H a=À u)(A:∀x,u≠.own x)(l:∀xs,u≠.tup xs)(k:∀ps,úb a≠À Ėe)(o:∀ob v,úb a≠À ői)(t:∀xs,úb a≠À Ōa)(h:xT õ X.w óo á a u'):Inv X zA σ óo s:=by
 let f:∀b,H b=Å->b≠a:=λb d z=>by subst z;rw[e]at d;cases d
 show{ϳc,Êc,Ža,{Ĕf,íe,λb ob q n B=>?_,ãe,λb xs q=>?_,λb ob v q=>?_,λb ps q=>?_},ĝa,Ĵa,?_,λx c q=>?_,λp r=>?_,λb v q=>?_,āb};let:=ôd b ob q n B;rw[yH (f b this)];rw[Œp];let d:b≠a:=λz=>by subst z;show t xs q
 rw[yH d];show će b xs q;let d:b≠a:=λz=>by subst z;show o ob v q
 rw[yH d];show Će b ob v q;let d:b≠a:=λz=>by subst z;show k ps q
 rw[yH d];show Ĉe b ps q;rw[yH (f _ ża)];show ża;rw[yH (f _ (İb x c q))];show İb x c q;let{m,i,j}:=ĺa p r;show{m,by rw[yH (f _ i)];show i,j};by_cases d:b=a;subst d;rw[yh]at q;cases q;show h;rw[yH d]at q;show(Ė b v q).Yw (λc w _ z=>z) (λc z=>?_) λc xs z=>?_;let g:c≠a:=λy=>by subst y;rw[e]at z;cases z;show A _ rfl
 rw[yH g];show z;let g:c≠a:=λy=>by subst y;rw[e]at z;cases z;show l _ rfl
 rw[yH g];show z
def Inv.Ao(I:Inv X zA σ H s)(e:H a=À ř):(∀ps,úb a≠À Ėe)/\(∀ob v,úb a≠À ői)/\∀xs,úb a≠À Ōa:=by show{λps z=>?_,λob v z=>?_,λxs z=>?_};let{_,q}:=Ĉe a ps z;rw[e]at q;cases q;let q:=Će a ob v z;rw[e]at q;cases q;let q:=će a xs z;rw[e]at q;cases q
def Inv.up(I:Inv X zA σ H s)(e:H a=À ř):∃o,Inv X zA σ èi s:=by let{i,j,d}:=I.Ao e;let{z,y,k,r,b,f,h,g,c}:=(show xT õ X.w H á a ř from Ė a _ e);show{b,I.swap e êa êa i j d {g,z,y,k,r,b,f,h,g,c}}
def Inv.dn(I:Inv X zA σ H s)(e:H a=À ϛa)(n:(∀ps,úb a≠À Ėe)/\(∀ob v,úb a≠À ői)/\∀xs,úb a≠À Ōa):Inv X zA σ (ze H a ř) s:=by let{h,i,b}:=n;let{_,z,y,j,r,ob,d,f,g,c}:=(show xT õ X.w H á a ϛa from Ė a _ e);show I.swap e êa êa h i b {z,y,j,r,ob,d,f,g,c}
#print a
def x2v(i:Â)(t:TE):TE:=λσ H Q=>∃a,σ[i]?=À ϝi/\((∃o kvs,H a=À ϛa/\t σ H Q)\/∃kvs,H a=À ř/\∀o,t σ èi λv b=>b a=À ϛa/\Q v (ze b a ř))
def y64(h:PE X e t):PE X e (x2v i t):=by intro c s σ H Q I b;obtain⟨a,l,⟨_,_,_,b⟩|⟨g,e,b⟩⟩:=b;show h c s σ H Q I b;let{o,f}:=I.up e;show zw (h c s σ _ _ f (b o)) λu m ⟨v,k,d,r,j,q⟩=>{v,_,d.dn j (I.Ao e),r,q}
def F9(a:Ë)(o:Obj)(kvs:Á ϲ):It:={λi H=>H a=À ϛa/\i<ň,λi H v b=>b=H/\∃k u,kvs[i]?=À (k,u)/\v=kV k,λi H=>H a=À ϛa/\ň<=i}
def Eh(ok:wG P w H h)(e:H a=À ϛa)(d:ϩ=.dict es ep):ĩa=Ä/\∃vs,KV kvs vs/\h.DictAt êb a vs ep:=by let{g,z,y,vs,r,j,b,i,f,c}:=(show xT P w H h a ϛa from ok a _ e);rw[g]at f;cases f;show{y,vs,r,o,b,g,c.1,?_,c.2.2};let e1:=c.2.1;rw[d]at e1;cases e1;show d
theorem fM:∀{kvs:Á ϲ} {vs:Á Ňa} {i:Â} {k:zW} {x:Value},KV kvs vs->vs[i]?=À (k,x)->∃u,kvs[i]?=À (k,u)/\zy u x
 |_,_,_,_,_,.nil,e=>by cases e|_,_,0,_,_,.cons r t,e=>by cases e;let{b,a}:=r;show{_,Ŧ À (Prod.ext b rfl),a}
 |_,_,i+1,_,_,.cons _ t,e=>fM (i:=i) t Ła
def x4h{P:ï}{w:æ}{K:Ô}{tg:Õ}{kvs:Á ϲ}{o:Obj}{es:Ù þc}{ep:Â}(a it:Ë)(d:ϩ=.dict es ep) :Zz P w K tg ϑn [it] it (λi h=>h.IsKeyIter it a i ň ep) where
 mem:=by simp
 obj:=λi h st b l=>by
  let e:b=it:=by simpa using l
  rw[őp]
 Śa:=λi h t st k=>st.at λo e=>k it ó o e
 ăb:=by
  rw[Śp];let Y:i<Ña:=by rw[m];show n.2
  let q:g[i]?=À (g[i].1,g[i].2):=Ē Y;let{u,S,_}:=fM f q;let{L,C,R,B,y,N}:=r it ó;rw[<-m]at st;show wpAny_pyNext_dict_item st J q λG t p j U=>?_
  rw[m]at j;let T:Inv X O σ H { s with ç:=t }:=ñb (t':=Đ) (λb o l e=>(U.2 b l).trans e) L C B y N;let{o,e,c,d}:=id j;show{G,rfl,Jk (s:={ s with ç:=t }) e c d Ò {kV g[i].1,H,T,z8c p,{rfl,_,_,S,rfl},j,λb l=>(r b l).1}}
 done:=by rw[Śp];let q:g[i]?=Å:=ŀa (by rw[m];show n.2);let{L,C,R,B,y,N}:=r it ó;rw[<-m]at st;show wpAny_pyNext_dict_end (óa Q) st J q λt Z=>{rfl,ñb (t':=Đ) (λb o l e=>Z b o l e) L C B y N}
 Âc:=λ_ _ _ _ _ st h=>wpAny_pyIter_keyiter st h
def z79(i:Â):TI:=λσ H R=>∃a o kvs,σ[i]?=À ϝi/\H a=À ϛa/\R ϑn H
def y6e{X:Cx}{tg:Õ}{x:Ç}{p:Pos}{i:Â}(q:X.N[i]?=À x)(hv:gX Ïa x)(r:Í Ł q10)(m:Í Ŭb q10):PI X tg ſb (z79 i):=by
 intro u s σ H R I l;let{a,o,f,F,e,l}:=l;show zw (VU (pos:=p) q hv r m u s σ H (λv j=>v=.ref a/\j=H) I {_,F,rfl,rfl}) λv h ⟨y,j,d,A,e1,e2⟩=>?_
 subst e1 e2;cases(show v=ĕ a from A);let{g,_,_,_,_,K,G,J,n,_,c,_}:=(show xT õ X.w j h.heap a (.ye o (.dK f))from d.zh a _ e);rw[g]at n;cases n;let{z,t,k,C}:=Eh d.zh e c;let E:Ŵa=ĭa:=IB k;show wpAny_pyIter_dict z C ?_;rw[E];show{ĸh,[ĸh],_,_,j,rfl,ğg (t':=h.toks) λb o e=>ė _ e,x4h a _ c,{_,ű _ rfl,rfl,rfl},λb B=>?_,l};let e:b=ĸh:=by simpa using B
 rw[Ûq]
#print L2
namespace L3
open Ķ ő Ŗa Ň L2
structure Tw(a:Ë)(kvs:Á ϲ)(G G':Hp):È where
 ne:∀b,b≠a->G' b=G b
 l:Rd G a ř
 r:Rd G' a ř
section
variable{K:Ô}{a:Ë}{o:Obj}{kvs:Á ϲ}{G G' H H' G0 H0:Hp}
def Rd.tw(t:Tw a kvs G G')(c:∀ob v,u≠.ye ob v)(h:Rd G b u):Rd G' b u:=by
 rw[ϗp]
 let e:u=.dK kvs:=by rcases h with h|⟨ob,h⟩<;>rcases t.l with l|⟨oc,l⟩<;>rw[l]at h;cases h;rfl;cases h;show Ý rfl (c oc _);cases h;cases h;rfl
 rw[e];show t.r;rcases h with h|⟨ob,h⟩;show .inl (by rw[Ćq]);show .inr {ob,by rw[Ćq]}
theorem Tw.at{b:Ë}{u:HO}(t:Tw a kvs G G')(h:G b=À u)(d:u≠.dK kvs)(c:∀o,u≠.ye o ř):G' b=À u:=by rw[ϗp];rcases t.l with l|⟨oc,l⟩<;>rw[l]at h;cases h;show Ý rfl d;cases h;show Ý rfl (c oc);rw[Ćq]
theorem zY.tw(t:Tw a kvs G G'):∀{d:D}{v:V},zY K G d v->zY K G' d v:=λ{d}=>by show Ŏg (P:=λd=>∀v,zY K G d v->zY K G' d v) Ļo ŧn ťn Ťn ?_ ?_ ?_ ?_ ?_ d _;rw[Ϡp];rcases q with q|q;show .inl ϭm;show .inr q;rw[Ϡp];rcases q with q|q;show .inl ϭm;show .inr q;rintro k g f v ⟨b,c,e,q,z,r,l⟩;show{b,c,e,Rd.tw t Ļk q,z,ðb f r,l};rintro x v ⟨b,C,e,n,h⟩;show{b,C,e,n,t.at h ħa êa};rintro x m g f v ⟨b,C,j,c,e,n,h,l,r⟩;show{b,C,j,c,e,n,t.at h ħa êa,l,ðb f r}
theorem Reps.tw(t:Tw a kvs G G')(h:ë K G ds vs):ë K G' ds vs:=ðb (λ_ _ _=>zY.tw t) h
theorem vW.tw(t:Tw a kvs G G')(f:H' p=H p)(c:vW K G H d p):vW K G' H' d p:=by
 cases d with
 |lst ds=>let{b,e,r,l}:=c;show{b,by rw[f];show e,r.tw t,l}
 |dic ks ds=>let{b,e,z,r,l}:=c;show{b,by rw[f];show e,z,r.tw t,l}
 |_=>show c.elim
def rE(e:G a=À ř):Tw a kvs G éi:={λb c=>yH c,.inl e,.inr {o,yh}}
def x4o(e:G a=À ϛa):Tw a kvs G (ze G a ř):={λb c=>yH c,.inr {o,e},.inl yh}
nonrec def Tu(a:Ë)(f:HO)(H0:Hp):Hp:=λb=>if b=a then(H0 a).bind λ_=>À f else H0 b
def x6t(h:b≠a):Tu a f H0 b=H0 b:=Ñ h
def x6u:Tu a f H0 b=Å↔H0 b=Å:=by
 unfold Tu;by_cases h:b=a;subst h;rw[Ð rfl];cases H0 b with
 |Å=>show{λ_=>rfl,λ_=>rfl}|À u=>show{λz=>(nomatch z),λz=>(nomatch z)}
 rw[Ñ h]
theorem x6s(h:Tu a f H0 a=À u):u=f:=by
 unfold Tu at h;rw[Ð rfl]at h;cases e:H0 a with
 |Å=>rw[e]at h;cases h|À w=>rw[e]at h;cases h;rfl
def zp.up(E:zp K n G0 H0 G H τ σ)(e:G a=À ř):zp K n éi (Tu a ϛa H0) éi èi τ σ:=by
 let t:=rE (o:=o) e;show{{Œa _,λb u h=>?_,Pe Ŭa,λ_ h=>.inl h},ũ,Ũ,λi d h=>?_,λi d h=>?_,Ćb};rw[ϗp];rw[yh,x6s h];rw[x6t hb]at h;rw[yH hb];show Ņe _ _ h;let{v,c,r}:=ŝa i d h;show{v,c,r.tw t};let{p,c,g,z,j}:=Ŝa i d h;let f:p≠a:=λz=>by subst z;rw[e]at g;cases g
 show{p,c,by rw[yH f];show g,x6u.mpr z,j.tw t (yH f)}
#print a
def Kn(K:Ô)(i:Â)(τ:zu)(σ:St)(G:Hp):È:=∃a o ks ds vs,τ[i]?=À ċl/\σ[i]?=À ϝi/\G a=À Ďo/\ŀ=č/\ë K G ds vs/\þ<=ã
structure bQ(X:Cx)(i:Â)(e:Õ)(f:FE):È where
 h:∃t,PE X e t/\∀{G0 H0 G H:Hp}{τ:zu}{σ:St}{d:D}{Q:VK},zp X.K ñ G0 H0 G H τ σ->Kn X.K i τ σ G->f τ=À d->(∀p G' H',zQ G H G' H'->H p=Å->G' p=Å->vW X.K G' H' d p->Q Ŭ H')->t σ H Q
structure bR(X:Cx)(i:Â)(tg Ŵ:Õ)(f:FA):È where
 h:∃wi,PI X tg Ŵ wi/\∀{G0 H0 G H:Hp}{τ:zu}{σ:St}{ds:Á D}{R:It->Hp->È},zp X.K ñ G0 H0 G H τ σ->Kn X.K i τ σ G->f τ=À ds->(∀J G' H',zQ G H G' H'->þ<=ã->gY X.K J G' ds->R J H')->wi σ H R
def Ou(i:Â)(f:zu->É α):È:=∀τ x,f τ=À x->∃ks ds,τ[i]?=À ċl
def x0r(h:bQ X i e f)(hk:Ou i f):SF X e f:=by
 let{t,S,k}:=h.h;show{{_,y64 (i:=i) S,λ{U W G H τ σ d Q} K r q=>?_}};let{m,L,A}:=hk _ _ r;let{v,y,a,l,rfl,N,F,E,J}:=K.fr i _ A;show{a,y,?_};rcases N with e|⟨o,e⟩;show .inr {_,ųa _ _ e,λo=>?_};let P:=K.up (o:=o) e;show k P {a,o,m,L,l,A,y,yh,F,E.tw (rE e),J} r λp I R x C j O=>?_
 let T:H a=À _:=ųa _ _ e;let n:I a=À (.ye o ũh):=x.g _ _ yh
 let s:H p=Å:=by by_cases z:p=a;subst z;rw[n]at j;cases j;rw[yH z]at C;show C
 let B:p≠a:=λz=>by subst z;rw[n]at j;cases j
 show{ĭb _ _ n,q p (ze I a ũh) (ze R a ũh) {λb u c=>?_,λb u c=>?_,Pe ĭb,λb c=>?_} s (by rw[yH B];show j) (O.tw (x4o n) (yH B))};rw[íq];rw[e]at c;cases c;show yh;rw[yH z];show x.g _ _ űl;rw[íq];rw[T]at c;cases c;show yh;rw[yH z];show x.h _ _ űl;rw[íq];show .inl ϗg;rw[yH z]at c;rcases Ϩc b c with w|w;rw[yH z]at w;show .inl w;rw[yH z]at w;show .inr w;show .inl {o,_,ųa _ _ e,k K {a,o,m,L,l,A,y,e,F,E,J} r q}
def T9(i:Â):FA:=λτ=>match τ[i]? with
 |À (À (Ä,.dic ks _))=>if ks.all TW=Ã then À Žn else Å|_=>Å
def z3r(i:Â):Ou i (T9 i):=λτ x a=>by
 unfold T9 at a
 rw[Ťp];rename_i b c e;show{b,c,e};cases a
def z3w{K:Ô}{G:Hp}{a:Ë}{o:Obj}{ks:Á zW}{vs:Á V}(j:ŀ=č)(e:G a=À Ďo)(h:ks.all TW=Ã):gY K (F9 a o Ýb) G Žn where
 go:=λi g H f c b=>{c _ _ Ġp,by rw[ąq]}
 tD:=λi g H x m f c b y=>by
  let{rfl,k,u,l,rfl}:=y
  let d:ks[i]?=À k:=by let:=Ŧ (Option.map Prod.fst) l;rw[<-ņ,öf Ê]at this;rw[Œp]
  show{g,ſa k,Ņa c,by rw[ņ,d];rfl,z8d (ûa h k (ϛ d))}
 Ϣ:=λi g H f c b=>{c _ _ Ġp,by rw[ąq]}
def x10{X:Cx}{tg:Õ}{x:Ç}{p:Pos}{i:Â}(j:X.N[i]?=À x)(hv:gX Ïa x)(k:Í Ł q10)(d:Í Ŭb q10):bR X i tg ſb (T9 i):=by
 show{{_,y6e j hv k d,λ{v w G H τ σ s R} K m b q=>?_}};let{a,o,f,l,u,t,h,e,g,r,n}:=m;unfold T9 at b;rw[t]at b
 change (if f.all TW=Ã then À Øp else Å)=À s at b
 by_cases c:f.all TW=Ã;rw[Šp];show{a,o,_,h,ųa _ _ e,q _ _ _ ëp ?_ (z3w g e c)};rw[å,g,Ϟ];show n;rw[şp]
def z3s(h:Ou i fs):Ou i (wK n fs fg ft f):=λτ x c=>by let{b,a,_}:=zG c;show h τ b a
section
variable{X:Cx}{i:Â}{tg Ŵ elt:Õ}{ifs:Á Õ}{Ľ:ça}{cl:Á Ϥa}{own:Á Ç}{pos:Pos}{fs:FA}{fg:FG}{ft:FT}{f:FE}{g:TG}
def x0p(a:Ů=Ã)(B:Yy X Ľ cl own)(hi:bR X i tg Ŵ fs)(m:BG X Ľ cl own tg g fg)(z:∀C s H fp pn,Uv éa ifs ft)(I:∀C s H fp pn,SE éa elt f)(n:Í (∀x,Ðb Ŵ Ú x=pure x) q11) :bQ X i Ĳb ÿh:=by
 let{S,w,t}:=Ħc;show{{_,l7 a B w (Εc (m.q C s H fp pn)) (Γc (z C s H fp pn)) (Βc (I C s H fp pn)) n,λ{N R G H τ σ d Q} K E b q=>?_}};let{T,r,b}:=zG b;let{F,A,b}:=zG b;cases b;show t K E r λJ O U j l u=>Hg u l (Ϛ j) A (m.k K.l2 K.l1) λo P L c v y p e=>?_
 show q p _ _ (ïg Ým) (j.h.free (Ñj e)) (ŭi e) {o,yh,v,y}
#print a
nonrec def Jw:Á D->É Ϡf
 | []=>À []|.int i::r=>(Jw r).bind λa=>À όj|_::_=>Å
theorem eI{K:Ô}{G:Hp}:∀{xs:Á D}{ns:Á Æ}{vs:Á V},Jw xs=À ns->ë K G xs vs->vs=Ða ϻa
 | [],ns,vs,h,r=>by cases h;show(show vs=[]from r)|.int i::xs,ns,vs,h,r=>by let{e,c,h}:=zG (show(ōj).bind _=_ from h);cases h;let{v,d,rfl,b,a}:=r;cases(show v=.int i from b);rw[eI c a];rfl
 |.zP::_,_,_,h,_=>by cases h|.bl _::_,_,_,h,_=>by cases h|.str _::_,_,_,h,_=>by cases h|.tup _::_,_,_,h,_=>by cases h|.lst _::_,_,_,h,_=>by cases h|.dic _ _::_,_,_,h,_=>by cases h|.exc _::_,_,_,h,_=>by cases h|.obj _ _ _::_,_,_,h,_=>by cases h
nonrec def EV:Á D->É D
 | [.dic ks _]=>À (.int ŀ)|_=>Å
def z2k:wu X íd Ïk:=by intro f s σ H xs e Q I r h;let{a,kvs,rfl,d,q}:=h;let{u,rfl,c}:=uq r;cases c;show z3n I d λt g b=>{.int ň,H,b,{t,rfl},q}
def y3s{K:Ô}:Wl K Ïk EV:=λG H g e d Q s r b q=>by
 match g,b with
 | [.dic ks xs],b=>cases b;let{v,i,rfl,h,j}:=r;cases(show i=[]from j);let{a,e,rfl,c,f,k,_}:=h;show{a,_,rfl,c,?_};rw[äc,<-f,łb];show q _ _ _ Ùa rfl
#print L3
namespace L3
open Ķ ő Ň L2
inductive M where
 |fz (d:D)|own (d:D)|obj (x:Ç) (fs:Á Ç) (ms:Á M)|tab (ks:Á Ĺ) (ms:Á M)|tp (ms:Á M)
mutual
nonrec def vJ:M->D
 |.fz d=>d|.own d=>d|.obj x fs ms=>.obj x fs üc|.tab ks ms=>.dic ks üc|.tp ms=>.tup üc
nonrec def ϩc:Á M->Á D
 | []=>[]|m::ms=>vJ m::ϩc ms
end
nonrec def ùa{κ α:Type}[Ňb κ]:Á κ->Á α->κ->É α
 |k'::ks,v::vs,k=>if k'=k then À v else ùa ks vs k|_,_,_=>Å
nonrec def uH{κ α:Type}[Ňb κ]:Á κ->Á α->κ->α->Á α
 |k'::ks,v::vs,k,y=>if k'=k then y::vs else v::uH ks vs k y|_,vs,_,_=>vs
inductive xt where
 |at(cs:Á Ç) (f:Ç)|ky (k:Sum Æ Ç)
def oP:M->xt->É M
 |.obj x fs ms,.at cs f=>if x∈cs then ùa fs ms f else Å|.tab ks ms,.ky k=>ùa ks ms k|_,_=>Å
def x0j:M->xt->M->M
 |.obj x fs ms,.at _ f,m=>.obj x fs (uH fs ms f m)|.tab ks ms,.ky k,m=>.tab ks (uH ks ms k m)|m,_,_=>m
def pP:M->Á xt->É M
 |m,[]=>À m|m,s::π=>(oP m s).bind λa=>pP a π
def pf:M->Á xt->M->É M
 |_,[],m'=>À m'|m,s::π,m'=>(oP m s).bind λb=>(pf b π m').bind λa=>À (x0j m s a)
abbrev Ft:=Ë->È
mutual
def xU(K:Ô)(G H:Hp):M->V->Ft->È
 |.fz d,v,L=>zY K G d v/\∀q,¬ L q|.own d,v,L=>∃p,v=.ref p/\vW K G H d p/\∀q,L q↔q=p|.obj x fs ms,v,L=>∃p C dx vs L',v=.ref p/\ϔ K Ę x=À Ėa/\H p=À Ìh/\ŉa=č/\ό K G H ms vs L'/\¬ L' p/\∀q,L q↔q=p\/L' q|.tab ks ms,v,L=>∃p vs L',v=.ref p/\H p=À öi/\ŀ=č/\ό K G H ms vs L'/\Ĭa<=ã/\¬ L' p/\∀q,L q↔q=p\/L' q|.tp ms,v,L=>∃p vs,v=.ref p/\xJ K G p vs/\ό K G H ms vs L/\Ĭa<=ã
def ό(K:Ô)(G H:Hp):Á M->Á V->Ft->È
 | [],vs,L=>vs=[]/\∀q,¬ L q|m::ms,vs,L=>∃v r L1 L2,vs=v::r/\xU K G H m v L1/\ό K G H ms r L2/\(∀q,L1 q->L2 q->ÿ)/\∀q,L q↔L1 q\/L2 q
end
def Ňg{P:M->È}(j:∀d,P ĺe)(own:∀d,P ûj)(c:∀x fs ms,(∀m∈ms,P m)->P ύh)(b:∀ks ms,(∀m∈ms,P m)->P ϗn)(i:∀ms,(∀m∈ms,P m)->P (.tp ms))(m:M):P m:=
 M.rec (motive_1:=P) (motive_2:=λms=>∀m∈ms,P m) j own (λx fs ms h=>c x fs ms h) (λks ms h=>b ks ms h) (λms h=>i ms h) ãm
  (λd k g a e f=>by rcases ħ f with z|z;show z▸g;show a e z) m
nonrec def cB:HO->Ï
 |.lst _=>Ã|.dK _=>Ã|.ins _ _ _=>Ã|_=>Ä
def Bx(H:Hp)(q:Ë):È:=∃u,H q=À u/\cB u=Ã
def Bx.some{H:Hp}{q:Ë}(b:Bx H q):H q≠Å:=by let{u,e,_}:=b;rw[e];show λz=>nomatch z
section
variable{K:Ô}{G H G' H':Hp}
def vW.loc{d:D}{p:Ë}(g:yE G G')(h:H' p=H p)(o:vW K G H d p):vW K G' H' d p:=by
 cases d with
 |lst ds=>let{a,e,r,l}:=o;show{a,ľd e,öa g,l}
 |dic ks ds=>let{a,e,z,r,l}:=o;show{a,ľd e,z,öa g,l}
 |_=>show Ěc
theorem Ųc:∀{ms:Á M}{vs:Á V}{L:Ft},(∀m∈ms,∀v L1,(∀q,L1 q->L q)->xU K G H m v L1->xU K G' H' m v L1)->ό K G H ms vs L->ό K G' H' ms vs L
 | [],_,_,_,h=>h|m::ms,vs,L,f,h=>by let{v,r,L1,b,e,j,k,d,u}:=h;show{v,r,L1,b,e,f m Ĝ v L1 Čl j,Ųc (λi g a c s o=>f i (Ű _ g) a c Ŏk o) k,d,u}
theorem xU.loc(g:yE G G')(m:M):∀(v:V)(L:Ft),(∀q,L q->H' q=H q)->xU K G H m v L->xU K G' H' m v L:=by show Ňg (P:=λm=>∀v L,(∀q,L q->H' q=H q)->xU K G H m v L->xU K G' H' m v L) ?_ ?_ ?_ ?_ ?_ m;rintro d v L h ⟨r,n⟩;show{öa g,n};rintro d v L h ⟨p,e,o,u⟩;show{p,e,Ńg g (h p Ϲm),u};rintro x F t i v L h ⟨p,C,B,b,j,e,w,k,l,r,n,u⟩;show{p,C,B,b,j,e,w,(Ϥf).trans k,l,Ųc Řk r,n,u};rintro E t i v L h ⟨p,b,j,e,k,l,r,A,n,u⟩;show{p,b,j,e,(Ϥf).trans k,l,Ųc Řk r,A,n,u};rintro t i v L h ⟨p,b,e,y,r,l⟩;show{p,b,e,um g y,Ųc (λm f a c s o=>i m f a c Řm o) r,l}
theorem ŗn:∀{ms:Á M}{vs:Á V}{L:Ft},ό K G H ms vs L->č=Ĭa
 | [],_,_,h=>by let{rfl,_}:=h;rfl
 |m::ms,_,_,h=>by let{v,r,b,c,rfl,_,a,_}:=h;rw[Ĉ,Ĉ,ŗn a]
theorem vW.bx{d:D}{p:Ë}(o:vW K G H d p):Bx H p:=by
 cases d with
 |lst ds=>let{a,e,_}:=o;show{_,e,rfl}
 |dic ks ds=>let{a,e,_}:=o;show{_,e,rfl}
 |_=>show Ěc
theorem ĉd:∀{ms:Á M}{vs:Á V}{L:Ft},(∀m∈ms,∀v L1,xU K G H m v L1->∀q,L1 q->Bx H q)->ό K G H ms vs L->∀q,L q->Bx H q
 | [],_,_,_,h,q,z=>Ý z (h.2 q)|m::ms,vs,L,f,h,q,z=>by let{v,r,L1,g,e,c,d,i,u}:=h;rcases(u q).mp z with z|z;show f m Ĝ v L1 c q z;show ĉd (λa b=>f a Œb) d q z
theorem xU.cells(m:M):∀(v:V)(L:Ft),xU K G H m v L->∀q,L q->Bx H q:=by show Ňg (P:=λm=>∀v L,xU K G H m v L->∀q,L q->Bx H q) ?_ ?_ ?_ ?_ ?_ m;rintro d v L ⟨r,n⟩ q z;show Ý z (n q);rintro d v L ⟨p,e,o,u⟩ q z;cases(u q).mp z;show o.bx;rintro x t c a v L ⟨p,C,s,f,g,e,h,b,l,r,n,u⟩ q z;rcases(u q).mp z with rfl|z;show{_,b,rfl};show ĉd a r q z;rintro j c a v L ⟨p,f,g,e,b,l,r,k,n,u⟩ q z;rcases(u q).mp z with rfl|z;show{_,b,rfl};show ĉd a r q z;rintro c a v L ⟨p,f,e,i,r,l⟩ q z;show ĉd a r q z
theorem RO:∀(ms:Á M),(üc).length=Ĭa
 | []=>rfl|m::ms=>by exact(üc).length+1=_;rw[RO ms];rfl
theorem Ĩe:∀{ms:Á M}{vs:Á V}{L:Ft},(∀m∈ms,∀v L1,(∀q,L1 q->L q)->xU K G H m v L1->zY K G' ŵj v)->ό K G H ms vs L->ë K G' üc vs
 | [],_,_,_,h=>h.1|m::ms,vs,L,f,h=>by let{v,r,L1,j,e,g,i,k,u}:=h;show{v,r,e,f m Ĝ v L1 Čl g,Ĩe (λd c a b s o=>f d Ġd a b Ŏk o) i}
theorem xU.pG(g:yE G G')(m:M):∀(v:V)(L:Ft),(∀q,L q->G' q=H q)->xU K G H m v L->zY K G' ŵj v:=by
 show Ňg (P:=λm=>∀v L,(∀q,L q->G' q=H q)->xU K G H m v L->zY K G' ŵj v) ?_ ?_ ?_ ?_ ?_ m;rintro d v L h ⟨r,n⟩;show öa g;rintro d v L h ⟨p,rfl,o,u⟩;let b:=h p Ϲm;cases d with
 |lst ds=>let{a,e,r,l}:=o;show{p,a,rfl,Ĺa (Ād e),öa g,l}
 |dic w ds=>let{a,e,z,r,l}:=o;show{p,a,rfl,.inl (Ād e),z,öa g,l}
 |_=>show Ěc
 rintro x F k i v L h ⟨p,C,A,a,E,e,t,b,l,r,n,u⟩;show{p,C,A,a,e,t,(Ϥf).trans b,l,Ĩe ŗk r};rintro w k i v L h ⟨p,a,E,e,b,l,r,y,n,u⟩;show{p,a,e,.inl ((Ϥf).trans b),l,Ĩe ŗk r,by rw[RO];show y};rintro k i v L h ⟨p,a,e,B,r,l⟩;show{p,a,e,um g B,Ĩe (λm f j c s o=>i m f j c Řm o) r,by rw[RO];show l}
theorem ée{κ:Type}[Ňb κ]{k:κ}{A:M}:∀{ks:Á κ}{ms:Á M}{vs:Á V}{L:Ft},ό K G H ms vs L->ùa ks ms k=À A->
  ∃v1 L1,ùa ks vs k=À v1/\xU K G H A v1 L1/\(∀q,L1 q->L q)/\∀{G' H':Hp}{m2:M}{L2:Ft},yE G G'->(∀q,L q->¬ L1 q->H' q=H q)->xU K G' H' m2 v1 L2->(∀q,L2 q->L q->L1 q)->ό K G' H' ϙm vs ϩk
 | [],_,_,_,_,e=>by cases e|_::_,[],_,_,_,e=>by cases e|k'::ks,m::ms,vs,L,h,e=>by
  let{v,r,n,t,rfl,x,y,b,u}:=h;unfold ùa at e;rw[śp];refine{v,n,by unfold ùa;rw[Ð c],x,λq z=>(ϴ).mpr èb,λ{G' H' m2 L2} g i p j=>?_};unfold uH;rw[Ð c];show{v,r,L2,t,rfl,p,?_,λq d a=>b q (j q d ((ϴ).mpr ýj)) a,λq=>?_};show Ųc (λF _ B C s o=>Ńg g F B C λq z=>i q (Ιa öe) λw=>b q w öe) y;rw[ϱp];rw[Ğq];rcases(u q).mp z with z|z;show Ý z w;rw[Ϯp];rw[ěq];show .inl {(ϴ).mpr īa,λw=>b q w z};rw[Ñ c]at e;let{v1,L1,e1,E,l,f}:=ée y e;refine{v1,L1,by unfold ùa;rw[Ñ c];show e1,E,λq z=>(ϴ).mpr (.inr (l q z)),λ{G' H' m2 L2} g i p j=>?_};unfold uH;rw[Ñ c];show{v,r,n,λq=>(t q/\¬ L1 q)\/L2 q,rfl,?_,f g (λq z w=>i q ϲd w) p (λq z w=>j q z ((ϴ).mpr (.inr w))),λq d a=>?_,λq=>?_}
  show x.loc g m v n λq z=>i q Êe λw=>b q z (l q w);rcases a with⟨a,_⟩|a;show b q d a;show b q d (l q (j q a ((ϴ).mpr Āj)));rw[ϱp];rw[Ğq];rcases(u q).mp z with z|z;rw[äq];rintro(z|⟨z,w⟩|z);show .inl {(ϴ).mpr èb,λw=>b q z (l q w)};rw[Āq]
#print a
def wf(K:Ô)(H:Hp):V->Á xt->V->È
 |v,[],u=>u=v|v,.at cs f::π,u=>∃p x C dx fs w,v=.ref p/\x∈cs/\ϔ K Ę x=À Ėa/\H p=À ēb/\ñc f=À w/\wf K H w π u|v,.ky k::π,u=>∃p kvs w,v=.ref p/\H p=À ř/\qW kvs k=À w/\wf K H w π u
theorem MK{κ α:Type}[Ňb κ][BEq κ][LawfulBEq κ]{k:κ}:∀{ks:Á κ}{vs:Á α},(Ýb).lookup k=ùa ks vs k
 | [],_=>rfl|_::_,[]=>rfl|k'::ks,v::vs=>by
  rw[Ďb,Ϸd];unfold ùa;by_cases c:k'=k;subst c;rw[Ð rfl];simp;rw[Ñ c];let:(k==k')=Ä:=by simpa using λz=>c Ŝb
  rw[this];show MK
theorem dU{α:Type}{k:Sum Æ Ç}:∀{ks:Á Ĺ} {vs:Á α},ùa ks vs k=ċ ks vs k
 | [],_=>by unfold ùa ċ;rfl|_::_,[]=>by unfold ùa ċ;rfl|k'::ks,v::vs=>by unfold ùa ċ;rw[ϲp];rw[Ñ c,Ñ c];show dU
section
variable{K:Ô}{G H G' H':Hp}
theorem ċj(s:yE H H'):∀{π:Á xt}{v u:V},wf K H v π u->wf K H' v π u
 | [],_,_,h=>h|.at cs f::π,_,_,h=>by let{p,x,C,d,g,w,e,i,c,a,l,r}:=h;show{p,x,C,d,g,w,e,i,c,s _ _ a,l,ċj s r}
 |.ky k::π,_,_,h=>by let{p,b,w,e,a,l,r}:=h;show{p,b,w,e,s _ _ a,l,ċj s r}
theorem Ϛc:∀{π:Á xt}{v u u':V},wf K H v π u->wf K H v π u'->u=u'
 | [],_,_,_,h,h'=>ľd h'.symm|.at cs f::π,_,_,_,h,h'=>by let{p,x,C,B,E,w,rfl,A,t,c,l,r}:=h;let{o,z,y,s,m,n,d,i,j,a,b,e}:=h';rw[Ϝp]
 |.ky k::π,_,_,_,h,h'=>by let{p,q,w,rfl,c,l,r}:=h;let{o,g,n,d,a,b,e}:=h';rw[Ϝp]
theorem Ċj:∀{π:Á xt}{s:xt}{v u:V},wf K H v (π++[s]) u->∃w,wf K H v π w/\wf K H w [s] u
 | [],_,v,_,h=>{v,rfl,h}|.at cs f::π,_,_,_,h=>by let{p,x,C,j,m,w,e,n,i,b,l,r}:=h;let{a,c,g}:=Ċj r;show{a,{p,x,C,j,m,w,e,n,i,b,l,c},g}
 |.ky k::π,_,_,_,h=>by let{p,d,w,e,b,l,r}:=h;let{a,c,g}:=Ċj r;show{a,{p,d,w,e,b,l,c},g}
theorem Ãj{m1:M}:∀{π:Á xt}{m:M}{v:V}{L:Ft},xU K G H m v L->pP m π=À m1->
  ∃v1 L1,wf K H v π v1/\xU K G H m1 v1 L1/\(∀q,L1 q->L q)/\∀{G' H':Hp}{m2:M}{L2:Ft},yE G G'->(∀q,L q->¬ L1 q->H' q=H q)->xU K G' H' m2 v1 L2->(∀q,L2 q->L q->L1 q)->
   ∃m',pf m π m2=À m'/\xU K G' H' m' v ϩk
 | [],m,v,L,h,e=>by
  cases e;show{v,L,rfl,h,λ_ z=>z,λ{G' H' m2 L2} g B J t=>{m2,rfl,?_}}
  let e:(λq=>(L q/\¬ L q)\/L2 q)=L2:=by
   funext q
   show ďj {λz=>ŭ (λw=>Ý w.1 w.2) id,.inr}
  rw[e];show J
 |s::π,m,v,L,h,e=>by
  let{P,b,ee}:=zG e
  let N:∀{p:Ë}{o L1 L2:Ft},¬ o p->(∀q,L q↔q=p\/o q)->(∀q,L1 q->o q)->(∀q,L2 q->L q->L1 q)->(¬ ((o p/\¬ L1 p)\/L2 p))/\∀q,((L q/\¬ L1 q)\/L2 q)↔q=p\/((o q/\¬ L1 q)\/L2 q):=λ{p o L1 L2} n u s t=>by show{?_,λq=>{?_,?_}};rintro(⟨z,_⟩|z);show n z;show n (s p (t p z ϩe));rw[Ğq];rcases(u q).mp z with z|z;rw[äq];rintro(rfl|⟨z,w⟩|z);show .inl {(ϴ).mpr Ŗ,λw=>n (s q w)};rw[Āq]
  cases m with
  |fz d=>cases b|own d=>cases b|tp a=>cases b|obj x fs a=>
   cases s with
   |ky k=>cases b| «at» cs f=>
    change ĵk=À P at b
    rw[ēq];let{p,C,dx,T,o,rfl,ns,I,l,r,n,u}:=h;rw[Ϛp];refine{v1,L1,{p,x,C,dx,_,va,rfl,hx,ns,I,by rw[MK];show e1,a1},Y,λq z=>(ϴ).mpr źl,λ{G' H' m2 L2} g B J t=>?_};let{m',W,S}:=Q g ŷk J Ŷk
    let O:=X g ŏk S ϭj
    let eL:ćk=Ϩk:=by
     funext q
     rw[żp]
    rw[eL]at O;let{U,R}:=N n u Ťl t;refine{.obj x fs (uH fs a f m'),by exact(Ńf ĵk _)=_;rw[Ð hx,b];exact Ńf Ŷn _=_;rw[W];rfl,p,C,dx,T,_,rfl,ns,?_,l,O,U,R};rw[B p ϩe λw=>n ķn];show I;rw[Ñ hx]at b;cases b
  |tab A a=>
   cases s with
   | «at» cs f=>cases b|ky k=>
    change ùa A a k=À P at b
    let{p,T,o,rfl,I,l,r,l2,n,u}:=h;rw[Ϛp];refine{v1,L1,{p,_,va,rfl,I,by rw[Vw _ l,<-dU];show e1,a1},Y,λq z=>(ϴ).mpr źl,λ{G' H' m2 L2} g B J t=>?_};let{m',W,S}:=Q g ŷk J Ŷk
    let O:=X g ŏk S ϭj
    let eL:ćk=Ϩk:=by
     funext q
     rw[żp]
    rw[eL]at O;let{U,R}:=N n u Ťl t;refine{.tab A ĳn,by exact(Ńf (ùa A a k) _)=_;rw[b];exact Ńf Ŷn _=_;rw[W];rfl,p,T,_,rfl,?_,l,O,?_,U,R};rw[B p ϩe λw=>n ķn];show I;let:∀{A:Á Ĺ} {a:Á M},(ĳn).length=ăa:=λ{A}=>by
     induction A with
     |nil=>intro a;rfl|ú k' A ih=>
      intro a;cases a with
      |nil=>rfl|ú y a=>
       unfold uH
       split;rfl;rw[Ĉ,Ĉ,ih]
    rw[this];show l2
#print a
abbrev yL:=Á Ĺj
nonrec def Ũb:M->É Sl
 |.fz d=>À (Ä,d)|_=>Å
def gj(β:yL):zu:=β.map λo=>ŗj Ũb
def p6(β:yL):zu:=β.map λo=>o.map λm=>(Ä,vJ m)
mutual
nonrec def u8:D->Ï
 |.zP=>Ã|.bl _=>Ã|.int _=>Ã|.str _=>Ã|.tup ds=>Ϻa ds|_=>Ä
nonrec def Ϻa:Á D->Ï
 | []=>Ã|d::ds=>u8 d&&Ϻa ds
end
def Hz:D->Ï
 |.lst ds=>Ϻa ds|.dic _ ds=>Ϻa ds|_=>Ä
structure aA(K:Ô)(H0 G H:Hp)(β:yL)(σ:St)(Ls:Â->Ft):È where
 at_:∀(i:Â)(m:M),β[i]?=À ϭa->∃v,σ[i]?=À ϯ/\xU K G H m v ϒj
 dj:∀(i j:Â)(q:Ë),i≠j->Ls i q->Ls j q->ÿ
 ok:∀(i:Â)(q:Ë),Ls i q->G q=Å/\H0 q=Å/\Bx H q
structure zx(K:Ô)(n:Â)(P:Á V)(G0 H0 G H:Hp)(β:yL)(σ:St):È where
 ext:zQ G0 H0 G H
 l1:σ.length=n
 l2:β.length=n
 lp:òa<=n
 pin:∀(i:Â)(v:V),P[i]?=À v->σ[i]?=À ϯ
 own:∃Ls,aA K H0 G H β σ Ls
section
variable{K:Ô}{n:Â}{P:Á V}{G0 H0 G H G' H':Hp}{β:yL}{σ:St}
def E6{q:Ë}(x:zQ G H G' H')(g:G q=Å)(b:Bx H q):G' q=Å/\Bx H' q:=by
 let{u,e,c}:=b;show{?_,u,x.h _ _ e,c};cases z:G' q with
 |Å=>rfl|À o=>rcases Ϩc q (by rw[z];show λw=>nomatch w)with w|w;show Ý g w;rw[e]at w;cases w
def zx.go(E:zx K n P G0 H0 G H β σ)(x:zQ G H G' H'):zx K n P G0 H0 G' H' β σ:=by let{j,F}:=ύa;show{Ëo x,ũ,Ũ,Ϗa,īb,j,λi m h=>?_,Êa,λi q z=>?_};let{v,e,o}:=Ğa i m h;show{v,e,Ńg x.g m v _ λq z=>?_};let{u,d,_}:=šc.2.2;rw[d];show x.h _ _ d;rw[Ϻp];let{f,k}:=E6 x a c;show{f,b,k}
def z77{i:Â}{b:Ï}{d:D}(h:ėe[i]?=À îe):b=Ä/\β[i]?=À (À ĺe):=by
 unfold gj at h;rw[ņ]at h;cases e:β[i]? with
 |Å=>rw[e]at h;cases h|À o=>
  rw[e]at h;cases o with
  |Å=>cases h|À m=>
   cases m with
   |fz d'=>cases h;show{rfl,rfl}|_=>cases h
def x3e{i:Â}{b:Ï}{d:D}(h:ċg[i]?=À îe):b=Ä/\∃m,β[i]?=À ϭa/\d=vJ m:=by
 unfold p6 at h;rw[ņ]at h;cases e:β[i]? with
 |Å=>rw[e]at h;cases h|À o=>
  rw[e]at h;cases o with
  |Å=>cases h|À m=>cases h;show{rfl,m,rfl,rfl}
def dA{τ:zu}(s:yE G H)(c:σ.length=n)(a:τ.length=n)(h:∀(i:Â)(b:Ï)(d:D),τ[i]?=À îe->b=Ä/\∃v,σ[i]?=À ϯ/\zY K G d v):zp K n G H G H τ σ:=
 {Ņa s,c,a,λi d e=>(h i Ä d e).2,λi d e=>(by cases(h i Ã d e).1),λi j d e p _ f=>(by cases(h i Ã d f).1)}
def zx.Qa(E:zx K n P G0 H0 G H β σ):zp K n G H G H ėe σ:=by
 let{c,F}:=ύa;refine dA Ŭa ũ (by unfold gj;rw[å];show Ũ) λi b d h=>?_
 let{rfl,a}:=z77 h;let{v,e,r,_}:=Ğa i _ a;show{rfl,v,e,r}
def z3h{b c:Hp}{L:Ft}(j:∀q,¬ L q->c q=b q)(g:∀q,L q->Bx b q){a:Ë}{vs:Á V}(h:xJ K b a vs):xJ K c a vs:=by
 let k:∀{u:HO},cB u=Ä->b a=À u->c a=À u:=λ{u} i e=>by rw[j a λz=>?_];show e;let{w,d,f}:=g a z;rw[e]at d;cases d;rw[i]at f;cases f
 rcases h with h|h;rcases h with h|⟨o,h⟩;show .inl (.inl (k rfl h));show .inl (.inr {o,k rfl h});show .inr h
def cW{g j:Hp}{L:Ft}(w:∀q,¬ L q->j q=g q)(o:∀q,L q->Bx g q)(d:D):∀(v:V),u8 d=Ã->zY K g d v->zY K j d v:=by
 show Ŏg (P:=λd=>∀v,u8 d=Ã->zY K g d v->zY K j d v) (λv _ h=>h) (λb v _ h=>h) (λi v _ h=>h) (λx v _ h=>h) ?_ (λc f v t=>by cases t) (λA c f v t=>by cases t) (λx v t=>by cases t) (λx B c f v t=>by cases t) d;rintro c f v t ⟨a,m,e,q,r,l⟩;show{a,m,e,z3h w o q,?_,l};let z:Ϻa c=Ã:=t;clear t q l
 induction c generalizing m with
 |nil=>show r|ú x c ih2=>let{u,n,rfl,s,y}:=r;let k:(u8 x&&Ϻa c)=Ã:=z;rw[Č]at k;show{u,n,rfl,f x Ĝ u k.1 s,ih2 (λd p=>f d (Ű _ p)) n y k.2}
theorem cX{a c:Hp}{L:Ft}(f:∀q,¬ L q->c q=a q)(e:∀q,L q->Bx a q):∀{ds:Á D}{vs:Á V},Ϻa ds=Ã->ë K a ds vs->ë K c ds vs
 | [],_,_,r=>r|d::ds,_,t,r=>by let{u,g,rfl,h,i}:=r;let b:én=Ã:=t;rw[Č]at b;show{u,g,rfl,cW f e d u b.1 h,cX f e b.2 i}
theorem zx.pG(E:zx K n P G0 H0 G H β σ):∃G1,zp K n G1 H G1 H ċg σ/\∀G2 H2,zQ G1 H G2 H2->∃G3,zQ G H G3 H2/\zx K n P G0 H0 G3 H2 β σ/\(∀d v,u8 d=Ã->zY K G2 d v->zY K G3 d v)/\(∀ds vs,Ϻa ds=Ã->ë K G2 ds vs->ë K G3 ds vs)/\∀q,G2 q=Å->G3 q=Å:=by
 classical
 let{C,F}:=ύa
 let +zeta L:Ft:=λq=>∃i,C i q
 let l:∀q,L q->G q=Å:=λq ⟨i,z⟩=>šc.1
 let s:∀q,L q->Bx H q:=λq ⟨i,z⟩=>šc.2.2
 let +zeta G1:Hp:=λq=>if L q then H q else G q
 let e1:∀q,L q->G1 q=H q:=λq z=>Ð z
 let e2:∀q,¬ L q->G1 q=G q:=λq z=>Ñ z
 let p:yE G G1:=λq o e=>by rw[e2 q λz=>by rw[l q z]at e;cases e];show e
 let y:yE G1 H:=λq o e=>by rw[Úq];rw[e1 q c]at e;show e;rw[e2 q c]at e;show Ŭa _ _ e
 refine{G1,dA y ũ (by unfold p6;rw[å];show Ũ) λi b d h=>?_,λG2 H2 x=>?_};let{rfl,m,B,rfl}:=x3e h;let{v,e,o}:=Ğa i m B;show{rfl,v,e,o.pG p m v _ λq z=>e1 q {i,z}};let +zeta G3:Hp:=λq=>if L q then Å else G2 q
 let a:∀q,¬ L q->G3 q=G2 q:=λq z=>Ñ z
 let f:∀q,L q->G3 q=Å:=λq z=>Ð z
 let k:∀q,L q->Bx G2 q:=λq z=>by let{u,A,c}:=s q z;show{u,x.g _ _ ((e1 q z).trans A),c}
 let j:zQ G H G3 H2:=by
  show{λq o e=>?_,x.h,λq o e=>?_,λq z=>?_};let c:¬ L q:=λz=>by rw[l q z]at e;cases e
  rw[a q c];show x.g _ _ (p _ _ e);rw[Úq];rw[f q c]at e;cases e;rw[a q c]at e;show ĭb _ _ e;rw[Úq];rw[f q c]at z;show Ý rfl z;rw[a q c]at z;rcases Ϩc q z with w|w;rw[e2 q c]at w;show .inl w;show .inr w
 show{G3,j,Ča j,λd v t r=>cW a k d v t r,λds vs t r=>cX a k t r,λq z=>?_};rw[Úq];show f q c;rw[a q c];show z
def B4{α:Type}{xs:Á α}{x y:α}{i:Â}(h:Ϣi[i]?=À y):(i<ì/\xs[i]?=À y)\/(i=ì/\y=x):=by
 rcases ìc i ì with c|c;rw[ľa c]at h;show .inl {c,h};rw[Ĵb c]at h;cases z:i-ì with
 |ů=>rw[z]at h;cases h;show .inr {by omega,rfl}|Ż k=>rw[z]at h;cases h
def gA{α:Type}{xs:Á α}{x:α}{n:Â}(h:ì=n):Ϣi[n]?=À x:=by subst h;rw[Ĵb Ġ,ϋb];rfl
def uZ{α:Type}{xs:Á α}{x:α}{i:Â}(h:i<ì):Ϣi[i]?=xs[i]?:=ľa h
def zx.push{m:M}{v:V}{L:Ft}(E:zx K n P G0 H0 G H β σ)(o:xU K G H m v L)(k:∀Ls,aA K H0 G H β σ Ls->∀i q,Ls i q->L q->ÿ)(ok:∀q,L q->G q=Å/\H0 q=Å/\Bx H q):zx K ģ P G0 H0 G H Úe ĕb:=by
 let{Ls,F}:=ύa;let f:=k Ls F;refine{Ŧb,by rw[è,ũ];rfl,by rw[è,Ũ];rfl,by let:=Ϗa;omega,λi u h=>?_,λj=>if j<n then Ls j else if j=n then L else λ_=>ÿ,λi r h=>?_,λi j q d b a=>?_,λi q z=>?_};let p:i<σ.length:=by rw[ϔp]
 rw[uZ p];show īb i u h;rcases B4 h with⟨c,e⟩|⟨c,e⟩;rw[Ũ]at c;let{u,l,g}:=Ğa i r e;refine{u,by rw[uZ ϗd];show l,?_};simp only[Ð c];show g;cases e;rw[Ũ]at c;subst c;show{v,gA ũ,?_};simp only[Ìc,Ăa,ź];show o;skip
 rw[Ñq];rw[Ťp];show Êa i j q d b a;rw[Ťp];show f i q b a;show a;rw[Ñq];rw[Ťp];show f j q a b;rw[Ťp];show d Ê;show a;show b;skip
 rw[ßq];show Ļa i q z;rw[ßq];show ok q z;show ŭ
def zx.UH{d:D}{v:V}(E:zx K n P G0 H0 G H β σ)(r:zY K G d v):zx K ģ P G0 H0 G H Ϙm ĕb:=
 E.push (L:=λ_=>ÿ) {r,λ_ z=>z} (λ_ _ _ _ _ z=>z) λ_ z=>ŭ
def zx.z0o{d:D}{p:Ë}(E:zx K n P G0 H0 G H β σ)(x:zQ G H G' H')(s:H p=Å)(B:G' p=Å)(o:vW K G' H' d p):zx K ģ P G0 H0 G' H' (β++[À ûj]) (σ++[À Ŭ]):=by
 let{v,F}:=ύa;let J:=Ča x;show{?_,?_,?_,?_,?_,?_}<;>try first|show J.ext|show(by rw[è,ũ];rfl)|show(by rw[è,Ũ];rfl)
 let:=Ϗa;omega;intro i u h
 let I:i<σ.length:=by rw[ϔp]
 rw[uZ I];show īb i u h;let r:∀i q,v i q->q≠p:=λi q z c=>by subst c;show šc.2.2.some s
 show{λj=>if j<n then v j else if j=n then(λq=>q=p)else λ_=>ÿ,λi t h=>?_,λi j q m k f=>?_,λi q z=>?_};rcases B4 h with⟨c,e⟩|⟨c,e⟩;rw[Ũ]at c;let{u,C,A}:=Ğa i t e;refine{u,by rw[uZ ϗd];show C,?_};simp only[Ð c];show A.loc x.g t u _ λq z=>?_
 rw[ćq];show{p,rfl,o,λq=>ēc};skip
 split at k;split at f;show Êa i j q m k f;split at f;show r i q k f;show f;split at k;split at f;show r j q f k;split at f;show m Ê;show f;show k;skip
 rw[ßq];rw[Ϻp];let{y,L}:=E6 x a c;show{y,b,L};rw[ßq];subst z;show{B,ãi s,o.bx};show ŭ
def zx.As{m:M}{v:V}{i:Â}(hi:i<n)(r:òa<=i)(d:σ.length=n)(b:β.length=n)(E:zx K ģ P G0 H0 G H Úe ĕb):zx K n P G0 H0 G H (β.set i ϭa) Āc:=by
 let{l,F}:=ύa;refine{Ŧb,by rw[Ϲ];show d,by rw[Ϲ];show b,by omega,λj u h=>?_,λj=>if j=i then l n else if j<n then l j else λ_=>ÿ,λj p h=>?_,λj k q e c a=>?_,λj q z=>?_};let o:j<òa:=Ϭa.1;rw[uD Ê];let:=īb j u h;rw[Üq];rcases vZ h with⟨rfl,w⟩|⟨e,w⟩;cases w;let{u,f,g}:=Ğa n m (gA b);rw[gA d]at f;cases f;simp only[ź];show{v,YC Ê,g};have o:j<n:=by rw[<-b];show(ķ w).1
 let{u,f,g}:=Ğa j p Ğl;rw[uZ Ê]at f;simp only[Ñ e,Ð o];show{u,by rw[uD e];show f,g};skip
 split at c;rw[Ťp];show e Ê;rw[Ťp];show Êa n k q Ê c a;show a;split at c;rw[Ťp];show Êa j n q Ê c a;rw[Ťp];show Êa j k q e c a;show a;show c;skip
 rw[ßq];show Ļa n q z;rw[ßq];show Ļa j q z;show ŭ
def zx.pop{m:É M}{v:É V}(b:σ.length=n)(a:β.length=n)(i:òa<=n)(E:zx K ģ P G0 H0 G H Ϣf ϡf):zx K n P G0 H0 G H β σ:=by
 let{e,F}:=ύa;show{Ŧb,b,a,i,λj u h=>?_,e,λj d h=>?_,Êa,Ļa};let f:j<òa:=Ϭa.1;let:=īb j u h;rw[Üq];have f:j<n:=by rw[<-a];show Ϭa.1
 let{u,c,g}:=Ğa j d (by rw[uZ Ê];show h);rw[uZ Ê]at c;show{u,c,g}
#print a
inductive gW where
 |nx (β:yL)|rt (m:M) (β:yL)|bk (β:yL)|ct (β:yL)
abbrev yZ:=yL->É gW
abbrev we:=yL->É (M×yL)
abbrev ui:=yL->É (Ï×yL)
def Uq(K:Ô)(n:Â)(P:Á V)(b a:Hp)(E:ug):gW->È
 |.nx β=>∀σ G H,zx K n P b a G H β σ->E.nx σ H|.bk β=>∀σ G H,zx K n P b a G H β σ->E.bk σ H|.ct β=>∀σ G H,zx K n P b a G H β σ->E.ct σ H|.rt m β=>∀σ v G H,zx K ģ P b a G H Úe ĕb->E.rt v H
section
variable(X:Cx)
structure MC(e:Õ)(f:we):È where
 h:∃t,PE X e t/\∀{P:Á V}{G0 H0 G H:Hp}{β β':yL}{σ:St}{m:M}{Q:VK},zx X.K ñ P G0 H0 G H β σ->f β=À (m,β')->(∀v G' H',yE G G'->zx X.K (ñ+1) P G0 H0 G' H' Þn ĕb->Q v H')->t σ H Q
structure MT(e:Õ)(f:ui):È where
 h:∃t,PT X e t/\∀{P:Á V}{G0 H0 G H:Hp}{β β':yL}{σ:St}{b:Ï}{Q:Ï->Hp->È},zx X.K ñ P G0 H0 G H β σ->f β=À (b,β')->(∀G' H',yE G G'->zx X.K ñ P G0 H0 G' H' β' σ->Q b H')->t σ H Q
structure MW(e:Õ)(f:ui):È where
 h:∃t,PW X e t/\∀{P:Á V}{G0 H0 G H:Hp}{β β':yL}{σ:St}{b:Ï}{Q:Ï->Hp->È},zx X.K ñ P G0 H0 G H β σ->f β=À (b,β')->(∀G' H',yE G G'->zx X.K ñ P G0 H0 G' H' β' σ->Q b H')->t σ H Q
structure MS(np:Â)(st:Ü)(f:yZ):È where
 h:∃t,PS X st t/\∀{P:Á V}{G0 H0 G H:Hp}{β:yL}{σ:St}{fl:gW}{E:ug},òa=np->zx X.K ñ P G0 H0 G H β σ->f β=À fl->Uq X.K ñ P G0 H0 E fl->t E σ H
structure jA(np:Â)(st:Á Ü)(f:yZ):È where
 h:∃t,uO X st t/\∀{P:Á V}{G0 H0 G H:Hp}{β:yL}{σ:St}{fl:gW}{E:ug},òa=np->zx X.K ñ P G0 H0 G H β σ->f β=À fl->Uq X.K ñ P G0 H0 E fl->t E σ H
#print a
section
variable{K:Ô}{n:Â}{P:Á V}{G0 H0 G H:Hp}{β:yL}{σ:St}{m:M}{v:V}{d:D}
def zx.QY{m:É M}{v:É V}(E:zx K ģ P G0 H0 G H Ϣf ϡf):σ.length=n:=by let:=ũ;rw[è]at this;show îd this
def zx.WF{m:É M}{v:É V}(E:zx K ģ P G0 H0 G H Ϣf ϡf):β.length=n:=by let:=Ũ;rw[è]at this;show îd this
def zx.Qb(E:zx K ģ P G0 H0 G H Ϙm ĕb):zY K G d v:=by let{b,F}:=ύa;let{u,a,r,_}:=Ğa n _ Ğp;rw[gA E.QY]at a;cases a;show r
def zx.Dd{i:Â}(E:zx K n P G0 H0 G H β σ)(hi:i<n)(a:òa<=i)(r:zY K G d v):zx K n P G0 H0 G H Ãh Āc:=(E.UH r).As hi a ũ Ũ
theorem zx.WH(E:zx K n P G0 H0 G H β σ):zx K n P G H0 G H β σ:={E.ext.WH,ũ,Ũ,Ϗa,īb,ύa}
def zx.near{b c:Hp}(a:zQ G0 H0 b c)(E:zx K n P b H0 G H β σ):zx K n P G0 H0 G H β σ:={a.rebase Ŧb,ũ,Ũ,Ϗa,īb,ύa}
theorem Uq.near{b c:Hp}{E:ug}{a:gW}(x:zQ G0 H0 b c)(h:Uq K n P G0 H0 E a):Uq K n P b H0 E a:=by
 cases a with
 |nx τ=>show λσ G H z=>h σ G H ħf|bk τ=>show λσ G H z=>h σ G H ħf|ct τ=>show λσ G H z=>h σ G H ħf|rt m β=>show λσ v G H z=>h σ v G H ħf
#print a
def wO(f:FE):we:=λβ=>(Ňj).bind λd=>À (.fz d,β)
def ju(f:FE):we:=λβ=>(òe).bind λd=>match u8 d with
 |Ã=>À (.fz d,β)|Ä=>Å
def JR(f:FE):we:=λβ=>(Ňj).bind λd=>À (.own d,β)
def z2a(f:FE):we:=λβ=>(òe).bind λd=>match Hz d with
 |Ã=>À (.own d,β)|Ä=>Å
nonrec def z28(f:we):we:=λβ=>(ža).bind λr=>match r with
 |(.own d,β')=>À (.fz d,β')|r=>À r
def Yf(f:FT):ui:=λβ=>(òe).bind λb=>À (b,β)
nonrec def RT(f:ui):ui:=λβ=>(ža).bind λr=>À (!r.1,r.2)
nonrec def RS(f g:ui):ui:=λβ=>(ža).bind λr=>match r.1 with
 |Ã=>g r.2|Ä=>À (Ä,r.2)
nonrec def x6p(f g:ui):ui:=λβ=>(ža).bind λr=>match r.1 with
 |Ã=>À (Ã,r.2)|Ä=>g r.2
nonrec def gb:M->É D
 |.fz d=>À d|_=>Å
def LR(F:D->D->É D)(f g:we):we:=λβ=>(ža).bind λr=>(Ĳd).bind λx=>(g r.2).bind λa=>(gb a.1).bind λy=>(F x y).bind λz=>À (.fz z,a.2)
def Tt(f:we):ui:=λβ=>(ža).bind λr=>(Ĳd).bind λx=>(ťe).bind λb=>À (b,r.2)
def z27(f g:we):we:=λβ=>(ža).bind λr=>(Ĳd).bind λx=>(ťe).bind λb=>match b with
 |Ã=>g r.2|Ä=>À (.fz Ā,r.2)
def Wu{m:M}{d:D}(h:gb m=À d):m=.fz d:=by
 cases m with
 |fz d'=>cases h;rfl|_=>cases h
section
variable{X:Cx}{x:Ç}{p pos:Pos}{e a b:Õ}{yC:Á Õ}{f:FE}{ft:FT}{F:D->D->É D}{r:R2}{g g':we}{u u':ui}
def wY(h:SE X e f):MC X e (wO f):=by rw[ϝp];let{d,c,a}:=zG a;cases a;show k E.Qa c λv i b x r=>q v i b x.g ((Ča x).UH r)
def ZR(h:SE X e f):MC X e (ju f):=by
 rw[ϝp];let{d,l,a}:=zG a;cases c:u8 d with
 |Ä=>rw[c]at a;cases a|Ã=>
  rw[c]at a;cases a;let{u,i,b}:=E.pG;show k i l λv w n x r=>?_
  let{o,m,j,s,_}:=b _ _ x;show q v o n m.g (j.UH (s d v c r))
def Hs(h:SF X e f):MC X e (JR f):=by rw[ϝp];let{d,i,a}:=zG a;cases a;show k E.Qa i λp l b x c j o=>q _ l b x.g (E.z0o x c j o)
def VN(h:ST X e ft):MT X e (Yf ft):=by
 rw[Şp];show{{t,p,λE c q=>?_}};let{b,i,c}:=zG c;cases c;let{n,d,a}:=E.pG;show k d i λo l x=>?_
 let{m,j,f,_}:=a _ _ x;show q m l j.g f
def y0d(h:MT X a u):MT X ϑd (RT u):=by rw[Şp];show{{_,lj p,λE c q=>?_}};obtain⟨⟨b,β1⟩,e,c⟩:=zG c;cases c;show k E e λg d s f=>q g d s f
def y0g(h:MT X a u):MW X Öh u:={let ⟨t,p,k⟩:=h.h;{t,mG p,k}}
def y0f(l:MT X a u)(i:MW X Øe u'):MW X če (RS u u'):=by
 let{v,n,o}:=l.h;let{s,m,j}:=i.h;show{{_,mF n m,λE c q=>?_}};obtain⟨⟨k,β1⟩,f,c⟩:=zG c;show o E f λt p e d=>?_
 cases k with
 |Ã=>show gr (j d c λw r g E2=>q _ _ (ϋc g) E2)|Ä=>cases c;show gm (q _ _ e d)
def y0h(h:MW X e u):MT X e u:={let ⟨t,p,k⟩:=h.h;{t,p.pt,k}}
def zx.down{K:Ô}{n:Â}{P:Á V}{b a G H:Hp}{β:yL}{σ:St}{m:É M}{v:É V}(c:òa<=n)(E:zx K ģ P b a G H Ϣf ϡf):zx K n P b a G H β σ:=E.pop E.QY E.WF c
def i5(h:MC X e g)(j:Í Šo q12):MT X e (Tt g):=by
 rw[Şp];show{{_,lr p (lH j),λE a q=>?_}};obtain⟨⟨o,β1⟩,f,a⟩:=zG a;let{l,e1,a}:=zG a;cases Wu e1;let{b,d,a}:=zG a;cases a;show k E f λr n m i c=>?_
 show{_,Mq c.Qb d,q _ _ i (c.down Ϗa)}
def y0a{i:Œg}(C:y_ X (Ďa i) r)(I:ZD X.K r F)(N:MC X a g)(B:MC X b g')(w:éc i b=Ä):MT X (.Compare a [i] [b] pos) (Tt (LR F g g')):=by
 let{Z,P,x}:=N.h;let{tb,O,H}:=B.h;show{{_,KQ C P O w,λE d q=>?_}};obtain⟨⟨T,β3⟩,c,d⟩:=zG d;let{U,u,d}:=zG d;cases Wu u;let{S,e,d}:=zG d;cases d;obtain⟨⟨m1,β1⟩,s,c⟩:=zG c;let{G,e1,c}:=zG c;cases Wu e1;obtain⟨⟨W,β2⟩,o,c⟩:=zG c;let{t,e2,c}:=zG c;cases Wu e2;let{z,n,c}:=zG c;cases c;show x E s λQ Y R J l=>?_
 let v:=l.Qb;show H (l.down Ϗa) o λp A L j E2=>?_
 let y:=E2.Qb;let f:=E2.down Ϗa;let{k,rfl,m}:=I L G t Q p _ _ ((v.mono j).mono f.ext.gh) (y.mono f.ext.gh) n;cases e;show m {_,rfl,q A _ (J.trans j) f}
#print a
nonrec def ZO:yZ:=λβ=>À (.nx β)
nonrec def xW(a b:yZ):yZ:=λβ=>(Ϗj).bind λf=>match f with
 |.nx β'=>b β'|f=>À f
nonrec def ZN(c:ui)(a b:yZ):yZ:=λβ=>(Śd).bind λr=>match r.1 with
 |Ã=>a r.2|Ä=>b r.2
nonrec def ZP(f:we):yZ:=λβ=>(ža).bind λr=>À (.rt r.1 r.2)
nonrec def jR(f:we):yZ:=λβ=>(ža).bind λr=>À ĵp
nonrec def tM(i:Â)(f:we):yZ:=λβ=>(ža).bind λr=>À (.nx (r.2.set i (À r.1)))
abbrev MG:=D->yL->É yL
nonrec def z83(i:Â):MG:=λd β=>À Ãh
nonrec def TD(i j:Â):MG:=λd β=>match d with
 |.tup Ác=>À ((β.set i (À (.fz x))).set j (À (.fz y)))|_=>Å
nonrec def jy(g:MG)(b:yZ):Á D->yL->É gW
 | [],β=>À (.nx β)|d::r,β=>(g d β).bind λβ1=>(ďg).bind λf=>match f with
  |.nx β2=>jy g b r β2|.ct β2=>jy g b r β2|.bk β2=>À œb|.rt m β2=>À ģi
def Ho(it:FA)(g:MG)(b:yZ):yZ:=λβ=>(it ėe).bind λa=>jy g b a β
nonrec def jZ(c:ui)(b:yZ):Â->yL->É gW
 |0,_=>Å|n+1,β=>(Śd).bind λr=>match r.1 with
  |Ä=>À ĵp|Ã=>(ŋj).bind λf=>match f with
   |.nx β2=>jZ c b n β2|.ct β2=>jZ c b n β2|.bk β2=>À œb|.rt m β2=>À ģi
def Hq(c:ui)(b:yZ):yZ:=λβ=>jZ c b Zu β
section
variable{X:Cx}{np:Â}{x:Ç}{p pos Ça:Pos}{e c tg Ŵ:Õ}{st:Ü}{sts Ąb:Á Ü}{f g:yZ}{h:we}{u:ui}{fs:FA}
def XZ:jA X np [] ZO:={{_,lh,λ{P d c G H β σ b E} _ K a q=>by cases a;show q σ G H K}}
def xo(b:MS X np st f)(e:jA X np sts g):jA X np ϧi (xW f g):=by
 let{t,p,k}:=b.h;let{v,i,j}:=e.h;show{{_,Md p i,λ{P r u G H β σ n E} c K a q=>?_}};let{l,b,a}:=zG a;show k c K b ?_;cases l with
 |nx τ'=>show λσ' w s m=>j c m a q|bk τ'=>cases a;show q|ct τ'=>cases a;show q|rt o d=>cases a;show q
def wV(a:MS X np st f):jA X np [st] f:={let ⟨t,p,k⟩:=a.h;{t,Me p,k}}
def XY{b e:Á Ü}(l:MT X c u)(r:jA X np b f)(m:jA X np e g):MS X np (.If c b e pos) (ZN u f g):=by
 let{x,pc,n}:=l.h;let{C,s,t}:=r.h;let{z,p,o}:=m.h;show{{_,lS pc s p,λ{P y B G H β σ v E} i K a q=>?_}};obtain⟨⟨k,β1⟩,j,a⟩:=zG a;show n K j λA w _ d=>?_
 cases k with
 |Ã=>show gr (t i d a q)|Ä=>show gm (o i d a q)
def Xa(c:MC X e h):MS X np Êf (ZP h):=by let{t,p,k}:=c.h;show{{_,IY p,λ{P g j G H β σ f E} l K a q=>?_}};obtain⟨⟨m,β1⟩,b,a⟩:=zG a;cases a;show k K b λv n i _ d=>q _ v _ _ d
def ZS(d:MC X e h)(b:Í ϙk q12):MS X np ϻh (jR h):=by let{t,p,k}:=d.h;show{{_,lR p b,λ{P i l G H β σ g E} n K a q=>?_}};obtain⟨⟨m,β1⟩,c,a⟩:=zG a;cases a;show k K c λv o j _ f=>q _ _ _ (f.down Ūb)
def qR{i:Â}{x:Ç}{Ça:Pos}(f:Āa)(hi:X.N[i]?=À x)(g:qg Ïa x)(r:np<=i)(j:MC X e h)(c:Í Āe q12)(a:Í Şa q7) :MS X np ŷd (tM i h):=by let{t,p,k}:=j.h;show{{_,(Ml f hi g {p} c a).h,λ{P n s G H β σ l E} u K a q=>?_}};obtain⟨⟨m,β1⟩,d,a⟩:=zG a;cases a;show k K d λv w o _ b=>q _ _ _ (b.As ìb.1 Ê b.QY b.WF)
structure bL(X:Cx)(np:Â)(tg:Õ)(fg:MG):È where
 h:∃t,PG X tg t/\∀{P:Á V}{G0 H0 G H:Hp}{β β':yL}{σ:St}{d:D}{v:V}{Q:St->Hp->È},òa=np->zx X.K ñ P G0 H0 G H β σ->zY X.K G d v->fg d β=À β'->(∀σ',zx X.K ñ P G0 H0 G H β' σ'->Q σ' H)->t v σ H Q
def y02{i j:Â}{x y:Ç}{e p2:Pos}{c:Â}(h:QG X ĺk ϑe)(hi:X.N[i]?=À x)(o:X.N[j]?=À y)(w:np<=i)(B:np<=j):bL X np ĺk (TD i j):=⟨⟨_,h.h,λ{P u C G H β β' σ d v Q} E K r b q=>by
 unfold TD at b
 rw[Ñq];rename_i s z;cases b;let{a,t,rfl,f,{p,A,rfl,m,{l,n,rfl,g,k}},_}:=r;cases(show n=[]from k);show{a,_,rfl,um ųa f,rfl,p,_,rfl,l,_,rfl,rfl,?_};show q _ ((K.Dd ìb.1 Ê m).Dd (ķ o).1 Ê g);cases b⟩⟩
def y08{c:MG}(R:ϛb Ą X.A Ú ĩ)(hc:Ů=Ã)(hi:SI X tg Ŵ fs)(S:bL X np tg c)(hb:jA X np Ąb g)(v:Í (∀x,Ðb Ŵ Ú x=pure x) q11):MS X np ϯg (Ho fs c g):=by
 let{ti,W,I}:=Ħc;let{L,B,T}:=S.h;rw[Ġq];show{{_,Mc R hc W B pb v,λ{P G0 s G H τ σ r E} t K a q=>?_}};let{b,F,a}:=zG a;show I K.Qa F λJ k Ha xa _ l=>?_
 let u:=Ϛ xa;let o:=Uq.near u.ext q;show{λi m σ H=>m=Óa-i/\i<=Óa/\∃τ G,zx X.K ñ P k s G H τ σ/\jy c g (ñg i) τ=À r,{Óa,rfl,ϐ _,τ,k,u.WH,a},?_};rw[ϟp];show .inr {l.go i G H łd ųa hlt,λσ' f=>∃τ G,zx X.K ñ P k s G f τ σ'/\jy c g Çp τ=À r,λσ' f z=>{Óa-î,Ëf _ _ hlt,rfl,hlt,z},λx f y=>?_};let{G3,d,x3,p,U}:=l.tD i G H x f łd ųa hlt y;rw[Űb hlt]at a;rw[Ē hlt]at p;cases p;let{τ1,Q,a}:=zG (show(c _ τ).bind _=_ from a);let{Y,C,a}:=zG a;show T t (Ϛ x3) U Q λσ1 Z=>kb t Z C ?_
 cases Y with
 |nx τ2=>show λσ2 n H2 j=>{τ2,n,j,a}|ct τ2=>show λσ2 n H2 j=>{τ2,n,j,a}|bk τ2=>cases a;show o|rt m β=>cases a;show o
 let e:i=Óa:=by omega
 subst e;rw[List.drop_length]at a;cases a;show .inl {l.stop _ G H łd ųa Ġ,o _ _ _ K}
def y09(x:ϛb Ą X.A Ú ĩ)(p:MT X c u)(r:jA X np Ąb g):MS X np ģl (Hq u g):=by
 let{J,pc,s}:=p.h;let{L,C,t}:=r.h;show{{_,lg x pc C,λ{P i l G H τ σ f E} F K a q=>?_}};show{λm σ H=>∃τ G,zx X.K ñ P i l G H τ σ/\jZ u g m τ=À f,{Zu,τ,G,K,a},?_};rintro m σ H ⟨τ,G,K,a⟩;cases m with
 |ů=>cases a|Ż n=>
  obtain⟨⟨k,β1⟩,o,a⟩:=zG (show(u τ).bind _=_ from a);show s K o λO I _ e=>?_
  cases k with
  |Ä=>cases a;show gm (q _ _ _ e)|Ã=>
   let{B,v,a}:=zG (show(g β1).bind _=_ from a);show gr {λσ' j=>∃τ G,zx X.K ñ P i l G j τ σ'/\jZ u g n τ=À f,λσ' j z=>{n,ĵb n,z},t F e v ?_};cases B with
   |nx τ2=>show λσ2 d y b=>{τ2,d,b,a}|ct τ2=>show λσ2 d y b=>{τ2,d,b,a}|bk τ2=>cases a;show q|rt m β=>cases a;show q
#print a
def g6(β:yL)(i:Â)(π:Á xt):É M:=match β[i]? with
 |À ϭa=>pP m π|_=>Å
def Ţb(β:yL)(i:Â)(π:Á xt)(m2:M):É yL:=match β[i]? with
 |À ϭa=>(ŵn).bind λa=>À äm|_=>Å
def VP{β:yL}{i:Â}{π:Á xt}{a:M}(h:g6 β i π=À a):∃m,β[i]?=À ϭa/\pP m π=À a:=by
 unfold g6 at h
 rw[ũp];rename_i m e;show{m,e,h};cases h
def Mf{β:yL}{i:Â}{π:Á xt}{m a m2:M}(h:β[i]?=À ϭa)(e:pf m π m2=À a):Ţb β i π m2=À äm:=by unfold Ţb;rw[h];exact(ŵn).bind _=_;rw[e];rfl
def vL(K:Ô)(a:Á Ç)(f:Ç):È:=∀x∈a,∀C,ϔ K Ę x=À Ėa->tR K C/\XH K C f
structure SP(X:Cx)(e:Õ)(i:Â)(π:Á xt):È where
 h:∃t,PE X e t/\∀{σ:St}{H:Hp}{v u:V}{Q:VK},σ[i]?=À ϯ->wf X.K H v π u->Q u H->t σ H Q
section
variable{X:Cx}{x f:Ç}{p pos:Pos}{e:Õ}{i:Â}{π:Á xt}{cs:Á Ç}
def xf(i:Â){x:Ç}{pos:Pos}(d:Í òd q12)(hv:Í ėd q13)(c:Í Ł q10)(b:Í Ŭb q10):SP X ía i []:={{_,VU d hv c b,λe a q=>by cases(show _=_ from a);show{_,e,q}}}
def tf(h:SP X e i π)(k:vL X.K cs f)(d:Í ϧk q12):SP X Ñf i (π++[.at cs f]):=by let{t,p,g}:=h.h;show{{_,i_ p d,λe a q=>?_}};let{w,u,m}:=a.snoc;let{p,x,C,o,r,v,rfl,s,b,j,l,rfl}:=m;let{c,n}:=k x s C b;show g e u {p,C,o,r,_,rfl,j,c,n,l,q}
#print a
section
variable{K:Ô}{n:Â}{P:Á V}{G0 H0 G H:Hp}{β:yL}{σ:St}
def zx.write{m X J:M}{W:V}{i:Â}{π:Á xt}(E:zx K ģ P G0 H0 G H (β++[À J]) (σ++[À W]))(Z:òa<=n)(U:β[i]?=À ϭa)(ha:pP m π=À X) :∃r v1 L1 Lr,σ[i]?=À ĺj/\wf K H r π v1/\xU K G H X v1 L1/\xU K G H J W Lr/\(∀q,L1 q->Lr q->ÿ)/\
   ∀{H':Hp}{m2:M}{L2:Ft},(∀q,¬ L1 q->H' q=H q)->xU K G H' m2 v1 L2->(∀q,L2 q->L1 q\/Lr q)->∃m',pf m π m2=À m'/\zx K n P G0 H0 G H' (β.set i (À m')) σ:=by
 let{t,F}:=ύa;let x:=E.QY;let l:=E.WF;have hi:i<n:=by rw[<-l];show(ķ U).1
 let{r,O,om}:=Ğa i m (by rw[uZ Ê];show U);rw[uZ Ê]at O;let{u,y,N}:=Ğa n J (gA l);rw[gA x]at y;cases y;let{v1,L1,va,o1,s,re}:=om.focus ha;let I:∀q,L1 q->t n q->ÿ:=λq a b=>Êa i n q Ê (s q a) b
 show{r,v1,L1,t n,O,va,o1,N,I,λ{H' m2 L2} p T A=>?_}
 let{m',Y,o'}:=re (Œa G) (λq _ z=>p q z) T (λq z w=>by rcases A q z with c|c;show c;show Ý c λc=>Êa i n q Ê w c)
 let B:∀q,L1 q->G q=Å/\H0 q=Å:=λq z=>{ğn.1,ğn.2.1}
 show{m',Y,{Ğj,λq o z=>?_,λq o z=>?_,ϓf},x,by rw[Ϲ];show l,Z,λj w h=>?_,λj=>if j=i then όk else if j<n then t j else λ_=>ÿ,λj S h=>?_,λj k q f e d=>?_,λj q z=>?_}
 .rw[p q λw=>by rw[(B q w).2]at z;cases z];show Ņe _ _ z
 .rw[p q λw=>by rw[(B q w).1]at z;cases z];show Ŭa _ _ z
 .let C:j<òa:=Ϭa.1;let:=īb j w h;rw[Üq]
 .rcases vZ h with⟨rfl,w⟩|⟨f,w⟩
  .cases w;simp only[ź];show{r,O,o'}
  .have C:j<n:=by rw[<-l];show(ķ w).1
   let{u,y,ou}:=Ğa j S Ğl;rw[uZ Ê]at y;simp only[Ñ f,Ð C];show{u,y,ou.loc (Œa G) S u _ λq z=>p q λR=>Êa i j q Ćf (s q R) z}
 .let v:∀j,j≠i->j<n->∀q,(t i q/\¬ L1 q)\/L2 q->t j q->ÿ:=λj f C q e d=>by
   rcases e with⟨e,_⟩|e;show Êa i j q Ćf e d;rcases A q e with c|c;show Êa i j q Ćf (s q c) d;show Êa n j q Ê c d
  split at e
  .rw[ϓp];show f Ê;rw[ϓp];show v k Ê Ê q e d;show d
  .split at e;rw[ϓp];show v j Ê Ê q d e;rw[ϓp];show Êa j k q f e d;show d;show e
 .split at z
  .rcases z with⟨z,w⟩|z
   .rw[Ϻp];let{u,L,Q}:=c;show{a,b,u,(p q w).trans L,Q}
   .show{?_,?_,T.cells m2 _ _ q z}
    .rcases A q z with c|c
     .show Őj.1
     .show Üo.1
    .rcases A q z with c|c
     .show Őj.2
     .show Üo.2.1
  .split at z
   .rename_i f C;let{a,b,c}:=Ļa j q z;let{u,L,Q}:=c;show{a,b,u,(p q λR=>Êa i j q Ćf (s q R) z).trans L,Q}
   .show ŭ
#print a
def ZQ(i:Â)(π:Á xt)(c:FE)(a:we):yZ:=λβ=>(Ϗj).bind λr=>(Ĳd).bind λy=>(ĺn).bind λb=>match b with
 |.own ϵi=>(όn).bind λx=>match x with
  |.int j=>(Ği).bind λn=>(ψd (Β ϋi)).bind λβ2=>À œb|_=>Å
 |_=>Å
def VM(i:Â)(π:Á xt)(c:FE)(a:we):yZ:=λβ=>(Ϗj).bind λr=>(Ĳd).bind λy=>(ĺn).bind λb=>match b with
 |.own Ϟn=>(όn).bind λx=>(Še).bind λx=>match decide (ŀ<yV)with
  |Ã=>(ψd (.dic Ďp än)).bind λβ2=>À œb|Ä=>Å
 |_=>Å
section
variable{X:Cx}{np:Â}{o k v:Õ}{i:Â}{π:Á xt}{fk:FE}{fv:we}{pos Ça:Pos}
def Xb(ho:SP X o i π)(hk:SE X k fk)(hv:MC X v fv)(hp:Í ŧf q12)(hs:Í (Ϝh ϧe v ϔb Ú=pure Ä) q12)(Q:Í (ϝh ϧe v Ú=pure Å) q12)(h1:Í ((åe ϧe Ú).map (·.2)=[Ϲb Żl Ú]) q12):MS X np Êm (ZQ i π fk fv):=by
 let{tk,pk,U}:=ϰc;let{tv,pv,T}:=ϯc;let{to,po,ko}:=ho.h;show{{_,lO pv (mI {po} {pk} nX hp).h hs Q h1,λ{P G0 H0 G H β σ fl E} hP K a q=>?_}};rw[Ţp]
 rw[Ťp];rename_i ds;let{xk,W,a}:=zG a;cases xk with
 |int j=>
  let{e,s,a}:=zG a;let{β2,O,a}:=zG a;cases a;let{mm,n,N}:=VP hn;show T K hy λw G1 H1 s1 t=>?_
  let{r,v1,L1,Lr,B,F,_}:=t.write Ūb n N;show ko B F ?_;let{Ga,Ea,d}:=(t.down Ūb).pG;show U Ea W λu G2 H2 x2 Z=>?_
  cases(show u=_ from Z);let{G3,L,_,_}:=d _ _ x2;let J:=t.go L;let{r',v1',S,Lr',b,g,x,or',Y,f}:=J.write Ūb n N;rw[B]at b;cases b;cases Ϛc (F.mono L.h) g;let{p,rfl,{I,ev,A,l},C}:=x;let{m',e',R}:=f (H':=ze H2 p (Β (I.set e w))) (m2:=.own (Β (Ļe e y))) (L2:=λq=>q=p) (Φd (C q)) {p,rfl,{_,yh,Ég J.Qb e A,by rw[Ϲ];show l},λ_=>ēc} (νd (C q));rw[Mf n e']at O;cases O;show{p,I,j,e,rfl,rfl,ev,by rw[Øj];show s,q _ _ _ R}
 |_=>cases a
 cases a
def IK(hu:űa+1<Ϙ)(ho:SP X o i π)(hk:SE X k fk)(hv:MC X v fv)(hs:Í (ζb Żl) q12):MS X np Êm (VM i π fk fv):=by
 let{tk,pk,T}:=ϰc;let{tv,pv,S}:=ϯc;let{to,po,Z}:=ho.h;show{{_,lQ hu po pk pv hs,λ{P G0 H0 G H β σ fl E} hP K a q=>?_}};rw[Ţp]
 rw[Ťp];rename_i ks n;let{xk,U,a}:=zG a;let{b,d,a}:=zG a
 rw[Ťp];rename_i c;let c:=š c;let{β2,O,a}:=zG a;cases a;let{mm,t,N}:=VP hn;show S K hy λw G1 H1 s1 x=>?_
 let{r,v1,L1,Lr,C,I,_}:=x.write Ūb t N;show Z C I ?_;let{Ga,Ea,f}:=(x.down Ūb).pG;show T Ea U λu G2 H2 x2 Y=>?_
 let{G3,L,_,_}:=f _ _ x2;let J:=x.go L;let{r',v1',R,Lr',e,s,B,or',W,j}:=J.write Ūb t N;rw[C]at e;cases e;cases Ϛc (Īg L.h) s;let{p,rfl,{vs,ev,l,g,hl},F}:=B
 let{m',e',Q}:=j (H':=ze H2 p (.dK (tO Ýb b w))) (m2:=.own (.dic (w8 ks b) (wA ks n b y))) (L2:=λq=>q=p) (Φd (F q))
  ⟨p,rfl,⟨wA ks vs b w,by rw[yh,S7 l],VX l,g.put J.Qb,by
   let h1:=KS (ks:=ks) (vs:=n) (k:=b) (v:=y) (by rw[l,Ña]);have h2:ÿc<16777216:=by rw[<-Ña,<-l];show c
   rw[ŕ];omega⟩,λ_=>ēc⟩ (νd (F q))
 rw[Mf t e']at O;cases O;show{p,_,rfl,.inl {_,b,ev,YH d Y,by rw[äc,l,łb,ŕ,<-l];show c,rfl},q _ _ _ Q};cases a;cases a
#print a
nonrec def ZU(fs:Á Ç)(f:Ç):Á Ç:=if f∈fs then fs else fs++[f]
def pZ{α:Type}(fs:Á Ç)(ms:Á α)(f:Ç)(m:α):Á α:=if f∈fs then uH fs ms f m else ms++[m]
theorem m7{f:Ç}{w:V}:∀{fs:Á Ç}{vs:Á V},ŉa=č->Įb f w ąo=(øe).zip ën
 | [],[],_=>by unfold ZU pZ;rw[Ñ ó,Ñ ó];rfl| [],_::_,h=>by cases h|_::_,[],h=>by cases h|g::fs,v::vs,h=>by
  let b:=m7 (f:=f) (w:=w) (fs:=fs) (vs:=vs) ĭj;rw[Ďb];unfold Įb;by_cases c:g=f;subst c;unfold ZU pZ;rw[Ð rfl,Ð Ĝ,Ð Ĝ];unfold uH;rw[Ð rfl,Ďb];rw[Ñ c,b];unfold ZU pZ;by_cases z:f∈fs;rw[Ð z,Ð z,Ð ϙi,Ð ϙi]
  conv=>rhs;unfold uH
  rw[Ñ c,Ďb];let a:f ∉ g::fs:=λw=>by rcases ħ w with w|w;show c w.symm;show z w
  rw[Ñ z,Ñ z,Ñ a,Ñ a,ŉc,ŉc,Ďb]
theorem nU{κ α:Type}[Ňb κ]{k:κ}{y:α}:∀{ks:Á κ}{xs:Á α},(uH ks xs k y).length=ì
 | [],_=>by unfold uH;rfl|_::_,[]=>by unfold uH;rfl|k'::ks,x::xs=>by
  unfold uH
  split;rfl;rw[Ĉ,Ĉ,nU]
theorem y6z{α:Type}{f:Ç}{w:α}{fs:Á Ç}{vs:Á α}(h:ŉa=č):(øe).length=(ën).length:=by
 unfold ZU pZ
 split;rw[nU];show h;rw[è,è,h];rfl
section
variable{K:Ô}{G H:Hp}
theorem Õj{κ:Type}[Ňb κ]{k:κ}{m2:M}{e:V}{L2:Ft}(i:xU K G H m2 e L2):∀{ks:Á κ}{ms:Á M}{vs:Á V}{L:Ft},ό K G H ms vs L->(∀q,L q->L2 q->ÿ)->∃L',ό K G H ϙm (uH ks vs k e) L'/\∀q,L' q->L q\/L2 q
 | [],ms,vs,L,h,_=>{L,by unfold uH;show h,λq z=>.inl z}|_::_,[],vs,L,h,_=>by let{rfl,n}:=h;show{L,by unfold uH;show{rfl,n},λq z=>.inl z}
 |k'::ks,m::ms,vs,L,h,dj=>by let{v,r,g,f,rfl,p,l,d,u}:=h;unfold uH;rw[ϲp];show{λq=>L2 q\/f q,{e,r,L2,f,rfl,i,l,λq a b=>dj q ((ϴ).mpr (.inr b)) a,λq=>ēc},λq z=>?_};rcases z with z|z;rw[Ϯp];show .inl ϲd;rw[Ñ c,Ñ c];let{L',o,j}:=Õj (k:=k) i (ks:=ks) l īk;show{λq=>g q\/L' q,{v,_,g,L',rfl,p,o,λq a b=>?_,λq=>ēc},λq z=>?_};rcases j q b with b|b;show d q a b;show dj q ϸm b;rcases z with z|z;show .inl Êe;rcases j q z with z|z;show .inl ϲd;rw[Ϯp]
theorem Ŀi{m2:M}{c:V}{L2:Ft}(e:xU K G H m2 c L2):∀{ms:Á M}{vs:Á V}{L:Ft},ό K G H ms vs L->(∀q,L q->L2 q->ÿ)->ό K G H (ms++[m2]) (vs++[c]) (λq=>L q\/L2 q)
 | [],vs,L,h,_=>by let{rfl,n}:=h;show{c,[],L2,λ_=>ÿ,rfl,e,{rfl,λ_ z=>z},λ_ _ z=>z,λq=>{?_,?_}};rintro(z|z);show Ý z (n q);rw[ěq];show ŭ
 |m::ms,vs,L,h,dj=>by let{v,r,j,f,rfl,g,i,d,u}:=h;show{v,_,j,λq=>f q\/L2 q,rfl,g,Ŀi e i īk,λq a b=>?_,λq=>{?_,?_}};rcases b with b|b;show d q a b;show dj q ϸm b;rintro(z|z);rcases(u q).mp z with z|z;show .inl z;show .inr èb;show .inr īa;rintro(z|z|z);show .inl Êe;show .inl ϲd;rw[Ϯp]
def Ĭo{f:Ç}{m2:M}{a:V}{L2 L:Ft}{fs:Á Ç}{ms:Á M}{vs:Á V}(d:xU K G H m2 a L2)(h:ό K G H ms vs L)(b:∀q,L q->L2 q->ÿ):∃L',ό K G H (pZ fs ms f m2) (pZ fs vs f a) L'/\∀q,L' q->L q\/L2 q:=by unfold pZ;by_cases c:f∈fs;rw[Ð c,Ð c];show Õj d h b;rw[Ñ c,Ñ c];show{_,Ŀi d h b,λq z=>z}
#print a
def g8(m:M)(β:yL)(i:Â)(π:Á xt)(a:Á Ç)(f:Ç):É gW:=(Ļf).bind λb=>match b with
 |.obj x fs ms=>match decide (x∈a)&&decide ĵo with
  |Ã=>(Υd (pZ fs ms f m)).bind λβ2=>À œb|Ä=>Å
 |_=>Å
def pW(i:Â)(π:Á xt)(a:Á Ç)(f:Ç)(b:we):yZ:=λβ=>(b β).bind λr=>g8 r.1 r.2 i π a f
def Hn(i:Â)(π:Á xt)(d:Á Ç)(f:Ç)(e:FE):yZ:=λβ=>(Ļf).bind λg=>match g with
 |.obj x fs ms=>match decide (x∈d)&&decide ĵo with
  |Ã=>(ùa fs ms f).bind λc=>(gb c).bind λc=>match c with
   |.int a=>(e ċg).bind λy=>match y with
    |.int b=>(Υd (pZ fs ms f (.fz (Ε (a+b))))).bind λβ2=>À œb|_=>Å
   |_=>Å
  |Ä=>Å
 |_=>Å
section
variable{X:Cx}{np:Â}{o v:Õ}{i:Â}{π:Á xt}{cs:Á Ç}{f:Ç}{fv:we}{fe:FE}{pos Ça tpos:Pos}
def zx.Au{K:Ô}{n:Â}{P:Á V}{y B G H:Hp}{β β2:yL}{σ:St}{x f:Ç}{fs:Á Ç}{ms:Á M}{m e:M}{w:V}{i:Â}{π:Á xt}(E:zx K ģ P y B G H (β++[À e]) (σ++[À w]))(U:òa<=n)(A:β[i]?=À ϭa)(ha:pP m π=À ύh)(L:Ţb β i π (.obj x øe ìn)=À β2) :∃r p C dx vs,σ[i]?=À ĺj/\wf K H r π Ŭ/\ϔ K Ę x=À Ėa/\H p=À Ìh/\ŉa=č/\zx K n P y B G ĸf β2 σ:=by
 let{r,v1,L1,F,Y,va,o1,k,h,O}:=E.write U A ha;let{p,C,dx,vs,Z,rfl,v,R,l,S,I,d}:=o1;let t:∀q,q≠p->ĸf q=H q:=λq z=>yH z
 let j:ό K G ĸf ms vs Z:=Ųc (λJ _ X g s o=>Ńg Įj J X g λq z=>t q λc=>I (c▸s q z)) S;let u:xU K G ĸf e w F:=k.loc Įj e w F λq z=>t q λc=>h q ϊl z
 let{g,o3,N}:=Ĭo (f:=f) (fs:=fs) u j (λq a b=>h q ((d q).mpr ýj) b)
 let{J,T,Q}:=O (H':=ze H p ϝj) (m2:=.obj x øe ìn) (L2:=λq=>q=p\/g q) (λq z=>t q λc=>z ϊl)
  ⟨p,C,dx,pZ fs vs f w,g,rfl,v,by rw[yh,m7 l],y6z l,o3,λz=>by
   rcases N p z with z|z;show I z;show h p ((d p).mpr Ŗ) z,λq=>ēc⟩ (λq z=>by
   rcases z with rfl|z;show .inl ((d q).mpr Ŗ);rcases N q z with z|z;show .inl ((d q).mpr īa);rw[Ϯp])
 rw[Mf A T]at L;cases L;show{r,p,C,dx,vs,Y,va,v,R,l,Q}
def k7(F:SP X o i π)(k:vL X.K cs f)(hv:MC X v fv)(b:Í (ζb ſl) q12):MS X np (.Assign ŝl v pos) (pW i π cs f fv):=by
 let{tv,Q,t}:=ϯc;let{T,I,A}:=F.h;show{{_,y6v I Q b,λ{P Y Z G H β σ S E} hP K a q=>?_}};obtain⟨⟨m,β1⟩,N,a⟩:=zG a;let{nd,j,a}:=zG (show(g6 β1 i π).bind _=_ from a)
 rw[Ťp];rename_i x fs ms
 rw[Ťp];rename_i c;rw[Č]at c;let s:=š c.2;let{β2,R,a}:=zG a;cases a;let{mm,y,O}:=VP j;show t K N λw G1 U s1 z=>?_
 let{r,p,C,u,W,B,L,d,n,l,e}:=z.Au Ūb y O R;let{g,J}:=k x (š c.1) C d;show A B L {p,C,u,_,rfl,n,g,J,by rw[äc,l,łb,<-l];show s,q _ _ _ e};cases a;cases a
def y07(ho:SP X o i π)(k:vL X.K cs f)(hv:SE X v fe):MS X np (.AugAssign ōl .Add v pos) (Hn i π cs f fe):=by
 let{tv,pv,T}:=ϯc;let{to,po,Z}:=ho.h;show{{_,y6w po pv z7k,λ{P G0 H0 G H β σ fl E} hP K e q=>?_}};let{nd,hn,e}:=zG e
 split at e;rename_i x fs ms
 split at e;rename_i c;rw[Č]at c;let W:=š c.1;let hl:=š c.2;let{ch,s,e}:=zG e;let{dc,A,n}:=zG e;cases Wu A
 split at n;rename_i a;let{y,hy,e}:=zG n
 split at e;rename_i b;let{β2,hβ,e}:=zG e;cases e;let{mm,L,N}:=VP hn;let U:=K.UH (d:=.zP) (v:=.zP) rfl;let{r,v1,L1,Lr,F,I,o1,_}:=U.write Ūb L N;let{p,C,dx,vs,L',rfl,J,hp,l,S,nL,uL}:=o1;let{cl,na}:=k x W C J;let{vc,Lc,ec,{O,_},_}:=ée S s;cases(show vc=_ from O);refine Z F I {p,C,dx,_,_,rfl,hp,cl,na,by rw[MK];show ec,?_};let{Ga,Ea,m}:=K.pG;show T Ea hy λu G2 H2 x2 Y=>?_
 cases(show u=_ from Y);let{G3,x3,K3,_}:=m _ _ x2;let{r',p',Q,t,vs',j,w,g,z,B,R}:=(K3.UH (d:=.int (a+b)) (v:=.int (a+b)) rfl).Au Ūb L N hβ;rw[F]at j;cases j;cases Ϛc (Īg x3.h) w;let eC:Q=C:=by rw[J]at g;cases g;rfl
 subst eC;show{_,_,rfl,rfl,t,_,z,by rw[äc,B,łb,<-B];show hl,q _ _ _ R};cases e;cases n;cases e;cases e
#print a
open Ϫo in
nonrec def cut(H:Hp)(L:Ft):Hp:=λq=>if L q then Å else H q
def cT{H:Hp}{L:Ft}{q:Ë}(h:L q):cut H L q=Å:=by unfold cut;rw[Ð h]
theorem Y7{H:Hp}{L:Ft}{q:Ë}(h:¬ L q):cut H L q=H q:=by unfold cut;rw[Ñ h]
theorem cU{H:Hp}{L:Ft}{q:Ë}(h:cut H L q=Å):L q\/H q=Å:=by rw[Úq];show .inl c;rw[Y7 c]at h;show .inr h
abbrev FM:=Á M->É ŉi
def xX(K:Ô)(F:FM):Sp:=λa H Q _=>∃G ms L ms' m',yE G H/\ό K G H ms a L/\(∀q,L q->G q=Å)/\F ms=À (ms',m')/\
 ∀v G' H' L',zQ G ģp G' H'->ό K G' H' (m'::ms') (v::a) L'->(∀q,L' q->G' q=Å/\cut H L q=Å)->Q v H'
section
variable{K:Ô}{n:Â}{P:Á V}{G0 H0 G H G' H':Hp}{β:yL}{σ:St}
def zx.Aq{m:M}{v:V}{L:Ft}(E:zx K n P G0 H0 G H β σ)(x:zQ G H G' H')(o:xU K G' H' m v L)(k:∀q,L q->G' q=Å/\H q=Å):zx K ģ P G0 H0 G' H' Úe ĕb:=by
 let{t,F}:=ύa;let I:=Ča x;let r:∀i q,t i q->L q->ÿ:=λi q z c=>šc.2.2.some (k q c).2
 refine{I.ext,by rw[è,ũ];rfl,by rw[è,Ũ];rfl,by let:=Ϗa;omega,λi u h=>?_,λj=>if j<n then t j else if j=n then L else λ_=>ÿ,λi s h=>?_,λi j q p f d=>?_,λi q z=>?_};let C:i<σ.length:=by rw[ϔp]
 rw[uZ C];show īb i u h;rcases B4 h with⟨c,e⟩|⟨c,e⟩;rw[Ũ]at c;let{u,B,A}:=Ğa i s e;refine{u,by rw[uZ ϗd];show B,?_};simp only[Ð c];show A.loc x.g s u _ λq z=>?_
 rw[ćq];show o;rw[àq];show Êa i j q p f d;rw[ϓp];show r i q f d;show d;rw[àq];show r j q d f;rw[ϓp];show p Ê;show d;show f;rw[ßq];rw[Ϻp];let{y,J}:=E6 x a c;show{y,b,J};rw[ßq];show{(k q z).1,ãi (k q z).2,o.cells m v _ q z};show ŭ
def zx.back{m T:M}{i:Â}{π:Á xt}(E:zx K n P G0 H0 G H β σ)(S:β[i]?=À ϭa)(ha:pP m π=À T) :∃r v1 L1,σ[i]?=À ĺj/\wf K H r π v1/\xU K G H T v1 L1/\(∀q,L1 q->G q=Å)/\
   ∀{G' H':Hp}{m' nd':M}{v:V}{Lr L2:Ft},zQ G (cut H L1) G' H'->xU K G' H' m' v Lr->xU K G' H' nd' v1 L2->(∀q,Lr q->L2 q->ÿ)->(∀q,Lr q\/L2 q->G' q=Å/\cut H L1 q=Å)->
    ∃mm,pf m π nd'=À mm/\zx K ģ P G0 H0 G' H' (β.set i (À mm)++[À m']) ĕb:=by
 let{t,F}:=ύa;have hi:i<n:=by rw[<-Ũ];show(ķ S).1
 let{r,W,om}:=Ğa i m S;let{v1,L1,va,o1,I,re}:=om.focus ha;show{r,v1,L1,W,va,o1,λq z=>ęm.1,λ{G' H' m' nd' v Lr L2} x X R Y B=>?_}
 let s:∀j q,t j q->¬ L1 q->H' q=H q:=λj q z w=>by let{u,C,_}:=Ľf.2.2;rw[C];show x.h _ _ ((Y7 w).trans C)
 let A:∀j q,t j q->¬ L1 q->(Lr q\/L2 q)->ÿ:=λj q z w c=>by let e:=Őj.2;rw[Y7 w]at e;show Ľf.2.2.some e
 let{mm,Z,o'}:=re x.g (λq z w=>s i q z w) R (λq z w=>by by_cases c:L1 q;show c;show(A i q w c īa).elim)
 let y:∀j q,j≠i->t j q->¬ L1 q:=λj q l z w=>Êa i j q Ŧn (I q w) z
 let J:∀q,cut H L1 q=Å->H0 q=Å:=λq z=>by rcases cU z with z|z;show ęm.2.1;show ãi z
 let p:(β.set i (À mm)).length=n:=by rw[Ϸp]
 show{mm,Z,{E.ext.g.trans x.g,λq o z=>x.h _ _ ?_,ĭb,λq z=>?_},by rw[è,ũ];rfl,by rw[è,p];rfl,by let:=Ϗa;omega,λj u h=>?_,λj=>if j=i then όk else if j<n then t j else if j=n then Lr else λ_=>ÿ,λj O h=>?_,λj k q l f d=>?_,λj q z=>?_}
 .rw[Y7 λw=>by rw[(Ļa i q (I q w)).2.1]at z;cases z];show Ņe _ _ z
 .rcases Ϩc q z with w|w
  .show ϓf q w
  .show .inr (J q w)
 .let hj:j<σ.length:=by
   rw[ϔp]
  rw[uZ hj];show īb j u h
 .rcases B4 h with⟨c,e⟩|⟨c,e⟩
  .rw[p]at c;rcases vZ e with⟨rfl,w⟩|⟨l,w⟩
   .cases w;simp only[ź];show{r,by rw[uZ ϗd];show W,o'}
   .let{u,eu,ou}:=Ğa j O w;simp only[Ñ l,Ð c];show{u,by rw[uZ ϗd];show eu,ou.loc x.g O u _ λq z=>s j q z üo}
  .cases e;rw[p]at c;subst c;show{_,gA ũ,?_};simp only[Ñ (ņa hi),Ìc,Ăa,ź];show X
 .let N:∀j,j≠i->∀q,(t i q/\¬ L1 q)\/L2 q->t j q->ÿ:=λj l q f d=>by
   rcases f with⟨f,_⟩|f;show Êa i j q Ŧn f d;show A j q d (y j q l d) (.inr f)
  let Q:∀q,(t i q/\¬ L1 q)\/L2 q->Lr q->ÿ:=λq f d=>by rcases f with⟨f,w⟩|f;show A i q f w Āj;show Y q d f
  let L:∀j,j≠i->∀q,t j q->Lr q->ÿ:=λj l q f d=>A j q f (y j q l f) Āj
  split at f
  .rw[ϓp];show l Ê;rw[ϓp];show N k Ê q f d;rw[ϓp];show Q q f d;show d
  .rw[àq];show N j Ê q d f;rw[ϓp];show Êa j k q l f d;rw[ϓp];show L j Ê q f d;show d;rw[àq];show Q q d f;rw[ϓp];show L k Ê q d f;rw[ϓp];show l Ê;show d;show f
 .let U:∀q,t j q->¬ L1 q->G' q=Å/\H0 q=Å/\Bx H' q:=λq z w=>by
   let{a,b,u,C,cu}:=Ļa j q z;show{?_,b,u,(s j q z w).trans C,cu};cases e:G' q with
   |Å=>rfl|À o=>rcases Ϩc q ϗg with c|c;show Ý a c;rw[Y7 w,C]at c;cases c
  rw[ßq]
  .rename_i ej;subst ej;rcases z with⟨z,w⟩|z;show U q z w;show{ıp.1,J q ıp.2,R.cells nd' _ _ q z}
  .rename_i l
   rw[ßq];show U q z üo;rw[ßq];show{İp.1,J q İp.2,X.cells m' _ _ q z};show ŭ
#print a
inductive AV where
 |v (d:D)|p (i:Â) (π:Á xt)
abbrev tH:=yL->É (Á AV)
def WN(K:Ô)(G H:Hp)(σ:St):Á AV->Á V->È
 | [],vs=>vs=[]|.v d::as,vs=>∃v r,vs=v::r/\zY K G d v/\WN K G H σ as r|.p i π::as,vs=>∃v r w,vs=v::r/\σ[i]?=À (À w)/\wf K H w π v/\WN K G H σ as r
structure MA(X:Cx)(es:Á Õ)(f:tH):È where
 h:∃t,PA X es t/\∀{P:Á V}{G0 H0 G H:Hp}{β:yL}{σ:St}{as:Á AV}{Q:Á V->Hp->È},zx X.K ñ P G0 H0 G H β σ->f β=À as->(∀vs G' H',zQ G H G' H'->WN X.K G' H' σ as vs->Q vs H')->t σ H Q
nonrec def vM:tH:=λ_=>À []
def Uw(f:FE)(r:tH):tH:=λβ=>(òe).bind λd=>match u8 d with
 |Ã=>(Ĵg).bind λa=>À Ϯi|Ä=>Å
def wH(f:FE)(r:tH):tH:=λβ=>(Ňj).bind λd=>(Ĵg).bind λa=>À Ϯi
def z0y(f:FE)(r:tH):tH:=λβ=>(òe).bind λd=>match Hz d with
 |Ã=>(Ĵg).bind λa=>À Ϯi|Ä=>Å
nonrec def gZ:M->Â->Á xt->AV
 |.fz d,_,_=>.v d|_,i,π=>.p i π
def jD(i:Â)(π:Á xt)(r:tH):tH:=λβ=>(Ļf).bind λb=>(Ĵg).bind λa=>À (gZ b i π::a)
section
variable{X:Cx}{e:Õ}{es:Á Õ}{f:FE}{r:tH}{i:Â}{π:Á xt}
def qQ:MA X [] vM:={{_,VS,λE a q=>by rw[Âq]}}
def ML(z:SE X e f)(B:MA X es r)(h:Í ÿa q12):MA X ď (Uw f r):=by
 let{t,p,k}:=z.h;let{L,y,s}:=B.h;show{{_,Xh p y h,λE a q=>?_}};let{d,m,a}:=zG a
 rw[Ťp];rename_i c;let{F,i,a}:=zG a;cases a;let{C,u,b}:=E.pG;show k u m λv H J x r=>?_
 let{K,w,l,A,_}:=b _ _ x;refine s l i λn G I j o=>q _ _ _ (w.trans j) {v,n,rfl,(A d v c r).mono j.g,o};cases a
def v4(o:SE X e f)(m:MA X es r)(h:Í ÿa q12):MA X ď (wH f r):=by
 let{t,p,k}:=o.h;let{z,l,s}:=m.h;show{{_,Xh p l h,λE a q=>?_}};let{d,i,a}:=zG a;let{A,b,a}:=zG a;cases a;show k E.Qa i λv u y x r=>?_
 show s (Ča x) b λj B w c n=>q _ _ _ (ľe c) {v,j,rfl,öa c.g,n}
def gz(y:SP X e i π)(v:MA X es r)(h:Í ÿa q12):MA X ď (jD i π r):=by
 let{t,p,k}:=y.h;let{I,s,z}:=v.h;show{{_,Xh p s h,λE a q=>?_}};let{C,u,a}:=zG a;let{J,n,a}:=zG a;let{F,A,B}:=VP u;let{w,m,G,c,l,o,_}:=Ŭj A B;show k c l (z E n λf K H b j=>q _ _ _ b ?_);cases C with
 |fz d=>cases a;show{m,f,rfl,o.1.mono b.g,j}|own d=>cases a;show{m,f,w,rfl,c,Ϝc b.h,j}|obj x fs ms=>cases a;show{m,f,w,rfl,c,Ϝc b.h,j}|tab ks ms=>cases a;show{m,f,w,rfl,c,Ϝc b.h,j}|tp ms=>cases a;show{m,f,w,rfl,c,Ϝc b.h,j}
#print a
nonrec def Tx:Á AV->É Ÿa
 | []=>À []|.v d::as=>(Tx as).bind λa=>À (d::a)|.p _ _::_=>Å
def LV:Á AV->É (Á D×Â×Á xt×Á D)
 | []=>Å|.v d::as=>(LV as).bind λr=>À (d::r.1,r.2)|.p i π::as=>(Tx as).bind λb=>À ([],i,π,b)
nonrec def jO(ds:Á D):Á M:=Ğg .fz
def Y6(F:FM)(as:Á AV)(β:yL):É (M×yL):=match Tx as with
 |À ds=>(F (jO ds)).bind λr=>À (r.2,β)|Å=>(LV as).bind λc=>(g6 β c.2.1 c.2.2.1).bind λb=>(F (jO c.1++b::jO c.2.2.2)).bind λr=>(r.1[c.1.length]?).bind λa=>(Ţb β c.2.1 c.2.2.1 a).bind λβ'=>À (r.2,β')
def pQ(F:FM)(f:tH):we:=λβ=>(ža).bind λa=>Y6 F a β
section
variable{K:Ô}{n:Â}{P:Á V}{G0 H0 G H G' H':Hp}{β:yL}{σ:St}
theorem IV:∀{ds:Á D}{vs:Á V},ë K G ds vs->ό K G H (jO ds) vs Ŋi
 | [],_,r=>{r,λ_ z=>z}|d::ds,_,r=>by let{v,r,rfl,a,b}:=r;show{v,r,λ_=>ÿ,λ_=>ÿ,rfl,{a,λ_ z=>z},IV b,λ_ z=>ŭ,λq=>{λz=>ŭ,λz=>ŭ id id}}
theorem im{g:M}{v1:V}{c:Ft}(o:xU K G H g v1 c){b:Á D}{e:Á V}(f:ë K G b e):∀{a:Á D}{va:Á V},ë K G a va->ό K G H (jO a++g::jO b) (va++v1::e) c
 | [],va,r=>by cases(show va=[]from r);show{v1,e,c,λ_=>ÿ,rfl,o,IV f,λ_ _ z=>z,λq=>{.inl,λz=>ŭ id đa}}|d::ds,_,r=>by let{v,r,rfl,h,i}:=r;show{v,_,λ_=>ÿ,c,rfl,{h,λ_ z=>z},im o f i,λ_ z=>ŭ,λq=>{.inr,λz=>ŭ đa id}}
theorem LC:∀{as:Á AV}{ds:Á D}{vs:Á V},Tx as=À ds->WN K G H σ as vs->ë K G ds vs
 | [],ds,vs,e,r=>by cases e;show r|.v d::as,ds,vs,e,r=>by let{c,b,e}:=zG e;cases e;let{v,r,rfl,a,f}:=r;show{v,r,rfl,a,LC b f}
 |.p i π::as,ds,vs,e,r=>by cases e
theorem bc:∀{as:Á AV}{a b:Á D}{i:Â}{π:Á xt}{vs:Á V},LV as=À (a,i,π,b)->WN K G H σ as vs->∃va v1 vb w,vs=va++v1::vb/\ë K G a va/\ë K G b vb/\σ[i]?=À (À w)/\wf K H w π v1
 | [],a,b,i,π,vs,e,r=>by cases e|.v d::as,a,b,i,π,vs,e,r=>by obtain⟨⟨o,q,π',k⟩,f,e⟩:=zG e;cases e;let{v,r,rfl,n,h}:=r;let{va,v1,vb,w,rfl,m,l,c,g}:=bc f h;show⟨v::va,v1,vb,w,rfl,{v,va,rfl,n,m},l,c,g⟩
 |.p j ρ::as,a,b,i,π,vs,e,r=>by let{k,f,e}:=zG e;cases e;let{v,r,w,rfl,c,va,h}:=r;show{[],v,r,w,rfl,rfl,LC f h,c,va}
theorem KH{v1:V}{b:M}:∀{ms:Á M}{vs:Á V}{L:Ft}{k:Â},ό K G H ms vs L->ms[k]?=À b->vs[k]?=À v1->∃L2,xU K G H b v1 L2/\∀q,L2 q->L q
 | [],_,_,_,_,e,_=>by cases e|m::ms,_,L,0,h,e1,e2=>by let{v,r,f,g,rfl,a,c,d,u}:=h;cases e1;cases e2;show{f,a,λq z=>(ϴ).mpr èb}
 |m::ms,_,L,k+1,h,e1,e2=>by let{v,r,f,g,rfl,a,c,d,u}:=h;let{L2,o,s}:=KH (k:=k) c Àm ϻl;show{L2,o,λq z=>(ϴ).mpr (.inr öe)}
def zx.call{F:FM}{as:Á AV}{vs:Á V}{m:M}{β':yL}{Q:VK}{E0:XK}(E:zx K n P G0 H0 G H β σ)(C:WN K G H σ as vs)(c:Y6 F as β=À (m,β'))(q:∀v G' H',yE G G'->zx K ģ P G0 H0 G' H' Þn ĕb->Q v H'):xX K F vs H Q E0:=by
 unfold Y6 at c
 split at c;rename_i ds e;rw[ďq];cases c;show{G,_,_,_,_,Ŭa,IV (LC e C),λ_ z=>ŭ,k,λv G' H' L' x o f=>?_}
 let B:cut H Ŋi=H:=by
  funext q
  show Y7 (λz=>z)
 rw[B]at x;let{U,r',N,Z,e2,l,t,s,u}:=o;cases e2
 show q v G' H' x.g (E.Aq x l λq z=>by let{a,b}:=f q Êe;rw[B]at b;show{a,b});obtain⟨⟨a,i,π,b⟩,X,c⟩:=zG c;let{nd,S,c}:=zG c;rw[ďq];let{nd',j,c}:=zG c;let{β2,I,c}:=zG c;cases c;let{mm,A,ha}:=VP S;let{w,v1,O,Y,va,l,g1,J}:=Ŭj A ha;let{xa,L,xb,w',rfl,y,W,d,p}:=bc X C;rw[Y]at d;cases d;cases Ϛc va p;show{G,_,O,_,_,Ŭa,im l W y,g1,k,λv G' H' L' x o f=>?_};let{U,r',N,Z,e2,oa,R,s,u}:=o;cases e2
 let{L2,t,r}:=KH (v1:=v1) R j (by rw[<-ęe,Ĵb Ġ,ϋb];rfl)
 let{m3,T,K3}:=J x oa t (λq z w=>s q z (r q w)) (λq z=>by rcases z with z|z;show f q Êe;show f q (Ιa (r q z)))
 rw[Mf A T]at I;cases I;show q v G' H' x.g K3
#print a
section
variable{X:Cx}{x m c:Ç}{ps:Á Ç}{j k:Â}{F:FM}{e o:Õ}{es:Á Õ}{fa:tH}{p pos ύ:Pos}{i:Â}{π:Á xt}
def YK(h:wX õ X.w X.K ð ĵ x ps k ûc)(m:yf j X.A)(i:Gl X x)(o:MA X ď fa)(hk:Í ϵa q10)(c:Í Ł q10)(n:Í Üa q12):MC X Ľa ėp:=by
 let{t,r,z}:=o.h;show{{_,MX h m i r hk c n,λE b q=>?_}};let{H,a,b}:=zG b;show z E a λC G B d f=>?_
 rw[ώ];show(úg).call f b λv u l s y=>q v u l (d.g.trans s) y
def ji(P:ï)(w:æ)(K:Ô)(b:Ç->É Value)(a:Heap)(c m:Ç)(ps:Á Ç)(k:Â)(sp:Sp):È:=
 ∃(C f:Ë) (fd:Ń),ϔ K Ę c=À Ėa/\tR K C/\L0 K C m f/\vy K fd ps []/\xP P w K b a xK k f fd ps sp
def ge(c m:Ç)(i:Â)(π:Á xt)(F:FM)(f:tH):we:=λβ=>(Ļf).bind λb=>match b with
 |.obj x fs _=>match decide (x=c)&&!(decide (m∈fs))with
  |Ã=>(ža).bind λa=>Y6 F (.p i π::a) β|Ä=>Å
 |_=>Å
theorem Hj{f:Ç}:∀{fs:Á Ç}{vs:Á V},f ∉ fs->(ąo).lookup f=Å
 | [],_,_=>rfl|_::_,[],_=>rfl|g::fs,v::vs,h=>by
  rw[Ďb,Ϸd]
  let c:(f==g)=Ä:=by
   let:f≠g:=λz=>h (z▸Ĝ)
   rw[Ŕp]
  rw[c];show Hj λz=>h ϙi
def cE{P:Á V}{b d G H:Hp}{β β':yL}{σ:St}{y:M}{Q:VK}{C:Ë}{t:TA}{z:TE}{E0:XK}(o:ϔ X.K Ę c=À Ėa)(T:∀{σ:St}{H:Hp}{v u:V}{Q:VK},σ[i]?=À ϯ->wf X.K H v π u->Q u H->z σ H Q)(S:∀{P:Á V}{b d G H:Hp}{β:yL}{σ:St}{as:Á AV}{Q:Á V->Hp->È},zx X.K ñ P b d G H β σ->fa β=À as->(∀vs G' H',zQ G H G' H'->WN X.K G' H' σ as vs->Q vs H')->t σ H Q)(E:zx X.K ñ P b d G H β σ)(k:ge c m i π F fa β=À (y,β'))(q:∀v G' H',yE G G'->zx X.K (ñ+1) P b d G' H' (β'++[À y]) ĕb->Q v H'):BN C m ûc [] E0 z t σ H Q:=by
 let{nd,I,a}:=zG k
 rw[Ťp];rename_i x R ms
 rw[Ťp];rename_i n;rw[Č]at n;cases š n.1
 let O:m ∉ R:=by let:=n.2;rw[Ŕp]
 let{as,j,k}:=zG a;let{mm,e,Z}:=VP I;let{w,v1,L1,A,B,Y,_}:=Ŭj e Z;let{p,C',L,vs,L',rfl,r,J,l,rs,nL,uL}:=Y;rw[o]at r;cases r;show T A B {p,L,_,rfl,J,Hj O,?_};show S E j λvs G1 H1 f U=>?_
 rw[ώ];show(ģj).call (as:=.p i π::as) {_,vs,w,rfl,A,Ůj f.h,U} k λv G' H' s K'=>q v G' H' (ϟo s) K';cases a;cases a
def fq{pl:Sem Ï}(h:ji õ X.w X.K ð ĵ c m ps k ûc)(y:yf j X.A)(p:SP X o i π)(u:MA X ď fa)(hk:Í ϵa q10)(a:Í Üa q12)(v:ě ϐe Ú=(do
   let ov <-ě o Ú
   standAt ţc
   let (f,first) <-holding [ov] Ĺc
   ϧb pos f first Ûd ūb):=by rfl):MC X ϐe (ge c m i π F fa):=by
 let{C,f,H,g,s,d,b,z}:=h;let{t,x,B}:=u.h;let{G,r,l}:=p.h;rw[Ų,Č]at a;show{{_,y5z r s d z (y.mono hk) b .nil YT x (tm a.1) (ZX a.2) v,λE n q=>cE g l B E n q}}
def f_{pl:Sem Ï}(h:ji õ X.w X.K ð ĵ c m ps k ûc)(x:yf j X.A)(n:SP X o i π)(hk:Í ϵa q10)(u:ě ϸc Ú=(do
   let ov <-ě o Ú
   standAt ţc
   let (f,first) <-holding [ov] Ĺc
   ϧb pos f first Ēh ūb):=by rfl):MC X ϸc (ge c m i π F vM):=by
 let{C,f,B,d,r,a,b,y}:=h;let{z,p,g}:=n.h;show{{_,l9 p r a y (x.mono hk) b .nil YT u,λE l q=>cE (t:=Vo) d g (λ{P I J G H β σ L Q} v e s=>by cases e;show s _ _ _ (Ņa v.ext.gh) rfl) E l q}}
def Ow(P:ï)(w:æ)(K:Ô)(b:Ç->É Value)(a:Heap)(c:Ç)(ps:Á Ç)(k:Â)(sp:Sp):È:=
 ∃(C f:Ë) (fd:Ń),ϔ K Ę c=À Ėa/\b c=À ś/\Mk K C f/\vy K fd ps []/\xP P w K b a xK k f fd ps sp
def JU(c:Ç)(F:FM)(f:tH):we:=λβ=>(ža).bind λa=>(Tx a).bind λb=>(F (.obj c [] []::jO b)).bind λr=>match r.2 with
 |.fz .zP=>(r.1[0]?).bind λm=>À (m,β)|_=>Å
def Hr(h:Ow õ X.w X.K ð ĵ c ps k ûc)(hr:yf j X.A)(hg:Gl X c)(ha:MA X ď fa)(hk:Í (k+1<=j) q10)(T:Í Ϙg q10)(R:Í Üa q12) :MC X (.Call Ħi ď [] pos) (JU c F fa):=by
 let{C,f,fd,ns,Y,mk,b,FF}:=h;let{t,pa,ka}:=ha.h;rw[Ų,Č]at R;show{{_,y5y mk FF (hr.mono hk) hg Y b .nil YT pa T (tm R.1) (ZX R.2),λ{P G0 H0 G H β β' σ mr Q} E d q=>?_}};let{as,O,d}:=zG d;let{ds,U,d}:=zG d;obtain⟨⟨J,m'⟩,hF,d⟩:=zG d;show ka E O λvs B m x1 ra y i s l ne=>?_
 rw[ώ];let N:=Ča x1;let rd:=LC U ra
 rw[ϓp];rename_i em
 change m'=.fz .zP at em
 subst em;let{m0,h0,d}:=zG d;cases d;let S:∀q,q≠y->q≠i->ze (ze m i (.own y)) y (.ins C i []) q=m q:=λq z w=>by rw[yH z,yH w]
 let gy:B y=Å:=N.ext.gh.free s
 let s2:yE B ĭk:=λq o z=>by let r:=N.ext.gh _ _ z;rw[S q (λc=>by subst c;rw[s]at r;cases r) (λc=>by subst c;rw[l]at r;cases r)];show r
 show{B,.obj c [] []::jO ds,λq=>q=y,J,.fz .zP,s2,{_,vs,λq=>q=y,λ_=>ÿ,rfl,{y,C,i,[],λ_=>ÿ,rfl,ns,yh,rfl,{rfl,λ_ z=>z},λz=>z,λq=>{.inl,λz=>ŭ id đa}},IV rd,λ_ _ z=>z,λq=>{.inl,λz=>ŭ id đa}},λq z=>z▸gy,hF,λv Z H' L' I o hN=>?_};let{v',r',La,Lb,e2,oa,ob,dj,u}:=o;cases e2;show{oa.1,?_};let{L2,o2,W}:=KH (v1:=.ref y) ob h0 rfl
 let cn:∀q,cut ĭk (λq=>q=y) q=Å->m q=Å:=λq z=>by rcases cU z with z|z;show z▸s;by_cases n:q=y;show n▸s;by_cases x:q=i;show x▸l;rw[S q n x]at z;show z
 let x3:zQ B m Z H':=⟨I.g,λq o z=>I.h _ _ (by
  let n:q≠y:=λc=>by subst c;rw[s]at z;cases z
  let x:q≠i:=λc=>by subst c;rw[l]at z;cases z
  rw[Y7 (L:=λq=>q=y) n,S q n x];show z),I.gh,λq z=>by
  rcases I.new q z with w|w;show .inl w;show .inr (cn q w)⟩
 show q _ Z H' (x1.g.trans x3.g) (N.Aq x3 o2 λq z=>by let{a,b}:=hN q (Ιa (W q z));show{a,cn q b});cases d
#print a
section
variable{K:Ô}{G H:Hp}
theorem Ào:∀{ms:Á M}{vs:Á V}{L:Ft},ό K G H ms vs L->∃Ls:Â->Ft,(∀(i:Â)(m:M),ms[i]?=À m->∃v,vs[i]?=À v/\xU K G H m v ϒj)/\(∀(i j:Â)(q:Ë),i≠j->Ls i q->Ls j q->ÿ)/\∀i q,Ls i q->L q
 | [],_,_,_=>{λ_ _=>ÿ,{λi m h=>ύn,{λ_ _ _ _ z=>ŭ,λ_ _ z=>ŭ}}}|m::ms,_,L,h=>by
  let{v,r,n,t,rfl,p,s,d,u}:=h;let{Ls,l,k,b}:=Ào s;show{λi=>match i with|0=>n|j+1=>Ls j,λi o e=>?_,λi j q g a f=>?_,λi q z=>?_};cases i with
  |ů=>cases e;show{v,rfl,p}|Ż j=>show l j o Ła
  cases i with
  |ů=>
   cases j with
   |ů=>show g rfl|Ż j=>show d q a (b j q f)
  |Ż i=>
   cases j with
   |ů=>show d q f (b i q a)|Ż j=>show k i j q (λc=>g řo) a f
  cases i with
  |ů=>show(ϴ).mpr èb|Ż j=>show(ϴ).mpr (.inr (b j q z))
theorem ŀi:∀{ms:Á M}{vs:Á V}{Ls:Â->Ft},(∀(i:Â)(m:M),ms[i]?=À m->∃v,vs[i]?=À v/\xU K G H m v ϒj)->(∀(i j:Â)(q:Ë),i≠j->Ls i q->Ls j q->ÿ)->č=Ĭa->∃L,ό K G H ms vs L/\∀q,L q->∃i,i<Ĭa/\Ls i q
 | [],vs,Ls,_,_,l=>by
  cases vs with
  |nil=>show{λ_=>ÿ,{rfl,λ_ z=>z},λ_ z=>ŭ}|ú v r=>cases l
 |m::ms,[],Ls,_,_,l=>by cases l|m::ms,v::vs,Ls,h,d,l=>by
  let{L,o,c}:=ŀi (ms:=ms) (vs:=vs) (Ls:=λi=>Ls î) (λi n e=>by let{u,b,a}:=h î n Ła;show{u,by simpa using b,a}) (λi j q p=>d î Ϫ q Ê) (îd l)
  let{u,b,a}:=h 0 m rfl;cases b;show{λq=>Ls 0 q\/L q,{v,vs,Ls 0,L,rfl,a,o,λq f g=>?_,λq=>ēc},λq z=>?_};let{i,_,z}:=c q g;show d 0 î q Ê f z;rcases z with z|z;show{0,Řn _,z};let{i,k,z}:=c q z;show{i+1,Ňm k,z}
#print a
nonrec def ZF:Á Ĺj->É (Á M)
 | []=>À []|o::r=>ŗj λm=>(ZF r).bind λa=>À (m::a)
def Lg(b:Â):gW->É ŉi
 |.rt m β=>(ťm).bind λa=>À (a,m)|.nx β=>(ťm).bind λa=>À (a,.fz .zP)|_=>Å
def wZ(a n:Â)(b:yZ)(ms:Á M):É ŉi:=(b (ςd (n-Ĭa))).bind (Lg a)
def vo(a n:Â)(b:yZ):FM:=λc=>if äa=a then wZ a n b c else Å
def uB{a n:Â}{b:yZ}:∀ms r,vo a n b ms=À r->Ĭa=a/\wZ a n b ms=À r:=λms r h=>by
 unfold vo at h
 rw[ðq]
theorem ba:∀{os:Á Ĺj} {ms:Á M},ZF os=À ms->Ĭa=os.length/\∀(i:Â)(m:M),ms[i]?=À m->os[i]?=À ϭa
 | [],ms,h=>by cases h;show{rfl,λi m e=>by cases e}|o::r,ms,h=>by
  let{d,a,h}:=zG h;let{c,b,h}:=zG h;cases h;subst a;let{l,g}:=ba b;refine{by rw[Ĉ,Ĉ,l],λi m e=>?_};cases i with
  |ů=>cases e;rfl|Ż j=>show g j m Ła
section
variable{K:Ô}
def z9p{N:Á Ç}{G H:Hp}{ms:Á M}{vs:Á V}{L:Ft}(s:yE G H)(o:ό K G H ms vs L)(g:∀q,L q->G q=Å)(u:Ĭa<=ŗ):zx K ŗ vs G ģp G H (ςd (ŗ-Ĭa)) ņi:=by
 let l:=ĉc;let{n,j,f,d}:=o.split;let b:∀q,L q->Bx H q:=ĉd (λm _ v k r=>r.cells m v k) o
 let a:∀(i:Â)(v:V),vs[i]?=À v->ņi[i]?=À ϯ:=λi v e=>by unfold õe;rw[ľa (by rw[å];show Ŋe.1),ņ,e];rfl
 show{{Œa _,λq o e=>?_,s,λq z=>.inl z},?_,?_,by omega,a,n,λi m h=>?_,f,λi q z=>{g q Ϭi,cT Ϭi,b q Ϭi}};rw[Úq];rw[cT c]at e;cases e;rw[Y7 c]at e;show e;unfold õe;rw[Ϟp];rw[Ϟp];let{w,e,z}:=MM h;cases z;let{v,p,t}:=j i m e;show{v,a i v p,t}
def fj{n:Â}{A r G H:Hp}{vs:Á V}{β:yL}{σ:St}{m:M}{v:V}{ms:Á M}(E:zx K ģ vs A r G H Úe ĕb)(B:č<=n)(h:ZF (β.take č)=À ms) :∃L,ό K G H (m::ms) (v::vs) L/\∀q,L q->G q=Å/\r q=Å:=by
 let{Ls,F}:=ύa;let{l,g}:=ba h;rw[Ýa,E.WF,Öb B]at l;let{u,f,x}:=Ğa n m Ğp;rw[gA E.QY]at f;cases f
 let{L,o,y}:=ŀi (K:=K) (G:=G) (H:=H) (ms:=m::ms) (vs:=v::vs) (Ls:=λi=>match i with|0=>Ls n|j+1=>if j<n then Ls j else λ_=>ÿ) (λi c e=>by
  cases i with
  |ů=>cases e;show{v,rfl,x}|Ż j=>
   let p:ms[j]?=À c:=by rw[ϵp]
   have d:j<č:=by rw[<-l];show ąg.1
   let e2:=g j c p;rw[Ûm]at e2;rw[Ð d]at e2;let{w,t,C}:=Ğa j c (by rw[uZ (by rw[E.WF];omega)];show e2);let k:=īb j (vs[j]) (Ē d);rw[t]at k;cases k;refine{vs[j],by simp[d],?_};simp only[Ð (show j<n by omega)];show C) (λi j q s a b=>by
  cases i with
  |ů=>
   cases j with
   |ů=>show s rfl|Ż j=>
    dsimp only at a b
    rw[Ñq];show Êa n j q Ê a b;show b
  |Ż i=>
   cases j with
   |ů=>
    dsimp only at a b
    rw[Ťp];show Êa n i q Ê b a;show a
   |Ż j=>
    dsimp only at a b
    rw[Ťp];rw[Ñq];show Êa i j q Ê a b;show b;show a) (by rw[Ĉ,Ĉ,l])
 show{L,o,λq z=>?_};let{i,_,z}:=y q z;cases i with
 |ů=>show{Ûo.1,Ûo.2.1}|Ż j=>
  dsimp only at z
  rw[ßq];show{Ľf.1,Ľf.2.1};show ŭ
#print a
structure vV(K:Ô)(x qual:Ç)(st:Ü)(f:Ë)(fd:Ń):È where
 ex:∃(oc:Value) (od:É Ë) (dV kV doc pm:Value) (an:É Ë) (cdv ct:Value) (osl:Ù ϡa),
  fd=Ϡc x qual Ňd Öa ō dV kV doc pm an cdv ct/\Ϯ f=À {oc,od,.func fd,osl}/\Ŗb K cdv qual=Ã
 kp:Ôa K Ĥ=Ã
def _root_.L2.Fun.v{K:Ô}{x a:Ç}{st:Ü}{f:Ë}{h:Ń}(F:Fun K x a st f h):vV K x a st f h:=by let{j,i,kV,d,k,n,b,m,g,e,l,c}:=F.ex;show{{j,i,.none,kV,d,k,n,b,m,g,e,l,c},F.kp}
section
variable{P:ï}{w:æ}{K:Ô}{mg:Ç->É Value}{Ì:Heap}
def z4l{x a:Ç}{st:Ü}{f:Ë}{m:Value}{j i:É Ë}{e:Ù ϡa}{h kV d g b ct:Value}(l:Ϯ f=À {m,j,.func ċk,e})(c:Ŗb K b a=Ã)(k:Ôa K Ĥ=Ã):vV K x a st f ċk:={{m,j,h,kV,d,g,i,b,ct,e,rfl,l,c},k}
def vV.ok{x a:Ç}{st:Ü}{f:Ë}{i:Ń}{N ps:Á Ç}{k:Â}{sp:Sp}(F:vV K x a st f i)(S:zj N ps ō)(e:∀vs H Q E,sp vs H Q E->č=ğ)(c:∀(b:Value)(A:ø)(ć:Á Env)(s:Î)(H:Hp)(vs:Á V)(Q:VK)(E:XK),yf k Él->sp vs H Q E->
   ∃t,uO (ĉk).qD Öa t/\t { nx:=λ_ H'=>Q .zP H',rt:=Q } şc H):xP P w K mg Ì xK Ş f i ps sp:=by
 let{r,p,v,kV,m,u,y,b,o,j,rfl,n,d}:=F.ex;show dM n d S e λA ć s H vs Q E l g=>?_
 rw[ϳp]
def vV.Qc{x c:Ç}{st:Ü}{f:Ë}{T:Ń}{N ps:Á Ç}{k:Â}{F:FM}{b:yZ}(d:vV K x c st f T)(S:zj N ps ō)(R:ğ<=ŗ)(W:∀ms r,F ms=À r->Ĭa=ğ/\wZ ğ ŗ b ms=À r)(Z:∀(g:Value)(A:ø)(ć:Á Env)(s:Î)(H:Hp)(E:XK),yf k Èl->jA (Ĉk).qD ğ Öa b):xP P w K mg Ì xK Ş f T ps Ñg:=by
 show d.ok S (λU H Q E h=>?_) λg A ć s H U Q E hr h=>?_;let{G,ms,L,B,m',_,o,_,e,_}:=h;rw[ĉc,(W _ _ e).1];let{G,ms,L,B,m',s',o,hL,e,q}:=h;let{l,a}:=W _ _ e;let{t,p,Y}:=(Z g A ć s H E hr).h;let{X,I,a}:=zG a;let i:U.length=ğ:=by rw[ĉc,l]
 refine{t,p,Y i (z9p (N:=N) s' o hL Ê) I ?_};cases X with
 |nx β=>let{u,O,a}:=zG (show(úm).bind _=_ from a);cases a;intro σ z J j;let{C,y,n}:=fj (j.UH (d:=.zP) (v:=.zP) rfl) Ĭm ĭm;show q .zP z J C j.ext y n
 |rt m β=>let{u,O,a}:=zG (show(úm).bind _=_ from a);cases a;intro σ v z J j;let{C,y,n}:=fj j Ĭm ĭm;show q v z J C j.ext y n
 |_=>cases a
def vV.z0l{x c:Ç}{st:Ü}{f:Ë}{j:Ń}{N ps:Á Ç}{k:Â}{F:Á D->É ä}{b:FS}(d:vV K x c st f j)(S:zj N ps ō)(O:ğ<=ŗ)(m:∀ds r,F ds=À r->þ=ğ/\yM ŗ b ds=À r)(n:∀(g:Value)(A:ø)(ć:Á Env)(s:Î)(H:Hp)(E:XK),yf k Èl->qI (Ĉk).qD Öa b):xP P w K mg Ì xK Ş f j ps ıe:=by
 show d.ok S (λB H Q E h=>?_) λg A ć s H B Q E I h=>?_;let{G,ds,o,y,_,r,e,_}:=h;rw[Ϟ,(m _ _ e).1];let{G,ds,o,y,J,r,e,q}:=h;let{l,a}:=m _ _ e;let{t,p,v}:=(n g A ć s H E I).h;let{u,i,a}:=zG a;refine{t,p,v (dB (N:=N) J r Ê) i ?_};cases u with
 |nx τ=>cases a;show λσ L C z=>q .zP L C z.ext rfl|rt o' d'=>
  cases a;cases o with
  |Ä=>show q|Ã=>show q
 |_=>cases a
theorem Def.Qc{x:Ç}{st:Ü}{N ps:Á Ç}{k:Â}{F:FM}{b:yZ}(d:Def K mg x st ps)(S:zj N ps ō)(g:ğ<=ŗ)(j:∀ms r,F ms=À r->Ĭa=ğ/\wZ ğ ŗ b ms=À r)(h:∀(f:Ë)(a:Value)(A:ø)(ć:Á Env)(s:Î)(H:Hp)(E:XK),yf k (ėb (íb x ō Û f a))->jA (tU xK P w K mg Ì N x ō f a A ć s H E).qD ğ Öa b):wX P w K mg Ì x ps Ş Ñg:=by let{f,l,e,i,c}:=d;show{f,l,i,e.kp,c,e.v.Qc S g j (h f)}
def dP(F:FM):Á D->É ä:=λa=>(F (jO a)).bind λr=>match r.2 with
 |.fz d=>À (Ä,d)|.own d=>À (Ã,d)|_=>Å
def x1o{F:FM}{vs:Á V}{H:Hp}{Q:VK}{E:XK}(h:vz K (dP F) vs H Q E):xX K F vs H Q E:=by
 let{G,y,o,d,s,r,e,q}:=h;obtain⟨⟨c,k⟩,n,e⟩:=zG e
 let g:cut H Ŋi=H:=by
  funext q
  show Y7 (λz=>z)
 show{G,jO y,λ_=>ÿ,c,k,s,IV r,λ_ z=>ŭ,n,λv f j L x m l=>?_};rw[g]at x;let{I,N,B,J,e2,i,C,A,u}:=m;cases e2;cases k with
 |fz d'=>cases e;show q v f j x i.1|own d'=>cases e;let{p,rfl,t,w}:=i;let{a,b}:=l p ((u p).mpr (.inl ((w p).mpr rfl)));rw[g]at b;show q p f j x b a t
 |_=>cases e
#print a
structure Ov(P:ï)(w:æ)(K:Ô)(mg:Ç->É Value)(Ì:Heap)(c m:Ç)(ps:Á Ç)(k:Â)(sp:Sp):È where
 ex:∃(C f:Ë) (fd:Ń) (mc:Value),mg c=À ś/\ĉi K ś Ĉh=À Ůg/\ųi K C mc=Ã/\Ŵi K ś mc m=À Œi/\Ôa K Ĥ=Ã/\vy K fd ps []/\xP P w K mg Ì xK k f fd ps sp
section
variable{X:Cx}{c m:Ç}{ps:Á Ç}{j k:Â}{F:FM}{e:Õ}{es:Á Õ}{fa:tH}{p pos ύ:Pos}{sp:Sp}{t:TA}
def y5s{pl:Sem Ï}(h:Ov õ X.w X.K ð ĵ c m ps k sp)(E:yf j X.A)(v:Gl X c)(y:PA X ď t)(hk:Í ϵa q10)(g:Í Ϙg q10)(i:Í Üa q12)(B:ě ϋe Ú=(do
   let ov <-ě Ħi Ú
   standAt ţc
   let (f,first) <-holding [ov] Ĺc
   ϧb pos f first Ûd ūb):=by rfl):PE X ϋe ϲm:=by
 let{C,f,L,G,z,d,l,a,o,b,F}:=h.ex;rw[Ų,Č]at i;intro u s σ H Q I x;show Ŕh (pl:=pl) ?_ B;show IH I v z ?_ g;show W.method_cls ϕ d (W.cls_value ϕ l a rfl ?_);show Ăd (h₀:=ĵ) ċd o (zw (y pos u _ σ H _ Ϸb x) λN P ⟨O,J,n,r,q⟩=>{n.wE,Vc F (E.mono hk) b .nil YT n r q}) (tm i.1) (ZX i.2)
def z9w{pl:Sem Ï}(h:Ov õ X.w X.K ð ĵ c m ps k ûc)(r:yf j X.A)(n:Gl X c)(x:MA X ď fa)(hk:Í ϵa q10)(d:Í Ϙg q10)(u:Í Üa q12)(y:ě ϋe Ú=(do
   let ov <-ě Ħi Ú
   standAt ţc
   let (f,first) <-holding [ov] Ĺc
   ϧb pos f first Ûd ūb):=by rfl):MC X ϋe ėp:=by
 let{t,z,G}:=x.h;show{{_,y5s h r n z hk d u y,λE b q=>?_}};let{L,a,b}:=zG b;show G E a λI J H i l=>?_
 rw[ώ];show(Ča i).call l b λv B o s C=>q v B o (ϗo s) C
#print a
nonrec def z3k:yL->É ŉf:=λβ=>À ([],β)
nonrec def z3j(f:we)(r:yL->É ŉf):yL->É ŉf:=λβ=>(ža).bind λa=>(r a.2).bind λb=>À (a.1::b.1,b.2)
nonrec def z2b(ks:Á Ç)(fs:yL->É ŉf):we:=λβ=>(fs β).bind λr=>match decide (ŀ=r.1.length)with
 |Ã=>À (.tab (ks.map .inr) r.1,r.2)|Ä=>Å
nonrec def z29(i:Â):we:=λβ=>match β[i]? with
 |À ϭa=>À (m,β.set i Å)|_=>Å
#print L3
namespace L2
open Ķ ő Ŗa Ň
section
variable{X:Cx}{c e:Õ}{es:Á Õ}{t:TA}{tc:TE}{pos:Pos}{j:Â}
nonrec def x2d(X:Cx)(j:Â)(tc:TE)(t:TA):TE:=λσ H Q=>tc σ H λv a=>∃(f:Ë) (fd:Ń) (ps:Á Ç) (k:Â) (sp:Sp),v=.ref f/\k<=j/\Ôa X.K Ĥ=Ã/\vy X.K fd ps []/\xP õ X.w X.K ð ĵ xK k f fd ps sp/\t σ a λc b=>sp (c++[]) b Q E0
def y5p(z:yf j X.A)(n:PE X c tc)(x:PA X ď t)(d:Í Üa q12)(a:Í (ě Žl Ú=(do ϧb pos (<-ě c Ú) [] Ûd ūb)) q12):PE X Žl (x2d X j tc t):=by rw[Řp];rw[Ų,Č]at d;rw[a];show Ó (zw ėh λu o ⟨v,C,p,w,f,E,L,k,G,y,l,m,b,F,q⟩=>?_);subst y;cases w;show Ăd (h₀:=ĵ) ċd m (zw (x pos i o σ _ _ p q) λK B ⟨J,N,g,r,q⟩=>{g.wE,?_}) (tm d.1) (ZX d.2);show Vc F (z.mono l) b .nil YT g r q
#print a
#print L2
namespace L3
open Ķ ő Ň L2
def XC(K:Ô)(w:æ)(b:Ç->É Value)(a:Ë)(ks:Á zW)(ns:Á Ç):È:=
 ∃fs:Á Ë,ĩa=Ä/\ŀ=ŉa/\(∀(i:Â)(n:Ç),ns[i]?=À n->∃f,fs[i]?=À f/\b n=À Ĥ)/\Ŝ=ŉa/\∀(P:ï)(h:Heap),ŵ h->∃vs,KV (Œd ùd) vs/\Ģe êb a vs
inductive Wi(mg:Ç->É Value):Á Ç->Á Ë->È
 |nil:Wi mg [] []
 |ú {n:Ç} {f:Ë} {ns:Á Ç} {fs:Á Ë} (h:mg n=À Ĥ) (r:Wi mg ns fs):Wi mg Čg (f::fs)
theorem Wi.at_{c:Ç->É Value}:∀{ns:Á Ç}{fs:Á Ë},Wi c ns fs->(∀(i:Â)(n:Ç),ns[i]?=À n->∃f,fs[i]?=À f/\c n=À Ĥ)/\Ŝ=ŉa
 |_,_,.nil=>{λi n h=>ύn,rfl}|_,_,.cons h r=>by
  let{a,b}:=r.at_;show{λi n e=>?_,by rw[Ĉ,Ĉ,b]};cases i with
  |ů=>cases e;show{_,rfl,h}|Ż i=>show a i n Ła
theorem rV:∀{fs:Á Ë},zl ùd Ñp
 | []=>.nil|_::_=>.cons rfl rV
def z4s{K:Ô}{d:Ç->É Value}{w:æ}{a:Ë}{es:Á þc}{n:Â}{xs ns:Á Ç}{fs:Á Ë}(l:Ϯ a=À { cls:=.type Ãa,Ć:=.dict es.toArray n })(e:Z5 w es xs Ñp)(k:xs.Nodup)(f:ĩa=Ä)(m:Wi d ns fs) :XC K w d a ĳo ns:=by
 let c:(Ėc ϵb:Á zW).length=(ùd).length:=by rw[å,e.len,å,å]
 let{o,g}:=m.at_;refine{fs,f,by rw[c,å],o,g,λP h j=>{_,z8w rV c,?_}};let{p,q}:=e.pairs (P:=P);refine{_,_,_,j _ _ l,{rfl,rfl,rfl},rfl,λe i=>q e (by simpa using i),p,?_};rw[sM (by rw[å];show e.len)];show Ēm _ (λa b h z=>h (Ďi z)) k
section
variable{X:Cx}
def z4q{A:Ë}{ks:Á zW}{ns:Á Ç}(g:XC X.K X.w ð A ks ns):y_ X Ďe (λx y H Q=>y=.ref A/\∃k,x=kV k/\Q ϵm H):=by intro l s σ H x y v u Q I f i h;let{rfl,k,rfl,q}:=h;cases i;let{m,a,c,_,_,d}:=g;let{j,b,e}:=d õ á ϕ;show ϩn (ZJ f) a e.mapOf ?_;rw[<-(b.val k).UD,Vw k Âm,Et k Âm];show{.bl _,H,ϳ _,rfl,q}
def x1z{A:Ë}{ks:Á zW}{ns:Á Ç}{x:Ç}{p pos:Pos}{a:Õ}{e:FE}(h:vB ð x ķe)(g:XC X.K X.w ð A ks ns)(l:Gl X x)(n:SE X a e)(j:Í Ł q10)(o:Í (éc .In ſb=Ä) q12) :ST X (.Compare a [.In] [.Name x p] pos) (tE (e1 (V0 ks) e)):=by let{I,r,s}:=n.h;show{{_,KQ (z4q g) r (IW h l j) o,λ{B F G H τ σ d Q} E c q=>?_}};let{z,b,c}:=zG c;let{y,m,b}:=zG b;let{k,f,b}:=zG b;cases b;cases c;show s E m λu v C i t=>{rfl,k,YH f t,_,rfl,q _ _ i}
def z4r{A:Ë}{ks:Á zW}{ns:Á Ç}(g:XC X.K X.w ð A ks ns):j9 X (λx y H Q=>x=.ref A/\∃k n,y=kV k/\ċ ks ns k=À n/\∀f,ð n=À Ĥ->Q Ĥ H):=by
 intro p l N s σ H x y v u Q I R Z h E;let{rfl,k,n,rfl,O,q}:=h;cases R;let{a,z,P,b,J,U}:=g;let{L,d,B}:=U õ á ϕ
 let m:∀{ks:Á zW}{ns:Á Ç}{a:Á Ë},(∀(i:Â)(n:Ç),ns[i]?=À n->∃f,a[i]?=À f/\ð n=À Ĥ)->ċ ks ns k=À n->∃f,ċ ks (Ğc όa) k=À Ĥ/\ð n=À Ĥ:=λ{ks}=>by
  induction ks with
  |nil=>intro ns a _ e;cases e|ú k' ks ih=>
   intro ns a b e;cases ns with
   |nil=>cases e|ú n' ns=>
    let{f0,t,W}:=b 0 n' rfl;cases a with
    |nil=>cases t|ú f1 a=>cases t;unfold ċ at e;rw[ľ];unfold ċ;by_cases c:k'=k;rw[Ð c]at e ⊢;cases e;show{_,rfl,W};rw[Ñ c]at e ⊢;show ih (λi n h=>b î n üa) e
 let{f,T,S}:=m b O;let{C,G,j}:=ŗf (v:=όa f) (o:=Đc L k) (by rw[<-T,<-Vw k (by rw[å];show P)];show d.val k)
 show ϓe (x:=C) B.typeIs Œk
  (ŀm (Q:=λr Y=>r=C/\EP X N σ Q r Y) (ZJ Z) B.mapOf G {rfl,_,H,ϳ _,j,q f S}) E
inductive vn(X:Cx)(j:Â):Á Ç->Á FM->È
 |nil:vn X j [] []
 |ú {n:Ç} {ps:Á Ç} {k:Â} {F:FM} {ns:Á Ç} {Fs:Á FM} (h:wX õ X.w X.K ð ĵ n ps k ûc) (hk:k<=j) (r:vn X j ns Fs):vn X j Čg (F::Fs)
theorem vn.get{X:Cx}{j:Â}{k:zW}{F:FM}:∀{ks:Á zW}{ns:Á Ç}{Fs:Á FM},vn X j ns Fs->ċ ks Fs k=À F->∃n ps i,ċ ks ns k=À n/\i<=j/\wX õ X.w X.K ð ĵ n ps i ûc
 | [],_,_,_,e=>by cases e|_::_,_,_,.nil,e=>by cases e|k'::ks,_,_,.cons (n:=n) (ps:=ps) (k:=i) h hk r,e=>by unfold ċ at e;rw[śp];show{n,ps,i,by unfold ċ;rw[Ð c],hk,h};rw[Ñ c]at e;let{f,a,g,b,d}:=ϋa e;show{f,a,g,by unfold ċ;rw[Ñ c];show b,d}
def E8(ks:Á zW)(b:Á FM)(a:FE)(c:tH):we:=λβ=>(a ċg).bind λx=>(Še).bind λk=>(ċ ks b k).bind λF=>pQ F c β
def z9x{A:Ë}{ks:Á zW}{ns:Á Ç}{B:Á FM}{x:Ç}{p p2 pos:Pos}{k e:Õ}{es:Á Õ}{I:FE}{J:tH}{j:Â}(h:vB ð x ķe)(g:XC X.K X.w ð A ks ns)(R:Gl X x)(D:vn X j ns B)(hr:yf j X.A)(hk:SE X k I)(ha:MA X ď J)(L:Í ŧf q12)(N:Í Ł q10)(he:Í Üa q12)(t:Í (ě Ĥk Ú=(do ϧb pos (<-ě (.Subscript ſb k p2) Ú) [] Ûd ūb)) q12):MC X Ĥk (E8 ks B I J):=by
 let{tk,pk,U}:=ϰc;let{ta,pa,Z}:=ha.h;show{{_,y5p hr (MV (z4r g) (IW h R N) pk (Ma L)) pa he t,λ{P G0 H0 G H β β' σ m Q} E a q=>?_}};let{y,hy,a}:=zG a;let{o,d,a}:=zG a;let{F,hF,a}:=zG a;let{as,r,a}:=zG a;let{n,ps,i,S,hi,{f,O,T,kp,b,Y}}:=D.get hF;let{G1,E1,l}:=E.pG;show U E1 hy λu G2 H2 x2 r2=>?_
 let{G3,x3,z,_}:=l _ _ x2;show{rfl,o,n,YH d r2,S,λf' c=>?_};rw[T]at c;cases c;show{f,O,ps,i,_,rfl,hi,kp,b,Y,Z z r λvs G4 H4 C ra=>?_};rw[ώ];show(z.go C).call ra a λv W H' s K'=>q v W H' (x3.g.trans (C.g.trans s)) K'
#print a
def xv(a:Á Ç)(f:Ç):D->É D
 |.obj x fs vs=>if x∈a then ùa fs vs f else Å|_=>Å
theorem Ϧo{K:Ô}{G:Hp}{κ:Type}[Ňb κ]{k:κ}{d:D}:∀{ks:Á κ}{ds:Á D}{vs:Á V},ë K G ds vs->ěj ks ds k=À d->∃v,ěj ks vs k=À v/\zY K G d v
 | [],_,_,_,e=>by cases e|_::_,[],_,_,e=>by cases e|k'::ks,d'::ds,vs,r,e=>by let{v,f,rfl,b,a}:=r;unfold ěj at e ⊢;by_cases c:k'=k;rw[Ð c]at e ⊢;cases e;show{v,rfl,b};rw[Ñ c]at e ⊢;show Ϧo a e
nonrec def pO(c m:Ç)(b:FE)(fs:FA):FA:=λτ=>(b τ).bind λo=>match o with
 |.obj x fl _=>match decide (x=c)&&!(decide (m∈fl))with
  |Ã=>(fs τ).bind λa=>À (o::a)|Ä=>Å
 |_=>Å
section
variable{X:Cx}{e o:Õ}{f m c:Ç}{cs:Á Ç}{fe fo:FE}{pos ύ:Pos}{ps:Á Ç}{j k:Â}{FF:Á D->É ä}
def vH(h:SE X e fe)(k:vL X.K cs f)(w:Í ϧk q12):SE X Ñf (e1 (xv cs f) fe):=by
 let{t,p,j}:=h.h;show{{_,i_ p w,λ{J N G H τ σ d Q} E b q=>?_}};let{y,A,b}:=zG b;show j E A λv L F c r=>?_
 unfold xv at b
 rw[Ñq];rename_i x O I;rw[ēq];let{a,C,s,P,rfl,g,B,l,o}:=r;let{u,m,i}:=o.getA b;let{n,z}:=k x hx C g;show{a,C,s,_,u,rfl,ħc _ _ B,n,z,by rw[MK];show m,q _ _ _ c i};rw[Ñ hx]at b;cases b;cases b
def x0g{e f G H:Hp}{τ:zu}{σ:St}{ds:Á D}{Q:VK}{C:Ë}{t:TA}{p:TE}{sp:Sp}{fs:FA}(j:ϔ X.K Ę c=À Ėa)(s:∀{e f G H:Hp}{τ:zu}{σ:St}{d:D}{Q:VK},zp X.K ñ e f G H τ σ->fo τ=À d->(∀v G' H',zQ G H G' H'->zY X.K G' d v->Q v H')->p σ H Q)(z:∀{e f G H:Hp}{τ:zu}{σ:St}{ds:Á D}{Q:Á V->Hp->È},zp X.K ñ e f G H τ σ->fs τ=À ds->(∀vs G' H',zQ G H G' H'->ë X.K G' ds vs->Q vs H')->t σ H Q)(E:zp X.K ñ e f G H τ σ)(i:pO c m fo fs τ=À ds)(q:∀vs G' H',zQ G H G' H'->ë X.K G' ds vs->sp vs H' Q E0):BN C m sp [] E0 p t σ H Q:=by
 let{y,J,b}:=zG i
 rw[Ñq];rename_i x u vs
 rw[Ñq];rename_i k;rw[Č]at k;cases š k.1
 let I:m ∉ u:=by let:=k.2;rw[Ŕp]
 let{A,w,i}:=zG b;cases i;show s E J λv Y R h r=>?_
 let{a,P,F,S,rfl,n,L,l,T}:=id r;rw[j]at n;cases n;show{a,F,_,rfl,h.gh _ _ L,Hj I,z (Ča h) w λvs O U o B=>?_};rw[ώ];show q _ _ _ (ľd o) {_,vs,rfl,öa o.g,B};cases b;cases b
def x1p{G H:Hp}{ds:Á D}{vs:Á V}{Q:VK}{b a:Hp}{d:D}{o:Ï}{E:XK}(x:zQ b a G H)(r:ë X.K G ds vs)(g:FF ds=À (o,d))(q:∀v G' H',zQ b a G' H'->zY X.K G' d v->Q v H'):vz X.K FF vs H Q E:=by
 show{G,ds,o,d,ĭb,r,g,?_};cases o with
 |Ä=>show λv G' H' c r=>q v G' H' (ľe c) r|Ã=>intro p G' H' c f e o;let{u,h,r}:=o.ye e;show q _ _ _ (ľe (c.ye f e h)) r
def Th{pl:Sem Ï}(h:ji õ X.w X.K ð ĵ c m ps k ðe)(N:yf j X.A)(y:SE X o fo)(hk:Í ϵa q10)(J:ě ϸc Ú=(do
   let ov <-ě o Ú
   standAt ţc
   let (f,first) <-holding [ov] Ĺc
   ϧb pos f first Ēh ūb):=by rfl):SE X ϸc (zg FF (pO c m fo zF)):=by
 let{C,f,P,g,n,u,b,F}:=h;let{O,B,v}:=y.h;show{{_,l9 B n u F (N.mono hk) b .nil YT J,λ{l s G H τ σ d Q} E a q=>?_}};let{I,i,a}:=zG a;obtain⟨⟨S,U⟩,z,a⟩:=zG a;cases a;show x0g (t:=Vo) g v (λ{l s G H τ σ I Q} L e p=>by cases e;show p _ _ _ (Ņa L.ext.gh) rfl) E i λR T W x r=>x1p x r z q
#print a
def z9n(a:Â)(i:Â)(π:Á xt)(d:FE)(b:we):yZ:=λβ=>(b β).bind λr=>(Ĳd).bind λy=>match y with
 |.tup [d1,d2]=>(g6 ϭg i π).bind λc=>match c with
  |.own ϵi=>(d (p6 ϭg)).bind λx=>match x with
   |.int j=>(Ği).bind λn=>(Ţb ϭg i π (.own (Β (Ļe n d2)))).bind λβ2=>À œb|_=>Å
  |_=>Å
 |_=>Å
open Ŗa
def z2f{X:Cx}:wu X öc (λxs H Q=>∃a kvs,xs=ϥ/\Rd H a ř/\∀p,H p=Å->Q Ŭ (ze H p ř)):=by
 intro z s σ H xs y Q I r h;let{a,kvs,rfl,e,q}:=h;rw[Îq];let{k,c,t,d,n}:=gf Ė e;let f:Ŵa=ň:=IB d;refine kt_call_dict c n (by rw[f];show k) λv w x=>?_
 let g:ĺo=Ä:=by let:=I.big;rw[Óf];show xS Ķo
 let l:∀b o,ö b=À o->v.get? b=À o:=λb o j=>by let i:=ġ j;show(x.2 b Ůn).trans (ė _ j)
 show{.ref Û,_,Ża (a:=Û) (o:=.dK kvs) (t':=Đ) l Ġ (EH k g d w),rfl,q _ ϓc}
nonrec def Lj:Á D->É D
 | [.dic ks ds]=>À Ϟn|_=>Å
def x0o{X:Cx}{e:Õ}{fs:FA}{p pos:Pos}(m:Gl X Ãa)(x:ð Ãa=Å)(hv:ž Ãa=À öc)(w:SA X [e] fs)(g:Í ÿa q12):SF X ϝl (eL Lj fs):=by
 let{t,s,k}:=w.h;refine{{_,(Xk z2f m x hv {s} Ò Ò (by rw[Ų,g];rfl)).h,λ{B J G H τ σ d Q} E b q=>?_}};let{F,j,b}:=zG b;show k E j λA I z c u=>?_
 unfold Lj at b
 rw[Ñq];rename_i C y;cases b;let{v,rfl,a,r,rfl,i,o,n,l}:=qx u;show{a,_,rfl,ϱb ħc i,λp f=>?_};show q p _ _ (Ěb (ĵa ħc f)) (Ñj f) (ŭi f) {r,yh,o,n,l};cases b
#print L3
namespace L3
def x46:u8 .zP=Ã:=rfl
def x47(b:Ï):u8 Şb=Ã:=rfl
def x48(i:Æ):u8 Áa=Ã:=rfl
def x49(x:ϑf):u8 Ϭb=Ã:=rfl
def x4a(ds:Á D):u8 ϯi=Ϻa ds:=rfl
def x4b:Ϻa []=Ã:=rfl
def x4c(d:D)(ds:Á D):Ϻa (d::ds)=én:=rfl
def z1b(i:Â)(π:Á xt)(d:D):gZ ĺe i π=.v d:=rfl
def x3f(d:D):vJ ĺe=d:=rfl
def x3g(d:D):vJ ûj=d:=rfl
def x3h(x:ϑf)(fs:Á ϑf)(ms:Á M):vJ ύh=.obj x fs üc:=rfl
def x3i(ks:Á (Sum Æ ϑf))(ms:Á M):vJ ϗn=.dic ks üc:=rfl
def x3j:ϩc []=[]:=rfl
def x3k(m:M)(ms:Á M):ϩc (m::ms)=vJ m::ϩc ms:=rfl
def z1f(x:M):pP x []=À x:=rfl
def y70(x y:M):pf x [] y=À y:=rfl
def z9i(g:MG)(b:yZ)(x:yL):jy g b [] x=À (.nx x):=rfl
def z9j(g:MG)(b:yZ)(x:yL)(d:D)(r:Á D):type_of% (jy.eq_2 g b x d r):=rfl
open Ķ ő Ň L2
def fldk_nil{K:Ô}{f:Ç}:vL K [] f:=λx a=>Ý a ó
def fldk_cons{K:Ô}{f c:Ç}{C:Ë}{d:Á Ç}(ns:ϔ K Ę c=À Ėa)(e:tR K C)(g:Őa K ś f=À Å)(r:vL K d f):vL K (c::d) f:=λx b h a=>by rcases ħ b with rfl|b;rw[ns]at a;cases a;show{e,g};show r x b h a
def Ec:Á D->É D
 | [.lst xs]=>(ōj).bind λa=>match a.all ûk&&decide (ăa<=1000)with
  |Ã=>À (.int a.sum)|Ä=>Å
 |_=>Å
theorem oZ:∀{ns:Á Æ},(∀n∈ns,0<=n/\n<1099511627776)->0<=Řj/\Řj<=1099511627776*(Ŝ:Æ)
 | [],_=>{Ϟa _,by decide}|n::ns,h=>by
  let{a,b}:=oZ λm e=>h m ýp
  let{c,d}:=h n Ĝ;rw[Ģf,Ĉ]
  rw[ϱp];omega;push_cast
  omega
def y4c{K:Ô}:Wl K (mV K) Ec:=λG H m w d Q s r b q=>by
 match m,b with
 | [.lst xs],b=>
  let{ns,h,b}:=zG (show(ōj).bind _=À d from b);cases c:(ns.all ûk&&decide (Ŝ<=1000))with
  |Ä=>rw[c]at b;cases b|Ã=>
   rw[c]at b;cases b;rw[Č]at c;let x:=š c.2
   let g:∀n∈ns,0<=n/\n<1099511627776:=λn e=>by let:=ûa c.1 n e;rw[Č]at this;show{š this.1,š this.2}
   let{v,rfl,a,u,rfl,f,j,l}:=qx r;rw[eI h j]at f;show{a,ns,rfl,.inl f,{λn e=>?_,λk p=>?_},q _ _ _ Ùa rfl};let:=g n e
   constructor<;>omega;let:=oZ (ns:=ns.take k) λn e=>g n (ϕd e)
   let o:(Ŏf).length<=1000:=by rw[Ýa];omega
   let t:((Ŏf).length:Æ)<=1000:=by exact_mod_cast o
   constructor<;>omega
def Hm(i:Â)(F:D->D->É D)(f:FE):yZ:=λβ=>(e2 F ųj f ėe).bind λd=>À (.nx Ãh)
section
variable{X:Cx}{np:Â}{x c:Ç}{p pos Ça:Pos}{e:Õ}{f:FE}{F:D->D->É D}
def y06{i:Â}{l:Ĭd}{m:JE}(B:L5 X l m)(C:tI X.K m F)(o:Āa)(hi:X.N[i]?=À x)(c:qg Ïa x)(T:np<=i)(J:SE X e f)(b:Í Şa q7) :MS X np (.AugAssign Äf l e pos) (Hm i F f):=by let{t,L,k}:=J.h;show{{_,lP o hi c L B b,λ{P S U G H β σ R E} W K b q=>?_}};let{d,a,b}:=zG b;cases b;let{x,c,a}:=zG a;let{y,O,a}:=zG a;let n:=K.Qa;let{v,Q,I}:=n.fr _ _ (EL c);show{v,Q,k n O λu s p j r=>C s p x y v u d _ j.gh (Īg j.g) r a λw Y Z A z=>?_};show q _ _ _ (((Ϛ j).go A).Dd ìb.1 Ê z)
#print a
open Ŗa
section
variable{P:ï}{w:æ}{K:Ô}{mg:Ç->É Value}{Ì:Heap}
def z94{x:Ç}{st:Ü}{N:Á Ç}{k:Â}{F:FM}{b:yZ}{f:Ë}{i:Ń}(d:Fun K ÿb ÿb st f i)(S:zj N [x] ō)(j:1<=ŗ)(p:∀ms r,F ms=À r->Ĭa=1/\wZ 1 ŗ b ms=À r)(e:∀ns:Á Æ,Ŝ<=63->(∀m∈ns,vC m<=1048576)->∃r,F Łh=À (r,.fz Ĭ))(o:∀(g:Value)(A:ø)(ć:Á Env)(s:Î)(H:Hp)(E:XK),yf k (ėb (íb ÿb ō Û f g))->jA (tU xK P w K mg Ì N ÿb ō f g A ć s H E).qD 1 Öa b):xP P w K mg Ì xK Ş f i [x] ϑj:=
 (d.v.Qc (F:=F) S j p o).imp λB H Q E h=>by let{a,ns,rfl,n,l,c,q}:=h;let{r,u}:=e ns l c;let y:ë K H Ņi ϥ:={_,_,rfl,{a,_,rfl,n,ĝd,by rw[å];show ĩb Ê},rfl};show x1o {H,_,Ä,.bl Ã,Œa H,y,?_,λv C t _ z=>?_};exact(F (jO Ņi)).bind _=_;rw[show jO Ņi=Łh from rfl,u];rfl;cases(show v=.bl Ã from z);show q t
#print a
#print L3
namespace L3
open Ķ ő Ň L2
def zS(K:Ô)(x:Ç)(st:Ü):È:=
 ∃(f:Ë) (od an:É Ë) (sl:Ù ϡa) (oc kV dc pm cd ct:Value),ϔ K Ę x=À ŋa/\Ϯ f=Lo x st oc od sl kV dc pm an cd ct/\Ŗb K cd x=Ã/\Ôa K Ĥ=Ã
section
variable{K:Ô}{mg:Ç->É Value}{h:Heap}{x p0 p1 p2 p3 p4:Ç}{st:Ü}{ps:Á Ç}
def fnp_mk{f:Ë}{e j:É Ë}{g:Ù ϡa}{h kV d i b ct:Value}(a:ϔ K Ę x=À ŋa)(l:Ϯ f=Lo x st h e g kV d i j b ct)(c:Ŗb K b x=Ã)(k:Ôa K Ĥ=Ã):zS K x st:={_,_,_,_,_,_,_,_,_,_,a,l,c,k}
def zS.d(a:zS K x st)(X:ŵ h)(G:ğa Ę mg)(b:∀(kV g i:Value)(j:É Ë)(e ct:Value)(us:Á Value),áa=ğ->Åg (Ϡc x x Ňd Öa ō .none kV g i j e ct) {us,[]}=pure õc):Def K mg x st ps:=by let{f,p,j,m,q,kV,o,i,n,ct,a,l,c,k}:=a;let F:=dQ (st:=st) l c k;show{_,_,F,đc X G a,F.binds b}
abbrev BA(x:Ç)(st:Ü)(us:Á Value)(ps:Á Ç):È:=∀(kV doc pm:Value)(an:É Ë)(cdv ct:Value),Åg (Ϡc x x Ňd Öa ō .none kV doc pm an cdv ct) {us,[]}=pure õc
def zS.d0(a:zS K x st)(X:ŵ h)(G:ğa Ę mg)(b:Í (BA x st [] []) q15):Def K mg x st []:=a.d X G λ_ _ _ _ _ _=>rP (b _ _ _ _ _ _)
def zS.d1(a:zS K x st)(X:ŵ h)(G:ğa Ę mg)(b:Í (∀u,BA x st [u] [p0]) q15):Def K mg x st [p0]:=a.d X G λ_ _ _ _ _ _=>us1 λu=>b u _ _ _ _ _ _
def zS.d2(a:zS K x st)(X:ŵ h)(G:ğa Ę mg)(b:Í (∀u v,BA x st [u,v] ņe) q15):Def K mg x st ņe:=a.d X G λ_ _ _ _ _ _=>us2 λu v=>b u v _ _ _ _ _ _
def zS.d3(a:zS K x st)(X:ŵ h)(G:ğa Ę mg)(b:Í (∀u v y,BA x st [u,v,y] İo) q15):Def K mg x st İo:=a.d X G λ_ _ _ _ _ _=>us3 λu v y=>b u v y _ _ _ _ _ _
def zS.d4(a:zS K x st)(X:ŵ h)(G:ğa Ę mg)(b:Í (∀u v y z,BA x st [u,v,y,z] Öe) q15):Def K mg x st Öe:=a.d X G λ_ _ _ _ _ _=>us4 λu v y z=>b u v y z _ _ _ _ _ _
def zS.d5(a:zS K x st)(X:ŵ h)(G:ğa Ę mg)(b:Í (∀u v y z q,BA x st [u,v,y,z,q] Őm) q15):Def K mg x st Őm:=a.d X G λ_ _ _ _ _ _=>us5 λu v y z q=>b u v y z q _ _ _ _ _ _
def _root_.L2.Def.oS(d:Def K mg x st ps)(P:ï)(w:æ)(a:Heap)(k:Â)(F:Á D->É ä)(S:zj N ps ō)(h:∀ds r,F ds=À r->þ=ğ/\yM ŗ b ds=À r)(g:∀{f:Ë}{c:Value}{A:ø}{ć:Á Env}{s:Î}{H:Hp}{E:XK},yf k Ϸg->qI (Ĕk).qD Öa b)(e:Í šf q10):wX P w K mg a x ps Ş ıe:=Def.z0m d S e h λ_ _ _ _ _ _ _ i=>g i
def _root_.L2.Def.oM(d:Def K mg x st ps)(P:ï)(w:æ)(a:Heap)(k:Â)(F:FM)(S:zj N ps ō)(h:∀ms r,F ms=À r->Ĭa=ğ/\wZ ğ ŗ b ms=À r)(g:∀{f:Ë}{c:Value}{A:ø}{ć:Á Env}{s:Î}{H:Hp}{E:XK},yf k Ϸg->jA (Ĕk).qD ğ Öa b)(e:Í šf q10):wX P w K mg a x ps Ş Ñg:=Def.Qc d S e h λ_ _ _ _ _ _ _ i=>g i
def vV.oM(d:vV K x q st f fd)(P:ï)(w:æ)(mg:Ç->É Value)(a:Heap)(k:Â)(F:FM)(S:zj N ps ō)(h:∀ms r,F ms=À r->Ĭa=ğ/\wZ ğ ŗ b ms=À r)(g:∀{c:Value}{A:ø}{ć:Á Env}{s:Î}{H:Hp}{E:XK},yf k Çl->jA (ĕk).qD ğ Öa b)(e:Í šf q10):xP P w K mg a xK Ş f fd ps Ñg:=d.Qc S e h λ_ _ _ _ _ _ i=>g i
def vV.oF(d:vV K x q st f fd)(P:ï)(w:æ)(mg:Ç->É Value)(a:Heap)(k:Â)(F:Á D->É ä)(S:zj N ps ō)(h:∀ds r,F ds=À r->þ=ğ/\yM ŗ b ds=À r)(g:∀{c:Value}{A:ø}{ć:Á Env}{s:Î}{H:Hp}{E:XK},yf k Çl->qI (ĕk).qD Öa b)(e:Í šf q10):xP P w K mg a xK Ş f fd ps ıe:=d.z0l S e h λ_ _ _ _ _ _ i=>g i
#print a
#print L3
namespace L2
open Ķ ő Ŗa Ň
nonrec def wS(p:Þ):Æ:=numOf p.1
def yb(p q:Þ):È:=wS p<=wS q
def Vj(p:Þ):È:=∃n t,p.1=.int n t
def v_(x:Ù Þ):È:=∀(i:Â) p,x[i]?=À p->Vj p
nonrec def V6:Ï->Þ->Ù Þ->Â->Â->Â->œ ā Sem Ŷc:=sortPriv% PySem.Builtin.gallop
nonrec def hU:Ù Þ->Ù Þ->œ ā Sem āc:=sortPriv% PySem.Builtin.mergeLo
nonrec def h9:Ù Þ->Ù Þ->œ ā Sem āc:=sortPriv% PySem.Builtin.mergeHi
section
variable{ă:ï}{w:æ}{A:ø}{E:Value->Î->È}{s:Î}
def u9{x:Ù Þ}{i:Â}{p:Þ}{st:ā}{Q}(h:x[i]?=À p)(q:Q p st):wpS é A E s (ċa x i) Q st:=by rw[elem'_eq,h];show ü q
def w_lt{p q:Þ}{st:ā}{Q:É Ï->ā->È}(hk:Ĝg st=Ğe)(c:Vj p)(d:Vj q)(h:Q (À (decide (wS p<wS q))) st):wpS é A E s (lt' p q) Q st:=by obtain⟨⟨a,t,e⟩,⟨b,u,f⟩⟩:=ê c d;rw[lt'_eq];show í īe;unfold wS at h;rw[hk,keyLt'_oneType,e,f];rw[e,f]at h;show í (Īl (Õf (oneLt_int {rfl,ü h})))
def Pw(B:Â->Ï)(n hi:Â):È:=hi<=n/\(∀i,i<hi->B i=Ã)/\∀i,hi<=i->i<n->B i=Ä
nonrec def gB(left:Ï)(k:Æ)(f:Â->Æ)(i:Â):Ï:=if left then decide (f i<k)else !decide (k<f i)
def x77{left:Ï}{a x:Þ}{st:ā}{Q:É Ï->ā->È}(hk:Ĝg st=Ğe)(b:Vj a)(c:Vj x)(h:Q (À (gB left (wS a) (λ_=>wS x) 0)) st) :wpS é A E s (if left=Ã then lt' x a else do let y <-lt' a x;pure îl) Q st:=by
 cases left with
 |Ã=>show w_lt hk c b h|Ä=>show í (w_lt hk b c (ü h))
def BW{β:Type}{n:Â}{c:β}{f:Â->β->œ ā Sem (ãb β)}{st:ā}{Q R:β->ā->È}(I:Â->β->È)(h:I 0 c)(a:∀i c,i<n->I i c->wpS é A E s (f i c) (λr st'=>match r with|.done c'=>Q c' st'|.yield c'=>st'=st/\I î c') st)(d:∀c,I n c->Q c st)(e:∀c st',Q c st'->R c st'):wpS é A E s Ôn R st:=by show ůd (Øc (I:=λi c st'=>st'=st/\I i c) (Q:=Q) ?_ ?_ {rfl,h}) e;rintro i c _ _ b ⟨rfl,h⟩;show a i c b h;rintro c _ ⟨rfl,h⟩;rw[Ýi]at h;show d c h
def rY{B:Â->Ï}{n lo hi:Â}{st:ā}{f:Â->É Ŷc×Â×Â->œ ā Sem (ãb (É Ŷc×Â×Â))}{R:É Ŷc×Â×Â->ā->È}(a:∀i j,i<=j->j<n->B j=Ã->B i=Ã)(F:lo<=hi)(u:hi<=n)(C:∀i,i<lo->B i=Ã)(z:∀i,hi<=i->i<n->B i=Ä)(H:∀x l r Q,r<=l->Q (.done (Å,l,r)) st->wpS é A E s ϝm Q st)(y:∀x l r Q,l<r->r<=n->(B ŏf=Ã->Q (.yield (Å,l+(r-l)/2+1,r)) st)->(B ŏf=Ä->Q (.yield (Å,l,l+(r-l)/2)) st)->wpS é A E s ϝm Q st)(q:∀m,Pw B n m->R (Å,m,m) st):wpS é A E s (ħb [:n] (Å,lo,hi) f) R st:=by show BW (Q:=λc k=>k=st/\∃m,c=(Å,m,m)/\Pw B n m) (λx c=>∃l r,c=(Å,l,r)/\l<=r/\r<=n/\r+x<=n+l/\(∀i,i<l->B i=Ã)/\∀i,r<=i->i<n->B i=Ä) {lo,hi,rfl,F,u,Ìn u öb,C,z} ?_ ?_ ?_;rintro x _ J ⟨l,r,rfl,t,b,I,d,h⟩;by_cases c:r<=l;cases Źb t c;show H _ _ _ _ c {rfl,l,rfl,b,d,h};let v:=Ϝ l ((r-l)/2);let p:=īl (Nat.div_lt_self (ħh Ðf) (ĵb 1));show y _ _ _ _ Ðf b ?_ ?_<;>(generalize l+(r-l)/2=m at v p ⊢;intro e);show{rfl,_,r,rfl,p,b,by omega,λi o=>a i m (Ŀc o) (Š p b) e,h};refine{rfl,l,_,rfl,v,by omega,by omega,d,λi o G=>?_};cases e2:B i;rfl;rw[a _ i o G e2]at e;cases e;rintro _ ⟨l,r,rfl,t,b,I,d,h⟩;cases Źb t Ê;show{rfl,l,rfl,b,d,h};rintro _ _ ⟨rfl,m,rfl,g⟩;show q m g
def x7a{left:Ï}{f:Þ}{x:Ù Þ}{b n d:Â}{st:ā}{Q:É Â->ā->È}(hk:Ĝg st=Ğe)(T:Vj f)(L:v_ x)(W:b+n<=õa)(G:d<n)(P:∀i j,i<=j->j<n->K x (b+i)<=K x (b+j))(h:∀hi,Pw ũk n hi->Q (À hi) st) :wpS é A E s (V6 left f x b n d) Q st:=by
 have H:∀i Q,i<n->Q (À (gB left Şe úf i)) st->wpS é A E s (ċa x (b+i) >>= λx=>if left=Ã then lt' x f else do let y <-lt' f x;pure îl) Q st:=by
  intro i Q hi q;rw[Ïq];show í (u9 e (x77 hk T (L _ _ e) ?_));let e2:K x (b+i)=wS x[b+i]:=by unfold K;rw[e];rfl
  let J:gB left Şe (λ_=>wS x[b+i]) 0=gB left Şe úf i:=by unfold gB;simp only[e2]
  rw[J];show q
 let k:∀i j,i<=j->j<n->gB left Şe úf j=Ã->gB left Şe úf i=Ã:=by intro i j S R;let:=P i j S R;unfold gB;cases left;simp only[Ĺb,Ăa,Ėm,decide_eq_false_iff_not];omega;simp only[ź,åf];omega
 generalize ũk=B at h H k;unfold V6;show í (H d _ G ?_);cases e:B d;show í (BW (Q:=λc v=>v=st/\∃l o,c=(Å,l,o)/\l<=d/\B (d-l)=Ä/\l<o/\∀i,i+o<=d->B i=Ã) (λx c=>∃l o,c=(Å,l,o)/\l<=d/\B (d-l)=Ä/\l<o/\x<o) {0,1,rfl,ϐ _,e,Áe,Áe} ?_ ?_ ?_);rw[Øq]
 split;show ü {rfl,l,o,rfl,p,t,u,λi _=>by omega};let lo:=čb (Nat.sub_le d o) G;show í ńn;cases e2:B (d-o);show ü {rfl,o,_,rfl,by omega,e2,by omega,by omega};show ü {rfl,l,o,rfl,p,t,u,λi F=>k i _ (Nat.le_sub_of_add_le F) lo e2};rintro _ ⟨l,o,rfl,p,t,u,C⟩;show{rfl,l,o,rfl,p,t,u,λi _=>by omega};rw[òq];refine í (rY (B:=B) (lo:=d+1-min o (d+1)) (hi:=d-l) k (ĉ (ϓl (Ŷh {u,ĥa p}) _) (Łb (Nat.add_sub_add_right ..))) (ìa (čb Ôb G)) (λi a=>C i (by let:=Nat.add_lt_of_lt_sub a;omega)) (λi F I=>?_) Ϩl ýl λm g=>ü (h m g));cases e2:B i;rfl;rw[k _ i F I e2]at t;cases t;rw[āq];show í (BW (Q:=λc v=>v=st/\∃l o,c=(Å,l,o)/\d+l<n/\B (d+l)=Ã/\l<o/\∀i,d+o<=i->i<n->B i=Ä) (λx c=>∃l o,c=(Å,l,o)/\d+l<n/\B (d+l)=Ã/\l<o/\x<o) {0,1,rfl,G,e,Áe,Áe} ?_ ?_ ?_);rw[Øq]
 split;rename_i c
 replace c:=Nat.le_add_of_sub_le c
 show ü {rfl,l,o,rfl,p,t,u,λi _ _=>by omega};rename_i c;let lo:=īl Ðf;show í ńn;cases e2:B (d+o);show ü {rfl,l,o,rfl,p,t,u,λi F I=>by cases J:B i;rfl;rw[k _ i F I J]at e2;cases e2};show ü {rfl,o,_,rfl,lo,e2,by omega,by omega};rintro _ ⟨l,o,rfl,p,t,u,C⟩;show{rfl,l,o,rfl,p,t,u,λi _ _=>by omega};rw[òq];show í (rY (B:=B) (lo:=d+l+1) (hi:=d+min o (n-d)) k (Nat.add_lt_add_left (Nat.lt_min.mpr {u,Nat.lt_sub_of_add_lt (ăd .. ▸ p)}) _) (ĉ (ĵc (żg ..) _) (Łb (Íd Ĵj))) (λi F=>k i (d+l) (Ŀc F) p t) (λi a b=>?_) Ϩl ýl λm g=>ü (h m g));rcases įf o (n-d)with z|z;rw[Öb z]at a;show C i a b;rw[õf z,Íd Ĵj]at a;show Ý b (Îe a);rw[āq]
#print a
structure uo(R:Þ->Þ->È)(t o x y:Á Þ):È where
 p:(o++đg).Perm t
 sx:(o++x).Pairwise R
 sy:(o++y).Pairwise R
section
variable{R:Þ->Þ->È}{t o m x y:Á Þ}
def ég(h:uo R t o x y):uo R t o y x:={(àh o List.perm_append_comm).trans h.p,h.sy,h.sx}
def êg(h:uo R t o (m++x) y)(c:∀p∈m,∀q∈y,R p q):uo R t (o++m) x y:=by let{p,a,b}:=h;show{?_,?_,?_};rw[Ū]at p ⊢;show p;rw[Ū];show a;rw[List.pairwise_append]at a b ⊢;show{?_,b.2.1,λp e q d=>?_};show Žd {a.1,(ůb a.2.1).1,λp e q d=>a.2.2 p e q (ŭb _ d)};rcases ż e with z|z;show b.2.2 p z q d;show c p z q d
def Ŕj(h:uo R t o x y)(c:∀p∈x,∀q∈y,R p q):(ęp).Perm t/\(ęp).Pairwise R:=by let:=(êg (m:=x) (x:=[]) (by rw[ώ];show h) c);show{by rw[Ū];show h.p,this.sy}
#print a
def Ϲa{p q r:Þ}(a:yb p q)(b:yb q r):yb p r:=ıf a b
section
variable{ă:ï}{w:æ}{A:ø}{E:Value->Î->È}{s:Î}
def T_{left:Ï}{a:Þ}{x:Ù Þ}{b n d:Â}{st:ā}{Q:É Â->ā->È}(hk:Ĝg st=Ğe)(f:Vj a)(t:v_ x)(q:b+n<=õa)(r:d<n){z:Á Þ}(m:(Ąn b).take n=z)(o:z.Pairwise yb)(h:∀k,k<=n->(∀p∈z.take k,if left then wS p<wS a else yb p a)->(∀p∈z.drop k,if left then yb a p else wS a<wS p)->Q (À k) st) :wpS é A E s (V6 left a x b n d) Q st:=by
 have y:Ŀ=n:=by rw[<-m,Ýa,ńa,ĳ];omega
 let g:∀i (l:i<Ŀ),K x (b+i)=wS z[i]:=by intro i l;subst m;rw[Ïq];unfold K;rw[e,ĩh,èf,ċb];rfl
 show x7a hk f t q r (λi j v u=>?_) λk c=>h k c.1 (λp f=>?_) λp f=>?_;rw[g i Ê,g j Ê];by_cases e:i=j;subst e;show Ϟa _;show źd o i j _ _ Ê;let{i,l,rfl}:=List.mem_take_iff_getElem.mp f;let:=c.2.1 i Ê;simp only[gB,g i (show i<Ŀ by omega)]at this;cases left;show Ņc ńl;rw[Ŕp];let{i,l,rfl}:=List.mem_drop_iff_getElem.mp f;let:=c.2.2 (k+i) Ê Ê;simp only[gB,g (k+i) Ê]at this;simp only[ăd k i]at this ⊢;cases left;rw[Ŕp];show Ņc ńl
def jX{β:Type}(Q I:β->È):ãb β->È
 |.done c=>Q c|.yield c=>I c
abbrev yP(a:Ù Þ)(p:Ù Ťa)(f:É Value)(g:Â):ā:=ùc Ğe a p g f
def Tz{β:Type}{n:Â}{c:β}{f:Â->β->œ ā Sem (ãb β)}{a p fl g}{R:β->ā->È}(I:Â->β->È)(Q:β->È)(h:I 0 c)(b:∀i c g,i<n->I i c->wpS é A E s (f i c) (λr st'=>∃g',st'=yP a p fl g'/\jX Q (I î) r) ϲh)(e:∀c,I n c->Q c)(j:∀c g,Q c->R c ϲh):wpS é A E s Ôn R ϲh:=by show ůd (Øc (I:=λi c st'=>∃g,st'=yP a p fl g/\I i c) (Q:=λc st'=>∃g,st'=yP a p fl g/\Q c) ?_ ?_ {g,rfl,h}) ?_;rintro i c _ _ d ⟨g,rfl,h⟩;show ůd (b i c g d h) ?_;rintro r _ ⟨g,rfl,h⟩;cases r<;>show{g,rfl,h};rintro c _ ⟨g,rfl,h⟩;rw[Ýi]at h;show{g,rfl,e c h};rintro c _ ⟨g,rfl,h⟩;show j c g h
#print a
def wC(t:Á Þ)(a b o:Ù Þ)(i j:Â):È:=uo yb t Êj ÿg (êc j)
def ua(t:Á Þ)(r:Ù Þ):È:=r.toList.Perm t/\r.toList.Pairwise yb
section
variable{t:Á Þ}{a b o:Ù Þ}{i j k:Â}{p:Þ}
def EJ(h:a[i]?=À p):Ób i=p::Ób î:=by let{b,rfl}:=ϻc h;rw[Űb Ám,ċb]
theorem wC.swap(h:wC t a b o i j):wC t b a o j i:=ég h
def wC.pa(h:wC t a b o i j)(e:a[i]?=À p)(c:∀q∈êc j,yb p q):wC t a b Ĩd î j:=by unfold wC at h ⊢;rw[EJ e]at h;rw[ϭd];show êg (m:=[p]) h λq d=>Į d▸c
def wC.pb(h:wC t a b o i j)(e:b[j]?=À p)(c:∀q∈Ób i,yb p q):wC t a b Ĩd i Ϫ:=(Ϝm).swap
def wC.ca(h:wC t a b o i j)(c:∀p∈(ÿg).take k,∀q∈êc j,yb p q):wC t a b üf ϫc j:=by unfold wC at h ⊢;rw[<-ϒa k ÿg,Ÿh]at h;rw[Ķc,ϖd,żd,Æh];show h.move c
def wC.cb(h:wC t a b o i j)(c:∀p∈(êc j).take k,∀q∈Ób i,yb p q):wC t a b (o++åb j (j+k)) i (j+k):=(Ϙo c).swap
theorem wC.fin(h:wC t a b o i j)(c:∀p∈Ób i,∀q∈êc j,yb p q):ua t (o++ŀb i ŉ++åb j ϓ):=by
 let e:∀(x:Ù Þ) k,(æd k õa).toList=Ąn k:=λx k=>by rw[ϖd,żd];show Úc (by rw[ńa,ĳ];show Ŕ _)
 unfold ua;rw[Ķc,Ķc,e,e];show Ŕj h c
def wC.hd(h:wC t a b o i j)(e:a[i]?=À p):∀q∈Ób i,yb p q:=by unfold wC at h;let:=(ůb h.sx).2.1;rw[EJ e]at this ⊢;intro q c;rcases ħ c with rfl|c;show Ϟa _;show(ϐd this).1 q c
def wC.sa(h:wC t a b o i j):(ÿg).Pairwise yb:=ŀk.2.1
def iG(h:i=ŉ){P:Þ->È}:∀p∈Ób i,P p:=by rw[Ïd Ϩd];intro p b;cases b
def Ĩ(h:ϓ-i=k):(êc i).take k=êc i:=Úc (by rw[ńa,ĳ];omega)
#print a
abbrev n_:=É āc×Ù Þ×Â×Â×Â
abbrev B9:=É āc×Ù Þ×Â×Â×Â×Â
abbrev Xq:=É āc×Ù Þ×Â×Â×Â×Â×Â
structure Vk(t:Á Þ)(a b:Ù Þ)(x:Â)(o:Ù Þ)(i j:Â):È where
 l:wC t a b o i j
 p:i+1<ŉ
 q:j<ϓ
 s:x<i+j
section
variable(t:Á Þ)(a b:Ù Þ)(x:Â)
inductive BF:n_->È
 |mk {o i j m}:Vk t a b x o i j->BF (Å,o,i,j,m)
inductive O6:B9->È
 |mk {o i j m n}:Vk t a b x o i j->O6 (Å,o,i,j,m,n)
inductive Xr:B9->È
 |fin {r c}:ua t r->Xr (À r,c)
 |go {o i j m n}:Vk t a b x o i j->Xr (Å,o,i,j,m,n)
inductive Tk:Xq->È
 |mk {o i j m n q}:Vk t a b x o i j->Tk (Å,o,i,j,m,n,q)
inductive gC:Xq->È
 |fin {r c}:ua t r->gC (À r,c)
 |go {o i j m n q}:Vk t a b x o i j->gC (Å,o,i,j,m,n,q)
#print a
def YM{a b:Â}(h:a<=b)(c:¬ļg=Ã):a<b:=Ùm h λe=>c (źb e)
def Xd{a:Â}(c:¬(a==0)=Ã):∃n,a=n+1:=Nat.exists_eq_succ_of_ne_zero λe=>c (źb e)
nonrec def BD(r:É Â)(f:Â->œ ā Sem β)(g:œ ā Sem β):œ ā Sem β:=(sortPriv% PySem.Builtin.mergeLo.match_1) Åf r f λ_=>g
section
variable(a b:Ù Þ)
nonrec def YZ(o:Ù Þ)(i j:Â):Ù Þ:=o++ŀb i ŉ++åb j ϓ
nonrec def B8(o:Ù Þ)(i j:Â):Ù Þ:=o++åb j ϓ++ŀb i ŉ
def R6(o:Ù Þ)(i j g k m:Â):œ ā Sem Íg:=do
 let p <-ċa a i
 if ſn=Ã then pure (.done (À ým,ϊ p,i+1,j,g,k,m))
 else if(decide (k<7)&&decide (m<7))=Ã then pure (.done (Å,ϊ p,i+1,j,g,k,m))else pure (.yield (Å,ϊ p,i+1,j,g,k,m))
def R5(o:Ù Þ)(i j g k u:Â):œ ā Sem Íg:=do
 let q <-ċa b j
 if Ŕo=Ã then pure Ýk
 else do
  let p <-ċa a i
  let r <-V6 Ã p b Ϫ (ϓ-Ϫ) 0
  BD r (λm=>
   if m>0 then
    if(j+1+m==ϓ)=Ã then pure (.done (À (YZ a b æl i ńj),ϊ q++åb Ϫ ńj,i,j+1+m,g,k,m))
    else R6 a b æl i ńj g k m
   else R6 a b þg i Ϫ g k m) (pure Ýk)
def R4(o:Ù Þ)(i j n u g:Â):œ ā Sem Íg:=do
 ϛc λs=>ùc Ůc źc ĕc g Šc
 let q <-ċa b j
 let r <-V6 Ä q a i (ŉ-i) 0
 BD r (λk=>
  if k>0 then
   if(i+k+1==ŉ)=Ã then pure (Λd (B8 a b üf ϫc j) ϫc)
   else if(i+k==ŉ)=Ã then pure (Λd (YZ a b üf ϫc j) ϫc)
   else R5 a b üf ϫc j g k u
  else R5 a b o i j g k u) (pure (.done (À Ęf,o,i,j,g,n,u)))
nonrec def O5(r:É α)(f:α->œ ā Sem β)(g:œ ā Sem β):œ ā Sem β:=Break.runK.match_1 Åf r f λ_=>g
nonrec def oC(r:É Ï)(f:Ï->œ ā Sem β)(g:œ ā Sem β):œ ā Sem β:=(sortPriv% PySem.Builtin.countRun.match_1) Åf r f λ_=>g
def oH(o:Ù Þ)(i j g m n:Â):œ ā Sem (ãb B9):=do
 let q <-ċa b j
 let p <-ċa a i
 let r <-lt' q p
 oC r (λt=>
  if t=Ã then do
   let q <-ċa b j
   if Ŕo=Ã then pure (.done (À (YZ a b þg i Ϫ),ϊ q,i,j+1,0,n+1))
   else if n+1≥g then pure (.done (Å,ϊ q,i,j+1,0,n+1))else pure (.yield (Å,ϊ q,i,j+1,0,n+1))
  else do
   let p <-ċa a i
   if ſn=Ã then pure (.done (À ým,ϊ p,i+1,j,m+1,0))
   else if m+1≥g then pure (.done (Å,ϊ p,i+1,j,m+1,0))else pure (.yield (Å,ϊ p,i+1,j,m+1,0))) (pure (.done (À Ęf,o,i,j,m,n)))
def x1t(x:Xq):œ ā Sem Íg:=if x.2.2.2.2.1>1 then R4 a b x.2.1 x.2.2.1 x.2.2.2.1 x.2.2.2.2.2.1 x.2.2.2.2.2.2 (x.2.2.2.2.1-1)else R4 a b x.2.1 x.2.2.1 x.2.2.2.1 x.2.2.2.2.2.1 x.2.2.2.2.2.2 x.2.2.2.2.1
def x1u(o:Ù Þ)(i j g:Â):œ ā Sem (ãb n_):=do
 let d <-ħb [:ŉ+ϓ] ((Å,o,i,j,0,0):B9) λ_ d=>oH a b d.2.1 d.2.2.1 d.2.2.2.1 g d.2.2.2.2.1 d.2.2.2.2.2
 O5 d.1 ák do
  liftM Ðl
  let e <-ħb [:ŉ+ϓ] ((Å,d.2.1,d.2.2.1,d.2.2.2.1,g+1,d.2.2.2.2.1,d.2.2.2.2.2):Xq) λ_ e=>x1t a b e
  O5 e.1 Ék do
   ϛc λs=>ùc Ůc źc ĕc Ϭm Šc
   pure åk
#print a
def XJ(x:Ù Þ)(i:Â)(h:i<õa):∃p,x[i]?=À p:={_,getElem?_pos x i h}
section
variable{t:Á Þ}{a b:Ù Þ}(hl:∀q∈ĥe,∀p∈Ób ýg,yb q p)
include hl in
theorem wC.lst{o i j}(l:wC t a b o i j)(e:i+1=ŉ):ua t (B8 a b o i j):=ğo λq d p c=>hl q (List.drop_subset _ _ d) p (by rw[show ŉ-1=i by omega];show c)
def wC.da{o i j}(l:wC t a b o i j)(e:i=ŉ):ua t Ęf:=ńg (iG e)
def wC.db{o i j}(l:wC t a b o i j)(e:j=ϓ):ua t Ęf:=ńg λp c=>iG e
#print a
section
variable{ă:ï}{w:æ}{A:ø}{E:Value->Î->È}{s:Î}
def xZ{α:Type}{c:È}[źi c]{m n:œ ā Sem α}{Q:α->ā->È}{st:ā}(b:c->wpS é A E s m Q st)(a:¬c->wpS é A E s n Q st):wpS é A E s (if c then m else n) Q st:=by by_cases h:c;rw[Ð h];show b h;rw[Ñ h];show a h
section
variable{t:Á Þ}{a b:Ù Þ}(ha:v_ a)(hb:v_ b)(hl:∀q∈ĥe,∀p∈Ób ýg,yb q p){a0:Ù Þ}{p0:Ù Ťa}{f0:É Value}{x y g m k u:Â}{o:Ù Þ}{i j:Â}{p q:Þ}
include hl in
theorem rn(l:wC t a b o i j)(ep:a[i]?=À p)(c:∀r∈êc j,yb p r)(e:i+1<ŉ)(d:j<ϓ)(h:x<=i+j)(f:y<=x):wpS é A E s (R6 a b o i j g k m) (γ (gC t a b y) (Tk t a b x)) åc:=by
 replace l:=l.pa ep c
 show í (u9 ep (Αa (ιb în)))
 replace c:=YM e c
 show xZ (λ_=>ü {g,rfl,gC.go {l,c,d,by omega}}) λ_=>ü {g,rfl,Tk.mk {l,c,d,by omega}}
include ha hb hl in
theorem rj(l:wC t a b o i j)(h:b[j]?=À q)(c:∀r∈Ób i,yb q r)(n:i+1<ŉ)(F:x<i+j+1)(e:y<=x):wpS é A E s (R5 a b o i j g k u) Łk åc:=by
 let C:=(ϻc h).1
 replace l:=l.pb h c
 show í (u9 h (Αa (ιb (l.db ţa))))
 replace c:=YM C c
 replace e:=ľc e
 let{p,d}:=XJ a i (Þc n);show í (Γe (T_ rfl (ha _ _ d) hb Ϗm (ħh c) ðp ϓo λm f e1 e2=>?_));rw[Ÿh]at e2
 replace f:j+1+m<=ϓ:=ăd .. ▸ ŕl ĸd f
 show xZ ŷc λz=>?_;let v:=l.cb λp B r G=>Ϲa (þa (e1 p B)) (l.hd d r G)
 refine xZ (ιb (v.db ţa)) λc=>rn hl v d e2 n (YM f c) Ê e;cases ϐg z;show rn hl l d e2 n c F e
include ha hb hl in
theorem rh(l:wC t a b o i j)(z:i+1<ŉ)(F:j<ϓ)(G:x<i+j)(B:y<=x){n J:Â}:wpS é A E s (R4 a b o i j n u g) Łk (yP a0 p0 f0 J):=by
 let{q,d}:=XJ b j F;let h:=Þc z;show í (Νe (T_ rfl ŕo ha (Łb (Íd (ìa h))) (ħh h) ðp l.sa λk f H e=>?_));rw[Ÿh]at e
 replace e:=λp m=>þa (e p m)
 replace f:i+k<=ŉ:=ăd .. ▸ ŕl (ìa h) f
 show xZ ŷc λc=>?_;let v:=l.ca λp m r K=>Ϲa (H p m) (ſf d r K)
 refine xZ (Ωd (v.lst hl ţa)) λI=>xZ (Ωd Ŋo) λC=>rj ha hb hl v d e (YM (YM f C) I) Ê B;cases ϐg c;show rj ha hb hl l d e z (ųb G) B
include ha hb hl in
theorem x7d(l:Vk t a b x o i j)(B:y<=x+1){n:Â}:wpS é A E s (oH a b o i j g m n) (γ (Xr t a b y) (O6 t a b Ăb)) ćf:=by
 let{l,k,h,z}:=l;let{p,e}:=XJ a i (Þc k);let{q,f}:=XJ b j h;show í (u9 f (í (u9 e (í (Τc (hb _ _ f) (ha _ _ e))))));by_cases c:wS q<wS p;rw[ù c];let d:=l.pb f λr v=>Ϲa (þa c) (l.hd e r v)
 show í (u9 f (Ηd Ŗo))
 replace c:=YM h c
 show xZ (λ_=>ü {_,rfl,Xr.go {d,k,c,by omega}}) λ_=>ü {_,rfl,O6.mk {d,k,c,Ňm z}};rw[Ĕ c];let d:=l.pa e λr v=>Ϲa įj (ſf f r v)
 show í (u9 e (Ηd (d.lst hl ţa)))
 replace c:=YM k c
 show xZ (λ_=>ü {_,rfl,Xr.go {d,c,h,by omega}}) λ_=>ü {_,rfl,O6.mk {d,c,h,by omega}}
include ha hb hl in
theorem x7e(l:Vk t a b x o i j):wpS é A E s (x1u a b o i j g) (γ Ϡe (BF t a b Ăb)) ćf:=by show í (Θb (λz=>O6 t a b (x+z)) (Xr t a b Ăb));rintro z _ g m ⟨l⟩;show x7d ha hb hl l ϕm;rintro _ ⟨_,h,d,e⟩;rw[ŉp];show í (Χa (Θb (λz=>Tk t a b (x+1+z)) (gC t a b Ăb)));rintro z _ g m ⟨l,h,d,e⟩;let k:=Ϝ Ăb z;show xZ (λ_=>rh ha hb hl l h d e k) λ_=>rh ha hb hl l h d e k;rintro _ ⟨_,h,d,e⟩;rw[ŉp];show í (χ (ü {_,rfl,BF.mk l}))
#print a
def x7h{a b:Ù Þ}{a0 p0 f0 g}{t:Á Þ}{Q:Ù Þ->ā->È}(v:v_ a)(m:v_ b)(u:0<ŉ){y:Þ}(j:b[0]?=À y)(d:wC t a b #[y] 0 1)(i:∀q∈ĥe,∀p∈Ób ýg,yb q p)(h:∀r g,ua t r->Q r åc):wpS é A E s (hU a b) Q åc:=by let n:0<ϓ:=(ϻc j).1;unfold hU;show í (Χa (u9 j (xZ (οb Ŗo) λo=>xZ Ϝl λk=>?_)));show í (Ρc (Tz (λx=>BF t a b x) Ϡe {d,YM u k,YM n o,Nat.one_pos} ?_ ?_ ?_));rintro x _ g F ⟨l⟩;show x7e v m i l;rintro _ ⟨_,C,z,B⟩;rw[ϡp]
#print a
def wL(t:Á Þ)(a b o:Ù Þ)(i j:Â):È:=uo (λp q=>yb q p) t Êj (ŉe).reverse (İj).reverse
section
variable{t:Á Þ}{a b o:Ù Þ}{i j k:Â}{p:Þ}
def RK(h:a[i]?=À p):ĸb î=ĸb i++[p]:=by let{b,rfl}:=ϻc h;rw[Ïc Ám,ċb]
theorem wL.swap(h:wL t a b o i j):wL t b a o j i:=ég h
def wL.pa(h:wL t a b o î j)(e:a[i]?=À p)(c:∀q∈Ÿb j,yb q p):wL t a b Ĩd i j:=by unfold wL at h ⊢;rw[RK e,õh]at h;rw[ϭd];show êg (m:=[p]) h λq d r f=>Į d▸c r (ϛd f)
def wL.pb(h:wL t a b o i Ϫ)(e:b[j]?=À p)(c:∀q∈ĸb i,yb q p):wL t a b Ĩd i j:=(Ϝm).swap
def wL.ca(h:wL t a b o i j)(hk:k<=i)(c:∀p∈(ŉe).drop k,∀q∈Ÿb j,yb q p):wL t a b Õh k j:=by unfold wL at h ⊢;rw[<-ϒa k ŉe,õh,ŷh,Öb hk]at h;rw[Ķc,śl,ϖd,żd,<-List.drop_take];show h.move λp d r e=>c p (ϛd d) r (ϛd e)
def wL.cb(h:wL t a b o i j)(hk:k<=j)(c:∀p∈(İj).drop k,∀q∈ĸb i,yb q p):wL t a b (o++(åb k j).reverse) i k:=(Ϙo hk c).swap
theorem wL.fin(h:wL t a b o i j)(c:∀p∈ĸb i,∀q∈Ÿb j,yb p q):ua t (ŀb 0 i++åb 0 j++ťi):=by
 let e:∀(x:Ù Þ) k,(æd 0 k).toList=x.toList.take k:=λx k=>by rw[ϖd,żd];rfl
 let:=Ŕj (ég h) λq g p d=>c p (ϛd d) q (ϛd g)
 unfold ua;rw[Ķc,Ķc,e,e,śl]
 let f:(Êj++(İj).reverse++(ŉe).reverse).reverse=ĸb i++Ÿb j++o.toList.reverse:=by simp only[õh,List.reverse_reverse,Ū]
 rw[<-f];show{(Ĩh _).trans this.1,ϰg this.2}
def wL.sa(h:wL t a b o i j):(ŉe).Pairwise yb:=List.pairwise_reverse.mp ŀk.2.1
def wL.hd(h:wL t a b o î j)(e:a[i]?=À p):∀q∈ĸb î,yb q p:=by let:=h.sa;rw[RK e]at this ⊢;intro q c;rcases ż c with c|c;show(ůb this).2.2 q c p Ĝ;rw[Į c];show Ϟa _
def iB(h:i=0){P:Þ->È}:∀p∈ĸb i,P p:=by subst h;intro p b;cases b
#print a
abbrev Tj:=É āc×Â×Â×Ù Þ×Â×Â×Â
abbrev oA:=É āc×Â×Â×Ù Þ×Â
abbrev BB:=É āc×Â×Â×Ù Þ×Â×Â
structure Xs(t:Á Þ)(a b:Ù Þ)(x:Â)(o:Ù Þ)(i j:Â):È where
 l:wL t a b o î Ũd
 p:i<ŉ
 q:j+1<ϓ
 s:x+i+j+3<ŉ+ϓ
section
variable(t:Á Þ)(a b:Ù Þ)(x:Â)
inductive BH:oA->È
 |mk {o i j m}:Xs t a b x o i j->BH (Å,i+1,j+2,o,m)
inductive O7:BB->È
 |mk {o i j m n}:Xs t a b x o i j->O7 (Å,i+1,j+2,o,m,n)
inductive Xt:BB->È
 |fin {r c}:ua t r->Xt (À r,c)
 |go {o i j m n}:Xs t a b x o i j->Xt (Å,i+1,j+2,o,m,n)
inductive Tl:Tj->È
 |mk {o i j m n q}:Xs t a b x o i j->Tl (Å,i+1,j+2,o,m,n,q)
inductive gE:Tj->È
 |fin {r c}:ua t r->gE (À r,c)
 |go {o i j m n q}:Xs t a b x o i j->gE (Å,i+1,j+2,o,m,n,q)
#print a
section
variable(a b:Ù Þ)
nonrec def Ya(o:Ù Þ)(i j:Â):Ù Þ:=ŀb 0 i++åb 0 j++ťi
nonrec def BE(o:Ù Þ)(i j:Â):Ù Þ:=åb 0 j++ŀb 0 i++ťi
def R3(o:Ù Þ)(i j g k m:Â):œ ā Sem Þj:=do
 let p <-ċa a ŷe
 if(i-1==0)=Ã then pure (.done (À ŵl,i-1,j,ϊ p,g,k,m))
 else if(decide (k<7)&&decide (m<7))=Ã then pure (.done (Å,i-1,j,ϊ p,g,k,m))else pure (.yield (Å,i-1,j,ϊ p,g,k,m))
def R0(o:Ù Þ)(i j g k u:Â):œ ā Sem Þj:=do
 let q <-ċa b Äb
 if(j-1==1)=Ã then pure (Ιd ġl)
 else do
  let p <-ċa a ŷe
  let r <-V6 Ã p b 0 Äb (j-1-1)
  BD r (λm=>
   if j-1-m>0 then
    if(m==1)=Ã then pure (Αd (BE a b ϔg i m) åo)
    else if(m==0)=Ã then pure (Αd (Ya a b ϔg i m) åo)
    else R3 a b ϔg i m g k (j-1-m)
   else R3 a b þg i Äb g k (j-1-m)) (pure (Ιd (Ya a b þg i Äb)))
def P_(o:Ù Þ)(i j n u g:Â):œ ā Sem Þj:=do
 ϛc λs=>ùc Ůc źc ĕc g Šc
 let q <-ċa b Äb
 let r <-V6 Ä q a 0 i ŷe
 BD r (λk=>
  if i-k>0 then
   if(k==0)=Ã then pure (.done (À (Ya a b Õh k j),k,j,o++(ŀb k i).reverse,g,i-k,u))
   else R0 a b Õh k j g (i-k) u
  else R0 a b o i j g (i-k) u) (pure (.done (À ėf,i,j,o,g,n,u)))
def oG(o:Ù Þ)(i j g m n:Â):œ ā Sem (ãb BB):=do
 let q <-ċa b Äb
 let p <-ċa a ŷe
 let r <-lt' q p
 oC r (λt=>
  if t=Ã then do
   let p <-ċa a ŷe
   if(i-1==0)=Ã then pure (.done (À ŵl,i-1,j,ϊ p,m+1,0))
   else if m+1≥g then pure (.done (Å,i-1,j,ϊ p,m+1,0))else pure (.yield (Å,i-1,j,ϊ p,m+1,0))
  else do
   let q <-ċa b Äb
   if(j-1==1)=Ã then pure (.done (À ġl,i,j-1,ϊ q,0,n+1))
   else if n+1≥g then pure (.done (Å,i,j-1,ϊ q,0,n+1))else pure (.yield (Å,i,j-1,ϊ q,0,n+1))) (pure (.done (À ėf,i,j,o,m,n)))
def x1s(o:Ù Þ)(i j g:Â):œ ā Sem (ãb oA):=do
 let d <-ħb [:ŉ+ϓ] ((Å,i,j,o,0,0):BB) λ_ d=>oG a b d.2.2.2.1 d.2.1 d.2.2.1 g d.2.2.2.2.1 d.2.2.2.2.2
 O5 d.1 ák do
  liftM Ðl
  let e <-ħb [:ŉ+ϓ] ((Å,d.2.1,d.2.2.1,d.2.2.2.1,g+1,d.2.2.2.2.1,d.2.2.2.2.2):Tj) λ_ e=>if e.2.2.2.2.1>1 then P_ a b e.2.2.2.1 e.2.1 e.2.2.1 e.2.2.2.2.2.1 e.2.2.2.2.2.2 (e.2.2.2.2.1-1)else P_ a b e.2.2.2.1 e.2.1 e.2.2.1 e.2.2.2.2.2.1 e.2.2.2.2.2.2 e.2.2.2.2.1
  O5 e.1 Ék do
   ϛc λs=>ùc Ůc źc ĕc Ϭm Šc
   pure åk
#print a
section
variable{ă:ï}{w:æ}{A:ø}{E:Value->Î->È}{s:Î}
section
variable{t:Á Þ}{a b:Ù Þ}(ha:v_ a)(hb:v_ b)(hl:∀q∈Ój,∀p∈Ÿb 1,yb p q){a0:Ù Þ}{p0:Ù Ťa}{f0:É Value}{x y g m k u:Â}{o:Ù Þ}{i j:Â}{p:Þ}
include hl in
theorem wL.lst(l:wL t a b o i j)(e:j=1):ua t (BE a b o i j):=ğo λq d p c=>hl p (List.take_subset _ _ c) q (e▸d)
def wL.da(l:wL t a b o i j)(e:i=0):ua t ėf:=ńg (iB e)
def wL.db(l:wL t a b o i j)(e:j=0):ua t ėf:=ńg λp c=>iB e
def rg(l:wL t a b o î j)(ep:a[i]?=À p)(c:∀r∈Ÿb j,yb r p)(f:2<=j)(d:j<=ϓ)(q:x+i+j<ŉ+ϓ)(h:y<=x):wpS é A E s (R3 a b o î j g k m) ţk åc:=by
 let e:=(ϻc ep).1
 replace l:=l.pa ep c
 show í (u9 ep (Αa (Βb (l.da ţa))));let{i,rfl}:=Xd c;obtain⟨j,rfl⟩:∃n,j=n+2:={j-2,(Üf f).symm};show xZ (λ_=>ü {g,rfl,gE.go {l,Þc e,d,by omega}}) λ_=>ü {g,rfl,Tl.mk {l,Þc e,d,by omega}}
include ha hb hl in
theorem rf(l:wL t a b o î Ũd)(n:b[j+1]?=À q)(c:∀r∈ĸb î,yb r q)(G:i<ŉ)(J:x+i+j+1<ŉ+ϓ)(C:y<=x):wpS é A E s (R0 a b o î Ũd g k u) ţk åc:=by
 let f:=(ϻc n).1
 replace l:=l.pb n c
 show í (u9 n (Αa (Βb în)));let{j,rfl}:=Xd (a:=j) λe=>c Ěh
 let{p,h}:=XJ a i G
 replace f:=ìa f
 show í (u9 h (í (T_ rfl (ha _ _ h) hb (show 0+(j+1+1)<=ϓ from(Ķj).symm▸f) ϕc (z:=Ÿb (j+1+1)) rfl ϓo λm d e1 e2=>?_)))
 replace d:m<=j+1+1:=d
 rw[ŷh,Öb d]at e1
 replace e1:=λp v=>þa (e1 p v)
 show xZ ŷc λc=>?_;let B:=l.cb d λp v r I=>Ϲa (l.hd h r I) (e2 p v)
 show xZ (Βb (B.lst hl ţa)) λF=>xZ (Βb (B.db ţa)) λH=>by
  let{m,rfl}:=Xd H;let{m,rfl}:=Xd (a:=m) λe=>F Ěh
  show rg B h e1 ŷl (ĉ d f) Ê C
 cases Źb d ūk;show rg l h e1 ŷl f Ê C
include ha hb hl in
theorem rZ(l:Xs t a b x o i j)(f:y<=x){n F:Â}:wpS é A E s (P_ a b o î Ũd n u g) (γ (gE t a b y) (Tl t a b Ăb)) (yP a0 p0 f0 F):=by
 let{l,m,B,I}:=l;let{q,d}:=XJ b Ϫ B
 replace f:=ľc f
 show í (Νe (T_ rfl ŕo ha (show 0+î<=a.size from(Ķj).symm▸m) ϕc (z:=a.toList.take î) rfl l.sa λk e h G=>?_));rw[ŷh,Öb e]at h;show xZ ŷc λc=>?_;let v:=l.ca e λp C r H=>Ϲa (ſf d r H) (þa (G p C))
 show xZ (λc=>ü {_,rfl,gE.fin Ŋo}) λc=>?_
 let{k,rfl}:=Xd c;show rf ha hb hl v d h (ĉ e m) Ê f;cases Źb e ūk;show rf ha hb hl l d h m Ê f
include ha hb hl in
theorem x7b(l:Xs t a b x o i j)(C:y<=x+1){n:Â}:wpS é A E s (oG a b o î Ũd g m n) (γ (Xt t a b y) (O7 t a b Ăb)) ćf:=by
 let{l,f,d,B}:=l;let{p,k}:=XJ a i f;let{q,v}:=XJ b Ϫ d;show í (u9 v (í (u9 k (í (Τc (hb _ _ v) (ha _ _ k))))));by_cases c:wS q<wS p;rw[ù c];let h:=l.pa k λr z=>Ϲa (ſf v r z) (þa c)
 show í (u9 k (Ζd (h.da ţa)));let{i,rfl}:=Xd c
 replace f:=Þc f
 show xZ ěk λ_=>ü {_,rfl,O7.mk {h,f,d,by omega}};rw[Ĕ c];let h:=l.pb v λr z=>Ϲa (l.hd k r z) įj
 show í (u9 v (Ζd (h.lst hl ţa)));let{j,rfl}:=Xd (a:=j) λe=>c Ěh
 replace d:=Þc d
 show xZ ěk λ_=>ü {_,rfl,O7.mk {h,f,d,by omega}}
include ha hb hl in
theorem x7c(l:Xs t a b x o i j):wpS é A E s (x1s a b o î Ũd g) (γ Ϡe (BH t a b Ăb)) ćf:=by show í (Θb (λz=>O7 t a b (x+z)) (Xt t a b Ăb));rintro z _ g e ⟨l⟩;show x7b ha hb hl l ϕm;rw[êq];rw[ŉp];show í (Χa (Θb (λz=>Tl t a b (x+1+z)) (gE t a b Ăb)));rintro z _ g e ⟨l⟩;let d:=Ϝ Ăb z;show xZ (λ_=>rZ ha hb hl l d) λ_=>rZ ha hb hl l d;rw[êq];rw[ŉp];show í (χ (ü {_,rfl,BH.mk l}))
#print a
def x7g{a b:Ù Þ}{a0 p0 f0 g}{t:Á Þ}{Q:Ù Þ->ā->È}(v:v_ a)(k:v_ b)(o:0<ϓ){y:Þ}(u:a[ŉ-1]?=À y)(d:wL t a b #[y] ýg ϓ)(i:∀q∈Ój,∀p∈Ÿb 1,yb p q)(h:∀r g,ua t r->Q r åc):wpS é A E s (h9 a b) Q åc:=by
 unfold h9;show í (Χa (u9 u (xZ (οb (d.da ţa)) λm=>xZ Ϝl λj=>?_)));let{n,e1}:=Xd m;obtain⟨B,e2⟩:∃n,ϓ=n+2:={ϓ-2,(Üf (Ùm o λe=>j (źb ĝg))).symm};let C:ŉ=n+2:=by omega
 rw[e1,e2]at d;refine í (Ρc (Tz (λx=>BH t a b x) Ϡe (by rw[e1,e2];show{d,by omega,by omega,by omega}) ?_ ?_ ?_));rintro x _ g F ⟨l⟩;show x7c v k i l;rw[êq];rw[ϡp]
#print a
def gD(x:Ù Þ)(l n:Â):È:=∀i j,i<=j->j<n->K x (l+i)<=K x (l+j)
def oB(x:Ù Þ):È:=∀i j,i<õa->j<õa->K x i=K x j->i=j
def x0u(h:gD x l n)(c:n=0\/K x (l+n-1)<=K x (l+n)):gD x l ģ:=by
 intro i j a b;by_cases e:j<n;show h i j a e;obtain rfl:j=n:=by omega
 rw[Čq];let:=h i Äb Ê Ê;rw[show l+Äb=l+j-1 by omega]at this;show ıf this (Én Ê)
section
variable{ă:ï}{w:æ}{A:ø}{E:Value->Î->È}{s:Î}
def Q0{i j p f g}(c:v_ x)(hi:i<õa)(d:j<õa)(h:Q (À (decide (K x i<K x j))) όb):wpS é A E s (ltAt' i j) Q όb:=by let b:x[i]?=À x[i]:=getElem?_pos x i hi;let a:x[j]?=À x[j]:=getElem?_pos x j d;rw[ltAt'_eq];show í (Ρc (u9 b (í (u9 a (Τc (c _ _ b) (c _ _ a))))));unfold K at h;rw[b,a]at h;show h
def rX{x:Ù Þ}{a lo n p f g}{F:Â->É Ŷc×Â->œ ā Sem (ãb (É Ŷc×Â))}{R:É Ŷc×Â->ā->È}(l:1<=a)(d:a<=n)(e:gD x lo a)(j:∀y m Q,1<=m->m<n->(K x Ϣc<K x ıd->Q (.done (Å,m)) όb)->(¬ K x Ϣc<K x ıd->Q (.yield (Å,m+1)) όb)->wpS é A E s (F y (Å,m)) Q όb)(h:∀m,a<=m->m<=n->gD x lo m->(m=n\/K x Ϣc<K x ıd)->R (Å,m) όb):wpS é A E s (ħb [a:n] (Å,a) F) R όb:=by show Øc (I:=λy c st=>st=yP x p f g/\c=(Å,y)/\gD x lo y) ?_ ?_ {rfl,rfl,e};rintro y _ _ k i ⟨rfl,rfl,b⟩;show j _ _ _ Ê i (λc=>h y k Ê b (.inr c)) λc=>{rfl,rfl,x0u b (.inr įj)};rintro _ _ ⟨rfl,rfl,b⟩;rw[ļh d]at b ⊢;show h n d Ġ b Ŗ
def h_{lo m j:Â}(h:j<m):lo+Ϣc-1-żj=lo+(m-1-j):=by rw[Âo,Âo,Nat.add_left_comm 1,Nat.add_sub_add_left,Nat.add_sub_assoc (by rw[ăd];show h)]
theorem x79{x:Ù Þ}{lo n p f g}{Q:É Â->ā->È}(q:v_ x)(F:oB x)(R:lo+n=õa)(J:1<=n)(h:∀m y,ϰa x->(∀k,k<lo->y[k]?=x[k]?)->1<=m->m<=n->gD y lo m->Q ϭa Ŭn):wpS é A E s (Ϣo lo n) Q όb:=by
 unfold Ϣo;refine í (rX (lo:=lo) (Ŕ 1) J (λi j a b=>by rw[show i=j by omega];show Ϟa _) ?_ ?_);intro y m Q a b v z;refine í ĳh;by_cases c:K x Ϣc<K x ıd;rw[Ůp];intro m a b o c;show xZ (λe=>ü (h m x Ħj ķf a b o)) λe=>?_
 replace c:=Én Ła
 replace b:m<n:=by simp at e;omega
 show xZ (λe=>?_) λe=>?_;refine í ĳh
 let:K x lo<K x ıd:=by let u:=o 0 (m-1) Ê (by rw[Æq];omega);rw[show lo+(m-1)=lo+m-1 by omega,śn]at u;let C:=F lo ıd Ê Ê;rw[Æq];omega
 simp only[this,ϐb,ź];show ü (h m x Ħj ķf a Ê o);obtain rfl:m=1:=by rw[Æq];omega
 show í (Īl (Ýd {rfl,?_}));show í (νa (Øc (I:=λy c st=>st=yP x p f g/\c=(Å,y,0)/\∀i j,i<=j->j<y->K x żj<=K x ϴa) (Q:=λc st=>st=yP x p f g/\∃m,c=(Å,m,0)/\2<=m/\m<=n/\∀i j,i<=j->j<m->K x żj<=K x ϴa) ?_ ?_ {rfl,rfl,?_}));rintro y _ _ C B ⟨rfl,rfl,d⟩;refine í (Q0 q åh åh ?_);by_cases c:K x Żj<K x ìj;simp only[c,ϐb,ź];show ü {rfl,rfl,λi j r l=>?_};by_cases e:j<y;show d i j r e;obtain rfl:j=y:=by omega
 rw[Čq];let:=d i Äb Ê Ê;rw[show lo+Äb=lo+j-1 by omega]at this;omega;simp only[c,Ĭf,Ĺb,Ăa];refine í ĳh
 let:K x ìj<K x Żj:=by let P:=F ìj Żj Ê Ê;omega
 simp only[this,ϐb,ź];show ü {rfl,y,rfl,by omega,by omega,d};rintro _ _ ⟨rfl,rfl,d⟩;rw[ļh Ê]at d ⊢;show{rfl,n,rfl,by omega,by omega,d};intro i j r l;by_cases e2:i=j;rw[e2];show Ϟa _;rw[show i=0 by omega,show j=1 by omega];show þa c;rintro _ _ ⟨rfl,m,rfl,C,B,d⟩;let G:∀k,K ϗe k=_:=λk=>K_mirror Ê k
 refine í (wpS_reverse (í (rX (x:=mirror x lo Ϣc ((lo+m-lo)/2)) (lo:=lo) åh B ?_ ?_ ?_)));intro i j r l;dsimp only at l;rw[G,G,Ð Ê,Ð Ê];let:=d (m-1-j) (m-1-i) (ϓl r _) (čb Ôb (Nat.sub_lt (čb öb l) Áe));rw[h_ (čb r l),h_ l];rw[Œp];intro y t Q a b v z;let N:(ϗe).Perm x:=Ϯn _ _ _ _;show í (Q0 ?_ Ál Ál ?_);intro i p L;let{H,u}:=Âh ((Ϛg N).mem_iff.mp (όg (ϓg L)));show q H p (by rw[<-Ģa];show u);by_cases c:K ϗe (lo+t)<K ϗe (lo+t-1);rw[Ůp];intro t a b o _;show ü (h t _ (Ϯn _ _ _ _) (λk O=>?_) (by dsimp only at a;omega) b o);rw[getElem?_mirror_all Ê,Ñ Ê]
#print a
def JM{x y:Ù Þ}(h:v_ x)(p:ϰa x):v_ y:=by intro i q b;let{a,c}:=Âh ((Ϛg p).mem_iff.mp Ĥn);show h a q (by rw[<-Ģa];show c)
section
variable{ă:ï}{w:æ}{A:ø}{E:Value->Î->È}{s:Î}
def y03{l r:Â}(h:l<r):l<=(l+r)/2/\(l+r)/2<r:=by omega
def x78{x:Ù Þ}{lo n ok p f g}{Q:Ï->ā->È}(hx:v_ x)(hn:lo+n<=õa)(zh:ok<=n)(d:gD x lo ok)(h:∀y,ϰa x->(∀k,k<lo->y[k]?=x[k]?)->gD y lo n->Q Ã Ŭn):wpS é A E s (ϳn lo n ok) Q όb:=by
 unfold ϳn;show í (νa (Øc (I:=λk c st=>c=(Å,())/\∃y,st=yP y p f g/\ϰa x/\(∀k,k<lo->y[k]?=x[k]?)/\(k<=n->gD y lo k)) (Q:=λc st=>c=(Å,())/\∃y,st=yP y p f g/\ϰa x/\(∀k,k<lo->y[k]?=x[k]?)/\gD y lo n) ?_ ?_ {rfl,x,rfl,ĥk _,λ_ _=>rfl,λ_ i j a b=>?_}));rintro k _ _ hk O ⟨rfl,y,rfl,v,H,d⟩
 replace d:=d (ìa O)
 let hy:=JM hx v;let L:lo+k<ŏd:=by let:=v.size_eq;omega
 let sj:∀j,j<=k->lo+j<ŏd:=λj hj=>čb (ĵc hj lo) L
 show í (BW (Q:=λc st=>st=yP y p f g/\∃l r,c=(Å,l,r)/\l<=k/\(∀i,i<l->K y ϴa<=K y šb)/\∀i,l<=i->i<k->K y šb<K y ϴa) (λz c=>∃l r,c=(Å,l,r)/\l<=r/\r<=k/\r+z<=k+l/\(∀i,i<l->K y ϴa<=K y šb)/\∀i,r<=i->i<k->K y šb<K y ϴa) {0,k,rfl,ϐ _,Ŕ _,Ŕ _,λi N=>Ý N ύd,λi a b=>Ý b (Îe a)} ?_ ?_ ?_);rintro z _ hz ⟨l,r,rfl,T,q,Z,B,C⟩;show xZ Ϡi λc=>?_;cases Źb T c;show ü {rfl,l,l,rfl,q,B,C};let{U,P}:=y03 Ðf;dsimp only;generalize (l+r)/2=m at U P ⊢;let S:=Š P q;show í (Q0 hy L (sj m (ìa S)) ?_);by_cases c2:K y šb<K y Ϣc;simp only[c2,ϐb,ź];show ü {rfl,l,_,rfl,U,ìa S,by omega,B,λi o R=>Int.lt_of_lt_of_le c2 (d _ _ o R)};simp only[c2,Ĭf,Ĺb,Ăa];show ü {rfl,_,r,rfl,P,q,by omega,λi o=>ıf (d i m (Ŀc o) S) (Ņc c2),C};rintro _ ⟨l,r,rfl,T,q,Z,B,C⟩;cases Źb T Ê;show{rfl,l,l,rfl,q,B,C};rintro _ _ ⟨rfl,l,r,rfl,q,B,C⟩;let e:lo+k-ĩf=lo+l:=Nat.sub_sub_self (ĵc q lo);show í (χ (ü {rfl,ţj y šb ĩf,rfl,(bubble_perm _ _ _).trans v,λi N=>?_,λ_=>?_}));let z:=Š N (Ϝ lo l);rw[<-H i N,getElem?_bubble L _ Ôb,e,Ñ (Ϗ z),Ñ λc=>Śn z c.1];let F:∀i,K (ţj y šb ĩf) i=_:=K_bubble L Ôb;generalize ţj y šb ĩf=b at F;rw[e]at F;let J:∀i,i<l->K b ϴa=K y ϴa:=λi a=>by rw[F,Ñ λc=>Ϗ a (Nat.add_left_cancel c),Ñ λc=>Śn a (Nat.lt_of_add_lt_add_left c.1)]
 let W:K b (lo+l)=K y šb:=by rw[F,Ð rfl]
 let Y:∀i,l<=i->i<k->K b (lo+î)=K y ϴa:=λi a c=>by rw[F,Ñ Ê,Ð Ê];rfl
 intro i j o R;rcases çf j l with z|rfl|z;rw[J i (čb o z),J j z];show d i j o (Š z q);rcases Ċh o with z|rfl;rw[J i z,W];show B i z;show Ϟa _;obtain⟨j,rfl⟩:∃t,j=t+1:={j-1,by omega};let G:=Nat.lt_of_succ_lt_succ R;rw[Y j (Ŀc z) G];rcases çf i l with u|rfl|u;rw[J i u];show d i j Ê G;rw[W];show þa (C j (Ŀc z) G);obtain⟨i,rfl⟩:∃t,i=t+1:={i-1,by omega};let X:=Nat.le_of_succ_le_succ o;rw[Y i (Ŀc u) (čb X G)];show d i j X G;rintro _ _ ⟨rfl,y,rfl,v,H,d⟩;show{rfl,y,rfl,v,H,?_};by_cases e:n=0;intro i j a b;omega;rw[ļh Ê]at d;show d Ġ;by_cases e:ok=0;rw[show i=j by omega];show Ϟa _;show d i j a Ê;rintro _ _ ⟨rfl,y,rfl,v,H,d⟩;show ü (h y v H d)
#print a
theorem nW{F:Ù Þ->Þ×Â->Ù Þ}{s:Â}(b:∀a p j,F a (p,j)=œh (s+j) p){R:Á Þ}:∀(l Z P:Á Þ)(n:Â)(x:Ù Þ),Ĉc=P++(Z++R)->òa=s+n->Z.length=ϥb->((l.zipIdx n).foldl F x).toList=P++(l++R)
 | [],Z,P,n,x,h,_,hz=>by rw[Ϩg hz]at h;show h|p::l,z::Z,P,n,x,h,hp,hz=>by
  rw[Ľh,Ìa,b]
  let:=nW b (R:=R) l Z (P++[p]) ģ (x.setIfInBounds (s+n) p) (by rw[Ϸk,h,Ýh _ _ Ê,hp,ϋb,Ū];rfl) (by rw[è,hp];rfl) (îd hz)
  rw[this,Ū];rfl
def dF{x:Ù Þ}{P X R:Á Þ}{a b:Â}(h:Ĉc=P++(X++R))(c:òa=a)(d:a+ϖ=b):(æd a b).toList=X:=by rw[ϖd,żd,h,řh c,Ŗh Ê]
theorem LF{x:Ù Þ}{P R:Á Þ}{p:Þ}{a:Â}(h:Ĉc=P++p::R)(b:òa=a):x[a]?=À p:=by rw[<-Ģa,h,Ĵb Ê,b,ϋb];rfl
def bZ{x y:Ù Þ}(h:v_ x)(c:∀p∈îb,p∈Ĉc):v_ y:=by intro i q b;let{a,d}:=Âh (c q Ĥn);show h a q (by rw[<-Ģa];show d)
section
variable{ă:ï}{w:æ}{A:ø}{E:Value->Î->È}{s:Î}
def x7i{a st:ā}{Q:PUnit->ā->È}(h:Q ⟨⟩ a):wpS é A E s (set a:œ ā Sem PUnit) Q st:=by unfold wpS;rw[StateT.run_set];show ò {rfl,h}
def x7f{x:Ù Þ}{p:Ù Ťa}{g i d H T:Â}{p1 p2:Á Ťa}{P o v R:Á Þ}{l u:Þ}{Q:Ï->ā->È}(O:v_ x)(ep:ĝe=p1++(d,(İd).length,H)::(d+(İd).length,(še).length,T)::p2)(hi:p1.length=i)(ex:Ĉc=P++(İd++(še++R)))(I:òa=d)(N:(İd).Pairwise yb)(J:(še).Pairwise yb)(h:∀y q g Z,îb=P++(Z++R)->Z.Perm (İd++še)->Z.Pairwise yb->ŕb=p1++(d,(İd).length+(še).length,H)::p2->Q Ã ŗc):wpS é A E s (ϸf i) Q ßn:=by
 generalize eX:o++[l]=X at ep ex N h;generalize eY:u::v=Y at ep ex J h
 have e1:p[i]?=À (d,ϖ,H):=by rw[<-Ģa,ep,Ĵb Ê,hi,ϋb];rfl
 have e2:p[i+1]?=À (d+ϖ,ſc,T):=by rw[<-Ģa,ep,Ĵb Ê,hi,Æh];rfl
 let e3:(Ϟj).toList=p1++(d,ϖ+ſc,H)::p2:=by rw[Array.toList_eraseIdxIfInBounds,Ϸk,ep,Ýh _ _ Ê,hi,ϋb,List.eraseIdx_append_of_length_le Ê,hi,Æh];rfl
 let xl_:∀q∈X,yb q l:=by intro q f;rw[<-eX]at f N;rcases ż f with z|z;show(ůb N).2.2 q z l Ĝ;rw[Į z];show Ϟa _
 let L:∀q∈Y,yb u q:=by intro q f;rw[<-eY]at f J;rcases ħ f with z|z;rw[z];show Ϟa _;show(ϐd J).1 q z
 let mX:l∈X:=eX▸Ġa _ Ĝ;let mY:u∈Y:=eY▸Ĝ;have lX:ϖ=ĉc+1:=by rw[<-eX,è];rfl
 have lY:ſc=v.length+1:=by rw[<-eY];rfl
 have szx:õa=d+(ϖ+(ſc+Ϡb)):=by rw[<-ĳ,ex,è,è,è,I]
 have ay:x[d+ϖ]?=À u:=LF (P:=P++X) (R:=v++R) (by rw[ex,Ū,<-eY];rfl) ϊh;have ax:x[d+ϖ-1]?=À l:=LF (P:=P++o) (R:=Y++R) (by rw[ex,<-eX,Ū,Ū];rfl) (by rw[è];omega);let both:(∀p∈X,∀q∈Y,yb p q)->Q Ã řm:=λc=>h x _ g (X++Y) (by rw[ex,Ū]) ώc (Žd {N,J,c}) e3
 unfold ϸf;show í īe;exact wpS _ _ _ _ (match(p[i]?,p[i+1]?)with|_=>_) _ _;rw[e1,e2];refine í (x7i (í (u9 ay (í (T_ (z:=X) (x:=x) (b:=d) (n:=ϖ) rfl (O _ _ ay) O Ê Ê (by rw[ex,řh I,Ŗh rfl]) N λk hk d1 d2=>?_)))));show xZ (Νd (d1 p ?_) (L q f)) λc=>?_;rw[Úc (by simp at c;omega)];show j
 replace c:k<ϖ:=by simp at c;omega
 let ax2:x[d+k+(ϖ-k)-1]?=À l:=by rw[Óe,Íd ĸd];show ax
 refine í (u9 ax2 (í (T_ (z:=Y) (x:=x) (b:=d+ϖ) (n:=ſc) rfl (O _ _ ax) O Ê Ê (by rw[ex,<-Ū,řh ϊh,Ŗh rfl]) J λe W f1 f2=>?_)));show xZ (Νd (xl_ p j) (f2 q ?_)) λc2=>?_;rw[Ćd c];show f
 replace c2:0<e:=by simp at c2;omega
 have C:(Øf).toList=ļe k:=dF (P:=P++Æg k) (R:=Y++R) (δd Ġj) (by rw[è,Ýa,I,Öb ĸd]) (by rw[ńa,Óe,Íd ĸd]);have B:(ϡe).toList=Ęe e:=dF (P:=P++X) (R:=ťj e++R) (δd ùg) ϊh (by rw[Ýa,Öb W])
 have fin:∀r g,ua Ϙd r->wpS é A E s (do ϛc λs=>ùc Ůc (r.toList.zipIdx.foldl (λa x=>œh Ģp x.1) źc) ĕc ïi Šc;return (failedOf (<-get)).isNone) Q řm:=by
  rintro r g ⟨r1,r2⟩;show í (χ (í (ϊe (ü (h _ _ _ źk ?_ ?_ ?_ e3)))));have:=nW (F:=λa x=>œh Ģp x.1) (s:=d+k) (λ_ _ _=>rfl) (R:=ťj e++R) r.toList Ϙd (P++Æg k) 0 x (by rw[ex];simp only[Ū];rw[<-Ū ùg,ϒa,<-Ū Ġj,ϒa]) (by rw[è,Ýa,I,Öb ĸd];rfl) r1.length_eq.symm
  rw[this];simp only[Ū];let a:(źk).Perm (Æg k++Ϙd++ťj e):=Óh _ (àh _ r1);rw[<-Ū Ġj Ģj,ϒa,Ū X,ϒa]at a;show a;let m:∀q∈r.toList,q∈ļe k\/q∈Ęe e:=λq f=>ż (r1.mem_iff.mp f)
  let tX:=ϒa k X;let tY:=ϒa e Y;let G:=N;let K:=J;rw[<-tX]at G;rw[<-tY]at K;show Žd {Žd {(ůb G).1,r2,λp j q f=>?_},(ůb K).2.1,λp j q f=>?_};rcases m q f with z|z;show(ůb G).2.2 p j q z;show Ϲa (d1 p j) (L q (ϕd z));rcases ż j with j|j;show Ϲa (d1 p j) (L q (îh f));rcases m p j with z|z;show Ϲa (xl_ p (îh z)) (f2 q f);show(ůb K).2.2 p z q f
 let A1:v_ Øf:=bZ O λp j=>by rw[C]at j;rw[ex];show Ġa _ (ŭb _ (îh j))
 let A2:v_ ϡe:=bZ O λp j=>by rw[B]at j;rw[ex];show Ġa _ (Ġa _ (ŭb _ (ϕd j)))
 have z1:(Øf).size=ϖ-k:=by rw[<-ĳ,C,ńa]
 have z2:(ϡe).size=e:=by rw[<-ĳ,B,Ýa,Öb W]
 let S:(Ģj).Pairwise yb:=İl (Đm _ _) N;let U:(ùg).Pairwise yb:=İl Ôp J;have b0:ϡe[0]?=À u:=LF (P:=[]) (R:=v.take (e-1)) (by rw[B,<-eY];obtain⟨n,rfl⟩:∃n,e=n+1:={e-1,by omega};rfl) rfl;have al:Øf[ϖ-k-1]?=À l:=LF (P:=o.drop k) (R:=[]) (by rw[C,<-eX,List.drop_append_of_le_length Ê]) (by rw[ńa];omega);generalize æd (d+k) (d+ϖ)=xx at *;generalize æd (d+ϖ) (d+ϖ+e)=yy at *;refine xZ (λ_=>í (x7h (t:=ļe k++Ęe e) A1 A2 Ê b0 ?_ ?_ λr g hr=>fin r g hr)) λ_=>í (x7g (t:=ļe k++Ęe e) A1 A2 Ê (y:=l) ?_ ?_ ?_ λr g hr=>fin r g hr);have a0:wC Ϙd xx yy #[] 0 0:={by rw[<-C,<-B];show İc _,C▸S,B▸U};show a0.pb b0 λq f=>þa òn;intro q f p j;rw[z1,EJ al,Ïd Ϩd]at j;rw[Į j];show þa (f1 q (B▸f));rw[z1];show al;let a0:wL Ϙd xx yy #[] Įn yy.size:=by let t1:xx.toList.take Įn=xx.toList:=Úc Ϩd;let t2:yy.toList.take yy.size=yy.toList:=Úc (by rw[ĳ];show Ŕ _);unfold wL;rw[t1,t2,C,B];let pz:=List.Perm.append (Ĩh Ģj) (Ĩh ùg);show{pz,ϰg S,ϰg U}
 show a0.pa (by rw[z1];show al) λq f=>þa (f1 q (B▸ϕd f));intro q f p j;rw[RK b0]at j;rw[Į j];show þa òn
#print a
def vw:Â->Á Ťa->Á Þ->È
 |_,[],L=>L=[]|n,r::p,L=>r.1=n/\∃X M,L=X++M/\ϖ=r.2.1/\X≠[]/\Ľi yb/\vw (n+r.2.1) p M
theorem my:∀{p q:Á Ťa} {n:Â} {L:Á Þ},vw n (p++q) L->∃M N,L=M++N/\vw n p M/\vw Żn q N
 | [],q,n,L,h=>{[],L,rfl,rfl,h}|r::p,q,n,L,h=>by let{f,X,M,rfl,c,e,g,d}:=h;let{M,N,rfl,a,b}:=my d;show{X++M,N,(Ū ..).symm,{f,X,M,rfl,c,e,g,a},by rw[è,c,<-Óe];show b}
theorem Kv:∀{p q:Á Ťa} {n:Â} {M N:Á Þ},vw n p M->vw Żn q N->vw n (p++q) (M++N)
 | [],q,n,M,N,h,h2=>by rw[show M=[]from h]at h2 ⊢;show h2|r::p,q,n,M,N,h,h2=>by let{d,X,M,rfl,a,c,e,b}:=h;show{d,X,M++N,Ū ..,a,c,e,Kv b (by rw[è,a,<-Óe]at h2;show h2)}
theorem mz:∀{p:Á Ťa} {n:Â} {L:Á Þ},vw n p L->Éj<=Àa
 | [],n,L,h=>ϐ _|r::p,n,L,h=>by let{d,X,M,rfl,c,b,e,a}:=h;let:=mz a;let:=Çh b;rw[è,Ĉ];omega
theorem m_{F:Â×Â×Â->Â×Â×Â}(a:∀r,(F r).1=r.1/\(F r).2.1=r.2.1):∀{p:Á Ťa} {k n:Â} {L:Á Þ},vw n p L->vw n (p.modify k F) L
 | [],0,n,L,h=>h| [],_+1,n,L,h=>h|r::p,0,n,L,h=>by let{e,X,M,rfl,d,c,f,b}:=h;show{(a r).1.trans e,X,M,rfl,ϑb (a r).2.symm,c,f,(a r).2▸b}
 |r::p,k+1,n,L,h=>by let{e,X,M,rfl,d,c,f,b}:=h;show{e,X,M,rfl,d,c,f,m_ a b}
def x0f{x y:Ù Þ}{L R:Á Þ}{lo m:Â}(ex:Ĉc=L++R)(n:Àa=lo)(h:∀k,k<lo->y[k]?=x[k]?)(c:gD y lo m)(o:lo+m<=ŏd):∃X M,îb=L++Ŧe/\ϖ=m/\Ľi yb:=by
 let e:y.toList.take lo=L:=by
  show éf λk=>?_
  rw[Ûm]
  split;rename_i d;rw[Ģa,h k d,<-Ģa,ex,ľa Ê];rw[ŀa Ê]
 let f:(ϒh).length=m:=by rw[Ýa,ńa,ĳ];omega
 show{(Ϗg).take m,(Ϗg).drop m,?_,f,List.pairwise_iff_getElem.mpr λi j b l a=>?_};rw[ϒa,<-e,ϒa];let g:∀i (b:i<(ϒh).length),K y ϴa=wS ϒh[i]:=by intro i b;let e:y[lo+i]?=À y[lo+i]:=getElem?_pos _ _ Ê;unfold K;rw[e,ĩh,èf,ċb];rfl
 let:=c i j (ìa a) Ê;rw[g i b,g j l]at this;rw[Œp]
def z49{x y:Ù Þ}(h:(ĥm).Nodup)(p:ϰa x):oB y:=by
 let n:(ģm).Nodup:=((Ϛg p).map wS).nodup_iff.mpr h;intro i j a b e
 let g:∀i (a:i<ŏd),ģm[i]?=À (K y i):=by intro i a;let e:y[i]?=À y[i]:=getElem?_pos y i a;rw[ņ,Ģa];unfold K;rw[e];rfl
 show(ďm (by rw[å,ĳ];show a) n).mp (by rw[g i a,g j b,e])
section
variable{ă:ï}{w:æ}{A:ø}{E:Value->Î->È}{s:Î}
def rp{x:Ù Þ}{p:Ù Ťa}{g i:Â}{L R:Á Þ}{Q:Ï->ā->È}(z:v_ x)(ex:Ĉc=L++R)(o:vw 0 ĝe L)(hi:i+1<ęg)(h:∀y q g M,îb=M++R->M.Perm L->vw 0 ŕb M->ęc+1=ęg->Q Ã ŗc):wpS é A E s (ϸf i) Q ßn:=by
 let C:p.toList.length=ęg:=ĳ;obtain⟨⟨T,na,K⟩,⟨S,O,t⟩,a⟩:∃r1 r2,ĝe=Ϡh i++r1::r2::ϡh (i+2):={ĝe[i],ĝe[i+1],by rw[<-Űb,<-Űb,ϒa]};let d:(Ϡh i).length=i:=by rw[Ýa];omega
 let l:(ϡh (i+2)).length=ęg-(i+2):=by rw[ńa,C]
 generalize Ϡh i=p1 at a d;generalize ϡh (i+2)=p2 at a l;rw[a]at o;let{P,N,rfl,v,r}:=my o;let{j,X,N,rfl,k,G,H,f,Y,N,rfl,n,I,B,c}:=r;dsimp only at j k f n c;let{U,J,rfl}:=(Þh X).resolve_left G;rw[ßh]at *;let{W,Y',rfl}:=List.exists_cons_of_ne_nil I;subst k n;rw[ĺ]at j f;subst j;subst f;refine x7f z a d (P:=P) (R:=N++R) (by rw[ex];simp only[Ū]) rfl H B λy q g Z u b F m=>h y q g (P++(Z++N)) (by rw[u];simp only[Ū]) ?_ ?_ ?_;show àh _ ((Óh N b).trans ?_);rw[Ū];rw[m];show Kv v {(Ķj).symm,Z,N,rfl,b.length_eq.trans (è ..),?_,F,?_};intro e;rw[e]at b;let:=b.length_eq;rw[è,Ĉ]at this;rw[Ĥq];rw[ĺ]at c ⊢;rw[Óe]at c;show c;let:=Ŧ ëe m;rw[ĳ,è,Ĉ,d,l]at this;omega
abbrev Py:=ãb (É èa×Â)
nonrec def Px(lo n:Â):œ ā Sem Py:=do
 ϛc λs=>ùc Ůc źc ((ĕc).push (lo,n,0)) ïi Šc
 pure (.yield (Å,lo+n))
nonrec def BC{β:Type}(r:É Ťa)(f:Â->Â->Â->œ ā Sem β)(g:œ ā Sem β):œ ā Sem β:=(sortPriv% PySem.Builtin.sortRuns.match_1) Åf r f λ_=>g
def oE(N lo n:Â)(f:Â->Â->Â):œ ā Sem Py:=do
 let d <-get
 BC (ňe).back? (λe g _=>do
  let r <-ħb [:N] ((Å,()):É èa×èa) λ_ _=>do
   let d <-get
   BC (if(ňe).size>1 then ňe[(ňe).size-2]? else Å) (λ_ _ a=>
    if a<=f e g then pure Ũm else do
     let b <-ϸf ((ňe).size-2)
     if(!b)=Ã then pure (.done (À (),()))else pure (.yield (Å,()))) (pure Ũm)
  O5 r.1 (λr=>pure (.done (À r,lo))) do
   let _ <-ϛc λs=>ùc Ůc źc ((ĕc).modify ((ĕc).size-1) λx=>(sortPriv% PySem.Builtin.sortRuns.match_3) (λ_=>Â×Â×Â) x λst c _=>(st,c,f e g)) ïi Šc
   Px lo n) (Px lo n)
inductive Pz(X M L:Á Þ):É èa×èa->ā->È
 |mk {y q g N}:îb=N++Ŧe->N.Perm L->vw 0 ŕb N->Pz X M L (Å,()) ŗc
def x7k{x y:Ù Þ}{q:Ù Ťa}{g k lo N:Â}{L X M:Á Þ}{B:Â->Â->Â}{Q:Py->ā->È}(H:v_ x)(F:ϰa x)(t:vw 0 ŕb L)(o:Àa=lo)(l:îb=L++Ŧe)(m:ϖ=k)(C:Ľi yb)(hk:1<=k)(h:∀y q g L,îb=L++M->Àa=lo+k->vw 0 ŕb L->ϰa x->Q (.yield (Å,lo+k)) ŗc):wpS é A E s (oE N lo k B) Q ŗc:=by
 let u:∀{f:Ù Þ}{b},Ág=b++Ŧe->Ťj L->f.Perm x:=λe1 e2=>Array.Perm.trans (ůk (by rw[e1,l];show Óh _ e2)) F
 let j:∀{f:Ù Þ}{a:Ù Ťa} {n b},Ág=b++Ŧe->Ťj L->vw 0 Ój b->wpS é A E s (Px lo k) Q (yP f a Å n):=by intro f a n b e1 e2 d;refine í (χ (ü (h _ _ _ (b++X) (by rw[Ū];show e1) (by rw[è,Őn,o,m]) ?_ Ĕp)));exact vw 0 (a.push (lo,k,0)).toList _;rw[ϭd];show Kv d {by rw[ĺ,Őn,o],X,[],(Ăg).symm,m,λe=>ņa hk (m▸Ŧ ëe e),C,rfl}
 show í īe;exact wpS _ _ _ _ (BC q.back? _ _) _ _;cases q.back? with
 |Å=>show j l ώc t|À r=>
  show í (νa (Øc (I:=λ_=>Pz X M L) (Q:=Pz X M L) ?_ (λ_ _ h=>h) (.mk l ώc t)));rintro _ _ _ _ _ ⟨e1,e2,d⟩;rename_i f a n b;show í īe;exact wpS _ _ _ _ (BC (if ŉ>1 then a[ŉ-2]? else Å) _ _) _ _;by_cases c:ŉ>1;rw[Ð c];cases a[ŉ-2]? with
  |Å=>show ü Ϻh|À r=>show xZ (λ_=>ü Ϻh) λ_=>í (rp (p:=a) (i:=ŉ-2) (JM H Ĕp) e1 d Ê λK O J M2 z v G P=>ü (.mk z (Čj e2) G))
  rw[Ñ c];show ü Ϻh;rintro _ _ ⟨e1,e2,d⟩;show í (χ (j e1 e2 ?_));exact vw 0 (Array.modify _ _ _).toList _;rw[Array.toList_modify];show m_ ?_ d;show λ⟨_,_,_⟩=>{rfl,rfl}
inductive BI(x:Ù Þ)(z:Â):É èa×Â->ā->È
 |mk {lo y q g L R}:îb=L++R->Àa=lo->vw 0 ŕb L->ϰa x->z<=lo->BI x z (Å,lo) ŗc
def x7j{x:Ù Þ}{g:Â}{Q:èa->ā->È}(B:v_ x)(Z:(ĥm).Nodup)(h:∀y q g,ϰa x->y.toList.Pairwise yb->Q () ŗc):wpS é A E s žo Q (yP x #[] Å g):=by
 unfold žo;show í īe;show í (νa (Øc (I:=λz=>BI x z) (Q:=λc st=>c.1=Å/\∃y q g,st=yP y q Å g/\vw 0 ŕb îb/\ϰa x) ?_ ?_ (.mk (L:=[]) (R:=Ĉc) rfl rfl rfl Ħj Ġ)));rintro z _ _ _ Y ⟨f,o,d,a,l⟩;rw[Ŵp]
 show xZ Ϡi λc=>?_;let:R=[]:=Ϩg (by dsimp only at c;omega);rw[çq];rw[ώ]at f;show ü {rfl,y,q,g,rfl,f▸d,a};replace c:lo<õa:=by dsimp only at c;omega
 refine í (x79 (lo:=lo) (n:=õa-lo) (JM B a) (z49 Z a) Ê Ê λm y1 v T J u U=>?_);let A1:=JM B (Čj a);let z1:=(Čj a).size_eq
 let S:∀{k i P},1<=k->lo+k<=õa->i.Perm y->(∀j,j<lo->i[j]?=y[j]?)->gD i lo k->wpS é A E s (oE õa lo k P) (λr st=>jX ϱj čl r) (yP i q Å g):=by intro k i P O W C t G;let{X,M,eY,lX,sX}:=x0f (m:=k) f o t G (by rw[(ğj a).size_eq];show W);show x7k B (ğj a) d o eY lX sX O λy q g L e1 e2 e3 e4=>.mk e1 e2 e3 e4 (Ìn l O)
 show ůd (Q:=λr st=>jX ϱj čl r) ?_ λr st h=>by cases r<;>show h
 show xZ (λp=>í (Χa (x78 (lo:=lo) (n:=min (õa-lo) (minRun' õa õa 0)) (ok:=m) A1 ?_ ?_ U λi C t G=>xZ (λc=>nomatch c) λ_=>S ?_ ?_ (ğj v) (λk N=>(t k N).trans (T k N)) G))) λp=>S J Ê v T U;omega;show Ŷh {u,ìa p};show Ŷh {ĉ J u,ĉ J (ìa p)};show ĉ (ĵc (Nat.min_le_left ..) _) Ϗm;rintro _ _ ⟨f,o,d,a,l⟩;rw[Ŵp]
 let:R=[]:=Ϩg (by dsimp only at l;omega);rw[çq];rw[ώ]at f;show{rfl,y,q,g,rfl,f▸d,a};rintro⟨_,lo⟩ _ ⟨rfl,y,q,g,rfl,d,a⟩;show í (νa (Øc (I:=λz c st=>c=(Å,())/\∃y q g,st=yP y q Å g/\vw 0 ŕb îb/\ϰa x/\(ęc<=1\/ęc+z<=õa)) (Q:=λc st=>c=(Å,())/\∃y q g,st=yP y q Å g/\vw 0 ŕb îb/\ϰa x/\ęc<=1) ?_ ?_ {rfl,y,q,g,rfl,d,a,.inr ?_}));rintro z _ _ _ Y ⟨rfl,y,q,g,rfl,d,a,F⟩;show í (ϊe (Αa (λc=>ü {rfl,y,q,g,rfl,d,a,c})))
 replace c:¬ ęc<=1:=c
 show í (rp (JM B a) (Ăg).symm d ?_ λi t g2 M H p c3 c4=>?_);let:∀(b:È) [źi b],(if b then ęc-2-1 else ęc-2)+1<ęc:=λb _=>by split<;>omega
 show this _;rw[ώ]at H;refine ü {rfl,i,t,g2,rfl,H▸c3,(ůk (H▸p)).trans a,.inr Ê};rw[ñq];show{rfl,y,q,g,rfl,d,a,by rw[Ýi]at F;dsimp only at F;omega};let:=mz d;rw[ĳ,ĳ,ůi]at this;rw[Œp];rw[ñq];show ü (h y q g a ?_)
 match e:ŕb,d,(ĳ (xs:=q))with
 | [],d,_=>rw[show îb=[]from d];show êf| [r],d,_=>let{_,X,M,e,_,_,h5,h6}:=d;rw[e,show M=[]from h6,ώ];show h5
 |_::_::_,_,u=>simp only[Ĉ]at u;omega
def x1i(f:ö a=À (seqObj Ģ Ůa n))(m:ôb vs ns)(G:ns.Nodup)(hz:č<=ã)(h:∀(out:Ù Value)(b:Á Æ),ôb ûe b->Ťj ns->ļi (·<=·)->P (.done Ől) { s with ç:=sortedHeap á a vs out }):Ø é A (Builtin.«list.sort» {ϥ,[]}) P E s:=by
 by_cases h64:č<64;show ųh f m h64 h
 obtain⟨o,k,r,rfl⟩:∃o k r,vs=o::k::r:=by
  match vs,h64 with
  | [],h=>show Ý Ò h| [_],h=>show Ý (show 1<64 by decide) h|o::k::r,_=>show{o,k,r,rfl}
 generalize e:o::k::r=vs at *;let l:¬ vs.toArray.size<2:=by rw[ĥ];omega
 let B:a<Û:=ġ f;obtain⟨c,u⟩:∃c,(œc a (çb λ_=>#[])).get? a=À ìm:={_,get?_update_seq f (λ_=>#[])}
 let v:((õk).push Õd).get? a=À ìm:=by rw[ēm _ _ _ (by rw[ěo,Ŏm];show Ϗ (ųb B)),ēm _ _ _ (by rw[Ŏm];show Ϗ B)];show u
 rw[list_sort_plain];refine Ó (listItems_at f rfl (Ó (Ĉn f rfl (hsz:=by rw[ĥ];show hz) ?_)));show Ó (Ϭn u rfl (Ó (êh ?_ (by show hz))));show Ó (Ôf (Ţa ?_));exact Ø é A _ P E { s with ç:=(õk).push Õd };rw[Ñ l,Ñ l,<-e,keyKind_ints (e▸m),e];show Ó (Δa (Ħa (x7j (x:=pairsOf vs) (g:=7) (Q:=λ_ st=>(Śo).Perm îi/\failedOf st=Å/\SortedTo Śo (îi).size) ?_ ?_ ?_) ?_ λ_ _ e=>e));intro i p d;show m.intKeys p (όg (ϓg d));have:(îi).toList.map wS=ns:=by rw[pairsOf_toList,show wS=numOf∘Prod.fst from rfl,<-îa,öf Ġ,m.nums]
 rw[this];show G;intro y q g d t;show{d,rfl,λi j O N=>?_};let z:=d.size_eq;let I:y[i]?=À y[i]:=getElem?_pos y i Ê;let L:y[j]?=À y[j]:=getElem?_pos y j Ê;unfold K;rw[I,L];by_cases c:i=j;subst c;show Ϟa _;let:=źd t i j Ϩd Ϩd Ê;rw[ċb,ċb]at this;rw[Œp];rintro⟨⟨⟩,st⟩ _ ⟨rfl,d,F,t⟩;rw[ŕp];show Ó (Ϭn v rfl (Ó (Ĉn v rfl ?_ (hsz2:=by refine ĉ (Łb ((Array.size_map ..).trans (d.size_eq.trans (pairsOf_size _)))) (ľc hz)))));rw[F];simp only[Ĥh,Ĺb,Ăa];let{b,C,H,J}:=sorted_out m d t;show ò (h _ b C H J)
def x1l(u:āa=Å)(lo:ĩa=Ä)(o:Òe ïa a kvs ep)(hk:ϑc (·.1)=Ða ı)(hz:Ŝ<=ã)(h:∀h' tk p out c ns',Û<=p->Ċ p=À Ėh->ôb ûe ns'->Ëj ns->Ñi (·<=·)->(∀b ob,ö b=À ob->Ċ b=À ob)->Q Ŭ { s with ç:=h',đ:=tk }) :Ø é A ſh Q E s:=by
 let j:ň=Ŝ:=by
  let:=Ŧ ëe hk
  rwa [å,å]at this
 let t:ns.Nodup:=by let:=o.nodup;rw[hk]at this;show(ϰk).imp λh z=>h (Ŧ _ z)
 rw[ŗp];refine Ó (m:=ĺi Ūa 1 1 _) (Δa (cN ćo lo o (j▸hz) λg tk d k x l n=>Ó (Ôf ?_ Ųl)));let v:=eM d kvs ns k hk x;let i:(g.push ϰe).get? Ŗc=À ϰe:=ű _ rfl;refine Ó (Ţa (ĉb Ųh {_,i,rfl} Œh (x1i i v t Ųl λout ns' B y q=>{_,rfl,?_}) Ĝh));let{c,r}:=Ϟh (vs:=d) (out:=out) i;show ò {_,rfl,h _ tk Ŗc out c ns' (ìa l) r B y q λb ob e=>?_};let f:=ġ Œo;rw[űh ůn Źk];show ė _ Œo
#print a
section
variable{X:Cx}
def y81:Á V->Hp->VK->È:=λb H Q=>∃(a:Ë) (kvs:Á ϲ) (ns:Á Æ),b=ϥ/\Rd H a ř/\ϑc (·.1)=Ða ı/\Ŝ<=ã/\∀l,H l=Å->Q řb Ÿg
def z2t(b:Ů=Ã):wu X ϡd y81:=by
 intro R s σ H S T Q I r h;let{a,C,d,rfl,A,l,i,q}:=h;rw[Íq];let{_,z,x,e,o,m,t,N,F,v,G,y,O}:=gf Ė A;let E:Òe ĺf a x t:={o,m,N,F,v,G,y,O};show x1l (óa b) z E ((HV e).trans l) i λh' J p g c f j K P B k L=>?_
 obtain rfl:f=Ϸa d:=B7 (B.trans (èc d).symm) k (ße d);show{.ref p,_,Ża (t':=J) (h':=h') L j (show xT õ X.w _ _ _ (Β ((Ϸa d).map ϻa))from{?_,g.toList,c,M5 P,?_}),rfl,q _ (Ĕb j)};rw[å,(èc d).length_eq];show i;rw[ðh];show K
#print a
#print L2
namespace L3
open Ķ ő Ň L2
def Eb:Á D->É D
 | [.dic ks _]=>(ZK ks).bind λa=>À Ël|_=>Å
def x0t(c:Ů=Ã)(r:Gl X Ūa)(x:ð Ūa=Å)(F:SA X [e] fs)(n:Í ÿa q12) :SF X Üp (eL Eb fs):=by
 let{t,C,k}:=F.h;refine{{_,(Ij (p:=p) (pos:=pos) (z2t c) r x E7 {C} Ò Ò ôm).h,λ{K N G H τ σ d Q} E b q=>?_}};let{B,o,b}:=zG b;show k E o λJ L I g w=>?_
 match B,b with
 | [.dic ks xs],b=>
  let{i,j,b}:=zG b;cases b;let{v,rfl,a,z,rfl,y,u,s,l}:=qx w
  let m:Ϧb<=ã:=by let:=ďi s;rw[MB j,å]at u;omega
  show{a,Œd z,i,rfl,ϱb g.gh y,?_,m,λA f=>?_};rw[<-MB j];show öf Ê;show q A _ _ (g.trans (ĵa g.gh f)) (g.h.free f) (Ϟo f) {_,yh,ĝd,?_};rw[å,(èc i).length_eq];show m
def Gn(K:Ô)(x:Ç):È:=ϔ K Ę x=À Å
def Gs(K:Ô)(x:Ç)(v:Value):È:=ϔ K Ę x=À ϯ
def Tq(K:Ô)(d:É Ë)(a:Ë)(vs:Á Value):È:=∃n sl,Ϯ a=À {.type ſ,d,.seq Ůa n,sl}
def Dc(K:Ô)(w:æ)(a:Ë)(l:Á íf):È:=(∃n,Ϯ a=À { cls:=.type Ãa,Ć:=.dict (Ëk).toArray n })/\ĩa=Ä
nonrec def vD:Á Value->É Ûn
 | []=>À ([],[])|.int i _::r=>(ıg).bind λp=>À (.int i::p.1,.int i::p.2)|.str s _::r=>match Ēc ϴf 1000 with
  |Ã=>(ıg).bind λp=>À (.str s::p.1,.str s::p.2)|Ä=>Å
 |_=>Å
def vT(vs:Á Value):É Ûn:=match Ēc č 1000 with
 |Ã=>vD vs|Ä=>Å
section
variable{K:Ô}{w:æ}{h:Heap}{mg:Ç->É Value}{a:Ë}{x:Ç}{v:Value}{d:É Ë}{n:Â}{i:Æ}{t:Tok}{s:Ç}{sl:Ù ϡa}{vs:Á Value}{us:Á V}{ds:Á D}{l:Á íf}
def gn_mk(h:ϔ K Ę x=À Å):Gn K x:=h
def gs_mk(h:ϔ K Ę x=À ϯ):Gs K x v:=h
def tq_mk(h:Ϯ a=À {.type ſ,d,.seq Ůa n,sl}):Tq K d a vs:={_,_,h}
def dc_mk(h:Ϯ a=À { cls:=.type Ãa,Ć:=.dict (Ëk).toArray n })(q:ĩa=Ä):Dc K w a l:={{n,h},q}
def pT(X:ŵ h)(G:ğa Ę mg)(g:Gn K x):mg x=Å:=W.mg_none_of X G g
def ZH(X:ŵ h)(G:ğa Ę mg)(g:Gs K x Ō):vB mg x Ō:={_,đc X G g,rfl}
def V5(X:ŵ h)(G:ğa Ę mg)(g:Gs K x űf):vB mg x Áa:={_,đc X G g,{_,rfl}}
theorem RV:∀{vs:Á Value}{us:Á V}{ds:Á D},vD vs=À (us,ds)->zl us vs/\∀H,ë K H ds us
 | [],_,_,e=>by cases e;show{.nil,λ_=>rfl}|.int i t::r,_,_,e=>by let{p,e1,e}:=zG (show(ıg).bind _=_ from e);cases e;let{b,c}:=RV e1;show{.cons {_,rfl} b,λH=>{_,_,rfl,rfl,c H}}
 |.str s t::r,_,_,e=>by
  cases z:Ēc ϴf 1000 with
  |Ä=>rw[show vD ņn=match Ēc ϴf 1000 with|Ã=>_|Ä=>Å from rfl,z]at e;cases e
  |Ã=>rw[show vD ņn=match Ēc ϴf 1000 with|Ã=>_|Ä=>Å from rfl,z]at e;let{p,e1,e}:=zG (show(ıg).bind _=_ from e);cases e;let{b,c}:=RV e1;show{.cons {_,rfl} b,λH=>{_,_,rfl,{rfl,ĩb Øl},c H}}
def Ye(g:Tq K d a vs)(e:vT vs=À (us,ds))(H:Hp):zY K H ϯi Ō:=by
 let{n,sl,g}:=g;cases z:Ēc č 1000 with
 |Ä=>rw[show vT vs=match Ēc č 1000 with|Ã=>_|Ä=>Å from rfl,z]at e;cases e
 |Ã=>rw[show vT vs=match Ēc č 1000 with|Ã=>_|Ä=>Å from rfl,z]at e;let{b,c}:=RV (K:=K) e;let q:=ĩb Øl;show{a,us,rfl,cQ g q b H,c H,by rw[<-(c H).length,Óa];show q}
def Yd(g:Tq K Å a vs):FV K a:=let ⟨_,_,g⟩:=g;{_,g,rfl,rfl}
theorem d9:∀l:Á íf,Z5 w (Úa λp=>({Ën w.params p.1,.str p.1 p.2.1,p.2.2}:þc)) (Úa (·.1)) (Úa (·.2.2))
 | []=>.nil|_::l=>.cons (d9 l)
#print a
abbrev HD(x:Ç)(ps:Á Ç)(k:Â)(F:Á D->É ä)(P:ï)(w:æ)(K:Ô)(mg:Ç->É Value)(Ì:Heap):È:=wX P w K mg Ì x ps k ıe
def Wh(K:Ô)(m q:Ç)(st:Ü)(ps:Á Ç)(f:Ë):È:=Ře K Ĥ=Ã/\Ôa K Ĥ=Ã/\∃fd,vV K m q st f fd/\vy K fd ps []
def J8(K:Ô)(m:Ç)(f:Ë)(c:Ç):È:=∃C,ϔ K Ę c=À Ėa/\tR K C/\Őa K ś m=À ŋa
def ZC(K:Ô)(c d m q:Ç)(st:Ü)(ps:Á Ç):È:=∃f,J8 K m f c/\J8 K m f d/\Wh K m q st ps f
def J7(K:Ô)(c q:Ç)(st:Ü)(ps:Á Ç):È:=∃C f,ϔ K Ę c=À Ėa/\ϐf K C=Ã/\Őa K ś éb=À ŋa/\Ôa K ś=Ã/\Wh K éb q st ps f
def Ot(K:Ô)(c m q:Ç)(st:Ü)(ps:Á Ç):È:=∃C f,ϔ K Ę c=À Ėa/\ĉi K ś Ĉh=À Ůg/\ųi K C ęf=Ã/\Ŵi K ś ęf m=À Œi/\Wh K m q st ps f
def tT(K:Ô)(x:Ç)(st:Ü)(f:Ë):È:=ϔ K Ę x=À ŋa/\zS K x st
section
variable{K:Ô}{w:æ}{mg:Ç->É Value}{h:Heap}{c d m q x:Ç}{st:Ü}{ps xs ns:Á Ç}{f a:Ë}{C D:Ë}{sp:Sp}{k:Â}{l:Á íf}{fs:Á Ë}
def cls_mk(c:ýe K C ŷi=Ã)(b:łf K C=Ã)(d:Ċi K C=Ã)(a:Őa K ś ϛh=À ŷg):tR K C:={c,b,d,a}
def mdp_mk{o:Value}{j h:É Ë}{n:Ù ϡa}{g kV c d a ct:Value}(i:Ře K Ĥ=Ã)(l:Ϯ f=À {o,j,.func Čk,n})(e:Ŗb K a q=Ã)(k:Ôa K Ĥ=Ã)(b:vy K Čk ps []):Wh K m q st ps f:={i,k,_,z4l l e k,b}
def mtc_mk(n:ϔ K Ę c=À Ėa)(a:tR K C)(g:Őa K ś m=À ŋa):J8 K m f c:={C,n,a,g}
def mtp_mk(a:J8 K m f c)(b:J8 K m f d)(e:Wh K m q st ps f):ZC K c d m q st ps:={f,a,b,e}
def mkp_mk(n:ϔ K Ę c=À Ėa)(a:ϐf K C=Ã)(g:Őa K ś éb=À ŋa)(b:Ôa K ś=Ã)(e:Wh K éb q st ps f):J7 K c q st ps:={C,f,n,a,g,b,e}
def cmp_mk(n:ϔ K Ę c=À Ėa)(b:ĉi K ś Ĉh=À Ůg)(a:ųi K C ęf=Ã)(g:Ŵi K ś ęf m=À Œi)(e:Wh K m q st ps f):Ot K c m q st ps:={C,f,n,b,a,g,e}
def fnq_mk{e j:É Ë}{g:Ù ϡa}{h kV d i b ct:Value}(a:ϔ K Ę x=À ŋa)(l:Ϯ f=Lo x st h e g kV d i j b ct)(c:Ŗb K b x=Ã)(k:Ôa K Ĥ=Ã):tT K x st f:={a,fnp_mk a l c k}
def bm(b:∀s us,ŵ á->áa=ğ->Ġb s fd {us,[]} õc):vy K fd ps []:=λs us c a=>by rw[ώ]at a ⊢;show b s us c a
def ZC.hh(a:ZC K c d m q st ps)(P:ï)(w:æ)(mg:Ç->É Value)(e:Heap)(ok:∀{f fd},vV K m q st f fd->xP P w K mg e xK k f fd ps sp):ji P w K mg e c m ps k sp/\ji P w K mg e d m ps k sp:=by let{f,{C,o,n,h},{D,p,l,j},i,g,fd,F,b}:=a;show{{C,f,fd,o,n,{h,i,g},b,ok F},{D,f,fd,p,l,{j,i,g},b,ok F}}
def J7.hh(a:J7 K c q st ps)(X:ŵ h)(G:ğa Ę mg)(P:ï)(w:æ)(d:Heap)(ok:∀{f fd},vV K éb q st f fd->xP P w K mg d xK k f fd ps sp):Ow P w K mg d c ps k sp:=by let{C,f,n,e,g,j,i,l,fd,F,b}:=a;show{C,f,fd,n,đc X G n,{e,g,i,j},b,ok F}
def Ot.hh(a:Ot K c m q st ps)(X:ŵ h)(G:ğa Ę mg)(P:ï)(w:æ)(d:Heap)(ok:∀{f fd},vV K m q st f fd->xP P w K mg d xK k f fd ps sp):Ov P w K mg d c m ps k sp:=by let{C,f,n,l,e,g,i,j,fd,F,b}:=a;show{{C,f,fd,_,đc X G n,l,e,g,j,b,ok F}}
def tT.n(a:tT K x st f)(X:ŵ h)(G:ğa Ę mg):mg x=À Ĥ:=đc X G a.1
def z3q(g:Dc K w a l)(e:Úa (·.2.2)=Ϙc ĕ)(b:xs.Nodup)(ex:Úa (·.1)=xs)(m:Wi mg ns fs):XC K w mg a ĳo ns:=by obtain⟨⟨n,g⟩,q⟩:=g;subst ex;show z4s g (e▸d9 l) b q m
#print a
section
variable{K:Ô}{fd:Ń}{p0 p1 p2 p3:Ç}
def bd2(b:∀s x y,ŵ á->Ġb s fd {Ác,[]} ((ņe).zip Ác)):vy K fd ņe []:=bm λs a c d=>us2 (P:=λa=>Ġb s fd {a,[]} ((ņe).zip a)) (λx y=>b s x y c) a d
def bd4(b:∀s x y z u,ŵ á->Ġb s fd {ϸo,[]} ((Öe).zip ϸo)):vy K fd Öe []:=bm λs a d c=>us4 (P:=λa=>Ġb s fd {a,[]} ((Öe).zip a)) (λx y z u=>b s x y z u d) a c
#print a
#print L3
namespace L3
open Ķ
nonrec def z4t:Á D:=[ϕa,(.str ϧ),Ũo]
def Lv:D:=.tup z4t
nonrec def Jj:Á D:=[Ŧc,āe,Ĳf]
def T8:D:=.tup Jj
nonrec def z4v:Á D:=[ūf,Ľc,čd,Ûb,Ũa,ńb,ŧa,Ņb,Ŋb,Ţc,Øb,Ϭh,ŭf]
def Ew:D:=.tup z4v
nonrec def z4w:Á D:=[œi,ϫh,Ŭf,Ûb,Ũa,ńb,ŧa,Ņb,Ŋb,Ţc,Øb,Ϭh,ŭf]
def Ex:D:=.tup z4w
nonrec def z4u:Á D:=[Ũa,ŧa]
def Ev:D:=.tup z4u
nonrec def z4y:Á D:=[(.str ŏ),ūf,œi,ϫh,Ŭf,Ûb,Ũa,ńb,ŧa,Ņb,Ŋb,Ţc,Ľc,čd]
def Ez:D:=.tup z4y
nonrec def z4z:Á D:=[Ûb,Ũa,ńb,ŧa,Øb,Ņb,Ŋb,Ţc,Ľc,čd]
def E_:D:=.tup z4z
nonrec def z4x:Á D:=[Ûb,Ũa,ńb,ŧa,Øb,Ľc,čd]
def Ey:D:=.tup z4x
nonrec def dh:Á D:=[Ź,ßa,ϥa,ĺp]
def T7:D:=.tup dh
theorem VJ{g:FG}{c:FT}{e:FE}{σ:zu}(p:D->Ï)(v:D->D):∀{ds:Á D},(∀d∈ds,∃σ1,g d σ=À σ1/\c σ1=À (p d)/\(p d=Ã->e σ1=À (v d)))->xi g c e σ ds=À ((ds.filter p).map v)
 | [],_=>rfl|d::ds,h=>by
  let{σ1,e1,e2,f}:=h d Õa;let a:=VJ p v (ds:=ds) λx b=>h x Œb
  rw[Ŗp];exact(Ŋj).bind _=_;rw[e2];cases hp:p d with
  |Ä=>rw[ša øm];show a|Ã=>rw[Ša hp];exact(ňd).bind _=_;rw[f hp];exact(śm).bind _=_;rw[a];rfl
def YJ(v:D->D)(h:∀d∈ds,∃σ1,g d σ=À σ1/\e σ1=À (v d)):xi g xY e σ ds=À (Ğg v):=by
 let:=VJ (g:=g) (c:=xY) (e:=e) (σ:=σ) (λ_=>Ã) v (ds:=ds) λd f=>by let{σ1,a,b}:=h d f;show{σ1,a,rfl,λ_=>b}
 rw[this,List.filter_eq_self.mpr ķf]
inductive Zt(R:D->D->È):Á D->Á D->È
 |nil:Zt R [] []
 |ú {x y:D} {xs ys:Á D}:R x y->Zt R xs ys->Zt R ϯa (y::ys)
theorem He{g:FG}{e:FE}{σ:zu}(R:D->D->È):∀{ds:Á D},(∀d∈ds,∃σ1 x,g d σ=À σ1/\e σ1=À x/\R d x)->∃xs,xi g xY e σ ds=À xs/\Zt R ds xs
 | [],_=>{[],rfl,.nil}|d::ds,h=>by
  let{σ1,x,e1,e2,r}:=h d Õa;let{xs,c,a}:=He R (ds:=ds) λx b=>h x Œb
  show⟨x::xs,?_,.cons r a⟩;rw[ſp]
def Vr{n i:Â}{d:D}(h:(wW n)[i]?=À d):i<n/\d=.int (i:Æ):=by
 let a:i<n:=by let:=Ϭa.1;rw[Ŕp]
 show{a,?_};simp[a]at h;show ŝj
def RU{n:Â}{d:D}(h:d∈wW n):∃i:Â,i<n/\d=.int (i:Æ):=by let{i,a,e}:=ϝd h;show{i,(Vr (List.getElem?_eq_some_iff.mpr {a,e}))}
def Vs(n:Â):(wW n).length=n:=by simp
def jt{α:Type}{xs:Á α}{i:Æ}{a:α}(b:0<=i)(h:xs[ŀe]?=À a):uP xs i=À a:=by unfold uP;rw[Ð b,h]
def qq:Â->D->Ï
 |0,_=>Ä|n+1,.tup xs=>őe (qq n)|n+1,.lst xs=>őe (qq n)|_+1,d=>xQ d
theorem EA{f:D->D->Ï}:∀{xs:Á D},(∀x∈xs,f x x=Ã)->jG f xs xs=Ã
 | [],_=>rfl|x::xs,h=>by exact(f x x&&jG f xs xs)=Ã;rw[h x Õa,EA λy a=>h y ϟf];rfl
theorem EC:∀{xs:Á D},(∀x∈xs,xh x x=Ã)->Æc xs xs=Ã
 | [],_=>rfl|x::xs,h=>by exact(xh x x&&Æc xs xs)=Ã;rw[h x Õa,EC λy a=>h y ϟf];rfl
theorem IS:∀(n:Â)(d:D),qq n d=Ã->ux n d d=Ã/\xh d d=Ã
 |0,_,h=>by cases h|n+1,d,h=>by
  cases d with
  |tup xs=>have c:∀x∈xs,qq n x=Ã:=ûa h;show{EA λx a=>ýf.1,EC λx a=>ýf.2}|lst xs=>have c:∀x∈xs,qq n x=Ã:=ûa h;show{EA λx a=>ýf.1,EC λx a=>ýf.2}|dic ks vs=>cases h|exc _=>cases h|obj _ _ _=>cases h|zP=>show{rfl,rfl}|bl b=>show{rfl,ϗa b}|int i=>show{rfl,ϗa i}|str z=>show{rfl,ϗa z}
def dD(h:qq 6 d=Ã):YA d d=À Ã:=by
 let{b,a}:=IS 6 d h
 have e:YA d d=match ux 6 d d with
  |Ã=>À (xh d d)|Ä=>Å:=by cases d<;>rfl
 rw[e,b,a]
theorem z4f(h:qq 6 d=Ã):za d d=À Ĭ:=by unfold za;rw[dD h];rfl
def y0n(h:qq 6 d=Ã):vG d d=À Ā:=by unfold vG;rw[dD h];rfl
def eE{i j:Æ}(h:i=j):za Áa ďc=À Ĭ:=by subst h;exact À (øa (i==i))=_;rw[ϗa]
theorem eF{i j:Æ}(h:i≠j):za Áa ďc=À Ā:=by exact À όi=_;rw[Êb h]
theorem Ϧ{i j:Æ}:xF Áa ďc=À Ŀf:=rfl
theorem oV:∀ts:Á Ç,Vm Če=À ts
 | []=>rfl|t::ts=>by exact(Vm Če).bind _=_;rw[oV ts];rfl
def z7y(h:(Ćc (·.length)).sum+żf*Ūc<=1000000):EU (.str sep) (Β Če)=À (.str (ĕm sep ts)):=by exact(Vm Če).bind _=_;rw[oV];exact(if _<=yV then _ else _)=_;rw[Ð Ϥg]
theorem łe(z:Ç)(lo hi:É Æ):(ĥn).length<=Ŀ:=by exact((ģh _).take _).toArray.size<=Ĳi;simp only[ĥ,Ýa,ńa,ĳ];omega
def z4p:∀{ks:Á Ĺ} {vs:Á α},ŀ=č->∀k',ċ Ēe Ðe k'=if k=k' then À v else ċ ks vs k':=by
 let f:∀{ks:Á Ĺ} {vs:Á α},ŀ=č->∀k',xA ks k=Ã->ċ ks Ţg k'=if k=k' then À v else ċ ks vs k':=by
  intro ks
  induction ks with
  |nil=>intro vs _ k' h;cases h|ú a ks ih=>
   intro vs c k' h;cases vs with
   |nil=>cases c|ú b vs=>
    rw[Ðh];unfold ċ;by_cases e1:a=k;subst e1;by_cases e2:a=k';rw[Ð e2,Ð e2,Ð rfl];rw[Ñ e2,Ñ e2,Ñ e2];by_cases e3:xA ks a=Ã;let:=ih (vs:=vs) Ýc k' e3;rw[this,Ñ e2];let:∀{ks:Á Ĺ} {vs:Á α},ŀ=č->xA ks a=Ä->ċ ks (íc (λk' x=>if k'=a then v else x) ks vs) k'=ċ ks vs k':=by
     intro ks
     induction ks with
     |nil=>intro vs _ _;rfl|ú a' ks ih'=>
      intro vs c h;cases vs with
      |nil=>cases c|ú b vs=>
       let d:decide (a'=a)=Ä/\xA ks a=Ä:=by let:(decide (a'=a)||xA ks a)=Ä:=h;show Bool.or_eq_false_iff.mp this
       rw[Ðh];unfold ċ;rw[Ñ (of_decide_eq_false d.1),ih' Ýc d.2]
    show this Ýc (by simpa using e3);let d:xA ks k=Ã:=by let:(decide (a=k)||xA ks k)=Ã:=h;rw[Ĕ e1]at this;rw[Œp]
    let:=ih (vs:=vs) Ýc k' d;rw[this,Ñ e1];by_cases e2:a=k';rw[Ð e2];rw[Ñ (λe=>e1 (e2.trans ĝg)),Ð e2];rw[Ñ e2];by_cases e3:k=k';rw[Ð e3,Ð e3];rw[Ñ e3,Ñ e3,Ñ e2]
 intro ks vs c k';unfold w8 wA;by_cases h:xA ks k=Ã;rw[Ð h,Ð h];show f c k' h;rw[Ñ h,Ñ h];clear f
 induction ks generalizing vs with
 |nil=>
  cases vs with
  |nil=>rfl|ú _ _=>cases c
 |ú a ks ih=>
  cases vs with
  |nil=>cases c|ú b vs=>
   let d:¬ a=k/\¬ xA ks k=Ã:=by
    let:¬ (decide (a=k)||xA ks k)=Ã:=h
    rw[ϱp];intro e;show this (by rw[ù e];rfl);intro e;show this (by rw[e,åi])
   rw[ŉc,ŉc];exact(if a=k' then À b else ċ (ks++[k]) (vs++[v]) k')=if k=k' then À v else if a=k' then À b else ċ ks vs k'
   rw[ih Ýc d.2];by_cases e:a=k';rw[Ð e,Ð e];rw[Ñ (λg=>d.1 (ϋc g.symm))];rw[Ñ e,Ñ e]
theorem d_(a:Sum Æ Ç):xA Ēe a=(xA ks a||decide (k=a)):=by unfold w8;by_cases h:xA ks k=Ã;rw[Ð h];by_cases e:k=a;subst e;rw[h];rfl;rw[Ĕ e,Ôe];rw[Ñ h];unfold xA;rw[List.any_append];simp
theorem dw{α:Type}:∀{ks:Á Ĺ} {us:Á α} {as:Á Ĺ} {vs:Á α},ŀ=áa->∀k,xA ŋc.1 k=(xA as k||xA ks k)
 | [],us,as,vs,_,k=>by exact xA as k=(xA as k||Ä);rw[Ôe]|a::ks,[],_,_,h,_=>by cases h|a::ks,u::us,as,vs,h,k=>by exact xA (wg (w8 as a) (wA as vs a u) ks us).1 k=_;rw[dw üa,d_];exact _=(xA as k||(decide (a=k)||xA ks k));rw[ĕn]
theorem Hx(xs:Á D):vG Ĕa ăc=À (.bl (!xs.isEmpty)):=by
 cases xs with
 |nil=>show y0n (d:=.lst []) rfl|ú x r=>have e:xh Šn ăc=Ä:=rfl;exact(À (xh Šn ăc)).bind _=_;rw[e];rfl
theorem Cv:∀(n:Â){l:Á Â},l.Nodup->(∀x∈l,x<n)->ϥb<=n
 |0,l,_,h=>by
  cases l with
  |nil=>show Ŕ _|ú x r=>show Ý (h x Õa) ύd
 |n+1,l,hd,h=>by
  by_cases hm:n∈l;let b:=Cv n (hd.erase n) λx a=>by let:=(hd.mem_erase_iff).mp a;let:=h x this.2;omega
  rw[List.length_erase_of_mem hm]at b;omega;let b:=Cv n hd λx a=>by
   let c:=h x a;let d:x≠n:=λe=>hm (e▸a)
   omega
  omega
def i8{x y:D}{b:Ï}(h:za x y=À Şb):vG x y=À (.bl (!b)):=by
 unfold za at h;unfold vG;cases e:YA x y with
 |Å=>rw[e]at h;cases h|À k=>rw[e]at h;cases h;rfl
def z1a(b:n<2 ^ w)(a:y/2 ^ l%2 ^ w=0):(y &&& ϩi)=0:=by
 apply ϔd;intro i;rw[Ľb,àc];rw[Åh];by_cases hl:l<=i;by_cases hi:i-l<w;let e:ąe i=(y/2 ^ l%2 ^ w).testBit (i-l):=by rw[ól,ôl,ù hi,ýd,Üf hl]
 rw[e,a,àc,ďf];let:ŧi (i-l)=Ä:=Ĉl (Š b (ìh Ò Ê));rw[this];simp;simp[hl]
theorem z19(x l w:Â):(x &&& (Ĳp*2 ^ l))=x/2 ^ l%2 ^ w*2 ^ l:=by apply ϔd;intro i;rw[Ľb,Åh,Åh,Nat.testBit_two_pow_sub_one,ól,ôl];by_cases hl:l<=i;simp[hl,Üf hl];rw[Bool.and_comm];simp[hl]
theorem z2x(l w:Â):Ϻg=((Ĳp*2 ^ l:Â):Æ):=by let h:1<=2 ^ w:=Nat.one_le_two_pow;rw[Int.natCast_mul,Int.natCast_sub h];simp
def z1r(a:0<=x)(l w:Â):ģa x Ϻg=x/2^l%2^w*2^l:=by let{n,rfl}:=Ŀa a;rw[z2x,ćl āg āg,ē,ē,z19];simp
def z1q(g:0<=y)(c:0<=n)(d:n<2 ^ w)(hz:y/2 ^ l%2 ^ w=0):ģa y ϩi=0:=by
 let{a,rfl}:=Ŀa g;let{b,rfl}:=Ŀa c;let e:(b:Æ)*2 ^ l=((b*2 ^ l:Â):Æ):=by simp
 let h:b<2 ^ w:=by
  let:((2 ^ w:Â):Æ)=(2:Æ) ^ w:=by simp
  omega
 let f:a/2 ^ l%2 ^ w=0:=by
  let:((a/2 ^ l%2 ^ w:Â):Æ)=(a:Æ)/2 ^ l%2 ^ w:=by simp
  omega
 rw[e,ćl āg āg,ē,ē,z1a h f];rfl
def z3g{x p r:Æ}(f:0<=x)(a:0<p)(b:0<r):0<=x-x/p%r*p/\ŋf/p%r=0/\ŋf/p/r=x/p/r/\ŋf%p=x%p:=by
 let e:0<=x/p:=ăf f (þa a);let e1:x-x/p%r*p=x+p*(-(x/p%r)):=by rw[Int.mul_neg,Int.mul_comm p];omega
 let e2:ŋf/p=x/p-x/p%r:=by rw[e1,Int.add_mul_ediv_left _ _ (âi a)];omega
 let c:x/p-x/p%r=r*(x/p/r):=by let:=ıl (x/p) r;omega
 show{?_,?_,?_,?_};let g:x/p%r<=x/p:=by let:=ıl (x/p) r;let d:0<=x/p/r:=ăf e (þa b);let i:0<=r*(x/p/r):=Int.mul_nonneg (þa b) d;omega
 let h:x/p%r*p<=x/p*p:=Int.mul_le_mul_of_nonneg_right g (þa a);let j:=Int.ediv_mul_le x (âi a);omega;rw[e2,c];show Int.mul_emod_right _ _;rw[e2,c];show Int.mul_ediv_cancel_left _ (âi b);rw[e1];show Int.add_mul_emod_self_left ..
def iu(x:Æ)(w:Â):ģa x ((1:Æ)*2 ^ w-1)=x%2 ^ w:=by rw[ìe,W.kbt_mask]
theorem x7p{x n:Æ}{l w:Â}(b:0<=x)(g:0<=n)(a:n<2 ^ w):ϓa (ģa x (Ļb Ϻg)) ϩi=x+(n-x/2 ^ l%2 ^ w)*2 ^ l:=by let d:(0:Æ)<2 ^ l:=đi Ò;let f:(0:Æ)<2 ^ w:=đi Ò;let{c,e,_,_}:=z3g b d f;rw[PyProof.Rows.bitAnd_not,z1r b,PyProof.Rows.bitOr_and,z1q c g a e,Int.sub_mul];omega
def Sb(a b:Â):È:=∀k,đd k=Ã->ϣo k=Ã
def ńe(a:Â):Sb a a:=λ_ h=>h
def Sb.trans{a b c:Â}(h:Sb a b)(g:Sb b c):Sb a c:=λk z=>g k (h k z)
def Sb.Aj(h:Sb a b)(g:Sb b a):a=b:=ϔd λk=>by
 cases ea:đd k with
 |Ã=>show(h k ea).symm|Ä=>
  cases eb:ϣo k with
  |Ä=>rfl|Ã=>rw[g k eb]at ea;cases ea
def Pg(a:Â):Sb 0 a:=λk h=>by rw[àc]at h;cases h
theorem cp:∀(k a p:Â),(a-Ųa).testBit k=(đd k&&!p.testBit k)
 |0,a,p=>by
  let b:Ųa%2=(a%2)*(p%2):=by rw[Ϩp];rcases Öc a with e|e<;>rcases Öc p with f|f<;>rcases Öc Ųa with g|g<;>rw[e,f,g]at this<;>rw[e,f,g]<;>first|rfl|(simp at this)
  let c:Ųa<=a:=ŕh;simp only[ôf];rcases Öc a with e|e<;>rcases Öc p with f|f<;>rw[e,f]at b<;>simp only[e,f]<;>simp<;>omega
 |k+1,a,p=>by
  let b:(a-Ųa)/2=a/2-Ľn:=by
   let d:Ųa/2=Ľn:=by
    show ϔd λj=>?_
    rw[Ľb,<-êd,<-êd,<-êd,Ľb]
   let c:Ųa<=a:=ŕh
   let h:Ųa%2<=a%2:=by rw[Ϩp];rcases Öc a with e|e<;>rcases Öc Ųa with g|g<;>rw[e,g]at this<;>rw[e,g]<;>first|omega|(simp at this)
   rw[<-d];omega
  rw[êd,b,cp k,êd,êd]
theorem E4(a:Â):decide ((0:Æ)<=Ļb (a:Æ))=Ä:=Ĕ (by unfold Ļb;omega)
def b0(a:Â):decide ((0:Æ)<=(a:Æ))=Ã:=ù (Íc a)
def b_(a:Æ):Ļb (Ļb a)=a:=by unfold Ļb;omega
def LQ(a b:Â):ϓa (a:Æ) (b:Æ)=((a ||| b:Â):Æ):=by unfold ϓa ģa;rw[E4,E4];simp only[b_,ē]
theorem LJ(a b:Â):ģa (a:Æ) (b:Æ)=((a &&& b:Â):Æ):=by unfold ģa;rw[b0,b0];simp only[ē]
theorem z1n(a p:Â):ģa (a:Æ) (Ļb (p:Æ))=((a-Ųa:Â):Æ):=by let b:Ųa<=a:=ŕh;unfold ģa;rw[b0,E4];simp only[b_,ē];omega
def z1t(h:x<2048)(hk:Űc k=Ã):k<11:=by rcases ìc k 11 with c|c;show c;let:x<2 ^ k:=Š h (ìh (n:=2) Ò c);rw[Ĉl this]at hk;cases hk
def ig(c:a<2048)(d:b<2048):(a ||| b)<2048:=ċm (n:=11) c d
def z3x{a:Â}(p:Â)(b:a<2048):a-Ųa<2048:=by omega
nonrec def pc(x:Â):Â:=(Ûa 11).countP λk=>Űc k
def y5e(x:Â):pc x<=11:=by let:=List.countP_le_length (p:=λk=>Űc k) (l:=Ûa 11);rw[ëa]at this;rw[Œp]
theorem cO:∀{l:Á Â},(∀k∈l,p k=Ã->q k=Ã)->(∃k∈l,q k=Ã/\p k=Ä)->Ϻf p<Ϻf q
 | [],_,⟨k,h,_⟩=>by cases h|a::l,h,⟨k,b,h1,h2⟩=>by
  let d:Ϻf p<=Ϻf q:=List.countP_mono_left λk b z=>h k Œb z
  rcases ħ b with rfl|b;rw[List.countP_cons_of_pos h1,List.countP_cons_of_neg (by rw[h2];decide)];omega;let e:=cO (l:=l) (λk b=>h k Œb) {k,b,h1,h2};rw[Ŋm,Ŋm];let:=h a Ĝ;by_cases c:p a=Ã;rw[Ð c,Ð (this c)];omega;rw[Ñ c];omega
def y5f{a b:Â}(h:Sb a b)(f:b<2048)(d:a≠b):pc a<pc b:=by
 show cO (λk _ z=>h k z) ?_;apply ϲg;intro c;show d (h.Aj λk z=>?_);cases e:đd k with
 |Ã=>rfl|Ä=>show(c {k,úa (z1t f z),z,e}).elim
def bj:FS:=
 (zR (yS (tE Ţm)
   (yY Ċf)
   yi)
  (yY ĝ))
def z7m(ns:Á Æ)(k:Â):Ϥ[k]?=(ns[k]?).map Ě:=ņ
nonrec def JV(ns:Á Æ)(k:Æ):Æ:=Şf Ϡ 0
nonrec def Ud:Á D->É ä
 | [.lst xs,.int k]=>if 0<=k then((xs[Ϡ]?).getD Ź |> λd=>À (Ä,d))else Å|_=>Å
def z2z(ns:Á Æ){k:Æ}(h:0<=k):Ud Ęm=À (Ä,.int Ĭp):=by exact(if 0<=k then _ else _)=_;rw[Ð h,z7m];unfold JV;rw[Ŷ];cases ns[Ϡ]?<;>rfl
def y8q:∀ds r,Ud ds=À r->þ=2/\yM 2 bj ds=À r:=λds r h=>by
 unfold Ud at h
 rw[ũp];rename_i a k;show{rfl,?_};by_cases h0:0<=k;rw[Ð h0]at h;cases h;unfold bj;by_cases c:k<(ăa:Æ);let e:zH (.lst a) ņf=À ((a[Ϡ]?).getD Ź):=by exact uP a k=_;unfold uP;rw[Ð h0,Ē Ê];rfl
 simp only[Ö,ù c,e];let e:a[Ϡ]?=Å:=ŀa Ê;simp only[Ö,Ĕ c,e,Option.getD];rw[Ñ h0]at h;cases h;cases h
def z1v(h:vC i<=m):īd<2 ^ m:=by
 rw[îq];show Nat.pow_pos Ò;rw[Óq]
 show(Ĵh).mp Ê
def z1u(h:īd<2 ^ m):vC i<=m:=by
 rw[îq];show ϐ _;rw[Óq]
 rw[e];show(Ĵh).mpr h
def z2y{ns:Á Æ}{M:Â}(a:∀m∈ns,vC m<=M)(k:Æ):vC Ĭp<=M:=by
 unfold JV;rw[Ŷ];cases e:ns[Ϡ]? with
 |Å=>show ϐ _|À m=>show a m (ϛ e)
def Ca:FS:=
 (yY (e2 įe ϫm ϯk))
def wv:Á D->É ä:=FR 3 3 Ca
def z6m(b a c:D):wv Ϩ=yM 3 Ca Ϩ:=rfl
def Fi:FS:=
 (zR (yF 3 (e2 xF ϩm ŀl))
  (ηa (zB (e2 yx Ī Ùg) (Α (e2 (ςb (j<=i)) Ī Ùg)))))
def UX:Á D->É ä:=FR 3 4 Fi
def z59(b a c:D):UX Ϩ=yM 4 Fi Ϩ:=rfl
def Ci:FS:=
 (zR (yF 3 (e2 jK (e2 jK ý û) ŀl))
  (zR (yS (tE (e2 įc Ī ĝ))
   (ηa (zB (e2 xF Ī Ùg) ŝh))
   yi)
  (δb ûo)))
def Um:Á D->É ä:=FR 3 4 Ci
def z6s(b a c:D):Um Ϩ=yM 4 Ci Ϩ:=rfl
def CQ:FS:=
 (zR (yF 2 (e2 vg ý û))
  (zR (yF 3 (υc (Ρa (zB (eC ώb) ęi))))
  (ηa (zB (zg wv (Ρa (zB ĝ íp))) øc))))
def Wc:Á D->É ä:=FR 2 4 CQ
def z6e(b a:D):Wc ą=yM 4 CQ ą:=rfl
def CS:FS:=
 (zR (yF 2 (υc (ξa (zB (e2 jK û ĸ) ęi))))
  (ηa (zB ϫm ëc)))
def Wd:Á D->É ä:=FR 2 3 CS
def z6f(b a:D):Wd ą=yM 3 CS ą:=rfl
def Co:FS:=
 (zR (yF 4 (e2 vg ϯk û))
  (yY (e2 Įe (e2 įe ý (e1 T3 ŝ)) (e2 vg Ī û))))
def Wg:Á D->É ä:=FR 4 5 Co
def z6x(b a c d:D):Wg Ğd=yM 5 Co Ğd:=rfl
def OE:FE:=(zg wv (ξa (Ο ĕf)))
def Fo:FS:=
 (Εe (wK 1 (w_ ŉj) ϱa xY OE))
def Ua:Á D->É ä:=FR 1 1 Fo
def z5e(a:D):Ua [a]=yM 1 Fo [a]:=rfl
def Rt:FE:=(e2 vg û Ĵ)
def Cr:FS:=
 (yY (eL Ec (Α (wK 2 (TB ý ŉj) Òg xY Rt))))
def J2:Á D->É ä:=FR 1 1 Cr
def z70(a:D):J2 [a]=yM 1 Cr [a]:=rfl
def Fm:FS:=
 (yY (EK ý û ĝ))
def UZ:Á D->É ä:=FR 2 2 Fm
def z5c(b a:D):UZ ą=yM 2 Fm ą:=rfl
def Fk:FS:=
 (yY (zg wv (zB ϩm (zB ĝ îp))))
def UY:Á D->É ä:=FR 2 2 Fk
def z5b(b a:D):UY ą=yM 2 Fk ą:=rfl
def Bb:FE:=(zg UY ŀh)
def C0:FS:=
 (vY (wK 1 (qO ĝ ďb) ϱa xY Bb))
def WU:Á D->É ä:=FR 1 1 C0
def z5p(a:D):WU [a]=yM 1 C0 [a]:=rfl
def Bf:FE:=(zg UZ (χa Ŵj))
def Cq:FS:=
 (yY (zg J2 (Α (wK 1 (w_ Ěi) Ĝc xY Bf))))
def J1:Á D->É ä:=FR 2 2 Cq
def z6z(b a:D):J1 ą=yM 2 Cq ą:=rfl
def Cc:yZ:=
 (VM 0 [] û (wO (zg wv (Ρa (zB ĝ ĕf)))))
def Ul:FM:=vo 3 3 Cc
def z6n(b a c:M):Ul Ϩ=wZ 3 3 Cc Ϩ:=rfl
def MH:yZ:=(jR (pQ Ul (jD 0 [] (wH Ī ïe))))
def Cd:yZ:=
 (Ho (TB Ěi ðo) (TD 3 4)
   MH)
def Qz:FM:=vo 3 5 Cd
def z6o(b a c:M):Qz Ϩ=wZ 3 5 Cd Ϩ:=rfl
def sD:FE:=(xz (zB Ī ûo))
def Fh:yZ:=
 (xW (pW 0 [] [Ļ] àb (JR (eL V1 Ëb)))
  (xW (pW 0 [] [Ļ] ßb (JR (eL W_ (Α (wK 1 űn Ĥb xY sD)))))
  (pW 0 [] [Ļ] ða (JR (eL Lj ëc)))))
def UW:FM:=vo 3 3 Fh
def z58(b a c:M):UW Ϩ=wZ 3 3 Fh Ϩ:=rfl
def Fy:yZ:=
 (δ (wO Ϥm))
def Qm:FM:=vo 2 2 Fy
def z5m(b a:M):Qm ą=wZ 2 2 Fy ą:=rfl
def Fv:yZ:=
 (δ (ju (zg Wg (zB że (zB (eC ϥa) (zB (eC ϥa) (Α Ϡg)))))))
def Qj:FM:=vo 2 2 Fv
def z5j(b a:M):Qj ą=wZ 2 2 Fv ą:=rfl
def Fu:yZ:=
 (δ (ju Ũg))
def Qi:FM:=vo 2 2 Fu
def z5i(b a:M):Qi ą=wZ 2 2 Fu ą:=rfl
def Wv:FS:=
 (zR (yS (Ηb ŋn)
   (yY (zg UX (Ο (Ρa (zB (eC Ā) zF)))))
   yi)
  (zR (yS (Ηb (eC Ũa))
   (yY (zg UX (Ο êi)))
   yi)
  (yY (zg Um (Ο (Ξc (XQ Ī (e2 za ý (eC ŧa)))))))))
def Z9:Á D->É ä:=FR 4 4 Wv
def Jl(b a c d:D):Z9 Ğd=yM 4 Wv Ğd:=rfl
def CP:yZ:=
 (xW (ωa āe Ϡm)
  (ωa Ĳf (e2 za (zg wv (Ο (zB (e2 jK (eC (.int 32)) ĸ) ęi))) ĸ)))
def Wa:FM:=vo 2 2 CP
def z6d(b a:M):Wa ą=wZ 2 2 CP ą:=rfl
def LI:yZ:=
 (xW (tM 2 (ju (zg Z9 (Θe (zB Ũg (Α (e2 zH (e1 (xv ôi ßb) ý) (eC Ŧc))))))))
  (xW (ωa Ŧc Ŧh)
  (xW (Αc (wH Çe vM))
  (ZN (ιa (e2 vG đb ðj))
   (δ (wO Çe))
   ZO))))
def gU:FM:=vo 2 3 LI
def dv(b a:M):gU ą=wZ 2 3 LI ą:=rfl
def C7:FS:=
 (zR (yS (Ηb (eC Ņb))
   (yY (e2 įe û Ĵ))
   yi)
  (zR (yS (Ηb (eC Ŋb))
   (yY (e2 Įe û Ĵ))
   yi)
  (yY (e2 (wz Źh) û Ĵ))))
def Uc:Á D->É ä:=FR 3 3 C7
def z5w(b a c:D):Uc Ϩ=yM 3 C7 Ϩ:=rfl
def Fq:yZ:=
 (xW (tM 2 (ju (zg Uc (Θe (Α (e2 zH (e1 ŭn ý) Ϡg))))))
  (xW (Αc (wH Ĵ vM))
  (δ æj)))
def X4:FM:=vo 2 3 Fq
def z5h(b a:M):X4 ą=wZ 2 3 Fq ą:=rfl
def LH:yZ:=
 (xW (tM 2 (ju że))
  (xW (tM 3 (wO (jJ (Κ đb Øg) (zg Wc ϊm) (zg Wd ϊm))))
  (xW (ZN (ιa (e2 Lm ţh őb))
   (ωa Ŧc ţh)
   ZO)
  (xW (Αc (wH Ťh vM))
  (δ (wO Ťh))))))
def WT:FM:=vo 2 4 LH
def dt(b a:M):WT ą=wZ 2 4 LH ą:=rfl
def Fj:FS:=
 (yY (zg UY (zB Ũg (Α (e2 zH û Õb)))))
def X1:Á D->É ä:=FR 2 2 Fj
def z5a(b a:D):X1 ą=yM 2 Fj ą:=rfl
def Fw:yZ:=
 (δ (ju (zg UZ Êk)))
def Qk:FM:=vo 2 2 Fw
def z5k(b a:M):Qk ą=wZ 2 2 Fw ą:=rfl
def Fx:yZ:=
 (δ (ju (zg J1 Êk)))
def Ql:FM:=vo 2 2 Fx
def z5l(b a:M):Ql ą=wZ 2 2 Fx ą:=rfl
def Fz:yZ:=
 (jR (pQ Ul ók))
def Qn:FM:=vo 2 2 Fz
def z5n(b a:M):Qn ą=wZ 2 2 Fz ą:=rfl
def F_:yZ:=
 (jR (pQ Qz ók))
def Qo:FM:=vo 2 2 F_
def z5o(b a:M):Qo ą=wZ 2 2 F_ ą:=rfl
nonrec def jI:Á Ĺ:=ŗb .inr [ŏ,ób,ϰ,ĸa,Ċa,ķa,ĉa,ôa,ϊa,ώa,Àb,įa,ĕa,ŕa,Ŏa,ėa,ēa]
nonrec def ci:Á Ç:=[ϱf,Ÿf,Źf,ćc,ćc,ćc,ćc,ćc,Ĝd,Ĝd,Ĝd,Ąe,Ąe,ŷf,ŕf,Ŕf,ŀf]
def JW:Á FM:=[Qm,Qj,Qi,gU,gU,gU,gU,gU,X4,X4,X4,WT,WT,Qk,Ql,Qn,Qo]
def JP:yZ:=
 (ZN (ιa (e1 (V0 jI) đb))
   (jR (E8 jI JW đb (jD 0 [] (wH û vM))))
   ZO)
def jg:FM:=vo 2 2 JP
def Eu(b a:M):jg ą=wZ 2 2 JP ą:=rfl
def z1i:FS:=
 (zR (yS (Κ đb ŵd)
   (yY Ńk)
   yi)
  (zR (yS (tE (e2 za đb çh))
   (yY (Le Ńk))
   yi)
  (yY (e2 za đb ĵe))))
def gV:Á D->É ä:=FR 2 2 z1i
def Ff:FS:=
 (yY (JX (e2 za (e1 (xv [à] þb) ý) (e1 (xv [à] ģb) ý)) (e2 za (e2 zH Ùk ĝ) (xz ïp))))
def uv:Á D->É ä:=FR 1 1 Ff
def z56(a:D):uv [a]=yM 1 Ff [a]:=rfl
def LG:yZ:=
 (xW (ZN (Yf (tE ϫk))
   ϴh
   ZO)
  (xW (tM 1 (ju Ùk))
  (xW (jR (pQ jg (jD 0 Äe (wH đb vM))))
  (xW (pW 0 [] [à] þb (ju (jJ (tE (zg gV (zB Ϸe (Α đb)))) Ϥm ŕg)))
  (xW (Hn 0 [] [à] ϙc ĸ)
  ŀn)))))
def j8:FM:=vo 1 2 LG
def dq(a:M):j8 [a]=wZ 1 2 LG [a]:=rfl
abbrev pJ:Á Ĺ:=[.inr ϭ,.inr àa,.inr åa]
nonrec def Zc(a b c:Ï):D:=.dic pJ ĸc
def st(ws:Á D)(a b c:Ï)(hk:Á Ĺ)(hv:Á D):M:=.obj Ļ Ĥf [.own ϴi,.own ůc,.own Žb]
def jv(ws:Á D)(a b c:Ï)(hk:Á Ĺ)(hv:Á D):D:=.obj Ļ Ĥf [.lst ws,Zc a b c,.dic hk hv]
abbrev J5:Á Ç:=[ōa,ģb,Ůb,ác,ůa,þb,ϙc]
nonrec def xB(T:D)(e:Æ)(fw fh:D)(s:M)(due done:Æ):M:=.obj à J5 [.fz T,.fz ãg,.fz fw,.fz fh,s,.fz Ųf,.fz (.int done)]
nonrec def wy(T:D)(e:Æ)(fw fh:D)(s:D)(due done:Æ):D:=.obj à J5 [T,.int e,fw,fh,s,.int due,.int done]
section
variable{ws ws':Á D}{a b c d':Ï}{hk hk':Á Ĺ}{hv hv':Á D}{T fw fh sd:D}{e due done:Æ}{s s':M}
def p7:vJ Ûc=jv ws a b c hk hv:=by simp only[st,jv,vJ,ϩc]
theorem Xv:vJ Ųd=wy T e fw fh (vJ s) due done:=by simp only[xB,wy,vJ,ϩc]
theorem Wt{i:Â}{π:Á xt}:gZ Ûc i π=.p i π:=rfl
def gc:pP Ûc żm=À (.own ϴi):=rfl
def JO:pP Ûc Žm=À (.own (.dic pJ ĸc)):=rfl
def bf:pP Ûc ńc=À (.own Žb):=rfl
def kE:pf Ûc żm (.own (.lst ws'))=À (st ws' a b c hk hv):=rfl
def mC:pf Ûc ńc (.own (.dic hk' hv'))=À (st ws a b c hk' hv'):=rfl
def Ic{x y z:Ï}:pf Ûc Žm (.own (.dic pJ [.bl x,.bl y,.bl z]))=À (st ws x y z hk hv):=rfl
def jL:xv [Ļ] àb āh=À ϴi:=rfl
def Ef:xv [Ļ] ßb āh=À ůc:=rfl
def Ee:xv [Ļ] ða āh=À Žb:=rfl
def RP:zH ůc Ŧc=À (.bl a):=rfl
def x4d:zH ůc āe=À Şb:=rfl
def x4e:zH ůc Ĳf=À (.bl c):=rfl
def MZ:w8 pJ ųo=pJ:=rfl
def y6m:w8 pJ Ųo=pJ:=rfl
def y6n:w8 pJ űo=pJ:=rfl
def Mg:wA pJ ñh ųo āj=[.bl d',.bl b,.bl c]:=rfl
def y77:wA pJ ñh Ųo āj=[.bl a,.bl d',.bl c]:=rfl
def y78:wA pJ ñh űo āj=[.bl a,.bl b,.bl d']:=rfl
def bg:pP Ųd Äe=À s:=rfl
def mD:pf Ųd Äe s'=À (xB T e fw fh s' due done):=rfl
def Eg:xv [à] ōa Âd=À T:=rfl
def dI:xv [à] ģb Âd=À ãg:=rfl
def Je:xv [à] ůa Âd=À sd:=rfl
def Ln:xv [à] þb Âd=À Ųf:=rfl
def dL:g8 (.fz (.int d2)) Ĩn 0 [] [à] þb=À (Ξ (xB T e fw fh s d2 done)):=rfl
def bh:Hn 0 [] [à] ϙc ĸ Ĩn=À (Ξ (xB T e fw fh s due (done+1))):=rfl
def L9(h:fo τ=À Âd)(a:m ∉ J5)(b:fs τ=À ds):pO à m fo fs τ=À (wy T e fw fh sd due done::ds):=by unfold pO;rw[h];exact(match decide ((à : Ç) = à)&&!(decide (m∈J5))with|Ã=>_|Ä=>_)=_;rw[ù (show(à : Ç) = à from rfl),Ĕ a];exact(fs τ).bind _=_;rw[b];rfl
#print a
nonrec def wI(ns:Á Æ):Á D:=Ða Ě
def kR{ns:Á Æ}{k:Â}{v:Æ}:(ņd).set k Ϣb=wI (ns.set k v):=(ßi ..).symm
def jY{ns:Á Æ}:(ņd).length=Ŝ:=å ..
def gu{n k:Â}(h:k<n):Ϻb n (k:Æ)=À k:=by unfold Ϻb;rw[Ð Āg];simp[h]
theorem qm{ns:Á Æ}{k:Â}{v:Æ}(h:ns[k]?=À v):zH (Β ņd) ěf=À Ϣb:=by exact uP ņd (k:Æ)=_;unfold uP;rw[Ð Āg];exact ņd[((k:Æ)).toNat]?=_;rw[ē];unfold wI;rw[ņ,h];rfl
def cg:z7 0 (À (Ä,wy T e fw fh sd due done)::τ)=À Âd:=rfl
def R8{T fw fh sd row nx tg:D}{e due done:Æ}{k:Ï}(h:due≠e->zH T Ųf=À ğh/\za row Ųb=À Ŋd) :uv ϸk=À (Ä,.bl (decide (due=e)||k))\/due=e/\uv ϸk=À (Ä,.bl Ã):=by
 let b:∀{i j:Æ},za Áa ďc=À ão:=λ{i j}=>by rw[Äq]
 let d:∀{x y z:D},zH Řc Ź=À x:=rfl;rw[z56];unfold Ff;by_cases c:due=e;right
 show{c,?_};simp only[Ö,Ln,dI,b,c,ϐb];left
 let{g,f}:=h c;let a:decide (due=e)=Ä:=Ĕ c;rw[a];simp only[Ö,Ln,dI,Eg,b,a,g,d,f];rfl
def x24{T fw fh row tg:D}{e due done:Æ}{s s':M}{nx:D}{f:Æ}(c:due≠e)(g:zH T Ųf=À ğh)(t:za row Ųb=À Ā)(n:u8 ğh=Ã)(ns:∀d,s≠.fz d)(o:jg [s,.fz row]=À ([s',.fz row],.fz .zP))(ld:Ï)(i:gV [vJ s',row]=À (Ä,.bl ld))(m:(if ld then tg else nx)=.int f) :j8 ϵg=À ([xB T e fw fh s' f (done+1)],.fz Ĭ):=by
 let q:uv ϝe=À (Ä,.bl Ä):=by rcases R8 (T:=T) (fw:=fw) (fh:=fh) (sd:=vJ s) (row:=row) (nx:=nx) (tg:=tg) (e:=e) (due:=due) (done:=done) (k:=Ä) λ_=>{g,t}with z|⟨z,_⟩;rw[z,Ĕ c];rfl;show Ý z c
 let j:∀{x y z:D},zH Řc Ź=À x:=rfl;let l:∀{x y z:D},zH Řc Ąa=À y:=rfl;let r:∀{x y z:D},zH Řc Űa=À z:=rfl
 let h:gZ s 0 Äe=.p 0 Äe:=by
  cases s with
  |fz d=>show Ý rfl (ns d)|_=>rfl
 let a:∀τ:zu,pO à Ŕb ý zF Ćk=À ϝe:=λτ=>L9 cg ϵ rfl
 rw[dq];unfold LG;cases ld with
 |Ä=>have b:nx=.int f:=m;subst b;simp only[ń,Xv,a,q,Eg,Ln,g,n,j,l,r,bg,mD,h,o,Je,i,dL,bh]|Ã=>have b:tg=.int f:=m;subst b;simp only[ń,Xv,a,q,Eg,Ln,g,n,j,l,r,bg,mD,h,o,Je,i,dL,bh]
theorem kO{x y z:D}:zH Řc Ź=À x:=rfl
def Zd{x y z:D}:zH Řc Ąa=À y:=rfl
def Ze{x y z:D}:zH Řc Űa=À z:=rfl
def Wx{x y:D}:zH ąd Ź=À x:=rfl
def Wy{x y:D}:zH ąd Ąa=À y:=rfl
def Ϟc{i j:Æ}:za Áa ďc=À ão:=by rw[Äq]
theorem VG{x:Ç}:uU Ϭb=À äg:=rfl
def II:decide (3<yV)=Ã:=by decide
section
variable{Ws:Á Æ}{a b c:Ï}{hk:Á Ĺ}{hv:Á D}
def z44{d:Â}{n:Æ}(e:d<Ŋa):Qm [st ŋ a b c hk hv,.fz Źg]=À ([st (wI (ϟc d n)) a b c hk hv,.fz Źg],.fz .zP):=by rw[z5m];unfold Fy;simp only[ń,kO,Zd,Ze,gc,kE,jY,gu e,kR]
theorem cq{d s:Â}{v:Æ}(f:d<Ŋa)(e:Ws[s]?=À v):Qi [st ŋ a b c hk hv,.fz ŭg]=À ([st (wI (ϟc d v)) a b c hk hv,.fz ŭg],.fz .zP):=by rw[z5i];unfold Fu;simp only[ń,p7,jL,qm e,kO,Zd,Ze,gc,kE,jY,gu f,kR]
theorem VL{w:Æ}{g:Æ}(h:wv Ùc=À (Ä,.int g)):Wa [st ŋ a b c hk hv,.fz âg]=À ([st ŋ a (decide ŧb) (decide ũd) hk hv,.fz âg],.fz .zP):=by rw[z6d];unfold CP;simp only[ń,p7,h,Ϟc,VG,JO,Ic,II,y6m,y6n,y77,y78]
theorem z41{d:Â}{n v w:Æ}(e:Ws[d]?=À v)(h:Wg [.int v,.int 16,.int 16,.int n]=À (Ä,.int w)):Qj [st ŋ a b c hk hv,.fz Űg]=À ([st ϯd a b c hk hv,.fz Űg],.fz .zP):=by let f:d<Ŋa:=Ŋe.1;rw[z5j];unfold Fv;simp only[ń,p7,jL,qm e,h,kO,Zd,Ze,gc,kE,jY,gu f,kR]
theorem z47{k:Ç}{d s:Â}{x y w g:Æ}{u:Ï}(e:vG Ϯb Øb=À Ĭ)(f:Ws[d]?=À x)(i:Ws[s]?=À y)(h:Z9 ϡg=À (Ä,.tup Żh))(l:wv Ùc=À (Ä,.int g)) :gU ϗk=À ([st ϯd u (decide ŧb) (decide ũd) hk hv,.fz ćb],.fz .zP):=by let j:d<Ŋa:=Ćg.1;rw[dv];unfold LI;simp only[ń,p7,jL,Ef,RP,qm f,qm i,h,kO,Zd,Ze,Wx,Wy,VG,JO,Ic,II,MZ,Mg,VL l,Wt,e,gc,kE,jY,gu j,kR]
theorem gg{k:Ç}{d s:D}{F:FM}{S a:M}(f:V0 jI Ϯb=À Ĭ)(e:ċ jI JW åg=À F)(c:∀d,S≠.fz d)(g:u8 d=Ã)(i:u8 s=Ã)(h:F Øo=À (Òo,.fz .zP)) :jg Øo=À (Òo,.fz .zP):=by
 rw[Eu];unfold JP
 let b:gZ S 0 []=.p 0 []:=by
  cases S with
  |fz d=>show Ý rfl (c d)|_=>rfl
 simp only[ń,kO,f,VG,e,b,h]
theorem qV{ws:Á D}:∀d,st ws a b c hk hv≠.fz d:=λd h=>by cases h
#print a
section
variable{Ws:Á Æ}{a b c:Ï}{hk:Á Ĺ}{hv:Á D}
def z40{k:Ç}{d s:Â}{x y w g:Æ}(e:Ws[d]?=À x)(f:Ws[s]?=À y)(h:Uc [.str k,.int x,.int y]=À (Ä,.int w))(j:wv Ùc=À (Ä,.int g)) :X4 ϗk=À ([st ϯd a (decide ŧb) (decide ũd) hk hv,.fz ćb],.fz .zP):=by let i:d<Ŋa:=Ŋe.1;rw[z5h];unfold Fq;simp only[ń,p7,jL,qm e,qm f,h,kO,Zd,Ze,VL j,Wt,gc,kE,jY,gu i,kR]
theorem cr{k:Ç}{d:Â}{x n w g:Æ}(f:Ws[d]?=À x)(t:Ï)(e:za Ϯb Ľc=À (.bl t))(h:ãk=À (Ä,.tup [.int w,.zP]))(j:wv Ùc=À (Ä,.int g)) :WT ϖk=À ([st ϯd a (decide ŧb) (decide ũd) hk hv,.fz Ťg],.fz .zP):=by
 rw[ýq];cases t with
 |Ä=>rw[Ñ Ò]at h;simp only[ń,p7,jL,qm f,e,h,kO,Zd,Ze,Wx,Wy,VL j,Wt,gc,kE,jY,gu i,kR]|Ã=>rw[Ð rfl]at h;simp only[ń,p7,jL,qm f,e,h,kO,Zd,Ze,Wx,Wy,VL j,Wt,gc,kE,jY,gu i,kR]
theorem cv{k:Ç}{d:Â}{x n w g:Æ}{u:Ï}(f:Ws[d]?=À x)(t:Ï)(e:za Ϯb Ľc=À (.bl t))(h:ãk=À (Ä,.tup Żh))(j:wv Ùc=À (Ä,.int g)) :WT ϖk=À ([st ϯd u (decide ŧb) (decide ũd) hk hv,.fz Ťg],.fz .zP):=by
 rw[ýq];cases t with
 |Ä=>rw[Ñ Ò]at h;simp only[ń,p7,jL,qm f,e,h,kO,Zd,Ze,Wx,Wy,VG,JO,Ic,II,MZ,Mg,VL j,Wt,gc,kE,jY,gu i,kR]|Ã=>rw[Ð rfl]at h;simp only[ń,p7,jL,qm f,e,h,kO,Zd,Ze,Wx,Wy,VG,JO,Ic,II,MZ,Mg,VL j,Wt,gc,kE,jY,gu i,kR]
#print a
inductive qG:D->È
 |Ϣ:qG Ųb
 |Yt {w:Ç} {d n:Æ} (hw:w = ŏ \/ w = ób) (d0:0<=d) (d1:d<8) (n0:0<=n) (n1:n<65536):qG ϐk
 |two {w:Ç} {d s:Æ} (hw:w = ϰ \/ w = ĸa \/ w = Ċa \/ w = ķa \/ w = ĉa \/ w = ϊa \/ w = ώa \/ w = Àb \/ w = ôa) (d0:0<=d) (d1:d<8) (s0:0<=s) (s1:s<8):qG (.tup Ċl)
 |Yv {w:Ç} {d n:Æ} (hw:w = įa \/ w = ĕa) (d0:0<=d) (d1:d<8) (n0:0<=n) (n1:n<32):qG ϐk
 |mem {w:Ç} {d s n:Æ} (hw:w = ŕa \/ w = ėa \/ w = Ŏa \/ w = ēa) (d0:0<=d) (d1:d<8) (s0:0<=s) (s1:s<8) (n0:0<=n) (n1:n<256):qG (.tup [.str w,.int d,.int s,.int n])
inductive FH(m:Æ):D->È
 |wc {p:Æ} (p0:0<=p) (p1:p<=m):FH m (.tup [.str ća,.int p])
 |Ő {w k:Ç} {p:Æ} (hw:w = ϧ \/ w = ϑ) (hk:k = ϭ \/ k = àa \/ k = åa) (p0:0<=p) (p1:p<=m):FH m (.tup [.str w,.str k,.int p])
def z0w(m:Æ)(d:D):È:=qG d\/FH m d
nonrec def vh:D->Ï
 |.tup Ģi=>w == ća || w == ϧ || w == ϑ|_=>Ä
def fP:D->D
 |.tup xs=>(uP xs (-1)).getD .zP|_=>.zP
nonrec def z81:D:=.tup Ϙk
theorem VV(h:qG d):∃w,zH d Ź=À Ř/\xM Ř z81=À Ā/\za Ř Àd=À Ā/\vh d=Ä/\qq 5 d=Ã:=by
 cases h with
 |Ϣ=>show{_,rfl,rfl,rfl,rfl,rfl}|Yt hw=>rcases hw with rfl|rfl<;>show{_,rfl,rfl,rfl,rfl,rfl}
 |two hw=>rcases hw with rfl|rfl|rfl|rfl|rfl|rfl|rfl|rfl|rfl<;>show{_,rfl,rfl,rfl,rfl,rfl}
 |Yv hw=>rcases hw with rfl|rfl<;>show{_,rfl,rfl,rfl,rfl,rfl}
 |mem hw=>rcases hw with rfl|rfl|rfl|rfl<;>show{_,rfl,rfl,rfl,rfl,rfl}
nonrec def zi:D->Ï
 |.tup Ģi=>w == çg|_=>Ä
nonrec def xm(t:Ç):D:=.tup [.str çg,.str t]
theorem Ms(h:z0w m d):∃w,zH d Ź=À Ř/\za Ř Àd=À Ā/\zi d=Ä/\qq 5 d=Ã:=by
 rcases h with h|h;cases h with
 |Ϣ=>show{_,rfl,rfl,rfl,rfl}|Yt hw=>rcases hw with rfl|rfl<;>show{_,rfl,rfl,rfl,rfl}
 |two hw=>rcases hw with rfl|rfl|rfl|rfl|rfl|rfl|rfl|rfl|rfl<;>show{_,rfl,rfl,rfl,rfl}
 |Yv hw=>rcases hw with rfl|rfl<;>show{_,rfl,rfl,rfl,rfl}
 |mem hw=>rcases hw with rfl|rfl|rfl|rfl<;>show{_,rfl,rfl,rfl,rfl}
 cases h with
 |wc=>show{_,rfl,rfl,rfl,rfl}|Ő hw hk=>rcases hw with rfl|rfl<;>rcases hk with rfl|rfl|rfl<;>show{_,rfl,rfl,rfl,rfl}
nonrec def Xc(t:Ç):D->Ï
 |.tup [_,.str u]=>u==t|_=>Ä
def vX(t:Ç)(s:Â×É Â)(d:D):Â×É Â:=match zi d with
 |Ã=>(s.1,match Xc t d with
  |Ã=>À s.1|Ä=>s.2)
 |Ä=>(s.1+1,s.2)
def xG(t:Ç)(L:Á D):Â×É Â:=Ĝj şe (0,Å)
def VW(t:Ç)(L:Á D)(d:D):xG t čc=vX t Ϫa d:=by unfold xG;rw[Īh];rfl
theorem KN(t:Ç):∀(L:Á D)(s:Â×É Â),äd.1=s.1+(łh).length
 | [],_=>rfl|d::L,s=>by
  rw[Ìa,KN t L];unfold vX;cases h:zi d with
  |Ã=>rw[ša (by rw[h];decide)]|Ä=>rw[Ša (by rw[h];rfl),Ĉ];exact s.1+1+_=_;omega
def lI(t u:Ç)(L:Á D):(xG t (L++[xm u])).2=if u=t then À (łh).length else Ϫa.2:=by rw[VW];let h:=KN t L (0,Å);exact(match Ŷj with|Ã=>À Ϫa.1|Ä=>Ϫa.2)=_;by_cases e:u=t;rw[Ð e,źb e];exact À Ϫa.1=_;rw[show Ϫa.1=_ from h,ĺ];rw[Ñ e,Êb e]
theorem lK{t:Ç}{L:Á D}{d:D}(h:zi d=Ä):(xG t čc).2=Ϫa.2:=by rw[VW];unfold vX;rw[h]
theorem Wr{L:Á D}{r:D}(h:Àa<=1000):uR (.lst L) r=À (Β (L++[r])):=by exact(if Àa<yV then _ else _)=_;rw[Ð (by rw[Ňp])]
inductive xL:D->È
 |Ĝa (t:Ç):xL Řd
 |Æa {d:D}:qG d->xL d
 |wc (t:Ç):xL ťc
 |Ő {w k:Ç} (t:Ç) (hw:w = ϧ \/ w = ϑ) (hk:k = ϭ \/ k = àa \/ k = åa):xL Čd
def Jz(h:xL d):∃w,zH d Ź=À Ř/\za Ř Àd=À (.bl (zi d))/\qq 5 d=Ã:=by
 cases h with
 |Ĝa=>show{_,rfl,rfl,rfl}|Æa h=>let{w,a,b,c,e}:=Ms (m:=0) Śb;show{w,a,by rw[c];show b,e}
 |wc=>show{_,rfl,rfl,rfl}|Ő t hw hk=>rcases hw with rfl|rfl<;>rcases hk with rfl|rfl|rfl<;>show{_,rfl,rfl,rfl}
theorem cz{R:D->D->È}:∀{xs ys:Á D},Zt R xs ys->ì=Ś
 |_,_,.nil=>rfl|_,_,.cons _ r=>by rw[Ĉ,Ĉ,cz r]
theorem JY{R:D->D->È}:∀{xs ys:Á D},Zt R xs ys->∀y∈ys,∃x∈xs,R x y
 |_,_,.nil,_,h=>by cases h|x::xs,y::ys,.cons r rs,z,hz=>by rcases ħ hz with rfl|hz;show{x,Ĝ ..,r};let{w,a,h}:=JY rs z hz;show{w,Ű _ a,h}
theorem c_{R:D->D->È}:∀{xs ys:Á D},ì=Ś->(∀(i:Â) x y,xs[i]?=À x->ys[i]?=À y->R x y)->Zt R xs ys
 | [],[],_,_=>.nil| [],_::_,h,_=>by cases h|_::_,[],h,_=>by cases h|x::xs,y::ys,h,r=>.cons (r 0 x y rfl rfl) (c_ üa λi a b c d=>r î a b Ýc (by simpa using d))
inductive jj(N:Á Ç):D->È
 |Æa {d:D}:qG d->jj N d
 |wc {t:Ç} (ht:t∈N):jj N ťc
 |Ő {w k t:Ç} (hw:w = ϧ \/ w = ϑ) (hk:k = ϭ \/ k = àa \/ k = åa) (ht:t∈N):jj N Čd
def Ox(N:Á Ç)(d:D):È:=jj N d\/∃t∈N,d=xm t
def Kw{N:Á Ç}{d:D}(h:jj N d):xL d/\zi d=Ä:=by
 cases h with
 |Æa h=>let{_,_,_,l,_}:=Ms (m:=0) Śb;show{.plain h,l}
 |wc ht=>show{.wc _,rfl}|Ő hw hk ht=>show{.cond _ hw hk,by rcases hw with rfl|rfl<;>rfl}
def z7s{N:Á Ç}{d:D}(h:Ox N d):xL d:=by rcases h with h|⟨t,_,rfl⟩;show(Kw h).1;show .label t
nonrec def pD(p:Æ×Æ):D:=.tup [.int p.1,.int p.2]
structure pK(ps:Á į):È where
 ad:∀p∈ps,0<=p.1/\p.1<65536
 jf:∀p∈ps,0<=p.2/\p.2<256
 nd:(ϟ (·.1)).Nodup
def C5:FS:=
 (zR (yS (kN (tE (XR .bool ý)) (ι (XR .int ý)))
   (yY Đf)
   yi)
  (yY (XQ (e2 (ςb (i<=j)) ĝ ý) (e2 įc ý (e2 vg ĸ û)))))
def Z7:Á D->É ä:=FR 2 2 C5
def z5u(b a:D):Z7 ą=yM 2 C5 ą:=rfl
def C2:FS:=
 (yY (zg Z7 (ξa îp)))
def Qq:Á D->É ä:=FR 1 1 C2
def z5r(a:D):Qq [a]=yM 1 C2 [a]:=rfl
def C6:FS:=
 (zR (yS (kN (ι (XR .tuple ý)) (tE (e2 vG ād ϑa)))
   (yY Đf)
   yi)
  (yY (XQ (zg Qq (Α Ķb)) (zg Z7 (zB èh ĕf)))))
def Qr:Á D->É ä:=FR 1 1 C6
def z5v(a:D):Qr [a]=yM 1 C6 [a]:=rfl
def HW:FS:=(zR (yS (ι (zg Qr ëc))
     úc
     yi)
    (zR (yS (tE (e2 xM Çe (tV 1)))
     úc
     yi)
    (jV 1 Çe Ŧh)))
def Fn:FS:=
 (zR (t4 1 Ńc)
  (zR (yS ŭl
   Ÿj
   yi)
  (zR (yS şl
   úc
   yi)
  (zR (qy Ϩb Ĝc
   HW)
  Ÿj))))
def WS:Á D->É ä:=FR 1 3 Fn
def z5d(a:D):WS [a]=yM 3 Fn [a]:=rfl
def Ru:FE:=(zg Z7 (Ο íp))
def Cs:FS:=
 (zR (yS ŭl
   (vY (e2 T4 ńh Őb))
   yi)
  (zR (yS (kN şl (tE (e2 vG ād Őb)))
   úc
   yi)
  (zR (yS (ι (eL ES (Α (wK 1 Ϩb ϱa xY Ru))))
   úc
   yi)
  (vY (eL V1 ϣ)))))
def J3:Á D->É ä:=FR 1 1 Cs
def z71(a:D):J3 [a]=yM 1 Cs [a]:=rfl
def C4:FS:=
 (yY (e2 za Ķb ĳd))
def X5:Á D->É ä:=FR 1 1 C4
def z5t(a:D):X5 [a]=yM 1 C4 [a]:=rfl
def C3:FS:=
 (yY (e2 xM Ķb (eC Lv)))
def WV:Á D->É ä:=FR 1 1 C3
def z5s(a:D):WV [a]=yM 1 C3 [a]:=rfl
def sI:FE:=û
def R_:FT:=(ι (zg X5 Ëb))
def Cf:FS:=
 (vY (wK 1 Ϩb ϱa R_ sI))
def uN:Á D->É ä:=FR 1 1 Cf
def z6q(a:D):uN [a]=yM 1 Cf [a]:=rfl
def MD:FS:=(yS (tE (zg X5 øc))
     (jV 1 ţh Ĵ)
     (yF 2 (e2 Ĉf Ĵ ĸ)))
def C8:FS:=
 (zR (t4 1 Ńc)
  (zR Ōi
  (zR (qy Ϩb Ĥb
   MD)
  Ÿj)))
def WX:Á D->É ä:=FR 1 4 C8
def z5x(a:D):WX [a]=yM 4 C8 [a]:=rfl
def Rq:FE:=(jJ (tE (zg WV ëc)) (e2 zH û (e2 zH Ĵ Đd)) őb)
def Cj:FS:=
 (zR (yF 1 ÿo)
  (vY (wK 1 (w_ ϳd) Ĝc xY Rq)))
def ZA:Á D->É ä:=FR 1 2 Cj
def z6t(a:D):ZA [a]=yM 2 Cj [a]:=rfl
def Hb:FS:=(jV 2 Ī (xz (zB (e2 zH û Ī) (zB ċf ϝf))))
def Cg:FS:=
 (zR Ťf
  (zR (t4 2 Ńc)
  (zR (qy Ŋh èj
   Hb)
  ŷj)))
def Q_:Á D->É ä:=FR 1 5 Cg
def z6r(a:D):Q_ [a]=yM 5 Cg [a]:=rfl
def Fa:yZ:=
 (xW (pW 0 [] [à] ůa (JU Ļ UW (jD 0 ſm (jD 0 žm vM))))
  (xW (pW 0 [] [à] þb çj)
  (pW 0 [] [à] ϙc çj)))
def Y_:FM:=vo 1 1 Fa
def z51(a:M):Y_ [a]=wZ 1 1 Fa [a]:=rfl
def FZ:yZ:=
 (xW (pW 0 [] [à] ōa (wO û))
  (xW (pW 0 [] [à] ģb æj)
  (xW (pW 0 [] [à] Ůb (wO (wQ J3 øc)))
  (xW (pW 0 [] [à] ác (wO (wQ WS ϝf)))
  (jR (ge à Ľe 0 [] Y_ vM))))))
def UV:FM:=vo 5 5 FZ
def z50(b a c d x4:M):UV Ĵf=wZ 5 5 FZ Ĵf:=rfl
def Fg:yZ:=
 (xW (tM 4 (wO (wQ Q_ Ëb)))
  (jR (pQ UV (jD 0 [] (wH ŝ (wH (eL EV ϝf) (wH Ĵ (wH Ī vM))))))))
def Z6:FM:=vo 4 5 Fg
def z57(b a c d:M):Z6 Ğd=wZ 4 5 Fg Ğd:=rfl
theorem z9k(P:Â->yL->È):∀{ds:Á D}{β:yL}(n:Â),P n β->(∀i d β,ds[i]?=À d->P (n+i) β->∃β1 β2,g d β=À β1/\b β1=À œb/\P Łj β2)->
  ∃β',jy g b ds β=À (.nx β')/\P ŀj β'
 | [],β,n,h,_=>{β,rfl,h}|d::ds,β,n,h,ļa=>by
  let{β1,β2,e1,e2,s}:=ļa 0 d β rfl h
  let{β',o,r}:=z9k P (ds:=ds) (β:=β2) ģ s λi j τ p e=>by let{a,k,q,c,l}:=ļa î j τ (by simpa using p) (by rw[Ϲp];show e);show{a,k,q,c,by rw[ϙp];show l}
  show{β',?_,by rw[ϒp];show r};exact((g d β).bind λβ1=>(ďg).bind λf=>match f with|.nx β2=>jy g b ds β2|.ct β2=>jy g b ds β2|.bk β2=>À œb|.rt m β2=>À ģi)=_;rw[e1];exact(ďg).bind _=_;rw[e2];show o
def KA{i:Æ}{w:Â}(d:w<=64):Z7 [.int i,.int (w:Æ)]=À (Ä,.bl (decide Ũe&&decide (i<2 ^ w))):=by
 let b:qu 1 (w:Æ)=Ã:=by unfold qu;rw[ù Ê,ù Ê];rfl
 let e:vg Ąa Ěf=À ġn:=by rw[Ãq];rw[b];exact À ϟe=_;rw[ē,ìe]
 rw[z5u];unfold C5;by_cases c:0<=i;let a:decide Ũe=Ã:=ù c;rw[a];simp only[Ö,a,b,ē,ìe];let a:decide Ũe=Ä:=Ĕ c;rw[a];simp only[Ö,a,ďf]
theorem x7v{Ws:Á Æ}(h:Ŋa=8)(j:∀w∈Ws,0<=w/\w<4294967296):J3 Šf=À (Ã,.lst ŋ):=by
 let e:xi ϱa xY Ru [À (Ä,.lst ŋ),Å] ŋ=À ((ŋ).map λ_=>.bl Ã):=YJ (λ_=>.bl Ã) λd m=>by
  let{w,c,rfl}:=ϫ m;rw[šp];let{a,b}:=j w c;let g:=KA (i:=w) (w:=32) Ò;let f:(2:Æ) ^ 32=4294967296:=by decide
  rw[f,ù a,ù b]at g;unfold Ru;simp only[Ö,show Z7 [.int w,.int 32]=À (Ä,.bl Ã)from g]
 let e2:(ŋ).map (λ_=>øa Ã)=(Ņ 8 Ã).map øa:=by unfold wI;rw[îa,čh,<-h,<-List.map_const'];rfl
 let n:ES [.lst [.bl Ã,.bl Ã,.bl Ã,.bl Ã,.bl Ã,.bl Ã,.bl Ã,.bl Ã]]=À Ĭ:=rfl;rw[e2]at e;let l:V1 Šf=À Đa:=rfl
 let k:vG (.int ((ŋ).length:Æ)) ßa=À Ā:=by rw[jY,h];rfl
 rw[z71];unfold Cs;simp only[Ö,k,e,n,l]
nonrec def kP(ps:Á į):Á Ĺ:=ϟ λp=>.inl p.1
nonrec def vP(ps:Á į):Á D:=ϟ λp=>.int p.2
def HB:xA İ Ğb=decide (a∈ϟ (·.1)):=by
 unfold xA kP;rw[ài,Œc,ĉh,ŋm]
 rw[ϱp];rintro⟨p,b,e⟩;let c:=š e;show ňc {p,b,çc c};intro h;let{p,b,e}:=ϫ h;show{p,b,ù (Ŧ ı e)}
def m9(h:a ∉ ϟ (·.1)):w8 İ Ğb=kP Ķn/\wA İ ū Ğb (.int b)=vP Ķn:=by
 let c:xA İ Ğb=Ä:=by rw[HB];show Ĕ h
 unfold w8 wA;rw[Ñ Įm,Ñ Įm];unfold kP vP;rw[Ĩa,Ĩa];show{rfl,rfl}
def y5c{p:Æ×Æ}(d:0<=p.1/\p.1<65536)(b:0<=p.2/\p.2<256):Qr [pD p]=À (Ä,.bl Ã):=by
 let a:=KA (i:=p.1) (w:=16) Ò;rw[ù d.1,ù (show p.1<2 ^ 16 from d.2)]at a;let c:=KA (i:=p.2) (w:=8) Ò;rw[ù b.1,ù (show p.2<2 ^ 8 from b.2)]at c;let f:Z7 [.int p.1,.int 16]=À (Ä,.bl Ã):=a;let e:Z7 [.int p.2,.int 8]=À (Ä,.bl Ã):=c
 let g:Qq [.int p.1]=À (Ä,.bl Ã):=by rw[z5r];unfold C2;simp only[Ö,f]
 let h:vG (.int ((0+1+1:Â):Æ)) Űa=À Ā:=rfl;rw[z5v];unfold C6 pD;simp only[Ö,Wx,Wy,g,e,h]
theorem z26{ps:Á į}(P:pK ps)(v:ğ<=1000):WS [.lst Ąc]=À (Ã,.dic İ ū):=by
 let{σ',e1,x,rfl}:=gx (g:=zt 2) (b:=HW) (λi σ=>∃x:É Sl,σ=[À (Ä,.lst Ąc),À (Ã,.dic Ĳe (vP ϥd)),x])
  (ds:=ϟ pD) (σ:=[À (Ä,.lst Ąc),À (Ã,.dic [] []),Å]) 0 {Å,rfl} λi d σ f a=>by
   let{x,rfl}:=a;rw[ĺ];let e:i<ğ:=by let:=Ćg.1;rw[å]at this;rw[Œp]
   rw[ņ,Ē e]at f;cases f;generalize a:ps[i]=p;let j:p∈ps:=a▸ŷb e;let t:=y5c (P.ad p j) (ąb p j);let o:Ťi î=Ťi i++[p]:=by rw[Ïc e,a]
   let c:p.1 ∉ (ϥd).map (·.1):=by
    let l:=ĩc
    have e2:ϟ (·.1)=(ϥd).map (·.1)++p.1::(ps.drop î).map (·.1):=by rw[<-a,<-ľ,<-Űb e,<-Ĩa,ϒa]
    rw[e2,Ďm]at l;intro z;show l.2.2 _ z _ Ĝ rfl
   let h:xM Űf (.dic Ĳe (vP ϥd))=À Ā:=by exact((uU Űf).bind λk=>À (xA Ĳe k)).bind _=_;exact À (øa (xA Ĳe ŵo))=_;rw[HB,Ĕ c]
   let{q,u}:=m9 (b:=p.2) c;let r:(Ĳe).length<yV:=by unfold kP;rw[å,Ýa];rw[Ňp]
   show{_,[À (Ä,.lst Ąc),À (Ã,.dic (kP Ép) (vP Ép)),À (Ä,pD p)],rfl,.inl ?_,_,rfl};rw[o];unfold HW;let s:zH (pD p) Ź=À Űf:=rfl;let n:zH (pD p) Ąa=À (.int p.2):=rfl;let m:uU Űf=À ŵo:=rfl;rw[<-q,<-u];simp only[Ö,t,s,n,h,jV,m,Ð r]
 rw[ĺ,å,Ňc]at e1;rw[z5d];unfold Fn;simp only[Ö,e1]
def FP(r:D):È:=X5 [r]=À (Ä,.bl Ä)/\WV [r]=À (Ä,.bl Ä)
nonrec def tu(n:Â):Á Ĺ:=(ġb).map λk:Â=>.inl (k:Æ)
theorem dY{g:Â->D}{k:Â}:∀{xs:Á Â},k∈xs->ċ (Ėc λk:Â=>(.inl (k:Æ):Sum Æ Ç)) (Ėc g) (.inl (k:Æ))=À (g k)
 | [],h=>Ý h ó|x::xs,h=>by rw[ľ,ľ];unfold ċ;by_cases c:x=k;rw[Ð řo,c];rw[Ñ (λz=>c Ņl)];show dY Ők
def r9:xA ĳg úd=Ä:=by unfold xA tu;rw[ài,đm];intro k a;let:=ϫd a;exact ¬ decide ((.inl (k:Æ):Sum Æ Ç)=.inl (n:Æ))=Ã;rw[ĉh];intro z;let:=çc z;omega
def x23{Ws:Á Æ}{hk:Á Ĺ}{hv:Á D}:UW [.obj Ļ [] [],.fz Đa,.fz Žb]=À ([st ŋ Ä Ä Ä hk hv,.fz Đa,.fz Žb],.fz .zP):=by let e1:xi Ĥb xY sD [Å,À (Ä,.lst ŋ),À (Ä,.dic hk hv),Å] Jj=À ϳj:=rfl;let e2:W_ [.lst ϳj]=À (Zc Ä Ä Ä):=rfl;let e:V1 Šf=À Đa:=rfl;let d:Lj [.dic hk hv]=À Žb:=rfl;let a:∀{x:M}{yC:yL},g8 x (Ω (.obj Ļ [] [])) 0 [] [Ļ] àb=À (Ξ (.obj Ļ [ăj] [x])):=rfl;let b:∀{x y:M}{yC:yL},g8 x (Ω (.obj Ļ [àb] [y])) 0 [] [Ļ] ßb=À (Ξ (.obj Ļ [ăj,"truths"] [y,x])):=rfl;let c:∀{x y z:M}{yC:yL},g8 x (Ω (.obj Ļ [àb,ßb] [y,z])) 0 [] [Ļ] ða=À (Ξ (.obj Ļ [ăj,"truths",ða] [y,z,x])):=rfl;rw[z58];unfold Fh;simp only[ń,T8,e1,e2,e,d,a,b,c];rfl
def z17{T fw fh:D}{e:Æ}{Ws:Á Æ}{hk:Á Ĺ}{hv:Á D}{fs:Á Ç}{ms:Á M}:Y_ [.obj à že Äk]=À ([xB T e Đa Žb (st ŋ Ä Ä Ä hk hv) 0 0],.fz .zP):=by let k:pP þm ſm=À (.fz Đa):=rfl;let j:pP þm žm=À (.fz Žb):=rfl;let h:∀{a b c d x:M}{yC:yL},g8 x ώg 0 [] [à] ůa=À (Ξ (.obj à Ĳl [a,b,c,d,x])):=rfl;let l:∀{a b c d f x:M}{yC:yL},g8 x (Ω (.obj à Ĳl [a,b,c,d,f])) 0 [] [à] þb=À (Ξ (.obj à Æl [a,b,c,d,f,x])):=rfl;let i:∀{a b c d f g x:M}{yC:yL},g8 x (Ω (.obj à Æl [a,b,c,d,f,g])) 0 [] [à] ϙc=À (Ξ (.obj à J5 [a,b,c,d,f,g,x])):=rfl;rw[z51];unfold Fa;simp only[ń,k,j,x23,h,l,i];rfl
def Pv{x:Æ}{n:Â}(b:0<=x)(c:x<4294967296)(a:n<=64):qu x (n:Æ)=Ã:=by unfold qu;rw[ù Ê,ù Ê,ù (show x.natAbs<2 ^ 64 by omega)];rfl
def YS{x:Æ}{l w:Â}(a:w<=64):wv [.int x,.int (l:Æ),.int (w:Æ)]=À (Ä,.int (x/2 ^ l%2 ^ w)):=by
 let c:qu 1 (w:Æ)=Ã:=Pv Ò Ò a
 let b:vg Ąa Ěf=À ġn:=by rw[Ãq];rw[c];exact À ϟe=_;rw[ē,ìe]
 let d:T5 ŝc (.int (l:Æ))=À (Ε Čp):=by exact(match decide ((0:Æ)<=(l:Æ))with|Ã=>À ſk|Ä=>Å)=_;rw[ù (Íc l)];exact À ſk=_;rw[ē]
 let e:=iu Čp w;rw[ìe]at e;rw[z6m];unfold Ca;simp only[yM,zR,yF,yY,e1,e2,z7,eC,ßc,ľ,àe,ŉc,ãc,Ĉ,Őc,Čb,ϔl,Čh,ċh,øl,öl,b,d,jK,wz,Ϧh,ϥh,Ĕn,e]
nonrec def vR(ps:Á į)(a b:Æ):Á į:=if a∈ϟ (·.1)then ϟ Ťk else ps++[(a,b)]
nonrec def gP:Á į->Æ->Æ
 | [],_=>0|p::ps,a=>if p.1=a then p.2 else gP ps a
theorem de(a:Æ):∀ps:Á į,(ċ İ ū Ğb).getD Ź=.int (gP ps a)
 | []=>rfl|p::ps=>by exact(if(ı p.1:Sum Æ Ç)=.inl a then À (Ě p.2)else ċ İ ū Ğb).getD Ź=.int (if p.1=a then p.2 else gP ps a);rw[Ĕq];rfl;rw[Ñ ŕm,Ñ h];show de a ps
theorem ZG(a:Æ):∀{ps:Á į},(∀p∈ps,0<=p.2/\p.2<256)->0<=gP ps a/\gP ps a<256
 | [],_=>{by exact(0:Æ)<=0;decide,by exact(0:Æ)<256;decide}|p::ps,h=>by
  unfold gP
  split;show h p Ĝ;show ZG a λq b=>h q Œb
theorem sK(a b:Æ):∀ps:Á į,íc (λk' x=>if k'=(ı a:Sum Æ Ç)then Ě b else x) İ ū=vP ϊg
 | []=>rfl|p::ps=>by exact(if(ı p.1:Sum Æ Ç)=.inl a then Ě b else .int p.2)::íc _ İ ū=Ě Àl.2::vP ϊg;rw[sK a b ps];rw[Ĕq];rw[Ñ ŕm,Ñ h]
theorem Ei(a b:Æ):∀ps:Á į,(ϊg).map (·.1)=ϟ (·.1)
 | []=>rfl|p::ps=>by exact Àl.1::_=p.1::_;rw[Ei a b ps];by_cases h:p.1=a;rw[Ð h,<-h];rw[Ñ h]
theorem z82(h:ϟ (·.1)=Ģb (·.1)):kP ps=kP qs:=by
 let e:∀l:Á į,kP l=(Úa (·.1)).map ı:=λl=>by rw[îa];rfl
 rw[e,e,h]
theorem nV(ps:Á į)(a b:Æ):w8 İ Ğb=kP Ōf/\wA İ ū Ğb (.int b)=vP Ōf:=by by_cases h:a∈ϟ (·.1);unfold vR w8 wA;rw[Ð h,HB,Ð (ù h),Ð (ù h),sK,z82 (Ei a b ps)];show{rfl,rfl};unfold vR;rw[Ñ h];show m9 h
def nZ{ps:Á į}{a b:Æ}(P:pK ps)(e:0<=a)(f:a<65536)(b0:0<=b)(d:b<256):pK Ōf:=by
 unfold vR;by_cases h:a∈ϟ (·.1);rw[Ð h]
 let m:∀q∈ϟ Ťk,q=(a,b)\/q∈ps:=λq c=>by let{p,g,rfl}:=ϫ c;by_cases z:p.1=a;rw[Ð z];show .inl rfl;rw[Ñ z];show .inr g
 show{λq c=>?_,λq c=>?_,?_};rcases m q c with rfl|z;show{e,f};show P.ad q z;rcases m q c with rfl|z;show{b0,d};show ąb q z;rw[Ei];show ĩc;rw[Ñ h];show{λq c=>?_,λq c=>?_,?_};rcases ż c with z|z;show P.ad q z;cases Į z;show{e,f};rcases ż c with z|z;show ąb q z;cases Į z;show{b0,d};rw[Ĩa,Ďm];refine{ĩc,by simp,λx j y i=>?_};obtain rfl:a=y:=(Į i).symm;show λz=>h (by rw[<-show x=a from z];show j)
def YW{ps:Á į}{a b:Æ}:(Ōf).length<=ğ+1:=by
 unfold vR
 split;rw[å];rw[źp]
section
variable{Ws:Á Æ}{a b c:Ï}{ps:Á į}
def bY{x n:Æ}:UY [.int x,.int n]=À (Ä,.int öd):=by
 let a:wv [.int (x+n),.int 0,.int 16]=À (Ä,.int öd):=by let:=YS (x:=x+n) (l:=0) (w:=16) Ò;rw[áe,âe]at this;rw[Œp]
 rw[z5b];unfold Fk;simp only[Ö,Ϧ,a]
theorem cD{x:Æ}:UZ ĵl=À (Ä,.int (gP ps x)):=by let a:uU ŝc=À (.inl x):=rfl;rw[z5c];unfold Fm;simp only[Ö,EK,a,de]
nonrec def Ux(x:Æ):Á D:=[.int ôc,.int óc,.int òc,.int ϒb]
theorem dO{x:Æ}:WU [.int x]=À (Ã,.lst ŧe):=by
 let b:qO ĝ ďb [À (Ä,.int x)]=À (wW 4):=kF (n:=4) rfl Ò
 let e:xi ϱa xY Bb ώd (wW 4)=À ŧe:=by
  let:=YJ (g:=zt 1) (e:=Bb) (σ:=ώd) (ds:=wW 4) (Βd (Θ (x+j))) λd a=>by let{k,_,rfl}:=ϫ a;rw[šp];unfold Bb;simp only[Ö,bY]
  rw[Œp]
 rw[z5p];unfold C0;simp only[Ö,b,e]
theorem x7l(P:pK ps){x:Æ}:J1 ĵl=À (Ä,.int (gP ps ôc+gP ps óc*256+gP ps òc*65536+gP ps ϒb*16777216)):=by
 let e:xi Ĝc xY Bf þk ŧe=À [.int (gP ps ôc),.int (gP ps óc),.int (gP ps òc),.int (gP ps ϒb)]:=by
  let:=YJ (g:=zt 2) (e:=Bf) (σ:=þk) (ds:=Ux x) (Βd (gP ps j)) λd b=>by
   obtain⟨j,rfl⟩:∃j,d=.int j:=by
    rcases ħ b with rfl|b;show{_,rfl}
    rcases ħ b with rfl|b;show{_,rfl}
    rcases ħ b with rfl|b;show{_,rfl};show{_,Į b}
   rw[šp];unfold Bf;simp only[Ö,cD]
  rw[Œp]
 let{Q,R}:=ZG ôc ąb;let{b0,E}:=ZG óc ąb;let{C,p}:=ZG òc ąb;let{q,H}:=ZG ϒb ąb;generalize gP ps ôc=g0 at *;generalize gP ps óc=g1 at *;generalize gP ps òc=g2 at *;generalize gP ps ϒb=g3 at *
 let c:∀{g:Æ}(n:Â),0<=g->g<256->n<=64->vg (.int g) ώh=À (Ε (g*2 ^ n)):=λ{g} n I f r=>by let f:=Pv (x:=g) (n:=n) I Ê r;exact(match qu g (n:Æ)with|Ã=>À ϊk|Ä=>Å)=_;rw[f];exact À ϊk=_;rw[ē]
 let s:J2 [.lst ύe]=À (Ä,.int řk):=by
  let z:TB ý ŉj [À (Ä,.lst ύe)]=À Ϧj:=rfl;let A:vg ĸp Ź=À ĸp:=by let:=c 0 Q R Ò;rw[áe,Æo]at this;rw[Œp]
  let L:vg (.int g1) ßa=À (Ε (g1*256)):=c 8 b0 E Ò;let m:vg (.int g2) ϥa=À (Ε (g2*65536)):=c 16 C p Ò;let o:vg (.int g3) ĺp=À (Ε (g3*16777216)):=c 24 q H Ò
  let l:xi Òg xY Rt ϔk Ϧj=À Õk:=by
   let a:∀(u v w:D),vg u v=À w->∃σ1,vq 1 2 ϖn ϔk=À σ1/\Rt σ1=À w:=λu v w h=>{[À (Ä,.lst ύe),À (Ä,u),À (Ä,v)],rfl,h}
   let{U,K,k}:=a _ _ _ A;let{T,J,y}:=a _ _ _ L;let{W,N,B}:=a _ _ _ m;let{S,F,O}:=a _ _ _ o;simp only[xi,K,J,N,F,k,y,B,O,xY,ßc]
  let t:Ec [.lst Õk]=À (.int řk):=by
   exact(match((ϛe).all λi=>decide Ũe&&decide ĩm)&&decide ((ϛe:Á Æ).length<=1000)with|Ã=>À (Ě (ϛe:Á Æ).sum)|Ä=>Å)=_
   let al:((ϛe:Á Æ).all λi=>decide Ũe&&decide ĩm)=Ã:=by simp only[Ų,List.all_nil,Č,åf,and_true];show{{?_,?_},{?_,?_},{?_,?_},?_,?_}<;>omega
   rw[al];exact À (Ě (g0+(g1*256+(g2*65536+(g3*16777216+0)))))=_
   congr 2
   omega
  rw[z70];unfold Cr;simp only[Ö,z,l,t]
 rw[z6z];unfold Cq;let G:B3 (Β ŧe)=À ŧe:=rfl;simp only[Ö,dO,G,e,s]
theorem z1x{x:Æ}:Ua [.int x]=À (Ä,.tup ϸj):=by
 let b:wv [.int x,.int 0,.int 8]=À (Ä,.int (x%256)):=by let:=YS (x:=x) (l:=0) (w:=8) Ò;rw[áe,âe]at this;rw[Œp]
 let m:wv [.int x,.int 8,.int 8]=À (Ä,.int (x/256%256)):=YS (l:=8) (w:=8) Ò;let j:wv [.int x,.int 16,.int 8]=À (Ä,.int (x/65536%256)):=YS (l:=16) (w:=8) Ò;let f:wv [.int x,.int 24,.int 8]=À (Ä,.int (x/16777216%256)):=YS (l:=24) (w:=8) Ò;let a:∀(u w:D),wv [.int x,u,.int 8]=À (Ä,w)->∃σ1,zt 1 u ώd=À σ1/\OE σ1=À w:=λu w h=>{[À (Ä,.int x),À (Ä,u)],rfl,by unfold OE;simp only[Ö,h]}
 let{r,i,c}:=a _ _ b;let{s,g,k}:=a _ _ m;let{t,n,p}:=a _ _ j;let{q,d,o}:=a _ _ f
 let l:xi ϱa xY OE ώd dh=À ϸj:=by exact xi ϱa xY OE ώd [.int 0,.int 8,.int 16,.int 24]=_;simp only[xi,i,g,n,d,c,k,p,o,xY,ßc]
 let e:∀w x y z:D,Jd [.lst Ϲo]=À (.tup Ϲo):=λ_ _ _ _=>rfl
 rw[z5e];unfold Fo;simp only[Ö,T7,l,e]
theorem mE{x w:Æ}(f:ğ<=1000):Ul ŝk=À ([.own (.dic (kP ın) (vP ın)),.fz ŝc,.fz âg],.fz .zP):=by
 let a:wv [.int w,.int 0,.int 8]=À (Ä,.int ĺd):=by let:=YS (x:=w) (l:=0) (w:=8) Ò;rw[áe,âe]at this;rw[Œp]
 let d:uU ŝc=À (.inl x):=rfl;let b:decide ((İ).length<yV)=Ã:=ù (by unfold kP;rw[å];rw[Ňp]);let{c,e}:=nV ps x ĺd;rw[<-c,<-e,z6n];unfold Cc;simp only[ń,a,d,b]
def ZV(ps:Á į)(x w:Æ):Á į:=vR (vR (vR (vR ps ôc ĺd) óc ěi) òc ϳh) ϒb ûf
def y76{x w:Æ}(A:ğ<=900):Qz ŝk=À ([.own ģk,.fz ŝc,.fz âg],.fz .zP):=by
 let z:TB Ěi ðo [Å,À (Ä,.int x),À (Ä,.int w),Å,Å]=À ϖj:=by unfold TB;simp only[Ö,dO,z1x];rfl
 let c:∀(d:Á į) (u v:Æ) (e f:É M),Òa<=1000->0<=v->v<256->MH [À ŭo,À úe,À ϴd,À þn,À ļp]=À (Τd (.own (.dic (kP ŉo) (vP ŉo))) þn ļp):=λd u v e f r t y=>by let g:=mE (ps:=d) (x:=u) (w:=v) r;rw[Int.emod_eq_of_lt t y]at g;let n:gZ ŭo 0 []=.p 0 []:=rfl;unfold MH;simp only[ń,n,g]
 let k:∀(o e f:É M)(u v:D),TD 3 4 ϖn [o,À úe,À ϴd,e,f]=À [o,À úe,À ϴd,À (.fz u),À (.fz v)]:=λ_ _ _ _ _=>rfl
 let E:=YW (ps:=ps) (a:=(x+0)%65536) (b:=w%256);let q:=c ps ôc ĺd Å Å Ê Ê Ê;generalize hq0:vR ps ôc ĺd=p0 at *;let C:=YW (ps:=p0) (a:=Ăb%65536) (b:=w/256%256);let m:=c p0 óc ěi Å Å Ê Ê Ê;generalize hq1:vR p0 óc ěi=p1 at *;let B:=YW (ps:=p1) (a:=(x+2)%65536) (b:=w/65536%256);let s:=c p1 òc ϳh Å Å Ê Ê Ê;generalize hq2:vR p1 òc ϳh=p2 at *;let h:=c p2 ϒb ûf Å Å Ê Ê Ê
 let j:vR p2 ϒb ûf=ZV ps x w:=by unfold ZV;rw[hq0,hq1,hq2]
 rw[j]at h
 let i:jy (TD 3 4) MH ϖj [À Ůf,À úe,À ϴd,Å,Å]=À (Τd (.own ģk) (.fz (.int ϒb)) (.fz (.int ûf))):=by simp only[jy,k,q,m,s,h,ßc]
 let l:Ũb Ůf=Å:=rfl;rw[z6o];unfold Cd;simp only[ń,l,z,i]
theorem y7i:zH þf Ź=À x:=rfl
def Mm{x y z w:D}:zH þf Ąa=À y:=rfl
def y7j{x y z w:D}:zH þf Űa=À z:=rfl
def y7k{x y z w:D}:zH þf ϰb=À w:=rfl
def LB{k:Ç}{hk:Á Ĺ}{hv:Á D}{d:D}{s:Â}{x n:Æ}(e:Ws[s]?=À x):X1 [jv ŋ a b c hk hv,.tup [.str k,d,.int (s:Æ),.int n]]=À (Ä,.int öd):=by rw[z5a];unfold Fj;simp only[Ö,jL,y7j,y7k,qm e,bY]
theorem z42{d s:Â}{x n:Æ}(f:d<Ŋa)(e:Ws[s]?=À x):Qk [st ŋ a b c İ ū,.fz êk]=À ([st (wI (ϟc d (gP ps öd))) a b c İ ū,.fz êk],.fz .zP):=by rw[z5k];unfold Fw;simp only[ń,p7,Ee,LB e,cD,Mm,gc,kE,jY,gu f,kR]
theorem z43(P:pK ps){d s:Â}{x n:Æ}(f:d<Ŋa)(e:Ws[s]?=À x):Ql [st ŋ a b c İ ū,.fz ëk]=À ([st (wI (ϟc d (gP ps Ĺl+gP ps ĸl*256+gP ps ķl*65536+gP ps Ķl*16777216))) a b c İ ū,.fz ëk],.fz .zP):=by let w:=x7l P (x:=(x+n)%65536);generalize gP ps Ĺl+gP ps ĸl*256+gP ps ķl*65536+gP ps Ķl*16777216=v at w;rw[z5l];unfold Fx;simp only[ń,p7,Ee,LB e,w,Mm,gc,kE,jY,gu f,kR]
theorem z45(h:ğ<=1000){d s:Â}{x n v:Æ}(g:Ws[d]?=À v)(e:Ws[s]?=À x):Qn [st ŋ a b c İ ū,.fz ìk]=À ([st ŋ a b c (kP ϭl) (vP ϭl),.fz ìk],.fz .zP):=by rw[Đq];rw[z5n];unfold Fz;simp only[ń,p7,jL,LB e,qm g,Mm,bf,mC,f,mE h]
theorem z46(h:ğ<=900){d s:Â}{x n v:Æ}(g:Ws[d]?=À v)(e:Ws[s]?=À x):Qo [st ŋ a b c İ ū,.fz ík]=À ([st ŋ a b c (kP Ŀn) (vP Ŀn),.fz ík],.fz .zP):=by rw[Đq];rw[z5o];unfold F_;simp only[ń,p7,jL,LB e,qm g,Mm,bf,mC,f,y76 h]
theorem LZ{k:Ç}{d s n:D}{F:FM}{S a:M}(f:V0 jI Ϯb=À Ĭ)(c:ċ jI JW åg=À F)(e:∀d,S≠.fz d)(h:F Ùo=À (Óo,.fz .zP)) :jg Ùo=À (Óo,.fz .zP):=by
 rw[Eu];unfold JP
 let b:gZ S 0 []=.p 0 []:=by
  cases S with
  |fz d=>show Ý rfl (e d)|_=>rfl
 simp only[ń,y7i,f,VG,c,b,h]
#print a
def y7b(n:Â):(0:Æ)<2 ^ n:=đi Ò
nonrec def Y4(k:Ç)(x y:Â):Â:=if k = ϊa then x &&& y else if k = ώa then x ||| y else x ^^^ y
inductive UT:Ç->È
 |and:UT ϊa |or:UT ώa |xor:UT Àb
def z1s{k:Ç}(h:UT k){x y:Â}(b:x<4294967296)(a:y<4294967296):Y4 k x y<4294967296:=by
 let e:(4294967296:Â)=2 ^ 32:=by decide
 rw[e]at b a ⊢;unfold Y4
 split;show Nat.and_lt_two_pow _ a;split;show ċm b a;show Nat.xor_lt_two_pow b a
def Hu(z:Â):z%2=(z.testBit 0).toNat:=by rw[ôf];rcases Öc z with h|h<;>rw[h]<;>rfl
theorem ii:∀(n x y:Â),x<=n->(x ||| y)=ϥi+Ϧi
 |0,x,y,h=>by
  let:x=0:=by omega
  rw[çq];simp
 |n+1,x,y,h=>by
  by_cases z:x=0;subst z;simp;let f:=ii n (x/2) (y/2) Ê;let g:(x ||| y)/2=x/2 ||| y/2:=Nat.or_div_two;let b:ϥi/2=x/2 ^^^ y/2:=Nat.xor_div_two;let a:Ϧi/2=x/2 &&& y/2:=Nat.and_div_two;let d:=Hu (x ||| y);let e:=Hu ϥi;let i:=Hu Ϧi;rw[ŵh]at d;rw[Nat.testBit_xor]at e;rw[Ľb]at i
  let c:((Űc 0||ąe 0).toNat:Â)=(Űc 0 ^^ ąe 0).toNat+(Űc 0&&ąe 0).toNat:=by cases Űc 0<;>cases ąe 0<;>rfl
  rw[<-g,<-b,<-a]at f;omega
def z25(x y:Â):Źh (x:Æ) (y:Æ)=((x ^^^ y:Â):Æ):=by
 exact ϓa (x:Æ) (y:Æ)-ģa (x:Æ) (y:Æ)=_;rw[LQ,LJ,ii x x y Ġ]
 push_cast
 omega
def z7z{k:Ç}(h:UT k){x y:Â}:Uc [.str k,.int (x:Æ),.int (y:Æ)]=À (Ä,.int (Y4 k x y:Æ)):=by
 let d:za Ņb Ņb=À Ĭ:=rfl;let e:za Ŋb Ņb=À Ā:=rfl;let c:za Ŋb Ŋb=À Ĭ:=rfl;let b:za Ţc Ņb=À Ā:=rfl;let a:za Ţc Ŋb=À Ā:=rfl;rw[z5w];unfold C7 Y4;cases h with
 |and=>rw[Ð rfl,<-LJ];simp only[Ö,d]|or=>rw[Ñ ϵ,Ð rfl,<-LQ];simp only[Ö,e,c]|xor=>rw[Ñ ϵ,Ñ ϵ];simp only[Ö,b,a,z25]
section
variable{Ws:Á Æ}{a b c:Ï}{hk:Á Ĺ}{hv:Á D}
nonrec def qt(p:Ï):Æ:=if p then 1 else 0
def bX{x y:Æ}{p:Ï}:UX áh=À (Ä,.tup [.int (Νc (x+y+qt p)),.bl (decide (4294967296<=x+y+qt p))]):=by
 let a:decide ((0:Æ)<4294967296)=Ã:=by decide
 rw[z59];unfold Fi;cases p<;>simp only[Ö,Ϧ,qt,a,Ĺb,Ăa,ź]
theorem RL{x y:Æ}{p:Ï}(j:0<=x)(f:x<4294967296)(i:0<=y)(g:y<4294967296):Um áh=À (Ä,.tup [.int (Νc (x-y-qt p)),.bl (decide (x-y-qt p<0))]):=by
 let c:∀(q:Æ),(q=0\/q=1)->(∀τ:zu,jJ (tE Ĵ) ĸ ĝ [À (Ä,.int x),À (Ä,.int y),À (Ä,.bl p),Å]=À (.int q))->Um áh=À (Ä,.tup [.int (Νc Ľj),.bl (decide ϣi)]):=λq h d=>by
  let a:=d [];rw[z6s];unfold Ci;generalize jJ (tE Ĵ) ĸ ĝ=EE at a;by_cases z:x-y-q<0;let b:decide ϣi=Ã:=ù z;let e:Ľj%4294967296=x-y-q+4294967296:=by omega
  rw[e,b];simp only[Ö,a,b,Ϧ];let b:decide ϣi=Ä:=Ĕ z;let e:Ľj%4294967296=x-y-q:=by omega
  rw[e,b];simp only[Ö,a,b]
 cases p with
 |Ä=>show c 0 Ŗ λ_=>rfl|Ã=>show c 1 ýc λ_=>rfl
inductive Wo:Ç->È
 |add:Wo ĸa |addc:Wo Ċa |sub:Wo ķa |subc:Wo ĉa |test:Wo ôa
def oY{k:Ç}(h:Wo k){x y:Æ}(g:0<=x)(e:x<4294967296)(f:0<=y)(i:y<4294967296):∃(t:Æ) (u:Ï),Z9 ϡg=À (Ä,.tup [.int (t%4294967296),.bl u]):=by
 cases h with
 |add=>show{x+y+qt Ä,decide (4294967296<=x+y+qt Ä),?_};let b:za Ûb Ûb=À Ĭ:=rfl;rw[Jl];unfold Wv;simp only[Ö,b,bX]|addc=>show{x+y+qt a,decide (4294967296<=x+y+qt a),?_};let b:za Ũa Ûb=À Ā:=rfl;let c:za Ũa Ũa=À Ĭ:=rfl;rw[Jl];unfold Wv;simp only[Ö,b,c,bX]|sub=>show{x-y-qt Ä,decide ân,?_};let b:za ńb Ûb=À Ā:=rfl;let c:za ńb Ũa=À Ā:=rfl;let d:za ńb ŧa=À Ā:=rfl;rw[Jl];unfold Wv;cases a<;>simp only[Ö,b,c,d,RL g e f i]|subc=>show{x-y-qt a,decide (x-y-qt a<0),?_};let b:za ŧa Ûb=À Ā:=rfl;let c:za ŧa Ũa=À Ā:=rfl;let d:za ŧa ŧa=À Ĭ:=rfl;rw[Jl];unfold Wv;cases a<;>simp only[Ö,b,c,d,RL g e f i]|test=>show{x-y-qt Ä,decide ân,?_};let b:za Øb Ûb=À Ā:=rfl;let c:za Øb Ũa=À Ā:=rfl;let d:za Øb ŧa=À Ā:=rfl;rw[Jl];unfold Wv;cases a<;>simp only[Ö,b,c,d,RL g e f i]
theorem z48{d s:Â}{x y w g:Æ}{u:Ï}(i:Ws[d]?=À x)(f:Ws[s]?=À y)(h:Z9 [.str ôa,.int x,.int y,.bl a]=À (Ä,.tup Żh))(j:wv Ùc=À (Ä,.int g)) :gU [st ŋ a b c hk hv,.fz đk]=À ([st ŋ u (decide ŧb) (decide ũd) hk hv,.fz đk],.fz .zP):=by let e:vG Øb Øb=À Ā:=rfl;rw[dv];unfold LI;simp only[ń,p7,jL,Ef,RP,qm i,qm f,h,kO,Zd,Ze,Wx,Wy,VG,JO,Ic,II,MZ,Mg,VL j,Wt,e]
#print a
def z9e{x:Æ}{n:Â}(e:0<=x)(f:x<4294967296)(g:n<=31):Wc Ĵl=À (Ä,.tup [.int (x*2 ^ n%4294967296),if n=0 then .zP else .bl (decide (x*2 ^ n/4294967296%2=1))]):=by
 let c:=Pv (n:=n) e f Ê;let b:∀y:Æ,wv [.int y,.int 32,.int 1]=À (Ä,.int (y/4294967296%2)):=λy=>YS (x:=y) (l:=32) (w:=1) Ò
 let d:∀y:Æ,wv [.int y,.int 0,.int 32]=À (Ä,.int (y%4294967296)):=λy=>by let:=YS (x:=y) (l:=0) (w:=32) Ò;rw[áe,âe]at this;rw[Œp]
 rw[z6e];unfold CQ;rw[ϴp];simp only[Ö,c,ē,b,d,Ϟc,a];let a:decide Œf=Ä:=Ĕ Ê;rw[Ñ z];simp only[Ö,c,ē,b,d,Ϟc,a]
theorem y8f{x:Æ}{n:Â}:Wd Ĵl=À (Ä,.tup [.int (x/2 ^ n),if n=0 then .zP else .bl (decide (x/2 ^ (n-1)%2=1))]):=by
 let b:decide ((0:Æ)<=(n:Æ))=Ã:=ù ĳj;rw[z6f];unfold CS;rw[ϴp];simp only[Ö,b,ē,Ϟc,a];let a:decide Œf=Ä:=Ĕ Ê
 let p:wv [.int x,.int ((n:Æ)-1),.int 1]=À (Ä,.int (x/2 ^ (n-1)%2)):=by rw[show(n:Æ)-1=((n-1:Â):Æ) by omega];show YS (l:=n-1) (w:=1) Ò
 rw[Ñ z];simp only[Ö,b,ē,p,Ϟc,a]
theorem x7o{w n:Æ}(f:0<=w)(k:w<4294967296)(d:0<=n)(g:n<65536):Wg şk=À (Ä,.int (w%65536+65536*n)):=by
 let e:=x7p (x:=w) (n:=n) (l:=16) (w:=16) f d g;let j:Wg şk=À (Ä,.int (ϓa (ģa w (Ļb ((1*2 ^ 16-1)*2 ^ 16))) (n*2 ^ 16)))\/ũb:=.inr trivial
 let i:qu n 16=Ã:=by unfold qu;rw[ù (show Ìj<2 ^ 64 by omega)];rfl
 let a:vg Ĺe ϥa=À (Ε Ϩi):=by exact(match qu n 16 with|Ã=>À (Ě (n*2 ^ (16:Æ).toNat))|Ä=>Å)=_;rw[i];rfl
 let b:vg Ϙn ϥa=À (.int 4294901760):=rfl;let h:vg Ąa ϥa=À ói:=rfl
 let c:ϓa çl Ϩi=w%65536+65536*n:=by let e1:ϓa çl Ϩi=w+(n-w/65536%65536)*65536:=e;rw[e1];omega
 rw[z6x];unfold Co;simp only[yM,zR,yF,yY,e1,e2,z7,eC,ßc,ľ,àe,ŉc,ãc,Ĉ,Őc,Čb,ϔl,Čh,ċh,øl,öl,a,b,h,jK,T3,wz,Ϧh,ϥh,Ĕn,c]
nonrec def Zb(Éa tgs:Á D)(n:Â):Á D:=(ġb).map λk:Â=>.tup Ŧg
theorem x35:w8 ĳg úd=tu ģ/\wA ĳg õn úd (.tup [ώo n .zP,.int ((n:Æ)+1),Åj n .zP])=Zb Éa tgs ģ:=by unfold w8 wA;rw[Ñ öm,Ñ öm];unfold tu Zb;rw[List.range_succ,Ĩa,Ĩa];show{rfl,rfl}
def x34{Éa tgs:Á D}{k n:Â}(h:k<n):zH (.dic ĳg õn) ěf=À (.tup Ŧg):=by exact(uU ěf).bind _=_;show dY (g:=λk:Â=>.tup Ŧg) (úa h)
def x33{z6 Éa tgs:Á D}(o:uN ť=À (Ã,.lst Éa))(h:ZA ť=À (Ã,.lst tgs))(k:Ķi=Ŷb)(s:Ŷb<=1000):Q_ ť=À (Ã,.dic Ôg Ĳh):=by
 let e:pV (wQ ZA ϣ) Åk=À (jU tgs):=by unfold pV;simp only[Ö,h]
 let{σ',e1,x,y,rfl}:=gx (g:=vq 3 4) (b:=Hb) (λi σ=>∃x y:É Sl,σ=[À (Ä,.lst z6),À (Ä,.lst Éa),À (Ã,.dic (tu i) (Zb Éa tgs i)),x,y])
  (ds:=jU tgs) (σ:=Åk) 0 {Å,Å,rfl} λi d σ c p=>by
   let{x,y,rfl}:=p;rw[ĺ]
   let q:i<Ŷb:=by let:=(ķ c).1;rw[YO]at this;omega
   let a:i<Ķi:=by omega
   rw[TV,Ē a]at c;cases c;let gt:tgs[i]=Åj i .zP:=by rw[Ŷ,Ē a];rfl
   rw[gt]
   let f:zH (.lst Éa) Îa=À (ώo i .zP):=by exact uP Éa (i:Æ)=_;unfold uP;rw[Ð (Íc i),ē,Ŷ,Ē q];rfl
   let{l,r}:=x35 (Éa:=Éa) (tgs:=tgs) (n:=i);let m:(tu i).length<yV:=by unfold tu;rw[å,ëa];rw[Ňp]
   let j:uU Îa=À ýn:=rfl;show{_,[À (Ä,.lst z6),À (Ä,.lst Éa),À (Ã,.dic (tu î) (Zb Éa tgs î)),À (Ä,.int (i:Æ)),À (Ä,Åj i .zP)],rfl,.inl ?_,_,_,rfl};rw[<-l,<-r];unfold Hb;simp only[Ö,jV,f,Ϧ,j,Ð m]
 rw[ĺ,YO,k]at e1;rw[z6r];unfold Cg;generalize jU tgs=NN at e e1;simp only[Ö,o,e,e1]
theorem y04{T f:D}{e:Æ}{Ws:Á Æ}{ps:Á į}(i:Ŋa=8)(h:∀w∈Ws,0<=w/\w<4294967296)(l:WS [f]=À (Ã,.dic İ ū)) :UV [.obj à [] [],.fz T,.fz ãg,.fz Đa,.fz f]=À ([xB T e Đa Ìd ϝk 0 0,.fz T,.fz ãg,.fz Đa,.fz f],.fz .zP):=by let k:∀{x:M}{yC:yL},g8 x (Ω Ŧm) 0 [] [à] ōa=À (Ξ (.obj à [ōa] [x])):=rfl;let o:∀{a x:M}{yC:yL},g8 x (Ω (.obj à [ōa] [a])) 0 [] [à] ģb=À (Ξ (.obj à ϯo [a,x])):=rfl;let n:∀{a b x:M}{yC:yL},g8 x (Ω (.obj à ϯo ŵe)) 0 [] [à] Ůb=À (Ξ (.obj à ęn [a,b,x])):=rfl;let j:∀{a b c x:M}{yC:yL},g8 x (Ω (.obj à ęn [a,b,c])) 0 [] [à] ác=À (Ξ (.obj à že [a,b,c,x])):=rfl;let g:=z17 (T:=T) (e:=e) (fw:=.zP) (fh:=.zP) (Ws:=Ws) (hk:=kP ps) (hv:=vP ps) (fs:=[]) (ms:=[]);let m:∀{a b c d:M}{yC:yL},ge à Ľe 0 [] Y_ vM ώg=Y6 Y_ Äp ώg:=rfl;rw[z50];unfold FZ;simp only[Ö,xW.eq_1,jR.eq_1,pW.eq_1,wO.eq_1,gj.eq_1,hide.eq_1,wZ.eq_1,Lg.eq_1,Lg.eq_2,ZF.eq_1,ZF.eq_2,@Option.map_some.{0,0},@List.take_succ_cons.{0},@List.take_zero.{0},k,o,n,j,x7v i h,l,m];simp only[ń,g]
theorem y8g{z6 Éa tgs:Á D}{a:D}{Ws:Á Æ}{ps:Á į}(j:uN ť=À (Ã,.lst Éa))(e:ZA ť=À (Ã,.lst tgs))(f:Ķi=Ŷb)(b:Ŷb<=1000)(d:Ŋa=8)(c:∀w∈Ws,0<=w/\w<4294967296)(h:WS [a]=À (Ã,.dic İ ū)) :Z6 [.obj à [] [],.fz ϳi,.fz Đa,.fz a]=À ([xB (.dic Ôg Ĳh) Ŷb Đa Ìd ϝk 0 0,.fz ϳi,.fz Đa,.fz a],.fz .zP):=by
 let i:gZ Ŧm 0 []=.p 0 []:=rfl
 let g:EV [.dic Ôg Ĳh]=À (.int Ŷb):=by exact À (Ě ((Ôg).length:Æ))=_;unfold tu;rw[å,ëa]
 rw[z57];unfold Fg;simp only[ń,x33 j e f b,g,i,y04 d c h]
def z1j:FS:=
 (yY (e2 vg ĸ (e2 xF Őb (e1 (dH Jj) ý))))
def Wb:Á D->É ä:=FR 1 1 z1j
def z1k:FS:=
 (yY (XQ (JX (e2 za Ķb Øg) (e2 za Ķb (eC čd))) (e2 za Ϧm ĝ)))
def Dh:Á D->É ä:=FR 1 1 z1k
def z1m:FS:=
 (zR (yS ßm
   (yY (eC ŧc))
   yi)
  (zR (yS (kN (Κ Ķb ŵd) (tE (e2 za Ķb çh)))
   (yY (zg Wb (Α èh)))
   yi)
  (zR Ņo
  (zR (yS (Ξa (eC Ew))
   Ýp
   yi)
  (zR (yS (Ξa (eC Ex))
   (εc Ϧm)
   yi)
  (zR (yS (Ξa (eC Ev))
   ēk
   yi)
  (yY û)))))))
def uh:Á D->É ä:=FR 1 2 z1m
def z1l:FS:=
 (zR Ņo
  (zR (yS (Ξa (eC Ez))
   Ýp
   yi)
  (zR (yS (Ξa (eC E_))
   (yF 1 (e2 Įe (e2 Įe û (zg Wb (Ζ āe))) (zg Wb ìp)))
   yi)
  (zR (yS (ub (Ξa (eC Ey)) (ι (zg Dh ϣ)))
   ēk
   yi)
  (yY û)))))
def uw:Á D->É ä:=FR 1 2 z1l
def VT{w:Æ}:wv Ùc=À (Ä,.int (w/2147483648%2)):=by let e:=iu ňo 1;let a:wv Ùc=À (Ä,.int (ģa ňo (1*2 ^ 1-1))):=rfl;rw[a,e];rfl
inductive J6:Ç->È
 |load:J6 ŕa |store:J6 ėa |loadw:J6 Ŏa |storew:J6 ēa
inductive qH:D->È
 |sum {k:Ç} {d s:Â} (h:Wo k) (hd:d<8) (hs:s<8):qH ćb
 |bits {k:Ç} {d s:Â} (h:UT k) (hd:d<8) (hs:s<8):qH ćb
 |copy {d s:Â} (hd:d<8) (hs:s<8):qH ŭg
 |set {d:Â} {n:Æ} (hd:d<8) (n0:0<=n) (n1:n<65536):qH Źg
 |high {d:Â} {n:Æ} (hd:d<8) (n0:0<=n) (n1:n<65536):qH Űg
 |left {d n:Â} (hd:d<8) (hn:n<=31):qH (.tup [.str įa,.int (d:Æ),.int (n:Æ)])
 |right {d n:Â} (hd:d<8) (hn:n<=31):qH (.tup [.str ĕa,.int (d:Æ),.int (n:Æ)])
 |mem {k:Ç} {d s:Â} {n:Æ} (h:J6 k) (hd:d<8) (hs:s<8) (n0:0<=n) (n1:n<256):qH (.tup [.str k,.int (d:Æ),.int (s:Æ),.int n])
def jF(r:D)(R:Á Â)(o:É Â)(pc pn:Ï):Ï:=match uh [r],uw [r]with
 |À (Ä,.int u),À (Ä,.int p)=>decide (0<=u)&&(decide (0<=p)&&(R.all (λk=>Ųm k)&&((ų).all (λk=>āf k==decide Ęp)&&((āf 8==pc)&&((āf 9==pn)&&(āf 10==pn))))))|_,_=>Ä
structure UP(r:D)(R:Á Â)(o:É Â)(pc pn:Ï)(U Pt:Â):È where
 u:uh [r]=À (Ä,.int (U:Æ))
 p:uw [r]=À (Ä,.int (Pt:Æ))
 r:∀k∈R,Ŷi k=Ã
 o:∀k,k<8->Ŝf k=decide Ęp
 c:Ŝf 8=pc
 n:Ŝf 9=pn
 s:Ŝf 10=pn
def gJ{r:D}{R:Á Â}{o:É Â}{pc pn:Ï}(h:jF r R o pc pn=Ã):∃U Pt,UP r R o pc pn U Pt:=by
 unfold jF at h
 rw[ũp];rename_i u p e1 e2;simp only[Č,åf,ϖb]at h;let{i,b,g,d,e,c,f}:=h;refine{čj,p.toNat,by rw[ϟd i];show e1,by rw[ϟd b];show e2,λk a=>ûa g k a,λk a=>?_,e,c,f};show Ćd (ûa d k (úa a));cases h
def LU:([ĸa,Ċa,ķa,ĉa].all λw=>(ų).all λd=>(ų).all λs=>jF όe Ĭb ŝb Ã Ã)=Ã:=by rw[Ŝp]
def z34:((ų).all λd=>(ų).all λs=>jF (.tup [.str ôa,.int (d:Â),.int (s:Â)]) Ĭb Å Ã Ã)=Ã:=by rw[Ŝp]
def E9:([ϊa,ώa,Àb].all λw=>(ų).all λd=>(ų).all λs=>jF όe Ĭb ŝb Ä Ã)=Ã:=by rw[Ŝp]
def z31:((ų).all λd=>(ų).all λs=>jF (.tup [.str ϰ,.int (d:Â),.int (s:Â)]) [s] ŝb Ä Ä)=Ã:=by rw[Ŝp]
def z33(n:Æ):((ų).all λd=>jF (.tup [.str ŏ,.int (d:Â),.int n]) [] ŝb Ä Ä)=Ã:=by rw[Ŝp]
def z32(n:Æ):((ų).all λd=>jF (.tup [.str ób,.int (d:Â),.int n]) [d] ŝb Ä Ä)=Ã:=by rw[Ŝp]
def cJ:((Ži).all λw=>(ų).all λd=>(ßj).all λs=>jF όe [d] ŝb (decide (s≠0)) Ã)=Ã:=by rw[Ŝp]
def cI(n:Æ):([ŕa,Ŏa].all λw=>(ų).all λd=>(ų).all λs=>jF ßk [s] ŝb Ä Ä)=Ã:=by rw[Ŝp]
def cK(n:Æ):([ėa,ēa].all λw=>(ų).all λd=>(ų).all λs=>jF ßk Ĭb Å Ä Ä)=Ã:=by rw[Ŝp]
def al{α:Type}{l:Á α}{f:α->Ï}(h:l.all f=Ã){x:α}(a:x∈l):f x=Ã:=ûa h x a
nonrec def ϭc(o:É Â)(w:Æ)(Ws:Á Æ):Á Æ:=match o with
 |À d=>ϟc d w|Å=>Ws
structure Az(r:D)(R:Á Â)(o:É Â)(pc pn:Ï)(V:Â->Æ)(a b c:Ï)(ps:Á į)(w:Æ)(a' b' c':Ï)(ps':Á į):È where
 w0:0<=w
 w1:w<4294967296
 P:pK ps'
 l:ps'.length<=ğ+4
 ks:uw [r]=À (Ä,.int 0)\/ps'=ps
 ca:pc=Ä->a'=a
 cb:pn=Ä->b'=b
 cc:pn=Ä->c'=c
 dr:∀Ws:Á Æ,Ŋa=8->(∀k∈R,Ws[k]?=À (V k))->jg [st ŋ a b c İ ū,.fz r]=À ([st (wI (ϭc o w Ws)) a' b' c' (kP ps') (vP ps'),.fz r],.fz .zP)
def E2(r:D)(R:Á Â)(o:É Â)(pc pn d:Ï)(V:Â->Æ)(ps:Á į):È:=
 ∃(w:Ï->Æ) (A B C:Ï->Ï) (ps':Á į),(d=Ä->∀x y,w x=w y/\A x=A y/\B x=B y/\C x=C y)/\∀a b c,Az r R o pc pn V a b c ps (w a) (Ő pc (A a) a) (Ő pn (B a) b) (Ő pn (C a) c) ps'
structure Ay(r:D)(R:Á Â)(o:É Â)(pc pn uc:Ï):È where
 up:∃U Pt,UP r R o pc pn U Pt
 r8:∀k∈R,k<8
 o8:∀d,o=À d->d<8
 ld:∀D1,gV [D1,r]=À (Ä,.bl Ä)
 st:za r Ųb=À Ā
 tp:u8 r=Ã
 pl:FP r
 cu:uc=Ã->∀U:Â,uh [r]=À (Ä,.int (U:Æ))->Ŷi 8=Ã
 ef:∀(V:Â->Æ)(ps:Á į),(∀k,k<8->0<=V k/\V k<4294967296)->pK ps->ğ<=800->E2 r R o pc pn uc V ps
def Wz{r:D}{R:Á Â}{o:É Â}{V:Â->Æ}{ps ps':Á į}{W:Æ}(h:∀a b c,Az r R o Ä Ä V a b c ps W a b c ps'):E2 r R o Ä Ä Ä V ps:={λ_=>W,λ_=>Ã,λ_=>Ã,λ_=>Ã,ps',λ_ _ _=>{rfl,rfl,rfl,rfl},h}
def LS(r:D):Ï:=match uh [r]with
 |À (Ä,.int u)=>Ųm 8|_=>Ä
def cH:([Ċa,ĉa].all λw=>(ų).all λd=>(ų).all λs=>LS όe)=Ã:=by rw[Ŝp]
def z2c{r:D}(h:LS r=Ã)(U:Â)(e:uh [r]=À (Ä,.int (U:Æ))):Ŷi 8=Ã:=by unfold LS at h;rw[e]at h;show h
def x29{k:Ç}(h:k = ĸa \/ k = ķa \/ k = ôa)(x y:Æ)(a b:Ï):Z9 ϡg=Z9 [.str k,.int x,.int y,.bl b]:=by rcases h with rfl|rfl|rfl<;>cases a<;>cases b<;>rfl
def z9y(h:k∈[d,s]):k=d\/k=s:=by rw[Ėq]
def lt2{d s:Â}(c:d<8)(b:s<8):∀k∈[d,s],k<8:=λk a=>by rcases z9y a with rfl|rfl<;>assumption
def YX{d:Â}(a:d<8):∀k,À d=À k->k<8:=λk e=>by cases e;show a
def O1{ps:Á į}{x y:Æ}(P:pK ps):pK (vR ps (x%65536) (y%256)):=nZ P Ėi ėi Ėi ėi
def EM{r:D}(h:qH r):∃R o pc pn uc,Ay r R o pc pn uc:=by
 cases h with
 |@sum k d s h hd hs=>
  let m:=úa hd;let p:=úa hs
  let J:∀(uc:Ï),ďk->∀V:Â->Æ,(∀k,k<8->0<=V k/\V k<4294967296)->∃(w:Ï->Æ) (u:Ï->Ï),(uc=Ä->∀x y,w x=w y/\u x=u y)/\∀a,0<=w a/\w a<4294967296/\Z9 [.str k,.int (V d),.int (V s),.bl a]=À (Ä,.tup [.int (w a),.bl (u a)]):=λuc hu V hv=>by
   rw[üq];let{t,u,l}:=oY (a:=Ä) h E G Q X;let{O,u',N}:=oY (a:=Ã) h E G Q X;let q0:=ĺb t (show(4294967296:Æ)≠0 by decide);let q1:=ķb t (show(0:Æ)<4294967296 by decide);let r0:=ĺb O (show(4294967296:Æ)≠0 by decide);let r1:=ķb O (show(0:Æ)<4294967296 by decide);show{λa=>Ő a (O%4294967296) (t%4294967296),λa=>Ő a u' u,λz=>?_,λa=>by cases a;show{q0,q1,l};show{r0,r1,N}};let e:=l.symm.trans ((x29 (hu z) (V d) (V s) Ä Ã).trans N);let e1:t%4294967296=O%4294967296:=by injection e with e;injection e with _ e;injection e with e;injection e with e _;injection e
   let e2:u=u':=by injection e with e;injection e with _ e;injection e with e;injection e with _ e;injection e with e _;injection e
   intro x y;cases x<;>cases y<;>show{by simp only[ύf,řf,e1],by simp only[ύf,řf,e2]}
  let H:∀uc:Ï,ďk->(uc=Ã->LS ćb=Ã)->jF ĝk Ĭb ŝb Ã Ã=Ã->vG Ϯb Øb=À Ĭ->V0 jI Ϯb=À Ĭ->ċ jI JW åg=À gU->(∀D1,gV Ąk=À (Ä,.bl Ä))->za ćb Ųb=À Ā->FP ćb->Ay ćb Ĭb ŝb Ã Ã uc:=λuc hu hc Y q1 q2 q3 T S Z=>{gJ Y,lt2 hd hs,YX hd,T,S,rfl,Z,λz U e=>z2c (hc z) U e,λV i hv P F=>by let{w,u,I,f}:=J uc hu V hv;show{w,u,λa=>decide (w a=0),λa=>decide ũl,i,λz x y=>{Ăc.1,Ăc.2,Ŧ þl Ăc.1,Ŧ Ŀk Ăc.1},λa b c=>?_};let{q,A,l}:=f a;show{q,A,P,Ϝ _ _,.inr rfl,nofun,nofun,nofun,λB C j=>?_};show gg (k:=k) q2 q3 qV rfl rfl (z47 (b:=b) (c:=c) (hk:=kP i) (hv:=vP i) q1 Ϟb Źc l VT)}
  cases h with
  |add=>show{_,_,_,_,_,H Ä ϗm nofun (al (al (al LU (x := ĸa) Ò) m) p) rfl rfl rfl Ţf rfl {rfl,rfl}}|addc=>show{_,_,_,_,_,H Ã nofun (λ_=>al (al (al cH (x := Ċa) Ò) m) p) (Οa (al LU (x := Ċa) Ò)) rfl rfl rfl Ţf rfl {rfl,rfl}}|sub=>show{_,_,_,_,_,H Ä (λ_=>.inr Ŗ) nofun (al (al (al LU (x := ķa) Ò) m) p) rfl rfl rfl Ţf rfl {rfl,rfl}}|subc=>show{_,_,_,_,_,H Ã nofun (λ_=>al (al (al cH (x := ĉa) Ò) m) p) (Οa (al LU (x := ĉa) Ò)) rfl rfl rfl Ţf rfl {rfl,rfl}}|test=>show{Ĭb,Å,Ã,Ã,Ä,gJ (al (al z34 m) p),lt2 hd hs,nofun,λ_=>rfl,rfl,rfl,{rfl,rfl},nofun,λV i hv P F=>?_};let{w,u,I,f}:=J Ä (λ_=>.inr ýc) V hv;show{w,u,λa=>decide (w a=0),λa=>decide ũl,i,λz x y=>{Ăc.1,Ăc.2,Ŧ þl Ăc.1,Ŧ Ŀk Ăc.1},λa b c=>?_};let{q,A,l}:=f a;show{q,A,P,Ϝ _ _,.inr rfl,nofun,nofun,nofun,λB C j=>?_};show gg (k := ôa) rfl rfl qV rfl rfl (z48 (b:=b) (c:=c) (hk:=kP i) (hv:=vP i) Ϟb Źc l VT)
 |@bits k d s h hd hs=>
  let m:=úa hd;let p:=úa hs
  obtain⟨Y,q2,q3,T,S,Z⟩:jF ĝk Ĭb ŝb Ä Ã=Ã/\V0 jI Ϯb=À Ĭ/\ċ jI JW åg=À X4/\(∀D1,gV Ąk=À (Ä,.bl Ä))/\za ćb Ųb=À Ā/\FP ćb:=by
   cases h with
   |and=>show{al (al (al E9 (x := ϊa) Ò) m) p,rfl,rfl,λ_=>rfl,rfl,rfl,rfl}|or=>show{al (al (al E9 (x := ώa) Ò) m) p,rfl,rfl,λ_=>rfl,rfl,rfl,rfl}|xor=>show{al (al (al E9 (x := Àb) Ò) m) p,rfl,rfl,λ_=>rfl,rfl,rfl,rfl}
  show{Ĭb,À d,Ä,Ã,Ä,gJ Y,lt2 hd hs,YX hd,T,S,rfl,Z,nofun,λV i hv P F=>?_};rw[üq];let{L,ex}:=Ŀa E;let{K,ey}:=Ŀa Q;let hx:L<4294967296:=by omega
  let hy:K<4294967296:=by omega
  let q:0<=(Y4 k L K:Æ):=Íc _;let A:(Y4 k L K:Æ)<4294967296:=Int.ofNat_lt.mpr (z1s h hx hy);let l:=z7z h (x:=L) (y:=K);show{λ_=>(Y4 k L K:Æ),λ_=>Ã,λ_=>decide ((Y4 k L K:Æ)=0),λ_=>decide ((Y4 k L K:Æ)/2147483648%2=1),i,λ_ _ _=>{rfl,rfl,rfl,rfl},λa b c=>{q,A,P,Ϝ _ _,.inr rfl,λ_=>rfl,nofun,nofun,λB C j=>?_}};show gg (k:=k) q2 q3 qV rfl rfl (z40 (a:=a) (b:=b) (c:=c) (hk:=kP i) (hv:=vP i) (by rw[j d ó,ex]) (by rw[j s ó,ey]) l VT)
 |@copy d s hd hs=>refine{[s],À d,Ä,Ä,Ä,gJ (al (al z31 ųf) (úa hs)),λk hk=>by cases Į hk;show hs,YX hd,λ_=>rfl,rfl,rfl,{rfl,rfl},nofun,λV i hv P F=>?_};show Wz (W:=V s) (ps':=i) λa b c=>{Ĝp.1,Ĝp.2,P,Ϝ _ _,.inr rfl,λ_=>rfl,λ_=>rfl,λ_=>rfl,λB C j=>gg (k := ϰ) rfl rfl qV rfl rfl (cq Ê Źc)}|@set d n hd n0 n1=>refine{[],À d,Ä,Ä,Ä,gJ (al (z33 n) ųf),λk hk=>Ý hk ó,YX hd,λ_=>rfl,rfl,rfl,{rfl,rfl},nofun,λV i hv P F=>?_};show Wz (W:=n) (ps':=i) λa b c=>{n0,by omega,P,Ϝ _ _,.inr rfl,λ_=>rfl,λ_=>rfl,λ_=>rfl,λB C j=>gg (k := ŏ) rfl rfl qV rfl rfl (z44 Ê)}|@high d n hd n0 n1=>refine{[d],À d,Ä,Ä,Ä,gJ (al (z32 n) ųf),λk hk=>by rw[ģq],YX hd,λ_=>rfl,rfl,rfl,{rfl,rfl},nofun,λV i hv P F=>?_};let{E,G}:=hv d hd;show Wz (W:=V d%65536+65536*n) (ps':=i) λa b c=>{by omega,by omega,P,Ϝ _ _,.inr rfl,λ_=>rfl,λ_=>rfl,λ_=>rfl,λB C j=>gg (k := ób) rfl rfl qV rfl rfl (z41 Ϟb (x7o E G n0 n1))}
 |@left d n hd hn=>refine{[d],À d,decide (n≠0),Ã,Ä,gJ (Ιe (al cJ (x := įa) Ò)),λk hk=>by rw[ģq],YX hd,λ_=>rfl,rfl,rfl,{rfl,rfl},nofun,λV i hv P F=>?_};let{E,G}:=hv d hd;let l:=z9e (n:=n) E G hn;let q:0<=V d*2 ^ n%4294967296:=ĺb _ Ò;let A:V d*2 ^ n%4294967296<4294967296:=ķb _ Ò;generalize V d*2 ^ n%4294967296=w at q A l;by_cases z:n=0;rw[Ð z]at l;rw[Ĕ Ĩm];show{λ_=>w,λ_=>Ã,λ_=>decide ŧb,λ_=>decide Þf,i,λ_ _ _=>{rfl,rfl,rfl,rfl},λa b c=>{q,A,P,Ϝ _ _,.inr rfl,λ_=>rfl,nofun,nofun,λB C j=>gg (k := įa) rfl rfl qV rfl rfl (cr (a:=a) (b:=b) (c:=c) (hk:=kP i) (hv:=vP i) Ϟb Ã rfl l VT)}};rw[Ñ z]at l;rw[ù z];show{λ_=>w,λ_=>decide (V d*2 ^ n/4294967296%2=1),λ_=>decide ŧb,λ_=>decide Þf,i,λ_ _ _=>{rfl,rfl,rfl,rfl},λa b c=>{q,A,P,Ϝ _ _,.inr rfl,nofun,nofun,nofun,λB C j=>gg (k := įa) rfl rfl qV rfl rfl (cv (a:=a) (b:=b) (c:=c) (hk:=kP i) (hv:=vP i) Ϟb Ã rfl l VT)}}
 |@right d n hd hn=>refine{[d],À d,decide (n≠0),Ã,Ä,gJ (Ιe (al cJ (x := ĕa) Ò)),λk hk=>by rw[ģq],YX hd,λ_=>rfl,rfl,rfl,{rfl,rfl},nofun,λV i hv P F=>?_};let{E,G}:=hv d hd;let l:=y8f (x:=V d) (n:=n);let q:0<=V d/2 ^ n:=ăf E (þa (y7b n));let A:V d/2 ^ n<4294967296:=Int.lt_of_le_of_lt (ōm _ E) G;generalize V d/2 ^ n=w at q A l;by_cases z:n=0;rw[Ð z]at l;rw[Ĕ Ĩm];show{λ_=>w,λ_=>Ã,λ_=>decide ŧb,λ_=>decide Þf,i,λ_ _ _=>{rfl,rfl,rfl,rfl},λa b c=>{q,A,P,Ϝ _ _,.inr rfl,λ_=>rfl,nofun,nofun,λB C j=>gg (k := ĕa) rfl rfl qV rfl rfl (cr (a:=a) (b:=b) (c:=c) (hk:=kP i) (hv:=vP i) Ϟb Ä rfl l VT)}};rw[Ñ z]at l;rw[ù z];show{λ_=>w,λ_=>decide (V d/2 ^ (n-1)%2=1),λ_=>decide ŧb,λ_=>decide Þf,i,λ_ _ _=>{rfl,rfl,rfl,rfl},λa b c=>{q,A,P,Ϝ _ _,.inr rfl,nofun,nofun,nofun,λB C j=>gg (k := ĕa) rfl rfl qV rfl rfl (cv (a:=a) (b:=b) (c:=c) (hk:=kP i) (hv:=vP i) Ϟb Ä rfl l VT)}}
 |@mem k d s n h hd hs n0 n1=>
  let m:=úa hd;let p:=úa hs;let l1:∀k∈[s],k<8:=λk hk=>by cases Į hk;show hs
  cases h with
  |load=>refine{[s],À d,Ä,Ä,Ä,gJ (Οa (al (cI n) (x := ŕa) Ò)),l1,YX hd,λ_=>rfl,rfl,rfl,{rfl,rfl},nofun,λV i hv P F=>?_};let g:=ZG Đe ąb;show Wz (W:=gP i Đe) (ps':=i) λa b c=>{g.1,by omega,P,Ϝ _ _,.inr rfl,λ_=>rfl,λ_=>rfl,λ_=>rfl,λB C j=>LZ (k := ŕa) rfl rfl qV (z42 Ê Źc)}|loadw=>refine{[s],À d,Ä,Ä,Ä,gJ (Οa (al (cI n) (x := Ŏa) Ò)),l1,YX hd,λ_=>rfl,rfl,rfl,{rfl,rfl},nofun,λV i hv P F=>?_};let g0:=ZG ϥl ąb;let g1:=ZG Ϥl ąb;let g2:=ZG ϣl ąb;let g3:=ZG Ϣl ąb;show Wz (W:=gP i ϥl+gP i Ϥl*256+gP i ϣl*65536+gP i Ϣl*16777216) (ps':=i) λa b c=>{by omega,by omega,P,Ϝ _ _,.inr rfl,λ_=>rfl,λ_=>rfl,λ_=>rfl,λB C j=>LZ (k := Ŏa) rfl rfl qV (z43 P Ê Źc)}|store=>refine{Ĭb,Å,Ä,Ä,Ä,gJ (Οa (al (cK n) (x := ėa) Ò)),lt2 hd hs,nofun,λ_=>rfl,rfl,rfl,{rfl,rfl},nofun,λV i hv P F=>?_};show Wz (W:=0) (ps':=vR i Đe (V d%256)) λa b c=>{by decide,by decide,O1 P,ĉ YW (ĵc Ò _),Ŵo,λ_=>rfl,λ_=>rfl,λ_=>rfl,λB C j=>LZ (k := ėa) rfl rfl qV (z45 Ê Ϟb Źc)}|storew=>refine{Ĭb,Å,Ä,Ä,Ä,gJ (Οa (al (cK n) (x := ēa) Ò)),lt2 hd hs,nofun,λ_=>rfl,rfl,rfl,{rfl,rfl},nofun,λV i hv P F=>?_};let lw:(ZV i Đe (V d)).length<=Ϧb+4:=ĉ YW (ĥa (ĉ YW (ĥa (ĉ YW (ĥa YW)))));show Wz (W:=0) (ps':=ZV i Đe (V d)) λa b c=>{by decide,by decide,O1 (O1 (O1 (O1 P))),lw,Ŵo,λ_=>rfl,λ_=>rfl,λ_=>rfl,λB C j=>LZ (k := ēa) rfl rfl qV (z46 Ê Ϟb Źc)}
nonrec def lt(k:Æ):Ç:={#[97+Ϡ]}
def z0z(a:0<=k)(b:k<26):uP (Ëc : Ç).cps.toList k=À (97+Ϡ):=by
 let h:∀j:Fin 26,uP (Ëc : Ç).cps.toList (j.val:Æ)=À (97+j.val):=by rw[ŋp]
 let:=h {Ϡ,by omega};rw[show(({Ϡ,by omega}:Fin 26).val:Æ)=k by exact(Ϡ:Æ)=k;omega]at this;rw[Œp]
def bW(a:0<=k)(b:k<26):zH ũo ņf=À (.str (lt k)):=by exact(uP _ k).bind _=_;rw[z0z a b];rfl
def òg(h:ăa+Óa<=100000):xF ùj (.str b)=À (.str ώj):=by exact(if ăa+Óa<=yV then _ else _)=_;rw[Ð Ϥg]
theorem Hh(a b:Ç):(ώj).length=ăa+Óa:=īh
def Hl(k:Æ):(lt k).length=1:=rfl
def CC:FS:=
 (zR (yF 2 (e2 xF (e2 xF (e2 xF (e2 Jb (zg Ud ŀh) (eC (.int 48271))) (e2 Ja (eC (.int 104729)) û)) (e2 Ja (eC (.int 7919)) ād)) ĸ))
  (yY (e2 yx (e2 Jb (e2 yx (e2 EX Ĵ Ĵ) (eC (.int 2147483647))) (eC (.int 2003))) (eC (.int 2147483629)))))
def uC:Á D->É ä:=FR 2 3 CC
def z61(b a:D):uC ą=yM 3 CC ą:=rfl
def z9u{c k l:Æ}{M:Â}(b:4<=M)(d:vC c<=M)(h:0<=k)(m:k<100)(j:0<=l)(i:l<=63):vC (c*48271+104729*k+7919*l+1)<=M+20:=by
 let g:=z1v d;let a:2 ^ 4<=2 ^ M:=ìh Ò b;show z1u ?_;rw[Nat.pow_add];generalize 2 ^ M=P at g a;let f:(2:Â) ^ 20=1048576:=by decide
 let e:(2:Â) ^ 4=16:=by decide
 rw[f];rw[e]at a;omega
def g_{ns:Á Æ}(o:Ŝ<=63)(f:∀m∈ns,vC m<=1048576){k:Æ}(d:0<=k)(n:k<100):∃m:Æ,0<=m/\m<2147483629/\uC Ęm=À (Ä,.int m):=by let a:=z2z ns (k:=k) d;let b:=z2y f k;generalize JV ns k=c at a b;let p:=z9u (M:=1048576) (l:=(Ŝ:Æ)) Ò b d n Ê Ê;let e:decide (vC ϖe+vC ϖe<=134217728)=Ã:=ù Ê;let h:XX 48271=Ã/\XX 104729=Ã/\XX 7919=Ã/\XX 2003=Ã:={by decide,by decide,by decide,by decide};let g:∀{i j:Æ},xF Áa ďc=À Ŀf:=rfl;refine{ϖe*ϖe%2147483647*2003%2147483629,ĺb _ Ò,ķb _ Ò,?_};rw[z61];unfold CC;simp only[shx,Ϧh,ϥh,a,å,g,h,EX,e,ϐb,Int.reduceLT]
theorem HH{d:D}(h:xL d):X5 [d]=À (Ä,.bl (zi d)):=by let{w,a,b,_}:=Jz h;rw[z5t];unfold C4;simp only[Ö,a,b]
theorem Xl{z6:Á D}(h:∀d∈z6,xL d):uN ť=À (Ã,.lst œm):=by
 let e:=VJ (g:=zt 1) (c:=R_) (e:=sI) (σ:=ûl) ïc id (ds:=z6) λd a=>by let b:=HH (h d a);show{_,rfl,?_,λ_=>rfl};unfold R_;simp only[Ö,b]
 rw[êe]at e;rw[z6q];unfold Cf;rw[ėq]
theorem eS{d:D}(h:xL d):WV [d]=À (Ä,.bl (vh d)):=by
 let:∃w,zH d Ź=À Ř/\xM Ř Lv=À (.bl (vh d)):=by
  cases h with
  |Ĝa=>show{_,rfl,rfl}|Æa h=>let{w,a,b,_,c,_}:=VV h;show{w,a,by rw[c];show b}
  |wc=>show{_,rfl,rfl}|Ő t hw hk=>rcases hw with rfl|rfl<;>show{_,rfl,rfl}
 let{w,a,b}:=this;rw[z5s];unfold C3;simp only[Ö,a,b]
theorem M7(h:xL d)(a:zi d=Ã):∃t,d=xm t:=by
 cases h with
 |Ĝa t=>show{t,rfl}|Æa h=>let{_,_,_,z,_}:=Ms (m:=0) Śb;rw[z]at a;cases a
 |wc=>cases a|Ő t hw hk=>rcases hw with rfl|rfl<;>cases a
def z8x{z6:Á D}(h:∀d∈z6,xL d)(A:ňa<=1000):∃ks vs,WX ť=À (Ã,.dic ks vs)/\ŀ=č/\∀t,ċ ks vs ķd=(Ňe).map λn:Â=>Ě n:=by
 let{σ',e,ks,vs,o,j,x,c,rfl}:=gx (g:=zt 3) (b:=MD) (λi σ=>∃ks vs o,ŀ=č/\ŀ<=i/\(∀t,ċ ks vs ķd=((xG t Ļc).2).map λn:Â=>Ě n)/\σ=[À (Ä,.lst z6),À (Ã,.dic ks vs),À (Ä,.int ((ßo).length:Â)),o]) (ds:=z6)
  (σ:=[À (Ä,.lst z6),À (Ã,.dic [] []),À (Ä,.int 0),Å]) 0 {[],[],Å,rfl,Ŕ _,λt=>rfl,rfl} (by
  rintro i v σ p ⟨ks,vs,o,j,x,c,rfl⟩;rw[ĺ]at *;let w:i<ňa:=ąg.1;let y:z6[i]=v:=ąg.2;let l:èg î=èg i++[v]:=by rw[Ïc w,y]
  let q:=h v (ϛ p);let k:=HH q;generalize hn:(ßo).length=n;cases hL:zi v with
  |Ã=>
   let{u,rfl}:=M7 q hL;rw[hL]at k;let s:zH (xm u) Ąa=À (.str u):=rfl;let r:uU (.str u)=À Ċe:=rfl;let f:ŀ<yV:=by rw[Ňp]
   let a:(Ûp).length=n:=by rw[l,Ŵb,è,hn];rfl
   let m:(Āo).length<=i+1:=by
    unfold w8
    split;omega;rw[è];exact _+1<=_;omega
   show{_,[À (Ä,.lst z6),À (Ã,.dic Āo (wA ks vs Ċe Ϗh)),À (Ä,.int (n:Â)),À (Ä,xm u)],rfl,.inl ?_,w8 ks Ċe,wA ks vs Ċe Ϗh,_,VX j,m,λt=>?_,by rw[a]}
   .unfold MD;simp only[Ö,k,jV,s,r,Ð f]
   .rw[z4p j,l,lI,hn,c];by_cases e:u=t
    .rw[Ð Řo,Ð e];rfl
    .rw[Ñ (λz=>e (Ďi z)),Ñ e]
  |Ä=>
   rw[hL]at k
   let a:(Ûp).length=n+1:=by rw[l,Ŵb,è,hn,Ša (by rw[hL];rfl)];rfl
   show{_,[À (Ä,.lst z6),À (Ã,.dic ks vs),À (Ä,.int ((n:Â)+1:Æ)),À (Ä,v)],rfl,.inl ?_,ks,vs,_,j,by omega,λt=>?_,by rw[a];rfl}
   .unfold MD;simp only[Ö,k]
   .rw[l,lK hL,c])
 rw[ĺ,Ňc]at c;show{ks,vs,?_,j,c};rw[z5x];unfold C8;rw[ėq]
theorem fO{z6:Á D}(h:∀d∈z6,xL d)(c:ňa<=1000):∃ks vs,WX ť=À (Ã,.dic ks vs)/\∀t,ċ ks vs ķd=(Ňe).map λn:Â=>Ě n:=by let{ks,vs,a,_,b}:=z8x h c;show{ks,vs,a,b}
def z1h:FS:=
 (zR (yF 0 (xV (zB Ţh (zB (eC ūf) (Ηe (zB (eC Ũa) (zB (eC ńb) (zB (eC ŧa) (zB (eC Ņb) (zB (eC Ŋb) (zB (eC Ţc) (zB ðj (zB Øg (Ζ čd))))))))))))))
  (zR (yF 0 (e2 xF ý (xV (Ξd (eC Ŭf) (zB (eC ŭf) (zB ĵe (Ξe ïp)))))))
  (yY (e2 xF ý (xV (zB Ţh (Ηe (Ξe (zB ðj (Ζ ńb))))))))))
def Qw:Á D->É ä:=FR 0 1 z1h
def Y3:FS:=
 (zR äk
  (zR ĕl
  (zR Ĕl
  (zR ŋk
  (zR Ńo
  (zR (yS (Δb (zB Ţh (Ζ ūf)))
   (Κb (ηb (eC ói) ϧm))
   yi)
  (zR (yS (Δb (zB Øg (Ζ (.str ĕa))))
   (Κb (ηb (eC ώb) ϧm))
   yi)
  (zR (yS (Δb (Ξd (eC Ŭf) (Ζ ŭf)))
   (Κb (zB ϣa (ηb ϟm ŧh)))
   yi)
  (zR (yS (tE (e2 za Ī ĵe))
   (δb Ěk)
   yi)
  (zR (yS (Δb (zB ŵd (Ζ Ũo)))
   (ηa (zB Ī (zB (e2 zH (xV (zB (eC Ŧc) (zB (eC āe) ìp))) (e2 yx ϣa Õb)) Ěk)))
   yi)
  (zR (yS (tE (e2 za Ī (eC Đb)))
   (yY (xz øc))
   yi)
  (Κb ϗi))))))))))))
def Qu:Á D->É ä:=FR 3 7 Y3
def V7(b a c:D):Qu Ϩ=yM 7 Y3 Ϩ:=rfl
def mW:FA:=Ŵn
def Bd:FE:=(χd (e2 vF (e2 vF ý Őb) (e2 zH (εa (ŗb Ě Ϻe)) Âa)))
def mZ:FA:=(qO ĝ û)
def Ri:FE:=(e2 xF (e2 xF (Y9 ŝ YQ Úg) (χd (e2 xF (υa (.int 512)) Âa))) (Y9 ŝ Úg YQ))
def CF:FS:=
 (zR (yF 2 (eC ũo))
  (zR (yF 3 (e2 yx ý Őb))
  (zR (yF 4 (e2 EU (eC (.str "")) (wK 1 mW Ŝe xY Bd)))
  (zR (yF 5 (e2 yx ϲk ċf))
  (zR (yF 4 (Y9 ŝ YQ (YR Ļn)))
  (vY (wK 1 mZ Ŝe xY Ri)))))))
def Qt:Á D->É ä:=FR 2 6 CF
def z63(b a:D):Qt ą=yM 6 CF ą:=rfl
def mh:FA:=Ŵn
def Rk:FE:=(zg Qu (zB (Λc (e2 xF (e2 xF û Õb) Įg)) (zB ŝ ϗi)))
def mi:FA:=(qO ĝ ċf)
def Rl:FE:=Įg
def Bh:FT:=(Κ (e2 zH Įg Đd) (e2 zH ŝ üb))
def MF:FS:=(zR (yS Ϙj
     âk
     yi)
    (yS (tE (e2 įc üb Ī))
     (u_ 8 uR (e2 zH Âa üb))
     yi))
def CI:FS:=
 (zR (yF 3 (e2 yx ïo (e2 xF Ĵ ĸ)))
  (zR (yF 4 (zg Qt (zB (zg uC (χa Èe)) (Α ċf))))
  (zR (yF 5 (e2 zH (xV (zB Õb ĕf)) (e2 yx (Ζc (Α (e2 xF û (eC Űa)))) ϑa)))
  (zR (yF 6 (wK 1 mh (zt 9) xY Rk))
  (zR (t4 8 øb)
  (zR (qy mi Űj
   MF)
  (qz 8)))))))
def Uh:Á D->É ä:=FR 3 9 CI
def z66(b a c:D):Uh Ϩ=yM 9 CI Ϩ:=rfl
def z3d(a b:Ç):(ώj).cps.toList=a.cps.toList++b.cps.toList:=Ķc
def LW(z:Ç)(lo hi:É Æ):(ĥn).length<=Ŀ:=łe z lo hi
def z3e(z:Ç):(Ŷa z Å Ļj).length<=7:=by exact(((ģh 0).take (Ŏ Ŀ Ŀ (À ((7:Â):Æ))-0)).toArray).size<=7;rw[HT.sIx_nat,ĥ,Ýa];omega
def y0j{m:Æ}(m0:0<=m){Åc:Æ}(n0:0<=Åc)(n1:Åc<=20):∃N:Á Ç,ŗ=þd/\ϒc/\(∃ln:Â,ln<=100/\∀t∈N,Ŵa=ln)/\Qt [.int m,.int Åc]=À (Ã,.lst ľb):=by
 let w:mW [À (Ä,.int m),À (Ä,.int Åc),À (Ä,.str Ëc),À (Ä,.int Ŷe),Å,Å]=À ŝm:=kF (n:=m%8) rfl Ê
 obtain⟨ts,e1,E⟩:∃ts:Á Ç,xi Ŝe xY Bd ϧj ŝm=À Če/\∀t∈ts,Ŵa=1:=by
  let{f,G,J}:=He (g:=zt 6) (e:=Bd) (σ:=ϧj) (λ_ y=>∃t:Ç,y=.str t/\Ŵa=1) (ds:=wW (Ŷe).toNat) λd v=>by
   let{i,hi,rfl}:=RU v
   obtain⟨p,p0,p1,H⟩:∃p:Æ,0<p/\p<20000/\zH (Β (ŗb D.int Ϻe)) Îa=À (.int p):=by rcases(show i=0\/i=1\/i=2\/i=3\/i=4\/i=5\/i=6 by omega)with rfl|rfl|rfl|rfl|rfl|rfl|rfl<;>show{_,by decide,by decide,rfl}
   let a:=bW (k:=m/8/p%26) Ê Ê;let u:decide (0<p)=Ã:=ù p0;let Z:decide (p<18446744073709551616)=Ã:=ù Ê;show{_,.str (lt (m/8/p%26)),rfl,?_,_,rfl,Hl _};unfold Bd;generalize ŗb Ě Ϻe=PS at H;simp only[Ö,H,u,Z,a]
  let:∃ts:Á Ç,f=Ćc Åa/\∀t∈ts,Ŵa=1:=by
   let h:∀x∈f,∃t:Ç,x=.str t/\Ŵa=1:=λx U=>by let{_,_,r}:=JY J x U;show r
   clear G J
   induction f with
   |nil=>show{[],rfl,λ_ h=>by cases h}|ú x f ih=>
    let{t,rfl,l}:=h x Õa;let{ts,rfl,ls}:=ih λy q=>h y üp
    show⟨t::ts,rfl,λy q=>by rcases ħ q with rfl|q;show l;show ls y q⟩
  let{ts,rfl,h}:=this;show{ts,G,h}
 let tl:żf=(Ŷe).toNat:=by
  let:=Ŧ (λo=>(őd []).length) e1
  let Q:∀{g:FG}{e:FE}{σ:zu}{ds f:Á D},xi g xY e σ ds=À f->ĭa=þ:=λ{g e σ ds}=>by
   induction ds with
   |nil=>intro f h;cases h;rfl|ú d ds ih=>intro f h;let{σ1,I,h}:=zG (show(Ϫb).bind _=À f from h);let{x,h3,h}:=zG (show(ňd).bind _=À f from h);let{ys,h4,h}:=zG h;cases h;rw[Ĉ,Ĉ,ih h4]
  let:=Q e1;rw[å,Vs]at this;rw[Œp]
 let sm:∀{l:Á Ç},(∀t∈l,Ŵa=1)->(Úa (·.length)).sum=ϥb:=λ{l}=>by
  induction l with
  |nil=>intro _;rfl|ú x l ih=>intro h;rw[ľ,Ģf,ih λy q=>h y üp,h x Õa,Ĉ];omega
 let P:("" : Ç).length=0:=rfl;let jn:=z7y (sep := "") (ts:=ts) (by rw[sm E,P,tl];omega);generalize ĕm "" ts=W0 at jn;obtain⟨W,L⟩:∃W:Ç,W=Ŷa W0 Å Ļj:={_,rfl};let lW:Èg<=7:=by rw[L];show z3e W0
 let u:decide (0<m%8+1)=Ã:=ù Ê;obtain⟨c,s⟩:∃c:Æ,c=m/64%(m%8+1):={_,rfl};let A:mZ [À (Ä,.int m),À (Ä,.int Åc),À (Ä,.str Ëc),À (Ä,.int Ŷe),À (Ä,.str W),À (Ä,.int c)]=À (wW þd):=kF (n:=Åc) rfl Ê
 let e2:=YJ (g:=zt 6) (e:=Ri) (σ:=[À (Ä,.int m),À (Ä,.int Åc),À (Ä,.str Ëc),À (Ä,.int Ŷe),À (Ä,.str W),À (Ä,.int c),Å]) ϡj (ds:=wW þd) λd v=>by let{i,hi,rfl}:=RU v;let a:=bW (k:=Īk%26) Ê Ê;let S:=LW W Å Ća;let l2:=LW W Ća Å;let l3:=Hl Üj;let Y:Y9 ŝ YQ Úg ϛj=À (.str ώm):=rfl;let s2:Y9 ŝ Úg YQ ϛj=À (.str ύm):=rfl;let F:=òg (a:=Ŷa W Å Ća) (b:=lt Üj) Ê;let B:=òg (a:=Ŷa W Å Ća++lt Üj) (b:=Ŷa W Ća Å) (by rw[Hh];omega);rw[šp];unfold Ri;simp only[Ö,Y,s2,Ϧ,a,F,B]
 let T:(wW þd).map ϡj=((Ϙi).map λj:Â=>Ŷa W Å Ća++lt óh++Ŷa W Ća Å).map Åa:=by rw[îa,îa];rfl
 rw[T]at e2;refine{(Ϙi).map λj:Â=>Ŷa W Å Ća++lt óh++Ŷa W Ća Å,by rw[å,ëa],?_,{(ώm).length+1+(ύm).length,?_,λt E=>?_},?_};show Ĭl (List.Pairwise.imp_of_mem (λ{a b} O K R=>?_) (List.nodup_range (n:=þd)));intro h;let O:=ϫd O;let K:=ϫd K;let I:=Ŧ (λz:Ç=>Āf) h;let X:∀x:Æ,(lt x).cps.toList=[97+x.toNat]:=λ_=>rfl
 simp only[z3d,X,Ū,List.append_cancel_left_eq,ŉc,ãc,List.cons.injEq]at I;omega;let S:=LW W Å Ća;let l2:=LW W Ća Å;omega;let{j,_,rfl}:=ϫ E;rw[Hh,Hh,Hl];let C:EY (.str W0) Å Ļj=À (.str W):=by rw[L];rfl
 rw[z63];unfold CF;generalize ŗb Åa (ŗb (λj:Â=>Ŷa W Å Ća++lt óh++Ŷa W Ća Å) Ϙi)=NN at w e1 jn u s C A e2 ⊢;generalize Ćc Åa=TT at w e1 jn u s C A e2 ⊢;simp only[Ö,w,e1,jn,Ϧ,u,<-s,Y9,YR,YQ,C,A,e2]
abbrev OD:D:=.lst [.str ŏ,.str ób,.str ϰ,.str ĸa,.str Ċa,.str ķa,.str ĉa,.str ϊa,.str ώa,.str Àb,.str ôa,.str įa,.str ĕa,.str ŕa,.str ėa,.str Ŏa,.str ēa,.str ća,.str ϧ,.str ϑ,.str ϳb,.str ŏ,.str ϰ,.str ĸa,.str ϧ,.str ϑ,.str ôa,.str ķa]
theorem x7u:Qw []=À (Ä,OD):=by rfl
def L8(w:Ç):È:=(w = ŏ \/ w = ób)\/(w = įa \/ w = ĕa)\/(w = ŕa \/ w = ėa \/ w = Ŏa \/ w = ēa)\/(w = ϰ \/ w = ĸa \/ w = Ċa \/ w = ķa \/ w = ĉa \/ w = ϊa \/ w = ώa \/ w = Àb \/ w = ôa)\/w = ća \/ Ūl\/w = ϳb
nonrec def rq(w:Ç):źi (L8 w):=by unfold L8;infer_instance
def x7s:((Ûa 28).all λk:Â=>match zH OD ěf with
  |À Ř=>@decide (L8 w) (rq w)|_=>Ä)=Ã:=by rw[ŋp]
def x7t(a:0<=v)(b:v<28):∃w:Ç,L8 w/\zH OD Ϣb=À Ř:=by
 let h:=ûa x7s v.toNat (úa Ê);rw[ϟd a]at h;generalize zH OD Ϣb=o at h ⊢
 rw[ũp];show{_,@of_decide_eq_true _ (rq _) h,rfl};cases h
def MY{a b i:Æ}(c:0<=i)(d:i<2):∃n,(n=a\/n=b)/\zH (.lst [.int a,.int b]) Áa=À Ĺe:=by rcases(show i=0\/i=1 by omega)with rfl|rfl;show{a,by simp,rfl};show{b,by simp,rfl}
def Vd{n:Â}{b:FS}{ds:Á D}{r:É Fl}{o:Ï}{d:D}(h:b Ċk=r)(e:r=À Žc):yM n b ds=À (o,d):=by unfold yM;rw[h,e];rfl
def vS{f:FE}{σ:zu}{k:Ï}(h:f σ=À Ŋd):tE f σ=À k:=by unfold tE;rw[h];rfl
def uQ{c:FT}{a b:FS}{σ:zu}(h:c σ=À Ä):zR (yS c a yi) b σ=b σ:=v6 ((z7g h).trans rfl)
def Uz{c:FT}{a b f:FS}{σ:zu}{o:Ï}{d:D}(h:c σ=À Ã)(e:a σ=À Žc):zR (yS c a f) b σ=À Žc:=x0h ((z7h h).trans e)
def y8j{N:Á Ç}(L:N≠[]){m:Æ}(Y:0<=m){d:Æ}(W:d=3\/d=8):∃r,jj N r/\Qu [.int m,.lst ľb,.int d]=À (Ä,r):=by
 let{w,c,A}:=x7t (v:=m%28) Ê Ê;let H:=x7u;let U:0<ŗ:=Çh L;let G:decide (0<d)=Ã:=ù Ê;obtain⟨q,R⟩:∃q:Æ,q=m/28:={_,rfl};let o:=ĺb q (show d≠0 by omega);let Q:=ķb q (show 0<d by omega);let u:=ĺb (q/8) (show d≠0 by omega);let O:=ķb (q/8) (show 0<d by omega);obtain⟨g,E⟩:∃z:Æ,z=q%d:={_,rfl};obtain⟨two,y⟩:∃z:Æ,z=q/8%d:={_,rfl};rw[<-E]at o Q;rw[<-y]at u O
 have Ŭe:∀yC:FS,zR äk
  (zR ĕl
  (zR Ĕl
  (zR ŋk
  (zR Ńo yC)))) [À (Ä,.int m),À (Ä,.lst ľb),À (Ä,.int d),Å,Å,Å,Å]=yC [À (Ä,.int q),À (Ä,.lst ľb),À (Ä,.int d),À (Ä,.str w),À (Ä,.int g),À (Ä,.int two),À (Ä,.int ķg)]:=λyC=>by
  generalize ťb Åa=NN at *
  rw[v6 (σ':=[À (Ä,.int m),À (Ä,.lst NN),À (Ä,.int d),À (Ä,.str w),Å,Å,Å]) (by generalize OD=WD at H A ⊢;simp only[Ö,H,A])]
  rw[v6 (σ':=[À (Ä,.int q),À (Ä,.lst NN),À (Ä,.int d),À (Ä,.str w),Å,Å,Å]) (by simp only[Ö,<-R])];rw[v6 (σ':=[À (Ä,.int q),À (Ä,.lst NN),À (Ä,.int d),À (Ä,.str w),À (Ä,.int g),Å,Å]) (by simp only[Ö,G,<-E])];rw[v6 (σ':=[À (Ä,.int q),À (Ä,.lst NN),À (Ä,.int d),À (Ä,.str w),À (Ä,.int g),À (Ä,.int two),Å]) (by simp only[Ö,G,<-y])];rw[v6 (σ':=[À (Ä,.int q),À (Ä,.lst NN),À (Ä,.int d),À (Ä,.str w),À (Ä,.int g),À (Ä,.int two),À (Ä,.int ķg)]) (by simp only[Ö])]
 let S:∃t∈N,zH ép (.int ŉh)=À ϭb:=by
  let T:=ĺb ķg (show(ŗ:Æ)≠0 by omega);let Z:=ķb ķg (show 0<(ŗ:Æ) by omega);let I:(ŉh).toNat<ŗ:=by omega
  show{N[(ŉh).toNat],ŷb I,jt T (by rw[ņ,Ē I];rfl)}
 let{t,J,B}:=S;let C:decide (0<(ŗ:Æ))=Ã:=ù Ê;rcases c with c|c|c|c|c|c|c;let{n,F,s}:=MY (a:=q/64%65536) (b:=q/64%3) (i:=q/32%2) Ê Ê;let e:xM Ř Įc=À Ĭ:=by rcases c with rfl|rfl<;>rfl
 refine{_,.plain (.Yt c o Ê (show 0<=n by omega) Ê),?_};rw[Ŋp];show Uz (vS e) äh;let{n,F,s}:=MY (a:=q/64%32) (b:=q/64%3) (i:=q/32%2) Ê Ê;let e:xM Ř Įc=À Ā:=by rcases c with rfl|rfl<;>rfl
 let f:xM Ř Ϲc=À Ĭ:=by rcases c with rfl|rfl<;>rfl
 refine{_,.plain (.Yv c o Ê (show 0<=n by omega) Ê),?_};rw[Ŋp];show(ďd).trans (Uz (vS f) äh);let{n,F,s}:=MY (a:=q/64%256) (b:=q/64%4) (i:=q/32%2) Ê Ê;let e:xM Ř Įc=À Ā:=by rcases c with rfl|rfl|rfl|rfl<;>rfl
 let f:xM Ř Ϲc=À Ā:=by rcases c with rfl|rfl|rfl|rfl<;>rfl
 let j:xM Ř ūd=À Ĭ:=by rcases c with rfl|rfl|rfl|rfl<;>rfl
 refine{_,.plain (.mem c o Ê u Ê (show 0<=n by omega) Ê),?_};rw[Ŋp];show(ďd).trans ((Ăo).trans (Uz Ϻi äh));let k:xM Ř Įc=À Ā/\xM Ř Ϲc=À Ā/\xM Ř ūd=À Ā/\za Ř ϕa=À Ā/\xM Ř Ϯg=À Ā/\za Ř Đb=À Ā:=by rcases c with rfl|rfl|rfl|rfl|rfl|rfl|rfl|rfl|rfl<;>show{rfl,rfl,rfl,rfl,rfl,rfl}
 let{e,f,j,l,p,x}:=k;refine{_,.plain (.two c o Ê u Ê),?_};rw[Ŋp];show(ďd).trans (Κc ((āo).trans ((uQ (vS x)).trans rfl)));subst c;let k:xM ϕa Įc=À Ā/\xM ϕa Ϲc=À Ā/\xM ϕa ūd=À Ā/\za ϕa ϕa=À Ĭ:={rfl,rfl,rfl,rfl};let{e,f,j,l}:=k;show{_,.wc J,?_};rw[Ŋp];show(ďd).trans ((Ăo).trans ((uQ Ϻi).trans (Uz (vS l) (by simp only[Ö,å,C,B]))));let k:xM Ř Įc=À Ā/\xM Ř Ϲc=À Ā/\xM Ř ūd=À Ā/\za Ř ϕa=À Ā/\xM Ř Ϯg=À Ĭ:=by rcases c with rfl|rfl<;>show{rfl,rfl,rfl,rfl,rfl}
 let{e,f,j,l,p}:=k
 obtain⟨X,K,P⟩:∃k:Ç,Ũk/\zH (.lst [.str ϭ,.str àa,.str åa]) (Ε (two%3))=À Ϯb:=by rcases(show two%3=0\/two%3=1\/two%3=2 by omega)with h|h|h<;>rw[h];show{ϭ,by simp,rfl};show{àa,by simp,rfl};show{åa,by simp,rfl}
 show{_,.cond c K J,?_};rw[Ŋp];show(ďd).trans (Κc (Uz (vS p) (by simp only[Ö,å,C,B,P])));subst c;let k:xM Đb Įc=À Ā/\xM Đb Ϲc=À Ā/\xM Đb ūd=À Ā/\za Đb ϕa=À Ā/\xM Đb Ϯg=À Ā/\za Đb Đb=À Ĭ:={rfl,rfl,rfl,rfl,rfl,rfl};let{e,f,j,l,p,x}:=k;show{_,.plain .stop,?_};rw[Ŋp];show(ďd).trans (Κc ((āo).trans (Uz (vS x) rfl)))
structure PC(z6:Á D):È where
 it:∀d∈z6,xL d
 nd:(ôe zi).Nodup
 tg:∀d∈z6,vh d=Ã->∃(t:Ç) (p:Â),zH d Ũc=À ϭb/\Ŝc.2=À p
 ln:ňa<=100
def ZL(t:Ç)(d:D):Ï:=xh (fP d) ϭb
def z8z{N:Á Ç}{d:D}(h:jj N d)(t:Ç):∃x,zH d Ũc=À x/\za x ϭb=À (.bl (ZL t d)):=by
 cases h with
 |Æa h=>cases h<;>show{_,rfl,rfl}|wc ht=>show{_,rfl,rfl}|Ő hw hk ht=>show{_,rfl,rfl}
def y8i{N:Á Ç}{d:D}(h:jj N d)(a:vh d=Ã):∃t∈N,zH d Ũc=À ϭb/\ZL t d=Ã:=by
 cases h with
 |Æa h=>let{_,_,_,_,c,_}:=VV h;rw[c]at a;cases a
 |wc ht=>rename_i t;show{t,ht,rfl,ϗa t}|Ő hw hk ht=>rename_i t;show{t,ht,rfl,ϗa t}
structure bU(N:Á Ç)(R:Á D)(k:Â)(L:Á D):È where
 it:∀d∈L,Ox N d
 rs:Ϗb ïc=Ĥg k
 nd:(Ìg).Nodup
 lb:∀d∈L,zi d=Ã->∃j,j<k/\∃t,N[j]?=À t/\d=xm t
 pl:∀j t,j<k->N[j]?=À t->(∃r∈R,ZL t r=Ã)->Ϫa.2=À j
 ln:Àa<=2*k
theorem iE:∀{N:Á Ç},ϒc->∀{i j:Â}{u:Ç},N[i]?=À u->N[j]?=À u->i=j
 | [],_,_,_,_,h,_=>by cases h|x::N,h,0,0,_,_,_=>rfl|x::N,h,0,j+1,u,hi,hj=>by cases hi;show Ý (ϛ Ϲl) Ĳj.1|x::N,h,i+1,0,u,hi,hj=>by cases hj;show Ý (ϛ Úf) Ĳj.1|x::N,h,i+1,j+1,u,hi,hj=>by rw[iE Ĳj.2 (i:=i) (j:=j) Úf Ϲl]
theorem fN{t u:Ç}(h:xm t=xm u):t=u:=by
 unfold xm at h;injection h with h
 injection h with _ h
 injection h with h _
 injection h
def x21{N:Á Ç}(q:ϒc){R L:Á D}{k:Â}(S:bU N R k L){t:Ç}(l:N[k]?=À t)(hk:k<=Ϡb) :(∀d∈L++[xm t],Ox N d)/\(Ġi).filter ïc=Ĥg k/\((Ġi).filter zi).Nodup/\(∀d∈L++[xm t],zi d=Ã->∃j,j<k+1/\∃t,N[j]?=À t/\d=xm t)/\(∀j u,j<k+1->N[j]?=À u->(∃r∈R,ZL u r=Ã)->(xG u Ġi).2=À j):=by
 let g:∀{i j:Â}{u:Ç},N[i]?=À u->N[j]?=À u->i=j:=λv m=>iE q v m
 show{λd c=>?_,?_,?_,λd c o=>?_,λj u m f w=>?_};rcases ż c with c|c;show S.it d c;cases Į c;show .inr {t,ϛ l,rfl};rw[Ŵb,S.rs];exact Ĥg k++[]=_;rw[ώ];rw[Ŵb];exact(Ϗb zi++[xm t]).Nodup;refine Áf {S.nd,Ùd {by simp,Ùb},λa p b s e=>?_};cases Į s;let{p,o}:=űb p;let{j,m,u,f,n}:=S.lb a p o;let:=fN (n.symm.trans e);rw[çq];let:=g f l;omega;rcases ż c with c|c;let{j,m,u,f,n}:=S.lb d c o;show{j,by omega,u,f,n};cases Į c;show{k,by omega,t,l,rfl};rw[lI];by_cases e:t=u;subst e;let:=g f l;rw[Ð rfl,S.rs,Ýa,this]
 congr 1
 omega;rw[Ñ e];show S.pl j u ?_ f w;rcases ìc j k with h|h;show h;let:j=k:=by omega
 rw[çq];rw[l]at f;cases f;show Ý rfl e
def y6u{ns:Á Æ}(E:Ŝ<=63)(Z:∀m∈ns,vC m<=1048576){first řa:Æ}(f0:0<=first)(O:first<=40)(m0:0<=řa)(m1:řa<=14) :∃(N:Á Ç) (R z6:Á D),ųk/\ŗ=Ϡb+1/\ϒc/\(∀r∈R,jj N r)/\PC z6/\ôe ïc=R/\ňa<=40/\Uh Şk=À (Ã,.lst z6)/\(∃ln:Â,∀t∈N,Ŵa=ln)/\∀t,xm t∈z6->t∈N:=by
 let{a,a0,a1,ea}:=g_ E Z (k:=first) f0 Ê;let{b,b0,b1,eb}:=g_ E Z (k:=first+1) Ê Ê;let{c,c0,c1,T}:=g_ E Z (k:=first+2) Ê Ê
 let em:∀i:Â,i<20->∃m:Æ,0<=m/\uC [.lst Ϥ,.int (first+3+(i:Æ))]=À (Ä,.int m):=λi hi=>by let{m,h0,_,e}:=g_ E Z (k:=first+3+(i:Æ)) Ê Ê;show{m,h0,e}
 generalize ťd Ϥ=s at ea eb T em ⊢;let g0:decide (0<řa+1)=Ã:=ù Ê;obtain⟨l,F⟩:∃z:Æ,z=a%(řa+1):={_,rfl};let ct0:0<=l:=by rw[F];show ĺb _ Ê
 let ct1:l<řa+1:=by rw[F];show ķb _ Ê
 let{N,nl,nd,W,en}:=y0j b0 (Åc:=l+1) Ê Ê;let nn:N≠[]:=λz=>by rw[z]at nl;simp at nl;omega
 let{A,hmn,X}:=MY (a:=3) (b:=8) (i:=c%2) Ê Ê;let r1:mh [À (Ä,s),À (Ä,.int first),À (Ä,.int řa),À (Ä,.int l),À (Ä,.lst ľb),À (Ä,.int A),Å,Å,Å]=À (wW ϐc):=kF (n:=l) rfl Ê
 let{R,e1,eR}:=He (g:=zt 9) (e:=Rk) (σ:=[À (Ä,s),À (Ä,.int first),À (Ä,.int řa),À (Ä,.int l),À (Ä,.lst ľb),À (Ä,.int A),Å,Å,Å,Å]) (λ_ y=>jj N y) (ds:=wW ϐc) λd o=>by let{i,hi,rfl}:=RU o;let{m,h0,e}:=em i Ê;let{r,C,er}:=y8j nn h0 hmn;show{_,r,rfl,?_,C};unfold Rk;generalize ťb Åa=NN at e er ⊢;simp only[Ö,Ϧ,e,er]
 have rl:Ϡb=ϐc:=by rw[<-cz eR,Vs]
 let hR:∀r∈R,jj N r:=λr C=>by let{_,_,h}:=JY eR r C;show h
 let r2:mi Ŕg=À (wW (ϐc+1)):=by let:=kF (f:=e2 xF Ī ĸ) (τ:=Ŕg) (n:=l+1) rfl Ê;rw[show(l+1).toNat=ϐc+1 by omega]at this;rw[Œp]
 let{σ',e3,L,x7,S,rfl}:=gx (g:=zt 7) (b:=MF) (λi σ=>∃L x7,bU N R i L/\σ=[À (Ä,s),À (Ä,.int first),À (Ä,.int řa),À (Ä,.int l),À (Ä,.lst ľb),À (Ä,.int A),À (Ä,.lst R),x7,À (Ã,.lst L)]) (ds:=wW (ϐc+1))
  (σ:=Ŕg) 0 {[],Å,{Ϥd,by rw[Ďf];rfl,Ùb,Ϥd,ťl,Ŕ _},rfl} (by
  rintro i v σ hv ⟨L,x7,S,rfl⟩;let{hi,rfl}:=Vr hv;rw[ĺ]at *;let hiN:i<ŗ:=by omega
  let gN:N[i]?=À N[i]:=Ē hiN;let Q:zH ép Îa=À (.str N[i]):=jt Ê (by rw[ē,ņ,gN];rfl)
  let O:=VJ (g:=zt 9) (c:=Bh) (e:=Rl) (σ:=[À (Ä,s),À (Ä,.int first),À (Ä,.int řa),À (Ä,.int l),À (Ä,.lst ľb),À (Ä,.int A),À (Ä,.lst R),À (Ä,.int (i:Æ)),À (Ã,.lst L),Å]) õi id (ds:=R) λd o=>by let{x,q1,q2}:=z8z (hR d o) N[i];show{_,rfl,?_,λ_=>rfl};unfold Bh;generalize ťb Åa=NN at q1 Q q2 ⊢;simp only[Ö,q1,Q,q2]
  rw[êe]at O;let H:=Hx Êp
  have lab:∃ w,yS Ϙj
     âk
     yi œg=À (.nx ϕj)/\
    ěe<=2*i+1/\(∀d∈w,Ox N d)/\w.filter ïc=Ĥg i/\(w.filter zi).Nodup/\(∀d∈w,zi d=Ã->∃j,j<i+1/\∃t,N[j]?=À t/\d=xm t)/\(∀j u,j<i+1->N[j]?=À u->(∃r∈R,ZL u r=Ã)->(xG u w).2=À j):=by
   let q:=Wr (L:=L) (r:=xm N[i]) (by let:=S.ln;omega);let B:=x21 nd S gN Ê;let ll:(L++[xm N[i]]).length<=2*i+1:=by rw[è];let:=S.ln;exact Àa+1<=_;omega
   unfold xm at q;cases hE:(Êp).isEmpty with
   |Ä=>
    rw[hE]at H;rw[ïq];generalize ťb Åa=NN at O H Q q ⊢;simp only[Ö,O,H,Q,q]
   |Ã=>
    rw[hE]at H
    let P:¬ ∃r∈R,ZL N[i] r=Ã:=λ⟨r,C,h⟩=>by let:r∈ĩi õi:=Úd {C,h};rw[ϖl hE]at this;rw[Ĥq]
    by_cases hc:c/2%5=(i:Æ)
    .let k:=eE hc;rw[ïq];generalize ťb Åa=NN at O H T k Q q ⊢;simp only[Ö,O,H,Ϧ,T,k,Q,q]
    .let k:=eF hc;show{L,?_,by let:=S.ln;omega,S.it,S.rs,S.nd,λd o E=>?_,λj u U K C=>?_}
     .generalize ťb Åa=NN at *;simp only[Ö,O,H,Ϧ,T,k]
     .let{j,U,t,Y,e}:=S.lb d o E;show{j,by omega,t,Y,e}
     .rcases ìc j i with h|h
      .show S.pl j u h K C
      .let:j=i:=by omega
       rw[çq];rw[gN]at K;cases K;show Ý C P
  let{w,el,ll,l1,l2,l3,l4,l5}:=lab;by_cases hir:i<ϐc
  .let p:decide ĕo=Ã:=ù Ê;let J:i<Ϡb:=by omega
   let I:zH (.lst R) Îa=À R[i]:=jt Ê (by rw[ē];show Ē J);let q:=Wr (L:=w) (r:=R[i]) Ê;let rA:=hR _ (ŷb J);let G:=(Kw rA).2;show{_,[À (Ä,s),À (Ä,.int first),À (Ä,.int řa),À (Ä,.int l),À (Ä,.lst ľb),À (Ä,.int A),À (Ä,.lst R),À (Ä,.int (i:Æ)),À (Ã,.lst (w++[R[i]]))],rfl,.inl ?_,w++[R[i]],_,{?_,?_,?_,?_,?_,?_},rfl}
   .rw[æq];generalize ťb Åa=NN at p I q ⊢;generalize R[i]=RI at p I q ⊢;simp only[Ö,p,I,q]
   .intro d o;rcases ż o with o|o
    .show l1 d o
    .cases Į o;show .inl rA
   .rw[Ŵb,l2,Ša (by rw[G];rfl),Âe,Ïc J]
   .rw[Ŵb,ša (by rw[G];decide),Âe,ώ];show l3
   .intro d o E;rcases ż o with o|o
    .show l4 d o E
    .cases Į o;rw[G]at E;cases E
   .intro j u U K C;rw[lK G];show l5 j u U K C
   .rw[è];exact ěe+1<=_;omega
  .let p:decide ĕo=Ä:=Ĕ Ê;show{_,ϕj,rfl,.inl ?_,w,_,{l1,?_,l3,l4,l5,by omega},rfl}
   .rw[æq];generalize ťb Åa=NN at p ⊢;simp only[Ö,p]
   .rw[l2,Úc Ê,Úc Ê])
 rw[Vs,ĺ]at S;let ln:=S.ln;refine{N,R,L,by omega,by omega,nd,hR,{λd o=>z7s (S.it d o),S.nd,λd o U=>?_,by omega},by rw[S.rs,Úc Ê],by omega,?_,?_,λt Y=>?_};rcases S.it d o with h|⟨t,_,rfl⟩;let{t,Y,e,li}:=y8i h U;let{j,hj2,ej}:=ϝd Y
 let dR:d∈R:=by
  let:d∈Ϗb λd=>!zi d:=Úd {o,by rw[(Kw h).2];rfl}
  rw[S.rs]at this;show ϕd this
 show{t,j,e,S.pl j t Ê (by rw[Ē hj2,ej]) {d,dR,li}};cases U;rw[z66];unfold CI;generalize ťb Åa=NN at ea g0 F eb en T X r1 e1 r2 e3 ⊢;simp only[Ö,ea,Ϧ,g0,<-F,eb,en,T,X,r1,e1,r2,e3];let{ln,_,h}:=W;show{ln,h};let{j,_,u,K,e}:=S.lb _ Y rfl;rw[fN e];show ϛ K
def y6t{ns:Á Æ}(j:Ŝ<=63)(l:∀m∈ns,vC m<=1048576){first řa:Æ}(k:0<=first)(n:first<=40)(i:0<=řa)(o:řa<=14) :∃(N:Á Ç) (R z6:Á D),ųk/\ŗ=Ϡb+1/\ϒc/\(∀r∈R,jj N r)/\PC z6/\ôe ïc=R/\ňa<=40/\Uh Şk=À (Ã,.lst z6):=by let{N,R,z6,a,b,c,d,e,f,g,h,_}:=y6u j l k n i o;show{N,R,z6,a,b,c,d,e,f,g,h}
def sF:FE:=û
def Rw:FT:=(tE (e2 vG đb ĳd))
def CK:FS:=
 (vY (wK 1 Ϩb ϱa Rw sF))
def Ui:Á D->É ä:=FR 1 1 CK
def z68(a:D):Ui [a]=yM 1 CK [a]:=rfl
def z95{z6:Á D}(h:∀d∈z6,xL d):Ui ť=À (Ã,.lst œm):=by
 let e:=VJ (g:=zt 1) (c:=Rw) (e:=sF) (σ:=ûl) ïc id (ds:=z6) λd f=>by let{w,a,b,_}:=Jz (h d f);let b:=i8 b;show{_,rfl,?_,λ_=>rfl};unfold Rw;simp only[Ö,a,b]
 rw[êe]at e;rw[z68];unfold CK;rw[ėq]
nonrec def zK(a:Á Â):Á D:=Ğc λi:Â=>Ě i
def z7l(q:Â)(a:Á Â):Lk Ñe (Β ϲa)=À (decide (q∈a)):=by
 let c:(ϲa).all xQ=Ã:=Öd λy b=>by let{p,_,rfl}:=ϫ b;rfl
 exact(match xQ Ñe&&(ϲa).all xQ with|Ã=>À ((ϲa).any λy=>xh y Ñe)|Ä=>Å)=_;rw[c];exact À _=_
 congr 1
 let e:∀y:Â,xh (.int (y:Æ)) Ñe=((y:Æ)==(q:Æ)):=λy=>rfl
 by_cases h:q∈a;rw[ù h];show řl {.int (q:Æ),ňc {q,h,rfl},by rw[e];show ϗa _};rw[Ĕ h];cases z:(ϲa).any λy=>xh y Ñe with
 |Ä=>rfl|Ã=>
  let{d,f,w}:=ϗl z;let{y,b,rfl}:=ϫ f;rw[e,ϖb]at w;let:y=q:=by omega
  show Ý (this▸b) h
theorem fJ:∀qs:Á Â,VH (Ģb λi:Â=>Ĩb ìd)=À (Ģb λi:Â=>ı (i:Æ),Ģb λ_=>øa Ã)
 | []=>rfl|a::qs=>by exact(uU Ĝf).bind _=_;exact(VH (Ģb λi:Â=>Ĩb ìd)).bind _=_;rw[fJ qs];rfl
theorem L_(n:Â):∀qs:Á Â,xA (Ģb λi:Â=>ı (i:Æ)) úd=decide (n∈qs)
 | []=>rfl|a::qs=>by exact(decide ((ı (a:Æ):Sum Æ Ç)=.inl (n:Æ))||xA (Ģb λi:Â=>ı (i:Æ)) úd)=_;rw[L_ n qs];by_cases h:a=n;subst h;rw[ù (p:=(ı (a:Æ):Sum Æ Ç)=.inl (a:Æ)) rfl,ù Õa];rfl;rw[Ĕ (p:=(ı (a:Æ):Sum Æ Ç)=.inl (n:Æ)) (λe=>h (by let:=çc e;omega)),Ėn];show ϓd {λz=>Ű _ z,λz=>?_};rcases ħ z with z|z;show Ý Ŝb h;show z
def cf(a:Á Â):∃K V,W_ [.lst (Ğc λi:Â=>Ĩb ìd)]=À Ăe/\∀n:Â,xA K úd=decide (n∈a):=by show{Ðk.1,Ðk.2,?_,λn=>?_};exact(VH _).bind _=_;rw[fJ];rfl;rw[dw ó,L_];rfl
nonrec def MQ:É ä->Ï
 |À (Ä,.int u)=>decide (0<=u/\u<2048)|_=>Ä
def ZT(r:D):Ï:=MQ éj&&MQ ŵf
def x70:ZT Ųb=Ã:=by rw[ŋp]
def x6w:∀n:Æ,((ϰo).all λw=>(ų).all λd=>ZT ņk)=Ã:=λn=>by rw[Ŝp]
def x71:(θd (ùk) (ų) (ų))=Ã:=by rw[Ŝp]
def x6z:(θd (Ži) (ų) ßj)=Ã:=by rw[Ŝp]
def x6y:∀n:Æ,((ėm).all λw=>(ų).all λd=>(ų).all λs=>ZT Ęk)=Ã:=λn=>by rw[Ŝp]
def x6x:∀t:Ç,ZT ťc=Ã:=λn=>by rw[Ŝp]
def x6v:∀t:Ç,((ϱo).all λw=>[ϭ,àa,åa].all λk=>ZT Ğk)=Ã:=λn=>by rw[Ŝp]
def iS{o:É ä}(h:MQ o=Ã):∃u:Â,u<2048/\o=À (Ä,.int u):=by
 unfold MQ at h
 rw[ũp];rename_i u;let:=š h;show{čj,by omega,by rw[ϟd this.1]};cases h
def Ĩ{α:Type}{l:Á α}{f:α->Ï}(h:l.all f=Ã){x:α}(a:x∈l):f x=Ã:=ûa h x a
def VO{d:Æ}{n:Â}(a:0<=d)(b:d<n):∃k∈Ûa n,d=(k:Â):={d.toNat,úa Ê,by omega}
def eU{f:D->Ï}(p:f Ųb=Ã)(l:∀n:Æ,((ϰo).all λw=>(ų).all λd=>f ņk)=Ã)(c:(ιd (ùk) (ų) (ų))=Ã)(i:(ιd (Ži) (ų) ßj)=Ã)(g:∀n:Æ,((ėm).all λw=>(ų).all λd=>(ų).all λs=>f Ęk)=Ã)(o:∀t:Ç,f ťc=Ã)(e:∀t:Ç,((ϱo).all λw=>[ϭ,àa,åa].all λk=>f Ğk)=Ã){r:D}(h:xL r)(m:zi r=Ä):f r=Ã:=by
 cases h with
 |Ĝa t=>cases m|Æa h=>
  cases h with
  |Ϣ=>show p|Yt hw d0 d1 n0 n1=>let{k,a,rfl}:=VO (n:=8) d0 d1;rcases hw with rfl|rfl;show Ĩ (Ĩ (l _) (x := ŏ) Ò) a;show Ĩ (Ĩ (l _) (x := ób) Ò) a
  |two hw d0 d1 s0 s1=>let{k,a,rfl}:=VO (n:=8) d0 d1;let{j,b,rfl}:=VO (n:=8) s0 s1;rcases hw with rfl|rfl|rfl|rfl|rfl|rfl|rfl|rfl|rfl;show Ĩ (Λ (Ĩ c (x := ϰ) Ò)) b;show Ĩ (Λ (Ĩ c (x := ĸa) Ò)) b;show Ĩ (Λ (Ĩ c (x := Ċa) Ò)) b;show Ĩ (Λ (Ĩ c (x := ķa) Ò)) b;show Ĩ (Λ (Ĩ c (x := ĉa) Ò)) b;show Ĩ (Λ (Ĩ c (x := ϊa) Ò)) b;show Ĩ (Λ (Ĩ c (x := ώa) Ò)) b;show Ĩ (Λ (Ĩ c (x := Àb) Ò)) b;show Ĩ (Λ (Ĩ c (x := ôa) Ò)) b
  |Yv hw d0 d1 n0 n1=>let{k,a,rfl}:=VO (n:=8) d0 d1;let{j,b,rfl}:=VO (n:=32) n0 n1;rcases hw with rfl|rfl;show Ĩ (Λ (Ĩ i (x := įa) Ò)) b;show Ĩ (Λ (Ĩ i (x := ĕa) Ò)) b
  |mem hw d0 d1 s0 s1 n0 n1=>let{k,a,rfl}:=VO (n:=8) d0 d1;let{j,b,rfl}:=VO (n:=8) s0 s1;rcases hw with rfl|rfl|rfl|rfl;show Ĩ (Λ (Ĩ Źe (x := ŕa) Ò)) b;show Ĩ (Λ (Ĩ Źe (x := ėa) Ò)) b;show Ĩ (Λ (Ĩ Źe (x := Ŏa) Ò)) b;show Ĩ (Λ (Ĩ Źe (x := ēa) Ò)) b
 |wc t=>show o t|Ő t hw a=>rcases hw with rfl|rfl<;>rcases a with rfl|rfl|rfl;show Ĩ ϫg (x := ϭ) Ò;show Ĩ ϫg (x := àa) Ò;show Ĩ ϫg (x := åa) Ò;show Ĩ Ϭg (x := ϭ) Ò;show Ĩ Ϭg (x := àa) Ò;show Ĩ Ϭg (x := åa) Ò
def rM{r:D}(h:xL r)(a:zi r=Ä):ZT r=Ã:=eU x70 x6w x71 x6z x6y x6x x6v h a
nonrec def YN:É ä->Â
 |À (_,.int u)=>čj|_=>0
def x72{r:D}(h:xL r)(b:zi r=Ä):uh [r]=À (Ä,.int (YN éj:Â))/\YN éj<2048:=by rw[Òq];let{u,a,e}:=iS this.1;rw[e];show{rfl,a}
def y71{r:D}(h:xL r)(b:zi r=Ä):uw [r]=À (Ä,.int (YN ŵf:Â))/\YN ŵf<2048:=by rw[Òq];let{u,a,e}:=iS this.2;rw[e];show{rfl,a}
def Cm:FS:=
 (zR (yS ßm
   (vY øb)
   yi)
  (zR (yS (Κ Ķb (eC (.str ća)))
   (vY (xV ëc))
   yi)
  (zR (yS (tE (e2 XS Ĵ őb))
   (vY (xV (Α Èe)))
   yi)
  (vY (eL Jc (Α (xV (zB Èe Žh))))))))
def J0:Á D->É ä:=FR 3 3 Cm
def z6v(b a c:D):J0 Ϩ=yM 3 Cm Ϩ:=rfl
def Rr:FE:=(zg J0 (zB (e2 zH û Ĵ) êi))
def Cn:FS:=
 (zR Ťf
  (vY (wK 2 Ŋh (vq 2 3) xY Rr)))
def XB:Á D->É ä:=FR 1 2 Cn
def z6w(a:D):XB [a]=yM 2 Cn [a]:=rfl
def CV:FS:=
 (yY (e2 zH Ūh û))
def Uk:Á D->É ä:=FR 2 2 CV
def z6i(b a:D):Uk ą=yM 2 CV ą:=rfl
nonrec def wd:D->Ç
 |.tup Ģi=>w|_ => ""
def IQ(r:D):Ç:=match fP r with
 |.str t=>t|_ => ""
def wD(z6:Á D)(r:D):É Â:=match vh r with
 |Ã=>(xG (IQ r) z6).2|Ä=>Å
nonrec def uz:É Â->D
 |Å=>.zP|À p=>.int (p:Æ)
nonrec def two(a b:Â):Á Â:=if a=b then[a]else if a<b then[a,b]else[b,a]
def Zf(r:D)(i:Â)(t:É Â):Á Â:=if wd r = ϳb then[]else match t with
 |Å=>[i+1]|À p=>if wd r = ća then[p]else two î p
def zD(z6:Á D):Á D:=ôe λd=>!zi d
def Wf(z6:Á D)(i:Â):Á Â:=match ß[i]? with
 |À r=>Zf r i ϸd|Å=>[]
theorem Hf(v:Â->D):∀{ds:Á D}(k:Â),(∀i d,ds[i]?=À d->∃σ1,g d σ=À σ1/\e σ1=À (v (k+i)))->xi g xY e σ ds=À ((Úo).map v)
 | [],_,_=>rfl|d::ds,k,h=>by
  let{σ1,e1,e2}:=h 0 d rfl
  let c:=Hf v (ds:=ds) Ş λi b a=>by rw[show k+1+i=k+î by omega];show h î b áf
  rw[ſp]
def HI(h:xL r):zH r Ź=À Ϲh:=by
 cases h with
 |Ĝa t=>rfl|Æa h=>cases h<;>rfl|wc t=>rfl|Ő t hw hk=>rfl
def eV(h:xL r):vh r=(wd r == ća || wd r == ϧ || wd r == ϑ):=by
 cases h with
 |Ĝa t=>rfl|Æa h=>cases h<;>rfl|wc t=>rfl|Ő t hw hk=>rfl
def M8(h:xL r)(a:vh r=Ã)(e:zH r Ũc=À ϭb):IQ r=t:=by
 cases h with
 |Ĝa u=>cases a|Æa h=>let{_,_,_,_,z,_}:=VV h;rw[z]at a;cases a
 |wc u=>cases e;rfl|Ő u hw hk=>cases e;rfl
def RC(a b:Ç):za ùj (.str b)=À (.bl ļg):=rfl
def x1j(a b:Â):Jc [.lst [.int (a:Æ),.int (b:Æ)]]=À (Β (zK (two a b))):=by
 let e:qT ìf=if a=b then[(a:Æ)]else[(a:Æ),(b:Æ)]:=by
  exact jr (jr [] (a:Æ)) (b:Æ)=_;unfold jr;by_cases h:a=b;subst h;simp;let:¬ (a:Æ)=(b:Æ):=by omega
  simp[h,this]
 exact(if(ìf).length<1000/\(qT ìf).length<64 then À (Ζb (Ċd (qT ìf)))else Å)=_;rw[e];unfold two;by_cases h:a=b;rw[Ð h,Ð h];rfl;rw[Ñ h,Ñ h,Ð {by exact 2<1000;decide,by exact 2<64;decide}];exact À (Ζb (L2.insI (a:Æ) [(b:Æ)]))=_;unfold L2.insI;by_cases h2:a<b;rw[Ð h2,Ð Ê];rfl;rw[Ñ h2,Ñ Ê];rfl
def x7m{r:D}(h:xL r)(i:Â){t:É Â}(c:t.isSome=vh r):J0 [r,.int (i:Æ),uz t]=À (Ã,.lst (zK (Zf r i t))):=by
 let a:=HI h;let b:=eV h;let e1:=RC įg ϳb;let e2:=RC įg ća;rw[z6v];unfold Cm Zf;by_cases c1:wd r = ϳb;rw[Ð c1];rw[źb c1]at e1;simp only[Ö,a,e1];rfl;rw[Ñ c1];rw[Êb c1]at e1;by_cases c2:wd r = ća;rw[źb c2]at e2 b;rw[b]at c;cases t with
 |Å=>cases c|À p=>dsimp only;rw[Ð c2];unfold uz;simp only[Ö,a,e1,e2];rfl
 rw[Êb c2]at e2;cases t with
 |Å=>unfold uz;simp only[Ö,a,e1,e2,XS,Ϧ];rfl|À p=>dsimp only;rw[Ñ c2];unfold uz;let d:=x1j î p;rw[show((i+1:Â):Æ)=(i:Æ)+1 by omega]at d;simp only[Ö,a,e1,e2,XS,Ϧ,d]
theorem RN{z6:Á D}(P:PC z6){r:D}(c:r∈z6):(ϸd).isSome=vh r/\∀t,vh r=Ã->zH r Ũc=À ϭb->IQ r=t:=by
 let b:=ϙ r c;show{?_,λt a e=>M8 b a e};unfold wD;cases a:vh r with
 |Ä=>rfl|Ã=>let{t,p,e1,e2}:=Ĩc r c a;rw[M8 b a e1,e2];rfl
def RM{z6:Á D}(P:PC z6):ZA ť=À (Ã,.lst Ϝg):=by
 let{b,d,e1,i}:=fO ϙ Ŵl;let e2:uN ť=À (Ã,.lst ß):=Xl ϙ
 let k:=YJ (g:=zt 2) (e:=Rq) (σ:=[À (Ä,.lst z6),À (Ä,.dic b d),Å]) ϯh (ds:=zD z6) λr l=>by
  let c:r∈z6:=(űb l).1;let a:=eS ύi;rw[šp];unfold Rq wD;cases z:vh r with
  |Ã=>
   rw[z]at a;let{t,p,f,h}:=Ĩc r c z
   let j:zH (.dic b d) ϭb=À âf:=by exact ċ b d ķd=_;rw[i,h];rfl
   rw[M8 ύi z f,h];unfold uz;simp only[Ö,a,f,j]
  |Ä=>rw[z]at a;unfold uz;simp only[Ö,a]
 rw[z6t];unfold Cj;simp only[Ö,e1,e2,k]
def wm(z6:Á D):Á D:=(ļc).map λi=>.lst Ïg
def BY{z6:Á D}(P:PC z6):XB ť=À (Ã,.lst ùb):=by
 let e1:uN ť=À (Ã,.lst ß):=Xl ϙ;let e2:=RM P
 let b:=Hf (g:=vq 2 3) (e:=Rr) (σ:=[À (Ä,.lst z6),À (Ä,.lst ß),Å,Å]) (λi=>.lst Ïg) (ds:=jU Ϝg) 0 λi d a=>by
  rw[TV,ņ]at a;cases hr:ß[i]? with
  |Å=>rw[hr]at a;cases a|À r=>
   rw[hr]at a;cases a;rw[šp];let c:r∈z6:=(űb (ϛ hr)).1;let h:=x7m ύi i (t:=wD z6 r) (RN P c).1;let j:Wf z6 i=Zf r i ϸd:=by unfold Wf;rw[hr]
   rw[ĺ,j];let f:zH ůf Îa=À r:=jt Ê (by rw[ē];show hr);unfold Rr;simp only[Ö,f,h]
 rw[YO,å,<-íh]at b;rw[z6w];unfold Cn wm;generalize (ß).map ϯh=ts at e1 e2 b ⊢;simp only[Ö,e1,e2,pV,b]
theorem BZ{z6:Á D}{i:Â}(h:i<(ß).length):zH (Β ùb) Îa=À (Β Ïg):=by refine jt Ê ?_;unfold wm;rw[ē,ņ,Ϟd h];rfl
def y0t{z6:Á D}(P:PC z6){i:Â}(h:i<(ß).length):Uk [.lst z6,.int (i:Æ)]=À (Ä,.lst Ïg):=by let e1:=BY P;let e2:=BZ h;rw[z6i];unfold CV;rw[Ęq]
theorem lJ(t:Ç):∀(L:Á D)(s:Â×É Â),(∀p,s.2=À p->p<=s.1)->∀p,äd.2=À p->p<=äd.1
 | [],s,h=>h|d::L,s,h=>by
  rw[Ìa];show lJ t L _ λp a=>?_
  unfold vX at a ⊢;cases hl:zi d with
  |Ã=>
   rw[hl]at a;dsimp only at a ⊢;cases hn:Xc t d with
   |Ã=>rw[hn]at a;cases a;show Ŕ _|Ä=>rw[hn]at a;show h p a
  |Ä=>rw[hl]at a;show ľc (h p a)
def Wp{z6:Á D}{i w:Â}(hi:i<(ß).length)(h:w∈Wf z6 i):w<=(ß).length:=by
 let b:∀t p,Ŝc.2=À p->p<=(ß).length:=λt p a=>by let:=lJ t z6 (0,Å) (λp z=>nomatch z) p a;rw[KN t z6 (0,Å),ĺ]at this;rw[Œp]
 unfold Wf at h;rw[Ē hi]at h;generalize ß[i]=r at h;dsimp only at h;unfold Zf at h
 split at h;cases h;let c:∀p,wD z6 r=À p->p<=(ß).length:=λp a=>by
  unfold wD at a
  rw[Ťp];show b _ _ a;cases a
 rw[ũp];rw[Õq];rename_i p a;let:=c p a
 rw[ũp];rw[Õq];unfold two at h
 rw[ũp];rw[Õq];rw[ũp];rcases ħ h with rfl|h;omega;rw[Õq];rcases ħ h with rfl|h;omega;rw[Õq]
def FW(z6:Á D)(i:Â):(Ëe).length<=2:=by
 unfold Wf Zf two
 split;split;show ϐ _;split;show ĥa öb;split;show ĥa öb;split;show ĥa öb;split<;>show Ŕ 2;show ϐ _
def HZ:FS:=(yF 2 (e2 Įe Ĵ (e2 zH ý Ī)))
def CT:FS:=
 (zR Ōi
  (zR (qy (w_ û) Ĥb
   HZ)
  (yY Ĵ)))
def We:Á D->É ä:=FR 2 4 CT
def z6g(b a:D):We ą=yM 4 CT ą:=rfl
def Mo:FA:=(qO ĝ (e2 xF ād ĸ))
def Hv:qh:=(i6 Ĵ Ī)
def IN:qh:=(TM (w_ ŝ) Ĝc
      Hv)
def bi:FS:=
 (Tb 1 ŏj
  (TN (TM (pV ý) èj
    IN)
   IM))
def Ub:Á D->É ä:=FR 1 5 bi
def z5f(a:D):Ub [a]=yM 5 bi [a]:=rfl
def ID:FS:=(zR (Xm 6 5)
    (zR (yF 7 ϙj)
    (yS ŵg
     (zR (jW 4 Âa üb)
      (vO 5 ϡm))
     yi)))
def JS:FT:=(tE (e2 vG (tV 5) øb))
def CU:FS:=
 (zR Ťf
  (zR ńo
  (zR (yF 3 (zg Ub ëc))
  (zR (t4 4 (e2 JZ (e2 T4 ńh Ćo) (xV (Ζ ŧc))))
  (zR (t4 5 (eL EW (Α Ćo)))
  (zR (Ve JS
   ID)
  (zR (ZW 5) ĵg)))))))
def X7:Á D->É ä:=FR 1 8 CU
def z6h(a:D):X7 [a]=yM 8 CU [a]:=rfl
nonrec def gt(T:Á Â)(i:Â):Â:=T.getD i 0
def z73{T:Á Â}{i:Â}(h:i<őa):T[i]?=À ĝb:=by unfold gt;rw[Ŷ,Ē h];rfl
def z72{T:Á Â}{m i x:Â}(h:m<őa):gt óe i=if i=m then x else gt T i:=by unfold gt;rw[Ūp]
def vi(T:Á Â)(ws:Á Â):Â:=Äj ãh 0
theorem ik(T:Á Â)(k:Â):∀(ws:Á Â)(a:Â),(Äj ãh a).testBit k=Ã↔đd k=Ã\/∃w∈ws,(ύc).testBit k=Ã
 | [],a=>{.inl,λh=>ϝc id λ⟨_,z,_⟩=>by cases z}|w::ws,a=>by
  rw[Ìa,ik T k ws,ŵh,őc]
  rw[ϱp];rintro((h|h)|⟨v,b,h⟩);rw[åq];show .inr {w,Ĝ,h};show .inr {v,Ű _ b,h};rintro(h|⟨v,b,h⟩);show .inl Śb;rcases ħ b with rfl|b;show .inl (.inr h);show .inr {v,b,h}
def KG(T ws:Á Â)(k:Â):(vi T ws).testBit k=Ã↔∃w∈ws,(ύc).testBit k=Ã:=by unfold vi;rw[ik,àc];show{λh=>ϝc ĝm id,.inr}
def y59(T ws:Á Â)(w:Â):vi T (ws++[w])=(vi T ws ||| gt T w):=by unfold vi;rw[Īh];rfl
def y58{T:Á Â}(h:∀i,gt T i<2048)(ws:Á Â):vi T ws<2048:=by
 let:∀(ws:Á Â)(a:Â),a<2048->Äj ãh a<2048:=by
  intro ws
  induction ws with
  |nil=>show λa b=>b|ú w ws ih=>show λa b=>ih _ (ig b (h w))
 show this ws 0 Ò
def rl(u p:Â)(T ws:Á Â):Â:=u ||| (vi T ws-(vi T ws &&& p))
def Ku(u p:Â)(T ws:Á Â)(k:Â):(Ĵn).testBit k=Ã↔u.testBit k=Ã\/((∃w∈ws,(ύc).testBit k=Ã)/\p.testBit k=Ä):=by unfold rl;rw[ŵh,cp,őc,Č,KG,Ėm]
theorem Io{u p:Â}{T a ws:Á Â}(h:∀w∈ws,Sb ύc (gt a w)):Sb Ĵn (rl u p a ws):=λk z=>by rw[Ku]at z ⊢;show z.imp id λ⟨⟨w,b,e⟩,c⟩=>{{w,b,h w b k e},c}
def y8h{u p:Â}{T b ws:Á Â}(h:∀w∈ws,gt T w=gt b w):rl u p T ws=rl u p b ws:=
 (Io λw a=>by rw[h w a];show ńe _).Aj (Io λw a=>by rw[h w a];show ńe _)
def mx{u p:Â}{T ws:Á Â}(a:u<2048)(h:∀i,gt T i<2048):rl u p T ws<2048:=ig a (z3x _ (y58 h ws))
structure z0s(n:Â)(U P:Â->Â)(W:Â->Á Â)(S:Á Â):È where
 last:gt S n=2047
 all:∀i,i<n->Sb (rl źe Że S ϸa) (gt S i)
structure NI(n:Â)(U P:Â->Â)(W:Â->Á Â)(T dl:Á Â):È where
 len:őa=n+1
 last:gt T n=2047
 lt:∀i,gt T i<2048
 up:∀i,i<n->Sb ĝb (rl źe Że T ϸa)
 fx:∀i,i<n->i ∉ dl->gt T i=rl źe Że T ϸa
 dn:∀i∈dl,i<n
 least:∀S,z0s n U P W S->∀i,i<=n->Sb ĝb (gt S i)
section
variable{n:Â}{U P:Â->Â}{W:Â->Á Â}{T dl:Á Â}{m:Â}
def y1g:NI n U P W įh ġb:=by
 let d:∀i,i<n->gt įh i=0:=λi a=>by unfold gt;rw[Ŷ,ľa (by rw[ġa];show a),Êd,Ð a];rfl
 let b:gt įh n=2047:=by unfold gt;rw[Ŷ,Ĵb (by rw[ġa];show Ŕ _),ġa,ϋb];rfl
 refine{by rw[è,ġa];rfl,b,λi=>?_,λi a=>by rw[d i a];show Pg _,λi a z=>(z (úa a)).elim,λi a=>ϫd a,λS c i a=>?_};rcases çf i n with h|h|h;rw[d i h];decide;rw[h,b];decide;unfold gt;rw[Ŷ,ŀa (by rw[è,ġa];show h)]
 decide;rcases ìc i n with h|h;rw[d i h];show Pg _;let:i=n:=by omega
 rw[this,b,c.last];show ńe _
def y1f(N:NI n U P W T ϕb)(e:rl (U m) (P m) T (W m)=gt T m):NI n U P W T dl:={ţb,Ŧj,N.lt,N.up,λi a h=>by by_cases c:i=m;rw[c,e];show N.fx i a λz=>(ż z).elim h λz=>c (Į z),λi a=>N.dn i (ŭb _ a),Ěj}
def y1e{C:Á Â}(N:NI n U P W T ϕb)(q:U m<2048)(l:∀j,j∈C↔(j<n/\m∈W j)):NI n U P W Ϙe (dl++C):=by
 let g:m<n:=N.dn m ňf;let o:m<őa:=by rw[ţb];omega
 let b:∀i,gt Ϙe i=if i=m then rl (U m) (P m) T (W m)else gt T i:=λi=>z72 o
 let k:∀i,Sb ĝb (gt Ϙe i):=λi=>by rw[b];rw[Öq];show N.up m g;rw[Ñ c];show ńe _
 let d:∀i,m ∉ W i->rl źe Że T ϸa=rl źe Że Ϙe ϸa:=λi h=>y8h λw f=>by rw[b,Ñ (λz:w=m=>h (z▸f))]
 refine{by rw[Ϲ];show ţb,by rw[b,Ñ Ê];show Ŧj,λi=>?_,λi a=>?_,λi a h=>?_,λi a=>?_,λS c i a=>?_};rw[b]
 split;show mx q N.lt;show N.lt i;rw[b];rw[Öq];show Io λw _=>k w;rw[Ñ c];show(N.up i a).trans (Io λw _=>k w);let p:m ∉ W i:=λz=>h (Ġa _ ((l i).mpr {a,z}))
 rw[<-d i p,b];rw[Öq];rw[Ñ c];show N.fx i a λz=>(ż z).elim (λz=>h đe) λz=>c (Į z);rcases ż a with z|z;show N.dn i đe;show((l i).mp z).1;rw[b];by_cases e:i=m;rw[Ð e,e];show Sb.trans (Io λw f=>?_) (c.all m g);rcases ìc w ģ with hw'|hw';show Ěj S c w Ê;let:gt T w=0:=by unfold gt;rw[Ŷ,ŀa (by rw[ţb];show hw')];rfl
 rw[this];show Pg _;rw[Ñ e];show Ěj S c i a
def kM(T:Á Â):Â:=(Ũf).sum
theorem og:∀T:Á Â,kM T<=11*őa
 | []=>Ŕ _|x::T=>by let:=og T;let h:=y5e x;exact pc x+(Ũf).sum<=11*(őa+1);unfold kM at this;omega
theorem oh:∀{T:Á Â}{m x:Â},m<őa->kM óe+pc ïj=kM T+pc x
 | [],m,x,h=>by cases h|y::T,0,x,_=>by exact pc x+(Ũf).sum+pc y=pc y+(Ũf).sum+pc x;omega|y::T,m+1,x,h=>by let a:=oh (T:=T) (m:=m) (x:=x) üa;let e:gt (y::T) (m+1)=gt T m:=rfl;rw[e];exact pc y+kM óe+pc ïj=pc y+kM T+pc x;omega
#print a
def MO{T:Á Â}{i:Â}(h:i<őa):zH Ŵc Îa=À (.int (gt T i:Â)):=by refine jt Ê ?_;unfold zK;rw[ē,ņ,z73 h];rfl
def i9{T ws:Á Â}(h:∀w∈ws,w<őa):We [.lst Ěa,.lst ŋe]=À (Ä,.int (vi T ws:Â)):=by
 let{σ',e1,f,rfl}:=gx (g:=zt 3) (b:=HZ) (λi σ=>∃f,σ=[À (Ä,.lst Ěa),À (Ä,.lst ŋe),À (Ä,.int ((vi T ġj:Â):Æ)),f]) (ds:=zK ws)
  (σ:=[À (Ä,.lst Ěa),À (Ä,.lst ŋe),À (Ä,.int 0),Å]) 0 {Å,rfl} (by
  rintro i d σ a ⟨f,rfl⟩;rw[ĺ];unfold zK at a;rw[ņ]at a;cases hw:ws[i]? with
  |Å=>rw[hw]at a;cases a|À w=>
   rw[hw]at a;cases a;let j:=(ķ hw).1;let e:=MO (T:=T) (h w (ϛ hw))
   let k:vi T Ìp=(vi T ġj ||| gt T w):=by rw[Ïc j,y59];rw[Ē j]at hw;cases hw;rfl
   let c:=LQ (vi T ġj) ύc;rw[<-k]at c;show{_,[À (Ä,.lst Ěa),À (Ä,.lst ŋe),À (Ä,.int ((vi T Ìp:Â):Æ)),À (Ä,.int (w:Æ))],rfl,.inl ?_,_,rfl};unfold HZ;generalize zK T=TT at e c ⊢;generalize zK ws=WW at e c ⊢;simp only[Ö,e,c])
 let l:(ŋe).length=Źo:=by rw[ÿq]
 rw[l,ĺ,Ňc]at e1;rw[z6g];unfold CT;generalize zK T=TT at e1 ⊢;generalize zK ws=WW at e1 ⊢;simp only[Ö,e1]
theorem Hk{g:FG}{b:qh}(P:Â->Á Ÿa->zu->È):∀{ds:Á D}{nds:Á Ÿa} {σ:zu} (n:Â),P n nds σ->(∀i d nds σ,ds[i]?=À d->P (n+i) nds σ->∃σ1 Ϯc σ2,g d σ=À σ1/\b nds σ1=À (.nx Ϯc σ2)/\P Łj Ϯc σ2)->
  ∃ĥc σ',IJ g b ds nds σ=À (.nx ĥc σ')/\P ŀj ĥc σ'
 | [],nds,σ,n,h,_=>{nds,σ,rfl,h}|d::ds,nds,σ,n,h,ļa=>by
  let{σ1,Ϯc,σ2,e1,e2,p}:=ļa 0 d nds σ rfl h
  let{ĥc,σ',s,l}:=Hk P (ds:=ds) (nds:=Ϯc) (σ:=σ2) ģ p λi e m τ j q=>by let{a,f,o,k,c,r}:=ļa î e m τ (by simpa using j) (by rw[Ϲp];show q);show{a,f,o,k,c,by rw[ϙp];show r}
  show{ĥc,σ',?_,by rw[ϒp];show l};rw[Ŗp];exact(b nds σ1).bind _=_;rw[e2];show s
nonrec def gl(L:Á ϝb)(p:Â):Á Â:=L.getD p []
theorem dk{L:Á ϝb}{i:Â}(h:i<Àa):L[i]?=À (gl L i):=by unfold gl;rw[Ŷ,Ē h];rfl
def di{T:Á ϝb}{m i:Â}{x:Á Â}(h:m<őa):gl óe i=if i=m then x else gl T i:=by unfold gl;rw[Ūp]
theorem z39{n:Â}{W:Â->Á Â}(hn:n<=100)(N:∀i,i<n->∀w∈W i,w<=n)(G:∀i,(ϸa).length<=2) :∃L:Á ϝb,Àa=n+1/\(∀p,p<=n->∀j,j∈gl L p↔(j<n/\p∈W j))/\(∀p,(Ĵe).length<=2*n)/\Ub [.lst ((ġb).map λi=>.lst ĭe)]=À (Ä,.lst ųd):=by
 obtain⟨a,s⟩:∃a:Á D,a=(ġb).map λi=>.lst ĭe:={_,rfl}
 let C:ăa=n:=by rw[s,å,ëa]
 let T:Mo Îc=À (wW ģ):=by show kF (n:=((n+1:Â):Æ)) ?_ Ê;exact À (Ě ((ăa:Æ)+1))=_;rw[C];rfl
 rw[<-s]
 let{I,σ',e1,L,m,x,A,u,q,o,rfl,rfl}:=Hk (g:=vq 3 4) (b:=IN) (λi nds σ=>∃(L:Á ϝb) (m x A:É ä),Àa=n+1/\(∀p,p<=n->∀j,j∈gl L p↔(j<i/\p∈W j))/\(∀p,(Ĵe).length<=2*i)/\nds=õb zK/\σ=ϕk) (ds:=jU a)
  (nds:=Ņ ģ []) (σ:=Îc) 0 ⟨Ņ ģ [],Å,Å,Å,ġa,λp t j=>by
   rw[show gl æe p=[] by rw[Ďq]];show{λz=>(Ëa z).elim,λz=>(Nat.not_lt_zero _ z.1).elim},λp=>by
   rw[show gl æe p=[] by rw[Ďq]];show ϐ _,by rw[čh];rfl,rfl⟩ (by
  rintro i d nds σ e ⟨L,m,x,A,u,q,o,rfl,rfl⟩;rw[ĺ]at *;rw[TV]at e
  let J:i<n:=by
   rw[<-C];cases z:a[i]? with
   |Å=>rw[z]at e;cases e|À y=>show(ķ z).1
  let P:a[i]?=À (Β ĭe):=by rw[s,ņ,Ϟd J];rfl
  rw[P]at e;cases e
  let{H,σ2,e2,Y,S,X,F,K,rfl,rfl}:=Hk (g:=zt 2) (b:=Hv) (λk nds σ=>∃(L:Á ϝb) (m:É ä),Àa=n+1/\(∀p,p<=n->∀j,j∈gl L p↔(j<i/\p∈W j\/j=i/\p∈(ϸa).take k))/\(∀p,(Ĵe).length<=2*i+k)/\nds=õb zK/\σ=ϲj) (ds:=zK ϸa)
   (nds:=õb zK) (σ:=ϲj) 0 {L,m,u,λp t j=>by rw[q p t j];show{.inl,λz=>ŭ id λz=>by rw[Ďf]at z;cases z.2},o,rfl,rfl} (by
   rintro k d nds σ e ⟨L,m,u,q,o,rfl,rfl⟩;rw[ĺ]at *;unfold zK at e;rw[ņ]at e;cases hw':ϸa[k]? with
   |Å=>rw[hw']at e;cases e|À w=>
    rw[hw']at e;cases e;let E:=(ķ hw').1;let Z:=N i J w (ϛ hw');let r:w<Àa:=by omega
    let Q:(ϸa).take Ş=(ϸa).take k++[w]:=by rw[Ïc E];rw[Ē E]at hw';cases hw';rfl
    show{_,(Ăl).map zK,Ϥj,rfl,?_,L.set w (gl L w++[i]),_,by rw[Ϲ];show u,λp t j=>?_,λp=>?_,rfl,rfl}
    .let B:όc[w]?=À (zK (gl L w)):=by rw[ņ,dk r];rfl
     let O:(όc).set w (zK (gl L w)++[Ě (i:Æ)])=(Ăl).map zK:=by rw[ßi];rw[Åq];rfl
     unfold Hv
     exact(match όc[((w:Â):Æ).toNat]? with
      |À ds=>if 0<=((w:Â):Æ)/\þ<yV then À (NF.nx ((όc).set ((w:Â):Æ).toNat (ds++[Ě (i:Æ)])) Ϥj)else Å|Å=>Å)=_
     rw[ē,B];rw[ŕp]
     rw[Ð {by omega,by rw[ÿq];let:=o w;let:=G i;rw[Ňp]},O]
    .rw[di r,Q];by_cases c:p=w
     .rw[Ð c,ŏc,c,q w Z,ŏc,Ýf,Ýf]
      rw[ϱp]
      .rintro((h|h)|h)
       .rw[åq]
       .show .inr {h.1,.inl h.2}
       .show .inr {h,.inr rfl}
      .rintro(h|⟨h,f|f⟩)
       .show .inl Śb
       .show .inl (.inr {h,f})
       .show .inr h
     .rw[Ñ c,q p t,ŏc,Ýf]
      rw[ϱp]
      .rintro(h|h)
       .rw[åq]
       .show .inr {h.1,.inl h.2}
      .rintro(h|⟨h,f|f⟩)
       .rw[åq]
       .show .inr {h,f}
       .show Ý f c
    .rw[di r];let:=o p;let:=o w
     split
     .rw[è,Âf];omega
     .omega)
  let v:(ĭe).length=(ϸa).length:=by rw[ÿq]
  rw[v,ĺ,Ňc]at F;rw[v,ĺ]at K;show{_,_,_,rfl,?_,Y,S,À (Ä,.int (i:Æ)),À (Ä,.lst ĭe),X,λp t j=>?_,λp=>?_,rfl,rfl}
  .show e2
  .rw[F p t j]
   rw[ϱp]
   .rintro(h|⟨rfl,h⟩)
    .show{by omega,h.2}
    .show{by omega,h}
   .rintro⟨h1,f⟩;rcases ìc j i with c|c
    .show .inl {c,f}
    .let:j=i:=by omega
     rw[çq];show .inr {rfl,f}
  .let:=K p;let:=G i;omega)
 rw[YO,C,ĺ]at q o;show{L,u,q,o,?_};rw[z5f];exact(Tb 1 ŏj _ Îc).bind _=_
 let B:Tb 1 ŏj (TN Öl IM) Îc=À (.rt Ä Ϛk):=by
  unfold Tb;rw[show jT Îc=Ã from rfl];rw[ŕp];unfold IL;rw[T];let U:TM (pV ý) èj IN æe Îc=À (.nx όc ϕk):=e1
  let R:TN Öl IM æe Îc=À (.rt Ϛk):=by unfold TN;rw[U];exact(if(όc).length<=yV then À (NF.rt (Β ((όc).map .lst)))else Å)=_;rw[Ð (by rw[å,u];rw[ŵp]),îa];rfl
  exact((À (wW ģ).length).bind _)=_;rw[Vs];exact((TN _ _ æe Îc).bind _)=_;rw[R];rfl
 rw[B];rfl
def lL{σ:zu}{i j:Â}{ds:Á D}{d:D}(h:σ[i]?=À (ψa (ds++[d])))(a:j≠i):Xm j i σ=À (Λe (Ν Ϣd)):=by unfold Xm;rw[h];rw[ŕp];rw[List.getLast?_append,List.dropLast_concat];exact(if j=i then Å else _)=_;rw[Ñ a];rfl
def x0i{σ:zu}{i j:Â}{k v:FE}{ds:Á D}{y:D}(hv:v σ=À y)(h:σ[i]?=À Ϣd)(hk:k σ=À ún)(a:j<þ):jW i k v σ=À (ψb (Ļe j y)):=by
 unfold jW;rw[hv]
 exact(match σ[i]? with
  |À Ϣd=>(ĺg).bind λx=>match x with
   |.int j=>(Ϻb þ j).bind λn=>À (Fl.nx (Ν (ψa ϋi)))|_=>Å
  |_=>Å)=_
 rw[h];rw[ŕp];rw[hk];exact(Ϻb þ (j:Æ)).bind _=_;unfold Ϻb;rw[Ð Ê,Ð Ê,ē];rfl
def ER{σ:zu}{i:Â}{f:FE}{xs ys:Á D}(h:σ[i]?=À ϧl)(a:f σ=À ύb)(b:ì+Ś<=10000000):vO i f σ=À Öp:=by unfold vO;rw[h];rw[ŕp];rw[a];exact(if ì+Ś<=yV then _ else _)=_;rw[Ð Ϥg]
theorem k8(T:Á Â):(Ěa).length=őa:=by rw[ÿq]
theorem IP(T:Á Â)(m:Â):zK (T++[m])=zK T++[.int (m:Æ)]:=by rw[Åq];rfl
def Hw(T S:Á Â):zK (T++S)=zK T++zK S:=by rw[Åq]
theorem y0k(T:Á Â)(m x:Â):(Ěa).set m (.int (x:Æ))=zK óe:=by unfold zK;rw[ßi]
def z_(z6:Á D)(i:Â):D:=(ß).getD i .zP
def Uf(z6:Á D)(i:Â):Â:=YN (uh ϕf)
def Pf(z6:Á D)(i:Â):Â:=YN (uw ϕf)
def g9{z6:Á D}{i:Â}(h:i<(ß).length):ß[i]?=À Ϙb:=by unfold z_;rw[Ŷ,Ē h];rfl
def n4{z6:Á D}{i:Â}(h:i<(ß).length):zH ůf Îa=À Ϙb:=jt Ê (by rw[ē];show g9 h)
def kG{z6:Á D}(P:PC z6){i:Â}(h:i<(ß).length):xL Ϙb/\zi Ϙb=Ä:=by let:=űb (ϛ (g9 h));show{ϙ _ this.1,by simpa using this.2}
def Tv{z6:Á D}(P:PC z6){i:Â}(h:i<(ß).length):uh ϕf=À (Ä,.int (Uf z6 i:Â))/\Uf z6 i<2048:=x72 Ög.1 Ög.2
def IZ{z6:Á D}(P:PC z6){i:Â}(h:i<(ß).length):uw ϕf=À (Ä,.int (Pf z6 i:Â))/\Pf z6 i<2048:=y71 Ög.1 Ög.2
def uJ(z6:Á D)(L:Á ϝb)(T dl:Á Â)(x6 x7:É ä):zu:=[À (Ä,.lst z6),À (Ä,.lst ß),À (Ä,.lst ùb),À (Ä,.lst ųd),À (Ã,.lst Ěa),À (Ã,.lst (zK dl)),x6,x7]
theorem i7(a b:Â):vG Ĝf ûn=À (ω (a=b)):=by exact À (øa (!((a:Æ)==(b:Æ))))=_;by_cases c:a=b;subst c;simp;rw[Êb Ê,Ĕ c]
theorem y0p{z6:Á D}(P:PC z6){L:Á ϝb}{T dl:Á Â}{m:Â}{x6 x7:É ä}(G:Àa=(ß).length+1)(s:∀p,(Ĵe).length<=2*(ß).length)(F:όf<=1000000)(N:NI (ß).length Đg Ŏe ϖc T ϕb) :ID Ľl=À (.nx (if rl Żc żc T áb=gt T m then uJ z6 L T dl şa şg
   else uJ z6 L Ϸh ϋn şa şg)):=by
 let t:m<(ß).length:=N.dn m ňf;let H:(ß).length<=100:=ĉ Ôc Éc;let g:=n4 t;let o:=(Tv P t).1;let h:=(IZ P t).1;let n:=BZ t;let q:=i9 (T:=T) (ws:=Wf z6 m) λw A=>by rw[ţb];let:=Wp t A;omega
 let r:=z1n (vi T áb) żc;let e:=LQ Żc (vi T áb-ėl);let e:ϓa (Uf z6 m:Â) ((vi T áb-ėl:Â):Æ)=((rl Żc żc T áb:Â):Æ):=e;let b:=MO (T:=T) (i:=m) óm;let a:=i7 Ϭj ïj;have z:=lL (σ:=uJ z6 L T ϕb x6 x7) (i:=5) (j:=6) (ds:=zK dl) (d:=.int (m:Æ)) İm Ò;let z:Xm 6 5 Ľl=À (.nx ľl):=z;let B:zH ϋk ϐh=À (Β (zK (gl L m))):=jt Ê (by rw[ē,ņ,dk Ê];rfl);unfold ID;rw[v6 z]
 let C:yF 7 ϙj ľl=À (.nx (uJ z6 L T dl şa şg)):=by unfold uJ;generalize rl Żc żc T áb=need at g o n q h r e ⊢;generalize zD z6=RR at g o n q h r e ⊢;generalize wm z6=WW at g o n q h r e ⊢;generalize õb ϣd=LL at g o n q h r e ⊢;generalize zK T=TT at g o n q h r e ⊢;generalize zK dl=DD at g o n q h r e ⊢;simp only[Ö,g,o,n,Ld,q,xQ,ź,h,T3,r,e]
 rw[v6 C];generalize hneed:rl Żc żc T áb=need at *;by_cases c:need=gt T m
 .rw[ù c]at a;rw[Ð c];rw[ňp];simp only[Ö,b,a]
 .rw[Ĕ c]at a;rw[Ñ c];let u:=x0i (σ:=uJ z6 L T dl şa Űd) (i:=4) (j:=m) (k:=z7 6) (v:=z7 7) (ds:=zK T) (y:=.int (need:Æ)) rfl rfl rfl (by rw[k8,ţb];omega);rw[y0k]at u;let u:jW 4 Âa üb Ęl=À (.nx él):=u
  let x:=ER (σ:=uJ z6 L ûh dl şa Űd) (i:=5) (f:=e2 zH Ī Âa) (xs:=zK dl) (ys:=zK (gl L m)) rfl (by exact zH ϋk ϐh=_;show B) (by rw[k8,k8];let:=s m;omega)
  rw[<-Hw]at x;let x:vO 5 ϡm él=À (.nx (uJ z6 L ûh ϋn şa Űd)):=x
  let E:ŵg Ęl=À Ã:=by rw[ňp];simp only[Ö,b,a]
  exact(ŵg _).bind _=_;rw[E];exact zR _ _ _=_;rw[v6 u,x]
theorem y0o{z6:Á D}(P:PC z6){L:Á ϝb}(h:Àa=(ß).length+1)(b:∀p,(Ĵe).length<=2*(ß).length)(i:∀p,p<=(ß).length->∀j,j∈gl L p↔(j<(ß).length/\p∈Wf z6 j)) :∀(M:Â){T dl:Á Â}{x6 x7:É ä},NI (ß).length Đg Ŏe ϖc T dl->(11*ϓk-kM T)*Ğh+όf<=M->M<=1000000->
   ∃T' y6 y7,NI (ß).length Đg Ŏe ϖc T' []/\tz JS ID (M+1) (uJ z6 L T dl x6 x7)=À (.nx (uJ z6 L T' [] y6 y7)):=by
 intro M
 induction M with
 |ů=>
  intro T dl x6 x7 N e _;let:dl=[]:=ϙg Ê;rw[çq];show{T,x6,x7,N,OC rfl}
 |Ż M ih=>
  intro T dl x6 x7 N e r;rcases Þh dl with rfl|⟨dl',m,hdl⟩
  .show{T,x6,x7,N,OC rfl}
  .rw[ßh]at hdl;subst hdl;let v:(Śc).length=ġo+1:=by rw[è];rfl
   let d:m<(ß).length:=N.dn m ňf
   let f:JS (uJ z6 L T Śc x6 x7)=À Ã:=by rw[ųp];unfold JS uJ;generalize zD z6=RR at this ⊢;generalize wm z6=WW at this ⊢;generalize õb ϣd=LL at this ⊢;generalize zK T=TT at this ⊢;generalize zK Śc=DD at this ⊢;simp only[Ö,this]
   let k:=y0p P (x6:=x6) (x7:=x7) h b Ê N;rw[Rf f k];by_cases c:rl Żc żc T áb=gt T m
   .rw[Ð c];show ih (y1f N c) Ê Ê
   .rw[Ñ c];refine ih (y1e N (Tv P d).2 (i m Ê)) ?_ Ê;let u:=oh (T:=T) (m:=m) (x:=rl Żc żc T áb) óm;let t:=y5f (N.up m d) (mx (Tv P d).2 N.lt) çi;let g:=og Ϸh;rw[Ϲ,ţb]at g;let q:=b m;rw[è];generalize kM Ϸh=s' at *;generalize kM T=s at *;generalize (ß).length=n at *;obtain⟨a,o⟩:∃a,11*ģ-s=a+1+čo:={11*ģ-s-1-čo,by omega};rw[o,Ão,Ão,Nat.one_mul]at e;let:0<=a*(2*n+2):=ϐ _;omega
def Hy{z6:Á D}(P:PC z6):∃T,NI (ß).length Đg Ŏe ϖc T []/\X7 ť=À (Ã,.lst Ěa):=by
 let t:(ß).length<=100:=ĉ Ôc Éc;let c:uN ť=À (Ã,.lst ß):=Xl ϙ;let f:=BY P;let{L,r,p,j,b}:=z39 (n:=(ß).length) (W:=Wf z6) t (λi o w h=>Wp o h) (FW z6);let b:Ub [.lst ùb]=À (Ä,.lst ųd):=b
 let m:ϳm*Ğh+(ļc).length<=300000:=by rw[ëa];let:ϳm*Ğh<=1111*202:=Nat.mul_le_mul Ê Ê;omega
 let{T,q,s,N,a}:=y0o P r j p 300000 (x6:=Å) (x7:=Å) y1g m Ê;let a:=Mu (300000+1) a Ò;show{T,N,?_}
 let g:T4 (.lst [.int 0]) (.int ((ß).length:Â))=À Øn:=by
  exact(if 0<=(((ß).length:Â):Æ)/\(((ß).length:Â):Æ)<=1000000/\([Ě 0]).length*(((ß).length:Â):Æ).toNat<=yV then À (ťd (Ņ (((ß).length:Â):Æ).toNat [Ě 0]).flatten)else Å)=_;rw[Ð {by omega,by omega,by exact 1*_<=16777216;omega},ē]
  congr 2
  unfold zK;rw[čh];generalize (ß).length=n
  induction n with
  |ů=>rfl|Ż n ih=>rw[Čb,Čb,ŀc,ih];rfl
 let e:JZ Øn (.lst [.int 2047])=À (Β (zK ϒe)):=by exact(if(zK ϟg).length+1<=yV then _ else _)=_;rw[Ð (by rw[k8,ġa];rw[ŵp]),IP];rfl
 let d:EW [.int ((ß).length:Â)]=À (Β (zK ļc)):=by exact(if 0<=(((ß).length:Â):Æ)/\(((ß).length:Â):Æ)<=1000000 then À (ťd ((Ûa (((ß).length:Â):Æ).toNat).map λk:Â=>Ě k))else Å)=_;rw[Ð {by omega,by omega},ē];rfl
 let a:Ve JS ID [À (Ä,.lst z6),À (Ä,.lst ß),À (Ä,.lst ùb),À (Ä,.lst ųd),À (Ã,.lst (zK ϒe)),À (Ã,.lst (zK ļc)),Å,Å]=À (.nx [À (Ä,.lst z6),À (Ä,.lst ß),À (Ä,.lst ùb),À (Ä,.lst ųd),À (Ã,.lst Ěa),À (Ã,.lst (zK [])),q,s]):=a;rw[z6h];unfold CU;generalize zK T=TT at c f b g e d a ⊢;generalize zK ļc=DD at c f b g e d a ⊢;generalize zK ϒe=T0 at c f b g e d a ⊢;generalize zK ϟg=T1 at c f b g e d a ⊢;generalize zK []=DZ at c f b g e d a ⊢;generalize zD z6=RR at c f b g e d a ⊢;generalize wm z6=WW at c f b g e d a ⊢;generalize õb ϣd=LL at c f b g e d a ⊢;simp only[Ö,c,f,b,g,e,d,a]
def XW:FS:=(zR (yS (tE (e2 za Ī (xz (zB ĳd Ëb))))
     (yY Ĵ)
     yi)
    (yF 2 (e2 xF Ĵ (eL Ll (Α (e2 vG Ťh ĳd))))))
def CH:FS:=
 (zR Ōi
  (zR (qy Ϩb Ĥb
   XW)
  (yY Đd)))
def Ug:Á D->É ä:=FR 2 4 CH
def z65(b a:D):Ug ą=yM 4 CH ą:=rfl
def gk(t:Ç)(d:D):Ï:=zi d&&Xc t d
def HG{t:Ç}{d:D}(h:xL d)(a:gk t d=Ã):d=xm t:=by unfold gk at a;rw[Č]at a;let{u,rfl}:=M7 h a.1;let:Ŷj=Ã:=a.2;rw[ϖb]at this;rw[this]
theorem z4e{d:D}(h:xL d)(t:Ç):za d Ϣe=À (.bl (gk t d)):=by
 let e:∀(w u:Ç),xh (.tup [.str w,.str u]) Ϣe=((w == çg)&&(Ŷj&&Ã)):=λw u=>by rfl
 cases h with
 |Ĝa u=>exact À (øa (xh (.tup [.str çg,.str u]) Ϣe))=_;rw[e,ϩh];rfl|Æa h=>cases h with
  |Ϣ=>rfl|Yt hw=>rcases hw with rfl|rfl<;>rfl
  |two hw=>rcases hw with rfl|rfl|rfl|rfl|rfl|rfl|rfl|rfl|rfl<;>rfl
  |Yv hw=>rcases hw with rfl|rfl<;>rfl
  |mem hw=>rcases hw with rfl|rfl|rfl|rfl<;>rfl
 |wc u=>exact À (øa (xh ïl Ϣe))=_;rw[e];rfl|Ő u hw hk=>rcases hw with rfl|rfl<;>rcases hk with rfl|rfl|rfl<;>rfl
def YB(t:Ç):Á D->Â->É Â
 | [],_=>Å|d::L,n=>if gk t d=Ã then À n else YB t L (n+Ëh)
theorem lG{I:D}{t:Ç}:∀{L:Á D}{n p:Â}{x:É Sl},(∀d∈L,xL d)->YB t L n=À p->jx Ĥb XW L [À (Ä,I),À (Ä,.str t),À (Ä,.int (n:Æ)),x]=À ňn
 | [],_,_,_,_,h=>by cases h|d::L,n,p,x,hI,h=>by
  let c:=hI d Õa;let q:=z4e c t;let{w,a,b,_}:=Jz c;let b:=i8 b;unfold YB at h;unfold jx;exact(XW Şg).bind _=_;cases ht:gk t d with
  |Ã=>
   rw[Ð ht]at h;cases h;rw[ht]at q
   let e:XW Şg=À (.rt Ä ώh):=by unfold XW;simp only[Ö,q]
   rw[e];rfl
  |Ä=>
   rw[Ñ (by rw[ht];decide)]at h;rw[ht]at q
   let e:XW Şg=À (.nx [À (Ä,I),À (Ä,.str t),À (Ä,.int ((n+Ëh:Â):Æ)),À (Ä,d)]):=by unfold XW;cases hl:zi d<;>rw[hl]at b<;>simp only[Ö,q,a,b,Ϧ]<;>rfl
   rw[e];show lG (λx f=>hI x (Ű _ f)) h
theorem K7{t:Ç}:∀{L:Á D}{s:Â×É Â},(∀d∈L,gk t d=Ä)->äd.2=s.2
 | [],_,_=>rfl|d::L,s,h=>by
  rw[Ìa,K7 λx a=>h x ϟf];let:=h d Õa;unfold gk at this;unfold vX;cases hl:zi d with
  |Ä=>rfl|Ã=>rw[hl,ýd]at this;rw[this]
theorem dJ{t:Ç}:∀{L:Á D}{s:Â×É Â},(∀d∈L,xL d)->(Ìg).Nodup->äd.2=match YB t L s.1 with
  |À p=>À p|Å=>s.2
 | [],_,_,_=>rfl|d::L,s,hI,nd=>by
  let a:∀x∈L,xL x:=λx b=>hI x Œb
  rw[Ìa];unfold YB;cases ht:gk t d with
  |Ã=>
   rw[Ð rfl];let g:=HG (hI d Õa) ht;subst g;rw[Ša (show zi Řd=Ã from rfl)]at nd;rw[K7 λx b=>?_];unfold vX;exact(match Xc t Řd with|Ã=>À s.1|Ä=>s.2)=_;rw[show Xc t Řd=Ã from ϗa t];cases hx2:gk t x with
   |Ä=>rfl|Ã=>have f:=HG (a x b) hx2;subst f;show Ý (Úd {b,rfl}) Įd.1
  |Ä=>
   rw[Ñ Ħ]
   let c:(Ìg).Nodup:=by
    cases hl:zi d with
    |Ã=>rw[Ša hl]at nd;show Įd.2|Ä=>rw[ša ϩd]at nd;show nd
   rw[dJ a c]
   let e:vX t s d=(s.1+Ëh,s.2):=by
    unfold gk at ht;unfold vX;cases hl:zi d with
    |Ä=>rfl|Ã=>rw[hl,ýd]at ht;rw[ht];rfl
   rw[e]
theorem y6o{z6:Á D}(P:PC z6){t:Ç}{p:Â}(h:Ŝc.2=À p):Ug [.lst z6,.str t]=À (Ä,.int (p:Æ)):=by
 let f:YB t z6 0=À p:=by
  let:=dJ (t:=t) (s:=(0,Å)) ϙ ĩc;unfold xG at h;rw[h]at this;cases e:YB t z6 0 with
  |À q=>rw[show YB t z6 (0,(Å:É Â)).1=À q from e]at this;show this.symm|Å=>rw[show YB t z6 (0,(Å:É Â)).1=Å from e]at this;cases this
 let e:=lG (I:=.lst z6) (x:=Å) ϙ f;rw[z65];unfold CH;let e:jx Ĥb XW z6 [À (Ä,.lst z6),À (Ä,.str t),À (Ä,.int 0),Å]=À ňn:=e;rw[ėq]
def IE:FS:=(zR (Xm 4 3)
    (yS Ök
     (zR (jV 2 ŝ Ŷf)
      (vO 3 (e2 zH û ŝ)))
     yi))
def JT:FT:=(tE (e2 vG (tV 3) øb))
def Ce:FS:=
 (zR (yF 1 Ūh)
  (zR (t4 2 Ńc)
  (zR (t4 3 ńh)
  (zR (Ve JT
   IE)
  (zR (ZW 3) (zR (ZW 2) (vY (eL EZ ëc))))))))
def Z8:Á D->É ä:=FR 1 5 Ce
def z6p(a:D):Z8 [a]=yM 5 Ce [a]:=rfl
inductive pH(n:Â)(W:Â->Á Â):Â->È
 |ů:pH n W 0
 |ļa {i w:Â}:pH n W i->i<n->w∈W i->pH n W w
structure RI(n:Â)(W:Â->Á Â)(F dl:Á Â):È where
 nd:F.Nodup
 fl:∀f∈F,f<n/\pH n W f
 dc:∀d∈dl,pH n W d
 z:0<n->0∈F\/0∈dl
 cl:∀f∈F,∀w∈W f,w<n->w∈F\/w∈dl
def K8{n:Â}:∀{F:Á Â},F.Nodup->(∀f∈F,f<n)->Ëg<=n:=λ{F} a h=>by
 let:=List.Nodup.length_le_of_subset a (l₂:=Ûa n) λx b=>úa (h x b)
 rw[ëa]at this;rw[Œp]
section
variable{n:Â}{W:Â->Á Â}{F dl:Á Â}{m:Â}
def y8e(R:RI n W F ϕb)(h:¬ m<n\/m∈F):RI n W F dl:=by
 let b:∀w,w<n->w∈F\/w∈dl++[m]->w∈F\/w∈dl:=λw c a=>by rcases a with a|a;show .inl a;rcases ż a with z|z;rw[Ϯp];cases Į z;rcases h with h|h;show Ý c h;rw[åq]
 show{R.nd,R.fl,λd j=>R.dc d (ŭb _ j),λg=>b 0 g (R.z g),λf i w c e=>b w e (R.cl f i w c e)}
def Kr(R:RI n W F ϕb)(j:m<n)(q:m ∉ F):RI n W Ĵd (dl++W m):=by
 let k:pH n W m:=R.dc m ňf
 let c:∀w,w∈F\/w∈dl++[m]->w∈F++[m]\/w∈dl++W m:=λw h=>by rcases h with h|h;show .inl (ŭb _ h);rcases ż h with z|z;show .inr đe;show .inl ùp
 refine{Áf {R.nd,Ùd {Ëa,Ùb},λa s b l e=>q (by cases Į l;show e▸s)},λf g=>?_,λd o=>?_,λp=>c 0 (R.z p),λf g w i r=>?_};rcases ż g with z|z;show R.fl f z;cases Į z;show{j,k};rcases ż o with z|z;show R.dc d đe;show .step k j z;rcases ż g with z|z;show c w (R.cl f z w i r);cases Į z;show .inr (Ġa _ i)
def y8d(R:RI n W F []){i:Â}(h:pH n W i):i<n->i∈F:=by
 induction h with
 |ů=>show λa=>(R.z a).resolve_right Ëa|ļa hc hj hw ih=>show λa=>(R.cl _ (ih hj) _ hw a).resolve_right Ëa
def y8c(R:RI n W F [])(i:Â):i∈F↔i<n/\pH n W i:={R.fl i,λh=>y8d R h.2 h.1}
#print a
nonrec def uE(F:Á Â):Á Ĺ:=Ťd λi:Â=>.inl (i:Æ)
nonrec def kS(F:Á Â):Á D:=Ťd λ_=>.bl Ã
def z8g(F:Á Â):(Řa).length=Ëg:=by unfold uE;rw[å]
theorem fF:∀F:Á Â,ZK Řa=À (Ťd λi:Â=>(i:Æ))
 | []=>rfl|f::F=>by exact(ZK Řa).bind _=_;rw[fF F];rfl
def tj(z6:Á D)(F dl:Á Â)(x4:É ä):zu:=[À (Ä,.lst z6),À (Ä,.lst ùb),À (Ã,.dic Řa Ťe),À (Ã,.lst (zK dl)),x4]
theorem y88{z6:Á D}{F dl:Á Â}{m:Â}{x4:É ä}(p:Ëg<=1000)(o:όf<=1000):IE Šm=À (.nx (if m<(ß).length/\m ∉ F then tj z6 Ĵd (dl++Wf z6 m) şa else tj z6 F dl şa)):=by
 have b:=lL (σ:=tj z6 F ϕb x4) (i:=3) (j:=4) (ds:=zK dl) (d:=.int (m:Æ)) İm Ò;let b:Xm 4 3 Šm=À (.nx ϻd):=b;let n:(ùb).length=(ß).length:=by unfold wm;rw[å,ëa]
 unfold IE;rw[v6 b]
 let a:ql ϐh (.dic Řa Ťe)=À (ω łj):=by exact(À (xA Řa ûd)).bind _=_;rw[show xA Řa ûd=decide łj from L_ m F];rfl
 let l:Ök ϻd=À (decide (m<(ß).length/\m ∉ F)):=by
  let e1:decide ((m:Æ)<((ùb).length:Â))=decide (m<(ß).length):=by rw[n];show ϓd Ê
  unfold tj;generalize wm z6=WW at *;generalize uE F=KK at *;generalize kS F=YY at *;generalize zK dl=DD at *;by_cases c:m<(ß).length;rw[ù c]at e1;by_cases c2:m∈F;rw[ù c2]at a;rw[Ĕ (λz=>z.2 c2)];simp only[Ö,e1,a];rw[Ĕ c2]at a;rw[ù {c,c2}];simp only[Ö,e1,a];rw[Ĕ c]at e1;rw[Ĕ (λz=>c z.1)];simp only[Ö,e1]
 exact((ub _ _) ϻd).bind _=_;rw[l];rw[čq];rw[ù c,Ð c];let k:=BZ c.1
 let e:¬ xA Řa ûd=Ã:=by
  rw[show xA Řa ûd=decide łj from L_ m F,Ĕ c.2]
  decide
 let h:jV 2 ŝ Ŷf ϻd=À (.nx (tj z6 Ĵd dl şa)):=by
  exact(Ψd (Řa) (Fl.nx ((ϻd).set 2 (À (Ã,.dic (w8 Řa ûd) (wA Řa Ťe ûd Ĭ))))))=_;rw[Ð (by rw[z8g];rw[Ňp])];unfold w8 wA;rw[Ñ e,Ñ e];let e1:uE F++[.inl (m:Æ)]=uE Ĵd:=by unfold uE;rw[Ĩa];rfl
  let e2:kS F++[.bl Ã]=kS Ĵd:=by unfold kS;rw[Ĩa];rfl
  rw[e1,e2];rfl
 let g:=ER (σ:=tj z6 Ĵd dl şa) (i:=3) (f:=e2 zH û ŝ) (xs:=zK dl) (ys:=zK áb) rfl k (by rw[k8,k8];let:=FW z6 m;omega);rw[<-Hw]at g;exact zR _ _ _=_;rw[v6 h];show g;rw[Ĕ c,Ñ c];rfl
def y87{z6:Á D}(k:(ß).length<=100) :∀(M:Â){F dl:Á Â}{x4:É ä},RI (ß).length ϖc F dl->3*((ß).length-Ëg)+όf<=M->M<=1000->∃F' y4,RI (ß).length ϖc F' []/\tz JT IE (M+1) (tj z6 F dl x4)=À (.nx (tj z6 F' [] y4)):=by
 intro M
 induction M with
 |ů=>intro F dl x4 R e _;let:dl=[]:=ϙg Ê;subst this;show{F,x4,R,OC rfl}|Ż M ih=>
  intro F dl x4 R e h;let g:=K8 R.nd λf a=>(R.fl f a).1
  rcases Þh dl with rfl|⟨dl',m,hdl⟩;show{F,x4,R,OC rfl};rw[ßh]at hdl;subst hdl;let j:(Śc).length=ġo+1:=by rw[è];rfl
  let b:JT (tj z6 F Śc x4)=À Ã:=by rw[ųp];unfold JT tj;generalize wm z6=WW at this ⊢;generalize uE F=KK at this ⊢;generalize kS F=YY at this ⊢;generalize zK Śc=DD at this ⊢;simp only[Ö,this]
  rw[Rf b (y88 Ê Ê)];rw[čq];rw[Ð c];show ih όh ?_ Ê;let d:=K8 (όh).nd λf a=>((όh).fl f a).1
  let i:=FW z6 m;rw[è,Âf]at d;rw[è,è,Âf];omega;rw[Ñ c];show ih (y8e R (Decidable.not_and_iff_or_not.mp c |>.imp id λz=>Decidable.not_not.mp z)) Ê Ê
def x42{l:Á Æ}(h:∀x∈l,0<=x):(Úa Ϩo).map Ϗd=l:=by
 rw[îa]
 conv=>rhs;rw[<-êe l]
 show öh λx a=>ϟd (h x a)
def y86{z6:Á D}(P:PC z6)(B:(ß).length<=60):∃R:Á Â,īo (·<·)/\(∀i,i∈R↔i<(ß).length/\pH (ß).length ϖc i)/\Z8 ť=À (Ã,.lst Ŏd):=by
 let e1:=BY P
 let{F,w,l,c}:=y87 (z6:=z6) Ê 200 (F:=[]) (dl:=[0]) (x4:=Å) {Ùb,Ϥd,(λd t=>by cases Į t;show .zero),λ_=>.inr ŝg,λ_ h=>by cases h} (by exact 3*((ß).length-0)+1<=200;omega) Ê
 let c:=Mu (200+1) c Ò;let A:=K8 l.nd λf y=>(l.fl f y).1
 obtain⟨R,u⟩:∃R,R=(Ųk).map Ϩo:={_,rfl};let n:=ϧh (Ťd λi:Â=>(i:Æ))
 let m:ũe Ϗd=Ċd (Ťd λi:Â=>(i:Æ)):=by
  rw[u];show x42 λx v=>?_
  let{f,_,rfl}:=ϫ (n.mem_iff.mp v);omega
 let k:∀i,i∈R↔i∈F:=λi=>by
  let q:i∈R↔(i:Æ)∈ũe Ϗd:=⟨λh=>ňc {i,h,rfl},λh=>by
   rw[ăq]
   show this▸p⟩
  rw[q,m,n.mem_iff]
  show⟨λh=>by
   rw[ăq]
   show this▸p,λh=>ňc {i,h,rfl}⟩
 let o:īo (·<·):=by
  let r:(Æp).Pairwise (·<=·):=by rw[m];show ŷm _
  let z:R.Nodup:=by
   let:(Æp).Nodup:=by rw[m,n.nodup_iff];show Ĭl (l.nd.imp λh e=>h Ê)
   show(ϰk).imp λh e=>h Řo
  rw[čm]at r;show r.imp₂ (λa b q s=>by let:a≠b:=s;omega) z
 let g:EZ [.dic Řa Ťe]=À æp:=by exact(ZK Řa).bind _=_;rw[fF];exact(if(Ťd λi:Â=>(i:Æ)).length<64 then À (Ζb Ųk)else Å)=_;rw[Ð (by rw[å];omega),<-m,îa];rfl
 show{R,o,λi=>(k i).trans (y8c l i),?_};let c:Ve JT IE [À (Ä,.lst z6),À (Ä,.lst ùb),À (Ã,.dic [] []),À (Ã,.lst [.int 0]),Å]=À (.nx [À (Ä,.lst z6),À (Ä,.lst ùb),À (Ã,.dic Řa Ťe),À (Ã,.lst (zK [])),w]):=c;rw[z6p];unfold Ce;generalize zK R=RR at e1 c g ⊢;generalize zK []=DZ at e1 c g ⊢;generalize uE F=KK at e1 c g ⊢;generalize kS F=YY at e1 c g ⊢;generalize wm z6=WW at e1 c g ⊢;simp only[Ö,e1,c,g]
def Ro:FE:=(xz (zB Ĵ ŝh))
def mo:FA:=(qO ĝ (eL uj (zB ϳd zF)))
def sH:FE:=Ĵ
def Ry:FT:=(tE (e2 ql Ĵ û))
def CY:FS:=
 (zR (yF 1 (eL W_ (zB (wK 1 (w_ (zg Z8 ϣ)) Ĝc xY Ro) zF)))
  (vY (wK 1 mo Ĝc Ry sH)))
def X9:Á D->É ä:=FR 1 2 CY
def z6k(a:D):X9 [a]=yM 2 CY [a]:=rfl
def sJ:FE:=û
def S0:FT:=(tE (e2 za Ĵ Èe))
def Ck:FS:=
 (vY (wK 2 Ŋh Òg S0 sJ))
def XA:Á D->É ä:=FR 1 1 Ck
def z6u(a:D):XA [a]=yM 1 Ck [a]:=rfl
def sE:FE:=û
def Rv:FT:=(ub (Κ Çe ϸe) (Κ Ŧh (e2 zH Ĵ ϑa)))
def Fp:FS:=
 (vY (wK 2 (pV ϳd) Òg Rv sE))
def X2:Á D->É ä:=FR 1 1 Fp
def z5g(a:D):X2 [a]=yM 1 Fp [a]:=rfl
def Be:FE:=(zg uw ϝf)
def ml:FA:=(qO ĝ (eL uj øc))
def sG:FE:=ŝ
def Rx:FT:=(ub (tE (e2 vG Ϣm ĝ)) (tE (e2 za (e2 įe Ϣm (zg We űk)) ĝ)))
def CW:FS:=
 (zR (yF 1 þo)
  (zR ńo
  (zR (yF 3 (wK 1 (w_ ϳd) űj xY Be))
  (vY (wK 1 ml űj Rx sG)))))
def X8:Á D->É ä:=FR 1 4 CW
def z6j(a:D):X8 [a]=yM 4 CW [a]:=rfl
def C1:FS:=
 (zR (t4 1 øb)
  (zR (ZM 2 Śg)
  (zR (ZW 1) (vY (eL Jc Ëb)))))
def Qp:Á D->É ä:=FR 1 3 C1
def z5q(a:D):Qp [a]=yM 3 C1 [a]:=rfl
theorem fQ{g:FG}{c:FT}{e:FE}{σ:zu}(p:Â->Ï):∀{ds:Á D}(k:Â),(∀i d,ds[i]?=À d->∃σ1,g d σ=À σ1/\c σ1=À (p (k+i))/\e σ1=À (.int ((k+i:Â):Æ)))->xi g c e σ ds=À (zK ((Úo).filter p))
 | [],_,_=>rfl|d::ds,k,h=>by
  let{σ1,e1,e2,j}:=h 0 d rfl
  let a:=fQ p (ds:=ds) Ş λi f b=>by rw[show k+1+i=k+î by omega];show h î f àf
  rw[Ŗp];exact(Ŋj).bind _=_;rw[e2,Ĉ,ňm,śn];cases hp:p k with
  |Ä=>rw[ša øm];show a|Ã=>rw[Ša hp];exact(ňd).bind _=_;rw[j];exact(śm).bind _=_;rw[a];rfl
nonrec def pN(n:Â)(p:Â->Ï):Á Â:=(ġb).filter p
def VR{n:Â}{p:Â->Ï}{i:Â}:i∈pN n p↔i<n/\p i=Ã:=by unfold pN;rw[List.mem_filter,List.mem_range]
theorem MI{g:FG}{c:FT}{e:FE}{σ:zu}(p:Â->Ï){ds:Á D}(h:∀i d,ds[i]?=À d->∃σ1,g d σ=À σ1/\c σ1=À (p i)/\e σ1=À Îa):xi g c e σ ds=À (zK (pN þ p)):=by
 let:=fQ (g:=g) (c:=c) (e:=e) (σ:=σ) p (ds:=ds) 0 λi d a=>by rw[ĺ];show h i d a
 rw[this,<-íh];rfl
def y1j{z6:Á D}(P:PC z6){R:Á Â}(f:Z8 ť=À (Ã,.lst Ŏd)):X9 ť=À (Ã,.lst (zK įk)):=by
 let m:(ß).length<=100:=ĉ Ôc Éc;let j:uN ť=À (Ã,.lst ß):=Xl ϙ
 let e1:xi Ĝc xY Ro Ϥe Ŏd=À (ũe λi:Â=>Ĩb ìd):=by
  let:=YJ (g:=zt 2) (e:=Ro) (σ:=Ϥe) ÿl (ds:=zK R) λd h=>{_,rfl,rfl}
  rw[this];rw[õq]
 let{K,V,e2,l}:=cf R
 let b:mo [À (Ä,.lst z6),À (Ä,.dic K V)]=À Ħm:=by show kF (n:=((ß).length:Â)) ?_ Ê;generalize zD z6=RR at j ⊢;simp only[Ö,j]
 let a:=MI (g:=zt 2) (c:=Ry) (e:=sH) (σ:=[À (Ä,.lst z6),À (Ä,.dic K V),Å]) (λi=>!decide Ļd) (ds:=wW (ß).length) λi d h=>by
  let{_,rfl}:=Vr h;rw[áq]
  let k:ql Îa Ăe=À àp:=by exact(À (xA K ýn)).bind _=_;rw[l];rfl
  unfold Ry;simp only[Ö,k]
 rw[Vs]at a;rw[z6k];unfold CY;generalize zK įk=AA at f e1 e2 b a ⊢;generalize zK R=RR at f e1 e2 b a ⊢;generalize (ũe λi:Â=>Ĩb ìd)=TT at f e1 e2 b a ⊢;simp only[Ö,f,e1,e2,b,a]
def j_(z6:Á D)(i:Â):Ï:=decide (wD z6 Ϙb=À î)
def ic(o:É Â)(i:Â):za (uz o) Òp=À (η (o=À î)):=by
 cases o with
 |Å=>rfl|À p=>exact À (øa ((p:Æ)==(i:Æ)+1))=_;by_cases c:p=i+1;subst c;rw[ù rfl,show((i+1:Â):Æ)=(i:Æ)+1 by omega,ϗa];rw[Ĕ (by intro z;cases z;show c rfl),Êb Ê]
theorem x45{z6:Á D}(P:PC z6):XA ť=À (Ã,.lst (zK Ñl)):=by
 let f:=RM P
 let b:=MI (g:=vq 1 2) (c:=S0) (e:=sJ) (σ:=Ϥe) (j_ z6) (ds:=jU Ϝg) λi d a=>by
  rw[TV,ņ]at a;cases hr:ß[i]? with
  |Å=>rw[hr]at a;cases a|À r=>
   rw[hr]at a;cases a
   let h:z_ z6 i=r:=by let:=g9 (ķ hr).1;rw[hr]at this;show(Ňi).symm
   rw[áq];let j:=ic ϸd i;unfold S0 j_;rw[h];simp only[Ö,Ϧ,j]
 rw[YO,å]at b;rw[z6u];unfold Ck;generalize zK Ñl=AA at f b ⊢;generalize (ß).map ϯh=ts at f b ⊢;simp only[Ö,f,pV,b]
nonrec def pR:D->Ï
 |.tup Ċl=>(w == ϰ)&&ύj|_=>Ä
def cP{r:D}(h:xL r):∃b,za Ϲh œi=À Şb/\(b=Ã->∃x y,zH r Ąa=À x/\zH r Űa=À y/\za x y=À (.bl (pR r)))/\(b=Ä->pR r=Ä):=by
 show{wd r == ϰ,RC _ _,λa=>?_,λa=>?_};cases h with
 |Ĝa t=>cases a|Æa h=>
  cases h with
  |Ϣ=>cases a|Yt hw=>rcases hw with rfl|rfl<;>cases a
  |@two w d s hw d0 d1 s0 s1=>have q:Ňh=Ã:=a;show{_,_,rfl,rfl,?_};exact À (øa ύj)=À (øa (Ňh&&ύj));rw[q];rfl|Yv hw=>rcases hw with rfl|rfl<;>cases a
  |mem hw=>rcases hw with rfl|rfl|rfl|rfl<;>cases a
 |wc t=>cases a|Ő t hw hk=>rcases hw with rfl|rfl<;>cases a
 unfold pR
 split;rename_i w d s;let:Ňh=Ä:=a;rw[this];rfl;rfl
def z3b{z6:Á D}(P:PC z6):X2 ť=À (Ã,.lst (zK ώk)):=by
 let h:uN ť=À (Ã,.lst ß):=Xl ϙ
 let f:=MI (g:=vq 1 2) (c:=Rv) (e:=sE) (σ:=Ϥe) (λi=>pR Ϙb) (ds:=jU ß) λi d a=>by
  rw[TV]at a;cases hr:ß[i]? with
  |Å=>rw[hr]at a;cases a|À r=>
   rw[hr]at a;cases a;let m:=(ķ hr).1
   let k:z_ z6 i=r:=by let:=g9 m;rw[hr]at this;show(Ňi).symm
   let j:=(kG P m).1;rw[k]at j;let n:=HI j;let{b,l,q,s}:=cP j;rw[áq];unfold Rv;rw[k];cases b with
   |Ã=>let{x,y,p,o,t}:=q rfl;simp only[Ö,n,l,p,o,t]
   |Ä=>rw[s rfl];simp only[Ö,n,l]
 rw[YO]at f;rw[z5g];unfold Fp;generalize zK ώk=AA at h f ⊢;generalize zD z6=RR at h f ⊢;simp only[Ö,h,pV,f]
def jS(z6:Á D)(T:Á Â)(i:Â):Ï:=decide (Pf z6 i≠0)&&decide (Ġl=0)
def z4d(a:Â):za Ĝf Ź=À (η (a=0)):=by exact À (øa ((a:Æ)==0))=_;by_cases c:a=0;subst c;rfl;rw[Êb Ê,Ĕ c]
theorem y1i{z6:Á D}(P:PC z6){T:Á Â}(E:őa=(ß).length+1)(j:X7 ť=À (Ã,.lst Ěa)):X8 ť=À (Ã,.lst (zK ϭk)):=by
 let F:(ß).length<=100:=ĉ Ôc Éc;let k:uN ť=À (Ã,.lst ß):=Xl ϙ;let o:=BY P;obtain⟨a,l⟩:∃a:Á Â,a=(ļc).map Ŏe:={_,rfl};let t:ăa=(ß).length:=by rw[l,å,ëa]
 let x:∀i,i<(ß).length->gt a i=Pf z6 i:=λi b=>by unfold gt;rw[l,Ŷ,ņ,Ϟd b];rfl
 let e1:xi űj xY Be Ϸj ß=À ϲa:=by
  let:=Hf (g:=zt 4) (e:=Be) (σ:=Ϸj) (λi=>.int (Pf z6 i:Â)) (ds:=zD z6) 0 λi d r=>by
   let b:=(ķ r).1
   let v:z_ z6 i=d:=by let:=g9 b;rw[r]at this;show(Ňi).symm
   let q:=(IZ P b).1;rw[v]at q;rw[šp];rw[ĺ];unfold Be;generalize zK T=TT at q ⊢;generalize wm z6=WW at q ⊢;simp only[Ö,q]
  rw[this,<-íh,l];rw[õq]
 let m:ml ϩj=À Ħm:=by
  let:=kF (f:=eL uj øc) (τ:=ϩj) (n:=((ß).length:Â)) (by exact À (Ě ((ϲa).length:Â))=_;rw[k8,t]) Ê
  rw[ē]at this;rw[Œp]
 let h:=MI (g:=zt 4) (c:=Rx) (e:=sG) (σ:=[À (Ä,.lst z6),À (Ä,.lst Ěa),À (Ä,.lst ùb),À (Ä,.lst ϲa),Å]) ěp (ds:=wW (ß).length) λi d r=>by
  let{b,rfl}:=Vr r;rw[áq];let s:=MO (T:=a) (i:=i) Ê;rw[x i b]at s;let B:=BZ b;let A:=i9 (T:=T) (ws:=Wf z6 i) λw u=>by let:=Wp b u;omega
  let y:=LJ ĩp (vi T Ëe);let p:=i7 ĩp 0;let p:vG (.int (Pf z6 i:Â)) Ź=À (ω (Pf z6 i=0)):=p;let C:=z4d Ġl;unfold Rx jS;generalize zK T=TT at *;generalize wm z6=WW at *;generalize zK a=PP at *;generalize zK Ëe=WI at *;by_cases c:Pf z6 i=0;rw[ù c]at p;rw[Ĕ (λz=>z c),ďf];simp only[Ö,s,p];rw[Ĕ c]at p;rw[ù c,ýd];simp only[Ö,s,p,B,A,y,C]
 rw[Vs]at h;rw[z6j];unfold CW;generalize zK ϭk=AA at j o k e1 m h ⊢;generalize zK T=TT at j o k e1 m h ⊢;generalize zK a=PP at j o k e1 m h ⊢;generalize wm z6=WW at j o k e1 m h ⊢;generalize wW (ß).length=UU at j o k e1 m h ⊢;generalize zD z6=RR at j o k e1 m h ⊢;simp only[Ö,j,o,k,e1,m,h]
theorem KE:∀(ns acc:Á Æ),acc.Nodup->(Şn).Nodup/\∀x,x∈Ĩi jr acc↔x∈acc\/x∈ns
 | [],acc,h=>{h,λx=>{.inl,λz=>ŭ id λz=>by cases z}}|n::ns,acc,h=>by
  rw[Ìa];by_cases c:(acc.any λm=>decide (m=n))=Ã;let e:jr acc n=acc:=Ð c;rw[e];let{a,b}:=KE ns acc h;show{a,λx=>(b x).trans {λz=>z.imp id (Ű _),λz=>ŭ .inl λz=>?_}};rcases ħ z with rfl|z;let{m,g,e}:=ϗl c;show .inl (š e▸g);rw[Ϯp];let e:jr acc n=acc++[n]:=Ñ c;rw[e];let d:n ∉ acc:=λz=>c (řl {n,z,ù rfl})
  let{a,b}:=KE ns (acc++[n]) (Áf {h,Ùd {Ëa,Ùb},λx i y f z=>d (by cases Į f;show z▸i)});show{a,λx=>(b x).trans ?_};rw[ŏc,Ýf,ťa];show{λz=>ŭ (λz=>ŭ .inl λz=>.inr èb) λz=>.inr īa,λz=>ŭ (λz=>.inl èb) λz=>ŭ (λz=>.inl īa) .inr}
theorem ff:∀{a b:Á Æ},Ħo (·<·)->ļi (·<·)->(∀x,x∈a↔x∈b)->a=b
 | [],[],_,_,_=>rfl| [],y::b,_,_,h=>by let:=(h y).mpr Ĝ;cases this|x::a,[],_,_,h=>by let:=(h x).mp Ĝ;cases this|x::a,y::b,ha,hb,h=>by
  rw[List.pairwise_cons]at ha hb
  let e:x=y:=by rcases ħ ((h x).mp Ĝ)with z|z;show z;rcases ħ ((h y).mpr Ĝ)with w|w;show w.symm;let:=hb.1 x z;let:=ha.1 y w;omega
  subst e
  rw[ff ha.2 hb.2 λz=>⟨λc=>by
   rcases ħ ((h z).mp Ġd)with w|w;let:=ha.1 z c;omega;show w,λc=>by
   rcases ħ ((h z).mpr Ġd)with w|w;let:=hb.1 z c;omega;show w⟩]
theorem y5a(n:Â)(p:Â->Ï):((ëj).map λi:Â=>(i:Æ)).Pairwise (·<·):=by rw[čm];unfold pN;show List.Pairwise.filter _ (List.pairwise_lt_range.imp λh=>by omega)
def x1n{n:Â}(t:n<64){l:Á Â}(m:ϥb<1000){p:Â->Ï}(h:∀i,i∈l↔i<n/\p i=Ã):Jc [.lst Ųj]=À (Β (zK ëj)):=by
 let j:źa Ųj=À (Úa λi:Â=>(i:Æ)):=by let:=eN (Úa λi:Â=>(i:Æ));rw[îa]at this;rw[Œp]
 let{r,d}:=KE (Úa λi:Â=>(i:Æ)) [] Ùb;let f:=ϧh Ϸc
 let o:(ϑi).Pairwise (·<·):=by let q:(ϑi).Nodup:=f.nodup_iff.mpr r;show(ŷm Ϸc).imp₂ (λa b s k=>by let:a≠b:=k;omega) q
 let g:Ċd Ϸc=(ëj).map λi:Â=>(i:Æ):=ff o (y5a n p) λx=>by
  rw[f.mem_iff,show x∈qT (Úa λi:Â=>(i:Æ))↔x∈([]:Á Æ)\/x∈Úa Ϗd from d x]
  rw[ϱp];rintro(z|z);cases z;let{i,e,rfl}:=ϫ z;show ňc {i,VR.mpr ((h i).mp e),rfl};intro z;let{i,e,rfl}:=ϫ z;show .inr (ňc {i,(h i).mpr (VR.mp e),rfl})
 have c:(Ϸc).length<64:=by rw[<-f.length_eq,g,å];unfold pN;let:=ĭl p ġb;rw[ëa]at this;omega
 exact(źa Ųj).bind _=_;rw[j];exact(if(Úa λi:Â=>(i:Æ)).length<1000/\(Ϸc).length<64 then À (Ζb ϑi)else Å)=_;rw[Ð {by rw[å];show m,c},g,îa];rfl
def VE(z6:Á D)(R T:Á Â)(i:Â):Ï:=!decide Ļd||j_ z6 i||pR Ϙb||jS z6 T i
def z7f{z6:Á D}(P:PC z6)(I:(ß).length<=60){R T:Á Â}(E:Z8 ť=À (Ã,.lst Ŏd))(u:őa=(ß).length+1)(s:X7 ť=À (Ã,.lst Ěa)) :Qp ť=À (Ã,.lst (zK Ϗk)):=by
 let r:=y1j P E;let q:=x45 P;let m:=z3b P;let o:=y1i P u s
 let b:∀p:Â->Ï,(pN (ß).length p).length<=60:=λp=>by unfold pN;let:=ĭl p ļc;rw[ëa]at this;omega
 obtain⟨A,e⟩:∃A,A=pN (ß).length λi=>!decide Ļd:={_,rfl}
 obtain⟨B,j⟩:∃B,B=pN (ß).length (j_ z6):={_,rfl};obtain⟨C,g⟩:∃C,C=pN (ß).length λi=>pR Ϙb:={_,rfl}
 obtain⟨Z,k⟩:∃Z,Z=pN (ß).length ěp:={_,rfl};let t:Øj<=60:=e▸b _;let w:B.length<=60:=j▸b _;let x:C.length<=60:=g▸b _;let y:Z.length<=60:=k▸b _;rw[<-e]at r;rw[<-j]at q;rw[<-g]at m;rw[<-k]at o
 let c:=x1n (n:=(ß).length) Ê (l:=A++B++C++Z) (by rw[è,è,è];omega) (p:=VE z6 R T) λi=>by
  rw[ŏc,ŏc,ŏc,e,j,g,k,VR,VR,VR,VR];unfold VE;rw[őc,őc,őc]
  rw[ϱp];rintro(((⟨h,z⟩|⟨h,z⟩)|⟨h,z⟩)|⟨h,z⟩);show{h,.inl (.inl èb)};show{h,.inl (.inl īa)};show{h,.inl īa};show{h,.inr z};rintro⟨h,((z|z)|z)|z⟩;show .inl (.inl (.inl {h,z}));show .inl (.inl Ϛn);show .inl Ϛn;show .inr {h,z}
 let d:∀X Y:Á Â,ϖ<=300->ſc<=60->∀F:Á D->É ä,F ť=À (Ã,.lst (zK Y))->vO 1 (zg F ϣ) ýk=À (Ψc (X++Y)):=λX Y G H F v=>by
  let:=ER (σ:=ýk) (i:=1) (f:=zg F ϣ) (xs:=zK X) (ys:=zK Y) rfl (by exact(F ť).bind _=_;rw[v];rfl) (by rw[k8,k8];omega)
  rw[<-Hw]at this;rw[Œp]
 let a:ZM 2 Śg úk=À âp:=by exact(vO 1 (zg X9 ϣ) úk).bind _=_;rw[d [] A öb t _ r];exact(vO 1 (zg XA ϣ) [À (Ä,.lst z6),À (Ã,.lst (zK ([]++A))),Å]).bind _=_;rw[d ([]++A) B (by rw[ãc];omega) w _ q];exact(vO 1 (zg X2 ϣ) [À (Ä,.lst z6),À (Ã,.lst (zK Ŝo)),Å]).bind _=_;rw[d Ŝo C (by rw[ãc,è];omega) x _ m];exact(vO 1 (zg X8 ϣ) [À (Ä,.lst z6),À (Ã,.lst (zK ľn)),Å]).bind _=_;rw[d ľn Z (by rw[ãc,è,è];omega) y _ o,ãc];rfl
 let a:ZM 2 Śg [À (Ä,.lst z6),À (Ã,.lst []),Å]=À âp:=a;rw[z5q];unfold C1;generalize ZM 2 _=LX at a c ⊢;generalize zK ŏl=ZZ at a c ⊢;generalize zK Ϗk=AA at a c ⊢;simp only[Ö,a,c]
nonrec def jz:D->É Ç
 |.tup [_,.str t]=>À t|_=>Å
nonrec def Ko(g:Ç->Ç):D->D
 |.tup [a,.str t]=>.tup [a,.str (g t)]|.tup [a,b,.str t]=>.tup [a,b,.str (g t)]|d=>d
def HL{d:D}(h:xL d)(a:vh d=Ã):∃(hd:Á D) (t:Ç),d=.tup (hd++[.str t])/\hd≠[]/\hd.length<=2/\(∀g,Ko g d=.tup (hd++[.str (g t)]))/\(∀u,xL Èf/\vh Èf=Ã/\zi Èf=Ä)/\(∀u,jz Èf=(ϋj).map λ_=>u):=by
 cases h with
 |Ĝa u=>cases a|Æa h=>let{_,_,_,_,c,_}:=VV h;rw[c]at a;cases a
 |wc t=>show{[.str ća],t,rfl,by simp,by simp,λ_=>rfl,λu=>{.wc u,rfl,rfl},λ_=>rfl}|Ő t hw hk=>rename_i w k;show{[.str w,.str k],t,rfl,by simp,by simp,λ_=>rfl,λu=>{.cond u hw hk,by rcases hw with rfl|rfl<;>rfl,by rcases hw with rfl|rfl<;>rfl},λ_=>rfl}
def HK{c:Á D}{t u:Ç}(e:c≠[])(d:äa<=2):EY Ÿl Å (À (-1))=À (.tup c)/\zH Ÿl Ũc=À ϭb/\xF (.tup c) (.tup [.str u])=À (.tup (c++[.str u])):=by
 match c,e,d with
 | [a],_,_=>show{rfl,rfl,rfl}| [a,b],_,_=>show{rfl,rfl,rfl}| [],h,_=>show Ý rfl h|_::_::_::_,_,h=>simp at h
section
variable(J:Â->É Ç)(pl:Ç->Â)
inductive jB:Â->Ç->Á Â->É Ç->È
 |Ϣ {a:Ç} {Èa:Á Â}:J ĸg=Å->jB 0 a Èa (À a)
 |UB {a r:Ç} {Èa:Á Â}:J ĸg=À r->pl a∈Èa->jB 0 a Èa Å
 |go {a r:Ç} {Èa:Á Â} {k:Â} {o:É Ç}:J ĸg=À r->pl a ∉ Èa->jB k r ĝi o->jB Ş a Èa o
#print a
section
variable{J:Â->É Ç}{pl:Ç->Â}
def y8n{k:Â}{a:Ç}{b:Á Â}{o:É Ç}(h:jB J pl k a b o):∀{k':Â}{o':É Ç},jB J pl k' a b o'->o=o':=by
 induction h with
 |Ϣ h=>
  intro k' o' g;cases g with
  |Ϣ _=>rfl|UB g _=>rw[h]at g;cases g|go g _ _=>rw[h]at g;cases g
 |UB h m=>
  intro k' o' g;cases g with
  |Ϣ g=>rw[h]at g;cases g|UB _ _=>rfl|go _ g _=>show Ý m g
 |go h m _ ih=>
  intro k' o' g;cases g with
  |Ϣ g=>rw[h]at g;cases g|UB _ g=>show Ý g m|go g _ r=>rw[h]at g;cases g;show ih r
theorem Mt{n:Â}(e:∀p r,J p=À r->p<n):∀(m:Â)(a:Ç)(Èa:Á Â),seen.Nodup->(∀q∈Èa,q<n)->n-seen.length<=m->∃k o,k<=m/\jB J pl k a Èa o
 |m,a,Èa,nd,hs,hm=>by
  cases h:J ĸg with
  |Å=>show{0,_,ϐ _,.stop h}|À r=>
   by_cases hi:pl a∈Èa;show{0,_,ϐ _,.UB h hi};let f:=e _ _ h;let c:(ĝi).Nodup:=Ùd {hi,nd}
   let b:∀q∈pl a::Èa,q<n:=λq d=>by rcases ħ d with rfl|d;show f;show hs q d
   let:=Cv n c b;rw[Ĉ]at this
   match m,hm with
   |0,hm=>omega|m+1,hm=>let{k,o,g,R}:=Mt e m r ĝi c b õm;show{k+1,o,by omega,.go h hi R}
#print a
nonrec def IF(J:Â->É Ç)(pl:Ç->Â)(t:Ç):Ç:=open Ϫo in if h:∃o k,jB J pl k t [] o then(Classical.choose h).getD t else t
def Hd{J:Â->É Ç}{pl:Ç->Â}{t:Ç}{k:Â}{o:É Ç}(h:jB J pl k t [] o):IF J pl t=őd t:=by let a:∃o k,jB J pl k t [] o:={o,k,h};unfold IF;rw[dif_pos a];let{c,b}:=Classical.choose_spec a;rw[y8n b h]
theorem KO{t:Ç}:∀{L:Á D}(s:Â×É Â),xm t∈L\/s.2.isSome=Ã->(äd.2).isSome=Ã
 | [],s,h=>ϝc ĝm id|d::L,s,h=>by
  rw[Ìa];show KO _ ?_;rcases h with h|h;rcases ħ h with rfl|h;show .inr ?_;let:Xc t Řd=Ã:=ϗa t;unfold vX;rw[show zi Řd=Ã from rfl];rw[ŕp];rw[this];rfl;rw[åq];show .inr ?_;unfold vX;cases zi d with
  |Ã=>
   rw[ŕp];cases Xc t d with
   |Ã=>rfl|Ä=>show h
  |Ä=>show h
def x1h{z6:Á D}(h:∀d∈z6,xL d){t:Ç}{p:Â}(e:Ŝc.2=À p):xm t∈z6:=by
 apply ϲg;intro b
 let:=K7 (t:=t) (L:=z6) (s:=(0,Å)) λd a=>by
  cases ht:gk t d with
  |Ä=>rfl|Ã=>show Ý (HG (h d a) ht▸a) b
 unfold xG at e;rw[this]at e;cases e
def CN:FS:=
 (yY (XQ Ţm (e2 za (e2 zH Ċf ĝ) ĵe)))
def Qx:Á D->É ä:=FR 2 2 CN
def z6b(b a:D):Qx ą=yM 2 CN ą:=rfl
def XV:FS:=(zR (yS (tE (e2 xM ťh (tV 3)))
     (yY ý)
     yi)
    (zR (jV 3 ťh Ŷf)
    (yF 4 (e2 zH (e2 zH û ťh) Đd))))
def XM:FT:=(tE (zg Qx űk))
def C9:FS:=
 (zR (t4 3 Ńc)
  (zR (yF 4 ý)
  (zR (Ve XM
   XV)
  (zR (ZW 3) (yY ŝ)))))
def Qs:Á D->É ä:=FR 3 5 C9
def z5y(b a c:D):Qs Ϩ=yM 5 C9 Ϩ:=rfl
def Rn:FE:=(jJ (tE (zg WV øc)) (e2 xF (Y9 Ī YQ (YR Đd)) (xz (Α (zg Qs (zB (e2 zH Ī Đd) (Ο Žh)))))) Ī)
def CO:FS:=
 (zR Ťf
  (zR (yF 2 ÿo)
  (vY (wK 1 Ϩb Ĥb xY Rn))))
def Uj:Á D->É ä:=FR 1 3 CO
def z6c(a:D):Uj [a]=yM 3 CO [a]:=rfl
nonrec def jn(Éa:Á D)(p:Â):É Ç:=match Éa[p]? with
 |À Ĳm=>À t|_=>Å
def HJ(Éa:Á D)(p:Â):jn Éa p=(Éa[p]?).bind jz:=by
 unfold jn;cases e:Éa[p]? with
 |Å=>rfl|À d=>
  exact(match À d with|À Ĳm=>À t|_=>Å)=jz d;unfold jz
  split<;>rename_i h;cases h;rfl;split;rename_i a b;show Ý rfl (h _ _);rfl
def n5{d:D}(h:xL d)(a:zi d=Ä):∃w,zH d Ź=À Ř/\za Ř ϕa=À (.bl (ϋj).isSome)/\∀t,jz d=À t->d=.tup īc:=by
 cases h with
 |Ĝa u=>cases a|Æa h=>cases h with
  |Ϣ=>show{_,rfl,rfl,λt z=>by cases z}|Yt hw=>rcases hw with rfl|rfl<;>show{_,rfl,rfl,λt z=>by cases z}
  |two hw=>rcases hw with rfl|rfl|rfl|rfl|rfl|rfl|rfl|rfl|rfl<;>show{_,rfl,rfl,λt z=>by cases z}
  |Yv hw=>rcases hw with rfl|rfl<;>show{_,rfl,rfl,λt z=>by cases z}
  |mem hw=>rcases hw with rfl|rfl|rfl|rfl<;>show{_,rfl,rfl,λt z=>by cases z}
 |wc u=>show{_,rfl,rfl,λt z=>by cases z;rfl}|Ő u hw hk=>rcases hw with rfl|rfl<;>show{_,rfl,rfl,λt z=>by cases z}
def xj(z6:Á D)(t:Ç):Â:=(Ňe).getD 0
def Zw(z6:Á D)(t:Ç):È:=∃p,Ŝc.2=À p
def HU{z6:Á D}{t:Ç}(h:Zw z6 t):Ŝc.2=À (xj z6 t):=by let{p,e}:=h;unfold xj;rw[e];rfl
def n8{z6:Á D}(P:PC z6){p:Â}{d:D}(h:ß[p]?=À d):d∈z6/\xL d/\zi d=Ä:=by let:=űb (ϛ h);show{this.1,ϙ d this.1,by simpa using this.2}
def TC{z6:Á D}(P:PC z6){p:Â}{r:Ç}(h:jn ß p=À r):ß[p]?=À Äh/\Zw z6 r/\p<(ß).length:=by
 rw[HJ]at h;cases e:ß[p]? with
 |Å=>rw[e]at h;cases h|À d=>rw[e]at h;let{m,f,g}:=n8 P e;let{w,a,b,c}:=n5 f g;let i:=c r h;subst i;show{rfl,?_,Ŋe.1};let{t,q,e1,e2}:=Ĩc _ m rfl;cases e1;show{q,e2}
def fR{z6:Á D}(P:PC z6)(p:Â):Qx [.lst ß,.int (p:Æ)]=À (Ä,.bl (jn ß p).isSome):=by
 rw[z6b];unfold CN;by_cases h:p<(ß).length;let c:decide ϡk=Ã:=ù Ê;let e:ß[p]?=À ß[p]:=Ē h;let{_,i,j}:=n8 P e;let{w,a,b,_}:=n5 i j;let f:zH ůf âf=À ß[p]:=jt Ê (by rw[ē];show e);let g:jn ß p=jz ß[p]:=by rw[HJ,e];rfl
 rw[g];generalize ß[p]=d at c f a b ⊢;generalize zD z6=RR at c f a b ⊢;simp only[Ö,c,f,a,b];let c:decide ϡk=Ä:=Ĕ Ê;let g:jn ß p=Å:=by rw[HJ,ŀa Ê];rfl
 rw[g];generalize zD z6=RR at c ⊢;simp only[Ö,c];rfl
def z92{z6:Á D}(P:PC z6){ks:Á Ĺ}{vs:Á D}(hk:∀t,ċ ks vs ķd=(Ňe).map λn:Â=>Ě n)(ī:Ç) :∀{k:Â}{a:Ç}{Èa:Á Â}{o:É Ç},jB ĳe Ōe k a Èa o->Zw z6 a->∀(K:Á Ĺ) (V:Á D),Êg=V.length->Êg+k<=1000->(∀q:Â,xA K (.inl (q:Æ))=decide (q∈Èa))->
  (∃b K' V',o=À b/\tz XM XV Ş ϴc=À (.nx [À (Ä,.str ī),À (Ä,.lst ß),À (Ä,.dic ks vs),À (Ã,.dic K' V'),À (Ä,.str b)])) \/
  (o=Å/\tz XM XV Ş ϴc=À Źl):=by
 let s:∀{a:Ç},Zw z6 a->zH (.dic ks vs) ùj=À ϙd:=λ{a} h=>by exact ċ ks vs ýj=_;rw[hk,HU h];rfl
 intro k
 induction k with
 |ů=>
  rw[Ϧp];cases R with
  |Ϣ h=>
   show .inl {a,K,V,rfl,?_};rw[h]at f;rw[OC];rw[Őp]
  |UB h hi=>
   show .inr {rfl,?_};rw[h]at f
   let d:xM ϙd Ăe=À Ĭ:=by exact(Ŕm).bind _=_;rw[g,ù hi];rfl
   unfold tz
   let j:XM ϴc=À Ã:=by rw[Őp]
   let l:XV ϴc=À Źl:=by unfold XV;generalize zD z6=RR at c d ⊢;simp only[Ö,c,d]
   rw[j];exact(XV _).bind _=_;rw[l];rfl
 |Ż k ih=>
  rw[Ϧp];cases R with
  |go h hi R=>
   rename_i r;let{y,A,C}:=TC P h;rw[h]at f
   let d:xM ϙd Ăe=À Ā:=by exact(Ŕm).bind _=_;rw[g,Ĕ hi];rfl
   let w:zH ůf ϙd=À Äh:=jt Ê (by rw[ē];show y);let u:zH Äh Ũc=À (.str r):=rfl;let v:uU ϙd=À ſe:=rfl;let i:Êg<yV:=by rw[Ňp]
   let j:XM ϴc=À Ã:=by rw[Őp]
   let l:XV ϴc=À (.nx [À (Ä,.str ī),À (Ä,.lst ß),À (Ä,.dic ks vs),À (Ã,.dic ōi şm),À (Ä,.str r)]):=by unfold XV;generalize zD z6=RR at c d v i w u ⊢;simp only[Ö,c,d,jV,v,Ð i,w,u]
   let:=ih R A ōi şm (VX x) (by
    let:(ōi).length<=Êg+1:=by
     unfold w8
     split;rw[źp]
    omega) λq=>by
    rw[d_,g];by_cases e:q=xj z6 a;subst e;rw[ù (p:=(ı ((xj z6 a:Â):Æ):Sum Æ Ç)=ı ((xj z6 a:Â):Æ)) rfl,åi,ù Õa];rw[Ĕ (p:=(ı ((xj z6 a:Â):Æ):Sum Æ Ç)=ı (q:Æ)) (λz=>e Ņl),Ôe];show ϓd {λz=>Ű _ z,λz=>?_};rcases ħ z with z|z;show Ý z e;show z
   rw[Rf j l];rw[Œp]
def z90{z6:Á D}(P:PC z6){ks:Á Ĺ}{vs:Á D}(hk:∀t,ċ ks vs ķd=(Ňe).map λn:Â=>Ě n){t:Ç}(a:Zw z6 t) :Qs [.str t,.lst ß,.dic ks vs]=À (Ä,.str (IF ĳe Ōe t)):=by let rl:(ß).length<=100:=ĉ Ôc Éc;let{k,o,c,R}:=Mt (J:=jn ß) (pl:=xj z6) (n:=(ß).length) Éh (ß).length t [] Ùb Ϥd Ôb;rw[Hd R,z5y];unfold C9;rcases z92 P hk t R a [] [] rfl (by exact 0+k<=_;omega) (λq=>rfl)with⟨b,f,d,rfl,e⟩|⟨rfl,e⟩;rw[ŷp];rw[ŷp]
nonrec def qp(z6:Á D)(t:Ç):Ç:=IF ĳe Ōe t
nonrec def uF(z6:Á D)(d:D):D:=match vh d with
 |Ã=>Ko Ŀj d|Ä=>d
def z9c{z6:Á D}(P:PC z6):Uj ť=À (Ã,.lst Ϻd):=by
 let{r,q,e1,m}:=fO ϙ Ŵl;let e2:=Xl ϙ
 let l:=YJ (g:=zt 3) (e:=Rn) (σ:=[À (Ä,.lst z6),À (Ä,.lst ß),À (Ä,.dic r q),Å]) ĉg (ds:=z6) λd j=>by
  let a:=eS Õp;rw[šp];unfold Rn uF;cases z:vh d with
  |Ä=>rw[z]at a;generalize zD z6=RR at a ⊢;simp only[Ö,a]|Ã=>
   rw[z]at a;let{w,p,b,s}:=Ĩc d j z;let{k,t,n,v,o,rl,_,_}:=HL Õp z;let{i,c,h}:=HK (t:=t) (u:=qp z6 t) v o;rw[rl];subst n;rw[c]at b;injection b with b
   injection b with b
   subst b;let f:=z90 P m {p,s};unfold qp at *;generalize IF ĳe Ōe t=u at a i c f h ⊢;generalize zD z6=RR at a i c f h ⊢;generalize k++[Åa t]=dd at a i c f h ⊢;simp only[Ö,a,Y9,YR,YQ,i,c,f,h]
 rw[z6c];unfold CO;generalize z6.map ĉg=LL at *;let e2:uN ť=À (Ã,.lst ß):=e2;generalize zD z6=RR at e2 e1 l ⊢;simp only[Ö,e2,e1,l]
theorem f9{f:D->D}(t:Ç):∀{L:Á D}(s:Â×É Â),(∀d∈L,zi (f d)=zi d/\Ġm)->(Ĩj).foldl şe s=Ĝj şe s
 | [],_,_=>rfl|d::L,s,h=>by
  rw[ľ,Ìa,Ìa,f9 t _ λx c=>h x Ġd];let{a,b}:=h d Õa
  congr 1
  unfold vX;rw[a];cases hl:zi d with
  |Ã=>rw[b hl]|Ä=>rfl
theorem f8{f:D->D}:∀{L:Á D},(∀d∈L,zi (f d)=zi d/\Ġm)->(Ĩj).filter zi=Ϗb zi
 | [],_=>rfl|d::L,h=>by
  let{a,b}:=h d Õa;let c:=f8 λx e=>h x ýp
  rw[ľ];cases hl:zi d with
  |Ã=>rw[Ša (by rw[a];show hl),Ša hl,c,b hl]|Ä=>rw[ša ųl,ša ϩd,c]
theorem fA{f:D->D}:∀{L:Á D},(∀d∈L,zi (f d)=zi d)->(Ĩj).filter ïc=(łh).map f
 | [],_=>rfl|d::L,h=>by
  let a:=h d Õa;let b:=fA λx c=>h x Ġd
  rw[ľ];cases hl:zi d with
  |Ã=>rw[ša ųl,ša ϩd,b]|Ä=>rw[Ša (by rw[a,hl];rfl),Ša (by rw[hl];rfl),b,ľ]
theorem z9b{z6:Á D}(P:PC z6):∀d∈z6,xL ϣf/\vh ϣf=vh d/\zi ϣf=zi d/\(zi d=Ã->uF z6 d=d)/\jz ϣf=(if vh d=Ã then(ϋj).map Ŀj else jz d):=λd f=>by
 unfold uF;cases z:vh d with
 |Ä=>show{ϙ d f,z,rfl,λ_=>rfl,by rw[Ñ Ħ]}|Ã=>
  let{h,t,c,k,j,rl,a,b}:=HL (ϙ d f) z;exact xL (Ko Ŀj d)/\_;rw[rl,Ð rfl,b];let g:zi d=Ä:=by rw[c];show(a t).2.2
  refine{(a _).1,(a _).2.1,by rw[g];show(a _).2.2,(λy=>by rw[g]at y;cases y),?_};let:=b t;rw[<-c]at this;cases e:jz d with
  |Å=>rfl|À u=>rw[e]at this;let i:u=t:=ϸ this;rw[i];rfl
def fK{z6:Á D}(P:PC z6){t:Ç}(d:Zw z6 t):Zw z6 ĕp:=by
 let{k,o,_,R}:=Mt (J:=jn ß) (pl:=xj z6) (n:=(ß).length) Éh (ß).length t [] Ùb Ϥd Ôb;unfold qp;rw[Hd R]
 let f:∀{k:Â}{a:Ç}{c:Á Â}{b:Ç},jB ĳe Ōe k a c Ĉg->Zw z6 a->Zw z6 b:=λ{k}=>by
  induction k with
  |ů=>intro a c b R h;cases R;show h|Ż k ih=>
   intro a c b R h;cases R with
   |go e _ R=>show ih R (TC P e).2.1
 cases o with
 |Å=>show d|À b=>show f R d
def MJ{z6:Á D}(P:PC z6):PC Ϻd/\(∀t,xG t Ϻd=xG t z6)/\zD Ϻd=(ß).map ĉg:=by
 let c:=z9b P;let j:∀t,xG t Ϻd=xG t z6:=λt=>f9 t _ λd a=>{ōe.2.2.1,ōe.2.2.2.1}
 show{{λd a=>?_,?_,λd a r=>?_,by rw[å];show Éc},j,fA λd a=>ōe.2.2.1};let{x,g,rfl}:=ϫ a;show(c x g).1;rw[f8 λd a=>{ōe.2.2.1,ōe.2.2.2.1}];show ĩc;let{x,g,rfl}:=ϫ a;let b:=r;rw[(c x g).2.1]at b;let{s,p,f,o}:=Ĩc x g b;let{h,t,l,k,i,rl,_,_}:=HL (ϙ x g) b
 let e:uF z6 x=.tup (h++[.str ĕp]):=by unfold uF;rw[b];show rl _
 let{_,n,_}:=HK (t:=t) (u:=t) k i;rw[l,n]at f;injection f with f
 injection f with f
 subst f;let{q,m}:=fK P {p,o};show{qp z6 t,q,?_,by rw[j];show m};rw[e];show(HK (t:=qp z6 t) (u:=t) k i).2.1
def Rs:FE:=(xz (zB Âa ŝh))
def Hc:FS:=(yS (tE (zg X5 ϗi))
     âc
     (zR (yS (tE (e2 ql Ī Ĵ))
       âc
       yi)
      (yF 3 (e2 Ĉf Ī ĸ))))
def Cp:FS:=
 (zR (yF 2 (eL W_ (Α (wK 1 (w_ û) Ŝe xY Rs))))
  (zR (t4 4 øb)
  (zR (yF 3 ĝ)
  (zR (qy Ϩb ŝe
   Hc)
  ĵg))))
def Uo:Á D->É ä:=FR 2 6 Cp
def z6y(b a:D):Uo ą=yM 6 Cp ą:=rfl
def qP(a:Á Â)(s:Â×Á D)(d:D):Â×Á D:=match zi d with
 |Ã=>(s.1,s.2++[d])|Ä=>(s.1+1,if s.1∈a then s.2 else s.2++[d])
def uT(a:Á Â)(L:Á D):Â×Á D:=Ĝj (qP a) (0,[])
def z86(a:Á Â)(L:Á D)(d:D):uT a čc=qP a įd d:=by unfold uT;rw[Īh];rfl
theorem HQ(a:Á Â):∀(L:Á D)(s:Â×Á D),ĝh.2.length<=s.2.length+Àa
 | [],s=>Ŕ _|d::L,s=>by
  rw[Ìa];let h:=HQ a L őo
  let:őo.2.length<=s.2.length+1:=by
   unfold qP;cases zi d with
   |Ã=>exact(Őo).length<=_;rw[è];show Ŕ _|Ä=>
    exact(ϋg).length<=_
    split;rw[źp]
  rw[Ĉ];omega
theorem fC(a:Á Â):∀(L:Á D)(s:Â×Á D),∀x∈ĝh.2,x∈s.2\/x∈L
 | [],s,x,h=>.inl h|d::L,s,x,h=>by
  rw[Ìa]at h;rcases fC a L _ x h with h|h;let:x∈s.2\/x=d:=by
   unfold qP at h;cases hl:zi d with
   |Ã=>rw[hl]at h;rcases ż h with h|h;show .inl h;show .inr (Į h)
   |Ä=>
    rw[hl]at h;let h:x∈ϋg:=h
    rw[ũp];rw[åq];rcases ż h with h|h;rw[åq];show .inr (Į h)
  rcases this with h|h;rw[åq];show .inr (h▸Ĝ ..);show .inr (Ű _ h)
def x7q{z6:Á D}(h:∀d∈z6,xL d)(w:ňa<=100)(a:Á Â):Uo [.lst z6,.lst ϲa]=À (Ã,.lst (uT a z6).2):=by
 let e1:xi Ŝe xY Rs Ík ϲa=À (Ğc λi:Â=>Ĩb ìd):=by
  let:=YJ (g:=zt 6) (e:=Rs) (σ:=Ík) ÿl (ds:=zK a) λd u=>{_,rfl,rfl}
  rw[this];rw[õq]
 let{K,V,e2,n}:=cf a
 let{σ',l,m,rfl}:=gx (g:=zt 5) (b:=Hc) (λi σ=>∃m,σ=[À (Ä,.lst z6),À (Ä,.lst ϲa),À (Ä,.dic K V),À (Ä,.int ((ĕd.1:Â):Æ)),À (Ã,.lst ĕd.2),m]) (ds:=z6)
  (σ:=[À (Ä,.lst z6),À (Ä,.lst ϲa),À (Ä,.dic K V),À (Ä,.int 0),À (Ã,.lst []),Å]) 0 {Å,rfl} (by
  rintro i v σ k ⟨m,rfl⟩;rw[ĺ]at *;let p:i<ňa:=(ķ k).1;let t:z6[i]=v:=(ķ k).2;let q:èg î=èg i++[v]:=by rw[Ïc p,t]
  let f:=HH (h v (ϛ k));let o:=HQ a Ļc (0,[]);let lt:(Ļc).length<=100:=by rw[Ýa];omega
  let c:ql (.int ((ĕd.1:Â):Æ)) Ăe=À (ω (ĕd.1∈a)):=by exact(À (xA K (.inl _))).bind _=_;rw[n];rfl
  let j:=Wr (L:=ĕd.2) (r:=v) (by let:ĕd.2.length<=0+(Ļc).length:=o;omega);show{_,[À (Ä,.lst z6),À (Ä,.lst ϲa),À (Ä,.dic K V),À (Ä,.int ((Ōo.1:Â):Æ)),À (Ã,.lst Ōo.2),À (Ä,v)],rfl,.inl ?_,_,rfl};rw[q,z86];generalize uT a Ļc=s at *;unfold Hc qP;cases hL:zi v with
  |Ã=>
   rw[hL]at f;simp only[Ö,f,j]
  |Ä=>
   rw[hL]at f;by_cases hm:s.1∈a
   .rw[ù hm]at c;simp only[Ö,f,c,Ð hm];rfl
   .rw[Ĕ hm]at c;simp only[Ö,f,c,j,Ñ hm];rfl)
 rw[ĺ,Ňc]at l;rw[z6y];unfold Cp;generalize zK a=QQ at e1 e2 l ⊢;simp only[Ö,e1,e2,l]
theorem fB(a:Á Â):∀(L:Á D)(s:Â×Á D),ĝh.2.filter zi=s.2.filter zi++Ϗb zi
 | [],s=>by rw[Âe,ώ];rfl|d::L,s=>by
  rw[Ìa,fB a L];unfold qP;cases hl:zi d with
  |Ã=>exact(Őo).filter zi++_=_;rw[Ŵb,Ša hl,Ša hl,Âe,Ū];rfl|Ä=>
   exact(ϋg).filter zi++_=_;rw[ša ϩd]
   split;rfl;rw[Ŵb,ša ϩd,Âe,ώ]
theorem z85{L:Á D}(P:PC L)(a:Á Â):PC įd.2:=by
 let c:∀x∈įd.2,x∈L:=λx j=>by rcases fC a L (0,[]) x j with h|h;cases h;show h
 let f:įd.2.filter zi=Ϗb zi:=fB a L (0,[]);refine{λd b=>ϙ d (c d b),by rw[f];show ĩc,λd b l=>?_,?_};let{t,p,e1,e2}:=Ĩc d (c d b) l;let i:=x1h ϙ e2
 let g:xm t∈įd.2:=by let:xm t∈Ϗb zi:=Úd {i,rfl};rw[<-f]at this;show(űb this).1
 let{q,k}:=Óc (KO (0,Å) (.inl g));show{t,q,e1,k};let:=HQ a L (0,[]);let e:įd.2.length<=0+Àa:=this;let:=Éc;omega
nonrec def jQ(z6:Á D):Á D:=z6.map ĉg
def z9d{z6:Á D}(P:PC z6):(zD (jQ z6)).length=(ß).length:=by unfold jQ;rw[(MJ P).2.2,å]
def Rm:FE:=(e2 zH üb ĸ)
def Bi:FT:=(Κ (e2 zH üb ĝ) ĳd)
def mj:FA:=(qO ĝ ād)
def VI:FS:=(zR (yF 6 (zg uC (Ο (Α (e2 xF Ŵj ϣa)))))
    (yS (kN (Κ (e2 zH ϥm ĝ) ĳd) (kN (tE (e2 įc ŧh ϑa)) (tE (e2 za Ī øb))))
     (u_ 4 uR ϥm)
     (yS (tE (e2 za ŧh ϑa))
       (u_ 4 uR (xz (zB ĵe (Α (e2 zH Ī (e2 yx (e2 vF Âa ďb) (eL uj (zB Ī zF))))))))
       (u_ 4 uR (xz (zB ϸe (zB Ϯk (Α Ϯk))))))))
def CM:FS:=
 (zR (yF 3 (wK 1 Ϩb Űj Bi Rm))
  (zR (t4 4 øb)
  (zR (qy mj ŝe
   VI)
  ĵg)))
def Qv:Á D->É ä:=FR 3 7 CM
def z6a(b a c:D):Qv Ϩ=yM 7 CM Ϩ:=rfl
def x76{z6:Á D}(P:PC z6)(h40:ňa<=40){s:D}(em:∀i:Â,i<41->∃m:Æ,0<=m/\uC [s,.int ϓn]=À (Ä,.int m)):∃Ŝj,PC Ŝj/\items'.length=ňa/\Qv [.lst z6,s,.int 46]=À (Ã,.lst Ŝj):=by
 let ln:=Éc
 obtain⟨f,e1,hns⟩:∃f:Á Ç,xi Űj Bi Rm Ãk z6=À Ĳc/\∀t∈f,xm t∈z6:=by
  let e:=VJ (g:=zt 7) (c:=Bi) (e:=Rm) (σ:=Ãk) zi Ĭk (ds:=z6) λd A=>by let{w,a,b,_}:=Jz ώi;show{_,rfl,?_,λq=>?_};unfold Bi;simp only[Ö,a,b];let{t,rfl}:=M7 ώi q;rfl
  let g:∀L:Á D,(∀d∈L,d∈z6)->∃f:Á Ç,(Ìg).map Ĭk=ûb Åa/\∀t∈f,xm t∈z6:=λL=>by
   induction L with
   |nil=>intro _;show{[],rfl,λ_ h=>by cases h}|ú d L ih=>
    intro h;let{f,Y,F}:=ih λx H=>h x (Ű _ H)
    let A:=h d Õa;cases q:zi d with
    |Ä=>rw[ša īm];show{f,Y,F}|Ã=>
     let{t,rfl}:=M7 ώi q;rw[Ša q,ľ,Y]
     show⟨t::f,rfl,λu hu=>by rcases ħ hu with rfl|hu;show A;show F u hu⟩
  let{f,Y,F}:=g z6 λ_ h=>h
  rw[Y]at e;show{f,e,F}
 let l:za Ŝh ăc=À (.bl (Ĳc).isEmpty):=by cases f<;>rfl
 let r1:mj ϣj=À (wW ňa):=kF (n:=(ňa:Æ)) rfl Ê
 let one:∀(i:Â)(N:i<ňa),∃y,Ÿk/\∀(L:Á D)(B:É Sl),Àa<=1000->∃y6,VI Ϡj=À Ϝj:=λi N=>by
  let{m,m0,E}:=em i Ê;let C:zH ϳi Îa=À z6[i]:=jt Ê (by rw[ē];show Ē N);let{w,a,b0,_}:=Jz (ϙ _ (ŷb N))
  let K:∀(b1 S T:Ï),za Ř Àd=À (.bl b1)->decide (m%4<2)=S->za Ŝh ăc=À (.bl T)->(b1||(S||T))=Ã->∃y,Ÿk/\∀(L:Á D)(B:É Sl),Àa<=1000->∃y6,VI Ϡj=À Ϝj:=λb1 S T Q o k3 hb=>by
   show{z6[i],.inl rfl,λL B O=>{À (Ä,.int m),?_}};let k:=Wr (L:=L) (r:=z6[i]) O;unfold VI;generalize z6[i]=d at *;generalize ûb Åa=NN at *;cases b1 with
   |Ã=>simp only[Ö,Ϧ,E,C,a,Q,k]|Ä=>
    cases S with
    |Ã=>simp only[Ö,Ϧ,E,C,a,Q,o,k]|Ä=>
     cases T with
     |Ã=>simp only[Ö,Ϧ,E,C,a,Q,o,k3,k]|Ä=>cases hb
  cases q:zi z6[i]with
  |Ã=>rw[q]at b0;show q▸K _ _ _ b0 rfl l rfl|Ä=>
   rw[q]at b0;by_cases F:m%4<2;show q▸K _ _ _ b0 (ù F) l rfl;let o:decide (m%4<2)=Ä:=Ĕ F;by_cases hn:f=[];subst hn;show q▸K _ _ _ b0 o l rfl;let hp:0<ĭa:=Çh hn
   let ie:(Ĳc).isEmpty=Ä:=by
    cases f with
    |nil=>show Ý rfl hn|ú _ _=>rfl
   rw[ie]at l;by_cases h4:m%4=2;let I:=eE h4;let a0:=ĺb (m/4) (show(ĭa:Æ)≠0 by omega);let a1:=ķb (m/4) (show 0<(ĭa:Æ) by omega);let U:(ĉf).toNat<ĭa:=by omega
   let it:zH Ŝh (.int ĉf)=À (.str f[(ĉf).toNat]):=jt a0 (by rw[ņ,Ē U];rfl);let mt:=ŷb U;generalize f[(ĉf).toNat]=t at it mt;let gN:decide (0<(ĭa:Æ))=Ã:=ù Ê;show{.tup īc,.inr {rfl,.inl {t,mt,rfl}},λL B O=>{À (Ä,.int m),?_}};let k:=Wr (L:=L) (r:=.tup īc) O;let ll:(Ĳc).length=ĭa:=å _;unfold VI;generalize z6[i]=d at E C a b0 o l I ll gN it k ⊢;generalize ûb Åa=NN at E C a b0 o l I ll gN it k ⊢;simp only[Ö,Ϧ,E,C,a,b0,o,l,I,ll,gN,it,k];let I:=eF h4;refine{.tup ľk,.inr {rfl,.inr (.two Ŗ Ê Ê Ê Ê)},λL B O=>{À (Ä,.int m),?_}};let k:=Wr (L:=L) (r:=.tup ľk) O;unfold VI;generalize z6[i]=d at E C a b0 o l I k ⊢;generalize ûb Åa=NN at E C a b0 o l I k ⊢;simp only[Ö,Ϧ,E,C,a,b0,o,l,I,k]
 let{σ',e2,L,x5,B,G,Z,rfl}:=gx (g:=zt 5) (b:=VI) (λi σ=>∃L x5 B,Àa=i/\(∀j y,j<i->L[j]?=À y->∃d,z6[j]?=À d/\(y=d\/(zi d=Ä/\Šg)))/\σ=[À (Ä,.lst z6),À (Ä,s),À (Ä,.int 46),À (Ä,.lst Ĳc),À (Ã,.lst L),x5,B]) (ds:=wW ňa)
  (σ:=ϣj) 0 {[],Å,Å,rfl,ťl,rfl} (by
  rintro i v σ U ⟨L,x5,B,G,Z,rfl⟩;let{N,rfl}:=Vr U;rw[ĺ]at *;let{y,J,ey}:=one i N;let{y6,ey}:=ey L B Ê;refine{_,_,rfl,.inl ey,L++[y],_,_,by rw[è,G];rfl,λj z hj W=>?_,rfl};by_cases c:j<i
  .rw[ľa Ê]at W;show Z j z c W
  .let:j=i:=by omega
   rw[çq];rw[Ĵb Ê,G,ϋb]at W;cases W;show{z6[j],Ē N,J})
 rw[Vs,ĺ]at G Z
 have ea:Zt ύk z6 L:=c_ G.symm λi x y H J=>by let{d,A,h}:=Z i y (by rw[<-G];show(ķ J).1) J;rw[H]at A;cases A;show h
 let plL:∀y,qG y->zi y=Ä:=λy h=>(Ms (m:=0) Śb).choose_spec.2.2.1
 let kl:∀{R X:Á D},Zt ύk R X->X.filter zi=ĩi zi/\∀t s,X.foldl şe s=R.foldl şe s:=λ{R X} h=>by
  induction h with
  |nil=>show{rfl,λ_ _=>rfl}|ú r _ ih=>
   rename_i x y _ _ _;rcases r with rfl|⟨q,r⟩;show{by rw[øf,øf,ih.1],λt s=>by rw[Ìa,Ìa,ih.2]};let J:zi y=Ä:=by rcases r with⟨t,_,rfl⟩|r;rfl;show plL y r
   refine{by rw[ša (by rw[J];decide),ša īm,ih.1],λu s=>?_};rw[Ìa,Ìa,ih.2]
   congr 1
   unfold vX;rw[q,J]
 let{Q,o}:=kl ea;let o:∀t,xG t L=xG t z6:=λt=>o t _
 show{L,{λd A=>?_,by rw[Q];show ĩc,λd A hj=>?_,by omega},G,?_};let{x,H,h}:=JY ea d A;rcases h with rfl|⟨_,⟨t,_,rfl⟩|h⟩;show ϙ _ H;show .wc t;show .plain h;let{x,H,h}:=JY ea d A;rcases h with rfl|⟨_,⟨t,ht,rfl⟩|h⟩;let{t,p,q1,q2}:=Ĩc _ H hj;show{t,p,q1,by rw[o];show q2};let{p,hp}:=Óc (KO (L:=z6) (0,Å) (.inl (hns t ht)));show{t,p,rfl,by rw[o];show hp};rw[(VV h).choose_spec.2.2.2.1]at hj;cases hj;rw[z6a];unfold CM;generalize ûb Åa=NN at e1 r1 e2 ⊢;simp only[Ö,e1,r1,e2]
def HY:FS:=(zR (yF 4 (Λc (e2 xF û Ī)))
    (u_ 2 uR (e2 zH (xV (zB (e2 yx ŝ Ùg) (zB Ϩm (zB (e2 jK (eC (.int 4294967295)) (e2 yx Ϫm Õb)) (Α (e2 yx Ϫm (eC (.int 70000)))))))) (e2 yx ŝ ďb))))
def CJ:FS:=
 (zR (t4 2 øb)
  (zR (qy (qO ĝ Őb) Ĥb
   HY)
  ŷj))
def WZ:Á D->É ä:=FR 2 5 CJ
def z67(b a:D):WZ ą=yM 5 CJ ą:=rfl
def y8a{ns:Á Æ}(x:Ŝ<=63)(r:∀m∈ns,vC m<=1048576){f:Æ}(E:0<=f)(F:f<=40):∃W:Á Æ,WZ [.lst Ϥ,.int f]=À (Ã,.lst İg)/\Èg=8/\∀w∈W,0<=w/\w<4294967296:=by
 let s:∀τ:zu,qO ĝ Őb τ=À (wW 8):=λτ=>kF (n:=8) rfl Ò
 let{σ',e1,W,e,j,c,l,rfl}:=gx (g:=zt 3) (b:=HY) (λi σ=>∃(W:Á Æ) (e j:É Sl),Èg=i/\(∀w∈W,0<=w/\w<4294967296)/\σ=[À (Ä,.lst Ϥ),À (Ä,.int f),À (Ã,.lst İg),e,j])
  (ds:=wW 8) (σ:=[À (Ä,.lst Ϥ),À (Ä,.int f),À (Ã,.lst []),Å,Å]) 0 {[],Å,Å,rfl,λ_ h=>Ý h ó,rfl} λi d σ t u=>by
   let{W,e,j,c,l,rfl}:=u;rw[ĺ]at c ⊢;let{B,rfl}:=Vr t;let{m,C,G,p}:=g_ x r (k:=f+(i:Æ)) Ê Ê
   obtain⟨v,q,y,A⟩:∃v:Æ,zH (.lst [.int (m%4294967296),.int (m%3),.int (4294967295-m/4%3),.int (m/4%70000)]) (Ε (m%4))=À Ϣb/\0<=v/\v<4294967296:=by rcases(show m%4=0\/m%4=1\/m%4=2\/m%4=3 by omega)with h|h|h|h<;>rw[h]<;>show{_,rfl,by omega,by omega}
   let o:uR (Β İg) Ϣb=À (Β İn):=by exact(Ψd İg (ťd (wI W++[_])))=_;rw[Ð (by rw[jY];rw[Ňp])];unfold wI;rw[Ĩa];rfl
   show{_,[À (Ä,.lst Ϥ),À (Ä,.int f),À (Ã,.lst İn),À (Ä,.int (i:Æ)),À (Ä,.int m)],rfl,.inl ?_,W++[v],_,_,by rw[è,c];rfl,λw a=>?_,rfl};unfold HY;generalize Ða Ě=NS at p q o ⊢;simp only[Ö,Ϧ,p,q,o,ϐb];rcases ż a with a|a;show l w a;cases Į a;show{y,A}
 let z:(wW 8).length=8:=by rw[å,ëa]
 rw[ĺ,z]at c;show{W,?_,c,l};rw[z67];unfold CJ;simp only[Ö,s,e1]
def IC:yZ:=(Hm 2 Ĉf ĸ)
def Y5:ui:=(RS (ιa (e2 įc Ĵ û)) (Tt (ge à ŏe 0 [] j8 vM)))
def Fe:yZ:=
 (xW (tM 2 çj)
  (xW (Hq Y5
   IC)
  (ZP æj)))
def pI:FM:=vo 2 3 Fe
def z55(b a:M):pI ą=wZ 2 3 Fe ą:=rfl
theorem Rh{c:ui}{b:yZ}{a:gW}:∀{n:Â}{β:yL}(m:Â),jZ c b n β=À a->jZ c b (n+m) β=À a
 |0,_,_,h=>by cases h|n+1,β,m,h=>by
  rw[show n+1+m=(n+m)+1 by omega]
  change (Śd).bind _=_ at h
  rw[Ģq];cases e:c β with
  |Å=>rw[e]at h;cases h|À r=>
   rw[e]at h
   change (match r.1 with|Ä=>_|Ã=>_)=_ at h
   exact(match r.1 with|Ä=>_|Ã=>_)=_;cases hr:r.1 with
   |Ä=>rw[hr]at h;show h|Ã=>
    rw[hr]at h
    change (ŋj).bind _=_ at h
    exact(ŋj).bind _=_;cases e2:b r.2 with
    |Å=>rw[e2]at h;cases h|À f=>
     rw[e2]at h;cases f with
     |nx β2=>show Rh m h|ct β2=>show Rh m h|bk β2=>show h|rt x β2=>show h
def z9o{c:ui}{b:yZ}{β:yL}{a:gW}(n:Â)(h:jZ c b n β=À a)(d:Í (n<=Zu) q10):Hq c b β=À a:=by let e:=Rh (Zu-n) h;rw[Čm d]at e;show e
def x7n{c:ui}{b:yZ}{β β1 β2:yL}{n:Â}(d:c β=À (Ã,β1))(a:b β1=À œb):jZ c b ģ β=jZ c b n β2:=by rw[Ģq];rw[d];exact(ďg).bind _=_;rw[a];rfl
def sC{c:ui}{b:yZ}{β β1:yL}{n:Â}(a:c β=À (Ä,β1)):jZ c b ģ β=À (.nx β1):=by rw[Ģq];rw[a];rfl
section
variable{T fw fh:D}{e:Æ}{s s1:M}{d0 d1 j0 j1:Æ}
def cR{T fw fh:D}{e due done:Æ}{s:M}{a b:É M}:ge à ŏe 0 [] j8 vM Ğn=Y6 j8 Äp Ğn:=rfl
def y8o{m k:Æ}(hk:k<m)(h:j8 [xB T e fw fh s d0 j0]=À ([xB T e fw fh s1 d1 j1],.fz Ĭ)):Y5 Ŝg=À (Ã,[À (xB T e fw fh s1 d1 j1),À ëd,À Ϸi]):=by rw[ώp]
theorem y8u{m k:Æ}(hk:¬ k<m):Y5 Ŝg=À (Ä,Ŝg):=by let z:decide (k<m)=Ä:=Ĕ hk;unfold Y5;simp only[ń,Xv,z]
theorem y8m{m k:Æ}{x:É M}(a:x=À Ėl):IC [x,À ëd,À Ϸi]=À (.nx [x,À ëd,À (.fz (.int Ş))]):=by subst a;let b:Ũb Ėl=Å:=rfl;unfold IC;simp only[ń,Hm,b]
#print a
def KM{r:D}(h:qG r):qH r\/r=.tup şf:=by
 cases h with
 |Ϣ=>show .inr rfl|Yt hw d0 d1 n0 n1=>let{d,rfl}:=Ŀa d0;rcases hw with rfl|rfl;show .inl (.set Ê n0 n1);show .inl (.high Ê n0 n1)
 |two hw d0 d1 s0 s1=>
  rw[ϛp]
  let a:s<8:=by omega
  rcases hw with rfl|rfl|rfl|rfl|rfl|rfl|rfl|rfl|rfl;show .inl (.copy b a);show .inl (.sum .add b a);show .inl (.sum .addc b a);show .inl (.sum .sub b a);show .inl (.sum .subc b a);show .inl (.bits .and b a);show .inl (.bits .or b a);show .inl (.bits .xor b a);show .inl (.sum .test b a)
 |Yv hw d0 d1 n0 n1=>let{d,rfl}:=Ŀa d0;let{n,rfl}:=Ŀa n0;rcases hw with rfl|rfl;show .inl (.left Ê Ê);show .inl (.right Ê Ê)
 |mem hw d0 d1 s0 s1 n0 n1=>
  rw[ϛp]
  let a:s<8:=by omega
  rcases hw with rfl|rfl|rfl|rfl;show .inl (.mem .load b a n0 n1);show .inl (.mem .store b a n0 n1);show .inl (.mem .loadw b a n0 n1);show .inl (.mem .storew b a n0 n1)
def Vu{w v:Ç}{x:Á D}(h:w≠v):¬ wd (.tup (.str w::x))=v:=h
def r_(h:qH r):¬ wd r = ϳb/\vh r=Ä:=by
 cases h with
 |sum h=>cases h<;>show{Vu Ò,rfl}|bits h=>cases h<;>show{Vu Ò,rfl}|mem h=>cases h<;>show{Vu Ò,rfl}|_=>show{Vu Ò,rfl}
def x26{T fw fh:D}{e due done:Æ}{s:M}(h:uv ϝe=À (Ä,.bl Ã)):j8 ϵg=À (ϵg,.fz Ā):=by
 let a:∀τ:zu,pO à Ŕb ý zF Ćk=À ϝe:=λτ=>L9 cg ϵ rfl
 rw[dq];unfold LG;simp only[ń,Xv,a,h]
theorem EI{r:D}{a:M}{w:Ç}(c:zH r Ź=À Ř)(b:V0 jI Ř=À Ā):jg ϻo=À (ϻo,.fz .zP):=by rw[Eu];unfold JP;simp only[ń,c,b]
theorem y73(t:Ç):uw [.tup īc]=À (Ä,.int 0):=by rw[Ŝp]
def y72{w k:Ç}(t:Ç)(a:w = ϧ \/ w = ϑ)(hk:k = ϭ \/ k = àa \/ k = åa):uw ıo=À (Ä,.int 0):=by rcases a with rfl|rfl<;>rcases hk with rfl|rfl|rfl<;>kernel_rfl
def x74:uh [.tup şf]=À (Ä,.int 2047):=by rw[Ŝp]
def x73{w:Ç}(t:Ç)(a:w = ϧ \/ w = ϑ):uh [.tup [.str w,.str ϭ,.str t]]=À (Ä,.int 256)/\uh [.tup [.str w,.str àa,.str t]]=À (Ä,.int 512)/\uh [.tup [.str w,.str åa,.str t]]=À (Ä,.int 1024):=by rcases a with rfl|rfl<;>show{by rw[Ŝp],by rw[Ŝp],by rw[Ŝp]}
def TU{o:É ä}{n m:Â}(h:o=À (Ä,.int (n:Æ)))(g:o=À (Ä,.int (m:Æ))):n=m:=by
 let:=Øh g;injection this with this
 injection this with _ this
 injection this with this
 omega
structure W8(Ws:Á Æ):È where
 l:Ŋa=8
 h:∀w∈Ws,0<=w/\w<4294967296
structure xE where
 ws:Á Æ
 a:Ï
 b:Ï
 c:Ï
 ps:Á į
def Vl(s:xE):M:=st œf s.a s.b s.c (kP Äc) (vP Äc)
def XO(s:xE):D:=jv œf s.a s.b s.c (kP Äc) (vP Äc)
def Ts(s:xE):vJ (Vl s)=XO s:=p7
structure Gd(m:Â)(s:xE):È where
 w:W8 Ãc
 p:pK Äc
 l:s.ps.length<=m
structure tF(r:D)(s s':xE)(ld:Ï):È where
 dr:jg [Vl s,.fz r]=À ([Vl s',.fz r],.fz .zP)
 ld:gV [XO s',r]=À (Ä,.bl ld)
theorem fm:∀{x y:Á Æ},wI x=wI y->x=y
 | [],[],_=>rfl| [],_::_,h=>nomatch h|_::_,[],h=>nomatch h|a::x,b::y,h=>by
  injection (show Ě a::wI x=Ě b::wI y from h)with h1 h2
  injection h1 with h1
  rw[h1,fm h2]
theorem lN:∀{x y:Á į},kP x=kP y->vP x=vP y->x=y
 | [],[],_,_=>rfl| [],_::_,h,_=>nomatch h|_::_,[],h,_=>nomatch h|(a,b)::x,(c,d)::y,h,g=>by
  injection (show(ı a:Sum Æ Ç)::kP x=.inl c::kP y from h)with h1 h2
  injection (show Ě b::vP x=.int d::vP y from g)with g1 g2
  injection h1 with h1
  injection g1 with g1
  rw[h1,g1,lN h2 g2]
theorem x20{s s':xE}(h:Vl s=Vl s'):s=s':=by
 let{k,a,b,c,g}:=s;let{e,i,f,j,d}:=s';injection (show M.obj Ļ Ĥf [.own (Β (wI k)),.own ůc,.own (.dic (kP g) (vP g))]=.obj Ļ Ĥf [.own (Β (wI e)),.own (Zc i f j),.own ļk]from h)with _ _ h
 injection h with h1 h
 injection h with h2 h
 injection h with h3 _
 injection h1 with h1
 injection h1 with h1
 injection h2 with h2
 injection (show D.dic pJ ĸc=.dic pJ [.bl i,.bl f,.bl j]from h2)with _ h2
 injection h2 with a1 h2
 injection h2 with b1 h2
 injection h2 with c1 _
 injection a1 with a1
 injection b1 with b1
 injection c1 with c1
 injection h3 with h3
 injection h3 with h3 h4
 obtain rfl:=fm h1;obtain rfl:=lN h3 h4;subst a1 b1 c1;rfl
def tF.one{r:D}{s a d:xE}{c b:Ï}(A:tF r s a c)(B:tF r s d b):a=d/\c=b:=by
 let e:=A.dr.symm.trans B.dr;injection e with e
 injection e with e _
 injection e with e _
 obtain rfl:=x20 e;let g:=A.ld.symm.trans B.ld;injection g with g
 injection g with _ g
 injection g with g
 show{rfl,g}
inductive XF:D->D->È
 |refl (r:D):XF r r
 |wc (t u:Ç):XF ťc ïl
 |Ő {w k:Ç} (t u:Ç) (hw:w = ϧ \/ w = ϑ) (hk:k = ϭ \/ k = àa \/ k = åa):XF Čd (.tup [.str w,.str k,.str u])
def z3z(a:M)(t:Ç):jg Ño=À (Ño,.fz .zP):=EI (w := ća) rfl rfl
def z3y{w k:Ç}(a:M)(t:Ç)(b:w = ϧ \/ w = ϑ):jg Ðo=À (Ðo,.fz .zP):=by rcases b with rfl|rfl;show EI (w := ϧ) rfl rfl;show EI (w := ϑ) rfl rfl
def JK(s:xE)(t:Ç):tF ťc s s Ã:={z3z _ t,rfl}
def LA{w k:Ç}(s:xE)(b:w = ϧ \/ w = ϑ)(hk:k = ϭ \/ k = àa \/ k = åa):∃ld,∀t,tF Čd s s ld:=by
 let a:∃ld,∀t,gV [XO s,.tup ϵc]=À (Ä,.bl ld):=by rcases hk with rfl|rfl|rfl<;>rcases b with rfl|rfl<;>show{_,λ_=>rfl}
 let{ld,h}:=a;show{ld,λt=>{z3y _ t b,h t}}
def XF.act{r a:D}{s s':xE}{ld:Ï}(L:XF r a)(A:tF r s s' ld):tF a s s' ld:=by
 cases L with
 |refl=>show A|wc t u=>let{rfl,rfl}:=A.one (JK s t);show JK _ u
 |Ő t u hw hk=>let{b,h}:=LA s hw hk;let{rfl,rfl}:=A.one (h t);show h u
nonrec def Yc:D:=.tup şf
inductive jl(X:Á D)(i:Â)(s:xE):Â->xE->È
 |mk {i':Â} {s':xE} {ld:Ï} (hi:i<(Ă).length) (ns:z_ X i≠Yc) (A:tF Ť s s' ld) (g1:ld=Ã->wD X Ť=À i') (g2:ld=Ä->i'=i+1):jl X i s i' s'
def pM(X:Á D)(i:Â):È:=i<(Ă).length->z_ X i=Yc
inductive jC(X:Á D):Â->Â->xE->Â->xE->È
 |nil {i:Â} {s:xE}:jC X 0 i s i s
 |ú {k i i1 i2:Â} {s s1 s2:xE}:jl X i s i1 s1->jC X k i1 s1 i2 s2->jC X Ş i s i2 s2
def O_(X Y:Á D):È:=∀m n s e t,m+4*n<=800->Gd m s->jC X n 0 s e t->pM X e->∃k f,k<=n/\jC Y k 0 s f t/\pM Y f
theorem ôg{Ws:Á Æ}{o:É Â}{x:Æ}(h:W8 Ws)(c:0<=x)(a:x<4294967296):W8 ĵn:=by
 cases o with
 |Å=>show h|À d=>refine{by exact(ϟc d x).length=8;rw[Ϲ];show h.l,λw b=>?_};rcases ϱg b with z|rfl;show h.h w z;show{c,a}
def z11{r:D}{s:xE}{m:Â}(h:qH r)(g:Gd m s)(j:m<=800):∃s',tF r s s' Ä/\Gd ŧd s':=by
 let{R,o,pc,q,v,E}:=EM h
 let +zeta V:Â->Æ:=λk=>όo k 0
 let f:∀k,k<8->Ãc[k]?=À (V k):=λk d=>by exact _=À (όo k 0);rw[Ŷ,Ē (by rw[g.w.l];show d)];rfl
 let{w,u,y,t,e,n,i}:=E.ef V Äc (λk d=>g.w.h _ (ϛ (f k d))) g.p (ĉ g.l j);let x:=i s.a s.b s.c;show{{ϭc o (w s.a) Ãc,_,_,_,e},{x.dr Ãc g.w.l λk d=>f k ũf,E.ld _},{ôg g.w x.w0 x.w1,x.P,ĉ x.l (Ŗl g.l 4)}}
def jp(X:Á D)(p:Â):É Â:=(jn Ă p).map (xj X)
def XF.stop{r a:D}(L:XF r a):r=Yc↔a=Yc:=by
 cases L with
 |refl=>show ēc|wc=>show{nofun,nofun}|Ő t u hw=>rcases hw with rfl|rfl<;>show{nofun,nofun}
inductive Ch(X:Á D):Â->Â->È
 |refl {p:Â}:Ch X p p
 |ļa {p q r:Â}:jp X p=À q->Ch X q r->Ch X p r
section
variable{X:Á D}
theorem nA:∀{k:Â}{a:Ç}{Èa:Á Â}{b:Ç},jB (jn Ă) (xj X) k a Èa Ĉg->Ch X (xj X a) (xj X b)
 |_,_,_,_,.stop _=>.refl|_,_,_,_,.go (r:=r) h _ R=>.step (q:=xj X r) (by unfold jp;rw[h];rfl) (nA R)
def z91(P:PC X)(t:Ç):Ch X (xj X t) (xj X Õg):=by
 let{k,o,_,R}:=Mt (J:=jn Ă) (pl:=xj X) (n:=(Ă).length) Éh (Ă).length t [] Ùb (λ_ h=>nomatch h) Ôb;rw[show qp X t=őd t from Hd R];cases o with
 |Å=>show .refl|À b=>show nA R
def FY{p:Â}{r:D}(h:Ă[p]?=À r):z_ X p=r:=by unfold z_;rw[Ŷ,h];rfl
def f7(P:PC X){p q:Â}(h:jp X p=À q)(s:xE):jl X p s q s:=by
 unfold jp at h;cases e:jn Ă p with
 |Å=>rw[e]at h;cases h|À r=>
  rw[e]at h;injection h with h
  let{a,b,c}:=TC P e;let d:=FY a;refine .mk (ld:=Ã) c (by rw[d];show nofun) (by rw[d];show JK s r) ŷc nofun;rw[d,<-h];show HU b
theorem jl.one{i i1 d:Â}{s e c:xE}(a:jl X i s i1 e)(b:jl X i s d c):i1=d/\e=c:=by
 cases a with
 |@mk l1 _ _ A a1 a2=>
  cases b with
  |@mk l2 _ _ B b1 b2=>
   let{rfl,rfl}:=A.one B;show{?_,rfl};cases l1 with
   |Ã=>show ϸ ((a1 rfl).symm.trans (b1 rfl))|Ä=>rw[a2 rfl,b2 rfl]
theorem z80{p q:Â}(h:jp X p=À q)(P:PC X)(d:pM X p):ÿ:=by
 cases f7 P h {[],Ä,Ä,Ä,[]}with
 |mk hi ns=>show ns (d hi)
def fW{r:D}(h:xL r):XF r (uF X r):=by
 cases h with
 |Ĝa t=>show .refl _|Æa q=>let{_,_,_,_,z,_}:=VV q;unfold uF;rw[z];show .refl r
 |wc t=>show .wc t _|Ő t hw hk=>rcases hw with rfl|rfl<;>show .cond t _ ó hk
def x3d(P:PC X){r:D}(h:xL r){p:Â}(a:wD X r=À p):∃q,Ch X p q/\wD Ħb (uF X r)=À q:=by
 let b:∀t:Ç,(xG t X).2=À p->∃q,Ch X p q/\(xG Õg Ħb).2=À q:=λt e=>by
  show{xj X Õg,?_,?_};let:xj X t=p:=by unfold xj;rw[e];rfl
  rw[<-this];show z91 P t;rw[show xG Õg Ħb=_ from(MJ P).2.1 _];show HU (fK P {p,e})
 cases h with
 |Ĝa t=>cases a|Æa q=>let{_,_,_,_,z,_}:=VV q;unfold wD at a;rw[z]at a;cases a
 |wc t=>show b t a|Ő t hw hk=>rcases hw with rfl|rfl<;>show b t a
def z9m(P:PC X):O_ X Ħb:=λm n s e t _ _ r d=>by
 let{G,_,o}:=MJ P;let F:(zD Ħb).length=(Ă).length:=z9d P
 let v:∀{i},i<(Ă).length->z_ Ħb i=uF X Ť:=λ{i} b=>FY (by rw[show zD Ħb=_ from o,ņ,g9 b];rfl)
 let p:∀{n i:Â}{s:xE},jC X n i s e t->∀j,Ch X i j->∃k f,k<=n/\jC Ħb k j s f t/\pM Ħb f:=by
  intro n
  induction n with
  |ů=>
   intro i s r j c;cases r;cases c with
   |refl=>show{0,e,Ŕ _,.nil,λh=>?_};let w:=h;rw[F]at w;rw[v w];show(fW (kG P w).1).stop.mp (d w)|ļa h=>show(z80 h P d).elim
  |Ż n ih=>
   intro i s r j c;cases r with
   |ú a r=>
    cases c with
    |ļa h c=>let{rfl,rfl}:=a.one (f7 P h s);let{k,f,g,q}:=ih r j c;show{k,f,ľc g,q}
    |refl=>
     cases a with
     |@mk ld b ns A g1 g2=>
      let E:=(kG P b).1;let C:=fW (X:=X) E;let x:=C.act A;rw[<-v b]at x;let u:z_ Ħb i≠Yc:=by rw[v b];show λz=>ns (C.stop.mpr z)
      let l:i<(zD Ħb).length:=by rw[F];show b
      cases ld with
      |Ä=>obtain rfl:=g2 rfl;let{k,f,g,y,B}:=ih r _ .refl;show{k+1,f,ĥa g,.cons (.mk l u x nofun λ_=>rfl) y,B}
      |Ã=>let{q,c,e}:=x3d P E (g1 rfl);let{k,f,g,y,B}:=ih r q c;show{k+1,f,ĥa g,.cons (.mk l u x (λ_=>by rw[v b];show e) nofun) y,B}
 show p r 0 .refl
#print a
nonrec def rk(a:Á Â):Â->Â
 |0=>0|i+1=>rk a i+if i∈a then 0 else 1
def Kt{a:Á Â}{i:Â}(h:i∈a):rk a î=rk a i:=by exact rk a i+êl=_;rw[Ð h];rfl
def Im{a:Á Â}{i:Â}(h:i ∉ a):rk a î=rk a i+1:=by exact rk a i+êl=_;rw[Ñ h]
theorem Ks{a:Á Â}{i:Â}:∀{j:Â},i<=j->rk a i<=rk a j
 |0,h=>by rw[Nat.le_zero.mp h];show Ŕ _|j+1,h=>by rcases ìc i Ϫ with c|c;show ĉ (Ks (Ŀc c)) ϖi;rw[Źb h c];show Ŕ _
structure Kp(qs:Á Â)(L A:Á D):È where
 l:(zD A).length=rk qs (ĥb).length
 r:∀i,i<(ĥb).length->i ∉ qs->(zD A)[rk qs i]?=ĥb[i]?
 p:∀t,xG t A=(rk qs Ϫa.1,Ϫa.2.map (rk qs))/\Ϫa.1=(ĥb).length
def Kx(L:Á D)(d:D):zD čc=zD L++(if zi d=Ã then[]else[d]):=by unfold zD;rw[Ŵb];cases h:zi d<;>simp[List.filter,h]
theorem z8v{f:Á Â}{L A:Á D}(K:Kp f L A)(d:D):Kp f čc (qP f ((ĥb).length,A) d).2:=by
 unfold qP;cases h:zi d with
 |Ã=>
  let e:∀B:Á D,zD (B++[d])=zD B:=λB=>by rw[Kx,Ð h,ώ]
  refine{by rw[e,e];show K.l,λi g j=>?_,λt=>?_};rw[e]at g;rw[e,e];show K.r i g j;rw[VW,VW,e];let{a,b}:=K.p t;unfold vX;rw[h,a];show{?_,b};cases Xc t d<;>rfl
 |Ä=>
  let e:∀B:Á D,zD (B++[d])=zD B++[d]:=λB=>by rw[Kx,Ñ (by rw[h];show nofun)]
  let k:(zD L++[d]).length=(ĥb).length+1:=è;exact Kp f čc (if(ĥb).length∈f then A else A++[d]);by_cases c:(ĥb).length∈f;rw[Ð c];refine{by rw[e,k,Kt c];show K.l,λi g j=>?_,λt=>?_};rw[e,k]at g
  let m:i<(ĥb).length:=by rcases ϣk g with z|rfl;show z;show Ý c j
  rw[e,ľa m];show K.r i m j;let{a,b}:=K.p t;rw[VW,e,k];rw[öq];exact _=(rk f Þp,_);rw[Kt įm];rw[Ñ c];refine{by rw[e,e,k,Im c,è,K.l];rfl,λi g j=>?_,λt=>?_};rw[e,k]at g;rw[e,e];rcases ϣk g with z|rfl;rw[ľa z,ľa];show K.r i z j;rw[K.l];show Š (by rw[Im j];show ĵb _) (Ks z);rw[<-K.l,Ϥk,Ϥk];let{a,b}:=K.p t;rw[VW,VW,e,k];rw[öq];exact(rk f Ϫa.1+1,_)=(rk f Þp,_);rw[Im įm]
theorem fL{a:Á Â}:∀(R L A:Á D),Kp a L A->Kp a (L++R) (R.foldl (qP a) ((ĥb).length,A)).2
 | [],L,A,K=>by rw[ώ];show K|d::R,L,A,K=>by
  let h:=fL R čc _ (z8v K d);rw[Ū]at h
  let e:(qP a ((ĥb).length,A) d).1=(zD čc).length:=by
   unfold qP;rw[Kx];cases zi d with
   |Ã=>rw[Ð rfl,ώ]|Ä=>rw[Ñ Ħ,è];rfl
  rw[<-e]at h;show h
def z8u(a:Á Â)(X:Á D):Kp a X (uT a X).2:=fL X [] [] {rfl,λi b=>Ý b ύd,λt=>{rfl,rfl}}
structure qF(m:Â)(s1 s2:xE):È where
 w:∀k,k<8->űc k=Ã->s1.ws[k]?=s2.ws[k]?
 a:űc 8=Ã->s1.a=s2.a
 b:űc 9=Ã->s1.b=s2.b
 c:űc 10=Ã->s1.c=s2.c
 p:s1.ps=s2.ps
def qF.up{m n:Â}{d e:xE}(A:qF m d e)(h:∀k,ŧi k=Ã->űc k=Ã):qF n d e:={λk f z=>A.w k f (h k z),λz=>A.a Ņj,λz=>A.b Ņj,λz=>A.c Ņj,A.p}
def qF.refl(m:Â)(s:xE):qF m s s:={λ_ _ _=>rfl,λ_=>rfl,λ_=>rfl,λ_=>rfl,rfl}
def qF.all{m:Â}{f d:xE}(A:qF m f d)(h:∀k,k<11->űc k=Ã)(o:W8 f.ws)(r:W8 d.ws):f=d:=by
 let{g,C,u,v,B}:=f;let{j,z,x,t,y}:=d
 let e:g=j:=éf λk=>by by_cases hk:k<8;show A.w k hk (h k Ê);rw[ŀa (by rw[o.l];omega),ŀa (by rw[r.l];omega)]
 let q:=A.a (h 8 Ò);let s:=A.b (h 9 Ò);let n:=A.c (h 10 Ò);let i:=A.p;subst e;cases q;cases s;cases n;cases i;rfl
def m8{Ws:Á Æ}{k:Â}{x:Æ}(h:k<Ŋa):(ϭc (À k) x Ws)[k]?=À x:=by exact(ϟc k x)[k]?=_;rw[Òh h]
theorem KR{Ws:Á Æ}{o:É Â}{k:Â}{x:Æ}(h:o≠À k):ĵn[k]?=Ws[k]?:=by
 cases o with
 |Å=>rfl|À d=>show ïh λe=>h (Ŧ À e)
section
variable{X:Á D}{T:Á Â}(P:PC X)(N:NI (Ă).length Ľg ľg ĝc T [])
include N in
theorem LN{i k:Â}(hi:i<(Ă).length)(h:(Uf X i).testBit k=Ã):(ĝb).testBit k=Ã:=by rw[N.fx i hi ó];show(ön).mpr Śb
include N in
theorem br{i w k:Â}(hi:i<(Ă).length)(a:w∈Wf X i)(h:(ύc).testBit k=Ã)(p:(ϫb).testBit k=Ä):(ĝb).testBit k=Ã:=by rw[N.fx i hi ó];show(ön).mpr (.inr {{w,a,h},p})
def Re{i:Â}(hi:i<(Ă).length):Wf X i=Zf Ť i ťf:=by unfold Wf;rw[g9 hi]
theorem sB{i:Â}(hi:i<(Ă).length)(h:qH Ť):Wf X i=[i+1]:=by let{a,b}:=r_ h;rw[Re hi];unfold Zf wD;rw[Ñ a,b]
variable{s1 s2:xE}{m i:Â}(g1:Gd m s1)(hm:m<=800)(w2:W8 s2.ws)(A:qF ĝb s1 s2)
include P N g1 hm w2 A in
theorem x4p(hi:i<(Ă).length)(h:qH Ť):∃t1 t2,tF Ť s1 t1 Ä/\tF Ť s2 t2 Ä/\qF Ėd t1 t2/\Gd ŧd t1/\W8 t2.ws/\((∀k,(Ėd).testBit k=Ã->(ϫb).testBit k=Ä)->Pf X i≠0->qF Ėd t1 s2):=by
 let{R,o,pc,pn,uc,E}:=EM h;let{U,Pt,f}:=E.up;obtain rfl:=TU f.u ϭi.1;obtain rfl:=TU f.p ĭp.1;let K:i+1∈Wf X i:=by rw[sB hi h];show Ĝ
 let I:∀k,(Ėd).testBit k=Ã->(ϫb).testBit k=Ä->(ĝb).testBit k=Ã:=λk h1 h2=>br N hi K h1 h2
 let{q,g,b1,c1,ps}:=s1;let{B,j,b2,c2,Y}:=s2;obtain rfl:ps=Y:=A.p;let H:W8 q:=g1.w
 let +zeta V:Â->Æ:=λk=>q.getD k 0
 let Z:∀k,k<8->q[k]?=À (V k):=λk d=>by exact _=À (q.getD k 0);rw[Ŷ,Ē Äm];rfl
 let v2:∀k,k<8->0<=V k/\V k<4294967296:=λk d=>H.h _ (ϛ (Z k d))
 have r2:∀k∈R,B[k]?=À (V k):=λk d=>by rw[<-show q[k]?=B[k]? from A.w k ũf (LN N hi (f.r k d))];show Z k ũf
 let{w,A',B',C',G,W,ef}:=E.ef V ps v2 g1.p (ĉ g1.l hm)
 let e:w g=w j/\A' g=A' j/\B' g=B' j/\C' g=C' j:=by
  cases z:uc with
  |Ä=>show W z g j|Ã=>have:g=j:=A.a (LN N hi (E.cu z _ ϭi.1));rw[this];show{rfl,rfl,rfl,rfl}
 let C:=ef g b1 c1;let O:=ef j b2 c2
 let S:∀{t:Ï}{F:Ï->Ï}{k:Â}{x y:Ï},(ϫb).testBit k=t->F g=F j->Ãl->(Ėd).testBit k=Ã->Ő t (F g) x=Ő t (F j) y:=λ{t F k x y} e1 e2 Q L=>by
  cases t with
  |Ã=>show e2|Ä=>show Q (I k L e1)
 have v:∀{t z:Ï}{k:Â}{x y:Ï},(ϫb).testBit k=t->(ϫb).testBit k=Ä->Ãl->(Ėd).testBit k=Ã->Ő t z x=y:=λ{t z k x y} e1 e2 Q L=>by rw[<-e1,e2];show Q (I k L e2)
 show{{ϭc o (w g) q,_,_,_,G},{ϭc o (w j) B,_,_,_,G},{C.dr q H.l λk d=>Z k ũf,E.ld _},{O.dr B w2.l r2,E.ld _},{λk d z=>?_,λz=>?_,λz=>?_,λz=>?_,rfl},{ôg H C.w0 C.w1,C.P,ĉ C.l (Ŗl g1.l 4)},ôg w2 O.w0 O.w1,λJ nz=>{λk d z=>?_,λz=>?_,λz=>?_,λz=>?_,?_}};exact šm[k]?=(ϭc o (w j) B)[k]?;by_cases c:o=À k;subst c;rw[m8 Äm,m8 (by rw[w2.l];show d),e.1];rw[KR c,KR c];show A.w k d (I k z (by rw[f.o k d];show Ĕ c));show S f.c e.2.1 A.a z;show S f.n e.2.2.1 A.b z;show S f.s e.2.2.2 A.c z;let n:=J k z;exact šm[k]?=B[k]?;rw[KR (λc=>by rw[f.o k d,ù c]at n;cases n)];show A.w k d (I k z n);show v f.c Ŏj A.a z;show v f.n Ŏj A.b z;show v f.s Ŏj A.c z;rcases C.ks with z|z;show Ý (TU f.p z) nz;show z
#print a
def z12{d:Â}{s:xE}(g:d<8)(w:W8 Ãc):tF (.tup [.str ϰ,.int (d:Æ),.int (d:Æ)]) s s Ä:=by let e:Ãc[d]?=À (Ãc[d]' Ãm):=Ē _;let f:=cq (a:=s.a) (b:=s.b) (c:=s.c) (hk:=kP Äc) (hv:=vP Äc) (d:=d) (s:=d) (Ws:=Ãc) Ãm e;rw[List.set_getElem_self]at f;show{gg (k := ϰ) rfl rfl qV rfl rfl f,rfl}
def z3c{r:D}{s:xE}(h:qH r)(w:W8 Ãc)(z:pR r=Ã):tF r s s Ä:=by
 cases h with
 |@copy d e hd hs=>
  let q:(d:Æ)=(e:Æ):=by let z:(((ϰ : Ç) == ϰ)&&((d:Æ)==(e:Æ)))=Ã:=z;rw[Č]at z;show Ćd z.2
  rw[<-q];show z12 hd w
 |sum hq=>cases hq<;>show(Ąg).elim|bits hq=>cases hq<;>show(Ąg).elim|mem hq=>cases hq<;>show(Ąg).elim|_=>show(Ąg).elim
def y8k{r:D}(it:xL r)(a:zi r=Ä):qH r\/r=Yc\/(∃t:Ç,r=.tup īc)\/∃(w k t:Ç),Ūl/\Ũk/\r=.tup ϵc:=by
 cases it with
 |Ĝa t=>cases a|Æa h=>show(KM h).imp id .inl|wc t=>show .inr (.inr (.inl {t,rfl}))|Ő t hw hk=>show .inr (.inr (.inr {_,_,t,hw,hk,rfl}))
def rF(x y:Â):x∈two x y/\y∈two x y:=by
 unfold two
 split;rename_i z;show{Ĝ,z▸Ĝ};split;show{Ĝ,Ű _ Ĝ};show{Ű _ Ĝ,Ĝ}
def z3a{w k t:Ç}{e f:xE}{m:Â}(d:w = ϧ \/ w = ϑ)(hk:k = ϭ \/ k = àa \/ k = åa)(A:qF m e f)(u:∀n,uh ıo=À (Ä,.int ((n:Â):Æ))->∀k,ŧi k=Ã->űc k=Ã):gV [XO e,.tup ϵc]=gV [XO f,.tup ϵc]:=by let{r,h,g}:=x73 t d;let{s,q,i,o,x}:=e;let{v,j,p,l,y}:=f;rcases hk with rfl|rfl|rfl;obtain rfl:q=j:=A.a (u 256 r 8 Ò);rcases d with rfl|rfl<;>rfl;obtain rfl:i=p:=A.b (u 512 h 9 Ò);rcases d with rfl|rfl<;>rfl;obtain rfl:o=l:=A.c (u 1024 g 10 Ò);rcases d with rfl|rfl<;>rfl
section
variable{X:Á D}{T:Á Â}(P:PC X)(N:NI (Ă).length Ľg ľg ĝc T [])
variable{s1 s2 t1:xE}{m i i1:Â}(g1:Gd m s1)(hm:m<=800)(w2:W8 s2.ws)(A:qF ĝb s1 s2)
inductive Aw(X:Á D)(T:Á Â)(i i1 m:Â)(t1 s2:xE):È
 |mk {t2:xE} {ld:Ï} (a:tF Ť s2 t2 ld) (y1:ld=Ã->wD X Ť=À i1) (y2:ld=Ä->i1=i+1) (g:qF ϫi t1 t2) (gd:Gd ŧd t1) (w:W8 t2.ws) (hw:i1∈Wf X i)
   (sk:j_ X i=Ã\/pR Ť=Ã\/jS X T i=Ã->i1=i+1/\qF ϫi t1 s2)
include P N g1 hm w2 A in
theorem both(a:jl X i s1 i1 t1):Aw X T i i1 m t1 s2:=by
 cases a with
 |@mk ld hi ns B y1 y2=>
  let{Y,H}:=kG P hi;let g:Gd ŧd s1:={g1.w,g1.p,ĉ g1.l ϖi};let v:=ĭp.1;let j:j_ X i=Ã->wD X Ť=À î:=λh=>š h
  let E:jS X T i=Ã->Pf X i≠0/\ņl=0:=λh=>by unfold jS at h;rw[Č]at h;show{š h.1,š h.2}
  let G:Pf X i=0->pR Ť=Ä->tF Ť s2 s2 ld->t1=s1->i1∈Wf X i->Aw X T i i1 m t1 s2:=λC U d e1 b=>by
   subst e1;let F:qF ϫi t1 s2:=A.up λk h=>br N hi b h (by rw[C,àc])
   show .mk d y1 y2 F g w2 b λz=>{?_,F}
   rcases z with z|z|z;cases ld with
   |Ã=>show ϸ ((y1 rfl).symm.trans (j z))|Ä=>show y2 rfl
   rw[U]at z;cases z;show Ý C (E z).1
  rcases y8k Y H with h|h|⟨t,e⟩|⟨w,k,t,b,c,e⟩;let{J,t2,a1,d,y,Z,w,O}:=x4p P N g1 hm w2 A hi h;let{rfl,rfl}:=B.one a1;obtain rfl:=y2 rfl;let u:=sB hi h;refine .mk (ld:=Ä) d nofun (λ_=>rfl) y Z w (by rw[u];show Ĝ) λz=>{rfl,?_}
  rcases z with z|z|z;let:=j z;unfold wD at this;rw[(r_ h).2]at this;rw[Ĥq];let{rfl,_}:=d.one (z3c h w2 z);show y;let{W,n1}:=E z;show O (λk c=>?_) W;cases e:(ϫb).testBit k with
  |Ä=>rfl|Ã=>
   let:(ņl).testBit k=Ã:=by rw[Ľb,e,u,(šo).mpr {i+1,Ĝ,c}];rfl
   rw[n1,àc]at this;rw[Ĥq]
  show Ý h ns;let o:∀s,tF Ť s s Ã:=λs=>by rw[e];show JK s t
  let{rfl,rfl}:=B.one (o s1);refine G (TU v (by rw[e];show y73 t)) (by rw[e];rfl) (o s2) rfl ?_;let f:=y1 rfl;rw[Re hi];unfold Zf;rw[f,e,Ñ (Vu Ò)];show Ĝ;let{Q,r}:=LA s1 b c;let{L,x}:=LA s2 b c;let{e1,e2}:=B.one (by rw[e];show r t)
  let S:L=Q:=by
   let q:=(x t).ld.symm.trans ((z3a b c A λn I k h=>LN N hi (by rw[TU ϭi.1 (by rw[e];show I)];show h)).symm.trans (r t).ld);injection q with q
   injection q with _ q
   injection q
  have d:tF Ť s2 s2 ld:=by rw[e,e2,<-S];show x t
  refine G (TU v (by rw[e];show y72 t b c)) (by rw[e];rcases b with rfl|rfl<;>rfl) d e1 ?_;let R:=(RN P ϡl.1).1;let{p,f}:=Óc (show(ťf).isSome=Ã by rw[R,e];rcases b with rfl|rfl<;>rfl)
  let K:Wf X i=two î p:=by rw[Re hi,f,e];unfold Zf;rw[Ñ ġk];show Ñ ġk
  rw[K];cases ld with
  |Ã=>rw[ϸ ((y1 rfl).symm.trans f)];show(rF _ _).2|Ä=>rw[y2 rfl];show(rF _ _).1
#print a
def z9l{X:Á D}{T:Á Â}(P:PC X)(N:NI (Ă).length Ľg ľg ĝc T []){o:Á Â}(Q:∀q∈o,¬ pH (Ă).length ĝc q\/j_ X q=Ã\/pR (z_ X q)=Ã\/jS X T q=Ã):O_ X (uT o X).2:=λm n s e t J g r d=>by
 let K:=z8u o X;generalize (uT o X).2=Y at K;let x:∀{i},i<(Ă).length->i ∉ o->z_ Y (rk o i)=z_ X i:=λB c=>FY ((K.r _ B c).trans (g9 B))
 let lt:∀{i},i<(Ă).length->i ∉ o->rk o i<(zD Y).length:=λ{i} B c=>by rw[K.l];show Š (by rw[Im c];show ĵb _) (Ks B)
 let W:∀r,wD Y r=(wD X r).map (rk o):=λr=>by
  unfold wD;cases vh r with
  |Ã=>show Ŧ (·.2) (K.p (IQ r)).1|Ä=>rfl
 let R:∀k,k<11->(2047:Â).testBit k=Ã:=by decide
 let F:∀{n m i:Â}{I C:xE},m+4*n<=800->Gd m I->W8 C.ws->qF ĝb I C->pH (Ă).length ĝc i->i<=(Ă).length->jC X n i I e t->∃k f,k<=n/\jC Y k (rk o i) C f t/\pM Y f:=by
  intro n
  induction n with
  |ů=>
   intro m i I C J g E A b B r;cases r;by_cases z:e<(Ă).length;let H:=d z
   let u:Uf X e=2047:=by unfold Uf;rw[H];show Ŧ YN x74
   obtain rfl:=A.all (λk y=>LN N z (by rw[u];show R k y)) g.w E;show{0,_,Ŕ _,.nil,λ_=>?_}
   let Z:e ∉ o:=λc=>by
    rcases Q e c with h|h|h|h;show h b;let h:=š h;rw[H]at h;cases h;rw[H]at h;show Ħ h;unfold jS at h;rw[Č]at h;show š h.1 ?_;unfold Pf;rw[H]
    rw[Ŝp]
   rw[x z Z];show H;let O:e=(Ă).length:=Źb B (õl z);obtain rfl:=A.all (λk y=>by rw[O,Ŧj];show R k y) g.w E;show{0,_,Ŕ _,.nil,λh=>Ý h (by rw[O,K.l];show Ìc _)}
  |Ż n ih=>
   intro m i I C J g E A b B r;cases r with
   |ú a r=>
    let j:i<(Ă).length:=by cases a;assumption
    let S:z_ X i≠Yc:=by cases a;assumption
    cases both P N g Ê E A a with
    |mk a2 y1 y2 ag gd w hw sk=>have v:=pH.step b j hw;let G:=Wp j hw;by_cases c:i∈o;let{rfl,L}:=sk ((Q i c).resolve_left λh=>h b);let{k,f,y,q}:=ih Ê gd E L v G r;rw[Kt c]at q;show{k,f,ľc y,q};let{k,f,y,U,q2}:=ih Ê gd w ag v G r;refine{k+1,f,ĥa y,.cons (.mk (lt j c) (by rw[x j c];show S) (by rw[x j c];show a2) ϟi ϟi) U,q2};rw[x j c,W,y1 z];rfl;rw[y2 z,Im c]
 show F J g g.w Ĥi .zero öb r
def OA(X:Á D):D:=.dic (tu (Ă).length) (Zb Ă Ϡk (Ă).length)
def mX(X:Á D)(fw fh:D)(s:xE)(i:Â)(j:Æ):M:=xB ϐj ((Ă).length:Â) fw fh (Vl s) (i:Â) j
def Y8(X:Á D)(fw fh:D)(s:xE)(i:Â)(j:Æ):D:=wy ϐj ((Ă).length:Â) fw fh (XO s) (i:Â) j
section
variable{X:Á D}{fw fh:D}{s t:xE}{i e:Â}{j:Æ}
def RJ(hi:i<(Ă).length):zH ϐj Îa=À (.tup [z_ X i,.int ŭh,uz ťf]):=by
 unfold OA;rw[x34 hi]
 let e2:(Ϡk).getD i .zP=uz ťf:=by rw[Ŷ,ņ,g9 hi];rfl
 rw[e2];rfl
def y8l(P:PC X)(hi:i<(Ă).length)(ns:z_ X i≠Yc):za Ť Ųb=À Ā/\u8 Ť=Ã:=by
 let{b,a}:=kG P hi;rw[ϖp];cases b with
 |Ĝa t=>cases a|Æa h=>rcases KM h with h|rfl;let{R,o,pc,c,d,E}:=EM h;show{E.st,E.tp};show Ý rfl ns
 |wc t=>show{rfl,rfl}|Ő t hw hk=>rcases hw with rfl|rfl<;>show{rfl,rfl}
def oT(P:PC X){i':Â}{s':xE}(a:jl X i s i' s'):uv àd=À (Ä,.bl Ä)/\j8 ďh=À ([mX X fw fh s' i' Ϫ],.fz Ĭ):=by
 cases a with
 |@mk ld hi ns A g1 g2=>
  let{st,d}:=y8l P hi ns;let b:(i:Æ)≠((Ă).length:Â):=by omega
  show{?_,?_}
  .rcases R8 (fw:=fw) (fh:=fh) (sd:=XO s) (e:=((Ă).length:Â)) (due:=(i:Æ)) (done:=j) (k:=Ä) (λ_=>{RJ hi,st})with z|⟨z,_⟩;unfold Y8;rw[z,Ĕ b];rfl;show Ý z b
  let c:∀x:É Â,u8 (uz x)=Ã:=λx=>by cases x<;>rfl
  show x24 b (RJ hi) st ?_ qV A.dr ld (by rw[Ts];show A.ld) ?_;exact(u8 Ť&&(Ã&&(u8 (uz _)&&Ã)))=Ã;rw[d,c];rfl;cases ld with
  |Ã=>rw[g1 rfl];rfl|Ä=>obtain rfl:=g2 rfl;show Ŧ Ě Ê
def R9(d:pM X i)(hi:i<=(Ă).length):uv àd=À (Ä,.bl Ã)/\j8 ďh=À (ďh,.fz Ā):=by
 let e:uv àd=À (Ä,.bl Ã):=by
  unfold Y8
  rcases R8 (T:=OA X) (fw:=fw) (fh:=fh) (sd:=XO s) (row:=.tup şf) (nx:=.int ŭh) (tg:=.zP) (e:=((Ă).length:Â)) (due:=(i:Æ)) (done:=j) (k:=Ã) (λz=>⟨by
   let a:i<(Ă).length:=by omega
   rw[RJ a,d a];rfl,rfl⟩)with z|⟨_,z⟩
  rw[z,åi];show z
 show{e,x26 (by rw[Ts];show e)}
def y8s{T:D}{d a c m k:Æ}{b:M}(hk:k<m)(h:j8 Ŝl=À (Ŝl,.fz Ā)):Y5 àk=À (Ä,àk):=by rw[ώp]
theorem y8t{T:D}{a b c e g m k:Æ}{f d:M}{n:Â}(i:n<=Zu)(h:jZ Y5 IC n [À (xB T a fw fh f b c),À ëd,À (.fz Ź)]=À (.nx [À (xB T a fw fh d e g),À ëd,À Ϸi])):pI [xB T a fw fh f b c,.fz (.int m)]=À ([xB T a fw fh d e g,.fz (.int m)],.fz ņf):=by let w:=z9o n h i;let j:∀{s:M}{b c:Æ},Ũb (xB T a fw fh s b c)=Å:=rfl;rw[z55];unfold Fe;simp only[ń,j,w]
theorem n9(P:PC X){m n:Â}(l:m<=1000)(r:jC X n i s e t)(f:e<=(Ă).length)(h:n=m\/n<m/\pM X e):pI [mX X fw fh s i j,.fz üh]=À ([mX X fw fh t e (j+n),.fz üh],.fz Ϗh):=by
 let b:∀{n k i:Â}{s:xE}{j:Æ},jC X n i s e t->(k+n=m\/k+n<m/\pM X e)->jZ Y5 IC ģ [À (mX X fw fh s i j),À Ļp,À (.fz (.int (k:Â)))]=À (.nx [À (mX X fw fh t e (j+n)),À Ļp,À (.fz (.int ((k+n:Â):Æ)))]):=by
  intro n
  induction n with
  |ů=>intro k i s j r h;cases r;rw[show j+((0:Â):Æ)=j by omega];rcases h with h|⟨h,d⟩;show sC (y8u Ê);show sC (y8s Ê (R9 d f).2)
  |Ż n ih=>
   intro k i s j r h;cases r with
   |ú a r=>
    let c:(k:Æ)<(m:Â):=by omega
    show(x7n (y8o c (oT P a).2) (y8m rfl)).trans ?_;let q:=ih (k:=k+1) (j:=j+1) r Đk;rw[show j+1+(n:Æ)=j+((n+1:Â):Æ) by omega,show k+1+n=k+ģ by omega]at q;show q
 let q:=b (k:=0) (j:=j) r Đk;rw[ĺ]at q;let g:n<=m:=ϝc (λz=>Łb z) λz=>ìa z.1
 show y8t (ĉ (show n+1<=1001 by omega) Ò) q
#print a
section
variable{X:Á D}
def oU(P:PC X){i m:Â}{s:xE}(g:Gd m s)(o:m<=800)(d:¬ pM X i):∃i' s',jl X i s i' s'/\Gd ŧd s'/\i'<=(Ă).length:=by
 let e:i<(Ă).length:=ϲg λh=>d λz=>Ý z h
 let n:z_ X i≠Yc:=λh=>d λ_=>h
 let l:∀{i' s'},jl X i s i' s'->∃i' s',jl X i s i' s'/\Gd ŧd s'/\i'<=(Ă).length:=λ{i' s'} a=>by
  let{T,N,_}:=Hy P;cases both P N g o g.w Ĥi a with
  |mk _ _ _ _ gd _ hw=>show{i',s',a,gd,Wp e hw}
 let{v,u}:=kG P e;let q:=(RN P (űb (ϛ (g9 e))).1).1;let b:=λ{i':Â} {s':xE} {f:Ï} (A:tF Ť s s' f) x y=>l (jl.mk (i':=i') e n A x y)
 rw[ϖp];cases v with
 |Ĝa t=>cases u|Æa h=>
  rcases KM h with h|rfl;let{s',A,_}:=z11 h g o;show b (i':=i+1) A nofun λ_=>rfl
  show Ý rfl n
 |wc t=>let{p,j}:=Óc q;show b (JK s t) (λ_=>j) nofun
 |@cond w k t hw hk=>
  let{p,j}:=Óc (show(wD X Čd).isSome=Ã by rw[q];rcases hw with rfl|rfl<;>rfl);let{f,c}:=LA s hw hk;cases f with
  |Ã=>show b (c t) (λ_=>j) nofun|Ä=>show b (i':=i+1) (c t) nofun λ_=>rfl
theorem rC(P:PC X):∀(n:Â){m i:Â}{s:xE},m+4*n<=800->Gd m s->i<=(Ă).length->∃k e t,jC X k i s e t/\e<=(Ă).length/\k<=n/\(k=n\/pM X e)/\Gd (m+4*n) t
 |0,m,i,s,_,g,hi=>{0,i,s,.nil,hi,Ŕ _,.inl rfl,g}|n+1,m,i,s,hm,g,hi=>by by_cases d:pM X i;show{0,i,s,.nil,hi,ϐ _,.inr d,{g.w,g.p,ĉ g.l ϖi}};let{j,o,a,c,b}:=oU P g Ê d;let{k,e,t,r,h,f,z,gt}:=rC P n (m:=m+4) Ê c b;show{k+1,e,t,.cons a r,h,ĥa f,z.imp (λz=>by rw[z]) id,by rw[show m+4*ģ=m+4+4*n by omega];show gt}
theorem nB(P:PC X):∀{n m i e:Â}{s t:xE},m+4*n<=800->Gd m s->jC X n i s e t->i<=(Ă).length->e<=(Ă).length
 |_,_,_,_,_,_,_,_,.nil,h=>h|_,m,i,_,_,_,hm,g,.cons (i1:=i1) a r,h=>by
  let{T,N,_}:=Hy P;let b:i<(Ă).length:=by cases a;assumption
  cases both P N g Ê g.w Ĥi a with
  |mk _ _ _ _ gd _ hw=>show nB P (m:=m+4) Ê gd r (Wp b hw)
def x22(P:PC X){fw fh:D}{i m:Â}{s:xE}{j:Æ}(g:Gd m s)(b:m<=800)(hi:i<=(Ă).length):(pM X i/\uv àd=À (Ä,.bl Ã))\/(¬ pM X i/\uv àd=À (Ä,.bl Ä)):=by by_cases d:pM X i;show .inl {d,(R9 d hi).1};let{_,_,a,_}:=oU P g b d;show .inr {d,(oT P a).1}
#print a
def Rp:FE:=(xz (Ο (Α Ċf)))
def Rz:FT:=(tE (e2 vG Ċf ĝ))
def CZ:FS:=
 (vY (wK 1 (w_ (eL Eb ϣ)) ϱa Rz Rp))
def Qy:Á D->É ä:=FR 1 1 CZ
def z6l(a:D):Qy [a]=yM 1 CZ [a]:=rfl
def Fd:FS:=
 (vY (eL V1 (Α (e1 ŭn Ϸe))))
def WR:Á D->É ä:=FR 1 1 Fd
def z54(a:D):WR [a]=yM 1 Fd [a]:=rfl
def Ba:FE:=(e2 zH (e1 (xv [Ļ] ßb) Ϸe) û)
def Fb:FS:=
 (Εe (wK 1 űn ϱa xY Ba))
def WP:Á D->É ä:=FR 1 1 Fb
def z52(a:D):WP [a]=yM 1 Fb [a]:=rfl
def Fc:FS:=
 (vY (wQ Qy (Α (e1 (xv ôi ða) Ϸe))))
def WQ:Á D->É ä:=FR 1 1 Fc
def z53(a:D):WQ [a]=yM 1 Fc [a]:=rfl
nonrec def gK:Á į->Æ->Æ
 | [],_=>0|p::ps,a=>if p.1=a then p.2 else gK ps a
theorem dX{a:Æ}:∀{ps:Á į},a∈ϟ (·.1)->ċ İ ū Ğb=À όm
 | [],h=>Ý h ó|p::ps,h=>by exact ċ (.inl p.1::kP ps) (.int p.2::vP ps) Ğb=_;unfold ċ gK;by_cases c:p.1=a;rw[Ð (Ŧ ı c),Ð c];rw[Ñ (λz=>c (çc z)),Ñ c];rw[ľ]at h;show dX Ők
def e_(h:a∈ϟ (·.1)):zH Ìd (.int a)=À όm:=by exact(uU (.int a)).bind _=_;show dX h
def Åb(ps:Á į):Á Æ:=Ċd (ϟ (·.1))
def TK(ps:Á į):Á D:=((Åb ps).filter λa=>decide Ĺn).map λa=>.tup Èh
theorem z9z(h:a∈Åb ps):a∈ϟ (·.1):=(ϧh (ϟ (·.1))).mem_iff.mp h
theorem fE:∀(ps:Á į),ZK İ=À (ϟ (·.1))
 | []=>rfl|p::ps=>by exact(ZK İ).bind _=_;rw[fE ps];rfl
def z98(p:Æ->Ï)(v:Æ->D)(h:∀n∈ns,∃σ1,g Ĺe σ=À σ1/\c σ1=À (p n)/\(p n=Ã->e σ1=À (v n))):xi g c e σ ņd=À ((ns.filter p).map v):=by
 induction ns with
 |nil=>rfl|ú n ns ih=>
  let{σ1,e1,e2,d}:=h n Ĝ;let a:=ih λm b=>h m Œb
  exact xi g c e σ (.int n::wI ns)=_;cases q:p n with
  |Ã=>rw[q]at e2;simp only[xi,e1,ßc,e2,d q,a,øf,q,ź,ľ]|Ä=>rw[q]at e2;simp only[xi,e1,ßc,e2,a,øf,q,Ĺb,Ăa]
theorem y0l:vG Áa Ź=À (η (i≠0)):=by
 exact À (øa (!(i==0)))=_
 congr 2
 rw[îq];rfl;rw[ù c];let:(i==0)=Ä:=by simpa using c
 rw[this];rfl
def y5d{ps:Á į}:Qy Ón=À (Ã,.lst Ōj):=by
 let e1:Eb Ón=À (Β įn):=by exact(ZK İ).bind _=_;rw[fE];rfl
 let e2:xi ϱa Rz Rp [À (Ä,.dic İ ū),Å] įn=À Ōj:=z98 (λa=>decide Ĺn) (λa=>.tup Èh) λn c=>by let b:=e_ (z9z c);show{_,rfl,?_,λ_=>?_};unfold Rz;simp only[Ö,b,y0l];unfold Rp;simp only[Ö,b]
 rw[z6l];unfold CZ;rw[Ęq]
section
variable{T fw fh:D}{e due done:Æ}{Ws:Á Æ}{a b c:Ï}{ps:Á į}
def y89:WR ũg=À (Ã,.lst ŋ):=by let d:V1 Šf=À Đa:=rfl;rw[z54];unfold Fd;simp only[Ö,Je,jL,d]
theorem z9v:WP ũg=À (Ä,.tup ĸc):=by
 let e1:xi ϱa xY Ba [À (Ä,wy T e fw fh ěl due done),Å] Jj=À ĸc:=by
  let h:∀m:Ç,Ba [À (Ä,wy T e fw fh ěl due done),À (Ä,.str m)]=zH ůc (.str m):=λm=>by unfold Ba;simp only[Ö,Je,Ef]
  unfold Jj;simp only[xi,zt,xY,ßc,Čh,ċh,h,RP,x4d,x4e]
 let e2:Jd [.lst ĸc]=À (.tup ĸc):=rfl;rw[z52];unfold Fb T8;rw[Ęq]
theorem y01:WQ ũg=À (Ã,.lst Ōj):=by rw[z53];unfold Fc;simp only[Ö,Je,Ee,y5d]
#print a
def Kl:FA:=(qO ĝ (e2 yx ïo ďb))
def HX:FS:=(zR (yF 4 (Λc (e2 xF Èe Ī)))
    (jV 2 (e2 zH (xV (zB (e2 yx Ϧg (eC ói)) (zB (e2 yx Ϧg (eC (.int 12))) (Α (e2 jK (eC Ϙn) (e2 yx Ϧg Õb)))))) Ϩm) (e2 yx (e2 vF ŝ Õb) ϟm)))
def Bc:FE:=(xz (zB ϣa (Α (e2 zH Ŵj ϣa))))
def CD:FS:=
 (zR (t4 2 Ńc)
  (zR (qy Kl Ĥb
   HX)
  (zR (ZW 2) (vY (wK 1 (T9 2) ŝe xY Bc)))))
def WY:Á D->É ä:=FR 2 5 CD
def z62(b a:D):WY ą=yM 5 CD ą:=rfl
theorem rR:∀{ps:Á į} {p:Æ×Æ},(ϟ (·.1)).Nodup->p∈ps->gK ps p.1=p.2
 |q::ps,p,nd,h=>by rw[ľ,List.nodup_cons]at nd;unfold gK;rcases ħ h with rfl|h;rw[Ð rfl];rw[Ñ (λz:q.1=p.1=>nd.1 (by rw[z];show Öf (f:=(·.1)) h))];show rR nd.2 h
def y00{ns:Á Æ}(s:Ŝ<=63)(w:∀m∈ns,vC m<=1048576):∃ps:Á į,pK ps/\ğ<=4/\WY [.lst Ϥ,.int 38]=À (Ã,.lst Ąc):=by
 let{m,N,O,r}:=g_ s w (k:=38) Ò Ò;let G:(Şm).length=(m%4).toNat:=by rw[å,ëa]
 let{σ',e1,ps,c,j,P,n,rfl}:=gx (g:=zt 3) (b:=HX) (λi σ=>∃(ps:Á į) (c j:É Sl),pK ps/\ğ<=i/\σ=[À (Ä,.lst Ϥ),À (Ä,.int 38),À (Ã,.dic İ ū),c,j])
  (ds:=wW (m%4).toNat) (σ:=Æk) 0 {[],Å,Å,{nofun,nofun,Ùb},Ŕ _,rfl} λi d σ o l=>by
   let{ps,c,j,P,n,rfl}:=l;rw[ĺ]at n ⊢;let{L,rfl}:=Vr o;let C:i<4:=by omega
   let{μ,μ0,μ1,A}:=g_ s w (k:=39+(i:Æ)) Ê Ê
   obtain⟨v,B,E,K⟩:∃v:Æ,zH (.lst [.int (μ/256%65536),.int (μ/256%12),.int (65535-μ/256%3)]) (Ε (μ%3))=À Ϣb/\0<=v/\v<65536:=by rcases(show μ%3=0\/μ%3=1\/μ%3=2 by omega)with h|h|h<;>rw[h]<;>show{_,rfl,by omega,by omega}
   let y:uU Ϣb=À (.inl v):=rfl;let z:(İ).length<yV:=by unfold kP;rw[å];rw[Ňp]
   let{I,J}:=nV ps v Ϫh;show{_,[À (Ä,.lst Ϥ),À (Ä,.int 38),À (Ã,.dic (kP Ĳn) (vP Ĳn)),À (Ä,.int (i:Æ)),À (Ä,.int μ)],rfl,.inl ?_,vR ps v Ϫh,_,_,nZ P E K Ėi ėi,ĉ YW (ĥa n),rfl};rw[<-I,<-J];unfold HX;generalize Ða Ě=NS at A B y z ⊢;simp only[Ö,Ϧ,A,B,jV,y,z,ź]
 rw[ĺ,G]at n
 let q:T9 2 [À (Ä,.lst Ϥ),À (Ä,.int 38),À (Ä,.dic İ ū),c,j]=À Ϡl:=by exact(if(İ).all TW=Ã then À ((İ).map ſa)else Å)=_;rw[Ð (Öd λx F=>by let{p,_,rfl}:=ϫ F;rfl)];unfold kP;rw[îa];rfl
 let t:xi ŝe xY Bc Âk Ϡl=À Ąc:=by
  let e:=YJ (g:=zt 5) (e:=Bc) (σ:=Âk) (ds:=ϟ λp=>Ě p.1) (λd=>match d with|.int a=>.tup Èh|_=>.zP) λd o=>by let{p,l,rfl}:=ϫ o;let H:=e_ (ps:=ps) (Öf (f:=(·.1)) l);rw[šp];unfold Bc;simp only[Ö,H]
  rw[e,îa];show Ŧ À (öh λp l=>?_);exact Ĩb [.int p.1,.int (gK ps p.1)]=pD p;rw[rR ĩc l];rfl
 refine{ps,P,by omega,?_}
 let u:Kl Æk=À Şm:=by unfold Kl;show kF ?_ Ê;generalize Ða Ě=NS at r ⊢;simp only[Ö,r]
 rw[z62];unfold CD;generalize Ða Ě=NS at u e1 q t ⊢;simp only[Ö,u,e1,q,t]
def Rj:FE:=üb
def Bg:FT:=(tE (e2 Þo (e2 įe (e2 zH Ī üb) (zg uw (Α Âa))) ĝ))
def ME:FS:=(zR (yF 6 ϣm)
    (zR (yS (ub (tE Ϡm) (tE Āl))
     âc
     yi)
    (zR (yS (ub (tE (e2 za û ĸ)) (ub ϵj Ók))
     âc
     yi)
    (zR (yS (ub (tE (e2 za û ϑa)) (ub Ìl Ĵk))
     âc
     yi)
    (yS (ub Ŭl Ϛj)
     (yS (Κ çk øb)
       âc
       yi)
     yi)))))
def CG:FS:=
 (zR (yF 2 (wQ Ui ϣ))
  (zR (yF 3 þo)
  (zR (t4 4 øb)
  (zR (qy (w_ (wQ Qp ϣ)) ŝe
   ME)
  ĵg))))
def Ue:Á D->É ä:=FR 2 7 CG
def z64(b a:D):Ue ą=yM 7 CG ą:=rfl
nonrec def TR(w:Ç):Ï:=[ća,ϧ,ϑ,ϳb,ėa,ēa].any λz=>w==ła z
def KU(r:D):Ï:=decide ŝo==TR įg
def y7c{r:D}(h:xL r)(a:zi r=Ä):KU r=Ã:=eU (f:=KU) Ϙa Íf Ϙa Ϙa Íf Íf Íf h a
def z7i(w a b c:Ç):xM Ř (.tup [.str a,.str b,.str c])=À (.bl ((a==w)||((b==w)||((c==w)||Ä)))):=rfl
def LK(a b:Ç):ļg=(b==a):=Bool.eq_iff_iff.mpr {λh=>by rw[ϖb]at *;show ŝj,λh=>by rw[ϖb]at *;show ŝj}
def z7j{r:D}(h:xL r):xM Ϲh (.tup Ϙk)=À (.bl (vh r)):=by rw[z7i,eV h,Ôe,ĕn,LK ća,LK ϧ,LK ϑ]
theorem y75{r:D}(h:xL r)(a:zi r=Ä):ŝo↔TR įg=Ã:=by let:=y7c h a;unfold KU at this;rw[ϖb]at this;rw[<-this,ĉh]
def J4(X:Á D)(T:Á Â)(q:Â):È:=¬ pH (Ă).length ĝc q\/j_ X q=Ã\/pR (z_ X q)=Ã\/jS X T q=Ã
section
variable{x rr tt r d:D}{κ:Æ}{Lf:Á D}
nonrec def vj(x rr tt d r:D)(κ:Æ)(Lf:Á D):zu:=[À (Ä,x),À (Ä,.int κ),À (Ä,rr),À (Ä,tt),À (Ã,.lst Lf),À (Ä,d),À (Ä,r)]
theorem qo{j:Æ}{t:FT}{a:FS}(h:za ϯf ďc=À Ā):yS (ηd (eC ďc)) a yi Ðd=À (.nx Ðd):=by unfold vj;simp only[Ö,h]
theorem HP{t:FT}{c:Ï}(h:t Ðd=À c)(e:za ϯf ϯf=À Ĭ)(a:uR ķp d=À ϓm):yS (ηd (eC ϯf)) âc yi Ðd=À øk:=by unfold vj at *;cases c<;>simp only[Ö,h,e,a,ύf,řf]
theorem z84{t:FT}{c:Ï}(h:t Ðd=À c)(a:uR ķp d=À ϓm):yS t âc yi Ðd=À øk:=by unfold vj at *;cases c<;>simp only[Ö,h,a,ύf,řf]
#print a
def z8i{X:Á D}(P:PC X){R T:Á Â}(O:Z8 Új=À (Ã,.lst Ŏd))(m1:∀i,i∈R↔i<(Ă).length/\pH (Ă).length ĝc i)(lT:őa=(Ă).length+1){i:Â}(hi:i<(Ă).length)(x6:É Sl)(a:Á D)(hf:ăa<=1000){κ:Æ}(hk:κ=0\/κ=1\/κ=2\/κ=3) :∃Lf',(Lf'=a\/Lf'=a++[.int (i:Æ)]/\J4 X T i)/\ME ϟj=À (.nx (vj Ďc Ęd Ŵc Îa Ť κ Lf')):=by
 let B:=n4 hi;let{o,hL}:=kG P hi;let Z:z_ X i∈X:=ϡl.1;let m:=HI o;let f:uR (.lst a) Îa=À (Β Ąh):=Wr hf
 let s0:yF 6 ϣm ϟj=À (.nx (vj Ďc Ęd Ŵc Îa Ť κ a)):=by unfold vj;generalize z_ X i=r at B ⊢;generalize zD X=RR at B ⊢;generalize zK T=T1 at B ⊢;simp only[Ö,B]
 let j:∀{c:Ï},(c=Ã->J4 X T i)->Ő c Ąh a=a\/Ő c Ąh a=a++[.int (i:Æ)]/\J4 X T i:=λ{c} h=>by
  cases c with
  |Ä=>show .inl rfl|Ã=>show .inr {rfl,h rfl}
 unfold ME;rw[v6 s0];rcases hk with rfl|rfl|rfl|rfl;let L:ql Îa æp=À àp:=by unfold ql;rw[z7l];rfl
 let h:tE Āl (vj Ďc Ęd Ŵc Îa Ť 0 a)=À (!decide Ļd):=by unfold vj;generalize zK R=R1 at O L ⊢;simp only[Ö,O,L]
 show{_,j (c:=!decide Ļd) λz=>.inl λc=>?_,by rw[v6 òi,v6 òb,v6 òb];show qo rfl};rw[ù ((m1 i).mpr {hi,c})]at z;cases z;let n:=z7j o
 obtain⟨c,h,hc⟩:∃c,ub ϵj Ók (vj Ďc Ęd Ŵc Îa Ť 1 a)=À c/\(c=Ã->j_ X i=Ã):=by
  cases hj:vh Ť with
  |Ä=>rw[hj]at n;show{Ä,?_,nofun};unfold vj;generalize z_ X i=r at m n ⊢;simp only[Ö,m,n]|Ã=>
   rw[hj]at n;let{t,p,G,K}:=Ĩc _ Z hj;let J:=y6o P K
   let tg:wD X Ť=À p:=by unfold wD;rw[hj];exact(xG (IQ Ť) X).2=_;rw[M8 o hj G];show K
   let q:za âf Òp=À (η (À p=À î)):=ic (À p) i;show{_,?_,λz=>by unfold j_;rw[tg];show z};unfold vj;generalize z_ X i=r at m n G J q ⊢;simp only[Ö,m,n,G,J,Ϧ,q]
 show{_,j λz=>.inr (.inl (hc z)),by rw[v6 òb,v6 òi,v6 òb];show qo rfl};let{b,N,b2,b3}:=cP o
 let h:ub Ìl Ĵk (vj Ďc Ęd Ŵc Îa Ť 2 a)=À (pR Ť):=by
  unfold vj;rw[ϖp];cases b with
  |Ä=>rw[b3 rfl];simp only[Ö,m,N]|Ã=>let{x,y,S,c2,c3}:=b2 rfl;simp only[Ö,m,N,S,c2,c3]
 show{_,j λz=>.inr (.inr èb),by rw[v6 òb,v6 òb,v6 òi];show qo rfl};let{s,_}:=IZ P hi;let H:=y0t P hi;let pz:Pf X i=0↔TR İe=Ã:=y75 o hL
 let A:ql (.str İe) (.tup [.str ća,.str ϧ,.str ϑ,.str ϳb,.str ėa,.str ēa])=À (.bl (!TR İe)):=by unfold TR;exact À (øa (!_))=_;rw[Üb,Üb,Üb,Üb,Üb,Üb,List.any_nil];simp only[LK İe];rfl
 cases hs:TR İe with
 |Ã=>rw[hs]at A;show{a,.inl rfl,?_};rw[v6 òb,v6 òb,v6 òb];unfold vj;generalize z_ X i=r at *;let F:za ϰb ϰb=À Ĭ:=rfl;simp only[Ö,F,m,A]|Ä=>
  rw[hs]at A
  let pn:Pf X i≠0:=λz=>by rw[pz.mp z]at hs;cases hs
  let +zeta p:D->Ï:=λd=>match d with
   |.int k=>decide (0<(gt T Ϡ &&& Pf X i))|_=>Ä
  let v:=VJ (g:=zt 7) (c:=Bg) (e:=Rj) (σ:=[À (Ä,.lst X),À (Ä,.int 3),À (Ä,.lst Ă),À (Ä,.lst Ěa),À (Ã,.lst a),À (Ä,.int (i:Æ)),À (Ä,z_ X i),Å]) p (λd=>d) (ds:=zK ħd) λd U=>by
   let{w,E,rfl}:=ϫ U;let C:=MO (T:=T) (i:=w) (by let:=Wp hi E;omega);let u:=LJ ύc ϫb
   let W:p Ěf=decide ((0:Æ)<((gt T w &&& Pf X i:Â):Æ)):=by exact decide Ņk=_;rw[ē];show ϓd Ê
   show{_,rfl,?_,λ_=>rfl};rw[W];unfold Bg;generalize z_ X i=r at C s u ⊢;generalize zD X=RR at C s u ⊢;generalize zK T=T1 at C s u ⊢;simp only[Ö,C,s,u]
  rw[List.map_id']at v;let I:∀l:Á D,za (.lst l) ăc=À (.bl l.isEmpty):=λl=>by cases l<;>rfl
  let q:=I ϱe
  let h:tE (e2 za çk øb) (vj Ďc Ęd Ŵc Îa Ť 3 a)=À (ϱe).isEmpty:=by unfold vj;generalize (zK ħd).filter p=FF at H v q ⊢;generalize zK ħd=WW at H v q ⊢;simp only[Ö,H,v,q]
  show{_,j (c:=(ϱe).isEmpty) λQ=>.inr (.inr (.inr ?_)),?_};unfold jS;rw[ù pn,ýd];show ù (ϔd λk=>?_);rw[àc,Ľb];cases h1:(ϫb).testBit k with
  |Ä=>rfl|Ã=>
   cases h2:(vi T ħd).testBit k with
   |Ä=>rfl|Ã=>
    let{w,E,hb}:=(šo).mp h2
    let Y:p Ěf=Ã:=by
     exact decide Ņk=Ã;rw[ē];show ù (Øm λz=>?_);let:(gt T w &&& Pf X i).testBit k=Ã:=by rw[Ľb,hb,h1];rfl
     rw[z,àc]at this;rw[Ĥq]
    let:Ě (w:Æ)∈(zK ħd).filter p:=Úd {Öf E,Y};rw[ϖl Q]at this;rw[Ĥq]
  rw[v6 òb,v6 òb,v6 òb];let z:=z84 h f;unfold vj at *;generalize Ő (ϱe).isEmpty (a++[Ě (i:Æ)]) a=L2 at *;rw[ϖp];let F:za ϰb ϰb=À Ĭ:=rfl;exact((ub _ _ _).bind _)=_
  let g:ub Ŭl Ϛj [À (Ä,.lst X),À (Ä,.int 3),À (Ä,.lst Ă),À (Ä,.lst Ěa),À (Ã,.lst a),À (Ä,.int (i:Æ)),À (Ä,r)]=À Ã:=by simp only[Ö,F,m,A]
  rw[g];show z
def z8h{X:Á D}(P:PC X)(n:(Ă).length<=60){κ:Æ}(hk:κ=0\/κ=1\/κ=2\/κ=3):∃T qs,NI (Ă).length Ľg ľg ĝc T []/\(∀q∈qs,J4 X T q)/\Ue [.lst X,.int κ]=À (Ã,.lst ļj):=by
 let{R,_,w,t}:=y86 P n;let{T,N,j}:=Hy P;let p:=z7f P n t ţb j;let a:=z95 ϙ
 let{σ',s,l,c,qs,f,_,rfl}:=gx (g:=zt 5) (b:=ME) (λk σ=>∃(l c:É Sl) (qs:Á Â),(∀q∈qs,J4 X T q)/\Žf<=k/\σ=[À (Ä,.lst X),À (Ä,.int κ),À (Ä,.lst Ă),À (Ä,.lst Ěa),À (Ã,.lst ļj),l,c]) (ds:=zK ϣg)
  (σ:=[À (Ä,.lst X),À (Ä,.int κ),À (Ä,.lst Ă),À (Ä,.lst Ěa),À (Ã,.lst []),Å,Å]) 0 {Å,Å,[],nofun,Ŕ _,rfl} (by
  rintro k d σ o ⟨l,c,qs,f,r,rfl⟩;let m:=(ķ o).1;rw[k8]at m;let v:(ϣg).length<=60:=ĉ Ôc (by rw[ëa];show n);let{i,u,rfl}:=ϫ (ϛ o);let{x,h,e}:=z8i P t w ţb (VR.mp u).1 c ļj (by rw[k8];omega) hk;rcases h with rfl|⟨rfl,hI⟩
  .show{_,_,rfl,.inl e,_,_,qs,f,ľc r,rfl}
  .show{_,_,rfl,.inl e,_,_,qs++[i],λq h=>?_,by rw[è];show ĥa r,by rw[Åq];rfl};rcases ż h with h|h
   .show f q h
   .cases Į h;show hI)
 show{T,qs,N,f,?_};rw[z64];unfold CG;generalize zK ϣg=LL at *;generalize zK qs=QQ at *;generalize zK T=T1 at *;let a:Ui Új=À (Ã,.lst Ă):=a;generalize zD X=RR at a j p s ⊢;simp only[Ö,a,j,p,s]
def YI:FS:=(yS (tE (e2 za Ī ĝ))
     (jW 2 ĝ (zg WR (pO à Ñb ý zF)))
     (yS (tE (e2 za Ī ĸ))
       (jW 2 ĸ (zg WP (pO à Ľd ý zF)))
       (yS (tE (e2 za Ī ϑa))
         (jW 2 ϑa (zg WQ (pO à ęb ý zF)))
         (jW 2 Õb ϫk))))
def CL:FS:=
 (zR (t4 2 (xV (zB őb (zB őb (zB őb (Α őb))))))
  (zR (qy (w_ (e2 zH (xV (zB (εa (ŗb Ě Ãp)) (zB (εa (ŗb Ě Àp)) (zB (εa (ŗb Ě Áp)) (Α (εa (ŗb Ě Âp))))))) (e2 yx û ďb))) Ĥb
   YI)
  ŷj))
def Zv:Á D->É ä:=FR 2 4 CL
def z69(b a:D):Zv ą=yM 4 CL ą:=rfl
def CB:yZ:=
 (xW (tM 5 (wO (wQ WZ êi)))
  (xW (tM 6 (wO (wQ WY (Ξc (e2 xF Ī Őb)))))
  (xW (tM 7 (JU à Z6 (wH ý Ũl)))
  (xW (tM 8 (JU à Z6 (wH û Ũl)))
  (xW (tM 9 (ge à ϥc 7 [] pI ïe))
  (xW (ZN (Yf (ι (zg uv (pO à Ŕb üb zF))))
   ŀn
   ZO)
  (xW (ZN (Tt (LR Þo (ge à ϥc 8 [] pI ïe) (wO Įg)))
   ϴh
   ZO)
  (xW (tM 10 (wO (zg uC (Ξc (e2 xF Ī Ļn)))))
  (ZP (ju (e2 za (zg Zv (zB üb (Α (z7 10)))) (zg Zv (zB (z7 8) (Α (e2 vF (z7 10) ďb)))))))))))))))
def X6:FM:=vo 5 11 CB
def z60(b a c d x4:M):X6 Ĵf=wZ 5 11 CB Ĵf:=rfl
def CA:yZ:=
 (xW (tM 1 (wO (wQ Uh (ξa (zB ĸ (Ζ (.int 10)))))))
  (xW (ZN (ιa (e2 za (e2 yx (Ζc (Ζ (.int 28))) Õb) ĸ))
   (tM 1 (wO (zg Qv (Ο (ξa (Ζ (.int 46)))))))
   ZO)
  (xW (tM 2 (wO (e2 yx (Ζc (zB ĝ zF)) ďb)))
  (xW (ZN (RT (Tt (γd (wQ Uj Ëb))))
   ϴh
   ZO)
  (ZP (γd (zg Uo (Ο (Α (wQ Ue (zB û Žh)))))))))))
def A_:FM:=vo 1 3 CA
def z5z(a:M):A_ [a]=wZ 1 3 CA [a]:=rfl
def BQ(s:xE)(b:Ï):Á D:=[.lst œf,.tup [.bl s.a,.bl s.b,.bl s.c],.lst (TK Äc),.bl b]
theorem x43{Z u v1 s t:D}{A x B H:Ï}{μ:Æ}(l:∀m∈[Ñb,Ľd,ęb,Ŕb],∀τ:zu,pO à (ła m) ý zF (À (Ä,Z)::τ)=À [Z])(v:WR [Z]=À (A,u))(C:WP [Z]=À (x,v1))(I:WQ [Z]=À (B,s))(F:uv [Z]=À (H,t)):Zv [Z,.int μ]=À (Ã,.lst [u,v1,s,t]):=by
 let E:=l Ñb Ò;let y:=l Ľd Ò;let w:=l ęb Ò;let G:=l Ŕb Ò
 let q:∀a b:Â,za Ĝf ûn=À (η (a=b)):=λa b=>by
  exact À (øa Ăm)=_;by_cases c:a=b;subst c;rw[ù rfl,ϗa];rw[Ĕ c];let:Ăm=Ä:=by rw[Óf];omega
  rw[this]
 let o:∀j f g h:D,YI [À (Ä,Z),À (Ä,.int μ),À (Ã,.lst ϖf),À (Ä,.int 0)]=À (.nx [À (Ä,Z),À (Ä,.int μ),À (Ã,.lst [u,f,g,h]),À (Ä,.int 0)]):=λj f g h=>by let e:za Ź Ź=À Ĭ:=rfl;let i:Ϻb 4 0=À 0:=rfl;unfold YI;simp only[Ö,e,E,v,jW,i]
 let r:∀j f g h:D,YI [À (Ä,Z),À (Ä,.int μ),À (Ã,.lst ϖf),À (Ä,.int 1)]=À (.nx [À (Ä,Z),À (Ä,.int μ),À (Ã,.lst [j,v1,g,h]),À (Ä,.int 1)]):=λj f g h=>by let k:za Ąa Ź=À Ā:=rfl;let e:za Ąa Ąa=À Ĭ:=rfl;let i:Ϻb 4 1=À 1:=rfl;unfold YI;simp only[Ö,k,e,y,C,jW,i]
 let p:∀j f g h:D,YI [À (Ä,Z),À (Ä,.int μ),À (Ã,.lst ϖf),À (Ä,.int 2)]=À (.nx [À (Ä,Z),À (Ä,.int μ),À (Ã,.lst [j,f,s,h]),À (Ä,.int 2)]):=λj f g h=>by let k:za Űa Ź=À Ā:=rfl;let e1:za Űa Ąa=À Ā:=rfl;let e:za Űa Űa=À Ĭ:=rfl;let i:Ϻb 4 2=À 2:=rfl;unfold YI;simp only[Ö,k,e1,e,w,I,jW,i]
 let n:∀j f g h:D,YI [À (Ä,Z),À (Ä,.int μ),À (Ã,.lst ϖf),À (Ä,.int 3)]=À (.nx [À (Ä,Z),À (Ä,.int μ),À (Ã,.lst [j,f,g,t]),À (Ä,.int 3)]):=λj f g h=>by let k:za ϰb Ź=À Ā:=rfl;let e1:za ϰb Ąa=À Ā:=rfl;let e2:za ϰb Űa=À Ā:=rfl;let i:Ϻb 4 3=À 3:=rfl;unfold YI;simp only[Ö,k,e1,e2,G,F,jW,i]
 rw[z69];unfold CL;rcases(show μ%4=0\/μ%4=1\/μ%4=2\/μ%4=3 by omega)with z|z|z|z;let i:∀a b c d:D,zH ÿf Ź=À a:=λ_ _ _ _=>rfl
 simp only[Ö,z,i,o,r,p,n];let i:∀a b c d:D,zH ÿf Ąa=À b:=λ_ _ _ _=>rfl
 simp only[Ö,z,i,o,r,p,n];let i:∀a b c d:D,zH ÿf Űa=À c:=λ_ _ _ _=>rfl
 simp only[Ö,z,i,o,r,p,n];let i:∀a b c d:D,zH ÿf ϰb=À d:=λ_ _ _ _=>rfl
 simp only[Ö,z,i,o,r,p,n]
theorem rB{X:Á D}{fw fh:D}{s:xE}{i:Â}{j μ:Æ}{b:Ï}(h:uv àd=À (Ä,.bl b)):Zv [Y8 X fw fh s i j,.int μ]=À (Ã,.lst (BQ s b)):=by
 show x43 (λm a τ=>L9 rfl ?_ rfl) y89 z9v y01 h
 revert m
 rw[ŋp]
def fS{n q S L Q:D}{k m fw fh:D}{e1 e2 x:Æ}{o y:M}{g μ:Æ}{b:Ï}(I:WZ Öo=À (Ã,L))(C:WY Ôo=À (Ã,Q))(O:uC Õo=À (Ä,.int μ))(i1:Z6 [.obj à [] [],.fz n,.fz L,.fz Q]=À ([xB k e1 fw fh o 0 0,.fz n,.fz L,.fz Q],.fz .zP))(F:Z6 [.obj à [] [],.fz q,.fz L,.fz Q]=À ([xB m e2 fw fh o 0 0,.fz q,.fz L,.fz Q],.fz .zP))(H:pI [xB k e1 fw fh o 0 0,.fz ϰf]=À ([xB k e1 fw fh y x g,.fz ϰf],.fz (.int g)))(A:uv [wy k e1 fw fh (vJ y) x g]=À (Ä,.bl b))(h:b=Ã->∃(r:M) (u f:Æ) (v:D) (c a:Ï),pI [xB m e2 fw fh o 0 0,.fz ϰf]=À ([xB m e2 fw fh r u f,.fz ϰf],.fz (.int f))/\f<=g/\Zv [wy k e1 fw fh (vJ y) x g,.int μ]=À (c,v)/\Zv [wy m e2 fw fh (vJ r) u f,.int (μ/4)]=À (a,v)/\za v v=À Ĭ) :X6 ök=À (ök,.fz Ĭ):=by
 let E:∀{T fw fh:D}{e d j:Æ}{s:M},Ũb ώe=Å:=rfl;let B:∀{T fw fh:D}{e d j:Æ}{s:M}{o0 c a o3 o4 o5 o6 o8 o9 o10:É M},ge à ϥc 7 [] pI ïe Ųg=(wH ŝ vM Ųg).bind λw=>Y6 pI (.p 7 []::w) Ųg:=rfl
 let N:∀{T fw fh:D}{e d j:Æ}{s:M}{o0 c a o3 o4 o5 o6 o7 o9 o10:É M},ge à ϥc 8 [] pI ïe ųg=(wH ŝ vM ųg).bind λw=>Y6 pI (.p 8 []::w) ųg:=rfl
 let G:∀{T fw fh sd:D}{e d j:Æ}{o0 c a o3 o4 o5 o6 o8 o9 o10:É Sl},pO à Ŕb üb zF [o0,c,a,o3,o4,o5,o6,À (Ä,wy T e fw fh sd d j),o8,o9,o10]=À [wy T e fw fh sd d j]:=L9 rfl ϵ rfl;let J:∀{T fw fh:D}{e d j:Æ}{s:M}{i:Â},gZ ώe i []=.p i []:=rfl;let l:xF Ĺp ßa=À (.int 38):=rfl;let t:xF Ĺp (.int 7)=À (.int 37):=rfl;rw[z60];unfold CB;cases b with
 |Ä=>simp only[ń,I,C,i1,F,H,E,B,G,Xv,A,l,J]|Ã=>let{r,u,f,v,c,a,P,W,K,U,R}:=h rfl;let z:decide (g<f)=Ä:=Ĕ Ê;simp only[ń,I,C,i1,F,H,P,E,B,N,G,Xv,A,l,t,J,LR,gb,z,O,K,U,R]
theorem x44(s:xE)(b:Ï):za Ùn Ùn=À Ĭ:=z4f (by
 let e1:qq 5 çp=Ã:=Öd λx a=>by let{n,_,rfl}:=ϫ a;rfl
 let e2:qq 5 ϒm=Ã:=Öd λx a=>by let{n,_,rfl}:=ϫ a;rfl
 exact(qq 5 çp&&(Ã&&(qq 5 ϒm&&(Ã&&Ã))))=Ã;rw[e1,e2];rfl)
def eB{X:Á D}(P:PC X){Ws:Á Æ}{ps:Á į}(w:W8 Ws)(p:pK ps)(a:ğ<=1000):Z6 [.obj à [] [],.fz Ďc,.fz Đa,.fz èp]=À ([mX X Đa Ìd {Ws,Ä,Ä,Ä,ps} 0 0,.fz Ďc,.fz Đa,.fz èp],.fz .zP):=
 y8g (Xl ϙ) (RM P) (å ..) (ĉ Ôc (ĉ Éc Ò)) w.l w.h (z26 p a)
def z9a{X Y:Á D}(c:PC X)(h:PC Y)(H:O_ X Y){S:D}{Ws:Á Æ}{ps:Á į}{μ:Æ}(w:W8 Ws)(p:pK ps)(l:ğ<=8)(u:WZ Öo=À (Ã,.lst ŋ))(v:WY Ôo=À (Ã,.lst Ąc))(F:uC Õo=À (Ä,.int μ)):X6 Îk=À (Îk,.fz Ĭ):=by
 let g:Gd 8 {Ws,Ä,Ä,Ä,ps}:={w,p,l};let y:=eB c w p éo;let A:=eB h w p éo;let{k,e,t,r,B,s,z,gt}:=rC c 40 Ò g öb
 let n:=n9 (fw:=.lst ŋ) (fh:=.dic İ ū) (j:=0) c (m:=40) Ò r B (by rcases z with z|z;show .inl z;show(Ċh s).elim (λq=>.inr {q,z}) .inl)
 rw[show(0:Æ)+(k:Æ)=(k:Æ) by omega]at n;rcases x22 (fw:=.lst ŋ) (fh:=.dic İ ū) (j:=(k:Æ)) c gt Ò B with⟨d,a⟩|⟨_,a⟩;let{i,f,o,G,C}:=H 8 k _ e t Ê g r d;let x:=nB h Ê g G öb;let E:=n9 (fw:=.lst ŋ) (fh:=.dic İ ū) (j:=0) h (m:=40) Ò G x ((Ċh (ĉ o s)).elim (λq=>.inr {q,C}) .inl);rw[show(0:Æ)+(i:Æ)=(i:Æ) by omega]at E;refine fS (b:=Ã) u v F y A n ùm λ_=>{Vl t,(f:Æ),(i:Æ),.lst (BQ t Ã),Ã,Ã,E,by omega,?_,?_,x44 t Ã};rw[Ts];show rB a;rw[Ts];show rB (R9 C x).1;show fS (b:=Ä) u v F y A n ùm nofun
def y8p:∀ns:Á Æ,Ŝ<=63->(∀m∈ns,vC m<=1048576)->∃r,A_ Łh=À (r,.fz Ĭ):=λns c d=>by
 let{_,_,it,_,_,_,_,P,_,l,e}:=y6t c d (first:=1) (řa:=10) Ò Ò Ò Ò;let{a,a0,a1,I}:=g_ c d (k:=28) Ò Ò;let{κ,_,_,F}:=g_ c d (k:=0) Ò Ò;let{μ,_,_,ek}:=g_ c d (k:=37) Ò Ò
 let em:∀i:Â,i<41->∃m:Æ,0<=m/\uC [.lst Ϥ,.int ϓn]=À (Ä,.int m):=λi hi=>by let{m,h0,_,e}:=g_ c d (k:=46+(i:Æ)) Ê Ê;show{m,h0,e}
 let{W,R,lW,hW}:=y8a c d (f:=30) Ò Ò;let{ps,Q,S,u}:=y00 c d
 let h:∀X:Á D,PC X->ϖ<=40->∃Y g Z,Uj Új=À (Ã,.lst Y)/\Ue [.lst X,.int (κ%4)]=À (Ã,.lst g)/\Uo [.lst X,.lst g]=À (Ã,.lst Z)/\∀V∈[Y,Z],X6 Àk=À (Àk,.fz Ĭ):=λX b G=>by
  let{T,g,N,U,J}:=z8h b (ĉ Ôc êo) (show κ%4=0\/κ%4=1\/κ%4=2\/κ%4=3 by omega);refine{_,_,_,z9c b,J,x7q b.it êo g,λV E=>?_};let H:=λ(L:PC V) (O:O_ X V)=>z9a b L O {lW,hW} Q (ĉ S Ò) R u ek
  rcases ħ E with rfl|E;show H (MJ b).1 (z9m b);cases Į E;show H (z85 b g) (z9l b N U)
 let{p,P2,l2,ev}:=x76 P Ê em;let{K,q1,Z1,w,v,o,x}:=h it P Ê;let{Y2,q2,Z2,A,B,y,j}:=h p P2 Ê;let t:=x K Ĝ;let C:=x Z1 ío;let n:=j Y2 Ĝ;let s:=j Z2 ío;clear x j;generalize Ða Ě=NS at *;show{[.fz (.lst NS)],?_};rw[z5z];unfold CA;by_cases z:a%3=1;let q:za Ýo Ąa=À Ĭ:=by rw[z];rfl
 simp only[ń,e,I,q,ev,F,A,B,y,n,s];let q:za Ýo Ąa=À Ā:=by exact À (øa (a%3==1))=_;rw[show(a%3==1)=Ä by rw[Óf];show z]
 simp only[ń,e,I,q,F,w,v,o,t,C]
#print L3
local macro_rules
 | `(tactic| ac_rfl)=>`(tactic| show⟨rfl,rfl,rfl,by decide +kernel,rfl,by decide +kernel,by decide +kernel⟩)
namespace My
open Ķ L2 L3
set_option maxHeartbeats 4000000
nonrec def top(i:Â):Ü:=PySem.Challenge.pw_markrun_k57_parts_leave_the_same.main.body.getD i ĵm
section
variable{P:ï}{w:æ}{K:Ô}{mg:Ç->É Value}{Ì:Heap}{UL:Ë}{WM:Ë}{UN:Ë}{UO:Ë}{UM:Ë}{UR:Ë}{US:Ë}{UQ:Ë}{UJ:Ë}{WL:Ë}{UK:Ë}
abbrev HT:=ï->æ->Ô->Ńh->Heap->È
section
variable{h:Heap}(X:ŵ h)(G:ğa Ę mg)
abbrev NZ:Ü:=top 8
def y9m:zj żi żi (zZ NZ):=by ac_rfl
variable(Zg:mg ōc=Å)(OF:mg ğc=Å)(S5:mg Őe=Å)
def Dp:=HD ýi żi 1 Z7
def y35(a:zS K ýi NZ):Dp P w K mg Ì:=(Ţ).oS P w Ì 0 Z7 y9m yQ λb=>(zd (Ηc (Vn (t5 (O0 .bool rfl rfl Zg S5 z1y Ϡa)) (Tr (Τa (O0 .int rfl rfl Zg OF cA Ϡa)))) (yg q_)) (Δ (Iz (ul y4z g7 Ϩa Ϡa Ž) (Vi (ul Xf g7 Ϡa (zM (zX kD kA zE Ď)) Ž)))))
abbrev N7:Ü:=top 9
def nF:zj [ŝd,Íe,ϭ,"total"] Ęn (zZ N7):=by ac_rfl
variable(T6:vB mg "BEYOND" Äd)(TZ:∀H,zY K H Äd Äd)
def Di:=HD Ĉj Ęn 1 UX
def y2f(a:zS K Ĉj N7):Di P w K mg Ì:=(Ęb).oS P w Ì 0 UX nF yQ λb=>(zd (yc (i:=3) nF.nd rfl â (zX w6 x_ åm Åm)) (γa (zX xO xN Šb žh) (Γ (ul y4v g7 (zM Šb) (zM žh) Ž))))
abbrev PL:Ü:=top 10
def nM:zj [ŝd,Íe,"borrow",įa] Şl (zZ PL):=by ac_rfl
def F4:=HD Ąj Şl 1 Um
def y4f(a:zS K Ąj PL):F4 P w K mg Ì:=(Ęb).oS P w Ì 0 Um nM yQ λb=>(zd (yc (i:=3) nM.nd rfl â (zX Xg Xe (zX Xg Xe Ğ Ď) Åm)) (zd (ym (yG Xf g7 Ōb Ϩa Ž) (γa (zX w6 x_ Šb žh) Ĕd) xH) (γa Šb Ĕd)))
abbrev P8:Ü:=top 13
def y9y:zj Śh Śh (zZ P8):=by ac_rfl
def F3:=HD Œj Śh 1 wv
def y46(a:zS K Œj P8):F3 P w K mg Ì:=(Ęb).oS P w Ì 0 wv y9y yQ λb=>(Δ (zX TY tN çm ťk))
abbrev PZ:Ü:=top 14
def nP:zj [Įa,ŀg,đf,ýa,"there"] ϙl (zZ PZ):=by ac_rfl
def F6:=HD øi ϙl 1 Wg
def y4l(a:zS K øi PZ):F6 P w K mg Ì:=(śo).oS P w Ì 0 Wg nP yQ λb=>(zd (yc (i:=4) nP.nd rfl â (zX kD kA ťk Ď)) (Δ (zX kC tN (zX TY tN Ğ (YU rL rJ âa)) (zX kD kA Šb Ď))))
abbrev Pc:Ü:=top 16
def x05:zj Ûj Ûj (zZ Pc):=by ac_rfl
variable(S6:mg "sum"=Å)(OH:mg Ķa=Å)(Ji:vB mg Ϥn Ϯf)(Ii:∀H,zY K H T7 Ϯf)
def F7:=HD ŗi Ûj 1 J2
def y4o(a:zS K ŗi Pc):F7 P w K mg Ì:=(Ÿ).oS P w Ì 0 J2 x05 yQ λd=>(Δ (tP (z2v rfl) y4c rfl S6 z23 (Ξb (yO (vt rfl (vE (own:=["byte",ŀg]) rfl) (nu rfl OH Ğ æn) (Οb (Ρ (ψ (ο Ϝk) (Θa (υ Ϝk))))) ķc (Ρ (zX kD kA Ď ıa)))))))
abbrev NY:Ü:=top 20
def y9l:zj ϡb ϡb (zZ NY):=by ac_rfl
def Do:=HD įi ϡb 1 X5
def y34(a:zS K įi NY):Do P w K mg Ì:=(Ÿ).oS P w Ì 0 X5 y9l yQ λb=>(Δ đh)
abbrev NX:Ü:=top 21
def y9k:zj ϡb ϡb (zZ NX):=by ac_rfl
variable(Ek:vB mg "JUMPS" ϭf)(KW:∀H,zY K H Lv ϭf)
def Dn:=HD şi ϡb 1 WV
def y33(a:zS K şi NX):Dn P w K mg Ì:=(Ÿ).oS P w Ì 0 WV y9k yQ λb=>(Δ (ul ĉe pX äj (zM (vQ Ek KW rfl)) ϐa))
abbrev Ny:Ü:=top 36
def y9u:zj ĥd ĥd (zZ Ny):=by ac_rfl
variable(Eo:vB mg ėo ßa)(Kc:∀H,zY K H ßa ßa)(V4:vB mg "MARKS" Ϧf)(VY:∀H,zY K H T8 Ϧf)(HM:FV K WM)
def Dz:=HD ĭi ĥd 1 Wb
def y3u(a:zS K ĭi Ny):Dz P w K mg Ì:=(Ÿ).oS P w Ì 0 Wb y9u yQ λb=>(Δ (zX kD kA zE (zX w6 x_ (vQ Eo Kc rfl) (x0b V4 VY HM rfl Ğ))))
abbrev P0:Ü:=top 37
def y9v:zj [ěa] [ěa] (zZ P0):=by ac_rfl
def D_:=HD ġh [ěa] 1 Dh
def y3x(a:zS K ġh P0):D_ P w K mg Ì:=(Ÿ).oS P w Ì 0 Dh y9v yQ λb=>(Δ (Iz (nS đh (Vi đh)) (Vi (ε äj Ϩa))))
abbrev PR:Ü:=top 40
def x03:zj Ďh Ďh (zZ PR):=by ac_rfl
variable(Yg:mg Ūa=Å)(OG:mg ŏ=Å)
def F5:=HD ùi Ďh 1 J0
def y4j(a:zS K ùi PR):F5 P w K mg Ì:=(Ęb).oS P w Ì 0 J0 x03 yQ λb=>(Γa äf (zc (u7 Òc)) (ym äf (Φ (wB ŵc Ÿd)) xH) (δa (yG KF KC ãj (zM kH) Ž) (Φ (wB (Γ Îd) Ÿd)) (u7 (ni rfl rfl Yg rfl OG (Γ (Μc (zC Îd ĝf)))))))
abbrev P1:Ü:=top 44
def B0:zj [ŋd,ϓb,Ăj,Ěd] Ϭo (zZ P1):=by ac_rfl
def F0:=HD ûi Ϭo 1 We
def y3z(a:zS K ûi P1):F0 P w K mg Ì:=(Ţ).oS P w Ì 0 We B0 yQ λb=>(zd (yc (i:=2) B0.nd rfl â zE) (Χ (vv Ď) (Υ (yz (i:=3) B0.nd rfl â)) (zc (yc (i:=2) B0.nd rfl â (zX kC tN ţ (zV Ĳ zU Ğ ϻ)))) (yg ţ)))
abbrev ND:Ü:=top 45
def Iq:zj żk [Ēg] (zZ ND):=by ac_rfl
variable(uA:mg Ŕa=Å)(wp:mg "len"=Å)(kT:mg ϊb=Å)
def Dk:=HD ÿi [Ēg] 1 Ub
def y2m(a:zS K ÿi ND):Dk P w K mg Ì:=(Ÿ).oS P w Ì 0 Ub Iq yQ λb=>(x1y (i:=1) rfl (x1g (i:=1) rfl ōg rfl rfl (vE (own:=[Ěd]) rfl) rfl (ζa (zX w6 x_ öp zE)) (ηc (wJ żk [Ěd])) ķf) (y1o (iR Èb rfl (O2 rfl kT Ğ) (x0w (ψ (yz (i:=3) ōg rfl â) (Θa (yz (i:=4) ōg rfl â))) rfl rfl) (K9 (iR Èb rfl (vv âa) (x0x (yz (i:=2) ōg rfl â) rfl) (K9 (y1m ŏa Ķg ţ ϻ))))) (K9 y1n)))
abbrev Nv:Ü:=top 57
def y9s:zj Żi Żi (zZ Nv):=by ac_rfl
def Dy:=HD Įi Żi 1 Qx
def y3q(a:zS K Įi Nv):Dy P w K mg Ì:=(Ţ).oS P w Ì 0 Qx y9s yQ λb=>(Δ (Iz (ul Xf g7 ęd Ėf Ž) (Vi (ε (zM (zV Ĳ zU Ùf zE)) ãa))))
abbrev P7:Ü:=top 64
def y9x:zj [ða] [ða] (zZ P7):=by ac_rfl
def F2:=HD Ĭi [ða] 1 Qy
def y45(a:zS K Ĭi P7):F2 P w K mg Ì:=(Ÿ).oS P w Ì 0 Qy y9x yQ λb=>(Τ (vE (own:=ēi) rfl) (vv (yO (x0t rfl rfl Yg Ńa))) (Μa (ο (wJ [ða] ēi))) (Ι (ZY (Βe (zM Ùf)))) (Ι (ν (Ζa (zC Ùf zN)))))
abbrev NA:Ü:=top 65
def y97:zj ųc ųc (zZ NA):=by ac_rfl
def Dj:=HD Ši ųc 1 UZ
def y2j(a:zS K Ši NA):Dj P w K mg Ì:=(Ţ).oS P w Ì 0 UZ y97 yQ λb=>(Δ (x0a ŏa Ğ Ď zE {rfl,rfl,rfl,rfl}))
abbrev N6:Ü:=ZI (top 72) 0
def y94:zj ÿd ÿd (zZ N6):=by ac_rfl
variable(gL:mg Ģ=Å)(Xw:mg Ãa=Å)(wN:vL K [Ļ] àb)(qL:vL K [Ļ] ßb)(jE:vL K [Ļ] ða)
def y2e{f:Ë}{c:Ń}(d:vV K éb ĺm N6 f c):xP P w K mg Ì xK 1 f c ÿd Ċp:=d.oM P w mg Ì 0 UW y94 uB λe=>(xo (k7 ϡ wN (Hs (Pu rfl gL ŵb))) (xo (k7 ϡ qL (Hs (ιc (vt rfl Ϯl Ϭl (ξ (Μb (γb (wJ ÿd ĥd)))) ğm (Μb (ν (zC ϻ Ĕd))))))) (wV (k7 ϡ jE (Hs (x0o rfl Xw LO ŵc))))))
abbrev NP:Ü:=top 73
def y9f:zj Ŋ Ŋ (zZ NP):=by ac_rfl
def Dm:HT:=λP w K mg Ì=>wX P w K mg Ì ϱf Ŋ 1 (xX K Qm)
def y2v(a:zS K ϱf NP):Dm P w K mg Ì:=(Ţ).oM P w Ì 0 Qm y9f uB λb=>(θ (wY ıb))
abbrev NH:Ü:=top 75
def y9a:zj Ŋ Ŋ (zZ NH):=by ac_rfl
def Dl:HT:=λP w K mg Ì=>wX P w K mg Ì Źf Ŋ 1 (xX K Qi)
def y2p(a:zS K Źf NH):Dl P w K mg Ì:=(Ţ).oM P w Ì 0 Qi y9a uB λb=>(θ (ZR ĭc))
abbrev Nb:Ü:=top 80
def y9o:zj Đh Đh (zZ Nb):=by ac_rfl
def Dq:=HD Áj Đh 1 Uc
def y37(a:zS K Áj Nb):Dq P w K mg Ì:=(Ęb).oS P w Ì 0 Uc y9o yQ λb=>(zd (ζ Ϡa ãa (zX TY tN Ď ţ)) (zd (ζ Ϡa ãa (zX kC tN Ď ţ)) (Δ (zX y57 tN Ď ţ))))
abbrev Nu:Ü:=top 89
def y9r:zj Ŋ Ŋ (zZ Nu):=by ac_rfl
def Dx:=HD Ćj Ŋ 1 gV
def y3p(a:zS K Ćj Nu):Dx P w K mg Ì:=(Ţ).oS P w Ì 0 gV y9r yQ λb=>(zd (ζ Ĭe ãa Ϭk) (zd (ζ Ĭe ãa (x0e Ϭk)) (Δ (ε Ĭe ãa))))
abbrev N3:Ü:=ZI Čc 2
def y93:zj [Œ] [Œ] (zZ N3):=by ac_rfl
variable(Z_:vL K [à] þb)(Wq:vL K [à] ōa)(JH:vL K [à] ģb)
def y2b{f:Ë}{b:Ń}(d:vV K Ŕb ļm N3 f b):xP P w K mg Ì xK 1 f b [Œ] ďp:=d.oF P w mg Ì 0 uv y93 yQ λa=>(Δ (nS (οd (vH Ğ Z_) (vH Ğ JH)) (Vi (οd (zV (zT (zO a)) zU Ďk zE) (wj ło Ÿd)))))
abbrev N1:Ü:=ZI Čc 5
def y92:zj [Œ] [Œ] (zZ N1):=by ac_rfl
variable(jq:vL K [à] ůa)
def y29{f:Ë}{a:Ń}(d:vV K Ñb ύl N1 f a):xP P w K mg Ì xK 1 f a [Œ] Đp:=d.oF P w mg Ì 0 WR y92 yQ λb=>(Φ (Pu rfl gL (Γ (vH ōf wN))))
abbrev K_:Ü:=ZI Čc 6
def y90:zj [Œ] [Œ] (zZ K_):=by ac_rfl
variable(Vv:mg ſ=Å)
def y27{f:Ë}{c:Ń}(d:vV K Ľd Ům K_ f c):xP P w K mg Ì xK 1 f c [Œ] Ēp:=d.oF P w mg Ì 0 WP y90 yQ λe=>(Εd (yO (vt rfl Ϯl Ϭl (vp (Μb (ο (wJ ["self"] ĥd))) rfl) ğm (Μb (zV (zT (zO e)) zU (vH ōf qL) Ď)))))
abbrev Nf:Ü:=top 98
def y9p:zj ċe ċe (zZ Nf):=by ac_rfl
def Dr:=HD Űh ċe 1 Ud
def y3b(a:zS K Űh Nf):Dr P w K mg Ì:=(Ţ).oS P w Ì 0 Ud y9p y8q λb=>(zd (ym (yG Xf g7 ęd Ėf Ž) (Δ Ùf) xH) (zc (yg zE)))
abbrev Nt:Ü:=top 100
def Pm:zj [řc] [] (zZ Nt):=by ac_rfl
def Dw:=HD Èi [] 1 Qw
def y3o(a:zS K Èi Nt):Dw P w K mg Ì:=(a.d0 X G).oS P w Ì 0 Qw Pm yQ λb=>(zd (yc (i:=0) Pm.nd rfl â (yO (wB (zC zo (zC zo (zC zo (zC zo (zC zo ϫl))))) (yN (zb (zb (zb (zb (zb ĭn))))) Ò)))) (zd (yc (i:=0) Pm.nd rfl â (ωd (wB ϫl (yN ĭn Ò)))) (Δ (ωd (wB (zC zo Řg) (yN (zb ϴg) Ò))))))
abbrev Nj:Ü:=top 102
def Td:zj [ĳb,ŕc,"_law_letters","_law_size",ϟn,"_law_spot"] ϴo (zZ Nj):=by ac_rfl
def Ds:=HD Êi ϴo 1 Qt
def y3f(a:zS K Êi Nj):Ds P w K mg Ì:=(Ţ).oS P w Ì 0 Qt Td yQ λd=>(zd (yc (i:=2) ųe rfl Þa zo) (zd (yc (i:=3) ųe rfl â ġm) (zd (yc (i:=4) ųe rfl Þa (x0d zo (Ψb (vt rfl Æf ϛm ϗj ķc (Ρ (ξd (zX uX uW łc (zV ūh zU (yO (wB (Ip (is:=Ϻe) rfl) (yN (JL (n:=7) Ò) Ò))) ąa)))))))) (zd (yc (i:=5) ųe rfl Þa (zX xO xN łc ϒd)) (zd (yc (i:=4) ųe rfl Þa (B2 âa B5 (B6 zE))) (Φ (vt rfl Æf (kK rfl uA Ď) ϗj ķc (Ρ (zX w6 x_ (zX w6 x_ (B2 âa B5 (B6 Źa)) (ξd (zX w6 x_ łc ąa))) (B2 âa (B6 Źa) B5))))))))))
abbrev Np:Ü:=top 104
def y9q:zj [ϔa] [ϔa] (zZ Np):=by ac_rfl
def Du:=HD āi [ϔa] 1 Ui
def y3l(a:zS K āi Np):Du P w K mg Ì:=(Ÿ).oS P w Ì 0 Ui y9q yQ λd=>(Τ Ļl ϩb (Εb (wJ [Þe] [ēf])) (Υb (yG ăo k9 (zM (zV ūh zU Ď zE)) ãa Ž)) ĕh)
abbrev Nl:Ü:=top 105
def Mz:zj [ϔa,όl,ϙh,ēf] ϲo (zZ Nl):=by ac_rfl
def Dt:=HD Éi ϲo 1 Ug
def y3h(a:zS K Éi Nl):Dt P w K mg Ì:=(Ţ).oS P w Ì 0 Ug Mz yQ λb=>(zd (yc (i:=2) Mz.nd rfl â zE) (zd (gH Èb rfl ϩb (Υ (yz (i:=3) Mz.nd rfl â)) (δa (Η Ōb (zM (ν (zC zo ŵb)))) (zc (yg ţ)) (yc (i:=2) Mz.nd rfl â (zX w6 x_ ţ (x09 z2i y31 rfl OF cA (Ξb (ul ïd k9 (zM âd) ãa Ž))))))) (Δ śc)))
abbrev Nz:Ü:=top 11
def Po:zj [Įa,ćj,"moved","fallen"] ģf (zZ Nz):=by ac_rfl
variable(XT:vB mg Ϡn ώb)(Xj:∀H,zY K H ώb ώb)(pU:F3 P w K mg Ì)
def ak:=HD Ãi ģf 2 Wc
def y3v(a:zS K Ãi Nz):ak P w K mg Ì:=(Ţ).oS P w Ì 1 Wc Po yQ λb=>(zd (yc (i:=2) Po.nd rfl â (zX kD kA Ğ Ď)) (zd (yc (i:=3) Po.nd rfl â (Κe (zC ţ (zC ùh æc)))) (γa (Κd òp) ϓi)))
abbrev N_:Ü:=top 12
def nJ:zj [Įa,ćj,"fallen"] ģf (zZ N_):=by ac_rfl
def am:=HD ϖh ģf 2 Wd
def y3w(a:zS K ϖh N_):am P w K mg Ì:=(Ţ).oS P w Ì 1 Wd nJ yQ λb=>(zd (yc (i:=2) nJ.nd rfl â (Κe (Φa (zC (zX Xg Xe Ď zE) æc)))) (γa çm ŵc))
abbrev NC:Ü:=top 15
def y98:zj [Įa] [Įa] (zZ NC):=by ac_rfl
def aE:=HD İi [Įa] 2 Ua
def y2l(a:zS K İi NC):aE P w K mg Ì:=(Ÿ).oS P w Ì 1 Ua y98 yQ λd=>(Εd (yO (vt rfl (vE (own:=[ŀg]) rfl) (vv æn) (vp (Βa (ο (wJ [Įa] [ŀg]))) rfl) ķc (Βa (yD pU d rfl (Φa (zC Ď æc)))))))
abbrev PH:Ü:=top 22
def x00:zj [ĭ] [ĭ] (zZ PH):=by ac_rfl
variable(V9:Do P w K mg Ì)
def b8:=HD śi [ĭ] 2 uN
def y4b(a:zS K śi PH):b8 P w K mg Ì:=(Ÿ).oS P w Ì 1 uN x00 yQ λd=>(Τ ϯl ϩb (Εb (wJ [ěd] ϡb)) (Υb (Τa (yD V9 d rfl øo))) ĕh)
abbrev Nc:Ü:=top 23
def Ir:zj [ĭ,ϓb,Ěd,"item"] [ĭ] (zZ Nc):=by ac_rfl
def aT:=HD Ůh [ĭ] 2 WX
def y38(a:zS K Ůh Nc):aT P w K mg Ì:=(Ÿ).oS P w Ì 1 WX Ir yQ λb=>(zd (qU (i:=1) Ōg rfl â Ti) (zd (yc (i:=2) Ōg rfl â zE) (Χ ϩb (Υ (yz (i:=3) Ōg rfl â)) (zc (ym (t5 (yD V9 b rfl ϔi)) (zc (Tn ŏa Ķg âd ţ)) (zc (oI (i:=2) HF KB Ōg rfl â zE)))) ſj)))
abbrev PQ:Ü:=top 34
def Iy:zj Ϯo [ěa] (zZ PQ):=by ac_rfl
variable(Jg:vB mg Ōn ŧc)(Ig:∀H,zY K H ŧc ŧc)(Em:vB mg ϣn ϫf)(KZ:∀H,zY K H Ew ϫf)(En:vB mg Ϣn Ϫf)(Kb:∀H,zY K H Ex Ϫf)(El:vB mg Űm Ϭf)(KY:∀H,zY K H Ev Ϭf)(XU:Dz P w K mg Ì)
def bD:=HD őj [ěa] 2 uh
def y4i(a:zS K őj PQ):bD P w K mg Ì:=(Ÿ).oS P w Ì 1 uh Iy yQ λb=>(zd (ζ äj ãa çn) (Γa (pq (Vn äf (Tr äf))) (Δ (yD XU b rfl öo)) (yc (i:=1) Iy.nd rfl â zE) (zd (Ρd (vQ Em KZ rfl)) (zd (Ρd (vQ En Kb rfl)) (δa (Χb (vQ El KY rfl)) (Ωc ύg) (yg Ď))))))
abbrev P9:Ü:=top 35
def Iv:zj Ϯo [ěa] (zZ P9):=by ac_rfl
variable(Er:vB mg "PUT_D" Ϩf)(Ke:∀H,zY K H Ez Ϩf)(Es:vB mg ħl ϧf)(Kf:∀H,zY K H E_ ϧf)(Ep:vB mg ϡn ϩf)(Kd:∀H,zY K H Ey ϩf)(Gg:D_ P w K mg Ì)
def aw:=HD "put" [ěa] 2 uw
def y47(a:zS K "put" P9):aw P w K mg Ì:=(Ÿ).oS P w Ì 1 uw Iv yQ λb=>(zd (yc (i:=1) Ŋg rfl â zE) (Γa (Χb (vQ Er Ke rfl)) (zc (yc (i:=1) Ŋg rfl â (zX kC tN Ď ŭk))) (ym (Χb (vQ Es Kf rfl)) (zc (yc (i:=1) Ŋg rfl â (zX kC tN æm ύg))) xH) (δa (pq (Za (Χb (vQ Ep Kd rfl)) (Xu (Τa (yD Gg b rfl Ńa))))) (zc (yc (i:=1) Ŋg rfl â æm)) (yg Ď))))
abbrev Pa:Ü:=top 53
def Tg:zj čk ϵo (zZ Pa):=by ac_rfl
def bF:=HD ři ϵo 2 Uo
def y4m(a:zS K ři Pa):bF P w K mg Ì:=(Ţ).oS P w Ì 1 Uo Tg yQ λd=>(zd (yc (i:=2) Űe rfl â (Αe (vv Ď) (ξ (Βa (yz (i:=6) (show(wJ čk [ýa]).Nodup by rw[ŋp]) rfl â))) (Βa (ν (zC ąa Ĕd))))) (zd (qU (i:=4) Űe rfl â Òc) (zd (yc (i:=3) Űe rfl â zE) (Χ ϩb (Υ (yz (i:=5) Űe rfl â)) (zc (ym (t5 (yD V9 d rfl óp)) ϙe (zd (ym (yG ċo IR Ōb ãj ϐa) ϙe xH) (zc (oI (i:=3) HF KB Űe rfl â zE))))) Ĺg))))
abbrev Nd:Ü:=top 56
def Mv:zj ["name",ąc,ϓb,"met","last"] őm (zZ Nd):=by ac_rfl
variable(Gb:Dy P w K mg Ì)
def aU:=HD üi őm 2 Qs
def y39(a:zS K üi Nd):aU P w K mg Ì:=(Ęb).oS P w Ì 1 Qs Mv yQ λb=>(zd (qU (i:=3) Mv.nd rfl â Ti) (zd (yc (i:=4) Mv.nd rfl â Ğ) (zd (R7 Èb (t5 (yD Gb b rfl (Οc (zV Ĳ zU ıa âa)))) (Γa (yG ĉe pX (zM þh) (Tc 3) ϐa) (zc (yg Ğ)) (Tn ŏa Źj þh q_) (zc (yc (i:=4) Mv.nd rfl â (zV Ĳ zU (zV Ĳ zU Ď þh) śc))))) (To 3 (Δ âa)))))
abbrev NW:Ü:=top 63
def y9j:zj [ϣb] [ϣb] (zZ NW):=by ac_rfl
variable(Jf:vB mg Àn ϥa)(Ie:∀H,zY K H ϥa ϥa)(VA:Dp P w K mg Ì)
def aR:=HD Äi [ϣb] 2 Qq
def y32(a:zS K Äi NW):aR P w K mg Ì:=(Ÿ).oS P w Ì 1 Qq y9j yQ λb=>(Δ (yD VA b rfl (zC Ğ Ţl)))
abbrev N9:Ü:=top 66
def y96:zj ži ži (zZ N9):=by ac_rfl
def aC:=HD Æi ži 2 UY
def y2h(a:zS K Æi N9):aC P w K mg Ì:=(Ţ).oS P w Ì 1 UY y96 yQ λb=>(Δ (yD pU b rfl (zC åm (zC zE Ţl))))
abbrev PB:Ü:=top 69
def y9z:zj Õe Õe (zZ PB):=by ac_rfl
variable(Jh:vB mg ϥn ßa)(Ih:∀H,zY K H ßa ßa)
def az:HT:=λP w K mg Ì=>wX P w K mg Ì īi Õe 2 (xX K Ul)
def y48(a:zS K īi PB):az P w K mg Ì:=(Ęb).oM P w Ì 1 Ul y9z uB λb=>(wV (IK ŏa ϡ Ď (wY (Κd šl))))
abbrev NJ:Ü:=top 74
def y9b:zj Ŋ Ŋ (zZ NJ):=by ac_rfl
variable(Gx:F6 P w K mg Ì)
def aH:HT:=λP w K mg Ì=>wX P w K mg Ì Ÿf Ŋ 2 (xX K Qj)
def y2q(a:zS K Ÿf NJ):aH P w K mg Ì:=(Ţ).oM P w Ì 1 Qj y9b uB λb=>(θ (ZR (yD Gx b rfl (zC ĭc (zC zE (zC zE Ŭh))))))
abbrev PJ:Ü:=top 77
def x01:zj Ϫg Ϫg (zZ PJ):=by ac_rfl
variable(Lw:Di P w K mg Ì)(Gq:F4 P w K mg Ì)
def b9:=HD ϻi Ϫg 2 Z9
def y4d(a:zS K ϻi PJ):b9 P w K mg Ì:=(śo).oS P w Ì 1 Z9 x01 yQ λb=>(zd (Γd (zC ţ Ĕd)) (zd (Γd (zC ţ ϓi)) (Δ (yD Gq b rfl (Ζa (zC ţ (Γ (Iz Šb (Vi (ε Ϡa ãa))))))))))
abbrev Nx:Ü:=top 78
def y9t:zj ſi ſi (zZ Nx):=by ac_rfl
def ah:HT:=λP w K mg Ì=>wX P w K mg Ì ŝi ſi 2 (xX K Wa)
def y3t(a:zS K ŝi Nx):ah P w K mg Ì:=(Ţ).oM P w Ì 1 Wa y9t uB λb=>(xo (Ιb (wY (ε ęd Ϩa))) (wV (Ιb (wY (ξc (Ζa (zC (zX Xg Xe ùh zE) æc)))))))
abbrev Pd:Ü:=top 92
def x06:zj [Ñb] [Ñb] (zZ Pd):=by ac_rfl
variable(S4:mg "all"=Å)(Lq:vB mg Ļm ßa)(Mh:∀H,zY K H ßa ßa)
def bI:=HD Ài [Ñb] 2 J3
def y4p(a:zS K Ài Pd):bI P w K mg Ì:=(Ÿ).oS P w Ì 1 J3 x06 yQ λd=>(Γa ϻk (Φ (ng ìi ån)) (Φb (pq (Vn Ĝk (Tr (yG ăo k9 Ėf (zM ån) Ž))))) (zd (Φb (Yb (t5 (tP (z2e rfl) y2i rfl S4 z20 (Ξb (yO (vt rfl (vE (own:=[ϣb]) rfl) ϩb (Εb (wJ [Ñb] [ϣb])) ķc (Βa (yD VA d rfl (Ζa òp)))))))))) (Φ (Pu rfl gL Ńa))))
abbrev N0:Ü:=ZI Čc 7
def y91:zj [Œ] [Œ] (zZ N0):=by ac_rfl
variable(Gk:F2 P w K mg Ì)
def y28{f:Ë}{a:Ń}(d:vV K ęb Ľm N0 f a):xP P w K mg Ì xK 2 f a [Œ] đp:=d.oF P w mg Ì 1 WQ y91 yQ λb=>(Φ (vI Gk b rfl (Γ (vH ōf jE))))
abbrev Nh:Ü:=top 99
def nI:zj [Ϸ,ϝa,ĳb] ċe (zZ Nh):=by ac_rfl
variable(GO:Dr P w K mg Ì)
def aW:=HD Ăi ċe 2 uC
def y3d(a:zS K Ăi Nh):aW P w K mg Ì:=(Ţ).oS P w Ì 1 uC nI yQ λb=>(zd (yc (i:=2) nI.nd rfl â (zX w6 x_ (zX w6 x_ (zX w6 x_ (zX MU iU (yD GO b rfl (zC Ğ ŵb)) zE) (zX MU iT zE Ď)) (zX MU iT zE öp)) zE)) (Δ (Μ (zX MU iU (zX xO xN (zX y50 y3y ţ ţ) zE) zE))))
abbrev No:Ü:=top 101
def Tf:zj [ĳb,Ëd,ŕc,ϟn,"_law_one","_law_two","_law_rest"] ěn (zZ No):=by ac_rfl
variable(GY:Dw P w K mg Ì)
def ac:=HD Ϙh ěn 2 Qu
def y3k(a:zS K Ϙh No):ac P w K mg Ì:=(Ęb).oS P w Ì 1 Qu Tf yQ λb=>(zd (yc (i:=3) űe rfl â (Εa (x07 GY b rfl) ġm)) (zd (yc (i:=0) űe rfl â łc) (zd (yc (i:=4) űe rfl â (zX xO xN Ğ ţ)) (zd (yc (i:=5) űe rfl â (zX xO xN łc ţ)) (zd (yc (i:=6) űe rfl â łc) (zd ϔj (zd ϔj (Γa (εd (wj (zC zo ϻg) Ϯd)) (Δ (wj (zC Šb (zC âa (zC Źa (Γ (Εa (Μc (zC ϛf (zC ϛf zN))) (Μ łc)))))) Ϯd)) (ζ Ōb ãa (ν (zC Šb æk))) (zd (ym (εd (Ιc ło)) (ζd (zC (Εa (yO (wB ϻg üd)) (Μ Źa)) æk)) xH) (zd (ζ Ōb ãa (wj ϓi Śm)) (ζd (zC âa óp))))))))))))
abbrev Kz:Ü:=ZI Čc 1
def y8z:zj [Œ] [Œ] (zZ Kz):=by ac_rfl
variable(JI:vL K [à] ác)(JJ:vL K [à] Ůb)(JG:vL K [à] ϙc)(HN:Ow P w K mg Ì Ļ ÿd 1 Ċp)
def y26{f:Ë}{a:Ń}(d:vV K Ľe ům Kz f a):xP P w K mg Ì xK 3 f a [Œ] ĉp:=d.oM P w mg Ì 2 Y_ y8z uB λb=>(xo (k7 ϡ jq (Hr HN b rfl (gz (tf ϡ JJ) (gz (tf ϡ JI) qQ)))) (xo (k7 ϡ Z_ ľj) (wV (k7 ϡ JG ľj))))
abbrev PM:Ü:=top 24
def nN:zj [ĭ,ϓb] [ĭ] (zZ PM):=by ac_rfl
variable(Jr:aT P w K mg Ì)(tZ:b8 P w K mg Ì)(Jq:Dn P w K mg Ì)
def bB:=HD Ái [ĭ] 3 ZA
def y4g(a:zS K Ái PM):bB P w K mg Ì:=(Ÿ).oS P w Ì 2 ZA nN yQ λb=>(zd (yc (i:=1) nN.nd rfl Þa Ēl) (Τ ļl (vv Đl) (Μa (υ (wJ [ěd,ϓb] [ěa]))) Łc (Ι (Xo (t5 (yD Jq b rfl ĝf)) (zV Ĳ zU Ď (zV Ĳ zU ıa śc)) kH))))
abbrev NE:Ü:=top 49
def y99:zj [ĭ] [ĭ] (zZ NE):=by ac_rfl
def aF:=HD ćh [ĭ] 3 X2
def y2n(a:zS K ćh NE):aF P w K mg Ì:=(Ÿ).oS P w Ì 2 X2 y99 yQ λb=>(Τ (vE (own:=[ýa,ěa]) rfl) (O2 rfl kT Đl) (Οb (Ι (ψ (ο ŧl) (Θa (υ ŧl))))) (Ωa (pq (Za (Η ϒi ãa) (Xu (Η ϒi ϒi))))) (λC s H d c=>Ď))
abbrev Nw:Ü:=top 55
def Pn:zj Ĝn [ĭ] (zZ Nw):=by ac_rfl
variable(GN:aU P w K mg Ì)
def af:=HD Àj [ĭ] 3 Uj
def y3r(a:zS K Àj Nw):af P w K mg Ì:=(Ÿ).oS P w Ì 2 Uj Pn yQ λb=>(zd (yc (i:=1) Pn.nd rfl Þa Ŷd) (zd (yc (i:=2) Pn.nd rfl Þa Ēl) (Τ ϯl ϩb (Μa (γb (wJ Ĝn ϡb))) Łc (Ι (Xo (t5 (yD Jq b rfl õo)) (zX w6 x_ (B2 ϻ B5 (B6 śc)) (wj (Ηa (yD GN b rfl (zC (zV Ĳ zU ϻ śc) ūn))) Śm)) ϻ)))))
abbrev Na:Ü:=top 62
def y9n:zj [ϣb] [ϣb] (zZ Na):=by ac_rfl
variable(GK:aR P w K mg Ì)
def aS:=HD Şi [ϣb] 3 Qr
def y36(a:zS K Şi Na):aS P w K mg Ì:=(Ÿ).oS P w Ì 2 Qr y9n yQ λb=>(zd (Ηc (Vn (Τa (O0 .tuple rfl rfl Zg Vv E5 Ϡa)) (Tr (yG ïd k9 Ėf Ϩa Ž))) (yg q_)) (Δ (Iz (yD GK b rfl öo) (Vi (yD VA b rfl (zC Īc šl))))))
abbrev NU:Ü:=top 67
def y9i:zj [Åd] [Åd] (zZ NU):=by ac_rfl
variable(Jm:aC P w K mg Ì)
def aP:=HD þi [Åd] 3 WU
def y2z(a:zS K þi NU):aP P w K mg Ì:=(Ÿ).oS P w Ì 2 WU y9i yQ λd=>(Τ Ϩe ïn (Εb (wJ ēi [ýa])) ķc (Ρ (yD Jm d rfl (Φa øo))))
abbrev NT:Ü:=top 76
def nH:zj [ůa,ěa,ŋd] Ŋ (zZ NT):=by ac_rfl
variable(VB:ah P w K mg Ì)(Go:b9 P w K mg Ì)
def aO:HT:=λP w K mg Ì=>wX P w K mg Ì ćc Ŋ 3 (xX K gU)
def y2y(a:zS K ćc NT):aO P w K mg Ì:=(Ţ).oM P w Ì 2 gU nH uB λb=>(xo (qR (i:=2) nH.nd rfl â Ò (ZR (yD Go b rfl (Ζe (zC ĭc (Γ (zV Ĳ zU (vH Ğ qL) zo))))))) (xo (Ιb (wY ãd)) (xo (θb (v4 ãd qQ)) (wV (XY (VN (yG ïd k9 Ĭe ãa Ž)) (θ (wY ãd)) XZ)))))
abbrev NG:Ü:=top 79
def nG:zj [ůa,ěa,Įa] Ŋ (zZ NG):=by ac_rfl
variable(GM:Dq P w K mg Ì)
def aG:HT:=λP w K mg Ì=>wX P w K mg Ì Ĝd Ŋ 3 (xX K X4)
def y2o(a:zS K Ĝd NG):aG P w K mg Ì:=(Ţ).oM P w Ì 2 X4 nG uB λb=>(xo (qR (i:=2) nG.nd rfl â Ò (ZR (yD GM b rfl (Ζe (Γ (zV Ĳ zU (vH Ğ wN) ıb)))))) (xo (θb (v4 ţ qQ)) (θ åj)))
abbrev NM:Ü:=top 81
def Pj:zj [ůa,ěa,Įa,ŋd] Ŋ (zZ NM):=by ac_rfl
variable(Ge:ak P w K mg Ì)(Gf:am P w K mg Ì)
def aK:HT:=λP w K mg Ì=>wX P w K mg Ì Ąe Ŋ 3 (xX K WT)
def y2t(a:zS K Ąe NM):aK P w K mg Ì:=(Ţ).oM P w Ì 2 WT Pj uB λb=>(xo (qR (i:=2) Pj.nd rfl â Ò (ZR ĭc)) (xo (qR (i:=3) Pj.nd rfl â Ò (wY (Xo (Η Ĭe ãa) (yD Ge b rfl Ūn) (yD Gf b rfl Ūn)))) (xo (XY (VN (yG y55 y42 (zM âd) (zM kH) Ž)) (wV (Ιb (wY âd))) XZ) (xo (θb (v4 âd qQ)) (θ (wY âd))))))
abbrev N8:Ü:=top 82
def y95:zj Ŋ Ŋ (zZ N8):=by ac_rfl
def aB:=HD Çi Ŋ 3 X1
def y2g(a:zS K Çi N8):aB P w K mg Ì:=(Ţ).oS P w Ì 2 X1 y95 yQ λb=>(Δ (yD Jm b rfl (zC ĭc Ŭh)))
abbrev Nm:Ü:=top 103
def Vh:zj [Ϸ,Ìb,ód,Ëi,Ëd,ŕc,ϵd,ϝa,ϔa] ĝn (zZ Nm):=by ac_rfl
variable(uy:aW P w K mg Ì)(GQ:Ds P w K mg Ì)(GV:ac P w K mg Ì)
def aZ:=HD Ģh ĝn 3 Uh
def y3i(a:zS K Ģh Nm):aZ P w K mg Ì:=(Ęb).oS P w Ì 2 Uh Vh yQ λb=>(zd (yc (i:=3) šd rfl â (zX xO xN äp (zX w6 x_ ţ zE))) (zd (yc (i:=4) šd rfl Þa (yD GQ b rfl (zC ϐm (Γ ϒd)))) (zd (yc (i:=5) šd rfl Þa (Εa (Μc ùo) (Μ ϐm))) (zd (oK (i:=6) rfl šd rfl rfl Æf rfl ϛm (ξ (θc (wJ [Ϸ,Ìb,ód,Ëi,Ëd,ŕc,ϵd,ϝa,Þe] [ϝa]))) Łc (Ι (yD GV b rfl (zC (Κa (Ηa (zX w6 x_ Îd ĭg))) (zC âa ôo))))) (zd (qU (i:=8) šd rfl â Òc) (Χ (kK rfl uA ϒd) (Υ (yz (i:=7) šd rfl Þa)) (δa (pq (Vn (Δc (Ψb (vt rfl (vE (own:=[śf]) rfl) (vv ąa) (ξ (θc (wJ [Ϸ,Ìb,ód,Ëi,"_law_names_here",ŕc,ϵd,ϝa,Þe] [śf]))) (Ωa (Η (zM (zV Ĳ zU ĭg śc)) (zM ϩl))) (Ι ĭg)))) (Tr (Η (zM (Ωb (Κa (Ηa (zX w6 x_ Ď zE))))) áj)))) (zc (gF (qv 8) (Ιc (Γ ϩl)))) (ym (yG Xf g7 áj Ōb Ž) (zc (gF (qv 8) (zV Ĳ zU ąa şb))) xH)) (kL 8)))))))
abbrev Nn:Ü:=top 106
def M_:zj ĳl ϔf (zZ Nn):=by ac_rfl
def ab:=HD Ķh ϔf 3 WZ
def y3j(a:zS K Ķh Nn):ab P w K mg Ì:=(Ţ).oS P w Ì 2 WZ M_ yQ λb=>(zd (qU (i:=2) M_.nd rfl â Òc) (Χ ïn (Υ (yz (i:=3) M_.nd rfl â)) (zd (yc (i:=4) M_.nd rfl â (Κa (Γ (zX w6 x_ Ď ϻ)))) (zc (gF ļd (Εa (yO (wB (zC Ϝf (zC Ϝf (zC Ģm (Γ Ïe)))) Ϯd)) Ϝf)))) žj))
abbrev Ni:Ü:=top 107
def Mx:zj ĳl ϔf (zZ Ni):=by ac_rfl
def aX:=HD Ϛh ϔf 3 WY
def y3e(a:zS K Ϛh Ni):aX P w K mg Ì:=(Ţ).oS P w Ì 2 WY Mx yQ λb=>(zd (qU (i:=2) Mx.nd rfl Þa Ti) (zd (gH Èb rfl (ζa (Μ äp)) (Υ (yz (i:=3) Mx.nd rfl â)) (zd (yc (i:=4) Mx.nd rfl â (Κa (Γ (zX w6 x_ Îd ϻ)))) (zc (Tn ŏa ļd (Εa (yO (wB (zC Ïe (zC Ïe (Γ Ģm))) üd)) Ϝf) Ïe)))) (To 2 (Φ (x0r (x0p rfl (vE (own:=Œm) rfl) (x10 (i:=2) rfl (by first|show Or.inl rfl|show Ħg â|show Ħg Þa)) (ηc (wJ [Ϸ,Ìb,řc,ϝa,Ĺm] Œm)) Łc (Ι (ν (zC Źa (Ηa (zV Ĳ zU ıa Źa)))))) (z3s (z3r 2)))))))
abbrev Nq:Ü:=top 108
def Pl:zj [Äl,ĳb,"_law_some",ϝa] ϭo (zZ Nq):=by ac_rfl
variable(RZ:ji P w K mg Ì à Ñb [Œ] 1 Đp)(RX:ji P w K mg Ì à Ľd [Œ] 1 Ēp)(RY:ji P w K mg Ì à ęb [Œ] 2 đp)(Vt:ji P w K mg Ì à Ŕb [Œ] 1 ďp)
def Dv:=HD Āi ϭo 3 Zv
def y3m(a:zS K Āi Nq):Dv P w K mg Ì:=(Ţ).oS P w Ì 2 Zv Pl yQ λb=>(zd (qU (i:=2) Pl.nd rfl â (wB (zC kH (zC kH (zC kH (zC kH zN)))) Ϯd)) (Χ (vv (Εa (yO (wB (zC (Νb (Ip (is:=Ãp) rfl)) (zC (Νb (Ip (is:=Àp) rfl)) (zC (Νb (Ip (is:=Áp) rfl)) (Γ (Νb (Ip (is:=Âp) rfl)))))) Ϯd)) (zX xO xN Ď zE))) (Υ (yz (i:=3) Pl.nd rfl â)) (zc (ym Ϯh (Λb (Th RZ b Ğ)) (zc (ym Ϯh (Λb (Th RX b Ğ)) (zc (ym Ϯh (Λb (Th RY b Ğ)) (Λb (Th Vt b Ğ)))))))) žj))
abbrev Nr:Ü:=top 111
def Iu:zj [ϔa,Ϸ,Ìb,Ëd,řc,ϝa,ĳb] Ěn (zZ Nr):=by ac_rfl
def ae:=HD ϗh Ěn 3 Qv
def y3n(a:zS K ϗh Nr):ae P w K mg Ì:=(Ęb).oS P w Ì 2 Qv Iu yQ λb=>(zd (oK (i:=3) rfl ŋg rfl rfl Ļl rfl ϩb (ξ (Ι (ςc (wJ [Þe,Ϸ,Ìb,Ëd,řc,ϝa,Ĺm] [ēf])))) (Ωa (Η (οa şb) ãa)) (Ι (zV Ĳ zU şb zE))) (zd (qU (i:=4) ŋg rfl â Òc) (Χ (ζa (ς (zM Ğ))) (Υ (yz (i:=5) ŋg rfl â)) (zd (yc (i:=6) ŋg rfl â (yD uy b rfl (Οc (zX w6 x_ ıa Źa)))) (zc (ym (pq (Vn (Η (οa Ϫl) (zM zo)) (Vn (yG Xf g7 (zM ϛf) Ϩa Ž) (Tr (Η Ōb Íh))))) (zc (gF ţe Ϫl)) (zc (ym (Η (zM ϛf) Ϩa) (zc (gF ţe (Ιc (Γ (zV Ĳ zU ϻ (zX xO xN (zX uX uW ąa zE) õp)))))) (zc (gF ţe (wj (zC zo (zC ãp (Γ ãp))) üd)))))))) Ĺg)))
abbrev PU:Ü:=top 39
def nO:zj Ϸo [ĭ] (zZ PU):=by ac_rfl
variable(VD:bB P w K mg Ì)(Gw:F5 P w K mg Ì)
def bE:=HD Śi [ĭ] 4 XB
def y4k(a:zS K Śi PU):bE P w K mg Ì:=(Ÿ).oS P w Ì 3 XB nO yQ λb=>(zd (yc (i:=1) nO.nd rfl Þa Ŷd) (Τ ϰl Ōk (Οb (Ι (ψ (υ (wJ [ěd,ąc] Ãf)) (Θa (γb (wJ Ϸo Ãf)))))) Łc (Ι (yD Gw b rfl (zC (zV Ĳ zU Ď ıa) (zC ıa õo))))))
abbrev PN:Ü:=top 48
def x02:zj [ĭ] [ĭ] (zZ PN):=by ac_rfl
def bC:=HD Ġh [ĭ] 4 XA
def y4h(a:zS K Ġh PN):bC P w K mg Ì:=(Ÿ).oS P w Ì 3 XA x02 yQ λd=>(Τ ϰl (O2 rfl kT (yO (vI VD d rfl Ńa))) (Οb (Ρ (ψ (ο ãn) (Θa (υ ãn))))) (Υb (yG (yl (yR d)) yk (zM ıa) (zM Îd) Ž)) ĕh)
abbrev NB:Ü:=top 61
def Pi:zj [ęb,ða,"pair"] [ęb] (zZ NB):=by ac_rfl
variable(GL:aS P w K mg Ì)
def aD:=HD Åi [ęb] 4 WS
def y2k(a:zS K Åi NB):aD P w K mg Ì:=(Ÿ).oS P w Ì 3 WS Pi yQ λb=>(zd (qU (i:=1) Pi.nd rfl â Ti) (Γa ϻk (zc ſj) (ym Ĝk O8 xH) (Χ ϩb (Υ (yz (i:=2) Pi.nd rfl â)) (zd (Φb (Τa (yD GL b rfl ŵc))) (zd (Φb (yG ĉe pX (zM ãd) (Tc 1) ϐa)) (zc (Tn ŏa Ķg ãd ãd)))) ſj)))
abbrev Pb:Ü:=top 68
def x04:zj ųc ųc (zZ Pb):=by ac_rfl
variable(G_:F7 P w K mg Ì)(Jp:aP P w K mg Ì)(Jn:Dj P w K mg Ì)
def bG:=HD Ři ųc 4 J1
def y4n(a:zS K Ři Pb):bG P w K mg Ì:=(Ţ).oS P w Ì 3 J1 x04 yQ λb=>(Δ (yD G_ b rfl (Ηa (yO (vt rfl (vE (own:=[ŝd]) rfl) (vv ēl) (Μa (υ (wJ ųc [ŝd]))) Łc (Ι (yD Jn b rfl (zC Ğ ĝf))))))))
abbrev PD:Ü:=top 70
def Pp:zj [ða,Åd,Įa,ŝd,"byte"] Õe (zZ PD):=by ac_rfl
variable(Ju:az P w K mg Ì)(G8:aE P w K mg Ì)
def a_:HT:=λP w K mg Ì=>wX P w K mg Ì Īi Õe 4 (xX K Qz)
def y49(a:zS K Īi PD):a_ P w K mg Ì:=(Ęb).oM P w Ì 3 Qz Pp uB λb=>(wV (y08 Èb rfl (nu rfl OH ēl (yD G8 b rfl ŵc)) (y02 (ψ (yz (i:=3) Pp.nd rfl â) (Θa (yz (i:=4) Pp.nd rfl â))) rfl rfl Ò Ò) (Υa (YK Ju b rfl (gz ϡ (v4 ϻ Ĝi))))))
abbrev NK:Ü:=top 83
def y9c:zj Ŋ Ŋ (zZ NK):=by ac_rfl
variable(YE:aB P w K mg Ì)
def aI:HT:=λP w K mg Ì=>wX P w K mg Ì ŷf Ŋ 4 (xX K Qk)
def y2r(a:zS K ŷf NK):aI P w K mg Ì:=(Ţ).oM P w Ì 3 Qk y9c uB λb=>(θ (ZR (yD Jn b rfl Ϻk)))
abbrev NQ:Ü:=top 85
def y9g:zj Ŋ Ŋ (zZ NQ):=by ac_rfl
def aM:HT:=λP w K mg Ì=>wX P w K mg Ì Ŕf Ŋ 4 (xX K Qn)
def y2w(a:zS K Ŕf NQ):aM P w K mg Ì:=(Ţ).oM P w Ì 3 Qn y9g uB λb=>(Υa (YK Ju b rfl ĸk))
abbrev PK:Ü:=top 96
def Ix:zj [ĭ,ąc,ōa,ýa,"target"] [ĭ] (zZ PK):=by ac_rfl
def bA:=HD Őh [ĭ] 4 Q_
def y4e(a:zS K Őh PK):bA P w K mg Ì:=(Ÿ).oS P w Ì 3 Q_ Ix yQ λb=>(zd (yc (i:=1) ňg rfl â Ŷd) (zd (qU (i:=2) ňg rfl â Ti) (Χ Ōk (x0v (ψ (yz (i:=3) ňg rfl â) (Θa (yz (i:=4) ňg rfl â))) rfl rfl) (zc (Tn ŏa ļd ϻ (wj (zC (zV Ĳ zU Ď ϻ) (zC ϒd ôp)) üd))) žj)))
abbrev P4:Ü:=top 38
def y9w:zj ϊi ϊi (zZ P4):=by ac_rfl
variable(YF:bE P w K mg Ì)
def aq:=HD úi ϊi 5 Uk
def y41(a:zS K úi P4):aq P w K mg Ì:=(Ţ).oS P w Ì 4 Uk y9w yQ λb=>(Δ (zV Ĳ zU îf Ď))
abbrev PF:Ü:=top 41
def Iw:zj [ĭ,Ēg,"found",þb,ýa] [ĭ] (zZ PF):=by ac_rfl
def b7:=HD Ŝi [ĭ] 5 Z8
def y4a(a:zS K Ŝi PF):b7 P w K mg Ì:=(Ÿ).oS P w Ì 4 Z8 Iw yQ λb=>(zd (yc (i:=1) ŉg rfl â îf) (zd (qU (i:=2) ŉg rfl â Ti) (zd (qU (i:=3) ŉg rfl â ìi) (zd (R7 Èb (Δc (Tc 3)) (zd (oN (i:=3) (j:=4) Źj ŉg rfl â) (zc (ym (pq (Za (yG Xf g7 âj (zM ϕi) Ž) (Xu (yG òj IR âj (Tc 2) ϐa)))) (zd (Tn ŏa ļd âa q_) (zc (oJ Źj (zV Ĳ zU Ď âa)))) xH)))) (To 3 (To 2 (Φ (x0s rfl rfl Yg ŵc))))))))
abbrev P3:Ü:=top 43
def Xn:zj [ĭ,ąc,Ēg,"comers",ŋd,þb,ýa,Ăj] [ĭ] (zZ P3):=by ac_rfl
variable(G9:Dk P w K mg Ì)(Gv:bD P w K mg Ì)(Js:F0 P w K mg Ì)(VC:aw P w K mg Ì)
def ao:=HD ąj [ĭ] 5 X7
def y40(a:zS K ąj P3):ao P w K mg Ì:=(Ÿ).oS P w Ì 4 X7 Xn yQ λb=>(zd (yc (i:=1) Ϫc rfl â Ŷd) (zd (yc (i:=2) Ϫc rfl â îf) (zd (yc (i:=3) Ϫc rfl â (yD G9 b rfl ŵc)) (zd (qU (i:=4) Ϫc rfl â (x0n (yO (ng ìi ϕi)) (yO (wB (Γ çn) Ÿd)))) (zd (qU (i:=5) Ϫc rfl â (x0q rfl rfl gL rfl uA (Γ ϕi))) (zd (R7 Èb (Δc (Tc 5)) (zd (oN (i:=5) (j:=6) (qv 5) Ϫc rfl â) (zd (yc (i:=7) Ϫc rfl â (zX kC tN (yD Gv b rfl Íl) (zX TY tN (x08 Js b rfl (uG (Tc 4) (Ξb (zV Ĳ zU ţ ąa)))) (YU rL rJ (yD VC b rfl Íl))))) (zc (ym (yG ïd k9 áj (zM (x0c ŏa ţe ąa)) Ž) (zd (O9 ţe ąa şb) (zc (oJ (qv 5) (zV Ĳ zU ϻ ąa)))) xH))))) (To 5 (zc Ĺg))))))))
abbrev NL:Ü:=top 84
def y9d:zj Ŋ Ŋ (zZ NL):=by ac_rfl
variable(Gz:bG P w K mg Ì)
def aJ:HT:=λP w K mg Ì=>wX P w K mg Ì ŕf Ŋ 5 (xX K Ql)
def y2s(a:zS K ŕf NL):aJ P w K mg Ì:=(Ţ).oM P w Ì 4 Ql y9d uB λb=>(θ (ZR (yD Gz b rfl Ϻk)))
abbrev NR:Ü:=top 86
def y9h:zj Ŋ Ŋ (zZ NR):=by ac_rfl
variable(Gm:a_ P w K mg Ì)
def aN:HT:=λP w K mg Ì=>wX P w K mg Ì ŀf Ŋ 5 (xX K Qo)
def y2x(a:zS K ŀf NR):aN P w K mg Ì:=(Ţ).oM P w Ì 4 Qo y9h uB λb=>(Υa (YK Gm b rfl ĸk))
abbrev Ky:Ü:=ZI Čc 0
def y8y:zj Ŭd Ŭd (zZ Ky):=by ac_rfl
variable(RW:ji P w K mg Ì à Ľe [Œ] 3 ĉp)(HA:bI P w K mg Ì)(G7:aD P w K mg Ì)
def y25{f:Ë}{b:Ń}(d:vV K éb Ïm Ky f b):xP P w K mg Ì xK 5 f b Ŭd ċp:=d.oM P w mg Ì 4 UV y8y uB λa=>(xo (k7 ϡ Wq (wY Ď)) (xo (k7 ϡ JH åj) (xo (k7 ϡ JJ (θa (vI HA a rfl ϔi))) (xo (k7 ϡ JI (θa (vI G7 a rfl ôp))) (Υa (f_ RW a ϡ))))))
abbrev P6:Ü:=top 47
def nK:zj [ĭ,"there"] [ĭ] (zZ P6):=by ac_rfl
variable(Jv:b7 P w K mg Ì)
def av:=HD ϕh [ĭ] 6 X9
def y44(a:zS K ϕh P6):av P w K mg Ì:=(Ÿ).oS P w Ì 5 X9 nK yQ λd=>(zd (yc (i:=1) nK.nd rfl Þa (Αe (vv (yD Jv d rfl (zC Ğ zN))) (ξ (Βa ŵk)) (Βa (ν (zC ıa Ĕd))))) (Τ Ϩe (ζa (ς (Ψb (vI tZ d rfl Ńa)))) (ξ (Ρ ŵk)) (Υb (yG ċo IR (zM ıa) ęd ϐa)) (Ρ ıa)))
abbrev P5:Ü:=top 50
def B1:zj ϩg [ĭ] (zZ P5):=by ac_rfl
variable(Jt:ao P w K mg Ì)
def au:=HD Âi [ĭ] 6 X8
def y43(a:zS K Âi P5):au P w K mg Ì:=(Ÿ).oS P w Ì 5 X8 B1 yQ λb=>(zd (yc (i:=1) B1.nd rfl Þa đl) (zd (yc (i:=2) B1.nd rfl Þa îf) (zd (x1x (i:=3) B1.nd rfl Þa (yO (vt rfl ļl (vv Ŷd) (νc (wJ ϩg [ěa])) Łc (Ι (yD VC b rfl (zC âa zN)))))) (Τ Ϩe (ζa õp) (νc (wJ ϩg [ýa])) (Ωa (pq (Za (Βe (zM ďl)) (Xu (Η (zM (zX TY tN ďl (yD Js b rfl (Ζa (Ηa (zV Ĳ zU ıa (z8 4))))))) Ϩa))))) (Ι (z8 4))))))
abbrev NO:Ü:=top 88
def y9e:zj Ŋ Ŋ (zZ NO):=by ac_rfl
variable(Lp:vB mg "DEEDS" ĳp)(LY:XC K w mg UK jI ci)(GG:Dm P w K mg Ì)(GC:aH P w K mg Ì)(GB:Dl P w K mg Ì)(V8:aO P w K mg Ì)(Jo:aG P w K mg Ì)(Lx:aK P w K mg Ì)(GD:aI P w K mg Ì)(GE:aJ P w K mg Ì)(GH:aM P w K mg Ì)(GI:aN P w K mg Ì)
def aL:HT:=λP w K mg Ì=>wX P w K mg Ì Âj Ŋ 6 (xX K jg)
def y2u(a:zS K Âj NO):aL P w K mg Ì:=(Ţ).oM P w Ì 5 jg y9e uB λb=>(wV (XY (VN (x1z Lp LY rfl ıb)) (Υa (z9x Lp LY rfl (ęa GG Ò (ęa GC Ò (ęa GB Ò (ęa V8 Ò (ęa V8 Ò (ęa V8 Ò (ęa V8 Ò (ęa V8 Ò (ęa Jo Ò (ęa Jo Ò (ęa Jo Ò (ęa Lx Ò (ęa Lx Ò (ęa GD Ò (ęa GE Ò (ęa GH Ò (ęa GI Ò vn.nil))))))))))))))))) b ıb (gz ϡ (v4 Ď qQ)))) XZ))
abbrev N5:Ü:=ZI (top 95) 0
def nE:zj [Œ,ĭ,Ñb,ęb,ōa] ëf (zZ N5):=by ac_rfl
variable(Rc:Ov P w K mg Ì Ŷo éb Ŭd 5 ċp)(Gp:bA P w K mg Ì)
def y2d{f:Ë}{a:Ń}(d:vV K éb Ħl N5 f a):xP P w K mg Ì xK 6 f a ëf Ĉp:=d.oM P w mg Ì 5 Z6 nE uB λb=>(xo (qR (i:=4) nE.nd rfl â Ò (θa (vI Gp b rfl ŵb))) (Υa (z9w (pl:=_) Rc b rfl (gz ϡ (v4 âa (v4 (tP z2k y3s rfl wp qM (uG âj uY)) (v4 ţ (v4 ϻ qQ))))))))
abbrev NV:Ü:=top 52
def Pk:zj [ĭ,ŭm,"told_by"] [ĭ] (zZ NV):=by ac_rfl
variable(Ej:vB mg Ìi ϰi)(RH:FU K mg WL Èk)(Gj:av P w K mg Ì)(Gu:bC P w K mg Ì)(GA:aF P w K mg Ì)(Gi:au P w K mg Ì)
def aQ:=HD œj [ĭ] 7 Qp
def y30(a:zS K œj NV):aQ P w K mg Ì:=(Ÿ).oS P w Ì 6 Qp Pk yQ λb=>(zd (qU (i:=1) Pk.nd rfl â Òc) (zd (x1v Èb rfl Ej rfl RH (óg Gj (óg Gu (óg GA (óg Gi ZB.nil)))) b (yz (i:=2) Pk.nd rfl â) rfl ļd Ķg Ńa rfl) (To 1 (Φ (ni rfl rfl Yg rfl OG ŵb)))))
abbrev N4:Ü:=ZI Čc 3
def nD:zj [Œ,ŋd] [Œ] (zZ N4):=by ac_rfl
variable(GF:aL P w K mg Ì)(GZ:Dx P w K mg Ì)
def y2c{f:Ë}{b:Ń}(d:vV K ŏe ϻm N4 f b):xP P w K mg Ì xK 7 f b [Œ] ćp:=d.oM P w mg Ì 6 j8 nD uB λa=>(xo (Τb (VN (t5 (Th Vt a Ğ)))) (xo (qR (i:=1) nD.nd rfl â Ò (ZR Ďk)) (xo (ZS (YK GF a rfl (gz (tf ϡ jq) (v4 Ϫe qQ)))) (xo (k7 ϡ Z_ (ZR (Xo (t5 (yD GZ a rfl (zC ōf (Γ Ϫe)))) Ϫe Ϫe))) (xo (y07 ϡ JG zE) Ôk)))))
abbrev N2:Ü:=ZI Čc 4
def Ph:zj [Œ,"most",ćj] ĳf (zZ N2):=by ac_rfl
variable(Ra:ji P w K mg Ì à ŏe [Œ] 7 ćp)
def y2a{f:Ë}{a:Ń}(d:vV K ϥc ăn N2 f a):xP P w K mg Ì xK 8 f a ĳf Ćp:=d.oM P w mg Ì 7 pI Ph uB λb=>(xo (qR (i:=2) Ph.nd rfl â Ò ľj) (xo (y09 Èb (y0h (y0f (VN (yG Xf g7 ãj ęd Ž)) (y0g (i5 (f_ Ra b ϡ))))) (wV (y06 (i:=2) HF KB Ph.nd rfl â Ò zE))) (wV (Xa åj))))
abbrev Nk:Ü:=top 110
def Te:zj [ϔa,Ēf,ϵd,ĸm,řc,ϙh,śf] ϳo (zZ Nk):=by ac_rfl
variable(GW:Du P w K mg Ì)(GJ:aQ P w K mg Ì)(GS:Dt P w K mg Ì)(Gh:aq P w K mg Ì)
def aY:=HD ůh ϳo 8 Ue
def y3g(a:zS K ůh Nk):aY P w K mg Ì:=(Ţ).oS P w Ì 7 Ue Te yQ λb=>(zd (yc (i:=2) Ųe rfl â (yO (vI GW b rfl Ńa))) (zd (yc (i:=3) Ųe rfl Þa đl) (zd (qU (i:=4) Ųe rfl â Òc) (zd (gH Èb rfl (vv (yO (vI GJ b rfl Ńa))) (Υ (yz (i:=5) Ųe rfl â)) (zd (yc (i:=6) Ųe rfl Þa (zV Ĳ zU ţ Źa)) (zd (νb (Xu (yG òj IR (zM Źa) (zM (yD Jv b rfl Ńa)) ϐa))) (zd (νb (Za (yG ĉe pX ďe (zM (wj ϻg üd)) ϐa) (Xu (Η (zM (yD GS b rfl (Φa (Ηa (zV Ĳ zU ąa śc))))) (zM (zX w6 x_ Źa zE)))))) (zd (νb (Za (Η ďe ãa) (Xu (Η ďe ďe)))) (zc (Ηc (Za ťg (Xu (yG òj IR ďe (zM (wj Řg (yN ϴg Ò))) ϐa))) (ym (Η (Ψb (vt rfl Æf (vv (yD Gh b rfl (Φa ôo))) (ξ (λC s H d c=>(ςc (wJ [Þe,Ēf,ϵd,ĸm,řc,ϙh,śf] [ϝa])))) (Ωa (yG iZ g7 (zM (zX TY tN (zV Ĳ zU ϻ şb) (yD VC b rfl (zC ąa zN)))) Ϩa Ž)) (λC s H d c=>şb))) Íh) ϙe xH)))))))) (zc Ĺg)))))
abbrev Ng:Ü:=top 109
def Vg:zj [ϔa,"_law_other",Ϸ,Ìb,ód,"_law_registers_here","_law_memory_here","_law_long","_law_brief","_law_steps",ĳb] Űk (zZ Ng):=by ac_rfl
variable(M9:Ow P w K mg Ì à ëf 6 Ĉp)(BS:ji P w K mg Ì à ϥc ĳf 8 Ćp)(GU:ab P w K mg Ì)(GP:aX P w K mg Ì)(Lz:Dv P w K mg Ì)
def aV:HT:=λP w K mg Ì=>wX P w K mg Ì Îh Űk 9 (xX K X6)
def y3c(a:zS K Îh Ng):aV P w K mg Ì:=(a.d5 X G).oM P w Ì 8 X6 Vg uB λb=>(xo (qR (i:=5) Ţd rfl â Ò (θa (vI GU b rfl (zC ţ ϔi)))) (xo (qR (i:=6) Ţd rfl â Ò (θa (vI GP b rfl èm))) (xo (qR (i:=7) Ţd rfl â Ò (Hr M9 b rfl (v4 Ğ ūl))) (xo (qR (i:=8) Ţd rfl â Ò (Hr M9 b rfl (v4 Ď ūl))) (xo (qR (i:=9) Ţd rfl â Ò (fq BS b (xf 7) Ĝi)) (xo (Τb (VN (Τa (Th Vt b şb)))) (xo (Τb (y0a iZ g7 (fq BS b (xf 8) Ĝi) (wY ĭg) Ž)) (xo (qR (i:=10) Ţd rfl â Ò (wY (yD uy b rfl èm))) (wV (Xa (ZR (ε (Δe (zC şb (Γ (z8 10)))) (Δe (zC (z8 8) (Γ (zX uX uW (z8 10) zE))))))))))))))))
abbrev Vf:Ü:=top 112
def Mw:zj [Ϸ,ϔa,Ēf] [Ϸ] (zZ Vf):=by ac_rfl
variable(Ly:aV P w K mg Ì)(GT:aZ P w K mg Ì)(GX:ae P w K mg Ì)(Gc:af P w K mg Ì)(Gy:bF P w K mg Ì)(GR:aY P w K mg Ì)
def y3a{f:Ë}{c:Ń}(d:Fun K ÿb ÿb Vf f c):xP P w K mg Ì xK 10 f c [Ϸ] ϑj:=z94 d Mw Ò uB y8p λe A b s H E a=>(xo (Δd (yO (vI GT a rfl (Φa ùo)))) (xo (XY (VN (yG Ìm yk (zM Ŗk) Ϩa Ž)) (wV (Δd (yD GX a rfl (Ζa (zC Ğ æc))))) XZ) (xo (qR (i:=2) Mw.nd rfl â Ò (wY Ŗk)) (xo (Τb (y0d (i5 (Θd (yO (vI Gc a rfl ŵb)))))) (wV (Xa (Θd (yD Gy a rfl (Οc (yO (vI GR a rfl ūn)))))))))))
#print a
#print a
def all_mk{l:ŵi}{w:æ}{K:Ô}{h:Heap}{a:Ç->É Value}(X:ŵ h)(G:ğa Ę a)(hfa:a ÿb=À (.ref fa))(a0:zS K ýi NZ)(a1:zS K Ĉj N7)(a2:zS K Ąj PL)(a3:zS K Œj P8)(a4:zS K øi PZ)(a5:zS K ŗi Pc)(a6:zS K įi NY)(a7:zS K şi NX)(a8:zS K ĭi Ny)(a9:zS K ġh P0)(a10:zS K ùi PR)(a11:zS K ûi P1)(a12:zS K ÿi ND)(a13:zS K Įi Nv)(a14:zS K Ĭi P7)(a15:zS K Ši NA)(a16:J7 K Ļ ĺm N6 ÿd)(a17:tT K ϱf NP C)(a18:tT K Źf NH J)(a19:zS K Áj Nb)(a20:zS K Ćj Nu)(a21:ZC K à à Ŕb ļm N3 [Œ])(a22:ZC K à à Ñb ύl N1 [Œ])(a23:ZC K à à Ľd Ům K_ [Œ])(a24:zS K Űh Nf)(a25:zS K Èi Nt)(a26:zS K Êi Nj)(a27:zS K āi Np)(a28:zS K Éi Nl)(a29:zS K Ãi Nz)(a30:zS K ϖh N_)(a31:zS K İi NC)(a32:zS K śi PH)(a33:zS K Ůh Nc)(a34:zS K őj PQ)(a35:zS K "put" P9)(a36:zS K ři Pa)(a37:zS K üi Nd)(a38:zS K Äi NW)(a39:zS K Æi N9)(a40:zS K īi PB)(a41:tT K Ÿf NJ O)(a42:zS K ϻi PJ)(a43:zS K ŝi Nx)(a44:zS K Ài Pd)(a45:ZC K à à ęb Ľm N0 [Œ])(a46:zS K Ăi Nh)(a47:zS K Ϙh No)(a48:ZC K à à Ľe ům Kz [Œ])(a49:zS K Ái PM)(a50:tT K ćh NE r)(a51:zS K Àj Nw)(a52:zS K Şi Na)(a53:zS K þi NU)(d:tT K ćc NT b)(m:tT K Ĝd NG c)(L:tT K Ąe NM j)(a57:zS K Çi N8)(a58:zS K Ģh Nm)(a59:zS K Ķh Nn)(a60:zS K Ϛh Ni)(a61:zS K Āi Nq)(a62:zS K ϗh Nr)(a63:zS K Śi PU)(a64:tT K Ġh PN q)(a65:zS K Åi NB)(a66:zS K Ři Pb)(a67:zS K Īi PD)(U:tT K ŷf NK N)(T:tT K Ŕf NQ F)(a70:zS K Őh PK)(a71:zS K úi P4)(a72:zS K Ŝi PF)(a73:zS K ąj P3)(a74:tT K ŕf NL B)(a75:tT K ŀf NR E)(a76:Ot K Ŷo éb Ïm Ky Ŭd)(a77:tT K ϕh P6 o)(Y:tT K Âi P5 p)(a79:zS K Âj NO)(a80:J7 K à Ħl N5 ëf)(a81:zS K œj NV)(a82:ZC K à à ŏe ϻm N4 [Œ])(a83:ZC K à à ϥc ăn N2 ĳf)(a84:zS K ůh Nk)(a85:zS K Îh Ng)(a86:ϔ K Ę ÿb=À (À ōb))(l86:Ϯ I=Lo ÿb Vf oc86 od86 sl86 z A y t i x)(c86:Ŗb K i ÿb=Ã)(k86:Ôa K ōb=Ã)(y1u:Gn K ōc)(y1t:Gn K ğc)(y1q:Gn K Őe)(y20:Gn K "sum")(y22:Gn K Ķa)(y1z:Gn K Ūa)(y1y:Gn K ŏ)(y1x:Gn K Ŕa)(y1v:Gn K "len")(y1s:Gn K ϊb)(y1w:Gn K Ģ)(y1r:Gn K Ãa)(y21:Gn K ſ)(y1p:Gn K "all")(JG:vL K [à] ϙc)(Z_:vL K [à] þb)(JH:vL K [à] ģb)(JI:vL K [à] ác)(JJ:vL K [à] Ůb)(S:vL K [Ļ] ða)(jq:vL K [à] ůa)(Wq:vL K [à] ōa)(Q:vL K [Ļ] ßb)(f:vL K [Ļ] àb)(y11:Gs K "DEEDS" ĳp)(y1k:Dc K w UK [(ŏ,x3l,.ref C),(ób,x3t,.ref O),(ϰ,x3u,.ref J),(ĸa,x3v,.ref b),(Ċa,x3w,.ref b),(ķa,x3x,.ref b),(ĉa,x3y,.ref b),(ôa,x3z,.ref b),(ϊa,x40,.ref c),(ώa,x41,.ref c),(Àb,x3m,.ref c),(įa,x3n,.ref j),(ĕa,x3o,.ref j),(ŕa,x3p,.ref N),(Ŏa,x3q,.ref B),(ėa,x3r,.ref F),(ēa,x3s,.ref E)])(y0y:Gs K "BEYOND" (.int 4294967296 x38))(y10:Gs K Ϥn Ϯf)(iI:Tq K Å UJ [.int 0 x4s,.int 8 x5b,.int 16 x5k,.int 24 x5s])(y13:Gs K "JUMPS" ϭf)(iJ:Tq K Å UL [.str ća x4t,.str ϧ x5c,.str ϑ x5l])(y18:Gs K ėo (.int 8 x3a))(y17:Gs K "MARKS" Ϧf)(iN:Tq K Å WM [.str ϭ x4x,.str àa x5g,.str åa x5o])(y1d:Gs K Ϡn (.int 32 x3c))(y0x:Gs K Ōn (.int 2047 x37))(y15:Gs K ϣn ϫf)(iL:Tq K Å UN [.str ób x4v,.str įa x5e,.str ĕa x5m,.str ĸa x5t,.str Ċa x5y,.str ķa x63,.str ĉa x68,.str ϊa x6d,.str ώa x6h,.str Àb x6l,.str ôa x51,.str ėa x54,.str ēa x57])(y16:Gs K Ϣn Ϫf)(iM:Tq K Å UO [.str ϰ x4w,.str ŕa x5f,.str Ŏa x5n,.str ĸa x5u,.str Ċa x5z,.str ķa x64,.str ĉa x69,.str ϊa x6e,.str ώa x6i,.str Àb x6m,.str ôa x52,.str ėa x55,.str ēa x58])(y14:Gs K Űm Ϭf)(iK:Tq K Å UM [.str Ċa x4u,.str ĉa x5d])(y1a:Gs K "PUT_D" Ϩf)(iP:Tq K Å UR [.str ŏ x4z,.str ób x5i,.str ϰ x5q,.str ŕa x5w,.str Ŏa x61,.str ĸa x66,.str Ċa x6b,.str ķa x6f,.str ĉa x6j,.str ϊa x6n,.str ώa x53,.str Àb x56,.str įa x59,.str ĕa x5a])(y1b:Gs K ħl ϧf)(iQ:Tq K Å US [.str ĸa x50,.str Ċa x5j,.str ķa x5r,.str ĉa x5x,.str ôa x62,.str ϊa x67,.str ώa x6c,.str Àb x6g,.str įa x6k,.str ĕa x6o])(y19:Gs K ϡn ϩf)(iO:Tq K Å UQ [.str ĸa x4y,.str Ċa x5h,.str ķa x5p,.str ĉa x5v,.str ôa x60,.str įa x65,.str ĕa x6a])(y0w:Gs K Àn (.int 16 x36))(y0z:Gs K ϥn (.int 8 x39))(y1c:Gs K Ļm (.int 8 x3b))(y12:ϔ K Ę Ìi=À (À ϰi))(y1l:Ϯ WL=À {.type ſ,Å,.seq #[.ref o,.ref q,.ref r,.ref p] y0i,x15}): ∃fd:Ń,(∀(s:Î)(v:Value),Ġb s fd {[v],[]} [(Ϸ,v)])/\∀Ì:Heap,ŵ Ì->ŀd Ę a->xP ļ w K a Ì xK 10 fa fd [Ϸ] ϑj:=by
 let e:=hfa.symm.trans (đc X G a86);cases e;let Zg:=pT X G y1u;let OF:=pT X G y1t;let S5:=pT X G y1q;let S6:=pT X G y20;let OH:=pT X G y22;let Yg:=pT X G y1z;let OG:=pT X G y1y;let k:=pT X G y1x;let g:=pT X G y1v;let Z:=pT X G y1s;let gL:=pT X G y1w;let Xw:=pT X G y1r;let Vv:=pT X G y21;let S4:=pT X G y1p;let Lp:=ZH X G y11;let LY:XC K w a UK jI ci:=z3q (fs:=[C,O,J,b,b,b,b,b,c,c,c,j,j,N,B,F,E]) y1k rfl ϵ rfl (.cons (a17.n X G) (.cons (a41.n X G) (.cons (a18.n X G) (.cons Ĕe (.cons Ĕe (.cons Ĕe (.cons Ĕe (.cons Ĕe (.cons Ϫi (.cons Ϫi (.cons Ϫi (.cons īp (.cons īp (.cons (U.n X G) (.cons (a74.n X G) (.cons (T.n X G) (.cons (a75.n X G) .nil)))))))))))))))));let T6:=V5 X G y0y;let TZ:∀H,zY K H Äd Äd:=λ_=>rfl
 let Ji:=ZH X G y10;let x82:=Yd iI;let Ii:∀H,zY K H T7 Ϯf:=Ye iI rfl;let Ek:=ZH X G y13;let x83:=Yd iJ;let KW:∀H,zY K H Lv ϭf:=Ye iJ rfl;let Eo:=V5 X G y18;let Kc:∀H,zY K H ßa ßa:=λ_=>rfl
 let V4:=ZH X G y17;let HM:=Yd iN;let VY:∀H,zY K H T8 Ϧf:=Ye iN rfl;let XT:=V5 X G y1d;let Xj:∀H,zY K H ώb ώb:=λ_=>rfl
 let Jg:=V5 X G y0x;let Ig:∀H,zY K H ŧc ŧc:=λ_=>rfl
 let Em:=ZH X G y15;let x85:=Yd iL;let KZ:∀H,zY K H Ew ϫf:=Ye iL rfl;let En:=ZH X G y16;let x86:=Yd iM;let Kb:∀H,zY K H Ex Ϫf:=Ye iM rfl;let El:=ZH X G y14;let x84:=Yd iK;let KY:∀H,zY K H Ev Ϭf:=Ye iK rfl;let Er:=ZH X G y1a;let x88:=Yd iP;let Ke:∀H,zY K H Ez Ϩf:=Ye iP rfl;let Es:=ZH X G y1b;let x89:=Yd iQ;let Kf:∀H,zY K H E_ ϧf:=Ye iQ rfl;let Ep:=ZH X G y19;let x87:=Yd iO;let Kd:∀H,zY K H Ey ϩf:=Ye iO rfl;let Jf:=V5 X G y0w;let Ie:∀H,zY K H ϥa ϥa:=λ_=>rfl
 let Jh:=V5 X G y0z;let Ih:∀H,zY K H ßa ßa:=λ_=>rfl
 let Lq:=V5 X G y1c;let Mh:∀H,zY K H ßa ßa:=λ_=>rfl
 let Ej:vB a Ìi ϰi:={_,đc X G y12,rfl};let RH:FU K a WL Èk:={[o,q,r,p],λH=>cQ (xs:=[.ref o,.ref q,.ref r,.ref p]) y1l (by exact(4:Â)<=ã;decide) (.cons rfl (.cons rfl (.cons rfl ŏh))) H,by simp only[ľ,àe,a77.n X G,a64.n X G,a50.n X G,Y.n X G]};let F86:=dQ (st:=Vf) l86 c86 k86;show{Ϡc ÿb ÿb (jH Vf) (vf Vf) (zZ Vf) .none z A y t i x,λs v=>.of_eq rfl,λbase _ _=>?_};let VA:Dp ļ w K a Ì:=y35 X G Zg OF S5 a0;let Lw:Di ļ w K a Ì:=y2f X G T6 TZ a1;let Gq:F4 ļ w K a Ì:=y4f X G T6 TZ a2;let R:F3 ļ w K a Ì:=y46 X G a3;let Gx:F6 ļ w K a Ì:=y4l X G a4;let G_:F7 ļ w K a Ì:=y4o X G S6 OH Ji Ii a5;let V9:Do ļ w K a Ì:=y34 X G a6;let Jq:Dn ļ w K a Ì:=y33 X G Ek KW a7;let XU:Dz ļ w K a Ì:=y3u X G Eo Kc V4 VY HM a8;let Gg:D_ ļ w K a Ì:=y3x X G a9;let Gw:F5 ļ w K a Ì:=y4j X G Yg OG a10;let Js:F0 ļ w K a Ì:=y3z X G a11;let G9:Dk ļ w K a Ì:=y2m X G k g Z a12;let Gb:Dy ļ w K a Ì:=y3q X G g a13;let Gk:F2 ļ w K a Ì:=y45 X G Yg a14;let Jn:Dj ļ w K a Ì:=y2j X G a15;let HN:=a16.hh X G ļ w Ì (y2e V4 VY gL Xw f Q S);let GG:Dm ļ w K a Ì:=y2v X G f a17.2;let GB:Dl ļ w K a Ì:=y2p X G f a18.2;let GM:Dq ļ w K a Ì:=y37 X G a19;let GZ:Dx ļ w K a Ì:=y3p X G Q a20;let Vt:=(a21.hh ļ w a Ì (y2b Z_ Wq JH)).1;let RZ:=(a22.hh ļ w a Ì (y29 gL f jq)).1;let RX:=(a23.hh ļ w a Ì (y27 V4 VY Q jq Vv)).1;let GO:Dr ļ w K a Ì:=y3b X G g a24;let GY:Dw ļ w K a Ì:=y3o X G a25;let GQ:Ds ļ w K a Ì:=y3f X G k a26;let GW:Du ļ w K a Ì:=y3l X G a27;let GS:Dt ļ w K a Ì:=y3h X G OF a28;let Ge:=y3v X G XT Xj R a29;let Gf:=y3w X G R a30;let G8:=y2l X G Ji Ii Vv R a31;let u:=y4b X G V9 a32;let Jr:=y38 X G V9 a33;let Gv:=y4i X G Jg Ig Em KZ En Kb El KY XU a34;let VC:=y47 X G XU Er Ke Es Kf Ep Kd Gg a35;let Gy:=y4m X G Xw V9 a36;let GN:=y39 X G Gb a37;let GK:=y32 X G Jf Ie VA a38;let Jm:=y2h X G R Jf Ie a39;let Ju:=y48 X G R Jh Ih a40;let GC:=y2q X G f Gx a41.2;let Go:=y4d X G Lw Gq a42;let VB:=y3t X G Q XT Xj R a43;let HA:=y4p X G Zg g gL XT Xj VA S4 Lq Mh a44;let RY:=(a45.hh ļ w a Ì (y28 S jq Gk)).1;let P:=y3d X G g GO a46;let GV:=y3k X G g GY a47;let RW:=(a48.hh ļ w a Ì (y26 Z_ jq JI JJ JG HN)).1;let VD:=y4g X G Jr u Jq a49;let GA:=y2n X G Z u a50.2;let Gc:=y3r X G Jr u Jq GN a51;let GL:=y36 X G Zg g Vv VA Jh Ih GK a52;let Jp:=y2z X G k Jm a53;let V8:=y2y X G f Q VB Go d.2;let Jo:=y2o X G f VB GM m.2;let Lx:=y2t X G f Q VB Ge Gf L.2;let YE:=y2g X G f Jm a57;let GT:=y3i X G k P GQ GV a58;let GU:=y3j X G k P a59;let GP:=y3e X G k P a60;let Lz:Dv ļ w K a Ì:=y3m X G RZ RX RY Vt a61;let GX:=y3n X G k g P a62;let YF:=y4k X G Z u VD Gw a63;let Gu:=y4h X G Z VD a64.2;let G7:=y2k X G Zg gL GL a65;let Gz:=y4n X G G_ Jp Jn a66;let Gm:=y49 X G OH Jp Ju G8 a67;let GD:=y2r X G f S Jn YE U.2;let GH:=y2w X G f S Ju YE T.2;let Gp:=y4e X G Z u VD a70;let Gh:=y41 X G YF a71;let Jv:=y4a X G Yg g YF a72;let Jt:=y40 X G k g gL Jg Ig u YF G9 Gv Js VC a73;let GE:=y2s X G f S YE Gz a74.2;let GI:=y2x X G f S YE Gm a75.2;let Rc:=a76.hh X G ļ w Ì (y25 Wq JH JI JJ RW HA G7);let Gj:=y44 X G k g Xw u Jv a77.2;let Gi:=y43 X G k g u YF Js VC Jt Y.2;let GF:=y2u X G Lp LY GG GC GB V8 Jo Lx GD GE GH GI a79;let M9:=a80.hh X G ļ w Ì (y2d g Rc Gp);let GJ:=y30 X G Yg OG Ej RH Gj Gu GA Gi a81;let Ra:=(a82.hh ļ w a Ì (y2c Z_ Wq jq JG Vt GF GZ)).1;let BS:=(a83.hh ļ w a Ì (y2a Ra)).1;let GR:=y3g X G VC Jv Jt GW GJ GS Gh a84;let Ly:=y3c X G P Vt M9 BS GU GP Lz a85;show y3a P Ly GT GX Gc Gy GR F86
def walk{l:ŵi}{q:ï}{b:Á Ç}{v:Ńh->Heap->È}{g:æ->Heap->È}{d:DefRec}{K:ĥg->Ô}(j:Śj=À 63)(e:ĉm=[])(t:∀(w:æ)(h:Heap),g w h->(Ńb).In h)(F:∀(w:æ)(c:Ç->É Value)(i:Ë)(h:Heap),(Ńb).In h->ğa Ę c->c d.name=À (.ref i)->
   ∃fd:Ń,(∀(s:Î)(u:Value),Ġb s fd {[u],[]} [(Ϸ,u)])/\∀Ì:Heap,(Ńb).In Ì->ŀd Ę c->xP ļ w Ńb c Ì xK 10 i fd [Ϸ] (O4 Ńb)) :
  W.WalkO q b v g Òi d [] Ïl:=
 L3.walkB (n:=63) (k:=10) (x := Ϸ) (sp:=O4) j Ò e {rfl,by decide,by decide,rfl} t F λ_ _ a m o r p=>{a,m,rfl,p,o,r,λ_=>rfl}
#print My
end
open Lean in
local macro_rules|`(universe $x)=>return rb0 (fb0 .missing) (mkNullNode (<-(Array.range' 64 688).mapM λi=>`(def $(mkIdent (.mkSimple s!"tw{(Name.str x.getId s!"o_{i}").hash}")):ident:=Nat)))
namespace PySem.W.Fast
universe PySem.Challenge.cw_markrun_k57_parts_leave_the_same_holds
def tw17373794594734400774:=Nat
def tw10641735200121769147:=Nat
def tw1592943744810721503:=Nat
def tw15210284293435551233:=Nat
def tw17667241508093706101:=Nat
def tw17128309280337580948:=Nat
def tw11268165470744636544:=Nat
def tw8498561790112592388:=Nat
def tw9521811706551973382:=Nat
def tw9501084552373895877:=Nat
def tw6552523701830508240:=Nat
def tw17802471295502543926:=Nat
def tw16398847340159168181:=Nat
def tw2517153662492469752:=Nat
def tw16182476197544193242:=Nat
def tw17875012183768328608:=Nat
def tw3895621677050765059:=Nat
def tw3375027163449180160:=Nat
def tw3586211783739963060:=Nat
def tw708940422043573473:=Nat
def tw7534104972228353241:=Nat
def tw2471853664981911655:=Nat
def tw15172291446992376040:=Nat
def tw4953531582871366743:=Nat
def tw17864536684110083057:=Nat
def tw1912136134499657974:=Nat
def tw3872914933799459324:=Nat
def tw17729862799330710683:=Nat
end PySem.W.Fast
open PySem PySem.W PyProof.Rows
set_option maxRecDepth 100000 in
set_option maxHeartbeats 0 in
theorem PySem.Challenge.cw_markrun_k57_parts_leave_the_same_holds : PySem.Challenge.rw_markrun_k57_parts_leave_the_same.Holds := by
 w_on;o_law;k_head;(case hw=>w_witness2)
 k_fill
 refine My.walk (l:=PySem.Challenge.rw_markrun_k57_parts_leave_the_same) rfl rfl (λw h Y=>PySem.W.kIn_of Y) ?F
 case F=>
  intro w d e h c G b;refine' My.all_mk c G b ?a0 ?a1 ?a2 ?a3 ?a4 ?a5 ?a6 ?a7 ?a8 ?a9 ?a10 ?a11 ?a12 ?a13 ?a14 ?a15 ?a16 ?a17 ?a18 ?a19 ?a20 ?a21 ?a22 ?a23 ?a24 ?a25 ?a26 ?a27 ?a28 ?a29 ?a30 ?a31 ?a32 ?a33 ?a34 ?a35 ?a36 ?a37 ?a38 ?a39 ?a40 ?a41 ?a42 ?a43 ?a44 ?a45 ?a46 ?a47 ?a48 ?a49 ?a50 ?a51 ?a52 ?a53 ?a54 ?a55 ?a56 ?a57 ?a58 ?a59 ?a60 ?a61 ?a62 ?a63 ?a64 ?a65 ?a66 ?a67 ?a68 ?a69 ?a70 ?a71 ?a72 ?a73 ?a74 ?a75 ?a76 ?a77 ?a78 ?a79 ?a80 ?a81 ?a82 ?a83 ?a84 ?a85 ?a86 ?l86 ?c86 ?k86 ?a200 ?a201 ?a202 ?a203 ?a204 ?a205 ?a206 ?a207 ?a208 ?a209 ?a210 ?a211 ?a212 ?a213 ?a214 ?a215 ?a216 ?a217 ?a218 ?a219 ?a220 ?a221 ?a222 ?a223 ?a224 ?a225 ?a226 ?a227 ?a228 ?a229 ?a230 ?a231 ?a232 ?a233 ?a234 ?a235 ?a236 ?a237 ?a238 ?a239 ?a240 ?a241 ?a242 ?a243 ?a244 ?a245 ?a246 ?a247 ?a248 ?a249 ?a250 ?a251 ?a252
  all_goals try first|exact L3.fnp_mk (by k_is) (by k_is) (by k_is) (by k_is)|exact L3.gn_mk (by k_is)|exact L3.gs_mk (by k_is)|exact L3.dc_mk (by simp only[List.map_cons,List.map_nil];k_is) (by decide)|exact L3.tp_mk (by k_is)|exact L3.tq_mk (by k_is)|exact L3.fnq_mk (by k_is) (by k_is) (by k_is) (by k_is)|exact L3.mtp_mk (L3.mtc_mk (by k_is) (L3.cls_mk (by k_is) (by k_is) (by k_is) (by k_is)) (by k_is)) (L3.mtc_mk (by k_is) (L3.cls_mk (by k_is) (by k_is) (by k_is) (by k_is)) (by k_is)) (L3.mdp_mk (by k_is) (by k_is) (by k_is) (by k_is) (by first|exact .all (L3.us1 λ_=>rfl)|exact .all (L3.us2 λ_ _=>rfl)|exact .all (L3.us3 λ_ _ _=>rfl)|exact .all (L3.us4 λ_ _ _ _=>rfl)|exact .all (L3.us5 λ_ _ _ _ _=>rfl)|(refine L3.bd2 λ_ _ _ a=>?_;apply PySem.W.binds_K a rfl;k_is;all_goals rfl)|(refine L3.bd4 λ_ _ _ _ _ a=>?_;apply PySem.W.binds_K a rfl;k_is;all_goals rfl)))|exact L3.mkp_mk (by k_is) (by k_is) (by k_is) (by k_is) (L3.mdp_mk (by k_is) (by k_is) (by k_is) (by k_is) (by first|exact .all (L3.us1 λ_=>rfl)|exact .all (L3.us2 λ_ _=>rfl)|exact .all (L3.us3 λ_ _ _=>rfl)|exact .all (L3.us4 λ_ _ _ _=>rfl)|exact .all (L3.us5 λ_ _ _ _ _=>rfl)|(refine L3.bd2 λ_ _ _ a=>?_;apply PySem.W.binds_K a rfl;k_is;all_goals rfl)|(refine L3.bd4 λ_ _ _ _ _ a=>?_;apply PySem.W.binds_K a rfl;k_is;all_goals rfl)))|exact L3.cmp_mk (by k_is) (by k_is) (by k_is) (by k_is) (L3.mdp_mk (by k_is) (by k_is) (by k_is) (by k_is) (by first|exact .all (L3.us1 λ_=>rfl)|exact .all (L3.us2 λ_ _=>rfl)|exact .all (L3.us3 λ_ _ _=>rfl)|exact .all (L3.us4 λ_ _ _ _=>rfl)|exact .all (L3.us5 λ_ _ _ _ _=>rfl)|(refine L3.bd2 λ_ _ _ a=>?_;apply PySem.W.binds_K a rfl;k_is;all_goals rfl)|(refine L3.bd4 λ_ _ _ _ _ a=>?_;apply PySem.W.binds_K a rfl;k_is;all_goals rfl)))|exact L3.fldk_cons (by k_is) (L3.cls_mk (by k_is) (by k_is) (by k_is) (by k_is)) (by k_is) L3.fldk_nil|exact L3.fldk_cons (by k_is) (L3.cls_mk (by k_is) (by k_is) (by k_is) (by k_is)) (by k_is) (L3.fldk_cons (by k_is) (L3.cls_mk (by k_is) (by k_is) (by k_is) (by k_is)) (by k_is) L3.fldk_nil)|exact L3.mkd_mk (by k_is) (by k_is) (by k_is) (by k_is) (by k_is) (by k_is) (by k_is) (by k_is) (by(refine L3.bd3 λ_ _ _ _ a=>?_;apply PySem.W.binds_K a rfl;k_is;all_goals rfl))|exact L3.mtd_mk (L3.mtc_mk (by k_is) (L3.cls_mk (by k_is) (by k_is) (by k_is) (by k_is)) (by k_is)) (L3.mtc_mk (by k_is) (L3.cls_mk (by k_is) (by k_is) (by k_is) (by k_is)) (by k_is)) (by k_is) (by k_is) (by k_is) (by k_is) (by(refine L3.bd2 λ_ _ _ a=>?_;apply PySem.W.binds_K a rfl;k_is;all_goals rfl)) (by(apply Exists.intro;apply L3.bd1;intro _ _ a;apply PySem.W.binds_K a rfl;k_is;all_goals rfl))
  all_goals try (first|k_is|k_exc|kit_is|kts_exm)
  all_goals decide
