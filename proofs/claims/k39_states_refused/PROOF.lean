import PyProof.Rows.All
import Wide.All
import OpenK.AllK
import Wide.FinOn
import Lean
import PyProof.EqAt
import PyProof.EqKinds
import PyProof.TupleCall
import PyProof.NsDelKeeps
import PySem.Challenge.RW_markrun_k39_states_refused
set_option Elab.async false
set_option linter.all false
set_option maxRecDepth 100000
set_option genSizeOf false
set_option genInjectivity false
set_option compiler.extract_closed false
set_option bootstrap.genMatcherCode false
section
open Lean
def rb0(f:Syntax→Syntax)(s:Syntax):Syntax:=s.rewriteBottomUp f
def ix0(b w:Nat)(s:Syntax):Nat:=match s with
 |.ident _ _ (.str .anonymous x) _=>
  let n:=x.front.toNat
  let n:=if b=192&&970≤n then n-586 else n
  if n<b||b+w≤n||2<x.length then 99999 else 2*(if x.length=1 then n-b else n-b+w*(x.back.toNat-96))
 |_=>99999
def wr0(k:Name)(x:Array Syntax):Syntax:=.node .none ``Parser.Tactic.rcasesPatLo #[.node .none ``Parser.Tactic.rcasesPatMed #[mkNullNode #[.node .none k x]],mkNullNode]
def pt0(s:Syntax):Syntax:=rb0 (λs=>if s.isIdent then wr0 ``Parser.Tactic.rcasesPat.one #[s]else if s.isOfKind ``Parser.Term.hole then wr0 ``Parser.Tactic.rcasesPat.ignore #[s[0]]else if s.isOfKind ``Parser.Term.anonymousCtor then wr0 ``Parser.Tactic.rcasesPat.tuple s.getArgs else s) s
def hs0:Nat→Syntax→Bool
 |0,_=>false
 |n+1,s=>!s.isOfKind ``Parser.Term.byTactic&&(s.isOfKind ``Parser.Term.syntheticHole||s.getArgs.any (hs0 n))
def fs0(s:Syntax):Syntax:=match s with
 |.node _ k a=>if k==`«term{_}» then .node .none ``Parser.Term.anonymousCtor #[mkAtom "⟨",a[1]!,mkAtom "⟩"]
  else if k==choiceKind then (a.find? (·.isOfKind ``Parser.Term.anonymousCtor)).getD s
  else if k==``Parser.Tactic.tacticLet__ then
   let p:=s[2][0][0]
   if p.isOfKind ``Parser.Term.anonymousCtor then .node .none ``Parser.Tactic.obtain #[mkAtom "obtain",mkNullNode #[(pt0 p)[0]],mkNullNode,mkNullNode #[mkAtom ":=",mkNullNode #[s[2][0][4]]]]
   else if s[1][0].getNumArgs=0 then .node .none ``Parser.Tactic.tacticHave__ (a.set! 0 (mkAtom "have"))
   else s.setArg 1 (.node .none ``Parser.Term.letConfig #[mkNullNode])
  else if k==``Parser.Tactic.show then if hs0 99 s then .node .none ``Parser.Tactic.refine #[mkAtom "refine",s[1]]else .node .none ``Parser.Tactic.exact #[mkAtom "exact",s[1]]
  else if k==``Parser.Tactic.exact then .node .none ``Parser.Tactic.show #[mkAtom "show",s[1]]
  else if k==``Parser.Command.declModifiers then if s[6][0].isOfKind ``Parser.Command.nonrec then (s.setArg 4 (mkNullNode #[.node .none ``Parser.Command.noncomputable #[mkAtom "noncomputable"]])).setArg 6 mkNullNode else s
  else s
 |_=>s
def tq0(s:Syntax):Bool:=s.isOfKind ``Parser.Tactic.rwSeq&&s[2][1][0][1].isOfKind ``Parser.Term.paren&&s[2][1][0][1][1].isOfKind ``Parser.Term.byTactic
def fb0(t s:Syntax):Syntax:=match s with
 |.atom _ v=>.atom .none v
 |.ident ..=>let u:=t[1][0][1][ix0 192 242 s]
  if u.isMissing||u.isOfKind numLitKind then s.setInfo .none else u
 |.node _ k a=>if k==``Parser.Term.app then
   let u:=t[1][2][0][1][ix0 913 57 s[0]]
   if u.isMissing||u.isOfKind numLitKind then s else rb0 (λx=>let y:=s[1][ix0 7936 8 x/2]
    if y.isMissing then x else y) u
  else if k==nullKind then
   let l:=s[0][2][1][1][0][0][0][4][1]
   if l.isMissing then (if a.any tq0 then mkNullNode (a.flatMap λc=>if tq0 c then c[2][1][0][1][1][1][0][0].getArgs else #[c]) else s) else mkNullNode (l.getArgs++a.extract 1 a.size)
  else if k==``Parser.Command.print then .node .none ``Parser.Command.end #[mkAtom "end",mkNullNode (if s[1].getId==`a then #[]else #[s[1],mkNullNode])]else .node .none k a
 |_=>s
def cs0(u w s:Syntax):Syntax:=if s.isOfKind ``Parser.Tactic.cases&&s[1].getNumArgs=1&&s[1][0][0].getNumArgs+s[2].getNumArgs+s[3].getNumArgs=0&&!s[1][0][1][1].isOfKind ``Parser.Term.paren then
  let h:=s[1][0][1]
  rb0 (λx=>if x.getId==`ἀ then h else x) (if h.isIdent then u else w)
 else s
def oc0(t s:Syntax):Syntax:=
 let v:Nat→Syntax:=λi=>t[1][2][2][1][i][1][1][0][0][0]
 if s.isOfKind ``Parser.Tactic.omega then (if s[1][0].getNumArgs=0 then v 0 else s)
 else if s.isOfKind ``Parser.Tactic.cases then
  let f:Nat→Syntax:=λi=>rb0 (cs0 (v 6) s) (v i)
  cs0 (f 2) (f 4) s
 else s
end
open Lean in
local macro_rules(kind:=Lean.Parser.Command.mutual)|s=>do
 let c:=s[1][0]
 unless c.isOfKind ``Parser.Command.check do Macro.throwUnsupported
 let g:Syntax→Syntax:=λt=>rb0 (fb0 t) t
 let t:=g (g (g (g (g (g c[1])))))
 return rb0 (oc0 t) (rb0 fs0 (rb0 (fb0 t) (s[1].setArg 0 mkNullNode)))
mutual
#check([some,List,none,true,Nat,false,Prop,Str,base,Option,Int,Addr,autoParam,Shared,(by omega),W.Frag,PySem.wpAny_bind,Expr,Bool,X.env,Stmt,wpAny,if_pos,0,if_neg,Keyed,Array,(by decide),s.heap,s.heap.objs.size,absurd,World,Program,sizeLine,X.mg,PyProof.Rows.wpS_bind,heap,Reps,(model prog w),W.kitOne,Around,outer,X.N.length,xs.length,X.prog,False,cons,List.length_append,(Bool×D),PyProof.Rows.wpS_pure,(Or.inl rfl),(z8 0),(Ë×Obj),mainGlobals,s.heap.get?,0,vs.length,a.size,(.ref C),SortSt,(by simp),(.ref a),List.length_map,Value.ref,prog,(model X.prog X.w),(z7 0),(e::es),"RowMachine","WordMachine",h.get?,Bool.and_eq_true,ps.length,ds.length,eval,PySem.wpAny_pure,data,PySem,I.zU,PyProof.Rows,(.ref f),List.size_toArray,W.nsIn,(i+1),PySem.Spec,x.size,(z7 1),h'.get?,z.elim,HT.sIx,toks,s.toks,"list",FuncData,Heap.lt_size,(ϔ _),Heap.get?_push_of_some,"self",(Čg=Å),(zP st),X.base,X.xe,(by simp only[_root_.L3.vF,_root_.L3.zt,_root_.L3.yn,_root_.L3.kq,_root_.L3.yH,_root_.L3.uQ,_root_.L3.Zi,_root_.L3.xh,_root_.L3.wG,_root_.L3.WL,_root_.L3.Lj,_root_.L3.kj,_root_.L3.ZZ,_root_.L3.e1,_root_.L3.e2,_root_.L3.eL,_root_.L3.eC,_root_.L3.z7,_root_.L3.Tu,_root_.L3.zA,_root_.L3.zF,_root_.L3.tE,_root_.L3.YO,_root_.L3.WT,_root_.L3.qf,_root_.L3.jH,_root_.L3.VM,_root_.L3.Fp,_root_.L3.Fo,_root_.L3.qP,_root_.L3.wg,_root_.L3.yX,_root_.L3.ZP,_root_.L3.Ot,_root_.L3.fR,_root_.L3.g9.sel,_root_.L3.fI,_root_.L3.ZS,_root_.L3.uz,_root_.L3.gH,_root_.L3.Q2,_root_.L3.xX,_root_.L3.ZQ,_root_.L3.VP,_root_.L3.gI,_root_.L3.OS,_root_.L3.gD,_root_.L3.jW,_root_.L3.jV,_root_.L3.YZ,_root_.L3.VN,_root_.L3.VO,_root_.L3.Vg,_root_.L3.xG,_root_.L3.j4,_root_.L3.tu,_root_.L3.za,_root_.L3.ux,_root_.L3.wf,Option.bind_some,Option.bind_none,List.getElem?_cons_zero,List.getElem?_cons_succ,List.set_cons_zero,List.set_cons_succ,List.map,List.cons_append,List.nil_append,List.length_cons,List.length_nil,List.replicate_zero,List.replicate_succ,Bool.not_true,Bool.not_false,decide_true,decide_false,Bool.and_self,Bool.and_true,Bool.true_and,Nat.reduceAdd,Nat.reduceSub,Int.reduceLT,Int.reduceLE,Int.reducePow,Int.reduceToNat,Int.reduceAdd,Int.reduceSub,Int.reduceMul,Int.reduceNeg]),E.l2,List.length_cons,l.prog,(z8 1),"words",(z8 2),if_true,name,E.l1,K.In,of_decide_eq_true,Nat.le_trans,scope,decide_eq_true,(z7 2),kvs.length,X.stack,(k+1),[Ą,ą],(Ê×Ê),(by simp only[_root_.L3.vF,_root_.L3.zt,_root_.L3.yn,_root_.L3.kq,_root_.L3.yH,_root_.L3.uQ,_root_.L3.Zi,_root_.L3.xh,_root_.L3.wG,_root_.L3.WL,_root_.L3.Lj,_root_.L3.kj,_root_.L3.ZZ,_root_.L3.e1,_root_.L3.e2,_root_.L3.eL,_root_.L3.eC,_root_.L3.z7,_root_.L3.Tu,_root_.L3.zA,_root_.L3.zF,_root_.L3.tE,_root_.L3.YO,_root_.L3.WT,_root_.L3.qf,_root_.L3.jH,_root_.L3.VM,_root_.L3.Fp,_root_.L3.Fo,_root_.L3.qP,_root_.L3.wg,_root_.L3.yX,_root_.L3.ZP,_root_.L3.Ot,_root_.L3.fR,_root_.L3.g9.sel,_root_.L3.fI,_root_.L3.ZS,_root_.L3.uz,_root_.L3.gH,_root_.L3.Q2,_root_.L3.xX,_root_.L3.ZQ,_root_.L3.VP,_root_.L3.gI,_root_.L3.OS,_root_.L3.gD,_root_.L3.jW,_root_.L3.jV,_root_.L3.YZ,_root_.L3.VN,_root_.L3.VO,_root_.L3.Vg,_root_.L3.xG,_root_.L3.j4,_root_.L3.tu,_root_.L3.za,_root_.L3.ux,_root_.L3.wf,Option.bind_some,Option.bind_none,List.getElem?_cons_zero,List.getElem?_cons_succ,List.set_cons_zero,List.set_cons_succ,List.map,List.cons_append,List.nil_append,List.length_cons,List.length_nil,List.replicate_zero,List.replicate_succ,Bool.not_true,Bool.not_false,decide_true,decide_false,Bool.and_self,Bool.and_true,Bool.true_and,Nat.reduceAdd,Nat.reduceSub,Int.reduceLT,Int.reduceLE,Int.reducePow,Int.reduceToNat,Int.reduceAdd,Int.reduceSub,Int.reduceMul,Int.reduceNeg,_root_.L3.xC,_root_.L3.jc,_root_.L3.u_,_root_.L3.t4,_root_.L3.jb,_root_.L3.uN,_root_.L3.yt,_root_.L3.qO,_root_.L3.ZO,_root_.L3.FW,_root_.L3.FV,_root_.L3.jI,_root_.L3.MY,_root_.L3.NJ,_root_.L3.NK,_root_.L3.JH,_root_.L3.FU,_root_.L3.YQ,_root_.L3.ug,_root_.L3.putAt,_root_.L3.mP,_root_.L3.y1d,_root_.L3.wj,_root_.L3.hide,_root_.L3.tG,_root_.L3.y81,_root_.L3.y82,_root_.L3.y83,_root_.L3.y84,_root_.L3.y85,_root_.L3.y86,_root_.L3.x0d,_root_.L3.x0e,_root_.L3.x0f,_root_.L3.x0g,_root_.L3.x0h,_root_.L3.x0i,_root_.L3.x0j,_root_.L3.LL,_root_.L3.kR,_root_.L3.W3,_root_.L3.qS,_root_.L3.ES,_root_.L3.z3a,_root_.L3.z3b,_root_.L3.wO,_root_.L3.VD,_root_.L3.wU,_root_.L3.qx,_root_.L3.mL,_root_.L3.Zo,_root_.L3.VI,_root_.L3.vN,_root_.L3.kC,_root_.L3.kD,_root_.L3.FZ,_root_.L3.FY,_root_.L3.pW,_root_.L3.OK,_root_.L3.jl,_root_.L3.uc,_root_.L3.pj,_root_.L3.vZ,_root_.L3.Ov,Option.map_some,Option.map_none,List.take_succ_cons,List.take_zero]),List.getElem?_eq_getElem,PySem.sizeLine_eq,A.in1,(eC (.int 0)),Bool.false_ne_true,(.dK kvs),PyProof,["state","row"],False.elim,z.length,StateT,"State",k.toNat,ks.length,OwnMs,(n+1),List.mem_cons_self,(λ_ z=>nomatch z),(ps.map pD),List.append_nil,List.all_cons,X.env.locals,"tuple",(eC (.int 1)),Nat.ne_of_lt,if_false,ps.map,getK,List.append_assoc,List.mem_cons.mp,bootBuiltins,(yA _),iter,I.ye,(Sum Ê Ç),ys.length,(a.d2 X G),(À ú),(z7 3),(yh 0),List.getElem?_eq_some_iff.mp,Heap.get?_push_size,Nat.lt_of_lt_of_le,Array.length_toList,(.inl rfl),us.length,N.length,(.ref c),(.int 0),F.dj,List.replicate,W.findIn,o.push,I.list,cpos,args,E.lp,E.ext.gh,ns.length,r.length,K.lookup,(.ref b),(xf st),String,X.calm,I.tok,apos,zero,succ,PySem.wpAny_mono,ms.length,(.ref p),"word",(À v),b.size,(u q),cLine,code,Nat.le_refl,W.keepIn,P.length,"dict",(zR×V),y.Perm,o.data,F.at_,K.go,getA,(.zz o Ł),X.env.scope,"table",E.own,((ă).all yN=Ã),decide_eq_false,X.length,(yN e=Ã),(a.d1 X G),(z8 3),X.N.Nodup,"state",a.length,b.length,I.tuple,Scope,E.go,back,List.map_cons,Nat.zero_le,its.toArray,(āa s),(f β),(j+1),0,F.ok,x.gh,List.mem_cons_of_mem,(zd (zV b)),"registers",Nat.le_of_lt,(wE I q ü),K.ext.gh,[.ref a],congrArg,(Ïb _),(lo+i),o.cls,pos',[x0],(wc X scope cl own C s H fp pn),"BadState",vs.toArray,(kP ps),(.bl Ã),(.inr Ëa),"held",(a σ),Bool.false_eq_true,List.not_mem_nil,List.length_take,"memory",Int.le_refl,0,(.inr x),(k<=j),I.loc,E.pin,List.getElem?_map,"NoAddress",List.length_set,(a==sysModules),(zA Ė zF),Int.le_of_lt,(.type Ĝ),(eC .zI),A.units,(z7 4),l.map,qual,Unit,(.lst (wI W)),PySem.wpAny_field,(λz=>nomatch z),List.length_zip,(.Name x xp),"__init__",(zJ ó),(.lst xs),"items",L.length,(.int 8),E.ext.h,(z8 4),(Ť h),0,I.cell,(lo+k),elem',I.pin,h.Ns,cont,(.Name x p),(by decide +kernel),X.env.cells.lookup,zK.refl,List.length_drop,"isinstance",(.Name x pos),(σ++[À v]),(.bl Å),Nat.min_self,decide_true,(É Value),(.inl z),(Ηa þa),j.length,(.int 1),vA.cons,codeAny,I.free,I.bare,(j-1),keep,X.fs,"address","_law_cell",(.type T),g.length,(vL P w),(.int i),(Ý+1),I.ok.hd,(zJ yV),W.mg_of,Iff.rfl,BindsTo,(wI W),r.mono,IsPair,"zip",small,call,E.ow,(X.fn x=Ã\/Íb x=À .local),Nat.lt_of_le_of_lt,Int.toNat_natCast,Option.some.inj,(Ä×Ä×Ä),compareOp,Value.none,(.type "int"),(ks.zip vs),A.deeper,(.ref it),(.inr z),(zR×Value),zg.refl,fs.length,(yl P w),b.toArray,A.handled,(À Đ),(.tup xs),envOfC,Ne.symm,o.length,W.exmOne,(Ť hi),"byte",yQ.of,its',body,((apos.endLine==cpos.line)=Ã),List.mem_append_right,List.take_append_drop,(by simpa using e),PySem.wpAny_holding,s.heap.push,List.all_eq_true.mp,attributeBase,List.mem_append.mp,"BadWords",(eq_of_beq c),Nat.min_eq_left,(zB Ī zH),(ns.map V.int),Nat.zero_add,List.mem_cons,True.intro,binaryOp,(yl prog w),(model P w),(.type Œ),(ċ ?_),W.kia_one,I.ok.kind,"kind",(.inl a),x.length,(zJ Ī),or_false,d.length,I.turned,X.outer,s'.heap,Sum.inl,X.H₀,(vE d),"end",(xG 2),V.ref,tplDs,I.len,item,X.wZ,K.lp,E.fr,E.ap,D.nx,(zf (zd (zV b)) ze (z8 1) zE),(backToKw pos (keywordEach [] Ó)),PyProof.Rows.wpS_forRange,(eC (.int 2)),Array.getElem?_toList,PySem.wpAny_seqItems,List.mem_singleton.mp,Nat.le_add_right,a.toList.drop,a.heap.objs.size,List.mem_map.mp,b.toArray.size,(.type "bool"),Nat.ne_of_gt,(start N vs),(Ç×Ë),a.toArray,E.ext.new,(g i j),f.length,callWith,W.codeIn,(À m),(κ×V),[x,y],"code",(uM x),(lo+m),zK.qE,"max",D.int,yU.tr,x.new,r.get,IsZip,stop,RelK,I.tO,I.os,(.ListComp elt [{tg,iter,ifs,0}] scope pos),(.ref C_NoAddress),(.ref C_BadWords),(.ref C_BadState),(x ≠ "__name__"),(.ext (tS a C)),(EP X z0 σ Q),(.ins C dx fs),(.type "str"),ForInStep,(zB Ĭ zH),Heap.SameBut,h.objs.size,b.extract,c.trans,(.int 16),X.A.units,0,y.toList,(wj β),l.length,c.length,Reps.imp,(lo+m-1),e.trans,W.fnOf,K.ext.g,zK.lay,[x0,x1],rawInt,I.laid,"law",value,IsTup,hide,X.ex,X.env.scope.names.lookup,(.builtin "object.__class__"),Nat.lt_irrefl,List.length_singleton,List.getD_eq_getElem?_getD,List.getElem?_append_left,(zB zE zH),(getMethod ov m pl),(zA Ă zF),List.zip_cons_cons,0,(by simpa using h),"first_words",foldedSetIterable,a.toList.take,(Nat.sub_le _ _),List.range,ns.map,Heap.size_push,Nat.le_of_eq,(.builtin id),(zB ó zH),List.map_map,"number","__class__",X.A.handled,(Á M×zb),"sorted",its.length,(.lst ds),(env::é),(āa ŵ),(.ref e),s.TypeIs,(yA _),add_int,Sum.inr,Nat.ble,(.bl b),putAt,IsPart,forIn,0,field,(x+1),self,putF,cond,[ov],((x==("__classdict__" : Ç))=Å),PySem.wpAny_newObj_type,Nat.lt_succ_self,(eC (.int 8)),PySem.codeAny_builtin,List.getElem?_eq_none,"ValueError.__new__",Array.getElem_toList,(e2 zS Ė Ŀ),(.type "ValueError"),own.length,starEach,(.lst (wI Ws)),c.heap.objs.size,PySem.call_meets,a.names.lookup,List.map_append,I.zU.fresh,(ps.take ň),(Α (z7 2)),a.extract,Nat.sub_self,Heap.FlyingW,(.inr w),(Ç×Value),(K w.params),(F.ok i q z),apos.atName,Obj.mapSeq,(Á zR×V),(.int 32),SeqAt.EqAt,[.zI,.zI],(Α Ţ),Value.str,DictEntry,"place","thing",(.ref d),(.lst b),s.length,q.toList,List.map,(Ç×V),(top 67),(.ref A),(s q z),"range",wb.with,(ĵa _),(Á D),(À k),"made",q.size,Result,(zV b),"row",(xG 1),(0<=i),"add","int",yf.of,hv.h,True,[.type "ValueError",.type "Exception",.type "BaseException",.type "object"],(yD (zO yF) Û),(e2 zS Ė œ),(.tup [(.str "d"),(.str "s")]),Array.getElem?_eq_some_iff.mp,(xS (yZ b)),List.getElem?_append_right,List.pairwise_append.mp,List.drop_eq_getElem_cons,PySem.wpAny_call_entry,Heap.get?_update_self,(by dsimp only;omega),Str.ofString,(À (Å,d)),Nat.lt_succ_of_lt,"_law_script",b.toList.take,Nat.le_antisymm,(wQ κ x p f g),Obj.mapFields,swapsWith,(zB yV zH),"enumerate",I.base.there,(yl ì X.w),(yK x p f g),(F.ok j q z),(ť _ rfl),d.trans,DecidableEq,(ps.zip us),fs.lookup,SortSt.mk',"truths",(yY X.K F),(thaws ms),(a.d3 X G),(.ref Ý),(.lst Ŏ),(É Ä),(À ý),Value.int,PassesOwn,(zJ zE),(Ê×α),(.dT kvs),i.natAbs,i.length,(.ref z),(c b a),nextOf,valueAt,W.mroIn,W.excIn,IntsAre,(Ž _),"left",ys.all,backTo,xs.map,xc.one,ds.all,assign,W.isFn,"sum","set",thaws,slots,E.ext,hi.h,e.gh,dEqs,X.pn,[it],[À (Å,dE C T e),À (Å,.int c),À (Å,.int (i:Ê)),Â],(jU P w K mg È N qual scope f cd A outer s₀ H₀ E),(mirror x lo (lo+m) ((lo+m-lo)/2)),(i<100000000000000000000),(backTo pos (starEach ă Ó)),X.s₀.heap.objs.size,(zd (zV a)),PySem.wpAny_Call_Name_kw,Nat.succ.inj,List.pairwise_cons.mp,List.length_replicate,(.Call ēj [] [] pos),PySem.wpAny_tryCatch,List.mem_of_getElem?,(isortK (ns.zip vs)),PySem.plainId_quiet,List.length_zipWith,"__getattribute__",PySem.codeAny_mono,Int.not_lt.mp,List.Perm.refl,I.base.free,X.s₀.heap.get?,"first_held",(.type "object"),Bool.eq_iff_iff,(yK a0 p0 f0 g),X.env.kindOf,s.heap.update,(.int 5),(ps.drop ň),a.toArray.size,behindInMarks,b.toList.drop,[p0,p1,p2,p3],"_law_k",0,"other",decide_false,W.callWith_K,Int.le_trans,(.lst ys),(λ_ _=>í),I.ok.mod.jM,(Φa (i<j)),(ks.zip us),(eL jV Õb),(.type ϗ),(p8 e=Ã),(.ref t),(.ref B),"Machine",OwnMs.imp,(uK st),y.length,j.toNat,[ġ,ĕa],(Ηa ēj),(Ú Ù),(À Îb),[.ref p],(.inl w),(vP ps),"storew","do_sum",0,x.toList,NameKind,(gL ps),["item"],(ĺd ?_),(.str x),(.ref l),(.ref g),Rd.mono,"store","right","loadw",AllBare,L.drop,(Ĳj s),(d q z),"load","high",y.size,stored,o.elim,I.kept,B.get?,(a++y),(Yx i),whole,isort,callX,bindL,bindC,Model,0,tpos,r.dp,U.ln,E.tN,D.bl,(starEach ă Ó=(Å,eval e Ó)::starEach es Ó),Array.perm_iff_toList_perm.mp,(by with_unfolding_all rfl),PySem.wpAny_callSpecial?_slot,PySem.Around.under_plainId,Nat.le_of_lt_succ,beq_eq_false_iff_ne.mpr,PySem.wpAny_pyIter_list,List.take_of_length_le,PySem.wpAny_passesOwn,PySem.wpAny_execs_nil,PySem.wpAny_rule,PySem.wpAny_setField,List.mem_append_left,(Á zR×Ë×Value),(by rw[E.l1];show c),(.str "made"),List.replicate_succ,(Þb WData.int),Nat.succ_le_succ,(.dic Ía (vP ps)),s2.heap.objs.size,Nat.lt_of_succ_lt,(.fz (.lst NS)),(pairsOf vs),(.dic hk hv),List.getElem_map,F.heap.objs.size,Int.min_eq_left,(τ++Ů k Â),(lo+k-(lo+l)),(.inr rfl),(yK y q Â g),List.zipWith,(À (Ã,d)),(β++[À m]),(xs.map .inr),(eC (.int 3)),(ug β i π),(failedOf s),OwnMs.cells,List.lookup,I.base.slot,(zA œ zF),(xJ X.K FF),(upd H p o),(À ύ),(.int w),env.kindOf,acc.length,(Ğ e),"unless",(kindOf s),(arrOf st),I.base.vi,I.base.vW,I.base.uW,(arrOf s),(.ref D'),argBest,"_law_e",xs.Nodup,n.length,h.length,c.typeIs,b.toList,B.length,(wI Ws),g.trans,(uP ĵ),(.ref i),(.ref D),(.lst a),(.int 2),isortK,fs.map,(Àa c),(M×zb),"when","stop","jump",E.ext.g,A.depth,(l q w),(g τ),"test","done","addc",w.elim,modify,c.toks,c.heap,(uJ n),(qR i),(e σ),"and",z.cps,o.loc,error,F.run,F.len,D.ind,(i+k),(C=x),"or",r.un,o.zz,hpos,d.ye,a.hd,K.uV,I.ok,I.XS,E.jy,Heap.get?_update_other,(.lst (a.map pD)),PyProof.Rows.wpS_mono,"BaseException.__getattribute__",(zf Ϻ ze (wW ó xz) Ŵa),(seqObj Ĝ #[] 0),(by rw[PyProof.Rows.mirror_size];omega),Int.natCast_nonneg,PySem.PassesOwn.never,(.int 4294967296),(by rw[e];show λz=>nomatch z),(backTo pos (starEach es Ó)),Array.mem_toList_iff.mpr,PySem.Calls.callWith_builtin,Nat.add_le_add_left,Array.mem_of_getElem?,PySem.wpAny_setField_rec,PySem.Obj.data_mapFields,PySem.wpAny_truthy_bool,Int.eq_ofNat_of_zero_le,Nat.add_sub_cancel',PySem.F.plain_max_loop,List.drop_eq_nil_of_le,(zA Ŀ zF),PySem.wpAny_updateSeq,Nat.le_of_ble_eq_true,List.getElem?_toArray,List.mem_of_mem_take,PySem.strLen_append,Array.toList_append,PySem.wpAny_typeOf,Int.emod_lt_of_pos,(zf Ϻ ze ó zE),(.type "NoneType"),"StopIteration",x.extract,List.length_nil,Nat.le_succ_of_le,List.flatten_cons,(Ŋa W.emptyDict),(σ++Ů Ĉb Â),s.heap.UpToSlots,s.heap.FunFrames,PySem.wpAny_call,Nat.reduceLeDiff,Nat.max_eq_right,Int.max_eq_right,c.objs.size,(wt as vs ks us),(.builtin "len"),WData.weightAll,List.find?_cons,Int.emod_nonneg,(σ2.set i Â),(f q\/d q\/q=p),I.base.keep,s.heap.IsTuple,c.toArray.size,beq_iff_eq.mpr,Bool.false_and,(σ.set i Ϗ),0,(Λ (z8 3)),List.any_cons,E.ext.g.trans,[ġ,ī,Ða],[x0,x1,x2,x3],(Λc (b::zY)),(Κc (b::zY)),"width",(Ċ e Ó),Nat.add_comm,"carry",(vL ì X.w),(X.marked a),(.tup [x,y]),(.int (c%8)),(.int (c%5)),"field",scope.names,c.heap.get?,W.specialIn,OwnMs.focus,Option.bind,I.ok.frames,(À (b,d)),(κ×Value),r.append,List.foldl,C_BadState,0,(Β ϧ),(Ŗa .Add),(Ĉ<=Ū),(zB zE zH),(yN a=Ã),(.int p.1),(yX ϐc),(e2 q c),"do_bits",c.toArray,bs.length,W.makesIn,[Ða,ĕa],[.lst ws],(ďb ğ),(Λc İj),(Κc İj),(λz=>?_),(c.val k),(.nx β2),(.lst []),(.fz éa),"again",(us++ds),(ŋe+1),(Ű p),t.extBut,p.extBut,ns.Nodup,h.DictOf,d.extBut,0,b.typeIs,Y.length,Operator,G.extBut,A.frames,getItem,a.trans,[.int 0],(Ō ..),(zJ ϧ),(zJ Ĭ),(yH ãa),(wP g _),(o++[l]),(lo+y-1),(g d σ),(eC ϯb),(eC Ÿc),(.ref x),(.own x),(.int 3),"steps",x.trans,kvs.map,callerA,base.Ns,I.ok.pO,(z7 5),(Ϯ e),(Ϝ i),(Śb c),(ϳa b),(a q z),(G b d),"told","subc",bubble,"mark","copy",z.symm,pyIter,isTrue,e.symm,ds.map,T.keep,Paired,I.base,(v1 k),(lo+y),(j6 x),(a::r),"one","xor","sub","run","due",items,c.map,binds,a.all,Zj.nd,Walks,V.int,[a,b],(j+2),["table","end","first_words","first_held"],PyProof.Rows.wpS_get,(zO (zO (zO yF))),(by exact ¬ (1000000000<=900000000);decide),(min (if i<0 then i+(n:Ê)else i) (n:Ê)),PyProof.Rows.subscriptTail_builtinR,(y.toList.map λp=>(uf h p.1,p.2)),(yJ (yg zH (yD yF Û))),(λa b=>if a<b then b else a),(.inl (Ã,.dic Ía (vP ps))),((c+7919*k)*48271%2147483647),PySem.Obj.isFreed_of_fields,PyProof.Rows.pairsOf_toList,(by simp only[đ]<;>omega),(e2 zS Ė ŷa),PyProof.Rows.listUpdate_at,(PyData.shownAll (pyTs a)),List.extract_eq_take_drop,(backTo pos (ĉb [] Ó)),List.mem_iff_getElem?.mp,PySem.wpAny_loadPart_at,PySem.F.plainAttrs_list,[ġ,Ϡ,"end",ϻ,Õa],(.type "BaseException"),(assignEach es Ó),PySem.wpAny_execs_cons,(by exact 1<30;decide),(zf Ϻ ze ϧ zE),(by rw[E.l1];show hi),(.UnaryOp .Not a pos),Nat.sub_succ_lt_self,List.mem_of_mem_drop,Array.toList_extract,(ua Ă uO (uP ĵ)),(X.drop k++Y.take e),(Nat.lt_of_not_le c),Builtin.bitAnd,PySem.wpAny_attempt,List.mem_reverse.mp,Builtin.Int.intBits,(À (Å,pD p)),((ňe).push Ŵc),(Þb D.int),(qX (yZ b)),PySem.call_meetsIn,Nat.zero_lt_one,ForInStep.yield,(by rw[ŧ];omega),(by rw[đ];omega),((ϑ).mpr ĳa),List.ext_getElem?,"_law_machine",[ġ,ña,ϻ,Õa],[ġ,ī,ϻ,Õa],(relabel ĳ Ó),"default",beq_self_eq_true,List.take_length,List.map_fst_zip,List.lookup_cons,(UJ b e Ü a d),(.builtin "sum"),i.natAbs.log2,beq_iff_eq.mp,sliceBounds,letOwnedTupleGo,kdq_WordMachine,f.objs.size,(À (V.ref p)),(tupleKind ķa),(X.N[i]?=À x),((ϑ).mpr Ċa),Bool.and_false,(λa b=>[a,b]),(.builtin èb),(.builtin ăa),Value.builtin,Nat.add_assoc,[Ða,ĕa,ώ],(Δ (vO ps)),(À (Ã,e)),(upd H a Ł),(upd G a Ϟ),(eC (.int 7)),(b₀::suite),(bs.map V.bl),(ZU c.heap H),"words_from","bytes_from","_law_class",base.StaysIn,E.ext.h.free,Around.under,assignEach,[ġ,"most"],(λ_ _=>rfl),(kT (wF u7)),(e2 F fa fb),(Or.inr rfl),(zB u7 zH),y_NoAddress,c.heap.push,a.heap.push,X.env.frame,X.base.get?,(Ċ o Ó),(upd H a o),(e1 jW œ),(a31.n X G),b.drop,L2.start,(Ιa ϯb),(kZ fs f),(.tup ys),(.ref C0),0,"table_of","__next__",y_BadWords,y_BadState,uI.some_of,its.toList,isort_perm,W.plainGet,C_BadWords,(jQ ϟ x),(.inr Ĝc),(.inr ĕb),(tG β),pos.line,l.extBut,"do_move",ws.length,leaving,inplaceOp,Reps.ints,(.ret v),(.own d),[.lst ds],(ĩg _ _),(Ýb ό),(ĭa .In),(āa Âa),(Ŕ įc),0,(Ġ _ e),(λc=>?_),(vs++dvs),(cut H L),(.zz o u),(.tup ds),(.tbl ps),(.ref i1),(.lst ws),(.lst vs),(.fz Űc),Y.take,y.extBut,xs.foldl,t.length,p.toList,oneType',m.length,i.trans,h.extBut,f.trans,ZipApart,R.length,OwnMs.tQ,I.ok.mod,C.extBut,B.extBut,(zJ ėj),(zJ Ŵa),(yY K F),(yJ Źe),0,(xJ K F),(eC čc),(eC Îa),(X.qF E),(I.Wo e),(.own a),(.int a),(Ϝ b),(jj vk),(.fz d),pyNext,X.drop,"slice",i.toNat,h.trans,Un.kept,I.write,I.fresh,(z8 5),c.symm,c.getD,[p0,p1],(Ϝ x),(Ϝ j),(Ĳj d),(ŝe _),(Ϛb l),(Ϛb h),(Ûb i),(Ğ q),(ļ d),(zJ wo),(y0::u),(vq u_),(ji qJ),(fo τ),(a q w),"bool",xs.all,vs.map,u.keep,typeOf,sIx_le,preSum,o.mono,o.dict,kindOf,j.mono,c.size,B.kind,(wH f),(tC v),(pp n),(lo+j),(i==j),(a τ),(Zi 1),(YO x),(X++M),(W_ X),"str",zQ.d1,z.ext,start,piled,numOf,mroIn,clsIn,atKey,U0.nd,T.obj,D.tup,D.lst,[e,d],(s q),(n+k),(i-1),(h a),(g i),(c q),((s.heap.update a (Obj.mapSeq λ_=>#[])).push (seqObj "tuple" vs.toArray 0)),[À (Å,.int w),À (Å,code),À (Å,.lst (wI W)),À (Å,.lst (ps.map pD)),À (Å,uw C T e fw fh (q_ (wI W) Å Å Å (kP ps) (vP ps)) 0 0),Â,À (Å,.lst (vO ps))],[À (Å,.int w),À (Å,code),À (Å,.lst (wI W)),À (Å,.lst Ŏ),À (Å,dm),Â,À (Å,.lst (vO ps))],b.heap.objs.size,(.tup [(.str "d"),(.str "s"),(.str "n")]),(Ōa o name Ó (eval o Ó)=eval o Ó),(upd (upd m i (.own y)) y (.ins C i [])),(bif decide (4<w)then(ī : Ç)else u),(Ŧ (Ğ e) I.ok.above),(Ηa (.Attribute (.Name c p) m apos)),(VS X.K 2 (kK (qR i) (kK (qR j) VR))),(tryCatch (pyNext (.ref I)) _ >>= _),Builtin.SmallTypes.ownedTupleIsFree,(λC s H c b=>jG),(((τ.take k).map jX)++τ.drop k),PySem.F.slot_tuple_iterator_next,List.take_succ_eq_append_getElem,PySem.wpAny_letGo,PyProof.Rows.slot_tuple_getitem,PyProof.Rows.seqEpoch_at,Builtin.List.listTooLong,Array.Perm.refl,Builtin.Str.occurrences,(.tup [(.str "d"),(.str "n")]),(.Assign [.Name x pos'] e pos),(zf Ϻ ze ó Ī),PySem.wpAny_Call_method0_late,(λc=>∃r,c.1=À r/\vp t r),(x.extract (d+Ϥ) (d+Ϥ+e)),PyProof.Rows.callWith_type1,(if k'=k then À v else _),(.type "method_descriptor"),[.Subscript o k pos'],"_law_words_here","_law_pairs_here",((u p).mpr Ũ),List.length_eq_zero_iff.mp,(seqItems? (.ref S) >>= _),(.For tg iter body [] pos),Builtin.Slice.slicePlaces,(ıa (ļa x ģ Ý f a)),(λw e=>W5 g f r c w ňa),(.inl (Ã,.lst (wI Ws))),PySem.wpAny_newList,PySem.mem_of_lookup,PySem.tupleKind_room_in1,PySem.F.slot_dict_values,List.pairwise_append.mpr,Builtin.Tuple.tupleExact,(yg Ób Ŀb),strSliceIndices,PySem.F.plainAttrs_dict,Nat.add_sub_cancel_left,[.int p.1,.int (c/8%2)],(e2 zS Ă Ė),PySem.F.plain_sum_loop,List.pairwise_cons.mpr,[.Subscript ía kx sp],(upd G p (.lst [e,d])),(hideAll Ü (xg ķ)),(by rw[ï,Ðb];omega),(.lst [.str x,.str y]),Nat.not_lt.mpr,PySem.wpAny_loadPart',PySem.F.slot_zip_next,List.set_append_right,(λ_=>ņ û Sem β),(.Return (À e) pos),Heap.size_update,(yD Ļd Û),List.all_eq_true.mpr,(À (.builtin Ųc)),(ys.any λy=>wK y x),(if b then 1 else 0),(.Attribute e f pos),m_BadState_RunError,PySem.wpAny_standAt,List.filterMap_cons,(Ϝc (d+k) (d+Ϥ)),(ϧb b o e n (a b)),(wf Ĉb fs fg ft f),(by simpa using h1),(Nat.not_lt.mp hlt),(wU (yX zF) wO),(e2 zS Ă Ŀ),Nat.sub_add_cancel,kdq_RowMachine,(Ŋb (toString i)),(zf Ϙb ze Ī zE),(seqObj Ĝ Ìa 0),(seqObj Ĝ #[] c),(pW (β.take Ĉ)),(b∈X.ex\/ϗb<=b),W.instObj,PySem.wpAny_of_eq,Nat.lt_trichotomy,List.getElem?_set,List.Pairwise.nil,Heap.get?_push_ne,(Ç×Tok×Value),0,(λC s H d c=>jG),(ku gJ gN rfl yV),(by rw[Op];omega),((p,w)::P.zip vs),s.heap.IsSliceOf,PySem.typeIs_int,Nat.min_eq_right,List.getElem_mem,List.getElem_inj,(λi=>K x (b+i)),(o++Ēb i (i+k)),(jJ (n%7).toNat),(Qg n x (c x a)),W.methodCall_KW,List.of_mem_zip,List.forIn_cons,d.zU.fresh,(σ++Ů k Â),(λc=>f c.symm),(yK a0 p0 f0 u),(eC (.str Ϸb)),(e2 zS ĕg Ňd),(e2 zS Ţ œ),(e2 zS ĵ Ŀ),(I.ok.bs b o e),(Á M×M),(.str "0"),vd_Machine_run,0,recursionLimit,kx_WordMachine,g.toArray.size,Nat.le_min.mpr,List.nodup_nil,(β'++[À m]),(u5 ks vs k v),(Zm a b o i j),(Zl a b o i j),(.type "type"),(.lst [d0,d1]),(.inl (Ã,T)),(.Name x pos'),(zB Ŵa zH),"__getattr__",s.heap.IsList,kx_RowMachine,a.toArray.any,Builtin.bitOr,[ώ,"count"],[.none,.none],(zc.near x z),(upd H p Ġj),(upd H a Ϟ),(tH ps a≠0),(putF f v fs),(Zk Yz Yy zE),(.tp Ã ϖa),"word_fault",s2.heap.get?,own.contains,0,looks_findIn,h.IsListIter,P2.objs.size,Nat.zero_max,Nat.lt_trans,Nat.lt_asymm,Nat.le_total,[(D,vm a k)],(Δ (x++y)),(ĭa .NotIn),(zj (yI wo)),(zj (yI u7)),(xs.set i x),(hr.mono hk),(MQ r ta tb),(C.bs b o e),"is_number","do_storew",W.hasDictIn,List.length,C_NoAddress,(Ϸ n q z),(ϯe C Ý),(y b o e a),(x-x/p%r*p),(ns.zip vs),(ns.take k),(l+(r-l)/2),(d b o a e),(.bool Ã),"do_store","do_loadw","__name__",ws.toArray,Value.bool,PlainAttrs,I.ok.above,ns.getD,[.int n t],[(Űd,dv)],(λ_=>í),(λ_ q=>q),(t_ kvs k),(a.map pD),(.tup Ķg),(.str Åd),(.str ĕa),(.str ī),(.lst ϖa),(.int i t),(.inr Ċa),(.inr Ŏa),(.inr Ýa),(.own y),(j q z),"is_pair","do_load","do_high","do_copy","__get__",zs.length,zk.append,sortRuns',noteFrame,l.swap.hd,h'.DictOf,env.frame,cl.lookup,base.get?,__do_lift,Str.empty,PySem.Str,PySem.Fin,Paired.Ba,B.StaysIn,[ģb,Âd],[Ėa,ϵb],(ϰd ē),(Űb Ĳa),(Ĩj=Å),(Λ ıg),(Ŋa Ŵc),(Α åa),(Ϲ _ b),(ÿ Ϩc),(ê+Ĉb),(Á Ê),(À ěj),(σ++[v]),(λ_=>?_),(β++[m]),(vo E.tN),(h p ūe),(.rt o d),(.ref i2),(.ref XU),(.ref Ww),(.ref Wt),(.nx σ2),(.int 12),(.fz ϗg),(.fz Ĭc),(.bool b),I.ok.Y3,"walked","stands","do_set",yb.focus,u.extBut,q.extBut,p.isList,mergeAt',j.natAbs,i.isList,h.isList,bindArgs,X.take,W.lookIn,Reps.one,Nat.succ,M.length,I.ok.inj,I.ok.blt,(Āb _),(ŗg ky),(Ϝ x3),(īg nd),(Ϯa Yr),(σ++ρ),(zJ õa),(yt Ϥj),(yH Ϥj),(xs++ys),(tu Ă),(st::zY),(pyTs f),(jE ó),(e1 q c),(ZU h H),(YQ r.1),(MN r t),(IN i a),(I.qF _),(2 ^ 64),"index",xc.snoc,xc.mono,wb.near,unaryOp,uA.swap,uA.move,u.there,s'.gens,propext,o.cells,minRun',ds.drop,d.toNat,PySem.W,Keyword,I.ok.jz,I.ok.Y1,I.ok.XT,[m0,m1],[.ix 1],[.ix 0],(ãe e),(ϰd i),(Ϯ t),(Ϝ c),(ĵg q),(Ăc z),(Ű q),(Ŷc _),(ża i),(ϱ _),(ù-1),(Ğ g),(É V),(À r),0,(À n),(yt fe),(yX zF),(w▸z),(vO ps),(v::vs),(u::vs),(q::qs),(j q B),(hi-lo),(f Çe),(f ϸa),(b σ1),(Vn xs),(VI as),(OF ..),(.bl k),"step","name",u.slot,u.free,s.mono,s.gens,p.size,ns.zip,not_or,newExc,ks.zip,0,ks.all,h.push,findIn,c.get?,argsOk,a.toks,W.item,Params,J.stop,InLong,Def.Bd,(z7 i),(xG 8),(vE x),(vD r),(v2 k),(qv 1),(pp 5),(pD p),(g==k),(f τ),(a β),(T_ l),(Iu z),"len",z.imp,x.all,there,st.at,s'.os,names,0,model,l.fin,j.get,j.ext,h.Ns1,f.get,a.any,Qz.nd,Qy.nd,Q_.nd,Meets,M.ind,J1.nd,J0.nd,D.str,D.i2z,D.i1z,D.TOz,CmpOp,"low",(x==("__debug__" : Str)),[À (.fz (.int w)),À (.fz code),À (.fz (.lst (wI W))),À (.fz (.lst (ps.map pD))),À (t6 C T e fw fh (st (wI W) Å Å Å (kP ps) (vP ps)) 0 0),Â,À (.fz (.lst (vO ps)))],(yD (zO (zO yF)) Û),[À (.fz (.lst NS)),À (.fz éa),À (.fz Űc),À (.fz (.int c)),À (.fz (.int w)),À (.fz code),À (.fz (.lst [.str "made",.str (bif decide (4<w)then ī else "made")])),Â],(((sIx ù 0 lo:Ä):Ê)==0&&(1:Ê)==1&&(sIx ù ù hi-sIx ù 0 lo)==ù),(yP (xS (yZ b)) xQ (zJ (zZ xq xo Ī zE)) (zJ zE) (yA _)),(st (wI W) Å Å Å (kP ps) (vP ps)),[À (Å,dE C T e),À (Å,.int c),À (Å,.int (i:Ê)),À (Å,.exc Ýa)],(!c.toArray.isEmpty&&Builtin.List.listTooLong (c.toArray.size+a.toArray.size)),(Ε (xm [Ň] ī)),(Ŋa { cls:=.type "range",data:=.fields #[.int lo t,.int hi u,.int 1 v] }),(xB (Ε (vC "BadWords" Å)) (Ε (vC Ýa Å))),(xF rfl (xF rfl (xF rfl (xF rfl (xF rfl (xF rfl (xF rfl Tb))))))),[À (Å,.lst L),À (Å,x),À (Å,.int k),À (Å,y)],((ża (sIx ù 0 lo)).take (sIx ù ù hi-sIx ù 0 lo)),(if decide (0<=i)&&decide ϕb then 20 else 1000000000),(A.under (.builtin "type.__call__" {.ref C::us,a})),(Ōa þa "values" Ó (eval þa Ó)=eval þa Ó),(if i<0 then(i+(n:Ê)).toNat else min i.toNat n),(zf Ϙb ze (z8 7) zE),(W.fnOf îa q (uK st) ź ģ d kV j h m a ct),(f.2 b (Ŕ (Ŧ (Ğ e) (I.ok.Z_ x c C l)))),[.obj ą [] [],.fz (.lst ws),.fz rd,.fz md],(u3 yo P w K mg È N x ģ f a A é s H E),(W.fnOf m q (uK st) ź ģ h kV p j o g ct),(SortSt.mk' general' (pairsOf vs) #[] 7 Â),(if k=f then(k,v)::r else(k,x)::putF f v r),(if G b=Â/\G' b≠Â then Â else G1 b),(.Call (.Name ăa p) [e,.Name y p1] [] pos),Nat.min_le_right,(.inl (t6 C T e fw fh Ēg 0 0::r,.fz .zI)),List.nodup_cons.mp,(À (.builtin "type.__getattribute__")),(upd (upd n i (.own y)) y (.ins C i [])),(u3 F P w K G È N c a f d A é s H E),(Β (zy Xw a rfl (zB ó (zB zE zH)))),(Tt P w K F È N c a f d A é s H E),(zZ WC W9 Ī zE),(À (.builtin "object.__setattr__")),(st (wI Ws) Å Å Å Ía (vP ps)),(.Call (.Name "zip" p) [a,b] [] pos),Int.ofNat_le.mpr,[.int (i:Ê),x],(Œb e Â pos.line Ó=pure Å),(y.toList.drop lo),PySem.F.slot_dict_getitem.lookup,PyProof.Rows.getElem?_mirror_all,Nat.eq_zero_of_not_pos,Array.getElem?_setIfInBounds_ne,(ĉb [a] Ó=[(Å,Ċ a Ó)]),(zZ xR xP Ī zE),(eC (.dic [] [])),PyProof.Rows.wpS_lift,(Ű q++(ϲa m (j-1)).reverse),(λa b h z=>h (Sum.inr.inj z)),(yQ X.K H p ys\/yf X.K H p ys),((y==("__debug__" : Ç))=Å),PySem.wpAny_pyNext_list_item,(Ε (xm Ĺ "due")),(w_ Ĭ (w_ ϧ t5)),(wU ĵ (wU Ţ wO)),[uw C T e fw fh sd due done],(Μ (.obj C Ĺd [a,b,c,d])),(wc X ĳ cl own C s H l pn),(uw C T e fw fh sd due done),(by exact _<=16777216;omega),PySem.F.typeOf_object_class,Builtin.Builtins.bindParams,(λq=>(L q/\¬ L1 q)\/L2 q),(e2 xX Ė āb),PySem.wpAny_updateSeq_pair,PySem.codeAny_call_builtin,PySem.Calls.evalArgs_plain,(e2 ZQ Ė (eC (.int 64))),(by dsimp only at e;omega),x.toList.map,List.pairwise_reverse.mpr,Builtin.Slice.sliceAdjust,(rI Ux λi j=>.int (i*j)),(minRun' x.size x.size 0),(f (.int i t) (.int j u)),(.Compare a [op] [b] pos),(((1:Ê)*2 ^ w-1)*2 ^ l),(U3 rfl ju zE),"_law_way",PySem.wpAny_pyIter_tuple,PySem.Calls.spliced_cons,(by rw[eq_of_beq e];rfl),(by exact 2<=á;decide),Nat.testBit_mul_two_pow,Nat.le_succ,(k K i λv n m x r=>?_),(by rw[þ];show e.len),(.ins C dx (fs.zip vs)),(.str "name"),PySem.wpAny_isInstance,PySem.wpAny_getItem_of,List.Perm.append_right,Array.getElem?_eq_none,(À (Å,.dic ks ds)),(o++(Ēb k i).reverse),(if x<z then z else x),(.BoolOp .And [a] pos),((ds.map nb).map D.bl),isortK_perm.length_eq,e.gh.free,PySem.SeqAt.EqAt.same,PySem.F.slot_dict_get,List.getElem?_zipWith,List.Perm.append_left,(Ŗ λp=>(p.1,pD p)),(λz=>a (by simp[z])),(λi=>a.getD i .none),(.BoolOp .Or [a] pos),((n.trans s).trans I),(Δ (fl v v1)),(Ζ (.bl Å)),(e2 zS ĕg ŀb),(e2 yq Ė œ),((f q).mpr ĕb),PySem.wpAny_newTuple,PySem.Value.type.inj,(Χa (List.zip f g)),(λi=>bs.getD i Å),(uP (e2 yq ĵ œ)),(.tup [kV f[i].1,u]),(.Subscript o i pos),(.BoolOp op [a] pos),c.resolve_left,(.int c),"_law_spoilt_words","_law_spoilt_pairs",s₂.heap.objs.size,Nat.sub_le_sub_left,List.reverse_append,List.mem_map_of_mem,Heap.SameBut.update,C_BadNumber,(vn gK gO rfl),(by size_fits),[ŝa,"one",Ϸb,Åd],(Ýb (min ë ş)),(β++[À (.fz d)]),(by simpa using hv),(by rw[e];show ŕa),(Nat.not_lt_zero _),((i:Ê)+(m:Ê)*1),(xS (yZ b)),(.Name c p),[.int 1,ϓ,d0,d1],[.int 0,ϓ,d0,d1],(Ŋb (toString a)),(Ε (vC Ëa Å)),(λb u q=>Ġ _ q),(λ_ _ q=>Ġ _ q),(zf Ϙb ze Ĭ zE),(zf Ϻ ze Ĭ zE),(by rw[Ő,n];rfl),(by rw[Ő,A];rfl),(Ε (xm Ĺ ϩ)),0,(kF xs lo hi),(.str "mark"),(.lst [d,v1]),bne_self_eq_false,Option.isSome_map,Nat.sub_pos_of_lt,List.reverse_perm,List.nodup_append,List.Pairwise.map,C_RunError,Array.toList_push,(Źd lo hi Â n),(źe lo hi 1 Ņ),(ļa b a Ý f d),(zZ jg Zf zE Ī),(f.2 b (Ŕ Őe)),(eC (.int 65536)),(UG q Î Î ?_),(.zz o (.dK İa)),(.tup (k.map kV)),(.builtin "repr"),z.cps.toList,"fields_in_word","_law_addresses",env.cells.lookup,d.heap.objs.size,checkBuiltinCall,W.cellsFrom_some,0,List.zipIdx_cons,List.cons_append,Int.toNat_eq_max,Int.min_eq_right,A.heap.objs.size,(Δ (fl v0 v1)),(Ç->É Value),(wt as ds ks es),(wt [] [] ks es),(uh kvs p.1 p.2),(d b _ q λz=>z),(Dl K t1 t2 a b),(.ref C_NoLabel),(.ref C_BadText),(.cons rfl .nil),"table_of_rows","place_in_word",mirror_perm,binarySort',a.setIfInBounds,Nat.log2_lt,List.take_left',List.nil_append,List.drop_left',(.int 4),[ŝa,"one",Ϸb],[ώ,"low",Âd],[.int 0,.int 1],[.fz (Δ ţd)],(γ (U7 f vs)),(ϧb b o e n a),0,(σ++Ů n Â),(ys.getD j .zI),(xs.getD j .zI),(gD λi j=>i+j),(eC (.str ϩ)),(e2 ZQ Ė āb),(by rw[q];simp),(by kernel_rfl),(bs.getD i Å),(.tup [kV k,u]),(.dK (j.zip l)),((ßd).trans w),(wW ó jS),"label_places","kind_of_code","is_near_code","_law_cell_at",d.toArray.size,d.names.lookup,List.take_zero,List.take_take,List.forIn_nil,List.drop_zero,List.drop_drop,[kV kv.1,kv.2],(ξa (xs++zs)),(ċ (Ð ?_)),(τ.set i ŋb),(σ.set i īc),(w<4294967296),(vn Ya Yn rfl),(vn VT Vs rfl),(upd H5 D ϻb),(by rw[ï,K]),(TP X z0 σ Q),(.obj x fs ms),(.List es pos),((ĸg).take m),"distance",sysModules,Array.getD,"with_number","moved_right","is_far_code","dict_values","__setattr__","__getitem__",swapsWithSole,swappedStores,s.heap.IsCell,s.heap.DictAt,p.toList.take,p.toList.drop,c.heap.DictOf,W.plainGet_of,Paired.length,L2.isort_perm,E.ext.gh.free,Bool.false_or,[ώ,Ģb,äb],[ī,ĕa,Ķb],(Ċ ía Ó),(zi.near x z),(yK a p fl g),(bs.map D.bl),(Y_ a Ϟ H0),(Sum Ôf Ç),(Sum ð Ç),(.str {#[c]}),(.mk e1 e2 d),(.ins C i []),(.Expr e pos),(gR Ĭ),"targets_of","moved_left","is_address","first_word","address_of","address_in","_law_words","_law_pairs","_law_mixed","_law_empty","_law_codes","ValueError",y.toList.map,seqIndex_neg,pairsOf_size,l.row.toRowW,its'.toArray,isort_sorted,countRun',concat_meets,WData.weight,W.of_hideAll,SeqAt.RcNeAt,PySem.Within,PySem.W.Frag,Nat.sub_zero,Nat.add_zero,L.toArray,Int.ne_of_gt,Code.isFrame,Bool.true_or,(Θ (z7 2)),(ĉb es Ó),(Φa (j<=i)),(ÿ ðd::c),(uh kvs k v),(qc K mg vk),(jA N π m2),(gallopOf s),(b.marked _),(atKey xs k),(I.tO x c e),(I.Y0 x c e),(A++[d]++B1),(.int (i+j)),(.inl {c,w}),(.Name x p2),(ře Śa),(tH ps a),"with_part","number_at","four_from","_law_word","_law_some","_law_made","WORD_BITS","BadNumber",seqIndex_of,looks_mroIn,a.names.all,W.plainOver,W.kitx_list,W.emptyDict,Value.float,Sum.inl.inj,Reps.length,Reps.append,Heap.ExtBut,D.TOi2.symm,[d,.int 32],(Ϸ n q c),(Ŗa .Mult),(Φa (j<i)),(λx=>!x.1),(zj (UB 1)),(zB yV œb),(upd H x o),(upd G p u),(jF K mg F),(j b o e c),(a33.n X G),(W.sub _ h),(Lm q\/d q),(.list ďc),(.done ϑj),"nought","put_word","put_byte","pairs_of","max.loop","is_label","bytes_of","RunError",wpAny_Name,typeLookup,typeIs_str,sortedHeap,scope.kind,es.toArray,builtinsNs,b.Pairwise,X.Pairwise,X.A.frames,Walks.list,Value.type,Str.length,SeqAt.RcAt,0,OwnMs.snoc,OwnMs.join,D.i1z.symm,D.TOz.symm,[.lst ŀc],[.lst ţd],[.lst Ŏ],(ϱd N vs),(ÿ a::b),(Ó::Ťa),(λq=>q=y),(λ_=>Â),(λ_=>#[]),(p.1<=q.1),(kq 1 Ŀg),(eL FL fs),(c.push N),(acc++its),(a.d4 X G),(.zz ob v),(.val Đ),(.ref Äh),(.ref ϟg),(.int ş),(.bl (!k)),((k,x)::r),"word_of","word_at",0,"told_at","rows_of","look_at","is_jump","held_in","code_in","byte_at","NoLabel","BadText",x.un.slot,tupleText,sortedAll,s.heap.Ns,o.reverse,isSubtype,g.toArray,g.gh.free,eq_of_beq,c.heap.Ns,c.gh.free,as.length,a.size_eq,a.g.trans,WData.int,W.takesIn,W.takerIn,W.readsIn,W.findCls,W.OpenLaw,IsTup.new,I.ok.glob,0,Arguments,[ŝa,Ëd],[ōb,ϵb],[ϩ,ώ],[ώ,Ģb],[ώ,äb],[.p 0 []],(Ăe Ĳa),(ňc ūa),(ĸc r j),(Ëf ğ),(Μa ϔa),(Β õa),(Β še),(Α ēd),(Α že),(Α āb),(Ηa Ϫg),(Ê×β),(Ϲ _ z),(Ϲ _ a),(ı c.1),(Ġ _ g),(À Èc),(À ĺj),(zA g zF),(yY K pP),(yY K YH),(yY K YF),(xs++[x]),(xJ K qI),(xJ K qH),(xJ K YG),(xJ K V2),(xJ K V1),(x b u e),(st::sts),(r.1[0]?),(pB ks k),(n*2 ^ l),(i E z q),(b i q z),(acc++xs),(WU te t),(B j q z),(B b o e),(.int 24),(.fz ϓ),(ŵg j),(Ŧg _),(ϥb c),(wI zW),(B q w),(yZ d),"summed","signed","row_in","places","joined","far_at","extend","do_row","behind",raiseNew,pick_run,p.length,o.toList,listText,k.length,its.size,h.IsList,h.DictAt,g.h.free,failedOf,f.typeIs,entryFor,e.h.free,e.frames,d.typeIs,d.isList,c.h.free,a.toList,a.h.free,W.length,SortKind,Reps.set,Reps.rep,OwnMs.Pi,N.ext.gh,List.zip,I.ok.has,GenState,E.ext.zz,["four"],(Œj ?_),(Ϯa U8),(ĭa op),(σ++τ),(zO Ļd),(zJ Ċe),(yt ĵ),(yt Ŀ),(xg ķ),(wP J _),(wF Ĭ),(qU q c),(pyTs a),(kv.1=k),(k+1<=j),(j4 7 8),(j4 3 4),(gD ŝd),(eC ðh),(eC Õf),(eC Ĝb),(by rfl),(MV h H),(Dj K a),(Di K a),(Df K a),(2 ^ 63),(2 ^ 62),(.str z),(.nx σ),(.lst L),(.int x),(.int n),(.int k),(.inr a),(.inl i),(.inl h),(.inl e),(.inl d),L.mono,"taken","leads","label","count","added",zD.made,xy.cons,t.trans,setItem,r.trans,ps.take,o.slots,l.trans,h1.get?,getAttr,e.pairs,d.mapOf,bs.getD,b.trans,acc.map,W.frame,Reps.Ps,L3.getA,I.stack,I.ok.tP,C.trans,Builtin,(z7 8),[v0,v1],[d0,d1],(Ŭf k),(ăe k),(Ňc l),(Ϣj i),(Ϯ f),(Ôd o),(ϐe a),(ŝb f),(Ĝa O),(Śb b),(Ľa q),(ϳa B),(Ϧb _),(Ŏb j),(œa _),(Ŷc k),0,(Ŋa _),(Ŕ c),(Ø g),(ê+1),(ļ a),(É M),(À c),(zJ zE),(wI ys),(wF zE),(r::ms),(n::ns),(m::ms),(m-1-j),(m q c),(lo σ),(j+1+m),(hi σ),(g b a),(fs β),(f v u),(f q z),(eC Vb),(d::ds),(c%5<4),(a ϸa),(a q c),(Zo as),0,(Vf xs),(L q z),(Dg ks),(C q w),(0<c%5),"repr","part",uX.pop,uA.fin,t.mono,r.drop,ps.zip,ou.loc,o.bind,ns.sum,mirror,l.most,frames,ds.set,d.getD,bs.map,b.Perm,Y.drop,W.done,T.done,S.kind,L.keep,L.heap,I.step,I.look,H.keep,0,E.back,D.l2TO,B.cell,(z7 7),(yZ a),(yA _),(xG 5),(xG 3),(x3 l),(x++y),(vS d),(vH m),(r β),(nb d),(mA f),(kV k),(k'=k),(c/64),(c++a),(c σ),(b σ),(a==b),(Ls i),(J8 K),(I e2),(0<=w),[À (.fz (.lst NS)),À (.fz (.lst (wI W))),À (.fz (.lst (a.map pD))),À (.fz (.int c)),À (.fz (.int w)),À (.fz code),À (.fz (.lst [.str u,.str (bif decide (4<w)then "words" else u)])),À (.tp Ã (bif b&&d then[.own (.lst (wI W)),.own (.lst (a.map pD))]else[ww (b,h),ww (d,f)]))],(.Attribute o m apos),[.tup [.int (-1),.int 0],.tup [.int 65536,.int 0],.tup [.int 0,.int (-1)],.tup [.int 5,.int 256],.tup [.bl Ã,.int 1],.tup [.int 3,.bl Ã],.lst [.int 0,.int 1],.tup [.int 1,.int 2,.int 3],.tup [.int 4],.zI,.int 7,.tup [.zI,.int 0]],(Α (e2 zS (yX (zA (e1 jW œ) (zA (eC (.int 65536)) (zA (eC (.bl Ã)) (zA (eC .zI) (zA (eC (.str "0")) (zA (e1 jW (eC (.int 65536))) (zA (e2 VP (eC (.int 10)) (eC (.int 12))) zF)))))))) (e2 xX (e2 yq Ė (z7 2)) (eC (.int 7))))),(jC (β1:=[À (.fz (.lst NS)),À (.fz éa),À (.fz Űc),À (.fz (.int c)),À (.fz (.int w)),À (.fz code),À (.fz (.lst [.str u,.str (bif decide (4<w)then ī else u)])),À (.tp Ã [ww (b,h),ww (d,f)])]) ?_),(qb kE kW rfl vV gB (t7 (zJ ó) t8)),["_law_way","_law_code","_law_words_here","_law_pairs_here","_law_machine","_law_e","_law_good"],(qf (tE (e2 xn (xB (za qI (xI Ą ϻ (z7 4) zF)) (za qI (xI ą ϻ (z7 4) zF))) ĵ)) (tE (e2 xn (xB (za qH (xI Ą "memory" (z7 4) zF)) (za qH (xI ą "memory" (z7 4) zF))) (z7 6)))),(Β (zf Ϻ ze (yJ (yg (zB (Zk Yz Yy zE) (zB zE (zB u7 (zB wo (zB yV (zB (Zk Yz Yy zE) (zB (zZ Er El zE zE) zH))))))) (yD (zO (zO (zO (zO Ļd)))) Û))) (Λ (zZ xR xP Ī Ĭ)))),(.builtin "getset_descriptor.__get__"),(yP (xS (yZ a)) xQ (zJ (Λ (z8 3))) (zJ zE) ś),(λc=>0+1=0/\c=(Â,0)/\st=wQ κ x #[] Â g\/1<=0+1/\c=(Â,ĕ)/\∃q y,q.size<=1/\st=wQ κ y q Â g/\y.Perm x/\uR ky y 0 ĕ),(zB (yJ (yg (Β (zZ xR xP ó zE)) Ŀb)) (Β (yJ (yg (zB (zZ jg Zf zE zE) (zB zE (zB (zZ xR xP ó zE) zH))) (yD Ļd Û))))),((p.setIfInBounds i (d,Ϥ+Y.length,G)).eraseIdxIfInBounds (i+1)),(.ins C dx (putF f w (fs.zip vs))),[.int 0,.int 4294967295,.int 2147483648,.int 1,.int (u%7),.int (65530+u%12),.int (u*7%4294967296),.int (u*5%4294967296)],[À (.fz (.int w)),À (.fz code),À (.fz éa),À (.fz (.lst Ŏ)),À (t6 C T e fw fh Ēg 0 0),Â,Â],(xB (e1 (gF Ą Ã) (z7 4)) (e1 (gF ą Ã) (z7 4))),(uY (Ο (Νb (wz ["code","found"] ["kind"]))) rfl),(λxs H Q=>(∃i,xs=[.int i]/\Q (.int i) H)\/∃k,xs=[.bl k]/\Q (.int (if k then 1 else 0)) H),[.int (-1),.int 4294967296,.bl Ã,.str "0",.zI,.lst [.int 0],.int 1000000000000,.bl Å],[.fz T,.fz (.int e),.fz Ċb,.fz (.dic hk hv)],(c==("__debug__" : Ç)),[À (Å,.int w),À (Å,code),À (Å,.lst (wI W)),À (Å,.lst Ŏ),Â,Â,Â],[.tup [.str "carry",.bl Å],.tup [.str "nought",.bl Å],.tup [.str "sign",.bl Å]],(e2 gH (eC (.int 21)) (eC (.int 134217728))),(λr s'=>r=.ok (.ret (.bool Ã))/\OldK c.heap s'.heap/\s'.os=c.os/\AllBare s'.gens),[À (.fz (.int w)),À (.fz code),À (.fz éa),À (.fz (.lst Ŏ)),Â,Â,Â],(X.env.scope.kind == .class||(X.env.scope.kind == .module&&ő != X.env.globals)),(PySem.wpAny_of_eq (a:=Įa) (by first|rfl|(simp only[firstArgMember];rfl)) ?_),(a::b::zY),([head,.ref L,.none,rawInt L,.none]++(if pl.isEmpty then Ů 6 Įa else pl)),pendingOf,(čb y.1=À .cell/\((cellsFrom (Ý+1) a.names []).lookup y.1).isSome=Ã),(λc=>c.1=Â/\∃q y,q.size<=1/\st=wQ κ y q Â g/\ϙ x/\uR ky y 0 ĕ),[À (Å,.lst Ŏ),À (Å,x),À (Å,.int k),À (Å,y),À (Å,z)],(qx 0 [.at [Ň] Ða] (VD (za V4 (zA Ă àa)) (VD (e2 zS ĕg ŀb) wO))),(by let:=Int.add_le_add_right (áa h) (n:Ê);rwa [Int.zero_add]at this),(λq z=>h q (ο (s q z))),(zy ZT b rfl (zB ó őa)),(.builtin "list.__iadd__"),[À (.fz (.int w)),À (.fz code),À (.fz b),À (.fz a),Â,Â,Â],(λc=>c.1=Â/\∃y q g,st=yK y q Â g/\vG 0 q.toList y.toList/\ϙ x),(xB (za YG (xI Ą "stands" Ă zF)) (za YG (xI ą "stands" Ă zF))),(by first|show Or.inl rfl|show Or.inr ò|show Or.inr (Or.inr rfl)),(.Attribute o name apos),(λr=>pure (.done (À r,e.2.1,e.2.2.1,e.2.2.2.1,e.2.2.2.2.1))),(l.map λp=>{PyData.keyHash w.params p.1,.str p.1 p.2.1,p.2.2}),(ċ ⟨_,rfl,ċ h⟩),(λxs H Q=>∃a kvs,xs=[V.ref a]/\Rd H a Ł/\Q (.int Ķ) H),List.mem_singleton.mpr,[.obj Ą [] [],.fz (.lst [.tup [.str "stop"]]),.fz b,.fz a],(bif b&&d then[M.own éa,.own Űc]else[ww (b,h),ww (d,f)]),(Xl (pY Ą "step" 0 [] YH wO) (pY ą "step" 0 [] YH wO)),(tD ţ xz),[uw C T e fw fh (q_ (wI Ws) a b c Ía (vP ps)) due done],(.done (À (Zl a b (Ű q) i (j+1)),Ű q,i,j+1,g,k,u)),(λr=>pure (.done (À r,d.2.1,d.2.2.1,d.2.2.2.1,g))),["_law_address","_law_byte"],(zA (Ε (xm [Ň] Ða)) (Α (za V4 (zA Ă àa)))),(xD (i:=3) V_.nd rfl ò (zy On b rfl (zB ó ϯa))),(wX (yP LS LO (zJ Ĭ) (zJ wo) ś) (zj (yI wo)) wR),(U6 L r Î Î (λc=>Þ (o _ _ Î Î c) Î) ?_),(.yield (Â,e.2.1,e.2.2.1,e.2.2.2.1,e.2.2.2.2.1+1)),PySem.evalArgs_none,(if v<0 then max (v+(n:Ê)) 0 else min v (n:Ê)),(if v<0 then(v+(n:Ê)).toNat else min v.toNat n),[Ėa,"_law_found",ϵb,"_law_way","_law_address"],[À (Å,.int c),À (Ã,.lst []),Â,Â,Â],(λi j a b=>by rw[show i=j by omega];show Öa _),(zA (e2 zS (z7 7) Ŀ) (Α (e2 zS (z7 7) œ))),(b (ds.map (λd=>À (Å,d))++Ů (n-ĉ) Â)),(zO (zO (zO Ļd))),[.str u,.str (bif decide (4<w)then ī else u)],[.obj C [] [],.fz T,.fz (.int e),.fz rd,.fz md],(if q=p then _ else if Lm q\/d q then _ else _),(λi=>decide (0<=i)&&decide (i<1099511627776)),(vZ (ZO (eL p_ àa)) (vZ (ZO (eL p_ đb)) pj)),(Âb x a (uK st) ź ģ .none kV d g h b ct),(kvs.map λkv=>if kv.1=k then(kv.1,y)else kv),(j (E.go d) c λv x t r i=>q v _ _ (Śb r) i),(by rw[I.ok.glob];show I.mod.glob.keeps I.bk),(assign (.Name x j) Ó),(zZ xR xP zE Ĭ),[À (Å,.lst ds),À (Ã,.dic [] []),Â],(Ĉc (Ð (êa hz rfl (x:=.ref TO) rfl ?_))),(λq=>(t q/\¬ y q)\/((y q/\¬ L1 q)\/L2 q)),(u3 yo P w K mg È N q ģ f a A é s H E),(u3 yo P w K mg È N c ģ f g A é s H E),(u3 yo P w K mg È N a ģ f b A é s H E),[À (Å,dE C T e),À (Å,.int c),y,Â],(Ğc (λk' x=>if k'=k then v else x) ks vs),(Ōa þa ña Ó (Ċ þa Ó)=Ċ þa Ó),(min (if k<0 then k+(n:Ê)else k) (n:Ê)),(if G p=Â/\G' p≠Â then Â else G1 p),(ĩa Üb (Nat.sub_lt (ĩa (ϱ _) l) Ŧd)),(wX đg (Γ (L_ OE LQ rfl gW Ti âb)) wR),(if([]:Á Keyword).isEmpty then 0 else 1),(acc++(if k>0 then ", " else "" : Ż)++t),(δa (λi j=>uZ i+uZ j<=134217728) (i*j)),(λ_=>ñ {_,rfl,Yu.go {d,h,f,by omega}}),(vf (WN .list rfl rfl xK vt VH (zJ ğg))),(Tt P w K mg È N x ģ f g A é s H E),(Α (xB (Ε (vC "BadState" Å)) ėg)),(u3 O P w K I È N g d f C A é s H E),(by let:=g m;let:=g B;rw[ï,Ðb];omega),(Builtin.«zip.__next__» {[.ref z],[]}),(Ŋa { cls:=.type ϗ,Č:=.dict #[] }),(zn (h pos l s σ H _ I j) λg a c=>?_),(zn (g pos d s σ H _ I h) λf w b=>?_),(wc X ĳ cl own C s2 H2 fp (X.pn++z0)),(.Tuple [.Name x p1,.Name y p2] kk pos),(.Call (.Name g gp) [.Name n mp] [] gc),(.Attribute (.Name x p2) "values" apos),(v_ (own:=[ŝa]) rfl),(bif b then 1 else 0),PyProof.Rows.slot_tuple_getitem.lookup,(.ret .none),(À (.Call (.Name x np) ă [] cpos)),(λq a b=>dj q ((ϑ).mpr (.inr a)) b),(k.pin (b,o) (ņa _ (ņa _ (LG c e)))),(if x∈cs then getA fs ms f else Â),(if k'=k then À v else getK ks vs k),(Z.pin (b,o) (ņa _ (ņa _ (LG d e)))),(PySem.F.args_tuple_iterator_next_1 _),(Builtin.Tuple.tupleItemsOf Çc >>= _),[À Ĕc,Â,Â,Â,Â,Â,Â,Â],[.obj Ą [] [],.fz Vw,.fz rd,.fz md],(Âb x a Ëc ź ģ g kV d h i b ct),(Âb m q Ëc ź ģ c kV h d g a ct),(jd (tD ţ qN) (L9 Ĺj (L9 ųc t5))),(e2 VP (eC (.int 10)) (eC (.int 12))),(λ_ _ z=>nomatch z),(.Subscript þa k t),Builtin.bitNot,Builtin.SmallTypes.ownedTupleHandOut,(eC Ća),(Υ (.obj C [Ϡ,ũa,Ùb] [a,b,x])),(Ψa (.Attribute þa "values" apos)),(i (Ϯ d) c λt p n=>q _ _ (Śb n)),(backToKw cpos (keywordEach [] Ó)),(W.frame _ _ _ f λb _ o e=>Ġ _ e),(.Tuple [.Name x e,.Name y f] c pos),(.Call (.Attribute o m a) [] [] pos),(Âb Į c g h a dV kV B Y an d ct),(Ņb (show uA _ _ _ _ _ from h).sx),(η (jn t a b y) (U9 t a b (x+1))),(zn (k f s σ H _ I h) λc l d=>?_),(zn (j g s σ H _ I h) λv m e=>?_),(zn (b d s σ H Q I h) λc f e=>?_),(zf Ϙb ze (wW ó Xi) (wW ó gA)),(Âb Į c g h a dV kV B Y Z d ct),(δa (λ_ j=>0<j/\j<2 ^ 64) (i/j)),(ϭb y=À .cell\/ϭb y=À .free),0,(êa hz rfl (x:=.bool Å) rfl ?_),(l d c λw s n g=>q _ _ (Áb n) g),(kz ó (gR (zZ xR xP Ĭ zE)) gQ),(if ns=[]then z else .int (Ye ns)),((þc p).mem_iff.mp (Żc (žc a))),PySem.F.entry_tuple_iterator_next,(ηa (.Attribute o "extend" ž)),(λq z w=>A q Ūd λB=>w (j q B)),(b (ms.map À++Ů (n-ό) Â)),((Đb).map pD++[w]++(ϰb).map pD),(λC s H c b=>Ĭ),PySem.wpAny_newFunctionEnv_cells,PySem.Calls.Name_function_global,(Ψa (.Attribute o "clear" ž)),(êa hz rfl (x:=.ref TI) rfl ?_),(λm t i j s o=>f m t i j ĸj o),(λm j c f s o=>a m j c f ĸj o),(e2 zS (Ε (xm [Ň] şb)) ŀb),(Builtin.«list.sort» {Ãa,[]}),(.FormattedValue e (-1) Â pos),((wI ys).any λy=>wK y (.int x)),PySem.Calls.call_function_entry,(δa (λ_ j=>0<=j) (i/2 ^ Íc)),(η (jp t a b y) (UA t a b x)),(êa hz rfl (x:=.none) rfl Śa),(zZ WD WA (zZ Yl Yj zE Ĭ) zE),(kvs.any λkv=>decide (kv.1=k)),(jm left (wH f) λi=>K x (b+i)),0,(PySem.F.args_dict_get_3 _ _ _),(Nat.lt_of_add_lt_add_left c.1),(Nat.le_of_sub_eq_zero (Ļg c)),(.ListComp f [{j,b,d,0}] a pos),((σ++Ů 2 Â).set i (À b)),(ļa c a Ý f d),PySem.wpAny_comprehension_free,PySem.AutoSeq1.sub_tuple_tuple,Array.perm_iff_toList_perm.mpr,[Â,À (.fz (.exc Ŏa)),Â],[Â,À (.fz (.exc Ëa)),Â],[y0,y1,y2,y3,y4,y5,y6,Â,Â],(Υ (.obj C [Ϡ,ũa] [a,x])),(Μ (.obj Ą Ĺd [a,b,c,d])),(Μ (.obj C [Ϡ,ũa] [a,b])),(λq z w=>o q z (ο (i q w))),(λq z w=>A q (ο (i q z)) w),(if şa+Ìc<=yc then _ else _),(e2 zS (Ε (xm Ĺ Ϡ)) ņg),(X.take k++r.toList++Y.drop e),(PySem.F.args_tuple_add_2 _ _),(PySem.F.args_dict_values_1 _),(!c.isEmpty&&Ŝe (c.size+ù)),List.pairwise_iff_getElem.mpr,(ÿ t==Įa),(.int 65535),(Ϝa (1*2 ^ ((w:Ê)).toNat)),(Τc (.bl (!decide (x=.zI)))),(Μc (o q z ((ϑ).mpr ĕb))),(ę Ņ Ņ hi-ę Ņ 0 lo),(ę ë ë hi-ę ë 0 lo),0,(λq z=>(ϑ).mpr (.inr Ĭb)),[.int (i:Ê),v],List.pairwise_iff_getElem.mp,[À (Å,.dic Ía Ôc),Â],(λc d g e=>i a f k c d g e),(q_ ġa Å Å Å Ía Ôc),(j.qt (d:=.zI) (v:=.zI) rfl),(if g=f then À u else i g),(if d q then H' q else H0 q),((Úc).map λa=>(a,gU ps a)),(!(Şe j i 0 Ča 1).isEmpty),Option.isSome_iff_exists.mp,[Ϡ,ũa,Ùb,ϩb,ϩ,"due"],(Ōa e f Ó Ãd=Ċ e Ó),(λq=>(t q/\¬ L1 q)\/L2 q),(λq z=>.inl ((J q).mpr z)),(λd1 d2 v=>ON I n d1 d2 v),(λc=>h y i Î d (.inr c)),(yn 3 (za Ij (zA Ă đb))),(e2 ZS (e2 gI œ ĵ) œ),(call (.builtin a) (v::us)),(by rw[þ,<-f];show ϔ _),(by let:=g m;rw[Ðb];omega),(F (vN c.1++b::vN c.2.2.2)),"dict_reverseitemiterator",List.exists_cons_of_ne_nil,Int.fdiv_eq_ediv_of_nonneg,Builtin.Slice.sliceApplied,Array.toList_setIfInBounds,(zB zE Ób),(Λ (zZ jg Ek (z8 3) zE)),(zy Xw a rfl (zB ó Ób)),(zf (zd (zV d)) ze Ī zE),(zB (wW ó qN) (Β Ĺj)),(yP LS LO ïa (zJ wo) ś),(if Đg=Ã then _ else _),(if d q then Â else k q),(if d q then Â else A q),(fr.elim .none λf=>Æb f),(e2 yq Ă (eC (.int 31))),(by dsimp only at a;omega),(W.methodObj Đ (.ref y)),(LF Ϩe a rfl (w_ ŀd t5)),(F.args_list_extend_2 _ _),(.lst [.str Ĳb,.str ī]),"object.__getattribute__",PySem.F.entry_dict_values,[Šg,"_law_code",ũe,Ūe],[ώ,ϗa,ŝa,Ķb,"known"],(ıa (ļa x ģ Ý f c)),(ıa (ļa q ģ Ý f a)),(ıa (ļa c ģ Ý f g)),(ıa (ļa a ģ Ý f b)),(Ε (vC "BadWords" Ã)),(τ.set i (À (Ã,d'))),(λp:Ù=>(uf h p.1,p.2)),(λf vs=>PySem.call f vs),(wz ["four"] [Ła,"low"]),(rule "list.sort.gallop"),(aE Ď (λb a=>ůb.1) k),(X.N.map (hide own)++own),(.ins C dx (putF f y fs)),(.call (.ref R) {Ãa,[]}),((d.endLine==f.line)=Ã),(σ.set i ŋb),x_is_WordMachine_Machine,slot_list_getitem.lookup,PySem.F.type_list_extend,PySem.F.type_dict_values,PySem.F.slot_tuple_index,PySem.F.slot_list_extend,Int.lt_iff_le_and_ne.mpr,(ôb β c.2.1 c.2.2.1 a),(δa (λ_ j=>0<j) (i%j)),(Υ (.obj C [Ϡ] [x])),(Μ (.obj C [Ϡ] [a])),(Ű q++ϲa ϵ (j+1+m)),(Ę .inl λw=>.inr ύg),(xs.drop (ę ë 0 lo)),(seqObj Ĝ d.toArray 0),(by unfold zA;rw[S];rfl),(by rw[d];simpa using m),(bif k then ww r else c),(bif bs j then 1 else 0),(args_tuple_getitem _ _),(YV Ą (ji tU) Ğb ϥe),(Option.map (λx=>!x) y),(.Attribute o "get" ž),"itertools.zip_longest",x_is_RowMachine_Machine,PySem.F.slot_list_index,PySem.F.slot_dict_items,PySem.F.entry_tuple_add,Nat.testBit_mod_two_pow,Nat.testBit_div_two_pow,List.mem_iff_getElem.mp,List.length_pos_iff.mpr,List.getElem?_replicate,Builtin.Dict.updateFrom,AutoSeq1.sub_tuple_list,AutoSeq1.sub_list_tuple,[À (Å,.lst ds),Â],(λx l r Q c R O I=>?_),(pY Ą îd 0 [] pP wO),(pY ą îd 0 [] pP wO),(by rw[q];show ńj rfl),(Vt z m j hv {n} g a v),(Nat.add_left_cancel c),(List.take_sublist _ _),(ET (N:=N) s' o hL Î),(.int (uv bs n:Ê) t'),"WordMachine.__init__",PySem.F.slot_tuple_add,PySem.F.entry_max_loop,PySem.F.entry_dict_get,PyProof.Rows.bitAnd_pp,Nat.lt_of_succ_lt_succ,Nat.le_of_succ_le_succ,List.mem_filterMap.mpr,List.getElem?_set_self,AutoSeq1.sub_list_list,(Ÿb pos (ĉb es env)),(Ϯb a (Ěb λ_=>#[])),(λq z=>(ϑ).mpr Ċa),(λc=>MH x (z+1) c st),(λb o g e=>R b o g e),(yJ (k_ QF b rfl őa)),(rI C λi j=>.int ϐa),(n.trans (Äb e.gh j)),(k.trans (Äb e.gh i)),(j pos u s σ H _ I h),(gS (Yv Ĝj (Yw Ĝj))),(by rw[wl Î];show w),(by rw[c];show{_,g,q}),(b.trans (Ϛa b.gh f)),(b.toList.headD .none),(MD a b (Ű q) i Ēa),(.inr ((f q).mpr Ċa)),(.inl {b,k,e,rfl,rfl}),(.While c body [] pos),(.Call Ŀj ă [] Ų),((ps++[(a,f)]).map pD),"RowMachine.__init__",wpAny_pyNext_list_end,wpAny_pyIter_listiter,codeAny_call_function,X.s₀.heap.FunFrames,Std.Legacy.Range.size,Nat.add_lt_of_lt_sub',List.Pairwise.sublist,Int.mul_ediv_add_emod,[Ϡ,ũa,Ùb,ϩb,ϩ],[mE Ą Z1 0,.fz ϗg],[mE ą jq 1,.fz ϗg],[dE C T e,.int 65535],[.ref I,.none,.ref S],(öb [a:n] (Â,a) F),(ϰc b o e n c (a b)),(λp:Ù=>uf Ţd p.1),(λo v z=>by cases z),(λh=>f (by simp[h])),(zf Ϙb ze (z8 6) zE),(x.above y c (Ŵe h)),(v_ (own:=[Ëd]) rfl),(ug β c.2.1 c.2.2.1),(r.2.set i (À r.1)),(qU (u.vi b c v q) d),(qP (tE ĵ) œ Ŀ),(by simpa using this),(by rw[<-Ÿa];show c),(MI D.l1i1 J.toArray),(List.Perm.cons q ih),(F.args_zip_next_1 _),(Ac I j l hf f e g i),(.str (vE êb).shown),(.inl (Ã,.lst ġa)),(.Slice lo hi Â p2),(.Call þa [] [] pos),(.Attribute o f tpos),(L.take ň),0,"str_ascii_iterator","itertools.pairwise",wpAny_loadName_local,m_NoAddress_RunError,Nat.eq_of_testBit_eq,Nat.add_right_cancel,Nat.add_le_of_le_sub,List.getElem?_set_ne,Heap.UpToSlots.trans,Array.toList_reverse,(f.zip a),[.Return (À e) rp],[.Attribute o f Èa],["one",Ϸb,"borrow"],(Ξ (vn Q6 Qp rfl)),(μ (ZP .list Ă)),(ŀg (Ĉc {rfl,?_})),(Ϯa (É ťb×Ä)),(Μ (.obj C [] [])),(λxs z=>by cases z),(wK x y&&dEqs xs ys),(tE (e2 yS ϲd ŷa)),(tE (e2 yS őg œ)),(zB ğg (zB ğg zH)),(tE (e2 VN ĵ ãa)),(tE (e2 VN Ă ãa)),(if k then 1 else 0),(if a then 1 else 0),0,(by rw[đ]<;>omega),(by rw[zr z];show c),(by rw[i,l];show hz),(a q ((eL q).mpr z)),(a q ((eL q).mpr w)),(Zm a b ñd (i-1) j),(X_ I l k hv ?_ i a),(Qd (J6 rfl vt őa)),(Nat.le_add_left ..),(List.nil_perm.mp p),(.Subscript o k Èa),(.Subscript a b pos),(.Call c ă [] pos),(.Attribute o f Èa),((τ.take k).map jX),((d q).mpr (.inl c)),"getset_descriptor","dict_itemiterator","Machine.registers",z.cps.toList.length,wpAny_loadName_cell,pt_BadWords_NoLabel,pt_BadWords_BadText,pt_BadState_BadText,m_BadWords_RunError,entry_tuple_getitem,beq_eq_false_iff_ne,Heap.get?_update_ne,F.entry_list_extend,EntryCells.newEntry,C.mod.nolimit.keeps,0,Array.toList_inj.mp,[ώ,"low",Âd,äb],[.at [Ą,ą] ϩb],[.at [Ą,ą] Ùb],(δc (.Name ĭb p)),(δc (.Name Ŕb p)),(Τc (Τ (x=.zI))),(θa (.Name èb p)),(θa (.Name ϗ p)),(Ġ _ (Ġ _ řb)),(À (.Name x np')),(λx l r Q c q=>?_),(upd G p (U7 f vs)),(storeName Ó x u),(q_ ws a b c hk hv),(qY λi j=>.bl ϐa),(qU (u.vW b e q) d),(jD (vf Ĭ) zE zE),(intBits_le_64 a b),(f x y&&pf f xs ys),(by simpa using hu),(by simpa using h2),(by simpa using e2),(by simpa using e1),(by rw[ŧ];show b),(by rw[þ];show c),(bubble_perm _ _ _),(.tup (p.1.map kV)),(.ret (.int j ě)),(.Tuple elts kk tp),(.Assign Ũe v pos),((Úc).map (gU ps)),(xS (yZ a)),(wW ó qy),(ks.map kV),"object.__class__","internal:collect","dict.update.loop","Machine.__init__",slot_listiter_next,s.heap.IsTupleIter,getattributeRaised,decide_eq_true_iff,SeqAt.EqAt.str_int,SeqAt.EqAt.of_refs,SeqAt.EqAt.int_str,PyData.showableAll,Nat.lt_or_eq_of_le,Nat.lt_of_le_of_ne,List.zip_nil_right,List.mem_range.mpr,List.getElem?_take,Int.lt_of_lt_of_le,F.slot_list_extend,Code.quiet_builtin,Array.append_assoc,(Łc (Ϛa g.gh m)),(Ι (zB ϧ Ϧd)),(ϳa (Ϛa c.gh e)),(Ε (vC Ýa Ã)),(Ε (vC Ëa Ã)),(λx y=>D.tup ϖa),(λv _=>v=.bl Ã),(λb u e=>Ġ _ e),(λb c=>Þ c ü),(λ_ h=>Þ h ü),(λC s H c b=>Ī),(zf Ϻ ze õa zE),(zZ xR xP ó Ī),(zZ bq bi ó Ī),(wt [] [] p.1 p.2),(wpAny_handled ?_),(seqObj Ĝ Ìa n),(s.ok i q (B q z)),(r.1[c.1.length]?),(n t s σ H _ I h),(jC (β1:=čg) ?_),(jC (β1:=Ēj) ?_),(g d s σ H _ I h),(g b s σ H _ I h),(e2 zS (z7 6) œ),(by simpa using t),(by simpa using p),(by simpa using i),(by simpa using g),(by simpa using b),(by simpa using a),(by simpa using G),(by rw[ϝc];omega),(by rw[Ðb];omega),(by rw[Ő,m];rfl),(by rw[Ĩ,Ĩ,l]),(by rw[þ];omega),(args_list_sort _),(Mo t1 t2 h l1 l2),(Mn t1 t2 h l1 l2),(M5 a b ñd ē j),(M4 (k:=1) (yh 7)),(M4 (k:=0) (yh 7)),(.yield (Â,m+1)),(.str (Ũa).shown),(.Tuple es x1 pos),(.List [ea,eb] lp),(.IfExp c a b pos),((Ła : Ç)∈XZ),((c+7919*k)*48271),x1.g.trans,wpAny_sequenceKey,wpAny_pyIter_enum,wpAny_assign_Name,wpAny_Assign_Name,s.heap.IsListIter,meets_dict_values,decide_eq_true_eq,d.params.defaults,Value.isInt_shape,PyData.hasDictAll,Obj.cls_mapFields,List.length_range,List.getElem_take,List.getElem_drop,Calls.spliced_nil,Bool.not_eq_true',Array.size_append,[.tup [.str Ōc]],(ξc (wW ó xz)),(åc (ĸ).toNat),(Ϸ i q (t q z)),(Ϸ i q (I q z)),(γc (i*2 ^ Íc)),(ϰc b o e n F t),(ļa g d Ý f C),(τ++Ů Ĉb Â),(λx=>x.1.isSome),(λB H Q E h=>?_),(zy QP b rfl âb),(zZ xR xP zE Ϸc),(zZ Yl Yj zE Ī),(wP (s.free t) _),(pW (β.take np)),(d b (u b o q a)),(c b (n b o q d)),(by rw[z];show a),(by rw[i];show U),(by rw[i];show T),(by rw[i];show O),(by rw[i];show I),(by rw[c];decide),(List.cons.inj a),(L0 q\/L1 q\/q=p),(.tbl (ps++more)),(.inr {rfl,i9 h}),(.Tuple es k pos),(.Pass {0,0,0,0}),(.Dict [] [] pos),((A q r).trans e),(xB _ _ _),"odict_iterator","State.__init__","REGISTER_COUNT","Machine.stands","Machine.memory",z.cps.toList.map,wpAny_pyIter_zip,wpAny_eqBool_int,noFill_tuple_add,fillsInplaceSlot,f.heap.objs.size,Option.getD_none,Nat.zero_testBit,Nat.succ_lt_succ,Nat.sub_sub_self,List.range'_succ,List.map_snd_zip,List.drop_length,List.any_eq_true,List.all_eq_true,F.entry_zip_next,F.entry_sum_loop,Array.toList_map,0,[{À Űd,e,kp}],[x0,x1,x2,x3,x4],(Χc (.str Ğh)),(Χc (.str ŝa)),(ř (I.Wr b z)),(λz=>e (þd z)),(λq=>nomatch q),(λq z=>i q Įf),(λq z=>h q Ĭb),(λc=>nomatch c),(zZ jg Zf zE zE),(yK x ğj Â g),(yH (eL Xn Õb)),(wt [] [] ks us),(wDs a<=1000000),(vZ (yt Ţ) pj),(tu (eL OT ğb)),(s i q/\¬ L1 q),(jF X.K â FM'),(e1 (vC z b) fc),(c.zU.fresh ğ),(by simp[Ġh,c]),(args_sorted1 _),(a.symm.trans e),(Vm (wF ϧ) LI),(.tup [ϸg,Ūg]),(.obj Ą [] []),(.obj ą [] []),0,(.obj C Ĺd ħj),(.int (ĉ:Ê)),(.int (i+b2i k)),(.inr {rfl,rfl}),(.inr (i q Įf)),(.inl {rfl,rfl}),(.done (Â,())),(.builtin "all"),(.Expr e q1::zY),((őd).length=n),"type.__call__","proto.unchain","list_iterator","NUMBER_WIDTHS","Machine.steps","Machine.place","Machine.again",x.toInCall.keep,vx_Machine_byte,vs.toArray.size,sc.names.lookup,px_NoAddress_mo,px_NoAddress_mb,px_NoAddress_gt,px_NoAddress_ga,px_NoAddress_cl,noFill_list_add,list_sort_plain,entry_list_sort,PyData.depthAll,Nat.testBit_and,0,List.zipIdx_nil,List.foldl_cons,List.filter_map,Int.ediv_nonneg,Heap.DictOf.new,F.slot_int_rmul,[.str u,.str v],[.ref l,.ref b],[.int c,.int k],[.int a,.int f],(Ĝd y ùa ěc),(Ψ (Α Ňd)),(γc (i ^ Íc)),(Đc (Ża x z)),(àb (ύc ŉc)),(Δ (åc ň)),(ĉb [e,f] Ó),(ο (s2' q z)),(σ++Ů 1 Â),(σ++[À ύ]),(β++[À Ðe]),(wQ κ y p f g),(u9 ks ms k m2),(u C s H fp pn),(q _ _ _ d rfl),(kz ó gQ ŀh),(hb _ _ _ _ ?_),(h.swap.pa e c),(f x (Â,l,r)),(e2 zS Ţ Ŀ),(e2 zS ĵ œ),(e2 yq Ă Ė),(e2 yS őg ŷa),(e2 gI œ Ė),(e2 gH ŷa Ė),(e2 Q4 Þd āb),(e2 OS Ă Ė),(e.2.2.2.2.1+1),(by simp;omega),(bE êb [] Â),(aN λi j=>i+j),(ZY I m l ?_ a),(Rd.tw t Ϡj q),(MI D.l2i2 Ŝh),(K.ext.trans x),(.done (Â,m)),(.call Đ ų),(.bl (p6 ks k)),((ϑ).mpr Şa),((u p).mpr rfl),((f q).mpr Óc),"str_iterator","Machine.step","Machine.byte","ADDRESS_BITS",wpAny_runValue,wpAny_loadPart,wpAny_Expr_any,slot_list_sort,sliceRange_one,slicePart_none,s.heap.NoLimit,px_BadWords_mo,px_BadWords_mb,px_BadWords_gt,px_BadWords_ga,px_BadWords_cl,px_BadState_mo,px_BadState_mb,px_BadState_gt,px_BadState_ga,px_BadState_cl,isSubtype_stop,firstArgMember,env.scope.kind,PySem.AutoSeq1,PyData.keyHash,Nat.max_le.mpr,Nat.add_le_add,List.perm_cons,List.Perm.swap,L.toArray.size,J.toArray.size,Heap.MadeExcOf,C.mod.jM.keeps,Builtin.bitXor,[.dic Ía Ôc],(öb [:n] c f),(Θ (eC ñk)),(ŧd (Â,())),(ųe (ŉa ?_)),(Ιa (.int 9)),(Źa g rfl ?_),(ÿ ěa::ïd),(ÿ T != Įa),(Á V×Á D),(σ.set i Ŧb),(σ.set i Â),(λr=>À r.2),(λi=>Če i 0),(λi=>ĝf i 0),(λf d z=>a z),(yr x&&ŷb yr),(yK x p Â g),(y q/\¬ L1 q),(xI c m fo zF),(xI c m fo fs),(wP (ŵg i) _),(vn Q8 Qr rfl),(vn Q7 Qq rfl),(upd H' p ſg),(upd H' a Ϫa),(upd H' a Ł),(upd H' D ϻb),(upd G' a Ł),(u5 ks ds x y),(tz d&&Ŭa ds),(qc X.K â F),(pre_splitW c),(pA fs vs f w),(pA fs ms f e),(l.lst hl ŏa),(d2 q (C▸f)),(d.lst hl ŏa),(by rw[C];rfl),(XP X z0 σ E),(UD sp [] E t),(H _ _ Î ?_),(AP X z0 σ Q),(.int ϐa ě),(.int (j:Ê)),(.ins C dx []),(.builtin ϛa),"list.extend","list.append","_law_number","Machine.run",x.toList.drop,tupleItemsOf_,subscriptTail,seq_tuple_add,r.length.symm,p.mem_iff.mpr,h.IsTupleIter,evalPart_none,call_list_seq,a.natAbs.log2,X.env.globals,WData.layable,W.hideAll_get,W.callWith_K0,Value.ref.inj,Value.isStrOf,NameKind.free,NameKind.cell,N.ext.gh.free,[īd,Ϸb,Åd],[ōc,ŋc,İc],[ώ,ŝa,Ëd],[ī,şb,Ða],[z,TI,TO,A,r],[mE Ą Z1 0],[mE ą Z1 0],["_law_pair"],(ìe (êe n)),(êh lo n ok),(ýd Çc Ĥb),(Ìe env íb),(éh _ _ _ _),(Ée _ _ p x),(ι (Ľa g)),(ι (Ľa f)),(Ϡd ă Ó),(Μa (À a)),(Ċ Ąa Ó),(Τ (c%8=2)),(Τ (c%8=1)),(À (ūa a)),(σ++[À b]),(λo j=>o++j),0,(zO (zO Śj)),(yY K (ji F)),(xx.size-1+1),(xh ft g1 g2),(upd m i ĭf),(upd a p ĥb),(upd H l ϴd),(upd H l ϻb),(ug β1 i π),(ug r.2 i π),(tuples' Ã),(ps++[(a,b)]),(jH (tE ģj)),(i p (j p w)),(h _ _ _ _ q),(dunderI Ĺb),(c e (Ľa a)),(bE M ps šd),(b.gh.free f),(b q λw=>?_),(a q (B q c)),(Za kvs more),(YW xs lo hi),(Y m (Àa O)),(WV (K:=K) e),(Sum Ŋc Ç),(St->Hp->Æ),(H _ _ lo ?_),0,(F y (Â,m)),(.str s t::r),(.str (i++j)),(.str "sign"),(.Name ϛa p),(.Name Ĝ p),((lo+m-lo)/2),"dict_items","_law_wrong","NUMBER_LOW","NEAR_CODES",plain_sorted,p.mem_iff.mp,listItems_at,f.toList.any,entry_sorted,e2.length_eq,e.symm.trans,codeAny_func,c.symm.trans,W.kitx_tuple,W.codeRec_of,OwnMs.length,Nat.succ_pos,Nat.mul_comm,List.map_nil,List.any_map,List.all_map,K.ext.h.free,Int.max_comm,Array.toList,0,[dE C T e,z],(ĭa .NotEq),(ÿb ?_ ϡg),(ÿ l==Įa),(Ů ň xs),(λx v h=>h),(λi v h=>h),(λc=>l ċe),(λb v h=>h),(λ_ z=>Ę),(λ_ _ z=>z),(λ_ _ e=>e),(zB Ĭ åf),(zB Ī ϯa),(zB ó őa),(zA Ţ ϊg),(zA Ă àa),(yr n&&yr m),(yK y p f g),(yD Śj Û),(x.rebase y),(wz Ęj Ōj),(wu œb Ŀb),(vn e g rfl),(upd H' D o),(upd H x o'),(upd H a u'),(uh kvs k y),(tC (.ty T)),(qc K mg tV),(qc K mg qK),(qc K mg ZJ),(okb.XQ b d),(newList []),(n.append o),(ms.map À),(loop _ rfl),(l.ok i q z),(kj fs fg g),(kT (wF yV)),(jZ Ŀ ŷa),(jF K mg tU),(jF K mg qJ),(jF K mg YE),(jA m π m2),(is.map Ϝa),(i+1+1==ù),(e1::e2::es),(d.down Ŵ),(by simp[r]),(by cases h),(bE M acc x),(b.h.free f),(b (tG r.2)),(a::e2'::es),(VS X.K n t),(VJ z lo hi),(Mm t1 h l1),(Dk a o kvs),(Dh a o kvs),(.type T.nm),(.tup [Ūg]),(.tup [v,u]),(.tab ks ms),(.int n::us),(.inr {l,j}),(.inl {z,w}),(.inl {l,j}),(.dic ks ds),(.dic [] []),"__debug__","FAR_CODES","BYTE_LOWS","BYTE_BITS",x_NoAddress,wpAny_throw,wpAny_mkInt,wpAny_in_of,unsupported,subscripted,p.length_eq,o.ExactDict,kind_sorted,keywordEach,isortK_perm,interactive,g.objs.size,d.heap.get?,builtinKind,acc.toArray,X.s₀.heap,W.kitx_dict,Value.isInt,Value.bytes,Shared.heap,Paired.snoc,OwnMs.split,OwnMs.parts,Option.none,Nat.sub_sub,List.range',L2.clip_lo',IsRangeIter,Int.pow_pos,Int.one_mul,I.ok.tP.mem,F.heap.get?,E.ext.trans,D.TOi1.symm,Code.guards,Code.frames,Builtin.Str,["key",Űd],(şf b o e),(Ìe _ ý),(Ξb (J q)),(Γa (i-j)),(Ċ e env),(Ċ a Ó),(ϲa m Ēa),(Žc hj lo),(Ϫ<=1000),(ÿb łj b),(ņa _ Ō),(Ŧ įc f),(Ů k its),(À (_,d)),(za Ig Õb),(zB Ϡg zH),(zB ťj zH),(zB ϧ zH),(y j q l z),(wW Ąh qN),(wW ó gA),(wU Þd wO),(wE I q ?_),(w b o q d),(vz.go c q),(vs.zip vs),(ux T8 Õb),(ux IW àa),(upd H a d),(upd H T o),(upd H D o),(upd G p o),(u.trans a),(qc K mg F),(q _ _ e d),(n=0->v=dv),(n.trans s),(ltAt' i j),(ks.map Vi),(j.cut l h),(i.mono hk),(i.cut l h),(g.mono hk),(fs.zip vs),(d.mono hk),(d ÿe a q),(d b o e a),(by show N),(by show B),(as.zip vs),(a34.n X G),(SP X z0 D),(KX _ _ lk),(F (vN ds)),(EK f y fs),(.zz o ða),(.type Ĥa),(.type ϛc),(.rt Ã d),(.rt m β2),(.ok .next),(.Name x j),z.cps.size,x_BadWords,x_BadState,wpAny_load,uI.none_of,0,size_push',pushGuards,piled_cons,out.toList,l.zU.fresh,l.swap.fin,l.Pairwise,isTrue_and,isInstance,f.zU.fresh,closureFor,checkCount,beq_iff_eq,a.Pairwise,WShape.has,W.handedIn,Subscript_,OwnMs.putF,L2.clip_hi,D.i2z.symm,D.i12.symm,[x0,x1,x2],[p0,p1,p2],(Ţl x3.g),(œh lo n),(ϯe C dx),(Ÿd M.fn),(ŷd<1920),0,(Ķa<1000),(Žc o lo),(ϋa this),(Ża lo l),(Ů k xs),(ë==ş),(Ã==Ã),(Ý==ğh),(λv h=>h),(λ_ z=>z),(yn 2 Ŀ),(yN b=Ã),(xy.nil E),(xJ K Āe),(x.size-0),(wP Ĩi _),(wK d1 d2),(vm its k),(uh d k v),(u::v::vs),(truthy v),(r::m::ms),(qf ft fu),(q.push _),(pX Ðh i),(o.getD d),(n b ob e),(j+1==ϐ),(d.db ŏa),(d.da ŏa),(acc++[p]),0,(WG k=Ã),(WG b=Ã),(WE ks ds),(Qb Ď p),(P.zip vs),(NV l8 hW),(Ey e=Ã),(A6 P Î),(2 ^ 63-1),(.tup Ěl),(.tup ùk),(.tup Ϸg),(.str Ϡh),(.str ōc),(.str Ōc),(.str ŋc),(.str İc),(.str x t),(.ret ú),(.ref żd),(.ref ěa),(.ref Ža),(.ref f85),(.int űh),(.int Ϗj),(.int ϐa),(.int Ņ),(.int ë),(.int 256),(.inr Īi),(.inr Şa),"_law_at",z.sameBut,x.un.free,va.length,slicePick,sh.extBut,sg.extBut,setFlight,pu.isList,oneLt_int,ok.frames,o.g.trans,l.swap.sa,l.g.trans,kvs.foldl,joinParts,isortK_up,isTrue_or,i.g.trans,h.swap.ca,h.IsTuple,h.DictOfH,h'.IsCell,getMethod,getAttrBy,g.isEmpty,f.toArray,"address",es.length,cellsFrom,bs.countP,Ws.length,Reps.take,Reps.getK,Reps.getA,Reps.drop,I.zU.kept,Decidable,C_NoLabel,C_BadText,[Ķb,ϗa],[Ŭd,Ėa],[Ūe,Ėa],[ũe,Ėa],[äb,Âd],[ī,şb],[ī,ĕa],[x,y,z,u],[v,ov,iv],[.tup ds],[.no,.no],(Ži N.h),(ĝf i 0),(ìh Î),(ξc ęl),(ðk=Ã),(ňc ÿ),(Ňc Ål),(Εa āe),(àc s h),(ϖg Î),(Φ Ϟl),(Φ őc),(Æb żd),(Äb s t),(Ι ĕk),(γ Ϲg),(ńj rfl),(ιa ðk),["State"],(Νa ĕk),(Γa ϐa),(Ψa Ŀj),(ďb ĩi),(ıa Ýk),(ıa env),(Δ īi),(Δ ϵk),(Ýb ϱa),(Ýb ø),(Χa Ål),(ĭa .Eq),(Ζ ðh),(Ζ ñk),(Ζ ϴa),(Ζ Ĝb),(Ζ Îa),(Β ťj),(Γ ϧ),(Α Ϧe),(Ŕ ųf),(Ηa ϡj),(Ϲ _ m),(Ϲ _ c),(Ŧ z o),(Ġ _ j),(ċ łj),(ċ Śa),(Á Ò),(Ð Űh),(Ð Śa),(À ϵd),(À Ťj),(À Ϩa),(À ϧa),(À Ϧa),(λe=>?_),(zA f fs),(yY K V3),(xs++[y]),(x a o e),(vm [] 0),(vZ f fs),(q _ _ d),(pyTs ds),(pB ks x),(o++x++y),(m'::ms'),(m _ _ e),(lt' p q),(l b o q),(k K a z),(k E h q),(h r g f),(g _ _ e),(fg _ τ),(f p Ō),(d+k+x.2),(b _ _ e),(a[ň]?),(a++[yv]),(a q Ĭi),(Za [] c),(X _ _ j),(U5 K YI),(U y c e),(Ir lo n),(Hp->Æ),(F b o e),(Dt 1000),(B q ĳa),(B q Ċa),(2 ^ w-1),(.v d::a),(.rt o x),(.ref Y7),(.ref Y6),(.ref Y5),(.ref Wy),0,(.ref Wx),(.ref Wv),(.ref Wu),(.ok Ïe),(.ok ϑj),(.nx ĸk),(.nx τ2),(.nx β'),(.nx r.2),(.lst zs),(.int 21),(.int 18),(.inl b0),(.ext φ),(.dK İa),(uY (Ο (w8 (i:=8) (show(wz ["_law_script","_law_words_here","_law_pairs_here","_law_cell","_law_which","_law_code","_law_due","_law_handed"] ["_law_way"]).Nodup by decide +kernel) rfl ò)) rfl),(by cases y<;>show c),(v_ (own:=[Šg]) rfl),(by show ϛf {?_,?_};rintro(⟨z,w⟩|⟨z,w⟩|z);show .inl {z,λB=>w Ãg};show .inl {i q z,w};show .inr z;rintro(⟨z,w⟩|z)),(by cases e;rw[ħ]at c;subst c;show{_,vo į,?_};simp only[Ïb,ŕ,ĭ]),(by subst e;let{o,e,c,d}:=st;show{o,e,λv z=>by rw[d]at z;cases z}),(by let{t,p,k}:=h.h;show{{t,p,λE a q=>?_}}),(by let{t,p,k}:=h.h),(by omega;rintro _ g (⟨f⟩|⟨l⟩);show ñ {g,rfl,_,rfl,f}),(by rintro i m σ H ⟨rfl,hle,τ,G,K,a⟩;by_cases hlt:i<ϫ),(by decide +kernel),(by rw[h]at d a b;refine{_,_,_,Å,Ã,Ã,_,_, Ĳb,by rw[h];show d,by rw[h];show a,by rw[h];show b,rfl,rfl,e,f,by rw[h];rfl,rfl,EU l8 hW P lp,A_ l8 hW P lp o}),(by let{c,B,rfl,j,d,z}:=r2;cases(show u=ÿ a from rx);cases(show v=ÿ c from ry);by_cases hac:a=c;subst hac;rw[ON I ŋ _ _ _ o r m]),0,(by rw[show éf Ϙa=þg Ϙa by simp,Tc r c];show q),(by intro o s σ H x y v u Q I g i h;let{n,m,k,f,e,d,q}:=h;by_cases hf:ĉn=Ã;let c:=hf;rw[ć]at c;let{a,b}:=dw d c.1 c.2 f e),(by intro X Y O Q p i z0 s σ H E I J st x;subst Y O Q;let{ok,ov,g}:=st;let{_,f,l,dd}:=VQ Ď x.1 d;let r:ϑa=Ķ:=ja l),(by by_cases c:y q;show .inr Ůh;show .inl {z,c};show .inr ĳa),(by intro X G A C O i R s σ H E I r st y;subst G A C;let{vs,f,L}:=g ì Ü ŝ;let n:ø=ŉ:=by rw[ja f,ìa,Q,ća]),(by let{T,y,e1,W,i,S}:=Ïd r a;let{v1,L1,U,X,j,P}:=ţf Y W ee),(by intro c s σ H x y v u Q I a b h),(by by_cases e2:i=j;rw[e2];show Öa _;let:=h i Ēa Î Î;rw[show l+Ēa=l+j-1 by omega]at this;show Ϻb this œo),(by rw[e2];show Öa _;let:=d i Ēa Î Î;rw[show lo+Ēa=lo+j-1 by omega]at this;omega;simp only[c,ϸb,Òa,ŕ]),(by let{v',r',La,Lb,e2,oa,ob,dj,u}:=o;cases e2;show{oa.1,?_}),(by cases e;rw[g]at a;cases a;rw[l]at b;cases b;show źb r d),(by split at h;rename_i c;show{c,h};cases h),(by let{f,{C,l,g,j},{D,o,h,n},i,e,fd,F,b}:=a;show{{C,f,fd,l,g,{j,i,e},b,ok F},{D,f,fd,o,h,{n,i,e},b,ok F}}),(by let{s,j,i}:=a.h;let{t,c,k}:=b.h;show{{_,Et j c,λ{l m G H τ σ d Q} E h q=>?_}};unfold xB at h),(by let{a,F,rfl,l,i,q}:=n;let{c,w,rfl,j,d,t}:=m;cases(show u=ÿ a from o);cases(show v=ÿ c from p)),(by intro X C y A L i N s σ H E I q st n;subst C y A;let{_,f,g,G}:=VQ Ď n.1 d;let m:ϑa=Ķ:=ja g),(by by_cases c:k'=k;rw[Ö c]at e;cases e),(by by_cases hb:b=a;subst hb),(by split at a),(by obtain⟨⟨n,g⟩,q⟩:=g;subst ex),(by show Ăb ϴl ?_;rw[āc ſe _];exact Õ _ ľ ŭe _ _ s;show Ð Ŕm;exact Õ _ ľ œe _ _ s),(by rw[<-(êd).Wn,<-l];show h _ ŵb;subst i;cases(show u=ÿ b from m);let{z,j,r,c,d}:=VL Ď e),(by split at d),(by show{x,y,(ßd).trans w};by_cases c:d q;show(ϋf).trans Ïn.2.1.symm;show(ßd).trans În),(by rw[į];show Ŧ öa.1 Ŵ),(by intro X hP hw hK d i z0 s σ H E I hf st hg;subst hP hw hK;let{f,j,{u,v,m},p,n}:=st),(by intro e s σ H x y v u Q I b c h;let{i,j,rfl,rfl,q}:=h;let{t,rfl}:=b;let{d,rfl}:=c),(by intro X hP S U b i z0 s σ H E I C st O;subst hP S U;obtain⟨⟨old,g⟩,j⟩:=st),(by cases(show v=_ from r)),(by show{_,rfl,.ZF rfl}),(by let{E,g,d,C,v}:=s;let{k,q,h}:=h;let u:=idx_int;let B:=ßk;let y:=Űk;let t:=śk),0,(by simp only[Õg,newTuple];show Ð ún;refine Ð (m:=Łm _ _) įj;show ÿb ?_ ϡg),(by intro X Q L N O i S s σ H E I B st y;subst Q L N;let{J,C,f2,q,p,F}:=B it ü),(by dsimp only;rw[Ø Î];refine ã ŷm;cases e2:B ēf;show ñ Đj;show ñ (O e2)),(by let e:ϰd i=[]:=Ϗc Ϥe;rw[e]at a;cases a),(by intro X u m p q i B s σ H E I d st l;subst u m p;let{y,r,F,j,g,x}:=d it ü),(by split at z;let{a,b,c}:=Ϸ i q z;let{y,B}:=Xk x a c;show{y,b,B};split at z),(by rw[Ö c]at h;cases h;show{_,_,rfl,rfl,c,rfl};rw[Ø c]at h;cases h;cases h),(by show Ð (m:=Ŕe Ůb) ?_;unfold Ŕe;show Ð Ók;simp only[ĭ];show Ð ŧj),(by let{k,f,d,r,z,q}:=c;refine{by rw[<-ŷ];show z,?_};let i:f Ža=Â:=Ëf ğ),(by simp only[c,Ĉa,ĭ];show ñ (z c);simp only[c,ϸb,Òa,ŕ];show ñ (v c)),(by simp only[c,Ĉa,ĭ];show ñ (v c);simp only[c,ϸb,Òa,ŕ];show ñ (u c)),(by rw[Þa];show ħ),(by rename_i lo y q g L R;let H:=íi;have ll:êc=lo+îe:=by rw[<-ŧ,i,ï,t]),(by rw[Âl (Ľa hj)]at e2;let{u',r',q}:=hl j y v' e1 e2 e3;show{u',r',?_}),(by by_cases hj:j=i;subst hj;rw[hi]at e1;cases e1;rw[ůk O]at e2;cases e2),(by intro i j a b;by_cases e:j<n;show h i j a e;obtain rfl:j=n:=by omega),(by intro b j;exact b<(Ϸi).objs.size;rw[ßb];simp only[Ŕa,Óa,ša]at j),(by show{Ľc,λb q=>?_,h};cases q;let{ob,_,_,f,i,_}:=c;show{ob,f,i.2.1}),(by show{_,rfl,.XO Û rfl}),(by rw[ï,ï,Ðb];omega),(by let{v,r,rfl,b,a}:=h),(by by_cases c:q=p;subst c),(by by_cases c:d q;rw[e1 q c]at z;cases z;rw[e2 q c]at z;show ôa _ _ z),(by intro j s σ H x y v u Q I f g h;let{a,b,k,rfl,rfl,e,q}:=h;cases g),(by intro c j n v u h r q;let{a,f,rfl,E,y,_}:=r;cases(show u=_ from q)),(by let{p,a,w,e,g,l,r}:=h;let{c,d,b}:=ϓf r;show{c,{p,a,w,e,g,l,d},b}),(by cases a;show{_,_,b,c,q _ _ _ ϳ rfl}),(by split at z),(by show Āb _;show Ōb c;rw[<-w];show fC A;intro G y t' k;rw[<-w,e]),(by let{F,e1,L}:=f n x;let{C,e2,J}:=f m t;show P j F C _ _ e1 e2 L J),(by let:b=Ý:=by simpa using z),(by intro l s σ H x y v u Q I g i h;let{p,k,rfl,b,f,c,q}:=h;cases i),(by cases f;rename_i g h;let{a,m,rfl,B,n,_}:=w;let{b,r,rfl,C,o,_}:=A),(by rintro _ _ ⟨rfl,rfl,d⟩;rw[Ϧc b]at d ⊢;show h n b ğ d Ũ),(by let{t,n,k}:=f.h;show{{_,(Ţk).h,λE b q=>?_}};let{r,s,b}:=zC b),(by show Ð Œm;exact Õ æ A _ P E { s with ä:=(ňe).push Ŵc }),(by rename_i p i;let{a,k,rfl,f,m,_}:=j;cases g;let{w,h,b}:=dI m e),(by let{_,_,_,q}:=l;show ń q),(by change (match yr x&&ŷb yr with|Ã=>À Ϛe|Å=>Â)=À k at b),(by intro d s σ H Q I h),(by let{k,c,a}:=zC a;cases a),(by rw[Þp];let{i,j,rfl,rfl,q}:=h;let{t,rfl}:=a;let{d,rfl}:=b),(by rw[e]at f;cases f),(by let w:Ţa=ϱb:=by let:=Ϲa;rw[þ]at this;rw[đ];show this),(by by_cases c:L q),(by show .inl w),(by rw[ï,þ,Ϝb];omega),(by rintro g c v ⟨b,f,e,q,r,l⟩;show{b,f,e,?_,ϻa c r,l}),(by omega;rintro⟨q,c⟩ g ⟨r,e,f⟩;cases e;show ñ Ϝo),(by exact(ćd).bind _=_;rw[a];exact(Çg).bind _=_;rw[c];rfl),(by rw[show(Êa).N.length=ê+Ĉb from Sv X own]at q;show q),(by let{p,i,w,rfl,g,l,r}:=h;let{m,c,j,e,a,b,d}:=h';rw[âp]),(by let{a,z}:=u.uW b i q;show{a,by rw[zr (qU z d)];show z}),(by let d:zS âf Ŭ=À d0:=rfl;let c:zS âf ča=À d1:=rfl),(by show Ðk Ŋn ãn çn Ñm ?_;unfold Builtin.«sorted»),(by show Ð (m:=øb Ůb 2) Ϸj;show Ð (m:=øb Ůb 3) Ék),(by let{x,i,f,k,d}:=e;let{c,rfl,d}:=d;cases k;show ϋc ?_),(by let{σ',H',J,q}:=l;show p (v:=V.zI) (u:=Įa) J rfl q),(by let q:=(êd).Wn;rw[ϻg]at q;rw[<-q,<-l];show h _ ŵb),(by exact(ìg).bind _=_;rw[h];exact(ŕo).bind _=_;rw[hk]),(by cases(show _=[]from r)),(by cases(show _=[]from h)),(by cases f;let k:(g++h).length<=á:=by rw[Ľ,ï];show c),(by show{{o,e,d.1},λa e2=>?_};cases e2;show{o,e,d.2.1}),(by rw[êp];rename_i c),(by let{a,o,rfl,f,c,_}:=r1;let{i,k,e,d,b,_}:=r2;cases e),(by let c:(Źb ñb:Á zR).length=ũ:=by rw[þ,e.len,ŷ]),(by exact Õ _ _ śo _ _ s;rw[Ø (show ¬ Ŏo from ŀ)]),(by by_cases c:k'=k;rw[Ö c,Ö c]),(by rw[CJ];unfold Te;simp only[Ħ,jB,jr,uj,JY,JX,qA,a]),(by let{ti,Z,L}:=ύb;let{C,O,B}:=P.h;let{tb,pb,I}:=S.h),(by let{t,h,q}:=c b A é s H vs Q E j e;show{t,h.wZ,q}),(by split at h;rename_i e),(by split at f),(by rw[this]at g;show Þ ϳf Åa),(by intro X G y A N i O s σ H E I l st t;subst G y A),(by intro X G y A N i O s σ H E I j st r;subst G y A),(by cases hC<;>rfl),(by cases a;show q _ _ _ ìb rfl),(by rw[ĥp];by_cases c:d q;show .inr ϋf;show .inr ăh),(by let{w,s,_}:=Ęb.2.2;rw[s];show x.h _ _ s;rw[Îp]),(by unfold WE at b;rw[Ϣb,<-Ϲa]at b;rw[ìa];show b),(by show .inr z),(by rw[đ,đ];omega),(by let{t,p,k}:=b.h),(by exact Ðd Ŧh _=_;rw[Q];rfl),(by cases n<;>cases h),(by rw[Ø c]at b;cases b),(by rw[Ö c]at b;cases b),(by let{u,a,b}:=ϟa c;rw[ϓc,a]at h;cases h;show b),(by let{_,_,_,_,o,_,_,e,d,_}:=Ď p _ b;show{o,e,d}),(by let B:(êo).length<=á:=by let:=EQ d k v;omega),(by rw[Ö h1]at e ⊢;show J7 e;rw[Ø h1]at e ⊢),(by rw[wl Î]at this;show this),(by rintro x _ J ⟨l,o,rfl,t,p,u,C⟩;dsimp only),(by let{o,u,j,n,m}:=b;show v d w σ u o f Q j n m),(by let{f,e1}:=ŕb b o e (a b)),(by let:Íb x=À .free:=a;rw[k]at this;cases this),(by show .inl q;show .inr {q,Öh _ _ _ (.inl q)}),(by let e:x[b+i]?=À x[b+i]:=getElem?_pos _ _ Î),(by intro i q a;let{b,c}:=Ōd ϻj;show h b q ϫk),(by intro e s σ H x y v u Q I d a h;let{c,q}:=h),(by split<;>omega),(by show q _ _ _ ϳ rfl),(by let{t,rfl}:=d),(by let e:max 0 ůj=k:=by rw[Ø Î,ęc a,ϧc b]),(by rw[Ľ];omega),(by rw[êp];rename_i c b e;show{c,b,e};cases a),(by apply ūd;intro j;by_cases hj:j=i;subst hj),(by let{d,b,a}:=zC a;cases a),(by let{a,E,rfl,l,i,t}:=r1;rw[Öp];show Ŷg _),(by let{J,ru,pu}:=I.Wq hx;let{L,t,Z}:=I.Wq hy),(by split at e),(by rw[Ġp];show{_,rfl,λq=>{x,y,k,b,e,c,q}}),(by rw[ć]at c),(by rw[F,Ø λc=>Ŕ a ţk,Ø λc=>ýf a Ùk]),(by obtain rfl:m=1:=by dsimp only at e;omega),(by let{b,rfl}:=(show ∃b,u=Ġb y b from r)),(by simp only[Ö c]),(by show .inl z;show .inr ĺn;show .inr ĳa),(by rw[ņb hlt]at a),(by let e:acc++p::xs=öo++xs:=by rw[Ř];rfl),(by intro x h;show Þ h ļd),(by exact _<=16777216;omega),(by let{N,F,Z,x,u,J}:=r it ü;rw[<-n]at st),(by let d:i<éb:=by rw[ϓc]at h;show öa.1),(by simpa using e),(by simp only at f g;subst f g;let E:=ľa),(by show Ð ?_;simp only[Øh,øm,Êf,čh]),(by rw[Ľ,ï];show c;rw[Ø c]at a;cases a),(by rw[ï,į];rfl),(by rintro _ ⟨l,_,_,z⟩),(by let:=Ŧc;exact äa+3+16*k+200<_;omega),(by dsimp only;rw[Ö c];show ñ q;rw[úp]),(by cases a;show{_,λ_=>rfl,λq=>{_,r,q}}),(by by_cases z:b=a;subst z),(by rw[e1 q c]at z;show z;rw[e2 q c]at z),(by rintro _ _ ⟨rfl,y,q,g,rfl,d,a,F⟩),(by rintro _ _ ⟨rfl,l,o,rfl,t,p,u,C⟩),(by let:x≠n:=by rintro rfl;show h v Ō),(by simp only[Ϻg,Òa,ŕ]),(by show ôa _ _ z),(by show ã Üc),(by rw[Ġp];show{_,rfl,λq=>aJ b e c q}),(by let{as,O,d}:=zC d;let{ds,J,d}:=zC d),(by let p:¬ m<ϝf ĕ ĕ 0:=l;rw[a]at p),(by cases w;simp only[ĭ]),(by by_cases e:p.1=k;let a:q.1=k:=ën e),(by show .inl {(ϑ).mpr ĳa,w};rw[Ŋp]),(by rename_i c),(by let{k,f,c}:=zC c),(by let:c=b:=by simpa using Äa ön d1),(by let:=ùc;exact ŏc+1+3*k+5<_;omega),(by cases this),(by rw[Ö c]at a;cases a),(by rw[t.ne b hb];show h),(by rw[eL]at E;let{f3,Z}:=O n u Âm o),(by replace b:m<n:=by simp at e;omega),(by obtain⟨⟨m,β1⟩,b,a⟩:=zC a),(by obtain⟨⟨k,β1⟩,i,c⟩:=zC c),(by let{p,q}:=ϗi (P:=P)),(by let{a,b}:=hN q ĉm;show{a,cn q b}),(by let e:=ŷ;simp only[ŧ]at e;omega),(by intro u s σ H Q I h;show ϙb ġm),(by intro j s σ H Q I h),(by intro i s σ H Q I h),(by intro g s σ H Q I h),(by rw[ï];omega),(by rintro y _ _ i k ⟨rfl,rfl,d⟩),(by let{t,pa,ka}:=ha.h;rw[Ő,ć]at S),(by intro m s σ H x j v g Q I d f h),(by subst i;let{z,j,t,c,d}:=kG Ď e),(by split at hcD;rename_i l u f b j),(by split at h),(by split at b),(by simpa using h),(by simp at h1 h2;subst h1;subst h2),(by show .inr {_,Âa _ _ e,λo=>?_}),(by show .inl z;rintro(z|z);rw[Ŋp]),(by rw[Łp];rw[îp]),0,(by rw[ï,ħ];rfl),(by rw[îp];show l Î;show d;show f),(by rw[Þa];show į),(by rw[e]at h;let a:y=n:=by rw[Ŷp]),(by rintro(⟨z,w⟩|z)),(by obtain⟨⟨o,d⟩,b,a⟩:=zC a),(by obtain⟨⟨j,O⟩,p,c⟩:=zC c),(by let{y,n,e}:=g.h;let{s,l,j}:=o.h),(by let{x,o,f}:=j.h;let{r,m,l}:=p.h),(by let{u,l,e}:=g.h;let{o,j,i}:=m.h),(by let{tk,pk,kk}:=hk.h),(by let:=ŷ;rw[þ]at this;show this),(by let:=Ŵ;omega),(by constructor),(by cases h<;>rfl),(by cases a;cases a)],[(zA ἀ zF),(zB ἀ zH),(zj (yI ἀ)),(.lst ἀ),(e1 ἀ Ă),(Α (eC ἀ)),(yX (zA ἀ ἁ)),(zA ἀ zF),(wu ἀ Ďg),(yn 2 ἀ),(zZ xq xo ἀ zE),(À ἀ::zY),(zA Ă ἀ),(zB ἀ zH),(λC s H c b=>ἀ),0,(PyProof.Rows.wpS_modify ἀ),0,0,(.bl (decide ἀ)),(.nx (Μ ἀ)),((ἀ).bind _),(Z0 (vf ἀ)),(zA ĵ ἀ),(zB ó ἀ),0,0,0,0,0,0,0,0,0,(upd H p ἀ),(zj (tF ἀ)),(űc ἀ ?_),(zA Ŀ ἀ),(λr st=>∃g,st=yK a0 p0 f0 g/\qd ἀ ἁ r),(kS (kU ἀ) (w6 ἁ) je),(ůc _ _ ἀ),0,0,(jH (tE ἀ)),(yH (wg ἀ)),(zA Ė ἀ),((u q).mpr (.inr ἀ)),0,0,(λC s H d c=>ἀ),0,0,(w6 (Yg ňj Ŵa ἀ)),0,(ċ (Ð ἀ)),(uY ἀ rfl),(PyProof.Rows.wpS_lift (PySem.wpAny_rule {rfl,ã ἀ})),(kR 0 [.at [Ň] ī] ŀb ἀ),(wX (yP Ńb xQ ἀ ἁ ś) (Γ ἂ) wR),(qY λi j=>.int ἀ),(z_ (wX ἀ ἁ wR) (Γ ἂ)),(Μa (À ἀ)),(jI (tE ἀ)),(.Call ἀ ă [] pos),(w8 (i:=1) (show (ἀ).Nodup by decide +kernel) rfl ò),(e2 xX Ţ (eC ἀ)),(Ð (PySem.wpAny_onRaise ἀ)),(zy kM b rfl (zB ó ἀ)),(β.set i ἀ),(yJ (yg ἀ Ďg)),(yi ἀ λc=>?_),(λC s H c b=>ἀ),0,(À (decide ἀ)),0,0,(yP Ťd qW ἀ ἁ ś),(gS (Yv ἀ ἁ)),(uz λi j=>decide ἀ),(List.map Prod.snd (isortK ἀ)),(.Call ἀ [] [] cpos),(W3 0 [.at [Ň] "truths"] (eC ἀ) (yt ἁ)),0,0,0,0,0,0,0,0,0,(Qe (zV b) (tD ţ qy) yV (wF ἀ)),(rI ἀ λi j=>.int ἁ),(uQ (e2 kJ (e2 yq ἀ ἁ) (ua Ă ἂ uO))),(Vu (n:=2) rfl (jh ἀ ἁ)),(.Call ἀ [e] [] cpos),(.Call ἀ [e] [] pos),(if ἀ=Ã then _ else _),0,0,(λc=>ñ {g,rfl,jp.fin ἀ}),(qY λi j=>.bl (decide ἀ)),(upd H l (Δ ἀ)),(tE (e2 yS Ă (eC ἀ))),0,0,(yJ (yg (zB ἀ ἁ) (yD ἂ Û))),0,0,(uY (Ο (Θa ἀ)) rfl),0,(λC s H fp pn=>OB ἀ),(λc=>ñ (h _ _ ἀ)),(z_ (JC ŷc rfl ἀ ἁ ἂ) (zj ἃ)),(ϋ ἀ ἁ λ_ _ z=>Ę),(e2 yS Ćb (eC ἀ)),(UE ἀ ἁ {l} ?_ ?_ ?_),(yJ (yg ἀ Ŀb)),(WT (tE ἀ) (tE ἁ)),(Ρb (Α ἀ)),(γ (Δ ἀ)),(ĺd (ã ἀ)),(Γ (Ι ἀ)),(gP ἀ WH rfl),(w6 (Zb ἀ)),((ἀ).mpr ĳa),(w8 (i:=2) (show (ἀ).Nodup by decide +kernel) rfl ò),(λq z=>zr λc=>z ((ἀ).mpr c)),(Œb v (À ἀ) pos.line Ó=pure Å),0,(za g7 (Ν ἀ)),0,0,(Zb (W4 Xx b rfl (jd ţ ἀ))),(wu (zB Ĭ (zB ľg ἀ)) ϗe),(e2 yq (eC ἀ) (z7 2)),(λc=>ñ {g,rfl,jn.fin ἀ}),(tE (e2 yS (e1 ἀ ĵ) Ă)),(Ej G H ἀ y u v d Q s e f Ëp q),0,0,0,0,0,0,0,0,0,(Γ (u8 ϩg xQ ἀ ĝa ïb)),(yP (qX ἀ) qW (zJ ἁ) (zJ ἂ) ś),(jb (kD T5 (qx 0 [] ἀ))),(λC s H fp pn=>OA ἀ),(updateSeq S ἀ >>= _),(λC s H fp pn=>(ἀ).h),(ôb β i π ἀ),0,0,(yH (e2 ἀ Ė ĵ)),(xI Ą Ła Ă ἀ),(xI ą Ła Ă ἀ),(KU (ζa ἀ ἁ) rfl rfl),0,0,(.nx (σ.set i ἀ)),0,0,(λC s H c d=>ἀ),0,(rU λi=>.int ἀ),(Ο (Νe ĭi ἀ)),(Α (za ZI ἀ)),(zy Xy b rfl ἀ),(zA (yX ἀ) (Α ἁ)),(.inl (.nx ἀ)),(Ð (Ð ἀ)),(w_lt rfl ἀ ἁ ?_),(uN 6 (yt ἀ)),(Α (e2 zS ἀ ἁ)),(yJ (t9 rfl ἀ ἁ ἂ ŕe ἃ)),(λ_ R s=>ö l=À { cls:=.type Ĝ,dict:=Â,data:=.seq c n,slots:=#[] }/\ö b=À { cls:=.type Ĝ,dict:=o,data:=.seq a r,slots:=j }/\R (.ok ἀ) { s with heap:=s.heap.update l (Obj.mapSeq λx=>x++a),toks:=s.toks }),(.BoolOp .And ἀ pos),(.BoolOp .Or ἀ pos),(λq z w=>by rcases z with⟨z,_⟩|z;show z;show j q ἀ),(U1 (zZ xR xP (kz ó gQ ἀ) (yJ ἁ)) (kz ó (gR Ĭ) gQ)),(λxs H Q=>(∃p ys,xs=[.ref p]/\ἀ/\Q ἁ H)\/∃z,xs=[.str z]/\Ņ<=á/\Q (.int Ņ) H),(u8 Ńb xQ (zJ (zy tt b rfl ἀ)) (zJ zE) ś),0,(Lh I Î ἀ i d h λd1 d2 x y u v g k e b f=>OL I n ľ d1 d2 x y u v ἁ g k e b f),0,0,(λx y H Q=>y=.zI/\Q ἀ H),(ς (w8 (i:=5) (show (ἀ).Nodup by decide +kernel) rfl ò)),(zf Ϙb ze (yJ (yg ἀ Ďg)) (d_ AB bf rfl UK FP (t7 ἁ t8))),(e1 (gE Xq Xt) (eC ἀ)),(λx y H Q=>∃i j,x=.str i/\y=.str j/\Q (.bl ἀ) H),(qP (tE (e2 yS Ė Ŀ)) ãa (e2 yS (za gn ἀ) œ)),0,0,0,0,0,0,0,0,0,(rI Uy λi j=>.int ἀ),(.Call ἀ [a] [] pos),(xD (i:=2) Vz.nd rfl ò (zy Ve b rfl ἀ)),(.done (À ἀ,i,m,Ű q++(ἁ).reverse,g,k,j-1-m)),(zn ἀ λv s1 h1=>zn h1 λitv s2 h2=>?_),(jD (yP Ńb xQ Ša ũb ś) wo (Οc ἀ)),(Βa ïa ĝa (zy Oh b rfl (zB Ī ἀ))),0,0,(zB (zZ xR xP Ī (zy QQ b rfl ἀ)) zH),(Γ (u8 (Qi ĵb) Qf ïa (zJ ἀ) ÿc)),(zf Ϻ ze ἀ Ŵa),(zy (xE.Pk Om) a rfl (zB (z8 8) (zB ἀ ἁ))),0,0,(zf Ϻ ze (yJ (yg ἀ ϗe)) (Λ (Λa ἁ))),0,0,(by rw[size_push',ϖe];show Ŕ ἀ),0,(Ξa (λc=>ñ {_,rfl,Yu.fin ἀ})),(Ξa (λc=>ñ {_,rfl,Ys.fin ἀ})),(.done (À ἀ,i,j-1,Ű q,g,k,u)),(Œb e (À ἀ) Èe Ó=pure Å),(zy tt b rfl (zB Ĭ (zB zE ἀ))),(.done (À ἀ,o++Ēb i ἁ,i+k,j,g,k,u)),(Q w H->rU (λi=>.int ἀ) u H Q),(yJ (t9 rfl Ìp şg Êp ŕe (Ο ἀ))),(ek (qv 1) (t9 rfl ώj ἀ Ĥj ἁ Åk)),(À (Ã,.lst ἀ)),(λxs H Q=>∃p ys,xs=Òc/\ἀ),(qx 0 [] (wU åa (wU ἀ ňg))),(kR 0 [.at [Ň] ī] ŀb ἀ),(Α (e2 yq Ė (za Ih ἀ))),(λc=>ñ {_,rfl,jn.fin ἀ}),(λc=>ñ (B λp j q f=>ϝa ἀ ἁ)),(by rw[Ř,<-Ř ἀ,Ňa,ex]),(δ (Νc ŀh (yg ἀ Ŀb))),0,(λF σ H E=>tx1 σ H ἀ E),0,0,(Fl.nx (τ.set i (Ηd ἀ))),(Ξe (w_ õa (w_ ἀ Ňg))),(bQ (EX (LC Ol a rfl ἀ))),(MY (JH (Xm V6 [.no] ἀ))),(yX (zA īj (zA ŷa ἀ))),(ôb r.2 i π (.own ἀ)),0,0,0,0,0,0,0,0,0,(yH (e2 ZR Ă (eC ἀ))),(u8 Ęl xQ (zJ ἀ) (zJ ἁ) ïb),(ν (Ψ (zA όg ἀ))),(λb o g e=>(ἀ).trans e),(L_ OE LQ rfl gW Ti ἀ),(Οe (zB yV (Β ἀ))),(ôa _ _ ((ἀ).trans z)),0,0,(Γ (zy tt b rfl ἀ)),(wpS_reverse (ã ἀ)),(za (uc vx) (zA ϣi ἀ)),(ιb (.obj x ϳd ἀ)),0,0,(Φ ((F ἀ).bind _)),0,0,(ϋ h ἀ λ_ _ e=>e),0,(ã (v4 e (ã ἀ))),(zj (tF (t9 rfl ἀ şg ἁ ŕe ἂ))),(yP Ep qV ἀ ũb ś),(yH (za IR (ξ ἀ))),(by rw[þ];show ἀ.1),(.Subscript a ἀ pos),(ψ (Οa (Θa ἀ))),(ψ (ς (Νb ἀ))),(Ρb (Θ (Φb ἀ))),(śe l rfl (Ð ἀ)),(zn ἀ λr s4 a=>?_),(zB Ŵa (zB ųc ἀ)),(zA Ćb (zA ϋg ἀ)),(wX đg (δ ἀ) wR),(.Expr (ηa ἀ) pos),(WR (yP (xS ἀ) xQ (zJ ἁ) ïa ïb)),(bS (bB (pl:=_) JS Qk a rfl (jd ţ ἀ)) (Ec je)),(qT (i:=6) Zj.nd rfl ò Û (wF (Νa ἀ)))],[(by first|(with_reducible first|exact Nat.le_of_not_lt ‹_›|exact Nat.lt_of_lt_of_le ‹_› (Nat.min_le_right _ _)|exact Nat.lt_of_lt_of_le ‹_› (Nat.min_le_left _ _)|exact Nat.le_trans (Nat.sub_le _ _) ‹_›|exact Nat.add_sub_cancel' ‹_›|exact (Int.toNat_lt ‹_›).mpr ‹_›|exact Nat.lt_of_sub_pos ‹_›|exact Nat.le_of_sub_eq_zero ‹_›)|((with_reducible refine Int.emod_nonneg _ ?_)<;>decide)|((with_reducible refine Int.emod_lt_of_pos _ ?_)<;>decide)|((with_reducible refine Int.lt_of_lt_of_le (Int.emod_lt_of_pos _ ?_) ?_)<;>decide)|lia|omega+splitNatSub),(by first|subst ἀ|(injection ἀ;done)|cases ((ἀ))),(by first|(have q:=ἀ;first|subst q|(injection q;done))|cases ((ἀ))),(by first|subst ἀ|(injection ἀ;done)|cases ((ἀ)))])
def q0 (h_0:0=0:=by first|show .inl rfl|show .inr rfl|assumption)(h_1:0=0:=by decide)(h_2:0=0:=by intro _;rfl)(h_3:0=0:=by rfl)(h_4:0=0:=by first|show Or.inl rfl|show Or.inr ò|show Or.inr ϥd)(h_5:0=0:=by first|show ŕa|show⟨rfl,ŕa⟩|show⟨rfl,rfl,ŕa⟩|show⟨rfl,rfl,rfl,ŕa⟩|show⟨rfl,rfl,rfl,rfl,ŕa⟩)(h_6:0=0:=by intros;show λ_ _ _ _ _ _=>rfl):Ľb:=⟨⟩
def q7:=q0._auto_1
def q10:=q0._auto_2
def q11:=q0._auto_3
def q12:=q0._auto_4
def q13:=q0._auto_5
def q14:=q0._auto_6
def q15:=q0._auto_7
noncomputable section
namespace L2
open č Ĕ ď
abbrev zR:=Sum Ê Ç
nonrec def Yc:zR->Value->Ò
 |.inl k,v=>Ŕn k v|.inr x,v=>Ϛm x v
nonrec def z26(w:ß):zR->Ê
 |.inl k=>hashInt k|.inr x=>hashStr w x
def kO:∀{k:zR}{v:Value},Yc k v=Ã->(∃i t,k=Ŧa i/\v=ŧb i t)\/(∃x t,k=ñb x/\v=Ġb x t)
 |.inl i,v,h=>by let{t,e}:=ūl (k:=i) (v:=v) h;show .inl {i,t,rfl,e}
 |.inr x,v,h=>by let{t,e}:=Value.isStrOf_shape (x:=x) (v:=v) h;show .inr {x,t,rfl,e}
def z27(i:Ê)(t:Tok):Yc Źi ĩf=Ã:=by simp[Yc,Ŕn]
theorem z28(x:Ç)(t:Tok):Yc Øa ĉo=Ã:=by simp[Yc,Ϛm]
theorem z29(a b:Ê):decide ((Ŧa a:zR)=Ŧa b)=čj:=by
 by_cases e:a=b;subst e;simp;let h:¬ (Ŧa a:zR)=Ŧa b:=λq=>e (ϋh q)
 rw[ϣ h];show(ăc e).symm
def z2c(a b:Ç):decide ((ñb a:zR)=ñb b)=decide (a=b):=by
 by_cases e:a=b;subst e;simp;let h:¬ (ñb a:zR)=ñb b:=λq=>e (Sum.inr.inj q)
 rw[ϣ h,ϣ e]
theorem z2a(a:Ê)(b:Ç):decide ((Ŧa a:zR)=ñb b)=Å:=ϣ Ám
def z2b(a:Ç)(b:Ê):decide ((ñb a:zR)=Ŧa b)=Å:=ϣ Ám
def yl(Ā:à)(w:ß):PySem.KeyKind Ā w zR where
 is:=Yc
 hash:=z26 w
 inj:=λv a b g d=>by
  rcases kO g with⟨i,t,rfl,rfl⟩|⟨x,t,rfl,rfl⟩;rcases kO d with⟨j,u,rfl,e⟩|⟨y,u,rfl,e⟩;injection e with e1 _;rw[e1];show nomatch e
  rcases kO d with⟨j,u,rfl,e⟩|⟨y,u,rfl,e⟩;show nomatch e
  injection e with e1 _;rw[e1]
 byValue:=λk v h=>by rcases kO h with⟨i,t,rfl,rfl⟩|⟨x,t,rfl,rfl⟩<;>rfl
 pyHash:=λc h=>by rcases kO c with⟨i,t,rfl,rfl⟩|⟨x,t,rfl,rfl⟩;show wpAny_pyHash_int h;show wpAny_pyHash_str h
 eqBool:=λf c h=>by rcases kO f with⟨i,t,rfl,rfl⟩|⟨x,t,rfl,rfl⟩;rcases kO c with⟨j,u,rfl,rfl⟩|⟨y,u,rfl,rfl⟩;rw[z29]at h;show Ϧl h;rw[z2a]at h;show ĥl i t y u _ _ _ _ h;rcases kO c with⟨j,u,rfl,rfl⟩|⟨y,u,rfl,rfl⟩;rw[z2b]at h;show ģl x t j u _ _ _ _ h;rw[z2c]at h;show wpAny_eqBool_str h
 «strs»:=λk x t v h=>by
  rcases kO h with⟨i,u,rfl,e⟩|⟨y,u,rfl,e⟩;show nomatch e
  injection e with e1 _
  subst e1;cases v<;>rfl
def z3u(Ā:à)(w:ß)(i:Ê)(t:Tok):(ŗa).is Źi ĩf=Ã:=z27 i t
def EW(Ā:à)(w:ß)(x:Ç)(t:Tok):(ŗa).is Øa ĉo=Ã:=z28 x t
set_option genInjectivity true
inductive V where
 |zI|bl (b:Ò)|int (i:Ê)|str (x:Ç)|byt (b:Ú UInt8)|XR (b:UInt64)|ref (a:Ë)|ty (n:Ż)
 deriving śb
set_option genInjectivity false
def zu:V->Value->Æ
 |.zI,u=>u=Įa|.bl b,u=>u=Ěf b|.int i,u=>∃t,u=ŧb i t|.str x,u=>∃t,u=Ġb x t|.byt b,u=>∃t,u=ŕn b t|.XR b,u=>∃t,u=ϊh b t|.ref a,u=>u=ÿ a|.ty n,u=>u=ϳh n
abbrev zk:Á V->Á Value->Æ:=ĥd zu
theorem zk.length{xs:Á V}{us:Á Value}(r:zk xs us):ë=ũ:=įh r
theorem zk.get:∀{xs:Á V}{us:Á Value}{i:Ä}{x:V},zk xs us->xs[i]?=À x->∃u,us[i]?=À u/\zu x u
 |_,_,_,_,.nil,e=>by simp at e|_,_,0,_,.cons r _,e=>by simp at e;subst e;show{_,rfl,r}|_,_,i+1,x,.cons _ t,e=>by let{u,a,b}:=zk.get (i:=i) (x:=x) t ňa;show{u,by simpa using a,b}
theorem zk.set{x:V}{u:Value}(r:zu x u):∀{xs:Á V}{us:Á Value}(i:Ä),zk xs us->zk Ąf (us.set i u)
 |_,_,_,.nil=>.nil|_,_,0,.cons _ t=>.cons r t|_,_,i+1,.cons q t=>.cons q (zk.set r i t)
theorem ĵf:∀{xs ys:Á V}{us ws:Á Value},zk xs us->zk ys ws->zk żf (us++ws)
 |_,_,_,_,.nil,s=>s|_,_,_,_,.cons r t,s=>.cons r (ĵf t s)
theorem zk.take:∀{xs:Á V}{us:Á Value}(n:Ä),zk xs us->zk (xs.take n) (us.take n)
 |_,_,0,_=>.nil|_,_,_+1,.nil=>.nil|_,_,n+1,.cons r t=>.cons r (zk.take n t)
theorem zk.drop:∀{xs:Á V}{us:Á Value}(n:Ä),zk xs us->zk (xs.drop n) (us.drop n)
 |_,_,0,r=>r|_,_,_+1,.nil=>.nil|_,_,n+1,.cons _ t=>zk.drop n t
def uI:É V->É Value->Æ
 |À v,À u=>zu v u|Â,Â=>Ľb|_,_=>í
def KV{κ:Type}:Á ϕa->Á Ód->Æ:=ĥd λ(p:κ×V) (q:κ×Value)=>p.1=q.1/\zu p.2 q.2
nonrec def kV:zR->V
 |.inl i=>.int i|.inr x=>.str x
inductive HO where
  |lst (xs:Á V)
  |tup (xs:Á V)
  |dK (kvs:Á Ϙ)|dT (kvs:Á ěb)
  |set (S:Ê->Ò) (n:Ä)
  |ins (C dx:Ë) (fs:Á ĩb)
  |own (x:Ë)
  |xd (fs:Á ĩb)
  |met (f x:Ë)
  |rng (lo hi:Ê)
  |zz (o:Obj) (u:HO)
  |tbl (ps:Ú Value)
  |ext (φ:Heap->Æ)
abbrev Hp:=Ë->É HO
nonrec def upd(H:Hp)(a:Ë)(o:HO):Hp:=λb=>if b=a then À o else H b
def yE{H:Hp}{a:Ë}{o:HO}:upd H a o a=À o:=by unfold upd;rw[Ö rfl]
theorem zr{H:Hp}{a b:Ë}{o:HO}(h:b≠a):upd H a o b=H b:=by unfold upd;rw[Ø h]
theorem z4n{H:Hp}{a b:Ë}{o u:HO}(h:H a=À o)(h':H b=À u)(d:o≠u):a≠b:=by intro e;subst e;rw[h]at h';show d (īa h')
def qU{H:Hp}{a b:Ë}{o:HO}(h:H a=À o)(h':H b=Â):a≠b:=by intro e;subst e;rw[h]at h';cases h'
section
variable(P:à)(w:ß)
def yj(H:Hp)(h:Heap)(a:Ë):HO->Æ
 |.lst xs=>ë<=á/\∃(its:Á Value) (n:Ä),zk xs its/\Ć a=À { cls:=.type Ĝ,Č:=.seq ϲ n }|.tup xs=>ë<=á/\∃its:Á Value,zk xs its/\Êb h a ϲ|.dK kvs=>Ķ<=á/\ßa=Å/\∃vs,KV kvs vs/\õd ķa a vs|.dT kvs=>Ķ<=á/\ßa=Å/\∃xs:Á ċc,
   ĥd (λ(p:Á zR×V) (q:Á zR×Ë×Value)=>p.1=q.1/\H q.2.1=À ēl/\zu p.2 q.2.2) kvs xs/\
   ∃o es ep,Ć a=À o/\ŉn/\Ϛ=.dict es ep/\es.toList=Źb (entryOfKey žd)/\(Źb (·.1)).Nodup
 |.set S n=>h.SetOf (intKind P w) a S n|.ins C dx fs=>H dx=À ýe/\Ķa<=1000/\dx≠a/\Ć a=À Ôo/\
   ∃mA,üg dx mA/\(∀f,uI ϭi Ćj)/\Řh mA (ňc (·.1))
 |.own _=>∃o,Ć a=À o|.xd fs=>∃mA,üg a mA/\∀f,uI ϭi Ćj|.rng lo hi=>∃t u v,Ć a=À { cls:=.type ĭb,Č:=.fields #[.int lo t,.int hi u,.int 1 v] }|.zz o u=>Ć a=À o/\yj H h a u|.tbl ps=>Ć a=À { cls:=.none,Č:=.fields ps }|.met f x=>Ć a=À (W.methodObj Đ Ċd)|.ext φ=>φ h/\(∃o,Ć a=À o)/\∀h1 h2:Heap,φ h1->(∀o,ϕi a=À o->h2.get? a=À o)->φ h2
def xW(H:Hp)(h:Heap):Æ:=∀a o,H a=À o->yj P w H h a o
#print a
section
variable{P:à}{w:ß}{H H':Hp}{h h':Heap}{a:Ë}{o:HO}
theorem yj.lt(x:yj P w H h a o):a<ϱa:=by
 cases o with
 |lst xs=>let{_,_,_,_,e}:=x;show Ğ e
 |tup xs=>let{_,_,_,p}:=x;show p.lt
 |dK kvs=>let{_,_,_,_,o,_,_,e,_}:=x;show Ğ e
 |dT kvs=>let{_,_,_,_,o,_,_,e,_}:=x;show Ğ e
 |set S n=>let{o,_,_,_,e,_}:=x;show Ğ e
 |ins C dx fs=>let{_,_,_,e,_}:=x;show Ğ e
 |own y=>let{_,e}:=x;show Ğ e
 |xd fs=>let{_,{_,_,_,e,_},_}:=x;show Ğ e
 |rng lo hi=>let{_,_,_,e}:=x;show Ğ e
 |zz ob u=>let{e,_}:=x;show Ğ e
 |tbl ps=>show Ğ (show Ć a=À _ from x)|met f y=>show Ğ (show Ć a=À _ from x)|ext φ=>let{_,{_,e},_}:=x;show Ğ e
theorem Łf{α β:Type}{F G:α->β->Æ}:∀{l₁:Á α}{l₂:Á β},ĥd F l₁ l₂->(∀a b,F a b->G a b)->ĥd G l₁ l₂
 |_,_,.nil,_=>.nil|_,_,.cons r t,f=>.cons (f _ _ r) (Łf t f)
def yj.gj(x:yj P w H h a o)(k:∀b u,(b=a\/H b=À ýe)->Ć b=À u->ė b=À u)(B:∀b,H b=À ýe->H' b=À ýe)(A:∀b xs,H b=À Ļa->H' b=À Ļa):yj P w H' h' a o:=by
 induction o with
 |lst xs=>let{z,l,n,r,e}:=x;show{z,l,n,r,k _ _ Ũ e}
 |tup xs=>let{z,l,r,g,e,c}:=x;show{z,l,r,g,k _ _ Ũ e,c}
 |dK kvs=>let{z,y,F,r,g,j,i,e,c}:=x;show{z,y,F,r,g,j,i,k _ _ Ũ e,c}
 |dT kvs=>let{z,y,xs,r,g,j,i,e,c}:=x;show{z,y,xs,Łf r λp q z=>{z.1,A _ _ z.2.1,z.2.2},g,j,i,k _ _ Ũ e,c}
 |set S n=>let{g,j,i,t,e,c}:=x;show{g,j,i,t,k _ _ Ũ e,c}
 |ins C dx fs=>let{d,z,E,e,m,{s,j,i,e2,c},r}:=x;show{B _ d,z,E,k _ _ Ũ e,m,{s,j,i,k _ _ (.inr d) e2,c},r}
 |own y=>let{g,e}:=x;show{g,k _ _ Ũ e}
 |xd fs=>let{m,{s,j,i,e,c},r}:=x;show{m,{s,j,i,k _ _ Ũ e,c},r}
 |rng lo hi=>let{t,u,v,e}:=x;show{t,u,v,k _ _ Ũ e}
 |zz g u ih=>let{e,q}:=x;show{k _ _ Ũ e,ih q}
 |tbl ps=>have e:Ć a=À { cls:=.none,Č:=.fields ps }:=x;exact ė a=À { cls:=.none,Č:=.fields ps };show k a _ Ũ e|met f y=>have e:Ć a=À ġk:=x;exact ė a=À ġk;show k a _ Ũ e|ext φ=>let{p,{o,e},st}:=x;show{st _ _ p λo q=>k _ _ Ũ q,{o,k _ _ Ũ e},st}
theorem xW.lt(x:xW P w H h)(e:H a=À o):a<ϱa:=(Ϗo).lt
def xW.fresh(x:xW P w H h)(e:ϱa<=a):H a=Â:=by
 cases q:H a with
 |Â=>rfl|À u=>show Þ (Ŧ (x.lt q) e) Åa
def xW.kept(x:xW P w H h)(k:∀b u,Ć b=À u->ė b=À u):xW P w H h':=λa o e=>
 (Ϗo).gj (λb u _ q=>k b u q) ġf λ_ _ q=>q
def xW.laid(x:xW P w H h)(k:∀b u,Ć b=À u->ė b=À u)(g:ϱa<=a)(d:yj P w ϭd h' a o):xW P w ϭd h':=λb u e=>by let f:=x.fresh g;rw[ép];rw[yE]at e;cases e;show d;rw[zr hb]at e;show(ěi).gj (λc v _ q=>k c v q) (λc q=>by rw[zr (qU q f)];show q) λc i q=>by rw[zr (qU q f)];show q
#print a
def Rd(H:Hp)(a:Ë)(u:HO):Æ:=H a=À u\/∃o,H a=À Üe
def Rd.ok{P:à}{w:ß}{H:Hp}{h:Heap}{a:Ë}{u:HO}(r:Rd H a u)(x:xW P w H h):yj P w H h a u:=by rcases r with r|⟨o,r⟩;show x a u r;let{_,q}:=x a _ r;show q
def TK:É HO->Æ
 |À (.lst _)=>Ľb|À (.dK _)=>Ľb|À (.dT _)=>Ľb|À (.set _ _)=>Ľb|À (.ins _ _ _)=>Ľb|À (.ext _)=>Ľb|_=>í
section
variable{P:à}{w:ß}{H:Hp}{h h':Heap}{x e:Ë}{o':HO}
def xW.write(ok:xW P w H h)(f:TK (H x))(n:e=x\/H e=À ċd)(k:∀b u,b≠e->Ć b=À u->ė b=À u)(j:∃u,ė e=À u)(l:yj P w đn h' x o'):xW P w đn h':=λb u q=>by
 let a:∀c y,H c=À ĭf->c≠x:=λc y r z=>by subst z;rw[r]at f;show f
 let d:∀c g,H c=À (.tup g)->c≠x:=λc g r z=>by subst z;rw[r]at f;show f
 by_cases hb:b=x;subst hb;rw[yE]at q;cases q;show l;rw[zr hb]at q;by_cases hbe:b=e;let m:H b=À ċd:=by rcases n with z|z;show Þ (hbe.trans z) hb;rw[hbe];show z
 rw[q]at m;cases m;let{v,o}:=j;show{v,by rw[hbe];show o};show(ok b u q).gj (λc v i r=>k c v ?_ r) (λc r=>by rw[zr (a c b r)];show r) λc g r=>by rw[zr (d c g r)];show r
 rcases i with rfl|i;show hbe;rintro rfl;rcases n with z|z;show a c b i z;rw[i]at z;cases z;show hb rfl
#print a
structure Un(fs ex:Á Ë)(H H':Hp)(h h':Heap):Æ where
 ēa:∀b o,Ć b=À o->H b=Â->b ∉ fs->b ∉ ex->ė b=À o
 slot:∀b o,Ć b=À o->H b=Â->b∈fs->b ∉ ex->∃sl,ė b=À { o with ϋb:=sl }
 free:∀b o,Ć b=À o->H b=Â->b ∉ ex->H' b=Â
 óg:∀b o,Ć b=À o->b ∉ ex->∃o',ė b=À o'
 vW:∀b xs,H b=À Ļa->H' b=À Ļa
 vi:∀b o u,H b=À Üe->H' b=À Üe
 uW:∀b ps,H b=À Þe->∃more,H' b=À Ϙl
section
variable{fs ex:Á Ë}{H H1:Hp}{h h1 h':Heap}{a x e:Ë}{o:HO}
def Un.any(u:Un fs ex H H1 h h1){b:Ë}{a:Obj}(q:Ć b=À a)(n:H b=Â)(c:b ∉ ex):∃sl,ϕi b=À { a with ϋb:=sl }:=by by_cases hb:b∈fs;show Îg b a q n hb c;show{a.slots,Ġe b a q n hb c}
def će(k:∀b u,Ć b=À u->ė b=À u):Un fs ex H H h h':=
 {λb a q _ _ _=>k b a q,λb a q _ _ _=>{a.slots,k b a q},λ_ _ _ n _=>n,λb a q _=>{a,k b a q},λ_ _ q=>q,λ_ _ _ q=>q,λ_ c q=>{#[],by rw[q];simp}}
def Un.refl:Un fs ex H H h h:=će λ_ _ q=>q
def Un.laid(k:∀b u,Ć b=À u->ė b=À u)(d:ϱa<=a)(c:H a=Â):Un fs ex H ϭd h h' where
 ēa:=λb u q _ _ _=>k b u q
 slot:=λb u q _ _ _=>{u.slots,k b u q}
 free:=λb u q n _=>by rw[zr (Ŕ (Ŧ ĕe d))];show n
 óg:=λb u q _=>{u,k b u q}
 vW:=λb e q=>by rw[zr ši];show q
 vi:=λb u e q=>by rw[zr ši];show q
 uW:=λb f q=>{#[],by rw[zr ši,q];simp}
def Un.write(a:TK (H x))(l:e=x\/H e=À ċd)(k:∀b u,b≠e->Ć b=À u->ė b=À u)(c:∃u,ė e=À u):Un fs ex H ϗh h h':=by
 let f:∀b,H b=Â->b≠x:=λb n z=>by subst z;rw[n]at a;show a
 let g:∀b,H b=Â->b≠e:=λb n z=>by subst z;rcases l with r|r;show f b n r;rw[n]at r;cases r
 let d:∀b u,H b=À u->¬ TK (À u)->b≠x:=λb u q i z=>by subst z;rw[q]at a;show i a
 refine⟨λb u q n _ _=>k b u (g b n) q,λb u q n _ _=>{u.slots,k b u (g b n) q},λb u q n _=>by rw[zr (f b n)];show n,λb u q _=>?_,
  λb j q=>by rw[zr âh];show q,λb u j q=>by rw[zr âh];show q,λb m q=>{#[],by rw[zr âh,q];simp}⟩
 by_cases hbe:b=e;subst hbe;show c;show{u,k b u hbe q}
#print a
nonrec def MV(h:Heap)(H:Hp):Á Ë:=(ťo).filter λa=>(H a).isSome
def ZU(h:Heap)(H:Hp):Heap:=W.hideAll h Ŭi
def z1d(h:Heap)(H:Hp):(όf).objs.size=ϱa:=W.hideAll_size _ _
def z1c{h:Heap}{H:Hp}{b:Ë}{o:Obj}(e:Ć b=À o)(n:H b=Â):(όf).get? b=À o:=
 ϗm _ e λa=>by let q:(H b).isSome=Ã:=(List.mem_filter.mp a).2;rw[n]at q;simp at q
def z6m{h:Heap}{H:Hp}{b:Ë}{o:Obj}(e:(όf).get? b=À o):Ć b=À o/\H b=Â:=by
 let a:Ć b=À o:=Ŗh Ŭi e;show{a,?_};cases q:H b with
 |Â=>rfl|À x=>have c:b∈MV h H:=List.mem_filter.mpr {Īl (Ğ a),by simp[q]};let z:(όf).get? b=Â:=W.hideAll_none Ŭi c;rw[z]at e;cases e
nonrec def mI(g h:Heap)(L:Ë):Á ô:=(ťo).filterMap λa=>if a=L\/(g.get? a).isSome=Ã then Â else(Ć a).map λo=>(a,o)
def zY(g h:Heap)(L d:Ë):Á ô:=(mI g h L).filter λp=>decide (p.1≠d)
structure Mod(K:Ï)(mg:Ç->É Value)(È:Heap):Æ where
 jM:İ È
 glob:đd õ mg
 blt:∃mb,đd Ϯh mb/\∀x:Ç,x ≠ Ęf->mb x=Ś x
 nolimit:base.NoLimit
structure Cx where
 Ā:à
 w:ß
 K:Ï
 mg:Ç->É Value
 È:Heap
 A:è
 N:Á Ç
 s₀:Í
 H₀:Hp
 env:Env
 é:Á Env
 stack:Á Env
 ex:Á Ë
 fn:Ç->Ò
 calm:Ò
 pn:Á ô
 xe:Value->Í->Æ
nonrec def xg(l:Á Env):Á Ë:=l.filterMap (·.frame)
abbrev Cx.fs(X:Cx):Á Ë:=xg Ťa
def jQ(a:ϭ)(x:Ç):Æ:=čb x=À .local\/čb x=À .cell\/čb x=À .free
def uq(a:ϭ)(x:Ç):Æ:=čb x=À .local\/čb x=À .cell
def lr(env:Env)(h:Heap)(m:Ç->É Value)(x:Ç)(u:Value):Æ:=
 (ĭc x=À .local/\m x=À u)\/((ĭc x=À .cell\/ĭc x=À .free)/\∃c,Óh x=À c/\h.IsCell c (À u))
structure Cx.Ok(X:Cx):Æ where
 mod:Mod X.K â Ĥ
 kind:X.env.scope.kind=.function
 glob:ϕm=õ
 blt:X.env.builtins=Ϯh
 above:ϗb<=ő
 inj:∀x y c,Āa x=À c->Āa y=À c->x=y
 has:∀x,(ϭb x=À .cell\/ϭb x=À .free)->∃c,Āa x=À c
 Z_:∀x c,X.fn x=Ã->Āa x=À c->ϗb<=c
 hd:ż=Ã->æb=Â
 éj:ϱh=À ķ
 XT:ķ=Ťa\/(ķ=Ó::Ťa/\Ϫd=À ő)
 XQ:∀b∈Ìb,b≠ő/\∀x c,Āa x=À c->c≠b
 bs:∀b o,ϫd b=À o->Ϩb b=À o/\ŧa b=Â
 pO:X.base.objs.size<=ϗb
 Y3:∀b o,ϫd b=À o->b ∉ Ìb
 Y1:∀b∈Ìb,b ∉ Ĕa
 tP:ϔk Ĥ Ťa
 jz:∀b∈Ĕa,ŧa b=Â
structure zD(X:Cx)(z0:Á ô)(σ:Á ϴf)(H:Hp)(s:Í):Æ where
 ok:X.Ok
 os:s.os=X.s₀.os
 bare:äc Ñg
 È:Un Ĕa Ìb ŧa H Œn Ü
 loc:∃m,äi ő m/\∀(i:Ä)(x:Ç)(v:V),X.N[i]?=À x->σ[i]?=À Ϗ->jQ ϟ x->∃u,zu v u/\lr Ó Ü m x u
 cell:∀x c,Āa x=À c->∃v,ĩh c v
 free:H ő=Â
 tO:∀x c,Āa x=À c->H c=Â
 pin:∀p∈ϐb++z0,ö p.1=À p.2/\H p.1=Â/\p.1≠ő/\p.1 ∉ Ĕa/\∀v,p.2.data≠.cell v
 zU:xW ì X.w H Ü
 len:σ.length=ê
section
variable{X:Cx}{z0:Á ô}{σ:Á ϴf}{H H':Hp}{s:Í}{h':Heap}
def Cx.Ok.lQ(ok:X.Ok){b:Ë}{o:Obj}(e:ϫd b=À o):b ∉ Ĕa:=λa=>by let:=(ok.tP.mem a).1;rw[e]at this;rw[ϛp]
theorem zD.bs(I:zD X z0 σ H s):∀b o,ϫd b=À o->ö b=À o/\H b=Â:=λb o e=>
 {ϰc b o Óf.1 Óf.2 (I.ok.lQ e) ũn,ϧb b o Óf.1 Óf.2 ũn}
def zD.bk(I:zD X z0 σ H s):∀b o,ϫd b=À o->ö b=À o:=λb o e=>(I.bs b o e).1
theorem zD.mod(I:zD X z0 σ H s):Mod X.K â Ĥ:=ðe
def zD.ye(I:zD X z0 σ H s):X.K.In Ü:=I.ok.mod.jM.keeps I.bk
theorem zD.lt(I:zD X z0 σ H s):ő<Ý:=let ⟨_,hn,_⟩:=Úa;hn.lt
def zD.sz(I:zD X z0 σ H s):ϗb<=Ý:=Ĳ Ĝf (Àa I.lt)
def zD.Po(I:zD X z0 σ H s){a:Ë}(h:Ý<=a):a ∉ Ĕa:=λb=>by let{_,o,c,_}:=šn b;show Þ (Ŧ (Ğ c) (Ĳ I.sz h)) Åa
def zD.Y0(I:zD X z0 σ H s):∀x c,Āa x=À c->c≠ő:=λx c e z=>by let{v,o,d,f}:=øa x c e;let{m,{g,i,h,b,a,_},_}:=Úa;rw[z,b]at d;cases d;rw[a]at f;cases f
theorem zD.tP(I:zD X z0 σ H s):ϣc Ĥ Ťa:=by
 let f:∀(l:Á Env),(∀b∈xg l,b∈Ĕa)->ϔk Ĥ l->ϣc Ĥ l:=by
  intro l
  induction l with
  |nil=>intro _ _;trivial|î env r ih=>
   intro g m;let{i,{L,o,a,j,n,k},h}:=m;let c:L∈Ĕa:=g L (by unfold xg;rw[ϟe,a];show Ō);let{p,e}:=ħc L o n (Ϣf L c) c λz=>ϣf L z c
   show{i,{L,_,a,j,e,k},ih (λb d=>g b (by unfold xg;rw[ϟe,a];show Ϲ _ d)) h}
 show f Ťa (λ_ d=>d) Ϡi
theorem zD.stack(I:zD X z0 σ H s):ϣc Ĥ ķ:=by rcases Ϥf with e|⟨e,hf⟩;rw[e];show I.tP;rw[e];let{m,a,_}:=Úa;refine .cons (by rw[Ŝa];decide) hf a ?_ I.tP;show Heap.get?_none_of_le (Ĳ Ēd Ĝf)
def zD.Wr(I:zD X z0 σ H s):∀b∈xg ķ,b∈ő::Ĕa:=λb a=>by rcases Ϥf with e|⟨e,hf⟩;rw[e]at a;show Ϲ _ a;rw[e]at a;unfold xg at a;rw[ϟe,hf]at a;show a
def zD.IJ(I:zD X z0 σ H s):∀b∈xg ķ,H b=Â:=λb a=>by rcases ř (I.Wr b a)with e|a;rw[e];show Đa;let{_,o,c,_}:=šn a;show ϧb b o c (Ϣf b a) λz=>ϣf b z a
def zD.step{g':Ú œi}{t':Ä}{d':Drawn}{ch:Á Ë}(I:zD X z0 σ H s)(j:∀b∈ch,Ϯe/\b≠ő/\(∀x c,Āa x=À c->c≠b)/\∀p∈ϐb++z0,p.1≠b)(t:∀b o,b≠ő->b ∉ Ĕa->b ∉ ch->ö b=À o->H b=Â->ė b=À o)(A:∀b o,b≠ő->b∈Ĕa->b ∉ ch->ö b=À o->H b=Â->∃sl,ė b=À { o with ϋb:=sl })(f:∀b o,b ∉ ch->ö b=À o->H b=Â->H' b=Â)(C:∀b o,b ∉ ch->ö b=À o->∃o',ė b=À o')(T:∀b xs,H b=À Ļa->H' b=À Ļa)(Z:∀b o u,H b=À Üe->H' b=À Üe)(S:∀b ps,H b=À Þe->∃more,H' b=À Ϙl)(ns:∀m,äi ő m->h'.Ns ő m)(Q:xW ì X.w H' h')(P:äc g') :zD X z0 σ H' { s with ä:=h',gens:=g',drawn:=d',Ě:=t' }:=by
 let F:∀b o,Ϩb b=À o->b≠ő:=λb o e=>Ŕ Őe
 let y:∀b o,Ϩb b=À o->b ∉ Ìb->b ∉ ch:=λb o e a B=>by rcases(j b B).1 with z|z;show a z;show Þ (Ŧ įc z) Åa
 let g:∀x c,Āa x=À c->∀v,ĩh c v->ĭo c v:=λx c e v ⟨o,E,J⟩=>by
  let h:c ∉ ch:=λz=>(j c z).2.2.1 x c e rfl
  by_cases hc:c∈Ĕa;let{sl,q}:=A c o ūh hc h E Ūh;show{_,q,J};show{o,t c o ūh hc h E Ūh,J}
 show{Ŭc,Ϥa,P,{λb o e n B a=>?_,λb o e n B a=>?_,λb o e n a=>?_,λb o e a=>?_,λb xs e=>T b xs (Ĵc b xs e),λb o xs e=>Z b o xs (ĳc b o xs e),λb ps e=>?_},?_,λx c e=>?_,?_,λx c e=>?_,λp K=>?_,Q,ŭa};show t b o ϫo B ďf (ϰc b o e n B a) öh;let{sl,e1}:=ħc b o e n B a;let{G,e2}:=A b _ ϫo B ďf e1 öh;show{G,e2};let{o',e1}:=ŕb b o e a;show f b o' ďf e1 öh;let{o',e1}:=ŕb b o e a;show C b o' ďf e1;let{U,e1}:=ĵc b ps e;let{W,e2}:=S b _ e1;show{U++W,by rw[e2,įl]};let{m,O,Y}:=Úa;show{m,ns m O,λi x v e1 e2 R=>?_};let{u,r,l}:=Y i x v e1 e2 R;show{u,r,?_};rcases l with l|⟨k,c,e,z⟩;show .inl l;show .inr {k,c,e,g x c e _ z};let{v,z}:=øa x c e;show{v,g x c e v z};let{m,{o,_,_,E,_},_}:=Úa;show f _ o (λz=>(j _ z).2.1 rfl) E Đa;let{v,o,E,J}:=øa x c e;show f c o (λz=>(j c z).2.2.1 x c e rfl) E Ūh;let{e,n,N,L,d}:=ûa p K;let h:p.1 ∉ ch:=λz=>(j p.1 z).2.2.2 p K rfl
 show{t p.1 p.2 N L h e n,f p.1 p.2 h e n,N,L,d}
def zD.un{t':Ä}(I:zD X z0 σ H s)(u:Un Ĕa [] H H' Ü h')(k:xW ì X.w H' h'):zD X z0 σ H' { s with ä:=h',Ě:=t' }:=by
 let{m,{o,v,q,g,r},_}:=id Úa;let{l,i}:=u.any g Đa ü
 show ôj (g':=Ñg) (d':=s.drawn) (ch:=[]) ō (λb o _ f _ e n=>Ġe b o e n f ü) (λb o _ f _ e n=>Îg b o e n f ü) (λb o _ e n=>Ïg b o e n ü) (λb o _ e=>ϙf b o e ü) u.vW u.vi u.uW (λp j=>by let{t,d,c,a,h}:=j;rw[g]at a;cases a;show{_,d,c,i,h}) k đa
def zD.call{g':Ú œi}{t':Ä}{d':Drawn}{ch:Á Ë}(I:zD X z0 σ H s)(u:Un Şi ch H H' Ü h')(t:xW ì X.w H' h')(q:äc g')(f:∀b∈ch,Ϯe/\b≠ő/\(∀x c,Āa x=À c->c≠b)/\∀p∈ϐb++z0,p.1≠b) :zD X z0 σ H' { s with ä:=h',gens:=g',drawn:=d',Ě:=t' }:=by
 let{m,{o,E,B,j,r},_}:=id Úa;let{y,h}:=u.any j Đa λz=>(f _ z).2.1 rfl
 show ôj (ch:=ch) f (λb o h v a e n=>Ġe b o e n (λz=>(ϻl).elim h v) a) (λb o _ _ a e n=>u.any e n a) (λb o a e n=>Ïg b o e n a) (λb o a e=>ϙf b o e a) u.vW u.vi u.uW (λA l=>by let{C,i,g,d,k}:=l;rw[j]at d;cases d;show{_,i,g,h,k}) t q
def zD.turned{t':Ä}{it:Ë}(I:zD X z0 σ H s)(k:∀b o,b≠it->ö b=À o->ė b=À o)(i:H it=Â)(f:it≠ő)(g:it∈Ìb\/ϗb<=it)(y:∀x c,Āa x=À c->c≠it)(h:∀p∈ϐb++z0,p.1≠it):zD X z0 σ H { s with ä:=h',Ě:=t' }:=by
 let d:∀b u,H b=À u->b≠it:=λb u e z=>by rw[z,i]at e;cases e
 show ôj (g':=Ñg) (d':=s.drawn) (ch:=ϑb) (λb t=>?_) (λb o _ _ a e _=>k b o Żg e) (λb o _ _ a e _=>{ϓi,k b o Żg e}) (λ_ _ _ _ n=>n)
  (λb o a e=>{o,k b o Żg e}) ăn (λ_ _ _ e=>e) (λb B e=>{#[],by rw[e];simp}) (λm j=>?_) (λb u e=>?_) đa
 let e:b=it:=by simpa using t
 subst e;show{g,f,y,h};let{o,w,l,A,r}:=j;show{o,w,l,k _ o (Ľa f) A,r};show(Ď b u e).gj (λc v a q=>k c v ?_ q) ġf λ_ _ q=>q
 rcases a with z|z;rw[z];show d b u e;show d c _ z
def zD.tok(I:zD X z0 σ H s)(t:Ä):zD X z0 σ H { s with Ě:=t }:=I.un (h':=Ü) (t':=t) Un.refl Ď
theorem zD.kept{t':Ä}(I:zD X z0 σ H s)(k:∀b u,ö b=À u->ė b=À u):zD X z0 σ H { s with ä:=h',Ě:=t' }:=I.un (će k) (Ļo k)
theorem zD.laid{a:Ë}{o:HO}{t':Ä}(I:zD X z0 σ H s)(k:∀b u,ö b=À u->ė b=À u)(d:Ý<=a)(c:yj ì X.w ϭd h' a o) :zD X z0 σ ϭd { s with ä:=h',Ě:=t' }:=I.un (Un.laid k d (ďb d)) (I.zU.laid k d c)
theorem zD.write{x e:Ë}{o:HO}{t':Ä}(I:zD X z0 σ H s)(f:TK (H x))(d:e=x\/H e=À ċd)(k:∀b u,b≠e->ö b=À u->ė b=À u)(a:∃u,ė e=À u)(c:yj ì X.w ϗh h' x o):zD X z0 σ ϗh { s with ä:=h',Ě:=t' }:=I.un (Un.write f d k a) (I.zU.write f d k a c)
def zD.weak{σ':Á ϴf}(I:zD X z0 σ H s)(b:σ'.length=σ.length)(w:∀(i:Ä) v,σ'[i]?=À Ϗ->σ[i]?=À Ϗ):zD X z0 σ' H s:=
 {Ŭc,Ϥa,đa,Ħd,let ⟨m,hn,hl'⟩:=Úa;{m,hn,λi x v e1 e2 a=>hl' i x v e1 (w i v e2) a},øa,Đa,ϣa,ûa,Ď,Ϛi ŭa}
def zD.Uv{a:Á ô}(I:zD X z0 σ H s)(h:∀p∈a,ö p.1=À p.2/\H p.1=Â/\p.1≠ő/\p.1 ∉ Ĕa/\∀v,p.2.data≠.cell v):zD X a σ H s:=
 {Ŭc,Ϥa,đa,Ħd,Úa,øa,Đa,ϣa,λp b=>(ōa b).elim (λz=>ûa p (Ċc _ z)) (h p),Ď,ŭa}
def bY{N:Á Ç}(c:N.Nodup){i j:Ä}{x:Ç}(a:N[i]?=À x)(b:N[j]?=À x):i=j:=by let{d,e1}:=Ť a;let{e,e2}:=Ť b;show(Ãf c).mp (e1.trans e2.symm)
def fB{M:öc}{A:è}{E:Value->Í->Æ}{i:Ä}{x:Ç}{v:V}{u:Value}{Q:èa->Í->Æ}(I:zD X z0 σ H s)(hN:Ϩ)(hi:X.N[i]?=À x)(t:uq ϟ x)(r:zu v u)(h:∀s',zD X z0 ϵc H s'->(∃a,ϰa a Ü ťa/\(a=ő\/Āa x=À a))->Q () s')(hf:Ì Ĩa q7):Õ M A ąl Q E s:=by
 let{m,Y,hl}:=id Úa;let L:Įj=Å:=by rw[Ŝa];rfl
 let O:i<σ.length:=by rw[ŭa];show ŀa.1
 let U:=I.Y0
 let g:∀{a:Ë}{h':Heap},(∃o,ö a=À o/\H a=Â)->ϰa a Ü h'->xW ì X.w H h':=λ{a h'} ha f b ob e=>by
  let{_,_,B}:=ha;show(Ď b ob e).gj (λc S l q=>(f.2 c ?_).trans q) ġf λ_ _ q=>q
  rintro rfl;rcases l with rfl|l;rw[B]at e;cases e;rw[B]at l;cases l
 rcases t with hk|hk;show wpAny_storeName_local hk Y (λh' hn' f=>?_) L;let{oL,_,_,W,_}:=id Y;show h _ {Ŭc,Ϥa,đa,{λb o e n F t=>?_,λb o e n F t=>?_,ϧb,λb o e t=>?_,Ĵc,ĳc,ĵc},{_,hn',λj y v' e1 e2 e3=>?_},λy c e=>?_,Đa,ϣa,λp hp=>?_,g {oL,W,Đa} f,by simpa using ŭa} {_,f,.inl rfl};show(Êh).trans źl;let{T,e1}:=ħc b o e n F t;show{T,(Êh).trans e1};let{Z,e1}:=ŕb b o e t;show{Z,(Êh).trans e1};rw[Ćp];show{u,r,.inl {hk,by simp}};rw[ąp];rcases q with⟨k,e⟩|⟨k,c,e,z⟩;show .inl {k,?_};let:y≠x:=λe=>hj (bY hN e1 (e▸hi))
 simp[this,e];show .inr {k,c,e,Ęo f Ϩo};let{S,z}:=øa y c e;show{S,Ęo f Ϩo};let{e,n,R,nf,d}:=ûa p hp;show{(f.2 p.1 R).trans e,n,R,nf,d};let C:X.fn x=Ã:=by rcases hf with z|z;show z;rw[z]at hk;cases hk
 let{c,l}:=Œi x (.inl hk);let{S,z}:=øa x c l;show wpAny_storeName_cell Ŝa hk l z (λh' J f=>?_);let{oc,G,K}:=id z;show h { s with ä:=h' } {Ŭc,Ϥa,đa,{λb o e n F t=>?_,λb o e n F t=>?_,ϧb,λb o e t=>?_,Ĵc,ĳc,ĵc},{m,Y.sameBut f (Ľa (U x c l)),λj y v' e1 e2 e3=>?_},λy P e=>?_,Đa,ϣa,λp hp=>?_,g {oc,G,ϣa x c l} f,by simpa using ŭa} {c,f,.inr l};show(ġg).trans źl;let{T,e1}:=ħc b o e n F t;show{T,(ġg).trans e1};let{Z,e1}:=ŕb b o e t;show{Z,(ġg).trans e1};rw[Ćp];show{u,r,.inr {.inl hk,c,l,J}};rw[ąp];rcases q with q|⟨k,P,e,z'⟩;show .inl q;show .inr {k,P,e,z'.sameBut f ?_};rintro rfl;show hj (bY hN e1 (űf _ _ _ e l▸hi));by_cases hcc:P=c;subst hcc;show{_,J};let{w2,z2}:=øa y P e;show{w2,z2.sameBut f hcc};let{e,n,R,nf,d}:=ûa p hp;show{(f.2 p.1 ?_).trans e,n,R,nf,d};intro q;rw[q,G]at e;let q':oc=p.2:=īa e;show d S (by rw[<-q'];show K)
def JD{M:öc}{A:è}{E:Value->Í->Æ}{i:Ä}{x:Ç}{v:V}{u:Value}{Q:èa->Í->Æ}(I:zD X z0 σ H s)(d:Ϩ)(hi:X.N[i]?=À x)(c:uq ϟ x)(r:zu v u)(h:∀s',zD X z0 ϵc H s'->Q () s')(a:Ì Ĩa q7):Õ M A ąl Q E s:=
 fB I d hi c r (λs' b _=>h s' b) a
def zD.Ur{s':Í}{ch:Á Ë}(I:zD X z0 σ H s)(h:õg=s.os)(u:Un Şi ch H H' Ü ťa)(g:xW ì X.w H' ťa)(f:äc Ϛf)(a:∀b∈ch,Ϯe/\b≠ő/\(∀x c,Āa x=À c->c≠b)/\∀p∈ϐb++z0,p.1≠b):zD X z0 σ H' s':=by let{h',g',d',t',d}:=s';let e:d=s.os:=h;subst e;show I.call (g':=g') (t':=t') (d':=d') u g f a
#print a
abbrev XK:=Value->É Ë->Hp->Æ
abbrev St:=Á ϴf
abbrev VK:=V->Hp->Æ
abbrev TE:=St->Hp->VK->Æ
abbrev TT:=St->Hp->(Ò->Hp->Æ)->Æ
abbrev TA:=St->Hp->(Á V->Hp->Æ)->Æ
structure xv where
 nx:St->Hp->Æ
 rt:VK
 bk:St->Hp->Æ:=λ_ _=>í
 ct:St->Hp->Æ:=λ_ _=>í
abbrev TS:=xv->St->Hp->Æ
def EP(X:Cx)(a:Á ô)(σ:St)(Q:VK)(u:Value)(s':Í):Æ:=∃v H',zD X a σ H' s'/\zu v u/\Q v H'
def TP(X:Cx)(a:Á ô)(σ:St)(Q:Ò->Hp->Æ)(b:Ò)(s':Í):Æ:=∃H',zD X a σ H' s'/\Q b H'
def AP(X:Cx)(a:Á ô)(σ:St)(Q:Á V->Hp->Æ)(us:Á Value)(s':Í):Æ:=∃vs H',zD X a σ H' s'/\zk vs us/\Q vs H'
def SP(X:Cx)(a:Á ô)(D:xv)(f:Flow)(s':Í):Æ:=
 match f with
 |.next=>∃σ' H',zD X a σ' H' s'/\ųa σ' H'|.brk=>∃σ' H',zD X a σ' H' s'/\D.bk σ' H'|.cont=>∃σ' H',zD X a σ' H' s'/\D.ct σ' H'|.ret u=>∃v σ' H',zD X a σ' H' s'/\zu v u/\D.rt v H'
def PE(X:Cx)(e:Ñ)(t:TE):Æ:=
 ∀(z0:Á ô) (s:Í) (σ:St) (H:Hp) (Q:VK),zD X z0 σ H s->t σ H Q->Õ ā X.A Ãd ϫa ĥ s
def PT(X:Cx)(e:Ñ)(t:TT):Æ:=
 ∀(z0:Á ô) (s:Í) (σ:St) (H:Hp) (Q:Ò->Hp->Æ),zD X z0 σ H s->t σ H Q->Õ ā X.A (ġd e Ó Ãd) Ěh ĥ s
def PW(X:Cx)(e:Ñ)(t:TT):Æ:=
 ∀(ñc:Sem Value)(z0:Á ô) (s:Í) (σ:St) (H:Hp) (Q:Ò->Hp->Æ),zD X z0 σ H s->t σ H Q->Õ ā X.A (ġd e Ó ñc) Ěh ĥ s
def PW.pt{X:Cx}{e:Ñ}{t:TT}(h:PW X e t):PT X e t:=h _
def PA(X:Cx)(es:Á Ñ)(t:TA):Æ:=
 ∀(pos:Pos)(z0:Á ô) (s:Í) (σ:St) (H:Hp) (Q:Á V->Hp->Æ),zD X z0 σ H s->t σ H Q->Õ ā X.A (spliced źc) Ÿm ĥ s
def PS(X:Cx)(st:Ô)(t:TS):Æ:=
 ∀(z0:Á ô) (s:Í) (σ:St) (H:Hp) (D:xv),zD X z0 σ H s->t D σ H->Õ ā X.A (exec st Ó) Ϧn ĥ s
def wy(X:Cx)(st:Á Ô)(t:TS):Æ:=
 ∀(z0:Á ô) (s:Í) (σ:St) (H:Hp) (D:xv),zD X z0 σ H s->t D σ H->Õ ā X.A (execs st Ó) Ϧn ĥ s
def zn{α:Type}{t:Sem α}{Q b:α->Í->Æ}{M:öc}{A:è}{E:Value->Í->Æ}{s:Í}(h:Õ M A t Q E s)(c:∀a s,Q a s->b a s):Õ M A t b E s:=ϋ h c λ_ _ x=>x
section
variable{X:Cx}
nonrec def Yx(i:Ä):TE:=λσ H Q=>∃v,σ[i]?=À Ϗ/\Q v H
nonrec def tC(v:V):TE:=λ_ H Q=>Q v H
def Zh{i:Ä}{x:Ç}{pos:Pos}(o:X.N[i]?=À x)(hv:jQ ϟ x)(g:Ì Ģ q10)(f:Ì þb q10):PE X Ąa ðc:=by intro q s σ H Q I h;let{v,e,h}:=h;let{m,k,p}:=Úa;let{u,r,l}:=p i x v o e hv;let d:EP X q σ Q u s:={v,H,I,r,h};rcases l with⟨b,n⟩|⟨b,c,j,a⟩;show Ϩh (Ϲk Ŝa b k n d) g;rcases b with b|b;show Ϩh (ìl Ŝa b j a d) g;show Ϩh (wpAny_loadName_free Ŝa b j a d f) g
def Eu{i j pos}:PE X (.Constant Ěa j pos) (tC Ěa):=λ_ _ _ H _ I h=>wpAny_Constant_int {.int i,H,Ž _,{_,rfl},h}
def z9w{b j pos}:PE X (.Constant Şf j pos) (tC ób):=λ_ _ _ H _ I h=>Constant_bool {.bl b,H,I,rfl,h}
def y0d{j pos}:PE X (.Constant .none j pos) (tC .zI):=λ_ _ _ H _ I h=>Constant_none {.zI,H,I,rfl,h}
def y0h{x j pos}:PE X (.Constant Ýc j pos) (tC Ýc):=λ_ _ _ H _ I h=>Calls.Constant_str {.str x,H,Ž _,{_,rfl},h}
def Gl(X:Cx)(x:Ç):Æ:=ϭb x=À .globalImplicit
def ZY{E:Value->Í->Æ}{b:Á ô}{s:Í}{σ:St}{H:Hp}{x:Ç}{u:Value}{pos:Pos}{Q:Value->Í->Æ}(I:zD X b σ H s)(a:Gl X x)(c:â x=À u)(h:Q u s)(d:Ì Ģ q10):Õ ā X.A ϰm Q E s:=
 Çk Ŝa a (Calls.loadGlobal_global ţj c h) d
def X_{E:Value->Í->Æ}{d:Á ô}{s:Í}{σ:St}{H:Hp}{x:Ç}{u:Value}{pos:Pos}{Q:Value->Í->Æ}(I:zD X d σ H s)(a:Gl X x)(g:â x=Â)(hv:Ś x=À u)(h:Q u s)(e:Ì ϩa q10)(c:Ì Ģ q10):Õ ā X.A ϰm Q E s:=by let{i,b,f}:=I.mod.blt;show Çk Ŝa a (Calls.loadGlobal_builtin ţj g (by rw[Ųf];show b.keeps I.bk) ((f x e).trans hv) h) c
def y09{x:Ç}{v:V}{u:Value}{pos:Pos}(a:Gl X x)(b:â x=À u)(r:zu v u)(c:Ì Ģ q10):PE X Ąa īe:=
 λ_ _ _ H _ I h=>ZY I a b {v,H,I,r,h} c
def z9x{x:Ç}{v:V}{u:Value}{pos:Pos}(a:Gl X x)(d:â x=Â)(hv:Ś x=À u)(r:zu v u)(c:Ì ϩa q10)(b:Ì Ģ q10):PE X Ąa īe:=
 λ_ _ _ H _ I h=>X_ I a d hv {v,H,I,r,h} c b
variable{a b:Ñ}{ta tb:TE}{pos:Pos}
nonrec def tB(t:TE):TT:=λσ H Q=>t σ H λx a=>∃c,x=.bl c/\Q c a
def cQ{e:Ñ}{t:TE}(h:PE X e t)(j:Ì (∀ñc,ġd e Ó ñc=(do let v <-ñc;standAt e.pos;holding [v] ìo)) q11):PT X e (tB t):=by intro i s σ H Q I g;show isTrue_plain (zn (h i s σ H _ I g) λv l a=>?_) (j _);let{x,k,b,f,c}:=a;let{d,rfl,q}:=c;cases f;show ϋc {k,b,q}
variable{tA tB':TT}{zY:Á Ñ}
nonrec def y6t(t u:TT):TT:=λσ H Q=>t σ H λc a=>if c=Ã then u σ a Q else Q Å a
nonrec def y7d(t u:TT):TT:=λσ H Q=>t σ H λc a=>if c=Ã then Q Ã a else u σ a Q
nonrec def y7b(t:TT):TT:=λσ H Q=>t σ H λc a=>Q (!c) a
def cW(b:PT X a tA):PW X Ųg tA:=by
 intro g d s σ H Q I h;show Âo ϱj;cases c with
 |Ã=>show isTrue_and_nil e|Å=>show e
def cX(b:PT X a tA):PW X Žg tA:=by
 intro g d s σ H Q I h;show Ĩo ϱj;cases c with
 |Å=>show isTrue_or_nil e|Ã=>show e
def cV(k:PT X a tA)(j:PW X Ád tB'):PW X èd (y6t tA tB'):=by
 intro m f s σ H Q I h;show Âo ϯj;let{g,i,e}:=d;cases c with
 |Ã=>show j m f l σ g Q i e|Å=>show{g,i,e}
def GB(k:PT X a tA)(j:PW X Àd tB'):PW X çd (y7d tA tB'):=by
 intro m f s σ H Q I h;show Ĩo ϯj;let{g,i,e}:=d;cases c with
 |Ã=>show{g,i,e}|Å=>show j m f l σ g Q i e
def cP(b:PT X a tA):PT X Ŗd (y7b tA):=by rw[ğp];show isTrue_not (b d s σ H (λc e=>Q (!c) e) I h)
nonrec def y6u(ta tb:TE):TE:=λσ H Q=>ta σ H λx a=>∃c,x=.bl c/\if c=Ã then tb σ a Q else Q Ća a
nonrec def y7e(ta tb:TE):TE:=λσ H Q=>ta σ H λx a=>∃c,x=.bl c/\if c=Ã then Q Îa a else tb σ a Q
nonrec def y7c(ta:TE):TE:=λσ H Q=>ta σ H λx a=>∃c,x=.bl c/\Q (.bl (!c)) a
def cE{op}{t:TE}(h:PE X a t):PE X ϕg t:=λb s σ H Q I c=>BoolOp_one (h b s σ H Q I c)
def c9(j:PE X a ta)(l:PE X Ád tb):PE X èd (y6u ta tb):=by
 rw[Ϩp];show BoolOp_and ϰj;rw[İp];cases c with
 |Ã=>show l g m σ i Q f d|Å=>show{.bl Å,i,f,rfl,d}
def y0f(j:PE X a ta)(l:PE X Àd tb):PE X çd (y7e ta tb):=by
 rw[Ϩp];show BoolOp_or ϰj;rw[İp];cases c with
 |Å=>show l g m σ i Q f d|Ã=>show{.bl Ã,i,f,rfl,d}
def y0e(e:PE X a ta):PE X Ŗd (y7c ta):=by rw[ϧp];show UnaryOp_ (zn (e i s σ H _ I h) λv k b=>?_);let{x,j,f,g,d}:=b;let{c,rfl,d}:=d;cases g;show not_of (ϋc {.bl (!c),j,f,rfl,d})
nonrec def y72(t:TT)(ta tb:TE):TE:=λσ H Q=>t σ H λc a=>if c=Ã then ta σ a Q else tb σ a Q
def y0a{c:Ñ}(n:PT X c tA)(m:PE X a ta)(l:PE X b tb):PE X şl (y72 tA ta tb):=by
 intro e s σ H Q I h;show wpAny_IfExp (zn (n e s σ H _ I h) λd k f=>?_);let{i,j,g}:=f;cases d with
 |Ã=>show m e k σ i Q j g|Å=>show l e k σ i Q j g
#print a
def yQ(K:Ï)(H:Hp)(a:Ë)(xs:Á V):Æ:=
 Rd H a ða \/
  ∃(o:Obj) (its:Ú Value) (n:Ä),Ÿ a=À o/\Ça=.type Ĝ/\ĥe=Â/\Ϛ=.seq its n/\Ľi<=á/\zk xs Àe
def yf(K:Ï)(H:Hp)(a:Ë)(xs:Á V):Æ:=
 Rd H a Ļa \/
  ∃(o:Obj) (its:Ú Value) (n:Ä),Ÿ a=À o/\Ça=.type Œ/\Ϛ=.seq its n/\Ľi<=á/\zk xs Àe
nonrec def m8:Value->É V
 |.none=>À .zI|.bool b=>À ób|.int i _=>À Ěa|.str x _=>À Ýc|.bytes b _=>À (.byt b)|.float b _=>À (.XR b)|.ref a=>À ý|.type n=>À (.ty n)|_=>Â
def zu.abs{x:V}{u:Value}(r:zu x u):m8 u=À x:=by
 cases x with
 |zI=>cases r;rfl|bl _=>cases r;rfl|int _=>let{t,rfl}:=r;rfl
 |str _=>let{t,rfl}:=r;rfl
 |byt _=>let{t,rfl}:=r;rfl
 |XR _=>let{t,rfl}:=r;rfl
 |ref _=>cases r;rfl|ty _=>cases r;rfl
def zu.inj{x y:V}{u:Value}(r:zu x u)(q:zu y u):x=y:=īa (r.abs.symm.trans q.abs)
theorem zk.inj{xs ys:Á V}{us:Á Value}(h:zk xs us)(g:zk ys us):xs=ys:=by
 induction h generalizing ys with
 |nil=>cases g;rfl|î r _ ih=>cases g with|î r' t'=>rw[r.inj r',ih t']
section
variable{X:Cx}{z0:Á ô}{σ:St}{H:Hp}{s:Í}{a:Ë}{xs ys:Á V}
def ła{K:Ï}(h:H a=À ða):yQ K H a xs:=.inl źi
def Ļb{K:Ï}(h:H a=À Ļa):yf K H a xs:=.inl źi
def zD.list(I:zD X z0 σ H s)(h:yQ X.K H a xs):∃its:Á Value,zk xs its/\PlainL Ü a ϲ/\ë<=á:=by rcases h with h|⟨o,its,n,hk,hc,hd,hs,hz,r⟩;let{z,its,n,r,e}:=h.ok Ď;show{its,r,{_,n,e,rfl,rfl,rfl},z};refine{Àe,r,{o,n,ŝ a o hk,hc,hd,by simpa using hs},?_};rw[Ϥp]
def zD.tuple(I:zD X z0 σ H s)(h:yf X.K H a xs):∃its:Á Value,zk xs its/\Êb Ü a ϲ/\ë<=á:=by rcases h with h|⟨o,its,n,hk,hc,hs,hz,r⟩;let{z,its,r,p}:=h.ok Ď;show{its,r,p,z};refine{Àe,r,{o,ŝ a o hk,hc,n,by simpa using hs},?_};rw[Ϥp]
def zD.IF(I:zD X z0 σ H s)(h:yQ X.K H a xs)(h':yQ X.K H a ys):xs=ys:=by
 let{c,r,{o,n,e,_,_,d},_}:=ű h;let{b,i,{j,k,f,_,_,g},_}:=ű h';rw[Ģp];rw[d]at g;injection g with d1 _
 rw[ϙp]
 subst this;show r.inj i
def zD.Bf(I:zD X z0 σ H s)(h:yf X.K H a xs)(h':yf X.K H a ys):xs=ys:=by
 let{c,r,{o,e,_,n,d},_}:=Ϭ h;let{b,i,{j,f,_,k,g},_}:=Ϭ h';rw[Ģp];rw[d]at g;injection g with d1 _
 rw[ϙp]
 subst this;show r.inj i
#print a
abbrev Cx.qF(X:Cx)(E:Value->Í->Æ):Cx:={ X with xe:=E }
abbrev Cx.wZ(X:Cx):Cx:=X.qF λ_ _=>í
theorem Cx.Ok.qF{X:Cx}(ok:X.Ok)(E:Value->Í->Æ):(ûe).Ok:=
 {ok.mod,ok.kind,ok.glob,ok.blt,ok.above,ok.inj,ok.has,ok.Z_,ok.hd,ġo,ok.XT,ok.XQ,ok.bs,ok.pO,ok.Y3,ok.Y1,ok.tP,ok.jz}
def Cx.Ok.tR{X:Cx}{E:Value->Í->Æ}(ok:(ûe).Ok):X.Ok:=
 {ok.mod,ok.kind,ok.glob,ok.blt,ok.above,ok.inj,ok.has,ok.Z_,ok.hd,ġo,ok.XT,ok.XQ,ok.bs,ok.pO,ok.Y3,ok.Y1,ok.tP,ok.jz}
section
variable{X:Cx}{z0:Á ô}{σ:St}{H:Hp}{s:Í}{E:Value->Í->Æ}
theorem zD.qF(I:zD X z0 σ H s)(E:Value->Í->Æ):zD ûe z0 σ H s:={I.ok.qF E,Ϥa,đa,Ħd,Úa,øa,Đa,ϣa,ûa,Ď,ŭa}
theorem zD.tR(I:zD ûe z0 σ H s):zD X z0 σ H s:={I.ok.tR,Ϥa,đa,Ħd,Úa,øa,Đa,ϣa,ûa,Ď,ŭa}
theorem SP.tR{D:xv}{f:Flow}{s':Í}(h:SP ûe z0 D f s'):SP X z0 D f s':=by
 cases f with
 |next=>let{σ',a,I,q}:=h;show{σ',a,I.tR,q}
 |brk=>let{σ',a,I,q}:=h;show{σ',a,I.tR,q}
 |ýa=>let{σ',a,I,q}:=h;show{σ',a,I.tR,q}
 |ret u=>let{v,σ',a,I,r,q}:=h;show{v,σ',a,I.tR,r,q}
theorem wy.wZ{st:Á Ô}{t:TS}(h:wy ůa st t):wy X st t:=λz0 s σ H D I a=>
 ϋ (h z0 s σ H D ϐf a) (λ_ _ q=>q.tR) λ_ _ z=>ń z
#print a
section
variable{X:Cx}{st:Ô}{zY:Á Ô}{t u:TS}{e:Ñ}{te:TE}{pos:Pos}
nonrec def y79:TS:=λD σ H=>ųa σ H
nonrec def y7k(t u:TS):TS:=λD σ H=>t { D with nx:=u D } σ H
def Ld:wy X [] y79:=λ_ _ σ H _ I h=>ćc {σ,H,I,h}
def j9(b:PS X st t)(g:wy X zY u):wy X žf (y7k t u):=by
 intro a s σ H D I h;show Œd (zn (b a s σ H { D with nx:=u D } I h) λf e q=>?_);cases f with
 |next=>let{σ',d,c,q}:=q;show g a e σ' d D c q
 |ret v=>show q|brk=>show q|ýa=>show q
def Vq(a:PS X st t):wy X [st] t:=by
 intro b s σ H D I h;show Œd (zn (a b s σ H D I h) λf c q=>?_);cases f with
 |next=>show ćc q|ret v=>show q|brk=>show q|ýa=>show q
def zD.quiet{a:Á ô}{σ:St}{H:Hp}{s:Í}(I:zD X a σ H s):ōn Ó=Å:=by simp[ōn,Ŝa]
nonrec def fH(te:TE):TS:=λD σ H=>te σ H λ_ a=>ųa σ a
def G8(g:PE X e te)(b:Ì ķg q12):PS X Ŀh (fH te):=by intro d s σ H D I h;show ım (zn ņl λv k a=>?_) I.quiet b;let{x,f,i,j,c}:=a;show{σ,f,i,c}
nonrec def y7h(te:TE):TS:=λD σ H=>te σ H D.rt
def Qn(g:PE X e te):PS X ϕe (y7h te):=by intro d s σ H D I h;show wpAny_Return_some (zn ņl λv j a=>?_);let{x,f,i,c,b}:=a;show{x,σ,f,i,c,b}
nonrec def y73(c:TT)(t u:TS):TS:=λD σ H=>c σ H λb a=>if b=Ã then t D σ a else u D σ a
def Vp{c:Ñ}{a b:Á Ô}{i:TT}(m:PT X c i)(o:wy X a t)(n:wy X b u):PS X (.If c a b pos) (y73 i t u):=by
 intro e s σ H D I h;show wpAny_If (zn (m e s σ H _ I h) λd l f=>?_);let{j,k,g}:=f;cases d with
 |Ã=>show o e l σ j D k g|Å=>show n e l σ j D k g
#print a
abbrev TG:=V->St->Hp->Õn->Æ
abbrev kA:=Á V->St->Hp->Õn->Æ
def PG(X:Cx)(a:Ñ)(t:TG):Æ:=
 ∀(z0:Á ô) (s:Í) (σ:St) (H:Hp) (v:V) (u:Value) (Q:St->Hp->Æ),zD X z0 σ H s->zu v u->t v σ H Q->
  Õ ā X.A (żb a Ó u) (λ_ b=>∃σ' H',zD X z0 σ' H' b/\Q σ' H') ĥ s
def TL(X:Cx)(b:Á Ñ)(t:kA):Æ:=
 ∀(z0:Á ô) (s:Í) (σ:St) (H:Hp) (vs:Á V) (us:Á Value) (Q:St->Hp->Æ),zD X z0 σ H s->zk vs us->t vs σ H Q->
  Õ ā X.A (assignInOrder ((Ϡd b Ó).map (·.2)) us) (λ_ a=>∃σ' H',zD X z0 σ' H' a/\Q σ' H') ĥ s
abbrev O3:=V->V->V->Hp->Ϫo->Æ
def Do(X:Cx)(t:O3):Æ:=
 ∀(z0:Á ô) (s:Í) (σ:St) (H:Hp) (o i v:V) (ov iv u:Value) (Q:Hp->Æ),zD X z0 σ H s->zu o ov->zu i iv->zu v u->t o i v H Q->
  Õ ā X.A (ϐi ov iv u) (λ_ a=>∃H',zD X z0 σ H' a/\Q H') ĥ s
abbrev VC:=V->V->Hp->VK->Æ
def TM(X:Cx)(a:úd)(t:VC):Æ:=
 ∀(z0:Á ô) (s:Í) (σ:St) (H:Hp) (x y:V) (v u:Value) (Q:VK),zD X z0 σ H s->zu x v->zu y u->t x y H Q->
  Õ ā X.A (Íe a v u) ϫa ĥ s
section
variable{X:Cx}{pos:Pos}
nonrec def qR(i:Ä):TG:=λv σ H Q=>Q ϵc H
def y0l{i:Ä}{x:Ç}(c:Ϩ)(hi:X.N[i]?=À x)(b:uq ϟ x)(d:Ì Ĩa q7):PG X Ąa Śc:=by intro e s σ H v u Q I r h;show ťl (JD I c hi b r (λf a=>{_,H,a,h}) d)
nonrec def VR:kA:=λa σ H Q=>a=[]/\Q σ H
nonrec def kK(t:TG)(u:kA):kA:=λa σ H Q=>∃v r,a=v::r/\t v σ H λσ' b=>u r σ' b Q
def y0p:TL X [] VR:=by intro c s σ H b a Q I r h;let{e,h}:=h;subst e;cases r;show assignInOrder_nil {σ,H,I,h}
def y0o{e:Ñ}{es:Á Ñ}{t:TG}{u:kA}(d:PG X e t)(k:TL X es u)(c:Ì ((Ϯm).map (·.2)=żb e Ó::(őd).map (·.2)) q12):TL X ă (kK t u):=by
 intro b s σ H m l Q I r h;let{v,n,e1,h}:=h;subst e1;cases r with
 |î r rr=>rw[c];show assignInOrder_cons (zn (d b s σ H _ _ _ I r h) λ_ j a=>?_);let{σ1,i,f,g}:=a;show k b j σ1 i _ _ Q f rr g
nonrec def VS(K:Ï)(n:Ä)(t:kA):TG:=λv σ H Q=>∃a xs,v=.ref a/\yf K H a xs/\ë=n/\t xs σ H Q
def y0n{es:Á Ñ}{k:Ä}{t:kA}{n:Ä}(z:ż=Ã)(h:TL X es t)(l:Ì ám q12)(d:Ì ((őd).findIdx? (·.1)=Â) q12):PG X Ϛl įn:=by
 intro f s σ H v u Q I r c;let{a,x,e1,p,y,c}:=c;subst e1;cases r;let{q,g,i,A}:=Ϭ p;refine assign_Tuple_tuple (Ĝa z) i (by simp[l,<-y,Ęa]) d λw j=>?_
 let m:zD X f σ H { s with ä:=w }:=íc (t':=ě) λb o e=>j b o Öe e
 show h f _ σ H x _ Q m Ōl c
nonrec def Ar(e a:TE)(t:O3):TG:=λv σ H Q=>e σ H λo c=>a σ c λi d=>t o i v d λb=>Q σ b
def y0m{o i:Ñ}{d c:TE}{t:O3}(g:PE X o d)(hi:PE X i c)(e:Do X t)(k:∀v,żb ϔg Ó v=(do
   let ov <-holding [v] Ϭd
   let iv <-holding [v,ov] (Ċ i Ó)
   standAt pos
   holding Ňo (ϐi ov iv v)
   release Ňo []):=by intro _;rfl):PG X ϔg (Ar d c t):=by
 intro b s σ H v u Q I r h;rw[k];show Ð (ŉa (zn Ňl λov E a=>?_));let{x,B,m,w,q}:=a;show Ð (ŉa (zn (hi b E σ B _ m q) λiv z a=>?_));let{y,n,C,l,f}:=a;show Ð (Ϟe (Ð (ŉa (zn (e b z σ n x y v ov iv u _ C w l r f) λ_ F a=>?_))));let{A,j,p}:=a;show wpAny_release {σ,A,j,p}
nonrec def Kr(a:TE)(g:TG):TS:=λD σ H=>a σ H λx b=>g x σ b ųa
def cJ{a e:Ñ}{d:TE}{g:TG}(p:PE X e d)(k:PG X a g)(f:Ì (ħh [a] e Èe Ó=pure Å) q12)(n:Ì (Ĩh [a] e Ó=pure Â) q12)(i:Ì ((Ϡd [a] Ó).map (·.2)=[żb a Ó]) q12):PS X (.Assign [a] e pos) (Kr d g):=by intro c s σ H D I h;show wpAny_Assign_stores (zn (p c s σ H _ I h) λv r b=>?_) f n;let{x,o,j,m,l}:=b;rw[i];show zn (k c r σ o x v _ j m l) λ_ t q=>q
def y19{i:Ä}{x:Ç}{e:Ñ}{c:TE}{a:Pos}(m:Ϩ)(hi:X.N[i]?=À x)(f:uq ϟ x)(p:PE X e c)(d:Ì (Αd (.Name x a)) q12)(g:Ì Ĩa q7) :PS X (.Assign [.Name x a] e pos) (Kr c Śc):=by intro n s σ H D I h;show Ŧl (zn (p n s σ H _ I h) λv t b=>?_) d;let{y,o,j,l,k}:=b;show JD j m hi f l (λr q=>{_,o,q,k}) g
nonrec def y6v(i:Ä)(b:TE)(a:VC):TS:=λD σ H=>∃x,σ[i]?=À (À x)/\b σ H λy c=>a x y c λz d=>ųa (σ.set i (À z)) d
def G7{i:Ä}{x:Ç}{e:Ñ}{q:TE}{o:úd}{p:VC}{f:Pos}(F:Ϩ)(hi:X.N[i]?=À x)(g:uq ϟ x)(G:PE X e q)(ho:TM X o p)(P:Ì Ĩa q7) :PS X (.AugAssign (.Name x f) o e pos) (y6v i q p):=by
 intro n s σ H D I h;let{v,e1,h}:=h;let{m,C,Z}:=Úa;let j:jQ ϟ x:=by rcases g with k|k;show .inl k;show .inr (.inl k)
 let{u,r,l}:=Z i x v hi e1 j;show wpAny_AugAssign_Name ?_
 let t:Õ ā X.A Ãd (λw Y=>Õ ā X.A (Íe o u w) (λr W=>Õ ā X.A (storeName Ó x r) (λ_=>SP X n D .next) ĥ W) ĥ Y) ĥ s:=by
  show zn (G n s σ H _ I h) λw L d=>?_
  let{y,H1,E,U,T}:=d;show zn (ho n L σ H1 v y u w _ E r U T) λz s2 d=>?_
  let{zv,R,K,Q,B}:=d;show JD K F hi g Q (λs3 O=>{_,R,O,B}) P
 rcases l with⟨a,S⟩|⟨a,c,J,b⟩;show Ϲk Ŝa a C S t;rcases a with a|a;show ìl Ŝa a J b t;rcases g with k|k;rw[řp];rw[řp]
nonrec def aN(f:Ê->Ê->Ê):VC:=λx y H Q=>∃i j,x=.int i/\y=.int j/\Q (.int (f i j)) H
def aO:TM X .Add Ġm:=by intro c s σ H x y v u Q I b a h;let{i,j,e1,e2,q}:=h;subst e1;subst e2;let{t,rfl}:=b;let{d,rfl}:=a;show iadd_int {.int _,H,Ž _,{_,rfl},q}
#print a
section
variable{X:Cx}{pos:Pos}
nonrec def y7r(c:TT)(d:TS):TS:=λD σ H=>∃W:Ä->St->Hp->Æ,(∃m,W m σ H)/\∀m σ H,W m σ H->
 c σ H λb a=>if b=Ã then ∃N:St->Hp->Æ,(∀σ' H',N σ' H'->∃m',m'<m/\W m' σ' H')/\d { D with nx:=N,ct:=N,bk:=ųa } σ a else ųa σ a
def cO{c:Ñ}{a:Á Ô}{x:TT}{r:TS}(t:Ũb ā X.A Ó ĥ)(G:PT X c x)(F:wy X a r):PS X (.While c a [] pos) (y7r x r):=by
 intro p s σ H D I h;let{W,{E,P},d}:=h;show wpAny_While (codeAny_whileLoop (λn L=>∃σ' H',zD X p σ' H' L/\W n σ' H') ?_ E {σ,H,I,P});rintro n J ⟨σ1,B,C,K⟩;show Ćc t (zn (G p J σ1 B _ C (d n σ1 B K)) λb O o=>?_);let{z,y,g}:=o;cases b with
 |Ã=>
  let{N,u,g}:=g;rw[Ö rfl];show Ćc t (zn (F p O σ1 z _ y g) λf Q i=>?_);cases f with
  |next=>let{σ3,e,l,k}:=i;let{j,m,q}:=u σ3 e k;show{j,m,σ3,e,l,q}
  |ýa=>let{σ3,e,l,k}:=i;let{j,m,q}:=u σ3 e k;show{j,m,σ3,e,l,q}
  |brk=>show i|ret v=>show i
 |Å=>rw[Ø ŀ];show ćc {σ1,z,y,g}
#print a
structure It where
 go:Ä->Hp->Æ
 vw:Ä->Hp->V->Hp->Æ
 ϡa:Ä->Hp->Æ
def jP(X:Cx)(a:Á ô)(H:Hp)(b:Ë):Æ:=
 H b=Â/\b≠ő/\b ∉ Ĕa/\Ϯe/\(∀x c,Āa x=À c->c≠b)/\∀p∈ϐb++a,p.1≠b
def zD.ZG{X:Cx}{d:Á ô}{σ:St}{H H':Hp}{s:Í}{b:Ë}(I:zD X d σ H s)(a:Ý<=b)(g:H' b=Â):jP X d H' b:=by show{g,ϋa (Ŧ I.lt a),I.Po a,.inr (Ĳ I.sz a),λx c e z=>?_,λp f z=>?_};let{v,q}:=øa x c e;show Þ (Ŧ q.lt ϐl) Åa;show Þ (Ŧ (Ğ (ûa p f).1) ϐl) Åa
structure g8(P:à)(w:ß)(K:Ï)(tg:Ñ)(J:It)(fp:Á Ë)(it:Ë)(tn:Ä->Heap->Æ):Æ where
 mem:it∈fp
 obj:∀i h,tn i h->∀b∈fp,∃o,Ć b=À o/\∀v,Ϛ≠.cell v
 ēa:∀i h h',tn i h->(∀b∈fp,∀o,Ć b=À o->ė b=À o)->tn i h'
 Ůa:∀(X:Cx),ì=P->X.w=w->X.K=K->ż=Ã->∀(i:Ä)(z0:Á ô) (s:Í) (σ:St) (H:Hp) (E:Value->Í->Æ),zD X z0 σ H s->(∀b∈fp,jP X z0 H b)->tn i Ü->J.go i H->
  Õ Řa X.A ÿi (λr s1=>∃u,r=À u/\
   Õ Řa X.A (źd tg Ĳa u) (λ_ s2=>∃x H',zD X z0 σ H' s2/\zu x u/\J.vw i H x H'/\tn ē s2.heap/\∀b∈fp,H' b=Â) E s1) E s
 done:∀(X:Cx),ì=P->X.w=w->X.K=K->ż=Ã->∀(i:Ä)(z0:Á ô) (s:Í) (σ:St) (H:Hp) (E:Value->Í->Æ),zD X z0 σ H s->(∀b∈fp,jP X z0 H b)->tn i Ü->àg i H->
  Õ Řa X.A ÿi (λr s1=>r=Â/\zD X z0 σ H s1) E s
 úb:∀(A:è)(i:Ä)(s:Í)(Q:Value->Í->Æ)(E:Value->Í->Æ),tn i Ü->Q Ĳa s->Õ Řa A (Ġd Ĳa) Q E s
abbrev TI:=St->Hp->(It->Hp->Æ)->Æ
def Dn(X:Cx)(d:Á ô)(σ:St)(e:Ñ)(R:It->Hp->Æ)(a:Value)(c:Í):Æ:=
 ∃(it:Ë) (fp:Á Ë) (tn:Ä->Heap->Æ) (J:It) (H':Hp),a=.ref it/\zD X d σ H' c/\g8 ì X.w X.K e J fp it tn/\tn 0 Řc/\(∀b∈fp,jP X d H' b)/\R J H'
def PI(X:Cx)(d a:Ñ)(b:TI):Æ:=
 ∀(z0:Á ô) (s:Í) (σ:St) (H:Hp) (R:It->Hp->Æ),zD X z0 σ H s->b σ H R->
  Õ ā X.A Ůn (λv c=>Õ ā X.A (Ġd v) (Dn X z0 σ d R) ĥ c) ĥ s
def Va{M:öc}{A:è}{E:Value→Í→Æ}{s:Í}{b:Ñ}{it:Ë}{u:Value}{o:Obj}{n:Ż}{vs:Ú Value}{Q:èa→Í→Æ}(e:ö it=À o)(d:Ça=.type n)(f:Ϛ=.fields vs)(c:[Ŕb,Ĥa,él,Đk,ϟl,Ők,ϸk].contains n=Å)(a:Q () s):Õ M A (źd b Ĳa u) Q E s:=by
  unfold źd
  cases b<;>first
    |show ċ a
    | (cases u<;>first
        |show ċ a
        | (show Ð (ϴn e ?_)
           rw[d,f];exact Õ M A (ιa ([Ŕb,Ĥa,él,Đk,ϟl,Ők,ϸk].contains n&&vs[0]?==À (Æb _))) Q E s;rw[Ø (by intro h;rw[c,ϴc]at h;cases h)];show ċ a))
nonrec def Di(K:Ï)(a:Ë):It:=
 {λi H=>∃xs x,yQ K H a xs/\xs[i]?=À x,λi H x b=>b=H/\∀xs,yQ K H a xs->xs[i]?=À x,λi H=>∃xs,yQ K H a xs/\ë<=i}
nonrec def Dj(K:Ï)(a:Ë):It:=
 {λi H=>∃xs x,yf K H a xs/\xs[i]?=À x,λi H x b=>b=H/\∀xs,yf K H a xs->xs[i]?=À x,λi H=>∃xs,yf K H a xs/\ë<=i}
nonrec def Ir(lo:Ê)(n:Ä):It:={λi _=>i<n,λi H x a=>a=H/\x=.int Æa,λi _=>n<=i}
def x0s{P:à}{w:ß}{K:Ï}{U:Ñ}(a it:Ë):g8 P w K U Ůi ϑb it (λi h=>ùf it a i) where
 mem:=by simp
 obj:=λi h st b f=>by
  let e:b=it:=by simpa using f
  rw[Ïp]
 ēa:=λi h m st k=>ôg λo e=>k it ü o e
 Ůa:=by
  rw[ńp];let{Y,x,l,C}:=r;let{t,B,p,hz}:=ű l;let{u,hu,T}:=B.get C;let{L,F,S,q,n,J}:=j it ü;refine Ņg st Ŧf (x:=u) Čl λm g Q=>?_
  let R:zD X O σ H { s with ä:=m }:=ţa (t':=ě) (λb o f e=>(Q.2 b f).trans e) L F q n J;let{o,e,c,d}:=id g;show{u,rfl,Va (s:={ s with ä:=m }) e c d Û {x,H,R,T,{rfl,λys Z=>by rw[I.IF Z l];show C},g,λb f=>(j b f).1}}
 done:=by rw[ńp];let{Y,l,C}:=r;let{t,B,p,hz}:=ű l;let{L,F,S,q,n,J}:=j it ü;let hl:=Ŀc;show ϑk (Ĝa N) st Ŧf Ğm λm eb=>{rfl,ţa (t':=ě) (λb o f e=>eb b o f e) L F q n J}
 úb:=λ_ _ _ _ _ st h=>ϒk st h
def x0v{P:à}{w:ß}{K:Ï}{U:Ñ}(a it:Ë):g8 P w K U ŭi ϑb it (λi h=>ϑm it a i) where
 mem:=by simp
 obj:=λi h st b g=>by
  let e:b=it:=by simpa using g
  rw[Ïp]
 ēa:=λi h n st k=>ôg λo e=>k it ü o e
 Ůa:=by
  rw[Ńp];let{Y,x,m,C}:=t;let{f,B,p,hz}:=Ϭ m;let{u,hu,T}:=B.get C;let{L,F,S,r,q,J}:=l it ü;refine wpAny_pyNext_tuple_item st (show ϱc a ıo from p) (x:=u) Čl λn j Q=>?_
  let R:zD X O σ H { s with ä:=n }:=ţa (t':=ě) (ζd (Q.2 b g)) L F r q J;let{o,e,c,d}:=id j;show{u,rfl,Va (s:={ s with ä:=n }) e c d Û {x,H,R,T,{rfl,λys Z=>by rw[I.Bf Z m];show C},j,λb g=>(l b g).1}}
 done:=by rw[Ńp];let{Y,m,C}:=t;let{f,B,p,hz}:=Ϭ m;let{L,F,S,r,q,J}:=l it ü;let hl:=Ŀc;show wpAny_pyNext_tuple_end (Ĝa N) st (show ϱc a ıo from p) Ğm λn eb=>{rfl,ţa (t':=ě) (λb o g e=>eb b o g e) L F r q J}
 úb:=λ_ _ _ _ _ st h=>wpAny_pyIter_tupleiter st h
def x0t{P:à}{w:ß}{K:řh}{G:Ñ}(it:Ë)(lo:Ê)(n:Ä):g8 P w K G ϩo ϑb it (λi h=>Şn h it (lo+(i:Ä)*1) ((n:Ê)-(i:Ä)) 1) where
 mem:=by simp
 obj:=λi h st b a=>by
  let e:b=it:=by simpa using a
  subst e
  show{_,st,λv z=>by let N:Data.fields _=Data.cell v:=z;cases N}
 ēa:=λi h f st k=>k it ü _ st
 Ůa:=by
  rw[üp];let W:=Walks.range (Ā:=ì) (w:=X.w) (Ĝa q) it lo 1 n;show Þg i s _ _ l st λv f A J c L=>?_
  let{t,rfl}:=J;let C:zD X B σ H { s with ä:=f,Ě:=A }:=ţa (λb o a e=>L b o Ŏl e) y r j g x;refine{_,rfl,Va (s:={ s with ä:=f,Ě:=A }) (n := "range_iterator") c rfl rfl Û {.int Æa,H,C,{t,?_},{rfl,rfl},c,λb a=>(d b a).1}};rw[Int.mul_one]
 done:=by rw[üp];show wpAny_pyNext_range_end (Ĝa q) st (by let:n<=i:=l;omega) λf O=>{rfl,ţa (t':=ě) (λb o a e=>O b o a e) y r j g x}
 úb:=λ_ _ _ _ _ st h=>wpAny_pyIter_rangeiter st h
section
variable{X:Cx}{tg:Ñ}
def z1k(K:Ï)(c:TE):TI:=λσ H R=>c σ H λx b=>∃a,x=.ref a/\(∃xs,yQ K b a xs)/\R Ůi b
def z1n(K:Ï)(c:TE):TI:=λσ H R=>c σ H λx b=>∃a,x=.ref a/\(∃xs,yf K b a xs)/\R ŭi b
def y0u{l:Ñ}{g:TE}(n:PE X l g):PI X tg l (z1k X.K g):=by
 intro t s σ H R I h;show zn Ńl λv d f=>?_
 let{x,u,c,m,k}:=f;let{a,e,{w,i},q}:=k;subst e;cases m;let{j,z,p,y}:=c.list i;show Ąc Ŧf ?_;show{Ôh,[Ôh],_,_,u,rfl,c.kept (t':=d.toks) λb o e=>Ġ _ e,x0s a _,{_,ť _ rfl,rfl,rfl},λb r=>?_,q};let e:b=Ôh:=by simpa using r
 subst e;show c.ZG ğ Ïm
def y0x{l:Ñ}{i:TE}(n:PE X l i):PI X tg l (z1n X.K i):=by
 intro t s σ H R I h;show zn Ńl λv c f=>?_
 let{x,u,d,m,k}:=f;let{a,e,{w,j},q}:=k;subst e;cases m;let{g,z,p,y}:=d.tuple j;show šg (show c.heap.IsTuple a çi from p) ?_;show{ċb,[ċb],_,_,u,rfl,d.kept (t':=ŗc) λb o e=>Ġ _ e,x0v a _,{_,ť _ rfl,rfl,rfl},λb r=>?_,q};let e:b=ċb:=by simpa using r
 subst e;show d.ZG ğ Ăi
def y2c{a:Á ô}{σ:St}{H:Hp}{s:Í}{R:It->Hp->Æ}{E:Value->Í->Æ}{lo hi:Ê}{t u v:Tok}{tk:Ä}(I:zD X a σ H s)(f : -űi<=lo)(d:lo<2 ^ 62)(g : -űi<=hi)(i:hi<2 ^ 62)(q:R (Ir lo (Äg).toNat) H):Õ ā X.A (Ġd ţb) (Dn X a σ tg R) E { s with ä:=Ŋa { cls:=.type ĭb,Č:=.fields #[.int lo t,.int hi u,.int 1 v] },Ě:=tk }:=by
 show wpAny_pyIter_range (IsRange.new ..) (small_one f d g i) ?_;let c:zD X a σ H { s with ä:=Ŋa { cls:=.type ĭb,Č:=.fields #[.int lo t,.int hi u,.int 1 v] },Ě:=tk }:=íc λb o e=>Ġ _ e
 refine⟨(Ėg).objs.size,[(Ėg).objs.size],_,_,H,rfl,
  c.kept (t':=tk) λb o e=>Ġ _ e,x0t _ lo (Äg).toNat,?_,λb h=>?_,q⟩
 let e1:lo+((0:Ä):Ê)*1=lo:=by simp
 let e2:(((Äg).toNat:Ä):Ê)-((0:Ä):Ê)=Builtin.Range.rangeSize lo hi 1:=by rw[rangeSize_one];rw[Şp]
 exact Şn _ _ (lo+((0:Ä):Ê)*1) ((((Äg).toNat:Ä):Ê)-((0:Ä):Ê)) 1;rw[e1,e2];show ť _ rfl;let e:b=(Ėg).objs.size:=by rw[ϱp]
 subst e;show c.ZG ğ Ïm
def z1l(c:TA):TI:=λσ H R=>c σ H λa b=>∃j:Ê,a=[.int j] /\ -űi<=j/\j<2 ^ 62/\R (Ir 0 Íc) b
def y0v{a:Ñ}{d:TA}{p pos:Pos}(m:Gl X ĭb)(l:â ĭb=Â)(i:PA X [a] d)(f:Ì Ľg q12):PI X tg ül (z1l d):=by
 intro o s σ H R I h;show Call_ (X_ I m l boot_range (ťe (zn (i pos o s σ H _ I h) λu x b=>?_) f rfl));let{v,w,k,n,c}:=b;let{j,e,c,g,q}:=c;subst e;cases n with
 |î r rr=>cases rr;let{t,rfl}:=r;show call_range_1 (y2c k Î Î c g (by simpa using q))
nonrec def y71(b:TI)(g:TG)(d:TS):TS:=λD σ H=>b σ H λJ a=>∃W:Ä->Ä->St->Hp->Æ,(∃m,W 0 m σ a)/\∀i m σ H,W i m σ H->
 (àg i H/\ųa σ H)\/(J.go i H/\∃N:St->Hp->Æ,(∀σ' H',N σ' H'->∃m',m'<m/\W ē m' σ' H')/\∀x H',J.vw i H x H'->g x σ H' λσ2 c=>d { D with nx:=N,ct:=N,bk:=ųa } σ2 c)
nonrec def Qm(a:Á Ë)(h:Heap):Á ô:=a.filterMap λb=>(Ć b).map λo=>(b,o)
def LG{a:Á Ë}{h:Heap}{b:Ë}{o:Obj}(c:b∈a)(e:Ć b=À o):(b,o)∈Qm a h:=Ůk {b,c,by rw[e];rfl}
def z6n{a:Á Ë}{h:Heap}{p:Ë×Obj}(f:p∈Qm a h):p.1∈a/\Ć p.1=À p.2:=by
 let{b,c,e}:=List.mem_filterMap.mp f;cases q:Ć b with
 |Â=>rw[q]at e;cases e|À o=>rw[q]at e;let d:(b,o)=p:=īa e;subst d;show{c,q}
def zD.pinned{c:Á ô}{σ:St}{H:Hp}{s:Í}{a:Á Ë}(I:zD X c σ H s)(l:∀b∈a,jP X c H b)(j:∀b∈a,∃o,ö b=À o/\∀v,Ϛ≠.cell v):zD X (c++Qm a Ü) σ H s:=
 I.Uv λp i=>(ōa i).elim (λz=>ûa p (ņa _ z)) λz=>by let{g,e}:=z6n z;let{m,k,h,_}:=l p.1 g;let{o,f,d}:=j p.1 g;rw[Ģp];show{e,m,k,h,d}
def zD.Bg{a pl:Á ô}{σ:St}{H:Hp}{s:Í}(I:zD X (a++pl) σ H s):zD X a σ H s:=I.Uv λp b=>ûa p (ņa _ (Ċc _ b))
def LZ{p:Ñ}{t:Á Ô}{wi:TI}{g:TG}{tb:TS}{pos:Pos}(E:Ũb ā X.A Ó ĥ)(hc:ż=Ã)(hi:PI X tg p wi)(hg:PG X tg g)(c:wy X t tb)(hs:Ì (∀x,Úb p Ó x=pure x) q11):PS X (.For tg p t [] pos) (y71 wi g tb):=by
 intro B s σ H D I h;show wpAny_For (ηc (hi B s σ H _ I h)) hs;let{it,K,tn,J,H2,e,I2,T,Z,f2,W,{m0,w0},C}:=h2;subst e;let j:∀{H':Hp},(∀b∈K,H' b=Â)->∀b∈K,jP X B H' b:=λhn b c=>{hn b c,(f2 b c).2}
 show codeAny_forLoop_any (λn s'=>∃i σ' H',zD X B σ' H' s'/\tn i ťa/\(∀b∈K,H' b=Â)/\W i n σ' H') ?_ m0 {0,σ,H2,I2,Z,λb c=>(f2 b c).1,w0};rintro n s3 ⟨i,σ3,Q,I3,P,O,w3⟩;rcases C i n σ3 Q w3 with⟨L,qn⟩|⟨go,N,hN,G⟩;show Ćc E (Θe (ðj X rfl rfl rfl hc i B s3 σ3 Q ĥ I3 (j O) P L));let{S,I4}:=a;subst S;show ćc {σ3,Q,I4,qn}
 .show Ćc E (Θe (T.item X rfl rfl rfl hc i B s3 σ3 Q ĥ I3 (j O) P go));let{u,S,h4}:=a;subst S;show Ćc E (zn h4 λ_ s5 a=>?_);let{x,H5,I5,r5,y5,z,R}:=a;let Y:=I5.pinned (j R) (ľe _ _ z);show Ćc E (zn (hg _ s5 σ3 H5 x u _ Y r5 (G x H5 y5)) λ_ s6 a=>?_);let{σ6,H6,I6,q6}:=a;show Ćc E (zn (c _ s6 σ6 H6 _ I6 q6) λf U y=>?_)
  let q:∀{σ7:St}{l:Hp},zD X (B++Qm K s5.heap) σ7 l U->N σ7 l->∃m,m<n/\∃i σ' H',zD X B σ' H' U/\tn i U.heap/\(∀b∈K,H' b=Â)/\W i m σ' H':=λ{σ7 l} k F=>by let{m',hm,w7}:=hN σ7 l F;show{m',hm,i+1,σ7,l,k.Bg,Ĥd _ _ _ z λb c o e=>ϔj.1,λb c=>?_,w7};let{o,e,d}:=ľe _ _ z b c;show ϔj.2.1
  cases f with
  |next=>let{σ7,l,k,F}:=y;show q k F
  |ýa=>let{σ7,l,k,F}:=y;show q k F
  |brk=>let{σ7,l,k,y}:=y;show{σ7,l,k.Bg,y}
  |ret v=>let{x7,σ7,l,k,r7,y}:=y;show{x7,σ7,l,k.Bg,r7,y}
#print a
abbrev R2:=V->V->Hp->VK->Æ
def ya(X:Cx)(f:Value->Value->Sem Value)(r:R2):Æ:=
 ∀(z0:Á ô) (s:Í) (σ:St) (H:Hp) (x y:V) (v u:Value) (Q:VK),zD X z0 σ H s->zu x v->zu y u->r x y H Q->
  Õ ā X.A Ïj ϫa ĥ s
def TU(X:Cx)(f:Value->Sem Value)(r:V->Hp->VK->Æ):Æ:=
 ∀(z0:Á ô) (s:Í) (σ:St) (H:Hp) (x:V) (v:Value) (Q:VK),zD X z0 σ H s->zu x v->r x H Q->
  Õ ā X.A (f v) ϫa ĥ s
def wM(X:Cx)(f:Value)(r:Á V->Hp->VK->Æ):Æ:=
 ∀(z0:Á ô) (s:Í) (σ:St) (H:Hp) (xs:Á V) (us:Á Value) (Q:VK),zD X z0 σ H s->zk xs us->r xs H Q->
  Õ ā X.A (Ħa f us) ϫa ĥ s
nonrec def MQ(r:R2)(b c:TE):TE:=λσ H Q=>b σ H λx a=>c σ a λy d=>r x y d Q
nonrec def y7q(r:V->Hp->VK->Æ)(b:TE):TE:=λσ H Q=>b σ H λx a=>r x a Q
nonrec def rI(C:Ê->Ê->Æ)(g:Ê->Ê->V):R2:=λx y H Q=>∃i j,x=.int i/\y=.int j/\C i j/\Q ϐa H
nonrec def qY(g:Ê->Ê->V):R2:=λx y H Q=>∃i j,x=.int i/\y=.int j/\Q ϐa H
def rU(g:Ê->V):V->Hp->VK->Æ:=λx H Q=>∃i,x=.int i/\Q ņe H
section
variable{X:Cx}{a b c:Ñ}{ta tb:TE}{pos:Pos}
def FI(i:PE X a ta)(n:PE X b tb){d:Á ô}{s:Í}{σ:St}{H:Hp}{R:V->V->Hp->Æ}(I:zD X d σ H s)(h:ta σ H λx H1=>tb σ H1 λy H2=>R x y H2){Q:Value->Í->Æ}{f:Value->Value->Sem Value}(g:∀v u s2 x y H2,zD X d σ H2 s2->zu x v->zu y u->R x y H2->Õ ā X.A Ïj Q ĥ s2) :Õ ā X.A Ůn (λv s₁=>Õ ā X.A (Ċ b Ó) (λu s₂=>Õ ā X.A Ïj Q ĥ s₂) ĥ s₁) ĥ s:=by
 show zn (i d s σ H _ I h) λv p c=>?_
 let{x,H1,k,m,l}:=c;show zn (n d p σ H1 _ k l) λu s2 c=>?_
 let{y,H2,o,j,e}:=c;show g v u s2 x y H2 o m j e
def Ew{c:úd}{r:R2}(m:ya X (Ŗa c) r)(d:PE X a ta)(i:PE X b tb):PE X (.BinOp a c b pos) Ćf:=by rw[Ϧp];show wpAny_BinOp (FI d i I h λv u f x y e l g k q=>m j f σ e x y v u Q l g k q)
def y0j{c:UnaryOp}{r:V->Hp->VK->Æ}(g:TU X (ϖf c) r)(j:PE X a ta):PE X (.UnaryOp c a pos) (y7q r ta):=by rw[ğp];show UnaryOp_ (zn (j d s σ H _ I h) λv l b=>?_);let{x,i,k,f,e}:=b;show g d l σ i x v Q k f e
def WB{f:Value->Value->Sem Value}{C:Ê->Ê->Æ}{g:Ê->Ê->Ê}(a:∀(i j:Ê)(t u:Tok)(s:Í)(Q:Value->Í->Æ)(E:Value->Í->Æ),C i j->Q Źm { s with Ě:=ě+1 }->Õ ā X.A Ŝg Q E s) :ya X f ŷk:=by intro k s σ H x y v u Q I c b h;let{i,j,rfl,rfl,d,q}:=h;let{t,rfl}:=c;let{e,rfl}:=b;show a i j t e s _ _ d {.int ϐa,H,Ž _,{_,rfl},q}
def Qh{f:Value->Value->Sem Value}{g:Ê->Ê->Ê}(a:∀(i j:Ê)(t u:Tok)(s:Í)(Q:Value->Í->Æ)(E:Value->Í->Æ),Q Źm { s with Ě:=ě+1 }->Õ ā X.A Ŝg Q E s) :ya X f Şo:=by rw[òp];show a i j t d s _ _ {.int ϐa,H,Ž _,{_,rfl},q}
def LR{f:Value->Value->Sem Value}{g:Ê->Ê->Ò}(a:∀(i j:Ê)(t u:Tok)(s:Í)(Q:Value->Í->Æ)(E:Value->Í->Æ),Q (.bool ϐa) s->Õ ā X.A Ŝg Q E s) :ya X f ćl:=by rw[òp];show a i j t d s _ _ {.bl ϐa,H,I,rfl,q}
def Uy(i j:Ê):Æ:=0<=j/\j<=1000000/\Ŭb<2 ^ 64
def Ux(i j:Ê):Æ:=(-ϑf<i/\i<2 ^ 64)\/(-ϑf<j/\j<2 ^ 64)
def Ux.ok{i j:Ê}(h:Ux i j):IntMulOk i j:=by rcases h with⟨a,b⟩|⟨a,b⟩;show .of_left Ċl;show .of_right Ċl
def x1u(k:Ä):(0:Ê)<=2 ^ k:=by rw[two_pow_cast];show Ŷc _
def z98:ya X Ùd (Γa (i+j)):=Qh λ_ _ _ _ _ _ _ q=>ðb q
def WD:ya X (Ŗa .Sub) Ŭn:=Qh λ_ _ _ _ _ _ _ q=>sub_int q
def jg:ya X ϒh Śg:=WB λ_ _ _ _ _ _ _ a q=>mul_int q a.ok
def xq:ya X (Ŗa .Mod) Łk:=WB λi j _ _ _ _ _ a q=>by let b:(0:Ê)<j:=a;show mod_int' Î (by rw[Int.fmod_eq_emod_of_nonneg i Î];show q)
def Er:ya X (Ŗa .Pow) Ąm:=WB λ_ _ _ _ _ _ _ a q=>pow_int_small a.1 a.2.1 a.2.2 q
def Yl:ya X (Ŗa .LShift) Źl:=WB λ_ _ _ _ _ _ _ a q=>lshift_int_small a.1 a.2.1 a.2.2 q
def bq:ya X (Ŗa .RShift) Ñk:=WB λi j _ _ _ _ _ a q=>
 rshift_int a (by rw[Ēk i (x1u _)];show q)
def Em:ya X (Ŗa .BitAnd) (Γa (ŝd i j)):=Qh λ_ _ _ _ _ _ _ q=>and_int q
def bo:ya X (Ŗa .BitOr) (Γa (êf i j)):=Qh λ_ _ _ _ _ _ _ q=>or_int q
def z9n:ya X (Ŗa .BitXor) (Γa (ōm i j)):=Qh λ_ _ _ _ _ _ _ q=>xor_int q
def fT{f:Value->Sem Value}{g:Ê->Ê}(a:∀(i:Ê)(t:Tok)(s:Í)(Q:Value->Í->Æ)(E:Value->Í->Æ),Q (.int ņe ě) { s with Ě:=ě+1 }->Õ ā X.A (f ĩf) Q E s) :TU X f (χb ņe):=by intro c s σ H x v Q I b h;let{i,rfl,q}:=h;let{t,rfl}:=b;show a i t s _ _ {.int ņe,H,Ž _,{_,rfl},q}
def Yz:TU X (ϖf .USub) (χb (-i)):=fT λ_ _ _ _ _ q=>neg_int q
def x27:TU X (ϖf .Invert) (χb ϩi):=fT λ_ _ _ _ _ q=>invert_int q
def z99:ya X Ùd (λx y H Q=>∃i k,x=.int i/\y=.bl k/\Q Úm H):=by rw[Þp];let{i,k,rfl,rfl,q}:=h;let{t,rfl}:=a;cases b;show add_int_bool {.int (i+b2i k),H,Ž _,{_,rfl},q}
#print a
nonrec def KN:V->V->Ò
 |.zI,.zI=>Ã|.zI,.int _=>Ã|.int _,.zI=>Ã|.zI,.bl _=>Ã|.bl _,.zI=>Ã|.zI,.str _=>Ã|.str _,.zI=>Ã|.int _,.int _=>Ã|.bl _,.bl _=>Ã|.str _,.str _=>Ã|.byt _,.byt _=>Ã|.int _,.str _=>Ã|.str _,.int _=>Ã|.bl _,.str _=>Ã|.str _,.bl _=>Ã|_,_=>Å
def y1x:R2:=λx y H Q=>KN x y=Ã/\Q (Τ (x=y)) H
def y23:R2:=λx y H Q=>KN x y=Ã/\Q (.bl (!decide (x=y))) H
def Fi{i j:Ê}:decide (Ķd i=Ķd j)=Įe:=by rw[ϫb];simp
def Fh{i j:Ò}:decide (V.bl i=V.bl j)=Įe:=by rw[ϫb];simp
def Fj{i j:Ç}:decide (V.str i=V.str j)=Įe:=by rw[ϫb];simp
def AR{i j:Ú UInt8}:decide (V.byt i=V.byt j)=(i.toList==j.toList):=by rw[ϫb];cases i;cases j;simp
section
variable{X:Cx}{a b c:Ñ}{ta tb:TE}{pos:Pos}
def wE{a:Á ô}{σ:St}{H:Hp}{s:Í}{Q:VK}{k b:Ò}(I:zD X a σ H s)(q:Q Ëg H)(e:k=b):EP X a σ Q Şf s:=by subst e;show{.bl k,H,I,rfl,q}
def z9c:ya X Ũo y1x:=by
 rw[ŝp];cases x with
 |zI=>
  cases d;cases y with
  |zI=>cases a;show PySem.EqNone.eq_none_none Áa|bl j=>cases a;show PySem.EqNone.eq_none_bool Áa|int j=>let{b,rfl}:=a;show PySem.EqNone.eq_none_int Áa
  |str j=>let{b,rfl}:=a;show PySem.EqNone.eq_none_str Áa
  |_=>show Þ (show Å=Ã from c) ŀ
 |bl i=>
  cases d;cases y with
  |zI=>cases a;show PySem.EqNone.eq_bool_none Áa|bl j=>cases a;show eq_bool (wE I q Fh)|str j=>let{b,rfl}:=a;show PySem.EqMixed.eq_bool_str Áa
  |_=>show Þ (show Å=Ã from c) ŀ
 |int i=>
  rw[Šp];cases y with
  |zI=>cases a;show PySem.EqNone.eq_int_none Áa|int j=>let{b,rfl}:=a;show eq_int (wE I q Fi)
  |str j=>let{b,rfl}:=a;show PySem.EqMixed.eq_int_str Áa
  |_=>show Þ (show Å=Ã from c) ŀ
 |str i=>
  rw[Šp];cases y with
  |zI=>cases a;show PySem.EqNone.eq_str_none Áa|bl j=>cases a;show PySem.EqMixed.eq_str_bool Áa|int j=>let{b,rfl}:=a;show PySem.EqMixed.eq_str_int Áa
  |str j=>let{b,rfl}:=a;show eq_str (wE I q Fj)
  |_=>show Þ (show Å=Ã from c) ŀ
 |byt i=>
  rw[Šp];cases y with
  |byt j=>let{b,rfl}:=a;show W.eq_bytes (wE I q AR)
  |_=>show Þ (show Å=Ã from c) ŀ
 |_=>cases y<;>show Þ (show Å=Ã from c) ŀ
def z9i:ya X ùn y23:=by
 rw[ŝp];cases x with
 |zI=>
  cases d;cases y with
  |zI=>cases a;show PySem.EqNone.ne_none_none Áa|bl j=>cases a;show PySem.EqNone.ne_none_bool Áa|int j=>let{b,rfl}:=a;show PySem.EqNone.ne_none_int Áa
  |str j=>let{b,rfl}:=a;show PySem.EqNone.ne_none_str Áa
  |_=>show Þ (show Å=Ã from c) ŀ
 |bl i=>
  cases d;cases y with
  |zI=>cases a;show PySem.EqNone.ne_bool_none Áa|bl j=>cases a;show ne_bool (wE I q (Äa not Fh))|str j=>let{b,rfl}:=a;show PySem.EqMixed.ne_bool_str Áa
  |_=>show Þ (show Å=Ã from c) ŀ
 |int i=>
  rw[Šp];cases y with
  |zI=>cases a;show PySem.EqNone.ne_int_none Áa|int j=>let{b,rfl}:=a;show ne_int (wE I q (Äa not Fi))
  |str j=>let{b,rfl}:=a;show PySem.EqMixed.ne_int_str Áa
  |_=>show Þ (show Å=Ã from c) ŀ
 |str i=>
  rw[Šp];cases y with
  |zI=>cases a;show PySem.EqNone.ne_str_none Áa|bl j=>cases a;show PySem.EqMixed.ne_str_bool Áa|int j=>let{b,rfl}:=a;show PySem.EqMixed.ne_str_int Áa
  |str j=>let{b,rfl}:=a;show ne_str (wE I q (Äa not Fj))
  |_=>show Þ (show Å=Ã from c) ŀ
 |byt i=>
  rw[Šp];cases y with
  |byt j=>let{b,rfl}:=a;show W.ne_bytes (wE I q (Äa not AR))
  |_=>show Þ (show Å=Ã from c) ŀ
 |_=>cases y<;>show Þ (show Å=Ã from c) ŀ
def Yk:ya X (ĭa .Lt) (νa (i<j)):=LR λ_ _ _ _ _ _ _ q=>lt_int q
def z9g:ya X (ĭa .LtE) (νa (i<=j)):=LR λ_ _ _ _ _ _ _ q=>le_int q
def Ep:ya X (ĭa .Gt) (νa (j<i)):=LR λ_ _ _ _ _ _ _ q=>gt_int q
def Eo:ya X (ĭa .GtE) (νa (j<=i)):=LR λ_ _ _ _ _ _ _ q=>ge_int q
def z9f:ya X Ôe (Ψc Ăk):=by rw[ġp];show in_str (wE I q rfl)
def LS:ya X (ĭa .Is) þl:=by
 rw[Þp];let{rfl,q}:=h;cases b;show is_none_gen ſn
 cases x<;>first
  |(cases a;rfl)
  |(let{t,rfl}:=a;rfl)
def LU:ya X (ĭa .IsNot) ók:=by
 rw[Þp];let{rfl,q}:=h;cases b;show isnot_none_gen ſn
 cases x<;>first
  |(cases a;rfl)
  |(let{t,rfl}:=a;rfl)
def ya.or{f:Value->Value->Sem Value}{r b:R2}(h:ya X f r)(h':ya X f b):ya X f (λx y H Q=>r x y H Q\/b x y H Q):=by intro c s σ H x y v u Q I a d q;rcases q with q|q;show h c s σ H x y v u Q I a d q;show h' c s σ H x y v u Q I a d q
def yA(b:Ñ){a:Ċg}(h:Ì (a≠.In) q10)(c:Ì (a≠.NotIn) q10):ϲb a b=Å:=by
 let e1:(a==CmpOp.In)=Å:=by cases a<;>first|rfl|show Þ rfl h
 let e2:(a==CmpOp.NotIn)=Å:=by cases a<;>first|rfl|show Þ rfl c
 cases b<;>simp[ϲb,e1,e2]
theorem y06{c:Ċg}{r:R2}(n:ya X (ĭa c) r)(d:PE X a ta)(j:PE X b tb)(f:ϲb c b=Å):PE X (.Compare a [c] [b] pos) Ćf:=by intro k s σ H Q I h;show wpAny_Compare1 (FI d j I h λv u g x y e m i l q=>n k g σ e x y v u Q m i l q) f
nonrec def y7n(t:TE):TT:=λσ H Q=>t σ H λx a=>∃k,x=.bl k/\Q k a
def G9{j:Ċg}{r:R2}(N:ya X (ĭa j) r)(w:PE X a ta)(n:PE X b tb)(C:ϲb j b=Å):PT X (.Compare a [j] [b] pos) (y7n Ćf):=by
 rw[ϧp];show wpAny_isTrue_Compare1 (zn (w i s σ H _ I h) λv p f=>?_) C;let{x,L,m,G,F}:=f;show zn (n i p σ L _ m F) λu J d=>?_
 let{y,B,o,A,l}:=d;show zn (N i J σ B x y v u _ o G A l) λc O g=>?_
 let{z,K,t,q,k,e,E}:=g;subst e;cases q;show ϋc {K,t,E}
def W1:(á:Ä)<2 ^ 63:=by rw[Ľ];decide
def z9a:ya X Ùd (λx y H Q=>∃i j,x=.str i/\y=.str j/\ŭb+Ča<=á/\Q Ún H):=by intro f s σ H x y v u Q I b c h;let{i,j,rfl,rfl,d,q}:=h;let{t,rfl}:=b;let{a,rfl}:=c;show add_str (λa e=>{.str (i++j),H,Ž _,{_,rfl},q}) d
def vg{x:V}{us:Á Value}(r:zk [x] us):∃u,us=[u]/\zu x u:=by
 cases r with
 |î r1 r2=>cases r2;show{_,rfl,r1}
def JR{x y:V}{us:Á Value}(r:zk ϖa us):∃u w',us=[u,w']/\zu x u/\zu y w':=by
 cases r with
 |î r1 r2=>
  cases r2 with
  |î r3 r4=>cases r4;show{_,_,rfl,r1,r3}
def AB:wM X įa ĥj:=by intro c s σ H xs b Q I r h;rcases h with⟨i,rfl,q⟩|⟨k,rfl,q⟩;let{u,rfl,t,rfl}:=vg r;show call_int_int {.int i,H,I,{_,rfl},q};let{u,rfl,a}:=vg r;cases a;show call_int_bool {.int Õl,H,Ž _,{_,rfl},q}
#print a
structure Xd(h:Heap)(x dx C:Ë)(mA:Ç->É Value):Æ where
 obj:Ć x=À Ôo
 ns:üg dx mA
 ne:dx≠x
def z39{h:Heap}{d:Ë}{c:Ç->É Value}(n:üg d c):∃od,Ć d=À od/\∀Į,ŭf Į od=À (c Į):=by
 let{o,f,p,m,k,i,_,j}:=n;show{o,m,λname=>?_};let e:=j Į;unfold nsFind findBy at e;rw[<-Array.find?_toList]at e;unfold ŭf;rw[k];dsimp only
 split;rename_i y q;rw[q]at e;show Äa À e;rename_i q;rw[q]at e
 let a:æn (·.refKey)=Å:=by rw[List.any_eq_false];intro y l;let{z,t,b}:=i y (Array.mem_toList_iff.mp l);simp[DictEntry.refKey,b]
 let g:¬ æn (·.refKey)=Ã:=by rw[a];show ŀ
 rw[Ø g];show Äa À e
def Xd.look{h:Heap}{x a C:Ë}{b:Ç->É Value}(I:Xd h x a C b):∃od,W.InstAt h x (ϯe C a) C (À od)/\∀Į,ŭf Į od=À (b Į):=
 let ⟨od,ho,hl⟩:=z39 I.ns
 {od,{I.obj,rfl,rfl,ho},hl}
section
variable{Ā:à}{w:ß}{A:è}{E:Value->Í->Æ}{s:Í}{K:Ï}{x dx C f:Ë}{mA:Ç->É Value}{Į:Ç}{v:Value}
def z0m{a:Ò}{Q:Value->Í->Æ}(X:İ Ü)(I:Xd Ü x dx C mA)(c:Âe K C Į=Ã)(f:Ċf K C=Ã)(e:ů K ú Į=À Â)(hv:mA Į=À v)(b:Êo v=Ã)(h:Q v { s with Ě:=ě+1 }) :Õ æ A (ϖi Ċd Į a) Q E s:=by let{g,J,d}:=õj;show W.get_value X J (Įh c).1 (W.findObj_own f e rfl (by rw[d,hv])) b h
def z0n{pl:Sem Ò}{Q:Value×Á Value->Í->Æ}(X:İ Ü)(I:Xd Ü x dx C mA)(a:Âe K C Į=Ã)(b:ů K ú Į=À ĺa)(d:Žb K Đ=Ã)(hv:mA Į=Â)(h:Q (.ref f,[.ref x]) s) :Õ æ A (Įo Ċd Į pl) Q E s:=by let{c,J,e}:=õj;show W.method_fn X J (Įh a).1 (Įh a).2 b (Ÿd d) (by exact(ŭf Į c).map (·.isSome)=À Å;rw[e,hv];rfl) h
def y4n{ns:Á Ç}{Q:èa->Í->Æ}(X:İ Ü)(I:Xd Ü x dx C mA)(j:ů K ú ĥh=À Ĳg)(o:Žh K C=Ã)(l:ñi K C Į=À Â)(n:Ċf K C=Ã)(p:Řh mA ns)(hsz:Ŷ<=á)(h:∀h',Xd h' x dx C (λy=>if y=Į then À v else mA y)->ϰa dx Ü h'->Q () { s with ä:=h',Ě:=ě+2 }) :Õ æ A (setAttr Ċd Į v) Q E s:=by
 let{B,J,F}:=õj;show W.set_plain X J j (W.osa_open (s:={ s with Ě:=ě+1 }) (r:=Â) X J o l λb=>?_);let{u,t,f}:=W.any_some n;let m:ö x=À {.ref C,À dx,.plain,#[]}:=I.obj;show Ð (χ (Ð (İm m (Ð (W.Looks.here (s:={ s with Ě:=ě+1 }) (W.looks_clsIn X t) ?_)))));rw[f];show ċ (a:=À dx) (Ð Ēh);show wpAny_nsSet1 (s:={ s with Ě:=ě+1 }) I.ns λh' d c=>?_
 let{z,k,q,g,e,i}:=d.count (PySem.Within.cons Į v p);refine Ð (wpAny_lookBehind g (by rw[e];show pastItsLine_dict (Ĳ i (by rw[Ĩ];omega))) ?_);show ċ (h _ {(c.2 _ (Ľa I.ne)).trans I.obj,d,I.ne} c)
def b8{R:Ĵb->Í->Æ}{vs:Á Value}{b:Á Ėb}(X:İ Ü)(e:ãd K C=Ã)(hi:ů K ú îa=À ĺa)(c:W.typeIn K Đ=À (.type "function"))(h:ďa æ (A.under (.builtin âm {.ref C::vs,b})) (.call Đ {.ref ěa::vs,b}) (W.InitBack ěa R)
   { s with ä:=(Ϡc).push Ďf }) :
  ďa æ A (.call ú {vs,b}) R s:=by
 let{i,g,d,t,j}:=s;show W.make_core (W.makes_of X e) (W.looks_findIn X hi) (λa=>W.bind_fn X a c) Ũ h
#print a
nonrec def ûb(f:Ç)(v:V):Á ĩb->Á ĩb
 | []=>[(f,v)]|(g,x)::r=>if g=f then(g,v)::r else(g,x)::ûb f v r
theorem aq(f g:Ç)(v:V):∀fs:Á ĩb,(ñf).lookup g=if g=f then À v else ŝb g
 | []=>by exact Ħc g [(f,v)]=_;by_cases h:g=f;let a:(g==f)=Ã:=ϳc h;simp only[Ħc,a,Ö h];let a:(g==f)=Å:=ăc h;simp only[Ħc,a,Ø h]|(k,x)::r=>by let b:=aq f g v r;rw[show ûb f v Ôi=Ħg from rfl];by_cases hk:k=f;rw[Ö hk];by_cases h:g=k;let a:ëg=Ã:=ϳc h;simp only[Ħc,a,Ö (Će hk)];let a:ëg=Å:=ăc h;simp only[Ħc,a,Ø (λe:g=f=>h (Áb hk.symm))];rw[Ø hk];by_cases h:g=k;let a:ëg=Ã:=ϳc h;simp only[Ħc,a,Ø (λe:g=f=>hk (h.symm.trans e))];let a:ëg=Å:=ăc h;simp only[Ħc,a];show b
theorem EK(f:Ç)(v:V):∀fs:Á ĩb,f∈(ñf).map (·.1)/\∀g,g∈ňc (·.1)->g∈(ñf).map (·.1)
 | []=>{by simp[ûb],λg h=>by simp at h}|(k,x)::r=>by let{a,b}:=EK f v r;rw[show ûb f v Ôi=Ħg from rfl];by_cases hk:k=f;rw[Ö hk];subst hk;show{by simp,λg h=>by rw[ϱp]};rw[Ø hk];show{?_,λg h=>?_};rw[ϰ];show Ϲ _ a;rw[ϰ]at h ⊢;rcases ř h with e|e;show List.mem_cons.mpr Żi;show Ϲ _ (b g e)
theorem ak(f:Ç)(v:V):∀fs:Á ĩb,(ñf).length<=Ķa+1
 | []=>by simp[ûb]|(k,x)::r=>by let a:=ak f v r;rw[show ûb f v Ôi=Ħg from rfl];by_cases hk:k=f;rw[Ö hk,Ĩ,Ĩ];omega;rw[Ø hk,Ĩ,Ĩ];omega
def ϻd{v:V}{o:É Value}(r:uI Ϗ o):∃u,o=À u/\zu v u:=by
 cases o with
 |Â=>show(show í from r).elim|À u=>show{u,rfl,r}
def ϵn{o:É Value}(r:uI Â o):o=Â:=by
 cases o with
 |Â=>rfl|À u=>show(show í from r).elim
def z1b{v:V}{u:Value}(r:zu v u):Êo u=Ã:=by
 cases v with
 |zI=>cases(show u=Įa from r);rfl|bl b=>cases(show u=Ěf b from r);rfl|int i=>let{t,e}:=(show ∃t,u=ŧb i t from r);cases e;rfl
 |str x=>let{t,e}:=(show ∃t,u=Ġb x t from r);cases e;rfl
 |byt b=>let{t,e}:=(show ∃t,u=ŕn b t from r);cases e;rfl
 |XR b=>let{t,e}:=(show ∃t,u=ϊh b t from r);cases e;rfl
 |ref a=>cases(show u=ÿ a from r);rfl|ty n=>cases(show u=ϳh n from r);rfl
section
variable{P:à}{w:ß}{H:Hp}{h:Heap}{a C dx:Ë}{fs:Á ĩb}
def Os(b:xW P w H h)(e:H a=À Ϭa):∃mA,Xd h a dx C mA/\(∀f,uI ϭi Ćj)/\Řh mA (ňc (·.1))/\Ķa<=1000/\H dx=À ýe:=by let{d,z,c,g,mA,n,r,q}:=(show yj P w H h a Ϭa from b a _ e);show{mA,{g,n,c},r,q,z,d}
#print a
structure vK(K:Ï)(C:Ë):Æ where
 pg:Âe K C ľf=Ã
 hd:Ċf K C=Ã
 po:Žh K C=Ã
 sa:ů K ú ĥh=À Ĳg
def vK.get{K:Ï}{C:Ë}(c:vK K C)(f:Ç):Âe K C f=Ã:=c.pg
def YL(K:Ï)(C:Ë)(f:Ç):Æ:=ů K ú f=À Â
def YL.lb{K:Ï}{C:Ë}{f:Ç}(n:YL K C f):ñi K C f=À Â:=by unfold ñi;rw[show ů K ú f=À Â from n];rfl
structure Xb(K:Ï)(C:Ë)(m:Ç)(f:Ë):Æ where
 at_:ů K ú m=À ĺa
 fn:Žb K Đ=Ã
 kp:ϕ K Đ=Ã
section
variable{X:Cx}{z0:Á ô}{σ:St}{H:Hp}{s:Í}{a C dx:Ë}{fs:Á ĩb}{f:Ç}{v:V}{A:è}{E:Value->Í->Æ}
def Aw{b:Ò}{Q:Value->Í->Æ}(I:zD X z0 σ H s)(e:H a=À Ϭa)(c:vK X.K C)(n:YL X.K C f)(l:ŝb f=À v)(h:∀u s',zD X z0 σ H s'->zu v u->Q u s'):Õ ā A (ϖi ý f b) Q E s:=by let{i,O,r,_,_,_}:=Os Ď e;let{u,g,d}:=ϻd (v:=v) (o:=i f) (by rw[<-l];show r f);show z0m ŝ O (c.get f) c.hd n g (z1b d) (h u _ ŵb d)
def CD{m:Ç}{g:Ë}{pl:Sem Ò}{Q:Value×Á Value->Í->Æ}(I:zD X z0 σ H s)(e:H a=À Ϭa)(c:vK X.K C)(k:Xb X.K C m g)(l:ŝb m=Â)(h:Q (.ref g,Ãa) s):Õ ā A (Įo ý m pl) Q E s:=by let{d,O,r,_,_,_}:=Os Ď e;have b:d m=Â:=ϵn (by rw[<-l];show r m);show z0n ŝ O (c.get m) k.at_ k.fn b h
def eF{y:V}{u:Value}{Q:èa->Í->Æ}(I:zD X z0 σ H s)(e:H a=À Ϭa)(c:vK X.K C)(n:YL X.K C f)(G:Ķa<1000)(m:zu y u)(h:∀s',zD X z0 σ (upd H a ĵk) s'->Q () s'):Õ ā A (setAttr ý f u) Q E s:=by
 let{i,O,r,j,_,k}:=Os Ď e;let F:(ňc (·.1)).length<=á:=by rw[þ,Ľ];omega
 show y4n ŝ O c.sa c.po n.lb c.hd j F λt d l=>h _ ?_
 let v:∃o,t.get? dx=À o:=let ⟨o,_,_,e',_⟩:=d.ns;{o,e'};refine Ĉe (x:=a) (e:=dx) Ϧg (.inr k) (λb q B z=>(l.2 b B).trans z) v ?_;refine{by rw[zr O.ne];show k,?_,O.ne,d.obj,_,d.ns,λg=>?_,λg p=>?_};let:=ak f y fs;omega;exact uI ((ûb f y fs).lookup g) ÿk;rw[aq];by_cases q:g=f;rw[Ö q,Ö q];show m;rw[Ø q,Ø q];show r g;by_cases q:g=f;rw[q];show ϩn.1;show ϩn.2 g (j g λz=>p ?_);exact ÿk=Â;rw[Ø q];show z
def ύi(I:zD X z0 σ H s):zD X z0 σ (upd (upd H Ý (.own ěa)) ěa (.ins C Ý [])) { s with ä:=(Ϡc).push Ďf }:=by
 let e1:(Ϡc).get? Ý=À ſh:=ť Ü rfl
 let e2:((Ϡc).push Ďf).get? (Ý+1)=À Ďf:=by
  let:=ť Ϡc (o:=ϯe C Ý) rfl
  rwa [ßb]at this
 let d:(Ϡc).Ns Ý Æi:={ſh,#[],_,e1,rfl,(λe g=>Þ g ü),λ_=>rfl};let h:=Çb (a:=Ý) (o:=.own ěa) (h':=Ŋa ſh) (t':=ě) ϯg ğ {_,e1};show h.laid (a:=Ý+1) (o:=.ins C Ý []) (t':=ě) ϯg (àb (ßb _ _)) ?_;let c:Ý≠Ý+1:=Ŕ ųf;refine{by rw[zr c,yE],ϱ _,c,e2,λ_=>Â,(Heap.Ns1.of_empty d).at λo q=>Ġ _ q,λ_=>ŕa,λy f=>Þ rfl f}
def mR{Ā:à}{w:ß}{env:Env}{e:Ñ}{f:Ç}{pos:Pos}{s:Í}{Q:Value->Í->Æ}(a:Ōa e f env ŭn=Ċ e env)(h:Õ æ A ŭn (λo s₁=>Õ æ A (ϖi o f Ã) Q E s₁) E s):Õ æ A (Ċ Ϝe env) Q E s:=
 Attribute_any_ h (by rw[arm_eval_Attribute,a])
#print a
nonrec def y6z(K:Ï)(c:TE)(f:Ç):TE:=λσ H Q=>c σ H λx b=>∃a C dx fs v,x=.ref a/\b a=À Ϭa/\vK K C/\YL K C f/\ŝb f=À v/\Q v b
def y2s(K:Ï)(e d:TE)(f:Ç):TS:=λD σ H=>d σ H λy c=>e σ c λx b=>∃a C dx fs,x=.ref a/\b a=À Ϭa/\vK K C/\YL K C f/\Ķa<1000/\
 ųa σ (upd b a ĵk)
def S7(X:Cx)(a:úd)(b:V->V->Hp->VK->Æ):Æ:=
 ∀(z0:Á ô) (s:Í) (σ:St) (H:Hp) (x y:V) (u v:Value) (Q:VK),zD X z0 σ H s->zu x u->zu y v->b x y H Q->Õ ā X.A (Íe a u v) ϫa ĥ s
def y2t(K:Ï)(e d:TE)(g:V->V->Hp->VK->Æ)(f:Ç):TS:=λD σ H=>e σ H λx c=>∃a C dx fs v,x=.ref a/\c a=À Ϭa/\vK K C/\YL K C f/\ŝb f=À v/\
 d σ c λy h=>g v y h λz b=>∃dx' fs',b a=À (.ins C dx' fs')/\fs'.length<1000/\ųa σ (upd b a (.ins C dx' (ûb f z fs')))
section
variable{X:Cx}{o e Éb:Ñ}{f:Ç}{pos Èa øc:Pos}{ta tv:TE}
def cB(p:PE X e ta)(m:Ōa e f Ó Ãd=Ċ e Ó):PE X Ϝe (y6z X.K ta f):=by intro o s σ H Q I h;show mR m (zn (p o s σ H _ I h) λu B b=>?_);let{x,r,g,k,a,C,y,A,v,d,i,c,n,l,q}:=b;subst d;obtain rfl:u=ÿ a:=k;show Aw g i c n l λz w t j=>{v,r,t,j,q}
def cL(z:PE X o ta)(hv:PE X Éb tv)(g:Œb Éb (À ål) Èe Ó=pure Å):PS X (.Assign Çl Éb pos) (y2s X.K ta tv f):=by
 intro e s σ H D I h;show plainObj_wpAny_Assign_Attribute (zn (hv e s σ H _ I h) λu v d=>?_) g;let{y,B,k,r,q}:=d;show zn (z e v σ B _ k q) λA J b=>?_
 let{x,G,t,p,a,C,E,L,j,m,c,n,l,i}:=b;subst j;obtain rfl:A=ÿ a:=p;show eF t m c n l r λF w=>{σ,_,w,i}
def y16{k:úd}{j:V->V->Hp->VK->Æ}(Q:PE X o ta)(hv:PE X Éb tv)(g:S7 X k j):PS X (.AugAssign ϴk k Éb pos) (y2t X.K ta tv j f):=by
 intro i s σ H D I h;show wpAny_AugAssign_AttributeAny (zn (Q i s σ H _ I h) λT s1 b=>?_);let{x,Y,t,E,a,C,dx,fs,v,p,A,c,n,l,q}:=b;subst p;obtain rfl:T=ÿ a:=E;show Aw t A c n l λu W J B=>zn (hv i W σ Y _ J q) λZ L b=>?_
 let{y,R,P,G,U}:=b;show zn (g i L σ R v y u Z _ P B G U) λw4 s4 d=>?_
 let{z,H3,F,m,S,N,e,w,r}:=d;show eF F e c n w m λs5 O=>{σ,_,O,r}
def y1t:V->V->Hp->VK->Æ:=λx y H Q=>∃i j,x=.int i/\y=.int j/\Q ŭh H
def z1o:S7 X .Add y1t:=by rintro d s σ H x y u v Q I b c ⟨i,j,rfl,rfl,q⟩;let{t,rfl}:=(show ∃t,u=ŧb i t from b);let{a,rfl}:=(show ∃a,v=ŧb j a from c);show PyProof.Rows.iadd_int {.int (i+j),H,Ž _,{_,rfl},q}
#print a
section
variable{X:Cx}{z0:Á ô}{σ:St}{H:Hp}{s:Í}{A:è}{E:Value->Í->Æ}{Q:Value->Í->Æ}{c:Value}{b:Ò}
inductive pV(K:řh)(H:Hp):V->Value->Æ where
 |zI:pV K H .zI Ϛc
 |bl (x:Ò):pV K H (.bl x) ϊa
 |int (i:Ê):pV K H Ěa įa
 |str (x:Ç):pV K H Ýc ϭa
 |XR (x:UInt64):pV K H (.XR x) (.type "float")
 |lst {a:Ë} {xs:Á V} (e:H a=À ða):pV K H ý âa
 |zz {a:Ë} {o:Obj} {xs:Á V} (e:H a=À Ϫn):pV K H ý âa
 |tup {a:Ë} {xs:Á V} (e:H a=À Ļa):pV K H ý řa
 |dK {a:Ë} {kvs:Á Ϙ} (e:H a=À Ł):pV K H ý Åc
 |dT {a:Ë} {kvs:Á ěb} (e:H a=À ūb):pV K H ý Åc
 |ins {a C dx:Ë} {fs:Á ĩb} (e:H a=À Ϭa) (cl:vK K C) (ha:PySem.W.findIn K ú åb=À Ñc)
   (hn:PySem.W.specialIn K Îb ĳf=À ŏf) (htk:PySem.W.takesIn K Îb=À Ã)
   (hm:PySem.W.mroIn K C Ϫb=À Ã):pV K H ý ú
def QY{x:V}{u t:Value}(I:zD X z0 σ H s)(d:zu x u)(k:pV X.K H x t)(e:ç X.K t c=À b)(h:∀tk,Q Şf { s with Ě:=tk }) :Õ ā A (Ħa ώd [u,c]) Q E s:=by
 cases k with
 |zI=>cases(show u=Įa from d);show śa W.kitx_none ŝ ŕa e ëa h|bl y=>cases(show u=Ěf y from d);show śa W.kitx_bool ŝ ŕa e ëa h|int i=>let{t,q}:=(show ∃t,u=ŧb i t from d);cases q;show śa W.kitx_int ŝ ŕa e ëa h
 |str y=>let{t,q}:=(show ∃t,u=Ġb y t from d);cases q;show śa W.kitx_str ŝ ŕa e ëa h
 |XR y=>let{t,q}:=(show ∃t,u=ϊh y t from d);cases q;show śa W.kitx_float ŝ ŕa e ëa h
 |@lst a g ea=>cases(show u=ÿ a from d);let{_,_,n,_,f}:=(show yj ì X.w H Ü a (.lst g)from Ď a _ ea);show śa žh ŝ {_,f,rfl} e ëa h
 |@zz a ob g ea=>cases(show u=ÿ a from d);let{_,_,_,n,_,f}:=(show yj ì X.w H Ü a (.zz ob (.lst g))from Ď a _ ea);show śa žh ŝ {_,f,rfl} e ëa h
 |@tup a g ea=>cases(show u=ÿ a from d);let{_,_,_,p}:=(show yj ì X.w H Ü a (.tup g)from Ď a _ ea);let{o,f,j,_}:=p;show śa ìn ŝ {o,f,j} e ëa h
 |@dK a kvs ea=>cases(show u=ÿ a from d);let{_,_,B,_,p}:=(show yj ì X.w H Ü a Ł from Ď a _ ea);let{o,m,l,f,j,_}:=p;show śa œn ŝ {o,f,j.1} e ëa h
 |@dT a kvs ea=>cases(show u=ÿ a from d);let{_,_,g,_,o,m,l,f,j,_}:=(show yj ì X.w H Ü a ūb from Ď a _ ea);show śa œn ŝ {o,f,j.1} e ëa h
 |@ins a C dx fs ea cl ha hn htk hm=>cases(show u=ÿ a from d);let{r,O,_}:=Os Ď ea;let{v,J,_}:=O.look;show śa (W.kitx_own (cl.get _) cl.hd ha hn htk hm) ŝ J e ëa h
#print a
structure yG(k:Ä)(A:è):Æ where
 hd:Ĺa=Â
 dp:ŏc+3*k+5<Øf
 un:äa+16*k+200<ϒ
 gd:A.guards=À []
theorem yG.mono{j k:Ä}{A:è}(r:yG k A)(h:j<=k):yG j A:={r.hd,by let:=ùc;omega,by let:=Ŧc;omega,r.gd}
theorem yG.deeper{k:Ä}{A:è}(r:yG ĸ A)(env:Env):yG k Ţo:=
 {r.hd,by rw[Ϛp],by rw[żp],by first|show r.gd|simp[ϟd,ťn,ϸn,r.gd]}
def z3d{A:è}{C:Ë}{us:Á Value}{a:Á Ėb}:(Ĝg).depth=ŏc+1:=by first|rfl|simp[ϟd,Code.weight,Code.isCreation,Code.isGuard,Code.isCaller,Ŧn,Şh,guardIds]
theorem z3e{A:è}{C:Ë}{us:Á Value}{a:Á Ėb}:(Ĝg).units=äa+1:=by first|rfl|simp[ϟd,Code.cUnits,Ŧn,Şh]
theorem yG.make{k:Ä}{A:è}(r:yG ĸ A)(C:Ë)(us:Á Value)(a:Á Ėb):yG k Ĝg:=
 {r.hd,by let:=ùc;rw[z3d];omega,by let:=Ŧc;rw[z3e];omega,by first|show r.gd|simp[ϟd,ťn,ϸn,r.gd]}
theorem yG.depth{k:Ä}{A:è}(r:yG k A):ŏc<Øf:=by let:=ùc;omega
theorem yG.units{k:Ä}{A:è}(r:yG k A):äa+64<ϒ:=by let:=Ŧc;omega
nonrec def gT:TA:=λ_ H Q=>Q [] H
nonrec def WU(c:TE)(a:TA):TA:=λσ H Q=>c σ H λx b=>a σ b λe d=>Q (x::e) d
section
variable{X:Cx}{e:Ñ}{es:Á Ñ}{te:TE}{t:TA}{pos:Pos}
def Zg:PA X [] gT:=λ_ _ _ _ H Q I h=>űl {[],H,I,.nil,h}
def bu(g:PE X e te)(d:PA X es t)(c:Ì ýc q12):PA X ă ģi:=by
 intro pos b s σ H Q I h;rw[c];exact Õ _ _ (spliced ((Å,Ċ e Ó)::Ÿb pos šh)) _ _ s;show Ţg (zn Ňl λu q a=>?_);let{x,o,j,m,l}:=a;show zn (d pos b q σ o _ j l) λr v a=>?_
 let{n,k,p,i,f}:=a;show⟨x::n,k,p,.cons m i,f⟩
def y7p(t:TA):TE:=λσ H Q=>t σ H λa b=>Ϫ<=á/\∀p,b p=Â->Q ύ (upd b p (.tup a))
def y76(t:TA):TE:=λσ H Q=>t σ H λa b=>Ϫ<=á/\∀p,b p=Â->Q ύ (upd b p Ņc)
def y0i{x1}(h:PA X es t):PE X ŝl (y7p t):=by intro l s σ H Q I j;show wpAny_Tuple_spliced žj;rw[Āp];show{.ref Ža,upd f Ža (.tup k),d.laid (t':=Ýg) ķl ğ ?_,rfl,q _ i};show{z,g,r,{_,ť _ rfl,rfl,_,rfl}}
def Ev(h:PA X es t):PE X Ĝh (y76 t):=by intro l s σ H Q I j;show wpAny_List_spliced žj;rw[Āp];show{.ref Ža,upd f Ža (.lst k),d.laid (t':=Ýg) ķl ğ ?_,rfl,q _ i};show{z,g,0,r,ť _ rfl}
#print a
abbrev Sp:=Á V->Hp->VK->XK->Æ
abbrev jN:=Á Env->Hp->Í->XK->Value->Í->Æ
structure g6(P:à)(w:ß)(K:Ï)(mg:Ç->É Value)(È:Heap)(A:è)(é:Á Env)(s:Í)(H:Hp):Æ where
 éj:üd=À é
 mod:Mod K mg È
 bs:∀b o,ļf b=À o->ö b=À o/\H b=Â
 pO:base.objs.size<=Ý
 tP:ϣc È é
 jz:∀b∈xg é,H b=Â
 zU:xW P w H Ü
 bare:äc Ñg
def CE(é:Á Env)(P:à)(w:ß)(H:Hp)(s:Í)(Q:VK)(u:Value)(s':Í):Æ:=
 ∃v H',õg=s.os/\äc Ϛf/\Un (xg é) [] H H' Ü ťa/\xW P w H' ťa/\zu v u/\Q v H'
def CR(a:jN)(é:Á Env)(P:à)(w:ß)(H:Hp)(s:Í)(Q:VK)(E:XK)(r:Ĵb)(s':Í):Æ:=
 match r with
 |.ok (.ret u)=>CE é P w H s Q u s'|.ok _=>í|.error e=>a é H s E e s'
structure yT(P:à)(w:ß)(K:Ï)(mg:Ç->É Value)(È:Heap)(CX:jN)(k:Ä)(f:Ë)(fd:ĝ)(ps:Á Ç)(sp:Sp):Æ where
 len:∀vs H Q E,sp vs H Q E->ø=Ĉ
 run:∀(A:è)(é:Á Env)(s:Í)(H:Hp)(ų:Args)(us:Á Value)(vs:Á V)(Q:VK)(E:XK),yG k A->g6 P w K mg È A é s H->Ġa s fd ų Ŝb->zk vs us->sp vs H Q E->
  ďa Řa A Ħm (CR CX é P w H s Q E) s
def yT.imp{P:à}{w:ß}{K:Ï}{g:Ç->É Value}{È:Heap}{e:jN}{k:Ä}{f:Ë}{d:ĝ}{ps:Á Ç}{sp c:Sp}(F:yT P w K g È e k f d ps sp)(h:∀vs H Q E,c vs H Q E->sp vs H Q E):yT P w K g È e k f d ps c:=
 {λvs H Q E q=>šc vs H Q E Én,λA a s H b l vs Q E j o n m i=>Šc A a s H b l vs Q E j o n m (h _ _ _ _ i)}
def g6.make{P:à}{w:ß}{K:Ï}{a:Ç->É Value}{È:Heap}{A:è}{é:Á Env}{s:Í}{H:Hp}(e:g6 P w K a È A é s H)(C:Ë)(us:Á Value)(b:Á Ėb) :g6 P w K a È (A.under (.builtin âm {.ref C::us,b})) é s H:={by first|show Ņi|(simpa [ϟd,Code.envs,Şh,pushEnvs]using Ņi),e.mod,e.bs,e.pO,e.tP,e.jz,e.zU,e.bare}
section
variable{X:Cx}{z0:Á ô}{σ:St}{H:Hp}{s s':Í}
def zD.Us(I:zD X z0 σ H s):g6 ì X.w X.K â Ĥ X.A ķ s H:=
 {Ñd,ðe,I.bs,Ĳ Ēd I.sz,ϟi,I.IJ,Ď,đa}
def zD.after{Q:VK}{u:Value}(I:zD X z0 σ H s)(h:CE ķ ì X.w H s Q u s'):EP X z0 σ Q u s':=by let{v,e,i,a,j,k,r,q}:=h;let{f,g,d,t,c}:=s';obtain rfl:c=s.os:=i;show{v,e,I.call (h':=f) (g':=g) (d':=d) (t':=t) (ch:=[]) j k a (λb z=>Þ z ü),r,q}
#print a
nonrec def UD(sp:Sp)(dvs:Á V)(E:XK)(t:TA):TE:=λσ H Q=>t σ H λa b=>sp (a++dvs) b Q E
nonrec def MP(C:Ë)(m:Ç)(sp:Sp)(dvs:Á V)(E:XK)(d:TE)(t:TA):TE:=λσ H Q=>d σ H λx b=>∃a dx fs,x=.ref a/\b a=À Ϭa/\ŝb m=Â/\
 t σ b λc e=>sp (x::(c++dvs)) e Q E
def y77(C:Ë)(sp:Sp)(dvs:Á V)(E:XK)(t:TA):TE:=λσ H Q=>t σ H λb a=>∀x dx,a x=Â->a dx=Â->dx≠x->
 sp (.ref x::(b++dvs)) (upd (upd a dx ċd) x Żm) (λv c=>v=.zI/\Q Ċd c) E
def xN(K:Ï)(a:ĝ)(ps:Á Ç)(ds:Á Value):Æ:=
 ∀(s:Í)(us:Á Value),İ Ü->(ïd).length=Ĉ->Ġa s a {us,[]} (ãj ïd)
def xN.all{K:Ï}{a:ĝ}{ps:Á Ç}(h:∀us:Á Value,ũ=Ĉ->ūf a {us,[]}=pure Ŝb):xN K a ps []:=λs us _ b=>by rw[ŏ]at b ⊢;show .of_eq (h us b)
def pU(a:jN)(X:Cx)(E:XK):Æ:=∀(z0:Á ô) (σ:St) (H:Hp) (s:Í) (e:Value) (s':Í),zD X z0 σ H s->a ķ H s E e s'->ĥ e s'
section
variable{X:Cx}{CX:jN}{k:Ä}{f C:Ë}{fd:ĝ}{ps:Á Ç}{sp:Sp}{dvs:Á V}{ds:Á Value}{E:XK}{x m:Ç}{p pos ž:Pos}{e o:Ñ}{es:Á Ñ}{ta:TE}{t:TA}
def Vx{b:Á ô}{σ:St}{H:Hp}{s:Í}{Q:VK}{us:Á Value}{vs:Á V}(F:yT ì X.w X.K â Ĥ CX k f fd ps sp)(d:yG k X.A)(l:xN X.K fd ps ds)(j:zk dvs ds)(g:pU CX X E)(I:zD X b σ H s)(r:zk vs us)(h:sp Úe H Q E):Õ ā X.A (Ħa Đ us) (EP X b σ Q) ĥ s:=by
 let c:zk Úe ïd:=Ôd j;have i:(ïd).length=Ĉ:=by rw[<-Ϻa];show šc _ _ _ _ h
 show Ϥc (Ϥb (Šc X.A ķ s H {us,[]} ïd Úe Q E d I.Us (l s us ŝ i) c h) λr m a=>?_);cases r with
 |şc e=>show g b σ H s e m I a|ok fl=>
  cases fl with
  |ret u=>show I.after a|next=>show ń a|brk=>show ń a|ýa=>show ń a
def cA(F:yT ì X.w X.K â Ĥ CX k f fd ps sp)(g:yG k X.A)(m:Gl X x)(l:â x=À Đ)(hk:ϕ X.K Đ=Ã)(o:xN X.K fd ps ds)(n:zk dvs ds)(i:pU CX X E)(j:PA X ă t)(a:Ì Ģ q10)(v:Ì ýc q12)(c:Ì ((źc).any (·.1)=Å) q12) :PE X ċa (UD sp dvs E t):=by rw[ϥp];show Ϲb (h₀:=Ĥ) Ác hk (zn źk λy C b=>?_) v c;let{z,B,d,r,q}:=b;show{ũc,?_};show Vx F g o n i d r q
def y01(F:yT ì X.w X.K â Ĥ CX k f fd ps sp)(c:yG k X.A)(b:Gl X x)(i:â x=À Đ)(hk:ϕ X.K Đ=Ã)(g:xN X.K fd ps ds)(e:zk dvs ds)(d:pU CX X E)(a:Ì Ģ q10):PE X ϳk (UD sp dvs E gT):=by rw[Ϧp];show ϙb (ZY I b i ?_ a);show Ϙm ŝ hk (Vx (us:=[]) F c g e d I .nil h)
def y0c{pl:Sem Ò}(O:PE X o ta)(c:vK X.K C)(n:Xb X.K C m f)(F:yT ì X.w X.K â Ĥ CX k f fd ps sp)(v:yG k X.A)(N:xN X.K fd ps ds)(L:zk dvs ds)(R:pU CX X E)(S:PA X ă t)(d:Ì ýc q12)(g:Ì ((źc).any (·.1)=Å) q12)(y:Ċ Ïc Ó=(do
   let ov <-Ċ o Ó
   standAt ęb
   let (f,first) <-holding ýb Ôb
   ϒa pos f first ϖb ŵa):=by rfl) :
  PE X Ïc (MP C m sp dvs E ta t):=by
 intro p s σ H Q I h;show Èf (pl:=pl) (zn (O p s σ H _ I h) λu P b=>?_) y;let{x,T,i,J,a,U,fs,B,G,l,q}:=b;subst B;obtain rfl:u=ÿ a:=J;show CD i G c n l ?_;show Ϲb (first:=Ãa) (h₀:=Ĥ) Ác n.kp (zn (S pos p P σ T _ i q) λus Z b=>?_) d g;let{vs,Y,j,r,z}:=b;show{j.ye,?_};show Vx (us:=.ref a::us) (vs:=.ref a::vs) F v N L R j (.cons rfl r) z
def LW{pl:Sem Ò}(z:PE X o ta)(c:vK X.K C)(e:Xb X.K C m f)(F:yT ì X.w X.K â Ĥ CX k f fd ps sp)(g:yG k X.A)(v:xN X.K fd ps ds)(t:zk dvs ds)(j:pU CX X E)(i:Ċ ϝb Ó=(do
   let ov <-Ċ o Ó
   standAt ęb
   let (f,first) <-holding ýb Ôb
   ϒa pos f first ŋd ŵa):=by rfl) :
  PE X ϝb (MP C m sp dvs E ta gT):=by
 intro y s σ H Q I h;show Èf (pl:=pl) (zn (z y s σ H _ I h) λu L d=>?_) i;let{x,G,b,r,a,B,J,n,p,l,q}:=d;subst n;obtain rfl:u=ÿ a:=r;show CD b p c e l ?_;show Ϙm (first:=Ãa) b.ye e.kp (Vx (us:=Ãa) (vs:=Ãa) F g v t j b æh q)
structure Mk(K:Ï)(C f:Ë):Æ where
 makes:ãd K C=Ã
 init:ů K ú îa=À ĺa
 fn:Žb K Đ=Ã
 kp:ϕ K ú=Ã
def y2p{c:Á ô}{σ:St}{H:Hp}{s:Í}{Q:VK}{us:Á Value}{vs:Á V}(M:Mk X.K C f)(F:yT ì X.w X.K â Ĥ CX k f fd ps sp)(j:yG ĸ X.A)(y:xN X.K fd ps ds)(t:zk dvs ds)(l:pU CX X E)(I:zD X c σ H s)(r:zk vs us)(h:∀x dx,H x=Â->H dx=Â->dx≠x->sp (.ref x::Úe) (upd (upd H dx ċd) x Żm) (λv H2=>v=.zI/\Q Ċd H2) E) :Õ ā X.A (Ħa ú us) (EP X c σ Q) ĥ s:=by
 let g:=h ěa Ý Šo æd űo;let b:=ύi (C:=C) I;let d:zk (ūa ěa::Úe) ŕm:=.cons rfl (Ôd t)
 let q:(ÿ ěa::us++ds).length=Ĉ:=by let e:=Ţa;rw[šc _ _ _ _ g]at e;show Ģd
 refine Ϥc (b8 (f:=f) ŝ M.makes M.init Õo (Ϥb (Šc _ ķ _ _ {ÿ ěa::us,[]} ŕm _ _ E (j.make C us [])
  (b.Us.make C us []) (y _ (ÿ ěa::us) b.ye q) d g) λr o a=>?_))
 cases r with
 |şc e=>show l c σ _ _ e o b a|ok fl=>
  cases fl with
  |ret u=>let{v,n,m,z,i,p}:=b.after a;subst i;show{z,{ūa ěa,n,m,rfl,p}}
  |next=>show ń a|brk=>show ń a|ýa=>show ń a
def cD(M:Mk X.K C f)(F:yT ì X.w X.K â Ĥ CX k f fd ps sp)(g:yG ĸ X.A)(m:Gl X x)(l:â x=À ú)(o:xN X.K fd ps ds)(n:zk dvs ds)(i:pU CX X E)(j:PA X ă t)(a:Ì Ģ q10)(v:Ì ýc q12)(c:Ì ((źc).any (·.1)=Å) q12) :PE X ċa (y77 C sp dvs E t):=by rw[ϥp];show Ϲb (h₀:=Ĥ) Ác M.kp (zn źk λy G b=>?_) v c;let{z,B,d,r,q}:=b;show{ũc,?_};show y2p M F g o n i d r q
#print a
def PK(X:Cx)(a:Á ϡf)(t:TA):Æ:=
 ∀(pos:Pos)(z0:Á ô) (s:Í) (σ:St) (H:Hp) (Q:Á V->Hp->Æ),zD X z0 σ H s->t σ H Q->Õ ā X.A (evalAll ((backToKw pos (ŋn a Ó)).map (·.2))) Ÿm ĥ s
section
variable{X:Cx}{k:Ä}{f:Ë}{x m:Ç}{p pos kpos:Pos}{e o:Ñ}{kws:Á ϡf}{te:TE}{t:TA}{nm:É Ç}
def y11:PK X [] gT:=λ_ _ _ _ H Q I h=>wpAny_evalAll_nil {[],H,I,.nil,h}
def y10(f:PE X e te)(c:PK X kws t):PK X ({nm,e,kpos}::kws) ģi:=by
 intro pos b s σ H Q I h;exact Õ _ _ (evalAll ((do let v <-Ċ e Ó;standAt pos;pure v)::(backToKw pos (ŋn kws Ó)).map (·.2))) _ _ s;show wpAny_evalAll_cons (Ð (zn (f b s σ H _ I h) λu p a=>?_));let{x,n,i,l,k}:=a;show Ð (Ϟe Śa);show zn (c pos b p σ n _ i k) λq r a=>?_
 let{m,j,o,g,d}:=a;show⟨x::m,j,o,.cons l g,d⟩
#print a
structure zh(N P:Á Ç)(sc:ϭ):Æ where
 kind:sc.kind=.function
 co:sc.isCoroutine=Å
 gen:sc.isGenerator=Å
 nd:N.Nodup
 pre:N.take ϖ=P
 par:∀x∈P,ìm x=À .local\/ìm x=À .cell
 lR:∀y∈sc.names,y.2≠.free
theorem Ss{a:Ç->É Ùc}{x:Ç}:∀{Ĳd:Á Ėb} {m:Ç->É Value},(∀v,(x,v) ∉ Ĳd)->ôc a Ĳd m x=m x
 | [],_,_=>rfl|(n,v)::r,m,h=>by
  unfold ôc;rw[Ss λw b=>h w ŋf]
  split;rw[ύp]
  simp[this];rfl
theorem Sq{a:Ç->É Ùc}{x:Ç}:∀{Ĳd:Á Ėb} {m:Ç->É Value},(∀v,(x,v) ∉ Ĳd)->õc a Ĳd m x=m x
 | [],_,_=>rfl|(n,v)::r,m,h=>by
  unfold õc;rw[Sq λw b=>h w ŋf]
  split;rfl;rw[ύp]
  simp[this]
theorem Sr{a:Ç->É Ùc}{x:Ç}{v:Value}:∀{P:Á Ç}{vs:Á Value}{i:Ä}{m:Ç->É Value},P.Nodup->P[i]?=À x->vs[i]?=À v->a x=À .local->
  ôc a üo m x=À v
 | [],_,_,_,_,h,_,_=>by simp at h|_::_,[],_,_,_,_,h,_=>by simp at h|p::P,w::vs,0,m,nd,h1,h2,hk=>by rw[ϲp];exact ôc a Ϻe m p=_;unfold ôc;rw[Ss λv b=>Ŷf.1 (Éf b).1,Ö hk];simp|p::P,w::vs,i+1,m,nd,h1,h2,hk=>by exact ôc a Ϻe m x=_;unfold ôc;show Sr (i:=i) Ŷf.2 ϣe čl hk
theorem So{a:Ç->É Ùc}{x:Ç}{v:Value}:∀{P:Á Ç}{vs:Á Value}{i:Ä}{m:Ç->É Value},P.Nodup->P[i]?=À x->vs[i]?=À v->a x≠À .local->
  õc a üo m x=À v
 | [],_,_,_,_,h,_,_=>by simp at h|_::_,[],_,_,_,_,h,_=>by simp at h|p::P,w::vs,0,m,nd,h1,h2,hk=>by rw[ϲp];exact õc a Ϻe m p=_;unfold õc;rw[Sq λv b=>Ŷf.1 (Éf b).1,Ø hk];simp|p::P,w::vs,i+1,m,nd,h1,h2,hk=>by exact õc a Ϻe m x=_;unfold õc;show So (i:=i) Ŷf.2 ϣe čl hk
nonrec def ķe(N:Á Ç)(vs:Á V):St:=ğe À++Ů (Ū-ø) Â
nonrec def u3(g:jN)(P:à)(w:ß)(K:Ï)(mg:Ç->É Value)(È:Heap)(N:Á Ç)(b:Ç)(a:ϭ)(f:Ë)(d:Value)(A:è)(é:Á Env)(s:Í)(H:Hp)(E:XK):Cx where
 Ā:=P
 w:=w
 K:=K
 mg:=mg
 È:=È
 A:=ıa Èh
 N:=N
 s₀:=s
 H₀:=H
 env:=ļa b a Ý f d
 é:=é
 stack:=ļa b a Ý f d::é
 ex:=[]
 calm:=Ã
 fn:=λ_=>Ã
 pn:=[]
 xe:=λe i=>Õ Řa (ıa Èh) (Ìe Èh e) (λ_ c=>g é H s E e c) (λh c=>g é H s E h c) i
def AD{a:ϭ}{n:Ä}{x:Ç}(h:čb x=À .cell):∃c,(Ĵo n a.names []).lookup x=À c:=by let q:=Öh a.names n [] źi;show ăk q
def aM{O:jN}{P:à}{w:ß}{K:Ï}{I:Ç->É Value}{È:Heap}{N ps:Á Ç}{g:Ç}{d:ϭ}{f:Ë}{C:Value}{A:è}{é:Á Env}{s Q:Í}{H:Hp}{E:XK}{us:Á Value}{vs:Á V}(S:zh N ps d)(T:Ĺa=Â)(l:g6 P w K I È A é s H)(hl:ø=Ĉ)(r:zk vs us)(x:InCallC s Ý (ôc (Żl).kindOf Ŝb λ_=>Â) (Ĵo ěa d.names []) (õc (Żl).kindOf Ŝb λ_=>Â) Q) :zD źj [] όa H Q:=by
 let U:Ĉ<=Ū:=by let:=Äa ċf S.pre;rw[Ôa]at this;omega
 let{F,Z,rfl,L}:=x.done;let m:∀b:Ë,b ∉ (źj).ex:=λb z=>Þ (show b∈([]:Á Ë)from z) ü
 show⟨{l.mod,ñj,rfl,rfl,ϔ _,λy z c F j=>?_,λy o=>?_,λy c _ h=>?_,λ_=>T,Around.frames_deeper l.frames,.inr {rfl,rfl},λb z=>Þ z (m b),l.bs,l.pO,λb _ _=>m b,λb z=>Þ z (m b),l.tP,l.jz},
  rfl,l.bare,će L,{_,x.toInCall.ns,λi y v F j Y=>?_},λy c h=>{_,x.cell y c h},ϻn ğ,λy c h=>?_,λp B=>Þ (show p∈([]:Á ô)from B) ü,l.zU.kept L,?_⟩
 show name_of_addr x.apart (Ŵe F) (Ŵe j);let o:Ċh y=À .cell\/Ċh y=À .free:=o;rcases o with o|o;show AD o;show Þ rfl (S.lR _ (Ŵe o));show Àa Ϥk;let G:i<ø:=by
  unfold ķe at j;by_cases G:i<ø;show G;rw[ńb ŏl]at j;rw[řk]at j
  split at j<;>cases j
 let R:vs[i]?=À v:=by
  unfold ķe at j;rw[Òb ŏl,Üa]at j;cases e:vs[i]? with
  |Â=>rw[e]at j;cases j|À a=>rw[e]at j;cases j<;>rfl
 let{u,J,X}:=ϟa R
 have B:ps[i]?=À y:=by rw[<-S.pre,List.getElem?_take_of_lt Î];show F
 have t:ps.Nodup:=by rw[<-S.pre];show S.nd.sublist Ťk
 show{u,X,?_};rcases S.par y (ϟb B)with k|k;show .inl {k,Sr t B J k};let{c,e}:=AD (n:=Ý+1) k;show .inr {.inl k,c,e,?_};let q:=x.cell y c e;rw[So t B J (by exact Ċh y≠_;rw[k];decide)]at q;show q;show ϻn (Àa Ϥk);unfold ķe;exact _=Ū;rw[Ħp]
def Q5{F:jN}{P:à}{w:ß}{K:Ï}{G:Ç->É Value}{È:Heap}{k:Ä}{f:Ë}{Į c:Ç}{g:øi}{h:Á Ô}{a:ϭ}{dV kV B Y d ct oc:Value}{an od:É Ë}{O:Ú ĉa}{N ps:Á Ç}{sp:Sp}(lk:Ÿ f=À {oc,od,.func Ϭj,O})(R:ϓa K d c=Ã)(S:zh N ps a)(m:∀vs H Q E,sp vs H Q E->ø=Ĉ)(j:∀(A:è)(é:Á Env)(s:Í)(H:Hp)(vs:Á V)(Q:VK)(E:XK),yG k šo->sp vs H Q E->
   ∃t,wy Įg h t/\t { nx:=λ_ H'=>Q .zI H',rt:=Q } όa H) :
  yT P w K G È F ĸ f Ϭj ps sp:=by
 show{m,λA é s H ų us vs Q E L C hb r z=>?_};let hl:=m _ _ _ _ z;let KX:İ Ü:=Ōm λb o e=>ćf.1
 let T:ĵm:=öl λb o e=>ćf.1
 let i:∀y∈ãj us,čb y.1=À .local\/ĳj:=λ⟨n,v⟩ hy=>by rcases S.par n (Éf hy).1 with q|q;rw[Śp]
 show ϓk L.depth ϧn rfl S.co S.gen rfl (ín KX R) Ēm;show Æk ñj i λenv he Z x=>?_
 subst he;show{T.keeps ém,ên ?_};let{t,ht,hq}:=j A é s H vs Q E (L.deeper _) z;let I:zD Įg [] όa H Z:=aM S L.hd C hl r x;show ϋ (ht [] Z όa H _ I hq) (λfl X l=>?_) λe X l=>l
 let p:∀{σ':St}{H':Hp}{v:V}{u:Value},zD Įg [] σ' H' X->zu v u->Q v H'->CE é P w H s Q u X:=
  λ{σ' H' v u} J U q=>{v,H',J.os,J.bare,J.base,J.zU,U,q}
 cases fl with
 |ret u=>
  let{v,σ',H',J,U,q}:=l;show p J U q
 |next=>
  rw[ıp]
 |brk=>
  rw[ĝp]
 |ýa=>
  rw[ĝp]
section
variable{X:Cx}{x:Ç}{p pos:Pos}{e:Ñ}{es:Á Ñ}{t:TA}{id T:Ż}{r:Á V->Hp->VK->Æ}
nonrec def MN(r:Á V->Hp->VK->Æ)(t:TA):TE:=λσ H Q=>t σ H λa b=>r a b Q
def y02(v:wM X áb r)(l:Gl X x)(k:â x=Â)(hv:Ś x=À áb)(g:PA X ă t)(i:Ì ϩa q10)(a:Ì Ģ q10)(q:Ì ýc q12)(c:Ì ((źc).any (·.1)=Å) q12):PE X ċa ώf:=by rw[ğp];show ϙb Þl;show PyProof.Rows.callWith_builtin1 ſj q c;rw[ŗp]
def y04(v:wM X ėa r)(l:Gl X x)(k:â x=Â)(hv:Ś x=À ėa)(g:PA X ă t)(i:Ì ϩa q10)(a:Ì Ģ q10)(q:Ì ýc q12)(c:Ì ((źc).any (·.1)=Å) q12):PE X ċa ώf:=by rw[ğp];show ϙb Þl;show ťe ſj q c;rw[ŗp]
#print a
#print L2
namespace HT
open č ď
section
variable{Ā:à}{w:ß}{A:è}{E:Value->Í->Æ}{s:Í}
def cat_tup{t b:Ë}{vs ws:Á Value}{Q:Value->Í->Æ}(r:Êb Ü t Ìa)(u:Êb Ü b ęf)(hv:vs≠[])(q:ws=[]->Q Çc s)(v:ws≠[]->Q ţb { s with ä:=Ŋa { cls:=.type Œ,Č:=.seq (vs++ws).toArray } })(hsz:ø+Ëe<=á):Õ æ A (Ŗa .Add Çc Ź) Q E s:=by
 obtain⟨⟨cls,l,Č,j⟩,h,p,n,m⟩:=id r;obtain⟨⟨k,f,i,g⟩,a,c,o,d⟩:=id u;simp only at p m c d;subst p m c d;let e:Ìa++ęf=(vs++ws).toArray:=by simp
 by_cases hw:ws=[];show Ŕh {_,h,rfl} {_,a,rfl} ϧl ώm Ũk Ŕk ìk
  (tuple_addW1 t b Ìa ęf n o l f j g ϥg (by simp[hw])) {h,a,q hw}
 refine Ŕh {_,h,rfl} {_,a,rfl} ϧl ώm Ũk Ŕk ìk
  (tuple_addW2 t b Ìa ęf n o l f j g ϥg (by simpa using hw) (by rw[đ,đ];show hsz)) {h,a,?_}
 rw[e];show v hw
nonrec def sIx(n d:Ä):É Ê->Ä
 |Â=>d|À v=>if v<0 then(v+(n:Ê)).toNat else min v.toNat n
def Ģe(n d:Ä)(a:d<=n)(o:É Ê):sIx n d o<=n:=by
 cases o with
 |Â=>show a|À v=>exact Ŕj<=n;by_cases hv:v<0;rw[Ö hv];omega;rw[Ø hv];show ĩg _ _
def AE(v:Ê)(n d:Ä):œj=((sIx n d Ϗ:Ä):Ê):=by exact œj=((Ŕj:Ä):Ê);by_cases hv:v<0;simp only[Ö hv];show(Úh _).symm;simp only[Ø hv];let{k,rfl}:=όc (ϥb hv);rcases þf k n with h|h;rw[Īa,Őa h,ęc (ĵg h)];rw[Īa,Áf h,Ûh (ĵg h)]
theorem mC(lo hi:É Ê)(n:Ä):řg lo hi 1 (n:Ê)=(((sIx n 0 lo:Ä):Ê),((sIx n n hi:Ä):Ê)):=by
 let a:¬ ((1:Ê)<0):=by omega
 unfold řg;simp only[a,ŕ];show Prod.ext ?_ ?_;cases lo with
 |Â=>rfl|À v=>show AE v n 0
 cases hi with
 |Â=>rfl|À v=>show AE v n n
def y12(i j:Ä):ůe (i:Ê) (j:Ê) 1=j-i:=by
 unfold ůe;let a:(1:Ê)>0:=by omega
 simp only[a,ĭ,Int.ediv_one]
 rw[Şp]
def eP{v:Value}{o:É Ê}{Q:É Ê->Í->Æ}(p:õb v o)(h:Q o s):Õ æ A (Builtin.Slice.slicePartIndex v) Q E s:=by
 cases p with
 |Â=>show Ĵm h|int i t=>show slicePart_int h
def eO{e:Ë}{c d:Value}{lo hi:É Ê}{n:Ä}{Q:Ê×Ê×Ä->Í->Æ}(f:ϻe e c d .none)(pl:õb c lo)(g:õb d hi)(h:Q (((sIx n 0 lo:Ä):Ê),1,sIx n n hi-sIx n 0 lo) s):Õ æ A (ēk íb (pure (n:Ê))) Q E s:=by let{j,a,i,b}:=id f;unfold ēk Builtin.Slice.sliceFields;show Ð (Ð (êa a b (x:=c) rfl (Ð (êa a b (x:=d) rfl (Ð (êa a b (x:=.none) rfl Śa))))));show Ð (Ĵm ?_);exact Õ _ _ (ιa ((1:Ê)==0)) _ _ s;rw[Ø Û];show Ð (eP pl (Ð (eP g Żo)));exact Õ _ _ (match řg lo hi 1 (n:Ê)with|(lo,hi)=>pure (lo,(1:Ê),ůe lo hi 1)) _ _ s;rw[mC lo hi n];exact Õ _ _ (pure (((sIx n 0 lo:Ä):Ê),(1:Ê),ůe ((sIx n 0 lo:Ä):Ê) ((sIx n n hi:Ä):Ê) 1)) _ _ s;rw[y12];show ċ h
def y0z(xs:Ú Value)(i k:Ä):((Ýb k).filterMap λ(m:Ä)=>xs[(Ϩg).toNat]?).toArray=((xs.toList.drop i).take k).toArray:=by
 let e:(λ(m:Ä)=>xs[(Ϩg).toNat]?)=λm=>xs[i+m]?:=by
  funext m
  let:(Ϩg).toNat=i+m:=by omega
  rw[this]
 rw[e];let:=ĸi xs i k;rw[List.filterMap_map]at this;let e2:((λx=>xs[x]?)∘λx=>i+x)=λm=>xs[i+m]?:=rfl
 rw[e2]at this;rw[this]
theorem getItem_tuple_cut{t d:Ë}{a:Ú Value}{k l:Value}{lo hi:É Ê}{Q:Value->Í->Æ}(c:Êb Ü t a)(j:ϻe d k l .none)(pl:õb k lo)(u:õb l hi)(v:¬ (sIx ù 0 lo=0/\sIx ù ù hi=ù))(h:Q ţb { s with ä:=Ŋa { cls:=.type Œ,Č:=.seq (Ěg).toArray } })(hsz:ù<=á):Õ æ A Ϩm Q E s:=by
 let b:sizeOk (.seq (Ěg).toArray):=by exact(Ěg).toArray.size<=á;rw[đ,Ôa,Ăa,ŧ];show Ĳ Òe (Ĳ Üb hsz)
 let x:sIx ù ù hi<=ù:=Ģe _ _ ğ hi;let{p,i,f,o}:=id j;let g:îb Ĥb Ąe:={p,i,f};unfold ýd
 try with_reducible show ŉa ?_
 first|show Ð Śa|skip
 refine Ð (ţl Ľc Û ?_)
 show Ð (Āc (Į:=Ŋb Ħh) Ľc Śe
  (Ňb Śe Ľc ñl ?_ Ōk))
 exact Õ _ _ ϙj _ _ s;show Ð (όm c ?_);show Ð (ϗc g ?_);rw[Ö Û];show Ð (eO j pl u ?_)
 let e:¬ (Đg=Ã):=by intro q;rw[ć,ć]at q;let r:((sIx ù 0 lo:Ä):Ê)=0:=éi q.1.1;let n:sIx ù ù hi-sIx ù 0 lo=ù:=éi q.2;show v {Int.ofNat_eq_zero.mp r,ŏb x (Ĳ (àb n.symm) Üb)}
 exact Õ _ _ ěk _ _ s;rw[Ø e,y0z]
 first
  |show Ð (m:=Ÿe _) Ųn
  |show Ð (m:=Ÿe _) (ÿb (Ð ŷo) b)
  |show Ð (Ð (m:=Ÿe _) (ÿb ŷo b))
  |show Ð (Ð (m:=Ÿe _) Ųn)
#print a
#print HT
namespace L2
open č Ĕ ď
abbrev TO:=St->Hp->(É Ê->Hp->Æ)->Æ
def PO(X:Cx)(e:É Ñ)(t:TO):Æ:=
 ∀(z0:Á ô) (s:Í) (σ:St) (H:Hp) (Q:É Ê->Hp->Æ),zD X z0 σ H s->t σ H Q->
  Õ ā X.A (evalPart e Ó) (λu a=>∃o H',zD X z0 σ H' a/\õb u o/\Q o H') ĥ s
nonrec def y7a:TO:=λ_ H Q=>Q Â H
nonrec def y7f(t:TE):TO:=λσ H Q=>t σ H λx a=>∃i,x=.int i/\Q (À i) a
section
variable{X:Cx}{e:Ñ}{te:TE}{lo hi:É Ñ}{tl th:TO}{pos p2:Pos}
def y13:PO X Â y7a:=by intro a s σ H Q I h;rw[ϒm];show ċ {Â,H,I,.none,h}
def y14(h:PE X e te):PO X (À e) (y7f te):=by
 intro g s σ H Q I f;rw[evalPart_some];show zn (h g s σ H _ I f) λu k a=>?_
 let{x,j,b,d,c}:=a;let{i,rfl,q}:=c;rw[Šp];show{À i,j,b,.int i t,q}
def k9(X:Cx)(r:V->É Ê->É Ê->Hp->VK->Æ):Æ:=
 ∀(z0:Á ô) (s:Í) (σ:St) (H:Hp) (x:V) (v vl vu:Value) (lo hi:É Ê) (sl:Ë) (Q:VK),zD X z0 σ H s->zu x v->ϻe sl vl vu .none->õb vl lo->õb vu hi->r x lo hi H Q->
  ∃T id,ϩh ėa Ħh=pure (À áb)/\îb v T/\Õ ā X.A (ýd v (.ref sl)) ϫa ĥ s
def k9.or{r d:V->É Ê->É Ê->Hp->VK->Æ}(h:k9 X r)(h':k9 X d):k9 X (λx lo hi H Q=>r x lo hi H Q\/d x lo hi H Q):=by intro i s σ H x v e j lo hi a Q I g b c f q;rcases q with q|q;show h i s σ H x v e j lo hi a Q I g b c f q;show h' i s σ H x v e j lo hi a Q I g b c f q
nonrec def y7m(r:V->É Ê->É Ê->Hp->VK->Æ)(te:TE)(tl th:TO):TE:=λσ H Q=>te σ H λx b=>tl σ b λl c=>th σ c λu a=>r x l u a Q
def cF{r:V->É Ê->É Ê->Hp->VK->Æ}(k:k9 X r)(y:PE X e te)(P:PO X lo tl)(C:PO X hi th):PE X (.Subscript e ϲk pos) (y7m r te tl th):=by
 rw[ğp];show Ëo (zn (y d s σ H _ I h) λv B c=>?_);let{x,R,o,N,K}:=c;show wpAny_Slice (zn (P d B σ R _ o K) λg O c=>?_);let{l,G,z,E,n}:=c;show zn (C d O σ G _ z n) λf a i=>?_
 let{u,j,F,L,J}:=i;rw[ϒm];show ċ ?_;let t:zD X d σ j { a with ä:=ϩd { cls:=.type Ąe,Č:=.fields #[g,f,.none] } }:=F.kept (t':=Ýg) λb W q=>Ġ _ q
 let{T,U,S,m,p}:=k d { a with ä:=ϩd { cls:=.type Ąe,Č:=.fields #[g,f,.none] } } σ j x v g f l u Ža Q t N (Heap.IsSliceOf.new ..) E L J;exact Õ ā X.A (ύm e ϲk v čo) (EP X d σ Q) ĥ { a with ä:=ϩd { cls:=.type Ąe,Č:=.fields #[g,f,.none] } };show tail_any (ops:=[.ref Ža,v]) m S p ÿc
def YW(xs:Á V)(lo hi:É Ê):Á V:=(ņk).take ök
def AK(xs:Á V)(lo hi:É Ê):(Ñn).length<=ë:=by unfold YW;rw[Ôa,Ăa];show Ĳ Òe Üb
def dF(K:Ï):V->É Ê->É Ê->Hp->VK->Æ:=λx lo hi H Q=>∃a xs,x=.ref a/\yf K H a xs/\
 ¬ (ę ë 0 lo=0/\ę ë ë hi=ë)/\∀p,H p=Â->Q ύ (γ (.tup Ñn))
def y5b:k9 X (dF X.K):=by
 intro w s σ H x v t y lo hi p Q I n i j l h;let{a,d,rfl,k,m,q}:=h;cases n;let{e,r,f,g}:=Ϭ k;let c:e.toArray.size=Ţa:=by rw[đ];show Ϗm
 show{Œ,_,ϐj,łi,?_};refine HT.getItem_tuple_cut f i j l (by rw[c];show m) ?_ (by rw[c];show g);rw[c];show{.ref Ý,_,Çb (t':=ě) (o:=.tup (YW d lo hi)) ϯg ğ ?_,rfl,q _ æd};show{Ĳ (AK d lo hi) g,_,(âj (ę Ţa 0 lo)).take (ę Ţa Ţa hi-ę Ţa 0 lo),õi _ _}
def cq(K:Ï):R2:=λx y H Q=>∃a b xs ys,x=.ref a/\y=.ref b/\yf K H a xs/\yf K H b ys/\xs≠[]/\ë+ş<=á/\
 (ys=[]->Q ý H)/\(ys≠[]->∀p,H p=Â->Q ύ (γ (.tup żf)))
def zk.Bb{xs:Á V}{us:Á Value}(r:zk xs us):us=[]↔xs=[]:=by
 cases r with
 |nil=>simp|î _ _=>simp
def z9b:ya X Ùd (cq X.K):=by intro C s σ H x y v u Q I k m h;let{a,b,j,p,rfl,rfl,t,l,r,e,A,g}:=h;cases k;cases m;let{i,d,n,_}:=Ϭ t;let{f,c,p2,_}:=Ϭ l;show HT.cat_tup n p2 (λz=>r (d.Bb.mp z)) (λz=>{.ref a,H,I,rfl,A (c.Bb.mp z)}) éd (by rw[<-Ţa,<-Ϻa];show e);show{.ref Ý,_,Çb (t':=ě) (o:=.tup (j++p)) (λb B q=>Ġ _ q) ğ ?_,rfl,g (λw=>z (c.Bb.mpr w)) _ æd};show{by rw[ï];show e,_,d.append c,õi _ _}
#print a
nonrec def ZW(n:Ä)(i:Ê):É Ä:=if 0<=i then(if i<n then À ąe else Â)else if -(n:Ê)<=i then À (i+n).toNat else Â
def qz{α:Type}(xs:Á α)(i:Ê):É α:=(ZW ë i).bind λj=>xs[j]?
def aS{n:Ä}{i:Ê}{j:Ä}(h:ZW n i=À j):seqIndex? i n=À j/\j<n /\ -(n:Ê)<=i/\i<n:=by unfold ZW at h;by_cases h0:0<=i;rw[Ö h0]at h;by_cases h1:i<n;rw[Ö h1]at h;let e:ąe=j:=īa h;show{by rw[źh h0 h1,e],by omega,by omega,h1};rw[Ø h1]at h;cases h;rw[Ø h0]at h;by_cases h1 : -(n:Ê)<=i;rw[Ö h1]at h;let e:(i+n).toNat=j:=īa h;show{by rw[Ŏh Î h1,e],by omega,h1,by omega};rw[Ø h1]at h;cases h
def Dv{α:Type}{xs:Á α}{i:Ê}{v:α}(h:qz xs i=À v):∃j,seqIndex? i ë=À j/\xs[j]?=À v/\j<ë /\ -(ë:Ê)<=i/\i<ë:=by
 unfold qz at h;cases e:ZW ë i with
 |Â=>rw[e]at h;cases h|À j=>rw[e]at h;let{a,d,b,c}:=aS e;show{j,a,h,d,b,c}
def SL(b:Ñ):Æ:=∀o i,Ňn b Å o i=operate [o,i] (ýd o i)
def qw(X:Cx)(r:R2):Æ:=
 ∀(Éb slice:Ñ)(z0:Á ô) (s:Í) (σ:St) (H:Hp) (x y:V) (v u:Value) (Q:VK),zD X z0 σ H s->zu x v->zu y u->r x y H Q->
  Ňn slice Å v u=operate [v,u] (ýd v u)->Õ ā X.A (ύm Éb slice v u) ϫa ĥ s
def VA(X:Cx)(a:Ż)(r:V->Á V->Hp->VK->Æ):Æ:=
 ∀(z0:Á ô) (s:Í) (σ:St) (H:Hp) (x:V) (xs:Á V) (v:Value) (us:Á Value) (Q:VK),zD X z0 σ H s->zu x v->zk xs us->r x xs H Q->
  Õ ā X.A Čk ϫa ĥ s
section
variable{X:Cx}{a b:Ñ}{ta tb:TE}{pos:Pos}
def qw.or{r f:R2}(h:qw X r)(h':qw X f):qw X (λx y H Q=>r x y H Q\/f x y H Q):=by intro a b e s σ H x y v u Q I d g q c;rcases q with q|q;show h a b e s σ H x y v u Q I d g q c;show h' a b e s σ H x y v u Q I d g q c
def LV{r:R2}(d:qw X r)(e:PE X a ta)(j:PE X b tb)(c:SL b):PE X ãl Ćf:=by intro k s σ H Q I h;show Ëo (FI e j I h λv u g x y f m i l q=>d a b k g σ f x y v u Q m i l q (c _ _))
def c_(K:Ï):R2:=λx y H Q=>∃p xs i v,x=.ref p/\y=.int i/\yQ K H p xs/\qz xs i=À v/\Q v H
def d8(K:Ï):R2:=λx y H Q=>∃p xs i v,x=.ref p/\y=.int i/\yf K H p xs/\qz xs i=À v/\Q v H
def d7:R2:=λx y H Q=>∃z i c,x=.str z/\y=.int i/\Ņ<=á/\qz Ðh i=À c/\Q ļh H
def aT:qw X (c_ X.K):=by
 intro g f n s σ H x y v u Q I A C h l;let{p,P,i,z,rfl,rfl,J,B,q}:=h;cases A;let{t,rfl}:=C;let{c,r,e,R}:=ű J;let{j,b,F,N,E,o}:=Dv B;let{w,m,k}:=ϟa F;let L:=ŷ;let O:=W1;let a:EP X n σ Q w s:={z,H,I,k,q};by_cases h0:0<=i;let d:ąe=j:=by rw[źh h0 o]at b;show īa b
 show item_listR e.isList h0 Î ŉk a l;let d:(i+(ϲc:Ê)).toNat=j:=by rw[Ŏh Î E]at b;rw[đ,<-L];show īa b
 show ľd (x:=w) e.isList.typeIs ĺk
  (wpAny_getItem_list_neg (Q:=λr G=>r=w/\EP X n σ Q r G) e.isList Î Øl Î ŉk {rfl,a}) l
def z25:qw X (d8 X.K):=by
 intro c b f s σ H x y v u Q I l o h g;let{p,N,i,z,rfl,rfl,E,m,q}:=h;cases l;let{t,rfl}:=o;let{k,r,e,O}:=Ϭ E;let{j,B,A,G,P,J}:=Dv m;let{w,n,d}:=ϟa A;let F:=ŷ;let L:=W1;let a:EP X f σ Q w s:={z,H,I,d,q}
 show ľd (x:=w) e.typeIs slot_tuple_getitem.lookup
  (getItem_tuple (j:=j) (Q:=λr C=>r=w/\EP X f σ Q r C) e Î Î (by rw[đ,<-F];show B) (by simpa using n) {rfl,a}) g
def z24:qw X d7:=by
 intro b a A s σ H x y v u Q I g l h e;let{z,i,c,rfl,rfl,w,k,q}:=h;let{t,rfl}:=g;let{B,rfl}:=l;let{j,d,n,p,m,f}:=Dv k;let o:ël=Ņ:=by simp[ϴh]
 rw[o]at d m f;let r:=W1
 show tail_any (Ϫh s z t) slot_str_getitem.lookup (getItem_str (c:=c) (by let e1:decide (i < -(2 ^ 63:Ê))=Å:=ϣ Î;let e2:decide (i≥2 ^ 63)=Å:=ϣ Î;rw[e1,e2,Bool.or_false]) (by rw[d];simpa using n) {.str {#[c]},H,Ž _,{_,rfl},q}) e
def GN(K:Ï):R2:=λx y H Q=>c_ K x y H Q\/d8 K x y H Q\/d7 x y H Q
def z23:qw X (GN X.K):=aT.or (z25.or z24)
def z3f(its:Á Value)(n j:Ä)(u:Value):Ěb (·.setIfInBounds j u) { cls:=.type Ĝ,Č:=.seq ϲ n }={ cls:=.type Ĝ,Č:=.seq (its.set j u).toArray n }:=by simp[Ěb]
theorem zD.lst{a:Á ô}{σ:St}{H:Hp}{s:Í}{p:Ë}{xs:Á V}(I:zD X a σ H s)(h:H p=À ða) :∃(its:Á Value) (n:Ä),zk xs its/\ö p=À { cls:=.type Ĝ,Č:=.seq ϲ n }/\ë<=á:=by let{z,its,n,r,e}:=Ď p _ h;show{its,n,r,e,z}
def zD.lP{d:Á ô}{σ:St}{H:Hp}{s:Í}{p:Ë}{xs ys:Á V}{its Ńa:Á Value}{n a:Ä}{f:Obj->Obj}(I:zD X d σ H s)(h:H p=À ða)(i:ö p=À { cls:=.type Ĝ,Č:=.seq ϲ n })(c:f { cls:=.type Ĝ,Č:=.seq ϲ n }={ cls:=.type Ĝ,Č:=.seq őh a })(r:zk ys Ńa)(hz:ş<=á)(t:Ä) :zD X d σ (upd H p ϻb) { s with ä:=Ϯb p f,Ě:=t }:=by
 let e:(Ϯb p f).get? p=À { cls:=.type Ĝ,Č:=.seq őh a }:=by rw[ňb f i (by rw[c]<;>rfl),c]
 refine Ĉe (x:=p) (e:=p) (by rw[h];trivial) Ũ (λb u g q=>(Ϭm).trans q) {_,e} ?_;show{hz,Ńa,a,r,e}
def dB:V->V->V->Hp->Ϫo->Æ:=λo i v H Q=>∃p xs k j,o=.ref p/\i=.int k/\H p=À ða/\ZW ë k=À j/\Q (Ηb (xs.set j v))
def eE:Do X dB:=by
 intro C s σ H o i v J G u Q I w B A h;let{p,x,k,j,rfl,rfl,l,y,q}:=h;cases w;let{t,rfl}:=B;let{a,n,r,e,z}:=I.lst l;let{b,F,f,m}:=aS y;let d:=ŷ;let E:=W1
 let g:zD X C σ (Ηb (x.set j v)) { s with ä:=Ϯb p (Ěb (·.setIfInBounds j u)) }:=
  I.lP l e (z3f a n j u) (r.set A j) (by rw[Þa];show z) ě
 by_cases h0:0<=k;let c:ň=j:=by rw[źh h0 m]at b;show īa b
 show W.ki_setAt e h0 Î (by rw[đ,<-d];show m) Žk;let c:(k+(ϱb:Ê)).toNat=j:=by rw[Ŏh Î f]at b;rw[đ,<-d];show īa b
 show W.ki_setBack e Î (by rw[đ,<-d];show f) Î Žk
def y5e(lo hi:É Ê)(n:Ä):Æh.1=((ę n 0 lo:Ä):Ê)/\Æh.2.1=((ę n n hi:Ä):Ê)/\Æh.2.2=1:=by
 show{?_,?_,rfl};cases lo with
 |Â=>simp[Źd,ę]|À i=>simp only[Źd,ę,Ϫl,show(1:Ê)>0 by decide,ĭ];by_cases h:i<0;simp only[h,ĭ];rw[ęc ķj,õn,<-Úh];simp only[h,ŕ];let{k,rfl}:=όc (ϥb h);rcases þf k n with q|q;rw[Īa,Őa q,ęc Ϭf];show ϧc ϵi;rw[Īa,Áf q,Ûh Ϭf];show ϧc (Ŷc n)
 cases hi with
 |Â=>simp[Źd,ę]|À i=>simp only[Źd,ę,Ϫl,show(1:Ê)>0 by decide,ĭ];by_cases h:i<0;simp only[h,ĭ];rw[ęc ķj,õn,<-Úh];simp only[h,ŕ];let{k,rfl}:=όc (ϥb h);rcases þf k n with q|q;rw[Īa,Őa q,ęc Ϭf];show ϧc ϵi;rw[Īa,Áf q,Ûh Ϭf];show ϧc (Ŷc n)
def y5d(its:Á Value)(lo hi:É Ê):ěo ϲ lo hi Â=((its.drop (ę éb 0 lo)).take (ę éb éb hi-ę éb 0 lo)).toArray:=by let{a,b,c}:=y5e lo hi its.toArray.size;unfold ěo;rw[a,b,c];simp only[ĳm,ĸi,đ]<;>rfl
def dC(K:Ï):V->É Ê->É Ê->Hp->VK->Æ:=λx c b H Q=>∃a xs,x=.ref a/\yQ K H a xs/\∀p,H p=Â->Q ύ (Ηb (YW xs c b))
def y59:k9 X (dC X.K):=by intro y s σ H x v u z e f t Q I n i j m h;let{a,c,rfl,k,q}:=h;cases n;let{l,r,g,p}:=ű k;let d:=ŷ;show{Ĝ,_,ĺk,g.isList.typeIs,?_};refine wpAny_getItem_list_slice g.isList i j m .none ü ?_ Øl;rw[y5d,<-d];show{.ref Ý,_,Çb (t':=ě) (o:=.lst (YW c e f)) (λb w q=>Ġ _ q) ğ ?_,rfl,q _ æd};show{Ĳ (AK c e f) p,_,0,(âj (ę Ϻa 0 e)).take (ę Ϻa Ϻa f-ę Ϻa 0 e),ť _ rfl}
nonrec def qQ:V->Ò
 |.zI=>Ã|.bl _=>Ã|.int _=>Ã|.str _=>Ã|_=>Å
nonrec def uy:V->V->Ò
 |.zI,.zI=>Ã|.bl a,.bl b=>a==b|.bl a,.int b=>Öl==b|.int a,.bl b=>a==ϛe|.int a,.int b=>a==b|.str a,.str b=>a==b|_,_=>Å
def Ab{A:è}{s:Í}{y x:V}{u v:Value}(f:zu y u)(c:zu x v)(g:qQ y=Ã)(e:qQ x=Ã):ĝb A s u v (uy y x):=by
 cases y with
 |zI=>
  cases f;cases x with
  |zI=>cases c;show Ŷg _|bl b=>cases c;show SeqAt.EqAt.none_bool b|int b=>let{t,rfl}:=c;show SeqAt.EqAt.none_int b t
  |str b=>let{t,rfl}:=c;show SeqAt.EqAt.none_str b t
  |_=>show Þ (show Å=Ã from e) ŀ
 |bl a=>
  cases f;cases x with
  |zI=>cases c;show SeqAt.EqAt.bool_none a|bl b=>cases c;show SeqAt.EqAt.bool_bool a b|int b=>let{t,rfl}:=c;show SeqAt.EqAt.bool_int a b t
  |str b=>let{t,rfl}:=c;show SeqAt.EqAt.bool_str a b t
  |_=>show Þ (show Å=Ã from e) ŀ
 |int a=>
  let{d,rfl}:=f;cases x with
  |zI=>cases c;show SeqAt.EqAt.int_none a d|bl b=>cases c;show SeqAt.EqAt.int_bool a d b|int b=>let{t,rfl}:=c;show SeqAt.EqAt.int_int a d b t
  |str b=>let{t,rfl}:=c;show ĥl a d b t
  |_=>show Þ (show Å=Ã from e) ŀ
 |str a=>
  let{d,rfl}:=f;cases x with
  |zI=>cases c;show SeqAt.EqAt.str_none a d|bl b=>cases c;show SeqAt.EqAt.str_bool a d b|int b=>let{t,rfl}:=c;show ģl a d b t
  |str b=>let{t,rfl}:=c;show SeqAt.EqAt.str_str a d b t
  |_=>show Þ (show Å=Ã from e) ŀ
 |_=>show Þ (show Å=Ã from g) ŀ
def uM(x:V)(u:Value):Ò:=match u with
 |.none=>uy .zI x|.bool b=>uy ób x|.int i _=>uy Ěa x|.str z _=>uy Ųi x|_=>Å
def OM{x y:V}{u:Value}(r:zu y u)(f:qQ y=Ã):uM x u=uy y x:=by
 cases y with
 |zI=>cases r;rfl|bl b=>cases r;rfl|int i=>let{t,rfl}:=r;rfl
 |str z=>let{t,rfl}:=r;rfl
 |_=>show Þ (show Å=Ã from f) ŀ
theorem Tc{x:V}:∀{xs:Á V}{us:Á Value},zk xs us->Ğe qQ=Ã->us.any Ϙa=xs.any λy=>uy y x
 |_,_,.nil,_=>rfl|y::xs,u::us,.cons r t,f=>by rw[Ő,ć]at f;rw[ϸc,ϸc,OM r f.1,Tc t f.2]
theorem W5{A:è}{s:Í}{x:V}{v:Value}(b:zu x v)(c:qQ x=Ã):∀{xs:Á V}{us:Á Value},zk xs us->Ğe qQ=Ã->∀u∈us,ĝb A s u v (uM x u)
 |_,_,.nil,_=>λu a=>by cases a|y::xs,u::us,.cons r t,f=>λd a=>by rw[Ő,ć]at f;rcases ř a with rfl|a;rw[OM r f.1];show Ab r b f.1 c;show W5 b c t f.2 d a
def Oq(x:V)(xs:Á V):Ò:=xs.any λy=>uy y x
def GL(K:Ï)(a:Ò):R2:=λx y H Q=>∃p xs,y=.ref p/\(yQ K H p xs\/yf K H p xs)/\qQ x=Ã/\Ğe qQ=Ã/\Q (.bl (if a then !Oq x xs else Oq x xs)) H
def z9e:ya X Ôe (GL X.K Å):=by rw[ėp];rcases b with b|b;let{a,r,d,j}:=ű b;refine SeqAt.in_listAt Ϙa Ňi űe {.bl _,H,I,rfl,?_};rw[Øp];let{a,r,d,j}:=Ϭ b;refine SeqAt.in_tupleAt Ϙa d űe {.bl _,H,I,rfl,?_};rw[Øp]
def z9k:ya X āf (GL X.K Ã):=by rw[ėp];rcases b with b|b;let{a,r,d,j}:=ű b;refine SeqAt.notIn_listAt Ϙa Ňi űe {.bl _,H,I,rfl,?_};rw[Øp];let{a,r,d,j}:=Ϭ b;refine SeqAt.notIn_tupleAt Ϙa d űe {.bl _,H,I,rfl,?_};rw[Øp]
def z9l:ya X āf (Ψc (!(!(Şe j i 0 Ča 1).isEmpty))):=by rw[ġp];show notIn_str {.bl _,H,I,rfl,q}
def rB:wM X Ϫc (λxs H Q=>∃p ys,xs=Òc/\Ńg/\Q Òi H):=by intro k s σ H xs i Q I r h;let{p,ys,rfl,b,q}:=h;let{u,rfl,f}:=vg r;cases f;let j:=W1;rcases b with b|b;let{e,d,c,g}:=ű b;let a:=Ţa;show Calls.call_len_list c.isList ņd {.int ş,H,Ž _,{ě+1,by rw[đ,a]},q};let{e,d,c,g}:=Ϭ b;let a:=Ţa;show len_tuple c ņd {.int ş,H,Ž _,{ě+1,by rw[đ,a]},q}
def rC:wM X Ϫc (λxs H Q=>∃z,xs=[.str z]/\Ņ<=á/\Q Ēo H):=by intro c s σ H xs a Q I r h;let{z,rfl,d,q}:=h;let{u,rfl,t,rfl}:=vg r;let b:=W1;show len_str Î {.int Ņ,H,Ž _,{_,rfl},q}
def wM.or{f:Value}{r c:Á V->Hp->VK->Æ}(h:wM X f r)(h':wM X f c):wM X f (λxs H Q=>r xs H Q\/c xs H Q):=by intro d s σ H xs b Q I a q;rcases q with q|q;show h d s σ H xs b Q I a q;show h' d s σ H xs b Q I a q
def rE:wM X âa (λxs H Q=>∃p ys,xs=Òc/\Ńg/\∀l,H l=Â->Q Þc Ân):=by
 intro A s σ H xs B Q I r h;let{p,ys,rfl,j,q}:=h;let{u,rfl,z}:=vg r;cases z
 have i:∀(a:Á Value),zk ys a->ş<=á->∀(c:Heap)(d:Ä),(∀b o',ö b=À o'->Ûg b=À o')->
   Ûg Ý=À { cls:=.type Ĝ,dict:=Â,Č:=.seq ώa d,ϋb:=#[] }->EP X A σ Q ţb { s with ä:=c }:=λa f k c d g e=>
  {.ref Ý,_,Çb (t':=ě) g ğ (show yj ì X.w _ c _ ϻb from{k,a,d,f,e}),rfl,q _ æd}
 rcases j with j|j;let{a,f,t,k}:=ű j;let m:=ϑa;let{o,v,y,n,x}:=t.isList;show ϓm p Ũ v y x ük ņd;let{a,f,t,k}:=Ϭ j;let m:=ϑa;let{o,v,y,n,x}:=t;show ϓm p Ĝc v y x ük ņd
def OE:wM X řa (Θd ((yQ X.K H p ys/\∀l,H l=Â->Q Þc Án)\/(yf X.K H p ys/\Q ύ H))):=by
 intro j s σ H xs x Q I r h;let{p,ys,rfl,h}:=h;let{u,rfl,t}:=vg r;cases t;rcases h with⟨g,q⟩|⟨g,q⟩;let{a,f,d,k}:=ű g;let m:=ϑa;show call_tuple_list Ňi (λc n=>?_) ņd;let i:zD X j σ H { s with ä:=c }:=íc (t':=ě) n
 let v:zD X j σ (upd H Ϩc ϴd) { s with ä:=c.push { cls:=.type Œ,Č:=.seq ώa } }:=
  i.laid (t':=ě) (λb o e=>Ġ _ e) ğ (show yj ì X.w _ _ _ ϴd from{k,a,f,õi _ _})
 show{.ref Ϩc,_,v,rfl,q _ (i.zU.fresh ğ)};let{a,f,d,k}:=Ϭ g;show call_tuple_same d {.ref p,H,I,rfl,q}
def NI(K:Ï)(T:Ż)(x:V)(H:Hp):Æ:=match x with
 |.str _=>T = Ĵe|.int _=>T = ĺb|.ref p=>(T = Ĝ/\∃xs,yQ K H p xs)\/(T = Œ/\∃o,Ÿ p=À o/\Ça=.type Œ/\ĥe=Â) \/
   (T = ϗ/\((∃kvs,H p=À Ł)\/∃kvs,H p=À ūb))\/(T = ſb/\∃S n,H p=À (.set S n))
 |_=>í
def fS{m:Á ô}{σ:St}{H:Hp}{s:Í}{T:Ż}{x:V}{v:Value}(I:zD X m σ H s)(r:zu x v)(f:NI X.K T x H) :îb v T/\∀a,v=.ref a->∃ob,ö a=À ob/\ob.dict=Â:=by
 cases x with
 |str z=>let{t,rfl}:=r;cases(show T = Ĵe from f);show{Ϫh s z t,λ_ e=>nomatch e}
 |int i=>let{t,rfl}:=r;cases(show T = ĺb from f);show{Àf s i t,λ_ e=>nomatch e}
 |ref p=>
  cases r;rcases f with⟨rfl,u,k⟩|⟨rfl,o,b,q,h⟩|⟨rfl,b⟩|⟨rfl,S,n,b⟩;let{l,_,j,_}:=ű k;show{j.isList.typeIs,λa e=>?_};cases e;let{o,n,e,c,h,_}:=j;show{o,e,h};show{{o,ŝ p o b,q},λa e=>?_};cases e;show{o,ŝ _ o b,h};let z:∃o,ö p=À o/\ŉn:=by rcases b with⟨g,b⟩|⟨g,b⟩;rw[Œp];rw[Œp]
  let{o,e,d}:=z;rw[ķp];let{o,_,_,_,e,d,_}:=Ď p _ b;rw[ķp]
 |_=>show ń f
nonrec def fG(K:Ï)(T:Ż)(r:V->Á V->Hp->VK->Æ)(b:TE):TE:=λσ H Q=>b σ H λx a=>NI K T x a/\r x [] a Q
nonrec def fF(K:Ï)(T:Ż)(r:V->Á V->Hp->VK->Æ)(c:TE)(t:TA):TE:=λσ H Q=>c σ H λx a=>NI K T x a/\t σ a λd b=>r x d b Q
variable{o e:Ñ}{es:Á Ñ}{to:TE}{t:TA}{Į:Ç}{ž Ų:Pos}{T id:Ż}{r:V->Á V->Hp->VK->Æ}
def z9z(n:ěf T)(c:Slot T Į id)(e:ġe áb=pure ŧe)(l:VA X id r)(u:PE X o to)(a:Ì ōe q12)(b:Ì Ņa q12):PE X şo (fG X.K T r to):=by rw[ϧp];show Ţe a b (zn (u i s σ H _ I h) λv q d=>?_);let{x,p,f,g,k,m}:=d;let{j,t}:=fS f g k;show{T,id,n,c,e,j,t,żc rfl (Œj (l i q σ p x [] v [] Q f g .nil m))}
def z9y(F:ěf T)(f:Slot T Į id)(i:ġe áb=pure ŧe)(B:VA X id r)(P:PE X o to)(w:PA X ă t)(b:Ì ōe q12)(g:((Ÿb Ų (ĉb ă Ó)).all ϔh&&(Ϩj).all Žl
   && decide ((ă).length+([]:Á ϡf).length+ųj<30))=Ã:=by rfl)
  (c:Ì Ņa q12)(n:Ì ýc q12)(a:Ì ((Ÿb Ų šh).any (·.1)=Å) q12) :
  PE X ώk (fF X.K T r to t):=by
 rw[Ϧp];show wpAny_Call_method_late b g c rfl (zn (P j s σ H _ I h) λv N d=>?_);let{x,J,l,m,z,C}:=d;let{p,O}:=fS l m z;show{T,id,F,f,i,p,O,?_};let k:=w Ų j N σ J _ l C;rw[n]at k ⊢;refine żc (by exact(Å||(Ÿb Ų šh).any (·.1))=Å;rw[a]<;>rfl) (Ŕg ?_);show zn k λu E d=>?_
 let{G,A,L,y,q}:=d;show B j E σ A x G v u Q L m y q
#print a
def Iz(X:Cx)(a:Ż)(r:V->Á V->Hp->VK->Æ):Æ:=
 ∀(z0:Á ô) (s:Í) (σ:St) (H:Hp) (x:V) (xs:Á V) (v:Value) (us:Á Value) (Q:VK),zD X z0 σ H s->zu x v->zk xs us->r x xs H Q->
  Õ ā X.A Čk ϫa ĥ s
def zk.one{x:V}{us:Á Value}(h:zk [x] us):∃u,us=[u]/\zu x u:=by cases h with|î r t=>cases t;show{_,rfl,r}
def zk.zero:∀{us:Á Value},zk [] us->us=[]
 |_,.nil=>rfl
theorem zk.rep{xs:Á V}{us:Á Value}(h:zk xs us):∀k:Ä,zk (Üo).flatten (Ů k us).flatten
 |0=>.nil|k+1=>by rw[Ďc,Ďc,ϟc,ϟc];show ĵf h (zk.rep h k)
theorem Ap(its:Á Value):∀(k:Ä)(acc:Á Value),
  Õd (λx1 x2=>x1++x2) őn (Ů k ϲ)=(acc++(ŵn).flatten).toArray
 |0,acc=>by simp|k+1,acc=>by
  let e:őn++ϲ=(Ìi).toArray:=by simp
  let e2:Ìi++(ŵn).flatten=acc++(Ů ĸ its).flatten:=by rw[Ďc,ϟc,Ř]
  rw[<-e2,<-Ap its k Ìi,<-e,Ďc,ùm]
section
variable{X:Cx}{z0:Á ô}{σ:St}{H:Hp}{s:Í}{l b:Ë}{xs ys:Á V}
def zD.Ut{its Ńa:Á Value}{n:Ä}{f:Ú Value->Ú Value}{t':Ä}(I:zD X z0 σ H s)(d:H l=À ða)(e:ö l=À { cls:=.type Ĝ,Č:=.seq ϲ n })(c:f ϲ=őh)(hv:zk ys Ńa)(hz:ş<=á) :zD X z0 σ Ân { s with ä:=Ϯb l (Ěb f),Ě:=t' }:=by let q:=PySem.IsL.update e f;rw[c]at q;refine Ĉe (x:=l) (e:=l) (by rw[d];show trivial) Ũ (λg u b a=>(ůc Ü (Ěb f) (Ľa b)).trans a) {_,q} ?_;show{hz,Ńa,_,hv,q}
def zD.Pl{its:Á Value}{t':Ä}(I:zD X z0 σ H s)(hv:zk ys its)(hz:ş<=á) :zD X z0 σ (upd H Ý ϻb) { s with ä:=Ŋa { cls:=.type Ĝ,Č:=.seq ϲ },Ě:=t' }:=
 Çb ϰg ğ {hz,its,0,hv,ť _ rfl}
theorem zD.fresh(I:zD X z0 σ H s):H Ý=Â:=ďb ğ
def zD.XS(I:zD X z0 σ H s)(a:H l=À ða):ë<=á/\∃(its:Á Value) (n:Ä),zk xs its/\ë=éb/\ö l=À { cls:=.type Ĝ,Č:=.seq ϲ n }:=by let{z,its,n,r,e}:=Ď l _ a;show{z,its,n,r,ŷ,e}
def LN{n:Ä}(h:n<=á):Ŝe n=Å:=by unfold Ŝe;show ϣ Î
#print a
section
variable{X:Cx}
def y1u:V->Á V->Hp->VK->Æ:=λx a H Q=>∃l xs y,x=.ref l/\a=[y]/\H l=À ða/\ë<á/\Q .zI (ξa ώo)
def z45:Iz X žm y1u:=by rw[Ϭp];let{l,i,y,rfl,rfl,b,o,q}:=h;cases d;let{u,rfl,c}:=f.one;let{z,a,n,r,k,e}:=ŭc b;refine Čb F.slot_list_append {_,e,rfl} F.entry_list_append (F.args_list_append_2 _ _) (PySem.list_append l ώa n u ũd) {e,?_};refine{.zI,_,I.Ut (Ńa:=a++[u]) b e ü (Ôd (.cons c .nil)) ?_,rfl,q};rw[ï,Ðb];omega
def y1z:V->Á V->Hp->VK->Æ:=λx a H Q=>∃l b xs zs,x=.ref l/\a=[.ref b]/\H l=À ða/\H b=À Äp/\ë+Ĵf<=á/\Q .zI đh
def z48:Iz X Žm y1z:=by
 intro J s σ H x B v w Q I j m h;let{l,b,A,E,rfl,rfl,g,k,C,q}:=h;cases j;let{u,rfl,i}:=m.one;cases i;let{z,c,n,r,G,e}:=ŭc g;let{y,a,t,o,p,e2}:=ŭc k;let f:ϲc+ϱb<=á:=by rw[ŋp]
 let d:¬ Ĕg=Ã:=by rw[LN f,ϋd];show ŀ
 refine Čb ĭl {_,e,rfl} ôl ģk
  (AutoSeq1.list_extend_list_list_0 l ád n b ώa t d ũd Î) {e,e2,?_}
 refine{.zI,_,I.Ut (Ńa:=c++a) g e ü ϫi ?_,rfl,q};rw[ϩp]
def y1v:V->Á V->Hp->VK->Æ:=λx a H Q=>∃l xs,x=.ref l/\a=[]/\H l=À ða/\Q .zI (upd H l ìd)
def z46:Iz X "list.clear" y1v:=by rw[Ϭp];let{l,i,rfl,rfl,c,q}:=h;cases d;let b:=f.zero;subst b;let{z,a,n,r,k,e}:=ŭc c;refine Čb F.slot_list_clear {_,e,rfl} F.entry_list_clear (F.args_list_clear_1 _) (AutoSeq1.list_clear_list_0 l ώa n ũd) {e,?_};show{.zI,_,I.Ut (Ńa:=[]) (ys:=[]) c e rfl .nil ϱf,rfl,q}
def y24:R2:=λx y H Q=>∃l k xs,x=.ref l/\y=.int k/\H l=À ða /\ -Űi<=k/\k<2 ^ 63/\ë*ň<=á/\
 ∀p,H p=Â->Q ύ (γ (.lst (ün).flatten))
def ah{α:Type}(xs:Á α)(k:Ä):(Üo).flatten.length=k*ë:=by
 induction k with
 |ſ=>simp|ϊ k ih=>rw[Ďc,ϟc,ï,ih,Nat.succ_mul,Äd]
theorem z9m:ya X ϒh y24:=by
 intro N s σ H x y v u Q I A B h;let{l,k,L,rfl,rfl,w,E,C,p,q}:=h;cases A;let{t,rfl}:=B;let{z,b,n,r,J,e}:=ŭc w;have g:ſa*ň<=á:=by rw[đ,<-J];show p
 let f:¬ ſa*ň>Āo/8:=by
  let:(á:Ä)<=Āo/8:=by decide
  omega
 let d:¬ (!Builtin.List.listFitsIndex k)=Ã:=by rw[fitsIndex_both E C];show ŀ
 let c:¬ Ŝe (ſa*ň)=Ã:=by rw[LN g];show ŀ
 let i:Õd ϵm #[] (Ů (if b.toArray.isEmpty=Ã then 0 else ň) ĸa)=(Ů ň b).flatten.toArray:=by
  let K:∀m:Ä,Õd ϵm #[] (Ů m ĸa)=(Ů m b).flatten.toArray:=λm=>by let:=Ap b m [];rw[îh]at this;show this
  rw[K];cases b with
  |nil=>simp|î a r'=>rw[Ø ü]
 refine wpAny_binaryOp_repeat_ref (T := Ĝ) (U := ĺb) Û {_,e,rfl} (λG=>Àf G k t) noFill_list_mul F.fills_int_mul ým repeat_list F.slot_int_index.lookup
  (Čb ým (Àf s k t) F.entry_int_rmul (F.args_int_rmul_2 _ _) (int___rmul___int_list k t l ĸa n)
   {e,rfl,{_,e,rfl},Čb F.slot_list_mul {_,e,rfl} F.entry_list_mul (F.args_list_mul_2 _ _) (AutoListH.list___mul___list_int_3 l ĸa n k t d f c) {e,?_}})
 rw[i];show{.ref _,_,I.Pl (t':=ě) (r.rep ň) (by rw[ah,ðn];show p),rfl,q _ ĉe}
#print a
#print L2
namespace Att
open č Ϡf PySem.Calls ď
def z1v{P:ßg}{h:Heap}:∀(ns:Á Ê)(vs:Á Value),WellAll P h vs ďc->Ŵb vs ns:=by
 intro ns
 induction ns with
 |nil=>intro vs w;rw[ñn]at w;cases w;show .nil|î n ns ih=>
  intro vs w;rw[ϰ]at w;cases w with
  |î a b=>cases a;show .cons _ _ (ih _ b)
def script_of{l:OpenLaw}{n:Ä}(s:èj=À n){P:ßg}{h:Heap}{ų:Á WData}{b:Á Value}(c:l.row.toRowW.claim.pre ų=Ã)(j:WellAll P h b ų) :∃a vs ns,b=[ÿ a]/\ų=[WData.list ďc]/\Ć a=À { cls:=.type Ĝ,Č:=.seq Ìa }/\Ŵb vs ns/\Ŷ<=n:=by
 let i:WShape.hasAll [] ų [.list .int]=Ã:=Ům.1;let k:l.pre.holds [] { ų:=ų }=Ã:=Ům.2;let{d,r,rfl,m,t}:=hasAllW_cons i;obtain rfl:=hasAllW_nil t;let{u,rfl,o}:=hasW_list m;let{ns,rfl}:=items_int o
 let e:Ŷ<=n:=by
  unfold OpenLaw.pre at k
  let g:(WTm.not (.lt (.lit (.int (n:Ê))) (.len (.arg 0)))).holds [] { ų:=[.list (Þb .int)] }=Ã:=by let g:=(holds_andW k).1;rw[s]at g;show g
  let f:=condW_of g (w_not (w_lt w_lit (w_len_list (w_arg rfl))));rw[þ]at f;show Nat.le_of_not_lt λq=>?_
  let p:(n:Ê)<((Ŷ:Ä):Ê):=by omega
  first
   |(rw[Ĵ p]at f;show Þ f Û)
   |(simp at f;omega)
 cases j with
 |î w1 w2=>
  cases w2;cases w1 with
  |list ho hall=>show{_,_,ns,rfl,rfl,ho,z1v ns _ hall,e}
def post_true(l:OpenLaw)(ų:Á WData):l.row.toRowW.claim.post ų ĕf ų=Ã:=
 postW_of (r:=Őh) (X:=Þo)
  (show Éo [] ĕf .bool=Ã by first|rfl|decide|simp[Éo,WShape.arms,WShape.armsAll])
  (show(WTm.eq .res (.lit ĕf)).value [] { ų:=ų,res:=À ĕf,after:=ų }=À (.bool Þo)from w_eq_bool (w_res rfl) w_lit) rfl
#print Att
namespace L2
open č Ĕ ď
theorem f_:∀{vs:Á Value}{ns:Á Ê},Ŵb vs ns->zk Œa vs
 |_,_,.nil=>.nil|_,_,.cons n t h=>.cons {t,rfl} (f_ h)
def SK(H:Hp):Æ:=∀b,H b=Â\/∃o xs,H b=À Ϫn
def z2x{P:à}{w:ß}{K:Ï}{I S:Ç->É Value}{CX:jN}{k:Ä}{R a:Ë}{X:ĝ}{x:Ç}{sp:Sp}{c:Í}{vs:Á Value}{ns:Á Ê}(KX:İ Řc)(E:êi õ I)(g:êi Ϯh S)(Q:∀x:Ç,x ≠ Ęf->S x=Ś x)(B:c.heap.NoLimit)(hg:c.gens=#[])(L:Íd a=À { cls:=.type Ĝ,Č:=.seq Ìa })(hi:Ŵb vs ns)(hl:Ŷ<=á)(hr:yG k Đd)(F:∀È:Heap,İ È->đd õ I->yT P w K I È CX k R X [x] sp)(l:∀(s:Í)(u:Value),Ġa s X {[u],[]} [(x,u)])(O:∀H:Hp,SK H->yQ K H a Œa->sp Ãa H Ķl λ_ _ _=>í)(T:∀H e s',CX [] H c (λ_ _ _=>í) e s'->í) :ďa Řa Đd Ķk Ĭj c:=by
 let Z:=f_ hi;let y:=hi.length
 have j:∀H:Hp,SK H->yQ K H a Œa->xW P w H Řc->(∀b,H b≠Â->b=a)->(H a≠Â->Ÿ a=Â)->
   ďa Řa Đd Ķk Ĭj c:=by
  intro H hO hS Y hA hK;let f:∀{b:Ë}{o:Obj},Íd b=À o->H b=Â->(ϙd).get? b=À o:=λe n=>z1c e n
  let U:∀{b:Ë}{o:Obj}{J:Ú ġb}{p:Ä},Íd b=À o->Ϛ=.dict J p->H b=Â:=λ{b o J p} e d=>by
   cases q:H b with
   |Â=>rfl|À u=>have N:b=a:=hA b þh;subst N;rw[L]at e;cases e;let d':Data.seq Ìa _=Data.dict J p:=d;cases d'
  let i:∀{b:Ë}{m:Ç->É Value},êi b m->(ϙd).Ns b m:=λ{b m} ⟨o,J,p,e,d,r⟩=>{o,J,p,f e (U e d),d,r}
  let G:İ ϙd:=λb o e=>f (KX b o e) (by
   cases q:H b with
   |Â=>rfl|À u=>have N:b=a:=hA b þh;subst N;rw[hK þh]at e;cases e)
  let hM:Mod K I ϙd:={G,i E,{S,i g,Q},let ⟨mc,h1,h2⟩:=B;{mc,i h1,h2}};let e0:g6 P w K I ϙd Đd [] c H:={rfl,hM,λb o e=>z6m e,àb (z1d _ _),trivial,λb g=>Þ (show b∈([]:Á Ë)from g) ü,Y,.of_eq hg};show Ϥb ((F _ G (i E)).run Đd [] c H {Ãa,[]} Ãa Ãa _ _ hr e0 (l c ý) æh (O H hO hS)) λr s' h=>?_
  cases r with
  |şc e=>show(T H e s' h).elim|ok fl=>
   cases fl with
   |next=>show ń h|brk=>show ń h|ýa=>show ń h|ret u=>
    let{v,H',os,A,un,t,r',q}:=h;let q':v=.bl Ã:=q;subst q';obtain rfl:u=Ěf Ã:=r';show{rfl,OldK.of_keep λb o e=>?_,os,A};cases q:H b with
    |Â=>show un.keep b o e q (by intro z;show Þ (show b∈([]:Á Ë)from z) ü) ü|À u=>
     rcases hO b with z|⟨ob,xs,z⟩
     .rw[q]at z;cases z
     .let z2:=un.vi b ob _ z;let{e1,_}:=Y b _ z;let{e2,_}:=t b _ z2;rw[e]at e1;cases e1;show e2
 cases hk:Ÿ a with
 |À o=>have e:=KX a o hk;rw[L]at e;cases e;refine j Æi (λ_=>.inl rfl) (.inr {_,Ìa,_,hk,rfl,rfl,rfl,by rw[đ,y];show hl,by simpa using Z}) (λb u z=>by let C:(Â:É HO)=À u:=z;cases C) (λb z=>Þ rfl z) λz=>Þ rfl z|Â=>show j (λb=>if b=a then À (.zz { cls:=.type Ĝ,Č:=.seq Ìa } (.lst Œa))else Â) (λb=>?_) (.inl (.inr {{ cls:=.type Ĝ,Č:=.seq Ìa },Ö rfl})) (λb u z=>?_) (λb z=>?_) λ_=>hk;by_cases g:b=a;show .inr {_,_,Ö g};show .inl Ϲi;by_cases g:b=a;let C:=(Ö g).symm.trans z;cases C;subst g;show{L,by rw[þ];show hl,vs,_,Z,L};let C:=(Ϲi).symm.trans z;cases C;by_cases g:b=a;show g;show Þ Ϲi z
nonrec def j5(s:Ô)(j:Ä):Ô:=match s with
 |.ClassDef _ _ _ ńa _ _ _ _ _ _ _=>body.getD j ϛl|_=>.Pass {0,0,0,0}
nonrec def uK(s:Ô):øi:=match s with
 |.FunctionDef _ a _ _ _ _ _ _ _ _=>a|_=>{ posonlyargs:=[],ų:=[],vararg:=Â,kwonlyargs:=[],kw_defaults:=[],kwarg:=Â,defaults:=[] }
nonrec def xf(s:Ô):Á Ô:=match s with
 |.FunctionDef _ _ b _ _ _ _ _ _ _=>b|_=>[]
nonrec def zP(s:Ô):ϭ:=match s with
 |.FunctionDef _ _ _ _ _ _ sc _ _ _=>sc|_=>{ kind:=.function,ög:=[],isGenerator:=Å,isCoroutine:=Å }
abbrev yo:jN:=λ_ _ _ _ _ _=>í
abbrev E0:XK:=λ_ _ _=>í
def kY{X:Cx}:pU yo X E0:=λ_ _ _ _ _ _ _ h=>h.elim
structure Fun(K:Ï)(x ça:Ç)(st:Ô)(f:Ë)(fd:ĝ):Æ where
 ex:∃(oc:Value) (od:É Ë) (kV doc pm:Value) (an:É Ë) (cdv ct:Value) (osl:Ú ĉa),
  fd=Âb x ça Ëc ź ģ .none kV doc pm an cdv ct/\Ÿ f=À {oc,od,.func fd,osl}/\ϓa K cdv ça=Ã
 kp:ϕ K Đ=Ã
section
variable{P:à}{w:ß}{K:Ï}{mg:Ç->É Value}{È:Heap}
def Fun.ok{x a:Ç}{st:Ô}{f:Ë}{i:ĝ}{N ps:Á Ç}{k:Ä}{sp:Sp}(F:Fun K x a st f i)(S:zh N ps ģ)(d:∀vs H Q E,sp vs H Q E->ø=Ĉ)(c:∀(b:Value)(A:è)(é:Á Env)(s:Í)(H:Hp)(vs:Á V)(Q:VK)(E:XK),yG k Ĭk->sp vs H Q E->
   ∃t,wy (ūj).wZ ź t/\t { nx:=λ_ H'=>Q .zI H',rt:=Q } όa H):yT P w K mg È yo ĸ f i ps sp:=by
 let{p,o,kV,m,u,v,b,r,n,rfl,l,g}:=F.ex;show Q5 l g S d λA é s H vs Q E j e=>?_
 rw[Ŀp]
def Fun.binds{x a:Ç}{st:Ô}{f:Ë}{g:ĝ}{ps:Á Ç}(F:Fun K x a st f g)(h:∀(kV b d:Value)(e:É Ë)(c ct:Value)(us:Á Value),ũ=Ĉ->ūf (Âb x a Ëc ź ģ .none kV b d e c ct) {us,[]}=pure Ŝb):xN K g ps []:=by let{m,l,kV,b,d,e,c,ct,i,rfl,k,j}:=F.ex;show .all (h kV b d e c ct)
def Aq{x a:Ç}{st:Ô}{f:Ë}{i:Value}{j h:É Ë}{e:Ú ĉa}{kV d g b ct:Value}(l:Ÿ f=À {i,j,.func Šj,e})(c:ϓa K b a=Ã)(k:ϕ K Đ=Ã):Fun K x a st f Šj:={{i,j,kV,d,g,h,b,ct,e,rfl,l,c},k}
#print a
def zV{A:è}{k:Ä}(a:yG k A):äa+1<ϒ:=ĩa (Žc (by decide:1<=64) _) a.units
def y5f{n:Ä}(h:n<=1000):n<á:=ĩa h Û
def ud{A B:Æ}(h:B):if Å=Ã then A else B:=by rw[Ø ŀ];show h
def ue{A B:Æ}(h:A):if Ã=Ã then A else B:=by rw[Ö rfl];show h
def zg(H H':Hp):Æ:=∀b o,H b=À o->H' b=À o
def ĵa(H:Hp):zg H H:=λ_ _ h=>h
def zg.trans{H d e:Hp}(a:zg H d)(b:zg d e):zg H e:=λc o h=>b c o (a c o h)
def zg.free{H H':Hp}(e:zg H H'){l:Ë}(h:H' l=Śn):H l=Śn:=by
 cases q:H l with
 |Â=>rfl|À o=>rw[e l o q]at h;cases h
#print L2
set_option linter.all false
set_option maxRecDepth 100000
set_option maxHeartbeats 4000000
namespace L2
open č Ĕ ď
def Def(K:Ï)(a:Ç->É Value)(x:Ç)(st:Ô)(ps:Á Ç):Æ:=
 ∃(f:Ë) (fd:ĝ),Fun K x x st f fd/\a x=À Đ/\xN K fd ps []
def xE(P:à)(w:ß)(K:Ï)(a:Ç->É Value)(È:Heap)(x:Ç)(ps:Á Ç)(k:Ä)(sp:Sp):Æ:=
 ∃(f:Ë) (fd:ĝ),a x=À Đ/\ϕ K Đ=Ã/\xN K fd ps []/\yT P w K a È yo k f fd ps sp
def wN(a:Ç->É Value)(x:Ç)(v:V):Æ:=∃u,a x=À u/\zu v u
section
variable{P:à}{w:ß}{K:Ï}{mg:Ç->É Value}{È:Heap}
theorem Def.ok{x:Ç}{st:Ô}{N ps:Á Ç}{k:Ä}{sp:Sp}(d:Def K mg x st ps)(S:zh N ps ģ)(c:∀vs H Q E,sp vs H Q E->ø=Ĉ)(a:∀(f:Ë)(b:Value)(A:è)(é:Á Env)(s:Í)(H:Hp)(vs:Á V)(Q:VK)(E:XK),yG k (ıa (ļa x ģ Ý f b))->sp vs H Q E->
   ∃t,wy (u3 yo P w K mg È N x ģ f b A é s H E).wZ ź t/\t { nx:=λ_ H'=>Q .zI H',rt:=Q } όa H):xE P w K mg È x ps ĸ sp:=by
 let{f,g,F,h,e}:=d;show{f,g,h,F.kp,e,Ϸ S c (a f)}
#print a
section
variable{X:Cx}{x:Ç}{p pos:Pos}{e:Ñ}{es:Á Ñ}{t:TA}{ps:Á Ç}{j k:Ä}{sp:Sp}{v:V}{T:Ż}
nonrec def yN:Ñ->Ò
 |.Starred ..=>Å|_=>Ã
def vS{e:Ñ}{es:Á Ñ}{env:Env}(h:yN e=Ã):ĉb ă env=(Å,Ċ e env)::ĉb es env:=by cases e<;>first|rfl|cases h
theorem qe{env:Env}{pos:Pos}:∀{es:Á Ñ},es.all yN=Ã->(űk).any (·.1)=Å
 | [],_=>rfl|e::es,h=>by rw[Ő,ć]at h;rw[vS h.1];let a:=qe (env:=env) (pos:=pos) h.2;unfold Ÿb at a ⊢;rw[ϰ,ϸc,a];rfl
def kX{a:TE}(b:PE X e a)(c:PA X es t)(h:Ì ϥ q12):PA X ă (WU a t):=bu b c (vS h)
nonrec def O6:Ñ->É Ê
 |.Constant Ěa _ _=>À i|_=>Â
def mM{e:Ñ}{i:Ê}(h:O6 e=À i):∃k p,e=.Constant Ěa k p:=by
 cases e<;>first|(cases h;done)|skip
 rename_i c k p;cases c<;>first|(cases h;done)|skip
 cases h;show{k,p,rfl}
def QW:Á Ñ->É Ŏf
 | []=>À []|e::r=>(O6 e).bind λi=>(QW r).map (i::·)
theorem bv:∀{es:Á Ñ}{is:Á Ê},QW es=À is->PA X es (λ_ H Q=>Q (is.map Ķd) H)
 | [],is,h=>by cases(show À []=À is from h);show Zg|e::r,is,h=>by
  let q:((O6 e).bind λi=>(QW r).map (i::·))=À is:=h;cases e1:O6 e with
  |Â=>rw[e1]at q;cases q|À i=>
   rw[e1]at q;let{k,p,rfl}:=mM e1;cases e2:QW r with
   |Â=>rw[e2]at q;cases q|À js=>rw[e2]at q;cases(show À (i::js)=À is from q);show kX Eu (bv e2)
def Ql(h:xE ì X.w X.K â Ĥ x ps k sp)(g:yG j X.A)(d:Gl X x)(l:PA X ă t)(hk:Ì Ùa q10)(a:Ì Ģ q10)(c:Ì Ϣ q12):PE X ċa (UD sp [] E0 t):=by let{f,n,m,i,b,F}:=h;rw[Ő,ć]at c;show cA F ϝn d m i b .nil kY l a (vS c.1) (qe c.2)
def WF(h:wN â x v)(a:Gl X x)(c:Ì Ģ q10):PE X Ąa īe:=by let{u,b,r}:=h;show y09 a b r c
def y00(a:Gl X x)(c:â x=Â)(hv:Ś x=À ėa)(b:Ì ϩa q10)(d:Ì Ģ q10):PE X Ąa Ĕn:=
 z9x a c hv rfl b d
#print a
section
variable{X:Cx}
def WC:ya X (Ŗa .FloorDiv) ϴj:=WB λi j _ _ _ _ _ a q=>by let b:(0:Ê)<j:=a.1;let d:j<2 ^ 64:=a.2;let c:j.natAbs.log2<64:=(Ōo).mpr Î;show PyProof.Rows.floordiv_int Î (by rw[Ēk i Î];show q) (.inl (PyProof.noPylong_of_log2 Î))
#print a
def gB:Ś ðg=À Ϫc:=by rw[Ôp]
def OD:Ś ăa=À ώd:=by rw[Ôp]
def A5:Ś žb=À Ŷd:=by rw[Ôp]
def oX:Ś "all"=À ßm:=by rw[Ôp]
def oY:Ś ϛa=À żm:=by rw[Ôp]
def FP:Ś ĺb=À įa:=by rw[Ôp]
def oU:Ś ĝe=À ϊa:=by rw[Ôp]
def VH:Ś Ĝ=À âa:=by rw[Ôp]
def Ti:Ś Œ=À řa:=by rw[Ôp]
def z2h{K:Ï}:ç K įa įa=À Ã:=by rfl
def z2f{K:Ï}:ç K ϊa įa=À Ã:=by kernel_rfl
def z2g{K:Ï}:ç K įa ϊa=À Å:=by kernel_rfl
def z2e{K:Ï}:ç K ϊa ϊa=À Ã:=by rfl
def z2j{K:Ï}:ç K Ϛc įa=À Å:=by kernel_rfl
def z2i{K:Ï}:ç K Ϛc ϊa=À Å:=by kernel_rfl
def z2l{K:Ï}:ç K řa řa=À Ã:=by rfl
def z2k{K:Ï}:ç K ϭa ϭa=À Ã:=by rfl
def wP{H:Hp}{p:Ë}(h:H p=Â)(o:HO):zg H Īc:=λb u q=>by rw[zr (qU q h)];show q
def ĥa{n:Ä}(h:n<=1000):n<=á:=Àa (y5f h)
def YA(env:Env):Á ύa->Æ
 | []=>Ľb|p::r=>Óh p.1=À p.2/\YA env r
theorem YA.get{env:Env}:∀{cl:Á ύa} {y:Ç} {c:Ë},YA env cl->Ļf y=À c->Óh y=À c
 | [],_,_,_,h=>by cases h|(n,a)::r,y,c,hc,h=>by
  rw[Ŵd]at h;cases e:y==n with
  |Ã=>
   rw[e]at h;let d:y=n:=by rw[Ŷp]
   subst d;let b:a=c:=by rw[ϱp]
   subst b;show hc.1
  |Å=>rw[e]at h;show YA.get hc.2 Øb
nonrec def VG(a:ϭ)(env:Env)(b:Á ύa)(own:Á Ç):Ò:=
 żh λp=>p.1 != ("." : Ç)&&((p.2 == .local&&(öf p.1||p.1==(".0" : Ç)))||p.2 == .globalImplicit||p.2 == .globalExplicit ||
  (p.2 == .free&&(ĭc p.1==À .cell||ĭc p.1==À .free)&&(b.lookup p.1).isSome))
nonrec def Ëb(own:Á Ç)(y:Ç):Ç:=if öf y||y==(".0" : Ç)then "." else y
def wz(N own:Á Ç):Á Ç:=N.map (Ëb own)++own
theorem GS{env:Env}:∀{ög:Á (Ç×Ùc)} {y:Ç} {k:Ùc},
  (names.map λ(n,k)=>if(k==ϛm&&łm == .function&&ĭc n==À .cell)then(n,Ϝm)else(n,k)).lookup y=À k->∃k0,(y,k0)∈ög/\(k=k0\/(k0=.free/\k=.cell))
 | [],_,_,h=>by simp at h|(n,k')::r,y,k,h=>by
  rw[ϰ]at h;by_cases hc:(k'==ϛm&&łm == .function&&ĭc n==À .cell)=Ã;dsimp only at h;rw[Ö hc,Ŵd]at h;cases e:y==n with
  |Ã=>
   rw[Ϻp]
   subst a;let b:Ϝm=k:=by rw[ϱp]
   let c:k'=.free:=by rw[ć,ć]at hc;simpa using hc.1.1
   show{k',Ō,.inr {c,b.symm}}
  |Å=>rw[e]at h;let{k0,m,z}:=GS (env:=env) Øb;show{k0,Ϲ _ m,z}
  dsimp only at h;rw[Ø hc,Ŵd]at h;cases e:y==n with
  |Ã=>
   rw[Ϻp]
   subst a;let b:k'=k:=by rw[ϱp]
   show{k',Ō,.inl b.symm}
  |Å=>rw[e]at h;let{k0,m,z}:=GS (env:=env) Øb;show{k0,Ϲ _ m,z}
def wc(X:Cx)(a:ϭ)(b:Á ύa)(own:Á Ç)(C:Ë)(d:Í)(c:Hp)(e:Á Ë)(pn:Á ô):Cx:=
 { X with N:=wz X.N own,s₀:=d,H₀:=c,env:=compEnvC a b C Ó,é:=ķ,stack:=ķ,ex:=e,fn:=λ_=>Å,pn:=pn,xe:=λ_ _=>í }
section
variable{X:Cx}{z0:Á ô}{σ:St}{H2:Hp}{s2:Í}{ĳ:ϭ}{cl:Á ύa}{own:Á Ç}{C D:Ë}{fp:Á Ë}
def Sw(g:VG ĳ Ó cl own=Ã){y:Ç}{k:Ùc}(h:(ůd).names.lookup y=À k) :y ≠ "."/\((k=.local->öf y=Ã\/y = ".0")/\((k=.cell\/k=.free)->(∃k0,(y,k0)∈Ìd/\k0=.cell)\/(ϵj/\∃c,Ļf y=À c))):=by
 let{k0,m,z}:=GS h;let q:=ŋa g _ m;rw[ć]at q;let{f,e}:=q;refine{by simpa using f,λa=>?_,λa=>?_};rcases z with z|⟨_,z⟩;subst z;subst a;rw[Ŷp];rw[z]at a;cases a;let b:k0=.free\/k0=.cell:=by rcases z with z|⟨z,_⟩;subst z;rcases a with a|a;show .inr a;show .inl a;show .inl z
 rcases b with b|b;subst b
 right
 let d:((ϭb y==À .cell||ϭb y==À .free)&&(Ļf y).isSome)=Ã:=by rw[Ŷp]
 rw[ć]at d;show{?_,ăk d.2};let:=d.1;rw[Bool.or_eq_true]at this;rcases this with t|t;show .inl ŉl;show .inr ŉl;show .inl {k0,m,b}
def FK(b:VG ĳ Ó cl own=Ã)(a:∀y∈Ìd,y.2≠.cell){y:Ç}{k:Ùc}(h:(ůd).names.lookup y=À k)(hk:k=.cell\/k=.free) :ϵj/\∃c,Ļf y=À c:=by rcases(Sw b h).2.2 hk with⟨d,m,e⟩|q;show Þ e (a _ m);show q
def Sx(I:zD X z0 σ H2 s2)(hk:Ϭh=.function)(d:∀y∈Ìd,y.2≠.cell)(f:YA Ó cl)(k:VG ĳ Ó cl own=Ã)(j:Ēc<=C)(g:∀b∈fp,jP X z0 H2 b)(i:∀b∈fp,∃o,õf b=À o):(ϊj).Ok where
 mod:=ðe
 kind:=hk
 glob:=öi
 blt:=Ųf
 above:=j
 inj:=λx y c l n=>űf x y c (ýg l) (ýg n)
 has:=λx a=>by rcases a with a|a;show(FK k d (show(ůd).names.lookup x=_ from a) Ũ).2;show(FK k d (show(ůd).names.lookup x=_ from a) Ĝc).2
 Z_:=λx c h=>by cases h
 hd:=Ĝa
 éj:=Ñd
 XT:=.inl rfl
 XQ:=λb a=>{by let{o,e}:=i b a;show Ŕ (Ŧ įc j),λx c h=>Íj.2.2.2.2.1 x c (ýg h)}
 bs:=I.bs
 pO:=Ĳ Ēd I.sz
 Y3:=λb o e a=>by rcases(g b a).2.2.2.1 with z|z;show şf b o e z;show Þ (Ŧ įc (Ĳ Ēd z)) Åa
 Y1:=λb a m=>by rcases ř (I.Wr b m)with z|z;show Íj.2.1 z;show Íj.2.2.1 z
 tP:=ϟi
 jz:=I.IJ
def Ob{α:Type}{σ:Á (É α)}{n i:Ä}{v:α}(h:øh[i]?=À Ϗ):σ[i]?=À Ϗ:=by
 by_cases hi:i<σ.length;rw[Òb hi]at h;show h;rw[ńb Î,řk]at h
 split at h<;>cases h
def oR{H:Heap}{Z:Ç->É Value}{g:Obj}{tk:Ä}(I:zD X z0 σ H2 s2)(hk:Ϭh=.function)(q:∀y∈Ìd,y.2≠.cell)(j:YA Ó cl)(L:VG ĳ Ó cl own=Ã)(K:Ēc<=C)(hD:Ēc<=D)(U:D≠C)(O:∀b∈fp,jP X z0 H2 b)(T:∀b∈fp,∃o,õf b=À o)(f:∀b o,õf b=À o->H.get? b=À o)(ns:H.Ns C Z)(hd:H.get? D=À g)(Y:∀v,g.data≠.cell v) :zD ϊj [(D,g)] ϡc H2 { s2 with ä:=H,Ě:=tk }:=by
 let W:∀a,Ēc<=a->a ∉ xg ķ:=λa ha P=>by rcases ř (I.Wr a P)with z|z;show Þ (Ŧ I.lt ha) (by rw[z];show Ïb _);show I.Po ha z
 show{Sx I hk q j L K O T,rfl,đa,će f,{Z,ns,λi y v e1 e2 e3=>?_},λx c h=>?_,ďb K,λx c h=>ϣa x c (úg h),λp hp=>?_,Ļo f,?_};let A:σ[i]?=À Ϗ:=Ob e2
 let hi:i<ê:=by let:=(Ť A).1;rw[ŭa]at this;show this
 let s:Ĵk[i]?=À y:=e1;rw[Òb (by simpa using hi),Üa]at s;cases en:X.N[i]? with
 |Â=>rw[en]at s;cases s|À n=>
  rw[en]at s;let E:Ëb own n=y:=īa s
  let S:∃k,(ůd).names.lookup y=À k/\(k=.local\/k=.cell\/k=.free):=by rcases e3 with z|z|z;show{_,z,.inl rfl};show{_,z,.inr Ũ};show{_,z,.inr Ĝc}
  let{k,J,kk}:=S;let{nd,Q,_}:=Sw L J;unfold Ëb at E;by_cases G:(öf n||n==(".0" : Ç))=Ã;rw[Ö G]at E;show Þ E.symm nd;rw[Ø G]at E;subst E
  let F:k=.cell\/k=.free:=by
   rcases kk with z|z;exfalso
   apply G;rcases Q z with t|t;rw[t];rfl;subst t;simp;show z
  let{ok,c,hc}:=FK L q J F;let{m,hn,hl}:=Úa;let{u,r,l}:=hl i n v en A (.inr ok);show{u,r,.inr {?_,c,hc,?_}};rcases F with z|z;subst z;show .inl J;subst z;show .inr J;rcases l with⟨z,_⟩|⟨_,c',B,z⟩;rcases ok with t|t<;>(rw[t]at z;cases z);rw[úg hc]at B;cases B;let{o,R,w}:=z;show{o,f _ _ R,w}
 let{v,o,G,w}:=øa x c (úg h);show{v,o,f _ _ G,w};rcases ōa hp with z|z;let{e,n,ne,nf,d}:=ûa p z;show{f _ _ e,n,Ŕ (Ŧ įc K),λP=>?_,d};rcases ř (I.Wr p.1 P)with t|t;show ne t;show nf t;let e:p=(D,g):=by simpa using z
 subst e;show{hd,ďb hD,U,W D hD,Y};exact(ϡc).length=(Ĵk).length;rw[ï,ï,Ϝb,þ,ŭa]
#print a
def Xe(X:Cx)(a:Á Ñ)(b:TT):Æ:=
 ∀(z0:Á ô) (s:Í) (σ:St) (H:Hp) (Q:Ò->Hp->Æ),zD X z0 σ H s->b σ H Q->
  Õ ā X.A (öb a Ã λc r=>if r=Ã then do let ok <-ġd c Ó (Ċ c Ó);pure (ŧd ok)else pure (ŧd r)) Ěh ĥ s
nonrec def y7s:TT:=λ_ H Q=>Q Ã H
def y1a{X:Cx}:Xe X [] y7s:=λ_ _ _ H _ I h=>wpAny_tests_nil {H,I,h}
def y1b{X:Cx}{c:Ñ}{t:TT}(h:PT X c t):Xe X [c] t:=λa s σ H Q I q=>wpAny_tests_one (h a s σ H Q I q)
section
variable{Ā:à}{w:ß}{A:è}{R:Ĵb->Í->Æ}{s:Í}
def z32{f j b:Ñ}{d:Á Ñ}{a:ϭ}{pos:Pos}{it acc:Value}{env:Env}(J:Ä->Í->Æ)(i:∀n s,J n s->Õ æ A (Ăe it) (λr s₁=>match r with
   |Â=>R ϯn s₁|À v=>Õ æ A (źd j it v) (λ_ z=>Õ æ A (żb j env v) (λ_ s₂=>
    Õ æ A (öb d Ã λc r=>if r=Ã then do let ok <-ġd c env (Ċ c env);pure (ŧd ok)else pure (ŧd r)) (λok s₃=>
     if ok=Ã then Õ æ A (Ċ f env) (λx s₄=>Õ æ A (Ħa (.builtin žm) [acc,x]) (λ_ s₅=>∃m,m<n/\J m s₅) Àc s₄) Àc s₃
     else ∃m,m<n/\J m s₃) Àc s₂) Àc z) Àc s₁) Àc s)
  (n:Ä)(h:J n s):ďa æ A (.compLoop Ûk 0 it acc env) R s:=by
 let g:∀{P:Value->Í->Æ},∀e s',(λ_ _=>í:Value->Í->Æ) e s'->P e s':=λ_ _ z=>Ę
 show codeAny_loop rfl J (λn s o=>?_) n h;exact Õ _ A (Sem.onRaise (compTurn Ûk 0 it acc env) (λx=>do ķf x env;theTreesLotGoes x)) _ _ s;show wpAny_noted ?_;rw[compTurn_list];show Ð (Ϟe (Ð (ϋ (i n s o) (λr s₁ k=>?_) g)));cases r with
 |Â=>show ċ k|À v=>
  show Ð (ϋ k (λ_ z u=>?_) g);show Ð (ϋ u (λ_ s₂ q=>?_) g);show Ð (ϋ q (λok s₃ l=>?_) g);cases ok with
  |Å=>show ċ {rfl,l}|Ã=>
   show Ð (Ð (ϋ l (λx s₄ t=>?_) g));show Ð (ϋ t (λ_ s₅ p=>ċ (ċ {rfl,p})) g)
#print a
abbrev vm(its:Á Value)(k:Ä):Obj:={ cls:=.type Ĝ,Č:=.seq ϲ k }
def am{its:Á Value}{k:Ä}:∀v,(éo).data≠.cell v:=λ_ z=>nomatch z
section
variable{X:Cx}{σ:St}{H:Hp}{s:Í}{D:Ë}
def z1x{pl:Á ô}{its Ńa:Á Value}{k g tk:Ä}{h':Heap}(I:zD X ((D,vm its k)::pl) σ H s)(m:ϗb<=D)(f:∀p∈ϐb,p.1≠D)(j:ϰa D Ü h')(u:ė D=À (vm Ńa g)):zD X [(D,vm Ńa g)] σ H { s with ä:=h',Ě:=tk }:=by
 let{e,n,i,y,d}:=ûa (D,vm its k) ųn;let t:zD X [] σ H s:=I.Uv λp a=>Þ a ü
 let l:zD X [] σ H { s with ä:=h',Ě:=tk }:=t.turned (it:=D) (λb o w q=>(j.2 b w).trans q) n i (.inr m) (λx c A z=>by subst z;let{v,o,h,r}:=øa x c A;rw[show ö c=À éo from e]at h;cases h;show d v r) (λp a=>f p Ŏl)
 show l.Uv λp a=>by
  let q:p=(D,vm Ńa g):=by simpa using a
  subst q;show{u,n,i,y,am}
#print a
section
variable{X:Cx}{tg Ŝ elt:Ñ}{ifs:Á Ñ}{ĳ:ϭ}{cl:Á ύa}{own:Á Ç}{pos:Pos}{te:TE}{tc:TT}{g:TG}{wi:TI}
def x28{fs ex:Á Ë}{H H':Hp}{h h':Heap}{D:Ë}{o:HO}(u:Un fs ex H H' h h')(f:ϱa<=D)(d:H' D=Â):Un fs ex H Đn h h' where
 ēa:=Ġe
 slot:=Îg
 free:=λb c q n g=>by rw[zr (λz=>by subst z;show Þ (Ŧ ĕe f) Åa)];show Ïg b c q n g
 óg:=ϙf
 vW:=λb e q=>by rw[zr Ĉl];show u.vW b e q
 vi:=λb c v q=>by rw[zr Ϩk];show u.vi b c v q
 uW:=λb i q=>by rw[Ĭp]
def EC{P:à}{w:ß}{H:Hp}{h:Heap}{D:Ë}{o:HO}(x:xW P w H h)(d:H D=Â)(a:yj P w ϑn h D o):xW P w ϑn h:=λb u e=>by by_cases hb:b=D;subst hb;rw[yE]at e;cases e;show a;rw[zr hb]at e;show(ěi).gj (λc v _ q=>q) (λc q=>?_) (λc f q=>?_);rw[zr (qU q d)];show q;rw[zr (qU q d)];show q
structure Y9(X:Cx)(ĳ:ϭ)(cl:Á ύa)(own:Á Ç):Æ where
 kind:Ϭh=.function
 cell:∀y∈Ìd,y.2≠.cell
 IB:YA Ó cl
 ok:VG ĳ Ó cl own=Ã
 IC:Åo ĳ Ó=pure cl
 ög:∀y∈Ìd,y.2=.local->scope.names.lookup y.1=À .local
structure I_(X:Cx)(z0:Á ô)(H:Hp)(s:Í)(C:Ë):Æ where
 free:H C=Â
 ne:C≠ő
 old:ϗb<=C
 cell:∀x c,Āa x=À c->c≠C
 pin:∀p∈ϐb++z0,p.1≠C
def Oy(σ:St)(n:Ä)(J:It)(g:TG)(tc:TT)(te:TE)(W:Ä->Ä->Á V->Hp->Æ)(a:Á V->Hp->Æ):Æ:=
 ∀i m ys H,W i m ys H->(àg i H/\a ys H)\/(J.go i H/\ş<á/\∃N:Á V->Hp->Æ,(∀ys' H',N ys' H'->∃m',m'<m/\W ē m' ys' H')/\
  ∀x H',J.vw i H x H'->g x øh H' λσ2 e=>(∃τ,σ2=σ++τ)/\tc σ2 e λc b=>if c=Ã then te σ2 b λy d=>N (ys++[y]) d else N ys b)
def Sy{z0:Á ô}{σ:St}{H2:Hp}{F:Í}{l:Á Ë}{it:Ë}{tn:Ä->Heap->Æ}{J:It}{W:Ä->Ä->Á V->Hp->Æ}{Fin:Á V->Hp->Æ}{m0:Ä}{RR:Value->Ë->Ĵb->Í->Æ}(P:ż=Ã)(B:Y9 X ĳ cl own)(I:zD X z0 σ H2 F)(T:g8 ì X.w X.K tg J l it tn)(t0:tn 0 F.heap)(G:∀b∈l,jP X z0 H2 b)(hg:∀C s H l pn,PG ŋg tg g)(hc:∀C s H l pn,Xe ŋg ifs tc)(he:∀C s H l pn,PE ŋg elt te)(W0:W 0 m0 [] H2)(turn:Oy σ Ĉb J g tc te W Fin)(hRR:∀D C s' H' ys m',zD X z0 σ ũm s'->H' D=Â->Fin ys H'->s'.heap.Ns C m'->I_ X z0 ũm s' C->RR ńc C ϯn s'){E:Value->Í->Æ} :Õ ā X.A ęn (λacc s3=>Õ ā X.A (newFunctionEnv ĳ ϕm cl [] X.env.qual Â .none (À Ó)) (λcenv s4=>
   ďa ā X.A (.compStart ϥa 0 Ĳa acc { cenv with ĳ:=relabel ĳ Ó }) (RR acc cenv.locals) s4) E s3) E F:=by
 refine ÿb (wpAny_newFunctionEnv új (by intro y hy;simp at hy) (λh4 hns S=>?_) ĩe);dsimp only at hns S ⊢;generalize hP:F.heap.push ϐo=P2 at hns S ⊢;have hC:úf=Ęc+1:=by rw[<-hP,ßb]
 let U:Ęc≠úf:=by rw[hC];show Ŕ ųf
 let f:Ęc<=úf:=by rw[hC];show Ŧg _
 let Q:∀b o,Ţn b=À o->h4.get? b=À o:=λb o e=>
  S.extBut b o (Ŕ Ŵn) (Ġ _ (hP▸Ġ _ e))
 let hd4:h4.get? Ęc=À ϐo:=S.extBut _ _ U (Ġ _ (hP▸ť _ rfl));let hfo:∀b∈l,∃o,Ţn b=À o:=λb d=>let ⟨o,e,_⟩:=ľe 0 _ t0 b d;{o,e}
 let lt:∀b∈l,b<Ęc:=λb d=>let ⟨o,e⟩:=hfo b d;Ğ e
 generalize hDD:Ęc=D at U hd4 ⊢;generalize hCC:úf=C at U hns S f ⊢;let m:Ęc<=D:=àb hDD
 let +zeta X':=wc X ĳ cl own C F H2 l (ϐb++z0)
 let hpn:∀p∈X'.pn,p.1≠D:=λp hp z=>by let{e,_}:=ûa p hp;rw[z]at e;show Þ (Ŧ įc m) Åa
 let okb:=Sx I ĩe új B.IB B.ok f G hfo
 let R:∀{k:Ä}{a:Á Value}{H':Hp},(∀b∈l,H' b=Â)->∀b∈l,jP X' ÿf H' b:=λ{k a H'} hn b d=>
  ⟨hn b d,Ęn.1,okb.Y1 b d,.inl d,Ęn.2,λp hp=>by
   rcases ōa hp with z|z;show ęd.2.2.2.2.2 p z;let q:p=(D,vm a k):=by simpa using z
   subst q;show λz=>Þ (lt b d) (by rw[<-z];show ϐe m)⟩
 have loop:∀s4:Í,s4={ F with ä:=h4,Ě:=F.toks+([]:Á Ėb).length }->
   ďa ā X.A (.compLoop ϥa 0 Ĳa ńc (compEnvC ĳ cl C Ó)) (RR ńc C) s4:=by
  rintro s4 rfl
  show z32 (λn s'=>∃(i:Ä) (ys:Á V) (a:Á Value) (k:Ä) (H':Hp),zD X' ÿf ϡc H' s'/\zk ys a/\tn i ťa/\(∀b∈l,H' b=Â)/\W i n ys H'/\ş<=á) ?_ m0
   {0,[],[],0,H2,oR I ĩe új B.IB B.ok f m U G hfo Q hns hd4 am,.nil,Ĥd _ _ _ t0 λb _ o e=>Q b o e,λb d=>ęd.1,W0,ϱ _}
  rintro n s5 ⟨i,ys,a,k,H5,I5,v5,st5,fr5,w5,z5⟩;rcases turn i n ys H5 w5 with⟨ϡa,fin⟩|⟨go,room,N,hN,step⟩
  .show ϋ (ðj X' rfl rfl rfl P i _ s5 _ H5 Àc I5 (R fr5) st5 ϡa) (λr s6 ⟨hr,I6⟩=>?_) λ_ _ z=>z
   subst hr;let{e6,n6,ne6,nf6,d6}:=I6.pin (D,vm a k) ųn;let{m6,ns6,_}:=I6.loc;let u6:Un Şi l H2 Ęh F.heap s6.heap:=x28 I6.base m n6;let new6:yj ì X.w Ęh s6.heap D ϻb:={z5,a,k,v5,e6};let I7:zD X z0 σ Ęh s6:=I.Ur I6.os u6 (EC I6.zU n6 new6) I6.bare (λb d=>{ęd.2.2.2.1,ęd.2.1,ęd.2.2.2.2.1,ęd.2.2.2.2.2});show hRR D C s6 H5 ys m6 I7 n6 fin ns6 {?_,?_,?_,λx c hcx z=>?_,λp hp z=>?_}
   .rw[zr (Ľa U)];show I6.free
   .show λz=>Þ I.lt (by rw[<-z];show ϐe f)
   .show Ĳ I.sz f
   .subst z;let{v,o,ho,_}:=øa x c hcx;show Þ (Ŧ (Ğ ho) f) Åa
   .let{e,_}:=ûa p hp;rw[z]at e;show Þ Ŵn Åa
  .show ϋ (T.item X' rfl rfl rfl P i _ s5 _ H5 Àc I5 (R fr5) st5 go) (λr s6 ⟨u,hr,h6⟩=>?_) λ_ _ z=>z
   subst hr;show ϋ h6 (λ_ s7 ⟨x,H7,I7,r7,y7,st7,fr7⟩=>?_) λ_ _ z=>z
   let I7':=I7.pinned (R fr7) (ľe _ _ st7);show ϋ (hg C F H2 l _ _ s7 _ H7 x u _ I7' r7 (step x H7 y7)) (λ_ s8 ⟨σ8,H8,I8,⟨τ,hτ⟩,q8⟩=>?_) λ_ _ z=>z
   subst hτ
   have ϯ:∀{n':Ä}{Y:Á V}{t:Á Value}{k':Ä}{O:Hp}{L:Í}{pl:Á ô},zD X' ((D,vm t k')::pl) ři O L->zk Y t->tn ē ój->(∀b∈l,O b=Â)->W ē n' Y O->ùd<=á->
     ∃(i:Ä) (ys:Á V) (a:Á Value) (k:Ä) (H':Hp),zD X' ÿf ϡc H' L/\zk ys a/\tn i ój/\(∀b∈l,H' b=Â)/\W i n' ys H'/\ş<=á:=λ{n' Y t k' O L pl} Z v9 st9 fr9 w9 z9=>by
    let I9':zD X' [(D,vm t k')] ři O L:=Z.Uv λp hp=>Z.pin p (ņa _ (by
     let q:p=(D,vm t k'):=by simpa using hp
     subst q;show Ō))
    show{i+1,Y,t,k',O,I9'.weak ?_ (λj v e=>?_),v9,st9,fr9,w9,z9}
    .rw[I9'.len,<-I5.len]
    .let e':=Ob e;rw[Òb (Ť e').1];show e'
   let h:∀{σ9:St}{O:Hp}{L:Í},zD X' (ÿf++Qm l s7.heap) σ9 O L->tn ē ój/\∀b∈l,O b=Â:=λ{σ9 O L} Z=>
    {Ĥd _ _ _ st7 λb d o e=>ϗj.1,λb d=>by let{o,e,_}:=ľe _ _ st7 b d;show ϗj.2.1}
   show ϋ (hc C F H2 l _ _ s8 _ H8 _ I8 q8) (λc L ⟨O,Z,q9⟩=>?_) λ_ _ z=>z
   cases c with
   |Å=>
    rw[Ø ŀ]at q9 ⊢;let{m',hm,w9}:=hN _ _ q9;show{m',hm,ϯ Z v5 (h Z).1 (h Z).2 w9 z5}
   |Ã=>
    rw[Ö rfl]at q9 ⊢;show ϋ (he C F H2 l _ _ L _ O _ Z q9) (λyv sa ⟨y,Ha,Ia,ra,qa⟩=>?_) λ_ _ z=>z
    let{m',hm,wa}:=hN _ _ qa;let{ea,na,_}:=Ia.pin (D,vm a k) (ņa _ (Ċc _ Ō))
    let szi:ϱb<=á:=by let:=v5.length;simp only[đ];omega
    show wpAny_list_append_plain (hsz:=szi) {k,ea} λd hlb hsb'=>?_
    let{kb,eb}:=hlb;let eb':d.get? D=À (vm ϣo kb):=by rw[eb];simp
    let Ib:zD X' [(D,vm ϣo kb)] ři Ha { sa with ä:=d,Ě:=sa.toks }:=z1x (tk:=sa.toks) Ia m hpn hsb' eb';let stb:tn ē d:=Ĥd _ _ _ (h Ia).1 λb hbf o e=>(hsb'.2 b (λz=>Þ (lt b hbf) (by rw[z];show ϐe m))).trans e
    show{m',hm,ϯ Ib (ĵf v5 (.cons ra .nil)) stb (h Ia).2 wa (by rw[ï];show room)}
 show codeAny_compStart_list Ĝn (T.self X.A 0 _ _ _ (Ĥd _ _ _ t0 λb _ o e=>Q b o e) Ĝn)
def y75(n:Ä)(wi:TI)(g:TG)(tc:TT)(te:TE):TE:=λσ H Q=>wi σ H λJ c=>∃W:Ä->Ä->Á V->Hp->Æ,(∃m,W 0 m [] c)/\
 Oy σ n J g tc te W λb a=>∀p,a p=Â->Q ύ Àn
def I_.inv{a:Á ô}{σ:St}{H:Hp}{s:Í}{C:Ë}{h':Heap}(o:I_ X a H s C)(I:zD X a σ H s)(d:ϰa C Ü h'):zD X a σ H { s with ä:=h' }:=
 ţa (it:=C) (t':=ě) (λb u c q=>(d.2 b c).trans q) o.free o.ne (.inr o.old) o.cell o.pin
def cC(a:ż=Ã)(B:Y9 X ĳ cl own)(hi:PI X tg Ŝ wi)(r:∀C s H fp pn,PG Êa tg g)(y:∀C s H fp pn,Xe Êa ifs tc)(u:∀C s H fp pn,PE Êa elt te)(m:Ì (∀x,Úb Ŝ Ó x=pure x) q11) :PE X ϥa (y75 Ĉb wi g tc te):=by intro l s σ H Q I h;rw[eval_ListComp];show Þk (use:=Â) rfl m B.IC ĩe B.names (zn (hi l s σ H _ I h) λv P F=>zn F λK U E=>?_);let{N,fp,Z,J,R,e,z,T,k,q,W,{O,L},b}:=E;subst e;show Sy (RR:=λj C=>compPost ā X.A ĥ Â (EP X l σ Q) j C) a B z T k q r y u L b ?_;intro D C S n G p t o d c i;show{p,c,λY f=>{.ref D,upd n D (.lst G),i.inv t f,rfl,d D o}}
def y7l(i n:Ä)(wi:TI)(g:TG)(tc:TT)(te:TE):TS:=λD σ H=>wi σ H λJ c=>∃W:Ä->Ä->Á V->Hp->Æ,(∃m,W 0 m [] c)/\
 Oy σ n J g tc te W λb a=>∀p,a p=Â->ųa Ĕh Àn
def cM{i:Ä}{x:Ç}{j c:Pos}(d:ż=Ã)(Y:Ϩ)(p:X.N[i]?=À x)(F:Íb x=À .local)(B:Y9 X ĳ cl own)(l:Œb ϥa (À ϰn) c.line Ó=pure Ã)(hi:PI X tg Ŝ wi)(S:∀C s H fp pn,PG Êa tg g)(hc:∀C s H fp pn,Xe Êa ifs tc)(Z:∀C s H fp pn,PE Êa elt te)(G:Ì (∀x,Úb Ŝ Ó x=pure x) q11) :PS X (.Assign [.Name x j] ϥa c) (y7l i Ĉb wi g tc te):=by
 intro u s σ H D I h;rw[exec_Assign_Name_used _ _ _ _ l];show Ð (Ϟe (Ð ?_));exact Õ _ X.A (do let _ <-comprehension ϥa ĳ Ó _ ęn Å (Ċ Ŝ Ó) Žo) _ _ s
 refine Ð (zn (Þk (use:=À Ťj) (Q:=λ_ f=>SP X u D .next f) rfl G B.IC ĩe B.names
  (ηc (hi u s σ H _ I h))) λ_ f hq=>ċ (ċ hq))
 let{it,fp,tn,J,H2,e,I2,T,t,R,W,{m0,w0},k}:=h2;subst e;show Sy (RR:=λq C=>compPost ā X.A ĥ Žo (λ_ f=>SP X u D .next f) q C) d B I2 T t R S hc Z w0 k ?_;intro L C f K ys P U O n m b;exact Õ _ X.A (żb ϰn Ó (.ref L)) _ _ f;show ťl (fB U Y p (.inl F) (v:=.ref L) rfl (λs3 I3 q3=>?_) (.inr F));let{a,r,ha}:=q3
 let E:C≠a:=by rcases ha with z|z;rw[z];show b.ne;show λy=>b.cell x a z y.symm
 show{P,m.sameBut r E,λh' o=>?_};show{_,_,I_.inv (H:=upd K L ϻb) {b.free,b.ne,b.old,b.cell,b.pin} I3 o,n L O}
#print a
structure QE(X:Cx)(e:Ñ)(t:TE):Æ where
 h:PE X e t
structure QT(X:Cx)(e:Ñ)(t:TT):Æ where
 h:PT X e t
structure QA(X:Cx)(es:Á Ñ)(t:TA):Æ where
 h:PA X es t
structure QS(X:Cx)(st:Ô)(t:TS):Æ where
 h:PS X st t
structure O1(X:Cx)(st:Á Ô)(t:TS):Æ where
 h:wy X st t
structure QG(X:Cx)(e:Ñ)(t:TG):Æ where
 h:PG X e t
structure O0(X:Cx)(es:Á Ñ)(t:kA):Æ where
 h:TL X es t
structure QI(X:Cx)(tg e:Ñ)(t:TI):Æ where
 h:PI X tg e t
section
variable{X:Cx}{x:Ç}{p pos Èa ž Ų:Pos}{e a b c o:Ñ}{es:Á Ñ}{te to:TE}{t:TA}{r:R2}{v:V}{T id:Ż}{j k i:Ä}
def qv(i:Ä){x:Ç}{pos:Pos}(b:Ì ſd q12)(hv:Ì Äe q13)(c:Ì Ģ q10)(a:Ì þb q10):QE X Ąa ðc:={Zh b hv c a}
def GJ(h:wN â x v)(a:Gl X x)(b:Ì Ģ q10):QE X Ąa īe:={WF h a b}
def cf(a:Gl X x)(c:â x=Â)(hv:Ś x=À ėa)(b:Ì ϩa q10)(d:Ì Ģ q10):QE X Ąa Ĕn:={y00 a c hv b d}
nonrec def Ey:Ñ->Ò
 |.Name ..=>Ã|.Call ..=>Ã|.Subscript ..=>Ã|.Attribute ..=>Ã|.Constant ..=>Ã|.List ..=>Ã|.Tuple ..=>Ã|.BinOp ..=>Ã|_=>Å
def cH{e:Ñ}{env:Env}(h:Ey e=Ã):∀ñc,ġd e env ñc=(do let v <-ñc;standAt e.pos;holding [v] ìo):=by cases e<;>first|(intro _;rfl)|cases h
def WH:QA X [] gT:={Zg}
def gP(a:QE X e te)(b:QA X es t)(h:Ì ϥ q12):QA X ă ģi:={kX a.h b.h h}
nonrec def WG:Ñ->Ò
 |.Name ..=>Ã|.Constant ..=>Ã|.BinOp ..=>Ã|.Call ..=>Ã|.UnaryOp ..=>Ã|.Subscript ..=>Ã|.Attribute ..=>Ã|_=>Å
def LX{b:Ñ}(h:WG b=Ã):SL b:=by cases b<;>first|(intro _ _;rfl)|cases h
def Yo{r:Á V->Hp->VK->Æ}(g:wM X áb r)(c:Gl X x)(i:â x=Â)(hv:Ś x=À áb)(d:QA X ă t)(f:Ì ϩa q10)(b:Ì Ģ q10)(a:Ì Ϣ q12):QE X ċa ώf:=by rw[Ő,ć]at a;show{y02 g c i hv d.h f b (vS a.1) (qe a.2)}
def Vt{r:Á V->Hp->VK->Æ}(g:wM X ėa r)(c:Gl X x)(i:â x=Â)(hv:Ś x=À ėa)(d:QA X ă t)(f:Ì ϩa q10)(b:Ì Ģ q10)(a:Ì Ϣ q12):QE X ċa ώf:=by rw[Ő,ć]at a;show{y04 g c i hv d.h f b (vS a.1) (qe a.2)}
variable{g:TG}
nonrec def p8:Ñ->Ò
 |.ListComp ..=>Å|.SetComp ..=>Å|.DictComp ..=>Å|_=>Ã
def LM{e:Ñ}{a:É Ñ}{n:Ä}{env:Env}(h:p8 e=Ã):Œb e a n env=pure Å:=by cases e<;>first|rfl|cases h
def Lf(b:QE X e te)(a:Ì Æc q12):QS X Ŀh (fH te):={G8 b.h (LM a)}
def Qt{i:Ä}{x:Ç}{Èa:Pos}(f:Ϩ)(hi:X.N[i]?=À x)(d:uq ϟ x)(c:QE X e te)(b:Ì Æc q12)(a:Ì Ĩa q7) :QS X Še (Kr te Śc):={y19 f hi d c.h (LM b) a}
def w8{i:Ä}{x:Ç}(c:Ϩ)(hi:X.N[i]?=À x)(b:uq ϟ x)(a:Ì Ĩa q7):QG X Ąa Śc:={y0l c hi b a}
def cg{o i:Ñ}{to a:TE}{t:O3}(d:QE X o to)(hi:QE X i a)(b:Do X t)(c:Ì (WG i=Ã) q12):QG X ϔg (Ar to a t):=by show{y0m d.h ύb b ?_};cases i<;>first|(intro _;rfl)|cases c
def Vv:O0 X [] VR:={y0p}
def jh{t:TG}{u:kA}(b:QG X e t)(c:O0 X es u)(a:Ì ((Ϯm).map (·.2)=żb e Ó::(őd).map (·.2)) q12):O0 X ă (kK t u):={y0o b.h c.h a}
def Vu{k:Ä}{t:kA}{n:Ä}(c:ż=Ã)(h:O0 X es t)(b:Ì ám q12)(a:Ì ((őd).findIdx? (·.1)=Â) q12):QG X Ϛl įn:={y0n c h.h b a}
variable{Į:Ç}{rm:V->Á V->Hp->VK->Æ}
theorem f8{env:Env}{pos:Pos}:∀{es:Á Ñ},es.all yN=Ã->(űk).all ϔh=Ã
 | [],_=>rfl|e::es,h=>by rw[Ő,ć]at h;rw[vS h.1];let a:=f8 (env:=env) (pos:=pos) h.2;unfold Ÿb at a ⊢;rw[ϰ,Ő,a];rfl
def Qs(i:ěf T)(c:Slot T Į id)(g:ġe áb=pure ŧe)(l:VA X id rm)(m:QE X o to)(k:QA X ă t)(a:Ì ōe q12)(b:Ì Ņa q12)(d:Ì Ϣ q12)(j:Ì ((ă).length<30) q10) :QE X ώk (fF X.K T rm to t):={by let f:=f8 (env:=Ó) (pos:=Ų) d;rw[Ő,ć]at d;show z9y i c g l m.h k.h a ?_ b (vS d.1) (qe d.2);rw[f];exact(Ã&&Ã&&decide ((ă).length+0+0<30))=Ã;rw[Ĵ (show(ă).length+0+0<30 from j)];rfl}
#print a
def SqB(K:Ï)(H:Hp)(a c:Ë)(xs ys:Á V):Æ:=(yf K H a xs/\yf K H c ys)\/(yQ K H a xs/\yQ K H c ys)
section
variable{X:Cx}{z0:Á ô}{σ:St}{H:Hp}{s:Í}
def y2d{A:è}{a c:Ë}{xs ys:Á V}{e:Ä->Ò}(I:zD X z0 σ H s)(k:äa<ϒ)(S:SqB X.K H a c xs ys)(P:∀(j:Ä) x' y' u v,xs[j]?=À x'->ys[j]?=À y'->zu x' u->zu y' v->ĝb ľ s u v (e j)) :ϵh A s ý ū ((ϣg).all e&&ë==ş)/\ŗh A s ý ū (!((ϣg).all e&&ë==ş)):=by
 let f:∀{B:Á V}{b:Á Value}{j:Ä}(O:j<ſa),zk B b->∃z,B[j]?=À z/\zu z ĸa[j]:=λ{B b j} O r=>by
  let N:=ŷ
  let w:j<Ŀc:=by rw[đ]at O;omega
  let{u,o,R}:=ϟa (ļ w);show{_,ļ w,?_}
  let:ĸa[j]=u:=by let y:b[j]?=À b[j]:=ļ Î;rw[y]at o;simpa using o
  rw[this];show R
 rcases S with⟨G,E⟩|⟨G,E⟩;let{b,x,i,_}:=Ϭ G;let{g,t,h,_}:=Ϭ E;let Q:=şa;let y:=æe
 let d:∀j (n:j<ſa) (m:j<Úf),ĝb ľ s ĸa[j] çi[j] (e j):=λj n m=>by rw[ĕp]
 let p:=SeqAt.RcAt.tuples (e:=e) i h k d;let q:=SeqAt.RcNeAt.tuples (e:=e) i h k d;rw[đ,đ,<-Q,<-y]at p q;show{p,q};let{b,x,i,_}:=ű G;let{g,t,h,_}:=ű E;let Q:=şa;let y:=æe
 let d:∀j (n:j<ſa) (m:j<Úf),ĝb ľ s ĸa[j] çi[j] (e j):=λj n m=>by rw[ĕp]
 by_cases N:ë=ş;let l:ſa=Úf:=by rw[ŋp]
 let p:=SeqAt.RcAt.lists (e:=e) ũf Ūf l k d;let q:=SeqAt.RcNeAt.lists (e:=e) ũf Ūf l k d;let e1:min ë ş=ſa:=by rw[đ];omega
 let e2:Ýo=Ã:=by simp[N]
 rw[e1,e2,Bool.and_true];show{p,q};let l:(ſa != Úf)=Ã:=by rw[đ,đ];simp;omega
 let e2:Ýo=Å:=by simp[N]
 rw[e2,ϋd];show{SeqAt.RcAt.lists_lengths ũf Ūf l k,SeqAt.RcNeAt.lists_lengths ũf Ūf l k}
def Op(A:è):A.in1.units=äa+1:=rfl
#print a
def z00{x:V}(h:qQ x=Ã):uy x x=Ã:=by cases x<;>first|rfl|show űd _|cases h
open ł
def wx(e:Ë)(h:Heap):Æ:=∃o vs,Ć e=À o/\Ϛ=.fields vs/\vs[2]?=À .none
section
variable{M:öc}{A:è}{E:Value->Í->Æ}{s:Í}{È:Heap}{env:Env}{é l:Á Env}{L e:Ë}{oe:Obj}{vs:Ú Value}{head a0 cls fl:Value}{hadNext:Ò}{Q:èa->Í->Æ}
def AY(p:üd=À ëb)(j:ϣc È ëb)(I:ĺf=À L)(t:ö e=À oe)(l:ϝd Ü)(n:ļf e=Â)(i:oe.data=.fields vs)(hsz:1<vs.size)(G:vs[0]?=À a0)(O:vs[2]?=À .none)(h:∀h',Heap.NotedW È ëb e oe.cls a0 (Æb L) Ü h'->wx e h'->Q () { s with ä:=h' }) :Õ M A (do let a <-frameOf env;let pl <-entryPlaceOf L hadNext;let b <-õl head a .none (Æb L) .none pl;setField íb 1 b) Q E s:=by
 let H:e ∉ (ëb).filterMap (·.frame):=λm=>by let{_,o,B,d}:=j.mem m;rw[t]at B;cases B;show d vs i
 show Ð (wpAny_frameOf_fun p j I λc g=>Ð (wpAny_entryPlaceOf λpl f=>?_));unfold õl newFields;show Ð (ÿb ?_ (f.sizeOk5 _ _ _ _ _));let e1:Ûg e=À oe:=(g.2.1 e H).trans t;let C:ϝd c:=λb o q=>(g.2.1 b λm=>by rw[(j.mem m).1]at q;cases q).trans ϙo
 let K:=Ğ e1;let F:Ϩc≠e:=ϋa K;generalize hN:({ cls:=.type "traceback",dict:=Â,Č:=.fields (ıj).toArray }:Obj)=N;have x:N.data=.fields (ıj).toArray:=by rw[<-hN]
 let r:N.isFreed=Å:=ńd x;let e2:(Ëi).get? e=À oe:=Ġ _ e1;show ĉc e2 i hsz ?_;let u:=ϊc i (·.setIfInBounds 1 Ōf);let y:=ňb (őb (·.setIfInBounds 1 Ōf)) e2 (ńd u);let J:((Ëi).update e (őb (·.setIfInBounds 1 Ōf))).get? Ϩc=À N:=(ι (Ľa F)).trans (ť _ r);let k:∀b o,b≠e->Ûg b=À o->((Ëi).update e (őb (·.setIfInBounds 1 Ōf))).get? b=À o:=λb o q z=>(ι ϰi).trans (Ġ _ z)
 let w:∀b o,ö b=À o->(∀ws,Ϛ≠.fields ws)->b≠e:=λb o q d z=>by rw[z,t]at q;cases q;show d vs i
 refine h _ {λb o q=>k b o (λz=>by rw[z,n]at q;cases q) (C b o q),j.of_keeps λb o q d=>?_,{_,_,Ϩc,N,_,y,{ŭl _ _,?_},u,by simp[hsz],C.fresh,F,J,x,?_},λb o q d=>?_} {_,_,y,u,?_};let{v,z}:=g.2.2 b o q;show{_,k b _ ϊn z,rfl};rw[ļg Û];show G
 .first|(simp;done)|(rcases f with rfl|⟨_,_,_,_,_,_,_,rfl⟩<;>simp)
 let{v,z}:=g.2.2 b o q;show{v,k b _ ϊn z};rw[ļg Û];show O
def OV{fr:É Ë}(j:ϝd Ü)(G:ϣc È l)(y:s.heap.TracedAtW È e cls a0 fl)(h:∀h',ϝd h'->h'.FunFrames È l->h'.TracedAtW È e cls a0 Ğk->(wx e Ü->wx e h')->Ϣc h'->Q () { s with ä:=h' }):Õ M A (Ğo íb fr) Q E s:=by
 let{oe,vs,T,I,F,t,i,r,m,p,a,k,g,v}:=y;let u:=(łb v).1;let c:∀b,b≠T->(Ϯb T (őb (·.setIfInBounds 3 Ğk))).get? b=ö b:=λb q=>ůc _ _ ϰi
 let n:∀b o,ö b=À o->(∀ws,Ϛ≠.fields ws)->b≠T:=λb o q d z=>by rw[z,k]at q;cases q;show d F g
 unfold Ğo;show Ð (êa t r m ?_);rw[Ö (show Ŗm=Ã by simp)];refine ĉc k g u (h _ (λb o q=>(c b λz=>by rw[z,p]at q;cases q).trans (j b o q)) (G.of_keeps λb o q d=>{o,(Ϗl).trans q,rfl}) {oe,vs,T,_,_,(Ën).trans t,i,r,m,p,a,ňb _ k (ńd (ϊc g _)),ϊc g _,by simp[u]} (λ⟨x,H,C,w,B⟩=>{x,H,(Ën).trans C,w,B}) λb o q d=>{ϓi,(Ϗl).trans q})
def ao(h:üd=À ëb)(v:ĺf=À L)(g:Ĕb È ëb e cls a0 Ü)(k:wx e Ü)(H:∀h',Heap.HeldW È ëb e cls a0 L h'->wx e h'->Ϣc h'->Q () { s with ä:=h' }):Õ M A (ķf íb env) Q E s:=by
 let{l,c,K,oe,vs,T,O,x,j,{rfl,C},i,t,G,n,m,f,p}:=g;let{P,R,w,r,J}:=k;rw[j]at w;cases w;rw[i]at r;cases r;let y:=(łb p).1;let d:∀b,b≠T->(Ϯb T (őb (·.setIfInBounds 3 Įa))).get? b=ö b:=λb q=>ůc _ _ ϰi
 let u:∀b o,ö b=À o->(∀ws,Ϛ≠.fields ws)->b≠T:=λb o q a z=>by rw[z,m]at q;cases q;show a x f
 unfold ķf;simp only[v];show Ð (êa j i t ?_);rw[Ö (show Ŗm=Ã by simp)];show Ð (êa m f p ?_);rw[Ø (show ¬ ((Įa==Æb L)=Ã) by simp[Æb])];show Ð (ĉc m f y ?_);refine AY (È:=È) h (K.of_keeps λb o q a=>{o,(ώl).trans q,rfl}) v ((d e (Ľa n)).trans j) (λb o q=>(d b λz=>by rw[z,G]at q;cases q).trans ϙo) c i (łb t).1 C J λh' ⟨I,B,N,F⟩ k=>?_
 show H h' {I,c,B,N} k λb o q a=>F b o ((ώl).trans q) a
def z33{h:Heap}{ų:Á Value}(f:üd=À ëb)(g:ĺf=À L)(a:ϝd h)(r:h.FunFrames È ëb)(c:ŋm h Ü e cls ų)(n:∀h' t,Ĕb È é e cls Çc h'->wx e h'->Ϣc h'->Q () { s with ä:=h' }):Õ M A ϩm Q E s:=by
 let{t,j,_,_}:=c.there
 let i:ļf e=Â:=by
  cases q:ļf e with
  |Â=>rfl|À o=>have:=a e o q;rw[c.new]at this;cases this
 unfold Ìe;show Ð ?_;unfold ķf;simp only[g];show Ð (êa (x:=.none) j rfl rfl ?_);rw[Ø Û];refine AY (È:=È) (a0:=.ref t) f (r.of_keeps λb o q _=>{o,c.keeps b o q,rfl}) g j (λb o q=>c.keeps b o (a b o q)) i rfl (by exact 1<6;decide) rfl rfl λh' ⟨p,y,v,m⟩ w=>?_
 show OV (s:={ s with ä:=h' }) (fr:=Â) p y v λz k d B l u=>?_
 let{_,_,d}:=d;show n z t {k,i,d,B} (l w) (Ãl m u)
def z34(d:üd=À ëb)(h:ĺf=À L)(c:Ĕb È ëb e cls a0 Ü)(p:wx e Ü)(j:∀h',Ĕb È é e cls a0 h'->wx e h'->Ϣc h'->Q () { s with ä:=h' }):Õ M A ϩm Q E s:=by
 unfold Ìe;show Ð (ao d h c p λh' a i m=>?_);let{k,l,q,o}:=a;show OV (s:={ s with ä:=h' }) (fr:=Â) k q o λr f b t g n=>?_
 let{_,_,b}:=b;show j r {f,l,b,t} ņe (Ãl m n)
#print a
#print L2
namespace L2
open č Ĕ ď
open Ϡf (hideAll)
structure uX(P:à)(w:ß)(l:Á Env)(H:Hp)(h B:Heap)(H':Hp)(h':Heap):Æ where
 un:Un (xg l) [] H H' h h'
 ok:xW P w H' h'
 kb:∀b o,Ć b=À o->H b=Â->b ∉ xg l->îc b=À o
 all:∀b o,Ć b=À o->b ∉ xg l->∃o',îc b=À o'
 tr:∀b o,H' b=À o->∃ob,îc b=À ob
def vL(P:à)(w:ß)(l:Á Env)(H:Hp)(s:Í)(E:XK)(e:Value)(s':Í):Æ:=
 ∃(a C:Ë) (a0:Value) (B:Heap) (H':Hp),e=.ref a/\õg=s.os/\äc Ϛf/\(Ĕb B l a ú a0 ťa/\wx a ťa)/\uX P w l H Ü B H' ťa/\E ú Â H'
def yj.there{P:à}{w:ß}{H:Hp}{h:Heap}{a:Ë}{o:HO}(x:yj P w H h a o):∃ob,Ć a=À ob:=by
 cases o with
 |lst xs=>let{_,_,_,_,e}:=x;show{_,e}
 |tup xs=>let{_,_,_,o,e,_}:=x;show{_,e}
 |dK kvs=>let{_,_,_,_,o,_,_,e,_}:=x;show{_,e}
 |dT kvs=>let{_,_,_,_,o,_,_,e,_}:=x;show{_,e}
 |set S n=>let{o,_,_,_,e,_}:=x;show{_,e}
 |ins C dx fs=>let{_,_,_,e,_}:=x;show{_,e}
 |own y=>let{_,e}:=x;show{_,e}
 |xd fs=>let{_,{_,_,_,e,_},_}:=x;show{_,e}
 |rng lo hi=>let{_,_,_,e}:=x;show{_,e}
 |zz ob u=>let{e,_}:=x;show{_,e}
 |tbl ps=>show{_,(show Ć a=À _ from x)}|met f y=>show{_,(show Ć a=À _ from x)}|ext φ=>let{_,{_,e},_}:=x;show{_,e}
section
variable{P:à}{w:ß}{l:Á Env}{H H':Hp}{h B h' h'':Heap}
def uX.zU(x:xW P w H' h')(f:∀b o,H' b=À o->∃ob,îc b=À ob)(k1:łf h')(k2:łf h''):xW P w H' h'':=λb o e=>
 (x b o e).gj (λc u g q=>by
  let a:∃z,H' c=À z:=by rcases g with z|z;show{o,by rw[z];show e};show{_,z}
  let{z,h}:=a;let{ob,d}:=f c z h;let e1:À ob=À u:=(k1 c ob d).symm.trans q;cases e1;show k2 c _ d) áo Ăn
def uX.BY(x:uX P w l H h B H' h')(k1:łf h')(k2:łf h'')(k:h'.UpToSlots h'')(fr:∀b∈xg l,H b=Â/\∃o,Ć b=À o/\∀vs,Ϛ≠.fields vs):uX P w l H h B H' h'' where
 un:=by
  let c:∀b o,Ć b=À o->H b=Â->b∈xg l->∃c,h''.get? b=À { o with ϋb:=c }:=λb o e n a=>by let{m,e1}:=ái b o e n a ü;let{_,q,e2,g}:=fr b a;rw[e]at e2;cases e2;let{j,f}:=k b _ e1 g;show{j,f}
  show{λb o e n a _=>k2 b o (x.kb b o e n a),λb o e n a _=>c b o e n a,ęo,λb o e p=>by by_cases a:b∈xg l;let{m,e1}:=c b o e (fr b a).1 a;show{_,e1};let{d,i}:=òg b o e a;show{d,k2 b d i},x.un.vW,x.un.vi,x.un.uW}
 ok:=uX.zU x.ok x.tr k1 k2
 kb:=x.kb
 all:=òg
 tr:=x.tr
#print a
section
variable{X:Cx}{z0:Á ô}{σ:St}{H H':Hp}{s:Í}{B h':Heap}
def zD.ID(I:zD X z0 σ H s):∀b∈xg ķ,H b=Â/\∃o,ö b=À o/\∀vs,Ϛ≠.fields vs:=λb a=>{I.IJ b a,(I.stack.mem a).2}
def ßj(I:zD X z0 σ H s)(k:ķ=Ó::Ťa)(p:Ϫd=À ő)(g:Ìb=[])(x:uX ì X.w ķ H Ü B H' h'):uX ì X.w Ťa ŧa Œn B H' h':=by
 let m:∀b o,Ϩb b=À o->b≠ő:=λb o e=>Ŕ Őe
 let a:∀b,b ∉ Ìb:=λb=>by rw[g];simp
 let j:∀b o,Ϩb b=À o->b ∉ Ĕa->b ∉ xg ķ:=λb o e c z=>(ϻl).elim (m b o e) c
 let i:∀b,b∈Ĕa->b∈xg ķ:=λb c=>by rw[k];unfold xg;rw[ϟe,p];show Ϲ _ c
 let h:∀b o,Ϩb b=À o->ŧa b=Â->b ∉ xg Ťa->îc b=À o:=λb o e n c=>
  x.kb b o ϟk ϡe Ϛh
 let d:∀b o,Ϩb b=À o->b ∉ xg Ťa->∃o',îc b=À o':=λb o e c=>by rw[Řp];show òg b f e1 Ϛh
 show{{λb o e n c _=>?_,λb o e n c _=>?_,λb o e n _=>?_,λb o e _=>?_,λb l e=>x.un.vW b l (Ĵc b l e),λb o u e=>x.un.vi b o u (ĳc b o u e),λb v e=>?_},x.ok,h,d,x.tr};show x.un.keep b o ϟk ϡe Ϛh ü;let{y,e1}:=ħc b o e n c (a b);let{q,e2}:=ái b _ e1 ϡe (i b c) ü;show{q,e2};rw[Řp];show ęo b f e1 ϡe ü;rw[Řp];show x.un.there b f e1 ü;let{r,e1}:=ĵc b v e;let{t,e2}:=x.un.uW b _ e1;show{r++t,by rw[e2,įl]}
def uX.made(I:zD X z0 σ H s)(k:(ύe).StaysIn h')(l:Ϣc h'):uX ì X.w ķ H Ü ύe H h':=by
 let d:∀b o,ö b=À o->b ∉ xg ķ->(ύe).get? b=À o:=λb o e a=>ϗm _ e a
 let g:∀b o,H b=À o->∃c,(ύe).get? b=À c:=λb o e=>by
  let a:b ∉ xg ķ:=λz=>by rw[I.IJ b z]at e;cases e
  let r:=I.zU.lt e;cases q:ö b with
  |À c=>show{c,d b c q a}|Â=>
   exfalso
   let i:=Ď b o e;let j:∃c,ö b=À c:=yj.there i;let{c,z}:=j;rw[q]at z;cases z
 let f:∀b o,ö b=À o->b∈xg ķ->∃f,ė b=À { o with ϋb:=f }:=λb o e a=>by let{_,m,e2,h}:=I.ID b a;rw[e]at e2;cases e2;show l b o e h
 show{{λb o e n a _=>k b o ϡn,λb o e n a _=>f b o e a,λb o e n _=>n,λb o e _=>?_,λ_ _ z=>z,λ_ _ _ z=>z,λb p e=>{#[],by rw[e];simp}},?_,λb o e _ a=>d b o e a,λb o e a=>{o,d b o e a},g};by_cases a:b∈xg ķ;let{t,e1}:=f b o e a;show{_,e1};show{o,k b o ϡn};show uX.zU Ď g (λb o e=>Ŗh _ e) k
structure wm(K:Ï)(mg:Ç->É Value)(x:Ç)(C:Ë):Æ where
 at_:mg x=À ú
 ex:ųb K C ľb Ąb=Ã
def wm.own{K:Ï}{s:Ç->É Value}{x:Ç}{C:Ë}{h:Heap}(c:wm K s x C)(X:İ h):OwnCls x C ľb Ąb s h:=by
 show{c.at_,?_};let q:=c.ex;unfold ųb at q
 split at q;rename_i I u i L
 split at q;rename_i N F p m k r n t o j;simp only[ć,Ço,Ųl]at q;obtain⟨⟨⟨⟨⟨rfl,rfl⟩,a⟩,v⟩,e⟩,b⟩:=q;let{J,y,B,G,A,E,w,f,z,d,H}:=u;dsimp only at o a e b;subst o a
 let g:i=#[p,m,k,r,À (.builtin Ąb),t]:=by
  rcases i with⟨l⟩
  simp only at j;rw[j]
 subst g;show{F,G,J,A,y,E,w,f,z,d,I,p,m,k,r,t,_,X _ _ L,.of_isNs (W.isNs_of_in X e),W.nsMap_none_of_in X e b,W.tail_of_in X v};cases q;cases q
variable{x:Ç}{C:Ë}{np Ų pos:Pos}{e:Ñ}{es:Á Ñ}{t:TA}{E:XK}
def Dq(X:Cx)(E:XK):Æ:=∀(z0:Á ô) (σ:St) (H:Hp) (s:Í) (a C:Ë) (vs:Á Value) (h':Heap),zD X z0 σ H s->ŋm Ü h' a ú vs->E ú Â H->ĥ ý { s with ä:=h' }
nonrec def y7g(C:Ë)(E:XK)(t:TA):TS:=λ_ σ H=>t σ H λa b=>Ϫ<=á/\E ú Â b
def y17(c:wm X.K â x C)(l:Dq X E)(w:æb=Â)(n:Gl X x)(v:PA X ă t)(g:Ì Ģ q10)(k:Ì Ϣ q12) :PS X (.Raise ϒj Â pos) (y7g C E t):=by
 intro z0 s σ H D I h;let d:=k;rw[Ő,ć]at d;let O:=c.own I.mod.jM;let{u,N,nm,q,bs,hdct,sn,sub,ab,col,dd,k0,k1,k2,k3,k5,mN,o,p,i,T}:=O.obj;let j:=PySem.F.excBase_ValueError
 refine wpAny_Raise_call_subT (C:=C) (nm:=nm) (q:=q) (N:=N) (bs:=bs) (bm:=u) (hdct:=hdct) (sn:=sn) (sub:=sub) (ab:=ab) (col:=col) (dd:=dd) (k0:=k0) (k1:=k1) (k2:=k2) (k3:=k3) (k5:=k5)
  j (mN:=mN) (T.hasType j.hasBase) w (qe k) i (ZY I n c.at_ {rfl,?_} g)
 let b:=v Ų z0 s σ H _ I h;rw[vS d.1]at b ⊢;show Ŕg (zn b λm B ⟨L,J,f,r,G,z⟩=>?_);show{rfl,by rw[<-ŷ];show G,f.bk _ _ o,p.keeps f.bk,T.keeps f.bk,λh' a y=>l z0 σ J B a C m h' f y z}
#print a
section
variable{P:à}{w:ß}{K:Ï}{mg:Ç->É Value}{È:Heap}{N:Á Ç}{ça:Ç}{ĳ:ϭ}{f:Ë}{cd:Value}{A:è}{é:Á Env}{s₀:Í}{H₀:Hp}{E:XK}
abbrev jU(P:à)(w:ß)(K:Ï)(mg:Ç->É Value)(È:Heap)(N:Á Ç)(ça:Ç)(ĳ:ϭ)(f:Ë)(cd:Value)(A:è)(é:Á Env)(s:Í)(H:Hp)(E:XK):Cx:=
 u3 ęa P w K mg È N ça ĳ f cd A é s H E
def WI:Dq ϓb E:=by
 intro u σ H s a C r j I g m;let d:∀c∈(ϓb).stack,∀b,c.frame=À b->b∈xg (ϓb).stack:=λc l b k=>Ůk {c,l,k}
 exact Õ Řa _ Ūn _ _ _;show z33 (s:={ s with ä:=j }) (È:=hideAll Ü (xg (ϓb).stack)) Ñd rfl (λb o q=>Ŗh _ q) (W.funFrames_hide ϟi d) g λp t e n h=>?_
 let i:Ϣc p:=(Heap.UpToSlots.of_keeps g.keeps).trans h;show{a,C,.ref t,_,H,rfl,Ϥa,đa,{e,n},ßj I rfl rfl rfl (uX.made I e.1 i),m}
def Qk:pU ęa ϓb E:=by
 intro q σ H s e l I h;let{a,C,k,B,i,rfl,p,m,{b,j},g,o}:=h;exact Õ Řa _ Ūn _ _ _;show z34 (s:=l) Ñd rfl b j λr c d n=>?_
 show{a,C,k,B,i,rfl,p.trans Ϥa,m,{c,d},ßj I rfl rfl rfl (g.BY b.1 c.1 n I.ID),o}
def z9q:Ũb Řa (ϓb).A (ϓb).env (ϓb).xe:=PassesOwn.leaving
def gr(P:à)(w:ß)(K:Ï)(mg:Ç->É Value)(È:Heap)(x:Ç)(ps:Á Ç)(k:Ä)(sp:Sp):Æ:=
 ∃(f:Ë) (fd:ĝ),mg x=À Đ/\ϕ K Đ=Ã/\xN K fd ps []/\yT P w K mg È ęa k f fd ps sp
def Def.lW{x:Ç}{st:Ô}{N ps:Á Ç}{k:Ä}{sp:Sp}(d:Def K mg x st ps)(S:zh N ps ģ)(c:∀vs H Q E,sp vs H Q E->ø=Ĉ)(b:∀(f:Ë)(a:Value)(A:è)(é:Á Env)(s:Í)(H:Hp)(vs:Á V)(Q:VK)(E:XK),yG k Űe->sp vs H Q E->
   ∃t,O1 (jU P w K mg È N x ģ f a A é s H E) ź t/\t { nx:=λ_ H'=>Q .zI H',rt:=Q } όa H):gr P w K mg È x ps ĸ sp:=by
 let{f,p,F,n,o}:=d;let{u,r,kV,l,y,z,a,v,m,rfl,j,g}:=F.ex;show{f,_,n,F.kp,o,Q5 j g S c λA é s H vs Q E i e=>?_};let{t,h,q}:=b f a A é s H vs Q E i e;show{t,h.h,q}
#print a
section
variable{X:Cx}{x:Ç}{pos p:Pos}{e:Ñ}{es:Á Ñ}{t:TA}{E:XK}{ps:Á Ç}{j k:Ä}{sp:Sp}
def y1j(h:gr ì X.w X.K â Ĥ x ps k sp)(i:pU Æd X E)(d:yG j X.A)(g:Gl X x)(m:QA X ă t)(hk:Ì Ùa q10)(a:Ì Ģ q10)(c:Ì Ϣ q12):QE X ċa Ŷm:=by let{f,o,n,l,b,F}:=h;rw[Ő,ć]at c;show{cA F ϟn g n l b .nil i m.h a (vS c.1) (qe c.2)}
#print a
#print L2
namespace L2
open č Ĕ ď
abbrev Cx.marked(X:Cx)(a:Ë):Cx:={ X with A:=X.A.mark Ŧb,calm:=Å,xe:=λ_ _=>í }
abbrev Cx.IL(X:Cx)(A:è)(xe:Value->Í->Æ):Cx:={ X with A:=A,calm:=Å,xe:=xe }
section
variable{X:Cx}{z0:Á ô}{σ:St}{H H':Hp}{s:Í}{a C:Ë}
theorem zD.IL(I:zD X z0 σ H s){A:è}(a:üd=ϱh)(xe:Value->Í->Æ):zD (X.IL A xe) z0 σ H s:=
 {{ðe,Ŝa,öi,Ųf,Ĝf,űf,Œi,I.ok.Z_,ëa,þd Ñd,Ϥf,I.ok.XQ,I.ok.bs,Ēd,şf,ϣf,Ϡi,Ϣf},Ϥa,đa,Ħd,Úa,øa,Đa,ϣa,ûa,Ď,ŭa}
theorem zD.marked(I:zD X z0 σ H s)(a:Ë):zD Çd z0 σ H s:=I.IL (A:=X.A.mark Ŧb) rfl _
def zD.unmarked(I:zD Çd z0 σ H s)(b:ż=Ã->æb=Â):zD X z0 σ H s:=
 {{ðe,Ŝa,öi,Ųf,Ĝf,űf,Œi,I.ok.Z_,b,Ñd,Ϥf,I.ok.XQ,I.ok.bs,Ēd,şf,ϣf,Ϡi,Ϣf},Ϥa,đa,Ħd,Úa,øa,Đa,ϣa,ûa,Ď,ŭa}
def tS(a C:Ë)(h:Heap):Æ:=∃o vs,Ć a=À o/\Ça=.ref C/\Ϛ=.fields vs/\vs[2]?=À .none
def fV{fs ex:Á Ë}{H H':Hp}{h h':Heap}{D:Ë}{o:HO}(u:Un fs ex H H' h h')(f:Ć D=Â)(d:H' D=Â):Un fs ex H Đn h h' where
 ēa:=Ġe
 slot:=Îg
 free:=λb c q n g=>by rw[zr (λz=>by subst z;rw[f]at q;cases q)];show Ïg b c q n g
 óg:=ϙf
 vW:=λb e q=>by rw[zr Ĉl];show u.vW b e q
 vi:=λb c v q=>by rw[zr Ϩk];show u.vi b c v q
 uW:=λb i q=>by rw[Ĭp]
def XP(X:Cx)(z0:Á ô)(σ:St)(E:XK)(a:Value)(s':Í):Æ:=∃H s1,zD X z0 σ H s1/\vL ì X.w ķ H s1 E a s'
#print a
abbrev TX:=St->Hp->VK->XK->Æ
structure QX(X:Cx)(e:Ñ)(t:TX):Æ where
 h:∀(z0:Á ô) (s:Í) (σ:St) (H:Hp) (Q:VK) (E:XK),zD X z0 σ H s->t σ H Q E->Õ ā X.A Ãd ϫa ŵm s
section
variable{X:Cx}{x n:Ç}{p:Pos}{e e1 e2:Ñ}{j k i:Ä}{E:XK}
def Ad{f:Á ô}{σ:St}{H H':Hp}{d s':Í}{a C:Ë}{a0:Value}{B:Heap}(I:zD X f σ H d)(E:Ìb=[])(u:õg=d.os)(l:äc Ϛf)(fl:Ĕb B ķ a ú a0 ťa)(x:uX ì X.w ķ H d.heap B H' ťa)(lo:wx a ťa):H' a=Â/\zD X f σ H' s'/\zD X f σ ŧm s':=by
 let h:H' a=Â:=by
  cases q:H' a with
  |Â=>rfl|À o=>let{Q,e}:=x.tr a o q;rw[fl.2.1]at e;cases e
 let{t,n,e1,N,i,_}:=fl.first
 let A:ŏn a=Â:=by
  cases q:ŏn a with
  |Â=>rfl|À o=>
   exfalso
   by_cases c:a∈xg ķ;let{y,s,e2,F}:=I.ID a c;let{O,r}:=ái a s e2 y c ü;rw[e1]at r;cases r;show F n i;let{P,m}:=òg a o q c;rw[fl.2.1]at m;cases m
 let J:zD X f σ H' s':=I.Ur u x.un x.ok l (ch:=[]) ĸl;let{s,T,p,j,z}:=lo;rw[e1]at p;cases p;rw[i]at j;cases j;let g:yj ì X.w ŧm ťa a Ϫa:={{t,n,e1,N,i,z},{t,e1},λS R ⟨o,G,L,v,K⟩ k=>{o,G,k o L,v,K}};show{h,J,I.Ur u (fV x.un A h) (EC x.ok h g) l (ch:=[]) ĸl}
#print a
structure qL(k:Ä)(A:è):Æ where
 dp:ŏc+3*k+5<Øf
 un:äa+16*k+200<ϒ
def qL.mono{j k:Ä}{A:è}(r:qL k A)(h:j<=k):qL j A:={by let:=ùc;omega,by let:=Ŧc;omega}
theorem qL.deeper{k:Ä}{A:è}(r:qL ĸ A)(env:Env):qL k Ţo:=
 {by rw[Ϛp],by rw[żp]}
theorem qL.depth{k:Ä}{A:è}(r:qL k A):ŏc<Øf:=by let:=ùc;omega
def yG.marked{k:Ä}{A:è}(r:yG k A)(v:É Value):qL k (A.mark v):={ùc,Ŧc}
abbrev Tt(P:à)(w:ß)(K:Ï)(mg:Ç->É Value)(È:Heap)(N:Á Ç)(ça:Ç)(ĳ:ϭ)(f:Ë)(cd:Value)(A:è)(é:Á Env)(s:Í)(H:Hp)(E:XK):Cx:=
 { (u3 yo P w K mg È N ça ĳ f cd A é s H E)with calm:=Å,xe:=λ_ _=>í }
def g6.calm{P:à}{w:ß}{K:Ï}{a:Ç->É Value}{È:Heap}{A:è}{é:Á Env}{s:Í}{H:Hp}(e:g6 P w K a È A é s H):g6 P w K a È { A with handled:=Â } é s H:=
 {Ņi,e.mod,e.bs,e.pO,e.tP,e.jz,e.zU,e.bare}
abbrev TJ:=St->Hp->Ç->VK->Æ
structure QJ(X:Cx)(es:Á Ñ)(t:TJ):Æ where
 h:∀(z0:Á ô) (s:Í) (σ:St) (H:Hp) (acc:Ç) (Q:VK),zD X z0 σ H s->t σ H acc Q->Õ ā X.A (Ħo acc (evalEach es Ó)) ϫa ĥ s
section
variable{X:Cx}{e e1 e2:Ñ}{es:Á Ñ}{te:TE}{t:TJ}{pos:Pos}
nonrec def y74(te:TE)(t:TJ):TJ:=λσ H a Q=>te σ H λv b=>∃y,v=.str y/\(ïc).length<=á/\t σ b ïc Q
def y1m:QJ X [] (λ_ H acc Q=>Įc<=á/\Q (.str acc) H):={λa s σ H acc Q I q=>wpAny_mkStr {.str acc,H,Ž _,{_,rfl},q.2} q.1}
def y1l(k:QE X e te)(d:QJ X es t):QJ X ă (y74 te t):=by show{λc s σ H a Q I q=>?_};exact Õ _ _ (Ħo a (Ċ e Ó::evalEach es Ó)) _ _ s;show joinParts_cons (zn (k.h c s σ H _ I q) λu m ⟨v,l,f,r,y,i,j,g⟩=>?_);subst i;rw[ŭp];show{j,d.h c m σ l _ Q f g}
def y1i(h:QJ X ħn t):QE X (.JoinedStr ħn pos) (λσ H Q=>t σ H ľf Q):={λa s σ H Q I q=>h.h a s σ H _ Q I q}
nonrec def y70(te:TE):TE:=λσ H Q=>te σ H λv b=>(∃a:Ê,v=.int a/\ϔm<1920/\Q (.str ϭg) b)\/∃y:Ç,v=.str y/\Ìc<=á/\Q (.str y) b
def y1h(k:QE X e te):QE X Îk (y70 te):=by show{λj s σ H Q I q=>?_};show FormattedValue_plain (zn (k.h j s σ H _ I q) λu m ⟨v,g,f,r,z⟩=>?_);rcases z with⟨a,rfl,d,c⟩|⟨y,rfl,d,c⟩;let{b,rfl}:=(show ∃b,u=ŧb a b from r);show formatField_int_small d {.str ϭg,g,f.tok _,{_,rfl},c};rw[ŭp];show formatField_str (λl i=>{.str y,g,f.tok _,{_,rfl},c}) d
def z1r{a:Ê}(h:ϔm<1920):(ϭg).length<=1921:=by let e:=int_text_length_le (k:=1920) Û h;rw[PySem.ofString_length];show e
def x0c{a:Ç}{m:Ä}(h:Ϫ<=m)(b:Ì (m<=16777216) q10):Ϫ<=á:=Ĳ h (by rw[Ľ];show b)
#print a
open Ϡf (Looks Úg ĺe øf Żh Ļe)
structure qG(K:Ï)(C:Ë):Æ where
 ga:Úg K ú ϣb=À ϙe
 gt:Úg K ú æf=À Â
 cl:Úg K ú åb=À Ñc
 mo:ĺe K C Ϫb=À Ã
 mb:ĺe K C Őd=À Ã
section
variable{Ā:à}{w:ß}{A:è}{E:Value->Í->Æ}{h:Heap}{g:Ú œi}{d:Drawn}{t:Ä}{os:OsState}{a C:Ë}{o:Obj}{K:Ï}
def z05{R:Ĵb->Í->Æ}(Z:qG K C)(f:İ h)(e:Ć a=À o)(c:Ça=.ref C)(i:R (.ok Ċo) {h,g,d,t,os}) :ďa æ A (.call ěj {[.builtin ěl,.ref a,.ref C],[]}) R {h,g,d,t,os}:=by
 let b:({h,g,d,t,os}:Í).TypeIs Îb èl:=Ŏg;let L:Looks æ h (æi ú (.type (".".intercalate ((ěl).cutAt '.').dropLast))) Ã:=by rw[F.owner_object_class];show Żh f Z.mo
 show œg PySem.F.slot_gs_get.plain F.entry_gs_get (PySem.F.slot_gs_get.check _ _ _ _ _ _ _ _ b (F.args_gs_get _ _ _) ?_)
 repeat (any_goals (first|assumption|(with_reducible show ōd e ?_;rw[c])|with_reducible show L.at ?_|wp_step))
 refine{Įl _ ÿa,Ăb F.entry_object_class ?_}
 repeat (any_goals (first|assumption|(with_reducible show ōd e ?_;rw[c])|wp_step))
def z03{M:öc}{b:Value}{Q:èa->Í->Æ}(Z:qG K C)(i:İ h)(f:Ć a=À o)(k:Ça=.ref C)(e:Q () {h,g,d,t,os}) :Õ M A (Õh Ųc {[.ref a,b],[]}) Q E {h,g,d,t,os}:=by
 let j:Őn Ųc=À .slot:=by rw[Ôp]
 let c:splitId Ųc=À ("BaseException",ϣb):=by rw[Ôp]
 let L:Looks M h (æi ú Őd) Ã:=Żh i Z.mb;let l:=F.args_bexc_ga ý b;simp only[Õh,j,c];show Ð ?_
 .unfold Ão
  repeat (first|(with_reducible show ōd f ?_;rw[k])|with_reducible show L.at ?_|wp_step)
  show e
def z04{tk:Tok}{Q:Fin->Í->Æ}(Z:qG K C)(c:İ h)(b:Ć a=À o)(e:Ça=.ref C)(k:Q (.done Ċo) {h,g,d,t,os}) :Õ æ A (Builtin.«object.__getattribute__» {[.ref a,.str åb tk],[]}) Q E {h,g,d,t,os}:=by
 let f:({h,g,d,t,os}:Í).TypeIs Îb èl:=Ŏg;let L:=øf (M:=øg Ā w) c Z.cl;let j:=Ŏg;let l:=PySem.F.slot_gs_get.lookup;let i:=F.slot_gs_set.lookup
 repeat (any_goals (first|assumption|(with_reducible show ōd b ?_;rw[e])|with_reducible show L.at ?_|wp_step))
 show z05 Z c b e ?_
 repeat (any_goals (first|assumption|wp_step))
def z02{tk:Tok}{Q:Value->Í->Æ}(Z:qG K C)(b:İ h)(c:Ć a=À o)(e:Ça=.ref C)(m:Q ú {h,g,d,t,os}) :Õ æ A (įo ý (.str åb tk) Å) Q E {h,g,d,t,os}:=by
 let i:=F.excAttr_ValueError;let n:=i.ga.bind ý;let f:(Ϗd Ųc == Ϗd ĥk)=Å:=by rw[Ôp]
 let j:(onTheHeap (ÿ C)&&Ϗd Ųc == Ϗd ĥk)=Å:=by rw[f];rfl
 let k:=øf (M:=øg Ā w) b Z.ga;let l:=øf (M:=øg Ā w) b Z.gt
 repeat (any_goals (first|assumption|(with_reducible show ōd c ?_;rw[e])|with_reducible show k.at ?_|with_reducible show l.at ?_|wp_step))
 show œg i.ga.plain F.entry_bexc_ga (z03 Z b c e (z04 Z b c e ?_))
 repeat (any_goals (first|assumption|wp_step))
def z01{Q:É Value->Í->Æ}(Z:qG K C)(e:İ h)(c:Ć a=À o)(b:Ça=.ref C)(f:Q š {h,g,d,t+1,os}) :Õ æ A (getAttr? (.ref a) åb) Q E {h,g,d,t,os}:=by
 unfold getAttr? getAttrBy?
 repeat (any_goals (first|assumption|with_reducible apply z02 Z e c b|wp_step))
def z2p(Z:qG K C):W.KitX K ý ú (tS a C) where
 ty:=λM h _ ⟨o,p,e,c,_⟩=>c▸(Looks.ld e).andThen .now
 it:=λM h X _=>by
  let q:=Z.mo;unfold ĺe at q;cases hcD:Ļe K C with
  |Â=>rw[hcD]at q;cases q|À cd=>
   unfold Ļe at hcD
   rw[Ϯp];intro x y B F k q;unfold isType loadHead;show Ð (İm (k _ _ Ϧo) (ċ q));cases hcD
 ne:=λh r G m n v X i=>by
  let q:=Z.mo;unfold ĺe at q;show Bool.eq_false_iff.mpr λz=>?_
  let e:C=r:=ϙm (Ÿd z);subst e;cases hcD:Ļe K C with
  |Â=>rw[hcD]at q;cases q|À cd=>
   unfold Ļe at hcD
   rw[Ϯp];let z:=(Ϧo).symm.trans i;cases z;cases hcD
 ca:=λ{Ā w A E Q s} X ⟨o,p,e,c,_⟩ k=>by let{h,g,d,t,os}:=s;show z01 Z X e c k
#print a
def wm.lO{K:Ï}{a:Ç->É Value}{x:Ç}{C:Ë}(c:wm K a x C):wN a x ú:={.ref C,c.at_,rfl}
def FN:Ś Ōh=À ćb:=by rw[Ôp]
nonrec def AF:V->É Value
 |.ref D=>À ńc|.ty T=>À ėa|_=>Â
def rR{c:V}{a u:Value}(h:AF c=À a)(r:zu c u):u=a:=by cases c<;>first|(cases h;show r)|cases h
def AC{X:Cx}:wM X ώd (λxs H Q=>∃a C c cv b,xs=[.ref a,c]/\H a=À Ϫa/\qG X.K C/\AF c=À cv/\ç X.K ú cv=À b/\Q ób H):=by intro n s σ H xs m Q I r h;let{a,C,c,cv,b,rfl,d,Z,j,e,q}:=h;let{u,l,rfl,g,i}:=JR r;cases(show u=ÿ a from g);obtain rfl:=rR j i;let{k,_}:=(show yj ì X.w H Ü a Ϫa from Ď a _ d);show śa (z2p Z) ŝ k e ëa λf=>{.bl b,H,Ž f,rfl,q}
#print L2
namespace L2
open č Ĕ ď
section
variable{X:Cx}
def Md{ns:Á Ê}{its:Á Value}(r:zk Œa its){i:Ä}{v:Value}(h:ϲ[i]?=À v):∃t,v=.int ŋo t:=by
 rw[ŵp]
 let e:Ŷ=éb:=by rw[Æq]
 let c:Œa[i]?=À (.int ŋo):=by rw[Üa,Ñb,ļ Î];rfl
 rw[őp]
theorem E_{ns:Á Ê}:∀(k:Ä),k<=Ŷ->ģe Ŝm k=(Ēf).sum
 |0,_=>by simp[ģe]|k+1,h=>by rw[ģe,E_ k Î,Ře Î,List.sum_append,Ñb,ļ Î];exact _+ns[k]=_+(ns[k]+0);rw[Int.add_zero]
def SV(ns:Á Ê):Æ:=(∀n∈ns,ág n)/\∀k,k<=Ŷ->ág (Ēf).sum
def dG(K:Ï):Á V->Hp->VK->Æ:=λa H Q=>∃(p:Ë) (ns:Á Ê),a=Òc/\(yQ K H p Œa\/yf K H p Œa)/\SV ns/\Q (.int æj) H
def fC{ns:Á Ê}(h:SV ns):∀j,j<Ŷ->ág (ĝf j 0)/\ág (ģe Ŝm ϵ):=λj a=>by show{h.1 _ ?_,?_};rw[Ñb,ļ a];show Âf a;rw[E_ _ Î];show h.2 _ Î
def rL(E:ż=Ã):wM X Ŷd (dG X.K):=by
 intro N s σ H L J Q I r h;let{p,d,rfl,t,A,q}:=h;let{u,rfl,C}:=vg r;cases C;let B:=Ĝa E;let e:ģe (λi=>ëj i 0) Ţa=d.sum:=by rw[E_ _ ğ,Ųd]
 show call_sum_walk ?_;rcases t with t|t;let{a,l,m,F}:=ű t;rw[ģp]
 let c:p<Ý:=by let{o,n,e,_}:=m;show Ğ e
 show Ąc m.isList ?_;refine{_,_,_,_,_,_,λi=>ëj i 0,rfl,ϲh ϣn Ý p ϸi ώa,{{_,ť _ rfl,rfl,rfl},m.isList.push _},?_,λi v x=>Md l x,?_,?_};rw[Ĉp];rcases j with rfl|rfl;rw[Ĕp]
 show⟨.int d.sum,H,íc (t':=y) λb o g=>k b o (λz=>by
  rw[Ėp]
  rw[łp]) Ďi,{_,rfl},q⟩
 let{a,l,m,F}:=Ϭ t;rw[ģp]
 let f:ϱc p ώa:=m;let c:p<Ý:=by let{o,e,_}:=f;show Ğ e
 show šg f ?_;refine{_,_,_,_,_,_,λi=>ëj i 0,rfl,Walks.tuple ϣn Ý p ϸi ώa,{{_,ť _ rfl,rfl,rfl},f.push _},?_,λi v x=>Md l x,?_,?_};rw[Ĉp];rcases j with rfl|rfl;rw[Ĕp]
 show⟨.int d.sum,H,íc (t':=y) λb o g=>k b o (λz=>by
  rw[Ėp]
  rw[łp]) Ďi,{_,rfl},q⟩
def x2i{bs:Á Ò}{its:Á Value}(r:zk Ϙd its){i:Ä}{v:Value}(h:ϲ[i]?=À v):v=.bool Āh:=by
 rw[ŵp]
 let e:âd=éb:=by rw[Æq]
 let c:Ϙd[i]?=À (.bl Āh):=by rw[Üa,Ñb,ļ Î];rfl
 rw[őp]
def y2b{bs:Á Ò}:(Ýb âd).all ϑg=bs.all id:=by
 rw[ϫb,ϲl,ϲl]
 rw[Èq];intro h b d;let{i,c,rfl}:=ŗk d;let:=h i (Īl c)
 rwa [Ñb,ļ c]at this;intro h i c;let a:=List.mem_range.mp c;rw[Ñb,ļ a];show h _ (Âf a)
def cj(K:Ï):Á V->Hp->VK->Æ:=λa H Q=>∃(p:Ë) (bs:Á Ò),a=Òc/\yQ K H p Ϙd/\Q (.bl (bs.all id)) H
def oj(x:ż=Ã):wM X ßm (cj X.K):=by
 intro N s σ H E C Q I r h;let{p,c,rfl,y,q}:=h;let{u,rfl,t}:=vg r;cases t;let w:=Ĝa x;show call_all_walk ?_;let{a,j,f,F}:=ű y;let B:Ϻa=ϱb:=by let:=Ča;rw[þ]at this;rw[đ];show this
 let d:p<Ý:=by let{o,n,e,_}:=f;show Ğ e
 show Ąc f.isList ?_;refine{_,_,_,_,_,_,λi=>Če i Å,rfl,ϲh (by show w) Ý p (Ŕ d) ώa,{{_,ť _ rfl,rfl,rfl},f.isList.push _},?_,?_};intro i v G J L m l;rw[x2i j m];show ċ l;intro l A k;rw[<-B,y2b]
 show⟨.bl (c.all id),H,íc (t':=A) λb o g=>k b o (λz=>by
  rw[Ėp]
  rw[łp]) Ďi,rfl,q⟩
#print a
open Builtin.SmallTypes (Űb)
structure Xg(P:à)(w:ß)(it l:Ë)(st:Ä->Heap->Æ)(n:Ä)(val:Ä->Value):Æ where
 ēa:∀i h h',st i h->(∀b o,(b=it\/b=l)->Ć b=À o->ė b=À o)->st i h'
 Ůa:∀{A:è}{Q:Value->Í->Æ}{E:Value->Í->Æ}{s:Í}(i:Ä),st i Ü->i<n->(∀h',st ē h'->ϰa it Ü h'->Q (val i) { s with ä:=h' })->Õ Řa A ņf Q E s
 done:∀{A:è}{Q:Value->Í->Æ}{E:Value->Í->Æ}{s:Í}(i:Ä),Ĺa=Â->st i Ü->n<=i->
  (∀h' e,ώh it Ü h'->(∃o,ė e=À o/\Ça=.type ϛc)->E íb { s with ä:=h' })->Õ Řa A ņf Q E s
section
variable{Ā:à}{w:ß}{A:è}{E:Value->Í->Æ}{s:Í}
def z4q{it t:Ë}{i:Ä}{İd}{x:Value}{Q:Value->Í->Æ}(a:Ġl it t i)(g:ϱc t İd)(f:İd[i]?=À x)(j:∀h',h'.IsTupleIter it t ē->ϰa it Ü h'->Q x { s with ä:=h' }):Õ æ A ņf Q E s:=by
 let{o,c,h,b}:=id a;let{l,d,_,k,e}:=g;unfold Űb
 show Ð (Āc (Į:=Ŋb ϸd) a.typeIs ŗe
  (Ňb ŗe a.typeIs Àk ?_ Ϙj))
 show Ð (m:=øb Ĳa 0) (êa c b (x:=.ref t) rfl ?_);rw[Ļp];show Ð (m:=øb Ĳa 1) (êa c b (x:=.int i 0) rfl ?_);show Ð (m:=seqItems? (.ref t)) (Źa d e ?_);simp only[Īa,f];refine Ð (ĉc c b ü (ċ {x,rfl,ċ (j _ ?_ (Ϟg ..))}))
 show{_,ňb _ c (ńd (ϊc b _)),(ŭl ..).trans h,by rw[ϊc b];simp[Æb]}
def z4p{it t:Ë}{i:Ä}{İd}{Q:Value->Í->Æ}(h:Ĺa=Â)(b:Ġl it t i)(k:ϱc t İd)(j:İd[i]?=Â)(l:∀h' e,ώh it Ü h'->(∃o,ė e=À o/\Ça=.type ϛc)->E íb { s with ä:=h' }):Õ æ A ņf Q E s:=by
 let{o,g,q,c}:=id b;let{p,d,_,n,f}:=k;unfold Űb
 show Ð (Āc (Į:=Ŋb ϸd) ød ŗe
  (Ňb ŗe ød Àk ?_ Ϙj))
 show Ð (m:=øb Ĳa 0) (êa g c (x:=.ref t) rfl ?_);rw[Ļp];show Ð (m:=øb Ĳa 1) (êa g c (x:=.int i 0) rfl ?_);show Ð (m:=seqItems? (.ref t)) (Źa d f ?_);simp only[Īa,j];refine Ð (Ĉc (Ð (ĉc g c ü ?_)));show Ð (m:=Õg Ϭn []) ?_;rw[øp];simp only[ķi];show Ð Ŀl
 first|rw[show A.in1.handled=Â from h]|rw[h]
 show Ð (ċ (Ńn ?_));show l _ _ (((Ϟg ..).extBut.push _).push _) {_,ť _ rfl,rfl}
def y5z{it l:Ë}(d:l≠it)(a:Ú Value):Xg Ā w it l (λi h=>ùf it l i/\ľi l a) ù żg where
 ēa:=λi h f st k=>{st.1.at λo e=>k it o Ũ e,st.2.at λo e=>k l o Ĝc e}
 Ůa:=λi st c n=>wpAny_nextOf_list_item st.1 st.2 (x:=a.getD i .none) Ðm λf b g=>n f {b,st.2.extBut g.extBut d} g
 done:=λi j st c m=>wpAny_nextOf_list_end j st.1 st.2 (Ůg c) m
def y60{it l:Ë}(d:l≠it)(a:Ú Value):Xg Ā w it l (λi h=>ϑm it l i/\īo l a) ù żg where
 ēa:=λi h f st k=>{st.1.at λo e=>k it o Ũ e,st.2.at λo e=>k l o Ĝc e}
 Ůa:=λi st c n=>z4q st.1 st.2 (x:=a.getD i .none) Ðm λf b g=>n f {b,st.2.extBut g.extBut d} g
 done:=λi j st c m=>z4p j st.1 st.2 (Ůg c) m
variable{z TI TO i1 i2 l1 l2:Ë}{st1 st2:Ä->Heap->Æ}{n1 n2:Ä}{v1 v2:Ä->Value}{a b:Value}{k:Ä}
def x56{Q:Value->Í->Æ}(D:íe z TI TO i1 i2 l1 l2)(H:Xg Ā w i1 l1 st1 n1 v1)(L:Xg Ā w i2 l2 st2 n2 v2)(hz:Ϡa Ü z TI TO .none)(T:ģa Ü TI ße Ŗf)(U:ģa Ü TO a b)(h1:st1 k Ü)(h2:st2 k Ü)(k1:k<n1)(k2:k<n2)(hi1:i1<Ý)(hi2:i2<Ý)(hl1:l1<Ý)(hl2:l2<Ý)(hQ:∀h',Ϡa h' z TI TO (Æb Ý)->ģa h' TO ħd çg->st1 ĸ h'->st2 ĸ h'->ģa h' Ý ħd çg->
   (∀c o,c≠z->c≠TO->c≠i1->c≠i2->ö c=À o->ė c=À o)->Q ţb { s with ä:=h' }) :
  Õ æ A żj (λfin s'=>∃v,fin=.done Ïe/\Q v s') E s:=by
 rw[įp];show Ð (Źa T rfl ?_);rw[ÿp];refine Ð (ſc hz ü λha u y=>?_)
 replace u:Ϡa ha z TI TO .ellipsis:=u
 rw[Ÿp];let h1a:st1 k ha:=öj k _ _ h1 λc o J e=>äe c o (by rcases J with rfl|rfl;show Ĉg;show D.l1z) e
 show Ð (Κa (Ð (m:=Űb ße) (H.item k h1a k1 λhb Y B=>ċ ?_)));let l:ģa hb TO a b:=òe _ _ D.TOi1 (äe _ _ ĉg U);show Ð (Źa l rfl (Ð (Œg l λJ h p=>?_)))
 replace h:ģa J TO ħd b:=h
 show Ð Űh
 let X:st2 k J:=òj k _ _ h2 λc o d e=>by rcases d with rfl|rfl;show ód _ _ Ϗh (òe _ _ Ïo (äe _ _ ćg e));show ód _ _ ùj (òe _ _ D.l2i1 (äe _ _ D.l2z e))
 show Ð (Κa (Ð (m:=Űb Ŗf) (L.item k X k2 λhd P C=>ċ ?_)));let j:ģa hd TO ħd b:=ñe _ _ D.TOi2 h;show Ð (Źa j rfl (Ð (Œg j λf g t=>?_)))
 replace g:ģa f TO ħd çg:=g
 show Ð (ře Ÿo);show Ð (Źa g rfl (Ð (ώg ?_)));let G:żd=Ý:=by rw[t.1,C.1,p.1,B.1,y.1]
 let F:Ϡa f z TI TO .ellipsis:=òd _ _ Ϻh (ñe _ _ Îo (ód _ _ Ϻh (òe _ _ Ϲh u)))
 let Z:∀c o,c≠z->c≠TO->c≠i1->c≠i2->ö c=À o->f.get? c=À o:=λc o q I O c4 e=>
  òd _ _ I (ñe _ _ c4 (ód _ _ I (òe _ _ O (äe _ _ q e))))
 let W:st1 ĸ f:=öj _ _ _ Y λc o d e=>by rcases d with rfl|rfl;show òd _ _ Ťn (ñe _ _ D.i12 (ód _ _ Ťn e));show òd _ _ D.l1TO (ñe _ _ D.l1i2 (ód _ _ D.l1TO e))
 let S:st2 ĸ f:=òj _ _ _ P λc o d e=>by rcases d with rfl|rfl;show òd _ _ Ϗh e;show òd _ _ ùj e
 let n:z<żd:=Ğ F;show Ð (m:=ϣj Ůb ċo) ?_;unfold ϣj;let R:Ϡa (f.push { cls:=.type Œ,Č:=.seq #[v1 k,v2 k] }) z TI TO .ellipsis:=Ġ _ F;refine Ð (ſc R ü λhg r sg=>?_)
 replace r:Ϡa hg z TI TO Ŗo:=r
 refine ſc r ü λK i sh=>?_
 replace i:Ϡa K z TI TO Ŗo:=i
 let N:∀c o,c≠z->f.get? c=À o->K.get? c=À o:=λc o q e=>Ĝo _ _ q (ĝo _ _ q Øe)
 let hT:ģa K żd ħd çg:=Ĝo _ _ (ϋa n) (ĝo _ _ (ϋa n) řb);rw[G]at i hT;show ċ {_,rfl,?_};exact Q ċo _;rw[G];show hQ K i (N _ _ ĉg g) (öj _ _ _ W λc o d e=>N c o ?_ e) (òj _ _ _ S λc o d e=>N c o ?_ e) hT λc o q I O c4 e=>N c o q (Z c o q I O c4 e)
 .rcases d with rfl|rfl
  .show Ĉg
  .show D.l1z
 .rcases d with rfl|rfl
  .show ćg
  .show D.l2z
def x55{Q:Fin->Í->Æ}(S:Ĺa=Â)(D:íe z TI TO i1 i2 l1 l2)(v:Xg Ā w i1 l1 st1 n1 v1)(T:Xg Ā w i2 l2 st2 n2 v2)(hz:Ϡa Ü z TI TO .none)(B:ģa Ü TI ße Ŗf)(F:ģa Ü TO a b)(h1:st1 k Ü)(Z:st2 k Ü)(N:n1<=k\/n2<=k)(P:∀h' e,(∀c o,c≠z->c≠TO->c≠i1->c≠i2->ö c=À o->ė c=À o)->(∃o,ė e=À o/\Ça=.type ϛc)->E íb { s with ä:=h' }) :Õ æ A żj Q E s:=by
 rw[įp];show Ð (Źa B rfl ?_);rw[ÿp];refine Ð (ſc hz ü λR g l=>?_)
 replace g:Ϡa R z TI TO .ellipsis:=g
 rw[Ÿp];let r:st1 k R:=v.keep k _ _ h1 λc o H e=>Ée c o (by rcases H with rfl|rfl;show Ĉg;show D.l1z) e
 by_cases k1:k<n1;let Y:n2<=k:=by omega
 show Ð (Κa (Ð (m:=Űb ße) (v.item k r k1 λC h1b h=>ċ ?_)));let i:ģa C TO a b:=ëe _ _ D.TOi1 (Ée _ _ ĉg F);show Ð (Źa i rfl (Ð (Œg i λH O u=>?_)));show Ð Űh
 let J:st2 k H:=Ĥd k _ _ Z λc o I e=>by rcases I with rfl|rfl;show Ťf _ _ Ϗh (ëe _ _ Ïo (Ée _ _ ćg e));show Ťf _ _ ùj (ëe _ _ D.l2i1 (Ée _ _ D.l2z e))
 show Ð (Κa (Ð (m:=Űb Ŗf) (ðj k S J Y λX e U G=>?_)));let{K,d,f}:=G;let t:Ϡa X z TI TO .ellipsis:=U _ _ Îo (Ťf _ _ Ϻh (ëe _ _ Ϲh g));let j:e≠z:=λx=>by subst x;rw[t]at d;cases d;simp at f
 show ſc t ü λL _ q=>P L e (λc o p W y c4 x=>ťf _ _ p (U _ _ c4 (Ťf _ _ W (ëe _ _ y ϫm)))) {K,ťf _ _ j d,f};refine Ð (Κa (Ð (m:=Űb ße) (v.done k S r Î λC e h G=>?_)));let{K,d,f}:=G;let n:Ϡa C z TI TO .ellipsis:=h _ _ Ϲh g;let j:e≠z:=λx=>by subst x;rw[n]at d;cases d;simp at f
 show ſc n ü λL _ q=>P L e (λc o p _ y _ x=>ťf _ _ p (h _ _ y ϫm)) {K,ťf _ _ j d,f}
#print a
#print L2
namespace L2
open č Ĕ ď
def tj(K:Ï)(b:Ò)(H:Hp)(a:Ë)(xs:Á V):Æ:=match b with
 |Ã=>yf K H a xs|Å=>yQ K H a xs
nonrec def QZ(a:Ò):Ż:=match a with
 |Ã => "tuple_iterator"|Å => äm
def qM(b:Ò)(h:Heap)(a:Ë)(its:Ú Value):Æ:=match b with
 |Ã=>īo a its|Å=>ľi a its
def YK(a:Ò)(h:Heap)(it l:Ë)(i:Ä):Æ:=∃o,Ć it=À o/\Ça=.type (QZ a)/\Ϛ=.fields #[.ref l,.int i 0]
theorem YK.at{a:Ò}{h h':Heap}{it l:Ë}{i:Ä}(x:YK a h it l i)(e:∀o,Ć it=À o->ė it=À o):YK a h' it l i:=let ⟨o,ho,r⟩:=x;{o,e _ ho,r}
theorem qM.push{b:Ò}{h:Heap}{a:Ë}{its:Ú Value}(x:qM b h a its)(o:Obj):qM b (Ùg o) a its:=by cases b;show Heap.IsList.push x o;show Heap.IsTuple.push x o
def qM.lt{b:Ò}{h:Heap}{a:Ë}{its:Ú Value}(x:qM b h a its):a<ϱa:=by cases b;let{o,e,_}:=x;show Ğ e;let{o,e,_}:=x;show Ğ e
section
variable{Ā:à}{w:ß}{A:è}{E:Value->Í->Æ}{s:Í}
def MI{c:Ò}{it l:Ë}(b:l≠it)(a:Ú Value):Xg Ā w it l (λi h=>YK c h it l i/\qM c h l a) ù żg:=by cases c;show y5z b a;show y60 b a
def cY{b:Ò}{l:Ë}{a:Ú Value}{Q:Value->Í->Æ}(h:qM b Ü l a)(c:Q ţb { s with ä:=Ŋa { cls:=.type (QZ b),Č:=.fields #[.ref l,.int 0 0] } }):Õ æ A (Ġd Þc) Q E s:=by cases b;show Ąc (show çf l a from h) c;show šg (show ϱc l a from h) c
abbrev Mm(t1:Ò)(h:Heap)(l1:Ë):Heap:=Ùg { cls:=.type (QZ t1),Č:=.fields #[.ref l1,.int 0 0] }
abbrev Mn(t1 t2:Ò)(h:Heap)(l1 l2:Ë):Heap:=(ın).push { cls:=.type (QZ t2),Č:=.fields #[.ref l2,.int 0 0] }
abbrev Mo(t1 t2:Ò)(h:Heap)(l1 l2:Ë):Heap:=(ŗl).push { cls:=.type Œ,Č:=.seq #[.ref ϱa,.ref (ın).objs.size] }
abbrev Mp(t1 t2:Ò)(h:Heap)(l1 l2:Ë):Heap:=(Ŗl).push { cls:=.type Œ,Č:=.seq #[.none,.none] }
abbrev UJ(t1 t2:Ò)(h:Heap)(l1 l2:Ë):Heap:=(Mp t1 t2 h l1 l2).push { cls:=.type Ĥa,Č:=.fields #[.none,.bool Å,.bool Å,.ref (ŗl).objs.size,.ref (Ŗl).objs.size] }
def x5a(c e:Ò)(a b:Ë)(xs ys:Ú Value) :Ăg (Builtin.«zip.__new__» {[.type Ĥa,.ref a,.ref b],[]}) (λ_ R s=>qM c Ü a xs/\qM e Ü b ys/\R (.ok (.ret (.ref (Mp c e Ü a b).objs.size))) { s with ä:=UJ c e Ü a b }):=
 .of_wp λprog w A R s h=>by
  let{o,g,d,n,l}:=s;let{k,f,h}:=h;let m:=sub_zip;let j:qM c (Ŗn {o,g,d,n,l}) a xs:=k;let i:qM e (Ŗn {Ű { cls:=.type (QZ c),Č:=.fields #[.ref a,.int 0 0] },g,d,n,l}) b ys:=qM.push f _
  wp_walk using cY j,cY i
  show{_,rfl,h}
def rN{b e:Ò}{a d:Ë}{xs ys:Ú Value}{Q:Value->Í->Æ}(l:qM b Ü a xs)(j:qM e Ü d ys)(h:∀h',Ϡa h' (Ý+4) (Ý+2) (Ý+3) .none->ģa h' (Ý+2) ţb Čo->
   ģa h' (Ý+3) .none .none->YK b h' Ý a 0->YK e h' ěa d 0->
   (∀c o,ö c=À o->ė c=À o)->Q (.ref (Ý+4)) { s with ä:=h' }) :
  Õ æ A (Ħa ϫn [.ref a,.ref d]) Q E s:=by
 refine callType_new F.called_zip Û (F.typeCall_zip_2 _ _) (F.newCall_zip_2 _ _) (λk=>F.args_object_init_3 k _ _) F.entry_zip_new (x5a b e a d xs ys) {l,j,?_};let m:(Mm b Ü a).objs.size=Ý+1:=ßb ..;let i:(Mn b e Ü a d).objs.size=Ý+2:=by rw[ßb,m]
 let f:(Mo b e Ü a d).objs.size=Ý+3:=by rw[ßb,i]
 let r:(Mp b e Ü a d).objs.size=Ý+4:=by rw[ßb,f]
 let g:(ŵd).get? (Mp b e Ü a d).objs.size=À _:=ť _ rfl;let p:(ŵd).get? (Mo b e Ü a d).objs.size=À _:=Ġ _ řb;let q:(ŵd).get? (Mn b e Ü a d).objs.size=À _:=Ġ _ (Ġ _ řb);let n:(ŵd).get? (Mm b Ü a).objs.size=À _:=Ġ _ āl;let t:(ŵd).get? Ý=À _:=Ġ _ (Ġ _ āl);exact _/\_;rw[i,f,r]at g;rw[m,i]at q;rw[f]at p;rw[m]at n;rw[r]
 show⟨{_,g,rfl},h _ g q p {_,t,rfl,rfl} {_,n,rfl,rfl} λc o x=>
  Ġ _ (Ġ _ (Ġ _ (Ġ _ (Ġ _ x))))⟩
#print a
section
variable{X:Cx}{z0:Á ô}{σ:St}{H:Hp}{s:Í}
def zD.Wq{b:Ò}{a:Ë}{xs:Á V}(I:zD X z0 σ H s)(h:tj X.K b H a xs):∃its:Á Value,zk xs its/\qM b Ü a ϲ:=by cases b;let{its,r,p,_}:=ű h;show{its,r,Ŧf};let{its,r,p,_}:=Ϭ h;show{its,r,p}
def zD.Pq{b:Ò}{a:Ë}{xs ys:Á V}(I:zD X z0 σ H s)(h:tj X.K b H a xs)(h':tj X.K b H a ys):xs=ys:=by cases b;show I.IF h h';show I.Bf h h'
def fU{fs ch:Á Ë}{h h':Heap}(k:∀b o,b ∉ ch->Ć b=À o->ė b=À o):Un fs ch H H h h':=
 {λb o e _ _ a=>k b o a e,λb o e _ _ a=>{ϓi,k b o a e},λ_ _ _ n _=>n,λb o e a=>{o,k b o a e},λ_ _ z=>z,λ_ _ _ z=>z,λb c e=>{#[],by rw[e];simp}}
def aE{P:à}{w:ß}{ch:Á Ë}{h h':Heap}(x:xW P w H h)(d:∀b∈ch,H b=Â)(k:∀b o,b ∉ ch->Ć b=À o->ė b=À o):xW P w H h':=λb u e=>by
 let a:∀c v,H c=À v->c ∉ ch:=λc v e z=>by rw[d c z]at e;cases e
 show(ěi).gj (λc v f q=>k c v ?_ q) ġf λ_ _ q=>q
 rcases f with z|z;rw[z];show a b u e;show a c _ z
def zD.but{ch:Á Ë}{h':Heap}{tk:Ä}(I:zD X z0 σ H s)(c:∀b∈ch,jP X z0 H b)(k:∀b o,b ∉ ch->ö b=À o->ė b=À o):zD X z0 σ H { s with ä:=h',Ě:=tk }:=
 I.Ur (s':={ s with ä:=h',Ě:=tk }) rfl (fU k) ĳk đa λb a=>{ůb.2.2.2.1,ůb.2.1,ůb.2.2.2.2.1,ůb.2.2.2.2.2}
def zD.BW{ch:Á Ë}{h':Heap}{tk:Ä}{T:Ë}{o:HO}(I:zD X z0 σ H s)(c:∀b∈ch,jP X z0 H b)(k:∀b o,b ∉ ch->ö b=À o->ė b=À o)(f:ö T=Â)(e:H T=Â)(d:yj ì X.w ϐn h' T o):zD X z0 σ ϐn { s with ä:=h',Ě:=tk }:=
 I.Ur (s':={ s with ä:=h',Ě:=tk }) rfl (fV (fU k) f e) (EC ĳk e d) đa λb a=>{ůb.2.2.2.1,ůb.2.1,ůb.2.2.2.2.1,ůb.2.2.2.2.2}
#print a
def Dl(K:Ï)(c d:Ò)(a b:Ë):It:=
  ⟨λi H=>∃xs ys x y,tj K c H a xs/\tj K d H b ys/\xs[i]?=À x/\ys[i]?=À y,
   λi H v e=>∃p,H p=Â/\v=.ref p/\∀xs ys,tj K c H a xs->tj K d H b ys->∃x y,xs[i]?=À x/\ys[i]?=À y/\e=upd H p Èd,
   λi H=>∃xs ys,tj K c H a xs/\tj K d H b ys/\(ë<=i\/ş<=i)⟩
def x0w{P:à}{w:ß}{K:Ï}{Y:Á Ñ}{S:Ä}{pos:Pos}(t1 t2:Ò)(a b z TI TO A r:Ë)(D:íe z TI TO A r a b) :g8 P w K (.Tuple Y S pos) ãh Ϣm z (λi h=>Ϡa h z TI TO .none/\ģa h TI īb (.ref r)/\(∃u v,ģa h TO u v)/\YK t1 h A a i/\YK t2 h r b i) where
 mem:=by simp
 obj:=λi h st c d=>by let{f,j,{u,v,m},{o4,p,_,d4},{o5,n,_,d5}}:=st;simp only[Ŕa,Óa,ša]at d;rcases d with rfl|rfl|rfl|rfl|rfl;show{_,f,λv q=>nomatch q};show{_,j,λv q=>nomatch q};show{_,m,λv q=>nomatch q};show{_,p,λv q=>by rw[d4]at q;cases q};show{_,n,λv q=>by rw[d5]at q;cases q}
 ēa:=λi h h' st k=>by let{f,j,{u,v,m},p,n}:=st;show{k z ü _ f,k TI ü _ j,{u,v,k TO ü _ m},p.at λo e=>k A ü o e,n.at λo e=>k r ü o e}
 Ůa:=by
  rw[ñp];let{xs,ys,x,y,hx,hy,ex,ey}:=hg;rw[ŧp];let{xu,N,rxu}:=ru.get ex;let{yw,Q,ryw}:=t.get ey;let k1:i<Ŋm:=by rw[đ];show(Ť N).1
  let k2:i<ŉm:=by rw[đ];show(Ť Q).1
  let e1:J.toArray.getD i .none=xu:=by let:=Ť N;let{l,e}:=this;simp[Ġh,l,e]
  let e2:L.toArray.getD i .none=yw:=by let:=Ť Q;let{l,e}:=this;simp[Ġh,l,e]
  let O:îb Ůb Ĥa:={_,f,rfl};let q4:A<Ý:=by let{o,e,_}:=p;show Ğ e
  let q5:r<Ý:=by let{o,e,_}:=n;show Ğ e
  unfold Ăe
  show Ð (Şd (Āc (Į:=Ŋb ϸd) O ϒe (Ňb ϒe O ϳl
   (x56 D Ϭk ģm f j m {p,pu} {n,Z} k1 k2 q4 q5 pu.lt Z.lt λh' a1 a2 a3 a4 a5 a6=>ċ ?_) Ϯk)))
  rw[e1,e2]at a2 a5;show{_,rfl,wpAny_letOwnedTupleGo_zip (s:={ s with ä:=h' }) a1 λB b1 G=>?_}
  let hTs:ö Ý=Â:=by
   cases q:ö Ý with
   |Â=>rfl|À o=>show Þ ĕe Åa
  let U:H Ý=Â:=ďb ğ;let hTz:Ý≠z:=ϋa (Ğ f);let tup:îc Ý=À { cls:=.type Œ,Č:=.seq #[xu,yw] }:=ûd _ _ hTz a5
  let S:∀c o,c ∉ Ϣm->ö c=À o->îc c=À o:=λc o d e=>by simp only[Ŕa,Óa,ša,Ôg]at d;show ûd _ _ d.1 (a6 c o d.1 d.2.2.1 d.2.2.2.1 d.2.2.2.2 e)
  let new:yj ì X.w (upd H Ý Èd) B Ý Èd:={Ťg,[xu,yw],.cons rxu (.cons ryw .nil),{_,tup,rfl,_,rfl}};show{.ref Ý,upd H Ý Èd,I.BW (tk:=ě) hf S hTs U new,rfl,{Ý,U,rfl,λxs' ys' hx' hy'=>?_},{b1,?_,{_,_,ûd _ _ ĉg a2},a3.1.at λo e=>ûd _ _ Ĉg e,a4.1.at λo e=>ûd _ _ ćg e},λc d=>?_};rw[I.Pq hx' hx,I.Pq hy' hy];show{x,y,ex,ey,rfl};show ûd _ _ D.TIz (a6 _ _ D.TIz D.TITO D.TIi1 D.TIi2 j);rw[zr];show(hf c d).1;intro q
  let R:c<Ý:=by simp only[Ŕa,Óa,ša]at d;rcases d with rfl|rfl|rfl|rfl|rfl;show Ğ f;show Ğ j;show Ğ m;show q4;show q5
  rw[q]at R;show Þ R Åa
 done:=by
  rw[ñp];let{xs,ys,hx,hy,hend}:=hg;rw[ŧp]
  let C:Ŋm<=i\/ŉm<=i:=by let l1:=ru.length;let l2:=æe;rw[ŋp]
  let O:îb Ůb Ĥa:={_,f,rfl};unfold Ăe
  show Ð (Şd (Āc (Į:=Ŋb ϸd) O ϒe (Ňb ϒe O ϳl
   (x55 (by show Ĝa d) D Ϭk ģm f j m {p,pu} {n,Z} C λh' e S he=>?_) Ϯk)))
  let{o,ho,hcl}:=he;show Ð (ūg (T := ϛc) (b:=Ã) {o,ho,hcl} ŀm ?_);show ċ {rfl,I.but (tk:=ě) hf λc ob g eb=>?_};simp only[Ŕa,Óa,ša,Ôg]at g;show S c ob g.1 g.2.2.1 g.2.2.2.1 g.2.2.2.2 eb
 úb:=λ_ _ _ _ _ st h=>ϥl st.1 h
def wV{a b:Ä}(h:a≠b):@Ne Ë a b:=h
def x57{n b a:Ä}(c:b<n)(d:a<n):íe (n+4) (n+2) (n+3) n ŋ b a:=
 {wV Î,wV Î,wV Î,wV Î,wV Î,wV Î,wV Î,wV Î,wV Î,wV Î,wV Î,wV Î,wV Î,wV Î,wV Î,wV Î,wV Î,wV Î}
def oV:Ś Ĥa=À ϫn:=by rw[Ôp]
section
variable{X:Cx}
def aH(K:Ï)(e:TA):TI:=λσ H R=>e σ H λd c=>∃a b xs ys t1 t2,d=[.ref a,.ref b]/\tj K t1 c a xs/\tj K t2 c b ys/\R ãh c
def y0y{a b:Ñ}{t:TA}{p pos:Pos}{i:Á Ñ}{U:Ä}{Q:Pos}(N:Gl X Ĥa)(hm:â Ĥa=Â)(Z:PA X ķd t)(G:Ì (ĉb ķd Ó=[(Å,Ċ a Ó),(Å,Ċ b Ó)]) q12)(d:Ì (ĉb [b] Ó=[(Å,Ċ b Ó)]) q12):PI X (.Tuple i U Q) Ĵg (aH X.K t):=by
 intro C s σ H R I h;show Call_ (X_ I N hm oV (ťe (zn (Z pos C s σ H _ I h) λL f ⟨vs,E,e,r1,q1⟩=>?_) (by rw[G,d]) (by rw[d];rfl)));let{k,j,xs,ys,t1,J,rfl,W,P,q}:=q1;let{u,v,rfl,O,T}:=JR r1;cases(show u=ÿ k from O);cases(show v=ÿ j from T);let{L,_,z}:=e.Wq W;let{ws,_,m}:=e.Wq P;let w:=z.lt;let o:=m.lt;show rN z m λA l y x B F Y=>?_
 let S:zD X C σ E { f with ä:=A }:=e.kept (t':=f.toks) Y;show ϥl (s:={ f with ä:=A }) l ?_;generalize hn:ϩl=n at l y x B F w o
 let D:íe (n+4) (n+2) (n+3) n ŋ k j:=by show x57 w o
 show{n+4,[n+4,n+2,n+3,n,n+1],_,_,E,rfl,S,x0w t1 J k j (n+4) (n+2) (n+3) n ŋ D,{l,y,{_,_,x},B,F},λc r=>?_,q}
 let g:ϩl<=c:=by rw[hn];simp only[Ŕa,Óa,ša]at r;rcases r with rfl|rfl|rfl|rfl|rfl;show Ża _ _;show Ża _ _;show Ża _ _;show ϔ _;show Ża _ _
 show e.ZG g (e.zU.fresh g)
def y1k{a b:Ñ}{e:TA}{p pos:Pos}{c:Á Ñ}{g:Ä}{k:Pos}(i:Gl X Ĥa)(l:â Ĥa=Â)(j:QA X ķd e)(f:Ì Üd q12)(d:Ì ão q12) :QI X (.Tuple c g k) Ĵg (aH X.K e):={y0y i l j.h (by rw[vS f,vS d];rfl) Ăj}
#print a
def Su(a:ϭ)(env:Env)(b:Á ύa)(own:Á Ç):Ò:=
 a.kind == .function&&żh (λy=>y.2 != .cell)&&VG a env b own&&żh (λy=>y.2 != .local||čb y.1==À .local)
def v_{X:Cx}{a:ϭ}{b:Á ύa}{own:Á Ç}(h:Åo a Ó=pure b)(g:Ì (YA Ó b) q14)(ok:Ì (Su a Ó b own=Ã) q12):Y9 X a b own:=by unfold Su at ok;simp only[ć]at ok;obtain⟨⟨⟨d,j⟩,f⟩,i⟩:=ok;show{Ÿd d,λy c e=>?_,g,f,h,λy c e=>?_};let:=ŋa j y c;rw[e]at this;rw[ϛp];let:=ŋa i y c;rw[e]at this;simpa using this
section
variable{X:Cx}(K:Ï)(hK:X.K=K)
include hK
#print a
def lg(K:Ï)(a:Ë)(xs:Á V):Æ:=∀H,yf K H a xs
def rZ{K:Ï}{a:Ë}{xs:Á V}{d:É Ë}{its:Ú Value}{n:Ä}{b:Ú ĉa}(h:Ÿ a=À {.type Œ,d,.seq its n,b})(hz:Ľi<=á)(r:zk xs Àe):lg K a xs:=
 λ_=>.inr {_,its,n,h,rfl,rfl,hz,r}
open Ϣi ŧn
nonrec def Iu(z:Ç):It:={λi _=>i<Ņ,λi H x a=>a=H/\∃c,ŝc[i]?=À c/\x=.str {#[c]},λi _=>Ņ<=i}
section
variable{X:Cx}{tg:Ñ}
def z1m(a:TE):TI:=λσ H R=>a σ H λx b=>∃z,x=.str z/\R ïg b
def x0u{P:à}{w:ß}{K:Ï}{it:Ë}{z:Ç}{t:Tok}{n:Ż}(j:n = Ϸk \/ n = īm):g8 P w K tg ïg ϑb it (λi h=>h.IsStrIter it n z t i/\i<=Ņ) where
 mem:=by simp
 obj:=λi h st b g=>by
  let e:b=it:=by simpa using g
  subst e;obtain⟨⟨o,e,c,d⟩,_⟩:=st;show{o,e,λv z=>by rw[d]at z;cases z}
 ēa:=λi h f st k=>{let ⟨o,ho,r⟩:=st.1;{o,k it ü o ho,r},st.2}
 Ůa:=by
  rw[ùp];let T:i<ϱn:=y;let l:ŝc[i]?=À ŝc[i]:=by simp[T]
  have U:∀f G (u:Value),(∃t',u=Ġb {#[ŝc[i]]} t')->f.IsStrIter it n z t ē->ϰa it Ü f->∃v,À u=À v/\
    Õ ā X.A (źd tg Ĳa v) (λ_ Y=>∃x H',zD X S σ H' Y/\zu x v/\(ïg).vw i H x H'/\(Y.heap.IsStrIter it n z t ē/\i+1<=Ņ)/\∀b∈[it],H' b=Â) E { s with ä:=f,Ě:=G }:=λf G u hu a m=>by
   let{t',rfl}:=hu;let Z:zD X S σ H { s with ä:=f,Ě:=G }:=ţa (ζd (m.2 b g)) J C q p F;let{o,e,c,d}:=id a;show{_,rfl,Va (s:={ s with ä:=f,Ě:=G }) e c d (by rcases j with rfl|rfl<;>decide) {.str {#[ŝc[i]]},H,Z,{t',rfl},{rfl,_,l,rfl},{a,y},λb g=>(B b g).1}}
  rcases j with rfl|rfl;show wpAny_pyNext_ascii_item st.1 l λf a m=>U f _ _ {_,rfl} a m;show wpAny_pyNext_wide_item st.1 l λf a m=>U f _ _ {_,rfl} a m
 done:=by rw[ùp];let l:ŝc[i]?=Â:=Ůg y;rcases j with rfl|rfl;show wpAny_pyNext_ascii_end Ϯi st.1 l λf R=>{rfl,ţa (t':=ě) ŵk J C q p F};show wpAny_pyNext_wide_end Ϯi st.1 l λf R=>{rfl,ţa (t':=ě) ŵk J C q p F}
 úb:=λ_ _ _ _ _ st h=>by rcases j with rfl|rfl;show wpAny_pyIter_striter_ascii st.1 h;show wpAny_pyIter_striter_wide st.1 h
def y0w{e:Ñ}{j:TE}(p:PE X e j):PI X tg e (z1m j):=by
 intro i s σ H R I h;show zn (p i s σ H _ I h) λv a ⟨x,n,f,l,k⟩=>?_
 let{z,rfl,q}:=k;let{t,rfl}:=(show ∃t,v=Ġb z t from l)
 let c:∀(d:Ż),(d = Ϸk \/ d = īm)->∀o:Obj,(ϩd o).IsStrIter Ža d z t 0->Dn X i σ tg R čo { a with ä:=ϩd o }:=λd g o st=>
  ⟨Ža,[Ža],_,_,n,rfl,f.kept (t':=Ýg) λb o e=>Ġ _ e,x0u g,{st,ϱ _},λb m=>by
   let e:b=Ža:=by simpa using m
   subst e;show f.ZG ğ (Äo ğ),q⟩
 cases ha:z.cps.all (·<128);show wpAny_pyIter_wide ha (c _ Ĝc _ {_,ť _ rfl,rfl,rfl});show wpAny_pyIter_ascii ha (c _ Ũ _ {_,ť _ rfl,rfl,rfl})
#print a
def VJ(z:Ç)(lo hi:É Ê):Ç:={((z.cps.toList.drop (ę Ņ 0 lo)).take õk).toArray}
def rQ(n:Ä)(lo:É Ê):(match lo with|Â=>(0:Ê)|À i=>max 0 Ľd)=((ę n 0 lo:Ä):Ê)\/∃i,lo=À i/\i<0/\(n:Ê)<i+n:=by
 cases lo with
 |Â=>left;rfl|À i=>
  left
  exact max 0 Ľd=((Ğg:Ä):Ê);by_cases h:i<0;simp only[h,ĭ];omega;simp only[h,ŕ];omega
def clip_hi(n:Ä)(hi:É Ê):(match hi with|Â=>(n:Ê)|À i=>max 0 Ľd)=((ę n n hi:Ä):Ê):=by
 cases hi with
 |Â=>rfl|À i=>exact max 0 Ľd=((Ğg:Ä):Ê);by_cases h:i<0;simp only[h,ĭ];omega;simp only[h,ŕ];omega
def clip_lo'(n:Ä)(lo:É Ê):(match lo with|Â=>(0:Ê)|À i=>max 0 Ľd)=((ę n 0 lo:Ä):Ê):=by rcases rQ n lo with h|⟨i,_,h1,h2⟩;show h;omega
def cG(z:Ç)(lo hi:É Ê):Çh=(Ýb õk).map (ę Ņ 0 lo+·):=by let a:=clip_lo' Ņ lo;let b:=clip_hi Ņ hi;rw[<-ĳm,<-a,<-b];unfold źe;simp only[show(1:Ê)>0 by decide,ĭ];cases lo<;>cases hi<;>rfl
def rh(z:Ç)(lo hi:É Ê):({((Çh).filterMap (ŝc[·]?)).toArray}:Ç)=VJ z lo hi:=by rw[cG,ĸi];rfl
def Ģe(n d:Ä)(a:d<=n)(v:É Ê):ę n d v<=n:=by
 cases v with
 |Â=>show a|À i=>exact Ğg<=n;by_cases h:i<0;simp only[h,ĭ];omega;simp only[h,ŕ];omega
def rn(z:Ç)(lo hi:É Ê)(h:(Çh).length=Ņ):VJ z lo hi=z:=by
 rw[cG,þ,Ůl]at h;let a:=Ģe Ņ 0 ϱf lo;let b:=Ģe Ņ Ņ ğ hi;unfold VJ;rw[h];let d:ę Ņ 0 lo=0\/Ņ=0:=by omega
 let f:ël=Ņ:=by simp[ϴh]
 rcases d with q|q;rw[q,Ďh,<-f,Ųd];let e:Ðh=[]:=List.eq_nil_of_length_eq_zero Î;rw[e];simp;cases z with
 |mk c=>simp[ϴh]at q;simp[q]
theorem Fd(z:Ç)(lo hi:É Ê):(İn).length<=Ņ:=by exact(List.toArray _).size<=ϱn;rw[đ,Ôa,Ăa,ŧ];show Ĳ Òe Üb
section
variable{X:Cx}
def c8{v:Value}{lo:É Ê}(h:õb v lo):∃l:É (Ê×Tok),v=partValue l/\æa (·.1)=lo:=by
 cases h with
 |Â=>show{Â,rfl,rfl}|int i t=>show{À (i,t),rfl,rfl}
def dD:V->É Ê->É Ê->Hp->VK->Æ:=λx b a H Q=>∃z:Ç,x=.str z/\Ņ<=á/\Q (.str (VJ z b a)) H
def y5a:k9 X dD:=by
 intro o s σ H x v n p m k j Q I g b c d h;let{z,rfl,i,q}:=h;let{t,rfl}:=(show ∃t,v=Ġb z t from g);let{l,rfl,rfl}:=c8 c;let{u,rfl,rfl}:=c8 d;show{Ĵe,_,F.slot_str_getitem.lookup,Ϫh _ _ _,?_};show wpAny_getItem_str_slice (l:=l) (u:=u) (st:=Â) b rfl ?_;unfold sliceMade;let f:slicePicked z l u Â=źe (æa (·.1)) (u.map (·.1)) 1 Ņ:=rfl;rw[f]
 split;rename_i a
 let e:(źe (æa (·.1)) (u.map (·.1)) 1 Ņ).length=Ņ:=by rw[ć]at a;show Ÿd a.2
 rw[rn z _ _ e]at q;show{.str z,H,I,{_,rfl},q};rw[rh];show{Ĳ (Fd z _ _) i,.str _,H,Ž _,{_,rfl},q}
#print a
section
variable{X:Cx}{e o:Ñ}{to:TE}{ž Ų:Pos}{Į:Ç}{T id:Ż}{rm:V->Á V->Hp->VK->Æ}
def y1g(e:ěf T)(c:Slot T Į id)(d:ġe áb=pure ŧe)(f:VA X id rm)(g:QE X o to)(a:Ì ōe q12)(b:Ì Ņa q12):QE X şo (fG X.K T rm to):={z9z e c d f g.h a b}
#print a
#print L2
namespace L2
open č Ĕ ď
section
variable{κ:Type}[śb κ]
nonrec def t_(kvs:Á ϕa)(k:κ):É V:=(kvs.find? λa=>decide (a.1=k)).map (·.2)
nonrec def uh(kvs:Á ϕa)(k:κ)(v:V):Á ϕa:=
 if(kvs.any λa=>decide (a.1=k))=Ã then ďd (λa=>if a.1=k then(a.1,v)else a)else kvs++[(k,v)]
theorem Mc{p:κ×V}{r:Á ϕa}{k:κ}(e:p.1=k):t_ (p::r) k=À p.2:=by simp[t_,Ϭc,e]
theorem Mb{p:κ×V}{r:Á ϕa}{k:κ}(e:¬ p.1=k):t_ (p::r) k=t_ r k:=by simp[t_,Ϭc,e]
theorem fq(k:κ):∀kvs:Á ϕa,Õk=(Ģf).isSome
 | []=>rfl|p::r=>by rw[ϸc];by_cases e:p.1=k;simp only[Mc e,Ĵ e,şh,Option.isSome_some];rw[Mb e,ϣ e,Ĳh];show fq k r
def EQ(kvs:Á ϕa)(k:κ)(v:V):(Ťh).length<=Ķ+1:=by
 unfold uh
 split;rw[þ];omega;rw[ï,Ĩ,ϝc];omega
def uI.Wn{o:É V}{u:É Value}(r:uI o u):o.isSome=u.isSome:=by
 cases o with
 |Â=>cases u with
  |Â=>rfl|À _=>show(show í from r).elim
 |À _=>cases u with
  |Â=>show(show í from r).elim|À _=>rfl
theorem uI.getD{o:É V}{u:É Value}{d:V}{d':Value}(r:uI o u)(a:zu d d'):zu ño (u.getD d'):=by
 cases o with
 |Â=>cases u with
  |Â=>show a|À _=>show(show í from r).elim
 |À _=>cases u with
  |Â=>show(show í from r).elim|À _=>show r
def KV.val{kvs:Á ϕa}{vs:Á Ód}(r:KV kvs vs)(k:κ):uI Ģf (űb vs k):=by
 unfold KV at r
 induction r with
 |nil=>show ŕa|@cons p q ps qs h t ih=>
  let{c,d}:=h;rw[ϕp];let b:űb Âg k=À q.2:=by simp[űb,Ϭc,a]
  rw[Mc e,b];show d;let a:¬ q.1=k:=λz=>e (ϳa z)
  let b:űb Âg k=űb qs k:=by simp[űb,Ϭc,a]
  rw[Mb e,b];show ih
theorem KV.any{kvs:Á ϕa}{vs:Á Ód}(r:KV kvs vs)(k:κ):Õk=vs.any λkv=>decide ţi:=by
 unfold KV at r
 induction r with
 |nil=>rfl|î h t ih=>rw[ϸc,ϸc,ih,h.1]
theorem KV.Be{kvs:Á ϕa}{vs:Á Ód}(r:KV kvs vs)(k:κ){y:V}{u:Value}(b:zu y u) :KV šj (ğe λkv=>if kv.1=k then(kv.1,u)else kv):=by
 unfold KV at r ⊢
 induction r with
 |nil=>show .nil|@cons p q ps qs h t ih=>rw[ϰ,ϰ];show .cons ?_ ih;let{a,c}:=h;by_cases e:p.1=k;rw[Ö e,Ö Òm];show{a,b};rw[Ø e,Ø Àm];show{a,c}
def KV.put{kvs:Á ϕa}{vs:Á Ód}(r:KV kvs vs)(k:κ){y:V}{u:Value}(a:zu y u):KV ēn (ëc vs k u):=by unfold uh ëc;rw[r.any k];by_cases e:(vs.any λb=>decide (b.1=k))=Ã;rw[Ö e,Ö e];show r.Be k a;rw[Ø e,Ø e];show ŗn r {rfl,a}
theorem KV.length{kvs:Á ϕa}{vs:Á Ód}(r:KV kvs vs):Ķ=ø:=įh r
#print a
def kN{P:à}{w:ß}{k:zR}{u:Value}(r:zu ćj u):(ķa).is k u=Ã:=by
 cases k with
 |inl i=>let{t,e}:=(show ∃t,u=ŧb i t from r);subst e;show z3u P w i t
 |inr x=>let{t,e}:=(show ∃t,u=Ġb x t from r);subst e;show EW P w x t
theorem aR{P:à}{w:ß}:∀{ks:Á zR}{us:Á Value},zk Ěl us->ItemsAre ķa ks us
 | [],_,r=>by rw[ñn]at r;cases r;show .nil|k::ks,_,r=>by
  rw[ϰ]at r;cases r with
  |î h t=>show .cons (kN h) (aR t)
abbrev KT(H:Hp):Á ěb->Á ċc->Æ:=ĥd λp q=>p.1=q.1/\H q.2.1=À ēl/\zu p.2 q.2.2
def KT.val{H:Hp}{kvs:Á ěb}{xs:Á ċc}(r:KT H kvs xs)(k:Á zR):uI Ģf ((ũh).map (·.2)):=by
 induction r with
 |nil=>show ŕa|@cons p q ps qs h t ih=>
  let{c,_,d}:=h;rw[ϕp];let b:ļe Âg k=À q.2:=by simp[ļe,Ϭc,a]
  rw[Mc e,b];show d;let a:¬ q.1=k:=λz=>e (ϳa z)
  let b:ļe Âg k=ļe qs k:=by simp[ļe,Ϭc,a]
  rw[Mb e,b];show ih
def KT.Be{H:Hp}{kvs:Á ěb}{xs:Á ċc}(r:KT H kvs xs)(k:Á zR){y:V}{u:Value}(d:zu y u) :KT H šj (Źb (ôb k u)):=by
 induction r with
 |nil=>show .nil|@cons p q ps qs h t ih=>rw[ϰ,ϰ];show .cons ?_ ih;let{a,b,c}:=h;unfold ôb;by_cases e:p.1=k;rw[Ö e,Ö Òm];show{a,b,d};rw[Ø e,Ø Àm];show{a,b,c}
def KT.put{H:Hp}{kvs:Á ěb}{xs:Á ċc}(r:KT H kvs xs)(k:Á zR){b:Ë}{y:V}{u:Value}(c:H b=À Îh)(a:zu y u) :KT H ēn (storedH xs k b u):=by
 let e:(kvs.any λd=>decide (d.1=k))=(ũh).isSome:=by rw[fq,(r.val k).Wn,ϻg]
 unfold uh storedH;rw[e];by_cases q:(ũh).isSome=Ã;rw[Ö q,Ö q];show r.Be k a;rw[Ø q,Ø q];show ŗn r {rfl,c,a}
def KT.keeps{H H':Hp}{kvs:Á ěb}{xs:Á ċc}(r:KT H kvs xs)(a:∀b ys,H b=À ϴd->H' b=À ϴd):KT H' kvs xs:=
 Łf r λ_ _ z=>{z.1,a _ _ z.2.1,z.2.2}
section
variable{P:à}{w:ß}{H:Hp}{h:Heap}{a:Ë}
def dH{u:HO}(ok:xW P w H h)(e:Rd H a u):yj P w H h a u:=e.ok ok
def kG{kvs:Á Ϙ}(ok:xW P w H h)(e:Rd H a Ł):Ķ<=á/\ßa=Å/\∃vs,KV kvs vs/\õd ķa a vs:=
 show yj P w H h a Ł from dH ok e
def sN{kvs:Á Ϙ}(ok:xW P w H h)(e:H a=À Ł):Ķ<=á/\ßa=Å/\∃vs,KV kvs vs/\õd ķa a vs:=kG ok Żi
def Qb{ks:Á zR}(ok:xW P w H h)(e:H a=À āo):(žd).is h ks a:=by let{_,b,r,o,c,f,n,d}:=(show yj P w H h a āo from ok a _ e);show{o,ĸa,n,c,f,d,by simpa using aR r}
def VL{kvs:Á ěb}(ok:xW P w H h)(e:Rd H a ūb):Ķ<=á/\ßa=Å/\
  ∃xs,KT H kvs xs/\Ĭo žd a xs:=by
 let{z,y,xs,r,o,n,i,d,k,f,j,g}:=(show yj P w H h a ūb from dH ok e);show{z,y,xs,r,o,n,i,d,k,f,j,λx b=>?_,g}
 let c:∀{l:Á ěb} {m:Á ċc},KT H l m->∀x∈m,(žd).is h x.1 x.2.1:=by
  intro l m q
  induction q with
  |nil=>intro x b;show nomatch b|@cons p q ps qs hq t ih=>intro x b;rcases ř b with e|b;subst e;show Qb ok (by rw[<-hq.1];show hq.2.1);show ih x b
 show c r x b
def sP{kvs:Á ěb}(ok:xW P w H h)(e:H a=À ūb):Ķ<=á/\ßa=Å/\
  ∃xs,KT H kvs xs/\Ĭo žd a xs:=VL ok Żi
#print a
def Uz(H:Hp)(a:Ë)(y:V)(r:É V):Æ:=
 (∃kvs k,Rd H a Ł/\y=kV k/\r=t_ kvs k)\/∃kvs k b,Rd H a ūb/\y=.ref b/\H b=À Îh/\r=t_ kvs k
def RM(H:Hp)(a:Ë)(y v:V)(H':Hp):Æ:=
 (∃kvs k,H a=À Ł/\y=kV k/\Ķ<á/\H'=upd H a (.dK Ťh)) \/
 ∃kvs k b,H a=À ūb/\y=.ref b/\H b=À Îh/\Ķ<á/\H'=upd H a (.dT Ťh)
section
variable{X:Cx}{z0:Á ô}{σ:St}{H:Hp}{s:Í}{a:Ë}{y v:V}{u r:Value}{o:É V}{A:è}{E:Value->Í->Æ}
def zD.big(I:zD X z0 σ H s):ğh<Ý:=by let h:õ<Ý:=(I.mod.glob.keeps I.bk).lt;show üf Û h
def sA{Q:Value->Í->Æ}(n:äa+1<ϒ)(I:zD X z0 σ H s)(g:Uz H a y o)(m:zu y u)(h:∀s',zD X z0 σ H s'->Q (.bool o.isSome) s') :Õ ā A (ĭa .In u ý) Q E s:=by rcases g with⟨f,k,e,i,l⟩|⟨f,k,b,e,i,p,l⟩;rw[ϭp];show Ņn (kN m) j Ϙi ?_;rw[íp];show wpAny_in_heap (ŵe n) ûo j d ?_;rw[Ĳp]
def sC{Q:Value->Í->Æ}(n:äa+1<ϒ)(I:zD X z0 σ H s)(g:Uz H a y o)(m:zu y u)(h:∀s',zD X z0 σ H s'->Q (.bool (!o.isSome)) s') :Õ ā A (ĭa .NotIn u ý) Q E s:=by rcases g with⟨f,k,e,i,l⟩|⟨f,k,b,e,i,p,l⟩;rw[ϭp];show wpAny_notIn_of (kN m) j Ϙi ?_;rw[íp];show wpAny_notIn_heap (ŵe n) ûo j d ?_;rw[Ĳp]
def AO{h':Heap}{t':Ä}{d:HO}(I:zD X z0 σ H s)(g:TK (H a))(f:ϰa a Ü h')(i:∃q,ė a=À q)(c:yj ì X.w Ϗn h' a d) :zD X z0 σ Ϗn { s with ä:=h',Ě:=t' }:=
 Ĉe (x:=a) (e:=a) g Ũ (λb q h z=>(f.2 b h).trans z) i c
def Fm{P:à}{w:ß}{H':Hp}{h':Heap}{kvs:Á Ϙ}{vs:Á Ĵa}(z:Ķ<=á)(c:ßa=Å)(b:KV kvs vs)(dd:Ĺf ķa a vs) :yj P w H' h' a Ł:={z,c,vs,b,dd}
def sD{H':Hp}{Q:èa->Í->Æ}(W:äa+1<ϒ)(I:zD X z0 σ H s)(g:RM H a y v H')(F:zu y u)(G:zu v r)(h:∀s',zD X z0 σ H' s'->Q () s') :Õ ā A (ϐi ý u r) Q E s:=by
 rcases g with⟨d,k,e,t,l,p⟩|⟨d,k,b,e,t,K,l,p⟩;subst t p;let{z,n,R,f,x}:=sN Ď e;have o:îe<=á:=by rw[<-ϑa];show z
 rw[œp]
 show wpAny_setItem_pairs (hsz:=o) (kN F) x λJ i m=>h _ ?_
 let S:∃q,J.get? a=À q:=let ⟨q,_,_,j,_⟩:=i;{q,j};show AO I Ϧg m S (Fm B n (f.put k G) i);subst t p;cases(show u=ÿ b from F);let{z,n,P,f,x}:=sP Ď e;have o:ϖ<=á:=by rw[<-įh f];show z
 rw[œp]
 show wpAny_setItem_heap (hsz:=o) (ŵe W) (Qb Ď K) x λJ i m=>h _ ?_
 let{q,Y,O,j,U,L,T,_,N}:=i;refine AO I Ϧg m {q,j} {B,n,_,(f.put k K G).keeps λc Z C=>?_,q,Y,O,j,U,L,T,N};rw[zr (z4n C e ëa)];show C
#print a
section
variable{X:Cx}{z0:Á ô}{σ:St}{H:Hp}{s:Í}{a:Ë}{kvs:Á Ϙ}{A:è}{E:Value->Í->Æ}
def sB{Q:Value->Í->Æ}(I:zD X z0 σ H s)(e:Rd H a Ł)(h:∀t s',zD X z0 σ H s'->Q (.int Ķ t) s'):Õ ā A (Ħa Ϫc Ãa) Q E s:=by let{z,d,f,b,c}:=kG Ď e;refine call_len_dict d c (by rw[<-ϫ];rw[Ľ]at z;omega) ?_;rw[<-ϫ];show h _ _ ŵb
#print a
def sL{X:Cx}{f:Á ô}{σ:St}{H:Hp}{s:Í}{a:Ë}{y:V}{o:É V}(I:zD X f σ H s)(g:Uz H a y o):îb ý ϗ:=by rcases g with⟨d,k,e,_,_⟩|⟨d,k,b,e,_,_,_⟩;let{_,_,i,_,c}:=kG Ď e;show Ľc;let{_,_,h,_,c}:=VL Ď e;show Ľc
nonrec def y2r(g e b:TE):TS:=λD σ H=>b σ H λv d=>g σ d λx f=>e σ f λy c=>∃a H4,x=.ref a/\RM c a y v H4/\ųa σ H4
section
variable{X:Cx}{o i e Éb:Ñ}{pos Èa:Pos}{td ty tv:TE}
def cK(q:ϵa+1<ϒ)(G:PE X o td)(hi:PE X i ty)(hv:PE X Éb tv)(c:Œb Éb (À (.Subscript o i Èa)) Èe Ó=pure Å) :PS X (.Assign [.Subscript o i Èa] Éb pos) (y2r td ty tv):=by intro b s σ H D I h;show wpAny_Assign_Subscript (zn (hv b s σ H _ I h) λr n ⟨v,F,f,p,C⟩=>zn (G b n σ F _ f C) λu E ⟨x,z,m,j,d⟩=>zn (hi b E σ z _ m d) λK J ⟨y,N,t,l,a,w,e,g,B⟩=>?_) c;subst e;obtain rfl:u=ÿ a:=j;show sD q t g l p λL k=>{σ,w,k,B}
#print a
def sM{P:à}{w:ß}{H:Hp}(h:Heap)(a:ğh<ϱa):yj P w H (Ùg { cls:=.type ϗ,Č:=.dict #[] }) ϱa (.dK []):=
 {ϱ _,ăc (Ľa (Ŕ a)),[],.nil,üm h}
def y6y:TE:=λ_ H Q=>∀p,H p=Â->Q ύ (γ (.dK []))
section
variable{X:Cx}{pos:Pos}
def y08:PE X Ϝl y6y:=λb s σ H Q I h=>
 wpAny_Dict_empty {.ref Ý,_,Çb (a:=Ý) (o:=.dK []) (t':=ě) ϰg ğ (sM Ü I.big),rfl,h _ æd}
#print a
def Za(kvs a:Á Ϙ):Á Ϙ:=a.foldl (λb c=>uh b c.1 c.2) kvs
def KV.merge:∀{more:Á Ϙ} {rs:Á Ĵa} {kvs:Á Ϙ} {vs:Á Ĵa},KV more rs->KV kvs vs->KV Ðn (merged vs rs):=by
 intro more rs kvs vs r;unfold KV at r
 induction r generalizing kvs vs with
 |nil=>intro q;show q|@cons p q ps qs h t ih=>
  intro a
  let e:KV áh (ëc vs q.1 q.2):=by let:=a.put p.1 h.2;rw[<-h.1];show this
  show ih e
theorem aj:∀(more kvs:Á Ϙ),(Ðn).length<=Ķ+more.length
 | [],kvs=>by exact Ķ<=Ķ+0;omega|p::r,kvs=>by let a:=aj r áh;let b:=EQ kvs p.1 p.2;exact(Za áh r).length<=_;rw[Ĩ];omega
structure M2(X:Cx)(o:Ñ)(m:Ç)(ž:Pos)(e f:Ñ)(Ų:Pos):Æ where
 È:Ōa o m Ó Ϭd=Ċ o Ó
 lI:((Ÿb Ų Ĉm).all ϔh&&(Ϩj).all Žl
  && decide (([e,f]:Á Ñ).length+([]:Á ϡf).length+ųj<30))=Ã
 line:(apos.endLine==cpos.line)=Ã
 trees:Ÿb Ų Ĉm=[(Å,Ċ e Ó),(Å,Ċ f Ó)]
def S8(H:Hp)(a:Ë):Æ:=(∃kvs,Rd H a Ł)\/∃kvs,Rd H a ūb
def z1z{X:Cx}{j:Á ô}{σ:St}{H:Hp}{s:Í}{a:Ë}(I:zD X j σ H s)(d:S8 H a) :îb ý ϗ/\(∀b,ÿ a=.ref b->∃ob,ö b=À ob/\ob.dict=Â)/\ßa=Å:=by rcases d with⟨g,e⟩|⟨g,e⟩;let{_,h,l,_,c}:=kG Ď e;rw[ĉp];let{_,h,k,_,c}:=VL Ď e;rw[ĉp]
section
variable{X:Cx}{z0:Á ô}{σ:St}{H:Hp}{s:Í}{a:Ë}{y d:V}{u r:Value}{o:É V}{A:è}{E:Value->Í->Æ}
def rq{Q:Value->Í->Æ}(q:äa+1<ϒ)(I:zD X z0 σ H s)(g:Uz H a y o)(p:zu y u)(n:zu d r)(h:∀w' s',zD X z0 σ H s'->zu ño w'->Q w' s') :Õ ā A (Ħa (.builtin "dict.get") [.ref a,u,r]) Q E s:=by rcases g with⟨i,k,e,j,l⟩|⟨i,k,b,e,j,v,l⟩;subst j;let{z,m,x,c,f}:=kG Ď e;show ťd ŷg łi Ūk Øk (meets_dict_get_default Ŗb a (kN p) m r) {_,f.mapOf,h _ _ ŵb ?_};rw[l];show(êd).getD n;subst j;cases(show u=ÿ b from p);let{z,m,t,c,f}:=VL Ď e;show ťd ŷg łi Ūk Øk (meetsH_dict_get_default (tupleKind Ŗb) a b m r) {ŵe q,k,t,Qb Ď v,f,h _ _ ŵb ?_};rw[l];show(êd).getD n
#print a
nonrec def y6x(g e d:TE):TE:=λσ H Q=>g σ H λx c=>∃a,x=.ref a/\S8 c a/\e σ c λy f=>d σ f λz b=>∃o,Uz b a y o/\Q (o.getD z) b
section
variable{X:Cx}{o e f:Ñ}{ž Ų:Pos}{td ty tx:TE}
def y07(B:ϵa+1<ϒ)(C:PE X o td)(r:PE X e ty)(G:PE X f tx)(m:M2 X o "get" ž e f Ų):PE X (.Call ŏk [e,f] [] Ų) (y6x td ty tx):=by
 intro b s σ H Q I h;show wpAny_Call_method m.base m.lI m.line Że ŷg PySem.F.type_dict_get (zn (C b s σ H _ I h) λu w ⟨x,R,i,p,a,l,d,L⟩=>?_);subst l;obtain rfl:u=ÿ a:=p;let{P,n,_}:=z1z i d;show{P,n,?_};rw[m.trees]
 refine żc rfl (Ŕg (Ţg (zn (r b w σ R _ i L) λT N ⟨y,J,v,t,k⟩=>
  Ţg (zn (G b N σ J _ v k) λU S ⟨z,O,E,j,Y,g,K⟩=>űl ?_))))
 show rq B E g t j λW Z q c=>{_,O,q,c,K}
#print a
#print L2
namespace L3
open č
inductive D where
 |zI|bl (b:Ò)|int (i:Ê)|str (x:Ç)|tup (xs:Á D)|lst (xs:Á D)|dic (ks:Á Ş) (vs:Á D)|exc (x:Ç)|obj (x:Ç) (fs:Á Ç) (vs:Á D)
def Ţc{P:D->Æ}(r:P .zI)(p:∀b,P ób)(l:∀i,P Ěa)(g:∀x,P Ýc)(a:∀xs,(∀d∈xs,P d)->P Ļa)(c:∀xs,(∀d∈xs,P d)->P ða)(j:∀ks xs,(∀d∈xs,P d)->P (.dic ks xs))(m:∀x,P (.exc x))(k:∀x fs xs,(∀d∈xs,P d)->P (.obj x fs xs))(d:D):P d:=
 D.rec (motive_1:=P) (motive_2:=λn=>∀d∈n,P d) r p l g (λxs h=>a xs h) (λxs h=>c xs h) (λks xs h=>j ks xs h) m (λx fs xs h=>k x fs xs h) Ĺl
  (λd n o f e q=>by rcases ř q with z|z;show z▸o;show f e z) d
mutual
nonrec def wK:D->D->Ò
 |.zI,.zI=>Ã|.bl a,.bl b=>a==b|.bl a,.int b=>Öl==b|.int a,.bl b=>a==ϛe|.int a,.int b=>a==b|.str a,.str b=>a==b|.tup xs,.tup ys=>Ϗb xs ys|.lst xs,.lst ys=>Ϗb xs ys|_,_=>Å
nonrec def Ϗb:Á D->Á D->Ò
 | [],[]=>Ã|x::xs,y::ys=>wK x y&&Ϗb xs ys|_,_=>Å
end
abbrev Sl:=Ò×D
abbrev zw:=Á (É Sl)
abbrev FE:=zw->É D
abbrev FT:=zw->É Ò
abbrev FA:=zw->É İb
abbrev FG:=D->zw->É zw
inductive Fl where
 |nx (σ:zw)|rt (o:Ò) (d:D)|bk (σ:zw)|ct (σ:zw)
abbrev FS:=zw->É Fl
abbrev yc:Ä:=16777216
nonrec def z7(i:Ä):FE:=λσ=>match σ[i]? with
 |À ŋb=>À d|_=>Â
nonrec def Tu(i:Ä):FE:=λσ=>match σ[i]? with
 |À Ŷn=>À d|_=>Â
nonrec def eC(d:D):FE:=λ_=>À d
nonrec def e1(F:D->É D)(a:FE):FE:=λσ=>(Ña).bind F
nonrec def e2(F:D->D->É D)(a b:FE):FE:=λσ=>(Ña).bind λx=>(Čj).bind λy=>F x y
nonrec def eL(F:Á D->É D)(a:FA):FE:=λσ=>(Ña).bind F
nonrec def zF:FA:=λ_=>À []
nonrec def zA(a:FE)(r:FA):FA:=λσ=>(Ña).bind λx=>(r σ).bind λb=>À (x::b)
nonrec def YO:D->É Ò
 |.bl b=>À b|_=>Â
def tE(a:FE):FT:=λσ=>(Ña).bind YO
nonrec def WT(a b:FT):FT:=λσ=>(Ña).bind λk=>match k with
 |Ã=>b σ|Å=>À Å
nonrec def qf(a b:FT):FT:=λσ=>(Ña).bind λk=>match k with
 |Ã=>À Ã|Å=>b σ
nonrec def jH(a:FT):FT:=λσ=>(Ña).bind λk=>À (!k)
def VM(a b:FE):FE:=λσ=>(Ña).bind λx=>(ıe).bind λk=>match k with
 |Ã=>b σ|Å=>À Ća
def Fp(a b:FE):FE:=λσ=>(Ña).bind λx=>(ıe).bind λk=>match k with
 |Ã=>À Îa|Å=>b σ
def Fo(a:FE):FE:=λσ=>(Ña).bind λx=>(ıe).bind λk=>À Ói
nonrec def qP(c:FT)(a b:FE):FE:=λσ=>(ċj).bind λk=>match k with
 |Ã=>a σ|Å=>b σ
nonrec def wg(a:FA):FE:=λσ=>(Ña).bind λb=>À (.tup b)
nonrec def yX(a:FA):FE:=λσ=>(Ña).bind λb=>À ĥb
nonrec def yq:D->D->É D
 |.int i,.int j=>À ŭh|.int i,.bl b=>À (.int (i+ϛe))|.str x,.str y=>if şa+Ìc<=yc then À (.str āj)else Â|.lst x,.lst y=>if şa+Ìc<=yc then À Āf else Â|.tup x,.tup y=>if x.isEmpty=Å/\şa+Ìc<=yc then À (.tup āj)else Â|_,_=>Â
nonrec def fI(C:Ê->Ê->Ò)(g:Ê->Ê->Ê):D->D->É D
 |.int i,.int j=>match C i j with
  |Ã=>À đo|Å=>Â
 |_,_=>Â
nonrec def ZS:D->D->É D
 |.int i,.int j=>À (.int (i-j))|_,_=>Â
nonrec def kQ(i:Ê):Ò:=decide (-ϑf<i)&&decide (i<2 ^ 64)
def gH:D->D->É D:=fI (λi _=>kQ i) (·*·)
def Q2:D->D->É D:=fI (λ_ j=>kQ j) (·*·)
def xX:D->D->É D:=fI (λ_ j=>decide (0<j)) (· % ·)
def ZQ:D->D->É D:=fI (λ_ j=>decide (0<j)&&decide (j<2 ^ 64)) (· / ·)
nonrec def gM(i j:Ê):Ò:=decide (0<=j)&&(decide (j<=1000000)&&decide (Ŭb<2 ^ 64))
def VP:D->D->É D:=fI gM λi j=>i ^ Íc
def gI:D->D->É D:=fI gM λi j=>i*2 ^ Íc
def OS:D->D->É D:=fI (λ_ j=>decide (0<=j)) λi j=>i/2 ^ Íc
nonrec def gD(g:Ê->Ê->Ê):D->D->É D
 |.int i,.int j=>À đo|_,_=>Â
nonrec def jW:D->É D
 |.int i=>À (.int (-i))|_=>Â
nonrec def Fz:D->É D
 |.int i=>À (.int ϩi)|_=>Â
nonrec def uz(g:Ê->Ê->Ò):D->D->É D
 |.int i,.int j=>À (.bl ϐa)|_,_=>Â
nonrec def Vg:D->Ò
 |.zI=>Ã|_=>Å
def VN:D->D->É D
 |x,.zI=>À (.bl (Vg x))|_,_=>Â
def VO:D->D->É D
 |x,.zI=>À (.bl (!Vg x))|_,_=>Â
nonrec def yr:D->Ò
 |.zI=>Ã|.bl _=>Ã|.int _=>Ã|.str _=>Ã|_=>Å
nonrec def pf(f:D->D->Ò):Á D->Á D->Ò
 |x::xs,y::ys=>f x y&&pf f xs ys|_,_=>Ã
def uJ:Ä->D->D->Ò
 |0,_,_=>Å|n+1,x,y=>match x,y with
  |.tup xs,.tup ys=>pf řc xs ys|.lst xs,.lst ys=>pf řc xs ys|x,y=>yr x&&yr y
def YY:D->D->É Ò
 |.int _,.bl _=>Â|.bl _,.int _=>Â|x,y=>match uJ 6 x y with
  |Ã=>À (wK x y)|Å=>Â
def yS(x y:D):É D:=(YY x y).bind λk=>À Ëg
def xn(x y:D):É D:=(YY x y).bind λk=>À Ói
nonrec def j6:D->É Ş
 |.int i=>À Źi|.str x=>À Øa|_=>Â
nonrec def ŗ{α:Type}:Á Ş->Á α->Sum Ê Ç->É α
 |k'::ks,v::vs,k=>if k'=k then À v else ŗ ks vs k|_,_,_=>Â
nonrec def p6(ks:Á Ş)(k:Sum Ê Ç):Ò:=ks.any λj=>decide (j=k)
def pB(ks:Á Ş)(k:Sum Ê Ç):Á Ş:=if p6 ks k=Ã then ks else ks++[k]
def u5(ks:Á Ş)(vs:Á α)(k:Sum Ê Ç)(v:α):Á α:=if p6 ks k=Ã then Ğc (λa x=>if a=k then v else x) ks vs else vs++[v]
def OQ(x:D):D->É Ò
 |.lst ys=>match yr x&&ŷb yr with
  |Ã=>À Ϛe|Å=>Â
 |.tup ys=>match yr x&&ŷb yr with
  |Ã=>À Ϛe|Å=>Â
 |.str j=>match x with
  |.str i=>À Ăk|_=>Â
 |.dic ks _=>(ĩd).bind λk=>À (p6 ks k)|_=>Â
def ZR(x y:D):É D:=(OQ x y).bind λk=>À Ëg
def Q3(x y:D):É D:=(OQ x y).bind λk=>À Ói
nonrec def pX(xs:Á α)(i:Ê):É α:=if 0<=i then xs[ąe]? else if -(ë:Ê)<=i then xs[(i+ë).toNat]? else Â
def zS:D->D->É D
 |.lst xs,.int i=>pX xs i|.tup xs,.int i=>pX xs i|.str z,.int i=>(ðo).bind λc=>À ļh|.dic ks vs,k=>(j6 k).bind λk=>ŗ ks vs k|_,_=>Â
nonrec def jV:Á D->É D
 | [.lst xs]=>À ēo| [.tup xs]=>À ēo| [.str z]=>À Ēo|_=>Â
nonrec def YZ:Á D->É D
 | [.int i]=>À Ěa| [.bl k]=>À (.int Õl)|_=>Â
inductive g9 where
 |int|bool|str|list|tuple
nonrec def g9.nm:g9->Ż
 |.int => ĺb|.bool => ĝe|.str => Ĵe|.list => Ĝ|.tuple => Œ
nonrec def fR:D->É (Ò×Ò×Ò×Ò×Ò)
 |.zI=>À (Å,Å,Å,Å,Å)|.bl _=>À (Ã,Ã,Å,Å,Å)|.int _=>À (Ã,Å,Å,Å,Å)|.str _=>À (Å,Å,Ã,Å,Å)|.tup _=>À (Å,Å,Å,Å,Ã)|.lst _=>À (Å,Å,Å,Ã,Å)|.dic _ _=>Â|.exc _=>Â|.obj _ _ _=>Â
nonrec def g9.sel:g9->Ò×Ò×Ò×Ò×Ò->Ò
 |.int,k=>k.1|.bool,k=>k.2.1|.str,k=>k.2.2.1|.list,k=>k.2.2.2.1|.tuple,k=>k.2.2.2.2
def Ot(T:g9)(d:D):É Ò:=(fR d).bind λk=>À (T.sel k)
def ZP(T:g9)(a:FE):FE:=λτ=>(įe).bind λd=>(Ot T d).bind λb=>À ób
nonrec def tu(a:FE):FA:=λσ=>(Ña).bind λd=>match d with
 |.lst xs=>À xs|.tup xs=>À xs|.str z=>À (Ϥl λc=>.str {#[c]})|_=>Â
nonrec def jZ(lo hi:FE):FA:=λσ=>(Êj).bind λx=>(Ìj).bind λy=>match x,y with
 |.int i,.int j=>if Ŭb<=yc/\Ũf<=yc/\(j-i).toNat<=yc then À ((Ýb (j-i).toNat).map λk:Ä=>.int ţc)else Â|_,_=>Â
nonrec def xG(i:Ä):FG:=λd σ=>À ĸk
nonrec def j4(i j:Ä):FG:=λd σ=>match d with
 |.tup ϖa=>À ((σ.set i (À (Å,x))).set j (À (Å,y)))|_=>Â
nonrec def wG:FS:=λσ=>À ųi
nonrec def zt(a b:FS):FS:=λσ=>(Ña).bind λf=>match f with
 |.nx σ'=>b σ'|f=>À f
nonrec def yn(i:Ä)(e:FE):FS:=λσ=>(śc).bind λd=>À Àp
nonrec def kq(i:Ä)(e:FE):FS:=λσ=>(śc).bind λd=>À (.nx (σ.set i ğc))
nonrec def yH(e:FE):FS:=λσ=>(śc).bind λd=>À (.rt Å d)
nonrec def uQ(e:FE):FS:=λσ=>(śc).bind λd=>À ϭn
nonrec def Zi(i:Ä):FS:=λσ=>match σ[i]? with
 |À ğc=>À ϭn|_=>Â
nonrec def xh(c:FT)(a b:FS):FS:=λσ=>(ċj).bind λk=>match k with
 |Ã=>a σ|Å=>b σ
nonrec def ZZ(g:FG)(b:FS):Á D->zw->É Fl
 | [],σ=>À ųi|d::r,σ=>(ćd).bind λσ1=>(Çg).bind λf=>match f with
  |.nx σ2=>ZZ g b r σ2|.ct σ2=>ZZ g b r σ2|.bk σ2=>À Śf|.rt o d=>À ŕf
def kj(it:FA)(g:FG)(b:FS):FS:=λσ=>(it σ).bind λa=>ZZ g b a σ
nonrec def JU(c:FT)(b:FS):Ä->zw->É Fl
 |0,_=>Â|n+1,σ=>(ċj).bind λk=>match k with
  |Å=>À ųi|Ã=>(Čj).bind λf=>match f with
   |.nx σ2=>JU c b n σ2|.ct σ2=>JU c b n σ2|.bk σ2=>À Śf|.rt o d=>À ŕf
nonrec def IQ:Ä:=100000000
def dQ(c:FT)(b:FS):FS:=λσ=>JU c b IQ σ
nonrec def WL(i:Ä):FS:=λσ=>match σ[i]? with
 |À Ŷn=>À Àp|_=>Â
nonrec def Lj(i:Ä)(F:D->D->É D)(e:FE):FS:=λσ=>match σ[i]? with
 |À ğc=>(śc).bind λx=>(F d x).bind λa=>À (ςb (À (Ã,a)))|_=>Â
nonrec def Fw:D->D->É D
 |.lst xs,y=>if ë<yc then À (Δ ώo)else Â|_,_=>Â
def Vy(i:Ä)(k v:FE):FS:=λσ=>(v σ).bind λy=>match σ[i]? with
 |À (À (Ã,.dic ks ds))=>(k σ).bind λx=>(ĩd).bind λx=>if ŉ<yc then À (ςb (À (Ã,.dic ϔo ūm)))else Â|_=>Â
def gE(ks:Á Ş)(ds:Á D)(x:D):É D:=(ĩd).bind λk=>ŗ ks ds k
def Ag(ks:Á Ş)(x:D):É D:=(ĩd).bind λk=>À ħm
def AU(d k e:FE):FE:=λσ=>(d σ).bind λx=>match x with
 |.dic ks ds=>(k σ).bind λy=>(śc).bind λz=>(j6 y).bind λy=>À ((ŗ ks ds y).getD z)|_=>Â
nonrec def u4(g:FG)(c:FT)(e:FE)(σ:zw):Á D->É İb
 | []=>À []|d::r=>(ćd).bind λσ1=>(c σ1).bind λk=>match k with
  |Ã=>(e σ1).bind λx=>(u4 g c e σ r).bind λa=>À (x::a)|Å=>u4 g c e σ r
nonrec def v3:FT:=λ_=>À Ã
def wf(n:Ä)(it:FA)(g:FG)(c:FT)(e:FE):FE:=λσ=>(it σ).bind λa=>(u4 g c e øh a).bind λb=>À ĥb
nonrec def vF(n:Ä)(b:FS)(ds:Á D):É ð:=(řj).bind λf=>match f with
 |.rt o d=>À (o,d)|.nx _=>À (Å,.zI)|_=>Â
nonrec def za(F:Á D->É ð)(a:FA):FE:=λσ=>(Ña).bind λb=>(F b).bind λr=>À r.2
nonrec def ux(F:Á D->É ð)(a:FA):FE:=λσ=>(Ña).bind λb=>(F b).bind λr=>match r with
 |(Ã,d)=>À d|_=>Â
open Ĕ ď L2
abbrev St:=L2.St
def m5(_:Ï)(H:Hp)(a:Ë)(kvs:Á Ϙ):Æ:=Rd H a Ł
mutual
def zT(K:Ï)(H:Hp):D->V->Æ
 |.zI,v=>v=.zI|.bl b,v=>v=.bl b|.int i,v=>v=.int i|.str x,v=>v=.str x/\şa<=á|.tup ds,v=>∃a vs,v=.ref a/\yf K H a vs/\å K H ds vs/\ĉ<=á|.lst ds,v=>∃a vs,v=.ref a/\yQ K H a vs/\å K H ds vs/\ĉ<=á|.dic ks ds,v=>∃a vs,v=.ref a/\m5 K H a İa/\ŉ=ø/\å K H ds vs/\ĉ<=á|.exc x,v=>∃a C,v=.ref a/\Ē K õ x=À š/\H a=À Ϫa|.obj x fs ds,v=>∃a C dx vs,v=.ref a/\Ē K õ x=À š/\H a=À ũg/\Ķa=ø/\å K H ds vs
def å(K:Ï)(H:Hp):Á D->Á V->Æ
 | [],vs=>vs=[]|d::ds,vs=>∃v r,vs=v::r/\zT K H d v/\å K H ds r
end
section
variable{K:Ï}{H H':Hp}
def àc{a:Ë}{u:HO}(s:zg H H')(h:Rd H a u):Rd H' a u:=by rcases h with h|⟨o,h⟩;show .inl (s _ _ h);show .inr {o,s _ _ h}
def ve(s:zg H H')(h:yf K H a xs):yf K H' a xs:=by rcases h with h|h;show .inl Œo;show .inr h
def wv(s:zg H H')(h:yQ K H a xs):yQ K H' a xs:=by rcases h with h|h;show .inl Œo;show .inr h
theorem ϻa:∀{ds:Á D}{vs:Á V},(∀d∈ds,∀v,zT K H d v->zT K H' d v)->å K H ds vs->å K H' ds vs
 | [],_,_,h=>h|d::ds,vs,f,h=>by rw[Čp];show{v,r,rfl,f d Ō v b,ϻa (λc m=>f c ųo) a}
theorem zT.mono(s:zg H H'):∀{d:D}{v:V},zT K H d v->zT K H' d v:=λ{d}=>by show Ţc (P:=λd=>∀v,zT K H d v->zT K H' d v) ào Ān þn ýn ?_ ?_ ?_ ?_ ?_ d _;rintro g c v ⟨a,f,e,q,r,l⟩;show{a,f,e,ve s q,ϻa c r,l};rintro g c v ⟨a,f,e,q,r,l⟩;show{a,f,e,wv s q,ϻa c r,l};rintro k g c v ⟨a,f,e,q,z,r,l⟩;show{a,f,e,àc s q,z,ϻa c r,l};rintro x v ⟨a,C,e,n,h⟩;show{a,C,e,n,s _ _ h};rintro x m g c v ⟨a,C,j,f,e,n,h,l,r⟩;show{a,C,j,f,e,n,s _ _ h,l,ϻa c r}
theorem Reps.mono(s:zg H H'){ds:Á D}{vs:Á V}(h:å K H ds vs):å K H' ds vs:=ϻa (λ_ _ _=>zT.mono s) h
theorem όh:∀{ds:Á D}{vs:Á V},å K H ds vs->ø=ĉ
 | [],_,h=>by rw[ĵp];rfl|d::ds,_,h=>by let{v,r,rfl,_,a}:=h;rw[Ĩ,Ĩ,όh a]
theorem Reps.get:∀{ds:Á D}{vs:Á V}{i:Ä}{d:D},å K H ds vs->ds[i]?=À d->∃v,vs[i]?=À v/\zT K H d v
 | [],_,_,_,_,e=>by cases e|d::ds,_,0,_,h,e=>by rw[Čp];cases e;show{v,rfl,b}
 |d::ds,_,i+1,d',h,e=>by rw[Čp];show Reps.get (i:=i) a ňa
theorem Reps.at{ds:Á D}{vs:Á V}{i:Ä}{v:V}(h:å K H ds vs)(e:vs[i]?=À v):∃d,ds[i]?=À d/\zT K H d v:=by
 let l:=ļc;have a:i<ĉ:=by rw[<-l];show(Ť e).1
 let{c,b,r}:=h.get ϻi;rw[e]at b;cases b;show{_,ļ a,r}
theorem ύh:∀{ds es:Á D}{vs us:Á V},å K H ds vs->å K H es us->å K H (ds++es) (vs++us)
 | [],_,_,_,h,g=>by rw[ĵp];show g|d::ds,_,_,_,h,g=>by rw[Čp];show{v,_,rfl,b,ύh a g}
def Ůf(h:zT K H d v):å K H [d] [v]:={v,[],rfl,h,rfl}
theorem ķo:∀{ds:Á D}{vs:Á V}(n:Ä),å K H ds vs->å K H (ds.take n) (vs.take n)
 |_,_,0,_=>by rw[ċh,ċh];rfl| [],_,n+1,h=>by rw[ĵp];rfl|d::ds,_,n+1,h=>by rw[Čp];show{v,_,rfl,b,ķo n a}
theorem ĺo:∀{ds:Á D}{vs:Á V}(n:Ä),å K H ds vs->å K H (Ϟf n) (vs.drop n)
 |_,_,0,h=>h| [],_,n+1,h=>by rw[ĵp];rfl|d::ds,_,n+1,h=>by rw[Čp];show ĺo n a
theorem Îe:∀{ns:Á Ê},å K H ţd Œa
 | []=>rfl|n::ns=>{_,_,rfl,rfl,Îe}
#print a
structure zK(G H G' H':Hp):Æ where
 g:zg G G'
 h:zg H H'
 gh:zg G' H'
 new:∀p,G' p≠Â->G p≠Â\/H p=Â
section
variable{G H G0 H0 G1 H1 G2 H2:Hp}{p:Ë}{o:HO}
theorem āa(s:zg G H):zK G H G H:={ĵa _,ĵa _,s,λ_ h=>.inl h}
theorem zK.trans(a:zK G H G1 H1)(b:zK G1 H1 G2 H2):zK G H G2 H2:={îi b.g,a.h.trans b.h,b.gh,λp h=>by rcases b.new p h with z|z;show a.new p z;show .inr (Ŋi z)}
def zK.rebase(a:zK G0 H0 G1 H1)(b:zK G1 H0 G2 H2):zK G0 H0 G2 H2:={îi b.g,b.h,b.gh,λp h=>by rcases b.new p h with z|z;show a.new p z;rw[Ŋp]}
def zK.Y2(a:zK G0 H0 G1 H1):zK G1 H0 G1 H1:={ĵa _,a.h,a.gh,λ_ h=>.inl h}
def Ma(h:upd H p o q≠Â):q=p\/H q≠Â:=by by_cases e:q=p;show .inl e;rw[zr e]at h;show .inr h
def Qx(s:zg G H):zg ϒn Īc:=λb u e=>by by_cases hb:b=p;subst hb;rw[yE]at e ⊢;show e;rw[zr hb]at e ⊢;show s _ _ e
def Äb(s:zg G H)(h:H p=Â):zK G H ϒn Īc:={wP (s.free h) o,wP h o,Qx s,λq z=>by rcases Ma z with e|e;show .inr (e▸h);show .inl e}
def Ϛa(s:zg G H)(h:H p=Â):zK G H G Īc:={ĵa _,wP h o,s.trans (wP h o),λ_ z=>.inl z}
def zK.zz(a:zK G H G1 H1)(h:H p=Â)(g:G1 p=Â)(e:H1 p=À o):zK G H (upd G1 p o) H1:=⟨îi (wP g o),a.h,λb u q=>by
 by_cases hb:b=p;subst hb;rw[yE]at q;cases q;show e;rw[zr hb]at q;show a.gh _ _ q,λq z=>by
 rcases Ma z with w|w;show .inr (w▸h);show a.new q w⟩
#print a
def wC(K:Ï)(G H:Hp)(d:D)(p:Ë):Æ:=match d with
 |.lst ds=>∃vs,H p=À áe/\å K G ds vs/\ĉ<=á|.dic ks ds=>∃vs,H p=À Ép/\ŉ=ø/\å K G ds vs/\ĉ<=á|_=>í
section
variable{K:Ï}{G H G' H':Hp}{d:D}{p:Ë}
def wC.some(h:wC K G H d p):H p≠Â:=by
 cases d with
 |lst ds=>let{a,e,_}:=h;rw[e];show λz=>nomatch z
 |dic ks ds=>let{a,e,_}:=h;rw[e];show λz=>nomatch z
 |_=>show h.elim
theorem wC.mono(g:zg G G')(h:zg H H')(o:wC K G H d p):wC K G' H' d p:=by
 cases d with
 |lst ds=>let{a,e,r,l}:=o;show{a,h _ _ e,Ģa g,l}
 |dic ks ds=>let{a,e,z,r,l}:=o;show{a,h _ _ e,z,Ģa g,l}
 |_=>show ìc
def wC.rep(s:zg G H)(o:wC K G H d p):zT K H d ύ:=by
 cases d with
 |lst ds=>let{a,e,r,l}:=o;show{p,a,rfl,ła e,Ģa s,l}
 |dic ks ds=>let{a,e,z,r,l}:=o;show{p,a,rfl,.inl e,z,Ģa s,l}
 |_=>show ìc
def wC.zz(o:wC K G H d p)(g:G p=Â):∃u,H p=Option.some u/\zT K Ϙh d ύ:=by
 cases d with
 |lst ds=>let{a,e,r,l}:=o;show{_,e,p,a,rfl,ła yE,Ģa Ąd,l}
 |dic ks ds=>let{a,e,z,r,l}:=o;show{_,e,p,a,rfl,.inl yE,z,Ģa Ąd,l}
 |_=>show ìc
#print a
structure zi(K:Ï)(n:Ä)(G0 H0 G H:Hp)(τ:zw)(σ:St):Æ where
 ext:zK G0 H0 G H
 l1:σ.length=n
 l2:τ.length=n
 fr:∀(i:Ä)(d:D),τ[i]?=À ŋb->∃v,σ[i]?=À Ϗ/\zT K G d v
 ow:∀(i:Ä)(d:D),τ[i]?=À ğc->∃p,σ[i]?=À Žd/\G p=Â/\H0 p=Â/\wC K G H d p
 ap:∀(i j:Ä)(d e:D)(p:Ë),i≠j->τ[i]?=À ğc->τ[j]?=À ϓd->σ[i]?=À Žd->σ[j]?=À Žd->í
section
variable{K:Ï}{n:Ä}{G0 H0 G H G' H':Hp}{τ:zw}{σ:St}
def zi.go(E:zi K n G0 H0 G H τ σ)(x:zK G H G' H'):zi K n G0 H0 G' H' τ σ:=⟨ţn x,į,ħ,λi d h=>by
 let{v,e,r}:=űa i d h;show{v,e,Ģa x.g},λi d h=>by
 let{p,e,g,z,o}:=ħa i d h;show{p,e,?_,z,Ĥe x.g x.h};cases q:G' p with
 |Â=>rfl|À u=>rcases Ϟa p (by rw[q];show λz=>nomatch z)with w|w;show Þ g w;show Þ w o.some,Ųa⟩
theorem zi.Y2(E:zi K n G0 H0 G H τ σ):zi K n G H0 G H τ σ:={E.ext.Y2,į,ħ,űa,ħa,Ųa}
def zi.near(a:zK G0 H0 Ga Ha)(E:zi K n Ga H0 G H τ σ):zi K n G0 H0 G H τ σ:={a.rebase όb,į,ħ,űa,ħa,Ųa}
def zi.lt{i:Ä}{s:É Sl}(E:zi K n G0 H0 G H τ σ)(h:τ[i]?=À s):i<n:=by rw[<-ħ];show öa.1
def wd{α:Type}{xs:Á α}{i j:Ä}{x y:α}(h:Ąf[j]?=À y):(j=i/\y=x)\/(j≠i/\xs[j]?=À y):=by
 rw[ϲe]at h;by_cases e:i=j;subst e;rw[Ö rfl]at h
 rw[ϯp];cases h;show .inl {rfl,rfl};cases h;rw[Ø e]at h;show .inr {λz=>e ğd,h}
def jY{α:Type}{xs:Á α}{i:Ä}{x:α}(h:i<ë):Ąf[i]?=À x:=by rw[ϲe,Ö rfl,Ö h]
theorem vd{α:Type}{xs:Á α}{i j:Ä}{x:α}(h:j≠i):Ąf[j]?=xs[j]?:=by rw[ϲe,Ø (λz=>h ğd)]
theorem zi.set{i:Ä}{d:D}{v:V}(E:zi K n G0 H0 G H τ σ)(hi:i<n)(r:zT K G d v):zi K n G0 H0 G H ēh ϵc:=⟨όb,by rw[Ϲp],by rw[ăp],λj e h=>by
 rcases wd h with⟨rfl,z⟩|⟨a,z⟩;cases z;show{v,jY ŕd,r};rw[vd a];show űa j e z,λj e h=>by
 rcases wd h with⟨rfl,z⟩|⟨a,z⟩;cases z;rw[vd a];show ħa j e z,λj k e f p g l m=>by
 rcases wd l with⟨rfl,z⟩|⟨a,z⟩;cases z;rcases wd m with⟨rfl,c⟩|⟨b,c⟩;cases c;rw[vd a,vd b];show Ųa j k e f p g z c⟩
def zi.Pr{i:Ä}{d:D}{p:Ë}(E:zi K n G0 H0 G H τ σ)(hi:i<n)(v:G p=Â)(u:H0 p=Â)(o:wC K G H d p)(r:∀(j:Ä)(e:D),j≠i->τ[j]?=À ϓd->σ[j]?=À Žd->í) :zi K n G0 H0 G H (τ.set i ğc) Ĕh:=⟨όb,by rw[Ϲp],by rw[ăp],λj e h=>by
 rcases wd h with⟨rfl,z⟩|⟨b,z⟩;cases z;rw[vd b];show űa j e z,λj e h=>by
 rcases wd h with⟨rfl,z⟩|⟨b,z⟩;cases z;show{p,jY ŕd,v,u,o};rw[vd b];show ħa j e z,λj k e f q m t s c g=>by
 rcases wd t with⟨rfl,z⟩|⟨b,z⟩;rcases wd s with⟨rfl,l⟩|⟨a,l⟩;show m rfl;rw[jY ŕd]at c;rw[vd a]at g;cases c;show r k f a l g;rcases wd s with⟨rfl,l⟩|⟨a,l⟩;rw[jY ŕd]at g;rw[vd b]at c;cases g;show r j e b z c;rw[vd b]at c;rw[vd a]at g;show Ųa j k e f q m z l c g⟩
def zi.Pn(E:zi K n G0 H0 G H τ σ)(b:H p=Â):∀(j:Ä)(e:D),j≠i->τ[j]?=À ϓd->σ[j]?=À Žd->í:=λj e _ a c=>by let{q,e1,_,_,o}:=ħa j e a;rw[c]at e1;cases e1;show o.some b
def zi.freeze{i:Ä}{b:Ò}{d:D}(E:zi K n G0 H0 G H τ σ)(hi:τ[i]?=À Òd):∃G',zi K n G0 H0 G' H ēh σ/\zg G G':=by
 let m:=E.lt hi;cases b with
 |Å=>
  show{G,?_,ĵa _}
  let e:τ.set i ŋb=τ:=by rw[Ťp];rw[jY (by rw[ħ];show m),hi];rw[vd hj]
  rw[e];show E
 |Ã=>let{p,e,g,z,o}:=ħa i d hi;let{u,F,r}:=ŧc g;let x:zK G0 H0 Ϙh H:=Ŕi z g F;refine{upd G p u,{x,į,by rw[ăp],λj l h=>?_,λj l h=>?_,λj k e1 f q y I C=>?_},wP g _};rcases wd h with⟨rfl,w⟩|⟨s,w⟩;cases w;show{_,e,r};let{v,a,J}:=űa j l w;show{v,a,J.mono Ąd};rcases wd h with⟨rfl,w⟩|⟨s,w⟩;cases w;let{q,a,N,L,A}:=ħa j l w;show{q,a,?_,L,A.mono Ąd įb};rw[zr Ùe];show N;subst c;show Ųa i j d l q (λc=>s ċe) hi w e a;rcases wd I with⟨rfl,w⟩|⟨s,w⟩;cases w;rcases wd C with⟨rfl,t⟩|⟨B,t⟩;cases t;show Ųa j k e1 f q y w t
#print a
section
variable(X:Cx)
structure SE(e:Ñ)(f:FE):Æ where
 h:∃t,PE X e t/\∀{G0 H0 G H:Hp}{τ:zw}{σ:St}{d:D}{Q:VK},zi X.K ê G0 H0 G H τ σ->f τ=À d->(∀v G' H',zK G H G' H'->zT X.K G' d v->Q v H')->t σ H Q
structure SB(e:Ñ)(f:FE):Æ where
 h:∃t,PE X e t/\∀{G0 H0 G H:Hp}{τ:zw}{σ:St}{d:D}{Q:VK},zi X.K ê G0 H0 G H τ σ->f τ=À d->(∀v G' H',zK G H G' H'->zT X.K H' d v->Q v H')->t σ H Q
structure SF(e:Ñ)(f:FE):Æ where
 h:∃t,PE X e t/\∀{G0 H0 G H:Hp}{τ:zw}{σ:St}{d:D}{Q:VK},zi X.K ê G0 H0 G H τ σ->f τ=À d->(∀p G' H',zK G H G' H'->H p=Â->G' p=Â->wC X.K G' H' d p->Q ύ H')->t σ H Q
structure ST(e:Ñ)(f:FT):Æ where
 h:∃t,PT X e t/\∀{G0 H0 G H:Hp}{τ:zw}{σ:St}{d:Ò}{Q:Ò->Hp->Æ},zi X.K ê G0 H0 G H τ σ->f τ=À d->(∀G' H',zK G H G' H'->Q d H')->t σ H Q
structure SW(e:Ñ)(f:FT):Æ where
 h:∃t,PW X e t/\∀{G0 H0 G H:Hp}{τ:zw}{σ:St}{d:Ò}{Q:Ò->Hp->Æ},zi X.K ê G0 H0 G H τ σ->f τ=À d->(∀G' H',zK G H G' H'->Q d H')->t σ H Q
structure SA(es:Á Ñ)(f:FA):Æ where
 h:∃t,PA X es t/\∀{G0 H0 G H:Hp}{τ:zw}{σ:St}{ds:Á D}{Q:Á V->Hp->Æ},zi X.K ê G0 H0 G H τ σ->f τ=À ds->(∀vs G' H',zK G H G' H'->å X.K G' ds vs->Q vs H')->t σ H Q
structure TN(es:Á Ñ)(f:FA):Æ where
 h:∃t,PA X es t/\∀{G0 H0 G H:Hp}{τ:zw}{σ:St}{ds:Á D}{Q:Á V->Hp->Æ},zi X.K ê G0 H0 G H τ σ->f τ=À ds->(∀vs G' H',zK G H G' H'->å X.K H' ds vs->Q vs H')->t σ H Q
#print a
def wb(K:Ï)(n:Ä)(b a:Hp)(E:xv):Fl->Æ
 |.nx τ=>∀σ G H,zi K n b a G H τ σ->E.nx σ H|.bk τ=>∀σ G H,zi K n b a G H τ σ->E.bk σ H|.ct τ=>∀σ G H,zi K n b a G H τ σ->E.ct σ H|.rt Å d=>∀v G H,zK b a G H->zT K G d v->E.rt v H|.rt Ã d=>∀p G H,zK b a G H->a p=Â->G p=Â->wC K G H d p->E.rt ύ H
section
variable(X:Cx)
structure SS(st:Ô)(f:FS):Æ where
 h:∃t,PS X st t/\∀{G0 H0 G H:Hp}{τ:zw}{σ:St}{fl:Fl}{E:xv},zi X.K ê G0 H0 G H τ σ->f τ=À fl->wb X.K ê G0 H0 E fl->t E σ H
structure vY(st:Á Ô)(f:FS):Æ where
 h:∃t,wy X st t/\∀{G0 H0 G H:Hp}{τ:zw}{σ:St}{fl:Fl}{E:xv},zi X.K ê G0 H0 G H τ σ->f τ=À fl->wb X.K ê G0 H0 E fl->t E σ H
#print a
structure jR(K:Ï)(J:It)(G:Hp)(ds:Á D):Æ where
 go:∀i G2 H,zg G G2->zg G2 H->i<ĉ->J.go i H
 vw:∀i G2 H x H',zg G G2->zg G2 H->i<ĉ->J.vw i H x H'->∃G3 d,zK G2 H G3 H'/\ds[i]?=À d/\zT K G3 d x
 ϡa:∀i G2 H,zg G G2->zg G2 H->ĉ<=i->àg i H
structure SI(X:Cx)(tg Ŝ:Ñ)(f:FA):Æ where
 h:∃wi,PI X tg Ŝ wi/\∀{G0 H0 G H:Hp}{τ:zw}{σ:St}{ds:Á D}{R:It->Hp->Æ},zi X.K ê G0 H0 G H τ σ->f τ=À ds->(∀J G' H',zK G H G' H'->ĉ<=á->jR X.K J G' ds->R J H')->wi σ H R
nonrec def xJ(K:Ï)(F:Á D->É ð):Sp:=λa H Q _=>∃G ds o d,zg G H/\å K G ds a/\F ds=À (o,d)/\
 match o with
 |Å=>∀v G' H',zK G H G' H'->zT K G' d v->Q v H'|Ã=>∀p G' H',zK G H G' H'->H p=Â->G' p=Â->wC K G' H' d p->Q ύ H'
def zC{α β:Type}{o:É α}{f:α->É β}{b:β}(h:åj f=À b):∃a,o=À a/\f a=À b:=by
 cases o with
 |Â=>cases h|À a=>show{a,rfl,h}
def OJ(h:z7 i τ=À d):τ[i]?=À ŋb:=by
 unfold z7 at h
 rw[ŀp];cases h;show e;cases h
def sT(h:Tu i τ=À d):∃b,τ[i]?=À Òd:=by
 unfold Tu at h
 rw[ϯp];rename_i b a e;cases h;show{_,e};cases h
section
variable{X:Cx}{x:Ç}{p pos:Pos}{e a b c o:Ñ}{es zY:Á Ñ}{f fa fb:FE}{ft fu:FT}{fs:FA}{F:D->D->É D}{r:R2}
def SE.sb(h:SE X e f):SB X e f:={let ⟨t,p,k⟩:=h.h;{t,p,λE a q=>k E a λv c b x r=>q v c b x (Ģa ϸ)}}
def SF.se(h:SF X e f):SE X e f:={let ⟨t,p,k⟩:=h.h;{t,p,λE d q=>k E d λp i g x c a o=>by let{u,b,r}:=ŧc a;show q _ _ _ (x.zz c a b) r}}
def zJ(h:SE X e f):SB X e f:=h.sb
def yJ(h:SF X e f):SE X e f:=h.se
def z8(i:Ä)(b:Ì ſd q12)(hv:Ì Äe q13)(c:Ì Ģ q10)(a:Ì þb q10):SE X Ąa ãg:={{_,Zh b hv c a,λE d q=>by let{v,e,r}:=űa _ _ (OJ d);show{v,e,q v _ _ ìb r}}}
def y2x(i:Ä)(d:Ì ſd q12)(hv:Ì Äe q13)(f:Ì Ģ q10)(a:Ì þb q10):SB X Ąa (Tu i):=⟨⟨_,Zh d hv f a,λE g q=>by
 let{b,c}:=sT g;cases b with
 |Å=>let{v,e,r}:=űa _ _ c;show{v,e,q v _ _ ìb (Ģa ŵ)}
 |Ã=>let{p,e,_,_,o}:=ħa _ _ c;show{_,e,q _ _ _ ìb (o.rep ŵ)}⟩⟩
def J2(h:PE X e īe)(r:∀H,zT X.K H d v):SE X e (eC d):={{_,h,λE a q=>by cases a;show q v _ _ ìb (r _)}}
def zE{i k pos}:SE X (.Constant Ěa k pos) (eC Ěa):=J2 Eu λ_=>rfl
def u7{i k pos}:SE X (.Constant (.bool i) k pos) (eC (.bl i)):=J2 z9w λ_=>rfl
def wo{k pos}:SE X (.Constant .none k pos) ãa:=J2 y0d λ_=>rfl
def yV{x k pos}(h:Ì (şa<=1000) q10):SE X (.Constant Ýc k pos) (eC Ýc):=J2 y0h λ_=>{rfl,ĥa h}
def vn(h:wN â x v)(r:∀H,zT X.K H d v)(a:Gl X x)(b:Ì Ģ q10):SE X Ąa (eC d):=J2 (WF h a b) r
def uH(K:Ï)(r:R2)(F:D->D->É D):Æ:=∀G H x y u v d (Q:VK),zg G H->zT K G x u->zT K G y v->F x y=À d->(∀w G' H',zK G H G' H'->zT K G' d w->Q w H')->r u v H Q
def g_(K:Ï)(r:R2)(F:D->D->É D):Æ:=∀H x y u v d (Q:VK),zT K H x u->zT K H y v->F x y=À d->∃k,d=.bl k/\(Q Ëg H->r u v H Q)
def zZ(I:ya X (Ŗa op) r)(H:uH X.K r F)(m:SE X a fa)(z:SE X b fb):SE X (.BinOp a op b pos) Ϥd:=by
 let{O,t,f}:=m.h;let{J,G,o}:=z.h;show{{_,Ew I t G,λE c q=>?_}};let{x,k,c}:=zC c;let{y,A,c}:=zC c;show f E k λv L N e s=>?_
 show o Ĕd A λu j p d n=>?_
 show H j p x y v u _ _ d.gh (Ðg d.g) n c λw i l B C=>q w i l (Áb (Śb B)) C
def zf(k:qw X r)(J:uH X.K r F)(o:SE X a fa)(B:SE X b fb)(f:Ì ùo q12):SE X ãl Ϥd:=by
 let{P,A,i}:=o.h;let{L,I,s}:=B.h;show{{_,LV k A I (LX f),λE c q=>?_}};let{x,m,c}:=zC c;let{y,C,c}:=zC c;show i E m λv N O e z=>?_
 show s Ĕd C λu l t d p=>?_
 show J l t x y v u _ _ d.gh (z.mono d.g) p c λw j n G H=>q w j n (Áb (Śb G)) H
def u8(B:ya X Ři r)(f:g_ X.K r F)(j:SB X a fa)(t:SB X b fb)(o:ϲb op b=Å):SE X ŝg Ϥd:=by
 let{J,s,g}:=j.h;let{C,A,m}:=t.h;show{{_,y06 B s A o,λE c q=>?_}};let{x,i,c}:=zC c;let{y,w,c}:=zC c;show g E i λv H I d p=>?_
 show m (Ϯ d) w λu G n e l=>?_
 let{k,rfl,z}:=f n x y v u _ _ (p.mono e.h) l c;show z (q _ _ _ (Śb e) rfl)
def yP(C:ya X Ři r)(g:g_ X.K r F)(l:SB X a fa)(A:SB X b fb)(p:ϲb op b=Å):ST X ŝg (tE Ϥd):=by
 let{L,w,i}:=l.h;let{G,s,n}:=A.h;show{{_,G9 C w s p,λE d q=>?_}};let{z,c,d}:=zC d;let{x,j,c}:=zC c;let{y,B,c}:=zC c;show i E j λv I J e t=>?_
 show n Ĕd B λu H o f m=>?_
 let{k,rfl,z}:=g o x y v u _ _ (áj f.h) m c;cases d;show z {_,rfl,q _ _ (Áb f)}
def vf(h:SE X e f)(c:Ì þo q12):ST X e (tE f):=by
 rw[Ñp];show{{_,cQ p (cH c),λE a q=>?_}};let{z,b,a}:=zC a;show k E b λv g d x r=>?_
 cases z<;>first|cases a|skip
 cases r;show{_,rfl,q _ _ x}
def MK(h:ST X a ft):SW X Ųg ft:={let ⟨t,p,k⟩:=h.h;{t,cW p,k}}
def Yw(h:ST X a ft):SW X Žg ft:={let ⟨t,p,k⟩:=h.h;{t,cX p,k}}
def JE(g:ST X a ft)(m:SW X Ád fu):SW X èd (WT ft fu):=by
 rw[Äq];show{{_,cV l j,λE c q=>?_}};rw[Ϙp];show e E f λr s d=>?_
 cases k with
 |Ã=>show ue ϧj|Å=>cases c;show ud ϒo
def Yv(g:ST X a ft)(m:SW X Àd fu):SW X çd îo:=by
 rw[Äq];show{{_,GB l j,λE c q=>?_}};rw[Ϙp];show e E f λr s d=>?_
 cases k with
 |Å=>show ud ϧj|Ã=>cases c;show ue ϒo
def gS(h:SW X e ft):ST X e ft:={let ⟨t,p,k⟩:=h.h;{t,p.pt,k}}
def Z0(h:ST X a ft):ST X Ŗd (jH ft):=by let{j,e,c}:=h.h;show{{_,cP e,λE b q=>?_}};let{k,f,b}:=zC b;cases b;show c E f λg i d=>q _ _ d
def J5{op}(h:SE X a f):SE X ϕg f:={let ⟨t,p,k⟩:=h.h;{t,cE p,k}}
def Qv{K:Ï}{G:Hp}{z:D}{v:V}{k:Ò}(r:zT K G z v)(h:YO z=À k):v=.bl k:=by
 cases z<;>first|cases h|skip
 show r
def Lz(g:SE X a fa)(o:SE X Ád fb):SE X èd (VM fa fb):=by
 rw[Âq];show{{_,c9 n l,λE c q=>?_}};let{z,p,c}:=zC c;rw[Ϙp];show e E p λv u w d m=>{k,Qv m f,?_}
 cases k with
 |Ã=>show ue Ţj|Å=>cases c;show ud Đm
def y4i(g:SE X a fa)(o:SE X Àd fb):SE X çd (Fp fa fb):=by
 rw[Âq];show{{_,y0f n l,λE c q=>?_}};let{z,p,c}:=zC c;rw[Ϙp];show e E p λv u w d m=>{k,Qv m f,?_}
 cases k with
 |Å=>show ud Ţj|Ã=>cases c;show ue Đm
def y4h(j:SE X a fa):SE X Ŗd (Fo fa):=by let{n,g,c}:=j.h;show{{_,y0e g,λE b q=>?_}};let{z,e,b}:=zC b;let{k,i,b}:=zC b;cases b;show c E e λv l m d f=>{k,Qv f i,q _ _ _ d rfl}
def jD(t:ST X c ft)(n:SE X a fa)(s:SE X b fb):SE X şl (qP ft fa fb):=by
 let{z,j,p}:=t.h;let{B,r,i}:=n.h;let{x,w,o}:=s.h;show{{_,y0a j r w,λE d q=>?_}};let{k,m,d}:=zC d;show p E m λy A e=>?_
 cases k with
 |Ã=>show ue (i Ĕd d λv u l g f=>q v _ _ (Áb g) f)|Å=>show ud (o Ĕd d λv u l g f=>q v _ _ (Áb g) f)
def zH:SA X [] zF:={{_,Zg,λE a q=>by rw[ņp]}}
def zB(l:SE X e f)(i:SA X es fs)(h:Ì ϥ q12):SA X ă όo:=by
 let{B,p,j}:=l.h;let{t,s,n}:=i.h;show{{_,kX p s h,λE a q=>?_}};let{x,k,a}:=zC a;let{z,b,a}:=zC a;cases a;show j E k λv y A c o=>n (Ϯ c) b λr u w d m=>?_
 show q _ _ _ (ϳa d) {v,r,rfl,Ĥe d.g,m}
def t8:TN X [] zF:={{_,Zg,λE a q=>by rw[ņp]}}
def t7(k:SB X e f)(g:TN X es fs)(h:Ì ϥ q12):TN X ă όo:=by
 let{A,o,i}:=k.h;let{s,r,m}:=g.h;show{{_,kX o r h,λE a q=>?_}};let{x,j,a}:=zC a;let{y,b,a}:=zC a;cases a;show i E j λv w z c n=>m (Ϯ c) b λp t u d l=>?_
 show q _ _ _ (ϳa d) {v,p,rfl,n.mono d.h,l}
def y2w(h:QW es=À is):SA X es (λ_=>À ĥn):={{_,bv h,λE a q=>by cases a;show q _ _ _ ìb Îe}}
def wu{x1}(h:SA X es fs)(g:∀τ ds,fs τ=À ds->ĉ<=1000):SE X ŝl (wg fs):=by
 let{t,e,k}:=h.h;show{{_,y0i e,λE a q=>?_}};let{f,b,a}:=zC a;cases a;let l:ϑa<=á:=ĥa (g _ _ b);refine k E b λi j m x1 c=>{by rw[Ϻa];show l,λp d=>?_}
 show q _ _ _ (x1.trans (Äb x1.gh d)) {p,i,rfl,Ļb yE,c.mono (wP (x1.gh.free d) _),l}
def yg(h:SA X es fs)(i:∀τ ds,fs τ=À ds->ĉ<=1000):SF X Ĝh (yX fs):=by
 let{t,f,k}:=h.h;show{{_,Ev f,λE b q=>?_}};let{g,d,b}:=zC b;cases b;let l:Ęa<=á:=ĥa (i _ _ d);refine k E d λj m n a e=>{by rw[e.length];show l,λp c=>?_}
 show q _ _ _ (þd (Ϛa a.gh c)) (Ŋi c) (a.gh.free c) {j,yE,e,l}
def yF:∀(τ:zw) ds,zF τ=À ds->ĉ<=0:=λ_ _ h=>by cases h;show ϔ _
def zO(h:∀τ ds,fs τ=À ds->ĉ<=n):∀τ ds,zA f fs τ=À ds->ĉ<=n+1:=λτ ds e=>by let{x,_,e}:=zC e;let{b,a,e}:=zC e;cases e;show Đc (h _ _ a)
def mF{is:Á Ê}{n:Ä}(h:is.length<=n):∀(τ:zw) ds,(À ĥn)=À ds->ĉ<=n:=λ_ _ e=>by cases e;rw[þ];show h
def yD(h:∀τ ds,fs τ=À ds->ĉ<=m)(a:m<=n):∀τ ds,fs τ=À ds->ĉ<=n:=λτ ds e=>Ĳ (h τ ds e) a
variable{ps:Á Ç}{j k:Ä}{FF:Á D->É ð}{FL:Á D->É D}{id T:Ż}
def k_(h:xE ì X.w X.K â Ĥ x ps k ĩc)(b:yG j X.A)(r:Gl X x)(l:SA X ă fs)(hk:Ì Ùa q10)(c:Ì Ģ q10)(B:Ì Ϣ q12):SF X ċa (ux FF fs):=by
 let{t,s,m}:=l.h;show{{_,Ql h b r s hk c B,λE a q=>?_}};let{v,z,a}:=zC a;rw[Àq];cases o with
 |Å=>cases a|Ã=>
  cases a;refine m E z λG n H f u=>{n,v,Ã,_,f.gh,by rw[ŏ];show u,b,λp C g F y i o=>?_}
  show q p C g (ìe F) (f.h.free y) i o
def zy(h:xE ì X.w X.K â Ĥ x ps k ĩc)(b:yG j X.A)(B:Gl X x)(s:SA X ă fs)(hk:Ì Ùa q10)(c:Ì Ģ q10)(J:Ì Ϣ q12):SE X ċa (za FF fs):=by
 let{t,C,y}:=s.h;show{{_,Ql h b B C hk c J,λE a q=>?_}};let{G,I,a}:=zC a;rw[Àq];cases a;refine y E I λL z N f F=>{z,G,o,d,f.gh,by rw[ŏ];show F,b,?_}
 cases o with
 |Å=>show λv i l g r=>q v i l (ìe g) r|Ã=>intro p i l g H m o;let{u,n,r}:=ŧc m;show q _ _ _ (ìe (g.zz H m n)) r
def ZM(K:Ï)(r:Á V->Hp->VK->Æ)(F:Á D->É D):Æ:=∀G H ds vs d (Q:VK),zg G H->å K H ds vs->F ds=À d->(∀w G' H',zK G H G' H'->zT K G' d w->Q w H')->r vs H Q
def SH(K:Ï)(r:Á V->Hp->VK->Æ)(F:Á D->É D):Æ:=∀G H ds vs d (Q:VK),zg G H->å K G ds vs->F ds=À d->(∀w G' H',zK G H G' H'->zT K G' d w->Q w H')->r vs H Q
def qb(z:wM X áb rc)(C:ZM X.K rc FL)(m:Gl X x)(j:â x=Â)(hv:Ś x=À áb)(f:TN X ă fs)(g:Ì ϩa q10)(a:Ì Ģ q10)(v:Ì Ϣ q12):SE X ċa Êi:=by let{t,n,k}:=f.h;show{{_,(Yo z m j hv {n} g a v).h,λE b q=>?_}};let{r,s,b}:=zC b;show k E s λu l y c o=>C l y r u _ _ c.gh o b λw A d B i=>q w A d ϱi i
def d_(z:wM X ėa rc)(C:ZM X.K rc FL)(m:Gl X x)(j:â x=Â)(hv:Ś x=À ėa)(f:TN X ă fs)(g:Ì ϩa q10)(a:Ì Ģ q10)(v:Ì Ϣ q12):SE X ċa Êi:=by rw[Ěp];show k E s λu l y c o=>C l y r u _ _ c.gh o b λw A d B i=>q w A d ϱi i
def L_(z:wM X ėa rc)(C:SH X.K rc FL)(m:Gl X x)(j:â x=Â)(hv:Ś x=À ėa)(f:SA X ă fs)(g:Ì ϩa q10)(a:Ì Ģ q10)(v:Ì Ϣ q12):SE X ċa Êi:=by rw[Ěp];show k E s λu l y c o=>C l y r u _ _ c.gh o b λw A d B i=>q w A d ϱi i
def Zk(o:TU X (ϖf op) ru)(n:∀(G H:Hp) x u d (Q:VK),zT X.K G x u->F1 x=À d->∃w,(∀G,zT X.K G d w)/\(Q w H->ru u H Q))(f:SE X a fa):SE X (.UnaryOp op a pos) (e1 F1 fa):=by
 let{t,k,j}:=f.h;show{{_,y0j o k,λE c q=>?_}};let{x,e,c}:=zC c;show j E e λv i m g l=>?_
 let{w,b,z}:=n i m x v _ _ l c;show z (q w _ _ g (b _))
#print a
section
variable{X:Cx}{x:Ç}{p pos Èa:Pos}{e a b c tg Ŝ:Ñ}{f fa:FE}{ft:FT}{fs:FA}{st:Ô}{sts ńa:Á Ô}{g g':FS}
def wR:vY X [] wG:={{_,Ld,λ{_ _ G H τ σ b E} K a q=>by cases a;show q σ G H K}}
theorem Įb{K:Ï}{n:Ä}{a b:Hp}{E E':xv}{fl:Fl}(h:wb K n a b E fl)(i:∀τ,fl=.nx τ->wb K n a b E' (.nx τ))(f:∀τ,fl=.bk τ->wb K n a b E' (.bk τ))(j:∀τ,fl=.ct τ->wb K n a b E' (.ct τ))(c:E'.rt=E.rt):wb K n a b E' fl:=by
 cases fl with
 |nx τ=>show i τ rfl|bk τ=>show f τ rfl|ct τ=>show j τ rfl|rt o d=>
  cases o with
  |Å=>intro v G H x r;rw[c];show h v G H x r|Ã=>intro v G H x e g k;rw[c];show h v G H x e g k
def z_(b:SS X st g)(j:vY X sts g'):vY X Ĝi (zt g g'):=by
 rw[Ōp];let{u,e,f}:=j.h;show{{_,j9 p e,λ{l r G H τ σ n E} K a q=>?_}};let{c,b,a}:=zC a;show k K b ?_;cases c with
 |nx τ'=>show λσ' s m i=>f i a q|bk τ'=>cases a;show q|ct τ'=>cases a;show q|rt o d=>cases a;show Įb q ō ō ō rfl
def zj(a:SS X st g):vY X [st] g:={let ⟨t,p,k⟩:=a.h;{t,Vq p,k}}
def y6c(i:Ä)(h:vY X sts g):vY X sts (zt (WL i) g):=by
 rw[Ñp];show{{t,p,λ{j n G H τ σ m E} K b q=>?_}};let{l,a,b}:=zC b;unfold WL at a
 rw[êp];rename_i f d c;cases a;let{o,e,_}:=K.freeze c;show k e b q;cases a
def xD(g:Ϩ)(hi:X.N[i]?=À x)(c:uq ϟ x)(l:SE X e f)(b:Ì Æc q12)(a:Ì Ĩa q7) :SS X Še (yn i f):=by let{t,p,k}:=l.h;show{{_,(Qt g hi c {p} b a).h,λ{m s G H τ σ o E} K a q=>?_}};let{d,j,a}:=zC a;cases a;show k K j λv u n x r=>q _ _ _ ((Ďe).set ŀa.1 r)
def UC(l:Ϩ)(hi:X.N[i]?=À x)(g:uq ϟ x)(n:SF X e f)(c:Ì Æc q12)(a:Ì Ĩa q7) :SS X Še (kq i f):=by
 let{t,p,k}:=n.h;show{{_,(Qt l hi g {p} c a).h,λ{r v G H τ σ u E} K a q=>?_}};let{d,m,a}:=zC a;cases a;show k K m λp w s x b j o=>q _ _ _ ((Ďe).Pr ŀa.1 j (ôn b) o ?_)
 show K.Pn b
def yI(c:SE X e f):SS X ϕe (yH f):=by let{t,p,k}:=c.h;show{{_,Qn p,λ{g l G H τ σ j E} K a q=>?_}};rw[ťp];show k K b λv m i x r=>q v _ _ Ĥm r
def tF(i:SF X e f):SS X ϕe (uQ f):=by let{t,p,k}:=i.h;show{{_,Qn p,λ{j n G H τ σ m E} K a q=>?_}};let{d,g,a}:=zC a;cases a;show k K g λp r l x c b o=>q p _ _ Ĥm (ôn c) b o
def UB(i:Ä)(c:Ì ſd q12)(hv:Ì Äe q13)(f:Ì Ģ q10)(b:Ì þb q10):SS X (.Return (À äf) pos) (Zi i):=by
 show{{_,Qn (Zh c hv f b),λ{j l G H τ σ k E} K a q=>?_}};unfold Zi at a
 rw[êp];rename_i d h;cases a;let{p,e,g,z,o}:=K.ow _ _ h;show{_,e,q p _ _ K.ext z g o};cases a
def wX(o:ST X c ft)(i:vY X sa g)(n:vY X sb g'):SS X (.If c sa sb pos) (xh ft g g'):=by
 let{v,e,l}:=o.h;let{y,m,d}:=i.h;let{s,p,j}:=n.h;show{{_,Vp e m p,λ{r w G H τ σ u E} K a q=>?_}};let{k,f,a}:=zC a;show l K f λt x b=>?_
 cases k with
 |Ã=>show ue Ϡn|Å=>show ud (j ÿe a q)
def y6b{ft:FT}(y:Ũb ā X.A Ó ĥ)(F:ST X c ft)(C:vY X ńa g):SS X ύk (dQ ft g):=by
 let{O,s,B}:=F.h;let{J,I,v}:=C.h;show{{_,cO y s I,λ{f p G H τ σ l E} K a q=>?_}};show{λm σ H=>∃τ G,zi X.K ê f p G H τ σ/\JU ft g m τ=À l,{IQ,τ,G,K,a},?_};rintro m σ H ⟨τ,G,K,a⟩;cases m with
 |ſ=>cases a|ϊ n=>
  let{k,t,a}:=zC (show(ft τ).bind _=_ from a);show B K t λL P j=>?_
  cases k with
  |Å=>cases a;show ud (q _ _ _ ďe)|Ã=>
   let{u,r,a}:=zC (show(őc).bind _=_ from a);show ue {λσ' i=>∃τ G,zi X.K ê f p G i τ σ'/\JU ft g n τ=À l,λσ' i z=>{n,Āb n,z},v ďe r ?_};cases u with
   |nx τ2=>show λσ2 b x e=>{τ2,b,e,a}|ct τ2=>show λσ2 b x e=>{τ2,b,e,a}|bk τ2=>cases a;show q|rt o d=>cases a;show Įb q ō ō ō rfl
theorem ϕf{K:Ï}{n:Ä}{b a c i:Hp}{E:xv}{fl:Fl}(x:zK b a c i)(h:wb K n b a E fl):wb K n c a E fl:=by
 cases fl with
 |nx τ=>show λσ G H z=>h σ G H Ķh|bk τ=>show λσ G H z=>h σ G H Ķh|ct τ=>show λσ G H z=>h σ G H Ķh|rt o d=>
  cases o with
  |Å=>show λv G H y r=>h v G H Čn r|Ã=>show λp G H y e f g=>h p G H Čn e f g
structure SG(X:Cx)(tg:Ñ)(fg:FG):Æ where
 h:∃t,PG X tg t/\∀{G0 H0 G H:Hp}{τ τ':zw}{σ:St}{d:D}{v:V}{Q:St->Hp->Æ},zi X.K ê G0 H0 G H τ σ->zT X.K G d v->fg d τ=À τ'->(∀σ',zi X.K ê G0 H0 G H τ' σ'->Q σ' H)->t v σ H Q
def M3(h:QG X Ąa Śc)(hi:X.N[i]?=À x):SG X Ąa (xG i):={{_,h.h,λK r a q=>by cases a;show q _ (K.set ŀa.1 r)}}
def KU(h:QG X ϋj Œe)(hi:X.N[i]?=À x)(l:X.N[j]?=À y):SG X ϋj (j4 i j):=⟨⟨_,h.h,λ{o u G H τ τ' σ d v Q} K r b q=>by
 unfold j4 at b
 rw[ϰp];rename_i s p;cases b;let{a,w,rfl,k,{c,t,rfl,e,{m,g,rfl,n,f}},_}:=r;cases(show g=[]from f);show{a,_,rfl,ve Âa k,rfl,c,_,rfl,m,_,rfl,rfl,?_};show q _ ((K.set ŀa.1 e).set (Ť l).1 n);cases b⟩⟩
def JC{c:FG}(Q:Ũb ā X.A Ó ĥ)(T:ż=Ã)(hi:SI X tg Ŝ fs)(P:SG X tg c)(S:vY X ńa g)(v:Ì (∀x,Úb Ŝ Ó x=pure x) q11):SS X Ůe (kj fs c g):=by
 rw[ľp];show{{_,LZ Q T Z O pb v,λ{G0 t G H τ σ s E} K a q=>?_}};let{b,R,a}:=zC a;show L K R λJ l Ha W _ p=>?_
 let u:=Ϝ W;let j:=ϕf u.ext q;show{λi m σ H=>m=ϫ-i/\i<=ϫ/\∃τ G,zi X.K ê l t G H τ σ/\ZZ c g ϩf τ=À s,{ϫ,rfl,ϱ _,τ,l,u.Y2,a},?_};rw[Óp];show .inr {p.go i G H Ãb Âa hlt,λσ' f=>∃τ G,zi X.K ê l t G f τ σ'/\ZZ c g Ņf τ=À s,λσ' f z=>{ϫ-ē,ŗd _ _ hlt,rfl,hlt,z},λx f y=>?_};let{G3,d,x3,r,F}:=p.vw i G H x f Ãb Âa hlt y;rw[Űp];rw[ļ hlt]at r;cases r;let{τ1,Y,a}:=zC (show(c _ τ).bind _=_ from a);let{f1,U,a}:=zC a;show B ŵf F Y λσ1 K1=>I K1 U ?_
 cases f1 with
 |nx τ2=>show λσ2 k H2 n=>{τ2,k,n,a}|ct τ2=>show λσ2 k H2 n=>{τ2,k,n,a}|bk τ2=>cases a;show j|rt o d=>cases a;show Įb j ō ō ō rfl
 rw[ûp];show .inl {p.stop i G H Ãb Âa Î,j _ _ _ K}
def z1w{K:Ï}{G:Hp}{lo:Ê}{n:Ä}:jR K ϩo G ((Ýb n).map λk:Ä=>Ϝa ùa) where
 go:=λi b H _ _ a=>by exact i<n;simpa using a
 vw:=λi b H x d _ c a y=>by let{rfl,rfl}:=y;show{b,.int Æa,āa c,by simp at a;simp[a],rfl}
 ϡa:=λi b H _ _ a=>by exact n<=i;simpa using a
def U3(n:Gl X ĭb)(m:â ĭb=Â)(i:SE X a fa)(d:Ì Üd q12):SI X tg ül (jZ Ŀ fa):=by
 let{t,o,k}:=(zB i zH d).h;show{{_,y0v n m o Ăj,λ{z E G H τ σ ds R} K b q=>?_}};let{x,g,b}:=zC b;cases g;let{y,w,b}:=zC b;refine k K (ds:=[y]) (by unfold zA;rw[w];rfl) λF C I l s=>?_
 cases y<;>first|cases b|skip
 rename_i j;let{v,r,rfl,u,f}:=s;cases(show r=[]from f);cases(show v=.int j from u)
 change (if(0:Ê).natAbs<=yc/\Ũf<=yc/\(j-0).toNat<=yc then _ else _)=_ at b
 by_cases c:(0:Ê).natAbs<=yc/\Ũf<=yc/\(j-0).toNat<=yc;rw[Őp];let A:Ũf<=16777216:=c.2.1;let B:(j-0).toNat<=16777216:=c.2.2;refine{j,rfl,by omega,by omega,q _ _ _ l ?_ ?_};rw[þ,Ůl,Ľ];omega;let e:(j-0).toNat=Íc:=by omega
 rw[e];show z1w;rw[ŏp]
def z38{K:Ï}{G:Hp}{a:Ë}{vs:Á V}{ds:Á D}(h:yQ K G a vs)(r:å K G ds vs):jR K Ůi G ds where
 go:=λi g H c b f=>by let{v,e,_}:=ϟa (ļ f);show{vs,v,wv ėd h,e}
 vw:=λi g H x l c b f y=>by let{rfl,y}:=y;let e:=y vs (wv ėd h);let{d,j,k}:=r.at e;show{g,d,āa b,j,k.mono c}
 ϡa:=λi g H c b f=>{vs,wv ėd h,by rw[ŷ];show f}
def x0l{K:Ï}{G:Hp}{a:Ë}{vs:Á V}{ds:Á D}(h:yf K G a vs)(r:å K G ds vs):jR K ŭi G ds where
 go:=λi g H c b f=>by let{v,e,_}:=ϟa (ļ f);show{vs,v,ve ėd h,e}
 vw:=λi g H x l c b f y=>by let{rfl,y}:=y;let e:=y vs (ve ėd h);let{d,j,k}:=r.at e;show{g,d,āa b,j,k.mono c}
 ϡa:=λi g H c b f=>{vs,ve ėd h,by rw[ŷ];show f}
def y6n{K:Ï}{G:Hp}{z:Ç}:jR K ïg G (Ϥl λc=>Ćg {#[c]}) where
 go:=λi b H _ _ a=>by rw[þ,ŧ]at a;show a
 vw:=λi b H x f _ d a y=>by let{rfl,c,e,rfl}:=y;show{b,.str {#[c]},āa d,?_,rfl,ĥa (n:=1) Û};rw[Üa,Ÿa,e];rfl
 ϡa:=λi b H _ _ a=>by rw[þ,ŧ]at a;show a
def PI.or(b:PI X tg e w1)(c:PI X tg e w2):PI X tg e (λσ H R=>w1 σ H R\/w2 σ H R):=λa s σ H R I q=>by rcases q with q|q;show b a s σ H R I q;show c a s σ H R I q
def jE(h:SE X e f):SI X tg e (tu f):=by
 rw[Ñp];show{{_,PI.or (y0u p) (PI.or (y0x p) (y0w p)),λ{o u G H τ σ s R} K g q=>?_}};let{d,i,g}:=zC g;cases d<;>first|cases g|skip
 rename_i z;show .inr (.inr ŧg);let{rfl,l}:=r;show{z,rfl,q _ _ _ x (by rw[þ,ŧ];show l) y6n};show .inr (.inl ŧg);let{a,j,rfl,b,c,l}:=r;show{a,rfl,{j,ve ϸ b},q _ _ _ x l (x0l b c)};show .inl ŧg;let{a,j,rfl,b,c,l}:=r;show{a,rfl,{j,wv ϸ b},q _ _ _ x l (z38 b c)}
#print a
nonrec def Ks(K:Ï)(n:Ä)(f:FE):TE:=λσ H Q=>∃G0 H0 G τ d,zi K n G0 H0 G H τ σ/\f τ=À d/\∀v G' H',zK G H G' H'->zT K G' d v->Q v H'
nonrec def MR(K:Ï)(n:Ä)(f:FT):TT:=λσ H Q=>∃G0 H0 G τ d,zi K n G0 H0 G H τ σ/\f τ=À d/\∀G' H',zK G H G' H'->Q d H'
structure Xf(X:Cx)(es:Á Ñ)(f:FT):Æ where
 h:Xe X es (MR X.K ê f)
section
variable{X:Cx}{e c:Ñ}{f:FE}{ft:FT}
def SE.pe(h:SE X e f):PE X e (Ks X.K ê f):=λb s σ H Q I q=>by rw[Ñp];let{c,g,G,τ,d,K,a,z}:=q;show p b s σ H Q I Ϛo
def ST.pt(h:ST X e ft):PT X e (MR X.K ê ft):=λb s σ H Q I q=>by rw[Ñp];let{c,f,G,τ,d,K,a,z}:=q;show p b s σ H Q I Ϛo
def jG:Xf X [] v3:={λb s σ H Q I q=>by let{c,e,G,τ,d,K,a,z}:=q;cases a;show y1a b s σ H Q I (z _ _ Õe)}
def WR(h:ST X c ft):Xf X [c] ft:={y1b h.pt}
#print a
def zi.more{K:Ï}{n:Ä}{m o G H:Hp}{τ:zw}{σ:St}(k:Ä)(E:zi K n m o G H τ σ):zi K Ńe m o G H Ěc Ìf:=by
 let a:∀{i:Ä}{s:Sl},Ěc[i]?=À (À s)->τ[i]?=À (À s)/\Ìf[i]?=σ[i]?:=λ{i s} h=>by let b:=Ob h;let t:i<n:=E.lt b;show{b,Òb (by rw[į];show t)}
 refine{όb,by rw[ï,Ϝb,į],by rw[ï,Ϝb,ħ],λi d h=>?_,λi d h=>?_,λi j d e p g r u l q=>?_};let{b,e}:=a h;rw[e];show űa i d b;let{b,e}:=a h;rw[e];show ħa i d b;let{f,e1}:=a r;let{c,e2}:=a u;rw[e1]at l;rw[e2]at q;show Ųa i j d e p g f c l q
def O_{K:řh}{n k:Ä}{C B b c:Hp}{τ:zw}{σ:St}{J:It}{ds out:Á D}{g:TG}{p:FG}{q:FT}{f:FE}{o:Á V->Hp->Æ}(E:jR K J b ds)(hl:ĉ<=á)(N:zi K n C B b c τ σ)(a:u4 p q f Ěc ds=À out)(P:∀G H d v τ' (Q:St->Hp->Æ),zi K Ńe C B G H Ěc Ìf->zT K G d v->p d Ěc=À τ'->(∀ρ,zi K Ńe C B G H τ' Ÿf->Q Ÿf H)->g v Ìf H Q)(A:∀ys G H,zK b c G H->å K G out ys->out.length<=á->o ys H) :∃W:Ä->Ä->Á V->Hp->Æ,(∃m,W 0 m [] c)/\Oy σ k J g (MR K Ńe q) (Ks K Ńe f) W o:=by
 show{λi m ys H=>m=ĉ-i/\i<=ĉ/\ş<=i/\∃G done zY,zK b c G H/\å K G done ys/\u4 p q f Ěc (Ϟf i)=À zY/\done++zY=out,{ĉ,rfl,ϱ _,ϔ _,b,[],out,āa Ői,rfl,a,rfl},?_};rintro i m ys H ⟨rfl,hle,t,G,done,zY,x,s,a,r⟩;by_cases hlt:i<ĉ
 .refine .inr {Ϯ i G H x.g ϸ hlt,by omega,λys H=>ş<=i+1/\∃G done zY,zK b c G H/\å K G done ys/\u4 p q f Ěc (Ϟf ē)=À zY/\done++zY=out,λys' w z=>{ĉ-ē,ŗd _ _ hlt,rfl,hlt,z.1,z.2},λv w y=>?_};let{Z,d,l,I,U}:=E.vw i G H v w x.g ϸ hlt y;rw[Űp];rw[ļ hlt]at I;cases I;let{τ1,X,a}:=zC (show(p _ _).bind _=_ from a);let{L,T,a}:=zC a;let K3:=((N.go x).go l).more k;show P Z w _ v τ1 _ K3 U X λρ O=>{{ρ,rfl},_,_,_,_,L,O,T,λR H5 h=>?_}
  cases L with
  |Å=>show ud {by omega,R,done,zY,Ďd (ϔi h),Ðg (Ĥo h.g),a,r}|Ã=>let{z,S,a}:=zC (show(f _).bind _=_ from a);let{j,hm,a}:=zC a;cases a;refine ue {_,_,_,_,z,O.go h,S,λu G6 H6 F Y=>{by rw[ï];show Đc t,G6,done++[z],j,Ďd (ϔi (Će F)),(Ðg (Ĥo (h.g.trans F.g))).append (Ůf Y),hm,?_}};rw[Ř];show r
 let e:Ϟf i=[]:=Ϗc Ϥe;rw[e]at a;cases a;rw[ŏ]at r;subst r;refine .inl {E.stop i G H x.g ϸ Î,A ys G H x s ?_};rw[<-Ħb];omega
section
variable{X:Cx}{tg Ŝ elt:Ñ}{ifs:Á Ñ}{ĳ:ϭ}{cl:Á ύa}{own:Á Ç}{pos:Pos}{fs:FA}{fg:FG}{ft:FT}{f:FE}{g:TG}
def KS(xs:Á α)(y:α)(ys:Á α)(h:n=ë)(z:α):(xs++y::ys).set n z=xs++z::ys:=by subst h;rw[ϓe _ _ ğ,ēb];rfl
structure BG(X:Cx)(ĳ:ϭ)(cl:Á ύa)(own:Á Ç)(tg:Ñ)(g:TG)(fg:FG):Æ where
 q:∀C s H fp pn,QG Êa tg g
 k:∀{G0 H0:Hp}{τ:zw}{σ:St},τ.length=ê->σ.length=ê->∀G H d v τ' (Q:St->Hp->Æ),zi X.K ōf G0 H0 G H żl ϡc->zT X.K G d v->fg d żl=À τ'->
  (∀ρ,zi X.K ōf G0 H0 G H τ' Ÿf->Q Ÿf H)->g v ϡc H Q
def uY(q:∀C s H fp pn,QG (wc X ĳ cl [x] C s H fp pn) tg Śc)(hi:i=ê):BG X ĳ cl [x] tg Śc (xG i):={q,λ{g h τ σ} f c G H d v τ' Q E r e k=>by cases e;let b:=E.set (i:=i) (v:=v) (by rw[hi];show Āb _) r;let a:(Ċm).set i Ϗ=σ++[À v]:=KS σ Â [] (hi.trans ċe) Ϗ;exact Q ((Ċm).set i Ϗ) H;rw[a];show k [À v] ?_;rw[<-a];show b}
def Sn(q:∀C s H fp pn,QG (wc X ĳ cl ϖa C s H fp pn) tg Œe)(hi:i=ê)(g:j=ê+1):BG X ĳ cl ϖa tg Œe (j4 i j):=⟨q,λ{w F τ σ} u f G H d v τ' Q E r e k=>by
 unfold j4 at e
 rw[Ũp];rename_i A z;cases e;let{a,I,rfl,p,{b,B,rfl,l,{c,o,rfl,t,m}},_}:=r;cases(show o=[]from m);let n:=(E.set (i:=i) (v:=b) (by rw[hi];show Nat.lt_add_of_pos_right (ïn _)) l).set (i:=j) (v:=c) (by rw[g];show Āb _) t
 let h:(Ük).set j Áj=σ++[À b,À c]:=by
  let e1:(σ++Ů 2 Â).set i (À b)=σ++[À b,Â]:=KS σ Â [Â] (hi.trans f.symm) (À b);rw[e1];let e2:σ++[À b,Â]=ϴm++[Â]:=by simp
  rw[e2,KS ϴm Â [] (by rw[ï,g,f];rfl) Áj];simp
 show{a,_,rfl,ve ŵ p,rfl,b,_,rfl,c,_,rfl,rfl,?_};exact Q ((Ük).set j Áj) H;rw[h];show k [À b,À c] ?_;rw[<-h];show n;cases e⟩
def Sv(X:Cx)(own:Á Ç):(wz X.N own).length=ê+Ĉb:=by unfold wz;rw[ï,þ]
theorem OA(h:SE Êa elt f):PE Êa elt (Ks X.K ōf f):=by let q:=h.pe;rw[Īp]
def OB(h:Xf Êa ifs ft):Xe Êa ifs (MR X.K ōf ft):=by let q:=h.h;rw[Īp]
def t9(a:ż=Ã)(B:Y9 X ĳ cl own)(hi:SI X tg Ŝ fs)(j:BG X ĳ cl own tg g fg)(u:∀C s H fp pn,Xf Êa ifs ft)(t:∀C s H fp pn,SE Êa elt f)(m:Ì (∀x,Úb Ŝ Ó x=pure x) q11) :SF X ϥa Ϣe:=by
 let{F,y,o}:=ύb;show{{_,cC a B y (θb (j.q C s H fp pn)) (χa ďm) (λC s H fp pn=>OA (t C s H fp pn)) m,λ{P N G H τ σ d Q} K b q=>?_}};let{R,r,b}:=zC b;let{n,E,b}:=zC b;cases b;show o K r λJ I O i l z=>O_ z l ĕd E (j.k K.l2 K.l1) λw L S c A v p e=>?_
 show q p _ _ (êe Ĳl) (i.h.free (ňi e)) (ëi e) {w,yE,A,v}
def y68(b:ż=Ã)(I:Ϩ)(c:X.N[i]?=À x)(Q:Íb x=À .local)(B:Y9 X ĳ cl own)(j:Œb ϥa (À (.Name x px)) spos.line Ó=pure Ã)(hi:SI X tg Ŝ fs)(t:BG X ĳ cl own tg g fg)(O:∀C s H fp pn,Xf Êa ifs ft)(L:∀C s H fp pn,SE Êa elt f)(w:Ì (∀x,Úb Ŝ Ó x=pure x) q11) :SS X (.Assign [.Name x px] ϥa spos) (kq i Ϣe):=by
 let{W,R,z}:=ύb;show{{_,cM b I c Q B j R (λC s H fp pn=>(t.q C s H fp pn).h) (χa (O C s H fp pn)) (ζb (L C s H fp pn)) w,λ{G0 H0 G H τ σ fl E} K m q=>?_}};let{d,a,m}:=zC m;cases m;let{ds,F,a}:=zC a;let{y,U,a}:=zC a;cases a;show z K F λJ Y Ha u l S=>O_ S l (Ϝ u) U (t.k K.l2 K.l1) λv Z H1 r T P p e=>?_
 let n:=(Ϝ u).go r;let A:=n.go (Ϛa (o:=.lst v) r.gh e);show q _ _ _ (A.Pr (Ť c).1 (r.gh.free e) (n.ext.h.free e) {v,yE,T,P} (n.Pn e))
#print a
section
variable{K:Ï}{n:Ä}{G0 H0 G H:Hp}{τ:zw}{σ:St}
def zi.IG(E:zi K n G0 H0 G H τ σ)(hi:τ[i]?=À ğc)(y:σ[i]?=À īc)(x:wC K G Īc d' p):zi K n G0 H0 G Īc Įk σ:=by
 let{S,e,g,z,_}:=ħa i d hi;rw[y]at e;cases e
 let l:∀{m:Hp},m p=Â->zg m H->zg m Īc:=λ{m} h s b u q=>by rw[zr (qU q h)];show s _ _ q
 refine{{Ŏc,l z ôa,l g ŵ,Ϗa},į,by rw[ăp],λj e h=>?_,λj e h=>?_,λj k e f q a Q O I N=>?_};rcases wd h with⟨rfl,w⟩|⟨C,w⟩;cases w;show űa j e w;rcases wd h with⟨rfl,w⟩|⟨C,w⟩;cases w;show{p,y,g,z,x};let{q,F,R,L,A}:=ħa j e w;show{q,F,R,L,?_}
 let a:q≠p:=λc=>by subst c;show Ųa i j d e q (λc=>C ċe) hi w y F
 cases e with
 |lst ds=>let{B,v,r}:=A;show{B,by rw[zr a];show v,r}
 |dic ks ds=>let{B,v,r}:=A;show{B,by rw[zr a];show v,r}
 |_=>show A.elim
 let t:∀{j:Ä}{e:D},Įk[j]?=À ϓd->∃e,τ[j]?=À ϓd:=λ{j e} h=>by rcases wd h with⟨rfl,_⟩|⟨_,w⟩;show{_,hi};show{_,w}
 let{e1,P}:=t Q;let{e2,J}:=t O;show Ųa j k e1 e2 q a P J I N
#print a
section
variable{X:Cx}{x:Ç}{xp pos ž Ų:Pos}{e:Ñ}{f:FE}
def y64(R:QE X ía ðc)(N:SE X e f)(m:Ì (Ōa ía "append" Ó ĵh=Ċ ía Ó) q12)(n:Ì Ņa q12)(A:Ì ϥ q12) :SS X (Μe (.Attribute ía "append" ž)) (Lj i Fw f):=by
 let{t,p,k}:=(zB N zH A).h;refine{{_,(Lf (Qs Ŏd PySem.F.slot_list_append PySem.F.type_list_append z45 R {p} m n ϴg œd) rfl).h,λ{Y W G H τ σ U E} K j q=>?_}};unfold Lj at j
 split at j;rename_i d I;let{y,L,j}:=zC j;let{Q,b,j}:=zC j;cases j;let{a,C,g,z,o}:=K.ow _ _ I;cases d with
 |lst ds=>
  let{s,w,B,l}:=o;refine{_,C,.inl {rfl,s,ła w},k K (ds:=[y]) (by unfold zA;rw[L];rfl) λS T Z v P=>?_};let{u,r,rfl,O,J}:=P;cases(show r=[]from J)
  change (if ĉ<yc then À (ŀe (ds++[y]))else Â)=À Q at b
  by_cases c:ĉ<yc;rw[Őp];refine{a,s,u,rfl,rfl,v.h _ _ w,by rw[Ŀc,Ľ];show c,?_};show q _ _ _ ((Ϝ v).IG I C {s++[u],yE,(B.mono v.g).append (Ůf O),?_});rw[ï,Ľ];show c;rw[ŏp]
 |_=>cases b
 cases j
#print a
section
variable{P:à}{w:ß}{K:Ï}{mg:Ç->É Value}{È:Heap}
def LB{α β:Type}{ds:Á α}{k i:Ä}{h:α->É β}{y:β}(e:(ģd h++Ů k Â)[i]?=À (À y)):∃d,ds[i]?=À d/\h d=À y:=by
 let a:=Ob e;rw[Üa]at a;cases q:ds[i]? with
 |Â=>rw[q]at a;cases a|À d=>rw[q]at a;show{d,rfl,īa a}
def Q0{N:Á Ç}{G H:Hp}{ds:Á D}{vs:Á V}(s:zg G H)(r:å K G ds vs)(g:ĉ<=Ū):zi K Ū G H G H (ģd (λd=>À (Å,d))++Ů (Ū-ĉ) Â) Âi:=by let l:=ŷ;show{āa s,?_,?_,λi d h=>?_,λi d h=>?_,λi j d e p _ c=>?_};unfold ϱd;rw[Ħp];rw[Ħp];let{b,e,z}:=LB h;cases z;let{v,a,f}:=ϟa e;show{v,?_,f};unfold ϱd;rw[Òb (Βe (Ť a)),Üa,a];rfl;let{b,e,z}:=LB h;cases z;let{b,e,z}:=LB c;cases z
def Def.lV{x:Ç}{st:Ô}{N ps:Á Ç}{k:Ä}{F:Á D->É ð}{b:FS}(d:Def K mg x st ps)(S:zh N ps ģ)(J:Ĉ<=Ū)(i:∀ds r,F ds=À r->ĉ=Ĉ/\vF Ū b ds=À r)(C:∀(f:Ë)(c:Value)(A:è)(é:Á Env)(s:Í)(H:Hp)(E:XK),yG k ĩk->vY (u3 yo P w K mg È N x ģ f c A é s H E).wZ ź b):xE P w K mg È x ps ĸ øe:=by
 show d.ok S žl λf c A é s H B Q E j h=>?_;let{G,ds,o,v,_,r,e,_}:=h;rw[ŷ,(i _ _ e).1];let{G,ds,o,v,n,r,e,q}:=h;let{l,a}:=i _ _ e;let{t,p,u}:=(C f c A é s H E j).h;let{y,g,a}:=zC a;refine{t,p,u (Q0 (N:=N) n r Î) g ?_};cases y with
 |nx τ=>cases a;show λσ I m z=>q .zI I m Ķe rfl|rt o' d'=>
  cases o' with
  |Å=>cases a<;>show q|Ã=>cases a<;>show q
 |_=>cases a
#print a
section
variable{X:Cx}{K:Ï}
def Yi(h:∀i j,Cb i j=Ã->C i j):uH K ŷk (fI Cb g):=λG H x y u v d Q s b e a q=>by
 cases x<;>first|(cases a;done)|skip
 cases y<;>first|(cases a;done)|skip
 rename_i i j
 change (match Cb i j with|Ã=>À (Ϝa ϐa)|Å=>Â)=À d at a
 cases c:Cb i j with
 |Å=>rw[c]at a;cases a|Ã=>rw[c]at a;cases a;show{i,j,b,e,h i j c,q _ _ _ ϳ rfl}
def Vo:uH K Şo (gD g):=λG H x y u v d Q s b c a q=>by
 cases x<;>first|(cases a;done)|skip
 cases y<;>first|(cases a;done)|skip
 rw[Ēp]
def WA:uH K Ŭn ZS:=λG H x y u v d Q s b c a q=>by
 cases x<;>first|(cases a;done)|skip
 cases y<;>first|(cases a;done)|skip
 rw[Ēp]
def au(h:kQ i=Ã) : -ϑf<i/\i<2 ^ 64:=by unfold kQ at h;rw[ć]at h;show{ı h.1,ı h.2}
def Zf:uH K Śg gH:=Yi λ_ _ h=>.inl (au h)
def Ek:uH K Śg Q2:=Yi λ_ _ h=>.inr (au h)
def xo:uH K Łk xX:=Yi λ_ _ h=>ı h
def W9:uH K ϴj ZQ:=Yi λ_ _ h=>by rw[ć]at h;show{ı h.1,ı h.2}
def cI(h:gM i j=Ã):Uy i j:=by unfold gM at h;rw[ć,ć]at h;show{ı h.1,ı h.2.1,ı h.2.2}
def El:uH K Ąm VP:=Yi λ_ _ h=>cI h
def Yj:uH K Źl gI:=Yi λ_ _ h=>cI h
def bi:uH K Ñk OS:=Yi λ_ _ h=>ı h
def qV:g_ K ćl (uz g):=λH x y u v d Q b c a=>by
 cases x<;>first|(cases a;done)|skip
 cases y<;>first|(cases a;done)|skip
 cases a;show{_,rfl,λq=>{_,_,b,c,q}}
def aP(r:zT K H x u):Vg x=decide (u=.zI):=by
 cases x with
 |zI=>cases r;rfl|bl b=>cases r;rfl|int b=>cases r;rfl|str b=>let{rfl,_}:=r;rfl
 |tup b=>let{a,d,rfl,_}:=r;rfl
 |lst b=>let{a,d,rfl,_}:=r;rfl
 |dic b c=>let{a,d,rfl,_}:=r;rfl
 |exc b=>let{a,C,rfl,_}:=r;rfl
 |obj b c e=>let{a,C,f,d,rfl,_}:=r;rfl
def LO:g_ K þl VN:=λH x y u v d Q b c a=>by
 cases y<;>first|(cases a;done)|skip
 let e:=aP b;show{Vg x,(īa a).symm,λq=>{c,?_}};rw[<-e];show q
def LP:g_ K ók VO:=λH x y u v d Q b c a=>by
 cases y<;>first|(cases a;done)|skip
 let e:=aP b;show{!Vg x,(īa a).symm,λq=>{c,?_}};rw[<-e];show q
def Yy:∀(G H:Hp) x u d (Q:VK),zT K G x u->jW x=À d->∃w,(∀G,zT K G d w)/\(Δd (-i)):=λG H x u d Q r a=>by
 cases x<;>first|(cases a;done)|skip
 rw[žp]
def x26:∀(G H:Hp) x u d (Q:VK),zT K G x u->Fz x=À d->∃w,(∀G,zT K G d w)/\(Δd ϩi):=λG H x u d Q r a=>by
 cases x<;>first|(cases a;done)|skip
 rw[žp]
def cm(K:Ï):R2:=λx y H Q=>∃l b xs zs,x=.ref l/\y=.ref b/\yQ K H l xs/\yQ K H b zs/\ë+Ĵf<=á/\∀p,H p=Â->Q ύ (Ηb (xs++zs))
def bj:ya X Ùd (cm X.K):=by
 intro U s σ H x y v u Q I t z h;let{l,b,R,S,rfl,rfl,J,w,n,q}:=h;cases t;cases z;let{c,p,A,_}:=ű J;let{a,o,E,_}:=ű w;obtain⟨⟨W,C,T,m⟩,L,e,f,r,d⟩:=A;obtain⟨⟨P,B,O,k⟩,N,j,g,G,i⟩:=E;simp only at f d g i;subst f d g i
 refine Ŕh {_,e,rfl} {_,j,rfl} òm seq_list_add PySem.F.slot_list_add PySem.F.entry_list_add (PySem.F.args_list_add_2 _ _)
  (list_addW l b ád ώa L N C B m k (by rw[đ,đ,<-Ĺi,<-ľa];show n)) {e,j,?_}
 rw[show ád++ώa=(Ċj).toArray by simp];show{.ref _,_,I.Pl (t':=ě) (p.append o) (by rw[ï];show n),rfl,q _ ĉe}
def ci(K:Ï):R2:=λx y H Q=>qY (λi j=>.int (i+j)) x y H Q\/(∃i k,x=.int i/\y=.bl k/\Q Úm H)\/(∃i j,x=.str i/\y=.str j/\ŭb+Ča<=á/\Q Ún H)\/cm K x y H Q\/cq K x y H Q
def xR:ya X Ùd (ci X.K):=z98.or (z99.or (z9a.or (bj.or z9b)))
def xP:uH K (ci K) yq:=λG H x y u v d Q s w A f q=>by
 cases x<;>first|(cases f;done)|skip
 all_goals (cases y<;>first|(cases f;done)|skip)
 rename_i i b;cases w;cases A;cases f;show .inr (.inl {i,b,rfl,rfl,?_});let e:i+b2i b=i+ϛe:=by cases b<;>rfl
 rw[e];rw[şp];cases f;show .inl {_,_,w,A,q _ _ _ ϳ rfl};rename_i i j;let{rfl,I}:=w;let{rfl,F}:=A
 change (if ŭb+Ča<=yc then _ else _)=_ at f
 by_cases c:ŭb+Ča<=yc;rw[Ö c]at f;cases f;let k:ŭb+Ča<=á:=by rw[Ľ];show c
 show .inr (.inr (.inl {i,j,rfl,rfl,k,q _ _ _ ϳ {rfl,by rw[ϕc];show k}}));rw[Ø c]at f;rw[Ęp]
 change (if İo=Å/\Ęa+ļc<=yc then _ else _)=_ at f
 by_cases c0:İo=Å/\Ęa+ļc<=yc;rw[Ö c0]at f;let c:=c0.2;rw[Ķp]
 let E:m≠[]:=λe=>by
  let l:=Ļc;rw[e]at l;cases g with
  |nil=>cases c0.1|î=>cases l
 refine .inr (.inr (.inr (.inr {a,b,m,r,rfl,rfl,ve s B,ve s C,E,by rw[Ļc,ľa,Ľ];show c,λe=>?_,λe p t=>?_})));subst e
 let e2:h=[]:=by
  cases h with
  |nil=>rfl|î=>let{_,_,z,_}:=o;cases z
 subst e2;show q _ _ _ ϳ {a,m,rfl,B,by rw[ŏ];show n,k};show q _ _ _ ŗo {p,m++r,rfl,Ļb yE,(Ěn).mono όl,k};rw[Ø c0]at f;rw[Ęp]
 change (if Ęa+ļc<=yc then _ else _)=_ at f
 by_cases c:Ęa+ļc<=yc;rw[Ö c]at f;rw[Ķp]
 refine .inr (.inr (.inr (.inl {a,b,m,r,rfl,rfl,wv s B,wv s C,by rw[Ļc,ľa,Ľ];show c,λp t=>?_})));show q _ _ _ ŗo {p,m++r,rfl,ła yE,(Ěn).mono όl,k};rw[Ø c]at f;cases f
def mO(h:qz xs i=À x):∃j:Ä,xs[j]?=À x/\∀{β:Type}(ys:Á β),ş=ë->qz ys i=ys[j]?:=by
 unfold qz at h;cases e:ZW ë i with
 |Â=>rw[e]at h;cases h|À j=>rw[e]at h;show{j,h,λys l=>by unfold qz;rw[l,e];rfl}
def Se(xs:Á α)(i:Ê):qz xs i=pX xs i:=by
 unfold qz pX ZW;by_cases h:0<=i;rw[Ö h,Ö h];by_cases h2:i<ë;rw[Ö h2];rfl;rw[Ø h2];show(ăb Î).symm;rw[Ø h,Ø h]
 split<;>rfl
def dI(r:å K H ds vs)(h:pX ds i=À d):∃v,qz vs i=À v/\zT K H d v:=by rw[<-Se]at h;let{j,e,k}:=mO h;let{v,a,b}:=ϟa e;show{v,by rw[k vs ŷ];show a,b}
def z07:D->D->É D
 |.lst xs,.int i=>pX xs i|.tup xs,.int i=>pX xs i|.str z,.int i=>(ðo).bind λc=>À ļh|_,_=>Â
def Ej:uH K (GN K) z07:=λG H x y u v d Q s j g e q=>by
 cases x<;>first|(cases e;done)|skip
 all_goals (cases y<;>first|(cases e;done)|skip)
 rename_i z i;let{rfl,l}:=j;cases g;let{c,o,e}:=zC e;cases e;rw[<-Se]at o;show .inr (.inr {z,i,c,rfl,rfl,l,o,q _ _ _ ϳ {rfl,ĥa (n:=1) Û}});rw[Ĝp];show .inr (.inl {a,k,i,w,rfl,rfl,ve s f,h,q _ _ _ ϳ b});rw[Ĝp];show .inl {a,k,i,w,rfl,rfl,wv s f,h,q _ _ _ ϳ b}
def kE:wM X Ϫc (Ξc Ńg Òi):=rB.or rC
def kW:ZM K (Ξc (yQ K H p ys\/yf K H p ys) Òi) jV:=λG H i j d Q s r b q=>by
 match i,b with
 | [.lst xs],b=>cases b;let{v,c,rfl,{a,f,rfl,g,h,_},e}:=r;cases(show c=[]from e);show .inl {a,f,rfl,.inl g,by rw[ļc];rw[şp]}
 | [.tup xs],b=>cases b;let{v,c,rfl,{a,f,rfl,g,h,_},e}:=r;cases(show c=[]from e);show .inl {a,f,rfl,.inr g,by rw[ļc];rw[şp]}
 | [.str z],b=>cases b;let{v,c,rfl,{rfl,l},e}:=r;cases(show c=[]from e);show .inr {z,rfl,l,q _ _ _ ϳ rfl}
def bf:ZM K ĥj YZ:=λG H e f d Q s r a q=>by
 match e,a with
 | [.int i],a=>cases a;let{v,b,rfl,rfl,c}:=r;cases(show b=[]from c);show .inl {i,rfl,q _ _ _ ϳ rfl}
 | [.bl k],a=>cases a;let{v,b,rfl,rfl,c}:=r;cases(show b=[]from c);show .inr {k,rfl,q _ _ _ ϳ rfl}
#print a
theorem AN:∀xs ys:Á D,(((ϣg).all λj=>wK úh ùh)&&ë==ş)=Ϗb xs ys
 | [],[]=>rfl| [],_::_=>rfl|_::_,[]=>rfl|x::xs,y::ys=>by
  let a:=AN xs ys;exact _=Ïl;rw[<-a,Ĩ,Ĩ,Nat.succ_min_succ,List.range_succ_eq_map,Ő,ón,Bool.and_assoc]
  congr 1
  congr 1
  rw[ϫb];simp
theorem AI:∀{xs ys:Á D},pf f xs ys=Ã->∀(j:Ä) x y,xs[j]?=À x->ys[j]?=À y->f x y=Ã
 | [],_,_,j,x,y,e,_=>by cases e|x::xs,[],_,j,_,y,_,e=>by cases e|x::xs,y::ys,h,0,_,_,e1,e2=>by cases e1;cases e2;let c:ċl=Ã:=h;rw[Ūp];show c.1|x::xs,y::ys,h,j+1,a,b,e1,e2=>by let c:ċl=Ã:=h;rw[Ūp];show AI c.2 j a b ďl Ďl
section
variable{X:Cx}{z0:Á ô}{σ:St}{H:Hp}{s:Í}{K:Ï}
theorem Fu(d:∀d1 d2 v,uJ n d1 d2=Ã->zT K H d1 v->zT K H d2 v->wK d1 d2=Ã):∀{xs ys:Á D}{vs:Á V},pf řc xs ys=Ã->å K H xs vs->å K H ys vs->Ϗb xs ys=Ã
 | [],[],_,_,_,_=>rfl| [],_::_,_,_,r1,r2=>by cases(show _=[]from r1);let{_,_,e,_}:=r2;cases e
 |_::_,[],_,_,r1,r2=>by cases(show _=[]from r2);let{_,_,e,_}:=r1;cases e
 |x::xs,y::ys,_,h,r1,r2=>by let{v,r,rfl,a,b}:=r1;let{j,i,e,f,g}:=r2;cases e;let c:(uJ n x y&&pf řc xs ys)=Ã:=h;rw[Ūp];exact Ïl=Ã;rw[d x y v c.1 a f,Fu d c.2 b g];rfl
def Fb(h:uJ ŋ x y=Ã):(∃xs ys,x=.tup xs/\y=.tup ys/\pf řc xs ys=Ã)\/(∃xs ys,x=.lst xs/\y=.lst ys/\pf řc xs ys=Ã)\/(yr x=Ã/\yr y=Ã):=by
 unfold uJ at h
 rw[ϯp];show .inl {_,_,rfl,rfl,h};show .inr (.inl {_,_,rfl,rfl,h});rw[ć]at h;show .inr (.inr h)
def Yp(h:yr d=Ã)(r:zT K H d v):qQ v=Ã:=by
 cases d<;>first|show Þ h ŀ|skip
 rw[ôp];rfl;rw[ôp];rfl;rw[ôp];rfl;cases(show v=_/\_ from r).1;rfl
def WJ(c:yr d1=Ã)(d:yr d2=Ã)(a:zT K H d1 x)(b:zT K H d2 y):uy x y=wK d1 d2:=by
 cases d1<;>first|show Þ c ŀ|skip
 all_goals (cases d2<;>first|show Þ d ŀ|skip)
 all_goals first
  |(cases(show x=_ from a);cases(show y=_ from b);rfl)
  |(cases(show x=_ from a);cases(show y=_/\_ from b).1;rfl)
  |(cases(show x=_/\_ from a).1;cases(show y=_ from b);rfl)
  |(cases(show x=_/\_ from a).1;cases(show y=_/\_ from b).1;rfl)
theorem ON(I:zD X z0 σ H s):∀(n:Ä)(d1 d2:D)(v:V),uJ n d1 d2=Ã->zT X.K H d1 v->zT X.K H d2 v->wK d1 d2=Ã
 |0,_,_,_,h,_,_=>by cases h|n+1,d1,d2,v,h,r1,r2=>by rcases Fb h with⟨m,j,rfl,rfl,h⟩|⟨m,j,rfl,rfl,h⟩|⟨g,l⟩;rw[Ĺp];cases I.Bf f d;show Fu Ĉk h c b;rw[Ĺp];cases I.IF f d;show Fu Ĉk h c b;rw[<-WJ g l r1 r2];show z00 (Yp g r1)
def Au{α:Type}{xs:Á α}{j:Ä}{x d:α}(h:xs[j]?=À x):xs.getD j d=x:=by rw[Ñb,h];rfl
def Lh{A:è}{n:Ä}{a c:Ë}{xs ys:Á D}{vs us:Á V}(I:zD X z0 σ H s)(o:äa<ϒ)(B:SqB X.K H a c vs us)(g:å X.K H xs vs)(d:å X.K H ys us)(h:pf řc xs ys=Ã)(p:∀(d1 b:D)(x y:V)(u v:Value),uJ n d1 b=Ã->zT X.K H d1 x->zT X.K H b y->zu x u->zu y v->ĝb ľ s u v (wK d1 b)):ϵh A s ý ū (Ϗb xs ys)/\ŗh A s ý ū (!dEqs xs ys):=by
 let z:=y2d (A:=A) (e:=λj=>wK úh ùh) I o B λj r q l k e1 e2 m t=>by let{d1,i,C}:=g.at e1;let{b,f,w}:=d.at e2;exact ĝb ľ s l k (wK úh ùh);rw[Au i,Au f];show p d1 b r q l k (AI h j d1 b i f) C w m t
 rw[Ęa,Ţa,AN]at z;show z
theorem OL(I:zD X z0 σ H s):∀(n:Ä)(A:è)(d1 d2:D)(x y:V)(u v:Value),äa+n<ϒ->uJ n d1 d2=Ã->zT X.K H d1 x->zT X.K H d2 y->zu x u->zu y v->ĝb A s u v èo
 |0,_,_,_,_,_,_,_,_,h,_,_,_,_=>by cases h|n+1,A,d1,d2,x,y,u,v,hu,h,r1,r2,rx,ry=>by let o:=h;let r:=r1;let m:=r2;rcases Fb h with⟨C,w,rfl,rfl,h⟩|⟨C,w,rfl,rfl,h⟩|⟨p,q⟩;rw[Ŧp];show Ĥl hac (Ρc Ļn Ϲe).1;rw[Ŧp];show Ĥl hac (Ρc Ĺn Ϲe).1;rw[<-WJ p q r1 r2];show Ab rx ry (Yp p r1) (Yp q r2)
#print a
def Lg(K:Ï)(a:Ò):R2:=λx y H Q=>∃d1 d2 k,zT K H d1 x/\zT K H d2 y/\YY d1 d2=À k/\Q (.bl (if a then !k else k)) H
def yZ(a:yG k A):äa+7<ϒ:=ĩa (Žc (by decide:7<=64) _) a.units
section
variable{X:Cx}{K:Ï}
def Fx(h:YY d1 d2=À k):uJ 6 d1 d2=Ã/\k=wK d1 d2:=by
 unfold YY at h
 rw[ϯp];cases h;cases h;rw[ŀp];cases h;show{e,rfl};cases h
def dw(h:YY d1 d2=À k)(c:yr d1=Ã)(d:yr d2=Ã)(b:zT K H d1 x)(a:zT K H d2 y):KN x y=Ã/\decide (x=y)=k:=by
 let{_,e}:=Fx h;subst e;cases d1<;>first|show Þ c ŀ|skip
 all_goals (cases d2<;>first|show Þ d ŀ|(cases h;done)|skip)
 all_goals first
  |(cases(show x=_ from b);cases(show y=_ from a);show⟨rfl,by first|rfl|show Fi|show Fh⟩)
  |(cases(show x=_ from b);cases(show y=_/\_ from a).1;show⟨rfl,rfl⟩)
  |(cases(show x=_/\_ from b).1;cases(show y=_ from a);show⟨rfl,rfl⟩)
  |(cases(show x=_/\_ from b).1;cases(show y=_/\_ from a).1;show⟨rfl,Fj⟩)
def Ac(I:zD X z0 σ H s)(G:äa+7<ϒ)(h:uJ 6 d1 d2=Ã)(B:¬ (yr d1&&yr d2)=Ã)(n:zT X.K H d1 x)(m:zT X.K H d2 y)(o:zu x u)(p:zu y v) :ϵh A s u v èo/\ŗh A s u v (!wK d1 d2):=by rcases Fb h with⟨E,r,rfl,rfl,h⟩|⟨E,r,rfl,rfl,h⟩|⟨z,C⟩;rw[æp];show Lh I Î Ļn i d h λd1 d2 x y u v g k e b f=>OL I 5 ľ d1 d2 x y u v Ϲe g k e b f;rw[æp];show Lh I Î Ĺn i d h λd1 d2 x y u v g k e b f=>OL I 5 ľ d1 d2 x y u v Ϲe g k e b f;show Þ (by rw[z,C];rfl) B
def xS(j:ϵa+7<ϒ):ya X Ũo (Lg X.K Å):=by rw[Ùp];show z9c o s σ H x y v u Q I g i {a,by rw[b];show q};let{l,rfl}:=Fx d;show ϯk.1 _ _ _ _ {.bl _,H,I,rfl,q}
def qX(j:ϵa+7<ϒ):ya X ùn (Lg X.K Ã):=by rw[Ùp];show z9i o s σ H x y v u Q I g i {a,by rw[b];show q};let{l,rfl}:=Fx d;show ϯk.2 _ _ _ _ {.bl _,H,I,rfl,q}
def xQ:g_ K (Lg K Å) yS:=λH x y u v d Q b e a=>by rw[ũp]
def qW:g_ K (Lg K Ã) xn:=λH x y u v d Q b e a=>by rw[ũp]
#print a
def z2m{K:Ï}:ç K Ϛc ϭa=À Å/\ç K Ϛc âa=À Å/\ç K Ϛc řa=À Å/\
  ç K ϊa ϭa=À Å/\ç K ϊa âa=À Å/\ç K ϊa řa=À Å/\
  ç K įa ϭa=À Å/\ç K įa âa=À Å/\ç K įa řa=À Å:=by show{?_,?_,?_,?_,?_,?_,?_,?_,?_}<;>kernel_rfl
def z2n{K:Ï}:ç K ϭa įa=À Å/\ç K ϭa ϊa=À Å/\ç K ϭa âa=À Å/\ç K ϭa řa=À Å/\
  ç K âa įa=À Å/\ç K âa ϊa=À Å/\ç K âa ϭa=À Å/\ç K âa řa=À Å/\ç K âa âa=À Ã:=by show{?_,?_,?_,?_,?_,?_,?_,?_,?_}<;>first|kernel_rfl|rfl
def z2o{K:Ï}:ç K řa įa=À Å/\ç K řa ϊa=À Å/\ç K řa âa=À Å/\ç K řa ϭa=À Å:=by show{?_,?_,?_,?_}<;>kernel_rfl
nonrec def x1v:D->Ż
 |.zI => "NoneType"|.bl _ => ĝe|.int _ => ĺb|.str _ => Ĵe|.tup _ => Œ|.lst _ => Ĝ|.dic _ _ => ϗ|.exc _ => "x"|.obj _ _ _ => "x"
def Vk{K:Ï}{T:g9}{d:D}{b:Ò}(h:Ot T d=À b):ç K (.type (x1v d)) Ĵn=À b:=by
 let{n,w,u,k,o,i,r,g,t}:=z2m (K:=K);let{a,p,y,j,s,c,m,f,v}:=z2n (K:=K);let{x,l,e,q}:=z2o (K:=K);cases T<;>cases d<;>cases h
 all_goals first|show z2h|show z2f|show z2g|show z2e|show z2j|show z2i|show z2l|show z2k|assumption
def y21(K:Ï)(T:g9):Á V->Hp->VK->Æ:=λa H Q=>∃x d b,a=[x,.ty T.nm]/\zT K H d x/\Ot T d=À b/\Q ób H
def r9(T:g9):wM X ώd (y21 X.K T):=by
 intro w s σ H B A Q I r h;let{x,d,b,rfl,g,e,q}:=h;let{u,c,rfl,i,v}:=JR r;cases(show c=ϳh T.nm from v);let f:∀p,EP X w σ Q Şf { s with Ě:=p }:=λp=>{.bl b,H,Ž p,rfl,q}
 cases d with
 |zI=>cases(show x=_ from g);show QY I i .zI (Vk (d:=.zI) e) f|bl y=>cases(show x=_ from g);show QY I i (.bl _) (Vk (d:=.bl y) e) f|int y=>cases(show x=_ from g);show QY I i (.int _) (Vk (d:=.int y) e) f|str y=>cases(show x=_/\_ from g).1;show QY I i (.str _) (Vk (d:=.str y) e) f|tup ds=>let{a,t,rfl,m,_}:=g;cases(show u=ÿ a from i);let{j,_,{o,l,k,_},_}:=Ϭ m;show śa ìn ŝ {o,l,k} (Vk (d:=.tup ds) e) ëa f
 |lst ds=>let{a,t,rfl,m,_}:=g;cases(show u=ÿ a from i);let{j,_,{o,n,l,k,_},_}:=ű m;show śa žh ŝ {o,l,k} (Vk (d:=.lst ds) e) ëa f
 |dic ks ds=>cases T<;>cases e|exc _=>cases T<;>cases e|obj _ _ _=>cases T<;>cases e
def WN(T:g9)(n:Gl X ăa)(g:Gl X x)(m:â ăa=Â)(e:â x=Â)(hv:Ś x=À Ĵn)(j:SB X a f)(i:Ì Üd q12)(l:Ì ϩa q10)(s:Ì Ģ q10):SE X (.Call (.Name ăa p) [a,.Name x p1] [] pos) (ZP T f):=by let{t,o,k}:=j.h;refine{{_,(Yo (r9 T) n m OD (gP {o} (Κb (cf g e hv l s)) i) Û Û (by rw[Ő,i];rfl)).h,λ{A C G H τ σ d Q} E c q=>?_}};let{z,w,c}:=zC c;let{b,u,c}:=zC c;cases c;show k E w λv y B x r=>{v,z,b,rfl,r,u,q _ _ _ x rfl}
#print L3
namespace L3
open č
theorem ER(P:Ä->zw->Æ):∀{ds:Á D}{σ:zw}(n:Ä),P n σ->(∀i d σ,ds[i]?=À d->P (n+i) σ->∃σ1 σ2,g d σ=À σ1/\(b σ1=À Śf\/b σ1=À (.ct σ2))/\P (n+i+1) σ2)->
  ∃σ',ZZ g b ds σ=À (.nx σ')/\P (n+ĉ) σ'
 | [],σ,n,h,_=>{σ,rfl,h}|d::ds,σ,n,h,step=>by
  let{σ1,σ2,e1,e2,e}:=step 0 d σ rfl h
  let{σ',c,f}:=ER P (ds:=ds) (σ:=σ2) ŋ e λi k τ l j=>by let{a,m,q,o,p}:=step ē k τ (by simpa using l) (by rw[show n+ē=n+1+i by omega];show j);show{a,m,q,o,by rw[show n+1+i+1=n+ē+1 by omega];show p}
  show{σ',?_,by rw[Ĩ,show n+(ĉ+1)=n+1+ĉ by omega];show f};exact(ćd).bind _=_;rw[e1];exact(Çg).bind _=_;rcases e2 with e2|e2;rw[e2];show c;rw[e2];show c
abbrev jJ(j:Ä):Á D:=(Ýb j).map λk:Ä=>Ϝa k
def GR(h:f τ=À Ŷi)(a:n.natAbs<=1000000):jZ Ŀ f τ=À (jJ n.toNat):=by unfold jZ;rw[h];exact(if(0:Ê).natAbs<=yc/\n.natAbs<=yc/\(n-0).toNat<=yc then _ else _)=_;rw[Ö {by decide,by rw[ųp],by rw[ųp]},Int.sub_zero];simp only[Int.zero_add]
open Ĕ ď L2
section
variable{α:Type}
theorem iD:∀{ks:Á zR}{vs:Á α}(k:zR),ŉ=ø->((İa).any λkv=>decide ţi)=p6 ks k
 | [],[],_,_=>rfl|k'::ks,v::vs,k,h=>by let a:=iD (ks:=ks) (vs:=vs) k Øb;exact(decide Ĉj||((İa).any λkv=>decide ţi))=(decide Ĉj||p6 ks k);rw[a]
theorem WX(k:zR):∀{ks:Á zR}{vs:Á V},ŉ=ø->t_ İa k=ŗ ks vs k:=by
 intro ks
 induction ks with
 |nil=>intro vs _;cases vs<;>rfl|î k' ks ih=>
  intro vs h;cases vs with
  |nil=>cases h|î v vs=>by_cases e:k'=k;rw[Öb,Mc (p:=(k',v)) e];exact _=Ŧe;rw[Ö e];rw[Öb,Mb (p:=(k',v)) e,ih ēe];exact _=Ŧe;rw[Ø e]
theorem x58(k:zR)(v:V):∀(ks:Á zR)(vs:Á V),((İa).map λkv=>if kv.1=k then(kv.1,v)else kv)=Ög ŭj:=by
 intro ks
 induction ks with
 |nil=>intro vs;rfl|î k' ks ih=>
  intro vs;cases vs with
  |nil=>rfl|î u vs=>rw[Öb,ϰ,ih,List.zipWith_cons_cons,Öb];by_cases e:k'=k;rw[Ö e,Ö e];rw[Ø e,Ø e]
theorem Nf(h:ŉ=ø):uh İa k v=(Ği).zip Þf:=by unfold uh pB u5;rw[iD k h];by_cases c:p6 ks k=Ã;rw[Ö c,Ö c,Ö c,x58 k v];rw[Ø c,Ø c,Ø c,List.zip_append h];rfl
def Qo(h:ŉ=ø):(Ği).length=(Þf).length:=by
 unfold pB u5
 split;rw[Ϣb,h,ća];rw[ï,ï,h];rfl
def GA(h:ŉ=ø):(Þf).length<=ø+1:=by
 unfold u5
 split;rw[Ϣb,h,ća];show Ŧg _;rw[ï];show ϔ _
#print a
section
variable{K:Ï}{H:Hp}
theorem ĸo:∀{ks:Á zR}{ds:Á D}{vs:Á V}{k:zR}{d:D},å K H ds vs->ŗ ks ds k=À d->∃v,ŗ ks vs k=À v/\zT K H d v
 | [],_,_,_,_,_,e=>by cases e|_::_,[],_,_,_,_,e=>by cases e|k'::ks,d'::ds,_,k,d,r,e=>by
  let{v,h,rfl,g,b}:=r
  change (if k'=k then À d' else L3.getK ks ds k)=À d at e
  rw[èp];show{v,by exact Ŧe=_;rw[Ö c],g};rw[Ø c]at e;let{u,a,f}:=ĸo b e;show{u,by exact Ŧe=_;rw[Ø c];show a,f}
theorem Av{α β:Type}:∀{ks:Á zR}{ds:Á α}{vs:Á β}{k:zR},ĉ=ø->ŗ ks ds k=Â->ŗ ks vs k=Â
 | [],_,_,_,_,_=>by unfold ŗ;rfl|_::_,[],[],_,_,_=>rfl|k'::ks,d'::ds,v::vs,k,h,e=>by
  change (if k'=k then À d' else ŗ ks ds k)=Â at e
  exact ϖj=Â;rw[èp];rw[Ø c]at e;rw[Ø c];show Av Øb e
theorem CC:∀{ks:Á zR}{vs:Á α}(k:zR),ŉ=ø->(ŗ ks vs k).isSome=p6 ks k
 | [],[],_,_=>rfl|k'::ks,v::vs,k,h=>by let a:=CC (ks:=ks) (vs:=vs) k Øb;exact(ϖj).isSome=(decide Ĉj||_);by_cases c:k'=k;rw[Ö c,Ĵ c];rfl;rw[Ø c,ϣ c,a];rfl
theorem ϝi(hv:zT K H d v):∀{ks:Á zR}{ds:Á D}{vs:Á V},å K H ds vs->å K H (Ğc (λk' x=>if k'=k then d else x) ks ds) ŭj
 | [],_,_,_=>rfl|_::_,[],_,r=>by rw[Ĵp];rfl|k'::ks,d'::ds,_,r=>by let{u,e,rfl,a,b}:=r;show{_,_,rfl,?_,ϝi hv b};exact zT K H (if k'=k then d else d') (if k'=k then v else u);rw[ļp];show hv;rw[Ø c,Ø c];show a
def Reps.put(r:å K H ds vs)(hv:zT K H d v):å K H (u5 ks ds k d) Þf:=by
 unfold u5
 split;show ϝi hv r;show Ôd (Ůf hv)
def ZX(h:j6 x=À k)(r:zT K H x u):u=kV k:=by
 cases x<;>first|(cases h;done)|skip
 cases h;show r;cases h;show(show u=_/\_ from r).1
#print a
section
variable{X:Cx}{K:Ï}
def cz:R2:=λx y H Q=>∃a kvs k v,x=.ref a/\y=kV k/\Rd H a Ł/\t_ kvs k=À v/\Q v H
def z22:qw X cz:=by
 intro d b B s σ H x y v u Q I n t h j;let{a,c,k,z,rfl,rfl,e,l,q}:=h;cases n;let{_,_,p,f,A}:=kG Ď e;let{i,m,g}:=ϻd (v:=z) (o:=űb p k) (by rw[<-l];show f.val k)
 show ľd (x:=i) (sL I (.inl {c,k,e,rfl,rfl})) Ĺg
  (Ŭg (Q:=λr w=>r=i/\EP X B σ Q r w) (kN t) A.mapOf m {rfl,z,H,Ž _,g,q}) j
def cr(K:Ï):R2:=λx y H Q=>GN K x y H Q\/cz x y H Q
def zd(_:ϵa+1<ϒ):qw X (cr X.K):=z23.or z22
def ze:uH K (cr K) zS:=λG H x y u v d Q s e f c q=>by
 cases x with
 |dic ks ds=>let{a,n,rfl,j,l,h,_}:=e;let{k,i,c}:=zC c;let{z,m,g}:=h.getK c;show .inr {a,_,k,z,rfl,ZX i f,àc s j,by rw[WX k l];show m,q _ _ _ ϳ g}
 |zI=>cases c|bl b=>cases c|int b=>cases c|str z=>show .inl (Ωb Ųi)|tup z=>show .inl (Ωb (.tup z))|lst z=>show .inl (Ωb (.lst z))|exc z=>cases c|obj z _ _=>cases c
def GM(b:Ò):R2:=λx y H Q=>∃a kvs k,y=.ref a/\x=kV k/\Rd H a Ł/\Q (.bl (if b then !(t_ kvs k).isSome else(Ģf).isSome)) H
def z9d(c:ϵa+1<ϒ):ya X Ôe (GM Å):=by rw[ďp];show sA c I όk f λi d=>{.bl _,H,d,rfl,q}
def z9j(c:ϵa+1<ϒ):ya X āf (GM Ã):=by rw[ďp];show sC c I όk f λi d=>{.bl _,H,d,rfl,q}
def Qu(K:Ï)(a:Ò):R2:=λx y H Q=>GL K a x y H Q\/(∃i j,x=.str i/\y=.str j/\Q (.bl (if a then !(!(Şe j i 0 Ča 1).isEmpty)else !(Şe j i 0 Ča 1).isEmpty)) H)\/GM a x y H Q
def Qi(a:ϵa+1<ϒ):ya X Ôe (Qu X.K Å):=z9e.or (z9f.or (z9d a))
def bn(a:ϵa+1<ϒ):ya X āf (Qu X.K Ã):=z9k.or (z9l.or (z9j a))
theorem Qw(c:yr x=Ã)(e:zT K H x u):∀{ys:Á D}{vs:Á V},å K H ys vs->ŷb yr=Ã->vs.all qQ=Ã/\Oq u vs=ys.any λy=>wK y x
 | [],_,r,_=>by rw[Ĵp];show{rfl,rfl}|y::ys,_,r,h=>by let{v,g,rfl,d,f}:=r;rw[Ő,ć]at h;let{a,b}:=Qw c e f h.2;refine{by rw[Ő,Yp h.1 d,a];rfl,?_};exact(uy v u||Oq u g)=(wK y x||_);rw[WJ h.1 c d e,b]
theorem aJ(d:zT K H x u)(h:zT K H y v)(b:OQ x y=À k)(q:Q (.bl (if neg then !k else k)) H):Qu K neg u v H Q:=by
 cases y with
 |lst ys=>
  let{a,g,rfl,e,f,_}:=h
  rw[Ğp]
  cases c:Şm with
  |Å=>rw[c]at b;cases b|Ã=>rw[c]at b;cases b;rw[ć]at c;let{o,n}:=Qw c.1 d f c.2;show .inl {a,g,rfl,.inl e,Yp c.1 d,o,by rw[n];show q}
 |tup ys=>
  let{a,g,rfl,e,f,_}:=h
  rw[Ğp]
  cases c:Şm with
  |Å=>rw[c]at b;cases b|Ã=>rw[c]at b;cases b;rw[ć]at c;let{o,n}:=Qw c.1 d f c.2;show .inl {a,g,rfl,.inr e,Yp c.1 d,o,by rw[n];show q}
 |str j=>
  cases x<;>first|(cases b;done)|skip
  rename_i i;cases b;show .inr (.inl {i,j,(show u=_/\_ from d).1,(show v=_/\_ from h).1,q})
 |dic ks ds=>let{m,p,b}:=zC b;cases b;let{a,g,rfl,e,l,f,_}:=h;show .inr (.inr {a,_,m,rfl,ZX p d,e,?_});rw[WX m l,CC m l];show q
 |_=>cases b
def Qf:g_ K (Qu K Å) ZR:=λH x y u v d Q b e a=>by rw[ϑp]
def bh:g_ K (Qu K Ã) Q3:=λH x y u v d Q b e a=>by rw[ϑp]
def M1:SF X Ϝl Ŀg:={{_,y08,λ{c e G H τ σ d Q} E b q p a=>by cases b;show q p G _ (Ϛa ŵ a) a (ıh a) {[],yE,rfl,rfl,ϱ _}}}
def MJ(C:ϵa+1<ϒ)(Q:QE X ía ðc)(hk:SE X k fk)(hv:SE X v fv)(s:Ì (Οb (.Subscript ía k Èa)) q12) :SS X (.Assign [.Subscript ía k Èa] v pos) (Vy i fk fv):=by
 let{tk,I,F}:=hk.h;let{U,J,B}:=ļb;show{{_,cK C Q.h I J s,λ{G0 Y G H τ σ W E} K b q=>?_}};let{y,t,b}:=zC b;show B K t λw T H1 O P=>?_
 rw[ϰp];rename_i ks p o;let{R,L,b}:=zC b;let{d,e,b}:=zC b;by_cases c:ŉ<yc;rw[Őp];let m:=Ϝ O;let{a,n,g,z,vs,r,l,j,hl}:=m.ow _ _ o;show{_,n,F m L λu S H2 f N=>{a,_,rfl,.inl {_,d,f.h _ _ r,ZX e N,?_,rfl},?_}};rw[ìa,l,ća,Ľ,<-l];show c;show q _ _ _ ((m.go f).IG o n {u5 ks vs d w,?_,Qo l,(ħe f.g).put (P.mono f.g),?_});rw[yE,Nf l];let h1:=GA (ks:=ks) (vs:=p) (k:=d) (v:=y) (by rw[l,Ča]);have Z:Ĺi<16777216:=by rw[<-Ča,<-l];show c
 rw[Ţp];rw[ŏp];cases b
def uo(K:Ï)(w:ß)(a:Ë)(ks:Á zR)(ds:Á D):Æ:=
 ∃us:Á V,ŉ=ũ/\ßa=Å/\(∀H,å K H ds us)/\∀(P:à)(h:Heap),İ h->∃vs,KV Ãc vs/\õd ķa a vs
inductive j_(w:ß):Á ġb->Á Ç->Á Value->Æ
 |nil:j_ w [] [] []
 |î {x:Ç} {t:Tok} {v:Value} {es:Á ġb} {xs:Á Ç} {vs:Á Value} (r:j_ w es xs vs):j_ w (⟨ńm w.params x,.str x t,v⟩::es) (x::xs) Àg
def j_.pairs:∀{es:Á ġb}{xs:Á Ç}{vs:Á Value},j_ w es xs vs->Pairs ķa es ((Źb ñb).zip vs)/\(∀e∈es,∃k,(ķa).is k e.key=Ã/\e.hash=(ķa).hash k):=λ{es xs vs} h=>by
 induction h with
 |nil=>show{.nil,λ_ h=>(Óa h).elim}|@cons x t _ _ _ _ r ih=>let{a,b}:=ih;show{.cons (EW P w x t) rfl a,λe h=>?_};rcases ř h with rfl|h;show{.inr x,EW P w x t,rfl};show b e h
def j_.len{w:ß}{es:Á ġb}{xs:Á Ç}{vs:Á Value}(h:j_ w es xs vs):ë=ø:=by
 induction h with
 |nil=>rfl|î _ ih=>rw[Ĩ,Ĩ,ih]
theorem EN(r:zk us vs):∀{ks:Á zR},ŉ=ũ->KV Ãc İa:=by
 induction r with
 |nil=>intro ks _;rw[ĩl,ĩl];show .nil|î r _ ih=>
  intro ks h;cases ks with
  |nil=>show .nil|î k ks=>show .cons {rfl,r} (ih ēe)
theorem Mr:∀{ks:Á zR}{vs:Á Value},ŉ=ø->(İa).map (·.1)=ks
 | [],[],_=>rfl|k::ks,v::vs,h=>by rw[Öb,ϰ,Mr Øb]
theorem As(l:Ÿ a=À { cls:=.type ϗ,Č:=.dict ϭh n })(e:j_ w es xs vs)(f:ĺc)(d:ßa=Å)(r:zk us vs)(j:∀H,å K H ds us) :uo K w a ġc ds:=by
 rw[ĺp]
 show{us,c,d,j,λP h g=>{_,EN r c,?_}};rw[Ϣp];refine{_,_,_,g _ _ l,{rfl,rfl,rfl},rfl,λe i=>q e ŋl,p,?_};rw[Mr Ũg];show Ãh _ łg f
def z0f(g:uo X.K X.w A ks ds):qw X (λx y H Q=>x=.ref A/\∃k,y=kV k/\∃d,ŗ ks ds k=À d/\∀v,(∀H,∃H',zg H H'/\Ľb)->(∀H,zT X.K H d v)->Q v H):=by
 intro c b R s σ H x y v u Q I G L h t;let{rfl,k,rfl,d,l,q}:=h;cases G;let{S,P,j,i,C}:=g;let{J,e,p}:=C ì Ü ŝ;let{z,m,_}:=(i H).getK l
 let B:∀H,zT X.K H d z:=λH'=>by let{T,a,N}:=(i H').getK l;rw[m]at a;cases a;show N
 let{n,E,f}:=ϻd (v:=z) (o:=űb J k) (by rw[<-m,<-WX k P];show e.val k)
 show ľd (x:=n) p.typeIs Ĺg
  (Ŭg (Q:=λr O=>r=n/\EP X R σ Q r O) (kN L) p.mapOf E {rfl,z,H,Ž _,f,q z (λH=>{H,ĵa H,trivial}) B}) t
def ku(h:wN â x īb)(g:uo X.K X.w A ks ds)(j:Gl X x)(m:SE X b fb)(c:Ì ùo q12)(l:Ì Ģ q10) :SE X (.Subscript þa b pos) (e1 (gE ks ds) fb):=by let{z,o,i}:=m.h;show{{_,LV (z0f g) (WF h j l) o (LX c),λ{t F G H τ σ d Q} E a q=>?_}};let{y,n,a}:=zC a;let{k,e,a}:=zC a;show i E n λu B C r f=>{rfl,k,ZX e f,d,a,λv _ s=>q v _ _ r (s _)}
#print a
nonrec def KQ:D->É İb
 |.lst xs=>À xs|.tup xs=>À xs|_=>Â
def Oo(a b:FE):FA:=λσ=>(Ña).bind λx=>(Čj).bind λy=>(KQ x).bind λd=>(KQ y).bind λc=>À (Ğc ĵl d c)
section
variable{K:Ï}{G H:Hp}
def eB(h:KQ x=À xs)(r:zT K G x u):∃t a vs,u=.ref a/\tj K t G a vs/\å K G xs vs/\ë<=á:=by
 cases x<;>first|(cases h;done)|skip
 cases h;let{a,vs,rfl,c,b,l}:=r;show{Ã,a,vs,rfl,c,b,l};cases h;let{a,vs,rfl,c,b,l}:=r;show{Å,a,vs,rfl,c,b,l}
def Yq(s:zg H H')(h:tj K t H a vs):tj K t H' a vs:=by cases t;show wv s h;show ve s h
def x59(l:tj K t1 G a vs)(h:tj K t2 G b us)(j:å K G xs vs)(g:å K G ys us):jR K ãh G (Ğc ĵl xs ys) where
 go:=λi f H d c e=>by rw[Ϣb]at e;let{v,e1,_}:=úg (ļ (show i<ë by omega));let{u,e2,_}:=g.get (ļ (show i<ş by omega));show{vs,us,v,u,Yq Ėd l,Yq Ėd h,e1,e2}
 vw:=λi f H x A d c e y=>by let{p,o,rfl,k}:=y;let{v,u,e1,e2,rfl}:=k vs us (Yq Ėd l) (Yq Ėd h);let{s,t,z}:=j.at e1;let{r,w,q}:=g.at e2;refine{upd f p Ķn,.tup [s,r],Äb c o,by rw[Ÿg,t,w],?_};let m:zg G (upd f p Ķn):=Śb (wP (c.free o) _);show{p,[v,u],rfl,Ļb yE,{v,_,rfl,z.mono m,{u,_,rfl,q.mono m,rfl}},ĥa (n:=2) Û}
 ϡa:=λi f H d c e=>by rw[Ϣb]at e;show{vs,us,Yq Ėd l,Yq Ėd h,?_};rw[Ča,Ęa];omega
#print a
section
variable{X:Cx}{a b e o:Ñ}{fa fb f:FE}{p pos ž Ų:Pos}
def KZ(z:Gl X Ĥa)(L:â Ĥa=Â)(F:SE X a fa)(B:SE X b fb)(m:Ì Üd q12)(d:Ì ão q12):SI X ĕl Ĵg (Oo fa fb):=by
 let{t,N,k}:=(zB F (zB B zH d) m).h;show{{_,(y1k z L {N} m d).h,λ{G0 W G H τ σ ds R} K c q=>?_}};let{x,E,c}:=zC c;let{y,C,c}:=zC c;let{Y,e,c}:=zC c;let{ys,f,c}:=zC c;cases c;refine k K (ds:=ϖa) (by unfold zA;rw[E,C];rfl) λZ U H1 j Q=>?_
 let{v,r,rfl,A,{v2,I,rfl,g,s}}:=Q;cases(show I=[]from s);let{S,J,i,rfl,n,P,l1}:=eB e A;let{w,O,l,rfl,o,u,T}:=eB f g;show{J,O,i,l,S,w,rfl,Yq j.gh n,Yq j.gh o,q _ _ _ j ?_ (x59 n o P u)};rw[Ϣb];omega
abbrev FO:=zw->É (É Ê)
nonrec def uO:FO:=λ_=>À Â
nonrec def uP(f:FE):FO:=λσ=>(f σ).bind λd=>match d with
 |.int i=>À (À i)|_=>Â
def kF(xs:Á α)(lo hi:É Ê):Á α:=(ņk).take ök
def Aj(d:D)(lo hi:É Ê):É D:=match d with
 |.lst xs=>À (Δ Ϸg)|.tup xs=>if ę ë 0 lo=0/\ę ë ë hi=ë then Â else À ăo|.str z=>À (.str İn)|_=>Â
def ua(a:FE)(lo hi:FO):FE:=λσ=>(Ña).bind λd=>(Êj).bind λl=>(Ìj).bind λh=>Aj d l h
structure SO(X:Cx)(e:É Ñ)(f:FO):Æ where
 h:∃t,PO X e t/\∀{G0 H0 G H:Hp}{τ:zw}{σ:St}{d:É Ê}{Q:É Ê->Hp->Æ},zi X.K ê G0 H0 G H τ σ->f τ=À d->(∀G' H',zK G H G' H'->Q d H')->t σ H Q
def gQ:SO X Â uO:={{_,y13,λE a q=>by cases a;show q _ _ ìb}}
def gR(h:SE X e f):SO X (À e) (uP f):=by
 let{t,c,k}:=h.h;show{{_,y14 c,λ{g j G H τ σ d Q} E a q=>?_}};let{x,b,a}:=zC a;cases x<;>first|(cases a;done)|skip
 cases a;show k E b λv l i x r=>{_,r,q _ _ x}
def Reps.cut{K:Ï}{G:Hp}{ds:Á D}{vs:Á V}(r:å K G ds vs)(lo hi:É Ê):å K G (kF ds lo hi) (YW vs lo hi):=by unfold kF YW;rw[ŷ];show(âj _).take _
def OF(xs:Á α)(lo hi:É Ê):(Ϸg).length<=ë:=by unfold kF;rw[Ôa,Ăa];show Ĳ Òe Üb
def y25(K:Ï):V->É Ê->É Ê->Hp->VK->Æ:=λx b a H Q=>dC K x b a H Q\/dF K x b a H Q\/dD x b a H Q
def eM:k9 X (y25 X.K):=y59.or (y5b.or y5a)
def kz{lo hi:É Ñ}{fl fh:FO}{I:Pos}(C:SE X a fa)(u:SO X lo fl)(r:SO X hi fh):SE X (Γe (.Slice lo hi Â I)) (ua fa fl fh):=by
 let{S,K,y}:=C.h;let{T,A,w}:=u.h;let{P,L,F}:=r.h;show{{_,cF eM K A L,λ{U R G H τ σ d Q} E b q=>?_}};let{x,B,b}:=zC b;let{l,u,b}:=zC b;let{h,r,b}:=zC b;show y E B λv O H1 t J=>w Ϫf u λN Y o=>F ((Ϫf).go o) r λW Z e=>?_
 let k:=Ϗi (o.trans e);let n:=J.mono (Ģo e.g);cases x with
 |lst xs=>cases b;let{a,m,rfl,s,j,f}:=n;refine .inl {a,m,rfl,wv ώb s,λp i=>q _ _ _ Źk {p,_,rfl,ła yE,(Ϛn).mono ţm,Ĳ Êg f}}
 |tup xs=>
  change (if ę ë 0 l=0/\ę ë ë h=ë then Â else À (Ŀe (kF xs l h)))=À d at b
  by_cases c:ę ë 0 l=0/\ę ë ë h=ë;rw[Őp];rw[ŏp];let{a,m,rfl,s,j,f}:=n;refine .inr (.inl {a,m,rfl,ve ώb s,by rw[Ča];show c,λp i=>?_});show q _ _ _ Źk {p,_,rfl,Ļb yE,(Ϛn).mono ţm,Ĳ Êg f}
 |str z=>cases b;let{rfl,f}:=n;show .inr (.inr {z,rfl,f,q _ _ _ k {rfl,Ĳ (Fd ..) f}})
 |_=>cases b
nonrec def p_:Á D->É D
 | [.lst xs]=>À ða| [.tup xs]=>À ða|_=>Â
nonrec def Xn:Á D->É D
 | [.lst xs]=>À Ļa| [.tup xs]=>À Ļa|_=>Â
def qZ{K:Ï}{G:Hp}{d:D}{vs:Á V}(r:å K G [d] vs):∃v,vs=[v]/\zT K G d v:=by let{v,c,rfl,b,a}:=r;cases(show c=[]from a);show{v,rfl,b}
def J6{fs:FA}(s:Gl X Ĝ)(r:â Ĝ=Â)(o:SA X [e] fs)(n:Ì ϥ q12):SF X (θa Ýn) (eL p_ fs):=by
 let{t,u,k}:=o.h;refine{{_,(Vt rE s r VH {u} Û Û ϳg).h,λ{y A G H τ σ d Q} E c q=>?_}};let{w,x,c}:=zC c;show k E x λB z C b m=>?_
 match w,c with
 | [.lst xs],c=>cases c;let{v,rfl,a,g,rfl,j,i,l}:=qZ m;show{a,g,rfl,.inl (wv b.gh j),λp f=>q p _ _ žk Ĭn Ín {g,yE,i,l}}
 | [.tup xs],c=>cases c;let{v,rfl,a,g,rfl,j,i,l}:=qZ m;show{a,g,rfl,.inr (ve b.gh j),λp f=>q p _ _ žk Ĭn Ín {g,yE,i,l}}
def LQ{K:Ï}:SH K (Θd ((yQ K H p ys/\∀l,H l=Â->Q Þc Án)\/(yf K H p ys/\Q ύ H))) Xn:=λG H h i d Q s r c q=>by
 match h,c with
 | [.lst xs],c=>cases c;let{v,rfl,a,b,rfl,e,f,l}:=qZ r;show{a,b,rfl,.inl {wv s e,λp g=>q _ _ _ (Äb s g) {p,b,rfl,Ļb yE,f.mono (wP (s.free g) _),l}}}
 | [.tup xs],c=>cases c;let{v,rfl,a,b,rfl,e,f,l}:=qZ r;show{a,b,rfl,.inr {ve s e,q _ _ _ ϳ {a,b,rfl,e,f,l}}}
def Vh(x:D):Á D->Ä->É Ä
 | [],_=>Â|y::ys,n=>match wK y x with
  |Ã=>À n|Å=>Vh x ys ŋ
def Fy:D->D->É D
 |.lst ys,x=>match yr x&&ŷb yr with
  |Ã=>(Vh x ys 0).bind λn=>À Ŷi|Å=>Â
 |_,_=>Â
theorem EG:∀{ys:Á D}{n m:Ä},Vh x ys n=À m->∃j y,m=n+j/\ys[j]?=À y/\wK y x=Ã/\∀i z,i<j->ys[i]?=À z->wK z x=Å
 | [],_,_,h=>by cases h|y::ys,n,m,h=>by
  change (match wK y x with|Ã=>À n|Å=>Vh x ys ŋ)=À m at h
  cases c:wK y x with
  |Ã=>rw[c]at h;cases h;show{0,y,rfl,rfl,c,λi z a=>Þ a ϧg}|Å=>
   rw[c]at h;let{j,d,e1,e2,e,f}:=EG h;refine{j+1,d,by omega,by simpa using e2,e,λi z a b=>?_};cases i with
   |ſ=>cases b;show c|ϊ i=>show f i z Î ōl
def z49:VA X "list.index" (λx vs H Q=>∃(a:Ë) (us:Á V) (y:V) (j:Ä) (u:V),x=.ref a/\vs=[y]/\yQ X.K H a us/\qQ y=Ã/\us.all qQ=Ã/\us[j]?=À u/\uy u y=Ã/\(∀i z,i<j->us[i]?=À z->uy z y=Å)/\Q źm H):=by
 intro z0 s σ H x xs v P Q I O N h;let{a,us,y,j,u,rfl,rfl,Z,fy,G,E,o,no,q}:=h;cases O;let{w,rfl,S}:=vg N;let{b,r,{{c1,W,t1,l},n1,L,C,hd,g},hz}:=ű Z;simp only at C g;subst C g;let J:=ŷ;let R:j<ũ:=(Ť E).1
 let f:∀(i:Ä)(z:V)(k:i<ſa),us[i]?=À z->uM y ĸa[i]=uy z y:=λi z k A=>by
  let{t,B,U}:=ϟa A
  let e:ĸa[i]=t:=by let T:b[i]?=À b[i]:=ļ (by rw[đ]at k;show k);rw[T]at B;simpa using B
  rw[e];show OM U (ŋa G z (ϟb A))
 have c:j<ſa:=by rw[đ,<-J];show R
 let Y:=W1;refine Čb Œk {_,L,rfl} PySem.F.entry_list_index (PySem.F.args_list_index_2 _ _) (SeqAt.list_indexAt a ĸa n1 W l w (uM y) j c Î (by rw[f j u c E];show o) λm p n=>?_) {L,λt g=>?_,{.int j,H,Ž _,{_,rfl},q}};have d:m<ũ:=by rw[đ,<-J]at p;show p
 rw[f m us[m] p Ėe];show no m _ n Ėe;show W5 S fy r G t Ōl
def y4f{fo:FE}(ho:SE X o fo)(U:SE X e f)(l:Ì (Ōa o ϒf Ó Ϭd=Ċ o Ó) q12)(p:Ì Ņa q12)(A:Ì ϥ q12) :SE X (ηa (.Attribute o ϒf ž)) (e2 Fy fo f):=by
 let{to,Z,P}:=ho.h;let{te,pe,T}:=(zB U zH A).h;refine{{_,(Qs Ŏd Œk PySem.F.type_list_index z49 {Z} {pe} l p ϴg œd).h,λ{G0 H0 G H τ σ d Q} E b q=>?_}};let{x,W,b}:=zC b;let{y,S,b}:=zC b;show P E W λv G1 H1 r r1=>?_
 cases x with
 |lst ys=>
  let{a,B,rfl,J,L,_}:=r1;refine{.inl {rfl,B,wv r.gh J},T (Ϯ r) (ds:=[y]) ňk λws G2 H2 t r2=>?_};let{w,rfl,k}:=qZ r2
  change (match yr y&&ŷb yr with|Ã=>(Vh y ys 0).bind λn=>À (Ϝa n)|Å=>Â)=À d at b
  cases c:(yr y&&ŷb yr)with
  |Å=>rw[c]at b;cases b|Ã=>
   rw[c]at b;let{n,N,b}:=zC b;cases b;rw[ć]at c;let{j,z,e1,e2,Y,e4}:=EG N;rw[œa]at e1;subst e1;let m:=Ži t.g;let{u,eu,R}:=m.get e2;let I:∀{i:Ä}{z:D},ys[i]?=À z->yr z=Ã:=λ{i z} s=>ŋa c.2 z (ϟb s)
   refine{a,B,w,n,u,rfl,rfl,wv (r.gh.trans t.h) J,Yp c.1 k,(Qw c.1 k m c.2).1,eu,by rw[WJ Đj c.1 R k];show Y,λi z K s=>?_,q _ _ _ (ϑi t) rfl};let{dz,C,O}:=m.at s;rw[WJ (I C) c.1 O k];show e4 i dz K C
 |_=>cases b
def y65(J:TM X op ti)(m:uH X.K ti F)(s:Ϩ)(hi:X.N[i]?=À x)(c:uq ϟ x)(A:SE X e f)(a:Ì Ĩa q7) :SS X (.AugAssign äf op e pos) (yn i (e2 F ãg f)):=by let{t,p,k}:=A.h;show{{_,G7 s hi c p J a,λ{L R G H τ σ Q E} K a q=>?_}};rw[ťp];let{x,c,b}:=zC b;let{y,z,b}:=zC b;let{v,l,I}:=K.fr _ _ (OJ c);show{v,l,k K z λu o B j r=>m o B x y v u d _ j.gh (I.mono j.g) r b λw O P C n=>?_};show q _ _ _ (((ďe).go C).set ŀa.1 n)
def bg{K:Ï}:uH K Ġm ûh:=λG H x y u v d Q s b c a q=>by
 cases x<;>first|(cases a;done)|skip
 cases y<;>first|(cases a;done)|skip
 rw[Ēp]
variable{x:Ç}{ps:Á Ç}{j k:Ä}{FF:Á D->É ð}
def y4p(h:xE ì X.w X.K â Ĥ x ps k ĩc)(c:yG j X.A)(n:Gl X x)(hk:Ì Ùa q10)(e:Ì Ģ q10):SF X ϳk (ux FF zF):=by
 let{f,y,m,g,b,F}:=h;show{{_,y01 F (c.mono hk) n m g b .nil kY e,λ{v B G H τ σ d Q} E a q=>?_}};let{z,s,a}:=zC a;cases s;obtain⟨⟨o,d⟩,c,a⟩:=zC a;cases o with
 |Å=>cases a|Ã=>cases a;show{G,[],Ã,_,ŵ,rfl,c,λp t i u r l o=>q p t i u r l o}
#print a
def FR(n N:Ä)(b:FS)(ds:Á D):É ð:=if ĉ=n then vF N b ds else Â
def yW:∀ds r,FR n N b ds=À r->ĉ=n/\vF N b ds=À r:=λds r h=>by
 unfold FR at h
 rw[ãp]
theorem fQ{M:öc}{A:è}{E:Value->Í->Æ}{a:Ú Value}{x:Value}{e:Value->Ò}{j:Ä}(k:∃Ā w,M=øg Ā w)(l:j<ù)(b:e a[j]=Ã)(f:∀m (n:m<ù),m<j->e a[m]=Å){s:Í}(g:∀y∈a,ĝb A s y x (e y)){Q:É ŀf×èa->Í->Æ}(h:Q (À (.done Ĕl),()) { s with Ě:=ě+1 }):∀m i:Ä,i+m=ù->i<=j->
  Õ M A (öb (Ŝn i m) ((Â,()):É ŀf×èa) λ(i:Ä) (_:É ŀf×èa)=>match a[i]? with
   |À y=>do
    let Ľf <-eqBool y x
    if Ľf=Ã then do
      let Ľf <-retInt (i:Ê)
      pure (ForInStep.done (À Ľf,()))
     else pure őm
   |_=>pure őm) Q E s
 |0,i,h1,h2=>by omega|m+1,i,h1,h2=>by
  let{Ā,w,rfl}:=k;let d:i<ù:=by omega
  rw[Ϯl,Êf];show Ð ?_;rw[Array.getElem?_eq_getElem d];show Ð (g _ (Array.getElem_mem d) Ā w E _ ?_);by_cases c:i=j;subst c;rw[b,Ö rfl]
  wp_walk
  show h;rw[f i d Î,Ø Û];show ċ ?_;show fQ {Ā,w,rfl} l b f g h m ē Î Î
def x0n(t:Ë)(a:Ú Value)(x:Value)(e:Value->Ò)(j:Ä)(l:j<ù)(c:e a[j]=Ã)(i:∀m (r:m<ù),m<j->e a[m]=Å) :Ăg (Builtin.«tuple.index» {[.ref t,x],[]}) (λA R s=>Êb Ü t a/\(∀y∈a,ĝb ľ s y x (e y))/\R (.ok Ĕl) { s with Ě:=ě+1 }):=by
 intro b w A R s h;let{v,g,d,u,q}:=s;obtain⟨⟨o,B,z,n,k⟩,p,h⟩:=h;unfold Builtin.«tuple.index»
 wp_walk
 skip
 rw[k];show ċ Śa;exact Õ _ _ (pure 0 >>= _) _ _ _;show Ð (χ Ēh);rw[Std.Legacy.Range.forIn_eq_forIn_range'];let f:ϕk [0:min ù ù]=ù:=by simp[ϕk]
 rw[f];show fQ {b,w,rfl} l c i p ?_ ù 0 Î Î;show ċ h
section
variable{X:Cx}{e o k v:Ñ}{f fo fk fv:FE}{x:Ç}{xp p ž Ų:Pos}
def z4a:VA X "tuple.index" (λx vs H Q=>∃(a:Ë) (us:Á V) (y:V) (j:Ä) (u:V),x=.ref a/\vs=[y]/\yf X.K H a us/\qQ y=Ã/\us.all qQ=Ã/\us[j]?=À u/\uy u y=Ã/\(∀i z,i<j->us[i]?=À z->uy z y=Å)/\Q źm H):=by
 intro z0 s σ H x Y v N Q I L G h;let{a,us,y,j,u,rfl,rfl,T,W,C,A,l,U,q}:=h;cases L;let{w,rfl,P}:=vg G;let{b,r,B,Z}:=Ϭ T;let E:=ŷ;let O:j<ũ:=(Ť A).1
 let f:∀(i:Ä)(z:V)(g:i<ſa),us[i]?=À z->uM y ĸa[i]=uy z y:=λi z g o=>by
  let{t,p,S}:=ϟa o
  let e:ĸa[i]=t:=by let R:b[i]?=À b[i]:=ļ (by rw[đ]at g;show g);rw[R]at p;simpa using p
  rw[e];show OM S (ŋa C z (ϟb o))
 have c:j<ſa:=by rw[đ,<-E];show O
 refine Čb Ľk B.typeIs PySem.F.entry_tuple_index (PySem.F.args_tuple_index_2 _ _) (x0n a ĸa w (uM y) j c (by rw[f j u c A];show l) λm n k=>?_) {B,λt J=>?_,{.int j,H,Ž _,{_,rfl},q}};have d:m<ũ:=by rw[đ,<-E]at n;show n
 rw[f m us[m] n Ėe];show U m _ k Ėe;show W5 P W r C t (by simpa using J)
def Ds(K:Ï)(A:Ë):Æ:=∃o,Ÿ A=À o/\Ça=.type Œ/\ĥe=Â
def Am(ds:Á D)(y:D):É D:=Fy êb y
def y4e(h:wN â x īb)(r:∀H,zT X.K H Ýe īb)(kt:Ds X.K A)(N:Gl X x)(U:SE X e f)(R:Ì Ģ q10)(k:Ì (Ōa ía ϒf Ó ĵh=Ċ ía Ó) q12)(l:Ì Ņa q12)(p:Ì ϥ q12) :SE X (ηa (.Attribute ía ϒf ž)) (e1 (Am ds) f):=by
 let{te,pe,T}:=(zB U zH p).h;refine{{_,(Qs PySem.F.plainAttrs_tuple Ľk PySem.F.type_tuple_index z4a (GJ h N R) {pe} k l (by rw[Ő,p];rfl) œd).h,λ{G0 H0 G H τ σ d Q} E g q=>?_}};let{y,S,g}:=zC g;refine{.inr (.inl {rfl,kt}),T E (ds:=[y]) ňk λws C H2 v Y=>?_};let{w,rfl,b}:=qZ Y;let{a,I,O,Z,m,_}:=r C;cases O
 change (match yr y&&Żb yr with|Ã=>(Vh y ds 0).bind λn=>À (Ϝa n)|Å=>Â)=À d at g
 cases c:(yr y&&Żb yr)with
 |Å=>rw[c]at g;cases g|Ã=>
  rw[c]at g;let{n,J,g}:=zC g;cases g;rw[ć]at c;let{j,z,e1,e2,W,e4}:=EG J;rw[œa]at e1;subst e1;let{u,eu,P}:=m.get e2;let t:∀{i:Ä}{z:D},ds[i]?=À z->yr z=Ã:=λ{i z} o=>ŋa c.2 z (ϟb o)
  refine{A,I,w,n,u,rfl,rfl,ve v.gh Z,Yp c.1 b,(Qw c.1 b m c.2).1,eu,by rw[WJ (t e2) c.1 P b];show W,λi z B o=>?_,q _ _ _ v rfl};let{dz,s,L}:=m.at o;rw[WJ (t s) c.1 L b];show e4 i dz B s
def y4d(N:ϵa+1<ϒ)(Y:SE X o fo)(hk:SE X k fk)(hv:SE X v fv)(m:M2 X o "get" ž k v Ų):SE X (.Call ŏk [k,v] [] Ų) (AU fo fk fv):=by
 let{to,T,C}:=Y.h;let{tk,P,O}:=hk.h;let{tv,R,J}:=ļb;show{{_,y07 N T P R m,λ{G0 H0 G H τ σ d Q} E b q=>?_}};let{x,S,b}:=zC b;show C E S λw G1 H1 f W=>?_
 cases x with
 |dic ks ds=>
  let{y,F,b}:=zC b;let{z,L,b}:=zC b;let{e,j,b}:=zC b;cases b;let{a,I,rfl,B,l,t,_}:=W;show{a,rfl,.inl {_,àc f.gh B},O Ϫi F λu Z H2 i U=>J ((Ϫi).go i) L λw' G3 H3 n K=>?_};show{t_ (Ög I) e,.inl {_,e,àc (f.gh.trans (i.h.trans n.h)) B,ZX j U,rfl},?_};rw[WX e l];let p:=áj (ĩo n.g);cases c:ŗ ks ds e with
  |Â=>rw[c]at q;rw[Av (by rw[æe]) c];show q _ _ _ Ϧm K|À d'=>rw[c]at q;let{z',s,r}:=p.getK c;rw[s];show q _ _ _ Ϧm r
 |_=>cases b
nonrec def uZ(i:Ê):Ä:=Šd i
def F_:D->D->É D:=fI (λi j=>decide (uZ i+uZ j<=134217728)) (·*·)
def z9h:ya X ϒh ŵj:=WB λi j _ _ _ _ _ a q=>mul_int q (by unfold IntMulOk;intro h;rw[ć]at h;let b:decide (((Šd i+Šd j:Ä):Ê)>(134217728:Ä))=Ã:=h.2;let c:=ı b;let d:Šd i+Šd j<=134217728:=a;omega)
def z8i{K:Ï}:uH K ŵj F_:=Yi λ_ _ h=>ı h
#print a
open Ϡf
theorem i7:∀{ns:Á Ê}{m:Ê},m∈ns->uZ m<=ϫc ďc
 | [],_,h=>by cases h|n::ns,m,h=>by
  let e:ϫc ((Æj).map ïi)=uZ n+1+ϫc ďc:=by exact ϫc (ïi n::Þb ïi)=_;rw[ϫc];rfl
  rw[e];rcases ř h with rfl|h;omega;let:=i7 h;omega
def z2z{ns:Á Ê}(h:WData.layableAll [.list ďc]=Ã):∀m∈ns,uZ m<=1048576:=λm b=>by
 let a:ϖm Ϟh=Ã:=ŋa h _ Śo;unfold ϖm at a;rw[ć]at a;let e:ŕh Ϟh<=2 ^ 20:=ı a.2;let c:=i7 b;let d:ŕh Ϟh=ϫc ďc:=by rw[ŕh]
 omega
section
variable{K:Ï}
def J8(K:Ï):Sp:=λb H Q _=>∃(a:Ë) (ns:Á Ê),b=Ãa/\yQ K H a Œa/\Ŷ<=63/\(∀m∈ns,uZ m<=1048576)/\∀H',Q Îa H'
#print a
def walkB{l:ôi}{n k:Ä}{q:à}{i:Á Ç}{XP:Þh->Heap->Æ}{N:ß->Heap->Æ}{d:DefRec}{K:ßg->Ï}{sp:Ï->Sp}{x:Ç}(Z:èj=À n)(L:n<=á)(G:Ūl=[])(U:yG k Đd)(hY:∀(w:ß)(h:Heap),N w h->(ėb).In h)(F:∀(w:ß)(j:Ç->É Value)(C:Ë)(h:Heap),(ėb).In h->üa õ j->j d.name=À ú->
   ∃fd:ĝ,(∀(s:Í)(u:Value),Ġa s fd {[u],[]} [(x,u)])/\∀È:Heap,(ėb).In È->đd õ j->yT ĩ w ėb j È yo k C fd [x] (sp ėb))
  (I:∀(K:Ï)(H:Hp)(a:Ë)(ns:Á Ê),Ŷ<=n->(∀m∈ns,uZ m<=1048576)->yQ K H a Œa->sp K Ãa H Ķl λ_ _ _=>í) :
  W.WalkO q i XP N Őh d [] İk:=by
 intro w s0 s1 j mb B Y C o pm cd doc dV kV ho hd hcd R J hg Q O as t p hrd E hlo;let e1:dV=.none:=Dflts.none R G;let e2:kV=.none:=Dflts.noKw R;subst e1 e2;let{a,vs,ns,rfl,rfl,A,e,c}:=Att.script_of Z t E;let P:=hY w _ Y;let{fd,hb,S}:=F w j C _ P B.T.g J;let y:=z2x P B.T.g B.T.b B.T.builtins B.T.nolimit hg A e (Ĳ c L) U S hb (λH _ hS=>I _ H a ns c (z2z p) hS) (λ_ _ _ z=>z);show enter_call (Ϥb y λr s' hq=>?_);let{rfl,h2,X,h4}:=hq;show{.inl {.bool Ã,.bool Ã,[],rfl,λ_=>rfl,.bool Ã,Att.post_true l _,λ_=>?_},h2,X,h4};show{ϳe,λ_ hm=>nomatch hm}
#print L3
namespace L3
open č Ĕ ď L2
def z0j{Ā:à}{w:ß}{A:è}{E:Value->Í->Æ}{s:Í}{a:Ë}{o:Obj}{xs:Ú Value}{k:Ä}{Į:Ç}{Q:É Value->Í->Æ}(n:ö a=À o)(r:Ça=.type Ĝ)(f:Ϛ=.seq xs k)(q:ĥe=Â)(j:ϩh âa Į=pure Â)(i:(["__module__",Ęf,"__qualname__","__doc__","__annotations__"]:Á Ç).contains Į=Å)(v:Ĺa=Â)(h:∀h' tk,(∀b ob,ö b=À ob->ė b=À ob)->Q Â { s with ä:=h',Ě:=tk })(hsz:name.length+100<=á) :Õ æ A (getAttr? (.ref a) Į) Q E s:=by
 let{c,z,t,u}:=o;simp only at r f q;subst r f q;let{y,g,d,tk,x}:=s;let p:∀l,({y,g,d,l,x}:Í).TypeIs ý Ĝ:=λ_=>{_,n,rfl}
 let C:=sub_AttributeError;let G:=PySem.F.slot_list_getattribute.lookup;let B:=PySem.F.slot_list_getattribute.bind ý;let H:=am_list_getattr_none;unfold getAttr? getAttrBy? įo
 repeat (any_goals (first|assumption|show p _|((with_reducible exact Õ _ _ (Ħa (Ϗd "list.__getattribute__") _ _) _ _ _);show Čb PySem.F.slot_list_getattribute (p _) am_entry_list_getattribute (F.args_list_getattribute_2 _ _) (meets_getattribute_miss_list a xs k u Į _ j i hsz) ⟨n,v,λh' l e m=>?_⟩)|wp_step))
 let{K,I,J}:=m.there;exact Õ _ _ (ġl _ _ _ _ _ _ _) _ _ _;unfold ġl
 repeat (any_goals (first|assumption|wp_step))
 show h _ _ m.keeps
def LY:plainId ĝl=Ã:=by rw[Ôp]
def AZ:Ńi table ĝl=À Builtin.«dict.update.loop»:=entryFor_of_fast ÿh
def _root_.PySem.Heap.DictOf.BZ{Ā:à}{w:ß}{h h':Heap}{a:Ë}{kvs:Á Ĵa}(b:õd ŗa a kvs)(k:∀o,Ć a=À o->ė a=À o):Ĺf ŗa a kvs:=
 let ⟨o',es,ep,ho,r⟩:=b;{o',es,ep,k _ ho,r}
def y6l(kvs:Á Ĵa)(k:zR)(v:Value):(ëc kvs k v).length<=Ķ+1:=by
 unfold ëc
 split;rw[þ];omega;rw[ï];show ϔ _
def Dp(h:Heap)(v:Value)(k:zR)(x:Value):Æ:=∃b key,v=.ref b/\Yc k key=Ã/\Êb h b #[key,x]
theorem fX{Ā:à}{w:ß}{A:è}{R:Ĵb->Í->Æ}{d it l:Ë}{its:Á Value}(hA:Ĺa=Â)(F:d≠l)(q:d≠it)(E:l≠it) :∀(kvs:Á Ĵa) (i:Ä) (acc:Á Ĵa) (s:Í),ŧl it l i->çf l ϲ->i+Ķ=éb->(∀j kv,kvs[j]?=À kv->∃v,its[i+j]?=À v/\Dp Ü v kv.1 kv.2)->
   s.heap.DictOf ŗa d acc->Įc+Ķ<=á->(∀h' tk,Ĺf ŗa d (ĥo (λa kv=>ëc a kv.1 kv.2) acc)->(∀b o,b≠d->b≠it->ö b=À o->ė b=À o)->R ϻo { s with ä:=h',Ě:=tk })->
   Õ æ ľ (Builtin.«dict.update.loop» {[.ref d,.ref it,Æb i,.none],[]}) (λfin s'=>match fin with|.done f=>R (.ok f) s'|.again c'=>c'.quiet=Ã/\ďa æ A c' R s') (λe s'=>R (.error e) s') s
 | [],i,acc,s,st,hl,hn,hp,hd,hz,h=>by unfold Builtin.«dict.update.loop»;refine Ð (ϑk (by show hA) st hl (by simp at hn ⊢;omega) λh' eb=>?_);exact Õ _ _ (Builtin.Dict.addKeywords d [] >>= _) _ _ _;show Ð Ÿo;show h h' ě (hd.BZ λo e=>eb d o q e) (λb o _ hb e=>eb b o hb e)|kv::kvs,i,acc,s,st,hl,hn,hp,hd,hz,h=>by
  let{v,hv,b,key,rfl,hk,ht}:=hp 0 kv rfl;unfold Builtin.«dict.update.loop»;refine Ð (Ņg st hl (x:=.ref b) ϥg λh1 U sb=>?_);let m:∀c o,c≠it->ö c=À o->ϕi c=À o:=λc o N e=>(sb.2 c N).trans e
  let p:∀{c:Ë}{y:Ú Value},Êb Ü c y->c≠it:=λ{c y} t e=>by subst e;let{o,e1,Z,_}:=t;let{o',e2,L,_}:=st;rw[e1]at e2;cases e2;rw[Z]at L;show Þ (Ϗg L) Û
  let K:∀{c:Ë}{y:Ú Value},Êb Ü c y->c≠d:=λ{c y} t e=>by subst e;let{o,e1,Z,_}:=t;let{o',es,ep,e2,L,_}:=hd;rw[e1]at e2;cases e2;let c3:=L.1;rw[Z]at c3;show Þ (Ϗg c3) Û
  let{o,ho,N,n,C}:=ht;let G:=m b o (p {o,ho,N,n,C}) ho;let O:h1.DictOf ŗa d acc:=hd.BZ λo e=>m d o q e
  show Ð (ŉa (Ð (Ϟb ?_)));unfold Builtin.Dict.pairItems;show Ð (ϗc (T := Œ) {o,G,N} ?_);rw[Ö ūi];show Ð (Źa G C Śa);show ŉa (wpAny_dictSet_pairs (knd:=yl Ā w) (k:=kv.1) hk O (λh2 W J=>?_) Î);show ċ {ϡb LY _,Ăb AZ ?_};rw[āc LY _];let g:∀c o,c≠d->c≠it->ö c=À o->h2.get? c=À o:=λc o B u e=>(J.2 c B).trans (m c o u e)
  let H:∀{c:Ë}{y:Ú Value},Êb Ü c y->Êb h2 c y:=λ{c y} t=>by let a1:=K t;let a2:=p t;let{o,e1,r}:=t;show{o,g c o a1 a2 e1,r}
  show fX (its:=its) hA F q E kvs ē (ëc acc kv.1 kv.2) _ ?_ ?_ (by rw[Ĩ]at hn;omega) (λj Q e=>?_) W ?_ λh' tk S kp=>?_;show U.at λo e=>(J.2 it (λz=>q ğd)).trans e;let{o,e,r}:=hl;show{o,g l o (λz=>F ğd) E e,r};let{v',P,b',I,rfl,X,Y}:=hp ϵ Q ňa;show{_,by rw[show i+1+j=i+ϵ by omega];show P,b',I,rfl,X,H Y};let:=y6l acc kv.1 kv.2;rw[Ĩ]at hz;omega;show h h' tk S λc o B u e=>kp c o B u (g c o B u e)
def oz{Ā:à}{w:ß}{A:è}{E:Value->Í->Æ}{s:Í}{l:Ë}{o:Obj}{its:Á Value}{n:Ä}{kvs:Á Ĵa}{Q:Value->Í->Æ}(N:Ĺa=Â)(K:ö l=À o)(x:Ça=.type Ĝ)(J:ĥe=Â)(f:Ϛ=.seq ϲ n)(R:Ķ=éb)(U:∀(j:Ä)(g:zR×Value),kvs[j]?=À g->∃v,its[j]?=À v/\Dp Ü v g.1 g.2)(hz:Ķ<=á)(h:∀h' tk,Ĺf ŗa Ý (ĥo (λa g=>ëc a g.1 g.2) [])->(∀b o,ö b=À o->ė b=À o)->Q ţb { s with ä:=h',Ě:=tk }) :Õ æ A (Ħa Åc [.ref l]) Q E s:=by
 show callType_codes (Q₁:=λu O=>u=.ref Ý/\O={ s with ä:=Ŋa { cls:=.type ϗ,Č:=.dict #[] } }) F.kt_called_dict (F.kt_typeCall_dict_1 _) F.entry_dict_init (kt_code_dict_new _ {rfl,rfl}) ?_;rintro u O ⟨rfl,rfl⟩;let d:(Žj).DictOf ŗa Ý []:=üm Ü;show{ņi,F.args_dict_init_2 _ _,?_};unfold Builtin.«dict.__init__»;show Ð ?_;unfold Builtin.Dict.selfAndRest;show Ð (wpAny_notOrdered_dict ņi ?_);exact Õ _ _ (pure (Ý,[ÿ l])) _ _ _;show ċ ?_;exact Õ _ _ (Śk "dict.__init__" Ý Þc [] .none) _ _ _;unfold Śk;let t:=Ğ K;let m:(Žj).get? l=À o:=Ġ _ K;show Ð (ϗc (T := Ĝ) {o,m,x} ?_);rw[Ö ūi];refine Ð (z0j (o:=o) m x f J (am_miss_of_fast ÿh) Û Ϣn (λp y i=>?_) Û);rw[Ö ūi];let q:p.DictOf ŗa Ý []:=d.BZ λo e=>i _ _ e
 let I:p.get? l=À o:=i _ _ m;let B:p.IsList l ϲ:={o,I,x,n,f}
 let c:Ý<p.objs.size:=by let{z,_,_,e,_}:=q;show Ğ e
 exact Õ _ _ (pure () >>= _) _ _ _;show Ð Ēh;show Ąc (s:={ s with ä:=p,Ě:=y }) B ?_;show ċ {ϡb LY _,Ăb AZ ?_};rw[āc LY _];let G:∀b k,ö b=À k->(p.push { cls:=.type äm,Č:=.fields #[.ref l,.int 0 0] }).get? b=À k:=λb k e=>Ġ _ (i b k Øe)
 refine fX (l:=l) (its:=its) (A:=ľ) Ϣn (wV (ϋa t)) (wV ϸi) (wV (Ŕ (üf t c))) kvs 0 [] _ {_,ť _ rfl,rfl,rfl} {o,G l o K,x,n,f} (by rw[œa];show R) (λj g e=>?_) ïo (by simpa using hz) λh' tk H W=>?_;let{v,S,b,C,rfl,P,z,e1,r}:=U j g e;show{_,by rw[œa];show S,b,C,rfl,P,z,G b z e1,r};show{rfl,h h' tk H λb k e=>?_};let L:=Ğ e;show W b k (wV (Ŕ L)) (wV (Ŕ (üf L c))) (G b k e)
section
variable{X:Cx}
theorem b_{n:Á ô}{σ:St}{H:Hp}{s:Í}(I:zD X n σ H s):∀{kvs:Á Ϙ} {vs:Á V} {its:Á Value},zk vs its->Ķ=ø->(∀(j:Ä)(kv:zR×V),kvs[j]?=À kv->∃b,vs[j]?=À (ūa b)/\yf X.K H b Đh)->
  ∃ws:Á Ĵa,KV kvs ws/\∀(j:Ä)(kw:zR×Value),ws[j]?=À kw->∃v,its[j]?=À v/\Dp Ü v kw.1 kw.2
 | [],_,_,_,_,_=>{[],.nil,λj kw e=>by cases e}|kv::kvs,[],_,_,h,_=>by cases h|kv::kvs,_::vs,_::its,.cons r t,h,hp=>by
  let{ws,f,k}:=b_ I t Øb λj c e=>by let{b,e1,q}:=hp ϵ c ňa;show{b,by simpa using e1,q}
  let{b,e1,g}:=hp 0 kv rfl;cases e1;let{o,m,i,_}:=Ϭ g;let{d,x,rfl,a,l}:=JR m;show{(kv.1,x)::ws,.cons {rfl,l} f,λj kw e=>?_};cases j with
  |ſ=>cases e;show{_,rfl,b,d,r,kN (P:=ì) (w:=X.w) a,i}|ϊ j=>let{v,e2,q}:=k j kw ňa;show{v,by simpa using e2,q}
def y1w(K:Ï):Á V->Hp->VK->Æ:=λc H Q=>∃a vs kvs,c=Ãa/\yQ K H a vs/\Ķ=ø/\(∀(j:Ä)(kv:zR×V),kvs[j]?=À kv->∃b,vs[j]?=À Ź/\yf K H b Đh)/\∀p,H p=Â->Q ύ (γ (.dK (Za [] kvs)))
def oy(b:ż=Ã):wM X Åc (y1w X.K):=by
 intro O s σ H J G Q I r h;let{a,L,c,rfl,z,l,p,q}:=h;let{u,rfl,m}:=vg r;cases(show u=ÿ a from m);let{f,g,{o,n,F,v,j,e},w}:=ű z;let{B,k,t}:=b_ I g l p;have d:Ŀc=ϑa:=by rw[<-ļi,l,Ęa]
 refine oz (Ĝa b) F v j e d t (by rw[d,<-Ęa];show w) λN C E y=>?_
 let i:(ϥo).length<=á:=by let x:=aj c [];rw[ϝc]at x;omega
 let A:ßo=Å:=by let:=I.big;rw[òl];show wV Úo
 show{.ref Ý,_,Çb (a:=Ý) (o:=.dK ϥo) (t':=C) y ğ (Fm i A (k.merge .nil) E),rfl,q _ ĉe}
#print a
def Ow:Á D->É (Á Ş×Á D)
 | []=>À ([],[])|.tup [k,v]::r=>(j6 k).bind λk=>(Ow r).bind λp=>À (k::p.1,v::p.2)|_=>Â
def wt{α:Type}:Á Ş->Á α->Á Ş->Á α->Á Ş×Á α
 |ks,ds,k::r,v::q=>wt Ği (u5 ks ds k v) r q|ks,ds,_,_=>(ks,ds)
def OP:Á D->É D
 | [.lst xs]=>(Ow xs).bind λp=>À (.dic ľl.1 ľl.2)|_=>Â
theorem cT:∀{ks:Á zR}{us:Á V}{as:Á zR}{vs:Á V},ŉ=ũ->ìi=ø->Za Ϥn Ãc=ϩc.1.zip ϩc.2/\ϩc.1.length=ϩc.2.length
 | [],[],as,vs,_,h=>{rfl,h}|k::ks,u::us,as,vs,h1,h2=>by let a:=cT (ks:=ks) (us:=us) (as:=pB as k) (vs:=u5 as vs k u) ϣe (Qo h2);show{?_,a.2};exact Za (uh Ϥn k u) Ãc=_;rw[Nf h2];show a.1
theorem cS{K:Ï}{G:Hp}:∀{ks:Á zR}{es:Á D}{us:Á V}{as:Á zR}{ds:Á D}{vs:Á V},å K G es us->å K G ds vs->ŉ=ũ->ìi=ø->å K G ßh.2 ϩc.2/\ßh.1=ϩc.1
 | [],es,us,as,ds,vs,r1,r2,h1,h2=>by
  let e1:wt as ds [] es=(as,ds):=by unfold wt;rfl
  let e2:wt as vs [] us=(as,vs):=by unfold wt;rfl
  rw[e1,e2];show{r2,rfl}
 |k::ks,es,[],as,ds,vs,r1,r2,h1,h2=>by cases h1|k::ks,[],u::us,as,ds,vs,r1,r2,h1,h2=>by cases(show _=[]from r1)|k::ks,e::es,_::_,as,ds,vs,r1,r2,h1,h2=>by let{v,r,a,c,b}:=r1;cases a;show cS (ks:=ks) (es:=es) (as:=pB as k) b (r2.put c) ϣe (Qo h2)
theorem cR{α:Type}:∀{ks:Á zR}{es:Á α}{as:Á zR}{ds:Á α},ìi=ĉ->ßh.2.length<=ĉ+ĳo
 | [],es,as,ds,_=>by
  let e:wt as ds [] es=(as,ds):=by unfold wt;rfl
  rw[e];show Ża _ _
 |_::_,[],as,ds,_=>by
  let e:∀k ks,wt as ds (k::ks) ([]:Á α)=(as,ds):=λ_ _=>by unfold wt;rfl
  rw[e];show Ża _ _
 |k::ks,e::es,as,ds,h=>by let a:=cR (ks:=ks) (es:=es) (as:=pB as k) (ds:=u5 as ds k e) (Qo h);let:=GA (ks:=as) (vs:=ds) (k:=k) (v:=e) h;exact(wt (pB as k) (u5 as ds k e) ks es).2.length<=_;rw[Ĩ];omega
theorem aX{K:Ï}{G:Hp}:∀{xs:Á D}{vs:Á V}{ks:Á zR}{ds:Á D},Ow xs=À (ks,ds)->å K G xs vs->∃us,å K G ds us/\ŉ=ũ/\ŉ=ø/\∀(j:Ä)(kv:zR×V),Ãc[j]?=À kv->∃b,vs[j]?=À (ūa b)/\yf K G b Đh
 | [],_,_,_,h,r=>by cases h;rw[Ĵp];show{[],rfl,rfl,rfl,λj kv e=>by cases e}|x::xs,_,ks,ds,h,r=>by
  let{v,A,rfl,o,f}:=r;unfold Ow at h
  rw[ŀp];cases e;rename_i k y B e;cases e;let{p,m,h}:=zC h;obtain⟨⟨n,q⟩,s,h⟩:=zC h;cases h;let{us,z,g,w,i}:=aX s f;let{b,E,rfl,u,{C,_,rfl,c,{d,_,rfl,a,t}},_}:=o;cases(show _=[]from t);refine⟨d::us,{d,us,rfl,a,z},by rw[Ĩ,Ĩ,g],by rw[Ĩ,Ĩ,w],λj kv e=>?_⟩;cases j with
  |ſ=>cases e;show{b,rfl,?_};rw[<-ZX m c];show u|ϊ j=>let{l,e1,e2}:=i j kv ňa;show{l,by simpa using e1,e2}
  cases h
def y4q{X:Cx}{e:Ñ}{fs:FA}{p pos:Pos}(f:ż=Ã)(B:Gl X ϗ)(N:â ϗ=Â)(hv:Ś ϗ=À Åc)(K:SA X [e] fs)(w:Ì ϥ q12):SF X Āl (eL OP fs):=by
 let{t,O,k}:=K.h;refine{{_,(Vt (oy f) B N hv {O} Û Û (by rw[Ő,w];rfl)).h,λ{W T G H τ σ d Q} E c q=>?_}};let{ds,C,c}:=zC c;show k E C λvs S R g P=>?_
 unfold OP at c
 split at c;rename_i U;obtain⟨⟨ks,es⟩,z,c⟩:=zC c;cases c;let{v,rfl,a,r,rfl,L,n,l}:=qZ P;let{us,s,i,u,y}:=aX z n;let{I,A}:=cT (ks:=ks) (us:=us) (as:=[]) (vs:=[]) i rfl;let{J,o}:=cS (ks:=ks) (as:=[]) (ds:=[]) (vs:=[]) s rfl i rfl;refine{a,r,Ög us,rfl,wv g.gh L,by rw[ìa,i,ća,<-i,u],λj F e=>?_,λp m=>?_};let{b,e1,e2}:=y j F e;show{b,e1,ve g.gh e2};show q p _ _ İl (ŀi m) (èi m) {Èm.2,?_,?_,J,?_};exact upd R p (.dK (Za [] Ãc)) p=À (.dK (àh.1.zip Èm.2));rw[yE,o];show Äa (λx=>À (HO.dK x)) I;exact àh.1.length=_;rw[o];show A;let:=cR (ks:=ks) (es:=es) (as:=[]) (ds:=[]) rfl;have e1:ĳo=ŷ:=by rw[<-Ħb,<-i,u]
 rw[Ļc]at e1;exact àh.2.length<=á;simp only[ϝc,œa]at this;omega;cases c
open ł Ϣi ŧn
section
variable{X:Cx}{e o a b c:Ñ}{f:FE}{x:Ç}{p pos:Pos}
nonrec def Ei(i:Ê):Ò:=decide Öo
def y6m{i:Ê}(h:ŷd<1920):(ϩe).length<=á:=x0c (z1r h)
def Af:D->É D
 |.int i=>match Ei i with
  |Ã=>À (.str ϩe)|Å=>Â
 |.str z=>À Ųi|_=>Â
def y4b(n:SE X e f):SE X Îk (e1 Af f):=by
 let{t,m,k}:=n.h;show{{_,(y1h {m}).h,λ{o r G H τ σ d Q} E a q=>?_}};let{x,j,a}:=zC a;show k E j λv p s b g=>?_
 cases x with
 |int i=>
  change (match Ei i with|Ã=>À (Ćg ϩe)|Å=>Â)=À d at a
  cases c:Ei i with
  |Å=>rw[c]at a;cases a|Ã=>rw[c]at a;cases a;cases(show v=_ from g);let h:=ı c;show .inl {i,rfl,h,q _ _ _ b {rfl,y6m h}}
 |str z=>cases a;let{rfl,l}:=g;show .inr {z,rfl,l,q _ _ _ b {rfl,l}}
 |_=>cases a
abbrev FJ:=zw->Ç->É D
nonrec def aU:FJ:=λ_ a=>À (.str a)
nonrec def Ou(f:FE)(r:FJ):FJ:=λσ a=>(f σ).bind λd=>match d with
 |.str y=>if(ïc).length<=yc then r σ ïc else Â|_=>Â
nonrec def AT(f:FJ):FE:=λσ=>f σ ľf
structure SJ(X:Cx)(es:Á Ñ)(f:FJ):Æ where
 h:∃t,QJ X es t/\∀{G0 H0 G H:Hp}{τ:zw}{σ:St}{acc:Ç}{d:D}{Q:VK},zi X.K ê G0 H0 G H τ σ->Įc<=á->f τ acc=À d->(∀v G' H',zK G H G' H'->zT X.K G' d v->Q v H')->t σ H acc Q
def y58:SJ X [] aU:={{_,y1m,λE l a q=>by cases a;show{l,q _ _ _ ìb {rfl,l}}}}
def Kb(s:SE X e f)(i:SJ X es fj):SJ X ă (Ou f fj):=by
 let{C,r,p}:=s.h;let{z,j,o}:=i.h;show{{_,y1l {r} j,λ{u B G H τ σ a d Q} E l b q=>?_}};let{x,k,b}:=zC b;show p E k λv A F g n=>?_
 cases x with
 |str y=>
  let{rfl,_}:=n
  change (if(ïc).length<=yc then fj τ ïc else Â)=À d at b
  by_cases cc:(ïc).length<=yc;rw[Ö cc]at b;let c:(ïc).length<=á:=by rw[Ľ];show cc
  show{y,rfl,c,o (Ϯ g) c b λv I w t m=>q v _ _ (Łc t) m};rw[Ø cc]at b;cases b
 |_=>cases b
def y4c(h:SJ X Įn fj):SE X (.JoinedStr Įn pos) (AT fj):=by let{t,c,k}:=h.h;show{{_,(y1i c).h,λE b q=>k E ϱf b q}}
def A0:Ś ϗ=À Åc:=by rw[Ôp]
theorem ōi{K:Ï}{G:Hp}{d:D}{v:V}(hv:zT K G d v):∀{ds:Á D}{vs:Á V}(n:Ä),å K G ds vs->å K G (êj n d) (vs.set n v)
 | [],_,_,r=>by rw[Ĵp];rfl|d'::ds,_,0,r=>by let{u,c,rfl,b,a}:=r;show{v,c,rfl,hv,a}
 |d'::ds,_,n+1,r=>by let{u,c,rfl,b,a}:=r;show{u,_,rfl,b,ōi hv n a}
#print a
#print L3
namespace L2
open č Ĕ ď
def Df(K:Ï)(a:Ë):It:=
  ⟨λi H=>∃xs x,yQ K H a xs/\xs[i]?=À x,
   λi H v b=>∃p,H p=Â/\v=.ref p/\∀xs,yQ K H a xs->∃x,xs[i]?=À x/\b=upd H p Ĥf,
   λi H=>∃xs,yQ K H a xs/\ë<=i⟩
def x0q{P:à}{w:ß}{K:Ï}{t:Á Ñ}{Y:Ä}{pos:Pos}(a e it:Ë)(u:e≠it) :g8 P w K (.Tuple t Y pos) ůi [e,it] e (λi h=>(∃old,IsEnum h e it (i:Ê) old)/\ùf it a i) where
 mem:=by simp
 obj:=λi h st c b=>by obtain⟨⟨old,g⟩,⟨o2,j,_,d2⟩⟩:=st;simp only[Ŕa,Óa,ša]at b;rcases b with rfl|rfl;show{_,g,λv q=>nomatch q};show{_,j,λv q=>by rw[d2]at q;cases q}
 ēa:=λi h h' st k=>by obtain⟨⟨old,g⟩,j⟩:=st;show{{old,k e ü _ g},j.at λo x=>k it ü o x}
 Ůa:=by
  rw[óp];let{xs,x,B,ex}:=O;let{L,R,pu,_}:=ű B;let Z:=ğo;let{y,hxu,rxu}:=R.get ex;let f:Ŝh[i]?=À y:=by rw[ϓc];show hxu
  let m:e<Ý:=Ğ g;let Q:it<Ý:=by let{o,z,_}:=j;show Ğ z
  show wpAny_pyNext_enum_item g j Z f u λh1 F l T hz1 hk1=>?_
  show{_,rfl,wpAny_letOwnedTupleGo_enum (s:={ s with ä:=h1,Ě:=ě+1 }) F λA N d=>?_}
  replace d:ϰa e h1 A:=d
  let hTs:ö Ý=Â:=by
   cases q:ö Ý with
   |Â=>rfl|À o=>show Þ ĕe Åa
  let r:H Ý=Â:=ďb ğ;let G:A.get? Ý=À { cls:=.type Œ,Č:=.seq #[.int i ě,y] }:=öd _ _ (ϋa m) T
  let Y:∀c o,c ∉ [e,it]->ö c=À o->A.get? c=À o:=λc o b z=>by simp only[Ŕa,Óa,ša,Ôg]at b;show öd _ _ b.1 (hk1 c o b.1 b.2 z)
  let J:yj ì X.w (upd H Ý Ĥf) A Ý Ĥf:={Ťg,[.int i ě,y],.cons {_,rfl} (.cons rxu .nil),{_,G,rfl,_,rfl}};show{.ref Ý,upd H Ý Ĥf,I.BW (tk:=ě+1) C Y hTs r J,rfl,{Ý,r,rfl,λxs' f=>?_},{{y,?_},l.at λo z=>öd _ _ u.symm z},λc b=>?_};rw[I.IF f B];show{x,ex,rfl};rw[show((i+1:Ä):Ê)=(i:Ê)+1 from rfl];show N;rw[zr];show(C c b).1;intro q
  let p:c<Ý:=by simp only[Ŕa,Óa,ša]at b;rcases b with rfl|rfl;show m;show Q
  rw[q]at p;show Þ p Åa
 done:=by
  rw[óp];let{xs,B,hend}:=O;let{L,R,pu,_}:=ű B;let Z:=ğo
  let f:Ŝh[i]?=Â:=by rw[ϓc];show ăb (by let:=îe;omega)
  refine wpAny_pyNext_enum_end (by show Ĝa b) g j Z f λh1 he1=>?_
  show{rfl,I.but (tk:=ě) C λc ob n eb=>?_};simp only[Ŕa,Óa,ša,Ôg]at n;show he1 c ob n.2 eb
 úb:=λ_ _ _ _ _ st h=>by obtain⟨⟨old,g⟩,_⟩:=st;show Ťl g h
section
variable{X:Cx}
def z1i(K:Ï)(d:TA):TI:=λσ H R=>d σ H λc b=>∃a xs,c=Ãa/\yQ K b a xs/\R ůi b
def y0s{a:Ñ}{j:TA}{p pos:Pos}{e:Á Ñ}{B:Ä}{y:Pos}(w:Gl X Ŕb)(G:â Ŕb=Â)(F:PA X [a] j)(t:Ì Ľg q12) :PI X (.Tuple e B y) ýl (z1i X.K j):=by
 intro o s σ H R I h;show Call_ (X_ I w G boot_enumerate (ťe (zn (F pos o s σ H _ I h) λv b ⟨P,r,f,N,J⟩=>?_) (by rw[t];rfl) rfl));let{k,O,rfl,C,q}:=J;let{u,rfl,x}:=vg N;cases(show u=ÿ k from x);let{v,_,L,_}:=f.list C;show call_enumerate_list L.isList λm g l A E=>?_
 let z:zD X o σ r { b with ä:=m }:=f.kept (t':=b.toks) E;show Ťl (s:={ b with ä:=m }) g ?_;generalize hn:ŋe=n at g l A;refine{n+1,[n+1,n],_,_,r,rfl,z,x0q k ŋ n (wV Î),{{_,g},l},λc i=>?_,q}
 let d:ŋe<=c:=by rw[hn];simp only[Ŕa,Óa,ša]at i;rcases i with rfl|rfl;show Ża _ _;show ϔ _
 show f.ZG d (Äo d)
#print a
#print L2
namespace L3
open č Ĕ ď L2
nonrec def Vn(xs:Á D):Á D:=Ğc (λ(i:Ä) x=>Ŀe Ķg) (Ýb ë) xs
def aG(a:FE):FA:=λσ=>(Ña).bind λd=>match d with
 |.lst xs=>À Èg|_=>Â
def Eh(xs:Á D):(Èg).length=ë:=by simp[Vn]
theorem z65(xs:Á D)(i:Ä):Èg[i]?=(xs[i]?).map λx=>Ŀe Ķg:=by unfold Vn;rw[Ÿg];by_cases h:i<ë;rw[List.getElem?_range h,ļ h];rfl;rw[ăb Øb,ăb Î];rfl
section
variable{K:Ï}{G H:Hp}
def sw(g:yQ K G a vs)(f:å K G xs vs):jR K ůi G Èg where
 go:=λi e H d b c=>by rw[Eh]at c;let{v,e1,_}:=ýg (ļ c);show{vs,v,wv ϯi g,e1}
 vw:=λi e H x q d b c y=>by let{p,h,rfl,k}:=y;let{v,e1,rfl}:=k vs (wv ϯi g);let{j,l,o}:=f.at e1;refine{upd e p Ăo,.tup [.int (i:Ê),j],Äb b h,by rw[z65,l];rfl,?_};let m:zg G (upd e p Ăo):=Śb (wP (b.free h) _);show{p,ùk,rfl,Ļb yE,{_,_,rfl,rfl,{v,_,rfl,Ĥe m,rfl}},ĥa (n:=2) Û}
 ϡa:=λi e H d b c=>by rw[Eh]at c;show{vs,wv ϯi g,by rw[ϑa];show c}
#print a
def y53(n:Gl X Ŕb)(m:â Ŕb=Â)(l:SE X a fa)(d:Ì Üd q12):SI X ĕl ýl (aG fa):=by
 let{t,o,k}:=(zB l zH d).h;show{{_,y0s n m o Ăj,λ{A C G H τ σ ds R} K b q=>?_}};let{x,j,b}:=zC b;cases x<;>first|(cases b;done)|skip
 cases b;rename_i y;refine k K (ds:=[.lst y]) (by unfold zA;rw[j];rfl) λE B F e u=>?_
 let{v,r,rfl,w,g}:=u;cases(show r=[]from g);let{z,c,rfl,f,s,i}:=w;show{z,c,rfl,wv ώb f,q _ _ _ e (by rw[Eh];show i) (sw f s)}
#print L3
namespace L2
open č Ĕ ł ď
nonrec def Xz(a:Ê):Á Ê->Á Ê
 | []=>[a]|b::r=>if a<=b then a::b::r else b::Xz a r
def òc:Á Ê->Á Ê
 | []=>[]|a::r=>Xz a (òc r)
theorem ED(a:Ê):∀l:Á Ê,(Xz a l).Perm (a::l)
 | []=>Ϧb _|b::r=>by
  unfold Xz
  split;show Ϧb _;show((ED a r).cons b).trans (ňm a b r)
theorem Áe:∀l:Á Ê,(òc l).Perm l
 | []=>Ϧb _|a::r=>(ED a _).trans ((Áe r).cons a)
theorem aK(a:Ê):∀{l:Á Ê},Áo (·<=·)->(Xz a l).Pairwise (·<=·)
 | [],_=>by simp[Xz]|b::r,h=>by
  let{e,f}:=ϛb h;unfold Xz
  split;rw[ϗp]
  show ϊe {λx d=>by rcases ř d with rfl|d;show c;show Ϻb c (e x d),h};rw[ϗp];show ϊe {λx d=>?_,aK a f};rcases ř ((ED a r).mem_iff.mp d)with rfl|d;omega;show e x d
theorem Œh:∀l:Á Ê,(òc l).Pairwise (·<=·)
 | []=>ϳe|a::r=>aK a (Œh r)
theorem eQ:∀{a b:Á Ê},a.Perm b->Èo (·<=·)->ϯh (·<=·)->a=b
 | [],b,p,_,_=>(ál).symm|x::a,[],p,_,_=>by cases ňn|x::a,y::b,p,ha,hb=>by
  let{g,i}:=ϛb ha;let{h,f}:=ϛb hb
  let e:x=y:=by let d:x∈y::b:=än Ād;let c:y∈x::a:=ϐm Ād;rcases ř d with rfl|d;rfl;rcases ř c with e|c;show Ģd;show Int.le_antisymm (g y c) (h x d)
  subst e;rw[eQ (Ňm x |>.mp p) i f]
theorem z1s{ns:Á Ê}{its:Á Value}(h:Ŵb its ns):zk Œa its:=by
 induction h with
 |nil=>show .nil|î _ _ _ ih=>show .cons {_,rfl} ih
#print L2
namespace L3
open č Ĕ ď L2
def A4:Ś èb=À ύd:=by rw[Ôp]
nonrec def kJ:D->D->É D
 |.lst x,.lst y=>if şa+Ìc<=yc then À Āf else Â|_,_=>Â
def z06{x y d:D}(h:kJ x y=À d):∃xs ys,x=.lst xs/\y=.lst ys/\ë+ş<=yc/\d=.lst żf:=by
 unfold kJ at h
 rw[ϯp];rename_i xs ys;by_cases c:ë+ş<=yc;rw[þp]
section
variable{X:Cx}{a b:Ñ}{fa fb:FE}{x:Ç}{pos:Pos}
def U1(K:SE X a fa)(A:SE X b fb):SF X (.BinOp a .Add b pos) (e2 kJ fa fb):=by
 let{Y,R,F}:=K.h;let{S,N,w}:=A.h;show{{_,Ew bj R N,λ{Z W G H τ σ d Q} E i q=>?_}};let{x,J,i}:=zC i;let{y,B,i}:=zC i;show F E J λv U H1 l O=>?_
 show w (Ϯ l) B λu T H2 f L=>?_
 let{z,I,rfl,rfl,c,rfl}:=z06 i;let{P,C,rfl,o,m,_}:=O;let{n,t,rfl,s,k,_}:=L;let r:(z++I).length<=á:=by rw[Ľ,ï];show c
 let e:=ϔi f;refine{P,n,C,t,rfl,rfl,wv (f.g.trans f.gh) o,wv f.gh s,by rw[ée,ļi,Ľ];show c,λp j=>?_};show q p _ _ (Áb (Ϛa ώb j)) (ńi j) Ĩi {_,yE,(m.mono f.g).append k,r}
#print a
nonrec def jX:É Sl->É Sl
 |À (_,d)=>À (Å,d)|Â=>Â
def OX(τ:zw):zw:=τ.map jX
def MO(f:FT):FT:=λτ=>f (OX τ)
def y7t(τ:zw)(k:Ä)(h:k<τ.length):(Ŗe).set k (jX τ[k])=((τ.take ĸ).map jX)++τ.drop ĸ:=by
 let e:τ.drop k=τ[k]::τ.drop ĸ:=ņb h;let l:(æl).length=k:=by rw[þ,Ôa];omega
 rw[e,ϓe _ _ Î,l,ēb,List.set_cons_zero,Ře h,Ďb,Ř];rfl
section
variable{K:Ï}{n:Ä}{G0 H0 G H G':Hp}{τ:zw}{σ:St}
def XY(G G':Hp):Æ:=∀p,G p=Â->G' p≠Â->∃u,G' p=À u/\(∀xs,u≠.tup xs)/\∀o v,u≠.zz o v
def z9s(o:wC K G H d p):∃u,H p=À u/\(∀xs,u≠.tup xs)/\∀o v,u≠.zz o v:=by
 cases d with
 |lst ds=>let{a,e,_}:=o;show{_,e,Îl,ϡk}
 |dic ks ds=>let{a,e,_}:=o;show{_,e,Îl,ϡk}
 |_=>show ìc
def zi.lM(E:zi K n G0 H0 G H τ σ)(hi:τ[i]?=À Òd):∃G',zi K n G0 H0 G' H ēh σ/\zg G G'/\XY G G':=by
 cases b with
 |Å=>
  show{G,?_,ĵa _,λp l a=>Þ l a}
  let e:τ.set i ŋb=τ:=by rw[Ťp];rw[jY (by rw[ħ];show E.lt hi),hi];rw[vd hj]
  rw[e];show E
 |Ã=>
  let F:=E.lt hi;let{p,e,g,z,o}:=ħa i d hi;let{J,m,O}:=z9s o;let{u,C,r}:=ŧc g;let R:u=J:=by rw[C]at m;show īa m
  subst R;let x:zK G0 H0 Ϙh H:=Ŕi z g C;refine{upd G p u,{x,į,by rw[ăp],λj t h=>?_,λj t h=>?_,λj k e1 f q A l a=>?_},wP g _,λq l a=>?_};rcases wd h with⟨rfl,w⟩|⟨y,w⟩;cases w;show{_,e,r};let{v,s,N}:=űa j t w;show{v,s,N.mono Ąd};rcases wd h with⟨rfl,w⟩|⟨y,w⟩;cases w;let{q,s,Q,P,I}:=ħa j t w;show{q,s,?_,P,I.mono Ąd įb};rw[zr Ùe];show Q;subst c;show Ųa i j d t q (λc=>y ċe) hi w e s;rcases wd l with⟨rfl,w⟩|⟨y,w⟩;cases w;rcases wd a with⟨rfl,B⟩|⟨L,B⟩;cases B;show Ųa j k e1 f q A w B;rcases Ma a with c|c;subst c;show{u,yE,O};show Þ l c
def XY.trans(h:zg G1 G2)(a:XY G G1)(b:XY G1 G2):XY G G2:=λp f d=>by
 cases e:G1 p with
 |Â=>show b p e d|À u=>let{i,c,g}:=a p f Źc;show{i,h _ _ c,g}
theorem zi.Pj(E:zi K n G0 H0 G H τ σ):∀k,k<=n->∃G',zi K n G0 H0 G' H Ŗe σ/\zg G G'/\XY G G'
 |0,_=>{G,by rw[ċh];show E,ĵa _,λp l u=>Þ l u}|k+1,hk=>by
  let{r,f,i,g}:=zi.Pj E k Î;let a:k<τ.length:=by rw[ħ];omega
  let e:=y7t τ k a
  let c:Ŗe[k]?=À τ[k]:=by rw[ńb (by rw[þ,Ôa];omega),þ,Ôa,Őa Î,ēb,List.getElem?_drop,śh,ļ a]
  cases t:τ[k]with
  |Â=>
   show{r,?_,i,g};rw[<-e,t]
   let e2:(Ŗe).set k (jX Â)=æl++τ.drop k:=by apply ūd;intro j;by_cases hj:j=k;subst hj;rw[jY (by rw[f.l2];omega),c,t];rfl;rw[vd hj]
   rw[e2];show f
  |À s=>let{b,d}:=s;rw[t]at c;let{o,q,h,m}:=f.lM c;show{o,?_,êe h,Łc h m};rw[<-e,t];show q
def zi.lK(E:zi K n G0 H0 G H τ σ):∃G',zi K n G0 H0 G' H (OX τ) σ/\zg G G'/\XY G G':=by
 let{G',a,s,l}:=E.Pj n ğ;show{G',?_,s,l};have e:τ.take n=τ:=by rw[<-ħ];show Ųd
 have e2:τ.drop n=[]:=by rw[<-ħ];show ϰl
 rw[e,e2,ŏ]at a;show a
nonrec def ϯ(G G' a:Hp):Hp:=λp=>if G p=Â/\G' p≠Â then Â else a p
theorem zK.back(s:zg G G')(d:zg G' H)(x:zK G' H G1 H1):zK G H (ϯ G G' G1) H1:=by show{λb u e=>?_,x.h,λb u e=>?_,λp h=>?_};exact ħg=À u;rw[Ø (λc=>by rw[c.1]at e;cases e)];show x.g _ _ (s _ _ e);by_cases c:G b=Â/\G' b≠Â;let a:ħg=À u:=e;rw[Ϝp];let a:ħg=À u:=e;rw[Ø c]at a;show ϸ _ _ a;by_cases c:G p=Â/\G' p≠Â;let a:Űj≠Â:=h;rw[Ö c]at a;show Þ rfl a;let a:Űj≠Â:=h;rw[Ø c]at a;rcases Ϟa p a with z|z;by_cases g:G p=Â;show Þ {g,z} c;show .inl g;rw[Ŋp]
#print a
section
variable{X:Cx}{e:Ñ}{f:FE}{ft:FT}
def y6h(h:ST X e ft):ST X e (MO ft):=by rw[Ñp];show{{t,p,λ{f i G H τ σ d Q} E b q=>?_}};let{m,a,s,l}:=E.lK;show k a b λg j c=>q _ _ (zK.back s a.ext.gh c)
#print a
nonrec def WK(i:Ä)(e:FE):FS:=λσ=>match σ[i]? with
 |À (À (Ã,.lst xs))=>(śc).bind λy=>match y with
  |.lst ys=>if ë+ş<=yc then À (ςb (Ηd żf))else Â|_=>Â
 |_=>Â
nonrec def Q4:D->D->É D
 |.lst x,.int k=>if 0<=k/\k<=1000000/\şa*ň<=yc then À (.lst (Ů ň x).flatten)else Â|_,_=>Â
def z08(h:Q4 x y=À d):∃xs k,x=.lst xs/\y=.int k/\(0<=k/\k<=1000000/\ë*ň<=yc)/\d=.lst (ün).flatten:=by
 unfold Q4 at h
 rw[ϯp];rename_i xs k;by_cases c:0<=k/\k<=1000000/\ë*ň<=yc;rw[þp]
theorem Ŏi{K:Ï}{G:Hp}{ds:Á D}{vs:Á V}(r:å K G ds vs):∀k:Ä,å K G (Ů k ds).flatten (Ů k vs).flatten
 |0=>rfl|k+1=>by rw[Ďc,ϟc,Ďc,ϟc];show Ôd (Ŏi r k)
section
variable{X:Cx}{a b:Ñ}{f fa fb:FE}{x:Ç}{xp pos ž Ų:Pos}{e:Ñ}
def y2v(l:SF X e f)(b:Ì ϥ q12):∃t,PA X [e] t/\∀{G0 H0 G H:Hp}{τ:zw}{σ:St}{d:D}{Q:Á V->Hp->Æ},zi X.K ê G0 H0 G H τ σ->f τ=À d->(∀p G' H',zK G H G' H'->H p=Â->G' p=Â->wC X.K G' H' d p->Q Òc H')->t σ H Q:=by let{t,p,k}:=l.h;show{_,kX p Zg b,λE i q=>k E i λp a m c g j o=>?_};show q p a m c g j o
def ek(O:QE X ía ðc)(J:SF X e f)(b:Ì (Ōa ía Ĵi Ó ĵh=Ċ ía Ó) q12)(d:Ì Ņa q12)(r:Ì ϥ q12) :SS X (Μe (.Attribute ía Ĵi ž)) (WK i f):=by
 let{t,p,k}:=y2v J r;refine{{_,(Lf (Qs Ŏd ľk Ļk z48 O {p} b d (by rw[Ő,r];rfl) œd) rfl).h,λ{S R G H τ σ C E} K a q=>?_}};unfold WK at a
 rw[êp];rename_i j w;let{y,I,a}:=zC a;cases y with
 |lst ys=>
  change (if Ča+ş<=yc then À (Τd (j++ys))else Â)=À C at a
  by_cases c:Ča+ş<=yc;rw[Ϝp];let{N,u,g,z,A,n,s,l}:=K.ow _ _ w;show{_,u,.inl {rfl,A,ła n},k K I λp P U m Q T o=>?_};let{B,L,v,_}:=o;refine{N,p,A,B,rfl,rfl,m.h _ _ n,L,by rw[Ħb,v.length,Ľ];show c,?_};show q _ _ _ ((Ϝ m).IG w u {_,yE,(Ðg m.g).append v,?_});rw[Źp]
 |_=>cases a
 cases a
def eJ(A:SF X a fa)(s:SE X b fb):SF X (.BinOp a .Mult b pos) (e2 Q4 fa fb):=by
 let{R,I,w}:=A.h;let{J,F,r}:=s.h;show{{_,Ew z9m I F,λ{S O G H τ σ d Q} E i q=>?_}};let{x,z,i}:=zC i;let{y,t,i}:=zC i;show w E z λp L W m N T o=>?_
 show r (Ϯ m) t λu K U j B=>?_
 let{P,k,rfl,rfl,c,rfl}:=z08 i;let{v,n,l,_}:=o;cases(show u=.int k from B);let e:=m.trans j;refine{p,k,v,rfl,rfl,j.h _ _ n,by omega,by omega,by rw[Ϲa,Ľ];show c.2.2,λC f=>?_};show q C _ _ (Áb (Ϛa ώb f)) (ńi f) (ŵg f) {_,yE,Ŏi (l.mono j.g) _,?_};rw[Ľ,ah,ðn];show c.2.2
#print a
nonrec def z59(τ:zw):Ò:=τ.all λs=>match s with
 |À (Ã,_)=>Å|_=>Ã
nonrec def YT:Á D->É Źo
 | []=>À []|.bl b::r=>(YT r).bind λa=>À (b::a)|_=>Â
theorem S_:∀bs:Á Ò,YT ĸh=À bs
 | []=>rfl|b::bs=>by exact(YT ĸh).bind _=_;rw[S_ bs];rfl
theorem Sz:∀{ds:Á D}{bs:Á Ò},YT ds=À bs->ds=ìj üc
 | [],_,h=>by cases h;rfl|d::ds,bs,h=>by
  unfold YT at h
  rw[ŀp];cases e;rename_i b r e;cases e;let{c,a,h}:=zC h;cases h;rw[Sz a];rfl;cases h
theorem dJ{K:Ï}{G:Hp}:∀{bs:Á Ò}{vs:Á V},å K G ĸh vs->vs=ìj V.bl
 | [],_,r=>r|b::bs,_,r=>by let{v,d,rfl,c,a}:=r;rw[dJ a,show v=V.bl b from c];rfl
def Fv:Á D->É D
 | [.lst xs]=>(YT xs).bind λa=>À (.bl (ĳd id))|_=>Â
def z74{K:Ï}:ZM K (cj K) Fv:=λG H g k d Q s r b q=>by
 rcases g with _|⟨x_,r_⟩;cases b
 cases x_<;>first|(cases b;done)|skip
 cases r_<;>first|(cases b;done)|skip
 rename_i h;let{f,i,b}:=zC (show(YT h).bind _=À d from b);cases b;let{v,rfl,a,j,rfl,e,c,l}:=qZ r;rw[Sz i]at c;rw[dJ c]at e;show{a,f,rfl,e,q _ _ _ ϳ rfl}
#print L3
namespace L2
open č Ĕ ł ď
open Ńm in
def z36(l:Ë)(c:Ú Value)(n:Ä)(b:Ë)(a:Ú Value)(r:Ä)(o:É Ë)(j:Ú ĉa)(p:¬îk=Ã)(f:Ĩe<=á)(e:Ĩe+ù<=á+1) :Ăg (Builtin.«list.extend» {ÿm,[]}) (Ιc (.ret Įa)):=
 .of_wp λm w A R s h=>by
  rw[öp];let z:=Ŝk;let i:(Ċj).size<=á+1:=by rw[ųl];show e
  wp_walk using(ϑc k rfl (hz:=f) (_hz':=i)),ϑe k,ϑe q
  show{_,rfl,h}
section
variable{X:Cx}
def y1y(K:Ï):V->Á V->Hp->VK->Æ:=λx a H Q=>∃l b xs zs,x=.ref l/\a=[.ref b]/\H l=À ða/\yQ K H b zs/\ë+Ĵf<=á/\Q .zI đh
def z47:Iz X Žm (y1y X.K):=by
 intro U s σ H x P v L Q I t y h;let{l,b,O,S,rfl,rfl,m,w,R,q}:=h;cases t;let{u,rfl,p}:=y.one;cases p;let{z,c,n,r,T,e}:=ŭc m;let{a,o,B,_}:=ű w;obtain⟨⟨N,A,J,i⟩,G,k,f,C,g⟩:=B;rw[ŷp];let j:ϲc+ϱb<=á:=by rw[ŋp]
 let d:¬ Ĕg=Ã:=by rw[LN j,ϋd];show ŀ
 refine Čb ĭl {_,e,rfl} ôl ģk
  (z36 l ád n b ώa G A i d ũd Î) {e,k,?_}
 refine{.zI,_,I.Ut (Ńa:=c++a) m e ü ϫi ?_,rfl,q};rw[ϩp]
#print a
#print L2
namespace L3
open č Ĕ ď L2
structure m4(K:Ï)(H0 G H:Hp)(p:Ë)(qs:Á Ë)(nds:Á İb):Æ where
 hp:H p=À (Δ (qs.map ūa))
 p0:H0 p=Â
 pg:G p=Â
 np:p ∉ qs
 nd:qs.Nodup
 ln:nds.length=qs.length
 el:∀(j:Ä)(q:Ë),qs[j]?=À q->∃ds vs,nds[j]?=À ds/\H q=À áe/\H0 q=Â/\G q=Â/\å K G ds vs/\ĉ<=á
structure SD(K:Ï)(n:Ä)(G0 H0 G H:Hp)(τ:zw)(σ:St)(i:Ä)(nds:Á İb):Æ where
 env:zi K n G0 H0 G H τ σ
 no:z59 τ=Ã
 IH:∃p qs,σ[i]?=À īc/\m4 K H0 G H p qs nds
inductive NF where
 |nx (nds:Á İb) (τ:zw)
 |rt (d:D)
abbrev ly:=Á İb->zw->É NF
def l_(K:Ï)(n:Ä)(a b:Hp)(E:xv)(i:Ä):NF->Æ
 |.nx nds τ=>∀σ G H,SD K n a b G H τ σ i nds->E.nx σ H|.rt d=>∀v G H,zK a b G H->zT K G d v->E.rt v H
structure NS(X:Cx)(i:Ä)(st:Ô)(f:ly):Æ where
 h:∃t,PS X st t/\∀{G0 H0 G H:Hp}{τ:zw}{σ:St}{nds:Á İb} {fl:NF} {E:xv},SD X.K ê G0 H0 G H τ σ i nds->f nds τ=À fl->l_ X.K ê G0 H0 E i fl->t E σ H
#print L3
namespace L2
open č Ĕ ł ď
section
variable{Ā:à}{w:ß}{A:è}{E:Value->Í->Æ}
def rY{s:Í}{a:Ë}{kvs:Á Ĵa}{ep:Ä}{Q:Á Value->Í->Æ}(q:Ĺa=Â)(lo:ßa=Å)(n:Īh ŗa a kvs ep)(t:Ķ<=á)(h:∀h' tk vs,ø=Ķ->(∀(j:Ä)(v:Value),vs[j]?=À v->∃k x,kvs[j]?=À (k,x)/\(ŗa).is k v=Ã)->Ý<h'.objs.size->(∀b ob,ö b=À ob->ė b=À ob)->Q vs { s with ä:=h',Ě:=tk }):Õ æ A (collect ý) Q E s:=by
 unfold collect;show Ð (įm (Ăb (entry_proto_collect') ?_));exact Õ _ _ (newList [] >>= λl=>again (.builtin "list.__iadd__" {[l,.ref a],[]})) _ _ s;refine Ð (ųe (ċ {Įl _ ÿa,Ăb (entry_list_iadd') ?_}));let i:a<Ý:=n.lt_size;let g:Ý≠a:=wV (ϋa i);rw[āc ÿa]
 refine W.kdl_extend (R:=λr m=>match r with
  |.ok Ïe=>Õ æ A (match v with
   |ÿ a=>(do
    let o <-load a
    match Ϛ with
    |.seq xs _=>pure xs.toList|_=>ņn Ĝl)
   |_=>ņn Ĝl) Q E m
  |.ok _=>í|.error e=>E e m) (s:={ s with ä:=Ŋa Ŵc }) (W.kdl_dict (knd:=yl Ā w) (kvs:=kvs) (ep:=ep) lo) (by show q) (n.push _) Ý g g ţb 0 řb (λh' tk c u p f d=>?_) t
 show Ð (ϴn f ?_);exact Õ _ _ (pure c.toList) _ _ _;refine ċ (h h' tk c.toList (by rw[ŧ];show d.1) (λj v e=>d.2 j v (by rw[<-Ÿa];show e)) (Ğ f) λb ob e=>?_);show p b ob (wV Öe) Øe
def z1u(vs:Á Value)(kvs:Á Ĵa)(ns:Á Ê)(b:ø=Ķ)(a:ďd (·.1)=Þb Ŧa)(c:∀(j:Ä)(v:Value),vs[j]?=À v->∃k x,kvs[j]?=À (k,x)/\(ŗa).is k v=Ã):Ŵb vs ns:=by
 revert kvs ns
 induction vs with
 |nil=>
  intro kvs ns b a _;cases kvs with
  |nil=>
   cases ns with
   |nil=>show .nil|î n ns=>cases a
  |î _ _=>cases b
 |î v vs ih=>
  intro kvs ns b a c;cases kvs with
  |nil=>cases b|î kx kvs=>
   cases ns with
   |nil=>cases a|î n ns=>let{k,x,e,z}:=c 0 v rfl;cases e;let f:k=Ŧa n:=ϖl.1;subst f;let{t,rfl}:=ūl (k:=n) (v:=v) z;show .cons _ _ (ih kvs ns ōl ϖl.2 λj u d=>by simpa using c ϵ u (by simpa using d))
#print a
section
theorem EL:∀{kvs:Á Ϙ} {vs:Á Ĵa},KV kvs vs->ğe (·.1)=ďd (·.1)
 |_,_,.nil=>rfl|_,_,.cons r t=>by rw[ϰ,ϰ,EL t,r.1]
#print a
#print L2
namespace L3
open č Ĕ ď L2
nonrec def Vj:Á Ş->É Ŏf
 | []=>À []|.inl i::r=>(Vj r).bind λa=>À (i::a)|.inr _::_=>Â
theorem EJ:∀{ks:Á Ş} {ns:Á Ê},Vj ks=À ns->ks=Þb Ŧa
 | [],_,h=>by cases h;rfl|.inl i::r,_,h=>by let{ns,a,h}:=zC h;cases h;rw[EJ a];rfl
 |.inr _::_,_,h=>by cases h
section
variable{α:Type}{P:Á α->Æ}
def fY(h:P []):∀us:Á α,ũ=0->P us
 | [],_=>h
def JI{n:Ä}(h:∀a (r:Á α),ŷ=n->P Īd):∀us:Á α,ũ=n+1->P us
 |a::r,e=>h a r (Ϛb e)
def us1(h:∀a,P [a]):∀us:Á α,ũ=1->P us:=JI λa=>fY (P:=λr=>P Īd) Ņe
def us2(h:∀a b,P ķd):∀us:Á α,ũ=2->P us:=JI λa=>us1 (P:=λr=>P Īd) Ņe
def us3(h:∀a b c,P [a,b,c]):∀us:Á α,ũ=3->P us:=JI λa=>us2 (P:=λr=>P Īd) Ņe
def us4(h:∀a b c d,P [a,b,c,d]):∀us:Á α,ũ=4->P us:=JI λa=>us3 (P:=λr=>P Īd) Ņe
def us5(h:∀a b c d e,P [a,b,c,d,e]):∀us:Á α,ũ=5->P us:=JI λa=>us4 (P:=λr=>P Īd) Ņe
#print a
abbrev OW(x:Ç)(st:Ô)(oc:Value)(od:É Ë)(sl:Ú ĉa)(kV dc pm:Value)(an:É Ë)(cd ct:Value):É Obj:=À {oc,od,.func (Âb x x Ëc ź ģ .none kV dc pm an cd ct),sl}
#print L3
namespace L2
open č Ĕ ł ď
def pR(K:Ï)(w:ß)(a:Ë)(ks:Á zR)(us:Á V):Æ:=
 ßa=Å/\ŉ=ũ/\∃ep,∀(P:à)(h:Heap),İ h->∃vs,KV Ãc vs/\Ŀi ķa a vs ep
def aV{k:zR}{v:Value}(h:Yc k v=Ã):zu ćj v:=by rcases kO h with⟨i,t,rfl,rfl⟩|⟨x,t,rfl,rfl⟩;show{t,rfl};show{t,rfl}
def Dg(ks:Á zR):It:={λi _=>i<ŉ,λi H v a=>a=H/\∃k,ks[i]?=À k/\v=kV k,λi _=>ŉ<=i}
theorem ja:∀{kvs:Á Ϙ} {vs:Á Ĵa},KV kvs vs->ø=Ķ
 |_,_,.nil=>rfl|_,_,.cons _ t=>by rw[Ĩ,Ĩ,ja t]
theorem x0r{P:à}{w:ß}{K:Ï}{tg:Ñ}{ks:Á zR}{us:Á V}{ep:Ä}(a it:Ë)(Q:ŉ=ũ)(g:∀(P:à)(h:Heap),İ h->∃vs,KV Ãc vs/\Ŀi ķa a vs ep) :g8 P w K tg Új ϑb it (λi h=>h.IsKeyIter it a i ŉ ep) where
 mem:=by simp
 obj:=λi h st b m=>by
  let e:b=it:=by simpa using m
  rw[Ïp]
 ēa:=λi h t st k=>ôg λo e=>k it ü o e
 Ůa:=by
  rw[Üp]
  let S:i<ø:=by rw[n];show y
  let q:vs[i]?=À (vs[i].1,vs[i].2):=ļ S
  let U:ks[i]?=À vs[i].1:=by let e:=Äa (λl:Á zR=>l[i]?) (EL f);simp only[Üa,q,Option.map_some,ųd (show ŉ<=ũ by omega)]at e;show Ģd
  rw[Ŵp];show wpAny_pyNext_dict_item st L q λB t p j T=>?_
  rw[n]at j;let Y:zD X R σ H { s with ä:=t }:=ţa (t':=ě) (λb o m e=>(T.2 b m).trans e) N F x u J;let{o,e,c,d}:=id j;show{B,rfl,Va (s:={ s with ä:=t }) e c d Û {kV vs[i].1,H,Y,aV p,{rfl,_,U,rfl},j,λb m=>(r b m).1}}
 done:=by
  rw[Üp]
  let q:vs[i]?=Â:=ăb (by rw[n];show y);rw[Ŵp];show wpAny_pyNext_dict_end Ϯi st L q λt eb=>{rfl,ţa (t':=ě) (λb o m e=>eb b o m e) N F x u J}
 úb:=λ_ _ _ _ _ st h=>wpAny_pyIter_keyiter st h
def z1j(ks:Á zR):TI:=λ_ H R=>R Új H
def y0t{X:Cx}{t:Ñ}{x:Ç}{p:Pos}{A:Ë}{ks:Á zR}{us:Á V}(h:wN â x īb)(g:pR X.K X.w A ks us)(n:Gl X x)(C:Ì Ģ q10):PI X t þa (z1j ks):=by
 intro B s σ H R I l;let{a,k,E,j}:=g;show zn (WF (pos:=p) h n C B s σ H (λv f=>v=.ref A/\f=H) I {rfl,rfl}) λv c ⟨y,f,d,r,e1,e2⟩=>?_
 subst e1 e2;cases(show v=ÿ A from r);let{z,i,q}:=j ì Řc ũc;let m:Ņ=ŉ:=by rw[ja i,ìa,k,ća]
 show wpAny_pyIter_dict a q ?_;rw[m];show{ċb,[ċb],_,_,f,rfl,d.kept (t':=ŗc) λb o e=>Ġ _ e,x0r A _ k j,{_,ť _ rfl,rfl,rfl},λb u=>?_,l};let e:b=ċb:=by simpa using u
 subst e;show d.ZG ğ Ăi
#print L2
namespace L3
open č Ĕ ł ď L2
nonrec def Vi:zR->D
 |.inl i=>.int i|.inr x=>.str x
nonrec def W8:zR->Ò
 |.inl _=>Ã|.inr x=>decide (şa<=yc)
def iG(ks:Á zR):FA:=λ_=>À ϙn
def aW{K:Ï}{G:Hp}{k:zR}(h:W8 k=Ã):zT K G (Vi k) ćj:=by
 cases k with
 |inl i=>rfl|inr x=>show{rfl,by rw[Ľ];show ı h}
def z0r{K:Ï}{G:Hp}{ks:Á zR}(h:Øg W8=Ã):jR K Új G ϙn where
 go:=λi b H _ _ a=>by rw[þ]at a;show a
 vw:=λi b H x f e d a y=>by let{rfl,k,c,rfl}:=y;show{b,Vi k,āa d,by rw[Üa,c];rfl,aW (ŋa h k (ϟb c))}
 ϡa:=λi b H _ _ a=>by rw[þ]at a;show a
def KY(h:wN â x īb)(g:pR X.K X.w A ks us)(a:Gl X x)(hk:Øg W8=Ã)(d:ŉ<=1000)(b:Ì Ģ q10):SI X tg þa (iG ks):=
 {{_,y0t h g a b,λ{e i G H τ σ f R} K c q=>by cases c;show q _ _ _ Õe (by rw[þ,Ľ];show Ĳ d Û) (z0r hk)}}
def z0g{K:Ï}{w:ß}{a:Ë}{es:Á ġb}{n:Ä}{xs:Á Ç}{vs:Á Value}{us:Á V}(l:Ÿ a=À { cls:=.type ϗ,Č:=.dict ϭh n })(e:j_ w es xs vs)(f:ĺc)(d:ßa=Å)(r:zk us vs) :pR K w a ġc us:=by
 rw[ĺp]
 show{d,c,n,λP h g=>{_,EN r c,?_}};rw[Ϣp];refine{_,_,g _ _ l,{rfl,rfl,rfl},rfl,λe i=>q e ŋl,p,?_};rw[Mr Ũg];show Ãh _ łg f
#print L3
namespace L2
open č Ĕ ł ď
def SZ(r d:Ë)(h:Heap):Æ:=h.IsValuesView r d
abbrev TV(r d:Ë):HO:=.ext (SZ r d)
section
variable{X:Cx}{A:Ë}{ks:Á zR}{us:Á V}{x:Ç}{p ž Ų:Pos}
def fK(A:Ë):TE:=λ_ H Q=>∀r,H r=Â->Q (.ref r) (upd H r (TV r A))
def y0k(h:wN â x īb)(g:pR X.K X.w A ks us)(E:Gl X x)(J:Ì Ģ q10)(d:Ì ĝg q12)(f:Ì Ņa q12) :PE X Ϧj (fK A):=by
 intro P s σ H Q I L;let{i,T,S,G}:=g;show Ţe d f (zn (WF (pos:=p) h E J P s σ H (λv B=>v=.ref A/\B=H) I {rfl,rfl}) λv c ⟨y,B,m,O,e1,e2⟩=>?_);subst e1 e2;cases(show v=ÿ A from O);let{r,R,N}:=G ì Řc m.ye;let j:ĭh Ŗb A r:=N.dictOf
 let C:∀b,ÿ A=.ref b->∃l,Íd b=À l/\l.dict=Â:=λb q=>by cases q;let{l,_,_,u,t,_}:=j;show{l,u,t.2.1}
 show{ϗ,_,Że,Ŷe,ļk,j.typeIs,C,żc rfl Ŗi};show ťd Ŷe j.typeIs Ħk ík (Ũl Ŗb A i) {{r,j},?_};let n:SZ ċb A (Ϩd { cls:=.type Ĥh,Č:=.fields #[.ref A] }):={_,ť _ rfl,rfl,rfl};show{.ref ċb,_,m.laid (a:=ċb) (o:=TV ċb A) (t':=ŗc) ϰg ğ {n,?_,λu t z k=>?_},rfl,L _ m.fresh};let{o,e,_}:=n;show{o,e};let{o,e,z}:=z;show{o,k _ e,z}
def y22(A:Ë)(us:Á V):Á V->Hp->VK->Æ:=λa H Q=>∃r,a=[.ref r]/\H r=À (TV r A)/\∀p,H p=Â->Q ύ (γ (.lst us))
theorem aY:∀{kvs:Á Ϙ} {vs:Á Ĵa},KV kvs vs->zk (ďd (·.2)) (ğe (·.2))
 |_,_,.nil=>.nil|_,_,.cons r t=>.cons r.2 (aY t)
def rD(c:ż=Ã)(g:pR X.K X.w A ks us)(p:ũ<=1000):wM X âa (y22 A us):=by
 intro T s σ H P R Q I r h;let{a,rfl,y,q}:=h;let{u,rfl,z}:=vg r;cases(show u=ÿ a from z);let{t,N,ep,B}:=g;let{l,i,J}:=B ì Ü ŝ;let G:Ϲa=ũ:=by rw[ja i,ìa,N,ća]
 let{C,_}:=(show yj ì X.w H Ü a (TV a A)from Ď a _ y);refine W.kdl_call (W.kdl_values (knd:=yl ì X.w) (d:=A) (r:=a) (kvs:=l) (ep:=ep)) (Ĝa c) {C,J} (by rw[G,Ľ];show Ĳ p Û) λS L b x F O f=>?_
 let{n,m}:=f
 let e:ľc=æa (·.2):=by
  show ūd λj=>?_
  cases hj:ľc[j]? with
  |Â=>have:=List.getElem?_eq_none_iff.mp hj;rw[ŧ,n]at this;rw[Üa,ăb this];rfl|À v=>let{k,e}:=m j v (by rw[<-Ÿa];show hj);rw[Üa,e];rfl
 let E:zk us ľc:=by rw[e];let:=aY i;rw[ϯl (show ũ<=ŉ by omega)]at this;show this
 show{.ref Ý,_,Çb (a:=Ý) (o:=.lst us) (t':=L) F ğ {?_,ľc,x,E,?_},rfl,q _ ĉe};rw[Ľ];show Ĳ p Û;rw[O]
#print a
#print L2
namespace L3
open č Ĕ ł ď L2
def eG(b:ż=Ã)(i:Gl X Ĝ)(f:â Ĝ=Â)(h:wN â x īb)(g:pR X.K X.w A ks us)(u:Gl X x)(k:∀H,å X.K H ds us)(m:ĉ<=1000)(y:Ì Ģ q10)(a:Ì (Ōa ůh "values" Ó (Ċ ůh Ó)=Ċ ůh Ó) q12)(c:Ì Ņa q12) :SF X (.Call Ýn [.Call ύj [] [] Ų] [] pos) (eC êb):=by
 let n:ũ<=1000:=by rw[(k Æi).length];show m
 let v:QE X (Ψa ύj) (fK A):={y0k h g u y a c};refine{{_,(Vt (p:=p) (pos:=pos) (rD b g n) i f VH (gP v WH) Û Û).h,λ{B C G H τ σ d Q} E t q=>?_}};cases t;intro r s;show{r,rfl,yE,λl j=>?_};let e:=Ϛa (o:=TV r A) ŵ s;let z:=Áb (Ϛa (o:=.lst us) ώb j);show q l _ _ z (ńi j) Ĩi {us,yE,k _,by rw[Ľ];show Ĳ m Û}
abbrev FX:=Á D->É Ļh
abbrev xw:=zw->É (Sum Fl Ç)
def vz(a:Ç->É Value)(b c:Hp)(E:XK)(x:Ç):Æ:=∃C,a x=À ú/\∀G' H',zK b c G' H'->E ú Â H'
def Dr(K:Ï)(n:Ä)(c:Ç->É Value)(a b:Hp)(d:xv)(E:XK):Sum Fl Ç->Æ
 |.inl fl=>wb K n a b d fl|.inr x=>vz c a b E x
structure k8(X:Cx)(E:XK)(sts:Á Ô)(f:xw):Æ where
 h:∃t,wy X sts t/\∀{G0 H0 G H:Hp}{τ:zw}{σ:St}{r:Sum Fl Ç}{En:xv},zi X.K ê G0 H0 G H τ σ->f τ=À r->Dr X.K ê â G0 H0 En E r->t En σ H
nonrec def qA(g:FS):xw:=λτ=>(őc).bind λa=>À Şa
nonrec def jr(g:FS)(f:xw):xw:=λτ=>(őc).bind λa=>match a with
 |.nx τ'=>f τ'|a=>À Şa
nonrec def uj(c:FT)(a:FA)(x:Ç)(f:xw):xw:=λτ=>(c τ).bind λb=>match b with
 |Ã=>(įe).bind λd=>if Ţa<=1000 then À Øa else Â|Å=>f τ
section
variable{X:Cx}{E:XK}{x:Ç}{C:Ë}{st:Ô}{sts zY:Á Ô}{g:FS}{f:xw}{ft:FT}{fa:FA}{c e:Ñ}{es:Á Ñ}{np Ų pos ipos:Pos}
def JF(h:vY X sts g):k8 X E sts (qA g):=by rw[Ñp];show{{t,p,λ{c f G H τ σ r d} K a q=>?_}};let{e,b,a}:=zC a;cases a;show k K b q
def MM(b:SS X st g)(l:k8 X E zY f):k8 X E žf (jr g f):=by
 rw[Ōp];let{w,c,e}:=l.h;show{{_,j9 p c,λ{n u G H τ σ r m} K a q=>?_}};let{i,b,a}:=zC a;show k K b ?_;cases i with
 |nx τ'=>show λσ' v s j=>e j a q|rt o d=>cases a;show Įb q ō ō ō rfl
 |bk τ'=>cases a;show q|ct τ'=>cases a;show q
def WS(w:ST X c ft)(k:wm X.K â x C)(l:Dq X E)(L:æb=Â)(o:Gl X x)(I:SA X ă fa)(d:k8 X E zY f)(g:Ì Ģ q10)(v:Ì Ϣ q12) :k8 X E (.If c [.Raise ϒj Â pos] [] ipos::zY) (uj ft fa x f):=by
 let{S,F,p}:=w.h;let{W,P,B}:=I.h;let{tr,m,s}:=d.h;show{{_,j9 (Vp F (Vq (y17 k l L o P g v)) Ld) m,λ{Y T G H τ σ r Q} K a q=>?_}};let{b,t,a}:=zC a;show p K t λR H1 i=>?_
 cases b with
 |Ã=>let{O,u,a}:=zC a;by_cases z:O.length<=1000;rw[Ö z]at a;cases a;show ue (B ĕd u λU n N y J=>{?_,?_});rw[J.length,Ľ];show Ĳ z Û;let{Z,j,q}:=q;rw[k.at_]at j;cases j;show q n N (((K.ext).trans i).trans y);rw[Ø z]at a;cases a
 |Å=>show ud (s ĕd a q)
#print a
nonrec def qc(K:Ï)(b:Ç->É Value)(F:FX):Sp:=λa H Q E=>∃G ds r,zg G H/\å K G ds a/\F ds=À r/\
 match r with
 |.inl (Å,d)=>∀v G' H',zK G H G' H'->zT K G' d v->Q v H'|.inl (Ã,d)=>∀p G' H',zK G H G' H'->H p=Â->G' p=Â->wC K G' H' d p->Q ύ H'|.inr x=>vz b G H E x
nonrec def jB(n:Ä)(b:xw)(ds:Á D):É Ļh:=(řj).bind λr=>match r with
 |.inl ŕf=>À (.inl (o,d))|.inl (.nx _)=>À (.inl (Å,.zI))|.inl _=>Â|.inr x=>À Øa
def V0(n N:Ä)(b:xw):FX:=λa=>if Ϫ=n then jB N b a else Â
def IP{n N:Ä}{b:xw}:∀ds r,V0 n N b ds=À r->ĉ=n/\jB N b ds=À r:=λds r h=>by
 unfold V0 at h
 rw[ãp]
section
variable{P:à}{w:ß}{K:Ï}{mg:Ç->É Value}{È:Heap}
def âg{x:Ç}{st:Ô}{N ps:Á Ç}{k:Ä}{F:FX}{b:xw}(d:Def K mg x st ps)(S:zh N ps ģ)(J:Ĉ<=Ū)(m:∀ds r,F ds=À r->ĉ=Ĉ/\jB Ū b ds=À r)(C:∀(f:Ë)(c:Value)(A:è)(é:Á Env)(s:Í)(H:Hp)(E:XK),yG k ĩk->k8 (jU P w K mg È N x ģ f c A é s H E) E ź b):gr P w K mg È x ps ĸ ϔn:=by
 show d.lW S žl λf c A é s H B Q E n h=>?_;let{G,ds,r,_,g,e,_}:=h;rw[Ęa,ϗo.1];let{G,ds,r,u,g,e,q}:=h;let{l,a}:=m _ _ e;let{t,p,v}:=(C f c A é s H E n).h;let{j,i,a}:=zC a;refine{t,{p},v (Q0 (N:=N) u g Î) i ?_};cases j with
 |inr y=>cases a;show q|inl j=>
  cases j with
  |nx τ=>cases a;show λσ I o z=>q .zI I o Ķe rfl|rt o' d'=>
   cases a;cases o' with
   |Å=>show q|Ã=>show q
  |bk τ=>cases a|ct τ=>cases a
#print a
#print L3
namespace L2
open č Ĕ ł ď
section
variable{Ā:à}{w:ß}{A:è}{E:Value->Í->Æ}{s:Í}
open HT in
def z0k{t d:Ë}{a:Ú Value}{j l:Value}{lo hi:É Ê}{Q:Value->Í->Æ}(b:Êb Ü t a)(i:ϻe d j l .none)(pl:õb j lo)(o:õb l hi)(k:sIx ù 0 lo=0/\sIx ù ù hi=ù)(h:Q Çc s):Õ æ A Ϩm Q E s:=by
 let{n,g,e,m}:=id i;let f:îb Ĥb Ąe:={n,g,e};unfold ýd
 try with_reducible show ŉa ?_
 first|show Ð Śa|skip
 refine Ð (ţl ød Û ?_)
 show Ð (Āc (Į:=Ŋb Ħh) ød Śe
  (Ňb Śe ød ñl ?_ Ōk))
 exact Õ _ _ ϙj _ _ s;show Ð (όm b ?_);show Ð (ϗc f ?_);rw[Ö Û];show Ð (eO i pl o ?_)
 let c:Đg=Ã:=by rw[k.1,k.2,Śh];simp
 exact Õ _ _ ěk _ _ s;rw[Ö c];let p:îb Çc Œ:=ød;unfold Builtin.Tuple.tupleIsExact;show Ð (Ð (ϗc p (χ (Ĉc (ċ {_,rfl,ċ h})))))
#print a
def y26(K:Ï):V->É Ê->É Ê->Hp->VK->Æ:=λx c b H Q=>∃a xs,x=.ref a/\yf K H a xs/\
 (ę ë 0 c=0/\ę ë ë b=ë)/\Q ý H
def y5c:k9 X (y26 X.K):=by
 intro t s σ H x v p u o n m Q I l e f i h;let{a,k,rfl,g,j,q}:=h;cases l;let{c,r,d,w}:=Ϭ g;let b:ϲc=ļi:=by rw[đ];show Ϗm
 show{Œ,_,ϐj,ņi,?_};show z0k d e f i (by rw[b];show j) {.ref a,H,I,rfl,q}
#print L2
namespace L3
open č Ĕ ł ď L2
def z09(d:D)(lo hi:É Ê):É D:=match d with
 |.tup xs=>À ăo|d=>Aj d lo hi
def AW(a:FE)(lo hi:FO):FE:=λσ=>(Ña).bind λd=>(Êj).bind λl=>(Ìj).bind λh=>z09 d l h
def rf{α:Type}{xs:Á α}{lo hi:É Ê}(c:ę ë 0 lo=0/\ę ë ë hi=ë):kF xs lo hi=xs:=by unfold kF;rw[c.1,c.2,Śh,Ďh,Ųd]
theorem y4j{X:Cx}{a:Ñ}{w:FE}{pos:Pos}{lo hi:É Ñ}{fl fh:FO}{J:Pos}(F:SE X a w)(u:SO X lo fl)(s:SO X hi fh):SE X (Γe (.Slice lo hi Â J)) (AW w fl fh):=by
 let{T,L,A}:=F.h;let{U,B,y}:=u.h;let{R,N,I}:=s.h;show{{_,cF (eM.or y5c) L B N,λ{W S G H τ σ d Q} E b q=>?_}};let{x,C,b}:=zC b;let{l,u,b}:=zC b;let{h,s,b}:=zC b;show A E C λv P H1 t K=>y Ϫf u λO Z r=>I ((Ϫf).go r) s λY H3 e=>?_
 let n:=Ϗi (ϑi e);let o:=K.mono (r.g.trans e.g);cases x with
 |lst xs=>cases b;let{a,k,rfl,m,i,f}:=o;refine .inl (.inl {a,k,rfl,wv ώb m,λp j=>q _ _ _ Ÿk {p,_,rfl,ła yE,(Ϝn).mono ço,Ĳ Êg f}})
 |tup xs=>cases b;let{a,k,rfl,m,i,f}:=o;by_cases c:ę ë 0 l=0/\ę ë ë h=ë;refine .inr {a,k,rfl,ve ώb m,by rw[ŭb];show c,?_};rw[rf c]at q;show q _ _ _ n {a,k,rfl,m,i,f};refine .inl (.inr (.inl {a,k,rfl,ve ώb m,by rw[ŭb];show c,λp j=>?_}));show q _ _ _ Ÿk {p,_,rfl,Ļb yE,(Ϝn).mono ço,Ĳ Êg f}
 |str z=>cases b;let{rfl,f}:=o;show .inl (.inr (.inr {z,rfl,f,q _ _ _ n {rfl,Ĳ (Fd ..) f}}))
 |_=>cases b
#print L3
namespace L2
open č Ĕ ł ď
section
variable{X:Cx}{z0:Á ô}{σ:St}{H:Hp}{s:Í}{a:Ë}{o:Obj}{kvs:Á Ϙ}
def zD.swap(I:zD X z0 σ H s)(e:H a=À u)(r:∀x,u≠.own x)(o:∀xs,u≠.tup xs)(nb:∀ps,ŧa a≠À Þe)(A:∀ob v,ŧa a≠À Îi)(m:∀xs,ŧa a≠À Ļa)(h:yj ì X.w Ēn Ü a u'):zD X z0 σ Ēn s:=by
 let f:∀b,H b=Â->b≠a:=λb d z=>by subst z;rw[e]at d;cases d
 show{Ŭc,Ϥa,đa,{ϰc,ħc,λb ob q n l=>?_,ŕb,λb xs q=>?_,λb ob v q=>?_,λb ps q=>?_},Úa,øa,?_,λx c q=>?_,λp t=>?_,λb v q=>?_,ŭa};let:=ϧb b ob q n l;rw[zr (f b this)];show this;let d:b≠a:=λz=>by subst z;show m xs q
 rw[zr d];show Ĵc b xs q;let d:b≠a:=λz=>by subst z;show A ob v q
 rw[zr d];show ĳc b ob v q;let d:b≠a:=λz=>by subst z;show nb ps q
 rw[zr d];show ĵc b ps q;rw[zr (f _ Đa)];show Đa;rw[zr (f _ (ϣa x c q))];show ϣa x c q;let{j,i,k}:=ûa p t;show{j,by rw[zr (f _ i)];show i,k};by_cases d:b=a;subst d;rw[yE]at q;cases q;show h;rw[zr d]at q;show(Ď b v q).gj (λc w _ z=>z) (λc z=>?_) λc xs z=>?_;let g:c≠a:=λy=>by subst y;rw[e]at z;cases z;show r _ rfl
 rw[zr g];show z;let g:c≠a:=λy=>by subst y;rw[e]at z;cases z;show o _ rfl
 rw[zr g];show z
def zD.Wo(I:zD X z0 σ H s)(e:H a=À Ł):(∀ps,ŧa a≠À Þe)/\(∀ob v,ŧa a≠À Îi)/\∀xs,ŧa a≠À Ļa:=by show{λps z=>?_,λob v z=>?_,λxs z=>?_};let{_,q}:=ĵc a ps z;rw[e]at q;cases q;let q:=ĳc a ob v z;rw[e]at q;cases q;let q:=Ĵc a xs z;rw[e]at q;cases q
def zD.up(I:zD X z0 σ H s)(e:H a=À Ł):∃o,zD X z0 σ ïf s:=by let{h,j,d}:=I.Wo e;let{z,y,i,r,b,k,f,g,c}:=(show yj ì X.w H Ü a Ł from Ď a _ e);show{b,I.swap e ō ō h j d {g,z,y,i,r,b,k,f,g,c}}
def zD.dn(I:zD X z0 σ H s)(e:H a=À Ϟ)(n:(∀ps,ŧa a≠À Þe)/\(∀ob v,ŧa a≠À Îi)/\∀xs,ŧa a≠À Ļa):zD X z0 σ ϔd s:=by let{f,i,b}:=n;let{_,z,y,h,r,ob,j,d,g,c}:=(show yj ì X.w H Ü a Ϟ from Ď a _ e);show I.swap e ō ō f i b {z,y,h,r,ob,j,d,g,c}
#print a
def xv.dn(D:xv)(a:Ë)(o:Obj)(kvs:Á Ϙ):xv:=
 {λσ H=>H a=À Ϟ/\ųa σ ϔd,λv H=>H a=À Ϟ/\D.rt v ϔd,λσ H=>H a=À Ϟ/\D.bk σ ϔd,λσ H=>H a=À Ϟ/\D.ct σ ϔd}
def y2u(i:Ä)(t:TS):TS:=λD σ H=>∃a,σ[i]?=À Ŧb/\((∃o kvs,H a=À Ϟ/\t D σ H)\/∃kvs,H a=À Ł/\∀o,t (D.dn a o kvs) σ ïf)
def y18{X:Cx}{st:Ô}{t:TS}{i:Ä}(h:PS X st t):PS X st (y2u i t):=by
 intro k s σ H D I d;obtain⟨a,n,⟨_,_,_,d⟩|⟨m,e,d⟩⟩:=d;show h k s σ H D I d
 .let{o,l}:=I.up e;show zn (h k s σ _ _ l (d o)) λf p g=>?_
  cases f with
  |next=>let{σ',j,b,c,q}:=g;show{σ',_,b.dn c üe,q}
  |brk=>let{σ',j,b,c,q}:=g;show{σ',_,b.dn c üe,q}
  |ýa=>let{σ',j,b,c,q}:=g;show{σ',_,b.dn c üe,q}
  |ret u=>let{v,σ',j,b,r,c,q}:=g;show{v,σ',_,b.dn c üe,r,q}
def y7j(i:Ä)(t:TE):TE:=λσ H Q=>∃a,σ[i]?=À Ŧb/\((∃o kvs,H a=À Ϟ/\t σ H Q)\/∃kvs,H a=À Ł/\∀o,t σ ïf λv b=>b a=À Ϟ/\Q v (upd b a Ł))
def y0g(h:PE X e t):PE X e (y7j i t):=by intro c s σ H Q I b;obtain⟨a,l,⟨_,_,_,b⟩|⟨j,e,b⟩⟩:=b;show h c s σ H Q I b;let{o,d}:=I.up e;show zn (h c s σ _ _ d (b o)) λu m ⟨v,k,f,r,g,q⟩=>{v,_,f.dn g üe,r,q}
def VQ(ok:xW P w H h)(e:H a=À Ϟ)(d:Ϛ=.dict es ep):ßa=Å/\∃vs,KV kvs vs/\Ŀi ķa a vs ep:=by let{g,z,y,vs,r,j,b,i,f,c}:=(show yj P w H h a Ϟ from ok a _ e);rw[g]at f;cases f;show{y,vs,r,o,b,g,c.1,?_,c.2.2};let e1:=c.2.1;rw[d]at e1;cases e1;show d
theorem EM:∀{kvs:Á Ϙ} {vs:Á Ĵa} {i:Ä} {k:zR} {x:Value},KV kvs vs->vs[i]?=À (k,x)->∃u,kvs[i]?=À (k,u)/\zu u x
 |_,_,_,_,_,.nil,e=>by cases e|_,_,0,_,_,.cons r t,e=>by cases e;let{a,b}:=r;show{_,Äa À (Prod.ext a rfl),b}
 |_,_,i+1,_,_,.cons _ t,e=>EM (i:=i) t ňa
#print L2
namespace L3
open č Ĕ ł ď L2
structure Tw(a:Ë)(kvs:Á Ϙ)(G G':Hp):Æ where
 ne:∀b,b≠a->G' b=G b
 l:Rd G a Ł
 r:Rd G' a Ł
section
variable{K:Ï}{a:Ë}{o:Obj}{kvs:Á Ϙ}{G G' H H' G0 H0:Hp}
def Rd.tw(t:Tw a kvs G G')(c:∀ob v,u≠.zz ob v)(h:Rd G b u):Rd G' b u:=by
 rw[ép]
 let e:u=.dK kvs:=by rcases h with h|⟨ob,h⟩<;>rcases t.l with l|⟨oc,l⟩<;>rw[l]at h;cases h;rfl;cases h;show Þ rfl (c oc _);cases h;cases h;rfl
 rw[e];show t.r;rcases h with h|⟨ob,h⟩;show .inl (by rw[ϝp]);show .inr {ob,by rw[ϝp]}
theorem Tw.at{b:Ë}{u:HO}(t:Tw a kvs G G')(h:G b=À u)(c:u≠.dK kvs)(d:∀o,u≠.zz o Ł):G' b=À u:=by rw[ép];rcases t.l with l|⟨oc,l⟩<;>rw[l]at h;cases h;show Þ rfl c;cases h;show Þ rfl (d oc);rw[ϝp]
theorem zT.tw(t:Tw a kvs G G'):∀{d:D}{v:V},zT K G d v->zT K G' d v:=λ{d}=>by show Ţc (P:=λd=>∀v,zT K G d v->zT K G' d v) ào Ān þn ýn ?_ ?_ ?_ ?_ ?_ d _;rw[ħp];rcases q with q|q;show .inl Ģm;show .inr q;rw[ħp];rcases q with q|q;show .inl Ģm;show .inr q;rintro k g c v ⟨b,f,e,q,z,r,l⟩;show{b,f,e,Rd.tw t Ϡj q,z,ϻa c r,l};rintro x v ⟨b,C,e,n,h⟩;show{b,C,e,n,t.at h ëa ō};rintro x m g c v ⟨b,C,j,f,e,n,h,l,r⟩;show{b,C,j,f,e,n,t.at h ëa ō,l,ϻa c r}
theorem Reps.tw(t:Tw a kvs G G')(h:å K G ds vs):å K G' ds vs:=ϻa (λ_ _ _=>zT.tw t) h
theorem wC.tw(t:Tw a kvs G G')(f:H' p=H p)(c:wC K G H d p):wC K G' H' d p:=by
 cases d with
 |lst ds=>let{b,e,r,l}:=c;show{b,by rw[f];show e,r.tw t,l}
 |dic ks ds=>let{b,e,z,r,l}:=c;show{b,by rw[f];show e,z,r.tw t,l}
 |_=>show c.elim
def NH(e:G a=À Ł):Tw a kvs G ϕd:={λb c=>zr c,.inl e,.inr {o,yE}}
def MX(e:G a=À Ϟ):Tw a kvs G (upd G a Ł):={λb c=>zr c,.inr {o,e},.inl yE}
nonrec def Y_(a:Ë)(f:HO)(H0:Hp):Hp:=λb=>if b=a then(H0 a).bind λ_=>À f else H0 b
def fW(h:b≠a):Y_ a f H0 b=H0 b:=Ø h
def MZ:Y_ a f H0 b=Â↔H0 b=Â:=by
 unfold Y_;by_cases h:b=a;subst h;rw[Ö rfl];cases H0 b with
 |Â=>show{λ_=>rfl,λ_=>rfl}|À u=>show{λz=>(nomatch z),λz=>(nomatch z)}
 rw[Ø h]
theorem x2a(h:Y_ a f H0 a=À u):u=f:=by
 unfold Y_ at h;rw[Ö rfl]at h;cases e:H0 a with
 |Â=>rw[e]at h;cases h|À w=>rw[e]at h;cases h;rfl
def zi.up(E:zi K n G0 H0 G H τ σ)(e:G a=À Ł):zi K n ϕd Ĺh ϕd ïf τ σ:=by
 let t:=NH (o:=o) e;show{{ĵa _,λb u h=>?_,Qx ŵ,λ_ h=>.inl h},į,ħ,λi d h=>?_,λi d h=>?_,Ųa};rw[ép];rw[yE,x2a h];rw[fW hb]at h;rw[zr hb];show ôa _ _ h;let{v,c,r}:=űa i d h;show{v,c,r.tw t};let{p,c,g,z,j}:=ħa i d h;let f:p≠a:=λz=>by subst z;rw[e]at g;cases g
 show{p,c,by rw[zr f];show g,MZ.mpr z,j.tw t (zr f)}
def zK.XN(x0:zK G0 H0 G H)(e:G a=À Ł)(x:zK ϕd Ĺh G' H'):G' a=À Ϟ/\H' a=À Ϟ/\zK G0 H0 Ūm Ũm:=by let c:G' a=À Ϟ:=x.g _ _ yE;show{c,ϸ _ _ c,x0.rebase {λb u h=>?_,λb u h=>?_,Qx ϸ,λp h=>?_}};rw[ép];rw[e]at h;cases h;show yE;rw[zr hb];show x.g _ _ (by rw[zr hb];show h);rw[ép];let:=x0.h _ _ h;rw[x0.gh _ _ e]at this;rw[ϛp];show yE;rw[zr hb];show x.h _ _ (by rw[fW hb];show h);by_cases hb:p=a;subst hb;show .inl Źc;rw[zr hb]at h;rcases Ϟa p h with z|z;rw[zr hb]at z;show .inl z;show .inr (MZ.mp z)
theorem zi.XN(E:zi K n G0 H0 G H τ σ)(e:G a=À Ł)(E':zi K n ϕd Ĺh G' H' τ' σ'):H' a=À Ϟ/\zi K n G0 H0 Ūm Ũm τ' σ':=by
 let{f,k,x}:=E.ext.XN e E'.ext;let t:=MX f;show{k,x,E'.l1,E'.l2,λi d h=>?_,λi d h=>?_,E'.ap};let{v,b,r}:=E'.fr i d h;show{v,b,r.tw t};let{p,b,g,z,j}:=E'.ow i d h;let c:p≠a:=λz=>by subst z;rw[f]at g;cases g
 show{p,b,by rw[zr c];show g,MZ.mp z,j.tw t (zr c)}
#print a
def Kn(K:Ï)(i:Ä)(τ:zw)(σ:St)(G:Hp):Æ:=∃a o ks ds vs,τ[i]?=À ůg/\σ[i]?=À Ŧb/\G a=À Íh/\ŉ=ø/\å K G ds vs/\ĉ<=á
structure SR(X:Cx)(i:Ä)(st:Ô)(f:FS):Æ where
 h:∃t,PS X st t/\∀{G0 H0 G H:Hp}{τ:zw}{σ:St}{fl:Fl}{E:xv},zi X.K ê G0 H0 G H τ σ->Kn X.K i τ σ G->f τ=À fl->wb X.K ê G0 H0 E fl->t E σ H
structure SM(X:Cx)(i:Ä)(e:Ñ)(f:FE):Æ where
 h:∃t,PE X e t/\∀{G0 H0 G H:Hp}{τ:zw}{σ:St}{d:D}{Q:VK},zi X.K ê G0 H0 G H τ σ->Kn X.K i τ σ G->f τ=À d->(∀p G' H',zK G H G' H'->H p=Â->G' p=Â->wC X.K G' H' d p->Q ύ H')->t σ H Q
structure O2(X:Cx)(i:Ä)(tg Ŝ:Ñ)(f:FA):Æ where
 h:∃wi,PI X tg Ŝ wi/\∀{G0 H0 G H:Hp}{τ:zw}{σ:St}{ds:Á D}{R:It->Hp->Æ},zi X.K ê G0 H0 G H τ σ->Kn X.K i τ σ G->f τ=À ds->(∀J G' H',zK G H G' H'->ĉ<=á->jR X.K J G' ds->R J H')->wi σ H R
def YC(i:Ä)(f:zw->É α):Æ:=∀τ x,f τ=À x->∃ks ds,τ[i]?=À ůg
def y69{X:Cx}{i:Ä}{st:Ô}{f:FS}(h:SR X i st f)(hk:YC i f):SS X st f:=by
 let{t,Q,k}:=h.h;show{{_,y18 (i:=i) Q,λ{S R G H τ σ N E} K n q=>?_}};let{A,F,j}:=hk _ _ n;let{v,l,a,B,rfl,L,I,y,J}:=K.fr i _ j;show{a,l,?_};rcases L with e|⟨o,e⟩;rw[ϳp];let P:=K.up (o:=o) e;show k P {a,o,A,F,B,j,l,yE,I,y.tw (NH e),J} n ?_;cases N with
 |nx τ'=>show λσ' g b z=>let ⟨h1,h2⟩:=K.XN e z;{h1,q σ' _ _ h2}|bk τ'=>show λσ' g b z=>let ⟨h1,h2⟩:=K.XN e z;{h1,q σ' _ _ h2}|ct τ'=>show λσ' g b z=>let ⟨h1,h2⟩:=K.XN e z;{h1,q σ' _ _ h2}|rt u d=>
  cases u with
  |Å=>intro v g b x r;let{c,w,m}:=K.ext.XN e x;show{w,q v _ _ m (r.tw (MX c))}
  |Ã=>
   intro p g b x O s u;let{c,w,m}:=K.ext.XN e x;let C:p≠a:=λz=>by subst z;rw[c]at s;cases s
   show{w,q p _ _ m (MZ.mp O) (by rw[zr C];show s) (u.tw (MX c) (zr C))}
 show .inl {o,_,Âa _ _ e,k K {a,o,A,F,B,j,l,e,I,y,J} n q}
def y4u(h:SM X i e f)(hk:YC i f):SF X e f:=by
 let{t,S,k}:=h.h;show{{_,y0g (i:=i) S,λ{W U G H τ σ d Q} K A q=>?_}};let{j,F,r}:=hk _ _ A;let{v,s,a,l,rfl,P,I,B,L}:=K.fr i _ r;show{a,s,?_};rcases P with e|⟨o,e⟩;rw[ϳp];let R:=K.up (o:=o) e;show k R {a,o,j,F,l,r,s,yE,I,B.tw (NH e),L} A λp J N x C m T=>?_
 let O:H a=À _:=Âa _ _ e;let n:J a=À (.zz o Ăh):=x.g _ _ yE
 let y:H p=Â:=by by_cases z:p=a;subst z;rw[n]at m;cases m;rw[zr z]at C;show C
 let E:p≠a:=λz=>by subst z;rw[n]at m;cases m
 show{ϸ _ _ n,q p (upd J a Ăh) (upd N a Ăh) {λb u c=>?_,λb u c=>?_,Qx ϸ,λb c=>?_} y (by rw[zr E];show m) (T.tw (MX n) (zr E))};rw[ſp];rw[e]at c;cases c;show yE;rw[zr z];show x.g _ _ Ùl;rw[ſp];rw[O]at c;cases c;show yE;rw[zr z];show x.h _ _ Ùl;rw[ſp];show .inl Źc;rw[zr z]at c;rcases Ϟa b c with w|w;rw[zr z]at w;rw[ĥp];rw[zr z]at w;show .inr w;show .inl {o,_,Âa _ _ e,k K {a,o,j,F,l,r,s,e,I,B,L} A q}
def y66(P:Ũb ā X.A Ó ĥ)(S:ż=Ã)(hi:O2 X i tg Ŝ fs)(O:SG X tg fg)(R:vY X ńa g)(u:Ì (∀x,Úb Ŝ Ó x=pure x) q11):SR X i Ůe Ğn:=by
 let{ti,Y,I}:=ύb;let{B,L,v}:=O.h;let{tb,pb,F}:=R.h;show{{_,LZ P S Y L pb u,λ{G0 s G H τ σ r E} K kn a q=>?_}};let{b,Q,a}:=zC a;show I K kn Q λJ k Ha U _ n=>?_
 let t:=Ϝ U;let f:=ϕf t.ext q;show{λi m σ H=>m=ϫ-i/\i<=ϫ/\∃τ G,zi X.K ê k s G H τ σ/\ZZ fg g ϩf τ=À r,{ϫ,rfl,ϱ _,τ,k,t.Y2,a},?_};rw[Óp];show .inr {n.go i G H Ãb Âa hlt,λσ' c=>∃τ G,zi X.K ê k s G c τ σ'/\ZZ fg g Ņf τ=À r,λσ' c z=>{ϫ-ē,ŗd _ _ hlt,rfl,hlt,z},λx c y=>?_};let{G3,d,x3,p,C}:=n.vw i G H x c Ãb Âa hlt y;rw[Űp];rw[ļ hlt]at p;cases p;let{τ1,W,a}:=zC (show(Ϟo).bind _=_ from a);let{Z,T,a}:=zC a;show v ŵf C W λσ1 K1=>F K1 T ?_
 cases Z with
 |nx τ2=>show λσ2 j H2 l=>{τ2,j,l,a}|ct τ2=>show λσ2 j H2 l=>{τ2,j,l,a}|bk τ2=>cases a;show f|rt o d=>cases a;show Įb f ō ō ō rfl
 rw[ûp];show .inl {n.stop i G H Ãb Âa Î,f _ _ _ K}
def sH(h:YC i fs):YC i Ğn:=λτ x a=>by let{b,c,_}:=zC a;show h τ b c
#print L3
namespace L2
open č Ĕ ł ď
nonrec def Dk(a:Ë)(o:Obj)(kvs:Á Ϙ):It:={λi H=>H a=À Ϟ/\i<Ķ,λi H v b=>b=H/\∃k,kvs[i]?=À (k,v),λi H=>H a=À Ϟ/\Ķ<=i}
def x0p{P:à}{w:ß}{K:Ï}{Y:Ñ}{kvs:Á Ϙ}{o:Obj}{es:Ú ġb}{ep:Ä}(a it:Ë)(d:Ϛ=.dict es ep) :g8 P w K Y Ĳn ϑb it (λi h=>h.IsValIter it a i Ķ ep) where
 mem:=by simp
 obj:=λi h st b l=>by
  let e:b=it:=by simpa using l
  rw[Ïp]
 ēa:=λi h r st k=>ôg λo e=>k it ü o e
 Ůa:=by
  rw[çp];let O:i<ϑa:=by rw[m];show n.2
  let p:f[i]?=À (f[i].1,f[i].2):=ļ O;let{u,R,U}:=EM g p;let{J,B,T,x,t,F}:=q it ü;rw[<-m]at st;show wpAny_pyNext_values_item st G p λr j Q=>?_
  rw[m]at j;let S:zD X N σ H { s with ä:=r }:=ţa (t':=ě) (λb o l e=>(Q.2 b l).trans e) J B x t F;let{o,e,c,d}:=id j;show{f[i].2,rfl,Va (s:={ s with ä:=r }) e c d Û {u,H,S,U,{rfl,_,R},j,λb l=>(q b l).1}}
 done:=by rw[çp];let p:f[i]?=Â:=ăb (by rw[m];show n.2);let{J,B,T,x,t,F}:=q it ü;rw[<-m]at st;show wpAny_pyNext_values_end (Ĝa L) st G p λr Z=>{rfl,ţa (t':=ě) (λb o l e=>Z b o l e) J B x t F}
 úb:=λ_ _ _ _ _ st h=>wpAny_pyIter_valiter st h
def z1h(i:Ä):TI:=λσ H R=>∃a o kvs,σ[i]?=À Ŧb/\H a=À Ϟ/\R Ĳn H
def y0r{X:Cx}{L:Ñ}{x:Ç}{p d f:Pos}{i:Ä}(O:X.N[i]?=À x)(hv:jQ ϟ x)(P:Ì Ģ q10)(u:Ì þb q10)(j:Ì ĝg q12)(k:Ì ķk q12) :PI X L (.Call (.Attribute þa "values" d) [] [] f) (z1h i):=by
 intro J s σ H R I B;let{a,o,l,U,e,B}:=B;show Ţe j k (zn (Zh (pos:=p) O hv P u J s σ H (λv m=>v=.ref a/\m=H) I {_,U,rfl,rfl}) λv c ⟨y,m,t,Z,e1,e2⟩=>?_);subst e1 e2;cases(show v=ÿ a from Z);let{g,_,_,_,_,o',es,ep,E,_,h,_}:=(show yj ì X.w m Řc a (.zz o (.dK l))from t.zU a _ e);rw[g]at E;cases E;let{W,z,C,G}:=VQ t.zU e h;let Y:Ņ=Ϲa:=ja C;let n:ĭh Ŗb a z:=G.dictOf
 let K:∀b,ÿ a=.ref b->∃r,Íd b=À r/\r.dict=Â:=λb q=>by cases q;let{r,_,_,T,S,_}:=n;show{r,T,S.2.1}
 show{ϗ,_,Że,Ŷe,ļk,n.typeIs,K,żc rfl Ŗi};show ťd Ŷe n.typeIs Ħk ík (Ũl Ŗb a W) {{z,n},?_};let A:zD X J σ m { c with ä:=Ϩd { cls:=.type Ĥh,Č:=.fields #[.ref a] } }:=t.kept (t':=ŗc) λb o e=>Ġ _ e
 show wpAny_pyIter_values (knd:=yl ì X.w) (s:={ c with ä:=Ϩd { cls:=.type Ĥh,Č:=.fields #[.ref a] } }) {_,ť _ rfl,rfl,rfl} (G.push _) ?_;rw[Y];show{_,[_],_,_,m,rfl,A.kept (t':=ŗc) λb o e=>Ġ _ e,x0p a _ h,{_,ť _ rfl,rfl,rfl},λb Q=>?_,B};let e:=źa Q;subst e;show A.ZG ğ (A.zU.fresh ğ)
#print L2
namespace L3
open č Ĕ ł ď L2
nonrec def QV(i:Ä):FA:=λτ=>match τ[i]? with
 |À (À (Å,.dic _ ds))=>À ds|_=>Â
def sK(i:Ä):YC i (QV i):=λτ x a=>by
 unfold QV at a
 rw[ţp]
def iE{ks:Á zR}{vs:Á V}{i:Ä}{k:zR}{v:V}(h:İa[i]?=À (k,v)):ks[i]?=À k/\vs[i]?=À v:=by rw[List.getElem?_zip_eq_some]at h;show h
def sS{K:Ï}{G:Hp}{a:Ë}{o:Obj}{ks:Á zR}{ds:Á D}{vs:Á V}(j:ŉ=ø)(e:G a=À Íh)(g:å K G ds vs):jR K (Dk a o İa) G ds where
 go:=λi h H b c f=>{c _ _ ϡo,by rw[ìa,j,ća,Ęa];show f}
 vw:=λi h H x p b c f y=>by let{rfl,k,m}:=y;let{d,l,n}:=g.at (iE m).2;show{h,d,āa c,l,n.mono b}
 ϡa:=λi h H b c f=>{c _ _ ϡo,by rw[ìa,j,ća,Ęa];show f}
def y52(n:X.N[i]?=À x)(hv:jQ ϟ x)(r:Ì Ģ q10)(f:Ì þb q10)(b:Ì ĝg q12)(c:Ì Ņa q12):O2 X i tg Ϧj (QV i):=by show{{_,y0r n hv r f b c,λ{t v G H τ σ u R} K l d q=>?_}};let{a,o,w,h,y,k,g,e,m,j,s}:=l;unfold QV at d;rw[k]at d;cases d;show{a,o,_,g,Âa _ _ e,q _ _ _ Õe s (sS m e j)}
def sJ(h:YC i fs):YC i (wf n fs fg ft f):=λτ x a=>by let{b,c,_}:=zC a;show h τ b c
section
variable{X:Cx}{i:Ä}{tg Ŝ elt:Ñ}{ifs:Á Ñ}{ĳ:ϭ}{cl:Á ύa}{own:Á Ç}{pos:Pos}{fs:FA}{fg:FG}{ft:FT}{f:FE}{g:TG}
def y4t(a:ż=Ã)(B:Y9 X ĳ cl own)(hi:O2 X i tg Ŝ fs)(m:BG X ĳ cl own tg g fg)(v:∀C s H fp pn,Xf Êa ifs ft)(u:∀C s H fp pn,SE Êa elt f)(n:Ì (∀x,Úb Ŝ Ó x=pure x) q11) :SM X i ϥa Ϣe:=by
 let{L,z,r}:=ύb;show{{_,cC a B z (θb (m.q C s H fp pn)) (χa (v C s H fp pn)) (ζb ďm) n,λ{S P G H τ σ d Q} K E b q=>?_}};let{T,t,b}:=zC b;let{o,I,b}:=zC b;cases b;show r K E t λJ N R j l A=>O_ A l ďe I (m.k K.l2 K.l1) λy O U c F w p e=>?_
 show q p _ _ (j.trans Ĳl) (j.h.free (ňi e)) (ëi e) {y,yE,F,w}
#print a
#print L3
namespace L2
open č Ĕ ł ď
def Dh(a:Ë)(o:Obj)(kvs:Á Ϙ):It:={λi H=>H a=À Ϟ/\i<Ķ,λi H v b=>∃p k u,H p=Â/\v=.ref p/\kvs[i]?=À (k,u)/\b=upd H p āh,λi H=>H a=À Ϟ/\Ķ<=i}
def x0o{P:à}{w:ß}{K:Ï}{C:Á Ñ}{S:Ä}{pos:Pos}{kvs:Á Ϙ}{o:Obj}{es:Ú ġb}{ep:Ä}(a it:Ë)(d:Ϛ=.dict es ep) :g8 P w K (.Tuple C S pos) ĳn ϑb it (λi h=>∃ok ov,IsItemIter h it a i Ķ ep ok ov) where
 mem:=by simp
 obj:=λi h st b hb=>by
  let e:b=it:=by simpa using hb
  subst e;let{ok,ov,g}:=st;show{_,g,λv q=>nomatch q}
 ēa:=λi h h' st k=>by let{ok,ov,g}:=st;show{ok,ov,k it ü _ g}
 Ůa:=by
  rw[Úp];let hi:i<ϑa:=by rw[r];show x.2
  let G:f[i]?=À (f[i].1,f[i].2):=ļ hi;let{u,hk,ru}:=EM l G;let m:it<Ý:=Ğ g;rw[<-r]at g;show wpAny_pyNext_items_item g dd G λn T B ho ht hz hk1=>?_
  show{_,rfl,wpAny_letOwnedTupleGo_items (s:={ s with ä:=T }) ho λF t j=>?_}
  replace j:ϰa it T F:=j
  let Z:ö Ý=Â:=by
   cases q:ö Ý with
   |Â=>rfl|À o=>show Þ ĕe Åa
  let A:H Ý=Â:=ďb ğ;let L:F.get? Ý=À { cls:=.type Œ,Č:=.seq #[n,f[i].2] }:=j.extBut _ _ (ϋa m) ht
  let S:∀c o,c ∉ ϑb->ö c=À o->F.get? c=À o:=λc o p z=>by
   let y:c≠it:=λq=>p šk
   show j.extBut _ _ y (hk1 c o y z)
  let N:yj ì X.w (upd H Ý ϓg) F Ý ϓg:={Ťg,[n,f[i].2],.cons (aV B) (.cons ru .nil),{_,L,rfl,_,rfl}};rw[r]at t;show{.ref Ý,upd H Ý ϓg,I.BW (tk:=ě) J S Z A N,rfl,{Ý,_,u,A,rfl,hk,rfl},{n,_,t},λc p=>?_};rw[zr];show(J c p).1;intro q;let e:c=it:=by simpa using p
  rw[e]at q;rw[q]at m;show Þ m Åa
 done:=by rw[Úp];let G:f[i]?=Â:=ăb (by rw[r];show x.2);rw[<-r]at g;show wpAny_pyNext_items_end (Ĝa p) g dd G λT U=>{rfl,I.but (tk:=ě) J λc ob R eb=>U c ob (λq=>R šk) eb}
 úb:=λ_ _ _ _ _ st h=>by let{ok,ov,g}:=st;show W.kcp_self g h
def z1g(i:Ä):TI:=λσ H R=>∃a o kvs,σ[i]?=À Ŧb/\H a=À Ϟ/\R ĳn H
def y0q{X:Cx}{l:Á Ñ}{W:Ä}{n:Pos}{x:Ç}{p d f:Pos}{i:Ä}(P:X.N[i]?=À x)(hv:jQ ϟ x)(Q:Ì Ģ q10)(A:Ì þb q10)(j:Ì Ůj q12)(k:Ì ķk q12) :PI X (.Tuple l W n) (.Call (.Attribute þa ña d) [] [] f) (z1g i):=by
 intro L s σ H R I E;let{a,o,m,Y,e,E}:=E;show Ţe j k (zn (Zh (pos:=p) P hv Q A L s σ H (λv r=>v=.ref a/\r=H) I {_,Y,rfl,rfl}) λv c ⟨y,r,z,r1,e1,e2⟩=>?_);subst e1 e2;cases(show v=ÿ a from r1);let{g,_,_,_,_,o',es,ep,J,_,h,_}:=(show yj ì X.w r Řc a (.zz o (.dK m))from z.zU a _ e);rw[g]at J;cases J;let{Z,B,G,K}:=VQ z.zU e h;let ln:Ŀc=ée:=ja G;let t:ĭh Ŗb a B:=K.dictOf
 let O:∀b,ÿ a=.ref b->∃u,Íd b=À u/\u.dict=Â:=λb q=>by cases q;let{u,_,_,U,T,_}:=t;show{u,U,T.2.1}
 show{ϗ,_,Że,œk,PySem.F.type_dict_items,t.typeIs,O,żc rfl Ŗi};show ťd œk t.typeIs PySem.F.entry_dict_items (PySem.F.args_dict_items_1 _) (meets_dict_items Ŗb a Z) {{B,t},?_};let C:zD X L σ r { c with ä:=Ϩd { cls:=.type ßn,Č:=.fields #[.ref a] } }:=z.kept (t':=ŗc) λb o e=>Ġ _ e
 show wpAny_pyIter_items (knd:=yl ì X.w) (s:={ c with ä:=Ϩd { cls:=.type ßn,Č:=.fields #[.ref a] } }) {_,ť _ rfl,rfl,rfl} (K.push _) ?_;rw[ln];show{_,[_],_,_,r,rfl,C.kept (t':=ŗc) λb o e=>Ġ _ e,x0o a _ h,{_,_,ť _ rfl},λb S=>?_,E};let e:=źa S;subst e;show C.ZG ğ (C.zU.fresh ğ)
#print L2
namespace L3
open č Ĕ ł ď L2
def WE(ks:Á zR)(ds:Á D):Á D:=Ğc (λk d=>Ŀe [Vi k,d]) ks ds
def QU(i:Ä):FA:=λτ=>match τ[i]? with
 |À ůg=>if Øg W8=Ã then À úo else Â|_=>Â
def sI(i:Ä):YC i (QU i):=λτ x a=>by
 unfold QU at a
 rw[ţp]
def sG{K:Ï}{G:Hp}{a:Ë}{o:Obj}{ks:Á zR}{ds:Á D}{vs:Á V}(z:ŉ=ø)(e:G a=À Íh)(l:å K G ds vs)(h:Øg W8=Ã):jR K (Dh a o İa) G úo where
 go:=λi j H g c b=>{c _ _ ϝo,by rw[ŉp]}
 vw:=λi j H x w g c b y=>by let{p,k,u,m,rfl,s,rfl}:=y;let{f,q}:=iE s;let{d,r,t}:=l.at q;show{upd j p āh,.tup [Vi k,d],Äb c m,?_,?_};unfold WE;rw[Ÿg,f,r];let v:zg G (upd j p āh):=Łc (wP (c.free m) _);show{p,[kV k,u],rfl,Ļb yE,{_,_,rfl,aW (ŋa h k (ϟb f)),{u,_,rfl,áj v,rfl}},L2.small (n:=2) Û}
 ϡa:=λi j H g c b=>{c _ _ ϝo,by rw[ŉp]}
def y51(t:X.N[i]?=À x)(hv:jQ ϟ x)(u:Ì Ģ q10)(h:Ì þb q10)(b:Ì Ůj q12)(f:Ì Ņa q12):O2 X i (.Tuple elts kk øc) (.Call (.Attribute þa ña ž) [] [] Ų) (QU i):=by
 show{{_,y0q t hv u h b f,λ{w y G H τ σ r R} K n d q=>?_}};let{a,o,j,g,z,m,k,e,s,l,v}:=n;unfold QU at d;rw[m]at d
 change (if j.all W8=Ã then À (WE j g)else Â)=À r at d
 by_cases c:j.all W8=Ã;rw[Ö c]at d;cases d;show{a,o,_,k,Âa _ _ e,q _ _ _ Õe ?_ (sG s e l c)};unfold WE;rw[Ϣb];show Ĳ Òe v;rw[Ø c]at d;cases d
#print L3
namespace L2
open č Ĕ ł ď
def z4f(a d:Value):Üg ϛa {[a],[(Űd,d)]}:=by unfold Üg;kernel_rfl
section
variable{Ā:à}{w:ß}{A:è}{R:Ĵb->Í->Æ}{I:Ë}{fp wr:Á Ë}{n:Ä}{P:Ä->Value->Æ}{St:Ä->Heap->Æ}{kw:Á Ėb}
def LJ:(toString ϛa ++ toString ".loop" : Ż) = Ϥh:=by decide
theorem EY(W:ĵd Ā w ľ I fp wr n P St)(r:Ä->Ä->Ò)(l:CmpOf Ā w ľ .Gt P r)(S:Ë)(p:S ∉ fp):∀(k j:Ä)(s:Í)(vb:Value)(c:Ä),n-ϵ=k->j+1<=n->St ϵ Ü->P āi vb->
  ö S=À { cls:=.type Ĝ,dict:=Â,Č:=.seq #[vb,vb] c,ϋb:=#[] }->(∀v h' tk,P (ĸc r (n-1)) v->(∀b o,b ∉ wr->b≠S->ö b=À o->ė b=À o)->R Ϻo { s with ä:=h',Ě:=tk })->
  ďa æ A (.builtin Ϥh {ϝk,kw}) R s
 |k,j,s,vb,c,hk,hj,hst,hPb,hS,hR=>by
  let y:S ∉ wr:=λh=>p Ϝh
  show Ăb ũk ?_;rw[āc ώc _]
  change Õ _ ľ ŭe _ _ s
  show Ð (Źa hS rfl ?_)
  change Õ _ ľ œe _ _ s
  match k,hk with
  |0,hk=>
   let z:j+1=n:=by omega
   show Ð (Ϟb (ïj s _ _ (z▸hst) λh' tk d=>?_));let g:=d S _ y hS
   change Õ _ ľ (ηb Çi) _ _ _
   show Ð (ϑc g rfl źo);show hR vb _ tk (by rw[<-z];show hPb) λb o a f e=>(ϭm).trans Ĕf
  |k+1,hk=>
   let x:j+1<n:=by omega
   show Ð (Ϟb (Þg ϵ s _ _ x hst λv h' tk E q d=>?_));let g:=d S _ y hS
   change Õ _ ľ (tryCatch (holding [v,v] (richCompare .Gt v vb >>= _)) _ >>= _) _ _ _
   show Ð (Ϟb (ŉa (Ð (l ϵ āi v vb _ _ _ E hPb (Ð (ŉa (ϋc źo)))))));cases hb:r ϵ āi with
   |Ã=>simp only[ĭ];show Ð (ϑc g rfl (Ð (ře ?_)));rw[LJ];refine ċ {ϡb ώc _,EY W r l S p k ϵ _ v _ Î x (Ϝi _ _ _ q λb B o e=>?_) (by simp only[ĸc,hb,ĭ];show E) (ňb _ g rfl) λC u i t m=>?_};show(ι (λh:S=b=>p (by rw[h];show B))).trans e;show hR C u i t λb o a f e=>m b o a f ((ϭm).trans Ĕf)|Å=>simp only[Òa,ŕ];show Ð (ře ?_);rw[LJ];refine ċ {ϡb ώc _,EY W r l S p k ϵ _ vb c Î x q (by simp only[ĸc,hb,Òa,ŕ];show hPb) g λC u i t m=>?_};show hR C u i t λb o a f e=>m b o a f Ĕf
def z4g(W:ĵd Ā w ľ I fp wr n P St)(u:Ä->Ä->Ò)(k:CmpOf Ā w ľ .Gt P u)(S:Ë)(f:S ∉ fp)(p:St 0 Ü)(C:ö S=À { cls:=.type Ĝ,dict:=Â,Č:=.seq #[] c,ϋb:=#[] })(B:∀v h' tk,ϖn->(0<n->P (ĸc u (n-1)) v)->(∀b o,b ∉ wr->b≠S->ö b=À o->ė b=À o)->R Ϻo { s with ä:=h',Ě:=tk }) :ďa æ A (.builtin Ϥh {ϝk,ğf}) R s:=by
 let r:S ∉ wr:=λh=>f Ϝh
 show Ăb ũk ?_;rw[āc ώc _]
 change Õ _ ľ ŭe _ _ s
 show Ð (Źa C rfl ?_)
 change Õ _ ľ œe _ _ s
 by_cases hn:n=0;subst hn;show Ð (Ϟb (ïj s _ _ p λh' tk d=>?_))
 change Õ _ ľ (rule _ >>= _) _ _ _
 show Ð (Ĉc Śa);show B dv _ tk (λ_=>rfl) (λz=>Þ z Åa) λb o a g e=>d b o a e;let q:0<n:=by omega
 show Ð (Ϟb (Þg 0 s _ _ q p λv h' tk E l d=>?_));let i:=d S _ r C
 change Õ _ ľ (ηb (λ_=>#[v,v])) _ _ _
 show Ð (ϑc i rfl ?_);rw[LJ];show ċ {ϡb ώc _,EY W u k S f _ 0 _ v _ rfl q (Ϝi _ _ _ l λb x o e=>?_) E (ňb _ i rfl) λG y j t m=>?_};show(ι (λh:S=b=>f (by rw[h];show x))).trans e;show B G y j (λz=>Þ z hn) (λ_=>t) λb o a g e=>m b o a g ((Ϭm).trans Ĕf)
#print a
section
variable{Ā:à}{w:ß}{A:è}{E:Value->Í->Æ}{s:Í}
def x0k{a:Ż}{b:Ϣi}{ų:Á Value}{c:Á Ėb}{Q:Value->Í->Æ}(hk:Őn a=Â)(j:plainId a=Ã)(h:Ńi table a=À b)(i:Üg a {ų,c})(g:Õ æ ľ (b {ų,c}) (λfin s'=>match fin with
   |.done f=>(match(Except.ok f:Ĵb)with|.ok Ïe=>Q v s'|.ok _=>í|.error e=>E e s')
   |.again c'=>c'.quiet=Ã/\ďa æ A c' (λr s'=>match r with|.ok Ïe=>Q v s'|.ok _=>í|.error e=>E e s') s') E s):Õ æ A (Ħa (.builtin a) ų c) Q E s:=by
 show Ϥc (œg j h ?_);simp only[Õh,hk];cases hsig:Manifest.signature? a with
 |Â=>show ċ g|À sig=>
  let d:Bind.checkArgs a sig {ų,c}=pure ():=by simpa only [Üg,hsig]using i
  simp only[d];show ċ g
def rF
  (h:Õ æ ľ (Ġd x) (λit s₂=>∃I fp wr n P St bt,it=.ref I/\ĵd Ā w ľ I fp wr n P St/\St 0 s₂.heap/\(∀b∈fp,b<Ϛg)/\CmpOf Ā w ľ .Gt P bt/\
   ∀v h' tk,ϖn->(0<n->P (ĸc bt (n-1)) v)->(∀b o,b ∉ wr->s₂.heap.get? b=À o->ė b=À o)->Q v { s₂ with ä:=h',Ě:=tk }) E s) :
  Õ æ A (Ħa żm [x] ğf) Q E s:=by
 show x0k PySem.F.kind_max PySem.F.plain_max PySem.F.entry_max (z4f _ _) ?_
 change Õ _ ľ (ŏg ϛa Ũn 0 {[],ğf} >>= _) _ _ s
 show Ð (ϰe (show ŏg ϛa Ũn 0 {[],ğf}=pure [Â,À dv]from rfl) ?_);show Ð (χ (υd (λit s₂ l=>?_)));let{I,fp,wr,n,P,St,bt,rfl,W,f,g,a,k}:=l;show Ð (ÿb ?_);let d:Ϛg ∉ fp:=λm=>Ïb _ (g _ m)
 rw[LJ];show ċ {ϡb ώc _,z4g W bt a Ϛg d ϩj řb λv h' tk i p j=>?_};show k v h' tk i p λb o c e=>j b o c Öe Øe
#print a
section
variable{X:Cx}
nonrec def Ye:Á Ê->Ê
 | []=>0|x::xs=>åe Łd x
theorem b9:∀(xs:Á Ê)(x:Ê),(åe Łd x=x\/åe Łd x∈xs)/\x<=åe Łd x/\∀y∈xs,y<=åe Łd x
 | [],x=>{.inl rfl,Öa _,λy h=>Þ h ü}|z::xs,x=>by
  let{a,b,c}:=b9 xs űg;let e:x<=if x<z then z else x:=by rw[Şp]
  let f:z<=if x<z then z else x:=by rw[Şp]
  show{?_,Ϻb e b,λy d=>?_};rcases a with a|a;by_cases q:x<z;rw[Ö q]at a
  right
  exact Õd _ űg xs∈z::xs;rw[Ö q,a];show Ō;left
  rw[Ø q]at a;exact Õd _ űg xs=x;rw[Ø q,a];show .inr Či;rcases ř d with rfl|d;show Ϻb f b;show c y d
def z3g(h:xs≠[]):Ye xs∈xs/\∀y∈xs,y<=Ye xs:=by
 cases xs with
 |nil=>show Þ rfl h|î x xs=>let{a,b,c}:=b9 xs x;show{?_,λy d=>?_};rcases a with a|a;exact Õd _ x xs∈_;rw[a];show Ō;show Ϲ _ a;rcases ř d with rfl|d;show b;show c y d
def z3h(h:m∈xs)(c:∀y∈xs,y<=m):m=Ye xs:=by let{a,b}:=z3g (xs:=xs) (λz=>by rw[z]at h;show Þ h ü);let:=b m h;let:=c _ a;omega
def y78(K:Ï)(c d:TE):TE:=λσ H Q=>c σ H λx b=>d σ b λz a=>∃(p:Ë) (ns:Á Ê),x=.ref p/\yQ K a p Œa/\Q Ϻj a
def cZ(K:Ï)(x:V)(Q:VK):Á V->Hp->Æ:=λb a=>match b with
 | [z]=>∃(p:Ë) (ns:Á Ê),x=.ref p/\yQ K a p Œa/\Q Ϻj a|_=>í
def y1f(K:Ï)(d:TE)(σ:St)(Q:VK):Á V->Hp->Æ:=λa b=>match a with
 | [x]=>d σ b λz c=>cZ K x Q [z] c|_=>í
def y0b(f:ż=Ã)(hg:Gl X ϛa)(hm:â ϛa=Â)(ha:PE X a ta)(hd:PE X e td)(C:Ì Ľg q12) :PE X (.Call Ün [a] Ϸl pos) (y78 X.K ta td):=by
 intro Y s σ H Q I h;let pa:PA X [a] (WU ta gT):=bu ha Zg C;let pk:PK X Ϸl (WU td gT):=y10 hd y11;show ϙb (X_ I hg hm oY ?_);show PyProof.Rows.callWith_kw (zn (pa pos Y s σ H (y1f X.K td σ Q) I h) λus s1 ⟨vs,H1,I1,P,N⟩=>?_) Ŵm Ŵm
 match vs,P,N with
 | [x],P,N=>
  let{u,rfl,ru}:=vg P;show zn (pk pos Y s1 σ H1 (cZ X.K x Q) I1 N) λws A ⟨zs,T,B,E,F⟩=>?_
  match zs,E,F with
  | [z],E,F=>
   let{dv,rfl,Z}:=vg E;let{l,c,rfl,hq,q}:=F;cases(show u=ÿ l from ru);let O:=B.ok.hd f;let{d,J,L,hz}:=B.list hq;let W:Ϻa=ĉh:=by let:=J.length;rw[þ]at this;rw[đ];show this
   let r:l<Üh:=by let{o,n,e,_}:=L;show Ğ e
   show rF ?_;show Ąc L.isList ?_;refine{_,_,_,_,_,_,_,rfl,ϲh (by show O) Üh l (Ŕ r) d.toArray,{{_,ť _ rfl,rfl,rfl},L.isList.push _},?_,CmpOf.ints_gt śm (λi v hv=>Md J hv),?_};intro b S;exact b<(A.heap.push _).objs.size;rw[ßb];simp only[Ŕa,Óa,ša]at S;rcases S with rfl|rfl;show Āb _;show Ōb r;intro v h' U h0 hP k
   let kp:∀b o,A.heap.get? b=À o->ė b=À o:=λb o R=>k b o (λz=>by
    let:b=Üh:=by simpa using z
    rw[this]at R;show Þ (Ğ R) Åa) (Ġ _ R)
   by_cases e0:c=[];rw[Ö e0]at q;have:v=dv:=h0 (by rw[<-W,e0];rfl);subst this;show{z,T,B.kept (t':=U) kp,Z,q};rw[Ø e0]at q;let w:0<Ϻa:=Řk e0;have G:=hP (by rw[<-W];show w);let{t,rfl}:=Md J G;let{b1,b2}:=argBest_gt śm (ĉh-1);generalize ĸc (λi j=>decide (Če i 0>Če j 0)) (ĉh-1)=m at *;let g:m<Ϻa:=by omega
   let em:Če m 0=Ye c:=by
    show z3h ?_ λy hy=>?_;rw[Ñb,ļ g];show Âf g;let{j,hj,rfl}:=ŗk hy;let:=b2 j Î
    rwa [Ñb,ļ hj]at this
   show{.int (Ye c),T,B.kept (t':=U) kp,{t,by rw[<-em]},q}
#print a
#print L2
namespace L3
open č Ĕ ł ď L2
nonrec def Vf:Á D->É Ŏf
 | []=>À []|.int i::r=>(Vf r).bind λa=>À (i::a)|_::_=>Â
theorem EE{K:Ï}{G:Hp}:∀{xs:Á D}{ns:Á Ê}{vs:Á V},Vf xs=À ns->å K G xs vs->vs=Þb Ķd
 | [],ns,vs,h,r=>by cases h;show(show vs=[]from r)|.int i::xs,ns,vs,h,r=>by let{d,b,h}:=zC (show(Øj).bind _=_ from h);cases h;let{v,e,rfl,c,a}:=r;cases(show v=.int i from c);rw[EE b a];rfl
 |.zI::_,_,_,h,_=>by cases h|.bl _::_,_,_,h,_=>by cases h|.str _::_,_,_,h,_=>by cases h|.tup _::_,_,_,h,_=>by cases h|.lst _::_,_,_,h,_=>by cases h|.dic _ _::_,_,_,h,_=>by cases h|.exc _::_,_,_,h,_=>by cases h|.obj _ _ _::_,_,_,h,_=>by cases h
def Ah:D->D->É D
 |.lst xs,z=>(Øj).bind λa=>À (if a=[]then z else .int (Ye a))|_,_=>Â
def y4g{X:Cx}{a e:Ñ}{o n:FE}{p J pos:Pos}(f:ż=Ã)(y:Gl X ϛa)(O:â ϛa=Â)(K:SE X a o)(A:SE X e n)(r:Ì Üd q12):SE X (.Call Ün [a] [{À Űd,e,J}] pos) (e2 Ah o n):=by
 let{W,R,C}:=K.h;let{Y,I,t}:=A.h;show{{_,y0b f y O R I (vS r),λ{Z T G H τ σ d Q} E b q=>?_}};let{x,F,b}:=zC b;let{z,B,b}:=zC b;show C E F λv S H1 g P=>?_
 show t (Ϯ g) B λu j m i L=>?_
 cases x with
 |lst xs=>let{k,w,b}:=zC b;cases b;let{l,U,rfl,N,s,_}:=P;let e:=EE w s;subst e;show{l,k,rfl,wv (g.gh.trans i.h) N,?_};by_cases c:k=[];rw[Ö c];rw[Ö c]at q;show q u j m (Łc i) L;rw[Ø c];rw[Ø c]at q;show q _ j m (Łc i) rfl
 |_=>cases b
nonrec def OR:Á D->É D
 | [.dic ks _]=>À (.int ŉ)|_=>Â
def rA:wM X Ϫc Ńj:=by intro g s σ H xs e Q I r h;let{a,kvs,rfl,b,q}:=h;let{u,rfl,d}:=vg r;cases d;show sB I b λt f c=>{.int Ķ,H,c,{t,rfl},q}
def z8e{K:Ï}:ZM K Ńj OR:=λG H g j d Q s r b q=>by
 rcases g with _|⟨x_,r_⟩;cases b
 cases x_<;>first|(cases b;done)|skip
 cases r_<;>first|(cases b;done)|skip
 rename_i l xs;cases b;let{v,e,rfl,h,c}:=r;cases(show e=[]from c);let{a,j,rfl,f,i,k,_}:=h;show{a,_,rfl,f,?_};rw[ìa,<-i,ća];rw[şp]
abbrev YD:=zw->É Ļh
structure SX(X:Cx)(e:Ñ)(f:YD):Æ where
 h:∃t,QX X e t/\∀{G0 H0 G H:Hp}{τ:zw}{σ:St}{r:Sum ð Ç} {Q:VK} {E:XK},zi X.K ê G0 H0 G H τ σ->f τ=À r->(match r with
  |.inl (Å,d)=>∀v G' H',zK G H G' H'->zT X.K G' d v->Q v H'
  |.inl (Ã,d)=>∀p G' H',zK G H G' H'->H p=Â->G' p=Â->wC X.K G' H' d p->Q ύ H'
  |.inr x=>vz â G H E x)->t σ H Q E
nonrec def UH(F:FX)(a:FA):YD:=λτ=>(įe).bind λb=>F b
section
variable{X:Cx}{j k i:Ä}{f x n z g:Ç}{C:Ë}{F:FX}{fc:FE}{c e b:Ñ}{p p1 pos:Pos}
def z1f{A:è}{k:Ä}(a:qL k A):äa+1<ϒ:=by let:=a.un;omega
def aF{A:è}{k:Ä}(a:qL k A):äa+7<ϒ:=by let:=a.un;omega
nonrec def vC(z:Ç)(b:Ò):D->É D
 |.exc x=>if x=z then À ób else Â|_=>Â
def aQ{K:Ï}{G:Hp}{d u:D}{v:V}{b:Ò}(e:Ē K õ z=À š)(c:vC z b d=À u)(r:zT K G d v):u=.bl b/\∃a,v=.ref a/\G a=À Ϫa:=by
 cases d with
 |exc w=>
  change (if w=z then À (üc b)else Â)=À u at c
  by_cases ez:w=z;rw[Ö ez]at c;cases c;subst ez;let{a,h,rfl,f,g}:=r;rw[Ģp];show{rfl,a,rfl,g};rw[Ø ez]at c;cases c
 |_=>cases c
def ui{B:Ë}{y:Ç}{b:Ò}(s:Gl X ăa)(i:â ăa=Â)(j:Ē X.K õ z=À š)(F:qG X.K C)(I:wm X.K â y B)(f:Gl X y)(n:ç X.K ú Èc=À b)(o:SE X e fc)(l:Ì ϥ q12)(c:Ì ńg q10) :SE X Ĩg Îm:=by
 let{t,w,k}:=o.h;refine{{_,(Yo AC s i OD (gP {w} (Κb (GJ I.lO f c)) l) Û Û (by rw[Ő,l];rfl)).h,λ{L O G H τ σ d Q} E g q=>?_}};let{u,m,g}:=zC g;show k E m λv J N x r=>?_
 let{rfl,a,rfl,A}:=aQ j g r;show{a,C,_,_,b,rfl,ϸ _ _ A,F,rfl,n,q _ _ _ x rfl}
def KO{y:Ç}{T:Ż}{b:Ò}(A:Gl X ăa)(j:â ăa=Â)(l:Ē X.K õ z=À š)(I:qG X.K C)(f:Gl X y)(i:â y=Â)(hv:Ś y=À ėa)(o:ç X.K ú ėa=À b)(s:SE X e fc)(m:Ì ϥ q12)(w:Ì (y ≠ Ęf) q10)(c:Ì ńg q10) :SE X Ĩg Îm:=by
 let{t,B,k}:=s.h;refine{{_,(Yo AC A j OD (gP {B} (Κb (cf f i hv w c)) m) Û Û Œl).h,λ{L O G H τ σ d Q} E g q=>?_}};let{u,n,g}:=zC g;show k E n λv J N x r=>?_
 let{rfl,a,rfl,F}:=aQ l g r;show{a,C,_,_,b,rfl,ϸ _ _ F,I,rfl,o,q _ _ _ x rfl}
#print a
#print L3
namespace L3
open č Ĕ ď L2
inductive M where
 |fz (d:D)|own (d:D)|obj (x:Ç) (fs:Á Ç) (ms:Á M)|tab (ks:Á Ş) (ms:Á M)|tp (b:Ò) (ms:Á M)
nonrec def y5x(b:Ò)(ds:Á D):D:=match b with
 |Ã=>.lst ds|Å=>.tup ds
mutual
nonrec def vH:M->D
 |.fz d=>d|.own d=>d|.obj x fs ms=>.obj x fs šb|.tab ks ms=>.dic ks šb|.tp b ms=>y5x b šb
nonrec def ϊb:Á M->Á D
 | []=>[]|m::ms=>vH m::ϊb ms
end
nonrec def ϝ{κ α:Type}[śb κ]:Á κ->Á α->κ->É α
 |k'::ks,v::vs,k=>if k'=k then À v else ϝ ks vs k|_,_,_=>Â
nonrec def u9{κ α:Type}[śb κ]:Á κ->Á α->κ->α->Á α
 |k'::ks,v::vs,k,y=>if k'=k then y::vs else v::u9 ks vs k y|_,vs,_,_=>vs
def KR{κ α:Type}[śb κ]{k:κ}{y:α}:∀{ks:Á κ}{ms:Á α},(u9 ks ms k y).length=ό:=λ{ks}=>by
 induction ks with
 |nil=>intro ms;rfl|î k' ks ih=>
  intro ms;cases ms with
  |nil=>rfl|î y ms=>
   unfold u9
   split;rfl;rw[Ĩ,Ĩ,ih]
inductive xA where
 |at(cs:Á Ç) (f:Ç)|ky (k:Sum Ê Ç)|ix (k:Ä)
def fA:M->xA->É M
 |.obj x fs ms,.at cs f=>if x∈cs then ϝ fs ms f else Â|.tab ks ms,.ky k=>ϝ ks ms k|.tp Ã ms,.ix k=>ϝ Óe ms k|_,_=>Â
def y4m:M->xA->M->M
 |.obj x fs ms,.at _ f,m=>.obj x fs (u9 fs ms f m)|.tab ks ms,.ky k,m=>.tab ks (u9 ks ms k m)|.tp b ms,.ix k,m=>.tp b (u9 Óe ms k m)|m,_,_=>m
def jT:M->Á xA->É M
 |m,[]=>À m|m,s::π=>(fA m s).bind λa=>jT a π
def jA:M->Á xA->M->É M
 |_,[],m'=>À m'|m,s::π,m'=>(fA m s).bind λb=>(jA b π m').bind λa=>À (y4m m s a)
abbrev Ft:=Ë->Æ
def SqB(K:Ï)(G:Hp)(b:Ò)(p:Ë)(vs:Á V):Æ:=match b with
 |Ã=>G p=À áe|Å=>yf K G p vs
def y5v{K:Ï}{G a:Hp}{b:Ò}{p:Ë}{vs:Á V}(g:zg G a)(h:SqB K G b p vs):SqB K a b p vs:=match b with
 |Ã=>g _ _ h|Å=>ve g h
mutual
def yb(K:Ï)(G H:Hp):M->V->Ft->Æ
 |.fz d,v,L=>zT K G d v/\∀q,¬ L q|.own d,v,L=>∃p,v=.ref p/\wC K G H d p/\∀q,L q↔q=p|.obj x fs ms,v,L=>∃p C dx vs L',v=.ref p/\Ē K õ x=À š/\H p=À ũg/\Ķa=ø/\Ŋ K G H ms vs L'/\¬ L' p/\∀q,L q↔q=p\/L' q|.tab ks ms,v,L=>∃p vs L',v=.ref p/\H p=À Ép/\ŉ=ø/\Ŋ K G H ms vs L'/\ό<=á/\¬ L' p/\∀q,L q↔q=p\/L' q|.tp b ms,v,L=>∃p vs,v=.ref p/\SqB K G b p vs/\Ŋ K G H ms vs L/\ό<=á
def Ŋ(K:Ï)(G H:Hp):Á M->Á V->Ft->Æ
 | [],vs,L=>vs=[]/\∀q,¬ L q|m::ms,vs,L=>∃v r L1 L2,vs=v::r/\yb K G H m v L1/\Ŋ K G H ms r L2/\(∀q,L1 q->L2 q->í)/\∀q,L q↔L1 q\/L2 q
end
def ăg{P:M->Æ}(g:∀d,P āe)(own:∀d,P Ðe)(c:∀x fs ms,(∀m∈ms,P m)->P ěh)(f:∀ks ms,(∀m∈ms,P m)->P ķn)(k:∀b ms,(∀m∈ms,P m)->P (.tp b ms))(m:M):P m:=
 M.rec (motive_1:=P) (motive_2:=λms=>∀m∈ms,P m) g own (λx fs ms h=>c x fs ms h) (λks ms h=>f ks ms h) (λb ms h=>k b ms h) Ĺl
  (λd l i a e j=>by rcases ř j with z|z;show z▸i;show a e z) m
nonrec def FQ:HO->Ò
 |.lst _=>Ã|.dK _=>Ã|.ins _ _ _=>Ã|_=>Å
def Bx(H:Hp)(q:Ë):Æ:=∃u,H q=À u/\FQ u=Ã
def Bx.some{H:Hp}{q:Ë}(b:Bx H q):H q≠Â:=by let{u,e,_}:=b;rw[e];show λz=>nomatch z
section
variable{K:Ï}{G H G' H':Hp}
def wC.loc{d:D}{p:Ë}(g:zg G G')(h:H' p=H p)(o:wC K G H d p):wC K G' H' d p:=by
 cases d with
 |lst ds=>let{a,e,r,l}:=o;show{a,Će e,Ģa g,l}
 |dic ks ds=>let{a,e,z,r,l}:=o;show{a,Će e,z,Ģa g,l}
 |_=>show ìc
theorem Êc:∀{ms:Á M}{vs:Á V}{L:Ft},(∀m∈ms,∀v L1,(∀q,L1 q->L q)->yb K G H m v L1->yb K G' H' m v L1)->Ŋ K G H ms vs L->Ŋ K G' H' ms vs L
 | [],_,_,_,h=>h|m::ms,vs,L,f,h=>by let{v,r,L1,b,e,d,a,j,u}:=h;show{v,r,L1,b,e,f m Ō v L1 ųk d,Êc (λc g i k s o=>f c (Ϲ _ g) i k øk o) a,j,u}
theorem yb.loc(g:zg G G')(m:M):∀(v:V)(L:Ft),(∀q,L q->H' q=H q)->yb K G H m v L->yb K G' H' m v L:=by show ăg (P:=λm=>∀v L,(∀q,L q->H' q=H q)->yb K G H m v L->yb K G' H' m v L) ?_ ?_ ?_ ?_ ?_ m;rintro d v L h ⟨r,n⟩;show{Ģa g,n};rintro d v L h ⟨p,e,o,u⟩;show{p,e,Şc g (h p ĩm),u};rintro x I w a v L h ⟨p,C,A,i,t,e,B,k,l,r,n,u⟩;show{p,C,A,i,t,e,B,(Ŕf).trans k,l,Êc Ëk r,n,u};rintro F w a v L h ⟨p,i,t,e,k,l,r,y,n,u⟩;show{p,i,t,e,(Ŕf).trans k,l,Êc Ëk r,y,n,u};rintro b w a v L h ⟨p,i,e,E,r,l⟩;show{p,i,e,y5v g E,Êc (λm j c f s o=>a m j c f Ãm o) r,l}
theorem în:∀{ms:Á M}{vs:Á V}{L:Ft},Ŋ K G H ms vs L->ø=ό
 | [],_,_,h=>by let{rfl,_}:=h;rfl
 |m::ms,_,_,h=>by let{v,r,b,c,rfl,_,a,_}:=h;rw[Ĩ,Ĩ,în a]
theorem wC.bx{d:D}{p:Ë}(o:wC K G H d p):Bx H p:=by
 cases d with
 |lst ds=>let{a,e,_}:=o;show{_,e,rfl}
 |dic ks ds=>let{a,e,_}:=o;show{_,e,rfl}
 |_=>show ìc
theorem ĥc:∀{ms:Á M}{vs:Á V}{L:Ft},(∀m∈ms,∀v L1,yb K G H m v L1->∀q,L1 q->Bx H q)->Ŋ K G H ms vs L->∀q,L q->Bx H q
 | [],_,_,_,h,q,z=>Þ z (h.2 q)|m::ms,vs,L,f,h,q,z=>by let{v,r,L1,i,e,b,a,g,u}:=h;rcases(u q).mp z with z|z;show f m Ō v L1 b q z;show ĥc (λd c=>f d Ŵo) a q z
theorem yb.cells(m:M):∀(v:V)(L:Ft),yb K G H m v L->∀q,L q->Bx H q:=by show ăg (P:=λm=>∀v L,yb K G H m v L->∀q,L q->Bx H q) ?_ ?_ ?_ ?_ ?_ m;rintro d v L ⟨r,n⟩ q z;show Þ z (n q);rintro d v L ⟨p,e,o,u⟩ q z;cases(u q).mp z;show o.bx;rintro x w f a v L ⟨p,C,s,g,h,e,j,c,l,r,n,u⟩ q z;rcases(u q).mp z with rfl|z;show{_,c,rfl};show ĥc a r q z;rintro t f a v L ⟨p,g,h,e,c,l,r,i,n,u⟩ q z;rcases(u q).mp z with rfl|z;show{_,c,rfl};show ĥc a r q z;rintro b f a v L ⟨p,g,e,k,r,l⟩ q z;show ĥc a r q z
theorem JG:∀(ms:Á M),(šb).length=ό
 | []=>rfl|m::ms=>by exact(šb).length+1=_;rw[JG ms];rfl
theorem ïe:∀{ms:Á M}{vs:Á V}{L:Ft},(∀m∈ms,∀v L1,(∀q,L1 q->L q)->yb K G H m v L1->zT K G' ăj v)->Ŋ K G H ms vs L->å K G' šb vs
 | [],_,_,_,h=>h.1|m::ms,vs,L,f,h=>by let{v,r,L1,j,e,c,a,k,u}:=h;show{v,r,e,f m Ō v L1 ųk c,ïe (λb d g i s o=>f b (Ϲ _ d) g i øk o) a}
theorem yb.tQ(g:zg G G')(m:M):∀(v:V)(L:Ft),(∀q,L q->G' q=H q)->yb K G H m v L->zT K G' ăj v:=by
 show ăg (P:=λm=>∀v L,(∀q,L q->G' q=H q)->yb K G H m v L->zT K G' ăj v) ?_ ?_ ?_ ?_ ?_ m;rintro d v L h ⟨r,n⟩;show Ģa g;rintro d v L h ⟨p,rfl,o,u⟩;let c:=h p ĩm;cases d with
 |lst ds=>let{a,e,r,l}:=o;show{p,a,rfl,ła (ϳa e),Ģa g,l}
 |dic E ds=>let{a,e,z,r,l}:=o;show{p,a,rfl,.inl (ϳa e),z,Ģa g,l}
 |_=>show ìc
 rintro x J w f v L h ⟨p,C,B,a,F,e,I,c,l,r,n,u⟩;show{p,C,B,a,e,I,(Ŕf).trans c,l,ïe Êk r};rintro E w f v L h ⟨p,a,F,e,c,l,r,A,n,u⟩;show{p,a,e,.inl ((Ŕf).trans c),l,ïe Êk r,by rw[JG];show A};rintro b w f v L h ⟨p,a,e,y,r,l⟩;let k:=ïe (λm t i j s o=>f m t i j Ãm o) r;cases b with
 |Ã=>show{p,a,e,ła (g _ _ y),k,by rw[JG];show l}|Å=>show{p,a,e,ve g y,k,by rw[JG];show l}
theorem Ïd{κ:Type}[śb κ]{k:κ}{A:M}:∀{ks:Á κ}{ms:Á M}{vs:Á V}{L:Ft},Ŋ K G H ms vs L->ϝ ks ms k=À A->
  ∃v1 L1,ϝ ks vs k=À v1/\yb K G H A v1 L1/\(∀q,L1 q->L q)/\∀{G' H':Hp}{m2:M}{L2:Ft},zg G G'->(∀q,L q->¬ L1 q->H' q=H q)->yb K G' H' m2 v1 L2->(∀q,L2 q->L q->L1 q)->Ŋ K G' H' Ďm vs Őg
 | [],_,_,_,_,e=>by cases e|_::_,[],_,_,_,e=>by cases e|k'::ks,m::ms,vs,L,h,e=>by
  let{v,r,n,y,rfl,x,t,b,u}:=h;unfold ϝ at e;rw[èp];refine{v,n,by unfold ϝ;rw[Ö c],x,λq z=>(ϑ).mpr Ċa,λ{G' H' m2 L2} g i p j=>?_};unfold u9;rw[Ö c];show{v,r,L2,y,rfl,p,?_,λq d a=>b q (j q d ((ϑ).mpr Ÿi)) a,λq=>?_};show Êc (λB _ C E s o=>Şc g B C E λq z=>i q (ο Ĭb) λw=>b q w Ĭb) t;rw[Èq];rw[ϻp];rcases(u q).mp z with z|z;show Þ z w;rw[Ŋp];rw[ϴp];show .inl {(ϑ).mpr ĳa,λw=>b q w z};rw[Ø c]at e;let{v1,L1,e1,F,l,f}:=Ïd t e;refine{v1,L1,by unfold ϝ;rw[Ø c];show e1,F,λq z=>(ϑ).mpr (.inr (l q z)),λ{G' H' m2 L2} g i p j=>?_};unfold u9;rw[Ø c];show{v,r,n,λq=>Šm\/L2 q,rfl,?_,f g (λq z w=>i q Ūd w) p (λq z w=>j q z ((ϑ).mpr ĕb)),λq d a=>?_,λq=>?_}
  show x.loc g m v n λq z=>i q ϊd λw=>b q z Őc;rcases a with⟨a,_⟩|a;show b q d a;show b q d (l q (j q a ((ϑ).mpr żi)));rw[Èq];rw[ϻp];rcases(u q).mp z with z|z;rw[ůp];rintro(z|⟨z,w⟩|z);show .inl {(ϑ).mpr Ċa,λw=>b q z Őc};rw[ϖp]
#print a
def xc(K:Ï)(H:Hp):V->Á xA->V->Æ
 |v,[],u=>u=v|v,.at cs f::π,u=>∃p x C dx fs w,v=.ref p/\x∈cs/\Ē K õ x=À š/\H p=À Ϭa/\ŝb f=À w/\xc K H w π u|v,.ky k::π,u=>∃p kvs w,v=.ref p/\H p=À Ł/\t_ kvs k=À w/\xc K H w π u|v,.ix k::π,u=>∃p vs w,v=.ref p/\H p=À áe/\ϝ Ŧo vs k=À w/\xc K H w π u
theorem L5{κ α:Type}[śb κ][BEq κ][LawfulBEq κ]{k:κ}:∀{ks:Á κ}{vs:Á α},(İa).lookup k=ϝ ks vs k
 | [],_=>rfl|_::_,[]=>rfl|k'::ks,v::vs=>by
  rw[Öb,Ŵd];unfold ϝ;by_cases c:k'=k;subst c;rw[Ö rfl];simp;rw[Ø c];let:(k==k')=Å:=by simpa using λz=>c ğd
  rw[this];show L5
theorem At{α:Type}{k:Sum Ê Ç}:∀{ks:Á Ş} {vs:Á α},ϝ ks vs k=ŗ ks vs k
 | [],_=>by unfold ϝ ŗ;rfl|_::_,[]=>by unfold ϝ ŗ;rfl|k'::ks,v::vs=>by unfold ϝ ŗ;rw[ļp];rw[Ø c,Ø c];show At
section
variable{K:Ï}{G H G' H':Hp}
theorem ϔf(s:zg H H'):∀{π:Á xA}{v u:V},xc K H v π u->xc K H' v π u
 | [],_,_,h=>h|.at cs f::π,_,_,h=>by let{p,x,C,g,j,w,e,c,d,a,l,r}:=h;show{p,x,C,g,j,w,e,c,d,s _ _ a,l,ϔf s r}
 |.ky k::π,_,_,h=>by let{p,b,w,e,a,l,r}:=h;show{p,b,w,e,s _ _ a,l,ϔf s r}
 |.ix k::π,_,_,h=>by let{p,i,w,e,a,l,r}:=h;show{p,i,w,e,s _ _ a,l,ϔf s r}
theorem źb:∀{π:Á xA}{v u u':V},xc K H v π u->xc K H v π u'->u=u'
 | [],_,_,_,h,h'=>Će h'.symm|.at cs f::π,_,_,_,h,h'=>by let{p,x,C,B,E,w,rfl,t,y,g,l,r}:=h;let{m,z,A,o,n,j,e,s,q,a,b,d}:=h';rw[âp]
 |.ky k::π,_,_,_,h,h'=>by rw[īp]
 |.ix k::π,_,_,_,h,h'=>by rw[īp]
theorem ϓf:∀{π:Á xA}{s:xA}{v u:V},xc K H v (π++[s]) u->∃w,xc K H v π w/\xc K H w [s] u
 | [],_,v,_,h=>{v,rfl,h}|.at cs f::π,_,_,_,h=>by let{p,x,C,m,n,w,e,i,j,g,l,r}:=h;let{c,d,b}:=ϓf r;show{c,{p,x,C,m,n,w,e,i,j,g,l,d},b}
 |.ky k::π,_,_,_,h=>by rw[đp]
 |.ix k::π,_,_,_,h=>by rw[đp]
theorem ţf{m1:M}(Y:zg G H):∀{π:Á xA}{m:M}{v:V}{L:Ft},yb K G H m v L->jT m π=À m1->
  ∃v1 L1,xc K H v π v1/\yb K G H m1 v1 L1/\(∀q,L1 q->L q)/\∀{G' H':Hp}{m2:M}{L2:Ft},zg G G'->(∀q,L q->¬ L1 q->H' q=H q)->yb K G' H' m2 v1 L2->(∀q,L2 q->L q->L1 q)->
   ∃m',jA m π m2=À m'/\yb K G' H' m' v Őg
 | [],m,v,L,h,e=>by
  cases e;show{v,L,rfl,h,λ_ z=>z,λ{G' H' m2 L2} g A I o=>{m2,rfl,?_}}
  let e:(λq=>(L q/\¬ L q)\/L2 q)=L2:=by
   funext q
   show ϛf {λz=>Ę (λw=>Þ w.1 w.2) id,.inr}
  rw[e];show I
 |s::π,m,v,L,h,e=>by
  let{N,a,ee}:=zC e
  let O:∀{p:Ë}{t L1 L2:Ft},¬ t p->(∀q,L q↔q=p\/t q)->(∀q,L1 q->t q)->(∀q,L2 q->L q->L1 q)->(¬ ((t p/\¬ L1 p)\/L2 p))/\∀q,((L q/\¬ L1 q)\/L2 q)↔q=p\/((t q/\¬ L1 q)\/L2 q):=λ{p t L1 L2} n u s o=>by show{?_,λq=>{?_,?_}};rintro(⟨z,_⟩|z);show n z;show n (s p (o p z ūe));rw[ϻp];rcases(u q).mp z with z|z;rw[ůp];rintro(rfl|⟨z,w⟩|z);show .inl {(ϑ).mpr Ũ,λw=>n (s q w)};rw[ϖp]
  cases m with
  |fz d=>cases a|own d=>cases a|obj x fs ms=>
   cases s with
   |ky k=>cases a|ix k=>cases a| «at» cs f=>
    change ϕj=À N at a
    by_cases hx:x∈cs;rw[Ö hx]at a;let{p,C,dx,J,t,rfl,ns,F,l,r,n,u}:=h;rw[Ýp];refine{v1,L1,{p,x,C,dx,_,T,rfl,hx,ns,F,by rw[L5];show e1,U},X,λq z=>(ϑ).mpr Üm,λ{G' H' m2 L2} g A I o=>?_};let{m',Q,R}:=P g èk I çk
    let E:=S g Âk R ôk
    let eL:Ũj=Ćk:=by
     funext q
     rw[Íp];rw[Ûp]
    rw[Ϟp];refine{.obj x fs (u9 fs ms f m'),by exact(Ðd ϕj _)=_;rw[Ö hx,a];rw[ōp],p,C,dx,J,_,rfl,ns,?_,l,E,f3,Z};rw[A p ūe λw=>n Èn];show F;rw[Ø hx]at a;cases a
  |tab ks ms=>
   cases s with
   | «at» cs f=>cases a|ix k=>cases a|ky k=>
    change ϝ ks ms k=À N at a
    let{p,J,t,rfl,F,l,r,l2,n,u}:=h;rw[Ýp];refine{v1,L1,{p,_,T,rfl,F,by rw[WX _ l,<-At];show e1,U},X,λq z=>(ϑ).mpr Üm,λ{G' H' m2 L2} g A I o=>?_};let{m',Q,R}:=P g èk I çk
    let E:=S g Âk R ôk
    let eL:Ũj=Ćk:=by
     funext q
     rw[Íp];rw[Ûp]
    rw[Ϟp];refine{.tab ks (u9 ks ms k m'),by exact(Ðd (ϝ ks ms k) _)=_;rw[a];rw[ōp],p,J,_,rfl,?_,l,E,?_,f3,Z};rw[A p ūe λw=>n Èn];show F;rw[KR];show l2
  |tp b ms=>
   cases s with
   | «at» cs f=>cases b<;>cases a|ky k=>cases b<;>cases a|ix k=>
    cases b with
    |Å=>cases a|Ã=>
    change ϝ Óe ms k=À N at a
    let{p,J,rfl,F,r,l}:=h;rw[Ýp];refine{v1,L1,{p,J,T,rfl,Y _ _ F,by rw[ŷ];show e1,U},X,λq z=>i q Įf,λ{G' H' m2 L2} g A I o=>?_};let{m',Q,R}:=P g (λq z w=>A q (i q z) w) I (λq z w=>o q z (i q w))
    let E:=S g (λq z w=>A q z λB=>w Ãg) R (Μc (o q z w))
    let eL:(λq=>(L q/\¬ y q)\/(Šm\/L2 q))=Őg:=by
     funext q
     rw[Íp];rw[Ûp]
    rw[eL]at E;show{.tp Ã (u9 Óe ms k m'),by exact(Ðd (ϝ Óe ms k) _)=_;rw[a];rw[ōp],p,J,rfl,g _ _ F,E,by rw[KR];show l}
#print a
abbrev zb:=Á Àj
nonrec def Ëb:M->É Sl
 |.fz d=>À (Å,d)|_=>Â
def wj(β:zb):zw:=β.map λo=>åj Ëb
def tG(β:zb):zw:=β.map λo=>o.map λm=>(Å,vH m)
mutual
nonrec def tz:D->Ò
 |.zI=>Ã|.bl _=>Ã|.int _=>Ã|.str _=>Ã|.tup ds=>Ŭa ds|_=>Å
nonrec def Ŭa:Á D->Ò
 | []=>Ã|d::ds=>tz d&&Ŭa ds
end
def LL:D->Ò
 |.lst ds=>Ŭa ds|.dic _ ds=>Ŭa ds|_=>Å
structure RP(K:Ï)(H0 G H:Hp)(β:zb)(σ:St)(Ls:Ä->Ft):Æ where
 at_:∀(i:Ä)(m:M),β[i]?=À ϔa->∃v,σ[i]?=À Ϗ/\yb K G H m v Ďj
 dj:∀(i j:Ä)(q:Ë),i≠j->Ls i q->Ls j q->í
 ok:∀(i:Ä)(q:Ë),Ls i q->G q=Â/\H0 q=Â/\Bx H q
structure zc(K:Ï)(n:Ä)(P:Á V)(G0 H0 G H:Hp)(β:zb)(σ:St):Æ where
 ext:zK G0 H0 G H
 l1:σ.length=n
 l2:β.length=n
 lp:ϖ<=n
 pin:∀(i:Ä)(v:V),P[i]?=À v->σ[i]?=À Ϗ
 own:∃Ls,RP K H0 G H β σ Ls
section
variable{K:Ï}{n:Ä}{P:Á V}{G0 H0 G H G' H':Hp}{β:zb}{σ:St}
def Xk{q:Ë}(x:zK G H G' H')(g:G q=Â)(b:Bx H q):G' q=Â/\Bx H' q:=by
 let{u,e,c}:=b;show{?_,u,x.h _ _ e,c};cases z:G' q with
 |Â=>rfl|À o=>rcases Ϟa q (by rw[z];show λw=>nomatch w)with w|w;show Þ g w;rw[e]at w;cases w
def zc.go(E:zc K n P G0 H0 G H β σ)(x:zK G H G' H'):zc K n P G0 H0 G' H' β σ:=by let{k,F}:=ϡ;show{ţn x,į,ħ,Ŵ,Ûa,k,λi m h=>?_,ŭ,λi q z=>?_};let{v,e,o}:=ϛ i m h;show{v,e,Şc x.g m v _ λq z=>?_};let{u,d,_}:=Ęb.2.2;rw[d];show x.h _ _ d;let{a,b,c}:=Ϸ i q z;let{f,j}:=Xk x a c;show{f,b,j}
def z1e{i:Ä}{b:Ò}{d:D}(h:ϸa[i]?=À Òd):b=Å/\β[i]?=À (À āe):=by
 unfold wj at h;rw[Üa]at h;cases e:β[i]? with
 |Â=>rw[e]at h;cases h|À o=>
  rw[e]at h;cases o with
  |Â=>cases h|À m=>
   cases m with
   |fz d'=>cases h;show{rfl,rfl}|_=>cases h
def y80{i:Ä}{b:Ò}{d:D}(h:Çe[i]?=À Òd):b=Å/\∃m,β[i]?=À ϔa/\d=vH m:=by
 unfold tG at h;rw[Üa]at h;cases e:β[i]? with
 |Â=>rw[e]at h;cases h|À o=>
  rw[e]at h;cases o with
  |Â=>cases h|À m=>cases h;show{rfl,m,rfl,rfl}
def Aa{τ:zw}(s:zg G H)(a:σ.length=n)(f:τ.length=n)(h:∀(i:Ä)(b:Ò)(d:D),τ[i]?=À Òd->b=Å/\∃v,σ[i]?=À Ϗ/\zT K G d v):zi K n G H G H τ σ:=
 {āa s,a,f,λi d e=>(h i Å d e).2,λi d e=>(by cases(h i Ã d e).1),λi j d e p _ c=>(by cases(h i Ã d c).1)}
def zc.uV(E:zc K n P G0 H0 G H β σ):zi K n G H G H ϸa σ:=by
 let{c,F}:=ϡ;refine Aa ŵ į (by unfold wj;rw[þ];show ħ) λi b d h=>?_
 let{rfl,a}:=z1e h;let{v,e,r,_}:=ϛ i _ a;show{rfl,v,e,r}
def rl{b c:Hp}{L:Ft}(i:∀q,¬ L q->c q=b q)(j:∀q,L q->Bx b q){a:Ë}{vs:Á V}(h:yf K b a vs):yf K c a vs:=by
 let k:∀{u:HO},FQ u=Å->b a=À u->c a=À u:=λ{u} g e=>by rw[i a λz=>?_];show e;let{w,f,d}:=j a z;rw[Ģp];rw[g]at d;cases d
 rcases h with h|h;rcases h with h|⟨o,h⟩;show .inl (.inl (k rfl h));show .inl (.inr {o,k rfl h});show .inr h
def AL{g j:Hp}{L:Ft}(s:∀q,¬ L q->j q=g q)(y:∀q,L q->Bx g q)(d:D):∀(v:V),tz d=Ã->zT K g d v->zT K j d v:=by
 show Ţc (P:=λd=>∀v,tz d=Ã->zT K g d v->zT K j d v) (λv _ h=>h) (λb v _ h=>h) (λi v _ h=>h) (λx v _ h=>h) ?_ (λc f v t=>by cases t) (λA c f v t=>by cases t) (λx v t=>by cases t) (λx B c f v t=>by cases t) d;rintro c f v t ⟨a,n,e,q,r,l⟩;show{a,n,e,rl s y q,?_,l};let z:Ŭa c=Ã:=t;clear t q l
 induction c generalizing n with
 |nil=>show r|î x c ih2=>let{u,m,rfl,o,p}:=r;let k:(tz x&&Ŭa c)=Ã:=z;rw[ć]at k;show{u,m,rfl,f x Ō u k.1 o,ih2 (λd w=>f d (Ϲ _ w)) m p k.2}
theorem AM{a e:Hp}{L:Ft}(c:∀q,¬ L q->e q=a q)(f:∀q,L q->Bx a q):∀{ds:Á D}{vs:Á V},Ŭa ds=Ã->å K a ds vs->å K e ds vs
 | [],_,_,r=>r|d::ds,_,t,r=>by let{u,i,rfl,g,h}:=r;let b:Ŭm=Ã:=t;rw[ć]at b;show{u,i,rfl,AL c f d u b.1 g,AM c f b.2 h}
theorem zc.tQ(E:zc K n P G0 H0 G H β σ):∃G1,zi K n G1 H G1 H Çe σ/\∀G2 H2,zK G1 H G2 H2->∃G3,zK G H G3 H2/\zc K n P G0 H0 G3 H2 β σ/\(∀d v,tz d=Ã->zT K G2 d v->zT K G3 d v)/\(∀ds vs,Ŭa ds=Ã->å K G2 ds vs->å K G3 ds vs)/\∀q,G2 q=Â->G3 q=Â:=by
 classical
 let{s,F}:=ϡ
 let +zeta L:Ft:=λq=>∃i,s i q
 let p:∀q,L q->G q=Â:=λq ⟨i,z⟩=>Ęb.1
 let y:∀q,L q->Bx H q:=λq ⟨i,z⟩=>Ęb.2.2
 let +zeta G1:Hp:=λq=>if L q then H q else G q
 let e1:∀q,L q->G1 q=H q:=λq z=>Ö z
 let e2:∀q,¬ L q->G1 q=G q:=λq z=>Ø z
 let j:zg G G1:=λq o e=>by rw[e2 q λz=>by rw[p q z]at e;cases e];show e
 let C:zg G1 H:=λq o e=>by rw[Ĥp];rw[e1 q c]at e;show e;rw[e2 q c]at e;show ŵ _ _ e
 refine{G1,Aa C į (by unfold tG;rw[þ];show ħ) λi b d h=>?_,λG2 H2 x=>?_};let{rfl,m,B,rfl}:=y80 h;let{v,e,o}:=ϛ i m B;show{rfl,v,e,o.tQ j m v _ λq z=>e1 q {i,z}};let +zeta G3:Hp:=λq=>if L q then Â else G2 q
 let a:∀q,¬ L q->G3 q=G2 q:=λq z=>Ø z
 let f:∀q,L q->G3 q=Â:=λq z=>Ö z
 let k:∀q,L q->Bx G2 q:=λq z=>by let{u,A,c}:=y q z;show{u,x.g _ _ ((e1 q z).trans A),c}
 let l:zK G H G3 H2:=by
  show{λq o e=>?_,x.h,λq o e=>?_,λq z=>?_};let c:¬ L q:=λz=>by rw[p q z]at e;cases e
  rw[a q c];show x.g _ _ (j _ _ e);rw[Ĥp];rw[f q c]at e;cases e;rw[a q c]at e;show ϸ _ _ e;rw[Ĥp];rw[f q c]at z;show Þ rfl z;rw[a q c]at z;rcases Ϟa q z with w|w;rw[e2 q c]at w;rw[ĥp];show .inr w
 show{G3,l,Ϯ l,λd v t r=>AL a k d v t r,λds vs t r=>AM a k t r,λq z=>?_};rw[Ĥp];show f q c;rw[a q c];show z
def WO{α:Type}{xs:Á α}{x y:α}{i:Ä}(h:ĕi[i]?=À y):(i<ë/\xs[i]?=À y)\/(i=ë/\y=x):=by
 rcases Nat.lt_or_ge i ë with c|c;rw[Òb c]at h;show .inl {c,h};rw[ńb c]at h;cases z:i-ë with
 |ſ=>rw[z]at h;cases h;show .inr {by omega,rfl}|ϊ k=>rw[z]at h;cases h
def vo{α:Type}{xs:Á α}{x:α}{n:Ä}(h:ë=n):ĕi[n]?=À x:=by subst h;rw[ńb ğ,ēb];rfl
def wl{α:Type}{xs:Á α}{x:α}{i:Ä}(h:i<ë):ĕi[i]?=xs[i]?:=Òb h
def zc.push{m:M}{v:V}{L:Ft}(E:zc K n P G0 H0 G H β σ)(o:yb K G H m v L)(k:∀Ls,RP K H0 G H β σ Ls->∀i q,Ls i q->L q->í)(ok:∀q,L q->G q=Â/\H0 q=Â/\Bx H q):zc K ŋ P G0 H0 G H Ġc ąa:=by
 let{Ls,F}:=ϡ;let f:=k Ls F;refine{όb,by rw[źp],by rw[Ϸp],by rw[Çq],λi u h=>?_,λj=>if j<n then Ls j else if j=n then L else λ_=>í,λi l h=>?_,λi j q d b a=>?_,λi q z=>?_};let g:i<σ.length:=by rw[ðp]
 rw[wl g];show Ûa i u h;rcases WO h with⟨c,e⟩|⟨c,e⟩;rw[ħ]at c;let{u,p,r}:=ϛ i l e;refine{u,by rw[wl Čc];show p,?_};rw[Ůp];show r;cases e;rw[ħ]at c;subst c;show{v,vo į,?_};simp only[Ïb,ŕ,ĭ];show o;skip
 rw[ϰp];rw[êp];show ŭ i j q d b a;rw[êp];show f i q b a;show a;rw[ϰp];rw[êp];show f j q a b;rw[êp];show d Î;show a;show b;skip
 rw[ēp];show Ϸ i q z;rw[ēp];show ok q z;show Ę
def zc.qt{d:D}{v:V}(E:zc K n P G0 H0 G H β σ)(r:zT K G d v):zc K ŋ P G0 H0 G H Ϥg ąa:=
 E.push (L:=λ_=>í) {r,λ_ z=>z} (λ_ _ _ _ _ z=>z) λ_ z=>Ę
def zc.Pp{d:D}{p:Ë}(E:zc K n P G0 H0 G H β σ)(x:zK G H G' H')(t:H p=Â)(I:G' p=Â)(o:wC K G' H' d p):zc K ŋ P G0 H0 G' H' Čm ċm:=by
 let{m,F}:=ϡ;let C:=Ϯ x;show{?_,?_,?_,?_,?_,?_}<;>try first|show C.ext|show(by rw[źp])|show(by rw[Ϸp])
 rw[Çq];intro i u h
 let A:i<σ.length:=by rw[ðp]
 rw[wl A];show Ûa i u h;let v:∀i q,m i q->q≠p:=λi q z c=>by subst c;show Ęb.2.2.some t
 show{λj=>if j<n then m j else if j=n then(λq=>q=p)else λ_=>í,λi r h=>?_,λi j q l k f=>?_,λi q z=>?_};rcases WO h with⟨c,e⟩|⟨c,e⟩;rw[ħ]at c;let{u,J,L}:=ϛ i r e;refine{u,by rw[wl Čc];show J,?_};rw[Ůp];show L.loc x.g r u _ λq z=>?_
 rw[ňp];show{p,rfl,o,λq=>ğa};skip
 split at k;rw[Łp];show ŭ i j q l k f;rw[Łp];show v i q k f;show f;split at k;rw[Łp];show v j q f k;rw[Łp];show l Î;show f;show k;skip
 rw[ýp];subst z;show{I,Ϟd t,o.bx};show Ę
def zc.II{m:M}{v:V}{i:Ä}(hi:i<n)(r:ϖ<=i)(f:σ.length=n)(b:β.length=n)(E:zc K ŋ P G0 H0 G H Ġc ąa):zc K n P G0 H0 G H ăi ϵc:=by
 let{l,F}:=ϡ;refine{όb,by rw[Þa];show f,by rw[Þa];show b,by omega,λj u h=>?_,λj=>if j=i then l n else if j<n then l j else λ_=>í,λj p h=>?_,λj k q d c a=>?_,λj q z=>?_};let o:j<ϖ:=öa.1;rw[vd Î];let:=Ûa j u h;rw[ŕp];rcases wd h with⟨rfl,w⟩|⟨d,w⟩;cases w;let{u,e,g}:=ϛ n _ (vo b);rw[vo f]at e;cases e;simp only[ĭ];show{v,jY Î,g};have o:j<n:=by rw[<-b];show(Ť w).1
 let{u,e,g}:=ϛ j p żk;rw[wl Î]at e;simp only[Ø d,Ö o];show{u,by rw[vd d];show e,g};skip
 split at c;rw[êp];show d Î;rw[êp];show ŭ n k q Î c a;show a;split at c;rw[êp];show ŭ j n q Î c a;rw[êp];show ŭ j k q d c a;show a;show c;skip
 rw[ēp];show Ϸ n q z;rw[ēp];show Ϸ j q z;show Ę
def zc.pop{m:É M}{v:É V}(b:σ.length=n)(a:β.length=n)(e:ϖ<=n)(E:zc K ŋ P G0 H0 G H Œf Őf):zc K n P G0 H0 G H β σ:=by
 let{g,F}:=ϡ;show{όb,b,a,e,λj u h=>?_,g,λj i h=>?_,ŭ,Ϸ};let f:j<ϖ:=öa.1;let:=Ûa j u h;rw[ŕp];have f:j<n:=by rw[<-a];show öa.1
 let{u,c,d}:=ϛ j i (by rw[wl Î];show h);rw[wl Î]at c;show{u,c,d}
#print a
inductive tW where
 |nx (β:zb)|rt (m:M) (β:zb)|bk (β:zb)|ct (β:zb)
abbrev yC:=zb->É tW
abbrev xj:=zb->É Ŋc
abbrev tf:=zb->É (Ò×zb)
def gv(K:Ï)(n:Ä)(P:Á V)(a b:Hp)(E:xv):tW->Æ
 |.nx β=>∀σ G H,zc K n P a b G H β σ->E.nx σ H|.bk β=>∀σ G H,zc K n P a b G H β σ->E.bk σ H|.ct β=>∀σ G H,zc K n P a b G H β σ->E.ct σ H|.rt m β=>∀σ v G H,zc K ŋ P a b G H Ġc ąa->E.rt v H
section
variable(X:Cx)
structure MC(e:Ñ)(f:xj):Æ where
 h:∃t,PE X e t/\∀{P:Á V}{G0 H0 G H:Hp}{β β':zb}{σ:St}{m:M}{Q:VK},zc X.K ê P G0 H0 G H β σ->f β=À (m,β')->(∀v G' H',zg G G'->zc X.K Ϻi P G0 H0 G' H' Ýf ąa->Q v H')->t σ H Q
structure MT(e:Ñ)(f:tf):Æ where
 h:∃t,PT X e t/\∀{P:Á V}{G0 H0 G H:Hp}{β β':zb}{σ:St}{b:Ò}{Q:Ò->Hp->Æ},zc X.K ê P G0 H0 G H β σ->f β=À (b,β')->(∀G' H',zg G G'->zc X.K ê P G0 H0 G' H' β' σ->Q b H')->t σ H Q
structure MW(e:Ñ)(f:tf):Æ where
 h:∃t,PW X e t/\∀{P:Á V}{G0 H0 G H:Hp}{β β':zb}{σ:St}{b:Ò}{Q:Ò->Hp->Æ},zc X.K ê P G0 H0 G H β σ->f β=À (b,β')->(∀G' H',zg G G'->zc X.K ê P G0 H0 G' H' β' σ->Q b H')->t σ H Q
structure MS(np:Ä)(st:Ô)(f:yC):Æ where
 h:∃t,PS X st t/\∀{P:Á V}{G0 H0 G H:Hp}{β:zb}{σ:St}{fl:tW}{E:xv},ϖ=np->zc X.K ê P G0 H0 G H β σ->f β=À fl->gv X.K ê P G0 H0 E fl->t E σ H
structure tZ(np:Ä)(st:Á Ô)(f:yC):Æ where
 h:∃t,wy X st t/\∀{P:Á V}{G0 H0 G H:Hp}{β:zb}{σ:St}{fl:tW}{E:xv},ϖ=np->zc X.K ê P G0 H0 G H β σ->f β=À fl->gv X.K ê P G0 H0 E fl->t E σ H
#print a
section
variable{K:Ï}{n:Ä}{P:Á V}{G0 H0 G H G':Hp}{β:zb}{σ:St}{m:M}{v:V}{d:D}
def zc.jy{m:É M}{v:É V}(E:zc K ŋ P G0 H0 G H Œf Őf):σ.length=n:=by let:=į;rw[ï]at this;show Ϛb this
def zc.tN{m:É M}{v:É V}(E:zc K ŋ P G0 H0 G H Œf Őf):β.length=n:=by let:=ħ;rw[ï]at this;show Ϛb this
def zc.IE(E:zc K ŋ P G0 H0 G H Ϥg ąa):zT K G d v:=by let{b,F}:=ϡ;let{u,a,r,_}:=ϛ n _ œf;rw[vo Ůc]at a;cases a;show r
def zc.Uw{i:Ä}(E:zc K n P G0 H0 G H β σ)(hi:i<n)(a:ϖ<=i)(r:zT K G d v):zc K n P G0 H0 G H őo ϵc:=(E.qt r).II hi a į ħ
theorem zc.Y2(E:zc K n P G0 H0 G H β σ):zc K n P G H0 G H β σ:={E.ext.Y2,į,ħ,Ŵ,Ûa,ϡ}
def zc.near{b c:Hp}(a:zK G0 H0 b c)(E:zc K n P b H0 G H β σ):zc K n P G0 H0 G H β σ:={a.rebase όb,į,ħ,Ŵ,Ûa,ϡ}
theorem gv.near{a b:Hp}{E:xv}{fl:tW}(x:zK G0 H0 a b)(h:gv K n P G0 H0 E fl):gv K n P a H0 E fl:=by
 cases fl with
 |nx τ=>show λσ G H z=>h σ G H íf|bk τ=>show λσ G H z=>h σ G H íf|ct τ=>show λσ G H z=>h σ G H íf|rt m β=>show λσ v G H z=>h σ v G H íf
def zc.lN{Ls:Ä->Ft}(E:zc K ŋ P G0 H0 G H Čm ąa):∃G',zg G G'/\zc K ŋ P G0 H0 G' H Ϥg ąa:=by let{Ls,F}:=ϡ;let{u,f,p,rfl,o,x}:=ϛ n _ œf;rw[vo Ůc]at f;cases f;let{l,I,J}:=Ϸ n p ((x p).mpr rfl);let{w,A,r}:=ŧc l;let s:zg G (upd G p w):=wP l w;let m:∀(i:Ä)(v:V),P[i]?=À v->(σ++[À (ūa p)])[i]?=À Ϗ:=Ûa;refine{upd G p w,s,Ŕi I l A,į,by rw[ï,ûc];rfl,Ŵ,m,λj=>if j<n then Ls j else λ_=>í,λi t h=>?_,λi j q C k g=>?_,λi q z=>?_};rcases WO h with⟨c,e⟩|⟨c,e⟩;rw[ûc]at c;let{u,f,B}:=ϛ i t (by rw[wl (by rw[ûc];show c)];show e);show{u,f,?_};simp only[Ö c];show B.loc s t u _ λq z=>rfl;cases e;rw[ûc]at c;subst c;show{_,vo Ůc,?_};simp only[Ïb,ŕ];show{r,λ_ z=>z};split at k;split at g;show ŭ i j q C k g;show g;show k;split at z;rename_i c;let{a,b,y}:=Ϸ i q z;show{?_,b,y};rw[zr λe=>?_];show a;subst e;show ŭ i n q Î z ((x q).mpr rfl);show Ę
#print a
def yt(f:FE):xj:=λβ=>(Æg).bind λd=>À (.fz d,β)
def qO(f:FE):xj:=λβ=>(Åg).bind λd=>match tz d with
 |Ã=>À (.fz d,β)|Å=>Â
def ZO(f:FE):xj:=λβ=>(Æg).bind λd=>À (.own d,β)
def FW(f:FE):xj:=λβ=>(Åg).bind λd=>match LL d with
 |Ã=>À (.own d,β)|Å=>Â
nonrec def FV(f:xj):xj:=λβ=>(ϴ).bind λr=>match r with
 |(.own d,β')=>À (.fz d,β')|r=>À r
def jI(f:FT):tf:=λβ=>(Åg).bind λb=>À (b,β)
nonrec def MY(f:tf):tf:=λβ=>(ϴ).bind λr=>À (!r.1,r.2)
nonrec def NJ(f g:tf):tf:=λβ=>(ϴ).bind λr=>match r.1 with
 |Ã=>g r.2|Å=>À (Å,r.2)
nonrec def NK(f g:tf):tf:=λβ=>(ϴ).bind λr=>match r.1 with
 |Ã=>À (Ã,r.2)|Å=>g r.2
nonrec def YQ:M->É D
 |.fz d=>À d|_=>Â
def JH(f:xj):tf:=λβ=>(ϴ).bind λr=>(ύf).bind λx=>(ıe).bind λb=>À (b,r.2)
def FU(f g:xj):xj:=λβ=>(ϴ).bind λr=>(ύf).bind λx=>(ıe).bind λb=>match b with
 |Ã=>g r.2|Å=>À (.fz Ća,r.2)
def VF{m:M}{d:D}(h:YQ m=À d):m=.fz d:=by
 cases m with
 |fz d'=>cases h;rfl|_=>cases h
section
variable{X:Cx}{x:Ç}{p pos:Pos}{e a b:Ñ}{zY:Á Ñ}{f:FE}{ft:FT}{r:R2}{g g':xj}{u u':tf}
def wF(h:SE X e f):MC X e (yt f):=by rw[Ðp];rw[ťp];show k E.uV b λv i c x r=>q v i c x.g ((Ϯ x).qt r)
def j8(h:SE X e f):MC X e (qO f):=by
 rw[Ðp];let{d,m,a}:=zC a;cases c:tz d with
 |Å=>rw[c]at a;cases a|Ã=>
  rw[c]at a;cases a;let{u,l,ϯ}:=E.tQ;show k l m λv s i x r=>?_
  let{j,n,b,o,_}:=ϯ _ _ x;show q v j i n.g (b.qt (o d v c r))
def Qd(h:SF X e f):MC X e (ZO f):=by rw[Ðp];let{d,c,a}:=zC a;cases a;show k E.uV c λp l i x b j o=>q _ l i x.g (E.Pp x b j o)
def z4o{K:Ï}{G b H:Hp}{d:D}{p:Ë}(a:∀ds vs,Ŭa ds=Ã->å K G ds vs->å K b ds vs)(c:LL d=Ã)(o:wC K G H d p):wC K b H d p:=by
 cases d with
 |lst ds=>let{vs,e,r,l}:=o;show{vs,e,a _ _ c r,l}
 |dic ks ds=>let{vs,e,z,r,l}:=o;show{vs,e,z,a _ _ c r,l}
 |_=>show ìc
def z3o(h:SF X e f):MC X e (FW f):=by
 rw[Ðp];let{d,u,a}:=zC a;cases c:LL d with
 |Å=>rw[c]at a;cases a|Ã=>
  rw[c]at a;cases a;let{w,r,ϯ}:=E.tQ;show k r u λp y l x s m o=>?_
  let{n,b,v,_,i,j}:=ϯ _ _ x;show q _ n l b.g (E.Pp b s (j p m) (z4o i c o))
def z3k(h:MC X e g):MC X e (FV g):=by
 rw[Ðp];rw[Ϡp];cases m with
 |own d=>
  cases a;show k E b λv n j s c=>?_
  let{f,l,i}:=zc.lN (Ls:=λ_ _=>í) c;show q v f j (s.trans l) i
 |_=>cases a;show k E b q
def kU(h:ST X e ft):MT X e (jI ft):=by
 rw[Ðp];let{b,j,a}:=zC a;cases a;let{m,i,ϯ}:=E.tQ;show k i j λn d x=>?_
 let{f,l,c,_}:=ϯ _ _ x;show q f d l.g c
def bQ(h:MT X a u):MT X Ŗd (MY u):=by rw[Ñp];show{{_,cP p,λE c q=>?_}};obtain⟨⟨b,β1⟩,f,c⟩:=zC c;cases c;show k E f λd g s e=>q d g s e
def z4c(h:MT X a u):MW X Ųg u:={let ⟨t,p,k⟩:=h.h;{t,cW p,k}}
def z4e(h:MT X a u):MW X Žg u:={let ⟨t,p,k⟩:=h.h;{t,cX p,k}}
def z4b(j:MT X a u)(p:MW X Ád u'):MW X èd (NJ u u'):=by
 rw[Ãq];show{{_,cV o m,λE c q=>?_}};rw[ϡp];show f E i λt v e d=>?_
 cases k with
 |Ã=>show ue ϸj|Å=>cases c;show ud ϕn
def z4d(j:MT X a u)(p:MW X Àd u'):MW X çd (NK u u'):=by
 rw[Ãq];show{{_,GB o m,λE c q=>?_}};rw[ϡp];show f E i λt v e d=>?_
 cases k with
 |Å=>show ud ϸj|Ã=>cases c;show ue ϕn
def bR(h:MW X e u):MT X e u:={let ⟨t,p,k⟩:=h.h;{t,p.pt,k}}
def zc.down{K:Ï}{n:Ä}{P:Á V}{a b G H:Hp}{β:zb}{σ:St}{m:É M}{v:É V}(c:ϖ<=n)(E:zc K ŋ P a b G H Œf Őf):zc K n P a b G H β σ:=E.pop Ůc ûc c
def EX(h:MC X e g)(i:Ì þo q12):MT X e (JH g):=by
 rw[Ñp];show{{_,cQ p (cH i),λE a q=>?_}};obtain⟨⟨o,β1⟩,d,a⟩:=zC a;let{m,e1,a}:=zC a;cases VF e1;let{b,f,a}:=zC a;cases a;show k E d λl n r j c=>?_
 show{_,Qv c.IE f,q _ _ j (c.down Ŵ)}
def z3p{op}(h:MC X a g):MC X ϕg g:={let ⟨t,p,k⟩:=h.h;{t,cE p,k}}
def z3i(m:MC X a g)(s:MC X Ád g'):MC X èd (FU g g'):=by
 let{C,r,f}:=m.h;let{u,o,n}:=s.h;show{{_,c9 r o,λE c q=>?_}};obtain⟨⟨z,β1⟩,i,c⟩:=zC c;let{w,e1,c}:=zC c;cases VF e1;let{k,l,c}:=zC c;show f E i λt y A e d=>{k,Qv d.IE l,?_}
 cases k with
 |Ã=>show ue (n Ĩn c λv B x p j=>q v _ _ (Áb p) j)|Å=>cases c;show ud (q _ _ _ e ((Ĩn).qt rfl))
#print a
nonrec def u_:yC:=λβ=>À (.nx β)
nonrec def xC(a b:yC):yC:=λβ=>(íg).bind λf=>match f with
 |.nx β'=>b β'|f=>À f
nonrec def jc(c:tf)(a b:yC):yC:=λβ=>(c β).bind λr=>match r.1 with
 |Ã=>a r.2|Å=>b r.2
nonrec def t4(f:xj):yC:=λβ=>(ϴ).bind λr=>À (.rt r.1 r.2)
nonrec def jb(f:xj):yC:=λβ=>(ϴ).bind λr=>À Ãp
nonrec def uN(i:Ä)(f:xj):yC:=λβ=>(ϴ).bind λr=>À (.nx ϧk)
abbrev MG:=D->zb->É zb
nonrec def Ov(i j:Ä):MG:=λd β=>match d with
 |.tup ϖa=>À ((Εa (.fz x)).set j (À (.fz y)))|_=>Â
nonrec def W2(g:MG)(b:yC):Á D->zb->É tW
 | [],β=>À (.nx β)|d::r,β=>(g d β).bind λβ1=>(b β1).bind λf=>match f with
  |.nx β2=>W2 g b r β2|.ct β2=>W2 g b r β2|.bk β2=>À ëd|.rt m β2=>À Ϯn
def ES(it:FA)(g:MG)(b:yC):yC:=λβ=>(it ϸa).bind λa=>W2 g b a β
nonrec def JV(c:tf)(b:yC):Ä->zb->É tW
 |0,_=>Â|n+1,β=>(c β).bind λr=>match r.1 with
  |Å=>À Ãp|Ã=>(b r.2).bind λf=>match f with
   |.nx β2=>JV c b n β2|.ct β2=>JV c b n β2|.bk β2=>À ëd|.rt m β2=>À Ϯn
def az(c:tf)(b:yC):yC:=λβ=>JV c b IQ β
section
variable{X:Cx}{np:Ä}{x:Ç}{p pos Èa:Pos}{e c tg Ŝ:Ñ}{st:Ô}{sts ńa:Á Ô}{f g:yC}{h:xj}{u:tf}{fs:FA}
def je:tZ X np [] u_:={{_,Ld,λ{P b d G H β σ c E} _ K a q=>by cases a;show q σ G H K}}
def xO(b:MS X np st f)(m:tZ X np sts g):tZ X np Ĝi (xC f g):=by
 rw[Ōp];let{w,i,j}:=m.h;show{{_,j9 p i,λ{P n u G H β σ s E} c K a q=>?_}};let{e,b,a}:=zC a;show k c K b ?_;cases e with
 |nx τ'=>show λσ' v r l=>j c l a q|bk τ'=>cases a;show q|ct τ'=>cases a;show q|rt o d=>cases a;show q
def w6(a:MS X np st f):tZ X np [st] f:={let ⟨t,p,k⟩:=a.h;{t,Vq p,k}}
def kS{b d:Á Ô}(t:MT X c u)(n:tZ X np b f)(s:tZ X np d g):MS X np (.If c b d pos) (jc u f g):=by
 let{A,l,p}:=t.h;let{F,r,j}:=n.h;let{x,v,o}:=s.h;show{{_,Vp l r v,λ{P w B G H β σ z E} i K a q=>?_}};obtain⟨⟨k,β1⟩,m,a⟩:=zC a;show p K m λy C _ e=>?_
 cases k with
 |Ã=>show ue (j i e a q)|Å=>show ud (o i e a q)
def kT(c:MC X e h):MS X np ϕe (t4 h):=by let{t,p,k}:=c.h;show{{_,Qn p,λ{P f l G H β σ j E} i K a q=>?_}};rw[Ϡp];cases a;show k K b λv n g _ d=>q _ v _ _ d
def Zb(d:MC X e h)(b:Ì ķg q12):MS X np Ŀh (jb h):=by let{t,p,k}:=d.h;show{{_,G8 p b,λ{P g n G H β σ l E} j K a q=>?_}};obtain⟨⟨m,β1⟩,c,a⟩:=zC a;cases a;show k K c λv o i _ f=>q _ _ _ (f.down Űa)
def qT{i:Ä}{x:Ç}{Èa:Pos}(g:Ϩ)(hi:X.N[i]?=À x)(d:uq ϟ x)(o:np<=i)(j:MC X e h)(c:Ì Æc q12)(a:Ì Ĩa q7) :MS X np Še (uN i h):=by let{t,p,k}:=j.h;show{{_,(Qt g hi d {p} c a).h,λ{P l u G H β σ s E} r K a q=>?_}};obtain⟨⟨m,β1⟩,f,a⟩:=zC a;cases a;show k K f λv w n _ b=>q _ _ _ (b.II ŀa.1 Î b.jy b.tN)
structure S9(X:Cx)(np:Ä)(tg:Ñ)(fg:MG):Æ where
 h:∃t,PG X tg t/\∀{P:Á V}{G0 H0 G H:Hp}{β β':zb}{σ:St}{d:D}{v:V}{Q:St->Hp->Æ},ϖ=np->zc X.K ê P G0 H0 G H β σ->zT X.K G d v->fg d β=À β'->(∀σ',zc X.K ê P G0 H0 G H β' σ'->Q σ' H)->t v σ H Q
def z3s{i j:Ä}{x y:Ç}{e f:Pos}{c:Ä}(h:QG X Ϫj Œe)(hi:X.N[i]?=À x)(o:X.N[j]?=À y)(z:np<=i)(A:np<=j):S9 X np Ϫj (Ov i j):=⟨⟨_,h.h,λ{P t E G H β β' σ d v Q} B K r b q=>by
 unfold Ov at b
 rw[ϰp];rename_i w u;cases b;let{a,F,rfl,n,{g,C,rfl,k,{p,m,rfl,s,l}},_}:=r;cases(show m=[]from l);show{a,_,rfl,ve Âa n,rfl,g,_,rfl,p,_,rfl,rfl,?_};show q _ ((K.Uw ŀa.1 Î k).Uw (Ť o).1 Î s);cases b⟩⟩
def z40{c:MG}(R:Ũb ā X.A Ó ĥ)(U:ż=Ã)(hi:SI X tg Ŝ fs)(Q:S9 X np tg c)(T:tZ X np ńa g)(v:Ì (∀x,Úb Ŝ Ó x=pure x) q11):MS X np Ůe (ES fs c g):=by
 let{ti,pi,L}:=ύb;let{C,O,B}:=Q.h;let{tb,pb,I}:=T.h;show{{_,LZ R U pi O pb v,λ{P G0 s G H τ σ r E} u K a q=>?_}};let{b,S,a}:=zC a;show L ūc S λJ l Ha Y _ o=>?_
 let t:=Ϝ Y;let j:=gv.near t.ext q;show{λi m σ H=>m=ϫ-i/\i<=ϫ/\∃τ G,zc X.K ê P l s G H τ σ/\W2 c g ϩf τ=À r,{ϫ,rfl,ϱ _,τ,l,t.Y2,a},?_};rw[Óp];show .inr {o.go i G H Ãb Âa hlt,λσ' f=>∃τ G,zc X.K ê P l s G f τ σ'/\W2 c g Ņf τ=À r,λσ' f z=>{ϫ-ē,ŗd _ _ hlt,rfl,hlt,z},λx f y=>?_};let{G3,d,x3,p,F}:=o.vw i G H x f Ãb Âa hlt y;rw[Űp];rw[ļ hlt]at p;cases p;let{τ1,Z,a}:=zC (show(c _ τ).bind _=_ from a);let{f1,W,a}:=zC a;show B u ŵf F Z λσ1 K1=>I u K1 W ?_
 cases f1 with
 |nx τ2=>show λσ2 k H2 n=>{τ2,k,n,a}|ct τ2=>show λσ2 k H2 n=>{τ2,k,n,a}|bk τ2=>cases a;show j|rt m β=>cases a;show j
 let e:i=ϫ:=by omega
 subst e;rw[ϰl]at a;cases a;show .inl {o.stop _ G H Ãb Âa ğ,j _ _ _ K}
def z44(y:Ũb ā X.A Ó ĥ)(F:MT X c u)(C:tZ X np ńa g):MS X np ύk (az u g):=by
 let{O,p,B}:=F.h;let{J,I,t}:=C.h;show{{_,cO y p I,λ{P e l G H τ σ j E} x K a q=>?_}};show{λm σ H=>∃τ G,zc X.K ê P e l G H τ σ/\JV u g m τ=À j,{IQ,τ,G,K,a},?_};rintro m σ H ⟨τ,G,K,a⟩;cases m with
 |ſ=>cases a|ϊ n=>
  obtain⟨⟨k,β1⟩,r,a⟩:=zC (show(u τ).bind _=_ from a);show B K r λL Q _ i=>?_
  cases k with
  |Å=>cases a;show ud (q _ _ _ i)|Ã=>
   let{s,o,a}:=zC (show(g β1).bind _=_ from a);show ue {λσ' f=>∃τ G,zc X.K ê P e l G f τ σ'/\JV u g n τ=À j,λσ' f z=>{n,Āb n,z},t x i o ?_};cases s with
   |nx τ2=>show λσ2 b v d=>{τ2,b,d,a}|ct τ2=>show λσ2 b v d=>{τ2,b,d,a}|bk τ2=>cases a;show q|rt m β=>cases a;show q
#print a
def ug(β:zb)(i:Ä)(π:Á xA):É M:=match β[i]? with
 |À ϔa=>jT m π|_=>Â
def ôb(β:zb)(i:Ä)(π:Á xA)(m2:M):É zb:=match β[i]? with
 |À ϔa=>(Ĥn).bind λa=>À ϯm|_=>Â
def jf{β:zb}{i:Ä}{π:Á xA}{a:M}(h:ug β i π=À a):∃m,β[i]?=À ϔa/\jT m π=À a:=by
 unfold ug at h
 rw[ϯp];rename_i m e;show{m,e,h};cases h
def Vr{β:zb}{i:Ä}{π:Á xA}{m a m2:M}(h:β[i]?=À ϔa)(e:jA m π m2=À a):ôb β i π m2=À ϯm:=by unfold ôb;rw[h];exact(Ĥn).bind _=_;rw[e];rfl
def we(K:Ï)(a:Á Ç)(f:Ç):Æ:=∀x∈a,∀C,Ē K õ x=À š->vK K C/\YL K C f
structure SP(X:Cx)(e:Ñ)(i:Ä)(π:Á xA):Æ where
 h:∃t,PE X e t/\∀{σ:St}{H:Hp}{v u:V}{Q:VK},σ[i]?=À Ϗ->xc X.K H v π u->Q u H->t σ H Q
section
variable{X:Cx}{x f:Ç}{p pos:Pos}{e:Ñ}{i:Ä}{π:Á xA}{cs:Á Ç}
def yh(i:Ä){x:Ç}{pos:Pos}(c:Ì ſd q12)(hv:Ì Äe q13)(d:Ì Ģ q10)(b:Ì þb q10):SP X Ąa i []:={{_,Zh c hv d b,λe a q=>by cases(show _=_ from a);show{_,e,q}}}
def tD(h:SP X e i π)(k:we X.K cs f)(s:Ì ąk q12):SP X Ϝe i (π++[.at cs f]):=by let{t,p,j}:=h.h;show{{_,cB p s,λe a q=>?_}};let{w,g,m}:=a.snoc;let{p,x,C,o,u,v,rfl,b,d,r,l,rfl}:=m;let{c,n}:=k x b C d;show j e g {p,C,o,u,_,rfl,r,c,n,l,q}
def z0i{α:Type}:∀{vs:Á α}{s k:Ä},ϝ (Ŝn s ø) vs (s+k)=vs[k]?:=λ{vs}=>by
 induction vs with
 |nil=>intro s k;rfl|î v vs ih=>
  intro s k;rw[Ĩ,Ϯl];unfold ϝ;cases k with
  |ſ=>show Ö rfl|ϊ k=>rw[Ø Î,show s+ĸ=s+1+k by omega,ih];rfl
def z0h{vs:Á V}{k:Ä}{w:V}(h:ϝ Ŧo vs k=À w):qz vs (k:Ê)=À w:=by rw[List.range_eq_range',show k=0+k by omega,z0i]at h;let a:=öa.1;unfold qz ZW;rw[Ö ϵi,Ö Î];show h
def M4{k:Ä}{kk kp}(h:SP X e i π):SP X (.Subscript e (.Constant (.int (k:Ê)) kk kp) pos) i (π++[.ix k]):=by let{t,p,c}:=h.h;show{{_,LV aT p Eu (LX rfl),λe a q=>?_}};let{w,g,b}:=a.snoc;let{p,f,j,rfl,d,l,rfl}:=b;show c e g {p,f,(k:Ê),_,rfl,rfl,ła d,z0h l,q}
#print a
section
variable{K:Ï}{n:Ä}{P:Á V}{G0 H0 G H:Hp}{β:zb}{σ:St}
def zc.write{m W R:M}{S:V}{i:Ä}{π:Á xA}(E:zc K ŋ P G0 H0 G H (β++[À R]) (σ++[À S]))(hP:ϖ<=n)(U:β[i]?=À ϔa)(ha:jT m π=À W) :∃r v1 L1 Lr,σ[i]?=À ϵf/\xc K H r π v1/\yb K G H W v1 L1/\yb K G H R S Lr/\(∀q,L1 q->Lr q->í)/\
   ∀{H':Hp}{m2:M}{L2:Ft},(∀q,¬ L1 q->H' q=H q)->yb K G H' m2 v1 L2->(∀q,L2 q->L1 q\/Lr q)->∃m',jA m π m2=À m'/\zc K n P G0 H0 G H' (Μa (À m')) σ:=by
 let{s,F}:=ϡ;let v:=Ůc;let l:=ûc;have hi:i<n:=by rw[<-l];show(Ť U).1
 let{r,O,om}:=ϛ i m (by rw[wl Î];show U);rw[wl Î]at O;let{u,y,I}:=ϛ n R (vo l);rw[vo v]at y;cases y;let{v1,L1,va,o1,t,re}:=om.focus ŵ ha;let Q:∀q,L1 q->s n q->í:=λq a b=>ŭ i n q Î (t q a) b
 show{r,v1,L1,s n,O,va,o1,I,Q,λ{H' m2 L2} p T B=>?_}
 let{m',Z,Y}:=re (ĵa G) (λq _ z=>p q z) T (λq z w=>by rcases B q z with c|c;show c;show Þ c λc=>ŭ i n q Î w c)
 let C:∀q,L1 q->G q=Â/\H0 q=Â:=λq z=>{ŷl.1,ŷl.2.1}
 show{m',Z,{Ŏc,λq o z=>?_,λq o z=>?_,Ϗa},v,by rw[Þa];show l,hP,λj w h=>?_,λj=>if j=i then(λq=>Ìm\/L2 q)else if j<n then s j else λ_=>í,λj X h=>?_,λj k q f e d=>?_,λj q z=>?_}
 .rw[p q λw=>by rw[Ûj.2]at z;cases z];rw[Ϗp]
 .rw[p q λw=>by rw[Ûj.1]at z;cases z];show ŵ _ _ z
 .let A:j<ϖ:=öa.1;let:=Ûa j w h;rw[ŕp]
 .rcases wd h with⟨rfl,w⟩|⟨f,w⟩
  .rw[ϔp];show{r,O,Y}
  .have A:j<n:=by rw[<-l];show(Ť w).1
   let{u,y,ou}:=ϛ j X żk;rw[wl Î]at y;simp only[Ø f,Ö A];show{u,y,äj (ĵa G) X u _ λq z=>p q λN=>ŭ i j q Íf (t q N) z}
 .let x:∀j,j≠i->j<n->∀q,Ìm\/L2 q->s j q->í:=λj f A q e d=>by
   rcases e with⟨e,_⟩|e;show ŭ i j q Íf e d;rcases B q e with c|c;show ŭ i j q Íf (t q c) d;show ŭ n j q Î c d
  rw[Ũp]
  .rw[îp];show f Î;rw[îp];show x k Î Î q e d;show d
  .rw[Ũp];rw[îp];show x j Î Î q d e;rw[îp];show ŭ j k q f e d;show d;show e
 .split at z
  .rcases z with⟨z,w⟩|z
   .let{a,b,c}:=Ϸ i q z;let{u,J,L}:=c;show{a,b,u,(p q w).trans J,L}
   .show{?_,?_,T.cells m2 _ _ q z}
    .rcases B q z with c|c
     .show(C q c).1
     .show ϑh.1
    .rcases B q z with c|c
     .show(C q c).2
     .show ϑh.2.1
  .split at z
   .rename_i f A;let{a,b,c}:=Ϸ j q z;let{u,J,L}:=c;show{a,b,u,(p q λN=>ŭ i j q Íf (t q N) z).trans J,L}
   .show Ę
#print a
def kR(i:Ä)(π:Á xA)(b:FE)(a:xj):yC:=λβ=>(íg).bind λr=>(ύf).bind λy=>(Än).bind λc=>match c with
 |.own êb=>(ĭn).bind λx=>match x with
  |.int j=>(ZW ĉ j).bind λn=>(Ωd (Δ (êj n y))).bind λβ2=>À ëd|_=>Â
 |_=>Â
def W3(i:Ä)(π:Á xA)(b:FE)(a:xj):yC:=λβ=>(íg).bind λr=>(ύf).bind λy=>(Än).bind λc=>match c with
 |.own ļn=>(ĭn).bind λx=>(ĩd).bind λx=>match decide (ŉ<yc)with
  |Ã=>(Ωd (.dic ϔo ūm)).bind λβ2=>À ëd|Å=>Â
 |_=>Â
section
variable{X:Cx}{np:Ä}{o k v:Ñ}{i:Ä}{π:Á xA}{fk:FE}{fv:xj}{pos Èa:Pos}
def Yg(ho:SP X o i π)(hk:SE X k fk)(hv:MC X v fv)(Z:Ì øo q12)(O:Ì (ħh Ũe v Èe Ó=pure Å) q12)(hw:Ì (Ĩh Ũe v Ó=pure Â) q12)(h1:Ì ((Ϡd Ũe Ó).map (·.2)=[żb âl Ó]) q12):MS X np Ėl (kR i π fk fv):=by
 rw[Åq];let{tv,pv,kv}:=ļb;let{to,po,U}:=ho.h;show{{_,cJ pv (cg {po} {pk} eE Z).h O hw h1,λ{P G0 H0 G H β σ fl E} hP K a q=>?_}};obtain⟨⟨m,β1⟩,hy,a⟩:=zC a;let{y,ey,a}:=zC a;cases VF ey;let{nd,R,a}:=zC a
 rw[êp];rename_i ds;let{Q,hx,a}:=zC a;cases Q with
 |int j=>
  let{d,n,a}:=zC a;let{β2,A,a}:=zC a;cases a;let{mm,g,B}:=jf R;show kv K hy λw G1 H1 s1 s=>?_
  let{r,v1,L1,Lr,C,L,_}:=s.write Űa g B;show U C L ?_;let{Ga,W,ϯ}:=(s.down Űa).tQ;show kk W hx λu G2 H2 x2 r2=>?_
  cases(show u=_ from r2);let{G3,N,_,_}:=ϯ _ _ x2;let F:=s.go N;let{r',S,L1',Lr',b,e,t,T,dj',f}:=F.write Űa g B;rw[C]at b;cases b;cases źb Ŋo e;let{p,rfl,{x,ev,I,l},J}:=t;let{m',Y,K5}:=f (H':=upd H2 p (Δ (x.set d w))) (m2:=.own (Δ (êj d y))) (L2:=λq=>q=p) ūn {p,rfl,{_,yE,ōi F.IE d I,by rw[Þa];show l},λ_=>ğa} ćk;rw[Vr g Y]at A;cases A;show{p,x,j,d,rfl,rfl,ev,by rw[I.length];show n,q _ _ _ K5}
 |_=>cases a
 cases a
def Qe(hu:ϵa+1<ϒ)(ho:SP X o i π)(hk:SE X k fk)(hv:MC X v fv)(O:Ì (Οb âl) q12):MS X np Ėl (W3 i π fk fv):=by
 rw[Åq];let{tv,pv,Z}:=ļb;let{to,po,T}:=ho.h;show{{_,cK hu po pk pv O,λ{P G0 H0 G H β σ fl E} hP K a q=>?_}};obtain⟨⟨m,β1⟩,Y,a⟩:=zC a;let{y,ey,a}:=zC a;cases VF ey;let{nd,Q,a}:=zC a
 rw[êp];rename_i ks n;let{xk,hx,a}:=zC a;let{b,d,a}:=zC a
 rw[ĸp];let c:=ı c;let{β2,B,a}:=zC a;cases a;let{mm,j,C}:=jf Q;show Z K Y λw G1 H1 s1 t=>?_
 let{r,v1,L1,Lr,F,L,_}:=t.write Űa j C;show T F L ?_;let{Ga,U,ϯ}:=(t.down Űa).tQ;show kk U hx λu G2 H2 x2 r2=>?_
 let{G3,N,_,_}:=ϯ _ _ x2;let I:=t.go N;let{r',R,L1',Lr',e,f,x,S,dj',g}:=Ĉe Űa j C;rw[F]at e;cases e;cases źb Ŋo f;let{p,rfl,{vs,ev,l,s,hl},J}:=x
 let{m',W,K5}:=g (H':=upd H2 p (.dK (uh İa b w))) (m2:=.own (.dic (pB ks b) (u5 ks n b y))) (L2:=λq=>q=p) ūn
  ⟨p,rfl,⟨u5 ks vs b w,by rw[yE,Nf l],Qo l,s.put I.IE,by
   let h1:=GA (ks:=ks) (vs:=n) (k:=b) (v:=y) (by rw[l,Ħb]);have h2:Ļc<16777216:=by rw[<-Ħb,<-l];show c
   rw[Ţp]⟩,λ_=>ğa⟩ ćk
 rw[Vr j W]at B;cases B;show{p,_,rfl,.inl {_,b,ev,ZX d r2,by rw[ìa,l,ća,Ľ,<-l];show c,rfl},q _ _ _ K5};rw[Êq]
#print a
nonrec def kZ(fs:Á Ç)(f:Ç):Á Ç:=if f∈fs then fs else fs++[f]
def pA{α:Type}(fs:Á Ç)(ms:Á α)(f:Ç)(m:α):Á α:=if f∈fs then u9 fs ms f m else ms++[m]
theorem cU{f:Ç}{w:V}:∀{fs:Á Ç}{vs:Á V},Ķa=ø->ûb f w Ϟn=(ϳd).zip ům
 | [],[],_=>by unfold kZ pA;rw[Ø ü,Ø ü];rfl| [],_::_,h=>by cases h|_::_,[],h=>by cases h|g::fs,v::vs,h=>by
  let b:=cU (f:=f) (w:=w) (fs:=fs) (vs:=vs) ēe;rw[Öb];unfold ûb;by_cases c:g=f;subst c;unfold kZ pA;rw[Ö rfl,Ö Ō,Ö Ō];unfold u9;rw[Ö rfl,Öb];rw[Ø c,b];unfold kZ pA;by_cases z:f∈fs;rw[Ö z,Ö z,Ö ċi,Ö ċi]
  conv=>rhs;unfold u9
  rw[Ø c,Öb];let a:f ∉ g::fs:=λw=>by rcases ř w with w|w;show c w.symm;show z w
  rw[Ø z,Ø z,Ø a,Ø a,Ùh,Ùh,Öb]
theorem y1c{α:Type}{f:Ç}{w:α}{fs:Á Ç}{vs:Á α}(h:Ķa=ø):(ϳd).length=(ům).length:=by
 unfold kZ pA
 split;rw[KR];show h;rw[ï,ï,h];rfl
section
variable{K:Ï}{G H:Hp}
theorem ŏi{κ:Type}[śb κ]{k:κ}{m2:M}{e:V}{L2:Ft}(i:yb K G H m2 e L2):∀{ks:Á κ}{ms:Á M}{vs:Á V}{L:Ft},Ŋ K G H ms vs L->(∀q,L q->L2 q->í)->∃L',Ŋ K G H Ďm (u9 ks vs k e) L'/\∀q,L' q->L q\/L2 q
 | [],ms,vs,L,h,_=>{L,by unfold u9;show h,λq z=>.inl z}|_::_,[],vs,L,h,_=>by let{rfl,n}:=h;show{L,by unfold u9;show{rfl,n},λq z=>.inl z}
 |k'::ks,m::ms,vs,L,h,dj=>by let{v,r,f,j,rfl,o,g,d,u}:=h;unfold u9;rw[ļp];show{λq=>L2 q\/j q,{e,r,L2,j,rfl,i,g,λq a b=>dj q ((ϑ).mpr (.inr b)) a,λq=>ğa},λq z=>?_};rcases z with z|z;rw[Ŋp];show .inl Ūd;rw[Ø c,Ø c];let{L',p,l}:=ŏi (k:=k) i (ks:=ks) g ϓj;show{λq=>f q\/L' q,{v,_,f,L',rfl,o,p,λq a b=>?_,λq=>ğa},λq z=>?_};rcases l q b with b|b;show d q a b;show dj q Ĩm b;rcases z with z|z;show .inl ϊd;rcases l q z with z|z;show .inl Ūd;rw[Ŋp]
theorem Ϸh{m2:M}{c:V}{L2:Ft}(e:yb K G H m2 c L2):∀{ms:Á M}{vs:Á V}{L:Ft},Ŋ K G H ms vs L->(∀q,L q->L2 q->í)->Ŋ K G H (ms++[m2]) (vs++[c]) (λq=>L q\/L2 q)
 | [],vs,L,h,_=>by let{rfl,n}:=h;show{c,[],L2,λ_=>í,rfl,e,{rfl,λ_ z=>z},λ_ _ z=>z,λq=>{?_,?_}};rintro(z|z);show Þ z (n q);rw[ϴp];show Ę
 |m::ms,vs,L,h,dj=>by let{v,r,f,j,rfl,i,g,d,u}:=h;show{v,_,f,λq=>j q\/L2 q,rfl,i,Ϸh e g ϓj,λq a b=>?_,λq=>{?_,?_}};rcases b with b|b;show d q a b;show dj q Ĩm b;rintro(z|z);rcases(u q).mp z with z|z;show .inl z;show .inr Ċa;show .inr ĳa;rintro(z|z|z);show .inl ϊd;show .inl Ūd;rw[Ŋp]
def Ìo{f:Ç}{m2:M}{a:V}{L2 L:Ft}{fs:Á Ç}{ms:Á M}{vs:Á V}(d:yb K G H m2 a L2)(h:Ŋ K G H ms vs L)(b:∀q,L q->L2 q->í):∃L',Ŋ K G H (pA fs ms f m2) (pA fs vs f a) L'/\∀q,L' q->L q\/L2 q:=by unfold pA;by_cases c:f∈fs;rw[Ö c,Ö c];show ŏi d h b;rw[Ø c,Ø c];show{_,Ϸh d h b,λq z=>z}
#print a
def p9(m:M)(β:zb)(i:Ä)(π:Á xA)(b:Á Ç)(f:Ç):É tW:=(ģc).bind λa=>match a with
 |.obj x fs ms=>match decide (x∈b)&&decide Øo with
  |Ã=>(οd (pA fs ms f m)).bind λβ2=>À ëd|Å=>Â
 |_=>Â
def qS(i:Ä)(π:Á xA)(b:Á Ç)(f:Ç)(a:xj):yC:=λβ=>(íg).bind λr=>p9 r.1 r.2 i π b f
def aw(i:Ä)(π:Á xA)(d:Á Ç)(f:Ç)(g:FE):yC:=λβ=>(ģc).bind λe=>match e with
 |.obj x fs ms=>match decide (x∈d)&&decide Øo with
  |Ã=>(ϝ fs ms f).bind λc=>(YQ c).bind λc=>match c with
   |.int a=>(g Çe).bind λy=>match y with
    |.int b=>(οd (pA fs ms f (.fz (.int (a+b))))).bind λβ2=>À ëd|_=>Â
   |_=>Â
  |Å=>Â
 |_=>Â
section
variable{X:Cx}{np:Ä}{o v:Ñ}{i:Ä}{π:Á xA}{cs:Á Ç}{f:Ç}{fv:xj}{fe:FE}{pos Èa øc:Pos}
def zc.Bh{K:Ï}{n:Ä}{P:Á V}{F A G H:Hp}{β β2:zb}{σ:St}{x f:Ç}{fs:Á Ç}{ms:Á M}{m e:M}{w:V}{i:Ä}{π:Á xA}(E:zc K ŋ P F A G H (β++[À e]) (σ++[À w]))(hP:ϖ<=n)(N:β[i]?=À ϔa)(X:jT m π=À ěh)(L:ôb β i π (.obj x ϳd Űm)=À β2) :∃r p C dx vs,σ[i]?=À ϵf/\xc K H r π ύ/\Ē K õ x=À š/\H p=À ũg/\Ķa=ø/\zc K n P F A G îf β2 σ:=by
 let{r,v1,L1,y,er,Y,o1,h,t,wr}:=E.write hP N X;let{p,C,dx,vs,U,rfl,I,S,l,O,J,d}:=o1;let k:∀q,q≠p->îf q=H q:=λq z=>zr z
 let u:Ŋ K G îf ms vs U:=Êc (λv _ T g s o=>Şc įb v T g λq z=>k q λc=>J (c▸s q z)) O;let j:yb K G îf e w y:=h.loc įb e w y λq z=>k q λc=>t q çl z
 let{g,Q,B}:=Ìo (f:=f) (fs:=fs) j u (λq a b=>t q ((d q).mpr Ÿi) b)
 let{v,R,Z}:=wr (H':=upd H p Ġj) (m2:=.obj x ϳd Űm) (L2:=λq=>q=p\/g q) (λq z=>k q λc=>z çl)
  ⟨p,C,dx,pA fs vs f w,g,rfl,I,by rw[yE,cU l],y1c l,Q,λz=>by
   rcases B p z with z|z;show J z;show t p ((d p).mpr Ũ) z,λq=>ğa⟩ (λq z=>by
   rcases z with rfl|z;show .inl ((d q).mpr Ũ);rcases B q z with z|z;show .inl (Μb (d q));rw[Ŋp])
 rw[Vr N R]at L;cases L;show{r,p,C,dx,vs,er,Y,I,S,l,Z}
def Zc(R:SP X o i π)(k:we X.K cs f)(hv:MC X v fv)(b:Ì (Οb ål) q12):MS X np (.Assign Çl v pos) (qS i π cs f fv):=by
 let{U,u,s}:=ļb;let{to,z,e}:=R.h;show{{_,cL z u b,λ{P G0 Y G H β σ W E} hP K a q=>?_}};obtain⟨⟨m,β1⟩,n,a⟩:=zC a;let{nd,d,a}:=zC (show(Ãn).bind _=_ from a)
 rw[êp];rename_i x fs S
 rw[ĸp];rw[Ūp];let O:=ı c.2;let{β2,A,a}:=zC a;cases a;let{mm,L,B}:=jf d;show s K n λw T H1 s1 I=>?_
 let{r,p,C,g,Z,N,F,y,j,l,J}:=I.Bh Űa L B A;let{Q,t}:=k x či C y;show e N F {p,C,g,_,rfl,j,Q,t,by rw[ìa,l,ća,<-l];show O,q _ _ _ J};rw[Êq]
def z3z(ho:SP X o i π)(k:we X.K cs f)(hv:SE X v fe):MS X np (.AugAssign ϴk .Add v pos) (aw i π cs f fe):=by
 let{tv,pv,Y}:=ļb;let{to,po,Q}:=ho.h;show{{_,y16 po pv z1o,λ{P G0 H0 G H β σ fl E} hP K e q=>?_}};let{nd,N,e}:=zC e
 rw[Ũp];rename_i x fs ms
 rw[Ũp];rw[ϗp];rw[Ūp];let hx:=ı c.1;let hl:=ı c.2;let{ch,t,e}:=zC e;let{dc,n,z}:=zC e;cases VF n
 rw[ēp];rename_i a;let{y,U,e}:=zC z
 rw[Ũp];rename_i b;let{β2,hβ,e}:=zC e;cases e;let{mm,B,A}:=jf N;let K0:=K.qt (d:=.zI) (v:=.zI) rfl;let{r,v1,L1,Lr,F,L,o1,_}:=K0.write Űa B A;let{p,C,S,vs,L',rfl,J,T,l,rs,nL,uL}:=o1;let{cl,na}:=k x hx C J;let{vc,Lc,W,{rc,_},_}:=Ïd rs t;cases(show vc=_ from rc);refine Q F L {p,C,S,_,_,rfl,T,cl,na,by rw[L5];show W,?_};let{Ga,R,ϯ}:=K.tQ;show Y R U λu G2 H2 Z r2=>?_
 cases(show u=_ from r2);let{G3,x3,K3,_}:=ϯ _ _ Z;let{r',p',C',s,O,j,m,g,w,I,K5}:=(K3.qt (d:=.int (a+b)) (v:=.int (a+b)) rfl).Bh Űa B A hβ;rw[F]at j;cases j;cases źb (Ži x3.h) m;let eC:C'=C:=by rw[J]at g;cases g;rfl
 subst eC;show{_,_,rfl,rfl,s,_,w,by rw[ìa,I,ća,<-I];show hl,q _ _ _ K5};cases e;cases z;cases e;cases e
#print a
open Classical in
nonrec def cut(H:Hp)(L:Ft):Hp:=λq=>if L q then Â else H q
def AJ{H:Hp}{L:Ft}{q:Ë}(h:L q):cut H L q=Â:=by unfold cut;rw[Ö h]
theorem tm{H:Hp}{L:Ft}{q:Ë}(h:¬ L q):cut H L q=H q:=by unfold cut;rw[Ø h]
theorem Ts{H:Hp}{L:Ft}{q:Ë}(h:cut H L q=Â):L q\/H q=Â:=by rw[Ĥp];show .inl c;rw[tm c]at h;show .inr h
abbrev FM:=Á M->É Ôf
def yY(K:Ï)(F:FM):Sp:=λa H Q _=>∃G ms L ms' m',zg G H/\Ŋ K G H ms a L/\(∀q,L q->G q=Â)/\F ms=À (ms',m')/\
 ∀v G' H' L',zK G Ûe G' H'->Ŋ K G' H' ϖo (v::a) L'->(∀q,L' q->G' q=Â/\cut H L q=Â)->Q v H'
section
variable{K:Ï}{n:Ä}{P:Á V}{G0 H0 G H G' H':Hp}{β:zb}{σ:St}
def zc.Wp{m:M}{v:V}{L:Ft}(E:zc K n P G0 H0 G H β σ)(x:zK G H G' H')(o:yb K G' H' m v L)(k:∀q,L q->G' q=Â/\H q=Â):zc K ŋ P G0 H0 G' H' Ġc ąa:=by
 let{p,F}:=ϡ;let C:=Ϯ x;let t:∀i q,p i q->L q->í:=λi q z c=>Ęb.2.2.some (k q c).2
 refine{C.ext,by rw[źp],by rw[Ϸp],by rw[Çq],λi u h=>?_,λj=>if j<n then p j else if j=n then L else λ_=>í,λi r h=>?_,λi j q l f d=>?_,λi q z=>?_};let A:i<σ.length:=by rw[ðp]
 rw[wl A];show Ûa i u h;rcases WO h with⟨c,e⟩|⟨c,e⟩;rw[ħ]at c;let{u,I,J}:=ϛ i r e;refine{u,by rw[wl Čc];show I,?_};rw[Ůp];show J.loc x.g r u _ λq z=>?_
 rw[ňp];show o;rw[ϵp];show ŭ i j q l f d;rw[îp];show t i q f d;show d;rw[ϵp];show t j q d f;rw[ϸp];rw[ýp];show{(k q z).1,Ϟd (k q z).2,Ϝf m v _ q z};show Ę
def zc.back{m N:M}{i:Ä}{π:Á xA}(E:zc K n P G0 H0 G H β σ)(T:β[i]?=À ϔa)(ha:jT m π=À N) :∃r v1 L1,σ[i]?=À ϵf/\xc K H r π v1/\yb K G H N v1 L1/\(∀q,L1 q->G q=Â)/\
   ∀{G' H':Hp}{m' nd':M}{v:V}{Lr L2:Ft},zK G (cut H L1) G' H'->yb K G' H' m' v Lr->yb K G' H' nd' v1 L2->(∀q,Lr q->L2 q->í)->(∀q,Lr q\/L2 q->G' q=Â/\cut H L1 q=Â)->
    ∃mm,jA m π nd'=À mm/\zc K ŋ P G0 H0 G' H' (β.set i (À mm)++[À m']) ąa:=by
 let{t,F}:=ϡ;have Z:i<n:=by rw[<-ħ];show(Ť T).1
 let{r,U,om}:=ϛ i m T;let{v1,L1,va,o1,I,re}:=om.focus ŵ ha;show{r,v1,L1,U,va,o1,λq z=>Ÿl.1,λ{G' H' m' nd' v Lr L2} x L Q dj B=>?_}
 let s:∀j q,t j q->¬ L1 q->H' q=H q:=λj q z w=>by let{u,C,_}:=Řb.2.2;rw[C];show x.h _ _ ((tm w).trans C)
 let A:∀j q,t j q->¬ L1 q->(Lr q\/L2 q)->í:=λj q z w c=>by let e:=(B q c).2;rw[tm w]at e;show Řb.2.2.some e
 let{mm,e',o'}:=re x.g (λq z w=>s i q z w) Q (λq z w=>by by_cases c:L1 q;show c;show(A i q w c ĳa).elim)
 let y:∀j q,j≠i->t j q->¬ L1 q:=λj q l z w=>ŭ i j q ÿn (I q w) z
 let J:∀q,cut H L1 q=Â->H0 q=Â:=λq z=>by rcases Ts z with z|z;show Ÿl.2.1;show Ϟd z
 let p:(Μa (À mm)).length=n:=by rw[ăp]
 show{mm,e',{Ϲc x.g,λq o z=>x.h _ _ ?_,ϸ,λq z=>?_},by rw[źp],by rw[ï,p];rfl,by rw[Çq],λj u h=>?_,λj=>if j=i then(λq=>(t i q/\¬ L1 q)\/L2 q)else if j<n then t j else if j=n then Lr else λ_=>í,λj X h=>?_,λj k q l f d=>?_,λj q z=>?_}
 .rw[tm λw=>by rw[(Ϸ i q (I q w)).2.1]at z;cases z];rw[Ϗp]
 .rcases Ϟa q z with w|w
  .show Ϗa q w
  .show .inr (J q w)
 .let hj:j<σ.length:=by
   rw[ðp]
  rw[wl hj];show Ûa j u h
 .rcases WO h with⟨c,e⟩|⟨c,e⟩
  .rw[p]at c;rcases wd e with⟨rfl,w⟩|⟨l,w⟩
   .rw[ϔp];show{r,by rw[wl Čc];show U,o'}
   .let{u,eu,ou}:=ϛ j X w;simp only[Ø l,Ö c];show{u,by rw[wl Čc];show eu,äj x.g X u _ λq z=>s j q z Żn}
  .cases e;rw[p]at c;subst c;show{_,vo į,?_};simp only[Ø (ϋa Z),Ïb,ŕ,ĭ];show L
 .let R:∀j,j≠i->∀q,(t i q/\¬ L1 q)\/L2 q->t j q->í:=λj l q f d=>by
   rcases f with⟨f,_⟩|f;show ŭ i j q ÿn f d;show A j q d (y j q l d) (.inr f)
  let W:∀q,(t i q/\¬ L1 q)\/L2 q->Lr q->í:=λq f d=>by rcases f with⟨f,w⟩|f;show A i q f w żi;show dj q d f
  let S:∀j,j≠i->∀q,t j q->Lr q->í:=λj l q f d=>A j q f (y j q l f) żi
  rw[Łp]
  .rw[îp];show l Î;rw[îp];show R k Î q f d;rw[îp];show W q f d;show d
  .rw[ϵp];show R j Î q d f;rw[îp];show ŭ j k q l f d;rw[îp];show S j Î q f d;show d;rw[ϵp];show W q d f;rw[îp];show S k Î q d f;rw[ϸp]
 .let O:∀q,t j q->¬ L1 q->G' q=Â/\H0 q=Â/\Bx H' q:=λq z w=>by
   let{a,b,u,C,cu}:=Ϸ j q z;show{?_,b,u,(s j q z w).trans C,cu};cases e:G' q with
   |Â=>rfl|À o=>rcases Ϟa q Źc with c|c;show Þ a c;rw[tm w,C]at c;cases c
  rw[ēp]
  .rename_i Y;subst Y;rcases z with⟨z,w⟩|z;show O q z w;show{ϭo.1,J q ϭo.2,Q.cells nd' _ _ q z}
  .rename_i l
   rw[ēp];show O q z Żn;rw[ēp];show{Ϯo.1,J q Ϯo.2,L.cells m' _ _ q z};show Ę
#print a
inductive AV where
 |v (d:D)|p (i:Ä) (π:Á xA)
abbrev vX:=zb->É (Á AV)
def Y8(K:Ï)(G H:Hp)(σ:St):Á AV->Á V->Æ
 | [],vs=>vs=[]|.v d::as,vs=>∃v r,vs=v::r/\zT K G d v/\Y8 K G H σ as r|.p i π::as,vs=>∃v r w,vs=v::r/\σ[i]?=À (À w)/\xc K H w π v/\Y8 K G H σ as r
structure MA(X:Cx)(es:Á Ñ)(f:vX):Æ where
 h:∃t,PA X es t/\∀{P:Á V}{G0 H0 G H:Hp}{β:zb}{σ:St}{as:Á AV}{Q:Á V->Hp->Æ},zc X.K ê P G0 H0 G H β σ->f β=À as->(∀vs G' H',zK G H G' H'->Y8 X.K G' H' σ as vs->Q vs H')->t σ H Q
nonrec def wO:vX:=λ_=>À []
def VD(f:FE)(r:vX):vX:=λβ=>(Åg).bind λd=>match tz d with
 |Ã=>(Ąj).bind λa=>À ϰo|Å=>Â
def wU(f:FE)(r:vX):vX:=λβ=>(Æg).bind λd=>(Ąj).bind λa=>À ϰo
nonrec def VE:M->Ä->Á xA->AV
 |.fz d,_,_=>.v d|_,i,π=>.p i π
def qx(i:Ä)(π:Á xA)(r:vX):vX:=λβ=>(ģc).bind λa=>(Ąj).bind λb=>À (VE a i π::b)
section
variable{X:Cx}{e:Ñ}{es:Á Ñ}{f:FE}{r:vX}{i:Ä}{π:Á xA}
def t5:MA X [] wO:={{_,Zg,λE a q=>by rw[ņp]}}
def L9(u:SE X e f)(l:MA X es r)(h:Ì ϥ q12):MA X ă (VD f r):=by
 let{t,p,k}:=u.h;let{F,y,n}:=l.h;show{{_,kX p y h,λE a q=>?_}};let{d,o,a}:=zC a
 rw[ĸp];let{K,b,a}:=zC a;cases a;let{G,m,ϯ}:=E.tQ;show k m o λv B I x r=>?_
 let{H,A,j,w,_}:=ϯ _ _ x;refine n j b λs J C i z=>q _ _ _ (A.trans i) {v,s,rfl,(w d v c r).mono i.g,z};cases a
def w_(s:SE X e f)(i:MA X es r)(h:Ì ϥ q12):MA X ă (wU f r):=by
 let{t,p,k}:=s.h;let{B,j,l}:=i.h;show{{_,kX p j h,λE a q=>?_}};let{d,n,a}:=zC a;let{u,b,a}:=zC a;cases a;show k E.uV n λv w z x r=>?_
 show l (Ϯ x) b λo A y c m=>q _ _ _ (Ďd c) {v,o,rfl,Ģa c.g,m}
def jd(B:SP X e i π)(s:MA X es r)(h:Ì ϥ q12):MA X ă (qx i π r):=by
 let{t,p,k}:=B.h;let{L,z,A}:=s.h;show{{_,kX p z h,λE a q=>?_}};let{F,v,a}:=zC a;let{G,o,a}:=zC a;let{I,y,u}:=jf v;let{w,f,J,l,j,C,_}:=øj y u;show k l j (A E o λn K H c m=>q _ _ _ c ?_);cases F with
 |fz d=>cases a;show{f,n,rfl,C.1.mono c.g,m}|own d=>cases a;show{f,n,w,rfl,l,ħe c.h,m}|obj x fs ms=>cases a;show{f,n,w,rfl,l,ħe c.h,m}|tab ks ms=>cases a;show{f,n,w,rfl,l,ħe c.h,m}|tp b ms=>cases a;show{f,n,w,rfl,l,ħe c.h,m}
#print a
nonrec def Zo:Á AV->É İb
 | []=>À []|.v d::as=>(Öj).bind λa=>À (d::a)|.p _ _::_=>Â
def VI:Á AV->É (Á D×Ä×Á xA×Á D)
 | []=>Â|.v d::as=>(Ég).bind λr=>À (d::r.1,r.2)|.p i π::as=>(Öj).bind λb=>À ([],i,π,b)
nonrec def vN(ds:Á D):Á M:=ģd .fz
def kC(F:FM)(as:Á AV)(β:zb):É Ŋc:=match Zo as with
 |À ds=>(Ϩn).bind λr=>À (r.2,β)|Â=>(Ég).bind λc=>(Ϧk).bind λb=>(ďk).bind λr=>(łl).bind λa=>(ŀk).bind λβ'=>À (r.2,β')
def kD(F:FM)(f:vX):xj:=λβ=>(ϴ).bind λa=>kC F a β
section
variable{K:Ï}{n:Ä}{P:Á V}{G0 H0 G H G' H':Hp}{β:zb}{σ:St}
theorem Ym:∀{ds:Á D}{vs:Á V},å K G ds vs->Ŋ K G H (vN ds) vs Ġf
 | [],_,r=>{r,λ_ z=>z}|d::ds,_,r=>by let{v,r,rfl,b,a}:=r;show{v,r,λ_=>í,λ_=>í,rfl,{b,λ_ z=>z},Ym a,λ_ z=>Ę,λq=>{λz=>Ę,λz=>Ę id id}}
theorem Es{f:M}{v1:V}{c:Ft}(o:yb K G H f v1 c){b:Á D}{vb:Á V}(e:å K G b vb):∀{a:Á D}{va:Á V},å K G a va->Ŋ K G H (vN a++f::vN b) (va++v1::vb) c
 | [],va,r=>by cases(show va=[]from r);show{v1,vb,c,λ_=>í,rfl,o,Ym e,λ_ _ z=>z,λq=>{.inl,λz=>Ę id ń}}|d::ds,_,r=>by let{v,r,rfl,h,g}:=r;show{v,_,λ_=>í,c,rfl,{h,λ_ z=>z},Es o e g,λ_ z=>Ę,λq=>{.inr,λz=>Ę ń id}}
theorem Xj:∀{as:Á AV}{ds:Á D}{vs:Á V},Zo as=À ds->Y8 K G H σ as vs->å K G ds vs
 | [],ds,vs,e,r=>by cases e;show r|.v d::as,ds,vs,e,r=>by let{a,c,e}:=zC e;cases e;let{v,r,rfl,f,b}:=r;show{v,r,rfl,f,Xj c b}
 |.p i π::as,ds,vs,e,r=>by cases e
theorem Du:∀{as:Á AV}{a b:Á D}{i:Ä}{π:Á xA}{vs:Á V},VI as=À (a,i,π,b)->Y8 K G H σ as vs->∃va v1 vb w,vs=va++v1::vb/\å K G a va/\å K G b vb/\σ[i]?=À (À w)/\xc K H w π v1
 | [],a,b,i,π,vs,e,r=>by cases e|.v d::as,a,b,i,π,vs,e,r=>by obtain⟨⟨o,q,π',k⟩,g,e⟩:=zC e;cases e;let{v,r,rfl,l,c}:=r;let{va,v1,vb,w,rfl,n,m,h,f}:=Du g c;show⟨v::va,v1,vb,w,rfl,{v,va,rfl,l,n},m,h,f⟩
 |.p j ρ::as,a,b,i,π,vs,e,r=>by let{k,g,e}:=zC e;cases e;let{v,r,w,rfl,h,va,c}:=r;show{[],v,r,w,rfl,rfl,Xj g c,h,va}
theorem Qj{v1:V}{f:M}:∀{ms:Á M}{vs:Á V}{L:Ft}{k:Ä},Ŋ K G H ms vs L->ms[k]?=À f->vs[k]?=À v1->∃L2,yb K G H f v1 L2/\∀q,L2 q->L q
 | [],_,_,_,_,e,_=>by cases e|m::ms,_,L,0,h,e1,e2=>by let{v,r,a,g,rfl,c,b,d,u}:=h;cases e1;cases e2;show{a,c,λq z=>(ϑ).mpr Ċa}
 |m::ms,_,L,k+1,h,e1,e2=>by let{v,r,a,g,rfl,c,b,d,u}:=h;let{L2,o,s}:=Qj (k:=k) b ďl Ďl;show{L2,o,λq z=>(ϑ).mpr (.inr Ĭb)}
def zc.call{F:FM}{as:Á AV}{vs:Á V}{m:M}{β':zb}{Q:VK}{E0:XK}(E:zc K n P G0 H0 G H β σ)(I:Y8 K G H σ as vs)(c:kC F as β=À (m,β'))(q:∀v G' H',zg G G'->zc K ŋ P G0 H0 G' H' Ýf ąa->Q v H'):yY K F vs H Q E0:=by
 unfold kC at c
 split at c;rename_i ds e;rw[Áq];cases c;show{G,_,_,_,_,ŵ,Ym (Xj e I),λ_ z=>Ę,p,λv G' H' X x o f=>?_}
 let r:cut H Ġf=H:=by
  funext q
  show tm (λz=>z)
 rw[r]at x;let{R,Z,J,Lb,e2,l,s,C,u}:=o;cases e2
 show q v G' H' x.g (E.Wp x l λq z=>by let{a,b}:=f q ϊd;rw[r]at b;show{a,b});obtain⟨⟨a,i,π,b⟩,W,c⟩:=zC c;let{nd,L,c}:=zC c;rw[Áq];let{nd',k,c}:=zC c;let{β2,t,c}:=zC c;cases c;let{mm,y,ha}:=jf L;let{w,v1,T,er,va,l,g1,S}:=øj y ha;let{xa,N,xb,w',rfl,A,r2,d,h}:=Du W I;rw[er]at d;cases d;cases źb va h;show{G,_,T,_,_,ŵ,Es l r2 A,g1,p,λv G' H' X x o f=>?_};let{R,Z,J,Lb,e2,oa,U,C,u}:=o;cases e2
 let{L2,s,B}:=Qj (v1:=v1) U k (by rw[<-A.length,ńb ğ,ēb];rfl)
 let{m3,Y,K3}:=S x oa s (λq z w=>C q z Ĭi) (λq z=>by rcases z with z|z;show f q ϊd;show f q (ο (B q z)))
 rw[Vr y Y]at t;cases t;show q v G' H' x.g K3
#print a
section
variable{X:Cx}{x m c:Ç}{ps:Á Ç}{j k:Ä}{F:FM}{e o:Ñ}{es:Á Ñ}{fa:vX}{p pos ž:Pos}{i:Ä}{π:Á xA}
def W4(h:xE ì X.w X.K â Ĥ x ps k Šb)(f:yG j X.A)(n:Gl X x)(m:MA X ă fa)(hk:Ì Ùa q10)(a:Ì Ģ q10)(r:Ì Ϣ q12):MC X ċa (kD F fa):=by
 let{t,o,i}:=m.h;show{{_,Ql h f n o hk a r,λE b q=>?_}};let{H,c,b}:=zC b;show i E c λC B G d z=>?_
 rw[ŏ];show(Ϯ d).call z b λv u l s y=>q v u l (d.g.trans s) y
def wn(P:à)(w:ß)(K:Ï)(a:Ç->É Value)(È:Heap)(c m:Ç)(ps:Á Ç)(k:Ä)(sp:Sp):Æ:=
 ∃(C f:Ë) (fd:ĝ),Ē K õ c=À š/\vK K C/\Xb K C m f/\xN K fd ps []/\yT P w K a È yo k f fd ps sp
def pY(c m:Ç)(i:Ä)(π:Á xA)(F:FM)(f:vX):xj:=λβ=>(ģc).bind λa=>match a with
 |.obj x fs _=>match decide (x=c)&&!(decide (m∈fs))with
  |Ã=>(ϴ).bind λb=>kC F (.p i π::b) β|Å=>Â
 |_=>Â
theorem L4{f:Ç}:∀{fs:Á Ç}{vs:Á V},f ∉ fs->(Ϟn).lookup f=Â
 | [],_,_=>rfl|_::_,[],_=>rfl|g::fs,v::vs,h=>by
  rw[Öb,Ŵd]
  let c:(f==g)=Å:=by
   let:f≠g:=λz=>h (z▸Ō)
   simpa using this
  rw[c];show L4 λz=>h ċi
def AA{P:Á V}{d b G H:Hp}{β β':zb}{σ:St}{B:M}{Q:VK}{C:Ë}{t:TA}{z:TE}{E0:XK}(j:Ē X.K õ c=À š)(J:∀{σ:St}{H:Hp}{v u:V}{Q:VK},σ[i]?=À Ϗ->xc X.K H v π u->Q u H->z σ H Q)(R:∀{P:Á V}{d b G H:Hp}{β:zb}{σ:St}{as:Á AV}{Q:Á V->Hp->Æ},zc X.K ê P d b G H β σ->fa β=À as->(∀vs G' H',zK G H G' H'->Y8 X.K G' H' σ as vs->Q vs H')->t σ H Q)(E:zc X.K ê P d b G H β σ)(n:pY c m i π F fa β=À (B,β'))(q:∀v G' H',zg G G'->zc X.K Ϻi P d b G' H' (β'++[À B]) ąa->Q v H'):MP C m Šb [] E0 z t σ H Q:=by
 let{nd,I,a}:=zC n
 rw[êp];rename_i x U ms
 rw[êp];rename_i e;rw[ć]at e;cases ı e.1
 let T:m ∉ U:=by let:=e.2;simpa using this
 let{as,f,n}:=zC a;let{mm,k,S}:=jf I;let{w,v1,L1,A,y,Y,_}:=øj k S;let{p,C',L,vs,L',rfl,r,O,l,rs,nL,uL}:=Y;rw[j]at r;cases r;show J A y {p,L,_,rfl,O,L4 T,?_};show R E f λvs G1 H1 o ra=>?_
 rw[ŏ];show(Ϯ o).call (as:=.p i π::as) {_,vs,w,rfl,A,y.mono o.h,ra} n λv G' H' s Z=>q v G' H' (Ģo s) Z;rw[Êq]
def Vl{pl:Sem Ò}(h:wn ì X.w X.K â Ĥ c m ps k Šb)(a:yG j X.A)(n:SP X o i π)(hk:Ì Ùa q10)(g:Ċ ϝb Ó=(do
   let ov <-Ċ o Ó
   standAt ęb
   let (f,first) <-holding ýb Ôb
   ϒa pos f first ŋd ŵa):=by rfl):MC X ϝb (pY c m i π F wO):=by
 let{C,f,B,l,x,y,b,p}:=h;let{I,r,u}:=n.h;show{{_,LW r x y p (a.mono hk) b .nil kY g,λE s q=>AA (t:=gT) l u (λ{P z J G H β σ L Q} d e v=>by cases e;show v _ _ _ (āa d.ext.gh) rfl) E s q}}
def Io(P:à)(w:ß)(K:Ï)(a:Ç->É Value)(È:Heap)(c:Ç)(ps:Á Ç)(k:Ä)(sp:Sp):Æ:=
 ∃(C f:Ë) (fd:ĝ),Ē K õ c=À š/\a c=À ú/\Mk K C f/\xN K fd ps []/\yT P w K a È yo k f fd ps sp
def FZ(c:Ç)(F:FM)(f:vX):xj:=λβ=>(ϴ).bind λb=>(Zo b).bind λa=>(F (.obj c [] []::vN a)).bind λr=>match r.2 with
 |.fz .zI=>(ĝi).bind λm=>À (m,β)|_=>Â
def z3n(h:Io ì X.w X.K â Ĥ c ps k Šb)(hr:yG j X.A)(hg:Gl X c)(ha:MA X ă fa)(hk:Ì Ťi q10)(W:Ì Ňf q10)(S:Ì Ϣ q12) :MC X ĉi (FZ c F fa):=by
 let{C,f,fd,ns,R,mk,b,FF}:=h;rw[ϫp];show{{_,cD mk FF ąf hg R b .nil kY pa W (vS S.1) (qe S.2),λ{P G0 H0 G H β β' σ mr Q} E d q=>?_}};rw[ϒp];obtain⟨⟨U,m'⟩,hF,d⟩:=zC d;show ka E O λvs I m x1 ra y i r l ne=>?_
 rw[ŏ];let N:=Ϯ x1;let rd:=Xj J ra
 rw[îp];rename_i em
 change m'=.fz .zI at em
 subst em;let{m0,h0,d}:=zC d;cases d;let T:∀q,q≠y->q≠i->upd ϻm y ľh q=m q:=λq z w=>by rw[zr z,zr w]
 let gy:I y=Â:=ϝm r
 let s2:zg I Ŏe:=λq o z=>by let s:=Ői _ _ z;rw[T q (λc=>by subst c;rw[r]at s;cases s) (λc=>by subst c;rw[l]at s;cases s)];show s
 show{I,.obj c [] []::vN ds,λq=>q=y,U,.fz .zI,s2,{_,vs,λq=>q=y,λ_=>í,rfl,{y,C,i,[],λ_=>í,rfl,ns,yE,rfl,{rfl,λ_ z=>z},λz=>z,λq=>{.inl,λz=>Ę id ń}},Ym rd,λ_ _ z=>z,λq=>{.inl,λz=>Ę id ń}},λq z=>z▸gy,hF,λv G' H' L' x o hN=>?_};rw[áp];let{L2,o2,Y}:=Qj (v1:=.ref y) ob h0 rfl
 let Z:∀q,cut Ŏe Åi q=Â->m q=Â:=λq z=>by rcases Ts z with z|z;show z▸r;by_cases n:q=y;show n▸r;by_cases B:q=i;show B▸l;rw[T q n B]at z;show z
 let x3:zK I m G' H':=⟨x.g,λq o z=>x.h _ _ (by
  let n:q≠y:=λc=>by subst c;rw[r]at z;cases z
  let B:q≠i:=λc=>by subst c;rw[l]at z;cases z
  rw[tm (L:=λq=>q=y) n,T q n B];show z),ϸ,λq z=>by
  rcases Ϟa q z with w|w;rw[ĥp];show .inr (Z q w)⟩
 show q _ G' H' Òo (N.Wp x3 o2 λq z=>by let{a,b}:=hN q (ο (Y q z));show{a,Z q b});cases d
#print a
section
variable{K:Ï}{G H:Hp}
theorem Řn:∀{ms:Á M}{vs:Á V}{L:Ft},Ŋ K G H ms vs L->∃Ls:Ä->Ft,(∀(i:Ä)(m:M),ms[i]?=À m->∃v,vs[i]?=À v/\yb K G H m v Ďj)/\(∀(i j:Ä)(q:Ë),i≠j->Ls i q->Ls j q->í)/\∀i q,Ls i q->L q
 | [],_,_,_=>{λ_ _=>í,{λi m h=>Īn,{λ_ _ _ _ z=>Ę,λ_ _ z=>Ę}}}|m::ms,_,L,h=>by
  let{v,r,k,t,rfl,p,l,d,u}:=h;let{Ls,n,s,a}:=Řn l;show{λi=>match i with|0=>k|j+1=>Ls j,λi o e=>?_,λi j q g f b=>?_,λi q z=>?_};cases i with
  |ſ=>cases e;show{v,rfl,p}|ϊ j=>show n j o ňa
  cases i with
  |ſ=>
   cases j with
   |ſ=>show g rfl|ϊ j=>show d q f (a j q b)
  |ϊ i=>
   cases j with
   |ſ=>show d q b (a i q f)|ϊ j=>show s i j q (λc=>g (by rw[c])) f b
  cases i with
  |ſ=>show(ϑ).mpr Ċa|ϊ j=>show(ϑ).mpr (.inr (a j q z))
theorem ϸh:∀{ms:Á M}{vs:Á V}{Ls:Ä->Ft},(∀(i:Ä)(m:M),ms[i]?=À m->∃v,vs[i]?=À v/\yb K G H m v Ďj)->(∀(i j:Ä)(q:Ë),i≠j->Ls i q->Ls j q->í)->ø=ό->∃L,Ŋ K G H ms vs L/\∀q,L q->∃i,i<ό/\Ls i q
 | [],vs,Ls,_,_,l=>by
  cases vs with
  |nil=>show{λ_=>í,{rfl,λ_ z=>z},λ_ z=>Ę}|î v r=>cases l
 |m::ms,[],Ls,_,_,l=>by cases l|m::ms,v::vs,Ls,h,d,l=>by
  let{L,o,c}:=ϸh (ms:=ms) (vs:=vs) (Ls:=λi=>Ls ē) (λi k e=>by let{u,a,b}:=h ē k ňa;show{u,by simpa using a,b}) (λi j q p=>d ē ϵ q Î) Ēe
  let{u,a,b}:=h 0 m rfl;cases a;show{λq=>Ls 0 q\/L q,{v,vs,Ls 0,L,rfl,b,o,λq n g=>?_,λq=>ğa},λq z=>?_};let{i,_,z}:=c q g;show d 0 ē q Î n z;rcases z with z|z;show{0,ïn _,z};let{i,f,z}:=c q z;show{i+1,Ϭl f,z}
#print a
nonrec def pW:Á Àj->É (Á M)
 | []=>À []|o::r=>åj λm=>(pW r).bind λa=>À (m::a)
def OK(np:Ä):tW->É Ôf
 |.rt m β=>(ύl).bind λa=>À (a,m)|.nx β=>(ύl).bind λa=>À (a,.fz .zI)|_=>Â
def jl(np n:Ä)(b:yC)(ms:Á M):É Ôf:=(Ãk).bind (OK np)
def vM(np n:Ä)(b:yC):FM:=λa=>if Ϫ=np then jl np n b a else Â
def vj{np n:Ä}{b:yC}:∀ms r,vM np n b ms=À r->ό=np/\jl np n b ms=À r:=λms r h=>by
 unfold vM at h
 rw[ãp]
theorem Sc:∀{os:Á Àj} {ms:Á M},pW os=À ms->ό=os.length/\∀(i:Ä)(m:M),ms[i]?=À m->os[i]?=À ϔa
 | [],ms,h=>by cases h;show{rfl,λi m e=>by cases e}|o::r,ms,h=>by
  let{d,c,h}:=zC h;let{b,a,h}:=zC h;cases h;subst c;let{l,g}:=Sc a;refine{by rw[Ĩ,Ĩ,l],λi m e=>?_};cases i with
  |ſ=>cases e;rfl|ϊ j=>show g j m ňa
section
variable{K:Ï}
def ET{N:Á Ç}{G H:Hp}{ms:Á M}{vs:Á V}{L:Ft}(s:zg G H)(o:Ŋ K G H ms vs L)(k:∀q,L q->G q=Â)(w:ό<=Ū):zc K Ū vs G Ûe G H (ms.map À++Ů (Ū-ό) Â) Âi:=by
 let l:=ľa;let{j,g,t,b}:=o.split;let d:∀q,L q->Bx H q:=ĥc (λm _ v p r=>r.cells m v p) o
 let a:∀(i:Ä)(v:V),vs[i]?=À v->Âi[i]?=À Ϗ:=λi v e=>by unfold ϱd;rw[Òb (Βe (Ť e)),Üa,e];rfl
 show{{ĵa _,λq o e=>?_,s,λq z=>.inl z},?_,?_,by omega,a,j,λi m h=>?_,t,λi q z=>{k q ġi,AJ ġi,d q ġi}};rw[Ĥp];rw[AJ c]at e;cases e;rw[tm c]at e;show e;unfold ϱd;rw[Ħp];rw[Ħp];let{u,e,z}:=LB h;cases z;let{v,f,n}:=g i _ e;show{v,a i v f,n}
def Qc{n:Ä}{s r G H:Hp}{vs:Á V}{β:zb}{σ:St}{m:M}{v:V}{ms:Á M}(E:zc K ŋ vs s r G H Ġc ąa)(x:ø<=n)(h:pW (β.take ø)=À ms) :∃L,Ŋ K G H Çj Àg L/\∀q,L q->G q=Â/\r q=Â:=by
 let{Ls,F}:=ϡ;let{l,g}:=Sc h;rw[Ôa,ûc,Őa x]at l;let{u,k,A}:=ϛ n m œf;rw[vo Ůc]at k;cases k
 let{L,o,y}:=ϸh (K:=K) (G:=G) (H:=H) (ms:=m::ms) (vs:=v::vs) (Ls:=λi=>match i with|0=>Ls n|j+1=>if j<n then Ls j else λ_=>í) (λi c e=>by
  cases i with
  |ſ=>cases e;show{v,rfl,A}|ϊ j=>
   let p:ms[j]?=À c:=by rw[Ŷp]
   have d:j<ø:=by rw[<-l];show(Ť p).1
   let e2:=g j c p;rw[īl]at e2;rw[Ö d]at e2;let{w,C,B}:=ϛ j c (by rw[wl (by rw[ûc];omega)];show e2);let f:=Ûa j (vs[j]) Ėe;rw[C]at f;cases f;refine{vs[j],by simp[d],?_};simp only[Ö (show j<n by omega)];show B) (λi j q t b a=>by
  cases i with
  |ſ=>
   cases j with
   |ſ=>show t rfl|ϊ j=>
    dsimp only at b a
    rw[êp];show ŭ n j q Î b a;show a
  |ϊ i=>
   cases j with
   |ſ=>
    dsimp only at b a
    rw[ϰp];show ŭ n i q Î a b;show b
   |ϊ j=>
    dsimp only at b a
    rw[ϰp];rw[êp];show ŭ i j q Î b a;show a;show b) œl
 show{L,o,λq z=>?_};let{i,_,z}:=y q z;cases i with
 |ſ=>show{čf.1,čf.2.1}|ϊ j=>
  dsimp only at z
  rw[ēp];show{Řb.1,Řb.2.1};show Ę
#print a
structure xV(K:Ï)(x ça:Ç)(st:Ô)(f:Ë)(fd:ĝ):Æ where
 ex:∃(oc:Value) (od:É Ë) (dV kV doc pm:Value) (an:É Ë) (cdv ct:Value) (osl:Ú ĉa),
  fd=Âb x ça Ëc ź ģ dV kV doc pm an cdv ct/\Ÿ f=À {oc,od,.func fd,osl}/\ϓa K cdv ça=Ã
 kp:ϕ K Đ=Ã
def _root_.L2.Fun.v{K:Ï}{x a:Ç}{st:Ô}{f:Ë}{h:ĝ}(F:Fun K x a st f h):xV K x a st f h:=by let{i,n,kV,c,l,m,g,j,d,e,k,b}:=F.ex;show{{i,n,.none,kV,c,l,m,g,j,d,e,k,b},F.kp}
section
variable{P:à}{w:ß}{K:Ï}{mg:Ç->É Value}{È:Heap}
def C7{x a:Ç}{st:Ô}{f:Ë}{j:Value}{m i:É Ë}{e:Ú ĉa}{g kV d h b ct:Value}(l:Ÿ f=À {j,m,.func Ϝj,e})(c:ϓa K b a=Ã)(k:ϕ K Đ=Ã):xV K x a st f Ϝj:={{j,m,g,kV,d,h,i,b,ct,e,rfl,l,c},k}
def xV.ok{x a:Ç}{st:Ô}{f:Ë}{i:ĝ}{N ps:Á Ç}{k:Ä}{sp:Sp}(F:xV K x a st f i)(S:zh N ps ģ)(d:∀vs H Q E,sp vs H Q E->ø=Ĉ)(c:∀(b:Value)(A:è)(é:Á Env)(s:Í)(H:Hp)(vs:Á V)(Q:VK)(E:XK),yG k Ĭk->sp vs H Q E->
   ∃t,wy (ūj).wZ ź t/\t { nx:=λ_ H'=>Q .zI H',rt:=Q } όa H):yT P w K mg È yo ĸ f i ps sp:=by
 let{r,p,o,kV,m,v,y,b,u,n,rfl,l,g}:=F.ex;show Q5 l g S d λA é s H vs Q E j e=>?_
 rw[Ŀp]
def xV.Uu{x c:Ç}{st:Ô}{f:Ë}{R:ĝ}{N ps:Á Ç}{k:Ä}{F:FM}{b:yC}(d:xV K x c st f R)(S:zh N ps ģ)(T:Ĉ<=Ū)(W:∀ms r,F ms=À r->ό=Ĉ/\jl Ĉ Ū b ms=À r)(hb:∀(g:Value)(A:è)(é:Á Env)(s:Í)(H:Hp)(E:XK),yG k īk->tZ (Ūj).wZ Ĉ ź b):yT P w K mg È yo ĸ f R ps õe:=by
 show d.ok S (λU H Q E h=>?_) λg A é s H U Q E X h=>?_;let{G,ms,L,n,Y,_,o,_,e,_}:=h;rw[ľa,(W _ _ e).1];let{G,ms,L,n,Y,s',o,hL,e,q}:=h;let{l,a}:=W _ _ e;let{t,p,kt}:=(hb g A é s H E X).h;let{Z,z,a}:=zC a;let i:U.length=Ĉ:=by rw[ľa,l]
 refine{t,p,kt i ťk z ?_};cases Z with
 |nx β=>let{y,I,a}:=zC (show(ϭe).bind _=_ from a);cases a;intro σ O u j;let{J,C,B}:=Qc þk ϒl ϔl;show q .zI O u J ûg C B
 |rt m β=>let{y,I,a}:=zC (show(ϭe).bind _=_ from a);cases a;intro σ v O u j;let{J,C,B}:=Qc j ϒl ϔl;show q v O u J ûg C B
 |_=>cases a
def xV.lU{x c:Ç}{st:Ô}{f:Ë}{j:ĝ}{N ps:Á Ç}{k:Ä}{F:Á D->É ð}{b:FS}(d:xV K x c st f j)(S:zh N ps ģ)(O:Ĉ<=Ū)(m:∀ds r,F ds=À r->ĉ=Ĉ/\vF Ū b ds=À r)(J:∀(g:Value)(A:è)(é:Á Env)(s:Í)(H:Hp)(E:XK),yG k īk->vY (Ūj).wZ ź b):yT P w K mg È yo ĸ f j ps øe:=by
 show d.ok S (λI H Q E h=>?_) λg A é s H I Q E n h=>?_;let{G,ds,o,B,_,r,e,_}:=h;rw[ŷ,ϗo.1];let{G,ds,o,B,v,r,e,q}:=h;let{l,a}:=m _ _ e;let{t,p,y}:=(J g A é s H E n).h;let{C,i,a}:=zC a;refine{t,p,y (Q0 (N:=N) v r Î) i ?_};cases C with
 |nx τ=>cases a;show λσ L u z=>q .zI L u Ķe rfl|rt o' d'=>
  cases o' with
  |Å=>cases a<;>show q|Ã=>cases a<;>show q
 |_=>cases a
theorem Def.Uu{x:Ç}{st:Ô}{N ps:Á Ç}{k:Ä}{F:FM}{b:yC}(d:Def K mg x st ps)(S:zh N ps ģ)(h:Ĉ<=Ū)(g:∀ms r,F ms=À r->ό=Ĉ/\jl Ĉ Ū b ms=À r)(i:∀(f:Ë)(a:Value)(A:è)(é:Á Env)(s:Í)(H:Hp)(E:XK),yG k Űe->tZ (ģg).wZ Ĉ ź b):xE P w K mg È x ps ĸ õe:=by let{f,j,e,l,c}:=d;show{f,j,l,e.kp,c,e.v.Uu S h g (i f)}
def uc(F:FM):Á D->É ð:=λa=>(F (vN a)).bind λr=>match r.2 with
 |.fz d=>À (Å,d)|.own d=>À (Ã,d)|_=>Â
def eS{F:FM}{vs:Á V}{H:Hp}{Q:VK}{E:XK}(h:xJ K (uc F) vs H Q E):yY K F vs H Q E:=by
 let{G,n,o,d,s,r,e,q}:=h;obtain⟨⟨c,g⟩,y,e⟩:=zC e
 let i:cut H Ġf=H:=by
  funext q
  show tm (λz=>z)
 show{G,vN n,λ_=>í,c,g,s,Ym r,λ_ z=>Ę,y,λv k f I x w l=>?_};rw[i]at x;let{B,J,A,L,e2,j,C,N,u}:=w;cases e2;cases g with
 |fz d'=>cases e;show q v k f x j.1|own d'=>cases e;let{p,rfl,t,m}:=j;let{a,b}:=l p ((u p).mpr (.inl ((m p).mpr rfl)));rw[i]at b;show q p k f x b a t
 |_=>cases e
def xE.Pk{x:Ç}{ps:Á Ç}{k:Ä}{F:FM}(h:xE P w K mg È x ps k õe):xE P w K mg È x ps k (xJ K (uc F)):=by let{f,d,e,c,b,a}:=h;show{f,d,e,c,b,a.imp λg H Q E z=>eS z}
#print a
def xy(K:Ï)(n:Ä)(P:Á V)(b a G H:Hp)(β:zb)(σ:St)(ms:Á M)(vs:Á V):Æ:=
 ∃(L:Ft) (H1:Hp),zc K n P b H1 G H β σ/\Ŋ K G H ms vs L/\(∀q,L q->G q=Â/\a q=Â/\H1 q=H q)/\∀q,¬ L q->H1 q=a q
section
variable{K:Ï}{n:Ä}{P:Á V}{G0 H0 G H G' H':Hp}{β:zb}{σ:St}
def zc.hold{m:M}{v:V}(t:ϖ<=n)(E:zc K ŋ P G0 H0 G H Ġc ąa):∃(L:Ft) (H1:Hp),zc K n P G0 H1 G H β σ/\yb K G H m v L/\(∀q,L q->G q=Â/\H0 q=Â/\H1 q=H q)/\∀q,¬ L q->H1 q=H0 q:=by
 classical
 let{e,F}:=ϡ;let{u,k,r}:=ϛ n m œf;rw[vo Ůc]at k;cases k
 let +zeta H1:Hp:=λq=>if e n q then H q else H0 q
 let e1:∀q,e n q->H1 q=H q:=λq z=>Ö z
 let e2:∀q,¬ e n q->H1 q=H0 q:=λq z=>Ø z
 let f:=E.down t;show{e n,H1,{{Ŏc,λq o z=>?_,ŵ,λq z=>?_},f.l1,f.l2,t,f.pin,λj=>if j<n then e j else λ_=>í,λi y h=>?_,λi j q x s p=>?_,λi q z=>?_},r,λq z=>{čf.1,čf.2.1,e1 q z},e2};by_cases c:e n q;rw[ϊp];rw[Ϗp];rcases Ϗa q z with w|w;rw[ĥp];by_cases c:e n q;show Þ ϑh.1 z;show .inr ăh;have l:i<n:=by rw[<-f.l2];show öa.1
 let{u,k,r}:=ϛ i y (by rw[wl (by rw[f.l2];show l)];show h);rw[wl (by rw[f.l1];show l)]at k;simp only[Ö l];show{u,k,r};split at s;split at p;show ŭ i j q x s p;show p;show s;rw[ēp];rw[ϗp];let{a,b,d}:=Ϸ i q z;show{a,(e2 q λw=>ŭ i n q Î z w).trans b,d};show Ę
def xy.nil(E:zc K n P G0 H0 G H β σ):xy K n P G0 H0 G H β σ [] []:={λ_=>í,H0,E,{rfl,λ_ z=>z},λ_ z=>Ę,λ_ _=>rfl}
def ώi{m:M}{v:V}{L:Ft}{l:Hp}{ms:Á M}{vs:Á V}(o:yb K G H m v L)(d:∀q,L q->G q=Â/\H0 q=Â/\l q=H q)(r:∀q,¬ L q->l q=H0 q)(x:zg G0 G)(s:zg G G')(h:xy K n P G0 l G' H' β σ ms vs):xy K n P G0 H0 G' H' β σ Çj Àg:=by
 let{k,p,i,t,a,b}:=h;let j:∀q,L q->Bx H q:=Ϝf m v L
 let f:∀q,L q->¬ k q:=λq z w=>by let e:=Ĝe.2.1;rw[çc.2.2]at e;show(Įf).some e
 let c:∀q,L q->H' q=H q:=λq z=>by let{u,g,_}:=j q z;rw[g];show i.ext.h _ _ ?_;rw[b q Ðj,çc.2.2];show g
 show{λq=>L q\/k q,p,i,{v,vs,L,k,rfl,Şc s m v L c,t,f,λq=>ğa},λq z=>?_,λq z=>?_};rcases z with z|z;show{?_,çc.2.1,by rw[b q Ðj,çc.2.2,c q z]};cases e:G' q with
 |Â=>rfl|À w=>
  let{u,g,_}:=j q z;let e2:p q=À u:=by rw[b q Ðj,çc.2.2];show g
  rcases i.ext.new q Źc with w|w;cases e3:G0 q with
  |Â=>show Þ e3 w|À o3=>have:=x _ _ e3;rw[çc.1]at this;cases this
  rw[e2]at w;cases w
 show{Ęd.1,?_,Ęd.2.2};let e:=Ęd.2.1;rw[r q λw=>f q w z]at e;show e;rw[b q λw=>z ĕb,r q λw=>z Óc]
#print a
nonrec def pj:zb->É çb:=λβ=>À ([],β)
nonrec def vZ(f:xj)(r:zb->É çb):zb->É çb:=λβ=>(ϴ).bind λa=>(r a.2).bind λb=>À (a.1::b.1,b.2)
#print L3
namespace L2
open č Ĕ ł ď
section
variable{X:Cx}{c e:Ñ}{es:Á Ñ}{t:TA}{tc:TE}{pos:Pos}{j:Ä}
nonrec def y6w(X:Cx)(j:Ä)(tc:TE)(t:TA):TE:=λσ H Q=>tc σ H λv b=>∃(f:Ë) (fd:ĝ) (ps:Á Ç) (k:Ä) (sp:Sp),v=.ref f/\k<=j/\ϕ X.K Đ=Ã/\xN X.K fd ps []/\yT ì X.w X.K â Ĥ yo k f fd ps sp/\t σ b λa c=>sp (a++[]) c Q E0
def y03(m:yG j X.A)(n:PE X c tc)(w:PA X ă t)(d:Ì Ϣ q12)(a:Ì (Ċ äl Ó=(do ϒa pos (<-Ċ c Ó) [] ϖb ŵa)) q12):PE X äl (y6w X j tc t):=by rw[Ϩp];rw[Ő,ć]at d;rw[a];show Ð (zn (n g s σ H _ I h) λu z ⟨v,K,x,y,f,C,L,k,N,l,p,o,b,F,q⟩=>?_);subst l;cases y;show Ϲb (h₀:=Ĥ) Ác o (zn (w pos g z σ _ _ x q) λB G ⟨J,E,i,r,q⟩=>{i.ye,?_}) (vS d.1) (qe d.2);show Vx F (m.mono p) b .nil kY i r q
#print a
#print L2
namespace L3
open č Ĕ ď L2
def YJ(K:Ï)(w:ß)(b:Ç->É Value)(a:Ë)(ks:Á zR)(ns:Á Ç):Æ:=
 ∃fs:Á Ë,ßa=Å/\ŉ=Ķa/\(∀(i:Ä)(n:Ç),ns[i]?=À n->∃f,fs[i]?=À f/\b n=À Đ)/\Ŷ=Ķa/\∀(P:à)(h:Heap),İ h->∃vs,KV (Ög Āi) vs/\õd ķa a vs
inductive Xc(mg:Ç->É Value):Á Ç->Á Ë->Æ
 |nil:Xc mg [] []
 |î {n:Ç} {f:Ë} {ns:Á Ç} {fs:Á Ë} (h:mg n=À Đ) (r:Xc mg ns fs):Xc mg Æj (f::fs)
theorem Xc.at_{c:Ç->É Value}:∀{ns:Á Ç}{fs:Á Ë},Xc c ns fs->(∀(i:Ä)(n:Ç),ns[i]?=À n->∃f,fs[i]?=À f/\c n=À Đ)/\Ŷ=Ķa
 |_,_,.nil=>{λi n h=>Īn,rfl}|_,_,.cons h r=>by
  let{a,b}:=r.at_;show{λi n e=>?_,by rw[Ĩ,Ĩ,b]};cases i with
  |ſ=>cases e;show{_,rfl,h}|ϊ i=>show a i n ňa
theorem h9:∀{fs:Á Ë},zk Āi ŏo
 | []=>.nil|_::_=>.cons rfl h9
def z0q{K:Ï}{d:Ç->É Value}{w:ß}{a:Ë}{es:Á ġb}{n:Ä}{xs ns:Á Ç}{fs:Á Ë}(l:Ÿ a=À { cls:=.type ϗ,Č:=.dict ϭh n })(e:j_ w es xs ŏo)(g:ĺc)(f:ßa=Å)(m:Xc d ns fs) :YJ K w d a ġc ns:=by
 let c:(Źb ñb:Á zR).length=(Āi).length:=by rw[þ,e.len,þ,þ]
 let{j,i}:=m.at_;refine{fs,f,by rw[c,þ],j,i,λP h k=>{_,EN h9 c,?_}};rw[Ϣp];refine{_,_,_,k _ _ l,{rfl,rfl,rfl},rfl,λe o=>q e (by simpa using o),p,?_};rw[Mr Ũg];show Ãh _ łg g
section
variable{X:Cx}
def z0o{A:Ë}{ks:Á zR}{ns:Á Ç}(g:YJ X.K X.w â A ks ns):ya X Ôe (λx y H Q=>y=.ref A/\∃k,x=kV k/\Q ħm H):=by intro l s σ H x y v u Q I f i h;let{rfl,k,rfl,q}:=h;cases i;let{m,a,c,_,_,e}:=g;let{j,b,d}:=e ì Ü ŝ;show Ņn (kN f) a Ϙi ?_;rw[<-(b.val k).Wn,WX k đl,CC k đl];show{.bl _,H,Ž _,rfl,q}
def y6g{A:Ë}{ks:Á zR}{ns:Á Ç}{x:Ç}{p pos:Pos}{a:Ñ}{e:FE}(h:wN â x īb)(g:YJ X.K X.w â A ks ns)(n:Gl X x)(j:SE X a e)(r:Ì Ģ q10)(m:Ì (ϲb .In þa=Å) q12) :ST X (.Compare a [.In] [.Name x p] pos) (tE (e1 (Ag ks) e)):=by let{I,o,f}:=j.h;show{{_,G9 (z0o g) o (WF h n r) m,λ{v F G H τ σ d Q} E c q=>?_}};let{z,b,c}:=zC c;let{y,s,b}:=zC b;let{k,i,b}:=zC b;cases b;cases c;show f E s λu B C t l=>{rfl,k,ZX i l,_,rfl,q _ _ t}
def z0p{A:Ë}{ks:Á zR}{ns:Á Ç}(g:YJ X.K X.w â A ks ns):qw X (λx y H Q=>x=.ref A/\∃k n,y=kV k/\ŗ ks ns k=À n/\∀f,â n=À Đ->Q Đ H):=by
 intro l j Z s σ H x y v u Q I O S h E;let{rfl,k,n,rfl,G,q}:=h;cases O;let{a,t,Y,b,W,L}:=g;let{P,m,B}:=L ì Ü ŝ
 let d:∀{ks:Á zR}{ns:Á Ç}{a:Á Ë},(∀(i:Ä)(n:Ç),ns[i]?=À n->∃f,a[i]?=À f/\â n=À Đ)->ŗ ks ns k=À n->∃f,ŗ ks (a.map ūa) k=À Đ/\â n=À Đ:=λ{ks}=>by
  induction ks with
  |nil=>intro ns a _ e;cases e|î k' ks ih=>
   intro ns a b e;cases ns with
   |nil=>cases e|î n' ns=>
    let{f0,C,J}:=b 0 n' rfl;cases a with
    |nil=>cases C|î f1 a=>cases C;unfold ŗ at e;rw[ϰ];unfold ŗ;by_cases c:k'=k;rw[Ö c]at e ⊢;cases e;show{_,rfl,J};rw[Ø c]at e ⊢;show ih (λi n h=>b ē n Øb) e
 let{f,T,R}:=d b G;let{z,N,p}:=ϻd (v:=ūa f) (o:=űb P k) (by rw[<-T,<-WX k (by rw[þ];show Y)];show m.val k)
 show ľd (x:=z) B.typeIs Ĺg
  (Ŭg (Q:=λr U=>r=z/\EP X Z σ Q r U) (kN S) B.mapOf N {rfl,_,H,Ž _,p,q f R}) E
inductive vA(X:Cx)(j:Ä):Á Ç->Á FM->Æ
 |nil:vA X j [] []
 |î {n:Ç} {ps:Á Ç} {k:Ä} {F:FM} {ns:Á Ç} {Fs:Á FM} (h:xE ì X.w X.K â Ĥ n ps k Šb) (hk:k<=j) (r:vA X j ns Fs):vA X j Æj (F::Fs)
theorem vA.get{X:Cx}{j:Ä}{k:zR}{F:FM}:∀{ks:Á zR}{ns:Á Ç}{Fs:Á FM},vA X j ns Fs->ŗ ks Fs k=À F->∃n ps i,ŗ ks ns k=À n/\i<=j/\xE ì X.w X.K â Ĥ n ps i Šb
 | [],_,_,_,e=>by cases e|_::_,_,_,.nil,e=>by cases e|k'::ks,_,_,.cons (n:=n) (ps:=ps) (k:=i) h hk r,e=>by unfold ŗ at e;rw[èp];show{n,ps,i,by unfold ŗ;rw[Ö c],hk,h};rw[Ø c]at e;let{b,a,f,d,g}:=ϟa e;show{b,a,f,by unfold ŗ;rw[Ø c];show d,g}
def FY(ks:Á zR)(b:Á FM)(c:FE)(a:vX):xj:=λβ=>(c Çe).bind λx=>(ĩd).bind λk=>(ŗ ks b k).bind λF=>kD F a β
def z3j{A:Ë}{ks:Á zR}{ns:Á Ç}{J:Á FM}{x:Ç}{p t pos:Pos}{k e:Ñ}{es:Á Ñ}{B:FE}{I:vX}{j:Ä}(h:wN â x īb)(g:YJ X.K X.w â A ks ns)(W:Gl X x)(D:vA X j ns J)(N:yG j X.A)(hk:SE X k B)(ha:MA X ă I)(L:Ì øo q12)(Z:Ì Ģ q10)(he:Ì Ϣ q12)(r:Ì (Ċ Ųo Ó=(do ϒa pos (<-Ċ ϡj Ó) [] ϖb ŵa)) q12):MC X Ųo (FY ks J B I):=by
 rw[Åq];let{ta,pa,ka}:=ha.h;show{{_,y03 N (LV (z0p g) (WF h W Z) pk (LX L)) pa he r,λ{P G0 H0 G H β β' σ m Q} E a q=>?_}};let{y,hy,a}:=zC a;let{o,d,a}:=zC a;let{F,hF,a}:=zC a;let{as,l,a}:=zC a;let{n,ps,i,S,O,{f,T,hm,kp,b,FF}}:=D.get hF;let{G1,U,ϯ}:=E.tQ;show kk U hy λu G2 H2 x2 r2=>?_
 let{G3,x3,z,_}:=ϯ _ _ x2;show{rfl,o,n,ZX d r2,S,λf' c=>?_};rw[hm]at c;cases c;show{f,T,ps,i,_,rfl,O,kp,b,FF,ka z l λvs G4 H4 C Y=>?_};rw[ŏ];show(z.go C).call Y a λv G' R s K'=>q v G' R (x3.g.trans (C.g.trans s)) K'
#print a
def xm(a:Á Ç)(f:Ç):D->É D
 |.obj x fs vs=>if x∈a then ϝ fs vs f else Â|_=>Â
theorem Ĺo{K:Ï}{G:Hp}{κ:Type}[śb κ]{k:κ}{d:D}:∀{ks:Á κ}{ds:Á D}{vs:Á V},å K G ds vs->Ϟi ks ds k=À d->∃v,Ϟi ks vs k=À v/\zT K G d v
 | [],_,_,_,e=>by cases e|_::_,[],_,_,e=>by cases e|k'::ks,d'::ds,vs,r,e=>by let{v,f,rfl,b,a}:=r;unfold Ϟi at e ⊢;by_cases c:k'=k;rw[Ö c]at e ⊢;cases e;show{v,rfl,b};rw[Ø c]at e ⊢;show Ĺo a e
nonrec def xI(c m:Ç)(fo:FE)(fs:FA):FA:=λτ=>(ěe).bind λo=>match o with
 |.obj x fl _=>match decide (x=c)&&!(decide (m∈fl))with
  |Ã=>(fs τ).bind λa=>À (o::a)|Å=>Â
 |_=>Â
section
variable{X:Cx}{e o:Ñ}{f m c:Ç}{cs:Á Ç}{fe fo:FE}{pos ž:Pos}{ps:Á Ç}{j k:Ä}{FF:Á D->É ð}
def wW(h:SE X e fe)(k:we X.K cs f)(m:Ì ąk q12):SE X Ϝe (e1 (xm cs f) fe):=by
 let{t,p,z}:=h.h;show{{_,cB p m,λ{N J G H τ σ d Q} E b q=>?_}};let{y,n,b}:=zC b;show z E n λv I O c A=>?_
 unfold xm at b
 rw[ϰp];rename_i x P L;by_cases hx:x∈cs;rw[Ö hx]at b;let{a,C,j,F,rfl,s,w,l,g}:=A;let{u,r,i}:=g.getA b;let{B,o}:=k x hx C s;show{a,C,j,_,u,rfl,c.gh _ _ w,B,o,by rw[L5];show r,q _ _ _ c i};rw[Ø hx]at b;cases b;cases b
def KP{b f G H:Hp}{τ:zw}{σ:St}{ds:Á D}{Q:VK}{C:Ë}{t:TA}{o:TE}{sp:Sp}{fs:FA}(k:Ē X.K õ c=À š)(B:∀{b f G H:Hp}{τ:zw}{σ:St}{d:D}{Q:VK},zi X.K ê b f G H τ σ->fo τ=À d->(∀v G' H',zK G H G' H'->zT X.K G' d v->Q v H')->o σ H Q)(A:∀{b f G H:Hp}{τ:zw}{σ:St}{ds:Á D}{Q:Á V->Hp->Æ},zi X.K ê b f G H τ σ->fs τ=À ds->(∀vs G' H',zK G H G' H'->å X.K G' ds vs->Q vs H')->t σ H Q)(E:zi X.K ê b f G H τ σ)(h:xI c m fo fs τ=À ds)(q:∀vs G' H',zK G H G' H'->å X.K G' ds vs->sp vs H' Q E0):MP C m sp [] E0 o t σ H Q:=by
 let{y,L,e}:=zC h
 rw[Ũp];rename_i x F vs
 rw[Ũp];rename_i j;rw[ć]at j;cases ı j.1
 let z:m ∉ F:=by let:=j.2;simpa using this
 let{s,J,h}:=zC e;cases h;show B E L λv U Y i p=>?_
 let{a,S,I,R,rfl,n,u,l,O}:=id p;rw[k]at n;cases n;show{a,I,_,rfl,i.gh _ _ u,L4 z,A (Ϯ i) J λvs P T r w=>?_};rw[ŏ];show q _ _ _ (êe r) {_,vs,rfl,p.mono r.g,w};cases e;cases e
def eU{G H:Hp}{ds:Á D}{vs:Á V}{Q:VK}{b a:Hp}{d:D}{o:Ò}{E:XK}(x:zK b a G H)(r:å X.K G ds vs)(g:FF ds=À (o,d))(q:∀v G' H',zK b a G' H'->zT X.K G' d v->Q v H'):xJ X.K FF vs H Q E:=by
 show{G,ds,o,d,ϸ,r,g,?_};cases o with
 |Å=>show λv G' H' c r=>q v G' H' (Ďd c) r|Ã=>intro p G' H' c h e o;let{u,f,r}:=ŧc e;show q _ _ _ (Ďd (c.zz h e f)) r
def pE{pl:Sem Ò}(h:wn ì X.w X.K â Ĥ c m ps k ĩc)(g:yG j X.A)(N:SE X o fo)(hk:Ì Ùa q10)(i:Ċ ϝb Ó=(do
   let ov <-Ċ o Ó
   standAt ęb
   let (f,first) <-holding ýb Ôb
   ϒa pos f first ŋd ŵa):=by rfl):SE X ϝb (za FF šm):=by
 let{C,f,P,z,J,u,b,F}:=h;let{T,B,l}:=N.h;show{{_,LW B J u F ϝn b .nil kY i,λ{y p G H τ σ d Q} E a q=>?_}};let{I,s,a}:=zC a;obtain⟨⟨W,U⟩,L,a⟩:=zC a;cases a;show KP (t:=gT) z l (λ{y p G H τ σ I Q} v e n=>by cases e;show n _ _ _ (āa v.ext.gh) rfl) E s λR S O x r=>eU x r L q
def eI{pl:Sem Ò}(h:wn ì X.w X.K â Ĥ c m ps k ĩc)(i:yG j X.A)(Y:SE X o fo)(hk:Ì Ùa q10)(l:Ċ ϝb Ó=(do
   let ov <-Ċ o Ó
   standAt ęb
   let (f,first) <-holding ýb Ôb
   ϒa pos f first ŋd ŵa):=by rfl):SF X ϝb (ux FF šm):=by
 let{C,f,fd,O,T,I,b,F}:=h;let{to,P,s}:=Y.h;show{{_,LW P T I F ϛn b .nil kY l,λ{L y G H τ σ d Q} E a q=>?_}};let{g,z,a}:=zC a;obtain⟨⟨U,dd⟩,W,a⟩:=zC a;cases U with
 |Å=>cases a|Ã=>
  cases a;show KP (t:=gT) O s (λ{L y G H τ σ g Q} J e u=>by cases e;show u _ _ _ (āa J.ext.gh) rfl) E z λvs N Z x r=>{N,g,Ã,_,ϸ,r,W,λp n S B v R o=>q p n S (Ďd B) (x.h.free v) R o}
def e9{pl:Sem Ò}{es:Á Ñ}{fs:FA}(h:wn ì X.w X.K â Ĥ c m ps k ĩc)(i:yG j X.A)(L:SE X o fo)(y:SA X ă fs)(hk:Ì Ùa q10)(g:Ì Ϣ q12)(l:Ċ Ïc Ó=(do
   let ov <-Ċ o Ó
   standAt ęb
   let (f,first) <-holding ýb Ôb
   ϒa pos f first ϖb ŵa):=by rfl):SE X Ïc (za FF Ţm):=by
 let{C,f,O,u,I,s,b,F}:=h;let{U,v,n}:=L.h;let{t,B,z}:=y.h;rw[Ő,ć]at g;show{{_,y0c v I s F ϛn b .nil kY B (vS g.1) (qe g.2) l,λ{T P G H τ σ d Q} E a q=>?_}};let{Y,p,a}:=zC a;obtain⟨⟨Z,W⟩,J,a⟩:=zC a;cases a;show KP u n z E p λR S N x r=>eU x r J q
#print a
open ł
mutual
nonrec def vE:D->PyData
 |.zI=>.none|.bl b=>.bool b|.int i=>.int i|.str x=>.str x|.tup ds=>.tuple ϓo|.lst ds=>.list ϓo|_=>.none
nonrec def pyTs:Á D->Á PyData
 | []=>[]|d::ds=>vE d::pyTs ds
end
mutual
nonrec def wD:D->Ä
 |.zI=>4|.bl _=>5|.int i=>if decide ĸb&&decide ϕb then 20 else 1000000000|.tup ds=>wDs ds+3|.lst ds=>wDs ds+2|_=>1000000000
nonrec def wDs:Á D->Ä
 | []=>0|d::ds=>wD d+2+wDs ds
end
nonrec def pp:Ä->D->Ò
 |_,.zI=>Ã|_,.bl _=>Ã|_,.int _=>Ã|n+1,.tup ds=>Żb Ĭe|n+1,.lst ds=>Żb Ĭe|_,_=>Å
def Ai:Á D->É D
 | [.lst ds]=>match decide (wDs ds<=1000000)&&Żb ég with
  |Ã=>À ϰk|Å=>Â
 |_=>Â
theorem fM:∀(ts:Á Ç)(k:Ä)(acc:Ç),(textFrom k acc ts).length<=Įc+ĸe ts
 | [],k,acc=>Ża _ _|t::r,k,acc=>by
  let h:=fM r ĸ Ŵj
  let e:(Ŵj).length=Įc+(if k>0 then 2 else 0)+æe:=by
   rw[ϕc,ϕc]
   split<;>rfl
  rw[e]at h;rw[Ϲn];exact(textFrom ĸ _ r).length<=_;let:(if k>0 then 2 else 0:Ä)<=2:=by rw[Şp]
  omega
def z35(a:Á Ç):(Ļi a).length<=ĸe a+2:=by unfold Ļi;let h:=fM a 0 "[";let e1:(("[" : Ż):Ç).length=1:=rfl;let e2:(("]" : Ż):Ç).length=1:=rfl;rw[ϕc,e2];rw[e1]at h;omega
def x0m(a:Á Ç):(âi a).length<=ĸe a+3:=by
 unfold âi;rw[ϕc,ϕc];let e1:((("(" : Ż):Ç)).length=1:=rfl;let b:(((if Ϫ==1 then ",)" else ")" : Ż):Ç)).length<=2:=by split<;>decide
 rw[e1];by_cases h:a=[];subst h;let:(Str.join ", " []).length=0:=rfl;omega;let:=join_length_add a h;omega
def KW(d:D):wD d<=900000000->(Ũa).shown.length<=wD d:=by
 let g:∀a:Á D,(∀d∈a,wD d<=900000000->(Ũa).shown.length<=wD d)->wDs a<=900000000->ĸe ŉd<=wDs a:=λa=>by
  induction a with
  |nil=>intro _ _;show ϔ _|î x a f=>intro h k;let n:wD x+2+wDs a<=900000000:=k;let o:=h x Ō Î;let j:=f (λd m=>h d ųo) Î;exact ĸe ((åg).shown::PyData.shownAll Ţi)<=wD x+2+wDs a;rw[Ϲn];omega
 show Ţc (P:=λd=>wD d<=900000000->(Ũa).shown.length<=wD d) ?_ ?_ ?_ ?_ ?_ ?_ ?_ ?_ ?_ d;intro _;decide;intro b _;cases b<;>decide;intro i h
 change ěg<=900000000 at h
 exact(ϩe).length<=ěg;cases c:(decide ĸb&&decide ϕb)with
 |Å=>rw[c,Ø Û]at h;omega|Ã=>
  rw[Ö rfl];rw[Ūp];let e:(10:Ê) ^ 20=100000000000000000000:=by decide
  let j:=ı c.2;rw[<-e]at j;show toString_length_le či Û j
 rw[Ųp];intro a f h;let l:wDs a+3<=900000000:=h;let:=g a f Î;let:=x0m ŉd;exact(âi ŉd).length<=wDs a+3;omega;intro a f h;let l:wDs a+2<=900000000:=h;let:=g a f Î;let:=z35 ŉd;exact(Ļi ŉd).length<=wDs a+2;omega;intro p a _ h;show Þ h ļd;rw[Ųp];intro x q a _ h;show Þ h ļd
def y50(d:D):wD d<=900000000->(Ũa).showable=Ã/\(Ũa).hasDict=Å:=by
 let j:∀f:Á D,(∀d∈f,wD d<=900000000->(Ũa).showable=Ã/\(Ũa).hasDict=Å)->wDs f<=900000000->Ħl ſf=Ã/\Ŭl ſf=Å:=λf=>by
  induction f with
  |nil=>intro _ _;show{rfl,rfl}|î x f g=>
   intro h l;let o:wD x+2+wDs f<=900000000:=l;let{a,b}:=h x Ō Î;let{c,e}:=g (λd n=>h d (Ϲ _ n)) Î
   rw[Èq];exact((åg).showable&&Ħl ſf)=Ã;rw[a,c];rfl;exact((åg).hasDict||Ŭl ſf)=Å;rw[b,e];rfl
 show Ţc (P:=λd=>wD d<=900000000->(Ũa).showable=Ã/\(Ũa).hasDict=Å) (λ_=>{rfl,rfl}) (λb _=>{rfl,rfl}) ?_ ?_ ?_ ?_ (λq f _ _=>{rfl,rfl}) (λx _=>{rfl,rfl}) (λx r f _ _=>{rfl,rfl}) d;intro i h
 change ěg<=900000000 at h
 show{?_,rfl};cases c:(decide ĸb&&decide ϕb)with
 |Å=>rw[c,Ø Û]at h;omega|Ã=>
  rw[Ūp];let p:=ı c.1;let s:=ı c.2;exact decide Öo=Ã;show Ĵ ?_;by_cases z:Ŭb=0;rw[z];decide;let e:(2:Ä) ^ 67=147573952589676412928:=by decide
  let k:Ŭb<2 ^ 67:=by rw[e];omega
  let:=(ìh z).mpr k;omega
 rw[Ųp];intro f g h;let m:wDs f+3<=900000000:=h;show j f g Î;intro f g h;let m:wDs f+2<=900000000:=h;show j f g Î
theorem Fk:∀(n:Ä)(d:D),pp n d=Ã->(Ũa).depth<=n
 |n,.zI,_=>ϱ _|n,.bl _,_=>ϱ _|n,.int _,_=>ϱ _|0,.tup _,h=>by cases h|0,.lst _,h=>by cases h|n+1,.tup a,h=>by
  let b:∀a:Á D,ĳd Ĭe=Ã->õm Ţi<=n:=λa=>by
   induction a with
   |nil=>intro _;show ϱ _|î x xs ih=>intro h;rw[Ő,ć]at h;show Ņm {Fk n x h.1,ih h.2}
  show Đc (b a h)
 |n+1,.lst a,h=>by
  let b:∀a:Á D,ĳd Ĭe=Ã->õm Ţi<=n:=λa=>by
   induction a with
   |nil=>intro _;show ϱ _|î x xs ih=>intro h;rw[Ő,ć]at h;show Ņm {Fk n x h.1,ih h.2}
  show Đc (b a h)
 |n,.str _,h=>by cases n<;>cases h|n,.dic _ _,h=>by cases n<;>cases h|n,.exc _,h=>by cases n<;>cases h|n,.obj _ _ _,h=>by rw[Ŏp]
section
variable{X:Cx}{z0:Á ô}{σ:St}{H:Hp}{s:Í}
def y2e(I:zD X z0 σ H s)(d:D):∀(n:Ä)(v:V)(u:Value),pp n d=Ã->zT X.K H d v->zu v u->∃as,Reads Ü u Ũa as:=by
 let l:∀(c:Á D),(∀d∈c,∀(n:Ä)(v:V)(u:Value),pp n d=Ã->zT X.K H d v->zu v u->∃as,Reads Ü u Ũa as)->∀(n:Ä)(f:Á V)(w:Á Value),c.all Ĭe=Ã->å X.K H c f->zk f w->∃as,ReadsAll Ü w (pyTs c) as:=λc=>by
  induction c with
  |nil=>intro _ n f w _ r z;cases(show f=[]from r);cases z;show{[],.nil}|î x c j=>
   intro h n f w C r z;let{v,J,rfl,G,F}:=r;rw[Ő,ć]at C;cases z with
   |î q1 q2=>let{as,p}:=h x Ō n v _ C.1 G q1;let{N,L}:=j (λd k=>h d (Ϲ _ k)) n J _ C.2 F q2;show{_,.cons p L}
 show Ţc (P:=λd=>∀(n:Ä)(v:V)(u:Value),pp n d=Ã->zT X.K H d v->zu v u->∃as,Reads Ü u Ũa as) ?_ ?_ ?_ ?_ ?_ ?_ ?_ ?_ ?_ d;intro n v u _ r q;rw[ôp];cases(show u=_ from q);show{_,.none};intro b n v u _ r q;rw[ôp];cases(show u=_ from q);show{_,.bool b};intro i n v u _ r q;rw[ôp];let{t,rfl}:=(show ∃t,u=ŧb i t from q);show{_,.int i t};intro x n v u h;rw[Ŏp];rw[Đp];cases n with
 |ſ=>cases h|ϊ n=>let{g,B,{o,e,A,m,k},_}:=Ϭ E;let{as,p}:=l c j n f g h y B;show{as,.tuple e A k Ŋl}
 rw[Đp];cases n with
 |ſ=>cases h|ϊ n=>let{g,B,{o,m,e,A,_,k},_}:=ű E;let{as,p}:=l c j n f g h y B;show{_,.list e A k Ŋl}
 intro O c _ n v u h;rw[Ŏp];intro x n v u h;rw[Ŏp];intro x Q c _ n v u h;rw[Ŏp]
#print a
def d9(K:Ï):Á V->Hp->VK->Æ:=λa H Q=>∃ds v,a=[v]/\zT K H êb v/\wDs ds<=1000000/\Żb ég=Ã/\Q ϰk H
def rG{X:Cx}{j:Ä}(c:yG j X.A):wM X Ïh (d9 X.K):=by
 intro F s σ H y w Q I r h;let{b,v,rfl,d,x,f,q}:=h;let{u,rfl,g}:=vg r;let{G,p}:=y2e I ĥb 6 v u f d g;let{a,z,rfl,_}:=d;cases g;let i:wD ĥb<=900000000:=by exact wDs b+2<=_;omega
 let{m,o}:=y50 ĥb i;let B:=Fk 6 ĥb f;let C:=c.units;let t:=KW ĥb i
 let l:(vE ĥb).shown.length<=á:=by let:wD ĥb=wDs b+2:=rfl;rw[Ţp]
 show repr_of_reads' p m (PyData.noDict_hsm o) c.gd Î ăn (λE u n k=>{.str _,H,íc (t':=n) k,{_,rfl},q}) l
def z8p{K:Ï}:ZM K (d9 K) Ai:=λG H f i d Q s r b q=>by
 rcases f with _|⟨x_,r_⟩;cases b
 cases x_<;>first|(cases b;done)|skip
 cases r_<;>first|(cases b;done)|skip
 rename_i a
 change (match decide Ém&&ĳd ég with|Ã=>À (Ćg (vE Ņc).shown)|Å=>Â)=À d at b
 cases c:(decide Ém&&ĳd ég)with
 |Å=>rw[c]at b;cases b|Ã=>
  rw[c]at b;cases b;rw[Ūp];let g:=ı c.1;let{v,rfl,e}:=qZ r;let h:=KW Ņc (by exact wDs a+2<=_;omega);show{a,v,rfl,?_,g,c.2,q _ _ _ ϳ {rfl,?_}};first|show e|show e.mono s
  let:wD Ņc=wDs a+2:=rfl;rw[Ţp]
def ox{X:Cx}:wM X Åc (λxs H Q=>∃a kvs,xs=Ãa/\Rd H a Ł/\∀p,H p=Â->Q ύ (upd H p Ł)):=by
 intro z s σ H xs y Q I r h;let{a,kvs,rfl,e,q}:=h;let{u,rfl,t}:=vg r;cases(show u=ÿ a from t);let{k,c,x,d,v}:=kG Ď e;let g:şa=Ķ:=ja d;refine kt_call_dict c v (by rw[g];show k) λw n l=>?_
 let f:ßo=Å:=by let:=I.big;rw[òl];show wV Úo
 let m:∀b o,ö b=À o->w.get? b=À o:=λb o j=>by let i:=Ğ j;show(l.2 b (wV (Ŕ i))).trans Ŷo
 show{.ref Ý,_,Çb (a:=Ý) (o:=.dK kvs) (t':=ě) m ğ (Fm k f d n),rfl,q _ ĉe}
nonrec def OO:Á D->É D
 | [.dic ks ds]=>À ļn|_=>Â
def y4r{X:Cx}{e:Ñ}{fs:FA}{p pos:Pos}(o:Gl X ϗ)(n:â ϗ=Â)(hv:Ś ϗ=À Åc)(j:SA X [e] fs)(g:Ì ϥ q12):SF X Āl (eL OO fs):=by
 let{t,r,k}:=j.h;refine{{_,(Vt ox o n hv {r} Û Û (by rw[Ő,g];rfl)).h,λ{y B G H τ σ d Q} E b q=>?_}};let{A,w,b}:=zC b;show k E w λF z I c u=>?_
 unfold OO at b
 rw[ϰp];rename_i C J;cases b;let{v,rfl,a,s,rfl,m,x,i,l}:=qZ u;show{a,_,rfl,àc c.gh m,λp f=>?_};show q p _ _ (ϳa (Ϛa c.gh f)) (ňi f) (ëi f) {s,yE,x,i,l};cases b
#print L3
namespace L3
def x0d:tz .zI=Ã:=rfl
def x0e(b:Ò):tz ób=Ã:=rfl
def x0f(i:Ê):tz Ěa=Ã:=rfl
def x0g(x:Ŀf):tz Ýc=Ã:=rfl
def x0h(ds:Á D):tz Ýe=Ŭa ds:=rfl
def x0i:Ŭa []=Ã:=rfl
def x0j(d:D)(ds:Á D):Ŭa Òj=Ŭm:=rfl
def mL(i:Ä)(π:Á xA)(d:D):VE āe i π=.v d:=rfl
def y81(d:D):vH āe=d:=rfl
def y82(d:D):vH Ðe=d:=rfl
def y83(x:Ŀf)(fs:Á Ŀf)(ms:Á M):vH ěh=.obj x fs šb:=rfl
def y84(ks:Á (Sum Ê Ŀf))(ms:Á M):vH ķn=.dic ks šb:=rfl
def y85:ϊb []=[]:=rfl
def y86(m:M)(ms:Á M):ϊb Çj=vH m::ϊb ms:=rfl
def mP(x:M):jT x []=À x:=rfl
def y1d(x y:M):jA x [] y=À y:=rfl
def z3a(g:MG)(b:yC)(x:zb):W2 g b [] x=À (.nx x):=rfl
def z3b(g:MG)(b:yC)(x:zb)(d:D)(r:Á D):type_of% (W2.eq_2 g b x d r):=rfl
open č Ĕ ď L2
def fldk_nil{K:Ï}{f:Ç}:we K [] f:=λx a=>Þ a ü
def fldk_cons{K:Ï}{f c:Ç}{C:Ë}{d:Á Ç}(ns:Ē K õ c=À š)(g:vK K C)(h:ů K ú f=À Â)(r:we K d f):we K (c::d) f:=λx b e a=>by rcases ř b with rfl|b;rw[ns]at a;cases a;show{g,h};show r x b e a
def Ak:Á D->É D
 | [.lst xs]=>(Øj).bind λa=>match ĳd Şj&&decide űn with
  |Ã=>À (.int a.sum)|Å=>Â
 |_=>Â
theorem fD:∀{ns:Á Ê},(∀n∈ns,0<=n/\n<1099511627776)->0<=æj/\æj<=1099511627776*(Ŷ:Ê)
 | [],_=>{Öa _,by decide}|n::ns,h=>by
  let{a,b}:=fD λm e=>h m (Ϲ _ e)
  let{c,d}:=h n Ō;rw[List.sum_cons,Ĩ]
  rw[Èq];omega;push_cast
  omega
def z8u{K:Ï}:ZM K (dG K) Ak:=λG H o y d Q s r b q=>by
 rcases o with _|⟨x_,r_⟩;cases b
 cases x_<;>first|(cases b;done)|skip
 cases r_<;>first|(cases b;done)|skip
 rename_i p;let{ns,m,b}:=zC (show(Vf p).bind _=À d from b);cases c:(ns.all Şj&&decide (Ŷ<=1000))with
 |Å=>rw[c]at b;cases b|Ã=>
  rw[c]at b;cases b;rw[Ūp];let x:=ı c.2
  let f:∀n∈ns,0<=n/\n<1099511627776:=λn e=>by let:=ŋa c.1 n e;rw[ć]at this;show{ı this.1,ı this.2}
  let{v,rfl,a,t,rfl,g,h,l}:=qZ r;rw[EE m h]at g;show{a,ns,rfl,.inl g,{λn e=>?_,λk u=>?_},q _ _ _ ϳ rfl};let:=f n e
  constructor<;>omega;let:=fD (ns:=ns.take k) λn e=>f n (ϔc e)
  let j:(Ēf).length<=1000:=by rw[Ôa];omega
  let w:((Ēf).length:Ê)<=1000:=by exact_mod_cast j
  constructor<;>omega
def A3:Ś Ýj=À Ïh:=PyProof.Rows.bootS_repr
def av(i:Ä)(F:D->D->É D)(f:FE):yC:=λβ=>(e2 F ãg f ϸa).bind λd=>À (.nx őo)
section
variable{X:Cx}{np:Ä}{x c:Ç}{p pos Èa:Pos}{e:Ñ}{es:Á Ñ}{f:FE}{F:D->D->É D}
def z3y{i:Ä}{m:úd}{l:VC}(Q:TM X m l)(p:uH X.K l F)(s:Ϩ)(hi:X.N[i]?=À x)(c:uq ϟ x)(S:np<=i)(A:SE X e f)(b:Ì Ĩa q7) :MS X np (.AugAssign äf m e pos) (av i F f):=by let{t,J,k}:=A.h;show{{_,G7 s hi c J Q b,λ{P W U G H β σ T E} Z K b q=>?_}};let{d,a,b}:=zC b;cases b;let{x,c,a}:=zC a;let{y,z,a}:=zC a;let n:=ūc;let{v,o,C}:=n.fr _ _ (OJ c);show{v,o,k n z λu r O j L=>p r O x y v u d _ j.gh (C.mono j.g) L a λw R Y B I=>?_};show q _ _ _ (((ďe).go B).Uw ŀa.1 Î I)
def Ip(P:à)(w:ß)(K:Ï)(a:Ç->É Value)(È:Heap)(c:Ç)(ps:Á Ç)(k:Ä)(sp:Sp)(b:Á D):Æ:=
 ∃(C f:Ë) (fd:ĝ) (ds:Á Value) (dvs:Á V),Ē K õ c=À š/\a c=À ú/\Mk K C f/\xN K fd ps ds/\zk dvs ds/\(∀H,å K H b dvs)/\yT P w K a È yo k f fd ps sp
def YV(c:Ç)(F:FM)(a:Á D)(f:vX):xj:=λβ=>(ϴ).bind λd=>(Zo d).bind λb=>(F (.obj c [] []::vN (b++a))).bind λr=>match r.2 with
 |.fz .zI=>(ĝi).bind λm=>À (m,β)|_=>Â
def LF{F:FM}{fa:vX}{ps:Á Ç}{j k:Ä}{U:Á D}(h:Ip ì X.w X.K â Ĥ c ps k Šb U)(hr:yG j X.A)(hg:Gl X c)(ha:MA X ă fa)(hk:Ì Ťi q10)(Z:Ì Ňf q10)(S:Ì Ϣ q12) :MC X ĉi (YV c F U fa):=by
 let{C,f,fd,dss,dvs,ns,R,mk,b,hvs,W,FF}:=h;rw[ϫp];show{{_,cD mk FF ąf hg R b hvs kY pa Z (vS S.1) (qe S.2),λ{P G0 H0 G H β β' σ mr Q} E d q=>?_}};rw[ϒp];obtain⟨⟨Y,m'⟩,hF,d⟩:=zC d;show ka E O λvs r m x1 ra y i s l ne=>?_
 let N:=Ϯ x1;let rd:=ύh (Xj J ra) (W r)
 rw[îp];rename_i em
 change m'=.fz .zI at em
 subst em;let{m0,h0,d}:=zC d;cases d;let T:∀q,q≠y->q≠i->upd ϻm y ľh q=m q:=λq z w=>by rw[zr z,zr w]
 let gy:r y=Â:=ϝm s
 let s2:zg r Ŏe:=λq o z=>by let x:=Ői _ _ z;rw[T q (λc=>by subst c;rw[s]at x;cases x) (λc=>by subst c;rw[l]at x;cases x)];show x
 show{r,.obj c [] []::vN (ds++U),λq=>q=y,Y,.fz .zI,s2,{_,vs++dvs,λq=>q=y,λ_=>í,rfl,{y,C,i,[],λ_=>í,rfl,ns,yE,rfl,{rfl,λ_ z=>z},λz=>z,λq=>{.inl,λz=>Ę id ń}},Ym rd,λ_ _ z=>z,λq=>{.inl,λz=>Ę id ń}},λq z=>z▸gy,hF,λv G' H' L' B o hN=>?_};rw[áp];let{L2,o2,s2'}:=Qj (v1:=.ref y) ob h0 rfl
 let cn:∀q,cut Ŏe Åi q=Â->m q=Â:=λq z=>by rcases Ts z with z|z;show z▸s;by_cases n:q=y;show n▸s;by_cases I:q=i;show I▸l;rw[T q n I]at z;show z
 let x3:zK r m G' H':=⟨B.g,λq o z=>B.h _ _ (by
  let n:q≠y:=λc=>by subst c;rw[s]at z;cases z
  let I:q≠i:=λc=>by subst c;rw[l]at z;cases z
  rw[tm (L:=λq=>q=y) n,T q n I];show z),B.gh,λq z=>by
  rcases B.new q z with w|w;rw[ĥp];show .inr (cn q w)⟩
 show q _ G' H' Òo (N.Wp x3 o2 λq z=>by rw[ϣp]);cases d
#print a
open ł
nonrec def OU:D->Ò
 |.int i=>decide ĸb&&decide ϕb|.bl _=>Ã|_=>Å
def C5:Á D->É D
 | [d]=>match OU d with
  |Ã=>À Ŝl|Å=>Â
 |_=>Â
def dA(K:Ï):Á V->Hp->VK->Æ:=λa H Q=>∃d v,a=[v]/\zT K H d v/\OU d=Ã/\Q Ŝl H
def rH{X:Cx}{j:Ä}(l:yG j X.A):wM X Ïh (dA X.K):=by
 intro w s σ H p o Q I r h;let{d,v,rfl,c,f,q}:=h;let{u,rfl,g}:=vg r;cases d with
 |int i=>
  cases(show v=.int i from c);let{t,rfl}:=g;let a:(decide ĸb&&decide ϕb)=Ã:=f;rw[ć]at a;let n:=ı a.1;let m:=ı a.2
  let k:ŷd<1920:=by
   let:Ŭb<2 ^ 70:=by
    let e:(2:Ä) ^ 70=1180591620717411303424:=by decide
    omega
   by_cases z:Ŭb=0;rw[z];decide;show üf ((ìh z).mpr this) Û
  show P.repr_of_int k {.str _,H,Ž _,{_,rfl},q}
 |bl b=>cases(show v=.bl b from c);cases(show u=.bool b from g);show P.repr_of_bool {.str _,H,Ž _,{_,rfl},by cases b<;>show q}|_=>cases f
def z8q{K:Ï}:ZM K (dA K) C5:=λG H e h d Q s r a q=>by
 match e,a with
 | [x],a=>
  change (match OU x with|Ã=>À (Ćg (åg).shown)|Å=>Â)=À d at a
  cases c:OU x with
  |Å=>rw[c]at a;cases a|Ã=>
   rw[c]at a;cases a;let{v,rfl,f}:=qZ r
   let j:wD x<=20:=by
    cases x with
    |int i=>exact(if(decide ĸb&&decide ϕb)=Ã then 20 else 1000000000)<=20;rw[Ö (show(decide ĸb&&decide ϕb)=Ã from c)];show ϔ _|bl b=>exact 5<=20;decide|_=>cases c
   let g:=KW x Î;show{x,v,rfl,f,c,q _ _ _ ϳ {rfl,?_}};rw[Ţp]
section
variable{P:à}{w:ß}{K:Ï}{mg:Ç->É Value}{È:Heap}
def z2y{x:Ç}{st:Ô}{N:Á Ç}{k:Ä}{F:FM}{b:yC}{f:Ë}{i:ĝ}(d:Fun K Èb Èb st f i)(S:zh N [x] ģ)(t:1<=Ū)(y:∀ms r,F ms=À r->ό=1/\jl 1 Ū b ms=À r)(e:∀ns:Á Ê,Ŷ<=63->(∀m∈ns,uZ m<=1048576)->∃r,F ôh=À (r,.fz Îa))(u:∀(g:Value)(A:è)(é:Á Env)(s:Í)(H:Hp)(E:XK),yG k (ıa (ļa Èb ģ Ý f g))->tZ (u3 yo P w K mg È N Èb ģ f g A é s H E).wZ 1 ź b):yT P w K mg È yo ĸ f i [x] ďj:=
 (d.v.Uu (F:=F) S t y u).imp λB H Q E h=>by let{a,ns,rfl,o,l,c,q}:=h;let{r,j}:=e ns l c;let p:å K H Ài Ãa:={_,_,rfl,{a,_,rfl,o,Îe,by rw[þ];show ĥa Î},rfl};show eS {H,_,Å,.bl Ã,ĵa H,p,?_,λv C n _ z=>?_};exact(F (vN Ài)).bind _=_;rw[show vN Ài=ôh from rfl,j];rfl;cases(show v=.bl Ã from z);show q n
#print a
section
variable{X:Cx}{np:Ä}{ĳ:ϭ}{cl:Á ύa}{own:Á Ç}{elt tg Ŝ:Ñ}{ifs:Á Ñ}{pos:Pos}{fs:FA}{g:TG}{fg:FG}{ft:FT}{f:FE}
def z42{i:Ä}{x:Ç}{A b:Pos}(e:ż=Ã)(R:Ϩ)(j:X.N[i]?=À x)(W:Íb x=À .local)(B:Y9 X ĳ cl own)(n:Œb ϥa (À (.Name x A)) b.line Ó=pure Ã)(hi:SI X tg Ŝ fs)(v:BG X ĳ cl own tg g fg)(T:∀C s H fp pn,Xf Êa ifs ft)(S:∀C s H fp pn,SE Êa elt f)(F:Ì (∀x,Úb Ŝ Ó x=pure x) q11)(hn:Ì (np<=i) q10) :MS X np (.Assign [.Name x A] ϥa b) (uN i (yt Ϣe)):=by
 let{ti,Y,L}:=ύb;show{{_,cM e R j W B n Y (θb (v.q C s H fp pn)) (χa (T C s H fp pn)) (ζb (S C s H fp pn)) F,λ{P G0 H0 G H β σ fl E} hP K r q=>?_}};obtain⟨⟨m,β1⟩,c,r⟩:=zC r;cases r;let{d,a,c}:=zC c;cases c;let{ds,Q,a}:=zC a;let{I,ho,a}:=zC a;cases a;let u:=ūc;show L u Q λJ Ga Ha y l Z=>O_ Z l (Ϝ y).uV ho (v.k u.l2 u.l1) λz G1 H1 t r1 U p w=>?_
 let O:=((Ϝ y).go t).go (Äb (o:=.lst z) t.gh w);show q _ _ _ (O.Uw (Ť j).1 Î {p,z,rfl,ła yE,r1.mono (wP (t.gh.free w) _),U})
#print a
def iadd_list_road{M:öc}{A:è}{E:Value->Í->Æ}{s:Í}{a b:Value}{Q:Value->Í->Æ}(e:îb a Ĝ)(h:îb b Ĝ)(i:Õ M A (Ħa ĺj ķd) Q E s):Õ M A (Íe .Add a b) Q E s:=by
 let g:=F.slot_list_iadd.lookup;unfold Íe;show ŉa ?_
 let d:Ϩl âa Ĺb (Operator.Add == .Add)=pure Å:=by unfold Ϩl;exact(ϩh âa Ên >>= λf=>pure (f.isSome&&!isSeqSlot f))=pure Å;rw[g];exact(pure (Ã&&!isSeqSlot Đi):Sem Ò)=_;rw[show isSeqSlot Đi=Ã by rw[Ôp]];rfl
 let c:seqSlot? (.type Ĝ) Ên=pure Đi:=PySem.seqSlot_of g ÿa;show Ð (ϗc e (Ð (ϰe d ?_)));exact Õ M A (if Å=Ã then _ else _) Q E s;rw[Ø ŀ];show Ð (wpAny_binaryOp1_none (nm := Ĺb) e h òm ?_);show Ð (ϰe c ?_);show Ð (Ĉc i)
#print L3
namespace L2
open č Ĕ ł ď
open Ńm in
def z37(l:Ë)(c:Ú Value)(n:Ä)(b:Ë)(a:Ú Value)(r:Ä)(o:É Ë)(j:Ú ĉa)(p:¬îk=Ã)(e:Ĩe<=á)(f:Ĩe+ù<=á+1) :Ăg (Builtin.«list.__iadd__» {ÿm,[]}) (Ιc (.ret (ÿ l))):=
 .of_wp λm w A R s h=>by
  rw[öp];let z:=Ŝk;let i:(Ċj).size<=á+1:=by rw[ųl];show f
  wp_walk using(ϑc k rfl (hz:=e) (_hz':=i)),ϑe k,ϑe q
  show{_,rfl,h}
def y20(K:Ï):VC:=λx y H Q=>∃l b xs zs,x=.ref l/\y=.ref b/\H l=À ða/\yQ K H b zs/\ë+Ĵf<=á/\Q Þc đh
def z1y{X:Cx}:TM X .Add (y20 X.K):=by
 intro S s σ H x y v u Q I p t h;let{l,b,N,P,rfl,rfl,m,w,O,q}:=h;cases p;cases t;let{z,c,n,r,R,e}:=ŭc m;let{a,o,B,_}:=ű w;obtain⟨⟨L,A,J,j⟩,G,i,f,C,g⟩:=B;rw[ŷp];let k:ϲc+ϱb<=á:=by rw[ŋp]
 let d:¬ Ĕg=Ã:=by rw[LN k,ϋd];show ŀ
 refine L3.iadd_list_road {_,e,rfl} {_,i,rfl} (Čb F.slot_list_iadd {_,e,rfl} F.entry_list_iadd (F.args_list_iadd_2 _ _)
  (z37 l ád n b ώa G A j d ũd Î) {e,i,?_})
 refine{.ref l,_,I.Ut (Ńa:=c++a) m e ü ϫi ?_,rfl,q};rw[ϩp]
#print L2
namespace L3
open č Ĕ ł ď L2
section
variable{X:Cx}{x:Ç}{pos Èa:Pos}{e:Ñ}{f:FE}{i:Ä}
def y4o{α:Type}{xs:Á α}{i:Ä}{v:α}(h:xs[i]?=À v):xs.set i v=xs:=by let{a,rfl}:=Ť h;show List.set_getElem_self a
def y67(B:Ϩ)(hi:X.N[i]?=À x)(F:uq ϟ x)(C:SE X e f)(a:Ì Ĩa q7) :SS X (.AugAssign äf .Add e pos) (WK i f):=by
 let{t,J,k}:=C.h;show{{_,G7 B hi F J z1y a,λ{R Q G H τ σ v E} K a q=>?_}};unfold WK at a
 rw[êp];rename_i m p;let{y,w,a}:=zC a;cases y with
 |lst ys=>
  change (if ée+ş<=yc then À (Τd (m++ys))else Â)=À v at a
  by_cases c:ée+ş<=yc;rw[Ϝp];let{r,j,g,z,A,s,o,l}:=K.ow _ _ p;show{_,j,k K w λu P S d L=>?_};let{b,O,rfl,I,n,_}:=L;refine{r,b,A,O,rfl,rfl,d.h _ _ s,wv d.gh I,by rw[ľa,Ļc,Ľ];show c,?_}
  change E.nx (List.set σ i (À (ūa r))) _
  rw[y4o j];show q _ _ _ ((Ϝ d).IG p j {_,yE,(Ĥe d.g).append n,?_});rw[Źp]
 |_=>cases a
 cases a
#print a
#print L3
namespace L3
open č Ĕ ď L2
def zQ(K:Ï)(x:Ç)(st:Ô):Æ:=
 ∃(f:Ë) (od an:É Ë) (sl:Ú ĉa) (oc kV dc pm cd ct:Value),Ē K õ x=À ĺa/\Ÿ f=OW x st oc od sl kV dc pm an cd ct/\ϓa K cd x=Ã/\ϕ K Đ=Ã
section
variable{K:Ï}{mg:Ç->É Value}{h:Heap}{x p0 p1 p2 p3:Ç}{st:Ô}{ps:Á Ç}
def fnp_mk{f:Ë}{j h:É Ë}{d:Ú ĉa}{e kV i g b ct:Value}(a:Ē K õ x=À ĺa)(l:Ÿ f=OW x st e j d kV i g h b ct)(c:ϓa K b x=Ã)(k:ϕ K Đ=Ã):zQ K x st:={_,_,_,_,_,_,_,_,_,_,a,l,c,k}
def zQ.d(a:zQ K x st)(X:İ h)(G:üa õ mg)(b:∀(kV e i:Value)(j:É Ë)(g ct:Value)(us:Á Value),ũ=Ĉ->ūf (Âb x x Ëc ź ģ .none kV e i j g ct) {us,[]}=pure Ŝb):Def K mg x st ps:=by let{f,o,j,m,p,kV,q,i,n,ct,a,l,c,k}:=a;let F:=Aq (st:=st) l c k;show{_,_,F,Ğa X G a,F.binds b}
abbrev BA(x:Ç)(st:Ô)(us:Á Value)(ps:Á Ç):Æ:=∀(kV doc pm:Value)(an:É Ë)(cdv ct:Value),ūf (Âb x x Ëc ź ģ .none kV doc pm an cdv ct) {us,[]}=pure Ŝb
def zQ.d0(a:zQ K x st)(X:İ h)(G:üa õ mg)(b:Ì (BA x st [] []) q15):Def K mg x st []:=a.d X G λ_ _ _ _ _ _=>fY (b _ _ _ _ _ _)
def ĵe(a:zQ K x st)(X:İ h)(G:üa õ mg)(b:Ì (∀u,BA x st [u] [p0]) q15):Def K mg x st [p0]:=a.d X G λ_ _ _ _ _ _=>us1 λu=>b u _ _ _ _ _ _
def zQ.d2(a:zQ K x st)(X:İ h)(G:üa õ mg)(b:Ì (∀u v,BA x st [u,v] če) q15):Def K mg x st če:=a.d X G λ_ _ _ _ _ _=>us2 λu v=>b u v _ _ _ _ _ _
def zQ.d3(a:zQ K x st)(X:İ h)(G:üa õ mg)(b:Ì (∀u v y,BA x st [u,v,y] Ño) q15):Def K mg x st Ño:=a.d X G λ_ _ _ _ _ _=>us3 λu v y=>b u v y _ _ _ _ _ _
def zQ.d4(a:zQ K x st)(X:İ h)(G:üa õ mg)(b:Ì (∀u v y z,BA x st [u,v,y,z] ϴb) q15):Def K mg x st ϴb:=a.d X G λ_ _ _ _ _ _=>us4 λu v y z=>b u v y z _ _ _ _ _ _
def _root_.L2.Def.oS(d:Def K mg x st ps)(P:à)(w:ß)(È:Heap)(k:Ä)(F:Á D->É ð)(S:zh N ps ģ)(h:∀ds r,F ds=À r->ĉ=Ĉ/\vF Ū b ds=À r)(c:∀{f:Ë}{a:Value}{A:è}{é:Á Env}{s:Í}{H:Hp}{E:XK},yG k Űe->vY (ģg).wZ ź b)(g:Ì Úd q10):xE P w K mg È x ps ĸ øe:=Def.lV d S g h λ_ _ _ _ _ _ _ e=>c e
def _root_.L2.Def.oM(d:Def K mg x st ps)(P:à)(w:ß)(È:Heap)(k:Ä)(F:FM)(S:zh N ps ģ)(h:∀ms r,F ms=À r->ό=Ĉ/\jl Ĉ Ū b ms=À r)(c:∀{f:Ë}{a:Value}{A:è}{é:Á Env}{s:Í}{H:Hp}{E:XK},yG k Űe->tZ (ģg).wZ Ĉ ź b)(g:Ì Úd q10):xE P w K mg È x ps ĸ õe:=Def.Uu d S g h λ_ _ _ _ _ _ _ e=>c e
def xV.oM(d:xV K x q st f fd)(P:à)(w:ß)(mg:Ç->É Value)(È:Heap)(k:Ä)(F:FM)(S:zh N ps ģ)(h:∀ms r,F ms=À r->ό=Ĉ/\jl Ĉ Ū b ms=À r)(g:∀{a:Value}{A:è}{é:Á Env}{s:Í}{H:Hp}{E:XK},yG k Īk->tZ (ũj).wZ Ĉ ź b)(e:Ì Úd q10):yT P w K mg È yo ĸ f fd ps õe:=d.Uu S e h λ_ _ _ _ _ _ c=>g c
def xV.oF(d:xV K x q st f fd)(P:à)(w:ß)(mg:Ç->É Value)(È:Heap)(k:Ä)(F:Á D->É ð)(S:zh N ps ģ)(h:∀ds r,F ds=À r->ĉ=Ĉ/\vF Ū b ds=À r)(g:∀{a:Value}{A:è}{é:Á Env}{s:Í}{H:Hp}{E:XK},yG k Īk->vY (ũj).wZ ź b)(e:Ì Úd q10):yT P w K mg È yo ĸ f fd ps øe:=d.lU S e h λ_ _ _ _ _ _ c=>g c
#print a
open ł
structure SU(X:Cx)(E:XK)(st:Ô)(f:xw):Æ where
 h:∃t,PS X st t/\∀{G0 H0 G H:Hp}{τ:zw}{σ:St}{r:Sum Fl Ç}{En:xv},zi X.K ê G0 H0 G H τ σ->f τ=À r->Dr X.K ê â G0 H0 En E r->t En σ H
nonrec def JY(g f:xw):xw:=λτ=>(őc).bind λr=>match r with
 |.inl (.nx τ')=>f τ'|r=>À r
nonrec def p7(g:FG)(b:xw):Á D->xw
 | [],τ=>À (.inl (.nx τ))|d::ds,τ=>(g d τ).bind λτ1=>(b τ1).bind λr=>match r with
  |.inl Áp=>p7 g b ds τ2|.inl (.ct τ2)=>p7 g b ds τ2|.inl (.bk τ2)=>À (.inl Áp)|.inl ϱo=>À (.inl ϱo)|.inr x=>À Øa
def JX(fs:FA)(g:FG)(b:xw):xw:=λτ=>(fs τ).bind λa=>p7 g b a τ
section
variable{X:Cx}{E:XK}{i j k:Ä}{f x y z v:Ç}{C:Ë}{st:Ô}{zY ńa:Á Ô}{g fbd:xw}{ff:xw}{fs:FA}{fg:FG}{F:FX}{c e tg Ŝ:Ñ}{pos:Pos}
def y6s(b:SU X E st g)(l:k8 X E zY ff):k8 X E žf (JY g ff):=by
 rw[Ōp];let{v,e,f}:=l.h;show{{_,j9 p e,λ{m s G H τ σ r c} K a q=>?_}};let{i,b,a}:=zC a;show k K b ?_;cases i with
 |inr x=>cases a;show q|inl fl=>
  cases fl with
  |nx τ'=>show λσ' u n j=>f j a q|rt o d=>cases a;show Įb (E:=c) (fl:=.rt o d) q ō ō ō rfl
  |bk τ'=>cases a;show q|ct τ'=>cases a;show q
def vz.near{d:Ç->É Value}{b a c g:Hp}(j:zK b a c g)(h:vz d b a E x):vz d c a E x:=by let{C,e,k}:=h;show{C,e,λf i y=>k f i (j.rebase y)}
def y6q(Q:Ũb ā X.A Ó ĥ)(T:ż=Ã)(hi:SI X tg Ŝ fs)(P:SG X tg fg)(S:k8 X E ńa fbd)(v:Ì (∀x,Úb Ŝ Ó x=pure x) q11):SU X E Ůe (JX fs fg fbd):=by
 rw[ľp];show{{_,LZ Q T Z O pb v,λ{G0 n G H τ σ r t} K a q=>?_}};let{b,R,a}:=zC a;show L K R λJ f Ha W _ p=>?_
 let s:=Ϝ W
 let c:Dr X.K ê â f n t E r:=by
  cases r with
  |inl fl=>show ϕf s.ext q|inr x=>show vz.near s.ext q
 show{λi m σ H=>m=ϫ-i/\i<=ϫ/\∃τ G,zi X.K ê f n G H τ σ/\p7 fg fbd ϩf τ=À r,{ϫ,rfl,ϱ _,τ,f,s.Y2,a},?_};rw[Óp];show .inr {p.go i G H Ãb Âa hlt,λσ' j=>∃τ G,zi X.K ê f n G j τ σ'/\p7 fg fbd Ņf τ=À r,λσ' j z=>{ϫ-ē,ŗd _ _ hlt,rfl,hlt,z},λx j y=>?_};let{G3,d,x3,u,F}:=p.vw i G H x j Ãb Âa hlt y;rw[Űp];rw[ļ hlt]at u;cases u;let{τ1,Y,a}:=zC (show(Ϟo).bind _=_ from a);let{f1,U,a}:=zC a;show B ŵf F Y λσ1 K1=>I K1 U ?_
 cases f1 with
 |inr x=>cases a;show c|inl fl=>
  cases fl with
  |nx τ2=>show λσ2 k H2 l=>{τ2,k,l,a}|ct τ2=>show λσ2 k H2 l=>{τ2,k,l,a}|bk τ2=>cases a;show c|rt o d=>cases a;show Įb (E:=t) (fl:=.rt o d) c ō ō ō rfl
 rw[ûp];show .inl {p.stop i G H Ãb Âa Î,c _ _ _ K}
#print a
#print L3
namespace L2
open č Ĕ ł ď
nonrec def wH(p:Ù):Ê:=Ĺe p.1
def yU(p q:Ù):Æ:=wH p<=wH q
def WP(p:Ù):Æ:=∃n t,p.1=.int n t
def vR(x:Ú Ù):Æ:=∀(i:Ä) p,x[i]?=À p->WP p
nonrec def Xp:Ò->Ù->Ú Ù->Ä->Ä->Ä->ņ û Sem ťb:=sortPriv% PySem.Builtin.gallop
nonrec def bD:Ú Ù->Ú Ù->ņ û Sem Ðc:=sortPriv% PySem.Builtin.mergeLo
nonrec def bC:Ú Ù->Ú Ù->ņ û Sem Ðc:=sortPriv% PySem.Builtin.mergeHi
section
variable{Ā:à}{w:ß}{A:è}{E:Value->Í->Æ}{s:Í}
def v4{x:Ú Ù}{i:Ä}{p:Ù}{st:û}{Q}(h:x[i]?=À p)(q:Q p st):wpS æ A E s (úa x i) Q st:=by rw[elem'_eq,h];show ñ q
def w_lt{p q:Ù}{st:û}{Q:É Ò->û->Æ}(hk:Ħe st=èe)(d:WP p)(c:WP q)(h:Q (Ρa (wH p<wH q)) st):wpS æ A E s Ϙo Q st:=by obtain⟨⟨a,t,e⟩,⟨b,u,f⟩⟩:=And.intro d c;rw[lt'_eq];rw[ϐp];unfold wH at h;rw[hk,keyLt'_oneType,e,f];rw[e,f]at h;show ã (ŀg (Şd (Ġo {rfl,ñ h})))
def Ke(B:Ä->Ò)(n hi:Ä):Æ:=hi<=n/\(∀i,i<hi->B i=Ã)/\∀i,hi<=i->i<n->B i=Å
nonrec def jm(left:Ò)(k:Ê)(f:Ä->Ê)(i:Ä):Ò:=if left then decide (f i<k)else !decide (k<f i)
def x41{left:Ò}{a x:Ù}{st:û}{Q:É Ò->û->Æ}(hk:Ħe st=èe)(c:WP a)(b:WP x)(h:Q (À (jm left (wH a) (λ_=>wH x) 0)) st) :wpS æ A E s (if left=Ã then lt' x a else do let y <-lt' a x;pure Ŏk) Q st:=by
 cases left with
 |Ã=>show w_lt hk b c h|Å=>show ã (w_lt hk c b (ñ h))
def JT{β:Type}{n:Ä}{c:β}{f:Ä->β->ņ û Sem (Ϯa β)}{st:û}{Q R:β->û->Æ}(I:Ä->β->Æ)(h:I 0 c)(a:∀i c,i<n->I i c->wpS æ A E s (f i c) (λr st'=>match r with|.done c'=>Q c' st'|.yield c'=>st'=st/\I ē c') st)(e:∀c,I n c->Q c st)(b:∀c st',Q c st'->R c st'):wpS æ A E s ŏm R st:=by show űc (Ŷa (I:=λi c st'=>st'=st/\I i c) (Q:=Q) ?_ ?_ {rfl,h}) b;rintro i c _ _ d ⟨rfl,h⟩;show a i c d h;rintro c _ ⟨rfl,h⟩;rw[ûf]at h;show e c h
def hJ{B:Ä->Ò}{n lo hi:Ä}{st:û}{f:Ä->É ťb×Ä×Ä->ņ û Sem (Ϯa (É ťb×Ä×Ä))}{R:É ťb×Ä×Ä->û->Æ}(a:∀i j,i<=j->j<n->B j=Ã->B i=Ã)(y:lo<=hi)(v:hi<=n)(z:∀i,i<lo->B i=Ã)(I:∀i,hi<=i->i<n->B i=Å)(C:∀x l r Q,r<=l->Q (.done (Â,l,r)) st->wpS æ A E s Ĕm Q st)(H:∀x l r Q,l<r->r<=n->(B ēf=Ã->Q (.yield (Â,l+(r-l)/2+1,r)) st)->(B ēf=Å->Q (.yield (Â,l,l+(r-l)/2)) st)->wpS æ A E s Ĕm Q st)(q:∀m,Ke B n m->R (Â,m,m) st):wpS æ A E s (öb [:n] (Â,lo,hi) f) R st:=by show JT (Q:=λc k=>k=st/\∃m,c=(Â,m,m)/\Ke B n m) (λx c=>∃l r,c=(Â,l,r)/\l<=r/\r<=n/\r+x<=n+l/\(∀i,i<l->B i=Ã)/\∀i,r<=i->i<n->B i=Å) {lo,hi,rfl,y,v,ņm v ϱf,z,I} ?_ ?_ ?_;rintro x _ J ⟨l,r,rfl,t,b,F,h,d⟩;by_cases c:r<=l;cases ŏb t c;show C _ _ _ _ c {rfl,l,rfl,b,h,d};let u:=Ża l ((r-l)/2);let p:=ϖk (Nat.div_lt_self (Àh Ŝd) (Āb 1));show H _ _ _ _ Ŝd b ?_ ?_<;>(generalize l+(r-l)/2=m at u p ⊢;intro e);show{rfl,_,r,rfl,p,b,by omega,λi o=>a i m (Ăc o) (Ŧ p b) e,d};refine{rfl,l,_,rfl,u,by omega,by omega,h,λi o G=>?_};cases e2:B i;rfl;rw[a _ i o G e2]at e;cases e;rintro _ ⟨l,r,rfl,t,b,F,h,d⟩;cases ŏb t Î;show{rfl,l,rfl,b,h,d};rintro _ _ ⟨rfl,m,rfl,g⟩;show q m g
def x44{left:Ò}{f:Ù}{x:Ú Ù}{b n d:Ä}{st:û}{Q:É Ä->û->Æ}(hk:Ħe st=èe)(S:WP f)(J:vR x)(W:b+n<=ĕ)(G:d<n)(P:∀i j,i<=j->j<n->K x (b+i)<=K x (b+j))(h:∀hi,Ke Ök n hi->Q (À hi) st) :wpS æ A E s (Xp left f x b n d) Q st:=by
 have H:∀i Q,i<n->Q (À (jm left Īe Äf i)) st->wpS æ A E s (úa x (b+i) >>= λx=>if left=Ã then lt' x f else do let y <-lt' f x;pure Ŏk) Q st:=by
  intro i Q hi q;rw[śp];show ã (v4 e (x41 hk S (J _ _ e) ?_));let e2:K x (b+i)=wH x[b+i]:=by unfold K;rw[e];rfl
  let L:jm left Īe (λ_=>wH x[b+i]) 0=jm left Īe Äf i:=by unfold jm;simp only[e2]
  rw[L];show q
 let k:∀i j,i<=j->j<n->jm left Īe Äf j=Ã->jm left Īe Äf i=Ã:=by intro i j U T;let:=P i j U T;unfold jm;cases left;simp only[Òa,ŕ,Ųl,decide_eq_false_iff_not];omega;simp only[ĭ,ũl];omega
 generalize Ök=B at h H k;unfold Xp;show ã (H d _ G ?_);cases e:B d;show ã (JT (Q:=λc v=>v=st/\∃l o,c=(Â,l,o)/\l<=d/\B (d-l)=Å/\l<o/\∀i,i+o<=d->B i=Ã) (λx c=>∃l o,c=(Â,l,o)/\l<=d/\B (d-l)=Å/\l<o/\x<o) {0,1,rfl,ϱ _,e,Ŧd,Ŧd} ?_ ?_ ?_);rw[Ŗp]
 split;show ñ {rfl,l,o,rfl,t,p,u,λi _=>by omega};let lo:=ĩa (Nat.sub_le d o) G;show ã Ön;cases e2:B (d-o);show ñ {rfl,o,_,rfl,by omega,e2,by omega,by omega};show ñ {rfl,l,o,rfl,t,p,u,λi F=>k i _ (Nat.le_sub_of_add_le F) lo e2};rintro _ ⟨l,o,rfl,t,p,u,C⟩;show{rfl,l,o,rfl,t,p,u,λi _=>by omega};rw[όp];refine ã (hJ (B:=B) (lo:=d+1-min o (d+1)) (hi:=d-l) k (Ĳ (ϛg (Ûf {u,Đc t}) _) (àb (Nat.add_sub_add_right ..))) (Àa (ĩa Üb G)) (λi a=>C i (by let:=Nat.add_lt_of_lt_sub a;omega)) (λi F N=>?_) ăl Şk λm g=>ñ (h m g));cases e2:B i;rfl;rw[k _ i F N e2]at p;cases p;rw[Žp];show ã (JT (Q:=λc v=>v=st/\∃l o,c=(Â,l,o)/\d+l<n/\B (d+l)=Ã/\l<o/\∀i,d+o<=i->i<n->B i=Å) (λx c=>∃l o,c=(Â,l,o)/\d+l<n/\B (d+l)=Ã/\l<o/\x<o) {0,1,rfl,G,e,Ŧd,Ŧd} ?_ ?_ ?_);rw[Ŗp]
 split;rw[ϗp]
 replace c:=Nat.le_add_of_sub_le c
 show ñ {rfl,l,o,rfl,t,p,u,λi _ _=>by omega};rw[ϗp];let lo:=ϖk Ŝd;show ã Ön;cases e2:B (d+o);show ñ {rfl,l,o,rfl,t,p,u,λi F N=>by cases L:B i;rfl;rw[k _ i F N L]at e2;cases e2};show ñ {rfl,o,_,rfl,lo,e2,by omega,by omega};rintro _ ⟨l,o,rfl,t,p,u,C⟩;show{rfl,l,o,rfl,t,p,u,λi _ _=>by omega};rw[όp];show ã (hJ (B:=B) (lo:=d+l+1) (hi:=d+min o (n-d)) k (Nat.add_lt_add_left (Nat.lt_min.mpr {u,Nat.lt_sub_of_add_lt (Äd .. ▸ t)}) _) (Ĳ (Žc (ĩg ..) _) (àb (ύc (Àa G)))) (λi F=>k i (d+l) (Ăc F) t p) (λi a b=>?_) ăl Şk λm g=>ñ (h m g));rcases þf o (n-d)with z|z;rw[Őa z]at a;show C i a b;rw[Áf z,ύc (Àa G)]at a;show Þ b Ϭi;rw[Žp]
#print a
structure uA(R:Ù->Ù->Æ)(t o x y:Á Ù):Æ where
 p:(o++āj).Perm t
 sx:(o++x).Pairwise R
 sy:(o++y).Pairwise R
section
variable{R:Ù->Ù->Æ}{t o m x y:Á Ù}
def ϗf(h:uA R t o x y):uA R t o y x:={(Źg o List.perm_append_comm).trans h.p,h.sy,h.sx}
def Ϙf(h:uA R t o (m++x) y)(c:∀p∈m,∀q∈y,R p q):uA R t (o++m) x y:=by let{p,a,b}:=h;show{?_,?_,?_};rw[Ř]at p ⊢;show p;rw[Ř];show a;rw[List.pairwise_append]at a b ⊢;show{?_,b.2.1,λp e q d=>?_};show ŷe {a.1,(Ņb a.2.1).1,λp e q d=>a.2.2 p e q (Ċc _ d)};rcases ōa e with z|z;show b.2.2 p z q d;show c p z q d
def àj(h:uA R t o x y)(c:∀p∈x,∀q∈y,R p q):(ϕo).Perm t/\(ϕo).Pairwise R:=by let:=(Ϙf (m:=x) (x:=[]) (by rw[ŏ];show h) c);show{by rw[Ř];show h.p,this.sy}
#print a
def ϝa{p q r:Ù}(a:yU p q)(b:yU q r):yU p r:=Ϻb a b
section
variable{Ā:à}{w:ß}{A:è}{E:Value->Í->Æ}{s:Í}
def UF{left:Ò}{a:Ù}{x:Ú Ù}{b n d:Ä}{st:û}{Q:É Ä->û->Æ}(hk:Ħe st=èe)(f:WP a)(q:vR x)(t:b+n<=ĕ)(r:d<n){z:Á Ù}(m:(ϋm b).take n=z)(o:z.Pairwise yU)(h:∀k,k<=n->(∀p∈z.take k,if left then wH p<wH a else yU p a)->(∀p∈z.drop k,if left then yU a p else wH a<wH p)->Q ıb st) :wpS æ A E s (Xp left a x b n d) Q st:=by
 have v:Ņ=n:=by rw[<-m,Ôa,Ăa,ŧ];omega
 let g:∀i (l:i<Ņ),K x (b+i)=wH z[i]:=by intro i l;subst m;rw[śp];unfold K;rw[e,ůl,Űl,ąb];rfl
 show x44 hk f q t r (λi j u y=>?_) λk c=>h k c.1 (λp f=>?_) λp f=>?_;rw[g i Î,g j Î];by_cases e:i=j;subst e;show Öa _;show úk o i j _ _ Î;let{i,l,rfl}:=List.mem_take_iff_getElem.mp f;let:=c.2.1 i Î;simp only[jm,g i (show i<Ņ by omega)]at this;cases left;show ϥb Ϫk;simpa using this;let{i,l,rfl}:=List.mem_drop_iff_getElem.mp f;let:=c.2.2 (k+i) Î Î;simp only[jm,g (k+i) Î]at this;simp only[Äd k i]at this ⊢;cases left;simpa using this;show ϥb Ϫk
def qd{β:Type}(Q I:β->Æ):Ϯa β->Æ
 |.done c=>Q c|.yield c=>I c
abbrev yK(a:Ú Ù)(p:Ú Ĭa)(f:É Value)(g:Ä):û:=Şb èe a p g f
def UE{β:Type}{n:Ä}{c:β}{f:Ä->β->ņ û Sem (Ϯa β)}{a p fl g}{R:β->û->Æ}(I:Ä->β->Æ)(Q:β->Æ)(h:I 0 c)(b:∀i c g,i<n->I i c->wpS æ A E s (f i c) (λr st'=>∃g',st'=yK a p fl g'/\qd Q (I ē) r) ķh)(j:∀c,I n c->Q c)(d:∀c g,Q c->R c ķh):wpS æ A E s ŏm R ķh:=by show űc (Ŷa (I:=λi c st'=>∃g,st'=yK a p fl g/\I i c) (Q:=λc st'=>∃g,st'=yK a p fl g/\Q c) ?_ ?_ {g,rfl,h}) ?_;rintro i c _ _ e ⟨g,rfl,h⟩;show űc (b i c g e h) ?_;rintro r _ ⟨g,rfl,h⟩;cases r<;>show{g,rfl,h};rintro c _ ⟨g,rfl,h⟩;rw[ûf]at h;show{g,rfl,j c h};rintro c _ ⟨g,rfl,h⟩;show d c g h
#print a
def xi(t:Á Ù)(a b o:Ú Ù)(i j:Ä):Æ:=uA yU t ĺi ϰf (ϳb j)
def vp(t:Á Ù)(r:Ú Ù):Æ:=r.toList.Perm t/\r.toList.Pairwise yU
section
variable{t:Á Ù}{a b o:Ú Ù}{i j k:Ä}{p:Ù}
def Fn(h:a[i]?=À p):ża i=p::ża ē:=by let{b,rfl}:=łb h;rw[ņb Đl,ąb]
theorem xi.swap(h:xi t a b o i j):xi t b a o j i:=ϗf h
def xi.pa(h:xi t a b o i j)(e:a[i]?=À p)(c:∀q∈ϳb j,yU p q):xi t a b ñd ē j:=by unfold xi at h ⊢;rw[Fn e]at h;rw[Åh];show Ϙf (m:=[p]) h λq d=>źa d▸c
def xi.pb(h:xi t a b o i j)(e:b[j]?=À p)(c:∀q∈ża i,yU p q):xi t a b ñd i ϵ:=(ēm).swap
def xi.ca(h:xi t a b o i j)(c:∀p∈(ϰf).take k,∀q∈ϳb j,yU p q):xi t a b Åf ţc j:=by unfold xi at h ⊢;rw[<-Ňa k ϰf,ďh]at h;rw[ϖc,řd,Ŋd,że];show h.move c
def xi.cb(h:xi t a b o i j)(c:∀p∈(ϳb j).take k,∀q∈ża i,yU p q):xi t a b (o++ϲa j (j+k)) i (j+k):=(Īo c).swap
theorem xi.fin(h:xi t a b o i j)(c:∀p∈ża i,∀q∈ϳb j,yU p q):vp t (o++Ēb i ù++ϲa j ϐ):=by
 let e:∀(x:Ú Ù) k,(Ϝc k ĕ).toList=ϋm k:=λx k=>by rw[řd,Ŋd];show ąc (by rw[Ăa,ŧ];show ϔ _)
 unfold vp;rw[ϖc,ϖc,e,e];show àj h c
def xi.hd(h:xi t a b o i j)(e:a[i]?=À p):∀q∈ża i,yU p q:=by unfold xi at h;let:=(Ņb h.sx).2.1;rw[Fn e]at this ⊢;intro q c;rcases ř c with rfl|c;show Öa _;show(ϛb this).1 q c
def xi.sa(h:xi t a b o i j):(ϰf).Pairwise yU:=ϭj.2.1
def bZ(h:i=ù){P:Ù->Æ}:∀p∈ża i,P p:=by rw[Ϗc Ũd];intro p b;cases b
def Sd(h:ϐ-i=k):(ϳb i).take k=ϳb i:=ąc (by rw[Ăa,ŧ];omega)
#print a
abbrev eV:=É Ðc×Ú Ù×Ä×Ä×Ä
abbrev M6:=É Ðc×Ú Ù×Ä×Ä×Ä×Ä
abbrev Yr:=É Ðc×Ú Ù×Ä×Ä×Ä×Ä×Ä
structure WQ(t:Á Ù)(a b:Ú Ù)(x:Ä)(o:Ú Ù)(i j:Ä):Æ where
 l:xi t a b o i j
 p:i+1<ù
 q:j<ϐ
 s:x<i+j
section
variable(t:Á Ù)(a b:Ú Ù)(x:Ä)
inductive ME:eV->Æ
 |mk {o i j m}:WQ t a b x o i j->ME (Â,o,i,j,m)
inductive JA:M6->Æ
 |mk {o i j m n}:WQ t a b x o i j->JA (Â,o,i,j,m,n)
inductive Ys:M6->Æ
 |fin {r c}:vp t r->Ys (À r,c)
 |go {o i j m n}:WQ t a b x o i j->Ys (Â,o,i,j,m,n)
inductive U9:Yr->Æ
 |mk {o i j m n q}:WQ t a b x o i j->U9 (Â,o,i,j,m,n,q)
inductive jn:Yr->Æ
 |fin {r c}:vp t r->jn (À r,c)
 |go {o i j m n q}:WQ t a b x o i j->jn (Â,o,i,j,m,n,q)
#print a
def Zd{a b:Ä}(h:a<=b)(c:¬čj=Ã):a<b:=Ĩl h λe=>c (ϳc e)
def Yh{a:Ä}(c:¬(a==0)=Ã):∃n,a=n+1:=Nat.exists_eq_succ_of_ne_zero λe=>c (ϳc e)
nonrec def MB(r:É Ä)(f:Ä->ņ û Sem β)(g:ņ û Sem β):ņ û Sem β:=(sortPriv% PySem.Builtin.mergeLo.match_1) ϔe r f λ_=>g
section
variable(a b:Ú Ù)
nonrec def Zl(o:Ú Ù)(i j:Ä):Ú Ù:=o++Ēb i ù++ϲa j ϐ
nonrec def M5(o:Ú Ù)(i j:Ä):Ú Ù:=o++ϲa j ϐ++Ēb i ù
def Kq(o:Ú Ù)(i j g k m:Ä):ņ û Sem ŷf:=do
 let p <-úa a i
 if Ħn=Ã then pure (.done (À Řl,Ű p,i+1,j,g,k,m))
 else if(decide (k<7)&&decide (m<7))=Ã then pure (.done (Â,Ű p,i+1,j,g,k,m))else pure (.yield (Â,Ű p,i+1,j,g,k,m))
def Kp(o:Ú Ù)(i j g k u:Ä):ņ û Sem ŷf:=do
 let q <-úa b j
 if óo=Ã then pure Ŋj
 else do
  let p <-úa a i
  let r <-Xp Ã p b ϵ (ϐ-ϵ) 0
  MB r (λm=>
   if m>0 then
    if(j+1+m==ϐ)=Ã then pure (.done (À (Zl a b ńk i Ëj),Ű q++ϲa ϵ Ëj,i,j+1+m,g,k,m))
    else Kq a b ńk i Ëj g k m
   else Kq a b Ϯf i ϵ g k m) (pure Ŋj)
def Ko(o:Ú Ù)(i j n u g:Ä):ņ û Sem ŷf:=do
 Ŗc λs=>Şb ıc Ķc æc g Ĥc
 let q <-úa b j
 let r <-Xp Å q a i (ù-i) 0
 MB r (λk=>
  if k>0 then
   if(i+k+1==ù)=Ã then pure (Γd (M5 a b Åf ţc j) ţc)
   else if(i+k==ù)=Ã then pure (Γd (Zl a b Åf ţc j) ţc)
   else Kp a b Åf ţc j g k u
  else Kp a b o i j g k u) (pure (.done (À àf,o,i,j,g,n,u)))
nonrec def J9(r:É α)(f:α->ņ û Sem β)(g:ņ û Sem β):ņ û Sem β:=Break.runK.match_1 ϔe r f λ_=>g
nonrec def ef(r:É Ò)(f:Ò->ņ û Sem β)(g:ņ û Sem β):ņ û Sem β:=(sortPriv% PySem.Builtin.countRun.match_1) ϔe r f λ_=>g
def eh(o:Ú Ù)(i j g m n:Ä):ņ û Sem (Ϯa M6):=do
 let q <-úa b j
 let p <-úa a i
 let r <-lt' q p
 ef r (λt=>
  if t=Ã then do
   let q <-úa b j
   if óo=Ã then pure (.done (À (Zl a b Ϯf i ϵ),Ű q,i,j+1,0,n+1))
   else if n+1≥g then pure (.done (Â,Ű q,i,j+1,0,n+1))else pure (.yield (Â,Ű q,i,j+1,0,n+1))
  else do
   let p <-úa a i
   if Ħn=Ã then pure (.done (À Řl,Ű p,i+1,j,m+1,0))
   else if m+1≥g then pure (.done (Â,Ű p,i+1,j,m+1,0))else pure (.yield (Â,Ű p,i+1,j,m+1,0))) (pure (.done (À àf,o,i,j,m,n)))
def y62(x:Yr):ņ û Sem ŷf:=if x.2.2.2.2.1>1 then Ko a b x.2.1 x.2.2.1 x.2.2.2.1 x.2.2.2.2.2.1 x.2.2.2.2.2.2 (x.2.2.2.2.1-1)else Ko a b x.2.1 x.2.2.1 x.2.2.2.1 x.2.2.2.2.2.1 x.2.2.2.2.2.2 x.2.2.2.2.1
def y63(o:Ú Ù)(i j g:Ä):ņ û Sem (Ϯa eV):=do
 let d <-öb [:ù+ϐ] ((Â,o,i,j,0,0):M6) λ_ d=>eh a b d.2.1 d.2.2.1 d.2.2.2.1 g d.2.2.2.2.1 d.2.2.2.2.2
 J9 d.1 ŋj do
  liftM Ĳk
  let e <-öb [:ù+ϐ] ((Â,d.2.1,d.2.2.1,d.2.2.2.1,g+1,d.2.2.2.2.1,d.2.2.2.2.2):Yr) λ_ e=>y62 a b e
  J9 e.1 ŀj do
   Ŗc λs=>Şb ıc Ķc æc ĝm Ĥc
   pure őj
#print a
def YR(x:Ú Ù)(i:Ä)(h:i<ĕ):∃p,x[i]?=À p:={_,getElem?_pos x i h}
section
variable{t:Á Ù}{a b:Ú Ù}(hl:∀q∈ľc,∀p∈ża ϲf,yU q p)
include hl in
theorem xi.lst{o i j}(l:xi t a b o i j)(e:i+1=ù):vp t (M5 a b o i j):=Ào λq d p c=>hl q (List.drop_subset _ _ d) p (by rw[show ù-1=i by omega];show c)
def xi.da{o i j}(l:xi t a b o i j)(e:i=ù):vp t àf:=ùg (bZ e)
def xi.db{o i j}(l:xi t a b o i j)(e:j=ϐ):vp t àf:=ùg λp c=>bZ e
#print a
section
variable{Ā:à}{w:ß}{A:è}{E:Value->Í->Æ}{s:Í}
def yi{α:Type}{c:Æ}[ļo c]{m n:ņ û Sem α}{Q:α->û->Æ}{st:û}(a:c->wpS æ A E s m Q st)(b:¬c->wpS æ A E s n Q st):wpS æ A E s (if c then m else n) Q st:=by by_cases h:c;rw[Ö h];show a h;rw[Ø h];show b h
section
variable{t:Á Ù}{a b:Ú Ù}(ha:vR a)(hb:vR b)(hl:∀q∈ľc,∀p∈ża ϲf,yU q p){a0:Ú Ù}{p0:Ú Ĭa}{f0:É Value}{x y g m k u:Ä}{o:Ú Ù}{i j:Ä}{p q:Ù}
include hl in
theorem i5(l:xi t a b o i j)(ep:a[i]?=À p)(c:∀r∈ϳb j,yU p r)(e:i+1<ù)(d:j<ϐ)(h:x<=i+j)(f:y<=x):wpS æ A E s (Kq a b o i j g k m) (η (jn t a b y) (U9 t a b x)) Ϭb:=by
 replace l:=l.pa ep c
 show ã (v4 ep (Ξa (Χb űm)))
 replace c:=Zd e c
 show yi (λ_=>ñ {g,rfl,jn.go {l,c,d,by omega}}) λ_=>ñ {g,rfl,U9.mk {l,c,d,by omega}}
include ha hb hl in
theorem i4(l:xi t a b o i j)(h:b[j]?=À q)(c:∀r∈ża i,yU q r)(f:i+1<ù)(B:x<i+j+1)(e:y<=x):wpS æ A E s (Kp a b o i j g k u) Ϯj Ϭb:=by
 let G:=(łb h).1
 replace l:=l.pb h c
 show ã (v4 h (Ξa (Χb (l.db ŏa))))
 replace c:=Zd G c
 replace e:=Ϟc e
 let{p,d}:=YR a i (ēc f);show ã (v4 d (ã (UF rfl (ha _ _ d) hb Ćm (Àh c) (Sd rfl) ģo λm n e1 e2=>?_)));rw[ďh]at e2
 replace n:j+1+m<=ϐ:=Äd .. ▸ Ál ŉc n
 show yi őf λF=>?_;let v:=l.cb λp C r z=>ϝa (áa (e1 p C)) (l.hd d r z)
 refine yi (Χb (v.db ŏa)) λc=>i5 hl v d e2 f (Zd n c) Î e;cases Ļg F;show i5 hl l d e2 f c B e
include ha hb hl in
theorem h_(l:xi t a b o i j)(z:i+1<ù)(K:j<ϐ)(F:x<i+j)(B:y<=x){n I:Ä}:wpS æ A E s (Ko a b o i j n u g) Ϯj (yK a0 p0 f0 I):=by
 let{q,e}:=YR b j K;let m:=ēc z;show ã (Ρ (χd (UF rfl (hb _ _ e) ha (àb (ύc (Àa m))) (Àh m) (Sd rfl) l.sa λk h G d=>?_)));rw[ďh]at d
 replace d:=λp v=>áa (d p v)
 replace h:i+k<=ù:=Äd .. ▸ Ál (Àa m) h
 show yi őf λc=>?_;let f:=l.ca λp v r C=>ϝa (G p v) (ĸf e r C)
 refine yi (Μd (f.lst hl ŏa)) λJ=>yi (Μd (f.da ŏa)) λH=>i4 ha hb hl f e d (Zd (Zd h H) J) Î B;cases Ļg c;show i4 ha hb hl l e d z (Ōb F) B
include ha hb hl in
theorem x47(l:WQ t a b x o i j)(B:y<=x+1){n:Ä}:wpS æ A E s (eh a b o i j g m n) (η (Ys t a b y) (JA t a b ùb)) Îf:=by
 let{l,h,k,z}:=l;let{p,e}:=YR a i (ēc h);let{q,f}:=YR b j k;show ã (v4 f (χd (Εc (hb _ _ f) (ha _ _ e))));by_cases c:wH q<wH p;rw[Ĵ c];let d:=l.pb f λr v=>ϝa (áa c) (l.hd e r v)
 show ã (v4 f (ψc ôo))
 replace c:=Zd k c
 show yi (λ_=>ñ {_,rfl,Ys.go {d,h,c,by omega}}) λ_=>ñ {_,rfl,JA.mk {d,h,c,Ϭl z}};rw[ϣ c];let d:=l.pa e λr v=>ϝa Īi (ĸf f r v)
 show ã (v4 e (ψc ųm))
 replace c:=Zd h c
 show yi (λ_=>ñ {_,rfl,Ys.go {d,c,k,by omega}}) λ_=>ñ {_,rfl,JA.mk {d,c,k,by omega}}
include ha hb hl in
theorem x48(l:WQ t a b x o i j):wpS æ A E s (y63 a b o i j g) (η ţe (ME t a b ùb)) Îf:=by show ã (Γb (λz=>JA t a b (x+z)) (Ys t a b ùb));rintro z _ g m ⟨l⟩;show x47 ha hb hl l ąm;rintro _ ⟨_,e,d,h⟩;rw[Òp];show ã (ω (Γb (λz=>U9 t a b (x+1+z)) (jn t a b ùb)));rintro z _ g m ⟨l,e,d,h⟩;let k:=Ża ùb z;show yi (λ_=>h_ ha hb hl l e d h k) λ_=>h_ ha hb hl l e d h k;rintro _ ⟨_,e,d,h⟩;rw[Òp];show ã (Ρ (ñ {_,rfl,ME.mk l}))
#print a
def x4b{a b:Ú Ù}{a0 p0 f0 g}{t:Á Ù}{Q:Ú Ù->û->Æ}(n:vR a)(o:vR b)(k:0<ù){y:Ù}(i:b[0]?=À y)(d:xi t a b #[y] 0 1)(j:∀q∈ľc,∀p∈ża ϲf,yU q p)(h:∀r g,vp t r->Q r Ϭb):wpS æ A E s (bD a b) Q Ϭb:=by let nb:0<ϐ:=(łb i).1;unfold bD;show ã (ω (v4 i (yi (ψa ôo) λu=>yi (ψa (d.lst j ŏa)) λm=>?_)));show ã (Θb (UE (λx=>ME t a b x) ţe {d,Zd k m,Zd nb u,Nat.one_pos} ?_ ?_ ?_));rintro x _ g B ⟨l⟩;show x48 n o j l;rintro _ ⟨_,v,C,z⟩;rw[Ĩp]
#print a
def xr(t:Á Ù)(a b o:Ú Ù)(i j:Ä):Æ:=uA (λp q=>yU q p) t ĺi (Ĕe).reverse (ϳi).reverse
section
variable{t:Á Ù}{a b o:Ú Ù}{i j k:Ä}{p:Ù}
def ND(h:a[i]?=À p):Ûb ē=Ûb i++[p]:=by let{b,rfl}:=łb h;rw[Ře Đl,ąb]
theorem xr.swap(h:xr t a b o i j):xr t b a o j i:=ϗf h
def xr.pa(h:xr t a b o ē j)(e:a[i]?=À p)(c:∀q∈Ŏb j,yU q p):xr t a b ñd i j:=by unfold xr at h ⊢;rw[ND e,Ϝg]at h;rw[Åh];show Ϙf (m:=[p]) h λq d r f=>źa d▸c r (şd f)
def xr.pb(h:xr t a b o i ϵ)(e:b[j]?=À p)(c:∀q∈Ûb i,yU q p):xr t a b ñd i j:=(ēm).swap
def xr.ca(h:xr t a b o i j)(hk:k<=i)(c:∀p∈(Ĕe).drop k,∀q∈Ŏb j,yU q p):xr t a b Űg k j:=by unfold xr at h ⊢;rw[<-Ňa k Ĕe,Ϝg,Čh,Őa hk]at h;rw[ϖc,Äl,řd,Ŋd,<-List.drop_take];show h.move λp e r d=>c p (şd e) r (şd d)
def xr.cb(h:xr t a b o i j)(hk:k<=j)(c:∀p∈(ϳi).drop k,∀q∈Ûb i,yU q p):xr t a b (o++(ϲa k j).reverse) i k:=(Īo hk c).swap
theorem xr.fin(h:xr t a b o i j)(c:∀p∈Ûb i,∀q∈Ŏb j,yU p q):vp t (Ēb 0 i++ϲa 0 j++åi):=by
 let e:∀(x:Ú Ù) k,(Ϝc 0 k).toList=x.toList.take k:=λx k=>by rw[řd,Ŋd];rfl
 let:=àj (ϗf h) λq d p g=>c p (şd g) q (şd d)
 unfold vp;rw[ϖc,ϖc,e,e,Äl]
 let f:(ĺi++(ϳi).reverse++(Ĕe).reverse).reverse=Ûb i++Ŏb j++o.toList.reverse:=by simp only[Ϝg,List.reverse_reverse,Ř]
 rw[<-f];show{(Áh _).trans this.1,Řg this.2}
def xr.sa(h:xr t a b o i j):(Ĕe).Pairwise yU:=List.pairwise_reverse.mp ϭj.2.1
def xr.hd(h:xr t a b o ē j)(e:a[i]?=À p):∀q∈Ûb ē,yU q p:=by let:=h.sa;rw[ND e]at this ⊢;intro q c;rcases ōa c with c|c;show(Ņb this).2.2 q c p Ō;rw[źa c];show Öa _
def bX(h:i=0){P:Ù->Æ}:∀p∈Ûb i,P p:=by subst h;intro p b;cases b
#print a
abbrev U8:=É Ðc×Ä×Ä×Ú Ù×Ä×Ä×Ä
abbrev eW:=É Ðc×Ä×Ä×Ú Ù×Ä
abbrev M7:=É Ðc×Ä×Ä×Ú Ù×Ä×Ä
structure Yt(t:Á Ù)(a b:Ú Ù)(x:Ä)(o:Ú Ù)(i j:Ä):Æ where
 l:xr t a b o ē ĸd
 p:i<ù
 q:j+1<ϐ
 s:x+i+j+3<ù+ϐ
section
variable(t:Á Ù)(a b:Ú Ù)(x:Ä)
inductive MF:eW->Æ
 |mk {o i j m}:Yt t a b x o i j->MF (Â,i+1,j+2,o,m)
inductive JB:M7->Æ
 |mk {o i j m n}:Yt t a b x o i j->JB (Â,i+1,j+2,o,m,n)
inductive Yu:M7->Æ
 |fin {r c}:vp t r->Yu (À r,c)
 |go {o i j m n}:Yt t a b x o i j->Yu (Â,i+1,j+2,o,m,n)
inductive UA:U8->Æ
 |mk {o i j m n q}:Yt t a b x o i j->UA (Â,i+1,j+2,o,m,n,q)
inductive jp:U8->Æ
 |fin {r c}:vp t r->jp (À r,c)
 |go {o i j m n q}:Yt t a b x o i j->jp (Â,i+1,j+2,o,m,n,q)
#print a
section
variable(a b:Ú Ù)
nonrec def Zm(o:Ú Ù)(i j:Ä):Ú Ù:=Ēb 0 i++ϲa 0 j++åi
nonrec def MD(o:Ú Ù)(i j:Ä):Ú Ù:=ϲa 0 j++Ēb 0 i++åi
def Km(o:Ú Ù)(i j g k m:Ä):ņ û Sem ŗi:=do
 let p <-úa a ńe
 if(i-1==0)=Ã then pure (.done (À Ýl,i-1,j,Ű p,g,k,m))
 else if(decide (k<7)&&decide (m<7))=Ã then pure (.done (Â,i-1,j,Ű p,g,k,m))else pure (.yield (Â,i-1,j,Ű p,g,k,m))
def Kl(o:Ú Ù)(i j g k u:Ä):ņ û Sem ŗi:=do
 let q <-úa b Ēa
 if(j-1==1)=Ã then pure (ωc ϊk)
 else do
  let p <-úa a ńe
  let r <-Xp Ã p b 0 Ēa (j-1-1)
  MB r (λm=>
   if j-1-m>0 then
    if(m==1)=Ã then pure (ζc (MD a b Łg i m) ůn)
    else if(m==0)=Ã then pure (ζc (Zm a b Łg i m) ůn)
    else Km a b Łg i m g k (j-1-m)
   else Km a b Ϯf i Ēa g k (j-1-m)) (pure (ωc (Zm a b Ϯf i Ēa)))
def Kk(o:Ú Ù)(i j n u g:Ä):ņ û Sem ŗi:=do
 Ŗc λs=>Şb ıc Ķc æc g Ĥc
 let q <-úa b Ēa
 let r <-Xp Å q a 0 i ńe
 MB r (λk=>
  if i-k>0 then
   if(k==0)=Ã then pure (.done (À (Zm a b Űg k j),k,j,o++(Ēb k i).reverse,g,i-k,u))
   else Kl a b Űg k j g (i-k) u
  else Kl a b o i j g (i-k) u) (pure (.done (À ßf,i,j,o,g,n,u)))
def eg(o:Ú Ù)(i j g m n:Ä):ņ û Sem (Ϯa M7):=do
 let q <-úa b Ēa
 let p <-úa a ńe
 let r <-lt' q p
 ef r (λt=>
  if t=Ã then do
   let p <-úa a ńe
   if(i-1==0)=Ã then pure (.done (À Ýl,i-1,j,Ű p,m+1,0))
   else if m+1≥g then pure (.done (Â,i-1,j,Ű p,m+1,0))else pure (.yield (Â,i-1,j,Ű p,m+1,0))
  else do
   let q <-úa b Ēa
   if(j-1==1)=Ã then pure (.done (À ϊk,i,j-1,Ű q,0,n+1))
   else if n+1≥g then pure (.done (Â,i,j-1,Ű q,0,n+1))else pure (.yield (Â,i,j-1,Ű q,0,n+1))) (pure (.done (À ßf,i,j,o,m,n)))
def y61(o:Ú Ù)(i j g:Ä):ņ û Sem (Ϯa eW):=do
 let d <-öb [:ù+ϐ] ((Â,i,j,o,0,0):M7) λ_ d=>eg a b d.2.2.2.1 d.2.1 d.2.2.1 g d.2.2.2.2.1 d.2.2.2.2.2
 J9 d.1 ŋj do
  liftM Ĳk
  let e <-öb [:ù+ϐ] ((Â,d.2.1,d.2.2.1,d.2.2.2.1,g+1,d.2.2.2.2.1,d.2.2.2.2.2):U8) λ_ e=>if e.2.2.2.2.1>1 then Kk a b e.2.2.2.1 e.2.1 e.2.2.1 e.2.2.2.2.2.1 e.2.2.2.2.2.2 (e.2.2.2.2.1-1)else Kk a b e.2.2.2.1 e.2.1 e.2.2.1 e.2.2.2.2.2.1 e.2.2.2.2.2.2 e.2.2.2.2.1
  J9 e.1 ŀj do
   Ŗc λs=>Şb ıc Ķc æc ĝm Ĥc
   pure őj
#print a
section
variable{Ā:à}{w:ß}{A:è}{E:Value->Í->Æ}{s:Í}
section
variable{t:Á Ù}{a b:Ú Ù}(ha:vR a)(hb:vR b)(hl:∀q∈ŉi,∀p∈Ŏb 1,yU p q){a0:Ú Ù}{p0:Ú Ĭa}{f0:É Value}{x y g m k u:Ä}{o:Ú Ù}{i j:Ä}{p:Ù}
include hl in
theorem xr.lst(l:xr t a b o i j)(e:j=1):vp t (MD a b o i j):=Ào λq d p c=>hl p (List.take_subset _ _ c) q (e▸d)
def xr.da(l:xr t a b o i j)(e:i=0):vp t ßf:=ùg (bX e)
def xr.db(l:xr t a b o i j)(e:j=0):vp t ßf:=ùg λp c=>bX e
def hX(l:xr t a b o ē j)(ep:a[i]?=À p)(c:∀r∈Ŏb j,yU r p)(e:2<=j)(c3:j<=ϐ)(h:x+i+j<ù+ϐ)(f:y<=x):wpS æ A E s (Km a b o ē j g k m) Òk Ϭb:=by
 let d:=(łb ep).1
 replace l:=l.pa ep c
 show ã (v4 ep (yi (μa (l.da ŏa)) λc=>?_));let{i,rfl}:=Yh c;obtain⟨j,rfl⟩:∃n,j=n+2:={j-2,(ϧe e).symm};show yi (λ_=>ñ {g,rfl,jp.go {l,ēc d,c3,by omega}}) λ_=>ñ {g,rfl,UA.mk {l,ēc d,c3,by omega}}
include ha hb hl in
theorem hV(l:xr t a b o ē ĸd)(v:b[j+1]?=À q)(c:∀r∈Ûb ē,yU r q)(I:i<ù)(J:x+i+j+1<ù+ϐ)(C:y<=x):wpS æ A E s (Kl a b o ē ĸd g k u) Òk Ϭb:=by
 let f:=(łb v).1
 replace l:=l.pb v c
 show ã (v4 v (yi (μa űm) λc=>?_));let{j,rfl}:=Yh (a:=j) λe=>c ţg
 let{p,h}:=YR a i I
 replace f:=Àa f
 show ã (v4 h (ã (UF rfl (ha _ _ h) hb (show 0+(j+1+1)<=ϐ from(ϴi).symm▸f) ųf (z:=Ŏb (j+1+1)) rfl ģo λm d e1 e2=>?_)))
 replace d:m<=j+1+1:=d
 rw[Čh,Őa d]at e1
 replace e1:=λp B=>áa (e1 p B)
 show yi őf λc=>?_;let n:=l.cb d λp B r F=>ϝa (l.hd h r F) (e2 p B)
 show yi (μa (n.lst hl ŏa)) λH=>yi (μa (n.db ŏa)) λG=>by
  let{m,rfl}:=Yh G;let{m,rfl}:=Yh (a:=m) λe=>H ţg
  show hX n h e1 àl (Ĳ d f) Î C
 cases ŏb d Úk;show hX l h e1 àl f Î C
include ha hb hl in
theorem hU(l:Yt t a b x o i j)(f:y<=x){n H:Ä}:wpS æ A E s (Kk a b o ē ĸd n u g) (η (jp t a b y) (UA t a b ùb)) (yK a0 p0 f0 H):=by
 let{l,m,F,I}:=l;let{q,d}:=YR b ϵ F
 replace f:=Ϟc f
 show ã (Ρ (ã (v4 d (ã (UF rfl (hb _ _ d) ha (show 0+ē<=ù from(ϴi).symm▸m) (Nat.lt_succ_self _) (z:=Ûb ē) rfl l.sa λk e h C=>?_)))));rw[Čh,Őa e]at h;show yi őf λc=>?_;let v:=l.ca e λp G r B=>ϝa (ĸf d r B) (áa (C p G))
 show yi (λc=>ñ {_,rfl,jp.fin (v.da ŏa)}) λc=>?_
 let{k,rfl}:=Yh c;show hV ha hb hl v d h (Ĳ e m) Î f;cases ŏb e Úk;show hV ha hb hl l d h m Î f
include ha hb hl in
theorem x45(l:Yt t a b x o i j)(C:y<=x+1){n:Ä}:wpS æ A E s (eg a b o ē ĸd g m n) (η (Yu t a b y) (JB t a b ùb)) Îf:=by
 let{l,h,f,B}:=l;let{p,v}:=YR a i h;let{q,k}:=YR b ϵ f;show ã (v4 k (ã (v4 v (ã (Εc (hb _ _ k) (ha _ _ v))))));by_cases c:wH q<wH p;rw[Ĵ c];let d:=l.pa v λr z=>ϝa (ĸf k r z) (áa c)
 show ã (v4 v (χc õo));let{i,rfl}:=Yh c
 replace h:=ēc h
 show yi Ŷj λ_=>ñ {_,rfl,JB.mk {d,h,f,by omega}};rw[ϣ c];let d:=l.pb k λr z=>ϝa (l.hd v r z) Īi
 show ã (v4 k (χc ųm));let{j,rfl}:=Yh (a:=j) λe=>c ţg
 replace f:=ēc f
 show yi Ŷj λ_=>ñ {_,rfl,JB.mk {d,h,f,by omega}}
include ha hb hl in
theorem x46(l:Yt t a b x o i j):wpS æ A E s (y61 a b o ē ĸd g) (η ţe (MF t a b ùb)) Îf:=by show ã (Γb (λz=>JB t a b (x+z)) (Yu t a b ùb));rintro z _ g e ⟨l⟩;show x45 ha hb hl l ąm;rw[Żp];rw[Òp];show ã (ω (Γb (λz=>UA t a b (x+1+z)) (jp t a b ùb)));rintro z _ g e ⟨l⟩;let d:=Ża ùb z;show yi (λ_=>hU ha hb hl l d) λ_=>hU ha hb hl l d;rw[Żp];rw[Òp];show ã (Ρ (ñ {_,rfl,MF.mk l}))
#print a
def x4a{a b:Ú Ù}{a0 p0 f0 g}{t:Á Ù}{Q:Ú Ù->û->Æ}(k:vR a)(o:vR b)(nb:0<ϐ){y:Ù}(m:a[ù-1]?=À y)(d:xr t a b #[y] ϲf ϐ)(i:∀q∈ŉi,∀p∈Ŏb 1,yU p q)(h:∀r g,vp t r->Q r Ϭb):wpS æ A E s (bC a b) Q Ϭb:=by
 unfold bC;show ã (ω (v4 m (yi (ψa õo) λu=>yi (ψa (d.lst i ŏa)) λj=>?_)));let{n,e1}:=Yh u;obtain⟨C,e2⟩:∃n,ϐ=n+2:={ϐ-2,(ϧe (Ĩl nb λe=>j (ϳc Ģd))).symm};let v:ù=n+2:=by omega
 rw[e1,e2]at d;refine ã (Θb (UE (λx=>MF t a b x) ţe (by rw[e1,e2];show{d,by omega,by omega,by omega}) ?_ ?_ ?_));rintro x _ g B ⟨l⟩;show x46 k o i l;rw[Żp];rw[Ĩp]
#print a
def jo(x:Ú Ù)(l n:Ä):Æ:=∀i j,i<=j->j<n->K x (l+i)<=K x (l+j)
def eZ(x:Ú Ù):Æ:=∀i j,i<ĕ->j<ĕ->K x i=K x j->i=j
def y4x(h:jo x l n)(c:n=0\/K x (l+n-1)<=K x (l+n)):jo x l ŋ:=by
 rw[ćp]
 rw[ßp]
section
variable{Ā:à}{w:ß}{A:è}{E:Value->Í->Æ}{s:Í}
def UG{i j p f g}(c:vR x)(hi:i<ĕ)(d:j<ĕ)(h:Q (Ρa (K x i<K x j)) ŗb):wpS æ A E s Ϙn Q ŗb:=by let a:x[i]?=À x[i]:=getElem?_pos x i hi;let b:x[j]?=À x[j]:=getElem?_pos x j d;rw[ltAt'_eq];show ã (Θb (v4 a (ã (v4 b (Εc (c _ _ a) (c _ _ b))))));unfold K at h;rw[a,b]at h;show h
def hG{x:Ú Ù}{a lo n p f g}{F:Ä->É ťb×Ä->ņ û Sem Ìl}{R:É ťb×Ä->û->Æ}(l:1<=a)(b:a<=n)(e:jo x lo a)(j:∀y m Q,1<=m->m<n->(K x ϙa<K x Àb->Q ĥm ŗb)->(¬ K x ϙa<K x Àb->Q śl ŗb)->wpS æ A E s Øn Q ŗb)(h:∀m,a<=m->m<=n->jo x lo m->(m=n\/K x ϙa<K x Àb)->R (Â,m) ŗb):wpS æ A E s Ϟk R ŗb:=by show Ŷa (I:=λy c st=>st=yK x p f g/\c=(Â,y)/\jo x lo y) ?_ ?_ {rfl,rfl,e};rw[Ϫp];show j _ _ _ Î k ĉk λc=>{rfl,rfl,y4x d ĕo};rw[ęp]
def LH{lo m j:Ä}(h:j<m):lo+ϙa-1-ĭe=lo+Èj:=by rw[śn,śn,Nat.add_left_comm 1,Nat.add_sub_add_left,Nat.add_sub_assoc (by rw[Äd];show h)]
theorem x43{x:Ú Ù}{lo n p f g}{Q:É Ä->û->Æ}(q:vR x)(F:eZ x)(P:lo+n=ĕ)(H:1<=n)(h:∀m y,ϙ x->(∀k,k<lo->y[k]?=x[k]?)->1<=m->m<=n->jo y lo m->Q ϔa Ċn):wpS æ A E s Óo Q ŗb:=by
 unfold œh;refine ã (hG (lo:=lo) (ϔ 1) H ŗj ?_ ?_);intro y m Q a b v u;refine ã Ìh;by_cases c:K x ϙa<K x Àb;rw[Ăp];intro m a b o c;show yi (λe=>ñ (h m x đe Ϣd a b o)) λe=>?_
 replace c:=ϖg ňa
 rw[ϟp]
 show yi ϋo λe=>?_;refine ã Ìh
 let:K x lo<K x Àb:=by let z:=o 0 (m-1) Î Ŗg;rw[show lo+(m-1)=lo+m-1 by omega,śh]at z;let B:=F lo Àb Î Î;dsimp only at e;omega
 simp only[this,Ĉa,ĭ];show ñ (h m x đe Ϣd a Î o);rw[Ŭp]
 show ã Ël;show ã (ε (Ŷa (I:=λy c st=>st=yK x p f g/\c=(Â,y,0)/\∀i j,i<=j->j<y->K x ĭe<=K x Æa) (Q:=λc st=>st=yK x p f g/\∃m,c=(Â,m,0)/\2<=m/\m<=n/\∀i j,i<=j->j<m->K x ĭe<=K x Æa) ?_ ?_ {rfl,rfl,?_}));rintro y _ _ B G ⟨rfl,rfl,d⟩;refine ã (UG q ŉb ŉb ?_);by_cases c:K x Ĩd<K x Ćd;simp only[c,Ĉa,ĭ];show ñ {rfl,rfl,λi j r l=>?_};by_cases e:j<y;show d i j r e;obtain rfl:j=y:=by omega
 by_cases e2:i=j;rw[àp];refine ã Ìh
 let:K x Ćd<K x Ĩd:=by let R:=F Ćd Ĩd Î Î;omega
 simp only[this,Ĉa,ĭ];show ñ {rfl,y,rfl,by omega,by omega,d};rintro _ _ ⟨rfl,rfl,d⟩;rw[Ϧc Î]at d ⊢;show{rfl,n,rfl,by omega,by omega,d};intro i j r l;by_cases e2:i=j;rw[e2];show Öa _;rw[show i=0 by omega,show j=1 by omega];show áa c;rintro _ _ ⟨rfl,m,rfl,B,G,d⟩;let C:∀k,K ϔb k=_:=λk=>K_mirror Î k
 refine ã (νd (hG (x:=çj x lo ϙa Þn) (lo:=lo) ŉb G ?_ ?_ ?_));intro i j r l;dsimp only at l;rw[C,C,Ö Î,Ö Î];let:=d Èj (m-1-i) (ϛg r _) űj;rw[LH (ĩa r l),LH l];show this;intro y t Q a b v u;let L:(ϔb).Perm x:=éh _ _ _ _;show ã (UG ?_ ŵc ŵc ?_);intro i p N;let{J,z}:=Ōd ((þc L).mem_iff.mp (Żc (žc N)));show q J p (by rw[<-Ÿa];show z);by_cases c:K ϔb (lo+t)<K ϔb (lo+t-1);rw[Ăp];intro t a b o _;show ñ (h t _ Ϫm (λk O=>?_) Ġk b o);rw[ĺg Î,Ø Î]
#print a
def Ta{x y:Ú Ù}(h:vR x)(p:ϙ x):vR y:=by rw[Ŝp]
section
variable{Ā:à}{w:ß}{A:è}{E:Value->Í->Æ}{s:Í}
def bG{l r:Ä}(h:l<r):l<=(l+r)/2/\(l+r)/2<r:=by omega
def x42{x:Ú Ù}{lo n ok p f g}{Q:Ò->û->Æ}(hx:vR x)(hn:lo+n<=ĕ)(zU:ok<=n)(d:jo x lo ok)(h:∀y,ϙ x->(∀k,k<lo->y[k]?=x[k]?)->jo y lo n->Q Ã Ċn):wpS æ A E s ϧm Q ŗb:=by
 unfold êh;show ã (ε (Ŷa (I:=λk c st=>c=(Â,())/\∃y,st=yK y p f g/\ϙ x/\(∀k,k<lo->y[k]?=x[k]?)/\(k<=n->jo y lo k)) (Q:=λc st=>c=(Â,())/\∃y,st=yK y p f g/\ϙ x/\(∀k,k<lo->y[k]?=x[k]?)/\jo y lo n) ?_ ?_ {rfl,x,rfl,ŝe _,λ_ _=>rfl,λ_ i j a b=>?_}));rintro k _ _ hk O ⟨rfl,y,rfl,v,G,d⟩
 replace d:=d (Àa O)
 let Z:=Ta hx v;let L:lo+k<êc:=by let:=v.size_eq;omega
 let sj:∀j,j<=k->lo+j<êc:=λj hj=>ĩa Űn L
 show ã (JT (Q:=λc st=>st=yK y p f g/\∃l r,c=(Â,l,r)/\l<=k/\(∀i,i<l->K y Æa<=K y ùa)/\∀i,l<=i->i<k->K y ùa<K y Æa) (λz c=>∃l r,c=(Â,l,r)/\l<=r/\r<=k/\r+z<=k+l/\(∀i,i<l->K y Æa<=K y ùa)/\∀i,r<=i->i<k->K y ùa<K y Æa) {0,k,rfl,ϱ _,ϔ _,ϔ _,λi J=>Þ J ϧg,λi a b=>Þ b Ϭi} ?_ ?_ ?_);rintro z _ hz ⟨l,r,rfl,T,o,g3,B,C⟩;show yi Ùe λc=>?_;cases ŏb T c;show ñ {rfl,l,l,rfl,o,B,C};let{X,S}:=bG Ŝd;dsimp only;generalize (l+r)/2=m at X S ⊢;let P:=Ŧ S o;show ã (UG Z L (sj m (Àa P)) ?_);by_cases c2:K y ùa<K y ϙa;simp only[c2,Ĉa,ĭ];show ñ {rfl,l,_,rfl,X,Àa P,by omega,B,λi q R=>Ĭl c2 (d _ _ q R)};simp only[c2,ϸb,Òa,ŕ];show ñ {rfl,_,r,rfl,S,o,by omega,λi q=>Ϻb (d i m (Ăc q) P) (ϥb c2),C};rintro _ ⟨l,r,rfl,T,o,g3,B,C⟩;cases ŏb T Î;show{rfl,l,l,rfl,o,B,C};rintro _ _ ⟨rfl,l,r,rfl,o,B,C⟩;let e:lo+k-ěc=lo+l:=ϭl Ùo;show ã (Ρ (ñ {rfl,Ĝd y ùa ěc,rfl,(Ēl).trans v,λi J=>?_,λ_=>?_}));let z:=Ŧ J Ûo;rw[<-G i J,getElem?_bubble L _ Üb,e,Ø (Ŕ z),Ø λc=>ýf z c.1];let F:∀i,K Ăm i=_:=K_bubble L Üb;generalize Ĝd y ùa ěc=b at F;rw[e]at F;let N:∀i,i<l->K b Æa=K y Æa:=λi a=>by rw[ūp]
 let W:K b (lo+l)=K y ùa:=by rw[F,Ö rfl]
 let U:∀i,l<=i->i<k->K b (lo+ē)=K y Æa:=λi a c=>by rw[F,Ø Î,Ö Î];rfl
 intro i j q R;rcases ϱe j l with z|rfl|z;rw[N i (ĩa q z),N j z];show d i j q ŵo;rcases ħl q with z|rfl;rw[N i z,W];show B i z;show Öa _;obtain⟨j,rfl⟩:∃t,j=t+1:={j-1,by omega};let H:=Ŭk R;rw[U j ϭf H];rcases ϱe i l with u|rfl|u;rw[N i u];show d i j Î H;rw[W];show áa (C j ϭf H);obtain⟨i,rfl⟩:∃t,i=t+1:={i-1,by omega};let Y:=ŭk q;rw[U i (Ăc u) (ĩa Y H)];show d i j Y H;rintro _ _ ⟨rfl,y,rfl,v,G,d⟩;show{rfl,y,rfl,v,G,?_};by_cases e:n=0;intro i j a b;omega;rw[Ϧc Î]at d;show d ğ;by_cases e:ok=0;rw[show i=j by omega];show Öa _;show d i j a Î;rintro _ _ ⟨rfl,y,rfl,v,G,d⟩;show ñ (h y v G d)
#print a
theorem eD{F:Ú Ù->Ù×Ä->Ú Ù}{s:Ä}(b:∀a p j,F a (p,j)=ëh (s+j) p){R:Á Ù}:∀(l Z P:Á Ù)(n:Ä)(x:Ú Ù),Øc=P++(Z++R)->ϖ=s+n->Z.length=Ϲa->((l.zipIdx n).foldl F x).toList=P++(l++R)
 | [],Z,P,n,x,h,_,hz=>by rw[Ŭe hz]at h;show h|p::l,z::Z,P,n,x,h,hp,hz=>by
  rw[Øh,ùm,b]
  let:=eD b (R:=R) l Z (P++[p]) ŋ (x.setIfInBounds (s+n) p) (by rw[Ĕk,h,ϓe _ _ Î,hp,ēb,Ř];rfl) (by rw[ï,hp];rfl) (Ϛb hz)
  rw[this,Ř];rfl
def Ae{x:Ú Ù}{P X R:Á Ù}{a b:Ä}(h:Øc=P++(X++R))(c:ϖ=a)(d:a+Ϥ=b):(Ϝc a b).toList=X:=by rw[řd,Ŋd,h,ïh c,íh Î]
theorem O7{x:Ú Ù}{P R:Á Ù}{p:Ù}{a:Ä}(h:Øc=P++p::R)(b:ϖ=a):x[a]?=À p:=by rw[<-Ÿa,h,ńb Î,b,ēb];rfl
def Sb{x y:Ú Ù}(h:vR x)(c:∀p∈Ϸa,p∈Øc):vR y:=by intro i q a;let{b,d}:=Ōd (c q (Żc (žc a)));show h b q (by rw[<-Ÿa];show d)
section
variable{Ā:à}{w:ß}{A:è}{E:Value->Í->Æ}{s:Í}
def x4c{a st:û}{Q:PUnit->û->Æ}(h:Q ⟨⟩ a):wpS æ A E s (set a:ņ û Sem PUnit) Q st:=by unfold wpS;rw[StateT.run_set];show ċ {rfl,h}
def x49{x:Ú Ù}{p:Ú Ĭa}{g i d G pw2:Ä}{p1 p2:Á Ĭa}{P o u R:Á Ù}{l y0:Ù}{Q:Ò->û->Æ}(O:vR x)(ep:çe=p1++(d,(ąd).length,G)::(d+(ąd).length,(Ęe).length,pw2)::p2)(hi:p1.length=i)(ex:Øc=P++(ąd++(Ęe++R)))(K:ϖ=d)(J:(ąd).Pairwise yU)(N:(Ęe).Pairwise yU)(h:∀y q g Z,Ϸa=P++(Z++R)->Z.Perm (ąd++Ęe)->Z.Pairwise yU->ħb=p1++(d,(ąd).length+(Ęe).length,G)::p2->Q Ã ĝc):wpS æ A E s (ŧf i) Q şm:=by
 generalize eX:o++[l]=X at ep ex J h;generalize eY:y0::u=Y at ep ex N h
 have e1:p[i]?=À (d,Ϥ,G):=by rw[<-Ÿa,ep,ńb Î,hi,ēb];rfl
 have e2:p[i+1]?=À (d+Ϥ,ùd,pw2):=by rw[<-Ÿa,ep,ńb Î,hi,że];rfl
 let e3:(ğj).toList=p1++(d,Ϥ+ùd,G)::p2:=by rw[Array.toList_eraseIdxIfInBounds,Ĕk,ep,ϓe _ _ Î,hi,ēb,List.eraseIdx_append_of_length_le Î,hi,że];rfl
 let xl_:∀q∈X,yU q l:=by intro q f;rw[<-eX]at f J;rcases ōa f with z|z;show(Ņb J).2.2 q z l Ō;rw[źa z];show Öa _
 let L:∀q∈Y,yU y0 q:=by intro q f;rw[<-eY]at f N;rcases ř f with z|z;rw[z];show Öa _;show(ϛb N).1 q z
 let mX:l∈X:=eX▸ņa _ Ō;let mY:y0∈Y:=eY▸Ō;have lX:Ϥ=ľa+1:=by rw[<-eX,ï];rfl
 have lY:ùd=u.length+1:=by rw[<-eY];rfl
 have szx:ĕ=d+(Ϥ+(ùd+îe)):=by rw[<-ŧ,ex,ï,ï,ï,K]
 have ay:x[d+Ϥ]?=À y0:=O7 (P:=P++X) (R:=u++R) (by rw[ex,Ř,<-eY];rfl) ęh;have ax:x[d+Ϥ-1]?=À l:=O7 (P:=P++o) (R:=Y++R) (by rw[ex,<-eX,Ř,Ř];rfl) (by rw[ϩp]);let B:(∀p∈X,∀q∈Y,yU p q)->Q Ã Æm:=λc=>h x _ g (X++Y) (by rw[ex,Ř]) ϲi (ŷe {J,N,c}) e3
 unfold ŧf;rw[ϐp];exact wpS _ _ _ _ (match(p[i]?,p[i+1]?)with|_=>_) _ _;rw[e1,e2];refine ã (x4c (ã (v4 ay (ã (UF (z:=X) (x:=x) (b:=d) (n:=Ϥ) rfl (O _ _ ay) O Î Î (by rw[ex,ïh K,íh rfl]) J λk hk d1 d2=>?_)))));show yi (Νd (d1 p ?_) (L q f)) λc=>?_;rw[ąc (by simp at c;omega)];show j
 replace c:k<Ϥ:=by simp at c;omega
 let ax2:x[d+k+(Ϥ-k)-1]?=À l:=by rw[ϐd,ύc ŉc];show ax
 refine ã (v4 ax2 (ã (UF (z:=Y) (x:=x) (b:=d+Ϥ) (n:=ùd) rfl (O _ _ ax) O Î Î (by rw[ex,<-Ř,ïh ęh,íh rfl]) N λe U f1 f2=>?_)));show yi (Νd (xl_ p j) (f2 q ?_)) λc2=>?_;rw[éi c];show f
 replace c2:0<e:=by simp at c2;omega
 have C:(Ϡe).toList=ăe k:=Ae (P:=P++Ŭf k) (R:=Y++R) (Ξd Ϧi) (by rw[ï,Ôa,K,Őa ŉc]) (by rw[Ăa,ϐd,ύc ŉc]);have v:(Ťe).toList=ãe e:=Ae (P:=P++X) (R:=îj e++R) (Ξd Ϩf) ęh (by rw[Ôa,Őa U])
 have S:∀r g,vp śd r->wpS æ A E s (do Ŗc λs=>Şb ıc (r.toList.zipIdx.foldl (λa x=>ëh Ϡo x.1) Ķc) æc ŧh Ĥc;return (Łi (<-get)).isNone) Q Æm:=by
  rintro r g ⟨r1,r2⟩;show ã (Ρ (ã (ĺd (ñ (h _ _ _ ëk ?_ ?_ ?_ e3)))));have:=eD (F:=λa x=>ëh Ϡo x.1) (s:=d+k) (λ_ _ _=>rfl) (R:=îj e++R) r.toList śd (P++Ŭf k) 0 x (by rw[ex];simp only[Ř];rw[<-Ř Ϩf,Ňa,<-Ř Ϧi,Ňa]) (by rw[ï,Ôa,K,Őa ŉc];rfl) r1.length_eq.symm
  rw[this];simp only[Ř];let a:(ëk).Perm (Ŭf k++śd++îj e):=ŭg _ (Źg _ r1);rw[<-Ř Ϧi ϧi,Ňa,Ř X,Ňa]at a;show a;let m:∀q∈r.toList,q∈ăe k\/q∈ãe e:=λq f=>ōa (r1.mem_iff.mp f)
  let tX:=Ňa k X;let tY:=Ňa e Y;let H:=J;let I:=N;rw[<-tX]at H;rw[<-tY]at I;show ŷe {ŷe {(Ņb H).1,r2,λp j q f=>?_},(Ņb I).2.1,λp j q f=>?_};rcases m q f with z|z;show(Ņb H).2.2 p j q z;show ϝa (d1 p j) (L q (ϔc z));rcases ōa j with j|j;show ϝa (d1 p j) (L q (Řd f));rcases m p j with z|z;show ϝa (xl_ p (Řd z)) (f2 q f);show(Ņb I).2.2 p z q f
 let A1:vR Ϡe:=Sb O λp j=>by rw[C]at j;rw[ex];show ņa _ (Ċc _ (Řd j))
 let A2:vR Ťe:=Sb O λp j=>by rw[v]at j;rw[ex];show ņa _ (ņa _ (Ċc _ (ϔc j)))
 have z1:(Ϡe).size=Ϥ-k:=by rw[<-ŧ,C,Ăa]
 have z2:(Ťe).size=e:=by rw[<-ŧ,v,Ôa,Őa U]
 let T:(ϧi).Pairwise yU:=ϗk (List.drop_sublist _ _) J;let W:(Ϩf).Pairwise yU:=ϗk Ťk N;have b0:Ťe[0]?=À y0:=O7 (P:=[]) (R:=u.take (e-1)) (by rw[v,<-eY];obtain⟨n,rfl⟩:∃n,e=n+1:={e-1,by omega};rfl) rfl;have al:Ϡe[Ϥ-k-1]?=À l:=O7 (P:=o.drop k) (R:=[]) (by rw[C,<-eX,List.drop_append_of_le_length Î]) (by rw[Ăa];omega);generalize Ϝc (d+k) (d+Ϥ)=xx at *;generalize Ϝc (d+Ϥ) (d+Ϥ+e)=yy at *;refine yi (λ_=>ã (x4b (t:=ăe k++ãe e) A1 A2 Î b0 ?_ ?_ λr g hr=>S r g hr)) λ_=>ã (x4a (t:=ăe k++ãe e) A1 A2 Î (y:=l) ?_ ?_ ?_ λr g hr=>S r g hr);have a0:xi śd xx yy #[] 0 0:={by rw[<-C,<-v];show Ϧb _,C▸T,v▸W};show a0.pb b0 λq f=>áa Ųm;intro q f p j;rw[z1,Fn al,Ϗc Ũd]at j;rw[źa j];show áa (f1 q (v▸f));rw[z1];show al;let a0:xr śd xx yy #[] Ϲm yy.size:=by let t1:xx.toList.take Ϲm=xx.toList:=ąc Ũd;let t2:yy.toList.take yy.size=yy.toList:=ąc (by rw[ŧ];show ϔ _);unfold xr;rw[t1,t2,C,v];let pz:=List.Perm.append (Áh ϧi) (Áh Ϩf);show{pz,Řg T,Řg W}
 show a0.pa (by rw[z1];show al) λq f=>áa (f1 q (v▸ϔc f));intro q f p j;rw[ND b0]at j;rw[źa j];show áa Ųm
#print a
def vG:Ä->Á Ĭa->Á Ù->Æ
 |_,[],L=>L=[]|n,r::p,L=>r.1=n/\∃X M,L=X++M/\Ϥ=r.2.1/\X≠[]/\ϰh yU/\vG (n+r.2.1) p M
theorem dL:∀{p q:Á Ĭa} {n:Ä} {L:Á Ù},vG n (p++q) L->∃M N,L=M++N/\vG n p M/\vG (n+Űf) q N
 | [],q,n,L,h=>{[],L,rfl,rfl,h}|r::p,q,n,L,h=>by let{d,X,M,rfl,c,f,e,g}:=h;let{M,N,rfl,a,b}:=dL g;show{X++M,N,(Ř ..).symm,{d,X,M,rfl,c,f,e,a},by rw[ï,c,<-ϐd];show b}
theorem GT:∀{p q:Á Ĭa} {n:Ä} {M N:Á Ù},vG n p M->vG (n+Űf) q N->vG n (p++q) (M++N)
 | [],q,n,M,N,h,h2=>by rw[show M=[]from h]at h2 ⊢;show h2|r::p,q,n,M,N,h,h2=>by let{b,X,M,rfl,a,d,c,e}:=h;show{b,X,M++N,Ř ..,a,d,c,GT e (by rw[ï,a,<-ϐd]at h2;show h2)}
theorem dM:∀{p:Á Ĭa} {n:Ä} {L:Á Ù},vG n p L->Ĺi<=òa
 | [],n,L,h=>ϱ _|r::p,n,L,h=>by let{c,X,M,rfl,d,a,e,b}:=h;let:=dM b;let:=Řk a;rw[ï,Ĩ];omega
theorem dP{F:Ä×Ä×Ä->Ä×Ä×Ä}(a:∀r,(F r).1=r.1/\(F r).2.1=r.2.1):∀{p:Á Ĭa} {k n:Ä} {L:Á Ù},vG n p L->vG n (p.modify k F) L
 | [],0,n,L,h=>h| [],_+1,n,L,h=>h|r::p,0,n,L,h=>by let{b,X,M,rfl,c,e,d,f}:=h;show{(a r).1.trans b,X,M,rfl,ϳa (a r).2.symm,e,d,(a r).2▸f}
 |r::p,k+1,n,L,h=>by let{b,X,M,rfl,c,e,d,f}:=h;show{b,X,M,rfl,c,e,d,dP a f}
def y4l{x y:Ú Ù}{L R:Á Ù}{lo m:Ä}(ex:Øc=L++R)(o:òa=lo)(d:∀k,k<lo->y[k]?=x[k]?)(c:jo y lo m)(n:lo+m<=êc):∃X M,Ϸa=L++Ĳe/\Ϥ=m/\ϰh yU:=by
 let e:y.toList.take lo=L:=by
  show ūd λk=>?_
  rw[īl]
  split;rename_i h;rw[Ÿa,d k h,<-Ÿa,ex,Òb Î];rw[ăb Î]
 let f:(ĝh).length=m:=by rw[Ôa,Ăa,ŧ];omega
 show{(ĸg).take m,(ĸg).drop m,?_,f,ïk λi j b l a=>?_};rw[Ňa,<-e,Ňa];let g:∀i (b:i<(ĝh).length),K y Æa=wH ĝh[i]:=by intro i b;let e:y[lo+i]?=À y[lo+i]:=getElem?_pos _ _ Î;unfold K;rw[e,ůl,Űl,ąb];rfl
 let:=c i j (Àa a) Î;rw[g i b,g j l]at this;show this
def sO{x y:Ú Ù}(h:(ŗg wH).Nodup)(p:ϙ x):eZ y:=by
 let n:(ōh wH).Nodup:=((þc p).map wH).nodup_iff.mpr h;intro i j a b e
 let g:∀i (a:i<êc),(ōh wH)[i]?=À (K y i):=by intro i a;let e:y[i]?=À y[i]:=getElem?_pos y i a;rw[Üa,Ÿa];unfold K;rw[e];rfl
 show(List.getElem?_inj (by rw[þ,ŧ];show a) n).mp (by rw[g i a,g j b,e])
section
variable{Ā:à}{w:ß}{A:è}{E:Value->Í->Æ}{s:Í}
def i6{x:Ú Ù}{p:Ú Ĭa}{g i:Ä}{L R:Á Ù}{Q:Ò->û->Æ}(z:vR x)(ex:Øc=L++R)(k:vG 0 çe L)(hi:i+1<Òg)(h:∀y q g M,Ϸa=M++R->M.Perm L->vG 0 ħb M->ĳb+1=Òg->Q Ã ĝc):wpS æ A E s (ŧf i) Q şm:=by
 let B:p.toList.length=Òg:=ŧ;obtain⟨⟨J,U,S⟩,⟨K,nb,G⟩,c⟩:∃r1 r2,çe=īh i++r1::r2::Ĭh (i+2):={çe[i],çe[i+1],by rw[<-ņb,<-ņb,Ňa]};let d:(īh i).length=i:=by rw[Ôa];omega
 let o:(Ĭh (i+2)).length=Òg-(i+2):=by rw[Ăa,B]
 generalize īh i=p1 at c d;generalize Ĭh (i+2)=p2 at c o;rw[c]at k;let{P,N,rfl,F,u}:=dL k;let{f,X,N,rfl,n,H,v,j,Y,N,rfl,l,t,C,b}:=u;dsimp only at f n j l b;let{X0,W,rfl}:=(List.eq_nil_or_concat X).resolve_left H;rw[List.concat_eq_append]at *;let{O,T,rfl}:=đk t;subst n l;rw[œa]at f j;subst f;subst j;refine x49 z c d (P:=P) (R:=N++R) (by rw[ex];simp only[Ř]) rfl v C λy q g Z I a r m=>h y q g (P++(Z++N)) (by rw[I];simp only[Ř]) ?_ ?_ ?_;show Źg _ ((ŭg N a).trans ?_);rw[Ř];rw[m];show GT F {(ϴi).symm,Z,N,rfl,a.length_eq.trans (ï ..),?_,r,?_};intro e;rw[e]at a;let:=a.length_eq;rw[ï,Ĩ]at this;rw[ϛp];rw[œa]at b ⊢;rw[ϐd]at b;show b;let:=Äa ċf m;rw[ŧ,ï,Ĩ,d,o]at this;omega
abbrev Kg:=Ϯa (É èa×Ä)
nonrec def M8(lo n:Ä):ņ û Sem Kg:=do
 Ŗc λs=>Şb ıc Ķc ((æc).push (lo,n,0)) ŧh Ĥc
 pure (.yield (Â,lo+n))
nonrec def M9{β:Type}(r:É Ĭa)(f:Ä->Ä->Ä->ņ û Sem β)(g:ņ û Sem β):ņ û Sem β:=(sortPriv% PySem.Builtin.sortRuns.match_1) ϔe r f λ_=>g
def Ki(N lo n:Ä)(f:Ä->Ä->Ä):ņ û Sem Kg:=do
 let d <-get
 M9 (Đe).back? (λg e _=>do
  let r <-öb [:N] ((Â,()):É èa×èa) λ_ _=>do
   let d <-get
   M9 (if(Đe).size>1 then Đe[(Đe).size-2]? else Â) (λ_ _ a=>
    if a<=f g e then pure Þm else do
     let b <-ŧf ((Đe).size-2)
     if(!b)=Ã then pure (.done (À (),()))else pure (.yield (Â,()))) (pure Þm)
  J9 r.1 (λr=>pure (.done (À r,lo))) do
   let _ <-Ŗc λs=>Şb ıc Ķc ((æc).modify ((æc).size-1) λx=>(sortPriv% PySem.Builtin.sortRuns.match_3) (λ_=>Ä×Ä×Ä) x λst c _=>(st,c,f g e)) ŧh Ĥc
   M8 lo n) (M8 lo n)
inductive Kj(X M L:Á Ù):É èa×èa->û->Æ
 |mk {y q g N}:Ϸa=N++Ĳe->N.Perm L->vG 0 ħb N->Kj X M L (Â,()) ĝc
def x4e{x y:Ú Ù}{q:Ú Ĭa}{g k lo N:Ä}{L X M:Á Ù}{B:Ä->Ä->Ä}{Q:Kg->û->Æ}(v:vR x)(F:ϙ x)(o:vG 0 ħb L)(u:òa=lo)(m:Ϸa=L++Ĳe)(l:Ϥ=k)(G:ϰh yU)(hk:1<=k)(h:∀y q g L,Ϸa=L++M->òa=lo+k->vG 0 ħb L->ϙ x->Q (.yield (Â,lo+k)) ĝc):wpS æ A E s (Ki N lo k B) Q ĝc:=by
 let t:∀{f:Ú Ù}{b},f.toList=b++Ĳe->íj L->f.Perm x:=λe1 e2=>Array.Perm.trans (àk (by rw[e1,m];show ŭg _ e2)) F
 let j:∀{f:Ú Ù}{a:Ú Ĭa} {n b},f.toList=b++Ĳe->íj L->vG 0 ŉi b->wpS æ A E s (M8 lo k) Q (yK f a Â n):=by intro f a n b e1 e2 d;refine ã (Ρ (ñ (h _ _ _ (b++X) (by rw[Ř];show e1) (by rw[ï,èn,u,l]) ?_ (t e1 e2))));exact vG 0 (a.push (lo,k,0)).toList _;rw[Åh];show GT d {by rw[œa,èn,u],X,[],(ŏ _).symm,l,λe=>ϋa hk (l▸Äa ċf e),G,rfl}
 rw[ϐp];exact wpS _ _ _ _ (M9 q.back? _ _) _ _;cases q.back? with
 |Â=>show j m ϲi o|À r=>
  show ã (ε (Ŷa (I:=λ_=>Kj X M L) (Q:=Kj X M L) ?_ (λ_ _ h=>h) (.mk m ϲi o)));rintro _ _ _ _ _ ⟨e1,e2,d⟩;rename_i f a n b;rw[ϐp];exact wpS _ _ _ _ (M9 (if ù>1 then a[ù-2]? else Â) _ _) _ _;by_cases c:ù>1;rw[Ö c];cases a[ù-2]? with
  |Â=>show ñ Ľh|À r=>show yi (λ_=>ñ Ľh) λ_=>ã (i6 (p:=a) (i:=ù-2) (Ta v (t e1 e2)) e1 d Î λP J K M2 H z C O=>ñ (.mk H (z.trans e2) C))
  rw[Ø c];show ñ Ľh;rintro _ _ ⟨e1,e2,d⟩;show ã (Ρ (j e1 e2 ?_));exact vG 0 (Array.modify _ _ _).toList _;rw[Array.toList_modify];show dP ?_ d;show λ⟨_,_,_⟩=>{rfl,rfl}
inductive MH(x:Ú Ù)(z:Ä):É èa×Ä->û->Æ
 |mk {lo y q g L R}:Ϸa=L++R->òa=lo->vG 0 ħb L->ϙ x->z<=lo->MH x z (Â,lo) ĝc
def x4d{x:Ú Ù}{g:Ä}{Q:èa->û->Æ}(B:vR x)(hd:(ŗg wH).Nodup)(h:∀y q g,ϙ x->y.toList.Pairwise yU->Q () ĝc):wpS æ A E s Ķf Q (yK x #[] Â g):=by
 unfold Ķf;rw[ϐp];show ã (ε (Ŷa (I:=λz=>MH x z) (Q:=λc st=>c.1=Â/\∃y q g,st=yK y q Â g/\vG 0 ħb Ϸa/\ϙ x) ?_ ?_ (.mk (L:=[]) (R:=Øc) rfl rfl rfl đe ğ)));rintro z _ _ _ hz ⟨i,t,d,a,l⟩;rw[Ąp]
 show yi Ùe λc=>?_;let:R=[]:=Ŭe (by dsimp only at c;omega);subst this;rw[ŏ]at i;show ñ {rfl,y,q,g,rfl,i▸d,a};replace c:lo<ĕ:=by dsimp only at c;omega
 refine ã (x43 (lo:=lo) (n:=ĕ-lo) (Ta B a) (sO hd a) Î Î λm y1 u U G v S=>?_);let A1:=Ta B ϓn;let z1:=(ϓn).size_eq
 let T:∀{k f O},1<=k->lo+k<=ĕ->f.Perm y->(∀j,j<lo->f[j]?=y[j]?)->jo f lo k->wpS æ A E s (Ki ĕ lo k O) (λr st=>qd ļj Ŵk r) (yK f q Â g):=by intro k f O N h4 C o J;let{X,M,eY,W,sX}:=y4l (m:=k) i t o J (by rw[(ϡi a).size_eq];show h4);show x4e B (ϡi a) d t eY W sX N λy q g L e1 e2 e3 e4=>.mk e1 e2 e3 e4 (ņm l N)
 show űc (Q:=λr st=>qd ļj Ŵk r) ?_ λr st h=>by cases r<;>show h
 show yi (λp=>ã (ω (x42 (lo:=lo) (n:=min (x.size-lo) śg) (ok:=m) A1 ?_ ?_ S λf C o J=>yi Äm λ_=>T ?_ ?_ (ϡi u) (λk P=>(o k P).trans (U k P)) J))) λp=>T G Î u U S;omega;show Ûf {v,Àa p};show Ûf {Ĳ G v,Ĳ G (Àa p)};show Ĳ (Žc (Nat.min_le_left ..) _) Ćm;rintro _ _ ⟨i,t,d,a,l⟩;rw[Ąp]
 let:R=[]:=Ŭe (by dsimp only at l;omega);subst this;rw[ŏ]at i;show{rfl,y,q,g,rfl,i▸d,a};rintro⟨_,lo⟩ _ ⟨rfl,y,q,g,rfl,d,a⟩;show ã (ε (Ŷa (I:=λz c st=>c=(Â,())/\∃y q g,st=yK y q Â g/\vG 0 ħb Ϸa/\ϙ x/\(ĳb<=1\/ĳb+z<=ĕ)) (Q:=λc st=>c=(Â,())/\∃y q g,st=yK y q Â g/\vG 0 ħb Ϸa/\ϙ x/\ĳb<=1) ?_ ?_ {rfl,y,q,g,rfl,d,a,.inr ?_}));rintro z _ _ _ hz ⟨rfl,y,q,g,rfl,d,a,F⟩;show ã (ĺd (Ξa (λc=>ñ {rfl,y,q,g,rfl,d,a,c})))
 replace c:¬ ĳb<=1:=c
 show ã (i6 (Ta B a) (ŏ _).symm d ?_ λf o Z M K p c3 c4=>?_);let:∀(b:Æ) [ļo b],(if b then ĳb-2-1 else ĳb-2)+1<ĳb:=λb _=>by rw[Şp]
 show this _;rw[ŏ]at K;refine ñ {rfl,f,o,Z,rfl,K▸c3,(àk (K▸p)).trans a,.inr Î};rw[ϋp];show{rfl,y,q,g,rfl,d,a,by rw[ûf]at F;dsimp only at F;omega};let:=dM d;rw[ŧ,ŧ,íi]at this;show this;rw[ϋp];show ñ (h y q g a ?_)
 match e:ħb,d,(ŧ (xs:=q))with
 | [],d,_=>rw[show Ϸa=[]from d];show ϳe| [r],d,_=>let{_,X,M,e,_,_,Y,h6}:=d;rw[e,show M=[]from h6,ŏ];show Y
 |_::_::_,_,v=>simp only[Ĩ]at v;omega
def y5h(l:ö a=À ŀl)(k:Ŵb vs ns)(L:ôd)(hz:ø<=á)(h:∀(out:Ú Value)(b:Á Ê),Ŵb Ϻn b->íj ns->ϯh (·<=·)->P ϟh { s with ä:=ϫh Ü a vs out }):Õ æ A Ík P E s:=by
 by_cases h64:ø<64;show list_sort_tree l k h64 h
 obtain⟨f,o,r,rfl⟩:∃f o r,vs=f::o::r:=by
  match vs,h64 with
  | [],h=>show Þ Û h| [_],h=>show Þ (show 1<64 by decide) h|f::o::r,_=>show{f,o,r,rfl}
 generalize e:f::o::r=vs at *;let m:¬ ëm<2:=by rw[đ];omega
 let v:a<Ý:=Ğ l;obtain⟨c,B⟩:∃c,(Ųk).get? a=À Ϭe:={_,get?_update_seq l Çi}
 let u:(Ţd).get? a=À Ϭe:=by rw[ϴe _ _ _ (υc (Ōb v)),ϴe _ _ _ (by rw[ϖe];show Ŕ v)];show B
 rw[óm];refine Ð (ån l rfl (Ð (ňd l rfl (hsz:=by rw[đ];show hz) ?_)));show Ð (śe B rfl (Ð (ώg ?_ (by show hz))));rw[ěp];rw[Ø m,Ø m,<-e,keyKind_ints (e▸k),e];show Ð (χ (ϋ (x4d (x:=pairsOf vs) (g:=7) (Q:=λ_ st=>(Ĳc).Perm ĕc/\Łi st=Â/\SortedTo Ĳc (ĕc).size) ?_ ?_ ?_) ?_ λ_ _ e=>e));intro i p d;show k.intKeys p (Żc (žc d));have:(ĕc).toList.map wH=ns:=by rw[Ņd,show wH=Ĺe∘Prod.fst from rfl,<-ãb,ųd ğ,k.nums]
 rw[this];show L;intro y q g d t;show{d,rfl,λi j N O=>?_};let z:=d.size_eq;let G:y[i]?=À y[i]:=getElem?_pos y i Î;let C:y[j]?=À y[j]:=getElem?_pos y j Î;unfold K;rw[G,C];by_cases c:i=j;subst c;show Öa _;let:=úk t i j Ũd Ũd Î;rw[ąb,ąb]at this;show this;rintro⟨⟨⟩,st⟩ _ ⟨rfl,d,H,t⟩;dsimp only;show Ð (śe u rfl (Ð (ňd u rfl ?_ (hsz2:=by refine Ĳ (àb ((Array.size_map ..).trans (d.size_eq.trans (ŏh _)))) (Ϟc hz)))));rw[H];rw[ώp];let{b,J,F,I}:=sorted_out k d t;show ċ (h _ b J F I)
def y5j(t:Ĺa=Â)(lo:ßa=Å)(o:Īh ŗa a kvs ep)(hk:ďd (·.1)=Þb Ŧa)(hz:Ŷ<=á)(h:∀h' tk p out c ns',Ý<=p->ė p=À (seqObj Ĝ out c)->Ŵb Ϻn ns'->ns'.Perm ns->ns'.Pairwise (·<=·)->(∀b ob,ö b=À ob->ė b=À ob)->Q ύ { s with ä:=h',Ě:=tk }) :Õ æ A (Ħa ύd Ãa) Q E s:=by
 let l:Ķ=Ŷ:=by
  let:=Äa ċf hk
  rwa [þ,þ]at this
 let y:ôd:=by let:=o.nodup;rw[hk]at this;show(List.pairwise_map.mp this).imp λh z=>h (Äa _ z)
 rw[Įp];refine Ð (m:=Æo èb 1 1 _) (χ (rY (by show t) lo o (l▸hz) λg tk d i r j n=>Ð (ųe ?_ Úl)));let q:=z1u d kvs ns i hk r;let k:(g.push Ňk).get? Ŏn=À Ňk:=ť _ rfl;refine Ð (ŉa (Ňb Ĳm {_,k,rfl} ôm (y5h k q y Úl λout ns' u x v=>{_,rfl,?_}) ŕl));let{c,B}:=sortedHeap_at (vs:=d) (out:=out) k;show ċ {_,rfl,h _ tk Ŏn out c ns' (Àa j) B u x v λb ob e=>?_};let f:=Ğ òo;rw[sortedHeap_old (wV (Ŕ f)) (by rw[Ϸn];show Ōb f)];show Ġ _ òo
#print a
section
variable{X:Cx}
def y27:Á V->Hp->VK->Æ:=λb H Q=>∃(a:Ë) (kvs:Á Ϙ) (ns:Á Ê),b=Ãa/\Rd H a Ł/\ďd (·.1)=Þb Ŧa/\Ŷ<=á/\∀l,H l=Â->Q Þc (ξa ((òc ns).map Ķd))
def rJ(b:ż=Ã):wM X ύd y27:=by
 intro T s σ H S R Q I r h;let{a,N,d,rfl,m,k,j,q}:=h;let{u,rfl,n}:=vg r;cases(show u=ÿ a from n);let{_,B,v,g,o,O,l,P,z,t,E,y,L}:=kG Ď m;let F:Īh Ŗb a v l:={o,O,P,z,t,E,y,L};show y5j (Ĝa b) B F ((EL g).trans k) j λh' K p e c f i x C J G A=>?_
 obtain rfl:f=òc d:=eQ (J.trans (Áe d).symm) G (Œh d);show{.ref p,_,Çb (t':=K) (h':=h') A i (show yj ì X.w _ _ _ (Δ ((òc d).map Ķd))from{?_,e.toList,c,z1s C,?_}),rfl,q _ (ďb i)};rw[þ,(Áe d).length_eq];show j;rw[Array.toArray_toList];show x
#print a
#print L2
namespace L3
open č Ĕ ď L2
def C6:Á D->É D
 | [.dic ks _]=>(Vj ks).bind λa=>À (Δ ((òc a).map Ϝa))|_=>Â
def y4v(f:ż=Ã)(s:Gl X èb)(z:â èb=Â)(x:SA X [e] fs)(n:Ì ϥ q12) :SF X ÿl (eL C6 fs):=by
 let{t,A,k}:=x.h;refine{{_,(Yo (p:=p) (pos:=pos) (rJ f) s z A4 {A} Û Û ϳg).h,λ{O K G H τ σ d Q} E b q=>?_}};let{F,w,b}:=zC b;show k E w λN J P g C=>?_
 rcases F with _|⟨x_,r_⟩;cases b
 cases x_<;>first|(cases b;done)|skip
 cases r_<;>first|(cases b;done)|skip
 rename_i u L;let{i,j,b}:=zC b;cases b;let{v,rfl,a,r,rfl,y,I,o,l}:=qZ C
 let m:ŭb<=á:=by let:=όh o;rw[EJ j,þ]at I;omega
 show{a,u.zip r,i,rfl,àc g.gh y,?_,m,λB c=>?_};rw[<-EJ j];show ųd Î;show q B _ _ (Łc (Ϛa g.gh c)) (ŀi c) (èi c) {_,yE,Îe,?_};rw[þ,(Áe i).length_eq];show m
def Gn(K:Ï)(x:Ç):Æ:=Ē K õ x=À Â
def Gs(K:Ï)(x:Ç)(v:Value):Æ:=Ē K õ x=À Ϗ
def Tq(K:Ï)(d:É Ë)(a:Ë)(vs:Á Value):Æ:=∃n sl,Ÿ a=À {.type Œ,d,.seq Ìa n,sl}
def Tp(K:Ï)(a:Ë)(vs:Á Value):Æ:=∃d,Tq K d a vs
def Dc(K:Ï)(w:ß)(a:Ë)(l:Á ϵe):Æ:=(∃n,Ÿ a=À { cls:=.type ϗ,Č:=.dict (Łj).toArray n })/\ßa=Å
nonrec def vD:Á Value->É ŗm
 | []=>À ([],[])|.int i _::r=>(æg).bind λp=>À (.int i::p.1,.int i::p.2)|.str s _::r=>match òb Ħb 1000 with
  |Ã=>(æg).bind λp=>À (.str s::p.1,.str s::p.2)|Å=>Â
 |_=>Â
def vT(vs:Á Value):É ŗm:=match òb ø 1000 with
 |Ã=>vD vs|Å=>Â
nonrec def vU:Á Value->É (Á V)
 | []=>À []|.ref a::r=>(vU r).bind λp=>À (.ref a::p)|_=>Â
section
variable{K:Ï}{w:ß}{h:Heap}{mg:Ç->É Value}{a:Ë}{x:Ç}{v:Value}{d:É Ë}{n:Ä}{i:Ê}{t:Tok}{s:Ç}{sl:Ú ĉa}{xs:Á Ç}{vs:Á Value}{us:Á V}{ds:Á D}{l:Á ϵe}
def gn_mk(h:Ē K õ x=À Â):Gn K x:=h
def gs_mk(h:Ē K õ x=À Ϗ):Gs K x v:=h
def tq_mk(h:Ÿ a=À {.type Œ,d,.seq Ìa n,sl}):Tq K d a vs:={_,_,h}
def tp_mk(h:Ÿ a=À {.type Œ,d,.seq Ìa n,sl}):Tp K a vs:={_,_,_,h}
def dc_mk(h:Ÿ a=À { cls:=.type ϗ,Č:=.dict (Łj).toArray n })(q:ßa=Å):Dc K w a l:={{n,h},q}
def tq(X:İ h)(G:üa õ mg)(g:Gn K x):mg x=Â:=W.mg_none_of X G g
def kL(X:İ h)(G:üa õ mg)(g:Gs K x ý):wN mg x ý:={_,Ğa X G g,rfl}
def VW(X:İ h)(G:üa õ mg)(g:Gs K x ĩf):wN mg x Ěa:={_,Ğa X G g,{_,rfl}}
theorem WV:∀{vs:Á Value}{us:Á V}{ds:Á D},vD vs=À (us,ds)->zk us vs/\∀H,å K H ds us
 | [],_,_,e=>by cases e;show{.nil,λ_=>rfl}|.int i t::r,_,_,e=>by let{p,e1,e}:=zC (show(æg).bind _=_ from e);cases e;let{b,c}:=WV e1;show{.cons {_,rfl} b,λH=>{_,_,rfl,rfl,c H}}
 |.str s t::r,_,_,e=>by
  cases z:òb Ħb 1000 with
  |Å=>rw[show vD Ùn=match òb Ħb 1000 with|Ã=>_|Å=>Â from rfl,z]at e;cases e
  |Ã=>rw[show vD Ùn=match òb Ħb 1000 with|Ã=>_|Å=>Â from rfl,z]at e;let{p,e1,e}:=zC (show(æg).bind _=_ from e);cases e;let{b,c}:=WV e1;show{.cons {_,rfl} b,λH=>{_,_,rfl,{rfl,ĥa (ϒc z)},c H}}
theorem fZ:∀{vs:Á Value}{us:Á V},vU vs=À us->zk us vs
 | [],_,e=>by cases e;show .nil|.ref a::r,_,e=>by let{p,e1,e}:=zC (show(vU r).bind _=_ from e);cases e;show .cons rfl (fZ e1)
def MU(g:Tq K d a vs)(e:vT vs=À (us,ds))(H:Hp):zT K H Ýe ý:=by
 let{n,sl,g}:=g;cases z:òb ø 1000 with
 |Å=>rw[show vT vs=match òb ø 1000 with|Ã=>_|Å=>Â from rfl,z]at e;cases e
 |Ã=>rw[show vT vs=match òb ø 1000 with|Ã=>_|Å=>Â from rfl,z]at e;let{b,c}:=WV (K:=K) e;let q:=ĥa (ϒc z);show{a,us,rfl,rZ g q b H,c H,by rw[<-(c H).length,ϫ];show q}
def wp(g:Tp K a vs)(e:vT vs=À (us,ds))(H:Hp):zT K H Ýe ý:=let ⟨_,g⟩:=g;MU g e H
def NE(g:Tq K Â a vs):Ds K a:=let ⟨_,_,g⟩:=g;{_,g,rfl,rfl}
theorem T_:∀l:Á ϵe,j_ w (æa λp=>({ńm w.params p.1,.str p.1 p.2.1,p.2.2}:ġb)) (æa (·.1)) (æa (·.2.2))
 | []=>.nil|_::l=>.cons îg
def AQ(g:Dc K w a l)(e:vU (æa (·.2.2))=À us)(c:ĺc)(ex:æa (·.1)=xs)(b:∀H,å K H ds us):uo K w a ġc ds:=by rw[ëp];show As g îg c q (fZ e) b
def OH(g:Dc K w a l)(e:vD (æa (·.2.2))=À (us,ds))(b:ĺc)(ex:æa (·.1)=xs):uo K w a ġc ds:=by rw[ëp];show As g îg b q Ón.1 (WV e).2
def Ff(g:Dc K w a l)(e:vD (æa (·.2.2))=À (us,ds))(b:ĺc)(ex:æa (·.1)=xs):pR K w a ġc us:=by rw[ëp];show z0g g îg b q Ón.1
def Fg(_:Dc K w a l)(e:vD (æa (·.2.2))=À (us,ds)):∀H,å K H ds us:=(WV e).2
#print a
abbrev HD(x:Ç)(ps:Á Ç)(k:Ä)(F:Á D->É ð)(P:à)(w:ß)(K:Ï)(mg:Ç->É Value)(È:Heap):Æ:=xE P w K mg È x ps k øe
section
variable{X:Cx}{e:Ñ}
def Et(a:PE X e s)(b:PE X e t):PE X e (λσ H Q=>s σ H Q\/t σ H Q):=λc z σ H Q I h=>by rcases h with h|h;show a c z σ H Q I h;show b c z σ H Q I h
nonrec def xB(f g:FE):FE:=λτ=>match f τ with
 |À d=>À d|Â=>g τ
def vQ(a:SE X e f)(b:SE X e g):SE X e (xB f g):=by
 rw[åp];cases z:f τ with
 |À x=>rw[z]at h;cases h;show .inl Ġi|Â=>rw[z]at h;show .inr ϛo
def y4s(a:SF X e f)(b:SF X e g):SF X e (xB f g):=by
 rw[åp];cases z:f τ with
 |À x=>rw[z]at h;cases h;show .inl Ġi|Â=>rw[z]at h;show .inr ϛo
nonrec def Xl(f g:xj):xj:=λβ=>match f β with
 |À d=>À d|Â=>g β
def LD(a:MC X e f)(b:MC X e g):MC X e (Xl f g):=by
 let{s,j,i}:=a.h;let{t,d,c}:=b.h;show{{_,Et j d,λ{P k l G H β β' σ m Q} E h q=>?_}};unfold Xl at h;cases z:f β with
 |À x=>rw[z]at h;cases h;show .inl Ġi|Â=>rw[z]at h;show .inr (c E h q)
#print a
def Xa(K:Ï)(m q:Ç)(st:Ô)(ps:Á Ç)(f:Ë):Æ:=Žb K Đ=Ã/\ϕ K Đ=Ã/\∃fd,xV K m q st f fd/\xN K fd ps []
def ZL(K:Ï)(m:Ç)(f:Ë)(c:Ç):Æ:=∃C,Ē K õ c=À š/\vK K C/\ů K ú m=À ĺa
def pT(K:Ï)(c d m q:Ç)(st:Ô)(ps:Á Ç):Æ:=∃f,ZL K m f c/\ZL K m f d/\Xa K m q st ps f
def Ix(K:Ï)(c q:Ç)(st:Ô)(ps:Á Ç):Æ:=∃C f,Ē K õ c=À š/\ãd K C=Ã/\ů K ú îa=À ĺa/\ϕ K ú=Ã/\Xa K îa q st ps f
def IM(K:Ï)(c m q:Ç)(st:Ô)(ps:Á Ç):Æ:=∃C f,Ē K õ c=À š/\Îd K ú ϣb=À Ĭg/\òi K C áf=Ã/\ói K ú áf m=À Ïi/\Xa K m q st ps f
def pQ(K:Ï)(x:Ç)(st:Ô)(f:Ë):Æ:=Ē K õ x=À ĺa/\zQ K x st
section
variable{K:Ï}{w:ß}{mg:Ç->É Value}{h:Heap}{c d m q x:Ç}{st:Ô}{ps xs ns:Á Ç}{f a:Ë}{C D:Ë}{sp:Sp}{k:Ä}{l:Á ϵe}{fs:Á Ë}
def cls_mk(b:Âe K C ľf=Ã)(d:Ċf K C=Ã)(a:Žh K C=Ã)(c:ů K ú ĥh=À Ĳg):vK K C:={b,d,a,c}
def mdp_mk{n:Value}{o g:É Ë}{j:Ú ĉa}{c kV h d a ct:Value}(i:Žb K Đ=Ã)(l:Ÿ f=À {n,o,.func ϝj,j})(e:ϓa K a q=Ã)(k:ϕ K Đ=Ã)(b:xN K ϝj ps []):Xa K m q st ps f:={i,k,_,C7 l e k,b}
def mtc_mk(n:Ē K õ c=À š)(a:vK K C)(g:ů K ú m=À ĺa):ZL K m f c:={C,n,a,g}
def mtp_mk(a:ZL K m f c)(b:ZL K m f d)(e:Xa K m q st ps f):pT K c d m q st ps:={f,a,b,e}
def mkp_mk(n:Ē K õ c=À š)(a:ãd K C=Ã)(g:ů K ú îa=À ĺa)(b:ϕ K ú=Ã)(e:Xa K îa q st ps f):Ix K c q st ps:={C,f,n,a,g,b,e}
def cmp_mk(n:Ē K õ c=À š)(a:Îd K ú ϣb=À Ĭg)(b:òi K C áf=Ã)(g:ói K ú áf m=À Ïi)(e:Xa K m q st ps f):IM K c m q st ps:={C,f,n,a,b,g,e}
def fnq_mk{j h:É Ë}{d:Ú ĉa}{e kV i g b ct:Value}(a:Ē K õ x=À ĺa)(l:Ÿ f=OW x st e j d kV i g h b ct)(c:ϓa K b x=Ã)(k:ϕ K Đ=Ã):pQ K x st f:={a,fnp_mk a l c k}
def Sm(b:∀s us,İ Ü->ũ=Ĉ->Ġa s fd {us,[]} Ŝb):xN K fd ps []:=λs us c a=>by rw[ŏ]at a ⊢;show b s us c a
def pT.hh(a:pT K c d m q st ps)(P:à)(w:ß)(mg:Ç->É Value)(È:Heap)(ok:∀{f fd},xV K m q st f fd->yT P w K mg È yo k f fd ps sp):wn P w K mg È c m ps k sp/\wn P w K mg È d m ps k sp:=by rw[äp]
def Ix.hh(a:Ix K c q st ps)(X:İ h)(G:üa õ mg)(P:à)(w:ß)(È:Heap)(ok:∀{f fd},xV K îa q st f fd->yT P w K mg È yo k f fd ps sp):Io P w K mg È c ps k sp:=by let{C,f,n,d,g,e,i,j,fd,F,b}:=a;show{C,f,fd,n,Ğa X G n,{d,g,i,e},b,ok F}
def pQ.n(a:pQ K x st f)(X:İ h)(G:üa õ mg):mg x=À Đ:=Ğa X G a.1
def sE(g:Dc K w a l)(e:æa (·.2.2)=ňc ÿ)(b:ĺc)(ex:æa (·.1)=xs)(m:Xc mg ns fs):YJ K w mg a ġc ns:=by rw[ëp];show z0q g (e▸T_ l) b q m
#print a
nonrec def U7(b:Ò)(vs:Á V):HO:=match b with
 |Ã=>.lst vs|Å=>.tup vs
def y5w{K:Ï}{G:Hp}{b:Ò}{p:Ë}{vs:Á V}:SqB K (upd G p (U7 b vs)) b p vs:=match b with
 |Ã=>yE|Å=>Ļb yE
section
variable{K:Ï}{n:Ä}{P:Á V}{G0 H0 G H:Hp}{β:zb}{σ:St}
def xy.sq(f:Ò)(h:xy K n P G0 H0 G H β σ ms vs)(C:H p=Â)(hl:ό<=á) :zc K ŋ P G0 H0 Ąl õh (β++[À (.tp f ms)]) ċm:=by
 let{L,H1,E,Q,a,b}:=h;let{N,F}:=ϡ;let J:G p=Â:=ıh C;let B:∀q,q≠p->õh q=H q:=λq z=>zr z
 let O:∀q,q≠p->Ąl q=G q:=λq z=>zr z
 let A:∀q,L q->Bx H q:=ĥc (λm _ v Y oo=>oo.cells m v Y) Q
 let l:∀q,Bx H q->q≠p:=λq z w=>by subst w;show z.some C
 let I:∀i q,N i q->¬ L q:=λi q z w=>by let e:=Ęb.2.1;rw[Ĝe.2.2]at e;show Ęb.2.2.some e
 let Lp:¬ L p:=λz=>l p (A p z) rfl
 let S:H0 p=Â:=by
  cases e:H0 p with
  |Â=>rfl|À o=>have:=ôa p o ((b p Lp).trans e);rw[C]at this;cases this
 let r:∀q,Bx H q->Bx õh q:=λq z=>by let{u,R,T}:=z;show{u,(B q (l q {u,R,T})).trans R,T}
 show{{Ϲc şi,λq o z=>?_,Qx ŵ,λq z=>?_},by rw[źp],by rw[Ϸp],by rw[Çq],λi w h=>?_,λj=>if j<n then N j else if j=n then L else λ_=>í,λi t h=>?_,λi j q U k d=>?_,λi q z=>?_};let c:¬ L q:=λw=>by rw[Ĝe.2.1]at z;cases z
 rw[B q λw=>by subst w;rw[S]at z;cases z];show ôa _ _ ((b q c).trans z);rcases Ma z with e|e;show .inr (e▸S);rcases Ϗa q e with w|w;rw[ĥp];rw[Ĥp];show .inr Õj.2.1;rw[b q c]at w;show .inr w;let W:i<σ.length:=by rw[ðp]
 rw[wl W];show Ûa i w h;rcases WO h with⟨c,e⟩|⟨c,e⟩;rw[ħ]at c;let{w,Z,ow}:=ϛ i t e;refine{w,by rw[wl Čc];show Z,?_};rw[Ůp];show ow.loc şi t w _ λq z=>B q (l q Ęb.2.2);rw[Îp];show{p,vs,rfl,y5w,Êc (λt _ X L3 s o=>Şc şi t X L3 λq z=>B q (l q (A q Ĭb))) Q,hl};split at k;rw[îp];show ŭ i j q U k d;rw[îp];show I i q k d;show d;split at k;rw[îp];show I j q d k;rw[îp];show U Î;show d;show k;rw[ēp];let{x,y,w}:=Ϸ i q z;show{(O q Őc).trans x,by rw[b q (I i q z)]at y;show y,r q w};rw[ēp];show{(O q (l q (A q z))).trans Ęd.1,Ęd.2.1,r q (A q z)};show Ę
#print a
structure ML(X:Cx)(es:Á Ñ)(fs:zb->É çb):Æ where
 h:∃t,PA X es t/\∀{P:Á V}{G0 H0 G H:Hp}{β β':zb}{σ:St}{ms:Á M}{Q:Á V->Hp->Æ},zc X.K ê P G0 H0 G H β σ->fs β=À (ms,β')->(∀vs G' H',zg G G'->xy X.K ê P G0 H0 G' H' β' σ ms vs->ø=ό->Q vs H')->t σ H Q
nonrec def A9(b:Ò)(fs:zb->É çb):xj:=λβ=>(Îj).bind λr=>match òb r.1.length 1000 with
 |Ã=>À (.tp b r.1,r.2)|Å=>Â
section
variable{X:Cx}{e v:Ñ}{es:Á Ñ}{x y:Ç}{pos:Pos}{f:xj}{fs:zb->É çb}
def bL:ML X [] pj:={{_,Zg,λ{P b c G H β β' σ d Q} E a q=>by cases a;show q [] _ _ įb äo rfl}}
def Yf(hv:MC X e f)(j:ML X es fs)(h:Ì ϥ q12):ML X ă ϑo:=by
 let{C,y,s}:=ļb;let{J,k,r}:=j.h;show{{_,kX y k h,λ{P I F G H β β' σ A Q} E c q=>?_}};obtain⟨⟨m,β1⟩,x,c⟩:=zC c;obtain⟨⟨w,β2⟩,v,c⟩:=zC c;cases c;show s E x λu B O t p=>?_
 let{L,K,d,o,a,b}:=p.hold Ŵ;show r d v λn z N i h l=>?_
 show q (u::n) _ _ (Ϗi i) (ώi o a b d.ext.g i h) œl
def z3m(h:ML X es fs):MC X Ĝh (A9 Ã fs):=by
 let{t,g,j}:=h.h;show{{_,Ev g,λ{P k s G H β β' σ m Q} E a q=>?_}};obtain⟨⟨o,β1⟩,e,a⟩:=zC a
 rw[ĸp];cases a;refine j E e λu n r i b l=>{by rw[l];show ĥa (ϒc c),λp d=>?_}
 show q _ _ _ (êe (wP ?_ _)) (b.sq Ã d (ĥa (ϒc c)));let{_,_,f,_}:=b;show f.ext.gh.free d;cases a
#print a
section
variable{K:Ï}{fd:ĝ}{p0 p1 p2 p3:Ç}
def bd2(b:∀s x y,İ Ü->Ġa s fd {ϖa,[]} ((če).zip ϖa)):xN K fd če []:=Sm λs a c d=>us2 (P:=λa=>Ġa s fd {a,[]} ((če).zip a)) (λx y=>b s x y c) a d
def bd4(b:∀s x y z u,İ Ü->Ġa s fd {ņo,[]} ((ϴb).zip ņo)):xN K fd ϴb []:=Sm λs a c d=>us4 (P:=λa=>Ġa s fd {a,[]} ((ϴb).zip a)) (λx y z u=>b s x y z u c) a d
#print a
def TB(P:à)(w:ß)(K:Ï)(a:Ç->É Value)(È:Heap)(c m:Ç)(ps:Á Ç)(k:Ä)(sp:Sp)(n:Ê):Æ:=
 ∃(C f:Ë) (fd:ĝ) (t:Tok),Ē K õ c=À š/\vK K C/\Xb K C m f/\xN K fd ps Ğf/\yT P w K a È yo k f fd ps sp
nonrec def Dt(n:Ê):vX:=λ_=>À [.v Ŷi]
theorem bA{X:Cx}{c m:Ç}{ps:Á Ç}{k j i:Ä}{π:Á xA}{F:FM}{n:Ê}{o:Ñ}{a pos:Pos}{pl:Sem Ò}(h:TB ì X.w X.K â Ĥ c m ps k Šb n)(d:yG j X.A)(r:SP X o i π)(hk:Ì Ùa q10)(l:Ċ ϫj Ó=(do
   let ov <-Ċ o Ó
   standAt a.atName
   let (f,first) <-holding ýb Ôb
   ϒa pos f first ŋd ŵa):=by rfl):MC X ϫj (pY c m i π F (Dt n)):=by
 let{C,f,J,t,p,z,B,b,s}:=h;let{L,u,x}:=r.h;show{{_,LW (dvs:=[.int n]) (E:=λ_ _ _=>í) u z B s ϟn b (.cons {t,rfl} .nil) kY l,λE v q=>AA (E0:=λ_ _ _=>í) (t:=λσ H Q=>Q [.int n] H) p x (λ{P I N G H β σ O Q} g e y=>by cases e;show y _ _ _ (āa g.ext.gh) {_,_,rfl,rfl,rfl}) E v q}}
def Iy(K:Ï)(c d m q:Ç)(st:Ô)(ps:Á Ç)(n:Ê):Æ:=∃f,ZL K m f c/\ZL K m f d/\Žb K Đ=Ã/\ϕ K Đ=Ã/\∃fd t,xV K m q st f fd/\xN K fd ps []/\xN K fd ps Ğf
section
variable{K:Ï}{c d m q:Ç}{st:Ô}{ps:Á Ç}{f:Ë}{fd:ĝ}{sp:Sp}{k:Ä}{n:Ê}
def bd1{e d:Ç}{t:Tok}(b:∀s x,İ Ü->Ġa s fd {[x],[]} ((Łe).zip [x,.int n t])):xN K fd Łe Ğf:=λs a g f=>by
 let c:Ϫ=1:=by rw[ï]at f;show Àl (show Ϫ+1=1+1 from f)
 show us1 (P:=λa=>Ġa s fd {a,[]} ((Łe).zip (a++[.int n t]))) (λx=>b s x g) a c
def mtd_mk{u:Value}{v o:É Ë}{s:Ú ĉa}{h kV p j g ct:Value}(a:ZL K m f c)(b:ZL K m f d)(i:Žb K Đ=Ã)(l:Ÿ f=À {u,v,.func Ĥg,s})(e:ϓa K g q=Ã)(k:ϕ K Đ=Ã)(b0:xN K Ĥg ps [])(r:∃t,xN K Ĥg ps Ğf):Iy K c d m q st ps n:={f,a,b,i,k,_,r.choose,C7 l e k,b0,r.choose_spec}
def Iy.hh(a:Iy K c d m q st ps n)(P:à)(w:ß)(e:Ç->É Value)(È:Heap)(ok:∀{f fd},xV K m q st f fd->yT P w K e È yo k f fd ps sp):wn P w K e È c m ps k sp/\wn P w K e È d m ps k sp/\TB P w K e È c m ps k sp n/\TB P w K e È d m ps k sp n:=by let{f,{C,r,h,o},{D,s,j,l},i,g,fd,t,F,b,p}:=a;show{{C,f,fd,r,h,{o,i,g},b,ok F},{D,f,fd,s,j,{l,i,g},b,ok F},{C,f,fd,t,r,h,{o,i,g},p,ok F},{D,f,fd,t,s,j,{l,i,g},p,ok F}}
#print a
section
variable{K:Ï}{n:Ä}{P:Á V}{G0 H0 G H G' H':Hp}{β:zb}{σ:St}{ms ms':Á M}{vs:Á V}
def xy.call{F:FM}{s:M}{Q:VK}{E0:XK}(h:xy K n P G0 H0 G H β σ ms vs)(R:F ms=À (ms',s))(q:∀v G' H',zg G G'->xy K n P G0 H0 G' H' β σ (s::ms') Àg->Q v H'):yY K F vs H Q E0:=by
 classical
 let{L,S,E,o,a,b}:=h;let{y,l}:=ϡ;show{G,ms,L,ms',s,ŵ,o,λq z=>Ęd.1,R,λv G' H' d x O r=>q v G' H' x.g ?_}
 let C:∀q,cut H L q=Â->H0 q=Â:=λq z=>by rw[Ĥp];show Õj.2.1;rw[<-b q c];show Ϟd ((tm c).symm.trans z)
 let p:∀i q,y i q->¬ L q/\cut H L q=H q/\∃u,H q=À u/\H' q=À u/\FQ u=Ã:=λi q z=>by
  let{_,w,u,f,t}:=l.ok i q z;let c:¬ L q:=λc=>by rw[Õj.2.2,f]at w;cases w
  show{c,tm c,u,f,x.h _ _ ((tm c).trans f),t}
 let e1:∀q,d q->Āk=H' q:=λq z=>Ö z
 let e2:∀q,¬ d q->Āk=H0 q:=λq z=>Ø z
 show{d,λq=>if d q then H' q else H0 q,{{Ϲc x.g,λq o z=>?_,ϸ,λq z=>?_},į,ħ,Ŵ,Ûa,y,λi m N=>?_,l.dj,λi q z=>?_},O,λq z=>{(r q z).1,C q (r q z).2,e1 q z},e2};by_cases c:d q;rw[ϊp];let k:¬ L q:=λw=>by rw[Ĝe.2.1]at z;cases z
 show x.h _ _ ((tm k).trans (ιd (b q k)));let c:¬ d q:=λw=>z (r q w).1
 rw[e2 q c];rcases Ϟa q z with w|w;rcases Ϗa q w with w|w;rw[ĥp];by_cases k:L q;show .inr (a q k).2.1;show .inr ((b q k).symm.trans w);show .inr Ûj;let{A,J,I}:=l.at_ i m N;show{A,J,Úa x.g m A _ λq z=>?_};let{_,_,u,f,j,_}:=p i q z;rw[f,j];let{c,B,u,f,j,t}:=p i q z;show{?_,?_,u,j,t};cases e:G' q with
 |Â=>rfl|À o=>rcases Ϟa q Źc with w|w;show Þ ĝn.1 w;rw[B,f]at w;cases w
 rw[e2 q λw=>by let:=(r q w).2;rw[B,f]at this;rw[ϛp]]
 show(b q c).symm.trans ĝn.2.1
def xy.give{r m:M}{u v:V}{i:Ä}(h:xy K n P G0 H0 G H β σ ío ëo)(S:σ[i]?=À Ϗ)(hb:β[i]?=À Â):xy K n P G0 H0 G H ăi σ Åj Ág:=by
 classical
 let{L,A,E,{u',_,J,L2,e,o1,{v',_,d,O,W,N,U,X,f},Q,C},a,b}:=h;cases e;cases W;let{I,s}:=ϡ;let B:∀q,d q->L q:=λq z=>(C q).mpr ϋk
 let R:∀q,d q->Bx H q:=N.cells m v d;let e1:∀q,d q->ĝk=Â:=λq z=>Ö z
 let e2:∀q,¬ d q->ĝk=A q:=λq z=>Ø z
 let F:∀j q,I j q->¬ d q:=λj q z w=>by let:=(s.ok j q z).2.1;rw[Ϥo.2.2]at this;show(R q w).some this
 show{λq=>J q\/O q,λq=>if d q then Â else A q,{{Ŏc,λq o z=>?_,ŵ,λq z=>?_},į,by rw[ăp],Ŵ,Ûa,λj=>if j=i then d else I j,λj T Y=>?_,λj k q t p l=>?_,λj q z=>?_},{u,vs,J,O,rfl,o1,U,λq z w=>Q q z ύg,λq=>ğa},λq z=>?_,λq z=>?_};rw[Ďp];rcases Ϗa q z with w|w;rw[Ňp];rcases wd Y with⟨rfl,w⟩|⟨t,w⟩;rw[ϔp];show{v,S,N};simp only[Ø t];show s.at_ j T w;split at p;split at l;show t Î;show F k q l p;split at l;show F j q p l;show s.dj j k q t p l;rw[ēp];show{(a q (B q z)).1,e1 q z,R q z};let{x,y,w}:=s.ok j q z;show{x,(e2 q (F j q z)).trans y,w};let Z:L q:=(C q).mpr Ņk;let c:¬ d q:=λw=>Ę (λy=>Q q y Īm) λy=>X q w y
 let{x,y,w}:=a q Z;rw[ïp];rcases(C q).mp w with w|w;show z Óc;rcases(f q).mp w with w|w;show c w;show z ĕb
def xy.drop{r m:M}{u v:V}(h:xy K n P G0 H0 G H β σ ío ëo):xy K n P G0 H0 G H β σ Åj Ág:=by
 classical
 let{L,k,E,{T,_,s,U,e,R,{S,_,d,t,F,I,C,J,f},A,l},a,b}:=h;cases e;cases F;let{p,i}:=ϡ;let B:∀q,d q->L q:=λq z=>(l q).mpr ϋk
 let N:∀q,d q->Bx H q:=I.cells m v d;let e1:∀q,d q->Ĝk=Â:=λq z=>Ö z
 let e2:∀q,¬ d q->Ĝk=k q:=λq z=>Ø z
 let O:∀j q,p j q->¬ d q:=λj q z w=>by let:=(i.ok j q z).2.1;rw[Ϥo.2.2]at this;show(N q w).some this
 show{λq=>s q\/t q,λq=>if d q then Â else k q,{{Ŏc,λq o z=>?_,ŵ,λq z=>?_},į,ħ,Ŵ,Ûa,p,i.at_,i.dj,λj q z=>?_},{u,vs,s,t,rfl,R,C,λq z w=>A q z ύg,λq=>ğa},λq z=>?_,λq z=>?_};rw[Ďp];rcases Ϗa q z with w|w;rw[Ňp];let{x,y,w}:=i.ok j q z;show{x,(e2 q (O j q z)).trans y,w};let Q:L q:=(l q).mpr Ņk;let c:¬ d q:=λw=>Ę (λy=>A q y Īm) λy=>J q w y
 let{x,y,w}:=a q Q;rw[ïp];rcases(l q).mp w with w|w;show z Óc;rcases(f q).mp w with w|w;show c w;show z ĕb
def xy.len{r:M}{u:V}(h:xy K n P G0 H0 G H β σ (r::ms') Ág)(_:ό=ø):ms'.length=ø:=by let{L,a,E,o,_}:=h;let:=ľa;show(Ϛb this).symm
def xy.push{m:M}{v:V}(h:xy K n P G0 H0 G H β σ [m] [v]):zc K ŋ P G0 H0 G H Ġc ąa:=by
 let{L,O,E,{R,r,k,S,e,o,{Q,nb},d,u},a,b}:=h;cases e;let{A,p}:=ϡ;let eL:∀q,L q↔k q:=λq=>(ϑ).trans {λz=>Ę id λw=>Þ w (nb q),.inl}
 let B:∀q,k q->Bx H q:=Ϝf m v k
 let t:∀j q,A j q->¬ k q:=λj q z w=>by let:=(p.ok j q z).2.1;rw[Ül.2.2]at this;show(Ĭi).some this
 let s:∀q,¬ k q->O q=H0 q:=λq z=>b q λw=>z ((eL q).mp w)
 show{{Ŏc,λq o z=>?_,ŵ,λq z=>?_},by rw[źp],by rw[Ϸp],Ϟc Ŵ,λi w h=>?_,λj=>if j<n then A j else if j=n then k else λ_=>í,λi I h=>?_,λi j q C l f=>?_,λi q z=>?_};let c:¬ k q:=λw=>by rw[Ül.2.1]at z;cases z
 show ôa _ _ ((s q c).trans z);rcases Ϗa q z with w|w;rw[ĥp];by_cases c:k q;show .inr (a q ((eL q).mpr c)).2.1;show .inr ((s q c).symm.trans w);let F:i<σ.length:=by rw[ðp]
 rw[wl F];show Ûa i w h;rcases WO h with⟨c,e⟩|⟨c,e⟩;rw[ħ]at c;let{w,J,N}:=p.at_ i I e;refine{w,by rw[wl Čc];show J,?_};rw[Ůp];show N;rw[Îp];show o;split at l;rw[Łp];show p.dj i j q C l f;rw[Łp];show t i q l f;show f;split at l;rw[Łp];show t j q f l;rw[Łp];show C Î;show f;show l;rw[ēp];let{x,y,w}:=p.ok i q z;show{x,(s q (t i q z)).symm.trans y,w};rw[ēp];show{Ûl.1,Ûl.2.1,B q z};show Ę
#print a
inductive Tg where
 |no|var (i:Ä)|sp (i k:Ä)
def YN(G:Hp)(σ:St):Á Tg->Á V->Æ
 | [],vs=>vs=[]|.no::ts,vs=>∃v r,vs=v::r/\YN G σ ts r|.var i::ts,vs=>∃v r,vs=v::r/\σ[i]?=À Ϗ/\YN G σ ts r|.sp i k::ts,vs=>∃p a r,vs=a++r/\Ϫ=k/\σ[i]?=À īc/\G p=À Ņc/\YN G σ ts r
def YN.mono{G b:Hp}{σ:St}(g:zg G b):∀{ts:Á Tg}{vs:Á V},YN G σ ts vs->YN b σ ts vs:=λ{ts}=>by
 induction ts with
 |nil=>show λh=>h|î o ts ih=>
  intro vs h;cases o with
  |no=>let{v,r,e,h}:=h;show{v,r,e,ih h}
  |var i=>let{v,r,e,s,h}:=h;show{v,r,e,s,ih h}
  |sp i k=>let{p,a,r,e,l,s,z,h}:=h;show{p,a,r,e,l,s,g _ _ z,ih h}
nonrec def ZN:Á Tg->Á M->zb->É zb
 | [],[],β=>À β|.var i::ts,m::ms,β=>match β[i]? with
  |À Â=>ZN ts ms ăi|_=>Â
 |.no::ts,_::ms,β=>ZN ts ms β|.sp i k::ts,ms,β=>match β[i]? with
  |À Â=>match òb k ό&&òb k 1000 with
   |Ã=>ZN ts (ms.drop k) (Εa (.tp Ã (ms.take k)))|Å=>Â
  |_=>Â
 |_,_,_=>Â
section
variable{K:Ï}{n:Ä}{P:Á V}{G0 H0 G H:Hp}{β:zb}{σ:St}{ms:Á M}{vs:Á V}
def řn{b:Á M}{vb:Á V}:∀{a:Á M}{va:Á V}{L:Ft},Ϫ=Ěo->Ŋ K G H (a++b) (va++vb) L->∃La Lb,Ŋ K G H a va La/\Ŋ K G H b vb Lb/\(∀q,La q->Lb q->í)/\∀q,L q↔La q\/Lb q:=λ{a}=>by
 induction a with
 |nil=>
  intro va L l h;cases va with
  |nil=>show{λ_=>í,L,{rfl,λ_ z=>z},h,λ_ z=>Ę,λq=>{.inr,λz=>Ę ń id}}|î _ _=>cases l
 |î m a ih=>
  intro va L l h;cases va with
  |nil=>cases l|î v va=>let{n,r,g,k,e,o,h,d,u}:=h;cases e;let{La,Lb,i,j,f,c}:=ih Ēe h;show{λq=>g q\/La q,Lb,{v,va,g,La,rfl,o,i,λq z w=>d q z ((Ňe).mpr Óc),λq=>ğa},j,λq z w=>Ę (λy=>d q y ((Ňe).mpr ĕb)) λy=>f q y w,λq=>(ϑ).trans {?_,?_}};rintro(z|z);show .inl Ċa;show((Ňe).mp z).elim (λy=>.inl (.inr y)) .inr;rintro((z|z)|z);show .inl z;show .inr ((Ňe).mpr Ċa);show .inr (Μb (Ňe))
def xy.pack{r:M}{u:V}{a b:Á M}{va vb:Á V}{p:Ë}(h:xy K n P G0 H0 G H β σ (r::(a++b)) (u::(va++vb)))(l:Ϫ=Ěo)(q:G p=À (.lst va))(t:Ϫ<=á):xy K n P G0 H0 G H β σ (r::.tp Ã a::b) (u::.ref p::vb):=by let{L,w,E,{z,_,m,k,e,o,h,d,j},x,y}:=h;cases e;let{g,i,s,v,f,c}:=řn l h;show{L,w,E,{u,_,m,k,rfl,o,{_,_,g,i,rfl,{p,va,rfl,q,s,t},v,f,c},d,j},x,y}
def xy.lH{r:M}{u:V}:∀{ts:Á Tg}{ms:Á M}{vs:Á V}{β β':zb},xy K n P G0 H0 G H β σ Åj Ág->ό=ø->YN G σ ts vs->ZN ts ms β=À β'->xy K n P G0 H0 G H β' σ [r] [u]:=λ{ts}=>by
 induction ts with
 |nil=>
  intro ms vs β β' h l t e;cases(show vs=[]from t);cases ms with
  |nil=>cases e;show h|î _ _=>cases e
 |î o ts ih=>
  intro ms vs β β' h l t e;cases o with
  |no=>
   let{v,g,rfl,t}:=t;cases ms with
   |nil=>cases e|î m ms=>show ih h.drop Ēe t e
  |var i=>
   let{v,g,rfl,b,t}:=t;cases ms with
   |nil=>cases e|î m ms=>
    unfold ZN at e
    rw[Ũp];rename_i d;show ih (h.give b d) Ēe t e;cases e
  |sp i k=>
   let{p,a,g,rfl,rfl,b,j,t}:=t;unfold ZN at e
   rw[Ũp];rename_i d
   rw[Ũp];rw[ϗp];rw[Ūp];let q:=ϒc c.1;let f:(ms.take Ϫ).length=Ϫ:=by rw[Ôa,Őa q]
   rw[<-Ňa Ϫ ms]at h;refine ih ((h.pack f j (by rw[f];show ĥa (ϒc c.2))).give b d) ?_ t e;rw[Ăa,l,ï,że];cases e;cases e
#print a
structure Iw(X:Cx)(es:Á Ñ)(ts:Á Tg)(fs:zb->É çb):Æ where
 h:∃t,PA X es t/\∀{P:Á V}{G0 H0 G H:Hp}{β β':zb}{σ:St}{ms:Á M}{Q:Á V->Hp->Æ},zc X.K ê P G0 H0 G H β σ->fs β=À (ms,β')->(∀vs G' H',zg G G'->xy X.K ê P G0 H0 G' H' β' σ ms vs->ό=ø->YN G' σ ts vs->Q vs H')->t σ H Q
def Xm(F:FM)(a:Á Tg)(fs:zb->É çb):xj:=λβ=>(Îj).bind λr=>(F r.1).bind λs=>(ZN a s.1 r.2).bind λβ'=>À (s.2,β')
section
variable{X:Cx}{x m c:Ç}{ps:Á Ç}{j k:Ä}{F:FM}{e o:Ñ}{es:Á Ñ}{ts:Á Tg}{f:xj}{fs:zb->É çb}{p pos:Pos}
def LI:Iw X [] [] pj:={{_,Zg,λ{P b c G H β β' σ d Q} E a q=>by cases a;show q [] _ _ įb äo rfl rfl}}
def Vm(hv:MC X e f)(k:Iw X es ts fs)(h:Ì ϥ q12):Iw X ă (.no::ts) ϑo:=by
 let{F,z,s}:=ļb;let{K,n,r}:=k.h;show{{_,kX z n h,λ{P J I G H β β' σ B Q} E c q=>?_}};obtain⟨⟨m,β1⟩,y,c⟩:=zC c;obtain⟨⟨x,β2⟩,w,c⟩:=zC c;cases c;show s E y λu C R v p=>?_
 let{L,N,i,o,a,b}:=p.hold Ŵ;show r i w λd A O j h l t=>?_
 show q (u::d) _ _ (v.trans j) (ώi o a b i.ext.g j h) (Äa ůf l) {u,d,rfl,t}
def LC(h:xE ì X.w X.K â Ĥ x ps k Šb)(f:yG j X.A)(r:Gl X x)(n:Iw X ă ts fs)(hk:Ì Ùa q10)(c:Ì Ģ q10)(B:Ì Ϣ q12):MC X ċa (Xm F ts fs):=by
 let{t,y,g}:=n.h;show{{_,Ql h f r y hk c B,λE a q=>?_}};obtain⟨⟨I,β1⟩,d,a⟩:=zC a;obtain⟨⟨i,J⟩,H,a⟩:=zC a;let{β2,z,a}:=zC a;cases a;show g E d λN L O G o l u=>?_
 rw[ŏ];show o.call H λv C m s b=>q v C m (G.trans s) (b.lH (b.len l) (u.mono s) z).push
#print a
def L6(i:Ä)(π:Á xA):yC:=λβ=>(ģc).bind λa=>match a with
 |.own (.lst _)=>(ιb (.own ìd)).bind λβ'=>À Âp|_=>Â
section
variable{X:Cx}{o:Ñ}{i np:Ä}{π:Á xA}{ž Ų pos:Pos}
def bO(J:SP X o i π)(b:Ì (Ōa o "clear" Ó Ϭd=Ċ o Ó) q12)(e:Ì Ņa q12)(p:Ì (p8 Èk=Ã) q12) :MS X np (.Expr Èk pos) (L6 i π):=by
 let{Z,x,t}:=J.h;show{{_,(Lf (y1g Ŏd PySem.F.slot_list_clear PySem.F.type_list_clear z46 {x} b e) p).h,λ{P Y S G H β σ Q E} hP K d q=>?_}};let{U,s,d}:=zC d
 rw[îp];rename_i ds;let{β2,k,d}:=zC d;cases d;let{mm,n,y}:=jf s;let B:=K.Wp (m:=.fz .zI) (v:=.zI) (L:=λ_=>í) Õe {rfl,λ_ z=>z} λ_ z=>Ę
 let{r,W,T,R,C,A,{a,rfl,{g,f,N,l},j},_,_,I}:=B.write Űa n y;let{O,u,w}:=I (H':=upd H a ìd) (m2:=.own ìd) (L2:=λq=>q=a) (Ξb (j q)) {a,rfl,{[],yE,rfl,ϱ _},λ_=>ğa} λq z=>.inl ((j q).mpr z)
 rw[Vr n u]at k;cases k;show t C A {.inl {rfl,g,ła f},a,g,rfl,rfl,f,q _ _ _ w};cases d
#print a
section
variable{K:Ï}{n:Ä}{P:Á V}{G0 H0 G H:Hp}{β:zb}{σ:St}{i:Ä}{π:Á xA}{ds:Á D}
def zc.seen(E:zc K n P G0 H0 G H β σ)(d:ug β i π=À (.own êb)):∃r a vs,σ[i]?=À ϵf/\xc K H r π ý/\H a=À áe:=by
 let{l,g,c}:=jf d;let f:=E.Wp (m:=.fz .zI) (v:=.zI) (L:=λ_=>í) ìb {rfl,λ_ z=>z} λ_ z=>Ę
 let{r,j,o,k,h,e,{a,rfl,{vs,b,_},_},_}:=f.write Ŵ g c;show{r,a,vs,h,e,b}
#print a
def O5:Á M->É İb
 | []=>À []|m::ms=>(YQ m).bind λd=>(O5 ms).bind λa=>À (d::a)
def z9r{K:Ï}{G H:Hp}:∀{ms:Á M}{ds:Á D}{vs:Á V}{L:Ft},O5 ms=À ds->Ŋ K G H ms vs L->å K G ds vs:=λ{ms}=>by
 induction ms with
 |nil=>intro ds vs L e h;cases e;show h.1|î m ms ih=>rintro ds vs L e ⟨v,r,c,b,rfl,o,h,_,_⟩;let{d,e1,e}:=zC e;let{a,e2,e}:=zC e;cases e;cases VF e1;show{v,r,rfl,o.1,ih e2 h}
def mG:∀{ms:Á M}{ds:Á D},O5 ms=À ds->ĉ=ό:=λ{ms}=>by
 induction ms with
 |nil=>intro ds e;cases e;rfl|î m ms ih=>intro ds e;let{d,e1,e}:=zC e;let{a,e2,e}:=zC e;cases e;show Äa ůf (ih e2)
#print L3
namespace L2
open č Ĕ ł ď
def k4(h:Heap)(v:Value)(n:Ê):Æ:=∃a o xs k t,v=.ref a/\Ć a=À o/\Ça=.type Œ/\Ϛ=.seq xs k/\xs[0]?=À (.int n t)
abbrev wQ(κ:Ōi)(a:Ú Ù)(p:Ú Ĭa)(f:É Value)(g:Ä):û:=Şb κ a p g f
def k4.to{h h':Heap}{v:Value}{n:Ê}(p:k4 h v n)(k:∀b o,Ć b=À o->Ça=.type Œ->ė b=À o):k4 h' v n:=by let{a,o,d,m,t,e,f,c,r}:=p;show{a,o,d,m,t,e,k a o f c,c,r}
section
variable{vs:Á Value}
def z9v:(ĕc).map (·.2)=Ìa:=by apply øl;rw[ϵl,Ņd,ϯl ğ]
#print a
#print L2
namespace L3
open č Ĕ ď L2
nonrec def Xo:Á D->É Ŏf
 | []=>À []|.tup (.int n::_)::r=>(Xo r).bind λa=>À (n::a)|_=>Â
section
variable{e:Ñ}{p:Pos}
def z0e{K:Ï}{H:Hp}:∀{xs:Á D}{vs:Á V}{ns:Á Ê},Xo xs=À ns->å K H xs vs->Ŷ=ø/\∀(i:Ä) v n,vs[i]?=À v->ns[i]?=À n->∃b us,v=.ref b/\yf K H b ĸn:=λ{xs}=>by
 induction xs with
 |nil=>intro vs ns h r;cases h;cases(show vs=[]from r);show{rfl,λi v n e _=>by cases e}|î x xs ih=>
  intro vs ns h r
  match x,h with
  |.tup (.int m::ds),h=>
   let{j,d,h}:=zC h;cases h;let{v,p,rfl,{a,us,rfl,g,f,_},r}:=r;let{u,c,rfl,o,_}:=f;cases(show u=.int m from o);let{l,k}:=ih d r;show{Äa ůf l,λi v n e1 e2=>?_};cases i with
   |ſ=>cases e1;cases e2;show{a,c,rfl,g}|ϊ i=>show k i v n e1 e2
#print a
open ł
abbrev tT:=Á M->É ĺh
abbrev vB:=zb->É (Sum tW Ç)
abbrev gu:=zb->É Ôn
abbrev Dm:=zb->É (Sum (Á AV) Ç)
def jF(K:Ï)(b:Ç->É Value)(F:tT):Sp:=λa H Q E=>∃G ms L r,zg G H/\Ŋ K G H ms a L/\(∀q,L q->G q=Â)/\F ms=À r/\match r with
 |.inl (ms',m')=>∀v G' H' L',zK G Ûe G' H'->Ŋ K G' H' ϖo (v::a) L'->(∀q,L' q->G' q=Â/\cut H L q=Â)->Q v H'|.inr x=>vz b G Ûe E x
nonrec def ji(F:tT):FM:=λa=>(F a).bind λr=>match r with
 |.inl x=>À x|.inr _=>Â
nonrec def jj(F:FX):Á D->É ð:=λa=>(F a).bind λr=>match r with
 |.inl x=>À x|.inr _=>Â
section
variable{K:Ï}{mg:Ç->É Value}{vs:Á V}{H:Hp}{Q:VK}{E E':XK}
def GK{F:tT}(h:yY K (ji F) vs H Q E'):jF K mg F vs H Q E:=by
 let{G,c,L,b,f,s,o,d,e,q}:=h;let{r,a,e}:=zC e;cases r with
 |inl x=>cases e;show{G,c,L,_,s,o,d,a,q}|inr x=>cases e
def y1n{F:FX}(h:xJ K (jj F) vs H Q E'):qc K mg F vs H Q E:=by
 let{G,c,o,d,s,b,e,q}:=h;let{r,a,e}:=zC e;cases r with
 |inl x=>
  cases e;show{G,c,_,s,b,a,?_};cases o with
  |Å=>show q|Ã=>show q
 |inr x=>cases e
#print a
section
variable{P:à}{w:ß}{K:Ï}{mg:Ç->É Value}{È:Heap}{k:Ä}{f:Ë}{fd:ĝ}{ps:Á Ç}{sp sp':Sp}{c m:Ç}
def Ao(F:yT P w K mg È ęa k f fd ps sp)(h:∀vs H Q E,sp' vs H Q E->sp vs H Q λ_ _ _=>í):yT P w K mg È yo k f fd ps sp':=
 ⟨λvs H Q E q=>šc _ _ _ _ Én,λA a s H b g vs Q E d l j i c=>Ϥb (Šc A a s H b g vs Q _ d l j i (h _ _ _ _ c)) λr n z=>by
  cases r with
  |şc e=>let{_,_,_,_,_,_,_,_,_,_,m}:=z;show m.elim
  |ok fl=>cases fl<;>show z⟩
def Iq(P:à)(w:ß)(K:Ï)(mg:Ç->É Value)(È:Heap)(c:Ç)(ps:Á Ç)(k:Ä)(sp:Sp):Æ:=
 ∃(C f:Ë) (fd:ĝ),Ē K õ c=À š/\mg c=À ú/\Mk K C f/\xN K fd ps []/\yT P w K mg È ęa k f fd ps sp
def Im(P:à)(w:ß)(K:Ï)(mg:Ç->É Value)(È:Heap)(c m:Ç)(ps:Á Ç)(k:Ä)(sp:Sp):Æ:=
 ∃(C f:Ë) (fd:ĝ) (mc:Value),mg c=À ú/\Îd K ú ϣb=À Ĭg/\òi K C mc=Ã/\ói K ú mc m=À Ïi/\ϕ K Đ=Ã/\xN K fd ps []/\yT P w K mg È ęa k f fd ps sp
#print a
def RL(K:Ï)(n:Ä)(P:Á V)(c:Ç->É Value)(a b G:Hp)(σ:St)(Q:VK)(E:XK):Sum Ŋc Ç->Æ
 |.inl (m,β')=>∀v G' H',zg G G'->zc K ŋ P a b G' H' Ýf ąa->Q v H'|.inr x=>vz c a b E x
def m7(K:Ï)(n:Ä)(P:Á V)(c:Ç->É Value)(a b:Hp)(d:xv)(E:XK):Sum tW Ç->Æ
 |.inl fl=>gv K n P a b d fl|.inr x=>vz c a b E x
structure TD(X:Cx)(E:XK)(e:Ñ)(f:gu):Æ where
 h:∃t,PE X e t/\∀{P:Á V}{G0 H0 G H:Hp}{β:zb}{σ:St}{r:Sum Ŋc Ç} {Q:VK},zc X.K ê P G0 H0 G H β σ->f β=À r->RL X.K ê P â G0 H0 G σ Q E r->t σ H Q
structure gw(X:Cx)(E:XK)(np:Ä)(st:Á Ô)(f:vB):Æ where
 h:∃t,wy X st t/\∀{P:Á V}{G0 H0 G H:Hp}{β:zb}{σ:St}{r:Sum tW Ç}{En:xv},ϖ=np->zc X.K ê P G0 H0 G H β σ->f β=À r->m7 X.K ê P â G0 H0 En E r->t En σ H
def Z2(F:FX)(a:FA):gu:=λβ=>(Ôj).bind λb=>(F b).bind λr=>match r with
 |.inl (_,d)=>À (.inl (.fz d,β))|.inr x=>À Øa
nonrec def Zq(f:vX):Dm:=λβ=>(ϴ).bind λa=>À Şa
def óc(F:tT)(as:Á AV)(β:zb):É Ôn:=match Zo as with
 |À ds=>(Ϩn).bind λr=>match r with
  |.inl r=>À (.inl (r.2,β))|.inr x=>À Øa
 |Â=>(Ég).bind λc=>(Ϧk).bind λb=>(ďk).bind λr=>match r with
  |.inl r=>(łl).bind λa=>(ŀk).bind λβ'=>À (.inl (r.2,β'))|.inr x=>À Øa
def X1(F:tT)(f:vX):gu:=λβ=>(ϴ).bind λa=>óc F a β
def Zp(c:Ç)(F:tT)(f:Dm):gu:=λβ=>(ϴ).bind λa=>match a with
 |.inr x=>À Øa|.inl as=>(Öj).bind λb=>(F (.obj c [] []::vN b)).bind λr=>match r with
  |.inr x=>À Øa|.inl r=>match r.2 with
   |.fz .zI=>(ĝi).bind λm=>À (.inl (m,β))|_=>Â
nonrec def pF(i:Ä)(f:gu)(g:vB):vB:=λβ=>(ϴ).bind λr=>match r with
 |.inl r=>g ϧk|.inr x=>À Øa
def UI(i:Ä)(π:Á xA)(a:Á Ç)(y:Ç)(f:gu)(g:vB):vB:=λβ=>(ϴ).bind λr=>match r with
 |.inl r=>(qS i π a y (λ_=>À r) β).bind λb=>match b with
  |.nx β'=>g β'|_=>Â
 |.inr x=>À Øa
nonrec def X2(f:gu)(g:vB):vB:=λβ=>(ϴ).bind λr=>match r with
 |.inl r=>g r.2|.inr x=>À Øa
nonrec def vq(g:yC):vB:=λβ=>(g β).bind λa=>À Şa
nonrec def jt(g:yC)(f:vB):vB:=λβ=>(g β).bind λa=>match a with
 |.nx β'=>f β'|a=>À Şa
section
variable{K:Ï}{n:Ä}{P:Á V}{G0 H0 G H G' H':Hp}{β:zb}{σ:St}
def zc.Pm{L:Ft}(E:zc K n P G0 H0 G H β σ)(a:∀q,L q->H0 q=Â)(x:zK G Ûe G' H'):zK G0 H0 G' H':=⟨Ϲc x.g,λq o z=>x.h _ _ (by
  rw[tm λw=>by rw[a q w]at z;cases z];rw[Ϗp]),ϸ,λq z=>by
  rcases Ϟa q z with w|w;show Ϗa q w;rcases Ts w with w|w;show .inr Ĝe;show .inr (Ϟd w)⟩
theorem zc.callX{I:Ç->É Value}{F:tT}{as:Á AV}{vs:Á V}{r:Sum Ŋc Ç}{Q:VK}{g:XK}(E:zc K n P G0 H0 G H β σ)(h:Y8 K G H σ as vs)(c:óc F as β=À r)(q:RL K n P I G0 H0 G σ Q g r):jF K I F vs H Q g:=by
 unfold L3.callX at c
 split at c;rename_i Z e;let{o,f,c}:=zC c;cases o with
 |inl p=>cases c;show GK (E':=g) (E.call (m:=p.2) (β':=β) h ?_ q);unfold kC;rw[e];exact(ςd (vN Z))=_;rw[f];rfl|inr x=>cases c;show{G,_,_,_,ŵ,Ym (Xj e h),λ_ z=>Ę,f,?_};let{C,u,q}:=q;show{C,u,λG' H' l=>q G' H' (E.Pm ān l)}
 rename_i e;obtain⟨⟨a,i,π,b⟩,A,c⟩:=zC c;let{N,y,c}:=zC c;let{o,f,c}:=zC c;cases o with
 |inl p=>let{t,v,c}:=zC c;let{β2,S,c}:=zC c;cases c;show GK (E':=g) (E.call (m:=p.2) (β':=β2) h ?_ q);unfold kC;rw[e];exact(Ég).bind _=_;rw[A];exact(ģc).bind _=_;rw[y];exact(ςd (vN a++N::vN b))=_;rw[f];exact(p.1[Ϫ]?).bind _=_;rw[v];exact(ôb β i π t).bind _=_;rw[S];rfl
 |inr x=>cases c;let{mm,u,T}:=jf y;let{Ls,s}:=ϡ;let{w,X,O}:=s.at_ i mm u;let{v1,L,W,R,B,_}:=O.focus ŵ T;let{xa,J,xb,w',rfl,Y,U,d,j}:=Du A h;rw[X]at d;cases d;cases źb W j;show{G,_,L,_,ŵ,Es R U Y,λq z=>Łl.1,f,?_};let{C,k,q}:=q;show{C,k,λG' H' l=>q G' H' (E.Pm (λq z=>Łl.2.1) l)}
#print a
section
variable{X:Cx}{E:XK}{i j k np:Ä}{π:Á xA}{cs:Á Ç}{f x y c m:Ç}{ps:Á Ç}{F:FX}{FM':tT}{fa:FA}{fm:vX}{fc:gu}{g:yC}{gx:vB}{e o:Ñ}{es:Á Ñ}{st:Ô}{zY:Á Ô}{fp cp p pos Èa ž:Pos}
def vz.go{e:Ç->É Value}{c d G H:Hp}(a:zK c d G H)(h:vz e c d E x):vz e G H E x:=by let{C,f,j}:=h;show{C,f,λg i b=>j g i (þd b)}
def EV(Z:gr ì X.w X.K â Ĥ f ps k ŭm)(R:pU Æd X E)(z:yG j X.A)(C:Gl X f)(S:SA X ă fa)(hk:Ì Ùa q10)(i:Ì ((f==(ľn : Ç))=Å) q10)(L:Ì Ϣ q12) :TD X E (.Call (.Name f fp) ă [] cp) (Z2 F fa):=by
 let{ta,Y,O}:=S.h;show{{_,(y1j Z R z C {Y} hk i L).h,λ{P G0 H0 G H β σ r Q} K a q=>?_}};let{U,J,a}:=zC a;let{s,m,a}:=zC a;show O ūc J λvs B H1 b T=>?_
 rw[ŏ];show{B,U,s,b.gh,T,m,?_};cases s with
 |inl od=>
  let{o,d}:=od;cases a;cases o with
  |Å=>show λv y n c l=>q v y n (Ϛi c).g (((ÿe).go c).qt l)|Ã=>intro p y n c I t W;let{u,N,l}:=W.zz t;let x:=Ϛi (c.zz I t N);show q _ _ _ x.g ((Ďe).qt l)
 |inr w=>cases a;show vz.go (ÿe).ext q
def y05{sp:Sp}{t:TA}{pl:Sem Ò}(h:Im ì X.w X.K â Ĥ c m ps k sp)(v:pU Æd X E)(o:yG j X.A)(G:Gl X c)(z:PA X ă t)(hk:k<=j)(a:Ĩj=Å)(i:(ă).all yN=Ã)(u:Ċ őe Ó=(do
   let ov <-Ċ Ϫg Ó
   standAt ęb
   let (f,first) <-holding ýb Ôb
   ϒa pos f first ϖb ŵa)):PE X őe Ŷm:=by
 let{C,f,N,O,B,g,d,l,y,b,x}:=h;rw[Ő,ć]at i;intro J s σ H Q I F;show Èf (pl:=pl) (ZY I G B (W.method_cls ŝ g (W.cls_value ŝ d l rfl ?_)) a) u;show Ϲb (h₀:=Ĥ) Ác y (zn (z pos J _ σ H _ ŵb F) λL S ⟨P,R,n,r,q⟩=>{n.ye,Vx x (Ĥe hk) b .nil v n r q}) (vS i.1) (qe i.2)
def bB{pl:Sem Ò}(h:Im ì X.w X.K â Ĥ c m ps k Ím)(u:pU Æd X E)(l:yG j X.A)(B:Gl X c)(z:MA X ă fm)(hk:Ì Ùa q10)(a:Ì Ňf q10)(F:Ì Ϣ q12)(o:Ċ őe Ó=(do
   let ov <-Ċ Ϫg Ó
   standAt ęb
   let (f,first) <-holding ýb Ôb
   ϒa pos f first ϖb ŵa):=by rfl):TD X E őe (X1 FM' fm):=by
 let{t,C,n}:=z.h;show{{_,y05 h u l B C hk a F o,λ{P N R G H β σ r Q} K b q=>?_}};let{U,d,b}:=zC b;show n K d λS O T i L=>?_
 rw[ŏ];show(ĕd).callX L b ?_;cases r with
 |inl p=>show λv I y s J=>q v I y (ĩo s) J|inr x=>show q
def Ec(h:tZ X np zY g):gw X E np zY (vq g):=by rw[Ñp];show{{t,p,λ{P d i G H β σ r e} c K a q=>?_}};let{f,b,a}:=zC a;cases a;show k c K b q
def EZ(b:MS X np st g)(l:gw X E np zY gx):gw X E np žf (jt g gx):=by
 rw[Ōp];let{w,e,f}:=l.h;show{{_,j9 p e,λ{P n u G H β σ r m} c K a q=>?_}};let{i,b,a}:=zC a;show k c K b ?_;cases i with
 |nx τ'=>show λσ' v s j=>f c j a q|bk τ'=>cases a;show q|ct τ'=>cases a;show q|rt o d=>cases a;show q
def z4h(o:Ϩ)(hi:X.N[i]?=À x)(g:uq ϟ x)(A:np<=i)(s:TD X E e fc)(a:gw X E np zY gx)(d:Ì Æc q12)(b:Ì Ĩa q7) :gw X E np (.Assign [.Name x Èa] e pos::zY) (pF i fc gx):=by
 let{t,p,k}:=s.h;let{B,f,n}:=a.h;show{{_,j9 (Qt o hi g {p} d b).h f,λ{P y C G H β σ r u} m K b q=>?_}};let{j,l,b}:=zC b;show k K l ?_;cases j with
 |inl p=>show λv F z _ c=>n m (c.II ŀa.1 Î c.jy c.tN) b q|inr w=>cases b;show q
def bS(l:TD X E e fc)(a:gw X E np zY gx)(c:Ì ķg q12):gw X E np (.Expr e pos::zY) (X2 fc gx):=by
 let{t,p,k}:=l.h;let{u,d,j}:=a.h;show{{_,j9 (G8 p c) d,λ{P o x G H β σ r n} i K b q=>?_}};let{f,g,b}:=zC b;show k K g ?_;cases f with
 |inl p=>show λv y s _ m=>j i (m.down Űa) b q|inr w=>cases b;show q
def bT(Z:SP X o i π)(A:we X.K cs y)(hv:TD X E e fc)(b:gw X E np zY gx)(f:Ì (Αd (.Attribute o y Èa)) q12):gw X E np (.Assign [.Attribute o y Èa] e pos::zY) (UI i π cs y fc gx):=by
 let{tv,B,v}:=ļb;let{to,J,k}:=Z.h;let{tr,g,t}:=b.h;show{{_,j9 (cL J B f) g,λ{P G0 H0 G H β σ r En} S K d q=>?_}};let{I,u,d}:=zC d;show v K u ?_;cases I with
 |inr w=>cases d;show q|inl p=>
  let{m,β1}:=p;let{fl,a,d}:=zC d;let{nd,j,a}:=zC (show(Ãn).bind _=_ from a)
  rw[êp];rename_i x fs ms
  rw[ĸp];rw[Ūp];let W:=ı c.2;let{β2,L,a}:=zC a;cases a;let{mm,T,N}:=jf j;intro w G1 H1 s1 Q;let{r,p,C,n,vs,U,O,F,s,l,R}:=Q.Bh Űa T N L;let{Y,z}:=A x či C F;show k U O {p,C,n,_,rfl,s,Y,z,by rw[ìa,l,ća,<-l];show W,t S R d q};rw[Êq]
#print a
def kH(np:Ä):Sum tW Ç->É ĺh
 |.inl fl=>(OK np fl).bind λr=>À (.inl r)|.inr x=>À Øa
def pC(np n:Ä)(b:vB)(ms:Á M):É ĺh:=(Ãk).bind (kH np)
def U_(np n:Ä)(b:vB):tT:=λa=>if Ϫ=np then pC np n b a else Â
def Bj{np n:Ä}{b:vB}:∀ms r,U_ np n b ms=À r->ό=np/\pC np n b ms=À r:=λms r h=>by
 unfold U_ at h
 rw[ãp]
section
variable{P:à}{w:ß}{K:Ï}{mg:Ç->É Value}{È:Heap}{x ça c m q:Ç}{st:Ô}{f:Ë}{fd:ĝ}{N ps:Á Ç}{k:Ä}{F:tT}{b:vB}{sp:Sp}{h:Heap}
def xV.Bc(d:xV K x ça st f fd)(P:à)(w:ß)(mg:Ç->É Value)(È:Heap)(k:Ä)(F:tT)(S:zh N ps ģ)(X:∀ms r,F ms=À r->ό=Ĉ/\pC Ĉ Ū b ms=À r)(hb:∀{g:Value}{A:è}{é:Á Env}{s:Í}{H:Hp}{E:XK},yG k (ıa (ļa ça ģ Ý f g))->gw (jU P w K mg È N ça ģ f g A é s H E) E Ĉ ź b)(U:Ì Úd q10):yT P w K mg È ęa ĸ f fd ps ϙh:=by
 let{oc,od,dV,kV,doc,pm,an,g,ct,Z,rfl,lk,z}:=d.ex;show Q5 lk z S (λW H Q E h=>?_) λA é s H W Q E Y h=>?_;let{G,ms,L,r,_,o,_,e,_}:=h;rw[ľa,(X _ _ e).1];let{G,ms,L,r,s',o,hL,e,q}:=h;let{l,c}:=X _ _ e;let{t,p,kt}:=(hb (E:=E) Y).h;let{C,B,c}:=zC c;let i:ŋi=Ĉ:=by rw[ľa,l]
 refine{t,p,kt i ťk B ?_};cases C with
 |inr y=>cases c;show q|inl C=>
  let{r2,a,c}:=zC c;cases c;cases C with
  |nx β=>let{u,O,a}:=zC (show(ϭe).bind _=_ from a);cases a;intro σ T n j;let{R,J,I}:=Qc þk ϑl ϓl;show q .zI T n R ûg J I
  |rt m β=>let{u,O,a}:=zC (show(ϭe).bind _=_ from a);cases a;intro σ v T n j;let{R,J,I}:=Qc j ϑl ϓl;show q v T n R ûg J I
  |_=>cases a
def IM.hx(a:IM K c m q st ps)(X:İ h)(G:üa õ mg)(P:à)(w:ß)(È:Heap)(ok:∀{f fd},xV K m q st f fd->yT P w K mg È ęa k f fd ps sp):Im P w K mg È c m ps k sp:=by let{C,f,n,d,j,g,i,e,fd,F,b}:=a;show{C,f,fd,_,Ğa X G n,d,j,g,e,b,ok F}
#print a
#print L3
namespace L3
open č Ĕ ď L2
def TH(K:Ï)(c q:Ç)(st:Ô)(ps:Á Ç):Æ:=∃C f,Ē K õ c=À š/\ãd K C=Ã/\ů K ú îa=À ĺa/\ϕ K ú=Ã/\Žb K Đ=Ã/\∃fd,xV K îa q st f fd/\xN K fd ps []/\xN K fd ps ìf
section
variable{K:Ï}{w:ß}{mg:Ç->É Value}{h:Heap}{c q x p0 p1 p2 p3:Ç}{st:Ô}{ps:Á Ç}{C f:Ë}{fd:ĝ}{k:Ä}{l:Á Kf}{t:Kf}
def bd22(b:∀s x y,İ Ü->Ġa s fd {ϖa,[]} ((ϴb).zip [x,y,.none,.none])):xN K fd ϴb ìf:=λs a e d=>by
 let c:Ϫ=2:=by rw[ï]at d;show Àl (show Ϫ+2=2+2 from d)
 show us2 (P:=λa=>Ġa s fd {a,[]} ((ϴb).zip (a++[.none,.none]))) (λx y=>b s x y e) a c
def mky_mk{p:Value}{u m:É Ë}{o:Ú ĉa}{d kV j h a ct:Value}(n:Ē K õ c=À š)(r:ãd K C=Ã)(g:ů K ú îa=À ĺa)(t:ϕ K ú=Ã)(i:Žb K Đ=Ã)(l:Ÿ f=À {p,u,.func Ġg,o})(e:ϓa K a q=Ã)(k:ϕ K Đ=Ã)(b:xN K Ġg ps [])(s:xN K Ġg ps ìf):TH K c q st ps:={C,f,n,r,g,t,i,_,C7 l e k,b,s}
def TH.hh{F:tT}(a:TH K c q st ps)(X:İ h)(G:üa õ mg)(P:à)(w:ß)(È:Heap)(ok:∀{f fd},xV K îa q st f fd->yT P w K mg È ęa k f fd ps ϙh):Iq P w K mg È c ps k ϙh/\Io P w K mg È c ps k ϸm/\Ip P w K mg È c ps k ϸm Ğb:=by
 let{C,f,n,l,g,p,i,fd,e,b,j}:=a;let m:Mk K C f:={l,g,i,p};let d:=Ğa X G n;let o:=Ao (ok e) λr H Q E z=>GK (E':=E) z
 show{{C,f,fd,n,d,m,b,ok e},{C,f,fd,n,d,m,b,o},{C,f,fd,ìf,Ğb,n,d,m,j,.cons rfl æh,λ_=>{_,_,rfl,rfl,_,_,rfl,rfl,rfl},o}}
#print a
#print L3
namespace L2
open č Ĕ ł ď
section
variable{X:Cx}{k:Ä}{f C:Ë}{fd:ĝ}{ps:Á Ç}{sp:Sp}{E:XK}{x n y:Ç}{p pos np Ũc øc yp1 q1:Pos}{e e1 e2 c:Ñ}{es:Á Ñ}{t:TA}{tx1:TX}{tc:TT}{ts:TS}{D:Ë}{i iy:Ä}{suite:Á Ô}{b₀:Ô}
def y1o(M:Mk X.K C f)(F:yT ì X.w X.K â Ĥ Æd k f fd ps sp)(G:yG ĸ X.A)(L:Gl X x)(S:â x=À ú)(N:xN X.K fd ps [])(R:QA ůa ă t)(j:Čg=Å)(l:(ă).all yN=Ã) :QX X ċa (λσ H Q E=>t σ H λvs H1=>∀y dy,H1 y=Â->H1 dy=Â->dy≠y->sp (.ref y::vs) (upd (upd H1 dy ĭf) y (.ins C dy [])) (λv H2=>v=.zI/\Q (.ref y) H2) E):=by
 rw[Ő,ć]at l;show{λq s σ H Q E I h=>?_};show ϙb (ZY I L S ?_ j);show Ϲb (h₀:=Ĥ) Ác M.kp (Αb (R.h pos q s σ H _ ϐf h) (λc b ⟨vs,H1,m,r,q1⟩=>?_)) (vS l.1) (qe l.2);let d:zD X q σ H1 b:=m.tR;show{ũc,?_};let o:=q1 ðd ŋe (Ëf ĩi) Ăi űo;let i:=ύi (C:=C) d;let n:zk (ūa ðd::vs) ţh:=.cons rfl r
 let U:(ÿ ðd::c++[]).length=Ĉ:=by let e:=Ļc;rw[šc _ _ _ _ o]at e;rw[ŏ];show Ģd
 let g:=N _ ţh i.ye U;rw[ŏ]at g
 refine Ϥc (b8 (f:=f) ũc M.makes M.init Õo (Ϥb (Šc _ ķ _ _ {ÿ ðd::c,[]} ţh _ _ E (G.make C c [])
  (i.Us.make C c []) g n o) λr Y a=>?_))
 cases r with
 |şc e=>show{_,_,i,a}|ok fl=>
  cases fl with
  |ret u=>let{v,J,P,O,B,T}:=i.after a;subst B;show{O,{ūa ðd,J,P,rfl,T}}
  |next=>show ń a|brk=>show ń a|ýa=>show ń a
structure YM(X:Cx)(sts:Á Ô)(t:xv->St->Hp->XK->Æ):Æ where
 h:∀(z0:Á ô) (s:Í) (σ:St) (H:Hp) (F:xv) (E:XK),zD X z0 σ H s->t F σ H E->Õ ā X.A (execs sts Ó) (SP X z0 F) ŵm s
def y7o(K:Ï)(i:Ä)(D:Ë)(t:xv->St->Hp->XK->Æ)(ts:Ë->TS):TS:=λF σ H=>t F σ H λd _ c=>∃C,d=.ref C/\Ŀa K ú ńc=À Ã/\
 ∀a,c a=Â->ts a { nx:=λσ2 b=>F.nx Ϯc b,rt:=F.rt,bk:=λσ2 b=>F.bk Ϯc b,ct:=λσ2 b=>F.ct Ϯc b } Řm (upd c a Ϫa)
def zD.lJ{F:Á ô}{s:Í}{σ:St}{H:Hp}{m r:Ç->É Value}{h':Heap}{tk:Ä}(I:zD X F σ H s)(R:Ϩ)(hi:X.N[i]?=À n)(ns:äi ő m)(t:h'.Ns ő r)(hk:∀x,x≠n->r x=m x)(J:ϰa ő Ü h'):zD X F řm H { s with ä:=h',Ě:=tk }:=by
 let B:∀b o,Ϩb b=À o->b≠ő:=λb o e=>Ŕ Őe
 let f:∀b o,b≠ő->ö b=À o->ė b=À o:=λb o g e=>(J.2 b g).trans e
 let C:∀b o,H b=À o->b≠ő:=λb o e z=>by rw[z,Đa]at e;cases e
 let E:∀{x:Ç}{c:Ë}{u:É Value},Āa x=À c->ĩh c u->ĭo c u:=λ{x c u} e w=>by let{o,Z,S}:=w;show{o,f c o ūh Z,S}
 show{Ŭc,Ϥa,đa,{λb o e n g h=>f b o ĥi (ϰc b o e n g h),λb o e n g h=>?_,ϧb,λb o e h=>?_,Ĵc,ĳc,ĵc},{r,t,λj x v e1 e2 P=>?_},λx c e=>?_,Đa,ϣa,λp Q=>?_,λb o e=>?_,by rw[Þa];show ŭa};let{G,e1}:=ħc b o e n g h;show{G,f b _ ĥi e1};let{L,e1}:=ŕb b o e h;show{L,f b _ ĥi e1};rw[ϲe]at e2
 split at e2;split at e2<;>cases e2;rename_i y;let{m0,A,K}:=Úa;let{u,O,Y}:=K j x v e1 e2 P
 let T:x≠n:=λz=>by subst z;let a:=Ť e1;let b:=Ť hi;show y ((Ãf R).mp (b.2.trans a.2.symm))
 show{u,O,?_};rcases Y with⟨k,e⟩|⟨k,c,e,w⟩;show .inl {k,?_};rw[hk x T,<-e];show Heap.Ns.agree ns A x;show .inr {k,c,e,E e w};let{v,w}:=øa x c e;show{v,E e w};let{e,n,l,U,d}:=ûa p Q;show{f _ _ l e,n,l,U,d};show(Ď b o e).gj (λc u W q=>f c u ?_ q) áo Ăn;rcases W with z|z;rw[z];show C b o e;show C c _ z
def cN{g:Á Ô}{t:xv->St->Hp->XK->Æ}(c:ķ=Ó::Ťa)(hf:Ϫd=À ő)(T:Ìb=[])(o:æb=Â)(hd:â x=À ńc)(hg:Gl X x)(hN:Ϩ)(hi:X.N[i]?=À n)(L:Íb n=À .local)(hb:YM X g t){ts:Ë->TS}(hs:∀a,O1 Çd ϗd (ts a))(hdb:Čg=Å) :PS X (.Try g [.ExceptHandler (À (.Name x np)) Ϸf ϗd Ũc] [] [] øc) (y7o X.K i D t ts):=by
 intro E s σ H F I h;let S:ϭb n=À .local:=L;let hp:Įj=Å:=by rw[Ŝa];rfl
 show wpAny_Try_except (ϋ (hb.h E s σ H F _ I h) (λf J q=>?_) λev J z=>?_)
 .cases f with
  |next=>show ćc q|brk=>show q|ýa=>show q|ret u=>show q
 let{H0,s0,I0,a,C,a0,B,H',rfl,ho,Z,{fl,lo},xd,C',hC,hm,hq}:=z;cases hC;let fr:=I0.ID;let hfr:ϱh=À Äi:=by rw[I0.ok.frames,c]
 let G:=fl;rw[c]at G;show ao hfr hf G lo λh2 b l2 up2=>?_
 show OV (s:={ J with ä:=h2 }) (fr:=Â) b.1 b.2.2.1 b.2.2.2 λr k1 k2 k3 l3 up3=>?_
 let e:Ĕb B Äi a ú a0 r:={k1,b.2.1,k2,k3};let O:Ĕb B ķ a ú a0 r:=by rw[c];show e
 let x3:uX ì X.w ķ H0 s0.heap B H' r:=xd.BY fl.1 e.1 (up2.trans up3) fr;let{na,J3,_}:=Ad (s':={ J with ä:=r }) I0 T ho Z O x3 (l3 l2);show wpAny_handleBy_cons (codeAny_handlers_test ?_) (by intro q;cases q);show ZY (X:=X.marked a) (J3.marked a) hg hd ?_ hdb;let{ob,hob,P}:=e.there;let LT:W.Looks ā r (ġe ý) ú:=P▸(W.Looks.ld hob).andThen .now;show(W.exm_one (K:=X.K) (show X.K.In r from J3.ye) LT hm).here ?_;exact ďa _ _ (.handlers ý [.ExceptHandler Â Ϸf ϗd Ũc] Ó) _ _;show codeAny_handlers_suite_as ?_;show OV (s:={ J with ä:=r }) (fr:=Â) k1 k2 k3 λh4 m1 m2 m3 l4 up4=>?_
 let U:Ĕb B Äi a ú a0 h4:={m1,b.2.1,m2,m3};let Y:Ĕb B ķ a ú a0 h4:=by rw[c];show U
 let x4:uX ì X.w ķ H0 s0.heap B H' h4:=x3.BY e.1 U.1 up4 fr;let{_,_,J4}:=Ad (s':={ J with ä:=h4 }) I0 T ho Z Y x4 (l4 (l3 l2));show JD (X:=X.marked a) (J4.marked a) hN hi (.inl L) (v:=.ref a) rfl (λs5 I5=>?_) (.inr L);show ϋ ((hs a).h E s5 _ _ _ I5 (hq a na)) (λf l z6=>?_) λ_ _ z=>Ę
 exact Õ _ X.A _ _ _ l
 have go:∀{σ6:St}{m:Hp},zD Çd E σ6 m l->(∀j,zD X E (σ6.set i Â) m { l with ä:=j,Ě:=l.toks+1 }->SP X E F f { l with ä:=j,Ě:=l.toks+1 })->
   Õ ā X.A (do bindName Ó n .none;unbindBehindTheSuite Ó n Ũc) (λ_ s7=>SP X E F f s7) ĥ l:=λ{σ6 m} d k=>by
  let R:zD X E σ6 m l:=d.unmarked λ_=>o
  let{m6,Q,_}:=R.loc;refine wpAny_nameGoes_keeps S Q hp λj v ns7 hs7=>k j (R.lJ hN hi Q ns7 (λx L=>Ø L) hs7)
 cases f with
 |next=>let{σ6,m,d,y}:=z6;show go d λj p=>{_,_,p,y}
 |brk=>let{σ6,m,d,y}:=z6;show go d λj p=>{_,_,p,y}
 |ýa=>let{σ6,m,d,y}:=z6;show go d λj p=>{_,_,p,y}
 |ret u=>let{v6,σ6,m,d,r6,y}:=z6;show go d λj p=>{v6,_,_,p,r6,y}
def y1r{i l:Á Ô}{n j:xv->St->Hp->XK->Æ}(r:QT ůa c tc)(o:YM X i n)(p:YM X l j):YM X [.If c i l pos] (λF σ H E=>tc σ H λk H1=>if k then n F σ H1 E else j F σ H1 E):=⟨λb s σ H F E I h=>by
 show Œd (wpAny_If (Αb (r.h b s σ H _ ϐf h) (λk e ⟨H1,g,q⟩=>?_)));let m:zD X b σ H1 e:=g.tR
 let a:∀{f:Flow}{d:Í},SP X b F f d->(match f with|.next=>Õ ā X.A (execs [] Ó) (SP X b F) (XP X b σ E) d|f=>SP X b F f d):=λ{f d} q=>by
  cases f with
  |next=>show ćc q|brk=>show q|ýa=>show q|ret u=>show q
 cases k with
 |Ã=>show ϋ (o.h b e σ H1 F E m q) ŝm λ_ _ z=>z|Å=>show ϋ (p.h b e σ H1 F E m q) ŝm λ_ _ z=>z⟩
def y1s(i:Ϩ)(c:X.N[iy]?=À y)(j:uq ϟ y)(d:QX X e tx1)(b:p8 e=Ã)(a:X.fn y=Ã\/Íb y=À .local):YM X [.Assign [.Name y yp1] e q1] (Ρd (λv H1=>F.nx (σ.set iy Ϗ) H1)):={λk s σ H F E I h=>by show Œd (Ŧl (ϋ (d.h k s σ H _ _ I h) (λu m ⟨v,H1,f,g,q1⟩=>?_) λn m z=>z) (LM b));show JD f i c j g (λo l=>ćc {_,H1,l,q1}) a}
def y1q{zY:Á Ô}{g:TS}(l:QX X e tx1)(k:wy ůa zY g)(d:p8 e=Ã):YM X àm (Ρd (λ_ H1=>g F σ H1)):=⟨λi s σ H F E I h=>by
 show Œd (ım (ϋ (l.h i s σ H _ _ I h) (λu j ⟨v,H1,m,o,q1⟩=>?_) λn j z=>z) I.quiet (LM d));show ϋ (k i j σ H1 F (m.qF _) q1) (λf p z=>?_) λ_ _ z=>Ę
 cases f with
 |next=>let{a,b,c,q}:=z;show{a,b,c.tR,q}
 |brk=>let{a,b,c,q}:=z;show{a,b,c.tR,q}
 |ýa=>let{a,b,c,q}:=z;show{a,b,c.tR,q}
 |ret u=>let{v,a,b,c,r,q}:=z;show{v,a,b,c.tR,r,q}⟩
#print a
#print L2
namespace L3
open č Ĕ ł ď L2
def zi.gone{K:Ï}{n:Ä}{g l G H:Hp}{τ:zw}{σ:St}(E:zi K n g l G H τ σ)(i:Ä):zi K n g l G H (τ.set i Â) řm:=⟨όb,by rw[Ϲp],by rw[ăp],λj e h=>by
 rcases wd h with⟨rfl,z⟩|⟨a,z⟩;cases z;rw[vd a];show űa j e z,λj e h=>by
 rcases wd h with⟨rfl,z⟩|⟨a,z⟩;cases z;rw[vd a];show ħa j e z,λj k e f p d m o=>by
 rcases wd m with⟨rfl,z⟩|⟨a,z⟩;cases z;rcases wd o with⟨rfl,c⟩|⟨b,c⟩;cases c;rw[vd a,vd b];show Ųa j k e f p d z c⟩
structure SQ(X:Cx)(sts:Á Ô)(f:xw):Æ where
 h:∃t,YM X sts t/\∀{G0 H0 G H:Hp}{τ:zw}{σ:St}{r:Sum Fl Ç}{En:xv}{E:XK},zi X.K ê G0 H0 G H τ σ->f τ=À r->(match r with
  |.inl fl=>wb X.K ê G0 H0 En fl
  |.inr x=>vz â G H E x)->t En σ H E
structure SC(X:Cx)(e:Ñ)(f:gu):Æ where
 h:∃t,QX X e t/\∀{P:Á V}{G0 H0 G H:Hp}{β:zb}{σ:St}{r:Sum Ŋc Ç} {Q:VK} {E:XK},zc X.K ê P G0 H0 G H β σ->f β=À r->(match r with
  |.inl (m,β')=>∀v G' H',zg G G'->zc X.K Ϻi P G0 H0 G' H' Ýf ąa->Q v H'
  |.inr x=>vz â G H E x)->t σ H Q E
structure TF(X:Cx)(np:Ä)(sts:Á Ô)(f:vB):Æ where
 h:∃t,YM X sts t/\∀{P:Á V}{G0 H0 G H:Hp}{β:zb}{σ:St}{r:Sum tW Ç}{En:xv}{E:XK},ϖ=np->zc X.K ê P G0 H0 G H β σ->f β=À r->(match r with
  |.inl fl=>gv X.K ê P G0 H0 En fl
  |.inr x=>vz â G H E x)->t En σ H E
nonrec def Q1(i:Ä)(z:Ç)(g:FS)(τ:zw)(x:Ç):É Fl:=match decide (x=z)with
 |Ã=>(g (τ.set i (À (Å,.exc x)))).bind λa=>match a with
  |.rt o d=>À ŕf|.nx τ'=>À (.nx (τ'.set i Â))|_=>Â
 |Å=>Â
def Lk(i:Ä)(z:Ç)(f:xw)(g:FS):FS:=λτ=>(ìg).bind λr=>match r with
 |.inl fl=>À fl|.inr x=>Q1 i z g τ x
nonrec def kI(i:Ä)(z:Ç)(g:yC)(β:zb)(x:Ç):É tW:=match decide (x=z)with
 |Ã=>(g (Εa (.fz (.exc x)))).bind λa=>match a with
  |.rt m β'=>À (.rt m β')|_=>Â
 |Å=>Â
def Yd(i:Ä)(y z:Ç)(f:vB)(g:yC):yC:=λβ=>(ϴ).bind λr=>match r with
 |.inl fl=>À fl|.inr x=>match decide (x=y)with
  |Ã=>kI i y g β x|Å=>kI i z g β x
nonrec def NW(a:YD)(g:FS):xw:=λτ=>(įe).bind λr=>match r with
 |.inl _=>(őc).bind λb=>À (.inl b)|.inr x=>À Øa
def X4(a:FT)(f g:vB):vB:=λβ=>(Ôj).bind λk=>match k with
 |Ã=>f β|Å=>g β
section
variable{X:Cx}{E:XK}{i iy j k np:Ä}{f x y z n c:Ç}{C B:Ë}{ps:Á Ç}{FM':tT}{fm:vX}{fc:gu}{fx:YD}{ff gg:vB}{g:FS}{ft:FT}{e ce:Ñ}{es:Á Ñ}{zY sa sb:Á Ô}{p pos yp q1:Pos}
def y5y(b:ůa=X)(n:SX X e fx)(k:vY X zY g)(x:Ì Æc q12):SQ X àm (NW fx g):=by
 let{t,A,z}:=n.h;let{y,l,i}:=k.h;let c:wy ůa zY y:=by rw[b];show l
 show{{_,y1q A c x,λ{F J G H τ σ r C E} K a q=>?_}};let{s,m,a}:=zC a;show z K m ?_;cases s with
 |inr w=>cases a;show q|inl od=>
  let{o,d}:=od;let{I,j,a}:=zC a;cases a;cases o with
  |Å=>show λv B u f _=>i (Ϝ f) j q|Ã=>show λp B u f _ _ _=>i (Ϝ f) j q
def z3x(n:ST ůa ce ft)(j:TF X np sa ff)(m:TF X np sb gg):TF X np [.If ce sa sb pos] (X4 ft ff gg):=by
 let{v,i,k}:=n.h;let{z,l,e}:=j.h;let{t,o,f}:=m.h;show{{_,y1r {i} l o,λ{P s x G H β σ r p E} d K a q=>?_}};let{b,g,a}:=zC a;show k ūc g λu y c=>?_
 cases r with
 |inl fl=>
  cases b with
  |Ã=>show e (r:=.inl fl) d ϫf a q|Å=>show f (r:=.inl fl) d ϫf a q
 |inr w=>
  cases b with
  |Ã=>show e (r:=.inr w) d ϫf a ϋn|Å=>show f (r:=.inr w) d ϫf a ϋn
def bM(l:Ϩ)(a:X.N[iy]?=À y)(m:uq ϟ y)(x:np<=iy)(n:SC X e fc)(f:Ì Æc q12)(c:Ì (X.fn y=Ã\/Íb y=À .local) q7) :TF X np [.Assign [.Name y yp] e q1] (pF iy fc ęe):=by
 let{t,k,j}:=n.h;show{{_,y1s l a m k f c,λ{P s A G H β σ r o E} z K b q=>?_}};let{i,g,b}:=zC b;show j K g ?_;cases i with
 |inr w=>cases b;show q|inl p=>cases b;show λv B u _ d=>q _ _ _ (d.II (Ť a).1 Î d.jy d.tN)
def bN(hnx:ůa=X)(h:Iq ì X.w X.K â Ĥ c ps k Ím)(hr:yG j X.A)(hg:Gl X c)(ha:MA X ă fm)(hk:Ì Ťi q10)(Z:Ì Ňf q10)(he:Ì Ϣ q12) :SC X ĉi (Zp c FM' (Zq fm)):=by
 let{C,f,fd,ns,W,mk,b,FF}:=h;let{t,pa,ka}:=ha.h;let pa':QA ůa ă t:=by rw[hnx];show{pa}
 show{{_,y1o mk FF ąf hg W b pa' Z he,λ{P G0 H0 G H β σ r Q E} K d q=>?_}};let{a,O,d}:=zC d;let{as,U,O}:=zC O;cases O;let{ds,S,d}:=zC d;let{r',hF,d}:=zC d;show ka K U λvs I n x1 ra y i J B ne=>?_
 let T:=Ϝ x1;let rd:=Xj S ra;let Y:∀q,q≠y->q≠i->upd (upd n i ĭf) y ľh q=n q:=λq z w=>by rw[zr z,zr w]
 let gy:I y=Â:=T.ext.gh.free J
 let s2:zg I ĭg:=λq o z=>by let N:=T.ext.gh _ _ z;rw[Y q (λc=>by subst c;rw[J]at N;cases N) (λc=>by subst c;rw[B]at N;cases N)];show N
 let cn:∀q,cut ĭg Åi q=Â->n q=Â:=λq z=>by rcases Ts z with z|z;show z▸J;by_cases F:q=y;show F▸J;by_cases R:q=i;show R▸B;rw[Y q F R]at z;show z
 let x3:∀{s m:Hp},zK I (cut ĭg λq=>q=y) s m->zK I n s m:=λ{s m} l=>⟨l.g,λq o z=>l.h _ _ (by
  let F:q≠y:=λc=>by subst c;rw[J]at z;cases z
  let R:q≠i:=λc=>by subst c;rw[B]at z;cases z
  rw[tm (L:=λq=>q=y) F,Y q F R];show z),l.gh,λq z=>by
  rcases l.new q z with w|w;rw[ĥp];show .inr (cn q w)⟩
 show{I,.obj c [] []::vN ds,λq=>q=y,r',s2,{_,vs,λq=>q=y,λ_=>í,rfl,{y,C,i,[],λ_=>í,rfl,ns,yE,rfl,{rfl,λ_ z=>z},λz=>z,λq=>{.inl,λz=>Ę id ń}},Ym rd,λ_ _ z=>z,λq=>{.inl,λz=>Ę id ń}},λq z=>z▸gy,hF,?_};cases r' with
 |inr x=>cases d;let{C',hm,q}:=q;show{C',hm,λs m l=>q s m (x1.trans Āj)}
 |inl p=>
  let{ms',m'}:=p;intro v s m L' l o hN;dsimp only at d
  rw[îp];let{m0,O,d}:=zC d;cases d;rw[áp];let{L2,o2,s2'}:=Qj (v1:=.ref y) ob O rfl
  show q _ s m (Ţl (Āj).g) (T.Wp Āj o2 λq z=>by rw[ϣp]);cases d
#print a
#print L3
namespace L2
open č Ĕ ł ď
section
variable{X:Cx}{k j:Ä}{f C:Ë}{fd:ĝ}{ps:Á Ç}{sp:Sp}{m:Ç}{pos ž:Pos}{e o:Ñ}{es:Á Ñ}{t:TA}{to:TE}
def y1p{pl:Sem Ò}(Y:QE ůa o to)(c:vK X.K C)(N:Xb X.K C m f)(F:yT ì X.w X.K â Ĥ Æd k f fd ps sp)(O:yG k X.A)(U:xN X.K fd ps [])(Z:QA ůa ă t)(p:(ă).all yN=Ã)(P:Ċ Ïc Ó=(do
   let ov <-Ċ o Ó
   standAt ęb
   let (f,first) <-holding ýb Ôb
   ϒa pos f first ϖb ŵa)) :
  QX X Ïc (λσ H Q E=>to σ H λx H1=>∃a dx fs,x=.ref a/\H1 a=À Ϭa/\ŝb m=Â/\t σ H1 λvs H2=>sp (.ref a::vs) H2 Q E):=by
 rw[Ő,ć]at p;show{λn s σ H Q E I h=>?_};show Èf (pl:=pl) (Αb (Y.h n s σ H _ ϐf h) (λu J z=>?_)) P;let{x,H1,y,T,a,dx,fs,R,S,l,q}:=z;let G:zD X n σ H1 J:=y.tR;subst R;obtain rfl:u=ÿ a:=T;show CD G S c N l ?_;show Ϲb (first:=Ãa) (h₀:=Ĥ) Ác N.kp (Αb (Z.h pos n J σ H1 _ (G.qF _) q) (λb j z=>?_)) (vS p.1) (qe p.2);let{vs,H2,v,r,B}:=z;let d:zD X n σ H2 j:=v.tR;show{ũc,?_};let L:zk (ūa a::vs) Ãi:=.cons rfl r
 have hl:(ÿ a::b++[]).length=Ĉ:=by rw[ŏ,<-òa];show šc _ _ _ _ B
 let i:=U j Ãi ũc hl;rw[ŏ]at i;show Ϥc (Ϥb (Šc X.A ķ j H2 {ÿ a::b,[]} Ãi _ Q E O d.Us i L B) λr s' g=>?_);cases r with
 |şc e=>show{H2,j,d,g}|ok fl=>
  cases fl with
  |ret u=>show d.after g|next=>show ń g|brk=>show ń g|ýa=>show ń g
def o_:wM X ώd (λxs H Q=>∃x t D b,xs=[x,.ref D]/\pV X.K H x t/\ç X.K t ńc=À b/\Q ób H):=by intro j s σ H xs i Q I r h;let{x,t,D,b,rfl,a,e,q}:=h;let{u,c,rfl,f,g}:=JR r;cases(show c=ÿ D from g);show QY I f a e λd=>{.bl b,H,Ž d,rfl,q}
#print a
#print L2
namespace L3
open č Ĕ ł ď L2
def XX(P:à)(w:ß)(K:Ï)(a:Ç->É Value)(È:Heap)(c m:Ç)(ps:Á Ç)(k:Ä)(sp:Sp):Æ:=
 ∃(C f:Ë) (fd:ĝ),Ē K õ c=À š/\vK K C/\Xb K C m f/\xN K fd ps []/\yT P w K a È ęa k f fd ps sp
def XX.quiet{P:à}{w:ß}{K:Ï}{a:Ç->É Value}{È:Heap}{c m:Ç}{ps:Á Ç}{k:Ä}{F:FX}(h:XX P w K a È c m ps k (qc K a F)):wn P w K a È c m ps k (xJ K (jj F)):=by let{C,f,g,n,c,d,b,e}:=h;show{C,f,g,n,c,d,b,Ao e λi H Q E z=>y1n z}
def V9(K:Ï)(a:Ç->É Value)(c y:Ç)(b:Ò):Æ:=∃C B,Ē K õ c=À š/\a y=À Èc/\vK K C/\ů K ú åb=À Ñc/\
 Îd K Îb ĳf=À ŏf/\ði K Îb=À Ã/\Ųb K C Ϫb=À Ã/\ç K ú Èc=À b
nonrec def gF(c:Ç)(b:Ò):D->É D
 |.obj x _ _=>match decide (x=c)with
  |Ã=>À ób|Å=>Â
 |_=>Â
def A8(f:xj):xj:=λβ=>(ϴ).bind λr=>match r.1 with
 |.tp Ã ms=>(O5 ms).bind λa=>À (.fz Ņc,r.2)|_=>Â
section
variable{X:Cx}{k j:Ä}{c y m:Ç}{b:Ò}{e o:Ñ}{es:Á Ñ}{F:FX}{fo:FE}{fs:FA}{ps:Á Ç}{p p1 pos ž:Pos}{pl:Sem Ò}{f:xj}
def e5(h:V9 X.K â c y b)(s:Gl X ăa)(l:â ăa=Â)(j:Gl X y)(L:SE X e fo)(m:Ì ϥ q12)(i:Ì ńg q10) :SE X Ĩg (e1 (gF c b) fo):=by
 let{C,B,I,O,P,F,z,n,w,o}:=h;let{t,N,k}:=L.h;refine{{_,(Yo o_ s l OD (gP {N} (Κb (GJ (v:=.ref B) {.ref B,O,rfl} j i)) m) Û Û Œl).h,λ{Z W G H τ σ d Q} E f q=>?_}};let{u,A,f}:=zC f;show k E A λv G' S x r=>?_
 unfold gF at f
 rw[Łp];rename_i J T ds;cases hx:decide (J=c)with
 |Å=>rw[hx]at f;cases f|Ã=>rw[hx]at f;cases f;cases ı hx;let{a,C',U,Y,rfl,g,R,_,_}:=r;rw[I]at g;cases g;show{_,.ref C,B,b,rfl,.ins (ϸ _ _ R) P F z n w,o,q _ _ _ x rfl}
 cases f
def fE(B:ůa=X)(h:XX ì X.w X.K â Ĥ c m ps k ŭm)(hr:yG j X.A)(ho:SE X o fo)(J:SA X ă fs)(hk:Ì Ùa q10)(he:Ì Ϣ q12)(Z:Ċ Ïc Ó=(do
   let ov <-Ċ o Ó
   standAt ęb
   let (f,first) <-holding ýb Ôb
   ϒa pos f first ϖb ŵa):=by rfl):SX X Ïc (UH F Ţm):=by
 let{C,f,fd,ns,cl,me,b,FF}:=h;let{to,po,ko}:=ho.h;let{ta,pa,ka}:=J.h;let S:QA ůa ă ta:=by rw[B];show{pa}
 let L:QE ůa o to:=by rw[B];show{po}
 show{{_,y1p L cl me FF ąf b S he Z,λ{G0 H0 G H τ σ r Q E} K T q=>?_}};let{ds,hd,T}:=zC T;let{y,hy,i}:=zC (show(ěe).bind _=À ds from hd)
 split at i
 .rename_i x U ws
  split at i
  .rename_i R;rw[ć]at R;cases ı R.1
   let N:m ∉ U:=by let:=R.2;simpa using this
   let{P,O,i}:=zC i;cases i;show ko K hy λv G1 H1 n Y=>?_
   let{a,W,dx,us,rfl,u,J,l,rs}:=id Y;rw[ns]at u;cases u;show{a,dx,_,rfl,n.gh _ _ J,L4 N,ka (Ϝ n) O λvs G2 H2 s r2=>{G2,.obj _ U ws::P,r,(ϗn).gh,{_,vs,rfl,Y.mono s.g,r2},T,?_}};cases r with
   |inl od=>
    let{o,d}:=od;cases o with
    |Å=>show λv z t I rv=>q v z t žg rv|Ã=>show λp z t I hp gp o=>q p z t žg ((ϗn).h.free hp) gp o
   |inr w=>
    let{W,N,q}:=q;show{W,N,λz t I=>q z t žg}
  .cases i
 .cases i
def z3l(h:MC X e f):MC X e (A8 f):=by
 rw[Ñp];show{{t,p,λ{P z y G H β β' σ B Q} E a q=>?_}};obtain⟨⟨m,β1⟩,i,a⟩:=zC a;show k E i λv r d s b=>?_
 dsimp only at a
 rw[êp];rename_i w;let{A,e,a}:=zC a;cases a;let{x,F}:=b.own;let{u,c,p,j,rfl,n,o,l}:=ϛ ê _ (vo b.tN);rw[vo b.jy]at c;cases c;let g:=z9r e o;show q _ r d s ((b.down Ŵ).qt {p,j,rfl,ła n,g,by rw[mG e];show l});cases a
#print a
section
variable{P:à}{w:ß}{K:Ï}{mg:Ç->É Value}{È:Heap}{x ça:Ç}{st:Ô}{f:Ë}{fd:ĝ}{N ps:Á Ç}{k:Ä}{F:FX}{b:xw}
def xV.lS(d:xV K x ça st f fd)(P:à)(w:ß)(mg:Ç->É Value)(È:Heap)(k:Ä)(F:FX)(S:zh N ps ģ)(n:∀ds r,F ds=À r->ĉ=Ĉ/\jB Ū b ds=À r)(B:∀{c:Value}{A:è}{é:Á Env}{s:Í}{H:Hp}{E:XK},yG k (ıa (ļa ça ģ Ý f c))->k8 (jU P w K mg È N ça ģ f c A é s H E) E ź b)(Y:Ì Úd q10):yT P w K mg È ęa ĸ f fd ps ϔn:=by
 let{W,U,dV,kV,L,X,Z,c,T,v,rfl,J,i}:=d.ex;show Q5 J i S (λC H Q E h=>?_) λA é s H C Q E o h=>?_;let{G,ds,r,_,g,e,_}:=h;rw[Ęa,(n _ _ e).1];let{G,ds,r,O,g,e,q}:=h;let{l,a}:=n _ _ e;let{t,p,R}:=(B (E:=E) o).h;let{m,j,a}:=zC a;refine{t,p,R (Q0 (N:=N) O g Î) j ?_};cases m with
 |inr y=>cases a;show q|inl m=>
  cases m with
  |nx τ=>cases a;show λσ I u z=>q .zI I u Ķe rfl|rt o' d'=>
   cases a;cases o' with
   |Å=>show q|Ã=>show q
  |bk _=>cases a|ct _=>cases a
#print a
#print L3
namespace L2
open č Ĕ ł ď
def y6i{N:Á Ç}{vs:Á V}{i:Ä}{v:V}(h:vs[i]?=À v):όa[i]?=À Ϗ:=by unfold ķe;rw[Òb (by rw[þ];show öa.1),Üa,h];rfl
#print L2
namespace L3
open č Ĕ ł ď L2
def YU(b:Á D->É ð):FM:=λa=>(b (ϊb a)).bind λr=>match r with
 |(Å,d)=>match tz d with
  |Ã=>À (a,.fz d)|Å=>Â
 |_=>Â
section
variable{K:Ï}{G H:Hp}{vs:Á V}{Q:VK}{E:XK}
def y2j:∀{ds:Á D}{vs:Á V},ĉ=ø->(∀(i:Ä)(d:D)(v:V),ds[i]?=À d->vs[i]?=À v->zT K G d v)->å K G ds vs:=λ{ds}=>by
 induction ds with
 |nil=>intro vs l _;cases Ŭe l.symm;rfl|î d ds ih=>
  intro vs l h;cases vs with
  |nil=>cases l|î v vs=>show{v,vs,rfl,h 0 d v rfl rfl,ih Ēe λi c e a b=>h ē c e a b}
def y87:∀{ms:Á M}{i:Ä}{d:D},šb[i]?=À d->∃m,ms[i]?=À m/\d=vH m:=λ{ms}=>by
 induction ms with
 |nil=>intro i d h;cases h|î m ms ih=>
  intro i d h;cases i with
  |ſ=>cases h;show{m,rfl,rfl}|ϊ i=>show ih h
def mH:∀ms:Á M,pW ěn=À ms:=λms=>by
 induction ms with
 |nil=>rfl|î m ms ih=>exact(pW ěn).bind _=_;rw[ih];rfl
def oW{l:Á D->É ð}(h:yY K (YU l) vs H Q E):xJ K l vs H Q E:=by
 let{G,c,L,p,R,s,o,F,e,q}:=h;obtain⟨⟨w,d⟩,P,e⟩:=zC e;cases w with
 |Ã=>cases e|Å=>
  dsimp only at e
  rw[Ũp];rename_i n;cases e;let f:=ľa;let z:=ET (N:=ıd λ_ => "") s o F (by rw[þ];show ϔ _);let{u,g,ϯ}:=z.tQ;let O:ıd À++Ů ((ıd λ_=>("" : Ç)).length-Ϻa) (Â:É M)=ıd À:=by rw[þ,ēb,List.replicate_zero,ŏ]
  rw[O]at g ϯ;refine{u,ϊb c,Å,d,g.ext.gh,y2j (by rw[JG,f]) λi T v a b=>?_,P,λv A j x r=>?_};let{m,I,rfl}:=y87 a
  let:(tG (ıd À))[i]?=À (À (Å,vH m)):=by unfold tG;rw[Üa,Üa,I];rfl
  let{S,e1,r}:=g.fr i _ this;let e2:=y6i (N:=ıd λ_=>("" : Ç)) b;rw[e2]at e1;cases e1;show r;let{C,U,k,t,_}:=ϯ A j x;let{J,B,y}:=Qc (k.qt (t d v n r)) čk (by rw[ąc čk];show mH c);show q v C j J k.ext B y;cases e
#print a
section
variable{P:à}{w:ß}{K:Ï}{mg:Ç->É Value}{È:Heap}{k:Ä}{x:Ç}{ps:Á Ç}
def aD{a:Á D->É ð}(h:xE P w K mg È x ps k (xJ K a)):xE P w K mg È x ps k (yY K (YU a)):=by let{f,e,g,d,b,c}:=h;show{f,e,g,d,b,c.imp λi H Q E z=>oW z}
#print a
def L7(i:Ä)(π:Á xA)(f:FE):yC:=λβ=>(ģc).bind λa=>match a with
 |.own êb=>(Æg).bind λy=>match y with
  |.lst ys=>match decide (ĉ+ş<=yc)with
   |Ã=>(ιb (.own (Δ (ds++ys)))).bind λβ'=>À Âp|Å=>Â
  |_=>Â
 |_=>Â
section
variable{X:Cx}{i np:Ä}{π:Á xA}{o e:Ñ}{f:FE}{ž Ų pos:Pos}
def bP(ho:SP X o i π)(Z:SE X e f)(g:Ì (Ōa o Ĵi Ó Ϭd=Ċ o Ó) q12)(j:Ì Ņa q12)(A:Ì ϥ q12)(hc:Ì (p8 Ák=Ã) q12) :MS X np (.Expr Ák pos) (L7 i π f):=by
 let{to,po,U}:=ho.h;let{t,p,k}:=(zB Z zH A).h;refine{{_,(Lf (Qs Ŏd ľk Ļk z47 {po} {p} g j ϴg œd) hc).h,λ{P G0 H0 G H β σ fl E} hP K d q=>?_}};let{nd,C,d}:=zC d
 rw[îp];rename_i ds;let{y,Y,d}:=zC d
 rw[îp];rename_i u
 rw[îp];rw[ϗp];let{β2,I,d}:=zC d;cases d;let{mm,L,ha}:=jf C;let{r,a,T,N,R,e0}:=K.seen C;refine U N R {.inl {rfl,T,ła e0},k ūc (ds:=[.lst u]) (by unfold zA;rw[Y];rfl) λus G1 H1 x r1=>?_};let{v,rfl,J}:=qZ r1;let K1:=(Ďe).qt J;let{b,w,rfl,sq,B,_}:=J;let{r',v1,L1,Lr,m,n,{a',rfl,{s,ev,O,l},Q},_,_,wr}:=K1.write Űa L ha;rw[N]at m;cases m;cases(R.mono x.h).one n;let S:(ds++u).length<=á:=by rw[Ľ,ï];show ı c
 let{m',W,K2}:=wr (H':=upd H1 a (Δ (s++w))) (m2:=.own (Δ (ds++u))) (L2:=λq=>q=a) (Ξb (Q q)) {a,rfl,{s++w,yE,O.append B,S},λ_=>ğa} λq z=>.inl ((Q q).mpr z)
 rw[Vr L W]at I;cases I;show{a,b,s,w,rfl,rfl,ev,wv ϸ sq,by rw[O.length,Ŀc,<-ï];show S,q _ _ _ K2};cases d;cases d;cases d
#print a
def vy(K:Ï)(n:Ä)(P:Á V)(d a G H:Hp)(β:zb)(σ:St)(i:Ä)(fl:V->V->Á V)(b c:M):Æ:=
 ∃(p:Ë) (v0 v1:V) (L0 L1:Ft) (H1:Hp),zc K n P d H1 G H β σ/\yb K G H b v0 L0/\yb K G H c v1 L1/\(∀q,L0 q->L1 q->í)/\(∀q,ϗl->G q=Â/\a q=Â/\H1 q=H q)/\(∀q,¬ ϗl->H1 q=a q)/\
  ¬ L0 p/\¬ L1 p/\H p=À Ýh/\β[i]?=À Â/\σ[i]?=À īc
section
variable{K:Ï}{n:Ä}{P:Á V}{G0 H0 G H G' H':Hp}{β:zb}{σ:St}{i:Ä}{fl:V->V->Á V}{m0 m1 m:M}{v:V}{Lm:Ft}
def vy.flip(h:vy K n P G0 H0 G H β σ i fl m0 m1):vy K n P G0 H0 G H β σ i (λa b=>fl b a) m1 m0:=by let{p,j,c,g,o,t,E,e,v,u,m,f,k,s,l,r,d}:=h;show{p,c,j,o,g,t,E,v,e,λq a b=>u q b a,λq z=>m q ?_,λq z=>f q λw=>z ?_,s,k,l,r,d};rcases z with z|z|z;show .inr Ċa;show .inl z;show .inr ĳa;rcases w with w|w|w;show .inr Óc;rw[ĥp];show .inr ĕb
def vy.env(h:vy K n P G0 H0 G H β σ i fl m0 m1):zi K n G H G H ϸa σ:=by let{p,e,a,b,c,d,E,_}:=h;show E.uV
theorem vy.go(h:vy K n P G0 H0 G H β σ i fl m0 m1)(x:zK G H G' H'):vy K n P G0 H0 G' H' β σ i fl m0 m1:=by
 let{p,m,k,f,j,C,E,o,s,F,y,v,w,B,r,A,t}:=h
 let d:∀q,(f q\/j q\/q=p)->Bx H q:=λq z=>by rcases z with z|z|z;show Ϝf m0 m f q z;show s.cells m1 k j q z;subst z;show{_,r,rfl}
 let l:∀q,Bx H q->H' q=H q:=λq ⟨u,e,_⟩=>by rw[e];show x.h _ _ e
 show{p,m,k,f,j,C,Ϯ x,Şc x.g m0 m f λq z=>l q (d q Ċa),s.loc x.g m1 k j λq z=>l q (d q Īf),F,λq z=>?_,v,w,B,x.h _ _ r,A,t};let{a,b,c}:=y q z;show{(Xk x a çc).1,b,ϳa (l q çc).symm}
def vy.put(h:vy K n P G0 H0 G H β σ i fl m0 m1)(x:zK G H G' H')(om:yb K G' H' m v Lm)(s:∀q,Lm q->G' q=Â/\H q=Â):∃p v0 v1,σ[i]?=À īc/\H' p=À Ýh/\vy K n P G0 H0 G' Ŧm β σ i fl m m1:=by
 classical
 let{p,v0,v1,f,d,H1,E,o0,X,dj,l,A,n0,R,C,hb,S}:=h
 let J:∀q,ϯc->Bx H q:=λq z=>by rcases z with z|z|z;show o0.cells m0 v0 f q z;show X.cells m1 v1 d q z;subst z;show{_,C,rfl}
 let U:∀q,Bx H q->H' q=H q:=λq ⟨u,e,_⟩=>by rw[e];show x.h _ _ e
 let t:∀q,ϯc->G' q=Â:=λq z=>(Xk x (l q z).1 (J q z)).1
 let O:H' p=À Ýh:=x.h _ _ C
 let L:∀q,Lm q->q≠p:=λq z w=>by subst w;rw[Ĭb.2]at C;cases C
 let N:∀q,Lm q->¬ d q:=λq z w=>(J q (.inr Óc)).some Ĭb.2
 let +zeta H2:Hp:=λq=>if q=p then À ſg else if Lm q\/d q then H' q else H0 q
 let e1:H2 p=À ſg:=Ö rfl
 let e2:∀q,q≠p->ϝh->H2 q=H' q:=λq a b=>by exact ŝj=_;rw[Ø a,Ö b]
 let I:∀q,q≠p->¬ ϝh->H2 q=H0 q:=λq a b=>by exact ŝj=_;rw[Ø a,Ø b]
 let k:∀q,q≠p->Ŧm q=H' q:=λq z=>zr z
 let h0:∀q o,H0 q=À o->H' q=À o/\q≠p:=λq o z=>by
  let r:¬ ϯc:=λw=>by rw[Őc.2.1]at z;cases z
  show{x.h _ _ (ιd (A q r)),λw=>r Æe}
 let{Q,F}:=ϡ
 let B:∀j q,Q j q->¬ ϯc:=λj q z w=>by let a:=Řb.2.1;rw[Őc.2.2]at a;show(J q w).some a
 let lm:∀j q,Q j q->¬ Lm q:=λj q z w=>Řb.2.2.some (s q w).2
 show⟨p,v0,v1,S,O,p,v,v1,Lm,d,H2,{{Ϲc x.g,λq o z=>?_,λq o z=>?_,λq z=>?_},į,ħ,Ŵ,Ûa,Q,λj T hj=>?_,ŭ,λj q z=>?_},om.loc įb m v Lm λq z=>k q Ùj,
  X.loc x.g m1 v1 d λq z=>(k q λw=>R Ϻf).trans (U q (J q Īf)),N,λq z=>?_,λq z=>I q (λw=>z Æe) λw=>z (ŕc .inl λc=>.inr (.inl c)),λz=>L p z rfl,R,yE,hb,S⟩
 rw[čp];rw[e1]at z;rw[<-z];show yE;rw[k q c];by_cases b:Lm q\/d q;rw[e2 q c b]at z;show z;rw[I q c b]at z;show(h0 q o z).1;let c:q≠p:=λw=>by rw[w,t p Åe]at z;cases z
 rw[k q c];show ϸ _ _ z;let c:q≠p:=λw=>z (by rw[w];show t p Åe)
 let b:¬ ϝh:=λw=>z (ŕc (λa=>(s q a).1) λa=>t q Ėo)
 rw[I q c b];rcases Ϟa q z with w|w;rcases Ϗa q w with w|w;rw[ĥp];show .inr ?_;by_cases y:f q;show Þ (t q (.inl y)) z;rw[<-A q λw=>ŕc y λw=>ŕc (λa=>b Ÿi) c];show w;show .inr ?_;cases e:H0 q with
 |Â=>rfl|À o=>
  let r:¬ ϯc:=λw=>by rw[Őc.2.1]at e;cases e
  let:=ôa _ _ ϝl;rw[w]at this;rw[ϛp]
 let{u,eu,ou}:=ϛ j T hj;show{u,eu,äj x.g T u _ λq z=>(k q λw=>B j q z Æe).trans (U q Řb.2.2)};let{a,b,c}:=Ϸ j q z;let W:q≠p:=λw=>B j q z Æe
 let{Y,Z}:=Xk x a c;show{Y,?_,?_};rw[I q W λw=>ŕc (lm j q z) λa=>B j q z Ėo,<-A q Ĥi];show b;let{u,hu,cu}:=Z;show{u,(k q W).trans hu,cu};rcases z with z|z|z;show{Ĭb.1,?_,(e2 q Ùj Ċa).trans (k q Ùj).symm};cases e:H0 q with
 |Â=>rfl|À o=>
  let r:¬ ϯc:=λw=>by rw[Őc.2.1]at e;cases e
  let:=ôa _ _ ϝl;rw[Ĭb.2]at this;rw[ϛp]
 let c:q≠p:=λw=>R Ϻf
 show{t q Īf,(l q Īf).2.1,(e2 q c ĳa).trans (k q c).symm};subst z;show{t q Åe,(l q Åe).2.1,e1.trans yE.symm}
theorem vy.new{d v1:V}{p:Ë}(hh:xy K n P G0 H0 G H β σ ϥf [d,v1])(O:H p=Â)(hi:i<n)(hP:ϖ<=i):vy K n P G0 H0 G řo (β.set i Â) Ĕh i όd m0 m1:=by
 let{L,B,E,{v0',r,C,Lr,er,oa,{v1',r',v,Lc,T,Z,{Y,nc},_,ub},J,u},a,b}:=hh;cases er;cases T;let f:∀q,Lr q↔v q:=λq=>(ub q).trans {λz=>Ę id λw=>Þ w (nc q),.inl}
 let s:∀q,L q↔C q\/v q:=λq=>(ϑ).trans {λz=>ñg id (f q).mp,λz=>ñg id (f q).mpr}
 let S:∀q,L q->Bx H q:=λq z=>((łe).mp z).elim (oa.cells m0 d C q) (Z.cells m1 v1 v q)
 let A:∀q,Bx H q->q≠p:=λq z w=>by subst w;show z.some O
 let m:∀q,q≠p->řo q=H q:=λq z=>zr z
 let t:∀q,q≠p->(upd B p Ϲg) q=B q:=λq z=>zr z
 let U:G p=Â:=ıh O;let R:¬ L p:=λz=>A p (S p z) rfl
 let W:B p=Â:=by
  cases e:B p with
  |Â=>rfl|À o=>have:=ôa _ _ e;rw[O]at this;cases this
 let{Ls,F}:=ϡ;let gs:∀{α:Type}{l:Á α}{j:Ä}{x:α},j≠i->l[j]?=(l.set i x)[j]?:=λ{α l j x} z=>(vd z).symm
 show⟨p,d,v1,C,v,upd B p Ϲg,{{Ŏc,λq o z=>?_,λq o z=>?_,λq z=>?_},by rw[Ϲp],by rw[ăp],Ŵ,λj w h=>?_,λj=>if j=i then Ġf else Ls j,λj X hj=>?_,λj k q I Q N=>?_,λj q z=>?_},
  oa.loc įb m0 d C λq z=>m q (A q (S q ((łe).mpr Ċa))),Z.loc įb m1 v1 v λq z=>m q (A q (S q (Μb (łe)))),λq x y=>J q x ((f q).mpr y),λq z=>?_,λq z=>?_,λz=>R ((s p).mpr Ċa),λz=>R (Μb (s p)),yE,jY (by rw[ħ];show hi),jY ŕd⟩
 rw[čp];rw[yE]at z ⊢;show z;rw[t q c]at z;rw[m q c];rw[Ϗp];let c:q≠p:=λw=>by rw[w,U]at z;cases z
 rw[m q c];show ŵ _ _ z;let c:q≠p:=λw=>z (by rw[w];show U)
 rw[t q c];show Ϗa q z;let hj:j<ϖ:=öa.1;rw[vd Î];show Ûa j w h;rcases wd hj with⟨rfl,z⟩|⟨I,z⟩;cases z;let{w,ew,ow}:=ϛ j X z;refine{w,by rw[vd I];show ew,?_};simp only[Ø I];show ow.loc įb X w _ λq z=>m q (A q Řb.2.2);split at Q;show Q;split at N;show N;show ŭ j k q I Q N;rw[ēp];show Ę;let{x,y,w}:=Ϸ j q z;let c:=A q w;let{uu,hu,cu}:=w;show{x,(t q c).trans y,uu,(Éj).trans hu,cu};rw[čp];show{U,?_,yE.trans yE.symm};rw[<-b q R];show W;let z:L q:=(łe).mpr (ñg id λz=>Ę id λw=>Þ w c);let{x,y,w}:=a q z;show{x,y,(t q c).trans (w.trans (Éj).symm)};let c:q≠p:=λw=>z Æe
 rw[t q c];show b q λw=>z (((łe).mp w).imp id .inl)
def vy.done(h:vy K n P G0 H0 G H β σ i όd m0 m1):∃G',zg G G'/\zc K n P G0 H0 G' H (Εa (.tp Ã ϥf)) σ:=by
 classical
 let{p,e,d,l,f,C,E,U,o1,dj,A,O,Q,n1,v,R,I}:=h;let{W,r,s}:=A p Åe;let k:zg G όe:=wP W _;let m:∀q,q≠p->όe q=G q:=λq z=>zr z
 let +zeta H2:Hp:=λq=>if q=p then Â else C q
 let e1:H2 p=Â:=Ö rfl;let e2:∀q,q≠p->H2 q=C q:=λq z=>Ø z
 let N:∀q,l q->q≠p:=λq z w=>Q Ϻf
 let Y:∀q,f q->q≠p:=λq z w=>n1 Ϻf
 let{t,F}:=ϡ
 let B:∀j q,t j q->q≠p:=λj q z w=>by let:=Řb.2.1;rw[w,s,v]at this;rw[ϛp]
 let L:zc K n P G0 H2 όe H β σ:=⟨⟨Ϲc k,λq o z=>by
  by_cases c:q=p;subst c;rw[e1]at z;cases z;rw[e2 q c]at z;show ôa _ _ z,λq o z=>by
  by_cases c:q=p;subst c;rw[yE]at z;rw[<-z];show v;rw[m q c]at z;show ŵ _ _ z,λq z=>by
  rw[čp];show .inr e1;rw[m q c]at z;rw[e2 q c];show Ϗa q z⟩,į,ħ,Ŵ,Ûa,t,λj u S=>by
  let{w,T,Z}:=ϛ j u S;show{w,T,Z.loc k u w _ λq z=>rfl},ŭ,λj q z=>by
  let{x,y,w}:=Ϸ j q z;show{(m q Ĥi).trans x,(e2 q Ĥi).trans y,w}⟩
 let X:xy K n P G0 H0 όe H β σ ([.fz .zI]++(ϥf++[])) ([.zI]++(Łe++[])):=⟨λq=>l q\/f q,H2,L,{.zI,_,λ_=>í,λq=>l q\/f q,rfl,{rfl,λ_ z=>z},{e,_,l,f,rfl,U.loc k m0 e l λq z=>rfl,{d,[],f,λ_=>í,rfl,o1.loc k m1 d f λq z=>rfl,{rfl,λ_ z=>z},λ_ _ z=>z,λq=>{.inl,λz=>Ę id ń}},dj,λq=>ğa},λ_ z=>Ę,λq=>{.inr,λz=>Ę ń id}},λq z=>by
  let c:q≠p:=Ę (N q) (Y q);let{x,y,w}:=A q (ñg id .inl);show{(Éj).trans x,y,(ßd).trans w},λq z=>by
  rw[čp];rw[e1,r];rw[e2 q c];show O q λw=>ŕc (λw=>z Óc) λw=>ŕc (λw=>z ĕb) c⟩
 let J:=((X.pack (a:=ϥf) (va:=Łe) (b:=[]) (vb:=[]) rfl yE (ĥa (n:=2) Û)).give I R).push;show{_,k,J.down Ŵ}
def vy.put2(k:Ò)(h:vy K n P G0 H0 G H β σ i όd m0 m1)(x:zK G H G' H')(d:yb K G' H' m v Lm)(e:∀q,Lm q->G' q=Â/\H q=Â):∃p v0 v1,σ[i]?=À īc/\H' p=À (.lst Ϥi)/\vy K n P G0 H0 G' (upd H' p (Δ ((Ϥi).set (bif k then 1 else 0) v))) β σ i όd (bif k then m0 else m) (bif k then m else m1):=by
 cases k with
 |Å=>let{p,v0,v1,a,b,c}:=h.put x d e;show{p,v0,v1,a,b,c}
 |Ã=>let{p,v1,v0,a,b,c}:=h.flip.put x d e;show{p,v0,v1,a,b,c.flip}
#print a
structure SN(X:Cx)(e:Ñ)(f:zw->É ð):Æ where
 h:∃t,PE X e t/\∀{G0 H0 G H:Hp}{τ:zw}{σ:St}{o:Ò}{d:D}{Q:VK},zi X.K ê G0 H0 G H τ σ->f τ=À (o,d)->(match o with
  |Å=>∀v G' H',zK G H G' H'->zT X.K G' d v->Q v H'
  |Ã=>∀p G' H',zK G H G' H'->H p=Â->G' p=Â->wC X.K G' H' d p->Q ύ H')->t σ H Q
nonrec def Tv(F:Á D->É ð)(a:FA):zw->É ð:=λτ=>(įe).bind F
nonrec def ww:Ò×D->M
 |(Ã,d)=>.own d|(Å,d)=>.fz d
structure Iv(X:Cx)(np i:Ä)(sts:Á Ô)(g:M->M->yC):Æ where
 h:∃t,wy X sts t/\∀{P:Á V}{G0 H0 G H:Hp}{β:zb}{σ:St}{fl:tW}{E:xv}{m0 m1:M},ϖ=np->vy X.K ê P G0 H0 G H β σ i όd m0 m1->g m0 m1 β=À fl->gv X.K ê P G0 H0 E fl->t E σ H
nonrec def aA(i:Ä)(g:yC):M->M->yC:=λa b β=>g (Εa (.tp Ã ķd))
def Og(k:Ò)(d:FT)(e:zw->É ð)(g:M->M->yC):M->M->yC:=λa c β=>(d ϸa).bind λb=>match b with
 |Ã=>(e ϸa).bind λr=>g (bif k then a else ww r) Ŋk β|Å=>g a c β
nonrec def L8(i:Ä)(fs:zb->É çb)(g:M->M->yC):yC:=λβ=>(Îj).bind λr=>match r.1 with
 | [m0,m1]=>g m0 m1 (r.2.set i Â)|_=>Â
section
variable{X:Cx}{np i j k:Ä}{x:Ç}{ps:Á Ç}{FF:Á D->É ð}{fs:FA}{fms:zb->É çb}{ft:FT}{fe:zw->É ð}{g:yC}{gh:M->M->yC}{e c kx ea eb:Ñ}{es:Á Ñ}{zY:Á Ô}{p xp sp ap ip lp pos:Pos}
def eK(h:xE ì X.w X.K â Ĥ x ps k ĩc)(l:yG j X.A)(y:Gl X x)(n:SA X ă fs)(hk:Ì Ùa q10)(b:Ì Ģ q10)(J:Ì Ϣ q12):SN X ċa (Tv FF fs):=by
 let{t,z,s}:=n.h;show{{_,Ql h l y z hk b J,λ{L N G H τ σ o d Q} E c q=>?_}};let{C,I,c}:=zC c;refine s E I λO u P a B=>{u,C,o,d,a.gh,by rw[ŏ];show B,c,?_}
 cases o with
 |Å=>show λv g f i r=>q v g f (þd i) r|Ã=>show λp g f i F m o=>q p g f (þd i) (Ŋi F) m o
def z3t(h:tZ X np zY g):Iv X np i zY (aA i g):=by rw[Ñp];show{{t,p,λ{P d j G H β σ f E e l} c K a q=>?_}};let{m,_,b}:=K.done;show k c b a q
def bF(b:Ò)(hi:X.N[i]?=À x)(hc:ST X c ft)(he:SN X e fe)(hk:SE X kx (eC Đo))(ho:QE X ía ðc)(hr:Iv X np i zY gh)(I:Ì (WG kx=Ã) q12)(W:Ì (ħh ϋe e ap.line Ó=pure Å) q12)(hw:Ì (Ĩh ϋe e Ó=pure Â) q12)(L:Ì ((Ϡd ϋe Ó).map (·.2)=[żb (.Subscript ía kx sp) Ó]) q12) :Iv X np i (.If c [.Assign ϋe e ap] [] ip::zY) (Og b ft fe gh):=by
 let{tc,pc,Z}:=hc.h;let{te,pe,ke}:=he.h;let{tk,pk,S}:=hk.h;let{tr,pr,R}:=hr.h;show{{_,j9 (Vp pc (Vq (cJ pe (cg ho {pk} eE I).h W hw L)) Ld) pr,λ{P G0 H0 G H β σ Y E m0 m1} O K f q=>?_}};let{bb,L,f}:=zC f;show Z K.env L λG1 Q T=>?_
 cases bb with
 |Å=>show ud (R O (Ϝ T) f q)|Ã=>
  show ue ?_;obtain⟨⟨o,d⟩,h2,f⟩:=zC f;let B:=Ϝ T
  obtain⟨n,a⟩:∃n,σ[i]?=À (À (.ref n)):=by let{n,_,_,_,_,_,_,_,_,_,_,_,_,_,_,_,a}:=B;show{n,a}
  let y:∀{v:V}{m:M}{Lm:Ft}{l r w s:Hp},zK G1 Q l r->zK l r w s->yb X.K w s m v Lm->(∀q,Lm q->w q=Â/\Q q=Â)->gh (bif b then m0 else m) (bif b then m else m1) β=À Y->dB (.ref n) Đo v s λH4=>tr E σ H4:=λ{v m Lm l r w s} k j F hm f=>by let{p,v0,v1,A,J,K2}:=B.put2 b (k.trans j) F hm;rw[a]at A;cases A;show{n,Ϥi,_,Ϗj,rfl,rfl,J,by cases b<;>rfl,R O K2 f q}
  show ke B.env h2 ?_;cases o with
  |Å=>intro v l r k rv;show{_,a,S (B.go k).env rfl λu w s j C=>?_};cases(show u=_ from C);show y (m:=.fz d) (Lm:=λ_=>í) k j {rv.mono j.g,λ_ z=>z} ān f|Ã=>intro t l r k hq gq U;show{_,a,S (B.go k).env rfl λu w s j C=>?_};cases(show u=_ from C);let F:yb X.K l r Ðe Çc (λq=>q=t):={t,rfl,U,λ_=>ğa};let bx:=F.cells Ðe _ _ t rfl;show y (m:=.own d) (Lm:=λq=>q=t) k j {t,rfl,U.mono j.g j.h,λ_=>ğa} (λq z=>z▸{(Xk j gq bx).1,hq}) f
def z41(r:Ϩ)(hi:X.N[i]?=À x)(v:uq ϟ x)(C:np<=i)(hv:ML X [ea,eb] fms)(j:Iv X np i zY gh)(g:Ì (p8 Şl=Ã) q12)(c:Ì Ĩa q7) :tZ X np (.Assign [.Name x xp] Şl ap::zY) (L8 i fms gh):=by
 let{t,z,s}:=ļb;let{O,k,o}:=j.h;show{{_,j9 (Qt r hi v {Ev z} g c).h k,λ{P L J G H β σ I E} y K c q=>?_}};obtain⟨⟨B,β1⟩,u,c⟩:=zC c;dsimp only at c
 split at c;rename_i F S;refine s K u λd A Q R w l=>{by rw[l];show ĥa (n:=2) Û,λp m=>?_}
 obtain⟨f,e,rfl⟩:∃f e,d=[f,e]:=us2 (P:=λd=>∃f e,d=[f,e]) (λa b=>{a,b,rfl}) d l;show o y (vy.new w m ŀa.1 Î) c q;cases c
#print a
def TC(K:Ï)(c y:Ç)(b:Ò):Æ:=∃C B,Ē K õ c=À š/\Ē K õ y=À ďi/\vK K C/\ů K ú åb=À Ñc/\
 Îd K Îb ĳf=À ŏf/\ði K Îb=À Ã/\Ųb K C Ϫb=À Ã/\ç K ú Èc=À b
nonrec def JW(f g:YD):YD:=λτ=>match f τ with
 |À d=>À d|Â=>g τ
section
variable{K:Ï}{w:ß}{mg:Ç->É Value}{h:Heap}{c d m q y:Ç}{st:Ô}{ps:Á Ç}{C B:Ë}{sp:Sp}{k:Ä}{b:Ò}
def isp_mk(n:Ē K õ c=À š)(f:Ē K õ y=À ďi)(a:vK K C)(d:ů K ú åb=À Ñc)(i:Îd K Îb ĳf=À ŏf)(g:ði K Îb=À Ã)(e:Ųb K C Ϫb=À Ã)(h:ç K ú Èc=À b):TC K c y b:={C,B,n,f,a,d,i,g,e,h}
def TC.hh(a:TC K c y b)(X:İ h)(G:üa õ mg):V9 K mg c y b:=by let{C,B,n,d,r}:=a;show{C,B,n,Ğa X G d,r}
def pT.hx(a:pT K c d m q st ps)(P:à)(w:ß)(mg:Ç->É Value)(È:Heap)(ok:∀{f fd},xV K m q st f fd->yT P w K mg È ęa k f fd ps sp):XX P w K mg È c m ps k sp/\XX P w K mg È d m ps k sp:=by rw[äp]
def y6r{X:Cx}{e:Ñ}{f g:YD}(a:SX X e f)(b:SX X e g):SX X e (JW f g):=by
 let{s,ps,j}:=a.h;let{t,i,d}:=b.h;show{{λσ H Q E=>s σ H Q E\/t σ H Q E,{λc z σ H Q E I h=>?_},λ{k l G H τ σ r Q E} K h q=>?_}};rcases h with h|h;show ps.h c z σ H Q E I h;show i.h c z σ H Q E I h;unfold JW at h;cases z:f τ with
 |À x=>rw[z]at h;cases h;show .inl (j K z q)|Â=>rw[z]at h;show .inr (d K h q)
#print a
#print L3
namespace L2
open č Ĕ ł ď
def SY(f:Obj->Obj):Æ:=∀o vs,Ϛ=.fields vs->∃vs',(f o).data=.fields vs'/\vs'[2]?=vs[2]?
theorem wx.push{e:Ë}{h:Heap}(x:wx e h)(o:Obj):wx e (Ùg o):=by let{d,f,a,b,c}:=x;show{d,f,Ġ _ a,b,c}
def wx.upd{e a:Ë}{h:Heap}{f:Obj->Obj}(x:wx e h)(u:SY f):wx e (h.update a f):=by let{i,l,g,b,c}:=x;by_cases z:a=e;subst z;let{j,d,k}:=u i l b;show{f i,j,ňb f g (ńd d),d,k.trans c};show{i,l,(ůc _ _ z).trans g,b,c}
def x2c{i:Ä}{v:Value}(h:i≠2):SY (őb (·.setIfInBounds i v)):=λo a e=>{_,ϊc e _,ļg h}
def sv:Ńi table ãm=À Builtin.«proto.unchain»:=entryFor_of_tree ÿh
section
variable{Ā:à}{w:ß}{A:è}{E:Value->Í->Æ}{s:Í}{a:Ë}
def x29{x:Value}{R:Ĵb->Í->Æ}(c:wx a Ü)(b:R ϻo s):ďa æ A (.builtin ãm {[x,.ref a,.ref a,.bool Å],[]}) R s:=by let{o,g,d,f,e}:=c;show Ăb sv ?_;exact Õ _ _ (øb ý 2 >>= _) _ _ s;show Ð (êa d f e ?_);show ċ b
def y2a{α:Type}{Q:α->Í->Æ}{e:Ë}{b:Obj}{vs:Ú Value}(i:Ĺa=À ý)(d:a≠e)(c:wx a Ü)(g:ö e=À b)(f:b.data=.fields vs)(hsz:2<vs.size)(h:E íb { s with ä:=Ϯb e (őb (·.setIfInBounds 2 ý)) }):Õ æ A (ķi íb:Sem α) Q E s:=by
 unfold ķi;show Ð Ŀl;rw[i]
 let nb:((ÿ a != ÿ e)=Ã):=by rw[bne_iff_ne];show λz=>d (ϙm z)
 dsimp only;rw[Ö nb];show Ð (ŉa (įm (x29 c ?_)));exact Õ _ _ (setField íb 2 ý >>= _) _ _ s;show Ð (ĉc g f hsz (Ńn h))
def z4r{it l:Ë}{i:Ä}{d:Ú Value}{Q:É Value->Í->Æ}(v:Ĺa=À ý)(c:wx a Ü)(h:ŧl it l i)(F:çf l d)(t:d[i]?=Â)(y:∀h',ώh it Ü h'->Q Â { s with ä:=h' }):Õ æ A ÿi Q E s:=by
 let{o,k,L,j}:=id h;let{J,n,_,H,p}:=F
 let G:a≠it:=λz=>by let{I,K,g,r,u}:=c;rw[z,k]at g;cases g;rw[j]at r;cases r;cases u
 unfold Ăe;show Ð (Şd (Āc (Į:=Ŋb ϸd) h.typeIs ğl (Ňb ğl h.typeIs entry_listiter_next ?_ (args_listiter_next _))));exact Õ _ _ (øb Ĳa 0 >>= _) _ _ s;show Ð (êa k j (x:=.ref l) rfl ?_);exact Õ _ _ (ιa ûn) _ _ s;rw[Ø (show ¬ (ûn=Ã)from ŀ)];exact Õ _ _ (øb Ĳa 1 >>= _) _ _ s;show Ð (êa k j (x:=.int i 0) rfl ?_);exact Õ _ _ (seqItems? (.ref l) >>= _) _ _ s;show Ð (Źa n p ?_);simp only[Īa,t];refine Ð (Ĉc (Ð (ĉc k j ü ?_)));exact Õ _ _ (Õg Ϭn [] >>= _) _ _ _;show Ð ?_;rw[øp];let q:=(c.upd (a:=it) (f:=őb (·.setIfInBounds 0 Įa)) (x2c Û)).push { cls:=.type Œ,Č:=.seq ([]:Á Value).toArray };show y2a (a:=a) v ?_ ïo řb rfl (by exact 2<6;decide) ?_;let{_,_,g,_}:=q;show Ŕ ϳf;show Ð (ūg (T := ϛc) (b:=Ã) {_,ňb _ řb rfl,rfl} ŀm ?_);let x:=((Ϟg Ü it (őb (·.setIfInBounds 0 Įa))).extBut.push { cls:=.type Œ,Č:=.seq ([]:Á Value).toArray });show ċ (y _ λb B C e=>?_);let e1:=x b B C e;rw[ůc _ _ (ϋa (Ğ e1))];show Ġ _ e1
def wx.at_{h h':Heap}(c:wx a h)(k:∀o,Ć a=À o->ė a=À o):wx a h':=by let{o,b,g,r}:=c;show{o,b,k o g,r}
def x4f(t:Ĺa=À ý)(I k:Ë)(q:k≠I)(p:a≠I)(c:Ú Value) :ĵd Ā w A I [I,k,a] [I] Ĩe (λi v=>c[i]?=À v) (λi h=>ùf I k i/\ľi k c/\wx a h) where
 sub:=λb f=>by simp at f;simp[f]
 frame:=λ_ _ _ st l=>{st.1.at λo e=>l I ü o e,st.2.1.at λo e=>l k ü o e,st.2.2.at_ λo e=>l a ü o e}
 Ůa:=λi s Q E r st j=>by
  refine Ņg st.1 st.2.1 (x:=c[i]) ĩn λm g d=>?_
  show j _ m ě ĩn {g,st.2.1.extBut öd q,st.2.2.at_ λo e=>öd a o p e} λb o f e=>öd b o Ϣk e
 done:=λs Q E st j=>z4r t st.2.2 st.1 st.2.1 ü λm n=>j m ě λb o f e=>n b o Ϣk e
 úb:=λ_ _ _ _ st j=>ϒk st.1 j
#print a
nonrec def uv(bs:Ä->Ò):Ä->Ä
 |0=>0|j+1=>uv bs j+ŋk
def rT(bs:Ä->Ò):∀j,uv bs j<=j:=λj=>by
 induction j with
 |ſ=>show ϔ _|ϊ j ih=>exact uv bs j+ŋk<=j+1;cases bs j;show Ϟc ih;show Đc ih
section
variable{Ā:à}{w:ß}{A:è}{R:Ĵb->Í->Æ}{I:Ë}{fp wr:Á Ë}{n:Ä}{P:Ä->Value->Æ}{St:Ä->Heap->Æ}
def y6p(W:ĵd Ā w ľ I fp wr n P St)(bs:Ä->Ò)(hv:∀i v,P i v->v=.bool (bs i))(L:n<=1000)(S:Ë)(u:S ∉ fp) :∀(k i:Ä)(s:Í)(tA:Tok)(c:Ä),i+k=n->St i Ü->ö S=À { cls:=.type Ĝ,dict:=Â,Č:=.seq #[.int (uv bs i:Ê) tA] c,ϋb:=#[] }->
  (∀h' tk t',(∀b o,b ∉ wr->b≠S->ö b=À o->ė b=À o)->R (.ok (.ret Ŧk)) { s with ä:=h',Ě:=tk })->
  ďa æ A (.builtin "sum.loop" {[.ref I,.ref S,Æb 0,Æb 0],[]}) R s:=by
 let E:S ∉ wr:=λh=>u Ϝh
 intro k
 induction k with
 |ſ=>
  intro i s tA c r f g m;obtain rfl:i=n:=r;rw[ìp];show Ð (Ϟb (ïj s _ _ f λh' tk a=>?_));show ċ (m h' tk tA λb o x _ e=>a b o x e)
 |ϊ k ih=>
  intro i s tA c r f g m;let l:i<n:=by omega
  rw[ìp];show Ð (Ϟb (Þg i s _ _ l f λv h' tk K j a=>?_));cases hv i v K;let t:=a S _ E g
  obtain⟨d,G,Q,O,e1⟩:∃d:Ê,(if bs i=Ã then(1:Ê)else 0)=d/\0<=d/\d<=1/\(uv bs i:Ê)+d=(uv bs ē:Ê):=by let e:(uv bs ē:Ê)=((uv bs i+(bif bs i then 1 else 0):Ä):Ê):=rfl;rw[e];cases bs i;show{0,rfl,by decide,by decide,by simp};show{1,rfl,by decide,by decide,by simp}
  let N:=rT bs ē
  let C:((decide (-Űi<=d)&&decide (d<2 ^ 63))&&(decide (-Űi<=(uv bs i:Ê)+d)&&decide ((uv bs i:Ê)+d<2 ^ 63)))=Ã:=by rw[e1];simp only[ć,ũl];show{{by omega,by omega},by omega,by omega}
  exact Õ _ ľ (if(_:Ò)=Ã then(mkInt ((uv bs i:Ê)+(if bs i=Ã then 1 else 0)) >>= _)else _) _ _ _;rw[G]
  split
  case isFalse z=>show Þ C z
  rw[e1];show Ð (ńn ?_);exact Õ _ ľ (ηb (λ_=>#[.int (uv bs ē:Ê) tk])) _ _ _;show Ð ?_;refine ϑc t rfl (ċ {ϡb ſe _,ih ē _ tk _ Î (Ϝi _ _ _ j λb H o e=>?_) (ňb _ t rfl) λJ p B q=>?_})
  .show(ι (λh:S=b=>u (by rw[h];show H))).trans e
  .show m J p B λb o x y e=>q b o x y ((ι (Ľa y)).trans (a b o x e))
#print a
section
variable{Ā:à}{w:ß}{A:è}{E:Value->Í->Æ}{s:Í}
def y6o{x:Value}{Q:Value->Í->Æ}(h:Õ æ ľ (Ġd x) (λit s2=>∃(I:Ë) (a d:Á Ë) (n:Ä) (P:Ä->Value->Æ) (St:Ä->Heap->Æ) (bs:Ä->Ò),it=.ref I/\ĵd Ā w ľ I a d n P St/\St 0 s2.heap/\(∀b∈a,b<Ēc)/\(∀i v,P i v->v=.bool (bs i))/\n<=1000/\
   ∀h' tk t',(∀b o,b ∉ d->õf b=À o->ė b=À o)->Q Ŧk { s2 with ä:=h',Ě:=tk }) E s):Õ æ A (Ħa Ŷd [x]) Q E s:=by
 let c:∀{T:Ż}{tk:Tok}{s':Í}{Q':Ò->Í->Æ},æi įa ėa=pure Å->Q' Å s'->Õ æ ľ (Ão (.int 0 tk) ėa) Q' E s':=λe q=>ūg (T := ĺb) (b:=Å) (Àf _ _ _) e q
 show call_function_tree F.kind_sum F.plain_sum F.entry_sum (F.args_sum1 _) ?_;unfold Builtin.«sum»;simp only[Ĩ,ϝc];rw[Ø Û];show Ð (ϰe (show ŏg žb ["start"] 0 { }=pure [Â]from rfl) ?_);show Ð (υd (λit s2 t=>?_));let{I,a,d,n,P,St,bs,rfl,W,f,g,p,k,l}:=t;show Ð (ńn Żo);simp only[Êf,čh];show Ð (Δc (c PySem.sub_int_str ?_));simp only[Òa,ŕ];show ċ (Δc (c PySem.sub_int_bytes ?_));simp only[Òa,ŕ];show ċ (Δc (c PySem.sub_int_bytearray ?_));simp only[Òa,ŕ];show ċ (χ (ÿb ?_));let r:Ēc ∉ a:=λm=>Ïb _ (g _ m)
 show ċ {ϡb ſe _,y6p W bs p k Ēc r n 0 _ s2.toks 0 (œa n) ϩj řb λh' tk t' j=>?_};show l h' tk t' λb o x e=>j b o x Öe Øe
#print a
def rV(bs:Á Ò):uv ϑg âd=ĵo id:=by
 let a:∀j,j<=âd->uv ϑg j=(bs.take j).countP id:=λj=>by
  induction j with
  |ſ=>intro _;rfl|ϊ j ih=>
   intro b;exact uv _ j+_=_;let g:ϙi j Å=bs[j]:=by rw[Ñb,ļ Î];rfl
   rw[ih Î,Ře Î,List.countP_append];exact _+(bif ϙi j Å then 1 else 0)=_;rw[g];cases bs[j]<;>rfl
 rw[a _ ğ,Ųd]
theorem x2h{bs:Á Ò}{its:Á Value}(r:zk Ϙd its){i:Ä}{v:Value}(h:ϲ[i]?=À v):v=.bool Āh:=by
 induction bs generalizing its i with
 |nil=>cases r;cases h|î b bs ih=>
  cases r with
  |î x r=>
   cases i with
   |ſ=>cases h;show x|ϊ i=>show ih r Øb
def rM{X:Cx}{a:Ë}(G:æb=À ý):wM X Ŷd (λxs H Q=>∃(p:Ë) (bs:Á Ò) (φ:Heap->Æ),xs=Òc/\yQ X.K H p Ϙd/\âd<=1000/\H a=À Èp/\(∀h,φ h->wx a h)/\Q (.int ((ĵo id:Ä):Ê)) H):=by
 intro T s σ H xs O Q I r h;let{p,bs,φ,rfl,J,B,F,y,q}:=h;let{u,rfl,E}:=vg r;cases E;let{N,_}:=(show yj ì X.w H Ü a Èp from Ď a _ F);let t:wx a Ü:=y _ N;show y6o ?_;let{c,m,g,R}:=ű J;let x:âd=ϲc:=by let:=ée;rw[þ]at this;rw[đ];show this
 let f:p<Ý:=by let{o,n,e,_}:=g;show Ğ e
 let d:a<Ý:=by let{o,P,e,_}:=t;show Ğ e
 show Ąc g.isList ?_;refine{_,_,_,_,_,_,λi=>ϙi i Å,rfl,x4f (A:=X.A.in1) (a:=a) (by show G) Ý p (Ŕ f) (Ŕ d) ád,{{_,ť _ rfl,rfl,rfl},g.isList.push _,t.push _},?_,λi v C=>x2h m C,Ĳ (àb x.symm) B,?_};intro b l;exact b<(Ϸi).objs.size;rw[ßb];simp only[Ŕa,Óa,ša]at l;rcases l with rfl|rfl|rfl;show Āb _;show Ōb f;show Ōb d;intro S L t' k;rw[<-x,rV]
 show⟨.int _,H,íc (t':=L) λb o j=>k b o (λz=>by
  rw[Ėp]
  rw[this]at j;show Þ (Ğ j) Åa) Ŷo,{_,rfl},q⟩
#print L2
namespace L3
open č Ĕ ł ď L2
abbrev YB:=Hp->Hp->St->Æ
structure VB(X:Cx)(C:YB)(e:Ñ)(f:FE):Æ where
 h:∃t,PE X e t/\∀{G0 H0 G H:Hp}{τ:zw}{σ:St}{d:D}{Q:VK},zi X.K ê G0 H0 G H τ σ->C H0 H σ->f τ=À d->(∀v G' H',zK G H G' H'->zT X.K G' d v->Q v H')->t σ H Q
structure TQ(X:Cx)(C:YB)(e:Ñ)(f:FT):Æ where
 h:∃t,PT X e t/\∀{G0 H0 G H:Hp}{τ:zw}{σ:St}{d:Ò}{Q:Ò->Hp->Æ},zi X.K ê G0 H0 G H τ σ->C H0 H σ->f τ=À d->(∀G' H',zK G H G' H'->Q d H')->t σ H Q
structure k7(X:Cx)(C:YB)(st:Á Ô)(f:FS):Æ where
 h:∃t,wy X st t/\∀{G0 H0 G H:Hp}{τ:zw}{σ:St}{fl:Fl}{E:xv},zi X.K ê G0 H0 G H τ σ->C H0 H σ->f τ=À fl->wb X.K ê G0 H0 E fl->t E σ H
nonrec def W_(X:Cx):YB:=λb _ _=>∃a C,æb=À ý/\b a=À Ϫa
nonrec def IN(i:Ä)(a:Ë):YB:=λ_ H σ=>σ[i]?=À ϳm/\∃C,H a=À Ϫa
nonrec def OC:Á D->É Źo
 | []=>À []|.bl b::r=>(OC r).bind λa=>À (b::a)|_=>Â
def Al:Á D->É D
 | [.lst xs]=>(OC xs).bind λa=>match decide űn with
  |Ã=>À (.int ((a.countP id:Ä):Ê))|Å=>Â
 |_=>Â
def U5(K:Ï)(F:Á D->É ð):É Value->Sp:=λc b H Q E=>(∃a C,c=À ý/\b=Ãa/\H a=À Ϫa)/\xJ K F b H Q E
def y2i{K:Ï}{G:Hp}:∀{ds:Á D}{bs:Á Ò}{vs:Á V},OC ds=À bs->å K G ds vs->vs=ìj V.bl:=λ{ds}=>by
 induction ds with
 |nil=>intro bs vs h r;cases h;show r|î d ds ih=>
  intro bs vs h r;let{v,f,rfl,c,a}:=r;cases d<;>first|(cases h;done)|skip
  let{b,e,h}:=zC h;cases h;cases c;rw[ih e a];rfl
section
variable{X:Cx}{C:YB}{x n g:Ç}{p pos:Pos}{e a b c:Ñ}{zY:Á Ñ}{f fa fb:FE}{ft fu:FT}{F:D->D->É D}{r:R2}{op:Ċg}{st:Ô}{sts sa sb:Á Ô}{g1 g2 g3:FS}{i j k:Ä}
def y4k(u:Gl X žb)(P:â žb=Â)(hv:Ś žb=À Ŷd)(N:SB X e f)(n:Ì ϥ q12):VB X ĳe (θa (.Name žb p)) (eL Al (zA f zF)):=by
 let{t,S,R}:=N.h;by_cases i:∃a,æb=À ý
 .let{a,i}:=i;refine{{_,(Yo (rM i) u P hv (gP {S} WH n) Û Û ϳg).h,λ{K x G H τ σ d Q} E c b q=>?_}};let{k,C,g,m}:=c;rw[i]at g;cases g;let{W,j,b}:=zC b;let{y,F,j}:=zC (show(ìg).bind _=À W from j);cases j;show R E F λv Y H1 r U=>?_
  cases y<;>first|(cases b;done)|skip
  rename_i L;let{l,B,b}:=zC (show(OC L).bind _=À d from b);cases hl:decide (Ϲa<=1000)with
  |Å=>rw[hl]at b;cases b|Ã=>rw[hl]at b;cases b;let{p,Z,rfl,O,s,_}:=U;cases y2i B s;show{p,l,_,rfl,O,ı hl,r.h _ _ (ôa _ _ m),λh ⟨o,T,I,_,J,w⟩=>{o,T,I,J,w},q _ _ _ r rfl}
 show{{λ_ _ _=>í,λ_ _ _ _ _ _ z=>Ę,λ{K x G H τ σ d Q} E c b q=>by let{k,C,g,m}:=c;show i {k,g}}}
def f9(H:ya X Ři r)(i:g_ X.K r F)(m:VB X C a fa)(B:SB X b fb)(s:ϲb op b=Å):TQ X C ŝg (tE Ϥd):=by
 let{O,A,j}:=m.h;let{I,t,o}:=B.h;show{{_,G9 H A t s,λE c e q=>?_}};let{z,d,e}:=zC e;let{x,l,d}:=zC d;let{y,G,d}:=zC d;show j E c l λv L N f w=>?_
 show o Ϫi G λu J p g n=>?_
 let{k,rfl,z}:=i p x y v u _ _ ((w.mono f.gh).mono g.h) n d;cases e;show z {_,rfl,q _ _ (ìe g)}
def y6k(i:TQ X C a ft)(n:SW X Àd fu):TQ X C çd îo:=by
 let{v,m,f}:=i.h;let{p,l,j}:=n.h;show{{_,(GB m l).pt,λE c d q=>?_}};let{k,g,d}:=zC d;show f E c g λs t e=>?_
 cases k with
 |Å=>show ud (j Ĕd d λu r o=>q _ _ (Áb o))|Ã=>cases d;show ue (q _ _ e)
def y6e(u:TQ X C c ft)(y:vY X sa g1)(t:vY X sb g2)(j:vY X sts g3):k7 X C (.If c sa sb pos::sts) (zt Ϻm g3):=by
 let{Q,x,r}:=u.h;let{R,F,v}:=y.h;let{L,B,m}:=t.h;let{I,A,p}:=j.h;show{{_,j9 (Vp x F B) A,λ{w s G H τ σ P E} K n a q=>?_}};let{g,b,a}:=zC a;let{k,l,b}:=zC b;show r K n l λO S i=>?_
 let f:wb X.K ê w s { E with nx:=λσ' e=>I E σ' e } g:=by
  cases g with
  |nx τ'=>show λσ' T e J=>p J a q|bk τ'=>cases a;show q|ct τ'=>cases a;show q|rt o d=>cases a;show Įb q ō ō ō rfl
 cases k with
 |Ã=>show ue (v ĕd b f)|Å=>show ud (m ĕd b f)
def y6f(o:TQ X C c ft)(g:vY X sa g1)(n:vY X sb g2):k7 X C [.If c sa sb pos] Ϻm:=by
 let{v,e,l}:=o.h;let{y,m,d}:=g.h;let{s,p,i}:=n.h;show{{_,Vq (Vp e m p),λ{r w G H τ σ u E} K j a q=>?_}};let{k,f,a}:=zC a;show l K j f λt x b=>?_
 cases k with
 |Ã=>show ue Ϡn|Å=>show ud (i ÿe a q)
def e_(b:SS X st g1)(j:k7 X ĳe sts g2):k7 X ĳe Ĝi (zt g1 g2):=by
 rw[Ōp];let{u,f,g}:=j.h;show{{_,j9 p f,λ{l s G H τ σ r E} K c a q=>?_}};let{e,b,a}:=zC a;show k K b ?_;cases e with
 |nx τ'=>show λσ' m n i=>g i c a q|bk τ'=>cases a;show q|ct τ'=>cases a;show q|rt o d=>cases a;show Įb q ō ō ō rfl
def y6d(i:Ä)(h:k7 X ĳe sts g1):k7 X ĳe sts (zt (WL i) g1):=by
 rw[Ñp];show{{t,p,λ{j o G H τ σ n E} K c b q=>?_}};let{m,a,b}:=zC b;unfold WL at a
 rw[êp];rename_i g d e;cases a;let{l,f,_}:=K.freeze e;show k f c b q;cases a
#print a
structure RO(P:à)(w:ß)(K:Ï)(mg:Ç->É Value)(È:Heap)(k:Ä)(f:Ë)(fd:ĝ)(ps:Á Ç)(sp:É Value->Sp):Æ where
 len:∀hd vs H Q E,sp hd vs H Q E->ø=Ĉ
 run:∀(A:è)(é:Á Env)(s:Í)(H:Hp)(ų:Args)(us:Á Value)(vs:Á V)(Q:VK)(E:XK),qL k A->g6 P w K mg È A é s H->Ġa s fd ų Ŝb->zk vs us->sp Ĺa vs H Q E->
  ďa Řa A Ħm (CR yo é P w H s Q E) s
def Il(P:à)(w:ß)(K:Ï)(a:Ç->É Value)(È:Heap)(x:Ç)(ps:Á Ç)(k:Ä)(sp:É Value->Sp):Æ:=
 ∃(f:Ë) (fd:ĝ),a x=À Đ/\ϕ K Đ=Ã/\xN K fd ps []/\RO P w K a È k f fd ps sp
def z0c{P:à}{w:ß}{K:Ï}{F:Ç->É Value}{È:Heap}{k:Ä}{f:Ë}{Į c:Ç}{g:øi}{h:Á Ô}{a:ϭ}{dV kV B Y d ct oc:Value}{Z od:É Ë}{G:Ú ĉa}{N ps:Á Ç}{sp:É Value->Sp}(lk:Ÿ f=À {oc,od,.func ϳj,G})(L:ϓa K d c=Ã)(S:zh N ps a)(m:∀hd vs H Q E,sp hd vs H Q E->ø=Ĉ)(j:∀(A:è)(é:Á Env)(s:Í)(H:Hp)(vs:Á V)(Q:VK)(E:XK),qL k šo->sp Ĺa vs H Q E->
   ∃t,wy İg h t/\t { nx:=λ_ H'=>Q .zI H',rt:=Q } όa H) :
  RO P w K F È ĸ f ϳj ps sp:=by
 show{m,λA é s H ų us vs Q E X C hb r z=>?_};let hl:=m _ _ _ _ _ z;let KX:İ Ü:=Ōm λb o e=>ćf.1
 let O:ĵm:=öl λb o e=>ćf.1
 let i:∀y∈ãj us,čb y.1=À .local\/ĳj:=λ⟨n,v⟩ hy=>by rcases S.par n (Éf hy).1 with q|q;rw[Śp]
 show ϓk X.depth ϧn rfl S.co S.gen rfl (ín KX L) Ēm;show Æk ñj i λenv he R x=>?_
 subst he;show{O.keeps ém,ên ?_};let{t,ht,hq}:=j A é s H vs Q E (X.deeper _) z;let I0:zD (u3 yo P w K F È N c a f d { A with handled:=Â } é s H E) [] όa H R:=aM S rfl C.calm hl r x;let I:zD İg [] όa H R:=I0.IL (A:=ıa Ýk) rfl _;show ϋ (ht [] R όa H _ I hq) (λfl U l=>?_) λe U l=>l.elim
 let p:∀{σ':St}{H':Hp}{v:V}{u:Value},zD İg [] σ' H' U->zu v u->Q v H'->CE é P w H s Q u U:=
  λ{σ' H' v u} J T q=>{v,H',J.os,J.bare,J.base,J.zU,T,q}
 cases fl with
 |ret u=>
  let{v,σ',H',J,T,q}:=l;show p J T q
 |next=>
  rw[ıp]
 |brk=>
  rw[ĝp]
 |ýa=>
  rw[ĝp]
section
variable{P:à}{w:ß}{K:Ï}{mg:Ç->É Value}{È:Heap}{x:Ç}{st:Ô}{N ps:Á Ç}{k:Ä}{F:Á D->É ð}{b:FS}
def Def.lT(d:Def K mg x st ps)(S:zh N ps ģ)(hN:Ĉ<=Ū)(y:∀ds r,F ds=À r->ĉ=Ĉ/\vF Ū b ds=À r)(U:∀(f:Ë)(g:Value)(A:è)(é:Á Env)(s:Í)(H:Hp)(E:XK),qL k (ıa (ļa x ģ Ý f g))->k7 Ÿj (W_ Ÿj) ź b):Il P w K mg È x ps ĸ (U5 K F):=by
 let{f,fd,u,hm,m}:=d;let{oc,od,kV,Y,pm,an,g,ctv,J,rfl,X,j}:=u.ex;show{f,_,hm,u.kp,m,z0c X j S (λv T H Q E h=>?_) λA é s H T Q E B h=>?_};let{_,G,ds,o,r,_,i,e,_}:=h;rw[ŭb,(y _ _ e).1];obtain⟨⟨a,C,v,R,O⟩,G,ds,o,d,Z,i,e,q⟩:=h;let{l,c}:=y _ _ e;let{t,p,kt}:=(U f g A é s H E B).h;let{L,n,c}:=zC c;refine{t,p,kt (Q0 (N:=N) Z i Î) {a,C,v,O} n ?_};cases L with
 |nx τ=>cases c;show λσ W I z=>q .zI W I Ķe rfl|rt o' d'=>
  cases c;cases o with
  |Å=>show q|Ã=>show q
 |bk _=>cases c|ct _=>cases c
#print a
section
variable{X:Cx}{C:YB}{i j k np:Ä}{g x y z n:Ç}{p gp gc mp rp np' Ũc øc:Pos}{e:Ñ}{ps:Á Ç}{FF:Á D->É ð}{C0 B D':Ë}{fe:FE}{fsx:xw}{gs:FS}{ff:vB}{ńa suite:Á Ô}{b₀:Ô}
def eA{a:Ë}(h:Il ì X.w X.K â Ĥ g ps k (U5 X.K FF))(hh:æb=À ý)(Z:qL j X.A)(hg:Gl X g)(hv:QE X (.Name n mp) ðc)(hk:Ì Ùa q10)(B:Ì ((g==(ľn : Ç))=Å) q10) :VB X Ϗf όj (za FF (Α ãg)):=by
 let{f,fd,hm,kp,b,F}:=h
 let pe:QE X όj (UD (U5 X.K FF æb) [] E0 (WU ðc gT)):=by
  show{λz0 s σ H Q I q=>?_};show ϙb (ZY I hg hm ?_ B);show Ϲb (h₀:=Ĥ) Ác kp (zn ((gP hv WH rfl).h gc z0 s σ H _ I q) λl T ⟨S,Y,z,r,q1⟩=>{z.ye,?_}) (vS rfl) (qe rfl);let x:U5 X.K FF æb S Y Q E0:=by simpa only [ŏ]using q1
  have hl:Ϲa=Ĉ:=by rw[<-ŷ];show šc _ _ _ _ _ x
  let N:(l++[]).length=Ĉ:=by rw[ŏ];show hl
  let R:=b T l z.ye N;rw[ŏ]at R;show Ϥc (Ϥb (Šc X.A ķ T Y {l,[]} l S Q E0 (Z.mono hk) z.Us R r x) λr s' t=>?_);cases r with
  |şc e=>show ń t|ok fl=>
   cases fl with
   |ret u=>show z.after t|next=>show ń t|brk=>show ń t|ýa=>show ń t
 show{{_,pe.h,λ{G0 H0 G H τ σ d Q} E c m q=>?_}};let{O,C,hC}:=c;let{ds,J,m}:=zC m;obtain⟨⟨o,d'⟩,hF,m⟩:=zC m;cases m;let{y,hy,J}:=zC (show(z7 i τ).bind _=À ds from J);cases J;let{v,e1,rv}:=űa _ _ (OJ hy);rw[O]at e1;cases e1;show{_,O,{a,C,hh,rfl,hC},G,[y],o,d',ŵ,{_,[],rfl,rv,rfl},hF,?_};cases o with
 |Å=>show λv U P L r=>q v U P L r|Ã=>intro p U P L hp gp o;let{u,hu,r}:=ŧc gp;show q _ _ _ (L.zz hp gp hu) r
nonrec def y7i(K:Ï)(n:Ä)(C:YB)(g:FS):TS:=λa σ H=>∃G0 H0 G τ fl,zi K n G0 H0 G H τ σ/\C H0 H σ/\g τ=À fl/\wb K n G0 H0 a fl
def k7.lG{a:Á Ô}(h:k7 X C a gs):O1 X a (y7i X.K ê C gs):=by rw[Ñp];show{λd s σ H F I q=>?_};let{e,g,G,τ,f,K,c,b,q}:=q;show p d s σ H F I (k K c b q)
def y6a(g:ķ=Ó::Ťa)(f:Ϫd=À ő)(l:Ìb=[])(E:yG j X.A)(U:â x=À ķc)(m:Gl X x)(hz:â z=À ϵd)(p:Ē X.K õ z=À żo)(S:Ŀa X.K ϵd ķc=À Ã)(J:Ϩ)(hi:X.N[i]?=À n)(R:Íb n=À .local)(L:SQ X ńa fsx)(C:∀a,k7 Çd Ϗf ϗd gs)(e:Ì Ģ q10) :SS X (.Try ńa [.ExceptHandler Ăl Ϸf ϗd Ũc] [] [] øc) (Lk i z fsx gs):=by
 let{t,Z,T}:=L.h;show{{_,cN g f l E.hd U m J hi R Z (λa=>(C a).lG) e,λ{Q I G H τ σ u En} K b q=>?_}};let{r,P,k}:=zC b;clear b;show T K P ?_;cases r with
 |inl c=>cases k;show q|inr w=>
  let b:Q1 i z gs τ w=À u:=k;clear k;unfold Q1 at b;cases hw:decide (w=z)with
  |Å=>rw[hw]at b;cases b|Ã=>
   rw[hw]at b;let F:=ı hw;subst F;let{c,s,b}:=zC (show(gs (τ.set i (À (Å,.exc w)))).bind _=À u from b);show{C0,hz,λG2 H2 B=>{C0,rfl,S,λa O=>?_}};let y:=(Ϝ B).go (Äb (o:=.ext (tS a C0)) B.gh O);let Y:=y.set (i:=i) (d:=.exc w) (v:=.ref a) ŀa.1 {a,C0,rfl,p,yE};refine{Q,I,_,_,c,Y,{jY (by rw[y.l1];show ŀa.1),C0,yE},s,?_};cases c with
   |rt o d=>
    cases b;cases o with
    |Å=>show q|Ã=>show q
   |nx τ'=>cases b;show λσ' G' H' K'=>q _ _ _ (K'.gone i)|bk _=>cases b|ct _=>cases b
nonrec def fJ(K:Ï)(n np i:Ä)(a:Ë)(f:yC):TS:=λb σ H=>∃P G0 H0 G β fl,ϖ=np/\zc K n P G0 H0 G H β σ/\(σ[i]?=À ϳm/\∃C,H a=À Ϫa)/\f β=À fl/\gv K n P G0 H0 b fl
def VB.ret{a:Ë}(h:VB X Ϗf e fe):O1 X Æl (fJ X.K ê np i a (t4 ϸf)):=by rw[Ñp];show{λj s σ H F I q=>?_};let{P,l,y,G,β,w,u,K,c,f,q}:=q;obtain⟨⟨m,β1⟩,b,f⟩:=zC f;cases f;let{d,g,b}:=zC b;cases b;show Vq (Qn p) j s σ H F I (k ūc c g λv n o x r=>q _ v _ _ ((Ďe).qt r))
def z43(E:ķ=Ó::Ťa)(u:Ϫd=À ő)(F:Ìb=[])(U:yG j X.A)(hD:â x=À ķc)(J:Gl X x)(hy:â y=À Èc)(ys:Ē X.K õ y=À ďi)(ym:Ŀa X.K Èc ķc=À Ã)(hz:â z=À ϵd)(g:Ē X.K õ z=À żo)(I:Ŀa X.K ϵd ķc=À Ã)(hN:Ϩ)(hi:X.N[i]?=À n)(hx:Íb n=À .local)(hn:np<=i)(hb:TF X np ńa ff)(T:∀a,VB Çd Ϗf e fe)(s:Ì Ģ q10) :MS X np (.Try ńa [.ExceptHandler Ăl Ϸf Æl Ũc] [] [] øc) (Yd i y z ff (t4 ϸf)):=by
 let{t,pt,kt}:=hb.h;show{{_,cN E u F U.hd hD J hN hi hx pt (λa=>(T a).ret (np:=np)) s,λ{P G0 H0 G H β σ Z p} R K b q=>?_}};let{r,h1,b}:=zC b;show kt R K h1 ?_
 let l:∀{C:Ë}{z w:Ç},â z=À ú->Ē X.K õ z=À š->Ŀa X.K ú ķc=À Ã->kI i z (t4 ϸf) β w=À Z->vz â G H (λcv _ S=>∃C,cv=.ref C/\Ŀa X.K ú ķc=À Ã/\∀a,S a=Â->fJ X.K ê np i a (t4 ϸf) { nx:=λσ2 k=>p.nx Ϯc k,rt:=p.rt,bk:=λσ2 k=>p.bk Ϯc k,ct:=λσ2 k=>p.ct Ϯc k } Řm (upd S a Ϫa)) w:=λ{C z w} hz g I b=>by
  unfold kI at b;cases hw:decide (w=z)with
  |Å=>rw[hw]at b;cases b|Ã=>
   rw[hw]at b;let Y:=ı hw;subst Y;let{f,L,b}:=zC b;show{C,hz,λG2 k Q=>{C,rfl,I,λa na=>?_}};let O:=(Ϝ Q).go (Äb (o:=.ext (tS a C)) Q.gh na);let K3:=O.Uw (i:=i) (d:=.exc w) (v:=.ref a) ŀa.1 Î {a,C,rfl,g,yE};refine{P,G0,H0,_,_,f,R,K3,{jY (by rw[O.l1];show ŀa.1),C,yE},L,?_};cases f with
   |rt m β'=>cases b;show q|nx _=>cases b|bk _=>cases b|ct _=>cases b
 cases r with
 |inl f=>cases b;show q|inr w=>
  dsimp only at b;cases c:decide (w=y)with
  |Ã=>rw[c]at b;show l hy ys ym b|Å=>rw[c]at b;show l hz g I b
#print a
#print L3
namespace L2
open č Ĕ ł ď
section
variable{κ:Ōi}{ky:Ù->Ê}{I:Ù->Æ}
nonrec def yO(ky:Ù->Ê)(x:Ú Ù)(i:Ä):Ê:=match x[i]? with
 |À p=>ky p|Â=>0
def U4(I:Ù->Æ)(x:Ú Ù):Æ:=∀(i:Ä) p,x[i]?=À p->I p
def uR(ky:Ù->Ê)(x:Ú Ù)(l n:Ä):Æ:=∀i j,i<=j->j<n->yO ky x (l+i)<=yO ky x (l+j)
def y5l(ky:Ù->Ê)(x:Ú Ù):Æ:=∀i j,i<ĕ->j<ĕ->yO ky x i=yO ky x j->i=j
structure TR(Ā:à)(w:ß)(A:è)(E:Value->Í->Æ)(s:Í)(κ:Ōi)(ky:Ù->Ê)(I:Ù->Æ):Æ where
 lt:∀(p q:Ù)(st:û)(Q:É Ò->û->Æ),Ħe st=κ->I p->I q->ky p≠ky q->Q (Ρa (ky p<ky q)) st->wpS æ A E s Ϙo Q st
def J7{x y:Ú Ù}{i j:Ä}(h:x[i]?=y[j]?):yO ky x i=yO ky y j:=by unfold yO;rw[h]
theorem y5n{xs:Ú Ù}{i j:Ä}(a:j<=xs.size)(k:Ä):yO ky (çj xs i j ((j-i)/2)) k=if i<=k/\k<j then yO ky xs (i+j-1-k)else yO ky xs k:=by let e:=ĺg (i:=i) a k;by_cases h1:i<=k/\k<j;rw[Ŕp];show J7 e
def y5m{xs:Ú Ù}{a d:Ä}(b:a<xs.size)(c:d<=a)(k:Ä):yO ky (Ĝd xs a d) k=if k=a-d then yO ky xs a else if a-d<k/\k<=a then yO ky xs (k-1)else yO ky xs k:=by let e:=getElem?_bubble b d c k;by_cases h1:k=a-d;rw[Ŕp];by_cases h2:a-d<k/\k<=a;rw[Ö h2]at e ⊢;show J7 e;rw[Ø h2]at e ⊢;show J7 e
def Kd{x y:Ú Ù}(h:(Ŵf).Nodup)(p:ϙ x):y5l ky y:=by let c:(ōh ky).Nodup:=((þc p).map ky).nodup_iff.mpr h;intro i j b a e;unfold yO at e;rw[getElem?_pos y i b,getElem?_pos y j a]at e;show(Ãf (i:=i) (j:=j) (h₀:=by rw[þ,ŧ];show b) (h₁:=by rw[þ,ŧ];show a) c).mp (by rw[ėc,ėc,ąb,ąb];show e)
def y5r{x:Ú Ù}{l n:Ä}(h:uR ky x l n)(c:n=0\/yO ky x (l+n-1)<=yO ky x (l+n)):uR ky x l ŋ:=by
 rw[ćp]
 rw[ßp]
def eT{x y:Ú Ù}(h:U4 I x)(p:ϙ x):U4 I y:=by rw[Ŝp]
section
variable{Ā:à}{w:ß}{A:è}{E:Value->Í->Æ}{s:Í}
def U6{x:Ú Ù}{i j p f g}{Q:É Ò->û->Æ}(L:TR Ā w A E s κ ky I)(d:U4 I x)(hi:i<ĕ)(e:j<ĕ)(a:yO ky x i≠yO ky x j)(h:Q (Ρa (yO ky x i<yO ky x j)) Őb):wpS æ A E s Ϙn Q Őb:=by let b:x[i]?=À x[i]:=getElem?_pos x i hi;let c:x[j]?=À x[j]:=getElem?_pos x j e;rw[ltAt'_eq];show ã (Θb (v4 b (ã (v4 c (L.lt _ _ _ _ rfl (d _ _ b) (d _ _ c) ?_ ?_)))));unfold yO at a;rw[b,c]at a;show a;unfold yO at h;rw[b,c]at h;show h
def eR{x:Ú Ù}{a lo n p f g}{F:Ä->É ťb×Ä->ņ û Sem Ìl}{R:É ťb×Ä->û->Æ}(l:1<=a)(b:a<=n)(e:uR ky x lo a)(j:∀y m Q,1<=m->m<n->(yO ky x ϙa<yO ky x Àb->Q ĥm Őb)->(¬ yO ky x ϙa<yO ky x Àb->Q śl Őb)->wpS æ A E s Øn Q Őb)(h:∀m,a<=m->m<=n->uR ky x lo m->(m=n\/yO ky x ϙa<yO ky x Àb)->R (Â,m) Őb):wpS æ A E s Ϟk R Őb:=by show Ŷa (I:=λy c st=>st=wQ κ x p f g/\c=(Â,y)/\uR ky x lo y) ?_ ?_ {rfl,rfl,e};rw[Ϫp];show j _ _ _ Î k ĉk λc=>{rfl,rfl,y5r d ĕo};rw[ęp]
def y5p{x:Ú Ù}{lo n p f g}{Q:É Ä->û->Æ}(L:TR Ā w A E s κ ky I)(r:U4 I x)(H:(Ŵf).Nodup)(R:lo+n=ĕ)(K:1<=n)(h:∀m y,ϙ x->(∀k,k<lo->y[k]?=x[k]?)->1<=m->m<=n->uR ky y lo m->Q ϔa čm):wpS æ A E s Óo Q Őb:=by
 let o:=Kd H (ŝe x);unfold œh;refine ã (eR (ky:=ky) (lo:=lo) (ϔ 1) K ŗj ?_ ?_);intro y m Q a b z v;refine ã Őj;by_cases c:yO ky x ϙa<yO ky x Àb;rw[āp];intro m a b q c;show yi (λe=>ñ (h m x đe Ϣd a b q)) λe=>?_
 replace c:=ϖg ňa
 rw[ϟp]
 show yi ϋo λe=>?_;refine ã (U6 L r Î Î (λc=>Þ (o _ _ Î Î c) Ŗg) ?_)
 let:yO ky x lo<yO ky x Àb:=by let B:=q 0 (m-1) Î Ŗg;rw[show lo+(m-1)=lo+m-1 by omega,śh]at B;let C:=o lo Àb Î Î;dsimp only at e;omega
 simp only[this,Ĉa,ĭ];show ñ (h m x đe Ϣd a Î q);rw[Ŭp]
 show ã Ël;show ã (ε (Ŷa (I:=λy c st=>st=wQ κ x p f g/\c=(Â,y,0)/\∀i j,i<=j->j<y->yO ky x ĭe<=yO ky x Æa) (Q:=λc st=>st=wQ κ x p f g/\∃m,c=(Â,m,0)/\2<=m/\m<=n/\∀i j,i<=j->j<m->yO ky x ĭe<=yO ky x Æa) ?_ ?_ {rfl,rfl,?_}));rintro y _ _ C J ⟨rfl,rfl,d⟩;refine ã (U6 L r ŉb ŉb (λc=>Þ (o _ _ ŉb ŉb c) ŉb) ?_);by_cases c:yO ky x Ĩd<yO ky x Ćd;simp only[c,Ĉa,ĭ];show ñ {rfl,rfl,λi j t l=>?_};by_cases e:j<y;show d i j t e;obtain rfl:j=y:=by omega
 by_cases e2:i=j;rw[àp];refine ã Őj
 let:yO ky x Ćd<yO ky x Ĩd:=by let S:=o Ćd Ĩd Î Î;omega
 simp only[this,Ĉa,ĭ];show ñ {rfl,y,rfl,by omega,by omega,d};rintro _ _ ⟨rfl,rfl,d⟩;rw[Ϧc Î]at d ⊢;show{rfl,n,rfl,by omega,by omega,d};intro i j t l;by_cases e2:i=j;rw[e2];show Öa _;rw[show i=0 by omega,show j=1 by omega];show áa c;rintro _ _ ⟨rfl,m,rfl,C,J,d⟩;let F:∀k,yO ky ϔb k=_:=λk=>y5n Î k
 refine ã (νd (eR (ky:=ky) (x:=çj x lo ϙa Þn) (lo:=lo) ŉb J ?_ ?_ ?_));intro i j t l;dsimp only at l;rw[F,F,Ö Î,Ö Î];let:=d Èj (m-1-i) (ϛg t _) űj;rw[LH (ĩa t l),LH l];show this;intro y u Q a b z v;let G:(ϔb).Perm x:=éh _ _ _ _;show ã (U6 L ?_ ŵc ŵc (λc=>Þ (Kd H G _ _ ŵc ŵc c) Î) ?_);intro i p O;let{N,B}:=Ōd ((þc G).mem_iff.mp (Żc (žc O)));show r N p (by rw[<-Ÿa];show B);by_cases c:yO ky ϔb (lo+u)<yO ky ϔb (lo+u-1);rw[āp];intro u a b q _;show ñ (h u _ Ϫm (λk P=>?_) Ġk b q);rw[ĺg Î,Ø Î]
#print a
section
variable{Ā:à}{w:ß}{A:è}{E:Value->Í->Æ}{s:Í}
def y5o{x:Ú Ù}{lo n ok p f g}{Q:Ò->û->Æ}(L:TR Ā w A E s κ ky I)(hx:U4 I x)(hN:(Ŵf).Nodup)(hn:lo+n<=ĕ)(zU:ok<=n)(d:uR ky x lo ok)(h:∀y,ϙ x->(∀k,k<lo->y[k]?=x[k]?)->uR ky y lo n->Q Ã čm):wpS æ A E s ϧm Q Őb:=by
 unfold êh;show ã (ε (Ŷa (I:=λk c st=>c=(Â,())/\∃y,st=wQ κ y p f g/\ϙ x/\(∀k,k<lo->y[k]?=x[k]?)/\(k<=n->uR ky y lo k)) (Q:=λc st=>c=(Â,())/\∃y,st=wQ κ y p f g/\ϙ x/\(∀k,k<lo->y[k]?=x[k]?)/\uR ky y lo n) ?_ ?_ {rfl,x,rfl,ŝe _,λ_ _=>rfl,λ_ i j a b=>?_}));rintro k _ _ hk S ⟨rfl,y,rfl,q,H,d⟩
 replace d:=d (Àa S)
 let hy:=eT hx q;let G:lo+k<êc:=by let:=q.size_eq;omega
 let Y:∀j,j<=k->lo+j<êc:=λj hj=>ĩa Űn G
 show ã (JT (Q:=λc st=>st=wQ κ y p f g/\∃l r,c=(Â,l,r)/\l<=k/\(∀i,i<l->yO ky y Æa<=yO ky y ùa)/\∀i,l<=i->i<k->yO ky y ùa<yO ky y Æa) (λz c=>∃l r,c=(Â,l,r)/\l<=r/\r<=k/\r+z<=k+l/\(∀i,i<l->yO ky y Æa<=yO ky y ùa)/\∀i,r<=i->i<k->yO ky y ùa<yO ky y Æa) {0,k,rfl,ϱ _,ϔ _,ϔ _,λi N=>Þ N ϧg,λi a b=>Þ b Ϭi} ?_ ?_ ?_);rintro z _ hz ⟨l,r,rfl,U,o,g3,B,C⟩;show yi Ùe λc=>?_;cases ŏb U c;show ñ {rfl,l,l,rfl,o,B,C};let{P,K}:=bG Ŝd;dsimp only;generalize (l+r)/2=m at P K ⊢
 replace P:l<=m:=P
 replace K:m<r:=K
 let O:=Ŧ K o;refine ã (U6 L hy G Òn (λc=>Þ (Kd hN q _ _ G Òn c) Î) ?_);by_cases c2:yO ky y ùa<yO ky y ϙa;simp only[c2,Ĉa,ĭ];show ñ {rfl,l,_,rfl,P,Àa O,by omega,B,λi v T=>Ĭl c2 (d _ _ v T)};simp only[c2,ϸb,Òa,ŕ];show ñ {rfl,_,r,rfl,K,o,by omega,λi v=>Ϻb (d i m (Ăc v) O) (ϥb c2),C};rintro _ ⟨l,r,rfl,U,o,g3,B,C⟩;cases ŏb U Î;show{rfl,l,l,rfl,o,B,C};rintro _ _ ⟨rfl,l,r,rfl,o,B,C⟩;let e:lo+k-ěc=lo+l:=ϭl Ùo;show ã (Ρ (ñ {rfl,Ĝd y ùa ěc,rfl,(Ēl).trans q,λi N=>?_,λ_=>?_}));let z:=Ŧ N Ûo;rw[<-H i N,getElem?_bubble G _ Üb,e,Ø (Ŕ z),Ø λc=>ýf z c.1];let F:∀i,yO ky Ăm i=_:=y5m G Üb;generalize Ĝd y ùa ěc=b at F;rw[e]at F;let R:∀i,i<l->yO ky b Æa=yO ky y Æa:=λi a=>by rw[ūp]
 let X:yO ky b (lo+l)=yO ky y ùa:=by rw[F,Ö rfl]
 let W:∀i,l<=i->i<k->yO ky b (lo+ē)=yO ky y Æa:=λi a c=>by rw[F,Ø Î,Ö Î];rfl
 intro i j v T;rcases ϱe j l with z|rfl|z;rw[R i (ĩa v z),R j z];show d i j v ŵo;rcases ħl v with z|rfl;rw[R i z,X];show B i z;show Öa _;obtain⟨j,rfl⟩:∃t,j=t+1:={j-1,by omega};let J:=Ŭk T;rw[W j ϭf J];rcases ϱe i l with u|rfl|u;rw[R i u];show d i j Î J;rw[X];show áa (C j ϭf J);obtain⟨i,rfl⟩:∃t,i=t+1:={i-1,by omega};let Z:=ŭk v;rw[W i (Ăc u) (ĩa Z J)];show d i j Z J;rintro _ _ ⟨rfl,y,rfl,q,H,d⟩;show{rfl,y,rfl,q,H,?_};by_cases e:n=0;intro i j a b;omega;rw[Ϧc Î]at d;show d ğ;by_cases e:ok=0;rw[show i=j by omega];show Öa _;show d i j a Î;rintro _ _ ⟨rfl,y,rfl,q,H,d⟩;show ñ (h y q H d)
#print a
section
variable{Ā:à}{w:ß}{A:è}{E:Value->Í->Æ}{s:Í}{x:Ú Ù}
def y5s{g:Ä}{Q:èa->û->Æ}(L:TR Ā w A E s κ ky I)(F:U4 I x)(B:(Ŵf).Nodup)(U:1<=ĕ)(u:ĕ<64)(h:∀y q g,ϙ x->uR ky y 0 ĕ->Q () (wQ κ y q Â g)):wpS æ A E s Ķf Q (wQ κ x #[] Â g):=by
 let a:ϝf ĕ ĕ 0=ĕ:=by
  obtain⟨f,P⟩:∃f,ĕ=f+1:={ĕ-1,by omega};let:ϝf (f+1) ĕ 0=ĕ:=by rw[minRun'_succ,Ö u];rfl
  rw[<-P]at this;show this
 unfold Ķf;rw[ϐp];show ã (ε (Ŷa (I:=λz c st=>z=0/\c=(Â,0)/\st=wQ κ x #[] Â g\/1<=z/\c=(Â,ĕ)/\∃q y,ĳb<=1/\st=wQ κ y q Â g/\ϙ x/\uR ky y 0 ĕ) (Q:=λc st=>c.1=Â/\∃q y,ĳb<=1/\st=wQ κ y q Â g/\ϙ x/\uR ky y 0 ĕ) ?_ ?_ (.inl {rfl,rfl,rfl})));rintro z _ _ _ K (⟨rfl,rfl,rfl⟩|⟨o,rfl,q,y,j,rfl,d,b⟩);refine yi (λc=>Þ (show 0≥ĕ from c) Î) λc=>?_
 refine ã (y5p (lo:=0) (n:=ĕ-0) L F B Î Î λm O i _ T N t=>?_)
 let C:∀(k:Ä)(v:Ä->Ä->Ä)(y:Ú Ù),k=ĕ->ϙ x->uR ky y 0 ĕ->wpS æ A E s (Ki ĕ 0 k v) (λr st=>qd Ĵj ĝj r) (wQ κ y #[] Â g):=λk v y e S H=>by subst e;rw[ϐp];exact wpS _ _ _ _ (M8 0 ĕ) _ _;show ã (Ρ (ñ (.inr {ϔ _,?_,#[(0,ĕ,0)],y,ϔ _,rfl,S,H})));exact(Â,0+ĕ)=_;rw[œa]
 show űc (Q:=λr st=>qd Ĵj ĝj r) ?_ λr st h=>by cases r<;>show h
 let o:=i.size_eq;show yi (λl=>ã (ω (y5o (lo:=0) (n:=min æo śg) (ok:=m) L (eT F i) ?_ ?_ ?_ t λJ R _ G=>yi Äm λ_=>C (min æo śg) _ J ?_ (R.trans i) ?_))) λl=>C _ _ O ?_ i ?_;show((þc i).map ky).nodup_iff.mpr B;omega;show Ûf {N,Àa l};rw[a];omega;rw[a,show min (ĕ-0) ĕ=ĕ by omega]at G;show G;rw[ϓp];omega;rw[ϓp];rw[show m=ĕ by omega]at t;show t;show yi (λc=>ñ {rfl,q,y,j,rfl,d,b}) λc=>Þ (ϔ ĕ) c;rintro _ _ (⟨z,rfl,rfl⟩|⟨_,rfl,q,y,j,rfl,d,b⟩);rw[ûf]at z;show Þ z (by exact ¬ ĕ=0;omega);show{rfl,q,y,j,rfl,d,b};rintro⟨_,lo⟩ _ ⟨rfl,q,y,j,rfl,d,b⟩;show ã (ε (Ŷa (I:=λz c st=>c=(Â,())/\st=wQ κ y q Â g) (Q:=λc st=>c=(Â,())/\st=wQ κ y q Â g) ?_ ?_ {rfl,rfl}));rintro z _ _ _ K ⟨rfl,rfl⟩;show ã (ĺd (yi (λc=>ñ {rfl,rfl}) λc=>Þ j c));rintro _ _ ⟨rfl,rfl⟩;show{rfl,rfl};rintro _ _ ⟨rfl,rfl⟩;show ñ (h y q g d b)
#print a
#print a
nonrec def ZV{α:Type}(p:Ê×α):Á Ūb->Á Ūb
 | []=>[p]|q::r=>match decide Èi with
  |Ã=>p::q::r|Å=>q::ZV p r
def Ňc{α:Type}:Á Ūb->Á Ūb
 | []=>[]|p::r=>ZV p (Ňc r)
section
variable{α β:Type}{p:Ê×α}{l:Á Ūb}
def aL:(ZV p l).Perm (p::l):=by
 induction l with
 |nil=>show Ϧb _|î q r ih=>
  unfold ZV;cases decide Èi with
  |Ã=>show Ϧb _|Å=>show(ϭk).trans (ňm p q r)
def Ōn:(Ϩi).Perm l:=by
 induction l with
 |nil=>show Ϧb _|î q r ih=>show aL.trans ϭk
def z1q(h:Áo λa b=>a.1<b.1)(f:∀q∈l,q.1≠p.1):(ZV p l).Pairwise λa b=>a.1<b.1:=by
 induction l with
 |nil=>show List.pairwise_singleton _ _|î q r ih=>
  let{e,j}:=ϛb h;let k:=f q Ō;unfold ZV;cases c:decide Èi with
  |Ã=>have g:=ı c;show ϊe {λb d=>?_,h};rcases ř d with rfl|d;omega;let:=e b d;omega
  |Å=>have g:=of_decide_eq_false c;show ϊe {λb d=>?_,ih j λx i=>f x (Ϲ _ i)};rcases ř (aL.mem_iff.mp d)with rfl|d;omega;show e b d
def ħo(h:(æa (·.1)).Nodup):(Ϩi).Pairwise λa b=>a.1<b.1:=by
 induction l with
 |nil=>show ϳe|î q r ih=>
  let{c,g}:=īg h;show z1q (ih g) λx d e=>c ?_
  exact q.1∈_;rw[<-e];show ϝg (f:=(·.1)) (isortK_perm.mem_iff.mp d)
def oneK{a b:Á Ūb}(p:a.Perm b)(j:Èo λx y=>x.1<y.1)(h:ϯh λx y=>x.1<y.1):a=b:=by
 induction a generalizing b with
 |nil=>show(ál).symm|î x a ih=>
  cases b with
  |nil=>cases ňn|î y b=>
   let{f,k}:=ϛb j;let{g,i}:=ϛb h
   let e:x=y:=by let c:x∈y::b:=än Ō;let d:y∈x::a:=ϐm Ō;rcases ř c with e|c;show e;rcases ř d with e|d;show Ģd;let:=f y d;let:=g x c;omega
   subst e;rw[ih ((Ňm x).mp p) k i]
inductive Ϣa(R:α->β->Æ):Á Ūb->Á Ċi->Æ
 |Y4:Ϣa R [] []
 |gi {k:Ê} {x:α} {y:β} {l m}:R x y->Ϣa R l m->Ϣa R ((k,x)::l) ((k,y)::m)
def RelK.ins{R:α->β->Æ}{k:Ê}{x:α}{y:β}{l:Á Ūb}{m:Á Ċi}(h:Ϣa R l m)(r:R x y):Ϣa R (ZV (k,x) l) (ZV (k,y) m):=by
 induction h with
 |Y4=>show .gi r .Y4|@gi j u v l m ruv hlm ih=>
  unfold ZV;exact Ϣa R (match decide Ùa with|Ã=>_|Å=>_) (match decide Ùa with|Ã=>_|Å=>_);cases decide Ùa with
  |Ã=>show .gi r (.gi ruv hlm)|Å=>show .gi ruv ih
def RelK.sort{R:α->β->Æ}{l:Á Ūb}{m:Á Ċi}(h:Ϣa R l m):Ϣa R Ϩi (Ňc m):=by
 induction h with
 |Y4=>show .Y4|gi r _ ih=>show ih.ins r
#print a
def y2h{ns:Á Ê}{vs:Á V}{us:Á Value}(r:zk vs us)(h:Ŷ=ø):Ϣa zu đf (Óg us):=by
 induction r generalizing ns with
 |nil=>cases ns<;>show .Y4|î x _ ih=>
  cases ns with
  |nil=>cases h|î n ns=>show .gi x (ih ēe)
def RelK.vals{l:Á (Ê×V)}{m:Á (Ê×Value)}(h:Ϣa zu l m):zk (æa (·.2)) (m.map (·.2)):=by
 induction h with
 |Y4=>show .nil|gi r _ ih=>show .cons r ih
nonrec def uf(h:Heap):Value->Ê
 |.ref a=>match Ć a with
  |À o=>match Ϛ with
   |.seq xs _=>Ĺe (xs.toList.headD .none)|_=>0
  |Â=>0
 |_=>0
def k4.kf{h:Heap}{v:Value}{n:Ê}(p:k4 h v n):uf h v=n:=by
 let{a,o,{b},k,t,rfl,e,f,d,c}:=p
 exact(match Ć a with
  |À o=>match Ϛ with
   |.seq b _=>Ĺe ſk|_=>0
  |Â=>0)=n
 rw[e];exact(match Ϛ with|.seq b _=>Ĺe ſk|_=>0)=n;rw[d];cases b with
 |nil=>cases c|î x b=>cases(show À x=_ from c);rfl
section
variable{Ā:à}{w:ß}{A:è}{E:Value->Í->Æ}{s:Í}
def z3c{u v:Value}{a b:Ê}{Q:Ò->Í->Æ}(j:k4 Ü u a)(r:k4 Ü v b)(h:a≠b)(q:Q (decide (a<b)) s):Õ æ A (keyLt' Ån u v) Q E s:=by
 let{p,o,{i},k,t,rfl,l,B,n,g}:=j;let{y,x,{f},z,C,rfl,d,m,e,c}:=r;show W.kat_lt l n d e ?_;cases i with
 |nil=>cases g|î x1 i=>
  cases f with
  |nil=>cases c|î y1 f=>cases(show À x1=_ from g);cases(show À y1=_ from c);show W.kat_cons (Ϧl ?_);rw[show čj=Å from ăc h];show W.kat_no ?_;exact Õ _ _ (oneLt' Ã _ _) _ _ _;show Ġo q
def y5q:TR Ā w A E s Ån (λp=>uf Ü p.1) (λp=>∃n,k4 Ü p.1 n):=⟨λp q st Q f ⟨a,e⟩ ⟨b,d⟩ c h=>by
 replace c:uf Ü p.1≠uf Ü q.1:=c
 replace h:Q (Ρa (uf Ü p.1<uf Ü q.1)) st:=h
 rw[e.kf,d.kf]at c h;rw[lt'_eq];rw[ϐp];rw[f];show ã (ŀg (Şd (z3c e d c {rfl,ñ h})))⟩
#print a
structure pS(h:Heap)(vs:Á Value)(ns:Á Ê):Æ where
 ln:Ŷ=ø
 el:∀(i:Ä) v n,vs[i]?=À v->ns[i]?=À n->k4 h v n
theorem pS.to{h h':Heap}{vs:Á Value}{ns:Á Ê}(U:pS h vs ns)(k:∀b o,Ć b=À o->Ça=.type Œ->ė b=À o):pS h' vs ns:={úc,λi v n a b=>(U.el i v n a b).to k}
def pS.vW{h:Heap}:∀{vs:Á Value}{ns:Á Ê},pS h vs ns->∃fs,W.KatTups h vs fs/\Ķa=ø/\∀v∈fs,∃n t,v=.int n t:=λ{vs}=>by
 induction vs with
 |nil=>show λ_=>{[],trivial,rfl,λ_ z=>(Óa z).elim}|î v vs ih=>
  intro ns U;cases ns with
  |nil=>show Þ úc nofun|î n ns=>
   let{fs,k,l,a}:=ih (ns:=ns) {Ϛb úc,λi v n e1 e2=>U.el ē v n e1 e2};let{p,o,f,m,t,e,c,j,g,d}:=U.el 0 v n rfl rfl
   show{.int n t::fs,{{p,o,f,m,e,c,j,g,d},k},Äa ůf l,λu b=>by rcases ř b with rfl|b;show{n,t,rfl};show a u b}
def pS.at{h:Heap}{vs:Á Value}{ns:Á Ê}(U:pS h vs ns){v:Value}(hv:v∈vs):∃n,k4 h v n:=by let{i,a,rfl}:=List.getElem_of_mem hv;show{_,U.el i _ (ns[i]'(by rw[úc];show a)) ϻi (ļ _)}
def pS.nums{h:Heap}{vs:Á Value}{ns:Á Ê}(U:pS h vs ns):ğe (uf h)=ns:=by apply List.ext_getElem (by rw[þ,úc]);intro i a b;rw[ėc];rw[þ]at a;show(U.el i _ _ ϻi (ļ b)).kf
def z9p{h:Heap}{vs:Á Value}{ns:Á Ê}{y:Ú Ù}(U:pS h vs ns)(q:ôd)(o:ϙ ĕc)(r:uR (λp=>uf h p.1) y 0 (ĕc).size):y.map (·.2)=((Ϡb).map (·.2)).toArray:=by
 have e:(όn).map įk=Óg vs:=by rw[<-U.nums,List.zip_map_left];rfl
 let P:(Ŀd).Perm đf:=by let:=(þc o).map įk;rw[Ņd,e]at this;show this
 let n:(đf).map (·.1)=ns:=ųd (àb úc)
 let t:((Ŀd).map (·.1)).Nodup:=by rw[(P.map (·.1)).nodup_iff,n];show q
 let s:(Ŀd).Pairwise λa b=>a.1<b.1:=by
  show ïk λi j k f c=>?_
  let m:((Ŀd).map (·.1))[i]'(by rw[þ];show k)≠((Ŀd).map (·.1))[j]'(by rw[þ];show f):=λz=>Ŕ c ((Ãf t).mp z)
  rw[ėc,ėc]at m;rw[þ,ŧ]at k f;have d:=r i j ŉc (by rw[<-o.size_eq];show f);rw[œa,œa]at d;unfold yO at d;rw[getElem?_pos y i k,getElem?_pos y j f]at d;rw[ėc,ėc,ąb,ąb]at m ⊢;show Ŀk {d,m}
 let g:=oneK (P.trans (Ōn (l:=Óg vs)).symm) s (ħo (by rw[n];show q));apply øl;rw[ϵl,<-g,ãb];rfl
section
variable{Ā:à}{w:ß}{A:è}{E:Value->Í->Æ}{s:Í}{a:Ë}{vs:Á Value}{ns:Á Ê}{n:Ä}
def z9o(h:Ŷ=ø):((Ϡb).map (·.2)).length=ø:=by rw[þ,Ŵg,ìa,h,ća]
theorem y5i{P:ŀf->Í->Æ}(j:ö a=À ŀl)(U:pS Ü vs ns)(F:ôd)(u:ø<64)(h:P ϟh { s with ä:=ϫh Ü a vs ((Ϡb).map (·.2)).toArray }):Õ æ A Ík P E s:=by
 let r:ø<=á:=by rw[Ţp]
 let C:a<Ý:=Ğ j;obtain⟨c,G⟩:∃c,(Ųk).get? a=À Ϭe:={_,get?_update_seq j Çi}
 let l:(Ţd).get? a=À Ϭe:=by rw[ϴe _ _ _ (υc (Ōb C)),ϴe _ _ _ (by rw[ϖe];show Ŕ C)];show G
 let O:∀b o,ö b=À o->Ça=.type Œ->(Ţd).get? b=À o:=λb o e K=>by show Ġ _ (Ġ _ ?_);rw[ól _ _ _ _ éd];show e;subst z;rw[j]at e;cases e;show Þ (Ϗg K) Û
 rw[óm];refine Ð (ån j rfl (Ð (ňd j rfl (hsz:=by rw[đ];show r) ?_)));show Ð (śe G rfl (Ð (ώg ?_ (by show r))));rw[ěp];let k:=U.to O
 let f:∀st:û,(Ĳc).map (·.2)=((Ϡb).map (·.2)).toArray->P ϟh { s with ä:=ϫh Ü a vs ((Ĳc).map (·.2)) }:=λst e=>by rw[e];show h
 let B:∀st:û,(Ĳc).map (·.2)=((Ϡb).map (·.2)).toArray->((Ĳc).map (·.2)).size<=á+1:=λst e=>by rw[e,đ,z9o úc];show Ϟc r
 by_cases h2:ëm<2;rw[Ö h2,Ö h2];rw[đ]at h2
 let e:(arrOf ĥg).map (·.2)=((Ϡb).map (·.2)).toArray:=by
  exact(ĕc).map (·.2)=_;rw[z9v]
  congr 1
  match vs,ns,úc,h2 with
  | [],[],_,_=>rfl| [v],[m],_,_=>rfl
 show Ð Śa;dsimp only;rw[StateT.run_pure];show Ð Śa;dsimp only;show Ð (Ηe (ňd l rfl ?_ (hsz2:=B ĥg e)));rw[ώp];show ċ (f ĥg e);rw[Ø h2,Ø h2];rw[đ]at h2;let{Y,S,X,H}:=k.vW
 refine Ð (W.kat_kind (T:=.type ĺb) S Î (λv I=>by let{n,t,rfl}:=H v I;show W.Looks.of_pure rfl) Û ?_)
 show Ð (ϋ (y5s (s:={ s with ä:=(ňe).push Ŵc }) (x:=pairsOf vs) (g:=7) (Q:=λ_ st=>(Ĳc).map (·.2)=((Ϡb).map (·.2)).toArray/\Łi st=Â) y5q (λi p J=>?_) ?_ (by rw[ŏh];omega) (by rw[ŏh];show u) λy q g L N=>{z9p k F L N,rfl}) ?_ λ_ _ e=>e);let d:=Żc (žc J);rw[Ņd]at d;show k.at (mem_zip_self d).2;rw[Ņd]
 have:(όn).map Ϡk=ns:=by rw[<-k.nums,show Ϡk=uf Ţd∘Prod.fst from rfl,<-ãb,ųd ğ]
 rw[this];show F
 rintro⟨⟨⟩,st⟩ _ ⟨rfl,e,R⟩;dsimp only;show Ð (Ηe (ňd l rfl ?_ (hsz2:=B st e)));rw[R];rw[ώp];show ċ (f st e)
def y5k{l:Ë}{Q:Value->Í->Æ}(j:çf l Ìa)(U:pS Ü vs ns)(g:ôd)(d:ø<64)(h:Q Čo { s with ä:=ãi Ü vs ((Ϡb).map (·.2)).toArray }) :Õ æ A (Ħa ύd [.ref l]) Q E s:=by
 let f:ø<=á:=by rw[Ţp]
 rw[Įp];show Ð (m:=Æo èb 1 1 _) Śa;show Ð (collect_list j ?_ f);show Ð (ųe ?_ f)
 let c:((ŉf).update Ý (Ěb (·++Ìa))).objs.size=Ý+1:=by rw[ϖe,Ϸn]
 have a:(((ŉf).update Ý (Ěb (·++Ìa))).push ϫe).get? (Ý+1)=À ϫe:=by rw[<-c];show ť _ rfl
 exact Õ _ _ _ _ _ { s with ä:=((ŉf).update Ý (Ěb (·++Ìa))).push ϫe };rw[c]
 let i:∀b o,ö b=À o->Ça=.type Œ->(((ŉf).update Ý (Ěb (·++Ìa))).push ϫe).get? b=À o:=λb o e _=>by show Ġ _ ?_;rw[ól _ _ _ _ Öe];show Ġ _ e
 show Ð (ŉa (Ňb Ĳm {_,a,rfl} ôm (y5i a (U.to i) g d {_,rfl,ċ {_,rfl,h}}) ŕl))
#print a
section
variable{X:Cx}
def y28(K:Ï):Á V->Hp->VK->Æ:=λa H Q=>∃(p:Ë) (vs:Á V) (ns:Á Ê),a=Òc/\yQ K H p vs/\Ŷ=ø/\ôd/\Ŷ<64/\(∀(i:Ä)(v:V)(n:Ê),vs[i]?=À v->ns[i]?=À n->∃b us,v=.ref b/\yf K H b ĸn)/\∀l,H l=Â->Q Þc (ξa (Χa (ői ns vs)))
def rK:wM X ύd (y28 X.K):=by
 intro z0 s σ H xs l Q I r h;let{p,g,f,rfl,T,m,J,B,P,q}:=h;let{u,rfl,y}:=vg r;cases y;let{a,A,O,N}:=ű T;let d:=A.length
 let U:pS Ü a f:=⟨m.trans d,λi v n e1 e2=>by
  let E:i<Ęa:=by rw[d];show(Ť e1).1
  let{b,l,R,S}:=P i g[i] n (ļ E) e2;let{v',C,F}:=A.get (ļ E);rw[e1]at C;cases C;rw[R]at F;cases(show v=.ref b from F);let{Z,W,{o,Y,z,k,L},_}:=Ϭ S;cases W with
  |î y _=>let{t,rfl}:=y;show{b,o,_,k,t,rfl,Y,z,L,rfl}⟩
 let{c,z}:=sortedAll_at Ü a ((Őo).map (·.2)).toArray;refine y5k O.isList U J (by rw[<-d,<-m];show B) ?_
 let G:(ϐg).length<=á:=by
  let e:(ϐg).length=Ęa:=by rw[þ,Ŵg,ìa,m,ća]
  rw[e];show N
 let x:zk ϐg (Χa (ői f a)):=(y2h A m).sort.vals;generalize Ĩb Prod.snd (Ňc (ői f g))=zs at G x q;let j:(ãi Ü a (ŧo).toArray).get? (Ý+1)=À (seqObj Ĝ (ŧo).toArray c):=z;generalize Ĩb Prod.snd Őo=l at x j;show{.ref ěa,_,Çb (t':=ě) (h':=ãi Ü a l.toArray) (λ_ _=>sortedAll_old) ĩi (show yj ì X.w _ _ _ Äp from{G,l,c,x,j}),rfl,q _ Šo}
#print a
#print L2
namespace L3
open č Ĕ ď L2
def OT:Á D->É D
 | [.lst xs]=>(Xo xs).bind λa=>match decide (a.Nodup)&&decide (Ϫ<64)with
  |Ã=>À (.lst ((Ňc (a.zip xs)).map (·.2)))|Å=>Â
 |_=>Â
section
variable{X:Cx}{e:Ñ}{fs:FA}{p pos:Pos}
def y2g{K:Ï}{G:Hp}{ds:Á D}:∀{ns:Á Ê}{vs:Á V},å K G ds vs->Ŷ=ĉ->Ϣa (zT K G) (Óg ds) đf:=by
 induction ds with
 |nil=>intro ns vs r h;cases(show vs=[]from r);cases ns<;>show .Y4|î d ds ih=>
  intro ns vs r h;let{v,b,rfl,a,r}:=r;cases ns with
  |nil=>cases h|î n ns=>show .gi a (ih r ēe)
def RelK.lZ{K:Ï}{G:Hp}{l:Á (Ê×D)}{m:Á (Ê×V)}(h:Ϣa (zT K G) l m):å K G (æa (·.2)) (m.map (·.2)):=by
 induction h with
 |Y4=>rfl|gi r _ ih=>show{_,_,rfl,r,ih}
def y4w(y:Gl X èb)(I:â èb=Â)(C:SA X [e] fs)(u:Ì ϥ q12):SF X ÿl (eL OT fs):=by
 let{t,J,k}:=C.h;refine{{_,(Yo rK y I A4 {J} Û Û (by rw[Ő,u];rfl)).h,λ{U S G H τ σ d Q} E f q=>?_}};let{N,z,f}:=zC f;show k E z λT R W g L=>?_
 rcases N with _|⟨x_,r_⟩;cases f
 cases x_<;>first|(cases f;done)|skip
 cases r_<;>first|(cases f;done)|skip
 rename_i o;let{s,x,f}:=zC (show(Xo o).bind _=À d from f)
 rw[Łp];rw[ϗp];cases f;rw[Ūp];let{v,rfl,a,w,rfl,F,j,l}:=qZ L;let{r,A}:=z0e x j;let O:Ħb=ľa:=ϑi Ča
 refine{a,w,s,rfl,wv g.gh F,r,ı c.1,ı c.2,λi v n e1 e2=>by let{b,K,B,P}:=A i v n e1 e2;show{b,K,B,ve g.gh P},λp m=>q p _ _ İl (ŀi m) (èi m) {_,yE,RelK.lZ (L2.RelK.sort (y2g j O)),?_}}
 rw[þ,Ŵg,ìa,Ľ];let:=ı c.2;omega;cases f
#print a
#print L3
namespace L3
open č
nonrec def z0s:Á D:=[Ŭ,óa,ϴa,Ħi]
def Oc:D:=.tup z0s
nonrec def CH:Á D:=[ĥf,Ąo,Ûn]
def Vb:D:=.tup CH
nonrec def z0t:Á D:=[ąo,ćo,Ĉo]
def CM:D:=.tup z0t
nonrec def CF:Á Ş:=Ĩb .inr [ϊi,ſb,éc,Ğd,Ĺb,Ŕc,ĭd,ěd,Ŝc,ťc,Ĭd,Œc,Ŷb,âc,èc,ác,ãc,Õc,ōc,ŋc,İc,Ōc]
nonrec def CN:Á D:=[ĵn,şe,şe,Łb,Łb,Łb,Łb,Łb,Łb,Łb,Łb,Łb,şe,şe,Ōe,Ōe,Ōe,Ōe,ĵn,Ôm,Ôm,(.tup [])]
nonrec def CG:Á Ş:=Ĩb .inr [ſb,éc,Ŷb,âc,èc,ác,ãc,Õc]
nonrec def CO:Á D:=[ϴa,ϴa,ϯb,ϯb,óa,óa,óa,óa]
nonrec def Xq:Á Ş:=Ĩb .inr [ŝa,"d","s",ĝd,Ğh]
nonrec def Xt:Á D:=[(.tup [(.int 27),ϯb]),(.tup [Ħi,Čd]),(.tup [Åp,Čd]),(.tup [Ħi,ņc]),(.tup [Ŭ,ϯb])]
nonrec def VX:Á Ş:=Ĩb .inr [Ōc,ſb,éc,Ğd,Ĺb,Ŕc,ĭd,ěd,Ŝc,ťc,Ĭd,Œc,Ŷb,âc,èc,ác,ãc,Õc]
nonrec def Vc:Á D:=[Ŭ,ča,ņc,Čd,ðh,ϯb,(.int 6),(.int 7),óa,(.int 9),(.int 10),(.int 11),śf,(.int 13),(.int 14),(.int 15),ϴa,(.int 17)]
nonrec def Od:Á L2.V:=[.int 0,.int 1,.int 2,.int 3,.int 4,.int 5,.int 6,.int 7,.int 8,.int 9,.int 10,.int 11,.int 12,.int 13,.int 14,.int 15,.int 16,.int 17]
nonrec def VZ:Á Ş:=Ĩb .inr ϟm
nonrec def Xs:Á D:=[Æp,(.int 19),(.int 20)]
nonrec def Of:Á L2.V:=[.int 18,.int 19,.int 20]
nonrec def VY:Á Ş:=Ĩb .inr ϟm
nonrec def Xr:Á D:=[Åp,(.int 22),(.int 23)]
nonrec def Oe:Á L2.V:=[.int 21,.int 22,.int 23]
theorem Oz{g:FG}{c:FT}{e:FE}{σ:zw}(p:D->Ò)(v:D->D):∀{ds:Á D},(∀d∈ds,∃σ1,g d σ=À σ1/\c σ1=À (p d)/\(p d=Ã->e σ1=À (v d)))->u4 g c e σ ds=À ((ds.filter p).map v)
 | [],_=>rfl|d::ds,h=>by
  let{σ1,e1,e2,f}:=h d Ād;let a:=Oz p v (ds:=ds) λx b=>h x ŋf
  exact(ćd).bind _=_;rw[e1];exact(c σ1).bind _=_;rw[e2];cases hp:p d with
  |Å=>rw[List.filter_cons_of_neg (by rw[hp];decide)];show a|Ã=>rw[List.filter_cons_of_pos hp];exact(e σ1).bind _=_;rw[f hp];exact(u4 g c e σ ds).bind _=_;rw[a];rfl
def af(v:D->D)(h:∀d∈ds,∃σ1,g d σ=À σ1/\e σ1=À (v d)):u4 g v3 e σ ds=À (ģd v):=by
 let:=Oz (g:=g) (c:=v3) (e:=e) (σ:=σ) (λ_=>Ã) v (ds:=ds) λd f=>by let{σ1,a,b}:=h d f;show{σ1,a,rfl,λ_=>b}
 rw[this,List.filter_eq_self.mpr Ϣd]
theorem x2b{n i:Ä}{d:D}(h:(jJ n)[i]?=À d):i<n/\d=.int (i:Ê):=by
 let a:i<n:=by let:=öa.1;simpa using this
 show{a,?_};simp[a]at h;show h.symm
def mQ{α:Type}{xs:Á α}{i:Ê}{a:α}(b:0<=i)(h:xs[ąe]?=À a):pX xs i=À a:=by unfold pX;rw[Ö b,h]
def W7:Ä->D->Ò
 |0,_=>Å|n+1,.tup xs=>Ğe (W7 n)|n+1,.lst xs=>Ğe (W7 n)|_+1,d=>yr d
theorem Fa{f:D->D->Ò}:∀{xs:Á D},(∀x∈xs,f x x=Ã)->pf f xs xs=Ã
 | [],_=>rfl|x::xs,h=>by exact(f x x&&pf f xs xs)=Ã;rw[h x Ād,Fa λy a=>h y Či];rfl
theorem Fe:∀{xs:Á D},(∀x∈xs,wK x x=Ã)->Ϗb xs xs=Ã
 | [],_=>rfl|x::xs,h=>by exact(wK x x&&Ϗb xs xs)=Ã;rw[h x Ād,Fe λy a=>h y Či];rfl
theorem Qg:∀(n:Ä)(d:D),W7 n d=Ã->uJ n d d=Ã/\wK d d=Ã
 |0,_,h=>by cases h|n+1,d,h=>by
  cases d with
  |tup xs=>have c:∀x∈xs,W7 n x=Ã:=ŋa h;show{Fa λx a=>Çf.1,Fe λx a=>Çf.2}|lst xs=>have c:∀x∈xs,W7 n x=Ã:=ŋa h;show{Fa λx a=>Çf.1,Fe λx a=>Çf.2}|dic ks vs=>cases h|exc _=>cases h|obj _ _ _=>cases h|zI=>show{rfl,rfl}|bl b=>show{rfl,űd b}|int i=>show{rfl,űd i}|str z=>show{rfl,űd z}
def s_(h:W7 6 d=Ã):YY d d=À Ã:=by
 let{a,b}:=Qg 6 d h
 have e:YY d d=match uJ 6 d d with
  |Ã=>À (wK d d)|Å=>Â:=by cases d<;>rfl
 rw[e,a,b]
theorem LK(h:W7 6 d=Ã):xn d d=À Ća:=by unfold xn;rw[s_ h];rfl
def ðb{i j:Ê}:yq Ěa (.int j)=À ŭh:=rfl
def x5b{L M:Á D}(h:òa+Űf<=1000):yq Ŵi (.lst M)=À (Δ (L++M)):=by exact(if òa+Űf<=yc then _ else _)=_;rw[Ö ōg]
theorem mK(b:n<2 ^ w)(a:y/2 ^ l%2 ^ w=0):(y &&& ği)=0:=by
 apply ϻk;intro i;rw[öm,ϫl];rw[ťg];by_cases hl:l<=i;by_cases hi:i-l<w;let e:y.testBit i=(y/2 ^ l%2 ^ w).testBit (i-l):=by rw[ŕk,Ŗk,Ĵ hi,Bool.true_and,ϧe hl]
 rw[e,a,ϫl,ϴc];let:n.testBit (i-l)=Å:=Nat.testBit_lt_two_pow (Ŧ b (Nat.pow_le_pow_right Û Î));rw[this];simp;simp[hl]
theorem mJ(x l w:Ä):(x &&& (ϯo*2 ^ l))=x/2 ^ l%2 ^ w*2 ^ l:=by apply ϻk;intro i;rw[öm,ťg,ťg,Nat.testBit_two_pow_sub_one,ŕk,Ŗk];by_cases hl:l<=i;simp[hl,ϧe hl];rw[Bool.and_comm];simp[hl]
theorem rP(l w:Ä):Şg=((ϯo*2 ^ l:Ä):Ê):=by let h:1<=2 ^ w:=Nat.one_le_two_pow;rw[Int.natCast_mul,Int.natCast_sub h];simp
def oP(a:0<=x)(l w:Ä):ŝd x Şg=x/2^l%2^w*2^l:=by let{n,rfl}:=όc a;rw[rP,ūk ϯf ϯf,Īa,Īa,mJ];simp
def oO(f:0<=y)(g:0<=n)(d:n<2 ^ w)(hz:y/2 ^ l%2 ^ w=0):ŝd y ği=0:=by
 let{a,rfl}:=όc f;let{b,rfl}:=όc g;let e:(b:Ê)*2 ^ l=((b*2 ^ l:Ä):Ê):=by simp
 let c:b<2 ^ w:=by
  let:((2 ^ w:Ä):Ê)=(2:Ê) ^ w:=by simp
  omega
 let h:a/2 ^ l%2 ^ w=0:=by
  let:((a/2 ^ l%2 ^ w:Ä):Ê)=(a:Ê)/2 ^ l%2 ^ w:=by simp
  omega
 rw[e,ūk ϯf ϯf,Īa,Īa,mK c h];rfl
def rj{x p r:Ê}(e:0<=x)(a:0<p)(b:0<r):0<=x-x/p%r*p/\Đf/p%r=0/\Đf/p/r=x/p/r/\Đf%p=x%p:=by
 let f:0<=x/p:=ûm e (áa a);let e1:x-x/p%r*p=x+p*(-(x/p%r)):=by rw[Int.mul_neg,Int.mul_comm p];omega
 let e2:Đf/p=x/p-x/p%r:=by rw[e1,Int.add_mul_ediv_left _ _ (ŝh a)];omega
 let c:x/p-x/p%r=r*(x/p/r):=by let:=Ϙk (x/p) r;omega
 show{?_,?_,?_,?_};let d:x/p%r<=x/p:=by let:=Ϙk (x/p) r;let g:0<=x/p/r:=ûm f (áa b);let h:0<=r*(x/p/r):=Int.mul_nonneg (áa b) g;omega
 let j:x/p%r*p<=x/p*p:=Int.mul_le_mul_of_nonneg_right d (áa a);let i:=Int.ediv_mul_le x (ŝh a);omega;rw[e2,c];show Int.mul_emod_right _ _;rw[e2,c];show Int.mul_ediv_cancel_left _ (ŝh b);rw[e1];show Int.add_mul_emod_self_left ..
def x4i{x n:Ê}{l w:Ä}(b:0<=x)(e:0<=n)(a:n<2 ^ w):êf (ŝd x (Ϣj Şg)) ği=x+(n-x/2 ^ l%2 ^ w)*2 ^ l:=by let f:(0:Ê)<2 ^ l:=şn Û;let c:(0:Ê)<2 ^ w:=şn Û;let{d,g,_,_}:=rj b f c;rw[PyProof.Rows.bitAnd_not,oP b,PyProof.Rows.bitOr_and,oO d e a g,Int.sub_mul];omega
def b0(a:Ä):decide ((0:Ê)<=(a:Ê))=Ã:=Ĵ (Ŷc a)
def Sg:FS:=
 (zt (xh (tE (e2 Âc Ė Äc))
   (yH že)
   wG)
  (yH Ŀ))
def z1t(ns:Á Ê)(k:Ä):ţd[k]?=(ns[k]?).map Ϝa:=Üa
nonrec def pZ(ns:Á Ê)(k:Ê):Ê:=ĝf ň 0
nonrec def ZI:Á D->É ð
 | [.lst xs,.int k]=>if 0<=k then((xs[ň]?).getD Ŭ |> λd=>À (Å,d))else Â|_=>Â
def Tr(ns:Á Ê){k:Ê}(h:0<=k):ZI [.lst ţd,.int k]=À (Å,.int (pZ ns k)):=by exact(if 0<=k then _ else _)=_;rw[Ö h,z1t];unfold pZ;rw[Ñb];cases ns[ň]?<;>rfl
def y2n:∀ds r,ZI ds=À r->ĉ=2/\vF 2 Sg ds=À r:=λds r h=>by
 rcases ds with _|⟨x,_|⟨y,_|⟨z,w⟩⟩⟩;cases h;cases x<;>cases h
 .cases x<;>first|(cases h;done)|skip
  cases y<;>first|(cases h;done)|skip
  rename_i a k
  replace h:(if 0<=k then À (Å,(Ϣo).getD Ŭ)else Â)=À r:=h
  show{rfl,?_};by_cases h0:0<=k;rw[Ö h0]at h;cases h;unfold Sg;by_cases c:k<(Ϫ:Ê);let e:zS Ņc ŷi=À ((Ϣo).getD Ŭ):=by exact pX a k=_;unfold pX;rw[Ö h0,ļ Î];rfl
  simp only[Ħ,Ĵ c,e];let e:a[ň]?=Â:=ăb Î;simp only[Ħ,ϣ c,e,Option.getD];rw[Ø h0]at h;cases h
 .cases x<;>first|(cases h;done)|(cases y<;>cases h)
def oQ(h:Ŭb<2 ^ m):uZ i<=m:=by
 by_cases c:i=0;subst c;show ϱ _;let e:uZ i=ŷd+1:=by exact(if(i==0)=Ã then 0 else ŷd+1)=_;rw[Ø (by simpa using c)]
 rw[e];show(Ōo).mpr h
def Ez{i j:Ê}(a:0<=j)(b:j<64)(c:0<=i)(d:i<2 ^ 64):gM i j=Ã:=by unfold gM;rw[Ĵ a,Ĵ (show j<=1000000 by omega),Ĵ (show Ŭb<2 ^ 64 by omega)];rfl
def Sk:FS:=
 (zt (yn 4 (e2 gI ċk Ė))
  (yH (e2 (gD êf) (e2 ŧi Ă (e1 Fz åa)) (e2 gI Ţ Ė))))
def y15{d:Ä}(h:d<64):1<=(2:Ê) ^ d/\(2:Ê) ^ d<2 ^ 64:=by
 let a:(2:Ä) ^ d<2 ^ 64:=Nat.pow_lt_pow_right Û h;let b:0<(2:Ä) ^ d:=Nat.pow_pos Û;let e:((2 ^ d:Ä):Ê)=(2:Ê) ^ d:=by simp
 let e2:((2 ^ 64:Ä):Ê)=(2:Ê) ^ 64:=by decide
 omega
nonrec def V8:Á D->É ð
 | [.int x,.int l,.int d,.int n]=>if(0<=x/\0<=l/\l<64/\0<=d/\d<64)/\0<=n/\n<2 ^ ϟf then À (Å,.int (x+(n-x/2 ^ l.toNat%2 ^ ϟf)*2 ^ l.toNat))else Â|_=>Â
def y2q:∀ds r,V8 ds=À r->ĉ=4/\vF 5 Sk ds=À r:=λds r h=>by
 unfold V8 at h
 rw[ϯp];rename_i x l d n;show{rfl,?_}
 rw[ϯp];rw[ϗp];obtain⟨⟨f,a,b,m,k⟩,e,o⟩:=c;let{q,p}:=y15 (d:=ϟf) Î;cases h;let e1:=Ez (i:=1) (j:=d) m k Û Û;let e2:=Ez (i:=1*2 ^ ϟf-1) (j:=l) a b Î Î;let g:=Ez (i:=n) (j:=l) a b e Î;unfold Sk;simp only[Ħ,e1,e2,g,Fz,x4i f e o];cases h;cases h
def nk:FS:=
 (yH (e2 ŧi Ĝm ċk))
def gn:Á D->É ð:=FR 3 3 nk
def mh:FS:=
 (zt (yn 3 (e2 yq ėm ϩk))
  (ν (zA (e2 xX Ţ ĉd) (Α (e2 Ţh Ţ ĉd)))))
def IR:Á D->É ð:=FR 3 4 mh
def oB:FS:=
 (zt (yn 3 (e2 ZS (e2 ZS Ă Ė) ϩk))
  (zt (xh (tE (e2 Âc Ţ Ŀ))
   (ν (zA (e2 yq Ţ ĉd) ŭo))
   wG)
  (ν ćn)))
def D9:Á D->É ð:=FR 3 4 oB
def nZ:FS:=
 (zt (Κ (e2 gI Ă Ė))
  (zt (yn 3 (Ωc (Ψ (zA Ūi Ĩc))))
  (ν (zA (za gn (Ψ (ζ Ŭo))) ğb))))
def D4:Á D->É ð:=FR 2 4 nZ
def ng:FS:=
 (zt (Κ (Ωc (Ν (zA (e2 ZS Ė œ) Ĩc))))
  (ν (zA Ĝm đb)))
def D5:Á D->É ð:=FR 2 3 ng
def x4p:FE:=(za gn (Ν (ξ Ĉi)))
def mw:FS:=
 (yH (eL Xn (Α (wf 1 (tu (eC Oc)) ķb v3 x4p))))
def Bl:Á D->É ð:=FR 1 1 mw
def x4z:FE:=(e2 gI Ė ĵ)
def oN:FS:=
 (yH (eL Ak (Α (wf 2 (Oo Ă (eC Oc)) (j4 1 2) v3 x4z))))
def DC:Á D->É ð:=FR 1 1 oN
def mv:FS:=
 (yH (AU Ă Ė Ŀ))
def T0:Á D->É ð:=FR 2 2 mv
def mn:FS:=
 (yH (za gn (zA ėm (ζ ūo))))
def IS:Á D->É ð:=FR 2 2 mn
def x4r:FE:=(za IS Ĉn)
def nI:FS:=
 (uQ (wf 1 (jZ Ŀ Ũi) ķb v3 x4r))
def IW:Á D->É ð:=FR 1 1 nI
def x4y:FE:=(za T0 (zA Ă đb))
def oJ:FS:=
 (yH (za DC (Α (wf 1 (tu ώn) Ūa v3 x4y))))
def DB:Á D->É ð:=FR 2 2 oJ
def nv:yC:=
 (W3 0 [] Ė (yt (za gn (Ψ (ζ Ĉi)))))
def Ie:FM:=vM 3 3 nv
def z2t:yC:=(jb (kD Ie (qx 0 [] (wU Ţ (wU åa wO)))))
def nz:yC:=
 (ES (Oo ώn (za Bl đb)) (Ov 3 4)
   z2t)
def D6:FM:=vM 3 5 nz
def iB:FE:=(wg ćn)
def Dz:yC:=
 (xC (qS 0 [] [Ň] ī (ZO (eL p_ àa)))
  (xC (qS 0 [] [Ň] şb (ZO (eL OP (Α (wf 1 (tu Ñj) ÿj v3 iB)))))
  (qS 0 [] [Ň] Ða (ZO (eL OO đb)))))
def V3:FM:=vM 3 3 Dz
def z0x(x0 x1 x2:M):V3 Ðo=jl 3 3 Dz Ðo:=rfl
def nB:yC:=
 (Αa (yt Ňd))
def Br:FM:=vM 2 2 nB
def n4:yC:=
 (Κd (qO (za V8 (zA ϋg (zA (eC ϴa) (zA (eC ϴa) (Α Ňd)))))))
def Bn:FM:=vM 2 2 n4
def m_:yC:=
 (Κd (qO Ðf))
def Bm:FM:=vM 2 2 m_
def o8:FS:=
 (zt (xh (οa (.str Ĺb))
   (Αe (zA ĵ ϊg))
   wG)
  (zt (xh (οa (.str Ŕc))
   (Αe (zA ĵ ğb))
   wG)
  (yH (za D9 (ξ (Ψ (Α (VM Ţ (e2 yS Ă (eC (.str "subc")))))))))))
def D8:Á D->É ð:=FR 4 4 o8
def nY:yC:=
 (xC (Ωa Ąo (e2 yS Ė Ŀ))
  (Ωa Ûn (e2 yS (za gn (ξ (zA (e2 ZS Ūi œ) Ĩc))) œ)))
def T5:FM:=vM 2 2 nY
def nE:yC:=
 (xC (uN 2 (qO (za D8 (Κe (zA Ðf (Ηc (Ε (xm Ŝo şb)) (eC ĥf)))))))
  (xC (Ωa ĥf Ėm)
  (xC (εb (wU Òf wO))
  (jc (Ζa (e2 xn Ćb (eC (.str Œc))))
   (Αa (yt Òf))
   u_))))
def XV:FM:=vM 2 3 nE
def nQ:FS:=
 (zt (xh (οa (.str Ŝc))
   (μb ŧi)
   wG)
  (zt (xh (οa (.str ťc))
   (μb (gD êf))
   wG)
  (μb (gD ōm))))
def B_:Á D->É ð:=FR 3 3 nQ
def mz:yC:=
 (xC (uN 2 (qO (za B_ (Κe (zA Ðf zF)))))
  (xC (εb (wU ĵ wO))
  (Αa Ŝi)))
def T1:FM:=vM 2 3 mz
def n9:yC:=
 (xC (uN 2 (qO ϋg))
  (xC (uN 3 (yt (qP (tE (Βb (.str "left"))) (za D4 ăm) (za D5 ăm))))
  (xC (jc (Ζa (e2 VO Ñf ãa))
   (Ωa ĥf Ñf)
   u_)
  (xC (εb (wU ĕm wO))
  (Αa (yt ĕm))))))
def IU:FM:=vM 2 4 n9
def ml:FS:=
 (yH (za IS (zA Ðf (Α (e2 zS Ė Ģc)))))
def V4:Á D->É ð:=FR 2 2 ml
def n5:yC:=
 (Αa (qO (za T0 ōj)))
def Bo:FM:=vM 2 2 n5
def n8:yC:=
 (Αa (qO (za DB ōj)))
def Bp:FM:=vM 2 2 n8
def nC:yC:=
 (jb (kD Ie Ķj))
def Bs:FM:=vM 2 2 nC
def nD:yC:=
 (jb (kD D6 Ķj))
def Bt:FM:=vM 2 2 nD
nonrec def OI:Á Ş:=Ĩb .inr [ſb,éc,Ğd,Ĺb,Ŕc,ĭd,ěd,Œc,Ŝc,ťc,Ĭd,Ŷb,âc,èc,ãc,ác,Õc]
nonrec def AS:Á Ç:=[Ţf,ıf,Ĳf,Öc,Öc,Öc,Öc,Öc,àd,àd,àd,Êe,Êe,İf,ėf,Ėf,ĉf]
def sF:Á FM:=[Br,Bn,Bm,XV,XV,XV,XV,XV,T1,T1,T1,IU,IU,Bo,Bp,Bs,Bt]
def nA:yC:=
 (jc (Ζa (e1 (Ag OI) Ćb))
   (jb (FY OI sF Ćb (qx 0 [] (wU Ė wO))))
   u_)
def Bq:FM:=vM 2 2 nA
def nX:FS:=
 (zt (xh (tE (Βb ćo))
   (yH Ìk)
   wG)
  (zt (xh (tE (Βb Ĉo))
   (yH (Fo Ìk))
   wG)
  (yH (Βb ąo))))
def D3:Á D->É ð:=FR 2 2 nX
def mV:FS:=
 (yH (Fp (e2 yS ņg (Ε (xm Ĺ ũa))) (e2 yS (e2 zS êk Ŀ) (wg (Ζ Ćo)))))
def YG:Á D->É ð:=FR 1 1 mV
def mW:yC:=
 (xC (jc (jI (tE Ľj))
   (t4 źf)
   u_)
  (xC (uN 1 (qO êk))
  (xC (jb (kD Bq (qx 0 [.at [Ą,ą] ϩ] (wU Ćb wO))))
  (xC (qS 0 [] Ĺ įd (qO (qP (tE (za D3 (zA ϵg (Α Ćb)))) Ňd ŀb)))
  (xC (aw 0 [] Ĺ œc œ)
  (t4 (yt úe)))))))
def YH:FM:=vM 1 2 mW
abbrev lw:Á Ş:=[.inr Åd,.inr Ϡh,.inr "sign"]
nonrec def NG(a b c:Ò):D:=.dic lw [.bl a,.bl b,.bl c]
def st(ws:Á D)(a b c:Ò)(hk:Á Ş)(hv:Á D):M:=.obj Ň ϡm [.own àe,.own (NG a b c),.own Ėc]
def q_(ws:Á D)(a b c:Ò)(hk:Á Ş)(hv:Á D):D:=.obj Ň ϡm [.lst ws,NG a b c,.dic hk hv]
abbrev XZ:Á Ç:=[Ϡ,ũa,Ùb,ϩb,ϩ,įd,œc]
inductive ZK:Ç->Æ
 |row:ZK Ą
 |word:ZK ą
nonrec def t6(C:Ç)(T:D)(e:Ê)(fw fh:D)(s:M)(due done:Ê):M:=.obj C XZ [.fz T,.fz (.int e),.fz fw,.fz fh,s,.fz (.int due),.fz (.int done)]
nonrec def uw(C:Ç)(T:D)(e:Ê)(fw fh:D)(s:D)(due done:Ê):D:=.obj C XZ [T,.int e,fw,fh,s,.int due,.int done]
section
variable{C:Ç}{ws:Á D}{a b c:Ò}{hk:Á Ş}{hv:Á D}{T fw fh sd:D}{e due done:Ê}{s:M}
def fP:vH (st ws a b c hk hv)=q_ ws a b c hk hv:=by simp only[st,q_,vH,ϊb]
theorem fO:vH (t6 C T e fw fh s due done)=uw C T e fw fh (vH s) due done:=by simp only[t6,uw,vH,ϊb]
theorem z0b:xm [Ň] ī Ćl=À àe:=rfl
def z0a:xm [Ň] Ða Ćl=À Ėc:=rfl
def An(a:ZK C):xm Ĺ ϩ Ōg=À sd:=by cases a<;>rfl
#print a
nonrec def wI(ns:Á Ê):Á D:=Þb Ϝa
def Mf{ns:Á Ê}:(wI ns).length=Ŷ:=þ ..
def F5:FS:=
 (zt (Κ (e2 xX (e2 Q2 (e2 yq Ă (e2 gH (eC (.int 7919)) Ė)) (eC (.int 48271))) (eC (.int 2147483647))))
  (yH (e2 xX (e2 yq (e2 yq (e2 F_ ĵ ĵ) (e2 gH ϖd ĵ)) Ė) (eC (.int 2147483629)))))
def g7:Á D->É ð:=FR 2 3 F5
def z13(x0 x1:D):g7 Åb=vF 3 F5 Åb:=rfl
def F9:FS:=
 (zt (Κ (e2 xX (Ζb Ěm) āb))
  (zt (yn 3 (Ζb (e2 yq Ěm œ)))
  (zt (yn 4 (yX (ζ (zA (eC (.int 4294967295)) (zA (eC (.int 2147483648)) (zA œ (zA (Ιa (.int 7)) (Α (e2 yq (eC (.int 65530)) (Ιa śf))))))))))
  (yH (e2 zS (e2 yq åa (Η (e2 xX (e2 Q2 Ţ ϖd) ĉd) (Α (e2 xX (e2 Q2 Ţ Ĉd) ĉd)))) ĵ)))))
def T3:Á D->É ð:=FR 2 5 F9
def z17(x0 x1:D):T3 Åb=vF 5 F9 Åb:=rfl
def NZ:FE:=(za T3 Ĉn)
def FC:FS:=
 (uQ (wf 1 (jZ Ŀ āb) ķb v3 NZ))
def T4:Á D->É ð:=FR 1 1 FC
def z18(x0:D):T4 Éa=vF 1 FC Éa:=rfl
def W6(c k:Ê):∃v:Ê,g7 Ām=À (Å,.int v)/\0<=v/\v<2147483629:=by
 let g:=ϭc šl (show(2147483647:Ê)≠0 by decide);let f:=Ϙc šl (show(0:Ê)<2147483647 by decide);let a:kQ 7919=Ã/\kQ 48271=Ã/\kQ 7=Ã:={by decide,by decide,by decide}
 let b:uZ Ńd<=40:=by
  let e:(2:Ä) ^ 40=1099511627776:=by decide
  show oQ Î
 let d:decide (uZ Ńd+uZ Ńd<=134217728)=Ã:=Ĵ Î;show{((c+7919*k)*48271%2147483647*Ńd+7*Ńd+k)%2147483629,?_,ϭc _ Û,Ϙc _ Û};rw[z13];unfold F5;simp only[Ħ,a,ðb,F_,d,Ĉa]
theorem Qa{l:Á D}{P:D->Æ}(c:Ê){n:Ê}(h:(Ϲa:Ê)=n)(d:0<n)(a:∀r∈l,P r):∃r,zS (.lst l) (.int (c%n))=À r/\P r:=by
 let e:=ϭc c (show n≠0 by omega);let f:=Ϙc c d;let b:(c%n).toNat<Ϲa:=by omega
 show{l[(c%n).toNat],mQ e (ļ b),a _ (Âf b)}
def xF{P:D->Æ}{x:D}{l:Á D}(h:P x)(t:∀r∈l,P r):∀r∈x::l,P r:=λr m=>by rcases ř m with rfl|m;show h;show t r m
def Tb{P:D->Æ}:∀r∈([]:Á D),P r:=λ_ m=>Þ m Óa
def x4j(c k:Ê):∃w:Ê,T3 Ām=À (Å,.int w)/\0<=w/\w<4294967296:=by let{v,e1,j,h}:=W6 c (2*k);let{u,e2,m,i}:=W6 c (2*k+1);let b:kQ 2=Ã/\kQ 7=Ã/\kQ 5=Ã:={by decide,by decide,by decide};let{_,g,w,rfl,f,e}:=Qa (P:=λd=>∃w:Ê,d=.int w/\0<=w/\w<4294967296) v (n:=8) (l:=ġj) rfl Û (xF {_,rfl,by omega,by omega} (xF {_,rfl,by omega,by omega} (xF {_,rfl,by omega,by omega} (xF {_,rfl,by omega,by omega} (xF {_,rfl,by omega,by omega} (xF {_,rfl,by omega,by omega} (xF {_,rfl,by omega,by omega} (xF {_,rfl,by omega,by omega} Tb))))))));show{w,?_,f,e};let a:yq (.lst [.int 0,.int 4294967295,.int 2147483648,.int 1,.int (u%7),.int (65530+u%12)]) (.lst [.int (u*7%4294967296),.int (u*5%4294967296)])=À (.lst ġj):=rfl;rw[z17];unfold F9;simp only[Ħ,b,ðb,e1,e2,a,g,Ĉa]
theorem ae{g:FG}{e:FE}{σ:zw}(P:Ê->Æ):∀{ds:Á D},(∀d∈ds,∃σ1 v,g d σ=À σ1/\e σ1=À (.int v)/\P v)->∃vs:Á Ê,u4 g v3 e σ ds=À (wI vs)/\ø=ĉ/\∀v∈vs,P v
 | [],_=>{[],rfl,rfl,λ_ h=>Þ h ü}|d::ds,h=>by
  let{σ1,v,e1,e2,p}:=h d Ād;let{vs,b,l,q}:=ae P λc f=>h c (Ϲ _ f)
  show⟨v::vs,?_,by rw[Ĩ,Ĩ,l],λx a=>?_⟩;simp only[u4,e1,v3,Option.bind_some,e2,b];rfl;rcases ř a with rfl|a;show p;show q x a
def x4k(c:Ê):∃Ws:Á Ê,T4 [.int c]=À (Ã,.lst ŀc)/\Ķo=8/\∀w∈Ws,0<=w/\w<4294967296:=by
 let f:jZ Ŀ āb [À (Å,.int c)]=À (jJ 8):=GR (n:=8) rfl Û
 let{h,e,l,p}:=ae (g:=xG 1) (e:=NZ) (σ:=[À (Å,.int c),Â]) (λw=>0<=w/\w<4294967296) (ds:=jJ 8) λd b=>by let{k,_,rfl}:=ža b;let{w,j,i,a}:=x4j c k;show{_,w,rfl,?_,i,a};unfold NZ;simp only[Ħ,j]
 show{h,?_,l,p};rw[z18];unfold FC;simp only[Ħ,f,e]
nonrec def pD(p:Ê×Ê):D:=.tup [.int p.1,.int p.2]
structure k6(ps:Á ĺ):Æ where
 ad:∀p∈ps,0<=p.1/\p.1<65536
 BX:∀p∈ps,0<=p.2/\p.2<256
 nd:(Ŗ (·.1)).Nodup
def GQ:FA:=(jZ Ŀ (e2 xX (Ρb (Ζ (.int 40))) ϖd))
def iC:FE:=(e2 zS ēd Ŀ)
def Ox:FS:=(zt (yn 3 (Ζb (Φb (.int 50))))
    (zt (yn 4 (e2 zS (Η œm (zA (e2 yq (eC (.int 65527)) œm) (Α (Ιa (.int 65536))))) (e2 xX (Ζb (Φb (.int 60))) Ģc)))
    (xh (MO (tE (e2 Q3 åa (wf 1 (tu Ė) þj v3 iC))))
     (Lj 1 Fw (wg (zA åa (Ηc (Η (e2 xX (Ζe (.int 70)) (eC Ĕo)) (ζ (Θ (eC (.int 255))))) (e2 xX (Ζe (.int 80)) Ģc)))))
     wG)))
def F6:FS:=
 (zt (kq 1 Ϲf)
  (zt (kj GQ Ūa
   Ox)
  İe))
def T2:Á D->É ð:=FR 1 5 F6
def z14(x0:D):T2 Éa=vF 5 F6 Éa:=rfl
def z1p(x:Ê):∀(ys:Á Ê),OQ ŵi (Δ Ãj)=À (decide (x∈ys)):=λys=>by
 let b:(yr ŵi&&(Ãj).all yr)=Ã:=by rw[ć];show{rfl,Ϙe λd c=>?_};let{y,_,rfl}:=ža c;rfl
 exact(match yr ŵi&&(Ãj).all yr with|Ã=>À Ïk|Å=>Â)=_;rw[b];exact À Ïk=_
 congr 1
 unfold wI;rw[òn,ϫb];rw[Ģl,ϱl]
 rw[Èq];rintro⟨y,f,e⟩;let a:(y==x)=Ã:=e;rw[Ço]at a;show a▸f;intro h;show{x,h,(űd x:(x==x)=Ã)}
def z9t(c:Ê):∃ps,T2 [.int c]=À (Ã,.lst Ŏ)/\k6 ps/\Ĉ<=6:=by
 let{n,R,W,Y}:=W6 c 40
 let F:GQ Ŗj=À Æf:=by unfold GQ;show GR (n:=n%7) ?_ Î;simp only[Ħ,R,Ĉa]
 let{σ',e1,ps,s,w,t,l,P,rfl}:=ER (g:=xG 2) (b:=Ox) (λi σ=>∃(ps:Á ĺ) (s w t:É Sl),Ĉ<=i/\k6 ps/\σ=[À (Å,.int c),À (Ã,.lst Ŏ),s,w,t])
  (ds:=jJ (n%7).toNat) (σ:=Ŗj) 0 {[],Â,Â,Â,ϔ _,{λ_ h=>Þ h ü,λ_ h=>Þ h ü,Üf},rfl} λi d σ j e=>by
   let{ps,s,w,t,l,P,rfl}:=e;rw[œa]at l ⊢;let{k,_,rfl}:=ža (ϟb j);let{v,A,Z,X}:=W6 c (50+k);let{m,C,_,_}:=W6 c (60+k);let{Q,H,_,_}:=W6 c (70+k);let{q,E,_,_}:=W6 c (80+k)
   obtain⟨a,B,G,O⟩:∃a:Ê,zS (.lst [.int (v%9),.int (65527+v%9),.int (v%65536)]) (.int (m%3))=À þe/\0<=a/\a<65536:=by rcases(show m%3=0\/m%3=1\/m%3=2 by omega)with h|h|h<;>rw[h]<;>show{_,rfl,by omega,by omega}
   obtain⟨f,T,b0,S⟩:∃f:Ê,zS (.lst [.int (Q%256),.int 0,.int 255]) (.int (q%3))=À (.int f)/\0<=f/\f<256:=by rcases(show q%3=0\/q%3=1\/q%3=2 by omega)with h|h|h<;>rw[h]<;>show{_,rfl,by omega,by omega}
   let u:u4 þj v3 iC [À (Å,.int c),À (Å,.lst Ŏ),À (Å,.int (k:Ê)),À (Å,.int v),À (Å,.int a),Â] Ŏ=À ((Ŏ).map λd=>match d with|.tup [x,_]=>x|d=>d):=af (λd=>match d with|.tup [x,_]=>x|d=>d) λd j=>by let{p,_,rfl}:=ža j;show{_,rfl,rfl}
   let r:((Ŏ).map λd=>match d with|.tup [x,_]=>x|d=>d)=wI (Ŗ (·.1)):=by unfold wI;rw[ãb,ãb];rfl
   rw[r]at u;let o:=z1p a (Ŗ (·.1));by_cases cc:a∈Ŗ (·.1);show{_,[À (Å,.int c),À (Ã,.lst Ŏ),À (Å,.int (k:Ê)),À (Å,.int v),À (Å,.int a)],rfl,.inl ?_,ps,_,_,_,by omega,P,rfl};unfold Ox;rw[Ĵ cc]at o;simp only[Ħ,ðb,A,C,B,Ĉa,MO,OX,jX,u,Q3,o];show{_,[À (Å,.int c),À (Ã,.lst Ϗk),À (Å,.int (k:Ê)),À (Å,.int v),À (Å,.int a)],rfl,.inl ?_,ps++[(a,f)],_,_,_,?_,?_,rfl};unfold Ox;rw[ϣ cc]at o
   let J:Fw Ťb (.tup ām)=À (Δ Ϗk):=by
    exact(if(Ŏ).length<yc then À (ŀe (Ŗ pD++[.tup ām]))else Â)=_;let K:i<(Æf).length:=(Ť j).1;let U:(Æf).length=(n%7).toNat:=by simp[jJ]
    rw[Ö (by rw[þ];exact _<16777216;omega),Ďb];rfl
   simp only[Ħ,ðb,A,C,B,Ĉa,MO,OX,jX,u,Q3,o,H,E,T,J];rw[ï];exact Ĉ+1<=_;omega;show{λp e=>?_,λp e=>?_,?_};rcases ōa e with e|e;show P.ad p e;cases źa e;show{G,O};rcases ōa e with e|e;show P.BX p e;cases źa e;show{b0,S};rw[Ďb,Âh];refine{P.nd,by simp,λx L y I=>?_};obtain rfl:a=y:=(źa I).symm;intro z;let N:x=a:=z;show cc (N▸L)
 show{ps,?_,P,?_};rw[z14];unfold F6;simp only[Ħ,F,e1];let:(Æf).length=(n%7).toNat:=by simp[jJ]
 omega
def F2:FS:=
 (zt (xh (qf (tE (ZP .bool Ă)) (μ (ZP .int Ă)))
   Żf
   wG)
  (yH (VM (e2 (Φa (i<=j)) Ŀ Ă) (e2 Âc Ă ęm))))
def qu:Á D->É ð:=FR 2 2 F2
def z0z(x0 x1:D):qu Åb=vF 2 F2 Åb:=rfl
def D_:FS:=
 (yH (za qu (Ν ūo)))
def V5:Á D->É ð:=FR 1 1 D_
def z0y(x0:D):V5 Éa=vF 1 D_ Éa:=rfl
def F3:FS:=
 (zt (xh (qf (μ (ZP .tuple Ă)) (tE (e2 xn Äc ŷa)))
   Żf
   wG)
  (yH (VM (za V5 Űo) (za qu (zA (e2 zS Ă œ) Ĉi)))))
def gl:Á D->É ð:=FR 1 1 F3
def z10(x0:D):gl Éa=vF 1 F3 Éa:=rfl
def j7:xw:=(uj (μ (za gl đb)) (Ζ (.str "memory has something else than a pair of an address and a byte")) Ëa
      (uj (tE (e2 ZR Òf (Tu 1))) (Ζ (.str "memory has an address twice")) Ëa
       (qA (Vy 1 Òf Ėm))))
def Te:xw:=
 (jr Éi
  (jr (xh Ôl
    İe
    wG)
   (uj Êl (Ζ (.str "memory is no list")) Ëa
    (JY (JX Žf Ūa j7)
     (qA İe)))))
def qK:FX:=V0 1 3 Te
def CJ(x0:D):qK Éa=jB 3 Te Éa:=rfl
def Mi:FE:=(za qu (ξ Ŭo))
def Th:xw:=
 (jr (xh Ôl
   (uQ ěm)
   wG)
  (uj (qf Êl (tE (e2 xn Äc āb))) (Ζ (.str "registers are no list of eight")) Ëa
   (uj (μ (eL Fv (Α (wf 1 Žf ķb v3 Mi)))) (Ζ (.str "registers have something else than a word")) Ëa
    (qA (uQ (eL p_ Õb))))))
def tV:FX:=V0 1 1 Th
def CK(x0:D):tV Éa=jB 1 Th Éa:=rfl
def Dw:yC:=
 (xC (qS 0 [] Ĺ ϩ (FZ Ň V3 (qx 0 ûl (qx 0 úl wO))))
  (xC (qS 0 [] Ĺ įd ŝi)
  (qS 0 [] Ĺ œc ŝi)))
def pP:FM:=vM 1 1 Dw
def z0u(x0:M):pP Éa=jl 1 1 Dw Éa:=rfl
def O8:vB:=
 (jt (qS 0 [] Ĺ Ϡ (yt Ė))
  (jt (qS 0 [] Ĺ ũa Ŝi)
   (UI 0 [] Ĺ Ùb (Z2 tV ğb)
    (UI 0 [] Ĺ ϩb (Z2 qK Ŋf)
     (vq (jb (Xl şk Šk)))))))
def YE:tT:=U_ 5 5 O8
def Ax(x0 x1 x2 x3 x4:M):YE ϸl=pC 5 5 O8 ϸl:=rfl
def EF{i:Ê}{w:Ä}(d:w<=64):qu [.int i,.int (w:Ê)]=À (Å,.bl (decide ĸb&&decide (i<2 ^ w))):=by
 let b:gM 1 (w:Ê)=Ã:=by unfold gM;rw[Ĵ Î,Ĵ Î];rfl
 let e:gI ča (.int (w:Ê))=À (.int (2 ^ w)):=by exact(match gM 1 (w:Ê)with|Ã=>À òk|Å=>Â)=_;rw[b];exact À òk=_;rw[Īa,Šn]
 rw[z0z];unfold F2;by_cases c:0<=i;let a:decide ĸb=Ã:=Ĵ c;rw[a];simp only[Ħ,a,b,Īa,Šn];let a:decide ĸb=Å:=ϣ c;rw[a];simp only[Ħ,a,ϴc]
def nb(d:D):Ò:=match qu ϐh with
 |À (_,.bl b)=>b|_=>Å
def Nm(d:D):Æ:=qu ϐh=À (Å,.bl ąj)
def Ze{w:Ê}:Nm Ĭc/\nb Ĭc=(decide đj&&decide ĕh):=by
 let c:=EF (i:=w) (w:=32) Û;let b:(2:Ê) ^ 32=4294967296:=by decide
 rw[b]at c;let a:qu [.int w,.int 32]=À (Å,.bl (decide đj&&decide ĕh)):=c
 let e:nb Ĭc=(decide đj&&decide ĕh):=by unfold nb;rw[a]
 show{?_,e};unfold Nm;rw[e];show a
def sQ{x y:D}:zS Èd Ŭ=À x:=rfl
def sR{x y:D}:zS Èd ča=À y:=rfl
def i8{ds:Á D}(k:ĉ=8)(h:∀d∈ds,Nm d):tV Ñe=if Żb nb=Ã then À (.inl (Ã,.lst ds))else À Ïa:=by
 let e:u4 ķb v3 Mi ŝk ds=À ųg:=by
  let:=af (g:=xG 1) (e:=Mi) (σ:=ŝk) (λd=>.bl ąj) (ds:=ds) λd i=>by let j:qu ϐh=À (Å,.bl ąj):=h d i;show{_,rfl,?_};unfold Mi;simp only[Ħ,j]
  rw[this,ãb];rfl
 let a:Fv [.lst ųg]=À (.bl (Żb nb)):=by exact(YT ųg).bind _=_;rw[S_];exact À (üc ((ģd nb).all id))=_;rw[ón];rfl
 let f:p_ Ñe=À êb:=rfl
 let b:xn Ùm óa=À Ća:=by rw[k];rfl
 rw[CK];unfold Th;generalize (ģd nb).map üc=BS at *;cases c:Żb nb with
 |Ã=>rw[c]at a;rw[Ö rfl];simp only[Ħ,jB,jr,uj,qA,b,e,a,f]|Å=>rw[c]at a;rw[Ø ŀ];simp only[Ħ,jB,jr,uj,qA,b,e,a,ϥc,ĭ]
theorem iA{ds:Á D}(h:(ĉ:Ê)≠8):tV Ñe=À Ïa:=by
 let a:xn Ùm óa=À Îa:=by exact À (üc (!((ĉ:Ê)==8)))=_;rw[ăc h];rfl
 rw[CK];unfold Th;simp only[Ħ,jB,jr,uj,qA,a,ϥc,ĭ]
theorem x4l{ds:Á D}:tV ňo=À Ïa:=by rw[CK];unfold Th;simp only[Ħ,jB,jr,uj,qA,ϥc,ĭ]
theorem NV{Ws:Á Ê}(h:Ķo=8)(f:∀w∈Ws,0<=w/\w<4294967296):tV ϻh=À Ųe:=by
 let a:(ŀc).all nb=Ã:=Ϙe λd b=>by let{w,c,rfl}:=ža b;let{g,e}:=f w c;rw[Ze.2,Ĵ g,Ĵ e];rfl
 rw[i8 (by rw[Mf];show h) λd b=>by let{w,_,rfl}:=ža b;show Ze.1,Ö a]
nonrec def kP(ps:Á ĺ):Á Ş:=Ŗ λp=>.inl p.1
nonrec def vP(ps:Á ĺ):Á D:=Ŗ λp=>.int p.2
section
variable{ps:Á ĺ}{a b:Ê}
def aC:p6 Ía Şa=decide (a∈Ŗ (·.1)):=by
 unfold p6 kP;rw[òn,ϫb,Ģl,ϱl]
 rw[Èq];rintro⟨p,b,e⟩;let c:=ı e;show List.mem_map.mpr {p,b,ϋh c};intro h;let{p,b,e}:=ža h;show{p,b,Ĵ (Äa Ŧa e)}
def y1e(h:a ∉ Ŗ (·.1)):pB Ía Şa=kP Æn/\u5 Ía Ôc Şa (.int b)=vP Æn:=by
 let c:p6 Ía Şa=Å:=by rw[aC];show ϣ h
 unfold pB u5;rw[Ø ϕl,Ø ϕl];unfold kP vP;rw[Ďb,Ďb];show{rfl,rfl}
def bz{p:Ê×Ê}(a:0<=p.1/\p.1<65536)(c:0<=p.2/\p.2<256):gl [pD p]=À (Å,.bl Ã):=by
 let d:=EF (i:=p.1) (w:=16) Û;rw[Ĵ a.1,Ĵ (show p.1<2 ^ 16 from a.2)]at d;let b:=EF (i:=p.2) (w:=8) Û;rw[Ĵ c.1,Ĵ (show p.2<2 ^ 8 from c.2)]at b;let g:qu [.int p.1,.int 16]=À (Å,.bl Ã):=d;let h:qu [.int p.2,.int 8]=À (Å,.bl Ã):=b
 let e:V5 [.int p.1]=À (Å,.bl Ã):=by rw[z0y];unfold D_;simp only[Ħ,g]
 let f:xn (.int ((0+1+1:Ä):Ê)) ņc=À Ća:=rfl;rw[z10];unfold F3 pD;simp only[Ħ,sQ,sR,e,h,f]
#print a
def aZ{g:FG}{b:xw}{d:D}{ds:Á D}{σ σ1 σ2:zw}(a:g d σ=À σ1)(c:b σ1=À (.inl Śf)):p7 g b Òj σ=p7 g b ds σ2:=by rw[ĩp]
def ac{g:FG}{b:xw}{d:D}{ds:Á D}{σ σ1:zw}{x:Ç}(a:g d σ=À σ1)(c:b σ1=À Øa):p7 g b Òj σ=À Øa:=by rw[ĩp]
def bE(M:D)(ps:Á ĺ)(x:É Sl):zw:=[À (Å,M),À (Ã,.dic Ía Ôc),x]
structure Rg(p:Ê×Ê):Æ where
 a:0<=p.1/\p.1<65536
 b:0<=p.2/\p.2<256
def aI{ps:Á ĺ}{a:Ê}:ZR þe đc=À (.bl (decide (a∈Ŗ (·.1)))):=by exact((j6 þe).bind λk=>À (p6 Ía k)).bind _=_;exact À (üc (p6 Ía Şa))=_;rw[aC]
theorem Sj{M:D}{ps:Á ĺ}{p:Ê×Ê}(r:Rg p)(d:p.1 ∉ Ŗ (·.1))(m:Ĉ<=1000):j7 Ìn=À (Γc (bE M (ps++[p]) šd)):=by
 let j:=bz r.a r.b;let c:ZR Ýd đc=À Ća:=by rw[aI,ϣ d]
 let{g,h}:=y1e (b:=p.2) d;let l:(Ía).length<yc:=by unfold kP;rw[þ];exact _<16777216;omega
 let f:zS êg Ŭ=À Ýd:=rfl;let i:zS êg ča=À (.int p.2):=rfl;let k:j6 Ýd=À (.inl p.1):=rfl;let e:ps++[p]=ps++[(p.1,p.2)]:=rfl;unfold bE;rw[e,<-g,<-h];unfold j7;simp only[Ħ,uj,qA,j,f,i,c,Vy,k,Ö l]
theorem oG{M:D}{ps:Á ĺ}{p:Ê×Ê}(r:Rg p)(d:p.1∈Ŗ (·.1)):j7 Ìn=À Ïa:=by
 let f:=bz r.a r.b;let c:ZR Ýd đc=À Îa:=by rw[aI,Ĵ d]
 let e:zS êg Ŭ=À Ýd:=rfl;unfold bE;unfold j7;simp only[Ħ,uj,qA,f,e,c,ϥc,ĭ]
theorem ni{M d:D}{ps:Á ĺ}(h:gl [d]=À (Å,.bl Å)):j7 (bE M ps ŋb)=À Ïa:=by unfold bE;unfold j7;simp only[Ħ,uj,qA,h,ϥc,ĭ]
theorem nJ{M:D}{xs:Á ĺ}:∀{acc:Á ĺ} {x:É Sl},(∀p∈xs,Rg p)->((Ģi).map (·.1)).Nodup->Įc+ë<=1000->∃x',p7 Ūa j7 (Źb pD) īn=À (Γc (bE M Ģi x')):=by
 induction xs with
 |nil=>intro acc x _ _ _;show{x,?_};rw[ŏ];rfl|î p xs ih=>
  intro acc x b a d;rw[Ĩ]at d
  let f:p.1 ∉ ϛi (·.1):=λz=>by rw[Ďb,ϰ,Âh]at a;show a.2.2 _ z _ Ō rfl
  rw[űp]
  rw[e]at a ⊢;let{x',h}:=ih (acc:=acc++[p]) (x:=À (Å,pD p)) (λq c=>b q Ŵo) a ώe;show{x',?_};rw[ϰ,aZ (σ1:=bE M acc šd) rfl (Sj (b p Ō) f Î)];show h
def Sf{M:D}{xs:Á ĺ}:∀{acc:Á ĺ} {x:É Sl} {tail:Á D},(∀p∈xs,Rg p)->(ϛi (·.1)).Nodup->Įc+ë<=1000->(¬ ((Ģi).map (·.1)).Nodup\/∃d r,tail=d::r/\gl [d]=À (Å,.bl Å))->p7 Ūa j7 (Źb pD++tail) īn=À Ïa:=by
 induction xs with
 |nil=>intro acc x tail _ g i h;rcases h with h|⟨d,r,rfl,h⟩;rw[ŏ]at h;show Þ g h;show ac (σ1:=bE M acc ŋb) rfl (ni h)
 |î p xs ih=>
  intro acc x tail f g i h;rw[Ĩ]at i;rw[ϰ,Ùh];by_cases c:p.1∈ϛi (·.1);show ac (σ1:=bE M acc šd) rfl (oG ϟo c);rw[aZ (σ1:=bE M acc šd) rfl (Sj ϟo c Î)];rw[űp]
  rw[e]at h;show ih (λq l=>f q (Ϲ _ l)) ?_ ώe h;rw[Ďb,Âh];show{g,List.nodup_cons.mpr {Óa,Üf},λa j b m=>?_};cases źa m;intro z;let k:a=p.1:=z;show c (k▸j)
def oZ{ds:Á D}{ps:Á ĺ}{x:É Sl}(h:p7 Ūa j7 ds ğm=À (Γc (bE êb ps x))):qK Ñe=À łd:=by let a:p7 Ūa j7 ds Ŧj=À (.inl (.nx [À (Å,.lst ds),À (Ã,.dic Ía Ôc),x])):=h;rw[Ľp]
theorem A7{ds:Á D}(h:p7 Ūa j7 ds ğm=À Ïa):qK Ñe=À Ïa:=by let a:p7 Ūa j7 ds Ŧj=À Ïa:=h;rw[Ľp]
theorem k6.rg{ps:Á ĺ}(P:k6 ps):∀p∈ps,Rg p:=λp a=>{P.ad p a,P.BX p a}
def A6{ps:Á ĺ}(P:k6 ps)(a:Ĉ<=1000):qK Ái=À łd:=by let{x,h}:=nJ (M:=.lst Ŏ) (xs:=ps) (acc:=[]) (x:=Â) P.rg (by rw[îh];show P.nd) Ől;show oZ h
def og{ds:Á D}:qK ňo=À Ïa:=by rw[CJ];unfold Te;simp only[Ħ,jB,jr,uj,JY,JX,qA,ϥc,ĭ]
theorem y6j{Ws:Á Ê}{hk:Á Ş}{hv:Á D}:V3 [.obj Ň [] [],.fz Ċb,.fz Ėc]=À ([st ŀc Å Å Å hk hv,.fz Ċb,.fz Ėc],.fz .zI):=by let e1:u4 ÿj v3 iB [Â,À (Å,.lst ŀc),À (Å,.dic hk hv),Â] CH=À Īj:=rfl;let e2:OP [.lst Īj]=À (NG Å Å Å):=rfl;let d:p_ ϻh=À Ċb:=rfl;let b:OO [.dic hk hv]=À Ėc:=rfl;let e:∀{x:M}{zY:zb},p9 x (Μ (.obj Ň [] [])) 0 [] [Ň] ī=À (Υ (.obj Ň [ī] [x])):=rfl;let a:∀{x y:M}{zY:zb},p9 x (Μ (.obj Ň [ī] [y])) 0 [] [Ň] şb=À (Υ (.obj Ň ńo [y,x])):=rfl;let c:∀{x y z:M}{zY:zb},p9 x (Μ (.obj Ň ńo [y,z])) 0 [] [Ň] Ða=À (Υ (.obj Ň [ī,şb,"held"] [y,z,x])):=rfl;rw[z0x];unfold Dz;simp only[Ļ,Vb,e1,e2,d,b,e,a,c];rfl
def mD{C:Ç}(h:ZK C){T fw fh:D}{e:Ê}{Ws:Á Ê}{hk:Á Ş}{hv:Á D}{fs:Á Ç}{ms:Á M}:pP [.obj C Ĺd ħj]=À ([t6 C T e Ċb Ėc (st ŀc Å Å Å hk hv) 0 0],.fz .zI):=by
 let l:jT Øm ûl=À (.fz Ċb):=by rw[Éq]
 let k:jT Øm úl=À (.fz Ėc):=by rw[Éq]
 let m:∀{a b c d x:M}{zY:zb},p9 x Ŋg 0 [] Ĺ ϩ=À (Υ (.obj C ϙk [a,b,c,d,x])):=by intros;rw[Éq]
 let i:∀{a b c d f x:M}{zY:zb},p9 x (Μ (.obj C ϙk [a,b,c,d,f])) 0 [] Ĺ įd=À (Υ (.obj C Ąk [a,b,c,d,f,x])):=by intros;rw[Éq]
 let j:∀{a b c d f g x:M}{zY:zb},p9 x (Μ (.obj C Ąk [a,b,c,d,f,g])) 0 [] Ĺ œc=À (Υ (.obj C XZ [a,b,c,d,f,g,x])):=by intros;rw[Éq]
 rw[z0u];unfold Dw;simp only[Ļ,l,k,y6j,m,i,j];rfl
section
variable{C:Ç}(hC:ZK C){T rd md:D}{e:Ê}{Ws:Á Ê}{ps:Á ĺ}
include hC
theorem bI(i:tV [rd]=À Ųe)(l:qK [md]=À łd) :YE Ŝj=À (.inl ([t6 C T e Ċb đc ĳg 0 0,.fz T,.fz (.int e),.fz rd,.fz md],.fz .zI)):=by
 let k:∀{x:M}{zY:zb},p9 x Íl 0 [] Ĺ Ϡ=À łk:=by intros;rw[Ņp]
 let f:∀{a x:M}{zY:zb},p9 x Ńk 0 [] Ĺ ũa=À äk:=by intros;rw[Ņp]
 let g:∀{a b x:M}{zY:zb},p9 x æk 0 [] Ĺ Ùb=À ϥj:=by intros;rw[Ņp]
 let j:∀{a b c x:M}{zY:zb},p9 x (Μ (.obj C [Ϡ,ũa,Ùb] [a,b,c])) 0 [] Ĺ ϩb=À (Υ (.obj C Ĺd [a,b,c,x])):=by intros;rw[Ņp]
 let m:=mD hC (T:=T) (e:=e) (fw:=.zI) (fh:=.zI) (Ws:=Ws) (hk:=kP ps) (hv:=vP ps) (fs:=[]) (ms:=[])
 let h:∀{a b c d:M}{zY:zb},Xl şk Šk Ŋg=kC pP þi Ŋg:=by
  intro a b c d zY;cases hC with
  |row=>exact(match kC pP þi åk with|À d=>À d|Â=>Â)=_;cases kC pP þi åk<;>rfl
  |word=>rfl
 rw[Ax];unfold O8;simp only[Ħ,pC,kH,jt,UI,vq,Z2,jb,qS,yt,wj,Ëb,OK,pW,@Option.map_some.{0,0},@List.take_succ_cons.{0},@List.take_zero.{0},k,f,g,j,i,l,h];simp only[Ļ,m,kH]
theorem bJ(h:tV [rd]=À Ïa\/(∃W,tV [rd]=À ϱk)/\qK [md]=À Ïa):YE Ŝj=À Ïa:=by
 let d:∀{x:M}{zY:zb},p9 x Íl 0 [] Ĺ Ϡ=À łk:=by intros;rw[Ņp]
 let c:∀{a x:M}{zY:zb},p9 x Ńk 0 [] Ĺ ũa=À äk:=by intros;rw[Ņp]
 let f:∀{a b x:M}{zY:zb},p9 x æk 0 [] Ĺ Ùb=À ϥj:=by intros;rw[Ņp]
 rw[Ax];unfold O8;rcases h with h|⟨⟨W,h1⟩,h2⟩;simp only[Ħ,pC,kH,jt,UI,vq,Z2,qS,yt,wj,Ëb,d,c,h];simp only[Ħ,pC,kH,jt,UI,vq,Z2,qS,yt,wj,Ëb,d,c,f,h1,h2]
#print a
def F8:FS:=
 (zt (Κ (e2 xX ýh āb))
  (zt (yn 3 (e2 zS (Η Ϯd (zA ĉd (zA úe (zA ũi (zA ãa (zA Þd (zA ϟj ϊg))))))) (e2 xX ŕg āb)))
  (zt (xh Ñl
   (uQ (e2 kJ Śd (ua Ă ϒg uO)))
   wG)
  (zt (xh (tE Ęm)
   (εa Śd Þd łc)
   wG)
  (zt (xh (tE (e2 yS őg Ģc))
   Çm
   wG)
  (εa Śd (yX ğb) ϒg))))))
def XW:Á D->É ð:=FR 2 4 F8
def z16(x0 x1:D):XW Åb=vF 4 F8 Åb:=rfl
def F7:FS:=
 (zt (Κ (e2 xX ýh (e2 yq Äc œ)))
  (zt (yn 3 (Η (wg (zA Ϯd ϐc)) (zA (wg (zA Ëh ϐc)) (zA (wg (ζ (Α Ϯd))) (zA (wg (zA Ĉd (Ζ Ĕo))) (zA (wg (zA úe Ĩc)) (zA (wg (zA Ģc ŭo)) (zA (yX (zA Ŀ Ĩc)) (zA (wg (λ_=>À (Ĩb Ϝa [1,2,3]))) (zA (wg ũo) (zA ãa (zA ϖd (Α (wg (zA ãa ϐc)))))))))))))))
  (zt (yn 4 (e2 zS Ţ (e2 xX ŕg (eC śf))))
  (zt (xh Ñl
   Çm
   wG)
  (zt (xh (Εb Ęm (e2 xn Ă Ϲf))
   (εa Śd (yX (Α (wg (zA (e2 zS (e2 zS Ă (e2 xX ŕg Äc)) Ŀ) (Θ (e2 xX ýh ŷa)))))) łc)
   wG)
  (εa Śd (yX Ŋf) łc))))))
def V7:Á D->É ð:=FR 2 5 F7
def z15(x0 x1:D):V7 Åb=vF 5 F7 Åb:=rfl
def y55{n:Ä}{k:Ê}(b:0<=k)(a:k<=(n:Ê)):ę n n ıb=ň:=by
 let h:=Ío n ıb
 rw[šp]
 let c:k=((ę n n ıb:Ä):Ê):=én h;omega
def y56{n:Ä}{k:Ê}(b:0<=k)(a:k<=(n:Ê)):ę n 0 ıb=ň:=by
 let h:=ŝn n ıb
 rw[šp]
 let c:k=((ę n 0 ıb:Ä):Ê):=én h;omega
def y54{n:Ä}:ę n 0 Â=0:=by let h:(0:Ê)=((ę n 0 Â:Ä):Ê):=ŝn n Â;omega
def y57{n:Ä}:ę n n Â=n:=by let h:(n:Ê)=((ę n n Â:Ä):Ê):=Ío n Â;omega
def eN{f g:FE}{τ:zw}{L:Á D}{k:Ê}(h:f τ=À Ŵi)(hk:g τ=À ŷi)(a:0<=k)(b:k<=(òa:Ê)):ua f uO (uP g) τ=À Ťo:=by rw[ĳp];exact À (ŀe ((åc (ę òa 0 Â)).take (ę òa òa ıb-ę òa 0 Â)))=_;rw[y54,y55 a b,Ďh,Śh]
theorem Kc{f g:FE}{τ:zw}{L:Á D}{k:Ê}(h:f τ=À Ŵi)(hk:g τ=À ŷi)(a:0<=k)(b:k<=(òa:Ê)):ua f (uP g) uO τ=À ćm:=by rw[ĳp];exact À (ŀe ((åc (ę òa 0 ıb)).take (ę òa òa Â-ę òa 0 ıb)))=_;rw[y57,y56 a b,ąc (by rw[Ăa];show ϔ _)]
theorem To{x y:Á D}(h:şa+Ìc<=1000):kJ (.lst x) (.lst y)=À Āf:=by exact ék=_;rw[Ö ōg]
theorem O4{x y:Á D}(h:şa+Ìc<=1000):yq (.lst x) (.lst y)=À Āf:=by exact ék=_;rw[Ö ōg]
theorem YX{i j:Ê}:yS Ěa (.int j)=À (Τ (i=j)):=by exact À (üc Įe)=_;rw[show Įe=decide (i=j)from rfl]
inductive Sh:Ò->D->Æ
 |ZH {ds:Á D} (h:ĉ<=1000):Sh Ã êb
 |IK {ds:Á D}:Sh Å Ýe
def x4n(c:Ê):∃d,zS (.lst Ħj) Éd=À d/\Nm d/\nb d=Å:=
 Qa (P:=λd=>Nm d/\nb d=Å) c (n:=8) (l:=Ħj) rfl Û
  (xF {Ze.1,Ze.2} (xF {Ze.1,Ze.2} (xF {rfl,rfl} (xF {rfl,rfl} (xF {rfl,rfl} (xF {rfl,rfl} (xF {Ze.1,Ze.2} (xF {rfl,rfl} Tb))))))))
def z58{W:Á Ê}{d:D}(h:d∈wI W):Nm d:=by let{w,_,rfl}:=ža h;show Ze.1
def y5u{W:Á Ê}(E:ŋi=8)(c:Ê):∃o d,XW [.lst ġa,.int c]=À (o,d)/\tV [d]=À Ïa/\Sh o d:=by
 let{d,f,O,C}:=x4n ĉj;let m:(ġa).length=8:=by rw[Mf];show E
 let p:∀d∈wI W,Nm d:=λd h=>z58 h
 let g:gM 10 12=Ã:=by rfl
 generalize hk:c/8%8=k;have n:0<=k:=by rw[<-hk];show ϭc _ Û
 have Q:k<8:=by rw[<-hk];show Ϙc _ Û
 generalize wI W=L at *;let j:∀{x y:D},ua Ă uO łc ęg=À Ťo:=λ{x y}=>eN rfl rfl n Î
 let J:∀{x y:D},ua Ă łc uO ęg=À ćm:=λ{x y}=>Kc rfl rfl n Î
 let l:∀{x y:D},ua Ă ϒg uO ęg=À (Δ Ŷl):=λ{x y}=>Kc rfl rfl Î Î
 let P:(ϵk).length=ň:=by rw[Ôa];omega
 let R:(åc ň).length=8-ň:=by rw[Ăa,m]
 let v:(Ŷl).length=8-(ĸ).toNat:=by rw[Ăa,m]
 let t:∀d∈L.take ň,Nm d:=λd h=>p d (ϔc h)
 let G:∀d∈åc (ĸ).toNat,Nm d:=λd h=>p d (Řd h)
 let s:Xn [.lst L]=À (.tup L):=rfl;generalize L.take ň=A at *;generalize åc ň=B at *;generalize åc (ĸ).toNat=B1 at *
 let F:XW [.lst L,.int c]=if c%8=1 then À (Ã,.lst (A++B1))else if c%8=2 then À (Ã,.lst (A++[.int 0]++B))else if c%8=3 then À (Å,.tup L)else À (Ã,.lst Ŭh):=by let N:=To (x:=A) (y:=B1) Î;let r:=O4 (x:=A) (y:=ÿd) ől;let u:=To (x:=A++[.int 0]) (y:=B) ώe;let H:=O4 (x:=A) (y:=[d]) ől;let w:=To (x:=A++[d]) (y:=B1) ώe;let b:yS Éd ča=À ϲm:=YX;let e:yS Éd ņc=À ϱm:=YX;let i:yS Éd Čd=À (Τ (c%8=3)):=YX;rw[z16];unfold F8;by_cases h1:c%8=1;rw[Ö h1];rw[Ĵ h1]at b;simp only[Ħ,hk,f,g,b,j,l,N];rw[Ø h1];rw[ϣ h1]at b;by_cases h2:c%8=2;rw[Ö h2];rw[Ĵ h2]at e;simp only[Ħ,hk,f,g,b,e,j,J,r,u];rw[Ø h2];rw[ϣ h2]at e;by_cases h3:c%8=3;rw[Ö h3];rw[Ĵ h3]at i;simp only[Ħ,hk,f,g,b,e,i,s];rw[Ø h3];rw[ϣ h3]at i;simp only[Ħ,hk,f,g,b,e,i,j,l,H,w]
 rw[F];by_cases h1:c%8=1;rw[Ö h1];show{_,_,rfl,iA ?_,.ZH ?_};rw[ϩp];rw[ϩp];rw[Ø h1];by_cases h2:c%8=2;rw[Ö h2];show{_,_,rfl,iA ?_,.ZH ?_};rw[ċp];rw[ċp];rw[Ø h2];by_cases h3:c%8=3;rw[Ö h3];show{_,_,rfl,x4l,.IK};rw[Ø h3];show{_,_,rfl,?_,.ZH ?_};let q:(Ŭh).length=8:=by rw[ċp]
 let I:∀x∈A++[d]++B1,Nm x:=by intro x a;rcases ōa a with a|a;rcases ōa a with a|a;show t x a;cases źa a;show O;show G x a
 let K:¬ (Ŭh).all nb=Ã:=by intro z;let:=ŋa z d (Ċc _ (ņa _ Śo));rw[C]at this;rw[ϛp]
 rw[i8 q I,Ø K];rw[ċp]
def x4m(c:Ê):∃d,zS (.lst Ĕj) (.int (c%12))=À d/\gl [d]=À (Å,.bl Å):=
 Qa (P:=λd=>gl [d]=À (Å,.bl Å)) c (n:=12) (l:=Ĕj) rfl Û
  (xF rfl (xF rfl (xF rfl (xF rfl (xF rfl Ęg)))))
def y5t{ps:Á ĺ}(P:k6 ps)(hl:Ĉ<=6)(c:Ê):∃o d,V7 [.lst Ŏ,.int c]=À (o,d)/\qK [d]=À Ïa/\Sh o d:=by
 let{w,A,X}:=x4m ĉj;let H:(Ŏ).length=Ĉ:=þ ..;generalize hn:((Ŏ).length:Ê)+1=n;let n1:1<=n/\n<=7:=by omega
 let v:decide (0<n)=Ã:=Ĵ Î;generalize hk:c/8%n=k;have O:0<=k:=by rw[<-hk];show ϭc _ Î
 have k1:k<n:=by rw[<-hk];show Ϙc _ Î
 let Q:c/8%2=0\/c/8%2=1:=by omega
 let E:∀{x y z:D},ua Ă uO łc ĵj=À (Δ ((Đb).map pD)):=λ{x y z}=>by rw[List.map_take];show eN rfl rfl O Î
 let G:∀{x y z:D},ua Ă łc uO ĵj=À (Δ ((ϰb).map pD)):=λ{x y z}=>by rw[List.map_drop];show Kc rfl rfl O Î
 let m:(Đb).length<=6:=by rw[Ôa];omega
 let B:(ϰb).length<=6:=by rw[Ăa];omega
 let W:ϒi ň++ps.drop ň=ps:=Ňa ..;let R:Xn Ái=À (.tup Ŏ):=rfl;let g:∀{q:Á ĺ},q.length<=6->(q.map pD).length<=6:=λ{q} h=>by rw[þ];show h
 let N:=O4 (x:=(Đb).map pD) (y:=[w]) Ďk;let J:=To (x:=(Đb).map pD++[w]) (y:=(ϰb).map pD) Żj;let r:yS Éd ča=À ϲm:=YX;let s:yS Éd ņc=À ϱm:=YX;let L:∀p∈ϒi ň,Rg p:=λp h=>P.rg p (ϔc h)
 let i:qK [.lst Äk]=À Ïa:=by show A7 ?_;rw[Ř];show Sf L Üf Ől (.inr {w,_,rfl,X})
 let b:Sh Ã (Δ Äk):=.ZH (by let:=g m;let:=g B;rw[ċp])
 rw[z15];unfold F7;by_cases h1:c%8=1;rw[Ĵ h1]at r;show{Å,.tup Ŏ,?_,og,.IK};simp only[Ħ,ðb,hn,v,hk,A,r,R];rw[ϣ h1]at r;by_cases h2:c%8=2;rw[Ĵ h2]at s;by_cases hz:ps=[];let F:xn Ťb ìd=À Ća:=by rw[hz];rfl
 show{Ã,_,?_,i,b};simp only[Ħ,ðb,hn,v,hk,A,r,s,F,E,G,N,J];let{p0,pr,C}:=đk hz
 let{x,I,p,t,rfl}:=Qa (P:=λd=>∃p∈ps,d=pD p) ĉj (n:=(Ĉ:Ê)) (l:=Ŗ pD) (by rw[H]) (by rw[C,Ĩ];omega) (λd T=>by let{p,h,rfl}:=ža T;show{p,h,rfl})
 let dz:decide (0<((Ŏ).length:Ê))=Ã:=Ĵ (by rw[H,C,Ĩ];omega);rw[<-H]at I;let F:xn Ťb ìd=À Îa:=by rw[C];rfl
 let Y:zS êg Ŭ=À Ýd:=rfl;let Z:=O4 (x:=(Đb).map pD) (y:=[.tup Že]) Ďk;let U:=To (x:=(Đb).map pD++[.tup Že]) (y:=(ϰb).map pD) Żj;show{Ã,.lst ((Đb).map pD++[.tup Že]++(ϰb).map pD),?_,A7 ?_,.ZH ?_};simp only[Ħ,ðb,hn,v,hk,A,r,s,F,E,G,dz,I,Y,Z,U];let e:(Đb).map pD++[.tup Že]++(ϰb).map pD=(ϒi ň++(p.1,c/8%2)::ps.drop ň).map pD++[]:=by rw[ŏ,Ďb,ϰ,Ř];rfl
 rw[e];show Sf (λq j=>?_) Üf ?_ (.inl λK=>?_);rcases ōa j with j|j;show L q j;rcases ř j with rfl|j;show{P.ad p t,by exact 0<=c/8%2/\c/8%2<256;omega};show P.rg q (Řd j);rw[ϝc,ï,Ĩ];omega;rw[îh,Ďb,ϰ]at K;let S:=List.perm_middle (a:=p.1) (l₁:=(Đb).map (·.1)) (l₂:=(ϰb).map (·.1));let u:=S.nodup_iff.mp K;rw[<-Ďb,W]at u;show(īg u).1 (ϝg (f:=(·.1)) t);let:=g m;let:=g B;rw[ċp];rw[ϣ h2]at s;show{Ã,_,?_,i,b};simp only[Ħ,ðb,hn,v,hk,A,r,s,E,G,N,J]
def o7:FS:=
 (zt (yn 2 ęm)
  (yH (qP (tE (e2 Âc (e2 gH ŷa Ă) ĵ)) Ă (e2 ZS Ă ĵ))))
def Ih:Á D->É ð:=FR 2 3 o7
def nO:FS:=
 (yH (e2 yS Ϧe (eC (.str ϊi))))
def IX:Á D->É ð:=FR 1 1 nO
def nN:FS:=
 (yH (e2 ZR Ϧe (eC CM)))
def Bz:Á D->É ð:=FR 1 1 nN
def x4w:FE:=Ė
def x54:FT:=(μ (za IX àa))
def o6:FS:=
 (uQ (wf 1 Žf ķb x54 x4w))
def Ig:Á D->É ð:=FR 1 1 o6
def z2s:FS:=(xh (tE (za IX ğb))
     (Vy 1 Ñf ĵ)
     (Κ (e2 ûh ĵ œ)))
def nS:FS:=
 (zt Éi
  (zt âo
  (zt (kj Žf ÿj
   z2s)
  İe)))
def D2:Á D->É ð:=FR 1 4 nS
def x4x:FE:=(qP (tE (za Bz đb)) (e2 zS Ė (e2 zS ĵ Ϯd)) ãa)
def oC:FS:=
 (zt (yn 1 (za D2 Õb))
  (uQ (wf 1 (tu ŷn) Ūa v3 x4x)))
def DA:Á D->É ð:=FR 1 2 oC
def Mh:FE:=(wg (ξ ći))
def Ml:FT:=(tE (e2 xn že Ŀ))
def FD:FS:=
 (uQ (wf 1 (tu (eL C6 Õb)) ķb Ml Mh))
def T7:Á D->É ð:=FR 1 1 FD
def z19(x0:D):T7 Éa=vF 1 FD Éa:=rfl
def nu:FS:=
 (zt (xh (tE (e2 yS Ė (eC (.str "n"))))
   (ν (ζ (Α (Ε (gE CG CO)))))
   wG)
  (yH (e1 (gE Xq Xt) Ė)))
def Ic:Á D->É ð:=FR 2 2 nu
def nj:FS:=
 (yH (za gn (Ν (zA Ćb (Α ŀb)))))
def T6:Á D->É ð:=FR 2 2 nj
def oI:FS:=
 (yH (za V8 (zA Ă (zA Ćb (zA ŀb đb)))))
def T9:Á D->É ð:=FR 3 3 oI
def x4q:FE:=Ė
def x50:FT:=(tE (e2 xn Ė (eC Ūg)))
def nG:FS:=
 (uQ (wf 1 (tu (Ε (gE CF CN))) ķb x50 x4q))
def IV:Á D->É ð:=FR 1 1 nG
def z2r:FS:=(zt (yn 5 (qP (tE (e2 yS Ţ (eC ϸg))) (e1 (Am CH) åa) åa))
    (Κ (za T9 (Ψ (zA (za Ic (zA Ϧe ğb)) Ći)))))
def nH:FS:=
 (zt (Κ (za T9 (ζ (zA Ϻl àa))))
  (zt (kj (Oo (ux IV Űo) (AW Ă (uP œ) uO)) Ŧi
   z2r)
  (yH ĵ)))
def Bv:Á D->É ð:=FR 2 6 nH
def mx:FS:=
 (yH (za T6 (Ν (Α Ϻl))))
def IT:Á D->É ð:=FR 1 1 mx
def x4s:FE:=ĵ
def x51:FT:=(Ψb (gE VX Vc))
def x4t:FE:=ĵ
def x52:FT:=(Ψb (gE VZ Xs))
def x4u:FE:=ĵ
def x53:FT:=(Ψb (gE VY Xr))
def nR:FS:=
 (zt (kq 1 (wf 1 (iG VX) Ūa x51 x4s))
  (zt (WK 1 (wf 1 (iG VZ) Ūa x52 x4t))
  (zt (WK 1 (wf 1 (iG VY) Ūa x53 x4u))
  (zt (WL 1) (yH (qP (tE (e2 yS Ė Ϲf)) ãa Ćb))))))
def D1:Á D->É ð:=FR 1 2 nR
def nP:FS:=
 (γd (.lst Xs))
def IY:Á D->É ð:=FR 1 1 nP
def nM:FS:=
 (γd (.lst Xr))
def By:Á D->É ð:=FR 1 1 nM
def nK:FS:=
 (zt (yn 3 (za T6 (Ν (Α (za Ic (ξ Šh))))))
  (zt (xh (tE (e2 xn ĵ (eC ϸg)))
   (yH Ţ)
   wG)
  (yH (qP (tE (e2 Âc Ţ (eL jV (Α Ñj)))) (e2 zS Ñj Ţ) ãa))))
def Bw:Á D->É ð:=FR 3 4 nK
def x4v:FE:=(za Bw (Ν (Ψ Ći)))
def n_:FS:=
 (zt (yn 1 (za IT Õb))
  (zt (Κ (za D1 àa))
  (zt (xh Ól
   ăd
   wG)
  (zt (yn 3 (eL Xn (Α (e2 yq (yX Šh) (wf 1 (tu (ux IV Šh)) þj v3 x4v)))))
  (zt (xh (tE (e2 ZR ãa Ţ))
   ăd
   wG)
  (zt (yn 4 (qP (tE (za IY àa)) (za T9 (zA Ă (zA Ϲl ϐc))) Ă))
  (yH (qP (tE (e2 yS (za Bv (zA Ţ àa)) åa)) Ţ ãa))))))))
def D7:Á D->É ð:=FR 1 5 n_
def nF:FS:=
 (zt (xh (tE (e2 Ţh όg Äc))
   ăd
   wG)
  (ν (Ψ (zA (e2 yq Ė ŷa) (Λd (zA (e2 zS Ă όg) (Θ Ūi)))))))
def Bu:Á D->É ð:=FR 3 3 nF
def oE:FS:=
 (zt (xh (qf (tE (e2 Âc Ė Ŀ)) (tE (e2 Ţh Ė Äc)))
   ăd
   wG)
  (zt (Κ (za D7 ći))
  (zt (xh Ól
   ăd
   wG)
  (zt (yn 3 (za IT ći))
  (zt (xh (tE (za By ğb))
   (yH (za Bu (zA Ă (zA Ė đb))))
   wG)
  (zt (xh (tE (za IY ğb))
   (zt (yn 4 Ϲl)
    (εd (Λd (zA (za T6 (zA že (zA åa zF))) (Θ (e2 zS åa œ))))))
   wG)
  (εd (Α ãa))))))))
def Ij:Á D->É ð:=FR 2 5 oE
def z2v:FS:=(zt (Vy 1 ĵ Ţ)
    (zt (yn 2 Ñf)
    Ċk))
def oi:FT:=(tE (e2 VO Ţ ãa))
def oH:FS:=
 (zt Éi
  (zt âo
  (zt Ċk
  (zt (dQ oi
   z2v)
  İe))))
def T8:Á D->É ð:=FR 1 4 oH
def x4o:FE:=ŀb
def mq:FS:=
 (yH (e2 Ah (wf 1 (QV 0) ķb v3 x4o) Ŀ))
def Bk:Á D->É ð:=FR 1 1 mq
def z2w:FS:=(zt (yn 5 (e2 zS åa ŷa))
    (xh (WT (tE (e2 VO ēd ãa)) (Εb (e2 xn ēd ĵ) (e2 Q3 ēd Ė)))
     (yH Ţ)
     wG))
def oK:FS:=
 (zt (yn 1 ύn)
  (zt (Κ (za Bk àa))
  (zt (xh (tE (e2 xn ĵ Äc))
   (yH ĵ)
   wG)
  (zt (kj (QU 1) Ŧi
   z2w)
  ăd))))
def Ik:Á D->É ð:=FR 1 6 oK
def o9:xw:=
 (jr (yn 1 (za Ik Õb))
  (uj (tE (e2 VO Ė ãa)) (Α (AT (Ou (eC (.str "what stands at ")) (Ou (e1 Af Ė) (Ou (eC (.str " can't be read")) aU))))) Ŏa
   (qA (uQ ύn))))
def ZJ:FX:=V0 1 2 o9
def Dy:FS:=
 (uQ (eL p_ (Θ (e1 (xm [Ň] ī) ϵg))))
def qI:Á D->É ð:=FR 1 1 Dy
def z0w(x0:D):qI Éa=vF 1 Dy Éa:=rfl
def Dx:FS:=
 (uQ (ux T7 (Α (e1 (xm Ŝo Ða) (Ε (xm [Ą,ą] ϩ))))))
def qH:Á D->É ð:=FR 1 1 Dx
def z0v(x0:D):qH Éa=vF 1 Dx Éa:=rfl
def mT:FS:=
 (yH ņg)
def V1:Á D->É ð:=FR 1 1 mT
def mZ:FS:=
 (yH (Ε (xm Ĺ œc)))
def V2:Á D->É ð:=FR 1 1 mZ
def z2u:FS:=(Vy 2 Ţ (wg (zA (e2 zS Ė Ţ) (zA (e2 yq Ţ œ) Ŋf))))
def oA:FS:=
 (zt (yn 1 ŷn)
  (zt (kq 2 Ŀg)
  (zt (kj (aG (za DA Õb)) Ŧi
   z2u)
  (Zi 2))))
def Ii:Á D->É ð:=FR 1 5 oA
def O9:vB:=
 (jt (uN 4 (yt (ux Ii àa)))
  (X2 (X1 YE (Ιd (eL OR Ŋf)))
   ęe))
def tU:tT:=U_ 4 5 O9
def Ay(x0 x1 x2 x3:M):tU ϻc=pC 4 5 O9 ϻc:=rfl
def Td:vB:=
 (pF 4 (Z2 ZJ àa)
  (X2 (X1 YE (Ιd (eL jV àa)))
   ęe))
def qJ:tT:=U_ 4 5 Td
def CI(x0 x1 x2 x3:M):qJ ϻc=pC 4 5 Td ϻc:=rfl
def mS:xw:=
 (uj (μ (za V5 àa)) (Ζ (.str "there is no such address")) Ýa
  (qA (yH (za T0 (zA (e1 (xm [Ň] Ða) ϵg) àa)))))
def vk:FX:=V0 2 2 mS
def z2q:yC:=(av 2 ûh œ)
def oh:tf:=(NJ (Ζa (e2 Âc ĵ Ė)) (JH Ňj))
def mU:yC:=
 (xC (uN 2 ŝi)
  (xC (az oh
   z2q)
  (t4 Ŝi)))
def YF:FM:=vM 2 3 mU
def Si:FS:=
 (zt (kq 1 (Η (xB Ĵl ėg) (zA (xB Ϯg (xB ĭk (Ε (vC Ýa Å)))) (zA (xB Ϯg (xB (Ε (vC "BadWords" Å)) ĳl)) Źj))))
  (zt (WK 1 (Η (xB Ϯg ėg) Źj))
  (zt (WL 1) (zt (xh (qf (tE (e2 xn (eL Al àa) œ)) (μ (xB Ĵl (xB ĭk ĳl))))
   (yH Ïf)
   wG)
  (yH (e2 zS (Η üh (zA (eC ħf) (zA (eC Ħf) (zA Ïf (zA Ïf (Ζ (.str Ϸb))))))) (e2 Fy Ė úe)))))))
def YI:Á D->É ð:=FR 1 2 Si
def y2o:∀ds r,YI ds=À r->ĉ=1/\vF 2 Si ds=À r:=yW
def Mg:FE:=(wg (zA ûj (Α ϣi)))
def Mj:FT:=(tE (e2 ϓh ϣi Ŀ))
def YS:yC:=
 (xC (Yd 5 Ëa Ŏa (X4 (tE (e2 yS Ă Ŀ)) (pF 4 (Zp Ą tU (Zq (wU (yX (Α (wg (Θ (eC Ćo))))) ňg))) ęe) (pF 4 (Zp ą qJ (Zq (wU Ė ňg))) ęe)) (t4 (yt (za YI Ći))))
  (xC (Ζc (wf 2 Ëm ťi Mj Mg))
  (xC (jc (jI (qf Çn ęj))
   (t4 (yt Ïf))
   u_)
  (t4 (yt ùe)))))
def vx:FM:=vM 4 7 YS
def Az(x0 x1 x2 x3:M):vx ϻc=jl 4 7 YS ϻc:=rfl
def nU:FS:=
 (zt (yn 0 (e2 gH (eC Æp) (eC (.int 134217728))))
  (zt (yn 1 (Η Þd (zA Ϲf (zA (yX Õb) (Βc (Α (e2 yq Ă œ)) (Ψd (Θ (e2 yq Ă (eC (.int 30))))))))))
  (zt (Κ (Η (yX (Α (e2 yq Ă Ĉd))) (Βc (Α ğk) (Ψd (Θ ğk)))))
  (uQ (e2 kJ (e2 yq Ė (Η (yX Ĩc) (zA (yX (Ζ (.int 4160749568))) (Βc (ζ (Ζ (.int 8388608))) (yX (zA īj zF)))))) ĵ)))))
def IZ:Á D->É ð:=FR 0 3 nU
def EO:FS:=(Lk 3 Ýa (NW (JW (UH vk (xI Ą Ła Ă ĕj)) (UH vk (xI ą Ła Ă ĕj))) Żf) (xh (tE (e2 xn (za YI ğb) (eC Ħf)))
     Żf
     wG))
def F4:FS:=
 (zt (kj (jZ Ŀ Ĉd) Ūa
   EO)
  (yH (e2 yS (eL C5 (Α (xB (za Āe (νb Őm)) (za Āe (ξb Őm))))) ũi)))
def jO:Á D->É ð:=FR 2 4 F4
def z12(x0 x1:D):jO Åb=vF 4 F4 Åb:=rfl
def nV:yC:=
 (xC (uN 1 (A8 (A9 Ã (vZ (qO Ľj) (vZ Ňj (vZ (qO (xB (za V1 (xI Ą Ģb Ă zF)) (za V1 (xI ą Ģb Ă zF)))) (vZ (Xl (pY Ą Įd 0 [] YF Ϭo) (pY ą Įd 0 [] YF Ϭo)) (vZ (qO (xB (za V2 (xI Ą čd Ă zF)) (za V2 (xI ą čd Ă zF)))) (vZ (FV (FW (xB (ux qH (xI Ą Õa Ă zF)) (ux qH (xI ą Õa Ă zF))))) pj)))))))))
  (t4 (qO (VM (e2 yS (eL Ai àa) (eC (.str "[True, False, 0, 0, 0, []]"))) (e2 yS (xB (za qI (xI Ą ϻ Ă zF)) (za qI (xI ą ϻ Ă zF))) ěm)))))
def V6:FM:=vM 1 2 nV
def NX:FE:=(ξd (zA ēd Řj))
def NY:FE:=(ξd (zA Þd Řj))
def Tf:yC:=
 (xC (uN 1 (yt (ux T4 (ωb (zA Ă ϐc)))))
(xC (uN 2 (yt (ux T2 (ωb (Ν Ĩc)))))
(xC (uN 3 (yt (za ZI (Ν (Α ŷa)))))
(xC (uN 4 (yt (e2 xX (za ZI (Ν ũo)) (eC śf))))
(xC (uN 5 (yt (e2 zS (ux IZ zF) åa)))
(xC (Ζc (Η ùe (Θ (e2 zS (yX (zA ùe (zA (eC ħf) zF))) (eL YZ (Α (e2 ϓh åa Ũi)))))))
(L8 7 şj
  (Og Å (qf (tE (e2 yS ϲd œ)) Ðl) (Tv XW (ξ (Α (e2 ZQ Ţ Ĉd))))
  (Og Ã (qf (tE (e2 yS ϲd Ģc)) Ðl) (Tv V7 (Ψ (ωb (Ν (zA Ģc zF)))))
  (aA 7 (xC (jc (jI (Εb (e2 ϓh ϲd Ŀ) (e2 Âc ϲd Ũi)))
    (Ζc (Η üh (Ηc (yX (zA ňl (Θ üh))) (eL YZ (Θ (e2 yS ňl ùe))))))
    u_)
   (xC (jc (Ζa (e2 xn (wf 1 Ġn äg v3 NX) (z7 6)))
    (t4 źf)
    u_)
   (xC (jc (jI (Εb (ZP .list (e2 zS ûj Ŀ)) (ZP .list (e2 zS ûj œ))))
    (xC (L6 7 ϧf)
     (xC (L7 7 ϧf Ė)
     (xC (L6 7 Ϧf)
     (xC (L7 7 Ϧf ĵ)
     (jc (Ζa (e2 xn (wf 1 Ġn äg v3 NY) (Η ùe (Ζ čc))))
      (t4 źf)
      u_)))))
    u_)
   (xC (jc (NK (Χd (vZ ōk pj)) (Χd (vZ (YV ą Ěe Ğb ϥe) pj)))
    (t4 źf)
    u_)
   (t4 (FU (Xm (YU jO) ŉo (vZ ōk Êm)) (Xm (YU jO) ŉo (vZ (YV ą Ěe Ğb žn) Êm))))))))))))))))))
def RN:FM:=vM 1 8 Tf
def z11(x0:M):RN Éa=jl 1 8 Tf Éa:=rfl
nonrec def Vw:D:=.lst Ŵl
nonrec def jq:D:=.dic [.inl 0] [.tup [.tup [.str Ōc],.int 1,.zI]]
def Fc:Á D:=[.lst (wI [0]),.lst (wI []),.lst (wI [2415919104]),.lst (wI [2415919105]),.lst (wI [2818572288,2,2415919134]),.lst (wI [1]),.lst (wI [4160749568]),.lst (wI [0,8388608]),.lst (wI [2818572288]),.lst (wI [2415919109]),.lst (wI [2415919135]),.lst (wI [2818572288,2,2415919135])]
theorem rX:IZ []=À (Ã,.lst Fc):=rfl
def fL:Ii [Vw]=À (Ã,jq):=rfl
inductive Wz:Ò->D->Æ
 |XO {T:D} {ws:Á D} (l:Ëe<=3) (h:ZJ åd=À ãf):Wz Ã àe
 |ZF {ws:Á D} (h:ZJ åd=À īf):Wz Å àe
def rW{w:Ê}(a:0<=w)(b:w<12):∃d,zS (.lst Fc) Ĭc=À d/\Wz (!decide (4<w)) d:=by rcases(show w=0\/w=1\/w=2\/w=3\/w=4\/w=5\/w=6\/w=7\/w=8\/w=9\/w=10\/w=11 by omega)with h|h|h|h|h|h|h|h|h|h|h|h<;>subst h;rw[Ċp];rw[Ċp];rw[Ċp];rw[Ċp];rw[Ċp];rw[õp];rw[õp];rw[õp];rw[õp];rw[õp];rw[õp];rw[õp]
section
variable{T rd md:D}{Ws:Á Ê}{ps:Á ĺ}{ws:Á D}
def Bi(rd md:D):Æ:=tV [rd]=À Ïa\/(∃W,tV [rd]=À ϱk)/\qK [md]=À Ïa
def y2k(b:tV [rd]=À Ųe)(f:qK [md]=À łd) :tU ϛj=À (.inl ([t6 Ą jq 1 Ċb đc ĳg 0 0,.fz Vw,.fz rd,.fz md],.fz .zI)):=by let a:VE Õm 0 []=.p 0 []:=rfl;let c:OR [jq]=À ča:=rfl;let d:=bI .row (T:=jq) (e:=1) b f;rw[Ay];unfold O9;simp only[Ļ,pC,kH,jt,X2,vq,X1,óc,fL,c,a,d]
theorem y2l(h:Bi rd md):tU ϛj=À Ïa:=by let b:VE Õm 0 []=.p 0 []:=rfl;let c:OR [jq]=À ča:=rfl;let a:=bJ .row (T:=jq) (e:=1) h;rw[Ay];unfold O9;simp only[Ļ,pC,kH,jt,X2,vq,X1,óc,fL,c,b,a]
theorem x4g(c:ZJ åd=À ãf)(b:tV [rd]=À Ųe)(f:qK [md]=À łd) :qJ Ģg=À (.inl ([t6 ą T Ëe Ċb đc ĳg 0 0,.fz àe,.fz rd,.fz md],.fz .zI)):=by let a:VE Öm 0 []=.p 0 []:=rfl;let d:=bI .word (T:=T) (e:=Ëe) b f;rw[CI];unfold Td;simp only[Ļ,pC,kH,jt,pF,Z2,wj,Ëb,X2,vq,X1,óc,c,a,d]
theorem x4h(c:ZJ åd=À ãf)(h:Bi rd md):qJ Ģg=À Ïa:=by let b:VE Öm 0 []=.p 0 []:=rfl;let a:=bJ .word (T:=T) (e:=Ëe) h;rw[CI];unfold Td;simp only[Ļ,pC,kH,jt,pF,Z2,wj,Ëb,X2,vq,X1,óc,c,b,a]
theorem i9(a:ZJ åd=À īf):qJ Ģg=À īf:=by rw[CI];unfold Td;simp only[Ļ,pC,kH,jt,pF,Z2,wj,Ëb,X2,vq,X1,óc,a]
#print a
nonrec def tH:Á ĺ->Ê->Ê
 | [],_=>0|p::ps,a=>if p.1=a then p.2 else tH ps a
def z0l{a:Ê}{ps:Á ĺ}(h:a∈Ŗ (·.1)):ŗ Ía Ôc Şa=À ďo:=by
 induction ps with
 |nil=>show Þ h Óa|î p ps ih=>exact ŗ (.inl p.1::kP ps) (.int p.2::vP ps) Şa=_;unfold ŗ tH;by_cases c:p.1=a;rw[Ö (Äa Ŧa c),Ö c];rw[Ø (λz=>c (ϋh z)),Ø c];rw[ϰ]at h;show ih ((ř h).resolve_left λz=>c ğd)
def z21{ps:Á ĺ}{a:Ê}(h:a∈Ŗ (·.1)):zS đc þe=À ďo:=by exact(j6 þe).bind _=_;show z0l h
def x2g{ps:Á ĺ}{p:Ê×Ê}(a:(Ŗ (·.1)).Nodup)(h:p∈ps):tH ps p.1=p.2:=by
 induction ps with
 |nil=>show Þ h Óa|î q ps ih=>rw[ϰ,List.nodup_cons]at a;unfold tH;rcases ř h with rfl|h;rw[Ö rfl];rw[Ø (λz:q.1=p.1=>a.1 (by rw[z];show ϝg (f:=(·.1)) h))];show ih a.2 h
def x2f{a:Ê}{ps:Á ĺ}(h:∀p∈ps,0<=p.2/\p.2<256):0<=tH ps a/\tH ps a<256:=by
 induction ps with
 |nil=>show{Öa 0,show(0:Ê)<256 by decide}|î p ps ih=>
  unfold tH
  split;show h p Ō;show ih λq b=>h q ŋf
def gL(ps:Á ĺ):Á Ê:=L2.isort (Ŗ (·.1))
def gU(ps:Á ĺ)(a:Ê):D:=.tup [.int a,.int űh]
def vO(ps:Á ĺ):Á D:=((Úc).filter λa=>decide ðf).map (gU ps)
def z3q{ps:Á ĺ}{a:Ê}(h:a∈gL ps):a∈Ŗ (·.1):=(İh (Ŗ (·.1))).mem_iff.mp h
def z2d(ps:Á ĺ):Vj Ía=À (Ŗ (·.1)):=by
 induction ps with
 |nil=>rfl|î p ps ih=>exact(Vj Ía).bind _=_;rw[ih];rfl
def z4m{i:Ê}:xn Ěa Ŭ=À (Τ (i≠0)):=by
 exact À (üc (!(i==0)))=_
 congr 2
 by_cases c:i=0;subst c;rfl;rw[Ĵ c];let:(i==0)=Å:=by simpa using c
 rw[this];rfl
def z9u{ps:Á ĺ}:T7 Ŏm=À (Ã,.lst ϻf):=by
 let e1:C6 Ŏm=À (Δ (wI Úc)):=by exact(Vj Ía).bind _=_;rw[z2d];rfl
 let e2:u4 ķb Ml Mh ûk (wI Úc)=À ϻf:=by
  let:=Oz (g:=xG 1) (c:=Ml) (e:=Mh) (σ:=ûk) (λd=>match d with|.int a=>decide ðf|_=>Å) (λd=>match d with|.int a=>gU ps a|d=>d) (ds:=wI Úc) λd f=>by let{n,h,rfl}:=ža f;let b:=z21 (z3q h);show{_,rfl,?_,λ_=>?_};unfold Ml;simp only[Ħ,b,z4m];unfold Mh;simp only[Ħ,b];rfl
  rw[this];unfold vO wI;rw[úm,ãb];rfl
 rw[z19];unfold FD;simp only[Ħ,e1,e2]
theorem z0d(ps:Á ĺ):Xo Ŏ=À (Ŗ (·.1)):=by
 induction ps with
 |nil=>rfl|î p ps ih=>exact(Xo Ŏ).bind _=_;rw[ih];rfl
def y5g{ps:Á ĺ}(P:k6 ps)(m:Ĉ<=6):OT Ái=À (Δ ėl):=by
 let i:(Ŗ (·.1)).zip Ŏ=Ŗ λp=>(p.1,pD p):=by rw[List.zip_map']
 let j:(źg).map (·.1)=Ŗ (·.1):=by rw[ãb];rfl
 let d:(āk).Perm źg:=by
  let e:źg=(Ŗ (·.1)).map λa=>(a,gU ps a):=by
   rw[ãb];show List.map_congr_left λp f=>?_
   exact(p.1,pD p)=(p.1,gU ps p.1);unfold gU;rw[x2g P.nd f];rfl
  rw[e];show(İh (Ŗ (·.1))).map _
 let g:(āk).Pairwise λa b=>a.1<b.1:=by rw[List.pairwise_map];let s:=L2.isort_sorted (Ŗ (·.1));let k:(Úc).Nodup:=(İh (Ŗ λp:Ê×Ê=>p.1)).nodup_iff.mpr P.nd;show(s.and k).imp λh=>Ŀk h
 let c:=L2.oneK (L2.isortK_perm.trans d.symm) (L2.isortK_up (l:=Ŗ λp=>(p.1,pD p)) (by rw[j];show P.nd)) g;exact(Xo Ŏ).bind _=_;rw[z0d];exact(match decide ((Ŗ λp:Ê×Ê=>p.1).Nodup)&&decide ((Ŗ λp:Ê×Ê=>p.1).length<64)with|Ã=>À (ŀe ((L2.isortK ((Ŗ λp:Ê×Ê=>p.1).zip Ŏ)).map λq:Ê×D=>q.2))|Å=>Â)=_;rw[Ĵ P.nd,Ĵ Ŕl,i,c,ãb];rfl
def z1a{ps:Á ĺ}(P:k6 ps){y0 y1 y2 y3 y4 y5 y6:É Sl}:u4 ťi Mj Mg ãk ėl=À ϻf:=by
 let:=Oz (g:=j4 7 8) (c:=Mj) (e:=Mg) (σ:=ãk) (λd=>match d with|.tup [_,.int b]=>decide (0<b)|_=>Å) (λd=>d) (ds:=(Úc).map (gU ps)) λd f=>by let{a,h,rfl}:=ža f;show{[y0,y1,y2,y3,y4,y5,y6,À (Å,.int a),À (Å,.int űh)],rfl,?_,λ_=>?_};rfl;rfl
 rw[this];unfold vO;rw[úm,ãb]
 let e:((λd=>match d with|Ŀe [_,.int b]=>decide (0<b)|_=>Å)∘gU ps)=λa=>decide ðf:=by
  funext a
  exact decide (0<tH ps a)=decide ðf;let:=x2f (a:=a) P.BX;by_cases z:tH ps a=0;rw[z];rfl;rw[Ĵ z,Ĵ Î]
 rw[e];rfl
section
variable{C:Ç}(hC:ZK C){T fw fh:D}{e due done:Ê}{Ws:Á Ê}{a b c:Ò}{ps:Á ĺ}
include hC
theorem y2f:qI ŉj=À (Ã,.lst ŀc):=by let d:p_ ϻh=À Ċb:=rfl;rw[z0w];unfold Dy;simp only[Ħ,An hC,z0b,d]
theorem z3r:qH ŉj=À (Ã,.lst ϻf):=by rw[z0v];unfold Dx;simp only[Ħ,An hC,z0a,z9u]
theorem AX{sd:D}{m:Ç}{F:Á D->É ð}{τ:zw}{fo:FE}{r:D}{q:Ò}(b:fo τ=À Ōg)(c:m ∉ XZ)(h:F ŉg=À (q,r)):xB (za F (xI Ą m fo zF)) (za F (xI ą m fo zF)) τ=À r:=by
 let a:∀x:Ç,za F (xI x m fo zF) τ=match decide Ťc with|Ã=>À r|Å=>Â:=λx=>by
  exact(Φ ěe).bind _=_;rw[b];exact((match decide Ťc&&!(decide (m∈XZ))with|Ã=>À ŉg|Å=>Â).bind _)=_;rw[ϣ c];cases decide Ťc with
  |Å=>rfl|Ã=>exact(F ŉg).bind _=_;rw[h];rfl
 unfold xB;rw[a,a];cases hC with
 |row=>rfl|word=>rfl
theorem z20{sd:D}{τ:zw}{fo:FE}(b:fo τ=À Ōg):xB (e1 (gF Ą Ã) fo) (e1 (gF ą Ã) fo) τ=À Îa:=by
 let a:∀x:Ç,e1 (gF x Ã) fo τ=match decide Ťc with|Ã=>À Îa|Å=>Â:=λx=>by exact(ěe).bind _=_;rw[b];rfl
 unfold xB;rw[a,a];cases hC with
 |row=>rfl|word=>rfl
#print a
def AG:YI [.exc Ëa]=À (Å,.str ϩ):=rfl
def AH:YI [.exc Ŏa]=À (Å,.str ī):=rfl
def rS:YI [.exc Ýa]=À (Å,.str ĕa):=rfl
def jC{f g:yC}{β β1:zb}(h:f β=À (.nx β1)):xC f g β=g β1:=by exact(ϴ).bind _=_;rw[h];rfl
def LA{w:Ê}{ϓ b a:D}{x r:Ç}(hi:w=0/\tU [.obj Ą [] [],.fz Vw,.fz b,.fz a]=À Øa\/w=1/\qJ [.obj ą [] [],.fz ϓ,.fz b,.fz a]=À Øa)(g:x = Ëa/\r = ϩ \/ x = Ŏa/\r = ī) :uc vx [.int w,ϓ,b,a]=À (Å,.str r):=by
 let d:∃β,YS Ļj=À (.rt (.fz (.str r)) (À ŝf::À ħi::À (.fz b)::À (.fz a)::β)):=by
  let e:decide ((Ŏa : Ç) = Ëa)=Å:=by rw[Ôp]
  unfold YS;rcases hi with⟨rfl,hi⟩|⟨rfl,hi⟩;let f:yS Ŭ Ŭ=À Îa:=rfl;rcases g with⟨rfl,rfl⟩|⟨rfl,rfl⟩;show{âk,?_};let c:tU Ņj=À Ïa:=hi;simp only[Ļ,Yd,X4,pF,Zp,Zq,vq,kI,f,c,AG];show{ák,?_};let c:tU Ņj=À īf:=hi;simp only[Ļ,Yd,X4,pF,Zp,Zq,vq,kI,f,c,e,AH];let f:yS ča Ŭ=À Ća:=rfl;rcases g with⟨rfl,rfl⟩|⟨rfl,rfl⟩;show{âk,?_};simp only[Ļ,Yd,X4,pF,Zp,Zq,vq,kI,f,hi,AG];show{ák,?_};simp only[Ļ,Yd,X4,pF,Zp,Zq,vq,kI,f,hi,e,AH]
 let{β,d}:=d;exact(vx [.fz Ĭc,.fz ϓ,.fz b,.fz a]).bind _=_;rw[Az];exact(Φ (YS Ļj)).bind _=_;rw[d];rfl
def b7{C:Ç}(f:ZK C){w:Ê}{ϓ T fw fh:D}{e:Ê}{W:Á Ê}{ps:Á ĺ}{r:Á M}(P:k6 ps)(A:Ĉ<=6)(hi:w=0/\tU [.obj Ą [] [],.fz Vw,.fz éa,.fz Ťb]=À Īg\/w=1/\qJ [.obj ą [] [],.fz ϓ,.fz éa,.fz Ťb]=À Īg) :uc vx [.int w,ϓ,.lst ġa,.lst Ŏ]=À (Å,.str Ĳb):=by
 let k:YS ĭj=À (.rt (.fz čc) čg):=by
  unfold YS;show(jC (β1:=Ģj) ?_).trans ?_;rcases hi with⟨rfl,hi⟩|⟨rfl,hi⟩;let i:yS Ŭ Ŭ=À Îa:=rfl;let g:tU [.obj Ą [] [],.fz (.lst Ŵl),.fz éa,.fz Ťb]=À Īg:=hi;simp only[Ļ,Yd,X4,pF,Zp,Zq,vq,kI,i,g];let i:yS ča Ŭ=À Ća:=rfl;simp only[Ļ,Yd,X4,pF,Zp,Zq,vq,kI,i,hi]
  show(ńl).trans ?_;let B:wj Ģj=ĩj:=rfl;let y:=y5g P A;let n:=z1a P (y0:=À (Å,.int w)) (y1:=À (Å,ϓ)) (y2:=À (Å,.lst ġa)) (y3:=À (Å,.lst Ŏ)) (y4:=Â) (y5:=Â) (y6:=Â);let s:wf 2 Ëm ťi Mj Mg ĩj=À ϒd:=by simp only[Ħ,y,n]
  exact(Φ (wf _ _ _ _ _ (wj _))).bind _=_;rw[B,s];rfl
  show(ńl).trans ?_
  .let t:vH (t6 C T e fw fh Ēg 0 0)=uw C T e fw fh ýk 0 0:=by rw[fO,fP]
   let u:=y2f f (T:=T) (fw:=fw) (fh:=fh) (e:=e) (due:=0) (done:=0) (Ws:=W) (a:=Å) (b:=Å) (c:=Å) (ps:=ps);let o:=z3r f (T:=T) (fw:=fw) (fh:=fh) (e:=e) (due:=0) (done:=0) (Ws:=W) (a:=Å) (b:=Å) (c:=Å) (ps:=ps);let l:=z20 f (T:=T) (fw:=fw) (fh:=fh) (e:=e) (due:=0) (done:=0) (sd:=q_ ġa Å Å Å Ía Ôc) (τ:=ŉe) (fo:=z7 4) rfl;let p:=AX f (F:=qI) (m := ϻ) (τ:=ŉe) (fo:=z7 4) rfl ÿa u;let v:=AX f (F:=qH) (m := Õa) (τ:=ŉe) (fo:=z7 4) rfl ÿa o
   let z:xn éa éa=À Ća:=LK (Ϙe λd j=>by let{x,_,rfl}:=ža j;rfl)
   let E:xn ϒd ϒd=À Ća:=LK (Ϙe λd j=>by let{x,_,rfl}:=ža j;rfl)
   have I:tG čg=ŉe:=by rw[<-t];rfl
   generalize uw C T e fw fh ýk 0 0=dm at *
   let h:qf Çn ęj Ŋe=À Å:=by
    let G:tE ģj Ŋe=À Ã:=by exact(Ϟl).bind _=_;rw[l];rfl
    let H:tE (e2 xn (xB (za qI (xI Ą ϻ åa zF)) (za qI (xI ą ϻ åa zF))) ĵ) Ŋe=À Å:=by exact(Ŕo).bind _=_;rw[p];exact(xn éa éa).bind _=_;rw[z];rfl
    let q:tE (e2 xn (xB (za qH (xI Ą Õa åa zF)) (za qH (xI ą Õa åa zF))) (z7 6)) Ŋe=À Å:=by exact(Ŕo).bind _=_;rw[v];exact(xn ϒd ϒd).bind _=_;rw[E];rfl
    exact(Φ (tE _ _)).bind _=_;rw[G];exact(qf _ _ _)=_;exact(tE _ _).bind _=_;rw[H];show q
   exact(Φ (jI _ _))=_;exact(Φ ((_:FT) (tG _))).bind _=_;rw[I,h];rfl
  rfl
 exact(vx [.fz Ĭc,.fz ϓ,.fz éa,.fz Ťb]).bind _=_;rw[Az];exact(Φ (YS ĭj)).bind _=_;rw[k];rfl
nonrec def zW:Á Ê:=[0,0,0,0,0,0,0,0]
def mE(C:Ç)(T:D)(e:Ê):M:=t6 C T e ţo Ľn (st īi Å Å Å [] []) 0 0
def dE(C:Ç)(T:D)(e:Ê):D:=uw C T e ţo Ľn (q_ īi Å Å Å [] []) 0 0
def fN{C:Ç}{T:D}{e:Ê}:vH (mE C T e)=dE C T e:=by unfold mE dE;rw[fO,fP]
nonrec def Z1:D:=.dic [] []
theorem bK{β:zb}:YV Ą (ji tU) Ğb ϥe β=À (mE Ą Z1 0,β):=rfl
def z3w{β:zb}:YV ą Ěe Ğb ϥe β=À (mE ą Z1 0,β):=rfl
def z3v{β:zb}:YV ą Ěe Ğb žn β=À (mE ą jq 1,β):=rfl
def ss:V6 ϣm=À (ϣm,.fz Îa):=rfl
def su:V6 Ϥm=À (Ϥm,.fz Îa):=rfl
def M0{C x:Ç}(f:ZK C){T z:D}{e:Ê}{τ:zw}{fo g:FE}(b:fo τ=À (dE C T e))(a:g τ=À z):xI x Ła fo đi τ=match decide Ťc with|Ã=>À øn|Å=>Â:=by let d:decide Šl=Å:=ϣ ÿa;exact(ěe).bind _=_;rw[b];exact(match decide Ťc&&!(decide Šl)with|Ã=>((őc).bind λx=>À [x]).bind λc=>À (dE C T e::c)|Å=>Â)=_;rw[d,a];cases decide Ťc<;>rfl
def Sa{C:Ç}(h:ZK C){T:D}{e:Ê}(G:∀x∈[Ϝa (-1),.int 65536,.bl Ã,.zI,.str "0",.int (-65536),.int 1000000000000],vk [dE C T e,x]=À Ĭf)(u:vk Ϝk=À (.inl (Å,.int 0)))(c:Ê) :jO [dE C T e,.int c]=À (Å,.bl Ã):=by
 let v:gM 10 12=Ã:=by rfl
 let I:xn Ħf Ħf=À Ća:=rfl
 let{σ',a,y,rfl}:=ER (g:=xG 2) (b:=EO) (λ_ σ=>∃y,σ=Ŭj) (ds:=jJ 5) (σ:=[À (Å,dE C T e),À (Å,.int c),Â,Â]) 0 {Â,rfl} λi d σ E B=>by
  let{y,rfl}:=B;let{_,rfl}:=x2b E;let{z,s,o}:=Qa (P:=λz=>vk øn=À Ĭf) (c+(i:Ê)) (n:=7) rfl Û G;show{ϒb,ϒb,rfl,.inl ?_,{_,rfl}}
  let k:∀{g:FE},g ϒb=À z->JW (UH vk (νb đi)) (UH vk (ξb đi)) ϒb=À Ĭf:=λ{g} m=>by
   unfold JW UH;rw[M0 h rfl m,M0 h rfl m];cases h with
   |row=>exact(match vk [dE Ą T e,z]with|À d=>À d|Â=>_)=_;rw[o]
   |word=>show o
  let H:∀{q:É Sl},e2 zS (Η Ϯd (zA Ëh (zA úe (zA ãa (zA ũi (zA (e1 jW Ëh) (Α ϟj))))))) (e2 xX (e2 yq Ė ĵ) ϖd) [À (Å,dE C T e),À (Å,.int c),À (Å,.int (i:Ê)),q]=À z:=by intro q;simp only[Ħ,v,ðb,s]
  let j:=k H;unfold EO
  let t:∀{f:xw}{g:FS},f ϒb=À Ĭf->g ēg=À (.nx ēg)->Lk 3 Ýa f g ϒb=À (.nx ϒb):=λ{f g} p J=>by unfold Lk;rw[p];let d:decide ((Ýa : Ç) = Ýa)=Ã:=Ĵ rfl;exact Q1 3 Ýa g ϒb Ýa=_;unfold Q1;rw[d];exact(g ēg).bind _=_;rw[J];rfl
  show t ?_ ?_;unfold NW;rw[j];rfl;simp only[Ħ,rS,I]
 let k:xB (za Āe (νb Ūo)) (za Āe (ξb Ūo)) Ŭj=À Ŭ:=by
  let l:jj vk Ϝk=À (Å,.int 0):=by unfold jj;rw[u];rfl
  unfold xB za;rw[M0 h (z:=.int 65535) rfl rfl,M0 h (z:=.int 65535) rfl rfl];cases h with
  |row=>
   let z:(match(jj vk [dE Ą T e,.int 65535]).bind Śm with|À d=>À d|Â=>Â)=À Ŭ:=by rw[l];rfl
   show z
  |word=>
   let z:(jj vk [dE ą T e,.int 65535]).bind Śm=À Ŭ:=by rw[l];rfl
   show z
 let A:C5 ÿd=À Õf:=rfl;let w:yS Õf Õf=À Îa:=rfl;rw[z12];unfold F4;let F:∀{τ:zw},jZ Ŀ Ĉd τ=À (jJ 5):=λ{τ}=>GR (f:=eC ϯb) rfl Û
 simp only[Ħ,F,a,k,A,w]
theorem m9(c:Ê):jO [dE Ą Z1 0,.int c]=À (Å,.bl Ã):=Sa .row Ęg rfl c
def mB(c:Ê):jO [dE ą jq 1,.int c]=À (Å,.bl Ã):=Sa .word Ęg rfl c
def aB{k:Ò}{a:FT}{d:zw->É ð}{g:M->M->yC}{b c:M}{β:zb}(t:Ò){r:Ò×D}(h:a ϸa=À t)(f:t=Ã->d ϸa=À r)(e:t=Å->ww r=bif k then c else b):Og k a d g b c β=g (bif k then b else ww r) Ŋk β:=by
 exact(Ôj).bind _=_;rw[h];cases t with
 |Ã=>exact(d ϸa).bind _=_;rw[f rfl];rfl|Å=>rw[e rfl];cases k<;>rfl
def Zn{b a:Ò}{d0 d1:D}:vH (.tp Ã [ww (b,d0),ww (a,d1)])=.lst ϥi:=by cases b<;>cases a<;>rfl
inductive RK(W:Á Ê)(ps:Á ĺ)(c c3:Ê)(ϓ:D)(k:Ò):Æ
 |mk (a1 a2 a3 pq o0 o1:Ò) (d0 d1:D) (u:Ç) (q1:yS Êd ča=À (.bl a1)) (q2:yS Êd ņc=À (.bl a2)) (q3:yS Êd Čd=À (.bl a3))
  (s0:match a1||a2 with|Ã=>XW [.lst ġa,.int (c/5)]=À (o0,d0)|Å=>ww (o0,d0)=.own éa)
  (s1:match a3||a2 with|Ã=>V7 [.lst Ŏ,.int c3]=À (o1,d1)|Å=>ww (o1,d1)=.own Ťb) (sh0:Sh o0 d0) (sh1:Sh o1 d1)
  (qq:(decide Üj&&decide Ój)=pq) (du:u=bif pq then(ϩ : Ç)else Ĳb) (m1:uc vx Ϭg=À (Å,.str u)) (m2:uc vx ϫg=À (Å,.str (bif k then ī else u))):RK W ps c c3 ϓ k
section
variable{W:Á Ê}{ps:Á ĺ}{c c3:Ê}{ϓ:D}{k:Ò}(l8:ŋi=8)(hW:∀w∈W,0<=w/\w<4294967296)(P:k6 ps)(lp:Ĉ<=6)
include l8 hW P lp
theorem EU{ϓ:D}:uc vx [.int 0,ϓ,.lst ġa,.lst Ŏ]=À (Å,.str Ĳb):=
 b7 .row P lp (.inl {rfl,y2k ýo ÿo})
theorem a_{T:D}{ws:Á D}(h:ZJ åd=À ãf):uc vx [.int 1,.lst ws,.lst ġa,.lst Ŏ]=À (Å,.str Ĳb):=
 b7 .word P lp (.inr {rfl,x4g h ýo ÿo})
theorem y4z:Sh Ã éa:=.ZH (by rw[Mf];omega)
theorem y4y:Sh Ã Ťb:=.ZH Ŕl
theorem FH{d0 d1:D}(b:Bi d0 d1)(a:Wz (!k) ϓ):uc vx Ϭg=À (Å,.str ϩ)/\uc vx ϫg=À (Å,.str (bif k then ī else ϩ)):=by
 show{LA (.inl {rfl,y2l b}) Ým,?_};cases k with
 |Å=>
  cases a with
  |XO l h=>show LA (.inr {rfl,x4h h b}) Ým
 |Ã=>
  cases a with
  |ZF h=>show LA ϙl Ûm
theorem A_(a:Wz (!k) ϓ):uc vx [.int 1,ϓ,.lst ġa,.lst Ŏ]=À (Å,.str (bif k then ī else Ĳb)):=by
 cases k with
 |Å=>
  cases a with
  |XO l h=>show a_ l8 hW P lp h
 |Ã=>
  cases a with
  |ZF h=>show LA ϙl Ûm
theorem rO(o:Wz (!k) ϓ):RK W ps c c3 ϓ k:=by let r:=NV l8 hW;let{p,d0,n,b0,g}:=y5u l8 (c/5);let{q,d1,i,s,j}:=y5t P lp c3;let e:=y4z l8 hW P lp;let f:=y4y l8 hW P lp;let d:yS Êd ča=À (Τ (c%5=1)):=YX;let a:yS Êd ņc=À (Τ (c%5=2)):=YX;let b:yS Êd Čd=À (Τ (c%5=3)):=YX;rcases(show c%5=0\/c%5=1\/c%5=2\/c%5=3\/c%5=4 by omega)with h|h|h|h|h;rw[Õp];rw[h]at d a b;let{l,m}:=FH l8 hW P lp (d0:=d0) (d1:=.lst Ŏ) Çp o;show{_,_,_,Ã,p,Ã,d0,_, ϩ,by rw[h];show d,by rw[h];show a,by rw[h];show b,n,rfl,g,f,by rw[h];rfl,rfl,l,m};rw[h]at d a b;let{l,m}:=FH l8 hW P lp (d0:=d0) (d1:=d1) Çp o;show{_,_,_,Ã,p,q,d0,d1, ϩ,by rw[h];show d,by rw[h];show a,by rw[h];show b,n,i,g,j,by rw[h];rfl,rfl,l,m};rw[h]at d a b;let{l,m}:=FH l8 hW P lp (d0:=.lst ġa) (d1:=d1) (.inr {{_,r},s}) o;show{_,_,_,Ã,Ã,q,_,d1, ϩ,by rw[h];show d,by rw[h];show a,by rw[h];show b,rfl,i,e,j,by rw[h];rfl,rfl,l,m};rw[Õp]
#print a
section
variable{c:Ê}{ϓ d:D}{d0 d1:D}{u v:Ç}
def Li{τ:zw}:jZ Ŀ ŷa τ=À óh:=rfl
def z30{x0 x1 x2 x3 x4 x6:É Sl}(a:uc vx Ϭg=À (Å,.str u))(b:uc vx ϫg=À (Å,.str v)) :u4 äg v3 NX [x0,x1,x2,x3,x4,À (Å,ϓ),x6,À (Å,.lst ϥi),Â] óh=À þm:=by rw[ĭp];unfold NX;simp only[Ħ,Li,u4,v3,a,b,d,c]
theorem z31{x0 x1 x2 x3 x4 x5 x6:É Sl}(a:uc vx [.int 0,.lst ÿd,d0,d1]=À (Å,.str u))(b:uc vx [.int 1,.lst ÿd,d0,d1]=À (Å,.str v)) :u4 äg v3 NY [x0,x1,x2,x3,x4,x5,x6,À (Å,.lst ϥi),Â] óh=À þm:=by rw[ĭp];unfold NY;simp only[Ħ,Li,u4,v3,a,b,d,c]
#print a
def y2m:∀ns:Á Ê,Ŷ<=63->(∀m∈ns,uZ m<=1048576)->∃r,RN ôh=À (r,.fz Îa):=λns hl hb=>by
 let{W,ew,t,F}:=x4k (pZ ns 0);let{a,X,P,E}:=z9t (pZ ns 1);let c0:=Tr ns (k:=0) Û;let c1:=Tr ns (k:=1) Û;let c2:=Tr ns (k:=2) Û;let c3:=Tr ns (k:=3) Û;let c4:=Tr ns (k:=4) Û;let w0:0<=pZ ns 4%12:=ϭc _ Û;let w1:pZ ns 4%12<12:=Ϙc _ Û;let{ϓ,Z,hc}:=rW w0 w1;let{n,K,J,pq,b,d,h,f,u,q1,H,q3,s,l,C,G,e,Q,m1,m2}:=rO (c:=pZ ns 2) (c3:=pZ ns 3) t F P E hc;let g1:=EU t F P E (ϓ:=.lst ÿd);let R:=a_ t F P E (T:=jq) (ws:=ÿd) rfl;generalize Þb Ϝa=NS at *;generalize pZ ns 0=C0 at *;generalize pZ ns 1=C1 at *;generalize pZ ns 2=c at *;generalize pZ ns 3=C3 at *;generalize pZ ns 4=C4 at *;generalize hw:C4%12=w at *;let cd:=rX;generalize Fc=CL at *
 let zY:Tf Ϛj=À (.rt (.fz Îa) Ēj):=by
  unfold Tf;show(jC (β1:=[À Ĕc,À íd,Â,Â,Â,Â,Â,Â]) ?_).trans ?_;simp only[Ļ,c0,ew]
  show(jC (β1:=[À Ĕc,À íd,À âe,Â,Â,Â,Â,Â]) ?_).trans ?_;simp only[Ļ,c1,X]
  show(jC (β1:=[À Ĕc,À íd,À âe,À Ŝf,Â,Â,Â,Â]) ?_).trans ?_;simp only[Ļ,c2]
  show(jC (β1:=[À Ĕc,À íd,À âe,À Ŝf,À ŝf,Â,Â,Â]) ?_).trans ?_;simp only[Ļ,c4,hw]
  show(jC (β1:=[À Ĕc,À íd,À âe,À Ŝf,À ŝf,À ħi,Â,Â]) ?_).trans ?_;simp only[Ļ,cd,Z]
  show(jC (β1:=ďg) ?_).trans ?_;let j:zS Ĥk ča=À ħf:=rfl;let i:zS Ĥk Ŭ=À čc:=rfl;cases hk:decide (4<w)with
  |Ã=>simp only[Ļ,hk,j,YZ,ĭ,üb]|Å=>simp only[Ļ,hk,i,YZ,Òa,ŕ,üb]
  let B:p_ [.lst ġa]=À éa:=rfl;let A:p_ [.lst ģf]=À Űc:=rfl
  let Y:∀{g:M->M->yC},L8 7 şj g ďg=g (.own éa) (.own Űc) ďg:=λ{g}=>by simp only[Ļ,L8,vZ,pj,B,A]
  show Y.trans ?_;show(aB (r:=(b,h)) (n||K) ?_ éd éd).trans ?_;cases n<;>simp only[Ļ,q1,H,Ĳh,şh];rw[z]at s;simp only[Ļ,s,Tv];rw[z]at s;show s
  show(aB (r:=(d,f)) (J||K) ?_ éd éd).trans ?_;cases J<;>simp only[Ļ,q3,H,Ĳh,şh];rw[z]at l;simp only[Ļ,c3,l,Tv];rw[z]at l;show l
  exact xC _ _ [À Ĕc,À íd,À âe,À Ŝf,À ŝf,À ħi,À (.fz (.lst [.str Ĳb,.str (bif decide (4<w)then ī else Ĳb)])),À (.tp Ã [ww (b,h),ww (d,f)])]=_;show(Ėj).trans ?_;let j:∀{x y:D},zS Ĩf ča=À y:=rfl;let i:∀{x y:D},zS Ĩf Ŭ=À x:=rfl;let l:yS čc čc=À Îa:=rfl;let L:yS ħf čc=À Ća:=rfl;cases Q;cases hk:decide (4<w)with
  |Ã=>
   cases p:decide Üj with
   |Å=>rw[p]at e;cases e;simp only[Ļ,p,Zn,üb,ϴc]|Ã=>
    rw[p]at e;cases q:decide Ój with
    |Å=>rw[q]at e;cases e;simp only[Ļ,p,q,Zn,üb]|Ã=>rw[q]at e;cases e;simp only[Ļ,p,q,Zn,i,j,l,L,YZ,Òa,ŕ,ĭ,üb]
  |Å=>
   cases p:decide Üj with
   |Å=>rw[p]at e;cases e;simp only[Ļ,p,Zn,üb,ϴc]|Ã=>
    rw[p]at e;cases q:decide Ój with
    |Å=>rw[q]at e;cases e;simp only[Ļ,p,q,Zn,üb]|Ã=>rw[q]at e;cases e;simp only[Ļ,p,q,Zn,i,j,l,L,YZ,Òa,ŕ,ĭ,üb]
  show(Ėj).trans ?_;let I:=z30 (x0:=À (Å,.lst NS)) (x1:=À (Å,.lst ġa)) (x2:=À (Å,.lst ģf)) (x3:=À (Å,.int c)) (x4:=À (Å,.int w)) (x6:=À (Å,.lst śj)) m1 m2;let o:∀{x y:Ç},xn Ϗe Ϗe=À Ća:=λ{x y}=>LK rfl
  generalize ŏe=v at I o ⊢;simp only[Ļ,Zn,Li,I,o]
  show(Ņl).trans ?_;let N:=z31 (x0:=À (Å,.lst NS)) (x1:=À (Å,.lst ġa)) (x2:=À (Å,.lst ģf)) (x3:=À (Å,.int c)) (x4:=À (Å,.int w)) (x5:=À (Å,ϓ)) (x6:=À (Å,.lst śj)) g1 R;let o:∀{x y:Ç},xn Ϗe Ϗe=À Ća:=λ{x y}=>LK rfl
  generalize ŏe=v at *;let i:∀{x y:D},zS Ĩf Ŭ=À x:=rfl;let j:∀{x y:D},zS Ĩf ča=À y:=rfl;let a0:∀{x y:M},jT óf ϧf=À x:=rfl;let n:∀{x y:M},jT óf Ϧf=À y:=rfl;let j0:∀{x y v:M},jA óf ϧf v=À (.tp Ã [v,y]):=rfl;let j1:∀{x y v:M},jA óf Ϧf v=À (.tp Ã [x,v]):=rfl;let O:∀{x y:D},vH (.tp Ã [.own x,.own y])=.lst ϖa:=rfl;let z1:decide (0+(ġa).length<=yc)=Ã:=Ĵ (by rw[Mf,t];exact 0+8<=16777216;decide);let S:decide (0+(ģf).length<=yc)=Ã:=Ĵ (by rw[þ];rw[ųp]);cases C with
  |ZH=>
   cases G with
   |ZH=>simp only[Ļ,O,z1,S,üb,i,j,ww,ug,ôb,L6,L7,a0,n,j0,j1,Li,N,o]|IK=>simp only[Ļ,Zn,i,j,ϋd,üb]
  |IK=>simp only[Ļ,Zn,i,j,ϴc,üb]
  show(Ņl).trans ?_;generalize ŏe=v at *;generalize ņj=hs at⊢;simp only[Ļ,vZ,pj,Xm,ZN,bK,z3w,ss,su]
  generalize ŏe=v at *;generalize ņj=hs at *
  let br:YU jO Ϛk=À (Ϛk,.fz Îa):=by unfold YU;exact(jO [vH (mE Ą Z1 0),.int c]).bind _=_;rw[fN,m9];rfl
  let U:YU jO ϛk=À (ϛk,.fz Îa):=by unfold YU;exact(jO [vH (mE ą jq 1),.int c]).bind _=_;rw[fN,mB];rfl
  simp only[Ļ,vZ,pj,Xm,ZN,bK,z3v,br,U]
 show{[.fz (.lst NS)],?_};rw[z11];exact(Tf Ϛj).bind _=_;rw[zY];rfl
#print L3
local macro_rules
 | `(tactic| ac_rfl)=>`(tactic| show⟨rfl,rfl,rfl,by decide +kernel,rfl,by decide +kernel,by decide +kernel⟩)
namespace My
open č L2 L3
set_option maxHeartbeats 4000000
nonrec def top(i:Ä):Ô:=PySem.Challenge.pw_markrun_k39_states_refused.main.body.getD i ϛl
section
variable{P:à}{w:ß}{K:Ï}{mg:Ç->É Value}{È:Heap}{Wt:Ë}{XU:Ë}{Ww:Ë}{Wv:Ë}{Wx:Ë}{Wy:Ë}{Y5:Ë}{Y7:Ë}{Y6:Ë}{Wu:Ë}{ϟg:Ë}{Öd:Ë}{ľo:Ë}{Ãe:Ë}{Čf:Ë}{Ľo:Ë}{Äh:Ë}
abbrev Ll:Ô:=top 35
def KE:zh [Õa,Ða,"pair"] [Õa] (zP Ll):=by ac_rfl
def z77(d:Def K mg ϛd Ll [Õa])(e:mg ăa=Â)(g:mg Ĝ=Â)(b:wm K mg Ëa Öd)(h:xE P w K mg È įf [ģb] 3 (xJ K gl)):gr P w K mg È ϛd [Õa] 4 Ėn:=
 âg d KE Û IP λf j A c s H E a=>(MM (UC (i:=1) KE.nd rfl ò M1)
  (MM (wX Ěk
    ϕh
    wR)
   (WS (Χ (WN .list rfl rfl e g VH ïa)) b WI Ūc rfl œb
    (y6s (y6q z9q rfl ϊf (M3 (w8 (i:=2) KE.nd rfl ò) rfl) (WS (Χ (zy h a rfl ϯa)) b WI Ūc rfl œb
      (WS (yP (Qi (zV a)) Qf (zJ ϱg) (y2x 1) ÿc) b WI Ūc rfl œb
       (JF (zj (MJ (zV a) èg ϱg ϱg))))))
     (JF ϕh)))))
abbrev Lo:Ô:=top 93
def dk:zh [ī,"wrong"] [ī] (zP Lo):=by ac_rfl
def z8w(d:Def K mg Ϸd Lo [ī])(e:wm K mg Ŏa Ãe)(c:xE P w K mg È ôf [ī] 7 (xJ K Ik))(h:xE P w K mg È Šf [ī] 6 (xJ K T8)):gr P w K mg È Ϸd [ī] 8 ėn:=
 âg d dk Û IP λf g A b s H E a=>(MM (xD (i:=1) dk.nd rfl ò (zy c a rfl âb))
  (WS (yP LU LP Ša ėe ś) e WI Ūc rfl (Β (y4c (Kb yV (Kb (y4b Ī) (Kb yV y58)))))
   (JF (δ (k_ h a rfl âb)))))
abbrev Lu:Ô:=top 66
def y4a:zh [ϻ] [ϻ] (zP Lu):=by ac_rfl
def z97(d:Def K mg Ϛd Lu [ϻ])(m:mg ðg=Â)(l:mg ăa=Â)(h:mg Ĝ=Â)(q:mg "all"=Â)(e:wN mg ϡl óa)(g:∀H,zT K H óa óa)(p:wN mg Ÿh Ĝb)(o:∀H,zT K H Ĝb Ĝb)(c:wm K mg Ëa Öd)(n:xE P w K mg È Ĉf Ńf 1 (xJ K qu)):gr P w K mg È Ϛd [ϻ] 2 ĕn:=
 âg d y4a Û IP λf r A b s H E a=>(MM (wX Ěk
   (δ (eJ Źe ďn))
   wR)
  (WS (Υa (Χ (WN .list rfl rfl l h VH ïa)) (Yw (δb üj (qb kE kW rfl m gB (t7 ïa t8)) ďn))) c WI Ūc rfl œb
   (WS (Χ (qb (oj rfl) z74 rfl q oX (t7 (zJ (yJ (t9 rfl (v_ (own:=[ģb]) rfl) ϊf (ψ (λC s H k j=>(Θa (wz ["registers"] [ģb])))) (λC s H k j=>jG) (λC s H k j=>(zy n a rfl (zB Ī (Β (vn p o rfl)))))))) t8))) c WI Ūc rfl œb
    (JF (δ (J6 rfl h âb))))))
abbrev Ln:Ô:=top 104
def KH:zh [Ĺc,Ŷh] [Ĺc] (zP Ln):=by ac_rfl
def z83(d:Def K mg Ϝd Ln [Ĺc])(j:mg ăa=Â)(n:mg Ōh=Â)(I:mg žb=Â)(o:wm K mg Ëa Öd)(r:wm K mg Źh ϟg)(l:wm K mg Ŏa Ãe)(k:wm K mg Ýa Čf)(m:wm K mg ßi Ľo)(p:wm K mg ài ľo)(e:Ē K õ Ëa=À žo)(h:Ē K õ Ŏa=À ſo)(b:Ē K õ Ýa=À ϊo)(c:qG K Öd)(g:qG K Ãe)(a:qG K Čf)(T:ç K Ϩa Ñi=À Å)(Q:ç K ϧa Ñi=À Å)(z:ç K Ϧa Ñi=À Å)(F:ç K Ϩa Ϧa=À Å)(Z:ç K ϧa Ϧa=À Å)(X:ç K Ϧa Ϧa=À Ã)(R:ç K Ϩa ϧa=À Å)(U:ç K ϧa ϧa=À Ã)(B:ç K Ϧa ϧa=À Å)(J:ç K Ϩa Ϩa=À Ã)(L:ç K ϧa Ϩa=À Å)(u:ç K Ϧa Ϩa=À Å)(Ky:ç K Ϩa äh=À Å)(C:ç K ϧa äh=À Å)(v:ç K Ϧa äh=À Å)(Y:ç K Ϩa åh=À Å)(S:ç K ϧa åh=À Å)(x:ç K Ϧa åh=À Å)(O:ç K Ϩa ćb=À Ã)(N:ç K ϧa ćb=À Ã)(y:ç K Ϧa ćb=À Ã):Il P w K mg È Ϝd [Ĺc] 1 ϧo:=
 Def.lT d KH Û y2o λf G A q s H E t=>(e_ (UC (i:=1) KH.nd rfl ò (yg (zB (vQ (ui rfl j e c o rfl J ó) (vQ (ui rfl j h g o rfl L ó) (ui rfl j b a o rfl u ó))) (zB (vQ (ui rfl j e c l rfl R ó) (vQ (ui rfl j h g l rfl U ó) (ui rfl j b a l rfl B ó))) (zB (vQ (ui rfl j e c k rfl F ó) (vQ (ui rfl j h g k rfl Z ó) (ui rfl j b a k rfl X ó))) (Β (vQ (ui rfl j e c r rfl T ó) (vQ (ui rfl j h g r rfl Q ó) (ui rfl j b a r rfl z ó))))))) (yD Śi Û)))
  (e_ (y67 (i:=1) KH.nd rfl ò (Νa (zB (vQ (ui rfl j e c p rfl Y ó) (vQ (ui rfl j h g p rfl S ó) (ui rfl j b a p rfl x ó))) (Β (vQ (ui rfl j e c m rfl Ky ó) (vQ (ui rfl j h g m rfl C ó) (ui rfl j b a m rfl v ó)))))))
  (y6d 1 (y6e (y6k (f9 (qX (aF t)) qW (y4k rfl I A5 Ša) ũb ś) (Yw (Χ (vQ (KO rfl j e c rfl n FN O ó) (vQ (KO rfl j h g rfl n FN N ó) (KO rfl j b a rfl n FN y ó))))))
   (zj (yI yV))
   wR
  (Γ (zf (zd (z1f t)) ze (yJ (yg (zB yV (zB yV (zB yV (zB yV ϖh)))) ċn)) (y4f Ī u7)))))))
abbrev HT:=à->ß->Ï->Þh->Heap->Æ
section
variable{h:Heap}(X:İ h)(G:üa õ mg)
abbrev HQ:Ô:=top 13
def y3t:zh Ńf Ńf (zP HQ):=by ac_rfl
variable(xK:mg ăa=Â)(UK:mg ĺb=Â)(Nb:mg ĝe=Â)
def DN:=HD Ĉf Ńf 1 qu
def z7v(a:zQ K Ĉf HQ):DN P w K mg È:=(Š).oS P w È 0 qu y3t yW λb=>(Δa (Υa (vf (WN .bool rfl rfl xK Nb oU ïa)) (Yw (Χ (WN .int rfl rfl xK UK FP ïa)))) ăf (Lz (u8 z9g qV Âj ïa ýj) (J5 (u8 Yk qV ïa (zJ ϋl) ýj))))
abbrev Gi:Ô:=top 14
def dW:zh [īd,Ϸb,Åd,"total"] Ϟm (zP Gi):=by ac_rfl
variable(VT:wN mg "BEYOND" Ÿc)(Vs:∀H,zT K H Ÿc Ÿc)
def DD:=HD όi Ϟm 1 IR
def z71(a:zQ K όi Gi):DD P w K mg È:=(Ţb).oS P w È 0 IR dW yW λb=>(z_ (xD (i:=3) dW.nd rfl ò (zZ xR xP ļl ĉl)) (Ιb (zB (zZ xq xo ϧ ėh) (Ξ (u8 Eo qV ād (zJ ėh) ïb)))))
abbrev Hz:Ô:=top 15
def dq:zh [īd,Ϸb,"borrow",Ŷb] Èl (zP Hz):=by ac_rfl
def Db:=HD ži Èl 1 D9
def z8y(a:zQ K ži Hz):Db P w K mg È:=(Ţb).oS P w È 0 D9 dq yW λb=>(z_ (xD (i:=3) dq.nd rfl ò (zZ WD WA (zZ WD WA ó Ī) ĉl)) (Δa (yP Yk qV ād Âj ś) (Ιb (zB (zZ xR xP ϧ ėh) Ϧd)) ıl))
abbrev Hq:Ô:=top 18
def y42:zh òh òh (zP Hq):=by ac_rfl
def DY:=HD Þj òh 1 gn
def z8l(a:zQ K Þj Hq):DY P w K mg È:=(Ţb).oS P w È 0 gn y42 yW λb=>(Γ (zZ Em Vo Ľl Ôk))
abbrev Hl:Ô:=top 16
def KL:zh [ώ,ϋi,"moved","fallen"] ëf (zP Hl):=by ac_rfl
variable(gK:wN mg Ÿh Ĝb)(gO:∀H,zT K H Ĝb Ĝb)(tt:DY P w K mg È)
def Rs:=HD łh ëf 2 D4
def z8g(a:zQ K łh Hl):Rs P w K mg È:=(Š).oS P w È 1 D4 KL yW λb=>(z_ (xD (i:=2) KL.nd rfl ò (zZ Yl Yj ó Ī)) (z_ (xD (i:=3) KL.nd rfl ò (θc (zB Ĭ (zB Ϡg Ób)))) (Ιb (zB (Βd Ÿn) źn))))
abbrev Hm:Ô:=top 17
def dh:zh [ώ,ϋi,"fallen"] ëf (zP Hm):=by ac_rfl
def Rt:=HD Ģh ëf 2 D5
def z8h(a:zQ K Ģh Hm):Rt P w K mg È:=(Š).oS P w È 1 D5 dh yW λb=>(z_ (xD (i:=2) dh.nd rfl ò (θc (Ω (zB (zZ WD WA Ī zE) Ób)))) (Ιb (zB Ľl ϯa)))
abbrev K9:Ô:=top 19
def dt:zh [ώ,ċg,Âd,äb,"there"] ùl (zP K9):=by ac_rfl
def Dd:=HD Ųh ùl 1 V8
def z93(a:zQ K Ųh K9):Dd P w K mg È:=(Íi).oS P w È 0 V8 dt y2q λb=>(z_ (xD (i:=4) dt.nd rfl ò (zZ Yl Yj Ôk Ī)) (Γ (zZ bo Vo (zZ Em Vo ó (Zk x27 x26 õa)) (zZ Yl Yj ϧ Ī))))
abbrev Hw:Ô:=top 20
def di:zh [äb,Âd,"power"] Ńo (zP Hw):=by ac_rfl
def Da:=HD įi Ńo 1 Ih
def z8t(a:zQ K įi Hw):Da P w K mg È:=(Š).oS P w È 0 Ih di yW λb=>(z_ (xD (i:=2) di.nd rfl ò ϋl) (Γ (jD (yP Yk qV (zJ (zZ jg Zf zE ó)) Ăd ïb) ó (zZ WD WA ó Ĭ))))
abbrev Gp:Ô:=top 21
def y3b:zh [ώ] [ώ] (zP Gp):=by ac_rfl
variable(gW:mg Œ=Â)(Q8:wN mg ŀn řf)(Qr:∀H,zT K H Oc řf)
def RT:=HD Ϧh [ώ] 2 Bl
def z78(a:zQ K Ϧh Gp):RT P w K mg È:=(Ϧ).oS P w È 1 Bl y3b yW λd=>(Γ (ηd (Ξ (Θc (v_ (own:=[ċg]) rfl) (jE Ťm) (Δe (wz [ώ] [ċg])) (Οa (zy tt d rfl (Ω (zB Ī Ûd))))))))
abbrev KC:Ô:=top 22
def y49:zh ŕi ŕi (zP KC):=by ac_rfl
variable(UL:mg žb=Â)(WW:mg Ĥa=Â)
def De:=HD Õi ŕi 1 DC
def z96(a:zQ K Õi KC):De P w K mg È:=(Ϧ).oS P w È 0 DC y49 yW λd=>(Γ (qb (rL rfl) z8u rfl UL A5 (t7 (zJ (Θc (v_ (own:=[Ła,ċg]) rfl) (KZ rfl WW ó Ťm) (Sn (Οa (ζa (Θa ık) (jh (Νb ık) Vv))) rfl rfl) (Οa (zZ Yl Yj Ī Ĭ)))) t8)))
abbrev HN:Ô:=top 69
def y3r:zh Ûc Ûc (zP HN):=by ac_rfl
def DL:=HD ϥh Ûc 1 IX
def z7t(a:zQ K ϥh HN):DL P w K mg È:=(Ϧ).oS P w È 0 IX y3r yW λb=>(γb (zJ ϙc))
abbrev HM:Ô:=top 70
def y3q:zh Ûc Ûc (zP HM):=by ac_rfl
variable(C9:wN mg "JUMPS" Řf)(GF:∀H,zT K H CM Řf)
def DK:=HD Ûi Ûc 1 Bz
def z7s(a:zQ K Ûi HM):DK P w K mg È:=(Ϧ).oS P w È 0 Bz y3q yW λb=>(Γ (u8 (Qi ĵb) Qf (zJ ϙc) (zJ (vn C9 GF rfl)) ÿc))
abbrev Hv:Ô:=top 71
def y45:zh [ña] [ña] (zP Hv):=by ac_rfl
variable(QK:DL P w K mg È)
def Ry:=HD Ùi [ña] 2 Ig
def z8s(a:zQ K Ùi Hv):Ry P w K mg È:=(Ϧ).oS P w È 1 Ig y45 yW λd=>(zj (tF (t9 rfl (v_ (own:=Ûc) rfl) ϊf (υa (wz [ña] Ûc)) (Ο (WR (Χ (zy QK d rfl őa)))) ĺl)))
abbrev HV:Ô:=top 72
def Qy:zh [ña,ıi,Ģb,"item"] [ña] (zP HV):=by ac_rfl
def Rl:=HD ąh [ña] 2 D2
def z7z(a:zQ K ąh HV):Rl P w K mg È:=(Ϧ).oS P w È 1 D2 Qy yW λb=>(z_ (UC (i:=1) Āg rfl ò M1) (z_ (xD (i:=2) Āg rfl ò zE) (ωa ϊf (M3 (w8 (i:=3) Āg rfl ò) rfl) (zj (wX (vf (zy QK b rfl Ød)) (zj (MJ ĵb èg Ŕd Ĭ)) (zj (y65 (i:=2) aO bg Āg rfl ò zE)))) (UB 1))))
abbrev H_:Ô:=top 73
def dr:zh [ña,ıi] [ña] (zP H_):=by ac_rfl
variable(Cm:Rl P w K mg È)(QP:Ry P w K mg È)(Ch:DK P w K mg È)
def S0:=HD Łh [ña] 3 DA
def z8z(a:zQ K Łh H_):S0 P w K mg È:=(Ϧ).oS P w È 2 DA dr yW λb=>(z_ (xD (i:=1) dr.nd rfl ϥd (zy Cm b rfl âb)) (zj (tF (t9 rfl (v_ (own:=[Ķb]) rfl) (jE ſl) (Εe (wz ["items",ıi] [Ķb])) Ϸe (λC s H d c=>(jD (vf (zy Ch b rfl ϯa)) (zf Ϻ ze Ī (zf Ϻ ze Ĭ òf)) wo))))))
abbrev HK:Ô:=top 37
def y3o:zh [ģb] [ģb] (zP HK):=by ac_rfl
variable(Q6:wN mg Įm ϴa)(Qp:∀H,zT K H ϴa ϴa)(Yb:DN P w K mg È)
def Rk:=HD Ńh [ģb] 2 V5
def z7q(a:zQ K Ńh HK):Rk P w K mg È:=(Ϧ).oS P w È 1 V5 y3o yW λb=>(Γ (zy Yb b rfl (Ω Él)))
abbrev HR:Ô:=top 36
def y3u:zh [ģb] [ģb] (zP HR):=by ac_rfl
variable(vV:mg ðg=Â)(Q7:wN mg Łn óa)(Qq:∀H,zT K H óa óa)(QH:Rk P w K mg È)
def lh:=HD įf [ģb] 3 gl
def z7w(a:zQ K įf HR):lh P w K mg È:=(Ϧ).oS P w È 2 gl y3u yW λb=>(Δa (Υa (Χ (WN .tuple rfl rfl xK gW Ti ïa)) (Yw (Τa óe Âj))) ăf (Lz (zy QH b rfl (zB ϙc zH)) (J5 (zy Yb b rfl (zB ϙc (Ξ ťm))))))
abbrev Ho:Ô:=top 38
def y41:zh [Ða] [Ða] (zP Ho):=by ac_rfl
variable(Jb:mg èb=Â)
def DX:=HD ϣh [Ða] 1 T7
def z8k(a:zQ K ϣh Ho):DX P w K mg È:=(Ϧ).oS P w È 0 T7 y41 yW λb=>(zj (tF (t9 rfl (v_ (own:=[ĕa]) rfl) (jE (yJ (y4v rfl rfl Jb âb))) (ψ (ς (Θa (wz [Ða] [ĕa])))) (ς (WR (yP Ťd qW (zJ še) ũb ś))) (ς (Ι (zB Ī ąi))))))
abbrev Go:Ô:=top 39
def y3a:zh äd äd (zP Go):=by ac_rfl
def DF:=HD Þi äd 1 T0
def z76(a:zQ K Þi Go):DF P w K mg È:=(Š).oS P w È 0 T0 y3a yW λb=>(Γ (y4d ĵb ó Ī zE {rfl,rfl,rfl,rfl}))
abbrev Gk:Ô:=top 40
def y38:zh ýi ýi (zP Gk):=by ac_rfl
def RS:=HD Ņh ýi 2 IS
def z73(a:zQ K Ņh Gk):RS P w K mg È:=(Š).oS P w È 1 IS y38 yW λb=>(μd (zB ļl (zB zE Él)))
abbrev HI:Ô:=top 41
def y3n:zh [ĕa] [ĕa] (zP HI):=by ac_rfl
variable(ju:mg ĭb=Â)(Q9:RS P w K mg È)
def Ri:=HD Ŵh [ĕa] 3 IW
def z7o(a:zQ K Ŵh HI):Ri P w K mg È:=(Ϧ).oS P w È 2 IW y3n yW λd=>(ψd (v_ (own:=[äb]) rfl) (υa (wz [Ĳo] [äb])) (Ο (zy Q9 d rfl Ćn)))
abbrev KA:Ô:=top 42
def y48:zh äd äd (zP KA):=by ac_rfl
variable(EA:De P w K mg È)(QF:Ri P w K mg È)(Xu:DF P w K mg È)
def S6:=HD Öi äd 4 DB
def z94(a:zQ K Öi KA):S6 P w K mg È:=(Š).oS P w È 3 DB y48 yW λb=>(Γ (zy EA b rfl (Ξ (yJ (t9 rfl (v_ (own:=[īd]) rfl) (jE Ŷk) (Εe (wz [Ða,Ĳo] [īd])) Ϸe (λC s H d c=>(zy Xu b rfl (zB ó ϯa))))))))
abbrev Hs:Ô:=top 43
def y44:zh ϑd ϑd (zP Hs):=by ac_rfl
def Rv:HT:=λP w K mg È=>xE P w K mg È Ϣh ϑd 2 (yY K Ie)
def z8n(a:zQ K Ϣh Hs):Rv P w K mg È:=(Ţb).oM P w È 1 Ie y44 vj λb=>(w6 (Qe ĵb ţ Ī (wF (Βd (Β ťm)))))
abbrev Ht:Ô:=top 44
def KM:zh [Ða,ĕa,ώ,īd,Ła] ϑd (zP Ht):=by ac_rfl
variable(QO:Rv P w K mg È)(CS:RT P w K mg È)
def Rw:HT:=λP w K mg È=>xE P w K mg È ϡh ϑd 4 (yY K D6)
def z8o(a:zQ K ϡh Ht):Rw P w K mg È:=(Ţb).oM P w È 3 D6 KM vj λb=>(w6 (z40 ŷc rfl (KZ rfl WW Ŷk (zy CS b rfl ϯa)) (z3s (ζa (w8 (i:=3) KM.nd rfl ò) (jh (w8 (i:=4) KM.nd rfl ò) Vv)) rfl rfl Û Û) (Λb (W4 QO b rfl (jd ţ (w_ ϧ (w_ õa t5)))))))
abbrev Gg:Ô:=j5 (top 46) 0
def y36:zh Ϻc Ϻc (zP Gg):=by ac_rfl
variable(vt:mg Ĝ=Â)(Mq:mg ϗ=Â)(Ya:wN mg "MARKS" ŗf)(Yn:∀H,zT K H Vb ŗf)(xz:we K [Ň] ī)(qy:we K [Ň] şb)(qN:we K [Ň] Ða)
def z6z{f:Ë}{a:ĝ}(d:xV K îa Ϡl Gg f a):yT P w K mg È yo 1 f a Ϻc ύo:=d.oM P w mg È 0 V3 y36 vj λe=>(xO (Zc ţ xz ßl) (xO (Zc ţ qy (Qd (y4q rfl rfl Mq A0 (Ξ (Θc (v_ (own:=[ĝd]) rfl) (jE Ėh) (ψ (Ο (w8 (i:=3) (show(wz Ϻc [ĝd]).Nodup by rw[Ôp]) rfl ò))) (Ο ıl)))))) (w6 (Zc ţ qN (Qd (y4r rfl Mq A0 ϯa))))))
abbrev HA:Ô:=top 47
def y3i:zh Ń Ń (zP HA):=by ac_rfl
def DH:HT:=λP w K mg È=>xE P w K mg È Ţf Ń 1 (yY K Br)
def z7h(a:zQ K Ţf HA):DH P w K mg È:=(Š).oM P w È 0 Br y3i vj λb=>(υ (wF Ŵa))
abbrev Gw:Ô:=top 48
def y3e:zh Ń Ń (zP Gw):=by ac_rfl
variable(QR:Dd P w K mg È)
def RW:HT:=λP w K mg È=>xE P w K mg È ıf Ń 2 (yY K Bn)
def z7c(a:zQ K ıf Gw):RW P w K mg È:=(Š).oM P w È 1 Bn y3e vj λb=>(υ (j8 (zy QR b rfl (zB ųc (zB zE (zB zE åf))))))
abbrev Gv:Ô:=top 49
def y3d:zh Ń Ń (zP Gv):=by ac_rfl
def DG:HT:=λP w K mg È=>xE P w K mg È Ĳf Ń 1 (yY K Bm)
def z7b(a:zQ K Ĳf Gv):DG P w K mg È:=(Š).oM P w È 0 Bm y3d vj λb=>(υ (j8 ųc))
abbrev Hx:Ô:=top 51
def y46:zh Ϣg Ϣg (zP Hx):=by ac_rfl
variable(Oh:DD P w K mg È)(E6:Db P w K mg È)
def Rz:=HD Įi Ϣg 2 D8
def z8v(a:zQ K Įi Hx):Rz P w K mg È:=(Íi).oS P w È 1 D8 y46 yW λb=>(z_ (ιc (zB Ĭ Ϧd)) (z_ (ιc (zB Ĭ źn)) (Γ (zy E6 b rfl (zB Ī (zB Ĭ (Ξ (Lz ϧ (J5 (u8 ϩg xQ ïa ĝa ïb))))))))))
abbrev Hk:Ô:=top 52
def y3z:zh ûi ûi (zP Hk):=by ac_rfl
def Rr:HT:=λP w K mg È=>xE P w K mg È Úi ûi 2 (yY K T5)
def z8f(a:zQ K Úi Hk):Rr P w K mg È:=(Š).oM P w È 1 T5 y3z vj λb=>(xO (γa (u8 Ńb xQ Ša ũb ś)) (w6 (γa (Οc (zB Ī (zB (zZ WD WA Ϡg zE) Ób))))))
abbrev HE:Ô:=top 50
def dY:zh [ϩ,Ķb,Ěd] Ń (zP HE):=by ac_rfl
variable(Xx:Rr P w K mg È)(C_:Rz P w K mg È)
def Re:HT:=λP w K mg È=>xE P w K mg È Öc Ń 3 (yY K XV)
def z7k(a:zQ K Öc HE):Re P w K mg È:=(Š).oM P w È 2 XV dY vj λb=>(xO (qT (i:=2) dY.nd rfl ò Û (j8 (zy C_ b rfl (Ιe (zB ųc (Β (zf Ϻ ze ęl yV))))))) (xO (γa ϲg) (xO (Τb (w_ ϲg t5)) (w6 (θ (yP Ťd qW ôe ĝa ś) (Yg ňj Ŵa (wF ϲg)))))))
abbrev HS:Ô:=top 54
def y3v:zh ñh ñh (zP HS):=by ac_rfl
def DO:=HD Ĳi ñh 1 B_
def z7x(a:zQ K Ĳi HS):DO P w K mg È:=(Ţb).oS P w È 0 B_ y3v yW λb=>(z_ (Βa ïa ĝa (zZ Em Vo Ī Ĭ)) (z_ (Βa ïa ĝa (zZ bo Vo Ī Ĭ)) (Γ (zZ z9n Vo Ī Ĭ))))
abbrev Gu:Ô:=top 53
def dX:zh [ϩ,Ķb,ώ] Ń (zP Gu):=by ac_rfl
variable(Cj:DO P w K mg È)
def RV:HT:=λP w K mg È=>xE P w K mg È àd Ń 3 (yY K T1)
def z7a(a:zQ K àd Gu):RV P w K mg È:=(Š).oM P w È 2 T1 dX vj λb=>(xO (qT (i:=2) dX.nd rfl ò Û (j8 (zy Cj b rfl (Ιe (Β ŵl))))) (xO (Τb (w_ Ĭ t5)) (υ Ši)))
abbrev Gz:Ô:=top 55
def KF:zh [ϩ,Ķb,ώ,Ěd] Ń (zP Gz):=by ac_rfl
variable(Cu:Rs P w K mg È)(Cv:Rt P w K mg È)
def RZ:HT:=λP w K mg È=>xE P w K mg È Êe Ń 3 (yY K IU)
def z7f(a:zQ K Êe Gz):RZ P w K mg È:=(Š).oM P w È 2 IU KF vj λb=>(xO (qT (i:=2) KF.nd rfl ò Û (j8 ųc)) (xO (qT (i:=3) KF.nd rfl ò Û (wF (jD (yP Ńb xQ ôe ĝa ś) (zy Cu b rfl Ąn) (zy Cv b rfl Ąn)))) (xO (θ (yP LU LP (zJ Ŕd) ėe ś) (γa (zf Ϻ ze ϧ zE))) (xO (Τb (w_ Ŕd t5)) (υ (wF Ŕd))))))
abbrev Gj:Ô:=top 56
def y37:zh Ń Ń (zP Gj):=by ac_rfl
def RQ:=HD ņh Ń 3 V4
def z72(a:zQ K ņh Gj):RQ P w K mg È:=(Š).oS P w È 2 V4 y37 yW λb=>(Γ (zy Q9 b rfl (zB ŵl åf)))
abbrev Gx:Ô:=top 57
def y3f:zh Ń Ń (zP Gx):=by ac_rfl
variable(ZT:RQ P w K mg È)
def RX:HT:=λP w K mg È=>xE P w K mg È İf Ń 4 (yY K Bo)
def z7d(a:zQ K İf Gx):RX P w K mg È:=(Š).oM P w È 3 Bo y3f vj λb=>(υ (j8 (zy Xu b rfl ęk)))
abbrev Gy:Ô:=top 58
def y3g:zh Ń Ń (zP Gy):=by ac_rfl
variable(E8:S6 P w K mg È)
def RY:HT:=λP w K mg È=>xE P w K mg È ėf Ń 5 (yY K Bp)
def z7e(a:zQ K ėf Gy):RY P w K mg È:=(Š).oM P w È 4 Bp y3g vj λb=>(υ (j8 (zy E8 b rfl ęk)))
abbrev HB:Ô:=top 59
def y3j:zh Ń Ń (zP HB):=by ac_rfl
def Rb:HT:=λP w K mg È=>xE P w K mg È Ėf Ń 4 (yY K Bs)
def z7i(a:zQ K Ėf HB):Rb P w K mg È:=(Š).oM P w È 3 Bs y3j vj λb=>(Λb (W4 QO b rfl Ϟj))
abbrev HC:Ô:=top 60
def y3k:zh Ń Ń (zP HC):=by ac_rfl
variable(Cy:Rw P w K mg È)
def Rc:HT:=λP w K mg È=>xE P w K mg È ĉf Ń 5 (yY K Bt)
def z7j(a:zQ K ĉf HC):Rc P w K mg È:=(Š).oM P w È 4 Bt y3k vj λb=>(Λb (W4 Cy b rfl Ϟj))
abbrev G_:Ô:=top 62
def y3h:zh Ń Ń (zP G_):=by ac_rfl
variable(OZ:wN mg "DEEDS" Ϲo)(OG:YJ K w mg Wu OI AS)(CZ:DH P w K mg È)(CU:RW P w K mg È)(CT:DG P w K mg È)(Xv:Re P w K mg È)(QC:RV P w K mg È)(Oi:RZ P w K mg È)(CV:RX P w K mg È)(CW:RY P w K mg È)(Ca:Rb P w K mg È)(Cc:Rc P w K mg È)
def Ra:HT:=λP w K mg È=>xE P w K mg È ĵi Ń 6 (yY K Bq)
def z7g(a:zQ K ĵi G_):Ra P w K mg È:=(Š).oM P w È 5 Bq y3h vj λb=>(w6 (θ (y6g OZ OG rfl Ŵa) (Zb (z3j OZ OG rfl (Ďa CZ Û (Ďa CU Û (Ďa CT Û (Ďa Xv Û (Ďa Xv Û (Ďa Xv Û (Ďa Xv Û (Ďa Xv Û (Ďa QC Û (Ďa QC Û (Ďa QC Û (Ďa Oi Û (Ďa Oi Û (Ďa CV Û (Ďa CW Û (Ďa Ca Û (Ďa Cc Û vA.nil))))))))))))))))) b Ŵa (jd ţ (w_ Ī t5))))))
abbrev Hj:Ô:=top 63
def y3y:zh Ń Ń (zP Hj):=by ac_rfl
def DW:=HD ſi Ń 1 D3
def z8d(a:zQ K ſi Hj):DW P w K mg È:=(Š).oS P w È 0 D3 y3y yW λb=>(z_ (Βa ôe ĝa ōo) (z_ (Βa ôe ĝa (y4h ōo)) (γb ôe)))
abbrev Hr:Ô:=top 78
def y43:zh ùi ùi (zP Hr):=by ac_rfl
variable(CB:wN mg åm Ϸo)(GI:uo K w Wx CG CO)(CA:wN mg án Ŭ)(GH:∀H,zT K H Ŭ Ŭ)(gJ:wN mg "PLACES" ϵo)(gN:uo K w Wy Xq Xt)
def DZ:=HD èh ùi 1 Ic
def z8m(a:zQ K èh Hr):DZ P w K mg È:=(Š).oS P w È 0 Ic y43 yW λb=>(z_ (Βa Ša ĝa (Ι (zB (vn CA GH rfl) (Ξ (ku CB GI rfl ó))))) (Γ (ku gJ gN rfl Ī)))
abbrev Hn:Ô:=top 79
def y40:zh üi üi (zP Hn):=by ac_rfl
def Ru:=HD ųh üi 2 T6
def z8j(a:zQ K ųh Hn):Ru P w K mg È:=(Š).oS P w È 1 T6 y40 yW λb=>(μd (Ω (zB Ŵa åf)))
abbrev K8:Ô:=top 80
def y47:zh ĳh ĳh (zP K8):=by ac_rfl
def S5:=HD ġh ĳh 2 T9
def z92(a:zQ K ġh K8):S5 P w K mg È:=(Ţb).oS P w È 1 T9 y47 yW λb=>(Γ (zy QR b rfl (Ω (zB Ŵa (zB Ŵa ϯa)))))
abbrev HG:Ô:=top 81
def y3m:zh [ŝa] [ŝa] (zP HG):=by ac_rfl
variable(C8:wN mg "FIELDS" ϸo)(GE:uo K w Wv CF CN)
def DI:=HD Ñh [ŝa] 1 IV
def z7m(a:zQ K Ñh HG):DI P w K mg È:=(Ϧ).oS P w È 0 IV y3m yW λd=>(zj (tF (t9 rfl ϥk (jE (ku C8 GE rfl ó)) (υa (wz [ŝa] [Ëd])) (Ο (WR (yP (qX ĭi) qW Ša ĝa ïb))) ĺl)))
abbrev HH:Ô:=top 82
def Vz:zh [Ķb,ϗa,ώ,Ëd,Ða,äb] Ŀo (zP HH):=by ac_rfl
variable(EH:Ds K XU)(Ve:S5 P w K mg È)(QD:DI P w K mg È)(QN:DZ P w K mg È)
def Rh:=HD ńh Ŀo 3 Bv
def z7n(a:zQ K ńh HH):Rh P w K mg È:=(Š).oS P w È 2 Bv Vz yW λb=>(z_ (εc (zB zE (zB ϸe őa))) (ωa (KZ rfl WW (yJ (k_ QD b rfl (Β ϙc))) (y4j ó (gR zE) gQ)) (οb (w8 (i:=3) Vz.nd rfl ò) (jh (w8 (i:=4) Vz.nd rfl ò) Vv)) (z_ (xD (i:=5) Vz.nd rfl ò (jD (yP Ńb xQ ād ĝa ś) (y4e Ya Yn EH rfl õa) õa)) (zj (εc (zB Ĭ (zB (zy QN b rfl (zB ϙc Ød)) (Β Ċe)))))) (yI Ĭ)))
abbrev Gq:Ô:=top 83
def y3c:zh [ώ] [ώ] (zP Gq):=by ac_rfl
variable(Xy:Ru P w K mg È)
def RU:=HD Ýi [ώ] 3 IT
def z79(a:zQ K Ýi Gq):RU P w K mg È:=(Ϧ).oS P w È 2 IT y3c yW λb=>(Γ (Αc (Ω (zB ϸe zH))))
abbrev HU:Ô:=top 84
def de:zh [ϗa,"found"] [ϗa] (zP HU):=by ac_rfl
variable(OY:wN mg "CODES" ϴo)(GC:uo K w Y5 VX Vc)(VV:wN mg ân ϲo)(GG:uo K w Y7 VZ Xs)(VU:wN mg Ŀn ϳo)(GD:uo K w Y6 VY Xr)(Fq:pR K w Y5 VX Od)(Tz:pR K w Y7 VZ Of)(GP:∀H,å K H Xs Of)(Tx:pR K w Y6 VY Oe)(GO:∀H,å K H Xr Oe)
def DP:=HD Ćh [ϗa] 1 D1
def z7y(a:zQ K Ćh HU):DP P w K mg È:=(Ϧ).oS P w È 0 D1 de yW λd=>(z_ (y68 (i:=1) rfl de.nd rfl rfl ώj rfl (KY OY Fq rfl Û Û) Ĥj (ψb (ku OY GC rfl Ĭ)) Åk) (z_ (Ζd (KY VV Tz rfl Û Û) (ψb (ku VV GG rfl Ĭ))) (z_ (Ζd (KY VU Tx rfl Û Û) (ψb (ku VU GD rfl Ĭ))) (y6c 1 (Γ (jD (yP (xS ĭi) xQ Ša (zJ ŀd) ïb) wo Ęk))))))
abbrev HP:Ô:=top 85
def y3s:zh [ϗa] [ϗa] (zP HP):=by ac_rfl
def DM:=HD ćh [ϗa] 1 IY
def z7u(a:zQ K ćh HP):DM P w K mg È:=(Ϧ).oS P w È 0 IY y3s yW λb=>(νc (yJ (eG rfl rfl vt VV Tz rfl GP Û)))
abbrev HL:Ô:=top 86
def y3p:zh [ϗa] [ϗa] (zP HL):=by ac_rfl
def DJ:=HD ģh [ϗa] 1 By
def z7r(a:zQ K ģh HL):DJ P w K mg È:=(Ϧ).oS P w È 0 By y3p yW λb=>(νc (yJ (eG rfl rfl vt VU Tx rfl GO Û)))
abbrev HJ:Ô:=top 88
def dZ:zh [ώ,ŝa,Ëd,äb] Ϡm (zP HJ):=by ac_rfl
def Rj:=HD Üi Ϡm 3 Bw
def z7p(a:zQ K Üi HJ):Rj P w K mg È:=(Ţb).oS P w È 2 Bw dZ yW λb=>(z_ (xD (i:=3) dZ.nd rfl ò (Αc (Ω (Β (zy QN b rfl ąn))))) (Δa (yP Ťd qW Ăd ĝa ś) ůo (jD (yP Yk qV ād (zJ (qb kE kW rfl vV gB (t7 (zJ Ėh) t8))) ýj) (zf Ϻ ze Ėh ϧ) wo)))
abbrev Hu:Ô:=top 87
def J0:zh Ĩk [ώ] (zP Hu):=by ac_rfl
variable(QB:RU P w K mg È)(Ck:DP P w K mg È)(Cf:Rj P w K mg È)(QL:DM P w K mg È)(Ce:Rh P w K mg È)
def Rx:=HD İi [ώ] 4 D7
def z8r(a:zQ K İi Hu):Rx P w K mg È:=(Ϧ).oS P w È 3 D7 J0 yW λb=>(z_ (xD (i:=1) ąg rfl ò (zy QB b rfl âb)) (z_ (xD (i:=2) ąg rfl ϥd (zy Ck b rfl őa)) (z_ ŏj (z_ (xD (i:=3) ąg rfl ò (ηd (Β (zZ xR xP (yJ (yg ϯa Ŀb)) (yJ (t9 rfl ϥk (jE (yJ (k_ QD b rfl ϯa))) (ψ (Υc (wz Ĩk ["field"]))) Ϸe (ς (zy Cf b rfl (Ω (zB Ĭ (Ξ Ċe))))))))))) (z_ (wX (yP (Qi ĵb) Qf ėe ād ÿc) Ăf wR) (z_ (xD (i:=4) ąg rfl ò (jD (vf (zy QL b rfl őa)) (zy Ve b rfl (Ω (zB ϸe Ób))) ó)) (Γ (jD (yP ϩg xQ (zJ (zy Ce b rfl (zB ϧ őa))) Źf ïb) ϧ wo))))))))
abbrev HF:Ô:=top 91
def y3l:zh Ĵh Ĵh (zP HF):=by ac_rfl
variable(QQ:Da P w K mg È)
def Rf:=HD ĳi Ĵh 2 Bu
def z7l(a:zQ K ĳi HF):Rf P w K mg È:=(Ţb).oS P w È 1 Bu y3l yW λb=>(Δa (yP Eo qV (zJ ľg) óe ś) Ăf (Υb (μc (zB (zf Ϻ ze ó ľg) Ÿn))))
abbrev K6:Ô:=top 90
def Ly:zh [ī,ĕa,Ķb,ϗa,Ģb] Ņo (zP K6):=by ac_rfl
variable(Cz:Rx P w K mg È)(Cg:DJ P w K mg È)(Cd:Rf P w K mg È)
def S3:=HD Øi Ņo 5 Ij
def z90(a:zQ K Øi K6):S3 P w K mg È:=(Š).oS P w È 4 Ij Ly yW λb=>(z_ (wX (Υa (yP Yk qV Ša ũb ś) (Yw (yP Eo qV Ša óe ś))) Ăf wR) (z_ (xD (i:=2) Ly.nd rfl ò (zy Cz b rfl ąi)) (z_ ŏj (z_ (xD (i:=3) Ly.nd rfl ò (zy QB b rfl ąi)) (z_ (wX (vf (zy Cg b rfl Ød)) (Γ (zy Cd b rfl (Ω ąn))) wR) (Δa (vf (zy QL b rfl Ød)) (z_ (xD (i:=4) Ly.nd rfl ò ϸe) (Γ (Υb (μc (zB (Αc (zB še (zB õa zH))) (zB Ļl zH)))))) (Υb (zB wo zH))))))))
abbrev K7:Ô:=top 94
def V_:zh [ī,Ϡ,ĕa,Ěd] [ī] (zP K7):=by ac_rfl
variable(On:S3 P w K mg È)
def S4:=HD Šf [ī] 6 T8
def z91(a:zQ K Šf K7):S4 P w K mg È:=(Ϧ).oS P w È 5 T8 V_ yW λb=>(z_ (UC (i:=1) V_.nd rfl ò M1) (z_ (xD (i:=2) V_.nd rfl ò zE) (z_ Ŏj (z_ (y6b ŷc (yP LU LP ād ėe ś) (z_ (MJ ĵb èg Ĭ ϧ) (z_ (xD (i:=2) V_.nd rfl ò Ŕd) (zj Ŏj)))) ϕh))))
abbrev Gm:Ô:=top 95
def y39:zh [Ϡ] [Ϡ] (zP Gm):=by ac_rfl
variable(Nd:mg ϛa=Â)
def DE:=HD Ķi [Ϡ] 1 Bk
def z75(a:zQ K Ķi Gm):DE P w K mg È:=(Ϧ).oS P w È 0 Bk y39 yW λd=>(Γ (y4g rfl rfl Nd (yJ (y4u (y4t rfl (v_ (own:=[Ěd]) rfl) (y52 (i:=0) rfl ľj) (Δe (wz [Ϡ] ["told"])) ŕe (Οa Ęk)) (sJ (sK 0)))) zE))
abbrev KB:Ô:=top 92
def U0:zh [ī,Ϡ,ũa,ĕa,Ěd,"target"] [ī] (zP KB):=by ac_rfl
variable(Vd:S4 P w K mg È)(CP:DE P w K mg È)
def lj:=HD ôf [ī] 7 Ik
def z95(a:zQ K ôf KB):lj P w K mg È:=(Ϧ).oS P w È 6 Ik U0 yW λb=>(z_ (xD (i:=1) Ľe rfl ò (yJ (k_ Vd b rfl âb))) (z_ (xD (i:=2) Ľe rfl ò (zy CP b rfl őa)) (z_ (wX (Τa Ăd óe) (zj (yI Ĭ)) wR) (z_ (y69 (y66 ŷc rfl (y51 (i:=1) rfl ľj) (οb (w8 (i:=3) Ľe rfl ò) (jh (w8 (i:=4) Ľe rfl ò) Vv)) (z_ (xD (i:=5) Ľe rfl ò Ļl) (zj (wX (gS (JE (yP LU LP śi ėe ś) (JE (Τa śi Ăd) (MK (yP (bn ĵb) bh śi Ša ÿc))))) ůo wR)))) (sH (sI 1))) Ăf))))
abbrev Gc:Ô:=j5 Īb 2
def y34:zh [ġ] [ġ] (zP Gc):=by ac_rfl
variable(gA:we K Ĺ įd)(Xi:we K Ĺ Ϡ)(TW:we K Ĺ ũa)
def z6v{f:Ë}{b:ĝ}(d:xV K šf Ϣl Gc f b):yT P w K mg È yo 1 f b [ġ] Ęi:=d.oF P w mg È 0 YG y34 yW λa=>(Γ (y4i (δd Žn (wW ó TW)) (J5 (δd (zf Ϙb ze ϲj zE) Ďn))))
abbrev GV:Ô:=j5 Īb 1
def y2z:zh [ġ] [ġ] (zP GV):=by ac_rfl
variable(jS:we K Ĺ ϩ)(TY:we K Ĺ ϩb)(TZ:we K Ĺ Ùb)(Xh:we K Ĺ œc)(EI:Io P w K mg È Ň Ϻc 1 ύo)
def z6p{f:Ë}{a:ĝ}(d:xV K îd èm GV f a):yT P w K mg È yo 3 f a [ġ] Ēi:=d.oM P w mg È 2 pP y2z vj λb=>(xO (Zc ţ jS (z3n EI b rfl (jd (tD ţ TZ) (jd (tD ţ TY) t5)))) (xO (Zc ţ gA Äj) (w6 (Zc ţ Xh Äj))))
abbrev Gd:Ô:=j5 Īb 3
def dR:zh [ġ,Ěd] [ġ] (zP Gd):=by ac_rfl
variable(JP:wn P w K mg È Ą šf [ġ] 1 Ęi)(JL:wn P w K mg È ą šf [ġ] 1 Ęi)(CY:Ra P w K mg È)(Ct:DW P w K mg È)
def z6w{f:Ë}{b:ĝ}(d:xV K Ìg Ĭm Gd f b):yT P w K mg È yo 7 f b [ġ] ēi:=d.oM P w mg È 6 YH dR vj λa=>(xO (θ (vf (vQ (pE JP a ó) (pE JL a ó))) ϣd) (xO (qT (i:=1) dR.nd rfl ò Û (j8 ϲj)) (xO (Zb (W4 CY a rfl (jd (tD ţ jS) (w_ Ϫe t5)))) (xO (Zc ţ gA (j8 (jD (vf (zy Ct a rfl (zB Ąh (Β Ϫe)))) Ϫe Ϫe))) (xO (z3z ţ Xh zE) (w6 ϣd))))))
abbrev GZ:Ô:=j5 Īb 5
def y33:zh [ġ] [ġ] (zP GZ):=by ac_rfl
def z6t{f:Ë}{a:ĝ}(d:xV K ϻ êl GZ f a):yT P w K mg È yo 1 f a [ġ] Ėi:=d.oF P w mg È 0 qI y33 yW λb=>(δ (J6 rfl vt (Β (wW Ąh xz))))
abbrev GX:Ô:=j5 Īb 7
def y31:zh [ġ] [ġ] (zP GX):=by ac_rfl
variable(Cw:DX P w K mg È)
def z6r{f:Ë}{a:ĝ}(d:xV K Õa ϣl GX f a):yT P w K mg È yo 2 f a [ġ] ėi:=d.oF P w mg È 1 qH y31 yW λb=>(δ (k_ Cw b rfl (Β żn)))
abbrev GY:Ô:=j5 Īb 9
def y32:zh [ġ] [ġ] (zP GY):=by ac_rfl
def z6s{f:Ë}{a:ĝ}(d:xV K Ģb çm GY f a):yT P w K mg È yo 1 f a [ġ] Ěi:=d.oF P w mg È 0 V1 y32 yW λb=>(Γ Žn)
abbrev Ge:Ô:=j5 Īb 10
def y35:zh [ġ] [ġ] (zP Ge):=by ac_rfl
def z6x{f:Ë}{a:ĝ}(d:xV K čd æm Ge f a):yT P w K mg È yo 1 f a [ġ] ęi:=d.oF P w mg È 0 V2 y35 yW λb=>(Γ (wW ó Xh))
abbrev GU:Ô:=j5 Īb 0
def y2y:zh ŏd ŏd (zP GU):=by ac_rfl
variable(NP:wn P w K mg È Ą îd [ġ] 3 Ēi)(NL:wn P w K mg È ą îd [ġ] 3 Ēi)(EB:gr P w K mg È Ϛd [ϻ] 2 ĕn)(CQ:gr P w K mg È ϛd [Õa] 4 Ėn)
def z6o{f:Ë}{b:ĝ}(d:xV K îa Ğl GU f b):yT P w K mg È ęa 5 f b ŏd ģn:=d.Bc P w mg È 4 YE y2y Bj λa=>(EZ (Zc ţ Xi (wF Ī)) (EZ (Zc ţ TW Ši) (bT ţ TZ (EV EB Qk a rfl Ød) (bT ţ TY (EV CQ Qk a rfl Ąi) (Ec (Λb (LD (Vl NP a ţ) (Vl NL a ţ))))))))
abbrev Hy:Ô:=top 76
def J1:zh [ña,"rows",Ϡ,äb,"target"] [ña] (zP Hy):=by ac_rfl
variable(Nc:mg Ŕb=Â)(E7:S0 P w K mg È)
def R_:=HD çh [ña] 4 Ii
def z8x(a:zQ K çh Hy):R_ P w K mg È:=(Ϧ).oS P w È 3 Ii J1 yW λb=>(z_ (xD (i:=1) Ąg rfl ò ſl) (z_ (UC (i:=2) Ąg rfl ò M1) (ωa (y53 rfl Nc (zy E7 b rfl âb)) (οb (w8 (i:=3) Ąg rfl ò) (jh (w8 (i:=4) Ąg rfl ò) Vv)) (zj (MJ ĵb (qv 2) ϧ (wu (zB (zf Ϻ ze Ī ϧ) (zB (zZ xR xP ϧ zE) Ąi)) ϗe))) (UB 2))))
abbrev Gf:Ô:=j5 (top 75) 0
def dS:zh [ġ,ña,ϻ,Õa,Ϡ] ŭd (zP Gf):=by ac_rfl
variable(JS:Im P w K mg È Éc îa ŏd 5 ģn)(E5:R_ P w K mg È)
def z6y{f:Ë}{b:ĝ}(d:xV K îa ϐk Gf f b):yT P w K mg È ęa 6 f b ŭd ġn:=d.Bc P w mg È 5 tU dS Bj λa=>(EZ (qT (i:=4) dS.nd rfl ò Û (wF (yJ (k_ E5 a rfl őa)))) (Υd (qb rA z8e rfl vV gB (t7 Źf t8))))
abbrev Gh:Ô:=j5 (top 97) 0
def dU:zh [ġ,ī,ϻ,Õa,Ϡ] Ůd (zP Gh):=by ac_rfl
variable(E4:gr P w K mg È Ϸd [ī] 8 ėn)
def z70{f:Ë}{b:ĝ}(d:xV K îa ŧk Gh f b):yT P w K mg È ęa 9 f b Ůd Ģn:=d.Bc P w mg È 8 qJ dU Bj λa=>(z4h (i:=4) dU.nd rfl ò Û (EV E4 Qk a rfl őa) (Υd (qb kE kW rfl vV gB (t7 Ša t8))))
abbrev GW:Ô:=j5 Īb 8
def y30:zh Îc Îc (zP GW):=by ac_rfl
variable(kB:wm K mg Ýa Čf)
def z6q{f:Ë}{b:ĝ}(d:xV K Ła ĭm GW f b):yT P w K mg È ęa 3 f b Îc ťh:=d.lS P w mg È 2 vk y30 IP λa=>(WS (Χ (zy QH a rfl őa)) kB WI Ūc rfl œb (JF (Γ (zy Xu a rfl (zB żn őa)))))
abbrev Gb:Ô:=j5 Īb 4
def KD:zh [ġ,"most",ϋi] ϡd (zP Gb):=by ac_rfl
variable(JQ:wn P w K mg È Ą Ìg [ġ] 7 ēi)(JM:wn P w K mg È ą Ìg [ġ] 7 ēi)
def z6u{f:Ë}{b:ĝ}(d:xV K Įd ϊm Gb f b):yT P w K mg È yo 8 f b ϡd Ĕi:=d.oM P w mg È 7 YF KD vj λa=>(xO (qT (i:=2) KD.nd rfl ò Û Äj) (xO (z44 ŷc (bR (z4b (kU (yP Yk qV Ăd Ša ś)) (z4c (EX (LD (Vl JQ a ţ) (Vl JM a ţ)))))) (w6 (z3y (i:=2) aO bg KD.nd rfl ò Û zE))) (w6 (kT Ši))))
abbrev HX:Ô:=top 99
def y3w:zh úi úi (zP HX):=by ac_rfl
def DQ:=HD Ĉh úi 1 ZI
def z82(a:zQ K Ĉh HX):DQ P w K mg È:=(Š).oS P w È 0 ZI y3w y2n λb=>(z_ (wX (yP Yk qV Ša óe ś) (Γ še) wR) (zj (yI zE)))
abbrev Hd:Ô:=top 100
def dg:zh [Ėa,ϵb,ſm] ńf (zP Hd):=by ac_rfl
def DT:=HD ŉh ńf 1 g7
def z87(a:zQ K ŉh Hd):DT P w K mg È:=(Š).oS P w È 0 g7 dg yW λb=>(z_ (xD (i:=2) dg.nd rfl ò (Λ (zZ jg Ek (zZ xR xP ó Éh) zE))) (Γ (Λ (zZ xR xP (zZ xR xP (zZ z9h z8i Ĭ Ĭ) (zZ jg Zf zE Ĭ)) Ī))))
abbrev Hh:Ô:=top 101
def Lx:zh [Ėa,ϵb,Šg,ſm,Ŷh] ńf (zP Hh):=by ac_rfl
variable(kM:DT P w K mg È)
def Rp:=HD ŵh ńf 2 T3
def z8b(a:zQ K ŵh Hh):Rp P w K mg È:=(Š).oS P w È 1 T3 Lx yW λb=>(z_ (xD (i:=2) Lx.nd rfl ò (Λ (Λa (Β Éh)))) (z_ (xD (i:=3) Lx.nd rfl ò (Λa (Β (zZ xR xP Éh zE)))) (z_ (xD (i:=4) Lx.nd rfl ò (yJ (yg (zB zE (zB zE (zB zE (zB zE (zB Ϸc (Β ϊl)))))) ċn))) (Γ (zf Ϻ ze (zZ xR xP õa (Νa (zB Ėk (Ξ Ėk)))) Ĭ)))))
abbrev Hi:Ô:=top 102
def y3x:zh [Ėa] [Ėa] (zP Hi):=by ac_rfl
variable(Cr:Rp P w K mg È)
def Rq:=HD Ňh [Ėa] 3 T4
def z8c(a:zQ K Ňh Hi):Rq P w K mg È:=(Ϧ).oS P w È 2 T4 y3x yW λd=>(ψd (v_ (own:=[ϵb]) rfl) (υa (wz ["_law_cell"] [ϵb])) (Ο (zy Cr d rfl Ćn)))
abbrev He:Ô:=top 103
def Q_:zh ŕj [Ėa] (zP He):=by ac_rfl
def Ro:=HD ňh [Ėa] 2 T2
def z88(a:zQ K ňh He):Ro P w K mg È:=(Ϧ).oS P w È 1 T2 Q_ yW λb=>(z_ (UC (i:=1) āg rfl ò (yg zH (yD yF Û))) (ωa (U3 rfl ju (Λ (zy kM b rfl (zB ó Ób)))) (M3 (w8 (i:=2) āg rfl ò) rfl) (z_ (xD (i:=3) āg rfl ò (Λa Ůo)) (z_ (xD (i:=4) āg rfl ò (ςc (zB Ϸc (zB ϊl (Β Ϸc))) Ůo)) (zj (wX (y6h (yP (bn ĵb) bh Źf (zJ (yJ (t9 rfl (v_ (own:=ϥm) rfl) (jE Ī) (ψ (Υc (wz ŕj ϥm))) Ϸe (ς (zf Ϻ ze Ċe zE))))) ÿc)) (zj (y64 èg (Ι (zB õa (Β (ςc (zB (Λ (Λa Źn)) (zB zE Ûd)) Źn)))))) wR)))) (UB 1)))
abbrev Hc:Ô:=top 105
def Qz:zh Ęj ħk (zP Hc):=by ac_rfl
variable(Tn:wm K mg ϧh Äh)(ut:wm K mg Ëa Öd)(gC:wm K mg Ŏa Ãe)(Ϻd:Ē K õ Ëa=À žo)(Ϲd:Ē K õ Ŏa=À ſo)(ők:V9 K mg Ą Éc Ã)(Ĺk:V9 K mg ą Éc Ã)(ϝe:Ŀa K Ϩa Ði=À Ã)(ðl:Ŀa K ϧa Ði=À Ã)(èf:Iq P w K mg È Ą ŭd 6 ġn)(Ùf:Iq P w K mg È ą Ůd 9 Ģn)(JN:wn P w K mg È Ą Õa [ġ] 2 ėi)(JO:wn P w K mg È Ą ϻ [ġ] 1 Ėi)(JJ:wn P w K mg È ą Õa [ġ] 2 ėi)(JK:wn P w K mg È ą ϻ [ġ] 1 Ėi)(QM:Il P w K mg È Ϝd [Ĺc] 1 ϧo)
def Rn:HT:=λP w K mg È=>xE P w K mg È ŷh ħk 11 (yY K vx)
def z86(a:zQ K ŷh Hc):Rn P w K mg È:=(Íi).oM P w È 10 vx Qz vj λb=>(xO (z43 (i:=5) rfl rfl rfl b Tn.at_ rfl ut.at_ Ϻd ϝe gC.at_ Ϲd ðl ÿg rfl rfl Û (z3x (yP Ńb xQ ïa ũb ś) (bM (iy:=4) ÿg rfl ò Û (bN rfl èf b rfl (w_ (Δb (Β Ďn)) Ňg))) (bM (iy:=4) ÿg rfl ò Û (bN rfl Ùf b rfl (w_ Ī Ňg)))) (λa=>(eA QM rfl Ũh rfl {Zh (i:=5) rfl ò}))) (xO (z42 (i:=6) rfl ÿg rfl rfl (v_ (own:=Ōj) rfl) rfl (jE (yJ (y4w rfl Jb Ød))) (Sn (υb (ζa (w8 (i:=7) (show(čn).Nodup by rw[Ôp]) rfl ò) (jh (w8 (i:=8) (show(čn).Nodup by rw[Ôp]) rfl ò) Vv))) rfl rfl) (υb (WR (ωd (zJ (z8 8))))) (υb (Ι (zB (z8 7) (Β (z8 8)))))) (xO (θ (Υa (Χ (vQ (e5 ők rfl xK rfl õa) (e5 Ĺk rfl xK rfl õa))) (Yv (Τa (zJ (vQ (pE JO b õa) (pE JK b õa))) Ăd) (Yw (Τa (zJ (vQ (pE JN b õa) (pE JJ b õa))) (zJ (z8 6)))))) ğn) (w6 ğn))))
abbrev Hg:Ô:=top 106
def KJ:zh [ũe,Ėa,ėo,àn] ło (zP Hg):=by ac_rfl
def DV:=HD Ϙg ło 1 XW
def z8a(a:zQ K Ϙg Hg):DV P w K mg È:=(Š).oS P w È 0 XW KJ yW λb=>(z_ (xD (i:=2) KJ.nd rfl ò ňf) (z_ (xD (i:=3) KJ.nd rfl ò (zf Ϻ ze (ςa òf (zB zE (zB u7 (zB yV (zB wo (zB öe (zB (zZ Er El zE zE) Ϧd)))))) Ϸm) ňf)) (z_ (Λe (U1 đm Ϲj)) (z_ (Λe (Νc ŀh Źe)) (z_ Ųj (δ (U1 (zZ xR xP đm (Δb (Β ϧ))) Ϲj)))))))
abbrev Hf:Ô:=top 107
def Lw:zh [Ūe,Ėa,ėo,Ŷh,àn] Ło (zP Hf):=by ac_rfl
def DU:=HD ϙg Ło 1 V7
def z89(a:zQ K ϙg Hf):DU P w K mg È:=(Š).oS P w È 0 V7 Lw yW λb=>(z_ (xD (i:=2) Lw.nd rfl ò (zZ xq xo ıg (zZ xR xP ėj zE))) (z_ (xD (i:=3) Lw.nd rfl ò (ςa (Ι (zB òf Ób)) (zB Řo (zB (Ι (zB zE (Β òf))) (zB Řo (zB (Ι (zB u7 Ób)) (zB (Ι (zB zE Ϧd)) (zB ŝo (zB (wu (y2w (is:=[1,2,3]) rfl) (yD (mF (n:=3) Û) Û)) (zB (wu Ób Ŀb) (zB wo (zB zE (Β (Ι (zB wo Ûd))))))))))))) (zO (zO (zO (zO Ϸm)))))) (z_ (xD (i:=4) Lw.nd rfl ò (zf Ϻ ze ϧ ňf)) (z_ Ųj (z_ (wX (gS (JE đg (MK (yP Ťd qW ïa (zJ ŀd) ś)))) (Οd (Β (Ι (zB (zf Ϻ ze (zf Ϻ ze ó (zZ xq xo ıg (qb kE kW rfl vV gB (t7 ïa t8)))) zE) (Ξ ňf))))) wR) (Οd Ąi))))))
abbrev HY:Ô:=top 108
def Lv:zh ["_law_jump","_law_good","_law_leading_off"] [] (zP HY):=by ac_rfl
def DR:=HD ŋh [] 1 IZ
def z84(a:zQ K ŋh HY):DR P w K mg È:=(a.d0 X G).oS P w È 0 IZ Lv yW λb=>(z_ (xD (i:=0) Lv.nd rfl ò Åm) (z_ (xD (i:=1) Lv.nd rfl ò (ςa öe (zB ŀd (zB (yJ (yg âb Ŀb)) Ğj)) (zO Śi))) (z_ (xD (i:=2) Lv.nd rfl ò (yJ (yg (zB (Δb (Β (zZ xR xP ó zE))) Ğj) ϗe))) (δ (U1 (zZ xR xP Ī (ςa öe (zB öe (zB ŝo (Β (Δb (Ξ Åm))))) Śi)) Ĭ)))))
abbrev HW:Ô:=top 109
def KG:zh [Ŭd,Ėa,ϵb,Ĺc] ŀo (zP HW):=by ac_rfl
variable(Ja:mg Ýj=Â)(ϧd:Ē K õ Ýa=À ϊo)(Ϻk:Ŀa K Ϧa Ði=À Ã)(êm:XX P w K mg È Ą Ła Îc 3 ťh)(Me:XX P w K mg È ą Ła Îc 3 ťh)(NQ:wn P w K mg È Ą Ła Îc 3 åo)(NM:wn P w K mg È ą Ła Îc 3 åo)
def Rm:=HD Òh ŀo 4 jO
def z81(a:zQ K Òh HW):Rm P w K mg È:=(Š).oS P w È 3 jO KG yW λb=>(z_ (JC ŷc rfl şg (M3 (w8 (i:=2) KG.nd rfl ò) rfl) (zj (y6a (i:=3) rfl rfl rfl b Tn.at_ rfl kB.at_ ϧd Ϻk KG.nd rfl rfl (y5y rfl (y6r (fE rfl êm b ó Ěj) (fE rfl Me b ó Ěj)) ăf) (λa=>(y6f (f9 (qX (aF Ũh)) qW (eA QM rfl Ũh rfl {Zh (i:=3) rfl ò}) ĝa ś) ăf wR))))) (γb (zJ (qb (rH b) z8q rfl Ja A3 (t7 (zJ (vQ (e9 NQ b ó Ûd) (e9 NM b ó Ûd))) t8)))))
abbrev HZ:Ô:=top 110
def df:zh [Ŭd,"_law_found"] [Ŭd] (zP HZ):=by ac_rfl
variable(Öf:TB P w K mg È Ą Įd ϡd 8 Ĕi 1000)(NU:TB P w K mg È ą Įd ϡd 8 Ĕi 1000)(NT:wn P w K mg È Ą čd [ġ] 1 ęi)(NR:wn P w K mg È Ą Ģb [ġ] 1 Ěi)(NO:wn P w K mg È ą čd [ġ] 1 ęi)(NN:wn P w K mg È ą Ģb [ġ] 1 Ěi)
def DS:HT:=λP w K mg È=>xE P w K mg È Ŋh [Ŭd] 9 (yY K V6)
def z85(a:zQ K Ŋh HZ):DS P w K mg È:=(Ϧ).oM P w È 8 V6 df vj λb=>(xO (qT (i:=1) df.nd rfl ò Û (z3l (z3m (Yf (j8 (vQ (pE JP b ó) (pE JL b ó))) (Yf (LD (Vl JQ b ţ) (Vl JM b ţ)) (Yf (j8 (vQ (pE NR b ó) (pE NN b ó))) (Yf (LD (bA Öf b ţ) (bA NU b ţ)) (Yf (j8 (vQ (pE NT b ó) (pE NO b ó))) (Yf (z3k (z3o (y4s (eI JN b ó) (eI JJ b ó)))) bL))))))))) (w6 (kT (j8 (Lz (u8 Ńb xQ (zJ (qb (rG b) z8p rfl Ja A3 (t7 Ša t8))) ĝa ś) (J5 (u8 Ńb xQ (zJ (vQ (pE JO b ó) (pE JK b ó))) (zJ (yJ (eJ Źe zE))) ś)))))))
abbrev WM:Ô:=top 111
def Zj:zh [ōb,ũe,Ūe,Ėa,"_law_which","_law_code","_law_due","_law_handed"] [ōb] (zP WM):=by ac_rfl
variable(Żd:Ip P w K mg È ą Ůd 9 (yY K Ěe) Ğb)(Ϩe:Ip P w K mg È Ą ŭd 6 (yY K (ji tU)) Ğb)(Ol:DS P w K mg È)(Oj:Rm P w K mg È)(Cs:Rq P w K mg È)(Xw:DQ P w K mg È)(Co:Ro P w K mg È)(Cn:DR P w K mg È)(Cq:DV P w K mg È)(Cp:DU P w K mg È)(Om:Rn P w K mg È)
def z80{f:Ë}{g:ĝ}(d:Fun K Èb Èb WM f g):yT P w K mg È yo 13 f g [ōb] ďj:=z2y d Zj Û vj y2m λh A e s H E a=>(xO (qT (i:=1) Ĵd rfl ò Û (wF (yJ (k_ Cs a rfl įg)))) (xO (qT (i:=2) Ĵd rfl ò Û (wF (yJ (k_ Co a rfl įg)))) (xO (qT (i:=3) Ĵd rfl ò Û (wF ėk)) (xO (qT (i:=4) Ĵd rfl ò Û (wF (Λ ėk))) (xO (qT (i:=5) Ĵd rfl ϥd Û (wF (zf Ϙb ze (yJ (y4p Cn a rfl)) õa))) (xO (θd (Φc ϖh (zJ (u8 Ep qV Źf ũb ïb)))) (z41 (i:=7) Ĵd rfl ϥd Û (Yf ßl (Yf (Qd (J6 rfl vt ϯa)) bL)) (bF Å rfl Żk (eK Cq a rfl (zB Ī (Β (zZ WC W9 ϧ zE)))) zE (qv 7) (bF Ã rfl Żk (eK Cp a rfl (zB Ĭ įg)) zE (qv 7) (z3t (xO (θ (gS (JE (ωd (zJ Ϸc)) (MK (yP Yk qV (zJ Ϸc) ũb ś)))) (θd (Φc (zB ϣk œb) (zJ (u8 Ęl xQ (zJ ϣk) ĝa ïb))))) (xO (θ (δb üj (Εd (οc Ċe Òl)) (z8 6)) ϣd) (xO (kS (kU (gS (JE ŷj (MK ŷj)))) (xO (bO Śl) (xO (bP Śl Ī) (xO (bO řl) (xO (bP řl Ĭ) (w6 (θ (δb üj (Εd (οc (yJ (yg Ûd Ŀb)) Òl)) (Νa ϖh)) ϣd)))))) je) (xO (kS (bR (z4d (Φd (Vm Ģk LI)) (z4e (Φd (Vm (LF Żd a rfl (w_ ŀd t5)) LI))))) (w6 ϣd) je) (w6 (kT (z3i (LC (aD Oj) a rfl (Vm Ģk Óm)) (z3p (LC (aD Oj) a rfl (Vm (LF Żd a rfl (w_ öe t5)) Óm))))))))))))))))))))
#print a
#print a
def all_mk{l:ôi}{w:ß}{K:Ï}{h:Heap}{j:Ç->É Value}(X:İ h)(G:üa õ j)(hfa:j Èb=À (.ref fa))(a0:zQ K Ĉf HQ)(a1:zQ K όi Gi)(a2:zQ K ži Hz)(a3:zQ K Þj Hq)(a4:zQ K łh Hl)(a5:zQ K Ģh Hm)(a6:zQ K Ųh K9)(a7:zQ K įi Hw)(a8:zQ K Ϧh Gp)(a9:zQ K Õi KC)(a10:zQ K ϥh HN)(a11:zQ K Ûi HM)(a12:zQ K Ùi Hv)(a13:zQ K ąh HV)(a14:zQ K Łh H_)(a15:zQ K Ńh HK)(a16:zQ K įf HR)(a17:zQ K ϛd Ll)(a18:zQ K ϣh Ho)(a19:zQ K Þi Go)(a20:zQ K Ņh Gk)(a21:zQ K Ŵh HI)(a22:zQ K Öi KA)(a23:zQ K Ϣh Hs)(a24:zQ K ϡh Ht)(a25:Ix K Ň Ϡl Gg Ϻc)(a26:pQ K Ţf HA f26)(a27:pQ K ıf Gw f27)(a28:pQ K Ĳf Gv f28)(a29:zQ K Įi Hx)(a30:zQ K Úi Hk)(a31:pQ K Öc HE f31)(a32:zQ K Ĳi HS)(a33:pQ K àd Gu f33)(a34:pQ K Êe Gz f34)(a35:zQ K ņh Gj)(a36:pQ K İf Gx f36)(a37:pQ K ėf Gy f37)(a38:pQ K Ėf HB f38)(a39:pQ K ĉf HC f39)(a40:zQ K ĵi G_)(a41:zQ K ſi Hj)(a42:zQ K èh Hr)(a43:zQ K ųh Hn)(a44:zQ K ġh K8)(a45:zQ K Ñh HG)(a46:zQ K ńh HH)(a47:zQ K Ýi Gq)(a48:zQ K Ćh HU)(a49:zQ K ćh HP)(a50:zQ K ģh HL)(a51:zQ K Üi HJ)(a52:zQ K İi Hu)(a53:zQ K ĳi HF)(a54:zQ K Øi K6)(a55:zQ K Šf K7)(a56:zQ K Ķi Gm)(a57:zQ K ôf KB)(a58:zQ K Ϸd Lo)(a59:zQ K Ϛd Lu)(a60:pT K Ą ą šf Ϣl Gc [ġ])(a61:pT K Ą ą îd èm GV [ġ])(a62:pT K Ą ą Ìg Ĭm Gd [ġ])(a63:pT K Ą ą ϻ êl GZ [ġ])(a64:pT K Ą ą Õa ϣl GX [ġ])(a65:pT K Ą ą Ģb çm GY [ġ])(a66:pT K Ą ą čd æm Ge [ġ])(a67:IM K Éc îa Ğl GU ŏd)(a68:zQ K çh Hy)(a69:TH K Ą ϐk Gf ŭd)(a70:TH K ą ŧk Gh Ůd)(a71:pT K Ą ą Ła ĭm GW Îc)(a72:Iy K Ą ą Įd ϊm Gb ϡd 1000)(a73:zQ K Ĉh HX)(a74:zQ K ŉh Hd)(a75:zQ K ŵh Hh)(a76:zQ K Ňh Hi)(a77:zQ K ňh He)(a78:zQ K Ϝd Ln)(a79:zQ K ŷh Hc)(a80:zQ K Ϙg Hg)(a81:zQ K ϙg Hf)(a82:zQ K ŋh HY)(a83:zQ K Òh HW)(a84:zQ K Ŋh HZ)(a85:Ē K õ Èb=À (À Ďo))(l85:Ÿ f85=OW Èb WM oc85 od85 sl85 kV85 dc85 pm85 an85 cd85 ct85)(c85:ϓa K cd85 Èb=Ã)(k85:ϕ K Ďo=Ã)(z6c:Gn K ăa)(z6b:Gn K ĺb)(z68:Gn K ĝe)(z6k:Gn K Œ)(z6j:Gn K žb)(z6l:Gn K Ĥa)(z6d:Gn K ðg)(z6e:Gn K Ĝ)(z6i:Gn K èb)(z6g:Gn K ĭb)(z69:Gn K ϗ)(z6f:Gn K ϛa)(z67:Gn K "all")(z6a:Gn K Ŕb)(z66:Gn K Ōh)(z6h:Gn K Ýj)(Xh:we K Ĺ œc)(gA:we K Ĺ įd)(TW:we K Ĺ ũa)(TY:we K Ĺ ϩb)(TZ:we K Ĺ Ùb)(qN:we K [Ň] Ða)(jS:we K Ĺ ϩ)(Xi:we K Ĺ Ϡ)(qy:we K [Ň] şb)(xz:we K [Ň] ī)(z4x:Gs K "DEEDS" Ϲo)(z5a:Dc K w Wu [(ſb,y89,.ref f26),(éc,y95,.ref f27),(Ğd,y9e,.ref f28),(Ĺb,y9l,.ref f31),(Ŕc,y9q,.ref f31),(ĭd,y9v,.ref f31),(ěd,y9z,.ref f31),(Œc,x03,.ref f31),(Ŝc,x07,.ref f33),(ťc,x0a,.ref f33),(Ĭd,y8g,.ref f33),(Ŷb,y8j,.ref f34),(âc,y8m,.ref f34),(èc,y8p,.ref f36),(ãc,y8s,.ref f37),(ác,y8v,.ref f38),(Õc,y8y,.ref f39)])(z4t:Gs K "BEYOND" (.int 4294967296 y7v))(z57:Gs K Ÿh (.int 32 y7z))(z4v:Gs K ŀn řf)(ba:Tq K Â Wt [.int 0 x1w,.int 8 x1z,.int 16 x22,.int 24 x25])(z50:Gs K "JUMPS" Řf)(bc:Tq K Â Ww [.str ōc x1x,.str ŋc x20,.str İc x23])(z4s:Gs K Įm (.int 16 y7u))(z4u:Gs K Łn (.int 8 y7w))(z51:Gs K "MARKS" ŗf)(be:Tq K Â XU [.str Åd x1y,.str Ϡh x21,.str "sign" x24])(z54:Gs K åm Ϸo)(z5c:Dc K w Wx [(ſb,y8d,.int 16 x10),(éc,y99,.int 16 x1d),(Ŷb,y9i,.int 5 x1h),(âc,y9n,.int 5 x1j),(èc,y9s,.int 8 x1l),(ác,y9x,.int 8 x1n),(ãc,x01,.int 8 x1p),(Õc,x05,.int 8 x1r)])(z53:Gs K án (.int 0 y7x))(z55:Gs K "PLACES" ϵo)(z5d:Dc K w Wy [(ŝa,y8e,.ref Pu),("d",y9a,.ref R6),("s",y9j,.ref RA),(ĝd,y9o,.ref RC),(Ğh,y9t,.ref RE)])(z5f:Tp K Pu [.int 27 x2k,.int 5 x2l])(z5r:Tp K R6 [.int 24 x3a,.int 3 x3c])(z5v:Tp K RA [.int 21 x3g,.int 3 x3i])(z5x:Tp K RC [.int 24 x3k,.int 2 x3m])(z5z:Tp K RE [.int 0 x3o,.int 5 x3q])(z4z:Gs K "FIELDS" ϸo)(z5b:Dc K w Wv [(ϊi,y8b,.ref Pt),(ſb,y97,.ref R5),(éc,y9g,.ref R9),(Ğd,y9m,.ref RB),(Ĺb,y9r,.ref RD),(Ŕc,y9w,.ref RF),(ĭd,x00,.ref RG),(ěd,x04,.ref RH),(Ŝc,x08,.ref RI),(ťc,x0b,.ref RJ),(Ĭd,y8h,.ref Pv),(Œc,y8k,.ref Pw),(Ŷb,y8n,.ref Px),(âc,y8q,.ref Py),(èc,y8t,.ref Pz),(ác,y8w,.ref P_),(ãc,y8z,.ref R0),(Õc,y91,.ref R1),(ōc,y92,.ref R3),(ŋc,y93,.ref R4),(İc,y9b,.ref R7),(Ōc,y9c,.ref R8)])(z5e:Tp K Pt [.str Íg x2j])(z5q:Tp K R5 [.str "d" x39,.str "n" x3b])(z5u:Tp K R9 [.str "d" x3f,.str "n" x3h])(z5w:Tp K RB [.str "d" x3j,.str "s" x3l])(z5y:Tp K RD [.str "d" x3n,.str "s" x3p])(z60:Tp K RF [.str "d" x3r,.str "s" x3s])(z61:Tp K RG [.str "d" x3t,.str "s" x3u])(z62:Tp K RH [.str "d" x3v,.str "s" x3w])(z63:Tp K RI [.str "d" x3x,.str "s" x3y])(z64:Tp K RJ [.str "d" x3z,.str "s" x40])(z5g:Tp K Pv [.str "d" x2m,.str "s" x2n])(z5h:Tp K Pw [.str "d" x2o,.str "s" x2p])(z5i:Tp K Px [.str "d" x2q,.str "n" x2r])(z5j:Tp K Py [.str "d" x2s,.str "n" x2t])(z5k:Tp K Pz [.str "d" x2u,.str "s" x2v,.str "n" x2w])(z5l:Tp K P_ [.str "d" x2x,.str "s" x2y,.str "n" x2z])(z5m:Tp K R0 [.str "d" x30,.str "s" x31,.str "n" x32])(z5n:Tp K R1 [.str "d" x33,.str "s" x34,.str "n" x35])(z5o:Tp K R3 [.str Íg x36])(z5p:Tp K R4 [.str ĝd x37,.str Íg x38])(z5s:Tp K R7 [.str ĝd x3d,.str Íg x3e])(z5t:Tp K R8 [])(z4w:Gs K "CODES" ϴo)(Ee:Dc K w Y5 [(Ōc,y88,.int 0 x0x),(ſb,y94,.int 1 x1a),(éc,y9d,.int 2 x1e),(Ğd,y9k,.int 3 x1i),(Ĺb,y9p,.int 4 x1k),(Ŕc,y9u,.int 5 x1m),(ĭd,y9y,.int 6 x1o),(ěd,x02,.int 7 x1q),(Ŝc,x06,.int 8 x1s),(ťc,x09,.int 9 x1t),(Ĭd,y8f,.int 10 x11),(Œc,y8i,.int 11 x13),(Ŷb,y8l,.int 12 x14),(âc,y8o,.int 13 x15),(èc,y8r,.int 14 x16),(ác,y8u,.int 15 x17),(ãc,y8x,.int 16 x18),(Õc,y90,.int 17 x19)])(z52:Gs K ân ϲo)(Eg:Dc K w Y7 [(ōc,y8c,.int 18 x0z),(ŋc,y98,.int 19 x1c),(İc,y9h,.int 20 x1g)])(z4y:Gs K Ŀn ϳo)(Ef:Dc K w Y6 [(ōc,y8a,.int 21 x0y),(ŋc,y96,.int 22 x1b),(İc,y9f,.int 23 x1f)])(z56:Gs K ϡl (.int 8 y7y))(bU:Ē K õ Ëa=À (À Ź))(sV:ųb K b ľb Ąb=Ã)(bV:Ē K õ Ŏa=À (À ū))(sZ:ųb K c ľb Ąb=Ã)(bW:Ē K õ Ýa=À Ŧb)(si:ųb K a ľb Ąb=Ã)(z4i:Ē K õ Źh=À (À Ĥb))(sU:ųb K d ľb Ąb=Ã)(z4k:Ē K õ ßi=À (À Ńc))(so:ųb K i ľb Ąb=Ã)(z4j:Ē K õ ài=À (À ßc))(sW:ųb K g ľb Ąb=Ã)(z4l:Ē K õ ϧh=À ĺa)(sr:ųb K f ľb Ąb=Ã)(ľm:ů K Ź ϣb=À ϙe)(Ľm:ů K Ź æf=À Â)(Ŀm:ů K Ź åb=À Ñc)(Ļm:Ųb K b Ϫb=À Ã)(ļm:Ųb K b Őd=À Ã)(Ĺm:ů K ū ϣb=À ϙe)(ĸm:ů K ū æf=À Â)(ĺm:ů K ū åb=À Ñc)(Ķm:Ųb K c Ϫb=À Ã)(ķm:Ųb K c Őd=À Ã)(ðm:ů K ý ϣb=À ϙe)(ïm:ů K ý æf=À Â)(ñm:ů K ý åb=À Ñc)(ím:Ųb K a Ϫb=À Ã)(îm:Ųb K a Őd=À Ã)(F:ç K Ź Ĥb=À Å)(C:ç K ū Ĥb=À Å)(r:ç K ý Ĥb=À Å)(B:ç K Ź ý=À Å)(z:ç K ū ý=À Å)(t:ç K ý ý=À Ã)(Q:ç K Ź ū=À Å)(T:ç K ū ū=À Ã)(A:ç K ý ū=À Å)(O:ç K Ź Ź=À Ã)(S:ç K ū Ź=À Å)(I:ç K ý Ź=À Å)(Y:ç K Ź Ńc=À Å)(íl:ç K ū Ńc=À Å)(U:ç K ý Ńc=À Å)(ïl:ç K Ź ßc=À Å)(îl:ç K ū ßc=À Å)(N:ç K ý ßc=À Å)(u:ç K Ź ćb=À Ã)(x:ç K ū ćb=À Ã)(p:ç K ý ćb=À Ã)(m:TC K Ą Éc Ã)(k:TC K ą Éc Ã)(L:Ŀa K Ź Đ=À Ã)(J:Ŀa K ū Đ=À Ã)(E:Ŀa K ý Đ=À Ã): ∃fd:ĝ,(∀(s:Í)(v:Value),Ġa s fd {[v],[]} [(ōb,v)])/\∀È:Heap,İ È->đd õ j->yT ĩ w K j È yo 13 fa fd [ōb] ďj:=by
 let e:=hfa.symm.trans (Ğa X G a85);cases e;let xK:=tq X G z6c;let UK:=tq X G z6b;let Nb:=tq X G z68;let gW:=tq X G z6k;let UL:=tq X G z6j;let WW:=tq X G z6l;let vV:=tq X G z6d;let vt:=tq X G z6e;let Jb:=tq X G z6i;let ju:=tq X G z6g;let Mq:=tq X G z69;let Nd:=tq X G z6f;let Na:=tq X G z67;let Nc:=tq X G z6a;let JZ:=tq X G z66;let Ja:=tq X G z6h;let OZ:=kL X G z4x;let OG:YJ K w j Wu OI AS:=sE (fs:=[f26,f27,f28,f31,f31,f31,f31,f31,f33,f33,f33,f34,f34,f36,f37,f38,f39]) z5a rfl ÿa rfl (.cons (a26.n X G) (.cons (a27.n X G) (.cons (a28.n X G) (.cons ϯd (.cons ϯd (.cons ϯd (.cons ϯd (.cons ϯd (.cons ϛh (.cons ϛh (.cons ϛh (.cons ϥn (.cons ϥn (.cons (a36.n X G) (.cons (a37.n X G) (.cons (a38.n X G) (.cons (a39.n X G) .nil)))))))))))))))));let VT:=VW X G z4t;let Vs:∀H,zT K H Ÿc Ÿc:=λ_=>rfl
 let gK:=VW X G z57;let gO:∀H,zT K H Ĝb Ĝb:=λ_=>rfl
 let Q8:=kL X G z4v;let x5c:=NE ba;let Qr:∀H,zT K H Oc řf:=MU ba rfl;let C9:=kL X G z50;let x5d:=NE bc;let GF:∀H,zT K H CM Řf:=MU bc rfl;let Q6:=VW X G z4s;let Qp:∀H,zT K H ϴa ϴa:=λ_=>rfl
 let Q7:=VW X G z4u;let Qq:∀H,zT K H óa óa:=λ_=>rfl
 let Ya:=kL X G z51;let EH:=NE be;let Yn:∀H,zT K H Vb ŗf:=MU be rfl;let CB:=kL X G z54;let GI:uo K w Wx CG CO:=OH z5c rfl ÿa rfl;let CA:=VW X G z53;let GH:∀H,zT K H Ŭ Ŭ:=λ_=>rfl
 let gJ:=kL X G z55;let gN:uo K w Wy Xq Xt:=AQ z5d rfl ÿa rfl λH=>{_,_,rfl,wp z5f rfl H,{_,_,rfl,wp z5r rfl H,{_,_,rfl,wp z5v rfl H,{_,_,rfl,wp z5x rfl H,{_,_,rfl,wp z5z rfl H,rfl}}}}}
 let C8:=kL X G z4z;let GE:uo K w Wv CF CN:=AQ z5b rfl ÿa rfl λH=>{_,_,rfl,wp z5e rfl H,{_,_,rfl,wp z5q rfl H,{_,_,rfl,wp z5u rfl H,{_,_,rfl,wp z5w rfl H,{_,_,rfl,wp z5y rfl H,{_,_,rfl,wp z60 rfl H,{_,_,rfl,wp z61 rfl H,{_,_,rfl,wp z62 rfl H,{_,_,rfl,wp z63 rfl H,{_,_,rfl,wp z64 rfl H,{_,_,rfl,wp z5g rfl H,{_,_,rfl,wp z5h rfl H,{_,_,rfl,wp z5i rfl H,{_,_,rfl,wp z5j rfl H,{_,_,rfl,wp z5k rfl H,{_,_,rfl,wp z5l rfl H,{_,_,rfl,wp z5m rfl H,{_,_,rfl,wp z5n rfl H,{_,_,rfl,wp z5o rfl H,{_,_,rfl,wp z5p rfl H,{_,_,rfl,wp z5s rfl H,{_,_,rfl,wp z5t rfl H,rfl}}}}}}}}}}}}}}}}}}}}}}
 let OY:=kL X G z4w;let Fq:pR K w Y5 VX Od:=Ff (ds:=Vc) Ee rfl ÿa rfl;let y29:∀H,å K H Vc Od:=Fg Ee rfl;let GC:uo K w Y5 VX Vc:=OH Ee rfl ÿa rfl;let VV:=kL X G z52;let Tz:pR K w Y7 VZ Of:=Ff (ds:=Xs) Eg rfl ÿa rfl;let GP:∀H,å K H Xs Of:=Fg Eg rfl;let GG:uo K w Y7 VZ Xs:=OH Eg rfl ÿa rfl;let VU:=kL X G z4y;let Tx:pR K w Y6 VY Oe:=Ff (ds:=Xr) Ef rfl ÿa rfl;let GO:∀H,å K H Xr Oe:=Fg Ef rfl;let GD:uo K w Y6 VY Xr:=OH Ef rfl ÿa rfl;let Oa:=VW X G z56;let Le:∀H,zT K H óa óa:=λ_=>rfl
 let ut:wm K j Ëa b:={Ğa X G bU,sV};let Ϻd:=bU;let gC:wm K j Ŏa c:={Ğa X G bV,sZ};let Ϲd:=bV;let kB:wm K j Ýa a:={Ğa X G bW,si};let ϧd:=bW;let Tj:wm K j Źh d:={Ğa X G z4i,sU};let Tl:wm K j ßi i:={Ğa X G z4k,so};let Tk:wm K j ài g:={Ğa X G z4j,sW};let Tn:wm K j ϧh f:={Ğa X G z4l,sr};let ϳn:qG K b:={ľm,Ľm,Ŀm,Ļm,ļm};let ϲn:qG K c:={Ĺm,ĸm,ĺm,Ķm,ķm};let łn:qG K a:={ðm,ïm,ñm,ím,îm};let Kt:ç K Ź Ĥb=À Å:=F;let K_:ç K ū Ĥb=À Å:=C;let N6:ç K ý Ĥb=À Å:=r;let Kx:ç K Ź ý=À Å:=B;let N3:ç K ū ý=À Å:=z;let NA:ç K ý ý=À Ã:=t;let Kw:ç K Ź ū=À Å:=Q;let N2:ç K ū ū=À Ã:=T;let N9:ç K ý ū=À Å:=A;let Ku:ç K Ź Ź=À Ã:=O;let N0:ç K ū Ź=À Å:=S;let N7:ç K ý Ź=À Å:=I;let Ky:ç K Ź Ńc=À Å:=Y;let N4:ç K ū Ńc=À Å:=íl;let NB:ç K ý Ńc=À Å:=U;let Kv:ç K Ź ßc=À Å:=ïl;let N1:ç K ū ßc=À Å:=îl;let N8:ç K ý ßc=À Å:=N;let Kz:ç K Ź ćb=À Ã:=u;let N5:ç K ū ćb=À Ã:=x;let NC:ç K ý ćb=À Ã:=p;let q:V9 K j Ą Éc Ã:=m.hh X G;let o:V9 K j ą Éc Ã:=k.hh X G;let ϝe:Ŀa K Ź Đ=À Ã:=L;let Z:Ŀa K ū Đ=À Ã:=J;let R:Ŀa K ý Đ=À Ã:=E;let D17:Def K j ϛd Ll [Õa]:=ĵe a17 X G;let D58:Def K j Ϸd Lo [ī]:=ĵe a58 X G;let D59:Def K j Ϛd Lu [ϻ]:=ĵe a59 X G;let D78:Def K j Ϝd Ln [Ĺc]:=ĵe a78 X G;let F85:=Aq (st:=WM) l85 c85 k85;show{Âb Èb Èb (uK WM) (xf WM) (zP WM) .none kV85 dc85 pm85 an85 cd85 ct85,λs v=>.of_eq rfl,λbase _ _=>?_};let Yb:DN ĩ w K j È:=z7v X G xK UK Nb a0;let Oh:DD ĩ w K j È:=z71 X G VT Vs a1;let E6:Db ĩ w K j È:=z8y X G VT Vs a2;let tt:DY ĩ w K j È:=z8l X G a3;let Cu:=z8g X G gK gO tt a4;let Cv:=z8h X G tt a5;let QR:Dd ĩ w K j È:=z93 X G a6;let QQ:Da ĩ w K j È:=z8t X G a7;let CS:=z78 X G tt gW Q8 Qr a8;let EA:De ĩ w K j È:=z96 X G Q8 Qr UL WW a9;let QK:DL ĩ w K j È:=z7t X G a10;let Ch:DK ĩ w K j È:=z7s X G C9 GF a11;let QP:=z8s X G QK a12;let Cm:=z7z X G QK a13;let E7:=z8z X G Cm QP Ch a14;let QH:=z7q X G Q6 Qp Yb a15;let Ci:=z7w X G xK gW Yb vV Q7 Qq QH a16;let CQ:=z77 (P:=ĩ) (w:=w) (È:=È) D17 xK vt ut Ci;let Cw:DX ĩ w K j È:=z8k X G Jb a18;let Xu:DF ĩ w K j È:=z76 X G a19;let Q9:=z73 X G tt Q6 Qp a20;let QF:=z7o X G ju Q9 a21;let E8:=z94 X G EA QF Xu a22;let QO:=z8n X G tt Q7 Qq a23;let Cy:=z8o X G WW QF QO CS a24;let EI:=a25.hh X G ĩ w È (z6z vt Mq Ya Yn xz qy qN);let CZ:DH ĩ w K j È:=z7h X G xz a26.2;let CU:=z7c X G xz QR a27.2;let CT:DG ĩ w K j È:=z7b X G xz a28.2;let C_:=z8v X G Oh E6 a29;let Xx:=z8f X G gK gO tt qy a30;let Xv:=z7k X G xz qy Xx C_ a31.2;let Cj:DO ĩ w K j È:=z7x X G a32;let QC:=z7a X G xz Xx Cj a33.2;let Oi:=z7f X G xz qy Xx Cu Cv a34.2;let ZT:=z72 X G Q9 xz a35;let CV:=z7d X G Xu xz qN ZT a36.2;let CW:=z7e X G xz qN ZT E8 a37.2;let Ca:=z7i X G QO xz qN ZT a38.2;let Cc:=z7j X G xz qN ZT Cy a39.2;let CY:=z7g X G OZ OG CZ CU CT Xv QC Oi CV CW Ca Cc a40;let Ct:DW ĩ w K j È:=z8d X G qy a41;let QN:DZ ĩ w K j È:=z8m X G CB GI CA GH gJ gN a42;let Xy:=z8j X G tt a43;let Ve:=z92 X G QR a44;let QD:DI ĩ w K j È:=z7m X G C8 GE a45;let Ce:=z7n X G WW Ya Yn gJ gN EH Ve QD QN a46;let QB:=z79 X G gJ gN Xy a47;let Ck:DP ĩ w K j È:=z7y X G OY GC VV GG VU GD Fq Tz Tx a48;let QL:DM ĩ w K j È:=z7u X G vt VV Tz GP a49;let Cg:DJ ĩ w K j È:=z7r X G vt VU Tx GO a50;let Cf:=z7p X G vV Ya Yn QN Xy a51;let Cz:=z8r X G gW gJ gN Ve QD QB Ck Cf QL Ce a52;let Cd:=z7l X G gK gO vV QQ a53;let On:=z90 X G vV gJ gN Xy QB QL QQ Cz Cg Cd a54;let Vd:=z91 X G On a55;let CP:DE ĩ w K j È:=z75 X G Nd a56;let E9:=z95 X G vV Vd CP a57;let E4:=z8w (P:=ĩ) (w:=w) (È:=È) D58 gC E9 Vd;let EB:=z97 (P:=ĩ) (w:=w) (È:=È) D59 vV xK vt Na Oa Le gK gO ut Yb;let{JP,JL}:=a60.hh ĩ w j È (z6v gA Xi TW);let{NP,NL}:=a61.hh ĩ w j È (z6p gA jS TY TZ Xh EI);let{JQ,JM}:=a62.hh ĩ w j È (z6w gA Xi jS Xh JP JL CY Ct);let{JO,JK}:=a63.hh ĩ w j È (z6t vt xz jS);let{JN,JJ}:=a64.hh ĩ w j È (z6r qN jS Cw);let{NR,NN}:=a65.hh ĩ w j È (z6s gA);let{NT,NO}:=a66.hh ĩ w j È (z6x Xh);let JS:=a67.hx X G ĩ w È (z6o Xi TW TY TZ NP NL EB CQ);let E5:=z8x X G QP Nc E7 a68;let{èf,kq_RowMachine,Ϩe}:=a69.hh X G ĩ w È (z6y vV JS E5);let{Ùf,kq_WordMachine,Żd}:=a70.hh X G ĩ w È (z70 vV JS E4);let{y,Me}:=a71.hx ĩ w j È (z6q QH Xu qN jS kB);let NQ:=y.quiet;let NM:=Me.quiet;let{x2e,x2d,Öf,NU}:=a72.hh ĩ w j È (z6u JQ JM);let Xw:DQ ĩ w K j È:=z82 X G vV a73;let kM:DT ĩ w K j È:=z87 X G a74;let Cr:=z8b X G kM a75;let Cs:=z8c X G ju Cr a76;let Co:=z88 X G ju kM a77;let QM:=z83 (P:=ĩ) (w:=w) (È:=È) D78 xK JZ UL ut Tj gC kB Tl Tk Ϻd Ϲd ϧd ϳn ϲn łn Kt K_ N6 Kx N3 NA Kw N2 N9 Ku N0 N7 Ky N4 NB Kv N1 N8 Kz N5 NC;let Om:=z86 X G xK Jb Tn ut gC Ϻd Ϲd q o ϝe Z èf Ùf JN JO JJ JK QM a79;let Cq:DV ĩ w K j È:=z8a X G gW a80;let Cp:DU ĩ w K j È:=z89 X G gW vV a81;let Cn:DR ĩ w K j È:=z84 X G a82;let Oj:=z81 X G ju kB Tn QM Ja ϧd R y Me NQ NM a83;let Ol:DS ĩ w K j È:=z85 X G JP JL JQ JM JN JO JJ JK Ja Öf NU NT NR NO NN a84;show z80 xK UK ju vt Żd Ϩe Ol Oj Cs Xw Co Cn Cq Cp Om F85
def walk{l:ôi}{q:à}{b:Á Ç}{XP:Þh->Heap->Æ}{i:ß->Heap->Æ}{d:DefRec}{K:ßg->Ï}(r:èj=À 63)(e:Ūl=[])(m:∀(w:ß)(h:Heap),i w h->(ėb).In h)(F:∀(w:ß)(c:Ç->É Value)(g:Ë)(h:Heap),(ėb).In h->üa õ c->c d.name=À ßc->
   ∃fd:ĝ,(∀(s:Í)(u:Value),Ġa s fd {[u],[]} [(ōb,u)])/\∀È:Heap,(ėb).In È->đd õ c->yT ĩ w ėb c È yo 13 g fd [ōb] (J8 ėb)) :
  W.WalkO q b XP i Őh d [] İk:=
 L3.walkB (n:=63) (k:=13) (x := ōb) (sp:=J8) r Û e {rfl,by decide,by decide,rfl} m F λ_ _ a j o p t=>{a,j,rfl,t,o,p,λ_=>rfl}
#print My
end
open Lean in
local macro_rules|`(universe $x)=>return rb0 (fb0 .missing) (mkNullNode (<-(("tree_802 tree_231 o_56 heap_867 sts_259 tree_486 view_39 o_61 sts_400 tree_341 o_60 tree_753 sts_583 sts_465 o_54 o_55 sts_344 tree_615 sts_667 tree_272 o_58 tree_666 heap_39 sts_754 tree_464 o_49 sts_232 sts_275 tree_582 sts_616 tree_85 tree_70 o_51 tree_399 tree_115 tree_145 o_57 sts_489 sts_190 o_63 tree_100 tree_266 o_53 sts_803 sts_269 sts_146 o_59 tree_130 tree_866 tree_189 tree_256".splitOn).toArray++(Array.range' 64 803).map (s!"o_{·}")).mapM λi=>`(def $(mkIdent (.mkSimple s!"tw{(Name.str x.getId i).hash}")):ident:=Nat)))
namespace PySem.W.Fast
universe PySem.Challenge.cw_markrun_k39_states_refused_holds
def tw15950966315771583125:=Nat
end PySem.W.Fast
open PySem PySem.W PyProof.Rows
set_option maxRecDepth 100000 in
set_option maxHeartbeats 0 in
theorem PySem.Challenge.cw_markrun_k39_states_refused_holds : PySem.Challenge.rw_markrun_k39_states_refused.Holds := by
 w_on;o_law;k_head;(case hw=>w_witness2)
 k_fill
 refine My.walk (l:=PySem.Challenge.rw_markrun_k39_states_refused) rfl rfl (λw h Y=>PySem.W.kIn_of Y) ?F
 case F=>
  intro w e d h c G b;refine' My.all_mk c G b ?a0 ?a1 ?a2 ?a3 ?a4 ?a5 ?a6 ?a7 ?a8 ?a9 ?a10 ?a11 ?a12 ?a13 ?a14 ?a15 ?a16 ?a17 ?a18 ?a19 ?a20 ?a21 ?a22 ?a23 ?a24 ?a25 ?a26 ?a27 ?a28 ?a29 ?a30 ?a31 ?a32 ?a33 ?a34 ?a35 ?a36 ?a37 ?a38 ?a39 ?a40 ?a41 ?a42 ?a43 ?a44 ?a45 ?a46 ?a47 ?a48 ?a49 ?a50 ?a51 ?a52 ?a53 ?a54 ?a55 ?a56 ?a57 ?a58 ?a59 ?a60 ?a61 ?a62 ?a63 ?a64 ?a65 ?a66 ?a67 ?a68 ?a69 ?a70 ?a71 ?a72 ?a73 ?a74 ?a75 ?a76 ?a77 ?a78 ?a79 ?a80 ?a81 ?a82 ?a83 ?a84 ?a85 ?l85 ?c85 ?k85 ?a200 ?a201 ?a202 ?a203 ?a204 ?a205 ?a206 ?a207 ?a208 ?a209 ?a210 ?a211 ?a212 ?a213 ?a214 ?a215 ?a216 ?a217 ?a218 ?a219 ?a220 ?a221 ?a222 ?a223 ?a224 ?a225 ?a226 ?a227 ?a228 ?a229 ?a230 ?a231 ?a232 ?a233 ?a234 ?a235 ?a236 ?a237 ?a238 ?a239 ?a240 ?a241 ?a242 ?a243 ?a244 ?a245 ?a246 ?a247 ?a248 ?a249 ?a250 ?a251 ?a252 ?a253 ?a254 ?a255 ?a256 ?a257 ?a258 ?a259 ?a260 ?a261 ?a262 ?a263 ?a264 ?a265 ?a266 ?a267 ?a268 ?a269 ?a270 ?a271 ?a272 ?a273 ?a274 ?a275 ?a276 ?a277 ?a278 ?a279 ?a280 ?a281 ?a282 ?a283 ?a284 ?a285 ?a286 ?a287 ?a288 ?a289 ?a290 ?a291 ?a292 ?a293 ?a294 ?a295 ?a296 ?a297 ?a298 ?a299 ?a300 ?a301 ?a302 ?a303 ?a304 ?a305 ?a306 ?a307 ?a308 ?a309 ?a310 ?a311 ?a312 ?a313 ?a314 ?a315 ?a316 ?a317 ?a318 ?a319 ?a320 ?a321 ?a322 ?a323 ?a324 ?a325 ?a326 ?a327 ?a328 ?a329 ?a330 ?a331 ?a332 ?a333
  all_goals try first|exact L3.fnp_mk (by k_is) (by k_is) (by k_is) (by k_is)|exact L3.gn_mk (by k_is)|exact L3.gs_mk (by k_is)|exact L3.dc_mk (by simp only[List.map_cons,List.map_nil];k_is) (by decide)|exact L3.tp_mk (by k_is)|exact L3.tq_mk (by k_is)|exact L3.fnq_mk (by k_is) (by k_is) (by k_is) (by k_is)|exact L3.mtp_mk (L3.mtc_mk (by k_is) (L3.cls_mk (by k_is) (by k_is) (by k_is) (by k_is)) (by k_is)) (L3.mtc_mk (by k_is) (L3.cls_mk (by k_is) (by k_is) (by k_is) (by k_is)) (by k_is)) (L3.mdp_mk (by k_is) (by k_is) (by k_is) (by k_is) (by first|exact .all (L3.us1 λ_=>rfl)|exact .all (L3.us2 λ_ _=>rfl)|exact .all (L3.us3 λ_ _ _=>rfl)|exact .all (L3.us4 λ_ _ _ _=>rfl)|exact .all (L3.us5 λ_ _ _ _ _=>rfl)|(refine L3.bd2 λ_ _ _ a=>?_;apply PySem.W.binds_K a rfl;k_is;all_goals rfl)|(refine L3.bd4 λ_ _ _ _ _ a=>?_;apply PySem.W.binds_K a rfl;k_is;all_goals rfl)))|exact L3.mkp_mk (by k_is) (by k_is) (by k_is) (by k_is) (L3.mdp_mk (by k_is) (by k_is) (by k_is) (by k_is) (by first|exact .all (L3.us1 λ_=>rfl)|exact .all (L3.us2 λ_ _=>rfl)|exact .all (L3.us3 λ_ _ _=>rfl)|exact .all (L3.us4 λ_ _ _ _=>rfl)|exact .all (L3.us5 λ_ _ _ _ _=>rfl)|(refine L3.bd2 λ_ _ _ a=>?_;apply PySem.W.binds_K a rfl;k_is;all_goals rfl)|(refine L3.bd4 λ_ _ _ _ _ a=>?_;apply PySem.W.binds_K a rfl;k_is;all_goals rfl)))|exact L3.cmp_mk (by k_is) (by k_is) (by k_is) (by k_is) (L3.mdp_mk (by k_is) (by k_is) (by k_is) (by k_is) (by first|exact .all (L3.us1 λ_=>rfl)|exact .all (L3.us2 λ_ _=>rfl)|exact .all (L3.us3 λ_ _ _=>rfl)|exact .all (L3.us4 λ_ _ _ _=>rfl)|exact .all (L3.us5 λ_ _ _ _ _=>rfl)|(refine L3.bd2 λ_ _ _ a=>?_;apply PySem.W.binds_K a rfl;k_is;all_goals rfl)|(refine L3.bd4 λ_ _ _ _ _ a=>?_;apply PySem.W.binds_K a rfl;k_is;all_goals rfl)))|exact L3.fldk_cons (by k_is) (L3.cls_mk (by k_is) (by k_is) (by k_is) (by k_is)) (by k_is) L3.fldk_nil|exact L3.fldk_cons (by k_is) (L3.cls_mk (by k_is) (by k_is) (by k_is) (by k_is)) (by k_is) (L3.fldk_cons (by k_is) (L3.cls_mk (by k_is) (by k_is) (by k_is) (by k_is)) (by k_is) L3.fldk_nil)|exact L3.mkd_mk (by k_is) (by k_is) (by k_is) (by k_is) (by k_is) (by k_is) (by k_is) (by k_is) (by(refine L3.bd3 λ_ _ _ _ a=>?_;apply PySem.W.binds_K a rfl;k_is;all_goals rfl))|exact L3.mtd_mk (L3.mtc_mk (by k_is) (L3.cls_mk (by k_is) (by k_is) (by k_is) (by k_is)) (by k_is)) (L3.mtc_mk (by k_is) (L3.cls_mk (by k_is) (by k_is) (by k_is) (by k_is)) (by k_is)) (by k_is) (by k_is) (by k_is) (by k_is) (by(refine L3.bd2 λ_ _ _ a=>?_;apply PySem.W.binds_K a rfl;k_is;all_goals rfl)) (by(apply Exists.intro;apply L3.bd1;intro _ _ a;apply PySem.W.binds_K a rfl;k_is;all_goals rfl))|exact L3.mky_mk (by k_is) (by k_is) (by k_is) (by k_is) (by k_is) (by k_is) (by k_is) (by k_is) (by(refine L3.bd4 λ_ _ _ _ _ a=>?_;apply PySem.W.binds_K a rfl;k_is;all_goals rfl)) (by(refine L3.bd22 λ_ _ _ a=>?_;apply PySem.W.binds_K a rfl;k_is;all_goals rfl))|exact L3.isp_mk (by k_is) (by k_is) (L3.cls_mk (by k_is) (by k_is) (by k_is) (by k_is)) (by k_is) (by k_is) (by k_is) (by k_is) (by first|k_is|kit_is)
  all_goals try (first|k_is|k_exc|kit_is|kts_exm)
  all_goals decide
