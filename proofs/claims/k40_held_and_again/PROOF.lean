import PyProof.Rows.All
import Wide.All
import OpenK.AllK
import Wide.FinOn
import Lean
import PyProof.EqAt
import PyProof.EqKinds
import PyProof.TupleCall
import PySem.Challenge.RW_markrun_k40_held_and_again
set_option Elab.async false
set_option linter.all false
set_option maxRecDepth 100000
set_option genSizeOf false
set_option genInjectivity false
set_option compiler.extract_closed false
set_option bootstrap.genMatcherCode false
section
open Lean
def rb0(f:Syntax→Syntax)(s:Syntax):Syntax:=s.rewriteBottomUp f
def ix0(b w:Nat)(s:Syntax):Nat:=match s with
 |.ident _ _ (.str .anonymous x) _=>
  let n:=x.front.toNat
  let n:=if b=192&&970≤n then n-586 else n
  if n<b||b+w≤n||2<x.length then 99999 else 2*(if x.length=1 then n-b else n-b+w*(x.back.toNat-96))
 |_=>99999
def wr0(k:Name)(x:Array Syntax):Syntax:=.node .none ``Parser.Tactic.rcasesPatLo #[.node .none ``Parser.Tactic.rcasesPatMed #[mkNullNode #[.node .none k x]],mkNullNode]
def pt0(s:Syntax):Syntax:=rb0 (λs=>if s.isIdent then wr0 ``Parser.Tactic.rcasesPat.one #[s]else if s.isOfKind ``Parser.Term.hole then wr0 ``Parser.Tactic.rcasesPat.ignore #[s[0]]else if s.isOfKind ``Parser.Term.anonymousCtor then wr0 ``Parser.Tactic.rcasesPat.tuple s.getArgs else s) s
def hs0:Nat→Syntax→Bool
 |0,_=>false
 |n+1,s=>!s.isOfKind ``Parser.Term.byTactic&&(s.isOfKind ``Parser.Term.syntheticHole||s.getArgs.any (hs0 n))
def fs0(s:Syntax):Syntax:=match s with
 |.node _ k a=>if k==`«term{_}» then .node .none ``Parser.Term.anonymousCtor #[mkAtom "⟨",a[1]!,mkAtom "⟩"]
  else if k==choiceKind then (a.find? (·.isOfKind ``Parser.Term.anonymousCtor)).getD s
  else if k==``Parser.Tactic.tacticLet__ then
   let p:=s[2][0][0]
   if p.isOfKind ``Parser.Term.anonymousCtor then .node .none ``Parser.Tactic.obtain #[mkAtom "obtain",mkNullNode #[(pt0 p)[0]],mkNullNode,mkNullNode #[mkAtom ":=",mkNullNode #[s[2][0][4]]]]
   else if s[1][0].getNumArgs=0 then .node .none ``Parser.Tactic.tacticHave__ (a.set! 0 (mkAtom "have"))
   else s.setArg 1 (.node .none ``Parser.Term.letConfig #[mkNullNode])
  else if k==``Parser.Tactic.show then if hs0 99 s then .node .none ``Parser.Tactic.refine #[mkAtom "refine",s[1]]else .node .none ``Parser.Tactic.exact #[mkAtom "exact",s[1]]
  else if k==``Parser.Tactic.exact then .node .none ``Parser.Tactic.show #[mkAtom "show",s[1]]
  else if k==``Parser.Command.declModifiers then if s[6][0].isOfKind ``Parser.Command.nonrec then (s.setArg 4 (mkNullNode #[.node .none ``Parser.Command.noncomputable #[mkAtom "noncomputable"]])).setArg 6 mkNullNode else s
  else s
 |_=>s
def tq0(s:Syntax):Bool:=s.isOfKind ``Parser.Tactic.rwSeq&&s[2][1][0][1].isOfKind ``Parser.Term.paren&&s[2][1][0][1][1].isOfKind ``Parser.Term.byTactic
def fb0(t s:Syntax):Syntax:=match s with
 |.atom _ v=>.atom .none v
 |.ident ..=>let u:=t[1][0][1][ix0 192 242 s]
  if u.isMissing||u.isOfKind numLitKind then s.setInfo .none else u
 |.node _ k a=>if k==``Parser.Term.app then
   let u:=t[1][2][0][1][ix0 913 57 s[0]]
   if u.isMissing||u.isOfKind numLitKind then s else rb0 (λx=>let y:=s[1][ix0 7936 8 x/2]
    if y.isMissing then x else y) u
  else if k==nullKind then
   let l:=s[0][2][1][1][0][0][0][4][1]
   if l.isMissing then (if a.any tq0 then mkNullNode (a.flatMap λc=>if tq0 c then c[2][1][0][1][1][1][0][0].getArgs else #[c]) else s) else mkNullNode (l.getArgs++a.extract 1 a.size)
  else if k==``Parser.Command.print then .node .none ``Parser.Command.end #[mkAtom "end",mkNullNode (if s[1].getId==`a then #[]else #[s[1],mkNullNode])]else .node .none k a
 |_=>s
def cs0(u w s:Syntax):Syntax:=if s.isOfKind ``Parser.Tactic.cases&&s[1].getNumArgs=1&&s[1][0][0].getNumArgs+s[2].getNumArgs+s[3].getNumArgs=0&&!s[1][0][1][1].isOfKind ``Parser.Term.paren then
  let h:=s[1][0][1]
  rb0 (λx=>if x.getId==`ἀ then h else x) (if h.isIdent then u else w)
 else s
def oc0(t s:Syntax):Syntax:=
 let v:Nat→Syntax:=λi=>t[1][2][2][1][i][1][1][0][0][0]
 if s.isOfKind ``Parser.Tactic.omega then (if s[1][0].getNumArgs=0 then v 0 else s)
 else if s.isOfKind ``Parser.Tactic.cases then
  let f:Nat→Syntax:=λi=>rb0 (cs0 (v 6) s) (v i)
  cs0 (f 2) (f 4) s
 else s
end
open Lean in
local macro_rules(kind:=Lean.Parser.Command.mutual)|s=>do
 let c:=s[1][0]
 unless c.isOfKind ``Parser.Command.check do Macro.throwUnsupported
 let g:Syntax→Syntax:=λt=>rb0 (fb0 t) t
 let t:=g (g (g (g (g (g c[1])))))
 return rb0 (oc0 t) (rb0 fs0 (rb0 (fb0 t) (s[1].setArg 0 mkNullNode)))
mutual
#check([some,List,Nat,true,none,false,Int,Str,Prop,(by omega),Option,base,Addr,(by decide),autoParam,Shared,W.Frag,Bool,if_pos,if_neg,rows,Expr,PySem.wpAny_bind,0,X.env,(by simp only[_root_.L3.yK,_root_.L3.zb,_root_.L3.yR,_root_.L3.pO,_root_.L3.yL,_root_.L3.ql,_root_.L3.jz,_root_.L3.xU,_root_.L3.wX,_root_.L3.Tj,_root_.L3.Yj,_root_.L3.pN,_root_.L3.Zb,_root_.L3.e1,_root_.L3.e2,_root_.L3.eL,_root_.L3.eC,_root_.L3.z6,_root_.L3.Ji,_root_.L3.zA,_root_.L3.zG,_root_.L3.tE,_root_.L3.V6,_root_.L3.Bt,_root_.L3.WC,_root_.L3.Zm,_root_.L3.T3,_root_.L3.MH,_root_.L3.G9,_root_.L3.ue,_root_.L3.wN,_root_.L3.w8,_root_.L3.VB,_root_.L3.Mn,_root_.L3.rK,_root_.L3.kG.sel,_root_.L3.fI,_root_.L3.kL,_root_.L3.tM,_root_.L3.pB,_root_.L3.Jo,_root_.L3.xQ,_root_.L3.Jn,_root_.L3.uy,_root_.L3.Jp,_root_.L3.gT,_root_.L3.Xe,_root_.L3.qZ,_root_.L3.YH,_root_.L3.T7,_root_.L3.TM,_root_.L3.yD,_root_.L3.uf,_root_.L3.u9,_root_.L3.zX,_root_.L3.wV,_root_.L3.wd,Option.bind_some,Option.bind_none,List.getElem?_cons_zero,List.getElem?_cons_succ,List.set_cons_zero,List.set_cons_succ,List.map,List.cons_append,List.nil_append,List.length_cons,List.length_nil,List.replicate_zero,List.replicate_succ,Bool.not_true,Bool.not_false,decide_true,decide_false,Bool.and_self,Bool.and_true,Bool.true_and,Nat.reduceAdd,Nat.reduceSub,Int.reduceLT,Int.reduceLE,Int.reducePow,Int.reduceToNat,Int.reduceAdd,Int.reduceSub,Int.reduceMul,Int.reduceNeg]),Stmt,Keyed,Array,wpAny,absurd,s.heap.objs.size,(Or.inl rfl),s.heap,Reps,sizeLine,xs.length,World,List.length_map,(Bool×D),(by simp),PyProof.Rows.wpS_bind,List.length_append,Program,heap,(model prog w),False,cons,(Ì×Obj),(i+1),a.size,X.mg,[x0],decide_eq_true,vs.length,0,X.prog,X.N.length,rows.length,(z6 0),PyProof.Rows.wpS_pure,(z7 0),Around,ds.length,[x0,x1],(Æ×Æ),SortSt,(.bl Å),(model X.prog X.w),outer,getK,s.heap.get?,(wI Ws),D.int,data,Value.ref,Bool.and_eq_true,ps.length,(z6 1),eval,(Nat.le_refl _),(e::es),(by simp only[_root_.L3.yK,_root_.L3.zb,_root_.L3.yR,_root_.L3.pO,_root_.L3.yL,_root_.L3.ql,_root_.L3.jz,_root_.L3.xU,_root_.L3.wX,_root_.L3.Tj,_root_.L3.Yj,_root_.L3.pN,_root_.L3.Zb,_root_.L3.e1,_root_.L3.e2,_root_.L3.eL,_root_.L3.eC,_root_.L3.z6,_root_.L3.Ji,_root_.L3.zA,_root_.L3.zG,_root_.L3.tE,_root_.L3.V6,_root_.L3.Bt,_root_.L3.WC,_root_.L3.Zm,_root_.L3.T3,_root_.L3.MH,_root_.L3.G9,_root_.L3.ue,_root_.L3.wN,_root_.L3.w8,_root_.L3.VB,_root_.L3.Mn,_root_.L3.rK,_root_.L3.kG.sel,_root_.L3.fI,_root_.L3.kL,_root_.L3.tM,_root_.L3.pB,_root_.L3.Jo,_root_.L3.xQ,_root_.L3.Jn,_root_.L3.uy,_root_.L3.Jp,_root_.L3.gT,_root_.L3.Xe,_root_.L3.qZ,_root_.L3.YH,_root_.L3.T7,_root_.L3.TM,_root_.L3.yD,_root_.L3.uf,_root_.L3.u9,_root_.L3.zX,_root_.L3.wV,_root_.L3.wd,Option.bind_some,Option.bind_none,List.getElem?_cons_zero,List.getElem?_cons_succ,List.set_cons_zero,List.set_cons_succ,List.map,List.cons_append,List.nil_append,List.length_cons,List.length_nil,List.replicate_zero,List.replicate_succ,Bool.not_true,Bool.not_false,decide_true,decide_false,Bool.and_self,Bool.and_true,Bool.true_and,Nat.reduceAdd,Nat.reduceSub,Int.reduceLT,Int.reduceLE,Int.reducePow,Int.reduceToNat,Int.reduceAdd,Int.reduceSub,Int.reduceMul,Int.reduceNeg,_root_.L3.yW,_root_.L3.qE,_root_.L3.qF,_root_.L3.tP,_root_.L3.pF,_root_.L3.vk,_root_.L3.xq,_root_.L3.jc,_root_.L3.gQ,_root_.L3.gR,_root_.L3.qX,_root_.L3.qr,_root_.L3.SR,_root_.L3.Uy,_root_.L3.ut,_root_.L3.tQ,_root_.L3.putAt,_root_.L3.z1u,_root_.L3.y7x,_root_.L3.kQ,_root_.L3.hide,_root_.L3.qp,_root_.L3.x3w,_root_.L3.x3x,_root_.L3.x3y,_root_.L3.x3z,_root_.L3.x41,_root_.L3.x42,_root_.L3.x6d,_root_.L3.x6e,_root_.L3.x6f,_root_.L3.x6g,_root_.L3.x6h,_root_.L3.x6i,_root_.L3.x6j,_root_.L3.VW,_root_.L3.kU,_root_.L3.VT,_root_.L3.j8,_root_.L3.B0,_root_.L3.z9n,_root_.L3.z9o,_root_.L3.vQ,_root_.L3.Ur,_root_.L3.p7,_root_.L3.qB,_root_.L3.z1r,_root_.L3.Q6,_root_.L3.M9,_root_.L3.jj,_root_.L3.jd,_root_.L3.p8,_root_.L3.En,_root_.L3.Em,_root_.L3.YA,_root_.L3.GC,_root_.L3.wf,_root_.L3.eW,_root_.L3.vj,_root_.L3.yf,_root_.L3.xt,_root_.L3.IR,_root_.L3.TN,Option.map_some,Option.map_none,List.take_succ_cons,List.take_zero]),decide_eq_false,mainGlobals,s.toks,I.zf,List.getElem?_eq_getElem,toks,PySem.wpAny_pure,List.length_cons,(ze zE),prog,(eC (.int 0)),"RowMachine",(Sum Æ Ç),"list",h'.get?,E.l2,List.size_toArray,(kP ps),["self"],(z6 3),Heap.lt_size,"WordMachine",(z6 2),ks.length,(Įj=Å),z.elim,h.get?,Heap.get?_push_of_some,(z7 1),Nat.le_trans,(n+1),X.xe,["RowMachine","WordMachine"],(.ref f),(yG _),l.prog,PySem,E.l1,scope,PyProof.Rows,(rows.getD i .zC),(.ref C),FuncData,(.int 0),HT.sIx,name,List.mem_cons_self,(.inl rfl),(vP ps),kvs.length,OwnMs,PySem.Spec,List.mem_cons.mp,(.bl Ã),(by decide +kernel),of_decide_eq_true,Int.toNat_natCast,(.dK kvs),"State",(zU st),E.lp,(eC (.int 1)),["state","row"],(a.d2 X G),List.mem_map.mp,StateT,X.base,Bool.false_ne_true,(z7 2),z.length,K.In,PySem.sizeLine_eq,if_true,(k+1),(a.d1 X G),(.ref a),W.kitOne,List.getElem?_eq_some_iff.mp,List.replicate,List.append_assoc,ys.length,tplDs,iter,I.xY,(zg (zV b)),Nat.lt_of_lt_of_le,List.getElem?_map,List.all_cons,"words",F.dj,List.map_cons,Nat.zero_add,ms.length,us.length,"items",r.length,W.nsIn,stop,List.append_nil,bootBuiltins,"tuple",congrArg,o.push,(À v),k.toNat,l.map,cpos,Heap.get?_push_size,Array.length_toList,"word",b.length,a.length,(z6 4),b.size,X.calm,(u q),A.in1,[x0,x1,x2],K.lookup,(yg 0),"dict",(zY×V),String,I.list,getA,(.yI o Ō),(.ref p),N.length,ps.map,F.at_,pick,zero,succ,cell,Nat.ne_of_lt,Nat.zero_le,X.length,if_false,"jump",Sum.inl,"when",cLine,args,List.getD_eq_getElem?_getD,Nat.le_add_right,X.env.locals,False.elim,ns.length,"table",(.str w),(ß+1),PyProof,I.tuple,0,E.own,(j+1),F.ok,apos,back,(wb X scope cl own C s H fp pn),List.length_take,(we I q è),its.toArray,E.ext.gh,"unless",(z7 4),(vZ st),add_int,(z6 5),(èb _),I.tok,K.go,List.range,"registers",Nat.le_of_lt,"_law_cell","memory",Nat.le_refl,(xD e=Ã),j.length,W.keepIn,[0,1,2],0,(Ąa s),V.ref,(a σ),Scope,List.mem_cons_of_mem,(vis Ws a b c ps due done k),List.mem_append.mp,X.env.scope,(.Name x pos),"held",K.ext.gh,(À ļ),P.length,List.mem_singleton.mp,(.tup [.str "stop"]),(λ_ z=>nomatch z),List.length_set,(a==sysModules),(z7 3),Int.le_of_lt,decide_true,(.int 8),(.type Ġ),(eC .zC),"carry",[.ref a],(.int i),x.size,r.mono,E.pin,x.gh,0,(.Name x p),(.Name x xp),Option.some.inj,List.map_append,compareOp,"__init__",(.lst xs),(.int 1),t8.nd,elem',List.not_mem_nil,PySem.wpAny_mono,zS.refl,(ps.map pD),(ns.map V.int),(.str "mark"),(σ++[À v]),(zO ý),Int.le_refl,d.length,W.findIn,L.length,(xR A n),(.str k),(z7 5),vx.cons,Iff.rfl,(Š h),o.map,pos',keep,(zi (zg (zV b)) zh (z7 1) zJ),X.env.cells.lookup,((đ).all xD=Ã),(λz=>nomatch z),(.dic hk hv),List.map_map,(.int 16),(Ç×Â),X.N.Nodup,W.toNat,X.stack,I.ok.hd,Nat.ble,"test",IsPair,(yD 1),"zip",I.loc,E.go,h.Ns,Unit,((x==("__classdict__" : Ç))=Å),List.take_append_drop,List.length_zip,"number",(ks.zip vs),Nat.min_self,(zY×Value),vs.toArray,"state","nought",zm.refl,(xG P w),(z7 2),(.tup xs),"storew","store","loadw",(z7 3),A.units,"left",o.data,I.cell,(yD 5),(f β),"add",small,yc.of,plain,I.pin,call,X.fs,E.ow,((apos.endLine==cpos.line)=Ã),starEach,(.lst (wI W0)),attributeBase,"address",s.heap.push,ns.map,Nat.min_eq_left,(Â×Â×Â),(xv A b tg n),List.mem_cons,"_law_k",(.inr z),(.inl z),True.intro,(Ê Value),(Á M×zl),(xG prog w),(.type ŷ),"kind",(Ç×Ì),fs.length,ws.length,Ws.length,(À Ĵ),c.length,I.turned,"sign","row","load",r.get,its',cond,P.pY,K.lp,D.nx,List.mem_append_right,(.fz (.lst NS)),(.Call øa đ [] pos),(by simpa using e),a.toList.drop,a.heap.objs.size,List.length_drop,(eC (.int 4)),(.type "bool"),(.int (n:Æ)),(.int (i:Æ)),(.type "int"),binaryOp,(.int x),(.lst Ĉ),b.toArray,W.kia_one,(.lst b),i.length,(g i j),or_false,o.length,m.length,(yM zE),[.int x],(À m),"right",(κ×V),"code","high",y.Perm,I.free,I.bare,(vz d),(qD x),(lo+i),zS.qy,putAt,yd.tr,"set",IsZip,(j-1),item,W.at,E.ap,(X.fn x=Ã\/X.env.scope.names.lookup x=À .local),PySem.PassesOwn.never,(zA û zG),List.getElem?_eq_none,Array.getElem?_toList,(zA Ď zG),PySem.wpAny_holding,List.all_eq_true.mp,own.length,(eq_of_beq c),(Β (.str s::L)),(by simpa using h),List.mem_range.mp,List.length_range,Option.bind_some,0,(τ++š k Ä),(eC (.int 3)),Nat.ne_of_gt,(.type "str"),(Or.inr rfl),h.objs.size,ForInStep,"truths",(.ref it),b.extract,(Œa ĉ),Txt.mul,(a.d3 X G),X.A.units,y.toList,"place",envOfC,(zO į),g.length,f.length,Reps.imp,"mark",W.fnOf,codeAny,intsOf,"subc","addc",X.H₀,0,I.laid,"end",(wt 4),"sub","xor","max","law","and",value,o.cls,IsTup,[x,y],(x+1),"or",E.fr,(.ListComp elt [{tg,iter,ifs,0}] scope pos),Nat.lt_irrefl,List.getElem?_append_left,List.drop_eq_getElem_cons,PySem.wpAny_field,PySem.wpAny_seqItems,Nat.lt_of_le_of_lt,List.zip_cons_cons,(x ≠ "__name__"),foldedSetIterable,List.getElem_mem,b.toArray.size,List.zipWith,(.ins C dx fs),(.builtin id),Heap.SameBut,0,(zB į zM),(.lst pr),A.deeper,(.lst W0),(.lst Pd),(ę ?_),(.int 2),its.length,(λ_=>Ä),(.inr rfl),(.lst []),a.toArray,I.ok.kind,(.inl a),x.length,s.TypeIs,W.codeIn,List.map,[.str k],[.lst a],Sum.inr,E.ext.h,BindsTo,zS.lay,"copy",IsPart,forIn,I.len,putF,cont,True,(yS (zW ėc) Í),List.getElem?_append_right,Int.eq_ofNat_of_zero_le,List.all_eq_true.mpr,(e2 zP Ď ĝ),Array.toList_append,a.toList.take,Bool.false_eq_true,Nat.succ_le_succ,Builtin.bitAnd,"_law_script",I.zf.fresh,c.heap.objs.size,(Nat.sub_le _ _),(X.N[i]?=À x),(zB zJ zM),(zB ý zM),Heap.size_push,(EP X z8 σ Q),(wZ Ô R i),a.extract,Nat.le_of_eq,(30+(i:Æ)),Sum.inl.inj,(Ç×Value),(K w.params),(F.ok i q z),swapsWith,(Á zY×V),(model P w),"sorted",SeqAt.EqAt,(qA ßa x),DictEntry,A.handled,(Ąa Äa),(p9 st),q.toList,l.length,Ne.symm,[.int c],(Ç×V),(Š hi),(by rfl),(zV b),"range",e.trans,(zO zJ),ZZ.getD,IntsAre,(Á D),"self","done",xs.map,eq_int,backTo,(lo+k),(k<=j),xF.of,x.new,D.tup,(A n),self,hv.h,I.jM,[xM C T e fw fh sd due done],(eC (.int 2)),(.tup [(.str "d"),(.str "s")]),List.pairwise_append.mp,List.zipWith_cons_cons,"first_words","distance",b.toList.take,a.names.lookup,behindInMarks,(Α (z6 2)),"enumerate",Nat.sub_self,Int.ediv_one,(yU x p f g),(xG ø X.w),(.int C2),DecidableEq,(Χ (x+3)),(.str şa),(Β ąa),(.int m),(xH X.K F),(.ref ß),(zO ya),"again",rows.getD,OwnMs.imp,E.ext.new,(.type T),(.nx β2),(.dT kvs),"stop","thing",[.str w],(vm t L),(top 72),(.str x),(.ref z),(.ref A),(.lst a),(zO vd),(c b a),nextOf,valueAt,i.toNat,Keyword,K.ext.g,zE.map,[a,b,c],(Ëa _),(Ķa _),(Ϥ _),(.bl b),assign,(uz i),(A i),isort,a.all,W.set,E.ext,(n+k),(C=x),hi.h,dEqs,X.pn,D.bl,[it],((n:Æ)*134217728+d*16777216+s*2097152+m),(.Call (.Attribute o m apos) [] [] pos),(by with_unfolding_all rfl),(e2 zP Ď Ő),(backToKw pos (keywordEach [] Ø)),(zB ý (zB į zM)),X.s₀.heap.objs.size,Nat.lt_succ_self,PyProof.Rows.wpS_forRange,beq_eq_false_iff_ne.mpr,(.tup [.int 27,.int 5]),List.drop_eq_nil_of_le,List.length_replicate,(wR zM (yS yV Í)),List.mem_of_getElem?,(zi ŧ zh ý zJ),0,(by rw[E.l1];show c),List.replicate_succ,List.length_zipWith,(st ws a b c hk hv),(.str k::R),List.mem_range.mpr,"first_held","_law_machine",(λC s H d c=>tW),(zA û Ϭa),beq_self_eq_true,PySem.call_meets,a.toArray.size,(.str "test"),Bool.eq_iff_iff,(yU a0 p0 f0 g),Bool.false_and,b.toList.drop,(Χ (x+n)),[x0,x1,x2,x3],(.str "subc"),(.str "addc"),(.lst ys),(λ_ _=>î),(.str "add"),OwnMs.cells,pos.line,fs.lookup,0,(Χ (x+2)),(Χ (x+1)),(Χ (x+0)),(ks.zip us),(eL qZ ϩa),(.type ϕ),(.tup İj),(.lst ds),isort_perm,SortSt.mk',(λ_=>rfl),(thaws ms),(Α Ħ),Value.str,Value.int,c.typeIs,(Γ êa),(Ü Û),(.int 5),(ħ e),"do_sum",x.toList,r.append,h.length,callWith,R.length,NameKind,["item"],(Ía 32),(Ł ..),(zO ŗ),0,(.ref l),(.int j),Rd.mono,(w8 zG),x.trans,W.mg_of,(Üd c),(Œj s),(Ía n),(d q z),wF.one,stored,q.size,o.elim,(ze R),(yD 2),(a++b),(0<=i),"due","int",whole,slots,field,bindL,bindC,[a,b],step,hide,body,I.os,E.pX,(zW (zW yV)),(À (Å,xM C T e fw fh sd due done)::τ),(wM Ĉ a b c Ĥ Ń),Int.natCast_nonneg,(zi ŧ zh (vK ý wU) ėa),((n:Æ)*134217728+d*16777216+m),(yS ėc Í),PySem.wpAny_newObj_type,[.int w,.int 31,.int 1],((u q).mpr (.inr z)),PySem.wpAny_passesOwn,Nat.succ.inj,List.zipWith_nil_left,(j.filter λd=>!xP d),(a.filter λd=>!xP d),(Á zY×Ì×Value),(À (Å,d)),Nat.add_le_add_left,[.bl a,.bl b,.bl c],(Œa WData.int),Builtin.bitNot,Nat.lt_of_succ_lt,List.ext_getElem?,[.at [ō] áa],Int.not_lt.mp,t.heap.objs.size,List.take_length,(wu as vs ks us),"isinstance",X.env.kindOf,Nat.le_antisymm,((u q).mpr řa),beq_iff_eq.mpr,(yU y q Ä g),(.tup [x,y,z]),(.inl (n:Æ)),(.int 32),Builtin.bitOr,(À (Ã,d)),(β++[À m]),(xs.map .inr),(eC ía),Str.ofString,c.trans,(start N vs),(failedOf s),List.lookup,Int.one_mul,(ωa (i<j)),(ps.zip us),env.kindOf,"field",(zT H p o),(kindOf s),(Α ύ),(.lst L),l.extBut,(Ģb Đ),(Γ ĸa),(Üa _ b),(Ê Â),(arrOf s),(.int 15),[.ref p],(.ref x),argBest,"stands",xs.Nodup,s.length,i.natAbs,b.toList,yo.cons,(ut r.1),(.ref t),(.int v),(.inl w),fs.map,(Ïa c),"steps","marks",s'.heap,propext,getItem,g.trans,d.toNat,[.ix 0],(À 1),ys.all,(18+c),"told","step",modify,j.mono,c.toks,c.heap,W.isFn,Result,Paired,I.kept,(yD 3),(uv n),(lo+m),(e σ),(c σ),z.cps,thaws,o.loc,V.int,D.str,D.ind,(i+k),maxI,e.gh,E.Zx,(by rw[h];rfl),(starEach đ Ø=(Å,eval e Ø)::starEach es Ø),((n:Æ)*134217728+d*16777216+s*2097152),((Ía ú).filter λi=>!ze zE i),"_law_names_here",(.tup [.str w,.str k,.str t]),"abcdefghijklmnopqrstuvwxyz",List.take_succ_eq_append_getElem,(.int 4294967296),(by rw[e];show λz=>nomatch z),PySem.wpAny_callSpecial?_slot,Array.getElem?_eq_some_iff.mp,(.tup [.str w,.str k,.int p]),PySem.Calls.callWith_builtin,(.dic (kP d) (vP d)),PySem.wpAny_call_entry,[(n0,p0),(n1,p1),(n2,p2)],X.env.scope.names.lookup,PySem.wpAny_setField_rec,PySem.wpAny_Call_Name_kw,Int.emod_lt_of_pos,List.mem_of_mem_take,PySem.wpAny_truthy_bool,PySem.wpAny_pyIter_list,(.dic Ĥ Ń),Nat.add_sub_cancel',PySem.F.plain_max_loop,List.take_of_length_le,(e2 zP Ď řb),PySem.codeAny_builtin,List.getElem?_toArray,(eC (.int 5)),PySem.wpAny_tryCatch,List.mem_append_left,Array.getElem_toList,0,assignEach,Int.emod_nonneg,PySem.strLen_append,PySem.plainId_quiet,(Βb (ōa đ Ø)),(getMethod ov m pl),PySem.wpAny_rule,List.mem_filter.mp,(zi ŧ zh êa zJ),(zi ŧ zh ŗ zJ),(by simpa using c),(.type "NoneType"),x.extract,Nat.lt_succ_of_lt,Nat.le_of_lt_succ,List.flatten_cons,(őa W.emptyDict),(σ++š ϯa Ä),(λC s H c b=>tW),(.tp Ã [x,y,z]),List.filter_cons,[.int 24,.int 3],["self",ū,áa],(yM (gF Ô zE)),(.fz (.lst Ô)),(.builtin "len"),WData.weightAll,List.find?_cons,0,(σ++š k Ä),(.fz (.lst PL)),(Β (wI W1)),"width",d.trans,Value.none,I.base.free,s.heap.IsTuple,(σ.set i ź),(zO (Ρa ĉa)),(.str "label"),(.int (p:Æ)),List.any_cons,(.str ða),(ž _ rfl),(zX pf ϩa),(jv (yt b)),decide_false,Nat.add_comm,Int.le_trans,"other",(λd=>!xP d),(vp Ô R i),(tQ β i π),(.tup [x,y]),(.str "and"),scope.names,c.heap.get?,apos.atName,OwnMs.focus,Option.bind,0,List.length,(.fz Ža),[ű,"far"],(À (b,d)),(κ×Value),(b.trans c),(.str "or"),Obj.mapSeq,List.foldl,(ża .Add),(zB j_ zM),(xD a=Ã),(WF a b c),(.tup ϻb),"do_bits",seqObj,qs.length,W.makesIn,PassesOwn,(s q z),(qp β),[áa,Őa],(Γ Æa),(Üa _ a),(c.val k),(.lst vs),(us++ds),(Ź p),y.length,t.extBut,p.extBut,h.DictOf,e.ext.gh,J.extBut,(z6 2),ds.drop,(σ++ρ),(zO Æa),(zO êa),(yL ïa),(xR A i),(wv g _),(u++[l]),(lo+m-1),(.own x),(.int a),(.inr k),(.fz NM),(w%256),ks.zip,kvs.map,callerA,base.Ns,X.outer,E.ext.g,AllBare,(z7 7),(xt 1),[0,2,1],[.ix 1],(Š f),(wI ns),(wI W1),(a q z),(G b d),"one",(z6 7),z.symm,y.size,isTrue,ds.all,(yM R),(v1 k),(ux 5),(uT x),(b σ),(a::r),(Q5 i),(0<=j),binds,Zi.nd,Z.map,Model,(w=0),(l q),(j+2),(g=1),["table","end","first_words","first_held"],(Z.map λq=>.int (q.2:Æ)),(by exact ¬ (1000000000<=900000000);decide),(min (if i<0 then i+(n:Æ)else i) (n:Æ)),PyProof.Rows.wpS_mono,(backToKw pos (keywordEach kws Ø)),PyProof.Rows.subscriptTail_builtinR,Nat.le_of_ble_eq_true,(wA C T e fw fh s due done),((Ía i).map λk=>D.str (nk k)),Builtin.List.listTooLong,(λa b=>if a<b then b else a),((c+7919*k)*48271%2147483647),(xM C T e fw fh sd due done),(by simp only[ģ]<;>omega),PySem.Around.under_plainId,["self",ϱ,"end",Îa,Ña],(PyData.shownAll (pyTs a)),List.extract_eq_take_drop,[.str n0,.str n1,.str n2],((wZ Ô zE ú).map ĉ),List.mem_of_mem_drop,(zZ xT xS į zJ),[.str w,.str k],(e2 zP û ĝ),PySem.F.plainAttrs_list,Nat.add_sub_cancel_left,(rows.drop i),PySem.wpAny_typeOf,[À (Å,.int x),Ä],(ο (zO êa) (zO zJ)),(by exact 1<30;decide),List.pairwise_cons.mp,(vR (own:=[įa]) rfl),Nat.sub_succ_lt_self,Array.toList_extract,(X.drop k++Y.take e),List.Perm.refl,List.mem_reverse.mp,Builtin.Int.intBits,[.int i,.bl Ã],[.at [Ğ,Ĩ] Ĵa],(ps.take i),(.inr w),PySem.codeAny_mono,PySem.call_meetsIn,Nat.sub_add_cancel,List.filter_append,ForInStep.yield,(by rw[ſ];omega),(wI (Ws.set d w)),(relabel Ĺ Ø),(jD jn jy rfl ya),"default",(.fz (.int w)),d.heap.objs.size,List.mem_map.mpr,List.lookup_cons,List.cons_append,[.int 24,.int 2],(QB b e á a d),"StopIteration",sliceBounds,f.objs.size,Nat.zero_lt_one,Nat.le_succ,List.range_succ,List.of_mem_zip,List.length_nil,Int.min_eq_left,(tupleKind ķa),(e2 yk Ď Ő),(e2 pB ϲc Ď),(.int cell),Nat.not_lt.mpr,List.nodup_nil,(Ϸc es Ø),(.Name x p2),(wB ks vs k v),(Z0 rfl uK zJ),(.int (a:Æ)),(.fz (.lst h)),s.heap.update,kf_RowMachine,Nat.add_assoc,[áa,Őa,ϊ],(À (Ùa p)),(À (Ã,e)),(YO c.heap H),(ď e Ø),Int.pow_zero,I.base.there,E.ext.h.free,0,Around.under,(ωa (j<=i)),(zT H a Ō),(zT G a Ϛ),(qg (wG j_)),c.heap.push,a.heap.push,X.base.get?,Int.mul_one,I.ok.mod.We,I.base.slot,(Ψa (d 0)),(ď o Ø),(Δ (A p)),L2.start,(Zf fs f),(.tup ys),xs.getD,ur.some_of,its.toList,W.plainGet,[.str Ðb],(Δ (-1)),(λ_=>î),(zT H a o),(Ya e=Ã),(.tup ıg),(.str ŧa),0,(.str ĵa),(.int p.1),(.int due),"do_move",y.testBit,inplaceOp,es.length,Reps.ints,I.base.tq,I.base.qR,I.base.pZ,(.ret v),(.inr u),[Ũa,Şb],[.lst ws],(ĵg _ _),(Βb Ϛe),(üa .In),(Ąa âa),(Ía ů),(ù+ϯa),(À Ş),(wQ ks k),(vs++dvs),(j5 ns 5),(g.n X G),(.yI o u),(.tbl ps),(.ref i1),(.lst ws),(.lst NS),0,(.fz ŭb),(.fz Ũb),(.fz .zC),(kQ β),Y.take,y.extBut,xs.foldl,p.toList,p.length,oneType',h.extBut,g.isList,ZipApart,Y.length,Reps.one,OwnMs.qQ,Operator,C.extBut,B.extBut,(ťe ?_),(vS K F),(uf 3 4),(qj Ļ),(kP Źd),(g d σ),(eC ĝa),(e2 q c),(e1 q c),(X.ZI E),(I.UG e),(.own a),(.inr t),(.inl h),(ϭb _),a.take,X.drop,"slice",tI.with,p.toNat,h.trans,Un.kept,I.write,I.fresh,E.moved,(z7 6),(yt a),rawInt,qs.map,ds.map,(ĩa e),(Œj d),(Ģc l),(ĝb i),(Ěc k),(Ěc _),(ħ q),(Š e),(À r),(wI W0),(v::vs),(e σ1),(.bl k),(qv 1),(21+c),"bool",xs.all,u.keep,sIx_le,s.mono,pyIter,ps.zip,preSum,o.dict,e.symm,Ws.set,T.keep,L2.ixN,B.kind,(wj k),(vP d),(ux n),(tC v),(o::v),(kP d),(kA a),(jz 1),(i==j),(X++M),(Ut x),"str",piled,label,atKey,Tt.nd,Ts.nd,To.nd,Tn.nd,Tk.nd,T.obj,D.lst,CmpOp,(n-1),(i-1),(h a),(g i),(d q),(if decide (0<=i)&&decide (i<100000000000000000000)then 20 else 1000000000),(wu [] [] (zE.map λi:Â=>Sum.inl (i:Æ)) (zE.map λ_=>D.bl Ã)),(e2 zP (e1 (xh [ō] ū) û) ϩb),PyProof.Rows.wpS_get,(.Call (.Attribute (.Name c p) m apos) đ [] pos),[.own (.lst X),.own (.lst Y)],[.int g0,.int g1,.int g2,.int g3],(.tup [(.str "d"),(.str "s"),(.str "n")]),(ŏa o name Ø (eval o Ø)=eval o Ø),(if 2*(x%32)<32 then x%32 else x%32-32),(.Tuple [.Name x p1,.Name y p2] kk pos),(VE X.K 2 (jl (uz i) (jl (uz j) VD))),Builtin.SmallTypes.ownedTupleIsFree,[xM Ĩ U (A n) fw fh ęc (A i) j],(mirror x lo (lo+m) ((lo+m-lo)/2)),(((τ.take k).map gU)++τ.drop k),PySem.F.slot_tuple_iterator_next,[g0,g1*256,g2*65536,g3*16777216],PySem.wpAny_letGo,Builtin.Str.occurrences,(.tup [(.str "d"),(.str "n")]),(.Assign [.Name x pos'] e pos),((c==("__debug__" : Ç))=Å),[.Subscript ùa k pos'],(zi ŧ zh ý į),(.tail _ (.head _)),PySem.wpAny_Call_method0_late,(ĉ (1*2 ^ ((w:Æ)).toNat)),(λc=>∃r,c.1=À r/\uX t r),(x.extract (d+ϥ) (d+ϥ+e)),(.rt (.fz ň) (À űa::r)),PyProof.Rows.callWith_type1,(if k'=k then À v else _),(.type "method_descriptor"),[.Subscript o k pos'],((u p).mpr ł),[xM Ğ T n fw fh ęc i j],(zi (zg (zV a)) zh į zJ),Builtin.Slice.slicePlaces,(λw e=>TY f g r c w ųa),PySem.mem_of_lookup,PySem.tupleKind_room_in1,PySem.F.slot_dict_values,List.pairwise_append.mpr,Builtin.Tuple.tupleExact,(.tup [.str ϧ,.str t]),(ōa es Ø),strSliceIndices,PySem.F.plainAttrs_dict,List.getElem?_replicate,(vE Ô (ze R)),(e2 zP û Ď),PySem.wpAny_updateSeq,PySem.wpAny_execs_nil,PySem.F.slot_zip_next,List.set_append_right,List.getElem?_zipWith,Heap.get?_update_self,(vq gW gg rfl),[.int x,.int (n:Æ)],(λ_=>Ŕ Ă Sem β),(vR (own:=[ŗa]) rfl),(by rw[E.l1];show hi),(Z.map λq=>.str q.1),(.UnaryOp .Not a pos),(.Return (À e) pos),(yS (zW yV) Í),(ys.any λy=>xr y x),(if b then 1 else 0),(Nat.lt_of_not_le c),(.Attribute e f pos),letOwnedTupleGo,PySem.wpAny_standAt,List.getElem_of_mem,0,List.getElem?_range,(Çd (d+k) (d+ϥ)),(wd ϯa fs fg ft f),(by simpa using h1),(Nat.not_lt.mp hlt),decide_eq_true_iff,c.toArray.size,(Υ (xh ĳ Ĵa)),(Βb (ōa [] Ø)),(tP (xq (eC ă))),(b∈X.ex\/Ϭb<=b),(by rw[ģ];omega),((e2 q c).trans w),(.inl (i:Æ)),s2.heap.objs.size,W.instObj,PySem.wpAny_of_eq,Nat.le_succ_of_le,List.nodup_append,Int.emod_eq_of_lt,[.lst a,.lst ϑa],(Ç×Tok×Value),(by rw[Mh];omega),((p,w)::P.zip vs),beq_iff_eq.mp,s.heap.IsSliceOf,s.heap.FunFrames,PySem.wpAny_call,0,Nat.min_eq_right,List.any_eq_true,Int.max_eq_right,[.lst ws,.int a],[.int 21,.int 3],(λi=>K x (b+i)),(wC (n%7).toNat),(w/16777216%256),(o++īb i (i+k)),(Ij n x (c x a)),(.tup [x,y,z,w]),(λc=>f c.symm),(yU a0 p0 f0 u),(e2 zP Ħ Ő),(e2 zP ĩ ĝ),(Z1 (zE++g zE)),(I.ok.bs b o e),(.tp Ã [x,y]),i.toArray.size,Bool.and_false,I.base.keep,(Ym a b o i j),(Yl a b o i j),(.type "type"),(.int (k:Æ)),(.builtin ĵb),((Ūd).take 1),(zB ėa zM),(L++uU Z i),e.gh.free,a.toArray.any,0,L2.isort_perm,Bool.true_and,[ϊ,"count"],(ωc (b::zt)),(ψc (b::zt)),(zn.near x z),(putF f v fs),(lo+k-(lo+l)),(.p k []::as),own.contains,W.callWith_K,PySem.W.Frag,P2.objs.size,Nat.le_total,List.map_nil,List.any_map,Int.ne_of_gt,Int.add_zero,(.str Ŀa),[(D,uV a k)],(üa .NotIn),(zc (yO vd)),(zT H p ĸj),(zT H a Ϛ),(xs.set i x),(vE Ô ě),(e2 F fa fb),(Bw r ta tb),"do_storew",W.hasDictIn,List.map_id,(eC ϛc),(.int 7),(Ϲ n q z),(Ϲ j q z),(Êf C ß),(ża .Mult),(Δ (A n)),(λx=>!x.1),(zc (Zl 1)),(zX k9 ϩa),(zB ĸa zM),(zA Ő zG),(y b o e a),(x-x/p%r*p),(vS X.K FF),(vK ý gN),(uA ps a b),(qj Ô[i]),(ns.take k),(l+(r-l)/2),(d b o a e),(21+cJ Ļ),(18+cJ Ļ),(.bool Ã),(.Name c p),((n:Æ)=0),(Ζ Ľa),(À ϛ),"do_store","do_loadw","__next__",ws.toArray,kws.length,b.drop,Value.bool,PlainAttrs,ns.getD,[y,.int d],[.lst Ĉ],[(ώd,dv)],(č<=Ϝ),(λ_ q=>q),(xC ě i),(qt kvs k),(qn a k b),(.tup Ńg),(.str Ûb),(.str Ÿb),(.str ϩ),(.str ϧ),(.own ϫc),(.int i t),(.dic K V),(eC Ļc),(eC þb),(j q z),"do_load","do_high","do_copy",zs.length,zo.append,x.testBit,l.swap.hd,h'.DictOf,cl.lookup,c.toArray,c.gh.free,__do_lift,PySem.Str,Paired.F6,Int.toNat,[įa,Ûd],[Ða,ŗa],(ύb Ãb),(Æb i j),(ωc žj),(ψc žj),(Α Éa),(Į _ e),(Á Æ),(σ++[v]),(λc=>?_),(λ_=>?_),(β++[m]),(uI E.pX),(j<=1000),(h p Ϗe),(.tup ds),(.ref i2),(.ref Wg),(.ref UN),(.ref UK),(.nx β'),(.int 24),(.int 12),(.fz Ŏa),"do_set",xL.focus,v.length,u.extBut,q.extBut,p.isList,mergeAt',j.natAbs,h.isList,c.isList,c.h.free,bindArgs,a.toList,X.take,W.lookIn,Reps.set,M.length,(ú+1),(şj nd),(Áb W6),(zO Đa),(xs++ys),(xH K F),(xC ě),(uU Z i),(u9 û),(qG Ŕg),(pyTs f),(p0::ps),(gF Ô),(YO h H),(Va Ńb),(Bu r t),(2 ^ 64),(.str t),(.ref e),(.ref c),(.nx σ),(.int w),(.int e),(.int 3),(.inr x),(.inl k),(yt d),"label",wF.snoc,wF.mono,unaryOp,ui.swap,ui.move,u.there,s.trans,pyNext,0,j.toNat,i.trans,c.symm,add_str,I.ok.ZG,A.depth,[x,y,z],(üe e),(Ìa j),(ĩa f),(Ób r),(łc z),(łg q),(Ź q),(Ŵa i),(ò-1),(Ê V),(yD 18),(u::vs),(qG xs),(q::qs),(m::ms),(j q y),(hi-lo),(f Čd),(eC kN),(a q w),(MB ..),0,(B q w),(A ñ),(.bl t),(x++y),"name",vs.map,u.slot,u.free,typeOf,s.gens,p.size,o.take,not_or,l.mono,ks.all,kindOf,d.getD,bs.map,argsOk,a.toks,Params,J.stop,InLong,I.base,B.mono,W.len,(yG _),(wI g),(wC n),(vP f),(vD r),0,(v2 k),(ux 4),(kP f),(jH n),(g==k),(c β),(V6 x),(LR z),(Jl l),(Bh _),"low","far",there,start,st.at,names,l.fin,j.get,h.Ns1,error,a.any,W.one,T.inj,OA.nd,O9.nd,O8.nd,O7.nd,O6.nd,M.ind,F.run,D.i2z,D.i1z,D.TOz,(vi (Ι (yu (i:=5) (show(wL ["items","far","distances","chosen","near"] ["number"]).Nodup by decide +kernel) rfl à)) rfl),(xj (yt b)),[À (Å,.lst Ô),À (Å,.lst (Z.map λq=>.int (q.2:Æ))),À (Å,.lst (Z.map λq=>.str q.1)),À (Ã,.lst []),Ä],(((sIx ò 0 lo:Â):Æ)==0&&(1:Æ)==1&&(sIx ò ò hi-sIx ò 0 lo)==ò),[À (Å,.lst a),À (Å,.lst (yM zE)),À (Å,.dic K V),Ä,À (Ã,.lst []),À (Å,.int 0)],(yx (wR (zB ya (zB ya (zB ya (zB ya zM)))) (yS (zW (zW ėc)) Í))),[À (Å,dm),À (Å,.int cell),À (Ã,.dic ks vs),À (Å,.int (i:Æ))],((match decide (C=x)&&!(decide (m∈kB))with|Ã=>À Řb|Å=>Ä).bind _),(őa { cls:=.type "range",data:=.fields #[.int lo t,.int hi u,.int 1 v] }),(Αb (zZ xT xS (zZ qi jt zJ į) zJ)),(wg (zB ya (zB êa (Γ (Ζ (z7 5))))) ėb),(if 2*y<4294967296 then y else y-4294967296),["_law_way","_law_program","_law_words_here","_law_pairs_here"],(st Ĉ a b c Ĥ Ń),((Ŵa (sIx ò 0 lo)).take (sIx ò ò hi-sIx ò 0 lo)),(A.under (.builtin "type.__call__" {.ref C::us,a})),(.tup [.str k,.int (d:Æ),.int n]),(ŏa øa "values" Ø (eval øa Ø)=eval øa Ø),[À (Å,.lst a),À (Å,.dic b c),À (Å,r)],[rows.getD k .zC,.int ((k:Æ)+1),tgs.getD k .zC],(if i<0 then(i+(n:Æ)).toNat else min i.toNat n),[.int (i:Æ),tgt Ô[i]],(x+(n-x/2 ^ l.toNat%2 ^ d.toNat)*2 ^ l.toNat),(f.2 b (ϣ (Ũ (ħ e) (I.ok.UC x c F l)))),[.int 0,.int 5],(ób (λk' x=>if k'=k then v else x) ks vs),(if k=f then(k,v)::r else(k,x)::putF f v r),(if G b=Ä/\G' b≠Ä then Ä else G1 b),Nat.min_le_right,(Β (W0.set 0 (Δ ((v0+1)%4294967296)))),(if([]:Á Keyword).isEmpty then 0 else 1),(by exact c*134217728/16777216%8=0;omega),(À (.builtin "type.__getattribute__")),(qC L P w K G g N c a f d A ą s H E),(f.2 b (ϣ (Ũ (ħ e) I.ok.above))),(eC (.dic [] [])),(zj ZW a rfl (zB ý Ħb)),[mP C T fw fh e (δ i) j Ws a b c ps],(À (.builtin "object.__setattr__")),(backToKw cpos (keywordEach [] Ø)),(.Call (.Name "zip" p) [a,b] [] pos),Int.ofNat_le.mpr,[.int (i:Æ),x],(ϝ λp=>if p.1=a then(a,b)else p),(e2 zP (e1 (xh [ō] ū) û) ϯc),Array.mem_toList_iff.mpr,((Ía n).map λi=>A ñ),[wA Ĩ U (A n) fw fh Ħg (A i) j],(À (wA C T e Ŏa ěa y u j)::zt),((18+c)*134217728+m*16777216+d%32),(zA Éa (Α (e2 zP (z6 2) ύ))),((Ía ñ).map λk=>D.str (nk k)),(Αb (zZ xT xS zJ ĸa)),(y.toList.drop lo),PySem.F.slot_dict_getitem.lookup,Nat.eq_zero_of_not_pos,(ōa [a] Ø=[(Å,ď a Ø)]),(e1 (wW u_ t4) (eC (.str Şb))),Array.mem_of_getElem?,(rows.map tgt),(Ź q++(Äb m (j-1)).reverse),(λa b h z=>h (Sum.inr.inj z)),(yc X.K H p ys\/xF X.K H p ys),(0<=x/\0<=l/\l<64/\0<=d/\d<64),(.Slice lo hi Ä p2),((a 29+9*(i:Æ))%26),Array.perm_iff_toList_perm.mp,[xM C T e fw fh ęc due done],(.builtin "object.__class__"),(Υ (xh ĳ "due")),[(p0:Æ),(p1:Æ),(p2:Æ)],(Μ (.obj C ŏd [a,b,c,d])),(wb X Ĺ cl own C s H l pn),(st Ĉ Å Å Å Ĥ Ń),(by exact _<=16777216;omega),[wA C T e fw fh s due done],(λq=>(L q/\¬ L1 q)\/L2 q),PySem.wpAny_updateSeq_pair,List.length_eq_zero_iff.mp,[wA Ğ T n fw fh Ħg i j],(.For tg iter body [] pos),List.pairwise_reverse.mpr,Builtin.Slice.sliceAdjust,(úb (Ëb x Ŏ ß f c)),(rI Qt λi j=>.int (i*j)),(i<100000000000000000000),(f (.int i t) (.int j u)),(((1:Æ)*2 ^ w-1)*2 ^ l),PySem.wpAny_pyIter_tuple,PySem.F.type_list_append,PySem.F.slot_list_append,PySem.Calls.spliced_cons,List.mem_iff_getElem?.mp,(by rw[eq_of_beq e];rfl),(by exact 2<=ã;decide),(.tup [.str w,.str k,a]),Nat.testBit_mul_two_pow,List.length_pos_iff.mpr,List.filter_cons_of_pos,[.tup ϻb,.int (n:Æ)],(x/2 ^ l.toNat%2 ^ Ġa),(k K c λv m n x r=>?_),(by rw[æ];show e.len),(.ins C dx (fs.zip vs)),(.str "name"),PySem.wpAny_getItem_of,List.Perm.append_right,Array.getElem?_eq_none,(À (Å,.dic ks ds)),(zO (zZ qi jt zJ ý)),(o++(īb k i).reverse),(if x<z then z else x),(if f n then 2 else 1),(.own (Β (ds++[y]))),PySem.SeqAt.EqAt.same,PySem.F.slot_dict_get,List.Perm.append_left,[.int x,.int y,.bl p],(Χ ((x+n)%65536+3)),(Χ ((x+n)%65536+2)),(Χ ((x+n)%65536+1)),(Χ ((x+n)%65536+0)),(λz=>a (by simp[z])),(λi=>a.getD i .none),(by dsimp only;omega),(L.filter λd=>!xP d),[.int l,.int W],(e2 xQ Éa ŷa),[D.bl a,.bl b,.bl c],(λx y=>D.tup [x,y]),(.tup [kV f[i].1,u]),(.Subscript o i pos),s₂.heap.objs.size,PySem.wpAny_newList,PySem.wpAny_attempt,List.reverse_append,List.mem_filter.mpr,List.filterMap_cons,Int.toNat_of_nonneg,(vq ZS Zh rfl),[şa,"one",ìd,ða],[.at [Ğ,Ĩ] Ác],[.at [Ğ,Ĩ] ŝb],(Ía (min ä ţ)),(β++[À (.fz d)]),(zi ŧ zh ŗ Æa),(wM ws a b c hk hv),0,(w6 x m û zG Ęc),(by simpa using hv),(by rw[e];show Śa),(Nat.not_lt_zero _),((i:Æ)+(m:Æ)*1),"__getattribute__",List.set_cons_zero,(ο (zO ėa) Űb),(À (.Name x px)),(λ_ _ q=>Į _ q),(e2 xQ (z6 7) ŀc),(by simpa using l),(.tup [row,nx,tg]),(zW (zW ėc)),(gS xs lo hi),Option.isSome_map,Nat.sub_pos_of_lt,Nat.lt_trichotomy,List.reverse_perm,List.getElem?_set,List.any_eq_false,List.Pairwise.nil,List.Pairwise.map,Array.toList_push,[.str w,.str Ðb],[.str w,.str "d"],[.str k,.str "d"],(ϗd lo hi Ä n),0,(Ëb b a ß f d),(ϛe lo hi 1 Ř),(λx=>x.1.isSome),(λh=>by cases h),(zj YN b rfl ħb),(zZ Ye Yd zJ į),(zT g d (.own y)),(by rw[h];decide),(Q9 q É É ?_),(.yI o (.dK İa)),(.tup (k.map kV)),(.Tuple es k pos),z.cps.toList,"fields_in_word",env.cells.lookup,X.s₀.heap.get?,X.env.scope.kind,Nat.max_eq_right,List.zipIdx_cons,List.map_fst_zip,Int.toNat_eq_max,Int.min_eq_right,A.heap.objs.size,(Α (z6 6)),(Ÿ Nat.succ l),(Ç->Ê Value),(wu as ds ks es),(wu [] [] ks es),(tS kvs p.1 p.2),(d b _ q λz=>z),(C4 K t1 t2 a b),0,"table_of_rows","place_in_word",a.setIfInBounds,Nat.testBit_and,List.take_left',List.forIn_cons,List.foldl_cons,List.drop_left',Int.ediv_nonneg,[şa,"one",ìd],[ϊ,"low",Ûd],[.int c,.int k],[.fz (Β Åb)],[.at [ō] ū],(ćd Ġ #[] 0),(ε (Tx l vs)),(Þd b o e n a),(Τ (.bl Ã)),(σ++š n Ä),(ys.getD j .zC),(wZ Ô zE ú),(w6 x m û zG),(vz (.lst Ýa)),(gT λi j=>i+j),(e2 zP ĩ ύ),(e2 pB řb û),(e2 YH û ïa),(by rw[q];simp),(.tup [kV k,u]),(.dK (j.zip l)),((c q).mpr řa),(xj (yt b)),"not_reaching","label_places","kind_of_code","is_near_code","distances_of","_law_cell_at",kf_WordMachine,d.toArray.size,d.names.lookup,Nat.le_min.mpr,List.take_zero,List.take_take,List.drop_drop,Int.ofNat_zero,Builtin.bitXor,[kV kv.1,kv.2],[.int w,.bl u],[.int (n:Æ)],[.int (c:Æ)],(ę (Ö ?_)),(τ.set i ħc),(β.set i ϓa),(β'++[À m]),(yf (xt i) fs),(wJ d&&Ť ds),(vq T9 Ti rfl),(by rw[ê,I]),(by rw[m];rfl),(TP X z8 σ Q),(.obj x fs ms),(.builtin ĳc),(.List es pos),((Ŏg).take m),sysModules,Array.getD,"word_of_row","with_number","moved_right","is_far_code","dict_values","__setattr__","__getitem__",s.heap.DictAt,p.toList.take,p.toList.drop,i.natAbs.log2,c.heap.DictOf,X.env.globals,W.plainGet_of,Paired.length,E.ext.g.trans,Bool.or_false,[ϊ,Êb,įa],[ū,Âb,áa],[ū,Őa,Ũa],[5,4,3,2,1,0],[3,1,5,0,4,2],[2,4,0,5,1,3],[0,1,2,3,4,5],(Ģb (Ϛd _)),(zx.near x z),(zT H5 D Ñc),(yU a p fl g),(w/65536%256),(vp Ô zE i),(eC (.int 6)),(c*134217728),(WG a Ϛ H0),(Tv OP OO zJ),(D.bl (i==j)),(.str {#[c]}),(.mk e1 e2 d),(.ins C d []),(.Name x ĕa),(.Expr e pos),"words_from","word_fault","targets_of","moved_left","is_address","first_word","bytes_from","address_of","address_in","_law_words","_law_pairs","_law_names","_law_mixed","_law_items","_law_found","_law_drawn",seqIndex_neg,s2.heap.get?,l.row.toRowW,its'.toArray,h.IsListIter,concat_meets,WData.weight,SeqAt.RcNeAt,PySem.Within,Nat.zero_max,Nat.lt_trans,Code.isFrame,(ωa (i<=j)),(λ_ _=>rfl),(zT a p ϋa),(ug J π m2),(tS kvs k v),(pairsOf vs),(gallopOf s),(dJ Ô R i),(atKey xs k),(I.jM x c e),(21+(c:Æ)),(.var i::ts),(.inl {c,w}),(.inl (A p)),((vm t a).2),(Ŵe ýb),"with_part","number_at","near_word","is_number","four_from","far_words","addresses","_law_word","_law_made","_law_look","_law_held","_law_gone",seqIndex_of,a.names.all,W.specialIn,W.plainOver,W.kitx_list,W.emptyDict,Value.float,Reps.length,Int.pow_pos,D.TOi2.symm,(νa (Īb)),(Ìe j .zC),(Ϲ n q c),(Ψa (d 2)),(ϸc _ Í),(Æb "q" j),(Δ (i+j)),0,(ϧc _ Í),(zA ĝ zG),(wV Wm Ϭa),(w/256%256),(e1 Xe Ő),(.str w::_),(.list Īc),(.int done),((j:Æ)+1),((i:Æ)+1),rows.map,"unsigned","table_of","put_word","put_byte","pairs_of","max.loop","is_label","far_rows","bytes_of","_law_any","__name__",wpAny_Name,typeLookup,typeIs_str,typeIs_int,scope.kind,ps'.length,0,m.zf.fresh,f.zf.fresh,es.toArray,builtinsNs,acc.length,X.Pairwise,Walks.list,Value.type,Str.length,SeqAt.RcAt,OwnMs.snoc,OwnMs.join,I.ok.above,D.i1z.symm,D.TOz.symm,(.int 9),[.str Ÿb],[.str ϧ],[.lst Åb],(Ée N vs),(Á M×M),(zT H x o),(zT G p u),(yo.nil E),(u::v::vs),(r::m::ms),(pO 1 ļg),(by rw[h]),(acc++its),(a.d4 X G),(YU j rfl),0,(Ve k=Ã),(.yI ob v),(.val Ĵ),(.tup ţj),(.tup Ŧd),(.tup Įg),(.tup ńj),(.str Üb),(.str Şb),(.str Åa),(.str "q"),(.str "n"),(.str "d"),(.own Ŏc),(.lst Ô),(.int ţ),(.bl (!k)),((k,x)::r),"written","word_of","word_at","told_at","rows_of","look_at","is_pair","is_near","is_jump","held_in","code_in","byte_at",tupleText,ps.take,o.reverse,g.toArray,eq_of_beq,cellsFrom,c.heap.Ns,as.length,a.size_eq,a.g.trans,WData.int,W.takerIn,W.readsIn,W.findCls,W.OpenLaw,PySem.Fin,IsTup.new,[Źb,Ûd],[şa,Ŋc],[Ĵa,ϊ],[ġb,ŗa],[ϊ,Êb],[ϊ,įa],[.p 0 []],(ĸf ñ),(ţc Ùa),(Řc r j),(Β Ϟe),(Ζ İd),(Ζ Ģg),(ϣ ëc),(Γ Đa),(Γ źe),(Α ŀc),(Α ϟe),(Üa _ z),(Üa _ m),(À řj),(yf f fs),(xs++[x]),(xH K uG),(xH K tu),(x-y-q<0),(x b u e),(x ^^^ y),(x &&& y),(vS K vO),(vS K jP),(vS K jO),(vS K Y4),(vS K Y3),(vS K Y0),(p.n X G),(n*2 ^ l),(d i q z),(Q4 te t),(.nx σ2),(.nx σ'),(.fz Ϣd),(.fz üb),(.fz ûb),(.fz ùb),(.bool b),(Ŗd c),"walked","target","summed","signed","row_in","places","joined","far_at","do_row","behind",u.length,toString,tgs.getD,qs.Nodup,pick_run,o.toList,listText,its.size,h.DictAt,f.toList,f.extBut,d.typeIs,d.isList,backToKw,Z.length,W.length,Reps.rep,OwnMs.A_,Nat.succ,I.ok.mod,E.ext.yI,["four"],(ĩd ws),(Źj ?_),(Áb Tz),(σ++τ),(xj ĥe),(wv J _),(vs++zs),(u9 Ď),(pyTs a),(pJ q c),(o++[i]),(lo+y-1),(kv.1=k),(ji ġa),(gT Ġb),(eC Ęf),(eC åd),(eC Èc),(Z1 Ük),(Fx K a),(F_ K a),(D4 h H),(C0 K a),(2 ^ 62),(.ref D),(.lst h),(.lst _),(.int n),(.inl x),(.inl i),(.inl e),(.inl d),(.bl d'),(-16<=x),ds.set,"taken","leads","added",zo.pick,zI.made,u.trans,tI.near,setItem,o.trans,o.cells,i.mapOf,h1.get?,getAttr,e.pairs,e.ext.g,a.names,W.frame,Reps.aI,PySem.W,0,L3.getA,F.trans,C.trans,Builtin,[.ix 2],(ώf k),(ěe k),(ĸf i),(ĩa m),(ĩa d),(Îk _),(łc b),(Öc f),(Ŵd _),(Ģa L),(įc c),(īc i),(Ķa G),(şb j),(Ģc h),(Ăa h),(Ěc n),(Ů _),(ϣ c),(ù+1),(ħ g),(Ó g),(õ h),0,(ė c),(Š o),(Ê M),(À c),(x::xs),(x-y-q),(wI ys),(r::ms),(n::ns),(lo σ),(l q z),(k q z),(j+1+m),(i q z),(hi σ),(g b a),(fs β),(f ûe),(f v u),(f q z),(eC TF),(b β1),(b q c),(a q c),(YQ xs),(Fy ks),(F Řb),(B q c),(.fz d),"repr","part",0,w.elim,ui.fin,s.free,r.drop,qs.zip,o.mono,o.bind,ns.sum,l.most,j.down,h.push,h.elim,frames,c.size,c.getD,bubble,b.Perm,Y.drop,W.item,O.heap,N.keep,J.keep,I.step,I.mono,I.look,E.back,D.l2TO,B.kept,B.cell,A.cond,(δ i),(z6 6),(yg 9),(yM b),(yD 4),(wt 5),(wC 3),(vz x),(vV m),(r β),(qv 3),(qv 2),(qJ d),(mA f),(lo+y),(lo+j),(kV k),(k'=k),(k σ),(i::a),(ZX m),(Z1 l),(OF K),(Ls i),(x==("__debug__" : Str)),["_law_script","_law_rows","_law_places","_law_names_here","_law_items_here","_law_words_here","_law_pairs_here","_law_cell","_law_program","_law_handed","_law_machine","_law_other","_law_told","_law_kept","_law_many","_law_went","_law_later","_law_latest"],[.str k,.int (d:Æ),.int (s:Æ)],[x0,x1,x2,x3,x4,x5,x6,À (.fz (.int C2)),x8,x9,À M1,À M0,À (.tp Ã [.own (.lst X1),.own (.lst Y1)]),À (.tp Ã [.own (.lst X1),.own (.lst Y1)]),À (.fz (.int m)),À (.fz (.lst (.str s::L))),À (.tp Ã [.own (.lst X2),.own (.lst Y2)]),À (.tp Ã [.own (.lst X2),.own (.lst Y2)])],(j9 (β1:=[À űa,x1,x2,x3,x4,À (.fz (.lst W0)),À (.fz (.lst Pd)),À (.fz (.int C2)),À (.fz (.lst pr)),À (.tp Ã [.own (.lst pr),.own (.lst W0),.own (.lst Pd)]),À M0,Ä,Ä,Ä,Ä,Ä,Ä,Ä]) ?_),(vi (Ι (yu (i:=2) (show(wL ["code","found"] ["kind"]).Nodup by decide +kernel) rfl à)) rfl),(vi (λC s H d c=>(yu (i:=7) (show(wL ["_law_script","_law_start","_law_count",Ða,"_law_names_here","_law_places","_law_rows"] ["_law_k"]).Nodup by decide +kernel) rfl à)) rfl),[.tup [.int ((x+0)%65536),.int (w%256)],.tup [.int ((x+1)%65536),.int (w/256%256)],.tup [.int ((x+2)%65536),.int (w/65536%256)],.tup [.int ((x+3)%65536),.int (w/16777216%256)]],[À (Å,uw C T fw fh e due done Ws a b c ps),À (Å,.int cell),À (Å,.dic (o.map λk:Â=>.inl (k:Æ)) (o.map λi:Â=>(Ýa).getD i .zC)),x,Ä],(jp (KZ (jp (YV (wR (Γ (zj VJ a rfl (zB (z7 10) (zB (z7 7) zM)))) (yS (zW yV) Í)))) (jp (gb IF a rfl (pG (yg 10) (jo (z7 14) (jo (z7 7) jA))))))),(.ins C dx (putF f w (fs.zip vs))),[À (Å,.lst Ô),À (Å,.lst Őd),À (Å,.lst (Z.map λq=>.str q.1)),À (Ã,.lst L),À (Å,.int (i:Æ)),Ä,Ä],((p.setIfInBounds i (d,ϥ+Y.length,K)).eraseIdxIfInBounds ñ),[.int 0,.int 4294967295,.int 2147483648,.int 1,.int (u%7),.int (65530+u%12),.int (u*7%4294967296),.int (u*5%4294967296)],(qX (Ux (qX (gR (w8 (Α (zX jT (zA (z6 10) (zA (z6 7) zG))))))) (qX (p8 XG (qB 10 [] (p7 (z6 14) (p7 (z6 7) vQ))))))),Heap.get?_update_other,[À (Å,.lst a),À (Å,.lst (yM zE)),À (Å,.lst (vE Ô ě)),À (Å,.dic K V),À (Å,.lst (yM ϖc)),Ä],(xg {_,rfl,.inl rfl} (xg {_,rfl,.inr ł} (xg {_,rfl,.inr (.inr ł)} (xg {_,rfl,.inr (.inr (.inr rfl))} XX)))),["_law_rows","_law_places",ϗc,"_law_items_here",ŗa],[À (Å,.lst j),À (Å,.lst (yM R)),À (Å,.lst (vE Ô (ze R))),À (Ã,.lst []),Ä,Ä],(.Call (.Attribute ùa "append" apos) [e] [] cpos),[À (Å,.lst a),À (Å,.lst (yM zE)),À (Å,.lst (vE Ô ě)),À (Å,.dic K V),Ä,Ä],[.str k,.int (d:Æ),.int (n:Æ)],(yf (gQ (eL tO (Α (z6 8)))) (yf (gQ (eL tO (Α (z6 5)))) (yf (gQ (eL tO (Α (z6 6)))) vj))),(Ϣc PyProof.Rows.slot_tuple_getitem c.typeIs entry_tuple_getitem ?_ (args_tuple_getitem _ _)),[À (Å,.lst a),À (Å,.lst (yM zE)),À (Å,.lst (vE Ô ě)),À (Å,.dic K V),Ä],[À űa,x1,x2,x3,x4,x5,x6,À (.fz (.int C2)),x8,x9,À M0,À M0,Ä,Ä,Ä,Ä,Ä,Ä],[.tup [.int g0,.int 0],.tup [.int g1,.int 8],.tup [.int g2,.int 16],.tup [.int g3,.int 24]],(vi (Ι (yu (i:=18) (show(wL įj ["_law_one"]).Nodup by decide +kernel) rfl à)) rfl),(λr s'=>r=.ok (.ret (.bool Ã))/\OldK c.heap s'.heap/\s'.os=c.os/\AllBare s'.gens),[À (Å,.lst a),À (Å,.lst (yM zE)),À (Å,.lst (vE Ô ě)),Ä,Ä,Ä],[.str k,.int (d:Æ),.int (s:Æ),.int n],[À űa,Ä,Ä,Ä,Ä,Ä,Ä,Ä,Ä,Ä,Ä,Ä,Ä,Ä,Ä,Ä,Ä,Ä],[b0,b1,b2,b3,b4,b5,b6,b7,b8,b9,b10,b11,À (.tp Ã ŧe),b13,b14,b15,b16,b17],[b0,b1,b2,b3,b4,b5,b6,b7,b8,b9,b10,b11,b12,b13,b14,b15,À (.tp Ã ŧe),b17],[.tup [.str ða,.bl Å],.tup [.str ĵa,.bl Å],.tup [.str "sign",.bl Å]],pendingOf,(s.heap.update a (Obj.mapSeq λ_=>#[])),(λc=>c.1=Ä/\∃y q g,st=yU y q Ä g/\v_ 0 q.toList y.toList/\y.Perm x),[.int (x%256),.int (x/256%256),.int (x/65536%256),.int (x/16777216%256)],(by let:=Int.add_le_add_right (ëa h) (n:Æ);rwa [Int.zero_add]at this),(λq z=>h q (Ηa (s q z))),(yf (xt 2) (yf (xt 3) vj)),(.builtin "list.__iadd__"),[À (Å,.int x),À (Å,.int (n:Æ)),À (Å,.str k),Ä,Ä,Ä],(uR (zX vO (w6 Ğ "stands" û zG)) (zX vO (w6 Ĩ "stands" û zG))),[.fz T,.fz (.int e),.fz ža,.fz ěa],[À (Å,.lst a),À (Å,.lst Ô),À (Ã,.dic [] []),Ä,Ä],(.Attribute o name apos),List.nodup_cons.mp,(λr=>pure (.done (À r,e.2.1,e.2.2.1,e.2.2.2.1,e.2.2.2.2.1))),(ę ⟨_,rfl,ę h⟩),(ż λp=>{PyData.keyHash w.params p.1,.str p.1 p.2.1,p.2.2}),[.str w,.int d,.int n],[À (Å,.int x),À (Å,N),À (Å,.str k),Ä,Ä,Ä],(λxs H Q=>∃a kvs,xs=[Ùa a]/\Rd H a Ō/\Q (.int ń) H),[.int g0,.int (g1*256),.int (g2*65536),.int (g3*16777216)],(wg (zB (zi ŧ zh Ğg (Ζ Đa)) (zB êa (Γ Æa))) ėb),(by first|show Or.inl rfl|show Or.inr à|show Or.inr ϻa),(qI ϔ wU),[À (Å,.lst a),À (Å,.lst ϑa),Ä,Ä,Ä,Ä,Ä],(.tup [.str k,d,s,n]),(.done (À (Yl a b (Ź q) i (j+1)),Ź q,i,j+1,g,k,u)),(.dic (xR (xC ě) ú) (xv (xC ě) (YD b) (Zn b) ú)),[(1,[],Öa),(1,[Îa],Öa),(1,[Ña],[0,2,1]),(3,[],Öa)],[.str w,.int d,.int s,.int n],[R,À (Å,.int (m:Æ)),À (Å,.int cell),Ä,Ä],(λr=>pure (.done (À r,d.2.1,d.2.2.1,d.2.2.2.1,g))),(if t then XI [.int x,.int n]else XJ [.int x,.int n]),(.tup [.str "load",.int (d:Æ),.int (s:Æ),.int n]),((18+cJ Ļ)*134217728+mJ Ļ*16777216+dJ Ô R i%32),(Β ((isort ns).map V.int)),(xm (yQ Vb VZ (zO ŗ) (zO vd) ĵ) (zc (yO vd)) wx),(by exact(c*134217728+d*16777216)/2097152%8=0;omega),(.yield (Ä,e.2.1,e.2.2.1,e.2.2.2.1,e.2.2.2.2.1+1)),PySem.evalArgs_none,(À (Å,uw C T fw fh e due done Ws a b c ps)::τ),(x0::x1::x2::x3::x4::x5::x6::f::x8::x9::À M1::zt),(pG (qI ϔ ja) (B1 (zj YL b rfl ϫb) (B1 ěc jA))),(.tup [.str k,d,s]),(a::b::zt),(if v<0 then max (v+(n:Æ)) 0 else min v (n:Æ)),(.tup [.str ļa,.int (d:Æ),.int (s:Æ),.int n]),(.tup [.str Ļa,.int (d:Æ),.int (s:Æ),.int n]),(.tup [.str ĺa,.int (d:Æ),.int (s:Æ),.int n]),(yb (i:=3) Tr.nd rfl à (zj Mg b rfl (υ ĸa))),(if v<0 then(v+(n:Æ)).toNat else min v.toNat n),(.Tuple [.Name x p1,.Name y p2,.Name z c] kk pos),["_law_name","_law_place"],(if ze zE i then 2 else 1),[Ða,"_law_found",ŗa,"_law_way","_law_address"],[À (Å,.int c),À (Ã,.lst []),Ä,Ä,Ä],(ŏa ùa "append" Ø (ď ùa Ø)=ď ùa Ø),(.Call (.Name "max" p) [a] [{À ώd,e,kp}] pos),(.Call (.Attribute o "append" apos) [e] [] cpos),(((Æb "q" a).cps++(lt k).cps)++(Æb "q" b).cps),[uw C T fw fh e due done Ws a b c ps,.int cell],[uw C T fw fh e (δ i) j Ws a b c d,.int cell],(λi=>decide (0<=i)&&decide (i<1099511627776)),(.tup [.str "copy",.int (d:Æ),.int (s:Æ)]),(.inr {z,rfl,f,q _ _ _ n {rfl,İ (Es ..) f}}),[À (Å,.dic Ĥ Ń),À (Å,.int x),Ä],[(1,[],Öa),(1,[Ña,Îa],[0,2,1]),(3,[],Öa)],(λ_ b=>∃σ' H',zI X z8 σ' H' b/\Q σ' H'),(wL ["items","far","at"] ["number","target"]),(p (E.go d) c λv s y m g=>q v _ _ (Üd m) g),(kvs.map λkv=>if kv.1=k then(kv.1,y)else kv),(by rw[I.ok.glob];show I.mod.glob.keeps I.bk),(assign (.Name x j) Ø),(Ád (Ö (ëb hz rfl (x:=.ref TO) rfl ?_))),(λq=>(t q/\¬ B q)\/((B q/\¬ L1 q)\/L2 q)),(qC xJ P w K mg Ë N c Ŏ f g A ą s H E),(qC xJ P w K mg Ë N a Ŏ f b A ą s H E),(ŏa øa ű Ø (ď øa Ø)=ď øa Ø),(zi (zg (zV a)) zh (vK ý V4) (vK ý kH)),(zA (Υ (xh [ō] áa)) (Α (zX XC Äc))),(yb (i:=2) O5.nd rfl à (zj Mf b rfl ϫb)),(if G p=Ä/\G' p≠Ä then Ä else G1 p),(Builtin.Tuple.tupleItemsOf (.ref t) >>= _),(.tup [.str Ĥa,.int (d:Æ),.int (s:Æ)]),[.fz (.int κ),.own ùb,.own ûb,.own üb],[.fz (.int κ),.own ùb,.own Ŏa,.own Ŭb],(s = Ÿb \/ s = ða \/ s = ϧ \/ s = ϩ),(qC xJ P w K mg a N x Ŏ f c A ą s H E),(qC xJ P w K mg a N q Ŏ f c A ą s H E),(by rw[q];show List.mem_singleton.mpr rfl),0,(acc++(if k>0 then ", " else "" : ϗ)++t),(Ñb x a Ļb Ça Ŏ .none kV d h g b ct),(Δb (λi j=>tL i+tL j<=134217728) (i*j)),(λ_=>ü {_,rfl,W9.go {d,h,f,by omega}}),(wg (zB ya (zB (z7 7) (Γ (z7 6)))) ėb),(by exact c*134217728/16777216%4=0;omega),(WA (tV (OC .list rfl rfl Zq uE M5 ĉa))),((Λa (À (.fz x))).set j (À (.fz y))),[.str w,.int d,.int s],(zT (zT H dx (.own x)) x (.ins C dx [])),(zB (vK ý ja) (Γ (zj YL b rfl ϫb))),(st (wI Ws') a' b' c' (kP ps') (vP ps')),(Builtin.«zip.__next__» {[.ref z],[]}),(.plain {.Wf è É É É É,nofun}),(.plain {.Wc è É É É É,nofun}),(.dic (kP (Yg ps x w)) (vP (Yg ps x w))),(.ListComp elt [{tg,iter,[],0}] Ĺ pos),(.Call (.Subscript øa k p2) đ [] pos),((p0,x)::ps.zip (pick π .none [y,z,u])),Array.Perm.refl,[.int (οb (21+c)),.int (d%4294967296)],(Ñb ýa q Ļb Ça Ŏ d kV m j h a ct),(őa { cls:=.type ϕ,Ċ:=.dict #[] }),(zy (l pos d s σ H _ I h) λq n b=>?_),(zy (h pos g s σ H _ I j) λl a c=>?_),(wb X Ĺ cl own C s2 H2 fp (X.pn++z8)),(swapsWithSole [tg] e Õc Ø=pure Å),(qB 0 Įc (Ur (zX XC Äc) (Ur Ťe vQ))),0,(.tup [.str "set",.int (d:Æ),.int n]),(vR (own:=[şa]) rfl),PyProof.Rows.slot_tuple_getitem.lookup,[.int l,.int d],(zE++gF Ô zE),(λq a b=>dj q ((ϐ).mpr (.inr a)) b),(zT (zT m i (.own y)) y (.ins C i [])),(qC Q P w K J l N g d f F A ą s H E),(if x∈cs then getA fs ms f else Ä),(c.pin (b,o) (Űa _ (Űa _ (B3 j e)))),(Z.pin (b,o) (Űa _ (Űa _ (B3 d e)))),(PySem.F.args_tuple_iterator_next_1 _),[uw C T fw fh e due done Ws a b c ps],[uw C T fw fh e (δ i) j Ws a b c ps],[st Ĉ a b c Ĥ Ń,.fz (.tup Ŧd)],[mP C T fw fh e due done Ws a b c ps],[.fz (.int 7),.own I,.own Wd,.own Pd],[.fz (.int 6),.own I,.own Wd,.own Pd],[.fz (.int 4),.own I,.own Wd,.own Pd],[.fz (.int 3),.own I,.own Wd,.own Pd],(Ñb x a Ļb Ça Ŏ g kV d i h b ct),(Ñb m q Ļb Ça Ŏ c kV h g d a ct),(Β (Pd++[.tup [.int 9999,.int 7]])),(mP C T Úd ϡc e (δ H) G t B w g o),(m (E.go d) c λo u i=>q _ _ (Üd i)),(if k'=k then À v else Ć ks vs k),(.tup [.str ϗa,.int (d:Æ),.int n]),(λ_ _ z=>nomatch z),Builtin.SmallTypes.ownedTupleHandOut,[ű,"far","twofold",įa,"told",Őa],[m,t,À (Å,.int (n:Æ)),q,o,u,p],0,(Ñb ŀ c h i a dV kV C pm an d ct),(Φa (.Attribute øa "values" apos)),(tryCatch (pyNext (.ref I)) _ >>= _),(mP C T fw fh e (δ i) j Ws a b c r),(if ns=[]then z else .int (maxI ns)),((Ň h).resolve_left λz=>c z.symm),(Δb (λ_ j=>0<=j) (i/2 ^ j.toNat)),(śb (show ui _ _ _ _ _ from h).sx),(η (gl t a b y) (T_ t a b (x+1))),(zy (m g s σ H _ I h) λc j d=>?_),(zy (k f s σ H _ I h) λv l e=>?_),(zy (d b s σ H Q I h) λc f e=>?_),(swappedStores [tg] e Ø=pure Ä),(rI FH λi j=>.int (i*2 ^ j.toNat)),(by rw[æ];exact _<16777216;omega),(!c.toArray.isEmpty&&řd (Áf+Çc)),[.str ϧ,.str q.1],(w6 Ğ Ña û zG),(w6 Ğ Îa û zG),(w6 Ĩ Ña û zG),(w6 Ĩ Îa û zG),[.lst (zE.map λi:Â=>D.tup ŷd)],(Δb (λ_ j=>0<j/\j<2 ^ 64) (i/j)),(Ĵc y=À .cell\/Ĵc y=À .free),(ëb hz rfl (x:=.bool Å) rfl ?_),(zB Đa (Γ (zi ŧ zh ĸa Æa))),(c*134217728+d*16777216+s*2097152),(.str (Æb "q" (a ĭb%4)++lt Śg)),PySem.F.entry_tuple_iterator_next,(Φa (.Attribute o "clear" apos)),(ċ ϳ::pick π .none (us++ws)),(λq z=>(ϐ).mpr (.inr (s q z))),(λq z w=>A q Ġc λy=>w (j q y)),(L2.isort (ż λi:Â=>(i:Æ))),PySem.Calls.Name_function_global,(ο ĉa Űb),[xM C T e fw fh (vV s) due done],[.tup R,.int (a+2),.int (a+Ĥg)],[.fz êc,.own I,.own Wd,.own Pd],[.fz þb,.own I,.own Wd,.own Pd],[.fz ÿa,.own I,.own Wd,.own Pd],[.fz ľ,.own I,.own Wd,.own Pd],(ëb hz rfl (x:=.ref TI) rfl ?_),(λm t j i s o=>f m t j i ŗj o),(λm j f c s o=>a m j f c ŗj o),(g0+g1*256+g2*65536+g3*16777216),(e2 zP (Υ (xh [ō] Âb)) ϩb),(Classical.choose_spec (qf c k)),(.lst [.lst pr,.lst W0,.lst Pd]),(.ListComp g [{tg,b,d,0}] a pos),PyProof.Rows.slot_tuple_getitem,[.own ϫc,.fz Ža,.fz (.int w)],["_law_rows","_law_places",ϗc],(ëb hz rfl (x:=.none) rfl ýb),(η (gs t a b y) (Q0 t a b x)),(λp=>if p.1=a then(a,b)else p),(zZ Xy Xx (zZ Ye Yd zJ ŗ) zJ),(kvs.any λkv=>decide (kv.1=k)),(gj left (wj k) λi=>K x (b+i)),(PySem.F.args_dict_get_3 _ _ _),(Nat.le_of_sub_eq_zero (Őg c)),(.tup [.str w,.str k,.str q.1]),(.Assign [.Name x px] çb spos),((σ++š 2 Ä).set i (À b)),(Β (u.map Ùa)),(zZ qi jt zJ į),(w6 Ğ m û zG),(w6 Ĩ m û zG),PySem.wpAny_comprehension_free,Array.perm_iff_toList_perm.mpr,[st Ĉ a b c Ĥ Ń,.fz Ϙc],[b i,.int (A ñ),tA A (tg i)],(Μ (.obj Ğ ŏd [a,b,c,d])),(λq z w=>o q z (Ηa (i q w))),(λq z w=>A q (Ηa (i q z)) w),(λb o f e=>(U.2 b f).trans e),(wpAny_sequenceKey çc Í ?_),(e2 zP (Υ (xh ĳ ϱ)) Şg),(X.take k++r.toList++Y.drop e),(PySem.F.args_tuple_add_2 _ _),(PySem.F.args_dict_values_1 _),(.Attribute Ϧd "values" apos),List.eq_nil_of_length_eq_zero,(ċ t==Ýd),(Ζd (.bl (!decide (x=.zC)))),(Ŀ Ř Ř hi-Ŀ Ř 0 lo),(Ŀ ä ä hi-Ŀ ä 0 lo),(ĉ (x/2 ^ ((l:Æ)).toNat)),(ĉ (g*2 ^ ((n:Æ)).toNat)),(λq=>(t i q/\¬ L1 q)\/L2 q),(wN (zA Ħ (Τ (.bl Å)))),(wA C T e Ŏa ěa s due done),(gb Md a rfl (pG (yg 10) jA)),(Rn rfl Vq (zj IJ b rfl ħb)),(.tup [.int (i:Æ),tgt Ļ]),[.int (i:Æ),v],List.pairwise_iff_getElem.mp,List.getElem?_eq_none_iff.mp,[À (Å,.lst Ũe),Ä,Ä],[À (Å,.dic Ďa ŕa),Ä],[st Ĉ a b c Ĥ Ń,.fz r],[st Ĉ a b c hk hv,.fz Þc],[st Ĉ a b c hk hv,.fz ĩg],[.str ϧ,.str ϩ,.str Åa],[.str k,.int x,.int y,.bl a],[.str "d",.str "s",.str "n"],(Ĳb e Ä Õc Ø=pure Å),(λc d i e=>j a f g c d i e),(wb X Ĺ cl own C s H a pn),(wL ["four"] ["byte","low"]),(vR (own:=["_law_one"]) rfl),(if g=f then À u else i g),(if f q then H' q else H0 q),(if Lm q then H' q else f q),(List.eq_of_mem_replicate h),((œj).push (ćd ŷ ĳa 0)),(!(ŵe j i 0 Ôa 1).isEmpty),Option.isSome_iff_exists.mp,Builtin.Builtins.bindParams,[ϱ,Ùb,ŝb,Ác,Ĵa,"due"],[X3,.own I,.own Wd,.own Pd],[X2,.own I,.fz .zC,.own Pd],[X0,.own I,.fz .zC,.fz .zC],(ŏa e f Ø ϲd=ď e Ø),(λq=>(t q/\¬ L1 q)\/L2 q),(λd1 d2 v=>MK I n d1 d2 v),(zi ŧ zh (vK ý qW) ėa),(e2 kL (e2 uy Ő ĩ) Ő),(call (.builtin a) (v::us)),((wI ys).any λy=>xr y Ža),(e2 uy Ő Ď),"dict_reverseitemiterator",Int.fdiv_eq_ediv_of_nonneg,Builtin.Slice.sliceApplied,Array.toList_setIfInBounds,(Ψa (d 1)),(zj uS b rfl (zB ý Ħb)),(zi (zg (zV d)) zh į zJ),(seqItems? (.ref S) >>= _),(if Ĝg=Ã then _ else _),(if p.1=a then(a,b)else p),(if d q then Ä else s q),(if d q then Ä else i q),(by rw[mirror_size];omega),(W.methodObj Ĵ (.ref y)),PySem.F.entry_dict_values,[ϊ,ϖa,şa,Ũa,"known"],[(J:Æ),(I:Æ),(y:Æ)],(úb (Ëb q Ŏ ß f c)),(úb (Ëb c Ŏ ß f g)),(úb (Ëb a Ŏ ß f b)),(χc (o q z (Βa (ϐ)))),(τ.set i (À (Ã,d'))),(λv H2=>v=.zC/\Q ŗc H2),(λf vs=>PySem.call f vs),(rule "list.sort.gallop"),(fS Ė (λb a=>όb.1) k),(apos.endLine==cpos.line),(X.N.map (hide own)++own),(.ins C dx (putF f y fs)),(.call (.ref S) {ña,[]}),(.Compare a [op] [b] pos),((d.endLine==f.line)=Ã),(Β (xs++zs)),(σ.set i ħc),(jq 3 (Xu Xt)),(.int (u:Æ)),slot_list_getitem.lookup,PySem.F.type_dict_values,PySem.F.slot_tuple_index,[.int x,.tup Ûk,.int n],[.int x,.tup ıg,.int 0],(Δb (λ_ j=>0<j) (i%j)),(Ź q++Äb ϸ (j+1+m)),(À (Å,.int (i:Æ))),(yR 3 (zX gE (Κ Ěd))),(xs.drop (Ŀ ä 0 lo)),(qY Ğ űb 10 [] uG vQ),(qY Ĩ űb 10 [] uG vQ),(ek e g É É É É),0,(e1 (wW u_ t4) (eC ūb)),(c*134217728+m*16777216),(by rw[d];simpa using n),(Option.map (λx=>!x) y),(.tup [.str ϧ,.int p]),(.lst [.lst X2,.lst Y2]),(.lst [.lst X1,.lst Y1]),(.Attribute o "get" Ϻ),(("q" : Ç).length<=16),"itertools.zip_longest",PySem.F.slot_dict_items,PySem.F.entry_tuple_add,Nat.testBit_mod_two_pow,Nat.testBit_div_two_pow,List.mem_iff_getElem.mp,List.filter_eq_self.mpr,List.filter_cons_of_neg,Builtin.Dict.updateFrom,[.int a,.int (jI ps a)],(Şc o a b j.ext.g k h),(Ζ (zZ qi Kv Ľa zJ)),(λx l r Q c S O J=>?_),(λd=>.tup [d,.bl Ã]),(qY Ğ űb 0 [] uG vQ),(qY Ĩ űb 0 [] uG vQ),(T1 (w := ϧ) rfl rfl),(List.take_sublist _ _),(.rt (.fz ň) (x0::r)),0,(À (.fz d)),"WordMachine.__init__",wpAny_pyNext_list_item,PySem.F.slot_tuple_add,PySem.F.entry_max_loop,PySem.F.entry_dict_get,PyProof.Rows.bitAnd_pp,List.pairwise_cons.mpr,List.getElem?_set_self,[.var 1,.var 2,.var 3],[.str w,.str k,.str t],(λv l=>v=.ref a/\l=H),(λq z=>(ϐ).mpr řa),(λd l=>h d (Üa _ l)),(λc=>Br x (z+1) c st),(λb o g e=>O b o g e),(λb o f e=>T b o f e),(zF.filter λd=>!xP d),(yx (tU IC b rfl øb)),(yQ Vb VZ ĉa ϋb ĵ),(xh ["State"] "words"),(rI C λi j=>.int ύa),(n.trans (ďb e.gh j)),(n.trans (ďb e.gh i)),(m pos j s σ H _ I h),(by rw[vL É];show w),(by rw[e];show{_,m,q}),(b.trans (Ϟa b.gh c)),(Bo a b (Ź q) i ϣa),(.inl {b,k,e,rfl,rfl}),(.Subscript ùa k ĕa),0,(.Subscript a řg pos),(.Call Şj đ [] Ž),(.BoolOp .And [a] pos),((ps++[(a,f)]).map pD),"_law_start","RowMachine.__init__",wpAny_pyNext_list_end,X.s₀.heap.FunFrames,Std.Legacy.Range.size,PyProof.Rows.wpS_lift,Nat.add_lt_of_lt_sub',List.nodup_append.mpr,List.length_filter_le,List.Pairwise.sublist,Int.mul_ediv_add_emod,[Âc,"_law_many",Ða],[ϱ,Ùb,ŝb,Ác,Ĵa],[.ref I,.none,.ref S],[.dic Ĥ Ń,.int x],(ćd Ġ d.toArray 0),(λo v z=>by cases z),(x.above y c (ϔe h)),(vR (own:=[Ŋc]) rfl),(ue (tE ĩ) Ő ĝ),(pJ (u.tq b c v q) d),(p8 XH (qB 10 [] vQ)),(keywordEach kws Ø),(f.trans (j.trans n)),(eL tO (Α (z6 18))),(eK I m j hf f e d g),(by simpa using this),(by let:=f q h;omega),(F.args_zip_next_1 _),(Bs D.l2i2 L.toArray),(Bs D.l1i1 G.toArray),(.str (vz ßc).shown),(.BoolOp .Or [a] pos),(.Attribute o f tpos),"str_ascii_iterator","itertools.pairwise",wpAny_loadName_local,Nat.eq_of_testBit_eq,Nat.add_le_of_le_sub,List.getElem?_set_ne,Calls.evalArgs_plain,Array.toList_reverse,Array.toArray_toList,[.Attribute o f ĕa],["one",ìd,"borrow"],(Γa (VB .list û)),(Γ (vq Ju Iv rfl)),(λz=>e (a.trans z)),(λxs z=>by cases z),(β++[À (.own d)]),(xr x y&&dEqs xs ys),(tupleItemsOf_ c ?_),(tE (e2 YH ĩ ïa)),(if a then 1 else 0),(by rw[ģ]<;>omega),(by rw[z_ z];show c),(by rw[g,j];show hz),(by exact m<4;omega),(a q ((eL q).mpr z)),(a q ((eL q).mpr w)),(Ym a b ēd (i-1) j),(VQ I i v hv ?_ g a),(Nat.le_add_left ..),(.Subscript o k ĕa),(.Subscript a b pos),(.Call c đ [] pos),(.BoolOp op [a] pos),(.Attribute o f ĕa),(.Assign [tg] e pos),((τ.take k).map gU),((d q).mpr (.inl c)),"dict_itemiterator","Machine.registers",z.cps.toList.length,wpAny_loadName_cell,beq_eq_false_iff_ne,Nat.sub_le_sub_left,Nat.log2_lt,List.mem_map_of_mem,Heap.SameBut.update,[ϊ,"low",Ûd,įa],[.str "d",.str "s"],[.str "d",.str "n"],(ôf++(Ūd).take 1),(Ξd (.Name ńb p)),(Ξd (.Name ţb p)),(Ζc (d.lst i ϰa)),(ζa (Υa (z7 18))),(χb (.Name ĵb p)),(χb (.Name ϕ p)),(Ζd (Ωa (x=.zC))),(Β (νa (ϛb a))),(Į _ (Į _ æd)),(λx l r Q c q=>?_),(wg (zB ya zM) Ϯe),(uA ps Íc (v%256)),(storeName Ø x u),(qm (tV ŗ) zJ zJ),(pM λi j=>.bl ύa),(pJ (u.qR b e q) d),(intBits_le_64 b a),(hi l s σ H _ I h),(f x y&&je f xs ys),(by simpa using h2),(by simpa using e2),(by simpa using e1),(by rw[ſ];show b),(by rw[æ];show c),(P d (Ťd (Ϩc a))),(.tup (p.1.map kV)),(.ret (.int j ĕ)),(.Tuple elts kk tp),(.Assign ώe v pos),(.Assign Źe v pos),(zB zJ Ħb),(ks.map kV),"internal:collect","dict.update.loop","Machine.__init__",s.heap.IsTupleIter,of_decide_eq_false,getattributeRaised,SeqAt.EqAt.str_int,SeqAt.EqAt.of_refs,SeqAt.EqAt.int_str,PyData.showableAll,Obj.data_mapFields,Nat.lt_of_le_of_ne,List.zip_nil_right,List.set_cons_succ,List.getElem?_take,Int.mul_emod_right,[.lst ws,.int Ϛb],(ζ (zA ĩ äc)),(łc (Ϟa c.gh f)),(łc (Ϟa c.gh e)),(ż λi=>Ϩ Ϛb),(Βb (ōa es env)),(λv _=>v=.bl Ã),(λb u q=>Į _ q),(λb u e=>Į _ e),(λ_ h=>Þ h è),(λC s H c b=>į),(zi ŧ zh Æa zJ),(zZ xT xS ý į),(zZ lH lC ý į),(zT G p (Tx l vs)),(yR 2 (zX XM Äc)),(yR 2 (zX UW Äc)),(wu [] [] p.1 p.2),(by simpa using t),(by simpa using k),(by simpa using b),(by simpa using a),(by simpa using R),(by simpa using I),(by rw[Ū,o];rfl),(by rw[Ū,i];rfl),(by rw[Ě,Ě,l]),(by rw[ê];omega),(by rw[rF];decide),(YA (β.take č)),(DO t1 t2 h l1 l2),(DN t1 t2 h l1 l2),(Bj a b ēd ñ j),(.Tuple es x1 pos),(.IfExp c a b pos),((c+7919*k)*48271),((a:Æ)==(n:Æ)),wpAny_pyIter_enum,wpAny_assign_Name,meets_dict_values,decide_eq_true_eq,d.params.defaults,Value.isInt_shape,PyData.hasDictAll,0,List.getElem_take,List.getElem_drop,Heap.get?_push_ne,Calls.spliced_nil,Array.size_append,[Ŋb,ű,Îa,Ña],[Ŋb,ū,Îa,Ña],[įa,Ûd,"power"],[.str w,.str "s"],[.str w,.str "n"],[.str k,.str "s"],[.str k,.str "n"],(Ϲ i q (p q z)),(Ϲ i q (I q z)),(ìf b o e n C t),(Ëb g d ß f F),(τ++š ϯa Ä),(λi=>c.getD i 0),(λC s H d b=>tW),(zZ xX xW ý zJ),(zZ xT xS zJ ıf),(y.toList.map wj),(x.toList.map wj),(wv (s.free r) _),(wv (c.free m) _),(tU IL b rfl ħb),(i<1099511627776),(by rw[z];show a),0,(by rw[j];show T),(by rw[j];show J),(by rw[cf];omega),(by rw[c];decide),(Zc (Υa (z7 8))),(List.cons.inj a),(.tbl (ps++more)),(.builtin "repr"),(.Pass {0,0,0,0}),(.Name x pos::es),(.Dict [] [] pos),"odict_iterator","State.__init__","REGISTER_COUNT","Machine.stands","Machine.memory",z.cps.toList.map,wpAny_pyIter_zip,wpAny_execs_cons,noFill_tuple_add,fillsInplaceSlot,f.heap.objs.size,W.cellsFrom_some,Option.getD_none,Nat.zero_testBit,Nat.succ_lt_succ,List.range'_succ,List.drop_length,List.all_eq_true,Heap.size_update,F.entry_zip_next,0,[x0,x1,x2,x3,x4],[.int 27,.int 5],(À (yq K Èf)),(λz=>Þ rfl z),(λz=>h (Įb z)),(λq=>nomatch q),(λq=>La q\/c q),(λq z=>i q Ŏf),(λq z=>h q ċd),(yU x ĺj Ä g),(wu [] [] ks us),(wDs a<=1000000),(d.zf.fresh Đ),(by simp[ĺh,c]),(a.symm.trans e),(YA (β.take b)),(K.ext.h.free b),(.tup [ća,ϋg]),(.obj C ŏd Ŝj),(.int (q.2:Æ)),(.inr (i q Ŏf)),(.done (Ä,())),(.cons rfl .nil),(.builtin "sum"),(.builtin "all"),((ϥd).length=n),"type.__call__","list_iterator","NUMBER_WIDTHS","Machine.steps","Machine.place","Machine.marks","Machine.again",wpAny_loadPart',sc.names.lookup,noFill_list_add,W.methodCall_KW,PyData.depthAll,Option.map_some,List.zip_append,List.zipIdx_nil,List.nil_append,List.filter_map,Heap.DictOf.new,F.slot_int_rmul,[.int a,.int f],[.int 0,.int W],[.int 0,.int 8],[.at [ō] Âb],(ćd Ġ #[] c),(Ω (Α ϯc)),(Νd (Ěe ñ)),(Ņb (wv ?_ _)),(Ĭb (Ϭc Ťc)),(Δ (jI ps a)),(Δ (i+b2i k)),(ğb (ϭ x z)),(Β (xs++[y])),(Β (vs++[w])),(ōa [e,f] Ø),(Ζ (Αb Ĺk)),(Ía π.length),(σ++š 1 Ä),(σ++[À ϛ]),(xv A b tg ñ),(v C s H fp pn),(uh ks ms k m2),(u.g.trans e.g),(q _ _ _ d rfl),(h.swap.pa e c),(fm λi j=>i+j),(f x (Ä,l,r)),(eC (.int 256)),(e2 zP Éa ĝ),(e2 zP Ħ ĝ),(e2 zP ĩ Ő),(e2 yk û Ď),(e2 pB ōf Ď),(e2 Jp û Ď),(e.2.2.2.2.1+1),(by simp;omega),(by kernel_rfl),(S7 sp [] E0 t),(Rd.tw t ók q),(Q1 (qv 4) Đa),(K.ext.trans x),(IY I l v ?_ a),(I.ok.UH b o e),(2*n<1*2 ^ Ġa),(.yI o (.dK m)),(.lst [.str s]),(.bl (yq ks k)),(.Expr łj pos),((ϐ).mpr ąb),((u p).mpr rfl),((c q).mpr Řa),(Ι ĸa),"str_iterator","Machine.step","ADDRESS_BITS",wpAny_setField,wpAny_newTuple,sliceRange_one,slicePart_none,recursionLimit,firstArgMember,env.scope.kind,c.resolve_left,Value.type.inj,PyData.keyHash,Nat.max_le.mpr,Nat.add_le_add,List.forIn_nil,List.drop_zero,L.toArray.size,G.toArray.size,[.dic Ĥ Ń],(Ēb [:n] c f),(ϳe tg Ãb u),(ſd (Ä,())),(Ϸc [tg] Ø),(ċ ϳ::Ēd),(Á V×Á D),(σ.set i Ĳf),(λi=>Ļf i 0),(yf (xt 3) vj),(yf (xt 2) vj),(yU x p Ä g),(xO x&&Ůc xO),(xC ě i+ϑj),(x/16777216%4),(x-y-pK Å<0),(wv (õf j) _),(wv (õf i) _),(wZ Ô R ñ),(wB ks ds x y),(w6 c m fo zG),(vq MU BL rfl),(vq Jv Iw rfl),(vq Jt Iu rfl),(pre_splitW b),(l.lst hl ϰa),(jq 1 (Xu Xt)),(jC fs vs f w),(jC fs ms f e),(eC (.int 40)),(d2 q (G▸f)),(d.lst hl ϰa),(by size_fits),(by rw[P];rfl),(a.getD i Å),(Zc (Υa Ĥe)),(Zc (Υa Đa)),(WD Ô tgs n),(ON λd c=>?_),(H _ _ É ?_),(AP X z8 σ Q),(.lst (t6 ps)),(.int ύa ĕ),(.int (w:Æ)),(.int (n:Â)),(.ins C dx []),(.inl (k:Æ)),(.builtin Ýb),"list.append","_law_number",x.toList.drop,swapsWithSole,swappedStores,subscriptTail,seq_tuple_add,s.heap.IsList,s.heap.IsCell,r.length.symm,listUpdate_at,h.IsTupleIter,f.ext.gh.free,evalPart_none,call_list_seq,WData.layable,0,Value.isStrOf,NameKind.free,NameKind.cell,List.take_nil,Int.mul_assoc,Int.add_assoc,E.ext.gh.free,[Ĺd,ìd,ða],[ϧ,ϩ,Åa],[ϱ,Ùb,ŝb],[ϊ,şa,Ŋc],[ű,Îa,Ña],[Ða,ŗa,ϗc],[ū,Îa,Ña],[z,TI,TO,t,C],[p0,p1,p2,p3],[D1,.tup İj],["_law_pair"],(γb (ľb g)),(γb (ľb f)),(ŏc _ _ t x),(Νd (Ěe i)),(Λa (À a)),(ņg (œg a)),(ď àa Ø),(ď ùa Ø),(Ϸc đ Ø),(Δ (2 ^ w)),0,(ōa [e] Ø),(σ++[À w]),(σ++[À b]),(λj o=>j++o),(zc (yO ŗ)),(zT H' a Ō),(zT H' D Ñc),(zT G' a Ō),(zO (yx ϳb)),(yL (eC ă)),(xx.size-1+1),(xv A b tg i),(wZ Ô zE i),(uA ps x Ĩd),(tQ r.2 i π),(ps++[(a,b)]),(jI ps a≠0),(i p (j p w)),(dunderI ńa),(dJ Ô zE i),(b.gh.free c),(b q λw=>?_),(Yj 4 ZQ Éa),(Yg ps Íc v),(YW kvs more),(Xa xs lo hi),(Vp (K:=K) e),(St->Hp->È),(L++[kS q.1]),(H _ _ lo ?_),(EP X d σ Q),0,(.tail _ Że),(.str s t::r),(.str (nk i)),(.str (i++j)),(.Name Ġ p),((n:Æ)*8+d),"dict_items","NUMBER_LOW","NEAR_CODES",s.cps.toList,mul_one_list,e2.length_eq,c.toList.any,c.symm.trans,W.kitx_tuple,OwnMs.length,Nat.succ_pos,Nat.sub_zero,Nat.mul_comm,Nat.lt_asymm,Nat.add_zero,Int.zero_add,Int.sub_zero,Int.reduceEq,Int.max_comm,Int.add_comm,Array.toList,[Ϙb tg Ø],(Åi (qo g)),(Ť Y&&Ã),(üa .NotEq),(Β (x::r)),(š Ż xs),(λx v h=>h),(λi v h=>h),(λc=>p Ϲf),(λb v h=>h),(λ_ _ e=>e),(zc (yO j_)),(zT W p ĸk),(zT H l ϥk),(zT H l Ëe),(zT H l ŵj),(zT H l Ñc),(zB ŗ óf),(zA ĺd ïh),(yf ıd Řj),(yU y p f g),(yS Èh Í),(xq (z6 15)),(xO o&&xO n),(x.rebase y),(wL ŀj ϐj),(wI (Ic ps)),(wG (z7 15)),(ug m π m2),(u9 (z6 16)),(u9 (z6 12)),(tS kvs k y),(tC (.ty T)),(py ě ϒf),(pN fs fg g),(okb.Qk b d),(newList []),(m.append o),(loop _ rfl),(l.ok i q z),(is.map ĉ),(i+1+1==ò),(hr.mono hk),(e_ Í Í),(by rw[<-z]),(by cases h),(b.h.free c),(b (qp r.2)),(a.map V.bl),(ZO F ts fs),(VE X.K n t),(U_ z lo hi),(SJ h.1 h.2),(I.Wa x c e),(Fz a o kvs),(F.bs b o e),(DM t1 h l1),(C1 a o kvs),(30+(k:Æ)),(18+(c:Æ)),(.type T.nm),(.tup [ϋg]),(.tup [v,u]),(.tup [u,v]),(.tab ks ms),(.ret .none),(.int 65536),(.inr {l,b}),(.inl {z,w}),(.inl {l,b}),(.dic ks ds),((c q).mp z),((3:Æ)<κ),"distances","_law_some","_law_mark","WORD_BITS","NEAR_BACK","FAR_CODES","BYTE_LOWS","BYTE_BITS",wpAny_in_of,unsupported,t.heap.get?,subscripted,seqEpoch_at,o.ExactDict,mirror_perm,len_mul_leN,l.objs.size,interactive,c.objs.size,binarySort',acc.toArray,W.kitx_dict,Value.isInt,Value.bytes,Sum.inr.inj,Shared.heap,Reps.append,Paired.snoc,OwnMs.split,OwnMs.parts,Option.none,Nat.sub_sub,List.range',IsRangeIter,I.ok.jN.mem,I.ok.frames,Heap.ExtBut,E.ext.trans,D.TOi1.symm,Code.guards,Code.frames,Builtin.Str,[a,.fz Žj],[a,.fz ūj],[S,.fz Žj],[S,.fz ūj],["key",ώd],(νa (Ňg)),(Βa (c q)),(Ωa (i=j)),(Ψa (d 3)),(Κa (i-j)),(ď e env),(ď a Ø),(Æb "q" b),(Æb "q" a),(Äb m ϣa),(Δ (c%5)),(Ğc šj b),(Űa _ Ł),(İ j Í),(Ũ ëc f),(š k its),(À (_,d)),(zg (zV a)),(zX UV Ţb),(zT H' D o),(zT H x o'),(zT H a u'),(zB Ϧe zM),(zB ģg zM),(zA Ěd zG),(zA ύ zG),(yf ıd vj),(we I q ?_),(wV jP Čk),(wV jP Ċk),(wV jO ċk),(wV jO ĉk),(wV Ug ϩa),0,(wQ ks äe),(vK ý kH),(n=0->v=dv),(ks.map TQ),(j.cut l h),(ixN ÿ j),(i.cut l h),(fs.zip vs),(by show O),(by show A),(as.zip vs),(W.sub _ h),(Uy F g g'),(SP X z8 D),(K8 f y fs),(A j q p z),(8*2097152),(.yI o þa),(.type ħa),(.rt Ã d),(.rt m β2),(.ok .next),(.Name x j),((n:Æ)+1),z.cps.size,wpAny_load,ur.none_of,tgs.length,0,size_push',pushGuards,piled_cons,out.toList,l.swap.fin,isTrue_and,closureFor,beq_iff_eq,b.Pairwise,WShape.has,W.handedIn,Subscript_,OwnMs.putF,OwnMs.perm,HT.sIx_nat,D.i2z.symm,D.i12.symm,[p0,p1,p2],(Óf M.fn),(Êf C dx),(ūd d ?_),(ša<1000),(Ϲa this),(ä==ţ),(š k xs),(Ã==Ã),(ß==Ĺh),(λv h=>h),(λ_=>#[]),(zX F Ļk),(zX F ĺk),0,(zT H a c),(zT H T o),(zT H D o),(zT G p o),(zE++g zE),(yR 2 źk),(yR 2 ĝ),(xr d1 d2),(xR A ñ),(xD b=Ã),(wW kM kO),(wW YK ZV),(wW YJ ZU),(vE Ô f),(v.db ϰa),(uV its k),(uP äh i),(uA d u v),(truthy v),(tS f k v),(pO 3 ûc),(pO 2 ļg),(o.getD d),(n b ob e),(mS Y o h),(jq 2 ϧk),(j+1==ώ),(eL FL fs),(d.db ϰa),(d.da ϰa),(by rw[c]),(arrOf st),(Yf ks ds),(Y.pl q h),(Ve b=Ã),(P.zip vs),(IS Ė n),(2 ^ 63-1),(.tup ůl),(.tup ŗk),(.tup Éh),(.tup Ĉk),(.tup ϡg),(.tup Ûk),(.tup Ãk),(.tup ůj),(.tup ōj),(.str ϙc),(.str x t),(.str "s"),(.ref Ϙd),(.ref ŵa),(.own ßc),(.own Ăb),(.own ϡc),(.int Ř),(.int ä),(.inr ŧa),(.inr ĵa),(.inr ða),(.inl Ϛb),(.inl p.1),"address","NEAR_ON","Machine",zF.length,zE.length,z.sameBut,va.length,spos.line,sortRuns',slicePick,sh.extBut,sg.extBut,s.heap.Ns,ru.length,pu.isList,p1.length,ok.frames,maxI_uniq,l.swap.sa,l.g.trans,kvs.foldl,isTrue_or,i.toArray,h.swap.ca,h.IsTuple,h.DictOfH,getMethod,g.isEmpty,g.gh.free,countRun',cond_true,b.F4.make,W0.length,Str.empty,Reps.take,Reps.getK,Reps.getA,Reps.drop,Q.toArray,I.zf.kept,Decidable,Arguments,[Ũa,ϖa],[Âc,Ða],[ġb,ül],[ϱ,Ùb],[ū,Âb],[ū,Őa],[w,x,y,z],[v,ov,iv],[a,.fz r],[.lst zF],["State"],(ñg Đ),(Ϣi n y),(ėi ñ),(ϵf Ãb),(ħe Ùa),(Ħe Ϙd),(ŉl É),(μ Ůl),(Ļf i 0),(Ρ Ōf),(ěd ñ),(ŋk=Ã),(ţc ċ),(Ìe i d),(Ņa ŕi),(úc s h),(Μb çi),(ďb s r),(Αc ŋk),(Λa Øl),(Τ Ļc),(όa<=16),(Κa ύa),(οb ķe),(οb ůc),(Φa Şj),(Δ ύa),(Μ ŗd),(üa .Eq),(Β Ûg),(Ε Ľa),(Ζ Đa),(ϣ ęe),(Ι Đa),(Γ Ĥe),(Γ Ϧe),(Γ Ľa),(Γ Ľg),(Γ ϵb),(Ía Àb),(Ía ö),(Ía ú),(Α çd),(Α ŧd),(Ŋ c.1),(Üa _ f),(Üa _ d),(š 8 0),(Į _ g),(ę šj),(ę ýb),(Ö Ϙh),(À Ϥj),(ze zE i),(zA f fs),(xH K jQ),(xH K gD),(xH K Wj),(xH K UR),(x/2 ^ l),(x a o e),(wQ ks x),(uV [] 0),(u e1 e2),(st::sts),0,(q _ _ d),(pyTs ds),(o++x++y),(k K b z),(j E h q),(i E z q),(h r g f),(g _ _ e),(ds++[y]),(d+k+x.2),(cut H L),(b.len l),(b _ _ e),(a[Ż]?),(a++[yv]),(YW [] c),(W.l▸e),(T y c e),(LQ lo n),(Hp->È),(F.n X G),(F b o e),(C q řa),(C q Řa),(B4 2 Xt),(2 ^ w-1),(.v d::a),(.tup []),0,(.rt o d),(.ref X9),(.ref X8),(.ref X7),(.ref UP),(.ref UO),(.ref UM),(.ref UL),(.ok ãe),(.nx Ϧk),(.no::ts),(.lst PL),(.int g0),(.int 21),(.int 11),(.head _),(.fz Ϩk),(.fz Ŭb),(.fz ϱa),(.fz ěa),(.dK İa),((i:Æ)),(jB (yQ (xj (yt b)) xi (zO ý) (zO zJ) ĵ)),(yS (Lg (n:=6) Í) Í),(by cases y<;>show c),(qI ϔ qW),(vR (own:=[Ðb]) rfl),(λd=>À (Å,d)),(TZ 2 (TZ 3 Kg)),(by show Ũc {?_,?_};rintro(⟨z,w⟩|⟨z,w⟩|z);show .inl {z,λy=>w Ñg};show .inl {i q z,w};show .inr z;rintro(⟨z,w⟩|z)),(by cases e;rw[Ģ]at c;subst c;show{_,uI ĸ,?_};simp only[èb,Ϧ,ś]),0,(by subst e;let{o,e,c,d}:=st;show{o,e,λv z=>by rw[d]at z;cases z}),(by let{t,p,k}:=h.h;show{{t,p,λE a q=>?_}}),(by omega;rintro _ g (⟨f⟩|⟨l⟩);show ü {g,rfl,_,rfl,f}),(by exact _<16777216;omega),(by let{c,C,rfl,b,e,t}:=r2;cases(show u=ċ a from rx);cases(show v=ċ c from ry);by_cases hac:a=c;subst hac;rw[MK I ı _ _ _ p q m]),(by rw[show öf Ϝa=Čg Ϝa by simp,JZ r c];show q),(by intro l s σ H x y v u Q I d g h;let{o,n,k,f,e,i,q}:=h;by_cases hf:Īn=Ã;let c:=hf;rw[Č]at c;let{a,b}:=o7 i c.1 c.2 f e),(by decide +kernel),(by let e:(Ńf).cps.toList=(ϝn).cps.toList++[97+Ż]++(Ϝn).cps.toList:=by unfold qn;exact(ϗj).toList=_;rw[Ĝb,Ĝb];rfl),(by intro X Q hw Y m i z8 s σ H E I J st A;subst Q hw Y;let{ok,ov,g}:=st;let{_,f,j,N}:=T8 Ė A.1 d;let r:Îb=ń:=gZ j),(by split at a),(by by_cases c:B q;show .inr ϕh;show .inl {z,c};show .inr Řa),(by intro X A L F O i Q s σ H E I t st C;subst A L F;let{vs,f,y}:=g ø á Ŧ;let n:ö=Ī:=by rw[gZ f,Įa,R,ıa]),(by let{O,B,e1,T,i,X}:=õd r a;let{v1,L1,R,P,j,S}:=Ÿf Y T Z),(by cases e;rw[c]at a;cases a;rw[l]at b;cases b;show Ăc r d),(by rw[ĸ];show Ũ ēa.1 ŏ),(by rintro i m σ H ⟨rfl,I,τ,G,K,a⟩;by_cases hlt:i<ϋ),(by let{s,k,i}:=a.h;let{t,c,j}:=b.h;show{{_,N4 k c,λ{l m G H τ σ d Q} E h q=>?_}};unfold uR at h),(by let{a,B,rfl,l,f,w}:=o;let{c,E,rfl,b,e,r}:=n;cases(show u=ċ a from m);cases(show v=ċ c from p)),(by intro X A G B L i N s σ H E I r st n;subst A G B;let{_,g,f,y}:=T8 Ė n.1 d;let m:Íb=ń:=gZ f),(by by_cases c:k'=k;rw[Ò c]at e;cases e),(by let c:=K9 (n:=n) É;rw[hk]at c;let a:=Ih (n:=n) É),(by by_cases hb:b=a;subst hb),(by obtain⟨⟨n,g⟩,q⟩:=g;subst ex),(by rw[<-(Đd).UE,<-l];show h _ ϔb;subst d;cases(show u=ċ b from m);let{z,f,t,c,i}:=T2 Ė e),(by simpa using this),(by exact _<=16777216;omega),(by intro e s σ H x y v u Q I c d h;let{i,j,rfl,rfl,q}:=h;let{t,rfl}:=c;let{b,rfl}:=d),(by intro d s σ H x y v u Q I a b h;let{i,j,rfl,rfl,q}:=h;let{t,rfl}:=a;let{c,rfl}:=b),(by intro X hP hw hK d i z8 s σ H E I Y st hg;subst hP hw hK;let{f,j,{u,v,p},m,n}:=st),(by intro X O Y hK b i z8 s σ H E I B st U;subst O Y hK;obtain⟨⟨old,g⟩,j⟩:=st),(by cases(show v=_ from r)),(by obtain⟨⟨m,β1⟩,hy,a⟩:=zH a;let{y,S,a}:=zH a;cases jb S;let{nd,R,a}:=zH a),(by dsimp only;rw[Ó É];refine é ϝm;cases e2:B Īf;show ü (J e2);show ü (O e2)),(by cases a<;>rfl),(by split at f;split at d),(by show{ţe.1,ţe.2,?_,λn=>?_};exact(Xp _).bind _=_;rw[K7];rfl;rw[Ht è,Hu];rfl),(by split at d),(by intro X Q R S L i N s σ H E I y st B;subst Q R S;let{G,J,f2,F,C,p}:=y it è),(by intro X l x p j i A s σ H E I f st m;subst l x p;let{u,y,L,r,q,g}:=f it è),(by split at z;let{a,b,c}:=Ϲ i q z;let{A,y}:=Uw x a c;show{A,b,y};split at z),(by rw[Ò c]at h;cases h;show{_,_,rfl,rfl,c,rfl};rw[Ó c]at h;cases h;cases h),(by exact(Ϸg).bind _=_;exact Ġg=_;rw[ē b]),(by show Ö (m:=Ůe žb) ?_;unfold Ůe;show Ö ĭk;simp only[ś];show Ö ϥj),(by let{i,d,f,r,z,q}:=c;refine{by rw[<-Ų];show z,?_};let k:d ŵa=Ä:=Ùi Đ),(by cases(show k=[]from c);show{a,_,rfl,uJ âa n,rfl,g,_,rfl,m,_,rfl,rfl,?_}),(by simp only[c,ìa,ś];show ü (z c);simp only[c,éd,Ğb,Ϧ];show ü (v c)),(by rename_i lo y q g L R;let G:=Ği;have ll:ļd=lo+ñc:=by rw[<-ſ,f,ê,t]),(by let{t,p,k}:=h.h),(by intro b t;exact b<(őa _).objs.size;rw[Ĩb];simp only[Ŗa,Ăa,ώa]at t),(by by_cases hj:j=i;subst hj;rw[hi]at e1;cases e1;rw[àl J]at e2;cases e2),(by split<;>omega),(by split at z),(by split at b),(by show{çc,λb q=>?_,f};cases q;let{ob,_,_,g,i,_}:=c;show{ob,g,i.2.1}),(by rw[e]at h;let b:y=n:=by simpa using e),(by let{w,_,rfl}:=œ a;rfl),(by cases a;show{_,_,c,b,q _ _ _ Øa rfl}),(by by_cases c:d q;rw[e1 q c]at z;cases z;rw[e2 q c]at z;show čb _ _ z),(by intro j s σ H x y v u Q I d g h;let{a,b,k,rfl,rfl,e,q}:=h;cases g),(by intro c k n v u h r q;let{a,f,rfl,B,C,_}:=r;cases(show u=_ from q)),(by rw[ģl (ľb hj)]at e2;let{W,Z,q}:=hl j y v' e1 e2 e3;show{W,Z,?_}),(by let{p,a,w,e,b,l,r}:=h;let{g,d,c}:=Ϯf r;show{g,{p,a,w,e,b,l,d},c}),(by show ϭb _;show Èd c;rw[<-w];show oy B;intro E x t' k;rw[<-w,e]),(by let{E,e1,J}:=f l w;let{F,e2,G}:=f x m;show Q j E F _ _ e1 e2 J G),(by intro k s σ H x y v u Q I f j h;let{p,l,rfl,b,g,c,q}:=h;cases j),(by cases f;rename_i g h;let{a,n,rfl,B,m,_}:=A;let{b,w,rfl,C,o,_}:=t),(by split at h;rename_i e),(by rw[VG];unfold YC),(by rename_i p i;let{a,k,rfl,h,g,_}:=f;cases j;let{w,m,b}:=nE g e),(by change (match xO x&&Ůc xO with|Ã=>À ϯe|Å=>Ä)=À k at b),(by rename_i c),(by let{k,e,a}:=zH a;cases a),(by let w:ċa=Çc:=by let:=Ľb;rw[æ]at this;rw[ģ];show this),(by intro c s σ H x y v u Q I a b h),(by show{_,rfl,?_}),(by exact Ý _ _ Ϯj _ _ s;show Ö įl;show Ö ìo;rw[Ò Í]),(by by_cases c:L q),(by show this),(by unfold vp;rw[hj,hF];rfl),(by rw[ê,æ,ϲb];omega),(by rw[èa];show Ģ),(by rintro g c v ⟨b,f,e,q,r,l⟩;show{b,f,e,?_,Ïb c r,l}),(by omega;rintro⟨q,c⟩ g ⟨r,e,f⟩;cases e;show ü Áp),(by let{v,r,rfl,a,b}:=h),(by exact(match Ť X&&ĕn with|Ã=>_|Å=>_)=_;rw[h1,h2];rfl),(by show .inl w;by_cases c:d q;show .inr ēe;show .inr Çf),(by rw[show(Àa).N.length=ù+ϯa from Eh X own]at q;show q),(by let{p,i,w,rfl,c,l,r}:=h;let{m,g,j,e,a,b,d}:=h';rw[Ćp]),(by let{a,z}:=u.pZ b i q;show{a,by rw[z_ (pJ z d)];show z}),(by show Ö (m:=Ďc žb 2) Đk;show Ö (m:=Ďc žb 3) Ģk),(by let{x,g,i,j,d}:=e;let{c,rfl,d}:=d;cases j;show ϩc ?_),(by let{ti,pi,O}:=ϡb;let{L,Q,S}:=hg.h;let{tb,pb,T}:=R.h),(by let q:=(Đd).UE;rw[Êh]at q;rw[<-q,<-l];show h _ ϔb),(by cases(show _=[]from r)),(by cases(show _=[]from h)),(by cases f;let k:(g++h).length<=ã:=by rw[Ś,ê];show c),(by show{{o,e,d.1},λa e2=>?_};cases e2;show{o,e,d.2.1}),(by rw[ļp];simp only[Ù,g,d,Xm,f,qc,YF,ge,Yb,b,kz,ģc]),(by let{a,m,rfl,f,d,_}:=r1;let{j,o,e,b,c,_}:=r2;cases e),(by let c:(Ōb Čb:Á zY).length=Ű:=by rw[æ,e.len,Ų]),(by let I:i<σ.length:=by rw[ćp]),(by exact Ý _ _ Žo _ _ s;rw[Ó (show ¬ Ŷo from Ŗ)]),(by by_cases c:k'=k;rw[Ò c,Ò c]),(by let{t,h,q}:=c b A ą s H vs Q E l d;show{t,h.qP,q}),(by by_cases z:n=0;let a:decide İf=Ã:=õ É;rw[Ò z]),(by intro X y J B N i O s σ H E I m st A;subst y J B),(by intro X A J C N i O s σ H E I n st B;subst A J C),(by cases a;show q _ _ _ ĺb rfl),(by exact(match jx 1 (w:Æ)with|Ã=>À Že|Å=>Ä)=_),(by exact À ŝh=_;rw[show Ŏe=decide (i=j)from rfl]),(by unfold Yf at b;rw[Ϲb,<-Ľb]at b;rw[Įa];show b),(by show .inr z),(by exact öd όh _=_;rw[W];rfl),(by cases n<;>cases h),(by cases b;cases b),(by show q _ _ _ Øa rfl),(by rw[Ò c]at b;cases b),(by let{_,_,_,_,o,_,_,e,d,_}:=Ė p _ b;show{o,e,d}),(by let B:(ċo).length<=ã:=by let:=KQ f k v;omega),(by intro j s σ H Q I h),(by intro i s σ H Q I h),(by intro f s σ H Q I h),(by intro d s σ H Q I h),(by rintro x _ I ⟨l,o,rfl,p,t,u,v⟩;dsimp only),(by let{o,k,m,j,w}:=b;show f d n σ k o q Q m j w),(by let:Ϥc x=À .free:=a;rw[k]at this;cases this),(by let:b=ß:=by simpa using z),(by exact(Đe).bind _=_;rw[e1]),(by let e:x[b+i]?=À x[b+i]:=getElem?_pos _ _ É),(by intro e s σ H x y v u Q I d a h;let{c,q}:=h),(by simp only[Ù,b,n,a,i];rfl),(by rw[ê,ĸ];rfl),(by let{t,rfl}:=d),(by exact(žc).bind _=_),(by constructor),(by rw[Ăp];rename_i b c e;show{b,c,e};cases a),(by apply ĭc;intro j;by_cases hj:j=i;subst hj),(by show{C,f,fd,n,ýc X G n,{j,g,i,e},b,ok F}),(by rw[vL É]at this;rw[ņp]),(by obtain⟨⟨u,β2⟩,r,c⟩:=zH c;cases c),(by let{d,c,a}:=zH a;cases a),(by let{d,b,a}:=zH a;cases a),(by let{a,B,rfl,l,j,E}:=r1;rw[üp];show ϕg _),(by let{G,ru,pu}:=I.UI hx;let{L,r,Z}:=I.UI hy),(by let e:ĸf i=[]:=ϱb ϻe;rw[e]at a;cases a),(by split at f),(by rw[ŀp];show{_,rfl,λq=>{x,y,k,c,b,e,q}}),(by simp only[Ò c]),(by show .inl z;show .inr ŗn;show .inr Řa),(by rw[Ăp];rw[Ŀp]),(by intro x h;show Þ h őd),(by show{x,y,(Ēe).trans w};by_cases c:d q),(by rw[êb hlt]at a;rw[ė hlt]at u;cases u),(by let{tk,pk,kk}:=hk.h;let{tv,pv,kv}:=Ŗb),(by let{J,N,Z,x,G,u}:=t it è;rw[<-n]at st),(by split at h),(by show Ċa _),(by show Ö ?_;simp only[êh,Ġm,ýh,Ũm]),(by show Òa _),(by rw[Ś,ê];show c;rw[Ó c]at a;cases a),(by rintro _ ⟨l,_,_,z⟩),(by let:=ŏ;omega),(by dsimp only;rw[Ò c];show ü q;rw[ęp]),(by cases a;show{_,λ_=>rfl,λq=>{_,r,q}}),(by cases a;show q [] _ _ ϕb ïi rfl rfl),(by by_cases z:b=a;subst z),(by rw[Ě,show n+(ÿ+1)=n+1+ÿ by omega]),(by rw[e1 q c]at z;show z;rw[e2 q c]at z),(by rintro _ _ ⟨rfl,y,q,g,rfl,d,a,B⟩),(by rintro _ _ ⟨rfl,l,o,rfl,p,t,u,v⟩),(by let:x≠n:=by rintro rfl;show h v Ł),(by by_cases m:(t,i)∈Z;rw[Ò m,Ò ĺi]),(by split at e;rename_i b),(by rw[ŀp];show{_,rfl,λq=>fV c b e q}),(by let j:d<ţa:=Ĵd.1;rw[fJ];unfold Lo),(by cases w;simp only[ś]),(by by_cases e:p.1=k;let a:q.1=k:=ąn e),(by show .inl {(ϐ).mpr Řa,w};rw[Ũp]),(by rw[Č]at c),0,(by rw[eL]at F;let{f3,f4}:=U n u ÿm o),(by rw[MW];unfold Uu),(by let{_,_,f,_}:=d;show ϲm b;cases a),(by rw[Ϟp];rw[Ŀp];show{c,h};cases h),(by rw[Ó c]at b;cases b),(by rw[Ò c]at a;cases a),(by rw[t.ne b hb];show h),(by let{z,e,c}:=zH c;let{k,o,c}:=zH c),(by let{p,q}:=ϰi (P:=P)),(by let:c=b:=by simpa using Ÿ Ēn d1),(by let g:wW u_ t4 ūb=À ϰb:=by rfl),(by let e:=Ų;simp only[ſ]at e;omega),(by let a:wW u_ t4 ūb=À ϰb:=by rfl),(by intro b s σ H D I h),(by unfold wQ wB),(by rw[show n+1+i+1=n+ñ+1 by omega]),(by obtain⟨⟨k,m'⟩,h,c⟩:=zH c),(by let h:p_ ŉf 0 Įc=.p 0 Įc:=rfl),(by split;rw[æ];omega;rw[ê];rw[ϡp]),(by by_cases h:p.1=a;rw[Ò ói,Ò h]),(by subst d;let{z,f,r,c,i}:=ZP Ė e),(by simp only[Ù,e1,e2]),(by simp at h1 h2;subst h1;subst h2),(by show{rfl,rfl}),(by show .inr {_,âa _ _ e,λo=>?_}),(by show .inl z;rintro(z|z);rw[Ũp]),(by show .inl w),(by rw[ĭp];rw[Ăp]),0,(by rw[Ăp];show f É;show a;show b),(by rw[ê,Ģ];rfl),(by rintro(⟨z,w⟩|z)),(by obtain⟨⟨o,d⟩,c,a⟩:=zH a),(by let{x,f,l}:=j.h;let{t,r,p}:=n.h),(by let{t,e,g}:=f.h;let{r,n,m}:=j.h),(by let{Q,ru,pu,_}:=Ϙ A;let F:=ńo),(by let{B,y,d,r,q}:=b;show{d.xY,?_}),(by let e1:zr ća ća=À ň:=by rfl),(by exact(Ĵe).bind _=_),(by cases h<;>rfl)],[(zA ἀ zG),(.lst ἀ),(zB ἀ zM),(.int ἀ),(zc (yO ἀ)),(zZ xX xW ἀ zJ),(wN (zA ἀ ἁ)),(zc (jF ἀ)),(λC s H c b=>ἀ),(zA û (Α ἀ)),(λC s H d c=>ἀ),(À ἀ::zt),(yR 2 ἀ),(zX uc (Κ ἀ)),(.nx (Μ ἀ)),0,(zA ἀ zG),0,0,(Α (eC ἀ)),(e1 ἀ û),(qr (tE ἀ)),(ἀ%65536),(w8 (zA ἀ ἁ)),(zA ĩ ἀ),0,0,0,0,0,0,0,0,0,(zA û ἀ),0,(zT H p ἀ),(zA Ď ἀ),(λr st=>∃g,st=yU a0 p0 f0 g/\g6 ἀ ἁ r),(PyProof.Rows.wpS_modify ἀ),(zd (xm ἀ ἁ wx) (Ε ἂ)),0,0,(wg ἀ ĝc),(zB ý ἀ),(zA ĝ ἀ),(yQ Ěg xi ἀ ἁ ĵ),0,0,(kU 0 [.at [ō] ū] ϩb ἀ),0,0,(zB ý (Γ ἀ)),0,(pH îp (xc (qg ἀ)) pI),(pH (jB ἀ) (xc ἁ) pI),(xc (YY ũj ėa ἀ)),(xf ἀ λc=>?_),((ἀ).mpr źd),(Zm (tE ἀ)),(zB į ἀ),(Vk ἀ rfl),((ἀ).trans ϓc),((u q).mpr (.inr ἀ)),(zc (Zj (zV b) (qv 2) êa (Vj ἀ ἁ))),(vi (λC s H c b=>(Οa ἀ)) rfl),(pM λi j=>.int ἀ),(β.set i ἀ),(ę (Ö ἀ)),(xm ἀ Vn wx),(WA (tV ἀ)),(yu (i:=1) (show (ἀ).Nodup by decide +kernel) rfl à),0,(pR kK kY rfl vw gO (pP ἀ pQ)),0,0,(PyProof.Rows.wpS_lift (PySem.wpAny_rule {rfl,é ἀ})),(k_ rfl uE (Γ ἀ)),(.Call ἀ [] [] cpos),(Ö (PySem.wpAny_onRaise ἀ)),(qd (Ζa ἀ)),(.bl (decide ἀ)),0,0,0,0,0,0,0,0,0,(Η (eC ἀ) (zA Ħ ἁ)),0,(Ε (wg (zB ἀ ἁ) ĝc)),(λC s H c b=>ἀ),(vi (Λ ἀ) rfl),(.nx (σ.set i ἀ)),(zd (xm ἀ ἁ wx) (zd ἂ ἃ)),0,0,(qH 2 Ħ (uR ἀ ἁ)),((ἀ).map ĉ),(qX (gR ἀ)),(jp (YV ἀ)),0,0,(œd ἀ ?_),0,0,(zB ŗ ἀ),0,(Vo (Q2 ἀ ἁ)),(j9 (β1:=[À (.fz ἀ),x1,x2,x3,x4,À (.fz ἁ),À (.fz ἂ),À (.fz ἃ),À (.fz ἄ),À (.tp Ã [.own ἅ,.own ἆ,.own ἇ]),À M0,À M0,Ä,Ä,Ä,Ä,Ä,Ä]) ?_),(tM λi j=>decide ἀ),(zj uS b rfl (zB ý (Γ ἀ))),(backTo pos ἀ),(VT 0 [.at [ō] Âb] (eC ἀ) (xq ἁ)),(rI ἀ λi j=>.int ἁ),((TK (Ζa ἀ)).trans (Ζa (g ἁ))),(λq z=>z_ λc=>z ((ἀ).mpr c)),(λc=>ü {g,rfl,gs.fin ἀ}),(pM λi j=>.bl (decide ἀ)),(zd (Zk Ϩa rfl ἀ ἁ ἂ) (zc ἃ)),(À (Ã,.lst ἀ)),(tE (e2 zr û ἀ)),(e2 xQ Ħ (eC ἀ)),(λC s H fp pn=>M3 ἀ),(e2 yk (eC ἀ) (z6 2)),(λC s H fp pn=>(ἀ).h),0,(e2 zr ěb (eC ἀ)),0,0,(Q7 ἀ ἁ {l} ?_ ?_ ?_),(w8 (λ_=>À ἀ)),(Ie Ńb ñp ya ἀ),(λC s H d b=>ἀ),(yx (wR ἀ ïp)),(Bf ἀ rfl rfl),0,0,0,0,0,0,0,0,0,(Ľj _ _ ἀ),0,(Z0 rfl uK ἀ),((ἀ).length<yN),(Ι (Yn ἀ)),(xc (gc ἀ)),(wG (yx ἀ)),0,0,(xc (qg ἀ)),(yu (i:=5) (show (ἀ).Nodup by decide +kernel) rfl à),(yu (i:=2) (show (ἀ).Nodup by decide +kernel) rfl à),(ἀ*134217728+m*16777216),0,0,(wg (zB ŗ (zB ťd ἀ)) (yS (zW ėc) Í)),0,0,(Rl rfl rfl WJ M4 (zB (yx ἀ) zM)),0,(.Call ἀ [e] [] pos),(Ĳb v (À ἀ) Õc Ø=pure Å),(OJ (i:=8) Zi.nd rfl à (yx ἀ)),(if ἀ=Ã then _ else _),(gc (gb VL b rfl (pG ϔ ἀ))),(λc=>ü {g,rfl,gl.fin ἀ}),(tE (e2 zr (e1 ἀ ĩ) û)),(Ku G H ἀ y u v d Q s e f ðp q),(λc=>ü (h _ _ ἀ)),(zX ub (Κ (e1 ἀ ŧd))),(yQ (jv ἀ) ju (zO ἁ) (zO ἂ) ĵ),(pF (p8 Wn (qB 0 [] ἀ))),(e2 zP (Ψ ἀ ἁ) (e2 xQ ἂ ϸa)),(λC s H fp pn=>L_ ἀ),(zj YM b rfl (υ ἀ)),((ſk).trans ((ἀ).trans ἁ)),(λC s H c a=>ἀ),(yL (e2 ἀ Ď ĩ)),0,(pP (zO (yx ἀ)) pQ),0,0,(.nx (À ἀ::zt)),(yL (wN (Ω ἀ))),(Ι (θe Ϭf ἀ)),(rU λi=>.int ἀ),(zj ZW b rfl ἀ),(zj VM b rfl ἀ),0,0,0,0,0,0,0,0,0,(eL Xc (Α ἀ)),0,(eL VC (Α ἀ)),(WC (tE ἀ) (tE ἁ)),(Ef ἀ rfl rfl),(ἀ%4294967296),(ε (Β ἀ)),0,0,(ťe (é ἀ)),(jq 1 (Xu ἀ)),(e2 xQ ἀ ėf),(w_lt rfl ἀ ἁ ?_),0,0,(e2 xQ ἀ ŀc),0,0,(j9 (β1:=[À űa,À (.fz ἀ),À (.fz ἁ),À (.fz NM),À (.fz ἂ),À (.fz Ŏa),À (.fz ἃ),À (.fz ἄ),À (.fz ἅ),Ä,Ä,Ä,Ä,Ä,Ä,Ä,Ä,Ä]) ?_),0,(λq z w=>by rcases z with⟨z,_⟩|z;show z;show j q ἀ),(.BoolOp .And ἀ pos),(.BoolOp .Or ἀ pos),(λxs H Q=>(∃p ys,xs=[.ref p]/\ἀ/\Q ἁ H)\/∃z,xs=[.str z]/\Ř<=ã/\Q (.int Ř) H),(tT Ěg xi (zO (zj qb b rfl ἀ)) (zO zJ) ĵ),(BS I É ἀ j e h λd1 d2 x y u v f g i d k=>MJ I n A.in1 d1 d2 x y u v ἁ f g i d k),(Xs (ks:=[]) (π:=Öa) kf_WordMachine (.tail _ Że) b rfl (jq 1 ἀ)),(tT (Va (zV b)) VY ĉa (zO (yx ἀ)) (by with_unfolding_all rfl)),(λx y H Q=>y=.zC/\Q ἀ H),(.nx [À (.own ἀ),À (.fz Ža),À Ϗd,À (.fz ἁ),À (.fz ἂ)]),(λx y H Q=>∃i j,x=.str i/\y=.str j/\Q (.bl ἀ) H),(yu (i:=6) (show (ἀ).Nodup by decide +kernel) rfl à),(yu (i:=4) (show (ἀ).Nodup by decide +kernel) rfl à),(yu (i:=3) (show (ἀ).Nodup by decide +kernel) rfl à),(ue (tE (e2 zr Ď ĝ)) ïa (e2 zr (zX vG ἀ) Ő)),((ἀ).filter λd=>!xP d),(.Call ἀ [a] [] pos),(yb (i:=2) Tl.nd rfl à (zj Xl b rfl ἀ)),0,(.done (À ἀ,i,m,Ź q++(ἁ).reverse,g,k,j-1-m)),0,0,(λd=>match d with|.int j=>.int ἀ|d=>d),(zi ŧ zh (yx (wR ἀ ėb)) (Ζ ōg)),(Ri Eo Kx rfl Yq M6 ἀ),(Γ (zZ xT xS į (zj II b rfl ἀ))),(Αa (λc=>ü {_,rfl,W9.fin ἀ})),(Αa (λc=>ü {_,rfl,W7.fin ἀ})),0,0,0,0,0,0,0,0,0,(.done (À ἀ,i,j-1,Ź q,g,k,u)),0,(zj qb b rfl (zB ŗ (zB zJ ἀ))),(.done (À ἀ,o++īb i ἁ,i+k,j,g,k,u)),(Q w H->rU (λi=>.int ἀ) u H Q),(uH rfl òp (t9 Ϯg) (vi ἀ rfl) (λC s H c a=>tW) (Ξc ἁ)),(pF (ιe (xq ύ) (yf ἀ Řj))),0,0,(λxs H Q=>∃p ys,xs=Ŗc/\ἀ),(qm (ο Ìb ņb) vd (Βd ἀ)),(ϟa β i π (.obj x Êe ἀ)),(Ĭ .inl λw=>.inr (Βa ἀ)),0,0,(if (ἀ).length<yN then À ἁ else Ä),0,0,(Ε (zj Mb b rfl (Δa ἀ))),0,(Γ (zj IK b rfl (Δa ἀ))),(Α (e2 yk Ď (zX XN ἀ))),(λc=>ü {_,rfl,gl.fin ἀ}),(λc=>ü (B λp j q f=>Ϡa ἀ ἁ)),(by rw[Ţ,<-Ţ ἀ,ĭa,ex]),(Fl.nx (τ.set i (Κb ἀ))),(μe (YX (wG Æa) (YX ἀ ôp))),(Η (e2 zP ἀ Ϣg) (zA Ħ ἁ)),(S0 Ķe (uH rfl Ùk ἀ ĳj ἁ Řm)),(λq z=>.inl ((ἀ).mpr z)),(ϟa r.2 i π (.own ἀ)),(yL (e2 tN û (eC ἀ))),(ms.map À++š ἀ Ä),(.ref x::ϟ π .zC ἀ),(Ε (Φd (zB ἀ zM))),(Ε (zj qb b rfl ἀ)),(Α (zX Uf (ζ ἀ))),(zX uc (γ (Ρ ἀ))),0,(updateSeq S ἀ >>= _),0,0,(tT ėh xi ἀ Űb ĵ),(Ĩe óp++š ἀ Ä),(é (uD e (é ἀ))),(zd (xm ěk ἀ wx) (ι ěk ἁ ἂ)),(.Call ἀ [e] [] Ž),(zy ἀ λr s4 a=>?_),0,0,0,0,0,0,0,0,0,(zB ėa (zB ěc ἀ)),0,(zA ěb (zA Ťe ἀ)),(j8 0 [] ĳ Ċc ἀ),(by let:=ἀ.2;omega),(Yn (yQ (xj ἀ) xi (zO ἁ) ĉa (yG _))),(ZO Wj [.var 0,.no,.no,.var 2,.var 3] (yf (xt 0) (yf ἀ ἁ))),0,0,(gc (iS (pl:=_) Ob a rfl (TZ 0 ἀ)))],[(by first|(with_reducible first|exact Nat.le_of_not_lt ‹_›|exact Nat.lt_of_lt_of_le ‹_› (Nat.min_le_right _ _)|exact Nat.lt_of_lt_of_le ‹_› (Nat.min_le_left _ _)|exact Nat.le_trans (Nat.sub_le _ _) ‹_›|exact Nat.add_sub_cancel' ‹_›|exact (Int.toNat_lt ‹_›).mpr ‹_›|exact Nat.lt_of_sub_pos ‹_›|exact Nat.le_of_sub_eq_zero ‹_›)|((with_reducible refine Int.emod_nonneg _ ?_)<;>decide)|((with_reducible refine Int.emod_lt_of_pos _ ?_)<;>decide)|((with_reducible refine Int.lt_of_lt_of_le (Int.emod_lt_of_pos _ ?_) ?_)<;>decide)|lia|omega+splitNatSub),(by first|subst ἀ|(injection ἀ;done)|cases ((ἀ))),(by first|(have q:=ἀ;first|subst q|(injection q;done))|cases ((ἀ))),(by first|subst ἀ|(injection ἀ;done)|cases ((ἀ)))])
def q0 (h_0:0=0:=by first|show .inl rfl|show .inr rfl|assumption)(h_1:0=0:=by decide)(h_2:0=0:=by intro _;rfl)(h_3:0=0:=by rfl)(h_4:0=0:=by first|show Or.inl rfl|show Or.inr à|show Or.inr ϻa)(h_5:0=0:=by first|show Śa|show⟨rfl,Śa⟩|show⟨rfl,rfl,Śa⟩|show⟨rfl,rfl,rfl,Śa⟩|show⟨rfl,rfl,rfl,rfl,Śa⟩)(h_6:0=0:=by intros;show λ_ _ _ _ _ _=>rfl):Ėb:=⟨⟩
def q7:=q0._auto_1
def q10:=q0._auto_2
def q11:=q0._auto_3
def q12:=q0._auto_4
def q13:=q0._auto_5
def q14:=q0._auto_6
def q15:=q0._auto_7
noncomputable section
namespace L2
open ķ ņ ĺ
abbrev zY:=Sum Æ Ç
nonrec def Xo:zY->Value->Ñ
 |.inl k,v=>Ųn k v|.inr x,v=>Ϸm x v
nonrec def z8g(w:å):zY->Æ
 |.inl k=>hashInt k|.inr x=>hashStr w x
def ZY:∀{k:zY}{v:Value},Xo k v=Ã->(∃i t,k=Ϩ i/\v=æc i t)\/(∃x t,k=Čb x/\v=åc x t)
 |.inl i,v,h=>by let{t,e}:=ϴl (k:=i) (v:=v) h;show .inl {i,t,rfl,e}
 |.inr x,v,h=>by let{t,e}:=Value.isStrOf_shape (x:=x) (v:=v) h;show .inr {x,t,rfl,e}
def z8h(i:Æ)(t:Tok):Xo ϝi Ŋf=Ã:=by simp[Xo,Ųn]
theorem z8i(x:Ç)(t:Tok):Xo Ϫf Ĩo=Ã:=by simp[Xo,Ϸm]
theorem z8j(a b:Æ):decide ((Ϩ a:zY)=Ϩ b)=(a==b):=by
 by_cases e:a=b;subst e;simp;let h:¬ (Ϩ a:zY)=Ϩ b:=λq=>e (Įb q)
 rw[ē h];show(ϯb e).symm
def z8m(a b:Ç):decide ((Čb a:zY)=Čb b)=decide (a=b):=by
 by_cases e:a=b;subst e;simp;let h:¬ (Čb a:zY)=Čb b:=λq=>e (Ŵn q)
 rw[ē h,ē e]
theorem z8k(a:Æ)(b:Ç):decide ((Ϩ a:zY)=Čb b)=Å:=ē ým
def z8l(a:Ç)(b:Æ):decide ((Čb a:zY)=Ϩ b)=Å:=ē ým
def xG(Ĝ:ë)(w:å):PySem.KeyKind Ĝ w zY where
 is:=Xo
 hash:=z8g w
 inj:=λv a b g d=>by
  rcases ZY g with⟨i,t,rfl,rfl⟩|⟨x,t,rfl,rfl⟩;rcases ZY d with⟨j,u,rfl,e⟩|⟨y,u,rfl,e⟩;injection e with e1 _;rw[e1];show nomatch e
  rcases ZY d with⟨j,u,rfl,e⟩|⟨y,u,rfl,e⟩;show nomatch e
  injection e with e1 _;rw[e1]
 byValue:=λk v h=>by rcases ZY h with⟨i,t,rfl,rfl⟩|⟨x,t,rfl,rfl⟩<;>rfl
 pyHash:=λc h=>by rcases ZY c with⟨i,t,rfl,rfl⟩|⟨x,t,rfl,rfl⟩;show wpAny_pyHash_int h;show wpAny_pyHash_str h
 eqBool:=λf c h=>by rcases ZY f with⟨i,t,rfl,rfl⟩|⟨x,t,rfl,rfl⟩;rcases ZY c with⟨j,u,rfl,rfl⟩|⟨y,u,rfl,rfl⟩;rw[z8j]at h;show wpAny_eqBool_int h;rw[z8k]at h;show Ÿl i t y u _ _ _ _ h;rcases ZY c with⟨j,u,rfl,rfl⟩|⟨y,u,rfl,rfl⟩;rw[z8l]at h;show Ŷl x t j u _ _ _ _ h;rw[z8m]at h;show wpAny_eqBool_str h
 «strs»:=λk x t v h=>by
  rcases ZY h with⟨i,u,rfl,e⟩|⟨y,u,rfl,e⟩;show nomatch e
  injection e with e1 _
  subst e1;cases v<;>rfl
def y07(Ĝ:ë)(w:å)(i:Æ)(t:Tok):(ŝa).is ϝi Ŋf=Ã:=z8h i t
def Kc(Ĝ:ë)(w:å)(x:Ç)(t:Tok):(ŝa).is Ϫf Ĩo=Ã:=z8i x t
set_option genInjectivity true
inductive V where
 |zC|bl (b:Ñ)|int (i:Æ)|str (x:Ç)|byt (b:Ü UInt8)|Wb (b:UInt64)|ref (a:Ì)|ty (n:ϗ)
 deriving ũb
set_option genInjectivity false
def yB:V->Value->È
 |.zC,u=>u=Ýd|.bl b,u=>u=Ĺf b|.int i,u=>∃t,u=æc i t|.str x,u=>∃t,u=åc x t|.byt b,u=>∃t,u=ųn b t|.Wb b,u=>∃t,u=ϫh b t|.ref a,u=>u=ċ a|.ty n,u=>u=ßi n
abbrev zo:Á V->Á Value->È:=Ÿc yB
theorem zo.length{xs:Á V}{us:Á Value}(r:zo xs us):ä=Ű:=ŉh r
theorem zo.get:∀{xs:Á V}{us:Á Value}{i:Â}{x:V},zo xs us->xs[i]?=À x->∃u,us[i]?=À u/\yB x u
 |_,_,_,_,.nil,e=>by simp at e|_,_,0,_,.cons r _,e=>by simp at e;subst e;show{_,rfl,r}|_,_,i+1,x,.cons _ t,e=>by let{u,b,a}:=zo.get (i:=i) (x:=x) t ųa;show{u,by simpa using b,a}
theorem zo.set{x:V}{u:Value}(r:yB x u):∀{xs:Á V}{us:Á Value}(i:Â),zo xs us->zo Đf (us.set i u)
 |_,_,_,.nil=>.nil|_,_,0,.cons _ t=>.cons r t|_,_,i+1,.cons q t=>.cons q (zo.set r i t)
theorem œf:∀{xs ys:Á V}{us ws:Á Value},zo xs us->zo ys ws->zo ϖf (us++ws)
 |_,_,_,_,.nil,s=>s|_,_,_,_,.cons r t,s=>.cons r (œf t s)
theorem zo.take:∀{xs:Á V}{us:Á Value}(n:Â),zo xs us->zo (xs.take n) (us.take n)
 |_,_,0,_=>.nil|_,_,_+1,.nil=>.nil|_,_,n+1,.cons r t=>.cons r (zo.take n t)
theorem zo.drop:∀{xs:Á V}{us:Á Value}(n:Â),zo xs us->zo (xs.drop n) (us.drop n)
 |_,_,0,r=>r|_,_,_+1,.nil=>.nil|_,_,n+1,.cons _ t=>zo.drop n t
def zo.none_of:∀{xs:Á V}{us:Á Value}{i:Â},zo xs us->xs[i]?=Ä->us[i]?=Ä:=λ{xs us i} r e=>by let a:=Ų;let b:ä<=i:=řk e;show List.getElem?_eq_none_iff.mpr É
def ur:Ê V->Ê Value->È
 |À v,À u=>yB v u|Ä,Ä=>Ėb|_,_=>î
def KV{κ:Type}:Á ϕa->Á üd->È:=Ÿc λ(p:κ×V) (q:κ×Value)=>p.1=q.1/\yB p.2 q.2
nonrec def kV:zY->V
 |.inl i=>.int i|.inr x=>.str x
inductive HO where
  |lst (xs:Á V)
  |tup (xs:Á V)
  |dK (kvs:Á ϖ)|dT (kvs:Á ĳb)
  |set (S:Æ->Ñ) (n:Â)
  |ins (C dx:Ì) (fs:Á ŀb)
  |own (x:Ì)
  |xd (fs:Á ŀb)
  |met (f x:Ì)
  |rng (lo hi:Æ)
  |yI (o:Obj) (u:HO)
  |tbl (ps:Ü Value)
  |ext (φ:Heap->È)
abbrev Hp:=Ì->Ê HO
nonrec def zT(H:Hp)(a:Ì)(o:HO):Hp:=λb=>if b=a then À o else H b
def yX{H:Hp}{a:Ì}{o:HO}:zT H a o a=À o:=by unfold zT;rw[Ò rfl]
theorem z_{H:Hp}{a b:Ì}{o:HO}(h:b≠a):zT H a o b=H b:=by unfold zT;rw[Ó h]
theorem y0n{H:Hp}{a b:Ì}{o u:HO}(h:H a=À o)(h':H b=À u)(d:o≠u):a≠b:=by intro e;subst e;rw[h]at h';show d (úa h')
def pJ{H:Hp}{a b:Ì}{o:HO}(h:H a=À o)(h':H b=Ä):a≠b:=by intro e;subst e;rw[h]at h';cases h'
section
variable(P:ë)(w:å)
def xV(H:Hp)(h:Heap)(a:Ì):HO->È
 |.lst xs=>ä<=ã/\∃(its:Á Value) (n:Â),zo xs its/\ĭ a=À { cls:=.type Ġ,Ċ:=.seq Ãa n }|.tup xs=>ä<=ã/\∃its:Á Value,zo xs its/\âb h a Ãa|.dK kvs=>ń<=ã/\éa=Å/\∃vs,KV kvs vs/\ėd ķa a vs|.dT kvs=>ń<=ã/\éa=Å/\∃xs:Á Ħc,
   Ÿc (λ(p:Á zY×V) (q:Á zY×Ì×Value)=>p.1=q.1/\H q.2.1=À ũl/\yB p.2 q.2.2) kvs xs/\
   ∃o es ep,ĭ a=À o/\ũn/\ŀa=.dict es ep/\es.toList=Ōb (entryOfKey ϟd)/\(Ōb (·.1)).Nodup
 |.set S n=>h.SetOf (intKind P w) a S n|.ins C dx fs=>H dx=À Ėe/\ša<=1000/\dx≠a/\ĭ a=À ëo/\
   ∃mA,Ċg dx mA/\(∀f,ur Çj ģj)/\Żh mA (ţc (·.1))
 |.own _=>∃o,ĭ a=À o|.xd fs=>∃mA,Ċg a mA/\∀f,ur Çj ģj|.rng lo hi=>∃t u v,ĭ a=À { cls:=.type ńb,Ċ:=.fields #[.int lo t,.int hi u,.int 1 v] }|.yI o u=>ĭ a=À o/\xV H h a u|.tbl ps=>ĭ a=À { cls:=.none,Ċ:=.fields ps }|.met f x=>ĭ a=À (W.methodObj Ĵ ŗc)|.ext φ=>φ h/\(∃o,ĭ a=À o)/\∀h1 h2:Heap,φ h1->(∀o,Ϯi a=À o->h2.get? a=À o)->φ h2
def wK(H:Hp)(h:Heap):È:=∀a o,H a=À o->xV P w H h a o
#print a
section
variable{P:ë}{w:å}{H H':Hp}{h h':Heap}{a:Ì}{o:HO}
theorem xV.lt(x:xV P w H h a o):a<Àb:=by
 cases o with
 |lst xs=>let{_,_,_,_,e}:=x;show ħ e
 |tup xs=>let{_,_,_,p}:=x;show p.lt
 |dK kvs=>let{_,_,_,_,o,_,_,e,_}:=x;show ħ e
 |dT kvs=>let{_,_,_,_,o,_,_,e,_}:=x;show ħ e
 |set S n=>let{o,_,_,_,e,_}:=x;show ħ e
 |ins C dx fs=>let{_,_,_,e,_}:=x;show ħ e
 |own y=>let{_,e}:=x;show ħ e
 |xd fs=>let{_,{_,_,_,e,_},_}:=x;show ħ e
 |rng lo hi=>let{_,_,_,e}:=x;show ħ e
 |yI ob u=>let{e,_}:=x;show ħ e
 |tbl ps=>show ħ (show ĭ a=À _ from x)|met f y=>show ħ (show ĭ a=À _ from x)|ext φ=>let{_,{_,e},_}:=x;show ħ e
theorem Ŝf{α β:Type}{F G:α->β->È}:∀{l₁:Á α}{l₂:Á β},Ÿc F l₁ l₂->(∀a b,F a b->G a b)->Ÿc G l₁ l₂
 |_,_,.nil,_=>.nil|_,_,.cons r t,f=>.cons (f _ _ r) (Ŝf t f)
def xV.X5(x:xV P w H h a o)(k:∀b u,(b=a\/H b=À Ėe)->ĭ b=À u->ġ b=À u)(F:∀b,H b=À Ėe->H' b=À Ėe)(A:∀b xs,H b=À Ĺa->H' b=À Ĺa):xV P w H' h' a o:=by
 induction o with
 |lst xs=>let{z,l,n,r,e}:=x;show{z,l,n,r,k _ _ ł e}
 |tup xs=>let{z,l,r,g,e,c}:=x;show{z,l,r,g,k _ _ ł e,c}
 |dK kvs=>let{z,y,B,r,g,i,j,e,c}:=x;show{z,y,B,r,g,i,j,k _ _ ł e,c}
 |dT kvs=>let{z,y,xs,r,g,i,j,e,c}:=x;show{z,y,xs,Ŝf r λp q z=>{z.1,A _ _ z.2.1,z.2.2},g,i,j,k _ _ ł e,c}
 |set S n=>let{g,i,j,t,e,c}:=x;show{g,i,j,t,k _ _ ł e,c}
 |ins C dx fs=>let{d,z,E,e,m,{s,i,j,e2,c},r}:=x;show{F _ d,z,E,k _ _ ł e,m,{s,i,j,k _ _ (.inr d) e2,c},r}
 |own y=>let{g,e}:=x;show{g,k _ _ ł e}
 |xd fs=>let{m,{s,i,j,e,c},r}:=x;show{m,{s,i,j,k _ _ ł e,c},r}
 |rng lo hi=>let{t,u,v,e}:=x;show{t,u,v,k _ _ ł e}
 |yI g u ih=>let{e,q}:=x;show{k _ _ ł e,ih q}
 |tbl ps=>have e:ĭ a=À { cls:=.none,Ċ:=.fields ps }:=x;exact ġ a=À { cls:=.none,Ċ:=.fields ps };show k a _ ł e|met f y=>have e:ĭ a=À ϒk:=x;exact ġ a=À ϒk;show k a _ ł e|ext φ=>let{p,{o,e},st}:=x;show{st _ _ p λo q=>k _ _ ł q,{o,k _ _ ł e},st}
theorem wK.lt(x:wK P w H h)(e:H a=À o):a<Àb:=(ϱo).lt
def wK.fresh(x:wK P w H h)(e:Àb<=a):H a=Ä:=by
 cases q:H a with
 |Ä=>rfl|À u=>show Þ (Ũ (x.lt q) e) Êa
def wK.kept(x:wK P w H h)(k:∀b u,ĭ b=À u->ġ b=À u):wK P w H h':=λa o e=>
 (ϱo).X5 (λb u _ q=>k b u q) ŀf λ_ _ q=>q
def wK.laid(x:wK P w H h)(k:∀b u,ĭ b=À u->ġ b=À u)(g:Àb<=a)(d:xV P w Óe h' a o):wK P w Óe h':=λb u e=>by let f:=x.fresh g;rw[Ďp];rw[yX]at e;cases e;show d;rw[z_ hb]at e;show(Łi).X5 (λc v _ q=>k c v q) (λc q=>by rw[z_ (pJ q f)];show q) λc i q=>by rw[z_ (pJ q f)];show q
#print a
def Rd(H:Hp)(a:Ì)(u:HO):È:=H a=À u\/∃o,H a=À òe
def Rd.ok{P:ë}{w:å}{H:Hp}{h:Heap}{a:Ì}{u:HO}(r:Rd H a u)(x:wK P w H h):xV P w H h a u:=by rcases r with r|⟨o,r⟩;show x a u r;let{_,q}:=x a _ r;show q
def JO:Ê HO->È
 |À Ϛi=>Ėb|À (.dK _)=>Ėb|À (.dT _)=>Ėb|À (.set _ _)=>Ėb|À (.ins _ _ _)=>Ėb|À (.ext _)=>Ėb|_=>î
section
variable{P:ë}{w:å}{H:Hp}{h h':Heap}{x e:Ì}{o':HO}
def wK.write(ok:wK P w H h)(g:JO (H x))(n:e=x\/H e=À Ĥd)(k:∀b u,b≠e->ĭ b=À u->ġ b=À u)(j:∃u,ġ e=À u)(l:xV P w ϩn h' x o'):wK P w ϩn h':=λb u q=>by
 let a:∀c y,H c=À (.own y)->c≠x:=λc y r z=>by subst z;rw[r]at g;show g
 let d:∀c i,H c=À (.tup i)->c≠x:=λc i r z=>by subst z;rw[r]at g;show g
 by_cases hb:b=x;subst hb;rw[yX]at q;cases q;show l;rw[z_ hb]at q;by_cases hbe:b=e;let m:H b=À Ĥd:=by rcases n with z|z;show Þ (hbe.trans z) hb;rw[hbe];show z
 rw[q]at m;cases m;let{v,o}:=j;show{v,by rw[hbe];show o};show(ok b u q).X5 (λc v f r=>k c v ?_ r) (λc r=>by rw[z_ (a c b r)];show r) λc i r=>by rw[z_ (d c i r)];show r
 rcases f with rfl|f;show hbe;rintro rfl;rcases n with z|z;show a c b f z;rw[f]at z;cases z;show hb rfl
#print a
structure Un(fs ex:Á Ì)(H H':Hp)(h h':Heap):È where
 Ėa:∀b o,ĭ b=À o->H b=Ä->b ∉ fs->b ∉ ex->ġ b=À o
 slot:∀b o,ĭ b=À o->H b=Ä->b∈fs->b ∉ ex->∃sl,ġ b=À { o with čc:=sl }
 free:∀b o,ĭ b=À o->H b=Ä->b ∉ ex->H' b=Ä
 Ąg:∀b o,ĭ b=À o->b ∉ ex->∃o',ġ b=À o'
 qR:∀b xs,H b=À Ĺa->H' b=À Ĺa
 tq:∀b o u,H b=À òe->H' b=À òe
 pZ:∀b ps,H b=À óe->∃more,H' b=À Þm
section
variable{fs ex:Á Ì}{H H1:Hp}{h h1 h':Heap}{a x e:Ì}{o:HO}
def Un.any(u:Un fs ex H H1 h h1){b:Ì}{a:Obj}(q:ĭ b=À a)(n:H b=Ä)(c:b ∉ ex):∃sl,Ϯi b=À { a with čc:=sl }:=by by_cases hb:b∈fs;show Þg b a q n hb c;show{a.slots,ĺe b a q n hb c}
def Ġe(k:∀b u,ĭ b=À u->ġ b=À u):Un fs ex H H h h':=
 {λb a q _ _ _=>k b a q,λb a q _ _ _=>{a.slots,k b a q},λ_ _ _ n _=>n,λb a q _=>{a,k b a q},λ_ _ q=>q,λ_ _ _ q=>q,λ_ c q=>{#[],by rw[q];simp}}
def Un.refl:Un fs ex H H h h:=Ġe λ_ _ q=>q
def Un.laid(k:∀b u,ĭ b=À u->ġ b=À u)(d:Àb<=a)(c:H a=Ä):Un fs ex H Óe h h' where
 Ėa:=λb u q _ _ _=>k b u q
 slot:=λb u q _ _ _=>{u.slots,k b u q}
 free:=λb u q n _=>by rw[z_ (ϣ (Ũ įe d))];show n
 Ąg:=λb u q _=>{u,k b u q}
 qR:=λb e q=>by rw[z_ ſi];show q
 tq:=λb u e q=>by rw[z_ ſi];show q
 pZ:=λb f q=>{#[],by rw[z_ ſi,q];simp}
def Un.write(a:JO (H x))(j:e=x\/H e=À Ĥd)(k:∀b u,b≠e->ĭ b=À u->ġ b=À u)(c:∃u,ġ e=À u):Un fs ex H íi h h':=by
 let f:∀b,H b=Ä->b≠x:=λb n z=>by subst z;rw[n]at a;show a
 let g:∀b,H b=Ä->b≠e:=λb n z=>by subst z;rcases j with r|r;show f b n r;rw[n]at r;cases r
 let d:∀b u,H b=À u->¬ JO (À u)->b≠x:=λb u q i z=>by subst z;rw[q]at a;show i a
 refine⟨λb u q n _ _=>k b u (g b n) q,λb u q n _ _=>{u.slots,k b u (g b n) q},λb u q n _=>by rw[z_ (f b n)];show n,λb u q _=>?_,
  λb l q=>by rw[z_ õh];show q,λb u l q=>by rw[z_ õh];show q,λb m q=>{#[],by rw[z_ õh,q];simp}⟩
 by_cases hbe:b=e;subst hbe;show c;show{u,k b u hbe q}
#print a
nonrec def D4(h:Heap)(H:Hp):Á Ì:=(Ϝo).filter λa=>(H a).isSome
def YO(h:Heap)(H:Hp):Heap:=W.hideAll h ϕi
def z7h(h:Heap)(H:Hp):(ϟf).objs.size=Àb:=W.hideAll_size _ _
def z7g{h:Heap}{H:Hp}{b:Ì}{o:Obj}(e:ĭ b=À o)(n:H b=Ä):(ϟf).get? b=À o:=
 W.hideAll_get _ e λa=>by let q:(H b).isSome=Ã:=(Âd a).2;rw[n]at q;simp at q
def y2o{h:Heap}{H:Hp}{b:Ì}{o:Obj}(e:(ϟf).get? b=À o):ĭ b=À o/\H b=Ä:=by
 let a:ĭ b=À o:=W.of_hideAll ϕi e;show{a,?_};cases q:H b with
 |Ä=>rfl|À x=>have c:b∈D4 h H:=ϫg {Àc (ħ a),by simp[q]};let z:(ϟf).get? b=Ä:=W.hideAll_none ϕi c;rw[z]at e;cases e
nonrec def z1m(g h:Heap)(L:Ì):Á ð:=(Ϝo).filterMap λa=>if a=L\/(g.get? a).isSome=Ã then Ä else(ĭ a).map λo=>(a,o)
def zt(g h:Heap)(L d:Ì):Á ð:=(z1m g h L).filter λp=>decide (p.1≠d)
structure Mod(K:Ð)(mg:Ç->Ê Value)(Ë:Heap):È where
 We:ř Ë
 glob:Ĭd Ĕ mg
 blt:∃mb,Ĭd Ûi mb/\∀x:Ç,x ≠ Ði->mb x=Ŷ x
 nolimit:base.NoLimit
structure Cx where
 Ĝ:ë
 w:å
 K:Ð
 mg:Ç->Ê Value
 Ë:Heap
 A:þ
 N:Á Ç
 s₀:Ï
 H₀:Hp
 env:Env
 ą:Á Env
 stack:Á Env
 ex:Á Ì
 fn:Ç->Ñ
 calm:Ñ
 pn:Á ð
 xe:Value->Ï->È
nonrec def ji(l:Á Env):Á Ì:=l.filterMap (·.frame)
abbrev Cx.fs(X:Cx):Á Ì:=ji ĭd
def qA(a:Ûa)(x:Ç):È:=Šb x=À .local\/Šb x=À .cell\/Šb x=À .free
def gJ(a:Ûa)(x:Ç):È:=Šb x=À .local\/Šb x=À .cell
def z17(env:Env)(h:Heap)(m:Ç->Ê Value)(x:Ç)(u:Value):È:=
 (ŉc x=À .local/\m x=À u)\/((ŉc x=À .cell\/ŉc x=À .free)/\∃c,æh x=À c/\h.IsCell c (À u))
structure Cx.Ok(X:Cx):È where
 mod:Mod X.K ó ŕ
 kind:èh=.function
 glob:Ňh=Ĕ
 blt:X.env.builtins=Ûi
 above:Ϭb<=Ϯ
 inj:∀x y c,Ęa x=À c->Ęa y=À c->x=y
 has:∀x,(Ĵc x=À .cell\/Ĵc x=À .free)->∃c,Ęa x=À c
 UC:∀x c,X.fn x=Ã->Ęa x=À c->Ϭb<=c
 hd:Ϗ=Ã->X.A.handled=Ä
 Ąj:X.A.frames=À ġa
 Qr:ġa=ĭd\/(ġa=Ø::ĭd/\X.env.frame=À Ϯ)
 Qk:∀b∈X.ex,b≠Ϯ/\∀x c,Ęa x=À c->c≠b
 bs:∀b o,Âe b=À o->çh b=À o/\Öb b=Ä
 ZG:X.base.objs.size<=Ϭb
 UH:∀b o,Âe b=À o->b ∉ X.ex
 UD:∀b∈X.ex,b ∉ Ŋa
 jN:ÿl ŕ ĭd
 X4:∀b∈Ŋa,Öb b=Ä
structure zI(X:Cx)(z8:Á ð)(σ:Á Ëg)(H:Hp)(s:Ï):È where
 ok:X.Ok
 os:s.os=X.s₀.os
 bare:įd ág
 Ë:Un Ŋa X.ex Öb H X.s₀.heap á
 loc:∃m,ło Ϯ m/\∀(i:Â)(x:Ç)(v:V),X.N[i]?=À x->σ[i]?=À ź->qA ßa x->∃u,yB v u/\z17 Ø á m x u
 Ϣ:∀x c,Ęa x=À c->∃v,Ϯm c v
 free:H Ϯ=Ä
 jM:∀x c,Ęa x=À c->H c=Ä
 pin:∀p∈ϣb++z8,ć p.1=À p.2/\H p.1=Ä/\p.1≠Ϯ/\p.1 ∉ Ŋa/\∀v,p.2.data≠.cell v
 zf:wK ø X.w H á
 len:σ.length=ù
section
variable{X:Cx}{z8:Á ð}{σ:Á Ëg}{H H':Hp}{s:Ï}{h':Heap}
def Cx.Ok.z0y(ok:X.Ok){b:Ì}{o:Obj}(e:Âe b=À o):b ∉ Ŋa:=λa=>by let:=(ok.jN.mem a).1;rw[e]at this;cases this
theorem zI.bs(I:zI X z8 σ H s):∀b o,Âe b=À o->ć b=À o/\H b=Ä:=λb o e=>
 {ìf b o èf.1 èf.2 (I.ok.z0y e) ŏm,Þd b o èf.1 èf.2 ŏm}
def zI.bk(I:zI X z8 σ H s):∀b o,Âe b=À o->ć b=À o:=λb o e=>(I.bs b o e).1
theorem zI.mod(I:zI X z8 σ H s):Mod X.K ó ŕ:=ųi
def zI.xY(I:zI X z8 σ H s):X.K.In á:=I.ok.mod.We.keeps I.bk
theorem zI.lt(I:zI X z8 σ H s):Ϯ<ß:=let ⟨_,hn,_⟩:=Ĩa;hn.lt
def zI.sz(I:zI X z8 σ H s):Ϭb<=ß:=İ äi (Ïa I.lt)
def zI.aD(I:zI X z8 σ H s){a:Ì}(h:ß<=a):a ∉ Ŋa:=λb=>by let{_,o,c,_}:=žn b;show Þ (Ũ (ħ c) (İ I.sz h)) Êa
def zI.Wa(I:zI X z8 σ H s):∀x c,Ęa x=À c->c≠Ϯ:=λx c e z=>by let{v,o,f,d}:=Ła x c e;let{m,{h,g,i,a,b,_},_}:=Ĩa;rw[z,a]at f;cases f;rw[b]at d;cases d
theorem zI.jN(I:zI X z8 σ H s):Õf ŕ ĭd:=by
 let c:∀(l:Á Env),(∀b∈ji l,b∈Ŋa)->ÿl ŕ l->Õf ŕ l:=by
  intro l
  induction l with
  |nil=>intro _ _;trivial|ï env r ih=>
   intro g j;let{n,{L,o,d,h,m,i},k}:=j;let a:L∈Ŋa:=g L (by unfold ji;rw[Ϭg,d];show Ł);let{p,e}:=Åe L o m (I.ok.X4 L a) a λz=>I.ok.UD L z a
   show{n,{L,_,d,h,e,i},ih (λb f=>g b (by unfold ji;rw[Ϭg,d];show Üa _ f)) k}
 show c ĭd (λ_ f=>f) I.ok.jN
theorem zI.stack(I:zI X z8 σ H s):Õf ŕ ġa:=by rcases I.ok.Qr with e|⟨e,hf⟩;rw[e];show I.jN;rw[e];let{m,a,_}:=Ĩa;refine .cons (by rw[Ąb];decide) hf a ?_ I.jN;show Heap.get?_none_of_le (İ ϻf äi)
def zI.Qs(I:zI X z8 σ H s):∀b∈ji ġa,b∈Ϯ::Ŋa:=λb a=>by rcases I.ok.Qr with e|⟨e,hf⟩;rw[e]at a;show Üa _ a;rw[e]at a;unfold ji at a;rw[Ϭg,hf]at a;show a
def zI.aG(I:zI X z8 σ H s):∀b∈ji ġa,H b=Ä:=λb a=>by rcases Ň (I.Qs b a)with e|a;rw[e];show ϙa;let{_,o,c,_}:=žn a;show Þd b o c (I.ok.X4 b a) λz=>I.ok.UD b z a
def zI.step{g':Ü GenState}{t':Â}{d':Drawn}{ch:Á Ì}(I:zI X z8 σ H s)(g:∀b∈ch,Åf/\b≠Ϯ/\(∀x c,Ęa x=À c->c≠b)/\∀p∈ϣb++z8,p.1≠b)(t:∀b o,b≠Ϯ->b ∉ Ŋa->b ∉ ch->ć b=À o->H b=Ä->ġ b=À o)(A:∀b o,b≠Ϯ->b∈Ŋa->b ∉ ch->ć b=À o->H b=Ä->∃sl,ġ b=À { o with čc:=sl })(f:∀b o,b ∉ ch->ć b=À o->H b=Ä->H' b=Ä)(B:∀b o,b ∉ ch->ć b=À o->∃o',ġ b=À o')(P:∀b xs,H b=À Ĺa->H' b=À Ĺa)(Q:∀b o u,H b=À òe->H' b=À òe)(R:∀b ps,H b=À óe->∃more,H' b=À Þm)(ns:∀m,ło Ϯ m->h'.Ns Ϯ m)(Y:wK ø X.w H' h')(S:įd g') :zI X z8 σ H' { s with ì:=h',gens:=g',drawn:=d',Ę:=t' }:=by
 let F:∀b o,çh b=À o->b≠Ϯ:=λb o e=>ϣ (Ũ ëc äi)
 let y:∀b o,çh b=À o->b ∉ X.ex->b ∉ ch:=λb o e a C=>by rcases(g b C).1 with z|z;show a z;show Þ (Ũ ëc z) Êa
 let h:∀x c,Ęa x=À c->∀v,Ϯm c v->h'.IsCell c v:=λx c e v ⟨o,E,G⟩=>by
  let j:c ∉ ch:=λz=>(g c z).2.2.1 x c e rfl
  by_cases hc:c∈Ŋa;let{sl,q}:=A c o ňn hc j E ϒh;show{_,q,G};show{o,t c o ňn hc j E ϒh,G}
 show{I.ok,ĕc,S,{λb o e n C a=>?_,λb o e n C a=>?_,λb o e n a=>?_,λb o e a=>?_,λb xs e=>P b xs (áe b xs e),λb o xs e=>Q b o xs (àe b o xs e),λb ps e=>?_},?_,λx c e=>?_,?_,λx c e=>?_,λp K=>?_,Y,ēb};show t b o Ðp C ģf (ìf b o e n C a) Ĉh;let{sl,e1}:=Åe b o e n C a;let{J,e2}:=A b _ Ðp C ģf e1 Ĉh;show{J,e2};let{o',e1}:=ϴd b o e a;show f b o' ģf e1 Ĉh;let{o',e1}:=ϴd b o e a;show B b o' ģf e1;let{W,e1}:=âe b ps e;let{Z,e2}:=R b _ e1;show{W++Z,by rw[e2,Array.append_assoc]};let{m,O,T}:=Ĩa;show{m,ns m O,λi x v e1 e2 U=>?_};let{u,r,l}:=T i x v e1 e2 U;show{u,r,?_};rcases l with l|⟨k,c,e,z⟩;show .inl l;show .inr {k,c,e,h x c e _ z};let{v,z}:=Ła x c e;show{v,h x c e v z};let{m,{o,_,_,E,_},_}:=Ĩa;show f _ o (λz=>(g _ z).2.1 rfl) E ϙa;let{v,o,E,G}:=Ła x c e;show f c o (λz=>(g c z).2.2.1 x c e rfl) E ϒh;let{e,n,N,L,d}:=ňa p K;let j:p.1 ∉ ch:=λz=>(g p.1 z).2.2.2 p K rfl
 show{t p.1 p.2 N L j e n,f p.1 p.2 j e n,N,L,d}
def zI.un{t':Â}(I:zI X z8 σ H s)(u:Un Ŋa [] H H' á h')(k:wK ø X.w H' h'):zI X z8 σ H' { s with ì:=h',Ę:=t' }:=by
 let{m,{o,l,v,g,r},_}:=id Ĩa;let{p,h}:=u.any g ϙa è
 show Ďj (g':=ág) (d':=s.drawn) (ch:=[]) ça (λb o _ f _ e n=>ĺe b o e n f è) (λb o _ f _ e n=>Þg b o e n f è) (λb o _ e n=>ßg b o e n è) (λb o _ e=>ϳf b o e è) u.qR u.tq u.pZ (λq j=>by let{t,d,c,a,i}:=j;rw[g]at a;cases a;show{_,d,c,h,i}) k Ϛa
def zI.call{g':Ü GenState}{t':Â}{d':Drawn}{ch:Á Ì}(I:zI X z8 σ H s)(u:Un ύi ch H H' á h')(v:wK ø X.w H' h')(l:įd g')(d:∀b∈ch,Åf/\b≠Ϯ/\(∀x c,Ęa x=À c->c≠b)/\∀p∈ϣb++z8,p.1≠b) :zI X z8 σ H' { s with ì:=h',gens:=g',drawn:=d',Ę:=t' }:=by
 let{m,{o,y,E,j,r},_}:=id Ĩa;let{A,g}:=u.any j ϙa λz=>(d _ z).2.1 rfl
 show Ďj (ch:=ch) d (λb o g q a e n=>ĺe b o e n (λz=>(Ň (I.Qs b z)).elim g q) a) (λb o _ _ a e n=>u.any e n a) (λb o a e n=>ßg b o e n a) (λb o a e=>ϳf b o e a) u.qR u.tq u.pZ (λB t=>by let{C,i,h,f,k}:=t;rw[j]at f;cases f;show{_,i,h,g,k}) v l
def zI.turned{t':Â}{it:Ì}(I:zI X z8 σ H s)(k:∀b o,b≠it->ć b=À o->ġ b=À o)(h:H it=Ä)(f:it≠Ϯ)(t:it∈X.ex\/Ϭb<=it)(l:∀x c,Ęa x=À c->c≠it)(i:∀p∈ϣb++z8,p.1≠it):zI X z8 σ H { s with ì:=h',Ę:=t' }:=by
 let d:∀b u,H b=À u->b≠it:=λb u e z=>by rw[z,h]at e;cases e
 show Ďj (g':=ág) (d':=s.drawn) (ch:=ϥb) (λb y=>?_) (λb o _ _ a e _=>k b o ϝg e) (λb o _ _ a e _=>{o.slots,k b o ϝg e}) (λ_ _ _ _ n=>n)
  (λb o a e=>{o,k b o ϝg e}) ĝn (λ_ _ _ e=>e) (λb B e=>{#[],by rw[e];simp}) (λm j=>?_) (λb u e=>?_) Ϛa
 let e:b=it:=by simpa using y
 subst e;show{t,f,l,i};let{o,g,w,A,r}:=j;show{o,g,w,k _ o (ľb f) A,r};show(Ė b u e).X5 (λc v a q=>k c v ?_ q) ŀf λ_ _ q=>q
 rcases a with z|z;rw[z];show d b u e;show d c _ z
def zI.tok(I:zI X z8 σ H s)(t:Â):zI X z8 σ H { s with Ę:=t }:=I.un (h':=á) (t':=t) Un.refl Ė
theorem zI.kept{t':Â}(I:zI X z8 σ H s)(k:∀b u,ć b=À u->ġ b=À u):zI X z8 σ H { s with ì:=h',Ę:=t' }:=I.un (Ġe k) (ŝo k)
theorem zI.laid{a:Ì}{o:HO}{t':Â}(I:zI X z8 σ H s)(k:∀b u,ć b=À u->ġ b=À u)(d:ß<=a)(c:xV ø X.w Óe h' a o) :zI X z8 σ Óe { s with ì:=h',Ę:=t' }:=I.un (Un.laid k d (Ģb d)) (I.zf.laid k d c)
theorem zI.write{x e:Ì}{o:HO}{t':Â}(I:zI X z8 σ H s)(f:JO (H x))(d:e=x\/H e=À Ĥd)(k:∀b u,b≠e->ć b=À u->ġ b=À u)(a:∃u,ġ e=À u)(c:xV ø X.w íi h' x o):zI X z8 σ íi { s with ì:=h',Ę:=t' }:=I.un (Un.write f d k a) (I.zf.write f d k a c)
def zI.weak{σ':Á Ëg}(I:zI X z8 σ H s)(b:σ'.length=σ.length)(w:∀(i:Â) v,σ'[i]?=À ź->σ[i]?=À ź):zI X z8 σ' H s:=
 {I.ok,ĕc,Ϛa,ïg,let ⟨m,hn,hl'⟩:=Ĩa;{m,hn,λi x v e1 e2 a=>hl' i x v e1 (w i v e2) a},Ła,ϙa,ŗb,ňa,Ė,b.trans ēb}
def zI.Qp{a:Á ð}(I:zI X z8 σ H s)(h:∀p∈a,ć p.1=À p.2/\H p.1=Ä/\p.1≠Ϯ/\p.1 ∉ Ŋa/\∀v,p.2.data≠.cell v):zI X a σ H s:=
 {I.ok,ĕc,Ϛa,ïg,Ĩa,Ła,ϙa,ŗb,λp b=>(Þa b).elim (λz=>ňa p (ϴc _ z)) (h p),Ė,ēb}
def iw{N:Á Ç}(c:N.Nodup){i j:Â}{x:Ç}(a:N[i]?=À x)(b:N[j]?=À x):i=j:=by let{d,e1}:=Š a;let{e,e2}:=Š b;show(List.getElem_inj c).mp (e1.trans e2.symm)
def ox{M:Ŋd}{A:þ}{E:Value->Ï->È}{i:Â}{x:Ç}{v:V}{u:Value}{Q:īa->Ï->È}(I:zI X z8 σ H s)(hN:ğa)(hi:X.N[i]?=À x)(t:gJ ßa x)(r:yB v u)(h:∀s',zI X z8 àd H s'->(∃a,öb a á ŧc/\(a=Ϯ\/Ęa x=À a))->Q () s')(hf:Î ϧa q7):Ý M A Ŝl Q E s:=by
 let{m,Y,hl}:=id Ĩa;let O:(èh == .class||(èh == .module&&Ϯ != Ňh))=Å:=by rw[Ąb];rfl
 let J:i<σ.length:=by rw[ēb];show Łb.1
 let T:=I.Wa
 let g:∀{a:Ì}{h':Heap},(∃o,ć a=À o/\H a=Ä)->öb a á h'->wK ø X.w H h':=λ{a h'} ha f b ob e=>by
  let{_,_,B}:=ha;show(Ė b ob e).X5 (λc R l q=>(f.2 c ?_).trans q) ŀf λ_ _ q=>q
  rintro rfl;rcases l with rfl|l;rw[B]at e;cases e;rw[B]at l;cases l
 rcases t with hk|hk;show wpAny_storeName_local hk Y (λh' hn' f=>?_) O;let{oL,_,_,hoL,_}:=id Y;show h _ {I.ok,ĕc,Ϛa,{λb o e n C t=>?_,λb o e n C t=>?_,Þd,λb o e t=>?_,áe,àe,âe},{_,hn',λj y v' e1 e2 e3=>?_},λy c e=>?_,ϙa,ŗb,λp U=>?_,g {oL,hoL,ϙa} f,by simpa using ēb} {_,f,.inl rfl};show(Ļg).trans Ém;let{sl,e1}:=Åe b o e n C t;show{sl,(Ļg).trans e1};let{o',e1}:=ϴd b o e t;show{o',(Ļg).trans e1};rw[Īp];show{u,r,.inl {hk,by simp}};rw[ĵp];rcases q with⟨k,e⟩|⟨k,c,e,z⟩;show .inl {k,?_};let:y≠x:=λe=>hj (iw hN e1 (e▸hi))
 simp[this,e];show .inr {k,c,e,Ļo f Ìp};let{R,z}:=Ła y c e;show{R,Ļo f Ìp};let{e,n,S,nf,d}:=ňa p U;show{(f.2 p.1 S).trans e,n,S,nf,d};let F:X.fn x=Ã:=by rcases hf with z|z;show z;rw[z]at hk;cases hk
 let{c,l}:=I.ok.has x (.inl hk);let{R,z}:=Ła x c l;show wpAny_storeName_cell Ąb hk l z (λh' G f=>?_);let{oc,L,K}:=id z;show h { s with ì:=h' } {I.ok,ĕc,Ϛa,{λb o e n C t=>?_,λb o e n C t=>?_,Þd,λb o e t=>?_,áe,àe,âe},{m,Y.sameBut f (ľb (T x c l)),λj y v' e1 e2 e3=>?_},λy P e=>?_,ϙa,ŗb,λp U=>?_,g {oc,L,ŗb x c l} f,by simpa using ēb} {c,f,.inr l};show(İg).trans Ém;let{sl,e1}:=Åe b o e n C t;show{sl,(İg).trans e1};let{o',e1}:=ϴd b o e t;show{o',(İg).trans e1};rw[Īp];show{u,r,.inr {.inl hk,c,l,G}};rw[ĵp];rcases q with q|⟨k,P,e,z'⟩;show .inl q;show .inr {k,P,e,z'.sameBut f ?_};rintro rfl;show hj (iw hN e1 (I.ok.inj _ _ _ e l▸hi));by_cases hcc:P=c;subst hcc;show{_,G};let{w2,z2}:=Ła y P e;show{w2,z2.sameBut f hcc};let{e,n,S,nf,d}:=ňa p U;show{(f.2 p.1 ?_).trans e,n,S,nf,d};intro q;rw[q,L]at e;let q':oc=p.2:=úa e;show d R (by rw[<-q'];show K)
def S5{M:Ŋd}{A:þ}{E:Value->Ï->È}{i:Â}{x:Ç}{v:V}{u:Value}{Q:īa->Ï->È}(I:zI X z8 σ H s)(a:ğa)(hi:X.N[i]?=À x)(c:gJ ßa x)(r:yB v u)(h:∀s',zI X z8 àd H s'->Q () s')(b:Î ϧa q7):Ý M A Ŝl Q E s:=
 ox I a hi c r (λs' d _=>h s' d) b
def zI.F0{s':Ï}{ch:Á Ì}(I:zI X z8 σ H s)(f:s'.os=s.os)(u:Un ύi ch H H' á ŧc)(g:wK ø X.w H' ŧc)(h:įd s'.gens)(a:∀b∈ch,Åf/\b≠Ϯ/\(∀x c,Ęa x=À c->c≠b)/\∀p∈ϣb++z8,p.1≠b):zI X z8 σ H' s':=by let{h',g',d',t',d}:=s';let e:d=s.os:=f;subst e;show I.call (g':=g') (t':=t') (d':=d') u g h a
#print a
abbrev XK:=Value->Ê Ì->Hp->È
abbrev St:=Á Ëg
abbrev VK:=V->Hp->È
abbrev TE:=St->Hp->VK->È
abbrev TT:=St->Hp->(Ñ->Hp->È)->È
abbrev TA:=St->Hp->(Á V->Hp->È)->È
structure ua where
 nx:St->Hp->È
 rt:VK
 bk:St->Hp->È:=λ_ _=>î
 ct:St->Hp->È:=λ_ _=>î
abbrev TS:=ua->St->Hp->È
def EP(X:Cx)(a:Á ð)(σ:St)(Q:VK)(u:Value)(s':Ï):È:=∃v H',zI X a σ H' s'/\yB v u/\Q v H'
def TP(X:Cx)(a:Á ð)(σ:St)(Q:Ñ->Hp->È)(b:Ñ)(s':Ï):È:=∃H',zI X a σ H' s'/\Q b H'
def AP(X:Cx)(a:Á ð)(σ:St)(Q:Á V->Hp->È)(us:Á Value)(s':Ï):È:=∃vs H',zI X a σ H' s'/\zo vs us/\Q vs H'
def SP(X:Cx)(a:Á ð)(D:ua)(f:Flow)(s':Ï):È:=
 match f with
 |.next=>∃σ' H',zI X a σ' H' s'/\ůa σ' H'|.brk=>∃σ' H',zI X a σ' H' s'/\D.bk σ' H'|.cont=>∃σ' H',zI X a σ' H' s'/\D.ct σ' H'|.ret u=>∃v σ' H',zI X a σ' H' s'/\yB v u/\D.rt v H'
def PE(X:Cx)(e:Õ)(t:TE):È:=
 ∀(z8:Á ð) (s:Ï) (σ:St) (H:Hp) (Q:VK),zI X z8 σ H s->t σ H Q->Ý Ą X.A ϲd ĩb Ĳ s
def PT(X:Cx)(e:Õ)(t:TT):È:=
 ∀(z8:Á ð) (s:Ï) (σ:St) (H:Hp) (Q:Ñ->Hp->È),zI X z8 σ H s->t σ H Q->Ý Ą X.A (Ľd e Ø ϲd) Ĵh Ĳ s
def PW(X:Cx)(e:Õ)(t:TT):È:=
 ∀(Čc:Sem Value)(z8:Á ð) (s:Ï) (σ:St) (H:Hp) (Q:Ñ->Hp->È),zI X z8 σ H s->t σ H Q->Ý Ą X.A (Ľd e Ø Čc) Ĵh Ĳ s
def PW.pt{X:Cx}{e:Õ}{t:TT}(h:PW X e t):PT X e t:=h _
def PA(X:Cx)(es:Á Õ)(t:TA):È:=
 ∀(pos:Pos)(z8:Á ð) (s:Ï) (σ:St) (H:Hp) (Q:Á V->Hp->È),zI X z8 σ H s->t σ H Q->Ý Ą X.A (spliced èe) Ϟm Ĳ s
def PS(X:Cx)(st:Ú)(t:TS):È:=
 ∀(z8:Á ð) (s:Ï) (σ:St) (H:Hp) (D:ua),zI X z8 σ H s->t D σ H->Ý Ą X.A (exec st Ø) Èo Ĳ s
def tK(X:Cx)(st:Á Ú)(t:TS):È:=
 ∀(z8:Á ð) (s:Ï) (σ:St) (H:Hp) (D:ua),zI X z8 σ H s->t D σ H->Ý Ą X.A (execs st Ø) Èo Ĳ s
def zy{α:Type}{t:Sem α}{Q b:α->Ï->È}{M:Ŋd}{A:þ}{E:Value->Ï->È}{s:Ï}(h:Ý M A t Q E s)(c:∀a s,Q a s->b a s):Ý M A t b E s:=ăa h c λ_ _ x=>x
section
variable{X:Cx}
nonrec def Q5(i:Â):TE:=λσ H Q=>∃v,σ[i]?=À ź/\Q v H
nonrec def tC(v:V):TE:=λ_ H Q=>Q v H
def kZ{i:Â}{x:Ç}{pos:Pos}(q:X.N[i]?=À x)(hv:qA ßa x)(f:Î ī q10)(g:Î Ĭa q10):PE X àa Ņd:=by intro o s σ H Q I h;let{v,e,h}:=h;let{m,k,p}:=Ĩa;let{u,r,l}:=p i x v q e hv;let b:EP X o σ Q u s:={v,H,I,r,h};rcases l with⟨d,n⟩|⟨d,c,j,a⟩;show Ñi (Ġl Ąb d k n b) f;rcases d with d|d;show Ñi (ņl Ąb d j a b) f;show Ñi (wpAny_loadName_free Ąb d j a b g) f
def N5{i j pos}:PE X (.Constant òa j pos) (tC òa):=λ_ _ _ H _ I h=>wpAny_Constant_int {.int i,H,Ëa _,{_,rfl},h}
def y69{b j pos}:PE X (.Constant Ŕi j pos) (tC ϗb):=λ_ _ _ H _ I h=>Constant_bool {.bl b,H,I,rfl,h}
def y6q{j pos}:PE X (.Constant .none j pos) (tC .zC):=λ_ _ _ H _ I h=>Constant_none {.zC,H,I,rfl,h}
def y6v{x j pos}:PE X (.Constant Žb j pos) (tC Žb):=λ_ _ _ H _ I h=>Calls.Constant_str {.str x,H,Ëa _,{_,rfl},h}
def Gl(X:Cx)(x:Ç):È:=Ĵc x=À .globalImplicit
def IY{E:Value->Ï->È}{a:Á ð}{s:Ï}{σ:St}{H:Hp}{x:Ç}{u:Value}{pos:Pos}{Q:Value->Ï->È}(I:zI X a σ H s)(c:Gl X x)(d:ó x=À u)(h:Q u s)(b:Î ī q10):Ý Ą X.A Ón Q E s:=
 Ěk Ąb c (Calls.loadGlobal_global ϣj d h) b
def VQ{E:Value->Ï->È}{f:Á ð}{s:Ï}{σ:St}{H:Hp}{x:Ç}{u:Value}{pos:Pos}{Q:Value->Ï->È}(I:zI X f σ H s)(g:Gl X x)(e:ó x=Ä)(hv:Ŷ x=À u)(h:Q u s)(b:Î ïb q10)(c:Î ī q10):Ý Ą X.A Ón Q E s:=by let{i,a,d}:=I.mod.blt;show Ěk Ąb g (Calls.loadGlobal_builtin ϣj e (by rw[I.ok.blt];show a.keeps I.bk) ((d x b).trans hv) h) c
def y6l{x:Ç}{v:V}{u:Value}{pos:Pos}(b:Gl X x)(c:ó x=À u)(r:yB v u)(a:Î ī q10):PE X àa ŉe:=
 λ_ _ _ H _ I h=>IY I b c {v,H,I,r,h} a
def y6a{x:Ç}{v:V}{u:Value}{pos:Pos}(d:Gl X x)(c:ó x=Ä)(hv:Ŷ x=À u)(r:yB v u)(a:Î ïb q10)(b:Î ī q10):PE X àa ŉe:=
 λ_ _ _ H _ I h=>VQ I d c hv {v,H,I,r,h} a b
variable{a b:Õ}{ta tb:TE}{pos:Pos}
nonrec def tB(t:TE):TT:=λσ H Q=>t σ H λx a=>∃c,x=.bl c/\Q c a
def y7t{e:Õ}{t:TE}(h:PE X e t)(i:Î (∀Čc,Ľd e Ø Čc=(do let v <-Čc;standAt e.pos;holding [v] Ċo)) q11):PT X e (tB t):=by intro b s σ H Q I k;show isTrue_plain (zy (h b s σ H _ I k) λv l a=>?_) (i _);let{x,f,g,c,j}:=a;let{d,rfl,q}:=j;cases c;show ϩc {f,g,q}
variable{tA tB':TT}{zt:Á Õ}
nonrec def x2i(t u:TT):TT:=λσ H Q=>t σ H λc a=>if c=Ã then u σ a Q else Q Å a
nonrec def x32(t u:TT):TT:=λσ H Q=>t σ H λc a=>if c=Ã then Q Ã a else u σ a Q
nonrec def x30(t:TT):TT:=λσ H Q=>t σ H λc a=>Q (!c) a
def y83(d:PT X a tA):PW X úl tA:=by
 intro g b s σ H Q I h;show Ýo ăk;cases c with
 |Ã=>show isTrue_and_nil e|Å=>show e
def y85(d:PT X a tA):PW X Ĝl tA:=by
 intro g b s σ H Q I h;show ŋo ăk;cases c with
 |Å=>show isTrue_or_nil e|Ã=>show e
def y82(m:PT X a tA)(l:PW X üf tB'):PW X ţf (x2i tA tB'):=by
 intro k g s σ H Q I h;show Ýo āk;let{i,e,f}:=d;cases c with
 |Ã=>show l k g j σ i Q e f|Å=>show{i,e,f}
def y84(m:PT X a tA)(l:PW X ûf tB'):PW X Ţf (x32 tA tB'):=by
 intro k g s σ H Q I h;show ŋo āk;let{i,e,f}:=d;cases c with
 |Ã=>show{i,e,f}|Å=>show l k g j σ i Q e f
def y7s(d:PT X a tA):PT X Ϭe (x30 tA):=by intro b s σ H Q I h;show isTrue_not (d b s σ H (λc e=>Q (!c) e) I h)
nonrec def x2j(ta tb:TE):TE:=λσ H Q=>ta σ H λx a=>∃c,x=.bl c/\if c=Ã then tb σ a Q else Q ă a
nonrec def x33(ta tb:TE):TE:=λσ H Q=>ta σ H λx a=>∃c,x=.bl c/\if c=Ã then Q ň a else tb σ a Q
nonrec def x31(ta:TE):TE:=λσ H Q=>ta σ H λx a=>∃c,x=.bl c/\Q (.bl (!c)) a
def y6s{op}{t:TE}(h:PE X a t):PE X ľl t:=λb s σ H Q I c=>BoolOp_one (h b s σ H Q I c)
def y68(k:PE X a ta)(m:PE X üf tb):PE X ţf (x2j ta tb):=by
 rw[Ųp];show BoolOp_and Ăk;rw[œp];cases c with
 |Ã=>show m f l σ g Q i d|Å=>show{.bl Å,g,i,rfl,d}
def y6t(k:PE X a ta)(m:PE X ûf tb):PE X Ţf (x33 ta tb):=by
 rw[Ųp];show BoolOp_or Ăk;rw[œp];cases c with
 |Å=>show m f l σ g Q i d|Ã=>show{.bl Ã,g,i,rfl,d}
def y6r(i:PE X a ta):PE X Ϭe (x31 ta):=by intro e s σ H Q I h;show UnaryOp_ (zy (i e s σ H _ I h) λv k b=>?_);let{x,g,j,f,d}:=b;let{c,rfl,d}:=d;cases f;show not_of (ϩc {.bl (!c),g,j,rfl,d})
nonrec def x2q(t:TT)(ta tb:TE):TE:=λσ H Q=>t σ H λc a=>if c=Ã then ta σ a Q else tb σ a Q
def y6m{c:Õ}(l:PT X c tA)(n:PE X a ta)(m:PE X b tb):PE X Ϭl (x2q tA ta tb):=by
 rw[Ųp];show wpAny_IfExp (zy (l f s σ H _ I h) λd i e=>?_);let{k,g,j}:=e;cases d with
 |Ã=>show n f i σ k Q g j|Å=>show m f i σ k Q g j
#print a
def yc(K:Ð)(H:Hp)(a:Ì)(xs:Á V):È:=
 Rd H a þa \/
  ∃(o:Obj) (its:Ü Value) (n:Â),ϓ a=À o/\áb=.type Ġ/\ŀe=Ä/\ŀa=.seq its n/\ŧi<=ã/\zo xs Îe
def xF(K:Ð)(H:Hp)(a:Ì)(xs:Á V):È:=
 Rd H a Ĺa \/
  ∃(o:Obj) (its:Ü Value) (n:Â),ϓ a=À o/\áb=.type ŷ/\ŀa=.seq its n/\ŧi<=ã/\zo xs Îe
nonrec def z1e:Value->Ê V
 |.none=>À .zC|.bool b=>À ϗb|.int i _=>À òa|.str x _=>À Žb|.bytes b _=>À (.byt b)|.float b _=>À (.Wb b)|.ref a=>À Ş|.type n=>À (.ty n)|_=>Ä
def yB.abs{x:V}{u:Value}(r:yB x u):z1e u=À x:=by
 cases x with
 |zC=>cases r;rfl|bl _=>cases r;rfl|int _=>let{t,rfl}:=r;rfl
 |str _=>let{t,rfl}:=r;rfl
 |byt _=>let{t,rfl}:=r;rfl
 |Wb _=>let{t,rfl}:=r;rfl
 |ref _=>cases r;rfl|ty _=>cases r;rfl
def yB.inj{x y:V}{u:Value}(r:yB x u)(q:yB y u):x=y:=úa (r.abs.symm.trans q.abs)
theorem zo.inj{xs ys:Á V}{us:Á Value}(h:zo xs us)(g:zo ys us):xs=ys:=by
 induction h generalizing ys with
 |nil=>cases g;rfl|ï r _ ih=>cases g with|ï r' t'=>rw[r.inj r',ih t']
section
variable{X:Cx}{z8:Á ð}{σ:St}{H:Hp}{s:Ï}{a:Ì}{xs ys:Á V}
def ņa{K:Ð}(h:H a=À þa):yc K H a xs:=.inl Ęe
def őb{K:Ð}(h:H a=À Ĺa):xF K H a xs:=.inl Ęe
def zI.list(I:zI X z8 σ H s)(h:yc X.K H a xs):∃its:Á Value,zo xs its/\PlainL á a Ãa/\ä<=ã:=by rcases h with h|⟨o,its,n,hk,hc,hd,hs,hz,r⟩;let{z,its,n,r,e}:=h.ok Ė;show{its,r,{_,n,e,rfl,rfl,rfl},z};refine{Îe,r,{o,n,Ŧ a o hk,hc,hd,by simpa using hs},?_};rw[Æq]
def zI.tuple(I:zI X z8 σ H s)(h:xF X.K H a xs):∃its:Á Value,zo xs its/\âb á a Ãa/\ä<=ã:=by rcases h with h|⟨o,its,n,hk,hc,hs,hz,r⟩;let{z,its,r,p}:=h.ok Ė;show{its,r,p,z};refine{Îe,r,{o,Ŧ a o hk,hc,n,by simpa using hs},?_};rw[Æq]
def zI.LI(I:zI X z8 σ H s)(h:yc X.K H a xs)(h':yc X.K H a ys):xs=ys:=by
 let{c,r,{o,n,e,_,_,d},_}:=Ϙ h;let{b,i,{j,k,g,_,_,f},_}:=Ϙ h';rw[e]at g;cases g;rw[d]at f;injection f with d1 _
 rw[Äq]
 subst this;show r.inj i
def zI.FC(I:zI X z8 σ H s)(h:xF X.K H a xs)(h':xF X.K H a ys):xs=ys:=by
 let{c,r,{o,e,_,n,d},_}:=ϵ h;let{b,i,{j,g,_,k,f},_}:=ϵ h';rw[e]at g;cases g;rw[d]at f;injection f with d1 _
 rw[Äq]
 subst this;show r.inj i
#print a
abbrev Cx.ZI(X:Cx)(E:Value->Ï->È):Cx:={ X with xe:=E }
abbrev Cx.qP(X:Cx):Cx:=X.ZI λ_ _=>î
theorem Cx.Ok.ZI{X:Cx}(ok:X.Ok)(E:Value->Ï->È):(Ĕe).Ok:=
 {ok.mod,ok.kind,ok.glob,ok.blt,ok.above,ok.inj,ok.has,ok.UC,ok.hd,ņo,ok.Qr,ok.Qk,ok.bs,ok.ZG,ok.UH,ok.UD,ok.jN,ok.X4}
def Cx.Ok.X6{X:Cx}{E:Value->Ï->È}(ok:(Ĕe).Ok):X.Ok:=
 {ok.mod,ok.kind,ok.glob,ok.blt,ok.above,ok.inj,ok.has,ok.UC,ok.hd,ņo,ok.Qr,ok.Qk,ok.bs,ok.ZG,ok.UH,ok.UD,ok.jN,ok.X4}
section
variable{X:Cx}{z8:Á ð}{σ:St}{H:Hp}{s:Ï}{E:Value->Ï->È}
theorem zI.ZI(I:zI X z8 σ H s)(E:Value->Ï->È):zI Ĕe z8 σ H s:={I.ok.ZI E,ĕc,Ϛa,ïg,Ĩa,Ła,ϙa,ŗb,ňa,Ė,ēb}
theorem zI.X6(I:zI Ĕe z8 σ H s):zI X z8 σ H s:={I.ok.X6,ĕc,Ϛa,ïg,Ĩa,Ła,ϙa,ŗb,ňa,Ė,ēb}
theorem SP.X6{D:ua}{f:Flow}{s':Ï}(h:SP Ĕe z8 D f s'):SP X z8 D f s':=by
 cases f with
 |next=>let{σ',a,I,q}:=h;show{σ',a,I.X6,q}
 |brk=>let{σ',a,I,q}:=h;show{σ',a,I.X6,q}
 |ĕb=>let{σ',a,I,q}:=h;show{σ',a,I.X6,q}
 |ret u=>let{v,σ',a,I,r,q}:=h;show{v,σ',a,I.X6,r,q}
theorem tK.qP{st:Á Ú}{t:TS}(h:tK X.qP st t):tK X st t:=λz8 s σ H D I a=>
 ăa (h z8 s σ H D (I.ZI _) a) (λ_ _ q=>q.X6) λ_ _ z=>ϯ z
#print a
section
variable{X:Cx}{st:Ú}{zt:Á Ú}{t u:TS}{e:Õ}{te:TE}{pos:Pos}
nonrec def x2y:TS:=λD σ H=>ůa σ H
nonrec def x37(t u:TS):TS:=λD σ H=>t { D with nx:=u D } σ H
def mE:tK X [] x2y:=λ_ _ σ H _ I h=>ϡe {σ,H,I,h}
def mD(b:PS X st t)(d:tK X zt u):tK X (st::zt) (x37 t u):=by
 intro a s σ H D I h;show êm (zy (b a s σ H { D with nx:=u D } I h) λf c q=>?_);cases f with
 |next=>let{σ',g,e,q}:=q;show d a c σ' g D e q
 |ret v=>show q|brk=>show q|ĕb=>show q
def mF(a:PS X st t):tK X [st] t:=by
 rw[Èq];show êm (zy (a b s σ H D I h) λf c q=>?_);cases f with
 |next=>show ϡe q|ret v=>show q|brk=>show q|ĕb=>show q
def zI.quiet{a:Á ð}{σ:St}{H:Hp}{s:Ï}(I:zI X a σ H s):ŭn Ø=Å:=by simp[ŭn,Ąb]
nonrec def rB(te:TE):TS:=λD σ H=>te σ H λ_ a=>ůa σ a
def mB(f:PE X e te)(c:Î Ţk q12):PS X Ţh (rB te):=by intro d s σ H D I h;show wpAny_Expr_any (zy (f d s σ H _ I h) λv j a=>?_) I.quiet c;let{x,i,b,k,g}:=a;show{σ,i,b,g}
nonrec def x35(te:TE):TS:=λD σ H=>te σ H D.rt
def BJ(f:PE X e te):PS X ϭe (x35 te):=by intro c s σ H D I h;show wpAny_Return_some (zy (f c s σ H _ I h) λv j a=>?_);let{x,i,b,d,g}:=a;show{x,σ,i,b,d,g}
nonrec def x2r(c:TT)(t u:TS):TS:=λD σ H=>c σ H λb a=>if b=Ã then t D σ a else u D σ a
def mC{c:Õ}{a b:Á Ú}{j:TT}(m:PT X c j)(o:tK X a t)(n:tK X b u):PS X (.If c a b pos) (x2r j t u):=by
 intro f s σ H D I h;show wpAny_If (zy (m f s σ H _ I h) λd i e=>?_);let{l,g,k}:=e;cases d with
 |Ã=>show o f i σ l D g k|Å=>show n f i σ l D g k
nonrec def x2x:TS:=λ_ _ _=>î
def y7r{a:Á Ú}:tK X a x2x:=λ_ _ _ _ _ _ h=>ăj
#print a
abbrev TG:=V->St->Hp->ón->È
abbrev ZN:=Á V->St->Hp->ón->È
def PG(X:Cx)(a:Õ)(t:TG):È:=
 ∀(z8:Á ð) (s:Ï) (σ:St) (H:Hp) (v:V) (u:Value) (Q:St->Hp->È),zI X z8 σ H s->yB v u->t v σ H Q->
  Ý Ą X.A (Ϙb a Ø u) ϟj Ĳ s
def JP(X:Cx)(a:Á Õ)(t:ZN):È:=
 ∀(z8:Á ð) (s:Ï) (σ:St) (H:Hp) (vs:Á V) (us:Á Value) (Q:St->Hp->È),zI X z8 σ H s->zo vs us->t vs σ H Q->
  Ý Ą X.A (assignInOrder ((Ϸc a Ø).map (·.2)) us) ϟj Ĳ s
abbrev Ld:=V->V->V->Hp->Îp->È
def C9(X:Cx)(t:Ld):È:=
 ∀(z8:Á ð) (s:Ï) (σ:St) (H:Hp) (o i v:V) (ov iv u:Value) (Q:Hp->È),zI X z8 σ H s->yB o ov->yB i iv->yB v u->t o i v H Q->
  Ý Ą X.A (Ϫi ov iv u) (λ_ a=>∃H',zI X z8 σ H' a/\Q H') Ĳ s
abbrev JQ:=V->V->Hp->VK->È
def LW(X:Cx)(a:Ĉe)(t:JQ):È:=
 ∀(z8:Á ð) (s:Ï) (σ:St) (H:Hp) (x y:V) (v u:Value) (Q:VK),zI X z8 σ H s->yB x v->yB y u->t x y H Q->
  Ý Ą X.A (Ýe a v u) ĩb Ĳ s
section
variable{X:Cx}{pos:Pos}
nonrec def uz(i:Â):TG:=λv σ H Q=>Q àd H
def y6y{i:Â}{x:Ç}(a:ğa)(hi:X.N[i]?=À x)(c:gJ ßa x)(b:Î ϧa q7):PG X àa ϙb:=by intro f s σ H v u Q I r h;show ϰl (S5 I a hi c r (λe d=>{_,H,d,h}) b)
nonrec def VD:ZN:=λa σ H Q=>a=[]/\Q σ H
nonrec def jl(t:TG)(u:ZN):ZN:=λb σ H Q=>∃v r,b=v::r/\t v σ H λσ' a=>u r σ' a Q
def y72:JP X [] VD:=by intro c s σ H a b Q I r h;let{e,h}:=h;subst e;cases r;show assignInOrder_nil {σ,H,I,h}
def y71{e:Õ}{es:Á Õ}{t:TG}{u:ZN}(j:PG X e t)(c:JP X es u)(d:Î ((Õn).map (·.2)=Ϙb e Ø::(ϥd).map (·.2)) q12):JP X đ (jl t u):=by
 intro b s σ H m n Q I r h;let{v,l,e1,h}:=h;subst e1;cases r with
 |ï r rr=>rw[d];show assignInOrder_cons (zy (j b s σ H _ _ _ I r h) λ_ i a=>?_);let{σ1,f,g,k}:=a;show c b i σ1 f _ _ Q g rr k
nonrec def VE(K:Ð)(n:Â)(t:ZN):TG:=λv σ H Q=>∃a xs,v=.ref a/\xF K H a xs/\ä=n/\t xs σ H Q
def y70{es:Á Õ}{k:Â}{t:ZN}{n:Â}(i:Ϗ=Ã)(h:JP X es t)(j:Î đm q12)(c:Î ((ϥd).findIdx? (·.1)=Ä) q12):PG X ãh Ņn:=by
 intro f s σ H v u Q I r d;let{a,m,e1,w,q,d}:=d;subst e1;cases r;let{z,g,p,A}:=ϵ w;refine assign_Tuple_tuple (Ģa i) p (by simp[j,<-q,Íb]) c λx l=>?_
 let y:zI X f σ H { s with ì:=x }:=Źc (t':=ĕ) λb o e=>l b o Ĵi e
 show h f _ σ H m _ Q y (by simpa using g) d
nonrec def f7(c a:TE)(t:Ld):TG:=λv σ H Q=>c σ H λo e=>a σ e λi b=>t o i v b λd=>Q σ d
def y6z{o i:Õ}{c d:TE}{t:Ld}(C:PE X o c)(hi:PE X i d)(k:C9 X t)(z:∀v,Ϙb Ϧg Ø v=(do
   let ov <-holding [v] Çe
   let iv <-holding [v,ov] (ď i Ø)
   standAt pos
   holding ŧo (Ϫi ov iv v)
   release ŧo []):=by intro _;rfl):PG X Ϧg (f7 c d t):=by
 intro b s σ H v u Q I r h;rw[z];show Ö (ϭa (zy (C b s σ H _ I h) λov B a=>?_));let{x,w,A,q,E}:=a;show Ö (ϭa (zy (hi b B σ w _ A E) λiv e a=>?_));let{y,j,f,p,l}:=a;show Ö (ϴe (Ö (ϭa (zy (k b e σ j x y v ov iv u _ f q p r l) λ_ F a=>?_))));let{n,g,m}:=a;show wpAny_release {σ,n,g,m}
nonrec def S6(a:TE)(g:TG):TS:=λD σ H=>a σ H λx b=>g x σ b ůa
def N9{tg e:Õ}{c:TE}{g:TG}(o:PE X e c)(f:PG X tg g)(d:Î Õk q12)(k:Î Ąk q12)(m:Î ((Űm).map (·.2)=ēn) q12):PS X ŀl (S6 c g):=by rw[Èq];show wpAny_Assign_stores (zy (o b s σ H _ I h) λv n a=>?_) d k;let{x,j,l,i,p}:=a;rw[m];show zy (f b n σ j x v _ l i p) λ_ r q=>q
def y7p{i:Â}{x:Ç}{e:Õ}{c:TE}{a:Pos}(n:ğa)(hi:X.N[i]?=À x)(f:gJ ßa x)(p:PE X e c)(g:Î (Ĳb e (À (.Name x a)) Õc Ø=pure Å) q12)(o:Î ϧa q7) :PS X (.Assign [.Name x a] e pos) (S6 c ϙb):=by intro j s σ H D I h;show wpAny_Assign_Name (zy (p j s σ H _ I h) λv t b=>?_) g;let{y,l,m,k,q}:=b;show S5 m n hi f k (λr d=>{_,l,d,q}) o
nonrec def x2k(i:Â)(d:TE)(b:JQ):TS:=λD σ H=>∃x,σ[i]?=À (À x)/\d σ H λy a=>b x y a λz c=>ůa (σ.set i (À z)) c
def m8{i:Â}{x:Ç}{e:Õ}{o:TE}{n:Ĉe}{q:JQ}{f:Pos}(G:ğa)(hi:X.N[i]?=À x)(g:gJ ßa x)(O:PE X e o)(P:LW X n q)(K:Î ϧa q7) :PS X (.AugAssign (.Name x f) n e pos) (x2k i o q):=by
 intro j s σ H D I h;let{v,e1,h}:=h;let{m,C,Y}:=Ĩa;let vis:qA ßa x:=by rcases g with k|k;show .inl k;show .inr ϫf
 let{u,r,l}:=Y i x v hi e1 vis;show wpAny_AugAssign_Name ?_
 let p:Ý Ą X.A ϲd (λw Q=>Ý Ą X.A (Ýe n u w) (λr L=>Ý Ą X.A (storeName Ø x r) (λ_=>SP X j D .next) Ĳ L) Ĳ Q) Ĳ s:=by
  show zy (O j s σ H _ I h) λw J b=>?_
  let{y,E,F,W,q1}:=b;show zy (P j J σ E v y u w _ F r W q1) λz s2 b=>?_
  let{zv,S,R,U,T}:=b;show S5 R G hi g U (λs3 t=>{_,S,t,T}) K
 rcases l with⟨a,Z⟩|⟨a,c,B,d⟩;show Ġl Ąb a C Z p;rcases a with a|a;show ņl Ąb a B d p;rcases g with k|k;rw[Ŷp];rw[Ŷp]
nonrec def fm(f:Æ->Æ->Æ):JQ:=λx y H Q=>∃i j,x=.int i/\y=.int j/\Q (Δ (f i j)) H
def fq:LW X .Add ľm:=by intro d s σ H x y v u Q I b a h;let{i,j,e1,e2,q}:=h;subst e1;subst e2;let{t,rfl}:=b;let{c,rfl}:=a;show iadd_int {.int _,H,Ëa _,{_,rfl},q}
#print a
section
variable{X:Cx}{pos:Pos}
nonrec def x3d(c:TT)(d:TS):TS:=λD σ H=>∃W:Â->St->Hp->È,(∃m,W m σ H)/\∀m σ H,W m σ H->
 c σ H λb a=>if b=Ã then ∃N:St->Hp->È,(∀σ' H',N σ' H'->∃m',m'<m/\W m' σ' H')/\d { D with nx:=N,ct:=N,bk:=ůa } σ a else ůa σ a
def y7q{c:Õ}{a:Á Ú}{B:TT}{x:TS}(r:Ċd Ą X.A Ø Ĳ)(C:PT X c B)(G:tK X a x):PS X (.While c a [] pos) (x3d B x):=by
 intro l s σ H D I h;let{W,{P,J},e}:=h;show wpAny_While (codeAny_whileLoop (λn L=>∃σ' H',zI X l σ' H' L/\W n σ' H') ?_ P {σ,H,I,J});rintro n F ⟨σ1,t,E,O⟩;show ġc r (zy (C l F σ1 t _ E (e n σ1 t O)) λb K m=>?_);let{z,y,g}:=m;cases b with
 |Ã=>
  let{N,u,g}:=g;rw[Ò rfl];show ġc r (zy (G l K σ1 z _ y g) λf Q i=>?_);cases f with
  |next=>let{σ3,d,j,k}:=i;let{o,q,p}:=u σ3 d k;show{o,q,σ3,d,j,p}
  |ĕb=>let{σ3,d,j,k}:=i;let{o,q,p}:=u σ3 d k;show{o,q,σ3,d,j,p}
  |brk=>show i|ret v=>show i
 |Å=>rw[Ó Ŗ];show ϡe {σ1,z,y,g}
#print a
structure It where
 go:Â->Hp->È
 uY:Â->Hp->V->Hp->È
 Ŵ:Â->Hp->È
def gI(X:Cx)(a:Á ð)(H:Hp)(b:Ì):È:=
 H b=Ä/\b≠Ϯ/\b ∉ Ŋa/\Åf/\(∀x c,Ęa x=À c->c≠b)/\∀p∈ϣb++a,p.1≠b
def zI.Zy{X:Cx}{d:Á ð}{σ:St}{H H':Hp}{s:Ï}{b:Ì}(I:zI X d σ H s)(a:ß<=b)(g:H' b=Ä):gI X d H' b:=by show{g,Ϲa (Ũ I.lt a),I.aD a,.inr (İ I.sz a),λx c e z=>?_,λp f z=>?_};let{v,q}:=Ła x c e;show Þ (Ũ q.lt Öm) Êa;show Þ (Ũ (ħ (ňa p f).1) Öm) Êa
structure kF(P:ë)(w:å)(K:Ð)(tg:Õ)(J:It)(fp:Á Ì)(it:Ì)(tn:Â->Heap->È):È where
 mem:it∈fp
 obj:∀i h,tn i h->∀b∈fp,∃o,ĭ b=À o/\∀v,ŀa≠.cell v
 Ėa:∀i h h',tn i h->(∀b∈fp,∀o,ĭ b=À o->ġ b=À o)->tn i h'
 Ϥa:∀(X:Cx),ø=P->X.w=w->X.K=K->Ϗ=Ã->∀(i:Â)(z8:Á ð) (s:Ï) (σ:St) (H:Hp) (E:Value->Ï->È),zI X z8 σ H s->(∀b∈fp,gI X z8 H b)->tn i á->J.go i H->
  Ý Ĵb X.A Ůo (λr s1=>∃u,r=À u/\
   Ý Ĵb X.A Ům (λ_ s2=>∃x H',zI X z8 σ H' s2/\yB x u/\J.uY i H x H'/\tn ñ s2.heap/\∀b∈fp,H' b=Ä) E s1) E s
 done:∀(X:Cx),ø=P->X.w=w->X.K=K->Ϗ=Ã->∀(i:Â)(z8:Á ð) (s:Ï) (σ:St) (H:Hp) (E:Value->Ï->È),zI X z8 σ H s->(∀b∈fp,gI X z8 H b)->tn i á->íg i H->
  Ý Ĵb X.A Ůo (λr s1=>r=Ä/\zI X z8 σ H s1) E s
 ŕb:∀(A:þ)(i:Â)(s:Ï)(Q:Value->Ï->È)(E:Value->Ï->È),tn i á->Q Ãb s->Ý Ĵb A (Ľe Ãb) Q E s
abbrev TI:=St->Hp->(It->Hp->È)->È
def C8(X:Cx)(d:Á ð)(σ:St)(tg:Õ)(R:It->Hp->È)(a:Value)(c:Ï):È:=
 ∃(it:Ì) (fp:Á Ì) (tn:Â->Heap->È) (J:It) (H':Hp),a=.ref it/\zI X d σ H' c/\kF ø X.w X.K tg J fp it tn/\tn 0 ŵc/\(∀b∈fp,gI X d H' b)/\R J H'
def PI(X:Cx)(tg a:Õ)(b:TI):È:=
 ∀(z8:Á ð) (s:Ï) (σ:St) (H:Hp) (R:It->Hp->È),zI X z8 σ H s->b σ H R->
  Ý Ą X.A ϛn (λv c=>Ý Ą X.A (Ľe v) (C8 X z8 σ tg R) Ĳ c) Ĳ s
def TC{M:Ŋd}{A:þ}{E:Value→Ï→È}{s:Ï}{tg:Õ}{it:Ì}{u:Value}{o:Obj}{n:ϗ}{vs:Ü Value}{Q:īa→Ï→È}(e:ć it=À o)(b:áb=.type n)(c:ŀa=.fields vs)(d:[ţb,ħa,Ńl,Żk,ãm,Äl,ğl].contains n=Å)(a:Q () s):Ý M A Ům Q E s:=by
  unfold ϳe
  cases tg<;>first
    |show ę a
    | (cases u<;>first
        |show ę a
        | (show Ö (Ôo e ?_)
           rw[b,c];exact Ý M A (Αc ([ţb,ħa,Ńl,Żk,ãm,Äl,ğl].contains n&&vs[0]?==À (Ħe _))) Q E s;rw[Ó (by intro h;rw[d,Ëc]at h;cases h)];show ę a))
nonrec def F_(K:Ð)(a:Ì):It:=
 {λi H=>∃xs x,yc K H a xs/\xs[i]?=À x,λi H x b=>b=H/\∀xs,yc K H a xs->xs[i]?=À x,λi H=>∃xs,yc K H a xs/\ä<=i}
nonrec def C0(K:Ð)(a:Ì):It:=
 {λi H=>∃xs x,xF K H a xs/\xs[i]?=À x,λi H x b=>b=H/\∀xs,xF K H a xs->xs[i]?=À x,λi H=>∃xs,xF K H a xs/\ä<=i}
nonrec def LQ(lo:Æ)(n:Â):It:={λi _=>i<n,λi H x a=>a=H/\x=.int ϝa,λi _=>n<=i}
def x6u{P:ë}{w:å}{K:Ð}{tg:Õ}(a it:Ì):kF P w K tg ϔi ϥb it (λi h=>ŷh it a i) where
 mem:=by simp
 obj:=λi h st b f=>by
  let e:b=it:=by simpa using f
  rw[øp]
 Ėa:=λi h j st k=>Ćg λo e=>k it è o e
 Ϥa:=by
  rw[Ţp];let{Q,x,l,q}:=A;let{G,t,p,Y}:=Ϙ l;let{u,R,ru}:=t.get q;let{r,L,Z,F,C,n}:=m it è;refine Úl st żf (x:=u) Ϡl λj g U=>?_
  let S:zI X O σ H { s with ì:=j }:=Ŧa (t':=ĕ) Ńk r L F C n;let{o,e,c,d}:=id g;show{u,rfl,TC (s:={ s with ì:=j }) e c d Í {x,H,S,ru,{rfl,λys hy=>by rw[I.LI hy l];show q},g,λb f=>(m b f).1}}
 done:=by rw[Ţp];let{Q,l,q}:=A;let{G,t,p,Y}:=Ϙ l;let{r,L,Z,F,C,n}:=m it è;let hl:=t.length;show þl (Ģa N) st żf ňm λj T=>{rfl,Ŧa (t':=ĕ) èl r L F C n}
 ŕb:=λ_ _ _ _ _ st h=>wpAny_pyIter_listiter st h
def x6x{P:ë}{w:å}{K:Ð}{tg:Õ}(a it:Ì):kF P w K tg ϖi ϥb it (λi h=>ϱm it a i) where
 mem:=by simp
 obj:=λi h st b f=>by
  let e:b=it:=by simpa using f
  rw[øp]
 Ėa:=λi h l st k=>Ćg λo e=>k it è o e
 Ϥa:=by
  rw[ţp];let{Q,x,m,r}:=B;let{g,y,p,Y}:=ϵ m;let{u,R,ru}:=y.get r;let{t,L,Z,G,F,q}:=n it è;refine wpAny_pyNext_tuple_item st (show ßd a ęi from p) (x:=u) Ϡl λl j U=>?_
  let S:zI X O σ H { s with ì:=l }:=Ŧa (t':=ĕ) Ńk t L G F q;let{o,e,c,d}:=id j;show{u,rfl,TC (s:={ s with ì:=l }) e c d Í {x,H,S,ru,{rfl,λys hy=>by rw[I.FC hy m];show r},j,λb f=>(n b f).1}}
 done:=by rw[ţp];let{Q,m,r}:=B;let{g,y,p,Y}:=ϵ m;let{t,L,Z,G,F,q}:=n it è;let hl:=Ĕd;show wpAny_pyNext_tuple_end (Ģa N) st (show ßd a ęi from p) ňm λl T=>{rfl,Ŧa (t':=ĕ) èl t L G F q}
 ŕb:=λ_ _ _ _ _ st h=>wpAny_pyIter_tupleiter st h
def x6v{P:ë}{w:å}{K:ăf}{tg:Õ}(it:Ì)(lo:Æ)(n:Â):kF P w K tg Íp ϥb it (λi h=>Žn h it (lo+(i:Â)*1) ((n:Æ)-(i:Â)) 1) where
 mem:=by simp
 obj:=λi h st b a=>by
  let e:b=it:=by simpa using a
  subst e
  show{_,st,λv z=>by let N:Data.fields _=Data.cell v:=z;cases N}
 Ėa:=λi h d st k=>k it è _ st
 Ϥa:=by
  rw[ğp];let W:=Walks.range (Ĝ:=ø) (w:=X.w) (Ģa j) it lo 1 n;show Ċj i s _ _ m st λv d B F c C=>?_
  let{t,rfl}:=F;let G:zI X A σ H { s with ì:=d,Ę:=B }:=Ŧa (λb o a e=>C b o ϟl e) u y r q g;refine{_,rfl,TC (s:={ s with ì:=d,Ę:=B }) (n := "range_iterator") c rfl rfl Í {.int ϝa,H,G,{t,?_},{rfl,rfl},c,λb a=>(f b a).1}};rw[Ãe]
 done:=by rw[ğp];show wpAny_pyNext_range_end (Ģa j) st (by let:n<=i:=m;omega) λd J=>{rfl,Ŧa (t':=ĕ) (λb o a e=>J b o a e) u y r q g}
 ŕb:=λ_ _ _ _ _ st h=>wpAny_pyIter_rangeiter st h
section
variable{X:Cx}{tg:Õ}
def z7n(K:Ð)(c:TE):TI:=λσ H R=>c σ H λx b=>∃a,x=.ref a/\(∃xs,yc K b a xs)/\R ϔi b
def z7q(K:Ð)(c:TE):TI:=λσ H R=>c σ H λx b=>∃a,x=.ref a/\(∃xs,xF K b a xs)/\R ϖi b
def y77{l:Õ}{g:TE}(n:PE X l g):PI X tg l (z7n X.K g):=by
 intro j s σ H R I h;show zy (n j s σ H _ I h) λv d f=>?_
 let{x,m,c,k,i}:=f;let{a,e,{y,r},q}:=i;subst e;cases k;let{t,z,p,w}:=c.list r;show Ϫc żf ?_;show{ϐd,[ϐd],_,_,m,rfl,c.kept (t':=d.toks) λb o e=>Į _ e,x6u a _,{_,ž _ rfl,rfl,rfl},λb u=>?_,q};let e:b=ϐd:=by simpa using u
 subst e;show c.Zy Đ (c.zf.fresh Đ)
def y7a{l:Õ}{i:TE}(r:PE X l i):PI X tg l (z7q X.K i):=by
 intro k s σ H R I h;show zy (r k s σ H _ I h) λv c f=>?_
 let{x,n,d,m,j}:=f;let{a,e,{y,t},q}:=j;subst e;cases m;let{g,z,p,w}:=d.tuple t;show űg (show c.heap.IsTuple a ęi from p) ?_;show{ģb,[ģb],_,_,n,rfl,d.kept (t':=Ŵc) λb o e=>Į _ e,x6x a _,{_,ž _ rfl,rfl,rfl},λb u=>?_,q};let e:b=ģb:=by simpa using u
 subst e;show d.Zy Đ Ąm
def y8x{c:Á ð}{σ:St}{H:Hp}{s:Ï}{R:It->Hp->È}{E:Value->Ï->È}{lo hi:Æ}{t u v:Tok}{tk:Â}(I:zI X c σ H s)(d : -ϗi<=lo)(h:lo<2 ^ 62)(f : -ϗi<=hi)(g:hi<2 ^ 62)(q:R (LQ lo (Òg).toNat) H):Ý Ą X.A (Ľe ůb) (C8 X c σ tg R) E { s with ì:=őa { cls:=.type ńb,Ċ:=.fields #[.int lo t,.int hi u,.int 1 v] },Ę:=tk }:=by
 show wpAny_pyIter_range (IsRange.new ..) (small_one d h f g) ?_;let a:zI X c σ H { s with ì:=őa { cls:=.type ńb,Ċ:=.fields #[.int lo t,.int hi u,.int 1 v] },Ę:=tk }:=Źc λb o e=>Į _ e
 refine⟨(ġg).objs.size,[(ġg).objs.size],_,_,H,rfl,
  a.kept (t':=tk) λb o e=>Į _ e,x6v _ lo (Òg).toNat,?_,λb i=>?_,q⟩
 let e1:lo+((0:Â):Æ)*1=lo:=by simp
 let e2:(((Òg).toNat:Â):Æ)-((0:Â):Æ)=Builtin.Range.rangeSize lo hi 1:=by rw[rangeSize_one];rw[īp]
 exact Žn _ _ (lo+((0:Â):Æ)*1) ((((Òg).toNat:Â):Æ)-((0:Â):Æ)) 1;rw[e1,e2];show ž _ rfl;let e:b=(ġg).objs.size:=by simpa using i
 subst e;show a.Zy Đ (a.zf.fresh Đ)
def z7o(a:TA):TI:=λσ H R=>a σ H λb c=>∃j:Æ,b=[.int j] /\ -ϗi<=j/\j<2 ^ 62/\R (LQ 0 Ϸf) c
def y78{a:Õ}{d:TA}{p pos:Pos}(k:Gl X ńb)(o:ó ńb=Ä)(m:PA X [a] d)(f:Î őg q12):PI X tg Ől (z7o d):=by
 intro i s σ H R I h;show Call_ (VQ I k o boot_range (ϋe (zy (m pos i s σ H _ I h) λx v b=>?_) f rfl));let{w,u,n,l,c}:=b;let{j,e,c,g,q}:=c;subst e;cases l with
 |ï r rr=>cases rr;let{t,rfl}:=r;show call_range_1 (y8x n É É c g (by simpa using q))
nonrec def x2p(b:TI)(g:TG)(c:TS):TS:=λD σ H=>b σ H λJ d=>∃W:Â->Â->St->Hp->È,(∃m,W 0 m σ d)/\∀i m σ H,W i m σ H->
 (íg i H/\ůa σ H)\/(J.go i H/\∃N:St->Hp->È,(∀σ' H',N σ' H'->∃m',m'<m/\W ñ m' σ' H')/\∀x H',J.uY i H x H'->g x σ H' λσ2 a=>c { D with nx:=N,ct:=N,bk:=ůa } σ2 a)
nonrec def Ip(a:Á Ì)(h:Heap):Á ð:=a.filterMap λb=>(ĭ b).map λo=>(b,o)
def B3{a:Á Ì}{h:Heap}{b:Ì}{o:Obj}(c:b∈a)(e:ĭ b=À o):(b,o)∈Ip a h:=List.mem_filterMap.mpr {b,c,by rw[e];rfl}
def y2p{a:Á Ì}{h:Heap}{p:Ì×Obj}(d:p∈Ip a h):p.1∈a/\ĭ p.1=À p.2:=by
 let{b,c,e}:=List.mem_filterMap.mp d;cases q:ĭ b with
 |Ä=>rw[q]at e;cases e|À o=>rw[q]at e;let f:(b,o)=p:=úa e;subst f;show{c,q}
def zI.pinned{c:Á ð}{σ:St}{H:Hp}{s:Ï}{a:Á Ì}(I:zI X c σ H s)(j:∀b∈a,gI X c H b)(k:∀b∈a,∃o,ć b=À o/\∀v,ŀa≠.cell v):zI X (c++Ip a á) σ H s:=
 I.Qp λp h=>(Þa h).elim (λz=>ňa p (Űa _ z)) λz=>by let{g,e}:=y2p z;let{l,m,i,_}:=j p.1 g;let{o,f,d}:=k p.1 g;rw[e]at f;cases f;show{e,l,m,i,d}
def zI.FD{a pl:Á ð}{σ:St}{H:Hp}{s:Ï}(I:zI X (a++pl) σ H s):zI X a σ H s:=I.Qp λp b=>ňa p (Űa _ (ϴc _ b))
def NA{p:Õ}{y:Á Ú}{wi:TI}{g:TG}{tb:TS}{pos:Pos}(L:Ċd Ą X.A Ø Ĳ)(hc:Ϗ=Ã)(hi:PI X tg p wi)(hg:PG X tg g)(j:tK X y tb)(hs:Î (∀x,ðb p Ø x=pure x) q11):PS X (.For tg p y [] pos) (x2p wi g tb):=by
 intro z s σ H D I h;show wpAny_For (zy (hi z s σ H _ I h) λv s1 h1=>zy h1 λitv s2 h2=>?_) hs;let{it,O,tn,J,H2,e,I2,T,Y,f2,W,{m0,w0},G}:=h2;subst e;let q:∀{H':Hp},(∀b∈O,H' b=Ä)->∀b∈O,gI X z H' b:=λhn b j=>{hn b j,(f2 b j).2}
 show codeAny_forLoop_any (λn s'=>∃i σ' H',zI X z σ' H' s'/\tn i ŧc/\(∀b∈O,H' b=Ä)/\W i n σ' H') ?_ m0 {0,σ,H2,I2,Y,λb j=>(f2 b j).1,w0};rintro n s3 ⟨i,σ3,Q,I3,F,C,w3⟩;rcases G i n σ3 Q w3 with⟨K,qn⟩|⟨go,N,hN,E⟩;show ġc L (Ωe (T.done X rfl rfl rfl hc i z s3 σ3 Q Ĳ I3 (q C) F K));let{Z,I4}:=a;subst Z;show ϡe {σ3,Q,I4,qn}
 .show ġc L (Ωe (T.item X rfl rfl rfl hc i z s3 σ3 Q Ĳ I3 (q C) F go));let{u,Z,h4}:=a;subst Z;show ġc L (zy h4 λ_ s5 a=>?_);let{x,H5,I5,r5,y5,B,U}:=a;let R:=I5.pinned (q U) (Śe _ _ B);show ġc L (zy (hg _ s5 σ3 H5 x u _ R r5 (E x H5 y5)) λ_ s6 a=>?_);let{σ6,H6,I6,q6}:=a;show ġc L (zy (j _ s6 σ6 H6 _ I6 q6) λf S t=>?_)
  let l:∀{σ7:St}{k:Hp},zI X (z++Ip O s5.heap) σ7 k S->N σ7 k->∃m,m<n/\∃i σ' H',zI X z σ' H' S/\tn i S.heap/\(∀b∈O,H' b=Ä)/\W i m σ' H':=λ{σ7 k} c P=>by let{m',hm,w7}:=hN σ7 k P;show{m',hm,i+1,σ7,k,c.FD,Ńe _ _ _ B λb j o e=>ák.1,λb j=>?_,w7};let{o,e,d}:=Śe _ _ B b j;show ák.2.1
  cases f with
  |next=>let{σ7,k,c,P}:=t;show l c P
  |ĕb=>let{σ7,k,c,P}:=t;show l c P
  |brk=>let{σ7,k,c,t}:=t;show{σ7,k,c.FD,t}
  |ret v=>let{x7,σ7,k,c,r7,t}:=t;show{x7,σ7,k,c.FD,r7,t}
#print a
abbrev R2:=V->V->Hp->VK->È
def xB(X:Cx)(f:Value->Value->Sem Value)(r:R2):È:=
 ∀(z8:Á ð) (s:Ï) (σ:St) (H:Hp) (x y:V) (v u:Value) (Q:VK),zI X z8 σ H s->yB x v->yB y u->r x y H Q->
  Ý Ą X.A êj ĩb Ĳ s
def JS(X:Cx)(f:Value->Sem Value)(r:V->Hp->VK->È):È:=
 ∀(z8:Á ð) (s:Ï) (σ:St) (H:Hp) (x:V) (v:Value) (Q:VK),zI X z8 σ H s->yB x v->r x H Q->
  Ý Ą X.A (f v) ĩb Ĳ s
def vn(X:Cx)(f:Value)(r:Á V->Hp->VK->È):È:=
 ∀(z8:Á ð) (s:Ï) (σ:St) (H:Hp) (xs:Á V) (us:Á Value) (Q:VK),zI X z8 σ H s->zo xs us->r xs H Q->
  Ý Ą X.A (ŉa f us) ĩb Ĳ s
nonrec def Bw(r:R2)(b d:TE):TE:=λσ H Q=>b σ H λx a=>d σ a λy c=>r x y c Q
nonrec def x3c(r:V->Hp->VK->È)(a:TE):TE:=λσ H Q=>a σ H λx b=>r x b Q
nonrec def rI(C:Æ->Æ->È)(g:Æ->Æ->V):R2:=λx y H Q=>∃i j,x=.int i/\y=.int j/\C i j/\Q ύa H
nonrec def pM(g:Æ->Æ->V):R2:=λx y H Q=>∃i j,x=.int i/\y=.int j/\Q ύa H
def rU(g:Æ->V):V->Hp->VK->È:=λx H Q=>∃i,x=.int i/\Q Še H
section
variable{X:Cx}{a b c:Õ}{ta tb:TE}{pos:Pos}
def Eg(k:PE X a ta)(o:PE X b tb){d:Á ð}{s:Ï}{σ:St}{H:Hp}{R:V->V->Hp->È}(I:zI X d σ H s)(h:ta σ H λx H1=>tb σ H1 λy H2=>R x y H2){Q:Value->Ï->È}{f:Value->Value->Sem Value}(n:∀v u s2 x y H2,zI X d σ H2 s2->yB x v->yB y u->R x y H2->Ý Ą X.A êj Q Ĳ s2) :Ý Ą X.A ϛn (λv s₁=>Ý Ą X.A (ď b Ø) (λu s₂=>Ý Ą X.A êj Q Ĳ s₂) Ĳ s₁) Ĳ s:=by
 show zy (k d s σ H _ I h) λv m c=>?_
 let{x,H1,l,j,p}:=c;show zy (o d m σ H1 _ l p) λu s2 c=>?_
 let{y,H2,e,i,g}:=c;show n v u s2 x y H2 e j i g
def N7{c:Ĉe}{r:R2}(m:xB X (ża c) r)(j:PE X a ta)(l:PE X b tb):PE X (.BinOp a c b pos) ēf:=by rw[űp];show wpAny_BinOp (Eg j l I h λv u d x y f e g k q=>m i d σ f x y v u Q e g k q)
def y6w{d:UnaryOp}{r:V->Hp->VK->È}(k:JS X (ϰf d) r)(j:PE X a ta):PE X (.UnaryOp d a pos) (x3c r ta):=by intro c s σ H Q I h;show UnaryOp_ (zy (j c s σ H _ I h) λv f b=>?_);let{x,l,e,i,g}:=b;show k c f σ l x v Q e i g
def Tc{f:Value->Value->Sem Value}{C:Æ->Æ->È}{g:Æ->Æ->Æ}(a:∀(i j:Æ)(t u:Tok)(s:Ï)(Q:Value->Ï->È)(E:Value->Ï->È),C i j->Q Ϡm { s with Ę:=ĕ+1 }->Ý Ą X.A ůg Q E s) :xB X f íl:=by intro k s σ H x y v u Q I d e h;let{i,j,rfl,rfl,b,q}:=h;rw[Žp];let{c,rfl}:=e;show a i j t c s _ _ b {.int ύa,H,Ëa _,{_,rfl},q}
def Ik{f:Value->Value->Sem Value}{g:Æ->Æ->Æ}(a:∀(i j:Æ)(t u:Tok)(s:Ï)(Q:Value->Ï->È)(E:Value->Ï->È),Q Ϡm { s with Ę:=ĕ+1 }->Ý Ą X.A ůg Q E s) :xB X f ϋo:=by rw[ēp];show a i j t b s _ _ {.int ύa,H,Ëa _,{_,rfl},q}
def BB{f:Value->Value->Sem Value}{g:Æ->Æ->Ñ}(a:∀(i j:Æ)(t u:Tok)(s:Ï)(Q:Value->Ï->È)(E:Value->Ï->È),Q (.bool ύa) s->Ý Ą X.A ůg Q E s) :xB X f Şl:=by rw[ēp];show a i j t b s _ _ {.bl ύa,H,I,rfl,q}
def FH(i j:Æ):È:=0<=j/\j<=1000000/\Ŝc<2 ^ 64
def Qt(i j:Æ):È:=(-Ϣf<i/\i<2 ^ 64)\/(-Ϣf<j/\j<2 ^ 64)
def Qt.ok{i j:Æ}(h:Qt i j):IntMulOk i j:=by rcases h with⟨b,a⟩|⟨b,a⟩;show .of_left Šl;show .of_right Šl
def x7w(k:Â):(0:Æ)<=2 ^ k:=by rw[two_pow_cast];show Ěc _
def y5m:xB X ād (Κa (i+j)):=Ik λ_ _ _ _ _ _ _ q=>Èa q
def Xy:xB X (ża .Sub) ϙn:=Ik λ_ _ _ _ _ _ _ q=>sub_int q
def qi:xB X Ĝf ŭg:=Tc λ_ _ _ _ _ _ _ a q=>mul_int q a.ok
def xX:xB X (ża .Mod) Ϯk:=Tc λi j _ _ _ _ _ a q=>by let b:(0:Æ)<j:=a;show mod_int' É (by rw[Int.fmod_eq_emod_of_nonneg i É];show q)
def Ye:xB X (ża .LShift) ąk:=Tc λ_ _ _ _ _ _ _ a q=>lshift_int_small a.1 a.2.1 a.2.2 q
def lH:xB X (ża .RShift) þk:=Tc λi j _ _ _ _ _ a q=>
 rshift_int a (by rw[żk i (x7w _)];show q)
def Ky:xB X (ża .BitAnd) (Κa (Ġb i j)):=Ik λ_ _ _ _ _ _ _ q=>and_int q
def lG:xB X (ża .BitOr) (Κa (ļc i j)):=Ik λ_ _ _ _ _ _ _ q=>or_int q
def y61:xB X (ża .BitXor) (Κa (Ħh i j)):=Ik λ_ _ _ _ _ _ _ q=>xor_int q
def rM{f:Value->Sem Value}{g:Æ->Æ}(a:∀(i:Æ)(t:Tok)(s:Ï)(Q:Value->Ï->È)(E:Value->Ï->È),Q (.int Še ĕ) { s with Ę:=ĕ+1 }->Ý Ą X.A (f Ŋf) Q E s) :JS X f (Χc Še):=by intro c s σ H x v Q I b h;let{i,rfl,q}:=h;let{t,rfl}:=b;show a i t s _ _ {.int Še,H,Ëa _,{_,rfl},q}
def OP:JS X (ϰf .USub) (Χc (-i)):=rM λ_ _ _ _ _ q=>neg_int q
def x89:JS X (ϰf .Invert) (Χc Ëj):=rM λ_ _ _ _ _ q=>invert_int q
def y5n:xB X ād (λx y H Q=>∃i k,x=.int i/\y=.bl k/\Q įm H):=by rw[łp];let{i,k,rfl,rfl,q}:=h;let{t,rfl}:=a;cases b;show add_int_bool {.int (i+b2i k),H,Ëa _,{_,rfl},q}
#print a
nonrec def Rh:V->V->Ñ
 |.zC,.zC=>Ã|.zC,.int _=>Ã|.int _,.zC=>Ã|.zC,.bl _=>Ã|.bl _,.zC=>Ã|.zC,.str _=>Ã|.str _,.zC=>Ã|.int _,.int _=>Ã|.bl _,.bl _=>Ã|.str _,.str _=>Ã|.byt _,.byt _=>Ã|.int _,.str _=>Ã|.str _,.int _=>Ã|.bl _,.str _=>Ã|.str _,.bl _=>Ã|_,_=>Å
def y8k:R2:=λx y H Q=>Rh x y=Ã/\Q (Ωa (x=y)) H
def y8p:R2:=λx y H Q=>Rh x y=Ã/\Q (.bl (!decide (x=y))) H
def Ex{i j:Æ}:decide (όc i=όc j)=Ŏe:=by rw[Éc];simp
def Ew{i j:Ñ}:decide (V.bl i=V.bl j)=Ŏe:=by rw[Éc];simp
def Ey{i j:Ç}:decide (V.str i=V.str j)=Ŏe:=by rw[Éc];simp
def dh{i j:Ü UInt8}:decide (V.byt i=V.byt j)=(i.toList==j.toList):=by rw[Éc];cases i;cases j;simp
section
variable{X:Cx}{a b c:Õ}{ta tb:TE}{pos:Pos}
def we{b:Á ð}{σ:St}{H:Hp}{s:Ï}{Q:VK}{k a:Ñ}(I:zI X b σ H s)(q:Q ĵe H)(e:k=a):EP X b σ Q (.bool a) s:=by subst e;show{.bl k,H,I,rfl,q}
def y5q:xB X ϑo y8k:=by
 rw[źp];cases x with
 |zC=>
  cases d;cases y with
  |zC=>cases a;show PySem.EqNone.eq_none_none Âa|bl j=>cases a;show PySem.EqNone.eq_none_bool Âa|int j=>let{b,rfl}:=a;show PySem.EqNone.eq_none_int Âa
  |str j=>let{b,rfl}:=a;show PySem.EqNone.eq_none_str Âa
  |_=>show Þ (show Å=Ã from c) Ŗ
 |bl i=>
  cases d;cases y with
  |zC=>cases a;show PySem.EqNone.eq_bool_none Âa|bl j=>cases a;show eq_bool (we I q Ew)|str j=>let{b,rfl}:=a;show PySem.EqMixed.eq_bool_str Âa
  |_=>show Þ (show Å=Ã from c) Ŗ
 |int i=>
  rw[Žp];cases y with
  |zC=>cases a;show PySem.EqNone.eq_int_none Âa|int j=>let{b,rfl}:=a;show ōb (we I q Ex)
  |str j=>let{b,rfl}:=a;show PySem.EqMixed.eq_int_str Âa
  |_=>show Þ (show Å=Ã from c) Ŗ
 |str i=>
  rw[Žp];cases y with
  |zC=>cases a;show PySem.EqNone.eq_str_none Âa|bl j=>cases a;show PySem.EqMixed.eq_str_bool Âa|int j=>let{b,rfl}:=a;show PySem.EqMixed.eq_str_int Âa
  |str j=>let{b,rfl}:=a;show eq_str (we I q Ey)
  |_=>show Þ (show Å=Ã from c) Ŗ
 |byt i=>
  rw[Žp];cases y with
  |byt j=>let{b,rfl}:=a;show W.eq_bytes (we I q dh)
  |_=>show Þ (show Å=Ã from c) Ŗ
 |_=>cases y<;>show Þ (show Å=Ã from c) Ŗ
def y5w:xB X Ėn y8p:=by
 rw[źp];cases x with
 |zC=>
  cases d;cases y with
  |zC=>cases a;show PySem.EqNone.ne_none_none Âa|bl j=>cases a;show PySem.EqNone.ne_none_bool Âa|int j=>let{b,rfl}:=a;show PySem.EqNone.ne_none_int Âa
  |str j=>let{b,rfl}:=a;show PySem.EqNone.ne_none_str Âa
  |_=>show Þ (show Å=Ã from c) Ŗ
 |bl i=>
  cases d;cases y with
  |zC=>cases a;show PySem.EqNone.ne_bool_none Âa|bl j=>cases a;show ne_bool (we I q (Ÿ not Ew))|str j=>let{b,rfl}:=a;show PySem.EqMixed.ne_bool_str Âa
  |_=>show Þ (show Å=Ã from c) Ŗ
 |int i=>
  rw[Žp];cases y with
  |zC=>cases a;show PySem.EqNone.ne_int_none Âa|int j=>let{b,rfl}:=a;show ne_int (we I q (Ÿ not Ex))
  |str j=>let{b,rfl}:=a;show PySem.EqMixed.ne_int_str Âa
  |_=>show Þ (show Å=Ã from c) Ŗ
 |str i=>
  rw[Žp];cases y with
  |zC=>cases a;show PySem.EqNone.ne_str_none Âa|bl j=>cases a;show PySem.EqMixed.ne_str_bool Âa|int j=>let{b,rfl}:=a;show PySem.EqMixed.ne_str_int Âa
  |str j=>let{b,rfl}:=a;show ne_str (we I q (Ÿ not Ey))
  |_=>show Þ (show Å=Ã from c) Ŗ
 |byt i=>
  rw[Žp];cases y with
  |byt j=>let{b,rfl}:=a;show W.ne_bytes (we I q (Ÿ not dh))
  |_=>show Þ (show Å=Ã from c) Ŗ
 |_=>cases y<;>show Þ (show Å=Ã from c) Ŗ
def Vc:xB X (üa .Lt) (Θb (i<j)):=BB λ_ _ _ _ _ _ _ q=>lt_int q
def K_:xB X (üa .LtE) (Θb (i<=j)):=BB λ_ _ _ _ _ _ _ q=>le_int q
def y5r:xB X (üa .Gt) (Θb (j<i)):=BB λ_ _ _ _ _ _ _ q=>gt_int q
def Il:xB X (üa .GtE) (Θb (j<=i)):=BB λ_ _ _ _ _ _ _ q=>ge_int q
def y5u:xB X ée (Θd Ŭk):=by rw[Ĕp];show in_str (we I q rfl)
def Vb:xB X (üa .Is) Ŗl:=by
 rw[łp];let{rfl,q}:=h;cases b;show is_none_gen ϰn
 cases x<;>first
  |(cases a;rfl)
  |(let{t,rfl}:=a;rfl)
def BC:xB X (üa .IsNot) Ōk:=by
 rw[łp];let{rfl,q}:=h;cases b;show isnot_none_gen ϰn
 cases x<;>first
  |(cases a;rfl)
  |(let{t,rfl}:=a;rfl)
def xB.or{f:Value->Value->Sem Value}{r d:R2}(h:xB X f r)(h':xB X f d):xB X f (λx y H Q=>r x y H Q\/d x y H Q):=by intro c s σ H x y v u Q I b a q;rcases q with q|q;show h c s σ H x y v u Q I b a q;show h' c s σ H x y v u Q I b a q
def yG(b:Õ){a:Ŝe}(h:Î (a≠.In) q10)(c:Î (a≠.NotIn) q10):šb a b=Å:=by
 let e1:(a==CmpOp.In)=Å:=by cases a<;>first|rfl|show Þ rfl h
 let e2:(a==CmpOp.NotIn)=Å:=by cases a<;>first|rfl|show Þ rfl c
 cases b<;>simp[šb,e1,e2]
theorem lR{c:Ŝe}{r:R2}(n:xB X (üa c) r)(k:PE X a ta)(m:PE X b tb)(g:šb c b=Å):PE X (.Compare a [c] [b] pos) ēf:=by rw[Űp];show wpAny_Compare1 (Eg k m I h λv u d x y f e i l q=>n j d σ f x y v u Q e i l q) g
nonrec def x3a(t:TE):TT:=λσ H Q=>t σ H λx a=>∃k,x=.bl k/\Q k a
def NC{i:Ŝe}{r:R2}(t:xB X (üa i) r)(K:PE X a ta)(q:PE X b tb)(L:šb i b=Å):PT X (.Compare a [i] [b] pos) (x3a ēf):=by
 rw[ųp];show wpAny_isTrue_Compare1 (zy (K d s σ H _ I h) λv p f=>?_) L;let{x,n,o,J,N}:=f;show zy (q d p σ n _ o N) λu w j=>?_
 let{y,B,A,G,C}:=j;show zy (t d w σ B x y v u _ A J G C) λc O g=>?_
 let{z,m,l,F,k,e,E}:=g;subst e;cases F;show ϩc {m,l,E}
def TW:(ã:Â)<2 ^ 63:=by rw[Ś];decide
def y5o:xB X ād (λx y H Q=>∃i j,x=.str i/\y=.str j/\όa+Ôa<=ã/\Q ûn H):=by intro e s σ H x y v u Q I c d h;let{i,j,rfl,rfl,a,q}:=h;let{t,rfl}:=c;let{b,rfl}:=d;show Ϻf (λb f=>{.str (i++j),H,Ëa _,{_,rfl},q}) a
def qK{x:V}{us:Á Value}(r:zo [x] us):∃u,us=[u]/\yB x u:=by
 cases r with
 |ï r1 r2=>cases r2;show{_,rfl,r1}
def Sd{x y:V}{us:Á Value}(r:zo ãb us):∃u w',us=[u,w']/\yB x u/\yB y w':=by
 cases r with
 |ï r1 r2=>
  cases r2 with
  |ï r3 r4=>cases r4;show{_,_,rfl,r1,r3}
#print a
structure Wx(h:Heap)(x dx C:Ì)(mA:Ç->Ê Value):È where
 obj:ĭ x=À ëo
 ns:Ċg dx mA
 ne:dx≠x
def z9k{h:Heap}{f:Ì}{d:Ç->Ê Value}(n:Ċg f d):∃od,ĭ f=À od/\∀ŀ,Ϗf ŀ od=À (d ŀ):=by
 let{o,c,p,l,g,m,_,i}:=n;show{o,l,λname=>?_};let e:=i ŀ;unfold nsFind findBy at e;rw[<-Array.find?_toList]at e;unfold Ϗf;rw[g];dsimp only
 split;rename_i y q;rw[q]at e;show Ÿ À e;rename_i q;rw[q]at e
 let a:Ąn (·.refKey)=Å:=by rw[Ïh];intro y k;let{z,t,b}:=m y (Array.mem_toList_iff.mp k);simp[DictEntry.refKey,b]
 let j:¬ Ąn (·.refKey)=Ã:=by rw[a];show Ŗ
 rw[Ó j];show Ÿ À e
def Wx.look{h:Heap}{x a C:Ì}{b:Ç->Ê Value}(I:Wx h x a C b):∃od,W.InstAt h x (Êf C a) C (À od)/\∀ŀ,Ϗf ŀ od=À (b ŀ):=
 let ⟨od,ho,hl⟩:=z9k I.ns
 {od,{I.obj,rfl,rfl,ho},hl}
section
variable{Ĝ:ë}{w:å}{A:þ}{E:Value->Ï->È}{s:Ï}{K:Ð}{x dx C f:Ì}{mA:Ç->Ê Value}{ŀ:Ç}{v:Value}
def z4y{a:Ñ}{Q:Value->Ï->È}(X:ř á)(I:Wx á x dx C mA)(d:Ïe K C ŀ=Ã)(c:ĕf K C=Ã)(e:Ča K ļ ŀ=À Ä)(hv:mA ŀ=À v)(b:âo v=Ã)(h:Q v { s with Ę:=ĕ+1 }) :Ý í A (ϯi ŗc ŀ a) Q E s:=by let{g,J,f}:=Đj;show W.get_value X J (ňh d).1 (W.findObj_own c e rfl (by rw[f,hv])) b h
def z4z{pl:Sem Ñ}{Q:Value×Á Value->Ï->È}(X:ř á)(I:Wx á x dx C mA)(a:Ïe K C ŀ=Ã)(d:Ča K ļ ŀ=À Ťa)(b:Ŷc K Ĵ=Ã)(hv:mA ŀ=Ä)(h:Q (.ref f,[.ref x]) s) :Ý í A (Őo ŗc ŀ pl) Q E s:=by let{c,J,e}:=Đj;show W.method_fn X J (ňh a).1 (ňh a).2 d (Óf b) (by exact(Ϗf ŀ c).map (·.isSome)=À Å;rw[e,hv];rfl) h
def x18{ns:Á Ç}{Q:īa->Ï->È}(X:ř á)(I:Wx á x dx C mA)(m:Ča K ļ ŀh=À Ŀg)(k:Ϩh K C=Ã)(o:ġi K C ŀ=À Ä)(n:ĕf K C=Ã)(t:Żh mA ns)(hsz:ϰ<=ã)(h:∀h',Wx h' x dx C (λy=>if y=ŀ then À v else mA y)->öb dx á h'->Q () { s with ì:=h',Ę:=ĕ+2 }) :Ý í A (setAttr ŗc ŀ v) Q E s:=by
 let{F,J,z}:=Đj;show W.set_plain X J m (W.osa_open (s:={ s with Ę:=ĕ+1 }) (r:=Ä) X J k o λb=>?_);let{u,j,g}:=W.any_some n;let l:ć x=À {.ref C,À dx,.plain,#[]}:=I.obj;show Ö (Μa (Ö (wpAny_loadPart l (Ö (W.Looks.here (s:={ s with Ę:=ĕ+1 }) (W.looks_clsIn X j) ?_)))));rw[g];show ę (a:=À dx) (Ö īh);show wpAny_nsSet1 (s:={ s with Ę:=ĕ+1 }) I.ns λh' d c=>?_
 let{B,q,p,e,f,i}:=d.count (PySem.Within.cons ŀ v t);refine Ö (wpAny_lookBehind e (by rw[f];show pastItsLine_dict (İ i (by rw[Ě];omega))) ?_);show ę (h _ {(c.2 _ (ľb I.ne)).trans I.obj,d,I.ne} c)
def iO{R:ŷc->Ï->È}{vs:Á Value}{b:Á įb}(X:ř á)(e:ĉd K C=Ã)(hi:Ča K ļ ýa=À Ťa)(c:W.typeIn K Ĵ=À (.type "function"))(h:Òb í (A.under (.builtin Ēm {.ref C::vs,b})) (.call Ĵ {.ref ϳ::vs,b}) (W.InitBack ϳ R)
   { s with ì:=(Ëd).push ěf }) :
  Òb í A (.call ļ {vs,b}) R s:=by
 let{j,g,d,t,i}:=s;show W.make_core (W.makes_of X e) (W.looks_findIn X hi) (λa=>W.bind_fn X a c) ł h
#print a
nonrec def Ĕb(f:Ç)(v:V):Á ŀb->Á ŀb
 | []=>[(f,v)]|(g,x)::r=>if g=f then(g,v)::r else(g,x)::Ĕb f v r
theorem iI(f g:Ç)(v:V):∀fs:Á ŀb,(þf).lookup g=if g=f then À v else Öc g
 | []=>by exact Ņc g [(f,v)]=_;by_cases h:g=f;let a:(g==f)=Ã:=ķc h;simp only[Ņc,a,Ò h];let a:(g==f)=Å:=ϯb h;simp only[Ņc,a,Ó h]|(k,x)::r=>by let b:=iI f g v r;rw[show Ĕb f v ĉi=ĳg from rfl];by_cases hk:k=f;rw[Ò hk];by_cases h:g=k;let a:üg=Ã:=ķc h;simp only[Ņc,a,Ò (ğe hk)];let a:üg=Å:=ϯb h;simp only[Ņc,a,Ó (λe:g=f=>h (Ņb hk.symm))];rw[Ó hk];by_cases h:g=k;let a:üg=Ã:=ķc h;simp only[Ņc,a,Ó (λe:g=f=>hk (h.symm.trans e))];let a:üg=Å:=ϯb h;simp only[Ņc,a];show b
theorem K8(f:Ç)(v:V):∀fs:Á ŀb,f∈(þf).map (·.1)/\∀g,g∈ţc (·.1)->g∈(þf).map (·.1)
 | []=>{by simp[Ĕb],λg h=>by simp at h}|(k,x)::r=>by let{b,a}:=K8 f v r;rw[show Ĕb f v ĉi=ĳg from rfl];by_cases hk:k=f;rw[Ò hk];subst hk;show{by simp,λg h=>by simpa using h};rw[Ó hk];show{?_,λg h=>?_};rw[ŭ];show Üa _ b;rw[ŭ]at h ⊢;rcases Ň h with e|e;show List.mem_cons.mpr Ϟi;show Üa _ (a g e)
theorem iE(f:Ç)(v:V):∀fs:Á ŀb,(þf).length<=ša+1
 | []=>by simp[Ĕb]|(k,x)::r=>by let a:=iE f v r;rw[show Ĕb f v ĉi=ĳg from rfl];by_cases hk:k=f;rw[Ò hk,Ě,Ě];omega;rw[Ó hk,Ě,Ě];omega
def Íe{v:V}{o:Ê Value}(r:ur ź o):∃u,o=À u/\yB v u:=by
 cases o with
 |Ä=>show(show î from r).elim|À u=>show{u,rfl,r}
def Õo{o:Ê Value}(r:ur Ä o):o=Ä:=by
 cases o with
 |Ä=>rfl|À u=>show(show î from r).elim
def z7c{v:V}{u:Value}(r:yB v u):âo u=Ã:=by
 cases v with
 |zC=>cases(show u=Ýd from r);rfl|bl b=>cases(show u=Ĺf b from r);rfl|int i=>let{t,e}:=(show ∃t,u=æc i t from r);cases e;rfl
 |str x=>let{t,e}:=(show ∃t,u=åc x t from r);cases e;rfl
 |byt b=>let{t,e}:=(show ∃t,u=ųn b t from r);cases e;rfl
 |Wb b=>let{t,e}:=(show ∃t,u=ϫh b t from r);cases e;rfl
 |ref a=>cases(show u=ċ a from r);rfl|ty n=>cases(show u=ßi n from r);rfl
section
variable{P:ë}{w:å}{H:Hp}{h:Heap}{a C dx:Ì}{fs:Á ŀb}
def Ml(g:wK P w H h)(e:H a=À ôb):∃mA,Wx h a dx C mA/\(∀f,ur Çj ģj)/\Żh mA (ţc (·.1))/\ša<=1000/\H dx=À Ėe:=by let{d,z,c,b,mA,n,r,q}:=(show xV P w H h a ôb from g a _ e);show{mA,{b,n,c},r,q,z,d}
#print a
structure qT(K:Ð)(C:Ì):È where
 pg:Ïe K C ŗo=Ã
 hd:ĕf K C=Ã
 po:Ϩh K C=Ã
 sa:Ča K ļ ŀh=À Ŀg
def qT.get{K:Ð}{C:Ì}(c:qT K C)(f:Ç):Ïe K C f=Ã:=c.pg
def XV(K:Ð)(C:Ì)(f:Ç):È:=Ča K ļ f=À Ä
def XV.z13{K:Ð}{C:Ì}{f:Ç}(n:XV K C f):ġi K C f=À Ä:=by unfold ġi;rw[show Ča K ļ f=À Ä from n];rfl
structure C6(K:Ð)(C:Ì)(m:Ç)(f:Ì):È where
 at_:Ča K ļ m=À Ťa
 fn:Ŷc K Ĵ=Ã
 kp:Õa K Ĵ=Ã
section
variable{X:Cx}{z8:Á ð}{σ:St}{H:Hp}{s:Ï}{a C dx:Ì}{fs:Á ŀb}{f:Ç}{v:V}{A:þ}{E:Value->Ï->È}
def fE{b:Ñ}{Q:Value->Ï->È}(I:zI X z8 σ H s)(e:H a=À ôb)(c:qT X.K C)(n:XV X.K C f)(l:Öc f=À v)(h:∀u s',zI X z8 σ H s'->yB v u->Q u s'):Ý Ą A (ϯi Ş f b) Q E s:=by let{g,O,r,_,_,_}:=Ml Ė e;let{u,i,d}:=Íe (v:=v) (o:=g f) (by rw[<-l];show r f);show z4y Ŧ O (c.get f) c.hd n i (z7c d) (h u _ ϔb d)
def z51{m:Ç}{g:Ì}{pl:Sem Ñ}{Q:Value×Á Value->Ï->È}(I:zI X z8 σ H s)(e:H a=À ôb)(c:qT X.K C)(k:C6 X.K C m g)(l:Öc m=Ä)(h:Q (.ref g,ña) s):Ý Ą A (Őo Ş m pl) Q E s:=by let{b,O,r,_,_,_}:=Ml Ė e;have d:b m=Ä:=Õo (by rw[<-l];show r m);show z4z Ŧ O (c.get m) k.at_ k.fn d h
def oE{y:V}{u:Value}{Q:īa->Ï->È}(I:zI X z8 σ H s)(e:H a=À ôb)(c:qT X.K C)(n:XV X.K C f)(G:ša<1000)(v:yB y u)(h:∀s',zI X z8 σ (zT H a ϡk) s'->Q () s'):Ý Ą A (setAttr Ş f u) Q E s:=by
 let{i,O,r,j,_,k}:=Ml Ė e;let l:(ţc (·.1)).length<=ã:=by rw[æ,Ś];omega
 show x18 Ŧ O c.sa c.po n.z13 c.hd j l λt d F=>h _ ?_
 let m:∃o,t.get? dx=À o:=let ⟨o,_,_,e',_⟩:=d.ns;{o,e'};refine ġe (x:=a) (e:=dx) Ϲg Ħd (λb q B z=>(F.2 b B).trans z) m ?_;refine{by rw[z_ O.ne];show k,?_,O.ne,d.obj,_,d.ns,λg=>?_,λg p=>?_};let:=iE f y fs;omega;exact ur ((Ĕb f y fs).lookup g) ŧk;rw[iI];by_cases q:g=f;rw[Ò q,Ò q];show v;rw[Ó q,Ó q];show r g;by_cases q:g=f;rw[q];show Éo.1;show Éo.2 g (j g λz=>p ?_);exact ŧk=Ä;rw[Ó q];show z
def ϧi(I:zI X z8 σ H s):zI X z8 σ (zT (zT H ß (.own ϳ)) ϳ (.ins C ß [])) { s with ì:=(Ëd).push ěf }:=by
 let e1:(Ëd).get? ß=À Ϫh:=ž á rfl
 let e2:((Ëd).push ěf).get? (ß+1)=À ěf:=by
  let:=ž Ëd (o:=Êf C ß) rfl
  rwa [Ĩb]at this
 let f:(Ëd).Ns ß Āb:={Ϫh,#[],_,e1,rfl,(λe h=>Þ h è),λ_=>rfl};let g:=Øb (a:=ß) (o:=.own ϳ) (h':=őa Ϫh) (t':=ĕ) ϑl Đ {_,e1};show g.laid (a:=ß+1) (o:=.ins C ß []) (t':=ĕ) ϑl (Ĭb (Ĩb _ _)) ?_;let c:ß≠ß+1:=ϣ ęe;refine{by rw[z_ c,yX],Ϥ _,c,e2,λ_=>Ä,(Heap.Ns1.of_empty f).at λo q=>Į _ q,λ_=>Śa,λy d=>Þ rfl d}
def z1v{Ĝ:ë}{w:å}{env:Env}{e:Õ}{f:Ç}{pos:Pos}{s:Ï}{Q:Value->Ï->È}(a:ŏa e f env Ϛn=ď e env)(h:Ý í A Ϛn (λo s₁=>Ý í A (ϯi o f Ã) Q E s₁) E s):Ý í A (ď ϲe env) Q E s:=
 Attribute_any_ h (by rw[arm_eval_Attribute,a])
#print a
nonrec def x2o(K:Ð)(c:TE)(f:Ç):TE:=λσ H Q=>c σ H λx b=>∃a C dx fs v,x=.ref a/\b a=À ôb/\qT K C/\XV K C f/\Öc f=À v/\Q v b
def y98(K:Ð)(e d:TE)(f:Ç):TS:=λD σ H=>d σ H λy c=>e σ c λx b=>∃a C dx fs,x=.ref a/\b a=À ôb/\qT K C/\XV K C f/\ša<1000/\
 ůa σ (zT b a ϡk)
def cL(X:Cx)(a:Ĉe)(b:V->V->Hp->VK->È):È:=
 ∀(z8:Á ð) (s:Ï) (σ:St) (H:Hp) (x y:V) (u v:Value) (Q:VK),zI X z8 σ H s->yB x u->yB y v->b x y H Q->Ý Ą X.A (Ýe a u v) ĩb Ĳ s
def y99(K:Ð)(e d:TE)(h:V->V->Hp->VK->È)(f:Ç):TS:=λD σ H=>e σ H λx c=>∃a C dx fs v,x=.ref a/\c a=À ôb/\qT K C/\XV K C f/\Öc f=À v/\
 d σ c λy g=>h v y g λz b=>∃dx' fs',b a=À (.ins C dx' fs')/\fs'.length<1000/\ůa σ (zT b a (.ins C dx' (Ĕb f z fs')))
section
variable{X:Cx}{o e àb:Õ}{f:Ç}{pos ĕa tpos:Pos}{ta tv:TE}
def lS(t:PE X e ta)(r:ŏa e f Ø ϲd=ď e Ø):PE X ϲe (x2o X.K ta f):=by intro k s σ H Q I h;show z1v r (zy (t k s σ H _ I h) λu z b=>?_);let{x,m,o,j,a,C,B,A,v,i,g,c,n,l,q}:=b;subst i;obtain rfl:u=ċ a:=j;show fE o g c n l λy w d p=>{v,m,d,p,q}
def y7m(B:PE X o ta)(hv:PE X àb tv)(w:Ĳb àb (À Ŀl) Õc Ø=pure Å):PS X (.Assign ħl àb pos) (y98 X.K ta tv f):=by
 intro e s σ H D I h;show plainObj_wpAny_Assign_Attribute (zy (hv e s σ H _ I h) λu r b=>?_) w;let{y,k,p,m,q}:=b;show zy (B e r σ k _ p q) λt G d=>?_
 let{x,J,v,A,a,C,F,L,j,g,c,n,l,z}:=d;subst j;obtain rfl:t=ċ a:=A;show oE v g c n l m λE i=>{σ,_,i,z}
def y7n{j:Ĉe}{k:V->V->Hp->VK->È}(W:PE X o ta)(hv:PE X àb tv)(d:cL X j k):PS X (.AugAssign ĝl j àb pos) (y99 X.K ta tv k f):=by
 intro e s σ H D I h;show wpAny_AugAssign_AttributeAny (zy (W e s σ H _ I h) λN s1 b=>?_);let{x,B,G,T,a,C,dx,fs,v,w,p,c,n,l,q}:=b;subst w;obtain rfl:N=ċ a:=T;show fE G p c n l λu O P Z=>zy (hv e O σ B _ P q) λY E b=>?_
 let{y,Q,r,F,S}:=b;show zy (d e E σ Q v y u Y _ r Z F S) λw4 s4 g=>?_
 let{z,H3,U,R,L,m,i,J,t}:=g;show oE U i c n J R λs5 A=>{σ,_,A,t}
def y8g:V->V->Hp->VK->È:=λx y H Q=>∃i j,x=.int i/\y=.int j/\Q ϵh H
def z7r:cL X .Add y8g:=by rintro d s σ H x y u v Q I b c ⟨i,j,rfl,rfl,q⟩;let{t,rfl}:=(show ∃t,u=æc i t from b);let{a,rfl}:=(show ∃a,v=æc j a from c);show PyProof.Rows.iadd_int {.int (i+j),H,Ëa _,{_,rfl},q}
#print a
section
variable{X:Cx}{z8:Á ð}{σ:St}{H:Hp}{s:Ï}{A:þ}{E:Value->Ï->È}{Q:Value->Ï->È}{c:Value}{b:Ñ}
inductive gM(K:ăf)(H:Hp):V->Value->È where
 |zC:gM K H .zC Æd
 |bl (x:Ñ):gM K H (.bl x) Ÿa
 |int (i:Æ):gM K H òa Ża
 |str (x:Ç):gM K H Žb Ϻa
 |Wb (x:UInt64):gM K H (.Wb x) (.type "float")
 |lst {a:Ì} {xs:Á V} (e:H a=À þa):gM K H Ş îa
 |yI {a:Ì} {o:Obj} {xs:Á V} (e:H a=À Ìo):gM K H Ş îa
 |tup {a:Ì} {xs:Á V} (e:H a=À Ĺa):gM K H Ş Şa
 |dK {a:Ì} {kvs:Á ϖ} (e:H a=À Ō):gM K H Ş Ýc
 |dT {a:Ì} {kvs:Á ĳb} (e:H a=À ŷb):gM K H Ş Ýc
 |ins {a C dx:Ì} {fs:Á ŀb} (e:H a=À ôb) (cl:qT K C) (ha:PySem.W.findIn K ļ "__class__"=À (À ŝg))
   (hn:PySem.W.specialIn K ŝg "__get__"=À (À (.builtin "getset_descriptor.__get__"))) (htk:PySem.W.takesIn K ŝg=À Ã)
   (hm:PySem.W.mroIn K C (.type "object")=À Ã):gM K H Ş ļ
def Mo{x:V}{u t:Value}(I:zI X z8 σ H s)(d:yB x u)(l:gM X.K H x t)(e:ş X.K t c=À b)(h:∀tk,Q Ŕi { s with Ę:=tk }) :Ý Ą A (ŉa Ķh [u,c]) Q E s:=by
 cases l with
 |zC=>cases(show u=Ýd from d);show ϊa W.kitx_none Ŧ Śa e Ěa h|bl y=>cases(show u=Ĺf y from d);show ϊa W.kitx_bool Ŧ Śa e Ěa h|int i=>let{t,q}:=(show ∃t,u=æc i t from d);cases q;show ϊa W.kitx_int Ŧ Śa e Ěa h
 |str y=>let{t,q}:=(show ∃t,u=åc y t from d);cases q;show ϊa W.kitx_str Ŧ Śa e Ěa h
 |Wb y=>let{t,q}:=(show ∃t,u=ϫh y t from d);cases q;show ϊa W.kitx_float Ŧ Śa e Ěa h
 |@lst a g ea=>cases(show u=ċ a from d);let{_,_,n,_,f}:=(show xV ø X.w H á a (.lst g)from Ė a _ ea);show ϊa ϩh Ŧ {_,f,rfl} e Ěa h
 |@yI a ob g ea=>cases(show u=ċ a from d);let{_,_,_,n,_,f}:=(show xV ø X.w H á a (.yI ob (.lst g))from Ė a _ ea);show ϊa ϩh Ŧ {_,f,rfl} e Ěa h
 |@tup a g ea=>cases(show u=ċ a from d);let{_,_,_,p}:=(show xV ø X.w H á a (.tup g)from Ė a _ ea);let{o,f,j,_}:=p;show ϊa Ćn Ŧ {o,f,j} e Ěa h
 |@dK a kvs ea=>cases(show u=ċ a from d);let{_,_,B,_,p}:=(show xV ø X.w H á a Ō from Ė a _ ea);let{o,k,m,f,j,_}:=p;show ϊa űn Ŧ {o,f,j.1} e Ěa h
 |@dT a kvs ea=>cases(show u=ċ a from d);let{_,_,g,_,o,k,m,f,j,_}:=(show xV ø X.w H á a ŷb from Ė a _ ea);show ϊa űn Ŧ {o,f,j.1} e Ěa h
 |@ins a C dx fs ea cl ha hn htk hm=>cases(show u=ċ a from d);let{r,O,_}:=Ml Ė ea;let{v,J,_}:=O.look;show ϊa (W.kitx_own (cl.get _) cl.hd ha hn htk hm) Ŧ J e Ěa h
#print a
structure yp(k:Â)(A:þ):È where
 hd:Ĺb=Ä
 dp:Àg+3*k+5<Šm
 un:ľa+16*k+200<Ϫ
 gd:A.guards=À []
theorem yp.mono{j k:Â}{A:þ}(r:yp k A)(h:j<=k):yp j A:={r.hd,by let:=r.dp;omega,by let:=r.un;omega,r.gd}
theorem yp.deeper{k:Â}{A:þ}(r:yp Ŝ A)(env:Env):yp k (úb env):=
 {r.hd,by let:=r.dp;exact Àg+1+3*k+5<_;omega,by let:=r.un;exact ľa+3+16*k+200<_;omega,by first|show r.gd|simp[Ϸd,ύn,Ùo,r.gd]}
def z9t{A:þ}{C:Ì}{us:Á Value}{a:Á įb}:(Ĩg).depth=Àg+1:=by first|rfl|simp[Ϸd,Code.weight,Code.isCreation,Code.isGuard,Code.isCaller,ώn,žh,guardIds]
theorem z9u{A:þ}{C:Ì}{us:Á Value}{a:Á įb}:(Ĩg).units=ľa+1:=by first|rfl|simp[Ϸd,Code.cUnits,ώn,žh]
theorem yp.make{k:Â}{A:þ}(r:yp Ŝ A)(C:Ì)(us:Á Value)(a:Á įb):yp k Ĩg:=
 {r.hd,by let:=r.dp;rw[z9t];omega,by let:=r.un;rw[z9u];omega,by first|show r.gd|simp[Ϸd,ύn,Ùo,r.gd]}
theorem yp.depth{k:Â}{A:þ}(r:yp k A):Àg<Šm:=by let:=r.dp;omega
theorem yp.units{k:Â}{A:þ}(r:yp k A):ľa+64<Ϫ:=by let:=r.un;omega
nonrec def Yo:TA:=λ_ H Q=>Q [] H
nonrec def Q4(d:TE)(a:TA):TA:=λσ H Q=>d σ H λx e=>a σ e λb c=>Q (x::b) c
section
variable{X:Cx}{e:Õ}{es:Á Õ}{te:TE}{t:TA}{pos:Pos}
def jw:PA X [] Yo:=λ_ _ _ _ H Q I h=>Ϻl {[],H,I,.nil,h}
def lM(m:PE X e te)(n:PA X es t)(f:Î ϔc q12):PA X đ ōi:=by
 intro pos b s σ H Q I h;rw[f];exact Ý _ _ (spliced ((Å,ď e Ø)::Ŏb pos Ϛe)) _ _ s;show Ŵg (zy (m b s σ H _ I h) λu p a=>?_);let{x,l,o,k,q}:=a;show zy (n pos b p σ l _ o q) λv r a=>?_
 let{i,d,c,j,g}:=a;show⟨x::i,d,c,.cons k j,g⟩
def x3b(t:TA):TE:=λσ H Q=>t σ H λb a=>ϋ<=ã/\∀p,a p=Ä->Q ϛ (zT a p (.tup b))
def x2t(t:TA):TE:=λσ H Q=>t σ H λb a=>ϋ<=ã/\∀p,a p=Ä->Q ϛ ϋh
def lW{x1}(h:PA X es t):PE X ϫl (x3b t):=by intro g s σ H Q I j;show wpAny_Tuple_spliced Ók;rw[Ĥp];show{.ref ŵa,zT d ŵa (.tup i),f.laid (t':=ëg) ϒl Đ ?_,rfl,q _ k};show{z,l,r,{_,ž _ rfl,rfl,_,rfl}}
def lU(h:PA X es t):PE X ķh (x2t t):=by intro g s σ H Q I j;show wpAny_List_spliced Ók;rw[Ĥp];show{.ref ŵa,zT d ŵa (.lst i),f.laid (t':=ëg) ϒl Đ ?_,rfl,q _ k};show{z,l,0,r,ž _ rfl}
#print a
abbrev Sp:=Á V->Hp->VK->XK->È
abbrev gC:=Á Env->Hp->Ï->XK->Value->Ï->È
structure Wi(P:ë)(w:å)(K:Ð)(mg:Ç->Ê Value)(Ë:Heap)(A:þ)(ą:Á Env)(s:Ï)(H:Hp):È where
 Ąj:A.frames=À ą
 mod:Mod K mg Ë
 bs:∀b o,base.get? b=À o->ć b=À o/\H b=Ä
 ZG:base.objs.size<=ß
 jN:Õf Ë ą
 X4:∀b∈ji ą,H b=Ä
 zf:wK P w H á
 bare:įd ág
def CE(ą:Á Env)(P:ë)(w:å)(H:Hp)(s:Ï)(Q:VK)(u:Value)(s':Ï):È:=
 ∃v H',s'.os=s.os/\įd s'.gens/\Un (ji ą) [] H H' á ŧc/\wK P w H' ŧc/\yB v u/\Q v H'
def CR(a:gC)(ą:Á Env)(P:ë)(w:å)(H:Hp)(s:Ï)(Q:VK)(E:XK)(r:ŷc)(s':Ï):È:=
 match r with
 |.ok (.ret u)=>CE ą P w H s Q u s'|.ok _=>î|.error e=>a ą H s E e s'
structure xN(P:ë)(w:å)(K:Ð)(mg:Ç->Ê Value)(Ë:Heap)(CX:gC)(k:Â)(f:Ì)(fd:Ľ)(ps:Á Ç)(sp:Sp):È where
 len:∀vs H Q E,sp vs H Q E->ö=č
 run:∀(A:þ)(ą:Á Env)(s:Ï)(H:Hp)(ϫ:Args)(us:Á Value)(vs:Á V)(Q:VK)(E:XK),yp k A->Wi P w K mg Ë A ą s H->Ďb s fd ϫ ňc->zo vs us->sp vs H Q E->
  Òb Ĵb A (.call Ĵ ϫ) (CR CX ą P w H s Q E) s
def xN.imp{P:ë}{w:å}{K:Ð}{e:Ç->Ê Value}{a:Heap}{g:gC}{k:Â}{f:Ì}{i:Ľ}{ps:Á Ç}{sp c:Sp}(F:xN P w K e a g k f i ps sp)(h:∀vs H Q E,c vs H Q E->sp vs H Q E):xN P w K e a g k f i ps c:=
 {λvs H Q E q=>F.len vs H Q E (h _ _ _ _ q),λA b s H d n vs Q E l p o m j=>ĕg A b s H d n vs Q E l p o m (h _ _ _ _ j)}
def Wi.make{P:ë}{w:å}{K:Ð}{b:Ç->Ê Value}{a:Heap}{A:þ}{ą:Á Env}{s:Ï}{H:Hp}(e:Wi P w K b a A ą s H)(C:Ì)(us:Á Value)(c:Á įb) :Wi P w K b a (A.under (.builtin Ēm {.ref C::us,c})) ą s H:={by first|show e.frames|(simpa [Ϸd,Code.envs,žh,pushEnvs]using e.frames),e.mod,e.bs,e.ZG,e.jN,e.X4,e.zf,e.bare}
section
variable{X:Cx}{z8:Á ð}{σ:St}{H:Hp}{s s':Ï}
def zI.F4(I:zI X z8 σ H s):Wi ø X.w X.K ó ŕ X.A ġa s H:=
 {ſn,ųi,I.bs,İ ϻf I.sz,I.stack,I.aG,Ė,Ϛa}
def zI.after{Q:VK}{u:Value}(I:zI X z8 σ H s)(h:CE ġa ø X.w H s Q u s'):EP X z8 σ Q u s':=by let{v,j,i,a,f,k,r,q}:=h;let{e,g,d,t,c}:=s';obtain rfl:c=s.os:=i;show{v,j,I.call (h':=e) (g':=g) (d':=d) (t':=t) (ch:=[]) f k a (λb z=>Þ z è),r,q}
#print a
nonrec def S7(sp:Sp)(a:Á V)(E:XK)(t:TA):TE:=λσ H Q=>t σ H λb c=>sp (b++a) c Q E
nonrec def S8(C:Ì)(m:Ç)(sp:Sp)(b:Á V)(E:XK)(d:TE)(t:TA):TE:=λσ H Q=>d σ H λx c=>∃a dx fs,x=.ref a/\c a=À ôb/\Öc m=Ä/\
 t σ c λf e=>sp (x::(f++b)) e Q E
def x2u(C:Ì)(sp:Sp)(a:Á V)(E:XK)(t:TA):TE:=λσ H Q=>t σ H λd b=>∀x dx,b x=Ä->b dx=Ä->dx≠x->
 sp (.ref x::(d++a)) (zT (zT b dx Ĥd) x ϣm) (λv c=>v=.zC/\Q ŗc c) E
def qS(K:Ð)(a:Ľ)(ps:Á Ç)(ds:Á Value):È:=
 ∀(s:Ï)(us:Á Value),ř á->(Ēd).length=č->Ďb s a {us,[]} (ľe Ēd)
def qS.all{K:Ð}{a:Ľ}{ps:Á Ç}(h:∀us:Á Value,Ű=č->όf a {us,[]}=pure ňc):qS K a ps []:=λs us _ b=>by rw[ŵ]at b ⊢;show .of_eq (h us b)
def XW(a:gC)(X:Cx)(E:XK):È:=∀(z8:Á ð) (σ:St) (H:Hp) (s:Ï) (e:Value) (s':Ï),zI X z8 σ H s->a ġa H s E e s'->Ĳ e s'
section
variable{X:Cx}{CX:gC}{k:Â}{f C:Ì}{fd:Ľ}{ps:Á Ç}{sp:Sp}{dvs:Á V}{ds:Á Value}{E:XK}{x m:Ç}{p pos Ϻ:Pos}{e o:Õ}{es:Á Õ}{ta:TE}{t:TA}
def BX{b:Á ð}{σ:St}{H:Hp}{s:Ï}{Q:VK}{us:Á Value}{vs:Á V}(F:xN ø X.w X.K ó ŕ CX k f fd ps sp)(d:yp k X.A)(l:qS X.K fd ps ds)(i:zo dvs ds)(j:XW CX X E)(I:zI X b σ H s)(r:zo vs us)(h:sp ïe H Q E):Ý Ą X.A (ŉa Ĵ us) (EP X b σ Q) Ĳ s:=by
 let c:zo ïe Ēd:=îc i;have m:(Ēd).length=č:=by rw[<-ťa];show F.len _ _ _ _ h
 show Öf (Żd (ĕg X.A ġa s H {us,[]} Ēd ïe Q E d I.F4 (l s us Ŧ m) c h) λr g a=>?_);cases r with
 |ċg e=>show j b σ H s e g I a|ok fl=>
  cases fl with
  |ret u=>show I.after a|next=>show ϯ a|brk=>show ϯ a|ĕb=>show ϯ a
def y6e(F:xN ø X.w X.K ó ŕ CX k f fd ps sp)(n:yp k X.A)(l:Gl X x)(v:ó x=À Ĵ)(hk:Õa X.K Ĵ=Ã)(o:qS X.K fd ps ds)(g:zo dvs ds)(i:XW CX X E)(m:PA X đ t)(a:Î ī q10)(u:Î ϔc q12)(c:Î ((èe).any (·.1)=Å) q12) :PE X Ųa (S7 sp dvs E t):=by rw[Űp];show Ϧc Ŏm;show Ăf (h₀:=ŕ) Äe hk (zy ðl λC z b=>?_) u c;rw[ßq];show BX F n o g i d r q
def N6{pl:Sem Ñ}(z:PE X o ta)(c:qT X.K C)(e:C6 X.K C m f)(F:xN ø X.w X.K ó ŕ CX k f fd ps sp)(v:yp k X.A)(y:qS X.K fd ps ds)(i:zo dvs ds)(n:XW CX X E)(t:ď ϧb Ø=(do
   let ov <-ď o Ø
   standAt ôd
   let (f,first) <-holding [ov] Àd
   ðc pos f first Ãf Ϫb):=by rfl) :
  PE X ϧb (S8 C m sp dvs E ta Yo):=by
 intro r s σ H Q I h;show Ĝm (pl:=pl) (zy (z r s σ H _ I h) λu G b=>?_) t;let{x,B,d,p,a,L,J,j,g,l,q}:=b;subst j;obtain rfl:u=ċ a:=p;show z51 d g c e l ?_;show W.callWith_K0 (first:=ña) d.xY e.kp (BX (us:=ña) (vs:=ña) F v y i n d Ďm q)
structure Mk(K:Ð)(C f:Ì):È where
 makes:ĉd K C=Ã
 init:Ča K ļ ýa=À Ťa
 fn:Ŷc K Ĵ=Ã
 kp:Õa K ļ=Ã
def y94{c:Á ð}{σ:St}{H:Hp}{s:Ï}{Q:VK}{us:Á Value}{vs:Á V}(M:Mk X.K C f)(F:xN ø X.w X.K ó ŕ CX k f fd ps sp)(t:yp Ŝ X.A)(z:qS X.K fd ps ds)(l:zo dvs ds)(m:XW CX X E)(I:zI X c σ H s)(r:zo vs us)(h:∀x dx,H x=Ä->H dx=Ä->dx≠x->sp (.ref x::ïe) Äk ϛk E) :Ý Ą X.A (ŉa ļ us) (EP X c σ Q) Ĳ s:=by
 let g:=h ϳ ß œh Őc ϕo;let b:=ϧi (C:=C) I;let d:zo (Ùa ϳ::ïe) űm:=.cons rfl (îc l)
 let q:(ċ ϳ::us++ds).length=č:=by let e:=ċa;rw[F.len _ _ _ _ g]at e;show Łe
 refine Öf (iO (f:=f) Ŧ M.makes M.init êo (Żd (ĕg _ ġa _ _ {ċ ϳ::us,[]} űm _ _ E (t.make C us [])
  (ŕo C us []) (z _ (ċ ϳ::us) b.xY q) d g) λr j a=>?_))
 cases r with
 |ċg e=>show m c σ _ _ e j b a|ok fl=>
  cases fl with
  |ret u=>let{v,y,i,p,o,n}:=b.after a;subst o;show{p,{Ùa ϳ,y,i,rfl,n}}
  |next=>show ϯ a|brk=>show ϯ a|ĕb=>show ϯ a
def y6n(M:Mk X.K C f)(F:xN ø X.w X.K ó ŕ CX k f fd ps sp)(n:yp Ŝ X.A)(l:Gl X x)(v:ó x=À ļ)(o:qS X.K fd ps ds)(g:zo dvs ds)(i:XW CX X E)(m:PA X đ t)(a:Î ī q10)(u:Î ϔc q12)(c:Î ((èe).any (·.1)=Å) q12) :PE X Ųa (x2u C sp dvs E t):=by rw[Űp];show Ϧc Ŏm;show Ăf (h₀:=ŕ) Äe M.kp (zy ðl λG z b=>?_) u c;rw[ßq];show y94 M F n o g i d r q
#print a
def PK(X:Cx)(a:Á ϐb)(t:TA):È:=
 ∀(pos:Pos)(z8:Á ð) (s:Ï) (σ:St) (H:Hp) (Q:Á V->Hp->È),zI X z8 σ H s->t σ H Q->Ý Ą X.A (evalAll ((ŭi pos (keywordEach a Ø)).map (·.2))) Ϟm Ĳ s
section
variable{X:Cx}{k:Â}{f:Ì}{x m:Ç}{p pos kpos:Pos}{e o:Õ}{kws:Á ϐb}{te:TE}{t:TA}{nm:Ê Ç}
def lh:PK X [] Yo:=λ_ _ _ _ H Q I h=>wpAny_evalAll_nil {[],H,I,.nil,h}
def lg(l:PE X e te)(m:PK X kws t):PK X ({nm,e,kpos}::kws) ōi:=by
 intro pos b s σ H Q I h;exact Ý _ _ (evalAll ((do let v <-ď e Ø;standAt pos;pure v)::(Ŕd).map (·.2))) _ _ s;show wpAny_evalAll_cons (Ö (zy (l b s σ H _ I h) λu o a=>?_));let{x,k,n,j,p}:=a;show Ö (ϴe ýb);show zy (m pos b o σ k _ n p) λr q a=>?_
 let{g,d,c,i,f}:=a;show⟨x::g,d,c,.cons j i,f⟩
#print a
structure zk(N P:Á Ç)(sc:Ûa):È where
 kind:sc.kind=.function
 co:sc.isCoroutine=Å
 gen:sc.isGenerator=Å
 nd:N.Nodup
 pre:N.take äa=P
 par:∀x∈P,Ěm x=À .local\/Ěm x=À .cell
 z0z:∀y∈sc.names,y.2≠.free
theorem dC{a:Ç->Ê òc}{x:Ç}:∀{Ňd:Á įb} {m:Ç->Ê Value},(∀v,(x,v) ∉ Ňd)->ďc a Ňd m x=m x
 | [],_,_=>rfl|(n,v)::r,m,h=>by
  unfold ďc;rw[dC λw b=>h w Œc]
  split;rw[ϭp]
  simp[this];rfl
theorem dA{a:Ç->Ê òc}{x:Ç}:∀{Ňd:Á įb} {m:Ç->Ê Value},(∀v,(x,v) ∉ Ňd)->Đc a Ňd m x=m x
 | [],_,_=>rfl|(n,v)::r,m,h=>by
  unfold Đc;rw[dA λw b=>h w Œc]
  split;rfl;rw[ϭp]
  simp[this]
theorem dB{a:Ç->Ê òc}{x:Ç}{v:Value}:∀{P:Á Ç}{vs:Á Value}{i:Â}{m:Ç->Ê Value},P.Nodup->P[i]?=À x->vs[i]?=À v->a x=À .local->
  ďc a ěo m x=À v
 | [],_,_,_,_,h,_,_=>by simp at h|_::_,[],_,_,_,_,h,_=>by simp at h|p::P,w::vs,0,m,nd,h1,h2,hk=>by rw[Ñq];exact ďc a Òf m p=_;unfold ďc;rw[dC λv b=>ϓf.1 (Ϝd b).1,Ò hk];simp|p::P,w::vs,i+1,m,nd,h1,h2,hk=>by exact ďc a Òf m x=_;unfold ďc;show dB (i:=i) ϓf.2 Ϻe ţl hk
theorem d9{a:Ç->Ê òc}{x:Ç}{v:Value}:∀{P:Á Ç}{vs:Á Value}{i:Â}{m:Ç->Ê Value},P.Nodup->P[i]?=À x->vs[i]?=À v->a x≠À .local->
  Đc a ěo m x=À v
 | [],_,_,_,_,h,_,_=>by simp at h|_::_,[],_,_,_,_,h,_=>by simp at h|p::P,w::vs,0,m,nd,h1,h2,hk=>by rw[Ñq];exact Đc a Òf m p=_;unfold Đc;rw[dA λv b=>ϓf.1 (Ϝd b).1,Ó hk];simp|p::P,w::vs,i+1,m,nd,h1,h2,hk=>by exact Đc a Òf m x=_;unfold Đc;show d9 (i:=i) ϓf.2 Ϻe ţl hk
nonrec def ąg(N:Á Ç)(vs:Á V):St:=Ýg À++š (Ϝ-ö) Ä
nonrec def qC(g:gC)(P:ë)(w:å)(K:Ð)(mg:Ç->Ê Value)(Ë:Heap)(N:Á Ç)(b:Ç)(a:Ûa)(f:Ì)(d:Value)(A:þ)(ą:Á Env)(s:Ï)(H:Hp)(E:XK):Cx where
 Ĝ:=P
 w:=w
 K:=K
 mg:=mg
 Ë:=Ë
 A:=úb Øh
 N:=N
 s₀:=s
 H₀:=H
 env:=Ëb b a ß f d
 ą:=ą
 stack:=Ëb b a ß f d::ą
 ex:=[]
 calm:=Ã
 fn:=λ_=>Ã
 pn:=[]
 xe:=λe h=>Ý Ĵb (úb Øh) (leaving Øh e) (λ_ c=>g ą H s E e c) (λi c=>g ą H s E i c) h
def dP{a:Ûa}{n:Â}{x:Ç}(h:Šb x=À .cell):∃c,(ěi n ϲi []).lookup x=À c:=by let q:=îm ϲi n [] Ęe;show ŭk q
def z7z{Q:gC}{P:ë}{w:å}{K:Ð}{J:Ç->Ê Value}{l:Heap}{N ps:Á Ç}{g:Ç}{d:Ûa}{f:Ì}{F:Value}{A:þ}{ą:Á Env}{s O:Ï}{H:Hp}{E:XK}{us:Á Value}{vs:Á V}(S:zk N ps d)(T:Ĺb=Ä)(m:Wi P w K J l A ą s H)(hl:ö=č)(r:zo vs us)(x:InCallC s ß (ďc (Êm).kindOf ňc λ_=>Ä) (ěi ϳ d.names []) (Đc (Êm).kindOf ňc λ_=>Ä) O) :zI ßk [] Ńc H O:=by
 let Y:č<=Ϝ:=by let:=Ÿ ød S.pre;rw[Áa]at this;omega
 let{G,Z,rfl,R}:=x.done;let o:∀b:Ì,b ∉ (ßk).ex:=λb z=>Þ (show b∈([]:Á Ì)from z) è
 show⟨{m.mod,S.kind,rfl,rfl,Òa _,λy z c G j=>?_,λy t=>?_,λy c _ h=>?_,λ_=>T,Around.frames_deeper m.frames,.inr {rfl,rfl},λb z=>Þ z (o b),m.bs,m.ZG,λb _ _=>o b,λb z=>Þ z (o b),m.jN,m.X4},
  rfl,m.bare,Ġe R,{_,x.toInCall.ns,λi y v G j h3=>?_},λy c h=>{_,x.cell y c h},Øi Đ,λy c h=>?_,λp B=>Þ (show p∈([]:Á ð)from B) è,m.zf.kept R,?_⟩
 show name_of_addr x.apart (ϔe G) (ϔe j);let t:Ġh y=À .cell\/Ġh y=À .free:=t;rcases t with t|t;show dP t;show Þ rfl (S.z0z _ (ϔe t));show Ïa čl;let I:i<ö:=by
  unfold ąg at j;by_cases I:i<ö;show I;rw[Ęb ϡl]at j;rw[ϝe]at j
  split at j<;>cases j
 let X:vs[i]?=À v:=by
  unfold ąg at j;rw[éb ϡl,ũ]at j;cases e:vs[i]? with
  |Ä=>rw[e]at j;cases j|À a=>rw[e]at j;cases j<;>rfl
 let{u,L,U}:=Ūa X
 have B:ps[i]?=À y:=by rw[<-S.pre,List.getElem?_take_of_lt É];show G
 have C:ps.Nodup:=by rw[<-S.pre];show S.nd.sublist Õl
 show{u,U,?_};rcases S.par y (ϴb B)with k|k;show .inl {k,dB C B L k};let{c,e}:=dP (n:=ß+1) k;show .inr {.inl k,c,e,?_};let q:=x.cell y c e;rw[d9 C B L (by exact Ġh y≠_;rw[k];decide)]at q;show q;show Øi (Ïa čl);unfold ąg;exact _=Ϝ;rw[ňp]
def eS{L:gC}{P:ë}{w:å}{K:Ð}{G:Ç->Ê Value}{g:Heap}{k:Â}{f:Ì}{ŀ c:Ç}{h:şo}{i:Á Ú}{a:Ûa}{dV kV C pm d ct oc:Value}{an od:Ê Ì}{Y:Ü śa}{N ps:Á Ç}{sp:Sp}(lk:ϓ f=À {oc,od,.func øk,Y})(T:Ĉb K d c=Ã)(S:zk N ps a)(p:∀vs H Q E,sp vs H Q E->ö=č)(l:∀(A:þ)(ą:Á Env)(s:Ï)(H:Hp)(vs:Á V)(Q:VK)(E:XK),yp k (úb (Ëb c a ß f d))->sp vs H Q E->
   ∃t,tK ĺg i t/\t { nx:=λ_ H'=>Q .zC H',rt:=Q } Ńc H) :
  xN P w K G g L Ŝ f øk ps sp:=by
 show{p,λA ą s H ϫ us vs Q E X F hb r z=>?_};let hl:=p _ _ _ _ z;let Z:ř á:=F.mod.We.keeps λb o e=>Ŋn.1
 let O:s.heap.NoLimit:=F.mod.nolimit.keeps λb o e=>Ŋn.1
 let j:∀y∈ľe us,Šb y.1=À .local\/(Šb y.1=À .cell/\((ěi ϳ ϲi []).lookup y.1).isSome=Ã):=λ⟨n,v⟩ hy=>by rcases S.par n (Ϝd hy).1 with q|q;show .inl q;show .inr {q,îm _ _ _ (.inl q)}
 show codeAny_call_function X.depth (Z _ _ lk) rfl S.co S.gen rfl (W.codeRec_of Z T) (hb _ _ _ _ ?_);show wpAny_newFunctionEnv_cells S.kind j λenv he s1 x=>?_
 subst he;show{O.keeps x.toInCall.keep,codeAny_func ?_};let{t,ht,hq}:=l A ą s H vs Q E (X.deeper _) z;let I:zI ĺg [] Ńc H s1:=z7z S X.hd F hl r x;show ăa (ht [] s1 Ńc H _ I hq) (λfl U m=>?_) λe U m=>m
 let B:∀{σ':St}{H':Hp}{v:V}{u:Value},zI ĺg [] σ' H' U->yB v u->Q v H'->CE ą P w H s Q u U:=
  λ{σ' H' v u} J R q=>{v,H',J.os,J.bare,J.base,J.zf,R,q}
 cases fl with
 |ret u=>
  let{v,σ',H',J,R,q}:=m;show B J R q
 |next=>
  let{σ',H',J,q}:=m;show B (v:=V.zC) (u:=Ýd) J rfl q
 |brk=>
  let{_,_,_,q}:=m;show ϯ q
 |ĕb=>
  let{_,_,_,q}:=m;show ϯ q
section
variable{X:Cx}{x:Ç}{p pos:Pos}{e:Õ}{es:Á Õ}{t:TA}{id T:ϗ}{r:Á V->Hp->VK->È}
nonrec def Bu(r:Á V->Hp->VK->È)(t:TA):TE:=λσ H Q=>t σ H λa b=>r a b Q
def y6f(f:vn X õb r)(i:Gl X x)(v:ó x=Ä)(hv:Ŷ x=À õb)(l:PA X đ t)(g:Î ïb q10)(a:Î ī q10)(u:Î ϔc q12)(c:Î ((èe).any (·.1)=Å) q12):PE X Ųa ϡf:=by rw[ųp];show Ϧc Ĺl;show PyProof.Rows.callWith_builtin1 Òk u c;rw[ŵp]
def y6h(f:vn X ŵb r)(i:Gl X x)(v:ó x=Ä)(hv:Ŷ x=À ŵb)(l:PA X đ t)(g:Î ïb q10)(a:Î ī q10)(u:Î ϔc q12)(c:Î ((èe).any (·.1)=Å) q12):PE X Ųa ϡf:=by rw[ųp];show Ϧc Ĺl;show ϋe Òk u c;rw[ŵp]
#print a
#print L2
namespace HT
open ķ ĺ
section
variable{Ĝ:ë}{w:å}{A:þ}{E:Value->Ï->È}{s:Ï}
def cat_tup{t b:Ì}{vs ws:Á Value}{Q:Value->Ï->È}(r:âb á t ĳa)(v:âb á b Ķf)(hv:vs≠[])(u:ws=[]->Q Šc s)(q:ws≠[]->Q ůb { s with ì:=őa { cls:=.type ŷ,Ċ:=.seq (vs++ws).toArray } })(hsz:ö+Ţa<=ã):Ý í A (ża .Add Šc (.ref b)) Q E s:=by
 obtain⟨⟨cls,m,Ċ,o⟩,h,j,n,k⟩:=id r;obtain⟨⟨l,d,i,f⟩,a,c,p,g⟩:=id v;simp only at j k c g;subst j k c g;let e:ĳa++Ķf=(vs++ws).toArray:=by simp
 by_cases hw:ws=[];show Ÿh {_,h,rfl} {_,a,rfl} ëm Ϭm Ûl Æl Ňk
  (tuple_addW1 t b ĳa Ķf n p m d o f ϸg (by simp[hw])) {h,a,u hw}
 refine Ÿh {_,h,rfl} {_,a,rfl} ëm Ϭm Ûl Æl Ňk
  (tuple_addW2 t b ĳa Ķf n p m d o f ϸg (by simpa using hw) (by rw[ģ,ģ];show hsz)) {h,a,?_}
 rw[e];show q hw
nonrec def sIx(n d:Â):Ê Æ->Â
 |Ä=>d|À v=>if v<0 then(v+(n:Æ)).toNat else min v.toNat n
def sIx_nat(n d k:Â):sIx n d (À (k:Æ))=min k n:=by exact(if(k:Æ)<0 then((k:Æ)+(n:Æ)).toNat else min (k:Æ).toNat n)=min k n;rw[Ó É,ŋ]
theorem Ļe(n d:Â)(a:d<=n)(o:Ê Æ):sIx n d o<=n:=by
 cases o with
 |Ä=>show a|À v=>exact ώj<=n;by_cases hv:v<0;rw[Ò hv];omega;rw[Ó hv];show ĵg _ _
def dQ(v:Æ)(n d:Â):ſj=((sIx n d ź:Â):Æ):=by exact ſj=((ώj:Â):Æ);by_cases hv:v<0;simp only[Ò hv];show(ìh _).symm;simp only[Ó hv];let{k,rfl}:=ęb (įc hv);rcases ąf k n with h|h;rw[ŋ,œa h,Ϟd (łg h)];rw[ŋ,Øf h,íh (łg h)]
theorem z1i(lo hi:Ê Æ)(n:Â):ūg lo hi 1 (n:Æ)=(((sIx n 0 lo:Â):Æ),((sIx n n hi:Â):Æ)):=by
 let a:¬ ((1:Æ)<0):=by omega
 unfold ūg;simp only[a,Ϧ];show Prod.ext ?_ ?_;cases lo with
 |Ä=>rfl|À v=>show dQ v n 0
 cases hi with
 |Ä=>rfl|À v=>show dQ v n n
def y7g(i j:Â):ϒe (i:Æ) (j:Æ) 1=j-i:=by
 unfold ϒe;let a:(1:Æ)>0:=by omega
 simp only[a,ś,ťb]
 rw[īp]
def oP{v:Value}{o:Ê Æ}{Q:Ê Æ->Ï->È}(p:đb v o)(h:Q o s):Ý í A (Builtin.Slice.slicePartIndex v) Q E s:=by
 cases p with
 |Ä=>show şm h|int i t=>show slicePart_int h
def oO{e:Ì}{d c:Value}{lo hi:Ê Æ}{n:Â}{Q:Æ×Æ×Â->Ï->È}(g:Ôf e d c .none)(pl:đb d lo)(f:đb c hi)(h:Q (((sIx n 0 lo:Â):Æ),1,sIx n n hi-sIx n 0 lo) s):Ý í A (Žk Ϥf (pure (n:Æ))) Q E s:=by let{j,b,i,a}:=id g;unfold Žk Builtin.Slice.sliceFields;show Ö (Ö (ëb b a (x:=d) rfl (Ö (ëb b a (x:=c) rfl (Ö (ëb b a (x:=.none) rfl ýb))))));show Ö (şm ?_);exact Ý _ _ (Αc ((1:Æ)==0)) _ _ s;rw[Ó Í];show Ö (oP pl (Ö (oP f (Ö ýb))));exact Ý _ _ (match ūg lo hi 1 (n:Æ)with|(lo,hi)=>pure (lo,(1:Æ),ϒe lo hi 1)) _ _ s;rw[z1i lo hi n];exact Ý _ _ (pure (((sIx n 0 lo:Â):Æ),(1:Æ),ϒe ((sIx n 0 lo:Â):Æ) ((sIx n n hi:Â):Æ) 1)) _ _ s;rw[y7g];show ę h
def y7c(xs:Ü Value)(i k:Â):((Ía k).filterMap λ(m:Â)=>xs[(ϻg).toNat]?).toArray=((xs.toList.drop i).take k).toArray:=by
 let e:(λ(m:Â)=>xs[(ϻg).toNat]?)=λm=>xs[i+m]?:=by
  funext m
  let:(ϻg).toNat=i+m:=by omega
  rw[this]
 rw[e];let:=Ťi xs i k;rw[List.filterMap_map]at this;let e2:((λx=>xs[x]?)∘λx=>i+x)=λm=>xs[i+m]?:=rfl
 rw[e2]at this;rw[this]
theorem getItem_tuple_cut{t g:Ì}{a:Ü Value}{k l:Value}{lo hi:Ê Æ}{Q:Value->Ï->È}(c:âb á t a)(j:Ôf g k l .none)(pl:đb k lo)(r:đb l hi)(x:¬ (sIx ò 0 lo=0/\sIx ò ò hi=ò))(h:Q ůb { s with ì:=őa { cls:=.type ŷ,Ċ:=.seq (ħg).toArray } })(hsz:ò<=ã):Ý í A (ũc Šc (.ref g)) Q E s:=by
 let b:sizeOk (.seq (ħg).toArray):=by exact(ħg).toArray.size<=ã;rw[ģ,Áa,Ŷa,ſ];show İ çe (İ Ĥb hsz)
 let o:sIx ò ò hi<=ò:=Ļe _ _ Đ hi;let{u,i,e,n}:=id j;let d:ćb (.ref g) Ĝe:={u,i,e};unfold ũc
 try with_reducible show ϭa ?_
 first|show Ö ýb|skip
 refine Ö ńk
 show Ö (ϝc (ŀ:=Łc Łh) çc Īk
  ņj)
 rw[ńp];show Ö (oO j pl r ?_)
 let f:¬ (Ĝg=Ã):=by intro q;rw[Č,Č]at q;let v:((sIx ò 0 lo:Â):Æ)=0:=Ěi q.1.1;let p:sIx ò ò hi-sIx ò 0 lo=ò:=Ěi q.2;show x {Int.ofNat_eq_zero.mp v,ĵc o (İ (Ĭb p.symm) Ĥb)}
 exact Ý _ _ ύk _ _ s;rw[Ó f,y7c]
 first
  |show Ö (m:=Ϙe _) Ϡn
  |show Ö (m:=Ϙe _) (Ğc (Ö Ϧo) b)
  |show Ö (Ö (m:=Ϙe _) (Ğc Ϧo b))
  |show Ö (Ö (m:=Ϙe _) Ϡn)
#print a
#print HT
namespace L2
open ķ ņ ĺ
abbrev TO:=St->Hp->(Ê Æ->Hp->È)->È
def PO(X:Cx)(e:Ê Õ)(t:TO):È:=
 ∀(z8:Á ð) (s:Ï) (σ:St) (H:Hp) (Q:Ê Æ->Hp->È),zI X z8 σ H s->t σ H Q->
  Ý Ą X.A (evalPart e Ø) (λu a=>∃o H',zI X z8 σ H' a/\đb u o/\Q o H') Ĳ s
nonrec def x2z:TO:=λ_ H Q=>Q Ä H
nonrec def x34(t:TE):TO:=λσ H Q=>t σ H λx a=>∃i,x=.int i/\Q (À i) a
section
variable{X:Cx}{e:Õ}{te:TE}{lo hi:Ê Õ}{tl th:TO}{pos p2:Pos}
def y7j:PO X Ä x2z:=by intro a s σ H Q I h;rw[ϳm];show ę {Ä,H,I,.none,h}
def y7k(h:PE X e te):PO X (À e) (x34 te):=by
 intro b s σ H Q I j;rw[evalPart_some];show zy (h b s σ H _ I j) λu k a=>?_
 let{x,d,f,c,g}:=a;let{i,rfl,q}:=g;let{t,rfl}:=c;show{À i,d,f,.int i t,q}
def ZM(X:Cx)(r:V->Ê Æ->Ê Æ->Hp->VK->È):È:=
 ∀(z8:Á ð) (s:Ï) (σ:St) (H:Hp) (x:V) (v vl vu:Value) (lo hi:Ê Æ) (sl:Ì) (Q:VK),zI X z8 σ H s->yB x v->Ôf sl vl vu .none->đb vl lo->đb vu hi->r x lo hi H Q->
  ∃T id,Òi ŵb Łh=pure (À õb)/\ćb v T/\Ý Ą X.A (ũc v (.ref sl)) ĩb Ĳ s
def ZM.or{r e:V->Ê Æ->Ê Æ->Hp->VK->È}(h:ZM X r)(h':ZM X e):ZM X (λx lo hi H Q=>r x lo hi H Q\/e x lo hi H Q):=by intro d s σ H x v f i lo hi j Q I c b a g q;rcases q with q|q;show h d s σ H x v f i lo hi j Q I c b a g q;show h' d s σ H x v f i lo hi j Q I c b a g q
nonrec def x39(r:V->Ê Æ->Ê Æ->Hp->VK->È)(te:TE)(tl th:TO):TE:=λσ H Q=>te σ H λx c=>tl σ c λl a=>th σ a λu b=>r x l u b Q
def lV{r:V->Ê Æ->Ê Æ->Hp->VK->È}(R:ZM X r)(y:PE X e te)(O:PO X lo tl)(n:PO X hi th):PE X (.Subscript e řg pos) (x39 r te tl th):=by
 rw[ųp];show ão (zy (y d s σ H _ I h) λv t c=>?_);let{x,o,p,L,S}:=c;show wpAny_Slice (zy (O d t σ o _ p S) λf z c=>?_);let{l,C,B,k,E}:=c;show zy (n d z σ C _ B E) λg a i=>?_
 let{u,j,m,P,F}:=i;rw[ϳm];show ę ?_;let J:zI X d σ j { a with ì:=Áe { cls:=.type Ĝe,Ċ:=.fields #[f,g,.none] } }:=m.kept (t':=ëg) λb W q=>Į _ q
 let{T,U,G,K,N}:=R d { a with ì:=Áe { cls:=.type Ĝe,Ċ:=.fields #[f,g,.none] } } σ j x v f g l u ŵa Q J L (Heap.IsSliceOf.new ..) k P F;exact Ý Ą X.A (ϫm e řg v īo) ön Ĳ { a with ì:=Áe { cls:=.type Ĝe,Ċ:=.fields #[f,g,.none] } };show tail_any (ops:=[.ref ŵa,v]) K G N Ϩb
def Xa(xs:Á V)(lo hi:Ê Æ):Á V:=(ϲk).take Ŏk
def dX(xs:Á V)(lo hi:Ê Æ):(ñn).length<=ä:=by unfold Xa;rw[Áa,Ŷa];show İ çe Ĥb
def n5(K:Ð):V->Ê Æ->Ê Æ->Hp->VK->È:=λx lo hi H Q=>∃a xs,x=.ref a/\xF K H a xs/\
 ¬ (Ŀ ä 0 lo=0/\Ŀ ä ä hi=ä)/\∀p,H p=Ä->Q ϛ (ε (.tup ñn))
def x1n:ZM X (n5 X.K):=by
 intro p s σ H x v t u lo hi y Q I l k i m h;let{a,d,rfl,j,n,q}:=h;cases l;let{e,r,g,f}:=ϵ j;let c:e.toArray.size=ċa:=by rw[ģ];show ϯm
 show{ŷ,_,Úk,g.typeIs,?_};refine HT.getItem_tuple_cut g k i m (by rw[c];show n) ?_ (by rw[c];show f);rw[c];show{.ref ß,_,Øb (t':=ĕ) (o:=.tup (Xa d lo hi)) (λb w q=>Į _ q) Đ ?_,rfl,q _ Őc};show{İ (dX d lo hi) f,_,(ûj (Ŀ ċa 0 lo)).take (Ŀ ċa ċa hi-Ŀ ċa 0 lo),Ħi _ _}
def mj(K:Ð):R2:=λx y H Q=>∃a b xs ys,x=.ref a/\y=.ref b/\xF K H a xs/\xF K H b ys/\xs≠[]/\ä+ţ<=ã/\
 (ys=[]->Q Ş H)/\(ys≠[]->∀p,H p=Ä->Q ϛ (ε (.tup ϖf)))
def zo.F7{xs:Á V}{us:Á Value}(r:zo xs us):us=[]↔xs=[]:=by
 cases r with
 |nil=>simp|ï _ _=>simp
def y5p:xB X ād (mj X.K):=by intro B s σ H x y v u Q I n j h;let{a,b,i,r,rfl,rfl,p,k,g,f,A,m}:=h;cases n;cases j;let{t,d,l,_}:=ϵ p;let{e,c,p2,_}:=ϵ k;show HT.cat_tup l p2 (λz=>g (d.F7.mp z)) (λz=>{.ref a,H,I,rfl,A (c.F7.mp z)}) (λz=>?_) (by rw[<-ċa,<-ťa];show f);show{.ref ß,_,Øb (t':=ĕ) (o:=.tup (i++r)) (λb C q=>Į _ q) Đ ?_,rfl,m (λw=>z (c.F7.mpr w)) _ Őc};show{by rw[ê];show f,_,d.append c,Ħi _ _}
#print a
nonrec def ixN(n:Â)(i:Æ):Ê Â:=if 0<=i then(if i<n then À Ϗb else Ä)else if -(n:Æ)<=i then À (i+n).toNat else Ä
def j3{α:Type}(xs:Á α)(i:Æ):Ê α:=(ixN ä i).bind λj=>xs[j]?
def hJ{n:Â}{i:Æ}{j:Â}(h:ixN n i=À j):seqIndex? i n=À j/\j<n /\ -(n:Æ)<=i/\i<n:=by unfold ixN at h;by_cases h0:0<=i;rw[Ò h0]at h;by_cases h1:i<n;rw[Ò h1]at h;let e:Ϗb=j:=úa h;show{by rw[ϥh h0 h1,e],by omega,by omega,h1};rw[Ó h1]at h;cases h;rw[Ó h0]at h;by_cases h1 : -(n:Æ)<=i;rw[Ò h1]at h;let e:(i+n).toNat=j:=úa h;show{by rw[ųh É h1,e],by omega,h1,by omega};rw[Ó h1]at h;cases h
def CD{α:Type}{xs:Á α}{i:Æ}{v:α}(h:j3 xs i=À v):∃j,seqIndex? i ä=À j/\xs[j]?=À v/\j<ä /\ -(ä:Æ)<=i/\i<ä:=by
 unfold j3 at h;cases e:ixN ä i with
 |Ä=>rw[e]at h;cases h|À j=>rw[e]at h;let{d,c,a,b}:=hJ e;show{j,d,h,c,a,b}
def cR(b:Õ):È:=∀o i,ŧn b Å o i=operate [o,i] (ũc o i)
def pj(X:Cx)(r:R2):È:=
 ∀(àb slice:Õ)(z8:Á ð) (s:Ï) (σ:St) (H:Hp) (x y:V) (v u:Value) (Q:VK),zI X z8 σ H s->yB x v->yB y u->r x y H Q->
  ŧn slice Å v u=operate [v,u] (ũc v u)->Ý Ą X.A (ϫm àb slice v u) ĩb Ĳ s
def JN(X:Cx)(a:ϗ)(r:V->Á V->Hp->VK->È):È:=
 ∀(z8:Á ð) (s:Ï) (σ:St) (H:Hp) (x:V) (xs:Á V) (v:Value) (us:Á Value) (Q:VK),zI X z8 σ H s->yB x v->zo xs us->r x xs H Q->
  Ý Ą X.A Ÿk ĩb Ĳ s
section
variable{X:Cx}{a b:Õ}{ta tb:TE}{pos:Pos}
def pj.or{r g:R2}(h:pj X r)(h':pj X g):pj X (λx y H Q=>r x y H Q\/g x y H Q):=by intro b a f s σ H x y v u Q I e c q d;rcases q with q|q;show h b a f s σ H x y v u Q I e c q d;show h' b a f s σ H x y v u Q I e c q d
def BD{r:R2}(k:pj X r)(j:PE X a ta)(m:PE X b tb)(f:cR b):PE X ļl ēf:=by rw[űp];show ão (Eg j m I h λv u c x y e d g l q=>k a b i c σ e x y v u Q d g l q (f _ _))
def mo(K:Ð):R2:=λx y H Q=>∃p xs i v,x=.ref p/\y=.int i/\yc K H p xs/\j3 xs i=À v/\Q v H
def mv(K:Ð):R2:=λx y H Q=>∃p xs i v,x=.ref p/\y=.int i/\xF K H p xs/\j3 xs i=À v/\Q v H
def mq:R2:=λx y H Q=>∃z i c,x=.str z/\y=.int i/\Ř<=ã/\j3 äh i=À c/\Q Şh H
def hV:pj X (mo X.K):=by
 intro e f l s σ H x y v u Q I G B h m;let{p,O,i,z,rfl,rfl,A,C,q}:=h;cases G;let{t,rfl}:=B;let{k,r,c,P}:=Ϙ A;let{j,b,o,R,F,J}:=CD C;let{w,n,g}:=Ūa o;let L:=Ų;let N:=TW;let a:EP X l σ Q w s:={z,H,I,g,q};by_cases h0:0<=i;let d:Ϗb=j:=by rw[ϥh h0 J]at b;show úa b
 show item_listR ϊf h0 É Ϲk a m;let d:(i+(k.toArray.size:Æ)).toNat=j:=by rw[ųh É F]at b;rw[ģ,<-L];show úa b
 show ŕd (x:=w) c.isList.typeIs ϩk
  (wpAny_getItem_list_neg (Q:=λr E=>r=w/\EP X l σ Q r E) ϊf É Ĳl É Ϲk {rfl,a}) m
def z8b:pj X (mv X.K):=by
 intro a b f s σ H x y v u Q I B l h A;let{p,J,i,z,rfl,rfl,k,n,q}:=h;cases B;let{t,rfl}:=l;let{F,r,e,L}:=ϵ k;let{j,m,g,N,O,P}:=CD n;let{w,C,c}:=Ūa g;let E:=Ų;let G:=TW;let d:EP X f σ Q w s:={z,H,I,c,q}
 show ŕd (x:=w) e.typeIs slot_tuple_getitem.lookup
  (getItem_tuple (j:=j) (Q:=λr o=>r=w/\EP X f σ Q r o) e É É (by rw[ģ,<-E];show m) (by simpa using C) {rfl,d}) A
def z8a:pj X mq:=by
 intro a b r s σ H x y v u Q I m f h l;let{z,i,c,rfl,rfl,w,g,q}:=h;let{t,rfl}:=m;let{B,rfl}:=f;let{j,d,e,A,k,n}:=CD g;let o:Ņl=Ř:=by simp[ài]
 rw[o]at d k n;let p:=TW
 show tail_any (Ói s z t) slot_str_getitem.lookup (getItem_str (c:=c) (by let e1:decide (i < -(2 ^ 63:Æ))=Å:=ē É;let e2:decide (i≥2 ^ 63)=Å:=ē É;rw[e1,e2,ŋh]) (by rw[d];simpa using e) {.str {#[c]},H,Ëa _,{_,rfl},q}) l
def NW(K:Ð):R2:=λx y H Q=>mo K x y H Q\/mv K x y H Q\/mq x y H Q
def z89:pj X (NW X.K):=hV.or (z8b.or z8a)
def z9v(its:Á Value)(n j:Â)(u:Value):ÿd (·.setIfInBounds j u) { cls:=.type Ġ,Ċ:=.seq Ãa n }={ cls:=.type Ġ,Ċ:=.seq (its.set j u).toArray n }:=by simp[ÿd]
theorem zI.lst{a:Á ð}{σ:St}{H:Hp}{s:Ï}{p:Ì}{xs:Á V}(I:zI X a σ H s)(h:H p=À þa) :∃(its:Á Value) (n:Â),zo xs its/\ć p=À { cls:=.type Ġ,Ċ:=.seq Ãa n }/\ä<=ã:=by let{z,its,n,r,e}:=Ė p _ h;show{its,n,r,e,z}
def zI.z0x{d:Á ð}{σ:St}{H:Hp}{s:Ï}{p:Ì}{xs ys:Á V}{its ūa:Á Value}{n a:Â}{f:Obj->Obj}(I:zI X d σ H s)(h:H p=À þa)(i:ć p=À { cls:=.type Ġ,Ċ:=.seq Ãa n })(c:f { cls:=.type Ġ,Ċ:=.seq Ãa n }={ cls:=.type Ġ,Ċ:=.seq Ŷh a })(r:zo ys ūa)(hz:ţ<=ã)(t:Â) :zI X d σ (zT H p Ñc) { s with ì:=ϫd p f,Ę:=t }:=by
 let e:(ϫd p f).get? p=À { cls:=.type Ġ,Ċ:=.seq Ŷh a }:=by rw[ϥe f i (by rw[c]<;>rfl),c]
 refine ġe (x:=p) (e:=p) (by rw[h];trivial) ł (λb u g q=>(Ín).trans q) {_,e} ?_;show{hz,ūa,a,r,e}
def y8r:V->V->V->Hp->Îp->È:=λo i v H Q=>∃p xs k j,o=.ref p/\i=.int k/\H p=À þa/\ixN ä k=À j/\Q (ιc (xs.set j v))
def oC:C9 X y8r:=by
 intro x s σ H o i v G J u Q I A C z h;let{p,y,k,j,rfl,rfl,f,w,q}:=h;cases A;let{t,rfl}:=C;let{a,n,r,c,B}:=I.lst f;let{b,F,g,l}:=hJ w;let d:=Ų;let E:=TW
 let m:zI X x σ (ιc (y.set j v)) { s with ì:=ϫd p (ÿd (·.setIfInBounds j u)) }:=
  I.z0x f c (z9v a n j u) (r.set z j) (by rw[èa];show B) ĕ
 by_cases h0:0<=k;let e:Ż=j:=by rw[ϥh h0 l]at b;show úa b
 show W.ki_setAt c h0 É (by rw[ģ,<-d];show l) òl;let e:(k+(Çc:Æ)).toNat=j:=by rw[ųh É g]at b;rw[ģ,<-d];show úa b
 show W.ki_setBack c É (by rw[ģ,<-d];show g) É òl
def x1q(lo hi:Ê Æ)(n:Â):Öh.1=((Ŀ n 0 lo:Â):Æ)/\Öh.2.1=((Ŀ n n hi:Â):Æ)/\Öh.2.2=1:=by
 show{?_,?_,rfl};cases lo with
 |Ä=>simp[ϗd,Ŀ]|À i=>simp only[ϗd,Ŀ,ïm,show(1:Æ)>0 by decide,ś];by_cases h:i<0;simp only[h,ś];rw[Ϟd Ŗj,Đn,<-ìh];simp only[h,Ϧ];let{k,rfl}:=ęb (įc h);rcases ąf k n with q|q;rw[ŋ,œa q,Ϟd Çg];show Úf ĭe;rw[ŋ,Øf q,íh Çg];show Úf Ðj
 cases hi with
 |Ä=>simp[ϗd,Ŀ]|À i=>simp only[ϗd,Ŀ,ïm,show(1:Æ)>0 by decide,ś];by_cases h:i<0;simp only[h,ś];rw[Ϟd Ŗj,Đn,<-ìh];simp only[h,Ϧ];let{k,rfl}:=ęb (įc h);rcases ąf k n with q|q;rw[ŋ,œa q,Ϟd Çg];show Úf ĭe;rw[ŋ,Øf q,íh Çg];show Úf Ðj
def x1p(its:Á Value)(lo hi:Ê Æ):Ŀo Ãa lo hi Ä=((its.drop (Ŀ ÿb 0 lo)).take (Ŀ ÿb ÿb hi-Ŀ ÿb 0 lo)).toArray:=by let{c,b,a}:=x1q lo hi its.toArray.size;unfold Ŀo;rw[c,b,a];simp only[Şm,Ťi,ģ]<;>rfl
def mz(K:Ð):V->Ê Æ->Ê Æ->Hp->VK->È:=λx c b H Q=>∃a xs,x=.ref a/\yc K H a xs/\∀p,H p=Ä->Q ϛ (ιc (Xa xs c b))
def x1l:ZM X (mz X.K):=by intro t s σ H x v u w e f z Q I m l j n h;let{a,c,rfl,k,q}:=h;cases m;let{p,r,g,i}:=Ϙ k;let d:=Ų;show{Ġ,_,ϩk,g.isList.typeIs,?_};refine wpAny_getItem_list_slice ăe l j n .none è ?_ Ĳl;rw[x1p,<-d];show{.ref ß,_,Øb (t':=ĕ) (o:=.lst (Xa c e f)) (λb y q=>Į _ q) Đ ?_,rfl,q _ Őc};show{İ (dX c e f) i,_,0,(ûj (Ŀ ťa 0 e)).take (Ŀ ťa ťa f-Ŀ ťa 0 e),ž _ rfl}
nonrec def jh:V->Ñ
 |.zC=>Ã|.bl _=>Ã|.int _=>Ã|.str _=>Ã|_=>Å
nonrec def j6:V->V->Ñ
 |.zC,.zC=>Ã|.bl a,.bl b=>a==b|.bl a,.int b=>ıl==b|.int a,.bl b=>a==ϰe|.int a,.int b=>a==b|.str a,.str b=>a==b|_,_=>Å
def eI{A:þ}{s:Ï}{y x:V}{u v:Value}(e:yB y u)(c:yB x v)(g:jh y=Ã)(f:jh x=Ã):Ķb A s u v (j6 y x):=by
 cases y with
 |zC=>
  cases e;cases x with
  |zC=>cases c;show ϕg _|bl b=>cases c;show SeqAt.EqAt.none_bool b|int b=>let{t,rfl}:=c;show SeqAt.EqAt.none_int b t
  |str b=>let{t,rfl}:=c;show SeqAt.EqAt.none_str b t
  |_=>show Þ (show Å=Ã from f) Ŗ
 |bl a=>
  cases e;cases x with
  |zC=>cases c;show SeqAt.EqAt.bool_none a|bl b=>cases c;show SeqAt.EqAt.bool_bool a b|int b=>let{t,rfl}:=c;show SeqAt.EqAt.bool_int a b t
  |str b=>let{t,rfl}:=c;show SeqAt.EqAt.bool_str a b t
  |_=>show Þ (show Å=Ã from f) Ŗ
 |int a=>
  let{d,rfl}:=e;cases x with
  |zC=>cases c;show SeqAt.EqAt.int_none a d|bl b=>cases c;show SeqAt.EqAt.int_bool a d b|int b=>let{t,rfl}:=c;show SeqAt.EqAt.int_int a d b t
  |str b=>let{t,rfl}:=c;show Ÿl a d b t
  |_=>show Þ (show Å=Ã from f) Ŗ
 |str a=>
  let{d,rfl}:=e;cases x with
  |zC=>cases c;show SeqAt.EqAt.str_none a d|bl b=>cases c;show SeqAt.EqAt.str_bool a d b|int b=>let{t,rfl}:=c;show Ŷl a d b t
  |str b=>let{t,rfl}:=c;show SeqAt.EqAt.str_str a d b t
  |_=>show Þ (show Å=Ã from f) Ŗ
 |_=>show Þ (show Å=Ã from g) Ŗ
def qD(x:V)(u:Value):Ñ:=match u with
 |.none=>j6 .zC x|.bool b=>j6 ϗb x|.int i _=>j6 òa x|.str z _=>j6 (.str z) x|_=>Å
def GD{x y:V}{u:Value}(r:yB y u)(f:jh y=Ã):qD x u=j6 y x:=by
 cases y with
 |zC=>cases r;rfl|bl b=>cases r;rfl|int i=>let{t,rfl}:=r;rfl
 |str z=>let{t,rfl}:=r;rfl
 |_=>show Þ (show Å=Ã from f) Ŗ
theorem JZ{x:V}:∀{xs:Á V}{us:Á Value},zo xs us->Ĺe jh=Ã->us.any Ϝa=xs.any λy=>j6 y x
 |_,_,.nil,_=>rfl|y::xs,u::us,.cons r t,f=>by rw[Ū,Č]at f;rw[äd,äd,GD r f.1,JZ t f.2]
theorem TY{A:þ}{s:Ï}{x:V}{v:Value}(b:yB x v)(c:jh x=Ã):∀{xs:Á V}{us:Á Value},zo xs us->Ĺe jh=Ã->∀u∈us,Ķb A s u v (qD x u)
 |_,_,.nil,_=>λu a=>by cases a|y::xs,u::us,.cons r t,f=>λd a=>by rw[Ū,Č]at f;rcases Ň a with rfl|a;rw[GD r f.1];show eI r b f.1 c;show TY b c t f.2 d a
def Mj(x:V)(xs:Á V):Ñ:=xs.any λy=>j6 y x
def NU(K:Ð)(a:Ñ):R2:=λx y H Q=>∃p xs,y=.ref p/\(yc K H p xs\/xF K H p xs)/\jh x=Ã/\Ĺe jh=Ã/\Q (.bl (if a then !Mj x xs else Mj x xs)) H
def y5t:xB X ée (NU X.K Å):=by rw[Ĺp];rcases b with b|b;let{a,r,d,i}:=Ϙ b;refine SeqAt.in_listAt Ϝa Ŭi ϓe {.bl _,H,I,rfl,?_};rw[ýp];let{a,r,d,i}:=ϵ b;refine SeqAt.in_tupleAt Ϝa d ϓe {.bl _,H,I,rfl,?_};rw[ýp]
def y5y:xB X Čf (NU X.K Ã):=by rw[Ĺp];rcases b with b|b;let{a,r,d,i}:=Ϙ b;refine SeqAt.notIn_listAt Ϝa Ŭi ϓe {.bl _,H,I,rfl,?_};rw[ýp];let{a,r,d,i}:=ϵ b;refine SeqAt.notIn_tupleAt Ϝa d ϓe {.bl _,H,I,rfl,?_};rw[ýp]
def y5z:xB X Čf (Θd (!(!(ŵe j i 0 Ôa 1).isEmpty))):=by rw[Ĕp];show notIn_str {.bl _,H,I,rfl,q}
def z2t:vn X Ôd (λxs H Q=>∃p ys,xs=Ŗc/\ŗg/\Q ći H):=by intro j s σ H xs k Q I r h;let{p,ys,rfl,b,q}:=h;let{u,rfl,g}:=qK r;cases g;let i:=TW;rcases b with b|b;let{e,d,c,f}:=Ϙ b;let a:=ċa;show Calls.call_len_list ϊf ŝd {.int ţ,H,Ëa _,{ĕ+1,by rw[ģ,a]},q};let{e,d,c,f}:=ϵ b;let a:=ċa;show len_tuple c ŝd {.int ţ,H,Ëa _,{ĕ+1,by rw[ģ,a]},q}
def z2u:vn X Ôd (λxs H Q=>∃z,xs=[.str z]/\Ř<=ã/\Q įo H):=by intro c s σ H xs d Q I r h;let{z,rfl,a,q}:=h;let{u,rfl,t,rfl}:=qK r;let b:=TW;show len_str É {.int Ř,H,Ëa _,{_,rfl},q}
def vn.or{f:Value}{r d:Á V->Hp->VK->È}(h:vn X f r)(h':vn X f d):vn X f (λxs H Q=>r xs H Q\/d xs H Q):=by intro c s σ H xs a Q I b q;rcases q with q|q;show h c s σ H xs a Q I b q;show h' c s σ H xs a Q I b q
def z2w:vn X îa (λxs H Q=>∃p ys,xs=Ŗc/\ŗg/\∀l,H l=Ä->Q øc ģn):=by
 intro A s σ H xs B Q I r h;let{p,ys,rfl,k,q}:=h;let{u,rfl,z}:=qK r;cases z
 have j:∀(a:Á Value),zo ys a->ţ<=ã->∀(c:Heap)(d:Â),(∀b o',ć b=À o'->c.get? b=À o')->
   c.get? ß=À { cls:=.type Ġ,dict:=Ä,Ċ:=.seq ăb d,čc:=#[] }->EP X A σ Q ůb { s with ì:=c }:=λa f g c d i e=>
  {.ref ß,_,Øb (t':=ĕ) i Đ (show xV ø X.w _ c _ Ñc from{g,a,d,f,e}),rfl,q _ Őc}
 rcases k with k|k;let{a,f,t,g}:=Ϙ k;let m:=Îb;let{o,y,v,n,x}:=t.isList;show ϴm p ł y v x ţk ŝd;let{a,f,t,g}:=ϵ k;let m:=Îb;let{o,y,v,n,x}:=t;show ϴm p āb y v x ţk ŝd
def Eo:vn X Şa (μd ((yc X.K H p ys/\∀l,H l=Ä->Q øc ġn)\/(xF X.K H p ys/\Q ϛ H))):=by
 intro j s σ H xs x Q I r h;let{p,ys,rfl,h}:=h;let{u,rfl,v}:=qK r;cases v;rcases h with⟨g,q⟩|⟨g,q⟩;let{a,f,d,i}:=Ϙ g;let k:=Îb;show call_tuple_list Ŭi (λc t=>?_) ŝd;let m:zI X j σ H { s with ì:=c }:=Źc (t':=ĕ) t
 let n:zI X j σ (zT H Ůn Ëe) { s with ì:=c.push { cls:=.type ŷ,Ċ:=.seq ăb } }:=
  m.laid (t':=ĕ) (λb o e=>Į _ e) Đ (show xV ø X.w _ _ _ Ëe from{i,a,f,Ħi _ _})
 show{.ref Ůn,_,n,rfl,q _ (Øi Đ)};let{a,f,d,i}:=ϵ g;show call_tuple_same d {.ref p,H,I,rfl,q}
def SQ(K:Ð)(T:ϗ)(x:V)(H:Hp):È:=match x with
 |.str _=>T = őe|.int _=>T = ċc|.ref p=>(T = Ġ/\∃xs,yc K H p xs)\/(T = ŷ/\∃o,ϓ p=À o/\áb=.type ŷ/\ŀe=Ä) \/
   (T = ϕ/\((∃kvs,H p=À Ō)\/∃kvs,H p=À ŷb))\/(T = ϡa/\∃S n,H p=À (.set S n))
 |_=>î
def rL{l:Á ð}{σ:St}{H:Hp}{s:Ï}{T:ϗ}{x:V}{v:Value}(I:zI X l σ H s)(r:yB x v)(f:SQ X.K T x H) :ćb v T/\∀a,v=.ref a->∃ob,ć a=À ob/\ob.dict=Ä:=by
 cases x with
 |str z=>let{t,rfl}:=r;cases(show T = őe from f);show{Ói s z t,λ_ e=>nomatch e}
 |int i=>let{t,rfl}:=r;cases(show T = ċc from f);show{Ôi s i t,λ_ e=>nomatch e}
 |ref p=>
  cases r;rcases f with⟨rfl,u,m⟩|⟨rfl,o,b,k,g⟩|⟨rfl,b⟩|⟨rfl,S,n,b⟩;let{q,_,j,_}:=Ϙ m;show{j.isList.typeIs,λa e=>?_};cases e;let{o,n,e,c,g,_}:=j;show{o,e,g};show{{o,Ŧ p o b,k},λa e=>?_};cases e;show{o,Ŧ _ o b,g};let z:∃o,ć p=À o/\ũn:=by rcases b with⟨h,b⟩|⟨h,b⟩;rw[Ůp];rw[Ůp]
  let{o,e,d}:=z;rw[řp];let{o,_,_,_,e,d,_}:=Ė p _ b;rw[řp]
 |_=>show ϯ f
nonrec def rA(K:Ð)(T:ϗ)(r:V->Á V->Hp->VK->È)(b:TE):TE:=λσ H Q=>b σ H λx a=>SQ K T x a/\r x [] a Q
nonrec def r9(K:Ð)(T:ϗ)(r:V->Á V->Hp->VK->È)(b:TE)(t:TA):TE:=λσ H Q=>b σ H λx a=>SQ K T x a/\t σ a λc d=>r x c d Q
variable{o e:Õ}{es:Á Õ}{to:TE}{t:TA}{ŀ:Ç}{Ϻ Ž:Pos}{T id:ϗ}{r:V->Á V->Hp->VK->È}
def y6c(j:ĺf T)(c:Slot T ŀ id)(d:àg õb=pure ύe)(t:JN X id r)(q:PE X o to)(a:Î Ūe q12)(b:Î Ōa q12):PE X ώo (rA X.K T r to):=by rw[Ųp];show że a b (zy (q f s σ H _ I h) λv n e=>?_);let{x,l,i,g,p,u}:=e;let{m,k}:=rL i g p;show{T,id,j,c,d,m,k,Ϡc rfl (Źj (t f n σ l x [] v [] Q i g .nil u))}
def y6b(q:ĺf T)(g:Slot T ŀ id)(j:àg õb=pure ύe)(O:JN X id r)(N:PE X o to)(C:PA X đ t)(c:Î Ūe q12)(f:((Ŏb Ž (ōa đ Ø)).all Ğf&&(ŀg).all Úh
   && decide ((đ).length+([]:Á ϐb).length+ķg<30))=Ã:=by rfl)
  (d:Î Ōa q12)(y:Î ϔc q12)(a:Î ((Ŏb Ž Ϛe).any (·.1)=Å) q12) :
  PE X ùl (r9 X.K T r to t):=by
 rw[űp];show wpAny_Call_method_late c f d rfl (zy (N i s σ H _ I h) λv F b=>?_);let{x,B,l,k,G,P}:=b;let{E,w}:=rL l k G;show{T,id,q,g,j,E,w,?_};let m:=C Ž i F σ B _ l P;rw[y]at m ⊢;refine Ϡc (by exact(Å||(Ŏb Ž Ϛe).any (·.1))=Å;rw[a]<;>rfl) (Ĥl ?_);show zy m λL n b=>?_
 let{J,u,p,A,z}:=b;show O i n σ u x J v L Q p k A z
#print a
def C7(X:Cx)(a:ϗ)(r:V->Á V->Hp->VK->È):È:=
 ∀(z8:Á ð) (s:Ï) (σ:St) (H:Hp) (x:V) (xs:Á V) (v:Value) (us:Á Value) (Q:VK),zI X z8 σ H s->yB x v->zo xs us->r x xs H Q->
  Ý Ą X.A Ÿk ĩb Ĳ s
def zo.one{x:V}{us:Á Value}(h:zo [x] us):∃u,us=[u]/\yB x u:=by cases h with|ï r t=>cases t;show{_,rfl,r}
def zo.zero:∀{us:Á Value},zo [] us->us=[]
 |_,.nil=>rfl
theorem zo.rep{xs:Á V}{us:Á Value}(h:zo xs us):∀k:Â,zo (ðo).flatten (š k us).flatten
 |0=>.nil|k+1=>by rw[ϸb,ϸb,Êd,Êd];show œf h (zo.rep h k)
theorem eT(its:Á Value):∀(k:Â)(acc:Á Value),
  Ād (λx1 x2=>x1++x2) Űn (š k Ãa)=(acc++(Ϥn).flatten).toArray
 |0,acc=>by simp|k+1,acc=>by
  let e:Űn++Ãa=(ôi).toArray:=by simp
  let e2:ôi++(Ϥn).flatten=acc++(š Ŝ its).flatten:=by rw[ϸb,Êd,Ţ]
  rw[<-e2,<-eT its k ôi,<-e,ϸb,þh]
section
variable{X:Cx}{z8:Á ð}{σ:St}{H:Hp}{s:Ï}{l b:Ì}{xs ys:Á V}
def zI.LJ{its ūa:Á Value}{n:Â}{f:Ü Value->Ü Value}{t':Â}(I:zI X z8 σ H s)(b:H l=À þa)(e:ć l=À { cls:=.type Ġ,Ċ:=.seq Ãa n })(d:f Ãa=Ŷh)(hv:zo ys ūa)(hz:ţ<=ã) :zI X z8 σ ģn { s with ì:=ϫd l (ÿd f),Ę:=t' }:=by let q:=PySem.IsL.update e f;rw[d]at q;refine ġe (x:=l) (e:=l) (by rw[b];show trivial) ł (λg u c a=>(Ľj á (ÿd f) (ľb c)).trans a) {_,q} ?_;show{hz,ūa,_,hv,q}
def zI.aB{its:Á Value}{t':Â}(I:zI X z8 σ H s)(hv:zo ys its)(hz:ţ<=ã) :zI X z8 σ (zT H ß Ñc) { s with ì:=őa { cls:=.type Ġ,Ċ:=.seq Ãa },Ę:=t' }:=
 Øb Äh Đ {hz,its,0,hv,ž _ rfl}
theorem zI.fresh(I:zI X z8 σ H s):H ß=Ä:=Ģb Đ
def zI.UF(I:zI X z8 σ H s)(a:H l=À þa):ä<=ã/\∃(its:Á Value) (n:Â),zo xs its/\ä=ÿb/\ć l=À { cls:=.type Ġ,Ċ:=.seq Ãa n }:=by let{z,its,n,r,e}:=Ė l _ a;show{z,its,n,r,Ų,e}
def Ko{n:Â}(h:n<=ã):řd n=Å:=by unfold řd;show ē É
#print a
section
variable{X:Cx}
def y8h:V->Á V->Hp->VK->È:=λx a H Q=>∃l xs y,x=.ref l/\a=[y]/\H l=À þa/\ä<ã/\Q .zC (zT H l ım)
def Ki:C7 X Ϧm y8h:=by intro i s σ H x m v o Q I c d h;let{l,j,y,rfl,rfl,b,g,q}:=h;cases c;let{u,rfl,f}:=d.one;let{z,a,n,r,k,e}:=I.UF b;refine Æc F.slot_list_append {_,e,rfl} F.entry_list_append (F.args_list_append_2 _ _) (PySem.list_append l ăb n u Æf) {e,?_};refine{.zC,_,I.LJ (ūa:=a++[u]) b e è (îc (.cons f .nil)) ?_,rfl,q};rw[ê,List.length_singleton];omega
def y8l:V->Á V->Hp->VK->È:=λx a H Q=>∃l b xs zs,x=.ref l/\a=[.ref b]/\H l=À þa/\H b=À (.lst zs)/\ä+Œf<=ã/\Q .zC Ġn
def y0g:C7 X "list.extend" y8l:=by
 intro w s σ H x G v B Q I m j h;let{l,b,y,J,rfl,rfl,g,i,C,q}:=h;cases m;let{u,rfl,p}:=j.one;cases p;let{z,c,n,r,E,e}:=I.UF g;let{A,a,t,o,k,e2}:=I.UF i;let f:Áf+Çc<=ã:=by rw[ģ,ģ];omega
 let d:¬ ćk=Ã:=by rw[Ko f,ëf];show Ŗ
 refine Æc F.slot_list_extend {_,e,rfl} F.entry_list_extend (F.args_list_extend_2 _ _)
  (AutoSeq1.list_extend_list_list_0 l Řf n b ăb t d Æf É) {e,e2,?_}
 refine{.zC,_,I.LJ (ūa:=c++a) g e è (îc o) ?_,rfl,q};rw[ê];omega
def y8i:V->Á V->Hp->VK->È:=λx a H Q=>∃l xs,x=.ref l/\a=[]/\H l=À þa/\Q .zC (zT H l Ăb)
def y0e:C7 X "list.clear" y8i:=by intro g s σ H x k v m Q I d f h;let{l,i,rfl,rfl,c,q}:=h;cases d;let a:=f.zero;subst a;let{z,b,n,r,j,e}:=I.UF c;refine Æc F.slot_list_clear {_,e,rfl} F.entry_list_clear (F.args_list_clear_1 _) (AutoSeq1.list_clear_list_0 l ſa n Æf) {e,?_};show{.zC,_,I.LJ (ūa:=[]) (ys:=[]) c e rfl .nil ϖb,rfl,q}
def y8q:R2:=λx y H Q=>∃l k xs,x=.ref l/\y=.int k/\H l=À þa /\ -(2 ^ 63)<=k/\k<2 ^ 63/\ä*Ż<=ã/\
 ∀p,H p=Ä->Q ϛ (ε (.lst (Ęn).flatten))
def iC{α:Type}(xs:Á α)(k:Â):(ðo).flatten.length=k*ä:=by
 induction k with
 |Ϡ=>simp|ϡ k ih=>rw[ϸb,Êd,ê,ih,Nat.succ_mul,êd]
theorem y60:xB X Ĝf y8q:=by
 intro L s σ H x y v u Q I G B h;let{l,k,N,rfl,rfl,J,C,w,p,q}:=h;cases G;let{t,rfl}:=B;let{z,b,n,r,K,e}:=I.UF J;have d:òb*Ż<=ã:=by rw[ģ,<-K];show p
 let i:¬ òb*Ż>ĝo/8:=by
  let:(ã:Â)<=ĝo/8:=by decide
  omega
 let g:¬ (!Builtin.List.listFitsIndex k)=Ã:=by rw[fitsIndex_both C w];show Ŗ
 let c:¬ řd (òb*Ż)=Ã:=by rw[Ko d];show Ŗ
 let f:Ād Ûn #[] (š (if b.toArray.isEmpty=Ã then 0 else Ż) ſa)=(š Ż b).flatten.toArray:=by
  let A:∀m:Â,Ād Ûn #[] (š m ſa)=(š m b).flatten.toArray:=λm=>by let:=eT b m [];rw[ġm]at this;rw[ņp]
  rw[A];cases b with
  |nil=>simp|ï a r'=>rw[Ó è]
 refine wpAny_binaryOp_repeat_ref (T := Ġ) (U := ċc) Í {_,e,rfl} (λE=>Ôi E k t) noFill_list_mul F.fills_int_mul Ĥm repeat_list F.slot_int_index.lookup
  (Æc Ĥm (Ôi s k t) F.entry_int_rmul (F.args_int_rmul_2 _ _) (int___rmul___int_list k t l ſa n)
   {e,rfl,{_,e,rfl},Æc F.slot_list_mul {_,e,rfl} F.entry_list_mul (F.args_list_mul_2 _ _) (AutoListH.list___mul___list_int_3 l ſa n k t g i c) {e,?_}})
 rw[f];show{.ref _,_,I.aB (t':=ĕ) (r.rep Ż) (by rw[iC,Ċn];show p),rfl,q _ Ģe}
#print a
#print L2
namespace Att
open ķ ϵi PySem.Calls ĺ
def z7w{P:ìg}{h:Heap}:∀(ns:Á Æ)(vs:Á Value),WellAll P h vs Īc->ňb vs ns:=by
 intro ns
 induction ns with
 |nil=>intro vs w;rw[Ćf]at w;cases w;show .nil|ï n ns ih=>
  intro vs w;rw[ŭ]at w;cases w with
  |ï a b=>cases a;show .cons _ _ (ih _ b)
def script_of{l:OpenLaw}{n:Â}(p:Āj=À n){P:ìg}{h:Heap}{ϫ:Á WData}{c:Á Value}(b:l.row.toRowW.claim.pre ϫ=Ã)(j:WellAll P h c ϫ) :∃a vs ns,c=[ċ a]/\ϫ=[WData.list Īc]/\ĭ a=À { cls:=.type Ġ,Ċ:=.seq ĳa }/\ňb vs ns/\ϰ<=n:=by
 let i:WShape.hasAll [] ϫ [.list .int]=Ã:=ώm.1;let k:l.pre.holds [] { ϫ:=ϫ }=Ã:=ώm.2;let{d,r,rfl,t,s}:=hasAllW_cons i;obtain rfl:=hasAllW_nil s;let{u,rfl,o}:=hasW_list t;let{ns,rfl}:=items_int o
 let e:ϰ<=n:=by
  unfold OpenLaw.pre at k
  let f:(WTm.not (.lt (.lit Źa) (.len (.arg 0)))).holds [] { ϫ:=[.list (Œa .int)] }=Ã:=by let f:=(holds_andW k).1;rw[p]at f;show f
  let g:=condW_of f (w_not (w_lt w_lit (w_len_list (w_arg rfl))));rw[æ]at g;show Nat.le_of_not_lt λq=>?_
  let m:(n:Æ)<((ϰ:Â):Æ):=by omega
  first
   |(rw[õ m]at g;show Þ g Í)
   |(simp at g;omega)
 cases j with
 |ï w1 w2=>
  cases w2;cases w1 with
  |list ho hall=>show{_,_,ns,rfl,rfl,ho,z7w ns _ hall,e}
def post_true(l:OpenLaw)(ϫ:Á WData):l.row.toRowW.claim.post ϫ Įf ϫ=Ã:=
 postW_of (r:=ŵh) (X:=ño)
  (show áo [] Įf .bool=Ã by first|rfl|decide|simp[áo,WShape.arms,WShape.armsAll])
  (show(WTm.eq .res (.lit Įf)).value [] { ϫ:=ϫ,res:=À Įf,after:=ϫ }=À (.bool ño)from w_eq_bool (w_res rfl) w_lit) rfl
#print Att
namespace L2
open ķ ņ ĺ
theorem rV:∀{vs:Á Value}{ns:Á Æ},ňb vs ns->zo Ća vs
 |_,_,.nil=>.nil|_,_,.cons n t h=>.cons {t,rfl} (rV h)
def cQ(H:Hp):È:=∀b,H b=Ä\/∃o xs,H b=À Ìo
def z98{P:ë}{w:å}{K:Ð}{C N:Ç->Ê Value}{CX:gC}{k:Â}{S a:Ì}{fd:Ľ}{x:Ç}{sp:Sp}{c:Ï}{vs:Á Value}{ns:Á Æ}(Y:ř ŵc)(I:Ĝi Ĕ C)(g:Ĝi Ûi N)(Q:∀x:Ç,x ≠ Ði->N x=Ŷ x)(G:c.heap.NoLimit)(hg:c.gens=#[])(L:ód a=À { cls:=.type Ġ,Ċ:=.seq ĳa })(hi:ňb vs ns)(hl:ϰ<=ã)(hr:yp k īd)(F:∀Ë:Heap,ř Ë->Ĭd Ĕ C->xN P w K C Ë CX k S fd [x] sp)(l:∀(s:Ï)(u:Value),Ďb s fd {[u],[]} [(x,u)])(R:∀H:Hp,cQ H->yc K H a Ća->sp ña H ϐl λ_ _ _=>î)(O:∀H e s',CX [] H c (λ_ _ _=>î) e s'->î) :Òb Ĵb īd Ϣk ŋj c:=by
 let rv:=rV hi;let t:=hi.length
 have j:∀H:Hp,cQ H->yc K H a Ća->wK P w H ŵc->(∀b,H b≠Ä->b=a)->(H a≠Ä->ϓ a=Ä)->
   Òb Ĵb īd Ϣk ŋj c:=by
  intro H X hS zf hA hK;let f:∀{b:Ì}{o:Obj},ód b=À o->H b=Ä->(ϱd).get? b=À o:=λe n=>z7g e n
  let T:∀{b:Ì}{o:Obj}{B:Ü ĸb}{y:Â},ód b=À o->ŀa=.dict B y->H b=Ä:=λ{b o B y} e d=>by
   cases q:H b with
   |Ä=>rfl|À u=>have U:b=a:=hA b ēh;subst U;rw[L]at e;cases e;let d':Data.seq ĳa _=Data.dict B y:=d;cases d'
  let i:∀{b:Ì}{m:Ç->Ê Value},Ĝi b m->(ϱd).Ns b m:=λ{b m} ⟨o,B,y,e,d,r⟩=>{o,B,y,f e (T e d),d,r}
  let A:ř ϱd:=λb o e=>f (Y b o e) (by
   cases q:H b with
   |Ä=>rfl|À u=>have U:b=a:=hA b ēh;subst U;rw[hK ēh]at e;cases e)
  let hM:Mod K C ϱd:={A,i I,{N,i g,Q},let ⟨mc,h1,h2⟩:=G;{mc,i h1,h2}};let e0:Wi P w K C ϱd īd [] c H:={rfl,hM,λb o e=>y2o e,Ĭb (z7h _ _),trivial,λb g=>Þ (show b∈([]:Á Ì)from g) è,zf,.of_eq hg};show Żd ((F _ A (i I)).run īd [] c H {ña,[]} ña ña _ _ hr e0 (l c Ş) Ďm (R H X hS)) λr s' h=>?_
  cases r with
  |ċg e=>show(O H e s' h).elim|ok fl=>
   cases fl with
   |next=>show ϯ h|brk=>show ϯ h|ĕb=>show ϯ h|ret u=>
    let{v,H',os,J,Z,p,r',q}:=h;let q':v=.bl Ã:=q;subst q';obtain rfl:u=Ĺf Ã:=r';show{rfl,OldK.of_keep λb o e=>?_,os,J};cases q:H b with
    |Ä=>show Z.keep b o e q (by intro z;show Þ (show b∈([]:Á Ì)from z) è) è|À u=>
     rcases X b with z|⟨ob,xs,z⟩
     .rw[q]at z;cases z
     .let z2:=Z.tq b ob _ z;let{e1,_}:=zf b _ z;let{e2,_}:=p b _ z2;rw[e]at e1;cases e1;show e2
 cases hk:ϓ a with
 |À o=>have e:=Y a o hk;rw[L]at e;cases e;refine j Āb (λ_=>.inl rfl) (.inr {_,ĳa,_,hk,rfl,rfl,rfl,by rw[ģ,t];show hl,by simpa using rv}) (λb u z=>by let E:(Ä:Ê HO)=À u:=z;cases E) (λb z=>Þ rfl z) λz=>Þ rfl z|Ä=>show j (λb=>if b=a then À (.yI { cls:=.type Ġ,Ċ:=.seq ĳa } (Β Ća))else Ä) (λb=>?_) (.inl (.inr {{ cls:=.type Ġ,Ċ:=.seq ĳa },Ò rfl})) (λb u z=>?_) (λb z=>?_) λ_=>hk;by_cases g:b=a;show .inr {_,_,Ò g};show .inl Õj;by_cases g:b=a;let E:=(Ò g).symm.trans z;cases E;subst g;show{L,by rw[æ];show hl,vs,_,rv,L};let E:=(Õj).symm.trans z;cases E;by_cases g:b=a;show g;show Þ Õj z
nonrec def gX(s:Ú)(j:Â):Ú:=match s with
 |.ClassDef _ _ _ Ĕc _ _ _ _ _ _ _=>body.getD j àm|_=>.Pass {0,0,0,0}
nonrec def p9(s:Ú):şo:=match s with
 |.FunctionDef _ a _ _ _ _ _ _ _ _=>a|_=>{ posonlyargs:=[],ϫ:=[],vararg:=Ä,kwonlyargs:=[],kw_defaults:=[],kwarg:=Ä,defaults:=[] }
nonrec def vZ(s:Ú):Á Ú:=match s with
 |.FunctionDef _ _ b _ _ _ _ _ _ _=>b|_=>[]
nonrec def zU(s:Ú):Ûa:=match s with
 |.FunctionDef _ _ _ _ _ _ sc _ _ _=>sc|_=>{ kind:=.function,ćg:=[],isGenerator:=Å,isCoroutine:=Å }
abbrev xJ:gC:=λ_ _ _ _ _ _=>î
abbrev E0:XK:=λ_ _ _=>î
def Xz{X:Cx}:XW xJ X E0:=λ_ _ _ _ _ _ _ h=>ăj
structure Fun(K:Ð)(x qual:Ç)(st:Ú)(f:Ì)(fd:Ľ):È where
 ex:∃(oc:Value) (od:Ê Ì) (kV doc pm:Value) (an:Ê Ì) (cdv ct:Value) (osl:Ü śa),
  fd=Ñb x qual Ļb Ça Ŏ .none kV doc pm an cdv ct/\ϓ f=À {oc,od,.func fd,osl}/\Ĉb K cdv qual=Ã
 kp:Õa K Ĵ=Ã
section
variable{P:ë}{w:å}{K:Ð}{mg:Ç->Ê Value}{Ë:Heap}
def Fun.ok{x a:Ç}{st:Ú}{f:Ì}{i:Ľ}{N ps:Á Ç}{k:Â}{sp:Sp}(F:Fun K x a st f i)(S:zk N ps Ŏ)(e:∀vs H Q E,sp vs H Q E->ö=č)(c:∀(b:Value)(A:þ)(ą:Á Env)(s:Ï)(H:Hp)(vs:Á V)(Q:VK)(E:XK),yp k Ϙk->sp vs H Q E->
   ∃t,tK (Ϩj).qP Ça t/\t { nx:=λ_ H'=>Q .zC H',rt:=Q } Ńc H):xN P w K mg Ë xJ Ŝ f i ps sp:=by
 let{p,o,kV,m,v,u,b,r,n,rfl,j,g}:=F.ex;show eS j g S e λA ą s H vs Q E l d=>?_
 rw[Šp]
def Fun.binds{x a:Ç}{st:Ú}{f:Ì}{g:Ľ}{ps:Á Ç}(F:Fun K x a st f g)(h:∀(kV c e:Value)(d:Ê Ì)(b ct:Value)(us:Á Value),Ű=č->όf (Ñb x a Ļb Ça Ŏ .none kV c e d b ct) {us,[]}=pure ňc):qS K g ps []:=by let{m,l,kV,c,e,d,b,ct,j,rfl,k,i}:=F.ex;show .all (h kV c e d b ct)
def eZ{x a:Ç}{st:Ú}{f:Ì}{j:Value}{i g:Ê Ì}{e:Ü śa}{kV d h b ct:Value}(l:ϓ f=À {j,i,.func ϸj,e})(c:Ĉb K b a=Ã)(k:Õa K Ĵ=Ã):Fun K x a st f ϸj:={{j,i,kV,d,h,g,b,ct,e,rfl,l,c},k}
#print a
def zV{A:þ}{k:Â}(a:yp k A):ľa+1<Ϫ:=íb (Ĩc (by decide:1<=64) _) a.units
def x1r{n:Â}(h:n<=1000):n<ã:=íb h Í
def YR{A B:È}(h:B):if Å=Ã then A else B:=by rw[Ó Ŗ];show h
def YS{A B:È}(h:A):if Ã=Ã then A else B:=by rw[Ò rfl];show h
def zm(H H':Hp):È:=∀b o,H b=À o->H' b=À o
def Ķa(H:Hp):zm H H:=λ_ _ h=>h
def zm.trans{H e d:Hp}(a:zm H e)(b:zm e d):zm H d:=λc o h=>b c o (a c o h)
def zm.free{H H':Hp}(e:zm H H'){l:Ì}(h:H' l=źn):H l=źn:=by
 cases q:H l with
 |Ä=>rfl|À o=>rw[e l o q]at h;cases h
#print L2
set_option linter.all false
set_option maxRecDepth 100000
set_option maxHeartbeats 4000000
namespace L2
open ķ ņ ĺ
def Def(K:Ð)(a:Ç->Ê Value)(x:Ç)(st:Ú)(ps:Á Ç):È:=
 ∃(f:Ì) (fd:Ľ),Fun K x x st f fd/\a x=À Ĵ/\qS K fd ps []
def vI(P:ë)(w:å)(K:Ð)(b:Ç->Ê Value)(a:Heap)(x:Ç)(ps:Á Ç)(k:Â)(sp:Sp):È:=
 ∃(f:Ì) (fd:Ľ),b x=À Ĵ/\Õa K Ĵ=Ã/\qS K fd ps []/\xN P w K b a xJ k f fd ps sp
def vC(a:Ç->Ê Value)(x:Ç)(v:V):È:=∃u,a x=À u/\yB v u
section
variable{P:ë}{w:å}{K:Ð}{mg:Ç->Ê Value}{Ë:Heap}
theorem Def.ok{x:Ç}{st:Ú}{N ps:Á Ç}{k:Â}{sp:Sp}(d:Def K mg x st ps)(S:zk N ps Ŏ)(c:∀vs H Q E,sp vs H Q E->ö=č)(a:∀(f:Ì)(b:Value)(A:þ)(ą:Á Env)(s:Ï)(H:Hp)(vs:Á V)(Q:VK)(E:XK),yp k (úb (Ëb x Ŏ ß f b))->sp vs H Q E->
   ∃t,tK (qC xJ P w K mg Ë N x Ŏ f b A ą s H E).qP Ça t/\t { nx:=λ_ H'=>Q .zC H',rt:=Q } Ńc H):vI P w K mg Ë x ps Ŝ sp:=by
 let{f,g,F,h,e}:=d;show{f,g,h,F.kp,e,Ϲ S c (a f)}
#print a
section
variable{X:Cx}{x:Ç}{p pos:Pos}{e:Õ}{es:Á Õ}{t:TA}{ps:Á Ç}{j k:Â}{sp:Sp}{v:V}{T:ϗ}
nonrec def xD:Õ->Ñ
 |.Starred ..=>Å|_=>Ã
def qJ{e:Õ}{es:Á Õ}{env:Env}(h:xD e=Ã):ōa đ env=(Å,ď e env)::ōa es env:=by cases e<;>first|rfl|cases h
theorem WB{env:Env}{pos:Pos}:∀{es:Á Õ},es.all xD=Ã->(Ϗl).any (·.1)=Å
 | [],_=>rfl|e::es,h=>by rw[Ū,Č]at h;rw[qJ h.1];let a:=WB (env:=env) (pos:=pos) h.2;unfold Ŏb at a ⊢;rw[ŭ,äd,a];rfl
def tR{a:TE}(c:PE X e a)(b:PA X es t)(h:Î Óa q12):PA X đ (Q4 a t):=lM c b (qJ h)
nonrec def Lj:Õ->Ê Æ
 |.Constant òa _ _=>À i|_=>Ä
def z1s{e:Õ}{i:Æ}(h:Lj e=À i):∃k p,e=.Constant òa k p:=by
 cases e<;>first|(cases h;done)|skip
 rename_i c k p;cases c<;>first|(cases h;done)|skip
 cases h;show{k,p,rfl}
def Ób:Á Õ->Ê Ŧf
 | []=>À []|e::r=>(Lj e).bind λi=>(Åg).map (i::·)
theorem lN:∀{es:Á Õ}{is:Á Æ},Ób es=À is->PA X es (λ_ H Q=>Q (is.map όc) H)
 | [],is,h=>by cases(show À []=À is from h);show jw|e::r,is,h=>by
  let q:((Lj e).bind λi=>(Åg).map (i::·))=À is:=h;cases e1:Lj e with
  |Ä=>rw[e1]at q;cases q|À i=>
   rw[e1]at q;let{k,p,rfl}:=z1s e1;cases e2:Ób r with
   |Ä=>rw[e2]at q;cases q|À js=>rw[e2]at q;cases(show À (i::js)=À is from q);show tR N5 (lN e2)
def BE(h:vI ø X.w X.K ó ŕ x ps k sp)(d:yp j X.A)(m:Gl X x)(i:PA X đ t)(hk:Î Őb q10)(a:Î ī q10)(c:Î ęa q12):PE X Ųa Ŋm:=by let{f,n,l,g,b,F}:=h;rw[Ū,Č]at c;show y6e F (d.mono hk) m l g b .nil Xz i a (qJ c.1) (WB c.2)
def Vd(h:vC ó x v)(b:Gl X x)(a:Î ī q10):PE X àa ŉe:=by let{u,c,r}:=h;show y6l b c r a
def y6d(a:Gl X x)(b:ó x=Ä)(hv:Ŷ x=À ŵb)(c:Î ïb q10)(d:Î ī q10):PE X àa ĳn:=
 y6a a b hv rfl c d
#print a
section
variable{X:Cx}
def Kz:xB X (ża .FloorDiv) Ďk:=Tc λi j _ _ _ _ _ a q=>by let b:(0:Æ)<j:=a.1;let d:j<2 ^ 64:=a.2;let c:j.natAbs.log2<64:=(űo).mpr É;show PyProof.Rows.floordiv_int É (by rw[żk i É];show q) (.inl (PyProof.noPylong_of_log2 É))
#print a
def gO:Ŷ "len"=À Ôd:=by rw[ÿp]
def z2g:Ŷ ĳc=À Ķh:=by rw[ÿp]
def z2j:Ŷ "sum"=À ďm:=by rw[ÿp]
def z2f:Ŷ "all"=À Đm:=by rw[ÿp]
def z2h:Ŷ Ýb=À ϥm:=by rw[ÿp]
def z2d:Ŷ ċc=À Ża:=by rw[ÿp]
def z2c:Ŷ ĸe=À Ÿa:=by rw[ÿp]
def M5:Ŷ Ġ=À îa:=by rw[ÿp]
def M6:Ŷ ŷ=À Şa:=by rw[ÿp]
def z8r{K:Ð}:ş K Ża Ża=À Ã:=by rfl
def z8p{K:Ð}:ş K Ÿa Ża=À Ã:=by kernel_rfl
def z8q{K:Ð}:ş K Ża Ÿa=À Å:=by kernel_rfl
def z8o{K:Ð}:ş K Ÿa Ÿa=À Ã:=by rfl
def z8t{K:Ð}:ş K Æd Ża=À Å:=by kernel_rfl
def z8s{K:Ð}:ş K Æd Ÿa=À Å:=by kernel_rfl
def z8v{K:Ð}:ş K Şa Şa=À Ã:=by rfl
def z8u{K:Ð}:ş K Ϻa Ϻa=À Ã:=by rfl
def wv{H:Hp}{p:Ì}(h:H p=Ä)(o:HO):zm H ŋc:=λb u q=>by rw[z_ (pJ q h)];show q
def Ņa{n:Â}(h:n<=1000):n<=ã:=Ïa (x1r h)
def XA(env:Env):Á Ša->È
 | []=>Ėb|p::r=>æh p.1=À p.2/\XA env r
theorem XA.get{env:Env}:∀{cl:Á Ša} {y:Ç} {c:Ì},XA env cl->ŗf y=À c->æh y=À c
 | [],_,_,_,h=>by cases h|(n,a)::r,y,c,hc,h=>by
  rw[ϒd]at h;cases e:y==n with
  |Ã=>
   rw[įp]
   subst b;let d:a=c:=by simpa using h
   subst d;show hc.1
  |Å=>rw[e]at h;show XA.get hc.2 ϲa
nonrec def Uv(a:Ûa)(env:Env)(b:Á Ša)(own:Á Ç):Ñ:=
 Ϧh λp=>p.1 != ("." : Ç)&&((p.2 == .local&&(āf p.1||p.1==(".0" : Ç)))||p.2 == .globalImplicit||p.2 == .globalExplicit ||
  (p.2 == .free&&(ŉc p.1==À .cell||ŉc p.1==À .free)&&(b.lookup p.1).isSome))
nonrec def ēc(own:Á Ç)(y:Ç):Ç:=if āf y||y==(".0" : Ç)then "." else y
def wL(N own:Á Ç):Á Ç:=N.map (ēc own)++own
theorem Nd{env:Env}:∀{ćg:Á (Ç×òc)} {y:Ç} {k:òc},
  (names.map λ(n,k)=>if(k==ϸm&&Ţm == .function&&ŉc n==À .cell)then(n,Ϲm)else(n,k)).lookup y=À k->∃k0,(y,k0)∈ćg/\(k=k0\/(k0=.free/\k=.cell))
 | [],_,_,h=>by simp at h|(n,k')::r,y,k,h=>by
  rw[ŭ]at h;by_cases hc:(k'==ϸm&&Ţm == .function&&ŉc n==À .cell)=Ã;dsimp only at h;rw[Ò hc,ϒd]at h;cases e:y==n with
  |Ã=>
   rw[įp]
   subst b;let a:Ϲm=k:=by simpa using h
   let c:k'=.free:=by rw[Č,Č]at hc;simpa using hc.1.1
   show{k',Ł,.inr {c,a.symm}}
  |Å=>rw[e]at h;let{k0,m,z}:=Nd (env:=env) ϲa;show{k0,Üa _ m,z}
  dsimp only at h;rw[Ó hc,ϒd]at h;cases e:y==n with
  |Ã=>
   rw[įp]
   subst b;let a:k'=k:=by simpa using h
   show{k',Ł,.inl a.symm}
  |Å=>rw[e]at h;let{k0,m,z}:=Nd (env:=env) ϲa;show{k0,Üa _ m,z}
def wb(X:Cx)(a:Ûa)(e:Á Ša)(own:Á Ç)(C:Ì)(b:Ï)(d:Hp)(c:Á Ì)(pn:Á ð):Cx:=
 { X with N:=wL X.N own,s₀:=b,H₀:=d,env:=compEnvC a e C Ø,ą:=ġa,stack:=ġa,ex:=c,fn:=λ_=>Å,pn:=pn,xe:=λ_ _=>î }
section
variable{X:Cx}{z8:Á ð}{σ:St}{H2:Hp}{s2:Ï}{Ĺ:Ûa}{cl:Á Ša}{own:Á Ç}{C D:Ì}{fp:Á Ì}
def dE(f:Uv Ĺ Ø cl own=Ã){y:Ç}{k:òc}(h:(όd).names.lookup y=À k) :y ≠ "."/\((k=.local->āf y=Ã\/y = ".0")/\((k=.cell\/k=.free)->(∃k0,(y,k0)∈òd/\k0=.cell)\/(ďk/\∃c,ŗf y=À c))):=by
 let{k0,m,z}:=Nd h;let q:=Ϯa f _ m;rw[Č]at q;let{g,e}:=q;refine{by simpa using g,λa=>?_,λa=>?_};rcases z with z|⟨_,z⟩;subst z;subst a;simpa using e;rw[z]at a;cases a;let b:k0=.free\/k0=.cell:=by rcases z with z|⟨z,_⟩;subst z;rcases a with a|a;show .inr a;show .inl a;show .inl z
 rcases b with b|b;subst b
 right
 let d:((Ĵc y==À .cell||Ĵc y==À .free)&&(ŗf y).isSome)=Ã:=by simpa using e
 rw[Č]at d;show{?_,ŭk d.2};let:=d.1;rw[Bool.or_eq_true]at this;rcases this with t|t;show .inl Ϝl;show .inr Ϝl;show .inl {k0,m,b}
def Ei(b:Uv Ĺ Ø cl own=Ã)(a:∀y∈òd,y.2≠.cell){y:Ç}{k:òc}(h:(όd).names.lookup y=À k)(hk:k=.cell\/k=.free) :ďk/\∃c,ŗf y=À c:=by rcases(dE b h).2.2 hk with⟨d,m,e⟩|q;show Þ e (a _ m);show q
def dF(I:zI X z8 σ H2 s2)(hk:Õi=.function)(f:∀y∈òd,y.2≠.cell)(d:XA Ø cl)(k:Uv Ĺ Ø cl own=Ã)(j:Éf<=C)(g:∀b∈fp,gI X z8 H2 b)(i:∀b∈fp,∃o,Ŵh b=À o):(Ôk).Ok where
 mod:=ųi
 kind:=hk
 glob:=I.ok.glob
 blt:=I.ok.blt
 above:=j
 inj:=λx y c m n=>I.ok.inj x y c (d.get m) (d.get n)
 has:=λx a=>by rcases a with a|a;show(Ei k f (show(όd).names.lookup x=_ from a) ł).2;show(Ei k f (show(όd).names.lookup x=_ from a) āb).2
 UC:=λx c h=>by cases h
 hd:=Ģa
 Ąj:=ſn
 Qr:=.inl rfl
 Qk:=λb a=>{by let{o,e}:=i b a;show ϣ (Ũ ëc j),λx c h=>çj.2.2.2.2.1 x c (d.get h)}
 bs:=I.bs
 ZG:=İ ϻf I.sz
 UH:=λb o e a=>by rcases(g b a).2.2.2.1 with z|z;show I.ok.UH b o e z;show Þ (Ũ ëc (İ ϻf z)) Êa
 UD:=λb a l=>by rcases Ň (I.Qs b l)with z|z;show çj.2.1 z;show çj.2.2.1 z
 jN:=I.stack
 X4:=I.aG
def MV{α:Type}{σ:Á (Ê α)}{n i:Â}{v:α}(h:Ċh[i]?=À ź):σ[i]?=À ź:=by
 by_cases hi:i<σ.length;rw[éb hi]at h;show h;rw[Ęb É,ϝe]at h
 split at h<;>cases h
def z29{J:Heap}{m0:Ç->Ê Value}{g:Obj}{tk:Â}(I:zI X z8 σ H2 s2)(hk:Õi=.function)(q:∀y∈òd,y.2≠.cell)(j:XA Ø cl)(P:Uv Ĺ Ø cl own=Ã)(L:Éf<=C)(Z:Éf<=D)(S:D≠C)(W:∀b∈fp,gI X z8 H2 b)(T:∀b∈fp,∃o,Ŵh b=À o)(f:∀b o,Ŵh b=À o->J.get? b=À o)(ns:J.Ns C m0)(hd:J.get? D=À g)(K:∀v,g.data≠.cell v) :zI Ôk [(D,g)] Ìd H2 { s2 with ì:=J,Ę:=tk }:=by
 let R:∀a,Éf<=a->a ∉ ji ġa:=λa ha Q=>by rcases Ň (I.Qs a Q)with z|z;show Þ (Ũ I.lt ha) (by rw[z];show èb _);show I.aD ha z
 show{dF I hk q j P L W T,rfl,Ϛa,Ġe f,{m0,ns,λi y v e1 e2 e3=>?_},λx c h=>?_,Ģb L,λx c h=>ŗb x c (ĉg h),λp hp=>?_,ŝo f,?_};let F:σ[i]?=À ź:=MV e2
 let hi:i<ù:=by let:=(Š F).1;rw[ēb]at this;rw[ņp]
 let s:Ϡk[i]?=À y:=e1;rw[éb (by simpa using hi),ũ]at s;cases en:X.N[i]? with
 |Ä=>rw[en]at s;cases s|À n=>
  rw[en]at s;let A:ēc own n=y:=úa s
  let vis:∃k,(όd).names.lookup y=À k/\(k=.local\/k=.cell\/k=.free):=by rcases e3 with z|z|z;show{_,z,.inl rfl};show{_,z,.inr ł};show{_,z,.inr āb}
  let{k,H,kk}:=vis;let{nd,O,_}:=dE P H;unfold ēc at A;by_cases E:(āf n||n==(".0" : Ç))=Ã;rw[Ò E]at A;show Þ A.symm nd;rw[Ó E]at A;subst A
  let G:k=.cell\/k=.free:=by
   rcases kk with z|z;exfalso
   apply E;rcases O z with t|t;rw[t];rfl;subst t;simp;show z
  let{ok,c,Y}:=Ei P q H G;let{m,hn,hl}:=Ĩa;let{u,r,l}:=hl i n v en F (.inr ok);show{u,r,.inr {?_,c,Y,?_}};rcases G with z|z;subst z;show .inl H;subst z;show .inr H;rcases l with⟨z,_⟩|⟨_,c',B,z⟩;rcases ok with t|t<;>(rw[t]at z;cases z);rw[ĉg Y]at B;cases B;let{o,U,w}:=z;show{o,f _ _ U,w}
 let{v,o,E,w}:=Ła x c (ĉg h);show{v,o,f _ _ E,w};rcases Þa hp with z|z;let{e,n,ne,nf,d}:=ňa p z;show{f _ _ e,n,ϣ (Ũ ëc L),λQ=>?_,d};rcases Ň (I.Qs p.1 Q)with t|t;show ne t;show nf t;let e:p=(D,g):=by simpa using z
 subst e;show{hd,Ģb Z,S,R D Z,K};exact(Ìd).length=(Ϡk).length;rw[ê,ê,ϲb,æ,ēb]
#print a
def Wy(X:Cx)(a:Á Õ)(b:TT):È:=
 ∀(z8:Á ð) (s:Ï) (σ:St) (H:Hp) (Q:Ñ->Hp->È),zI X z8 σ H s->b σ H Q->
  Ý Ą X.A (Ēb a Ã λc r=>if r=Ã then do let ok <-Ľd c Ø (ď c Ø);pure (ſd ok)else pure (ſd r)) Ĵh Ĳ s
nonrec def SC:TT:=λ_ H Q=>Q Ã H
def mG{X:Cx}:Wy X [] SC:=λ_ _ _ H _ I h=>wpAny_tests_nil {H,I,h}
def y7u{X:Cx}{c:Õ}{t:TT}(h:PT X c t):Wy X [c] t:=λa s σ H Q I q=>wpAny_tests_one (h a s σ H Q I q)
section
variable{Ĝ:ë}{w:å}{A:þ}{R:ŷc->Ï->È}{s:Ï}
def z9c{g tg b:Õ}{d:Á Õ}{a:Ûa}{pos:Pos}{it f:Value}{env:Env}(J:Â->Ï->È)(j:∀n s,J n s->Ý í A (ϵf it) (λr s₁=>match r with
   |Ä=>R Ðo s₁|À v=>Ý í A (ϳe tg it v) (λ_ z=>Ý í A (Ϙb tg env v) (λ_ s₂=>
    Ý í A (Ēb d Ã λc r=>if r=Ã then do let ok <-Ľd c env (ď c env);pure (ſd ok)else pure (ſd r)) (λok s₃=>
     if ok=Ã then Ý í A (ď g env) (λx s₄=>Ý í A (ŉa (.builtin Ϧm) [f,x]) (λ_ s₅=>∃m,m<n/\J m s₅) Òc s₄) Òc s₃
     else ∃m,m<n/\J m s₃) Òc s₂) Òc z) Òc s₁) Òc s)
  (n:Â)(h:J n s):Òb í A (.compLoop ĩk 0 it f env) R s:=by
 let i:∀{P:Value->Ï->È},∀e s',(λ_ _=>î:Value->Ï->È) e s'->P e s':=λ_ _ z=>Ĭ
 show codeAny_loop rfl J (λn s p=>?_) n h;exact Ý _ A (Sem.onRaise (compTurn ĩk 0 it f env) (λx=>do noteFrame x env;theTreesLotGoes x)) _ _ s;show wpAny_noted ?_;rw[compTurn_list];show Ö (ϴe (Ö (ăa (j n s p) (λr s₁ l=>?_) i)));cases r with
 |Ä=>show ę l|À v=>
  show Ö (ăa l (λ_ z o=>?_) i);show Ö (ăa o (λ_ s₂ t=>?_) i);show Ö (ăa t (λok s₃ k=>?_) i);cases ok with
  |Å=>show ę {rfl,k}|Ã=>
   show Ö (Ö (ăa k (λx s₄ q=>?_) i));show Ö (ăa q (λ_ s₅ u=>ę (ę {rfl,u})) i)
#print a
abbrev uV(its:Á Value)(k:Â):Obj:={ cls:=.type Ġ,Ċ:=.seq Ãa k }
def iF{its:Á Value}{k:Â}:∀v,(ćo).data≠.cell v:=λ_ z=>nomatch z
section
variable{X:Cx}{σ:St}{H:Hp}{s:Ï}{D:Ì}
def z7y{pl:Á ð}{its ūa:Á Value}{k f tk:Â}{h':Heap}(I:zI X ((D,uV its k)::pl) σ H s)(m:Ϭb<=D)(g:∀p∈ϣb,p.1≠D)(t:öb D á h')(r:ġ D=À (uV ūa f)):zI X [(D,uV ūa f)] σ H { s with ì:=h',Ę:=tk }:=by
 let{e,n,h,y,d}:=ňa (D,uV its k) ϡn;let l:zI X [] σ H s:=I.Qp λp a=>Þ a è
 let w:zI X [] σ H { s with ì:=h',Ę:=tk }:=l.turned (it:=D) (λb o A q=>(t.2 b A).trans q) n h (.inr m) (λx c j z=>by subst z;let{v,o,i,u}:=Ła x c j;rw[show ć c=À ćo from e]at i;cases i;show d v u) (λp a=>g p ϟl)
 show w.Qp λp a=>by
  let q:p=(D,uV ūa f):=by simpa using a
  subst q;show{r,n,h,y,iF}
#print a
section
variable{X:Cx}{tg ť elt:Õ}{ifs:Á Õ}{Ĺ:Ûa}{cl:Á Ša}{own:Á Ç}{pos:Pos}{te:TE}{tc:TT}{g:TG}{wi:TI}
def x8a{fs ex:Á Ì}{H H':Hp}{h h':Heap}{D:Ì}{o:HO}(u:Un fs ex H H' h h')(f:Àb<=D)(d:H' D=Ä):Un fs ex H Ϩn h h' where
 Ėa:=ĺe
 slot:=Þg
 free:=λb c q n g=>by rw[z_ (λz=>by subst z;show Þ (Ũ įe f) Êa)];show ßg b c q n g
 Ąg:=ϳf
 qR:=λb e q=>by rw[z_ şl];show u.qR b e q
 tq:=λb c v q=>by rw[z_ Đl];show u.tq b c v q
 pZ:=λb i q=>by rw[őp]
def fT{P:ë}{w:å}{H:Hp}{h:Heap}{D:Ì}{o:HO}(x:wK P w H h)(d:H D=Ä)(a:xV P w úo h D o):wK P w úo h:=λb u e=>by by_cases hb:b=D;subst hb;rw[yX]at e;cases e;show a;rw[z_ hb]at e;show(Łi).X5 (λc v _ q=>q) (λc q=>?_) (λc f q=>?_);rw[z_ (pJ q d)];show q;rw[z_ (pJ q d)];show q
structure Z_(X:Cx)(Ĺ:Ûa)(cl:Á Ša)(own:Á Ç):È where
 kind:Õi=.function
 Ϣ:∀y∈òd,y.2≠.cell
 LG:XA Ø cl
 ok:Uv Ĺ Ø cl own=Ã
 LH:Þo Ĺ Ø=pure cl
 ćg:∀y∈òd,y.2=.local->scope.names.lookup y.1=À .local
structure LV(X:Cx)(z8:Á ð)(H:Hp)(s:Ï)(C:Ì):È where
 free:H C=Ä
 ne:C≠Ϯ
 old:Ϭb<=C
 Ϣ:∀x c,Ęa x=À c->c≠C
 pin:∀p∈ϣb++z8,p.1≠C
def IW(σ:St)(n:Â)(J:It)(g:TG)(tc:TT)(te:TE)(W:Â->Â->Á V->Hp->È)(a:Á V->Hp->È):È:=
 ∀i m ys H,W i m ys H->(íg i H/\a ys H)\/(J.go i H/\ţ<ã/\∃N:Á V->Hp->È,(∀ys' H',N ys' H'->∃m',m'<m/\W ñ m' ys' H')/\
  ∀x H',J.uY i H x H'->g x Ċh H' λσ2 e=>(∃τ,σ2=σ++τ)/\tc σ2 e λc b=>if c=Ã then te σ2 b λy d=>N (ys++[y]) d else N ys b)
def dG{z8:Á ð}{σ:St}{H2:Hp}{t:Ï}{l:Á Ì}{it:Ì}{tn:Â->Heap->È}{J:It}{W:Â->Â->Á V->Hp->È}{Fin:Á V->Hp->È}{m0:Â}{RR:Value->Ì->ŷc->Ï->È}(P:Ϗ=Ã)(B:Z_ X Ĺ cl own)(I:zI X z8 σ H2 t)(T:kF ø X.w X.K tg J l it tn)(t0:tn 0 t.heap)(G:∀b∈l,gI X z8 H2 b)(hg:∀C s H l pn,PG šg tg g)(hc:∀C s H l pn,Wy šg ifs tc)(he:∀C s H l pn,PE šg elt te)(W0:W 0 m0 [] H2)(turn:IW σ ϯa J g tc te W Fin)(hRR:∀D C s' H' ys m',zI X z8 σ Þn s'->H' D=Ä->Fin ys H'->s'.heap.Ns C m'->LV X z8 Þn s' C->RR Ϙi C Ðo s'){E:Value->Ï->È} :Ý Ą X.A ķn (λacc s3=>Ý Ą X.A (newFunctionEnv Ĺ Ňh cl [] X.env.qual Ä .none (À Ø)) (λcenv s4=>
   Òb Ą X.A (.compStart çb 0 Ãb acc { cenv with Ĺ:=relabel Ĺ Ø }) (RR acc cenv.locals) s4) E s3) E t:=by
 refine Ğc (wpAny_newFunctionEnv Ĕj (by intro y hy;simp at hy) (λh4 hns Q=>?_) Ņe);dsimp only at hns Q ⊢;generalize hP:t.heap.push ϳo=P2 at hns Q ⊢;have hC:Ąf=İc+1:=by rw[<-hP,Ĩb]
 let R:İc≠Ąf:=by rw[hC];show ϣ ęe
 let f:İc<=Ąf:=by rw[hC];show Ϛd _
 let Y:∀b o,Ŧn b=À o->h4.get? b=À o:=λb o e=>
  Q.extBut b o (ϣ ϣn) (Į _ (hP▸Į _ e))
 let hd4:h4.get? İc=À ϳo:=Q.extBut _ _ R (Į _ (hP▸ž _ rfl));let hfo:∀b∈l,∃o,Ŧn b=À o:=λb d=>let ⟨o,e,_⟩:=Śe 0 _ t0 b d;{o,e}
 let lt:∀b∈l,b<İc:=λb d=>let ⟨o,e⟩:=hfo b d;ħ e
 generalize hDD:İc=D at R hd4 ⊢;generalize hCC:Ąf=C at R hns Q f ⊢;let F:İc<=D:=Ĭb hDD
 let +zeta X':=wb X Ĺ cl own C t H2 l (ϣb++z8)
 let hpn:∀p∈X'.pn,p.1≠D:=λp hp z=>by let{e,_}:=ňa p hp;rw[z]at e;show Þ (Ũ ëc F) Êa
 let okb:=dF I Ņe Ĕj B.LG B.ok f G hfo
 let U:∀{k:Â}{a:Á Value}{H':Hp},(∀b∈l,H' b=Ä)->∀b∈l,gI X' ċf H' b:=λ{k a H'} hn b d=>
  ⟨hn b d,Ķn.1,okb.UD b d,.inl d,Ķn.2,λp hp=>by
   rcases Þa hp with z|z;show ĸd.2.2.2.2.2 p z;let q:p=(D,uV a k):=by simpa using z
   subst q;show λz=>Þ (lt b d) (by rw[<-z];show ϣd F)⟩
 have loop:∀s4:Ï,s4={ t with ì:=h4,Ę:=t.toks+([]:Á įb).length }->
   Òb Ą X.A (.compLoop çb 0 Ãb Ϙi (compEnvC Ĺ cl C Ø)) (RR Ϙi C) s4:=by
  rintro s4 rfl
  show z9c (λn s'=>∃(i:Â) (ys:Á V) (a:Á Value) (k:Â) (H':Hp),zI X' ċf Ìd H' s'/\zo ys a/\tn i ŧc/\(∀b∈l,H' b=Ä)/\W i n ys H'/\ţ<=ã) ?_ m0
   {0,[],[],0,H2,z29 I Ņe Ĕj B.LG B.ok f F R G hfo Y hns hd4 iF,.nil,Ńe _ _ _ t0 λb _ o e=>Y b o e,λb d=>ĸd.1,W0,Ϥ _}
  rintro n s5 ⟨i,ys,a,k,H5,I5,v5,st5,fr5,w5,z5⟩;rcases turn i n ys H5 w5 with⟨Ŵ,fin⟩|⟨go,room,N,hN,Ēc⟩
  .show ăa (T.done X' rfl rfl rfl P i _ s5 _ H5 Òc I5 (U fr5) st5 Ŵ) (λr s6 ⟨hr,I6⟩=>?_) λ_ _ z=>z
   subst hr;let{e6,n6,ne6,nf6,d6}:=I6.pin (D,uV a k) ϡn;let{m6,ns6,_}:=I6.loc;let u6:Un ύi l H2 ŕh t.heap s6.heap:=x8a I6.base F n6;let new6:xV ø X.w ŕh s6.heap D Ñc:={z5,a,k,v5,e6};let I7:zI X z8 σ ŕh s6:=I.F0 I6.os u6 (fT I6.zf n6 new6) I6.bare (λb d=>{ĸd.2.2.2.1,ĸd.2.1,ĸd.2.2.2.2.1,ĸd.2.2.2.2.2});show hRR D C s6 H5 ys m6 I7 n6 fin ns6 {?_,?_,?_,λx c hcx z=>?_,λp hp z=>?_}
   .rw[z_ (ľb R)];show I6.free
   .show λz=>Þ I.lt (by rw[<-z];show ϣd f)
   .show İ I.sz f
   .subst z;let{v,o,ho,_}:=Ła x c hcx;show Þ (Ũ (ħ ho) f) Êa
   .let{e,_}:=ňa p hp;rw[z]at e;show Þ ϣn Êa
  .show ăa (T.item X' rfl rfl rfl P i _ s5 _ H5 Òc I5 (U fr5) st5 go) (λr s6 ⟨u,hr,h6⟩=>?_) λ_ _ z=>z
   subst hr;show ăa h6 (λ_ s7 ⟨x,H7,I7,r7,y7,st7,fr7⟩=>?_) λ_ _ z=>z
   let I7':=I7.pinned (U fr7) (Śe _ _ st7);show ăa (hg C t H2 l _ _ s7 _ H7 x u _ I7' r7 (Ēc x H7 y7)) (λ_ s8 ⟨σ8,H8,I8,⟨τ,hτ⟩,q8⟩=>?_) λ_ _ z=>z
   subst hτ
   have ϻ:∀{n':Â}{S:Á V}{m:Á Value}{k':Â}{L:Hp}{O:Ï}{pl:Á ð},zI X' ((D,uV m k')::pl) Źi L O->zo S m->tn ñ ċj->(∀b∈l,L b=Ä)->W ñ n' S L->S.length<=ã->
     ∃(i:Â) (ys:Á V) (a:Á Value) (k:Â) (H':Hp),zI X' ċf Ìd H' O/\zo ys a/\tn i ċj/\(∀b∈l,H' b=Ä)/\W i n' ys H'/\ţ<=ã:=λ{n' S m k' L O pl} Z v9 st9 fr9 w9 z9=>by
    let I9':zI X' [(D,uV m k')] Źi L O:=Z.Qp λp hp=>Z.pin p (Űa _ (by
     let q:p=(D,uV m k'):=by simpa using hp
     subst q;show Ł))
    show{i+1,S,m,k',L,I9'.weak ?_ (λj v e=>?_),v9,st9,fr9,w9,z9}
    .rw[I9'.len,<-I5.len]
    .let e':=MV e;rw[éb (Š e').1];show e'
   let h:∀{σ9:St}{L:Hp}{O:Ï},zI X' (ċf++Ip l s7.heap) σ9 L O->tn ñ ċj/\∀b∈l,L b=Ä:=λ{σ9 L O} Z=>
    {Ńe _ _ _ st7 λb d o e=>âk.1,λb d=>by let{o,e,_}:=Śe _ _ st7 b d;show âk.2.1}
   show ăa (hc C t H2 l _ _ s8 _ H8 _ I8 q8) (λc O ⟨L,Z,q9⟩=>?_) λ_ _ z=>z
   cases c with
   |Å=>
    rw[Ó Ŗ]at q9 ⊢;let{m',hm,w9}:=hN _ _ q9;show{m',hm,ϻ Z v5 (h Z).1 (h Z).2 w9 z5}
   |Ã=>
    rw[Ò rfl]at q9 ⊢;show ăa (he C t H2 l _ _ O _ L _ Z q9) (λyv sa ⟨y,Ha,Ia,ra,qa⟩=>?_) λ_ _ z=>z
    let{m',hm,wa}:=hN _ _ qa;let{ea,na,_}:=Ia.pin (D,uV a k) (Űa _ (ϴc _ Ł))
    let szi:Çc<=ã:=by let:=v5.length;simp only[ģ];omega
    show wpAny_list_append_plain (hsz:=szi) {k,ea} λd hlb hsb'=>?_
    let{kb,eb}:=hlb;let eb':d.get? D=À (uV Ép kb):=by rw[eb];simp
    let Ib:zI X' [(D,uV Ép kb)] Źi Ha { sa with ì:=d,Ę:=sa.toks }:=z7y (tk:=sa.toks) Ia F hpn hsb' eb';let stb:tn ñ d:=Ńe _ _ _ (h Ia).1 λb hbf o e=>(hsb'.2 b (λz=>Þ (lt b hbf) (by rw[z];show ϣd F))).trans e
    show{m',hm,ϻ Ib (œf v5 (.cons ra .nil)) stb (h Ia).2 wa (by rw[ê];show room)}
 show codeAny_compStart_list Ĺn (T.self X.A 0 _ _ _ (Ńe _ _ _ t0 λb _ o e=>Y b o e) Ĺn)
def x2s(n:Â)(wi:TI)(g:TG)(tc:TT)(te:TE):TE:=λσ H Q=>wi σ H λJ c=>∃W:Â->Â->Á V->Hp->È,(∃m,W 0 m [] c)/\
 IW σ n J g tc te W λb a=>∀p,a p=Ä->Q ϛ ϋh
def LV.inv{a:Á ð}{σ:St}{H:Hp}{s:Ï}{C:Ì}{h':Heap}(o:LV X a H s C)(I:zI X a σ H s)(d:öb C á h'):zI X a σ H { s with ì:=h' }:=
 Ŧa (it:=C) (t':=ĕ) (λb u c q=>(d.2 b c).trans q) o.free o.ne (.inr o.old) o.cell o.pin
def lT(a:Ϗ=Ã)(B:Z_ X Ĺ cl own)(hi:PI X tg ť wi)(F:∀C s H fp pn,PG Àa tg g)(m:∀C s H fp pn,Wy Àa ifs tc)(q:∀C s H fp pn,PE Àa elt te)(z:Î (∀x,ðb ť Ø x=pure x) q11) :PE X çb (x2s ϯa wi g tc te):=by intro l s σ H Q I h;rw[eval_ListComp];show ļk (use:=Ä) rfl z B.LH Ņe B.names (zy šl λv P o=>zy o λL S n=>?_);let{R,fp,N,J,Y,e,u,T,j,y,W,{Z,r},b}:=n;subst e;show dG (RR:=λf C=>compPost Ą X.A Ĳ Ä (EP X l σ Q) f C) a B u T j y F m q r b ?_;intro D C U p G K E t i k c;show{K,k,λO d=>{.ref D,zT p D (.lst G),c.inv E d,rfl,i D t}}
def x38(i n:Â)(wi:TI)(g:TG)(tc:TT)(te:TE):TS:=λD σ H=>wi σ H λJ c=>∃W:Â->Â->Á V->Hp->È,(∃m,W 0 m [] c)/\
 IW σ n J g tc te W λb a=>∀p,a p=Ä->ůa ųm ϋh
def NB{i:Â}{x:Ç}{j c:Pos}(d:Ϗ=Ã)(U:ğa)(o:X.N[i]?=À x)(F:Ϥc x=À .local)(B:Z_ X Ĺ cl own)(E:Ĳb çb (À Ño) c.line Ø=pure Ã)(hi:PI X tg ť wi)(hg:∀C s H fp pn,PG Àa tg g)(K:∀C s H fp pn,Wy Àa ifs tc)(Z:∀C s H fp pn,PE Àa elt te)(hs:Î (∀x,ðb ť Ø x=pure x) q11) :PS X (.Assign [.Name x j] çb c) (x38 i ϯa wi g tc te):=by
 intro l s σ H D I h;rw[exec_Assign_Name_used _ _ _ _ E];show Ö (ϴe (Ö ?_));exact Ý _ X.A (do let _ <-comprehension çb Ĺ Ø _ ķn Å (ď ť Ø) ϩo) _ _ s
 refine Ö (zy (ļk (use:=À Ϥj) (Q:=λ_ f=>SP X l D .next f) rfl hs B.LH Ņe B.names
  (zy šl λv s1 S=>zy S λP s2 O=>?_)) λ_ f R=>ę (ę R))
 let{it,fp,tn,J,H2,e,I2,T,r,f2,W,{m0,w0},k}:=O;subst e;show dG (RR:=λn C=>compPost Ą X.A Ĳ ϩo (λ_ f=>SP X l D .next f) n C) d B I2 T r f2 hg K Z w0 k ?_;intro L C f Y ys m' I' n' q u b;exact Ý _ X.A (Ϙb Ño Ø (.ref L)) _ _ f;show ϰl (ox I' U o (.inl F) (v:=.ref L) rfl (λs3 G q3=>?_) (.inr F));let{a,t,ha}:=q3
 let p:C≠a:=by rcases ha with z|z;rw[z];show b.ne;show λy=>b.cell x a z y.symm
 show{m',u.sameBut t p,λh' m=>?_};show{_,_,LV.inv (H:=zT Y L Ñc) {b.free,b.ne,b.old,b.cell,b.pin} G m,q L n'}
#print a
structure QE(X:Cx)(e:Õ)(t:TE):È where
 h:PE X e t
structure QA(X:Cx)(es:Á Õ)(t:TA):È where
 h:PA X es t
structure QS(X:Cx)(st:Ú)(t:TS):È where
 h:PS X st t
structure QG(X:Cx)(e:Õ)(t:TG):È where
 h:PG X e t
structure LX(X:Cx)(es:Á Õ)(t:ZN):È where
 h:JP X es t
structure QI(X:Cx)(tg e:Õ)(t:TI):È where
 h:PI X tg e t
section
variable{X:Cx}{x:Ç}{p pos ĕa Ϻ Ž:Pos}{e a b c o:Õ}{es:Á Õ}{te to:TE}{t:TA}{r:R2}{v:V}{T id:ϗ}{j k i:Â}
def qv(i:Â){x:Ç}{pos:Pos}(c:Î ĥb q12)(hv:Î ķb q13)(b:Î ī q10)(a:Î Ĭa q10):QE X àa Ņd:={kZ c hv b a}
def y8b(h:vC ó x v)(a:Gl X x)(b:Î ī q10):QE X àa ŉe:={Vd h a b}
def y8a(a:Gl X x)(b:ó x=Ä)(hv:Ŷ x=À ŵb)(c:Î ïb q10)(d:Î ī q10):QE X àa ĳn:={y6d a b hv c d}
nonrec def lq:Õ->Ñ
 |.Name ..=>Ã|.Call ..=>Ã|.Subscript ..=>Ã|.Attribute ..=>Ã|.Constant ..=>Ã|.List ..=>Ã|.Tuple ..=>Ã|.BinOp ..=>Ã|_=>Å
def y7h{e:Õ}{env:Env}(h:lq e=Ã):∀Čc,Ľd e env Čc=(do let v <-Čc;standAt e.pos;holding [v] Ċo):=by cases e<;>first|(intro _;rfl)|cases h
def mU:QA X [] Yo:={jw}
def NQ(b:QE X e te)(a:QA X es t)(h:Î Óa q12):QA X đ ōi:={tR b.h a.h h}
nonrec def Ve:Õ->Ñ
 |.Name ..=>Ã|.Constant ..=>Ã|.BinOp ..=>Ã|.Call ..=>Ã|.UnaryOp ..=>Ã|.Subscript ..=>Ã|.Attribute ..=>Ã|_=>Å
def BH{b:Õ}(h:Ve b=Ã):cR b:=by cases b<;>first|(intro _ _;rfl)|cases h
def BO{r:Á V->Hp->VK->È}(c:vn X õb r)(i:Gl X x)(g:ó x=Ä)(hv:Ŷ x=À õb)(d:QA X đ t)(f:Î ïb q10)(b:Î ī q10)(a:Î ęa q12):QE X Ųa ϡf:=by rw[Ū,Č]at a;show{y6f c i g hv d.h f b (qJ a.1) (WB a.2)}
def O0{r:Á V->Hp->VK->È}(c:vn X ŵb r)(i:Gl X x)(g:ó x=Ä)(hv:Ŷ x=À ŵb)(d:QA X đ t)(f:Î ïb q10)(b:Î ī q10)(a:Î ęa q12):QE X Ųa ϡf:=by rw[Ū,Č]at a;show{y6h c i g hv d.h f b (qJ a.1) (WB a.2)}
variable{g:TG}
nonrec def Ya:Õ->Ñ
 |.ListComp ..=>Å|.SetComp ..=>Å|.DictComp ..=>Å|_=>Ã
def iu{e:Õ}{tgt:Ê Õ}{n:Â}{env:Env}(h:Ya e=Ã):Ĳb e tgt n env=pure Å:=by cases e<;>first|rfl|cases h
def O1(a:QE X e te)(b:Î Ôe q12):QS X Ţh (rB te):={mB a.h (iu b)}
def NT{i:Â}{x:Ç}{ĕa:Pos}(c:ğa)(hi:X.N[i]?=À x)(a:gJ ßa x)(b:QE X e te)(f:Î Ôe q12)(d:Î ϧa q7) :QS X ŷe (S6 te ϙb):={y7p c hi a b.h (iu f) d}
def yu{i:Â}{x:Ç}(c:ğa)(hi:X.N[i]?=À x)(b:gJ ßa x)(a:Î ϧa q7):QG X àa ϙb:={y6y c hi b a}
def mV{o i:Õ}{to a:TE}{t:Ld}(c:QE X o to)(hi:QE X i a)(d:C9 X t)(b:Î (Ve i=Ã) q12):QG X Ϧg (f7 to a t):=by show{y6z c.h ϡb d ?_};cases i<;>first|(intro _;rfl)|cases b
def Yi:LX X [] VD:={y72}
def t7{t:TG}{u:ZN}(c:QG X e t)(a:LX X es u)(b:Î ((Õn).map (·.2)=Ϙb e Ø::(ϥd).map (·.2)) q12):LX X đ (jl t u):={y71 c.h a.h b}
def Yh{k:Â}{t:ZN}{n:Â}(b:Ϗ=Ã)(h:LX X es t)(c:Î đm q12)(a:Î ((ϥd).findIdx? (·.1)=Ä) q12):QG X ãh Ņn:={y70 b h.h c a}
variable{ŀ:Ç}{rm:V->Á V->Hp->VK->È}
theorem og{env:Env}{pos:Pos}:∀{es:Á Õ},es.all xD=Ã->(Ϗl).all Ğf=Ã
 | [],_=>rfl|e::es,h=>by rw[Ū,Č]at h;rw[qJ h.1];let a:=og (env:=env) (pos:=pos) h.2;unfold Ŏb at a ⊢;rw[ŭ,Ū,a];rfl
def I_(i:ĺf T)(c:Slot T ŀ id)(g:àg õb=pure ύe)(k:JN X id rm)(j:QE X o to)(l:QA X đ t)(a:Î Ūe q12)(b:Î Ōa q12)(d:Î ęa q12)(m:Î ((đ).length<30) q10) :QE X ùl (r9 X.K T rm to t):={by let f:=og (env:=Ø) (pos:=Ž) d;rw[Ū,Č]at d;show y6b i c g k j.h l.h a ?_ b (qJ d.1) (WB d.2);rw[f];exact(Ã&&Ã&&decide ((đ).length+0+0<30))=Ã;rw[õ (show(đ).length+0+0<30 from m)];rfl}
#print a
def SqB(K:Ð)(H:Hp)(a c:Ì)(xs ys:Á V):È:=(xF K H a xs/\xF K H c ys)\/(yc K H a xs/\yc K H c ys)
section
variable{X:Cx}{z8:Á ð}{σ:St}{H:Hp}{s:Ï}
def y8y{A:þ}{a c:Ì}{xs ys:Á V}{e:Â->Ñ}(I:zI X z8 σ H s)(k:ľa<Ϫ)(R:SqB X.K H a c xs ys)(Q:∀(j:Â) x' y' u v,xs[j]?=À x'->ys[j]?=À y'->yB x' u->yB y' v->Ķb ϑ s u v (e j)) :ái A s Ş ϥf ((ϲg).all e&&ä==ţ)/\źh A s Ş ϥf (!((ϲg).all e&&ä==ţ)):=by
 let f:∀{B:Á V}{b:Á Value}{j:Â}(O:j<òb),zo B b->∃z,B[j]?=À z/\yB z ſa[j]:=λ{B b j} O r=>by
  let N:=Ų
  let o:j<B.length:=by rw[ģ]at O;omega
  let{u,n,S}:=Ūa (ė o);show{_,ė o,?_}
  let:ſa[j]=u:=by let y:b[j]?=À b[j]:=ė É;rw[y]at n;simpa using n
  rw[this];show S
 rcases R with⟨L,C⟩|⟨L,C⟩;let{b,w,h,_}:=ϵ L;let{i,m,g,_}:=ϵ C;let P:=w.length;let y:=ϐa
 let d:∀j (l:j<òb) (x:j<êf),Ķb ϑ s ſa[j] Ōo[j] (e j):=λj l x=>by rw[ĸp]
 let p:=SeqAt.RcAt.tuples (e:=e) h g k d;let q:=SeqAt.RcNeAt.tuples (e:=e) h g k d;rw[ģ,ģ,<-P,<-y]at p q;show{p,q};let{b,w,h,_}:=Ϙ L;let{i,m,g,_}:=Ϙ C;let P:=w.length;let y:=ϐa
 let d:∀j (l:j<òb) (x:j<êf),Ķb ϑ s ſa[j] Ōo[j] (e j):=λj l x=>by rw[ĸp]
 by_cases N:ä=ţ;let t:òb=êf:=by rw[ģ,ģ];omega
 let p:=SeqAt.RcAt.lists (e:=e) ſf ăe t k d;let q:=SeqAt.RcNeAt.lists (e:=e) ſf ăe t k d;let e1:min ä ţ=òb:=by rw[ģ];omega
 let e2:ïo=Ã:=by simp[N]
 rw[e1,e2,Bool.and_true];show{p,q};let t:(òb != êf)=Ã:=by rw[ģ,ģ];simp;omega
 let e2:ïo=Å:=by simp[N]
 rw[e2,ëf];show{SeqAt.RcAt.lists_lengths ſf ăe t k,SeqAt.RcNeAt.lists_lengths ſf ăe t k}
def Mh(A:þ):A.in1.units=ľa+1:=rfl
#print a
def z4d{x:V}(h:jh x=Ã):j6 x x=Ã:=by cases x<;>first|rfl|show Åc _|cases h
open ϵi (hideAll)
#print L2
namespace L2
open ķ ņ ĺ
section
variable{H H':Hp}{a C:Ì}
def z15(a C:Ì)(h:Heap):È:=∃o vs,ĭ a=À o/\áb=.ref C/\ŀa=.fields vs
def x8b{fs ex:Á Ì}{H H':Hp}{h h':Heap}{D:Ì}{o:HO}(u:Un fs ex H H' h h')(f:ĭ D=Ä)(d:H' D=Ä):Un fs ex H Ϩn h h' where
 Ėa:=ĺe
 slot:=Þg
 free:=λb c q n g=>by rw[z_ (λz=>by subst z;rw[f]at q;cases q)];show ßg b c q n g
 Ąg:=ϳf
 qR:=λb e q=>by rw[z_ şl];show u.qR b e q
 tq:=λb c v q=>by rw[z_ Đl];show u.tq b c v q
 pZ:=λb i q=>by rw[őp]
#print a
section
variable{X:Cx}
def DA{ns:Á Æ}{its:Á Value}(r:zo Ća its){i:Â}{v:Value}(h:Ãa[i]?=À v):∃t,v=.int ųo t:=by
 let d:i<ÿb:=by rw[ϱc]at h;show ēa.1
 let e:ϰ=ÿb:=by let:=Ų;rw[æ]at this;rw[ņp]
 let c:Ća[i]?=À (Δ ųo):=by rw[ũ,Ϭ,ė É];rfl
 let{u,b,a}:=Ūa c;rw[ϱc,b]at h;cases h;show a
theorem N8{ns:Á Æ}:∀(k:Â),k<=ϰ->Ŀe Ŵm k=(ĩf).sum
 |0,_=>by simp[Ŀe]|k+1,h=>by rw[Ŀe,N8 k É,Ϛc É,List.sum_append,Ϭ,ė É];exact _+ns[k]=_+(ns[k]+0);rw[ĉf]
def cU(ns:Á Æ):È:=(∀n∈ns,îg n)/\∀k,k<=ϰ->îg (ĩf).sum
def n8(K:Ð):Á V->Hp->VK->È:=λa H Q=>∃(p:Ì) (ns:Á Æ),a=Ŗc/\(yc K H p Ća\/xF K H p Ća)/\cU ns/\Q (.int ÿj) H
def oy{ns:Á Æ}(h:cU ns):∀j,j<ϰ->îg (Ļf j 0)/\îg (Ŀe Ŵm ϸ):=λj a=>by show{h.1 _ ?_,?_};rw[Ϭ,ė a];show ñb a;rw[N8 _ É];show h.2 _ É
def z31(C:Ϗ=Ã):vn X ďm (n8 X.K):=by
 intro J s σ H L N Q I r h;let{p,d,rfl,m,B,q}:=h;let{u,rfl,G}:=qK r;cases G;let A:=Ģa C;let e:Ŀe (λi=>èg i 0) ċa=d.sum:=by rw[N8 _ Đ,ıc]
 show call_sum_walk ?_;rcases m with m|m;let{a,l,j,F}:=Ϙ m;rw[Łp]
 let c:p<ß:=by let{o,n,e,_}:=j;show ħ e
 show Ϫc j.isList ?_;refine{_,_,_,_,_,_,λi=>èg i 0,rfl,Þi Äo ß p Òj ăb,{{_,ž _ rfl,rfl,rfl},j.isList.push _},?_,λi v y=>DA l y,?_,?_};rw[ĩp];rcases t with rfl|rfl;rw[ķp]
 show⟨.int d.sum,H,Źc (t':=x) λb o g=>k b o (λz=>by
  rw[ŷp]
  rw[this]at g;show Þ Ôj Êa) ϥo,{_,rfl},q⟩
 let{a,l,j,F}:=ϵ m;rw[Łp]
 let f:ßd p ăb:=j;let c:p<ß:=by let{o,e,_}:=f;show ħ e
 show űg f ?_;refine{_,_,_,_,_,_,λi=>èg i 0,rfl,Walks.tuple Äo ß p Òj ăb,{{_,ž _ rfl,rfl,rfl},f.push _},?_,λi v y=>DA l y,?_,?_};rw[ĩp];rcases t with rfl|rfl;rw[ķp]
 show⟨.int d.sum,H,Źc (t':=x) λb o g=>k b o (λz=>by
  rw[ŷp]
  rw[this]at g;show Þ Ôj Êa) ϥo,{_,rfl},q⟩
def x8g{a:Á Ñ}{its:Á Value}(r:zo Ńn its){i:Â}{v:Value}(h:Ãa[i]?=À v):v=.bool Ϙm:=by
 let e:i<ÿb:=by rw[ϱc]at h;show ēa.1
 let f:ό=ÿb:=by let:=Ų;rw[æ]at this;rw[ņp]
 let d:Ńn[i]?=À (.bl Ϙm):=by rw[ũ,Ϭ,ė É];rfl
 let{u,c,b}:=Ūa d;rw[ϱc,c]at h;cases h;show b
def y8w{d:Á Ñ}:(Ía ċa).all (λi=>èg i Å)=d.all id:=by
 rw[Éc,ôm,ôm]
 rw[ſp];intro h b e;let{i,c,rfl}:=Él e;let:=h i (Àc c)
 rwa [Ϭ,ė c]at this;intro h i c;let a:=ϳa c;rw[Ϭ,ė a];show h _ (ñb a)
def md(K:Ð):Á V->Hp->VK->È:=λa H Q=>∃(p:Ì) (bs:Á Ñ),a=Ŗc/\yc K H p (ég V.bl)/\Q (.bl (bs.all id)) H
def z2n(m:Ϗ=Ã):vn X Đm (md X.K):=by
 intro C s σ H E G Q I r h;let{p,g,rfl,y,q}:=h;let{u,rfl,A}:=qK r;cases A;let t:=Ģa m;show call_all_walk ?_;let{a,j,c,J}:=Ϙ y;let B:Íb=Çc:=by let:=Ôa;rw[æ]at this;rw[ģ];rw[ņp]
 let f:p<ß:=by let{o,n,e,_}:=c;show ħ e
 show Ϫc ϊf ?_;refine{_,_,_,_,_,_,λi=>g.getD i Å,rfl,Þi (by show t) ß p (ϣ f) ăb,{{_,ž _ rfl,rfl,rfl},c.isList.push _},?_,?_};intro i v N F L x l;rw[x8g j x];show ę l;intro l w k;rw[<-B,y8w]
 show⟨.bl (g.all id),H,Źc (t':=w) λb o d=>k b o (λz=>by
  rw[ŷp]
  rw[this]at d;show Þ (ħ d) Êa) (Į _ d),rfl,q⟩
#print a
open Builtin.SmallTypes (ύb)
structure W_(P:ë)(w:å)(it l:Ì)(st:Â->Heap->È)(n:Â)(val:Â->Value):È where
 Ėa:∀i h h',st i h->(∀b o,(b=it\/b=l)->ĭ b=À o->ġ b=À o)->st i h'
 Ϥa:∀{A:þ}{Q:Value->Ï->È}{E:Value->Ï->È}{s:Ï}(i:Â),st i á->i<n->(∀h',st ñ h'->öb it á h'->Q (val i) { s with ì:=h' })->Ý Ĵb A Šf Q E s
 done:∀{A:þ}{Q:Value->Ï->È}{E:Value->Ï->È}{s:Ï}(i:Â),Ĺb=Ä->st i á->n<=i->
  (∀h' e,ϊn it á h'->(∃o,ġ e=À o/\áb=.type ϖd)->E Ϥf { s with ì:=h' })->Ý Ĵb A Šf Q E s
section
variable{Ĝ:ë}{w:å}{A:þ}{E:Value->Ï->È}{s:Ï}
def y0s{it t:Ì}{i:Â}{zF}{x:Value}{Q:Value->Ï->È}(a:ųl it t i)(j:ßd t zF)(h:zF[i]?=À x)(g:∀h',h'.IsTupleIter it t ñ->öb it á h'->Q x { s with ì:=h' }):Ý í A Šf Q E s:=by
 let{o,c,f,b}:=id a;let{l,e,_,k,d}:=j;unfold ύb
 show Ö (ϝc (ŀ:=Łc ĵf) a.typeIs Ųe
  (Ϣc Ųe a.typeIs Ĕk ?_ ãk))
 show Ö (m:=Ďc Ãb 0) (ëb c b (x:=.ref t) rfl ?_);rw[Şp];show Ö (m:=Ďc Ãb 1) (ëb c b (x:=.int i 0) rfl ?_);show Ö (m:=seqItems? (.ref t)) (ìb e d ?_);simp only[ŋ,h];refine Ö (Ŝm c b è (ę {x,rfl,ę (g _ ?_ (ŋl ..))}))
 show{_,ϥe _ c (Obj.isFreed_of_fields (źl b _)),(Obj.cls_mapFields ..).trans f,by rw[źl b];simp[Ħe]}
def y0r{it t:Ì}{i:Â}{zF}{Q:Value->Ï->È}(h:Ĺb=Ä)(b:ųl it t i)(k:ßd t zF)(j:zF[i]?=Ä)(l:∀h' e,ϊn it á h'->(∃o,ġ e=À o/\áb=.type ϖd)->E Ϥf { s with ì:=h' }):Ý í A Šf Q E s:=by
 let{o,f,p,d}:=id b;let{q,g,_,n,c}:=k;unfold ύb
 show Ö (ϝc (ŀ:=Łc ĵf) b.typeIs Ųe
  (Ϣc Ųe b.typeIs Ĕk ?_ ãk))
 show Ö (m:=Ďc Ãb 0) (ëb f d (x:=.ref t) rfl ?_);rw[Şp];show Ö (m:=Ďc Ãb 1) (ëb f d (x:=.int i 0) rfl ?_);show Ö (m:=seqItems? (.ref t)) (ìb g c ?_);simp only[ŋ,j];refine Ö (Ád (Ö (Ŝm f d è ?_)));show Ö (m:=newExc (.type ϖd) []) ?_;simp only[newExc,newTuple];show Ö (Ğc ?_ ϖm);refine Ö (m:=šm _ _) (Ëf (a:=Ýd) (by first|rfl|(simp only[šm];rfl)) ?_);show Ğc ?_ ϖm;simp only[raiseNew];show Ö (wpAny_handled ?_)
 first|rw[show A.in1.handled=Ä from h]|rw[h]
 show Ö (ę (wpAny_throw ?_));show l _ _ (((ŋl ..).extBut.push _).push _) {_,ž _ rfl,rfl}
def x22{it l:Ì}(b:l≠it)(a:Ü Value):W_ Ĝ w it l (λi h=>ŷh it l i/\h.IsList l a) ò Ϟg where
 Ėa:=λi h f st k=>{st.1.at λo e=>k it o ł e,st.2.at λo e=>k l o āb e}
 Ϥa:=λi st c m=>wpAny_nextOf_list_item st.1 st.2 (x:=a.getD i .none) ąm λf d g=>m f {d,st.2.extBut g.extBut b} g
 done:=λi n st c j=>wpAny_nextOf_list_end n st.1 st.2 (ώg c) j
def x23{it l:Ì}(b:l≠it)(a:Ü Value):W_ Ĝ w it l (λi h=>ϱm it l i/\Ŏo l a) ò Ϟg where
 Ėa:=λi h f st k=>{st.1.at λo e=>k it o ł e,st.2.at λo e=>k l o āb e}
 Ϥa:=λi st c m=>y0s st.1 st.2 (x:=a.getD i .none) ąm λf d g=>m f {d,st.2.extBut g.extBut b} g
 done:=λi n st c j=>y0r n st.1 st.2 (ώg c) j
variable{z TI TO i1 i2 l1 l2:Ì}{st1 st2:Â->Heap->È}{n1 n2:Â}{v1 v2:Â->Value}{a b:Value}{k:Â}
def w0v{Q:Value->Ï->È}(D:Ąe z TI TO i1 i2 l1 l2)(J:W_ Ĝ w i1 l1 st1 n1 v1)(N:W_ Ĝ w i2 l2 st2 n2 v2)(hz:Ϣa á z TI TO .none)(W:ĥa á TI ôe ůf)(S:ĥa á TO a b)(h1:st1 k á)(h2:st2 k á)(k1:k<n1)(k2:k<n2)(hi1:i1<ß)(hi2:i2<ß)(hl1:l1<ß)(hl2:l2<ß)(hQ:∀h',Ϣa h' z TI TO (Ħe ß)->ĥa h' TO ŀd øg->st1 Ŝ h'->st2 Ŝ h'->ĥa h' ß ŀd øg->
   (∀c o,c≠z->c≠TO->c≠i1->c≠i2->ć c=À o->ġ c=À o)->Q ůb { s with ì:=h' }) :
  Ý í A Çk (λfin s'=>∃v,fin=.done ãe/\Q v s') E s:=by
 rw[Œp];show Ö (ìb W rfl ?_);rw[ģp];refine Ö (ϥc hz è λha q y=>?_)
 replace q:Ϣa ha z TI TO .ellipsis:=q
 rw[Ϡp];let U:st1 k ha:=čj k _ _ h1 λc o I e=>ýe c o (by rcases I with rfl|rfl;show ėg;show D.l1z) e
 show Ö (Χa (Ö (m:=ύb ôe) (J.item k U k1 λhb T B=>ę ?_)));let l:ĥa hb TO a b:=Ċe _ _ D.TOi1 (ýe _ _ Ęg S);show Ö (ìb l rfl (Ö (Ŧg l λI h p=>?_)))
 replace h:ĥa I TO ŀd b:=h
 show Ö Ϙh
 let Y:st2 k I:=Čj k _ _ h2 λc o d e=>by rcases d with rfl|rfl;show Ėd _ _ Ϯh (Ċe _ _ èo (ýe _ _ Ėg e));show Ėd _ _ Ēj (Ċe _ _ D.l2i1 (ýe _ _ D.l2z e))
 show Ö (Χa (Ö (m:=ύb ůf) (N.item k Y k2 λhd R C=>ę ?_)));let n:ĥa hd TO ŀd b:=ĉe _ _ D.TOi2 h;show Ö (ìb n rfl (Ö (Ŧg n λf g t=>?_)))
 replace g:ĥa f TO ŀd øg:=g
 show Ö (Ŵe ϧo);show Ö (ìb g rfl (Ö (ŝm ?_)));let F:Ϙd=ß:=by rw[t.1,C.1,p.1,B.1,y.1]
 let G:Ϣa f z TI TO .ellipsis:=ĕd _ _ æi (ĉe _ _ ço (Ėd _ _ æi (Ċe _ _ åi q)))
 let P:∀c o,c≠z->c≠TO->c≠i1->c≠i2->ć c=À o->f.get? c=À o:=λc o u K X c4 e=>
  ĕd _ _ K (ĉe _ _ c4 (Ėd _ _ K (Ċe _ _ X (ýe _ _ u e))))
 let O:st1 Ŝ f:=čj _ _ _ T λc o d e=>by rcases d with rfl|rfl;show ĕd _ _ όn (ĉe _ _ D.i12 (Ėd _ _ όn e));show ĕd _ _ D.l1TO (ĉe _ _ D.l1i2 (Ėd _ _ D.l1TO e))
 let Z:st2 Ŝ f:=Čj _ _ _ R λc o d e=>by rcases d with rfl|rfl;show ĕd _ _ Ϯh e;show ĕd _ _ Ēj e
 let j:z<Ϙd:=ħ G;show Ö (m:=ôk žb Īo) ?_;unfold ôk;let hzf:Ϣa (f.push { cls:=.type ŷ,Ċ:=.seq #[v1 k,v2 k] }) z TI TO .ellipsis:=Į _ G;refine Ö (ϥc hzf è λhg r sg=>?_)
 replace r:Ϣa hg z TI TO Űo:=r
 refine ϥc r è λL i sh=>?_
 replace i:Ϣa L z TI TO Űo:=i
 let H:∀c o,c≠z->f.get? c=À o->L.get? c=À o:=λc o u e=>ŀo _ _ u (Ło _ _ u ťf)
 let hT:ĥa L Ϙd ŀd øg:=ŀo _ _ (Ϲa j) (Ło _ _ (Ϲa j) æd);rw[F]at i hT;show ę {_,rfl,?_};exact Q Īo _;rw[F];show hQ L i (H _ _ Ęg g) (čj _ _ _ O λc o d e=>H c o ?_ e) (Čj _ _ _ Z λc o d e=>H c o ?_ e) hT λc o u K X c4 e=>H c o u (P c o u K X c4 e)
 .rcases d with rfl|rfl
  .show ėg
  .show D.l1z
 .rcases d with rfl|rfl
  .show Ėg
  .show D.l2z
def w0u{Q:Fin->Ï->È}(R:Ĺb=Ä)(D:Ąe z TI TO i1 i2 l1 l2)(y:W_ Ĝ w i1 l1 st1 n1 v1)(U:W_ Ĝ w i2 l2 st2 n2 v2)(hz:Ϣa á z TI TO .none)(I:ĥa á TI ôe ůf)(C:ĥa á TO a b)(Z:st1 k á)(X:st2 k á)(O:n1<=k\/n2<=k)(S:∀h' e,(∀c o,c≠z->c≠TO->c≠i1->c≠i2->ć c=À o->ġ c=À o)->(∃o,ġ e=À o/\áb=.type ϖd)->E Ϥf { s with ì:=h' }) :Ý í A Çk Q E s:=by
 rw[Œp];show Ö (ìb I rfl ?_);rw[ģp];refine Ö (ϥc hz è λT g l=>?_)
 replace g:Ϣa T z TI TO .ellipsis:=g
 rw[Ϡp];let p:st1 k T:=y.keep k _ _ Z λc o v e=>ŏc c o (by rcases v with rfl|rfl;show ėg;show D.l1z) e
 by_cases k1:k<n1;let k2:n2<=k:=by omega
 show Ö (Χa (Ö (m:=ύb ôe) (y.item k p k1 λF h1b h=>ę ?_)));let i:ĥa F TO a b:=Ăe _ _ D.TOi1 (ŏc _ _ Ęg C);show Ö (ìb i rfl (Ö (Ŧg i λv N u=>?_)));show Ö Ϙh
 let K:st2 k v:=U.keep k _ _ X λc o L e=>by rcases L with rfl|rfl;show źf _ _ Ϯh (Ăe _ _ èo (ŏc _ _ Ėg e));show źf _ _ Ēj (Ăe _ _ D.l2i1 (ŏc _ _ D.l2z e))
 show Ö (Χa (Ö (m:=ύb ůf) (U.done k R K k2 λW e P G=>?_)));let{H,d,f}:=G;let n:Ϣa W z TI TO .ellipsis:=P _ _ ço (źf _ _ æi (Ăe _ _ åi g));let j:e≠z:=λx=>by subst x;rw[n]at d;cases d;simp at f
 show ϥc n è λB _ q=>S B e (λc o t Y J c4 x=>Żf _ _ t (P _ _ c4 (źf _ _ Y (Ăe _ _ J Ïn)))) {H,Żf _ _ j d,f};refine Ö (Χa (Ö (m:=ύb ôe) (y.done k R p É λF e h G=>?_)));let{H,d,f}:=G;let r:Ϣa F z TI TO .ellipsis:=h _ _ åi g;let j:e≠z:=λx=>by subst x;rw[r]at d;cases d;simp at f
 show ϥc r è λB _ q=>S B e (λc o t _ J _ x=>Żf _ _ t (h _ _ J Ïn)) {H,Żf _ _ j d,f}
#print a
#print L2
namespace L2
open ķ ņ ĺ
def qV(K:Ð)(b:Ñ)(H:Hp)(a:Ì)(xs:Á V):È:=match b with
 |Ã=>xF K H a xs|Å=>yc K H a xs
nonrec def IP(a:Ñ):ϗ:=match a with
 |Ã => "tuple_iterator"|Å => ēm
def p6(b:Ñ)(h:Heap)(a:Ì)(its:Ü Value):È:=match b with
 |Ã=>Ŏo a its|Å=>h.IsList a its
def XS(a:Ñ)(h:Heap)(it l:Ì)(i:Â):È:=∃o,ĭ it=À o/\áb=.type (IP a)/\ŀa=.fields #[.ref l,.int i 0]
theorem XS.at{a:Ñ}{h h':Heap}{it l:Ì}{i:Â}(x:XS a h it l i)(e:∀o,ĭ it=À o->ġ it=À o):XS a h' it l i:=let ⟨o,ho,r⟩:=x;{o,e _ ho,r}
theorem p6.push{b:Ñ}{h:Heap}{a:Ì}{its:Ü Value}(x:p6 b h a its)(o:Obj):p6 b (Ăj o) a its:=by cases b;show Heap.IsList.push x o;show Heap.IsTuple.push x o
def p6.lt{b:Ñ}{h:Heap}{a:Ì}{its:Ü Value}(x:p6 b h a its):a<Àb:=by cases b;let{o,e,_}:=x;show ħ e;let{o,e,_}:=x;show ħ e
section
variable{Ĝ:ë}{w:å}{A:þ}{E:Value->Ï->È}{s:Ï}
def Bs{c:Ñ}{it l:Ì}(b:l≠it)(a:Ü Value):W_ Ĝ w it l (λi h=>XS c h it l i/\p6 c h l a) ò Ϟg:=by cases c;show x22 b a;show x23 b a
def mR{b:Ñ}{l:Ì}{a:Ü Value}{Q:Value->Ï->È}(h:p6 b á l a)(c:Q ůb { s with ì:=őa { cls:=.type (IP b),Ċ:=.fields #[.ref l,.int 0 0] } }):Ý í A (Ľe øc) Q E s:=by cases b;show Ϫc (show ϭm l a from h) c;show űg (show ßd l a from h) c
abbrev DM(t1:Ñ)(h:Heap)(l1:Ì):Heap:=Ăj { cls:=.type (IP t1),Ċ:=.fields #[.ref l1,.int 0 0] }
abbrev DN(t1 t2:Ñ)(h:Heap)(l1 l2:Ì):Heap:=(ŋn).push { cls:=.type (IP t2),Ċ:=.fields #[.ref l2,.int 0 0] }
abbrev DO(t1 t2:Ñ)(h:Heap)(l1 l2:Ì):Heap:=(ϩl).push { cls:=.type ŷ,Ċ:=.seq #[.ref Àb,.ref (ŋn).objs.size] }
abbrev DP(t1 t2:Ñ)(h:Heap)(l1 l2:Ì):Heap:=(Ϩl).push { cls:=.type ŷ,Ċ:=.seq #[.none,.none] }
abbrev QB(t1 t2:Ñ)(h:Heap)(l1 l2:Ì):Heap:=(DP t1 t2 h l1 l2).push { cls:=.type ħa,Ċ:=.fields #[.none,.bool Å,.bool Å,.ref (ϩl).objs.size,.ref (Ϩl).objs.size] }
def w0z(c e:Ñ)(a b:Ì)(xs ys:Ü Value) :Meets (Builtin.«zip.__new__» {[.type ħa,.ref a,.ref b],[]}) (λ_ R s=>p6 c á a xs/\p6 e á b ys/\R (.ok (.ret (.ref (DP c e á a b).objs.size))) { s with ì:=QB c e á a b }):=
 .of_wp λprog w A R s h=>by
  let{m,g,d,n,o}:=s;let{j,i,h}:=h;let l:=sub_zip;let k:p6 c (ŵn {m,g,d,n,o}) a xs:=j;let f:p6 e (ŵn {m.push { cls:=.type (IP c),Ċ:=.fields #[.ref a,.int 0 0] },g,d,n,o}) b ys:=p6.push i _
  wp_walk using mR k,mR f
  show{_,rfl,h}
def z32{b e:Ñ}{a d:Ì}{xs ys:Ü Value}{Q:Value->Ï->È}(i:p6 b á a xs)(f:p6 e á d ys)(h:∀h',Ϣa h' (ß+4) (ß+2) (ß+3) .none->ĥa h' (ß+2) ůb (.ref ϳ)->
   ĥa h' (ß+3) .none .none->XS b h' ß a 0->XS e h' ϳ d 0->
   (∀c o,ć c=À o->ġ c=À o)->Q (.ref (ß+4)) { s with ì:=h' }) :
  Ý í A (ŉa Ío [.ref a,.ref d]) Q E s:=by
 refine callType_new F.called_zip Í (F.typeCall_zip_2 _ _) (F.newCall_zip_2 _ _) (λk=>F.args_object_init_3 k _ _) F.entry_zip_new (w0z b e a d xs ys) {i,f,?_};let g:(DM b á a).objs.size=ß+1:=Ĩb ..;let j:(DN b e á a d).objs.size=ß+2:=by rw[Ĩb,g]
 let m:(DO b e á a d).objs.size=ß+3:=by rw[Ĩb,j]
 let r:(DP b e á a d).objs.size=ß+4:=by rw[Ĩb,m]
 let l:(ϕd).get? (DP b e á a d).objs.size=À _:=ž _ rfl;let p:(ϕd).get? (DO b e á a d).objs.size=À _:=Į _ æd;let n:(ϕd).get? (DN b e á a d).objs.size=À _:=Į _ (Į _ æd);let q:(ϕd).get? (DM b á a).objs.size=À _:=Į _ Řl;let t:(ϕd).get? ß=À _:=Į _ (Į _ Řl);exact _/\_;rw[j,m,r]at l;rw[g,j]at n;rw[m]at p;rw[g]at q;rw[r]
 show⟨{_,l,rfl},h _ l n p {_,t,rfl,rfl} {_,q,rfl,rfl} λc o x=>
  Į _ (Į _ (Į _ (Į _ (Į _ x))))⟩
#print a
section
variable{X:Cx}{z8:Á ð}{σ:St}{H:Hp}{s:Ï}
def zI.UI{b:Ñ}{a:Ì}{xs:Á V}(I:zI X z8 σ H s)(h:qV X.K b H a xs):∃its:Á Value,zo xs its/\p6 b á a Ãa:=by cases b;let{its,r,p,_}:=Ϙ h;show{its,r,żf};let{its,r,p,_}:=ϵ h;show{its,r,p}
def zI.aE{b:Ñ}{a:Ì}{xs ys:Á V}(I:zI X z8 σ H s)(h:qV X.K b H a xs)(h':qV X.K b H a ys):xs=ys:=by cases b;show I.LI h h';show I.FC h h'
def rN{fs ch:Á Ì}{h h':Heap}(k:∀b o,b ∉ ch->ĭ b=À o->ġ b=À o):Un fs ch H H h h':=
 {λb o e _ _ a=>k b o a e,λb o e _ _ a=>{o.slots,k b o a e},λ_ _ _ n _=>n,λb o e a=>{o,k b o a e},λ_ _ z=>z,λ_ _ _ z=>z,λb c e=>{#[],by rw[e];simp}}
def fS{P:ë}{w:å}{ch:Á Ì}{h h':Heap}(x:wK P w H h)(f:∀b∈ch,H b=Ä)(k:∀b o,b ∉ ch->ĭ b=À o->ġ b=À o):wK P w H h':=λb u e=>by
 let a:∀c v,H c=À v->c ∉ ch:=λc v e z=>by rw[f c z]at e;cases e
 show(Łi).X5 (λc v d q=>k c v ?_ q) ŀf λ_ _ q=>q
 rcases d with z|z;rw[z];show a b u e;show a c _ z
def zI.but{ch:Á Ì}{h':Heap}{tk:Â}(I:zI X z8 σ H s)(c:∀b∈ch,gI X z8 H b)(k:∀b o,b ∉ ch->ć b=À o->ġ b=À o):zI X z8 σ H { s with ì:=h',Ę:=tk }:=
 I.F0 (s':={ s with ì:=h',Ę:=tk }) rfl (rN k) Ϟk Ϛa λb a=>{όb.2.2.2.1,όb.2.1,όb.2.2.2.2.1,όb.2.2.2.2.2}
def zI.F3{ch:Á Ì}{h':Heap}{tk:Â}{T:Ì}{o:HO}(I:zI X z8 σ H s)(c:∀b∈ch,gI X z8 H b)(k:∀b o,b ∉ ch->ć b=À o->ġ b=À o)(f:ć T=Ä)(e:H T=Ä)(d:xV ø X.w ùo h' T o):zI X z8 σ ùo { s with ì:=h',Ę:=tk }:=
 I.F0 (s':={ s with ì:=h',Ę:=tk }) rfl (x8b (rN k) f e) (fT Ϟk e d) Ϛa λb a=>{όb.2.2.2.1,όb.2.1,όb.2.2.2.2.1,όb.2.2.2.2.2}
#print a
def C4(K:Ð)(d c:Ñ)(a b:Ì):It:=
  ⟨λi H=>∃xs ys x y,qV K d H a xs/\qV K c H b ys/\xs[i]?=À x/\ys[i]?=À y,
   λi H v e=>∃p,H p=Ä/\v=.ref p/\∀xs ys,qV K d H a xs->qV K c H b ys->∃x y,xs[i]?=À x/\ys[i]?=À y/\e=zT H p ðd,
   λi H=>∃xs ys,qV K d H a xs/\qV K c H b ys/\(ä<=i\/ţ<=i)⟩
def x6y{P:ë}{w:å}{K:Ð}{R:Á Õ}{kk:Â}{pos:Pos}(t1 t2:Ñ)(a b z TI TO t C:Ì)(D:Ąe z TI TO t C a b) :kF P w K (.Tuple R kk pos) öh Én z (λi h=>Ϣa h z TI TO .none/\ĥa h TI Šc ļ/\(∃u v,ĥa h TO u v)/\XS t1 h t a i/\XS t2 h C b i) where
 mem:=by simp
 obj:=λi h st c d=>by let{f,j,{u,v,p},{o4,m,_,d4},{o5,n,_,d5}}:=st;simp only[Ŗa,Ăa,ώa]at d;rcases d with rfl|rfl|rfl|rfl|rfl;show{_,f,λv q=>nomatch q};show{_,j,λv q=>nomatch q};show{_,p,λv q=>nomatch q};show{_,m,λv q=>by rw[d4]at q;cases q};show{_,n,λv q=>by rw[d5]at q;cases q}
 Ėa:=λi h h' st k=>by let{f,j,{u,v,p},m,n}:=st;show{k z è _ f,k TI è _ j,{u,v,k TO è _ p},m.at λo e=>k t è o e,n.at λo e=>k C è o e}
 Ϥa:=by
  rw[ĕp];let{xs,ys,x,y,hx,hy,ex,ey}:=hg;rw[ϒp];let{xu,Q,rxu}:=ru.get ex;let{yw,S,ryw}:=Ūa ey;let k1:i<ūm:=by rw[ģ];show(Š Q).1
  let k2:i<Ūm:=by rw[ģ];show(Š S).1
  let e1:G.toArray.getD i .none=xu:=by let:=Š Q;let{l,e}:=this;simp[ĺh,l,e]
  let e2:L.toArray.getD i .none=yw:=by let:=Š S;let{l,e}:=this;simp[ĺh,l,e]
  let O:ćb žb ħa:={_,f,rfl};let q4:t<ß:=by let{o,e,_}:=m;show ħ e
  let q5:C<ß:=by let{o,e,_}:=n;show ħ e
  unfold ϵf
  show Ö (ϩg (ϝc (ŀ:=Łc ĵf) O Ϣe (Ϣc Ϣe O öm
   (w0v D Ěl ęl f j p {m,pu} {n,Z} k1 k2 q4 q5 pu.lt Z.lt λh' a1 a2 a3 a4 a5 a6=>ę ?_) Ęl)))
  rw[e1,e2]at a2 a5;show{_,rfl,wpAny_letOwnedTupleGo_zip (s:={ s with ì:=h' }) a1 λB b1 J=>?_}
  let hTs:ć ß=Ä:=by
   cases q:ć ß with
   |Ä=>rfl|À o=>show Þ įe Êa
  let U:H ß=Ä:=Ģb Đ;let hTz:ß≠z:=Ϲa (ħ f);let tup:B.get? ß=À { cls:=.type ŷ,Ċ:=.seq #[xu,yw] }:=ęd _ _ hTz a5
  let kk:∀c o,c ∉ Én->ć c=À o->B.get? c=À o:=λc o d e=>by simp only[Ŗa,Ăa,ώa,äg]at d;show ęd _ _ d.1 (a6 c o d.1 d.2.2.1 d.2.2.2.1 d.2.2.2.2 e)
  let new:xV ø X.w (zT H ß ðd) B ß ðd:={ŷg,[xu,yw],.cons rxu (.cons ryw .nil),{_,tup,rfl,_,rfl}};show{.ref ß,zT H ß ðd,I.F3 (tk:=ĕ) Y kk hTs U new,rfl,{ß,U,rfl,λxs' ys' hx' hy'=>?_},{b1,?_,{_,_,ęd _ _ Ęg a2},a3.1.at λo e=>ęd _ _ ėg e,a4.1.at λo e=>ęd _ _ Ėg e},λc d=>?_};rw[I.aE hx' hx,I.aE hy' hy];show{x,y,ex,ey,rfl};show ęd _ _ D.TIz (a6 _ _ D.TIz D.TITO D.TIi1 D.TIi2 j);rw[z_];show(Y c d).1;intro q
  let N:c<ß:=by simp only[Ŗa,Ăa,ώa]at d;rcases d with rfl|rfl|rfl|rfl|rfl;show ħ f;show ħ j;show ħ p;show q4;show q5
  rw[q]at N;show Þ N Êa
 done:=by
  rw[ĕp];let{xs,ys,hx,hy,hend}:=hg;rw[ϒp]
  let A:ūm<=i\/Ūm<=i:=by let l1:=Ńo;let l2:=Ų;rw[ģ,ģ];omega
  let O:ćb žb ħa:={_,f,rfl};unfold ϵf
  show Ö (ϩg (ϝc (ŀ:=Łc ĵf) O Ϣe (Ϣc Ϣe O öm
   (w0u (by show Ģa d) D Ěl ęl f j p {m,pu} {n,Z} A λh' e kk he=>?_) Ęl)))
  let{o,ho,hcl}:=he;show Ö (wpAny_isInstance (T := ϖd) (b:=Ã) {o,ho,hcl} isSubtype_stop ?_);show ę {rfl,I.but (tk:=ĕ) Y λc ob g eb=>?_};simp only[Ŗa,Ăa,ώa,äg]at g;show kk c ob g.1 g.2.2.1 g.2.2.2.1 g.2.2.2.2 eb
 ŕb:=λ_ _ _ _ _ st h=>ém st.1 h
def vJ{a b:Â}(h:a≠b):@Ne Ì a b:=h
def w0w{n a b:Â}(d:a<n)(c:b<n):Ąe (n+4) (n+2) (n+3) n ı a b:=
 {vJ É,vJ É,vJ É,vJ É,vJ É,vJ É,vJ É,vJ É,vJ É,vJ É,vJ É,vJ É,vJ É,vJ É,vJ É,vJ É,vJ É,vJ É}
def z2e:Ŷ ħa=À Ío:=by rw[ÿp]
section
variable{X:Cx}
def fU(K:Ð)(d:TA):TI:=λσ H R=>d σ H λe c=>∃a b xs ys t1 t2,e=[.ref a,.ref b]/\qV K t1 c a xs/\qV K t2 c b ys/\R öh c
def y7b{a b:Õ}{E:TA}{p pos:Pos}{g:Á Õ}{kk:Â}{tp:Pos}(T:Gl X ħa)(Q:ó ħa=Ä)(W:PA X đc E)(S:Î (ōa đc Ø=[(Å,ď a Ø),(Å,ď b Ø)]) q12)(i:Î (ōa [b] Ø=[(Å,ď b Ø)]) q12):PI X (.Tuple g kk tp) Łg (fU X.K E):=by
 intro r s σ H R I h;show Call_ (VQ I T Q z2e (ϋe (zy (W pos r s σ H _ I h) λO f ⟨vs,w,e,U,q1⟩=>?_) (by rw[S,i]) (by rw[i];rfl)));let{l,j,xs,ys,t1,L,rfl,J,Y,q}:=q1;let{u,v,rfl,Z,N}:=Sd U;cases(show u=ċ l from Z);cases(show v=ċ j from N);let{O,_,C}:=e.UI J;let{ws,_,B}:=e.UI Y;let A:=C.lt;let t:=B.lt;show z32 C B λy k F x z o G=>?_
 let P:zI X r σ w { f with ì:=y }:=e.kept (t':=f.toks) G;show ém (s:={ f with ì:=y }) k ?_;generalize hn:ím=n at k F x z o A t
 let D:Ąe (n+4) (n+2) (n+3) n ı l j:=by show w0w A t
 show{n+4,[n+4,n+2,n+3,n,n+1],_,_,w,rfl,P,x6y t1 L l j (n+4) (n+2) (n+3) n ı D,{k,F,{_,_,x},z,o},λc m=>?_,q}
 let d:ím<=c:=by rw[hn];simp only[Ŗa,Ăa,ώa]at m;rcases m with rfl|rfl|rfl|rfl|rfl;show ϭ _ _;show ϭ _ _;show ϭ _ _;rw[ϡp];show ϭ _ _
 show e.Zy d (e.zf.fresh d)
def y8c{a b:Õ}{e:TA}{p pos:Pos}{c:Á Õ}{kk:Â}{i:Pos}(k:Gl X ħa)(j:ó ħa=Ä)(g:QA X đc e)(f:Î ăd q12)(d:Î āo q12) :QI X (.Tuple c kk i) Łg (fU X.K e):={y7b k j g.h (by rw[qJ f,qJ d];rfl) Ģj}
#print a
def dD(a:Ûa)(env:Env)(b:Á Ša)(own:Á Ç):Ñ:=
 a.kind == .function&&Ϧh (λy=>y.2 != .cell)&&Uv a env b own&&Ϧh (λy=>y.2 != .local||Šb y.1==À .local)
def vR{X:Cx}{a:Ûa}{b:Á Ša}{own:Á Ç}(i:Þo a Ø=pure b)(j:Î (XA Ø b) q14)(ok:Î (dD a Ø b own=Ã) q12):Z_ X a b own:=by unfold dD at ok;simp only[Č]at ok;obtain⟨⟨⟨f,h⟩,d⟩,g⟩:=ok;show{Óf f,λy c e=>?_,j,d,i,λy c e=>?_};let:=Ϯa h y c;rw[e]at this;cases this;let:=Ϯa g y c;rw[e]at this;rw[đp]
section
variable{X:Cx}(K:Ð)(hK:X.K=K)
include hK
#print a
def z14(K:Ð)(a:Ì)(xs:Á V):È:=∀H,xF K H a xs
def z3b{K:Ð}{a:Ì}{xs:Á V}{d:Ê Ì}{its:Ü Value}{n:Â}{b:Ü śa}(h:ϓ a=À {.type ŷ,d,.seq its n,b})(hz:ŧi<=ã)(r:zo xs Îe):z14 K a xs:=
 λ_=>.inr {_,its,n,h,rfl,rfl,hz,r}
open Ϻi Ϗn
nonrec def LR(z:Ç):It:={λi _=>i<Ř,λi H x a=>a=H/\∃c,ſc[i]?=À c/\x=.str {#[c]},λi _=>Ř<=i}
section
variable{X:Cx}{tg:Õ}
def z7p(a:TE):TI:=λσ H R=>a σ H λx b=>∃z,x=.str z/\R ÿg b
def x6w{P:ë}{w:å}{K:Ð}{it:Ì}{z:Ç}{t:Tok}{m:ϗ}(j:m = Ğl \/ m = řm):kF P w K tg ÿg ϥb it (λi h=>h.IsStrIter it m z t i/\i<=Ř) where
 mem:=by simp
 obj:=λi h st b g=>by
  let e:b=it:=by simpa using g
  subst e;obtain⟨⟨o,e,c,d⟩,_⟩:=st;show{o,e,λv z=>by rw[d]at z;cases z}
 Ėa:=λi h f st k=>{let ⟨o,ho,r⟩:=st.1;{o,k it è o ho,r},st.2}
 Ϥa:=by
  rw[Ğp];let T:i<Óo:=B;let l:ſc[i]?=À ſc[i]:=by simp[T]
  have U:∀f q (u:Value),(∃t',u=åc {#[ſc[i]]} t')->f.IsStrIter it m z t ñ->öb it á f->∃v,À u=À v/\
    Ý Ą X.A (ϳe tg Ãb v) (λ_ Y=>∃x H',zI X N σ H' Y/\yB x v/\(ÿg).uY i H x H'/\(Y.heap.IsStrIter it m z t ñ/\i+1<=Ř)/\∀b∈[it],H' b=Ä) E { s with ì:=f,Ę:=q }:=λf q u Z a n=>by
   let{t',rfl}:=Z;let I1:zI X N σ H { s with ì:=f,Ę:=q }:=Ŧa (λb o g e=>(n.2 b g).trans e) G J F C p;let{o,e,c,d}:=id a;show{_,rfl,TC (s:={ s with ì:=f,Ę:=q }) e c d (by rcases j with rfl|rfl<;>decide) {.str {#[ſc[i]]},H,I1,{t',rfl},{rfl,_,l,rfl},{a,B},λb g=>(y b g).1}}
  rcases j with rfl|rfl;show wpAny_pyNext_ascii_item st.1 l λf a n=>U f _ _ {_,rfl} a n;show wpAny_pyNext_wide_item st.1 l λf a n=>U f _ _ {_,rfl} a n
 done:=by rw[Ğp];let l:ſc[i]?=Ä:=ώg B;rcases j with rfl|rfl;show wpAny_pyNext_ascii_end Éj st.1 l λf O=>{rfl,Ŧa (t':=ĕ) çl G J F C p};show wpAny_pyNext_wide_end Éj st.1 l λf O=>{rfl,Ŧa (t':=ĕ) çl G J F C p}
 ŕb:=λ_ _ _ _ _ st h=>by rcases j with rfl|rfl;show wpAny_pyIter_striter_ascii st.1 h;show wpAny_pyIter_striter_wide st.1 h
def y79{e:Õ}{j:TE}(n:PE X e j):PI X tg e (z7p j):=by
 intro i s σ H R I h;show zy (n i s σ H _ I h) λv a ⟨x,l,g,k,p⟩=>?_
 let{z,rfl,q}:=p;let{t,rfl}:=(show ∃t,v=åc z t from k)
 let c:∀(d:ϗ),(d = Ğl \/ d = řm)->∀o:Obj,(Áe o).IsStrIter ŵa d z t 0->C8 X i σ tg R īo { a with ì:=Áe o }:=λd f o st=>
  ⟨ŵa,[ŵa],_,_,l,rfl,g.kept (t':=ëg) λb o e=>Į _ e,x6w f,{st,Ϥ _},λb m=>by
   let e:b=ŵa:=by simpa using m
   subst e;show g.Zy Đ (g.zf.fresh Đ),q⟩
 cases ha:z.cps.all (·<128);show wpAny_pyIter_wide ha (c _ āb _ {_,ž _ rfl,rfl,rfl});show wpAny_pyIter_ascii ha (c _ ł _ {_,ž _ rfl,rfl,rfl})
#print a
def U_(z:Ç)(lo hi:Ê Æ):Ç:={((z.cps.toList.drop (Ŀ Ř 0 lo)).take ōk).toArray}
def z35(n:Â)(lo:Ê Æ):(match lo with|Ä=>(0:Æ)|À i=>max 0 Œd)=((Ŀ n 0 lo:Â):Æ)\/∃i,lo=À i/\i<0/\(n:Æ)<i+n:=by
 cases lo with
 |Ä=>left;rfl|À i=>
  left
  exact max 0 Œd=((ĭg:Â):Æ);by_cases h:i<0;simp only[h,ś];omega;simp only[h,Ϧ];omega
def z34(n:Â)(hi:Ê Æ):(match hi with|Ä=>(n:Æ)|À i=>max 0 Œd)=((Ŀ n n hi:Â):Æ):=by
 cases hi with
 |Ä=>rfl|À i=>exact max 0 Œd=((ĭg:Â):Æ);by_cases h:i<0;simp only[h,ś];omega;simp only[h,Ϧ];omega
def z36(n:Â)(lo:Ê Æ):(match lo with|Ä=>(0:Æ)|À i=>max 0 Œd)=((Ŀ n 0 lo:Â):Æ):=by rcases z35 n lo with h|⟨i,_,h1,h2⟩;show h;omega
def lf(z:Ç)(lo hi:Ê Æ):Ùh=(Ía ōk).map (Ŀ Ř 0 lo+·):=by let b:=z36 Ř lo;let a:=z34 Ř hi;rw[<-Şm,<-b,<-a];unfold ϛe;simp only[show(1:Æ)>0 by decide,ś];cases lo<;>cases hi<;>rfl
def z3d(z:Ç)(lo hi:Ê Æ):({((Ùh).filterMap (ſc[·]?)).toArray}:Ç)=U_ z lo hi:=by rw[lf,Ťi];rfl
def Ļe(n d:Â)(a:d<=n)(v:Ê Æ):Ŀ n d v<=n:=by
 cases v with
 |Ä=>show a|À i=>exact ĭg<=n;by_cases h:i<0;simp only[h,ś];omega;simp only[h,Ϧ];omega
def z3g(z:Ç)(lo hi:Ê Æ)(h:(Ùh).length=Ř):U_ z lo hi=z:=by
 rw[lf,æ,ϴa]at h;let a:=Ļe Ř 0 ϖb lo;let b:=Ļe Ř Ř Đ hi;unfold U_;rw[h];let d:Ŀ Ř 0 lo=0\/Ř=0:=by omega
 let f:Ņl=Ř:=by simp[ài]
 rcases d with q|q;rw[q,ũm,<-f,ıc];let e:äh=[]:=Ŋk É;rw[e];simp;cases z with
 |mk c=>simp[ài]at q;simp[q]
theorem Es(z:Ç)(lo hi:Ê Æ):(ņn).length<=Ř:=by exact(List.toArray _).size<=Óo;rw[ģ,Áa,Ŷa,ſ];show İ çe Ĥb
section
variable{X:Cx}
def lQ{v:Value}{lo:Ê Æ}(h:đb v lo):∃l:Ê (Æ×Tok),v=partValue l/\ż (·.1)=lo:=by
 cases h with
 |Ä=>show{Ä,rfl,rfl}|int i t=>show{À (i,t),rfl,rfl}
def m_:V->Ê Æ->Ê Æ->Hp->VK->È:=λx b a H Q=>∃z:Ç,x=.str z/\Ř<=ã/\Q (.str (U_ z b a)) H
def x1m:ZM X m_:=by
 intro j s σ H x v k m o n p Q I g f c i h;let{z,rfl,b,q}:=h;let{t,rfl}:=(show ∃t,v=åc z t from g);let{l,rfl,rfl}:=lQ c;let{u,rfl,rfl}:=lQ i;show{őe,_,F.slot_str_getitem.lookup,Ói _ _ _,?_};show wpAny_getItem_str_slice (l:=l) (u:=u) (st:=Ä) f rfl ?_;unfold sliceMade;let d:slicePicked z l u Ä=ϛe (ż (·.1)) (u.map (·.1)) 1 Ř:=rfl;rw[d]
 split;rename_i a
 let e:(ϛe (ż (·.1)) (u.map (·.1)) 1 Ř).length=Ř:=by rw[Č]at a;show Óf a.2
 rw[z3g z _ _ e]at q;show{.str z,H,I,{_,rfl},q};rw[z3d];show{İ (Es z _ _) b,.str _,H,Ëa _,{_,rfl},q}
#print a
section
variable{X:Cx}{e o:Õ}{to:TE}{Ϻ Ž:Pos}{ŀ:Ç}{T id:ϗ}{rm:V->Á V->Hp->VK->È}
def y89(e:ĺf T)(c:Slot T ŀ id)(d:àg õb=pure ύe)(g:JN X id rm)(f:QE X o to)(a:Î Ūe q12)(b:Î Ōa q12):QE X ώo (rA X.K T rm to):={y6c e c d g f.h a b}
#print a
#print L2
namespace L2
open ķ ņ ĺ
section
variable{κ:Type}[ũb κ]
nonrec def qt(kvs:Á ϕa)(k:κ):Ê V:=(kvs.find? λa=>decide (a.1=k)).map (·.2)
nonrec def tS(kvs:Á ϕa)(k:κ)(v:V):Á ϕa:=
 if(kvs.any λa=>decide (a.1=k))=Ã then Īd (λa=>if a.1=k then(a.1,v)else a)else kvs++[(k,v)]
theorem D9{p:κ×V}{r:Á ϕa}{k:κ}(e:p.1=k):qt (p::r) k=À p.2:=by simp[qt,Öd,e]
theorem D8{p:κ×V}{r:Á ϕa}{k:κ}(e:¬ p.1=k):qt (p::r) k=qt r k:=by simp[qt,Öd,e]
theorem rT(k:κ):∀kvs:Á ϕa,ık=(łf).isSome
 | []=>rfl|p::r=>by rw[äd];by_cases e:p.1=k;simp only[D9 e,õ e,Bool.true_or,Option.isSome_some];rw[D8 e,ē e,Bool.false_or];show rT k r
def KQ(kvs:Á ϕa)(k:κ)(v:V):(ύh).length<=ń+1:=by
 unfold tS
 split;rw[æ];omega;rw[ê,Ě,ϝd];omega
def ur.UE{o:Ê V}{u:Ê Value}(r:ur o u):o.isSome=u.isSome:=by
 cases o with
 |Ä=>cases u with
  |Ä=>rfl|À _=>show(show î from r).elim
 |À _=>cases u with
  |Ä=>show(show î from r).elim|À _=>rfl
theorem ur.getD{o:Ê V}{u:Ê Value}{d:V}{d':Value}(r:ur o u)(a:yB d d'):yB Ďo (u.getD d'):=by
 cases o with
 |Ä=>cases u with
  |Ä=>show a|À _=>show(show î from r).elim
 |À _=>cases u with
  |Ä=>show(show î from r).elim|À _=>show r
def KV.val{kvs:Á ϕa}{vs:Á üd}(r:KV kvs vs)(k:κ):ur łf (ώb vs k):=by
 unfold KV at r
 induction r with
 |nil=>show Śa|@cons p q ps qs h t ih=>
  let{c,d}:=h;rw[ϳp];let b:ώb Ïg k=À q.2:=by simp[ώb,Öd,a]
  rw[D9 e,b];show d;let a:¬ q.1=k:=λz=>e Æg
  let b:ώb Ïg k=ώb qs k:=by simp[ώb,Öd,a]
  rw[D8 e,b];show ih
theorem KV.any{kvs:Á ϕa}{vs:Á üd}(r:KV kvs vs)(k:κ):ık=vs.any λkv=>decide όi:=by
 unfold KV at r
 induction r with
 |nil=>rfl|ï h t ih=>rw[äd,äd,ih,h.1]
theorem KV.F9{kvs:Á ϕa}{vs:Á üd}(r:KV kvs vs)(k:κ){y:V}{u:Value}(b:yB y u) :KV Ϣj (Ýg λkv=>if kv.1=k then(kv.1,u)else kv):=by
 unfold KV at r ⊢
 induction r with
 |nil=>show .nil|@cons p q ps qs h t ih=>rw[ŭ,ŭ];show .cons ?_ ih;let{a,c}:=h;by_cases e:p.1=k;rw[Ò e,Ò Ćm];show{a,b};rw[Ó e,Ó īl];show{a,c}
def KV.put{kvs:Á ϕa}{vs:Á üd}(r:KV kvs vs)(k:κ){y:V}{u:Value}(a:yB y u):KV Ĳn (ăc vs k u):=by unfold tS ăc;rw[r.any k];by_cases e:(vs.any λb=>decide (b.1=k))=Ã;rw[Ò e,Ò e];show r.F9 k a;rw[Ó e,Ó e];show ŷn r {rfl,a}
theorem KV.length{kvs:Á ϕa}{vs:Á üd}(r:KV kvs vs):ń=ö:=ŉh r
#print a
def ZX{P:ë}{w:å}{k:zY}{u:Value}(r:yB Ħj u):(ķa).is k u=Ã:=by
 cases k with
 |inl i=>let{t,e}:=(show ∃t,u=æc i t from r);subst e;show y07 P w i t
 |inr x=>let{t,e}:=(show ∃t,u=åc x t from r);subst e;show Kc P w x t
theorem hG{P:ë}{w:å}:∀{ks:Á zY}{us:Á Value},zo ůl us->ItemsAre ķa ks us
 | [],_,r=>by rw[Ćf]at r;cases r;show .nil|k::ks,_,r=>by
  rw[ŭ]at r;cases r with
  |ï h t=>show .cons (ZX h) (hG t)
abbrev KT(H:Hp):Á ĳb->Á Ħc->È:=Ÿc λp q=>p.1=q.1/\H q.2.1=À ũl/\yB p.2 q.2.2
def KT.val{H:Hp}{kvs:Á ĳb}{xs:Á Ħc}(r:KT H kvs xs)(k:Á zY):ur łf ((ϑh).map (·.2)):=by
 induction r with
 |nil=>show Śa|@cons p q ps qs h t ih=>
  let{c,_,d}:=h;rw[ϳp];let b:Ŕe Ïg k=À q.2:=by simp[Ŕe,Öd,a]
  rw[D9 e,b];show d;let a:¬ q.1=k:=λz=>e Æg
  let b:Ŕe Ïg k=Ŕe qs k:=by simp[Ŕe,Öd,a]
  rw[D8 e,b];show ih
def KT.F9{H:Hp}{kvs:Á ĳb}{xs:Á Ħc}(r:KT H kvs xs)(k:Á zY){y:V}{u:Value}(c:yB y u) :KT H Ϣj (Ōb (ϟa k u)):=by
 induction r with
 |nil=>show .nil|@cons p q ps qs h t ih=>rw[ŭ,ŭ];show .cons ?_ ih;let{a,b,d}:=h;unfold ϟa;by_cases e:p.1=k;rw[Ò e,Ò Ćm];show{a,b,c};rw[Ó e,Ó īl];show{a,b,d}
def KT.put{H:Hp}{kvs:Á ĳb}{xs:Á Ħc}(r:KT H kvs xs)(k:Á zY){b:Ì}{y:V}{u:Value}(d:H b=À âh)(a:yB y u) :KT H Ĳn (storedH xs k b u):=by
 let e:(kvs.any λc=>decide (c.1=k))=(ϑh).isSome:=by rw[rT,(r.val k).UE,Êh]
 unfold tS storedH;rw[e];by_cases q:(ϑh).isSome=Ã;rw[Ò q,Ò q];show r.F9 k a;rw[Ó q,Ó q];show ŷn r {rfl,d,a}
def KT.keeps{H H':Hp}{kvs:Á ĳb}{xs:Á Ħc}(r:KT H kvs xs)(a:∀b ys,H b=À Ëe->H' b=À Ëe):KT H' kvs xs:=
 Ŝf r λ_ _ z=>{z.1,a _ _ z.2.1,z.2.2}
section
variable{P:ë}{w:å}{H:Hp}{h:Heap}{a:Ì}
def nB{u:HO}(ok:wK P w H h)(e:Rd H a u):xV P w H h a u:=e.ok ok
def ZP{kvs:Á ϖ}(ok:wK P w H h)(e:Rd H a Ō):ń<=ã/\éa=Å/\∃vs,KV kvs vs/\ėd ķa a vs:=
 show xV P w H h a Ō from nB ok e
def z3u{kvs:Á ϖ}(ok:wK P w H h)(e:H a=À Ō):ń<=ã/\éa=Å/\∃vs,KV kvs vs/\ėd ķa a vs:=ZP ok Ϟi
def IS{ks:Á zY}(ok:wK P w H h)(e:H a=À Ğo):(ϟd).is h ks a:=by let{_,b,r,o,c,f,n,d}:=(show xV P w H h a Ğo from ok a _ e);show{o,ſa,n,c,f,d,by simpa using hG r}
def T2{kvs:Á ĳb}(ok:wK P w H h)(e:Rd H a ŷb):ń<=ã/\éa=Å/\
  ∃xs,KT H kvs xs/\ŏo ϟd a xs:=by
 let{z,y,xs,r,o,d,k,j,i,f,g,n}:=(show xV P w H h a ŷb from nB ok e);show{z,y,xs,r,o,d,k,j,i,f,g,λx b=>?_,n}
 let c:∀{l:Á ĳb} {m:Á Ħc},KT H l m->∀x∈m,(ϟd).is h x.1 x.2.1:=by
  intro l m q
  induction q with
  |nil=>intro x b;show nomatch b|@cons p q ps qs hq t ih=>intro x b;rcases Ň b with e|b;subst e;show IS ok (by rw[<-hq.1];show hq.2.1);show ih x b
 show c r x b
def z49{kvs:Á ĳb}(ok:wK P w H h)(e:H a=À ŷb):ń<=ã/\éa=Å/\
  ∃xs,KT H kvs xs/\ŏo ϟd a xs:=T2 ok Ϟi
#print a
def Qu(H:Hp)(a:Ì)(y:V)(r:Ê V):È:=
 (∃kvs k,Rd H a Ō/\y=kV k/\r=qt kvs k)\/∃kvs k b,Rd H a ŷb/\y=.ref b/\H b=À âh/\r=qt kvs k
def au(H:Hp)(a:Ì)(y v:V)(H':Hp):È:=
 (∃kvs k,H a=À Ō/\y=kV k/\ń<ã/\H'=zT H a (.dK ύh)) \/
 ∃kvs k b,H a=À ŷb/\y=.ref b/\H b=À âh/\ń<ã/\H'=zT H a (.dT ύh)
section
variable{X:Cx}{z8:Á ð}{σ:St}{H:Hp}{s:Ï}{a:Ì}{y v:V}{u r:Value}{o:Ê V}{A:þ}{E:Value->Ï->È}
def zI.big(I:zI X z8 σ H s):Ĺh<ß:=by let h:Ĕ<ß:=(I.mod.glob.keeps I.bk).lt;show Žh Í h
def z3i{Q:Value->Ï->È}(p:ľa+1<Ϫ)(I:zI X z8 σ H s)(g:Qu H a y o)(m:yB y u)(h:∀s',zI X z8 σ H s'->Q (.bool o.isSome) s') :Ý Ą A (üa .In u Ş) Q E s:=by rcases g with⟨j,k,e,d,l⟩|⟨j,k,b,e,d,n,l⟩;rw[Ïq];show Ťn Īj f ϭi ?_;rw[Đp];show wpAny_in_heap (ϕe p) Ĝo f i ?_;rw[ŕp]
def z3k{Q:Value->Ï->È}(p:ľa+1<Ϫ)(I:zI X z8 σ H s)(g:Qu H a y o)(m:yB y u)(h:∀s',zI X z8 σ H s'->Q (.bool (!o.isSome)) s') :Ý Ą A (üa .NotIn u Ş) Q E s:=by rcases g with⟨j,k,e,d,l⟩|⟨j,k,b,e,d,n,l⟩;rw[Ïq];show wpAny_notIn_of Īj f ϭi ?_;rw[Đp];show wpAny_notIn_heap (ϕe p) Ĝo f i ?_;rw[ŕp]
def df{h':Heap}{t':Â}{c:HO}(I:zI X z8 σ H s)(h:JO (H a))(f:öb a á h')(i:∃q,ġ a=À q)(d:xV ø X.w øo h' a c) :zI X z8 σ øo { s with ì:=h',Ę:=t' }:=
 ġe (x:=a) (e:=a) h ł (λb q g z=>(f.2 b g).trans z) i d
def E_{P:ë}{w:å}{H':Hp}{h':Heap}{kvs:Á ϖ}{vs:Á Ĳa}(z:ń<=ã)(d:éa=Å)(b:KV kvs vs)(c:Ŗf ķa a vs) :xV P w H' h' a Ō:={z,d,vs,b,c}
def z3l{H':Hp}{Q:īa->Ï->È}(O:ľa+1<Ϫ)(I:zI X z8 σ H s)(g:au H a y v H')(J:yB y u)(F:yB v r)(h:∀s',zI X z8 σ H' s'->Q () s') :Ý Ą A (Ϫi Ş u r) Q E s:=by
 rcases g with⟨f,k,e,o,l,n⟩|⟨f,k,b,e,o,K,l,n⟩;subst o n;let{z,m,W,d,p}:=z3u Ė e;have t:ůi<=ã:=by rw[<-ċa];show z
 rw[ůp]
 show wpAny_setItem_pairs (hsz:=t) (ZX J) p λG i x=>h _ ?_
 let R:∃q,G.get? a=À q:=let ⟨q,_,_,j,_⟩:=i;{q,j};show df I Ϲg x R (E_ B m (d.put k F) i);subst o n;cases(show u=ċ b from J);let{z,m,N,d,p}:=z49 Ė e;have t:Ϝ<=ã:=by rw[<-ŉh d];show z
 rw[ůp]
 show wpAny_setItem_heap (hsz:=t) (ϕe O) (IS Ė K) p λG i x=>h _ ?_
 let{q,S,P,j,L,T,U,_,Y}:=i;refine df I Ϲg x {q,j} {B,m,_,(d.put k K F).keeps λc Z C=>?_,q,S,P,j,L,T,U,Y};rw[z_ (y0n C e Ěa)];show C
#print a
section
variable{X:Cx}{z8:Á ð}{σ:St}{H:Hp}{s:Ï}{a:Ì}{kvs:Á ϖ}{A:þ}{E:Value->Ï->È}
def z3j{Q:Value->Ï->È}(I:zI X z8 σ H s)(e:Rd H a Ō)(h:∀t s',zI X z8 σ H s'->Q (.int ń t) s'):Ý Ą A (ŉa Ôd ña) Q E s:=by let{z,c,f,b,d}:=ZP Ė e;refine call_len_dict c d (by rw[<-ϋ];rw[Ś]at z;omega) ?_;rw[<-ϋ];show h _ _ ϔb
#print a
def z3s{X:Cx}{f:Á ð}{σ:St}{H:Hp}{s:Ï}{a:Ì}{y:V}{o:Ê V}(I:zI X f σ H s)(g:Qu H a y o):ćb Ş ϕ:=by rcases g with⟨d,k,e,_,_⟩|⟨d,k,b,e,_,_,_⟩;let{_,_,h,_,c}:=ZP Ė e;show çc;let{_,_,i,_,c}:=T2 Ė e;show çc
nonrec def y97(c e b:TE):TS:=λD σ H=>b σ H λv g=>c σ g λx d=>e σ d λy f=>∃a H4,x=.ref a/\au f a y v H4/\ůa σ H4
section
variable{X:Cx}{o i e àb:Õ}{pos ĕa:Pos}{td ty tv:TE}
def m9(e:Èb+1<Ϫ)(n:PE X o td)(hi:PE X i ty)(hv:PE X àb tv)(w:Ĳb àb (À (.Subscript o i ĕa)) Õc Ø=pure Å) :PS X (.Assign [.Subscript o i ĕa] àb pos) (y97 td ty tv):=by rw[Èq];show wpAny_Assign_Subscript (zy (hv b s σ H _ I h) λr m ⟨v,f,l,j,G⟩=>zy (n b m σ f _ l G) λu p ⟨x,t,q,C,z⟩=>zy (hi b p σ t _ q z) λN L ⟨y,K,c,k,a,F,d,g,B⟩=>?_) w;subst d;obtain rfl:u=ċ a:=C;show z3l e c g k j λJ E=>{σ,F,E,B}
#print a
def z3t{P:ë}{w:å}{H:Hp}(h:Heap)(a:Ĺh<Àb):xV P w H (Ăj { cls:=.type ϕ,Ċ:=.dict #[] }) Àb (.dK []):=
 {Ϥ _,ϯb (ľb (ϣ a)),[],.nil,ģm h}
def x2n:TE:=λ_ H Q=>∀p,H p=Ä->Q ϛ (ε (.dK []))
section
variable{X:Cx}{pos:Pos}
def y6k:PE X âm x2n:=λb s σ H Q I h=>
 wpAny_Dict_empty {.ref ß,_,Øb (a:=ß) (o:=.dK []) (t':=ĕ) Äh Đ (z3t á I.big),rfl,h _ Őc}
#print a
abbrev VV:Á (V×V)->Á (Value×Value)->È:=Ÿc λp q=>yB p.1 q.1/\yB p.2 q.2
def YW(kvs a:Á ϖ):Á ϖ:=a.foldl (λb c=>tS b c.1 c.2) kvs
def KV.merge:∀{more:Á ϖ} {rs:Á Ĳa} {kvs:Á ϖ} {vs:Á Ĳa},KV more rs->KV kvs vs->KV ðn (merged vs rs):=by
 intro more rs kvs vs r;unfold KV at r
 induction r generalizing kvs vs with
 |nil=>intro q;show q|@cons p q ps qs h t ih=>
  intro a
  let e:KV ôh (ăc vs q.1 q.2):=by let:=a.put p.1 h.2;rw[<-h.1];rw[ņp]
  show ih e
theorem iD:∀(more kvs:Á ϖ),(ðn).length<=ń+more.length
 | [],kvs=>by exact ń<=ń+0;omega|p::r,kvs=>by let b:=iD r ôh;let a:=KQ kvs p.1 p.2;exact(YW ôh r).length<=_;rw[Ě];omega
structure M1(X:Cx)(o:Õ)(m:Ç)(Ϻ:Pos)(e:Õ)(Ž:Pos):È where
 Ë:ŏa o m Ø Çe=ď o Ø
 Ql:((Ŏb Ž Øn).all Ğf&&(ŀg).all Úh
  && decide (([e]:Á Õ).length+([]:Á ϐb).length+ķg<30))=Ã
 line:ϟk=Ã
 trees:Ŏb Ž Øn=[(Å,ď e Ø)]
structure M2(X:Cx)(o:Õ)(m:Ç)(Ϻ:Pos)(e f:Õ)(Ž:Pos):È where
 Ë:ŏa o m Ø Çe=ď o Ø
 Ql:((Ŏb Ž ĳm).all Ğf&&(ŀg).all Úh
  && decide (([e,f]:Á Õ).length+([]:Á ϐb).length+ķg<30))=Ã
 line:ϟk=Ã
 trees:Ŏb Ž ĳm=[(Å,ď e Ø),(Å,ď f Ø)]
def cM(H:Hp)(a:Ì):È:=(∃kvs,Rd H a Ō)\/∃kvs,Rd H a ŷb
def z81{X:Cx}{j:Á ð}{σ:St}{H:Hp}{s:Ï}{a:Ì}(I:zI X j σ H s)(d:cM H a) :ćb Ş ϕ/\(∀b,ċ a=.ref b->∃ob,ć b=À ob/\ob.dict=Ä)/\éa=Å:=by rcases d with⟨h,e⟩|⟨h,e⟩;let{_,f,k,_,c}:=ZP Ė e;rw[Įp];let{_,f,l,_,c}:=T2 Ė e;rw[Įp]
section
variable{X:Cx}{z8:Á ð}{σ:St}{H:Hp}{s:Ï}{a:Ì}{y d:V}{u r:Value}{o:Ê V}{A:þ}{E:Value->Ï->È}
def z3h{Q:Value->Ï->È}(v:ľa+1<Ϫ)(I:zI X z8 σ H s)(g:Qu H a y o)(n:yB y u)(p:yB d r)(h:∀w' s',zI X z8 σ H s'->yB Ďo w'->Q w' s') :Ý Ą A (ŉa (.builtin "dict.get") [.ref a,u,r]) Q E s:=by rcases g with⟨m,k,e,i,l⟩|⟨m,k,b,e,i,q,l⟩;subst i;let{z,j,x,c,f}:=ZP Ė e;show żd ϖg f.typeIs Ýl ĳk (meets_dict_get_default ŧb a (ZX n) j r) {_,f.mapOf,h _ _ ϔb ?_};rw[l];show(Đd).getD p;subst i;cases(show u=ċ b from n);let{z,j,t,c,f}:=T2 Ė e;show żd ϖg f.typeIs Ýl ĳk (meetsH_dict_get_default (tupleKind ŧb) a b j r) {ϕe v,k,t,IS Ė q,f,h _ _ ϔb ?_};rw[l];show(Đd).getD p
#print a
nonrec def x2m(d f g:TE):TE:=λσ H Q=>d σ H λx c=>∃a,x=.ref a/\cM c a/\f σ c λy e=>g σ e λz b=>∃o,Qu b a y o/\Q (o.getD z) b
section
variable{X:Cx}{o e f:Õ}{Ϻ Ž:Pos}{td ty tx:TE}
def y6j(p:Èb+1<Ϫ)(B:PE X o td)(w:PE X e ty)(v:PE X f tx)(m:M2 X o "get" Ϻ e f Ž):PE X (.Call Âl [e,f] [] Ž) (x2m td ty tx):=by
 intro b s σ H Q I h;show wpAny_Call_method m.base m.Ql m.line Ϝe ϖg PySem.F.type_dict_get (zy (B b s σ H _ I h) λu t ⟨x,q,i,N,a,k,d,R⟩=>?_);subst k;obtain rfl:u=ċ a:=N;let{P,n,_}:=z81 i d;show{P,n,?_};rw[m.trees]
 refine Ϡc rfl (Ĥl (Ŵg (zy (w b t σ q _ i R) λZ C ⟨y,G,E,r,K⟩=>
  Ŵg (zy (v b C σ G _ E K) λT U ⟨z,l,j,J,Y,g,L⟩=>Ϻl ?_))))
 show z3h p j g r J λW S O c=>{_,l,O,c,L}
#print a
#print L2
namespace L3
open ķ
set_option genInjectivity true
inductive D where
 |zC|bl (b:Ñ)|int (i:Æ)|str (x:Ç)|tup (xs:Á D)|lst (xs:Á D)|dic (ks:Á ğ) (vs:Á D)|exc (x:Ç)|obj (x:Ç) (fs:Á Ç) (vs:Á D)
set_option genInjectivity false
def ώc{P:D->È}(q:P .zC)(p:∀b,P ϗb)(f:∀i,P òa)(c:∀x,P Žb)(g:∀xs,(∀d∈xs,P d)->P Ĺa)(j:∀xs,(∀d∈xs,P d)->P þa)(k:∀ks xs,(∀d∈xs,P d)->P (.dic ks xs))(m:∀x,P (.exc x))(l:∀x fs xs,(∀d∈xs,P d)->P (.obj x fs xs))(d:D):P d:=
 D.rec (motive_1:=P) (motive_2:=λn=>∀d∈n,P d) q p f c (λxs h=>g xs h) (λxs h=>j xs h) (λks xs h=>k ks xs h) m (λx fs xs h=>l x fs xs h) ϓl
  (λd n o a e r=>by rcases Ň r with z|z;show z▸o;show a e z) d
mutual
nonrec def xr:D->D->Ñ
 |.zC,.zC=>Ã|.bl a,.bl b=>a==b|.bl a,.int b=>ıl==b|.int a,.bl b=>a==ϰe|.int a,.int b=>a==b|.str a,.str b=>a==b|.tup xs,.tup ys=>Ϣb xs ys|.lst xs,.lst ys=>Ϣb xs ys|_,_=>Å
nonrec def Ϣb:Á D->Á D->Ñ
 | [],[]=>Ã|x::xs,y::ys=>xr x y&&Ϣb xs ys|_,_=>Å
end
abbrev Sl:=Ñ×D
abbrev yC:=Á (Ê Sl)
abbrev FE:=yC->Ê D
abbrev FT:=yC->Ê Ñ
abbrev FA:=yC->Ê ŉb
abbrev FG:=D->yC->Ê yC
inductive Fl where
 |nx (σ:yC)|rt (o:Ñ) (d:D)|bk (σ:yC)|ct (σ:yC)
abbrev FS:=yC->Ê Fl
abbrev yN:Â:=16777216
nonrec def z6(i:Â):FE:=λσ=>match σ[i]? with
 |À ħc=>À d|_=>Ä
nonrec def Ji(i:Â):FE:=λσ=>match σ[i]? with
 |À ϥn=>À d|_=>Ä
nonrec def eC(d:D):FE:=λ_=>À d
nonrec def e1(F:D->Ê D)(a:FE):FE:=λσ=>(Úa).bind F
nonrec def e2(F:D->D->Ê D)(a b:FE):FE:=λσ=>(Úa).bind λx=>(Ńd).bind λy=>F x y
nonrec def eL(F:Á D->Ê D)(a:FA):FE:=λσ=>(Úa).bind F
nonrec def zG:FA:=λ_=>À []
nonrec def zA(a:FE)(r:FA):FA:=λσ=>(Úa).bind λx=>(r σ).bind λb=>À (x::b)
nonrec def V6:D->Ê Ñ
 |.bl b=>À b|_=>Ä
def tE(a:FE):FT:=λσ=>(Úa).bind V6
nonrec def Bt(a b:FT):FT:=λσ=>(Úa).bind λk=>match k with
 |Ã=>b σ|Å=>À Å
nonrec def WC(a b:FT):FT:=λσ=>(Úa).bind λk=>match k with
 |Ã=>À Ã|Å=>b σ
nonrec def Zm(a:FT):FT:=λσ=>(Úa).bind λk=>À (!k)
def T3(a b:FE):FE:=λσ=>(Úa).bind λx=>(þg).bind λk=>match k with
 |Ã=>b σ|Å=>À ă
def MH(a b:FE):FE:=λσ=>(Úa).bind λx=>(þg).bind λk=>match k with
 |Ã=>À ň|Å=>b σ
def G9(a:FE):FE:=λσ=>(Úa).bind λx=>(þg).bind λk=>À Ĉi
nonrec def ue(c:FT)(a b:FE):FE:=λσ=>(žc).bind λk=>match k with
 |Ã=>a σ|Å=>b σ
nonrec def wN(a:FA):FE:=λσ=>(Úa).bind λb=>À (.tup b)
nonrec def w8(a:FA):FE:=λσ=>(Úa).bind λb=>À ϋa
nonrec def yk:D->D->Ê D
 |.int i,.int j=>À ϵh|.int i,.bl b=>À (Δ (i+ϰe))|.str x,.str y=>if Ćb+Ĕd<=yN then À (.str Ûg)else Ä|.lst x,.lst y=>if Ćb+Ĕd<=yN then À ϒo else Ä|.tup x,.tup y=>if x.isEmpty=Å/\Ćb+Ĕd<=yN then À (.tup Ûg)else Ä|_,_=>Ä
nonrec def fI(C:Æ->Æ->Ñ)(g:Æ->Æ->Æ):D->D->Ê D
 |.int i,.int j=>match C i j with
  |Ã=>À Ϗo|Å=>Ä
 |_,_=>Ä
nonrec def kL:D->D->Ê D
 |.int i,.int j=>À (Δ (i-j))|_,_=>Ä
nonrec def j7(i:Æ):Ñ:=decide (-Ϣf<i)&&decide (i<2 ^ 64)
def pB:D->D->Ê D:=fI (λi _=>j7 i) (·*·)
def Jo:D->D->Ê D:=fI (λ_ j=>j7 j) (·*·)
def xQ:D->D->Ê D:=fI (λ_ j=>decide (0<j)) (· % ·)
def Jn:D->D->Ê D:=fI (λ_ j=>decide (0<j)&&decide (j<2 ^ 64)) (· / ·)
nonrec def jx(i j:Æ):Ñ:=decide ņd&&(decide (j<=1000000)&&decide (Ŝc<2 ^ 64))
def uy:D->D->Ê D:=fI jx λi j=>i*2 ^ Ϸf
def Jp:D->D->Ê D:=fI (λ_ j=>decide ņd) λi j=>i/2 ^ Ϸf
nonrec def gT(g:Æ->Æ->Æ):D->D->Ê D
 |.int i,.int j=>À Ϗo|_,_=>Ä
nonrec def Xe:D->Ê D
 |.int i=>À (Δ (-i))|_=>Ä
nonrec def GH:D->Ê D
 |.int i=>À (Δ Ëj)|_=>Ä
nonrec def tM(g:Æ->Æ->Ñ):D->D->Ê D
 |.int i,.int j=>À (.bl ύa)|_,_=>Ä
nonrec def TM:D->Ñ
 |.zC=>Ã|_=>Å
def YH:D->D->Ê D
 |x,.zC=>À (.bl (TM x))|_,_=>Ä
def T7:D->D->Ê D
 |x,.zC=>À (.bl (!TM x))|_,_=>Ä
nonrec def xO:D->Ñ
 |.zC=>Ã|.bl _=>Ã|.int _=>Ã|.str _=>Ã|_=>Å
nonrec def je(f:D->D->Ñ):Á D->Á D->Ñ
 |x::xs,y::ys=>f x y&&je f xs ys|_,_=>Ã
def uv:Â->D->D->Ñ
 |0,_,_=>Å|n+1,x,y=>match x,y with
  |.tup xs,.tup ys=>je Żc xs ys|.lst xs,.lst ys=>je Żc xs ys|x,y=>xO x&&xO y
def YG:D->D->Ê Ñ
 |.int _,.bl _=>Ä|.bl _,.int _=>Ä|x,y=>match uv 6 x y with
  |Ã=>À (xr x y)|Å=>Ä
def zr(x y:D):Ê D:=(YG x y).bind λk=>À ĵe
def wO(x y:D):Ê D:=(YG x y).bind λk=>À Ĉi
nonrec def uT:D->Ê ğ
 |.int i=>À ϝi|.str x=>À Ϫf|_=>Ä
nonrec def Ć{α:Type}:Á ğ->Á α->Sum Æ Ç->Ê α
 |k'::ks,v::vs,k=>if k'=k then À v else Ć ks vs k|_,_,_=>Ä
nonrec def yq(ks:Á ğ)(k:Sum Æ Ç):Ñ:=ks.any λj=>decide (j=k)
def wQ(ks:Á ğ)(k:Sum Æ Ç):Á ğ:=if yq ks k=Ã then ks else ks++[k]
def wB(ks:Á ğ)(vs:Á α)(k:Sum Æ Ç)(v:α):Á α:=if yq ks k=Ã then ób (λa x=>if a=k then v else x) ks vs else vs++[v]
def T6(x:D):D->Ê Ñ
 |.lst ys=>match xO x&&Ůc xO with
  |Ã=>À ϯe|Å=>Ä
 |.tup ys=>match xO x&&Ůc xO with
  |Ã=>À ϯe|Å=>Ä
 |.str j=>match x with
  |.str i=>À Ŭk|_=>Ä
 |.dic ks _=>(łd).bind λk=>À (yq ks k)|_=>Ä
def tN(x y:D):Ê D:=(T6 x y).bind λk=>À ĵe
def YI(x y:D):Ê D:=(T6 x y).bind λk=>À Ĉi
nonrec def uP(xs:Á α)(i:Æ):Ê α:=if 0<=i then xs[Ϗb]? else if -(ä:Æ)<=i then xs[(i+ä).toNat]? else Ä
def zP:D->D->Ê D
 |.lst xs,.int i=>uP xs i|.tup xs,.int i=>uP xs i|.str z,.int i=>(Ĉo).bind λc=>À Şh|.dic ks vs,k=>(uT k).bind λk=>Ć ks vs k|_,_=>Ä
nonrec def qZ:Á D->Ê D
 | [.lst xs]=>À İo| [.tup xs]=>À İo| [.str z]=>À įo|_=>Ä
inductive kG where
 |int|bool|str|list|tuple
nonrec def kG.nm:kG->ϗ
 |.int => ċc|.bool => ĸe|.str => őe|.list => Ġ|.tuple => ŷ
nonrec def rK:D->Ê (Ñ×Ñ×Ñ×Ñ×Ñ)
 |.zC=>À (Å,Å,Å,Å,Å)|.bl _=>À (Ã,Ã,Å,Å,Å)|.int _=>À (Ã,Å,Å,Å,Å)|.str _=>À (Å,Å,Ã,Å,Å)|.tup _=>À (Å,Å,Å,Å,Ã)|.lst _=>À (Å,Å,Å,Ã,Å)|.dic _ _=>Ä|.exc _=>Ä|.obj _ _ _=>Ä
nonrec def kG.sel:kG->Ñ×Ñ×Ñ×Ñ×Ñ->Ñ
 |.int,k=>k.1|.bool,k=>k.2.1|.str,k=>k.2.2.1|.list,k=>k.2.2.2.1|.tuple,k=>k.2.2.2.2
def Mn(T:kG)(d:D):Ê Ñ:=(rK d).bind λk=>À (T.sel k)
def VB(T:kG)(a:FE):FE:=λτ=>(a τ).bind λd=>(Mn T d).bind λb=>À ϗb
nonrec def u9(a:FE):FA:=λσ=>(Úa).bind λd=>match d with
 |.lst xs=>À xs|.tup xs=>À xs|.str z=>À (èm λc=>.str {#[c]})|_=>Ä
nonrec def t5(lo hi:FE):FA:=λσ=>(áj).bind λx=>(æj).bind λy=>match x,y with
 |.int i,.int j=>if Ŝc<=yN/\žf<=yN/\(j-i).toNat<=yN then À ((Ía (j-i).toNat).map λk:Â=>.int Ϗc)else Ä|_,_=>Ä
nonrec def yD(i:Â):FG:=λd σ=>À Ϧk
nonrec def uf(i j:Â):FG:=λd σ=>match d with
 |.tup ãb=>À ((σ.set i (À (Å,x))).set j (À (Å,y)))|_=>Ä
nonrec def wX:FS:=λσ=>À Ϧf
nonrec def zb(a b:FS):FS:=λσ=>(Úa).bind λf=>match f with
 |.nx σ'=>b σ'|f=>À f
nonrec def yR(i:Â)(e:FE):FS:=λσ=>(Žc).bind λd=>À áp
nonrec def pO(i:Â)(e:FE):FS:=λσ=>(Žc).bind λd=>À (.nx (σ.set i Ľc))
nonrec def yL(e:FE):FS:=λσ=>(Žc).bind λd=>À (.rt Å d)
nonrec def ql(e:FE):FS:=λσ=>(Žc).bind λd=>À Îo
nonrec def jz(i:Â):FS:=λσ=>match σ[i]? with
 |À Ľc=>À Îo|_=>Ä
nonrec def xU(c:FT)(a b:FS):FS:=λσ=>(žc).bind λk=>match k with
 |Ã=>a σ|Å=>b σ
nonrec def Zb(g:FG)(b:FS):Á D->yC->Ê Fl
 | [],σ=>À Ϧf|d::r,σ=>(Đe).bind λσ1=>(b σ1).bind λf=>match f with
  |.nx σ2=>Zb g b r σ2|.ct σ2=>Zb g b r σ2|.bk σ2=>À Ŏi|.rt o d=>À Øp
def pN(it:FA)(g:FG)(b:FS):FS:=λσ=>(it σ).bind λa=>Zb g b a σ
nonrec def jJ(c:FT)(b:FS):Â->yC->Ê Fl
 |0,_=>Ä|n+1,σ=>(žc).bind λk=>match k with
  |Å=>À Ϧf|Ã=>(Ńd).bind λf=>match f with
   |.nx σ2=>jJ c b n σ2|.ct σ2=>jJ c b n σ2|.bk σ2=>À Ŏi|.rt o d=>À Øp
nonrec def LN:Â:=100000000
def BY(c:FT)(b:FS):FS:=λσ=>jJ c b LN σ
nonrec def Tj(i:Â):FS:=λσ=>match σ[i]? with
 |À ϥn=>À áp|_=>Ä
nonrec def Yj(i:Â)(F:D->D->Ê D)(e:FE):FS:=λσ=>match σ[i]? with
 |À Ľc=>(Žc).bind λx=>(F d x).bind λa=>À (θa (À (Ã,a)))|_=>Ä
nonrec def ZQ:D->D->Ê D
 |.lst xs,y=>if ä<yN then À ım else Ä|_,_=>Ä
def qH(i:Â)(k v:FE):FS:=λσ=>(v σ).bind λy=>match σ[i]? with
 |À (À (Ã,.dic ks ds))=>(Ĩj).bind λx=>(łd).bind λx=>if Ī<yN then À (θa (À (Ã,.dic ϲo ſm)))else Ä|_=>Ä
def wW(ks:Á ğ)(ds:Á D)(x:D):Ê D:=(łd).bind λk=>Ć ks ds k
def Xd(ks:Á ğ)(x:D):Ê D:=(łd).bind λk=>À œm
def G8(d k e:FE):FE:=λσ=>(d σ).bind λx=>match x with
 |.dic ks ds=>(Ĩj).bind λy=>(Žc).bind λz=>(uT y).bind λy=>À ((Ć ks ds y).getD z)|_=>Ä
nonrec def yh(g:FG)(c:FT)(e:FE)(σ:yC):Á D->Ê ŉb
 | []=>À []|d::r=>(Đe).bind λσ1=>(c σ1).bind λk=>match k with
  |Ã=>(Ĵe).bind λx=>(yh g c e σ r).bind λa=>À (x::a)|Å=>yh g c e σ r
nonrec def yl:FT:=λ_=>À Ã
def wd(n:Â)(it:FA)(g:FG)(c:FT)(e:FE):FE:=λσ=>(it σ).bind λa=>(yh g c e Ċh a).bind λb=>À ϋa
nonrec def yK(n:Â)(b:FS)(ds:Á D):Ê ç:=(b (Υe (n-ÿ))).bind λf=>match f with
 |.rt o d=>À (o,d)|.nx _=>À (Å,.zC)|_=>Ä
nonrec def zX(F:Á D->Ê ç)(a:FA):FE:=λσ=>(Úa).bind λb=>(F b).bind λr=>À r.2
nonrec def wV(F:Á D->Ê ç)(a:FA):FE:=λσ=>(Úa).bind λb=>(F b).bind λr=>match r with
 |(Ã,d)=>À d|_=>Ä
open ņ ĺ L2
abbrev St:=L2.St
def z1b(_:Ð)(H:Hp)(a:Ì)(kvs:Á ϖ):È:=Rd H a Ō
mutual
def za(K:Ð)(H:Hp):D->V->È
 |.zC,v=>v=.zC|.bl b,v=>v=.bl b|.int i,v=>v=.int i|.str x,v=>v=.str x/\Ćb<=ã|.tup ds,v=>∃a vs,v=.ref a/\xF K H a vs/\â K H ds vs/\ÿ<=ã|.lst ds,v=>∃a vs,v=.ref a/\yc K H a vs/\â K H ds vs/\ÿ<=ã|.dic ks ds,v=>∃a vs,v=.ref a/\z1b K H a İa/\Ī=ö/\â K H ds vs/\ÿ<=ã|.exc x,v=>∃a C,v=.ref a/\ų K Ĕ x=À ãa/\H a=À (.ext (z15 a C))|.obj x fs ds,v=>∃a C dx vs,v=.ref a/\ų K Ĕ x=À ãa/\H a=À ϊg/\ša=ö/\â K H ds vs
def â(K:Ð)(H:Hp):Á D->Á V->È
 | [],vs=>vs=[]|d::ds,vs=>∃v r,vs=v::r/\za K H d v/\â K H ds r
end
section
variable{K:Ð}{H H':Hp}
def úc{a:Ì}{u:HO}(s:zm H H')(h:Rd H a u):Rd H' a u:=by rcases h with h|⟨o,h⟩;show .inl (s _ _ h);show .inr {o,s _ _ h}
def uJ(s:zm H H')(h:xF K H a xs):xF K H' a xs:=by rcases h with h|h;show .inl źo;show .inr h
def uB(s:zm H H')(h:yc K H a xs):yc K H' a xs:=by rcases h with h|h;show .inl źo;show .inr h
theorem Ïb:∀{ds:Á D}{vs:Á V},(∀d∈ds,∀v,za K H d v->za K H' d v)->â K H ds vs->â K H' ds vs
 | [],_,_,h=>h|d::ds,vs,f,h=>by rw[Ōp];show{v,r,rfl,f d Ł v a,Ïb (λc m=>f c ĺi) b}
theorem za.mono(s:zm H H'):∀{d:D}{v:V},za K H d v->za K H' d v:=λ{d}=>by show ώc (P:=λd=>∀v,za K H d v->za K H' d v) óo Ĝn Ěn ęn ?_ ?_ ?_ ?_ ?_ d _;rintro g c v ⟨a,f,e,q,r,l⟩;show{a,f,e,uJ s q,Ïb c r,l};rintro g c v ⟨a,f,e,q,r,l⟩;show{a,f,e,uB s q,Ïb c r,l};rintro k g c v ⟨a,f,e,q,z,r,l⟩;show{a,f,e,úc s q,z,Ïb c r,l};rintro x v ⟨a,C,e,n,h⟩;show{a,C,e,n,s _ _ h};rintro x m g c v ⟨a,C,j,f,e,n,h,l,r⟩;show{a,C,j,f,e,n,s _ _ h,l,Ïb c r}
theorem Reps.mono(s:zm H H'){ds:Á D}{vs:Á V}(h:â K H ds vs):â K H' ds vs:=Ïb (λ_ _ _=>za.mono s) h
theorem Ϭh:∀{ds:Á D}{vs:Á V},â K H ds vs->ö=ÿ
 | [],_,h=>by rw[ŗp];rfl|d::ds,_,h=>by let{v,r,rfl,_,a}:=h;rw[Ě,Ě,Ϭh a]
theorem Reps.get:∀{ds:Á D}{vs:Á V}{i:Â}{d:D},â K H ds vs->ds[i]?=À d->∃v,vs[i]?=À v/\za K H d v
 | [],_,_,_,_,e=>by cases e|d::ds,_,0,_,h,e=>by rw[Ōp];cases e;show{v,rfl,a}
 |d::ds,_,i+1,d',h,e=>by rw[Ōp];show Reps.get (i:=i) b ųa
theorem Reps.at{ds:Á D}{vs:Á V}{i:Â}{v:V}(h:â K H ds vs)(e:vs[i]?=À v):∃d,ds[i]?=À d/\za K H d v:=by
 let l:=ïc;have b:i<ÿ:=by rw[<-l];show İe.1
 let{c,a,r}:=h.get (ė b);rw[e]at a;cases a;show{_,ė b,r}
theorem Ŷn:∀{ds es:Á D}{vs us:Á V},â K H ds vs->â K H es us->â K H (ds++es) (vs++us)
 | [],_,_,_,h,g=>by rw[ŗp];show g|d::ds,_,_,_,h,g=>by rw[Ōp];show{v,_,rfl,a,Ŷn b g}
def Će(h:za K H d v):â K H [d] [v]:={v,[],rfl,h,rfl}
theorem Řo:∀{ds:Á D}{vs:Á V}(n:Â),â K H ds vs->â K H (ds.take n) (vs.take n)
 |_,_,0,_=>by rw[Ģh,Ģh];rfl| [],_,n+1,h=>by rw[ŗp];rfl|d::ds,_,n+1,h=>by rw[Ōp];show{v,_,rfl,a,Řo n b}
theorem śo:∀{ds:Á D}{vs:Á V}(n:Â),â K H ds vs->â K H (ěd n) (vs.drop n)
 |_,_,0,h=>h| [],_,n+1,h=>by rw[ŗp];rfl|d::ds,_,n+1,h=>by let{v,r,rfl,b,a}:=h;show śo n a
theorem ße:∀{ns:Á Æ},â K H Åb Ća
 | []=>rfl|n::ns=>{_,_,rfl,rfl,ße}
#print a
structure zS(G H G' H':Hp):È where
 g:zm G G'
 h:zm H H'
 gh:zm G' H'
 new:∀p,G' p≠Ä->G p≠Ä\/H p=Ä
section
variable{G H G0 H0 G1 H1 G2 H2:Hp}{p:Ì}{o:HO}
theorem Ąa(s:zm G H):zS G H G H:={Ķa _,Ķa _,s,λ_ h=>.inl h}
theorem zS.trans(a:zS G H G1 H1)(b:zS G1 H1 G2 H2):zS G H G2 H2:={ği b.g,a.h.trans b.h,b.gh,λp h=>by rcases b.new p h with z|z;show a.new p z;show .inr (a.h.free z)}
def zS.rebase(a:zS G0 H0 G1 H1)(b:zS G1 H0 G2 H2):zS G0 H0 G2 H2:={ği b.g,b.h,b.gh,λp h=>by rcases b.new p h with z|z;show a.new p z;rw[Ũp]}
def zS.zE(a:zS G0 H0 G1 H1):zS G1 H0 G1 H1:={Ķa _,a.h,a.gh,λ_ h=>.inl h}
def D7(h:zT H p o q≠Ä):q=p\/H q≠Ä:=by by_cases e:q=p;show .inl e;rw[z_ e]at h;show .inr h
def O4(s:zm G H):zm ûo ŋc:=λb u e=>by by_cases hb:b=p;subst hb;rw[yX]at e ⊢;show e;rw[z_ hb]at e ⊢;show s _ _ e
def ďb(s:zm G H)(h:H p=Ä):zS G H ûo ŋc:={wv (új h) o,wv h o,O4 s,λq z=>by rcases D7 z with e|e;show .inr (e▸h);show .inl e}
def Ϟa(s:zm G H)(h:H p=Ä):zS G H G ŋc:={Ķa _,wv h o,ϴf (wv h o),λ_ z=>.inl z}
def zS.yI(a:zS G H G1 H1)(h:H p=Ä)(g:G1 p=Ä)(e:H1 p=À o):zS G H (zT G1 p o) H1:=⟨ği (wv g o),a.h,λb u q=>by
 by_cases hb:b=p;subst hb;rw[yX]at q;cases q;show e;rw[z_ hb]at q;show a.gh _ _ q,λq z=>by
 rcases D7 z with w|w;show .inr (w▸h);show a.new q w⟩
#print a
def xz(K:Ð)(G H:Hp)(d:D)(p:Ì):È:=match d with
 |.lst ds=>∃vs,H p=À đd/\â K G ds vs/\ÿ<=ã|.dic ks ds=>∃vs,H p=À ìp/\Ī=ö/\â K G ds vs/\ÿ<=ã|_=>î
section
variable{K:Ð}{G H G' H':Hp}{d:D}{p:Ì}
def xz.some(h:xz K G H d p):H p≠Ä:=by
 cases d with
 |lst ds=>let{a,e,_}:=h;rw[e];show λz=>nomatch z
 |dic ks ds=>let{a,e,_}:=h;rw[e];show λz=>nomatch z
 |_=>show ăj
theorem xz.mono(g:zm G G')(h:zm H H')(o:xz K G H d p):xz K G' H' d p:=by
 cases d with
 |lst ds=>let{a,e,r,l}:=o;show{a,h _ _ e,ôa g,l}
 |dic ks ds=>let{a,e,z,r,l}:=o;show{a,h _ _ e,z,ôa g,l}
 |_=>show ąc
def xz.rep(s:zm G H)(o:xz K G H d p):za K H d ϛ:=by
 cases d with
 |lst ds=>let{a,e,r,l}:=o;show{p,a,rfl,ņa e,ôa s,l}
 |dic ks ds=>let{a,e,z,r,l}:=o;show{p,a,rfl,.inl e,z,ôa s,l}
 |_=>show ąc
def xz.yI(o:xz K G H d p)(g:G p=Ä):∃u,H p=Option.some u/\za K îi d ϛ:=by
 cases d with
 |lst ds=>let{a,e,r,l}:=o;show{_,e,p,a,rfl,ņa yX,ôa ġd,l}
 |dic ks ds=>let{a,e,z,r,l}:=o;show{_,e,p,a,rfl,.inl yX,z,ôa ġd,l}
 |_=>show ąc
#print a
structure zx(K:Ð)(n:Â)(G0 H0 G H:Hp)(τ:yC)(σ:St):È where
 ext:zS G0 H0 G H
 l1:σ.length=n
 l2:τ.length=n
 fr:∀(i:Â)(d:D),τ[i]?=À ħc->∃v,σ[i]?=À ź/\za K G d v
 ow:∀(i:Â)(d:D),τ[i]?=À Ľc->∃p,σ[i]?=À ϯd/\G p=Ä/\H0 p=Ä/\xz K G H d p
 ap:∀(i j:Â)(d e:D)(p:Ì),i≠j->τ[i]?=À Ľc->τ[j]?=À ϰd->σ[i]?=À ϯd->σ[j]?=À ϯd->î
section
variable{K:Ð}{n:Â}{G0 H0 G H G' H':Hp}{τ:yC}{σ:St}
def zx.go(E:zx K n G0 H0 G H τ σ)(x:zS G H G' H'):zx K n G0 H0 G' H' τ σ:=⟨ϋn x,ĸ,Ģ,λi d h=>by
 let{v,e,r}:=æb i d h;show{v,e,ôa x.g},λi d h=>by
 let{p,e,g,z,o}:=ŋa i d h;show{p,e,?_,z,ýj x.g x.h};cases q:G' p with
 |Ä=>rfl|À u=>rcases Œb p (by rw[q];show λz=>nomatch z)with w|w;show Þ g w;show Þ w o.some,Ϧa⟩
theorem zx.zE(E:zx K n G0 H0 G H τ σ):zx K n G H0 G H τ σ:={E.ext.zE,ĸ,Ģ,æb,ŋa,Ϧa}
def zx.near(a:zS G0 H0 Ga Ha)(E:zx K n Ga H0 G H τ σ):zx K n G0 H0 G H τ σ:={a.rebase Ϟb,ĸ,Ģ,æb,ŋa,Ϧa}
def zx.lt{i:Â}{s:Ê Sl}(E:zx K n G0 H0 G H τ σ)(h:τ[i]?=À s):i<n:=by rw[<-Ģ];show ēa.1
def vv{α:Type}{xs:Á α}{i j:Â}{x y:α}(h:Đf[j]?=À y):(j=i/\y=x)\/(j≠i/\xs[j]?=À y):=by
 rw[Îh]at h;by_cases e:i=j;subst e;rw[Ò rfl]at h
 rw[Ϟp];cases h;show .inl {rfl,rfl};cases h;rw[Ó e]at h;show .inr {λz=>e Ļd,h}
def Xj{α:Type}{xs:Á α}{i:Â}{x:α}(h:i<ä):Đf[i]?=À x:=by rw[Îh,Ò rfl,Ò h]
theorem pE{α:Type}{xs:Á α}{i j:Â}{x:α}(h:j≠i):Đf[j]?=xs[j]?:=by rw[Îh,Ó (λz=>h Ļd)]
theorem zx.set{i:Â}{d:D}{v:V}(E:zx K n G0 H0 G H τ σ)(hi:i<n)(r:za K G d v):zx K n G0 H0 G H Ĭh àd:=⟨Ϟb,by rw[èa];show ĸ,by rw[ŉp],λj e h=>by
 rcases vv h with⟨rfl,z⟩|⟨a,z⟩;cases z;show{v,Xj Ϫe,r};rw[pE a];show æb j e z,λj e h=>by
 rcases vv h with⟨rfl,z⟩|⟨a,z⟩;cases z;rw[pE a];show ŋa j e z,λj k e f p b l m=>by
 rcases vv l with⟨rfl,z⟩|⟨a,z⟩;cases z;rcases vv m with⟨rfl,g⟩|⟨c,g⟩;cases g;rw[pE a,pE c];show Ϧa j k e f p b z g⟩
def zx.aF{i:Â}{d:D}{p:Ì}(E:zx K n G0 H0 G H τ σ)(hi:i<n)(u:G p=Ä)(t:H0 p=Ä)(o:xz K G H d p)(r:∀(j:Â)(e:D),j≠i->τ[j]?=À ϰd->σ[j]?=À ϯd->î) :zx K n G0 H0 G H (τ.set i Ľc) ųm:=⟨Ϟb,by rw[èa];show ĸ,by rw[ŉp],λj e h=>by
 rcases vv h with⟨rfl,z⟩|⟨b,z⟩;cases z;rw[pE b];show æb j e z,λj e h=>by
 rcases vv h with⟨rfl,z⟩|⟨b,z⟩;cases z;show{p,Xj Ϫe,u,t,o};rw[pE b];show ŋa j e z,λj k e f q m v s c g=>by
 rcases vv v with⟨rfl,z⟩|⟨b,z⟩;rcases vv s with⟨rfl,l⟩|⟨a,l⟩;show m rfl;rw[Xj Ϫe]at c;rw[pE a]at g;cases c;show r k f a l g;rcases vv s with⟨rfl,l⟩|⟨a,l⟩;rw[Xj Ϫe]at g;rw[pE b]at c;cases g;show r j e b z c;rw[pE b]at c;rw[pE a]at g;show Ϧa j k e f q m z l c g⟩
def zx.aC(E:zx K n G0 H0 G H τ σ)(a:H p=Ä):∀(j:Â)(e:D),j≠i->τ[j]?=À ϰd->σ[j]?=À ϯd->î:=λj e _ b c=>by let{q,e1,_,_,o}:=ŋa j e b;rw[c]at e1;cases e1;show o.some a
def zx.freeze{i:Â}{b:Ñ}{d:D}(E:zx K n G0 H0 G H τ σ)(hi:τ[i]?=À ûd):∃G',zx K n G0 H0 G' H Ĭh σ/\zm G G':=by
 let m:=E.lt hi;cases b with
 |Å=>
  show{G,?_,Ķa _}
  let e:τ.set i ħc=τ:=by rw[ϋp];rw[Xj (by rw[Ģ];show m),hi];rw[pE hj]
  rw[e];show E
 |Ã=>let{p,e,g,z,o}:=ŋa i d hi;let{u,C,r}:=o.yI g;let x:zS G0 H0 îi H:=Ŵi z g C;refine{zT G p u,{x,ĸ,by rw[ŉp],λj a h=>?_,λj a h=>?_,λj k e1 f q t F A=>?_},wv g _};rcases vv h with⟨rfl,w⟩|⟨y,w⟩;cases w;show{_,e,r};let{v,l,B}:=æb j a w;show{v,l,ðg ġd};rcases vv h with⟨rfl,w⟩|⟨y,w⟩;cases w;let{q,l,N,L,I}:=ŋa j a w;show{q,l,?_,L,ďj ġd ϕb};rw[z_ Ũf];show N;subst c;show Ϧa i j d a q (λc=>y Ϲf) hi w e l;rcases vv F with⟨rfl,w⟩|⟨y,w⟩;cases w;rcases vv A with⟨rfl,s⟩|⟨J,s⟩;cases s;show Ϧa j k e1 f q t w s
#print a
section
variable(X:Cx)
structure SE(e:Õ)(f:FE):È where
 h:∃t,PE X e t/\∀{G0 H0 G H:Hp}{τ:yC}{σ:St}{d:D}{Q:VK},zx X.K ù G0 H0 G H τ σ->f τ=À d->(∀v G' H',zS G H G' H'->za X.K G' d v->Q v H')->t σ H Q
structure SB(e:Õ)(f:FE):È where
 h:∃t,PE X e t/\∀{G0 H0 G H:Hp}{τ:yC}{σ:St}{d:D}{Q:VK},zx X.K ù G0 H0 G H τ σ->f τ=À d->(∀v G' H',zS G H G' H'->za X.K H' d v->Q v H')->t σ H Q
structure SF(e:Õ)(f:FE):È where
 h:∃t,PE X e t/\∀{G0 H0 G H:Hp}{τ:yC}{σ:St}{d:D}{Q:VK},zx X.K ù G0 H0 G H τ σ->f τ=À d->(∀p G' H',zS G H G' H'->H p=Ä->G' p=Ä->xz X.K G' H' d p->Q ϛ H')->t σ H Q
structure ST(e:Õ)(f:FT):È where
 h:∃t,PT X e t/\∀{G0 H0 G H:Hp}{τ:yC}{σ:St}{d:Ñ}{Q:Ñ->Hp->È},zx X.K ù G0 H0 G H τ σ->f τ=À d->(∀G' H',zS G H G' H'->Q d H')->t σ H Q
structure SW(e:Õ)(f:FT):È where
 h:∃t,PW X e t/\∀{G0 H0 G H:Hp}{τ:yC}{σ:St}{d:Ñ}{Q:Ñ->Hp->È},zx X.K ù G0 H0 G H τ σ->f τ=À d->(∀G' H',zS G H G' H'->Q d H')->t σ H Q
structure SA(es:Á Õ)(f:FA):È where
 h:∃t,PA X es t/\∀{G0 H0 G H:Hp}{τ:yC}{σ:St}{ds:Á D}{Q:Á V->Hp->È},zx X.K ù G0 H0 G H τ σ->f τ=À ds->(∀vs G' H',zS G H G' H'->â X.K G' ds vs->Q vs H')->t σ H Q
structure LY(es:Á Õ)(f:FA):È where
 h:∃t,PA X es t/\∀{G0 H0 G H:Hp}{τ:yC}{σ:St}{ds:Á D}{Q:Á V->Hp->È},zx X.K ù G0 H0 G H τ σ->f τ=À ds->(∀vs G' H',zS G H G' H'->â X.K H' ds vs->Q vs H')->t σ H Q
#print a
def tI(K:Ð)(n:Â)(G0 H0:Hp)(E:ua):Fl->È
 |.nx τ=>∀σ G H,zx K n G0 H0 G H τ σ->E.nx σ H|.bk τ=>∀σ G H,zx K n G0 H0 G H τ σ->E.bk σ H|.ct τ=>∀σ G H,zx K n G0 H0 G H τ σ->E.ct σ H|.rt Å d=>∀v G H,zS G0 H0 G H->za K G d v->E.rt v H|.rt Ã d=>∀p G H,zS G0 H0 G H->H0 p=Ä->G p=Ä->xz K G H d p->E.rt ϛ H
section
variable(X:Cx)
structure SS(st:Ú)(f:FS):È where
 h:∃t,PS X st t/\∀{G0 H0 G H:Hp}{τ:yC}{σ:St}{fl:Fl}{E:ua},zx X.K ù G0 H0 G H τ σ->f τ=À fl->tI X.K ù G0 H0 E fl->t E σ H
structure qU(st:Á Ú)(f:FS):È where
 h:∃t,tK X st t/\∀{G0 H0 G H:Hp}{τ:yC}{σ:St}{fl:Fl}{E:ua},zx X.K ù G0 H0 G H τ σ->f τ=À fl->tI X.K ù G0 H0 E fl->t E σ H
#print a
structure jZ(K:Ð)(J:It)(G:Hp)(ds:Á D):È where
 go:∀i G2 H,zm G G2->zm G2 H->i<ÿ->J.go i H
 uY:∀i G2 H x H',zm G G2->zm G2 H->i<ÿ->J.uY i H x H'->∃G3 d,zS G2 H G3 H'/\ds[i]?=À d/\za K G3 d x
 Ŵ:∀i G2 H,zm G G2->zm G2 H->ÿ<=i->íg i H
structure SI(X:Cx)(tg ť:Õ)(f:FA):È where
 h:∃wi,PI X tg ť wi/\∀{G0 H0 G H:Hp}{τ:yC}{σ:St}{ds:Á D}{R:It->Hp->È},zx X.K ù G0 H0 G H τ σ->f τ=À ds->(∀J G' H',zS G H G' H'->ÿ<=ã->jZ X.K J G' ds->R J H')->wi σ H R
nonrec def vS(K:Ð)(F:Á D->Ê ç):Sp:=λa H Q _=>∃G ds o d,zm G H/\â K G ds a/\F ds=À (o,d)/\
 match o with
 |Å=>∀v G' H',zS G H G' H'->za K G' d v->Q v H'|Ã=>∀p G' H',zS G H G' H'->H p=Ä->G' p=Ä->xz K G' H' d p->Q ϛ H'
def zH{α β:Type}{o:Ê α}{f:α->Ê β}{b:β}(h:þj f=À b):∃a,o=À a/\f a=À b:=by
 cases o with
 |Ä=>cases h|À a=>show{a,rfl,h}
def du(h:z6 i τ=À d):τ[i]?=À ħc:=by
 unfold z6 at h
 rw[Ļp];cases h;show e;cases h
def z4b(h:Ji i τ=À d):∃b,τ[i]?=À ûd:=by
 unfold Ji at h
 rw[Ϟp];rename_i b a e;cases h;show{_,e};cases h
section
variable{X:Cx}{x:Ç}{p pos:Pos}{e a b c o:Õ}{es zt:Á Õ}{f fa fb:FE}{ft fu:FT}{fs:FA}{F:D->D->Ê D}{r:R2}
def SE.sb(h:SE X e f):SB X e f:={let ⟨t,p,k⟩:=h.h;{t,p,λE b q=>k E b λv a c x r=>q v a c x (ôa öa)}}
def SF.se(h:SF X e f):SE X e f:={let ⟨t,p,k⟩:=h.h;{t,p,λE c q=>k E c λp g i x b a o=>by let{u,d,r}:=o.yI a;show q _ _ _ (x.yI b a d) r}}
def zO(h:SE X e f):SB X e f:=h.sb
def yx(h:SF X e f):SE X e f:=h.se
def z7(i:Â)(b:Î ĥb q12)(hv:Î ķb q13)(c:Î ī q10)(a:Î Ĭa q10):SE X àa (z6 i):={{_,kZ b hv c a,λE d q=>by let{v,e,r}:=æb _ _ (du d);show{v,e,q v _ _ ĺb r}}}
def y9c(i:Â)(d:Î ĥb q12)(hv:Î ķb q13)(f:Î ī q10)(a:Î Ĭa q10):SB X àa (Ji i):=⟨⟨_,kZ d hv f a,λE g q=>by
 let{b,c}:=z4b g;cases b with
 |Å=>let{v,e,r}:=æb _ _ c;show{v,e,q v _ _ ĺb (ôa Äa)}
 |Ã=>let{p,e,_,_,o}:=ŋa _ _ c;show{_,e,q _ _ _ ĺb (o.rep Äa)}⟩⟩
def OB(h:PE X e ŉe)(r:∀H,za X.K H d v):SE X e (eC d):={{_,h,λE a q=>by cases a;show q v _ _ ĺb (r _)}}
def zJ{i k pos}:SE X (.Constant òa k pos) (eC òa):=OB N5 λ_=>rfl
def j_{i k pos}:SE X (.Constant (.bool i) k pos) (eC (.bl i)):=OB y69 λ_=>rfl
def vd{k pos}:SE X (.Constant .none k pos) ïa:=OB y6q λ_=>rfl
def ya{x k pos}(h:Î (Ćb<=1000) q10):SE X (.Constant Žb k pos) (eC Žb):=OB y6v λ_=>{rfl,Ņa h}
def vq(h:vC ó x v)(r:∀H,za X.K H d v)(a:Gl X x)(b:Î ī q10):SE X àa (eC d):=OB (Vd h a b) r
def tJ(K:Ð)(r:R2)(F:D->D->Ê D):È:=∀G H x y u v d (Q:VK),zm G H->za K G x u->za K G y v->F x y=À d->(∀w G' H',zS G H G' H'->za K G' d w->Q w H')->r u v H Q
def kD(K:Ð)(r:R2)(F:D->D->Ê D):È:=∀H x y u v d (Q:VK),za K H x u->za K H y v->F x y=À d->∃k,d=.bl k/\(Q ĵe H->r u v H Q)
def zZ(C:xB X (ża op) r)(l:tJ X.K r F)(s:SE X a fa)(B:SE X b fb):SE X (.BinOp a op b pos) Ēf:=by
 let{O,f,t}:=s.h;let{J,I,G}:=B.h;show{{_,N7 C f I,λE c q=>?_}};let{x,m,c}:=zH c;let{y,z,c}:=zH c;show t E m λv L N e p=>?_
 show G ĩe z λu i j d o=>?_
 show l i j x y v u _ _ d.gh (p.mono d.g) o c λw k A H n=>q w k A (Ņb (Üd H)) n
def zi(z:pj X r)(l:tJ X.K r F)(t:SE X a fa)(G:SE X b fb)(n:Î Ěo q12):SE X ļl Ēf:=by
 let{P,f,A}:=t.h;let{L,J,H}:=G.h;show{{_,BD z f J (BH n),λE c q=>?_}};let{x,m,c}:=zH c;let{y,B,c}:=zH c;show A E m λv N O e s=>?_
 show H ĩe B λu i j d p=>?_
 show l i j x y v u _ _ d.gh (ļe d.g) p c λw k C I o=>q w k C (Ņb (Üd I)) o
def tT(w:xB X (üa op) r)(j:kD X.K r F)(o:SB X a fa)(t:SB X b fb)(i:šb op b=Å):SE X ϣk Ēf:=by
 let{J,f,p}:=o.h;let{G,B,A}:=t.h;show{{_,lR w f B i,λE c q=>?_}};let{x,l,c}:=zH c;let{y,s,c}:=zH c;show p E l λv H I e n=>?_
 show A ĩe s λu C g d m=>?_
 let{k,rfl,z}:=j g x y v u _ _ (n.mono d.h) m c;show z (q _ _ _ (Ņb d) rfl)
def yQ(A:xB X (üa op) r)(l:kD X.K r F)(p:SB X a fa)(w:SB X b fb)(j:šb op b=Å):ST X ϣk (tE Ēf):=by
 let{L,g,s}:=p.h;let{H,C,B}:=w.h;show{{_,NC A g C j,λE d q=>?_}};let{z,c,d}:=zH d;let{x,m,c}:=zH c;let{y,t,c}:=zH c;show s E m λv I J f o=>?_
 show B Äg t λu G i e n=>?_
 let{k,rfl,z}:=l i x y v u _ _ (ýj e.h) n c;cases d;show z {_,rfl,q _ _ (f.trans e)}
def tV(h:SE X e f)(c:Î (lq e=Ã) q12):ST X e (tE f):=by
 rw[Ĩp];show{{_,y7t p (y7h c),λE a q=>?_}};let{z,b,a}:=zH a;show k E b λv d g x r=>?_
 cases z<;>first|cases a|skip
 cases r;show{_,rfl,q _ _ x}
def x2h(h:ST X a ft):SW X úl ft:={let ⟨t,p,k⟩:=h.h;{t,y83 p,k}}
def Q3(h:ST X a ft):SW X Ĝl ft:={let ⟨t,p,k⟩:=h.h;{t,y85 p,k}}
def o_(f:ST X a ft)(j:SW X üf fu):SW X ţf (Bt ft fu):=by
 rw[Ýq];show{{_,y82 e n,λE c q=>?_}};let{k,l,c}:=zH c;show g E l λp s d=>?_
 cases k with
 |Ã=>show YS ðk|Å=>cases c;show YR Ϸo
def Q2(f:ST X a ft)(j:SW X ûf fu):SW X Ţf (WC ft fu):=by
 rw[Ýq];show{{_,y84 e n,λE c q=>?_}};let{k,l,c}:=zH c;show g E l λp s d=>?_
 cases k with
 |Å=>show YR ðk|Ã=>cases c;show YS Ϸo
def Vo(h:SW X e ft):ST X e ft:={let ⟨t,p,k⟩:=h.h;{t,p.pt,k}}
def WA(h:ST X a ft):ST X Ϭe (Zm ft):=by let{g,d,c}:=h.h;show{{_,y7s d,λE b q=>?_}};let{k,e,b}:=zH b;cases b;show c E e λi j f=>q _ _ f
def Tu{op}(h:SE X a f):SE X ľl f:={let ⟨t,p,k⟩:=h.h;{t,y6s p,k}}
def Nf{K:Ð}{G:Hp}{z:D}{v:V}{k:Ñ}(r:za K G z v)(h:V6 z=À k):v=.bl k:=by
 cases z<;>first|cases h|skip
 show r
def Bd(j:SE X a fa)(n:SE X üf fb):SE X ţf (T3 fa fb):=by
 rw[Üq];show{{_,y68 f r,λE c q=>?_}};rw[Âq];show l E e λv u w d i=>{k,Nf i o,?_}
 cases k with
 |Ã=>show YS ϡj|Å=>cases c;show YR ļm
def o8(j:SE X a fa)(n:SE X ûf fb):SE X Ţf (MH fa fb):=by
 rw[Üq];show{{_,y6t f r,λE c q=>?_}};rw[Âq];show l E e λv u w d i=>{k,Nf i o,?_}
 cases k with
 |Å=>show YR ϡj|Ã=>cases c;show YS ļm
def x0y(f:SE X a fa):SE X Ϭe (G9 fa):=by let{l,e,d}:=f.h;show{{_,y6r e,λE b q=>?_}};let{z,c,b}:=zH b;let{k,g,b}:=zH b;cases b;show d E c λv m n j i=>{k,Nf i g,q _ _ _ j rfl}
def qm(j:ST X c ft)(n:SE X a fa)(s:SE X b fb):SE X Ϭl (ue ft fa fb):=by
 let{z,w,i}:=j.h;let{B,l,o}:=n.h;let{x,p,u}:=s.h;show{{_,y6m w l p,λE d q=>?_}};let{k,t,d}:=zH d;show i E t λy A e=>?_
 cases k with
 |Ã=>show YS (o ĩe d λv m r g f=>q v _ _ (Ņb g) f)|Å=>show YR (u ĩe d λv m r g f=>q v _ _ (Ņb g) f)
def zM:SA X [] zG:={{_,jw,λE a q=>by rw[Ťp]}}
def zB(m:SE X e f)(n:SA X es fs)(h:Î Óa q12):SA X đ ϫo:=by
 let{B,i,o}:=m.h;let{w,r,s}:=n.h;show{{_,tR i r h,λE a q=>?_}};let{x,j,a}:=zH a;let{z,b,a}:=zH a;cases a;show o E j λv y A d l=>s Äj b λp t u c k=>?_
 show q _ _ _ þc {v,p,rfl,åg c.g,k}
def pQ:LY X [] zG:={{_,jw,λE a q=>by rw[Ťp]}}
def pP(l:SB X e f)(m:LY X es fs)(h:Î Óa q12):LY X đ ϫo:=by
 let{A,g,n}:=l.h;let{u,p,r}:=m.h;show{{_,tR g p h,λE a q=>?_}};let{x,i,a}:=zH a;let{y,b,a}:=zH a;cases a;show n E i λv w z d k=>r Äj b λo s t c j=>?_
 show q _ _ _ þc {v,o,rfl,k.mono c.h,j}
def BZ(h:Ób es=À is):SA X es (λ_=>À Ļn):={{_,lN h,λE a q=>by cases a;show q _ _ _ ĺb ße}}
def wg{x1}(h:SA X es fs)(f:∀τ ds,fs τ=À ds->ÿ<=1000):SE X ϫl (wN fs):=by
 let{t,g,k}:=h.h;show{{_,lW g,λE a q=>?_}};let{e,c,a}:=zH a;cases a;let l:e.length<=ã:=Ņa (f _ _ c);refine k E c λi j m x1 d=>{by rw[ċa];show l,λp b=>?_}
 show q _ _ _ (x1.trans (ďb x1.gh b)) {p,i,rfl,őb yX,d.mono (wv (x1.gh.free b) _),l}
def wR(h:SA X es fs)(g:∀τ ds,fs τ=À ds->ÿ<=1000):SF X ķh (w8 fs):=by
 let{t,i,k}:=h.h;show{{_,lU i,λE c q=>?_}};let{f,d,c}:=zH c;cases c;let l:Îb<=ã:=Ņa (g _ _ d);refine k E d λj m n a e=>{by rw[e.length];show l,λp b=>?_}
 show q _ _ _ (a.trans (Ϟa a.gh b)) (a.h.free b) (a.gh.free b) {j,yX,e,l}
def yV:∀(τ:yC) ds,zG τ=À ds->ÿ<=0:=λ_ _ h=>by cases h;rw[ϡp]
def zW(h:∀τ ds,fs τ=À ds->ÿ<=n):∀τ ds,zA f fs τ=À ds->ÿ<=n+1:=λτ ds e=>by let{x,_,e}:=zH e;let{b,a,e}:=zH e;cases e;show ğb (h _ _ a)
def Lg{is:Á Æ}{n:Â}(h:is.length<=n):∀(τ:yC) ds,(À Ļn)=À ds->ÿ<=n:=λ_ _ e=>by cases e;rw[æ];show h
def yS(h:∀τ ds,fs τ=À ds->ÿ<=m)(a:m<=n):∀τ ds,fs τ=À ds->ÿ<=n:=λτ ds e=>İ (h τ ds e) a
variable{ps:Á Ç}{j k:Â}{FF:Á D->Ê ç}{FL:Á D->Ê D}{id T:ϗ}
def tU(h:vI ø X.w X.K ó ŕ x ps k ĥf)(c:yp j X.A)(r:Gl X x)(v:SA X đ fs)(hk:Î Őb q10)(b:Î ī q10)(F:Î ęa q12):SF X Ųa (wV FF fs):=by
 let{t,y,m}:=v.h;show{{_,BE h c r y hk b F,λE a q=>?_}};let{u,i,a}:=zH a;rw[Ûq];cases o with
 |Å=>cases a|Ã=>
  cases a;refine m E i λH n G f s=>{n,u,Ã,_,f.gh,by rw[ŵ];show s,c,λp l C z g B o=>?_}
  show q p l C (f.trans z) (f.h.free g) B o
def zj(h:vI ø X.w X.K ó ŕ x ps k ĥf)(c:yp j X.A)(B:Gl X x)(H:SA X đ fs)(hk:Î Őb q10)(b:Î ī q10)(J:Î ęa q12):SE X Ųa (zX FF fs):=by
 let{t,I,y}:=H.h;show{{_,BE h c B I hk b J,λE a q=>?_}};let{G,s,a}:=zH a;rw[Ûq];cases a;refine y E s λN z L g F=>{z,G,o,d,g.gh,by rw[ŵ];show F,c,?_}
 cases o with
 |Å=>show λv i l f r=>q v i l (Ūc f) r|Ã=>intro p i l f n m o;let{u,C,r}:=o.yI m;show q _ _ _ (Ūc (f.yI n m C)) r
def Uo(K:Ð)(r:Á V->Hp->VK->È)(F:Á D->Ê D):È:=∀G H ds vs d (Q:VK),zm G H->â K H ds vs->F ds=À d->(∀w G' H',zS G H G' H'->za K G' d w->Q w H')->r vs H Q
def cP(K:Ð)(r:Á V->Hp->VK->È)(F:Á D->Ê D):È:=∀G H ds vs d (Q:VK),zm G H->â K G ds vs->F ds=À d->(∀w G' H',zS G H G' H'->za K G' d w->Q w H')->r vs H Q
def pR(d:vn X õb rc)(k:Uo X.K rc FL)(n:Gl X x)(C:ó x=Ä)(hv:Ŷ x=À õb)(u:LY X đ fs)(g:Î ïb q10)(a:Î ī q10)(B:Î ęa q12):SE X Ųa ēo:=by let{t,v,j}:=u.h;show{{_,(BO d n C hv {v} g a B).h,λE b q=>?_}};let{r,f,b}:=zH b;show j E f λy l s c o=>k l s r y _ _ c.gh o b λw i A z m=>q w i A Æg m
def Ri(d:vn X ŵb rc)(k:cP X.K rc FL)(n:Gl X x)(C:ó x=Ä)(hv:Ŷ x=À ŵb)(u:SA X đ fs)(g:Î ïb q10)(a:Î ī q10)(B:Î ęa q12):SE X Ųa ēo:=by let{t,v,j}:=u.h;show{{_,(O0 d n C hv {v} g a B).h,λE b q=>?_}};let{r,f,b}:=zH b;show j E f λy l s c o=>k l s r y _ _ c.gh o b λw i A z m=>q w i A Æg m
def Tv(n:JS X (ϰf op) ru)(f:∀(G H:Hp) x u d (Q:VK),za X.K G x u->F1 x=À d->∃w,(∀G,za X.K G d w)/\(Q w H->ru u H Q))(l:SE X a fa):SE X (.UnaryOp op a pos) (e1 F1 fa):=by
 let{t,m,e}:=l.h;show{{_,y6w n m,λE c q=>?_}};let{x,g,c}:=zH c;show e E g λv i k o j=>?_
 let{w,b,z}:=f i k x v _ _ j c;show z (q w _ _ o (b _))
#print a
section
variable{X:Cx}{x:Ç}{p pos ĕa:Pos}{e a b c tg ť:Õ}{f fa:FE}{ft:FT}{fs:FA}{st:Ú}{sts Ĕc:Á Ú}{g g':FS}
def wx:qU X [] wX:={{_,mE,λ{_ _ G H τ σ b E} K a q=>by cases a;show q σ G H K}}
theorem ĝe{K:Ð}{n:Â}{G0 H0:Hp}{E b:ua}{a:Fl}(h:tI K n G0 H0 E a)(f:∀τ,a=.nx τ->tI K n G0 H0 b (.nx τ))(j:∀τ,a=.bk τ->tI K n G0 H0 b (.bk τ))(e:∀τ,a=.ct τ->tI K n G0 H0 b (.ct τ))(c:b.rt=E.rt):tI K n G0 H0 b a:=by
 cases a with
 |nx τ=>show f τ rfl|bk τ=>show j τ rfl|ct τ=>show e τ rfl|rt o d=>
  cases o with
  |Å=>intro v G H x r;rw[c];show h v G H x r|Ã=>intro v G H x i k g;rw[c];show h v G H x i k g
def zd(b:SS X st g)(e:qU X sts g'):qU X ϵo (zb g g'):=by
 let{t,p,k}:=b.h;let{n,j,c}:=e.h;show{{_,mD p j,λ{l r G H τ σ u E} K a q=>?_}};let{i,b,a}:=zH a;show k K b ?_;cases i with
 |nx τ'=>show λσ' m s f=>c f a q|bk τ'=>cases a;show q|ct τ'=>cases a;show q|rt o d=>cases a;show ĝe q ça ça ça rfl
def zc(a:SS X st g):qU X [st] g:={let ⟨t,p,k⟩:=a.h;{t,mF p,k}}
def S4(i:Â)(h:qU X sts g):qU X sts (zb (Tj i) g):=by
 rw[Ĩp];show{{t,p,λ{j n G H τ σ o E} K b q=>?_}};let{m,a,b}:=zH b;unfold Tj at a
 rw[Ăp];rename_i f d c;cases a;let{l,e,_}:=K.freeze c;show k e b q;cases a
def yb(j:ğa)(hi:X.N[i]?=À x)(g:gJ ßa x)(l:SE X e f)(c:Î Ôe q12)(a:Î ϧa q7) :SS X ŷe (yR i f):=by let{t,p,k}:=l.h;show{{_,(NT j hi g {p} c a).h,λ{m o G H τ σ u E} K a q=>?_}};rw[ϐp];show k K b λv n s x r=>q _ _ _ ((Ìa x).set Łb.1 r)
def Z2(l:ğa)(hi:X.N[i]?=À x)(j:gJ ßa x)(n:SF X e f)(g:Î Ôe q12)(a:Î ϧa q7) :SS X ŷe (pO i f):=by
 let{t,p,k}:=n.h;show{{_,(NT l hi j {p} g a).h,λ{r u G H τ σ w E} K a q=>?_}};rw[Ϗp];show k K c λp s v x b m o=>q _ _ _ ((Ìa x).aF Łb.1 m Ĉm o ?_)
 show K.aC b
def yO(c:SE X e f):SS X ϭe (yL f):=by let{t,p,k}:=c.h;show{{_,BJ p,λ{g j G H τ σ m E} K a q=>?_}};rw[ϐp];show k K b λv i l x r=>q v _ _ ōm r
def jF(i:SF X e f):SS X ϭe (ql f):=by let{t,p,k}:=i.h;show{{_,BJ p,λ{j m G H τ σ r E} K a q=>?_}};rw[Ϗp];show k K c λp l n x b g o=>q p _ _ ōm Ĉm g o
def Zl(i:Â)(f:Î ĥb q12)(hv:Î ķb q13)(c:Î ī q10)(b:Î Ĭa q10):SS X (.Return (À šh) pos) (jz i):=by
 show{{_,BJ (kZ f hv c b),λ{j k G H τ σ l E} K a q=>?_}};unfold jz at a
 rw[Ăp];rename_i d h;cases a;let{p,e,g,z,o}:=K.ow _ _ h;show{_,e,q p _ _ K.ext z g o};cases a
def xm(e:ST X c ft)(i:qU X sa g)(m:qU X sb g'):SS X (.If c sa sb pos) (xU ft g g'):=by
 let{s,p,d}:=e.h;let{w,f,j}:=i.h;let{y,l,o}:=m.h;show{{_,mC p f l,λ{r x G H τ σ u E} K a q=>?_}};let{k,n,a}:=zH a;show d K n λt v b=>?_
 cases k with
 |Ã=>show YS (j (Ìa b) a q)|Å=>show YR (o (Ìa b) a q)
def Vn:qU X sts Āb:={{_,y7r,λ_ a=>by cases a}}
def oZ{ft:FT}(u:Ċd Ą X.A Ø Ĳ)(s:ST X c ft)(y:qU X Ĕc g):SS X (.While c Ĕc [] pos) (BY ft g):=by
 let{J,I,r}:=s.h;let{P,x,C}:=y.h;show{{_,y7q u I x,λ{f l G H τ σ i E} K a q=>?_}};show{λm σ H=>∃τ G,zx X.K ù f l G H τ σ/\jJ ft g m τ=À i,{LN,τ,G,K,a},?_};rintro m σ H ⟨τ,G,K,a⟩;cases m with
 |Ϡ=>cases a|ϡ n=>
  let{k,B,a}:=zH (show(ft τ).bind _=_ from a);show r K B λL O j=>?_
  cases k with
  |Å=>cases a;show YR (q _ _ _ Ãg)|Ã=>
   let{F,v,a}:=zH (show(g τ).bind _=_ from a);show YS {λσ' p=>∃τ G,zx X.K ù f l G p τ σ'/\jJ ft g n τ=À i,λσ' p z=>{n,ϭb n,z},C Ãg v ?_};cases F with
   |nx τ2=>show λσ2 b t e=>{τ2,b,e,a}|ct τ2=>show λσ2 b t e=>{τ2,b,e,a}|bk τ2=>cases a;show q|rt o d=>cases a;show ĝe q ça ça ça rfl
theorem ϩi{K:Ð}{n:Â}{G0 H0 b c:Hp}{E:ua}{a:Fl}(x:zS G0 H0 b c)(h:tI K n G0 H0 E a):tI K n b H0 E a:=by
 cases a with
 |nx τ=>show λσ G H z=>h σ G H Ŕh|bk τ=>show λσ G H z=>h σ G H Ŕh|ct τ=>show λσ G H z=>h σ G H Ŕh|rt o d=>
  cases o with
  |Å=>show λv G H y r=>h v G H īn r|Ã=>show λp G H y f g e=>h p G H īn f g e
structure SG(X:Cx)(tg:Õ)(fg:FG):È where
 h:∃t,PG X tg t/\∀{G0 H0 G H:Hp}{τ τ':yC}{σ:St}{d:D}{v:V}{Q:St->Hp->È},zx X.K ù G0 H0 G H τ σ->za X.K G d v->fg d τ=À τ'->(∀σ',zx X.K ù G0 H0 G H τ' σ'->Q σ' H)->t v σ H Q
def Vk(h:QG X àa ϙb)(hi:X.N[i]?=À x):SG X àa (yD i):={{_,h.h,λK r a q=>by cases a;show q _ (K.set Łb.1 r)}}
def Bf(h:QG X Ŭe ŭe)(hi:X.N[i]?=À x)(f:X.N[j]?=À y):SG X Ŭe (uf i j):=⟨⟨_,h.h,λ{o u G H τ τ' σ d v Q} K r b q=>by
 unfold uf at b
 rw[ĭp];rename_i w p;cases b;let{a,t,rfl,n,{g,s,rfl,l,{m,k,rfl,e,c}},_}:=r;rw[ĥp];show q _ ((K.set Łb.1 l).set Ĵd.1 e);cases b⟩⟩
def Zk{c:FG}(B:Ċd Ą X.A Ø Ĳ)(v:Ϗ=Ã)(hi:SI X tg ť fs)(hg:SG X tg c)(R:qU X Ĕc g)(Z:Î (∀x,ðb ť Ø x=pure x) q11):SS X ũg (pN fs c g):=by
 rw[Ŕp];show{{_,NA B v pi Q pb Z,λ{G0 r G H τ σ t E} K a q=>?_}};let{b,C,a}:=zH a;show O K C λJ p Ha W _ j=>?_
 let s:=Ìa W;let l:=ϩi s.ext q;show{λi m σ H=>m=ϋ-i/\i<=ϋ/\∃τ G,zx X.K ù p r G H τ σ/\Zb c g Âj τ=À t,{ϋ,rfl,Ϥ _,τ,p,s.zE,a},?_};rw[Ĉp];show .inr {j.go i G H ϑb âa hlt,λσ' f=>∃τ G,zx X.K ù p r G f τ σ'/\Zb c g Įi τ=À t,λσ' f z=>{ϋ-ñ,űd _ _ hlt,rfl,hlt,z},λx f y=>?_};let{G3,d,U,u,rd}:=j.uY i G H x f ϑb âa hlt y;rw[ϛp];let{τ1,P,a}:=zH (show(c _ τ).bind _=_ from a);let{f1,F,a}:=zH a;show S (Ìa U) rd P λσ1 K1=>T K1 F ?_
 cases f1 with
 |nx τ2=>show λσ2 n Y k=>{τ2,n,k,a}|ct τ2=>show λσ2 n Y k=>{τ2,n,k,a}|bk τ2=>cases a;show l|rt o d=>cases a;show ĝe l ça ça ça rfl
 rw[ϓp];show .inl {j.stop i G H ϑb âa É,l _ _ _ K}
def z7x{K:Ð}{G:Hp}{lo:Æ}{n:Â}:jZ K Íp G ((Āc).map λk:Â=>ĉ ŏb) where
 go:=λi b H _ _ a=>by exact i<n;simpa using a
 uY:=λi b H x d _ c a y=>by let{rfl,rfl}:=y;show{b,.int ϝa,Ąa c,by simp at a;simp[a],rfl}
 Ŵ:=λi b H _ _ a=>by exact n<=i;simpa using a
def Z0(i:Gl X ńb)(f:ó ńb=Ä)(m:SE X a fa)(d:Î ăd q12):SI X tg Ől (t5 ĝ fa):=by
 let{t,o,k}:=(zB m zM d).h;show{{_,y78 i f o Ģj,λ{z I G H τ σ ds R} K b q=>?_}};let{x,g,b}:=zH b;cases g;let{y,u,b}:=zH b;refine k K (ds:=[y]) (by unfold zA;rw[u];rfl) λF B C w l=>?_
 cases y<;>first|cases b|skip
 rename_i j;let{v,r,rfl,n,s}:=l;cases(show r=[]from s);cases(show v=.int j from n)
 change (if(0:Æ).natAbs<=yN/\žf<=yN/\(j-0).toNat<=yN then _ else _)=_ at b
 by_cases c:(0:Æ).natAbs<=yN/\žf<=yN/\(j-0).toNat<=yN;rw[ŭp];let E:žf<=16777216:=c.2.1;let A:(j-0).toNat<=16777216:=c.2.2;refine{j,rfl,by omega,by omega,q _ _ _ w ?_ ?_};rw[æ,ϴa,Ś];omega;let e:(j-0).toNat=Ϸf:=by omega
 rw[e];show z7x;rw[ϻp]
def z9j{K:Ð}{G:Hp}{a:Ì}{vs:Á V}{ds:Á D}(h:yc K G a vs)(r:â K G ds vs):jZ K ϔi G ds where
 go:=λi g H b c f=>by let{v,e,_}:=Ūa (ė f);show{vs,v,uB ýd h,e}
 uY:=λi g H x l b c f y=>by let{rfl,y}:=y;let e:=y vs (uB ýd h);let{d,k,j}:=r.at e;show{g,d,Ąa c,k,ųc b}
 Ŵ:=λi g H b c f=>{vs,uB ýd h,by rw[Ų];show f}
def x6n{K:Ð}{G:Hp}{a:Ì}{vs:Á V}{ds:Á D}(h:xF K G a vs)(r:â K G ds vs):jZ K ϖi G ds where
 go:=λi g H b c f=>by let{v,e,_}:=Ūa (ė f);show{vs,v,uJ ýd h,e}
 uY:=λi g H x l b c f y=>by let{rfl,y}:=y;let e:=y vs (uJ ýd h);let{d,k,j}:=r.at e;show{g,d,Ąa c,k,ųc b}
 Ŵ:=λi g H b c f=>{vs,uJ ýd h,by rw[Ų];show f}
def x2f{K:Ð}{G:Hp}{z:Ç}:jZ K ÿg G (èm λc=>ύc {#[c]}) where
 go:=λi b H _ _ a=>by rw[æ,ſ]at a;show a
 uY:=λi b H x f _ e a y=>by let{rfl,c,d,rfl}:=y;show{b,.str {#[c]},Ąa e,?_,rfl,Ņa (n:=1) Í};rw[ũ,ϫa,d];rfl
 Ŵ:=λi b H _ _ a=>by rw[æ,ſ]at a;show a
def PI.or(c:PI X tg e w1)(b:PI X tg e w2):PI X tg e (λσ H R=>w1 σ H R\/w2 σ H R):=λa s σ H R I q=>by rcases q with q|q;show c a s σ H R I q;show b a s σ H R I q
def t9(h:SE X e f):SI X tg e (u9 f):=by
 rw[Ĩp];show{{_,PI.or (y77 p) (PI.or (y7a p) (y79 p)),λ{o s G H τ σ u R} K j q=>?_}};let{d,c,j}:=zH j;cases d<;>first|cases j|skip
 rename_i z;show .inr (.inr žg);let{rfl,l}:=r;show{z,rfl,q _ _ _ x (by rw[æ,ſ];show l) x2f};show .inr (.inl žg);let{a,i,rfl,b,g,l}:=r;show{a,rfl,{i,uJ öa b},q _ _ _ x l (x6n b g)};show .inl žg;let{a,i,rfl,b,g,l}:=r;show{a,rfl,{i,uB öa b},q _ _ _ x l (z9j b g)}
#print a
nonrec def S9(K:Ð)(n:Â)(f:FE):TE:=λσ H Q=>∃G0 H0 G τ d,zx K n G0 H0 G H τ σ/\f τ=À d/\∀v G' H',zS G H G' H'->za K G' d v->Q v H'
nonrec def By(K:Ð)(n:Â)(f:FT):TT:=λσ H Q=>∃G0 H0 G τ d,zx K n G0 H0 G H τ σ/\f τ=À d/\∀G' H',zS G H G' H'->Q d H'
structure Wz(X:Cx)(es:Á Õ)(f:FT):È where
 h:Wy X es (By X.K ù f)
section
variable{X:Cx}{e c:Õ}{f:FE}{ft:FT}
def SE.pe(h:SE X e f):PE X e (S9 X.K ù f):=λa s σ H Q I q=>by rw[Ĩp];let{c,g,G,τ,d,K,b,z}:=q;show p a s σ H Q I Ϻo
def ST.pt(h:ST X e ft):PT X e (By X.K ù ft):=λa s σ H Q I q=>by rw[Ĩp];let{c,f,G,τ,d,K,b,z}:=q;show p a s σ H Q I Ϻo
def tW:Wz X [] yl:={λb s σ H Q I q=>by let{c,e,G,τ,d,K,a,z}:=q;cases a;show mG b s σ H Q I (z _ _ êe)}
def Yn(h:ST X c ft):Wz X [c] ft:={y7u h.pt}
#print a
def zx.more{K:Ð}{n:Â}{G0 H0 G H:Hp}{τ:yC}{σ:St}(k:Â)(E:zx K n G0 H0 G H τ σ):zx K ϟb G0 H0 G H Ϸa Ød:=by
 let a:∀{i:Â}{s:Sl},Ϸa[i]?=À (À s)->τ[i]?=À (À s)/\Ød[i]?=σ[i]?:=λ{i s} h=>by let b:=MV h;let r:i<n:=E.lt b;show{b,éb (by rw[ĸ];show r)}
 refine{Ϟb,by rw[ê,ϲb,ĸ],by rw[ê,ϲb,Ģ],λi d h=>?_,λi d h=>?_,λi j d e p g q o l m=>?_};let{b,e}:=a h;rw[e];show æb i d b;let{b,e}:=a h;rw[e];show ŋa i d b;let{f,e1}:=a q;let{c,e2}:=a o;rw[e1]at l;rw[e2]at m;show Ϧa i j d e p g f c l m
def Mz{K:ăf}{n k:Â}{G0 H0 b c:Hp}{τ:yC}{σ:St}{J:It}{ds out:Á D}{g:TG}{j:FG}{q:FT}{f:FE}{h:Á V->Hp->È}(t:jZ K J b ds)(hl:ÿ<=ã)(F:zx K n G0 H0 b c τ σ)(a:yh j q f Ϸa ds=À out)(X:∀G H d v τ' (Q:St->Hp->È),zx K ϟb G0 H0 G H Ϸa Ød->za K G d v->j d Ϸa=À τ'->(∀ρ,zx K ϟb G0 H0 G H τ' Ĝd->Q Ĝd H)->g v Ød H Q)(A:∀ys G H,zS b c G H->â K G out ys->out.length<=ã->h ys H) :∃W:Â->Â->Á V->Hp->È,(∃m,W 0 m [] c)/\IW σ k J g (By K ϟb q) (S9 K ϟb f) W h:=by
 show{λi m ys H=>m=ÿ-i/\i<=ÿ/\ţ<=i/\∃G done zt,zS b c G H/\â K G done ys/\yh j q f Ϸa (ěd i)=À zt/\done++zt=out,{ÿ,rfl,Ϥ _,Òa _,b,[],out,Ąa F.ext.gh,rfl,a,rfl},?_};rintro i m ys H ⟨rfl,R,B,G,done,zt,x,s,a,r⟩;by_cases hlt:i<ÿ
 .refine .inr {t.go i G H x.g öa hlt,by omega,λys H=>ţ<=i+1/\∃G done zt,zS b c G H/\â K G done ys/\yh j q f Ϸa ŵo=À zt/\done++zt=out,λP w z=>{ÿ-ñ,űd _ _ hlt,rfl,hlt,z.1,z.2},λv w y=>?_};let{G3,d,l,L,S}:=t.uY i G H v w x.g öa hlt y;rw[êb hlt]at a;rw[ė hlt]at L;cases L;let{τ1,T,a}:=zH (show(j _ _).bind _=_ from a);let{C,N,a}:=zH a;let Z:=((F.go x).go l).more k;show X G3 w _ v τ1 _ Z S T λρ I=>{{ρ,rfl},_,_,_,_,C,I,N,λO H5 p=>?_}
  cases C with
  |Å=>show YR {by omega,O,done,zt,üc (l.trans p),ļe (ŉo p.g),a,r}|Ã=>let{z,Y,a}:=zH (show(f _).bind _=_ from a);let{o,hm,a}:=zH a;cases a;refine YS {_,_,_,_,z,I.go p,Y,λu G6 H6 E U=>{by rw[ê];show ğb B,G6,done++[z],o,üc (l.trans (p.trans E)),(ļe (ŉo (p.g.trans E.g))).append (Će U),hm,?_}};rw[Ţ];show r
 let e:ěd i=[]:=ϱb ϻe;rw[e]at a;cases a;rw[ŵ]at r;subst r;refine .inl {t.stop i G H x.g öa É,A ys G H x s ?_};rw[<-śc];omega
section
variable{X:Cx}{tg ť elt:Õ}{ifs:Á Õ}{Ĺ:Ûa}{cl:Á Ša}{own:Á Ç}{pos:Pos}{fs:FA}{fg:FG}{ft:FT}{f:FE}{g:TG}
def Rk(xs:Á α)(y:α)(ys:Á α)(h:n=ä)(z:α):(xs++y::ys).set n z=xs++z::ys:=by subst h;rw[ϣe _ _ Đ,Ťb];rfl
structure BG(X:Cx)(Ĺ:Ûa)(cl:Á Ša)(own:Á Ç)(tg:Õ)(g:TG)(fg:FG):È where
 q:∀C s H fp pn,QG Àa tg g
 k:∀{G0 H0:Hp}{τ:yC}{σ:St},τ.length=ù->σ.length=ù->∀G H d v τ' (Q:St->Hp->È),zx X.K ìe G0 H0 G H Ëm Ìd->za X.K G d v->fg d Ëm=À τ'->
  (∀ρ,zx X.K ìe G0 H0 G H τ' Ĝd->Q Ĝd H)->g v Ìd H Q
def vi(q:∀C s H fp pn,QG (wb X Ĺ cl [x] C s H fp pn) tg ϙb)(hi:i=ù):BG X Ĺ cl [x] tg ϙb (yD i):={q,λ{f g τ σ} h b G H d v τ' Q E r e k=>by cases e;let c:=E.set (i:=i) (v:=v) (by rw[hi];show ϭb _) r;let a:(Ķm).set i ź=σ++[À v]:=Rk σ Ä [] (hi.trans b.symm) ź;exact Q ((Ķm).set i ź) H;rw[a];show k [À v] ?_;rw[<-a];show c}
def Ef(q:∀C s H fp pn,QG (wb X Ĺ cl ãb C s H fp pn) tg ŭe)(hi:i=ù)(h:j=ù+1):BG X Ĺ cl ãb tg ŭe (uf i j):=⟨q,λ{u F τ σ} A g G H d v τ' Q E r e k=>by
 unfold uf at e
 split at e;rename_i I w;cases e;let{a,B,rfl,t,{b,z,rfl,o,{c,n,rfl,m,l}},_}:=r;cases(show n=[]from l);let p:=(E.set (i:=i) (v:=b) (by rw[hi];show Nat.lt_add_of_pos_right (Ĉn _)) o).set (i:=j) (v:=c) (by rw[h];show ϭb _) m
 let f:(ķk).set j Ûj=σ++[À b,À c]:=by
  let e1:(σ++š 2 Ä).set i (À b)=σ++[À b,Ä]:=Rk σ Ä [Ä] (hi.trans g.symm) (À b);rw[e1];let e2:σ++[À b,Ä]=Ún++[Ä]:=by simp
  rw[e2,Rk Ún Ä [] (by rw[ê,h,g];rfl) Ûj];simp
 show{a,_,rfl,uJ Äa t,rfl,b,_,rfl,c,_,rfl,rfl,?_};exact Q ((ķk).set j Ûj) H;rw[f];show k [À b,À c] ?_;rw[<-f];show p;cases e⟩
def Eh(X:Cx)(own:Á Ç):(wL X.N own).length=ù+ϯa:=by unfold wL;rw[ê,æ]
theorem L_(h:SE Àa elt f):PE Àa elt (S9 X.K ìe f):=by let q:=h.pe;rw[ŏp]
def M3(h:Wz Àa ifs ft):Wy Àa ifs (By X.K ìe ft):=by let q:=h.h;rw[ŏp]
def uH(a:Ϗ=Ã)(B:Z_ X Ĺ cl own)(hi:SI X tg ť fs)(j:BG X Ĺ cl own tg g fg)(m:∀C s H fp pn,Wz Àa ifs ft)(t:∀C s H fp pn,SE Àa elt f)(w:Î (∀x,ðb ť Ø x=pure x) q11) :SF X çb Ϲe:=by
 let{R,z,o}:=ϡb;show{{_,lT a B z (Οb (j.q C s H fp pn)) (Νb (m C s H fp pn)) (λC s H fp pn=>L_ (t C s H fp pn)) w,λ{N L G H τ σ d Q} K b q=>?_}};let{S,n,b}:=zH b;let{E,u,b}:=zH b;cases b;show o K n λJ P F i l r=>Mz r l (Ìa i) u (j.k K.l2 K.l1) λA O I c y v p e=>?_
 show q p _ _ (ϸf ύl) (i.h.free (ϋf e)) (řf e) {A,yX,y,v}
def x28(b:Ϗ=Ã)(I:ğa)(c:X.N[i]?=À x)(z:Ϥc x=À .local)(B:Z_ X Ĺ cl own)(r:Ĳb çb Ãh Ľo Ø=pure Ã)(hi:SI X tg ť fs)(u:BG X Ĺ cl own tg g fg)(w:∀C s H fp pn,Wz Àa ifs ft)(L:∀C s H fp pn,SE Àa elt f)(R:Î (∀x,ðb ť Ø x=pure x) q11) :SS X Ķk (pO i Ϲe):=by
 let{ti,T,A}:=ϡb;show{{_,NB b I c z B r T (Οb (u.q C s H fp pn)) (Νb (w C s H fp pn)) (Λc (L C s H fp pn)) R,λ{G0 Z G H τ σ fl E} K j q=>?_}};let{d,a,j}:=zH j;cases j;let{ds,y,a}:=zH a;let{U,O,a}:=zH a;cases a;show A K y λJ Ga W t l F=>Mz F l (Ìa t) O (u.k K.l2 K.l1) λv G1 Y m S Q p e=>?_
 let n:=(Ìa t).go m;let P:=n.go (Ϟa (o:=.lst v) m.gh e);show q _ _ _ (P.aF (Š c).1 (m.gh.free e) (n.ext.h.free e) {v,yX,S,Q} (n.aC e))
def S3(b:Ϗ=Ã)(F:ğa)(c:X.N[i]?=À x)(y:Ϥc x=À .local)(B:Z_ X Ĺ cl own)(m:Ĳb çb Ãh Ľo Ø=pure Ã)(hi:SI X tg ť fs)(t:BG X Ĺ cl own tg g fg)(v:∀C s H fp pn,Wz Àa ifs ft)(I:∀C s H fp pn,SE Àa elt f)(Q:Î (∀x,ðb ť Ø x=pure x) q11) :SS X Ķk (yR i Ϲe):=by
 let{ti,S,z}:=ϡb;show{{_,NB b F c y B m S (λC s H fp pn=>(t.q C s H fp pn).h) (Νb Ĺm) (Λc (I C s H fp pn)) Q,λ{Z Y G H τ σ fl E} K e q=>?_}};let{d,a,e}:=zH e;cases e;let{ds,w,a}:=zH a;let{T,L,a}:=zH a;cases a;show z K w λJ Ga U r l A=>Mz A l (Ìa r) L (t.k K.l2 K.l1) λu G1 W j R P p n=>?_
 let O:=((Ìa r).go j).go (ďb (o:=.lst u) j.gh n);show q _ _ _ (O.set (Š c).1 {p,u,rfl,ņa yX,R.mono (wv (j.gh.free n) _),P})
#print a
section
variable{K:Ð}{n:Â}{G0 H0 G H:Hp}{τ:yC}{σ:St}
def zx.Qn(E:zx K n G0 H0 G H τ σ)(hi:τ[i]?=À Ľc)(v:σ[i]?=À Ĳf)(B:xz K G ŋc d' p):zx K n G0 H0 G ŋc Ϛk σ:=by
 let{S,e,g,z,_}:=ŋa i d hi;rw[v]at e;cases e
 let l:∀{m:Hp},m p=Ä->zm m H->zm m ŋc:=λ{m} h s b u q=>by rw[z_ (pJ q h)];show s _ _ q
 refine{{Įd,l z čb,l g Äa,Ŵb},ĸ,by rw[ŉp],λj e h=>?_,λj e h=>?_,λj k e f q a N J O P=>?_};rcases vv h with⟨rfl,w⟩|⟨F,w⟩;cases w;show æb j e w;rcases vv h with⟨rfl,w⟩|⟨F,w⟩;cases w;show{p,v,g,z,B};let{q,C,I,R,x}:=ŋa j e w;show{q,C,I,R,?_}
 let a:q≠p:=λc=>by subst c;show Ϧa i j d e q (λc=>F Ϲf) hi w v C
 cases e with
 |lst ds=>let{A,y,r}:=x;show{A,by rw[z_ a];show y,r}
 |dic ks ds=>let{A,y,r}:=x;show{A,by rw[z_ a];show y,r}
 |_=>show x.elim
 let t:∀{j:Â}{e:D},Ϛk[j]?=À ϰd->∃e,τ[j]?=À ϰd:=λ{j e} h=>by rcases vv h with⟨rfl,_⟩|⟨_,w⟩;show{_,hi};show{_,w}
 let{e1,Q}:=t N;let{e2,L}:=t J;show Ϧa j k e1 e2 q a Q L O P
#print a
section
variable{X:Cx}{x:Ç}{xp pos Ϻ Ž:Pos}{e:Õ}{f:FE}
def Q1(N:QE X ùa Ņd)(L:SE X e f)(m:Î ϔj q12)(n:Î Ōa q12)(B:Î Óa q12) :SS X Ŕm (Yj i ZQ f):=by
 let{t,p,k}:=(zB L zM B).h;refine{{_,(O1 (I_ Ũd ųg Ųg Ki N {p} m n (by rw[Ū,B];rfl) Ůd) rfl).h,λ{W T G H τ σ Z E} K j q=>?_}};unfold Yj at j
 split at j;rename_i d A;let{y,R,j}:=zH j;let{O,b,j}:=zH j;cases j;let{a,w,g,z,o}:=K.ow _ _ A;cases d with
 |lst ds=>
  let{v,C,I,l}:=o;refine{_,w,.inl {rfl,v,ņa C},k K (ds:=[y]) (by unfold zA;rw[R];rfl) λU Y S s P=>?_};let{u,r,rfl,J,Q}:=P;cases(show r=[]from Q)
  change (if ÿ<yN then À (śe Ãp)else Ä)=À O at b
  by_cases c:ÿ<yN;rw[ŭp];refine{a,v,u,rfl,rfl,s.h _ _ C,by rw[I.length,Ś];show c,?_};show q _ _ _ ((Ìa s).Qn A w {v++[u],yX,(ďj s.g).append (Će J),?_});rw[ê,Ś];show c;rw[ϻp]
 |_=>cases b
 cases j
#print a
section
variable{P:ë}{w:å}{K:Ð}{mg:Ç->Ê Value}{Ë:Heap}
def B2{α β:Type}{ds:Á α}{k i:Â}{h:α->Ê β}{y:β}(e:(Ĩe h++š k Ä)[i]?=À (À y)):∃d,ds[i]?=À d/\h d=À y:=by
 let a:=MV e;rw[ũ]at a;cases q:ds[i]? with
 |Ä=>rw[q]at a;cases a|À d=>rw[q]at a;show{d,rfl,úa a}
def eG{N:Á Ç}{G H:Hp}{ds:Á D}{vs:Á V}(s:zm G H)(r:â K G ds vs)(g:ÿ<=Ϝ):zx K Ϝ G H G H (Υe (Ϝ-ÿ)) ëi:=by let l:=Ų;show{Ąa s,?_,?_,λi d h=>?_,λi d h=>?_,λi j d e p _ c=>?_};unfold Ée;rw[ňp];rw[ňp];let{a,e,z}:=B2 h;cases z;let{v,b,f}:=Ūa e;show{v,?_,f};unfold Ée;rw[éb (by rw[æ];show(Š b).1),ũ,b];rfl;let{a,e,z}:=B2 h;cases z;let{a,e,z}:=B2 c;cases z
def Def.z11{x:Ç}{st:Ú}{N ps:Á Ç}{k:Â}{F:Á D->Ê ç}{b:FS}(d:Def K mg x st ps)(S:zk N ps Ŏ)(J:č<=Ϝ)(i:∀ds r,F ds=À r->ÿ=č/\yK Ϝ b ds=À r)(C:∀(f:Ì)(c:Value)(A:þ)(ą:Á Env)(s:Ï)(H:Hp)(E:XK),yp k Ŭg->qU (qC xJ P w K mg Ë N x Ŏ f c A ą s H E).qP Ça b):vI P w K mg Ë x ps Ŝ Če:=by
 show d.ok S (λy H Q E h=>?_) λf c A ą s H y Q E u h=>?_;let{G,ds,o,v,_,r,e,_}:=h;rw[Ų,(i _ _ e).1];let{G,ds,o,v,j,r,e,q}:=h;let{l,a}:=i _ _ e;let{t,p,n}:=(C f c A ą s H E u).h;let{I,g,a}:=zH a;refine{t,p,n (eG (N:=N) j r É) g ?_};cases I with
 |nx τ=>cases a;show λσ m B z=>q .zC m B z.ext rfl|rt o' d'=>
  cases o' with
  |Å=>cases a<;>show q|Ã=>cases a<;>show q
 |_=>cases a
#print a
section
variable{X:Cx}{K:Ð}
def VX(h:∀i j,Cb i j=Ã->C i j):tJ K íl (fI Cb g):=λG H x y u v d Q s e b a q=>by
 cases x<;>first|(cases a;done)|skip
 cases y<;>first|(cases a;done)|skip
 rename_i i j
 change (match Cb i j with|Ã=>À (ĉ ύa)|Å=>Ä)=À d at a
 cases c:Cb i j with
 |Å=>rw[c]at a;cases a|Ã=>rw[c]at a;cases a;show{i,j,e,b,h i j c,q _ _ _ Øa rfl}
def Ta:tJ K ϋo (gT g):=λG H x y u v d Q s c b a q=>by
 cases x<;>first|(cases a;done)|skip
 cases y<;>first|(cases a;done)|skip
 rw[ıp]
def Xx:tJ K ϙn kL:=λG H x y u v d Q s c b a q=>by
 cases x<;>first|(cases a;done)|skip
 cases y<;>first|(cases a;done)|skip
 rw[ıp]
def iK(h:j7 i=Ã) : -Ϣf<i/\i<2 ^ 64:=by unfold j7 at h;rw[Č]at h;show{Ŋ h.1,Ŋ h.2}
def jt:tJ K ŭg pB:=VX λ_ _ h=>.inl (iK h)
def Kv:tJ K ŭg Jo:=VX λ_ _ h=>.inr (iK h)
def xW:tJ K Ϯk xQ:=VX λ_ _ h=>Ŋ h
def Kt:tJ K Ďk Jn:=VX λ_ _ h=>by rw[Č]at h;show{Ŋ h.1,Ŋ h.2}
def y7l(h:jx i j=Ã):FH i j:=by unfold jx at h;rw[Č,Č]at h;show{Ŋ h.1,Ŋ h.2.1,Ŋ h.2.2}
def Yd:tJ K ąk uy:=VX λ_ _ h=>y7l h
def lC:tJ K þk Jp:=VX λ_ _ h=>Ŋ h
def qh:kD K Şl (tM g):=λH x y u v d Q c b a=>by
 cases x<;>first|(cases a;done)|skip
 cases y<;>first|(cases a;done)|skip
 cases a;show{_,rfl,λq=>{_,_,c,b,q}}
def f_(r:za K H x u):TM x=decide (u=.zC):=by
 cases x with
 |zC=>cases r;rfl|bl b=>cases r;rfl|int b=>cases r;rfl|str b=>let{rfl,_}:=r;rfl
 |tup b=>let{a,d,rfl,_}:=r;rfl
 |lst b=>let{a,d,rfl,_}:=r;rfl
 |dic b c=>let{a,d,rfl,_}:=r;rfl
 |exc b=>let{a,C,rfl,_}:=r;rfl
 |obj b c e=>let{a,C,f,d,rfl,_}:=r;rfl
def VZ:kD K Ŗl YH:=λH x y u v d Q c b a=>by
 cases y<;>first|(cases a;done)|skip
 let e:=f_ c;show{TM x,(úa a).symm,λq=>{b,?_}};rw[<-e];show q
def B9:kD K Ōk T7:=λH x y u v d Q c b a=>by
 cases y<;>first|(cases a;done)|skip
 let e:=f_ c;show{!TM x,(úa a).symm,λq=>{b,?_}};rw[<-e];show q
def OO:∀(G H:Hp) x u d (Q:VK),za K G x u->Xe x=À d->∃w,(∀G,za K G d w)/\(ηd (-i)):=λG H x u d Q r a=>by
 cases x<;>first|(cases a;done)|skip
 rw[Ϧp]
def x88:∀(G H:Hp) x u d (Q:VK),za K G x u->GH x=À d->∃w,(∀G,za K G d w)/\(ηd Ëj):=λG H x u d Q r a=>by
 cases x<;>first|(cases a;done)|skip
 rw[Ϧp]
def mh(K:Ð):R2:=λx y H Q=>∃l b xs zs,x=.ref l/\y=.ref b/\yc K H l xs/\yc K H b zs/\ä+Œf<=ã/\∀p,H p=Ä->Q ϛ (ε ϥk)
def lE:xB X ād (mh X.K):=by
 intro O s σ H x y v u Q I B r h;let{l,b,P,T,rfl,rfl,G,w,n,q}:=h;cases B;cases r;let{c,p,A,_}:=Ϙ G;let{a,o,t,_}:=Ϙ w;obtain⟨⟨U,z,W,k⟩,J,e,g,E,d⟩:=A;obtain⟨⟨S,C,R,m⟩,N,f,i,L,j⟩:=t;simp only at g d i j;subst g d i j
 refine Ÿh {_,e,rfl} {_,f,rfl} ěm seq_list_add PySem.F.slot_list_add PySem.F.entry_list_add (PySem.F.args_list_add_2 _ _)
  (list_addW l b Řf ăb J N z C k m (by rw[ģ,ģ,<-Āe,<-Ϗa];show n)) {e,f,?_}
 rw[show Řf++ăb=(c++a).toArray by simp];show{.ref _,_,I.aB (t':=ĕ) (p.append o) (by rw[ê];show n),rfl,q _ Ģe}
def mZ(K:Ð):R2:=λx y H Q=>pM (λi j=>.int (i+j)) x y H Q\/(∃i k,x=.int i/\y=.bl k/\Q įm H)\/(∃i j,x=.str i/\y=.str j/\όa+Ôa<=ã/\Q ûn H)\/mh K x y H Q\/mj K x y H Q
def xT:xB X ād (mZ X.K):=y5m.or (y5n.or (y5o.or (lE.or y5p)))
def xS:tJ K (mZ K) yk:=λG H x y u v d Q s A t f q=>by
 cases x<;>first|(cases f;done)|skip
 all_goals (cases y<;>first|(cases f;done)|skip)
 rename_i i b;cases A;cases t;cases f;show .inr (.inl {i,b,rfl,rfl,?_});let e:i+b2i b=i+ϰe:=by cases b<;>rfl
 rw[e];rw[Ŭp];cases f;show .inl {_,_,A,t,q _ _ _ Øa rfl};rename_i i j;let{rfl,I}:=A;let{rfl,F}:=t
 change (if όa+Ôa<=yN then _ else _)=_ at f
 by_cases c:όa+Ôa<=yN;rw[Ò c]at f;cases f;let k:όa+Ôa<=ã:=by rw[Ś];show c
 show .inr (.inr (.inl {i,j,rfl,rfl,k,q _ _ _ Øa {rfl,by rw[Ϲc];show k}}));rw[Ó c]at f;rw[ĺp]
 change (if őo=Å/\Íb+ïc<=yN then _ else _)=_ at f
 by_cases c0:őo=Å/\Íb+ïc<=yN;rw[Ò c0]at f;let c:=c0.2;rw[Řp]
 let E:n≠[]:=λe=>by
  let l:=ϐa;rw[e]at l;cases g with
  |nil=>cases c0.1|ï=>cases l
 refine .inr (.inr (.inr (.inr {a,b,n,w,rfl,rfl,uJ s B,uJ s C,E,by rw[ϐa,Ϗa,Ś];show c,λe=>?_,λe p r=>?_})));subst e
 let e2:h=[]:=by
  cases h with
  |nil=>rfl|ï=>let{_,_,z,_}:=o;cases z
 subst e2;show q _ _ _ Øa {a,n,rfl,B,by rw[ŵ];show m,k};show q _ _ _ żo {p,n++w,rfl,őb yX,(ĸn).mono Òm,k};rw[Ó c0]at f;rw[ĺp]
 change (if Íb+ïc<=yN then _ else _)=_ at f
 by_cases c:Íb+ïc<=yN;rw[Ò c]at f;rw[Řp]
 refine .inr (.inr (.inr (.inl {a,b,n,w,rfl,rfl,uB s B,uB s C,by rw[ϐa,Ϗa,Ś];show c,λp r=>?_})));show q _ _ _ żo {p,n++w,rfl,ņa yX,(ĸn).mono Òm,k};rw[Ó c]at f;cases f
def z1t(h:j3 xs i=À x):∃j:Â,xs[j]?=À x/\∀{β:Type}(ys:Á β),ţ=ä->j3 ys i=ys[j]?:=by
 unfold j3 at h;cases e:ixN ä i with
 |Ä=>rw[e]at h;cases h|À j=>rw[e]at h;show{j,h,λys l=>by unfold j3;rw[l,e];rfl}
def cr(xs:Á α)(i:Æ):j3 xs i=uP xs i:=by
 unfold j3 uP ixN;by_cases h:0<=i;rw[Ò h,Ò h];by_cases h2:i<ä;rw[Ò h2];rfl;rw[Ó h2];show(Ϫa É).symm;rw[Ó h,Ó h]
 split<;>rfl
def nE(r:â K H ds vs)(h:uP ds i=À d):∃v,j3 vs i=À v/\za K H d v:=by rw[<-cr]at h;let{j,e,k}:=z1t h;let{v,a,b}:=Ūa e;show{v,by rw[k vs Ų];show a,b}
def z4i:D->D->Ê D
 |.lst xs,.int i=>uP xs i|.tup xs,.int i=>uP xs i|.str z,.int i=>(Ĉo).bind λc=>À Şh|_,_=>Ä
def Ku:tJ K (NW K) z4i:=λG H x y u v d Q s f j e q=>by
 cases x<;>first|(cases e;done)|skip
 all_goals (cases y<;>first|(cases e;done)|skip)
 rename_i z i;let{rfl,l}:=f;cases j;let{c,o,e}:=zH e;cases e;rw[<-cr]at o;show .inr (.inr {z,i,c,rfl,rfl,l,o,q _ _ _ Øa {rfl,Ņa (n:=1) Í}});rw[Ľp];show .inr (.inl {a,k,i,w,rfl,rfl,uJ s h,m,q _ _ _ Øa b});rw[Ľp];show .inl {a,k,i,w,rfl,rfl,uB s h,m,q _ _ _ Øa b}
def kK:vn X Ôd (Αd ŗg ći):=z2t.or z2u
def kY:Uo K (Αd (yc K H p ys\/xF K H p ys) ći) qZ:=λG H i j d Q s r b q=>by
 match i,b with
 | [.lst xs],b=>cases b;let{v,e,rfl,{a,f,rfl,h,g,_},c}:=r;cases(show e=[]from c);show .inl {a,f,rfl,.inl h,by rw[Íb];rw[Ŭp]}
 | [.tup xs],b=>cases b;let{v,e,rfl,{a,f,rfl,h,g,_},c}:=r;cases(show e=[]from c);show .inl {a,f,rfl,.inr h,by rw[Íb];rw[Ŭp]}
 | [.str z],b=>cases b;let{v,e,rfl,{rfl,l},c}:=r;cases(show e=[]from c);show .inr {z,rfl,l,q _ _ _ Øa rfl}
#print a
theorem de:∀xs ys:Á D,(((ϲg).all λj=>xr ϰh ċh)&&ä==ţ)=Ϣb xs ys
 | [],[]=>rfl| [],_::_=>rfl|_::_,[]=>rfl|x::xs,y::ys=>by
  let a:=de xs ys;exact _=Įl;rw[<-a,Ě,Ě,Nat.succ_min_succ,List.range_succ_eq_map,Ū,List.all_map,Bool.and_assoc]
  congr 1
  congr 1
  rw[Éc];simp
theorem dR:∀{xs ys:Á D},je f xs ys=Ã->∀(j:Â) x y,xs[j]?=À x->ys[j]?=À y->f x y=Ã
 | [],_,_,j,x,y,e,_=>by cases e|x::xs,[],_,j,_,y,_,e=>by cases e|x::xs,y::ys,h,0,_,_,e1,e2=>by cases e1;cases e2;let c:Ţl=Ã:=h;rw[ϵp];show c.1|x::xs,y::ys,h,j+1,a,b,e1,e2=>by let c:Ţl=Ã:=h;rw[ϵp];show dR c.2 j a b ťl Ťl
section
variable{X:Cx}{z8:Á ð}{σ:St}{H:Hp}{s:Ï}{K:Ð}
theorem GE(d:∀d1 d2 v,uv n d1 d2=Ã->za K H d1 v->za K H d2 v->xr d1 d2=Ã):∀{xs ys:Á D}{vs:Á V},je Żc xs ys=Ã->â K H xs vs->â K H ys vs->Ϣb xs ys=Ã
 | [],[],_,_,_,_=>rfl| [],_::_,_,_,r1,r2=>by cases(show _=[]from r1);let{_,_,e,_}:=r2;cases e
 |_::_,[],_,_,r1,r2=>by cases(show _=[]from r2);let{_,_,e,_}:=r1;cases e
 |x::xs,y::ys,_,h,r1,r2=>by let{v,r,rfl,a,b}:=r1;let{i,j,e,g,f}:=r2;cases e;let c:(uv n x y&&je Żc xs ys)=Ã:=h;rw[ϵp];exact Įl=Ã;rw[d x y v c.1 a g,GE d c.2 b f];rfl
def Er(h:uv ı x y=Ã):(∃xs ys,x=.tup xs/\y=.tup ys/\je Żc xs ys=Ã)\/(∃xs ys,x=.lst xs/\y=.lst ys/\je Żc xs ys=Ã)\/(xO x=Ã/\xO y=Ã):=by
 unfold uv at h
 rw[Ϟp];show .inl {_,_,rfl,rfl,h};show .inr (.inl {_,_,rfl,rfl,h});rw[Č]at h;show .inr (.inr h)
def Vg(h:xO d=Ã)(r:za K H d v):jh v=Ã:=by
 cases d<;>first|show Þ h Ŗ|skip
 rw[ėp];rfl;rw[ėp];rfl;rw[ėp];rfl;cases(show v=_/\_ from r).1;rfl
def O3(d:xO d1=Ã)(c:xO d2=Ã)(b:za K H d1 x)(a:za K H d2 y):j6 x y=xr d1 d2:=by
 cases d1<;>first|show Þ d Ŗ|skip
 all_goals (cases d2<;>first|show Þ c Ŗ|skip)
 all_goals first
  |(cases(show x=_ from b);cases(show y=_ from a);rfl)
  |(cases(show x=_ from b);cases(show y=_/\_ from a).1;rfl)
  |(cases(show x=_/\_ from b).1;cases(show y=_ from a);rfl)
  |(cases(show x=_/\_ from b).1;cases(show y=_/\_ from a).1;rfl)
theorem MK(I:zI X z8 σ H s):∀(n:Â)(d1 d2:D)(v:V),uv n d1 d2=Ã->za X.K H d1 v->za X.K H d2 v->xr d1 d2=Ã
 |0,_,_,_,h,_,_=>by cases h|n+1,d1,d2,v,h,r1,r2=>by rcases Er h with⟨k,l,rfl,rfl,h⟩|⟨k,l,rfl,rfl,h⟩|⟨g,i⟩;rw[śp];cases I.FC f b;show GE ŵk h d c;rw[śp];cases I.LI f b;show GE ŵk h d c;rw[<-O3 g i r1 r2];show z4d (Vg g r1)
def fA{α:Type}{xs:Á α}{j:Â}{x d:α}(h:xs[j]?=À x):Ìe j d=x:=by rw[Ϭ,h];rfl
def BS{A:þ}{n:Â}{a c:Ì}{xs ys:Á D}{vs us:Á V}(I:zI X z8 σ H s)(r:ľa<Ϫ)(w:SqB X.K H a c vs us)(m:â X.K H xs vs)(g:â X.K H ys us)(h:je Żc xs ys=Ã)(o:∀(d b:D)(x y:V)(u v:Value),uv n d b=Ã->za X.K H d x->za X.K H b y->yB x u->yB y v->Ķb ϑ s u v (xr d b)):ái A s Ş ϥf (Ϣb xs ys)/\źh A s Ş ϥf (!dEqs xs ys):=by
 let z:=y8y (A:=A) (e:=λj=>xr ϰh ċh) I r w λj E B f i e1 e2 p t=>by let{d,k,C}:=m.at e1;let{b,l,q}:=g.at e2;exact Ķb ϑ s f i (xr ϰh ċh);rw[fA k,fA l];show o d b E B f i (dR h j d b k l) C q p t
 rw[ϐa,Íb,de]at z;show z
theorem MJ(I:zI X z8 σ H s):∀(n:Â)(A:þ)(d1 d2:D)(x y:V)(u v:Value),ľa+n<Ϫ->uv n d1 d2=Ã->za X.K H d1 x->za X.K H d2 y->yB x u->yB y v->Ķb A s u v ÿo
 |0,_,_,_,_,_,_,_,_,h,_,_,_,_=>by cases h|n+1,A,d1,d2,x,y,u,v,hu,h,r1,r2,rx,ry=>by let p:=h;let q:=r1;let m:=r2;rcases Er h with⟨w,z,rfl,rfl,h⟩|⟨w,z,rfl,rfl,h⟩|⟨r,o⟩;rw[ϑp];show ŷl hac (Γd Řn Ñf).1;rw[ϑp];show ŷl hac (Γd Ŗn Ñf).1;rw[<-O3 r o r1 r2];show eI rx ry (Vg r r1) (Vg o r2)
#print a
def BR(K:Ð)(a:Ñ):R2:=λx y H Q=>∃d1 d2 k,za K H d1 x/\za K H d2 y/\YG d1 d2=À k/\Q (.bl (if a then !k else k)) H
def yt(a:yp k A):ľa+7<Ϫ:=íb (Ĩc (by decide:7<=64) _) a.units
section
variable{X:Cx}{K:Ð}
def GG(h:YG d1 d2=À k):uv 6 d1 d2=Ã/\k=xr d1 d2:=by
 unfold YG at h
 rw[Ϟp];cases h;cases h;rw[Ļp];cases h;show{e,rfl};cases h
def o7(h:YG d1 d2=À k)(c:xO d1=Ã)(d:xO d2=Ã)(b:za K H d1 x)(a:za K H d2 y):Rh x y=Ã/\decide (x=y)=k:=by
 let{_,e}:=GG h;subst e;cases d1<;>first|show Þ c Ŗ|skip
 all_goals (cases d2<;>first|show Þ d Ŗ|(cases h;done)|skip)
 all_goals first
  |(cases(show x=_ from b);cases(show y=_ from a);show⟨rfl,by first|rfl|show Ex|show Ew⟩)
  |(cases(show x=_ from b);cases(show y=_/\_ from a).1;show⟨rfl,rfl⟩)
  |(cases(show x=_/\_ from b).1;cases(show y=_ from a);show⟨rfl,rfl⟩)
  |(cases(show x=_/\_ from b).1;cases(show y=_/\_ from a).1;show⟨rfl,Ey⟩)
def eK(I:zI X z8 σ H s)(G:ľa+7<Ϫ)(h:uv 6 d1 d2=Ã)(C:¬ (xO d1&&xO d2)=Ã)(o:za X.K H d1 x)(n:za X.K H d2 y)(m:yB x u)(p:yB y v) :ái A s u v ÿo/\źh A s u v (!xr d1 d2):=by rcases Er h with⟨t,z,rfl,rfl,h⟩|⟨t,z,rfl,rfl,h⟩|⟨F,q⟩;rw[Ċp];show BS I É Řn f e h λd1 d2 x y u v g i j d k=>MJ I 5 ϑ d1 d2 x y u v Ñf g i j d k;rw[Ċp];show BS I É Ŗn f e h λd1 d2 x y u v g i j d k=>MJ I 5 ϑ d1 d2 x y u v Ñf g i j d k;show Þ (by rw[F,q];rfl) C
def xj(m:Èb+7<Ϫ):xB X ϑo (BR X.K Å):=by rw[þp];show y5q l s σ H x y v u Q I d g {a,by rw[b];show q};let{j,rfl}:=GG i;show ĕl.1 _ _ _ _ {.bl _,H,I,rfl,q}
def jv(m:Èb+7<Ϫ):xB X Ėn (BR X.K Ã):=by rw[þp];show y5w l s σ H x y v u Q I d g {a,by rw[b];show q};let{j,rfl}:=GG i;show ĕl.2 _ _ _ _ {.bl _,H,I,rfl,q}
def xi:kD K (BR K Å) zr:=λH x y u v d Q c b a=>by rw[ϕp]
def ju:kD K (BR K Ã) wO:=λH x y u v d Q c b a=>by rw[ϕp]
#print a
def z8w{K:Ð}:ş K Æd Ϻa=À Å/\ş K Æd îa=À Å/\ş K Æd Şa=À Å/\
  ş K Ÿa Ϻa=À Å/\ş K Ÿa îa=À Å/\ş K Ÿa Şa=À Å/\
  ş K Ża Ϻa=À Å/\ş K Ża îa=À Å/\ş K Ża Şa=À Å:=by show{?_,?_,?_,?_,?_,?_,?_,?_,?_}<;>kernel_rfl
def z8x{K:Ð}:ş K Ϻa Ża=À Å/\ş K Ϻa Ÿa=À Å/\ş K Ϻa îa=À Å/\ş K Ϻa Şa=À Å/\
  ş K îa Ża=À Å/\ş K îa Ÿa=À Å/\ş K îa Ϻa=À Å/\ş K îa Şa=À Å/\ş K îa îa=À Ã:=by show{?_,?_,?_,?_,?_,?_,?_,?_,?_}<;>first|kernel_rfl|rfl
def z8y{K:Ð}:ş K Şa Ża=À Å/\ş K Şa Ÿa=À Å/\ş K Şa îa=À Å/\ş K Şa Ϻa=À Å:=by show{?_,?_,?_,?_}<;>kernel_rfl
nonrec def x7x:D->ϗ
 |.zC => "NoneType"|.bl _ => ĸe|.int _ => ċc|.str _ => őe|.tup _ => ŷ|.lst _ => Ġ|.dic _ _ => ϕ|.exc _ => "x"|.obj _ _ _ => "x"
def TU{K:Ð}{T:kG}{d:D}{b:Ñ}(h:Mn T d=À b):ş K (.type (x7x d)) ŏn=À b:=by
 let{x,q,v,c,l,f,o,p,i}:=z8w (K:=K);let{m,e,a,g,t,s,r,u,k}:=z8x (K:=K);let{j,n,y,w}:=z8y (K:=K);cases T<;>cases d<;>cases h
 all_goals first|show z8r|show z8p|show z8q|show z8o|show z8t|show z8s|show z8v|show z8u|assumption
def y8n(K:Ð)(T:kG):Á V->Hp->VK->È:=λa H Q=>∃x d b,a=[x,.ty T.nm]/\za K H d x/\Mn T d=À b/\Q ϗb H
def z2r(T:kG):vn X Ķh (y8n X.K T):=by
 intro t s σ H A B Q I r h;let{x,d,b,rfl,i,e,q}:=h;let{u,c,rfl,g,v}:=Sd r;cases(show c=ßi T.nm from v);let f:∀k,EP X t σ Q Ŕi { s with Ę:=k }:=λk=>{.bl b,H,Ëa k,rfl,q}
 cases d with
 |zC=>cases(show x=_ from i);show Mo I g .zC (TU (d:=.zC) e) f|bl y=>cases(show x=_ from i);show Mo I g (.bl _) (TU (d:=.bl y) e) f|int y=>cases(show x=_ from i);show Mo I g (.int _) (TU (d:=.int y) e) f|str y=>cases(show x=_/\_ from i).1;show Mo I g (.str _) (TU (d:=.str y) e) f|tup ds=>let{a,w,rfl,m,_}:=i;cases(show u=ċ a from g);let{p,_,{o,l,j,_},_}:=ϵ m;show ϊa Ćn Ŧ {o,l,j} (TU (d:=.tup ds) e) Ěa f
 |lst ds=>let{a,w,rfl,m,_}:=i;cases(show u=ċ a from g);let{p,_,{o,n,l,j,_},_}:=Ϙ m;show ϊa ϩh Ŧ {o,l,j} (TU (d:=.lst ds) e) Ěa f
 |dic ks ds=>cases T<;>cases e|exc _=>cases T<;>cases e|obj _ _ _=>cases T<;>cases e
def OC(T:kG)(n:Gl X ĳc)(e:Gl X x)(w:ó ĳc=Ä)(g:ó x=Ä)(hv:Ŷ x=À ŏn)(o:SB X a f)(i:Î ăd q12)(l:Î ïb q10)(m:Î ī q10):SE X (.Call (.Name ĳc p) [a,.Name x p1] [] pos) (VB T f):=by let{t,s,k}:=o.h;refine{{_,(BO (z2r T) n w z2g (NQ {s} (NQ (y8a e g hv l m) mU rfl) i) Í Í ϣl).h,λ{y B G H τ σ d Q} E c q=>?_}};let{z,j,c}:=zH c;let{b,u,c}:=zH c;cases c;show k E j λv A C x r=>{v,z,b,rfl,r,u,q _ _ _ x rfl}
#print L3
namespace L3
open ķ
theorem Sf{c:FT}{b:FS}:∀{n:Â}{σ:yC}{fl:Fl}(k:Â),jJ c b n σ=À fl->jJ c b ϟb σ=À fl
 |0,_,_,_,h=>by cases h|n+1,σ,fl,k,h=>by
  rw[Nat.succ_add];unfold jJ at h ⊢;cases hc:c σ with
  |Ä=>rw[hc]at h;cases h|À kk=>
   rw[hc]at h;cases kk with
   |Å=>show h|Ã=>
    change (Ńd).bind _=_ at h
    exact(Ńd).bind _=_;cases hb:b σ with
    |Ä=>rw[hb]at h;cases h|À f=>
     rw[hb]at h;cases f with
     |nx τ=>show Sf k h|ct τ=>show Sf k h|bk τ=>show h|rt o d=>show h
def nO(n:Â)(h:jJ c b n σ=À fl)(a:Î (n<=LN) q10):BY c b σ=À fl:=by let e:=Sf (LN-n) h;rw[Nat.add_sub_of_le a]at e;show e
def sH(a:c σ=À Ã)(d:b σ=À ŏi):jJ c b ı σ=jJ c b n σ':=by rw[žp];rw[a];exact(Ńd).bind _=_;rw[d];rfl
def sG(a:c σ=À Å):jJ c b ı σ=À Ϧf:=by rw[žp];rw[a];rfl
theorem kT(P:Â->yC->È):∀{ds:Á D}{σ:yC}(n:Â),P n σ->(∀i d σ,ds[i]?=À d->P (n+i) σ->∃σ1 σ2,g d σ=À σ1/\(b σ1=À Ŏi\/b σ1=À (.ct σ2))/\P (n+i+1) σ2)->
  ∃σ',Zb g b ds σ=À ŏi/\P (n+ÿ) σ'
 | [],σ,n,h,_=>{σ,rfl,h}|d::ds,σ,n,h,Ēc=>by
  let{σ1,σ2,e1,e2,j}:=Ēc 0 d σ rfl h
  let{σ',c,q}:=kT P (ds:=ds) (σ:=σ2) ı j λi e τ k l=>by let{a,m,p,f,o}:=Ēc ñ e τ ϝl (by rw[show n+ñ=n+1+i by omega];show l);show{a,m,p,f,by rw[Êq];show o}
  show{σ',?_,by rw[ϩp];show q};rw[Ÿp];exact(b σ1).bind _=_;rcases e2 with e2|e2;rw[e2];show c;rw[e2];show c
def TK(h:c σ=À Ã):xU c a b σ=a σ:=by rw[žp];rw[h];rfl
def qd(h:c σ=À Å):xU c a b σ=b σ:=by rw[žp];rw[h];rfl
abbrev wC(j:Â):Á D:=(Ía j).map λk:Â=>ĉ k
def kq(h:f τ=À ϛi)(a:n.natAbs<=1000000):t5 ĝ f τ=À (wC n.toNat):=by unfold t5;rw[h];exact(if(0:Æ).natAbs<=yN/\n.natAbs<=yN/\(n-0).toNat<=yN then _ else _)=_;rw[Ò {by decide,by rw[Ēp],by rw[Ēp]},Ďn];simp only[čn]
open ņ ĺ L2
section
variable{α:Type}
theorem sQ:∀{ks:Á zY}{vs:Á α}(k:zY),Ī=ö->((İa).any λkv=>decide όi)=yq ks k
 | [],[],_,_=>rfl|k'::ks,v::vs,k,h=>by let a:=sQ (ks:=ks) (vs:=vs) k ϲa;exact(decide ħj||((İa).any λkv=>decide όi))=(decide ħj||yq ks k);rw[a]
theorem Vr(k:zY):∀{ks:Á zY}{vs:Á V},Ī=ö->qt İa k=Ć ks vs k:=by
 intro ks
 induction ks with
 |nil=>intro vs _;cases vs<;>rfl|ï k' ks ih=>
  intro vs h;cases vs with
  |nil=>cases h|ï v vs=>by_cases e:k'=k;rw[îb,D9 (p:=(k',v)) e];exact _=όe;rw[Ò e];rw[îb,D8 (p:=(k',v)) e,ih Îj];exact _=όe;rw[Ó e]
theorem w0x(k:zY)(v:V):∀(ks:Á zY)(vs:Á V),((İa).map λkv=>if kv.1=k then(kv.1,v)else kv)=ĩd Ĳg:=by
 intro ks
 induction ks with
 |nil=>intro vs;rfl|ï k' ks ih=>
  intro vs;cases vs with
  |nil=>rfl|ï u vs=>rw[îb,ŭ,ih,Ŝb,îb];by_cases e:k'=k;rw[Ò e,Ò e];rw[Ó e,Ó e]
theorem A7(h:Ī=ö):tS İa k v=(îe).zip ϧd:=by unfold tS wQ wB;rw[sQ k h];by_cases c:yq ks k=Ã;rw[Ò c,Ò c,Ò c,w0x k v];rw[Ó c,Ó c,Ó c,ğm h];rfl
def Tf(h:Ī=ö):(îe).length=(ϧd).length:=by
 rw[Éq]
 split;rw[Ϲb,h,ıa];rw[ê,ê,h];rfl
def ND(h:Ī=ö):(ϧd).length<=ö+1:=by
 unfold wB
 split;rw[Ϲb,h,ıa];show Ϛd _;rw[ê];rw[ϡp]
#print a
section
variable{K:Ð}{H:Hp}
theorem řo:∀{ks:Á zY}{ds:Á D}{vs:Á V}{k:zY}{d:D},â K H ds vs->Ć ks ds k=À d->∃v,Ć ks vs k=À v/\za K H d v
 | [],_,_,_,_,_,e=>by cases e|_::_,[],_,_,_,_,e=>by cases e|k'::ks,d'::ds,_,k,d,r,e=>by
  let{v,h,rfl,a,b}:=r
  change (if k'=k then À d' else L3.getK ks ds k)=À d at e
  rw[Čp];show{v,by exact όe=_;rw[Ò c],a};rw[Ó c]at e;let{u,g,f}:=řo b e;show{u,by exact όe=_;rw[Ó c];show g,f}
theorem fC{α β:Type}:∀{ks:Á zY}{ds:Á α}{vs:Á β}{k:zY},ÿ=ö->Ć ks ds k=Ä->Ć ks vs k=Ä
 | [],_,_,_,_,_=>by unfold Ć;rfl|_::_,[],[],_,_,_=>rfl|k'::ks,d'::ds,v::vs,k,h,e=>by
  change (if k'=k then À d' else Ć ks ds k)=Ä at e
  exact ñk=Ä;rw[Čp];rw[Ó c]at e;rw[Ó c];show fC ϲa e
theorem Gd:∀{ks:Á zY}{vs:Á α}(k:zY),Ī=ö->(Ć ks vs k).isSome=yq ks k
 | [],[],_,_=>rfl|k'::ks,v::vs,k,h=>by let a:=Gd (ks:=ks) (vs:=vs) k ϲa;exact(ñk).isSome=(decide ħj||_);by_cases c:k'=k;rw[Ò c,õ c];rfl;rw[Ó c,ē c,a];rfl
theorem ϴi(hv:za K H d v):∀{ks:Á zY}{ds:Á D}{vs:Á V},â K H ds vs->â K H (ób (λk' x=>if k'=k then d else x) ks ds) Ĳg
 | [],_,_,_=>rfl|_::_,[],_,r=>by rw[Ŗp];rfl|k'::ks,d'::ds,_,r=>by let{u,e,rfl,b,a}:=r;show{_,_,rfl,?_,ϴi hv a};exact za K H (if k'=k then d else d') (if k'=k then v else u);rw[şp];show hv;rw[Ó c,Ó c];show b
def Reps.put(r:â K H ds vs)(hv:za K H d v):â K H (wB ks ds k d) ϧd:=by
 unfold wB
 split;show ϴi hv r;show îc (Će hv)
def YT(h:uT x=À k)(r:za K H x u):u=kV k:=by
 cases x<;>first|(cases h;done)|skip
 cases h;show r;cases h;show(show u=_/\_ from r).1
#print a
section
variable{X:Cx}{K:Ð}
def mn:R2:=λx y H Q=>∃a kvs k v,x=.ref a/\y=kV k/\Rd H a Ō/\qt kvs k=À v/\Q v H
def z88:pj X mn:=by
 intro c f j s σ H x y v u Q I w m h t;let{a,d,k,z,rfl,rfl,e,l,q}:=h;cases w;let{_,_,B,b,n}:=ZP Ė e;let{i,A,g}:=Íe (v:=z) (o:=ώb B k) (by rw[<-l];show b.val k)
 show ŕd (x:=i) (z3s I (.inl {d,k,e,rfl,rfl})) ŏg
  (όg (Q:=λr p=>r=i/\EP X j σ Q r p) Īj n.mapOf A {rfl,z,H,Ëa _,g,q}) t
def ml(K:Ð):R2:=λx y H Q=>NW K x y H Q\/mn x y H Q
def zg(_:Èb+1<Ϫ):pj X (ml X.K):=z89.or z88
def zh:tJ K (ml K) zP:=λG H x y u v d Q s e f c q=>by
 cases x with
 |dic ks ds=>let{a,n,rfl,j,l,i,_}:=e;let{k,m,c}:=zH c;let{z,g,h}:=i.getK c;show .inr {a,_,k,z,rfl,YT m f,úc s j,by rw[Vr k l];show g,q _ _ _ Øa h}
 |zC=>cases c|bl b=>cases c|int b=>cases c|str z=>show .inl (Εc (.str z))|tup z=>show .inl (Εc (.tup z))|lst z=>show .inl (Εc (.lst z))|exc z=>cases c|obj z _ _=>cases c
def NV(b:Ñ):R2:=λx y H Q=>∃a kvs k,y=.ref a/\x=kV k/\Rd H a Ō/\Q (.bl (if b then !(qt kvs k).isSome else(łf).isSome)) H
def y5s(f:Èb+1<Ϫ):xB X ée (NV Å):=by rw[ĳp];show z3i f I õl d λi c=>{.bl _,H,c,rfl,q}
def y5x(f:Èb+1<Ϫ):xB X Čf (NV Ã):=by rw[ĳp];show z3k f I õl d λi c=>{.bl _,H,c,rfl,q}
def O2(K:Ð)(a:Ñ):R2:=λx y H Q=>NU K a x y H Q\/(∃i j,x=.str i/\y=.str j/\Q (.bl (if a then !(!(ŵe j i 0 Ôa 1).isEmpty)else !(ŵe j i 0 Ôa 1).isEmpty)) H)\/NV a x y H Q
def Va(a:Èb+1<Ϫ):xB X ée (O2 X.K Å):=y5t.or (y5u.or (y5s a))
def N0(a:Èb+1<Ϫ):xB X Čf (O2 X.K Ã):=y5y.or (y5z.or (y5x a))
theorem BU(d:xO x=Ã)(e:za K H x u):∀{ys:Á D}{vs:Á V},â K H ys vs->Ůc xO=Ã->vs.all jh=Ã/\Mj u vs=ys.any λy=>xr y x
 | [],_,r,_=>by rw[Ŗp];show{rfl,rfl}|y::ys,_,r,h=>by let{v,g,rfl,c,f}:=r;rw[Ū,Č]at h;let{a,b}:=BU d e f h.2;refine{by rw[Ū,Vg h.1 c,a];rfl,?_};exact(j6 v u||Mj u g)=(xr y x||_);rw[O3 h.1 d c e,b]
theorem fV(d:za K H x u)(f:za K H y v)(b:T6 x y=À k)(q:Q (.bl (if neg then !k else k)) H):O2 K neg u v H Q:=by
 cases y with
 |lst ys=>
  let{a,g,rfl,e,h,_}:=f
  rw[ľp]
  cases c:Ÿm with
  |Å=>rw[c]at b;cases b|Ã=>rw[c]at b;cases b;rw[Č]at c;let{o,m}:=BU c.1 d h c.2;show .inl {a,g,rfl,.inl e,Vg c.1 d,o,by rw[m];show q}
 |tup ys=>
  let{a,g,rfl,e,h,_}:=f
  rw[ľp]
  cases c:Ÿm with
  |Å=>rw[c]at b;cases b|Ã=>rw[c]at b;cases b;rw[Č]at c;let{o,m}:=BU c.1 d h c.2;show .inl {a,g,rfl,.inr e,Vg c.1 d,o,by rw[m];show q}
 |str j=>
  cases x<;>first|(cases b;done)|skip
  rename_i i;cases b;show .inr (.inl {i,j,(show u=_/\_ from d).1,(show v=_/\_ from f).1,q})
 |dic ks ds=>let{n,p,b}:=zH b;cases b;let{a,g,rfl,e,l,h,_}:=f;show .inr (.inr {a,_,n,rfl,YT p d,e,?_});rw[Vr n l,Gd n l];show q
 |_=>cases b
def VY:kD K (O2 K Å) tN:=λH x y u v d Q c b a=>by rw[ϰp]
def Kw:kD K (O2 K Ã) YI:=λH x y u v d Q c b a=>by rw[ϰp]
def OE:SF X âm ļg:={{_,y6k,λ{c e G H τ σ d Q} E b q p a=>by cases b;show q p G _ (Ϟa Äa a) a (Án a) {[],yX,rfl,rfl,Ϥ _}}}
def Zj(t:Èb+1<Ϫ)(F:QE X ùa Ņd)(hk:SE X k fk)(hv:SE X v fv)(J:Î (ψb öl) q12) :SS X ŭl (qH i fk fv):=by
 let{S,B,s}:=hk.h;let{Y,C,Q}:=Ŗb;show{{_,m9 t F.h B C J,λ{Z W G H τ σ fl E} K b q=>?_}};let{y,P,b}:=zH b;show Q K P λw G1 T I O=>?_
 rw[ĭp];rename_i ks p o;let{xk,r,b}:=zH b;let{d,e,b}:=zH b;by_cases c:Ī<yN;rw[ŭp];let m:=Ìa I;let{a,n,g,z,vs,L,l,j,hl}:=m.ow _ _ o;show{_,n,s m r λu G2 H2 f N=>{a,_,rfl,.inl {_,d,f.h _ _ L,YT e N,?_,rfl},?_}};rw[Įa,l,ıa,Ś,<-l];show c;show q _ _ _ ((m.go f).Qn o n {wB ks vs d w,?_,Tf l,(ųc f.g).put (O.mono f.g),?_});rw[yX,A7 l];let U:=ND (ks:=ks) (vs:=p) (k:=d) (v:=y) (by rw[l,Ôa]);have R:Āe<16777216:=by rw[<-Ôa,<-l];show c
 rw[Ś];omega;rw[Ó c]at b;rw[ūp]
def tz(K:Ð)(w:å)(a:Ì)(ks:Á zY)(ds:Á D):È:=
 ∃us:Á V,Ī=Ű/\éa=Å/\(∀H,â K H ds us)/\∀(P:ë)(h:Heap),ř h->∃vs,KV Ûc vs/\ėd ķa a vs
inductive k6(w:å):Á ĸb->Á Ç->Á Value->È
 |nil:k6 w [] [] []
 |ï {x:Ç} {t:Tok} {v:Value} {es:Á ĸb} {xs:Á Ç} {vs:Á Value} (r:k6 w es xs vs):k6 w (⟨ťm w.params x,.str x t,v⟩::es) Üj ĳe
def k6.pairs:∀{es:Á ĸb}{xs:Á Ç}{vs:Á Value},k6 w es xs vs->Pairs ķa es ((Ōb Čb).zip vs)/\(∀e∈es,∃k,(ķa).is k e.key=Ã/\e.hash=(ķa).hash k):=λ{es xs vs} h=>by
 induction h with
 |nil=>show{.nil,λ_ h=>(Ïj).elim}|@cons x t _ _ _ _ r ih=>let{a,b}:=ih;show{.cons (Kc P w x t) rfl a,λe h=>?_};rcases Ň h with rfl|h;show{.inr x,Kc P w x t,rfl};show b e h
def k6.len{w:å}{es:Á ĸb}{xs:Á Ç}{vs:Á Value}(h:k6 w es xs vs):ä=ö:=by
 induction h with
 |nil=>rfl|ï _ ih=>rw[Ě,Ě,ih]
theorem KD(r:zo us vs):∀{ks:Á zY},Ī=Ű->KV Ûc İa:=by
 induction r with
 |nil=>intro ks _;rw[żl,żl];show .nil|ï r _ ih=>
  intro ks h;cases ks with
  |nil=>show .nil|ï k ks=>show .cons {rfl,r} (ih Îj)
theorem DQ:∀{ks:Á zY}{vs:Á Value},Ī=ö->(İa).map (·.1)=ks
 | [],[],_=>rfl|k::ks,v::vs,h=>by rw[îb,ŭ,DQ ϲa]
theorem f8(l:ϓ a=À { cls:=.type ϕ,Ċ:=.dict Úi n })(e:k6 w es xs vs)(d:Śc)(g:éa=Å)(r:zo us vs)(i:∀H,â K H ds us) :tz K w a Ŀc ds:=by
 rw[Ŝp]
 show{us,c,g,i,λP h f=>{_,KD r c,?_}};rw[Ãq];refine{_,_,_,f _ _ l,{rfl,rfl,rfl},rfl,λe j=>q e (by simpa using j),p,?_};rw[DQ ſg];show Ñh _ Ŗg d
def z4s(g:tz X.K X.w A ks ds):pj X (λx y H Q=>x=.ref A/\∃k,y=kV k/\∃d,Ć ks ds k=À d/\∀v,(∀H,∃H',zm H H'/\Ėb)->(∀H,za X.K H d v)->Q v H):=by
 intro c e B s σ H x y v u Q I N E h J;let{rfl,k,rfl,d,i,q}:=h;cases N;let{S,P,j,p,t}:=g;let{R,b,l}:=t ø á Ŧ;let{z,n,_}:=(p H).getK i
 let L:∀H,za X.K H d z:=λH'=>by let{T,a,C}:=(p H').getK i;rw[n]at a;cases a;show C
 let{m,O,f}:=Íe (v:=z) (o:=ώb R k) (by rw[<-n,<-Vr k P];show b.val k)
 show ŕd (x:=m) l.typeIs ŏg
  (όg (Q:=λr G=>r=m/\EP X B σ Q r G) (ZX E) l.mapOf O {rfl,z,H,Ëa _,f,q z (λH=>{H,Ķa H,trivial}) L}) J
def jD(h:vC ó x ſb)(g:tz X.K X.w A ks ds)(i:Gl X x)(n:SE X b fb)(e:Î Ěo q12)(c:Î ī q10) :SE X (.Subscript øa b pos) (e1 (wW ks ds) fb):=by let{F,s,r}:=n.h;show{{_,BD (z4s g) (Vd h i c) s (BH e),λ{t C G H τ σ d Q} E a q=>?_}};let{y,l,a}:=zH a;let{k,o,a}:=zH a;show r E l λu z B m f=>{rfl,k,YT o f,d,a,λv _ j=>q v _ _ m (j _)}
#print a
nonrec def kz:D->Ê ŉb
 |.lst xs=>À xs|.tup xs=>À xs|_=>Ä
def qc(a b:FE):FA:=λσ=>(Úa).bind λx=>(Ńd).bind λy=>(kz x).bind λd=>(kz y).bind λc=>À (ób Ϥg d c)
section
variable{K:Ð}{G H:Hp}
def oA(h:kz x=À xs)(r:za K G x u):∃t a vs,u=.ref a/\qV K t G a vs/\â K G xs vs/\ä<=ã:=by
 cases x<;>first|(cases h;done)|skip
 cases h;let{a,vs,rfl,b,c,l}:=r;show{Ã,a,vs,rfl,b,c,l};cases h;let{a,vs,rfl,b,c,l}:=r;show{Å,a,vs,rfl,b,c,l}
def W5(s:zm H H')(h:qV K t H a vs):qV K t H' a vs:=by cases t;show uB s h;show uJ s h
def w0y(l:qV K t1 G a vs)(g:qV K t2 G b us)(j:â K G xs vs)(h:â K G ys us):jZ K öh G (ób Ϥg xs ys) where
 go:=λi e H d c f=>by rw[Ϲb]at f;let{v,e1,_}:=ĉg (ė (show i<ä by omega));let{u,e2,_}:=h.get (ė (show i<ţ by omega));show{vs,us,v,u,W5 þc l,W5 þc g,e1,e2}
 uY:=λi e H x A d c f y=>by let{p,m,rfl,k}:=y;let{v,u,e1,e2,rfl}:=k vs us (W5 þc l) (W5 þc g);let{z,w,t}:=j.at e1;let{s,q,r}:=h.at e2;refine{zT e p őn,.tup [z,s],ďb c m,by rw[Ϥe,w,q],?_};let o:zm G (zT e p őn):=Üd Óm;show{p,[v,u],rfl,őb yX,{v,_,rfl,t.mono o,{u,_,rfl,ôa o,rfl}},Ņa (n:=2) Í}
 Ŵ:=λi e H d c f=>by rw[Ϲb]at f;show{vs,us,W5 þc l,W5 þc g,?_};rw[Ôa,ïc];omega
#print a
section
variable{X:Cx}{a b e o:Õ}{fa fb f:FE}{p pos:Pos}
def Bg(I:Gl X ħa)(C:ó ħa=Ä)(L:SE X a fa)(B:SE X b fb)(o:Î ăd q12)(d:Î āo q12):SI X ūl Łg (qc fa fb):=by
 let{t,z,k}:=(zB L (zB B zM d) o).h;show{{_,(y8c I C {z} o d).h,λ{G0 Y G H τ σ ds R} K c q=>?_}};let{x,s,c}:=zH c;let{y,O,c}:=zH c;let{U,j,c}:=zH c;let{ys,l,c}:=zH c;cases c;refine k K (ds:=ãb) (by unfold zA;rw[s,O];rfl) λvs G1 W i J=>?_
 let{v,r,rfl,w,{v2,F,rfl,g,N}}:=J;cases(show F=[]from N);let{Q,A,e,rfl,m,S,Z}:=oA j w;let{u,P,f,rfl,n,E,T}:=oA l g;show{A,P,e,f,Q,u,rfl,W5 i.gh m,W5 i.gh n,q _ _ _ i ?_ (w0y m n S E)};rw[Ϲb];omega
abbrev FO:=yC->Ê (Ê Æ)
nonrec def Yb:FO:=λ_=>À Ä
nonrec def ge(f:FE):FO:=λσ=>(f σ).bind λd=>match d with
 |.int i=>À (À i)|_=>Ä
def gS(xs:Á α)(lo hi:Ê Æ):Á α:=(ϲk).take Ŏk
def GM(d:D)(lo hi:Ê Æ):Ê D:=match d with
 |.lst xs=>À (Β Éh)|.tup xs=>if Ŀ ä 0 lo=0/\Ŀ ä ä hi=ä then Ä else À Ġo|.str z=>À (.str ņn)|_=>Ä
def GA(a:FE)(lo hi:FO):FE:=λσ=>(Úa).bind λd=>(áj).bind λl=>(æj).bind λh=>GM d l h
structure SO(X:Cx)(e:Ê Õ)(f:FO):È where
 h:∃t,PO X e t/\∀{G0 H0 G H:Hp}{τ:yC}{σ:St}{d:Ê Æ}{Q:Ê Æ->Hp->È},zx X.K ù G0 H0 G H τ σ->f τ=À d->(∀G' H',zS G H G' H'->Q d H')->t σ H Q
def x1s:SO X Ä Yb:={{_,y7j,λE a q=>by cases a;show q _ _ ĺb}}
def Rp(h:SE X e f):SO X (À e) (ge f):=by
 let{t,c,k}:=h.h;show{{_,y7k c,λ{g j G H τ σ d Q} E a q=>?_}};let{x,b,a}:=zH a;cases x<;>first|(cases a;done)|skip
 cases a;show k E b λv i l x r=>{_,r,q _ _ x}
def Reps.cut{K:Ð}{G:Hp}{ds:Á D}{vs:Á V}(r:â K G ds vs)(lo hi:Ê Æ):â K G (gS ds lo hi) (Xa vs lo hi):=by unfold gS Xa;rw[Ų];show(ûj _).take _
def MB(xs:Á α)(lo hi:Ê Æ):(Éh).length<=ä:=by unfold gS;rw[Áa,Ŷa];show İ çe Ĥb
def y8s(K:Ð):V->Ê Æ->Ê Æ->Hp->VK->È:=λx b a H Q=>mz K x b a H Q\/n5 K x b a H Q\/m_ x b a H Q
def oN:ZM X (y8s X.K):=x1l.or (x1n.or x1m)
def x0z{lo hi:Ê Õ}{w fh:FO}{p2:Pos}(J:SE X a fa)(s:SO X lo w)(o:SO X hi fh):SE X øl (GA fa w fh):=by
 let{Z,C,K}:=J.h;let{W,y,B}:=s.h;let{R,L,F}:=o.h;show{{_,lV oN C y L,λ{S P G H τ σ d Q} E b q=>?_}};let{x,A,b}:=zH b;let{l,s,b}:=zH b;let{h,o,b}:=zH b;show K E A λv Y O m I=>B Ãj s λT U u=>F ((Ãj).go u) o λG3 N e=>?_
 let n:=m.trans (Ϩi e);let r:=ďj Ļm;cases x with
 |lst xs=>cases b;let{a,t,rfl,k,j,f}:=r;refine .inl {a,t,rfl,uB ϑc k,λp i=>q _ _ _ ïl {p,_,rfl,ņa yX,(ϻn).mono Žm,İ Ög f}}
 |tup xs=>
  change (if Ŀ ä 0 l=0/\Ŀ ä ä h=ä then Ä else À (œb (gS xs l h)))=À d at b
  by_cases c:Ŀ ä 0 l=0/\Ŀ ä ä h=ä;rw[ŭp];rw[ϻp];let{a,t,rfl,k,j,f}:=r;refine .inr (.inl {a,t,rfl,uJ ϑc k,by rw[Ôa];show c,λp i=>?_});show q _ _ _ ïl {p,_,rfl,őb yX,(ϻn).mono Žm,İ Ög f}
 |str z=>cases b;let{rfl,f}:=r;show .inr Ϝj
 |_=>cases b
nonrec def tO:Á D->Ê D
 | [.lst xs]=>À þa| [.tup xs]=>À þa|_=>Ä
nonrec def VC:Á D->Ê D
 | [.lst xs]=>À Ĺa| [.tup xs]=>À Ĺa|_=>Ä
def gi{K:Ð}{G:Hp}{d:D}{vs:Á V}(r:â K G [d] vs):∃v,vs=[v]/\za K G d v:=by let{v,c,rfl,a,b}:=r;cases(show c=[]from b);show{v,rfl,a}
def k_{fs:FA}(r:Gl X Ġ)(x:ó Ġ=Ä)(u:SA X [e] fs)(o:Î Óa q12):SF X (χb ün) (eL tO fs):=by
 let{t,w,k}:=u.h;refine{{_,(O0 z2w r x M5 {w} Í Í Ϣl).h,λ{y C G H τ σ d Q} E f q=>?_}};let{s,n,f}:=zH f;show k E n λB z A b m=>?_
 match s,f with
 | [.lst xs],f=>cases f;let{v,rfl,a,g,rfl,j,i,l}:=gi m;show{a,g,rfl,.inl (uB b.gh j),λp c=>q p _ _ ól Łn ìn {g,yX,i,l}}
 | [.tup xs],f=>cases f;let{v,rfl,a,g,rfl,j,i,l}:=gi m;show{a,g,rfl,.inr (uJ b.gh j),λp c=>q p _ _ ól Łn ìn {g,yX,i,l}}
def Kx{K:Ð}:cP K (μd ((yc K H p ys/\∀l,H l=Ä->Q øc ġn)\/(xF K H p ys/\Q ϛ H))) VC:=λG H h i d Q s r b q=>by
 match h,b with
 | [.lst xs],b=>cases b;let{v,rfl,a,c,rfl,e,f,l}:=gi r;show{a,c,rfl,.inl {uB s e,λp g=>q _ _ _ (ďb s g) {p,c,rfl,őb yX,f.mono (wv (új g) _),l}}}
 | [.tup xs],b=>cases b;let{v,rfl,a,c,rfl,e,f,l}:=gi r;show{a,c,rfl,.inr {uJ s e,q _ _ _ Øa {a,c,rfl,e,f,l}}}
def IQ(x:D):Á D->Â->Ê Â
 | [],_=>Ä|y::ys,n=>match xr y x with
  |Ã=>À n|Å=>IQ x ys ı
def z4h:D->D->Ê D
 |.lst ys,x=>match xO x&&Ůc xO with
  |Ã=>(IQ x ys 0).bind λn=>À ϛi|Å=>Ä
 |_,_=>Ä
theorem hU:∀{ys:Á D}{n m:Â},IQ x ys n=À m->∃j y,m=n+j/\ys[j]?=À y/\xr y x=Ã/\∀i z,i<j->ys[i]?=À z->xr z x=Å
 | [],_,_,h=>by cases h|y::ys,n,m,h=>by
  change (match xr y x with|Ã=>À n|Å=>IQ x ys ı)=À m at h
  cases c:xr y x with
  |Ã=>rw[c]at h;cases h;show{0,y,rfl,rfl,c,λi z a=>Þ a Ϻg}|Å=>
   rw[c]at h;let{j,e,e1,e2,d,f}:=hU h;refine{j+1,e,by omega,by simpa using e2,d,λi z a b=>?_};cases i with
   |Ϡ=>cases b;show c|ϡ i=>show f i z É Ϟl
def oY(J:LW X op ti)(l:tJ X.K ti F)(B:ğa)(hi:X.N[i]?=À x)(c:gJ ßa x)(I:SE X e f)(b:Î ϧa q7) :SS X (.AugAssign šh op e pos) (yR i (e2 F (z6 i) f)):=by let{t,z,k}:=I.h;show{{_,m8 B hi c z J b,λ{L Q G H τ σ R E} K b q=>?_}};let{d,a,b}:=zH b;cases b;let{x,c,a}:=zH a;let{y,A,a}:=zH a;let{v,m,s}:=K.fr _ _ (du c);show{v,m,k K A λu n r j p=>l n r x y v u d _ j.gh (ļe j.g) p a λw O P C o=>?_};show q _ _ _ (((Ãg).go C).set Łb.1 o)
def lA{K:Ð}:tJ K ľm ďh:=λG H x y u v d Q s c b a q=>by
 cases x<;>first|(cases a;done)|skip
 cases y<;>first|(cases a;done)|skip
 rw[ıp]
#print a
def FR(n N:Â)(b:FS)(ds:Á D):Ê ç:=if ÿ=n then yK N b ds else Ä
def yP:∀ds r,FR n N b ds=À r->ÿ=n/\yK N b ds=À r:=λds r h=>by
 unfold FR at h
 rw[Ϻp]
theorem rJ{M:Ŋd}{A:þ}{E:Value->Ï->È}{a:Ü Value}{x:Value}{e:Value->Ñ}{j:Â}(k:∃Ĝ w,M=model Ĝ w)(l:j<ò)(b:e a[j]=Ã)(f:∀m (n:m<ò),m<j->e a[m]=Å){s:Ï}(g:∀y∈a,Ķb A s y x (e y)){Q:Ê ĥi×īa->Ï->È}(h:Q (À (.done Ūl),()) { s with Ę:=ĕ+1 }):∀m i:Â,i+m=ò->i<=j->
  Ý M A (Ēb (żn i m) ((Ä,()):Ê ĥi×īa) λ(i:Â) (_:Ê ĥi×īa)=>match a[i]? with
   |À y=>do
    let Śf <-eqBool y x
    if Śf=Ã then do
      let Śf <-retInt (i:Æ)
      pure (ForInStep.done (À Śf,()))
     else pure ům
   |_=>pure ům) Q E s
 |0,i,h1,h2=>by omega|m+1,i,h1,h2=>by
  let{Ĝ,w,rfl}:=k;let d:i<ò:=by omega
  rw[òm,ýh];show Ö ?_;rw[Array.getElem?_eq_getElem d];show Ö (g _ (Array.getElem_mem d) Ĝ w E _ ?_);by_cases c:i=j;subst c;rw[b,Ò rfl]
  wp_walk
  show h;rw[f i d É,Ó Í];show ę ?_;show rJ {Ĝ,w,rfl} l b f g h m ñ É É
def x6p(t:Ì)(a:Ü Value)(x:Value)(e:Value->Ñ)(j:Â)(i:j<ò)(c:e a[j]=Ã)(l:∀m (B:m<ò),m<j->e a[m]=Å) :Meets (Builtin.«tuple.index» {[.ref t,x],[]}) (λA R s=>âb á t a/\(∀y∈a,Ķb ϑ s y x (e y))/\R (.ok Ūl) { s with Ę:=ĕ+1 }):=by
 intro b w A R s h;let{q,g,d,u,v}:=s;obtain⟨⟨o,z,r,n,f⟩,p,h⟩:=h;unfold Builtin.«tuple.index»
 wp_walk
 skip
 rw[f];show ę ýb;exact Ý _ _ (pure 0 >>= _) _ _ _;show Ö (Μa īh);rw[Std.Legacy.Range.forIn_eq_forIn_range'];let k:Āl [0:min ò ò]=ò:=by simp[Āl]
 rw[k];show rJ {b,w,rfl} i c l p ?_ ò 0 É É;show ę h
section
variable{X:Cx}{e o k v:Õ}{f fo fk fv:FE}{x:Ç}{xp p Ϻ Ž:Pos}
def y0h:JN X "tuple.index" (λx vs H Q=>∃(a:Ì) (us:Á V) (y:V) (j:Â) (u:V),x=.ref a/\vs=[y]/\xF X.K H a us/\jh y=Ã/\us.all jh=Ã/\us[j]?=À u/\j6 u y=Ã/\(∀i z,i<j->us[i]?=À z->j6 z y=Å)/\Q (.int (j:Æ)) H):=by
 intro Y s σ H x Z v R Q I S U h;let{a,us,y,j,u,rfl,rfl,O,P,B,p,l,W,q}:=h;cases S;let{w,rfl,N}:=qK U;let{b,r,o,hz}:=ϵ O;let E:=Ų;let G:j<Ű:=(Š p).1
 let f:∀(i:Â)(z:V)(g:i<òb),us[i]?=À z->qD y ſa[i]=j6 z y:=λi z g A=>by
  let{t,C,L}:=Ūa A
  let e:ſa[i]=t:=by let J:b[i]?=À b[i]:=ė (by rw[ģ]at g;show g);rw[J]at C;simpa using C
  rw[e];show GD L (Ϯa B z (ϴb A))
 have d:j<òb:=by rw[ģ,<-E];show G
 refine Æc ϫk o.typeIs PySem.F.entry_tuple_index (PySem.F.args_tuple_index_2 _ _) (x6p a ſa w (qD y) j d (by rw[f j u d p];show l) λm n k=>?_) {o,λt T=>?_,{.int j,H,Ëa _,{_,rfl},q}};have c:m<Ű:=by rw[ģ,<-E]at n;show n
 rw[f m us[m] n Øj];show W m _ k Øj;show TY N P r B t (by simpa using T)
def CB(K:Ð)(A:Ì):È:=∃o,ϓ A=À o/\áb=.type ŷ/\ŀe=Ä
def Jq(ds:Á D)(y:D):Ê D:=z4h ßc y
def x0w(h:vC ó x ſb)(r:∀H,za X.K H Ůf ſb)(J:CB X.K A)(Z:Gl X x)(S:SE X e f)(I:Î ī q10)(k:Î (ŏa ùa "index" Ø Ôn=ď ùa Ø) q12)(l:Î Ōa q12)(p:Î Óa q12) :SE X (Ψe (.Attribute ùa "index" Ϻ)) (e1 (Jq ds) f):=by
 let{te,U,W}:=(zB S zM p).h;refine{{_,(I_ PySem.F.plainAttrs_tuple ϫk PySem.F.type_tuple_index y0h (y8b h Z I) {U} k l (by rw[Ū,p];rfl) Ůd).h,λ{G0 H0 G H τ σ d Q} E b q=>?_}};let{y,hy,b}:=zH b;refine{.inr (.inl {rfl,J}),W E (ds:=[y]) (by unfold zA;rw[hy];rfl) λws T H2 s Y=>?_};let{w,rfl,g}:=gi Y;let{a,O,B,R,o,_}:=r T;cases B
 change (match xO y&&ľd xO with|Ã=>(IQ y ds 0).bind λn=>À (ĉ n)|Å=>Ä)=À d at b
 cases c:(xO y&&ľd xO)with
 |Å=>rw[c]at b;cases b|Ã=>
  rw[c]at b;let{n,C,b}:=zH b;cases b;rw[Č]at c;let{j,z,e1,e2,e3,L}:=hU C;rw[Ů]at e1;subst e1;let{u,P,ru}:=o.get e2;let t:∀{i:Â}{z:D},ds[i]?=À z->xO z=Ã:=λ{i z} m=>Ϯa c.2 z (ϴb m)
  refine{A,O,w,n,u,rfl,rfl,uJ s.gh R,Vg c.1 g,(BU c.1 g o c.2).1,P,by rw[O3 (t e2) c.1 ru g];show e3,λi z N m=>?_,q _ _ _ s rfl};let{dz,v,rd}:=o.at m;rw[O3 (t v) c.1 rd g];show L i dz N v
def x0v(J:Èb+1<Ϫ)(N:SE X o fo)(hk:SE X k fk)(hv:SE X v fv)(m:M2 X o "get" Ϻ k v Ž):SE X (.Call Âl [k,v] [] Ž) (G8 fo fk fv):=by
 let{Z,C,P}:=N.h;let{tk,K,I}:=hk.h;let{tv,L,Y}:=Ŗb;show{{_,y6j J C K L m,λ{G0 H0 G H τ σ d Q} E b q=>?_}};let{x,F,b}:=zH b;show P E F λw G1 H1 f T=>?_
 cases x with
 |dic ks ds=>
  let{y,U,b}:=zH b;let{z,O,b}:=zH b;let{e,i,b}:=zH b;cases b;let{a,W,rfl,t,l,B,_}:=T;show{a,rfl,.inl {_,úc f.gh t},I Äg U λu G2 H2 j S=>Y ((Äg).go j) O λw' G3 H3 n R=>?_};show{qt (ĩd W) e,.inl {_,e,úc (f.gh.trans (j.h.trans n.h)) t,YT i S,rfl},?_};rw[Vr e l];let p:=ðg (j.g.trans n.g);cases c:Ć ks ds e with
  |Ä=>rw[c]at q;rw[fC (by rw[B.length]) c];show q _ _ _ ēl R|À d'=>rw[c]at q;let{z',r,s}:=p.getK c;rw[r];show q _ _ _ ēl s
 |_=>cases b
nonrec def tL(i:Æ):Â:=Ŷd i
def GK:D->D->Ê D:=fI (λi j=>decide (tL i+tL j<=134217728)) (·*·)
def y5v:xB X Ĝf Ϲj:=Tc λi j _ _ _ _ _ a q=>mul_int q (by unfold IntMulOk;intro h;rw[Č]at h;let b:decide (((Ŷd i+Ŷd j:Â):Æ)>(134217728:Â))=Ã:=h.2;let c:=Ŋ b;let d:Ŷd i+Ŷd j<=134217728:=a;omega)
def y4s{K:Ð}:tJ K Ϲj GK:=VX λ_ _ h=>Ŋ h
#print a
open ϵi
theorem sF:∀{ns:Á Æ}{m:Æ},m∈ns->tL m<=Õd Īc
 | [],_,h=>by cases h|n::ns,m,h=>by
  let e:Õd ((àj).map Ġi)=tL n+1+Õd Īc:=by exact Õd (Ġi n::Œa Ġi)=_;rw[Õd];rfl
  rw[e];rcases Ň h with rfl|h;omega;let:=sF h;omega
def z9a{ns:Á Æ}(h:WData.layableAll [.list Īc]=Ã):∀m∈ns,tL m<=1048576:=λm b=>by
 let a:ϵm Ái=Ã:=Ϯa h _ (List.mem_singleton.mpr rfl);unfold ϵm at a;rw[Č]at a;let e:Źh Ái<=2 ^ 20:=Ŋ a.2;let c:=sF b;let d:Źh Ái=Õd Īc:=by rw[Źh]
 omega
section
variable{K:Ð}
def OF(K:Ð):Sp:=λb H Q _=>∃(a:Ì) (ns:Á Æ),b=ña/\yc K H a Ća/\ϰ<=63/\(∀m∈ns,tL m<=1048576)/\∀H',Q ň H'
#print a
def walkB{l:Ĥi}{n k:Â}{q:ë}{e:Á Ç}{XP:ñh->Heap->È}{P:å->Heap->È}{d:DefRec}{K:ìg->Ð}{sp:Ð->Sp}{x:Ç}(S:Āj=À n)(L:n<=ã)(E:ϳl=[])(hr:yp k īd)(hY:∀(w:å)(h:Heap),P w h->(İb).In h)(F:∀(w:å)(j:Ç->Ê Value)(C:Ì)(h:Heap),(İb).In h->Īa Ĕ j->j d.name=À ļ->
   ∃fd:Ľ,(∀(s:Ï)(u:Value),Ďb s fd {[u],[]} [(x,u)])/\∀Ë:Heap,(İb).In Ë->Ĭd Ĕ j->xN Ķ w İb j Ë xJ k C fd [x] (sp İb))
  (G:∀(K:Ð)(H:Hp)(a:Ì)(ns:Á Æ),ϰ<=n->(∀m∈ns,tL m<=1048576)->yc K H a Ća->sp K ña H ϐl λ_ _ _=>î) :
  W.WalkO q e XP P ŵh d [] Ϝk:=by
 intro w s0 s1 j mb A Y C o pm cd doc dV kV ho hd hcd N I hg Q R as p y hrd J hlo;let e1:dV=.none:=Dflts.none N E;let e2:kV=.none:=Dflts.noKw N;subst e1 e2;let{a,vs,ns,rfl,rfl,B,i,c}:=Att.script_of S p J;let O:=hY w _ Y;let{fd,hb,X}:=F w j C _ O A.T.g I;let t:=z98 O A.T.g A.T.b A.T.builtins A.T.nolimit hg B i (İ c L) hr X hb (λH _ hS=>G _ H a ns c (z9a y) hS) (λ_ _ _ z=>z);show enter_call (Żd t λr s' Z=>?_);let{rfl,U,h3,h4}:=Z;show{.inl {.bool Ã,.bool Ã,[],rfl,λ_=>rfl,.bool Ã,Att.post_true l _,λ_=>?_},U,h3,h4};show{Ðh,λ_ hm=>nomatch hm}
#print L3
namespace L3
open ķ ņ ĺ L2
def z4w{Ĝ:ë}{w:å}{A:þ}{E:Value->Ï->È}{s:Ï}{a:Ì}{o:Obj}{xs:Ü Value}{k:Â}{ŀ:Ç}{Q:Ê Value->Ï->È}(q:ć a=À o)(n:áb=.type Ġ)(f:ŀa=.seq xs k)(p:ŀe=Ä)(j:Òi îa ŀ=pure Ä)(i:(["__module__",Ði,"__qualname__","__doc__","__annotations__"]:Á Ç).contains ŀ=Å)(y:Ĺb=Ä)(h:∀h' tk,(∀b ob,ć b=À ob->ġ b=À ob)->Q Ä { s with ì:=h',Ę:=tk })(hsz:name.length+100<=ã) :Ý í A (getAttr? (.ref a) ŀ) Q E s:=by
 let{c,t,z,x}:=o;simp only at n f p;subst n f p;let{u,g,d,tk,v}:=s;let r:∀m,({u,g,d,m,v}:Ï).TypeIs Ş Ġ:=λ_=>{_,q,rfl}
 let K:=sub_AttributeError;let H:=PySem.F.slot_list_getattribute.lookup;let J:=PySem.F.slot_list_getattribute.bind Ş;let B:=am_list_getattr_none;unfold getAttr? getAttrBy? getAttrBy
 repeat (any_goals (first|assumption|show r _|((with_reducible exact Ý _ _ (ŉa (Value.builtin "list.__getattribute__") _ _) _ _ _);show Æc PySem.F.slot_list_getattribute (r _) am_entry_list_getattribute (F.args_list_getattribute_2 _ _) (meets_getattribute_miss_list a xs k x ŀ _ j i hsz) ⟨q,y,λh' m e l=>?_⟩)|wp_step))
 let{G,C,I}:=l.there;exact Ý _ _ (ŵl _ _ _ _ _ _ _) _ _ _;unfold ŵl
 repeat (any_goals (first|assumption|wp_step))
 show h _ _ l.keeps
def BI:plainId űl=Ã:=by rw[ÿp]
def eE:entryFor table űl=À Builtin.«dict.update.loop»:=entryFor_of_fast ŉm
def _root_.PySem.Heap.DictOf.F5{Ĝ:ë}{w:å}{h h':Heap}{a:Ì}{kvs:Á Ĳa}(b:ėd ŝa a kvs)(k:∀o,ĭ a=À o->ġ a=À o):Ŗf ŝa a kvs:=
 let ⟨o',es,ep,ho,r⟩:=b;{o',es,ep,k _ ho,r}
def x2e(kvs:Á Ĳa)(k:zY)(v:Value):(ăc kvs k v).length<=ń+1:=by
 unfold ăc
 rw[Íq]
def CA(h:Heap)(v:Value)(k:zY)(x:Value):È:=∃b key,v=.ref b/\Xo k key=Ã/\âb h b #[key,x]
theorem rQ{Ĝ:ë}{w:å}{A:þ}{R:ŷc->Ï->È}{d it l:Ì}{its:Á Value}(hA:Ĺb=Ä)(G:d≠l)(y:d≠it)(K:l≠it) :∀(kvs:Á Ĳa) (i:Â) (acc:Á Ĳa) (s:Ï),s.heap.IsListIter it l i->ϭm l Ãa->i+ń=ÿb->(∀j kv,kvs[j]?=À kv->∃v,its[i+j]?=À v/\CA á v kv.1 kv.2)->
   s.heap.DictOf ŝa d acc->Üi+ń<=ã->(∀h' tk,Ŗf ŝa d (Ŋo (λa kv=>ăc a kv.1 kv.2) acc)->(∀b o,b≠d->b≠it->ć b=À o->ġ b=À o)->R (.ok Ŕn) { s with ì:=h',Ę:=tk })->
   Ý í ϑ (Builtin.«dict.update.loop» {[.ref d,.ref it,Ħe i,.none],[]}) (λfin s'=>match fin with|.done f=>R (.ok f) s'|.again c'=>c'.quiet=Ã/\Òb í A c' R s') (λe s'=>R (.error e) s') s
 | [],i,acc,s,st,hl,hn,hp,hd,hz,h=>by unfold Builtin.«dict.update.loop»;refine Ö (þl (by show hA) st hl (by simp at hn ⊢;omega) λh' eb=>?_);exact Ý _ _ (Builtin.Dict.addKeywords d [] >>= _) _ _ _;show Ö ϧo;show h h' ĕ (hd.F5 λo e=>eb d o y e) (λb o _ hb e=>eb b o hb e)|kv::kvs,i,acc,s,st,hl,hn,hp,hd,hz,h=>by
  let{v,hv,b,key,rfl,hk,ht}:=hp 0 kv rfl;unfold Builtin.«dict.update.loop»;refine Ö (Úl st hl (x:=.ref b) ϸg λh1 S sb=>?_);let g:∀c o,c≠it->ć c=À o->Ϯi c=À o:=λc o L e=>(sb.2 c L).trans e
  let p:∀{c:Ì}{u:Ü Value},âb á c u->c≠it:=λ{c u} t e=>by subst e;let{o,e1,Z,_}:=t;let{o',e2,N,_}:=st;rw[e1]at e2;cases e2;rw[Z]at N;show Þ (Ťm N) Í
  let J:∀{c:Ì}{u:Ü Value},âb á c u->c≠d:=λ{c u} t e=>by subst e;let{o,e1,Z,_}:=t;let{o',es,ep,e2,N,_}:=hd;rw[e1]at e2;cases e2;let c3:=N.1;rw[Z]at c3;show Þ (Ťm c3) Í
  let{o,ho,L,n,C}:=ht;let I:=g b o (p {o,ho,L,n,C}) ho;let U:h1.DictOf ŝa d acc:=hd.F5 λo e=>g d o y e
  show Ö (ϭa (Ö (ϳc ?_)));unfold Builtin.Dict.pairItems;show Ö (ūd (T := ŷ) {o,I,L} ?_);rw[Ò łb];show Ö (ìb I C ýb);show ϭa (wpAny_dictSet_pairs (knd:=xG Ĝ w) (k:=kv.1) hk U (λh2 X F=>?_) É);show ę {Ϻc BI _,ϰc eE ?_};rw[Şd BI _];let m:∀c o,c≠d->c≠it->ć c=À o->h2.get? c=À o:=λc o B q e=>(F.2 c B).trans (g c o q e)
  let H:∀{c:Ì}{u:Ü Value},âb á c u->âb h2 c u:=λ{c u} t=>by let a1:=J t;let a2:=p t;let{o,e1,r}:=t;show{o,m c o a1 a2 e1,r}
  show rQ (its:=its) hA G y K kvs ñ (ăc acc kv.1 kv.2) _ ?_ ?_ (by rw[Ě]at hn;omega) (λj Q e=>?_) X ?_ λh' tk Y kp=>?_;show S.at λo e=>(F.2 it (λz=>y Ļd)).trans e;let{o,e,r}:=hl;show{o,m l o (λz=>G Ļd) K e,r};let{v',O,b',E,rfl,W,P}:=hp ϸ Q ųa;show{_,by rw[show i+1+j=i+ϸ by omega];show O,b',E,rfl,W,H P};let:=x2e acc kv.1 kv.2;rw[Ě]at hz;omega;show h h' tk Y λc o B q e=>kp c o B q (m c o B q e)
def z2q{Ĝ:ë}{w:å}{A:þ}{E:Value->Ï->È}{s:Ï}{l:Ì}{o:Obj}{its:Á Value}{n:Â}{kvs:Á Ĳa}{Q:Value->Ï->È}(O:Ĺb=Ä)(G:ć l=À o)(x:áb=.type Ġ)(y:ŀe=Ä)(f:ŀa=.seq Ãa n)(S:ń=ÿb)(R:∀(j:Â)(g:zY×Value),kvs[j]?=À g->∃v,its[j]?=À v/\CA á v g.1 g.2)(hz:ń<=ã)(h:∀h' tk,Ŗf ŝa ß (Ŋo (λa g=>ăc a g.1 g.2) [])->(∀b o,ć b=À o->ġ b=À o)->Q ůb { s with ì:=h',Ę:=tk }) :Ý í A (ŉa Ýc [.ref l]) Q E s:=by
 show callType_codes (Q₁:=λq N=>q=.ref ß/\N={ s with ì:=őa { cls:=.type ϕ,Ċ:=.dict #[] } }) F.kt_called_dict (F.kt_typeCall_dict_1 _) F.entry_dict_init (kt_code_dict_new _ {rfl,rfl}) ?_;rintro q N ⟨rfl,rfl⟩;let d:(Ñk).DictOf ŝa ß []:=ģm á;show{ūi,F.args_dict_init_2 _ _,?_};unfold Builtin.«dict.__init__»;show Ö ?_;unfold Builtin.Dict.selfAndRest;show Ö (wpAny_notOrdered_dict ūi ?_);exact Ý _ _ (pure (ß,[ċ l])) _ _ _;show ę ?_;exact Ý _ _ (Ìl "dict.__init__" ß øc [] .none) _ _ _;unfold Ìl;let t:=ħ G;let i:(Ñk).get? l=À o:=Į _ G;show Ö (ūd (T := Ġ) {o,i,x} ?_);rw[Ò łb];refine Ö (z4w (o:=o) i x f y (am_miss_of_fast ŉm) Í Ão (λp K k=>?_) Í);rw[Ò łb];let u:p.DictOf ŝa ß []:=d.F5 λo e=>k _ _ e
 let H:p.get? l=À o:=k _ _ i;let B:p.IsList l Ãa:={o,H,x,n,f}
 let c:ß<p.objs.size:=by let{C,_,_,e,_}:=u;show ħ e
 exact Ý _ _ (pure () >>= _) _ _ _;show Ö īh;show Ϫc (s:={ s with ì:=p,Ę:=K }) B ?_;show ę {Ϻc BI _,ϰc eE ?_};rw[Şd BI _];let z:∀b m,ć b=À m->(p.push { cls:=.type ēm,Ċ:=.fields #[.ref l,.int 0 0] }).get? b=À m:=λb m e=>Į _ (k b m ťf)
 refine rQ (l:=l) (its:=its) (A:=ϑ) Ão (vJ (Ϲa t)) (vJ Òj) (vJ (ϣ (Žh t c))) kvs 0 [] _ {_,ž _ rfl,rfl,rfl} {o,z l o G,x,n,f} (by rw[Ů];show S) (λj g e=>?_) (u.push _) (by simpa using hz) λh' tk J P=>?_;let{v,U,b,I,rfl,W,C,e1,r}:=R j g e;show{_,by rw[Ů];show U,b,I,rfl,W,C,z b C e1,r};show{rfl,h h' tk J λb m e=>?_};let L:=ħ e;show P b m (vJ (ϣ L)) (vJ (ϣ (Žh L c))) (z b m e)
section
variable{X:Cx}
theorem lO{i:Á ð}{σ:St}{H:Hp}{s:Ï}(I:zI X i σ H s):∀{kvs:Á ϖ} {vs:Á V} {its:Á Value},zo vs its->ń=ö->(∀(j:Â)(kv:zY×V),kvs[j]?=À kv->∃b,vs[j]?=À (Ùa b)/\xF X.K H b ħh)->
  ∃ws:Á Ĳa,KV kvs ws/\∀(j:Â)(kw:zY×Value),ws[j]?=À kw->∃v,its[j]?=À v/\CA á v kw.1 kw.2
 | [],_,_,_,_,_=>{[],.nil,λj kw e=>by cases e}|kv::kvs,[],_,_,h,_=>by cases h|kv::kvs,_::vs,_::its,.cons r t,h,hp=>by
  let{ws,f,n}:=lO I t ϲa λj c e=>by let{b,e1,q}:=hp ϸ c ųa;show{b,by simpa using e1,q}
  let{b,e1,l}:=hp 0 kv rfl;cases e1;let{o,m,k,_}:=ϵ l;let{d,x,rfl,a,g}:=Sd m;show{(kv.1,x)::ws,.cons {rfl,g} f,λj kw e=>?_};cases j with
  |Ϡ=>cases e;show{_,rfl,b,d,r,ZX (P:=ø) (w:=X.w) a,k}|ϡ j=>let{v,e2,q}:=n j kw ųa;show{v,by simpa using e2,q}
def y8j(K:Ð):Á V->Hp->VK->È:=λc H Q=>∃a vs kvs,c=ña/\yc K H a vs/\ń=ö/\(∀(j:Â)(kv:zY×V),kvs[j]?=À kv->∃b,vs[j]?=À (.ref b)/\xF K H b ħh)/\∀p,H p=Ä->Q ϛ (ε (.dK (YW [] kvs)))
def z2p(b:Ϗ=Ã):vn X Ýc (y8j X.K):=by
 intro G s σ H J N Q I r h;let{a,O,c,rfl,A,l,m,q}:=h;let{u,rfl,C}:=qK r;cases(show u=ċ a from C);let{j,i,{o,n,z,p,f,d},B}:=Ϙ A;let{y,k,F}:=lO I i l m;have e:Ĕd=Ôa:=by rw[<-k.length,l,όa]
 refine z2q (Ģa b) z p f d e F (by rw[e,<-όa];show B) λL v w t=>?_
 let g:(Êp).length<=ã:=by let x:=iD c [];rw[ϝd]at x;omega
 let E:òo=Å:=by let:=I.big;rw[Ňl];show vJ îo
 show{.ref ß,_,Øb (a:=ß) (o:=.dK Êp) (t':=v) t Đ (E_ g E (k.merge .nil) w),rfl,q _ Ģe}
#print a
def Xp:Á D->Ê (Á ğ×Á D)
 | []=>À ([],[])|.tup [k,v]::r=>(uT k).bind λk=>(Xp r).bind λp=>À (k::p.1,v::p.2)|_=>Ä
def wu{α:Type}:Á ğ->Á α->Á ğ->Á α->Á ğ×Á α
 |ks,ds,k::r,v::q=>wu îe (wB ks ds k v) r q|ks,ds,_,_=>(ks,ds)
def Xc:Á D->Ê D
 | [.lst xs]=>(Xp xs).bind λp=>À (.dic ϛl.1 ϛl.2)|_=>Ä
theorem mK:∀{ks:Á zY}{us:Á V}{as:Á zY}{vs:Á V},Ī=Ű->ĝi=ö->YW Åo Ûc=Ĳc.1.zip Ĳc.2/\Ĳc.1.length=Ĳc.2.length
 | [],[],as,vs,_,h=>{rfl,h}|k::ks,u::us,as,vs,h1,h2=>by let a:=mK (ks:=ks) (us:=us) (as:=wQ as k) (vs:=wB as vs k u) Ϻe (Tf h2);show{?_,a.2};exact YW (tS Åo k u) Ûc=_;rw[A7 h2];show a.1
theorem mI{K:Ð}{G:Hp}:∀{ks:Á zY}{es:Á D}{us:Á V}{as:Á zY}{ds:Á D}{vs:Á V},â K G es us->â K G ds vs->Ī=Ű->ĝi=ö->â K G òh.2 Ĳc.2/\òh.1=Ĳc.1
 | [],es,us,as,ds,vs,r1,r2,h1,h2=>by
  let e1:wu as ds [] es=(as,ds):=by unfold wu;rfl
  let e2:wu as vs [] us=(as,vs):=by unfold wu;rfl
  rw[e1,e2];show{r2,rfl}
 |k::ks,es,[],as,ds,vs,r1,r2,h1,h2=>by cases h1|k::ks,[],u::us,as,ds,vs,r1,r2,h1,h2=>by cases(show _=[]from r1)|k::ks,e::es,_::_,as,ds,vs,r1,r2,h1,h2=>by let{v,r,a,b,c}:=r1;cases a;show mI (ks:=ks) (es:=es) (as:=wQ as k) c (r2.put b) Ϻe (Tf h2)
theorem mH{α:Type}:∀{ks:Á zY}{es:Á α}{as:Á zY}{ds:Á α},ĝi=ÿ->òh.2.length<=ÿ+Þe
 | [],es,as,ds,_=>by
  let e:wu as ds [] es=(as,ds):=by unfold wu;rfl
  rw[e];show ϭ _ _
 |_::_,[],as,ds,_=>by
  let e:∀k ks,wu as ds (k::ks) ([]:Á α)=(as,ds):=λ_ _=>by unfold wu;rfl
  rw[e];show ϭ _ _
 |k::ks,e::es,as,ds,h=>by let a:=mH (ks:=ks) (es:=es) (as:=wQ as k) (ds:=wB as ds k e) (Tf h);let:=ND (ks:=as) (vs:=ds) (k:=k) (v:=e) h;exact(wu (wQ as k) (wB as ds k e) ks es).2.length<=_;rw[Ě];omega
theorem i6{K:Ð}{G:Hp}:∀{xs:Á D}{vs:Á V}{ks:Á zY}{ds:Á D},Xp xs=À (ks,ds)->â K G xs vs->∃us,â K G ds us/\Ī=Ű/\Ī=ö/\∀(j:Â)(kv:zY×V),Ûc[j]?=À kv->∃b,vs[j]?=À (Ùa b)/\xF K G b ħh
 | [],_,_,_,h,r=>by cases h;rw[Ŗp];show{[],rfl,rfl,rfl,λj kv e=>by cases e}|x::xs,_,ks,ds,h,r=>by
  let{v,A,rfl,m,s}:=r;unfold Xp at h
  rw[Ļp];cases e;rename_i k y C e;cases e;let{p,w,h}:=zH h;obtain⟨⟨f,u⟩,l,h⟩:=zH h;cases h;let{us,z,o,q,i}:=i6 l s;let{b,B,rfl,n,{E,_,rfl,a,{d,_,rfl,c,t}},_}:=m;cases(show _=[]from t);refine⟨d::us,{d,us,rfl,c,z},by rw[Ě,Ě,o],by rw[Ě,Ě,q],λj kv e=>?_⟩;cases j with
  |Ϡ=>cases e;show{b,rfl,?_};rw[<-YT w a];show n|ϡ j=>let{g,e1,e2}:=i j kv ųa;show{g,by simpa using e1,e2}
  cases h
def Rl{X:Cx}{e:Õ}{fs:FA}{p pos:Pos}(f:Ϗ=Ã)(K:Gl X ϕ)(P:ó ϕ=Ä)(hv:Ŷ ϕ=À Ýc)(N:SA X [e] fs)(J:Î Óa q12):SF X ŕl (eL Xc fs):=by
 let{t,B,k}:=N.h;refine{{_,(O0 (z2p f) K P hv {B} Í Í (by rw[Ū,J];rfl)).h,λ{U T G H τ σ d Q} E c q=>?_}};let{ds,w,c}:=zH c;show k E w λvs W A g L=>?_
 unfold Xc at c
 split at c;rename_i S;obtain⟨⟨ks,es⟩,O,c⟩:=zH c;cases c;let{v,rfl,a,n,rfl,F,s,l}:=gi L;let{us,u,i,r,y}:=i6 O s;let{z,C}:=mK (ks:=ks) (us:=us) (as:=[]) (vs:=[]) i rfl;let{I,o}:=mI (ks:=ks) (as:=[]) (ds:=[]) (vs:=[]) u rfl i rfl;refine{a,n,ĩd us,rfl,uB g.gh F,by rw[Įa,i,ıa,<-i,r],λj R e=>?_,λp m=>?_};let{b,e1,e2}:=y j R e;show{b,e1,uJ g.gh e2};show q p _ _ (Ūc (Ϟa g.gh m)) (g.h.free m) (Œo m) {Ăm.2,?_,?_,I,?_};exact zT A p (.dK (YW [] Ûc)) p=À (.dK (óh.1.zip Ăm.2));rw[yX,o];show Ÿ (λx=>À (HO.dK x)) z;exact óh.1.length=_;rw[o];show C;let:=mH (ks:=ks) (es:=es) (as:=[]) (ds:=[]) rfl;have e1:Þe=n.length:=by rw[<-Ši,<-i,r]
 rw[śc]at e1;exact óh.2.length<=ã;simp only[ϝd,Ů]at this;omega;cases c
open ϴ Ϻi Ϗn
section
variable{X:Cx}{e o a b c:Õ}{f:FE}{x:Ç}{xp p pos:Pos}
def M4:Ŷ ϕ=À Ýc:=by rw[ÿp]
def Nj(i:Â)(k v:FE):FS:=λσ=>(v σ).bind λy=>match σ[i]? with
 |À (À (Ã,.lst ds))=>(Ĩj).bind λx=>match x with
  |.int j=>(Ào).bind λn=>À (θa (Κb Ŭo))|_=>Ä
 |_=>Ä
theorem ϐf{K:Ð}{G:Hp}{d:D}{v:V}(hv:za K G d v):∀{ds:Á D}{vs:Á V}(n:Â),â K G ds vs->â K G (Ϣi n d) (vs.set n v)
 | [],_,_,r=>by rw[Ŗp];rfl|d'::ds,_,0,r=>by let{u,b,rfl,c,a}:=r;show{v,b,rfl,hv,a}
 |d'::ds,_,n+1,r=>by let{u,b,rfl,c,a}:=r;show{u,_,rfl,c,ϐf hv n a}
def x2a(B:QE X ùa Ņd)(hk:SE X k fk)(hv:SE X v fv)(m:Î øi q12)(I:Î (ϩm Źe v Õc Ø=pure Å) q12)(O:Î (Ϫm Źe v Ø=pure Ä) q12)(t:Î ((Ϸc Źe Ø).map (·.2)=[Ϙb öl Ø]) q12):SS X ŭl (Nj i fk fv):=by
 let{T,s,r}:=hk.h;let{Y,A,S}:=Ŗb;show{{_,N9 A (mV B {s} oC m).h I O t,λ{Z W G H τ σ fl E} K a q=>?_}};let{y,Q,a}:=zH a;show S K Q λw G1 U C N=>?_
 rw[Ăp];rename_i ds e;let{P,p,a}:=zH a;cases P with
 |int j=>let{n,o,a}:=zH a;cases a;let c:=Ìa C;let{F,d,g,z,R,J,f,l}:=c.ow _ _ e;show{_,d,r c p λu G2 H2 b L=>?_};cases(show u=_ from L);refine{F,R,j,n,rfl,rfl,b.h _ _ J,by rw[Îb];show o,?_};show q _ _ _ ((c.go b).Qn e d {_,yX,ϐf (N.mono b.g) n (f.mono b.g),by rw[èa];show l})
 |_=>cases a
 cases a
#print a
#print L3
namespace L2
open ķ ņ ĺ
def Fx(K:Ð)(a:Ì):It:=
  ⟨λi H=>∃xs x,yc K H a xs/\xs[i]?=À x,
   λi H v b=>∃p,H p=Ä/\v=.ref p/\∀xs,yc K H a xs->∃x,xs[i]?=À x/\b=zT H p ńf,
   λi H=>∃xs,yc K H a xs/\ä<=i⟩
def x6s{P:ë}{w:å}{K:Ð}{r:Á Õ}{kk:Â}{pos:Pos}(a e it:Ì)(l:e≠it) :kF P w K (.Tuple r kk pos) ϓi [e,it] e (λi h=>(∃old,IsEnum h e it (i:Æ) old)/\ŷh it a i) where
 mem:=by simp
 obj:=λi h st c b=>by obtain⟨⟨old,g⟩,⟨o2,j,_,d2⟩⟩:=st;simp only[Ŗa,Ăa,ώa]at b;rcases b with rfl|rfl;show{_,g,λv q=>nomatch q};show{_,j,λv q=>by rw[d2]at q;cases q}
 Ėa:=λi h h' st k=>by obtain⟨⟨old,g⟩,j⟩:=st;show{{old,k e è _ g},j.at λo x=>k it è o x}
 Ϥa:=by
  rw[Ėp];let{xs,x,A,ex}:=U;rw[Þq];let{C,R,rxu}:=ru.get ex;let d:Ŝo[i]?=À C:=by rw[ϱc];show R
  let p:e<ß:=ħ g;let lt2:it<ß:=by let{o,z,_}:=j;show ħ z
  show wpAny_pyNext_enum_item g j F d l λN L m G hz1 Z=>?_
  show{_,rfl,wpAny_letOwnedTupleGo_enum (s:={ s with ì:=N,Ę:=ĕ+1 }) L λy he2 f=>?_}
  replace f:öb e N y:=f
  let T:ć ß=Ä:=by
   cases q:ć ß with
   |Ä=>rfl|À o=>show Þ įe Êa
  let t:H ß=Ä:=Ģb Đ;let J:y.get? ß=À { cls:=.type ŷ,Ċ:=.seq #[.int i ĕ,C] }:=Ūi _ _ (Ϲa p) G
  let kk:∀c o,c ∉ [e,it]->ć c=À o->y.get? c=À o:=λc o b z=>by simp only[Ŗa,Ăa,ώa,äg]at b;show Ūi _ _ b.1 (Z c o b.1 b.2 z)
  let new:xV ø X.w (zT H ß ńf) y ß ńf:={ŷg,[.int i ĕ,C],.cons {_,rfl} (.cons rxu .nil),{_,J,rfl,_,rfl}};show{.ref ß,zT H ß ńf,I.F3 (tk:=ĕ+1) B kk T t new,rfl,{ß,t,rfl,λxs' d=>?_},{{C,?_},m.at λo z=>Ūi _ _ l.symm z},λc b=>?_};rw[I.LI d A];show{x,ex,rfl};rw[show((i+1:Â):Æ)=(i:Æ)+1 from rfl];show he2;rw[z_];show(B c b).1;intro q
  let n:c<ß:=by simp only[Ŗa,Ăa,ώa]at b;rcases b with rfl|rfl;show p;show lt2
  rw[q]at n;show Þ n Êa
 done:=by
  rw[Ėp];let{xs,A,hend}:=U;rw[Þq]
  let d:Ŝo[i]?=Ä:=by rw[ϱc];show Ϫa (by let:=Ńo;omega)
  refine wpAny_pyNext_enum_end (by show Ģa b) g j F d λN S=>?_
  show{rfl,I.but (tk:=ĕ) B λc ob u eb=>?_};simp only[Ŗa,Ăa,ώa,äg]at u;show S c ob u.2 eb
 ŕb:=λ_ _ _ _ _ st h=>by obtain⟨⟨old,g⟩,_⟩:=st;show ϯl g h
section
variable{X:Cx}
def z7l(K:Ð)(c:TA):TI:=λσ H R=>c σ H λd b=>∃a xs,d=ña/\yc K b a xs/\R ϓi b
def y75{a:Õ}{o:TA}{p pos:Pos}{e:Á Õ}{kk:Â}{G:Pos}(A:Gl X ţb)(J:ó ţb=Ä)(C:PA X [a] o)(z:Î őg q12) :PI X (.Tuple e kk G) ől (z7l X.K o):=by
 intro j s σ H R I h;show Call_ (VQ I A J boot_enumerate (ϋe (zy (C pos j s σ H _ I h) λw d ⟨O,k,f,B,L⟩=>?_) (by rw[z];rfl) rfl));let{m,N,rfl,v,q}:=L;let{u,rfl,F}:=qK B;cases(show u=ċ m from F);let{w,_,E,_}:=f.list v;show call_enumerate_list E.isList λl g r x t=>?_
 let y:zI X j σ k { d with ì:=l }:=f.kept (t':=d.toks) t;show ϯl (s:={ d with ì:=l }) g ?_;generalize hn:ϐd=n at g r x;refine{n+1,[n+1,n],_,_,k,rfl,y,x6s m ı n (vJ É),{{_,g},r},λc i=>?_,q}
 let b:ϐd<=c:=by rw[hn];simp only[Ŗa,Ăa,ώa]at i;rcases i with rfl|rfl;show ϭ _ _;rw[ϡp]
 show f.Zy b (Ùi b)
#print a
#print L2
namespace L3
open ķ ņ ĺ L2
nonrec def qG(xs:Á D):Á D:=ób (λ(i:Â) x=>œb Ńg) (Ía ä) xs
def kR(a:FE):FA:=λσ=>(Úa).bind λd=>match d with
 |.lst xs=>À Îg|_=>Ä
def Xw(xs:Á D):(Îg).length=ä:=by simp[qG]
theorem Ii(xs:Á D)(i:Â):Îg[i]?=(xs[i]?).map λx=>œb Ńg:=by unfold qG;rw[Ϥe];by_cases h:i<ä;rw[Ϸe h,ė h];rfl;rw[Ϫa ϲa,Ϫa É];rfl
section
variable{K:Ð}{G H:Hp}
def z4c(g:yc K G a vs)(f:â K G xs vs):jZ K ϓi G Îg where
 go:=λi e H c b d=>by rw[Xw]at d;let{v,e1,_}:=f.get (ė d);show{vs,v,uB Æj g,e1}
 uY:=λi e H x q c b d y=>by let{p,h,rfl,k}:=y;let{v,e1,rfl}:=k vs (uB Æj g);let{o,m,l}:=f.at e1;refine{zT e p ğo,.tup [.int (i:Æ),o],ďb b h,by rw[Ii,m];rfl,?_};let j:zm G (zT e p ğo):=łc (wv (b.free h) _);show{p,ŗk,rfl,őb yX,{_,_,rfl,rfl,{v,_,rfl,åg j,rfl}},Ņa (n:=2) Í}
 Ŵ:=λi e H c b d=>by rw[Xw]at d;show{vs,uB Æj g,by rw[Îb];show d}
#print a
def Rn(l:Gl X ţb)(w:ó ţb=Ä)(n:SE X a fa)(d:Î ăd q12):SI X ūl ől (kR fa):=by
 let{t,u,k}:=(zB n zM d).h;show{{_,y75 l w u Ģj,λ{A F G H τ σ ds R} K b q=>?_}};let{x,i,b}:=zH b;cases x<;>first|(cases b;done)|skip
 cases b;rename_i j;refine k K (ds:=[.lst j]) (by unfold zA;rw[i];rfl) λE B C f m=>?_
 let{v,r,rfl,o,s}:=m;cases(show r=[]from s);let{g,c,rfl,e,y,z}:=o;show{g,c,rfl,uB f.gh e,q _ _ _ f (by rw[Xw];show z) (z4c e y)}
#print L3
namespace L2
open ķ ņ ϴ ĺ
nonrec def VO(a:Æ):Á Æ->Á Æ
 | []=>[a]|b::r=>if a<=b then a::b::r else b::VO a r
def ϛb:Á Æ->Á Æ
 | []=>[]|a::r=>VO a (ϛb r)
theorem Hv(a:Æ):∀l:Á Æ,(VO a l).Perm (a::l)
 | []=>Ŵd _|b::r=>by
  unfold VO
  split;show Ŵd _;show((Hv a r).cons b).trans (List.Perm.swap a b r)
theorem àc:∀l:Á Æ,(ϛb l).Perm l
 | []=>Ŵd _|a::r=>(Hv a _).trans ((àc r).cons a)
theorem fW(a:Æ):∀{l:Á Æ},l.Pairwise (·<=·)->(VO a l).Pairwise (·<=·)
 | [],_=>by simp[VO]|b::r,h=>by
  let{e,f}:=ůd h;unfold VO
  split;rw[Ŀp]
  show ßl {λx d=>by rcases Ň d with rfl|d;show c;show ëd c (e x d),h};rw[Ŀp];show ßl {λx d=>?_,fW a f};rcases Ň ((Hv a r).mem_iff.mp d)with rfl|d;omega;show e x d
theorem Hy:∀l:Á Æ,(ϛb l).Pairwise (·<=·)
 | []=>Ðh|a::r=>fW a (Hy r)
theorem Rq:∀{a b:Á Æ},a.Perm b->a.Pairwise (·<=·)->ào (·<=·)->a=b
 | [],b,p,_,_=>(List.nil_perm.mp p).symm|x::a,[],p,_,_=>by cases p.length_eq|x::a,y::b,p,ha,hb=>by
  let{h,i}:=ůd ha;let{g,f}:=ůd hb
  let e:x=y:=by let d:x∈y::b:=p.mem_iff.mp õc;let c:y∈x::a:=p.mem_iff.mpr õc;rcases Ň d with rfl|d;rfl;rcases Ň c with e|c;show Łe;show Int.le_antisymm (h y c) (g x d)
  subst e;rw[Rq (List.perm_cons x |>.mp p) i f]
theorem rW:∀{ns:Á Æ}{its:Á Value},zo Ća its->ňb its ns
 | [],_,.nil=>.nil|n::ns,_,.cons r rr=>by let{t,rfl}:=r;show .cons _ _ (rW rr)
def fY{ns:Á Æ}{its:Á Value}(h:ňb its ns):zo Ća its:=by
 induction h with
 |nil=>show .nil|ï _ _ _ ih=>show .cons {_,rfl} ih
section
variable{X:Cx}
def z30:vn X ñf (λxs H Q=>∃p ns,xs=Ŗc/\yc X.K H p Ća/\ϰ<64/\∀l,H l=Ä->Q øc Ģn):=by
 intro z s σ H xs A Q I r h;let{p,ns,rfl,o,v,q}:=h;let{u,rfl,x}:=qK r;cases x;let{d,i,k,j}:=Ϙ o;let b:=όa;rw[æ]at b;refine sorted_ints k.isList (rW i) É λa g t y n=>?_
 let e:g=ϛb ns:=Rq (y.trans (àc ns).symm) n (Hy ns);subst e;let{c,m}:=sortedAll_at á d a;let f:(ϛb ns).length=ϰ:=(àc ns).length_eq;show{.ref ϳ,_,Øb (t':=ĕ) (h':=sortedAll á d a) (λ_ _=>sortedAll_old) (Ϛd _) (show xV ø X.w _ _ _ ŵj from{?_,ύf,c,fY t,?_}),rfl,q _ œh};rw[æ,f];exact _<=ã;rw[æ]at j;show j;rw[Ħl];show m
#print a
#print L2
namespace L3
open ķ ņ ĺ L2
def dM:Ŷ ĵb=À ñf:=by rw[ÿp]
nonrec def Ób:Á D->Ê Ŧf
 | []=>À []|.int i::r=>(Åg).bind λa=>À ĩj|_=>Ä
theorem fj:∀ns:Á Æ,Ób Åb=À ns
 | []=>rfl|n::ns=>by exact(Ób Åb).bind _=_;rw[fj ns];rfl
theorem ff:∀{ds:Á D}{ns:Á Æ},Ób ds=À ns->ds=Œa ĉ
 | [],_,h=>by cases h;rfl|d::ds,ns,h=>by
  unfold Ób at h
  rw[Ļp];cases e;rename_i i r e;cases e;let{a,b,h}:=zH h;cases h;rw[ff b];rfl;cases h
theorem nD{K:Ð}{G:Hp}:∀{ns:Á Æ}{vs:Á V},â K G Åb vs->vs=Œa όc
 | [],_,r=>r|n::ns,_,r=>by let{v,c,rfl,a,b}:=r;rw[nD b,show v=όc n from a];rfl
theorem fX{K:Ð}{G:Hp}:∀ns:Á Æ,â K G Åb Ća
 | []=>rfl|n::ns=>{.int n,_,rfl,rfl,fX ns}
def GO:Á D->Ê D
 | [.lst xs]=>(Ób xs).bind λa=>if ό<64 then À ŗl else Ä|_=>Ä
def x1g(w:Gl X ĵb)(z:ó ĵb=Ä)(y:SA X [e] fs)(u:Î Óa q12):SF X Ŕl (eL GO fs):=by
 let{t,s,k}:=y.h;refine{{_,(BO z30 w z dM {s} Í Í (by rw[Ū,u];rfl)).h,λ{I C G H τ σ d Q} E b q=>?_}};let{A,n,b}:=zH b;show k E n λK J B c x=>?_
 rcases A with _|⟨x_,r_⟩;cases b
 cases x_<;>first|(cases b;done)|skip
 cases r_<;>first|(cases b;done)|skip
 rename_i r;let{m,o,b}:=zH (show(Åg).bind _=À d from b)
 rw[ĭp];rename_i g;cases b;let{v,rfl,a,F,rfl,i,j,l}:=gi x;rw[ff o]at j l;rw[nD j]at i;show{a,m,rfl,uB c.gh i,g,λp f=>q p _ _ όl (ϋf f) (řf f) {_,yX,fX _,?_}};rw[æ,(àc m).length_eq];rw[æ]at l;show l;cases b
nonrec def Jm:D->D->Ê D
 |.lst x,.lst y=>if Ćb+Ĕd<=yN then À ϒo else Ä|_,_=>Ä
def z4g{x y d:D}(h:Jm x y=À d):∃xs ys,x=.lst xs/\y=.lst ys/\ä+ţ<=yN/\d=.lst ϖf:=by
 unfold Jm at h
 rw[Ϟp];rename_i xs ys;by_cases c:ä+ţ<=yN;rw[ġp]
nonrec def gU:Ê Sl->Ê Sl
 |À (_,d)=>À (Å,d)|Ä=>Ä
def MQ(τ:yC):yC:=τ.map gU
def Bv(f:FT):FT:=λτ=>f (MQ τ)
def x3g(τ:yC)(k:Â)(h:k<τ.length):(űe).set k (gU τ[k])=((τ.take Ŝ).map gU)++τ.drop Ŝ:=by
 let e:τ.drop k=τ[k]::τ.drop Ŝ:=êb h;let l:(Łl).length=k:=by rw[æ,Áa];omega
 rw[e,ϣe _ _ É,l,Ťb,Áh,Ϛc h,ûa,Ţ];rfl
section
variable{K:Ð}{n:Â}{G0 H0 G H G':Hp}{τ:yC}{σ:St}
def Wu(G G':Hp):È:=∀p,G p=Ä->G' p≠Ä->∃u,G' p=À u/\(∀xs,u≠.tup xs)/\∀o v,u≠.yI o v
def y64(o:xz K G H d p):∃u,H p=À u/\(∀xs,u≠.tup xs)/\∀o v,u≠.yI o v:=by
 cases d with
 |lst ds=>let{a,e,_}:=o;show{_,e,Ĭl,Čl}
 |dic ks ds=>let{a,e,_}:=o;show{_,e,Ĭl,Čl}
 |_=>show ąc
def zx.z0u(E:zx K n G0 H0 G H τ σ)(hi:τ[i]?=À ûd):∃G',zx K n G0 H0 G' H Ĭh σ/\zm G G'/\Wu G G':=by
 cases b with
 |Å=>
  show{G,?_,Ķa _,λp l a=>Þ l a}
  let e:τ.set i ħc=τ:=by rw[ϋp];rw[Xj (by rw[Ģ];show E.lt hi),hi];rw[pE hj]
  rw[e];show E
 |Ã=>
  let L:=E.lt hi;let{p,e,g,z,o}:=ŋa i d hi;let{I,m,F}:=y64 o;let{u,C,r}:=o.yI g;let O:u=I:=by rw[C]at m;show úa m
  subst O;let x:zS G0 H0 îi H:=Ŵi z g C;refine{zT G p u,{x,ĸ,by rw[ŉp],λj s h=>?_,λj s h=>?_,λj k e1 f q A l a=>?_},wv g _,λq l a=>?_};rcases vv h with⟨rfl,w⟩|⟨B,w⟩;cases w;show{_,e,r};let{v,t,J}:=æb j s w;show{v,t,J.mono ġd};rcases vv h with⟨rfl,w⟩|⟨B,w⟩;cases w;let{q,t,R,Q,N}:=ŋa j s w;show{q,t,?_,Q,N.mono ġd ϕb};rw[z_ Ũf];show R;subst c;show Ϧa i j d s q (λc=>B Ϲf) hi w e t;rcases vv l with⟨rfl,w⟩|⟨B,w⟩;cases w;rcases vv a with⟨rfl,y⟩|⟨P,y⟩;cases y;show Ϧa j k e1 f q A w y;rcases D7 a with c|c;subst c;show{u,yX,F};show Þ l c
def Wu.trans(d:zm G1 G2)(a:Wu G G1)(b:Wu G1 G2):Wu G G2:=λp g i=>by
 cases e:G1 p with
 |Ä=>show b p e i|À u=>let{f,h,c}:=a p g Ϝc;show{f,d _ _ h,c}
theorem zx.aA(E:zx K n G0 H0 G H τ σ):∀k,k<=n->∃G',zx K n G0 H0 G' H űe σ/\zm G G'/\Wu G G'
 |0,_=>{G,by rw[Ģh];show E,Ķa _,λp u o=>Þ u o}|k+1,hk=>by
  let{r,f,h,i}:=zx.aA E k É;let a:k<τ.length:=by rw[Ģ];omega
  let e:=x3g τ k a
  let c:űe[k]?=À τ[k]:=by rw[Ęb (by rw[æ,Áa];omega),æ,Áa,œa É,Ťb,List.getElem?_drop,Čn,ė a]
  cases t:τ[k]with
  |Ä=>
   show{r,?_,h,i};rw[<-e,t]
   let e2:(űe).set k (gU Ä)=Łl++τ.drop k:=by apply ĭc;intro j;by_cases hj:j=k;subst hj;rw[Xj (by rw[f.l2];omega),c,t];rfl;rw[pE hj]
   rw[e2];show f
  |À s=>let{b,d}:=s;rw[t]at c;let{l,q,g,m}:=f.z0u c;show{l,?_,ğe g,ϸf g m};rw[<-e,t];show q
def zx.z0t(E:zx K n G0 H0 G H τ σ):∃G',zx K n G0 H0 G' H (MQ τ) σ/\zm G G'/\Wu G G':=by
 let{G',a,s,l}:=E.aA n Đ;show{G',?_,s,l};have e:τ.take n=τ:=by rw[<-Ģ];show ıc
 have e2:τ.drop n=[]:=by rw[<-Ģ];show óm
 rw[e,e2,ŵ]at a;show a
nonrec def ϻ(G G' a:Hp):Hp:=λp=>if G p=Ä/\G' p≠Ä then Ä else a p
theorem zS.back(s:zm G G')(d:zm G' H)(x:zS G' H G1 H1):zS G H (ϻ G G' G1) H1:=by show{λb u e=>?_,x.h,λb u e=>?_,λp h=>?_};exact Ĵg=À u;rw[Ó (λc=>by rw[c.1]at e;cases e)];show x.g _ _ (s _ _ e);by_cases c:G b=Ä/\G' b≠Ä;let a:Ĵg=À u:=e;rw[Àq];let a:Ĵg=À u:=e;rw[Ó c]at a;show öa _ _ a;by_cases c:G p=Ä/\G' p≠Ä;let a:ϭj≠Ä:=h;rw[Ò c]at a;show Þ rfl a;let a:ϭj≠Ä:=h;rw[Ó c]at a;rcases Œb p a with z|z;by_cases g:G p=Ä;show Þ {g,z} c;show .inl g;rw[Ũp]
#print a
section
variable{X:Cx}{e:Õ}{f:FE}{ft:FT}
def x2c(h:ST X e ft):ST X e (Bv ft):=by rw[Ĩp];show{{t,p,λ{f m G H τ σ d Q} E b q=>?_}};let{g,a,s,l}:=E.z0t;show k a b λi j c=>q _ _ (zS.back s a.ext.gh c)
#print a
nonrec def qk(i:Â)(e:FE):FS:=λσ=>match σ[i]? with
 |À (À (Ã,.lst xs))=>(Žc).bind λy=>match y with
  |.lst ys=>if ä+ţ<=yN then À (θa (Κb ϖf))else Ä|_=>Ä
 |_=>Ä
nonrec def MO:D->D->Ê D
 |.lst x,.int k=>if 0<=k/\k<=1000000/\Ćb*Ż<=yN then À (.lst (š Ż x).flatten)else Ä|_,_=>Ä
def z4j(h:MO x y=À d):∃xs k,x=.lst xs/\y=.int k/\(0<=k/\k<=1000000/\ä*Ż<=yN)/\d=.lst (Ęn).flatten:=by
 unfold MO at h
 rw[Ϟp];rename_i xs k;by_cases c:0<=k/\k<=1000000/\ä*Ż<=yN;rw[ġp]
theorem Űi{K:Ð}{G:Hp}{ds:Á D}{vs:Á V}(r:â K G ds vs):∀k:Â,â K G (š k ds).flatten (š k vs).flatten
 |0=>rfl|k+1=>by rw[ϸb,Êd,ϸb,Êd];show îc (Űi r k)
section
variable{X:Cx}{a b:Õ}{f fa fb:FE}{x:Ç}{xp pos Ϻ Ž:Pos}{e:Õ}
def y9b(j:SF X e f)(c:Î Óa q12):∃t,PA X [e] t/\∀{G0 H0 G H:Hp}{τ:yC}{σ:St}{d:D}{Q:Á V->Hp->È},zx X.K ù G0 H0 G H τ σ->f τ=À d->(∀p G' H',zS G H G' H'->H p=Ä->G' p=Ä->xz X.K G' H' d p->Q Ŗc H')->t σ H Q:=by let{t,p,k}:=j.h;show{_,tR p jw c,λE b q=>k E b λp i m l a g o=>?_};show q p i m l a g o
def S0(J:QE X ùa Ņd)(C:SF X e f)(b:Î (ŏa ùa "extend" Ø Ôn=ď ùa Ø) q12)(d:Î Ōa q12)(s:Î Óa q12) :SS X (.Expr (Ψe (.Attribute ùa "extend" Ϻ)) pos) (qk i f):=by
 let{t,p,k}:=y9b C s;refine{{_,(O1 (I_ Ũd PySem.F.slot_list_extend PySem.F.type_list_extend y0g J {p} b d (by rw[Ū,s];rfl) Ůd) rfl).h,λ{S R G H τ σ O E} K a q=>?_}};unfold qk at a
 rw[Ăp];rename_i j r;let{y,N,a}:=zH a;cases y with
 |lst ys=>
  change (if Ôa+ţ<=yN then À (Γe (j++ys))else Ä)=À O at a
  by_cases c:Ôa+ţ<=yN;rw[Àq];let{L,n,g,z,w,u,v,l}:=K.ow _ _ r;show{_,n,.inl {rfl,w,ņa u},k K N λp T Q m P U o=>?_};let{B,I,A,_}:=o;refine{L,p,w,B,rfl,rfl,m.h _ _ u,I,by rw[Źf,A.length,Ś];show c,?_};show q _ _ _ ((Ìa m).Qn r n {_,yX,(v.mono m.g).append A,?_});rw[Ϣp]
 |_=>cases a
 cases a
def x1d(z:SF X a fa)(r:SE X b fb):SF X (.BinOp a .Mult b pos) (e2 MO fa fb):=by
 let{U,s,A}:=z.h;let{O,I,F}:=r.h;show{{_,N7 y60 s I,λ{P N G H τ σ d Q} E i q=>?_}};let{x,n,i}:=zH i;let{y,B,i}:=zH i;show A E n λp T L m J W o=>?_
 show F Ãj B λu R S j v=>?_
 let{K,k,rfl,rfl,c,rfl}:=z4j i;let{C,t,l,_}:=o;cases(show u=.int k from v);let e:=m.trans j;refine{p,k,C,rfl,rfl,j.h _ _ t,by omega,by omega,by rw[Ľb,Ś];show c.2.2,λw f=>?_};show q w _ _ (Ņb (Ϟa ϑc f)) (e.h.free f) (õf f) {_,yX,Űi (åg j.g) _,?_};rw[Ś,iC,Ċn];show c.2.2
#print a
nonrec def y1b(τ:yC):Ñ:=τ.all λs=>match s with
 |À (Ã,_)=>Å|_=>Ã
nonrec def Jf:Á D->Ê (Á Ñ)
 | []=>À []|.bl b::r=>(Jf r).bind λa=>À (b::a)|_=>Ä
theorem dI:∀{ds:Á D}{bs:Á Ñ},Jf ds=À bs->ds=ég Ϥb
 | [],_,h=>by cases h;rfl|d::ds,bs,h=>by
  unfold Jf at h
  rw[Ļp];cases e;rename_i b r e;cases e;let{a,c,h}:=zH h;cases h;rw[dI c];rfl;cases h
theorem nF{K:Ð}{G:Hp}:∀{bs:Á Ñ}{vs:Á V},â K G (ég Ϥb) vs->vs=ég V.bl
 | [],_,r=>r|b::bs,_,r=>by let{v,d,rfl,a,c}:=r;rw[nF c,show v=V.bl b from a];rfl
def GF:Á D->Ê D
 | [.lst xs]=>(Jf xs).bind λa=>À (.bl (Ϝb id))|_=>Ä
def y37{K:Ð}:Uo K (md K) GF:=λG H h j d Q s r b q=>by
 rcases h with _|⟨x_,r_⟩;cases b
 cases x_<;>first|(cases b;done)|skip
 cases r_<;>first|(cases b;done)|skip
 rename_i f;let{i,g,b}:=zH (show(Jf f).bind _=À d from b);cases b;let{v,rfl,a,k,rfl,e,c,l}:=gi r;rw[dI g]at c;rw[nF c]at e;show{a,i,rfl,e,q _ _ _ Øa rfl}
structure z1a(K:Ð)(H0 G H:Hp)(p:Ì)(qs:Á Ì)(nds:Á ŉb):È where
 hp:H p=À (Β ůo)
 p0:H0 p=Ä
 pg:G p=Ä
 np:p ∉ qs
 nd:ţi
 ln:nds.length=Ĉd
 el:∀(j:Â)(q:Ì),qs[j]?=À q->∃ds vs,nds[j]?=À ds/\H q=À đd/\H0 q=Ä/\G q=Ä/\â K G ds vs/\ÿ<=ã
structure cN(K:Ð)(n:Â)(G0 H0 G H:Hp)(τ:yC)(σ:St)(i:Â)(nds:Á ŉb):È where
 env:zx K n G0 H0 G H τ σ
 no:y1b τ=Ã
 w10:∃p qs,σ[i]?=À Ĳf/\z1a K H0 G H p qs nds
inductive NF where
 |nx (nds:Á ŉb) (τ:yC)
 |rt (d:D)
abbrev z18:=Á ŉb->yC->Ê NF
def z19(K:Ð)(n:Â)(G0 H0:Hp)(E:ua)(i:Â):NF->È
 |.nx nds τ=>∀σ G H,cN K n G0 H0 G H τ σ i nds->E.nx σ H|.rt d=>∀v G H,zS G0 H0 G H->za K G d v->E.rt v H
structure NS(X:Cx)(i:Â)(st:Ú)(f:z18):È where
 h:∃t,PS X st t/\∀{G0 H0 G H:Hp}{τ:yC}{σ:St}{nds:Á ŉb} {fl:NF} {E:ua},cN X.K ù G0 H0 G H τ σ i nds->f nds τ=À fl->z19 X.K ù G0 H0 E i fl->t E σ H
#print L3
namespace L2
open ķ ņ ϴ ĺ
section
variable{Ĝ:ë}{w:å}{A:þ}{E:Value->Ï->È}
def z37{s:Ï}{a:Ì}{kvs:Á Ĳa}{ep:Â}{Q:Á Value->Ï->È}(p:Ĺb=Ä)(lo:éa=Å)(n:łh ŝa a kvs ep)(q:ń<=ã)(h:∀h' tk vs,ö=ń->(∀(j:Â)(v:Value),vs[j]?=À v->∃k x,kvs[j]?=À (k,x)/\(ŝa).is k v=Ã)->ß<h'.objs.size->(∀b ob,ć b=À ob->ġ b=À ob)->Q vs { s with ì:=h',Ę:=tk }):Ý í A (collect Ş) Q E s:=by
 unfold collect;show Ö (wpAny_runValue (ϰc (entry_proto_collect') ?_));exact Ý _ _ (newList [] >>= λl=>again (.builtin "list.__iadd__" {[l,.ref a],[]})) _ _ s;refine Ö (Ϩg (ę {Code.quiet_builtin _ ŉ,ϰc (entry_list_iadd') ?_}));let i:a<ß:=n.lt_size;let f:ß≠a:=vJ (Ϲa i);rw[Şd ŉ]
 refine W.kdl_extend (R:=λr m=>match r with
  |.ok ãe=>Ý í A (match v with
   |ċ a=>(do
    let o <-load a
    match ŀa with
    |.seq xs _=>pure xs.toList|_=>ťn Űl)
   |_=>ťn Űl) Q E m
  |.ok _=>î|.error e=>E e m) (s:={ s with ì:=őa Ćh }) (W.kdl_dict (knd:=xG Ĝ w) (kvs:=kvs) (ep:=ep) lo) (by show p) (n.push _) ß f f ůb 0 æd (λh' tk c u t g d=>?_) q
 show Ö (Ôo g ?_);exact Ý _ _ (pure c.toList) _ _ _;refine ę (h h' tk c.toList (by rw[ſ];show d.1) (λj v e=>d.2 j v (by rw[<-ϫa];show e)) Ôj λb ob e=>?_);show t b ob (vJ Ĵi) ťf
def z7v(vs:Á Value)(kvs:Á Ĳa)(ns:Á Æ)(b:ö=ń)(a:Īd (·.1)=Œa Ϩ)(c:∀(j:Â)(v:Value),vs[j]?=À v->∃k x,kvs[j]?=À (k,x)/\(ŝa).is k v=Ã):ňb vs ns:=by
 revert kvs ns
 induction vs with
 |nil=>
  intro kvs ns b a _;cases kvs with
  |nil=>
   cases ns with
   |nil=>show .nil|ï n ns=>cases a
  |ï _ _=>cases b
 |ï v vs ih=>
  intro kvs ns b a c;cases kvs with
  |nil=>cases b|ï kx kvs=>
   cases ns with
   |nil=>cases a|ï n ns=>let{k,x,e,z}:=c 0 v rfl;cases e;let f:k=Ϩ n:=Ým.1;subst f;let{t,rfl}:=ϴl (k:=n) (v:=v) z;show .cons _ _ (ih kvs ns Ϟl Ým.2 λj u d=>by simpa using c ϸ u (by simpa using d))
#print a
section
theorem KA:∀{kvs:Á ϖ} {vs:Á Ĳa},KV kvs vs->Ýg (·.1)=Īd (·.1)
 |_,_,.nil=>rfl|_,_,.cons r t=>by rw[ŭ,ŭ,KA t,r.1]
#print a
#print L2
namespace L3
open ķ ņ ĺ L2
nonrec def TR:Á ğ->Ê Ŧf
 | []=>À []|.inl i::r=>(TR r).bind λa=>À ĩj|.inr _::_=>Ä
theorem K6:∀{ks:Á ğ} {ns:Á Æ},TR ks=À ns->ks=Œa Ϩ
 | [],_,h=>by cases h;rfl|.inl i::r,_,h=>by let{ns,a,h}:=zH h;cases h;rw[K6 a];rfl
 |.inr _::_,_,h=>by cases h
section
variable{α:Type}{P:Á α->È}
def x8f(h:P []):∀us:Á α,Ű=0->P us
 | [],_=>h
def OR{n:Â}(h:∀a (r:Á α),Ų=n->P ńd):∀us:Á α,Ű=n+1->P us
 |a::r,e=>h a r (Ģc e)
def us1(h:∀a,P [a]):∀us:Á α,Ű=1->P us:=OR λa=>x8f (P:=λr=>P ńd) şe
def us2(h:∀a b,P đc):∀us:Á α,Ű=2->P us:=OR λa=>us1 (P:=λr=>P ńd) şe
def us3(h:∀a b c,P ϓb):∀us:Á α,Ű=3->P us:=OR λa=>us2 (P:=λr=>P ńd) şe
def us4(h:∀a b c d,P [a,b,c,d]):∀us:Á α,Ű=4->P us:=OR λa=>us3 (P:=λr=>P ńd) şe
def us5(h:∀a b c d e,P [a,b,c,d,e]):∀us:Á α,Ű=5->P us:=OR λa=>us4 (P:=λr=>P ńd) şe
#print a
abbrev MP(x:Ç)(st:Ú)(oc:Value)(od:Ê Ì)(sl:Ü śa)(kV dc pm:Value)(an:Ê Ì)(cd ct:Value):Ê Obj:=À {oc,od,.func (Ñb x x Ļb Ça Ŏ .none kV dc pm an cd ct),sl}
nonrec def rC(K:Ð)(n:Â)(f:FE):TE:=λσ H Q=>∃G0 H0 G τ d,zx K n G0 H0 G H τ σ/\f τ=À d/\∀p G' H',zS G H G' H'->H p=Ä->G' p=Ä->xz K G' H' d p->Q ϛ H'
section
variable{X:Cx}{elt:Õ}{Ĺ:Ûa}{cl:Á Ša}{own:Á Ç}{f:FE}{b:FSN}
def z28{C:Ì}{s:Ï}{H:Hp}{a:Á Ì}{pn:Á ð}(h:SF Ťk elt f):PE Ťk elt (rC X.K ìe f):=λb s σ H Q I q=>by rw[Ĩp];let{G0,H0,G,τ,d,K,c,z}:=q;show p b s σ H Q I (k (G0:=G0) (H0:=H0) (G:=G) (τ:=τ) (d:=d) ?_ c z);rw[show(wb X Ĺ cl own C _ _ a pn).N.length=ù+ϯa from Eh X own];show K
#print a
#print L3
namespace L2
open ķ ņ ϴ ĺ
def jX(K:Ð)(w:å)(a:Ì)(ks:Á zY)(us:Á V):È:=
 éa=Å/\Ī=Ű/\∃ep,∀(P:ë)(h:Heap),ř h->∃vs,KV Ûc vs/\Ũi ķa a vs ep
def i3{k:zY}{v:Value}(h:Xo k v=Ã):yB Ħj v:=by rcases ZY h with⟨i,t,rfl,rfl⟩|⟨x,t,rfl,rfl⟩;show{t,rfl};show{t,rfl}
def Fy(ks:Á zY):It:={λi _=>i<Ī,λi H v a=>a=H/\∃k,ks[i]?=À k/\v=kV k,λi _=>Ī<=i}
theorem gZ:∀{kvs:Á ϖ} {vs:Á Ĳa},KV kvs vs->ö=ń
 |_,_,.nil=>rfl|_,_,.cons _ t=>by rw[Ě,Ě,gZ t]
theorem x6t{P:ë}{w:å}{K:Ð}{tg:Õ}{ks:Á zY}{us:Á V}{ep:Â}(a it:Ì)(R:Ī=Ű)(g:∀(P:ë)(h:Heap),ř h->∃vs,KV Ûc vs/\Ũi ķa a vs ep) :kF P w K tg ñj ϥb it (λi h=>h.IsKeyIter it a i Ī ep) where
 mem:=by simp
 obj:=λi h st b m=>by
  let e:b=it:=by simpa using m
  rw[øp]
 Ėa:=λi h r st k=>Ćg λo e=>k it è o e
 Ϥa:=by
  rw[Ąp]
  let U:i<ö:=by rw[n];show C
  let q:vs[i]?=À (vs[i].1,vs[i].2):=ė U
  let hk:ks[i]?=À vs[i].1:=by let e:=Ÿ (λl:Á zY=>l[i]?) (KA f);simp only[ũ,q,Ğm,ëh (show Ī<=Ű by omega)]at e;show Łe
  rw[ϝp];show wpAny_pyNext_dict_item st y q λB r p j Y=>?_
  rw[n]at j;let S:zI X Q σ H { s with ì:=r }:=Ŧa (t':=ĕ) (λb o m e=>(Y.2 b m).trans e) J N x G u;let{o,e,c,d}:=id j;show{B,rfl,TC (s:={ s with ì:=r }) e c d Í {kV vs[i].1,H,S,i3 p,{rfl,_,hk,rfl},j,λb m=>(t b m).1}}
 done:=by
  rw[Ąp]
  let q:vs[i]?=Ä:=Ϫa (by rw[n];show C);rw[ϝp];show wpAny_pyNext_dict_end (Ģa O) st y q λr T=>{rfl,Ŧa (t':=ĕ) (λb o m e=>T b o m e) J N x G u}
 ŕb:=λ_ _ _ _ _ st h=>wpAny_pyIter_keyiter st h
def z7m(ks:Á zY):TI:=λ_ H R=>R ñj H
def y76{X:Cx}{tg:Õ}{x:Ç}{p:Pos}{A:Ì}{ks:Á zY}{us:Á V}(h:vC ó x ſb)(g:jX X.K X.w A ks us)(q:Gl X x)(m:Î ī q10):PI X tg øa (z7m ks):=by
 intro n s σ H R I l;let{a,k,C,j}:=g;show zy (Vd (pos:=p) h q m n s σ H (λv i=>v=.ref A/\i=H) I {rfl,rfl}) λv c ⟨y,i,d,r,e1,e2⟩=>?_
 subst e1 e2;cases(show v=ċ A from r);let{u,f,t}:=j ø ŵc d.xY;let z:Ši=Ī:=by rw[gZ f,Įa,k,ıa]
 show wpAny_pyIter_dict a t ?_;rw[z];show{ģb,[ģb],_,_,i,rfl,d.kept (t':=Ŵc) λb o e=>Į _ e,x6t A _ k j,{_,ž _ rfl,rfl,rfl},λb B=>?_,l};let e:b=ģb:=by simpa using B
 subst e;show d.Zy Đ Ąm
#print L2
namespace L3
open ķ ņ ϴ ĺ L2
nonrec def TQ:zY->D
 |.inl i=>.int i|.inr x=>.str x
nonrec def Yc:zY->Ñ
 |.inl _=>Ã|.inr x=>decide (Ćb<=yN)
def iG(ks:Á zY):FA:=λ_=>À Ϻn
def i4{K:Ð}{G:Hp}{k:zY}(h:Yc k=Ã):za K G (TQ k) Ħj:=by
 cases k with
 |inl i=>rfl|inr x=>show{rfl,by rw[Ś];show Ŋ h}
def z55{K:Ð}{G:Hp}{ks:Á zY}(h:æg Yc=Ã):jZ K ñj G Ϻn where
 go:=λi b H _ _ a=>by rw[æ]at a;show a
 uY:=λi b H x f e d a y=>by let{rfl,k,c,rfl}:=y;show{b,TQ k,Ąa d,by rw[ũ,c];rfl,i4 (Ϯa h k (ϴb c))}
 Ŵ:=λi b H _ _ a=>by rw[æ]at a;show a
def Ro(h:vC ó x ſb)(g:jX X.K X.w A ks us)(d:Gl X x)(hk:æg Yc=Ã)(b:Ī<=1000)(a:Î ī q10):SI X tg øa (iG ks):=
 {{_,y76 h g d a,λ{e f G H τ σ i R} K c q=>by cases c;show q _ _ _ êe (by rw[æ,Ś];show İ b Í) (z55 hk)}}
def z4t{K:Ð}{w:å}{a:Ì}{es:Á ĸb}{n:Â}{xs:Á Ç}{vs:Á Value}{us:Á V}(l:ϓ a=À { cls:=.type ϕ,Ċ:=.dict Úi n })(e:k6 w es xs vs)(d:Śc)(g:éa=Å)(r:zo us vs) :jX K w a Ŀc us:=by
 rw[Ŝp]
 show{g,c,n,λP h f=>{_,KD r c,?_}};rw[Ãq];refine{_,_,f _ _ l,{rfl,rfl,rfl},rfl,λe i=>q e (by simpa using i),p,?_};rw[DQ ſg];show Ñh _ Ŗg d
#print L3
namespace L2
open ķ ņ ϴ ĺ
def cY(r d:Ì)(h:Heap):È:=h.IsValuesView r d
abbrev JT(r d:Ì):HO:=.ext (cY r d)
section
variable{X:Cx}{A:Ì}{ks:Á zY}{us:Á V}{x:Ç}{p Ϻ Ž:Pos}
def rD(A:Ì):TE:=λ_ H Q=>∀r,H r=Ä->Q (.ref r) (zT H r (JT r A))
def y6x(h:vC ó x ſb)(g:jX X.K X.w A ks us)(P:Gl X x)(C:Î ī q10)(d:Î Īg q12)(f:Î Ōa q12) :PE X ùk (rD A):=by
 intro J s σ H Q I G;let{i,T,S,E}:=g;show że d f (zy (Vd (pos:=p) h P C J s σ H (λv r=>v=.ref A/\r=H) I {rfl,rfl}) λv c ⟨y,r,m,R,e1,e2⟩=>?_);subst e1 e2;cases(show v=ċ A from R);let{B,N,O}:=E ø ŵc m.xY;let j:ņh ŧb A B:=O.dictOf
 let L:∀b,ċ A=.ref b->∃l,ód b=À l/\l.dict=Ä:=λb q=>by cases q;let{l,_,_,u,n,_}:=j;show{l,u,n.2.1}
 show{ϕ,_,Ϝe,ϖe,Ϫk,j.typeIs,L,Ϡc rfl ŷi};show żd ϖe j.typeIs ϓk ňk (ϱl ŧb A i) {{B,j},?_};let t:cY ģb A (Àe { cls:=.type Ŀh,Ċ:=.fields #[.ref A] }):={_,ž _ rfl,rfl,rfl};show{.ref ģb,_,m.laid (a:=ģb) (o:=JT ģb A) (t':=Ŵc) Äh Đ {t,?_,λu n z k=>?_},rfl,G _ m.fresh};let{o,e,_}:=t;show{o,e};let{o,e,z}:=z;show{o,k _ e,z}
def y8o(A:Ì)(us:Á V):Á V->Hp->VK->È:=λa H Q=>∃r,a=[.ref r]/\H r=À (JT r A)/\∀p,H p=Ä->Q ϛ (ε (.lst us))
theorem i8:∀{kvs:Á ϖ} {vs:Á Ĳa},KV kvs vs->zo (Īd (·.2)) (Ýg (·.2))
 |_,_,.nil=>.nil|_,_,.cons r t=>.cons r.2 (i8 t)
def z2v(c:Ϗ=Ã)(g:jX X.K X.w A ks us)(p:Ű<=1000):vn X îa (y8o A us):=by
 intro P s σ H R T Q I r h;let{a,rfl,x,q}:=h;let{u,rfl,O}:=qK r;cases(show u=ċ a from O);let{t,N,ep,B}:=g;let{m,f,G}:=B ø á Ŧ;let J:ϐa=Ű:=by rw[gZ f,Įa,N,ıa]
 let{F,_}:=(show xV ø X.w H á a (JT a A)from Ė a _ x);refine W.kdl_call (W.kdl_values (knd:=xG ø X.w) (d:=A) (r:=a) (kvs:=m) (ep:=ep)) (Ģa c) {F,G} (by rw[J,Ś];show İ p Í) λS C b y z L i=>?_
 let{l,n}:=i
 let e:ŝc=m.map (·.2):=by
  show ĭc λj=>?_
  cases hj:ŝc[j]? with
  |Ä=>have:=řk hj;rw[ſ,l]at this;rw[ũ,Ϫa this];rfl|À v=>let{k,e}:=n j v (by rw[<-ϫa];show hj);rw[ũ,e];rfl
 let E:zo us ŝc:=by rw[e];let:=i8 f;rw[List.map_snd_zip (show Ű<=Ī by omega)]at this;rw[ņp]
 show{.ref ß,_,Øb (a:=ß) (o:=.lst us) (t':=C) z Đ {?_,ŝc,y,E,?_},rfl,q _ Ģe};rw[Ś];show İ p Í;rw[L]
#print a
#print L2
namespace L3
open ķ ņ ϴ ĺ L2
def oI(a:Ϗ=Ã)(j:Gl X Ġ)(f:ó Ġ=Ä)(h:vC ó x ſb)(g:jX X.K X.w A ks us)(s:Gl X x)(m:∀H,â X.K H ds us)(k:ÿ<=1000)(n:Î ī q10)(b:Î (ŏa Ϧd "values" Ø (ď Ϧd Ø)=ď Ϧd Ø) q12)(c:Î Ōa q12) :SF X (.Call ün [.Call ŉk [] [] Ž] [] pos) (eC ßc):=by
 let t:Ű<=1000:=by rw[(m Āb).length];show k
 let z:QE X (Φa ŉk) (rD A):={y6x h g s n b c};refine{{_,(O0 (p:=p) (pos:=pos) (z2v a g t) j f M5 (NQ z mU) Í Í).h,λ{B C G H τ σ d Q} E v q=>?_}};cases v;intro r u;show{r,rfl,yX,λl i=>?_};let e:=Ϟa (o:=JT r A) Äa u;let y:=Ņb (Ϟa (o:=.lst us) ϑc i);show q l _ _ y (e.h.free i) (õf i) {us,yX,m _,by rw[Ś];show İ k Í}
#print L3
namespace L2
open ķ ņ ϴ ĺ
section
variable{Ĝ:ë}{w:å}{A:þ}{E:Value->Ï->È}{s:Ï}
open HT in
def z4x{t f:Ì}{a:Ü Value}{k i:Value}{lo hi:Ê Æ}{Q:Value->Ï->È}(c:âb á t a)(j:Ôf f k i .none)(pl:đb k lo)(n:đb i hi)(l:sIx ò 0 lo=0/\sIx ò ò hi=ò)(h:Q Šc s):Ý í A (ũc Šc Ĵ) Q E s:=by
 let{o,g,e,m}:=id j;let d:ćb Ĵ Ĝe:={o,g,e};unfold ũc
 try with_reducible show ϭa ?_
 first|show Ö ýb|skip
 refine Ö ńk
 show Ö (ϝc (ŀ:=Łc Łh) çc Īk
  ņj)
 rw[ńp];show Ö (oO j pl n ?_)
 let b:Ĝg=Ã:=by rw[l.1,l.2,ĉn];simp
 exact Ý _ _ ύk _ _ s;rw[Ò b];let p:ćb Šc ŷ:=çc;unfold Builtin.Tuple.tupleIsExact;show Ö (Ö (ūd p (Μa (Ád (ę {_,rfl,ę h})))))
#print a
def y8t(K:Ð):V->Ê Æ->Ê Æ->Hp->VK->È:=λx c b H Q=>∃a xs,x=.ref a/\xF K H a xs/\
 (Ŀ ä 0 c=0/\Ŀ ä ä b=ä)/\Q Ş H
def x1o:ZM X (y8t X.K):=by
 intro n s σ H x v o p u t w Q I i g e k h;let{a,j,rfl,f,l,q}:=h;cases i;let{c,r,d,m}:=ϵ f;let b:Áf=Ôa:=by rw[ģ];show ϯm
 show{ŷ,_,Úk,ūi,?_};show z4x d g e k (by rw[b];show l) {.ref a,H,I,rfl,q}
#print L2
namespace L3
open ķ ņ ϴ ĺ L2
def Xf(d:D)(lo hi:Ê Æ):Ê D:=match d with
 |.tup xs=>À Ġo|d=>GM d lo hi
def YF(a:FE)(lo hi:FO):FE:=λσ=>(Úa).bind λd=>(áj).bind λl=>(æj).bind λh=>Xf d l h
def z3c{α:Type}{xs:Á α}{lo hi:Ê Æ}(c:Ŀ ä 0 lo=0/\Ŀ ä ä hi=ä):gS xs lo hi=xs:=by unfold gS;rw[c.1,c.2,ĉn,ũm,ıc]
theorem x10{X:Cx}{a:Õ}{w:FE}{pos:Pos}{lo hi:Ê Õ}{y fh:FO}{p2:Pos}(K:SE X a w)(t:SO X lo y)(r:SO X hi fh):SE X øl (YF w y fh):=by
 let{ta,F,L}:=K.h;let{Y,A,C}:=t.h;let{S,N,I}:=r.h;show{{_,lV (oN.or x1o) F A N,λ{T R G H τ σ d Q} E b q=>?_}};let{x,B,b}:=zH b;let{l,t,b}:=zH b;let{h,r,b}:=zH b;show L E B λv Z P o J=>C (ĩa o) t λU W u=>I ((ĩa o).go u) r λG3 O e=>?_
 let n:=ϫi (Ϩi e);let s:=J.mono Ļm;cases x with
 |lst xs=>cases b;let{a,m,rfl,k,i,f}:=s;refine .inl (.inl {a,m,rfl,uB ϑc k,λp j=>q _ _ _ îl {p,_,rfl,ņa yX,(Áo).mono żm,İ Ög f}})
 |tup xs=>cases b;let{a,m,rfl,k,i,f}:=s;by_cases c:Ŀ ä 0 l=0/\Ŀ ä ä h=ä;refine .inr {a,m,rfl,uJ ϑc k,by rw[όa];show c,?_};rw[z3c c]at q;show q _ _ _ n {a,m,rfl,k,i,f};refine .inl (.inr (.inl {a,m,rfl,uJ ϑc k,by rw[όa];show c,λp j=>?_}));show q _ _ _ îl {p,_,rfl,őb yX,(Áo).mono żm,İ Ög f}
 |str z=>cases b;let{rfl,f}:=s;show .inl (.inr Ϝj)
 |_=>cases b
#print L3
namespace L2
open ķ ņ ϴ ĺ
section
variable{X:Cx}{z8:Á ð}{σ:St}{H:Hp}{s:Ï}{a:Ì}{o:Obj}{kvs:Á ϖ}
def zI.swap(I:zI X z8 σ H s)(e:H a=À u)(A:∀x,u≠.own x)(j:∀xs,u≠.tup xs)(o:∀ps,Öb a≠À óe)(B:∀ob v,Öb a≠À ùi)(t:∀xs,Öb a≠À Ĺa)(h:xV ø X.w Ϫn á a u'):zI X z8 σ Ϫn s:=by
 let f:∀b,H b=Ä->b≠a:=λb d z=>by subst z;rw[e]at d;cases d
 show{I.ok,ĕc,Ϛa,{ìf,Åe,λb ob q n m=>?_,ϴd,λb xs q=>?_,λb ob v q=>?_,λb ps q=>?_},Ĩa,Ła,?_,λx c q=>?_,λp k=>?_,λb v q=>?_,ēb};let:=Þd b ob q n m;rw[z_ (f b this)];rw[ņp];let d:b≠a:=λz=>by subst z;show t xs q
 rw[z_ d];show áe b xs q;let d:b≠a:=λz=>by subst z;show B ob v q
 rw[z_ d];show àe b ob v q;let d:b≠a:=λz=>by subst z;show o ps q
 rw[z_ d];show âe b ps q;rw[z_ (f _ ϙa)];show ϙa;rw[z_ (f _ (ŗb x c q))];show ŗb x c q;let{r,i,l}:=ňa p k;show{r,by rw[z_ (f _ i)];show i,l};by_cases d:b=a;subst d;rw[yX]at q;cases q;show h;rw[z_ d]at q;show(Ė b v q).X5 (λc w _ z=>z) (λc z=>?_) λc xs z=>?_;let g:c≠a:=λy=>by subst y;rw[e]at z;cases z;show A _ rfl
 rw[z_ g];show z;let g:c≠a:=λy=>by subst y;rw[e]at z;cases z;show j _ rfl
 rw[z_ g];show z
def zI.UG(I:zI X z8 σ H s)(e:H a=À Ō):(∀ps,Öb a≠À óe)/\(∀ob v,Öb a≠À ùi)/\∀xs,Öb a≠À Ĺa:=by show{λps z=>?_,λob v z=>?_,λxs z=>?_};let{_,q}:=âe a ps z;rw[e]at q;cases q;let q:=àe a ob v z;rw[e]at q;cases q;let q:=áe a xs z;rw[e]at q;cases q
def zI.up(I:zI X z8 σ H s)(e:H a=À Ō):∃o,zI X z8 σ ďf s:=by let{k,j,h}:=I.UG e;let{z,y,f,r,b,d,i,g,c}:=(show xV ø X.w H á a Ō from Ė a _ e);show{b,I.swap e ça ça k j h {g,z,y,f,r,b,d,i,g,c}}
def zI.dn(I:zI X z8 σ H s)(e:H a=À Ϛ)(n:(∀ps,Öb a≠À óe)/\(∀ob v,Öb a≠À ùi)/\∀xs,Öb a≠À Ĺa):zI X z8 σ Ϲd s:=by let{j,i,f}:=n;let{_,z,y,d,r,ob,b,h,g,c}:=(show xV ø X.w H á a Ϛ from Ė a _ e);show I.swap e ça ça j i f {z,y,d,r,ob,b,h,g,c}
#print a
def ua.dn(D:ua)(a:Ì)(o:Obj)(kvs:Á ϖ):ua:=
 {λσ H=>H a=À Ϛ/\ůa σ Ϲd,λv H=>H a=À Ϛ/\D.rt v Ϲd,λσ H=>H a=À Ϛ/\D.bk σ Ϲd,λσ H=>H a=À Ϛ/\D.ct σ Ϲd}
def y9a(i:Â)(t:TS):TS:=λD σ H=>∃a,σ[i]?=À íe/\((∃o kvs,H a=À Ϛ/\t D σ H)\/∃kvs,H a=À Ō/\∀o,t (D.dn a o kvs) σ ďf)
def y7o{X:Cx}{st:Ú}{t:TS}{i:Â}(h:PS X st t):PS X st (y9a i t):=by
 intro k s σ H D I d;obtain⟨a,p,⟨_,_,_,d⟩|⟨m,e,d⟩⟩:=d;show h k s σ H D I d
 .let{o,l}:=I.up e;show zy (h k s σ _ _ l (d o)) λf n g=>?_
  cases f with
  |next=>let{σ',j,b,c,q}:=g;show{σ',_,b.dn c ĕe,q}
  |brk=>let{σ',j,b,c,q}:=g;show{σ',_,b.dn c ĕe,q}
  |ĕb=>let{σ',j,b,c,q}:=g;show{σ',_,b.dn c ĕe,q}
  |ret u=>let{v,σ',j,b,r,c,q}:=g;show{v,σ',_,b.dn c ĕe,r,q}
def x36(i:Â)(t:TE):TE:=λσ H Q=>∃a,σ[i]?=À íe/\((∃o kvs,H a=À Ϛ/\t σ H Q)\/∃kvs,H a=À Ō/\∀o,t σ ďf λv b=>b a=À Ϛ/\Q v (zT b a Ō))
def y6u(h:PE X e t):PE X e (x36 i t):=by intro c s σ H Q I b;obtain⟨a,l,⟨_,_,_,b⟩|⟨j,e,b⟩⟩:=b;show h c s σ H Q I b;let{o,f}:=I.up e;show zy (h c s σ _ _ f (b o)) λu k ⟨v,m,d,r,g,q⟩=>{v,_,d.dn g ĕe,r,q}
def T8(ok:wK P w H h)(e:H a=À Ϛ)(d:ŀa=.dict es ep):éa=Å/\∃vs,KV kvs vs/\Ũi ķa a vs ep:=by let{g,z,y,vs,r,j,b,i,f,c}:=(show xV P w H h a Ϛ from ok a _ e);rw[g]at f;cases f;show{y,vs,r,o,b,g,c.1,?_,c.2.2};let e1:=c.2.1;rw[d]at e1;cases e1;show d
theorem KC:∀{kvs:Á ϖ} {vs:Á Ĳa} {i:Â} {k:zY} {x:Value},KV kvs vs->vs[i]?=À (k,x)->∃u,kvs[i]?=À (k,u)/\yB u x
 |_,_,_,_,_,.nil,e=>by cases e|_,_,0,_,_,.cons r t,e=>by cases e;let{a,b}:=r;show{_,Ÿ À (Prod.ext a rfl),b}
 |_,_,i+1,_,_,.cons _ t,e=>KC (i:=i) t ųa
#print L2
namespace L3
open ķ ņ ϴ ĺ L2
structure Tw(a:Ì)(kvs:Á ϖ)(G G':Hp):È where
 ne:∀b,b≠a->G' b=G b
 l:Rd G a Ō
 r:Rd G' a Ō
section
variable{K:Ð}{a:Ì}{o:Obj}{kvs:Á ϖ}{G G' H H' G0 H0:Hp}
def Rd.tw(t:Tw a kvs G G')(c:∀ob v,u≠.yI ob v)(h:Rd G b u):Rd G' b u:=by
 rw[Ďp]
 let e:u=.dK kvs:=by rcases h with h|⟨ob,h⟩<;>rcases t.l with l|⟨oc,l⟩<;>rw[l]at h;cases h;rfl;cases h;show Þ rfl (c oc _);cases h;cases h;rfl
 rw[e];show t.r;rcases h with h|⟨ob,h⟩;show .inl (by rw[Áq]);show .inr {ob,by rw[Áq]}
theorem Tw.at{b:Ì}{u:HO}(t:Tw a kvs G G')(h:G b=À u)(d:u≠.dK kvs)(c:∀o,u≠.yI o Ō):G' b=À u:=by rw[Ďp];rcases t.l with l|⟨oc,l⟩<;>rw[l]at h;cases h;show Þ rfl d;cases h;show Þ rfl (c oc);rw[Áq]
theorem za.tw(t:Tw a kvs G G'):∀{d:D}{v:V},za K G d v->za K G' d v:=λ{d}=>by show ώc (P:=λd=>∀v,za K G d v->za K G' d v) óo Ĝn Ěn ęn ?_ ?_ ?_ ?_ ?_ d _;rw[Ŋp];rcases q with q|q;show .inl ŋm;show .inr q;rw[Ŋp];rcases q with q|q;show .inl ŋm;show .inr q;rintro k g c v ⟨b,f,e,q,z,r,l⟩;show{b,f,e,Rd.tw t ók q,z,Ïb c r,l};rintro x v ⟨b,C,e,n,h⟩;show{b,C,e,n,t.at h Ěa ça};rintro x m g c v ⟨b,C,j,f,e,n,h,l,r⟩;show{b,C,j,f,e,n,t.at h Ěa ça,l,Ïb c r}
theorem Reps.tw(t:Tw a kvs G G')(h:â K G ds vs):â K G' ds vs:=Ïb (λ_ _ _=>za.tw t) h
theorem xz.tw(t:Tw a kvs G G')(f:H' p=H p)(b:xz K G H d p):xz K G' H' d p:=by
 cases d with
 |lst ds=>let{c,e,r,l}:=b;show{c,by rw[f];show e,r.tw t,l}
 |dic ks ds=>let{c,e,z,r,l}:=b;show{c,by rw[f];show e,z,r.tw t,l}
 |_=>show b.elim
def SN(e:G a=À Ō):Tw a kvs G Ϻd:={λb c=>z_ c,.inl e,.inr {o,yX}}
def D5(e:G a=À Ϛ):Tw a kvs G (zT G a Ō):={λb c=>z_ c,.inr {o,e},.inl yX}
nonrec def WG(a:Ì)(f:HO)(H0:Hp):Hp:=λb=>if b=a then(H0 a).bind λ_=>À f else H0 b
def rP(h:b≠a):WG a f H0 b=H0 b:=Ó h
def D6:WG a f H0 b=Ä↔H0 b=Ä:=by
 unfold WG;by_cases h:b=a;subst h;rw[Ò rfl];cases H0 b with
 |Ä=>show{λ_=>rfl,λ_=>rfl}|À u=>show{λz=>(nomatch z),λz=>(nomatch z)}
 rw[Ó h]
theorem x8c(h:WG a f H0 a=À u):u=f:=by
 unfold WG at h;rw[Ò rfl]at h;cases e:H0 a with
 |Ä=>rw[e]at h;cases h|À w=>rw[e]at h;cases h;rfl
def zx.up(E:zx K n G0 H0 G H τ σ)(e:G a=À Ō):zx K n Ϻd śh Ϻd ďf τ σ:=by
 let t:=SN (o:=o) e;show{{Ķa _,λb u h=>?_,O4 Äa,λ_ h=>.inl h},ĸ,Ģ,λi d h=>?_,λi d h=>?_,Ϧa};rw[Ďp];rw[yX,x8c h];rw[rP hb]at h;rw[z_ hb];show čb _ _ h;let{v,c,r}:=æb i d h;show{v,c,r.tw t};let{p,c,g,z,j}:=ŋa i d h;let f:p≠a:=λz=>by subst z;rw[e]at g;cases g
 show{p,c,by rw[z_ f];show g,D6.mpr z,j.tw t (z_ f)}
def zS.WZ(x0:zS G0 H0 G H)(e:G a=À Ō)(x:zS Ϻd śh G' H'):G' a=À Ϛ/\H' a=À Ϛ/\zS G0 H0 ßn Ýn:=by let c:G' a=À Ϛ:=x.g _ _ yX;show{c,öa _ _ c,x0.rebase {λb u h=>?_,λb u h=>?_,O4 öa,λp h=>?_}};rw[Ďp];rw[e]at h;cases h;show yX;rw[z_ hb];show x.g _ _ (by rw[z_ hb];show h);rw[Ďp];let:=x0.h _ _ h;rw[x0.gh _ _ e]at this;cases this;show yX;rw[z_ hb];show x.h _ _ (by rw[rP hb];show h);by_cases hb:p=a;subst hb;show .inl Ϝc;rw[z_ hb]at h;rcases Œb p h with z|z;rw[z_ hb]at z;show .inl z;show .inr (D6.mp z)
theorem zx.WZ(E:zx K n G0 H0 G H τ σ)(e:G a=À Ō)(b:zx K n Ϻd śh G' H' τ' σ'):H' a=À Ϛ/\zx K n G0 H0 ßn Ýn τ' σ':=by
 let{j,k,x}:=E.ext.WZ e b.ext;let t:=D5 j;show{k,x,b.l1,b.l2,λi d h=>?_,λi d h=>?_,b.ap};let{v,c,r}:=b.fr i d h;show{v,c,r.tw t};let{p,c,g,z,l}:=b.ow i d h;let f:p≠a:=λz=>by subst z;rw[j]at g;cases g
 show{p,c,by rw[z_ f];show g,D6.mp z,l.tw t (z_ f)}
#print a
def Kn(K:Ð)(i:Â)(τ:yC)(σ:St)(G:Hp):È:=∃a o ks ds vs,τ[i]?=À Ϗg/\σ[i]?=À íe/\G a=À áh/\Ī=ö/\â K G ds vs/\ÿ<=ã
structure cT(X:Cx)(i:Â)(st:Ú)(f:FS):È where
 h:∃t,PS X st t/\∀{G0 H0 G H:Hp}{τ:yC}{σ:St}{fl:Fl}{E:ua},zx X.K ù G0 H0 G H τ σ->Kn X.K i τ σ G->f τ=À fl->tI X.K ù G0 H0 E fl->t E σ H
structure cS(X:Cx)(i:Â)(e:Õ)(f:FE):È where
 h:∃t,PE X e t/\∀{G0 H0 G H:Hp}{τ:yC}{σ:St}{d:D}{Q:VK},zx X.K ù G0 H0 G H τ σ->Kn X.K i τ σ G->f τ=À d->(∀p G' H',zS G H G' H'->H p=Ä->G' p=Ä->xz X.K G' H' d p->Q ϛ H')->t σ H Q
structure LZ(X:Cx)(i:Â)(tg ť:Õ)(f:FA):È where
 h:∃wi,PI X tg ť wi/\∀{G0 H0 G H:Hp}{τ:yC}{σ:St}{ds:Á D}{R:It->Hp->È},zx X.K ù G0 H0 G H τ σ->Kn X.K i τ σ G->f τ=À ds->(∀J G' H',zS G H G' H'->ÿ<=ã->jZ X.K J G' ds->R J H')->wi σ H R
def XB(i:Â)(f:yC->Ê α):È:=∀τ x,f τ=À x->∃ks ds,τ[i]?=À Ϗg
def x29{X:Cx}{i:Â}{st:Ú}{f:FS}(h:cT X i st f)(hk:XB i f):SS X st f:=by
 let{t,N,k}:=h.h;show{{_,y7o (i:=i) N,λ{S R G H τ σ Q E} K m q=>?_}};let{y,J,u}:=hk _ _ m;let{v,j,a,F,rfl,P,C,B,A}:=K.fr i _ u;show{a,j,?_};rcases P with e|⟨o,e⟩;rw[Óq];let O:=K.up (o:=o) e;show k O {a,o,y,J,F,u,j,yX,C,B.tw (SN e),A} m ?_;cases Q with
 |nx τ'=>show λσ' b c z=>let ⟨h1,h2⟩:=K.WZ e z;{h1,q σ' _ _ h2}|bk τ'=>show λσ' b c z=>let ⟨h1,h2⟩:=K.WZ e z;{h1,q σ' _ _ h2}|ct τ'=>show λσ' b c z=>let ⟨h1,h2⟩:=K.WZ e z;{h1,q σ' _ _ h2}|rt n d=>
  cases n with
  |Å=>intro v b c x r;let{g,l,s}:=K.ext.WZ e x;show{l,q v _ _ s (r.tw (D5 g))}
  |Ã=>
   intro p b c x L w n;let{g,l,s}:=K.ext.WZ e x;let I:p≠a:=λz=>by subst z;rw[g]at w;cases w
   show{l,q p _ _ s (D6.mp L) (by rw[z_ I];show w) (n.tw (D5 g) (z_ I))}
 show .inl {o,_,âa _ _ e,k K {a,o,y,J,F,u,j,e,C,B,A} m q}
def x1e(h:cS X i e f)(hk:XB i f):SF X e f:=by
 let{t,N,k}:=h.h;show{{_,y6u (i:=i) N,λ{W U G H τ σ d Q} K s q=>?_}};let{j,L,y}:=hk _ _ s;let{v,r,a,l,rfl,T,I,F,E}:=K.fr i _ y;show{a,r,?_};rcases T with e|⟨o,e⟩;rw[Óq];let S:=K.up (o:=o) e;show k S {a,o,j,L,l,y,r,yX,I,F.tw (SN e),E} s λp C O x B m P=>?_
 let R:H a=À _:=âa _ _ e;let n:C a=À (.yI o ĕh):=x.g _ _ yX
 let A:H p=Ä:=by by_cases z:p=a;subst z;rw[n]at m;cases m;rw[z_ z]at B;show B
 let J:p≠a:=λz=>by subst z;rw[n]at m;cases m
 show{öa _ _ n,q p (zT C a ĕh) (zT O a ĕh) {λb u c=>?_,λb u c=>?_,O4 öa,λb c=>?_} A (by rw[z_ J];show m) (P.tw (D5 n) (z_ J))};rw[Ϩp];rw[e]at c;cases c;show yX;rw[z_ z];show x.g _ _ ĳl;rw[Ϩp];rw[R]at c;cases c;show yX;rw[z_ z];show x.h _ _ ĳl;rw[Ϩp];show .inl Ϝc;rw[z_ z]at c;rcases Œb b c with w|w;rw[z_ z]at w;rw[Õq];rw[z_ z]at w;show .inr w;show .inl {o,_,âa _ _ e,k K {a,o,j,L,l,y,r,e,I,F,E} s q}
def x27(v:Ċd Ą X.A Ø Ĳ)(u:Ϗ=Ã)(hi:LZ X i tg ť fs)(hg:SG X tg fg)(R:qU X Ĕc g)(Z:Î (∀x,ðb ť Ø x=pure x) q11):cT X i ũg ĵn:=by
 rw[Ŕp];show{{_,NA v u pi Q pb Z,λ{G0 p G H τ σ s E} K C a q=>?_}};let{b,B,a}:=zH a;show O K C B λJ n Ha W _ f=>?_
 let r:=Ìa W;let k:=ϩi r.ext q;show{λi m σ H=>m=ϋ-i/\i<=ϋ/\∃τ G,zx X.K ù n p G H τ σ/\Zb fg g Âj τ=À s,{ϋ,rfl,Ϥ _,τ,n,r.zE,a},?_};rw[Ĉp];show .inr {f.go i G H ϑb âa hlt,λσ' c=>∃τ G,zx X.K ù n p G c τ σ'/\Zb fg g Įi τ=À s,λσ' c z=>{ϋ-ñ,űd _ _ hlt,rfl,hlt,z},λx c y=>?_};let{G3,d,U,t,rd}:=f.uY i G H x c ϑb âa hlt y;rw[êb hlt]at a;rw[ė hlt]at t;cases t;let{τ1,P,a}:=zH (show(fg _ τ).bind _=_ from a);let{f1,F,a}:=zH a;show S (Ìa U) rd P λσ1 K1=>T K1 F ?_
 cases f1 with
 |nx τ2=>show λσ2 l Y j=>{τ2,l,j,a}|ct τ2=>show λσ2 l Y j=>{τ2,l,j,a}|bk τ2=>cases a;show k|rt o d=>cases a;show ĝe k ça ça ça rfl
 rw[ϓp];show .inl {f.stop i G H ϑb âa É,k _ _ _ K}
def z3o(h:XB i fs):XB i ĵn:=λτ x c=>by let{b,a,_}:=zH c;show h τ b a
#print L3
namespace L2
open ķ ņ ϴ ĺ
nonrec def C1(a:Ì)(o:Obj)(kvs:Á ϖ):It:={λi H=>H a=À Ϛ/\i<ń,λi H v b=>b=H/\∃k,kvs[i]?=À (k,v),λi H=>H a=À Ϛ/\ń<=i}
def x6r{P:ë}{w:å}{K:Ð}{tg:Õ}{kvs:Á ϖ}{o:Obj}{es:Ü ĸb}{ep:Â}(a it:Ì)(d:ŀa=.dict es ep) :kF P w K tg Ōn ϥb it (λi h=>h.IsValIter it a i ń ep) where
 mem:=by simp
 obj:=λi h st b l=>by
  let e:b=it:=by simpa using l
  rw[øp]
 Ėa:=λi h q st k=>Ćg λo e=>k it è o e
 Ϥa:=by
  rw[ċp];let R:i<Íb:=by rw[m];show n.2
  let p:g[i]?=À (g[i].1,g[i].2):=ė R;let{u,Y,U}:=KC f p;let{F,J,T,x,C,t}:=r it è;rw[<-m]at st;show wpAny_pyNext_values_item st y p λq j S=>?_
  rw[m]at j;let O:zI X N σ H { s with ì:=q }:=Ŧa (t':=ĕ) (λb o l e=>(S.2 b l).trans e) F J x C t;let{o,e,c,d}:=id j;show{g[i].2,rfl,TC (s:={ s with ì:=q }) e c d Í {u,H,O,U,{rfl,_,Y},j,λb l=>(r b l).1}}
 done:=by rw[ċp];let p:g[i]?=Ä:=Ϫa (by rw[m];show n.2);let{F,J,T,x,C,t}:=r it è;rw[<-m]at st;show wpAny_pyNext_values_end Éj st y p λq Q=>{rfl,Ŧa (t':=ĕ) (λb o l e=>Q b o l e) F J x C t}
 ŕb:=λ_ _ _ _ _ st h=>wpAny_pyIter_valiter st h
def z7k(i:Â):TI:=λσ H R=>∃a o kvs,σ[i]?=À íe/\H a=À Ϛ/\R Ōn H
def y74{X:Cx}{tg:Õ}{x:Ç}{p d f:Pos}{i:Â}(Q:X.N[i]?=À x)(hv:qA ßa x)(K:Î ī q10)(z:Î Ĭa q10)(j:Î Īg q12)(k:Î Ϥk q12) :PI X tg (.Call (.Attribute øa "values" d) [] [] f) (z7k i):=by
 intro E s σ H R I A;let{a,o,m,W,e,A}:=A;show że j k (zy (kZ (pos:=p) Q hv K z E s σ H ãl I {_,W,rfl,rfl}) λv c ⟨y,l,u,U,e1,e2⟩=>?_);subst e1 e2;cases(show v=ċ a from U);let{g,_,_,_,_,Z,es,ep,J,_,h,_}:=(show xV ø X.w l ŵc a őm from u.zf a _ e);rw[g]at J;cases J;let{Y,C,t,G}:=T8 u.zf e h;let S:C.length=ϐa:=gZ t;let n:ņh ŧb a C:=G.dictOf
 let O:∀b,ċ a=.ref b->∃r,ód b=À r/\r.dict=Ä:=λb q=>by cases q;let{r,_,_,P,L,_}:=n;show{r,P,L.2.1}
 show{ϕ,_,Ϝe,ϖe,Ϫk,n.typeIs,O,Ϡc rfl ŷi};show żd ϖe n.typeIs ϓk ňk (ϱl ŧb a Y) {{C,n},?_};let B:zI X E σ l { c with ì:=Àe { cls:=.type Ŀh,Ċ:=.fields #[.ref a] } }:=u.kept (t':=Ŵc) λb o e=>Į _ e
 show wpAny_pyIter_values (knd:=xG ø X.w) (s:={ c with ì:=Àe { cls:=.type Ŀh,Ċ:=.fields #[.ref a] } }) {_,ž _ rfl,rfl,rfl} (G.push _) ?_;rw[S];show{_,[_],_,_,l,rfl,ēj (t':=Ŵc) λb o e=>Į _ e,x6r a _ h,{_,ž _ rfl,rfl,rfl},λb T=>?_,A};let e:=åa T;subst e;show B.Zy Đ (B.zf.fresh Đ)
#print L2
namespace L3
open ķ ņ ϴ ĺ L2
nonrec def TJ(i:Â):FA:=λτ=>match τ[i]? with
 |À (À (Å,.dic _ ds))=>À ds|_=>Ä
def z3r(i:Â):XB i (TJ i):=λτ x a=>by
 unfold TJ at a
 rw[ϊp]
def sR{ks:Á zY}{vs:Á V}{i:Â}{k:zY}{v:V}(h:İa[i]?=À (k,v)):ks[i]?=À k/\vs[i]?=À v:=by rw[List.getElem?_zip_eq_some]at h;show h
def z4a{K:Ð}{G:Hp}{a:Ì}{o:Obj}{ks:Á zY}{ds:Á D}{vs:Á V}(j:Ī=ö)(e:G a=À áh)(h:â K G ds vs):jZ K (C1 a o İa) G ds where
 go:=λi g H b c f=>{c _ _ Çp,by rw[Įa,j,ıa,ïc];show f}
 uY:=λi g H x p b c f y=>by let{rfl,k,n}:=y;let{d,m,l}:=h.at (sR n).2;show{g,d,Ąa c,m,åg b}
 Ŵ:=λi g H b c f=>{c _ _ Çp,by rw[Įa,j,ıa,ïc];show f}
def x1k(r:X.N[i]?=À x)(hv:qA ßa x)(g:Î ī q10)(f:Î Ĭa q10)(b:Î Īg q12)(c:Î Ōa q12):LZ X i tg ùk (TJ i):=by show{{_,y74 r hv g f b c,λ{t w G H τ σ y R} K h d q=>?_}};let{a,o,u,n,v,k,j,e,m,l,s}:=h;unfold TJ at d;rw[k]at d;cases d;show{a,o,_,j,âa _ _ e,q _ _ _ êe s (z4a m e l)}
def z3q(h:XB i fs):XB i (wd n fs fg ft f):=λτ x c=>by let{b,a,_}:=zH c;show h τ b a
section
variable{X:Cx}{i:Â}{tg ť elt:Õ}{ifs:Á Õ}{Ĺ:Ûa}{cl:Á Ša}{own:Á Ç}{pos:Pos}{fs:FA}{fg:FG}{ft:FT}{f:FE}{g:TG}
def x1c(a:Ϗ=Ã)(B:Z_ X Ĺ cl own)(hi:LZ X i tg ť fs)(m:BG X Ĺ cl own tg g fg)(n:∀C s H fp pn,Wz Àa ifs ft)(v:∀C s H fp pn,SE Àa elt f)(z:Î (∀x,ðb ť Ø x=pure x) q11) :cS X i çb Ϲe:=by
 let{T,E,t}:=ϡb;show{{_,lT a B E (Οb (m.q C s H fp pn)) (Νb (n C s H fp pn)) (Λc Ĺm) z,λ{P O G H τ σ d Q} K r b q=>?_}};let{U,o,b}:=zH b;let{I,w,b}:=zH b;cases b;show t K r o λJ S L j l u=>Mz u l Ãg w (m.k K.l2 K.l1) λF R N c A y p e=>?_
 show q p _ _ (j.trans ύl) (j.h.free (ϋf e)) (řf e) {F,yX,A,y}
#print a
#print L3
namespace L2
open ķ ņ ϴ ĺ
def Fz(a:Ì)(o:Obj)(kvs:Á ϖ):It:={λi H=>H a=À Ϛ/\i<ń,λi H v b=>∃p k u,H p=Ä/\v=.ref p/\kvs[i]?=À (k,u)/\b=zT H p Ĕh,λi H=>H a=À Ϛ/\ń<=i}
def x6q{P:ë}{w:å}{K:Ð}{x:Á Õ}{kk:Â}{pos:Pos}{kvs:Á ϖ}{o:Obj}{es:Ü ĸb}{ep:Â}(a it:Ì)(d:ŀa=.dict es ep) :kF P w K (.Tuple x kk pos) ŉn ϥb it (λi h=>∃ok ov,IsItemIter h it a i ń ep ok ov) where
 mem:=by simp
 obj:=λi h st b hb=>by
  let e:b=it:=by simpa using hb
  subst e;let{ok,ov,g}:=st;show{_,g,λv q=>nomatch q}
 Ėa:=λi h h' st k=>by let{ok,ov,g}:=st;show{ok,ov,k it è _ g}
 Ϥa:=by
  rw[āp];let hi:i<Îb:=by rw[r];show A.2
  let G:f[i]?=À (f[i].1,f[i].2):=ė hi;let{u,hk,ru}:=KC j G;let n:it<ß:=ħ g;rw[<-r]at g;show wpAny_pyNext_items_item g N G λp O B ho ht hz T=>?_
  show{_,rfl,wpAny_letOwnedTupleGo_items (s:={ s with ì:=O }) ho λF C l=>?_}
  replace l:öb it O F:=l
  let S:ć ß=Ä:=by
   cases q:ć ß with
   |Ä=>rfl|À o=>show Þ įe Êa
  let y:H ß=Ä:=Ģb Đ;let L:F.get? ß=À { cls:=.type ŷ,Ċ:=.seq #[p,f[i].2] }:=ŏc _ _ (Ϲa n) ht
  let kk:∀c o,c ∉ ϥb->ć c=À o->F.get? c=À o:=λc o m z=>by
   let t:c≠it:=λq=>m ϵj
   show ŏc _ _ t (T c o t z)
  let Z:xV ø X.w (zT H ß ϥg) F ß ϥg:={ŷg,[p,f[i].2],.cons (i3 B) (.cons ru .nil),{_,L,rfl,_,rfl}};rw[r]at C;show{.ref ß,zT H ß ϥg,I.F3 (tk:=ĕ) J kk S y Z,rfl,{ß,_,u,y,rfl,hk,rfl},{p,_,C},λc m=>?_};rw[z_];show(J c m).1;intro q;let e:c=it:=by simpa using m
  rw[e]at q;rw[q]at n;show Þ n Êa
 done:=by rw[āp];let G:f[i]?=Ä:=Ϫa (by rw[r];show A.2);rw[<-r]at g;show wpAny_pyNext_items_end (Ģa m) g N G λO R=>{rfl,I.but (tk:=ĕ) J λc ob U eb=>R c ob (λq=>U ϵj) eb}
 ŕb:=λ_ _ _ _ _ st h=>by let{ok,ov,g}:=st;show W.kcp_self g h
def z7j(i:Â):TI:=λσ H R=>∃a o kvs,σ[i]?=À íe/\H a=À Ϛ/\R ŉn H
def y73{X:Cx}{r:Á Õ}{kk:Â}{n:Pos}{x:Ç}{p d f:Pos}{i:Â}(T:X.N[i]?=À x)(hv:qA ßa x)(O:Î ī q10)(B:Î Ĭa q10)(j:Î ϩj q12)(k:Î Ϥk q12) :PI X (.Tuple r kk n) (.Call (.Attribute øa ű d) [] [] f) (z7j i):=by
 intro J s σ H R I C;let{a,o,m,Z,e,C}:=C;show że j k (zy (kZ (pos:=p) T hv O B J s σ H ãl I {_,Z,rfl,rfl}) λv c ⟨y,l,A,Y,e1,e2⟩=>?_);subst e1 e2;cases(show v=ċ a from Y);let{g,_,_,_,_,o',es,ep,L,_,h,_}:=(show xV ø X.w l ŵc a őm from A.zf a _ e);rw[g]at L;cases L;let{lo,G,z,K}:=T8 A.zf e h;let U:G.length=ϐa:=gZ z;let t:ņh ŧb a G:=K.dictOf
 let Q:∀b,ċ a=.ref b->∃u,ód b=À u/\u.dict=Ä:=λb q=>by cases q;let{u,_,_,S,P,_}:=t;show{u,S,P.2.1}
 show{ϕ,_,Ϝe,Ål,PySem.F.type_dict_items,t.typeIs,Q,Ϡc rfl ŷi};show żd Ål t.typeIs PySem.F.entry_dict_items (PySem.F.args_dict_items_1 _) (meets_dict_items ŧb a lo) {{G,t},?_};let E:zI X J σ l { c with ì:=Àe { cls:=.type þn,Ċ:=.fields #[.ref a] } }:=A.kept (t':=Ŵc) λb o e=>Į _ e
 show wpAny_pyIter_items (knd:=xG ø X.w) (s:={ c with ì:=Àe { cls:=.type þn,Ċ:=.fields #[.ref a] } }) {_,ž _ rfl,rfl,rfl} (K.push _) ?_;rw[U];show{_,[_],_,_,l,rfl,E.kept (t':=Ŵc) λb o e=>Į _ e,x6q a _ h,{_,_,ž _ rfl},λb W=>?_,C};let e:=åa W;subst e;show E.Zy Đ (E.zf.fresh Đ)
#print L2
namespace L3
open ķ ņ ϴ ĺ L2
def Yf(ks:Á zY)(ds:Á D):Á D:=ób (λk d=>œb [TQ k,d]) ks ds
def TH(i:Â):FA:=λτ=>match τ[i]? with
 |À Ϗg=>if æg Yc=Ã then À Ęo else Ä|_=>Ä
def z3p(i:Â):XB i (TH i):=λτ x a=>by
 unfold TH at a
 rw[ϊp]
def z3n{K:Ð}{G:Hp}{a:Ì}{o:Obj}{ks:Á zY}{ds:Á D}{vs:Á V}(w:Ī=ö)(e:G a=À áh)(l:â K G ds vs)(h:æg Yc=Ã):jZ K (Fz a o İa) G Ęo where
 go:=λi j H g c b=>{c _ _ Âp,by rw[ŧp]}
 uY:=λi j H x z g c b y=>by let{p,k,u,m,rfl,t,rfl}:=y;let{f,r}:=sR t;let{d,v,s}:=l.at r;show{zT j p Ĕh,.tup [TQ k,d],ďb c m,?_,?_};unfold Yf;rw[Ϥe,f,v];let q:zm G (zT j p Ĕh):=Ūc Óm;show{p,[kV k,u],rfl,őb yX,{_,_,rfl,i4 (Ϯa h k (ϴb f)),{u,_,rfl,ļe q,rfl}},L2.small (n:=2) Í}
 Ŵ:=λi j H g c b=>{c _ _ Âp,by rw[ŧp]}
def x1j(t:X.N[i]?=À x)(hv:qA ßa x)(k:Î ī q10)(j:Î Ĭa q10)(b:Î ϩj q12)(f:Î Ōa q12):LZ X i (.Tuple elts kk tpos) (Φa (.Attribute øa ű Ϻ)) (TH i):=by
 show{{_,y73 t hv k j b f,λ{w z G H τ σ v R} K l d q=>?_}};let{a,o,g,h,y,n,m,e,s,r,u}:=l;unfold TH at d;rw[n]at d
 change (if g.all Yc=Ã then À (Yf g h)else Ä)=À v at d
 by_cases c:g.all Yc=Ã;rw[Ò c]at d;cases d;show{a,o,_,m,âa _ _ e,q _ _ _ êe ?_ (z3n s e r c)};unfold Yf;rw[Ϲb];show İ çe u;rw[Ó c]at d;cases d
#print L3
namespace L2
open ķ ņ ϴ ĺ
def y0i(a d:Value):êg Ýb {[a],[(ώd,d)]}:=by unfold êg;kernel_rfl
section
variable{Ĝ:ë}{w:å}{A:þ}{R:ŷc->Ï->È}{I:Ì}{fp wr:Á Ì}{n:Â}{P:Â->Value->È}{St:Â->Heap->È}{kw:Á įb}
def B6:(ši Ýb ++ ši ".loop" : ϗ) = Ëi:=by decide
theorem Kj(W:Walks Ĝ w ϑ I fp wr n P St)(r:Â->Â->Ñ)(i:CmpOf Ĝ w ϑ .Gt P r)(S:Ì)(p:S ∉ fp):∀(k j:Â)(s:Ï)(vb:Value)(c:Â),n-ϸ=k->j+1<=n->St ϸ á->P İi vb->
  ć S=À { cls:=.type Ġ,dict:=Ä,Ċ:=.seq #[vb,vb] c,čc:=#[] }->(∀v h' tk,P (Řc r ŝe) v->(∀b o,b ∉ wr->b≠S->ć b=À o->ġ b=À o)->R àp { s with ì:=h',Ę:=tk })->
  Òb í A (.builtin Ëi {ĉl,kw}) R s
 |k,j,s,vb,c,hk,hj,hst,hPb,hS,hR=>by
  let y:S ∉ wr:=λh=>p Æo
  show ϰc Ül ?_;rw[Şd ϭc _]
  change Ý _ ϑ όk _ _ s
  show Ö (ìb hS rfl ?_)
  change Ý _ ϑ úk _ _ s
  match k,hk with
  |0,hk=>
   let z:j+1=n:=by omega
   show Ö (ϳc (W.done s _ _ (z▸hst) λh' tk d=>?_));let m:=d S _ y hS
   change Ý _ ϑ (Ρe ôo) _ _ _
   show Ö (Ϡe m rfl Ϩo);show hR vb _ tk (by rw[<-z];show hPb) λb o a f e=>(În).trans īf
  |k+1,hk=>
   let x:j+1<n:=by omega
   show Ö (ϳc (Ċj ϸ s _ _ x hst λv h' tk E q d=>?_));let m:=d S _ y hS
   change Ý _ ϑ (tryCatch (holding [v,v] (richCompare .Gt v vb >>= _)) _ >>= _) _ _ _
   show Ö (ϳc (ϭa (Ö (i ϸ İi v vb _ _ _ E hPb (Ö (ϭa (ϩc Ϩo)))))));cases hb:r ϸ İi with
   |Ã=>simp only[ś];show Ö (Ϡe m rfl (Ö (Ŵe ?_)));rw[B6];refine ę {Ϻc ϭc _,Kj W r i S p k ϸ _ v _ É x (ϳi _ _ _ q λb C o e=>?_) (by simp only[Řc,hb,ś];show E) (ϥe _ m rfl) λB u l t g=>?_};show(γb (λh:S=b=>p (by rw[h];show C))).trans e;show hR B u l t λb o a f e=>g b o a f ((În).trans īf)|Å=>simp only[Ğb,Ϧ];show Ö (Ŵe ?_);rw[B6];refine ę {Ϻc ϭc _,Kj W r i S p k ϸ _ vb c É x q (by simp only[Řc,hb,Ğb,Ϧ];show hPb) m λB u l t g=>?_};show hR B u l t λb o a f e=>g b o a f īf
def y0j(W:Walks Ĝ w ϑ I fp wr n P St)(x:Â->Â->Ñ)(j:CmpOf Ĝ w ϑ .Gt P x)(S:Ì)(f:S ∉ fp)(p:St 0 á)(C:ć S=À { cls:=.type Ġ,dict:=Ä,Ċ:=.seq #[] c,čc:=#[] })(B:∀v h' tk,Ϲn->(0<n->P (Řc x ŝe) v)->(∀b o,b ∉ wr->b≠S->ć b=À o->ġ b=À o)->R àp { s with ì:=h',Ę:=tk }) :Òb í A (.builtin Ëi {ĉl,ľf}) R s:=by
 let r:S ∉ wr:=λh=>f Æo
 show ϰc Ül ?_;rw[Şd ϭc _]
 change Ý _ ϑ όk _ _ s
 show Ö (ìb C rfl ?_)
 change Ý _ ϑ úk _ _ s
 by_cases hn:n=0;subst hn;show Ö (ϳc (W.done s _ _ p λh' tk d=>?_))
 change Ý _ ϑ (rule _ >>= _) _ _ _
 show Ö (Ád ýb);show B dv _ tk âc (λz=>Þ z Êa) λb o a g e=>d b o a e;let l:0<n:=by omega
 show Ö (ϳc (Ċj 0 s _ _ l p λv h' tk G k d=>?_));let q:=d S _ r C
 change Ý _ ϑ (Ρe (λ_=>#[v,v])) _ _ _
 show Ö (Ϡe q rfl ?_);rw[B6];show ę {Ϻc ϭc _,Kj W x j S f _ 0 _ v _ rfl l (ϳi _ _ _ k λb y o e=>?_) G (ϥe _ q rfl) λE u m t i=>?_};show(γb (λh:S=b=>f (by rw[h];show y))).trans e;show B E u m (λz=>Þ z hn) (λ_=>t) λb o a g e=>i b o a g ((Ín).trans īf)
#print a
section
variable{Ĝ:ë}{w:å}{A:þ}{E:Value->Ï->È}{s:Ï}
def x6m{a:ϗ}{b:Ϻi}{ϫ:Á Value}{c:Á įb}{Q:Value->Ï->È}(hk:builtinKind a=Ä)(h:plainId a=Ã)(i:entryFor table a=À b)(j:êg a {ϫ,c})(g:Ý í ϑ (b {ϫ,c}) (λfin s'=>match fin with
   |.done f=>(match(Except.ok f:ŷc)with|.ok ãe=>Q v s'|.ok _=>î|.error e=>E e s')
   |.again c'=>c'.quiet=Ã/\Òb í A c' (λr s'=>match r with|.ok ãe=>Q v s'|.ok _=>î|.error e=>E e s') s') E s):Ý í A (ŉa (.builtin a) ϫ c) Q E s:=by
 show Öf (codeAny_call_builtin h i ?_);simp only[checkBuiltinCall,hk];cases hsig:Manifest.signature? a with
 |Ä=>show ę g|À sig=>
  let d:Bind.checkArgs a sig {ϫ,c}=pure ():=by simpa only [êg,hsig]using j
  simp only[d];show ę g
def z2x
  (h:Ý í ϑ (Ľe x) (λit s₂=>∃I fp wr n P St bt,it=.ref I/\Walks Ĝ w ϑ I fp wr n P St/\St 0 s₂.heap/\(∀b∈fp,b<ϧg)/\CmpOf Ĝ w ϑ .Gt P bt/\
   ∀v h' tk,Ϲn->(0<n->P (Řc bt ŝe) v)->(∀b o,b ∉ wr->s₂.heap.get? b=À o->ġ b=À o)->Q v { s₂ with ì:=h',Ę:=tk }) E s) :
  Ý í A (ŉa ϥm [x] ľf) Q E s:=by
 show x6m PySem.F.kind_max PySem.F.plain_max PySem.F.entry_max (y0i _ _) ?_
 change Ý _ ϑ (Ůk Ýb ϔn 0 {[],ľf} >>= _) _ _ s
 show Ö (Ëf (show Ůk Ýb ϔn 0 {[],ľf}=pure [Ä,À dv]from rfl) ?_);show Ö (Μa (ăa h (λit s₂ l=>?_) λ_ _ e=>e));let{I,fp,wr,n,P,St,bt,rfl,W,g,f,a,i}:=l;show Ö (Ğc ?_);let d:ϧg ∉ fp:=λp=>èb _ (f _ p)
 rw[B6];show ę {Ϻc ϭc _,y0j W bt a ϧg d (ϳi _ _ _ g λb _ o e=>Į _ e) æd λv h' tk j k m=>?_};show i v h' tk j k λb o c e=>m b o c Ĵi ťf
#print a
section
variable{X:Cx}
nonrec def ϐc:Á Æ->Æ
 | []=>0|x::xs=>þe Śd x
theorem iQ:∀(xs:Á Æ)(x:Æ),(þe Śd x=x\/þe Śd x∈xs)/\x<=þe Śd x/\∀y∈xs,y<=þe Śd x
 | [],x=>{.inl rfl,Ċa _,λy h=>Þ h è}|z::xs,x=>by
  let{a,b,c}:=iQ xs ϒg;let e:x<=if x<z then z else x:=by rw[īp]
  let f:z<=if x<z then z else x:=by rw[īp]
  show{?_,ëd e b,λy d=>?_};rcases a with a|a;by_cases q:x<z;rw[Ò q]at a
  right
  exact Ād _ ϒg xs∈z::xs;rw[Ò q,a];show Ł;left
  rw[Ó q]at a;exact Ād _ ϒg xs=x;rw[Ó q,a];show .inr ďd;rcases Ň d with rfl|d;show ëd f b;show c y d
def z9x(h:xs≠[]):ϐc xs∈xs/\∀y∈xs,y<=ϐc xs:=by
 cases xs with
 |nil=>show Þ rfl h|ï x xs=>let{a,b,c}:=iQ xs x;show{?_,λy d=>?_};rcases a with a|a;exact Ād _ x xs∈_;rw[a];show Ł;show Üa _ a;rcases Ň d with rfl|d;show b;show c y d
def Ňo(h:m∈xs)(c:∀y∈xs,y<=m):m=ϐc xs:=by let{a,b}:=z9x (xs:=xs) (λz=>by rw[z]at h;show Þ h è);let:=b m h;let:=c _ a;omega
def x2w(K:Ð)(c b:TE):TE:=λσ H Q=>c σ H λx d=>b σ d λz a=>∃(p:Ì) (ns:Á Æ),x=.ref p/\yc K a p Ća/\Q ük a
def mT(K:Ð)(x:V)(Q:VK):Á V->Hp->È:=λb a=>match b with
 | [z]=>∃(p:Ì) (ns:Á Æ),x=.ref p/\yc K a p Ća/\Q ük a|_=>î
def y87(K:Ð)(a:TE)(σ:St)(Q:VK):Á V->Hp->È:=λc d=>match c with
 | [x]=>a σ d λz b=>mT K x Q [z] b|_=>î
def y6p(f:Ϗ=Ã)(hg:Gl X Ýb)(hm:ó Ýb=Ä)(ha:PE X a ta)(hd:PE X e td)(P:Î őg q12) :PE X ϕj (x2w X.K ta td):=by
 intro S s σ H Q I h;let pa:PA X [a] (Q4 ta Yo):=lM ha jw P;let pk:PK X [{À ώd,e,kp}] (Q4 td Yo):=lg hd lh;show Ϧc (VQ I hg hm z2h ?_);show PyProof.Rows.callWith_kw (zy (pa pos S s σ H (y87 X.K td σ Q) I h) λus s1 ⟨vs,H1,I1,R,G⟩=>?_) ϗm ϗm
 match vs,R,G with
 | [x],R,G=>
  let{u,rfl,ru}:=qK R;show zy (pk pos S s1 σ H1 (mT X.K x Q) I1 G) λws A ⟨zs,U,B,N,O⟩=>?_
  match zs,N,O with
  | [z],N,O=>
   let{dv,rfl,rd}:=qK N;let{l,c,rfl,hq,q}:=O;cases(show u=ċ l from ru);let F:=B.ok.hd f;let{d,E,J,hz}:=B.list hq;let Y:ťa=ğh:=by let:=E.length;rw[æ]at this;rw[ģ];rw[ņp]
   let r:l<îh:=by let{o,n,e,_}:=J;show ħ e
   show z2x ?_;show Ϫc J.isList ?_;refine{_,_,_,_,_,_,_,rfl,Þi (by show F) îh l (ϣ r) d.toArray,{{_,ž _ rfl,rfl,rfl},J.isList.push _},?_,CmpOf.ints_gt Ìm (λi v hv=>DA E hv),?_};intro b T;exact b<(A.heap.push _).objs.size;rw[Ĩb];simp only[Ŗa,Ăa,ώa]at T;rcases T with rfl|rfl;show ϭb _;show Èd r;intro v h' W h0 hP k
   let kp:∀b o,A.heap.get? b=À o->ġ b=À o:=λb o L=>k b o (λz=>by
    let:b=îh:=by simpa using z
    rw[this]at L;show Þ (ħ L) Êa) (Į _ L)
   by_cases e0:c=[];rw[Ò e0]at q;have:v=dv:=h0 (by rw[<-Y,e0];rfl);subst this;show{z,U,ēj (t':=W) kp,rd,q};rw[Ó e0]at q;let w:0<ťa:=źg e0;have C:=hP (by rw[<-Y];show w);let{t,rfl}:=DA E C;let{b1,b2}:=argBest_gt Ìm (ğh-1);generalize Řc (λi j=>decide (Ćj i 0>Ćj j 0)) (ğh-1)=m at *;let g:m<ťa:=by omega
   let em:Ćj m 0=ϐc c:=by
    show Ňo ?_ λy hy=>?_;rw[Ϭ,ė g];show ñb g;let{j,Z,rfl}:=Él hy;let:=b2 j É
    rwa [Ϭ,ė Z]at this
   show{.int (ϐc c),U,ēj (t':=W) kp,{t,by rw[<-em]},q}
#print a
#print L2
namespace L3
open ķ ņ ϴ ĺ L2
nonrec def YQ:Á D->Ê Ŧf
 | []=>À []|.int i::r=>(YQ r).bind λa=>À ĩj|_::_=>Ä
theorem Hw{K:Ð}{G:Hp}:∀{xs:Á D}{ns:Á Æ}{vs:Á V},YQ xs=À ns->â K G xs vs->vs=Œa όc
 | [],ns,vs,h,r=>by cases h;show(show vs=[]from r)|.int i::xs,ns,vs,h,r=>by let{d,c,h}:=zH (show(ðj).bind _=_ from h);cases h;let{v,e,rfl,a,b}:=r;cases(show v=.int i from a);rw[Hw c b];rfl
 |.zC::_,_,_,h,_=>by cases h|.bl _::_,_,_,h,_=>by cases h|.str _::_,_,_,h,_=>by cases h|.tup _::_,_,_,h,_=>by cases h|.lst _::_,_,_,h,_=>by cases h|.dic _ _::_,_,_,h,_=>by cases h|.exc _::_,_,_,h,_=>by cases h|.obj _ _ _::_,_,_,h,_=>by cases h
theorem fZ:∀ns:Á Æ,YQ Åb=À ns
 | []=>rfl|n::ns=>by exact(YQ Åb).bind _=_;rw[fZ ns];rfl
def GJ:D->D->Ê D
 |.lst xs,z=>(ðj).bind λa=>À (if a=[]then z else .int (ϐc a))|_,_=>Ä
def x0x{X:Cx}{a e:Õ}{n m:FE}{p kp pos:Pos}(f:Ϗ=Ã)(I:Gl X Ýb)(P:ó Ýb=Ä)(L:SE X a n)(s:SE X e m)(B:Î ăd q12):SE X ϕj (e2 GJ n m):=by
 let{Y,A,N}:=L.h;let{T,C,O}:=s.h;show{{_,y6p f I P A C (qJ B),λ{U S G H τ σ d Q} E b q=>?_}};let{x,t,b}:=zH b;let{z,y,b}:=zH b;show N E t λv W R g K=>?_
 show O (ĩa g) y λu j k i F=>?_
 cases x with
 |lst xs=>let{o,r,b}:=zH b;cases b;let{l,Z,rfl,w,J,_}:=K;let e:=Hw r J;subst e;show{l,o,rfl,uB (g.gh.trans i.h) w,?_};by_cases c:o=[];rw[Ò c];rw[Ò c]at q;show q u j k (Ūc i) F;rw[Ó c];rw[Ó c]at q;show q _ j k (Ūc i) rfl
 |_=>cases b
nonrec def GI:Á D->Ê D
 | [.dic ks _]=>À (.int Ī)|_=>Ä
def z2s:vn X Ôd ťj:=by intro f s σ H xs g Q I r h;let{a,kvs,rfl,c,q}:=h;let{u,rfl,d}:=qK r;cases d;show z3j I c λt e b=>{.int ń,H,b,{t,rfl},q}
def y4n{K:Ð}:Uo K ťj GI:=λG H j h d Q s r b q=>by
 rcases j with _|⟨x_,r_⟩;cases b
 cases x_<;>first|(cases b;done)|skip
 cases r_<;>first|(cases b;done)|skip
 rename_i k xs;cases b;let{v,c,rfl,f,g}:=r;cases(show c=[]from g);let{a,h,rfl,i,e,l,_}:=f;show{a,_,rfl,i,?_};rw[Įa,<-e,ıa];rw[Ŭp]
#print L3
namespace L3
open ķ ņ ĺ L2
inductive M where
 |fz (d:D)|own (d:D)|obj (x:Ç) (fs:Á Ç) (ms:Á M)|tab (ks:Á ğ) (ms:Á M)|tp (b:Ñ) (ms:Á M)
nonrec def x21(b:Ñ)(ds:Á D):D:=match b with
 |Ã=>.lst ds|Å=>.tup ds
mutual
nonrec def vV:M->D
 |.fz d=>d|.own d=>d|.obj x fs ms=>.obj x fs ãc|.tab ks ms=>.dic ks ãc|.tp b ms=>x21 b ãc
nonrec def ϊc:Á M->Á D
 | []=>[]|m::ms=>vV m::ϊc ms
end
nonrec def ϙ{κ α:Type}[ũb κ]:Á κ->Á α->κ->Ê α
 |k'::ks,v::vs,k=>if k'=k then À v else ϙ ks vs k|_,_,_=>Ä
nonrec def uh{κ α:Type}[ũb κ]:Á κ->Á α->κ->α->Á α
 |k'::ks,v::vs,k,y=>if k'=k then y::vs else v::uh ks vs k y|_,vs,_,_=>vs
def Rj{κ α:Type}[ũb κ]{k:κ}{y:α}:∀{ks:Á κ}{ms:Á α},(uh ks ms k y).length=ů:=λ{ks}=>by
 induction ks with
 |nil=>intro ms;rfl|ï k' ks ih=>
  intro ms;cases ms with
  |nil=>rfl|ï y ms=>
   unfold uh
   split;rfl;rw[Ě,Ě,ih]
inductive xZ where
 |at(cs:Á Ç) (f:Ç)|ky (k:Sum Æ Ç)|ix (k:Â)
def oi:M->xZ->Ê M
 |.obj x fs ms,.at cs f=>if x∈cs then ϙ fs ms f else Ä|.tab ks ms,.ky k=>ϙ ks ms k|.tp Ã ms,.ix k=>ϙ ëe ms k|_,_=>Ä
def x14:M->xZ->M->M
 |.obj x fs ms,.at _ f,m=>.obj x fs (uh fs ms f m)|.tab ks ms,.ky k,m=>.tab ks (uh ks ms k m)|.tp b ms,.ix k,m=>.tp b (uh ëe ms k m)|m,_,_=>m
def uQ:M->Á xZ->Ê M
 |m,[]=>À m|m,s::π=>(oi m s).bind λa=>uQ a π
def ug:M->Á xZ->M->Ê M
 |_,[],m'=>À m'|m,s::π,m'=>(oi m s).bind λa=>(ug a π m').bind λb=>À (x14 m s b)
abbrev Ft:=Ì->È
def SqB(K:Ð)(G:Hp)(b:Ñ)(p:Ì)(vs:Á V):È:=match b with
 |Ã=>G p=À đd|Å=>xF K G p vs
def x1z{K:Ð}{G a:Hp}{b:Ñ}{p:Ì}{vs:Á V}(g:zm G a)(h:SqB K G b p vs):SqB K a b p vs:=match b with
 |Ã=>g _ _ h|Å=>uJ g h
mutual
def xL(K:Ð)(G H:Hp):M->V->Ft->È
 |.fz d,v,L=>za K G d v/\∀q,¬ L q|.own d,v,L=>∃p,v=.ref p/\xz K G H d p/\∀q,L q↔q=p|.obj x fs ms,v,L=>∃p C dx vs L',v=.ref p/\ų K Ĕ x=À ãa/\H p=À ϊg/\ša=ö/\Ņ K G H ms vs L'/\¬ L' p/\∀q,L q↔q=p\/L' q|.tab ks ms,v,L=>∃p vs L',v=.ref p/\H p=À ìp/\Ī=ö/\Ņ K G H ms vs L'/\ů<=ã/\¬ L' p/\∀q,L q↔q=p\/L' q|.tp b ms,v,L=>∃p vs,v=.ref p/\SqB K G b p vs/\Ņ K G H ms vs L/\ů<=ã
def Ņ(K:Ð)(G H:Hp):Á M->Á V->Ft->È
 | [],vs,L=>vs=[]/\∀q,¬ L q|m::ms,vs,L=>∃v r L1 L2,vs=v::r/\xL K G H m v L1/\Ņ K G H ms r L2/\(∀q,L1 q->L2 q->î)/\∀q,L q↔L1 q\/L2 q
end
def Ĕg{P:M->È}(i:∀d,P ôj)(own:∀d,P (.own d))(f:∀x fs ms,(∀m∈ms,P m)->P ĵh)(c:∀ks ms,(∀m∈ms,P m)->P œn)(k:∀b ms,(∀m∈ms,P m)->P (.tp b ms))(m:M):P m:=
 M.rec (motive_1:=P) (motive_2:=λms=>∀m∈ms,P m) i own (λx fs ms h=>f x fs ms h) (λks ms h=>c ks ms h) (λb ms h=>k b ms h) ϓl
  (λd l g a e j=>by rcases Ň j with z|z;show z▸g;show a e z) m
nonrec def Ej:HO->Ñ
 |.lst _=>Ã|.dK _=>Ã|.ins _ _ _=>Ã|_=>Å
def Bx(H:Hp)(q:Ì):È:=∃u,H q=À u/\Ej u=Ã
def Bx.some{H:Hp}{q:Ì}(b:Bx H q):H q≠Ä:=by let{u,e,_}:=b;rw[e];show λz=>nomatch z
section
variable{K:Ð}{G H G' H':Hp}
def xz.loc{d:D}{p:Ì}(g:zm G G')(h:H' p=H p)(o:xz K G H d p):xz K G' H' d p:=by
 cases d with
 |lst ds=>let{a,e,r,l}:=o;show{a,ğe e,ôa g,l}
 |dic ks ds=>let{a,e,z,r,l}:=o;show{a,ğe e,z,ôa g,l}
 |_=>show ąc
theorem ųb:∀{ms:Á M}{vs:Á V}{L:Ft},(∀m∈ms,∀v L1,(∀q,L1 q->L q)->xL K G H m v L1->xL K G' H' m v L1)->Ņ K G H ms vs L->Ņ K G' H' ms vs L
 | [],_,_,_,h=>h|m::ms,vs,L,f,h=>by let{v,r,L1,g,e,b,c,d,u}:=h;show{v,r,L1,g,e,f m Ł v L1 äl b,ųb (λk i j a s o=>f k (Üa _ i) j a ėk o) c,d,u}
theorem xL.loc(g:zm G G')(m:M):∀(v:V)(L:Ft),(∀q,L q->H' q=H q)->xL K G H m v L->xL K G' H' m v L:=by show Ĕg (P:=λm=>∀v L,(∀q,L q->H' q=H q)->xL K G H m v L->xL K G' H' m v L) ?_ ?_ ?_ ?_ ?_ m;rintro d v L h ⟨r,n⟩;show{ôa g,n};rintro d v L h ⟨p,e,o,u⟩;show{p,e,ϋc g (h p Ŗm),u};rintro x I w a v L h ⟨p,C,B,i,t,e,E,k,l,r,n,u⟩;show{p,C,B,i,t,e,E,(ŭf).trans k,l,ųb Ĥk r,n,u};rintro F w a v L h ⟨p,i,t,e,k,l,r,y,n,u⟩;show{p,i,t,e,(ŭf).trans k,l,ųb Ĥk r,y,n,u};rintro b w a v L h ⟨p,i,e,A,r,l⟩;show{p,i,e,x1z g A,ųb (λm j f c s o=>a m j f c Ām o) r,l}
theorem ćn:∀{ms:Á M}{vs:Á V}{L:Ft},Ņ K G H ms vs L->ö=ů
 | [],_,_,h=>by let{rfl,_}:=h;rfl
 |m::ms,_,_,h=>by let{v,r,c,b,rfl,_,a,_}:=h;rw[Ě,Ě,ćn a]
theorem xz.bx{d:D}{p:Ì}(o:xz K G H d p):Bx H p:=by
 cases d with
 |lst ds=>let{a,e,_}:=o;show{_,e,rfl}
 |dic ks ds=>let{a,e,_}:=o;show{_,e,rfl}
 |_=>show ąc
theorem Ôc:∀{ms:Á M}{vs:Á V}{L:Ft},(∀m∈ms,∀v L1,xL K G H m v L1->∀q,L1 q->Bx H q)->Ņ K G H ms vs L->∀q,L q->Bx H q
 | [],_,_,_,h,q,z=>Þ z (h.2 q)|m::ms,vs,L,f,h,q,z=>by let{v,r,L1,i,e,a,b,g,u}:=h;rcases(u q).mp z with z|z;show f m Ł v L1 a q z;show Ôc (λd c=>f d (Üa _ c)) b q z
theorem xL.cells(m:M):∀(v:V)(L:Ft),xL K G H m v L->∀q,L q->Bx H q:=by show Ĕg (P:=λm=>∀v L,xL K G H m v L->∀q,L q->Bx H q) ?_ ?_ ?_ ?_ ?_ m;rintro d v L ⟨r,n⟩ q z;show Þ z (n q);rintro d v L ⟨p,e,o,u⟩ q z;cases(u q).mp z;show o.bx;rintro x s f a v L ⟨p,C,w,g,h,e,k,c,l,r,n,u⟩ q z;rcases(u q).mp z with rfl|z;show{_,c,rfl};show Ôc a r q z;rintro i f a v L ⟨p,g,h,e,c,l,r,j,n,u⟩ q z;rcases(u q).mp z with rfl|z;show{_,c,rfl};show Ôc a r q z;rintro b f a v L ⟨p,g,e,t,r,l⟩ q z;show Ôc a r q z
theorem D2:∀(ms:Á M),(ãc).length=ů
 | []=>rfl|m::ms=>by exact(ãc).length+1=_;rw[D2 ms];rfl
theorem će:∀{ms:Á M}{vs:Á V}{L:Ft},(∀m∈ms,∀v L1,(∀q,L1 q->L q)->xL K G H m v L1->za K G' Ğj v)->Ņ K G H ms vs L->â K G' ãc vs
 | [],_,_,_,h=>h.1|m::ms,vs,L,f,h=>by let{v,r,L1,k,e,b,c,j,u}:=h;show{v,r,e,f m Ł v L1 äl b,će (λi d g a s o=>f i ϣo g a ėk o) c}
theorem xL.qQ(g:zm G G')(m:M):∀(v:V)(L:Ft),(∀q,L q->G' q=H q)->xL K G H m v L->za K G' Ğj v:=by
 show Ĕg (P:=λm=>∀v L,(∀q,L q->G' q=H q)->xL K G H m v L->za K G' Ğj v) ?_ ?_ ?_ ?_ ?_ m;rintro d v L h ⟨r,n⟩;show ôa g;rintro d v L h ⟨p,rfl,o,u⟩;let c:=h p Ŗm;cases d with
 |lst ds=>let{a,e,r,l}:=o;show{p,a,rfl,ņa (łc e),ôa g,l}
 |dic A ds=>let{a,e,z,r,l}:=o;show{p,a,rfl,.inl (łc e),z,ôa g,l}
 |_=>show ąc
 rintro x J y f v L h ⟨p,C,E,a,F,e,I,c,l,r,n,u⟩;show{p,C,E,a,e,I,(ŭf).trans c,l,će ģk r};rintro A y f v L h ⟨p,a,F,e,c,l,r,B,n,u⟩;show{p,a,e,.inl ((ŭf).trans c),l,će ģk r,by rw[D2];show B};rintro b y f v L h ⟨p,a,e,w,r,l⟩;let k:=će (λm t j i s o=>f m t j i Ām o) r;cases b with
 |Ã=>show{p,a,e,ņa (g _ _ w),k,by rw[D2];show l}|Å=>show{p,a,e,uJ g w,k,by rw[D2];show l}
theorem õd{κ:Type}[ũb κ]{k:κ}{A:M}:∀{ks:Á κ}{ms:Á M}{vs:Á V}{L:Ft},Ņ K G H ms vs L->ϙ ks ms k=À A->
  ∃v1 L1,ϙ ks vs k=À v1/\xL K G H A v1 L1/\(∀q,L1 q->L q)/\∀{G' H':Hp}{m2:M}{L2:Ft},zm G G'->(∀q,L q->¬ L1 q->H' q=H q)->xL K G' H' m2 v1 L2->(∀q,L2 q->L q->L1 q)->Ņ K G' H' ĺm vs ťg
 | [],_,_,_,_,e=>by cases e|_::_,[],_,_,_,e=>by cases e|k'::ks,m::ms,vs,L,h,e=>by
  let{v,r,p,x,rfl,t,y,b,u}:=h;unfold ϙ at e;rw[Čp];refine{v,p,by unfold ϙ;rw[Ò c],t,λq z=>(ϐ).mpr řa,λ{G' H' m2 L2} g l n i=>?_};unfold uh;rw[Ò c];show{v,r,L2,x,rfl,n,?_,λq d a=>b q (i q d ((ϐ).mpr (.inr a))) a,λq=>?_};show ųb (λF _ E C s o=>ϋc g F E C λq z=>l q (Ηa ċd) λw=>b q w ċd) y;rw[ſp];rw[Úq];rcases(u q).mp z with z|z;show Þ z w;rw[Ũp];rw[Ôq];show .inl {(ϐ).mpr Řa,λw=>b q w z};rw[Ó c]at e;let{v1,L1,e1,B,j,f}:=õd y e;refine{v1,L1,by unfold ϙ;rw[Ó c];show e1,B,λq z=>(ϐ).mpr (.inr Ŏf),λ{G' H' m2 L2} g l n i=>?_};unfold uh;rw[Ó c];show{v,r,p,λq=>(x q/\¬ L1 q)\/L2 q,rfl,?_,f g (λq z w=>l q Ġc w) n (λq z w=>i q z (Βa (ϐ))),λq d a=>?_,λq=>?_}
  show t.loc g m v p λq z=>l q Ķc λw=>b q z (j q w);rcases a with⟨a,_⟩|a;show b q d a;show b q d (j q (i q a ((ϐ).mpr ϟi)));rw[ſp];rw[Úq];rcases(u q).mp z with z|z;rw[ϗp];rintro(z|⟨z,w⟩|z);show .inl {(ϐ).mpr řa,λw=>b q z (j q w)};rw[ϴp]
#print a
def wF(K:Ð)(H:Hp):V->Á xZ->V->È
 |v,[],u=>u=v|v,.at cs f::π,u=>∃p x C dx fs w,v=.ref p/\x∈cs/\ų K Ĕ x=À ãa/\H p=À ôb/\Öc f=À w/\wF K H w π u|v,.ky k::π,u=>∃p kvs w,v=.ref p/\H p=À Ō/\qt kvs k=À w/\wF K H w π u|v,.ix k::π,u=>∃p vs w,v=.ref p/\H p=À đd/\ϙ ϝo vs k=À w/\wF K H w π u
theorem M_{κ α:Type}[ũb κ][BEq κ][LawfulBEq κ]{k:κ}:∀{ks:Á κ}{vs:Á α},(İa).lookup k=ϙ ks vs k
 | [],_=>rfl|_::_,[]=>rfl|k'::ks,v::vs=>by
  rw[îb,ϒd];unfold ϙ;by_cases c:k'=k;subst c;rw[Ò rfl];simp;rw[Ó c];let:(k==k')=Å:=by simpa using λz=>c Ļd
  rw[this];show M_
theorem f9{α:Type}{k:Sum Æ Ç}:∀{ks:Á ğ} {vs:Á α},ϙ ks vs k=Ć ks vs k
 | [],_=>by unfold ϙ Ć;rfl|_::_,[]=>by unfold ϙ Ć;rfl|k'::ks,v::vs=>by unfold ϙ Ć;rw[şp];rw[Ó c,Ó c];show f9
section
variable{K:Ð}{G H G' H':Hp}
theorem ϯf(s:zm H H'):∀{π:Á xZ}{v u:V},wF K H v π u->wF K H' v π u
 | [],_,_,h=>h|.at cs f::π,_,_,h=>by let{p,x,C,j,d,w,e,i,c,a,l,r}:=h;show{p,x,C,j,d,w,e,i,c,s _ _ a,l,ϯf s r}
 |.ky k::π,_,_,h=>by let{p,b,w,e,a,l,r}:=h;show{p,b,w,e,s _ _ a,l,ϯf s r}
 |.ix k::π,_,_,h=>by let{p,g,w,e,a,l,r}:=h;show{p,g,w,e,s _ _ a,l,ϯf s r}
theorem Ăc:∀{π:Á xZ}{v u u':V},wF K H v π u->wF K H v π u'->u=u'
 | [],_,_,_,h,h'=>ğe h'.symm|.at cs f::π,_,_,_,h,h'=>by let{p,x,C,B,A,w,rfl,y,z,c,l,r}:=h;let{m,E,t,q,n,j,e,o,s,a,b,d}:=h';rw[Ćp]
 |.ky k::π,_,_,_,h,h'=>by rw[Őp]
 |.ix k::π,_,_,_,h,h'=>by rw[Őp]
theorem Ϯf:∀{π:Á xZ}{s:xZ}{v u:V},wF K H v (π++[s]) u->∃w,wF K H v π w/\wF K H w [s] u
 | [],_,v,_,h=>{v,rfl,h}|.at cs f::π,_,_,_,h=>by let{p,x,C,n,m,w,e,i,j,b,l,r}:=h;let{g,d,c}:=Ϯf r;show{g,{p,x,C,n,m,w,e,i,j,b,l,d},c}
 |.ky k::π,_,_,_,h=>by rw[Ķp]
 |.ix k::π,_,_,_,h=>by rw[Ķp]
theorem Ÿf{m1:M}(Y:zm G H):∀{π:Á xZ}{m:M}{v:V}{L:Ft},xL K G H m v L->uQ m π=À m1->
  ∃v1 L1,wF K H v π v1/\xL K G H m1 v1 L1/\(∀q,L1 q->L q)/\∀{G' H':Hp}{m2:M}{L2:Ft},zm G G'->(∀q,L q->¬ L1 q->H' q=H q)->xL K G' H' m2 v1 L2->(∀q,L2 q->L q->L1 q)->
   ∃m',ug m π m2=À m'/\xL K G' H' m' v ťg
 | [],m,v,L,h,e=>by
  cases e;show{v,L,rfl,h,λ_ z=>z,λ{G' H' m2 L2} g A I o=>{m2,rfl,?_}}
  let e:(λq=>(L q/\¬ L q)\/L2 q)=L2:=by
   funext q
   show Ũc {λz=>Ĭ (λw=>Þ w.1 w.2) id,.inr}
  rw[e];show I
 |s::π,m,v,L,h,e=>by
  let{J,a,Z}:=zH e
  let U:∀{p:Ì}{t L1 L2:Ft},¬ t p->(∀q,L q↔q=p\/t q)->(∀q,L1 q->t q)->(∀q,L2 q->L q->L1 q)->(¬ ((t p/\¬ L1 p)\/L2 p))/\∀q,((L q/\¬ L1 q)\/L2 q)↔q=p\/((t q/\¬ L1 q)\/L2 q):=λ{p t L1 L2} n u s o=>by show{?_,λq=>{?_,?_}};rintro(⟨z,_⟩|z);show n z;show n (s p (o p z Ϗe));rw[Úq];rcases(u q).mp z with z|z;rw[ϗp];rintro(rfl|⟨z,w⟩|z);show .inl {(ϐ).mpr ł,λw=>n (s q w)};rw[ϴp]
  cases m with
  |fz d=>cases a|own d=>cases a|obj x fs ms=>
   cases s with
   |ky k=>cases a|ix k=>cases a| «at» cs f=>
    change àk=À J at a
    by_cases hx:x∈cs;rw[Ò hx]at a;let{p,C,dx,N,t,rfl,ns,E,l,r,n,u}:=h;rw[ąp];refine{v1,L1,{p,x,C,dx,_,O,rfl,hx,ns,E,by rw[M_];show e1,R},P,λq z=>(ϐ).mpr Čm,λ{G' H' m2 L2} g A I o=>?_};let{m',W,Q}:=S g łk I Łk
    let F:=X g Ęk Q ϙk
    let eL:Ϧj=Ŵk:=by
     funext q
     rw[õp];rw[ăp]
    rw[Ϸp];refine{.obj x fs (uh fs ms f m'),by exact(öd àk _)=_;rw[Ò hx,a];rw[ũp],p,C,dx,N,_,rfl,ns,?_,l,F,f3,f4};rw[A p Ϗe λw=>n én];show E;rw[Ó hx]at a;cases a
  |tab ks ms=>
   cases s with
   | «at» cs f=>cases a|ix k=>cases a|ky k=>
    change ϙ ks ms k=À J at a
    let{p,N,t,rfl,E,l,r,l2,n,u}:=h;rw[ąp];refine{v1,L1,{p,_,O,rfl,E,by rw[Vr _ l,<-f9];show e1,R},P,λq z=>(ϐ).mpr Čm,λ{G' H' m2 L2} g A I o=>?_};let{m',W,Q}:=S g łk I Łk
    let F:=X g Ęk Q ϙk
    let eL:Ϧj=Ŵk:=by
     funext q
     rw[õp];rw[ăp]
    rw[Ϸp];refine{.tab ks (uh ks ms k m'),by exact(öd (ϙ ks ms k) _)=_;rw[a];rw[ũp],p,N,_,rfl,?_,l,F,?_,f3,f4};rw[A p Ϗe λw=>n én];show E;rw[Rj];show l2
  |tp b ms=>
   cases s with
   | «at» cs f=>cases b<;>cases a|ky k=>cases b<;>cases a|ix k=>
    cases b with
    |Å=>cases a|Ã=>
    change ϙ ëe ms k=À J at a
    let{p,N,rfl,E,r,l}:=h;rw[ąp];refine{v1,L1,{p,N,O,rfl,Y _ _ E,by rw[Ų];show e1,R},P,λq z=>i q Ŏf,λ{G' H' m2 L2} g A I o=>?_};let{m',W,Q}:=S g (λq z w=>A q åj w) I (λq z w=>o q z (i q w))
    let F:=X g (λq z w=>A q z λy=>w Ñg) Q (χc (o q z w))
    let eL:(λq=>(L q/\¬ B q)\/((B q/\¬ L1 q)\/L2 q))=ťg:=by
     funext q
     rw[õp];rw[ăp]
    rw[eL]at F;show{.tp Ã (uh ëe ms k m'),by exact(öd (ϙ ëe ms k) _)=_;rw[a];rw[ũp],p,N,rfl,g _ _ E,F,by rw[Rj];show l}
#print a
abbrev zl:=Á Új
nonrec def ēc:M->Ê Sl
 |.fz d=>À (Å,d)|_=>Ä
def kQ(β:zl):yC:=β.map λo=>þj ēc
def qp(β:zl):yC:=β.map λo=>Ĕa λm=>(Å,vV m)
mutual
nonrec def wJ:D->Ñ
 |.zC=>Ã|.bl _=>Ã|.int _=>Ã|.str _=>Ã|.tup ds=>Ť ds|_=>Å
nonrec def Ť:Á D->Ñ
 | []=>Ã|d::ds=>wJ d&&Ť ds
end
def VW:D->Ñ
 |.lst ds=>Ť ds|.dic _ ds=>Ť ds|_=>Å
structure az(K:Ð)(H0 G H:Hp)(β:zl)(σ:St)(Ls:Â->Ft):È where
 at_:∀(i:Â)(m:M),β[i]?=À ϓa->∃v,σ[i]?=À ź/\xL K G H m v ĭj
 dj:∀(i j:Â)(q:Ì),i≠j->Ls i q->Ls j q->î
 ok:∀(i:Â)(q:Ì),Ls i q->G q=Ä/\H0 q=Ä/\Bx H q
structure zn(K:Ð)(n:Â)(P:Á V)(G0 H0 G H:Hp)(β:zl)(σ:St):È where
 ext:zS G0 H0 G H
 l1:σ.length=n
 l2:β.length=n
 lp:äa<=n
 pin:∀(i:Â)(v:V),P[i]?=À v->σ[i]?=À ź
 own:∃Ls,az K H0 G H β σ Ls
section
variable{K:Ð}{n:Â}{P:Á V}{G0 H0 G H G' H':Hp}{β:zl}{σ:St}
def Uw{q:Ì}(x:zS G H G' H')(g:G q=Ä)(b:Bx H q):G' q=Ä/\Bx H' q:=by
 let{u,e,c}:=b;show{?_,u,x.h _ _ e,c};cases z:G' q with
 |Ä=>rfl|À o=>rcases Œb q (by rw[z];show λw=>nomatch w)with w|w;show Þ g w;rw[e]at w;cases w
def zn.go(E:zn K n P G0 H0 G H β σ)(x:zS G H G' H'):zn K n P G0 H0 G' H' β σ:=by let{f,F}:=Ϸ;show{ϋn x,ĸ,Ģ,ŏ,õa,f,λi m h=>?_,Ŭ,λi q z=>?_};let{v,e,o}:=Ϟ i m h;show{v,e,ϋc x.g m v _ λq z=>?_};let{u,d,_}:=ıb.2.2;rw[d];show x.h _ _ d;let{a,b,c}:=Ϲ i q z;let{k,j}:=Uw x a c;show{k,b,j}
def z7i{i:Â}{b:Ñ}{d:D}(h:ûe[i]?=À ûd):b=Å/\β[i]?=À Øl:=by
 unfold kQ at h;rw[ũ]at h;cases e:β[i]? with
 |Ä=>rw[e]at h;cases h|À o=>
  rw[e]at h;cases o with
  |Ä=>cases h|À m=>
   cases m with
   |fz d'=>cases h;show{rfl,rfl}|_=>cases h
def x3v{i:Â}{b:Ñ}{d:D}(h:Čd[i]?=À ûd):b=Å/\∃m,β[i]?=À ϓa/\d=vV m:=by
 unfold qp at h;rw[ũ]at h;cases e:β[i]? with
 |Ä=>rw[e]at h;cases h|À o=>
  rw[e]at h;cases o with
  |Ä=>cases h|À m=>cases h;show{rfl,m,rfl,rfl}
def eF{τ:yC}(s:zm G H)(f:σ.length=n)(c:τ.length=n)(h:∀(i:Â)(b:Ñ)(d:D),τ[i]?=À ûd->b=Å/\∃v,σ[i]?=À ź/\za K G d v):zx K n G H G H τ σ:=
 {Ąa s,f,c,λi d e=>(h i Å d e).2,λi d e=>(by cases(h i Ã d e).1),λi j d e p _ a=>(by cases(h i Ã d a).1)}
def zn.Qm(E:zn K n P G0 H0 G H β σ):zx K n G H G H ûe σ:=by
 let{c,F}:=Ϸ;refine eF Äa ĸ (by unfold kQ;rw[æ];show Ģ) λi b d h=>?_
 let{rfl,a}:=z7i h;let{v,e,r,_}:=Ϟ i _ a;show{rfl,v,e,r}
def z3f{b c:Hp}{L:Ft}(g:∀q,¬ L q->c q=b q)(i:∀q,L q->Bx b q){a:Ì}{vs:Á V}(h:xF K b a vs):xF K c a vs:=by
 let k:∀{u:HO},Ej u=Å->b a=À u->c a=À u:=λ{u} j e=>by rw[g a λz=>?_];show e;let{w,f,d}:=i a z;rw[e]at f;cases f;rw[j]at d;cases d
 rcases h with h|h;rcases h with h|⟨o,h⟩;show .inl (.inl (k rfl h));show .inl (.inr {o,k rfl h});show .inr h
def dY{g j:Hp}{L:Ft}(y:∀q,¬ L q->j q=g q)(z:∀q,L q->Bx g q)(d:D):∀(v:V),wJ d=Ã->za K g d v->za K j d v:=by
 show ώc (P:=λd=>∀v,wJ d=Ã->za K g d v->za K j d v) (λv _ h=>h) (λb v _ h=>h) (λi v _ h=>h) (λx v _ h=>h) ?_ (λc f v t=>by cases t) (λA c f v t=>by cases t) (λx v t=>by cases t) (λx B c f v t=>by cases t) d;rintro c f v t ⟨a,n,e,q,r,l⟩;show{a,n,e,z3f y z q,?_,l};let p:Ť c=Ã:=t;clear t q l
 induction c generalizing n with
 |nil=>show r|ï x c ih2=>let{u,m,rfl,s,w}:=r;let k:(wJ x&&Ť c)=Ã:=p;rw[Č]at k;show{u,m,rfl,f x Ł u k.1 s,ih2 (λd o=>f d (Üa _ o)) m w k.2}
theorem dZ{a c:Hp}{L:Ft}(e:∀q,¬ L q->c q=a q)(f:∀q,L q->Bx a q):∀{ds:Á D}{vs:Á V},Ť ds=Ã->â K a ds vs->â K c ds vs
 | [],_,_,r=>r|d::ds,_,t,r=>by let{u,h,rfl,i,g}:=r;let b:İh=Ã:=t;rw[Č]at b;show{u,h,rfl,dY e f d u b.1 i,dZ e f b.2 g}
theorem zn.qQ(E:zn K n P G0 H0 G H β σ):∃G1,zx K n G1 H G1 H Čd σ/\∀G2 H2,zS G1 H G2 H2->∃G3,zS G H G3 H2/\zn K n P G0 H0 G3 H2 β σ/\(∀d v,wJ d=Ã->za K G2 d v->za K G3 d v)/\(∀ds vs,Ť ds=Ã->â K G2 ds vs->â K G3 ds vs)/\∀q,G2 q=Ä->G3 q=Ä:=by
 classical
 let{A,F}:=Ϸ
 let +zeta L:Ft:=λq=>∃i,A i q
 let k:∀q,L q->G q=Ä:=λq ⟨i,z⟩=>ıb.1
 let B:∀q,L q->Bx H q:=λq ⟨i,z⟩=>ıb.2.2
 let +zeta G1:Hp:=λq=>if L q then H q else G q
 let e1:∀q,L q->G1 q=H q:=λq z=>Ò z
 let e2:∀q,¬ L q->G1 q=G q:=λq z=>Ó z
 let l:zm G G1:=λq o e=>by rw[e2 q λz=>by rw[k q z]at e;cases e];show e
 let y:zm G1 H:=λq o e=>by rw[Ņp];rw[e1 q c]at e;show e;rw[e2 q c]at e;show Äa _ _ e
 refine{G1,eF y ĸ (by unfold qp;rw[æ];show Ģ) λi b d h=>?_,λG2 H2 x=>?_};let{rfl,m,C,rfl}:=x3v h;let{v,e,o}:=Ϟ i m C;show{rfl,v,e,o.qQ l m v _ λq z=>e1 q {i,z}};let +zeta G3:Hp:=λq=>if L q then Ä else G2 q
 let a:∀q,¬ L q->G3 q=G2 q:=λq z=>Ó z
 let f:∀q,L q->G3 q=Ä:=λq z=>Ò z
 let j:∀q,L q->Bx G2 q:=λq z=>by let{u,s,c}:=B q z;show{u,x.g _ _ ((e1 q z).trans s),c}
 let p:zS G H G3 H2:=by
  show{λq o e=>?_,x.h,λq o e=>?_,λq z=>?_};let c:¬ L q:=λz=>by rw[k q z]at e;cases e
  rw[a q c];show x.g _ _ (l _ _ e);rw[Ņp];rw[f q c]at e;cases e;rw[a q c]at e;show öa _ _ e;rw[Ņp];rw[f q c]at z;show Þ rfl z;rw[a q c]at z;rcases Œb q z with w|w;rw[e2 q c]at w;rw[Õq];show .inr w
 show{G3,p,ĩa p,λd v t r=>dY a j d v t r,λds vs t r=>dZ a j t r,λq z=>?_};rw[Ņp];show f q c;rw[a q c];show z
def W4{α:Type}{xs:Á α}{x y:α}{i:Â}(h:Ľi[i]?=À y):(i<ä/\xs[i]?=À y)\/(i=ä/\y=x):=by
 rcases Nat.lt_or_ge i ä with c|c;rw[éb c]at h;show .inl {c,h};rw[Ęb c]at h;cases z:i-ä with
 |Ϡ=>rw[z]at h;cases h;show .inr {by omega,rfl}|ϡ k=>rw[z]at h;cases h
def uI{α:Type}{xs:Á α}{x:α}{n:Â}(h:ä=n):Ľi[n]?=À x:=by subst h;rw[Ęb Đ,Ťb];rfl
def vL{α:Type}{xs:Á α}{x:α}{i:Â}(h:i<ä):Ľi[i]?=xs[i]?:=éb h
def zn.push{m:M}{v:V}{L:Ft}(E:zn K n P G0 H0 G H β σ)(o:xL K G H m v L)(g:∀Ls,az K H0 G H β σ Ls->∀i q,Ls i q->L q->î)(ok:∀q,L q->G q=Ä/\H0 q=Ä/\Bx H q):zn K ı P G0 H0 G H ľc Ĉa:=by
 let{Ls,F}:=Ϸ;let d:=g Ls F;refine{Ϟb,by rw[żp],by rw[Ùq],by rw[Ϥp],λi u h=>?_,λj=>if j<n then Ls j else if j=n then L else λ_=>î,λi l h=>?_,λi j q f b a=>?_,λi q z=>?_};let p:i<σ.length:=by rw[ćp]
 rw[vL p];show õa i u h;rcases W4 h with⟨c,e⟩|⟨c,e⟩;rw[Ģ]at c;let{u,r,k}:=Ϟ i l e;refine{u,by rw[vL Ϸb];show r,?_};rw[ϖp];show k;cases e;rw[Ģ]at c;subst c;show{v,uI ĸ,?_};simp only[èb,Ϧ,ś];show o;skip
 rw[Öq];show Ŭ i j q f b a;rw[Ăp];show d i q b a;show a;rw[Öq];show d j q a b;rw[Øq];skip
 rw[Ĭp];show Ϲ i q z;rw[Ĭp];show ok q z;show Ĭ
def zn.Zz{d:D}{v:V}(E:zn K n P G0 H0 G H β σ)(r:za K G d v):zn K ı P G0 H0 G H ϳg Ĉa:=
 E.push (L:=λ_=>î) {r,λ_ z=>z} (λ_ _ _ _ _ z=>z) λ_ z=>Ĭ
def zn.F8{d:D}{p:Ì}(E:zn K n P G0 H0 G H β σ)(x:zS G H G' H')(r:H p=Ä)(J:G' p=Ä)(o:xz K G' H' d p):zn K ı P G0 H0 G' H' ĭl ķm:=by
 let{m,F}:=Ϸ;let C:=ĩa x;show{?_,?_,?_,?_,?_,?_}<;>try first|show C.ext|show(by rw[żp])|show(by rw[Ùq])
 rw[Ϥp];intro i u h
 rw[ŝp]
 rw[vL I];show õa i u h;let l:∀i q,m i q->q≠p:=λi q z c=>by subst c;show ıb.2.2.some r
 show{λj=>if j<n then m j else if j=n then(λq=>q=p)else λ_=>î,λi s h=>?_,λi j q t k f=>?_,λi q z=>?_};rcases W4 h with⟨c,e⟩|⟨c,e⟩;rw[Ģ]at c;let{u,L,B}:=Ϟ i s e;refine{u,by rw[vL Ϸb];show L,?_};rw[ϖp];show B.loc x.g s u _ λq z=>?_
 let{w,v,_}:=ıb.2.2;rw[v];show x.h _ _ v;rw[öp];show{p,rfl,o,λq=>Ēa};skip
 split at k;rw[ϔp];show Ŭ i j q t k f;rw[ϔp];show l i q k f;show f;split at k;rw[ϔp];show l j q f k;rw[ϔp];show t É;show f;show k;skip
 rw[Ġp];subst z;show{J,ϵd r,o.bx};show Ĭ
def zn.FB{m:M}{v:V}{i:Â}(hi:i<n)(r:äa<=i)(d:σ.length=n)(b:β.length=n)(E:zn K ı P G0 H0 G H ľc Ĉa):zn K n P G0 H0 G H ĭh àd:=by
 let{l,F}:=Ϸ;refine{Ϟb,by rw[èa];show d,by rw[èa];show b,by omega,λj u h=>?_,λj=>if j=i then l n else if j<n then l j else λ_=>î,λj p h=>?_,λj k q e c a=>?_,λj q z=>?_};let o:j<äa:=ēa.1;rw[pE É];let:=õa j u h;rw[ύp];rcases vv h with⟨rfl,w⟩|⟨e,w⟩;cases w;let{u,f,g}:=Ϟ n _ (uI b);rw[uI d]at f;cases f;simp only[ś];show{v,Xj É,g};have o:j<n:=by rw[<-b];show(Š w).1
 let{u,f,g}:=Ϟ j p ñl;rw[vL É]at f;simp only[Ó e,Ò o];show{u,by rw[pE e];show f,g};skip
 split at c;rw[Ăp];show e É;rw[Ăp];show Ŭ n k q É c a;show a;split at c;rw[Ăp];show Ŭ j n q É c a;rw[Ăp];show Ŭ j k q e c a;show a;show c;skip
 rw[Ĭp];show Ϲ n q z;rw[Ĭp];show Ϲ j q z;show Ĭ
def zn.pop{m:Ê M}{v:Ê V}(b:σ.length=n)(a:β.length=n)(i:äa<=n)(E:zn K ı P G0 H0 G H Ūf ŧf):zn K n P G0 H0 G H β σ:=by
 let{d,F}:=Ϸ;show{Ϟb,b,a,i,λj u h=>?_,d,λj e h=>?_,Ŭ,Ϲ};let g:j<äa:=ēa.1;let:=õa j u h;rw[ύp];have g:j<n:=by rw[<-a];show ēa.1
 let{u,c,f}:=Ϟ j e (by rw[vL É];show h);rw[vL É]at c;show{u,c,f}
#print a
inductive XT where
 |nx (β:zl)|rt (m:M) (β:zl)|bk (β:zl)|ct (β:zl)
abbrev yY:=zl->Ê XT
abbrev xK:=zl->Ê (M×zl)
abbrev Um:=zl->Ê (Ñ×zl)
def Uk(K:Ð)(n:Â)(P:Á V)(G0 H0:Hp)(E:ua):XT->È
 |.nx β=>∀σ G H,zn K n P G0 H0 G H β σ->E.nx σ H|.bk β=>∀σ G H,zn K n P G0 H0 G H β σ->E.bk σ H|.ct β=>∀σ G H,zn K n P G0 H0 G H β σ->E.ct σ H|.rt m β=>∀σ v G H,zn K ı P G0 H0 G H ľc Ĉa->E.rt v H
section
variable(X:Cx)
structure MC(e:Õ)(f:xK):È where
 h:∃t,PE X e t/\∀{P:Á V}{G0 H0 G H:Hp}{β β':zl}{σ:St}{m:M}{Q:VK},zn X.K ù P G0 H0 G H β σ->f β=À (m,β')->(∀v G' H',zm G G'->zn X.K Ój P G0 H0 G' H' Įh Ĉa->Q v H')->t σ H Q
structure MT(e:Õ)(f:Um):È where
 h:∃t,PT X e t/\∀{P:Á V}{G0 H0 G H:Hp}{β β':zl}{σ:St}{b:Ñ}{Q:Ñ->Hp->È},zn X.K ù P G0 H0 G H β σ->f β=À (b,β')->(∀G' H',zm G G'->zn X.K ù P G0 H0 G' H' β' σ->Q b H')->t σ H Q
structure MS(np:Â)(st:Ú)(f:yY):È where
 h:∃t,PS X st t/\∀{P:Á V}{G0 H0 G H:Hp}{β:zl}{σ:St}{fl:XT}{E:ua},äa=np->zn X.K ù P G0 H0 G H β σ->f β=À fl->Uk X.K ù P G0 H0 E fl->t E σ H
structure gL(np:Â)(st:Á Ú)(f:yY):È where
 h:∃t,tK X st t/\∀{P:Á V}{G0 H0 G H:Hp}{β:zl}{σ:St}{fl:XT}{E:ua},äa=np->zn X.K ù P G0 H0 G H β σ->f β=À fl->Uk X.K ù P G0 H0 E fl->t E σ H
#print a
section
variable{K:Ð}{n:Â}{P:Á V}{G0 H0 G H G':Hp}{β:zl}{σ:St}{m:M}{v:V}{d:D}
def zn.Zx{m:Ê M}{v:Ê V}(E:zn K ı P G0 H0 G H Ūf ŧf):σ.length=n:=by let:=ĸ;rw[ê]at this;show Ģc this
def zn.pX{m:Ê M}{v:Ê V}(E:zn K ı P G0 H0 G H Ūf ŧf):β.length=n:=by let:=Ģ;rw[ê]at this;show Ģc this
def zn.ZH(E:zn K ı P G0 H0 G H ϳg Ĉa):za K G d v:=by let{b,F}:=Ϸ;let{u,a,r,_}:=Ϟ n _ ūf;rw[uI ϒc]at a;cases a;show r
def zn.UJ{i:Â}(E:zn K n P G0 H0 G H β σ)(hi:i<n)(a:äa<=i)(r:za K G d v):zn K n P G0 H0 G H žo àd:=(E.Zz r).FB hi a ĸ Ģ
theorem zn.zE(E:zn K n P G0 H0 G H β σ):zn K n P G H0 G H β σ:={E.ext.zE,ĸ,Ģ,ŏ,õa,Ϸ}
def zn.near{b c:Hp}(a:zS G0 H0 b c)(E:zn K n P b H0 G H β σ):zn K n P G0 H0 G H β σ:={a.rebase Ϟb,ĸ,Ģ,ŏ,õa,Ϸ}
theorem Uk.near{b c:Hp}{E:ua}{a:XT}(x:zS G0 H0 b c)(h:Uk K n P G0 H0 E a):Uk K n P b H0 E a:=by
 cases a with
 |nx τ=>show λσ G H z=>h σ G H ýf|bk τ=>show λσ G H z=>h σ G H ýf|ct τ=>show λσ G H z=>h σ G H ýf|rt m β=>show λσ v G H z=>h σ v G H ýf
def zn.z0v{Ls:Â->Ft}(E:zn K ı P G0 H0 G H ĭl Ĉa):∃G',zm G G'/\zn K ı P G0 H0 G' H ϳg Ĉa:=by let{Ls,F}:=Ϸ;let{u,f,p,rfl,o,t}:=Ϟ n _ ūf;rw[uI ϒc]at f;cases f;let{l,B,J}:=Ϲ n p ((t p).mpr rfl);let{w,I,r}:=o.yI l;let s:zm G (zT G p w):=wv l w;let m:∀(i:Â)(v:V),P[i]?=À v->(σ++[À (Ùa p)])[i]?=À ź:=õa;refine{zT G p w,s,Ŵi B l I,ĸ,by rw[ê,Ėc];rfl,ŏ,m,λj=>if j<n then Ls j else λ_=>î,λi x h=>?_,λi j q C g k=>?_,λi q z=>?_};rcases W4 h with⟨c,e⟩|⟨c,e⟩;rw[Ėc]at c;let{u,f,A}:=Ϟ i x (by rw[vL (by rw[Ėc];show c)];show e);show{u,f,?_};simp only[Ò c];show A.loc s x u _ λq z=>rfl;cases e;rw[Ėc]at c;subst c;show{_,uI ϒc,?_};simp only[èb,Ϧ];show{r,λ_ z=>z};split at g;split at k;show Ŭ i j q C g k;show k;show g;split at z;rename_i c;let{a,b,y}:=Ϲ i q z;show{?_,b,y};rw[z_ λe=>?_];show a;subst e;show Ŭ i n q É z ((t q).mpr rfl);show Ĭ
#print a
def xq(f:FE):xK:=λβ=>(éj).bind λd=>À (.fz d,β)
def jc(f:FE):xK:=λβ=>(Óg).bind λd=>match wJ d with
 |Ã=>À (.fz d,β)|Å=>Ä
def gQ(f:FE):xK:=λβ=>(éj).bind λd=>À (.own d,β)
def gR(f:FE):xK:=λβ=>(Óg).bind λd=>match VW d with
 |Ã=>À (.own d,β)|Å=>Ä
nonrec def qX(f:xK):xK:=λβ=>(Ńa).bind λr=>match r with
 |(.own d,β')=>À (.fz d,β')|r=>À r
def qr(f:FT):Um:=λβ=>(Óg).bind λb=>À (b,β)
nonrec def ut:M->Ê D
 |.fz d=>À d|_=>Ä
def Uy(F:D->D->Ê D)(f g:xK):xK:=λβ=>(Ńa).bind λr=>(şc).bind λx=>(g r.2).bind λa=>(ut a.1).bind λy=>(F x y).bind λz=>À (.fz z,a.2)
def SR(f:xK):Um:=λβ=>(Ńa).bind λr=>(şc).bind λx=>(þg).bind λb=>À (b,r.2)
def jb{m:M}{d:D}(h:ut m=À d):m=.fz d:=by
 cases m with
 |fz d'=>cases h;rfl|_=>cases h
section
variable{X:Cx}{x:Ç}{p pos:Pos}{e a b:Õ}{f:FE}{ft:FT}{F:D->D->Ê D}{r:R2}{g g':xK}{u:Um}
def wG(h:SE X e f):MC X e (xq f):=by rw[ùp];rw[ϐp];show k E.Qm b λv c i x r=>q v c i x.g ((ĩa x).Zz r)
def kW(h:SE X e f):MC X e (jc f):=by
 rw[ùp];let{d,i,a}:=zH a;cases c:wJ d with
 |Å=>rw[c]at a;cases a|Ã=>
  rw[c]at a;cases a;let{u,j,ϻ}:=E.qQ;show k j i λv s n x r=>?_
  let{m,o,b,l,_}:=ϻ _ _ x;show q v m n o.g (b.Zz (l d v c r))
def Zc(h:SF X e f):MC X e (gQ f):=by rw[ùp];rw[Ϗp];show k E.Qm c λp i l x b j o=>q _ i l x.g (E.F8 x b j o)
def io{K:Ð}{G b H:Hp}{d:D}{p:Ì}(a:∀ds vs,Ť ds=Ã->â K G ds vs->â K b ds vs)(c:VW d=Ã)(o:xz K G H d p):xz K b H d p:=by
 cases d with
 |lst ds=>let{vs,e,r,l}:=o;show{vs,e,a _ _ c r,l}
 |dic ks ds=>let{vs,e,z,r,l}:=o;show{vs,e,z,a _ _ c r,l}
 |_=>show ąc
def YV(h:SF X e f):MC X e (gR f):=by
 rw[ùp];let{d,l,a}:=zH a;cases c:VW d with
 |Å=>rw[c]at a;cases a|Ã=>
  rw[c]at a;cases a;let{y,m,ϻ}:=E.qQ;show k m l λp w u x i s o=>?_
  let{r,b,v,_,n,j}:=ϻ _ _ x;show q _ r u b.g (E.F8 b i (j p s) (io n c o))
def jp(h:MC X e g):MC X e (qX g):=by
 rw[ùp];obtain⟨⟨m,β1⟩,b,a⟩:=zH a;cases m with
 |own d=>
  cases a;show k E b λv n l s j=>?_
  let{f,c,i}:=zn.z0v (Ls:=λ_ _=>î) j;show q v f l (ϴf c) i
 |_=>cases a;show k E b q
def jB(h:ST X e ft):MT X e (qr ft):=by
 rw[ùp];let{b,j,a}:=zH a;cases a;let{n,d,ϻ}:=E.qQ;show k d j λm i x=>?_
 let{f,l,c,_}:=ϻ _ _ x;show q f i l.g c
def zn.down{K:Ð}{n:Â}{P:Á V}{G0 H0 G H:Hp}{β:zl}{σ:St}{m:Ê M}{v:Ê V}(a:äa<=n)(E:zn K ı P G0 H0 G H Ūf ŧf):zn K n P G0 H0 G H β σ:=E.pop ϒc Ėc a
def z9y{e:Ŝe}(s:xB X (üa e) r)(m:kD X.K r F)(H:MC X a g)(p:MC X b g')(N:šb e b=Å):MC X (.Compare a [e] [b] pos) Ço:=by
 let{S,x,I}:=H.h;let{Q,O,t}:=p.h;show{{_,lR s x O N,λE c q=>?_}};obtain⟨⟨T,β1⟩,n,c⟩:=zH c;let{u,e1,c}:=zH c;cases jb e1;obtain⟨⟨U,β2⟩,l,c⟩:=zH c;let{G,e2,c}:=zH c;cases jb e2;let{z,v,c}:=zH c;cases c;show I E n λL R P o f=>?_
 let C:=f.ZH;show t (f.down ŏ) l λJ w y i j=>?_
 let A:=j.ZH;let d:=āj ŏ;let{k,rfl,B}:=m y u G L J _ _ ((C.mono i).mono d.ext.gh) (A.mono d.ext.gh) v;show B (q _ w _ (ϫi i) (d.Zz rfl))
def y0f{f:Ŝe}(u:xB X (üa f) r)(o:kD X.K r F)(I:MC X a g)(t:MC X b g')(P:šb f b=Å):MT X (.Compare a [f] [b] pos) (SR Ço):=by
 let{ta,y,J}:=I.h;let{W,R,Q}:=t.h;show{{_,NC u y R P,λE d q=>?_}};obtain⟨⟨T,β3⟩,c,d⟩:=zH d;let{Z,L,d}:=zH d;cases jb L;let{Y,i,d}:=zH d;cases d;obtain⟨⟨m1,β1⟩,p,c⟩:=zH c;let{v,e1,c}:=zH c;cases jb e1;obtain⟨⟨S,β2⟩,n,c⟩:=zH c;let{H,e2,c}:=zH c;cases jb e2;let{z,w,c}:=zH c;cases c;show J E p λO G1 U s j=>?_
 let G:=j.ZH;show Q (āj ŏ) n λN x A l m=>?_
 let B:=m.ZH;let e:=m.down ŏ;let{k,rfl,C}:=o A v H O N _ _ ((G.mono l).mono Ęd) (ðg Ęd) w;cases i;show C {_,rfl,q x _ (ϴf l) e}
#print a
nonrec def qF:yY:=λβ=>À (.nx β)
nonrec def yW(a b:yY):yY:=λβ=>(a β).bind λf=>match f with
 |.nx β'=>b β'|f=>À f
nonrec def qE(c:Um)(a b:yY):yY:=λβ=>(ýg).bind λr=>match r.1 with
 |Ã=>a r.2|Å=>b r.2
nonrec def tP(f:xK):yY:=λβ=>(Ńa).bind λr=>À (.rt r.1 r.2)
nonrec def pF(f:xK):yY:=λβ=>(Ńa).bind λr=>À (.nx r.2)
nonrec def vk(i:Â)(f:xK):yY:=λβ=>(Ńa).bind λr=>À (.nx (r.2.set i (À r.1)))
abbrev MG:=D->zl->Ê zl
nonrec def IR(i:Â):MG:=λd β=>À žo
nonrec def TN(i j:Â):MG:=λd β=>match d with
 |.tup ãb=>À Âk|_=>Ä
nonrec def ga(g:MG)(b:yY):Á D->zl->Ê XT
 | [],β=>À (.nx β)|d::r,β=>(g d β).bind λβ1=>(íj).bind λf=>match f with
  |.nx β2=>ga g b r β2|.ct β2=>ga g b r β2|.bk β2=>À Ŷb|.rt m β2=>À Ïo
def B0(it:FA)(g:MG)(b:yY):yY:=λβ=>(it ûe).bind λa=>ga g b a β
section
variable{X:Cx}{np:Â}{x:Ç}{p pos ĕa:Pos}{e c tg ť:Õ}{st:Ú}{sts Ĕc:Á Ú}{f g:yY}{h:xK}{u:Um}{fs:FA}
def pI:gL X np [] qF:={{_,mE,λ{P b c G H β σ d E} _ K a q=>by cases a;show q σ G H K}}
def yZ(b:MS X np st f)(i:gL X np sts g):gL X np ϵo (yW f g):=by
 let{t,p,k}:=b.h;let{s,m,e}:=i.h;show{{_,mD p m,λ{P n u G H β σ w E} c K a q=>?_}};let{l,b,a}:=zH a;show k c K b ?_;cases l with
 |nx τ'=>show λσ' r v j=>e c j a q|bk τ'=>cases a;show q|ct τ'=>cases a;show q|rt o d=>cases a;show q
def xc(a:MS X np st f):gL X np [st] f:={let ⟨t,p,k⟩:=a.h;{t,mF p,k}}
def pH{b i:Á Ú}(l:MT X c u)(n:gL X np b f)(r:gL X np i g):MS X np (.If c b i pos) (qE u f g):=by
 let{x,v,j}:=l.h;let{B,m,o}:=n.h;let{F,p,t}:=r.h;show{{_,mC v m p,λ{P w C G H β σ z E} e K a q=>?_}};obtain⟨⟨k,β1⟩,s,a⟩:=zH a;show j K s λy A _ d=>?_
 cases k with
 |Ã=>show YS (o e d a q)|Å=>show YR (t e d a q)
def qg(d:MC X e h):MS X np ϭe (tP h):=by let{t,p,k}:=d.h;show{{_,BJ p,λ{P f j G H β σ n E} i K a q=>?_}};obtain⟨⟨m,β1⟩,c,a⟩:=zH a;cases a;show k K c λv g l _ b=>q _ v _ _ b
def gc(f:MC X e h)(b:Î Ţk q12):MS X np Ţh (pF h):=by let{t,p,k}:=f.h;show{{_,mB p b,λ{P g l G H β σ o E} j K a q=>?_}};obtain⟨⟨m,β1⟩,d,a⟩:=zH a;cases a;show k K d λv i n _ c=>q _ _ _ (c.down Ůa)
def uW{i:Â}{x:Ç}{ĕa:Pos}(f:ğa)(hi:X.N[i]?=À x)(c:gJ ßa x)(n:np<=i)(j:MC X e h)(d:Î Ôe q12)(a:Î ϧa q7) :MS X np ŷe (vk i h):=by let{t,p,k}:=j.h;show{{_,(NT f hi c {p} d a).h,λ{P l s G H β σ w E} r K a q=>?_}};obtain⟨⟨m,β1⟩,g,a⟩:=zH a;cases a;show k K g λv o u _ b=>q _ _ _ (b.FB Łb.1 É b.Zx b.pX)
structure JK(X:Cx)(np:Â)(tg:Õ)(fg:MG):È where
 h:∃t,PG X tg t/\∀{P:Á V}{G0 H0 G H:Hp}{β β':zl}{σ:St}{d:D}{v:V}{Q:St->Hp->È},äa=np->zn X.K ù P G0 H0 G H β σ->za X.K G d v->fg d β=À β'->(∀σ',zn X.K ù P G0 H0 G H β' σ'->Q σ' H)->t v σ H Q
def y05{i:Â}{x:Ç}(h:QG X àa ϙb)(hi:X.N[i]?=À x)(c:np<=i):JK X np àa (IR i):={{_,h.h,λb K r a q=>by cases a;show q _ (K.UJ Łb.1 É r)}}
def y04{i j:Â}{x y:Ç}{p1 p2:Pos}{kk:Â}(h:QG X Ŭe ŭe)(hi:X.N[i]?=À x)(f:X.N[j]?=À y)(p:np<=i)(s:np<=j):JK X np Ŭe (TN i j):=⟨⟨_,h.h,λ{P o A G H β β' σ d v Q} z K r b q=>by
 unfold TN at b
 rw[ĭp];rename_i B t;cases b;let{a,w,rfl,n,{g,u,rfl,l,{m,k,rfl,e,c}},_}:=r;rw[ĥp];show q _ ((K.UJ Łb.1 É l).UJ Ĵd.1 É e);cases b⟩⟩
def ie{c:MG}(B:Ċd Ą X.A Ø Ĳ)(v:Ϗ=Ã)(hi:SI X tg ť fs)(hg:JK X np tg c)(U:gL X np Ĕc g)(hs:Î (∀x,ðb ť Ø x=pure x) q11):MS X np ũg (B0 fs c g):=by
 let{ti,pi,O}:=ϡb;let{L,R,S}:=hg.h;let{tb,pb,T}:=U.h;show{{_,NA B v pi R pb hs,λ{P G0 r G H τ σ t E} p K a q=>?_}};let{b,C,a}:=zH a;show O K.Qm C λJ o Ha Y _ j=>?_
 let s:=Ìa Y;let l:=Uk.near s.ext q;show{λi m σ H=>m=ϋ-i/\i<=ϋ/\∃τ G,zn X.K ù P o r G H τ σ/\ga c g Âj τ=À t,{ϋ,rfl,Ϥ _,τ,o,s.zE,a},?_};rw[Ĉp];show .inr {j.go i G H ϑb âa hlt,λσ' f=>∃τ G,zn X.K ù P o r G f τ σ'/\ga c g Įi τ=À t,λσ' f z=>{ϋ-ñ,űd _ _ hlt,rfl,hlt,z},λx f y=>?_};let{G3,d,W,u,rd}:=j.uY i G H x f ϑb âa hlt y;rw[ϛp];let{τ1,Q,a}:=zH (show(c _ τ).bind _=_ from a);let{f1,F,a}:=zH a;show S p (Ìa W) rd Q λσ1 K1=>T p K1 F ?_
 cases f1 with
 |nx τ2=>show λσ2 n Z k=>{τ2,n,k,a}|ct τ2=>show λσ2 n Z k=>{τ2,n,k,a}|bk τ2=>cases a;show l|rt m β=>cases a;show l
 let e:i=ϋ:=by omega
 subst e;rw[óm]at a;cases a;show .inl {j.stop _ G H ϑb âa Đ,l _ _ _ K}
#print a
def tQ(β:zl)(i:Â)(π:Á xZ):Ê M:=match β[i]? with
 |À ϓa=>uQ m π|_=>Ä
def ϟa(β:zl)(i:Â)(π:Á xZ)(m2:M):Ê zl:=match β[i]? with
 |À ϓa=>(įn).bind λa=>À Ñn|_=>Ä
def Zd{β:zl}{i:Â}{π:Á xZ}{a:M}(h:tQ β i π=À a):∃m,β[i]?=À ϓa/\uQ m π=À a:=by
 unfold tQ at h
 rw[Ϟp];rename_i m e;show{m,e,h};cases h
def Th{β:zl}{i:Â}{π:Á xZ}{m a m2:M}(h:β[i]?=À ϓa)(e:ug m π m2=À a):ϟa β i π m2=À Ñn:=by unfold ϟa;rw[h];exact(įn).bind _=_;rw[e];rfl
def vY(K:Ð)(a:Á Ç)(f:Ç):È:=∀x∈a,∀C,ų K Ĕ x=À ãa->qT K C/\XV K C f
structure SP(X:Cx)(e:Õ)(i:Â)(π:Á xZ):È where
 h:∃t,PE X e t/\∀{σ:St}{H:Hp}{v u:V}{Q:VK},σ[i]?=À ź->wF X.K H v π u->Q u H->t σ H Q
section
variable{X:Cx}{x f:Ç}{p pos:Pos}{e:Õ}{i:Â}{π:Á xZ}{cs:Á Ç}
def yg(i:Â){x:Ç}{pos:Pos}(d:Î ĥb q12)(hv:Î ķb q13)(c:Î ī q10)(b:Î Ĭa q10):SP X àa i []:={{_,kZ d hv c b,λe a q=>by cases(show _=_ from a);show{_,e,q}}}
def qI(h:SP X e i π)(k:vY X.K cs f)(s:Î ųk q12):SP X ϲe i (π++[.at cs f]):=by let{t,p,d}:=h.h;show{{_,lS p s,λe a q=>?_}};let{w,o,r}:=a.snoc;let{p,x,C,u,m,v,rfl,g,j,b,l,rfl}:=r;let{c,n}:=k x g C j;show d e o {p,C,u,m,_,rfl,b,c,n,l,q}
def z4v{α:Type}:∀{vs:Á α}{s k:Â},ϙ (żn s ö) vs (s+k)=vs[k]?:=λ{vs}=>by
 induction vs with
 |nil=>intro s k;rfl|ï v vs ih=>
  intro s k;rw[Ě,òm];unfold ϙ;cases k with
  |Ϡ=>show Ò rfl|ϡ k=>rw[Ó É,show s+Ŝ=s+1+k by omega,ih];rfl
def z4u{vs:Á V}{k:Â}{w:V}(h:ϙ ϝo vs k=À w):j3 vs (k:Æ)=À w:=by rw[List.range_eq_range',show k=0+k by omega,z4v]at h;let a:=ēa.1;unfold j3 ixN;rw[Ò ĭe,Ò É];show h
def Yk{k:Â}{kk kp}(h:SP X e i π):SP X (.Subscript e (.Constant ðf kk kp) pos) i (π++[.ix k]):=by let{t,p,c}:=h.h;show{{_,BD hV p N5 (BH rfl),λe a q=>?_}};let{w,d,g}:=a.snoc;let{p,f,j,rfl,b,l,rfl}:=g;show c e d {p,f,(k:Æ),_,rfl,rfl,ņa b,z4u l,q}
#print a
section
variable{K:Ð}{n:Â}{P:Á V}{G0 H0 G H:Hp}{β:zl}{σ:St}
def zn.write{m W R:M}{S:V}{i:Â}{π:Á xZ}(E:zn K ı P G0 H0 G H (β++[À R]) (σ++[À S]))(hP:äa<=n)(X:β[i]?=À ϓa)(ha:uQ m π=À W) :∃r v1 L1 Lr,σ[i]?=À ıe/\wF K H r π v1/\xL K G H W v1 L1/\xL K G H R S Lr/\(∀q,L1 q->Lr q->î)/\
   ∀{H':Hp}{m2:M}{L2:Ft},(∀q,¬ L1 q->H' q=H q)->xL K G H' m2 v1 L2->(∀q,L2 q->L1 q\/Lr q)->∃m',ug m π m2=À m'/\zn K n P G0 H0 G H' (Λa (À m')) σ:=by
 let{t,F}:=Ϸ;let v:=ϒc;let l:=Ėc;have hi:i<n:=by rw[<-l];show(Š X).1
 let{r,I,Z}:=Ϟ i m (by rw[vL É];show X);rw[vL É]at I;let{u,x,L}:=Ϟ n R (uI l);rw[uI v]at x;cases x;let{v1,L1,Y,o1,p,re}:=Z.focus Äa ha;let O:∀q,L1 q->t n q->î:=λq a b=>Ŭ i n q É (p q a) b
 show{r,v1,L1,t n,I,Y,o1,L,O,λ{H' m2 L2} s U C=>?_}
 let{m',e',o'}:=re Ìj (λq _ z=>s q z) U (λq z w=>by rcases C q z with c|c;show c;show Þ c λc=>Ŭ i n q É w c)
 let B:∀q,L1 q->G q=Ä/\H0 q=Ä:=λq z=>{Çm.1,Çm.2.1}
 show{m',e',{Įd,λq o z=>?_,λq o z=>?_,Ŵb},v,by rw[èa];show l,hP,λj w h=>?_,λj=>if j=i then ők else if j<n then t j else λ_=>î,λj T h=>?_,λj k q f e d=>?_,λj q z=>?_}
 .rw[s q λw=>by rw[Øg.2]at z;cases z];show čb _ _ z
 .rw[s q λw=>by rw[Øg.1]at z;cases z];show Äa _ _ z
 .let A:j<äa:=ēa.1;let:=õa j w h;rw[ύp]
 .rcases vv h with⟨rfl,w⟩|⟨f,w⟩
  .rw[ϲp];show{r,I,o'}
  .have A:j<n:=by rw[<-l];show(Š w).1
   let{u,x,ou}:=Ϟ j T ñl;rw[vL É]at x;simp only[Ó f,Ò A];show{u,x,ou.loc Ìj T u _ λq z=>s q λN=>Ŭ i j q ãf (p q N) z}
 .let y:∀j,j≠i->j<n->∀q,(t i q/\¬ L1 q)\/L2 q->t j q->î:=λj f A q e d=>by
   rcases e with⟨e,_⟩|e;show Ŭ i j q ãf e d;rcases C q e with c|c;show Ŭ i j q ãf (p q c) d;show Ŭ n j q É c d
  split at e
  .rw[ĝp];show f É;rw[ĝp];show y k É É q e d;show d
  .split at e;rw[ĝp];show y j É É q d e;rw[ĝp];show Ŭ j k q f e d;show d;show e
 .split at z
  .rcases z with⟨z,w⟩|z
   .let{a,b,c}:=Ϲ i q z;let{u,J,Q}:=c;show{a,b,u,(s q w).trans J,Q}
   .show{?_,?_,U.cells m2 _ _ q z}
    .rcases C q z with c|c
     .show ój.1
     .show ϱh.1
    .rcases C q z with c|c
     .show ój.2
     .show ϱh.2.1
  .split at z
   .rename_i f A;let{a,b,c}:=Ϲ j q z;let{u,J,Q}:=c;show{a,b,u,(s q λN=>Ŭ i j q ãf (p q N) z).trans J,Q}
   .show Ĭ
#print a
def kU(i:Â)(π:Á xZ)(b:FE)(c:xK):yY:=λβ=>(ýg).bind λr=>(şc).bind λy=>(æn).bind λa=>match a with
 |.own ßc=>(łn).bind λx=>match x with
  |.int j=>(Ào).bind λn=>(Θe (Β Ŭo)).bind λβ2=>À Ŷb|_=>Ä
 |_=>Ä
def VT(i:Â)(π:Á xZ)(b:FE)(c:xK):yY:=λβ=>(ýg).bind λr=>(şc).bind λy=>(æn).bind λa=>match a with
 |.own řn=>(łn).bind λx=>(łd).bind λx=>match decide (Ī<yN)with
  |Ã=>(Θe (.dic ϲo ſm)).bind λβ2=>À Ŷb|Å=>Ä
 |_=>Ä
section
variable{X:Cx}{np:Â}{o k v:Õ}{i:Â}{π:Á xZ}{fk:FE}{fv:xK}{pos ĕa:Pos}
def YY(ho:SP X o i π)(hk:SE X k fk)(hv:MC X v fv)(hp:Î øi q12)(hs:Î (ϩm ώe v Õc Ø=pure Å) q12)(hw:Î (Ϫm ώe v Ø=pure Ä) q12)(T:Î ((Ϸc ώe Ø).map (·.2)=[Ϙb Ļl Ø]) q12):MS X np Ŭl (kU i π fk fv):=by
 rw[Ϝp];let{to,Q,Y}:=ho.h;show{{_,N9 pv (mV {Q} {pk} oC hp).h hs hw T,λ{P G0 H0 G H β σ fl E} hP K a q=>?_}};rw[Ęp]
 rw[Ăp];rename_i ds;let{xk,hx,a}:=zH a;cases xk with
 |int j=>
  let{d,g,a}:=zH a;let{β2,B,a}:=zH a;cases a;let{mm,s,L}:=Zd R;show kv K hy λw G1 H1 s1 n=>?_
  let{r,v1,L1,Lr,x,A,_}:=n.write Ůa s L;show Y x A ?_;let{Ga,O,ϻ}:=(n.down Ůa).qQ;show kk O hx λu G2 Z x2 r2=>?_
  cases(show u=_ from r2);let{G3,C,_,_}:=ϻ _ _ x2;let F:=n.go C;let{r',v1',L1',Lr',b,e,f,or',W,t}:=F.write Ůa s L;rw[x]at b;cases b;cases Ăc (A.mono C.h) e;let{p,rfl,{N,ev,I,l},J}:=f;let{m',e',U}:=t (H':=zT Z p (Β (N.set d w))) (m2:=.own (Β (Ϣi d y))) (L2:=λq=>q=p) (Ζb (J q)) {p,rfl,{_,yX,ϐf F.ZH d I,by rw[èa];show l},λ_=>Ēa} (Ηe (J q));rw[Th s e']at B;cases B;show{p,N,j,d,rfl,rfl,ev,by rw[I.length];show g,q _ _ _ U}
 |_=>cases a
 cases a
def Ie(hu:Èb+1<Ϫ)(ho:SP X o i π)(hk:SE X k fk)(hv:MC X v fv)(hs:Î (ψb Ļl) q12):MS X np Ŭl (VT i π fk fv):=by
 rw[Ϝp];let{to,Q,W}:=ho.h;show{{_,m9 hu Q pk pv hs,λ{P G0 H0 G H β σ fl E} hP K a q=>?_}};rw[Ęp]
 rw[Ăp];rename_i ks s;let{xk,hx,a}:=zH a;let{b,e,a}:=zH a
 rw[Ϙp];let c:=Ŋ c;let{β2,F,a}:=zH a;cases a;let{mm,n,N}:=Zd R;show kv K hy λw G1 H1 s1 j=>?_
 let{r,v1,L1,Lr,B,C,_}:=j.write Ůa n N;show W B C ?_;let{Ga,O,ϻ}:=(āj Ůa).qQ;show kk O hx λu G2 Y x2 r2=>?_
 let{G3,I,_,_}:=ϻ _ _ x2;let J:=j.go I;let{r',v1',L1',Lr',d,f,g,or',U,t}:=J.write Ůa n N;rw[B]at d;cases d;cases Ăc (C.mono I.h) f;let{p,rfl,{vs,Z,l,x,hl},L}:=g
 let{m',e',T}:=t (H':=zT Y p (.dK (tS İa b w))) (m2:=.own (.dic (wQ ks b) (wB ks s b y))) (L2:=λq=>q=p) (Ζb (L q))
  ⟨p,rfl,⟨wB ks vs b w,by rw[yX,A7 l],Tf l,x.put J.ZH,by
   let h1:=ND (ks:=ks) (vs:=s) (k:=b) (v:=y) (by rw[l,Ćb]);have h2:śc<16777216:=by rw[<-Ćb,<-l];show c
   rw[Ś];omega⟩,λ_=>Ēa⟩ (Ηe (L q))
 rw[Th n e']at F;cases F;show{p,_,rfl,.inl {_,b,Z,YT e r2,by rw[Įa,l,ıa,Ś,<-l];show c,rfl},q _ _ _ T};cases a;cases a
#print a
nonrec def Zf(fs:Á Ç)(f:Ç):Á Ç:=if f∈fs then fs else fs++[f]
def jC{α:Type}(fs:Á Ç)(ms:Á α)(f:Ç)(m:α):Á α:=if f∈fs then uh fs ms f m else ms++[m]
theorem mL{f:Ç}{w:V}:∀{fs:Á Ç}{vs:Á V},ša=ö->Ĕb f w Âo=(Êe).zip ϑm
 | [],[],_=>by unfold Zf jC;rw[Ó è,Ó è];rfl| [],_::_,h=>by cases h|_::_,[],h=>by cases h|g::fs,v::vs,h=>by
  let b:=mL (f:=f) (w:=w) (fs:=fs) (vs:=vs) Îj;rw[îb];unfold Ĕb;by_cases c:g=f;subst c;unfold Zf jC;rw[Ò rfl,Ò Ł,Ò Ł];unfold uh;rw[Ò rfl,îb];rw[Ó c,b];unfold Zf jC;by_cases z:f∈fs;rw[Ò z,Ò z,Ò Ĺi,Ò Ĺi]
  conv=>rhs;unfold uh
  rw[Ó c,îb];let a:f ∉ g::fs:=λw=>by rcases Ň w with w|w;show c w.symm;show z w
  rw[Ó z,Ó z,Ó a,Ó a,ϓd,ϓd,îb]
theorem y7v{α:Type}{f:Ç}{w:α}{fs:Á Ç}{vs:Á α}(h:ša=ö):(Êe).length=(ϑm).length:=by
 unfold Zf jC
 split;rw[Rj];show h;rw[ê,ê,h];rfl
section
variable{K:Ð}{G H:Hp}
theorem űi{κ:Type}[ũb κ]{k:κ}{m2:M}{e:V}{L2:Ft}(g:xL K G H m2 e L2):∀{ks:Á κ}{ms:Á M}{vs:Á V}{L:Ft},Ņ K G H ms vs L->(∀q,L q->L2 q->î)->∃L',Ņ K G H ĺm (uh ks vs k e) L'/\∀q,L' q->L q\/L2 q
 | [],ms,vs,L,h,_=>{L,by unfold uh;show h,λq z=>.inl z}|_::_,[],vs,L,h,_=>by let{rfl,n}:=h;show{L,by unfold uh;show{rfl,n},λq z=>.inl z}
 |k'::ks,m::ms,vs,L,h,dj=>by let{v,r,l,i,rfl,o,j,d,u}:=h;unfold uh;rw[şp];show{λq=>L2 q\/i q,{e,r,L2,i,rfl,g,j,λq a b=>dj q ((ϐ).mpr (.inr b)) a,λq=>Ēa},λq z=>?_};rcases z with z|z;rw[Ũp];show .inl Ġc;rw[Ó c,Ó c];let{L',p,f}:=űi (k:=k) g (ks:=ks) j Ýk;show{λq=>l q\/L' q,{v,_,l,L',rfl,o,p,λq a b=>?_,λq=>Ēa},λq z=>?_};rcases f q b with b|b;show d q a b;show dj q ŕm b;rcases z with z|z;show .inl Ķc;rcases f q z with z|z;show .inl Ġc;rw[Ũp]
theorem âi{m2:M}{c:V}{L2:Ft}(e:xL K G H m2 c L2):∀{ms:Á M}{vs:Á V}{L:Ft},Ņ K G H ms vs L->(∀q,L q->L2 q->î)->Ņ K G H (ms++[m2]) (vs++[c]) (λq=>L q\/L2 q)
 | [],vs,L,h,_=>by let{rfl,n}:=h;show{c,[],L2,λ_=>î,rfl,e,{rfl,λ_ z=>z},λ_ _ z=>z,λq=>{?_,?_}};rintro(z|z);show Þ z (n q);rw[Ôq];show Ĭ
 |m::ms,vs,L,h,dj=>by let{v,r,j,i,rfl,f,g,d,u}:=h;show{v,_,j,λq=>i q\/L2 q,rfl,f,âi e g Ýk,λq a b=>?_,λq=>{?_,?_}};rcases b with b|b;show d q a b;show dj q ŕm b;rintro(z|z);rcases(u q).mp z with z|z;show .inl z;show .inr řa;show .inr Řa;rintro(z|z|z);show .inl Ķc;show .inl Ġc;rw[Ũp]
def äo{f:Ç}{m2:M}{b:V}{L2 L:Ft}{fs:Á Ç}{ms:Á M}{vs:Á V}(d:xL K G H m2 b L2)(h:Ņ K G H ms vs L)(a:∀q,L q->L2 q->î):∃L',Ņ K G H (jC fs ms f m2) (jC fs vs f b) L'/\∀q,L' q->L q\/L2 q:=by unfold jC;by_cases c:f∈fs;rw[Ò c,Ò c];show űi d h a;rw[Ó c,Ó c];show{_,âi d h a,λq z=>z}
#print a
def pL(m:M)(β:zl)(i:Â)(π:Á xZ)(a:Á Ç)(f:Ç):Ê XT:=(ïd).bind λb=>match b with
 |.obj x fs ms=>match decide (x∈a)&&decide ío with
  |Ã=>(ξd (jC fs ms f m)).bind λβ2=>À Ŷb|Å=>Ä
 |_=>Ä
def j8(i:Â)(π:Á xZ)(a:Á Ç)(f:Ç)(b:xK):yY:=λβ=>(b β).bind λr=>pL r.1 r.2 i π a f
def KY(i:Â)(π:Á xZ)(d:Á Ç)(f:Ç)(g:FE):yY:=λβ=>(ïd).bind λe=>match e with
 |.obj x fs ms=>match decide (x∈d)&&decide ío with
  |Ã=>(ϙ fs ms f).bind λc=>(ut c).bind λc=>match c with
   |.int a=>(g Čd).bind λy=>match y with
    |.int b=>(ξd (jC fs ms f (.fz (Δ (a+b))))).bind λβ2=>À Ŷb|_=>Ä
   |_=>Ä
  |Å=>Ä
 |_=>Ä
section
variable{X:Cx}{np:Â}{o v:Õ}{i:Â}{π:Á xZ}{cs:Á Ç}{f:Ç}{fv:xK}{fe:FE}{pos ĕa tpos:Pos}
def zn.aH{K:Ð}{n:Â}{P:Á V}{G0 H0 G H:Hp}{β β2:zl}{σ:St}{x f:Ç}{fs:Á Ç}{ms:Á M}{m e:M}{w:V}{i:Â}{π:Á xZ}(E:zn K ı P G0 H0 G H (β++[À e]) Ùn)(R:äa<=n)(J:β[i]?=À ϓa)(Z:uQ m π=À ĵh)(y:ϟa β i π (.obj x Êe ϒm)=À β2) :∃r p C dx vs,σ[i]?=À ıe/\wF K H r π ϛ/\ų K Ĕ x=À ãa/\H p=À ϊg/\ša=ö/\zn K n P G0 H0 G Ďf β2 σ:=by
 let{r,v1,L1,A,N,O,U,k,j,Q}:=E.write R J Z;let{p,C,dx,vs,Y,rfl,F,L,l,X,B,d}:=U;let h:∀q,q≠p->Ďf q=H q:=λq z=>z_ z
 let u:Ņ K G Ďf ms vs Y:=ųb (λI _ v' g s o=>ϋc ϕb I v' g λq z=>h q λc=>B (c▸s q z)) X;let t:xL K G Ďf e w A:=k.loc ϕb e w A λq z=>h q λc=>j q łl z
 let{g,T,v}:=äo (f:=f) (fs:=fs) t u (λq a b=>j q ((še).mpr (.inr a)) b)
 let{I,e',S}:=Q (H':=zT H p ĸj) (m2:=.obj x Êe ϒm) (L2:=λq=>q=p\/g q) (λq z=>h q λc=>z łl)
  ⟨p,C,dx,jC fs vs f w,g,rfl,F,by rw[yX,mL l],y7v l,T,λz=>by
   rcases v p z with z|z;show B z;show j p ((d p).mpr ł) z,λq=>Ēa⟩ (λq z=>by
   rcases z with rfl|z;show .inl ((še).mpr ł);rcases v q z with z|z;show .inl ((še).mpr Řa);rw[Ũp])
 rw[Th J e']at y;cases y;show{r,p,C,dx,vs,N,O,F,L,l,S}
def kX(u:SP X o i π)(k:vY X.K cs f)(hv:MC X v fv)(F:Î (ψb Ŀl) q12):MS X np (.Assign ħl v pos) (j8 i π cs f fv):=by
 let{tv,s,R}:=Ŗb;let{S,e,A}:=u.h;show{{_,y7m e s F,λ{P G0 Y G H β σ fl E} Z K a q=>?_}};obtain⟨⟨m,β1⟩,Q,a⟩:=zH a;let{U,g,a}:=zH (show(tQ β1 i π).bind _=_ from a)
 rw[Ăp];rename_i x fs ms
 rw[Ϙp];rw[ϵp];let L:=Ŋ c.2;let{β2,n,a}:=zH a;cases a;let{mm,B,J}:=Zd g;show R K Q λw G1 T W O=>?_
 let{r,p,C,z,vs,d,j,N,b,l,t}:=O.aH Ůa B J n;let{y,I}:=k x ϡo C N;show A d j {p,C,z,_,rfl,b,y,I,by rw[Įa,l,ıa,<-l];show L,q _ _ _ t};cases a;cases a
def y0d(ho:SP X o i π)(k:vY X.K cs f)(hv:SE X v fe):MS X np (.AugAssign ĝl .Add v pos) (KY i π cs f fe):=by
 let{tv,pv,kv}:=Ŗb;let{to,Q,Y}:=ho.h;show{{_,y7n Q pv z7r,λ{P G0 H0 G H β σ fl E} hP K e q=>?_}};let{nd,R,e}:=zH e
 split at e;rename_i x fs ms
 split at e;rw[Ŀp];rw[ϵp];let hx:=Ŋ c.1;let hl:=Ŋ c.2;let{ch,n,e}:=zH e;let{dc,z,t}:=zH e;cases jb z
 split at t;rename_i a;let{y,hy,e}:=zH t
 rw[ϯp];let{β2,S,e}:=zH e;cases e;let{mm,I,J}:=Zd R;let K0:=K.Zz (d:=.zC) (v:=.zC) rfl;let{r,v1,L1,Lr,A,B,Z,_}:=K0.write Ůa I J;let{p,C,dx,vs,L',rfl,L,hp,l,rs,nL,uL}:=Z;let{cl,na}:=k x hx C L;let{vc,Lc,O,{rc,_},_}:=õd rs n;cases(show vc=_ from rc);refine Y A B {p,C,dx,_,_,rfl,hp,cl,na,by rw[M_];show O,?_};let{Ga,N,ϻ}:=K.qQ;show kv N hy λu G2 H2 x2 r2=>?_
 cases(show u=_ from r2);let{G3,W,K3,_}:=ϻ _ _ x2;let{r',p',C',s,T,g,m,j,w,F,U}:=(K3.Zz (d:=.int (a+b)) (v:=.int (a+b)) rfl).aH Ůa I J S;rw[A]at g;cases g;cases Ăc (ðg W.h) m;let eC:C'=C:=by rw[L]at j;cases j;rfl
 subst eC;show{_,_,rfl,rfl,s,_,w,by rw[Įa,F,ıa,<-F];show hl,q _ _ _ U};cases e;cases t;cases e;cases e
#print a
open Classical in
nonrec def cut(H:Hp)(L:Ft):Hp:=λq=>if L q then Ä else H q
def dU{H:Hp}{L:Ft}{q:Ì}(h:L q):cut H L q=Ä:=by unfold cut;rw[Ò h]
theorem jf{H:Hp}{L:Ft}{q:Ì}(h:¬ L q):cut H L q=H q:=by unfold cut;rw[Ó h]
theorem dW{H:Hp}{L:Ft}{q:Ì}(h:cut H L q=Ä):L q\/H q=Ä:=by rw[Ņp];show .inl c;rw[jf c]at h;show .inr h
abbrev FM:=Á M->Ê ìi
def xH(K:Ð)(F:FM):Sp:=λa H Q _=>∃G ms L ms' m',zm G H/\Ņ K G H ms a L/\(∀q,L q->G q=Ä)/\F ms=À (ms',m')/\
 ∀v G' H' L',zS G Åp G' H'->Ņ K G' H' (m'::ms') (v::a) L'->(∀q,L' q->G' q=Ä/\cut H L q=Ä)->Q v H'
section
variable{K:Ð}{n:Â}{P:Á V}{G0 H0 G H G' H':Hp}{β:zl}{σ:St}
def zn.Qq{m:M}{v:V}{L:Ft}(E:zn K n P G0 H0 G H β σ)(x:zS G H G' H')(o:xL K G' H' m v L)(k:∀q,L q->G' q=Ä/\H q=Ä):zn K ı P G0 H0 G' H' ľc Ĉa:=by
 let{p,F}:=Ϸ;let C:=ĩa x;let l:∀i q,p i q->L q->î:=λi q z c=>ıb.2.2.some (k q c).2
 refine{C.ext,by rw[żp],by rw[Ùq],by rw[Ϥp],λi u h=>?_,λj=>if j<n then p j else if j=n then L else λ_=>î,λi r h=>?_,λi j q s f d=>?_,λi q z=>?_};rw[ŝp]
 rw[vL I];show õa i u h;rcases W4 h with⟨c,e⟩|⟨c,e⟩;rw[Ģ]at c;let{u,J,B}:=Ϟ i r e;refine{u,by rw[vL Ϸb];show J,?_};rw[ϖp];show B.loc x.g r u _ λq z=>?_
 let{w,t,_}:=ıb.2.2;rw[t];show x.h _ _ t;rw[öp];show o;rw[ěp];show Ŭ i j q s f d;rw[ĝp];show l i q f d;show d;rw[ěp];show l j q d f;rw[ĝp];show s É;show d;show f;rw[Ġp];show{ãj.1,ϵd ãj.2,Ϭi m v _ q z};show Ĭ
def zn.back{m S:M}{i:Â}{π:Á xZ}(E:zn K n P G0 H0 G H β σ)(X:β[i]?=À ϓa)(ha:uQ m π=À S) :∃r v1 L1,σ[i]?=À ıe/\wF K H r π v1/\xL K G H S v1 L1/\(∀q,L1 q->G q=Ä)/\
   ∀{G' H':Hp}{m' nd':M}{v:V}{Lr L2:Ft},zS G (cut H L1) G' H'->xL K G' H' m' v Lr->xL K G' H' nd' v1 L2->(∀q,Lr q->L2 q->î)->(∀q,Lr q\/L2 q->G' q=Ä/\cut H L1 q=Ä)->
    ∃mm,ug m π nd'=À mm/\zn K ı P G0 H0 G' H' (β.set i (À mm)++[À m']) Ĉa:=by
 let{t,F}:=Ϸ;have hi:i<n:=by rw[<-Ģ];show(Š X).1
 let{r,N,om}:=Ϟ i m X;let{v1,L1,Y,o1,I,re}:=om.focus Äa ha;show{r,v1,L1,N,Y,o1,λq z=>Èm.1,λ{G' H' m' nd' v Lr L2} x L T dj C=>?_}
 let s:∀j q,t j q->¬ L1 q->H' q=H q:=λj q z w=>by let{u,B,_}:=Ěf.2.2;rw[B];show x.h _ _ ((jf w).trans B)
 let y:∀j q,t j q->¬ L1 q->(Lr q\/L2 q)->î:=λj q z w c=>by let e:=(C q c).2;rw[jf w]at e;show Ěf.2.2.some e
 let{mm,e',o'}:=re x.g (λq z w=>s i q z w) T (λq z w=>by by_cases c:L1 q;show c;show(y i q w c Řa).elim)
 let A:∀j q,j≠i->t j q->¬ L1 q:=λj q p z w=>Ŭ i j q ěn (I q w) z
 let J:∀q,cut H L1 q=Ä->H0 q=Ä:=λq z=>by rcases dW z with z|z;show Èm.2.1;show ϵd z
 let l:(Λa (À mm)).length=n:=by rw[ŉp]
 show{mm,e',{Ŋh x.g,λq o z=>x.h _ _ ?_,öa,λq z=>?_},by rw[żp],by rw[ê,l];rfl,by rw[Ϥp],λj u h=>?_,λj=>if j=i then ők else if j<n then t j else if j=n then Lr else λ_=>î,λj O h=>?_,λj k q p f d=>?_,λj q z=>?_}
 .rw[jf λw=>by rw[(Ϲ i q (I q w)).2.1]at z;cases z];show čb _ _ z
 .rcases Œb q z with w|w
  .show Ŵb q w
  .show .inr (J q w)
 .let Z:j<σ.length:=by
   rw[ćp]
  rw[vL Z];show õa j u h
 .rcases W4 h with⟨c,e⟩|⟨c,e⟩
  .rw[l]at c;rcases vv e with⟨rfl,w⟩|⟨p,w⟩
   .rw[ϲp];show{r,by rw[vL Ϸb];show N,o'}
   .let{u,eu,ou}:=Ϟ j O w;simp only[Ó p,Ò c];show{u,by rw[vL Ϸb];show eu,ou.loc x.g O u _ λq z=>s j q z Êo}
  .cases e;rw[l]at c;subst c;show{_,uI ĸ,?_};simp only[Ó (Ϲa hi),èb,Ϧ,ś];show L
 .let R:∀j,j≠i->∀q,(t i q/\¬ L1 q)\/L2 q->t j q->î:=λj p q f d=>by
   rcases f with⟨f,_⟩|f;show Ŭ i j q ěn f d;show y j q d (A j q p d) (.inr f)
  let U:∀q,(t i q/\¬ L1 q)\/L2 q->Lr q->î:=λq f d=>by rcases f with⟨f,w⟩|f;show y i q f w ϟi;show dj q d f
  let Q:∀j,j≠i->∀q,t j q->Lr q->î:=λj p q f d=>y j q f (A j q p f) ϟi
  rw[ϔp]
  .rw[ĝp];show p É;rw[ĝp];show R k É q f d;rw[ĝp];show U q f d;show d
  .rw[ěp];show R j É q d f;rw[ĝp];show Ŭ j k q p f d;rw[ĝp];show Q j É q f d;show d;rw[ěp];show U q d f;rw[ĝp];show Q k É q d f;rw[ĝp];show p É;show d;show f
 .let W:∀q,t j q->¬ L1 q->G' q=Ä/\H0 q=Ä/\Bx H' q:=λq z w=>by
   let{a,b,u,B,cu}:=Ϲ j q z;show{?_,b,u,(s j q z w).trans B,cu};cases e:G' q with
   |Ä=>rfl|À o=>rcases Œb q Ϝc with c|c;show Þ a c;rw[jf w,B]at c;cases c
  rw[Ĭp]
  .rename_i ej;subst ej;rcases z with⟨z,w⟩|z;show W q z w;show{Òp.1,J q Òp.2,T.cells nd' _ _ q z}
  .rename_i p
   rw[Ĭp];show W q z Êo;rw[Ĭp];show{Ñp.1,J q Ñp.2,L.cells m' _ _ q z};show Ĭ
#print a
inductive AV where
 |v (d:D)|p (i:Â) (π:Á xZ)
abbrev t_:=zl->Ê (Á AV)
def Wh(K:Ð)(G H:Hp)(σ:St):Á AV->Á V->È
 | [],vs=>vs=[]|.v d::as,vs=>∃v r,vs=v::r/\za K G d v/\Wh K G H σ as r|.p i π::as,vs=>∃v r w,vs=v::r/\σ[i]?=À (À w)/\wF K H w π v/\Wh K G H σ as r
structure MA(X:Cx)(es:Á Õ)(f:t_):È where
 h:∃t,PA X es t/\∀{P:Á V}{G0 H0 G H:Hp}{β:zl}{σ:St}{as:Á AV}{Q:Á V->Hp->È},zn X.K ù P G0 H0 G H β σ->f β=À as->(∀vs G' H',zS G H G' H'->Wh X.K G' H' σ as vs->Q vs H')->t σ H Q
nonrec def vQ:t_:=λ_=>À []
def Ur(f:FE)(r:t_):t_:=λβ=>(Óg).bind λd=>match wJ d with
 |Ã=>(ğj).bind λa=>À Õp|Å=>Ä
def p7(f:FE)(r:t_):t_:=λβ=>(éj).bind λd=>(ğj).bind λa=>À Õp
nonrec def p_:M->Â->Á xZ->AV
 |.fz d,_,_=>.v d|_,i,π=>.p i π
def qB(i:Â)(π:Á xZ)(r:t_):t_:=λβ=>(ïd).bind λb=>(ğj).bind λa=>À (p_ b i π::a)
section
variable{X:Cx}{e:Õ}{es:Á Õ}{f:FE}{r:t_}{i:Â}{π:Á xZ}
def jA:MA X [] vQ:={{_,jw,λE a q=>by rw[Ťp]}}
def B1(n:SE X e f)(y:MA X es r)(h:Î Óa q12):MA X đ (Ur f r):=by
 let{t,p,k}:=n.h;let{I,A,s}:=y.h;show{{_,tR p A h,λE a q=>?_}};let{d,j,a}:=zH a
 rw[Ϙp];let{F,b,a}:=zH a;cases a;let{J,l,ϻ}:=E.qQ;show k l j λv G H x r=>?_
 let{K,o,u,w,_}:=ϻ _ _ x;refine s u b λz B C i m=>q _ _ _ (ϫi i) {v,z,rfl,(w d v c r).mono i.g,m};cases a
def jo(o:SE X e f)(l:MA X es r)(h:Î Óa q12):MA X đ (p7 f r):=by
 let{t,p,k}:=o.h;let{A,s,i}:=l.h;show{{_,tR p s h,λE a q=>?_}};let{d,j,a}:=zH a;let{u,b,a}:=zH a;cases a;show k E.Qm j λv w y x r=>?_
 show i (ĩa x) b λm z B c n=>q _ _ _ (üc c) {v,m,rfl,ôa c.g,n}
def pG(B:SP X e i π)(z:MA X es r)(h:Î Óa q12):MA X đ (qB i π r):=by
 let{t,p,k}:=B.h;let{J,F,s}:=z.h;show{{_,tR p F h,λE a q=>?_}};let{A,u,a}:=zH a;let{G,o,a}:=zH a;let{K,C,y}:=Zd u;let{w,n,H,f,j,v,_}:=đj C y;show k f j (s E o λl I L c m=>q _ _ _ c ?_);cases A with
 |fz d=>cases a;show{n,l,rfl,v.1.mono c.g,m}|own d=>cases a;show{n,l,w,rfl,f,ųc c.h,m}|obj x fs ms=>cases a;show{n,l,w,rfl,f,ųc c.h,m}|tab ks ms=>cases a;show{n,l,w,rfl,f,ųc c.h,m}|tp b ms=>cases a;show{n,l,w,rfl,f,ųc c.h,m}
#print a
nonrec def Q6:Á AV->Ê ŉb
 | []=>À []|.v d::as=>(Q6 as).bind λa=>À (d::a)|.p _ _::_=>Ä
def M9:Á AV->Ê (Á D×Â×Á xZ×Á D)
 | []=>Ä|.v d::as=>(M9 as).bind λr=>À (d::r.1,r.2)|.p i π::as=>(Q6 as).bind λb=>À ([],i,π,b)
nonrec def jj(ds:Á D):Á M:=Ĩe .fz
def jd(F:FM)(as:Á AV)(β:zl):Ê (M×zl):=match Q6 as with
 |À ds=>(F (jj ds)).bind λr=>À (r.2,β)|Ä=>(M9 as).bind λc=>(tQ β c.2.1 c.2.2.1).bind λb=>(F (jj c.1++b::jj c.2.2.2)).bind λr=>(r.1[c.1.length]?).bind λa=>(ϟa β c.2.1 c.2.2.1 a).bind λβ'=>À (r.2,β')
def p8(F:FM)(f:t_):xK:=λβ=>(Ńa).bind λa=>jd F a β
section
variable{K:Ð}{n:Â}{P:Á V}{G0 H0 G H G' H':Hp}{β:zl}{σ:St}
theorem Im:∀{ds:Á D}{vs:Á V},â K G ds vs->Ņ K G H (jj ds) vs Òe
 | [],_,r=>{r,λ_ z=>z}|d::ds,_,r=>by let{v,r,rfl,a,b}:=r;show{v,r,λ_=>î,λ_=>î,rfl,{a,λ_ z=>z},Im b,λ_ z=>Ĭ,λq=>{λz=>Ĭ,λz=>Ĭ id id}}
theorem lJ{g:M}{v1:V}{c:Ft}(o:xL K G H g v1 c){b:Á D}{e:Á V}(f:â K G b e):∀{a:Á D}{va:Á V},â K G a va->Ņ K G H (jj a++g::jj b) (va++v1::e) c
 | [],va,r=>by cases(show va=[]from r);show{v1,e,c,λ_=>î,rfl,o,Im f,λ_ _ z=>z,λq=>{.inl,λz=>Ĭ id ϯ}}|d::ds,_,r=>by let{v,r,rfl,h,i}:=r;show{v,_,λ_=>î,c,rfl,{h,λ_ z=>z},lJ o f i,λ_ z=>Ĭ,λq=>{.inr,λz=>Ĭ ϯ id}}
theorem Li:∀{as:Á AV}{ds:Á D}{vs:Á V},Q6 as=À ds->Wh K G H σ as vs->â K G ds vs
 | [],ds,vs,e,r=>by cases e;show r|.v d::as,ds,vs,e,r=>by let{c,f,e}:=zH e;cases e;let{v,r,rfl,a,b}:=r;show{v,r,rfl,a,Li f b}
 |.p i π::as,ds,vs,e,r=>by cases e
theorem cq:∀{as:Á AV}{a b:Á D}{i:Â}{π:Á xZ}{vs:Á V},M9 as=À (a,i,π,b)->Wh K G H σ as vs->∃va v1 vb w,vs=va++v1::vb/\â K G a va/\â K G b vb/\σ[i]?=À (À w)/\wF K H w π v1
 | [],a,b,i,π,vs,e,r=>by cases e|.v d::as,a,b,i,π,vs,e,r=>by obtain⟨⟨o,q,π',l⟩,h,e⟩:=zH e;cases e;let{v,r,rfl,n,g}:=r;let{va,v1,vb,w,rfl,m,k,f,c}:=cq h g;show⟨v::va,v1,vb,w,rfl,{v,va,rfl,n,m},k,f,c⟩
 |.p j ρ::as,a,b,i,π,vs,e,r=>by let{l,h,e}:=zH e;cases e;let{v,r,w,rfl,f,va,g}:=r;show{[],v,r,w,rfl,rfl,Li h g,f,va}
theorem N2{v1:V}{c:M}:∀{ms:Á M}{vs:Á V}{L:Ft}{k:Â},Ņ K G H ms vs L->ms[k]?=À c->vs[k]?=À v1->∃L2,xL K G H c v1 L2/\∀q,L2 q->L q
 | [],_,_,_,_,e,_=>by cases e|m::ms,_,L,0,h,e1,e2=>by let{v,r,f,g,rfl,a,b,d,u}:=h;cases e1;cases e2;show{f,a,λq z=>(ϐ).mpr řa}
 |m::ms,_,L,k+1,h,e1,e2=>by let{v,r,f,g,rfl,a,b,d,u}:=h;let{L2,o,s}:=N2 (k:=k) b ťl Ťl;show{L2,o,λq z=>(ϐ).mpr (.inr ċd)}
def zn.call{F:FM}{as:Á AV}{vs:Á V}{m:M}{β':zl}{Q:VK}{E0:XK}(E:zn K n P G0 H0 G H β σ)(B:Wh K G H σ as vs)(c:jd F as β=À (m,β'))(q:∀v G' H',zm G G'->zn K ı P G0 H0 G' H' Įh Ĉa->Q v H'):xH K F vs H Q E0:=by
 unfold jd at c
 split at c;rename_i ds e;rw[Ëq];cases c;show{G,_,_,_,_,Äa,Im (Li e B),λ_ z=>Ĭ,h,λv G' H' L' x o f=>?_}
 let r:cut H Òe=H:=by
  funext q
  show jf (λz=>z)
 rw[r]at x;let{v',U,La,Lb,e2,l,A,s,u}:=o;cases e2
 show q v G' H' x.g (E.Qq x l λq z=>by let{a,b}:=f q Ķc;rw[r]at b;show{a,b});obtain⟨⟨a,i,π,b⟩,J,c⟩:=zH c;let{nd,L,c}:=zH c;rw[Ëq];let{N,p,c}:=zH c;let{β2,t,c}:=zH c;cases c;let{mm,I,ha}:=Zd L;let{w,v1,Y,O,R,l,W,T}:=đj I ha;let{xa,Z,xb,w',rfl,C,r2,d,j}:=cq J B;rw[O]at d;cases d;cases Ăc R j;show{G,_,Y,_,_,Äa,lJ l r2 C,W,h,λv G' H' L' x o f=>?_};let{v',U,La,Lb,e2,S,ob,s,u}:=o;cases e2
 let{L2,A,y}:=N2 (v1:=v1) ob p (by rw[<-C.length,Ęb Đ,Ťb];rfl)
 let{m3,e3,X}:=T x S A (λq z w=>s q z (y q w)) (λq z=>by rcases z with z|z;show f q Ķc;show f q (Ηa (y q z)))
 rw[Th I e3]at t;cases t;show q v G' H' x.g X
#print a
section
variable{X:Cx}{x m c:Ç}{ps:Á Ç}{j k:Â}{F:FM}{e o:Õ}{es:Á Õ}{fa:t_}{p pos Ϻ:Pos}{i:Â}{π:Á xZ}
def gb(h:vI ø X.w X.K ó ŕ x ps k Ůb)(r:yp j X.A)(m:Gl X x)(o:MA X đ fa)(hk:Î Őb q10)(a:Î ī q10)(z:Î ęa q12):MC X Ųa (p8 F fa):=by
 let{t,f,u}:=o.h;show{{_,BE h r m f hk a z,λE c q=>?_}};let{B,b,c}:=zH c;show u E b λH C G d l=>?_
 rw[ŵ];show(Äj).call l c λv i y s n=>q v i y (d.g.trans s) n
def uO(P:ë)(w:å)(K:Ð)(b:Ç->Ê Value)(a:Heap)(c m:Ç)(ps:Á Ç)(k:Â)(sp:Sp):È:=
 ∃(C f:Ì) (fd:Ľ),ų K Ĕ c=À ãa/\qT K C/\C6 K C m f/\qS K fd ps []/\xN P w K b a xJ k f fd ps sp
def qY(c m:Ç)(i:Â)(π:Á xZ)(F:FM)(f:t_):xK:=λβ=>(ïd).bind λb=>match b with
 |.obj x fs _=>match decide (x=c)&&!(decide (m∈fs))with
  |Ã=>(Ńa).bind λa=>jd F (.p i π::a) β|Å=>Ä
 |_=>Ä
theorem KR{f:Ç}:∀{fs:Á Ç}{vs:Á V},f ∉ fs->(Âo).lookup f=Ä
 | [],_,_=>rfl|_::_,[],_=>rfl|g::fs,v::vs,h=>by
  rw[îb,ϒd]
  let c:(f==g)=Å:=by
   let:f≠g:=λz=>h (z▸Ł)
   rw[đp]
  rw[c];show KR λz=>h Ĺi
def z2m{P:Á V}{G0 H0 G H:Hp}{β β':zl}{σ:St}{z:M}{Q:VK}{C:Ì}{t:TA}{r:TE}{E0:XK}(d:ų X.K Ĕ c=À ãa)(L:∀{σ:St}{H:Hp}{v u:V}{Q:VK},σ[i]?=À ź->wF X.K H v π u->Q u H->r σ H Q)(U:∀{P:Á V}{G0 H0 G H:Hp}{β:zl}{σ:St}{as:Á AV}{Q:Á V->Hp->È},zn X.K ù P G0 H0 G H β σ->fa β=À as->(∀vs G' H',zS G H G' H'->Wh X.K G' H' σ as vs->Q vs H')->t σ H Q)(E:zn X.K ù P G0 H0 G H β σ)(e:qY c m i π F fa β=À (z,β'))(q:∀v G' H',zm G G'->zn X.K Ój P G0 H0 G' H' (β'++[À z]) Ĉa->Q v H'):S8 C m Ůb [] E0 r t σ H Q:=by
 let{nd,B,a}:=zH e
 rw[Ăp];rename_i x Y ms
 rw[Ăp];rename_i k;rw[Č]at k;cases Ŋ k.1
 let O:m ∉ Y:=by let:=k.2;rw[đp]
 let{as,b,e}:=zH a;let{mm,j,T}:=Zd B;let{w,v1,L1,n,o,R,_}:=đj j T;let{p,Z,J,vs,L',rfl,y,A,l,rs,nL,uL}:=R;rw[d]at y;cases y;show L n o {p,J,_,rfl,A,KR O,?_};show U E b λvs G1 H1 f S=>?_
 rw[ŵ];show(Äg).call (as:=.p i π::as) {_,vs,w,rfl,n,ýj f.h,S} e λv G' H' s I=>q v G' H' (f.g.trans s) I;cases a;cases a
def TX{pl:Sem Ñ}(h:uO ø X.w X.K ó ŕ c m ps k Ůb)(r:yp j X.A)(x:SP X o i π)(hk:Î Őb q10)(l:ď ϧb Ø=(do
   let ov <-ď o Ø
   standAt ôd
   let (f,first) <-holding [ov] Àd
   ðc pos f first Ãf Ϫb):=by rfl):MC X ϧb (qY c m i π F vQ):=by
 let{C,f,L,p,y,v,b,n}:=h;let{I,g,a}:=x.h;show{{_,N6 g y v n (ôa hk) b .nil Xz l,λE u q=>z2m (t:=Yo) p a (λ{P B J G H β σ z Q} s e d=>by cases e;show d _ _ _ (Ąa s.ext.gh) rfl) E u q}}
def Fw(P:ë)(w:å)(K:Ð)(b:Ç->Ê Value)(a:Heap)(c:Ç)(ps:Á Ç)(k:Â)(sp:Sp):È:=
 ∃(C f:Ì) (fd:Ľ),ų K Ĕ c=À ãa/\b c=À ļ/\Mk K C f/\qS K fd ps []/\xN P w K b a xJ k f fd ps sp
def En(c:Ç)(F:FM)(f:t_):xK:=λβ=>(Ńa).bind λa=>(Q6 a).bind λb=>(F (.obj c [] []::jj b)).bind λr=>match r.2 with
 |.fz .zC=>(r.1[0]?).bind λm=>À (m,β)|_=>Ä
def y00(h:Fw ø X.w X.K ó ŕ c ps k Ůb)(hr:yp j X.A)(hg:Gl X c)(ha:MA X đ fa)(hk:Î (k+1<=j) q10)(R:Î Ÿe q10)(N:Î ęa q12) :MC X (.Call įf đ [] pos) (En c F fa):=by
 let{C,f,fd,ns,W,mk,b,FF}:=h;let{t,pa,ka}:=ha.h;rw[Ū,Č]at N;show{{_,y6n mk FF Ľn hg W b .nil Xz pa R (qJ N.1) (WB N.2),λ{P G0 H0 G H β β' σ mr Q} E d q=>?_}};let{as,T,d}:=zH d;let{ds,J,d}:=zH d;obtain⟨⟨Y,m'⟩,hF,d⟩:=zH d;show ka E T λvs x m x1 ra y i r l ne=>?_
 rw[ŵ];let S:=ĩa x1;let rd:=Li J ra
 rw[ĝp];rename_i em
 change m'=.fz .zC at em
 subst em;let{m0,h0,d}:=zH d;cases d;let U:∀q,q≠y->q≠i->zT (zT m i (.own y)) y (.ins C i []) q=m q:=λq z w=>by rw[z_ z,z_ w]
 let gy:x y=Ä:=S.ext.gh.free r
 let s2:zm x Þk:=λq o z=>by let n:=S.ext.gh _ _ z;rw[U q (λc=>by subst c;rw[r]at n;cases n) (λc=>by subst c;rw[l]at n;cases n)];show n
 show{x,.obj c [] []::jj ds,λq=>q=y,Y,.fz .zC,s2,{_,vs,λq=>q=y,λ_=>î,rfl,{y,C,i,[],λ_=>î,rfl,ns,yX,rfl,{rfl,λ_ z=>z},λz=>z,λq=>{.inl,λz=>Ĭ id ϯ}},Im rd,λ_ _ z=>z,λq=>{.inl,λz=>Ĭ id ϯ}},λq z=>z▸gy,hF,λv Z H' L' B o hN=>?_};let{v',r',La,Lb,e2,oa,ob,dj,u}:=o;cases e2;show{oa.1,?_};let{L2,o2,O}:=N2 (v1:=.ref y) ob h0 rfl
 let cn:∀q,cut Þk (λq=>q=y) q=Ä->m q=Ä:=λq z=>by rcases dW z with z|z;show z▸r;by_cases s:q=y;show s▸r;by_cases I:q=i;show I▸l;rw[U q s I]at z;show z
 let x3:zS x m Z H':=⟨B.g,λq o z=>B.h _ _ (by
  let s:q≠y:=λc=>by subst c;rw[r]at z;cases z
  let I:q≠i:=λc=>by subst c;rw[l]at z;cases z
  rw[jf (L:=λq=>q=y) s,U q s I];show z),B.gh,λq z=>by
  rcases B.new q z with w|w;rw[Õq];show .inr (cn q w)⟩
 show q _ Z H' (x1.g.trans x3.g) (S.Qq x3 o2 λq z=>by let{a,b}:=hN q (Ηa (O q z));show{a,cn q b});cases d
#print a
section
variable{K:Ð}{G H:Hp}
theorem Ÿn:∀{ms:Á M}{vs:Á V}{L:Ft},Ņ K G H ms vs L->∃Ls:Â->Ft,(∀(i:Â)(m:M),ms[i]?=À m->∃v,vs[i]?=À v/\xL K G H m v ĭj)/\(∀(i j:Â)(q:Ì),i≠j->Ls i q->Ls j q->î)/\∀i q,Ls i q->L q
 | [],_,_,_=>{λ_ _=>î,{λi m h=>ŀn,{λ_ _ _ _ z=>Ĭ,λ_ _ z=>Ĭ}}}|m::ms,_,L,h=>by
  let{v,r,s,t,rfl,l,n,d,u}:=h;let{Ls,o,k,a}:=Ÿn n;show{λi=>match i with|0=>s|j+1=>Ls j,λi p e=>?_,λi j q g b f=>?_,λi q z=>?_};cases i with
  |Ϡ=>cases e;show{v,rfl,l}|ϡ j=>show o j p ųa
  cases i with
  |Ϡ=>
   cases j with
   |Ϡ=>show g rfl|ϡ j=>show d q b (a j q f)
  |ϡ i=>
   cases j with
   |Ϡ=>show d q f (a i q b)|ϡ j=>show k i j q (λc=>g Ėo) b f
  cases i with
  |Ϡ=>show(ϐ).mpr řa|ϡ j=>show(ϐ).mpr (.inr (a j q z))
theorem ãi:∀{ms:Á M}{vs:Á V}{Ls:Â->Ft},(∀(i:Â)(m:M),ms[i]?=À m->∃v,vs[i]?=À v/\xL K G H m v ĭj)->(∀(i j:Â)(q:Ì),i≠j->Ls i q->Ls j q->î)->ö=ů->∃L,Ņ K G H ms vs L/\∀q,L q->∃i,i<ů/\Ls i q
 | [],vs,Ls,_,_,l=>by
  cases vs with
  |nil=>show{λ_=>î,{rfl,λ_ z=>z},λ_ z=>Ĭ}|ï v r=>cases l
 |m::ms,[],Ls,_,_,l=>by cases l|m::ms,v::vs,Ls,h,d,l=>by
  let{L,o,c}:=ãi (ms:=ms) (vs:=vs) (Ls:=λi=>Ls ñ) (λi k e=>by let{u,b,a}:=h ñ k ųa;show{u,by simpa using b,a}) (λi j q p=>d ñ ϸ q É) īe
  let{u,b,a}:=h 0 m rfl;cases b;show{λq=>Ls 0 q\/L q,{v,vs,Ls 0,L,rfl,a,o,λq f g=>?_,λq=>Ēa},λq z=>?_};let{i,_,z}:=c q g;show d 0 ñ q É f z;rcases z with z|z;show{0,Ĉn _,z};let{i,n,z}:=c q z;show{i+1,ñm n,z}
#print a
nonrec def YA:Á Új->Ê (Á M)
 | []=>À []|o::r=>þj λm=>(YA r).bind λa=>À (m::a)
def GC(b:Â):XT->Ê ìi
 |.rt m β=>(ćm).bind λa=>À (a,m)|.nx β=>(ćm).bind λa=>À (a,.fz .zC)|_=>Ä
def wf(a n:Â)(b:yY)(ms:Á M):Ê ìi:=(b (Κe (n-ů))).bind (GC a)
def vf(c n:Â)(b:yY):FM:=λa=>if ό=c then wf c n b a else Ä
def vy{a n:Â}{b:yY}:∀ms r,vf a n b ms=À r->ů=a/\wf a n b ms=À r:=λms r h=>by
 unfold vf at h
 rw[Ϻp]
theorem cm:∀{os:Á Új} {ms:Á M},YA os=À ms->ů=os.length/\∀(i:Â)(m:M),ms[i]?=À m->os[i]?=À ϓa
 | [],ms,h=>by cases h;show{rfl,λi m e=>by cases e}|o::r,ms,h=>by
  let{d,b,h}:=zH h;let{c,a,h}:=zH h;cases h;subst b;let{l,g}:=cm a;refine{by rw[Ě,Ě,l],λi m e=>?_};cases i with
  |Ϡ=>cases e;rfl|ϡ j=>show g j m ųa
section
variable{K:Ð}
def z9p{N:Á Ç}{G H:Hp}{ms:Á M}{vs:Á V}{L:Ft}(s:zm G H)(o:Ņ K G H ms vs L)(f:∀q,L q->G q=Ä)(u:ů<=Ϝ):zn K Ϝ vs G Åp G H (Κe (Ϝ-ů)) ëi:=by
 let l:=Ϗa;let{g,r,k,d}:=o.split;let b:∀q,L q->Bx H q:=Ôc (λm _ v j p=>p.cells m v j) o
 let a:∀(i:Â)(v:V),vs[i]?=À v->ëi[i]?=À ź:=λi v e=>by unfold Ée;rw[éb (by rw[æ];show İe.1),ũ,e];rfl
 show{{Ķa _,λq o e=>?_,s,λq z=>.inl z},?_,?_,by omega,a,g,λi m h=>?_,k,λi q z=>{f q Ōi,dU Ōi,b q Ōi}};rw[Ņp];rw[dU c]at e;cases e;rw[jf c]at e;show e;unfold Ée;rw[ňp];rw[ňp];let{w,e,z}:=B2 h;cases z;let{v,n,t}:=r i _ e;show{v,a i v n,t}
def iN{n:Â}{G0 H0 G H:Hp}{vs:Á V}{β:zl}{σ:St}{m:M}{v:V}{ms:Á M}(E:zn K ı vs G0 H0 G H ľc Ĉa)(s:ö<=n)(h:YA (β.take ö)=À ms) :∃L,Ņ K G H Ðg ĳe L/\∀q,L q->G q=Ä/\H0 q=Ä:=by
 let{Ls,F}:=Ϸ;let{l,g}:=cm h;rw[Áa,Ėc,œa s]at l;let{u,p,x}:=Ϟ n m ūf;rw[uI ϒc]at p;cases p
 let{L,o,r}:=ãi (K:=K) (G:=G) (H:=H) (ms:=m::ms) (vs:=v::vs) (Ls:=λi=>match i with|0=>Ls n|j+1=>if j<n then Ls j else λ_=>î) (λi d e=>by
  cases i with
  |Ϡ=>cases e;show{v,rfl,x}|ϡ j=>
   let k:ms[j]?=À d:=by simpa using e
   have c:j<ö:=by rw[<-l];show(Š k).1
   let e2:=g j d k;rw[žl]at e2;rw[Ò c]at e2;let{w,t,A}:=Ϟ j d (by rw[vL (by rw[Ėc];omega)];show e2);let f:=õa j (vs[j]) Øj;rw[t]at f;cases f;refine{vs[j],by simp[c],?_};simp only[Ò (show j<n by omega)];show A) (λi j q y a b=>by
  cases i with
  |Ϡ=>
   cases j with
   |Ϡ=>show y rfl|ϡ j=>
    dsimp only at a b
    rw[ĭp];show Ŭ n j q É a b;show b
  |ϡ i=>
   cases j with
   |Ϡ=>
    dsimp only at a b
    rw[Ăp];show Ŭ n i q É b a;show a
   |ϡ j=>
    dsimp only at a b
    rw[Ăp];rw[ĭp];show Ŭ i j q É a b;show b;show a) Ϥl
 show{L,o,λq z=>?_};let{i,_,z}:=r q z;cases i with
 |Ϡ=>show{ęf.1,ęf.2.1}|ϡ j=>
  dsimp only at z
  rw[Ĭp];show{Ěf.1,Ěf.2.1};show Ĭ
#print a
structure vH(K:Ð)(x qual:Ç)(st:Ú)(f:Ì)(fd:Ľ):È where
 ex:∃(oc:Value) (od:Ê Ì) (dV kV doc pm:Value) (an:Ê Ì) (cdv ct:Value) (osl:Ü śa),
  fd=Ñb x qual Ļb Ça Ŏ dV kV doc pm an cdv ct/\ϓ f=À {oc,od,.func fd,osl}/\Ĉb K cdv qual=Ã
 kp:Õa K Ĵ=Ã
def _root_.L2.Fun.v{K:Ð}{x a:Ç}{st:Ú}{f:Ì}{h:Ľ}(F:Fun K x a st f h):vH K x a st f h:=by let{k,j,kV,b,m,l,g,n,c,e,i,d}:=F.ex;show{{k,j,.none,kV,b,m,l,g,n,c,e,i,d},F.kp}
section
variable{P:ë}{w:å}{K:Ð}{mg:Ç->Ê Value}{Ë:Heap}
def eh{x a:Ç}{st:Ú}{f:Ì}{m:Value}{j h:Ê Ì}{e:Ü śa}{g kV d i b ct:Value}(l:ϓ f=À {m,j,.func ìk,e})(c:Ĉb K b a=Ã)(k:Õa K Ĵ=Ã):vH K x a st f ìk:={{m,j,g,kV,d,i,h,b,ct,e,rfl,l,c},k}
def vH.ok{x a:Ç}{st:Ú}{f:Ì}{i:Ľ}{N ps:Á Ç}{k:Â}{sp:Sp}(F:vH K x a st f i)(S:zk N ps Ŏ)(e:∀vs H Q E,sp vs H Q E->ö=č)(c:∀(b:Value)(A:þ)(ą:Á Env)(s:Ï)(H:Hp)(vs:Á V)(Q:VK)(E:XK),yp k Ϙk->sp vs H Q E->
   ∃t,tK (Ϩj).qP Ça t/\t { nx:=λ_ H'=>Q .zC H',rt:=Q } Ńc H):xN P w K mg Ë xJ Ŝ f i ps sp:=by
 let{p,o,r,kV,m,y,v,b,u,n,rfl,j,g}:=F.ex;show eS j g S e λA ą s H vs Q E l d=>?_
 rw[Šp]
def vH.Qo{x c:Ç}{st:Ú}{f:Ì}{W:Ľ}{N ps:Á Ç}{k:Â}{F:FM}{b:yY}(d:vH K x c st f W)(S:zk N ps Ŏ)(T:č<=Ϝ)(R:∀ms r,F ms=À r->ů=č/\wf č Ϝ b ms=À r)(Y:∀(g:Value)(A:þ)(ą:Á Env)(s:Ï)(H:Hp)(E:XK),yp k ϗk->gL (ϧj).qP č Ça b):xN P w K mg Ë xJ Ŝ f W ps ϗf:=by
 show d.ok S (λU H Q E h=>?_) λg A ą s H U Q E hr h=>?_;let{G,ms,L,C,m',_,o,_,e,_}:=h;rw[Ϗa,(R _ _ e).1];let{G,ms,L,C,m',s',o,Z,e,q}:=h;let{l,a}:=R _ _ e;let{t,p,X}:=(Y g A ą s H E hr).h;let{fl,z,a}:=zH a;let j:U.length=č:=by rw[Ϗa,l]
 refine{t,p,X j (z9p (N:=N) s' o Z É) z ?_};cases fl with
 |nx β=>let{y,J,a}:=zH (show(ϧl).bind _=_ from a);cases a;intro σ n B i;let{O,I,u}:=iN (i.Zz (d:=.zC) (v:=.zC) rfl) Øm Ùm;show q .zC n B O i.ext I u
 |rt m β=>let{y,J,a}:=zH (show(ϧl).bind _=_ from a);cases a;intro σ v n B i;let{O,I,u}:=iN i Øm Ùm;show q v n B O i.ext I u
 |_=>cases a
def vH.z10{x c:Ç}{st:Ú}{f:Ì}{m:Ľ}{N ps:Á Ç}{k:Â}{F:Á D->Ê ç}{b:FS}(d:vH K x c st f m)(S:zk N ps Ŏ)(O:č<=Ϝ)(j:∀ds r,F ds=À r->ÿ=č/\yK Ϝ b ds=À r)(J:∀(g:Value)(A:þ)(ą:Á Env)(s:Ï)(H:Hp)(E:XK),yp k ϗk->qU (ϧj).qP Ça b):xN P w K mg Ë xJ Ŝ f m ps Če:=by
 show d.ok S (λC H Q E h=>?_) λg A ą s H C Q E y h=>?_;let{G,ds,o,B,_,r,e,_}:=h;rw[Ų,(j _ _ e).1];let{G,ds,o,B,n,r,e,q}:=h;let{l,a}:=j _ _ e;let{t,p,v}:=(J g A ą s H E y).h;let{L,i,a}:=zH a;refine{t,p,v (eG (N:=N) n r É) i ?_};cases L with
 |nx τ=>cases a;show λσ u I z=>q .zC u I z.ext rfl|rt o' d'=>
  cases o' with
  |Å=>cases a<;>show q|Ã=>cases a<;>show q
 |_=>cases a
theorem Def.Qo{x:Ç}{st:Ú}{N ps:Á Ç}{k:Â}{F:FM}{b:yY}(d:Def K mg x st ps)(S:zk N ps Ŏ)(g:č<=Ϝ)(h:∀ms r,F ms=À r->ů=č/\wf č Ϝ b ms=À r)(i:∀(f:Ì)(a:Value)(A:þ)(ą:Á Env)(s:Ï)(H:Hp)(E:XK),yp k (úb (Ëb x Ŏ ß f a))->gL (qC xJ P w K mg Ë N x Ŏ f a A ą s H E).qP č Ça b):vI P w K mg Ë x ps Ŝ ϗf:=by let{f,j,e,l,c}:=d;show{f,j,l,e.kp,c,e.v.Qo S g h (i f)}
def eW(F:FM):Á D->Ê ç:=λa=>(F (jj a)).bind λr=>match r.2 with
 |.fz d=>À (Å,d)|.own d=>À (Ã,d)|_=>Ä
def x1x{F:FM}{vs:Á V}{H:Hp}{Q:VK}{E:XK}(h:vS K (eW F) vs H Q E):xH K F vs H Q E:=by
 let{G,y,o,d,s,r,e,q}:=h;obtain⟨⟨c,k⟩,l,e⟩:=zH e
 let f:cut H Òe=H:=by
  funext q
  show jf (λz=>z)
 show{G,jj y,λ_=>î,c,k,s,Im r,λ_ z=>Ĭ,l,λv g j I x m n=>?_};rw[f]at x;let{J,A,N,C,e2,i,L,B,u}:=m;cases e2;cases k with
 |fz d'=>cases e;show q v g j x i.1|own d'=>cases e;let{p,rfl,t,w}:=i;let{a,b}:=n p ((u p).mpr (.inl ((w p).mpr rfl)));rw[f]at b;show q p g j x b a t
 |_=>cases e
#print a
structure LO(P:ë)(w:å)(K:Ð)(mg:Ç->Ê Value)(Ë:Heap)(c m:Ç)(ps:Á Ç)(k:Â)(sp:Sp):È where
 ex:∃(C f:Ì) (fd:Ľ) (mc:Value),mg c=À ļ/\ϧh K ļ Àh=À Ĺg/\Ģi K C mc=Ã/\ģi K ļ mc m=À úi/\Õa K Ĵ=Ã/\qS K fd ps []/\xN P w K mg Ë xJ k f fd ps sp
section
variable{X:Cx}{c m:Ç}{ps:Á Ç}{j k:Â}{F:FM}{e:Õ}{es:Á Õ}{p pos Ϻ:Pos}{sp:Sp}{t:TA}
def y6i{pl:Sem Ñ}(h:LO ø X.w X.K ó ŕ c m ps k sp)(E:yp j X.A)(x:Gl X c)(z:PA X đ t)(hk:Î Őb q10)(a:Î Ÿe q10)(l:Î ęa q12)(v:ď Ŧe Ø=(do
   let ov <-ď įf Ø
   standAt ôd
   let (f,first) <-holding [ov] Àd
   ðc pos f first ϻc Ϫb):=by rfl):PE X Ŧe Ŋm:=by
 let{C,f,P,G,F,d,g,i,o,b,y}:=h.ex;rw[Ū,Č]at l;intro u s σ H Q I B;show Ĝm (pl:=pl) ?_ v;show IY I x F ?_ a;show W.method_cls Ŧ d (W.cls_value Ŧ g i rfl ?_);show Ăf (h₀:=ŕ) Äe o (zy (z pos u _ σ H _ ϔb B) λO L ⟨N,J,n,r,q⟩=>{n.xY,BX y (E.mono hk) b .nil Xz n r q}) (qJ l.1) (WB l.2)
#print a
def yo(K:Ð)(n:Â)(P:Á V)(G0 H0 G H:Hp)(β:zl)(σ:St)(ms:Á M)(vs:Á V):È:=
 ∃(L:Ft) (H1:Hp),zn K n P G0 H1 G H β σ/\Ņ K G H ms vs L/\(∀q,L q->G q=Ä/\H0 q=Ä/\H1 q=H q)/\∀q,¬ L q->H1 q=H0 q
section
variable{K:Ð}{n:Â}{P:Á V}{G0 H0 G H G' H':Hp}{β:zl}{σ:St}
def zn.hold{m:M}{v:V}(t:äa<=n)(E:zn K ı P G0 H0 G H ľc Ĉa):∃(L:Ft) (H1:Hp),zn K n P G0 H1 G H β σ/\xL K G H m v L/\(∀q,L q->G q=Ä/\H0 q=Ä/\H1 q=H q)/\∀q,¬ L q->H1 q=H0 q:=by
 classical
 let{e,F}:=Ϸ;let{u,k,r}:=Ϟ n m ūf;rw[uI ϒc]at k;cases k
 let +zeta H1:Hp:=λq=>if e n q then H q else H0 q
 let e1:∀q,e n q->H1 q=H q:=λq z=>Ò z
 let e2:∀q,¬ e n q->H1 q=H0 q:=λq z=>Ó z
 let f:=E.down t;show{e n,H1,{{Įd,λq o z=>?_,Äa,λq z=>?_},f.l1,f.l2,t,f.pin,λj=>if j<n then e j else λ_=>î,λi x h=>?_,λi j q y l p=>?_,λi q z=>?_},r,λq z=>{ęf.1,ęf.2.1,e1 q z},e2};by_cases c:e n q;rw[Ϫp];show čb _ _ z;rcases Ŵb q z with w|w;rw[Õq];by_cases c:e n q;show Þ ϱh.1 z;show .inr Çf;have s:i<n:=by rw[<-f.l2];show ēa.1
 let{u,k,r}:=Ϟ i x (by rw[vL (by rw[f.l2];show s)];show h);rw[vL (by rw[f.l1];show s)]at k;simp only[Ò s];show{u,k,r};split at l;split at p;show Ŭ i j q y l p;show p;show l;rw[Ĭp];rw[Ŀp];let{a,b,d}:=Ϲ i q z;show{a,(e2 q λw=>Ŭ i n q É z w).trans b,d};show Ĭ
def yo.nil(E:zn K n P G0 H0 G H β σ):yo K n P G0 H0 G H β σ [] []:={λ_=>î,H0,E,{rfl,λ_ z=>z},λ_ z=>Ĭ,λ_ _=>rfl}
def Şc{m:M}{v:V}{L:Ft}{k:Hp}{ms:Á M}{vs:Á V}(o:xL K G H m v L)(d:∀q,L q->G q=Ä/\H0 q=Ä/\k q=H q)(r:∀q,¬ L q->k q=H0 q)(x:zm G0 G)(s:zm G G')(h:yo K n P G0 k G' H' β σ ms vs):yo K n P G0 H0 G' H' β σ Ðg ĳe:=by
 let{l,p,j,t,a,b}:=h;let i:∀q,L q->Bx H q:=Ϭi m v L
 let f:∀q,L q->¬ l q:=λq z w=>by let e:=Õg.2.1;rw[āc.2.2]at e;show(åj).some e
 let c:∀q,L q->H' q=H q:=λq z=>by let{u,g,_}:=i q z;rw[g];show j.ext.h _ _ ?_;rw[b q ëj,āc.2.2];show g
 show{λq=>L q\/l q,p,j,{v,vs,L,l,rfl,ϋc s m v L c,t,f,λq=>Ēa},λq z=>?_,λq z=>?_};rcases z with z|z;show{?_,āc.2.1,by rw[b q ëj,āc.2.2,c q z]};cases e:G' q with
 |Ä=>rfl|À w=>
  let{u,g,_}:=i q z;let e2:p q=À u:=by rw[b q ëj,āc.2.2];show g
  rcases j.ext.new q Ϝc with w|w;cases e3:G0 q with
  |Ä=>show Þ e3 w|À o3=>have:=x _ _ e3;rw[āc.1]at this;cases this
  rw[e2]at w;cases w
 show{ķd.1,?_,ķd.2.2};let e:=ķd.2.1;rw[r q λw=>f q w z]at e;show e;rw[b q λw=>z źd,r q λw=>z Ţc]
#print a
nonrec def vj:zl->Ê Ŝa:=λβ=>À ([],β)
nonrec def yf(f:xK)(r:zl->Ê Ŝa):zl->Ê Ŝa:=λβ=>(Ńa).bind λa=>(r a.2).bind λb=>À (a.1::b.1,b.2)
nonrec def xt(i:Â):xK:=λβ=>match β[i]? with
 |À ϓa=>À (m,β.set i Ä)|_=>Ä
section
variable{X:Cx}{v:Õ}{x:Ç}{pos:Pos}
def zn.moved{K:Ð}{n i:Â}{P:Á V}{G0 H0 G H:Hp}{β β':zl}{σ:St}{m:M}(E:zn K n P G0 H0 G H β σ)(d:xt i β=À (m,β')):∃v,σ[i]?=À ź/\zn K ı P G0 H0 G H Įh Ĉa:=by
 unfold xt at d
 rw[ĝp];rename_i l o;cases d;let{g,F}:=Ϸ;have t:i<n:=by rw[<-Ģ];show Ùj.1
 let{v,r,y}:=Ϟ i m o;refine{v,r,{Ϟb,by rw[żp],by rw[ê,èa,Ģ];rfl,by rw[Ϥp],λj w h=>?_,λj=>if j=i then Òe else if j<n then g j else if j=n then g i else λ_=>î,λj l h=>?_,λj k q f b a=>?_,λj q z=>?_}};let p:j<σ.length:=by rw[ćp]
 rw[vL p];show õa j w h;rcases W4 h with⟨c,e⟩|⟨c,e⟩;rcases vv e with⟨_,w⟩|⟨f,w⟩;cases w;rw[èa,Ģ]at c;let{u,x,s}:=Ϟ j l w;simp only[Ó f,Ò c];show{u,by rw[vL Ϸb];show x,s};cases e;rw[èa,Ģ]at c;subst c;show{_,uI ĸ,?_};simp only[Ó (Ϲa t),èb,Ϧ,ś];show y;rw[ĭp];show b;rw[Öq];show a;rw[Ăp];show Ŭ j k q f b a;rw[Ăp];show Ŭ j i q É b a;show a;rw[Öq];show a;rw[Ăp];show Ŭ i k q É b a;rw[Øq];rw[Ĭp];show Ĭ;rw[Ĭp];show Ϲ j q z;rw[Ĭp];show Ϲ i q z;show Ĭ;cases d
def iU(i:Â){x:Ç}{pos:Pos}(b:Î ĥb q12)(hv:Î ķb q13)(c:Î ī q10)(a:Î Ĭa q10):MC X àa (xt i):={{_,kZ b hv c a,λ{P g h G H β β' σ m Q} E e q=>by let{v,f,d}:=ģe e;show{v,f,q v G H ϕb d}}}
#print a
#print L3
namespace L2
open ķ ņ ϴ ĺ
section
variable{X:Cx}{c e:Õ}{es:Á Õ}{t:TA}{tc:TE}{pos:Pos}{j:Â}
nonrec def x2l(X:Cx)(j:Â)(tc:TE)(t:TA):TE:=λσ H Q=>tc σ H λv c=>∃(f:Ì) (fd:Ľ) (ps:Á Ç) (k:Â) (sp:Sp),v=.ref f/\k<=j/\Õa X.K Ĵ=Ã/\qS X.K fd ps []/\xN ø X.w X.K ó ŕ xJ k f fd ps sp/\t σ c λb a=>sp (b++[]) a Q E0
def y6g(w:yp j X.A)(l:PE X c tc)(p:PA X đ t)(d:Î ęa q12)(a:Î (ď Ľl Ø=(do ðc pos (<-ď c Ø) [] ϻc Ϫb)) q12):PE X Ľl (x2l X j tc t):=by rw[űp];rw[Ū,Č]at d;rw[a];show Ö (zy (l i s σ H _ I h) λu y ⟨v,E,x,o,f,K,N,k,L,n,z,m,b,F,q⟩=>?_);subst n;cases o;show Ăf (h₀:=ŕ) Äe m (zy (p pos i y σ _ _ x q) λJ B ⟨G,C,g,r,q⟩=>{g.xY,?_}) (qJ d.1) (WB d.2);show BX F (w.mono z) b .nil Xz g r q
#print a
#print L2
namespace L3
open ķ ņ ĺ L2
def XQ(K:Ð)(w:å)(b:Ç->Ê Value)(a:Ì)(ks:Á zY)(ns:Á Ç):È:=
 ∃fs:Á Ì,éa=Å/\Ī=ša/\(∀(i:Â)(n:Ç),ns[i]?=À n->∃f,fs[i]?=À f/\b n=À Ĵ)/\ϰ=ša/\∀(P:ë)(h:Heap),ř h->∃vs,KV (ĩd įi) vs/\ėd ķa a vs
inductive Ww(mg:Ç->Ê Value):Á Ç->Á Ì->È
 |nil:Ww mg [] []
 |ï {n:Ç} {f:Ì} {ns:Á Ç} {fs:Á Ì} (h:mg n=À Ĵ) (r:Ww mg ns fs):Ww mg àj (f::fs)
theorem Ww.at_{c:Ç->Ê Value}:∀{ns:Á Ç}{fs:Á Ì},Ww c ns fs->(∀(i:Â)(n:Ç),ns[i]?=À n->∃f,fs[i]?=À f/\c n=À Ĵ)/\ϰ=ša
 |_,_,.nil=>{λi n h=>ŀn,rfl}|_,_,.cons h r=>by
  let{a,b}:=r.at_;show{λi n e=>?_,by rw[Ě,Ě,b]};cases i with
  |Ϡ=>cases e;show{_,rfl,h}|ϡ i=>show a i n ųa
theorem rX:∀{fs:Á Ì},zo įi ŷo
 | []=>.nil|_::_=>.cons rfl rX
def z54{K:Ð}{c:Ç->Ê Value}{w:å}{a:Ì}{es:Á ĸb}{n:Â}{xs ns:Á Ç}{fs:Á Ì}(l:ϓ a=À { cls:=.type ϕ,Ċ:=.dict Úi n })(e:k6 w es xs ŷo)(f:Śc)(j:éa=Å)(m:Ww c ns fs) :XQ K w c a Ŀc ns:=by
 let d:(Ōb Čb:Á zY).length=(įi).length:=by rw[æ,e.len,æ,æ]
 let{g,o}:=m.at_;refine{fs,j,by rw[d,æ],g,o,λP h i=>{_,KD rX d,?_}};rw[Ãq];refine{_,_,_,i _ _ l,{rfl,rfl,rfl},rfl,λe k=>q e ϝl,p,?_};rw[DQ ſg];show Ñh _ Ŗg f
section
variable{X:Cx}
def z52{A:Ì}{ks:Á zY}{ns:Á Ç}(g:XQ X.K X.w ó A ks ns):xB X ée (λx y H Q=>y=.ref A/\∃k,x=kV k/\Q œm H):=by intro j s σ H x y v u Q I e f h;let{rfl,k,rfl,q}:=h;cases f;let{l,a,c,_,_,d}:=g;let{m,b,i}:=d ø á Ŧ;show Ťn (ZX e) a ϭi ?_;rw[<-(b.val k).UE,Vr k ŧl,Gd k ŧl];show{.bl _,H,Ëa _,rfl,q}
def x2b{A:Ì}{ks:Á zY}{ns:Á Ç}{x:Ç}{p pos:Pos}{a:Õ}{e:FE}(h:vC ó x ſb)(g:XQ X.K X.w ó A ks ns)(m:Gl X x)(n:SE X a e)(i:Î ī q10)(j:Î (šb .In øa=Å) q12) :ST X (.Compare a [.In] [.Name x p] pos) (tE (e1 (Xd ks) e)):=by let{F,f,o}:=n.h;show{{_,NC (z52 g) f (Vd h m i) j,λ{v I G H τ σ d Q} E c q=>?_}};let{z,b,c}:=zH c;let{y,r,b}:=zH b;let{k,t,b}:=zH b;cases b;cases c;show o E r λu B C s l=>{rfl,k,YT t l,_,rfl,q _ _ s}
def z53{A:Ì}{ks:Á zY}{ns:Á Ç}(g:XQ X.K X.w ó A ks ns):pj X (λx y H Q=>x=.ref A/\∃k n,y=kV k/\Ć ks ns k=À n/\∀f,ó n=À Ĵ->Q Ĵ H):=by
 intro j l L s σ H x y v u Q I T N h R;let{rfl,k,n,rfl,E,q}:=h;cases T;let{a,t,W,b,S,G}:=g;let{Y,d,z}:=G ø á Ŧ
 let p:∀{ks:Á zY}{ns:Á Ç}{a:Á Ì},(∀(i:Â)(n:Ç),ns[i]?=À n->∃f,a[i]?=À f/\ó n=À Ĵ)->Ć ks ns k=À n->∃f,Ć ks (a.map Ùa) k=À Ĵ/\ó n=À Ĵ:=λ{ks}=>by
  induction ks with
  |nil=>intro ns a _ e;cases e|ï k' ks ih=>
   intro ns a b e;cases ns with
   |nil=>cases e|ï n' ns=>
    let{f0,C,Z}:=b 0 n' rfl;cases a with
    |nil=>cases C|ï f1 a=>cases C;unfold Ć at e;rw[ŭ];unfold Ć;by_cases c:k'=k;rw[Ò c]at e ⊢;cases e;show{_,rfl,Z};rw[Ó c]at e ⊢;show ih (λi n h=>b ñ n ϲa) e
 let{f,O,J}:=p b E;let{B,U,m}:=Íe (v:=Ùa f) (o:=ώb Y k) (by rw[<-O,<-Vr k (by rw[æ];show W)];show d.val k)
 show ŕd (x:=B) z.typeIs ŏg
  (όg (Q:=λr P=>r=B/\EP X L σ Q r P) (ZX N) z.mapOf U {rfl,_,H,Ëa _,m,q f J}) R
inductive vx(X:Cx)(j:Â):Á Ç->Á FM->È
 |nil:vx X j [] []
 |ï {n:Ç} {ps:Á Ç} {k:Â} {F:FM} {ns:Á Ç} {Fs:Á FM} (h:vI ø X.w X.K ó ŕ n ps k Ůb) (hk:k<=j) (r:vx X j ns Fs):vx X j àj (F::Fs)
theorem vx.get{X:Cx}{j:Â}{k:zY}{F:FM}:∀{ks:Á zY}{ns:Á Ç}{Fs:Á FM},vx X j ns Fs->Ć ks Fs k=À F->∃n ps i,Ć ks ns k=À n/\i<=j/\vI ø X.w X.K ó ŕ n ps i Ůb
 | [],_,_,_,e=>by cases e|_::_,_,_,.nil,e=>by cases e|k'::ks,_,_,.cons (n:=n) (ps:=ps) (k:=i) h hk r,e=>by unfold Ć at e;rw[Čp];show{n,ps,i,by unfold Ć;rw[Ò c],hk,h};rw[Ó c]at e;let{g,a,b,d,f}:=Ūa e;show{g,a,b,by unfold Ć;rw[Ó c];show d,f}
def Em(ks:Á zY)(a:Á FM)(c:FE)(b:t_):xK:=λβ=>(c Čd).bind λx=>(łd).bind λk=>(Ć ks a k).bind λF=>p8 F b β
def z9z{A:Ì}{ks:Á zY}{ns:Á Ç}{C:Á FM}{x:Ç}{p p2 pos:Pos}{k e:Õ}{es:Á Õ}{I:FE}{B:t_}{j:Â}(h:vC ó x ſb)(g:XQ X.K X.w ó A ks ns)(hg:Gl X x)(D:vx X j ns C)(hr:yp j X.A)(hk:SE X k I)(ha:MA X đ B)(hs:Î øi q12)(N:Î ī q10)(he:Î ęa q12)(o:Î (ď Ìk Ø=(do ðc pos (<-ď (.Subscript øa k p2) Ø) [] ϻc Ϫb)) q12):MC X Ìk (Em ks C I B):=by
 let{tk,W,T}:=hk.h;let{ta,pa,ka}:=ha.h;show{{_,y6g hr (BD (z53 g) (Vd h hg N) W (BH hs)) pa he o,λ{P G0 H0 G H β β' σ m Q} E a q=>?_}};let{y,hy,a}:=zH a;let{r,d,a}:=zH a;let{F,R,a}:=zH a;let{as,l,a}:=zH a;let{n,ps,i,L,Y,{f,fd,hm,J,b,FF}}:=D.get R;let{G1,O,ϻ}:=E.qQ;show T O hy λu G2 H2 x2 r2=>?_
 let{G3,x3,t,_}:=ϻ _ _ x2;show{rfl,r,n,YT d r2,L,λf' c=>?_};rw[hm]at c;cases c;show{f,fd,ps,i,_,rfl,Y,J,b,FF,ka t l λvs G4 H4 z ra=>?_};rw[ŵ];show(t.go z).call ra a λv S Z s U=>q v S Z (x3.g.trans (z.g.trans s)) U
#print a
def xh(a:Á Ç)(f:Ç):D->Ê D
 |.obj x fs vs=>if x∈a then ϙ fs vs f else Ä|_=>Ä
theorem Śo{K:Ð}{G:Hp}{κ:Type}[ũb κ]{k:κ}{d:D}:∀{ks:Á κ}{ds:Á D}{vs:Á V},â K G ds vs->Ϸi ks ds k=À d->∃v,Ϸi ks vs k=À v/\za K G d v
 | [],_,_,_,e=>by cases e|_::_,[],_,_,e=>by cases e|k'::ks,d'::ds,vs,r,e=>by let{v,f,rfl,a,b}:=r;unfold Ϸi at e ⊢;by_cases c:k'=k;rw[Ò c]at e ⊢;cases e;show{v,rfl,a};rw[Ó c]at e ⊢;show Śo b e
nonrec def w6(c m:Ç)(a:FE)(fs:FA):FA:=λτ=>(a τ).bind λo=>match o with
 |.obj x fl _=>match decide (x=c)&&!(decide (m∈fl))with
  |Ã=>(fs τ).bind λb=>À (o::b)|Å=>Ä
 |_=>Ä
section
variable{X:Cx}{e o:Õ}{f m c:Ç}{cs:Á Ç}{fe fo:FE}{pos Ϻ:Pos}{ps:Á Ç}{j k:Â}{FF:Á D->Ê ç}
def vK(h:SE X e fe)(k:vY X.K cs f)(j:Î ųk q12):SE X ϲe (e1 (xh cs f) fe):=by
 let{t,p,g}:=h.h;show{{_,lS p j,λ{L I G H τ σ d Q} E b q=>?_}};let{y,A,b}:=zH b;show g E A λv N F c s=>?_
 unfold xh at b
 rw[ĭp];rename_i x O P;by_cases hx:x∈cs;rw[Ò hx]at b;let{a,C,n,J,rfl,z,w,l,r}:=s;let{u,i,B}:=r.getA b;let{m,o}:=k x hx C z;show{a,C,n,_,u,rfl,c.gh _ _ w,m,o,by rw[M_];show i,q _ _ _ c B};rw[Ó hx]at b;rw[ūp]
def o9{G0 H0 G H:Hp}{τ:yC}{σ:St}{ds:Á D}{Q:VK}{C:Ì}{t:TA}{j:TE}{sp:Sp}{fs:FA}(f:ų X.K Ĕ c=À ãa)(p:∀{G0 H0 G H:Hp}{τ:yC}{σ:St}{d:D}{Q:VK},zx X.K ù G0 H0 G H τ σ->fo τ=À d->(∀v G' H',zS G H G' H'->za X.K G' d v->Q v H')->j σ H Q)(u:∀{G0 H0 G H:Hp}{τ:yC}{σ:St}{ds:Á D}{Q:Á V->Hp->È},zx X.K ù G0 H0 G H τ σ->fs τ=À ds->(∀vs G' H',zS G H G' H'->â X.K G' ds vs->Q vs H')->t σ H Q)(E:zx X.K ù G0 H0 G H τ σ)(h:w6 c m fo fs τ=À ds)(q:∀vs G' H',zS G H G' H'->â X.K G' ds vs->sp vs H' Q E0):S8 C m sp [] E0 j t σ H Q:=by
 let{y,B,b}:=zH h
 rw[ĭp];rename_i x z vs
 rw[ĭp];rename_i e;rw[Č]at e;cases Ŋ e.1
 let s:m ∉ z:=by let:=e.2;rw[đp]
 let{F,r,h}:=zH b;cases h;show p E B λv P S i k=>?_
 let{a,J,I,T,rfl,n,A,l,R}:=id k;rw[f]at n;cases n;show{a,I,_,rfl,i.gh _ _ A,KR s,u (ĩa i) r λvs L O o w=>?_};rw[ŵ];show q _ _ _ (ϸf o) {_,vs,rfl,k.mono o.g,w};rw[ūp]
def x1y{G H:Hp}{ds:Á D}{vs:Á V}{Q:VK}{b a:Hp}{d:D}{o:Ñ}{E:XK}(x:zS b a G H)(r:â X.K G ds vs)(f:FF ds=À (o,d))(q:∀v G' H',zS b a G' H'->za X.K G' d v->Q v H'):vS X.K FF vs H Q E:=by
 show{G,ds,o,d,öa,r,f,?_};cases o with
 |Å=>show λv G' H' c r=>q v G' H' (üc c) r|Ã=>intro p G' H' c g e o;let{u,h,r}:=o.yI e;show q _ _ _ (üc (c.yI g e h)) r
def jE{pl:Sem Ñ}(h:uO ø X.w X.K ó ŕ c m ps k ĥf)(L:yp j X.A)(u:SE X o fo)(hk:Î Őb q10)(I:ď ϧb Ø=(do
   let ov <-ď o Ø
   standAt ôd
   let (f,first) <-holding [ov] Àd
   ðc pos f first Ãf Ϫb):=by rfl):SE X ϧb (zX FF ϊm):=by
 let{C,f,W,J,v,p,b,F}:=h;let{P,g,y}:=u.h;show{{_,N6 g v p F (L.mono hk) b .nil Xz I,λ{B s G H τ σ d Q} E a q=>?_}};let{N,i,a}:=zH a;obtain⟨⟨R,S⟩,l,a⟩:=zH a;cases a;show o9 (t:=Yo) J y (λ{B s G H τ σ N Q} n e z=>by cases e;show z _ _ _ (Ąa n.ext.gh) rfl) E i λU O T x r=>x1y x r l q
def Be{pl:Sem Ñ}(h:uO ø X.w X.K ó ŕ c m ps k ĥf)(U:yp j X.A)(I:SE X o fo)(hk:Î Őb q10)(S:ď ϧb Ø=(do
   let ov <-ď o Ø
   standAt ôd
   let (f,first) <-holding [ov] Àd
   ðc pos f first Ãf Ϫb):=by rfl):SF X ϧb (wV FF ϊm):=by
 let{C,f,fd,T,J,z,b,F}:=h;let{Z,l,L}:=I.h;show{{_,N6 l J z F (U.mono hk) b .nil Xz S,λ{O B G H τ σ d Q} E a q=>?_}};let{g,n,a}:=zH a;obtain⟨⟨v,dd⟩,u,a⟩:=zH a;cases v with
 |Å=>cases a|Ã=>
  cases a;show o9 (t:=Yo) T L (λ{O B G H τ σ g Q} y e N=>by cases e;show N _ _ _ (Ąa y.ext.gh) rfl) E n λvs s H' x r=>{s,g,Ã,_,öa,r,u,λp P R W i Y o=>q p P R (üc W) (x.h.free i) Y o}
#print a
open ϴ
mutual
nonrec def vz:D->PyData
 |.zC=>.none|.bl b=>.bool b|.int i=>.int i|.str x=>.str x|.tup ds=>.tuple ϸo|.lst ds=>.list ϸo|_=>.none
nonrec def pyTs:Á D->Á PyData
 | []=>[]|d::ds=>vz d::pyTs ds
end
mutual
nonrec def wD:D->Â
 |.zC=>4|.bl _=>5|.int i=>if decide ĉc&&decide Ůg then 20 else 1000000000|.tup ds=>wDs ds+3|.lst ds=>wDs ds+2|_=>1000000000
nonrec def wDs:Á D->Â
 | []=>0|d::ds=>wD d+2+wDs ds
end
nonrec def ux:Â->D->Ñ
 |_,.zC=>Ã|_,.bl _=>Ã|_,.int _=>Ã|n+1,.tup ds=>ľd ňe|n+1,.lst ds=>ľd ňe|_,_=>Å
def GL:Á D->Ê D
 | [.lst ds]=>match decide (wDs ds<=1000000)&&ľd Łd with
  |Ã=>À ěl|Å=>Ä
 |_=>Ä
theorem rG:∀(ts:Á Ç)(k:Â)(acc:Ç),(textFrom k acc ts).length<=Üi+Œe ts
 | [],k,acc=>ϭ _ _|t::r,k,acc=>by
  let h:=rG r Ŝ Ϸj
  let e:(Ϸj).length=Üi+(if k>0 then 2 else 0)+t.length:=by
   rw[Ϲc,Ϲc]
   split<;>rfl
  rw[e]at h;rw[Úo];exact(textFrom Ŝ _ r).length<=_;let:(if k>0 then 2 else 0:Â)<=2:=by rw[īp]
  omega
def z9h(a:Á Ç):(Ŧi a).length<=Œe a+2:=by unfold Ŧi;let h:=rG a 0 "[";let e1:(("[" : ϗ):Ç).length=1:=rfl;let e2:(("]" : ϗ):Ç).length=1:=rfl;rw[Ϲc,e2];rw[e1]at h;omega
def x6o(a:Á Ç):(Ėi a).length<=Œe a+3:=by
 unfold Ėi;rw[Ϲc,Ϲc];let e1:((("(" : ϗ):Ç)).length=1:=rfl;let b:(((if ό==1 then ",)" else ")" : ϗ):Ç)).length<=2:=by split<;>decide
 rw[e1];by_cases h:a=[];subst h;let:(Str.join ", " []).length=0:=rfl;omega;let:=join_length_add a h;omega
def oJ(d:D):wD d<=900000000->(ϛa).shown.length<=wD d:=by
 let g:∀a:Á D,(∀d∈a,wD d<=900000000->(ϛa).shown.length<=wD d)->wDs a<=900000000->Œe Šd<=wDs a:=λa=>by
  induction a with
  |nil=>intro _ _;show Òa _|ï x a f=>intro h m;let k:wD x+2+wDs a<=900000000:=m;let p:=h x Ł É;let j:=f ål É;exact Œe ((ĝj).shown::PyData.shownAll ži)<=wD x+2+wDs a;rw[Úo];omega
 show ώc (P:=λd=>wD d<=900000000->(ϛa).shown.length<=wD d) ?_ ?_ ?_ ?_ ?_ ?_ ?_ ?_ ?_ d;intro _;decide;intro b _;cases b<;>decide;intro i h
 change Ţe<=900000000 at h
 exact(Łc (ši i)).length<=Ţe;cases c:(decide ĉc&&decide Ůg)with
 |Å=>rw[c,Ó Í]at h;omega|Ã=>
  rw[Ò rfl];rw[ϵp];let e:(10:Æ) ^ 20=100000000000000000000:=by decide
  let j:=Ŋ c.2;rw[<-e]at j;show toString_length_le ϡo Í j
 rw[ϙp];intro a f h;let n:wDs a+3<=900000000:=h;let:=g a f É;let:=x6o Šd;exact(Ėi Šd).length<=wDs a+3;omega;intro a f h;let n:wDs a+2<=900000000:=h;let:=g a f É;let:=z9h Šd;exact(Ŧi Šd).length<=wDs a+2;omega;intro o a _ h;show Þ h őd;rw[ϙp];intro x q a _ h;show Þ h őd
def x1i(d:D):wD d<=900000000->(ϛa).showable=Ã/\(ϛa).hasDict=Å:=by
 let j:∀f:Á D,(∀d∈f,wD d<=900000000->(ϛa).showable=Ã/\(ϛa).hasDict=Å)->wDs f<=900000000->Źl Ϝf=Ã/\ϵl Ϝf=Å:=λf=>by
  induction f with
  |nil=>intro _ _;show{rfl,rfl}|ï x f g=>
   intro h o;let k:wD x+2+wDs f<=900000000:=o;let{a,b}:=h x Ł É;let{c,e}:=g ål É
   rw[ſp];exact((ĝj).showable&&Źl Ϝf)=Ã;rw[a,c];rfl;exact((ĝj).hasDict||ϵl Ϝf)=Å;rw[b,e];rfl
 show ώc (P:=λd=>wD d<=900000000->(ϛa).showable=Ã/\(ϛa).hasDict=Å) (λ_=>{rfl,rfl}) (λb _=>{rfl,rfl}) ?_ ?_ ?_ ?_ (λp f _ _=>{rfl,rfl}) (λx _=>{rfl,rfl}) (λx s f _ _=>{rfl,rfl}) d;intro i h
 change Ţe<=900000000 at h
 show{?_,rfl};cases c:(decide ĉc&&decide Ůg)with
 |Å=>rw[c,Ó Í]at h;omega|Ã=>
  rw[ϵp];let r:=Ŋ c.1;let q:=Ŋ c.2;exact decide (Ņh<1920)=Ã;show õ ?_;by_cases z:Ŝc=0;rw[z];decide;let e:(2:Â) ^ 67=147573952589676412928:=by decide
  let m:Ŝc<2 ^ 67:=by rw[e];omega
  let:=(ŉl z).mpr m;omega
 rw[ϙp];intro f g h;let n:wDs f+3<=900000000:=h;show j f g É;intro f g h;let n:wDs f+2<=900000000:=h;show j f g É
theorem Ez:∀(n:Â)(d:D),ux n d=Ã->(ϛa).depth<=n
 |n,.zC,_=>Ϥ _|n,.bl _,_=>Ϥ _|n,.int _,_=>Ϥ _|0,.tup _,h=>by cases h|0,.lst _,h=>by cases h|n+1,.tup a,h=>by
  let b:∀a:Á D,Ϝb ňe=Ã->ĝm ži<=n:=λa=>by
   induction a with
   |nil=>intro _;show Ϥ _|ï x xs ih=>intro h;rw[Ū,Č]at h;show Ŧm {Ez n x h.1,ih h.2}
  show ğb (b a h)
 |n+1,.lst a,h=>by
  let b:∀a:Á D,Ϝb ňe=Ã->ĝm ži<=n:=λa=>by
   induction a with
   |nil=>intro _;show Ϥ _|ï x xs ih=>intro h;rw[Ū,Č]at h;show Ŧm {Ez n x h.1,ih h.2}
  show ğb (b a h)
 |n,.str _,h=>by cases n<;>cases h|n,.dic _ _,h=>by cases n<;>cases h|n,.exc _,h=>by cases n<;>cases h|n,.obj _ _ _,h=>by rw[Ūp]
section
variable{X:Cx}{z8:Á ð}{σ:St}{H:Hp}{s:Ï}
def y8z(I:zI X z8 σ H s)(d:D):∀(n:Â)(v:V)(u:Value),ux n d=Ã->za X.K H d v->yB v u->∃as,Reads á u ϛa as:=by
 let p:∀(c:Á D),(∀d∈c,∀(n:Â)(v:V)(u:Value),ux n d=Ã->za X.K H d v->yB v u->∃as,Reads á u ϛa as)->∀(n:Â)(f:Á V)(w:Á Value),c.all ňe=Ã->â X.K H c f->zo f w->∃as,ReadsAll á w (pyTs c) as:=λc=>by
  induction c with
  |nil=>intro _ n f w _ r A;cases(show f=[]from r);cases A;show{[],.nil}|ï x c k=>
   intro h n f w E r A;let{v,J,rfl,L,G}:=r;rw[Ū,Č]at E;cases A with
   |ï q1 q2=>let{as,l}:=h x Ł n v _ E.1 L q1;let{Q,F}:=k (λd j=>h d (Üa _ j)) n J _ E.2 G q2;show{_,.cons l F}
 show ώc (P:=λd=>∀(n:Â)(v:V)(u:Value),ux n d=Ã->za X.K H d v->yB v u->∃as,Reads á u ϛa as) ?_ ?_ ?_ ?_ ?_ ?_ ?_ ?_ ?_ d;intro n v u _ r q;rw[ėp];cases(show u=_ from q);show{_,.none};intro b n v u _ r q;rw[ėp];cases(show u=_ from q);show{_,.bool b};intro i n v u _ r q;rw[ėp];let{t,rfl}:=(show ∃t,u=æc i t from q);show{_,.int i t};intro x n v u h;rw[Ūp];rw[Ĵp];cases n with
 |Ϡ=>cases h|ϡ n=>let{g,z,{o,e,y,m,j},_}:=ϵ B;let{as,l}:=p c k n f g h C z;show{as,.tuple e y j Æh}
 rw[Ĵp];cases n with
 |Ϡ=>cases h|ϡ n=>let{g,z,{o,m,e,y,_,j},_}:=Ϙ B;let{as,l}:=p c k n f g h C z;show{_,.list e y j Æh}
 intro N c _ n v u h;rw[Ūp];intro x n v u h;rw[Ūp];intro x O c _ n v u h;rw[Ūp]
#print a
def my(K:Ð):Á V->Hp->VK->È:=λa H Q=>∃ds v,a=[v]/\za K H ßc v/\wDs ds<=1000000/\ľd Łd=Ã/\Q ěl H
def z2y{X:Cx}{j:Â}(g:yp j X.A):vn X ßm (my X.K):=by
 intro w s σ H x B Q I r h;let{b,v,rfl,i,G,c,q}:=h;let{u,rfl,f}:=qK r;let{C,o}:=y8z I ϋa 6 v u c i f;let{a,E,rfl,_}:=i;cases f;let d:wD ϋa<=900000000:=by exact wDs b+2<=_;omega
 let{l,n}:=x1i ϋa d;let t:=Ez 6 ϋa c;let y:=g.units;let F:=oJ ϋa d
 let p:(vz ϋa).shown.length<=ã:=by let:wD ϋa=wDs b+2:=rfl;rw[Ś];omega
 show repr_of_reads' o l (PyData.noDict_hsm n) g.gd É ĝn (λz u k m=>{.str _,H,Źc (t':=k) m,{_,rfl},q}) p
def y51{K:Ð}:Uo K (my K) GL:=λG H g h d Q s r b q=>by
 rcases g with _|⟨x_,r_⟩;cases b
 cases x_<;>first|(cases b;done)|skip
 cases r_<;>first|(cases b;done)|skip
 rename_i a
 change (match decide ăm&&Ϝb Łd with|Ã=>À (ύc (vz ϊb).shown)|Å=>Ä)=À d at b
 cases c:(decide ăm&&Ϝb Łd)with
 |Å=>rw[c]at b;cases b|Ã=>
  rw[c]at b;cases b;rw[ϵp];let f:=Ŋ c.1;let{v,rfl,e}:=gi r;let i:=oJ ϊb (by exact wDs a+2<=_;omega);show{a,v,rfl,?_,f,c.2,q _ _ _ Øa {rfl,?_}};first|show e|show e.mono s
  let:wD ϊb=wDs a+2:=rfl;rw[Ś];omega
def z2o{X:Cx}:vn X Ýc (λxs H Q=>∃a kvs,xs=ña/\Rd H a Ō/\∀p,H p=Ä->Q ϛ (zT H p Ō)):=by
 intro y s σ H xs z Q I r h;let{a,kvs,rfl,e,q}:=h;let{u,rfl,w}:=qK r;cases(show u=ċ a from w);let{j,c,v,d,t}:=ZP Ė e;let g:Źf=ń:=gZ d;refine kt_call_dict c t (by rw[g];show j) λn m x=>?_
 let f:òo=Å:=by let:=I.big;rw[Ňl];show vJ îo
 let l:∀b o,ć b=À o->n.get? b=À o:=λb o k=>by let i:=ħ k;show(x.2 b (vJ (ϣ i))).trans (Į _ k)
 show{.ref ß,_,Øb (a:=ß) (o:=.dK kvs) (t':=ĕ) l Đ (E_ j f d m),rfl,q _ Ģe}
nonrec def MM:Á D->Ê D
 | [.dic ks ds]=>À řn|_=>Ä
def x1b{X:Cx}{e:Õ}{fs:FA}{p pos:Pos}(j:Gl X ϕ)(x:ó ϕ=Ä)(hv:Ŷ ϕ=À Ýc)(r:SA X [e] fs)(i:Î Óa q12):SF X ŕl (eL MM fs):=by
 let{t,s,k}:=r.h;refine{{_,(O0 z2o j x hv {s} Í Í ϣl).h,λ{z J G H τ σ d Q} E b q=>?_}};let{C,g,b}:=zH b;show k E g λI B F c n=>?_
 unfold MM at b
 rw[ĭp];rename_i A y;cases b;let{v,rfl,a,u,rfl,w,o,m,l}:=gi n;show{a,_,rfl,úc c.gh w,λp f=>?_};show q p _ _ όl (ϋf f) (řf f) {u,yX,o,m,l};cases b
#print L3
namespace L3
def x6d:wJ .zC=Ã:=rfl
def x6e(b:Ñ):wJ ϗb=Ã:=rfl
def x6f(i:Æ):wJ òa=Ã:=rfl
def x6g(x:śf):wJ Žb=Ã:=rfl
def x6h(ds:Á D):wJ Ůf=Ť ds:=rfl
def x6i:Ť []=Ã:=rfl
def x6j(d:D)(ds:Á D):Ť (d::ds)=İh:=rfl
def z1r(i:Â)(π:Á xZ)(d:D):p_ ôj i π=.v d:=rfl
def x3w(d:D):vV ôj=d:=rfl
def x3x(d:D):vV (.own d)=d:=rfl
def x3y(x:śf)(fs:Á śf)(ms:Á M):vV ĵh=.obj x fs ãc:=rfl
def x3z(ks:Á (Sum Æ śf))(ms:Á M):vV œn=.dic ks ãc:=rfl
def x41:ϊc []=[]:=rfl
def x42(m:M)(ms:Á M):ϊc Ðg=vV m::ϊc ms:=rfl
def z1u(x:M):uQ x []=À x:=rfl
def y7x(x y:M):ug x [] y=À y:=rfl
def z9n(g:MG)(b:yY)(x:zl):ga g b [] x=À (.nx x):=rfl
def z9o(g:MG)(b:yY)(x:zl)(d:D)(r:Á D):type_of% (ga.eq_2 g b x d r):=rfl
open ķ ņ ĺ L2
def fldk_nil{K:Ð}{f:Ç}:vY K [] f:=λx a=>Þ a è
def fldk_cons{K:Ð}{f c:Ç}{C:Ì}{d:Á Ç}(ns:ų K Ĕ c=À ãa)(h:qT K C)(g:Ča K ļ f=À Ä)(r:vY K d f):vY K (c::d) f:=λx b e a=>by rcases Ň b with rfl|b;rw[ns]at a;cases a;show{h,g};show r x b e a
def GP:Á D->Ê D
 | [.lst xs]=>(ðj).bind λa=>match Ϝb Ϛj&&decide (ό<=1000)with
  |Ã=>À (.int a.sum)|Å=>Ä
 |_=>Ä
theorem oz:∀{ns:Á Æ},(∀n∈ns,0<=n/\n<1099511627776)->0<=ÿj/\ÿj<=1099511627776*(ϰ:Æ)
 | [],_=>{Ċa _,by decide}|n::ns,h=>by
  let{a,b}:=oz λm e=>h m (Üa _ e)
  let{c,d}:=h n Ł;rw[List.sum_cons,Ě]
  rw[ſp];omega;push_cast
  omega
def y55{K:Ð}:Uo K (n8 K) GP:=λG H p u d Q s r b q=>by
 rcases p with _|⟨x_,r_⟩;cases b
 cases x_<;>first|(cases b;done)|skip
 cases r_<;>first|(cases b;done)|skip
 rename_i m;let{ns,h,b}:=zH (show(YQ m).bind _=À d from b);cases c:(ns.all Ϛj&&decide (ϰ<=1000))with
 |Å=>rw[c]at b;cases b|Ã=>
  rw[c]at b;cases b;rw[ϵp];let t:=Ŋ c.2
  let f:∀n∈ns,0<=n/\n<1099511627776:=λn e=>by let:=Ϯa c.1 n e;rw[Č]at this;show{Ŋ this.1,Ŋ this.2}
  let{v,rfl,a,x,rfl,g,o,l}:=gi r;rw[Hw h o]at g;show{a,ns,rfl,.inl g,{λn e=>?_,λk y=>?_},q _ _ _ Øa rfl};let:=f n e
  constructor<;>omega;let:=oz (ns:=ns.take k) λn e=>f n (Ϩc e)
  let j:(ĩf).length<=1000:=by rw[Áa];omega
  let w:((ĩf).length:Æ)<=1000:=by exact_mod_cast j
  constructor<;>omega
def z2i:Ŷ õj=À ßm:=PyProof.Rows.bootS_repr
def KU(h:xK)(a:MG):yY:=λβ=>(h β).bind λr=>(şc).bind λd=>(a d r.2).bind λβ2=>À Ŷb
def y0b{X:Cx}{c:Â}{tg e:Õ}{pos:Pos}{h:xK}{g:MG}(u:MC X e h)(b:JK X c tg g)(n:Î Õk q12)(w:Î Ąk q12)(s:Î ((Űm).map (·.2)=ēn) q12) :MS X c ŀl (KU h g):=by
 let{C,k,l}:=u.h;let{I,p,i}:=b.h;show{{_,N9 k p n w s,λ{P y F G H β σ J E} t K a q=>?_}};obtain⟨⟨m,β1⟩,r,a⟩:=zH a;let{d,x,b}:=zH a;clear a;cases jb x;let{β2,j,a}:=zH b;cases a;show l K r λv z A B f=>?_
 show i t (f.down Ůa) f.ZH j λσ' o=>q _ _ _ o
open ϴ
section
variable{X:Cx}{np:Â}
nonrec def Ms(i j k:Â):MG:=λd β=>match d with
 |.tup Ág=>À ((Âk).set k (À (.fz z)))|_=>Ä
def y03{i j k:Â}{x y z:Ç}{p1 p2 c pos:Pos}{kk:Â}(h:QG X Ϗj (VE X.K 3 (jl ϙb (jl (uz j) (jl (uz k) VD)))))(hi:X.N[i]?=À x)(l:X.N[j]?=À y)(hk:X.N[k]?=À z)(w:np<=i)(A:np<=j)(O:np<=k):JK X np Ϗj (Ms i j k):=⟨⟨_,h.h,λ{P u L G H β β' σ d v Q} J K r b q=>by
 unfold Ms at b
 rw[ĭp];rename_i R E B;cases b;let{a,I,rfl,t,{o,F,rfl,p,{s,C,rfl,f,{n,m,rfl,e,g}}},_}:=r;cases(show m=[]from g);show{a,_,rfl,uJ âa t,rfl,o,_,rfl,s,_,rfl,n,_,rfl,rfl,?_};show q _ (((K.UJ Łb.1 É p).UJ (Š l).1 É f).UJ (Š hk).1 É e);cases b⟩⟩
#print a
section
variable{P:ë}{w:å}{K:Ð}{mg:Ç->Ê Value}{Ë:Heap}
def z99{x:Ç}{st:Ú}{N:Á Ç}{k:Â}{F:FM}{b:yY}{f:Ì}{i:Ľ}(d:Fun K Þb Þb st f i)(S:zk N [x] Ŏ)(o:1<=Ϝ)(j:∀ms r,F ms=À r->ů=1/\wf 1 Ϝ b ms=À r)(g:∀ns:Á Æ,ϰ<=63->(∀m∈ns,tL m<=1048576)->∃r,F Ąh=À (r,.fz ň))(u:∀(e:Value)(A:þ)(ą:Á Env)(s:Ï)(H:Hp)(E:XK),yp k (úb (Ëb Þb Ŏ ß f e))->gL (qC xJ P w K mg Ë N Þb Ŏ f e A ą s H E).qP 1 Ça b):xN P w K mg Ë xJ Ŝ f i [x] Ĭj:=
 (d.v.Qo (F:=F) S o j u).imp λC H Q E h=>by let{a,ns,rfl,y,l,c,q}:=h;let{r,n}:=g ns l c;let t:â K H êi ña:={_,_,rfl,{a,_,rfl,y,ße,by rw[æ];show Ņa É},rfl};show x1x {H,_,Å,.bl Ã,Ķa H,t,?_,λv B p _ z=>?_};exact(F (jj êi)).bind _=_;rw[show jj êi=Ąh from rfl,n];rfl;cases(show v=.bl Ã from z);show q p
#print a
nonrec def MN:D->D->Ê D
 |.str x,.int j=>match decide (Ćb<=16)&&(decide ņd&&decide Ŭf)with
  |Ã=>À (.str (Æb x j))|Å=>Ä
 |_,_=>Ä
def mw:V->V->Hp->VK->È:=λx y H Q=>∃i j,x=.str i/\y=.int j/\όa<=16/\0<=j/\j<=1000/\Q (.str šf) H
def lF{X:Cx}:xB X Ĝf mw:=by intro g s σ H x y v u Q I b c h;let{i,j,rfl,rfl,d,f,e,q}:=h;let{t,rfl}:=b;let{a,rfl}:=c;show SB.mul (mulOk_of 16 1000 d É É Í Í) λa k=>{.str šf,H,Ëa _,{_,rfl},q}
def lB{K:Ð}:tJ K mw MN:=λG H x y u v d Q s g h a q=>by
 cases x<;>first|(cases a;done)|skip
 cases y<;>first|(cases a;done)|skip
 rename_i i j
 change (match decide ϊo&&(decide ņd&&decide Ŭf)with|Ã=>À (ύc šf)|Å=>Ä)=À d at a
 cases c:(decide ϊo&&(decide ņd&&decide Ŭf))with
 |Å=>rw[c]at a;cases a|Ã=>rw[c]at a;cases a;rw[Č,Č]at c;let b:=Ŋ c.1;let f:=Ŋ c.2.1;let e:=Ŋ c.2.2;let l:(šf).length<=16*1000:=ūn b É;show{i,j,g.1,h,b,f,e,q _ _ _ Øa {rfl,by rw[Ś];omega}}
def iadd_list_road{M:Ŋd}{A:þ}{E:Value->Ï->È}{s:Ï}{a b:Value}{Q:Value->Ï->È}(f:ćb a Ġ)(i:ćb b Ġ)(h:Ý M A (ŉa řj đc) Q E s):Ý M A (Ýe .Add a b) Q E s:=by
 let g:=F.slot_list_iadd.lookup;unfold Ýe;show ϭa ?_
 let d:ìm îa ńa (Operator.Add == .Add)=pure Å:=by unfold ìm;exact(Òi îa ên >>= λe=>pure (e.isSome&&!isSeqSlot e))=pure Å;rw[g];exact(pure (Ã&&!isSeqSlot Ļi):Sem Ñ)=_;rw[show isSeqSlot Ļi=Ã by rw[ÿp]];rfl
 let c:seqSlot? (.type Ġ) ên=pure Ļi:=PySem.seqSlot_of g ŉ;show Ö (ūd f (Ö (Ëf d ?_)));exact Ý M A (if Å=Ã then _ else _) Q E s;rw[Ó Ŗ];show Ö (wpAny_binaryOp1_none (nm := ńa) f i ěm ?_);show Ö (Ëf c ?_);show Ö (Ád h)
#print L3
namespace L2
open ķ ņ ϴ ĺ
open PySem.AutoSeq1 in
def z9i(l:Ì)(c:Ü Value)(n:Â)(b:Ì)(a:Ü Value)(n2:Â)(p:Ê Ì)(j:Ü śa)(o:¬(!c.isEmpty&&řd (ąj+ò))=Ã)(i:ąj<=ã)(e:ąj+ò<=ã+1) :Meets (Builtin.«list.__iadd__» {[.ref l,.ref b],[]}) (λ_ R s=>ć l=À { cls:=.type Ġ,dict:=Ä,Ċ:=.seq c n,čc:=#[] }/\ć b=À { cls:=.type Ġ,dict:=p,Ċ:=.seq a n2,čc:=j }/\R (.ok (.ret (ċ l))) { s with ì:=ϫd l (ÿd λx=>x++a),Ę:=ĕ }):=
 .of_wp λk w A R s h=>by
  let{t,g,d,v,y}:=s;let{m,q,h}:=h;let C:=idx_int;let u:=AutoSeq1.sub_tuple_tuple;let B:=AutoSeq1.sub_list_list;let z:=AutoSeq1.sub_tuple_list;let r:=AutoSeq1.sub_list_tuple;let f:(c++a).size<=ã+1:=by rw[ϻl];show e
  wp_walk using(Ϡe m rfl (hz:=i) (_hz':=f)),ęm m,ęm q
  show{_,rfl,h}
def y8m(K:Ð):JQ:=λx y H Q=>∃l b xs zs,x=.ref l/\y=.ref b/\H l=À þa/\yc K H b zs/\ä+Œf<=ã/\Q øc Ġn
def z80{X:Cx}:LW X .Add (y8m X.K):=by
 intro J s σ H x y v u Q I B t h;let{l,b,L,S,rfl,rfl,o,p,P,q}:=h;cases B;cases t;let{z,c,n,r,R,e}:=I.UF o;let{a,m,w,_}:=Ϙ p;obtain⟨⟨O,C,N,k⟩,G,f,g,E,i⟩:=w;simp only at g i;subst g i;let A:=ϐa;let j:Áf+Çc<=ã:=by rw[ģ,ģ];omega
 let d:¬ ćk=Ã:=by rw[Ko j,ëf];show Ŗ
 refine L3.iadd_list_road {_,e,rfl} {_,f,rfl} (Æc F.slot_list_iadd {_,e,rfl} F.entry_list_iadd (F.args_list_iadd_2 _ _)
  (z9i l Řf n b ăb G C k d Æf É) {e,f,?_})
 refine{.ref l,_,I.LJ (ūa:=c++a) o e è (îc m) ?_,rfl,q};rw[ê];omega
#print L2
namespace L3
open ķ ņ ϴ ĺ L2
section
variable{X:Cx}{x:Ç}{pos ĕa:Pos}{e:Õ}{f:FE}{i:Â}
def x1a{α:Type}{xs:Á α}{i:Â}{v:α}(h:xs[i]?=À v):xs.set i v=xs:=by let{a,rfl}:=Š h;show List.set_getElem_self a
def OJ(w:ğa)(hi:X.N[i]?=À x)(s:gJ ßa x)(A:SE X e f)(a:Î ϧa q7) :SS X (.AugAssign šh .Add e pos) (qk i f):=by
 let{t,v,k}:=A.h;show{{_,m8 w hi s v z80 a,λ{R Q G H τ σ O E} K a q=>?_}};unfold qk at a
 rw[Ăp];rename_i m n;let{y,I,a}:=zH a;cases y with
 |lst ys=>
  change (if ϐa+ţ<=yN then À (Γe (m++ys))else Ä)=À O at a
  by_cases c:ϐa+ţ<=yN;rw[Àq];let{o,j,g,z,J,C,r,l}:=K.ow _ _ n;show{_,j,k K I λu S P d F=>?_};let{b,L,rfl,B,p,_}:=F;refine{o,b,J,L,rfl,rfl,d.h _ _ C,uB d.gh B,by rw[Ų,Āe,Ś];show c,?_}
  change E.nx (List.set σ i (À (Ùa o))) _
  rw[x1a j];show q _ _ _ ((Ìa d).Qn n j {_,yX,(ôa d.g).append p,?_});rw[Ϣp]
 |_=>cases a
 cases a
#print a
def Ux(f g:xK):xK:=λβ=>(Ńa).bind λr=>(şc).bind λx=>(g r.2).bind λa=>(ut a.1).bind λy=>(Jm x y).bind λz=>À (.own z,a.2)
section
variable{X:Cx}{a b:Õ}{pos:Pos}{g g':xK}
def KZ(J:MC X a g)(w:MC X b g'):MC X (.BinOp a .Add b pos) (Ux g g'):=by
 let{W,F,K}:=J.h;let{Q,O,y}:=w.h;show{{_,N7 lE F O,λE d q=>?_}};obtain⟨⟨Y,β1⟩,t,d⟩:=zH d;let{R,e1,d}:=zH d;cases jb e1;obtain⟨⟨m2,β2⟩,o,d⟩:=zH d;let{U,e2,d}:=zH d;cases jb e2;let{z,A,d}:=zH d;cases d;show K E t λv1 T P u k=>?_
 let I:=k.ZH;show y (k.down ŏ) o λZ C S i l=>?_
 let H:=l.ZH;let e:=l.down ŏ;let{r,L,rfl,rfl,c,rfl}:=z4g A;let{G,N,rfl,s,m,_}:=I;let{B,v,rfl,x,j,_}:=H;let n:(r++L).length<=ã:=by rw[Ś,ê];show c
 refine{G,B,N,v,rfl,rfl,uB (ϸf Ęd) s,uB Ęd x,by rw[ϐa,Ôa,Ś];show c,λp f=>?_};show q _ C _ (Ϩi i) (e.F8 (Ϟa Ęd f) f (e.ext.gh.free f) {_,yX,(m.mono i).append j,n})
#print a
#print L3
namespace L3
open ķ ņ ĺ L2
def zR(K:Ð)(x:Ç)(st:Ú):È:=
 ∃(f:Ì) (od an:Ê Ì) (sl:Ü śa) (oc kV dc pm cd ct:Value),ų K Ĕ x=À Ťa/\ϓ f=MP x st oc od sl kV dc pm an cd ct/\Ĉb K cd x=Ã/\Õa K Ĵ=Ã
section
variable{K:Ð}{mg:Ç->Ê Value}{h:Heap}{x p0 p1 p2 p3:Ç}{st:Ú}{ps:Á Ç}
def fnp_mk{f:Ì}{d h:Ê Ì}{g:Ü śa}{e kV j i b ct:Value}(a:ų K Ĕ x=À Ťa)(l:ϓ f=MP x st e d g kV j i h b ct)(c:Ĉb K b x=Ã)(k:Õa K Ĵ=Ã):zR K x st:={_,_,_,_,_,_,_,_,_,_,a,l,c,k}
def zR.d(a:zR K x st)(X:ř h)(G:Īa Ĕ mg)(b:∀(kV g j:Value)(i:Ê Ì)(e ct:Value)(us:Á Value),Ű=č->όf (Ñb x x Ļb Ça Ŏ .none kV g j i e ct) {us,[]}=pure ňc):Def K mg x st ps:=by let{f,o,i,n,p,kV,q,j,m,ct,a,l,c,k}:=a;let F:=eZ (st:=st) l c k;show{_,_,F,ýc X G a,F.binds b}
abbrev BA(x:Ç)(st:Ú)(us:Á Value)(ps:Á Ç):È:=∀(kV doc pm:Value)(an:Ê Ì)(cdv ct:Value),όf (Ñb x x Ļb Ça Ŏ .none kV doc pm an cdv ct) {us,[]}=pure ňc
def zR.d1(a:zR K x st)(X:ř h)(G:Īa Ĕ mg)(b:Î (∀u,BA x st [u] [p0]) q15):Def K mg x st [p0]:=a.d X G λ_ _ _ _ _ _=>us1 λu=>b u _ _ _ _ _ _
def zR.d2(a:zR K x st)(X:ř h)(G:Īa Ĕ mg)(b:Î (∀u v,BA x st [u,v] [p0,p1]) q15):Def K mg x st [p0,p1]:=a.d X G λ_ _ _ _ _ _=>us2 λu v=>b u v _ _ _ _ _ _
def zR.d3(a:zR K x st)(X:ř h)(G:Īa Ĕ mg)(b:Î (∀u v y,BA x st [u,v,y] éo) q15):Def K mg x st éo:=a.d X G λ_ _ _ _ _ _=>us3 λu v y=>b u v y _ _ _ _ _ _
def zR.d4(a:zR K x st)(X:ř h)(G:Īa Ĕ mg)(b:Î (∀u v y z,BA x st [u,v,y,z] Ên) q15):Def K mg x st Ên:=a.d X G λ_ _ _ _ _ _=>us4 λu v y z=>b u v y z _ _ _ _ _ _
def _root_.L2.Def.oS(d:Def K mg x st ps)(P:ë)(w:å)(a:Heap)(k:Â)(F:Á D->Ê ç)(S:zk N ps Ŏ)(h:∀ds r,F ds=À r->ÿ=č/\yK Ϝ b ds=À r)(i:∀{f:Ì}{c:Value}{A:þ}{ą:Á Env}{s:Ï}{H:Hp}{E:XK},yp k Ŭg->qU (ϳj).qP Ça b)(g:Î Ŀf q10):vI P w K mg a x ps Ŝ Če:=Def.z11 d S g h λ_ _ _ _ _ _ _ e=>i e
def _root_.L2.Def.oM(d:Def K mg x st ps)(P:ë)(w:å)(a:Heap)(k:Â)(F:FM)(S:zk N ps Ŏ)(h:∀ms r,F ms=À r->ů=č/\wf č Ϝ b ms=À r)(i:∀{f:Ì}{c:Value}{A:þ}{ą:Á Env}{s:Ï}{H:Hp}{E:XK},yp k Ŭg->gL (ϳj).qP č Ça b)(g:Î Ŀf q10):vI P w K mg a x ps Ŝ ϗf:=Def.Qo d S g h λ_ _ _ _ _ _ _ e=>i e
def vH.oM(d:vH K x q st f fd)(P:ë)(w:å)(mg:Ç->Ê Value)(a:Heap)(k:Â)(F:FM)(S:zk N ps Ŏ)(h:∀ms r,F ms=À r->ů=č/\wf č Ϝ b ms=À r)(i:∀{c:Value}{A:þ}{ą:Á Env}{s:Ï}{H:Hp}{E:XK},yp k ϖk->gL (ϴj).qP č Ça b)(g:Î Ŀf q10):xN P w K mg a xJ Ŝ f fd ps ϗf:=d.Qo S g h λ_ _ _ _ _ _ e=>i e
def vH.oF(d:vH K x q st f fd)(P:ë)(w:å)(mg:Ç->Ê Value)(a:Heap)(k:Â)(F:Á D->Ê ç)(S:zk N ps Ŏ)(h:∀ds r,F ds=À r->ÿ=č/\yK Ϝ b ds=À r)(i:∀{c:Value}{A:þ}{ą:Á Env}{s:Ï}{H:Hp}{E:XK},yp k ϖk->qU (ϴj).qP Ça b)(g:Î Ŀf q10):xN P w K mg a xJ Ŝ f fd ps Če:=d.z10 S g h λ_ _ _ _ _ _ e=>i e
#print a
#print L3
namespace L2
open ķ ņ ϴ ĺ
nonrec def wj(p:Û):Æ:=numOf p.1
def yd(p q:Û):È:=wj p<=wj q
def Vl(p:Û):È:=∃n t,p.1=.int n t
def uC(x:Ü Û):È:=∀(i:Â) p,x[i]?=À p->Vl p
nonrec def VF:Ñ->Û->Ü Û->Â->Â->Â->Ŕ Ă Sem œc:=sortPriv% PySem.Builtin.gallop
nonrec def iZ:Ü Û->Ü Û->Ŕ Ă Sem éc:=sortPriv% PySem.Builtin.mergeLo
nonrec def iY:Ü Û->Ü Û->Ŕ Ă Sem éc:=sortPriv% PySem.Builtin.mergeHi
section
variable{Ĝ:ë}{w:å}{A:þ}{E:Value->Ï->È}{s:Ï}
def uD{x:Ü Û}{i:Â}{p:Û}{st:Ă}{Q}(h:x[i]?=À p)(q:Q p st):wpS í A E s (āa x i) Q st:=by rw[elem'_eq,h];show ü q
def w_lt{p q:Û}{st:Ă}{Q:Ê Ñ->Ă->È}(hk:çg st=āe)(d:Vl p)(c:Vl q)(h:Q (À (decide (wj p<wj q))) st):wpS í A E s (lt' p q) Q st:=by obtain⟨⟨a,t,e⟩,⟨b,u,f⟩⟩:=And.intro d c;rw[lt'_eq];show é ċe;unfold wj at h;rw[hk,keyLt'_oneType,e,f];rw[e,f]at h;show é (āl (ϩg (oneLt_int {rfl,ü h})))
def Rr(B:Â->Ñ)(n hi:Â):È:=hi<=n/\(∀i,i<hi->B i=Ã)/\∀i,hi<=i->i<n->B i=Å
nonrec def gj(left:Ñ)(k:Æ)(f:Â->Æ)(i:Â):Ñ:=if left then decide (f i<k)else !decide (k<f i)
def w00{left:Ñ}{a x:Û}{st:Ă}{Q:Ê Ñ->Ă->È}(hk:çg st=āe)(b:Vl a)(c:Vl x)(h:Q (À (gj left (wj a) (λ_=>wj x) 0)) st) :wpS í A E s (if left=Ã then lt' x a else do let y <-lt' a x;pure Ϻk) Q st:=by
 cases left with
 |Ã=>show w_lt hk c b h|Å=>show é (w_lt hk b c (ü h))
def DB{β:Type}{n:Â}{c:β}{f:Â->β->Ŕ Ă Sem (Áb β)}{st:Ă}{Q R:β->Ă->È}(I:Â->β->È)(h:I 0 c)(d:∀i c,i<n->I i c->wpS í A E s (f i c) (λr st'=>match r with|.done c'=>Q c' st'|.yield c'=>st'=st/\I ñ c') st)(e:∀c,I n c->Q c st)(a:∀c st',Q c st'->R c st'):wpS í A E s ŭm R st:=by show œd (Ϯb (I:=λi c st'=>st'=st/\I i c) (Q:=Q) ?_ ?_ {rfl,h}) a;rintro i c _ _ b ⟨rfl,h⟩;show d i c b h;rintro c _ ⟨rfl,h⟩;rw[żh]at h;show e c h
def rZ{B:Â->Ñ}{n lo hi:Â}{st:Ă}{f:Â->Ê œc×Â×Â->Ŕ Ă Sem (Áb (Ê œc×Â×Â))}{R:Ê œc×Â×Â->Ă->È}(a:∀i j,i<=j->j<n->B j=Ã->B i=Ã)(G:lo<=hi)(v:hi<=n)(C:∀i,i<lo->B i=Ã)(F:∀i,hi<=i->i<n->B i=Å)(I:∀x l r Q,r<=l->Q (.done (Ä,l,r)) st->wpS í A E s Ŀm Q st)(y:∀x l r Q,l<r->r<=n->(B Īf=Ã->Q (.yield (Ä,l+(r-l)/2+1,r)) st)->(B Īf=Å->Q (.yield (Ä,l,l+(r-l)/2)) st)->wpS í A E s Ŀm Q st)(q:∀m,Rr B n m->R (Ä,m,m) st):wpS í A E s (Ēb [:n] (Ä,lo,hi) f) R st:=by show DB (Q:=λc k=>k=st/\∃m,c=(Ä,m,m)/\Rr B n m) (λx c=>∃l r,c=(Ä,l,r)/\l<=r/\r<=n/\r+x<=n+l/\(∀i,i<l->B i=Ã)/\∀i,r<=i->i<n->B i=Å) {lo,hi,rfl,G,v,ŧm v ϖb,C,F} ?_ ?_ ?_;rintro x _ J ⟨l,r,rfl,o,b,z,d,h⟩;by_cases c:r<=l;cases ĵc o c;show I _ _ _ _ c {rfl,l,rfl,b,d,h};let u:=ϭ l ((r-l)/2);let t:=Ăl (Nat.div_lt_self (Ëh ϱe) (ϭb 1));show y _ _ _ _ ϱe b ?_ ?_<;>(generalize l+(r-l)/2=m at u t ⊢;intro e);show{rfl,_,r,rfl,t,b,by omega,λi p=>a i m (Éd p) (Ũ t b) e,h};refine{rfl,l,_,rfl,u,by omega,by omega,d,λi p H=>?_};cases e2:B i;rfl;rw[a _ i p H e2]at e;cases e;rintro _ ⟨l,r,rfl,o,b,z,d,h⟩;cases ĵc o É;show{rfl,l,rfl,b,d,h};rintro _ _ ⟨rfl,m,rfl,g⟩;show q m g
def w03{left:Ñ}{k:Û}{x:Ü Û}{b n d:Â}{st:Ă}{Q:Ê Â->Ă->È}(hk:çg st=āe)(P:Vl k)(I:uC x)(W:b+n<=óa)(G:d<n)(U:∀i j,i<=j->j<n->K x (b+i)<=K x (b+j))(h:∀hi,Rr Ĳk n hi->Q (À hi) st) :wpS í A E s (VF left k x b n d) Q st:=by
 have H:∀i Q,i<n->Q (À (gj left ņe Ýf i)) st->wpS í A E s (āa x (b+i) >>= λx=>if left=Ã then lt' x k else do let y <-lt' k x;pure Ϻk) Q st:=by
  intro i Q hi q;rw[Źp];show é (uD e (w00 hk P (I _ _ e) ?_));let e2:K x (b+i)=wj x[b+i]:=by unfold K;rw[e];rfl
  let L:gj left ņe (λ_=>wj x[b+i]) 0=gj left ņe Ýf i:=by unfold gj;simp only[e2]
  rw[L];show q
 let f:∀i j,i<=j->j<n->gj left ņe Ýf j=Ã->gj left ņe Ýf i=Ã:=by intro i j T R;let:=U i j T R;unfold gj;cases left;simp only[Ğb,Ϧ,Bool.not_eq_true',decide_eq_false_iff_not];omega;simp only[ś,ϲl];omega
 generalize Ĳk=B at h H f;unfold VF;show é (H d _ G ?_);cases e:B d;show é (DB (Q:=λc C=>C=st/\∃l o,c=(Ä,l,o)/\l<=d/\B (d-l)=Å/\l<o/\∀i,i+o<=d->B i=Ã) (λx c=>∃l o,c=(Ä,l,o)/\l<=d/\B (d-l)=Å/\l<o/\x<o) {0,1,rfl,Ϥ _,e,ϙd,ϙd} ?_ ?_ ?_);rw[Ŵp]
 split;show ü {rfl,l,o,rfl,p,t,u,λi _=>by omega};let lo:=íb (Nat.sub_le d o) G;show é õn;cases e2:B (d-o);show ü {rfl,o,_,rfl,by omega,e2,by omega,by omega};show ü {rfl,l,o,rfl,p,t,u,λi F=>f i _ (Nat.le_sub_of_add_le F) lo e2};rintro _ ⟨l,o,rfl,p,t,u,v⟩;show{rfl,l,o,rfl,p,t,u,λi _=>by omega};rw[Ϭp];refine é (rZ (B:=B) (lo:=d+1-min o (d+1)) (hi:=d-l) f (İ (ňl (ġh {u,ğb p}) _) (Ĭb (Nat.add_sub_add_right ..))) (Ïa (íb Ĥb G)) (λi a=>v i (by let:=Nat.add_lt_of_lt_sub a;omega)) (λi F N=>?_) řl Ðl λm g=>ü (h m g));cases e2:B i;rfl;rw[f _ i F N e2]at t;cases t;rw[ϥp];show é (DB (Q:=λc C=>C=st/\∃l o,c=(Ä,l,o)/\d+l<n/\B (d+l)=Ã/\l<o/\∀i,d+o<=i->i<n->B i=Å) (λx c=>∃l o,c=(Ä,l,o)/\d+l<n/\B (d+l)=Ã/\l<o/\x<o) {0,1,rfl,G,e,ϙd,ϙd} ?_ ?_ ?_);rw[Ŵp]
 split;rw[Ŀp]
 replace c:=Nat.le_add_of_sub_le c
 show ü {rfl,l,o,rfl,p,t,u,λi _ _=>by omega};rw[Ŀp];let lo:=Ăl ϱe;show é õn;cases e2:B (d+o);show ü {rfl,l,o,rfl,p,t,u,λi F N=>by cases L:B i;rfl;rw[f _ i F N L]at e2;cases e2};show ü {rfl,o,_,rfl,lo,e2,by omega,by omega};rintro _ ⟨l,o,rfl,p,t,u,v⟩;show{rfl,l,o,rfl,p,t,u,λi _ _=>by omega};rw[Ϭp];show é (rZ (B:=B) (lo:=d+l+1) (hi:=d+min o (n-d)) f (Nat.add_lt_add_left (Nat.lt_min.mpr {u,Nat.lt_sub_of_add_lt (êd .. ▸ p)}) _) (İ (Ĩc (ĵg ..) _) (Ĭb (Ϭc (Ïa G)))) (λi F=>f i (d+l) (Éd F) p t) (λi a b=>?_) řl Ðl λm g=>ü (h m g));rcases ąf o (n-d)with z|z;rw[œa z]at a;show v i a b;rw[Øf z,Ϭc (Ïa G)]at a;show Þ b (ϣd a);rw[ϥp]
#print a
structure ui(R:Û->Û->È)(t o x y:Á Û):È where
 p:(o++Ûg).Perm t
 sx:(o++x).Pairwise R
 sy:(o++y).Pairwise R
section
variable{R:Û->Û->È}{t o m x y:Á Û}
def ϱf(h:ui R t o x y):ui R t o y x:={(ϗg o List.perm_append_comm).trans h.p,h.sy,h.sx}
def ϲf(h:ui R t o (m++x) y)(c:∀p∈m,∀q∈y,R p q):ui R t (o++m) x y:=by let{p,a,b}:=h;show{?_,?_,?_};rw[Ţ]at p ⊢;show p;rw[Ţ];show a;rw[List.pairwise_append]at a b ⊢;show{?_,b.2.1,λp e q d=>?_};show ϗe {a.1,(śb a.2.1).1,λp e q d=>a.2.2 p e q (ϴc _ d)};rcases Þa e with z|z;show b.2.2 p z q d;show c p z q d
def ùj(h:ui R t o x y)(c:∀p∈x,∀q∈y,R p q):(Ϲo).Perm t/\(Ϲo).Pairwise R:=by let:=(ϲf (m:=x) (x:=[]) (by rw[ŵ];show h) c);show{by rw[Ţ];show h.p,this.sy}
#print a
def Ϡa{p q r:Û}(a:yd p q)(b:yd q r):yd p r:=ëd a b
section
variable{Ĝ:ë}{w:å}{A:þ}{E:Value->Ï->È}{s:Ï}
def Q8{left:Ñ}{a:Û}{x:Ü Û}{b n d:Â}{st:Ă}{Q:Ê Â->Ă->È}(hk:çg st=āe)(f:Vl a)(o:uC x)(t:b+n<=óa)(r:d<n){z:Á Û}(m:(Ϩm b).take n=z)(q:z.Pairwise yd)(h:∀k,k<=n->(∀p∈z.take k,if left then wj p<wj a else yd p a)->(∀p∈z.drop k,if left then yd a p else wj a<wj p)->Q (À k) st) :wpS í A E s (VF left a x b n d) Q st:=by
 have v:Ř=n:=by rw[<-m,Áa,Ŷa,ſ];omega
 let g:∀i (l:i<Ř),K x (b+i)=wj z[i]:=by intro i l;subst m;rw[Źp];unfold K;rw[e,Ϸl,ϸl,ϵc];rfl
 show w03 hk f o t r (λi j y u=>?_) λk c=>h k c.1 (λp f=>?_) λp f=>?_;rw[g i É,g j É];by_cases e:i=j;subst e;rw[ϟp];show Řk q i j _ _ É;let{i,l,rfl}:=List.mem_take_iff_getElem.mp f;let:=c.2.1 i É;simp only[gj,g i (show i<Ř by omega)]at this;cases left;show įc Ėl;rw[đp];let{i,l,rfl}:=List.mem_drop_iff_getElem.mp f;let:=c.2.2 (k+i) É É;simp only[gj,g (k+i) É]at this;simp only[êd k i]at this ⊢;cases left;rw[đp];show įc Ėl
def g6{β:Type}(Q I:β->È):Áb β->È
 |.done c=>Q c|.yield c=>I c
abbrev yU(a:Ü Û)(p:Ü Ŕa)(f:Ê Value)(g:Â):Ă:=ác āe a p g f
def Q7{β:Type}{n:Â}{c:β}{f:Â->β->Ŕ Ă Sem (Áb β)}{a p fl g}{R:β->Ă->È}(I:Â->β->È)(Q:β->È)(h:I 0 c)(e:∀i c g,i<n->I i c->wpS í A E s (f i c) (λr st'=>∃g',st'=yU a p fl g'/\g6 Q (I ñ) r) Ŗh)(j:∀c,I n c->Q c)(b:∀c g,Q c->R c Ŗh):wpS í A E s ŭm R Ŗh:=by show œd (Ϯb (I:=λi c st'=>∃g,st'=yU a p fl g/\I i c) (Q:=λc st'=>∃g,st'=yU a p fl g/\Q c) ?_ ?_ {g,rfl,h}) ?_;rintro i c _ _ d ⟨g,rfl,h⟩;show œd (e i c g d h) ?_;rintro r _ ⟨g,rfl,h⟩;cases r<;>show{g,rfl,h};rintro c _ ⟨g,rfl,h⟩;rw[żh]at h;show{g,rfl,j c h};rintro c _ ⟨g,rfl,h⟩;show b c g h
#print a
def wH(t:Á Û)(a b o:Ü Û)(i j:Â):È:=ui yd t ťi Ég (Ìc j)
def uX(t:Á Û)(r:Ü Û):È:=r.toList.Perm t/\r.toList.Pairwise yd
section
variable{t:Á Û}{a b o:Ü Û}{i j k:Â}{p:Û}
def G7(h:a[i]?=À p):Ŵa i=p::Ŵa ñ:=by let{b,rfl}:=Ϟc h;rw[êb Ŧl,ϵc]
theorem wH.swap(h:wH t a b o i j):wH t b a o j i:=ϱf h
def wH.pa(h:wH t a b o i j)(e:a[i]?=À p)(c:∀q∈Ìc j,yd p q):wH t a b ēd ñ j:=by unfold wH at h ⊢;rw[G7 e]at h;rw[Òh];show ϲf (m:=[p]) h λq d=>åa d▸c
def wH.pb(h:wH t a b o i j)(e:b[j]?=À p)(c:∀q∈Ŵa i,yd p q):wH t a b ēd i ϸ:=(Ľm).swap
def wH.ca(h:wH t a b o i j)(c:∀p∈(Ég).take k,∀q∈Ìc j,yd p q):wH t a b àf Ϗc j:=by unfold wH at h ⊢;rw[<-ĭa k Ég,Ĥh]at h;rw[Ĝb,Ųd,šd,ũd];show h.move c
def wH.cb(h:wH t a b o i j)(c:∀p∈(Ìc j).take k,∀q∈Ŵa i,yd p q):wH t a b (o++Äb j (j+k)) i (j+k):=(ōo c).swap
theorem wH.fin(h:wH t a b o i j)(c:∀p∈Ŵa i,∀q∈Ìc j,yd p q):uX t (o++īb i ò++Äb j ώ):=by
 let e:∀(x:Ü Û) k,(Çd k óa).toList=Ϩm k:=λx k=>by rw[Ųd,šd];show Ϯc (by rw[Ŷa,ſ];rw[ϡp])
 unfold uX;rw[Ĝb,Ĝb,e,e];show ùj h c
def wH.hd(h:wH t a b o i j)(e:a[i]?=À p):∀q∈Ŵa i,yd p q:=by unfold wH at h;let:=(śb h.sx).2.1;rw[G7 e]at this ⊢;intro q c;rcases Ň c with rfl|c;rw[ϟp];show(ůd this).1 q c
def wH.sa(h:wH t a b o i j):(Ég).Pairwise yd:=ÿk.2.1
def iy(h:i=ò){P:Û->È}:∀p∈Ŵa i,P p:=by rw[ϱb ϊd];intro p b;cases b
def cp(h:ώ-i=k):(Ìc i).take k=Ìc i:=Ϯc (by rw[Ŷa,ſ];omega)
#print a
abbrev oQ:=Ê éc×Ü Û×Â×Â×Â
abbrev Bk:=Ê éc×Ü Û×Â×Â×Â×Â
abbrev W6:=Ê éc×Ü Û×Â×Â×Â×Â×Â
structure Vm(t:Á Û)(a b:Ü Û)(x:Â)(o:Ü Û)(i j:Â):È where
 l:wH t a b o i j
 p:i+1<ò
 q:j<ώ
 s:x<i+j
section
variable(t:Á Û)(a b:Ü Û)(x:Â)
inductive Bp:oQ->È
 |mk {o i j m}:Vm t a b x o i j->Bp (Ä,o,i,j,m)
inductive OH:Bk->È
 |mk {o i j m n}:Vm t a b x o i j->OH (Ä,o,i,j,m,n)
inductive W7:Bk->È
 |fin {r c}:uX t r->W7 (À r,c)
 |go {o i j m n}:Vm t a b x o i j->W7 (Ä,o,i,j,m,n)
inductive T_:W6->È
 |mk {o i j m n q}:Vm t a b x o i j->T_ (Ä,o,i,j,m,n,q)
inductive gl:W6->È
 |fin {r c}:uX t r->gl (À r,c)
 |go {o i j m n q}:Vm t a b x o i j->gl (Ä,o,i,j,m,n,q)
#print a
def YZ{a b:Â}(h:a<=b)(c:¬(a==b)=Ã):a<b:=Żl h λe=>c (ķc e)
def Xv{a:Â}(c:¬(a==0)=Ã):∃n,a=n+1:=Nat.exists_eq_succ_of_ne_zero λe=>c (ķc e)
nonrec def Bn(r:Ê Â)(f:Â->Ŕ Ă Sem β)(g:Ŕ Ă Sem β):Ŕ Ă Sem β:=(sortPriv% PySem.Builtin.mergeLo.match_1) Ϩe r f λ_=>g
section
variable(a b:Ü Û)
nonrec def Yl(o:Ü Û)(i j:Â):Ü Û:=o++īb i ò++Äb j ώ
nonrec def Bj(o:Ü Û)(i j:Â):Ü Û:=o++Äb j ώ++īb i ò
def R_(o:Ü Û)(i j g k m:Â):Ŕ Ă Sem ϔf:=do
 let p <-āa a i
 if ļn=Ã then pure (.done (À Ϫl,Ź p,i+1,j,g,k,m))
 else if(decide (k<7)&&decide (m<7))=Ã then pure (.done (Ä,Ź p,i+1,j,g,k,m))else pure (.yield (Ä,Ź p,i+1,j,g,k,m))
def Rz(o:Ü Û)(i j g k u:Â):Ŕ Ă Sem ϔf:=do
 let q <-āa b j
 if Ēo=Ã then pure Ŭj
 else do
  let p <-āa a i
  let r <-VF Ã p b ϸ (ώ-ϸ) 0
  Bn r (λm=>
   if m>0 then
    if(j+1+m==ώ)=Ã then pure (.done (À (Yl a b ϯk i äj),Ź q++Äb ϸ äj,i,j+1+m,g,k,m))
    else R_ a b ϯk i äj g k m
   else R_ a b Èg i ϸ g k m) (pure Ŭj)
def Ry(o:Ü Û)(i j n u g:Â):Ŕ Ă Sem ϔf:=do
 Ųc λs=>ác Ōc Ŕc ÿc g ńc
 let q <-āa b j
 let r <-VF Å q a i (ò-i) 0
 Bn r (λk=>
  if k>0 then
   if(i+k+1==ò)=Ã then pure (ζd (Bj a b àf Ϗc j) Ϗc)
   else if(i+k==ò)=Ã then pure (ζd (Yl a b àf Ϗc j) Ϗc)
   else Rz a b àf Ϗc j g k u
  else Rz a b o i j g k u) (pure (.done (À îf,o,i,j,g,n,u)))
nonrec def OG(r:Ê α)(f:α->Ŕ Ă Sem β)(g:Ŕ Ă Sem β):Ŕ Ă Sem β:=Break.runK.match_1 Ϩe r f λ_=>g
nonrec def oU(r:Ê Ñ)(f:Ñ->Ŕ Ă Sem β)(g:Ŕ Ă Sem β):Ŕ Ă Sem β:=(sortPriv% PySem.Builtin.countRun.match_1) Ϩe r f λ_=>g
def oX(o:Ü Û)(i j g m n:Â):Ŕ Ă Sem (Áb Bk):=do
 let q <-āa b j
 let p <-āa a i
 let r <-lt' q p
 oU r (λt=>
  if t=Ã then do
   let q <-āa b j
   if Ēo=Ã then pure (.done (À (Yl a b Èg i ϸ),Ź q,i,j+1,0,n+1))
   else if n+1≥g then pure (.done (Ä,Ź q,i,j+1,0,n+1))else pure (.yield (Ä,Ź q,i,j+1,0,n+1))
  else do
   let p <-āa a i
   if ļn=Ã then pure (.done (À Ϫl,Ź p,i+1,j,m+1,0))
   else if m+1≥g then pure (.done (Ä,Ź p,i+1,j,m+1,0))else pure (.yield (Ä,Ź p,i+1,j,m+1,0))) (pure (.done (À îf,o,i,j,m,n)))
def x25(x:W6):Ŕ Ă Sem ϔf:=if x.2.2.2.2.1>1 then Ry a b x.2.1 x.2.2.1 x.2.2.2.1 x.2.2.2.2.2.1 x.2.2.2.2.2.2 (x.2.2.2.2.1-1)else Ry a b x.2.1 x.2.2.1 x.2.2.2.1 x.2.2.2.2.2.1 x.2.2.2.2.2.2 x.2.2.2.2.1
def x26(o:Ü Û)(i j g:Â):Ŕ Ă Sem (Áb oQ):=do
 let d <-Ēb [:ò+ώ] ((Ä,o,i,j,0,0):Bk) λ_ d=>oX a b d.2.1 d.2.2.1 d.2.2.2.1 g d.2.2.2.2.1 d.2.2.2.2.2
 OG d.1 űj do
  liftM ϝk
  let e <-Ēb [:ò+ώ] ((Ä,d.2.1,d.2.2.1,d.2.2.2.1,g+1,d.2.2.2.2.1,d.2.2.2.2.2):W6) λ_ e=>x25 a b e
  OG e.1 Šj do
   Ųc λs=>ác Ōc Ŕc ÿc Ňm ńc
   pure Ÿj
#print a
def XY(x:Ü Û)(i:Â)(h:i<óa):∃p,x[i]?=À p:={_,getElem?_pos x i h}
section
variable{t:Á Û}{a b:Ü Û}(hl:∀q∈ŝc,∀p∈Ŵa Êg,yd q p)
include hl in
theorem wH.lst{o i j}(l:wH t a b o i j)(e:i+1=ò):uX t (Bj a b o i j):=Üo λq c p d=>hl q (List.drop_subset _ _ c) p (by rw[show ò-1=i by omega];show d)
def wH.da{o i j}(l:wH t a b o i j)(e:i=ò):uX t îf:=Ĉg (iy e)
def wH.db{o i j}(l:wH t a b o i j)(e:j=ώ):uX t îf:=Ĉg λp c=>iy e
#print a
section
variable{Ĝ:ë}{w:å}{A:þ}{E:Value->Ï->È}{s:Ï}
def xf{α:Type}{c:È}[Şo c]{m n:Ŕ Ă Sem α}{Q:α->Ă->È}{st:Ă}(b:c->wpS í A E s m Q st)(a:¬c->wpS í A E s n Q st):wpS í A E s (if c then m else n) Q st:=by by_cases h:c;rw[Ò h];show b h;rw[Ó h];show a h
section
variable{t:Á Û}{a b:Ü Û}(ha:uC a)(hb:uC b)(hl:∀q∈ŝc,∀p∈Ŵa Êg,yd q p){a0:Ü Û}{p0:Ü Ŕa}{f0:Ê Value}{x y g m k u:Â}{o:Ü Û}{i j:Â}{p q:Û}
include hl in
theorem sB(l:wH t a b o i j)(ep:a[i]?=À p)(c:∀r∈Ìc j,yd p r)(e:i+1<ò)(d:j<ώ)(h:x<=i+j)(f:y<=x):wpS í A E s (R_ a b o i j g k m) (η (gl t a b y) (T_ t a b x)) Êc:=by
 replace l:=l.pa ep c
 show é (uD ep (Αa (Γc Ϗm)))
 replace c:=YZ e c
 show xf (λ_=>ü {g,rfl,gl.go {l,c,d,by omega}}) λ_=>ü {g,rfl,T_.mk {l,c,d,by omega}}
include ha hb hl in
theorem sA(l:wH t a b o i j)(n:b[j]?=À q)(c:∀r∈Ŵa i,yd q r)(f:i+1<ò)(F:x<i+j+1)(e:y<=x):wpS í A E s (Rz a b o i j g k u) Āk Êc:=by
 let G:=(Ϟc n).1
 replace l:=l.pb n c
 show é (uD n (Αa (Γc (l.db ϰa))))
 replace c:=YZ G c
 replace e:=Ìf e
 let{p,d}:=XY a i (Ĭc f);show é (uD d (é (Q8 rfl (ha _ _ d) hb ĭm (Ëh c) (cp rfl) ňo λm h e1 e2=>?_)));rw[Ĥh]at e2
 replace h:j+1+m<=ώ:=êd .. ▸ Ģl Ťc h
 show xf ũf λB=>?_;let v:=l.cb λp C r z=>Ϡa (ëa (e1 p C)) (l.hd d r z)
 refine xf (Γc Ćo) λc=>sB hl v d e2 f (YZ h c) É e;cases Őg B;show sB hl l d e2 f c F e
include ha hb hl in
theorem rq(l:wH t a b o i j)(B:i+1<ò)(F:j<ώ)(C:x<i+j)(z:y<=x){n K:Â}:wpS í A E s (Ry a b o i j n u g) Āk (yU a0 p0 f0 K):=by
 let{q,e}:=XY b j F;let m:=Ĭc B;show é (θ (Φe (Q8 rfl (hb _ _ e) ha (Ĭb (Ϭc (Ïa m))) (Ëh m) (cp rfl) l.sa λk v I d=>?_)));rw[Ĥh]at d
 replace d:=λp f=>ëa (d p f)
 replace v:i+k<=ò:=êd .. ▸ Ģl (Ïa m) v
 show xf ũf λc=>?_;let h:=l.ca λp f r G=>Ϡa (I p f) (ŕf e r G)
 refine xf (ωd (h.lst hl ϰa)) λJ=>xf (ωd (h.da ϰa)) λH=>sA ha hb hl h e d (YZ (YZ v H) J) É z;cases Őg c;show sA ha hb hl l e d B (Èd C) z
include ha hb hl in
theorem w06(l:Vm t a b x o i j)(B:y<=x+1){n:Â}:wpS í A E s (oX a b o i j g m n) (η (W7 t a b y) (OH t a b äb)) äf:=by
 let{l,h,k,z}:=l;let{p,e}:=XY a i (Ĭc h);let{q,f}:=XY b j k;show é (uD f (Φe (οc (hb _ _ f) (ha _ _ e))));by_cases c:wj q<wj p;rw[õ c];let d:=l.pb f λr v=>Ϡa (ëa c) (l.hd e r v)
 show é (uD f (Ωd Ĕo))
 replace c:=YZ k c
 show xf (λ_=>ü {_,rfl,W7.go {d,h,c,by omega}}) λ_=>ü {_,rfl,OH.mk {d,h,c,ñm z}};rw[ē c];let d:=l.pa e λr v=>Ϡa Êj (ŕf f r v)
 show é (uD e (Ωd ϕm))
 replace c:=YZ h c
 show xf (λ_=>ü {_,rfl,W7.go {d,c,k,by omega}}) λ_=>ü {_,rfl,OH.mk {d,c,k,by omega}}
include ha hb hl in
theorem w07(l:Vm t a b x o i j):wpS í A E s (x26 a b o i j g) (η že (Bp t a b äb)) äf:=by show é (Τb (λz=>OH t a b (x+z)) (W7 t a b äb));rintro z _ g m ⟨l⟩;show w06 ha hb hl l İm;rintro _ ⟨_,d,h,e⟩;rw[úp];show é (Τa (Τb (λz=>T_ t a b (x+1+z)) (gl t a b äb)));rintro z _ g m ⟨l,d,h,e⟩;let k:=ϭ äb z;show xf (λ_=>rq ha hb hl l d h e k) λ_=>rq ha hb hl l d h e k;rintro _ ⟨_,d,h,e⟩;rw[úp];show é (θ (ü {_,rfl,Bp.mk l}))
#print a
def w0a{a b:Ü Û}{a0 p0 f0 g}{t:Á Û}{Q:Ü Û->Ă->È}(n:uC a)(u:uC b)(k:0<ò){y:Û}(j:b[0]?=À y)(d:wH t a b #[y] 0 1)(i:∀q∈ŝc,∀p∈Ŵa Êg,yd q p)(h:∀r g,uX t r->Q r Êc):wpS í A E s (iZ a b) Q Êc:=by let m:0<ώ:=(Ϟc j).1;unfold iZ;show é (Τa (uD j (xf (Ζc Ĕo) λv=>xf Œl λo=>?_)));show é (μc (Q7 (λx=>Bp t a b x) že {d,YZ k o,YZ m v,Nat.one_pos} ?_ ?_ ?_));rintro x _ g C ⟨l⟩;show w07 n u i l;rintro _ ⟨_,F,B,z⟩;rw[ŋp]
#print a
def wS(t:Á Û)(a b o:Ü Û)(i j:Â):È:=ui (λp q=>yd q p) t ťi (Ĭe).reverse (Íj).reverse
section
variable{t:Á Û}{a b o:Ü Û}{i j k:Â}{p:Û}
def SD(h:a[i]?=À p):ĝb ñ=ĝb i++[p]:=by let{b,rfl}:=Ϟc h;rw[Ϛc Ŧl,ϵc]
theorem wS.swap(h:wS t a b o i j):wS t b a o j i:=ϱf h
def wS.pa(h:wS t a b o ñ j)(e:a[i]?=À p)(c:∀q∈şb j,yd q p):wS t a b ēd i j:=by unfold wS at h ⊢;rw[SD e,Ϫg]at h;rw[Òh];show ϲf (m:=[p]) h λq d r f=>åa d▸c r (ŵd f)
def wS.pb(h:wS t a b o i ϸ)(e:b[j]?=À p)(c:∀q∈ĝb i,yd q p):wS t a b ēd i j:=(Ľm).swap
def wS.ca(h:wS t a b o i j)(hk:k<=i)(c:∀p∈(Ĭe).drop k,∀q∈şb j,yd q p):wS t a b ϑg k j:=by unfold wS at h ⊢;rw[<-ĭa k Ĭe,Ϫg,ģh,œa hk]at h;rw[Ĝb,ĥl,Ųd,šd,<-List.drop_take];show h.move λp e r d=>c p (ŵd e) r (ŵd d)
def wS.cb(h:wS t a b o i j)(hk:k<=j)(c:∀p∈(Íj).drop k,∀q∈ĝb i,yd q p):wS t a b (o++(Äb k j).reverse) i k:=(ōo hk c).swap
theorem wS.fin(h:wS t a b o i j)(c:∀p∈ĝb i,∀q∈şb j,yd p q):uX t (īb 0 i++Äb 0 j++Ęi):=by
 let e:∀(x:Ü Û) k,(Çd 0 k).toList=x.toList.take k:=λx k=>by rw[Ųd,šd];rfl
 let:=ùj (ϱf h) λq d p g=>c p (ŵd g) q (ŵd d)
 unfold uX;rw[Ĝb,Ĝb,e,e,ĥl]
 let f:(ťi++(Íj).reverse++(Ĭe).reverse).reverse=ĝb i++şb j++o.toList.reverse:=by simp only[Ϫg,List.reverse_reverse,Ţ]
 rw[<-f];show{(Íh _).trans this.1,Ūg this.2}
def wS.sa(h:wS t a b o i j):(Ĭe).Pairwise yd:=List.pairwise_reverse.mp ÿk.2.1
def wS.hd(h:wS t a b o ñ j)(e:a[i]?=À p):∀q∈ĝb ñ,yd q p:=by let:=h.sa;rw[SD e]at this ⊢;intro q c;rcases Þa c with c|c;show(śb this).2.2 q c p Ł;rw[åa c];rw[ϟp]
def ir(h:i=0){P:Û->È}:∀p∈ĝb i,P p:=by subst h;intro p b;cases b
#print a
abbrev Tz:=Ê éc×Â×Â×Ü Û×Â×Â×Â
abbrev oR:=Ê éc×Â×Â×Ü Û×Â
abbrev Bl:=Ê éc×Â×Â×Ü Û×Â×Â
structure W8(t:Á Û)(a b:Ü Û)(x:Â)(o:Ü Û)(i j:Â):È where
 l:wS t a b o ñ ōd
 p:i<ò
 q:j+1<ώ
 s:x+i+j+3<ò+ώ
section
variable(t:Á Û)(a b:Ü Û)(x:Â)
inductive Bq:oR->È
 |mk {o i j m}:W8 t a b x o i j->Bq (Ä,i+1,j+2,o,m)
inductive OI:Bl->È
 |mk {o i j m n}:W8 t a b x o i j->OI (Ä,i+1,j+2,o,m,n)
inductive W9:Bl->È
 |fin {r c}:uX t r->W9 (À r,c)
 |go {o i j m n}:W8 t a b x o i j->W9 (Ä,i+1,j+2,o,m,n)
inductive Q0:Tz->È
 |mk {o i j m n q}:W8 t a b x o i j->Q0 (Ä,i+1,j+2,o,m,n,q)
inductive gs:Tz->È
 |fin {r c}:uX t r->gs (À r,c)
 |go {o i j m n q}:W8 t a b x o i j->gs (Ä,i+1,j+2,o,m,n,q)
#print a
section
variable(a b:Ü Û)
nonrec def Ym(o:Ü Û)(i j:Â):Ü Û:=īb 0 i++Äb 0 j++Ęi
nonrec def Bo(o:Ü Û)(i j:Â):Ü Û:=Äb 0 j++īb 0 i++Ęi
def Rx(o:Ü Û)(i j g k m:Â):Ŕ Ă Sem Ÿi:=do
 let p <-āa a Şe
 if(i-1==0)=Ã then pure (.done (À ĸl,i-1,j,Ź p,g,k,m))
 else if(decide (k<7)&&decide (m<7))=Ã then pure (.done (Ä,i-1,j,Ź p,g,k,m))else pure (.yield (Ä,i-1,j,Ź p,g,k,m))
def Rw(o:Ü Û)(i j g k u:Â):Ŕ Ă Sem Ÿi:=do
 let q <-āa b ϣa
 if(j-1==1)=Ã then pure (γd ôl)
 else do
  let p <-āa a Şe
  let r <-VF Ã p b 0 ϣa (j-1-1)
  Bn r (λm=>
   if j-1-m>0 then
    if(m==1)=Ã then pure (Ρd (Bo a b ŕg i m) Ϟn)
    else if(m==0)=Ã then pure (Ρd (Ym a b ŕg i m) Ϟn)
    else Rx a b ŕg i m g k (j-1-m)
   else Rx a b Èg i ϣa g k (j-1-m)) (pure (γd (Ym a b Èg i ϣa)))
def Rv(o:Ü Û)(i j n u g:Â):Ŕ Ă Sem Ÿi:=do
 Ųc λs=>ác Ōc Ŕc ÿc g ńc
 let q <-āa b ϣa
 let r <-VF Å q a 0 i Şe
 Bn r (λk=>
  if i-k>0 then
   if(k==0)=Ã then pure (.done (À (Ym a b ϑg k j),k,j,o++(īb k i).reverse,g,i-k,u))
   else Rw a b ϑg k j g (i-k) u
  else Rw a b o i j g (i-k) u) (pure (.done (À íf,i,j,o,g,n,u)))
def oW(o:Ü Û)(i j g m n:Â):Ŕ Ă Sem (Áb Bl):=do
 let q <-āa b ϣa
 let p <-āa a Şe
 let r <-lt' q p
 oU r (λt=>
  if t=Ã then do
   let p <-āa a Şe
   if(i-1==0)=Ã then pure (.done (À ĸl,i-1,j,Ź p,m+1,0))
   else if m+1≥g then pure (.done (Ä,i-1,j,Ź p,m+1,0))else pure (.yield (Ä,i-1,j,Ź p,m+1,0))
  else do
   let q <-āa b ϣa
   if(j-1==1)=Ã then pure (.done (À ôl,i,j-1,Ź q,0,n+1))
   else if n+1≥g then pure (.done (Ä,i,j-1,Ź q,0,n+1))else pure (.yield (Ä,i,j-1,Ź q,0,n+1))) (pure (.done (À íf,i,j,o,m,n)))
def x24(o:Ü Û)(i j g:Â):Ŕ Ă Sem (Áb oR):=do
 let d <-Ēb [:ò+ώ] ((Ä,i,j,o,0,0):Bl) λ_ d=>oW a b d.2.2.2.1 d.2.1 d.2.2.1 g d.2.2.2.2.1 d.2.2.2.2.2
 OG d.1 űj do
  liftM ϝk
  let e <-Ēb [:ò+ώ] ((Ä,d.2.1,d.2.2.1,d.2.2.2.1,g+1,d.2.2.2.2.1,d.2.2.2.2.2):Tz) λ_ e=>if e.2.2.2.2.1>1 then Rv a b e.2.2.2.1 e.2.1 e.2.2.1 e.2.2.2.2.2.1 e.2.2.2.2.2.2 (e.2.2.2.2.1-1)else Rv a b e.2.2.2.1 e.2.1 e.2.2.1 e.2.2.2.2.2.1 e.2.2.2.2.2.2 e.2.2.2.2.1
  OG e.1 Šj do
   Ųc λs=>ác Ōc Ŕc ÿc Ňm ńc
   pure Ÿj
#print a
section
variable{Ĝ:ë}{w:å}{A:þ}{E:Value->Ï->È}{s:Ï}
section
variable{t:Á Û}{a b:Ü Û}(ha:uC a)(hb:uC b)(hl:∀q∈ύf,∀p∈şb 1,yd p q){a0:Ü Û}{p0:Ü Ŕa}{f0:Ê Value}{x y g m k u:Â}{o:Ü Û}{i j:Â}{p:Û}
include hl in
theorem wS.lst(l:wS t a b o i j)(e:j=1):uX t (Bo a b o i j):=Üo λq c p d=>hl p (List.take_subset _ _ d) q (e▸c)
def wS.da(l:wS t a b o i j)(e:i=0):uX t íf:=Ĉg (ir e)
def wS.db(l:wS t a b o i j)(e:j=0):uX t íf:=Ĉg λp c=>ir e
def rj(l:wS t a b o ñ j)(ep:a[i]?=À p)(c:∀r∈şb j,yd r p)(f:2<=j)(d:j<=ώ)(q:x+i+j<ò+ώ)(h:y<=x):wpS í A E s (Rx a b o ñ j g k m) Įk Êc:=by
 let e:=(Ϟc ep).1
 replace l:=l.pa ep c
 show é (uD ep (Αa (Ηb (l.da ϰa))));let{i,rfl}:=Xv c;obtain⟨j,rfl⟩:∃n,j=n+2:={j-2,(Žd f).symm};show xf (λ_=>ü {g,rfl,gs.go {l,Ĭc e,d,by omega}}) λ_=>ü {g,rfl,Q0.mk {l,Ĭc e,d,by omega}}
include ha hb hl in
theorem rh(l:wS t a b o ñ ōd)(B:b[j+1]?=À q)(c:∀r∈ĝb ñ,yd r q)(I:i<ò)(J:x+i+j+1<ò+ώ)(C:y<=x):wpS í A E s (Rw a b o ñ ōd g k u) Įk Êc:=by
 let f:=(Ϟc B).1
 replace l:=l.pb B c
 show é (uD B (Αa (Ηb Ϗm)));let{j,rfl}:=Xv (a:=j) λe=>c Ŷg
 let{p,h}:=XY a i I
 replace f:=Ïa f
 show é (uD h (é (Q8 rfl (ha _ _ h) hb (show 0+(j+1+1)<=ώ from(Ñj).symm▸f) ęe (z:=şb (j+1+1)) rfl ňo λm d e1 e2=>?_)))
 replace d:m<=j+1+1:=d
 rw[ģh,œa d]at e1
 replace e1:=λp n=>ëa (e1 p n)
 show xf ũf λc=>?_;let v:=l.cb d λp n r F=>Ϡa (l.hd h r F) (e2 p n)
 show xf (Ηb (v.lst hl ϰa)) λH=>xf (Ηb Ćo) λG=>by
  let{m,rfl}:=Xv G;let{m,rfl}:=Xv (a:=m) λe=>H Ŷg
  show rj v h e1 ĺl (İ d f) É C
 cases ĵc d Ĵk;show rj l h e1 ĺl f É C
include ha hb hl in
theorem rf(l:W8 t a b x o i j)(e:y<=x){n H:Â}:wpS í A E s (Rv a b o ñ ōd n u g) (η (gs t a b y) (Q0 t a b äb)) (yU a0 p0 f0 H):=by
 let{l,m,F,I}:=l;let{q,d}:=XY b ϸ F
 replace e:=Ìf e
 show é (θ (é (uD d (é (Q8 rfl (hb _ _ d) ha (show 0+ñ<=ò from(Ñj).symm▸m) ęe (z:=a.toList.take ñ) rfl l.sa λk f h C=>?_)))));rw[ģh,œa f]at h;show xf ũf λc=>?_;let v:=l.ca f λp B r G=>Ϡa (ŕf d r G) (ëa (C p B))
 show xf (λc=>ü {_,rfl,gs.fin (v.da ϰa)}) λc=>?_
 let{k,rfl}:=Xv c;show rh ha hb hl v d h (İ f m) É e;cases ĵc f Ĵk;show rh ha hb hl l d h m É e
include ha hb hl in
theorem w04(l:W8 t a b x o i j)(C:y<=x+1){n:Â}:wpS í A E s (oW a b o ñ ōd g m n) (η (W9 t a b y) (OI t a b äb)) äf:=by
 let{l,h,f,B}:=l;let{p,v}:=XY a i h;let{q,k}:=XY b ϸ f;show é (uD k (é (uD v (é (οc (hb _ _ k) (ha _ _ v))))));by_cases c:wj q<wj p;rw[õ c];let d:=l.pa v λr z=>Ϡa (ŕf k r z) (ëa c)
 show é (uD v (Ψd ĕo));let{i,rfl}:=Xv c
 replace h:=Ĭc h
 show xf Ϻj λ_=>ü {_,rfl,OI.mk {d,h,f,by omega}};rw[ē c];let d:=l.pb k λr z=>Ϡa (l.hd v r z) Êj
 show é (uD k (Ψd ϕm));let{j,rfl}:=Xv (a:=j) λe=>c Ŷg
 replace f:=Ĭc f
 show xf Ϻj λ_=>ü {_,rfl,OI.mk {d,h,f,by omega}}
include ha hb hl in
theorem w05(l:W8 t a b x o i j):wpS í A E s (x24 a b o ñ ōd g) (η že (Bq t a b äb)) äf:=by show é (Τb (λz=>OI t a b (x+z)) (W9 t a b äb));rintro z _ g e ⟨l⟩;show w04 ha hb hl l İm;rw[ϣp];rw[úp];show é (Τa (Τb (λz=>Q0 t a b (x+1+z)) (gs t a b äb)));rintro z _ g e ⟨l⟩;let d:=ϭ äb z;show xf (λ_=>rf ha hb hl l d) λ_=>rf ha hb hl l d;rw[ϣp];rw[úp];show é (θ (ü {_,rfl,Bq.mk l}))
#print a
def w09{a b:Ü Û}{a0 p0 f0 g}{t:Á Û}{Q:Ü Û->Ă->È}(k:uC a)(u:uC b)(j:0<ώ){y:Û}(o:a[ò-1]?=À y)(d:wS t a b #[y] Êg ώ)(i:∀q∈ύf,∀p∈şb 1,yd p q)(h:∀r g,uX t r->Q r Êc):wpS í A E s (iY a b) Q Êc:=by
 unfold iY;show é (Τa (uD o (xf (Ζc ĕo) λv=>xf Œl λm=>?_)));let{n,e1}:=Xv v;obtain⟨F,e2⟩:∃n,ώ=n+2:={ώ-2,(Žd (Żl j λe=>m (ķc Łe))).symm};let C:ò=n+2:=by omega
 rw[e1,e2]at d;refine é (μc (Q7 (λx=>Bq t a b x) že (by rw[e1,e2];show{d,by omega,by omega,by omega}) ?_ ?_ ?_));rintro x _ g B ⟨l⟩;show w05 k u i l;rw[ϣp];rw[ŋp]
#print a
def gm(x:Ü Û)(l n:Â):È:=∀i j,i<=j->j<n->K x (l+i)<=K x (l+j)
def oT(x:Ü Û):È:=∀i j,i<óa->j<óa->K x i=K x j->i=j
def x1h(h:gm x l n)(c:n=0\/K x (l+n-1)<=K x (l+n)):gm x l ı:=by
 intro i j a b;by_cases e:j<n;show h i j a e;obtain rfl:j=n:=by omega
 by_cases e2:i=j;rw[e2];rw[ϟp];let:=h i ϣa É É;rw[show l+ϣa=l+j-1 by omega]at this;show ëd this (ţm É)
section
variable{Ĝ:ë}{w:å}{A:þ}{E:Value->Ï->È}{s:Ï}
def Q9{i j p f g}(c:uC x)(hi:i<óa)(d:j<óa)(h:Q (À (decide (K x i<K x j))) Ŧb):wpS í A E s (ltAt' i j) Q Ŧb:=by let b:x[i]?=À x[i]:=getElem?_pos x i hi;let a:x[j]?=À x[j]:=getElem?_pos x j d;rw[ltAt'_eq];show é (μc (uD b (é (uD a (οc (c _ _ b) (c _ _ a))))));unfold K at h;rw[b,a]at h;show h
def rY{x:Ü Û}{a lo n p f g}{F:Â->Ê œc×Â->Ŕ Ă Sem (Áb (Ê œc×Â))}{R:Ê œc×Â->Ă->È}(l:1<=a)(d:a<=n)(k:gm x lo a)(j:∀y m Q,1<=m->m<n->(K x żc<K x ģd->Q (.done (Ä,m)) Ŧb)->(¬ K x żc<K x ģd->Q (.yield (Ä,m+1)) Ŧb)->wpS í A E s (F y (Ä,m)) Q Ŧb)(h:∀m,a<=m->m<=n->gm x lo m->(m=n\/K x żc<K x ģd)->R (Ä,m) Ŧb):wpS í A E s (Ēb [a:n] (Ä,a) F) R Ŧb:=by show Ϯb (I:=λy c st=>st=yU x p f g/\c=(Ä,y)/\gm x lo y) ?_ ?_ {rfl,rfl,k};rintro y _ _ e i ⟨rfl,rfl,b⟩;show j _ _ _ É i (λc=>h y e É b (.inr c)) λc=>{rfl,rfl,x1h b (.inr Êj)};rintro _ _ ⟨rfl,rfl,b⟩;rw[éh d]at b ⊢;show h n d Đ b ł
def ic{lo m j:Â}(h:j<m):lo+żc-1-ĥj=lo+(m-1-j):=by rw[Żn,Żn,Nat.add_left_comm 1,Nat.add_sub_add_left,Nat.add_sub_assoc (by rw[êd];show h)]
theorem w02{x:Ü Û}{lo n p f g}{Q:Ê Â->Ă->È}(q:uC x)(C:oT x)(O:lo+n=óa)(J:1<=n)(h:∀m y,Ϙa x->(∀k,k<lo->y[k]?=x[k]?)->1<=m->m<=n->gm y lo m->Q ϓa ħn):wpS í A E s (œo lo n) Q Ŧb:=by
 unfold œo;refine é (rY (lo:=lo) (Òa 1) J (λi j a b=>by rw[show i=j by omega];rw[ϟp]) ?_ ?_);intro y m Q a b z v;refine é àh;by_cases c:K x żc<K x ģd;rw[Ħp];intro m a b o c;show xf (λe=>ü (h m x Åj ϊh a b o)) λe=>?_
 replace c:=ţm ųa
 replace b:m<n:=by simp at e;omega
 show xf (λe=>?_) λe=>?_;refine é àh
 let:K x lo<K x ģd:=by let u:=o 0 (m-1) É (by dsimp only at e;omega);rw[show lo+(m-1)=lo+m-1 by omega,Čn]at u;let B:=C lo ģd É É;dsimp only at e;omega
 simp only[this,ìa,ś];show ü (h m x Åj ϊh a É o);obtain rfl:m=1:=by dsimp only at e;omega
 show é (āl (Ád {rfl,?_}));show é (ςa (Ϯb (I:=λy c st=>st=yU x p f g/\c=(Ä,y,0)/\∀i j,i<=j->j<y->K x ĥj<=K x ϝa) (Q:=λc st=>st=yU x p f g/\∃m,c=(Ä,m,0)/\2<=m/\m<=n/\∀i j,i<=j->j<m->K x ĥj<=K x ϝa) ?_ ?_ {rfl,rfl,?_}));rintro y _ _ B F ⟨rfl,rfl,d⟩;refine é (Q9 q ϟg ϟg ?_);by_cases c:K x Ĥj<K x ϋi;simp only[c,ìa,ś];show ü {rfl,rfl,λi j r l=>?_};by_cases e:j<y;show d i j r e;obtain rfl:j=y:=by omega
 by_cases e2:i=j;rw[e2];rw[ϟp];let:=d i ϣa É É;rw[show lo+ϣa=lo+j-1 by omega]at this;omega;simp only[c,éd,Ğb,Ϧ];refine é àh
 let:K x ϋi<K x Ĥj:=by let P:=C ϋi Ĥj É É;omega
 simp only[this,ìa,ś];show ü {rfl,y,rfl,by omega,by omega,d};rintro _ _ ⟨rfl,rfl,d⟩;rw[éh É]at d ⊢;show{rfl,n,rfl,by omega,by omega,d};intro i j r l;by_cases e2:i=j;rw[e2];show Ċa _;rw[show i=0 by omega,show j=1 by omega];show ëa c;rintro _ _ ⟨rfl,m,rfl,B,F,d⟩;let G:∀k,K Űe k=_:=λk=>K_mirror É k
 refine é (wpS_reverse (é (rY (x:=mirror x lo żc ((lo+m-lo)/2)) (lo:=lo) ϟg F ?_ ?_ ?_)));intro i j r l;dsimp only at l;rw[G,G,Ò É,Ò É];let:=d (m-1-j) (m-1-i) (ňl r _) (íb Ĥb (Nat.sub_lt (íb ϖb l) ϙd));rw[ic (íb r l),ic l];rw[ņp];intro y t Q a b z v;let N:(Űe).Perm x:=Ūn _ _ _ _;show é (Q9 ?_ ϑk ϑk ?_);intro i p H;let{L,u}:=ŵg ((śg N).mem_iff.mp (ņg (œg H)));show q L p (by rw[<-ϫa];show u);by_cases c:K Űe (lo+t)<K Űe (lo+t-1);rw[Ħp];intro t a b o _;show ü (h t _ (Ūn _ _ _ _) (λk R=>?_) (by dsimp only at a;omega) b o);rw[getElem?_mirror_all É,Ó É]
#print a
def JY{x y:Ü Û}(h:uC x)(p:Ϙa x):uC y:=by intro i q a;let{b,c}:=ŵg ((śg p).mem_iff.mp Òn);show h b q (by rw[<-ϫa];show c)
section
variable{Ĝ:ë}{w:å}{A:þ}{E:Value->Ï->È}{s:Ï}
def y06{l r:Â}(h:l<r):l<=(l+r)/2/\(l+r)/2<r:=by omega
def w01{x:Ü Û}{lo n ok p f g}{Q:Ñ->Ă->È}(hx:uC x)(hn:lo+n<=óa)(zf:ok<=n)(d:gm x lo ok)(h:∀y,Ϙa x->(∀k,k<lo->y[k]?=x[k]?)->gm y lo n->Q Ã ħn):wpS í A E s (ůn lo n ok) Q Ŧb:=by
 unfold ůn;show é (ςa (Ϯb (I:=λk c st=>c=(Ä,())/\∃y,st=yU y p f g/\Ϙa x/\(∀k,k<lo->y[k]?=x[k]?)/\(k<=n->gm y lo k)) (Q:=λc st=>c=(Ä,())/\∃y,st=yU y p f g/\Ϙa x/\(∀k,k<lo->y[k]?=x[k]?)/\gm y lo n) ?_ ?_ {rfl,x,rfl,Îk _,λ_ _=>rfl,λ_ i j a b=>?_}));rintro k _ _ hk O ⟨rfl,y,rfl,v,G,d⟩
 replace d:=d (Ïa O)
 let hy:=JY hx v;let L:lo+k<ļd:=by let:=v.size_eq;omega
 let sj:∀j,j<=k->lo+j<ļd:=λj Z=>íb (Ĩc Z lo) L
 show é (DB (Q:=λc st=>st=yU y p f g/\∃l r,c=(Ä,l,r)/\l<=k/\(∀i,i<l->K y ϝa<=K y ŏb)/\∀i,l<=i->i<k->K y ŏb<K y ϝa) (λz c=>∃l r,c=(Ä,l,r)/\l<=r/\r<=k/\r+z<=k+l/\(∀i,i<l->K y ϝa<=K y ŏb)/\∀i,r<=i->i<k->K y ŏb<K y ϝa) {0,k,rfl,Ϥ _,Òa _,Òa _,λi J=>Þ J Ϻg,λi a b=>Þ b (ϣd a)} ?_ ?_ ?_);rintro z _ hz ⟨l,r,rfl,R,q,g3,B,C⟩;show xf Ũf λc=>?_;cases ĵc R c;show ü {rfl,l,l,rfl,q,B,C};let{U,T}:=y06 ϱe;dsimp only;generalize (l+r)/2=m at U T ⊢;let P:=Ũ T q;show é (Q9 hy L (sj m (Ïa P)) ?_);by_cases c2:K y ŏb<K y żc;simp only[c2,ìa,ś];show ü {rfl,l,_,rfl,U,Ïa P,by omega,B,λi o S=>Int.lt_of_lt_of_le c2 (d _ _ o S)};simp only[c2,éd,Ğb,Ϧ];show ü {rfl,_,r,rfl,T,q,by omega,λi o=>ëd (d i m (Éd o) P) (įc c2),C};rintro _ ⟨l,r,rfl,R,q,g3,B,C⟩;cases ĵc R É;show{rfl,l,l,rfl,q,B,C};rintro _ _ ⟨rfl,l,r,rfl,q,B,C⟩;let e:lo+k-ÿf=lo+l:=Nat.sub_sub_self (Ĩc q lo);show é (θ (ü {rfl,ćj y ŏb ÿf,rfl,(bubble_perm _ _ _).trans v,λi J=>?_,λ_=>?_}));let z:=Ũ J (ϭ lo l);rw[<-G i J,getElem?_bubble L _ Ĥb,e,Ó (ϣ z),Ó λc=>ċn z c.1];let H:∀i,K (ćj y ŏb ÿf) i=_:=K_bubble L Ĥb;generalize ćj y ŏb ÿf=b at H;rw[e]at H;let N:∀i,i<l->K b ϝa=K y ϝa:=λi a=>by rw[H,Ó λc=>ϣ a (Nat.add_left_cancel c),Ó λc=>ċn a (Nat.lt_of_add_lt_add_left c.1)]
 let X:K b (lo+l)=K y ŏb:=by rw[H,Ò rfl]
 let W:∀i,l<=i->i<k->K b (lo+ñ)=K y ϝa:=λi a c=>by rw[H,Ó É,Ò É];rfl
 intro i j o S;rcases Ìh j l with z|rfl|z;rw[N i (íb o z),N j z];show d i j o (Ũ z q);rcases Nat.lt_or_eq_of_le o with z|rfl;rw[N i z,X];show B i z;show Ċa _;obtain⟨j,rfl⟩:∃t,j=t+1:={j-1,by omega};let F:=Nat.lt_of_succ_lt_succ S;rw[W j (Éd z) F];rcases Ìh i l with u|rfl|u;rw[N i u];show d i j É F;rw[X];show ëa (C j (Éd z) F);obtain⟨i,rfl⟩:∃t,i=t+1:={i-1,by omega};let Y:=Nat.le_of_succ_le_succ o;rw[W i (Éd u) (íb Y F)];show d i j Y F;rintro _ _ ⟨rfl,y,rfl,v,G,d⟩;show{rfl,y,rfl,v,G,?_};by_cases e:n=0;intro i j a b;omega;rw[éh É]at d;show d Đ;by_cases e:ok=0;rw[show i=j by omega];show Ċa _;show d i j a É;rintro _ _ ⟨rfl,y,rfl,v,G,d⟩;show ü (h y v G d)
#print a
theorem oB{F:Ü Û->Û×Â->Ü Û}{s:Â}(b:∀a p j,F a (p,j)=úh (s+j) p){R:Á Û}:∀(l Z P:Á Û)(n:Â)(x:Ü Û),íc=P++(Z++R)->äa=s+n->Ůi=Ľb->((l.zipIdx n).foldl F x).toList=P++(l++R)
 | [],Z,P,n,x,h,_,hz=>by rw[ŧg hz]at h;show h|p::l,z::Z,P,n,x,h,hp,hz=>by
  rw[êh,þh,b]
  let:=oB b (R:=R) l Z (P++[p]) ı (x.setIfInBounds (s+n) p) (by rw[žk,h,ϣe _ _ É,hp,Ťb,Ţ];rfl) (by rw[ê,hp];rfl) (Ģc hz)
  rw[this,Ţ];rfl
def eM{x:Ü Û}{P X R:Á Û}{a b:Â}(h:íc=P++(X++R))(c:äa=a)(d:a+ϥ=b):(Çd a b).toList=X:=by rw[Ųd,šd,h,ÿh c,üh É]
theorem Lk{x:Ü Û}{P R:Á Û}{p:Û}{a:Â}(h:íc=P++p::R)(b:äa=a):x[a]?=À p:=by rw[<-ϫa,h,Ęb É,b,Ťb];rfl
def cj{x y:Ü Û}(h:uC x)(c:∀p∈Éb,p∈íc):uC y:=by intro i q a;let{b,d}:=ŵg (c q Òn);show h b q (by rw[<-ϫa];show d)
section
variable{Ĝ:ë}{w:å}{A:þ}{E:Value->Ï->È}{s:Ï}
def w0b{a st:Ă}{Q:PUnit->Ă->È}(h:Q ⟨⟩ a):wpS í A E s (set a:Ŕ Ă Sem PUnit) Q st:=by unfold wpS;rw[StateT.run_set];show ę {rfl,h}
def w08{x:Ü Û}{p:Ü Ŕa}{g i d K pw2:Â}{p1 p2:Á Ŕa}{P u v R:Á Û}{l o:Û}{Q:Ñ->Ă->È}(S:uC x)(ep:ÿe=p1++(d,(Ģd).length,K)::(d+(Ģd).length,(Ŋe).length,pw2)::p2)(hi:Ņo=i)(ex:íc=P++(Ģd++(Ŋe++R)))(I:äa=d)(O:(Ģd).Pairwise yd)(L:(Ŋe).Pairwise yd)(h:∀y q g Z,Éb=P++(Z++R)->Z.Perm (Ģd++Ŋe)->Z.Pairwise yd->ļb=p1++(d,(Ģd).length+(Ŋe).length,K)::p2->Q Ã ĸc):wpS í A E s (Žf i) Q ŷm:=by
 generalize eX:u++[l]=X at ep ex O h;generalize eY:o::v=Y at ep ex L h
 have e1:p[i]?=À (d,ϥ,K):=by rw[<-ϫa,ep,Ęb É,hi,Ťb];rfl
 have e2:p[i+1]?=À (d+ϥ,ąe,pw2):=by rw[<-ϫa,ep,Ęb É,hi,ũd];rfl
 let e3:(ĺj).toList=p1++(d,ϥ+ąe,K)::p2:=by rw[Array.toList_eraseIdxIfInBounds,žk,ep,ϣe _ _ É,hi,Ťb,List.eraseIdx_append_of_length_le É,hi,ũd];rfl
 let T:∀q∈X,yd q l:=by intro q f;rw[<-eX]at f O;rcases Þa f with z|z;show(śb O).2.2 q z l Ł;rw[åa z];rw[ϟp]
 let N:∀q∈Y,yd o q:=by intro q f;rw[<-eY]at f L;rcases Ň f with z|z;rw[z];rw[ϟp];show(ůd L).1 q z
 let mX:l∈X:=eX▸Űa _ Ł;let mY:o∈Y:=eY▸Ł;have lX:ϥ=Ši+1:=by rw[<-eX,ê];rfl
 have lY:ąe=Źf+1:=by rw[<-eY];rfl
 have szx:óa=d+(ϥ+(ąe+ñc)):=by rw[<-ſ,ex,ê,ê,ê,I]
 have ay:x[d+ϥ]?=À o:=Lk (P:=P++X) (R:=v++R) (by rw[ex,Ţ,<-eY];rfl) Ĳh;have ax:x[d+ϥ-1]?=À l:=Lk (P:=P++u) (R:=Y++R) (by rw[ex,<-eX,Ţ,Ţ];rfl) ϥl;let B:(∀p∈X,∀q∈Y,yd p q)->Q Ã ām:=λc=>h x _ g (X++Y) (by rw[ex,Ţ]) Èj (ϗe {O,L,c}) e3
 unfold Žf;show é ċe;exact wpS _ _ _ _ (match(p[i]?,p[i+1]?)with|_=>_) _ _;rw[e1,e2];refine é (w0b (é (uD ay (é (Q8 (z:=X) (x:=x) (b:=d) (n:=ϥ) rfl (S _ _ ay) S É É (by rw[ex,ÿh I,üh rfl]) O λk hk d1 d2=>?_)))));show xf (Αe (d1 p ?_) (N q f)) λc=>?_;rw[Ϯc (by simp at c;omega)];show j
 replace c:k<ϥ:=by simp at c;omega
 let ax2:x[d+k+(ϥ-k)-1]?=À l:=by rw[ϭd,Ϭc Ťc];show ax
 refine é (uD ax2 (é (Q8 (z:=Y) (x:=x) (b:=d+ϥ) (n:=ąe) rfl (S _ _ ax) S É É (by rw[ex,<-Ţ,ÿh Ĳh,üh rfl]) L λe hk2 f1 f2=>?_)));show xf (Αe (T p j) (f2 q ?_)) λc2=>?_;rw[Ěi c];show f
 replace c2:0<e:=by simp at c2;omega
 have G:(ϸe).toList=ěe k:=eM (P:=P++ώf k) (R:=Y++R) (Βe Àj) (by rw[ê,Áa,I,œa Ťc]) (by rw[Ŷa,ϭd,Ϭc Ťc]);have C:(ſe).toList=üe e:=eM (P:=P++X) (R:=ĉj e++R) (Βe Âg) Ĳh (by rw[Áa,œa hk2])
 have fin:∀r g,uX ųd r->wpS í A E s (do Ųc λs=>ác Ōc (r.toList.zipIdx.foldl (λa x=>úh Äp x.1) Ŕc) ÿc Ϗh ńc;return (failedOf (<-get)).isNone) Q ām:=by
  rintro r g ⟨r1,r2⟩;show é (θ (é (ťe (ü (h _ _ _ ņk ?_ ?_ ?_ e3)))));have:=oB (F:=λa x=>úh Äp x.1) (s:=d+k) (λ_ _ _=>rfl) (R:=ĉj e++R) r.toList ųd (P++ώf k) 0 x (by rw[ex];simp only[Ţ];rw[<-Ţ Âg,ĭa,<-Ţ Àj,ĭa]) (by rw[ê,Áa,I,œa Ťc];rfl) r1.length_eq.symm
  rw[this];simp only[Ţ];let a:(ņk).Perm (ώf k++ųd++ĉj e):=ύg _ (ϗg _ r1);rw[<-Ţ Àj Áj,ĭa,Ţ X,ĭa]at a;show a;let m:∀q∈r.toList,q∈ěe k\/q∈üe e:=λq f=>Þa (r1.mem_iff.mp f)
  let tX:=ĭa k X;let tY:=ĭa e Y;let J:=O;let H:=L;rw[<-tX]at J;rw[<-tY]at H;show ϗe {ϗe {(śb J).1,r2,λp j q f=>?_},(śb H).2.1,λp j q f=>?_};rcases m q f with z|z;show(śb J).2.2 p j q z;show Ϡa (d1 p j) (N q (Ϩc z));rcases Þa j with j|j;show Ϡa (d1 p j) (N q (Ťd f));rcases m p j with z|z;show Ϡa (T p (Ťd z)) (f2 q f);show(śb H).2.2 p z q f
 let A1:uC ϸe:=cj S λp j=>by rw[G]at j;rw[ex];show Űa _ (ϴc _ (Ťd j))
 let A2:uC ſe:=cj S λp j=>by rw[C]at j;rw[ex];show Űa _ (Űa _ (ϴc _ (Ϩc j)))
 have z1:(ϸe).size=ϥ-k:=by rw[<-ſ,G,Ŷa]
 have z2:(ſe).size=e:=by rw[<-ſ,C,Áa,œa hk2]
 let W:(Áj).Pairwise yd:=ąl (List.drop_sublist _ _) O;let U:(Âg).Pairwise yd:=ąl Õl L;have b0:ſe[0]?=À o:=Lk (P:=[]) (R:=v.take (e-1)) (by rw[C,<-eY];obtain⟨n,rfl⟩:∃n,e=n+1:={e-1,by omega};rfl) rfl;have al:ϸe[ϥ-k-1]?=À l:=Lk (P:=u.drop k) (R:=[]) (by rw[G,<-eX,List.drop_append_of_le_length É]) (by rw[Ŷa];omega);generalize Çd (d+k) (d+ϥ)=xx at *;generalize Çd (d+ϥ) (d+ϥ+e)=yy at *;refine xf (λ_=>é (w0a (t:=ěe k++üe e) A1 A2 É b0 ?_ ?_ λr g hr=>fin r g hr)) λ_=>é (w09 (t:=ěe k++üe e) A1 A2 É (y:=l) ?_ ?_ ?_ λr g hr=>fin r g hr);have a0:wH ųd xx yy #[] 0 0:={by rw[<-G,<-C];show Ŵd _,G▸W,C▸U};show a0.pb b0 λq f=>ëa ϔm;intro q f p j;rw[z1,G7 al,ϱb ϊd]at j;rw[åa j];show ëa (f1 q (C▸f));rw[z1];show al;let a0:wS ųd xx yy #[] ân yy.size:=by let t1:xx.toList.take ân=xx.toList:=Ϯc ϊd;let t2:yy.toList.take yy.size=yy.toList:=Ϯc (by rw[ſ];rw[ϡp]);unfold wS;rw[t1,t2,G,C];let pz:=List.Perm.append (Íh Áj) (Íh Âg);show{pz,Ūg W,Ūg U}
 show a0.pa (by rw[z1];show al) λq f=>ëa (f1 q (C▸Ϩc f));intro q f p j;rw[SD b0]at j;rw[åa j];show ëa ϔm
#print a
def v_:Â->Á Ŕa->Á Û->È
 |_,[],L=>L=[]|n,r::p,L=>r.1=n/\∃X M,L=X++M/\ϥ=r.2.1/\X≠[]/\Ýi yd/\v_ (n+r.2.1) p M
theorem nH:∀{p q:Á Ŕa} {n:Â} {L:Á Û},v_ n (p++q) L->∃M N,L=M++N/\v_ n p M/\v_ (n+ϑf) q N
 | [],q,n,L,h=>{[],L,rfl,rfl,h}|r::p,q,n,L,h=>by let{d,X,M,rfl,c,e,g,f}:=h;let{M,N,rfl,a,b}:=nH f;show{X++M,N,(Ţ ..).symm,{d,X,M,rfl,c,e,g,a},by rw[ê,c,<-ϭd];show b}
theorem Ng:∀{p q:Á Ŕa} {n:Â} {M N:Á Û},v_ n p M->v_ (n+ϑf) q N->v_ n (p++q) (M++N)
 | [],q,n,M,N,h,h2=>by rw[show M=[]from h]at h2 ⊢;show h2|r::p,q,n,M,N,h,h2=>by let{b,X,M,rfl,a,c,e,d}:=h;show{b,X,M++N,Ţ ..,a,c,e,Ng d (by rw[ê,a,<-ϭd]at h2;show h2)}
theorem nI:∀{p:Á Ŕa} {n:Â} {L:Á Û},v_ n p L->Āe<=ča
 | [],n,L,h=>Ϥ _|r::p,n,L,h=>by let{d,X,M,rfl,c,a,e,b}:=h;let:=nI b;let:=źg a;rw[ê,Ě];omega
theorem nJ{F:Â×Â×Â->Â×Â×Â}(a:∀r,(F r).1=r.1/\(F r).2.1=r.2.1):∀{p:Á Ŕa} {k n:Â} {L:Á Û},v_ n p L->v_ n (p.modify k F) L
 | [],0,n,L,h=>h| [],_+1,n,L,h=>h|r::p,0,n,L,h=>by let{c,X,M,rfl,b,d,f,e}:=h;show{(a r).1.trans c,X,M,rfl,b.trans (a r).2.symm,d,f,(a r).2▸e}
 |r::p,k+1,n,L,h=>by let{c,X,M,rfl,b,d,f,e}:=h;show{c,X,M,rfl,b,d,f,nJ a e}
def x11{x y:Ü Û}{L R:Á Û}{lo m:Â}(ex:íc=L++R)(o:ča=lo)(d:∀k,k<lo->y[k]?=x[k]?)(h:gm y lo m)(n:lo+m<=ļd):∃X M,Éb=L++ŏe/\ϥ=m/\Ýi yd:=by
 let e:y.toList.take lo=L:=by
  show ĭc λk=>?_
  rw[žl]
  split;rename_i l;rw[ϫa,d k l,<-ϫa,ex,éb É];rw[Ϫa É]
 let c:(ĸh).length=m:=by rw[Áa,Ŷa,ſ];omega
 show{(Ŏg).take m,(Ŏg).drop m,?_,c,List.pairwise_iff_getElem.mpr λi j b f a=>?_};rw[ĭa,<-e,ĭa];let g:∀i (b:i<(ĸh).length),K y ϝa=wj ĸh[i]:=by intro i b;let e:y[lo+i]?=À y[lo+i]:=getElem?_pos _ _ É;unfold K;rw[e,Ϸl,ϸl,ϵc];rfl
 let:=h i j (Ïa a) É;rw[g i b,g j f]at this;rw[ņp]
def z48{x y:Ü Û}(h:(Ñm).Nodup)(p:Ϙa x):oT y:=by
 let n:(Ðm).Nodup:=((śg p).map wj).nodup_iff.mpr h;intro i j a b e
 let g:∀i (a:i<ļd),Ðm[i]?=À (K y i):=by intro i a;let e:y[i]?=À y[i]:=getElem?_pos y i a;rw[ũ,ϫa];unfold K;rw[e];rfl
 show(List.getElem?_inj (by rw[æ,ſ];show a) n).mp (by rw[g i a,g j b,e])
section
variable{Ĝ:ë}{w:å}{A:þ}{E:Value->Ï->È}{s:Ï}
def sC{x:Ü Û}{p:Ü Ŕa}{g i:Â}{L R:Á Û}{Q:Ñ->Ă->È}(t:uC x)(ex:íc=L++R)(n:v_ 0 ÿe L)(hi:i+1<âg)(h:∀y q g M,Éb=M++R->M.Perm L->v_ 0 ļb M->Ąc+1=âg->Q Ã ĸc):wpS í A E s (Žf i) Q ŷm:=by
 let H:p.toList.length=âg:=ſ;obtain⟨⟨J,T,S⟩,⟨O,W,u⟩,b⟩:∃r1 r2,ÿe=Ńh i++r1::r2::ńh (i+2):={ÿe[i],ÿe[i+1],by rw[<-êb,<-êb,ĭa]};let j:(Ńh i).length=i:=by rw[Áa];omega
 let m:(ńh (i+2)).length=âg-(i+2):=by rw[Ŷa,H]
 generalize Ńh i=p1 at b j;generalize ńh (i+2)=p2 at b m;rw[b]at n;let{P,N,rfl,B,v}:=nH n;let{f,X,N,rfl,k,z,r,d,Y,N,rfl,l,C,F,c}:=v;dsimp only at f k d l c;let{X0,K,rfl}:=(List.eq_nil_or_concat X).resolve_left z;rw[List.concat_eq_append]at *;let{y0,U,rfl}:=List.exists_cons_of_ne_nil C;subst k l;rw[Ů]at f d;subst f;subst d;refine w08 t b j (P:=P) (R:=N++R) (by rw[ex];simp only[Ţ]) rfl r F λy q g Z I a G o=>h y q g (P++(Z++N)) (by rw[I];simp only[Ţ]) ?_ ?_ ?_;show ϗg _ ((ύg N a).trans ?_);rw[Ţ];rw[o];show Ng B {(Ñj).symm,Z,N,rfl,a.length_eq.trans (ê ..),?_,G,?_};intro e;rw[e]at a;let:=a.length_eq;rw[ê,Ě]at this;cases this;rw[Ů]at c ⊢;rw[ϭd]at c;show c;let:=Ÿ ød o;rw[ſ,ê,Ě,j,m]at this;omega
abbrev Rt:=Áb (Ê īa×Â)
nonrec def Rs(lo n:Â):Ŕ Ă Sem Rt:=do
 Ųc λs=>ác Ōc Ŕc ((ÿc).push (lo,n,0)) Ϗh ńc
 pure (.yield (Ä,lo+n))
nonrec def Bm{β:Type}(r:Ê Ŕa)(f:Â->Â->Â->Ŕ Ă Sem β)(g:Ŕ Ă Sem β):Ŕ Ă Sem β:=(sortPriv% PySem.Builtin.sortRuns.match_1) Ϩe r f λ_=>g
def oV(N lo n:Â)(f:Â->Â->Â):Ŕ Ă Sem Rt:=do
 let d <-get
 Bm (Īe).back? (λe g _=>do
  let r <-Ēb [:N] ((Ä,()):Ê īa×īa) λ_ _=>do
   let d <-get
   Bm (if(Īe).size>1 then Īe[(Īe).size-2]? else Ä) (λ_ _ a=>
    if a<=f e g then pure čm else do
     let b <-Žf ((Īe).size-2)
     if(!b)=Ã then pure (.done (À (),()))else pure (.yield (Ä,()))) (pure čm)
  OG r.1 (λr=>pure (.done (À r,lo))) do
   let _ <-Ųc λs=>ác Ōc Ŕc ((ÿc).modify ((ÿc).size-1) λx=>(sortPriv% PySem.Builtin.sortRuns.match_3) (λ_=>Â×Â×Â) x λst c _=>(st,c,f e g)) Ϗh ńc
   Rs lo n) (Rs lo n)
inductive Ru(X M L:Á Û):Ê īa×īa->Ă->È
 |mk {y q g N}:Éb=N++ŏe->N.Perm L->v_ 0 ļb N->Ru X M L (Ä,()) ĸc
def w0d{x y:Ü Û}{q:Ü Ŕa}{g k lo N:Â}{L X M:Á Û}{C:Â->Â->Â}{Q:Rt->Ă->È}(z:uC x)(v:Ϙa x)(t:v_ 0 ļb L)(o:ča=lo)(n:Éb=L++ŏe)(m:ϥ=k)(G:Ýi yd)(hk:1<=k)(h:∀y q g L,Éb=L++M->ča=lo+k->v_ 0 ļb L->Ϙa x->Q (.yield (Ä,lo+k)) ĸc):wpS í A E s (oV N lo k C) Q ĸc:=by
 let u:∀{f:Ü Û}{b},ũi=b++ŏe->Ĉj L->f.Perm x:=λe1 e2=>Array.Perm.trans (Ľk (by rw[e1,n];show ύg _ e2)) v
 let j:∀{f:Ü Û}{a:Ü Ŕa} {l b},ũi=b++ŏe->Ĉj L->v_ 0 ύf b->wpS í A E s (Rs lo k) Q (yU f a Ä l):=by intro f a l b e1 e2 d;refine é (θ (ü (h _ _ _ (b++X) (by rw[Ţ];show e1) (by rw[ê,ăn,o,m]) ?_ ϴo)));exact v_ 0 (a.push (lo,k,0)).toList _;rw[Òh];show Ng d {by rw[Ů,ăn,o],X,[],(ŵ _).symm,m,λe=>Ϲa hk (m▸Ÿ ød e),G,rfl}
 show é ċe;exact wpS _ _ _ _ (Bm q.back? _ _) _ _;cases q.back? with
 |Ä=>show j n Èj t|À r=>
  show é (ςa (Ϯb (I:=λ_=>Ru X M L) (Q:=Ru X M L) ?_ (λ_ _ h=>h) (.mk n Èj t)));rintro _ _ _ _ _ ⟨e1,e2,d⟩;rename_i f a l b;show é ċe;exact wpS _ _ _ _ (Bm (if ò>1 then a[ò-2]? else Ä) _ _) _ _;by_cases c:ò>1;rw[Ò c];cases a[ò-2]? with
  |Ä=>show ü şh|À r=>show xf (λ_=>ü şh) λ_=>é (sC (p:=a) (i:=ò-2) (JY z ϴo) e1 d É λJ K O M2 H F B P=>ü (.mk H (ϸi e2) B))
  rw[Ó c];show ü şh;rintro _ _ ⟨e1,e2,d⟩;show é (θ (j e1 e2 ?_));exact v_ 0 (Array.modify _ _ _).toList _;rw[Array.toList_modify];show nJ ?_ d;show λ⟨_,_,_⟩=>{rfl,rfl}
inductive Br(x:Ü Û)(z:Â):Ê īa×Â->Ă->È
 |mk {lo y q g L R}:Éb=L++R->ča=lo->v_ 0 ļb L->Ϙa x->z<=lo->Br x z (Ä,lo) ĸc
def w0c{x:Ü Û}{g:Â}{Q:īa->Ă->È}(v:uC x)(W:(Ñm).Nodup)(h:∀y q g,Ϙa x->y.toList.Pairwise yd->Q () ĸc):wpS í A E s ľo Q (yU x #[] Ä g):=by
 unfold ľo;show é ċe;show é (ςa (Ϯb (I:=λz=>Br x z) (Q:=λc st=>c.1=Ä/\∃y q g,st=yU y q Ä g/\v_ 0 ļb Éb/\Ϙa x) ?_ ?_ (.mk (L:=[]) (R:=íc) rfl rfl rfl Åj Đ)));rintro z _ _ _ hz ⟨f,t,d,a,l⟩;rw[ħp]
 show xf Ũf λc=>?_;let:R=[]:=ŧg (by dsimp only at c;omega);subst this;rw[ŵ]at f;show ü {rfl,y,q,g,rfl,f▸d,a};replace c:lo<óa:=by dsimp only at c;omega
 refine é (w02 (lo:=lo) (n:=óa-lo) (JY v a) (z48 W a) É É λm y1 F U H u N=>?_);let A1:=JY v (ϸi a);let z1:=(ϸi a).size_eq
 let S:∀{k i P},1<=k->lo+k<=óa->i.Perm y->(∀j,j<lo->i[j]?=y[j]?)->gm i lo k->wpS í A E s (oV óa lo k P) (λr st=>g6 Ŕj æl r) (yU i q Ä g):=by intro k i P O h4 C p J;let{X,M,eY,Z,sX}:=x11 (m:=k) f t p J (by rw[(Ϲi a).size_eq];show h4);show w0d v (Ϲi a) d t eY Z sX O λy q g L e1 e2 e3 Y=>.mk e1 e2 e3 Y (ŧm l O)
 show œd (Q:=λr st=>g6 Ŕj æl r) ?_ λr st h=>by cases r<;>show h
 show xf (λo=>é (Τa (w01 (lo:=lo) (n:=min (óa-lo) (minRun' óa óa 0)) (ok:=m) A1 ?_ ?_ N λi C p J=>xf (λc=>nomatch c) λ_=>S ?_ ?_ (Ϲi F) (λk T=>(p k T).trans (U k T)) J))) λo=>S H É F U N;omega;show ġh {u,Ïa o};show ġh {İ H u,İ H (Ïa o)};show İ (Ĩc (Nat.min_le_left ..) _) ĭm;rintro _ _ ⟨f,t,d,a,l⟩;rw[ħp]
 let:R=[]:=ŧg (by dsimp only at l;omega);subst this;rw[ŵ]at f;show{rfl,y,q,g,rfl,f▸d,a};rintro⟨_,lo⟩ _ ⟨rfl,y,q,g,rfl,d,a⟩;show é (ςa (Ϯb (I:=λz c st=>c=(Ä,())/\∃y q g,st=yU y q Ä g/\v_ 0 ļb Éb/\Ϙa x/\(Ąc<=1\/Ąc+z<=óa)) (Q:=λc st=>c=(Ä,())/\∃y q g,st=yU y q Ä g/\v_ 0 ļb Éb/\Ϙa x/\Ąc<=1) ?_ ?_ {rfl,y,q,g,rfl,d,a,.inr ?_}));rintro z _ _ _ hz ⟨rfl,y,q,g,rfl,d,a,B⟩;show é (ťe (Αa (λc=>ü {rfl,y,q,g,rfl,d,a,c})))
 replace c:¬ Ąc<=1:=c
 show é (sC (JY v a) (ŵ _).symm d ?_ λi p g2 M K o c3 c4=>?_);let:∀(b:È) [Şo b],(if b then Ąc-2-1 else Ąc-2)+1<Ąc:=λb _=>by rw[īp]
 show this _;rw[ŵ]at K;refine ü {rfl,i,p,g2,rfl,K▸c3,(Ľk (K▸o)).trans a,.inr É};rw[ϫp];show{rfl,y,q,g,rfl,d,a,by rw[żh]at B;dsimp only at B;omega};let:=nI d;rw[ſ,ſ,Ği]at this;rw[ņp];rw[ϫp];show ü (h y q g a ?_)
 match e:ļb,d,(ſ (xs:=q))with
 | [],d,_=>rw[show Éb=[]from d];show Ðh| [r],d,_=>let{_,X,M,e,_,_,h5,h6}:=d;rw[e,show M=[]from h6,ŵ];show h5
 |_::_::_,_,u=>simp only[Ě]at u;omega
def x1u(o:ć a=À (ćd Ġ ĳa n))(k:ňb vs ns)(I:ns.Nodup)(hz:ö<=ã)(h:∀(out:Ü Value)(b:Á Æ),ňb Ûo b->Ĉj ns->ào (·<=·)->P (.done Ŕn) { s with ì:=sortedHeap á a vs out }):Ý í A (Builtin.«list.sort» {ña,[]}) P E s:=by
 by_cases h64:ö<64;show list_sort_tree o k h64 h
 obtain⟨f,m,r,rfl⟩:∃f m r,vs=f::m::r:=by
  match vs,h64 with
  | [],h=>show Þ Í h| [_],h=>show Þ (show 1<64 by decide) h|f::m::r,_=>show{f,m,r,rfl}
 generalize e:f::m::r=vs at *;let l:¬ vs.toArray.size<2:=by rw[ģ];omega
 let u:a<ß:=ħ o;obtain⟨c,v⟩:∃c,(œj).get? a=À ĩm:={_,get?_update_seq o ôo}
 let B:((ūk).push Ćh).get? a=À ĩm:=by rw[Ϲl _ _ _ (by rw[Øo,õm];show ϣ (Èd u)),Ϲl _ _ _ (by rw[õm];show ϣ u)];show v
 rw[list_sort_plain];refine Ö (listItems_at o rfl (Ö (ϰm o rfl (hsz:=by rw[ģ];show hz) ?_)));show Ö (Ũn v rfl (Ö (ŝm ?_ (by show hz))));show Ö (Ϩg (ϭa ?_));exact Ý í A _ P E { s with ì:=(ūk).push Ćh };rw[Ó l,Ó l,<-e,keyKind_ints (e▸k),e];show Ö (Μa (ăa (w0c (x:=pairsOf vs) (g:=7) (Q:=λ_ st=>(ėo).Perm ώh/\failedOf st=Ä/\SortedTo ėo (ώh).size) ?_ ?_ ?_) ?_ λ_ _ e=>e));intro i p d;show k.intKeys p (ņg (œg d));have:(ώh).toList.map wj=ns:=by rw[pairsOf_toList,show wj=numOf∘Prod.fst from rfl,<-Ĝa,ëh Đ,k.nums]
 rw[this];show I;intro y q g d t;show{d,rfl,λi j O N=>?_};let z:=d.size_eq;let C:y[i]?=À y[i]:=getElem?_pos y i É;let F:y[j]?=À y[j]:=getElem?_pos y j É;unfold K;rw[C,F];by_cases c:i=j;subst c;rw[ϟp];let:=Řk t i j ϊd ϊd É;rw[ϵc,ϵc]at this;rw[ņp];rintro⟨⟨⟩,st⟩ _ ⟨rfl,d,J,t⟩;dsimp only;show Ö (Ũn B rfl (Ö (ϰm B rfl ?_ (hsz2:=by refine İ (Ĭb ((Array.size_map ..).trans (d.size_eq.trans (pairsOf_size _)))) (Ìf hz)))));rw[J];simp only[bne_self_eq_false,Ğb,Ϧ];let{b,G,H,L}:=sorted_out k d t;show ę (h _ b G H L)
def x1v(r:Ĺb=Ä)(lo:éa=Å)(o:łh ŝa a kvs ep)(hk:Īd (·.1)=Œa Ϩ)(hz:ϰ<=ã)(h:∀h' tk p out c ns',ß<=p->ġ p=À (ćd Ġ out c)->ňb Ûo ns'->ns'.Perm ns->ns'.Pairwise (·<=·)->(∀b ob,ć b=À ob->ġ b=À ob)->Q ϛ { s with ì:=h',Ę:=tk }) :Ý í A (ŉa ñf ña) Q E s:=by
 let j:ń=ϰ:=by
  let:=Ÿ ød hk
  rwa [æ,æ]at this
 let v:ns.Nodup:=by let:=o.nodup;rw[hk]at this;show(List.pairwise_map.mp this).imp λh z=>h (Ÿ _ z)
 show Calls.call_function_entry kind_sorted plain_sorted entry_sorted (args_sorted1 _) ?_;unfold Builtin.«sorted»;refine Ö (m:=checkCount ĵb 1 1 _) (Μa (z37 (by show r) lo o (j▸hz) λl tk d g B i n=>Ö (Ϩg ?_ Ĵl)));let u:=z7v d kvs ns g hk B;let k:(l.push ċl).get? Ŭn=À ċl:=ž _ rfl;refine Ö (ϭa (Ϣc slot_list_sort {_,k,rfl} entry_list_sort (x1u k u v Ĵl λout ns' x y t=>{_,rfl,?_}) (args_list_sort _)));let{c,q}:=sortedHeap_at (vs:=d) (out:=out) k;show ę {_,rfl,h _ tk Ŭn out c ns' (Ïa i) q x y t λb ob e=>?_};let f:=ħ ďo;rw[sortedHeap_old (vJ (ϣ f)) (by rw[Øo];show Èd f)];show Į _ ďo
#print a
section
variable{X:Cx}
def y8u:Á V->Hp->VK->È:=λb H Q=>∃(a:Ì) (kvs:Á ϖ) (ns:Á Æ),b=ña/\Rd H a Ō/\Īd (·.1)=Œa Ϩ/\ϰ<=ã/\∀l,H l=Ä->Q øc Ģn
def z2z(b:Ϗ=Ã):vn X ñf y8u:=by
 intro R s σ H S T Q I r h;let{a,B,d,rfl,k,O,j,q}:=h;let{u,rfl,N}:=qK r;cases(show u=ċ a from N);let{_,K,J,e,o,F,C,E,v,m,n,G,z}:=ZP Ė k;let P:łh ŧb a J C:={o,F,E,v,m,n,G,z};show x1v (Ģa b) K P ((KA e).trans O) j λh' x p f c g i l A L y t=>?_
 obtain rfl:g=ϛb d:=Rq (L.trans (àc d).symm) y (Hy d);show{.ref p,_,Øb (t':=x) (h':=h') t i (show xV ø X.w _ _ _ (Β ((ϛb d).map όc))from{?_,ũi,c,fY A,?_}),rfl,q _ (Ģb i)};rw[æ,(àc d).length_eq];show j;rw[Ħl];show l
#print a
#print L2
namespace L3
open ķ ņ ĺ L2
def GN:Á D->Ê D
 | [.dic ks _]=>(TR ks).bind λa=>À ŗl|_=>Ä
def x1f(c:Ϗ=Ã)(x:Gl X ĵb)(C:ó ĵb=Ä)(A:SA X [e] fs)(w:Î Óa q12) :SF X Ŕl (eL GN fs):=by
 let{t,r,k}:=A.h;refine{{_,(BO (p:=p) (pos:=pos) (z2z c) x C dM {r} Í Í (by rw[Ū,w];rfl)).h,λ{N L G H τ σ d Q} E b q=>?_}};let{I,n,b}:=zH b;show k E n λP O K g z=>?_
 rcases I with _|⟨x_,r_⟩;cases b
 cases x_<;>first|(cases b;done)|skip
 cases r_<;>first|(cases b;done)|skip
 rename_i o J;let{i,j,b}:=zH b;cases b;let{v,rfl,a,s,rfl,u,B,y,l}:=gi z
 let m:όa<=ã:=by let:=Ϭh y;rw[K6 j,æ]at B;omega
 show{a,o.zip s,i,rfl,úc g.gh u,?_,m,λF f=>?_};rw[<-K6 j];show ëh É;show q F _ _ (Ūc (Ϟa g.gh f)) (g.h.free f) (Œo f) {_,yX,ße,?_};rw[æ,(àc i).length_eq];show m
def Gn(K:Ð)(x:Ç):È:=ų K Ĕ x=À Ä
def Gs(K:Ð)(x:Ç)(v:Value):È:=ų K Ĕ x=À ź
def Tq(K:Ð)(d:Ê Ì)(a:Ì)(vs:Á Value):È:=∃n sl,ϓ a=À {.type ŷ,d,.seq ĳa n,sl}
def Tp(K:Ð)(a:Ì)(vs:Á Value):È:=∃d,Tq K d a vs
def Dc(K:Ð)(w:å)(a:Ì)(l:Á Ðf):È:=(∃n,ϓ a=À { cls:=.type ϕ,Ċ:=.dict (Ţj).toArray n })/\éa=Å
nonrec def vD:Á Value->Ê Ųm
 | []=>À ([],[])|.int i _::r=>(ög).bind λp=>À (.int i::p.1,.int i::p.2)|.str s _::r=>match ģa śc 1000 with
  |Ã=>(ög).bind λp=>À (.str s::p.1,.str s::p.2)|Å=>Ä
 |_=>Ä
def vT(vs:Á Value):Ê Ųm:=match ģa ö 1000 with
 |Ã=>vD vs|Å=>Ä
nonrec def vU:Á Value->Ê (Á V)
 | []=>À []|.ref a::r=>(vU r).bind λp=>À (.ref a::p)|_=>Ä
section
variable{K:Ð}{w:å}{h:Heap}{mg:Ç->Ê Value}{a:Ì}{x:Ç}{v:Value}{d:Ê Ì}{n:Â}{i:Æ}{t:Tok}{s:Ç}{sl:Ü śa}{xs:Á Ç}{vs:Á Value}{us:Á V}{ds:Á D}{l:Á Ðf}
def gn_mk(h:ų K Ĕ x=À Ä):Gn K x:=h
def gs_mk(h:ų K Ĕ x=À ź):Gs K x v:=h
def tq_mk(h:ϓ a=À {.type ŷ,d,.seq ĳa n,sl}):Tq K d a vs:={_,_,h}
def tp_mk(h:ϓ a=À {.type ŷ,d,.seq ĳa n,sl}):Tp K a vs:={_,_,_,h}
def dc_mk(h:ϓ a=À { cls:=.type ϕ,Ċ:=.dict (Ţj).toArray n })(q:éa=Å):Dc K w a l:={{n,h},q}
def pC(X:ř h)(G:Īa Ĕ mg)(g:Gn K x):mg x=Ä:=W.mg_none_of X G g
def ZT(X:ř h)(G:Īa Ĕ mg)(g:Gs K x Ş):vC mg x Ş:={_,ýc X G g,rfl}
def Xi(X:ř h)(G:Īa Ĕ mg)(g:Gs K x Ŋf):vC mg x òa:={_,ýc X G g,{_,rfl}}
theorem Vp:∀{vs:Á Value}{us:Á V}{ds:Á D},vD vs=À (us,ds)->zo us vs/\∀H,â K H ds us
 | [],_,_,e=>by cases e;show{.nil,λ_=>rfl}|.int i t::r,_,_,e=>by let{p,e1,e}:=zH (show(ög).bind _=_ from e);cases e;let{b,c}:=Vp e1;show{.cons {_,rfl} b,λH=>{_,_,rfl,rfl,c H}}
 |.str s t::r,_,_,e=>by
  cases z:ģa śc 1000 with
  |Å=>rw[show vD ùn=match ģa śc 1000 with|Ã=>_|Å=>Ä from rfl,z]at e;cases e
  |Ã=>rw[show vD ùn=match ģa śc 1000 with|Ã=>_|Å=>Ä from rfl,z]at e;let{p,e1,e}:=zH (show(ög).bind _=_ from e);cases e;let{b,c}:=Vp e1;show{.cons {_,rfl} b,λH=>{_,_,rfl,{rfl,Ņa (Ŗd z)},c H}}
theorem rR:∀{vs:Á Value}{us:Á V},vU vs=À us->zo us vs
 | [],_,e=>by cases e;show .nil|.ref a::r,_,e=>by let{p,e1,e}:=zH (show(vU r).bind _=_ from e);cases e;show .cons rfl (rR e1)
def D3(g:Tq K d a vs)(e:vT vs=À (us,ds))(H:Hp):za K H Ůf Ş:=by
 let{n,sl,g}:=g;cases z:ģa ö 1000 with
 |Å=>rw[show vT vs=match ģa ö 1000 with|Ã=>_|Å=>Ä from rfl,z]at e;cases e
 |Ã=>rw[show vT vs=match ģa ö 1000 with|Ã=>_|Å=>Ä from rfl,z]at e;let{b,c}:=Vp (K:=K) e;let q:=Ņa (Ŗd z);show{a,us,rfl,z3b g q b H,c H,by rw[<-(c H).length,ϋ];show q}
def ve(g:Tp K a vs)(e:vT vs=À (us,ds))(H:Hp):za K H Ůf Ş:=let ⟨_,g⟩:=g;D3 g e H
def SL(g:Tq K Ä a vs):CB K a:=let ⟨_,_,g⟩:=g;{_,g,rfl,rfl}
theorem Jl:∀l:Á Ðf,k6 w (ż λp=>({ťm w.params p.1,.str p.1 p.2.1,p.2.2}:ĸb)) (ż (·.1)) (ż (·.2.2))
 | []=>.nil|_::l=>.cons Āg
def dg(g:Dc K w a l)(e:vU (ż (·.2.2))=À us)(c:Śc)(ex:ż (·.1)=xs)(b:∀H,â K H ds us):tz K w a Ŀc ds:=by rw[ďp];show f8 g Āg c q (rR e) b
def ME(g:Dc K w a l)(e:vD (ż (·.2.2))=À (us,ds))(b:Śc)(ex:ż (·.1)=xs):tz K w a Ŀc ds:=by rw[ďp];show f8 g Āg b q òn.1 (Vp e).2
def Eu(g:Dc K w a l)(e:vD (ż (·.2.2))=À (us,ds))(b:Śc)(ex:ż (·.1)=xs):jX K w a Ŀc us:=by rw[ďp];show z4t g Āg b q òn.1
def Ev(_:Dc K w a l)(e:vD (ż (·.2.2))=À (us,ds)):∀H,â K H ds us:=(Vp e).2
#print a
abbrev HD(x:Ç)(ps:Á Ç)(k:Â)(F:Á D->Ê ç)(P:ë)(w:å)(K:Ð)(mg:Ç->Ê Value)(Ë:Heap):È:=vI P w K mg Ë x ps k Če
section
variable{X:Cx}{e:Õ}
def N4(a:PE X e s)(b:PE X e t):PE X e (λσ H Q=>s σ H Q\/t σ H Q):=λc z σ H Q I h=>by rcases h with h|h;show a c z σ H Q I h;show b c z σ H Q I h
nonrec def uR(f g:FE):FE:=λτ=>match f τ with
 |À d=>À d|Ä=>g τ
def Vj(a:SE X e f)(b:SE X e g):SE X e (uR f g):=by
 rw[ĉp];cases z:f τ with
 |À x=>rw[z]at h;cases h;show .inl Àp|Ä=>rw[z]at h;show .inr ϻo
def oH(a:SF X e f)(b:SF X e g):SF X e (uR f g):=by
 rw[ĉp];cases z:f τ with
 |À x=>rw[z]at h;cases h;show .inl Àp|Ä=>rw[z]at h;show .inr ϻo
nonrec def YE(f g:xK):xK:=λβ=>match f β with
 |À d=>À d|Ä=>g β
def Kb(a:MC X e f)(b:MC X e g):MC X e (YE f g):=by
 let{s,j,c}:=a.h;let{t,i,d}:=b.h;show{{_,N4 j i,λ{P k l G H β β' σ m Q} E h q=>?_}};unfold YE at h;cases z:f β with
 |À x=>rw[z]at h;cases h;show .inl (c E z q)|Ä=>rw[z]at h;show .inr (d E h q)
#print a
def Wv(K:Ð)(m q:Ç)(st:Ú)(ps:Á Ç)(f:Ì):È:=Ŷc K Ĵ=Ã/\Õa K Ĵ=Ã/\∃fd,vH K m q st f fd/\qS K fd ps []
def JM(K:Ð)(m:Ç)(f:Ì)(c:Ç):È:=∃C,ų K Ĕ c=À ãa/\qT K C/\Ča K ļ m=À Ťa
def kC(K:Ð)(c d m q:Ç)(st:Ú)(ps:Á Ç):È:=∃f,JM K m f c/\JM K m f d/\Wv K m q st ps f
def LU(K:Ð)(c q:Ç)(st:Ú)(ps:Á Ç):È:=∃C f,ų K Ĕ c=À ãa/\ĉd K C=Ã/\Ča K ļ ýa=À Ťa/\Õa K ļ=Ã/\Wv K ýa q st ps f
def LK(K:Ð)(c m q:Ç)(st:Ú)(ps:Á Ç):È:=∃C f,ų K Ĕ c=À ãa/\ϧh K ļ Àh=À Ĺg/\Ģi K C ïf=Ã/\ģi K ļ ïf m=À úi/\Wv K m q st ps f
def jW(K:Ð)(x:Ç)(st:Ú)(f:Ì):È:=ų K Ĕ x=À Ťa/\zR K x st
section
variable{K:Ð}{w:å}{mg:Ç->Ê Value}{h:Heap}{c d m q x:Ç}{st:Ú}{ps xs ns:Á Ç}{f a:Ì}{C D:Ì}{sp:Sp}{k:Â}{l:Á Ðf}{fs:Á Ì}
def cls_mk(d:Ïe K C ŗo=Ã)(a:ĕf K C=Ã)(c:Ϩh K C=Ã)(b:Ča K ļ ŀh=À Ŀg):qT K C:={d,a,c,b}
def mdp_mk{n:Value}{j d:Ê Ì}{o:Ü śa}{c kV h g a ct:Value}(i:Ŷc K Ĵ=Ã)(l:ϓ f=À {n,j,.func ík,o})(e:Ĉb K a q=Ã)(k:Õa K Ĵ=Ã)(b:qS K ík ps []):Wv K m q st ps f:={i,k,_,eh l e k,b}
def mtc_mk(n:ų K Ĕ c=À ãa)(a:qT K C)(g:Ča K ļ m=À Ťa):JM K m f c:={C,n,a,g}
def mtp_mk(a:JM K m f c)(b:JM K m f d)(e:Wv K m q st ps f):kC K c d m q st ps:={f,a,b,e}
def mkp_mk(n:ų K Ĕ c=À ãa)(b:ĉd K C=Ã)(g:Ča K ļ ýa=À Ťa)(a:Õa K ļ=Ã)(e:Wv K ýa q st ps f):LU K c q st ps:={C,f,n,b,g,a,e}
def cmp_mk(n:ų K Ĕ c=À ãa)(a:ϧh K ļ Àh=À Ĺg)(b:Ģi K C ïf=Ã)(g:ģi K ļ ïf m=À úi)(e:Wv K m q st ps f):LK K c m q st ps:={C,f,n,a,b,g,e}
def fnq_mk{d h:Ê Ì}{g:Ü śa}{e kV j i b ct:Value}(a:ų K Ĕ x=À Ťa)(l:ϓ f=MP x st e d g kV j i h b ct)(c:Ĉb K b x=Ã)(k:Õa K Ĵ=Ã):jW K x st f:={a,fnp_mk a l c k}
def kC.hh(a:kC K c d m q st ps)(P:ë)(w:å)(mg:Ç->Ê Value)(e:Heap)(ok:∀{f fd},vH K m q st f fd->xN P w K mg e xJ k f fd ps sp):uO P w K mg e c m ps k sp/\uO P w K mg e d m ps k sp:=by let{f,{C,n,p,h},{D,o,j,l},i,g,fd,F,b}:=a;show{{C,f,fd,n,p,{h,i,g},b,ok F},{D,f,fd,o,j,{l,i,g},b,ok F}}
def LU.hh(a:LU K c q st ps)(X:ř h)(G:Īa Ĕ mg)(P:ë)(w:å)(d:Heap)(ok:∀{f fd},vH K ýa q st f fd->xN P w K mg d xJ k f fd ps sp):Fw P w K mg d c ps k sp:=by let{C,f,n,j,g,e,i,l,fd,F,b}:=a;rw[όp]
def LK.hh(a:LK K c m q st ps)(X:ř h)(G:Īa Ĕ mg)(P:ë)(w:å)(d:Heap)(ok:∀{f fd},vH K m q st f fd->xN P w K mg d xJ k f fd ps sp):LO P w K mg d c m ps k sp:=by let{C,f,n,l,j,g,i,e,fd,F,b}:=a;show{{C,f,fd,_,ýc X G n,l,j,g,e,b,ok F}}
def jW.n(a:jW K x st f)(X:ř h)(G:Īa Ĕ mg):mg x=À Ĵ:=ýc X G a.1
def z3m(g:Dc K w a l)(e:ż (·.2.2)=ţc ċ)(b:Śc)(ex:ż (·.1)=xs)(m:Ww mg ns fs):XQ K w mg a Ŀc ns:=by rw[ďp];show z54 g (e▸Jl l) b q m
#print a
nonrec def Tx(b:Ñ)(vs:Á V):HO:=match b with
 |Ã=>.lst vs|Å=>.tup vs
def x20{K:Ð}{G:Hp}{b:Ñ}{p:Ì}{vs:Á V}:SqB K (zT G p (Tx b vs)) b p vs:=match b with
 |Ã=>yX|Å=>őb yX
section
variable{K:Ð}{n:Â}{P:Á V}{G0 H0 G H:Hp}{β:zl}{σ:St}
def yo.sq(l:Ñ)(h:yo K n P G0 H0 G H β σ ms vs)(I:H p=Ä)(hl:ů<=ã) :zn K ı P G0 H0 Ϙl ćh (β++[À (.tp l ms)]) ķm:=by
 let{L,H1,E,Q,a,b}:=h;let{R,F}:=Ϸ;let J:G p=Ä:=Án I;let t:∀q,q≠p->ćh q=H q:=λq z=>z_ z
 let S:∀q,q≠p->Ϙl q=G q:=λq z=>z_ z
 let A:∀q,L q->Bx H q:=Ôc (λm _ v L1 W=>W.cells m v L1) Q
 let k:∀q,Bx H q->q≠p:=λq z w=>by subst w;show z.some I
 let C:∀i q,R i q->¬ L q:=λi q z w=>by let e:=ıb.2.1;rw[Õg.2.2]at e;show ıb.2.2.some e
 let Lp:¬ L p:=λz=>k p (A p z) rfl
 let N:H0 p=Ä:=by
  cases e:H0 p with
  |Ä=>rfl|À o=>have:=čb p o ((b p Lp).trans e);rw[I]at this;cases this
 let r:∀q,Bx H q->Bx ćh q:=λq z=>by let{u,O,U}:=z;show{u,(t q (k q {u,O,U})).trans O,U}
 show{{Ŋh Żi,λq o z=>?_,O4 Äa,λq z=>?_},by rw[żp],by rw[Ùq],by rw[Ϥp],λi w h=>?_,λj=>if j<n then R j else if j=n then L else λ_=>î,λi B h=>?_,λi j q T f d=>?_,λi q z=>?_};let c:¬ L q:=λw=>by rw[Õg.2.1]at z;cases z
 rw[t q λw=>by subst w;rw[N]at z;cases z];show čb _ _ ((îj).trans z);rcases D7 z with e|e;show .inr (e▸N);rcases Ŵb q e with w|w;rw[Õq];rw[Ņp];show .inr ïj.2.1;rw[b q c]at w;show .inr w;let Y:i<σ.length:=by rw[ćp]
 rw[vL Y];show õa i w h;rcases W4 h with⟨c,e⟩|⟨c,e⟩;rw[Ģ]at c;let{w,ew,Z}:=Ϟ i B e;refine{w,by rw[vL Ϸb];show ew,?_};rw[ϖp];show Z.loc Żi B w _ λq z=>t q (k q ıb.2.2);rw[öp];show{p,vs,rfl,x20,ųb (λB _ v' X s o=>ϋc Żi B v' X λq z=>t q (k q (A q ċd))) Q,hl};rw[ěp];show Ŭ i j q T f d;rw[ĝp];show C i q f d;show d;rw[ěp];show C j q d f;rw[ĝp];show T É;show d;show f;rw[Ĭp];let{x,y,w}:=Ϲ i q z;show{(S q (k q w)).trans x,by rw[b q (C i q z)]at y;show y,r q w};rw[Ĭp];show{(S q (k q (A q z))).trans ķd.1,ķd.2.1,r q (A q z)};show Ĭ
#print a
structure ML(X:Cx)(es:Á Õ)(fs:zl->Ê Ŝa):È where
 h:∃t,PA X es t/\∀{P:Á V}{G0 H0 G H:Hp}{β β':zl}{σ:St}{ms:Á M}{Q:Á V->Hp->È},zn X.K ù P G0 H0 G H β σ->fs β=À (ms,β')->(∀vs G' H',zm G G'->yo X.K ù P G0 H0 G' H' β' σ ms vs->ö=ů->Q vs H')->t σ H Q
nonrec def XZ(b:Ñ)(fs:zl->Ê Ŝa):xK:=λβ=>(èj).bind λr=>match ģa r.1.length 1000 with
 |Ã=>À (.tp b r.1,r.2)|Å=>Ä
section
variable{X:Cx}{e v:Õ}{es:Á Õ}{x y:Ç}{pos:Pos}{f:xK}{fs:zl->Ê Ŝa}
def Ke:ML X [] vj:={{_,jw,λ{P b c G H β β' σ d Q} E a q=>by cases a;show q [] _ _ ϕb ïi rfl}}
def VU(hv:MC X e f)(w:ML X es fs)(h:Î Óa q12):ML X đ ļi:=by
 let{F,s,y}:=Ŗb;let{z,v,x}:=w.h;show{{_,tR s v h,λ{P I B G H β β' σ O Q} E c q=>?_}};obtain⟨⟨m,β1⟩,p,c⟩:=zH c;obtain⟨⟨n,β2⟩,k,c⟩:=zH c;cases c;show y E p λu N A r j=>?_
 let{L,C,d,o,a,b}:=j.hold ŏ;show x d k λt J K i h l=>?_
 show q (u::t) _ _ (r.trans i) (Şc o a b d.ext.g i h) Ϥl
def y02(h:ML X es fs):MC X ãh (XZ Å fs):=by
 let{t,i,g}:=h.h;show{{_,lW i,λ{P n v G H β β' σ m Q} E a q=>?_}};obtain⟨⟨s,β1⟩,j,a⟩:=zH a
 rw[Ϙp];cases a;refine g E j λu o r e d l=>{by rw[l];show Ņa ŕi,λp b=>?_}
 show q _ _ _ Ĭm (d.sq Å b Źo);rw[Ϲp]
def iT(h:ML X es fs):MC X ķh (XZ Ã fs):=by
 let{t,i,g}:=h.h;show{{_,lU i,λ{P k u G H β β' σ m Q} E a q=>?_}};obtain⟨⟨r,β1⟩,j,a⟩:=zH a
 rw[Ϙp];cases a;refine g E j λs n o e d l=>{by rw[l];show Ņa ŕi,λp b=>?_}
 show q _ _ _ Ĭm (d.sq Ã b Źo);rw[Ϲp]
#print a
section
variable{K:Ð}{n:Â}{P:Á V}{G0 H0 G H G' H':Hp}{β:zl}{σ:St}{ms ms':Á M}{vs:Á V}
def yo.call{F:FM}{s:M}{Q:VK}{E0:XK}(h:yo K n P G0 H0 G H β σ ms vs)(I:F ms=À (ms',s))(q:∀v G' H',zm G G'->yo K n P G0 H0 G' H' β σ (s::ms') ĳe->Q v H'):xH K F vs H Q E0:=by
 classical
 let{L,S,E,o,a,b}:=h;let{B,l}:=Ϸ;show{G,ms,L,ms',s,Äa,o,λq z=>ķd.1,I,λv G' H' f x J r=>q v G' H' x.g ?_}
 let A:∀q,cut H L q=Ä->H0 q=Ä:=λq z=>by rw[Ņp];show ïj.2.1;rw[<-b q c];show ϵd ((jf c).symm.trans z)
 let p:∀i q,B i q->¬ L q/\cut H L q=H q/\∃u,H q=À u/\H' q=À u/\Ej u=Ã:=λi q z=>by
  let{_,w,u,d,t}:=l.ok i q z;let c:¬ L q:=λc=>by rw[ïj.2.2,d]at w;cases w
  show{c,jf c,u,d,x.h _ _ ((jf c).trans d),t}
 let e1:∀q,f q->Ũk=H' q:=λq z=>Ò z
 let e2:∀q,¬ f q->Ũk=H0 q:=λq z=>Ó z
 show{f,λq=>if f q then H' q else H0 q,{{Ŋh x.g,λq o z=>?_,öa,λq z=>?_},ĸ,Ģ,ŏ,õa,B,λi m R=>?_,l.dj,λi q z=>?_},J,λq z=>{(r q z).1,A q (r q z).2,e1 q z},e2};by_cases c:f q;rw[Ϫp];let k:¬ L q:=λw=>by rw[Õg.2.1]at z;cases z
 show x.h _ _ ((jf k).trans (čb _ _ ((b q k).trans z)));let c:¬ f q:=λw=>z (r q w).1
 rw[e2 q c];rcases Œb q z with w|w;rcases Ŵb q w with w|w;rw[Õq];by_cases k:L q;show .inr (a q k).2.1;show .inr ((b q k).symm.trans w);show .inr (A q w);let{C,O,N}:=l.at_ i m R;show{C,O,N.loc x.g m C _ λq z=>?_};let{_,_,u,d,j,_}:=p i q z;rw[d,j];let{c,y,u,d,j,t}:=p i q z;show{?_,?_,u,j,t};cases e:G' q with
 |Ä=>rfl|À o=>rcases Œb q Ϝc with w|w;show Þ ĺn.1 w;rw[y,d]at w;cases w
 rw[e2 q λw=>by let:=(r q w).2;rw[y,d]at this;cases this]
 show(îj).symm.trans ĺn.2.1
def yo.give{r m:M}{u v:V}{i:Â}(h:yo K n P G0 H0 G H β σ ñi ði)(U:σ[i]?=À ź)(hb:β[i]?=À Ä):yo K n P G0 H0 G H ĭh σ ßj Íg:=by
 classical
 let{L,s,E,{u',_,I,L2,e,T,{v',_,d,R,X,Q,Z,W,l},J,C},a,b}:=h;cases e;cases X;let{N,t}:=Ϸ;let B:∀q,d q->L q:=λq z=>(C q).mpr (.inr ((Ōd).mpr řa))
 let O:∀q,d q->Bx H q:=Q.cells m v d;let e1:∀q,d q->Ϗk=Ä:=λq z=>Ò z
 let e2:∀q,¬ d q->Ϗk=s q:=λq z=>Ó z
 let F:∀j q,N j q->¬ d q:=λj q z w=>by let:=(t.ok j q z).2.1;rw[(a q Øg).2.2]at this;show(O q w).some this
 show{λq=>I q\/R q,λq=>if d q then Ä else s q,{{Įd,λq o z=>?_,Äa,λq z=>?_},ĸ,by rw[ŉp],ŏ,õa,λj=>if j=i then d else N j,λj Y hm=>?_,λj k q A p f=>?_,λj q z=>?_},{u,vs,I,R,rfl,T,Z,λq z w=>J q z (Βa Ōd),λq=>Ēa},λq z=>?_,λq z=>?_};rw[Ĳp];rcases Ŵb q z with w|w;rw[Ŏp];rcases vv hm with⟨rfl,w⟩|⟨A,w⟩;rw[ϲp];show{v,U,Q};simp only[Ó A];show t.at_ j Y w;split at p;rw[ϔp];show A É;show F k q f p;rw[ϔp];show F j q p f;show t.dj j k q A p f;rw[Ĭp];show{(a q (B q z)).1,e1 q z,O q z};let{x,y,w}:=t.ok j q z;show{x,(e2 q (F j q z)).trans y,w};let S:L q:=(C q).mpr (οd Ōd);let c:¬ d q:=λw=>Ĭ (λy=>J q y ((Ōd).mpr Ţc)) λy=>W q w y
 let{x,y,w}:=a q S;rw[Ϛp];show(ēe).trans (a q ój).2.1.symm;show(Ēe).trans ín;rcases(C q).mp w with w|w;show z Ţc;rcases(l q).mp w with w|w;show c w;show z źd
def yo.drop{r m:M}{u v:V}(h:yo K n P G0 H0 G H β σ ñi ði):yo K n P G0 H0 G H β σ ßj Íg:=by
 classical
 let{L,i,E,{S,_,s,T,e,I,{U,_,d,B,O,J,R,N,f},t,l},a,b}:=h;cases e;cases O;let{A,k}:=Ϸ;let p:∀q,d q->L q:=λq z=>(Ōd).mpr (.inr ((f q).mpr řa))
 let F:∀q,d q->Bx H q:=J.cells m v d;let e1:∀q,d q->ϐk=Ä:=λq z=>Ò z
 let e2:∀q,¬ d q->ϐk=i q:=λq z=>Ó z
 let Q:∀j q,A j q->¬ d q:=λj q z w=>by let:=(k.ok j q z).2.1;rw[(a q (p q w)).2.2]at this;show(F q w).some this
 show{λq=>s q\/B q,λq=>if d q then Ä else i q,{{Įd,λq o z=>?_,Äa,λq z=>?_},ĸ,Ģ,ŏ,õa,A,k.at_,k.dj,λj q z=>?_},{u,vs,s,B,rfl,I,R,λq z w=>t q z (Βa (f q)),λq=>Ēa},λq z=>?_,λq z=>?_};rw[Ĳp];rcases Ŵb q z with w|w;rw[Ŏp];let{x,y,w}:=k.ok j q z;show{x,(e2 q (Q j q z)).trans y,w};let C:L q:=(Ōd).mpr (οd (f q));let c:¬ d q:=λw=>Ĭ (λy=>t q y ((f q).mpr Ţc)) λy=>N q w y
 let{x,y,w}:=a q C;rw[Ϛp];show(ēe).trans (a q (p q c)).2.1.symm;show(Ēe).trans ín;rcases(l q).mp w with w|w;show z Ţc;rcases(f q).mp w with w|w;show c w;show z źd
def yo.add{m:M}{v:V}{Lm:Ft}(h:yo K n P G0 H0 G H β σ ms vs)(x:zS G H G H')(N:xL K G H' m v Lm)(l:∀q,Lm q->G q=Ä/\H q=Ä):yo K n P G0 H0 G H' β σ Ðg ĳe:=by
 classical
 let{L,f,E,o,a,b}:=h;let{Q,j}:=Ϸ;let d:∀q,L q->Bx H q:=Ôc (λm _ v A t=>t.cells m v A) o;let r:∀q,Bx H q->H' q=H q:=λq ⟨u,C,_⟩=>(x.h _ _ C).trans C.symm
 let k:∀q,Bx H q->¬ Lm q:=λq z w=>z.some (l q w).2
 let e1:∀q,Lm q->ũk=H' q:=λq z=>Ò z
 let e2:∀q,¬ Lm q->ũk=f q:=λq z=>Ó z
 let e:=ĩa x;show{λq=>Lm q\/L q,λq=>if Lm q then H' q else f q,{{ϱi,λq o z=>?_,Ęd,λq z=>?_},ĸ,Ģ,ŏ,õa,Q,λi p J=>?_,j.dj,λi q z=>?_},{v,vs,Lm,L,rfl,N,ųb (λp _ S A s t=>t.loc x.g p S A λq z=>r q (d q ċd)) o,λq z w=>k q (d q w) z,λq=>Ēa},λq z=>?_,λq z=>?_};by_cases c:Lm q;show(ēe).symm.trans z;show e.ext.h _ _ ((Ēe).symm.trans z);let c:¬ Lm q:=λw=>z (l q w).1
 show(e.ext.new q z).elim .inl λw=>.inr Çf;let{w,R,O}:=j.at_ i p J;show{w,R,O.loc x.g p w _ λq z=>r q (j.ok i q z).2.2};let{g,y,B}:=j.ok i q z;let{T,F}:=Uw x g B;show{T,(e2 q (k q B)).trans y,F};rcases z with z|z;show{âj.1,?_,e1 q z};let c:¬ L q:=λw=>k q (d q w) z
 show(îj).symm.trans (ϵd âj.2);let{g,I,y}:=a q z;show{g,I,((e2 q (k q āc)).trans y).trans (r q āc).symm};show(e2 q λw=>z Ţc).trans (b q λw=>z źd)
def yo.swap{r m:M}{u v:V}(h:yo K n P G0 H0 G H β σ ñi ði):yo K n P G0 H0 G H β σ (m::r::ms) (v::u::vs):=by let{L,o,E,{x,_,f,A,e,j,{B,_,i,d,s,k,t,l,c},g,p},a,b}:=h;cases e;cases s;show{L,o,E,{v,_,i,λq=>f q\/d q,rfl,k,{u,vs,f,d,rfl,j,t,λq z w=>g q z ϖn,λq=>Ēa},λq z w=>øj (λy=>g q y Ėh) âj,λq=>(p q).trans {?_,?_}},a,b};rintro(z|z);show .inr řa;show(Śn).elim .inl λy=>.inr (.inr y);rintro(z|z|z);show .inr Ėh;show .inl z;show .inr ŗm
def yo.len{r:M}{u:V}(h:yo K n P G0 H0 G H β σ (r::ms') Íg)(_:ů=ö):ms'.length=ö:=by let{L,a,E,o,_}:=h;let:=Ϗa;show(Ģc this).symm
def yo.push{m:M}{v:V}(h:yo K n P G0 H0 G H β σ [m] [v]):zn K ı P G0 H0 G H ľc Ĉa:=by
 let{L,F,E,{S,r,k,R,e,o,{T,N},d,u},a,b}:=h;cases e;let{A,p}:=Ϸ;let eL:∀q,L q↔k q:=λq=>(ϐ).trans {λz=>Ĭ id λw=>Þ w (N q),.inl}
 let B:∀q,k q->Bx H q:=Ϭi m v k
 let t:∀j q,A j q->¬ k q:=λj q z w=>by let:=(p.ok j q z).2.1;rw[ķl.2.2]at this;show(Øg).some this
 let s:∀q,¬ k q->F q=H0 q:=λq z=>b q λw=>z ((eL q).mp w)
 show{{Įd,λq o z=>?_,Äa,λq z=>?_},by rw[żp],by rw[Ùq],Ìf ŏ,λi w h=>?_,λj=>if j<n then A j else if j=n then k else λ_=>î,λi Q h=>?_,λi j q C l f=>?_,λi q z=>?_};let c:¬ k q:=λw=>by rw[ķl.2.1]at z;cases z
 show čb _ _ ((s q c).trans z);rcases Ŵb q z with w|w;rw[Õq];by_cases c:k q;show .inr (a q ((eL q).mpr c)).2.1;show .inr ((s q c).symm.trans w);rw[ŝp]
 rw[vL I];show õa i w h;rcases W4 h with⟨c,e⟩|⟨c,e⟩;rw[Ģ]at c;let{w,O,J}:=p.at_ i Q e;refine{w,by rw[vL Ϸb];show O,?_};rw[ϖp];show J;rw[öp];show o;split at l;rw[ϔp];show p.dj i j q C l f;rw[ϔp];show t i q l f;show f;split at l;rw[ϔp];show t j q f l;rw[ϔp];show C É;show f;show l;rw[Ĭp];let{x,y,w}:=p.ok i q z;show{x,(s q (t i q z)).symm.trans y,w};rw[Ĭp];show{Ķl.1,Ķl.2.1,B q z};show Ĭ
#print a
inductive Tg where
 |no|var (i:Â)|sp (i k:Â)
def pq(G:Hp)(σ:St):Á Tg->Á V->È
 | [],vs=>vs=[]|.no::ts,vs=>∃v r,vs=v::r/\pq G σ ts r|.var i::ts,vs=>∃v r,vs=v::r/\σ[i]?=À ź/\pq G σ ts r|.sp i k::ts,vs=>∃p a r,vs=a++r/\ό=k/\σ[i]?=À Ĳf/\G p=À ϊb/\pq G σ ts r
def pq.mono{G b:Hp}{σ:St}(g:zm G b):∀{ts:Á Tg}{vs:Á V},pq G σ ts vs->pq b σ ts vs:=λ{ts}=>by
 induction ts with
 |nil=>show λh=>h|ï o ts ih=>
  intro vs h;cases o with
  |no=>let{v,r,e,h}:=h;show{v,r,e,ih h}
  |var i=>let{v,r,e,s,h}:=h;show{v,r,e,s,ih h}
  |sp i k=>let{p,a,r,e,l,s,z,h}:=h;show{p,a,r,e,l,s,g _ _ z,ih h}
nonrec def j4:Á Tg->Á M->zl->Ê zl
 | [],[],β=>À β|.var i::ts,m::ms,β=>match β[i]? with
  |À Ä=>j4 ts ms ĭh|_=>Ä
 |.no::ts,_::ms,β=>j4 ts ms β|.sp i k::ts,ms,β=>match β[i]? with
  |À Ä=>match ģa k ů&&ģa k 1000 with
   |Ã=>j4 ts (ms.drop k) (Λa (À (.tp Ã (ms.take k))))|Å=>Ä
  |_=>Ä
 |_,_,_=>Ä
section
variable{K:Ð}{n:Â}{P:Á V}{G0 H0 G H:Hp}{β:zl}{σ:St}{ms:Á M}{vs:Á V}
def Źn{b:Á M}{i:Á V}:∀{a:Á M}{va:Á V}{L:Ft},ό=ļo->Ņ K G H Ĉc (va++i) L->∃La Lb,Ņ K G H a va La/\Ņ K G H b i Lb/\(∀q,La q->Lb q->î)/\∀q,L q↔La q\/Lb q:=λ{a}=>by
 induction a with
 |nil=>
  intro va L l h;cases va with
  |nil=>show{λ_=>î,L,{rfl,λ_ z=>z},h,λ_ z=>Ĭ,λq=>{.inr,λz=>Ĭ ϯ id}}|ï _ _=>cases l
 |ï m a ih=>
  intro va L l h;cases va with
  |nil=>cases l|ï v va=>let{n,r,g,p,e,o,h,d,u}:=h;cases e;let{La,Lb,j,k,f,c}:=ih īe h;show{λq=>g q\/La q,Lb,{v,va,g,La,rfl,o,j,λq z w=>d q z ((c q).mpr Ţc),λq=>Ēa},k,λq z w=>Ĭ (λy=>d q y ϖn) λy=>f q y w,λq=>(ϐ).trans {?_,?_}};rintro(z|z);show .inl řa;show(Śn).elim (λy=>.inl (.inr y)) .inr;rintro((z|z)|z);show .inl z;show .inr Ėh;show .inr ŗm
def OwnMs.glue{b:Á M}{e:Á V}{c:Ft}(j:Ņ K G H b e c):∀{a:Á M}{va:Á V}{La:Ft},Ņ K G H a va La->(∀q,La q->c q->î)->Ņ K G H Ĉc (va++e) þm:=λ{a}=>by
 induction a with
 |nil=>
  rintro va La ⟨rfl,g⟩ d;let:þm=c:=funext λq=>Ũc {λz=>Ĭ (λy=>Þ y (g q)) id,.inr}
  rw[this];show j
 |ï m a ih=>rintro va La ⟨v,r,f,i,rfl,o,h,k,u⟩ d;show{v,r++e,f,λq=>i q\/c q,rfl,o,ih h λq z w=>d q Ġc w,λq z w=>øj ãj λy=>d q Ķc y,λq=>{?_,?_}};rintro(z|z);show((ϐ).mp z).elim .inl λy=>.inr (.inl y);show .inr Řa;rintro(z|z|z);show .inl Ķc;show .inl Ġc;show .inr z
def yo.pack{r:M}{u:V}{a b:Á M}{c i:Á V}{p:Ì}(h:yo K n P G0 H0 G H β σ (r::Ĉc) (u::(c++i)))(l:ό=ťa)(k:G p=À (.lst c))(t:ό<=ã):yo K n P G0 H0 G H β σ (r::.tp Ã a::b) (u::.ref p::i):=by let{L,s,E,{B,_,A,v,e,o,h,d,w},x,y}:=h;cases e;let{j,q,m,z,g,f}:=Źn l h;show{L,s,E,{u,_,A,v,rfl,o,{_,_,j,q,rfl,{p,c,rfl,k,m,t},z,g,f},d,w},x,y}
def yo.z12{a b:Á M}{v:V}{f:Á V}(h:yo K n P G0 H0 G H β σ (.tp Ã a::b) (v::f)):∃p va,v=.ref p/\G p=À (.lst va)/\ļo=ό/\yo K n P G0 H0 G H β σ Ĉc (va++f):=by
 let{L,i,E,{l,_,m,k,e,{p,va,rfl,g,c,_},j,d,u},x,y}:=h;cases e;let:=funext λq=>Ũc ϐ
 subst this;show{p,va,rfl,g,ťa,_,i,E,j.glue c d,x,y}
def yo.F2{r:M}{u:V}:∀{ts:Á Tg}{ms:Á M}{vs:Á V}{β β':zl},yo K n P G0 H0 G H β σ ßj Íg->ů=ö->pq G σ ts vs->j4 ts ms β=À β'->yo K n P G0 H0 G H β' σ [r] [u]:=λ{ts}=>by
 induction ts with
 |nil=>
  intro ms vs β β' h l t e;cases(show vs=[]from t);cases ms with
  |nil=>cases e;show h|ï _ _=>cases e
 |ï o ts ih=>
  intro ms vs β β' h l t e;cases o with
  |no=>
   let{v,f,rfl,t}:=t;cases ms with
   |nil=>cases e|ï m ms=>show ih h.drop īe t e
  |var i=>
   let{v,f,rfl,d,t}:=t;cases ms with
   |nil=>cases e|ï m ms=>
    unfold j4 at e
    rw[ϯp];show ih (h.give d b) īe t e;cases e
  |sp i k=>
   let{p,a,f,rfl,rfl,d,j,t}:=t;unfold j4 at e
   rw[ϯp]
   split at e;rw[Ŀp];rw[ϵp];let q:=Ŗd c.1;let g:(ms.take ό).length=ό:=by rw[Áa,œa q]
   rw[<-ĭa ό ms]at h;refine ih ((h.pack g j (by rw[g];show Ņa (Ŗd c.2))).give d b) ?_ t e;rw[Ŷa,l,ê,ũd];cases e;cases e
#print a
structure XU(X:Cx)(es:Á Õ)(ts:Á Tg)(fs:zl->Ê Ŝa):È where
 h:∃t,PA X es t/\∀{P:Á V}{G0 H0 G H:Hp}{β β':zl}{σ:St}{ms:Á M}{Q:Á V->Hp->È},zn X.K ù P G0 H0 G H β σ->fs β=À (ms,β')->(∀vs G' H',zm G G'->yo X.K ù P G0 H0 G' H' β' σ ms vs->ů=ö->pq G' σ ts vs->Q vs H')->t σ H Q
def CC(i:Â):zl->Ê Ŝa:=λβ=>(xt i β).bind λr=>match r.1 with
 |.tp Ã ϓb=>À (ϓb,r.2)|_=>Ä
def ZO(F:FM)(a:Á Tg)(fs:zl->Ê Ŝa):xK:=λβ=>(èj).bind λr=>(F r.1).bind λs=>(j4 a s.1 r.2).bind λβ'=>À (s.2,β')
section
variable{X:Cx}{x m c:Ç}{ps:Á Ç}{j k:Â}{F:FM}{e o:Õ}{es:Á Õ}{ts:Á Tg}{f:xK}{fs:zl->Ê Ŝa}{p pos Ϻ:Pos}
def Kg:XU X [] [] vj:={{_,jw,λ{P b c G H β β' σ d Q} E a q=>by rw[ϧp]}}
def YX(hv:MC X e f)(x:XU X es ts fs)(h:Î Óa q12):XU X đ âp ļi:=by
 let{I,v,z}:=Ŗb;let{A,w,y}:=x.h;show{{_,tR v w h,λ{P J C G H β β' σ R Q} E c q=>?_}};obtain⟨⟨m,β1⟩,r,c⟩:=zH c;obtain⟨⟨p,β2⟩,n,c⟩:=zH c;cases c;show z E r λu O B s k=>?_
 let{L,F,d,o,a,b}:=k.hold ŏ;show y d n λi K N j h l t=>?_
 show q (u::i) _ _ (ϴf j) (Şc o a b d.ext.g j h) ðh {u,i,rfl,t}
def TZ(i:Â){x:Ç}{pos:Pos}(C:XU X es ts fs)(j:Î ĥb q12)(hv:Î ķb q13)(f:Î ī q10)(d:Î Ĭa q10):XU X ám ϔh įh:=by let{I,z,F}:=C.h;let{R,J,W}:=(iU (X:=X) i (x:=x) (pos:=pos) j hv f d).h;show{{_,tR (kZ j hv f d) z rfl,λ{P A y G H β β' σ U Q} E c q=>?_}};obtain⟨⟨m,β1⟩,w,c⟩:=zH c;rw[ώp];let B:∃v,σ[i]?=À ź/\zn X.K Ój P A y G H (β1++[À m]) Ĉa:=ģe w;let{v,p,s}:=B;let{L,O,e,o,a,b}:=s.hold ŏ;show{v,p,F e r λk S T n h l t=>q (v::k) _ _ n (Şc o a b ϱi n h) ðh {v,k,rfl,p,t}}
def iR(h:vI ø X.w X.K ó ŕ x ps k Ůb)(u:yp j X.A)(o:Gl X x)(r:XU X đ ts fs)(hk:Î Őb q10)(c:Î ī q10)(G:Î ęa q12):MC X Ųa ńn:=by
 let{t,f,y}:=r.h;show{{_,BE h u o f hk c G,λE a q=>?_}};obtain⟨⟨J,β1⟩,d,a⟩:=zH a;obtain⟨⟨H,N⟩,i,a⟩:=zH a;let{β2,C,a}:=zH a;cases a;show y E d λO I L z m l n=>?_
 rw[ŵ];show m.call i λv g B s b=>q v g B (z.trans s) (b.F2 Æp (n.mono s) C).push
def iS{pl:Sem Ñ}(h:LO ø X.w X.K ó ŕ c m ps k Ůb)(B:yp j X.A)(y:Gl X c)(z:XU X đ ts fs)(hk:Î Őb q10)(d:Î Ÿe q10)(J:Î ęa q12)(x:ď Ŧe Ø=(do
   let ov <-ď įf Ø
   standAt ôd
   let (f,first) <-holding [ov] Àd
   ðc pos f first ϻc Ϫb):=by rfl):MC X Ŧe ńn:=by
 let{t,i,C}:=z.h;show{{_,y6i h B y i hk d J x,λE a q=>?_}};obtain⟨⟨O,β1⟩,g,a⟩:=zH a;obtain⟨⟨L,Q⟩,o,a⟩:=zH a;let{β2,I,a}:=zH a;cases a;show C E g λR N P G r l u=>?_
 rw[ŵ];show r.call o λv n H s b=>q v n H (G.trans s) (b.F2 Æp (u.mono s) I).push
def y09(i:Â){x:Ç}{p0 p1 p2 C u A w y z:Pos}{k0 k1 k2}(r:Î ĥb q12)(hv:Î ķb q13)(n:Î ī q10)(d:Î Ĭa q10):XU X [.Subscript (.Name x p0) (.Constant ľ k0 C) w,.Subscript (.Name x p1) (.Constant ÿa k1 u) y,.Subscript Ϧd (.Constant þb k2 A) z] [.sp i 3] (CC i):=by
 let{t0,R,T}:=(Yk (k:=0) (kk:=k0) (kp:=C) (pos:=w) (yg (X:=X) i (x:=x) (pos:=p0) r hv n d)).h;let{t1,e1,U}:=(Yk (k:=1) (kk:=k1) (kp:=u) (pos:=y) (yg (X:=X) i (x:=x) (pos:=p1) r hv n d)).h;let{W,e2,O}:=(Yk (k:=2) (kk:=k2) (kp:=A) (pos:=z) (yg (X:=X) i (x:=x) (pos:=p2) r hv n d)).h;show{{_,tR R (tR e1 (tR e2 jw rfl) rfl) rfl,λ{P G0 Y G H β β' σ ms Q} E f q=>?_}};obtain⟨⟨m,β1⟩,J,f⟩:=zH f;dsimp only at f
 rw[ϔp];rename_i a b c;cases f;let{v,j,I}:=ģe J;let{L,Z,s,o,K,S}:=I.hold ŏ;let{p,F,rfl,t,l,B}:=(Şc o K S s.ext.g Ìj (yo.nil s)).z12;let e:=Äa _ _ t;rw[ŵ,ŵ]at B
 match F,l with
 | [v0,v1,v2],_=>show T j {p,_,v0,rfl,e,rfl,rfl} (U j {p,_,v1,rfl,e,rfl,rfl} (O j {p,_,v2,rfl,e,rfl,rfl} (q _ _ _ ϕb B rfl {p,[v0,v1,v2],[],rfl,rfl,j,t,rfl})))
 cases f
#print a
def KW(i:Â)(π:Á xZ):yY:=λβ=>(ïd).bind λa=>match a with
 |.own Ϛi=>(ϟa β i π ĭo).bind λβ'=>À ųf|_=>Ä
section
variable{X:Cx}{o:Õ}{i np:Â}{π:Á xZ}{Ϻ Ž pos:Pos}
def y0c(x:SP X o i π)(b:Î (ŏa o "clear" Ø Çe=ď o Ø) q12)(e:Î Ōa q12)(B:Î (Ya ĕk=Ã) q12) :MS X np (.Expr ĕk pos) (KW i π):=by
 let{N,s,A}:=x.h;show{{_,(O1 (y89 Ũd PySem.F.slot_list_clear PySem.F.type_list_clear y0e {s} b e) B).h,λ{P T R G H β σ fl E} Q K d q=>?_}};let{O,t,d}:=zH d
 rw[ĝp];rename_i ds;let{β2,f,d}:=zH d;cases d;let{W,g,C}:=Zd t;let I:=K.Qq (m:=.fz .zC) (v:=.zC) (L:=λ_=>î) êe {rfl,λ_ z=>z} λ_ z=>Ĭ
 let{r,v1,U,S,p,u,{a,rfl,{n,j,Y,l},k},_,_,w}:=ġe Ůa g C;let{Z,J,y}:=w (H':=zT H a Ăb) (m2:=.own Ăb) (L2:=λq=>q=a) (Ζb (k q)) {a,rfl,{[],yX,rfl,Ϥ _},λ_=>Ēa} λq z=>.inl ((k q).mpr z)
 rw[Th g J]at f;cases f;show A p u {.inl {rfl,n,ņa j},a,n,rfl,rfl,j,q _ _ _ y};cases d
#print a
nonrec def ϟ{α:Type}(π:Á Â)(d:α)(xs:Á α):Á α:=π.map λi=>Ìe i d
def lZ{α:Type}{d:α}:∀{xs:Á α}{k:Â},ä<=k->ϟ (Ía k) d xs=xs++š (k-ä) d:=λ{xs k} h=>by
 unfold ϟ;show ĭc λi=>?_
 rw[ũ,List.getElem?_append];by_cases c:i<k;rw[Ϸe c]
 split;rename_i z;exact À Ÿo=_;rw[Ϭ,ė z];rfl;rename_i z;exact À Ÿo=_;rw[Ϭ,Ϫa É,ϝe,Ò É];rfl;rw[Ϫa (by rw[ϴa];omega),Ó É,ϝe,Ó É];rfl
section
variable{K:Ð}{n:Â}{P:Á V}{G0 H0 G H:Hp}{β:zl}{σ:St}{ms:Á M}{vs:Á V}
def åo{l c:Á (M×V)}(p:l.Perm c):∀{L:Ft},Ņ K G H (ż (·.1)) (ż (·.2)) L->Ņ K G H (c.map (·.1)) (c.map (·.2)) L:=by
 induction p with
 |nil=>show λh=>h|ï x p ih=>rintro L ⟨v,r,a,f,e,o,h,d,u⟩;cases e;show{_,_,a,f,rfl,o,ih h,d,u}
 |swap x y l=>rintro L ⟨v,r,a,f,e,o,⟨s,n,j,g,k,m,h,i,b⟩,d,u⟩;cases e;cases k;show{_,_,j,λq=>a q\/g q,rfl,m,{_,_,a,g,rfl,o,h,λq z w=>d q z (Βa (b q)),λq=>Ēa},λq z w=>øj (λw=>d q w ((b q).mpr řa)) åj,λq=>(ϐ).trans ((or_congr_right (b q)).trans or_left_comm)}
 |trans p q h1 h2=>show λh=>h2 (h1 h)
theorem lK:∀j:Â,Ņ K G H (š j úe) (š j .zC) Òe
 |0=>{rfl,λ_ z=>z}|j+1=>{.zC,_,_,_,rfl,{rfl,λ_ z=>z},lK j,λ_ z=>Ĭ,λq=>{.inl,λz=>Ĭ id id}}
theorem yo.pick{π:Á Â}(h:yo K n P G0 H0 G H β σ ms vs)(l:ů<=π.length)(p:(ĵm).Perm π):yo K n P G0 H0 G H β σ (ϟ π úe ms) (ϟ π .zC vs):=by
 let{L,d,E,o,x}:=h;show{L,d,E,?_,x};let b:=Ϗa;let a:=(lK (K:=K) (G:=G) (H:=H) (π.length-ů)).glue o λ_ _ z=>z
 rw[show(λq=>L q\/î)=L from funext λq=>Ũc {λz=>Ĭ id ϯ,.inl},<-lZ l]at a;rw[show π.length-ů=π.length-ö by rw[b],<-lZ (b▸l)]at a;let c:=åo (p.map λi=>(ms.getD i úe,vs.getD i V.zC)) (L:=L) (K:=K) (G:=G) (H:=H);rw[Ĝa,Ĝa,Ĝa,Ĝa]at c;show c a
def cV(σ:St):Tg->V->È
 |.no,_=>Ėb|.var i,v=>σ[i]?=À ź|.sp _ _,_=>î
nonrec def iq:Tg->Ñ
 |.sp _ _=>Å|_=>Ã
def x3s:∀{ts:Á Tg}{vs:Á V},pq G σ ts vs->ts.all iq=Ã->∀i,cV σ (ts.getD i .no) (vs.getD i .zC):=λ{ts}=>by
 induction ts with
 |nil=>show λ_ _ i=>trivial|ï o ts ih=>
  intro vs h c i;rw[Ū,Č]at c;cases o with
  |no=>
   let{v,r,rfl,h}:=h;cases i with
   |Ϡ=>show trivial|ϡ i=>show ih h c.2 i
  |var j=>
   let{v,r,rfl,e,h}:=h;cases i with
   |Ϡ=>show e|ϡ i=>show ih h c.2 i
  |sp _ _=>show Þ c.1 nofun
def x3t{f:Â->Tg}{g:Â->V}(h:∀i,cV σ (f i) Še):∀π:Á Â,pq G σ (π.map f) (π.map g):=λπ=>by
 induction π with
 |nil=>show rfl|ï i π ih=>
  let z:=h i;exact pq G σ (f i::π.map f) (g i::π.map g);generalize f i=o at *;cases o with
  |no=>show{_,_,rfl,ih}|var j=>show{_,_,rfl,z,ih}|sp _ _=>show Ĭ
#print a
abbrev Kf:=Â×Á Ç×Á Â
def KB(K:Ð)(a:Ľ)(p0:Ç)(ps:Á Ç)(t:Kf):È:=∀(s:Ï)(x:Value)(us ws:Á Value),ř á->Ű=t.1->Ţa=t.2.1.length->Ďb s a ⟨x::us,t.2.1.zip ws⟩ ((p0,x)::ľe (ϟ t.2.2 .none (us++ws)))
def zo.at_{xs:Á V}{us:Á Value}(r:zo xs us)(i:Â):yB (Ìe i .zC) (us.getD i .none):=by
 rw[Ϭ,Ϭ];cases e:xs[i]? with
 |Ä=>rw[r.none_of e];show rfl|À x=>let{u,b,a}:=Ūa e;rw[b];show a
theorem Ϧi{xs:Á V}{us:Á Value}(r:zo xs us):∀π:Á Â,zo (ϟ π .zC xs) (ϟ π .none us)
 | []=>.nil|i::π=>.cons (zo.at_ r i) (Ϧi r π)
def x2v(C:Ì)(sp:Sp)(π:Á Â)(n k:Â)(E:XK)(t tk:TA):TE:=λσ H Q=>t σ H λb e=>tk σ e λc a=>ϋ=n/\ťa=k/\∀x dx,a x=Ä->a dx=Ä->dx≠x->
 sp (Λe (b++c)) (zT (zT a dx Ĥd) x ϣm) (λv d=>v=.zC/\Q ŗc d) E
section
variable{X:Cx}{CX:gC}{k n:Â}{f C:Ì}{fd:Ľ}{p0:Ç}{ps ks:Á Ç}{π:Á Â}{sp:Sp}{E:XK}{x:Ç}{p pos:Pos}{e:Õ}{es:Á Õ}{kws:Á ϐb}{t tk:TA}
def y95{d:Á ð}{σ:St}{H:Hp}{s:Ï}{Q:VK}{us ws:Á Value}{vs c:Á V}(M:Mk X.K C f)(F:xN ø X.w X.K ó ŕ CX k f fd ϝf sp)(z:yp Ŝ X.A)(G:KB X.K fd p0 ps (n,ks,π))(m:XW CX X E)(I:zI X d σ H s)(r:zo vs us)(g:zo c ws)(J:ö=n)(l:ťa=Ī)(h:∀x dx,H x=Ä->H dx=Ä->dx≠x->sp (Λe (vs++c)) Äk ϛk E) :Ý Ą X.A (ŉa ļ us Ŷi) ön Ĳ s:=by
 let y:=h ϳ ß œh Őc ϕo;let b:=ϧi (C:=C) I;let q:zo (Ùa ϳ::ϟ π .zC (vs++c)) Ėk:=.cons rfl (Ϧi (îc g) π)
 refine Öf (iO (f:=f) Ŧ M.makes M.init êo (Żd (ĕg _ ġa _ _ {ċ ϳ::us,ĩd ws} Ėk _ _ E (z.make C us Ŷi)
  (ŕo C us Ŷi) (G _ (ċ ϳ) us ws b.xY (r.length.symm.trans J) (g.length.symm.trans l)) q y) λr j a=>?_))
 cases r with
 |ċg e=>show m d σ _ _ e j b a|ok fl=>
  cases fl with
  |ret u=>let{v,B,i,t,p,o}:=b.after a;subst p;show{t,{Ùa ϳ,B,i,rfl,o}}
  |next=>show ϯ a|brk=>show ϯ a|ĕb=>show ϯ a
def y6o(M:Mk X.K C f)(F:xN ø X.w X.K ó ŕ CX k f fd ϝf sp)(B:yp Ŝ X.A)(v:Gl X x)(N:ó x=À ļ)(L:KB X.K fd p0 ps (n,ks,π))(u:XW CX X E)(z:PA X đ t)(g:PK X kws tk)(a:(Ŕd).all (·.1.isSome)=Ã)(d:(Ŕd).filterMap (·.1)=ks)(b:Įj=Å)(O:ōa đ Ø=(Å,ď e Ø)::ōa es Ø)(c:((ϻc).any (·.1)||(ŭi pos Ēl).any (·.1.isNone))=Å) :PE X (.Call øa đ kws pos) (x2v C sp π n Ī E t tk):=by
 rw[Űp];show Ϧc (IY I v N ?_ b);show W.callWith_KW (h₀:=ŕ) Äe M.kp a (zy (z pos j s σ H _ I h) λY J ⟨T,y,G,r,q⟩=>?_) c O;show zy (g pos j J σ y _ G q) λZ R ⟨U,S,i,m,P,l,o⟩=>{i.xY,?_}
 rw[d];show y95 M F B L u i r m P l o
#print a
structure LS(X:Cx)(kws:Á ϐb)(ts:Á Tg)(fs:zl->Ê Ŝa):È where
 h:∃t,PK X kws t/\∀{P:Á V}{G0 H0 G H:Hp}{β β':zl}{σ:St}{ms:Á M}{Q:Á V->Hp->È},zn X.K ù P G0 H0 G H β σ->fs β=À (ms,β')->(∀vs G' H',zm G G'->yo X.K ù P G0 H0 G' H' β' σ ms vs->ö=ķf->pq G' σ ts vs->Q vs H')->t σ H Q
structure Ul(X:Cx)(es:Á Õ)(kws:Á ϐb)(ts:Á Tg)(fs:zl->Ê Ŝa):È where
 h:∃t tk,PA X es t/\PK X kws tk/\∀{P:Á V}{G0 H0 G H:Hp}{β β':zl}{σ:St}{ms:Á M}{Q:Á V->Á V->Hp->È},zn X.K ù P G0 H0 G H β σ->fs β=À (ms,β')->(∀vs zs G' H',zm G G'->yo X.K ù P G0 H0 G' H' β' σ ms żi->ö=Þe->Œf=ķf->pq G' σ ts żi->Q vs zs H')->t σ H λvs H1=>tk σ H1 λzs H2=>Q vs zs H2
def LP(P:ë)(w:å)(K:Ð)(b:Ç->Ê Value)(a:Heap)(c:Ç)(p0:Ç)(ps:Á Ç)(k:Â)(sp:Sp)(l:Á Kf):È:=
 ∃(C f:Ì) (fd:Ľ),ų K Ĕ c=À ãa/\b c=À ļ/\Mk K C f/\(∀t∈l,KB K fd p0 ps t)/\xN P w K b a xJ k f fd ϝf sp
def kJ(c:Ç)(F:FM)(π:Á Â)(a:Á Tg)(fs:zl->Ê Ŝa):xK:=λβ=>(èj).bind λr=>(F (.obj c [] []::ϟ π úe r.1)).bind λs=>match s.2,s.1 with
 |.fz .zC,m::ms=>(j4 (ϟ π .no a) ms r.2).bind λβ'=>À (m,β')|_,_=>Ä
section
variable{X:Cx}{x c p0:Ç}{ps ks:Á Ç}{j k n:Â}{π:Á Â}{l:Á Kf}{F:FM}{e:Õ}{es:Á Õ}{kws:Á ϐb}{nm:Ê Ç}{ts:Á Tg}{f:xK}{fs:zl->Ê Ŝa}{p pos kpos:Pos}
def Xt:LS X [] [] vj:={{_,lh,λ{P b c G H β β' σ d Q} E a q=>by rw[ϧp]}}
def B4(i:Â)(z:LS X kws ts fs)(w:Î ĥb q12)(hv:Î ķb q13)(n:Î ī q10)(d:Î Ĭa q10):LS X ({nm,.Name x pos,kpos}::kws) ϔh įh:=by let{B,y,A}:=z.h;show{{_,lg (kZ w hv n d) y,λ{P I C G H β β' σ O Q} E c q=>?_}};obtain⟨⟨m,β1⟩,u,c⟩:=zH c;obtain⟨⟨s,β2⟩,p,c⟩:=zH c;cases c;let{v,k,r}:=ģe u;let{L,F,e,o,a,b}:=r.hold ŏ;show{v,k,A e p λf J K j h l t=>q (v::f) _ _ j (Şc o a b ϱi j h) ðh {v,f,rfl,k,t}}
def Xu(h:LS X kws ts fs):Ul X [] kws ts fs:=by rw[Ĩp];show{{_,_,jw,p,λE b q=>k E b λc a d s h l t=>q [] c a d s h rfl l t}}
def y08(hv:MC X e f)(A:Ul X es kws ts fs)(h:Î Óa q12):Ul X đ kws âp ļi:=by
 let{O,x,C}:=Ŗb;let{F,I,y,s,B}:=A.h;show{{_,_,tR x y h,s,λ{P R K G H β β' σ W Q} E c q=>?_}};obtain⟨⟨m,β1⟩,v,c⟩:=zH c;obtain⟨⟨r,β2⟩,p,c⟩:=zH c;cases c;show C E v λu U J w n=>?_
 let{L,N,j,o,a,b}:=n.hold ŏ;show B (Q:=λd i H=>Q (u::d) i H) j p λd i S T k h z l t=>q (u::d) i _ _ (w.trans k) Îl (Ÿ Ųi z) l {u,d++i,rfl,t}
def jq(i:Â)(C:Ul X es kws ts fs)(z:Î ĥb q12)(hv:Î ķb q13)(n:Î ī q10)(f:Î Ĭa q10):Ul X ám kws ϔh įh:=by let{I,J,A,w,F}:=C.h;show{{_,_,tR (kZ z hv n f) A rfl,w,λ{P R K G H β β' σ U Q} E c q=>?_}};obtain⟨⟨m,β1⟩,y,c⟩:=zH c;rw[ώp];let{v,l,s}:=ģe y;let{L,O,j,o,a,b}:=s.hold ŏ;show{v,l,F (Q:=λd e H=>Q (v::d) e H) j r λd e S T k h B p t=>q (v::d) e _ _ k Îl (Ÿ Ųi B) p {v,d++e,rfl,l,t}}
def Xs(h:LP ø X.w X.K ó ŕ c p0 ps k Ůb l)(hm:(Þe+1,ks,π)∈l)(hr:yp j X.A)(hg:Gl X c)(ha:Ul X đ kws ts fs)(hk:Î (k+1<=j) q10)(hp:Î ((ĵm).Perm π) q10)(hn:Î (ts.all iq=Ã) q12)(hl:Î (Þe+1+ķf<=π.length) q10)(hw:Î (ķf=Ī) q12)(I:Î Ÿe q10)(U:Î ęa q12)(i:Î ((Ŕd).all (·.1.isSome)=Ã) q12)(u:Î ((Ŕd).filterMap (·.1)=ks) q12)(B:Î (((ϻc).any (·.1)||(ŭi pos Ēl).any (·.1.isNone))=Å) q12) :MC X (.Call įf đ kws pos) (kJ c F π ts fs):=by
 let{C,f,fd,ns,N,mk,b,FF}:=h;let{t,tk,pa,pk,ka}:=ha.h;rw[Ū,Č]at U;show{{_,y6o mk FF Ľn hg N (b _ hm) Xz pa pk i u I (qJ U.1) B,λ{P G0 H0 G H β β' σ mr Q} E a q=>?_}};obtain⟨⟨ms,β1⟩,J,a⟩:=zH a;obtain⟨⟨ms',m'⟩,hF,a⟩:=zH a;show ka E J λvs zs x g s1 O Z S tg=>{Z,S.trans hw,λy d r n ne=>?_}
 dsimp only at a
 rw[Ăp];rename_i m0 ms0;let{β2,hb,a}:=zH a;cases a
 let lm:ů<=π.length:=by let{_,_,_,o,_}:=O;let:=Ϗa;rw[ê,Z,S]at this;rw[<-this];show hl
 let Y:zm x g:=by let{_,_,E1,_}:=O;show E1.ext.gh
 let a1:∀q,q≠y->q≠d->zT Þh y Šh q=g q:=λq z w=>by rw[z_ z,z_ w]
 let R:∀q o,g q=À o->zT Þh y Šh q=À o:=λq o z=>by rw[a1 q (λc=>by subst c;rw[r]at z;cases z) (λc=>by subst c;rw[n]at z;cases z)];show z
 let x2:zS x g x (zT Þh y Šh):={Ķa _,R,λq o z=>R q o (Y _ _ z),λq z=>.inl z};let h2:=(O.pick lm hp).add (m:=.obj c [] []) (v:=.ref y) (Lm:=λq=>q=y) x2 {y,C,d,[],λ_=>î,rfl,ns,yX,rfl,{rfl,λ_ z=>z},λz=>z,λq=>{.inl,λz=>Ĭ id ϯ}} λq z=>z▸{Y.free r,r}
 show h2.call hF λv T H' s h3=>?_
 let rv:v=.zC:=by let{_,_,_,{_,_,_,_,e,{o,_},_},_}:=h3;cases e;show o
 show{rv,?_};let W:=h3.swap.drop;let L:pq T σ (ϟ π .no ts) (ϟ π .zC żi):=x3t (x3s (tg.mono s) hn) π;show q _ T H' (s1.trans s) (W.F2 (ñg (ms:=ϟ π úe ms) (by unfold ϟ;rw[æ,æ])) L hb).push;cases a
#print a
def KS(i:Â)(c:xK):yY:=λβ=>(tQ β i []).bind λa=>match a with
 |.own Ϛi=>(ýg).bind λr=>(şc).bind λy=>(tQ r.2 i []).bind λb=>match b with
  |.own ßc=>match decide (ÿ<yN)with
   |Ã=>(ϟa r.2 i [] ϔg).bind λβ'=>À ųf|Å=>Ä
  |_=>Ä
 |_=>Ä
def VS(i:Â)(π:Á xZ)(a:FE):yY:=λβ=>(ïd).bind λb=>match b with
 |.own ßc=>(a ûe).bind λy=>match decide (ÿ<yN)with
  |Ã=>(ϟa β i π ϔg).bind λβ'=>À ųf|Å=>Ä
 |_=>Ä
section
variable{K:Ð}{n:Â}{P:Á V}{G0 H0 G H:Hp}{β β':zl}{σ:St}{i:Â}{π:Á xZ}{ds:Á D}{y:D}{w:V}
def zn.seen(E:zn K n P G0 H0 G H β σ)(d:tQ β i π=À Ĭo):∃r a vs,σ[i]?=À ıe/\wF K H r π Ş/\H a=À đd:=by
 let{k,h,f}:=Zd d;let g:=E.Qq (m:=.fz .zC) (v:=.zC) (L:=λ_=>î) ĺb {rfl,λ_ z=>z} λ_ z=>Ĭ
 let{r,o,j,l,b,c,{a,rfl,{vs,e,_},_},_}:=g.write ŏ h f;show{r,a,vs,b,c,e}
def zn.app(E:zn K ı P G0 H0 G H (β++[À (.fz y)]) Ùn)(s:äa<=n)(j:tQ β i π=À Ĭo)(c:ÿ<yN)(e:ϟa β i π ϔg=À β') :∃r a vs,σ[i]?=À ıe/\wF K H r π Ş/\H a=À đd/\ö<ã/\zn K n P G0 H0 G (zT H a Ĳm) β' σ:=by
 let{v,f,o}:=Zd j;let rw:=E.ZH;let{r,x,u,B,g,h,{a,rfl,{vs,k,b,l},d},_,_,m}:=E.write s f o
 let{A,p,t}:=m (H':=zT H a Ĳm) (m2:=.own (Β Ãp)) (L2:=λq=>q=a) (Ζb še)
  {a,rfl,{vs++[w],yX,b.append (Će rw),by rw[ê,Ś];show c},λ_=>Ēa} λq z=>.inl ((še).mpr z)
 rw[Th f p]at e;cases e;show{r,a,vs,g,h,k,by rw[ϋ,Ś];show c,t}
#print a
section
variable{X:Cx}{o e:Õ}{np:Â}{x:Ç}{xp Ϻ Ž pos:Pos}{fv:xK}{f:FE}{i:Â}{π:Á xZ}
def y0a(C:SP X ùa i [])(B:MC X e fv)(d:Î ϔj q12)(f:Î Ōa q12)(o:Î Óa q12)(p:Î (Ya łj=Ã) q12) :MS X np Ŕm (KS i fv):=by
 let{W,s,J}:=C.h;let{te,L,N}:=B.h;refine{{_,(O1 (I_ Ũd ųg Ųg Ki {s} {tR L jw o} d f Ϣl Ůd) p).h,λ{P G0 H0 G H β σ fl E} hP K b q=>?_}};let{n0,v,b}:=zH b
 rw[ĭp];rename_i d0;obtain⟨⟨m,β1⟩,S,b⟩:=zH b;let{y,z,b}:=zH b;cases jb z;let{nd,t,b}:=zH b
 rw[ĭp];rename_i ds
 rw[ĭp];rw[Ŀp];let{β2,A,b}:=zH b;cases b;let{r,a,O,k,n,U}:=K.seen v;show J k n {.inl {rfl,O,ņa U},N K S λw G1 Z s1 R=>?_};let{Y,u,T,g,j,Q,l,I}:=R.app Ůa t (Ŋ c) A;rw[k]at g;cases g;cases(show Ùa a=r from n);cases(show Ùa u=Ùa a from j);show{a,T,w,rfl,rfl,Q,l,q _ _ _ I};rw[ūp];cases b
def B5(A:SP X o i π)(z:SE X e f)(d:Î (ŏa o "append" Ø Çe=ď o Ø) q12)(g:Î Ōa q12)(t:Î Óa q12)(u:Î (Ya ϖj=Ã) q12) :MS X np (.Expr ϖj pos) (VS i π f):=by
 let{U,v,C}:=A.h;let{te,I,J}:=z.h;refine{{_,(O1 (I_ Ũd ųg Ųg Ki {v} {tR I jw t} d g (by rw[Ū,t];rfl) Ůd) u).h,λ{P G0 H0 G H β σ fl E} hP K b q=>?_}};let{Z,n,b}:=zH b
 rw[ĭp];rename_i ds;let{y,Q,b}:=zH b
 rw[ĭp];rw[Ŀp];let{β2,x,b}:=zH b;cases b;let{r,a,L,m,p,S}:=K.seen n;show C m p {.inl {rfl,L,ņa S},J K.Qm Q λw G1 Y s O=>?_};let{W,T,R,j,k,N,l,B}:=((Ìa s).Zz O).app Ůa n (Ŋ c) x;rw[m]at j;cases j;cases(p.mono s.h).one k;show{a,R,w,rfl,rfl,N,l,q _ _ _ B};rw[ūp]
#print a
def JX:Á M->Ê ŉb
 | []=>À []|m::ms=>(ut m).bind λd=>(JX ms).bind λa=>À (d::a)
def El(f:xK):xK:=λβ=>(Ńa).bind λr=>match r.1 with
 |.tp Å ms=>(JX ms).bind λa=>À (.fz (.tup a),r.2)|_=>Ä
def y62{K:Ð}{G H:Hp}:∀{ms:Á M}{ds:Á D}{vs:Á V}{L:Ft},JX ms=À ds->Ņ K G H ms vs L->â K G ds vs:=λ{ms}=>by
 induction ms with
 |nil=>intro ds vs L e h;cases e;show h.1|ï m ms ih=>rintro ds vs L e ⟨v,r,b,c,rfl,o,h,_,_⟩;let{d,e1,e}:=zH e;let{a,e2,e}:=zH e;cases e;cases jb e1;show{v,r,rfl,o.1,ih e2 h}
def z1l:∀{ms:Á M}{ds:Á D},JX ms=À ds->ÿ=ů:=λ{ms}=>by
 induction ms with
 |nil=>intro ds e;cases e;rfl|ï m ms ih=>intro ds e;let{d,e1,e}:=zH e;let{a,e2,e}:=zH e;cases e;show Ÿ Ųi (ih e2)
def y01{X:Cx}{e:Õ}{f:xK}(h:MC X e f):MC X e (El f):=by
 rw[Ĩp];show{{t,p,λ{P y w G H β β' σ B Q} E a q=>?_}};obtain⟨⟨m,β1⟩,j,a⟩:=zH a;show k E j λv d g s b=>?_
 dsimp only at a
 rw[Ăp];rename_i z;let{A,e,a}:=zH a;cases a;let{x,F}:=b.own;let{u,c,p,n,rfl,i,o,l}:=Ϟ ù _ (uI b.pX);rw[uI b.Zx]at c;cases c;let r:=y62 e o;show q _ d g s ((b.down ŏ).Zz {p,n,rfl,i,r,by rw[z1l e];show l});cases a
structure Y7(K:Ð)(Ha G H:Hp)(qs:Á Ì)(ds:Á D):È where
 nd:ţi
 ln:Ĉd=ÿ
 el:∀z∈üj ds,xz K G H z.2 z.1/\Ha z.1=Ä/\G z.1=Ä
section
variable{K:Ð}{Ha G H G' H':Hp}{qs:Á Ì}{ds:Á D}{p:Ì}{d:D}
def xz.go(x:zS G H G' H')(o:xz K G H d p):xz K G' H' d p:=ϋc x.g (by let{u,a,_}:=o.bx;rw[a];show x.h _ _ a)
def Y7.mem(h:Y7 K Ha G H qs ds)(b:p∈qs):∃d,(p,d)∈üj ds:=by
 let{i,a,rfl}:=ϵe b;have c:i<ÿ:=by rw[<-h.ln];show a
 show{ds[i],?_};rw[<-List.getElem_zip (h:=by rw[Įa,<-h.ln,ıa];show a)];show ñb _
def Y7.more(h:Y7 K Ha G H qs ds)(s:zm Ha H)(x:zS G H G' H')(g:H p=Ä)(j:G' p=Ä)(o:xz K G' H' d p):Y7 K Ha G' H' (qs++[p]) (ds++[d]):=by show{ăl {h.nd,List.nodup_cons.mpr {Ăa,Ϥd},λu k w l e=>?_},by rw[ê,ê,h.ln];rfl,λz f=>?_};cases åa l;subst e;let{m,i}:=h.mem k;show(h.el _ i).1.bx.some g;rw[ğm h.ln]at f;rcases Þa f with f|f;let{a,b,c}:=h.el z f;show{a.go x,b,(Uw x c a.bx).1};cases åa f;show{o,új g,j}
def y63:∀{qs:Á Ì}{ds:Á D},ţi->Ĉd=ÿ->(∀z∈üj ds,xz K G H z.2 z.1)->Ņ K G H (Ĩe .own) (ħe .ref) (·∈qs):=λ{qs}=>by
 induction qs with
 |nil=>
  intro ds _ l _;cases ds with
  |nil=>show{rfl,λ_ z=>Ăa z}|ï _ _=>cases l
 |ï q qs ih=>
  intro ds c l h;cases ds with
  |nil=>cases l|ï d ds=>have a:=şj c;show{.ref q,_,λx=>x=q,(·∈qs),rfl,{q,rfl,h (q,d) Ł,λ_=>Ēa},ih a.2 īe λz b=>h z Œc,λx z w=>a.1 (z▸w),λx=>Ŗa}
#print a
def z9d{K:ăf}{n k:Â}{G0 H0 r q:Hp}{τ:yC}{σ:St}{J:It}{ds j:Á D}{g:TG}{u:FG}{f:FE}{t:Á V->Hp->È}(E:jZ K J r ds)(hl:ÿ<=ã)(O:zx K n G0 H0 r q τ σ)(l:yh u yl f Ϸa ds=À j)(kg:∀G H d v τ' (Q:St->Hp->È),zx K ϟb G0 H0 G H Ϸa Ød->za K G d v->u d Ϸa=À τ'->(∀ρ,zx K ϟb G0 H0 G H τ' Ĝd->Q Ĝd H)->g v Ød H Q)(L:∀qs G H,zS r q G H->Y7 K q G H qs j->Ôa<=ã->t ůo H) :∃W:Â->Â->Á V->Hp->È,(∃m,W 0 m [] q)/\IW σ k J g SC (rC K ϟb f) W t:=by
 show{λi m C H=>m=ÿ-i/\i<=ÿ/\∃G qs done zt,zS r q G H/\C=ħe Ùa/\Ĉd<=i/\Y7 K q G H qs done/\yh u yl f Ϸa (ěd i)=À zt/\done++zt=j,{ÿ,rfl,Ϥ _,r,[],[],j,Ąa O.ext.gh,rfl,Òa _,{Ϥd,rfl,λ_ h=>(Ïj).elim},l,rfl},?_};rintro i m C H ⟨rfl,X,G,qs,done,zt,x,rfl,Z,s,l,F⟩;by_cases hlt:i<ÿ
 .refine .inr {ĩa i G H x.g öa hlt,by rw[æ];omega,λC H=>∃G qs done zt,zS r q G H/\C=ħe Ùa/\Ĉd<=i+1/\Y7 K q G H qs done/\yh u yl f Ϸa ŵo=À zt/\done++zt=j,λU B z=>{ÿ-ñ,űd _ _ hlt,rfl,hlt,z},λv B y=>?_};let{P,d,w,R,Y}:=E.uY i G H v B x.g öa hlt y;rw[êb hlt]at l;rw[ė hlt]at R;cases R;let{τ1,h1,l}:=zH (show(u _ _).bind _=_ from l)
  change (f τ1).bind _=_ at l
  let{z,I,l}:=zH l;let{A,hm,l}:=zH l;cases l;let K3:=((O.go x).go w).more k;show kg P B _ v τ1 _ K3 Y h1 λρ K4=>{{ρ,rfl},?_}
  dsimp only;unfold SC;dsimp only;rw[Ò rfl];refine{_,_,_,_,z,K4,I,λp G6 H6 N S gp o=>{G6,qs++[p],done++[z],A,üc (w.trans N),by rw[ûa];rfl,by rw[ê];show ğb Z,?_,hm,?_}}
  .let T:Y7 K q P B qs done:=⟨s.nd,s.ln,λz I=>by
    let{a,b,c}:=s.el z I;show{a.go w,b,(Uw w c a.bx).1}⟩
   show T.more (üc w).h N S gp o
  rw[Ţ];show F
 let e:ěd i=[]:=ϱb ϻe;rw[e]at l;cases l;rw[ŵ]at F;subst F;show .inl {E.stop i G H x.g öa É,L qs G H x s (by rw[<-s.ln];omega)}
def Jg(k:Â)(fs:FA)(b:FG)(f:FE):xK:=λβ=>(fs Čd).bind λc=>(yh b yl f (qp β++š k Ä) c).bind λa=>match Ϝb VW with
 |Ã=>À (.tp Ã (a.map .own),β)|Å=>Ä
section
variable{X:Cx}{np:Â}{Ĺ:Ûa}{cl:Á Ša}{own:Á Ç}{elt tg ť:Õ}{pos:Pos}{fs:FA}{g:TG}{fg:FG}{f:FE}{C:Ì}{s:Ï}{H fp pn}
def ig{i:Â}{x:Ç}{px n:Pos}(t:Ϗ=Ã)(hN:ğa)(y:X.N[i]?=À x)(hx:Ϥc x=À .local)(B:Z_ X Ĺ cl own)(Y:Ĳb Ëk Ãh n.line Ø=pure Ã)(hi:SI X tg ť fs)(Z:BG X Ĺ cl own tg g fg)(he:∀C s H fp pn,SF Àa elt f)(hs:Î (∀x,ðb ť Ø x=pure x) q11)(hn:Î (np<=i) q10) :MS X np (.Assign [.Name x px] Ëk n) (vk i (Jg ϯa fs fg f)):=by
 let{ti,pi,ki}:=ϡb;show{{_,NB t hN y hx B Y pi (Οb (Z.q C s H fp pn)) (λC s H fp pn=>mG) (λC s H fp pn=>z28 (he C s H fp pn)) hs,λ{P G0 H0 G H β σ fl E} hP K Q q=>?_}};obtain⟨⟨m,β1⟩,U,Q⟩:=zH Q;cases Q;let{ds,w,j}:=zH U;let{F,ho,j}:=zH j
 split at j;rw[Ŀp];cases j;let{G1,I,ϻ}:=K.qQ;show ki I w λJ Ga Ha S l wk=>z9d wk l (I.go S) ho (Z.k I.l2 I.l1) λu G2 H2 x2 r l2 p O=>?_
 let{W,R,_,_,rs,fr}:=ϻ _ _ (S.trans x2);let x4:zS G H ğn (zT H2 p ĸk):=R.trans (ďb R.gh O);let g3:zm W ğn:=wv (R.gh.free O) _
 let A:∀q∈u,q≠p:=λq hq e=>by subst e;let{d,w}:=r.mem hq;show(r.el _ w).1.bx.some O
 show q _ _ _ ((K.Qq (m:=.tp Ã (F.map .own)) (v:=.ref p) (L:=(·∈u)) x4 {p,u.map Ùa,rfl,yX,y63 r.nd r.ln λz T=>?_,by rw[æ];show l2} λa ha=>?_).FB (Š y).1 É K.l1 K.l2);let o:=(r.el z T).1;let nz:VW z.2=Ã:=Ϯa c _ (Ϝd T).2;show(io rs nz o).loc g3 (z_ (A _ (Ϝd T).1));let{d,w}:=r.mem ha;let{_,b,c}:=r.el _ w;show{(z_ (A a ha)).trans (fr a c),S.h.free b};cases j
#print a
def JL(K:Ð)(c q:Ç)(st:Ú)(p0:Ç)(ps:Á Ç)(l:Á Kf):È:=∃C f,ų K Ĕ c=À ãa/\ĉd K C=Ã/\Ča K ļ ýa=À Ťa/\Õa K ļ=Ã/\Ŷc K Ĵ=Ã/\∃fd,vH K ýa q st f fd/\∀t∈l,KB K fd p0 ps t
section
variable{K:Ð}{mg:Ç->Ê Value}{h:Heap}{c q p0:Ç}{st:Ú}{ps:Á Ç}{C f:Ì}{fd:Ľ}{sp:Sp}{k:Â}{fs:Á Kf}{t:Kf}{π:Á Â}{k1 k2:Ç}
def fa_nil:∀t∈([]:Á Kf),KB K fd p0 ps t:=λ_ h=>(Ïj).elim
def fa_cons(a:KB K fd p0 ps t)(b:∀t∈fs,KB K fd p0 ps t):∀t'∈t::fs,KB K fd p0 ps t':=λt' h=>by rcases Ň h with rfl|h;show a;show b t' h
def kb10(b:∀s x y,ř á->Ďb s fd {ãb,[]} ((p0,x)::ľe (ϟ π .none [y]))):KB K fd p0 ps (1,[],π):=λs x a c e f d=>by
 match a,c,f,d with
 | [y],[],_,_=>show b s x y e
def kb11(b:∀s x y z,ř á->Ďb s fd {ãb,[(k1,z)]} ((p0,x)::ľe (ϟ π .none [y,z]))):KB K fd p0 ps (1,[k1],π):=λs x a c e f d=>by
 match a,c,f,d with
 | [y],[z],_,_=>show b s x y z e
def kb12(b:∀s x y z u,ř á->Ďb s fd {ãb,[(k1,z),(k2,u)]} Ík):KB K fd p0 ps (1,[k1,k2],π):=λs x a c e f d=>by
 match a,c,f,d with
 | [y],[z,u],_,_=>show b s x y z u e
def kb30(b:∀s x y z u,ř á->Ďb s fd {[x,y,z,u],[]} Ík):KB K fd p0 ps (3,[],π):=λs x a c e f d=>by
 match a,c,f,d with
 | [y,z,u],[],_,_=>show b s x y z u e
def mkf_mk{s:Value}{p h:Ê Ì}{u:Ü śa}{d kV m j a ct:Value}(n:ų K Ĕ c=À ãa)(r:ĉd K C=Ã)(g:Ča K ļ ýa=À Ťa)(o:Õa K ļ=Ã)(i:Ŷc K Ĵ=Ã)(l:ϓ f=À {s,p,.func Ðk,u})(e:Ĉb K a q=Ã)(k:Õa K Ĵ=Ã)(b:∀t∈fs,KB K Ðk p0 ps t):JL K c q st p0 ps fs:={C,f,n,r,g,o,i,_,eh l e k,b}
def JL.hh(a:JL K c q st p0 ps fs)(X:ř h)(G:Īa Ĕ mg)(P:ë)(w:å)(d:Heap)(ok:∀{f fd},vH K ýa q st f fd->xN P w K mg d xJ k f fd ϝf sp):LP P w K mg d c p0 ps k sp fs:=by let{C,f,n,j,g,e,i,fd,F,b}:=a;rw[όp]
#print a
#print L3
namespace L3
open ķ
nonrec def fF:Á D:=[ľ,ía,ĝa,Ŵf]
def TF:D:=.tup fF
nonrec def Xk:Á D:=[åd,Øe,Öe]
def kN:D:=.tup Xk
nonrec def z56:Á D:=[ňf,Ňf,āi]
def MX:D:=.tup z56
nonrec def Gg:Á ğ:=ĉb .inr [ϭf,ϡa,ϗa,Đb,ńa,Õb,Ûb,Ôb,ßb,åb,Üb,Ĥa,Ŀa,ϔa,ũa,Ļa,ļa,ĺa,ϧ,ϩ,Åa,Ÿb]
nonrec def Gj:Á D:=[Őn,Ŷe,Ŷe,Śb,Śb,Śb,Śb,Śb,Śb,Śb,Śb,Śb,Ŷe,Ŷe,ũe,ũe,ũe,ũe,Őn,ĉm,ĉm,Öp]
nonrec def Gh:Á ğ:=ĉb .inr [ϡa,ϗa,Ŀa,ϔa,ũa,Ļa,ļa,ĺa]
nonrec def Gk:Á D:=[ĝa,ĝa,êc,êc,ía,ía,ía,ía]
nonrec def u_:Á ğ:=ĉb .inr [şa,"d","s",Ðb,Şb]
nonrec def t4:Á D:=[(.tup [(.int 27),êc]),(.tup [Ŵf,ϩf]),(.tup [åp,ϩf]),(.tup [Ŵf,þb]),(.tup [ľ,êc])]
nonrec def kM:Á ğ:=ĉb .inr [Ÿb,ϡa,ϗa,Đb,ńa,Õb,Ûb,Ôb,ßb,åb,Üb,Ĥa,Ŀa,ϔa,ũa,Ļa,ļa,ĺa]
nonrec def kO:Á D:=[ľ,ÿa,þb,ϩf,(.int 4),êc,(.int 6),Ęf,ía,çi,(.int 10),æp,ŵf,(.int 13),(.int 14),ŕc,ĝa,(.int 17)]
nonrec def MY:Á L2.V:=[.int 0,.int 1,.int 2,.int 3,.int 4,.int 5,.int 6,.int 7,.int 8,.int 9,.int 10,.int 11,.int 12,.int 13,.int 14,.int 15,.int 16,.int 17]
nonrec def YK:Á ğ:=ĉb .inr Ãn
nonrec def ZV:Á D:=[(.int 18),(.int 19),(.int 20)]
nonrec def Ma:Á L2.V:=[.int 18,.int 19,.int 20]
nonrec def YJ:Á ğ:=ĉb .inr Ãn
nonrec def ZU:Á D:=[åp,(.int 22),(.int 23)]
nonrec def MZ:Á L2.V:=[.int 21,.int 22,.int 23]
theorem IX{g:FG}{c:FT}{e:FE}{σ:yC}(p:D->Ñ)(v:D->D):∀{ds:Á D},(∀d∈ds,∃σ1,g d σ=À σ1/\c σ1=À (p d)/\(p d=Ã->e σ1=À (v d)))->yh g c e σ ds=À ((ds.filter p).map v)
 | [],_=>rfl|d::ds,h=>by
  let{σ1,e1,e2,b}:=h d õc;let a:=IX p v (ds:=ds) λx f=>h x Ϣo
  rw[Ÿp];exact(c σ1).bind _=_;rw[e2];cases hp:p d with
  |Å=>rw[Ël (by rw[hp];decide)];show a|Ã=>rw[Żg hp];exact(Ĵe).bind _=_;rw[b hp];exact(yh g c e σ ds).bind _=_;rw[a];rfl
def Za(v:D->D)(h:∀d∈ds,∃σ1,g d σ=À σ1/\e σ1=À (v d)):yh g yl e σ ds=À (Ĩe v):=by
 let:=IX (g:=g) (c:=yl) (e:=e) (σ:=σ) (λ_=>Ã) v (ds:=ds) λd f=>by let{σ1,a,b}:=h d f;show{σ1,a,rfl,λ_=>b}
 rw[this,Êl ϊh]
inductive uZ(R:D->D->È):Á D->Á D->È
 |nil:uZ R [] []
 |ï {x y:D} {xs ys:Á D}:R x y->uZ R xs ys->uZ R Üj (y::ys)
theorem iB{g:FG}{e:FE}{σ:yC}(R:D->D->È):∀{ds:Á D},(∀d∈ds,∃σ1 x,g d σ=À σ1/\e σ1=À x/\R d x)->∃xs,yh g yl e σ ds=À xs/\uZ R ds xs
 | [],_=>{[],rfl,.nil}|d::ds,h=>by
  let{σ1,x,e1,e2,r}:=h d õc;let{xs,a,c}:=iB R (ds:=ds) λx b=>h x Œc
  show⟨x::xs,?_,.cons r c⟩;rw[Ÿp];rw[áq];rw[e2];exact(yh g yl e σ ds).bind _=_;rw[a];rfl
def OQ{n i:Â}{d:D}(h:ôg[i]?=À d):i<n/\d=.int (i:Æ):=by
 let a:i<n:=by let:=ēa.1;rw[đp]
 show{a,?_};simp[a]at h;show h.symm
def x8e{n:Â}{d:D}(h:d∈wC n):∃i:Â,i<n/\d=.int (i:Æ):=by let{i,a,e}:=ϵe h;show{i,(OQ (List.getElem?_eq_some_iff.mpr {a,e}))}
def x8d(n:Â):(ôg).length=n:=by simp
def Ja{α:Type}{xs:Á α}{i:Æ}{a:α}(b:0<=i)(h:xs[Ϗb]?=À a):uP xs i=À a:=by unfold uP;rw[Ò b,h]
def wt:Â->D->Ñ
 |0,_=>Å|n+1,.tup xs=>Ĺe (wt n)|n+1,.lst xs=>Ĺe (wt n)|_+1,d=>xO d
theorem Ep{f:D->D->Ñ}:∀{xs:Á D},(∀x∈xs,f x x=Ã)->je f xs xs=Ã
 | [],_=>rfl|x::xs,h=>by exact(f x x&&je f xs xs)=Ã;rw[h x õc,Ep λy a=>h y ďd];rfl
theorem Et:∀{xs:Á D},(∀x∈xs,xr x x=Ã)->Ϣb xs xs=Ã
 | [],_=>rfl|x::xs,h=>by exact(xr x x&&Ϣb xs xs)=Ã;rw[h x õc,Et λy a=>h y ďd];rfl
theorem Ij:∀(n:Â)(d:D),wt n d=Ã->uv n d d=Ã/\xr d d=Ã
 |0,_,h=>by cases h|n+1,d,h=>by
  cases d with
  |tup xs=>have c:∀x∈xs,wt n x=Ã:=Ϯa h;show{Ep λx a=>áf.1,Et λx a=>áf.2}|lst xs=>have c:∀x∈xs,wt n x=Ã:=Ϯa h;show{Ep λx a=>áf.1,Et λx a=>áf.2}|dic ks vs=>cases h|exc _=>cases h|obj _ _ _=>cases h|zC=>show{rfl,rfl}|bl b=>show{rfl,Åc b}|int i=>show{rfl,Åc i}|str z=>show{rfl,Åc z}
def eJ(h:wt 6 d=Ã):YG d d=À Ã:=by
 let{b,a}:=Ij 6 d h
 have e:YG d d=match uv 6 d d with
  |Ã=>À (xr d d)|Å=>Ä:=by cases d<;>rfl
 rw[e,b,a]
theorem z4e(h:wt 6 d=Ã):zr d d=À ň:=by unfold zr;rw[eJ h];rfl
def Ig(h:wt 6 d=Ã):wO d d=À ă:=by unfold wO;rw[eJ h];rfl
def IN{i j:Æ}(h:i=j):zr òa ùc=À ň:=by subst h;exact À (Ϥb (i==i))=_;rw[Åc]
theorem Mm{i j:Æ}(h:i≠j):zr òa ùc=À ă:=by exact À ŝh=_;rw[ϯb h]
theorem Èa{i j:Æ}:yk òa ùc=À ϵh:=rfl
def z50:∀{ks:Á ğ} {vs:Á α},Ī=ö->∀k',Ć îe ϧd k'=if k=k' then À v else Ć ks vs k':=by
 let f:∀{ks:Á ğ} {vs:Á α},Ī=ö->∀k',yq ks k=Ã->Ć ks Ĳg k'=if k=k' then À v else Ć ks vs k':=by
  intro ks
  induction ks with
  |nil=>intro vs _ k' h;cases h|ï a ks ih=>
   intro vs c k' h;cases vs with
   |nil=>cases c|ï b vs=>
    rw[Ŝb];unfold Ć;by_cases e1:a=k;subst e1;by_cases e2:a=k';rw[Ò e2,Ò e2,Ò rfl];rw[Ó e2,Ó e2,Ó e2];by_cases e3:yq ks a=Ã;let:=ih (vs:=vs) Åd k' e3;rw[this,Ó e2];let:∀{ks:Á ğ} {vs:Á α},Ī=ö->yq ks a=Å->Ć ks (ób (λk' x=>if k'=a then v else x) ks vs) k'=Ć ks vs k':=by
     intro ks
     induction ks with
     |nil=>intro vs _ _;rfl|ï a' ks ih'=>
      intro vs c h;cases vs with
      |nil=>cases c|ï b vs=>
       let d:decide (a'=a)=Å/\yq ks a=Å:=by let:(decide (a'=a)||yq ks a)=Å:=h;show Bool.or_eq_false_iff.mp this
       rw[Ŝb];unfold Ć;rw[Ó (Ŵl d.1),ih' Åd d.2]
    show this Åd (by simpa using e3);let d:yq ks k=Ã:=by let:(decide (a=k)||yq ks k)=Ã:=h;rw[ē e1]at this;rw[ņp]
    let:=ih (vs:=vs) Åd k' d;rw[this,Ó e1];by_cases e2:a=k';rw[Ò e2];rw[Ó (λe=>e1 (e2.trans Łe)),Ò e2];rw[Ó e2];by_cases e3:k=k';rw[Ò e3,Ò e3];rw[Ó e3,Ó e3,Ó e2]
 intro ks vs c k';rw[Éq];by_cases h:yq ks k=Ã;rw[Ò h,Ò h];show f c k' h;rw[Ó h,Ó h];clear f
 induction ks generalizing vs with
 |nil=>
  cases vs with
  |nil=>rfl|ï _ _=>cases c
 |ï a ks ih=>
  cases vs with
  |nil=>cases c|ï b vs=>
   let d:¬ a=k/\¬ yq ks k=Ã:=by
    let:¬ (decide (a=k)||yq ks k)=Ã:=h
    rw[ſp];intro e;show this (by rw[õ e];rfl);intro e;show this (by rw[e,Bool.or_true])
   rw[ϓd,ϓd];exact(if a=k' then À b else Ć (ks++[k]) (vs++[v]) k')=if k=k' then À v else if a=k' then À b else Ć ks vs k'
   rw[ih Åd d.2];by_cases e:a=k';rw[Ò e,Ò e];rw[Ó (λg=>d.1 (Ņb g.symm))];rw[Ó e,Ó e]
theorem z7e(a:Sum Æ Ç):yq îe a=(yq ks a||decide (k=a)):=by unfold wQ;by_cases h:yq ks k=Ã;rw[Ò h];by_cases e:k=a;subst e;rw[h];rfl;rw[ē e,ŋh];rw[Ó h];unfold yq;rw[List.any_append];simp
theorem Ht{α:Type}:∀{ks:Á ğ} {us:Á α} {as:Á ğ} {vs:Á α},Ī=Ű->∀k,yq Ĳc.1 k=(yq as k||yq ks k)
 | [],us,as,vs,_,k=>by exact yq as k=(yq as k||Å);rw[ŋh]|a::ks,[],_,_,h,_=>by cases h|a::ks,u::us,as,vs,h,k=>by exact yq (wu (wQ as a) (wB as vs a u) ks us).1 k=_;rw[Ht ϲa,z7e];exact _=(yq as k||(decide (a=k)||yq ks k));rw[Bool.or_assoc]
theorem z1g{L M:Á D}(h:ča+ϑf<=1000):yk Ŏc (.lst M)=À (Β (L++M)):=by exact(if ča+ϑf<=yN then _ else _)=_;rw[Ò ţg]
theorem il(xs:Á D):wO þa Ăb=À (.bl (!xs.isEmpty)):=by
 cases xs with
 |nil=>show Ig (d:=.lst []) rfl|ï x r=>have e:xr ėn Ăb=Å:=rfl;exact(À (xr ėn Ăb)).bind _=_;rw[e];rfl
theorem Ee:∀(n:Â){l:Á Â},l.Nodup->(∀x∈l,x<n)->Ľb<=n
 |0,l,_,h=>by
  cases l with
  |nil=>show Òa _|ï x r=>show Þ (h x õc) Ϻg
 |n+1,l,hd,h=>by
  by_cases hm:n∈l;let b:=Ee n (hd.erase n) λx a=>by let:=(hd.mem_erase_iff).mp a;let:=h x this.2;omega
  rw[List.length_erase_of_mem hm]at b;omega;let b:=Ee n hd λx a=>by
   let d:=h x a;let c:x≠n:=λe=>hm (e▸a)
   omega
  omega
def Kk{x y:D}{b:Ñ}(h:zr x y=À ϗb):wO x y=À (.bl (!b)):=by
 unfold zr at h;unfold wO;cases e:YG x y with
 |Ä=>rw[e]at h;cases h|À k=>rw[e]at h;cases h;rfl
def z1p(b:n<2 ^ w)(a:y/2 ^ l%2 ^ w=0):(y &&& ŋi)=0:=by
 apply ġl;intro i;rw[ûh,ðm];rw[Źg];by_cases hl:l<=i;by_cases hi:i-l<w;let e:Üe i=(y/2 ^ l%2 ^ w).testBit (i-l):=by rw[Çl,Èl,õ hi,ùf,Žd hl]
 rw[e,a,ðm,Ëc];let:n.testBit (i-l)=Å:=Nat.testBit_lt_two_pow (Ũ b (Nat.pow_le_pow_right Í É));rw[this];simp;simp[hl]
theorem z1o(x l w:Â):(x &&& (Ôp*2 ^ l))=x/2 ^ l%2 ^ w*2 ^ l:=by apply ġl;intro i;rw[ûh,Źg,Źg,Nat.testBit_two_pow_sub_one,Çl,Èl];by_cases hl:l<=i;simp[hl,Žd hl];rw[Bool.and_comm];simp[hl]
theorem z33(l w:Â):Űg=((Ôp*2 ^ l:Â):Æ):=by let h:1<=2 ^ w:=Nat.one_le_two_pow;rw[Int.natCast_mul,Int.natCast_sub h];simp
def z25(a:0<=x)(l w:Â):Ġb x Űg=x/2^l%2^w*2^l:=by let{n,rfl}:=ęb a;rw[z33,Þl Įe Įe,ŋ,ŋ,z1o];simp
def z24(c:0<=y)(f:0<=n)(h:n<2 ^ w)(hz:y/2 ^ l%2 ^ w=0):Ġb y ŋi=0:=by
 let{a,rfl}:=ęb c;let{b,rfl}:=ęb f;let e:(b:Æ)*2 ^ l=((b*2 ^ l:Â):Æ):=by simp
 let d:b<2 ^ w:=by
  let:((2 ^ w:Â):Æ)=(2:Æ) ^ w:=by simp
  omega
 let g:a/2 ^ l%2 ^ w=0:=by
  let:((a/2 ^ l%2 ^ w:Â):Æ)=(a:Æ)/2 ^ l%2 ^ w:=by simp
  omega
 rw[e,Þl Įe Įe,ŋ,ŋ,z1p d g];rfl
def z3e{x p r:Æ}(f:0<=x)(a:0<p)(b:0<r):0<=x-x/p%r*p/\Ĥf/p%r=0/\Ĥf/p/r=x/p/r/\Ĥf%p=x%p:=by
 let g:0<=x/p:=Āh f (ëa a);let e1:x-x/p%r*p=x+p*(-(x/p%r)):=by rw[Int.mul_neg,Int.mul_comm p];omega
 let e2:Ĥf/p=x/p-x/p%r:=by rw[e1,Int.add_mul_ediv_left _ _ (Ĉf a)];omega
 let c:x/p-x/p%r=r*(x/p/r):=by let:=Ćl (x/p) r;omega
 show{?_,?_,?_,?_};let d:x/p%r<=x/p:=by let:=Ćl (x/p) r;let e:0<=x/p/r:=Āh g (ëa b);let h:0<=r*(x/p/r):=Int.mul_nonneg (ëa b) e;omega
 let i:x/p%r*p<=x/p*p:=Int.mul_le_mul_of_nonneg_right d (ëa a);let j:=Int.ediv_mul_le x (Ĉf a);omega;rw[e2,c];show ſl _ _;rw[e2,c];show Int.mul_ediv_cancel_left _ (Ĉf b);rw[e1];show Int.add_mul_emod_self_left ..
def lP(x:Æ)(w:Â):Ġb x ((1:Æ)*2 ^ w-1)=x%2 ^ w:=by rw[ņc,W.kbt_mask]
theorem w0g{x n:Æ}{l w:Â}(b:0<=x)(f:0<=n)(a:n<2 ^ w):ļc (Ġb x (īc Űg)) ŋi=x+(n-x/2 ^ l%2 ^ w)*2 ^ l:=by let d:(0:Æ)<2 ^ l:=ϭh Í;let c:(0:Æ)<2 ^ w:=ϭh Í;let{e,g,_,_}:=z3e b d c;rw[PyProof.Rows.bitAnd_not,z25 b,PyProof.Rows.bitOr_and,z24 e f a g,Int.sub_mul];omega
def dH(a:Â):decide ((0:Æ)<=īc (a:Æ))=Å:=ē (by unfold īc;omega)
def b0(a:Â):decide ((0:Æ)<=(a:Æ))=Ã:=õ (Ěc a)
def z2a(a:Æ):īc (īc a)=a:=by unfold īc;omega
def dL(a b:Â):ļc (a:Æ) (b:Æ)=((a ||| b:Â):Æ):=by unfold ļc Ġb;rw[dH,dH];simp only[z2a,ŋ]
theorem d8(a b:Â):Ġb (a:Æ) (b:Æ)=((a &&& b:Â):Æ):=by unfold Ġb;rw[b0,b0];simp only[ŋ]
def c_:FS:=
 (zb (xU (tE (e2 Ňc Ď Üc))
   (yL ϟe)
   wX)
  (yL ĝ))
def z7u(ns:Á Æ)(k:Â):Åb[k]?=(ns[k]?).map ĉ:=ũ
nonrec def j5(ns:Á Æ)(k:Æ):Æ:=Ļf Ż 0
nonrec def jS:Á D->Ê ç
 | [.lst xs,.int k]=>if 0<=k then((xs[Ż]?).getD ľ |> λd=>À (Å,d))else Ä|_=>Ä
def V8(ns:Á Æ){k:Æ}(h:0<=k):jS [.lst Åb,.int k]=À (Å,.int (j5 ns k)):=by exact(if 0<=k then _ else _)=_;rw[Ò h,z7u];unfold j5;rw[Ϭ];cases ns[Ż]?<;>rfl
def y93:∀ds r,jS ds=À r->ÿ=2/\yK 2 c_ ds=À r:=λds r h=>by
 rcases ds with _|⟨x,_|⟨y,_|⟨z,w⟩⟩⟩;cases h;cases x<;>cases h
 .cases x<;>first|(cases h;done)|skip
  cases y<;>first|(cases h;done)|skip
  rename_i a k
  replace h:(if 0<=k then À (Å,(Èp).getD ľ)else Ä)=À r:=h
  show{rfl,?_};by_cases h0:0<=k;rw[Ò h0]at h;cases h;unfold c_;by_cases c:k<(ό:Æ);let e:zP ϊb (.int k)=À ((Èp).getD ľ):=by exact uP a k=_;unfold uP;rw[Ò h0,ė É];rfl
  simp only[Ù,õ c,e];let e:a[Ż]?=Ä:=Ϫa É;simp only[Ù,ē c,e,Option.getD];rw[Ó h0]at h;cases h
 .cases x<;>first|(cases h;done)|(cases y<;>cases h)
def z27(h:Ŝc<2 ^ m):tL i<=m:=by
 by_cases c:i=0;subst c;show Ϥ _;let e:tL i=Ņh+1:=by exact(if(i==0)=Ã then 0 else Ņh+1)=_;rw[Ó Åd]
 rw[e];show(űo).mpr h
def Te{i j:Æ}(a:0<=j)(d:j<64)(c:0<=i)(b:i<2 ^ 64):jx i j=Ã:=by unfold jx;rw[õ a,õ (show j<=1000000 by omega),õ (show Ŝc<2 ^ 64 by omega)];rfl
def d7:FS:=
 (zb (yR 4 (e2 uy ŷk Ď))
  (yL (e2 (gT ļc) (e2 ώi û (e1 GH ύ)) (e2 uy Ħ Ď))))
def l_{d:Â}(h:d<64):1<=(2:Æ) ^ d/\(2:Æ) ^ d<2 ^ 64:=by
 let b:(2:Â) ^ d<2 ^ 64:=Nat.pow_lt_pow_right Í h;let a:0<(2:Â) ^ d:=Nat.pow_pos Í;let e:((2 ^ d:Â):Æ)=(2:Æ) ^ d:=by simp
 let e2:((2 ^ 64:Â):Æ)=(2:Æ) ^ 64:=by decide
 omega
nonrec def Y6:Á D->Ê ç
 | [.int x,.int l,.int d,.int n]=>if Řg/\0<=n/\n<2 ^ ūc then À (Å,.int įg)else Ä|_=>Ä
def y96:∀ds r,Y6 ds=À r->ÿ=4/\yK 5 d7 ds=À r:=λds r h=>by
 unfold Y6 at h
 rw[Ϟp];rename_i x l d n;show{rfl,?_}
 rw[Ϟp];rw[Ŀp];obtain⟨⟨m,a,e,f,o⟩,b,g⟩:=c;let{q,p}:=l_ (d:=ūc) É;cases h;let e1:=Te (i:=1) (j:=d) f o Í Í;let e2:=Te (i:=1*2 ^ ūc-1) (j:=l) a e É É;let k:=Te (i:=n) (j:=l) a e b É;unfold d7;simp only[Ù,e1,e2,k,GH,w0g m b g];cases h;cases h
def sJ{x l d n:Æ}(h:Řg/\0<=n/\n<2 ^ ūc):Y6 [.int x,.int l,.int d,.int n]=À (Å,.int įg):=Ò h
def Lx:FS:=
 (yL (e2 ώi ņm ŷk))
def vG:Á D->Ê ç:=FR 3 3 Lx
def fO(x0 x1 x2:D):vG ϒ=yK 3 Lx ϒ:=rfl
def CP:FS:=
 (zb (yR 3 (e2 yk ńm ďl))
  (yL (Η (e2 xQ Ħ ėf) (Α (e2 ϸd Ħ ėf)))))
def US:Á D->Ê ç:=FR 3 4 CP
def z5h(x0 x1 x2:D):US ϒ=yK 4 CP ϒ:=rfl
def ER:FS:=
 (zb (yR 3 (e2 kL (e2 kL û Ď) ďl))
  (zb (xU (tE (e2 Ňc Ħ ĝ))
   (yL (Η (e2 yk Ħ ėf) ĉh))
   wX)
  (yL Œk)))
def Ue:Á D->Ê ç:=FR 3 4 ER
def z70(x0 x1 x2:D):Ue ϒ=yK 4 ER ϒ:=rfl
def EC:FS:=
 (zb (Ν (e2 uy û Ď))
  (zb (yR 3 (Μd (Ω (zA Ōf Ģf))))
  (yL (Η (zX vG (Ω (ξ ſo))) äc))))
def XI:Á D->Ê ç:=FR 2 4 EC
def z6n(x0 x1:D):XI Ā=yK 4 EC Ā:=rfl
def ED:FS:=
 (zb (Ν (Μd (γ (zA (e2 kL Ď Ő) Ģf))))
  (yL (Η ņm Ţb)))
def XJ:Á D->Ê ç:=FR 2 3 ED
def z6o(x0 x1:D):XJ Ā=yK 3 ED Ā:=rfl
def Oc:FE:=(zX vG (γ (ζ ķi)))
def CY:FS:=
 (yL (εc (wd 1 (u9 ìj) Ħa yl Oc)))
def UV:Á D->Ê ç:=FR 1 1 CY
def z5o(x0:D):UV ô=yK 1 CY ô:=rfl
def Sv:FE:=(e2 uy Ď ĩ)
def EX:FS:=
 (yL (eL GP (Α (wd 2 (qc û ìj) (uf 1 2) yl Sv))))
def JJ:Á D->Ê ç:=FR 1 1 EX
def z76(x0:D):JJ ô=yK 1 EX ô:=rfl
def CV:FS:=
 (yL (G8 û Ď ĝ))
def UU:Á D->Ê ç:=FR 2 2 CV
def z5m(x0 x1:D):UU Ā=yK 2 CV Ā:=rfl
def CS:FS:=
 (yL (zX vG (zA ńm (ξ (Α đe)))))
def UT:Á D->Ê ç:=FR 2 2 CS
def z5j(x0 x1:D):UT Ā=yK 2 CS Ā:=rfl
def DJ:FE:=(zX UT Äc)
def Co:FS:=
 (ql (wd 1 (t5 ĝ ŷa) Ħa yl DJ))
def Wm:Á D->Ê ç:=FR 1 1 Co
def z62(x0:D):Wm ô=yK 1 Co ô:=rfl
def DL:FE:=(zX UU (Κ Ěd))
def EV:FS:=
 (yL (zX JJ (Α (wd 1 (u9 Ϲh) ćc yl DL))))
def JH:Á D->Ê ç:=FR 2 2 EV
def z74(x0 x1:D):JH Ā=yK 2 EV Ā:=rfl
def EJ:yY:=
 (VT 0 [] Ď (xq (zX vG (Ω (ξ ķi)))))
def Ud:FM:=vf 3 3 EJ
def z6t(x0 x1 x2:M):Ud ϒ=wf 3 3 EJ ϒ:=rfl
def Mx:yY:=(pF (p8 Ud (qB 0 [] (p7 Ħ (p7 ύ vQ)))))
def EK:yY:=
 (B0 (qc Ϲh ϧn) (TN 3 4)
   Mx)
def JG:FM:=vf 3 5 EK
def z6u(x0 x1 x2:M):JG ϒ=wf 3 5 EK ϒ:=rfl
def sK:FE:=Œk
def CN:yY:=
 (yW (j8 0 [] [ō] ū (gQ (eL tO Ϭa)))
  (yW (j8 0 [] [ō] Âb (gQ (γc (wd 1 (u9 Ôg) źc yl sK))))
  (j8 0 [] [ō] áa (gQ (eL MM Ţb)))))
def UR:FM:=vf 3 3 CN
def z5f(x0 x1 x2:M):UR ϒ=wf 3 3 CN ϒ:=rfl
def Ch:yY:=
 (ς (xq ϯc))
def J0:FM:=vf 2 2 Ch
def z5w(x0 x1:M):J0 Ā=wf 2 2 Ch Ā:=rfl
def Ce:yY:=
 (kU 0 ąh ϩb (jc (zX Y6 (zA Ťe (zA đe (zA đe (Α ϯc)))))))
def Qy:FM:=vf 2 2 Ce
def z5t(x0 x1:M):Qy Ā=wf 2 2 Ce Ā:=rfl
def Cd:yY:=
 (ς (jc Ņg))
def Qx:FM:=vf 2 2 Cd
def z5s(x0 x1:M):Qx Ā=wf 2 2 Cd Ā:=rfl
def V7:FS:=
 (zb (xU (Λb (eC Óc))
   (yL (zX US (ζ (Ω (Τ (.bl Å))))))
   wX)
  (zb (xU (Λb (eC Ðc))
   (yL (zX US ϋl))
   wX)
  (yL (zX Ue (ζ (Ω (Α (T3 Ħ (e2 zr û (eC Ïc))))))))))
def Wo:Á D->Ê ç:=FR 4 4 V7
def Jw(x0 x1 x2 x3:D):Wo Îc=yK 4 V7 Îc:=rfl
def EB:yY:=
 (yW (Γb Øe (e2 zr Ď ĝ))
  (Γb Öe (e2 zr (zX vG (ζ (zA (e2 kL Ōf Ő) Ģf))) Ő)))
def Wn:FM:=vf 2 2 EB
def z6m(x0 x1:M):Wn Ā=wf 2 2 EB Ā:=rfl
def Lq:yY:=
 (yW (vk 2 (jc (zX Wo (εe (zA Ņg (Α (e2 zP (Υ (xh Ūo Âb)) ϐi)))))))
  (yW (Γb åd Ńm)
  (yW (Ιc (p7 æf vQ))
  (qE (Φ (e2 wO ěb ϑi))
   (ς (xq æf))
   qF))))
def k7:FM:=vf 2 3 Lq
def fK(x0 x1:M):k7 Ā=wf 2 3 Lq Ā:=rfl
def Cv:FS:=
 (zb (xU (Λb (eC ñd))
   (Οc ώi)
   wX)
  (zb (xU (tE (e2 zr û (eC þd)))
   (Οc (gT ļc))
   wX)
  (Οc (gT Ħh))))
def UY:Á D->Ê ç:=FR 3 3 Cv
def z69(x0 x1 x2:D):UY ϒ=yK 3 Cv ϒ:=rfl
def Cc:yY:=
 (yW (vk 2 (jc (zX UY (εe (Α (e2 zP (Υ ìl) ϯc))))))
  (yW (Ιc (p7 ĩ vQ))
  (ς (xq ĩ))))
def XD:FM:=vf 2 3 Cc
def z5r(x0 x1:M):XD Ā=wf 2 3 Cc Ā:=rfl
def Lo:yY:=
 (yW (vk 2 (jc Ťe))
  (yW (vk 3 (xq (ue (tE (Ρb (.str Ŀa))) (zX XI Īm) (zX XJ Īm))))
  (yW (qE (Φ (e2 T7 åf ïa))
   (Γb åd åf)
   qF)
  (yW (Ιc (p7 łm vQ))
  (ς (xq łm))))))
def XE:FM:=vf 2 4 Lo
def fJ(x0 x1:M):XE Ā=wf 2 4 Lo Ā:=rfl
def CQ:FS:=
 (yL (zX UT (zA Ņg (Α (e2 zP Ď ϸa)))))
def XC:Á D->Ê ç:=FR 2 2 CQ
def z5i(x0 x1:D):XC Ā=yK 2 CQ Ā:=rfl
def Cf:yY:=
 (ς (jc (zX UU ϫj)))
def Qz:FM:=vf 2 2 Cf
def z5u(x0 x1:M):Qz Ā=wf 2 2 Cf Ā:=rfl
def Cg:yY:=
 (ς (jc (zX JH ϫj)))
def Q_:FM:=vf 2 2 Cg
def z5v(x0 x1:M):Q_ Ā=wf 2 2 Cg Ā:=rfl
def Ci:yY:=
 (pF (p8 Ud Ök))
def J1:FM:=vf 2 2 Ci
def z5x(x0 x1:M):J1 Ā=wf 2 2 Ci Ā:=rfl
def Cj:yY:=
 (pF (p8 JG Ök))
def J2:FM:=vf 2 2 Cj
def z5y(x0 x1:M):J2 Ā=wf 2 2 Cj Ā:=rfl
nonrec def pA:Á ğ:=ĉb .inr [ϡa,ϗa,Đb,ńa,Õb,Ûb,Ôb,Ĥa,ßb,åb,Üb,Ŀa,ϔa,ũa,ļa,Ļa,ĺa]
nonrec def dt:Á Ç:=[ŷf,Őf,őf,ìc,ìc,ìc,ìc,ìc,Ćd,Ćd,Ćd,Ûe,Ûe,ŏf,Ĵf,ĳf,Ĕf]
def T0:Á FM:=[J0,Qy,Qx,k7,k7,k7,k7,k7,XD,XD,XD,XE,XE,Qz,Q_,J1,J2]
def Jc:yY:=
 (qE (Φ (e1 (Xd pA) ěb))
   (pF (Em pA T0 ěb (qB 0 [] (p7 Ď vQ))))
   qF)
def jR:FM:=vf 2 2 Jc
def Gi(x0 x1:M):jR Ā=wf 2 2 Jc Ā:=rfl
def z21:FS:=
 (zb (xU (tE (Ρb Ňf))
   (yL Ħk)
   wX)
  (zb (xU (tE (Ρb āi))
   (yL (G9 Ħk))
   wX)
  (yL (Ρb ňf))))
def jU:Á D->Ê ç:=FR 2 2 z21
def CK:FS:=
 (yL (MH (e2 zr Şg (Υ (xh ĳ Ùb))) (e2 zr (e2 zP Ņk ĝ) (wN (Τ ņf)))))
def vO:Á D->Ê ç:=FR 1 1 CK
def z5c(x0:D):vO ô=yK 1 CK ô:=rfl
def Ln:yY:=
 (yW (qE (qr (tE śj))
   Äf
   qF)
  (yW (vk 1 (jc Ņk))
  (yW (pF (p8 jR (qB 0 Ÿd (p7 ěb vQ))))
  (yW (ζe (jc (ue (tE (zX jU (zA Âf (Α ěb)))) ϯc ϩb)))
  (yW (KY 0 [] ĳ ŋb Ő)
  (tP (xq (eC ň))))))))
def tu:FM:=vf 1 2 Ln
def fH(x0:M):tu ô=wf 1 2 Ln ô:=rfl
abbrev gK:Á ğ:=[.inr ða,.inr ĵa,.inr ŧa]
nonrec def WF(a b c:Ñ):D:=.dic gK ĩc
def st(ws:Á D)(a b c:Ñ)(hk:Á ğ)(hv:Á D):M:=.obj ō ōh [.own õe,.own Ąd,.own ěa]
def wM(ws:Á D)(a b c:Ñ)(hk:Á ğ)(hv:Á D):D:=.obj ō ōh [.lst ws,WF a b c,.dic hk hv]
abbrev kB:Á Ç:=[ϱ,Ùb,ŝb,Ác,Ĵa,Ċc,ŋb]
inductive vo:Ç->È
 |row:vo Ğ
 |word:vo Ĩ
nonrec def wA(C:Ç)(T:D)(e:Æ)(fw fh:D)(s:M)(due done:Æ):M:=.obj C kB [.fz T,.fz Ϩf,.fz fw,.fz fh,s,.fz Úe,.fz Âi]
nonrec def xM(C:Ç)(T:D)(e:Æ)(fw fh:D)(s:D)(due done:Æ):D:=.obj C kB [T,.int e,fw,fh,s,.int due,.int done]
section
variable{C:Ç}{ws ws':Á D}{a b c d':Ñ}{hk hk':Á ğ}{hv hv':Á D}{T fw fh sd:D}{e due done:Æ}{s s':M}
def tD:vV Ϻb=wM ws a b c hk hv:=by simp only[st,wM,vV,ϊc]
theorem B_:vV ŗd=xM C T e fw fh (vV s) due done:=by simp only[wA,xM,vV,ϊc]
theorem V5{i:Â}{π:Á xZ}:p_ Ϻb i π=.p i π:=rfl
def kI:uQ Ϻb ąh=À (.own õe):=rfl
def Jb:uQ Ϻb Ĩm=À (.own (.dic gK ĩc)):=rfl
def cv:uQ Ϻb Įc=À (.own ěa):=rfl
def kj:ug Ϻb ąh (.own (.lst ws'))=À (st ws' a b c hk hv):=rfl
def mN:ug Ϻb Įc (.own (.dic hk' hv'))=À (st ws a b c hk' hv'):=rfl
def Ir{x y z:Ñ}:ug Ϻb Ĩm (.own (.dic gK [.bl x,.bl y,.bl z]))=À (st ws x y z hk hv):=rfl
def jg:xh [ō] ū ϵg=À õe:=rfl
def GR:xh [ō] Âb ϵg=À Ąd:=rfl
def GQ:xh [ō] áa ϵg=À ěa:=rfl
def SM:zP Ąd åd=À (.bl a):=rfl
def x6k:zP Ąd Øe=À ϗb:=rfl
def x6l:zP Ąd Öe=À (.bl c):=rfl
def BF:wQ gK ĳo=gK:=rfl
def y7d:wQ gK Ĳo=gK:=rfl
def y7e:wQ gK ıo=gK:=rfl
def BK:wB gK ϣg ĳo Ϡi=[.bl d',.bl b,.bl c]:=rfl
def y80:wB gK ϣg Ĳo Ϡi=[.bl a,.bl d',.bl c]:=rfl
def y81:wB gK ϣg ıo Ϡi=[.bl a,.bl b,.bl d']:=rfl
def cx(a:vo C):uQ ŗd Ÿd=À s:=by rw[Ěp]
def mO(a:vo C):ug ŗd Ÿd s'=À (wA C T e fw fh s' due done):=by rw[Ěp]
def GS(a:vo C):xh ĳ ϱ Ŝd=À T:=by rw[Ěp]
def eN(a:vo C):xh ĳ Ùb Ŝd=À Ϩf:=by rw[Ěp]
def Js(a:vo C):xh ĳ Ĵa Ŝd=À sd:=by rw[Ěp]
def Jr(a:vo C):xh ĳ Ċc Ŝd=À Úe:=by rw[Ěp]
def z4k(a:vo C):xh ĳ ŋb Ŝd=À Âi:=by rw[Ěp]
def eR(b:vo C){a:Æ}{zt:zl}:pL (.fz ĥd) ϐo 0 [] ĳ Ċc=À (Ο (wA C T e fw fh s a done)):=by cases b<;>rfl
def cy(a:vo C){zt:zl}:KY 0 [] ĳ ŋb Ő ϐo=À (Ο (wA C T e fw fh s due (done+1))):=by rw[Ěp]
def eD(c:vo C){m:Ç}{F:Á D->Ê ç}{τ:yC}{r:D}(b:m ∉ kB)(h:F Řb=À (Å,r)):uR öo õo Ęc=À r:=by
 let a:∀x:Ç,zX F čh Ęc=match decide Ϡb with|Ã=>À r|Å=>Ä:=λx=>by
  rw[Ģp];cases decide Ϡb with
  |Å=>rfl|Ã=>exact(òj).bind _=_;rw[h];rfl
 unfold uR;rw[a,a];cases c with
 |row=>rfl|word=>rfl
#print a
nonrec def wI(ns:Á Æ):Á D:=Œa ĉ
def Z4{ns:Á Æ}{k:Â}{v:Æ}:(ĵd).set k šc=wI (ns.set k v):=(List.map_set ..).symm
def qu{ns:Á Æ}:(ĵd).length=ϰ:=æ ..
def gY{n k:Â}(h:k<n):ńe n (k:Æ)=À k:=by unfold ńe;rw[Ò ĭe];simp[h]
theorem qe{ns:Á Æ}{k:Â}{v:Æ}(h:ns[k]?=À v):zP (Β ĵd) ðf=À šc:=by exact uP ĵd (k:Æ)=_;unfold uP;rw[Ò ĭe];exact ĵd[((k:Æ)).toNat]?=_;rw[ŋ];unfold wI;rw[ũ,h];rfl
def OL{C:Ç}(a:vo C){T fw fh sd row nx tg:D}{e due done:Æ}{k:Ñ}(h:due≠e->zP T Úe=À Çh/\zr row æa=À ĵe) :vO Řb=À (Å,.bl (decide (due=e)||k))\/due=e/\vO Řb=À (Å,.bl Ã):=by
 let d:∀{i j:Æ},zr òa ùc=À ϗn:=λ{i j}=>by rw[Ŧp]
 let g:∀{x y z:D},zP Ĺc ľ=À x:=rfl;rw[z5c];unfold CK;by_cases c:due=e;right
 show{c,?_};simp only[Ù,Jr a,eN a,d,c,ìa];left
 let{f,l}:=h c;let b:decide (due=e)=Å:=ē c;rw[b];simp only[Ù,Jr a,eN a,GS a,d,b,f,g,l];rfl
def oj{C:Ç}(a:vo C){T fw fh row tg:D}{e due done:Æ}{s s':M}{nx:D}{f:Æ}(c:due≠e)(g:zP T Úe=À Çh)(v:zr row æa=À ă)(q:wJ Çh=Ã)(ns:∀d,s≠.fz d)(i:jR [s,.fz row]=À ([s',.fz row],.fz .zC))(ld:Ñ)(t:jU [vV s',row]=À (Å,.bl ld))(n:(if ld then tg else nx)=.int f) :tu Ťg=À ([wA C T e fw fh s' f (done+1)],.fz ň):=by
 let u:vO Ĝk=À (Å,.bl Å):=by rcases OL a (T:=T) (fw:=fw) (fh:=fh) (sd:=vV s) (row:=row) (nx:=nx) (tg:=tg) (e:=e) (due:=due) (done:=done) (k:=Å) λ_=>{g,v}with z|⟨z,_⟩;rw[z,ē c];rfl;show Þ z c
 let j:∀{x y z:D},zP Ĺc ľ=À x:=rfl;let r:∀{x y z:D},zP Ĺc ÿa=À y:=rfl;let o:∀{x y z:D},zP Ĺc þb=À z:=rfl
 let l:p_ s 0 Ÿd=.p 0 Ÿd:=by
  cases s with
  |fz d=>show Þ rfl (ns d)|_=>rfl
 let h:=λτ:yC=>eD a (F:=vO) (m := řc) (τ:=τ) ŉ u
 rw[fH];unfold Ln;cases ld with
 |Å=>have b:nx=.int f:=n;subst b;simp only[Ē,B_,h,GS a,Jr a,g,q,j,r,o,cx a,mO a,l,i,Js a,t,eR a,cy a]|Ã=>have b:tg=.int f:=n;subst b;simp only[Ē,B_,h,GS a,Jr a,g,q,j,r,o,cx a,mO a,l,i,Js a,t,eR a,cy a]
theorem Z3{x y z:D}:zP Ĺc ľ=À x:=rfl
def Zo{x y z:D}:zP Ĺc ÿa=À y:=rfl
def Zp{x y z:D}:zP Ĺc þb=À z:=rfl
def V9{x y:D}:zP ðd ľ=À x:=rfl
def VA{x y:D}:zP ðd ÿa=À y:=rfl
def ōb{i j:Æ}:zr òa ùc=À ϗn:=by rw[Ŧp]
theorem VP{x:Ç}:uT Žb=À Ϫf:=rfl
def IZ:decide (3<yN)=Ã:=by decide
def Xm:zP (.tup (y::xs)) ľ=À y:=rfl
section
variable{Ws:Á Æ}{a b c:Ñ}{hk:Á ğ}{hv:Á D}
def z42{d:Â}{n:Æ}(e:d<ţa):J0 [st Ĉ a b c hk hv,.fz Øk]=À ([st (wI (łe d n)) a b c hk hv,.fz Øk],.fz .zC):=by rw[z5w];unfold Ch;simp only[Ē,Z3,Zo,Zp,kI,kj,qu,gY e,Z4]
theorem z3w{d s:Â}{v:Æ}(f:d<ţa)(e:Ws[s]?=À v):Qx [st Ĉ a b c hk hv,.fz ϛj]=À ([st (wI (łe d v)) a b c hk hv,.fz ϛj],.fz .zC):=by rw[z5s];unfold Cd;simp only[Ē,tD,jg,qe e,Z3,Zo,Zp,kI,kj,qu,gY f,Z4]
theorem VR{w:Æ}{g:Æ}(h:vG ğc=À (Å,.int g)):Wn [st Ĉ a b c hk hv,.fz ϧf]=À ([st Ĉ a (decide ŋd) (decide Ŏd) hk hv,.fz ϧf],.fz .zC):=by rw[z6m];unfold EB;simp only[Ē,tD,h,ōb,VP,Jb,Ir,IZ,y7d,y7e,y80,y81]
theorem z3x{d:Â}{n v w:Æ}(e:Ws[d]?=À v)(h:Y6 [.int v,.int 16,.int 16,.int n]=À (Å,.int w)):Qy [st Ĉ a b c hk hv,.fz òk]=À ([st ϋd a b c hk hv,.fz òk],.fz .zC):=by let f:d<ţa:=İe.1;rw[z5t];unfold Ce;simp only[Ē,tD,jg,qe e,h,Z3,Zo,Zp,kI,kj,qu,gY f,Z4]
theorem z45{k:Ç}{d s:Â}{x y w g:Æ}{u:Ñ}(e:wO ďa Èc=À ň)(f:Ws[d]?=À x)(j:Ws[s]?=À y)(h:Wo Šk=À (Å,.tup Ĩh))(i:vG ğc=À (Å,.int g)) :k7 ŝk=À ([st ϋd u (decide ŋd) (decide Ŏd) hk hv,.fz Þc],.fz .zC):=by let l:d<ţa:=Ĵd.1;rw[fK];unfold Lq;simp only[Ē,tD,jg,GR,SM,qe f,qe j,h,Z3,Zo,Zp,V9,VA,VP,Jb,Ir,IZ,BF,BK,VR i,V5,e,kI,kj,qu,gY l,Z4]
theorem Xb{k:Ç}{d s:D}{F:FM}{S a:M}(c:Xd pA ďa=À ň)(e:Ć pA T0 Ħd=À F)(f:∀d,S≠.fz d)(i:wJ d=Ã)(g:wJ s=Ã)(h:F ϒn=À (ϐn,.fz .zC)) :jR ϒn=À (ϐn,.fz .zC):=by
 rw[Gi];unfold Jc
 let b:p_ S 0 []=.p 0 []:=by
  cases S with
  |fz d=>show Þ rfl (f d)|_=>rfl
 simp only[Ē,Z3,c,VP,e,b,h]
theorem jG{ws:Á D}:∀d,st ws a b c hk hv≠.fz d:=λd h=>by cases h
#print a
section
variable{Ws:Á Æ}{a b c:Ñ}{hk:Á ğ}{hv:Á D}
def z3v{k:Ç}{d s:Â}{x y w g:Æ}(e:Ws[d]?=À x)(f:Ws[s]?=À y)(h:UY [.str k,.int x,.int y]=À (Å,.int w))(i:vG ğc=À (Å,.int g)) :XD ŝk=À ([st ϋd a (decide ŋd) (decide Ŏd) hk hv,.fz Þc],.fz .zC):=by let j:d<ţa:=İe.1;rw[z5r];unfold Cc;simp only[Ē,tD,jg,qe e,qe f,h,Z3,Zo,Zp,VR i,V5,kI,kj,qu,gY j,Z4]
theorem z40{k:Ç}{d:Â}{x n w g:Æ}(f:Ws[d]?=À x)(t:Ñ)(e:zr ďa Ċf=À Úg)(h:Ųj=À (Å,.tup [.int w,.zC]))(i:vG ğc=À (Å,.int g)) :XE Şk=À ([st ϋd a (decide ŋd) (decide Ŏd) hk hv,.fz ĩg],.fz .zC):=by
 rw[ϱp];cases t with
 |Å=>rw[Ó Í]at h;simp only[Ē,tD,jg,qe f,e,h,Z3,Zo,Zp,V9,VA,VR i,V5,kI,kj,qu,gY j,Z4]|Ã=>rw[Ò rfl]at h;simp only[Ē,tD,jg,qe f,e,h,Z3,Zo,Zp,V9,VA,VR i,V5,kI,kj,qu,gY j,Z4]
theorem z41{k:Ç}{d:Â}{x n w g:Æ}{u:Ñ}(f:Ws[d]?=À x)(t:Ñ)(e:zr ďa Ċf=À Úg)(h:Ųj=À (Å,.tup Ĩh))(i:vG ğc=À (Å,.int g)) :XE Şk=À ([st ϋd u (decide ŋd) (decide Ŏd) hk hv,.fz ĩg],.fz .zC):=by
 rw[ϱp];cases t with
 |Å=>rw[Ó Í]at h;simp only[Ē,tD,jg,qe f,e,h,Z3,Zo,Zp,V9,VA,VP,Jb,Ir,IZ,BF,BK,VR i,V5,kI,kj,qu,gY j,Z4]|Ã=>rw[Ò rfl]at h;simp only[Ē,tD,jg,qe f,e,h,Z3,Zo,Zp,V9,VA,VP,Jb,Ir,IZ,BF,BK,VR i,V5,kI,kj,qu,gY j,Z4]
#print a
inductive pp:D->È
 |Ŵ:pp æa
 |Wc {w:Ç} {d n:Æ} (hw:w = ϡa \/ w = ϗa) (d0:0<=d) (d1:d<8) (n0:0<=n) (n1:n<65536):pp ûi
 |two {w:Ç} {d s:Æ} (hw:w = Đb \/ w = ńa \/ w = Õb \/ w = Ûb \/ w = Ôb \/ w = ßb \/ w = åb \/ w = Üb \/ w = Ĥa) (d0:0<=d) (d1:d<8) (s0:0<=s) (s1:s<8):pp Ĥo
 |Wf {w:Ç} {d n:Æ} (hw:w = Ŀa \/ w = ϔa) (d0:0<=d) (d1:d<8) (n0:0<=n) (n1:n<32):pp ûi
 |mem {w:Ç} {d s n:Æ} (hw:w = ũa \/ w = Ļa \/ w = ļa \/ w = ĺa) (d0:0<=d) (d1:d<8) (s0:0<=s) (s1:s<8) (n0:0<=n) (n1:n<256):pp ĥo
inductive Ui(m:Æ):D->È
 |u7 {p:Æ} (p0:0<=p) (p1:p<=m):Ui m ϻk
 |Ŭa {w k:Ç} {p:Æ} (hw:w = ϩ \/ w = Åa) (hk:k = ða \/ k = ĵa \/ k = ŧa) (p0:0<=p) (p1:p<=m):Ui m ϟc
def kE(m:Æ)(d:D):È:=pp d\/Ui m d
nonrec def wP:D->Ñ
 |.tup Ài=>w == ϧ || w == ϩ || w == Åa|_=>Å
def Xq:D->D
 |.tup xs=>(uP xs (-1)).getD .zC|_=>.zC
nonrec def hX:D:=.tup şk
theorem Td{d:D}(h:pp d):∃w,zP d ľ=À ϲ/\tN ϲ hX=À ă/\zr ϲ âd=À ă/\wP d=Å/\wt 5 d=Ã:=by
 cases h with
 |Ŵ=>show{_,rfl,rfl,rfl,rfl,rfl}|Wc hw=>rcases hw with rfl|rfl<;>show{_,rfl,rfl,rfl,rfl,rfl}
 |two hw=>rcases hw with rfl|rfl|rfl|rfl|rfl|rfl|rfl|rfl|rfl<;>show{_,rfl,rfl,rfl,rfl,rfl}
 |Wf hw=>rcases hw with rfl|rfl<;>show{_,rfl,rfl,rfl,rfl,rfl}
 |mem hw=>rcases hw with rfl|rfl|rfl|rfl<;>show{_,rfl,rfl,rfl,rfl,rfl}
def Mr{m:Æ}{d:D}(h:Ui m d):∃(w:Ç) (p:Æ),zP d ľ=À ϲ/\tN ϲ hX=À ň/\zr ϲ âd=À ă/\wP d=Ã/\wt 5 d=Ã/\zP d Ñe=À (.int p)/\Xq d=.int p/\0<=p/\p<=m:=by
 cases h with
 |u7 p0 p1=>show{_,_,rfl,rfl,rfl,rfl,rfl,rfl,rfl,p0,p1}|Ŭa hw hk p0 p1=>rcases hw with rfl|rfl<;>rcases hk with rfl|rfl|rfl<;>show{_,_,rfl,rfl,rfl,rfl,rfl,rfl,rfl,p0,p1}
nonrec def xP:D->Ñ
 |.tup Ài=>w == ϭf|_=>Å
nonrec def kS(t:Ç):D:=.tup [.str ϭf,.str t]
theorem Nh{m:Æ}{d:D}(h:kE m d):∃w,zP d ľ=À ϲ/\zr ϲ âd=À ă/\xP d=Å/\wt 5 d=Ã:=by
 rcases h with h|h;cases h with
 |Ŵ=>show{_,rfl,rfl,rfl,rfl}|Wc hw=>rcases hw with rfl|rfl<;>show{_,rfl,rfl,rfl,rfl}
 |two hw=>rcases hw with rfl|rfl|rfl|rfl|rfl|rfl|rfl|rfl|rfl<;>show{_,rfl,rfl,rfl,rfl}
 |Wf hw=>rcases hw with rfl|rfl<;>show{_,rfl,rfl,rfl,rfl}
 |mem hw=>rcases hw with rfl|rfl|rfl|rfl<;>show{_,rfl,rfl,rfl,rfl}
 cases h with
 |u7=>show{_,rfl,rfl,rfl,rfl}|Ŭa hw hk=>rcases hw with rfl|rfl<;>rcases hk with rfl|rfl|rfl<;>show{_,rfl,rfl,rfl,rfl}
nonrec def y0k(t:Ç):D->Ñ
 |.tup [_,.str u]=>u==t|_=>Å
def Iq(t:Ç)(s:Â×Ê Â)(d:D):Â×Ê Â:=match xP d with
 |Ã=>(s.1,match y0k t d with
  |Ã=>À s.1|Å=>s.2)
 |Å=>(s.1+1,s.2)
def vm(t:Ç)(L:Á D):Â×Ê Â:=L.foldl (Iq t) (0,Ä)
def lz(t:Ç)(L:Á D)(d:D):vm t (L++[d])=Iq t Żb d:=by unfold vm;rw[List.foldl_append];rfl
theorem lw(t:Ç):∀(L:Á D)(s:Â×Ê Â),(L.foldl (Iq t) s).1=s.1+(Ϡg).length
 | [],_=>rfl|d::L,s=>by
  rw[þh,lw t L];unfold Iq;cases h:xP d with
  |Ã=>rw[Ël ßh]|Å=>rw[Żg ϓc,Ě];exact s.1+1+_=_;omega
def lr(t u:Ç)(L:Á D):(vm t (L++[kS u])).2=if u=t then À (Ϡg).length else Żb.2:=by rw[lz];let h:=lw t L (0,Ä);exact(match(u==t)with|Ã=>À Żb.1|Å=>Żb.2)=_;by_cases e:u=t;rw[Ò e,ķc e];exact À Żb.1=_;rw[show Żb.1=_ from h,Ů];rw[Ó e,ϯb e]
theorem ly{t:Ç}{L:Á D}{d:D}(h:xP d=Å):(vm t (L++[d])).2=Żb.2:=by rw[lz];unfold Iq;rw[h]
theorem Lh{L:Á D}{r:D}(h:ča<=1000):ZQ Ŏc r=À (Β (L++[r])):=by exact(if ča<yN then _ else _)=_;rw[Ò (by rw[ûp])]
inductive vg:D->È
 |œe (t:Ç):vg (kS t)
 |Ňa {d:D}:pp d->vg d
 |u7 (t:Ç):vg ϙe
 |Ŭa {w k:Ç} (t:Ç) (hw:w = ϩ \/ w = Åa) (hk:k = ða \/ k = ĵa \/ k = ŧa):vg Ϙc
def z83{d:D}(h:vg d):∃w,zP d ľ=À ϲ/\zr ϲ âd=À (.bl (xP d))/\wt 5 d=Ã:=by
 cases h with
 |œe=>show{_,rfl,rfl,rfl}|Ňa h=>let{w,a,b,c,e}:=Nh (m:=0) Ęe;show{w,a,by rw[c];show b,e}
 |u7=>show{_,rfl,rfl,rfl}|Ŭa t hw hk=>rcases hw with rfl|rfl<;>rcases hk with rfl|rfl|rfl<;>show{_,rfl,rfl,rfl}
def z16(x y:D):È:=(wP x=Å->y=x)/\(wP x=Ã->∃(h:Á D) (a:D) (t:Ç),x=.tup (h++[a])/\y=.tup (h++[.str t]))
def kA(L:Á D)(x y:D):È:=vg y/\xP y=xP x/\z16 x y/\wP y=wP x/\(wP x=Ã->∃(t:Ç) (p:Â),zP y Ñe=À ϣf/\Żb.2=À p/\Xq x=.int (p:Æ))
theorem T4{R:D->D->È}:∀{xs ys:Á D},uZ R xs ys->ä=ţ
 |_,_,.nil=>rfl|_,_,.cons _ r=>by rw[Ě,Ě,T4 r]
theorem eA{R:D->D->È}:∀{xs ys:Á D},uZ R xs ys->∀y∈ys,∃x∈xs,R x y
 |_,_,.nil,_,h=>by cases h|x::xs,y::ys,.cons r rs,z,hz=>by rcases Ň hz with rfl|hz;show{x,Ł ..,r};let{w,a,h}:=eA rs z hz;show{w,Üa _ a,h}
theorem d_{R a:D->D->È}(h:∀x y,R x y->a x y):∀{xs ys:Á D},uZ R xs ys->uZ a xs ys
 |_,_,.nil=>.nil|_,_,.cons r rs=>.cons (h _ _ r) (d_ h rs)
theorem MI{R:D->D->È}:∀{xs ys:Á D},uZ R xs ys->∀{i:Â}{x:D},xs[i]?=À x->∃y,ys[i]?=À y/\R x y
 |_,_,.nil,_,_,h=>by cases h|_,_,.cons r _,0,_,h=>by cases h;show{_,rfl,r}|_,_,.cons _ rs,i+1,_,h=>MI rs ϲa
def E7:FS:=
 (zb (Ν (e2 xQ (e2 Jo (e2 yk û (e2 pB (eC (.int 7919)) Ď)) (eC (.int 48271))) (eC (.int 2147483647))))
  (yL (e2 xQ (e2 yk (e2 yk (e2 GK ĩ ĩ) (e2 pB Ϗi ĩ)) Ď) (eC (.int 2147483629)))))
def uc:Á D->Ê ç:=FR 2 3 E7
def z6i(x0 x1:D):uc Ā=yK 3 E7 Ā:=rfl
def E9:FS:=
 (zb (Ν (ςc (Ξ Ņm)))
  (zb (yR 3 (Ξ (e2 yk Ņm Ő)))
  (zb (yR 4 (w8 (ξ (zA (eC (.int 4294967295)) (zA (eC (.int 2147483648)) (zA Ő (zA (Μb Ęf) (Α (e2 yk (eC (.int 65530)) (Μb ŵf))))))))))
  (yL (e2 zP (e2 yk ύ (Ψ (ξc (e2 Jo Ħ Ϗi)) (Α (ξc (e2 Jo Ħ ϲc))))) ĩ)))))
def JD:Á D->Ê ç:=FR 2 5 E9
def z6k(x0 x1:D):JD Ā=yK 5 E9 Ā:=rfl
def So:FE:=(zX JD Äc)
def EA:FS:=
 (ql (wd 1 (t5 ĝ ŀc) Ħa yl So))
def JE:Á D->Ê ç:=FR 1 1 EA
def z6l(x0:D):JE ô=yK 1 EA ô:=rfl
def qf(c k:Æ):∃v:Æ,uc ăh=À (Å,.int v)/\0<=v/\v<2147483629:=by
 let g:=ϸc ϭl (show(2147483647:Æ)≠0 by decide);let f:=ϧc ϭl (show(0:Æ)<2147483647 by decide);let d:j7 7919=Ã/\j7 48271=Ã/\j7 7=Ã:={by decide,by decide,by decide}
 let b:tL śd<=40:=by
  let e:(2:Â) ^ 40=1099511627776:=by decide
  show z27 É
 let a:decide (tL śd+tL śd<=134217728)=Ã:=õ É;show{((c+7919*k)*48271%2147483647*śd+7*śd+k)%2147483629,?_,ϸc _ Í,ϧc _ Í};rw[z6i];unfold E7;simp only[Ù,d,Èa,GK,a,ìa]
theorem Xn{l:Á D}{P:D->È}(c:Æ){n:Æ}(h:(Ľb:Æ)=n)(e:0<n)(a:∀r∈l,P r):∃r,zP (.lst l) (Δ (c%n))=À r/\P r:=by
 let d:=ϸc c (show n≠0 by omega);let f:=ϧc c e;let b:(c%n).toNat<Ľb:=by omega
 show{l[(c%n).toNat],Ja d (ė b),a _ (ñb b)}
def xg{P:D->È}{x:D}{l:Á D}(h:P x)(t:∀r∈l,P r):∀r∈x::l,P r:=λr m=>by rcases Ň m with rfl|m;show h;show t r m
def XX{P:D->È}:∀r∈([]:Á D),P r:=λ_ m=>Þ m Ăa
def w0h(c k:Æ):∃w:Æ,JD ăh=À (Å,.int w)/\0<=w/\w<4294967296:=by let{v,e1,i,m}:=qf c (2*k);let{u,e2,h,j}:=qf c (2*k+1);let g:j7 2=Ã/\j7 7=Ã/\j7 5=Ã:={by decide,by decide,by decide};let{_,e,w,rfl,f,b}:=Xn (P:=λd=>∃w:Æ,d=.int w/\0<=w/\w<4294967296) v (n:=8) (l:=Ļj) rfl Í (xg {_,rfl,by omega,by omega} (xg {_,rfl,by omega,by omega} (xg {_,rfl,by omega,by omega} (xg {_,rfl,by omega,by omega} (xg {_,rfl,by omega,by omega} (xg {_,rfl,by omega,by omega} (xg {_,rfl,by omega,by omega} (xg {_,rfl,by omega,by omega} XX))))))));show{w,?_,f,b};let a:yk (.lst [.int 0,.int 4294967295,.int 2147483648,.int 1,.int (u%7),.int (65530+u%12)]) (.lst [.int (u*7%4294967296),.int (u*5%4294967296)])=À (.lst Ļj):=rfl;rw[z6k];unfold E9;simp only[Ù,g,Èa,e1,e2,a,e,ìa]
theorem KP{g:FG}{e:FE}{σ:yC}(P:Æ->È):∀{ds:Á D},(∀d∈ds,∃σ1 v,g d σ=À σ1/\e σ1=À šc/\P v)->∃vs:Á Æ,yh g yl e σ ds=À (wI vs)/\ö=ÿ/\∀v∈vs,P v
 | [],_=>{[],rfl,rfl,λ_ h=>Þ h è}|d::ds,h=>by
  let{σ1,v,e1,e2,p}:=h d õc;let{vs,c,l,q}:=KP P λb f=>h b Ϣo
  show⟨v::vs,?_,by rw[Ě,Ě,l],λx a=>?_⟩;simp only[yh,e1,yl,ϵa,e2,c];rfl;rcases Ň a with rfl|a;show p;show q x a
def w0i(c:Æ):∃Ws:Á Æ,JE Ŀb=À (Ã,.lst Ĉ)/\ţa=8/\∀w∈Ws,0<=w/\w<4294967296:=by
 let i:t5 ĝ ŀc [À (Å,.int c)]=À (wC 8):=kq (n:=8) rfl Í
 let{f,e,l,p}:=KP (g:=yD 1) (e:=So) (σ:=[À (Å,.int c),Ä]) (λw=>0<=w/\w<4294967296) (ds:=wC 8) λd b=>by let{k,_,rfl}:=œ b;let{w,j,a,h}:=w0h c k;show{_,w,rfl,?_,a,h};unfold So;simp only[Ù,j]
 show{f,?_,l,p};rw[z6l];unfold EA;simp only[Ù,i,e]
nonrec def pD(p:Æ×Æ):D:=.tup [.int p.1,.int p.2]
structure vh(ps:Á ā):È where
 ad:∀p∈ps,0<=p.1/\p.1<65536
 pY:∀p∈ps,0<=p.2/\p.2<256
 nd:(ϝ (·.1)).Nodup
def Nc:FA:=(t5 ĝ (e2 xQ (Ξ ϓm) Ϗi))
def sN:FE:=Łm
def Mv:FS:=(zb (yR 3 (Ξ (Ξb (.int 50))))
    (zb (yR 4 (Κc Żo (zA (e2 yk (eC (.int 65527)) Żo) (Α (Μb ŕn))) (Ξ (Ξb (.int 60)))))
    (xU (Bv (tE (e2 YI ύ (wd 1 Ži ła yl sN))))
     (Yj 1 ZQ (wN (zA ύ (Α (Κc (e2 xQ (Οe (Ξb (.int 70))) ŀm) (ξ (Ρ (eC (.int 255)))) (Οe (Ξb (.int 80))))))))
     wX)))
def E8:FS:=
 (zb (pO 1 ûc)
  (zb (pN Nc ćc
   Mv)
  ōe))
def JC:Á D->Ê ç:=FR 1 5 E8
def z6j(x0:D):JC ô=yK 5 E8 ô:=rfl
def z7t(x:Æ):∀(ys:Á Æ),T6 Ža (Β Þj)=À (decide (x∈ys)):=λys=>by
 let f:(xO Ža&&(Þj).all xO)=Ã:=by rw[Č];show{rfl,Ěb λd c=>?_};let{y,_,rfl}:=œ c;rfl
 exact(match xO Ža&&(Þj).all xO with|Ã=>À Źk|Å=>Ä)=_;rw[f];exact À Źk=_
 congr 1
 unfold wI;rw[ćf,Éc];rw[Àf,Ùf]
 rw[ſp];rintro⟨y,b,e⟩;let a:(y==x)=Ã:=e;rw[ßo]at a;show a▸b;intro h;show{x,h,(Åc x:(x==x)=Ã)}
def y66(c:Æ):∃ps,JC Ŀb=À (Ã,.lst ąa)/\vh ps/\č<=6:=by
 let{n,U,X,Y}:=qf c 40
 let R:Nc ϓj=À Þf:=by unfold Nc;show kq (n:=n%7) ?_ É;simp only[Ù,U,ìa]
 let{σ',e1,ps,u,r,s,l,P,rfl}:=kT (g:=yD 2) (b:=Mv) (λi σ=>∃(ps:Á ā) (u r s:Ê Sl),č<=i/\vh ps/\σ=[À (Å,.int c),À (Ã,.lst ąa),u,r,s])
  (ds:=wC (n%7).toNat) (σ:=ϓj) 0 {[],Ä,Ä,Ä,Òa _,{λ_ h=>Þ h è,λ_ h=>Þ h è,Ϥd},rfl} λi d σ j e=>by
   let{ps,u,r,s,l,P,rfl}:=e;rw[Ů]at l ⊢;let{k,_,rfl}:=œ (ϴb j);let{v,B,W,Z}:=qf c (50+k);let{q,C,_,_}:=qf c (60+k);let{N,G,_,_}:=qf c (70+k);let{m,H,_,_}:=qf c (80+k)
   obtain⟨a,A,O,J⟩:∃a:Æ,zP (.lst [.int (v%9),.int (65527+v%9),.int (v%65536)]) (Δ (q%3))=À ĥd/\0<=a/\a<65536:=by rcases(show q%3=0\/q%3=1\/q%3=2 by omega)with h|h|h<;>rw[h]<;>show{_,rfl,by omega,by omega}
   obtain⟨f,I,b0,E⟩:∃f:Æ,zP (.lst [.int (N%256),.int 0,.int 255]) (Δ (m%3))=À (.int f)/\0<=f/\f<256:=by rcases(show m%3=0\/m%3=1\/m%3=2 by omega)with h|h|h<;>rw[h]<;>show{_,rfl,by omega,by omega}
   let t:yh ła yl sN [À (Å,.int c),À (Å,.lst ąa),À (Å,.int (k:Æ)),À (Å,.int v),À (Å,.int a),Ä] ąa=À ((ąa).map λd=>match d with|.tup [x,_]=>x|d=>d):=Za (λd=>match d with|.tup [x,_]=>x|d=>d) λd j=>by let{p,_,rfl}:=œ j;show{_,rfl,rfl}
   let w:((ąa).map λd=>match d with|.tup [x,_]=>x|d=>d)=wI (ϝ (·.1)):=by unfold wI;rw[Ĝa,Ĝa];rfl
   rw[w]at t;let o:=z7t a (ϝ (·.1));by_cases cc:a∈ϝ (·.1);show{_,[À (Å,.int c),À (Ã,.lst ąa),À (Å,.int (k:Æ)),À (Å,.int v),À (Å,.int a)],rfl,.inl ?_,ps,_,_,_,by omega,P,rfl};unfold Mv;rw[õ cc]at o;simp only[Ù,Èa,B,C,A,ìa,Bv,MQ,gU,t,YI,o];show{_,[À (Å,.int c),À (Ã,.lst ûl),À (Å,.int (k:Æ)),À (Å,.int v),À (Å,.int a)],rfl,.inl ?_,ps++[(a,f)],_,_,_,?_,?_,rfl};unfold Mv;rw[ē cc]at o
   let K:ZQ Ŭb (.tup ĥm)=À (Β ûl):=by
    exact(ςd (ąa) (śe (ϝ pD++[.tup ĥm])))=_;let L:i<(Þf).length:=(Š j).1;let T:(Þf).length=(n%7).toNat:=by simp[wC]
    rw[Ò Ćk,ûa];rfl
   simp only[Ù,Èa,B,C,A,ìa,Bv,MQ,gU,t,YI,o,G,H,I,K];rw[ê];exact č+1<=_;omega;show{λp e=>?_,λp e=>?_,?_};rcases Þa e with e|e;show P.ad p e;cases åa e;show{O,J};rcases Þa e with e|e;show ŭa p e;cases åa e;show{b0,E};rw[ûa,Íf];refine{P.nd,by simp,λx F y S=>?_};obtain rfl:a=y:=(åa S).symm;intro z;let Q:x=a:=z;show cc (Q▸F)
 show{ps,?_,P,?_};rw[z6j];unfold E8;simp only[Ù,R,e1];let:(Þf).length=(n%7).toNat:=by simp[wC]
 omega
def Ct:FS:=
 (zb (xU (WC (tE (VB .bool û)) (Γa (VB .int û)))
   án
   wX)
  (yL (T3 (e2 ſh ĝ û) (e2 Ňc û źk))))
def ZK:Á D->Ê ç:=FR 2 2 Ct
def z67(x0 x1:D):ZK Ā=yK 2 Ct Ā:=rfl
def Cp:FS:=
 (yL (zX ZK (Κ đe)))
def J5:Á D->Ê ç:=FR 1 1 Cp
def z63(x0:D):J5 ô=yK 1 Cp ô:=rfl
def Cu:FS:=
 (zb (xU (WC (Γa (VB .tuple û)) (tE (e2 wO Üc řb)))
   án
   wX)
  (yL (T3 (zX J5 Ϡo) (zX ZK (zA (e2 zP û Ő) ķi)))))
def J8:Á D->Ê ç:=FR 1 1 Cu
def z68(x0:D):J8 ô=yK 1 Cu ô:=rfl
def KF:FS:=(zb (xU (Γa (zX J8 Ţb))
     Āb
     wX)
    (zb (xU (tE (e2 tN æf (Ji 1)))
     Āb
     wX)
    (qH 1 æf Ńm)))
def CW:FS:=
 (zb òi
  (zb (xU (tE Ēh)
   ōe
   wX)
  (zb (xU ĩl
   Āb
   wX)
  (zb (pN Ϛf ćc
   KF)
  ōe))))
def Wk:Á D->Ê ç:=FR 1 3 CW
def z5n(x0:D):Wk ô=yK 3 CW ô:=rfl
def Sw:FE:=(zX ZK (ζ ſo))
def EZ:FS:=
 (zb (xU (tE Ēh)
   (ql (e2 MO (w8 ϸh) ŀc))
   wX)
  (zb (xU (WC ĩl (tE (e2 wO Üc ŀc)))
   Āb
   wX)
  (zb (xU (Γa (eL GF (Α (wd 1 Ϛf Ħa yl Sw))))
   Āb
   wX)
  (ql (eL tO ϩa)))))
def Wt:Á D->Ê ç:=FR 1 1 EZ
def z78(x0:D):Wt ô=yK 1 EZ ô:=rfl
def Ll:yY:=
 (yW (j8 0 [] ĳ Ĵa (En ō UR (qB 0 ϱg (qB 0 ϰg vQ))))
  (yW (ζe (xq ĝ))
  (j8 0 [] ĳ ŋb (xq ĝ))))
def uG:FM:=vf 1 1 Ll
def fG(x0:M):uG ô=wf 1 1 Ll ô:=rfl
def CF:yY:=
 (yW (j8 0 [] ĳ ϱ (xq Ď))
  (yW (j8 0 [] ĳ Ùb (xq ĩ))
  (yW (j8 0 [] ĳ ŝb (ξa (wV Wt äc)))
  (yW (j8 0 [] ĳ Ác (ξa (wV Wk ōc)))
  (pF (YE Òl Ól))))))
def Wj:FM:=vf 5 5 CF
def z57(x0 x1 x2 x3 x4:M):Wj øm=wf 5 5 CF øm:=rfl
theorem iJ{g:MG}{b:yY}(P:Â->zl->È):∀{ds:Á D}{β:zl}(n:Â),P n β->(∀i d β,ds[i]?=À d->P (n+i) β->∃β1 β2,g d β=À β1/\b β1=À Ŷb/\P (n+i+1) β2)->
  ∃β',ga g b ds β=À ųf/\P (n+ÿ) β'
 | [],β,n,h,_=>{β,rfl,h}|d::ds,β,n,h,Ēc=>by
  let{β1,β2,e1,e2,j}:=Ēc 0 d β rfl h
  let{β',k,s}:=iJ P (ds:=ds) (β:=β2) ı j λi c τ l o=>by let{a,p,r,e,q}:=Ēc ñ c τ Æh (by rw[show n+ñ=n+1+i by omega];show o);show{a,p,r,e,by rw[Êq];show q}
  show{β',?_,by rw[ϩp];show s};exact((g d β).bind λβ1=>(íj).bind λf=>match f with|.nx β2=>ga g b ds β2|.ct β2=>ga g b ds β2|.bk β2=>À Ŷb|.rt m β2=>À Ïo)=_;rw[e1];exact(íj).bind _=_;rw[e2];show k
def Hx{i:Æ}{w:Â}(d:w<=64):ZK [.int i,.int (w:Æ)]=À (Å,.bl (decide ĉc&&decide (i<2 ^ w))):=by
 let b:jx 1 (w:Æ)=Ã:=by unfold jx;rw[õ É,õ É];rfl
 let e:uy ÿa ϡm=À Ön:=by rw[ťp];rw[b];exact À Že=_;rw[ŋ,ņc]
 rw[z67];unfold Ct;by_cases c:0<=i;let a:decide ĉc=Ã:=õ c;rw[a];simp only[Ù,a,b,ŋ,ņc];let a:decide ĉc=Å:=ē c;rw[a];simp only[Ù,a,Ëc]
theorem w0j{Ws:Á Æ}(h:ţa=8)(n:∀w∈Ws,0<=w/\w<4294967296):Wt Ľf=À (Ã,.lst Ĉ):=by
 let e:yh Ħa yl Sw [À (Å,.lst Ĉ),Ä] Ĉ=À ((Ĉ).map λ_=>.bl Ã):=Za (λ_=>.bl Ã) λd k=>by
  let{w,c,rfl}:=œ k;rw[Ńp];let{a,b}:=n w c;let g:=Hx (i:=w) (w:=32) Í;let f:(2:Æ) ^ 32=4294967296:=by decide
  rw[f,õ a,õ b]at g;unfold Sw;simp only[Ù,show ZK [.int w,.int 32]=À (Å,.bl Ã)from g]
 let e2:(Ĉ).map (λ_=>Ϥb Ã)=(š 8 Ã).map Ϥb:=by unfold wI;rw[Ĝa,List.map_replicate,<-h,<-List.map_const'];rfl
 let m:GF [.lst [.bl Ã,.bl Ã,.bl Ã,.bl Ã,.bl Ã,.bl Ã,.bl Ã,.bl Ã]]=À ň:=rfl;rw[e2]at e;let j:tO Ľf=À ža:=rfl
 let l:wO (.int ((Ĉ).length:Æ)) ía=À ă:=by rw[qu,h];rfl
 rw[z78];unfold EZ;simp only[Ù,l,e,m,j]
nonrec def kP(ps:Á ā):Á ğ:=ϝ λp=>.inl p.1
nonrec def vP(ps:Á ā):Á D:=ϝ λp=>.int p.2
def Hs{ps:Á ā}{a:Æ}:yq Ĥ ąb=decide (a∈ϝ (·.1)):=by
 unfold yq kP;rw[ćf,Éc,Àf,Ùf]
 rw[ſp];rintro⟨p,b,e⟩;let c:=Ŋ e;show ϑd {p,b,Įb c};intro h;let{p,b,e}:=œ h;show{p,b,õ (Ÿ Ϩ e)}
def mM{ps:Á ā}{a b:Æ}(h:a ∉ ϝ (·.1)):wQ Ĥ ąb=kP çn/\wB Ĥ Ń ąb (.int b)=vP çn:=by
 let c:yq Ĥ ąb=Å:=by rw[Hs];show ē h
 rw[Éq];rw[Ó Ûm,Ó Ûm];unfold kP vP;rw[ûa,ûa];rw[Òq]
def y65{p:Æ×Æ}(b:0<=p.1/\p.1<65536)(a:0<=p.2/\p.2<256):J8 [pD p]=À (Å,.bl Ã):=by
 let d:=Hx (i:=p.1) (w:=16) Í;rw[õ b.1,õ (show p.1<2 ^ 16 from b.2)]at d;let c:=Hx (i:=p.2) (w:=8) Í;rw[õ a.1,õ (show p.2<2 ^ 8 from a.2)]at c;let e:ZK [.int p.1,.int 16]=À (Å,.bl Ã):=d;let f:ZK [.int p.2,.int 8]=À (Å,.bl Ã):=c
 let h:J5 [.int p.1]=À (Å,.bl Ã):=by rw[z63];unfold Cp;simp only[Ù,e]
 let g:wO (.int ((0+1+1:Â):Æ)) þb=À ă:=rfl;rw[z68];unfold Cu pD;simp only[Ù,V9,VA,h,f,g]
theorem z2l{ps:Á ā}(P:vh ps)(v:č<=1000):Wk [.lst ąa]=À (Ã,.dic Ĥ Ń):=by
 let{σ',e1,x,rfl}:=kT (g:=yD 2) (b:=KF) (λi σ=>∃x:Ê Sl,σ=[À (Å,.lst ąa),À (Ã,.dic ďe (vP Źd)),x])
  (ds:=ϝ pD) (σ:=[À (Å,.lst ąa),À (Ã,.dic [] []),Ä]) 0 {Ä,rfl} λi d σ f a=>by
   let{x,rfl}:=a;rw[Ů];let e:i<č:=by let:=Ĵd.1;rw[æ]at this;rw[ņp]
   rw[ũ,ė e]at f;cases f;generalize a:ps[i]=p;let l:p∈ps:=a▸ñb e;let t:=y65 (P.ad p l) (ŭa p l);let q:ėi ñ=ėi i++[p]:=by rw[Ϛc e,a]
   let c:p.1 ∉ (Źd).map (·.1):=by
    let j:=P.nd
    have e2:ϝ (·.1)=(Źd).map (·.1)++p.1::(ps.drop ñ).map (·.1):=by rw[<-a,<-ŭ,<-êb e,<-ûa,ĭa]
    rw[e2,Íf]at j;intro z;show j.2.2 _ z _ Ł rfl
   let h:tN Ùe (.dic ďe (vP Źd))=À ă:=by exact((uT Ùe).bind λk=>À (yq ďe k)).bind _=_;exact À (Ϥb (yq ďe ĵo))=_;rw[Hs,ē c]
   let{r,o}:=mM (b:=p.2) c;let s:(ďe).length<yN:=by unfold kP;rw[æ,Áa];rw[ûp]
   show{_,[À (Å,.lst ąa),À (Ã,.dic (kP ŭo) (vP ŭo)),À (Å,pD p)],rfl,.inl ?_,_,rfl};rw[q];unfold KF;let m:zP (pD p) ľ=À Ùe:=rfl;let u:zP (pD p) ÿa=À (.int p.2):=rfl;let n:uT Ùe=À ĵo:=rfl;rw[<-r,<-o];simp only[Ù,t,m,u,h,qH,n,Ò s]
 rw[Ů,æ,ıc]at e1;rw[z5n];unfold CW;simp only[Ù,e1]
nonrec def jH(n:Â):Á ğ:=(Āc).map λk:Â=>.inl (k:Æ)
theorem Ge{g:Â->D}{k:Â}:∀{xs:Á Â},k∈xs->Ć (Ōb λk:Â=>(.inl (k:Æ):Sum Æ Ç)) (Ōb g) Ϥm=À (g k)
 | [],h=>Þ h è|x::xs,h=>by rw[ŭ,ŭ];unfold Ć;by_cases c:x=k;rw[Ò Ėo,c];rw[Ó (λz=>c (by let:=Įb z;omega))];show Ge ýk
def rF{n:Â}:yq ûg ĺc=Å:=by unfold yq jH;rw[ćf,Ïh];intro k a;let:=ϳa a;exact ¬ decide ((.inl (k:Æ):Sum Æ Ç)=.inl (n:Æ))=Ã;rw[Àf];intro z;let:=Įb z;omega
def oh{Ws:Á Æ}{hk:Á ğ}{hv:Á D}:UR [.obj ō [] [],.fz ža,.fz ěa]=À ([st Ĉ Å Å Å hk hv,.fz ža,.fz ěa],.fz .zC):=by let e1:yh źc yl sK [Ä,À (Å,.lst Ĉ),À (Å,.dic hk hv),Ä] Xk=À őj:=rfl;let e2:Xc [.lst őj]=À (WF Å Å Å):=rfl;let c:tO Ľf=À ža:=rfl;let d:MM [.dic hk hv]=À ěa:=rfl;let a:∀{x:M}{zt:zl},pL x (Μ (.obj ō [] [])) 0 [] [ō] ū=À (Ο (.obj ō [ū] [x])):=rfl;let b:∀{x y:M}{zt:zl},pL x (Μ (.obj ō [ū] [y])) 0 [] [ō] Âb=À (Ο (.obj ō Ťo [y,x])):=rfl;let e:∀{x y z:M}{zt:zl},pL x (Μ (.obj ō Ťo [y,z])) 0 [] [ō] áa=À (Ο (.obj ō ōh [y,z,x])):=rfl;rw[z5f];unfold CN;simp only[Ē,kN,e1,e2,c,d,a,b,e];rfl
def z1j{C:Ç}(h:vo C){T fw fh:D}{e:Æ}{Ws:Á Æ}{hk:Á ğ}{hv:Á D}{fs:Á Ç}{ms:Á M}:uG [.obj C ŏd Ŝj]=À ([wA C T e ža ěa (st Ĉ Å Å Å hk hv) 0 0],.fz .zC):=by
 let l:uQ Ċm ϱg=À (.fz ža):=by rw[âq]
 let j:uQ Ċm ϰg=À ëp:=by rw[âq]
 let i:∀{a b c d x:M}{zt:zl},pL x Šg 0 [] ĳ Ĵa=À (Ο (.obj C Ĉl [a,b,c,d,x])):=by intros;rw[âq]
 let k:∀{a b c d f x:M}{zt:zl},pL x (Μ (.obj C Ĉl [a,b,c,d,f])) 0 [] ĳ Ċc=À (Ο (.obj C ůk [a,b,c,d,f,x])):=by intros;rw[âq]
 let m:∀{a b c d f g x:M}{zt:zl},pL x (Μ (.obj C ůk [a,b,c,d,f,g])) 0 [] ĳ ŋb=À (Ο (.obj C kB [a,b,c,d,f,g,x])):=by intros;rw[âq]
 rw[fG];unfold Ll;simp only[Ē,l,j,oh,i,k,m];rfl
def Cr:FS:=
 (yL (e2 zr ŧd (eC âd)))
def UX:Á D->Ê ç:=FR 1 1 Cr
def z65(x0:D):UX ô=yK 1 Cr ô:=rfl
def sO:FE:=Ď
def Sy:FT:=(Γa (zX UX Ϭa))
def EM:FS:=
 (ql (wd 1 Ϛf Ħa Sy sO))
def pf:Á D->Ê ç:=FR 1 1 EM
def z6w(x0:D):pf ô=yK 1 EM ô:=rfl
def h9{d:D}(h:vg d):UX [d]=À (Å,.bl (xP d)):=by let{w,a,b,_}:=z83 h;rw[z65];unfold Cr;simp only[Ù,a,b]
theorem BW{a:Á D}(h:∀d∈a,vg d):pf ċb=À (Ã,.lst ĥc):=by
 let e:=IX (g:=yD 1) (c:=Sy) (e:=sO) (σ:=[À (Å,.lst a),Ä]) íd id (ds:=a) λd b=>by let f:=h9 (h d b);show{_,rfl,?_,λ_=>rfl};unfold Sy;simp only[Ù,f]
 rw[Ėf]at e;rw[z6w];unfold EM;simp only[Ù,e]
def Cq:FS:=
 (yL (e2 tN ŧd (eC MX)))
def J6:Á D->Ê ç:=FR 1 1 Cq
def z64(x0:D):J6 ô=yK 1 Cq ô:=rfl
def Mt:FS:=(xU (tE (zX UX äc))
     (qH 1 åf ĩ)
     (Ν (e2 ďh ĩ Ő)))
def Cw:FS:=
 (zb òi
  (zb þo
  (zb (pN Ϛf źc
   Mt)
  ōe)))
def Ua:Á D->Ê ç:=FR 1 4 Cw
def z6a(x0:D):Ua ô=yK 4 Cw ô:=rfl
def h8{d:D}(h:vg d):J6 [d]=À (Å,.bl (wP d)):=by
 let:∃w,zP d ľ=À ϲ/\tN ϲ MX=À (.bl (wP d)):=by
  cases h with
  |œe=>show{_,rfl,rfl}|Ňa h=>let{w,a,b,_,c,_}:=Td h;show{w,a,by rw[c];show b}
  |u7=>show{_,rfl,rfl}|Ŭa t hw hk=>rcases hw with rfl|rfl<;>show{_,rfl,rfl}
 let{w,a,b}:=this;rw[z64];unfold Cq;simp only[Ù,a,b]
theorem z84(h:vg d)(a:xP d=Ã):∃t,d=kS t:=by
 cases h with
 |œe t=>show{t,rfl}|Ňa h=>let{_,_,_,z,_}:=Nh (m:=0) Ęe;rw[z]at a;cases a
 |u7=>cases a|Ŭa t hw hk=>rcases hw with rfl|rfl<;>cases a
def z91{a:Á D}(h:∀d∈a,vg d)(B:ό<=1000):∃ks vs,Ua ċb=À (Ã,.dic ks vs)/\Ī=ö/\∀t,Ć ks vs ėe=(ϗh).map λn:Â=>ĉ n:=by
 let{σ',e,ks,vs,q,k,A,f,rfl}:=kT (g:=yD 3) (b:=Mt) (λi σ=>∃ks vs q,Ī=ö/\Ī<=i/\(∀t,Ć ks vs ėe=((vm t (Ěe i)).2).map λn:Â=>ĉ n)/\σ=[À (Å,.lst a),À (Ã,.dic ks vs),À (Å,.int ((Ðn).length:Â)),q]) (ds:=a)
  (σ:=[À (Å,.lst a),À (Ã,.dic [] []),À (Å,.int 0),Ä]) 0 {[],[],Ä,rfl,Òa _,λt=>rfl,rfl} (by
  rintro i v σ o ⟨ks,vs,q,k,A,f,rfl⟩;rw[Ů]at *;let y:i<ό:=Ùj.1;let w:a[i]=v:=Ùj.2;let l:Ěe ñ=Ěe i++[v]:=by rw[Ϛc y,w]
  let r:=h v (ϴb o);let m:=h9 r;generalize hn:(Ðn).length=n;cases hL:xP v with
  |Ã=>
   let{u,rfl}:=z84 r hL;rw[hL]at m;let s:zP (kS u) ÿa=À (.str u):=rfl;let x:uT (.str u)=À äe:=rfl;let j:Ī<yN:=by rw[ûp]
   let c:(īm).length=n:=by rw[l,žd,ê,hn];rfl
   let p:(Ϸn).length<=i+1:=by
    unfold wQ
    split;omega;rw[ê];exact _+1<=_;omega
   show{_,[À (Å,.lst a),À (Ã,.dic Ϸn (wB ks vs äe Ϣm)),À (Å,.int (n:Â)),À (Å,kS u)],rfl,.inl ?_,wQ ks äe,wB ks vs äe Ϣm,_,Tf k,p,λt=>?_,by rw[c]}
   .unfold Mt;simp only[Ù,m,qH,s,x,Ò j]
   .rw[z50 k,l,lr,hn,f];by_cases e:u=t
    .rw[Ò (by rw[e]),Ò e];rfl
    .rw[Ó (λz=>e (Ŵn z)),Ó e]
  |Å=>
   rw[hL]at m
   let c:(īm).length=n+1:=by rw[l,žd,ê,hn,Żg (by rw[hL];rfl)];rfl
   show{_,[À (Å,.lst a),À (Ã,.dic ks vs),À (Å,.int ((n:Â)+1:Æ)),À (Å,v)],rfl,.inl ?_,ks,vs,_,k,by omega,λt=>?_,by rw[c];rfl}
   .unfold Mt;simp only[Ù,m]
   .rw[l,ly hL,f])
 rw[Ů,ıc]at f;show{ks,vs,?_,k,f};rw[z6a];unfold Cw;simp only[Ù,e]
theorem i9{c:Á D}(h:∀d∈c,vg d)(e:ťa<=1000):∃ks vs,Ua [.lst c]=À (Ã,.dic ks vs)/\∀t,Ć ks vs ėe=((vm t c).2).map λn:Â=>ĉ n:=by let{ks,vs,a,_,b}:=z91 h e;show{ks,vs,a,b}
def Rm{x:Æ}{n:Â}(a:0<=x)(c:x<4294967296)(b:n<=64):jx x (n:Æ)=Ã:=by unfold jx;rw[õ É,õ É,õ (show x.natAbs<2 ^ 64 by omega)];rfl
def Ze{x:Æ}{l w:Â}(b:w<=64):vG [.int x,.int (l:Æ),.int (w:Æ)]=À (Å,.int (x/2 ^ l%2 ^ w)):=by
 let d:jx 1 (w:Æ)=Ã:=Rm Í Í b
 let c:uy ÿa ϡm=À Ön:=by rw[ťp];rw[d];exact À Že=_;rw[ŋ,ņc]
 let a:Jp Ža (.int (l:Æ))=À (Δ ϰo):=by exact(match decide ((0:Æ)<=(l:Æ))with|Ã=>À ŏk|Å=>Ä)=_;rw[õ (Ěc l)];exact À ŏk=_;rw[ŋ]
 let e:=lP ϰo w;rw[ņc]at e;rw[fO];unfold Lx;simp only[yK,zb,yR,yL,e1,e2,z6,eC,ϵa,ŭ,Ćf,ϓd,ġm,Ě,ϝd,ϸb,List.replicate_zero,Žl,Áh,List.getElem?_cons_succ,List.getElem?_cons_zero,c,a,kL,gT,Nat.reduceAdd,Nat.reduceSub,Int.reduceSub,e]
nonrec def uA(ps:Á ā)(a b:Æ):Á ā:=if a∈ϝ (·.1)then ϝ įk else ps++[(a,b)]
nonrec def gP:Á ā->Æ->Æ
 | [],_=>0|p::ps,a=>if p.1=a then p.2 else gP ps a
theorem fD(a:Æ):∀ps:Á ā,(Ć Ĥ Ń ąb).getD ľ=.int (gP ps a)
 | []=>rfl|p::ps=>by exact(if(Ϩ p.1:Sum Æ Ç)=.inl a then À (ĉ p.2)else Ć Ĥ Ń ąb).getD ľ=.int (if p.1=a then p.2 else gP ps a);rw[Îq];rfl;rw[Ó üm,Ó h];show fD a ps
theorem ZR(a:Æ):∀{ps:Á ā},(∀p∈ps,0<=p.2/\p.2<256)->0<=gP ps a/\gP ps a<256
 | [],_=>{by exact(0:Æ)<=0;decide,by exact(0:Æ)<256;decide}|p::ps,h=>by
  unfold gP
  split;show h p Ł;show ZR a λq b=>h q Œc
theorem sP(a b:Æ):∀ps:Á ā,ób (λk' x=>if k'=(Ϩ a:Sum Æ Ç)then ĉ b else x) Ĥ Ń=vP ńg
 | []=>rfl|p::ps=>by exact(if(Ϩ p.1:Sum Æ Ç)=.inl a then ĉ b else .int p.2)::ób _ Ĥ Ń=ĉ ώk.2::vP ńg;rw[sP a b ps];rw[Îq];rw[Ó üm,Ó h]
theorem GU(a b:Æ):∀ps:Á ā,(ńg).map (·.1)=ϝ (·.1)
 | []=>rfl|p::ps=>by exact ώk.1::_=p.1::_;rw[GU a b ps];by_cases h:p.1=a;rw[Ò h,<-h];rw[Ó h]
theorem z8f(h:ϝ (·.1)=ħe (·.1)):kP ps=kP qs:=by
 let e:∀l:Á ā,kP l=(ż (·.1)).map Ϩ:=λl=>by rw[Ĝa];rfl
 rw[e,e,h]
theorem x15(ps:Á ā)(a b:Æ):wQ Ĥ ąb=kP ħf/\wB Ĥ Ń ąb (.int b)=vP ħf:=by by_cases h:a∈ϝ (·.1);unfold uA wQ wB;rw[Ò h,Hs,Ò Öj,Ò Öj,sP,z8f (GU a b ps)];rw[Òq];unfold uA;rw[Ó h];show mM h
def x19{ps:Á ā}{a b:Æ}(P:vh ps)(e:0<=a)(d:a<65536)(b0:0<=b)(b1:b<256):vh ħf:=by
 unfold uA;by_cases h:a∈ϝ (·.1);rw[Ò h]
 let m:∀q∈ϝ įk,q=(a,b)\/q∈ps:=λq c=>by let{p,f,rfl}:=œ c;by_cases z:p.1=a;rw[Ò z];show .inl rfl;rw[Ó z];show .inr f
 show{λq c=>?_,λq c=>?_,?_};rcases m q c with rfl|z;show{e,d};show P.ad q z;rcases m q c with rfl|z;show{b0,b1};show ŭa q z;rw[GU];show P.nd;rw[Ó h];show{λq c=>?_,λq c=>?_,?_};rcases Þa c with z|z;show P.ad q z;cases åa z;show{e,d};rcases Þa c with z|z;show ŭa q z;cases åa z;show{b0,b1};rw[ûa,Íf];refine{P.nd,by simp,λx i y g=>?_};obtain rfl:a=y:=(åa g).symm;show λz=>h (by rw[<-show x=a from z];show i)
def W3{ps:Á ā}{a b:Æ}:(ħf).length<=č+1:=by
 unfold uA
 rw[Íq]
section
variable{Ws:Á Æ}{a b c:Ñ}{ps:Á ā}
def ci{x n:Æ}:UT [.int x,.int n]=À (Å,.int Íc):=by
 let a:vG [.int (x+n),.int 0,.int 16]=À (Å,.int Íc):=by let:=Ze (x:=x+n) (l:=0) (w:=16) Í;rw[ϳd,ťb]at this;rw[ņp]
 rw[z5j];unfold CS;simp only[Ù,Èa,a]
theorem dN{x:Æ}:UU Ċl=À (Å,.int (gP ps x)):=by let a:uT Ža=À Ϝi:=rfl;rw[z5m];unfold CV;simp only[Ù,G8,a,fD]
nonrec def Ut(x:Æ):Á D:=[.int Úc,.int Ùc,.int Øc,.int Ūb]
theorem eU{x:Æ}:Wm ϒa=À (Ã,.lst Őe):=by
 let a:t5 ĝ ŷa [À (Å,.int x)]=À (wC 4):=kq (n:=4) rfl Í
 let e:yh Ħa yl DJ Ŭd (wC 4)=À Őe:=by
  let:=Za (g:=yD 1) (e:=DJ) (σ:=Ŭd) (ds:=wC 4) (Τd (Χ (x+j))) λd b=>by let{k,_,rfl}:=œ b;rw[Ńp];unfold DJ;simp only[Ù,ci]
  rw[ņp]
 rw[z62];unfold Co;simp only[Ù,a,e]
theorem w0e(P:vh ps){x:Æ}:JH Ċl=À (Å,.int (gP ps Úc+gP ps Ùc*256+gP ps Øc*65536+gP ps Ūb*16777216)):=by
 let e:yh ćc yl DL ϝj Őe=À [.int (gP ps Úc),.int (gP ps Ùc),.int (gP ps Øc),.int (gP ps Ūb)]:=by
  let:=Za (g:=yD 2) (e:=DL) (σ:=ϝj) (ds:=Ut x) (Τd (gP ps j)) λd b=>by
   obtain⟨j,rfl⟩:∃j,d=.int j:=by
    rcases Ň b with rfl|b;show{_,rfl}
    rcases Ň b with rfl|b;show{_,rfl}
    rcases Ň b with rfl|b;show{_,rfl};show{_,åa b}
   rw[Ńp];unfold DL;simp only[Ù,dN]
  rw[ņp]
 let{L,A}:=ZR Úc ŭa;let{b0,o}:=ZR Ùc ŭa;let{F,S}:=ZR Øc ŭa;let{G,C}:=ZR Ūb ŭa;generalize gP ps Úc=g0 at *;generalize gP ps Ùc=g1 at *;generalize gP ps Øc=g2 at *;generalize gP ps Ūb=g3 at *
 let c:∀{g:Æ}(n:Â),0<=g->g<256->n<=64->uy (.int g) Źa=À (Δ (g*2 ^ n)):=λ{g} n p f k=>by let f:=Rm (x:=g) (n:=n) p É k;exact(match jx g (n:Æ)with|Ã=>À Ők|Å=>Ä)=_;rw[f];exact À Ők=_;rw[ŋ]
 let R:JJ [.lst Ũe]=À (Å,.int ĥk):=by
  let z:qc û ìj [À (Å,.lst Ũe)]=À ŉj:=rfl;let t:uy äp ľ=À äp:=by let:=c 0 L A Í;rw[ϳd,Ãe]at this;rw[ņp]
  let y:uy (.int g1) ía=À (Δ (g1*256)):=c 8 b0 o Í;let E:uy (.int g2) ĝa=À (Δ (g2*65536)):=c 16 F S Í;let r:uy (.int g3) Ŵf=À (Δ (g3*16777216)):=c 24 G C Í
  let l:yh (uf 1 2) yl Sv Śk ŉj=À Ŧj:=by
   let a:∀(u v w:D),uy u v=À w->∃σ1,uf 1 2 Œn Śk=À σ1/\Sv σ1=À w:=λu v w h=>{[À (Å,.lst Ũe),À (Å,u),À (Å,v)],rfl,h}
   let{W,Q,N}:=a _ _ _ t;let{X,q,O}:=a _ _ _ y;let{T,H,K}:=a _ _ _ E;let{U,I,J}:=a _ _ _ r;simp only[yh,Q,q,H,I,N,O,K,J,yl,ϵa]
  let m:GP [.lst Ŧj]=À (Δ ĥk):=by
   exact(match((ųe).all λi=>decide ĉc&&decide Õm)&&decide ((ųe:Á Æ).length<=1000)with|Ã=>À (ĉ (ųe:Á Æ).sum)|Å=>Ä)=_
   let s:((ųe:Á Æ).all λi=>decide ĉc&&decide Õm)=Ã:=by simp only[Ū,List.all_nil,Č,ϲl,and_true];show{{?_,?_},{?_,?_},{?_,?_},?_,?_}<;>omega
   rw[s];exact À (ĉ (g0+(g1*256+(g2*65536+(g3*16777216+0)))))=_
   congr 2
   omega
  rw[z76];unfold EX;simp only[Ù,z,l,m]
 rw[z74];unfold EV;let B:kz (Β Őe)=À Őe:=rfl;simp only[Ù,eU,B,e,R]
theorem z2b{x:Æ}:UV ϒa=À (Å,.tup ŕj):=by
 let e:vG [.int x,.int 0,.int 8]=À (Å,.int (x%256)):=by let:=Ze (x:=x) (l:=0) (w:=8) Í;rw[ϳd,ťb]at this;rw[ņp]
 let c:vG [.int x,.int 8,.int 8]=À (Å,.int (x/256%256)):=Ze (l:=8) (w:=8) Í;let m:vG [.int x,.int 16,.int 8]=À (Å,.int (x/65536%256)):=Ze (l:=16) (w:=8) Í;let p:vG [.int x,.int 24,.int 8]=À (Å,.int (x/16777216%256)):=Ze (l:=24) (w:=8) Í;let a:∀(u w:D),vG [.int x,u,.int 8]=À (Å,w)->∃σ1,yD 1 u Ŭd=À σ1/\Oc σ1=À w:=λu w h=>{[À (Å,.int x),À (Å,u)],rfl,by unfold Oc;simp only[Ù,h]}
 let{r,n,k}:=a _ _ e;let{t,o,j}:=a _ _ c;let{s,d,i}:=a _ _ m;let{q,f,g}:=a _ _ p
 let l:yh Ħa yl Oc Ŭd fF=À ŕj:=by exact yh Ħa yl Oc Ŭd [.int 0,.int 8,.int 16,.int 24]=_;simp only[yh,n,o,d,f,k,j,i,g,yl,ϵa]
 let b:∀w x y z:D,VC [.lst Ŧo]=À (.tup Ŧo):=λ_ _ _ _=>rfl
 rw[z5o];unfold CY;simp only[Ù,TF,l,b]
theorem mQ{x w:Æ}(f:č<=1000):Ud īk=À ([.own (.dic (kP ån) (vP ån)),.fz Ža,.fz ϧf],.fz .zC):=by
 let a:vG [.int w,.int 0,.int 8]=À (Å,.int Ĩd):=by let:=Ze (x:=w) (l:=0) (w:=8) Í;rw[ϳd,ťb]at this;rw[ņp]
 let d:uT Ža=À Ϝi:=rfl;let c:decide (ζb (Ĥ))=Ã:=õ (by unfold kP;rw[æ];rw[ûp]);let{b,e}:=x15 ps x Ĩd;rw[<-b,<-e,z6t];unfold EJ;simp only[Ē,a,d,c]
def Yg(ps:Á ā)(x w:Æ):Á ā:=uA (uA (uA (uA ps Úc Ĩd) Ùc Ϻh) Øc ŗh) Ūb ßf
def y7z{x w:Æ}(C:č<=900):JG īk=À ([.own Êk,.fz Ža,.fz ϧf],.fz .zC):=by
 let z:qc Ϲh ϧn [Ä,À (Å,.int x),À (Å,.int w),Ä,Ä]=À ĵj:=by unfold qc;simp only[Ù,eU,z2b];rfl
 let c:∀(d:Á ā) (u v:Æ) (f e:Ê M),ċa<=1000->0<=v->v<256->Mx [À Įo,À ùd,À Ϗd,À (.fz (.int u)),À (.fz šc)]=À (Ηd (.dic (kP ĉo) (vP ĉo)) (.int u) šc):=λd u v f e t k r=>by let g:=mQ (ps:=d) (x:=u) (w:=v) t;rw[Îf k r]at g;let m:p_ Įo 0 []=.p 0 []:=rfl;unfold Mx;simp only[Ē,m,g]
 let j:∀(o f e:Ê M)(u v:D),TN 3 4 Œn [o,À ùd,À Ϗd,f,e]=À [o,À ùd,À Ϗd,À (.fz u),À (.fz v)]:=λ_ _ _ _ _=>rfl
 let B:=W3 (ps:=ps) (a:=(x+0)%65536) (b:=w%256);let s:=c ps Úc Ĩd Ä Ä É É É;generalize hq0:uA ps Úc Ĩd=p0 at *;let E:=W3 (ps:=p0) (a:=äb%65536) (b:=w/256%256);let l:=c p0 Ùc Ϻh Ä Ä É É É;generalize hq1:uA p0 Ùc Ϻh=p1 at *;let A:=W3 (ps:=p1) (a:=(x+2)%65536) (b:=w/65536%256);let n:=c p1 Øc ŗh Ä Ä É É É;generalize hq2:uA p1 Øc ŗh=p2 at *;let h:=c p2 Ūb ßf Ä Ä É É É
 let y:uA p2 Ūb ßf=Yg ps x w:=by unfold Yg;rw[hq0,hq1,hq2]
 rw[y]at h
 let q:ga (TN 3 4) Mx ĵj [À ŉf,À ùd,À Ϗd,Ä,Ä]=À (Ηd Êk (Δ Ūb) (Δ ßf)):=by simp only[ga,j,s,l,n,h,ϵa]
 let i:ēc ŉf=Ä:=rfl;rw[z6u];unfold EK;simp only[Ē,i,z,q]
theorem y8d:zP âf ľ=À x:=rfl
def BQ{x y z w:D}:zP âf ÿa=À y:=rfl
def y8e{x y z w:D}:zP âf þb=À z:=rfl
def y8f{x y z w:D}:zP âf ϩf=À w:=rfl
def Lf{k:Ç}{hk:Á ğ}{hv:Á D}{d:D}{s:Â}{x n:Æ}(e:Ws[s]?=À x):XC [wM Ĉ a b c hk hv,.tup [.str k,d,.int (s:Æ),.int n]]=À (Å,.int Íc):=by rw[z5i];unfold CQ;simp only[Ù,jg,y8e,y8f,qe e,ci]
theorem z3y{d s:Â}{x n:Æ}(f:d<ţa)(e:Ws[s]?=À x):Qz [st Ĉ a b c Ĥ Ń,.fz ųj]=À ([st (wI (łe d (gP ps Íc))) a b c Ĥ Ń,.fz ųj],.fz .zC):=by rw[z5u];unfold Cf;simp only[Ē,tD,GQ,Lf e,dN,BQ,kI,kj,qu,gY f,Z4]
theorem z3z(P:vh ps){d s:Â}{x n:Æ}(f:d<ţa)(e:Ws[s]?=À x):Q_ [st Ĉ a b c Ĥ Ń,.fz ϊj]=À ([st (wI (łe d (gP ps Ϝg+gP ps ϛg*256+gP ps Ϛg*65536+gP ps ϙg*16777216))) a b c Ĥ Ń,.fz ϊj],.fz .zC):=by let w:=w0e P (x:=(x+n)%65536);generalize gP ps Ϝg+gP ps ϛg*256+gP ps Ϛg*65536+gP ps ϙg*16777216=v at w;rw[z5v];unfold Cg;simp only[Ē,tD,GQ,Lf e,w,BQ,kI,kj,qu,gY f,Z4]
theorem z43(f:č<=1000){d s:Â}{x n v:Æ}(e:Ws[d]?=À v)(g:Ws[s]?=À x):J1 [st Ĉ a b c Ĥ Ń,.fz ϋj]=À ([st Ĉ a b c (kP śl) (vP śl),.fz ϋj],.fz .zC):=by rw[Ìq];rw[z5x];unfold Ci;simp only[Ē,tD,jg,Lf g,qe e,BQ,cv,mN,h,mQ f]
theorem z44(f:č<=900){d s:Â}{x n v:Æ}(e:Ws[d]?=À v)(g:Ws[s]?=À x):J2 [st Ĉ a b c Ĥ Ń,.fz όj]=À ([st Ĉ a b c (kP ïn) (vP ïn),.fz όj],.fz .zC):=by rw[Ìq];rw[z5y];unfold Cj;simp only[Ē,tD,jg,Lf g,qe e,BQ,cv,mN,h,y7z f]
theorem MF{k:Ç}{d s n:D}{F:FM}{S a:M}(f:Xd pA ďa=À ň)(e:Ć pA T0 Ħd=À F)(b:∀d,S≠.fz d)(h:F ϓn=À (ϑn,.fz .zC)) :jR ϓn=À (ϑn,.fz .zC):=by
 rw[Gi];unfold Jc
 let c:p_ S 0 []=.p 0 []:=by
  cases S with
  |fz d=>show Þ rfl (b d)|_=>rfl
 simp only[Ē,y8d,f,VP,e,c,h]
#print a
def y86(n:Â):(0:Æ)<2 ^ n:=ϭh Í
nonrec def Lz(k:Ç)(x y:Â):Â:=if k = ßb then x &&& y else if k = åb then x ||| y else x ^^^ y
inductive UQ:Ç->È
 |and:UQ ßb |or:UQ åb |xor:UQ Üb
def z26{k:Ç}(h:UQ k){x y:Â}(b:x<4294967296)(a:y<4294967296):Lz k x y<4294967296:=by
 let e:(4294967296:Â)=2 ^ 32:=by decide
 rw[e]at b a ⊢;unfold Lz
 split;show Nat.and_lt_two_pow _ a;split;show Nat.or_lt_two_pow b a;show Nat.xor_lt_two_pow b a
def Kh(z:Â):z%2=(z.testBit 0).toNat:=by rw[Nat.testBit_zero];rcases Nat.mod_two_eq_zero_or_one z with h|h<;>rw[h]<;>rfl
theorem lI:∀(n x y:Â),x<=n->(x ||| y)=łi+Ńi
 |0,x,y,h=>by
  let:x=0:=by omega
  subst this;simp
 |n+1,x,y,h=>by
  by_cases z:x=0;subst z;simp;let a:=lI n (x/2) (y/2) É;let b:(x ||| y)/2=x/2 ||| y/2:=Nat.or_div_two;let f:łi/2=x/2 ^^^ y/2:=Nat.xor_div_two;let i:Ńi/2=x/2 &&& y/2:=Nat.and_div_two;let d:=Kh (x ||| y);let g:=Kh łi;let e:=Kh Ńi;rw[Nat.testBit_or]at d;rw[Nat.testBit_xor]at g;rw[ûh]at e
  let c:((Ŕf 0||Üe 0).toNat:Â)=(Ŕf 0 ^^ Üe 0).toNat+(Ŕf 0&&Üe 0).toNat:=by cases Ŕf 0<;>cases Üe 0<;>rfl
  rw[<-b,<-f,<-i]at a;omega
def z2k(x y:Â):Ħh (x:Æ) (y:Æ)=((x ^^^ y:Â):Æ):=by
 exact ļc (x:Æ) (y:Æ)-Ġb (x:Æ) (y:Æ)=_;rw[dL,d8,lI x x y Đ]
 push_cast
 omega
def z8c{k:Ç}(h:UQ k){x y:Â}:UY [.str k,.int (x:Æ),.int (y:Æ)]=À (Å,.int (Lz k x y:Æ)):=by
 let c:zr ñd ñd=À ň:=rfl;let b:zr þd ñd=À ă:=rfl;let e:zr þd þd=À ň:=rfl;let d:zr ÿi ñd=À ă:=rfl;let a:zr ÿi þd=À ă:=rfl;rw[z69];unfold Cv Lz;cases h with
 |and=>rw[Ò rfl,<-d8];simp only[Ù,c]|or=>rw[Ó ŉ,Ò rfl,<-dL];simp only[Ù,b,e]|xor=>rw[Ó ŉ,Ó ŉ];simp only[Ù,d,a,z2k]
section
variable{Ws:Á Æ}{a b c:Ñ}{hk:Á ğ}{hv:Á D}
nonrec def pK(p:Ñ):Æ:=if p then 1 else 0
def cZ{x y:Æ}{p:Ñ}:US Ϙg=À (Å,.tup [.int (θc (x+y+pK p)),.bl (decide (4294967296<=x+y+pK p))]):=by
 let a:decide ((0:Æ)<4294967296)=Ã:=by decide
 rw[z5h];unfold CP;cases p<;>simp only[Ù,Èa,pK,a,Ğb,Ϧ,ś]
theorem SH{x y:Æ}{p:Ñ}(x0:0<=x)(x1:x<4294967296)(h:0<=y)(g:y<4294967296):Ue Ϙg=À (Å,.tup [.int (θc (x-y-pK p)),.bl (decide (x-y-pK p<0))]):=by
 let b:∀(q:Æ),(q=0\/q=1)->(∀τ:yC,ue (tE ĩ) Ő ĝ [À (Å,.int x),À (Å,.int y),À (Å,.bl p),Ä]=À (.int q))->Ue Ϙg=À (Å,.tup [.int (θc Ýj),.bl (decide ŀi)]):=λq f d=>by
  let a:=d [];rw[z70];unfold ER;generalize ue (tE ĩ) Ő ĝ=EE at a;by_cases z:x-y-q<0;let c:decide ŀi=Ã:=õ z;let e:Ýj%4294967296=x-y-q+4294967296:=by omega
  rw[e,c];simp only[Ù,a,c,Èa];let c:decide ŀi=Å:=ē z;let e:Ýj%4294967296=x-y-q:=by omega
  rw[e,c];simp only[Ù,a,c]
 cases p with
 |Å=>show b 0 ł λ_=>rfl|Ã=>show b 1 āb λ_=>rfl
inductive V2:Ç->È
 |add:V2 ńa |addc:V2 Õb |sub:V2 Ûb |subc:V2 Ôb |test:V2 Ĥa
def x2g{k:Ç}(h:V2 k){x y:Æ}(x0:0<=x)(x1:x<4294967296)(f:0<=y)(e:y<4294967296):∃(t:Æ) (u:Ñ),Wo Šk=À (Å,.tup [.int (t%4294967296),.bl u]):=by
 cases h with
 |add=>show{x+y+pK Å,decide (4294967296<=x+y+pK Å),?_};let b:zr Óc Óc=À ň:=rfl;rw[Jw];unfold V7;simp only[Ù,b,cZ]|addc=>show{x+y+pK a,decide (4294967296<=x+y+pK a),?_};let b:zr Ðc Óc=À ă:=rfl;let c:zr Ðc Ðc=À ň:=rfl;rw[Jw];unfold V7;simp only[Ù,b,c,cZ]|sub=>show{x-y-pK Å,decide Żm,?_};let b:zr Ņf Óc=À ă:=rfl;let c:zr Ņf Ðc=À ă:=rfl;let d:zr Ņf Ïc=À ă:=rfl;rw[Jw];unfold V7;cases a<;>simp only[Ù,b,c,d,SH x0 x1 f e]|subc=>show{x-y-pK a,decide (x-y-pK a<0),?_};let b:zr Ïc Óc=À ă:=rfl;let c:zr Ïc Ðc=À ă:=rfl;let d:zr Ïc Ïc=À ň:=rfl;rw[Jw];unfold V7;cases a<;>simp only[Ù,b,c,d,SH x0 x1 f e]|test=>show{x-y-pK Å,decide Żm,?_};let b:zr Èc Óc=À ă:=rfl;let c:zr Èc Ðc=À ă:=rfl;let d:zr Èc Ïc=À ă:=rfl;rw[Jw];unfold V7;cases a<;>simp only[Ù,b,c,d,SH x0 x1 f e]
theorem z46{d s:Â}{x y w g:Æ}{u:Ñ}(j:Ws[d]?=À x)(f:Ws[s]?=À y)(h:Wo [.str Ĥa,.int x,.int y,.bl a]=À (Å,.tup Ĩh))(i:vG ğc=À (Å,.int g)) :k7 [st Ĉ a b c hk hv,.fz ϯj]=À ([st Ĉ u (decide ŋd) (decide Ŏd) hk hv,.fz ϯj],.fz .zC):=by let e:wO Èc Èc=À ă:=rfl;rw[fK];unfold Lq;simp only[Ē,tD,jg,GR,SM,qe j,qe f,h,Z3,Zo,Zp,V9,VA,VP,Jb,Ir,IZ,BF,BK,VR i,V5,e]
#print a
def z9f{x:Æ}{n:Â}(e:0<=x)(f:x<4294967296)(g:n<=31):XI ϧe=À (Å,.tup [.int (x*2 ^ n%4294967296),if n=0 then .zC else .bl (decide (x*2 ^ n/4294967296%2=1))]):=by
 let b:=Rm (n:=n) e f É;let c:∀y:Æ,vG [.int y,.int 32,.int 1]=À (Å,.int (y/4294967296%2)):=λy=>Ze (x:=y) (l:=32) (w:=1) Í
 let d:∀y:Æ,vG [.int y,.int 0,.int 32]=À (Å,.int (y%4294967296)):=λy=>by let:=Ze (x:=y) (l:=0) (w:=32) Í;rw[ϳd,ťb]at this;rw[ņp]
 rw[z6n];unfold EC;rw[šp];simp only[Ù,b,ŋ,c,d,ōb,a];let a:decide İf=Å:=ē É;rw[Ó z];simp only[Ù,b,ŋ,c,d,ōb,a]
theorem y91{x:Æ}{n:Â}:XJ ϧe=À (Å,.tup [.int (x/2 ^ n),if n=0 then .zC else .bl (decide (x/2 ^ ŝe%2=1))]):=by
 let b:decide ((0:Æ)<=(n:Æ))=Ã:=õ Ðj;rw[z6o];unfold ED;rw[šp];simp only[Ù,b,ŋ,ōb,a];let a:decide İf=Å:=ē É
 let p:vG [.int x,.int ((n:Æ)-1),.int 1]=À (Å,.int (x/2 ^ ŝe%2)):=by rw[show(n:Æ)-1=((n-1:Â):Æ) by omega];show Ze (l:=n-1) (w:=1) Í
 rw[Ó z];simp only[Ù,b,ŋ,p,ōb,a]
theorem w0f{w n:Æ}(a:0<=w)(b:w<4294967296)(n0:0<=n)(n1:n<65536):Y6 [.int w,.int 16,.int 16,.int n]=À (Å,.int (w%65536+65536*n)):=by
 rw[sJ (x:=w) (l:=16) (d:=16) (n:=n) {{a,by decide,by decide,by decide,by decide},n0,n1}];let e:w+(n-w/65536%65536)*65536=w%65536+65536*n:=by omega
 show Ÿ (λz=>À (Å,ĉ z)) e
structure ud(Ws:Á Æ):È where
 l:ţa=8
 h:∀w∈Ws,0<=w/\w<4294967296
def ud.at{Ws:Á Æ}(h:ud Ws){d:Â}(a:d<8):∃x,Ws[d]?=À x/\0<=x/\x<4294967296:={_,ė (h.l▸a),h.h _ (ñb _)}
theorem ud.set{Ws:Á Æ}(h:ud Ws){d:Â}{x:Æ}(x0:0<=x)(x1:x<4294967296):ud (łe d x):={by rw[èa];show h.l,λw a=>by rcases List.mem_or_eq_of_mem_set a with z|z;show h.h w z;rw[z];show{x0,x1}}
def Io{w:Æ}:vG ğc=À (Å,.int (w/2147483648%2)):=by show Ze (x:=w) (l:=31) (w:=1) Í
structure cX(r:D)(Ws:Á Æ)(a b c:Ñ)(ps:Á ā)(Ws':Á Æ)(a' b' c':Ñ)(ps':Á ā):È where
 w:ud Ws'
 p:vh ps'
 l:Öi<=č+4
 e:jR Ŝk=À ([st (wI Ws') a' b' c' (kP ps') (vP ps'),.fz r],.fz .zC)
structure Up(r:D):È where
 ld:∀D1,jU [D1,r]=À (Å,.bl Å)
 st:zr r æa=À ă
 tp:wJ r=Ã
 dr:∀{Ws:Á Æ}{a b c:Ñ}{ps:Á ā},ud Ws->vh ps->č<=800->∃Ws' a' b' c' ps',cX r Ws a b c ps Ws' a' b' c' ps'
def OM{k:Ç}{d s:Â}(h:V2 k)(o:d<8)(v:s<8):Up Þc:=by
 let e:(∀D1,jU Ën=À (Å,.bl Å))->zr Þc æa=À ă->Xd pA ďa=À ň->Ć pA T0 Ħd=À k7->(wO ďa Èc=À ň\/k = Ĥa)->Up Þc:=λr q l i g=>{r,q,rfl,λ{F a b c f} W P E=>by let{x,j,B,C}:=ϥa o;let{y,m,w,z}:=ϥa v;let{t,u,n}:=x2g (a:=a) h B C w z;let A:0<=t%4294967296:=ϸc _ Í;let p:t%4294967296<4294967296:=ϧc _ Í;rcases g with g|rfl;show{_,_,_,_,f,ϝb A p,P,ϭ _ _,Xb l i jG rfl rfl (z45 (b:=b) (c:=c) (hk:=kP f) (hv:=vP f) g j m n Io)};show{_,_,_,_,f,W,P,ϭ _ _,Xb l i jG rfl rfl (z46 (b:=b) (c:=c) (hk:=kP f) (hv:=vP f) j m n Io)}}
 cases h with
 |add=>show e âc rfl rfl rfl ł|addc=>show e âc rfl rfl rfl ł|sub=>show e âc rfl rfl rfl ł|subc=>show e âc rfl rfl rfl ł|test=>show e âc rfl rfl rfl āb
def SK{k:Ç}{d s:Â}(h:UQ k)(f:d<8)(n:s<8):Up Þc:=by
 obtain⟨m,l,j,g⟩:(∀D1,jU Ën=À (Å,.bl Å))/\zr Þc æa=À ă/\Xd pA ďa=À ň/\Ć pA T0 Ħd=À XD:=by cases h<;>show{λ_=>rfl,rfl,rfl,rfl}
 show{m,l,rfl,λ{v a b c e} W P u=>?_};let{x,i,t,z}:=ϥa f;let{y,p,o,w}:=ϥa n;let{r,rfl}:=ęb t;let{q,rfl}:=ęb o;show{_,_,_,_,e,ϝb Įe (Int.ofNat_lt.mpr (z26 h É É)),P,ϭ _ _,Xb j g jG rfl rfl (z3v (a:=a) (b:=b) (c:=c) (hk:=kP e) (hv:=vP e) i p (z8c h (x:=r) (y:=q)) Io)}
def x6c{k:Ç}{d n:Â}(h:k = Ŀa \/ k = ϔa)(s:d<8)(u:n<=31):Up þi:=by
 obtain⟨A,y,o,j⟩:(∀D1,jU [D1,.tup ńj]=À (Å,.bl Å))/\zr þi æa=À ă/\Xd pA ďa=À ň/\Ć pA T0 Ħd=À XE:=by rcases h with rfl|rfl<;>show{λ_=>rfl,rfl,rfl,rfl}
 show{A,y,rfl,λ{v a b c e} W P B=>?_};let{x,l,g,r}:=ϥa s
 let i:∀{w:Æ}{t p:Ñ},0<=w->w<4294967296->zr ďa Ċf=À Úg->(if t then XI ϧe else XJ ϧe)=À (Å,.tup [.int w,if n=0 then .zC else .bl p])->∃Ws' a' b' c' ps',cX þi v a b c e Ws' a' b' c' ps':=λ{w t p} q m hk f=>by by_cases z:n=0;rw[Ò z]at f;show{_,_,_,_,e,ϝb q m,P,ϭ _ _,Xb o j jG rfl rfl (z40 (a:=a) (b:=b) (c:=c) (hk:=kP e) (hv:=vP e) l t hk f Io)};rw[Ó z]at f;show{_,_,_,_,e,ϝb q m,P,ϭ _ _,Xb o j jG rfl rfl (z41 (a:=a) (b:=b) (c:=c) (hk:=kP e) (hv:=vP e) l t hk f Io)}
 rcases h with rfl|rfl;show i (t:=Ã) ϳh Ϸh rfl (z9f g r u);show i (t:=Å) (Āh g (ëa (y86 n))) (Int.lt_of_le_of_lt (Int.ediv_le_self _ g) r) rfl y91
def OD{ps:Á ā}{x y:Æ}(P:vh ps):vh (uA ps (x%65536) (y%256)):=x19 P ϳh Ϸh ϳh Ϸh
def x6b{k:Ç}{d s:Â}{n:Æ}(h:k = ũa \/ k = Ļa \/ k = ļa \/ k = ĺa)(m:d<8)(t:s<8):Up Ħo:=by
 obtain⟨r,q⟩:(∀D1,jU [D1,.tup ōj]=À (Å,.bl Å))/\zr Ħo æa=À ă:=by rcases h with rfl|rfl|rfl|rfl<;>show{λ_=>rfl,rfl}
 show{r,q,rfl,λ{f a b c i} W P j=>?_};let{v,o,w,y}:=ϥa m;let{x,e,C,E}:=ϥa t;let p:d<Îb:=W.l▸m;rcases h with rfl|rfl|rfl|rfl;let g:=ZR Íc ŭa;show{_,a,b,c,i,ϝb g.1 É,P,ϭ _ _,MF rfl rfl jG (z3y p e)};show{f,a,b,c,_,W,OD P,İ W3 (Ĩc Í _),MF rfl rfl jG (z43 Ϣn o e)};let B:=ZR Ϝg ŭa;let z:=ZR ϛg ŭa;let A:=ZR Ϛg ŭa;let u:=ZR ϙg ŭa;show{_,a,b,c,i,ϝb É É,P,ϭ _ _,MF rfl rfl jG (z3z P p e)};show{f,a,b,c,Yg i Íc v,W,OD (OD (OD (OD P))),İ W3 (ğb (İ W3 (ğb (İ W3 (ğb W3))))),MF rfl rfl jG (z44 Ϣn o e)}
def SJ{r:D}(h:pp r)(hz:r≠.tup èi):Up r:=by
 let f:∀{d:Æ},0<=d->d<8->∃n:Â,d=(n:Æ)/\n<8:=λ{d} q t=>by let{n,rfl}:=ęb q;show{n,rfl,by omega}
 cases h with
 |Ŵ=>show Þ rfl hz|Wc hw d0 d1 n0 n1=>let{d,rfl,e}:=f d0 d1;rcases hw with rfl|rfl;show{λ_=>rfl,rfl,rfl,λ{p a b c i} W P o=>{_,a,b,c,i,ϝb n0 É,P,ϭ _ _,Xb rfl rfl jG rfl rfl (z42 Ëp)}};show{λ_=>rfl,rfl,rfl,λ{p a b c i} W P o=>?_};let{x,j,k,m}:=ϥa e;show{_,a,b,c,i,ϝb É É,P,ϭ _ _,Xb rfl rfl jG rfl rfl (z3x j (w0f k m n0 n1))}
 |two hw d0 d1 s0 s1=>let{d,rfl,e}:=f d0 d1;let{s,rfl,g}:=f s0 s1;rcases hw with rfl|rfl|rfl|rfl|rfl|rfl|rfl|rfl|rfl;show{λ_=>rfl,rfl,rfl,λ{p a b c i} W P o=>?_};let{x,j,k,m}:=ϥa g;show{_,a,b,c,i,ϝb k m,P,ϭ _ _,Xb rfl rfl jG rfl rfl (z3w Ëp j)};show OM .add e g;show OM .addc e g;show OM .sub e g;show OM .subc e g;show SK .and e g;show SK .or e g;show SK .xor e g;show OM .test e g
 |Wf hw d0 d1 n0 n1=>let{d,rfl,e}:=f d0 d1;let{n,rfl}:=ęb n0;show x6c hw e É
 |mem hw d0 d1 s0 s1 n0 n1=>let{d,rfl,e}:=f d0 d1;let{s,rfl,g}:=f s0 s1;show x6b hw e g
nonrec def lt(k:Æ):Ç:={#[97+Ż]}
def z1c(a:0<=k)(b:k<26):uP (ϙc : Ç).cps.toList k=À (97+Ż):=by
 let h:∀j:Fin 26,uP (ϙc : Ç).cps.toList (j.val:Æ)=À (97+j.val):=by rw[ÿp]
 let:=h {Ż,by omega};rw[show(({Ż,by omega}:Fin 26).val:Æ)=k by exact(Ż:Æ)=k;omega]at this;rw[ņp]
def z1d(a:0<=k)(b:k<26):zP ħo (.int k)=À (.str (lt k)):=by exact(uP _ k).bind _=_;rw[z1c a b];rfl
def Ϻf(h:ό+ϋ<=100000):yk (.str a) (.str b)=À (.str Ĉc):=by exact(if ό+ϋ<=yN then _ else _)=_;rw[Ò ţg]
theorem z9g(a b:Ç):(Ĉc).length=ό+ϋ:=ϻl
def iM(k:Æ):(lt k).length=1:=rfl
open ķ ĺ
def KJ:FS:=(zb (yR 4 (Ξ (e2 yk (eC (.int 30)) (z6 3))))
    (zb (yR 5 (e2 zP Ď (e2 xQ (e2 yk (Ξ (eC (.int 29))) (e2 pB (eC çi) Ħ)) (eC (.int 26)))))
    (Yj 2 ZQ (e2 yk (e2 yk (e2 MN (eC Ăi) (e2 xQ ύ ŷa)) Éa) (e2 MN (eC Ăi) (e2 xQ (e2 Jn ύ ŷa) ŷa))))))
def Lw:FS:=
 (zb (yR 1 (eC ħo))
  (zb (pO 2 ûc)
  (zb (pN (t5 ĝ ϸa) źc
   KJ)
  (zb (xU (tE (e2 zr (e2 xQ û ϲc) ĝ))
   (Nj 2 ĝ (e2 zP (Ψ (eC ņf) (zA ϐi (zA (eC ňf) (Τ Ňf)))) (e2 xQ (e2 Jn û ϲc) ŷa)))
   wX)
  (jz 2)))))
def JB:Á D->Ê ç:=FR 1 6 Lw
def fN(x0:D):JB ô=yK 6 Lw ô:=rfl
def qn(a k b:Æ):Ç:=Æb "q" a++lt k++Æb "q" b
def y88:("q" : Ç)={#[113]}:=by rw[ÿp]
def BP{a k b:Æ}{x:Â}:x∈(Ńf).cps.toList->x=113\/x=97+Ż:=λh=>by
 rw[Āp]
 rw[e,y88,Ăn,Ăn]at h;rcases Þa h with h|h;rcases Þa h with h|h;show .inl Ūk;show .inr (åa h);show .inl Ūk
def mW{a k b:Æ}:97+Ż∈(Ńf).cps.toList:=by
 rw[Āp]
 rw[e];simp
def NR{a k b f c d:Æ}(l:0<=k)(g:0<=c)(h:k≠c):qn a k b≠qn f c d:=λe=>by let i:=BP (a:=f) (k:=c) (b:=d) (x:=97+Ż) (e▸mW);let j:=BP (a:=a) (k:=k) (b:=b) (x:=97+c.toNat) (e▸mW);omega
def Bi{s:Ç}{x y:Â}{a k b:Æ}(f:x∈ān)(c:y∈ān)(d:x≠y)(h:x≠113)(g:y≠113):s≠qn a k b:=λe=>by subst e;let:=BP f;let:=BP c;omega
def ii{j:Æ}(a:0<=j)(b:j<4):MN Ăi ùc=À (.str ϴh):=by exact(match decide Ãl&&(decide ņd&&decide Ŭf)with|Ã=>À (ύc ϴh)|Å=>Ä)=_;rw[show decide Ãl=Ã by rw[ÿp],õ a,õ É];rfl
def ik{j:Æ}(a:j<4):(ϴh).length<=1*4:=ūn (L:=1) (N:=4) ŉ É
structure cW(n0 n1 n2:Ç):È where
 a:n0≠n1
 b:n0≠n2
 c:n1≠n2
def y0l(c:Æ):∃n0 n1 n2:Ç,JB Ŀb=À (Ã,.lst Ţd)/\cW n0 n1 n2:=by
 obtain⟨a,f⟩:∃a:Æ->Æ,∀k,uc ăh=À (Å,.int (a k))/\0<=a k:={λk=>Classical.choose (qf c k),λk=>{ħk.1,ħk.2.1}};let l:=(f 29).1;let Q:=(f 29).2
 let +zeta nk:Â->Ç:=λk=>qn (a ōn%4) ((a 29+9*(k:Æ))%26) (a ōn/4%4)
 let o:∀τ:yC,t5 ĝ ϸa τ=À Ĝj:=λτ=>kq (n:=3) rfl Í
 let{σ',e1,G,H,I,rfl}:=kT (g:=yD 3) (b:=KJ) (λi σ=>∃G H I:Ê Sl,σ=[À (Å,.int c),À (Å,.str ϙc),À (Ã,.lst Řd),G,H,I])
  (ds:=wC 3) (σ:=[À (Å,.int c),À (Å,.str ϙc),À (Ã,.lst []),Ä,Ä,Ä]) 0 {Ä,Ä,Ä,rfl} λi d σ N L=>by
   let{G,H,I,rfl}:=L;rw[Ů];let{U,rfl}:=OQ N;let q:=(f ĭb).1;let T:=(f ĭb).2;let t:=z1d (k:=(a 29+9*(i:Æ))%26) É É;let r:j7 9=Ã:=by decide
   let E:=ii (j:=a ĭb%4) É É;let B:=ii (j:=a ĭb/4%4) É É;let S:=ik (j:=a ĭb%4) É;let P:=ik (j:=a ĭb/4%4) É;let u:yk (.str (Æb "q" (a ĭb%4))) (.str (lt Śg))=À ēk:=Ϻf (by rw[iM];omega);let C:yk ēk (.str (Æb "q" (a ĭb/4%4)))=À ún:=Ϻf (by rw[z9g,iM];omega)
   let v:ZQ (Β Řd) ún=À (Β Ōg):=by exact(ςd (Řd) (śe (Řd++[_])))=_;rw[Ò (by rw[æ,ϴa];rw[ûp]),ϛd,ûa];rfl
   show{_,[À (Å,.int c),À (Å,.str ϙc),À (Ã,.lst Ōg),À (Å,.int (i:Æ)),À (Å,.int (a ĭb)),À (Å,.str (lt Śg))],rfl,.inl ?_,_,_,_,rfl};unfold KJ;generalize Řd=LL at q l r t E B u C v ⊢;generalize Ōg=LM at q l r t E B u C v ⊢;generalize nk i=NK at q l r t E B u C v ⊢;simp only[Ù,Èa,q,l,r,t,E,B,u,C,v,ìa]
 let O:(Ĝj).length=3:=by rw[æ,ϴa]
 rw[Ů,O]at e1;let R:(Ía 3).map (λk=>ύc (nk k))=[.str (nk 0),.str (nk 1),.str (nk 2)]:=rfl;rw[R]at e1;let J:nk 0≠nk 1:=NR É É É;let F:nk 0≠nk 2:=NR É É É;let p:nk 1≠nk 2:=NR É É É
 let K:∀s:Ç,ϲj->∀k,s≠nk k:=λs A k=>by rcases A with rfl|rfl|rfl|rfl;show Bi (x:=115) (y:=116) ŉ ŉ Í Í Í;show Bi (x:=99) (y:=97) ŉ ŉ Í Í Í;show Bi (x:=106) (y:=117) ŉ ŉ Í Í Í;show Bi (x:=119) (y:=104) ŉ ŉ Í Í Í
 by_cases z:c%5=0;obtain⟨s,w,A⟩:∃s:Ç,zP (.lst [.str Ÿb,.str ða,.str ϧ,.str ϩ]) (Δ (c/5%4))=À (.str s)/\ϲj:=by rcases(show c/5%4=0\/c/5%4=1\/c/5%4=2\/c/5%4=3 by omega)with h|h|h|h<;>rw[h];show{_,rfl,.inl rfl};show{_,rfl,.inr ł};show{_,rfl,.inr (.inr ł)};show{_,rfl,.inr (.inr āb)}
 show{s,nk 1,nk 2,?_,K s A 1,K s A 2,p};let m:zr ϟn ľ=À ň:=IN z;let e:ńe 3 0=À 0:=rfl;rw[fN];unfold Lw;generalize nk 0=A0 at o e1 m w e ⊢;generalize nk 1=A1 at o e1 m w e ⊢;generalize nk 2=A2 at o e1 m w e ⊢;simp only[Ù,Nj,o,e1,m,w,e,ìa];show{nk 0,nk 1,nk 2,?_,J,F,p};let m:zr ϟn ľ=À ă:=Mm z;rw[fN];unfold Lw;generalize nk 0=A0 at o e1 m ⊢;generalize nk 1=A1 at o e1 m ⊢;generalize nk 2=A2 at o e1 m ⊢;simp only[Ù,o,e1,m,ìa]
def Nb:FA:=(t5 ĝ (e2 yk Üc Ő))
def Sn:FE:=(Η (eC âd) Ťf)
def Od:FT:=(tE (e2 zr ėj ύ))
def KH:FS:=(zb (qk 3 (wd 2 (qc ĩ Ď) (uf 5 6) Od Sn))
    (qk 3 (GA û (ge ύ) (ge (e2 yk ύ Ő)))))
def E5:FS:=
 (zb Čo
  (zb (pN Nb Ěj
   KH)
  (jz 3)))
def Ub:Á D->Ê ç:=FR 3 5 E5
def z6g(x0 x1 x2:D):Ub ϒ=yK 5 E5 ϒ:=rfl
nonrec def zD(q:Ç×Â):D:=.tup [.str q.1,.int (q.2:Æ)]
def uU(Z:Á Ğa)(i:Â):Á D:=(Z.filter λq=>decide (q.2=i)).map λq=>kS q.1
def iA{Z:Á Ğa}{i:Â}:∀d∈uU Z i,vg d/\xP d=Ã:=λd a=>by let{q,_,rfl}:=œ a;show{.label _,rfl}
def z93{Z:Á Ğa}{i:Â}:(ϙf).filter íd=[]:=List.filter_eq_nil_iff.mpr λd a=>by
 rw[(iA d a).2]
 decide
def z92{Z:Á Ğa}{i:Â}:(ϙf).length<=Ůi:=by unfold uU;rw[æ];show Ąl ..
theorem KO{t:Ç}{i:Â}:∀(Z:Á Ğa) (L:Á D),(vm t ôf).2=if(t,i)∈Z then À (Ϡg).length else Żb.2
 | [],L=>by exact(vm t (L++[])).2=_;rw[ŵ,Ó è]|q::Z,L=>by
  by_cases c:q.2=i;let e:uU (q::Z) i=kS q.1::uU Z i:=by unfold uU;rw[Ïd,Ò (õ c),ŭ]
  rw[e,show L++kS q.1::uU Z i=ôn++uU Z i by simp,KO Z,lr]
  let e2:(ôn).filter íd=L.filter λd=>!xP d:=by rw[žd];exact _++[]=_;rw[ŵ]
  rw[e2];rw[Ϯp];rw[Ó m];by_cases h:q.1=t;rw[Ò h,Ò (by rw[<-h,<-c];show Ł)];rw[Ó h,Ó λz=>by rcases Ň z with z|z;show h Ŀn;show m z];let e:uU (q::Z) i=uU Z i:=by unfold uU;rw[Ïd,Ó (by rw[ē c];decide)]
  rw[e,KO Z];rw[Ϯp];rw[Ó m,Ó λz=>by rcases Ň z with z|z;show c Ŀn;show m z]
structure Uj(Z:Á Ğa)(Ô zF:Á D):È where
 it:∀d∈zF,vg d
 rw:zF.filter íd=Ô
 ln:Ĺo<=1000
 pl:∀q∈Z,(vm q.1 zF).2=À q.2
def z85{Z:Á Ğa}{Ô:Á D}(k:(ŉd (·.1)).Nodup)(I:Ůi<=3)(s:∀q∈Z,q.2<=ú)(P:∀r∈Ô,vg r/\xP r=Å)(hl:ú<=60) :∃zF,Ub [.lst Ô,.lst Őd,.lst ϫe]=À (Ã,.lst zF)/\Uj Z Ô zF:=by
 let j:∀{t:Ç}{p N:Â},(t,p)∈Z->(t,N)∈Z->p=N:=λ{t p N} h m=>by
  clear s I
  induction Z with
  |nil=>cases h|ï q Z ih=>rw[ŭ,List.nodup_cons]at k;rcases Ň h with e|h;rcases Ň m with e'|m;rw[<-e]at e';show(Ÿ Prod.snd e').symm;show Þ (Ŋl (f:=(·.1)) m) (by rw[<-e]at k;show k.1);rcases Ň m with e'|m;show Þ (Ŋl (f:=(·.1)) h) (by rw[<-e']at k;show k.1);show ih k.2 h m
 let E:Nb ěg=À (wC ϒf):=by unfold Nb;let:=kq (f:=e2 yk Üc Ő) (τ:=ěg) (n:=((ú+1:Â):Æ)) rfl É;rw[ŋ]at this;rw[ņp]
 let{σ',e1,L,J,G,v,Q,o,rfl}:=kT (g:=yD 4) (b:=KH) (λi σ=>∃(L:Á D) (J:Ê Sl),(∀d∈L,vg d)/\L.filter íd=rows.take i/\ča<=4*i/\(∀q∈Z,(vm q.1 L).2=if q.2<i then À q.2 else Ä)/\σ=[À (Å,.lst Ô),À (Å,.lst Őd),À (Å,.lst ϫe),À (Ã,.lst L),J])
  (ds:=wC ϒf) (σ:=ěg) 0 {[],Ä,λ_ h=>Þ h è,rfl,by simp,λq _=>by rw[Ó É];rfl,rfl} λi d σ a O=>by
   let{L,J,G,v,Q,o,rfl}:=O;rw[Ů]at *;let{Y,rfl}:=OQ a
   let u:qc ĩ Ď [À (Å,.lst Ô),À (Å,.lst Őd),À (Å,.lst ϫe),À (Ã,.lst L),À (Å,.int (i:Æ))]=À (ŉd zD):=by
    exact À (ób Ϥg (ŉd λq=>ύc q.1) (ŉd λq=>ĉ (q.2:Æ)))=_
    congr 1
    clear s I j k o E a
    induction Z with
    |nil=>rfl|ï q Z ih=>rw[ŭ,ŭ,Ŝb,ih,ŭ];rfl
   let B:yh (uf 5 6) Od Sn Ĺj (ŉd zD)=À ϙf:=by
    generalize hσ:(Ĺj:yC)=S
    let F:∀q:Ç×Â,∃σ1,uf 5 6 (zD q) S=À σ1/\Od σ1=À (decide (q.2=i))/\Sn σ1=À (kS q.1):=λq=>by subst hσ;show{_,rfl,?_,rfl};by_cases h:q.2=i;rw[õ h];let H:zr ċm źa=À ň:=IN É;unfold Od;simp only[Ù,H];rw[ē h];let H:zr ċm źa=À ă:=Mm É;unfold Od;simp only[Ù,H]
    clear hσ s I j k o E a u
    induction Z with
    |nil=>rfl|ï q Z ih=>let{σ1,R,w,W}:=F q;rw[ŭ];unfold uU;by_cases h:q.2=i;rw[õ h]at w;rw[Ïd,Ò Öj,ŭ];simp only[yh,R,w,W,ϵa,ih];rfl;rw[ē h]at w;rw[Ïd,Ó (by rw[ē h];decide)];simp only[yh,R,w,ϵa,ih];rfl
   let cut:gS Ô (À (i:Æ)) (À Äi)=(Ūd).take 1:=by unfold gS;rw[show(i:Æ)+1=((i+1:Â):Æ) by omega,æo,æo];by_cases z:i<ú;rw[show min i ú=i by omega,show min ñ ú-i=1 by omega];rw[ϱb É,ϱb É,Ϻm,Ϻm]
   let X:=z92 (Z:=Z) (i:=i);let lc:(òf).length<=1:=by rw[Áa];omega
   let A:ča+(ϙf).length<=yN:=by rw[Ēp]
   let C:(ôf).length+(òf).length<=yN:=by rw[ê];rw[Ēp]
   show{_,[À (Å,.lst Ô),À (Å,.lst Őd),À (Å,.lst ϫe),À (Ã,.lst ŏl),À (Å,.int (i:Æ))],rfl,.inl ?_,_,_,?_,?_,?_,?_,rfl};unfold KH;generalize òf=RR at u B A C cut ⊢;generalize uU Z i=LB at u B A C cut ⊢;generalize ŉd zD=ZD at u B A C cut ⊢;simp only[Ù,qk,GA,ge,GM,u,B,Ò A,Ò C,Èa,cut];intro d a;rcases Þa a with a|a;rcases Þa a with a|a;show G d a;show(iA d a).1;show Ũl.1;rw[žd,žd,z93,v,ŵ]
   let:(òf).filter íd=(Ūd).take 1:=Êl λd a=>by rw[Ũl.2];rfl
   rw[this,<-List.take_add];rw[ê,ê];omega;intro q l
   let e1:(vm q.1 ŏl).2=(vm q.1 ôf).2:=by
    rcases h:(Ūd).take 1 with _|⟨r,zt⟩;rw[ŵ];let K:zt=[]:=by let:=Ÿ ød h;rw[Ě]at this;show Ŋk É
    subst K;show ly (P r (Ťd (Ϩc (by rw[h];show Ł)))).2
   let T:=s q l;rw[e1,KO,v,Áa,o q l];by_cases c:q.2=i;rw[Ò (by rw[<-c];show l),Ò É,show min i ú=q.2 by omega];rw[Ó λz=>c (j l z)];by_cases z:q.2<i;rw[Ò z,Ò É];rw[Ó z,Ó É]
 let U:(wC ϒf).length=ú+1:=by rw[æ,ϴa]
 simp only[Ů,U]at v Q o;show{L,?_,G,by rw[v,Ϯc É],by omega,λq l=>by rw[o q l,Ò (by let:=s q l;omega)]};rw[z6g];unfold E5;simp only[Ù,E,e1]
def WI:FE:=(ue (tE (zX J6 Ţb)) (e2 zP Ď (e2 zP ĩ ϻh)) ïa)
def Ly:FS:=
 (zb (yR 1 (zX Ua ϩa))
  (ql (wd 1 (u9 çd) ćc yl WI)))
def k9:Á D->Ê ç:=FR 1 2 Ly
def fP(x0:D):k9 ô=yK 2 Ly ô:=rfl
def KL:FS:=(qH 2 Ħ (Η (e2 zP Ď Ħ) (zA (e2 yk Ħ Ő) ōc)))
def EQ:FS:=
 (zb (yR 1 çd)
  (zb čo
  (zb (pN (kR Ġf) če
   KL)
  (jz 2))))
def Wq:Á D->Ê ç:=FR 1 5 EQ
def z6z(x0:D):Wq ô=yK 5 EQ ô:=rfl
def CM:yY:=
 (yW (vk 4 (ξa (wV Wq Ϭa)))
  (ιd (xq (eL GI (Α ύ)))))
def jQ:FM:=vf 4 5 CM
def z5e(x0 x1 x2 x3:M):jQ Îc=wf 4 5 CM Îc:=rfl
nonrec def WD(Ô tgs:Á D)(n:Â):Á D:=(Āc).map λk:Â=>.tup Ĭg
theorem x3j{Ô tgs:Á D}{n:Â}:wQ ûg ĺc=jH ı/\wB ûg ϛm ĺc (.tup [Ųb n .zC,.int Òo,Ţi n .zC])=WD Ô tgs ı:=by rw[Éq];rw[Ó Ϧl,Ó Ϧl];unfold jH WD;rw[ϛd,ûa,ûa];rw[Òq]
def rE{Ô tgs:Á D}{k n:Â}(h:k<n):zP (.dic ûg ϛm) ðf=À (.tup Ĭg):=by exact(uT ðf).bind _=_;show Ge (g:=λk:Â=>.tup Ĭg) (Àc h)
def x3f{a Ô tgs:Á D}(p:pf ċb=À (Ã,.lst Ô))(k:k9 ċb=À (Ã,.lst tgs))(j:Öo=ú)(u:ú<=1000):Wq ċb=À (Ã,.dic (jH ú) (WD Ô tgs ú)):=by
 let f:kR Ġf ŝj=À (qG tgs):=by unfold kR;simp only[Ù,k]
 let{σ',e1,x,y,rfl}:=kT (g:=uf 3 4) (b:=KL) (λi σ=>∃x y:Ê Sl,σ=[À (Å,.lst a),À (Å,.lst Ô),À (Ã,.dic (jH i) (WD Ô tgs i)),x,y])
  (ds:=qG tgs) (σ:=ŝj) 0 {Ä,Ä,rfl} λi d σ e h=>by
   let{x,y,rfl}:=h;rw[Ů]
   let q:i<ú:=by let:=İe.1;rw[Xw]at this;omega
   let c:i<Öo:=by omega
   rw[Ii,ė c]at e;cases e;let t:tgs[i]=Ţi i .zC:=by rw[Ϭ,ė c];rfl
   rw[t]
   let o:zP Ći źa=À Ļ:=by exact uP Ô (i:Æ)=_;unfold uP;rw[Ò (Ěc i),ŋ,Ϭ,ė q];rfl
   let{r,m}:=x3j (Ô:=Ô) (tgs:=tgs) (n:=i);let s:(jH i).length<yN:=by unfold jH;rw[æ,ϴa];rw[ûp]
   let l:uT źa=À Èf:=rfl;show{_,[À (Å,.lst a),À (Å,.lst Ô),À (Ã,.dic (jH ñ) (WD Ô tgs ñ)),À (Å,.int (i:Æ)),À (Å,Ţi i .zC)],rfl,.inl ?_,_,_,rfl};rw[<-r,<-m];unfold KL;simp only[Ù,qH,o,Èa,l,Ò s]
 rw[Ů,Xw,j]at e1;rw[z6z];unfold EQ;generalize qG tgs=NN at f e1;simp only[Ù,p,f,e1]
def qo(a:Á D)(r:D):D:=match wP r with
 |Ã=>match Xq r with
  |.str t=>((ϗh).map λn:Â=>ĉ n).getD .zC|_=>.zC
 |Å=>.zC
inductive RJ(Z:Á Ğa)(RK:D->È):D->È
 |Ňa {r:D} (h:RK r):RJ Z RK r
 |Ŵ:RJ Z RK æa
 |u7 {q:Ç×Â} (h:q∈Z):RJ Z RK ġo
 |Ŭa {w k:Ç} {q:Ç×Â} (hw:w = ϩ \/ w = Åa) (hk:k = ða \/ k = ĵa \/ k = ŧa) (h:q∈Z):RJ Z RK ĵk
structure Hd(r:D):È where
 pr:pp r
 w:∃w,zP r ľ=À ϲ/\zr ϲ ņf=À ă/\YI ϲ (.lst şk)=À ň
def nG{Z:Á Ğa}{a:D->È}(b:∀r,a r->Hd r){r:D}(h:RJ Z a r):vg r/\xP r=Å:=by
 cases h with
 |Ňa h=>show{.plain (b r h).pr,(Nh (m:=0) (.inl (b r h).pr)).choose_spec.2.2.1}|Ŵ=>show{.plain .stop,rfl}|u7 h=>show{.u7 _,rfl}|Ŭa hw hk h=>show{.cond _ hw hk,by rcases hw with rfl|rfl<;>rfl}
def x3i{Z:Á Ğa}{l:D->È}{Ô a:Á D}(o:∀r,l r->Hd r)(m:∀r∈Ô,RJ Z l r)(Y:Uj Z Ô a):pf ċb=À (Ã,.lst Ô)/\k9 ċb=À (Ã,.lst (Åi (qo a))):=by
 let{b,c,C,B}:=i9 Y.it Y.ln;let i:=BW Y.it;rw[Y.rw]at i;show{i,?_}
 let y:=Za (g:=yD 2) (e:=WI) (σ:=[À (Å,.lst a),À (Å,.dic b c),Ä]) (ds:=Ô) (qo a) λr v=>by
  let f:=h8 (nG o (m r v)).1;show{īg,rfl,?_}
  let d:∀(t:Ç)(p:Â),wP r=Ã->zP r Ñe=À ϣf->Xq r=.str t->(vm t a).2=À p->WI īg=À (qo a r):=λt p z E x u=>by
   let A:zP (.dic b c) ϣf=À ãd:=by exact Ć b c ėe=_;rw[B,u];rfl
   let j:qo a r=.int (p:Æ):=by unfold qo;rw[z,x];exact((ϗh).map λn:Â=>ĉ n).getD .zC=_;rw[u];rfl
   rw[z]at f;rw[j];unfold WI;simp only[Ù,f,E,A]
  let s:wP r=Å->WI īg=À (qo a r):=λz=>by
   let j:qo a r=.zC:=by unfold qo;rw[z]
   rw[z]at f;rw[j];unfold WI;simp only[Ù,f]
  cases m r v with
  |Ňa h=>show s (Td (o r h).pr).choose_spec.2.2.2.1|Ŵ=>show s rfl|@u7 q h=>show d q.1 q.2 rfl rfl rfl ęo|@cond w k q hw hk' h=>show d q.1 q.2 (by rcases hw with rfl|rfl<;>rfl) rfl rfl ęo
 rw[fP];unfold Ly;simp only[Ù,C,i,y]
def Cy:FS:=
 (zb (yR 3 (ςc (Ξ ϡd)))
  (zb (yR 4 (ςc (Ξ (e2 yk ϡd Ő))))
  (zb (yR 5 (Ξ (e2 yk ϡd ōf)))
  (zb (yR 6 (e2 zP ĩ (e2 xQ (Ξ (e2 yk ϡd ϸa)) ϸa)))
  (zb (yR 7 (Κc ϐi (zA (eC Øe) (Τ Öe)) (Ξ (e2 yk ϡd ŷa))))
  (zb (pO 8 (Ψ (Η (eC Ňf) ĥn) (zA (Η (eC āi) ĥn) (zA (Η (eC ňf) ïh) (zA (γa Ņf ōc) (Α (γa (.str ϡa) (Ρ (e2 xQ Éa ϲc)))))))))
  (zb (qk 8 (w8 (zA (γa (.str ϔa) (Α Ϣg)) (zA (γa Ċf (Α (e2 xQ Éa Ōf))) (Α (Εe (Ψ (eC Óc) (zA (eC Ðc) (zA (eC Ïc) (Ρ ϑi)))) Ϯn))))))
  (zb (qk 8 (Ψ (Εe (w8 (zA (eC (.str ũa)) (zA (eC (.str Ļa)) (zA (eC (.str ļa)) (Τ (.str ĺa)))))) (zA ύ (Α (e2 xQ (e2 Jn Éa ŷa) ŀm)))) (Α (γa (.str ϗa) (Ρ (e2 xQ Éa (eC ŕn)))))))
  (zb (qk 8 (Ψ (Η (e2 zP (w8 (zA (eC (.str Đb)) (zA (eC ñd) (zA (eC þd) (Τ ÿi))))) Ϣg) (zA Ħ ōc)) (Α (e2 zP (w8 (zA (wN (Ρ (eC ņf))) (Ρ (Η ϑi (zA Ħ (zA Ħ zG)))))) (e2 xQ Éa řb)))))
  (zb (Tj 8) (yL (e2 zP (z6 8) (e2 xQ û (eC ŵf))))))))))))))
def J9:Á D->Ê ç:=FR 3 9 Cy
def z6c(x0 x1 x2:D):J9 ϒ=yK 9 Cy ϒ:=rfl
def Sk:FE:=(e2 xQ (zX uc (zA Ħ (Α (e2 yk ϓm ĺd)))) (e2 yk ĩ Ő))
def NZ:FA:=(t5 ĝ ĩ)
def Sm:FE:=(zX J9 (zA (zX jS (Κ (e2 yk (e2 yk Ď ōf) ĺd))) (zA ĺd ōc)))
def Cz:FS:=
 (zb (Ν (e2 yk Ő (e2 xQ (zX jS Äc) (eC ŵf))))
  (zb (yR 3 (zX jS (Κ Ϡd)))
  (zb (yR 4 (wV JB äc))
  (zb (yR 5 (wd 1 (t5 ĝ ϸa) (yD 7) yl Sk))
  (zb (yR 6 (wd 1 NZ (yD 7) yl Sm))
  (yL (Η ėj (zA Éa ōc))))))))
def JA:Á D->Ê ç:=FR 2 7 Cz
def z6d(x0 x1:D):JA Ā=yK 7 Cz Ā:=rfl
def jY(r:D):È:=pp r/\r≠.tup èi
theorem Vh{w:Ç}{d s:Â}(a:w = Đb \/ w = ńa \/ w = Õb \/ w = Ûb \/ w = Ôb \/ w = ßb \/ w = åb \/ w = Üb \/ w = Ĥa)(c:d<8)(b:s<8):jY (.tup [.str w,.int (d:Æ),.int (s:Æ)]):={.two a É É É É,nofun}
def fQ(r:D)(h:jY r):Hd r:=by
 let{h,a}:=h;show{h,?_};cases h with
 |Ŵ=>show Þ rfl a|Wc hw=>rcases hw with rfl|rfl<;>show{_,rfl,rfl,rfl}
 |two hw=>rcases hw with rfl|rfl|rfl|rfl|rfl|rfl|rfl|rfl|rfl<;>show{_,rfl,rfl,rfl}
 |Wf hw=>rcases hw with rfl|rfl<;>show{_,rfl,rfl,rfl}
 |mem hw=>rcases hw with rfl|rfl|rfl|rfl<;>show{_,rfl,rfl,rfl}
def z1q{n0 n1 n2:Ç}{p0 p1 p2:Â}(c k:Æ):∃r,J9 [.int c,.int k,.lst Ţd]=À (Å,r)/\RJ ϣc jY r:=by
 let{G,B,a0,b0}:=qf c (5*k);let{H,s,a1,b1}:=qf c (5*k+1);let{f,v,a2,b2}:=qf c (5*k+2);let{O,x,a3,b3}:=qf c (5*k+3);let{T,y,a4,b4}:=qf c (5*k+4);obtain⟨b,ed,a⟩:∃b:Â,G%8=(b:Æ)/\b<8:={(G%8).toNat,by omega,by omega};obtain⟨g,W,e⟩:∃g:Â,H%8=(g:Æ)/\g<8:={(H%8).toNat,by omega,by omega};let{_,Q,q,rfl,t}:=Xn (P:=λd=>∃q:Ç×Â,d=.str q.1/\q∈[(n0,p0),(n1,p1),(n2,p2)]) O (n:=3) (l:=Ţd) rfl Í (xg {(n0,p0),rfl,by simp} (xg {(n1,p1),rfl,by simp} (xg {(n2,p2),rfl,by simp} XX)));let{_,Z,h,rfl,I}:=Xn (P:=λd=>∃h:Ç,d=.str h/\(h = ða \/ h = ĵa \/ h = ŧa)) T (n:=3) (l:=[.str ða,.str ĵa,.str ŧa]) rfl Í (xg {_,rfl,.inl rfl} (xg {_,rfl,.inr ł} (xg {_,rfl,.inr āb} XX)));let{_,E,J,rfl,ha}:=Xn (P:=λd=>∃w:Ç,d=.str w/\(w = ńa \/ w = Õb \/ w = Ôb \/ w = Ĥa)) f (n:=4) (l:=[.str ńa,.str Õb,.str Ôb,.str Ĥa]) rfl Í Ŀj;let{_,j,N,rfl,A}:=Xn (P:=λd=>∃w:Ç,d=.str w/\(w = ũa \/ w = Ļa \/ w = ļa \/ w = ĺa)) f (n:=4) (l:=[.str ũa,.str Ļa,.str ļa,.str ĺa]) rfl Í Ŀj;let{_,F,Y,rfl,K}:=Xn (P:=λd=>∃w:Ç,d=.str w/\jY (.tup [.str w,.int (b:Æ),.int (g:Æ)])) f (n:=4) (l:=[.str Đb,.str ßb,.str åb,.str Üb]) rfl Í (xg {_,rfl,Vh è a e} (xg {_,rfl,Vh è a e} (xg {_,rfl,Vh è a e} (xg {_,rfl,Vh è a e} XX))));let{rs,z,u}:=Xn (P:=RJ ϣc jY) f (n:=2) (l:=[.tup èi,.tup [.str Ĥa,.int (b:Æ),.int (b:Æ)]]) rfl Í (xg .stop (xg (.plain (Vh è a a)) XX));obtain⟨m,i,L⟩:∃m:Â,f%4=(m:Æ)/\m<=31:={(f%4).toNat,by omega,by omega};obtain⟨o,p,R⟩:∃o:Â,f%32=(o:Æ)/\o<=31:={(f%32).toNat,by omega,by omega};rw[i]at E j F
 let{C,ew,hw}:=Xn (P:=RJ ϣc jY) c (n:=12) (l:=[.tup [.str ϩ,.str h,.str q.1],.tup [.str Åa,.str h,.str q.1],.tup Ĉk,.tup [.str Ûb,.int (b:Æ),.int (g:Æ)],.tup [.str ϡa,.int (b:Æ),.int (f%5)],.tup [.str ϔa,.int (b:Æ),.int (m:Æ)],.tup [.str Ŀa,.int (b:Æ),.int (o:Æ)],.tup [.str J,.int (b:Æ),.int (g:Æ)],.tup [.str N,.int (b:Æ),.int (g:Æ),.int (f/4%256)],.tup [.str ϗa,.int (b:Æ),.int (f%65536)],.tup [.str Y,.int (b:Æ),.int (g:Æ)],rs]) rfl Í
  (xg (.cond ł I t) (xg (.cond āb I t) (xg (.u7 t) (xg (.plain (Vh è a e)) (xg Ék (xg Èk (xg Èk (xg (.plain (Vh (by rcases ha with rfl|rfl|rfl|rfl<;>simp) a e)) (xg (.plain {.mem A É É É É É É,nofun}) (xg Ék (xg (.plain K) (xg u XX))))))))))))
 show{C,?_,hw};let U:j7 5=Ã:=by decide
 let S:8<=yN:=by decide
 let g2:10<=yN:=by decide
 let X:12<=yN:=by decide
 rw[z6c];unfold Cy;simp only[Ù,qk,Èa,U,B,s,v,x,y,ed,W,Q,Z,i,p,E,j,F,z,Ò S,Ò g2,Ò X,ew,ìa]
theorem z47(ns:Á Æ):∃(n:Â) (n0 n1 n2:Ç) (p0 p1 p2:Â) (Ô:Á D),1<=n/\n<=12/\cW n0 n1 n2/\p0<=n/\p1<=n/\p2<=n/\ú=n/\(∀r∈Ô,RJ ϣc jY r)/\JA [.lst Åb,.int 4]=À (Å,.tup [.lst Ô,.lst (wI şg),.lst Ţd]):=by
 let O:=V8 ns (k:=4) Í;let G:=V8 ns (k:=5) Í;let{n0,n1,n2,l,S}:=y0l ðe;obtain⟨n,T,s,A⟩:∃n:Â,1+j5 ns 4%12=(n:Æ)/\1<=n/\n<=12:={(1+j5 ns 4%12).toNat,by omega,by omega,by omega};let R:∀τ:yC,t5 ĝ ϸa τ=À Ĝj:=λτ=>kq (n:=3) rfl Í
 generalize hNS:Œa ĉ=NS at *;generalize hNM:śe Ţd=NM at *
 let{E,L,Q,b}:=KP (g:=yD 7) (e:=Sk) (σ:=[À (Å,.lst NS),À (Å,.int 4),À (Å,.int (n:Æ)),À (Å,.int ðe),À (Å,NM),Ä,Ä,Ä]) (λv=>0<=v/\v<=n) (ds:=wC 3) λd i=>by let{k,_,rfl}:=œ i;let{v,P,Z,Y}:=qf ðe (40+(k:Æ));show{_,v%Òo,rfl,?_,ϸc _ É,by let:=ϧc v (show 0<(n:Æ)+1 by omega);omega};let z:decide (0<(n:Æ)+1)=Ã:=õ É;unfold Sk;simp only[Ù,Èa,P,z]
 obtain⟨p0,p1,p2,B,J,K,H⟩:∃p0 p1 p2:Â,E=şg/\p0<=n/\p1<=n/\p2<=n:=by
  match E,Q,b with
  | [x,y,z],_,b=>have I:=b x è;let U:=b y è;let N:=b z è;show{x.toNat,y.toNat,z.toNat,?_,by omega,by omega,by omega};rw[ϭg I.1,ϭg U.1,ϭg N.1]
 subst B;generalize hPL:wI şg=PL at *
 let{Ô,c,F}:=iB (g:=yD 7) (e:=Sm) (σ:=[À (Å,.lst NS),À (Å,.int 4),À (Å,.int (n:Æ)),À (Å,.int ðe),À (Å,NM),À (Å,.lst PL),Ä,Ä]) (λ_ x=>RJ ϣc jY x) (ds:=wC n) λd i=>by let{k,_,rfl}:=œ i;let C:=V8 ns (k:=6+(k:Æ)) É;rw[hNS]at C;let{r,c,w}:=z1q (n0:=n0) (n1:=n1) (n2:=n2) (p0:=p0) (p1:=p1) (p2:=p2) (j5 ns (6+(k:Æ))) (k:Æ);rw[hNM]at c;show{_,r,rfl,?_,w};unfold Sm;simp only[Ù,Èa,C,c]
 have a:ú=n:=by rw[<-T4 F,æ,ϴa]
 let w:∀r∈Ô,RJ ϣc jY r:=λr W=>by let{x,_,h}:=eA F r W;show h
 let j:∀{m t q o u p:Ê Sl},NZ ök=À ôg:=λ{m t q o u p}=>by unfold NZ;let:=kq (f:=z6 2) (τ:=ök) (n:=(n:Æ)) rfl É;rw[ŋ]at this;rw[ņp]
 let X:jS [.lst NS,.int (4+1)]=À (Å,.int ðe):=G;show{n,n0,n1,n2,p0,p1,p2,Ô,s,A,S,J,K,H,a,w,?_};rw[hNM,hPL,z6d];unfold Cz;simp only[Ù,O,G,l,Èa,T,R,L,j,c,ìa]
def Si:FE:=(Η ėj ĉh)
def n9:FA:=(t5 ĝ (eL qZ ϟo))
def KE:FS:=(zb în
    (yR 5 (e2 ďh Éa (ue (tE (e2 tN Ħ ĩ)) řb Ő))))
def CT:FS:=
 (zb (Ν (γc (wd 1 Ži (yD 6) yl Si)))
  (zb (pO 4 ûc)
  (zb (yR 5 ĝ)
  (zb (pN n9 źc
   KE)
  (zb în
  (jz 4))))))
def Qv:Á D->Ê ç:=FR 2 6 CT
def z5k(x0 x1:D):Qv Ā=yK 6 CT Ā:=rfl
nonrec def xC(f:Â->Ñ):Â->Æ
 |0=>0|n+1=>xC f n+ϓg
def py(f:Â->Ñ)(n:Â):Á D:=(Āc).map λi=>ĉ (xC f i)
def cg(f:Â->Ñ)(n:Â):py f ı=py f n++[.int (xC f n)]:=by unfold py;rw[ϛd,ûa];rfl
def cf(f:Â->Ñ)(n:Â):(py f n).length=n:=by simp[py]
nonrec def yM(zE:Á Â):Á D:=ϒb λi:Â=>ĉ i
def ze(zE:Á Â)(n:Â):Ñ:=(ϑa).any λy=>xr y Źa
theorem K7:∀zE:Á Â,Xp (ϒb λi:Â=>œb ŷd)=À (ϒb λi:Â=>Ϩ (i:Æ),ϒb λ_=>Ϥb Ã)
 | []=>rfl|a::zE=>by exact(uT ϩd).bind _=_;exact(Xp (ϒb λi:Â=>œb ŷd)).bind _=_;rw[K7 zE];rfl
theorem Hu(n:Â):∀zE:Á Â,yq (ϒb λi:Â=>Ϩ (i:Æ)) ĺc=ze zE n
 | []=>rfl|a::zE=>by
  exact(decide ((Ϩ (a:Æ):Sum Æ Ç)=.inl (n:Æ))||yq (ϒb λi:Â=>Ϩ (i:Æ)) ĺc)=(xr ϩd Źa||ze zE n);rw[Hu n zE];let:xr ϩd Źa=Ϯl:=rfl;rw[this]
  congr 1
  by_cases h:(a:Æ)=(n:Æ);rw[õ ói,h,Åc];rw[ē (λe=>h (Įb e)),ϯb h]
theorem z1h{a:Á D}(h:∀d∈a,vg d){zE:Á Â}{n:Â}(m:(ĥc).length=n)(u:n<=900):Qv Ïf=À (Ã,.lst (py ě ı)):=by
 let p:=BW h
 let e1:yh (yD 6) yl Si Ūj ϑa=À (ϒb λi:Â=>œb ŷd):=by
  let:=Za (g:=yD 6) (e:=Si) (σ:=Ūj) Ñl (ds:=yM zE) λd t=>{_,rfl,rfl}
  rw[this];unfold yM;rw[Ĝa];rfl
 obtain⟨K,V,e2,s⟩:∃K V,Xc čk=À ŋf/\∀n:Â,yq K ĺc=ze zE n:=by rw[Ĝp]
 let q:n9 ĝg=À ôg:=by let:=kq (f:=eL qZ ϟo) (τ:=ĝg) (n:=(n:Æ)) (by simp only[Ù,p,m]) É;rw[ņp]
 let{σ',l,k,rfl}:=kT (g:=yD 3) (b:=KE) (λi σ=>∃k,σ=[À (Å,.lst a),À (Å,.lst ϑa),À (Å,.dic K V),k,À (Ã,.lst (py ě i)),À (Å,.int Łf)]) (ds:=wC n)
  (σ:=ĝg) 0 {Ä,rfl} (by
  rintro i v σ o ⟨k,rfl⟩;let{w,rfl}:=OQ o;rw[Ů]at *;let c:=Lh (L:=py ě i) (r:=.int Łf) Úm
  let j:tN źa ŋf=À (.bl Ϫo):=by exact(úm).bind _=_;rw[s];rfl
  show{_,[À (Å,.lst a),À (Å,.lst ϑa),À (Å,.dic K V),À (Å,.int (i:Æ)),À (Ã,.lst (py ě ñ)),À (Å,.int (xC ě ñ))],rfl,.inl ?_,_,rfl};rw[cg];exact _=À (Fl.nx [_,_,_,_,_,À (Å,.int Źm)]);unfold KE;cases hf:ze zE i<;>rw[hf]at j<;>simp only[Ù,c,j]<;>rfl)
 rw[x8d,Ů]at l;let c:=Lh (L:=py ě n) (r:=.int (xC ě n)) Úm;rw[cg];rw[z5k];unfold CT;simp only[Ù,e1,e2,q,l,c]
def Cs:FS:=
 (yL (MH Ēh (T3 (e2 ſh (e1 Xe đe) û) (e2 ſh û (eC ŕc)))))
def J7:Á D->Ê ç:=FR 1 1 Cs
def z66(x0:D):J7 ô=yK 1 Cs ô:=rfl
def DI:FE:=(ue (tE (e2 YH ύ ïa)) ïa (e2 kL Đh (e2 zP ĩ Ħ)))
def Ca:FS:=
 (zb (Ν (wV Qv Äc))
  (ql (wd 2 (kR Ġf) če yl DI)))
def UW:Á D->Ê ç:=FR 2 3 Ca
def z5q(x0 x1:D):UW Ā=yK 3 Ca Ā:=rfl
def Sq:FE:=(Η Éa ĉh)
def nA:FA:=(t5 ĝ (eL qZ Ţb))
def Sr:FE:=Éa
def Oe:FT:=(tE (e2 YI Éa Ħ))
def Ss:FE:=Éa
def Of:FT:=(Γa (zX J7 (Α (e2 zP Ěd Éa))))
def EG:FS:=
 (zb Ϛl
  (zb (yR 3 (γc (wd 1 Ži ła yl Sq)))
  (zb (yR 4 (wd 1 nA ła Oe Sr))
  (ql (wd 1 (u9 ύ) ła Of Ss)))))
def XM:Á D->Ê ç:=FR 2 5 EG
def z6q(x0 x1:D):XM Ā=yK 5 EG Ā:=rfl
def tgt(r:D):D:=match wP r with
 |Ã=>Xq r|Å=>.zC
theorem e9{R:D->D->È}{g:FG}{e:FE}{σ:yC}(v:D->D)(h:∀r y,R r y->∃σ1,g y σ=À σ1/\e σ1=À (v r)):∀{rs ys:Á D},uZ R rs ys->yh g yl e σ ys=À (rs.map v)
 |_,_,.nil=>rfl|r::rs,y::ys,.cons x xs=>by let{σ1,e1,e2}:=h r y x;exact(g y σ).bind _=_;rw[e1];rw[áq];rw[e2];exact(yh g yl e σ ys).bind _=_;rw[e9 v h xs];rfl
def x3h{Ô a:Á D}(h:∀d∈a,vg d)(l:ό<=1000)(q:uZ Ōe Ô ĥc):k9 ċb=À (Ã,.lst Ŕg):=by
 let{c,f,e1,s}:=i9 h l;let e2:=BW h
 let m:=e9 (g:=yD 2) (e:=WI) (σ:=[À (Å,.lst a),À (Å,.dic c f),Ä]) tgt (λr y i=>by
  let b:=h8 i.1;rw[i.2.2.2.1]at b;rw[Ńp];unfold WI tgt;cases z:wP r with
  |Ã=>
   rw[z]at b;let{t,p,j,k,o}:=i.2.2.2.2 z
   let n:zP (.dic c f) ϣf=À ãd:=by exact Ć c f ėe=_;rw[s,k];rfl
   simp only[Ù,b,j,n,o]
  |Å=>rw[z]at b;simp only[Ù,b]) q
 rw[fP];unfold Ly;simp only[Ù,e1,e2,m]
theorem x3u{m:Æ}{r:D}(h:kE m r):(wP r=Å/\tgt r=.zC)\/(wP r=Ã/\∃p:Â,(p:Æ)<=m/\tgt r=.int (p:Æ)/\Xq r=.int (p:Æ)/\zP r Ñe=À ãd):=by
 rcases h with h|h;let{_,_,_,_,c,_}:=Td h;show .inl {c,?_};unfold tgt;rw[c];let{w,p,_,_,_,c,_,d,b,f,e}:=Mr h;let a:((Ğe:Â):Æ)=p:=by omega
 refine .inr {c,Ğe,by omega,?_,by rw[a,b],by rw[a,d]};unfold tgt;rw[c,a];show b
def dv(f:Â->Ñ)(d:D):D:=match d with
 |.tup [.int i,.int p]=>.int (xC f Ğe-xC f Ϗb)|_=>.zC
def ce{f:Â->Ñ}{n p:Â}(h:p<n):zP (Β (py f n)) ãd=À (Δ (xC f p)):=by refine Ja É ?_;rw[ŋ];unfold py;rw[ũ,Ϸe h];rfl
def vE(Ô:Á D)(f:Â->Ñ):Á D:=(ϛf).map (dv f)
def dk{Ô:Á D}{f:Â->Ñ}{i:Â}(h:i<ú):ąo[i]?=À (dv f ýi):=by unfold vE;rw[ũ,Ii,ũ,ė h];rfl
def dq(Ô:Á D)(f:Â->Ñ):(ąo).length=ú:=by unfold vE;rw[æ,Xw,æ]
theorem di{Ô a:Á D}(h:∀d∈a,vg d)(q:ό<=1000)(j:uZ Ōe Ô ĥc)(s:∀r∈Ô,kE (ú:Æ) r)(l:ú<=900){zE:Á Â} :UW Ïf=À (Ã,.lst đf):=by
 let e1:=z1h h (zE:=zE) (T4 j).symm l;let e2:=x3h h q j
 let t:yh če yl DI [À (Å,.lst a),À (Å,.lst ϑa),À (Å,.lst Ĵn),Ä,Ä] ϛf=À đf:=by
  show Za (dv ě) λd k=>?_
  let{i,e,w}:=ϵe k;let b:i<ú:=by rw[Xw,æ]at e;show e
  let c:ϛf[i]?=À d:=by rw[ė e,w]
  rw[Ii,ũ,ė b]at c
  let g:d=.tup Įg:=by
   injection c with z
   show Ļd
  subst g;let v:=ce (f:=ze zE) (n:=ú+1) (p:=i) É;rw[Ńp];rcases x3u (s _ (ñb b))with⟨_,z⟩|⟨_,p,x,z,_⟩;rw[z];unfold DI;simp only[Ù];rfl;rw[z];let u:=ce (f:=ze zE) (n:=ú+1) (p:=p) É;unfold DI;simp only[Ù,u,v];rfl
 let o:∀σ:yC,zX k9 ϩa σ=À (Β Ŕg)->kR Ġf σ=À ϛf:=λσ z=>by unfold kR;rw[z];rfl
 let m:=o [À (Å,.lst a),À (Å,.lst ϑa),À (Å,.lst Ĵn)] (by simp only[Ù,e2]);rw[z5q];unfold Ca;simp only[Ù,e1,m,t]
nonrec def Kl:D->Ñ
 |.zC=>Ã|.int x=>decide ϡi&&decide (x<=15)|_=>Å
def y0o{f:Â->Ñ}{d:D}:J7 [dv f d]=À (Å,.bl (Kl (dv f d))):=by
 let:dv f d=.zC\/∃x,dv f d=.int x:=by
  unfold dv
  split;show .inr {_,rfl};show .inl rfl
 rcases this with z|⟨x,z⟩<;>rw[z,z66]<;>unfold Cs;simp only[Ù];rfl;exact _=À (Å,Ϥb (decide ϡi&&decide (x<=15)));cases h1:decide ϡi<;>simp only[Ù,h1,Ëc]
def YB(Ô:Á D)(zE:Á Â)(i:Â):Ñ:=!Kl (dv ě Ŗk)
def gF(Ô:Á D)(zE:Á Â):Á Â:=(ϖc).filter (YB Ô zE)
def eO(l:Á Â):yM l=ż λi:Â=>ĉ i:=rfl
def y1c{Ô a:Á D}(h:∀d∈a,vg d)(v:ό<=1000)(A:uZ Ōe Ô ĥc)(w:∀r∈Ô,kE (ú:Æ) r)(u:ú<=900){zE:Á Â} :XM Ïf=À (Ã,.lst Òd):=by
 let o:=di h v A w u (zE:=zE)
 let e1:yh ła yl Sq Ōj ϑa=À (ϒb λi:Â=>œb ŷd):=by
  let:=Za (g:=yD 5) (e:=Sq) (σ:=Ōj) Ñl (ds:=yM zE) λd j=>{_,rfl,rfl}
  rw[this,eO,Ĝa];rfl
 obtain⟨K,V,e2,x⟩:∃K V,Xc čk=À ŋf/\∀n:Â,yq K ĺc=ze zE n:=by rw[Ĝp]
 let m:nA Ňj=À (wC ú):=by let:=kq (f:=eL qZ Ţb) (τ:=Ňj) (n:=((đf).length:Æ)) rfl (by rw[dq];omega);rw[dq,ŋ]at this;rw[ņp]
 let l:yh ła Oe Sr Ńj (wC ú)=À (yM ϖc):=by
  let:=IX (g:=yD 5) (c:=Oe) (e:=Sr) (σ:=Ńj) (λd=>match d with|.int i=>!ze zE Ϗb|_=>Å) id (ds:=wC ú) λd j=>by
   let{i,t,rfl}:=x8e j
   let p:YI źa ŋf=À (.bl (!ze zE i)):=by exact(úm).bind _=_;rw[x];rfl
   show{_,rfl,?_,λ_=>rfl};exact Oe _=À (!ze zE (íp).toNat);rw[ŋ];unfold Oe;simp only[Ù,p]
  rw[this,Ėf,Ģm];rfl
 let k:yh ła Of Ss ľj (yM ϖc)=À Òd:=by
  let:=IX (g:=yD 5) (c:=Of) (e:=Ss) (σ:=ľj) (λd=>match d with|.int i=>YB Ô zE Ϗb|_=>Å) id (ds:=yM ϖc) λd j=>by
   let{i,t,rfl}:=œ j;let b:i<ú:=ϳa (Âd t).1;let y:Ųb i .zC=Ô[i]:=by rw[Ϭ,ė b];rfl
   let q:zP (Β đf) źa=À (dv ě ýi):=Ja É (by rw[ŋ];show dk b);let s:=y0o (f:=ze zE) (d:=.tup Įg);show{_,rfl,?_,λ_=>rfl};exact Of _=À (YB Ô zE (íp).toNat);rw[ŋ];unfold Of YB;rw[y];generalize dv ě ýi=z at q s;simp only[Ù,q,s]
  rw[this,Ėf,eO,Ģm];rfl
 rw[z6q];unfold EG;generalize yM zE=FF at o e1 e2 m l k ⊢;generalize vE Ô ě=DD at o e1 e2 m l k ⊢;generalize yM ϖc=NN at o e1 e2 m l k ⊢;simp only[Ù,o,e1,e2,m,l,k]
def Z1(l:Á Â):Á Â:=(ęk).map ŝf
def x1t(l:Á Â):yM īj=(ęk).map ĉ:=by
 unfold yM Z1;rw[Ĝa];show List.map_congr_left λx a=>?_
 let{i,_,rfl}:=œ ((øf _).mem_iff.mp a);rfl
def Bh(l:Á Â):(īj).Perm l:=by
 let h:=(øf (ż λi:Â=>(i:Æ))).map ŝf;rw[Ĝa]at h
 let e:ż (ŝf∘λi:Â=>(i:Æ))=l:=by rw[show(ŝf∘λi:Â=>(i:Æ))=id from funext λi=>ŋ i,Ėf]
 rw[e]at h;show h
inductive Y8(g:Á Â->Á Â):Á Â->Á Â->Â->È
 |Ŵ {zE:Á Â}:g zE=[]->Y8 g zE zE 0
 |go {zE R:Á Â} {k:Â}:g zE≠[]->(üo).length<64->Y8 g çf R k->Y8 g zE R Ŝ
def XR(n:Â)(l:Á Â):È:=l.Nodup/\∀x∈l,x<n
theorem nK{g:Á Â->Á Â}{n:Â}(f:n<64)(b:∀zE,XR n zE->XR n üo):∀(m:Â)(zE:Á Â),XR n zE->n-ĺo<=m->∃R k,Y8 g zE R k/\k<=m/\XR n R
 |m,zE,gf,hm=>by
  by_cases e:g zE=[];show{zE,0,.stop e,Ϥ _,gf};let a:=b zE gf;let i:=Ee n a.1 a.2;let o:0<(g zE).length:=źg e;rw[ê]at i;let d:XR n çf:={(āg).nodup_iff.mpr a.1,λx j=>a.2 x ((āg).mem_iff.mp j)};let l:(çf).length=ĺo+(g zE).length:=by rw[(āg).length_eq,ê]
  match m,hm with
  |0,hm=>omega|m+1,hm=>let{R,k,h,p,c}:=nK f b m çf d É;show{R,k+1,.go e ϥl h,by omega,c}
def x1w{l:Á Â}(h:Ľb<64):GO [.lst (yM l)]=À (Β (yM īj)):=by
 let e:yM l=(ż λi:Â=>(i:Æ)).map ĉ:=by unfold yM;rw[Ĝa];rfl
 rw[x1t,e];exact(Ób _).bind _=_;rw[fj];exact(if(ż λi:Â=>(i:Æ)).length<64 then _ else _)=_;rw[Ò (by rw[æ];show h)]
theorem z1f{a b:Á Â}(h:(Ĉc).length<64):yk (Β (yM a)) (Β ęj)=À (Β (yM Ĉc)):=by exact(if(yM a).length+(ęj).length<=yN then _ else _)=_;rw[ê]at h;unfold yM;rw[Ò (by rw[æ,æ];rw[Ēp]),ûa]
theorem z4m(l:Á Â):(!(yM l).isEmpty)=decide (l≠[]):=by cases l<;>rfl
def z7b{Ô:Á D}{zE:Á Â}(h:XR ú zE):XR ú Ük:=by
 let d:∀x∈gF Ô zE,x<ú/\ze zE x=Å:=λx c=>by let f:=Âd (Âd c).1;show{ϳa f.1,by simpa using f.2}
 show{ăl {h.1,(List.nodup_range.filter _).filter _,λa j b i e=>?_},λx c=>?_};subst e;let g:=(d a i).2;let:ze zE a=Ã:=List.any_eq_true.mpr {.int (a:Æ),ϑd {a,j,rfl},Åc _};rw[this]at g;cases g;rcases Þa c with c|c;show h.2 x c;show(d x c).1
def z7s(zE:Á Â)(n:Â):T6 Źa (Β ϑa)=À (ze zE n):=by
 let b:(ϑa).all xO=Ã:=Ěb λy a=>by let{p,_,rfl}:=œ a;rfl
 exact(match xO Źa&&(ϑa).all xO with|Ã=>_|Å=>_)=_;rw[b];rfl
def z1w{Ô:Á D}{zE:Á Â}{i:Â}(h:wP Ļ=Å):YB Ô zE i=Å:=by unfold YB tgt;rw[h];rfl
def KG:FS:=(zb (yR 1 (eL GO (Α (e2 yk Ď Ěd))))
    ϙl)
def M7:FT:=(tE (e2 wO ĩ ûc))
def Cm:FS:=
 (zb (yR 1 ûc)
  (zb ϙl
  (zb (BY M7
   KG)
  (yL Ď))))
def J4:Á D->Ê ç:=FR 1 3 Cm
def z60(x0:D):J4 ô=yK 3 Cm ô:=rfl
theorem eP{Ô a:Á D}(b:∀zE,XM Ïf=À (Ã,.lst Òd)):∀{zE R:Á Â}{k:Â},Y8 Ϟf zE R k->
  jJ M7 KG Ŝ [À (Å,.lst a),À (Å,.lst ϑa),À (Å,.lst Òd)]=À (.nx [À (Å,.lst a),À (Å,.lst Ŀd),À (Å,.lst (yM []))])
 |zE,_,_,.stop e=>by rw[sG];rw[e];let h:=il Òd;rw[e]at h ⊢;unfold M7;simp only[Ù,h];rfl|zE,_,_,.go e h r=>by rw[sH (σ':=[À (Å,.lst a),À (Å,.lst (yM ϒi)),À (Å,.lst (yM (gF Ô ϒi)))]) ?_ ?_];show eP b r;let h:=il Òd;rw[z4m,õ e]at h;unfold M7;simp only[Ù,h];let f:=z1f h;let d:=x1w h;let c:=b ϒi;unfold KG;simp only[Ù,f,d,c]
theorem z4n{Ô a:Á D}(h:∀d∈a,vg d)(n:ό<=1000)(m:uZ Ōe Ô ĥc)(i:∀r∈Ô,kE (ú:Æ) r)(j:ú<64) :∃R k,Y8 Ϟf [] R k/\k<=64/\XR ú R/\J4 ċb=À (Å,.lst Ŀd):=by
 let{R,k,c,o,g}:=nK j (λb=>z7b (Ô:=Ô)) ú [] {Ϥd,λ_ h=>by cases h} Ĥb;let f:∀b,XM [.lst a,.lst ęj]=À (Ã,.lst (yM (gF Ô b))):=λb=>y1c h n m i É
 let e1:=eP f c;let e2:=nO _ e1 (İ (show k+1<=65 by omega) Í);let e:=f [];let l:yM []=[]:=rfl;rw[l]at e2 e;refine{R,k,c,by omega,g,?_};rw[z60];unfold Cm;simp only[Ù,e,e2]
def z22:FS:=
 (zb (xU (tE (e2 zr Ď (eC ăi)))
   (yL (wN (ξ (Α (Υ (wW Gh Gk))))))
   wX)
  (yL (e1 (wW u_ t4) Ď)))
def u8:Á D->Ê ç:=FR 2 2 z22
def EU:FS:=
 (yL (zX Y6 (γ (zA ěb (zA ϩb Ţb)))))
def gH:Á D->Ê ç:=FR 3 3 EU
def z73(x0 x1 x2:D):gH ϒ=yK 3 EU ϒ:=rfl
def Sh{x l d n:Æ}(h:Řg/\0<=n/\n<2 ^ ūc):gH Ϭk=À (Å,.int įg):=by let b:zP ģo ľ=À (.int l):=rfl;let a:zP ģo ÿa=À (.int d):=rfl;rw[z73];unfold EU;simp only[Ù,b,a,sJ h]
def w0m:FE:=Ď
def w0q:FT:=(tE (e2 wO Ď (eC ϋg)))
def z1x:FS:=
 (ql (wd 1 (u9 (Υ (wW Gg Gj))) Ħa w0q w0m))
def uq:Á D->Ê ç:=FR 1 1 z1x
def TV:FS:=(zb (yR 5 (ue (tE (e2 zr Ħ (eC ća))) (e1 (Jq Xk) ύ) ύ))
    (Ν (zX gH (Ω (zA (zX u8 (zA ŧd äc)) Ťf)))))
def YC:FS:=
 (zb (Ν (zX gH (ξ (zA Ϸk Ϭa))))
  (zb (pN (qc (wV uq Ϡo) (YF û (ge Ő) Yb)) če
   TV)
  (yL ĩ)))
def ub:Á D->Ê ç:=FR 2 6 YC
def VG(x0 x1:D):ub Ā=yK 6 YC Ā:=rfl
def Vf{c:Æ}(a:0<=c)(b:c<32):gH [.int 0,.tup ùm,.int c]=À (Å,.int Śh):=by rw[Sh (x:=0) (l:=27) (d:=5) (n:=c) {by decide,a,b}];simp
def Zg{x l d n m:Æ}(a:0<=l/\l<64)(b:0<=d/\d<64)(x0:0<=x)(n0:0<=n)(n1:n<2 ^ ūc)(hz:x/2 ^ l.toNat%2 ^ ūc=0)(c:m=2 ^ l.toNat):gH Ϭk=À (Å,.int (x+n*m)):=by rw[Sh {{x0,a.1,a.2,b.1,b.2},n0,n1},hz,c,Ďn]
theorem GV{c:Æ}(a:0<=c)(e:c<32){w:Ç}(f:uq źb=À (Ã,.lst [])):ub [.tup źb,.int c]=À (Å,.int Śh):=by
 rw[Åq]
 let d:=Vf a e;let b:Xf (.tup źb) ŭc Ä=À Öp:=by rfl
 rw[Śp]
theorem z4p{w:Ç}{c W d n:Æ}(o:uq źb=À (Ã,.lst Ŏl))(g:u8 Ôh=À (Å,.tup Ðd))(i:u8 Äm=À (Å,.tup Ħm))(e:0<=c)(s:c<32)(u:0<=W)(y:W<=16)(j:0<=d)(v:d<8)(n0:0<=n)(n1:n<2 ^ Ġa)(f:(2:Æ) ^ Ġa ∣ 16777216) :ub [.tup ţj,.int c]=À (Å,.int (c*134217728+d*16777216+n)):=by
 rw[Çq]
 let t:=Vf e s;let p:=Zg (x:=c*134217728) (l:=24) (d:=3) (n:=d) (m:=16777216) Í Í É j v ĸg Í
 have q:=Zg (x:=c*134217728+d*16777216) (l:=0) (d:=W) (n:=n) (m:=1) Í {u,by omega} É n0 n1 (by exact(c*134217728+d*16777216)/1%2 ^ Ġa=0;rw[ťb];let{k,a}:=f;rw[show c*134217728+d*16777216=2 ^ Ġa*(k*(8*c+d)) by rw[<-ϻm,<-a];omega];show ſl _ _) Í
 let h:zr Ąi ća=À ă:=by rfl
 let r:zr ăi ća=À ă:=by rfl
 let b:Xf ûi ŭc Ä=À (.tup [.int d,.int n]):=by rfl
 rw[ļp];simp only[Ù,a,t,Xm,o,qc,YF,ge,Yb,b,kz,Ŝb,ģc,TV,h,r,g,p,i,q,Ãe]
theorem z4q{w:Ç}{c d s:Æ}(q:uq źb=À (Ã,.lst ōl))(b:u8 Ôh=À (Å,.tup Ðd))(f:u8 Ãm=À (Å,.tup Üf))(a:0<=c)(u:c<32)(e:0<=d)(v:d<8)(k:0<=s)(p:s<8) :ub [.tup Ãk,.int c]=À (Å,.int Ēk):=by
 let r:wW u_ t4 ūb=À ϰb:=by rfl
 let t:=Vf a u;let h:=Zg (x:=c*134217728) (l:=24) (d:=3) (n:=d) (m:=16777216) Í Í É e v ĸg Í;let g:=Zg (x:=c*134217728+d*16777216) (l:=21) (d:=3) (n:=s) (m:=2097152) Í Í É k p ŷj Í;let o:zr Ąi ća=À ă:=by rfl
 let i:zr ĩo ća=À ă:=by rfl
 let j:Xf Ĥo ŭc Ä=À (.tup [.int d,.int s]):=by rfl
 rw[ļp];simp only[Ù,r,t,Xm,q,qc,YF,ge,Yb,j,kz,Ŝb,ģc,TV,o,i,b,h,f,g]
theorem z4r{w:Ç}{c d s n:Æ}(t:uq źb=À (Ã,.lst šk))(b:u8 Ôh=À (Å,.tup Ðd))(h:u8 Ãm=À (Å,.tup Üf))(e:u8 Äm=À (Å,.tup ħm))(a:0<=c)(z:c<32)(f:0<=d)(u:d<8)(p:0<=s)(r:s<8)(n0:0<=n)(n1:n<256) :ub [.tup ůj,.int c]=À (Å,.int (c*134217728+d*16777216+s*2097152+n)):=by
 let A:wW u_ t4 ūb=À ϰb:=by rfl
 let k:=Vf a z;let i:=Zg (x:=c*134217728) (l:=24) (d:=3) (n:=d) (m:=16777216) Í Í É f u ĸg Í;let j:=Zg (x:=c*134217728+d*16777216) (l:=21) (d:=3) (n:=s) (m:=2097152) Í Í É p r ŷj Í;let g:=Zg (x:=c*134217728+d*16777216+s*2097152) (l:=0) (d:=8) (n:=n) (m:=1) Í Í É n0 n1 (by exact Ēk/1%256=0;omega) Í;let q:zr Ąi ća=À ă:=by rfl
 let y:zr ĩo ća=À ă:=by rfl
 let o:zr ăi ća=À ă:=by rfl
 let v:Xf ĥo ŭc Ä=À (.tup [.int d,.int s,.int n]):=by rfl
 rw[ļp];simp only[Ù,A,k,Xm,t,qc,YF,ge,Yb,v,kz,Ŝb,ģc,TV,q,y,o,b,i,h,j,e,g,Ãe]
theorem f6{c m:Æ}{w k:Ç}(f:uq źb=À (Ã,.lst Ðe))(b:u8 Óh=À (Å,.tup ϔd))(j:Jq Xk ďa=À ŭb)(h:0<=m)(q:m<3)(e:0<=c)(p:c<32):ub [.tup Ŧd,.int c]=À (Å,.int ϸk):=by
 let i:wW u_ t4 ūb=À ϰb:=by rfl
 let o:=Vf e p;let g:=Zg (x:=c*134217728) (l:=24) (d:=2) (n:=m) (m:=16777216) Í Í É h ĵl Àk Í;rw[àq]
 let a:Xf üi ŭc Ä=À (.tup Ċb):=by rfl
 rw[ļp];simp only[Ù,i,o,Xm,f,qc,YF,ge,Yb,a,kz,Ŝb,ģc,TV,e1,j,b,g]
def EH:FS:=
 (yL (zX vG (γ (zA ěb (Α ϩb)))))
def ZL:Á D->Ê ç:=FR 2 2 EH
def z6r(x0 x1:D):ZL Ā=yK 2 EH Ā:=rfl
def CZ:FS:=
 (yL (zX ZL (Κ Ϸk)))
def ZJ:Á D->Ê ç:=FR 1 1 CZ
def z5p(x0:D):ZJ ô=yK 1 CZ ô:=rfl
def w0n:FE:=ĩ
def w0r:FT:=(Δc Ăo)
def w0o:FE:=ĩ
def w0s:FT:=(Δc ăo)
def w0p:FE:=ĩ
def w0t:FT:=(Δc Ąo)
def z20:FS:=
 (zb (pO 1 (wd 1 (iG kM) ćc w0r w0n))
  (zb (qk 1 (wd 1 (iG YK) ćc w0s w0o))
  (zb (qk 1 (wd 1 (iG YJ) ćc w0t w0p))
  (zb (Tj 1) (yL (ue (tE (e2 zr Ď ûc)) ïa ěb))))))
def UZ:Á D->Ê ç:=FR 1 2 z20
def z1z:FS:=
 (Ιe (.lst ZV))
def Y5:Á D->Ê ç:=FR 1 1 z1z
def z1y:FS:=
 (Ιe (.lst ZU))
def XF:Á D->Ê ç:=FR 1 1 z1y
def Lu:FS:=
 (zb (yR 3 (zX ZL (Κ (zX u8 (ζ (Ρ (z6 2)))))))
  (zb (xU (tE (e2 wO ĩ (eC ća)))
   (yL Ħ)
   wX)
  (yL (ue (tE (e2 Ňc Ħ (eL qZ (Α Ôg)))) (e2 zP Ôg Ħ) ïa))))
def qz:Á D->Ê ç:=FR 3 4 Lu
def fL(x0 x1 x2:D):qz ϒ=yK 4 Lu ϒ:=rfl
def WH:FE:=(zX qz (γ (Ω Ťf)))
def EL:FS:=
 (zb (yR 1 (zX ZJ ϩa))
  (zb (Ν (zX UZ Ϭa))
  (zb (xU İl
   ğd
   wX)
  (zb (yR 3 (εc (e2 yk (w8 ϭn) (wd 1 (u9 (wV uq ϭn)) ła yl WH))))
  (zb (xU (tE (e2 tN ïa Ħ))
   ğd
   wX)
  (zb (yR 4 (ue (tE (zX Y5 Ϭa)) (zX gH (γ (zA Œg ϸh))) û))
  (yL (ue (tE (e2 zr (zX ub (zA Ħ Ϭa)) ύ)) Ħ ïa))))))))
def jV:Á D->Ê ç:=FR 1 5 EL
def z6v(x0:D):jV ô=yK 5 EL ô:=rfl
def EN:FS:=
 (zb ýo
  (yL (ue (tE (e2 Ňc đh ĩ)) û (e2 kL û ĩ))))
def XN:Á D->Ê ç:=FR 2 3 EN
def z6x(x0 x1:D):XN Ā=yK 3 EN Ā:=rfl
def Ck:FS:=
 (zb (xU (tE (e2 ϸd Ϡd Üc))
   ğd
   wX)
  (Υc (zA (e2 yk Ď řb) (ψd (zA (e2 zP û Ϡd) Ŵo)))))
def J3:Á D->Ê ç:=FR 3 3 Ck
def z5z(x0 x1 x2:D):J3 ϒ=yK 3 Ck ϒ:=rfl
def Uu:FS:=
 (zb (xU (ζc (e2 Ňc Ď ĝ) (e2 ϸd Ď Üc))
   ğd
   wX)
  (zb (Ν (zX jV ĸi))
  (zb (xU İl
   ğd
   wX)
  (zb (yR 3 (zX ZJ ĸi))
  (zb (xU (tE (zX XF äc))
   (yL (zX J3 (γ (zA Ď Ţb))))
   wX)
  (zb (xU (tE (zX Y5 äc))
   (zb (yR 4 Œg)
    (Υc (zA Ϡd (ψd (zA (zX ZL (zA ϟe Ϯn)) (Ρ (e2 zP ύ Ő)))))))
   wX)
  (Υc (zA Ϡd (Α ïa)))))))))
def gE:Á D->Ê ç:=FR 2 5 Uu
def MW(x0 x1:D):gE Ā=yK 5 Uu Ā:=rfl
def B8{x l W:Æ}(a:0<=l)(c:0<=W)(e:W<64):ZL [.int x,.tup ϡg]=À (Å,.int Žg):=by
 let b:zP Ģo ľ=À (.int l):=rfl;let d:zP Ģo ÿa=À (.int W):=rfl;let e1:=Te (i:=1) (j:=W) c e Í Í
 let p:vG [.int x,.int l,.int W]=À (Å,.int Žg):=by rw[fO];unfold Lx;simp only[Ù,e1,õ a,lP]
 rw[z6r];unfold EH;simp only[Ù,b,d,p]
theorem Uz{x:Æ}(b:0<=x)(c:x<4294967296):ZJ ϒa=À (Å,.int (x/134217728)):=by
 rw[Çq]
 let n:ZL [.int x,.tup ùm]=À (Å,.int (x/134217728%32)):=B8 Í Í Í;rw[show x/134217728%32=x/134217728 by omega]at n;rw[z5p];unfold CZ;simp only[Ù,a,n]
nonrec def ZZ:Á D:=[.str Ÿb,.str ϡa,.str ϗa,.str Đb,.str ńa,.str Õb,.str Ûb,.str Ôb,.str ßb,.str åb,.str Üb,.str Ĥa,.str Ŀa,.str ϔa,.str ũa,.str Ļa,.str ļa,.str ĺa,.str ϧ,.str ϩ,.str Åa,.str ϧ,.str ϩ,.str Åa]
theorem z8n:(ôc).map (λc:Â=>UZ Īh)=(ôc).map λc=>À (Å,Ňb c .zC):=by kernel_rfl
def y0p:(ôc).map (λc:Â=>Y5 Īh)=(ôc).map λc=>À (Å,.bl (decide (18<=c)&&decide (c<=20))):=by kernel_rfl
def z4l:(ôc).map (λc:Â=>XF Īh)=(ôc).map λc=>À (Å,.bl (decide (21<=c)&&decide (c<=23))):=by kernel_rfl
def Ks{f g:Â->Ê ç}(h:(ôc).map f=(ôc).map g){n:Â}(a:n<32):f n=g n:=by let e:=Ÿ (λl=>l[n]?) h;simp only[ũ,Ϸe a,Ğm]at e;show úa e
def K9{n:Â}(h:n<32):UZ ĩh=À (Å,Ňb n .zC):=Ks z8n h
def Ih{n:Â}(h:n<32):Y5 ĩh=À (Å,.bl (decide (18<=n)&&decide (n<=20))):=Ks y0p h
def GT{n:Â}(h:n<32):XF ĩh=À (Å,.bl (decide (21<=n)&&decide (n<=23))):=Ks z4l h
def VN{x l W:Æ}{k f:Ç}(b:u8 [.str k,.str f]=À (Å,.tup ϡg))(c:wO (.str f) ća=À ň)(a:0<=l)(d:0<=W)(e:W<64):qz [.int x,.str k,.str f]=À (Å,.int Žg):=by let n:=B8 (x:=x) a d e;rw[fL];unfold Lu;simp only[Ù,b,n,c]
nonrec def iP:Á D:=[.str ða,.str ĵa,.str ŧa,.zC]
theorem z7f{x:Æ}{k:Ç}(b:u8 [.str k,.str Ðb]=À (Å,.tup ϔd)):qz [.int x,.str k,.str Ðb]=À (Å,iP.getD (źm).toNat .zC):=by
 let n:ZL [.int x,.tup ϔd]=À (Å,.int źm):=B8 Í Í Í;let a:wO ća ća=À ă:=by rfl
 rw[fL];unfold Lu;rcases(show x/16777216%4=0\/x/16777216%4=1\/x/16777216%4=2\/x/16777216%4=3 by omega)with e|e|e|e<;>rw[e]at n ⊢;let i:zP kN ľ=À åd:=rfl;rw[Żp];let i:zP kN ÿa=À Øe:=rfl;rw[Żp];let i:zP kN þb=À Öe:=rfl;rw[Żp];simp only[Ù,b,n,a];rfl
def Ni{x c Z a:Æ}{b:Ñ}{k:Ç}{fs R:Á D}(g:ZJ ϒa=À (Å,.int c))(hk:UZ Ŀb=À (Å,.str k))(j:uq Ċb=À (Ã,.lst fs))(o:yh ła yl WH [À (Å,.int x),À (Å,.int c),À (Å,.str k),Ä,Ä,Ä] fs=À R)(i:tN .zC ąd=À ă)(q:ñc<=3)(d:Y5 Ŀb=À (Å,.bl b))(m:b=Ã->gH ϭk=À (Å,.int a))(p:b=Å->a=x)(hz:ub [.tup ϻb,.int c]=À (Å,.int Z)) :jV ϒa=À (Å,if Z=a then .tup ϻb else .zC):=by
 let n:yk (.lst Ċb) (.lst R)=À (Β ϻb):=by rw[z1g (by simp only[Ě,ϝd];omega)];rfl
 let l:VC [.lst ϻb]=À ąd:=rfl;let h:wW u_ t4 Āi=À Õe:=by rfl
 let f:zr (.int Z) ĥd=À (Ωa (Z=a)):=by by_cases e:Z=a;rw[IN e,õ e];rw[Mm e,ē e]
 rw[z6v];unfold EL;cases b with
 |Ã=>have m:=m rfl;by_cases e:Z=a;rw[Ò e];rw[õ e]at f;simp only[Ù,g,hk,j,o,n,l,i,d,h,m,hz,f];rw[Ó e];rw[ē e]at f;simp only[Ù,g,hk,j,o,n,l,i,d,h,m,hz,f]|Å=>obtain rfl:x=a:=(p rfl).symm;by_cases e:Z=x;rw[Ò e];rw[õ e]at f;simp only[Ù,g,hk,j,o,n,l,i,d,h,hz,f];rw[Ó e];rw[ē e]at f;simp only[Ù,g,hk,j,o,n,l,i,d,h,hz,f]
theorem oK{n W:Æ}(d:0<=W)(e:W<64):XN [.int n,.int W]=À (Å,.int (if 2*n<2 ^ Ġa then n else n-2 ^ Ġa)):=by
 let e1:=Te (i:=1) (j:=W) d e Í Í;let b:j7 2=Ã:=by decide
 rw[z6x];unfold EN;by_cases c:2*n<2 ^ Ġa;rw[Ò c];let a:decide Őm=Ã:=õ É;simp only[Ù,e1,b,a];rw[Ó c];let a:decide Őm=Å:=ē É;simp only[Ù,e1,b,a,ē c,ņc]
theorem x69{ws:Á D}{a:Æ}(h:a<0\/(Ţa:Æ)<=a):gE Ûf=À (Å,.zC):=by
 rw[ϸp];by_cases c:a<0;simp only[Ù,õ c];let d:(Ţa:Æ)<=a:=by omega
 simp only[Ù,ē c,õ d]
structure At(ws:Á D)(a x:Æ):È where
 a0:0<=a
 a1:a<(Ţa:Æ)
 ix:zP õe ĥd=À Ža
 x0:0<=x
 x1:x<4294967296
section
variable{ws:Á D}{a x:Æ}(A:At ws a x)
include A
theorem At.cond{α:Type}:decide (a<0)=Å/\decide ((Ţa:Æ)<=a)=Å/\decide (0<=a)=Ã/\decide (a<(Ţa:Æ))=Ã:=by let{b,c,_,_,_}:=A;show{ē É,ē É,õ b,õ c}
theorem x6a{c:Æ}{R:Á D}(e:ZJ ϒa=À (Å,.int c))(g:XF Ŀb=À (Å,.bl Å))(f:Y5 Ŀb=À (Å,.bl Å))(d:jV ϒa=À (Å,.tup R)) :gE Ûf=À (Å,.tup [.tup R,.int (a+1),.zC]):=by let{i,b,_,_}:=ĕj (α:=Â);let h:=A.ix;rw[ϸp];simp only[Ù,i,b,h,d,e,g,f,Èa]
theorem x68{c:Æ}{R:Á D}(e:ZJ ϒa=À (Å,.int c))(h:XF Ŀb=À (Å,.bl Å))(f:Y5 Ŀb=À (Å,.bl Ã))(d:jV ϒa=À (Å,.tup R)) :gE Ûf=À (Å,.tup [.tup R,.int (a+1),.int (a+ūe)]):=by
 let{k,b,_,_}:=ĕj (α:=Â);let i:=A.ix;let j:wW u_ t4 Āi=À Õe:=by rfl
 let n:ZL [.int x,.tup ıg]=À (Å,.int (x/1%32)):=B8 Í Í Í;rw[ťb]at n;let s:XN [.int (x%32),.int 5]=À (Å,.int ūe):=oK Í Í;let g:zP Õe ÿa=À êc:=rfl;rw[ϸp];generalize ūe=S at s ⊢;simp only[Ù,k,b,i,d,e,h,f,j,n,g,s,Èa]
theorem x67{c:Æ}{R:Á D}(g:ZJ ϒa=À (Å,.int c))(i:XF Ŀb=À (Å,.bl Ã))(f:jV ϒa=À (Å,.tup R)){y:Æ}(h:zP õe (Δ (a+1))=À (.int y))(l:a+1<(Ţa:Æ)) :gE Ûf=À (Å,.tup ĝk):=by
 let{k,b,_,_}:=ĕj (α:=Â);let j:=A.ix;let s:XN [.int y,.int 32]=À (Å,.int Ĥg):=oK Í Í;let d:decide ((Ţa:Æ)<=a+1)=Å:=ē É
 let e:J3 [.lst ws,.int a,.tup R]=À (Å,.tup ĝk):=by rw[z5z];unfold Ck;generalize Ĥg=S at s ⊢;simp only[Ù,Èa,d,h,s]
 rw[ϸp];simp only[Ù,k,b,j,f,g,i,e]
#print a
def ES:FS:=
 (zb ýo
  (zb (xU (ζc (e2 Ňc đh (e1 Xe ĩ)) (e2 ϸd đh ĩ))
   Āb
   wX)
  (yL (ue (tE (e2 ϸd û ĝ)) û (e2 yk û ĩ)))))
def Uf:Á D->Ê ç:=FR 2 3 ES
def z71(x0 x1:D):Uf Ā=yK 3 ES Ā:=rfl
def EY:FS:=
 (yL (Ηc Ăo))
def Uh:Á D->Ê ç:=FR 1 1 EY
def z77(x0:D):Uh ô=yK 1 EY ô:=rfl
def EF:FS:=
 (zb (yR 2 Œg)
  (yL (zX gH (zA (Ηc ăo) (Ω (Ξe (Ρ (e2 zP (z6 2) Ő))))))))
def Uc:Á D->Ê ç:=FR 2 3 EF
def z6p(x0 x1:D):Uc Ā=yK 3 EF Ā:=rfl
def Cn:FS:=
 (ql (Ψ (Ηc Ąo) (Ξe Ŵo)))
def Wl:Á D->Ê ç:=FR 2 2 Cn
def z61(x0 x1:D):Wl Ā=yK 2 Cn Ā:=rfl
def IV:FS:=(xU (tE (e2 YH Đh ïa))
     (Yj 3 ZQ (zX Uh Ťf))
     (xU (tE (e2 tN ύ Ď))
       (qk 3 (wV Wl ŋg))
       (Yj 3 ZQ (zX Uc ŋg))))
def Ec:FS:=
 (zb (yR 1 (zX J4 ϩa))
  (zb Ϛl
  (zb Čo
  (zb (pN (kR çd) (uf 4 5)
   IV)
  (jz 3)))))
def XO:Á D->Ê ç:=FR 1 6 Ec
def z79(x0:D):XO ô=yK 6 Ec ô:=rfl
def rO{d W:Æ}(l:0<=W)(o:W<64)(q : -(2 ^ Ġa)<=2*d)(n:2*d<2 ^ Ġa):Uf [.int d,.int W]=À (Å,.int (d%2 ^ Ġa)):=by
 let e1:=Te (i:=1) (j:=W) l o Í Í;let{p,k}:=l_ (d:=Ġa) É;let g:j7 2=Ã:=by decide
 rw[z71];unfold ES;obtain⟨P,e⟩:∃P:Æ,P=2 ^ Ġa:={_,rfl};rw[<-e]at q n p k ⊢;let h:decide (2*d < -(1*P))=Å:=ē É;let f:decide (1*P<=2*d)=Å:=ē É;cases c:decide (0<=d)with
 |Ã=>have c:=Ŋ c;let m:d%P=d:=Îf c É;simp only[Ù,e1,g,<-e,h,f,õ c,m]|Å=>
  let r:=Ŵl c
  have m:d%P=d+P:=by rw[<-Int.add_emod_right (a:=d) (b:=P)];show Îf É É
  simp only[Ù,e1,g,<-e,h,f,c,Èa,m];rw[ņc]
theorem z9e{g:FG}{c:FT}{e:FE}{σ σ1:yC}{d x:D}{r xs:Á D}(a:g d σ=À σ1)(b:c σ1=À Ã)(f:e σ1=À x)(h:yh g c e σ r=À xs):yh g c e σ (d::r)=À Üj:=by rw[yh,a,ϵa,b,ϵa];rw[áq];rw[f,h];rfl
def YU{x:Æ}{N r:D}{k:Ç}{f:D}{fs R:Á D}(h:qz [.int x,.str k,f]=À (Å,r))(a:yh ła yl WH Ťj fs=À R):yh ła yl WH Ťj (f::fs)=À (r::R):=
 z9e (σ1:=[À (Å,.int x),À (Å,N),À (Å,.str k),Ä,Ä,À (Å,f)]) rfl rfl (by simp only[Ù,WH,h]) a
def Jh{q d B r b:Æ}(h:0<B)(f:0<=d)(c:d<b)(e:0<=r)(a:r<B):(q*(b*B)+d*B+r)/B%b=d:=by rw[<-ϻm,<-Int.add_mul,đn,Int.add_mul_ediv_right _ _ (Ĉf h),Int.ediv_eq_zero_of_lt e a,čn,đn,Int.add_mul_emod_self_right,Îf f c]
structure Uq(r:D)(v:Æ):È where
 v0:0<=v
 v1:v<4294967296
 c:∃n:Â,n<=17/\v/134217728=(n:Æ)
 w:Uh [r]=À (Å,.int v)
 r:jV [.int v]=À (Å,r)
def DF{k:Ç}{n:Â}{v:Æ}{R fs:Á D}(e:0<=v)(v1:v<4294967296)(d:n<=17)(hv:v/134217728=(n:Æ))(hk:Ňb n .zC=.str k)(g:wW kM kO ďa=À Źa)(j:uq Ċb=À (Ã,.lst fs))(l:yh ła yl WH [À (Å,.int v),À (Å,.int (n:Æ)),À (Å,.str k),Ä,Ä,Ä] fs=À R)(i:tN .zC ąd=À ă)(f:ñc<=3)(hz:ub żg=À (Å,.int v)):Uq ąd v:=by show{e,v1,{n,d,hv},?_,?_};rw[z77];unfold EY;simp only[Ù,Xm,g,hz];let b:=Uz e v1;rw[hv]at b;rw[čp];rw[ē (show ¬ 18<=n by omega),Ëc]at a;let:=Ni b c j l i f a Ûh âc hz;rw[this,Ò rfl]
theorem DE{n:Â}{k:Ç}{W P d m:Æ}(e:n<=17)(hk:Ňb n .zC=.str k)(t:wW kM kO ďa=À Źa)(o:uq Ċb=À (Ã,.lst Ŏl))(h:u8 Õh=À (Å,.tup Ðd))(g:u8 Æm=À (Å,.tup Ħm))(r:0<=W)(v:W<=16)(p:(2:Æ) ^ Ġa=P)(a:(2:Æ) ^ Ġa ∣ 16777216)(i:0<=d)(s:d<8)(q:0<=m)(x:m<P)(u:P<=65536)(w:Ĝc%P=m):Uq (.tup [.str k,.int d,.int m]) Ĝc:=by
 let f:=z4p (c:=(n:Æ)) (d:=d) (n:=m) o h g É É r v i s q (by rw[p];show x) a;let l:qz [.int Ĝc,.str k,.str "d"]=À (Å,.int (Ĝc/16777216%8)):=VN h łb Í Í Í;have j:qz [.int Ĝc,.str k,.str "n"]=À (Å,.int (Ĝc/1%P)):=by rw[<-p];show VN g łb Í r É
 rw[ťb,w]at j;rw[show Ĝc/16777216%8=d from Jh (B:=16777216) (b:=8) Í i s q É]at l;show DF É É e É hk t o (YU l öi) rfl è f
def Yp{n:Â}{k:Ç}{d s:Æ}(t:n<=13)(hk:Ňb n .zC=.str k)(u:wW kM kO ďa=À Źa)(o:uq Ċb=À (Ã,.lst ōl))(i:u8 Õh=À (Å,.tup Ðd))(f:u8 Åm=À (Å,.tup Üf))(j:0<=d)(p:d<8)(g:0<=s)(l:s<8):Uq (.tup [.str k,.int d,.int s]) ϕc:=by let e:=z4q (c:=(n:Æ)) (d:=d) (s:=s) o i f É É j p g l;let h:qz [.int ϕc,.str k,.str "d"]=À (Å,.int (ϕc/16777216%8)):=VN i łb Í Í Í;let m:qz [.int ϕc,.str k,.str "s"]=À (Å,.int (ϕc/2097152%8)):=VN f łb Í Í Í;rw[show ϕc/16777216%8=d from Jh (B:=16777216) (b:=8) Í j p É É]at h;let a:=Jh (q:=(n:Æ)*8+d) (B:=2097152) (b:=8) (r:=0) Í g l Í Í;rw[show ýn*Ëo+s*2097152+0=(n:Æ)*134217728+d*16777216+s*2097152 by omega]at a;rw[a]at m;show DF É É É É hk u o (YU h (YU m rfl)) rfl è e
def DC{n:Â}{k:Ç}{d s m:Æ}(f:n<=17)(hk:Ňb n .zC=.str k)(y:wW kM kO ďa=À Źa)(v:uq Ċb=À (Ã,.lst šk))(j:u8 Õh=À (Å,.tup Ðd))(h:u8 Åm=À (Å,.tup Üf))(a:u8 Æm=À (Å,.tup ħm))(l:0<=d)(x:d<8)(p:0<=s)(u:s<8)(w:0<=m)(z:m<256):Uq (.tup [.str k,.int d,.int s,.int m]) Ϧb:=by let g:=z4r (c:=(n:Æ)) (d:=d) (s:=s) (n:=m) v j h a É É l x p u w z;let t:qz [.int Ϧb,.str k,.str "d"]=À (Å,.int (Ϧb/16777216%8)):=VN j łb Í Í Í;let o:qz [.int Ϧb,.str k,.str "s"]=À (Å,.int (Ϧb/2097152%8)):=VN h łb Í Í Í;let i:qz [.int Ϧb,.str k,.str "n"]=À (Å,.int (Ϧb/1%256)):=VN a łb Í Í Í;rw[Àn,show((n:Æ)*134217728+d*16777216+(s*2097152+m))/16777216%8=d from Jh (B:=16777216) (b:=8) Í l x É É,<-Àn]at t;let e:=Jh (q:=(n:Æ)*8+d) (B:=2097152) (b:=8) (r:=m) Í p u w É;rw[show ýn*Ëo+s*2097152+m=(n:Æ)*134217728+d*16777216+s*2097152+m by omega]at e;rw[e]at o;rw[show Ϧb/1%256=m by omega]at i;show DF É É f É hk y v (YU t (YU o (YU i rfl))) rfl è g
def y7i{r:D}(h:pp r):∃v:Æ,Uq r v:=by
 cases h with
 |Ŵ=>show{0,DF (n:=0) (fs:=[]) Í Í Í Í rfl rfl rfl rfl rfl è (GV (c:=0) Í Í rfl)}|Wc hw d0 d1 n0 n1=>rcases hw with rfl|rfl;show{_,DE (n:=1) (W:=16) (P:=65536) Í rfl rfl rfl rfl rfl Í Í Í Í d0 d1 n0 n1 Í É};show{_,DE (n:=2) (W:=16) (P:=65536) Í rfl rfl rfl rfl rfl Í Í Í Í d0 d1 n0 n1 Í É}
 |two hw d0 d1 s0 s1=>rcases hw with rfl|rfl|rfl|rfl|rfl|rfl|rfl|rfl|rfl;show{_,Yp (n:=3) Í rfl rfl rfl rfl rfl d0 d1 s0 s1};show{_,Yp (n:=4) Í rfl rfl rfl rfl rfl d0 d1 s0 s1};show{_,Yp (n:=5) Í rfl rfl rfl rfl rfl d0 d1 s0 s1};show{_,Yp (n:=6) Í rfl rfl rfl rfl rfl d0 d1 s0 s1};show{_,Yp (n:=7) Í rfl rfl rfl rfl rfl d0 d1 s0 s1};show{_,Yp (n:=8) Í rfl rfl rfl rfl rfl d0 d1 s0 s1};show{_,Yp (n:=9) Í rfl rfl rfl rfl rfl d0 d1 s0 s1};show{_,Yp (n:=10) Í rfl rfl rfl rfl rfl d0 d1 s0 s1};show{_,Yp (n:=11) Í rfl rfl rfl rfl rfl d0 d1 s0 s1}
 |Wf hw d0 d1 n0 n1=>rcases hw with rfl|rfl;show{_,DE (n:=12) (W:=5) (P:=32) Í rfl rfl rfl rfl rfl Í Í Í Í d0 d1 n0 n1 Í É};show{_,DE (n:=13) (W:=5) (P:=32) Í rfl rfl rfl rfl rfl Í Í Í Í d0 d1 n0 n1 Í É}
 |mem hw d0 d1 s0 s1 n0 n1=>rcases hw with rfl|rfl|rfl|rfl;show{_,DC (n:=14) Í rfl rfl rfl rfl rfl rfl d0 d1 s0 s1 n0 n1};show{_,DC (n:=15) Í rfl rfl rfl rfl rfl rfl d0 d1 s0 s1 n0 n1};show{_,DC (n:=16) Í rfl rfl rfl rfl rfl rfl d0 d1 s0 s1 n0 n1};show{_,DC (n:=17) Í rfl rfl rfl rfl rfl rfl d0 d1 s0 s1 n0 n1}
nonrec def Je:D->D
 |.tup xs=>.tup xs.dropLast|d=>d
nonrec def cJ:D->Æ
 |.tup Ài=>if w = ϩ then 1 else if w = Åa then 2 else 0|_=>0
nonrec def mJ:D->Æ
 |.tup [_,.str k,_]=>if k = ĵa then 1 else if k = ŧa then 2 else 0|_=>0
structure Le(r y:D)(c m:Æ):È where
 c0:0<=c
 c1:c<3
 m0:0<=m
 m1:m<3
 nw:∀d:Æ,-16<=d->d<=15->Uc ļf=À (Å,.int Ŋg)
 fw:∀d:Æ,-1000<=d->d<=1000->Wl ļf=À (Ã,.lst Ïk)
 nr:∀d:Æ,jV [.int Ŋg]=À (Å,Je r)
 fr:jV [.int όo]=À (Å,Je r)
 hd:∃R,Je r=.tup R/\R≠[]/\ñc<=2/\R.all xO=Ã
def e_{c:Æ}{t:Ç}(a:0<=c)(e:c<32):ub [.tup [.str ϧ,.str t],.int c]=À (Å,.int Śh):=by
 rw[Åq]
 let f:uq éi=À (Ã,.lst []):=by rfl
 let d:=Vf a e;let b:Xf ϙe ŭc Ä=À (.tup [.str t]):=by rfl
 rw[Śp]
theorem ek{c m:Æ}{w k t:Ç}(a:w = ϩ \/ w = Åa)(o:Jq Xk ďa=À ŭb)(i:0<=m)(r:m<3)(f:0<=c)(q:c<32):ub [.tup âl,.int c]=À (Å,.int ϸk):=by
 let j:wW u_ t4 ūb=À ϰb:=by rfl
 let g:uq źb=À (Ã,.lst Ðe):=by rcases a with rfl|rfl<;>rfl
 let e:u8 Óh=À (Å,.tup ϔd):=by rcases a with rfl|rfl<;>rfl
 let p:=Vf f q;let h:=Zg (x:=c*134217728) (l:=24) (d:=2) (n:=m) (m:=16777216) Í Í É i ĵl Àk Í;rw[àq]
 let b:Xf Ϙc ŭc Ä=À (.tup [.str k,.str t]):=by rfl
 rw[ļp];simp only[Ù,j,p,Xm,g,qc,YF,ge,Yb,b,kz,Ŝb,ģc,TV,e1,o,e,h]
theorem im{y:D}{w:Ç}{c m d:Æ}(g:zP y ľ=À ϲ)(n0:wW YK ZV ϲ=À (Δ ůc))(h:0<=c)(o:c<3)(k:0<=m)(j:m<3)(f:ub [y,.int ůc]=À (Å,.int ύo))(i : -16<=d)(p:d<=15) :Uc ļf=À (Å,.int Ŋg):=by
 let e:wW u_ t4 Āi=À Õe:=by rfl
 let b:zP Õe ÿa=À êc:=rfl;let u:=rO (d:=d) (W:=5) Í Í (by exact(-32:Æ)<=_;omega) (by exact _<(32:Æ);omega);let a:d%2 ^ (5:Æ).toNat=d%32:=rfl;rw[a]at u;let q:=Zg (x:=ůc*134217728+m*16777216) (l:=0) (d:=5) (n:=d%32) (m:=1) Í Í É É (by exact d%32<32;omega) (by exact ύo/1%32=0;omega) Í;rw[z6p];unfold EF;generalize ůc*134217728+m*16777216=Z at e b g n0 f u q ⊢;simp only[Ù,e,b,g,n0,f,u,q,Ãe]
theorem eQ{y:D}{w:Ç}{c m d:Æ}(b:zP y ľ=À ϲ)(n0:wW YJ ZU ϲ=À (Δ ķe))(f:ub [y,.int ķe]=À (Å,.int όo))(e : -1000<=d)(g:d<=1000) :Wl ļf=À (Ã,.lst Ïk):=by let u:=rO (d:=d) (W:=32) Í Í (by exact(-4294967296:Æ)<=_;omega) (by exact _<(4294967296:Æ);omega);let a:d%2 ^ (32:Æ).toNat=d%4294967296:=rfl;rw[a]at u;rw[z61];unfold Cn;simp only[Ù,b,n0,f,u]
theorem l7{x Z:Æ}{n:Â}{k:Ç}{fs R:Á D}(x0:0<=x)(x1:x<4294967296)(j:x/134217728=(n:Æ))(n0:18<=n)(n1:n<=20)(hk:Ňb n .zC=.str k)(i:uq Ċb=À (Ã,.lst fs))(l:yh ła yl WH Śj fs=À R)(g:tN .zC ąd=À ă)(e:ñc<=3)(hz:ub żg=À (Å,.int Z))(f:Z=x+(0-x%32)*1):jV ϒa=À (Å,.tup ϻb):=by let b:=Uz x0 x1;rw[j]at b;rw[čp];rw[õ n0,õ n1,ùf]at a;let d:gH ϭk=À (Å,.int (x+(0-x/1%32)*1)):=Sh {{x0,by decide,by decide,by decide,by decide},by decide,by decide};rw[ťb]at d;let:=Ni b c i l g e a (λ_=>d) Ûh hz;rw[this,Ò f]
theorem eV{x:Æ}{n:Â}{k:Ç}{fs R:Á D}(x0:0<=x)(x1:x<4294967296)(g:x/134217728=(n:Æ))(n0:21<=n)(n1:n<=23)(hk:Ňb n .zC=.str k)(f:uq Ċb=À (Ã,.lst fs))(i:yh ła yl WH Śj fs=À R)(e:tN .zC ąd=À ă)(d:ñc<=3)(hz:ub żg=À (Å,.int x)):jV ϒa=À (Å,.tup ϻb):=by let b:=Uz x0 x1;rw[g]at b;rw[čp];rw[ē (show ¬ n<=20 by omega),ëf]at a;let:=Ni b c f i e d a Ûh âc hz;rw[this,Ò rfl]
theorem z8e{p:Æ}{t:Ç}:Le ϻk ϙe 0 0:=by refine{by decide,by decide,by decide,by decide,λd b a=>?_,λd b a=>?_,λd=>?_,?_,{_,rfl,by simp,by simp,rfl}};show im (w := ϧ) (c:=0) (m:=0) rfl rfl Í Í Í Í ľn b a;show eQ (w := ϧ) (c:=0) (m:=0) rfl rfl ľn b a;refine l7 (n:=18) (k := ϧ) (fs:=[]) (R:=[]) (Z:=18*134217728) É É É Í Í rfl rfl rfl rfl è (GV (c:=18) Í Í rfl) É;show eV (n:=21) (k := ϧ) (fs:=[]) (R:=[]) É É É Í Í rfl rfl rfl rfl è (GV (c:=21) Í Í rfl)
def z38{w k:Ç}{p:Æ}{t:Ç}(e:w = ϩ \/ w = Åa)(hk:k = ða \/ k = ĵa \/ k = ŧa):Le ϟc Ϙc (cJ ϟc) (mJ ϟc):=by
 obtain⟨c,q,A,C,r,b,s,u⟩:∃c:Â,cJ ϟc=(c:Æ)/\1<=c/\c<=2/\wW YK ZV ϲ=À (Δ Ŏn)/\wW YJ ZU ϲ=À (Δ ϓh)/\Ňb ůc .zC=.str w/\Ňb ķe .zC=.str w:=by rcases e with rfl|rfl;show{1,by rfl,by decide,by decide,by rfl,by rfl,rfl,rfl};show{2,by rfl,by decide,by decide,by rfl,by rfl,rfl,rfl}
 obtain⟨m,z,B,g,v⟩:∃m:Â,mJ ϟc=(m:Æ)/\m<3/\Jq Xk ďa=À (.int (m:Æ))/\iP.getD m .zC=.str k:=by rcases hk with rfl|rfl|rfl;show{0,by rfl,by decide,by rfl,rfl};show{1,by rfl,by decide,by rfl,rfl};show{2,by rfl,by decide,by rfl,rfl}
 rw[q,z];let f:uq źb=À (Ã,.lst Ðe):=by rcases e with rfl|rfl<;>rfl
 let h:u8 Óh=À (Å,.tup ϔd):=by rcases e with rfl|rfl<;>rfl
 let a:∀x:Æ,x/16777216%4=(m:Æ)->qz [.int x,.str w,.str Ðb]=À (Å,.str k):=λx y=>by let:=z7f (x:=x) h;rw[y,ŋ,v]at this;rw[ņp]
 refine{by omega,by omega,by omega,by omega,λd i l=>?_,λd i l=>?_,λd=>?_,?_,{_,rfl,by simp,by simp,rfl}};show im rfl r É É É É ϵk i l;show eQ rfl b ϵk i l;let j:=a (Ŏn*134217728+(m:Æ)*16777216+d%32) É;show l7 (n:=18+c) (k:=w) (fs:=Ðe) (R:=Ċb) (Z:=((18+c:Â):Æ)*134217728+(m:Æ)*16777216) É É É É É s f öi rfl è (f6 f h g É É É É) É;let j:=a (ϓh*134217728+(m:Æ)*16777216) É;let o:=f6 (c:=((21+c:Â):Æ)) f h g É É É É;rw[show((21+c:Â):Æ)*134217728+(m:Æ)*16777216=ϓh*134217728+(m:Æ)*16777216 by omega]at o;show eV (n:=21+c) (k:=w) (fs:=Ðe) (R:=Ċb) É É É É É u f öi rfl è o
def z8d{n:Æ}{L:Á D}{r y:D}(h:Ui n r)(e:kA L r y):Le r y (cJ r) (mJ r):=by
 let{d,a,t,b,c}:=e.2.2.1.2 (by let{_,_,_,_,_,z,_}:=Mr h;show z);cases h with
 |u7 p0 p1=>
  match d,b,c with
  | [q],b,c=>cases b;subst c;show z8e| [],b,_=>cases b|_::_::_,b,_=>simp at b
 |Ŭa hw hk p0 p1=>
  match d,b,c with
  | [q,q2],b,c=>cases b;subst c;show z38 hw hk| [],b,_=>cases b| [_],b,_=>cases b|_::_::_::_,b,_=>simp at b
nonrec def w13:Ê Â->D
 |Ä=>.zC|À p=>.int (p:Æ)
def KM:FS:=(zb (qH 1 ĩ Ħ)
    (zb (yR 2 åf)
    ϱk))
def M8:FT:=(tE (e2 T7 Ħ ïa))
def ET:FS:=
 (zb òi
  (zb þo
  (zb ϱk
  (zb (BY M8
   KM)
  ōe))))
def Ug:Á D->Ê ç:=FR 1 4 ET
def z72(x0:D):Ug ô=yK 4 ET ô:=rfl
def Sj:FE:=ϩb
def CU:FS:=
 (yL (e2 GJ (wd 1 (TJ 0) Ħa yl Sj) ĝ))
def Qw:Á D->Ê ç:=FR 1 1 CU
def z5l(x0:D):Qw ô=yK 1 CU ô:=rfl
def KN:FS:=(zb (yR 5 (e2 zP ύ řb))
    (xU (Bt (tE (e2 T7 Éa ïa)) (Bt (tE (e2 wO Éa ĩ)) (tE (e2 YI Éa Ď))))
     (yL Ħ)
     wX))
def EW:FS:=
 (zb (yR 1 ϵn)
  (zb (Ν (zX Qw Ϭa))
  (zb (xU (tE (e2 wO ĩ Üc))
   (yL ĩ)
   wX)
  (zb (pN (TH 1) če
   KN)
  ğd))))
def JI:Á D->Ê ç:=FR 1 6 EW
def z75(x0:D):JI ô=yK 6 EW ô:=rfl
def EO:FS:=
 (zb (yR 1 (zX JI ϩa))
  (zb (xU (tE (e2 T7 Ď ïa))
   Āb
   wX)
  (ql ϵn)))
def Wp:Á D->Ê ç:=FR 1 2 EO
def z6y(x0:D):Wp ô=yK 2 EO ô:=rfl
nonrec def tA(A:Â->Æ):Ê Â->D
 |Ä=>.zC|À p=>.int (A p)
structure Tb(ws:Á D)(n:Â)(A:Â->Æ)(b:Â->D)(tg:Â->Ê Â):È where
 up:∀i,i<n->A i<A ñ
 z:A 0=0
 e:A n=(Ţa:Æ)
 told:∀i,i<n->gE ϊl=À (Å,.tup Ŀk)
 fin:gE [.lst ws,.int Ŕb]=À (Å,.zC)
 le:∀i p,i<n->tg i=À p->p<=n
 Ql:n<=400
def uj(A:Â->Æ)(b:Â->D)(tg:Â->Ê Â)(i:Â):D:=.tup Ŀk
nonrec def xR(A:Â->Æ)(n:Â):Á ğ:=(Āc).map λi=>.inl Ϛb
def xv(A:Â->Æ)(b:Â->D)(tg:Â->Ê Â)(n:Â):Á D:=(Āc).map (uj A b tg)
def y7y{ks:Á ğ}{vs:Á D}{k:Sum Æ Ç}{v:D}(h:yq ks k=Å):wQ ks k=ks++[k]/\wB ks vs k v=vs++[v]:=by rw[Éq];rw[h];rw[Òq]
def z90(A:Â->Æ)(n:Â):xR A ı=xR A n++[.inl Ŕb]:=by unfold xR;rw[ϛd,ûa];rfl
def x8h(A:Â->Æ)(b:Â->D)(tg:Â->Ê Â)(n:Â):xv A b tg ı=xv A b tg n++[uj A b tg n]:=by unfold xv;rw[ϛd,ûa];rfl
def z8z(A:Â->Æ)(n:Â):(Ďa).length=n:=by unfold xR;rw[æ,ϴa]
theorem i7{A:Â->Æ}{n:Â}{x:Æ}:yq Ďa Ϝi=Ã↔∃i,i<n/\A i=x:=by
 unfold yq xR;rw[Ùf]
 rw[ſp];rintro⟨k,b,e⟩;let{i,a,rfl}:=œ b;show{i,ϳa a,Įb (Ŋ e)};rintro⟨i,a,rfl⟩;show{_,ϑd {i,Àc a,rfl},õ rfl}
theorem Gf{n:Â}{A:Â->Æ}(b:∀i j,i<=n->j<=n->A i=A j->i=j){p:Â}(c:p<n)(f:Â->D):∀(l:Á Â),p∈l->(∀i∈l,i<=n)->Ć ώl (ż f) ϖh=À (f p)
 | [],h,_=>by cases h|a::l,h,hl=>by exact(if(Ϩ (A a):Sum Æ Ç)=.inl (A p)then À (f a)else Ć ώl (ż f) ϖh)=_;by_cases e:A a=A p;let:=b a p (hl a Ł) Ťc e;subst this;rw[Ò rfl];rw[Ó (λz=>e (Įb z))];rcases Ň h with rfl|h;show Þ rfl e;show Gf b c f l h λi d=>hl i ϣo
section
variable{ws:Á D}{n:Â}{A:Â->Æ}{b:Â->D}{tg:Â->Ê Â}(T:Tb ws n A b tg)
include T
theorem Tb.lt{i j:Â}(h:i<j)(a:j<=n):A i<A j:=by
 induction j with
 |Ϡ=>omega|ϡ j ih=>have u:=T.up j É;by_cases e:i=j;rw[e];show u;let:=ih É É;omega
theorem Tb.inj{i j:Â}(hi:i<=n)(a:j<=n)(e:A i=A j):i=j:=by rcases Ìh i j with h|h|h;let:=T.lt h a;omega;show h;let:=T.lt h hi;omega
theorem Tb.new{i:Â}(hi:i<=n):yq Ġd Ĵo=Å:=by
 cases c:yq Ġd Ĵo with
 |Å=>rfl|Ã=>let{j,a,e}:=i7.mp c;let:=Ďg É hi e;omega
def WE(n:Â)(A:Â->Æ)(b:Â->D)(tg:Â->Ê Â)(i:Â):D:=if i<n then uj A b tg i else .zC
theorem Tb.tell{i:Â}(hi:i<=n):gE ϊl=À (Å,WE n A b tg i):=by
 unfold WE;by_cases h:i<n;rw[Ò h];show T.told i h;let e:i=n:=by omega
 rw[Ó h,e];show T.fin
theorem sD:∀(k i:Â),i+k=n->jJ M8 KM Ŝ [À (Å,.lst ws),À (Ã,.dic Ġd ãn),À (Å,.int Ϛb),À (Å,WE n A b tg i)]=À (.nx [À (Å,.lst ws),À (Ã,.dic Ďa ŕa),À (Å,.int Ŕb),À (Å,.zC)])
 |0,i,h=>by
  let e:i=n:=by omega
  subst e;let g:WE i A b tg i=.zC:=Ó Êa;rw[g];show sG ?_;unfold M8;simp only[Ù]
 |k+1,i,h=>by
  let f:i<n:=by omega
  let g:WE n A b tg i=uj A b tg i:=Ò f;rw[g,sH (σ':=[À (Å,.lst ws),À (Ã,.dic Āo ĸm),À (Å,.int Ùg),À (Å,WE n A b tg ñ)])];show sD k ñ É;unfold M8 uj;simp only[Ù];let{j,l}:=y7y (vs:=xv A b tg i) (v:=uj A b tg i) (T.new (Ïa f));let d:=T.tell (i:=i+1) f;let m:(Ġd).length<yN:=by rw[z8z];let:=T.Ql;exact i<16777216;omega
  let c:zP (uj A b tg i) ÿa=À (Δ Ùg):=rfl
  have a:qH 1 ĩ Ħ [À (Å,.lst ws),À (Ã,.dic Ġd ãn),À (Å,.int Ϛb),À (Å,uj A b tg i)]=À (.nx [À (Å,.lst ws),À (Ã,.dic Āo ĸm),À (Å,.int Ϛb),À (Å,uj A b tg i)]):=by rw[z90,x8h,<-j,<-l];exact(if(Ġd).length<yN then _ else _)=_;rw[Ò m];rfl
  unfold KM;generalize xR A ñ=K1 at a c d ⊢;generalize xv A b tg ñ=V1 at a c d ⊢;generalize xR A i=K0 at a c d ⊢;generalize xv A b tg i=V0 at a c d ⊢;generalize uj A b tg i=TD at a c d ⊢;generalize WE n A b tg ñ=TL at a c d ⊢;simp only[Ù,a,c,d]
theorem sE:Ug æe=À (Ã,.dic Ďa ŕa):=by let c:=T.tell (i:=0) ϖb;rw[T.z]at c;let a:=nO ı (sD T n 0 (Ů n)) (by let:=T.Ql;exact n+1<=100000000;omega);rw[T.z]at a;let e:xR A 0=[]:=rfl;let d:xv A b tg 0=[]:=rfl;rw[e,d]at a;rw[z72];unfold ET;generalize WE n A b tg 0=TL at c a ⊢;generalize xR A n=KK at c a ⊢;generalize xv A b tg n=VV at c a ⊢;simp only[Ù,c,a]
theorem z23:Qw [.dic Ďa ŕa]=À (Å,.int Ŕb):=by
 let e1:yh Ħa yl Sj śk ŕa=À ϕn:=by
  let:=Za (g:=yD 1) (e:=Sj) (σ:=śk) (λd=>match d with|.tup [_,x,_]=>x|_=>.zC) (ds:=xv A b tg n) λd k=>by let{i,_,rfl}:=œ k;show{_,rfl,rfl}
  rw[this];unfold xv;rw[Ĝa,Ĝa];rfl
 let e2:GJ (Β ϕn) ľ=À ĝf:=by
  exact(YQ _).bind _=_;rw[fZ];exact À (if(Āc).map (λi=>A ñ)=[]then _ else _)=_;by_cases c:n=0;subst c;exact À (ĉ 0)=À (ĉ (A 0));rw[T.z];rw[Ó (by intro h;let:=Ÿ ød h;rw[æ,ϴa]at this;show c this)]
  let:A n=L2.maxI Ňg:=by show L2.maxI_uniq ?_ λy j=>?_;show ϑd {n-1,Àc É,by rw[Žd É]};let{i,f,rfl}:=œ j;let f:=ϳa f;by_cases e:i+1=n;rw[e];rw[ϟp];show ëa (T.lt É Đ)
  rw[<-this]
 rw[z5l];unfold CU;generalize (Ňg).map ĉ=LL at *;let a:TJ 0 [À (Å,.dic Ďa ŕa)]=À ŕa:=rfl;generalize xR A n=KK at a e1 e2 ⊢;generalize xv A b tg n=VV at a e1 e2 ⊢;simp only[Ù,a,e1,e2]
def Mq(A:Â->Æ)(b:Â->D)(tg:Â->Ê Â)(n:Â):Á D:=(Āc).map λi=>œb [.int Ϛb,uj A b tg i]
omit T in
theorem z86{x2 x3 x4 x5:Ê Sl}:TH 1 [À (Å,.lst ws),À (Å,.dic Ďa ŕa),x2,x3,x4,x5]=À (Mq A b tg n):=by
 let h:(Ďa).all Yc=Ã:=Ěb λk a=>by let{i,_,rfl}:=œ a;rfl
 exact(if(Ďa).all Yc=Ã then À (Yf Ďa ŕa)else Ä)=_;rw[Ò h];unfold Yf xR xv Mq;show Ÿ À (ĭc λi=>?_);rw[Ϥe,ũ,ũ,ũ];cases(Ía n)[i]? with
 |Ä=>rfl|À j=>rfl
theorem z4o:JI æe=À (Å,.zC):=by
 let e1:=sE T;let e2:=z23 T;let k:wO ĝf (.int (Ţa:Æ))=À ă:=by rw[T.e];show Kk (IN rfl)
 let{σ',f,x3,x4,x5,rfl}:=kT (g:=uf 3 4) (b:=KN) (λi σ=>∃x3 x4 x5,σ=[À (Å,.lst ws),À (Å,.dic Ďa ŕa),À (Å,.int Ŕb),x3,x4,x5]) (ds:=Mq A b tg n)
  (σ:=[À (Å,.lst ws),À (Å,.dic Ďa ŕa),À (Å,.int Ŕb),Ä,Ä,Ä]) 0 {Ä,Ä,Ä,rfl} (by
  rintro i v σ o ⟨x3,x4,x5,rfl⟩;let{j,m,rfl}:=œ (ϴb o);let m:=ϳa m;show{_,[À (Å,.lst ws),À (Å,.dic Ďa ŕa),À (Å,.int Ŕb),À (Å,.int (A j)),À (Å,uj A b tg j),À (Å,tA A (tg j))],rfl,.inl ?_,_,_,_,rfl};let a:zP (uj A b tg j) þb=À (tA A (tg j)):=rfl;unfold KN;cases h:tg j with
  |Ä=>
   rw[h]at a;let l:tA A Ä=.zC:=rfl;rw[l]at a ⊢;generalize uj A b tg j=TD at a ⊢;generalize xR A n=KK at a ⊢;generalize xv A b tg n=VV at a ⊢;simp only[Ù,a]
  |À p=>
   rw[h]at a;let l:tA A (À p)=.int (A p):=rfl;rw[l]at a ⊢;let r:=T.le j p m h;by_cases e:p=n
   .let q:wO Èe ĝf=À ă:=by rw[e];show Kk (IN rfl)
    generalize uj A b tg j=TD at a q ⊢;generalize xR A n=KK at a q ⊢;generalize xv A b tg n=VV at a q ⊢;simp only[Ù,a,q]
   .let q:wO Èe ĝf=À ň:=Kk (Mm (by let:=T.lt (i:=p) (j:=n) É Đ;omega))
    let c:YI Èe (.dic Ďa ŕa)=À ă:=by exact(À (yq Ďa ϖh)).bind _=_;rw[i7.mpr {p,by omega,rfl}];rfl
    generalize uj A b tg j=TD at a q c ⊢;generalize xR A n=KK at a q c ⊢;generalize xv A b tg n=VV at a q c ⊢;simp only[Ù,a,q,c])
 let d:=z86 (ws:=ws) (A:=A) (b:=b) (tg:=tg) (n:=n) (x2:=À (Å,.int Ŕb)) (x3:=Ä) (x4:=Ä) (x5:=Ä);rw[z75];unfold EW;generalize Mq A b tg n=IT at e1 e2 k d f ⊢;generalize xR A n=KK at e1 e2 k d f ⊢;generalize xv A b tg n=VV at e1 e2 k d f ⊢;simp only[Ù,e1,e2,k,d,f]
theorem x3e:Wp æe=À (Ã,.dic Ďa ŕa):=by let e1:=z4o T;let e2:=sE T;rw[z6y];unfold EO;generalize xR A n=KK at e1 e2 ⊢;generalize xv A b tg n=VV at e1 e2 ⊢;rw[Ðq]
#print a
def qj(r:D):Â:=match Xq r with
 |.int p=>Ğe|_=>0
nonrec def sI(c m d:Æ)(zE:Ñ):Á Æ:=bif zE then[ķe*134217728+m*16777216,d%4294967296]else[ůc*134217728+m*16777216+d%32]
def X_(r:D):Æ:=match Uh [r]with
 |À (_,.int v)=>v|_=>0
def dJ(Ô:Á D)(zE:Á Â)(i:Â):Æ:=xC ě Ďe-xC ě i
def vp(Ô:Á D)(zE:Á Â)(i:Â):Á Æ:=bif wP Ļ then sI (cJ Ļ) (mJ Ļ) ën Ϫo else[X_ Ļ]
def wZ(Ô:Á D)(zE:Á Â):Â->Á Æ
 |0=>[]|n+1=>wZ Ô zE n++vp Ô zE n
def YD(Ô:Á D)(i:Â):D:=bif wP Ļ then Je Ļ else Ųb i .zC
def Zn(Ô:Á D)(i:Â):Ê Â:=bif wP Ļ then À Ďe else Ä
structure Wr(Ô zF:Á D)(zE:Á Â):È where
 it:∀d∈zF,vg d
 li:Ĺo<=1000
 he:uZ (kA zF) Ô él
 hr:∀r∈Ô,kE (ú:Æ) r
 hn:ú<64
 hg:gF Ô zE=[]
 hj:∀i,ze zE i=Ã->wP Ļ=Ã
structure W1(Ô zF:Á D)(zE:Á Â)(i:Â)(y:D):È where
 yi:él[i]?=À y
 pl:wP Ļ=Å->y=Ųb i .zC/\Uq y (X_ y)/\ze zE i=Å/\tgt Ļ=.zC
 jm:wP Ļ=Ã->Le Ļ y (cJ Ļ) (mJ Ļ)/\qj Ļ<=ú/\tgt Ļ=.int (qj Ļ:Â)/\(ze zE i=Å -> -16<=dJ Ô zE i/\dJ Ô zE i<=15) /\ -200<=dJ Ô zE i/\dJ Ô zE i<=200
theorem Us(f:Â->Ñ):∀n:Â,0<=xC f n/\xC f n<=2*n
 |0=>{Ċa _,Ċa _}|n+1=>by
  let{a,b}:=Us f n;exact 0<=xC f n+ϓg/\xC f n+ϓg<=_
  rw[īp]
section
variable{Ô zF:Á D}{zE:Á Â}(W:Wr Ô zF zE)
include W
theorem Wr.one{i:Â}(hi:i<ú):∃y,W1 Ô zF zE i y:=by
 let{y,r,l}:=MI W.he (ė hi);let b:Ųb i .zC=Ô[i]:=by rw[Ϭ,ė hi];rfl
 let f:=W.hr _ (ñb hi);show{y,r,λa=>?_,λa=>?_};rw[b]at a ⊢
 let s:pp Ô[i]:=by rcases f with h|h;show h;let{_,_,_,_,_,z,_}:=Mr h;rw[z]at a;cases a
 let g:y=Ô[i]:=l.2.2.1.1 a;let{v,w}:=y7i s;show{g,?_,?_,?_};rw[g];let:X_ Ô[i]=v:=by unfold X_;rw[w.w]
 rw[this];show w;cases c:ze zE i with
 |Å=>rfl|Ã=>have:=W.hj i c;rw[b,a]at this;cases this
 unfold tgt;rw[a];rw[b]at a ⊢
 let k:Ui (ú:Æ) Ô[i]:=by rcases f with h|h;let{_,_,_,_,z,_}:=Td h;rw[z]at a;cases a;show h
 let{_,p,_,_,_,_,_,_,j,A,u}:=Mr k;let o:qj Ô[i]=Ğe:=by unfold qj;rw[j]
 let n:(qj Ô[i]:Æ)=p:=by rw[o];omega
 let m:tgt Ô[i]=.int (qj Ô[i]:Â):=by unfold tgt;rw[a,n];show j
 let B:=Us ě Ĩf;let C:=Us ě i;let x:=W.hn;let t:dJ Ô zE i=xC ě Ĩf-xC ě i:=by unfold dJ;rw[b]
 refine{z8d k l,by omega,m,λq=>?_,by omega,by omega}
 let e:YB Ô zE i=Å:=by
  cases z:YB Ô zE i with
  |Å=>rfl|Ã=>have:i∈gF Ô zE:=ϫg {ϫg {Àc hi,by rw[q];rfl},z};rw[W.hg]at this;cases this
 unfold YB at e;rw[b,m]at e;let d:(decide (-16<=xC ě Ĩf-xC ě i)&&decide (xC ě Ĩf-xC ě i<=15))=Ã:=by simpa [Kl,dv]using e
 rw[Č]at d;rw[t];show{Ŋ d.1,Ŋ d.2}
theorem Wr.z0w{i:Â}(hi:i<ú):((Řh).length:Æ)=if ze zE i then 2 else 1:=by
 let{y,h}:=čg hi;unfold vp;cases hj:wP Ļ with
 |Å=>rw[(h.pl hj).2.2.1];rfl|Ã=>unfold sI;cases ze zE i<;>rfl
theorem Wr.len:∀{n:Â},n<=ú->((wZ Ô zE n).length:Æ)=xC ě n
 |0,_=>rfl|n+1,h=>by let a:=Wr.len (n:=n) É;let b:=W.z0w (i:=n) É;exact((wZ Ô zE n++vp Ô zE n).length:Æ)=xC ě n+(if ze zE n then 2 else 1);rw[ê];omega
omit W in
theorem z1n:∀{i n:Â},i<=n->∃r,wZ Ô zE n=wZ Ô zE i++r
 |i,n,h=>by
  induction n with
  |Ϡ=>show{[],by rw[show i=0 by omega];rfl}|ϡ n ih=>by_cases e:i=n+1;show{[],by rw[e,ŵ]};let{r,q}:=ih É;show{r++vp Ô zE n,by exact wZ Ô zE n++vp Ô zE n=_;rw[q,Ţ]}
theorem Wr.at{i k:Â}{v:Æ}(hi:i<ú)(hk:Řh[k]?=À v):zP (Β ţd) (Δ (xC ě i+k))=À šc/\xC ě i+k<((Čh).length:Æ):=by
 let{r,e}:=z1n (Ô:=Ô) (zE:=zE) (i:=i+1) (n:=ú) hi;let l:=ñg (n:=i) É;let a:k<(Řh).length:=(Š hk).1;let e2:wZ Ô zE ñ=wZ Ô zE i++vp Ô zE i:=rfl
 let g:Čh[(än).length+k]?=À v:=by rw[e,e2,Ţ,Ęb É,ũd,éb a];show hk
 let lt:=(Š g).1;refine{Ja É ?_,by omega};rw[show(xC ě i+(k:Æ)).toNat=(än).length+k by omega,ũ,g];rfl
theorem Wr.tb:Tb ţd ú Ϙf (YD Ô) (Zn Ô):=by
 show{λi f=>?_,rfl,?_,λi f=>?_,?_,λi p f h=>?_,by let:=W.hn;omega};exact xC ě i<xC ě i+ϑj
 rw[īp];rw[æ];show(ūo).symm;let{y,h}:=čg f;let z:=Us ě i;let o:((ţd).length:Æ)=((Čh).length:Æ):=by rw[æ]
 unfold YD Zn;exact _=À (Å,œb [_,.int Źm,_]);cases hj:wP Ļ with
 |Å=>
  let{G,w,E,_}:=h.pl hj;rw[G]at w;let g:=ϥa (k:=0) (v:=X_ Ļ) f (by unfold vp;rw[hj];rfl);rw[ĥh,ĉf]at g;let{n,H,C}:=w.c;let e:=Uz w.v0 w.v1;rw[C]at e;let d:=Ih (n:=n) É;rw[ē (show ¬ 18<=n by omega),Ëc]at d;let b:=GT (n:=n) É;rw[ē (show ¬ 21<=n by omega),Ëc]at b
  obtain⟨R,j⟩:∃R,Ųb i .zC=.tup R:=by
   let:=W.hr _ (ñb f);let I:Ųb i .zC=Ô[i]:=by rw[Ϭ,ė f];rfl
   rw[I];generalize Ô[i]=rr at this;rcases this with q|q<;>cases q<;>show{_,rfl}
  let B:=w.r;rw[j]at B g;have:=x6a {z.1,by rw[o];show g.2,g.1,by rw[<-j];show w.v0,by rw[<-j];show w.v1} (by rw[<-j];show e) b d B;rw[this,E,j];rfl
 |Ã=>
  let{w,K,T,F,N,J}:=h.jm hj;let{R,j,_,_,_}:=w.hd;let L:=w.c0;let U:=w.c1;let S:=w.m0;let Q:=w.m1;let A:xC ě i+dJ Ô zE i=xC ě Ďe:=by unfold dJ;omega
  cases hF:ze zE i with
  |Ã=>
   let m:vp Ô zE i=[Ĭf*134217728+mJ Ļ*16777216,dJ Ô zE i%4294967296]:=by rw[Ňp]
   let g:=ϥa (k:=0) f ĳh;rw[ĥh,ĉf]at g;let t:=ϥa (k:=1) f ĳh;rw[show((1:Â):Æ)=1 from rfl]at t;let l:=w.fr;rw[j]at l;obtain⟨x,s⟩:∃x,x=Ĭf*134217728+mJ Ļ*16777216:={_,rfl};obtain⟨n,u⟩:∃n:Â,(n:Æ)=21+cJ Ļ:={(Ĭf).toNat,by omega};rw[<-s]at g l;let e:=Uz (x:=x) É É;rw[show x/134217728=(n:Æ) by omega]at e;let b:=GT (n:=n) É;rw[õ (show 21<=n by omega),õ (show n<=23 by omega),ùf]at b;let:=x67 (a:=xC ě i) {z.1,by rw[o];show g.2,g.1,by omega,by omega} e b l t.1 (by rw[o];show t.2);rw[this,show xC ě i+(if 2*(dJ Ô zE i%4294967296)<4294967296 then dJ Ô zE i%4294967296 else dJ Ô zE i%4294967296-4294967296)=xC ě Ďe by rw[<-A];rw[īp]];simp only[Ŕo,j];rfl
  |Å=>
   let m:vp Ô zE i=[ĭf*134217728+mJ Ļ*16777216+dJ Ô zE i%32]:=by rw[Ňp]
   let{O,P}:=F hF;let g:=ϥa (k:=0) f ĳh;rw[ĥh,ĉf]at g;let l:=w.nr ën;rw[j]at l;obtain⟨x,s⟩:∃x,x=ĭf*134217728+mJ Ļ*16777216+dJ Ô zE i%32:={_,rfl};obtain⟨n,u⟩:∃n:Â,(n:Æ)=18+cJ Ļ:={(ĭf).toNat,by omega};rw[<-s]at g l;let e:=Uz (x:=x) É É;rw[show x/134217728=(n:Æ) by omega]at e;let b:=GT (n:=n) É;rw[ē (show ¬ 21<=n by omega),Ëc]at b;let d:=Ih (n:=n) É;rw[õ (show 18<=n by omega),õ (show n<=20 by omega),ùf]at d;let:=x68 (a:=xC ě i) {z.1,by rw[o];show g.2,g.1,by omega,by omega} e b d l;rw[this,show xC ě i+ūe=xC ě Ďe by rw[<-A];rw[īp]];simp only[Ŕo,j];rfl
 show x69 (.inr ?_);rw[æ];show Int.le_of_eq ūo;let{y,w}:=čg f;unfold Zn at h;cases hj:wP Ļ with
 |Å=>rw[hj]at h;cases h|Ã=>rw[hj]at h;cases h;show(w.jm hj).2.1
#print a
def z82{zE:Á Â}{n:Â}:ze zE n=Ã↔n∈zE:=by
 unfold ze yM;rw[Ùf]
 let e:∀a:Â,xr ϩd Źa=Ã↔a=n:=λa=>by let:xr ϩd Źa=Ϯl:=rfl;rw[this,ßo];omega
 rw[ſp];rintro⟨x,c,h⟩;let{a,b,rfl}:=œ c;show(e a).mp h▸b;show λh=>{_,ϑd {n,h,rfl},(e n).mpr rfl}
theorem nN{g:Á Â->Á Â}:∀{zE R:Á Â}{k:Â},Y8 g zE R k->g R=[]
 |_,_,_,.stop e=>e|_,_,_,.go _ _ r=>nN r
theorem nM{Ô:Á D}:∀{zE R:Á Â}{k:Â},Y8 Ϟf zE R k->(∀i∈zE,wP Ļ=Ã)->∀i∈R,wP Ļ=Ã
 |_,_,_,.stop _,h=>h|zE,_,_,.go _ _ r,h=>nM r λi a=>by
  let a:i∈zE++gF Ô zE:=(āg).mem_iff.mp a;rcases Þa a with a|a;show h i a;cases c:wP Ļ with
  |Ã=>rfl|Å=>have:=(Âd a).2;rw[z1w c]at this;cases this
def z4f{i:Â}{e:FE}{σ:yC}{L W:Á D}(a:σ[i]?=À (À (Ã,.lst L)))(b:e σ=À (.lst W))(d:ča<=1000)(c:ůi<=2):qk i e σ=À (θa (Κb (L++W))):=by unfold qk;rw[a,b];exact(if ča+ůi<=yN then _ else _)=_;rw[Ò ţg]
theorem w0l{Ô j:Á D}(h:∀d∈j,vg d)(E:Ôa<=1000)(s:uZ (kA j) Ô Ĥc)(I:∀r∈Ô,kE (ú:Æ) r)(N:ú<64) :∃zE k,Y8 Ϟf [] zE k/\Wr Ô j zE/\XO [.lst j]=À (Ã,.lst ţd):=by
 let{R,U,A,_,_,x}:=z4n h E s I N;let W:Wr Ô j R:={h,E,s,I,N,nN A,λi p=>nM A (λ_ h=>by cases h) i (z82.mp p)};show{R,U,A,W,?_};let J:=di h E s I É (zE:=R);let O:=BW h;let K:=T4 s
 let F:kR çd Łj=À (qG Ĥc):=by
  let S:∀σ:yC,zX pf ϩa σ=À (Β Ĥc)->kR çd σ=À (qG Ĥc):=λσ z=>by unfold kR;rw[z];rfl
  show S _ (by simp only[Ù,O])
 let{σ',t,B,G,rfl}:=kT (g:=uf 4 5) (b:=IV) (λi σ=>∃B G,σ=[À (Å,.lst j),À (Å,.lst Ŀd),À (Å,.lst Ϟe),À (Ã,.lst ϯh),B,G]) (ds:=qG Ĥc)
  (σ:=Łj) 0 {Ä,Ä,rfl} (by
  rintro i v σ o ⟨B,G,rfl⟩;rw[Ů]at *;rw[Ii]at o
  let p:i<ú:=by
   rw[K];cases z:Ĥc[i]? with
   |Ä=>rw[z]at o;cases o|À y=>show(Š z).1
  let{y,H}:=čg p;rw[H.yi]at o;cases o
  let al:(ϯh).length<=900:=by let:=ñg (n:=i) É;let:=Us Ćc i;rw[æ];omega
  let eg:Ųb i .zC=Ô[i]:=by rw[Ϭ,ė p];rfl
  let a:zP ıi źa=À (dv Ćc Ŗk):=Ja É (by rw[ŋ,eg];show dk p)
  let c:tN źa (Β Ŀd)=À (.bl (ze R i)):=by exact(T6 _ _).bind _=_;rw[z7s];rfl
  let T:(žm).map ĉ=(Īb).map ĉ++(îd).map ĉ:=by exact(wZ Ô R i++vp Ô R i).map ĉ=_;rw[ûa]
  show{_,[À (Å,.lst j),À (Å,.lst Ŀd),À (Å,.lst Ϟe),À (Ã,.lst (νa žm)),À (Å,.int (i:Æ)),À (Å,y)],rfl,.inl ?_,_,_,rfl};rw[T];cases hj:wP Ļ with
  |Å=>
   let{Y,w,nf,Q}:=H.pl hj;let l:vp Ô R i=[X_ y]:=by unfold vp;rw[hj,Y];rfl
   let f:=Lh (L:=(Īb).map ĉ) (r:=.int (X_ y)) É;rw[Q]at a;let a:zP ıi źa=À .zC:=a;let q:=w.w;rw[l];unfold IV;generalize (Īb).map ĉ=LL at a q f ⊢;generalize vE Ô Ćc=DD at a q f ⊢;generalize X_ y=PV at a q f ⊢;simp only[Ù,a,q,f]
  |Ã=>
   let{w,p1,tp,X,d0,d1}:=H.jm hj;rw[tp]at a;let a:zP ıi źa=À (Δ ϐh):=a;cases hF:ze R i with
   |Ã=>
    let m:=w.fw ϐh É É
    let l:(îd).map ĉ=[.int (Ĭf*134217728+mJ Ļ*16777216),.int (dJ Ô R i%4294967296)]:=by rw[Ňp]
    rw[<-l]at m;rw[hF]at c;let C:(νa (îd)).length<=2:=by rw[l];simp
    let P:=z4f (i:=3) (e:=wV Wl ŋg) (σ:=[À (Å,.lst j),À (Å,.lst Ŀd),À (Å,.lst Ϟe),À (Ã,.lst ϯh),À (Å,.int (i:Æ)),À (Å,y)]) (L:=(Īb).map ĉ) (W:=(îd).map ĉ) rfl (by generalize (Īb).map ĉ=LL at a m ⊢;generalize (îd).map ĉ=WW at a m ⊢;generalize vE Ô Ćc=DD at a m ⊢;simp only[Ù,a,m]) É C
    unfold IV
    rw[qd (by
     generalize (Īb).map ĉ=LL at a ⊢;generalize vE Ô Ćc=DD at a ⊢;simp only[Ù,a]),TK (by
     generalize (Īb).map ĉ=LL at c ⊢;generalize vE Ô Ćc=DD at c ⊢;simp only[Ù,c])]
    show P
   |Å=>
    let{Z,n1}:=X hF;let u:=w.nw ϐh Z n1
    let l:(îd).map ĉ=[.int Ŵj]:=by rw[Ňp]
    rw[l];rw[hF]at c;let f:=Lh (L:=(Īb).map ĉ) (r:=.int Ŵj) É;unfold IV;generalize ĭf*134217728+mJ Ļ*16777216+dJ Ô R i%32=VV at a c u f ⊢;generalize (Īb).map ĉ=LL at a c u f ⊢;generalize vE Ô Ćc=DD at a c u f ⊢;simp only[Ù,a,c,u,f])
 rw[Xw,Ů,<-K]at t;rw[z79];unfold Ec;generalize qG Ĥc=NN at x J F t ⊢;generalize vE Ô Ćc=DD at x J F t ⊢;simp only[Ù,x,J,F,t]
theorem w0k{Ô a:Á D}(h:∀d∈a,vg d)(f:ό<=1000)(e:uZ Ōe Ô ĥc)(b:∀r∈Ô,kE (ú:Æ) r)(c:ú<64) :∃zE,Wr Ô a zE/\XO ċb=À (Ã,.lst ţd):=by let{R,_,_,h}:=w0l h f e b c;show{R,h}
def T1{r:D}{a:M}{w:Ç}(b:zP r ľ=À ϲ)(c:Xd pA ϲ=À ă):jR Ũo=À (Ũo,.fz .zC):=by rw[Gi];unfold Jc;simp only[Ē,b,c]
theorem ot{C:Ç}(b:vo C){T fw fh:D}{e due done:Æ}{s:M}(h:vO Ĝk=À (Å,.bl Ã)):tu Ťg=À (Ťg,.fz ă):=by
 let a:=λτ:yC=>eD b (F:=vO) (m := řc) (τ:=τ) ŉ h
 rw[fH];unfold Ln;simp only[Ē,B_,a]
inductive Kd(n:Â)(A:Â->Æ):D->D->D->D->È
 |Ŵ {x y:D}:Kd n A æa æa x y
 |Ňa {r x y:D} (h:jY r):Kd n A r r x y
 |u7 {t:Ç} {p:Â} (hp:p<=n):Kd n A ϙe (.tup éi) ãd Èe
 |Ŭa {w k t:Ç} {p:Â} (hw:w = ϩ \/ w = Åa) (hk:k = ða \/ k = ĵa \/ k = ŧa) (hp:p<=n):Kd n A Ϙc üi ãd Èe
structure JR(n:Â)(A:Â->Æ)(T U:D):È where
 inj:∀i,i<=n->(A i=A n↔i=n)
 at_:∀i,i<n->∃r b x y,Kd n A r b x y/\zP T źa=À (.tup [r,.int Äi,x])/\zP U (Δ Ϛb)=À (.tup [b,.int Ùg,y])/\wJ x=Ã/\wJ y=Ã
section
variable{n:Â}{A:Â->Æ}{T U fw fh:D}(W:JR n A T U)
inductive Nx(n:Â)(A:Â->Æ)(T U fw fh:D)(Ws:Á Æ)(a b c:Ñ)(ps:Á ā)(i j:Â):È
 |no (h1:vO ϐe=À (Å,.bl Ã)) (h2:vO ůe=À (Å,.bl Ã))
   (e1:tu Ũg=À (Ũg,.fz ă)) (e2:tu ňg=À (ňg,.fz ă)):Nx n A T U fw fh Ws a b c ps i j
 |go {Ws':Á Æ} {a' b' c':Ñ} {ps':Á ā} {i':Â} (w:ud Ws') (p:vh ps') (l:Öi<=č+4) (hi:i'<=n)
   (h1:vO ϐe=À (Å,.bl Å)) (h2:vO ůe=À (Å,.bl Å))
   (e1:tu Ũg=À ([wA Ğ T n fw fh Æk i' Ãi],.fz ň)) (e2:tu ňg=À ([wA Ĩ U Ŕb fw fh Æk (A i') Ãi],.fz ň)):Nx n A T U fw fh Ws a b c ps i j
include W in
theorem ip{Ws:Á Æ}{a b c:Ñ}{ps:Á ā}{i j:Â}(O:ud Ws)(P:vh ps)(hp:č<=800)(hi:i<=n):Nx n A T U fw fh Ws a b c ps i j:=by
 let J:vO ϐe=À (Å,.bl Ã)->vO ůe=À (Å,.bl Ã)->Nx n A T U fw fh Ws a b c ps i j:=λC B=>.no C B (ot .row (by rw[tD];show C)) (ot .word (by rw[tD];show B))
 by_cases z:i=n
 .subst z;show J ?_ ?_
  .rcases OL .row (T:=T) (fw:=fw) (fh:=fh) (sd:=wM Ĉ a b c Ĥ Ń) (row:=.zC) (nx:=.zC) (tg:=.zC) (e:=(i:Æ)) (due:=(i:Æ)) (done:=(j:Æ)) (k:=Ã) ûm with z|⟨_,z⟩;rw[z,õ rfl];rfl;show z
  .rcases OL .word (T:=U) (fw:=fw) (fh:=fh) (sd:=wM Ĉ a b c Ĥ Ń) (row:=.zC) (nx:=.zC) (tg:=.zC) (e:=A i) (due:=A i) (done:=(j:Æ)) (k:=Ã) ûm with z|⟨_,z⟩;rw[z,õ rfl];rfl;show z
 .let E:(i:Æ)≠n:=by omega
  let o:A i≠A n:=λe=>z ((W.inj i hi).mp e)
  let{r,q,x,y,K,Y,R,tx,ty}:=W.at_ i É
  let sd:∀{v:Ñ},zr r æa=À (.bl v)->zr q æa=À (.bl v)->vO ϐe=À (Å,.bl v)/\vO ůe=À (Å,.bl v):=λ{v} L N=>by
   show{?_,?_}
   .rcases OL .row (fw:=fw) (fh:=fh) (sd:=wM Ĉ a b c Ĥ Ń) (e:=(n:Æ)) (due:=(i:Æ)) (done:=(j:Æ)) (k:=v) (λ_=>{Y,L})with z|⟨z,_⟩;rw[z,ē E];rfl;show Þ z E
   .rcases OL .word (fw:=fw) (fh:=fh) (sd:=wM Ĉ a b c Ĥ Ń) (e:=A n) (due:=A i) (done:=(j:Æ)) (k:=v) (λ_=>{R,N})with z|⟨z,_⟩;rw[z,ē o];rfl;show Þ z o
  let X:∀{u v:D}{k:Æ},wJ u=Ã->wJ v=Ã->wJ (.tup [u,.int k,v])=Ã:=λ{u v k} C B=>by exact(wJ u&&(Ã&&(wJ v&&Ã)))=Ã;rw[C,B];rfl
  let m:∀{g:Á Æ}{I G F:Ñ}{f:Á ā} {ld:Ñ} {i':Â},ud g->vh f->Îb<=č+4->i'<=n->zr r æa=À ă->zr q æa=À ă->wJ r=Ã->wJ q=Ã->jR Ŝk=À ([st óg I G F úg õg,.fz r],.fz .zC)->jR [st Ĉ a b c Ĥ Ń,.fz q]=À ([st óg I G F úg õg,.fz q],.fz .zC)->jU [wM óg I G F úg õg,r]=À (Å,.bl ld)->jU [wM óg I G F úg õg,q]=À (Å,.bl ld)->(if ld then x else .int Äi)=.int (i':Æ)->(if ld then y else .int Ùg)=.int (A i')->Nx n A T U fw fh Ws a b c ps i j:=λ{g I G F f ld i'} w p l Q L N p1 p2 d1 d2 l1 l2 g1 g2=>by let{C,B}:=sd L N;show .go w p l Q C B (oj .row E Y L (X p1 tx) jG d1 ld (by rw[tD];show l1) g1) (oj .word o R N (X p2 ty) jG d2 ld (by rw[tD];show l2) g2)
  cases K with
  |Ŵ=>let{C,B}:=sd (v:=Ã) rfl rfl;show J C B
  |Ňa h=>have t:=SJ h.1 h.2;let{g,I,G,F,f,H}:=t.dr (a:=a) (b:=b) (c:=c) O P hp;show m (ld:=Å) (i':=i+1) H.w H.p H.l É t.st t.st t.tp t.tp H.e H.e (t.ld _) (t.ld _) rfl rfl
  |@u7 t p hp'=>show m (ld:=Ã) (i':=p) O P É hp' rfl rfl rfl rfl Ôl Ôl rfl rfl rfl rfl|@cond w k t p hw' hk hp'=>
   obtain⟨ld,S,Z⟩:∃ld:Ñ,jU [wM Ĉ a b c Ĥ Ń,.tup âl]=À (Å,.bl ld)/\jU [wM Ĉ a b c Ĥ Ń,.tup Ŧd]=À (Å,.bl ld):=by rcases hw' with rfl|rfl<;>rcases hk with rfl|rfl|rfl<;>show{_,rfl,rfl}
   let d:jR ľk=À (ľk,.fz .zC)/\jR æk=À (æk,.fz .zC):=by rcases hw' with rfl|rfl;show{T1 (w := ϩ) rfl rfl,T1 (w := ϩ) rfl rfl};show{T1 (w := Åa) rfl rfl,T1 (w := Åa) rfl rfl}
   let s:zr Ϙc æa=À ă/\zr üi æa=À ă:=by rcases hw' with rfl|rfl<;>show{rfl,rfl}
   cases ld with
   |Ã=>show m (ld:=Ã) (i':=p) O P É hp' s.1 s.2 rfl rfl d.1 d.2 S Z rfl rfl|Å=>show m (ld:=Å) (i':=i+1) O P É É s.1 s.2 rfl rfl d.1 d.2 S Z rfl rfl
#print a
def CO:yY:=
 (yW (vk 4 (ξa (wV Wp Ϭa)))
  (ιd (jc (eL qZ Ϭa))))
def gD:FM:=vf 4 5 CO
def z5g(x0 x1 x2 x3:M):gD Îc=wf 4 5 CO Îc:=rfl
inductive Pz(Z:Á Ğa):D->D->È
 |Ŵ:Pz Z æa æa
 |Ňa {r:D} (h:jY r):Pz Z r r
 |u7 {q:Ç×Â} (h:q∈Z):Pz Z (.tup [.str ϧ,.int (q.2:Æ)]) ġo
 |Ŭa {w k:Ç} {q:Ç×Â} (hw:w = ϩ \/ w = Åa) (hk:k = ða \/ k = ĵa \/ k = ŧa) (h:q∈Z):Pz Z (.tup [.str w,.str k,.int (q.2:Æ)]) ĵk
theorem lj{Z:Á Ğa}:∀{Ô:Á D},(∀r∈Ô,RJ Z jY r)->∃rs,uZ (Pz Z) rs Ô
 | [],_=>{[],.nil}|r::Ô,h=>by
  let{rs,e}:=lj λr a=>h r ďd
  cases h r Ł with
  |Ňa z=>show{_,.cons (.plain z) e}|Ŵ=>show{_,.cons .stop e}|u7 z=>show{_,.cons (.u7 z) e}|Ŭa hw hk z=>show{_,.cons (.cond hw hk z) e}
def mS{Z:Á Ğa}{Ô e:Á D}{n:Â}(Y:Uj Z Ô e)(f:∀q∈Z,q.2<=n){x y:D}(h:Pz Z x y):kA e x y/\kE (n:Æ) x:=by
 let d:∀{b:Ñ}{p:È},b=Å->b=Ã->p:=λm i=>by rw[m]at i;cases i
 let g:∀{r:D},pp r->kA e r r/\kE (n:Æ) r:=λ{r} h=>by let{_,_,_,_,c,_}:=Td h;show{{.plain h,rfl,{λ_=>rfl,d c},rfl,d c},.inl h}
 cases h with
 |Ŵ=>show g .stop|Ňa h=>show g h.1|@u7 q h=>show{{.u7 _,rfl,{λz=>d z rfl,λ_=>{éi,_,q.1,rfl,rfl}},rfl,λ_=>{q.1,q.2,rfl,Y.pl q h,rfl}},.inr (.u7 É ėl)}|@cond w k q hw hk h=>
  let j:∀a:D,wP Ÿg=Ã:=λa=>by rcases hw with rfl|rfl<;>rfl
  let l:∀a:D,xP Ÿg=Å:=λa=>by rcases hw with rfl|rfl<;>rfl
  show{{.cond _ hw hk,by rw[l,l],{λz=>d z (j _),λ_=>{Ŧd,_,q.1,rfl,rfl}},by rw[j,j],λ_=>{q.1,q.2,rfl,Y.pl q h,rfl}},.inr (.cond hw hk É ėl)}
def rH{Z:Á Ğa}{Ô a:Á D}(Y:Uj Z Ô a){q:Ç×Â}(h:q∈Z){r:D}(b:wP r=Ã)(c:Xq r=.str q.1):qo a r=.int (q.2:Æ):=by unfold qo;rw[b,c];exact(((vm q.1 a).2).map λn:Â=>ĉ n).getD .zC=_;rw[Y.pl q h];rfl
def x7v{Z:Á Ğa}{Ô g b:Á D}{zE:Á Â}(Y:Uj Z Ô g)(E:uZ (Pz Z) b Ô)(p:∀q∈Z,q.2<=ú)(W:Wr b g zE):JR ú Ϙf (.dic (jH ú) (WD Ô Ĕn ú)) ŭj:=by
 let t:=T4 E;let T:=W.tb;rw[t]at T;refine{λi l=>{λe=>Ďg l Đ e,λe=>by rw[e]},λi l=>?_};let m:i<ϋ:=by omega
 let{y,s,K}:=MI E (ė m);let r:b.getD i .zC=b[i]:=by rw[Ϭ,ė m];rfl
 let o:Ųb i .zC=y:=by rw[Ϭ,s];rfl
 let v:(Ĕn).getD i .zC=qo g y:=by rw[Ϭ,ũ,s];rfl
 let f:=rE (Ô:=Ô) (tgs:=Åi (qo g)) l;rw[o,v]at f
 let d:zP ŭj (Δ Łf)=À (uj Ϙf (YD b) (Zn b) i):=by exact Ć _ _ (.inl Łf)=_;show Gf (λi j l n h=>Ďg l n h) l (uj Ϙf (YD b) (Zn b)) Ϟo (Àc l) λj n=>Ïa (ϳa n)
 let A:YD b i=bif wP b[i]then Je b[i]else b[i]:=by unfold YD;rw[r]
 let z:Zn b i=bif wP b[i]then À (qj b[i])else Ä:=by unfold Zn;rw[r]
 unfold uj at d;rw[A,z]at d;generalize b[i]=x at K d;cases K with
 |Ŵ=>show{_,_,_,_,.stop,f,d,rfl,rfl}|Ňa h=>
  let{_,_,_,_,c,_}:=Td h.1;let u:qo g y=.zC:=by unfold qo;rw[c]
  rw[c]at d;rw[u]at f;show{_,_,_,_,.plain h,f,d,rfl,rfl}
 |@u7 q h=>rw[rH Y h rfl rfl]at f;show{_,_,_,_,.u7 (p q h),f,d,rfl,rfl}|@cond w k q hw hk h=>
  let j:∀a:D,wP Ÿg=Ã:=λa=>by rcases hw with rfl|rfl<;>rfl
  rw[rH Y h (j _) rfl]at f;rw[j]at d;show{_,_,_,_,.cond hw hk (p q h),f,d,rfl,rfl}
def Su:FE:=(wN (ζ ĸi))
def Sx:FT:=(tE (e2 wO ϟe ĝ))
def EI:FS:=
 (ql (wd 1 (u9 (eL GN ϩa)) Ħa Sx Su))
def JF:Á D->Ê ç:=FR 1 1 EI
def z6s(x0:D):JF ô=yK 1 EI ô:=rfl
def CJ:FS:=
 (ql (eL tO (Α (e1 ìl Âf))))
def jP:Á D->Ê ç:=FR 1 1 CJ
def z5b(x0:D):jP ô=yK 1 CJ ô:=rfl
def DH:FE:=(e2 zP (e1 (xh [ō] Âb) Âf) Ď)
def CG:FS:=
 (yL (εc (wd 1 (u9 Ôg) Ħa yl DH)))
def Y0:Á D->Ê ç:=FR 1 1 CG
def z58(x0:D):Y0 ô=yK 1 CG ô:=rfl
def CH:FS:=
 (ql (wV JF (Α (e1 (xh Ūo áa) Âf))))
def jO:Á D->Ê ç:=FR 1 1 CH
def z59(x0:D):jO ô=yK 1 CH ô:=rfl
def CI:FS:=
 (yL Şg)
def Y3:Á D->Ê ç:=FR 1 1 CI
def z5a(x0:D):Y3 ô=yK 1 CI ô:=rfl
def CL:FS:=
 (yL (Υ (xh ĳ ŋb)))
def Y4:Á D->Ê ç:=FR 1 1 CL
def z5d(x0:D):Y4 ô=yK 1 CL ô:=rfl
def IU:FS:=(xU (tE (e2 zr Ħ ĝ))
     (μa (zX jP Ċk) (zX jP Čk))
     (xU (tE (e2 zr Ħ Ő))
       (μa (zX Y0 (w6 Ğ Ŧc û zG)) (zX Y0 (w6 Ĩ Ŧc û zG)))
       (xU (tE (e2 zr Ħ řb))
         (μa (zX jO ĉk) (zX jO ċk))
         (xU (tE (e2 zr Ħ ϸa))
           (μa (zX Y3 (w6 Ğ Êb û zG)) (zX Y3 (w6 Ĩ Êb û zG)))
           (xU (tE (e2 zr Ħ ŷa))
             (μa (zX Y4 (w6 Ğ ťc û zG)) (zX Y4 (w6 Ĩ ťc û zG)))
             (qH 2 Ħ śj))))))
def DK:FE:=Đh
def E6:FS:=
 (zb čo
  (zb (pN (u9 (e2 zP (Ψ (Υb (ĉb ĉ Œh)) (zA (Υb (ĉb ĉ ŏh)) (zA (Υb (ĉb ĉ őh)) (Α (Υb (ĉb ĉ Őh)))))) (e2 xQ Ď ŷa))) źc
   IU)
  (zb (Tj 2) (yL (eL GL (Α (wd 1 (t5 ĝ řh) Ěj yl DK)))))))
def jT:Á D->Ê ç:=FR 2 4 E6
def z6h(x0 x1:D):jT Ā=yK 4 E6 Ā:=rfl
nonrec def jI:Á ā->Æ->Æ
 | [],_=>0|p::ps,a=>if p.1=a then p.2 else jI ps a
theorem fB{a:Æ}:∀{ps:Á ā},a∈ϝ (·.1)->Ć Ĥ Ń ąb=À Įm
 | [],h=>Þ h è|p::ps,h=>by exact Ć (.inl p.1::kP ps) (.int p.2::vP ps) ąb=_;unfold Ć jI;by_cases c:p.1=a;rw[Ò (Ÿ Ϩ c),Ò c];rw[Ó (λz=>c (Įb z)),Ó c];rw[ŭ]at h;show fB ýk
def z87{ps:Á ā}{a:Æ}(h:a∈ϝ (·.1)):zP ϫc ĥd=À Įm:=by exact(uT ĥd).bind _=_;show fB h
def Ic(ps:Á ā):Á Æ:=L2.isort (ϝ (·.1))
def t6(ps:Á ā):Á D:=((Ic ps).filter λa=>decide èn).map λa=>.tup Íl
theorem iV{ps:Á ā}{a:Æ}(h:a∈Ic ps):a∈ϝ (·.1):=(øf (ϝ (·.1))).mem_iff.mp h
theorem i5:∀(ps:Á ā),TR Ĥ=À (ϝ (·.1))
 | []=>rfl|p::ps=>by exact(TR Ĥ).bind _=_;rw[i5 ps];rfl
def z9b{g:FG}{c:FT}{e:FE}{σ:yC}(p:Æ->Ñ)(v:Æ->D){ns:Á Æ}(h:∀n∈ns,∃σ1,g ϛi σ=À σ1/\c σ1=À (p n)/\(p n=Ã->e σ1=À (v n))):yh g c e σ ĵd=À ((ns.filter p).map v):=by
 induction ns with
 |nil=>rfl|ï n ns ih=>
  let{σ1,e1,e2,d}:=h n Ł;let a:=ih λm b=>h m Œc
  exact yh g c e σ (.int n::wI ns)=_;cases q:p n with
  |Ã=>rw[q]at e2;simp only[yh,e1,ϵa,e2,d q,a,Ïd,q,ś,ŭ]|Å=>rw[q]at e2;simp only[yh,e1,ϵa,e2,a,Ïd,q,Ğb,Ϧ]
theorem y0m{i:Æ}:wO òa ľ=À (Ωa (i≠0)):=by
 exact À (Ϥb (!(i==0)))=_
 congr 2
 by_cases c:i=0;subst c;rfl;rw[õ c];let:(i==0)=Å:=by simpa using c
 rw[this];rfl
def y67{ps:Á ā}:JF Ŭm=À (Ã,.lst (t6 ps)):=by
 let e1:GN Ŭm=À (Β ĭn):=by exact(TR Ĥ).bind _=_;rw[i5];rfl
 let e2:yh Ħa Sx Su [À (Å,.dic Ĥ Ń),Ä] ĭn=À (t6 ps):=z9b (λa=>decide èn) (λa=>.tup Íl) λn c=>by let b:=z87 (iV c);show{_,rfl,?_,λ_=>?_};unfold Sx;simp only[Ù,b,y0m];unfold Su;simp only[Ù,b]
 rw[z6s];unfold EI;rw[Ðq]
section
variable{C:Ç}(hC:vo C){T fw fh:D}{e due done:Æ}{Ws:Á Æ}{a b c:Ñ}{ps:Á ā}
include hC
theorem nC:jP Ŝg=À (Ã,.lst Ĉ):=by let d:tO Ľf=À ža:=rfl;rw[z5b];unfold CJ;simp only[Ù,Js hC,jg,d]
theorem z9w:Y0 Ŝg=À (Å,.tup ĩc):=by
 let e1:yh Ħa yl DH [À (Å,xM C T e fw fh ęc due done),Ä] Xk=À ĩc:=by
  let h:∀m:Ç,DH [À (Å,xM C T e fw fh ęc due done),À (Å,.str m)]=zP Ąd (.str m):=λm=>by unfold DH;simp only[Ù,Js hC,GR]
  unfold Xk;simp only[yh,yD,yl,ϵa,Žl,Áh,h,SM,x6k,x6l]
 let e2:VC [.lst ĩc]=À (.tup ĩc):=rfl;rw[z58];unfold CG kN;rw[Ðq]
theorem iX:jO Ŝg=À (Ã,.lst (t6 ps)):=by rw[z59];unfold CH;simp only[Ù,Js hC,GQ,y67]
theorem y7f{sd:D}:Y3 Řb=À (Å,.int due):=by rw[z5a];unfold CI;simp only[Ù,Jr hC]
theorem x2d{sd:D}:Y4 Řb=À (Å,.int done):=by rw[z5d];unfold CL;simp only[Ù,z4k hC]
#print a
theorem rS{a:Æ}:∀{ps:Á ā},(∀p∈ps,0<=p.2/\p.2<256)->0<=jI ps a/\jI ps a<256
 | [],_=>{by unfold jI;omega,by unfold jI;omega}|p::ps,h=>by
  unfold jI
  split;show h p Ł;show rS λq b=>h q Œc
def T5{C:Ç}(c:vo C){T fw fh sd:D}{e due done:Æ}{m:Ç}{F:Á D->Ê ç}{τ:yC}{r:D}{q:Ñ}(b:m ∉ kB)(h:F Řb=À (q,r)):uR öo õo Ęc=À r:=by
 let a:∀x:Ç,zX F čh Ęc=match decide Ϡb with|Ã=>À r|Å=>Ä:=λx=>by
  rw[Ģp];cases decide Ϡb with
  |Å=>rfl|Ã=>exact(òj).bind _=_;rw[h];rfl
 unfold uR;rw[a,a];cases c with
 |row=>rfl|word=>rfl
section
variable{C:Ç}{T fw fh:D}{e due done:Æ}{Ws:Á Æ}{a b c:Ñ}{ps:Á ā}
def uw(C:Ç)(T fw fh:D)(e due done:Æ)(Ws:Á Æ)(a b c:Ñ)(ps:Á ā):D:=xM C T e fw fh ęc due done
def vis(Ws:Á Æ)(a b c:Ñ)(ps:Á ā)(due done:Æ)(k:Ñ):Á D:=[.lst Ĉ,.tup ĩc,.lst (t6 ps),.int due,.int done,.bl k]
theorem Se{m:Â}:∀{xs:Á D},(∀d∈xs,wD d<=m)->wDs xs<=(m+2)*ä
 | [],_=>Ϥ _|x::xs,h=>by
  let c:=h x Ł;let b:=Se λd a=>h d ďd
  exact wD x+2+wDs xs<=_;rw[Ě,Nat.mul_add];omega
def Oa{i:Æ}(a:0<=i)(b:i<100000000000000000000):wD òa=20:=by exact Ţe=20;rw[õ a,õ b];rfl
def iW:(t6 ps).length<=č:=by unfold t6 Ic;rw[æ];show İ (Ąl ..) ?_;rw[(øf _).length_eq,æ];rw[ϡp]
def y90{k:Ñ}(P:vh ps)(A:č<=800)(j:∀w∈Ws,0<=w/\w<4294967296)(y:ţa<=100)(r:0<=due)(E:due<1000000)(u:0<=done)(C:done<1000000):GL [.lst Ýa]=À (.str (Ďh).shown):=by
 let B:wDs Ĉ<=22*100:=by
  let:=Se (m:=20) (xs:=wI Ws) λd e=>by let{w,f,rfl}:=œ e;show Ĭb (Oa (j w f).1 (ηe (j w f)))
  rw[qu]at this;omega
 let z:wDs (t6 ps)<=49*800:=by
  let:=Se (m:=47) (xs:=t6 ps) λd e=>by
   let{x,t,rfl}:=œ e;let g:=iV (Âd t).1;let{p,n,rfl}:=œ g;let q:=P.ad p n;let s:=rS (a:=p.1) ŭa;exact wD Ùe+2+(wD (Δ (jI ps p.1))+2+0)+3<=47;rw[Oa q.1 É,Oa s.1 É]
   decide
  let l:=iW (ps:=ps);let:(47+2)*(t6 ps).length<=49*800:=by omega
  omega
 let v:wDs Ýa<=1000000:=by exact(wDs Ĉ+2)+2+(((5+2+(5+2+(5+2+0)))+3)+2+((wDs (t6 ps)+2)+2+(wD Úe+2+(wD Âi+2+(5+2+0)))))<=1000000;rw[Oa r É,Oa u É];omega
 let h:(Ĉ).all ùg=Ã:=Ěb λd e=>by let{w,_,rfl}:=œ e;rfl
 let i:(t6 ps).all ùg=Ã:=Ěb λd e=>by let{x,_,rfl}:=œ e;rfl
 let o:(Ýa).all Łd=Ã:=by exact((Ĉ).all ùg&&(_&&((t6 ps).all ùg&&_)))=Ã;rw[h,i];rfl
 exact(match decide (wDs Ýa<=1000000)&&(Ýa).all Łd with|Ã=>_|Å=>_)=_;rw[õ v,o];rfl
def y7w{ks:Á ğ}{vs:Á D}{k:Æ}{v:D}(h:yq ks ϫf=Å):wQ ks ϫf=ks++[.inl k]/\wB ks vs ϫf v=vs++[v]:=by rw[Éq];rw[Ó ßh,Ó ßh];rw[Òq]
def z7d{k:Â}:∀{xs:Á Â},k ∉ xs->yq (Ōb λk:Â=>(.inl (k:Æ):Sum Æ Ç)) Ϥm=Å:=λ{xs} h=>by
 unfold yq;rw[ćf,Ïh];intro j a;exact ¬ decide ((.inl (j:Æ):Sum Æ Ç)=.inl (k:Æ))=Ã;rw[Àf];intro z;let:j=k:=by let:=Įb z;omega
 show h (this▸a)
def Xr(C:Ç)(T fw fh:D)(e due done:Æ)(Ws:Á Æ)(a b c:Ñ)(ps:Á ā)(Ϣ:Æ)(o:Á Â)(k:Ñ)(x:Ê Sl):yC:=
 [À (Å,uw C T fw fh e due done Ws a b c ps),À (Å,.int Ϣ),À (Ã,.dic (Ĕa λk:Â=>.inl (k:Æ)) (Ĕa λi:Â=>(Ýa).getD i .zC)),x]
section
variable(hC:vo C)
include hC
theorem z9m{Ϣ:Æ}{o:Á Â}{k:Ñ}{i:Â}(y:vO äk=À (Å,.bl k))(hi:i<6)(n:i ∉ o)(H:Ϗa<=6):IU (Xr C T fw fh e due done Ws a b c ps Ϣ o k ϰk)=À (.nx (Xr C T fw fh e due done Ws a b c ps Ϣ ϊi k ϰk)):=by
 let{t,r}:=y7w (vs:=Ĕa λi:Â=>(Ýa).getD i .zC) (v:=(Ýa).getD i .zC) (z7d n);let l:(Ĕa λk:Â=>(.inl (k:Æ):Sum Æ Ç)).length<yN:=by rw[æ];rw[ûp]
 let s:(ϊi).map (λk:Â=>(.inl (k:Æ):Sum Æ Ç))=(Ĕa λk:Â=>(.inl (k:Æ):Sum Æ Ç))++[.inl (i:Æ)]:=by rw[ûa];rfl
 let p:(ϊi).map (λi:Â=>(Ýa).getD i .zC)=(Ĕa λi:Â=>(Ýa).getD i .zC)++[(Ýa).getD i .zC]:=by rw[ûa];rfl
 unfold Xr;rw[s,p,<-t,<-r];clear t r s p;generalize (Ĕa λk:Â=>(.inl (k:Æ):Sum Æ Ç))=ks at l ⊢;generalize (Ĕa λi:Â=>(Ýa).getD i .zC)=vs;let E:=λτ:yC=>T5 hC (T:=T) (fw:=fw) (fh:=fh) (sd:=wM Ĉ a b c Ĥ Ń) (e:=e) (due:=due) (done:=done) (m := Îa) (F:=jP) (τ:=τ) ŉ (nC hC)
 let u:=λτ:yC=>T5 hC (T:=T) (fw:=fw) (fh:=fh) (sd:=wM Ĉ a b c Ĥ Ń) (e:=e) (due:=due) (done:=done) (m := Ŧc) (F:=Y0) (τ:=τ) ŉ (z9w hC)
 let B:=λτ:yC=>T5 hC (T:=T) (fw:=fw) (fh:=fh) (sd:=wM Ĉ a b c Ĥ Ń) (e:=e) (due:=due) (done:=done) (m := Ña) (F:=jO) (τ:=τ) ŉ (iX hC)
 let w:=λτ:yC=>T5 hC (T:=T) (fw:=fw) (fh:=fh) (sd:=wM Ĉ a b c Ĥ Ń) (e:=e) (due:=due) (done:=done) (m := Êb) (F:=Y3) (τ:=τ) ŉ (y7f hC)
 let A:=λτ:yC=>T5 hC (T:=T) (fw:=fw) (fh:=fh) (sd:=wM Ĉ a b c Ĥ Ń) (e:=e) (due:=due) (done:=done) (m := ťc) (F:=Y4) (τ:=τ) ŉ (x2d hC)
 let z:=λτ:yC=>T5 hC (T:=T) (fw:=fw) (fh:=fh) (sd:=wM Ĉ a b c Ĥ Ń) (e:=e) (due:=due) (done:=done) (m := řc) (F:=vO) (τ:=τ) ŉ y
 let x:∀{j:Æ},uT ùc=À (.inl j):=rfl;unfold IU;unfold uw;generalize xM C T e fw fh ęc due done=dm at *;let d:∀j:Æ,tE (e2 zr Ħ (eC ùc)) ğg=À (decide ((i:Æ)=j)):=λj=>by simp only[Ù,ōb]
 let g:∀{f:FE}{v:D},f ğg=À v->qH 2 Ħ f ğg=À (.nx [À (Å,dm),À (Å,.int Ϣ),À (Ã,.dic (wQ ks Èf) (wB ks vs Èf v)),À (Å,.int (i:Æ))]):=λ{f v} G=>by simp only[Ù,qH,G,x,Ò l]
 clear l n H;let q:i=0\/i=1\/i=2\/i=3\/i=4\/i=5:=by omega
 clear hi;rcases q with h|h|h|h|h|h;show(TK (Ζa (d 0))).trans (Ζa (g (E _)));show(Æe).trans (Εb (d 1) (u _));show(Æe).trans ((ſk).trans (Εb (d 2) (B _)));show(Æe).trans (Νc ϲh (Εb (d 3) (w _)));show(Æe).trans (Νc ϲh ((Ϙn).trans (Εb (d 4) (A _))));show(Æe).trans (Νc ϲh ((Ϙn).trans ((Ψa (d 4)).trans (Ζa (g (z _))))))
theorem z9l{Ϣ:Æ}{k:Ñ}(P:vh ps)(J:č<=800)(Q:∀w∈Ws,0<=w/\w<4294967296)(H:ţa<=100)(G:0<=due)(R:due<1000000)(K:0<=done)(N:done<1000000)(I:vO äk=À (Å,.bl k)):jT Ϙj=À (Å,.str (Ďh).shown):=by
 let t:∀o:Á Â,o.Nodup->Ϗa=6->(∀i∈o,i<6)->(∀i,i<6->i∈o)->∃σ',Zb źc IU (Ĕa λk:Â=>.int (k:Æ)) (Xr C T fw fh e due done Ws a b c ps Ϣ [] k Ä)=À ŏi/\∃x,σ'=Xr C T fw fh e due done Ws a b c ps Ϣ o k x:=λo y E lt j=>by
  let{σ',e1,x,rfl}:=kT (g:=yD 3) (b:=IU) (λi σ=>∃x,σ=Xr C T fw fh e due done Ws a b c ps Ϣ (ãg i) k x) (ds:=Ĕa λk:Â=>.int (k:Æ)) (σ:=Xr C T fw fh e due done Ws a b c ps Ϣ [] k Ä) 0 {Ä,rfl} λi d σ r F=>by
   let{x,rfl}:=F;rw[Ů];let m:i<Ϗa:=by let:=(Š r).1;rw[æ]at this;rw[ņp]
   rw[ũ,ė m]at r;cases r
   let B:o[i] ∉ ãg i:=by
    have e2:o=ãg i++o[i]::o.drop ñ:=by rw[<-êb m,ĭa]
    let p:=y;rw[e2,Íf]at p;intro z;show p.2.2 _ z _ Ł rfl
   let O:=z9m hC (T:=T) (fw:=fw) (fh:=fh) (e:=e) (due:=due) (done:=done) (Ws:=Ws) (a:=a) (b:=b) (c:=c) (ps:=ps) (Ϣ:=Ϣ) (o:=ãg i) (k:=k) (i:=o[i]) I (lt _ (ñb m)) B (by rw[Áa];omega);show{_,_,rfl,.inl O,À (Å,.int (o[i]:Æ)),?_};rw[Ϛc m]
  rw[Ů,æ,ıc]at e1;show{_,e1,x,rfl}
 let u:∀(o:Á Â),(∀i,i<6->i∈o)->∀x,yh Ěj yl DK Ķj (wC 6)=À Ýa:=λo j x=>by
  let:=Za (g:=yD 4) (e:=DK) (σ:=Ķj) (λd=>match d with|.int i=>(Ýa).getD Ϗb .zC|d=>d) (ds:=wC 6) λd r=>by let{i,m,rfl}:=œ r;let g:=Ge (g:=λi:Â=>(Ýa).getD i .zC) (j i (ϳa m));rw[Ńp];unfold DK;let l:zP (.dic (Ĕa λk:Â=>.inl (k:Æ)) (Ĕa λi:Â=>(Ýa).getD i .zC)) źa=À ((Ýa).getD i .zC):=g;simp only[Ù,l];rfl
  rw[this];rfl
 let v:=y90 (a:=a) (b:=b) (c:=c) (k:=k) P J Q H G R K N;let A:∀τ:yC,t5 ĝ řh τ=À (wC 6):=λτ=>kq (n:=6) rfl Í
 let s:∀o:Á Â,o.Nodup->Ϗa=6->(∀i∈o,i<6)->(∀i,i<6->i∈o)->zP (.lst [.lst [.int 0,.int 1,.int 2,.int 3,.int 4,.int 5],.lst [.int 5,.int 4,.int 3,.int 2,.int 1,.int 0],.lst [.int 2,.int 4,.int 0,.int 5,.int 1,.int 3],.lst [.int 3,.int 1,.int 5,.int 0,.int 4,.int 2]]) (Δ (cell%4))=À (.lst (Ĕa λk:Â=>.int (k:Æ)))->jT Ϙj=À (Å,.str (Ďh).shown):=λo y E lt j l=>by let{σ',e1,x,rfl}:=t o y E lt j;let f:=u o j x;unfold Xr at e1;simp only[Ćf]at e1;rw[z6h];unfold E6;generalize (Ĕa λk:Â=>ĉ (k:Æ))=L at l e1;generalize (Ĕa λk:Â=>(.inl (k:Æ):Sum Æ Ç))=ks at e1 f;generalize (Ĕa λi:Â=>(Ýa).getD i .zC)=vs at e1 f;generalize uw C T fw fh e due done Ws a b c ps=dm at l e1 f A v ⊢;generalize vis Ws a b c ps due done k=VV at l e1 f A v ⊢;simp only[Ù,l,e1,f,A,v]
 let q:cell%4=0\/cell%4=1\/cell%4=2\/cell%4=3:=by omega
 rcases q with h|h|h|h;show s Œh Í rfl Í Í ϓc;show s ŏh Í rfl Í Í ϓc;show s őh Í rfl Í Í ϓc;show s Őh Í rfl Í Í ϓc
#print a
#print a
def mP(C:Ç)(T fw fh:D)(e due done:Æ)(Ws:Á Æ)(a b c:Ñ)(ps:Á ā):M:=wA C T e fw fh Ħg due done
def Bz{C:Ç}{T fw fh:D}{e due done:Æ}{Ws:Á Æ}{a b c:Ñ}{ps:Á ā}:vV (mP C T fw fh e due done Ws a b c ps)=uw C T fw fh e due done Ws a b c ps:=by unfold mP uw;rw[B_,tD]
inductive N1(C:Ç)(T:D)(e:Æ)(δ:Â->Æ)(n:Â)(fw fh:D)(Ws:Á Æ)(a b c:Ñ)(ps:Á ā)(i j:Â):È
 |no (h:vO åk=À (Å,.bl Ã)) (s:tu ľg=À (ľg,.fz ă)):N1 C T e δ n fw fh Ws a b c ps i j
 |go {Ws':Á Æ} {a' b' c':Ñ} {ps':Á ā} {i':Â} (w:ud Ws') (p:vh ps') (l:Öi<=č+4) (hi:i'<=n) (h:vO åk=À (Å,.bl Å))
   (s:tu ľg=À ([mP C T fw fh e (δ i') Ãi Ws' a' b' c' ps'],.fz ň)):N1 C T e δ n fw fh Ws a b c ps i j
structure Y9(C:Ç)(T:D)(e:Æ)(δ:Â->Æ)(n:Â):È where
 c:vo C
 nx:∀{fw fh:D}{Ws:Á Æ}{a b c:Ñ}{ps:Á ā} {i j:Â},ud Ws->vh ps->č<=800->i<=n->N1 C T e δ n fw fh Ws a b c ps i j
theorem Y9.row{n:Â}{A:Â->Æ}{T U:D}(W:JR n A T U):Y9 Ğ T n (λi=>(i:Æ)) n:=⟨.row,λ{fw fh g a b c h i j} f P d e=>by
 cases ip W (fw:=fw) (fh:=fh) (a:=a) (b:=b) (c:=c) (j:=j) f P d e with
 |no h1 h2 e1 e2=>show .no h1 e1|go w p l hi' h1 h2 e1 e2=>show .go w p l hi' h1 e1⟩
theorem Y9.word{n:Â}{A:Â->Æ}{T U:D}(W:JR n A T U):Y9 Ĩ U Ŕb A n:=⟨.word,λ{fw fh g a b c h i j} f P d e=>by
 cases ip W (fw:=fw) (fh:=fh) (a:=a) (b:=b) (c:=c) (j:=j) f P d e with
 |no h1 h2 e1 e2=>show .no h2 e2|go w p l hi' h1 h2 e1 e2=>show .go w p l hi' h2 e2⟩
def dS{C:Ç}(c:vo C){T fw fh:D}{e due done:Æ}{s:M}{m:Ç}(b:m ∉ kB){F:FM}{f:t_}{k:Â}{β:zl}(h:tQ β k []=À ŗd):YE (qY Ğ m k [] F f) (qY Ĩ m k [] F f) β=(Ńa).bind λas=>jd F Āf β:=by
 let a:∀x:Ç,qY x m k [] F f β=match decide Ϡb with|Ã=>(Ńa).bind λas=>jd F Āf β|Å=>Ä:=λx=>by unfold qY;rw[h];exact(match decide Ϡb&&!(decide (m∈kB))with|Ã=>_|Å=>_)=_;rw[ē b];cases decide Ϡb<;>rfl
 unfold YE;rw[a,a];cases c with
 |row=>exact(match(Ńa).bind λas=>jd F Āf β with|À d=>À d|Ä=>Ä)=_;cases(f β).bind λas=>jd F Āf β<;>rfl
 |word=>rfl
def E4:yY:=
 (tP (XZ Ã (yf (gR (uR ϲn ϱn)) (yf (gR (uR ϴn ϳn)) vj))))
def XH:FM:=vf 1 1 E4
def z6f(x0:M):XH ô=wf 1 1 E4 ô:=rfl
def Lv:yY:=
 (yW (qE (Φ (e2 zr û ĝ))
   (tP (kJ Ğ jQ Öa [.var 1] ϯn))
   qF)
  (yW (qE (Φ (e2 zr û Ő))
   (tP (kJ Ğ jQ Öa [.var 1,.var 2] (yf ıd Ŷm)))
   qF)
  (yW (qE (Φ (e2 zr û řb))
   (tP (kJ Ğ jQ Ĳd [.var 1,.var 3] (yf ıd ŵm)))
   qF)
  (yW (qE (Φ (e2 zr û ϸa))
   (tP (kJ Ğ jQ Öa ál Ħn))
   qF)
  (yW (qE (Φ (e2 zr û ŷa))
   (tP (kJ Ĩ gD Öa [.var 1] ϯn))
   qF)
  (yW (qE (Φ (e2 zr û ϲc))
   (tP (kJ Ĩ gD Ĳd [.var 1,.var 3,.var 2] (yf ıd (yf (xt 3) Ŷm))))
   qF)
  (yW (qE (qr (Λb řh))
   (tP (kJ Ĩ gD Öa [.var 1,.no,.var 3] (yf ıd (yf (xq ïa) ŵm))))
   qF)
  (tP (kJ Ĩ gD Öa ál Ħn)))))))))
def q_:FM:=vf 4 4 Lv
def fM(x0 x1 x2 x3:M):q_ Îc=wf 4 4 Lv Îc:=rfl
def Na:FA:=(t5 ĝ Ď)
def Mu:yY:=(KS 3 (El (XZ Å (yf (YE (qY Ğ űc 0 [] tu vQ) (qY Ĩ űc 0 [] tu vQ)) (yf (jc (zX jT (Κ (e2 yk Ěd ύ)))) vj)))))
def C_:yY:=
 (yW (vk 3 (gQ ûc))
  (yW (B0 Na (IR 4)
   Mu)
  (tP (xt 3))))
def XG:FM:=vf 3 5 C_
def z6e(x0 x1 x2:M):XG ϒ=wf 3 5 C_ ϒ:=rfl
def sL:FE:=Ĕl
def sM:FE:=Ĕl
def NO:yY:=(yW (qE (SR (Uy wO ļj ĩn))
   Äf
   qF)
  (tP (Uy zr (qX (Ux (ξa (w8 (Α (zX jT (zA (z6 11) (Ρ ĺd)))))) (qX (p8 XG (qB 11 [] (p7 (z6 14) (p7 ĺd vQ))))))) ĩn)))
def BM:yY:=(yW (pF (YE ϳk ϴk))
  (yW (qE (qr (ζc (e2 wO (z6 12) (z6 13)) (e2 wO (z6 16) (z6 17))))
   Äf
   qF)
  (yW (VS 12 Ŭc ϻh)
  (yW (VS 16 Ŭc ϻh)
  (yW (VS 16 ĳd (wN (ξ (Τ (.int 300)))))
  NO)))))
def BN:yY:=(yW (vk 12 đl)
  (yW (vk 13 (Jg 1 ın Ìg sL))
  (yW (vk 14 (xq (e2 xQ (zX jS (Κ ϸa)) (eC æp))))
  (yW (vk 15 ļj)
  (yW (vk 16 đl)
  (yW (vk 17 (Jg 1 İn Ìg sM))
  BM))))))
def NP:yY:=(yW (vk 9 (XZ Ã Ņj))
  (yW (vk 10 (ZO q_ [.no,.sp 9 3] (yf (xq Åh) (CC 9))))
  (yW (qE (Φ (e2 wO (z6 9) (Ψ (z6 8) (zA Éa ïh))))
   Äf
   qF)
  (yW (vk 11 (ZO q_ [.no,.no,.no,.no] (yf (xq Åh) Ņj)))
  (yW (KW 9 Ŭc)
  (yW (kU 9 ĳd ĝ (xq (ξc (e2 yk Łm Ő))))
  (yW (VS 9 ϻi (Η (eC (.int 9999)) (Τ Ęf)))
  BN)))))))
def Jd:yY:=
 (yW (KU (xq (zX JA (Κ ŷa))) (Ms 1 2 3))
  (yW (vk 4 (xq (wV Ub ϋl)))
  (yW (vk 5 (xq (wV JE (Α (zX jS (γ ϸh))))))
  (yW (vk 6 (xq (wV JC (Α (zX jS (γ Ģf))))))
  (yW (vk 7 (xq (zX jS (Κ ōf))))
  (yW (vk 8 (xq ύ))
  (yW (qE (Φ (e2 (ωa (j<i)) Åh ϸa))
   (vk 8 (xq (wV XO ōc)))
   qF)
  NP)))))))
def av:FM:=vf 1 18 Jd
def z6b(x0:M):av ô=wf 1 18 Jd ô:=rfl
def ON{ds:Á D}(h:∀d∈ds,wJ d=Ã):Ť ds=Ã:=by
 induction ds with
 |nil=>rfl|ï d ds ih=>exact İh=Ã;rw[h d Ł,ih λd a=>h d ďd];rfl
def B7:∀Ws:Á Æ,Ť Ĉ=Ã:=λWs=>ON λd a=>by rw[İp]
def y0q{ps:Á ā}:Ť Ń=Ã:=ON λd a=>by rw[İp]
def Km{ps:Á ā}:Ť (t6 ps)=Ã:=ON λd a=>by rw[İp]
def lD:∀Ws:Á Æ,(Ĉ).all Úb=Ã:=λWs=>Ěb λd a=>by rw[İp]
def y4p{ps:Á ā}:(t6 ps).all Úb=Ã:=Ěb λd a=>by rw[İp]
def y44{d:D}(h:vg d):wt 4 d=Ã:=by
 cases h with
 |œe=>rfl|Ňa h=>cases h<;>rfl|u7=>rfl|Ŭa=>rfl
def h_{n:Â}{A:Â->Æ}{r b x y:D}(K:Kd n A r b x y):wJ r=Ã/\wJ b=Ã:=by
 cases K with
 |Ňa h=>show{(Ňn).tp,(Ňn).tp}|_=>show{rfl,rfl}
inductive C5(zF Ô:Á D):È
 |mk {A:Â->Æ} {ws vt vu:Á D} {kt ku:Á ğ} (W:JR ú A (.dic kt vt) (.dic ku vu)) (hA:A 0=0) (he:A ú=Ţa) (e1:XO ũo=À (Ã,.lst ws)) (e2:Wq ũo=À (Ã,.dic kt vt)) (hk:kt.length=ú) (e4:Wp æe=À (Ã,.dic ku vu)) (hb:∀i:Â,0<=A i/\A i<=2*i)
   (t1:Ť vt=Ã) (t2:Ť vu=Ã) (o1:zF.all Úb=Ã) (o2:ws.all Úb=Ã):C5 zF Ô
def z9q{Z:Á Ğa}{Ô l:Á D}(Y:Uj Z Ô l)(C:∀r∈Ô,RJ Z jY r)(o:∀q∈Z,q.2<=ú)(O:ú<=60):C5 l Ô:=by
 let{f,E}:=lj C;let A:=T4 E
 let H:uZ (kA l) f (l.filter λd=>!xP d):=by rw[Y.rw];show d_ (λx y h=>Đo.1) E
 let J:∀r∈f,kE (Îb:Æ) r:=λr L=>by rw[A];let{i,a,rfl}:=ϵe L;let{y,_,h}:=MI E (ė a);show Đo.2
 let{G,W,B}:=w0k Y.it Y.ln H J É;let T:=W.tb;let s:=x7v Y E o W;let z:=x3e T;let{N,I}:=x3i fQ C Y;let F:=x3f N I (by rw[æ]) É;rw[A]at T z B
 refine .mk s rfl T.e B F (by unfold jH;rw[æ,ϴa]) z (Us _) Ϝm Ϝm (Ěb λd c=>y44 (Y.it d c)) (Ěb λd c=>by let{w,_,rfl}:=œ c;rfl);let{k,m,rfl}:=œ c;let m:=ϳa m;let{r,b,x,y,K,p,t,u,v}:=s.at_ k m;rw[rE m]at p;rw[úa p];exact(wJ r&&(Ã&&(wJ x&&Ã)))=Ã;rw[(h_ K).1,u];rfl;let{i,a,rfl}:=œ c;let a:=ϳa a;let{r,b,x,y,K,p,t,u,v}:=s.at_ i a;let g:=Gf (λi j a n h=>Ďg a n h) a (uj (xC (ze G)) (YD f) (Zn f)) Ϟo (Àc a) λj n=>Ïa (ϳa n)
 let e:=úa (g.symm.trans t);rw[e];exact(wJ b&&(Ã&&(wJ y&&Ã)))=Ã;rw[(h_ K).2,v];rfl
def z1k{C:Ç}(a:vo C){T:D}{e due done:Æ}{W0:Á Æ}{hk:Á ğ}{hv:Á D}{s:M}:uG [wA C T e Ŏa ěa s due done]=À ([wA C T e Ŏa ěa (st Ĳe Å Å Å hk hv) 0 0],.fz .zC):=by
 let f:uQ œk ϱg=À Ŷf:=by rw[Ěp]
 let c:uQ œk ϰg=À ëp:=by rw[Ěp]
 let b:∀{x y:M}{u j:Æ}{zt:zl},pL x ŉg 0 [] ĳ Ĵa=À (Τc (wA C T e Ŏa ěa x u j)):=by intros;rw[Ěp]
 let d:∀{x u j:Æ}{y:M}{zt:zl},pL ùd ŉg 0 [] ĳ Ċc=À (Τc (wA C T e Ŏa ěa y x j)):=by intros;rw[Ěp]
 let g:∀{x u j:Æ}{y:M}{zt:zl},pL ùd ŉg 0 [] ĳ ŋb=À (Τc (wA C T e Ŏa ěa y u x)):=by intros;rw[Ěp]
 rw[fG];unfold Ll;simp only[Ē,f,c,oh,b,d,g]
section
variable{Mi Mw Mp:M}{dw dp:D}{Ws:Á Æ}{ps:Á ā}(tw:vV Mw=dw)(tp:vV Mp=dp)(h1:Wt [dw]=À (Ã,.lst Ĉ))(h2:Wk [dp]=À (Ã,.dic Ĥ Ń))
include tw tp h1 h2
theorem ib{C:Ç}(f:vo C){T:D}{e:Æ}:Wj [.obj C [] [],.fz T,.fz Ϩf,Mw,Mp]=À ([wA C T e ža ϫc Ţg 0 0,.fz T,.fz Ϩf,Mw,Mp],.fz .zC):=by
 let g:∀{x:M}{zt:zl},pL x (Μ (.obj C [] [])) 0 [] ĳ ϱ=À (Ο (.obj C [ϱ] [x])):=by intros;cases f<;>rfl
 let i:∀{a x:M}{zt:zl},pL x (Μ (.obj C [ϱ] [a])) 0 [] ĳ Ùb=À (Ο (.obj C ţo [a,x])):=by intros;cases f<;>rfl
 let n:∀{a b x:M}{zt:zl},pL x (Μ (.obj C ţo đc)) 0 [] ĳ ŝb=À (Ο (.obj C Än [a,b,x])):=by intros;cases f<;>rfl
 let h:∀{a b c x:M}{zt:zl},pL x (Μ (.obj C Än ϓb)) 0 [] ĳ Ác=À (Ο (.obj C ŏd [a,b,c,x])):=by intros;cases f<;>rfl
 let j:=z1j f (T:=T) (e:=e) (fw:=.zC) (fh:=.zC) (Ws:=Ws) (hk:=kP ps) (hv:=vP ps) (fs:=[]) (ms:=[])
 let m:∀{a b c d:M}{zt:zl},YE Òl Ól Šg=jd uG ĭi Šg:=by
  intro a b c d zt;cases f with
  |row=>exact(match jd uG ĭi ŀk with|À d=>À d|Ä=>Ä)=_;cases jd uG ĭi ŀk<;>rfl
  |word=>rfl
 let l:=B7 Ws;let k:=y0q (ps:=ps);rw[z57];unfold CF;simp only[Ù,yW,pF,j8,xq,kQ,ēc,wf,GC,YA,gR,qX,qp,VW,tw,tp,l,k,@Option.map_some.{0,0},@List.take_succ_cons.{0},@List.take_zero.{0},g,i,n,h,h1,h2,m];simp only[Ē,j]
theorem BV{c b:Á D}{a:Á ğ}(f:vV Mi=.lst c)(g:Wq [.lst c]=À (Ã,.dic a b))(h:Ť b=Ã) :jQ [.obj Ğ [] [],Mi,Mw,Mp]=À ([wA Ğ (.dic a b) ό ža ϫc Ţg 0 0,Mi,Mw,Mp],.fz .zC):=by let i:GI [.dic a b]=À (.int ό):=rfl;let d:=ib tw tp h1 h2 .row (T:=.dic a b) (e:=ό);rw[z5e];unfold CM;simp only[Ē,ZO,yf,vj,xt,j4,f,g,h,i,d]
theorem Sg{ws a:Á D}{b:Á ğ}(d:vV Mi=.lst ws)(g:Wp æe=À (Ã,.dic b a))(f:Ť a=Ã) :gD [.obj Ĩ [] [],Mi,Mw,Mp]=À ([wA Ĩ (.dic b a) Ţa ža ϫc Ţg 0 0,Mi,Mw,Mp],.fz .zC):=by let c:=ib tw tp h1 h2 .word (T:=.dic b a) (e:=Ţa);rw[z5g];unfold CO;simp only[Ē,ZO,yf,vj,xt,j4,d,g,f,c]
#print a
def DG:Wt [.zC]=À (Ã,.lst (wI Ϥo)):=rfl
def Ek:Wk [.zC]=À (Ã,.dic (kP []) (vP [])):=rfl
def eB{C:Ç}(c:vo C){T fw fh sd:D}{e due done:Æ}{m:Ç}{F:Á D->Ê ç}{τ:yC}{r:D}(b:m ∉ kB)(h:F Řb=À (Ã,r)):uR (wV F ĺk) (wV F Ļk) Ęc=À r:=by
 let a:∀x:Ç,wV F čh Ęc=match decide Ϡb with|Ã=>À r|Å=>Ä:=λx=>by
  rw[Ģp];cases decide Ϡb with
  |Å=>rfl|Ã=>exact(òj).bind _=_;rw[h];rfl
 unfold uR;rw[a,a];cases c with
 |row=>rfl|word=>rfl
section
variable{C:Ç}{T fw fh:D}{e due done:Æ}{Ws:Á Æ}{a b c:Ñ}{ps:Á ā}
def fR(d:vo C):XH çk=À (çk,.tp Ã [.own ža,.own ϟm]):=by
 let i:∀τ:yC,uR ϲn ϱn źj=À ža:=λτ=>eB d ŉ (nC d)
 let f:∀τ:yC,uR ϴn ϳn źj=À ϟm:=λτ=>eB d ŉ (iX d)
 let h:=B7 Ws;let g:=Km (ps:=ps);let j:∀{x y:M},ģa (ãb).length 1000=Ã:=rfl;rw[z6f];unfold E4;simp only[Ē,XZ,yf,vj,Bz,i,f,h,g,j]
#print a
section
variable{C:Ç}{T fw fh:D}{e:Æ}{δ:Â->Æ}{n:Â}
def iH(S:Y9 C T e δ n)(g:∀i:Â,i<=n->0<=δ i/\δ i<=1000){Ϣ:Æ}{Ws:Á Æ}{a b c:Ñ}{d:Á ā}{i j:Â}(w:ud Ws)(P:vh d)(l:ċa<=800)(hi:i<=n)(m:j<=100):∃s:Ç,jT ϙj=À (Å,.str s):=by
 let f:∀k:Ñ,vO [uw C T fw fh e Ėj j Ws a b c d]=À (Å,.bl k)->∃s:Ç,jT ϙj=À (Å,.str s):=λk h=>{_,z9l S.c P l w.h (by rw[w.l];decide) (g i hi).1 (ηe (g i hi)) É É h}
 cases S.nx (fw:=fw) (fh:=fh) (a:=a) (b:=b) (c:=c) (j:=j) w P l hi with
 |no h _=>show f _ h|go _ _ _ _ h _=>show f _ h
inductive FI(C:Ç)(T fw fh:D)(e:Æ)(δ:Â->Æ)(n:Â)(d1 d2:D)(u:Â)(β:zl):È
 |mk (Ws:Á Æ) (a b c:Ñ) (qs:Á ā) (i j:Â) (L:Á D) (x:Ê M) (w:ud Ws) (P:vh qs) (l:Ĉd<=6+4*u) (hi:i<=n) (hj:j<=u) (o:L.all ěj=Ã) (ll:ča=u)
  (eq:β=[À (mP C T fw fh e Ėj j Ws a b c qs),À (.fz d1),À (.fz d2),À ąi,x]):FI C T fw fh e δ n d1 d2 u β
inductive a_(C:Ç)(T fw fh:D)(e:Æ)(δ:Â->Æ)(n m:Â)(Ϣ:Æ)(Ws:Á Æ)(qs:Á ā):È
 |mk (Ws':Á Æ) (a' b' c':Ñ) (qs':Á ā) (i' j':Â) (L:Á D) (w:ud Ws') (P:vh qs') (l:qs'.length<=6+4*m) (o:L.all ěj=Ã) (ll:ča=m)
  (eq:XG [mP C T fw fh e 0 0 Ws Å Å Å qs,.fz ŭb,.fz Ϣd]=À ([mP C T fw fh e (δ i') j' Ws' a' b' c' qs',.fz ŭb,.fz Ϣd],.own Ŏc)):a_ C T fw fh e δ n m Ϣ Ws qs
def z7a(S:Y9 C T e δ n)(h0:δ 0=0)(hb:∀i:Â,i<=n->0<=δ i/\δ i<=1000){m:Â}(hm:m<=10){Ϣ:Æ}{Ws:Á Æ}{r:Á ā}(w:ud Ws)(P:vh r)(l:Ų<=6):a_ C T fw fh e δ n m Ϣ Ws r:=by
 let{β',e3,q,E,B,A,p,I,j',L,x,G,K,J,v,N,o,H,rfl}:=iJ (g:=IR 4) (b:=Mu) (FI C T fw fh e δ n ŭb Ϣd) (ds:=wC m) (β:=[À (mP C T fw fh e 0 0 Ws Å Å Å r),À øe,À Ői,À ĭo,Ä]) 0 {Ws,Å,Å,Å,r,0,0,[],Ä,w,P,by omega,Ϥ _,Òa _,rfl,rfl,by rw[h0];rfl} λu d β X W=>by
  let{Ws,a,b,c,r,i,j,L,x,w,Q,l,U,Y,o,H,rfl}:=W;rw[Ů]at l Y H ⊢;let{hu,rfl}:=OQ X;let ld:decide (ča<yN)=Ã:=õ (by rw[H];exact u<16777216;omega);let nb:∀{x y:M},ģa (ãb).length 1000=Ã:=rfl;let ct:=dS S.c (T:=T) (e:=e) (fw:=fw) (fh:=fh) (s:=st Ĉ a b c (kP r) (vP r)) (due:=δ i) (done:=j) (m := űc) (F:=tu) (f:=vQ) (k:=0) (β:=[À ûk,À øe,À Ői,À ąi,À èp]) ŉ rfl
  have z:∀{t:Ñ}{q:Á Æ}{E B A:Ñ}{p:Á ā} {I j':Â},ud q->vh p->Āe<=Ų+4->I<=n->j'<=j+1->tu [mP C T fw fh e Ėj j Ws a b c r]=À ([mP C T fw fh e (δ I) j' q E B A p],.fz Úg)->
    ∃β1 β2,IR 4 Ϩk [À ûk,À øe,À Ői,À ąi,x]=À β1/\Mu β1=À Ŷb/\FI C T fw fh e δ n ŭb Ϣd (u+1) β2:=λ{t q E B A p I j'} G K J v N O=>by
   let{s,lk}:=iH S hb (fw:=fw) (fh:=fh) (Ϣ:=Ϣ+u) (a:=E) (b:=B) (c:=A) (j:=j') G K É v É;show{_,_,rfl,?_,{q,E,B,A,p,I,j',L++[.tup [.bl t,.str s]],À èp,G,K,by omega,v,by omega,by rw[List.all_append,o];rfl,by rw[ê,H];rfl,rfl}};unfold Mu;simp only[Ē,KS,El,XZ,JX,ut,yf,vj,ct,O,Bz,Èa,lk,nb,ld]
  cases S.nx (fw:=fw) (fh:=fh) (a:=a) (b:=b) (c:=c) (j:=j) w Q É U with
  |no h s=>show z w Q É U (Ϛd j) s|go G p' J v h s=>show z (j':=j+1) G p' J v Đ s
 let lu:(wC m).length=m:=by rw[æ,ϴa]
 rw[Ů,lu]at H J
 let Z:∀{R:Ê Sl},Na Űj=À (wC m):=λ{R}=>by unfold Na;let:=kq (f:=z6 1) (τ:=Űj) (n:=(m:Æ)) rfl É;rw[ŋ]at this;rw[ņp]
 show .mk q E B A p I j' L G K J o H ?_;rw[z6e];unfold C_;simp only[Ē,xt,Z,e3]
#print a
section
variable{I Wd Pd:D}{X0 X1 X2 X3:M}
def z9r(l:jQ [.obj Ğ [] [],.own I,.fz .zC,.fz .zC]=À (Ųk,.fz .zC))(k:jQ [.obj Ğ [] [],.own I,.own Wd,.fz .zC]=À ([X1,.own I,.own Wd,.fz .zC],.fz .zC))(h:jQ [.obj Ğ [] [],.own I,.fz .zC,.own Pd]=À (űk,.fz .zC))(g:jQ [.obj Ğ [] [],.own I,.own Wd,.own Pd]=À (Űk,.fz .zC)) :q_ ġk=À (ġk,X0)/\q_ Ġk=À (Ġk,X1)/\q_ ğk=À (ğk,X2)/\q_ ëk=À (ëk,X3):=by let f:∀{α:Type}{d a:α},ϟ Öa d [a]=[a,d,d]:=rfl;let e:∀{α:Type}{d a b:α},ϟ Öa d đc=[a,b,d]:=rfl;let j:∀{α:Type}{d a b:α},ϟ Ĳd d đc=[a,d,b]:=rfl;let i:∀{α:Type}{d a b c:α},ϟ Öa d ϓb=ϓb:=rfl;show{?_,?_,?_,?_}<;>rw[fM]<;>unfold Lv<;>simp only[Ē,kJ,yf,vj,xt,j4,f,e,j,i,ōb,ďn,ìa,éd,l,k,h,g]
theorem z9s(j:gD [.obj Ĩ [] [],.own I,.fz .zC,.fz .zC]=À (Ųk,.fz .zC))(h:gD [.obj Ĩ [] [],.own I,.fz .zC,.own Pd]=À (űk,.fz .zC))(e:gD [.obj Ĩ [] [],.own I,.own Wd,.own Pd]=À (Űk,.fz .zC)) :q_ êk=À (êk,X0)/\q_ Ğk=À (Ğk,X3)/\q_ ék=À (ék,X2)/\q_ èk=À (èk,X3):=by let f:∀{α:Type}{d a:α},ϟ Öa d [a]=[a,d,d]:=rfl;let g:∀{α:Type}{d a b c:α},ϟ Öa d ϓb=ϓb:=rfl;let i:∀{α:Type}{d a b c:α},ϟ Ĳd d ϓb=[a,c,b]:=rfl;show{?_,?_,?_,?_}<;>rw[fM]<;>unfold Lv<;>simp only[Ē,kJ,yf,vj,xt,j4,f,g,i,ōb,ďn,ìa,éd,j,h,e]
#print a
inductive cO(κ:Æ)(pr:Á D)(W0:Á Æ)(ps:Á ā):È
 |mk {C:Ç} {T:D} {e:Æ} {δ:Â->Æ} {n:Â} {W1:Á Æ} {p1:Á ā} (S:Y9 C T e δ n) (h0:δ 0=0) (hb:∀i:Â,i<=n->0<=δ i/\δ i<=1000) (w:ud W1) (P:vh p1) (l:Ņo<=6)
  (em:q_ ϱj=À (ϱj,mP C T Úd (.dic (kP p1) (vP p1)) e 0 0 W1 Å Å Å p1)):cO κ pr W0 ps
def y2n{Ô a:Á D}{W0:Á Æ}{ps:Á ā}(M:C5 a Ô)(L:ú<=60)(w:ud W0)(P:vh ps)(l:č<=6){κ:Æ}(K:0<=κ)(O:κ<=7):∃pr:Á D,cO κ pr W0 ps/\pr.all Úb=Ã/\(κ<=3/\pr=a\/3<κ/\XO ċb=À (Ã,.lst pr)):=by
 obtain @⟨A,b,R,N,v,Q,W,n,B,e1,e2,I,r,C,o,p,g,j⟩:=M;let m:ud Ϥo:={rfl,λw h=>by cases(List.mem_replicate.mp h).2;decide};let s:vh []:={nofun,nofun,Ϥd};let t:=w0j w.l w.h;let f:=z2l P É;let d:=Y9.row W;let c:=Y9.word W;rw[<-I]at d;rw[B]at c;let k:∀i:Â,i<=Źf->0<=((i:Â):Æ)/\((i:Â):Æ)<=1000:=λi z=>by omega
 let e:∀i:Â,i<=ú->0<=A i/\A i<=1000:=λi z=>by let:=C i;omega
 let{H,G,J,x}:=z9r (BV (Mi:=.own ϊb) (Mw:=.fz .zC) (Mp:=.fz .zC) rfl rfl DG Ek rfl e2 o) (BV (Mi:=.own ϊb) (Mw:=.own Ŏa) (Mp:=.fz .zC) rfl rfl t Ek rfl e2 o) (BV (Mi:=.own ϊb) (Mw:=.fz .zC) (Mp:=.own Ŭb) rfl rfl DG f rfl e2 o) (BV (Mi:=.own ϊb) (Mw:=.own Ŏa) (Mp:=.own Ŭb) rfl rfl t f rfl e2 o);let{u,E,y,F}:=z9s (Wd:=.lst Ĳe) (Sg (Mi:=.own ϋa) (Mw:=.fz .zC) (Mp:=.fz .zC) rfl rfl DG Ek rfl r p) (Sg (Mi:=.own ϋa) (Mw:=.fz .zC) (Mp:=.own Ŭb) rfl rfl DG f rfl r p) (Sg (Mi:=.own ϋa) (Mw:=.own Ŏa) (Mp:=.own Ŭb) rfl rfl t f rfl r p);let q:κ=0\/κ=1\/κ=2\/κ=3\/κ=4\/κ=5\/κ=6\/κ=7:=by omega
 rcases q with rfl|rfl|rfl|rfl|rfl|rfl|rfl|rfl;show{a,.mk d rfl k m s ϖb H,g,.inl {by decide,rfl}};show{a,.mk d rfl k w s ϖb G,g,.inl {by decide,rfl}};show{a,.mk d rfl k m P l J,g,.inl {by decide,rfl}};show{a,.mk d rfl k w P l x,g,.inl {by decide,rfl}};show{b,.mk c n e m s ϖb u,j,.inr {by decide,e1}};show{b,.mk c n e w P l E,j,.inr {by decide,e1}};show{b,.mk c n e m P l y,j,.inr {by decide,e1}};show{b,.mk c n e w P l F,j,.inr {by decide,e1}}
def x40{x y:D}:vV (.tp Ã [.own x,.own y])=.lst ãb:=rfl
section
variable{X Y:Á D}(h1:Ť X=Ã)(h2:Ť Y=Ã){b0 b1 b2 b3 b4 b5 b6 b7 b8 b9 b10 b11 b12 b13 b14 b15 b16 b17:Ê M}
include h1 h2
theorem z39:Jg 1 ın Ìg sL ŏj=À (.tp Ã ŧe,ŏj):=by rw[ōp]
theorem z3a:Jg 1 İn Ìg sM Őj=À (.tp Ã ŧe,Őj):=by rw[ōp]
#print a
def l8{Ws:Á Æ}{ps:Á ā}:wt 6 (.lst [.lst Ĉ,.lst (t6 ps)])=Ã:=by exact((Ĉ).all Úb&&((t6 ps).all Úb&&Ã))=Ã;rw[lD,y4p];rfl
def y2q{a:Á D}{W0:Á Æ}{ps:Á ā}(h:Ϝb Úb=Ã):wt 6 (.lst [.lst a,.lst Ĳe,.lst ąa])=Ã:=by
 let k:(ąa).all Úb=Ã:=Ěb λd b=>by let{_,_,rfl}:=œ b;rfl
 exact(Ϝb Úb&&((Ĳe).all Úb&&((ąa).all Úb&&Ã)))=Ã;rw[h,lD,k];rfl
section
variable{M0 M1:M}{D0:D}{s:Ç}{L NS pr W0 Pd X1 Y1 X2 Y2:Á D}{C2 C3 κ v0:Æ}{m:Â}
section
variable(a0:∀i,p_ M0 i []=.p i [])(t0:vV M0=D0)(lk:jT [D0,.int C2]=À (Å,.str s))(gn:XG [M0,.fz ŭb,.fz Ũb]=À ([M1,.fz ŭb,.fz Ũb],.own Ŏc))(ct:Jm Œm Ŏc=À ϱa)
include a0 t0 lk gn ct
theorem z94(a:wO ϱa ϱa=À ă)(b:zr ϱa ϱa=À ň):∀{x0 x1 x2 x3 x4 x5 x6 x8 x9 x12 x13 x16 x17:Ê M},NO [x0,x1,x2,x3,x4,x5,x6,À ùe,x8,x9,À M0,À M0,x12,x13,À øe,À êp,x16,x17]=À (.rt (.fz ň) [x0,x1,x2,x3,x4,x5,x6,À ùe,x8,x9,À M1,À M1,x12,x13,À øe,À êp,x16,x17]):=by
 intros
 unfold NO;simp only[Ē,ut,Uy,Ux,a0,t0,lk,gn,ct,a,b]
theorem z95(t:∀i,p_ M1 i []=.p i [])(k:∀{x0 x1 x2 x3 x4 x5 x6 f x8 x9:Ê M}{zt:zl},YE ϳk ϴk Żj=jd uG [.p 10 []] Żj)(h:uG [M1]=À ([M0],.fz .zC))(q:wO ϱa ϱa=À ă)(o:zr ϱa ϱa=À ň)(e:wO Ál Ál=À ă)(c:wO Àl Àl=À ă)(l:decide (X1.length<yN)=Ã)(j:decide (X2.length<yN)=Ã)(u:decide (Y2.length<yN)=Ã):∀{x0 x1 x2 x3 x4 x5 x6 x8 x9:Ê M},∃r,BM ıj=À Öl:=by
 intros
 let g:∀{x y:M},uQ éf Ŭc=À x:=rfl;let n:∀{x y:M},uQ éf ĳd=À y:=rfl;let b:∀{x y v:M},ug éf Ŭc v=À (.tp Ã [v,y]):=rfl;let a:∀{x y v:M},ug éf ĳd v=À (.tp Ã [x,v]):=rfl;let d:Xe ÿa=À Ñe:=rfl;apply Exists.intro;unfold BM;simp only[Ē,ut,VS,k,t,h,x40,e,c,g,n,b,a,l,j,u,d];show z94 a0 t0 lk gn ct q o
theorem z96(j:∀i,p_ M1 i []=.p i [])(c:XH [M0]=À ([M0],.tp Ã [.own (.lst X1),.own (.lst Y1)]))(b:XH [M1]=À ([M1],.tp Ã [.own (.lst X2),.own (.lst Y2)]))(n1:Ť X1=Ã)(n2:Ť Y1=Ã)(f:Ť X2=Ã)(d:Ť Y2=Ã)(g:jS [.lst NS,.int 3]=À (Å,.int C3))(a:C3%11=(m:Æ))(k:∀{x0 x1 x2 x3 x4 x5 x6 x8 x9:Ê M},∃r,BM ıj=À Öl):∀{x1 x2 x3 x4 x5 x6 x8 x9:Ê M},∃r,BN ňj=À ϊe:=by
 intros x1 x2 x3 x4 x5 x6 x8 x9
 let{r,e2}:=k (x0:=À űa) (x1:=x1) (x2:=x2) (x3:=x3) (x4:=x4) (x5:=x5) (x6:=x6) (x8:=x8) (x9:=x9);show{r,?_};let h:=λ{b0 b1 b2 b3 b4 b5 b6 b7 b8 b9 b10 b11 b13 b14 b15 b16 b17:Ê M}=>z39 n1 n2 (b0:=b0) (b1:=b1) (b2:=b2) (b3:=b3) (b4:=b4) (b5:=b5) (b6:=b6) (b7:=b7) (b8:=b8) (b9:=b9) (b10:=b10) (b11:=b11) (b13:=b13) (b14:=b14) (b15:=b15) (b16:=b16) (b17:=b17)
 let e:=λ{b0 b1 b2 b3 b4 b5 b6 b7 b8 b9 b10 b11 b12 b13 b14 b15 b17:Ê M}=>z3a f d (b0:=b0) (b1:=b1) (b2:=b2) (b3:=b3) (b4:=b4) (b5:=b5) (b6:=b6) (b7:=b7) (b8:=b8) (b9:=b9) (b10:=b10) (b11:=b11) (b12:=b12) (b13:=b13) (b14:=b14) (b15:=b15) (b17:=b17)
 unfold BN;simp only[Ē,ut,Ux,a0,j,c,b,h,e,g,a,t0,lk,gn,ct,e2]
#print a
def j9{a b:yY}{β β1:zl}(h:a β=À (.nx β1)):yW a b β=b β1:=by exact(a β).bind _=_;rw[h];rfl
def z97(h:C2%8=κ)(g:q_ ϰj=À (ϰj,M0))(f:wO Ĩk Ĩk=À ă)(l:zP ûb ľ=À (.int v0))(u:ńe Ŗo 0=À 0)(t:decide (Pd.length<yN)=Ã)(i:∀{x1 x2 x3 x4 x5 x6 x8 x9:Ê M},∃r,BN ňj=À ϊe):∀{x1 x2 x3 x4:Ê M},∃r,NP [À űa,x1,x2,x3,x4,À Œi,À ői,À ùe,À œi,Ä,Ä,Ä,Ä,Ä,Ä,Ä,Ä,Ä]=À ϊe:=by
 intros x1 x2 x3 x4
 let{r,p}:=i (x1:=x1) (x2:=x2) (x3:=x3) (x4:=x4) (x5:=À Œi) (x6:=À ői) (x8:=À œi) (x9:=À (.tp Ã [.own Ăb,.own Ķg,.own îk]));show{r,?_};let n:(ģa 3 3&&ģa 3 1000)=Ã:=rfl;let s:∀{x y z:M},ģa (Ág).length 1000=Ã:=rfl;let o:∀{x y z:M},(Ág).drop 3=[]:=rfl;let w:∀{x y z:D},vV (.tp Ã [.own x,.own y,.own z])=.lst Ág:=rfl;let m:∀{x y z:M},uQ Îd Ŭc=À x:=rfl;let k:∀{x y z:M},uQ Îd ĳd=À y:=rfl;let d:∀{x y z:M},uQ Îd ϻi=À z:=rfl;let j:∀{x y z v:M},ug Îd Ŭc v=À (.tp Ã [v,y,z]):=rfl;let q:∀{x y z v:M},ug Îd ĳd v=À (.tp Ã [x,v,z]):=rfl;let e:∀{x y z v:M},ug Îd ϻi v=À (.tp Ã [x,y,v]):=rfl;let c:tO [.lst pr]=À ùb:=rfl;let b:tO [.lst W0]=À ûb:=rfl;let a:tO [.lst Pd]=À üb:=rfl;unfold NP;show(j9 (β1:=[À űa,x1,x2,x3,x4,À Œi,À ői,À ùe,À œi,À (.tp Ã [.own ùb,.own ûb,.own üb]),Ä,Ä,Ä,Ä,Ä,Ä,Ä,Ä]) ?_).trans ?_;simp only[Ē,XZ,yf,vj,c,b,a,s]
 show(Ĳj).trans ?_;simp only[Ē,yf,ZO,CC,xt,j4,h,g,n,o]
 show(Ĳj).trans ?_;simp only[Ē,w,f]
 show(ψa öe ûb üb Ũb ùb ùb ûb üb).trans ?_;simp only[Ē,yf,vj,ZO,j4,c,b,a,h,g]
 show(ψa öe ûb üb Ũb ùb Ăb ûb üb).trans ?_;simp only[Ē,KW,m,j]
 show(ψa öe ûb üb Ũb ùb Ăb Ķg üb).trans ?_;simp only[Ē,ut,k,q,l,u,Èa]
 show(ψa öe ûb üb Ũb ùb Ăb Ķg îk).trans ?_;simp only[Ē,VS,d,e,t]
 show p
#print a
def y92:∀ns:Á Æ,ϰ<=63->(∀m∈ns,tL m<=1048576)->∃r,av Ąh=À (r,.fz ň):=λns hl hb=>by
 let{W0,e1,l0,w0}:=w0i (j5 ns 0);let{ps,e2,P,lp}:=y66 (j5 ns 1);let c0:=V8 ns (k:=0) Í;let c1:=V8 ns (k:=1) Í;let c2:=V8 ns (k:=2) Í;let c3:=V8 ns (k:=3) Í;let{n,K,N,O,J,I,y,Ô,n1',n12,N3,h0,h1,h2,lrows,hr,edr}:=z47 ns
 let hZ:∀q∈[(K,J),(N,I),(O,y)],q.2<=ú:=λq x=>by rcases Ň x with rfl|x;exact J<=_;omega;rcases Ň x with rfl|x;exact I<=_;omega;cases åa x;exact y<=_;omega
 let{h,ei,Y}:=z85 (Z:=[(K,J),(N,I),(O,y)]) (Ô:=Ô) (by exact[K,N,O].Nodup;simp[N3.a,N3.b,N3.c]) (Òa 3) hZ (λr X=>nG fQ (hr r X)) É
 generalize hNS:Œa ĉ=NS at *;generalize hC2:j5 ns 2=C2 at *;generalize hC3:j5 ns 3=C3 at *;obtain⟨m,W,X⟩:∃m:Â,C3%11=(m:Æ)/\m<=10:={(C3%11).toNat,by omega,by omega};obtain⟨κ,eκ,k0,k8⟩:∃κ:Æ,C2%8=κ/\0<=κ/\κ<=7:={_,rfl,by omega,by omega};let{pr,OK,Q,hpr}:=y2n (z9q Y hr hZ É) É {l0,w0} P lp k0 k8;obtain @⟨C,T,e,δ,_,W1,d,S,z0,A,U,P1,l1,em⟩:=OK;let{t,B,w,g,o,H,G,L,w2,P2,l2,oL,lL,gn}:=z7a S z0 A (fw:=.lst Ķd) (fh:=.dic ŋe Ňe) X (Ϣ:=C2) U P1 l1;let{s,E}:=iH S A (fw:=.lst Ķd) (fh:=.dic ŋe Ňe) (Ϣ:=C2) (a:=Å) (b:=Å) (c:=Å) (j:=0) U P1 É ϖb É;rw[z0]at E;let E:jT [uw C T Úd ϡc e 0 0 W1 Å Å Å d,.int C2]=À (Å,.str s):=E;let hl0:=fR S.c (T:=T) (fw:=.lst Ķd) (fh:=.dic ŋe Ňe) (e:=e) (due:=0) (done:=0) (Ws:=W1) (a:=Å) (b:=Å) (c:=Å) (ps:=d);let hl1:=fR S.c (T:=T) (fw:=.lst Ķd) (fh:=.dic ŋe Ňe) (e:=e) (due:=δ H) (done:=(G:Æ)) (Ws:=t) (a:=B) (b:=w) (c:=g) (ps:=o);let ag:uG [mP C T Úd ϡc e (δ H) G t B w g o]=À ([mP C T Úd ϡc e 0 0 W1 Å Å Å d],.fz .zC):=z1k S.c;let ca:=λ{x0 x1 x2 x3 x4 x5 x6 x7 x8 x9:Ê M} {zt:zl}=>dS S.c (T:=T) (e:=e) (fw:=.lst Ķd) (fh:=.dic ŋe Ňe) (s:=st (wI t) B w g (kP o) (vP o)) (due:=δ H) (done:=(G:Æ)) (m := űb) (F:=uG) (f:=vQ) (k:=10) (β:=x0::x1::x2::x3::x4::x5::x6::x7::x8::x9::À ïk::zt) ŉ rfl
 let nq3:=Ig (y2q (W0:=W0) (ps:=ps) Q);let nq1:=Ig (l8 (Ws:=W1) (ps:=d));let R:=Ig (l8 (Ws:=t) (ps:=o))
 let oG:wt 6 ϱa=Ã:=by exact(wt 5 (.str s)&&L.all ěj)=Ã;rw[oL];rfl
 let ng:=Ig oG;let eg:=z4e oG
 let ct:Jm Œm Ŏc=À ϱa:=by exact(if[ύc s].length+ča<=yN then _ else _)=_;rw[Ò (by rw[lL];exact 1+m<=16777216;omega)];rfl
 obtain⟨v0,ix⟩:∃v,zP Ŏa ľ=À šc:={_,qe (k:=0) (ė (show 0<Ŗo by omega))};let xn:ńe (Ĳe).length 0=À 0:=gY (k:=0) (by rw[qu,l0];decide);let d1:decide (ζb (ąa))=Ã:=õ Ćk;let d2:decide (ζb (Ķd))=Ã:=õ (by rw[qu,U.l];exact 8<16777216;decide);let d3:decide (ζb (wI t))=Ã:=õ (by rw[qu,w2.l];exact 8<16777216;decide);let d4:decide ((t6 o).length<yN)=Ã:=õ (by let:=iW (ps:=o);rw[ûp]);generalize hNM:śe [.str K,.str N,.str O]=NM at *;have ei':Ub [.lst Ô,.lst (wI ϕk),NM]=À (Ã,.lst h):=by rw[<-hNM];show ei
 generalize hPL:wI ϕk=PL at *;let a0:∀i,p_ (mP C T Úd ϡc e 0 0 W1 Å Å Å d) i []=.p i []:=λ_=>rfl
 let a1:∀i,p_ ïk i []=.p i []:=λ_=>rfl
 let{r,e4}:=z97 (x1:=À Ód) (x2:=À Ùd) (x3:=À ħd) (x4:=À Ϫd) eκ em nq3 ix xn d1 (z96 a0 Bz E gn ct a1 hl0 hl1 (B7 W1) Km (B7 t) Km c3 W (z95 a0 Bz E gn ct a1 ca ag ng eg nq1 R d2 d3 d4))
 let u:∃r,Jd Ŏj=À ϊe:=by
  show{r,?_};unfold Jd;show(j9 (β1:=[À űa,À Ód,À Ùd,À ħd,Ä,Ä,Ä,Ä,Ä,Ä,Ä,Ä,Ä,Ä,Ä,Ä,Ä,Ä]) ?_).trans ?_;simp only[Ē,KU,ut,Ms,edr]
  show(j9 (β1:=[À űa,À Ód,À Ùd,À ħd,À Ϫd,Ä,Ä,Ä,Ä,Ä,Ä,Ä,Ä,Ä,Ä,Ä,Ä,Ä]) ?_).trans ?_;simp only[Ē,ei']
  show(j9 (β1:=[À űa,À Ód,À Ùd,À ħd,À Ϫd,À Ŷf,Ä,Ä,Ä,Ä,Ä,Ä,Ä,Ä,Ä,Ä,Ä,Ä]) ?_).trans ?_;simp only[Ē,c0,e1]
  show(j9 (β1:=[À űa,À Ód,À Ùd,À ħd,À Ϫd,À Ŷf,À ép,Ä,Ä,Ä,Ä,Ä,Ä,Ä,Ä,Ä,Ä,Ä]) ?_).trans ?_;simp only[Ē,c1,e2]
  show(j9 (β1:=[À űa,À Ód,À Ùd,À ħd,À Ϫd,À Ŷf,À ép,À ùe,Ä,Ä,Ä,Ä,Ä,Ä,Ä,Ä,Ä,Ä]) ?_).trans ?_;simp only[Ē,c2]
  show(υc Ći ãp ϙi Ŭb Ũb ϙi).trans ?_;simp only[Ē]
  show(υc Ći ãp ϙi Ŭb Ũb ùb).trans e4;rcases hpr with⟨hκ,rfl⟩|⟨hκ,ew⟩;let z:decide śn=Å:=ē É;simp only[Ē,eκ,z];let z:decide śn=Ã:=õ hκ;simp only[Ē,eκ,z,ew]
 let{r,u}:=u;show{[.fz öe],?_};rw[z6b];exact(Jd Ŏj).bind _=_;rw[u];rfl
#print L3
local macro_rules
 | `(tactic| ac_rfl)=>`(tactic| show⟨rfl,rfl,rfl,by decide +kernel,rfl,by decide +kernel,by decide +kernel⟩)
namespace My
open ķ L2 L3
set_option maxHeartbeats 4000000
nonrec def top(i:Â):Ú:=PySem.Challenge.pw_markrun_k40_held_and_again.main.body.getD i àm
section
variable{P:ë}{w:å}{K:Ð}{mg:Ç->Ê Value}{Ë:Heap}{UK:Ì}{Wg:Ì}{UN:Ì}{UM:Ì}{UO:Ì}{UP:Ì}{X7:Ì}{X9:Ì}{X8:Ì}{UL:Ì}
abbrev HT:=ë->å->Ð->ñh->Heap->È
section
variable{h:Heap}(X:ř h)(G:Īa Ĕ mg)
abbrev Pj:Ú:=top 11
def x0a:zk ħi ħi (zU Pj):=by ac_rfl
variable(Zq:mg ĳc=Ä)(A3:mg ċc=Ä)(S_:mg ĸe=Ä)
def Fa:=HD Ϝh ħi 1 ZK
def y42(a:zR K Ϝh Pj):Fa P w K mg Ë:=(Œ).oS P w Ë 0 ZK x0a yP λb=>(ι (χa (tV (OC .bool rfl rfl Zq S_ z2c ĉa)) (Q3 (Ξa (OC .int rfl rfl Zq A3 z2d ĉa)))) Ğn (Bd (tT K_ qh ņb ĉa ĵ) (Tu (tT Vc qh ĉa (zO Ýh) ĵ))))
abbrev Ny:Ú:=top 12
def nS:zk [Ĺd,ìd,ða,"total"] Ân (zU Ny):=by ac_rfl
variable(T9:vC mg "BEYOND" ϛc)(Ti:∀H,za K H ϛc ϛc)
def FJ:=HD ϥi Ân 1 US
def y33(a:zR K ϥi Ny):FJ P w K mg Ë:=(Çb).oS P w Ë 0 US nS yP λb=>(zd (yb (i:=3) nS.nd rfl à (zZ xT xS ϖl ŝl)) (εa (zZ xX xW Ľa ıh) (Γ (tT Il qh (zO Ľa) (zO ıh) òg))))
abbrev RM:Ú:=top 13
def nj:zk [Ĺd,ìd,"borrow",Ŀa] Ĩl (zU RM):=by ac_rfl
def Fp:=HD ϣi Ĩl 1 Ue
def y59(a:zR K ϣi RM):Fp P w K mg Ë:=(Çb).oS P w Ë 0 Ue nj yP λb=>(zd (yb (i:=3) nj.nd rfl à (zZ Xy Xx (zZ Xy Xx ý į) ŝl)) (ι (yQ Vc qh Ğd ņb ĵ) (εa (zZ xT xS Ľa ıh) Ăd) (μ (zB Ľa Ăd))))
abbrev RA:Ú:=top 16
def x0l:zk Ăh Ăh (zU RA):=by ac_rfl
def Fm:=HD öj Ăh 1 vG
def y4x(a:zR K öj RA):Fm P w K mg Ë:=(Çb).oS P w Ë 0 vG x0l yP λb=>(Ε (zZ Ky Ta ϗl İk))
abbrev R4:Ú:=top 14
def Rf:zk [ϊ,"count","moved","fallen"] úf (zU R4):=by ac_rfl
variable(gW:vC mg şn Ļc)(gg:∀H,za K H Ļc Ļc)(qb:Fm P w K mg Ë)
def bm:=HD Ŧh úf 2 XI
def y4q(a:zR K Ŧh R4):bm P w K mg Ë:=(Œ).oS P w Ë 1 XI Rf yP λb=>(zd (yb (i:=2) Rf.nd rfl à (zZ Ye Yd ý į)) (zd (yb (i:=3) Rf.nd rfl à (νd (υa (zB Ϧe Ħb)))) (εa (εd Ϙo) ϙo)))
abbrev R5:Ú:=top 15
def nZ:zk [ϊ,"count","fallen"] úf (zU R5):=by ac_rfl
def bn:=HD Ľh úf 2 XJ
def y4r(a:zR K Ľh R5):bn P w K mg Ë:=(Œ).oS P w Ë 1 XJ nZ yP λb=>(zd (yb (i:=2) nZ.nd rfl à (νd (ν (zB (zZ Xy Xx į zJ) Ħb)))) (εa ϗl őc))
abbrev RT:Ú:=top 17
def n_:zk [ϊ,Ăg,Ûd,įa,"there"] Ōl (zU RT):=by ac_rfl
def Fu:=HD ϙh Ōl 1 Y6
def y5f(a:zR K ϙh RT):Fu P w K mg Ë:=(õi).oS P w Ë 0 Y6 n_ y96 λb=>(zd (yb (i:=4) n_.nd rfl à (zZ Ye Yd İk į)) (Ε (zZ lG Ta (zZ Ky Ta ý (Tv x89 x88 Æa)) (zZ Ye Yd Ľa į))))
abbrev RG:Ú:=top 18
def nh:zk Âm Şf (zU RG):=by ac_rfl
def Fo:=HD ři Şf 1 XN
def y54(a:zR K ři RG):Fo P w K mg Ë:=(Œ).oS P w Ë 0 XN nh yP λb=>(zd (yb (i:=2) nh.nd rfl à Ýh) (Ε (qm (yQ Vc qh ϐg öc ĵ) ý (zZ Xy Xx ý ŗ))))
abbrev RP:Ú:=top 19
def nv:zk Âm Şf (zU RP):=by ac_rfl
def Fq:=HD Æi Şf 1 Uf
def y5c(a:zR K Æi RP):Fq P w K mg Ë:=(Œ).oS P w Ë 0 Uf nv yP λb=>(zd (yb (i:=2) nv.nd rfl à Ýh) (zd (Νa (χa (yQ Vc qh ϐg (zO (Tv OP OO ŗ)) ĵ) (Q3 (yQ Il qh ϐg öc ĵ)))) (Ε (qm (yQ Il qh ĉa ņb ĵ) ý (zZ xT xS ý ŗ)))))
abbrev P6:Ú:=top 20
def y9q:zk [ϊ] [ϊ] (zU P6):=by ac_rfl
variable(Yq:mg ŷ=Ä)(Jv:vC mg Ţn Ųf)(Iw:∀H,za K H TF Ųf)
def bE:=HD Îi [ϊ] 2 UV
def y3b(a:zR K Îi P6):bE P w K mg Ë:=(ŝ).oS P w Ë 1 UV y9q yP λd=>(Μe (yx (uH rfl (vR (own:=[Ăg]) rfl) (t9 όm) (Ιa (wL [ϊ] [Ăg])) Íd (Ι (zj qb d rfl (ν (zB į Ħb)))))))
abbrev RW:Ú:=top 21
def x0s:zk ŵi ŵi (zU RW):=by ac_rfl
variable(A6:mg "sum"=Ä)(Yr:mg ħa=Ä)
def Fv:=HD ċi ŵi 1 JJ
def y5i(a:zR K ċi RW):Fv P w K mg Ë:=(ŝ).oS P w Ë 0 JJ x0s yP λd=>(Ε (pR (z31 rfl) y55 rfl A6 z2j (Ρc (uH rfl (vR (own:=["byte",Ăg]) rfl) (Bg rfl Yr ý όm) (ηc (ζa (Yh (n:=2) rfl (t7 (Οa ťk) (t7 (ξb ťk) Yi))))) Íd (Ι (zZ Ye Yd į ĸa))))))
abbrev Pg:Ú:=top 32
def x07:zk óc óc (zU Pg):=by ac_rfl
def FX:=HD Ìi óc 1 UX
def y3z(a:zR K Ìi Pg):FX P w K mg Ë:=(ŝ).oS P w Ë 0 UX x07 yP λb=>(Ε (Τe (zO ϵb)))
abbrev Pf:Ú:=top 33
def x06:zk óc óc (zU Pf):=by ac_rfl
variable(GX:vC mg "JUMPS" űf)(NG:∀H,za K H MX űf)
def FW:=HD Ēi óc 1 J6
def y3y(a:zR K Ēi Pf):FW P w K mg Ë:=(ŝ).oS P w Ë 0 J6 x06 yP λb=>(Ε (tT Ϡf VY (zO ϵb) (zO (vq GX NG rfl)) (by with_unfolding_all rfl)))
abbrev RF:Ú:=top 34
def x0o:zk [ű] [ű] (zU RF):=by ac_rfl
variable(ID:FX P w K mg Ë)
def c7:=HD Ďi [ű] 2 pf
def y53(a:zR K Ďi RF):c7 P w K mg Ë:=(ŝ).oS P w Ë 1 pf x0o yP λd=>(Θ (uH rfl (vR (own:=óc) rfl) (t9 ý) (Ιa (wL [ű] óc)) (ηb (Ξa (zj ID d rfl øb))) ϔl))
abbrev Pn:Ú:=top 35
def O6:zk [ű,śi,Êb,"item"] [ű] (zU Pn):=by ac_rfl
def bZ:=HD ęh [ű] 2 Ua
def y47(a:zR K ęh Pn):bZ P w K mg Ë:=(ŝ).oS P w Ë 1 Ua O6 yP λb=>(zd (Z2 (i:=1) ēg rfl à OE) (zd (yb (i:=2) ēg rfl à zJ) (zd (Zk Ϩa rfl (t9 ý) (Εa (yu (i:=3) ēg rfl à)) (zc (xm (tV (zj ID b rfl èc)) (zc (Zj Ńb Ķe Ãd ŗ)) (zc (oY (i:=2) fq lA ēg rfl à zJ))))) ğf)))
abbrev RN:Ú:=top 36
def nu:zk [ű,śi] [ű] (zU RN):=by ac_rfl
variable(HN:bZ P w K mg Ë)(YN:c7 P w K mg Ë)(HI:FW P w K mg Ë)
def cB:=HD ťh [ű] 3 k9
def y5a(a:zR K ťh RN):cB P w K mg Ë:=(ŝ).oS P w Ë 2 k9 nu yP λb=>(zd (yb (i:=1) nu.nd rfl ϻa (zj HN b rfl ħb)) (Θ (uH rfl (vR (own:=["row"]) rfl) (t9 Üh) (ηa (ξb (wL ["items",śi] ["row"]))) Ãc (Λ (qm (tV (zj HI b rfl őc)) (zi ŧ zh į (zi ŧ zh ŗ Ŝh)) vd)))))
abbrev Pc:Ú:=top 42
def x04:zk [Źb] [Źb] (zU Pc):=by ac_rfl
variable(Jt:vC mg śm ĝa)(Iu:∀H,za K H ĝa ĝa)(VI:Fa P w K mg Ë)
def bX:=HD ŧh [Źb] 2 J5
def y3w(a:zR K ŧh Pc):bX P w K mg Ë:=(ŝ).oS P w Ë 1 J5 x04 yP λb=>(Ε (zj VI b rfl (υ ύm)))
abbrev Pk:Ú:=top 41
def x0b:zk [Źb] [Źb] (zU Pk):=by ac_rfl
variable(vw:mg "len"=Ä)(Ju:vC mg ţn ía)(Iv:∀H,za K H ía ía)(HG:bX P w K mg Ë)
def bY:=HD Đi [Źb] 3 J8
def y43(a:zR K Đi Pk):bY P w K mg Ë:=(ŝ).oS P w Ë 2 J8 x0b yP λb=>(zd (xm (χa (Ξa (OC .tuple rfl rfl Zq Yq M6 ĉa)) (Q3 (yQ èd ju ád ņb ĵ))) Ğn wx) (Ε (Bd (zj HG b rfl ϛo) (Tu (zj VI b rfl (zB ϵb Īl))))))
abbrev P5:Ú:=top 40
def Ra:zk [Ña,áa,"pair"] [Ña] (zU P5):=by ac_rfl
variable(uE:mg Ġ=Ä)(HK:bY P w K mg Ë)
def bD:=HD ũh [Ña] 4 Wk
def y3a(a:zR K ũh P5):bD P w K mg Ë:=(ŝ).oS P w Ë 3 Wk Ra yP λb=>(zd (Z2 (i:=1) Ra.nd rfl à OE) (ιa ël ğf (xm Ák Vn wx) (zd (Zk Ϩa rfl (t9 ý) (Εa (yu (i:=2) Ra.nd rfl à)) (zd (Νa (Ξa (zj HK b rfl őc))) (zd (Νa (yQ Ϡf VY (zO Äd) (y9c 1) Ϩb)) (zc (Zj Ńb Ķe Äd Äd))))) ğf)))
abbrev R9:Ú:=top 43
def x0k:zk [áa] [áa] (zU R9):=by ac_rfl
variable(Og:mg ĵb=Ä)
def Fk:=HD Êi [áa] 1 JF
def y4w(a:zR K Êi R9):Fk P w K mg Ë:=(ŝ).oS P w Ë 0 JF x0k yP λb=>(Θ (uH rfl (vR (own:=[Őa]) rfl) (t9 (yx (x1f rfl rfl Og ħb))) (ηa (Οa (wL [áa] [Ķo]))) (Λ (Yn (yQ (jv (yt b)) ju (zO źe) ņb ĵ))) (Λ (wg (Δa Ķi) (yS ėc Í)))))
abbrev P4:Ú:=top 44
def y9p:zk čd čd (zU P4):=by ac_rfl
def FN:=HD ĕi čd 1 UU
def y39(a:zR K ĕi P4):FN P w K mg Ë:=(Œ).oS P w Ë 0 UU y9p yP λb=>(Ε (x0v Ńb ý į zJ {rfl,rfl,rfl,rfl}))
abbrev N_:Ú:=top 45
def y9n:zk Ĭi Ĭi (zU N_):=by ac_rfl
def bB:=HD Ūh Ĭi 2 UT
def y35(a:zR K Ūh N_):bB P w K mg Ë:=(Œ).oS P w Ë 1 UT y9n yP λb=>(Νe (zB ϖl (zB zJ (Γ ύm))))
abbrev Pa:Ú:=top 46
def x03:zk [Őa] [Őa] (zU Pa):=by ac_rfl
variable(uK:mg ńb=Ä)(Jx:bB P w K mg Ë)
def bV:=HD ϝh [Őa] 3 Wm
def y3u(a:zR K ϝh Pa):bV P w K mg Ë:=(ŝ).oS P w Ë 2 Wm x03 yP λd=>(Θ (uH rfl Űd Ϩd (Ιa (wL [Őa] [įa])) Íd (Ι (zj Jx d rfl ϫb))))
abbrev RU:Ú:=top 47
def x0r:zk čd čd (zU RU):=by ac_rfl
variable(Hn:Fv P w K mg Ë)(IC:bV P w K mg Ë)(Jy:FN P w K mg Ë)
def cF:=HD Či čd 4 JH
def y5g(a:zR K Či RU):cF P w K mg Ë:=(Œ).oS P w Ë 3 JH x0r yP λb=>(Ε (zj Hn b rfl (Γ (yx (uH rfl (vR (own:=[Ĺd]) rfl) (t9 êl) (ηa (ξb (wL [áa,Ķo] [Ĺd]))) Ãc (Λ (zj Jy b rfl (zB ý ġf))))))))
abbrev RC:Ú:=top 48
def x0n:zk Ϯd Ϯd (zU RC):=by ac_rfl
def bv:HT:=λP w K mg Ë=>vI P w K mg Ë Éi Ϯd 2 (xH K Ud)
def y4z(a:zR K Éi RC):bv P w K mg Ë:=(Çb).oM P w Ë 1 Ud x0n vy λb=>(xc (Ie Ńb ϔ į (wG (εd Īl))))
abbrev RD:Ú:=top 49
def Rg:zk [áa,Őa,ϊ,Ĺd,"byte"] Ϯd (zU RD):=by ac_rfl
variable(IH:bv P w K mg Ë)(Gq:bE P w K mg Ë)
def bz:HT:=λP w K mg Ë=>vI P w K mg Ë Èi Ϯd 4 (xH K JG)
def y50(a:zR K Èi RD):bz P w K mg Ë:=(Çb).oM P w Ë 3 JG Rg vy λb=>(xc (ie Ϩa rfl (Bg rfl Yr êl (zj Gq b rfl őc)) (y04 (Yh (n:=2) rfl (t7 (yu (i:=3) Rg.nd rfl à) (t7 (yu (i:=4) Rg.nd rfl à) Yi))) rfl rfl Í Í) (θb (gb IH b rfl (pG ϔ (jo êa (jo Æa jA)))))))
abbrev Nv:Ú:=gX (top 51) 0
def y9l:zk Ñd Ñd (zU Nv):=by ac_rfl
variable(WJ:mg ϕ=Ä)(ZS:vC mg "MARKS" Űf)(Zh:∀H,za K H kN Űf)(wU:vY K [ō] ū)(qW:vY K [ō] Âb)(ja:vY K [ō] áa)
def y31{f:Ì}{b:Ľ}(d:vH K ýa äm Nv f b):xN P w K mg Ë xJ 1 f b Ñd ϯo:=d.oM P w mg Ë 0 UR y9l vy λe=>(yZ (kX ϔ wU (Zc (k_ rfl uE øb))) (yZ (kX ϔ qW (Zc (υb (θd (Ξc (Λd (wL Ñd [Ðb]))) (μ (zB êa Ăd)))))) (xc (kX ϔ ja (Zc (x1b rfl WJ M4 őc))))))
abbrev PM:Ú:=top 52
def y9x:zk ő ő (zU PM):=by ac_rfl
def FQ:HT:=λP w K mg Ë=>vI P w K mg Ë ŷf ő 1 (xH K J0)
def y3l(a:zR K ŷf PM):FQ P w K mg Ë:=(Œ).oM P w Ë 0 J0 y9x vy λb=>(ω (wG ėa))
abbrev PC:Ú:=top 53
def y9t:zk ő ő (zU PC):=by ac_rfl
variable(IM:Fu P w K mg Ë)
def bJ:HT:=λP w K mg Ë=>vI P w K mg Ë Őf ő 2 (xH K Qy)
def y3g(a:zR K Őf PC):bJ P w K mg Ë:=(Œ).oM P w Ë 1 Qy y9t vy λb=>(ω (kW (zj IM b rfl (zB ěc (zB zJ (zB zJ óf))))))
abbrev PB:Ú:=top 54
def y9s:zk ő ő (zU PB):=by ac_rfl
def FP:HT:=λP w K mg Ë=>vI P w K mg Ë őf ő 1 (xH K Qx)
def y3f(a:zR K őf PB):FP P w K mg Ë:=(Œ).oM P w Ë 0 Qx y9s vy λb=>(ω (kW ěc))
abbrev RH:Ú:=top 56
def x0p:zk ϯg ϯg (zU RH):=by ac_rfl
variable(Mb:FJ P w K mg Ë)(Hk:Fp P w K mg Ë)
def c8:=HD Ři ϯg 2 Wo
def y56(a:zR K Ři RH):c8 P w K mg Ë:=(õi).oS P w Ë 1 Wo x0p yP λb=>(Χe (υd (zB ŗ Ăd)) (υd (υa ϙo)) (zj Hk b rfl (Δa (υa (Γ (Bd Ľa (Tu (tT ėh xi ĉa Űb òg))))))))
abbrev R3:Ú:=top 57
def x0i:zk ĩi ĩi (zU R3):=by ac_rfl
def bj:HT:=λP w K mg Ë=>vI P w K mg Ë ďi ĩi 2 (xH K Wn)
def y4o(a:zR K ďi R3):bj P w K mg Ë:=(Œ).oM P w Ë 1 Wn x0i vy λb=>(yZ (Φb (wG (tT Ěg xi Ìb ņb ĵ))) (xc (Φb (wG (Βd (Δa (zB (zZ Xy Xx Ϧe zJ) Ħb)))))))
abbrev PQ:Ú:=top 55
def nV:zk [Ĵa,Ũa,Űc] ő (zU PQ):=by ac_rfl
variable(VL:bj P w K mg Ë)(Hh:c8 P w K mg Ë)
def bQ:HT:=λP w K mg Ë=>vI P w K mg Ë ìc ő 3 (xH K k7)
def y3o(a:zR K ìc PQ):bQ P w K mg Ë:=(Œ).oM P w Ë 2 k7 nV vy λb=>(yZ (uW (i:=2) nV.nd rfl à Í (kW (zj Hh b rfl (γe (zB ěc (Γ (zi ŧ zh (vK ý qW) ya))))))) (yZ (Φb (wG Äd)) (yZ (Βc (jo Äd jA)) (xc (ψ (yQ èd ju (zO ėa) Űb ĵ) (YY ũj ėa (wG Äd)))))))
abbrev Pl:Ú:=top 59
def x0c:zk āh āh (zU Pl):=by ac_rfl
def Fb:=HD Ŝi āh 1 UY
def y45(a:zR K Ŝi Pl):Fb P w K mg Ë:=(Çb).oS P w Ë 0 UY x0c yP λb=>(Χe (Ε (zZ Ky Ta į ŗ)) (Ε (zZ lG Ta į ŗ)) (zZ y61 Ta į ŗ))
abbrev P9:Ú:=top 58
def nU:zk [Ĵa,Ũa,ϊ] ő (zU P9):=by ac_rfl
variable(HL:Fb P w K mg Ë)
def bI:HT:=λP w K mg Ë=>vI P w K mg Ë Ćd ő 3 (xH K XD)
def y3e(a:zR K Ćd P9):bI P w K mg Ë:=(Œ).oM P w Ë 2 XD nU vy λb=>(yZ (uW (i:=2) nU.nd rfl à Í (kW (zj HL b rfl (γe (Γ ěc))))) (yZ (Βc (jo ŗ jA)) (ω (wG ŗ))))
abbrev PH:Ú:=top 60
def Rb:zk [Ĵa,Ũa,ϊ,Űc] ő (zU PH):=by ac_rfl
variable(HY:bm P w K mg Ë)(HZ:bn P w K mg Ë)
def bM:HT:=λP w K mg Ë=>vI P w K mg Ë Ûe ő 3 (xH K XE)
def y3j(a:zR K Ûe PH):bM P w K mg Ë:=(Œ).oM P w Ë 2 XE Rb vy λb=>(yZ (uW (i:=2) Rb.nd rfl à Í (kW ěc)) (yZ (uW (i:=3) Rb.nd rfl à Í (wG (qm Âh (zj HY b rfl Ĥn) (zj HZ b rfl Ĥn)))) (yZ (ψ (yQ BC B9 (zO Ãd) ϋb ĵ) (Φb (wG Ãd))) (yZ (Βc (jo Ãd jA)) (ω (wG Ãd))))))
abbrev Nz:Ú:=top 61
def y9m:zk ő ő (zU Nz):=by ac_rfl
def bA:=HD ūh ő 3 XC
def y34(a:zR K ūh Nz):bA P w K mg Ë:=(Œ).oS P w Ë 2 XC y9m yP λb=>(Ε (zj Jx b rfl (zB (zi ŧ zh (vK ý wU) ėa) óf)))
abbrev PD:Ú:=top 62
def y9u:zk ő ő (zU PD):=by ac_rfl
variable(YL:bA P w K mg Ë)
def bK:HT:=λP w K mg Ë=>vI P w K mg Ë ŏf ő 4 (xH K Qz)
def y3h(a:zR K ŏf PD):bK P w K mg Ë:=(Œ).oM P w Ë 3 Qz y9u vy λb=>(ω (kW (zj Jy b rfl Åk)))
abbrev PF:Ú:=top 63
def y9v:zk ő ő (zU PF):=by ac_rfl
variable(Hl:cF P w K mg Ë)
def bL:HT:=λP w K mg Ë=>vI P w K mg Ë Ĵf ő 5 (xH K Q_)
def y3i(a:zR K Ĵf PF):bL P w K mg Ë:=(Œ).oM P w Ë 4 Q_ y9v vy λb=>(ω (kW (zj Hl b rfl Åk)))
abbrev PN:Ú:=top 64
def y9y:zk ő ő (zU PN):=by ac_rfl
def bO:HT:=λP w K mg Ë=>vI P w K mg Ë ĳf ő 4 (xH K J1)
def y3m(a:zR K ĳf PN):bO P w K mg Ë:=(Œ).oM P w Ë 3 J1 y9y vy λb=>(θb (gb IH b rfl żj))
abbrev PP:Ú:=top 65
def y9z:zk ő ő (zU PP):=by ac_rfl
variable(Hf:bz P w K mg Ë)
def bP:HT:=λP w K mg Ë=>vI P w K mg Ë Ĕf ő 5 (xH K J2)
def y3n(a:zR K Ĕf PP):bP P w K mg Ë:=(Œ).oM P w Ë 4 J2 y9z vy λb=>(θb (gb Hf b rfl żj))
abbrev PJ:Ú:=top 67
def y9w:zk ő ő (zU PJ):=by ac_rfl
variable(MR:vC mg "DEEDS" ßp)(MD:XQ K w mg UL pA dt)(Gz:FQ P w K mg Ë)(Gv:bJ P w K mg Ë)(Gu:FP P w K mg Ë)(VH:bQ P w K mg Ë)(IA:bI P w K mg Ë)(Mc:bM P w K mg Ë)(Gw:bK P w K mg Ë)(Gx:bL P w K mg Ë)(G_:bO P w K mg Ë)(HA:bP P w K mg Ë)
def bN:HT:=λP w K mg Ë=>vI P w K mg Ë Şi ő 6 (xH K jR)
def y3k(a:zR K Şi PJ):bN P w K mg Ë:=(Œ).oM P w Ë 5 jR y9w vy λb=>(xc (ψ (x2b MR MD rfl ėa) (gc (z9z MR MD rfl (đa Gz Í (đa Gv Í (đa Gu Í (đa VH Í (đa VH Í (đa VH Í (đa VH Í (đa VH Í (đa IA Í (đa IA Í (đa IA Í (đa Mc Í (đa Mc Í (đa Gw Í (đa Gx Í (đa G_ Í (đa HA Í vx.nil))))))))))))))))) b ėa (pG ϔ (jo į jA))))))
abbrev R1:Ú:=top 68
def x0h:zk ő ő (zU R1):=by ac_rfl
def Fj:=HD Ϥi ő 1 jU
def y4m(a:zR K Ϥi R1):Fj P w K mg Ë:=(Œ).oS P w Ë 0 jU x0h yP λb=>(zd (xm Âh (Ε Ŷk) wx) (ι Âh (Ε (x0y Ŷk)) (Τe (zO ėa))))
abbrev RB:Ú:=top 77
def x0m:zk Ĩi Ĩi (zU RB):=by ac_rfl
variable(Gc:vC mg Ĕm Ýp)(NL:tz K w UO Gh Gk)(Gb:vC mg ÿn ľ)(NJ:∀H,za K H ľ ľ)(jn:vC mg "PLACES" Üp)(jy:tz K w UP u_ t4)
def Fn:=HD ùh Ĩi 1 u8
def y4y(a:zR K ùh RB):Fn P w K mg Ë:=(Œ).oS P w Ë 0 u8 x0m yP λb=>(ι (ο Ìb Űb) (εa (vq Gb NJ rfl) (Γ (jD Gc NL rfl ý))) (jD jn jy rfl į))
abbrev R8:Ú:=top 78
def x0j:zk īi īi (zU R8):=by ac_rfl
def bu:=HD Ϛh īi 2 ZL
def y4v(a:zR K Ϛh R8):bu P w K mg Ë:=(Œ).oS P w Ë 1 ZL x0j yP λb=>(Νe (ν (zB ėa óf)))
abbrev RS:Ú:=top 79
def x0q:zk Ōh Ōh (zU RS):=by ac_rfl
def cE:=HD ļh Ōh 2 gH
def y5e(a:zR K ļh RS):cE P w K mg Ë:=(Çb).oS P w Ë 1 gH x0q yP λb=>(Ε (zj IM b rfl (ν (zB ėa (zB ėa őc)))))
abbrev PY:Ú:=top 80
def x02:zk [şa] [şa] (zU PY):=by ac_rfl
variable(GW:vC mg "FIELDS" Þp)(NE:tz K w UM Gg Gj)
def FU:=HD åh [şa] 1 uq
def y3s(a:zR K åh PY):FU P w K mg Ë:=(ŝ).oS P w Ë 0 uq x02 yP λd=>(Θ (uH rfl Ďl (t9 (jD GW NE rfl ý)) (Ιa (wL [şa] [Ŋc])) (ηb (yQ (jv Ϭf) ju Ìb Űb òg)) ϔl))
abbrev PZ:Ú:=top 81
def Tl:zk [Ũa,ϖa,ϊ,Ŋc,áa,įa] Šo (zU PZ):=by ac_rfl
variable(Hz:CB K Wg)(Xl:cE P w K mg Ë)(IB:FU P w K mg Ë)(IG:Fn P w K mg Ë)
def bU:=HD Ũh Šo 3 ub
def y3t(a:zR K Ũh PZ):bU P w K mg Ë:=(Œ).oS P w Ë 2 ub Tl yP λb=>(zd (Οd (zB zJ (zB ύd øb))) (zd (Zk Ϩa rfl (Bg rfl Yr (yx (tU IB b rfl ϛo)) (x10 ý (Rp zJ) x1s)) (Ωb (Yh (n:=2) rfl (t7 (yu (i:=3) Tl.nd rfl à) (t7 (yu (i:=4) Tl.nd rfl à) Yi)))) (zd (yb (i:=5) Tl.nd rfl à (qm (ο Ğd Űb) (x0w ZS Zh Hz rfl Æa) Æa)) (zc (Οd (υa (zB (zj IG b rfl (zB ϵb èc)) ĵi)))))) Ün))
abbrev P7:Ú:=top 82
def y9r:zk [ϊ] [ϊ] (zU P7):=by ac_rfl
variable(VM:bu P w K mg Ë)
def bF:=HD Ĕi [ϊ] 3 ZJ
def y3c(a:zR K Ĕi P7):bF P w K mg Ë:=(ŝ).oS P w Ë 2 ZJ y9r yP λb=>(Ε (Ωc (υ ύd)))
abbrev Pm:Ú:=top 83
def nX:zk [ϖa,"found"] [ϖa] (zU Pm):=by ac_rfl
variable(TB:vC mg "CODES" Ûp)(Ix:tz K w X7 kM kO)(Xh:vC mg Ān Ùp)(Iz:tz K w X9 YK ZV)(Xg:vC mg šn Úp)(Iy:tz K w X8 YJ ZU)(GB:jX K w X7 kM MY)(Jk:jX K w X9 YK Ma)(NY:∀H,â K H ZV Ma)(Jj:jX K w X8 YJ MZ)(NX:∀H,â K H ZU MZ)
def Fc:=HD Ěh [ϖa] 1 UZ
def y46(a:zR K Ěh Pm):Fc P w K mg Ë:=(ŝ).oS P w Ë 0 UZ nX yP λd=>(zd (x28 (i:=1) rfl nX.nd rfl rfl Ùk rfl (Ro TB GB rfl Í Í) ĳj (Φc (jD TB Ix rfl ĸa)) Řm) (zd (Ζe (Ro Xh Jk rfl Í Í) (Φc (jD Xh Iz rfl ĸa))) (zd (Ζe (Ro Xg Jj rfl Í Í) (Φc (jD Xg Iy rfl ĸa))) (S4 1 (Ε (qm (yQ (xj Ϭf) xi Ìb àn ĵ) vd ϋk))))))
abbrev Pi:Ú:=top 84
def x09:zk [ϖa] [ϖa] (zU Pi):=by ac_rfl
def FZ:=HD ěh [ϖa] 1 Y5
def y41(a:zR K ěh Pi):FZ P w K mg Ë:=(ŝ).oS P w Ë 0 Y5 x09 yP λb=>(Ε (Εd (oI rfl rfl uE Xh Jk rfl NY Í)))
abbrev Pe:Ú:=top 85
def x05:zk [ϖa] [ϖa] (zU Pe):=by ac_rfl
def FV:=HD ľh [ϖa] 1 XF
def y3x(a:zR K ľh Pe):FV P w K mg Ë:=(ŝ).oS P w Ë 0 XF x05 yP λb=>(Ε (Εd (oI rfl rfl uE Xg Jj rfl NX Í)))
abbrev Pb:Ú:=top 87
def nW:zk [ϊ,şa,Ŋc,įa] Ån (zU Pb):=by ac_rfl
def bW:=HD ēi Ån 3 qz
def y3v(a:zR K ēi Pb):bW P w K mg Ë:=(Çb).oS P w Ë 2 qz nW yP λb=>(zd (yb (i:=3) nW.nd rfl à (Ωc (υ (zj IG b rfl (zB į ġf))))) (ι (yQ èd ju öc Űb ĵ) ϓo (qm (yQ Vc qh (zO Ľa) (zO (pR kK kY rfl vw gO (pP (zO Ϯg) pQ))) ĵ) (zi ŧ zh Ϯg Ľa) vd)))
abbrev RE:Ú:=top 86
def O9:zk ϔk [ϊ] (zU RE):=by ac_rfl
variable(Jz:bF P w K mg Ë)(HM:Fc P w K mg Ë)(HF:bW P w K mg Ë)(IE:FZ P w K mg Ë)(YM:bU P w K mg Ë)
def b_:=HD Śi [ϊ] 4 jV
def y52(a:zR K Śi RE):b_ P w K mg Ë:=(ŝ).oS P w Ë 3 jV O9 yP λb=>(zd (yb (i:=1) Đg rfl à (zj Jz b rfl ħb)) (zd (yb (i:=2) Đg rfl ϻa (zj HM b rfl øb)) (zd Ŷj (zd (yb (i:=3) Đg rfl à (Φd (Γ (zZ xT xS (yx (wR ġf Ϯe)) (yx (uH rfl Ďl (t9 (yx (tU IB b rfl ġf))) (vi (Λ (νb (wL ϔk [Ŋc]))) rfl) Ãc (Λ (zj HF b rfl (ν (zB ĸa (zB Đa zM))))))))))) (ιa (yQ Ϡf VY ϋb Ğd Ϩb) čf (yb (i:=4) Đg rfl à (qm (tV (zj IE b rfl øb)) (zj Xl b rfl (ν (zB ύd Ħb))) ý)) (Ε (qm (yQ ėh xi (zO (zj YM b rfl (zB Ľa øb))) ĝd ĵ) Ľa vd)))))))
abbrev PR:Ú:=top 90
def x00:zk Ŏh Ŏh (zU PR):=by ac_rfl
variable(II:Fo P w K mg Ë)
def bR:=HD ŝi Ŏh 2 J3
def y3p(a:zR K ŝi PR):bR P w K mg Ë:=(Çb).oS P w Ë 1 J3 x00 yP λb=>(ι (yQ Il qh (zO ťd) ád ĵ) čf (ςb (Χd (zB (zi ŧ zh ý ťd) ϫn))))
abbrev RO:Ú:=top 89
def Bc:zk [ū,Őa,Ũa,ϖa,Êb] ťo (zU RO):=by ac_rfl
variable(Hg:b_ P w K mg Ë)(HH:FV P w K mg Ë)(HB:bR P w K mg Ë)
def cC:=HD či ťo 5 gE
def y5b(a:zR K či RO):cC P w K mg Ë:=(Œ).oS P w Ë 4 gE Bc yP λb=>(ιa (χa (yQ Vc qh Ìb ņb ĵ) (Q3 (yQ Il qh Ìb ád ĵ))) čf (yb (i:=2) Bc.nd rfl à (zj Hg b rfl Ķi)) (zd Ŷj (zd (yb (i:=3) Bc.nd rfl à (zj Jz b rfl Ķi)) (zd (xm (tV (zj HH b rfl èc)) (Ε (zj HB b rfl (ν (zB į őc)))) wx) (ι (tV (zj IE b rfl èc)) (zd (yb (i:=4) Bc.nd rfl à ύd) (Ε (ςb (Χd (zB (Ωc (zB źe (zB Æa zM))) (zB ϕl zM)))))) (ςb (zB vd zM)))))))
abbrev RQ:Ú:=top 93
def Tr:zk [ū,ϱ,Őa,Űc] [ū] (zU RQ):=by ac_rfl
variable(Mg:cC P w K mg Ë)
def cD:=HD Ŗi [ū] 6 Ug
def y5d(a:zR K Ŗi RQ):cD P w K mg Ë:=(ŝ).oS P w Ë 5 Ug Tr yP λb=>(zd (Z2 (i:=1) Tr.nd rfl à OE) (zd (yb (i:=2) Tr.nd rfl à zJ) (zd ύj (zd (oZ Ϩa (yQ BC B9 Ğd ϋb ĵ) (zd (Zj Ńb Ķe ŗ êa) (zd (yb (i:=2) Tr.nd rfl à Ãd) (zc ύj)))) ğf))))
abbrev P3:Ú:=top 94
def y9o:zk [ϱ] [ϱ] (zU P3):=by ac_rfl
variable(A4:mg Ýb=Ä)
def FK:=HD şi [ϱ] 1 Qw
def y38(a:zR K şi P3):FK P w K mg Ë:=(ŝ).oS P w Ë 0 Qw y9o yP λd=>(Ε (x0x rfl rfl A4 (yx (x1e (x1c rfl (vR (own:=[Űc]) rfl) (x1k (i:=0) rfl Ũj) (Ιa (wL [ϱ] [Űc])) Íd (Ι ϋk)) (z3q (z3r 0)))) zJ))
abbrev RV:Ú:=top 91
def Ts:zk [ū,ϱ,Ùb,Őa,Űc,ŗi] [ū] (zU RV):=by ac_rfl
variable(IL:cD P w K mg Ë)(Go:FK P w K mg Ë)
def cG:=HD Ťh [ū] 7 JI
def y5h(a:zR K Ťh RV):cG P w K mg Ë:=(ŝ).oS P w Ë 6 JI Ts yP λb=>(zd (yb (i:=1) Ŗe rfl à (yx Ôm)) (zd (yb (i:=2) Ŗe rfl à (zj Go b rfl øb)) (ιa (yQ èd ju öc ád ĵ) Ün (x29 (x27 Ϩa rfl (x1j (i:=1) rfl Ũj) (Ωb (Yh (n:=2) rfl (t7 (yu (i:=3) Ŗe rfl à) (t7 (yu (i:=4) Ŗe rfl à) Yi)))) (zd (yb (i:=5) Ŗe rfl à ϕl) (zc (xm (Vo (o_ (yQ BC B9 ϕf ϋb ĵ) (o_ (yQ èd ju ϕf öc ĵ) (x2h (yQ (N0 Ńb) Kw ϕf Ìb Ϩb))))) ϓo wx)))) (z3o (z3p 1))) čf)))
abbrev RI:Ú:=top 92
def ni:zk [ū,"wrong"] [ū] (zU RI):=by ac_rfl
variable(Hm:cG P w K mg Ë)
def c9:=HD Çi [ū] 8 Wp
def y57(a:zR K Çi RI):c9 P w K mg Ë:=(ŝ).oS P w Ë 7 Wp ni yP λb=>(zd (yb (i:=1) ni.nd rfl à (zj Hm b rfl ħb)) (zd (Νa (yQ BC B9 Ìb ϋb ĵ)) (Θ Ôm)))
abbrev P0:Ú:=top 98
def Tk:zk õk úd (zU P0):=by ac_rfl
def bC:=HD ϟh úd 3 Qv
def y36(a:zR K ϟh P0):bC P w K mg Ë:=(Œ).oS P w Ë 2 Qv Tk yP λc=>(zd (yb (i:=2) ře rfl à (yx (υb (uH rfl Űd (t9 į) (vi (Χb (Ιd (wL õk [įa]))) rfl) Ím (Χb (μ (zB Ĥe Ăd))))))) (zd (Z2 (i:=4) ře rfl à ϳb) (zd (yb (i:=5) ře rfl à zJ) (zd (Zk Ϩa rfl (εb (Ρa (zO (zj YN c rfl ħb)))) (Εa (yu (i:=3) ře rfl à)) (zd Ōm (zc (oY (i:=5) fq lA ře rfl à (qm (yQ (Va (zV c)) VY Ğd öc Ϩb) zJ zJ))))) (zd Ōm (zc (Zl 4)))))))
abbrev Ph:Ú:=top 105
def x08:zk [Şb] [Şb] (zU Ph):=by ac_rfl
variable(GZ:vC mg ķo ŕc)(NI:∀H,za K H ŕc ŕc)(GY:vC mg Šn ĝa)(NH:∀H,za K H ĝa ĝa)
def FY:=HD đi [Şb] 1 J7
def y40(a:zR K đi Ph):FY P w K mg Ë:=(ŝ).oS P w Ë 0 J7 x08 yP λb=>(Ε (o8 (tT Vb VZ ĉa ϋb ĵ) (Tu (Bd (tT K_ qh (zO (Tv OP OO (vq GY NH rfl))) ĉa ĵ) (Tu (tT K_ qh ĉa (zO (vq GZ NI rfl)) ĵ))))))
abbrev P8:Ú:=top 104
def nT:zk [ű,ăg,"at"] úd (zU P8):=by ac_rfl
variable(Vq:mg ţb=Ä)(Gm:bC P w K mg Ë)(IJ:cB P w K mg Ë)
def bG:=HD Ĝh úd 4 UW
def y3d(a:zR K Ĝh P8):bG P w K mg Ë:=(Œ).oS P w Ë 3 UW nT yP λb=>(zd (yb (i:=2) nT.nd rfl ϻa (yx (tU Gm b rfl ϫb))) (Θ (uH rfl (vR (own:=[įa,ŗi]) rfl) ŕk (ηc (Λ (Yh (n:=2) rfl (t7 (Λd (Ϡj)) (t7 (Κd (Ϡj)) Yi))))) Ãc (Λ (qm (yQ Vb VZ ĝd ϋb ĵ) vd (zZ Xy Xx ϴg (zi ŧ zh ŗ êa)))))))
abbrev R7:Ú:=top 103
def Bb:zk [ű,ăg,Ŝn,"chosen","near"] úd (zU R7):=by ac_rfl
variable(J_:bG P w K mg Ë)(HJ:FY P w K mg Ë)
def bq:=HD Ęh úd 5 XM
def y4u(a:zR K Ęh R7):bq P w K mg Ë:=(Œ).oS P w Ë 4 XM Bb yP λd=>(zd (yb (i:=2) Bb.nd rfl ϻa (zj J_ d rfl ϫb)) (zd (yb (i:=3) Bb.nd rfl ϻa (yx (υb (uH rfl Űd (t9 į) ęg Íd (ζa (μ (zB Đa Ăd))))))) (zd (S3 (i:=4) rfl Bb.nd rfl rfl Űd rfl (εb (Ρa öc)) ęg (ηb (yQ (N0 (zV d)) Kw ϕf Ğd Ϩb)) ϖo) (Θ (uH rfl Űd (t9 Æa) ęg (ζa (Yn (Ξa (zj HJ d rfl (Γ (zi (zg (zV d)) zh ĸa Đa)))))) ϖo)))))
abbrev PU:Ú:=top 102
def O5:zk [ű,ăg,"lacking"] [ű] (zU PU):=by ac_rfl
variable(Mf:bq P w K mg Ë)
def bS:=HD Íi [ű] 6 J4
def y3q(a:zR K Íi PU):bS P w K mg Ë:=(ŝ).oS P w Ë 5 J4 O5 yP λb=>(zd (yb (i:=1) O5.nd rfl à (yx ϳb)) (zd Ϭj (zd (oZ Ϩa (yQ èd ju öc àn ĵ) (zd (yb (i:=1) O5.nd rfl à (yx (x1g rfl Og (Γ (zZ xT xS į ĸa))))) (zc Ϭj))) (zc (yO į)))))
abbrev RX:Ú:=top 107
def x0t:zk [Ũa] [Ũa] (zU RX):=by ac_rfl
def cH:=HD Ļh [Ũa] 4 Uh
def y5j(a:zR K Ļh RX):cH P w K mg Ë:=(ŝ).oS P w Ë 3 Uh x0t yP λb=>(Ε (Μc (jD TB Ix rfl ϵb)))
abbrev R6:Ú:=top 109
def nc:zk [Ũa,Şb,Êb] åe (zU R6):=by ac_rfl
variable(IK:Fq P w K mg Ë)
def bo:=HD ϛh åe 4 Uc
def y4t(a:zR K ϛh R6):bo P w K mg Ë:=(Œ).oS P w Ë 3 Uc nc yP λb=>(zd (yb (i:=2) nc.nd rfl à ύd) (Ε (zj Xl b rfl (zB (Μc (jD Xh Iz rfl ϵb)) (υa (χd (zB (zi ŧ zh ĸa zJ) zM)))))))
abbrev PX:Ú:=top 110
def x01:zk åe åe (zU PX):=by ac_rfl
def bT:=HD Ϟh åe 4 Wl
def y3r(a:zR K Ϟh PX):bT P w K mg Ë:=(Œ).oS P w Ë 3 Wl x01 yP λb=>(Θ (wR (zB (Μc (jD Xg Iy rfl ϵb)) (χd ϫn)) ĝc))
abbrev RZ:Ú:=top 108
def Tt:zk [ű,ăg,Ŝn,ū,įa,Ũa] [ű] (zU RZ):=by ac_rfl
variable(HC:bS P w K mg Ë)(Ho:cH P w K mg Ë)(HE:bT P w K mg Ë)(Hc:bo P w K mg Ë)
def cK:=HD Ċi [ű] 7 XO
def y5l(a:zR K Ċi RZ):cK P w K mg Ë:=(ŝ).oS P w Ë 6 XO Tt yP λb=>(zd (yb (i:=1) ŕe rfl à (zj HC b rfl ħb)) (zd (yb (i:=2) ŕe rfl à (zj J_ b rfl ϫb)) (zd (Z2 (i:=3) ŕe rfl à ϳb) (Ιb (Rn rfl Vq Üh) (Ωb (Yh (n:=2) rfl (t7 (yu (i:=4) ŕe rfl à) (t7 (yu (i:=5) ŕe rfl à) Yi)))) (zc (xm (yQ Vb VZ (zO ϴg) ϋb ĵ) (zc (Q1 Ġj (zj Ho b rfl ĵi))) (zc (xm (yQ Ϡf VY ĝd Ìb Ϩb) (zc (S0 Ġj (tU HE b rfl đk))) (zc (Q1 Ġj (zj Hc b rfl đk))))))) (Zl 3)))))
abbrev RY:Ú:=top 71
def x0u:zk [Îa] [Îa] (zU RY):=by ac_rfl
variable(Sz:mg "all"=Ä)(MU:vC mg åm ía)(BL:∀H,za K H ía ía)
def cI:=HD ţh [Îa] 2 Wt
def y5k(a:zR K ţh RY):cI P w K mg Ë:=(ŝ).oS P w Ë 1 Wt x0u yP λc=>(ιa ël (Θ (x1d (wR Ħb Ϯe) ϋm)) (Νa (Vo (Q2 Ák (Q3 (yQ (jv (yt c)) ju ád (zO ϋm) ĵ))))) (zd (Νa (Ξa (pR (z2n rfl) y37 rfl Sz z2f (Ρc (uH rfl (vR (own:=[Źb]) rfl) (t9 ý) (vi (Χb (Οa (wL ["registers"] [Źb]))) rfl) Ím (Χb (zj VI c rfl (Δa Ϙo)))))))) (Θ (k_ rfl uE ħb))))
abbrev Nq:Ú:=gX żb 2
def y9j:zk ĥ ĥ (zU Nq):=by ac_rfl
variable(kH:vY K ĳ Ċc)(V4:vY K ĳ ϱ)(JU:vY K ĳ Ùb)
def y2x{f:Ì}{b:Ľ}(d:vH K řc æm Nq f b):xN P w K mg Ë xJ 1 f b ĥ ńi:=d.oF P w mg Ë 0 vO y9j yP λa=>(Ε (o8 (tT źi xi (zO ϸn) (zO (vK ý JU)) ĵ) (Tu (tT źi xi (zO (zi Ϧn zh Ϫj zJ)) (zO Śl) ĵ))))
abbrev Nl:Ú:=gX żb 1
def y9e:zk ĥ ĥ (zU Nl):=by ac_rfl
variable(gN:vY K ĳ Ĵa)(JV:vY K ĳ Ác)(JW:vY K ĳ ŝb)(V3:vY K ĳ ŋb)(H_:Fw P w K mg Ë ō Ñd 1 ϯo)
def y2s{f:Ì}{a:Ľ}(d:vH K űb Ęm Nl f a):xN P w K mg Ë xJ 3 f a ĥ ľi:=d.oM P w mg Ë 2 uG y9e vy λb=>(yZ (kX ϔ gN (y00 H_ b rfl (pG (qI ϔ JW) (pG (qI ϔ JV) jA)))) (yZ (kX ϔ kH (wG zJ)) (xc (kX ϔ V3 (wG zJ)))))
abbrev Nr:Ú:=gX żb 3
def nP:zk [Ŋb,Űc] ĥ (zU Nr):=by ac_rfl
variable(OZ:uO P w K mg Ë Ğ řc ĥ 1 ńi)(OV:uO P w K mg Ë Ĩ řc ĥ 1 ńi)(Gy:bN P w K mg Ë)(HX:Fj P w K mg Ë)
def y2y{f:Ì}{b:Ľ}(d:vH K űc Śm Nr f b):xN P w K mg Ë xJ 7 f b ĥ Ŀi:=d.oM P w mg Ë 6 tu nP vy λa=>(yZ (ψ (tV (Vj (jE OZ a ý) (jE OV a ý))) ϻd) (yZ (uW (i:=1) nP.nd rfl à Í (kW Ϫj)) (yZ (gc (gb Gy a rfl (pG (qI ϔ gN) (jo ϑe jA)))) (yZ (kX ϔ kH (kW (qm (tV (zj HX a rfl (zB Ħf (Γ ϑe)))) ϑe ϑe))) (yZ (y0d ϔ V3 zJ) (xc ϻd))))))
abbrev Np:Ú:=gX żb 5
def y9i:zk ĥ ĥ (zU Np):=by ac_rfl
def y2w{f:Ì}{a:Ľ}(d:vH K Îa ńl Np f a):xN P w K mg Ë xJ 1 f a ĥ Ņi:=d.oF P w mg Ë 0 jP y9i yP λb=>(Θ (Υa (vK Ħf wU)))
abbrev Nm:Ú:=gX żb 6
def y9f:zk ĥ ĥ (zU Nm):=by ac_rfl
def y2t{f:Ì}{b:Ľ}(d:vH K Ŧc ėm Nm f b):xN P w K mg Ë xJ 1 f b ĥ ŉi:=d.oF P w mg Ë 0 Y0 y9f yP λe=>(Μe (yx (θd (Ξc (Οa (wL [Ŋb] [Ðb]))) (zi (zg (zV e)) zh (vK Ħf qW) į))))
abbrev Nn:Ú:=gX żb 7
def y9g:zk ĥ ĥ (zU Nn):=by ac_rfl
variable(He:Fk P w K mg Ë)
def y2u{f:Ì}{a:Ľ}(d:vH K Ña çm Nn f a):xN P w K mg Ë xJ 2 f a ĥ ņi:=d.oF P w mg Ë 1 jO y9g yP λb=>(Θ (tU He b rfl (Γ (vK Ħf ja))))
abbrev No:Ú:=gX żb 9
def y9h:zk ĥ ĥ (zU No):=by ac_rfl
def y2v{f:Ì}{a:Ľ}(d:vH K Êb Ėm No f a):xN P w K mg Ë xJ 1 f a ĥ ňi:=d.oF P w mg Ë 0 Y3 y9h yP λb=>(Ε ϸn)
abbrev Nt:Ú:=gX żb 10
def y9k:zk ĥ ĥ (zU Nt):=by ac_rfl
def y2z{f:Ì}{a:Ľ}(d:vH K ťc ĕm Nt f a):xN P w K mg Ë xJ 1 f a ĥ Ňi:=d.oF P w mg Ë 0 Y4 y9k yP λb=>(Ε (vK ý V3))
abbrev Nk:Ú:=gX żb 0
def y9d:zk şd şd (zU Nk):=by ac_rfl
variable(OW:uO P w K mg Ë Ğ űb ĥ 3 ľi)(OS:uO P w K mg Ë Ĩ űb ĥ 3 ľi)(Hq:cI P w K mg Ë)(Gp:bD P w K mg Ë)
def y2r{f:Ì}{b:Ľ}(d:vH K ýa Ųl Nk f b):xN P w K mg Ë xJ 5 f b şd Ϯo:=d.oM P w mg Ë 4 Wj y9d vy λa=>(yZ (kX ϔ V4 (wG į)) (yZ (kX ϔ JU (wG ŗ)) (yZ (kX ϔ JW (οa (tU Hq a rfl èc))) (yZ (kX ϔ JV (οa (tU Gp a rfl Ďd))) (θb (Kb (TX OW a ϔ) (TX OS a ϔ)))))))
abbrev RL:Ú:=top 75
def OA:zk [ű,"rows",ϱ,įa,ŗi] [ű] (zU RL):=by ac_rfl
def cA:=HD øh [ű] 4 Wq
def y58(a:zR K øh RL):cA P w K mg Ë:=(ŝ).oS P w Ë 3 Wq OA yP λb=>(zd (yb (i:=1) ďg rfl à Üh) (zd (Z2 (i:=2) ďg rfl à OE) (Ιb ŕk (Ωb (Yh (n:=2) rfl (t7 (yu (i:=3) ďg rfl à) (t7 (yu (i:=4) ďg rfl à) Yi)))) (zc (Zj Ńb ġj êa (wg (zB (zi ŧ zh į êa) (zB (zZ xT xS êa zJ) Ďd)) ėb))) (Zl 2))))
abbrev Nu:Ú:=gX (top 74) 0
def nQ:zk [Ŋb,ű,Îa,Ña,ϱ] Àm (zU Nu):=by ac_rfl
variable(Ob:LO P w K mg Ë ĸo ýa şd 5 Ϯo)(Hj:cA P w K mg Ë)
def y30{f:Ì}{b:Ľ}(d:vH K ýa ýl Nu f b):xN P w K mg Ë xJ 6 f b Àm Ϭo:=d.oM P w mg Ë 5 jQ nQ vy λa=>(yZ (uW (i:=4) nQ.nd rfl à Í (οa (tU Hj a rfl øb))) (xc (Δe (wG (pR z2s y4n rfl vw gO (pP ĝd pQ))))))
abbrev Nw:Ú:=gX (top 96) 0
def nR:zk [Ŋb,ū,Îa,Ña,ϱ] Ám (zU Nw):=by ac_rfl
variable(Hi:c9 P w K mg Ë)
def y32{f:Ì}{b:Ľ}(d:vH K ýa Ùl Nw f b):xN P w K mg Ë xJ 9 f b Ám ϭo:=d.oM P w mg Ë 8 gD nR vy λa=>(yZ (uW (i:=4) nR.nd rfl à Í (οa (tU Hi a rfl øb))) (xc (Δe (kW (Ρa Ìb)))))
abbrev Pp:Ú:=top 112
def x0d:zk Īi Īi (zU Pp):=by ac_rfl
def Fd:=HD ĝh Īi 1 jS
def y4a(a:zR K ĝh Pp):Fd P w K mg Ë:=(Œ).oS P w Ë 0 jS x0d y93 λb=>(zd (xm (yQ Vc qh Ìb ád ĵ) (Ε źe) wx) (zc (yO zJ)))
abbrev Pw:Ú:=top 113
def nY:zk [Ða,ŗa,ϧm] şf (zU Pw):=by ac_rfl
def Fi:=HD ůh şf 1 uc
def y4h(a:zR K ůh Pw):Fi P w K mg Ë:=(Œ).oS P w Ë 0 uc nY yP λb=>(zd (yb (i:=2) nY.nd rfl à (Ζ (zZ qi Kv (zZ xT xS ý Ĺk) zJ))) (zc (yO (Ζ (zZ xT xS (zZ xT xS (zZ y5v y4s ŗ ŗ) (zZ qi jt zJ ŗ)) į)))))
abbrev P_:Ú:=top 114
def Ba:zk [Ða,ŗa,"_law_way",ϧm,ŝn] şf (zU P_):=by ac_rfl
variable(uS:Fi P w K mg Ë)
def bh:=HD Ϡh şf 2 JD
def y4k(a:zR K Ϡh P_):bh P w K mg Ë:=(Œ).oS P w Ë 1 JD Ba yP λb=>(zd (yb (i:=2) Ba.nd rfl à Ĵm) (zd (yb (i:=3) Ba.nd rfl à Ģg) (zd (yb (i:=4) Ba.nd rfl à (yx (wR (zB zJ (zB zJ (zB zJ (zB zJ (zB ıf (Γ Ïm)))))) (yS (zW (zW Èh)) Í)))) (zc (yO (zi ŧ zh (zZ xT xS Æa (yx (wR (zB Ïl (Γ Ïl)) ĝc))) ŗ))))))
abbrev R0:Ú:=top 115
def x0g:zk [Ða] [Ða] (zU R0):=by ac_rfl
variable(HV:bh P w K mg Ë)
def bi:=HD Ŭh [Ða] 3 JE
def y4l(a:zR K Ŭh R0):bi P w K mg Ë:=(ŝ).oS P w Ë 2 JE x0g yP λd=>(Θ (uH rfl ϩe Ϩd (Ιa (wL [Ða] [ŗa])) Íd (Ι (zj HV d rfl ϫb))))
abbrev Py:Ú:=top 116
def O8:zk ϒj [Ða] (zU Py):=by ac_rfl
def bg:=HD ŭh [Ða] 2 JC
def y4j(a:zR K ŭh Py):bg P w K mg Ë:=(ŝ).oS P w Ë 1 JC O8 yP λb=>(zd (Z2 (i:=1) đg rfl à ϳb) (Ιb (εb (Ζ ϊk)) (Εa (yu (i:=2) đg rfl à)) (zd (yb (i:=3) đg rfl à ōg) (zd (yb (i:=4) đg rfl à (Υd (zB ıf (zB Ïm (Γ ıf))))) (zc (xm (x2c (yQ (N0 Ńb) Kw ĝd (zO (yx (uH rfl (vR (own:=Ìn) rfl) (t9 į) (ηa (νb (wL ϒj Ìn))) Ãc (Λ (zi ŧ zh Đa zJ))))) Ϩb)) (zc (Q1 Ķe (μ (zB Æa (zB (Υd (zB (Ζ ōg) Ůl)) zM))))) wx)))) (Zl 1)))
abbrev Px:Ú:=top 118
def To:zk [Ða,"_law_letters",ϗc,ŗa,Şn,"_law_letter"] [Ða] (zU Px):=by ac_rfl
def bf:=HD Ůh [Ða] 2 JB
def y4i(a:zR K Ůh Px):bf P w K mg Ë:=(ŝ).oS P w Ë 1 JB To yP λb=>(zd (yb (i:=1) ŗe rfl à ya) (zd (Z2 (i:=2) ŗe rfl à ϳb) (zd (Zk Ϩa rfl Ϩd (Εa (yu (i:=3) ŗe rfl à)) (zd (yb (i:=4) ŗe rfl à (Αb (zZ xT xS zJ êa))) (zd (yb (i:=5) ŗe rfl à (zi ŧ zh į (Ζ (zZ xT xS ϊk (zZ qi jt zJ Ľa))))) (zc (Q1 ġj (zZ xT xS (zZ xT xS (zZ lF lB ya (Ζ Æa)) Đa) (zZ lF lB ya (Ζ (zZ Kz Kt Æa zJ))))))))) (zd (xm (ο (zO Îm) ņb) (zc (x2a ġj zJ (zi ŧ zh Ğg (Ζ (zZ Kz Kt ý zJ))))) wx) (zc (Zl 2))))))
abbrev Pt:Ú:=top 119
def O7:zk ŀj Ĭk (zU Pt):=by ac_rfl
def Ff:=HD Űh Ĭk 1 Ub
def y4e(a:zR K Űh Pt):Ff P w K mg Ë:=(Çb).oS P w Ë 0 Ub O7 yP λd=>(zd (Z2 (i:=3) Ēg rfl à ϳb) (Ιb (εb (zZ xT xS (Ρa ĉa) zJ)) (Εa (yu (i:=4) Ēg rfl ϻa)) (zd (OJ (i:=3) Ēg rfl à (yx (uH rfl (vR (own:=ϐj) rfl) (Bg rfl Yr ŗ į) (ηc (Ι (Yh (n:=2) rfl (t7 (νb Ĭn) (t7 (Ιd Ĭn) Yi))))) (ηb (yQ (xj Ϭf) xi (zO Ĥe) ĝd òg)) (ζa (μ (zB ya ĵi)))))) (zc (OJ (i:=3) Ēg rfl à (x0z ý (Rp Æa) (Rp (zZ xT xS Æa zJ)))))) (Zl 3)))
abbrev Po:Ú:=top 120
def Zi:zk [Ða,ŗa,ϗc,"_law_d","_law_s","_law_n","_law_name",Şn,ŝn] Çn (zU Po):=by ac_rfl
def ba:=HD Ïi Çn 2 J9
def y49(a:zR K Ïi Po):ba P w K mg Ë:=(Çb).oS P w Ë 1 J9 Zi yP λb=>(zd (yb (i:=3) ňd rfl à Ĵm) (zd (yb (i:=4) ňd rfl à ĳi) (zd (yb (i:=5) ňd rfl à Ģg) (zd (yb (i:=6) ňd rfl à (zi ŧ zh ŗ ĳi)) (zd (yb (i:=7) ňd rfl à (zi ŧ zh (yx (wR (zB ya (zB ya (zB ya zM))) ėb)) ĳi)) (zd (Z2 (i:=8) ňd rfl à (wR (zB ϻj (zB ϻj (zB (μ (zB ya ϗo)) (zB (wg (zB ya (zB êa Ďd)) ėb) Ϭn)))) (yS (zW Èh) Í))) (zd (ωb (wR (zB ģg (zB ģg (zB ŧj zM))) ėb)) (zd (ωb (wR (zB (wg (zB (zi ŧ zh Ğg ϔo) (zB êa (zB Æa (Γ (Ζ (zZ Kz Kt Đa zJ)))))) Ĩn) Ϭn) ĝc)) (zd (ωb (wR (zB ŧj (zB (zi ŧ zh (yx (wR (zB Śl (zB (wg (zB ya (zB êa èc)) ėb) zM)) ĝc)) ϔo) zM)) ĝc)) (S4 8 (Ε (zi ŧ zh (z7 8) Îm))))))))))))
abbrev Pq:Ú:=top 121
def Tn:zk [ġb,ül,"_law_count",Ða,ϗc,"_law_places","_law_rows"] Ţo (zU Pq):=by ac_rfl
variable(ZW:Fd P w K mg Ë)(HS:bf P w K mg Ë)(HP:ba P w K mg Ë)
def bc:=HD Ųh Ţo 3 JA
def y4b(a:zR K Ųh Pq):bc P w K mg Ë:=(Œ).oS P w Ë 2 JA Tn yP λb=>(zd (yb (i:=2) Ře rfl ϻa (zZ xT xS zJ (Ζ (Ψc (zB ý øb))))) (zd (yb (i:=3) Ře rfl ϻa (Ψc (υ ťd))) (zd (yb (i:=4) Ře rfl ϻa (yx (tU HS b rfl èc))) (zd (S3 (i:=5) rfl Ře rfl rfl ϩe rfl Ϩd Ĵj Ãc (Λ (zZ xX xW (zj uS b rfl (zB êa (Γ (zZ xT xS zJ İd)))) (zZ xT xS ŗ zJ)))) (zd (S3 (i:=6) rfl Ře rfl rfl ϩe rfl (Z0 rfl uK ŗ) Ĵj Ãc (Λ (zj HP b rfl (zB (Ψc (υ (zZ xT xS ťd İd))) (zB İd Ďd))))) (Ε (wg (zB Ĥe (zB Đa Ďd)) (yS (zW ėc) Í))))))))
abbrev Pu:Ú:=top 117
def Re:zk [Âc,Ða,űh,ŗa] šo (zU Pu):=by ac_rfl
variable(A5:mg õj=Ä)(OY:uO P w K mg Ë Ğ Îa ĥ 1 Ņi)(SZ:uO P w K mg Ë Ğ Ŧc ĥ 1 ŉi)(OX:uO P w K mg Ë Ğ Ña ĥ 2 ņi)(Sa:uO P w K mg Ë Ğ Êb ĥ 1 ňi)(Sc:uO P w K mg Ë Ğ ťc ĥ 1 Ňi)(OU:uO P w K mg Ë Ĩ Îa ĥ 1 Ņi)(SU:uO P w K mg Ë Ĩ Ŧc ĥ 1 ŉi)(OT:uO P w K mg Ë Ĩ Ña ĥ 2 ņi)(SV:uO P w K mg Ë Ĩ Êb ĥ 1 ňi)(SY:uO P w K mg Ë Ĩ ťc ĥ 1 Ňi)
def Fg:=HD Ϣh šo 3 jT
def y4f(a:zR K Ϣh Pu):Fg P w K mg Ë:=(Œ).oS P w Ë 2 jT Re yP λb=>(zd (Z2 (i:=2) Re.nd rfl ϻa OE) (zd (Zk Ϩa rfl (t9 (zi ŧ zh (yx (wR (zB (Ψb (BZ (is:=Œh) rfl)) (zB (Ψb (BZ (is:=ŏh) rfl)) (zB (Ψb (BZ (is:=őh) rfl)) (Γ (Ψb (BZ (is:=Őh) rfl)))))) Ĩn)) (zZ xX xW į zJ))) (Εa (yu (i:=3) Re.nd rfl à)) (zc (xm ŭd (Θa (jE OY b ý) (jE OU b ý)) (zc (xm ŭd (Θa (jE SZ b ý) (jE SU b ý)) (zc (xm ŭd (Θa (jE OX b ý) (jE OT b ý)) (zc (xm ŭd (Θa (jE Sa b ý) (jE SV b ý)) (zc (xm ŭd (Θa (jE Sc b ý) (jE SY b ý)) (Θa (jE OZ b ý) (jE OV b ý))))))))))))) (S4 2 (Ε (pR (z2y b) y51 rfl A5 z2i (Ρc (uH rfl ϩe Ϩd (ηa (Κd (wL [Âc,"_law_cell",űh,ŗa] [ŗa]))) Ãc (Λ ϴg))))))))
abbrev Ps:Ú:=top 122
def x0e:zk [Âc] [Âc] (zU Ps):=by ac_rfl
def Fe:HT:=λP w K mg Ë=>vI P w K mg Ë ϣh [Âc] 3 (xH K XH)
def y4d(a:zR K ϣh Ps):Fe P w K mg Ë:=(ŝ).oM P w Ë 2 XH x0e vy λb=>(μb (iT (VU (YV (oH (Be OY b ý) (Be OU b ý))) (VU (YV (oH (Be OX b ý) (Be OT b ý))) Ke))))
abbrev Pv:Ú:=top 123
def x0f:zk ĥg ĥg (zU Pv):=by ac_rfl
variable(Ϭd:LP P w K mg Ë Ğ Ŋb Æn 6 Ϭo Ůj)(Ğh:LP P w K mg Ë Ĩ Ŋb Èn 9 ϭo Ϟj)
def Fh:HT:=λP w K mg Ë=>vI P w K mg Ë ϡh ĥg 11 (xH K q_)
def y4g(a:zR K ϡh Pv):Fh P w K mg Ë:=(õi).oM P w Ë 10 q_ x0f vy λb=>(yZ (χ (Xs (ks:=[]) (π:=Öa) Ϭd çp b rfl ϐm)) (yZ (χ (Xs (ks:=[Îa]) (π:=Öa) Ϭd Że b rfl (νc Óp))) (yZ (χ (Xs (ks:=[Ña]) (π:=Ĳd) Ϭd øn b rfl (νc (B4 3 Xt)))) (yZ (χ (Xs (ks:=[]) (π:=Öa) Ϭd (.tail _ øn) b rfl (jq 1 đo))) (yZ (χ (Xs (ks:=[]) (π:=Öa) Ğh çp b rfl ϐm)) (yZ (χ (Xs (ks:=[Ña,Îa]) (π:=Ĳd) Ğh Że b rfl (νc (B4 3 Óp)))) (yZ (χ (Δd (y08 (wG vd) ϧk))) (μb (Δd đo)))))))))
abbrev Pr:Ú:=top 124
def Rc:zk [Âc,"_law_many",Ða,űh,"_law_turn"] ćl (zU Pr):=by ac_rfl
variable(Sb:uO P w K mg Ë Ğ űc ĥ 7 Ŀi)(SX:uO P w K mg Ë Ĩ űc ĥ 7 Ŀi)(VJ:Fg P w K mg Ë)
def be:HT:=λP w K mg Ë=>vI P w K mg Ë Ϥh ćl 8 (xH K XG)
def y4c(a:zR K Ϥh Pr):be P w K mg Ë:=(Çb).oM P w Ë 7 XG Rc vy λb=>(yZ (uW (i:=3) Rc.nd rfl à Í (Zc ϳb)) (yZ (ie Ϩa rfl (Z0 rfl uK į) (y05 (yu (i:=4) Rc.nd rfl à) rfl Í) (xc (y0a (yg 3) (y01 (y02 (VU (Kb (TX Sb b ϔ) (TX SX b ϔ)) (VU (kW (zj VJ b rfl (ν (Γ (zZ xT xS ĸa Æa))))) Ke))))))) (μb (iU 3))))
abbrev Vi:Ú:=top 125
def t8:zk įj [ġb] (zU Vi):=by ac_rfl
variable(Me:Fh P w K mg Ë)(Md:Fe P w K mg Ë)(IF:be P w K mg Ë)(HQ:bc P w K mg Ë)(HR:Ff P w K mg Ë)(HW:bi P w K mg Ë)(HU:bg P w K mg Ë)(Hr:cK P w K mg Ë)
def y48{f:Ì}{g:Ľ}(d:Fun K Þb Þb Vi f g):xN P w K mg Ë xJ 13 f g [ġb] Ĭj:=z99 d t8 Í vy y92 λh A e s H E a=>(yZ (y0b (wG (zj HQ a rfl (zB ý Ħb))) (y03 (Yh (n:=3) rfl (t7 (yu (i:=1) Āa rfl à) (t7 (yu (i:=2) Āa rfl à) (t7 (yu (i:=3) Āa rfl à) Yi)))) rfl rfl rfl Í Í Í)) (yZ (uW (i:=4) Āa rfl à Í (ιb (tU HR a rfl (Δa (zB ŗ èc))))) (yZ (uW (i:=5) Āa rfl à Í (ιb (tU HW a rfl Ϛo))) (yZ (uW (i:=6) Āa rfl à Í (ιb (tU HU a rfl Ϛo))) (yZ (uW (i:=7) Āa rfl à Í (wG Ľg)) (yZ (uW (i:=8) Āa rfl à Í (wG Æa)) (yZ (ψ (yQ y5r qh (zO Ĳi) ņb ĵ) (uW (i:=8) Āa rfl à Í (ιb (tU Hr a rfl Ďd)))) (yZ (uW (i:=9) Āa rfl à Í (iT (VU Üm (VU Ϛm (VU ϙm Ke))))) (yZ (uW (i:=10) Āa rfl à Í (iR Me a rfl (YX (wG Ĳi) (y09 9)))) (yZ (ψ (Θc ĥe (z7 9) (yx (wR (zB (z7 8) (zB Đa ϗo)) ėb))) ϻd) (yZ (uW (i:=11) Āa rfl à Í (iR Me a rfl (YX (wG Ĳi) (YX Üm (YX Ϛm (YX ϙm Kg)))))) (yZ (y0c (Yk (k:=0) Ęj)) (yZ (YY (Yk (k:=1) Ęj) zJ (wG (Ζ (zZ xT xS (zi Ϧn zh Đa zJ) zJ)))) (yZ (B5 (Yk (k:=2) Ęj) Ųo) (yZ (uW (i:=12) Āa rfl à Í Ŕk) (yZ (ig (i:=13) rfl Āa rfl rfl Ŧk rfl (t9 (z7 12)) Ŋj œl) (yZ (uW (i:=14) Āa rfl à Í (wG (Ζ Ľg))) (yZ (uW (i:=15) Āa rfl à Í ķj) (yZ (uW (i:=16) Āa rfl à Í Ŕk) (yZ (ig (i:=17) rfl Āa rfl rfl Ŧk rfl (t9 (z7 16)) Ŋj œl) (yZ (gc (Kb (TX OW a (yg 10)) (TX OS a (yg 10)))) (yZ (ψ (χa (Θc ĥe (z7 12) (z7 13)) (Q3 (Θc ĥe (z7 16) (z7 17)))) ϻd) (yZ (B5 (Yk (k:=0) (yg 12)) Ŝh) (yZ (B5 (Yk (k:=0) (yg 16)) Ŝh) (yZ (B5 (Yk (k:=1) (yg 16)) Ųo) (yZ (pH (y0f (jv ĥe) ju ķj Įn ĵ) (xc ϻd) pI) (μb (z9y źi xi (jp (KZ (οa (wR (Γ (zj VJ a rfl (zB (z7 11) (zB İd zM)))) Ϯe)) (jp (gb IF a rfl (pG (yg 11) (jo (z7 14) (jo İd jA))))))) Įn ĵ))))))))))))))))))))))))))))
#print a
#print a
def all_mk{l:Ĥi}{w:å}{K:Ð}{h:Heap}{a:Ç->Ê Value}(X:ř h)(G:Īa Ĕ a)(hfa:a Þb=À (.ref fa))(a0:zR K Ϝh Pj)(a1:zR K ϥi Ny)(a2:zR K ϣi RM)(a3:zR K öj RA)(a4:zR K Ŧh R4)(a5:zR K Ľh R5)(a6:zR K ϙh RT)(a7:zR K ři RG)(a8:zR K Æi RP)(a9:zR K Îi P6)(a10:zR K ċi RW)(a11:zR K Ìi Pg)(a12:zR K Ēi Pf)(a13:zR K Ďi RF)(a14:zR K ęh Pn)(a15:zR K ťh RN)(a16:zR K ŧh Pc)(a17:zR K Đi Pk)(a18:zR K ũh P5)(a19:zR K Êi R9)(a20:zR K ĕi P4)(a21:zR K Ūh N_)(a22:zR K ϝh Pa)(a23:zR K Či RU)(a24:zR K Éi RC)(a25:zR K Èi RD)(a26:LU K ō äm Nv Ñd)(S:jW K ŷf PM y)(a28:jW K Őf PC z)(a29:jW K őf PB C)(a30:zR K Ři RH)(a31:zR K ďi R3)(g:jW K ìc PQ c)(a33:zR K Ŝi Pl)(p:jW K Ćd P9 f)(F:jW K Ûe PH k)(a36:zR K ūh Nz)(a37:jW K ŏf PD I)(a38:jW K Ĵf PF L)(Y:jW K ĳf PN A)(U:jW K Ĕf PP N)(a41:zR K Şi PJ)(a42:zR K Ϥi R1)(a43:zR K ùh RB)(a44:zR K Ϛh R8)(a45:zR K ļh RS)(a46:zR K åh PY)(a47:zR K Ũh PZ)(a48:zR K Ĕi P7)(a49:zR K Ěh Pm)(a50:zR K ěh Pi)(a51:zR K ľh Pe)(a52:zR K ēi Pb)(a53:zR K Śi RE)(a54:zR K ŝi PR)(a55:zR K či RO)(a56:zR K Ŗi RQ)(a57:zR K şi P3)(a58:zR K Ťh RV)(a59:zR K Çi RI)(a60:zR K ϟh P0)(a61:zR K đi Ph)(a62:zR K Ĝh P8)(a63:zR K Ęh R7)(a64:zR K Íi PU)(a65:zR K Ļh RX)(a66:zR K ϛh R6)(a67:zR K Ϟh PX)(a68:zR K Ċi RZ)(a69:zR K ţh RY)(a70:kC K Ğ Ĩ řc æm Nq ĥ)(a71:kC K Ğ Ĩ űb Ęm Nl ĥ)(a72:kC K Ğ Ĩ űc Śm Nr ĥ)(a73:kC K Ğ Ĩ Îa ńl Np ĥ)(a74:kC K Ğ Ĩ Ŧc ėm Nm ĥ)(a75:kC K Ğ Ĩ Ña çm Nn ĥ)(a76:kC K Ğ Ĩ Êb Ėm No ĥ)(a77:kC K Ğ Ĩ ťc ĕm Nt ĥ)(a78:LK K ĸo ýa Ųl Nk şd)(a79:zR K øh RL)(a80:JL K Ğ ýl Nu Ŋb Æn Ůj)(a81:JL K Ĩ Ùl Nw Ŋb Èn Ϟj)(a82:zR K ĝh Pp)(a83:zR K ůh Pw)(a84:zR K Ϡh P_)(a85:zR K Ŭh R0)(a86:zR K ŭh Py)(a87:zR K Ůh Px)(a88:zR K Űh Pt)(a89:zR K Ïi Po)(a90:zR K Ųh Pq)(a91:zR K Ϣh Pu)(a92:zR K ϣh Ps)(a93:zR K ϡh Pv)(a94:zR K Ϥh Pr)(a95:ų K Ĕ Þb=À (À (.ref E)))(l95:ϓ E=MP Þb Vi oc95 T sl95 t x u r m q)(c95:Ĉb K m Þb=Ã)(k95:Õa K (.ref E)=Ã)(y2d:Gn K ĳc)(y2c:Gn K ċc)(y29:Gn K ĸe)(y2l:Gn K ŷ)(y2k:Gn K "sum")(y2m:Gn K ħa)(y2e:Gn K "len")(y2f:Gn K Ġ)(y2j:Gn K ĵb)(y2h:Gn K ńb)(y2a:Gn K ϕ)(y2g:Gn K Ýb)(y2b:Gn K ţb)(y28:Gn K "all")(y2i:Gn K õj)(V3:vY K ĳ ŋb)(kH:vY K ĳ Ċc)(JU:vY K ĳ Ùb)(JV:vY K ĳ Ác)(JW:vY K ĳ ŝb)(P:vY K [ō] áa)(Z:vY K ĳ Ĵa)(V4:vY K ĳ ϱ)(R:vY K [ō] Âb)(i:vY K [ō] ū)(y0y:Gs K "DEEDS" ßp)(y1d:Dc K w UL [(ϡa,x44,.ref y),(ϗa,x50,.ref z),(Đb,x59,.ref C),(ńa,x5g,.ref c),(Õb,x5l,.ref c),(Ûb,x5q,.ref c),(Ôb,x5u,.ref c),(Ĥa,x5y,.ref c),(ßb,x62,.ref f),(åb,x65,.ref f),(Üb,x4b,.ref f),(Ŀa,x4e,.ref k),(ϔa,x4h,.ref k),(ũa,x4k,.ref I),(ļa,x4n,.ref L),(Ļa,x4q,.ref A),(ĺa,x4t,.ref N)])(y0u:Gs K "BEYOND" (.int 4294967296 x3l))(y1a:Gs K şn (.int 32 x3r))(y0w:Gs K Ţn Ųf)(iz:Tq K Ä UK [.int 0 x7y,.int 8 x81,.int 16 x84,.int 24 x87])(y11:Gs K "JUMPS" űf)(i_:Tq K Ä UN [.str ϧ x7z,.str ϩ x82,.str Åa x85])(y0t:Gs K śm (.int 16 x3k))(y0v:Gs K ţn (.int 8 x3m))(y12:Gs K "MARKS" Űf)(l5:Tq K Ä Wg [.str ða x80,.str ĵa x83,.str ŧa x86])(y17:Gs K Ĕm Ýp)(y1f:Dc K w UO [(ϡa,x48,.int 16 x72),(ϗa,x54,.int 16 x7e),(Ŀa,x5d,.int 5 x7i),(ϔa,x5i,.int 5 x7k),(ũa,x5n,.int 8 x7m),(Ļa,x5s,.int 8 x7o),(ļa,x5w,.int 8 x7q),(ĺa,x60,.int 8 x7s)])(y16:Gs K ÿn (.int 0 x3p))(y18:Gs K "PLACES" Üp)(y1g:Dc K w UP [(şa,x49,.ref aK),("d",x55,.ref aW),("s",x5e,.ref ab),(Ðb,x5j,.ref ae),(Şb,x5o,.ref ah)])(y1i:Tp K aK [.int 27 x8j,.int 5 x8k])(y1u:Tp K aW [.int 24 x99,.int 3 x9b])(y1y:Tp K ab [.int 21 x9f,.int 3 x9h])(y20:Tp K ae [.int 24 x9j,.int 2 x9l])(y22:Tp K ah [.int 0 x9n,.int 5 x9p])(y10:Gs K "FIELDS" Þp)(y1e:Dc K w UM [(ϭf,x46,.ref aJ),(ϡa,x52,.ref aV),(ϗa,x5b,.ref aZ),(Đb,x5h,.ref ac),(ńa,x5m,.ref af),(Õb,x5r,.ref aj),(Ûb,x5v,.ref ak),(Ôb,x5z,.ref am),(ßb,x63,.ref ao),(åb,x66,.ref aq),(Üb,x4c,.ref aL),(Ĥa,x4f,.ref aM),(Ŀa,x4i,.ref aN),(ϔa,x4l,.ref aO),(ũa,x4o,.ref aP),(Ļa,x4r,.ref aQ),(ļa,x4u,.ref aR),(ĺa,x4w,.ref aS),(ϧ,x4x,.ref aT),(ϩ,x4y,.ref aU),(Åa,x56,.ref aX),(Ÿb,x57,.ref aY)])(y1h:Tp K aJ [.str Üg x8i])(y1t:Tp K aV [.str "d" x98,.str "n" x9a])(y1x:Tp K aZ [.str "d" x9e,.str "n" x9g])(y1z:Tp K ac [.str "d" x9i,.str "s" x9k])(y21:Tp K af [.str "d" x9m,.str "s" x9o])(y23:Tp K aj [.str "d" x9q,.str "s" x9r])(y24:Tp K ak [.str "d" x9s,.str "s" x9t])(y25:Tp K am [.str "d" x9u,.str "s" x9v])(y26:Tp K ao [.str "d" x9w,.str "s" x9x])(y27:Tp K aq [.str "d" x9y,.str "s" x9z])(y1j:Tp K aL [.str "d" x8l,.str "s" x8m])(y1k:Tp K aM [.str "d" x8n,.str "s" x8o])(y1l:Tp K aN [.str "d" x8p,.str "n" x8q])(y1m:Tp K aO [.str "d" x8r,.str "n" x8s])(y1n:Tp K aP [.str "d" x8t,.str "s" x8u,.str "n" x8v])(y1o:Tp K aQ [.str "d" x8w,.str "s" x8x,.str "n" x8y])(y1p:Tp K aR [.str "d" x8z,.str "s" x90,.str "n" x91])(y1q:Tp K aS [.str "d" x92,.str "s" x93,.str "n" x94])(y1r:Tp K aT [.str Üg x95])(y1s:Tp K aU [.str Ðb x96,.str Üg x97])(y1v:Tp K aX [.str Ðb x9c,.str Üg x9d])(y1w:Tp K aY [])(y0x:Gs K "CODES" Ûp)(Kp:Dc K w X7 [(Ÿb,x43,.int 0 x6z),(ϡa,x4z,.int 1 x7b),(ϗa,x58,.int 2 x7f),(Đb,x5f,.int 3 x7j),(ńa,x5k,.int 4 x7l),(Õb,x5p,.int 5 x7n),(Ûb,x5t,.int 6 x7p),(Ôb,x5x,.int 7 x7r),(ßb,x61,.int 8 x7t),(åb,x64,.int 9 x7u),(Üb,x4a,.int 10 x73),(Ĥa,x4d,.int 11 x74),(Ŀa,x4g,.int 12 x75),(ϔa,x4j,.int 13 x76),(ũa,x4m,.int 14 x77),(Ļa,x4p,.int 15 x78),(ļa,x4s,.int 16 x79),(ĺa,x4v,.int 17 x7a)])(y14:Gs K Ān Ùp)(Kr:Dc K w X9 [(ϧ,x47,.int 18 x71),(ϩ,x53,.int 19 x7d),(Åa,x5c,.int 20 x7h)])(y0z:Gs K šn Úp)(Kq:Dc K w X8 [(ϧ,x45,.int 21 x70),(ϩ,x51,.int 22 x7c),(Åa,x5a,.int 23 x7g)])(y15:Gs K ķo (.int 15 x3o))(y13:Gs K Šn (.int 16 x3n))(y19:Gs K åm (.int 8 x3q)): ∃fd:Ľ,(∀(s:Ï)(v:Value),Ďb s fd {[v],[]} [(ġb,v)])/\∀Ë:Heap,ř Ë->Ĭd Ĕ a->xN Ķ w K a Ë xJ 13 fa fd [ġb] Ĭj:=by
 let e:=hfa.symm.trans (ýc X G a95);cases e;let Zq:=pC X G y2d;let A3:=pC X G y2c;let S_:=pC X G y29;let Yq:=pC X G y2l;let A6:=pC X G y2k;let Yr:=pC X G y2m;let j:=pC X G y2e;let B:=pC X G y2f;let Og:=pC X G y2j;let o:=pC X G y2h;let WJ:=pC X G y2a;let A4:=pC X G y2g;let Vq:=pC X G y2b;let Sz:=pC X G y28;let A5:=pC X G y2i;let MR:=ZT X G y0y;let MD:XQ K w a UL pA dt:=z3m (fs:=[y,z,C,c,c,c,c,c,f,f,f,k,k,I,L,A,N]) y1d rfl ŉ rfl (.cons (S.n X G) (.cons (a28.n X G) (.cons (a29.n X G) (.cons ñe (.cons ñe (.cons ñe (.cons ñe (.cons ñe (.cons Ŋi (.cons Ŋi (.cons Ŋi (.cons Ïp (.cons Ïp (.cons (a37.n X G) (.cons (a38.n X G) (.cons (Y.n X G) (.cons (U.n X G) .nil)))))))))))))))));let T9:=Xi X G y0u;let Ti:∀H,za K H ϛc ϛc:=λ_=>rfl
 let gW:=Xi X G y1a;let gg:∀H,za K H Ļc Ļc:=λ_=>rfl
 let Jv:=ZT X G y0w;let w11:=SL iz;let Iw:∀H,za K H TF Ųf:=D3 iz rfl;let GX:=ZT X G y11;let w12:=SL i_;let NG:∀H,za K H MX űf:=D3 i_ rfl;let Jt:=Xi X G y0t;let Iu:∀H,za K H ĝa ĝa:=λ_=>rfl
 let Ju:=Xi X G y0v;let Iv:∀H,za K H ía ía:=λ_=>rfl
 let ZS:=ZT X G y12;let Hz:=SL l5;let Zh:∀H,za K H kN Űf:=D3 l5 rfl;let Gc:=ZT X G y17;let NL:tz K w UO Gh Gk:=ME y1f rfl ŉ rfl;let Gb:=Xi X G y16;let NJ:∀H,za K H ľ ľ:=λ_=>rfl
 let O:=ZT X G y18;let Q:tz K w UP u_ t4:=dg y1g rfl ŉ rfl λH=>{_,_,rfl,ve y1i rfl H,{_,_,rfl,ve y1u rfl H,{_,_,rfl,ve y1y rfl H,{_,_,rfl,ve y20 rfl H,{_,_,rfl,ve y22 rfl H,rfl}}}}}
 let GW:=ZT X G y10;let NE:tz K w UM Gg Gj:=dg y1e rfl ŉ rfl λH=>{_,_,rfl,ve y1h rfl H,{_,_,rfl,ve y1t rfl H,{_,_,rfl,ve y1x rfl H,{_,_,rfl,ve y1z rfl H,{_,_,rfl,ve y21 rfl H,{_,_,rfl,ve y23 rfl H,{_,_,rfl,ve y24 rfl H,{_,_,rfl,ve y25 rfl H,{_,_,rfl,ve y26 rfl H,{_,_,rfl,ve y27 rfl H,{_,_,rfl,ve y1j rfl H,{_,_,rfl,ve y1k rfl H,{_,_,rfl,ve y1l rfl H,{_,_,rfl,ve y1m rfl H,{_,_,rfl,ve y1n rfl H,{_,_,rfl,ve y1o rfl H,{_,_,rfl,ve y1p rfl H,{_,_,rfl,ve y1q rfl H,{_,_,rfl,ve y1r rfl H,{_,_,rfl,ve y1s rfl H,{_,_,rfl,ve y1v rfl H,{_,_,rfl,ve y1w rfl H,rfl}}}}}}}}}}}}}}}}}}}}}}
 let TB:=ZT X G y0x;let GB:jX K w X7 kM MY:=Eu (ds:=kO) Kp rfl ŉ rfl;let y8v:∀H,â K H kO MY:=Ev Kp rfl;let Ix:tz K w X7 kM kO:=ME Kp rfl ŉ rfl;let Xh:=ZT X G y14;let Jk:jX K w X9 YK Ma:=Eu (ds:=ZV) Kr rfl ŉ rfl;let NY:∀H,â K H ZV Ma:=Ev Kr rfl;let Iz:tz K w X9 YK ZV:=ME Kr rfl ŉ rfl;let Xg:=ZT X G y0z;let Jj:jX K w X8 YJ MZ:=Eu (ds:=ZU) Kq rfl ŉ rfl;let NX:∀H,â K H ZU MZ:=Ev Kq rfl;let Iy:tz K w X8 YJ ZU:=ME Kq rfl ŉ rfl;let GZ:=Xi X G y15;let NI:∀H,za K H ŕc ŕc:=λ_=>rfl
 let GY:=Xi X G y13;let NH:∀H,za K H ĝa ĝa:=λ_=>rfl
 let MU:=Xi X G y19;let BL:∀H,za K H ía ía:=λ_=>rfl
 let F95:=eZ (st:=Vi) l95 c95 k95;show{Ñb Þb Þb (p9 Vi) (vZ Vi) (zU Vi) .none t x u r m q,λs v=>.of_eq rfl,λbase _ _=>?_};let VI:Fa Ķ w K a Ë:=y42 X G Zq A3 S_ a0;let Mb:FJ Ķ w K a Ë:=y33 X G T9 Ti a1;let Hk:Fp Ķ w K a Ë:=y59 X G T9 Ti a2;let J:Fm Ķ w K a Ë:=y4x X G a3;let HY:=y4q X G gW gg J a4;let HZ:=y4r X G J a5;let IM:Fu Ķ w K a Ë:=y5f X G a6;let II:Fo Ķ w K a Ë:=y54 X G a7;let IK:Fq Ķ w K a Ë:=y5c X G a8;let Gq:=y3b X G J Yq Jv Iw a9;let Hn:Fv Ķ w K a Ë:=y5i X G Jv Iw A6 Yr a10;let ID:FX Ķ w K a Ë:=y3z X G a11;let HI:FW Ķ w K a Ë:=y3y X G GX NG a12;let YN:=y53 X G ID a13;let HN:=y47 X G ID a14;let IJ:=y5a X G HN YN HI a15;let HG:=y3w X G Jt Iu VI a16;let HK:=y43 X G Zq Yq VI j Ju Iv HG a17;let Gp:=y3a X G Zq B HK a18;let He:Fk Ķ w K a Ë:=y4w X G Og a19;let Jy:FN Ķ w K a Ë:=y39 X G a20;let Jx:=y35 X G J Jt Iu a21;let IC:=y3u X G o Jx a22;let Hl:=y5g X G Hn IC Jy a23;let IH:=y4z X G J Ju Iv a24;let Hf:=y50 X G Yr IC IH Gq a25;let H_:=a26.hh X G Ķ w Ë (y31 B WJ ZS Zh i R P);let Gz:FQ Ķ w K a Ë:=y3l X G i S.2;let Gv:=y3g X G i IM a28.2;let Gu:FP Ķ w K a Ë:=y3f X G i a29.2;let Hh:=y56 X G Mb Hk a30;let VL:=y4o X G gW gg J R a31;let VH:=y3o X G i R VL Hh g.2;let HL:Fb Ķ w K a Ë:=y45 X G a33;let IA:=y3e X G i VL HL p.2;let Mc:=y3j X G i R VL HY HZ F.2;let YL:=y34 X G Jx i a36;let Gw:=y3h X G Jy i P YL a37.2;let Gx:=y3i X G i P YL Hl a38.2;let G_:=y3m X G IH i P YL Y.2;let HA:=y3n X G i P YL Hf U.2;let Gy:=y3k X G MR MD Gz Gv Gu VH IA Mc Gw Gx G_ HA a41;let HX:Fj Ķ w K a Ë:=y4m X G R a42;let IG:Fn Ķ w K a Ë:=y4y X G Gc NL Gb NJ O Q a43;let VM:=y4v X G J a44;let Xl:=y5e X G IM a45;let IB:FU Ķ w K a Ë:=y3s X G GW NE a46;let YM:=y3t X G Yr ZS Zh O Q Hz Xl IB IG a47;let Jz:=y3c X G O Q VM a48;let HM:Fc Ķ w K a Ë:=y46 X G TB Ix Xh Iz Xg Iy GB Jk Jj a49;let IE:FZ Ķ w K a Ë:=y41 X G B Xh Jk NY a50;let HH:FV Ķ w K a Ë:=y3x X G B Xg Jj NX a51;let HF:=y3v X G j ZS Zh IG VM a52;let Hg:=y52 X G Yq O Q Xl IB Jz HM HF IE YM a53;let HB:=y3p X G gW gg j II a54;let Mg:=y5b X G j O Q VM Jz IE II Hg HH HB a55;let IL:=y5d X G Mg a56;let Go:FK Ķ w K a Ë:=y38 X G A4 a57;let Hm:=y5h X G j IL Go a58;let Hi:=y57 X G IL Hm a59;let Gm:=y36 X G YN j o WJ a60;let HJ:FY Ķ w K a Ë:=y40 X G GZ NI GY NH a61;let J_:=y3d X G Vq Gm IJ a62;let Mf:=y4u X G j o WJ J_ HJ a63;let HC:=y3q X G Og Mf a64;let Ho:=y5j X G TB Ix YM a65;let Hc:=y4t X G O Q Xl Xh Iz YM IK a66;let HE:=y3r X G gW gg Xg Iy YM IK a67;let Hr:=y5l X G YN Vq J_ HC Ho HE Hc a68;let Hq:=y5k X G Zq gW gg VI j B Sz MU BL a69;let{OZ,OV}:=a70.hh Ķ w a Ë (y2x kH V4 JU);let{OW,OS}:=a71.hh Ķ w a Ë (y2s kH Z JV JW V3 H_);let{Sb,SX}:=a72.hh Ķ w a Ë (y2y kH V4 Z V3 OZ OV Gy HX);let{OY,OU}:=a73.hh Ķ w a Ë (y2w B i Z);let{SZ,SU}:=a74.hh Ķ w a Ë (y2t Yq ZS Zh R Z);let{OX,OT}:=a75.hh Ķ w a Ë (y2u P Z He);let{Sa,SV}:=a76.hh Ķ w a Ë (y2v kH);let{Sc,SY}:=a77.hh Ķ w a Ë (y2z V3);let Ob:=a78.hh X G Ķ w Ë (y2r V4 JU JV JW OW OS Hq Gp);let Hj:=y58 X G YN Vq IJ a79;let d:=a80.hh X G Ķ w Ë (y30 j Ob Hj);let b:=a81.hh X G Ķ w Ë (y32 j Ob Hi);let ZW:Fd Ķ w K a Ë:=y4a X G j a82;let uS:Fi Ķ w K a Ë:=y4h X G a83;let HV:=y4k X G uS a84;let HW:=y4l X G o HV a85;let HU:=y4j X G o uS a86;let HS:=y4i X G o uS a87;let HR:Ff Ķ w K a Ë:=y4e X G Yr j o a88;let HP:=y49 X G uS a89;let HQ:=y4b X G o uS ZW HS HP a90;let VJ:Fg Ķ w K a Ë:=y4f X G o OZ OV A5 OY SZ OX Sa Sc OU SU OT SV SY a91;let Md:Fe Ķ w K a Ë:=y4d X G OY OX OU OT a92;let Me:Fh Ķ w K a Ë:=y4g X G d b a93;let IF:=y4c X G o Sb SX VJ a94;show y48 B OW OS ZW VJ Me Md IF HQ HR HW HU Hr F95
def walk{l:Ĥi}{q:ë}{b:Á Ç}{m:ñh->Heap->È}{g:å->Heap->È}{d:DefRec}{K:ìg->Ð}(o:Āj=À 63)(e:ϳl=[])(p:∀(w:å)(h:Heap),g w h->(İb).In h)(F:∀(w:å)(c:Ç->Ê Value)(i:Ì)(h:Heap),(İb).In h->Īa Ĕ c->c d.name=À (.ref i)->
   ∃fd:Ľ,(∀(s:Ï)(u:Value),Ďb s fd {[u],[]} [(ġb,u)])/\∀Ë:Heap,(İb).In Ë->Ĭd Ĕ c->xN Ķ w İb c Ë xJ 13 i fd [ġb] (OF İb)) :
  W.WalkO q b m g ŵh d [] Ϝk:=
 L3.walkB (n:=63) (k:=13) (x := ġb) (sp:=OF) o Í e {rfl,by decide,by decide,rfl} p F λ_ _ a j v r t=>{a,j,rfl,t,v,r,λ_=>rfl}
#print My
end
open Lean in
local macro_rules|`(universe $x)=>return rb0 (fb0 .missing) (mkNullNode (<-(("tree_249 sts_236 sts_252 heap_904 tree_641 sts_246 sts_852 o_58 tree_465 tree_85 tree_318 tree_728 sts_729 sts_769 tree_115 tree_159 o_51 tree_498 o_63 sts_499 tree_70 tree_208 sts_209 heap_39 sts_492 sts_321 o_60 o_54 o_57 tree_243 sts_466 o_49 sts_591 tree_851 tree_590 sts_642 tree_372 sts_160 o_61 tree_489 sts_373 o_59 tree_768 o_56 view_39 tree_100 tree_233 o_55 o_53 tree_903 sts_116".splitOn).toArray++(Array.range' 64 840).map (s!"o_{·}")).mapM λi=>`(def $(mkIdent (.mkSimple s!"tw{(Name.str x.getId i).hash}")):ident:=Nat)))
namespace PySem.W.Fast
universe PySem.Challenge.cw_markrun_k40_held_and_again_holds
def tw2270727483250312806:=Nat
end PySem.W.Fast
open PySem PySem.W PyProof.Rows
set_option maxRecDepth 100000 in
set_option maxHeartbeats 0 in
theorem PySem.Challenge.cw_markrun_k40_held_and_again_holds : PySem.Challenge.rw_markrun_k40_held_and_again.Holds := by
 w_on;o_law;k_head;(case hw=>w_witness2)
 k_fill
 refine My.walk (l:=PySem.Challenge.rw_markrun_k40_held_and_again) rfl rfl (λw h Y=>PySem.W.kIn_of Y) ?F
 case F=>
  intro w d e h c G b;refine' My.all_mk c G b ?a0 ?a1 ?a2 ?a3 ?a4 ?a5 ?a6 ?a7 ?a8 ?a9 ?a10 ?a11 ?a12 ?a13 ?a14 ?a15 ?a16 ?a17 ?a18 ?a19 ?a20 ?a21 ?a22 ?a23 ?a24 ?a25 ?a26 ?a27 ?a28 ?a29 ?a30 ?a31 ?a32 ?a33 ?a34 ?a35 ?a36 ?a37 ?a38 ?a39 ?a40 ?a41 ?a42 ?a43 ?a44 ?a45 ?a46 ?a47 ?a48 ?a49 ?a50 ?a51 ?a52 ?a53 ?a54 ?a55 ?a56 ?a57 ?a58 ?a59 ?a60 ?a61 ?a62 ?a63 ?a64 ?a65 ?a66 ?a67 ?a68 ?a69 ?a70 ?a71 ?a72 ?a73 ?a74 ?a75 ?a76 ?a77 ?a78 ?a79 ?a80 ?a81 ?a82 ?a83 ?a84 ?a85 ?a86 ?a87 ?a88 ?a89 ?a90 ?a91 ?a92 ?a93 ?a94 ?a95 ?l95 ?c95 ?k95 ?a200 ?a201 ?a202 ?a203 ?a204 ?a205 ?a206 ?a207 ?a208 ?a209 ?a210 ?a211 ?a212 ?a213 ?a214 ?a215 ?a216 ?a217 ?a218 ?a219 ?a220 ?a221 ?a222 ?a223 ?a224 ?a225 ?a226 ?a227 ?a228 ?a229 ?a230 ?a231 ?a232 ?a233 ?a234 ?a235 ?a236 ?a237 ?a238 ?a239 ?a240 ?a241 ?a242 ?a243 ?a244 ?a245 ?a246 ?a247 ?a248 ?a249 ?a250 ?a251 ?a252 ?a253 ?a254 ?a255 ?a256 ?a257 ?a258 ?a259 ?a260 ?a261 ?a262 ?a263 ?a264 ?a265 ?a266 ?a267 ?a268 ?a269 ?a270 ?a271 ?a272 ?a273 ?a274 ?a275 ?a276 ?a277 ?a278 ?a279
  all_goals try first|exact L3.fnp_mk (by k_is) (by k_is) (by k_is) (by k_is)|exact L3.gn_mk (by k_is)|exact L3.gs_mk (by k_is)|exact L3.dc_mk (by simp only[List.map_cons,List.map_nil];k_is) (by decide)|exact L3.tp_mk (by k_is)|exact L3.tq_mk (by k_is)|exact L3.fnq_mk (by k_is) (by k_is) (by k_is) (by k_is)|exact L3.mtp_mk (L3.mtc_mk (by k_is) (L3.cls_mk (by k_is) (by k_is) (by k_is) (by k_is)) (by k_is)) (L3.mtc_mk (by k_is) (L3.cls_mk (by k_is) (by k_is) (by k_is) (by k_is)) (by k_is)) (L3.mdp_mk (by k_is) (by k_is) (by k_is) (by k_is) (by first|exact .all (L3.us1 λ_=>rfl)|exact .all (L3.us2 λ_ _=>rfl)|exact .all (L3.us3 λ_ _ _=>rfl)|exact .all (L3.us4 λ_ _ _ _=>rfl)|exact .all (L3.us5 λ_ _ _ _ _=>rfl)|(refine L3.bd2 λ_ _ _ a=>?_;apply PySem.W.binds_K a rfl;k_is;all_goals rfl)|(refine L3.bd4 λ_ _ _ _ _ a=>?_;apply PySem.W.binds_K a rfl;k_is;all_goals rfl)))|exact L3.mkp_mk (by k_is) (by k_is) (by k_is) (by k_is) (L3.mdp_mk (by k_is) (by k_is) (by k_is) (by k_is) (by first|exact .all (L3.us1 λ_=>rfl)|exact .all (L3.us2 λ_ _=>rfl)|exact .all (L3.us3 λ_ _ _=>rfl)|exact .all (L3.us4 λ_ _ _ _=>rfl)|exact .all (L3.us5 λ_ _ _ _ _=>rfl)|(refine L3.bd2 λ_ _ _ a=>?_;apply PySem.W.binds_K a rfl;k_is;all_goals rfl)|(refine L3.bd4 λ_ _ _ _ _ a=>?_;apply PySem.W.binds_K a rfl;k_is;all_goals rfl)))|exact L3.cmp_mk (by k_is) (by k_is) (by k_is) (by k_is) (L3.mdp_mk (by k_is) (by k_is) (by k_is) (by k_is) (by first|exact .all (L3.us1 λ_=>rfl)|exact .all (L3.us2 λ_ _=>rfl)|exact .all (L3.us3 λ_ _ _=>rfl)|exact .all (L3.us4 λ_ _ _ _=>rfl)|exact .all (L3.us5 λ_ _ _ _ _=>rfl)|(refine L3.bd2 λ_ _ _ a=>?_;apply PySem.W.binds_K a rfl;k_is;all_goals rfl)|(refine L3.bd4 λ_ _ _ _ _ a=>?_;apply PySem.W.binds_K a rfl;k_is;all_goals rfl)))|exact L3.fldk_cons (by k_is) (L3.cls_mk (by k_is) (by k_is) (by k_is) (by k_is)) (by k_is) L3.fldk_nil|exact L3.fldk_cons (by k_is) (L3.cls_mk (by k_is) (by k_is) (by k_is) (by k_is)) (by k_is) (L3.fldk_cons (by k_is) (L3.cls_mk (by k_is) (by k_is) (by k_is) (by k_is)) (by k_is) L3.fldk_nil)|exact L3.mkd_mk (by k_is) (by k_is) (by k_is) (by k_is) (by k_is) (by k_is) (by k_is) (by k_is) (by(refine L3.bd3 λ_ _ _ _ a=>?_;apply PySem.W.binds_K a rfl;k_is;all_goals rfl))|exact L3.mtd_mk (L3.mtc_mk (by k_is) (L3.cls_mk (by k_is) (by k_is) (by k_is) (by k_is)) (by k_is)) (L3.mtc_mk (by k_is) (L3.cls_mk (by k_is) (by k_is) (by k_is) (by k_is)) (by k_is)) (by k_is) (by k_is) (by k_is) (by k_is) (by(refine L3.bd2 λ_ _ _ a=>?_;apply PySem.W.binds_K a rfl;k_is;all_goals rfl)) (by(apply Exists.intro;apply L3.bd1;intro _ _ a;apply PySem.W.binds_K a rfl;k_is;all_goals rfl))|exact L3.mkf_mk (by k_is) (by k_is) (by k_is) (by k_is) (by k_is) (by k_is) (by k_is) (by k_is) (by repeat' first|exact L3.fa_nil|(refine L3.kb10 λ_ _ _ a=>?_;apply PySem.W.binds_K a rfl;k_is;all_goals rfl)|(refine L3.kb11 λ_ _ _ _ a=>?_;apply PySem.W.binds_K a rfl;k_is;all_goals rfl)|(refine L3.kb12 λ_ _ _ _ _ a=>?_;apply PySem.W.binds_K a rfl;k_is;all_goals rfl)|(refine L3.kb30 λ_ _ _ _ _ a=>?_;apply PySem.W.binds_K a rfl;k_is;all_goals rfl)|refine L3.fa_cons ?_ ?_)
  all_goals try (first|k_is|k_exc|kit_is|kts_exm)
  all_goals decide
