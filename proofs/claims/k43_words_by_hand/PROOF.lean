import PyProof.Rows.All
import Wide.All
import OpenK.AllK
import Wide.FinOn
import Lean
import PyProof.EqAt
import PyProof.EqKinds
import PyProof.TupleCall
import PySem.Challenge.RW_markrun_k43_words_by_hand
set_option Elab.async false
set_option linter.all false
set_option maxRecDepth 100000
set_option genSizeOf false
set_option genInjectivity false
set_option compiler.extract_closed false
set_option bootstrap.genMatcherCode false
section
open Lean
def rb0(f:Syntax→Syntax)(s:Syntax):Syntax:=s.rewriteBottomUp f
def ix0(b w:Nat)(s:Syntax):Nat:=match s with
 |.ident _ _ (.str .anonymous x) _=>
  let n:=x.front.toNat
  let n:=if b=192&&970≤n then n-586 else n
  if n<b||b+w≤n||2<x.length then 99999 else 2*(if x.length=1 then n-b else n-b+w*(x.back.toNat-96))
 |_=>99999
def wr0(k:Name)(x:Array Syntax):Syntax:=.node .none ``Parser.Tactic.rcasesPatLo #[.node .none ``Parser.Tactic.rcasesPatMed #[mkNullNode #[.node .none k x]],mkNullNode]
def pt0(s:Syntax):Syntax:=rb0 (λs=>if s.isIdent then wr0 ``Parser.Tactic.rcasesPat.one #[s]else if s.isOfKind ``Parser.Term.hole then wr0 ``Parser.Tactic.rcasesPat.ignore #[s[0]]else if s.isOfKind ``Parser.Term.anonymousCtor then wr0 ``Parser.Tactic.rcasesPat.tuple s.getArgs else s) s
def hs0:Nat→Syntax→Bool
 |0,_=>false
 |n+1,s=>!s.isOfKind ``Parser.Term.byTactic&&(s.isOfKind ``Parser.Term.syntheticHole||s.getArgs.any (hs0 n))
def fs0(s:Syntax):Syntax:=match s with
 |.node _ k a=>if k==`«term{_}» then .node .none ``Parser.Term.anonymousCtor #[mkAtom "⟨",a[1]!,mkAtom "⟩"]
  else if k==choiceKind then (a.find? (·.isOfKind ``Parser.Term.anonymousCtor)).getD s
  else if k==``Parser.Tactic.tacticLet__ then
   let p:=s[2][0][0]
   if p.isOfKind ``Parser.Term.anonymousCtor then .node .none ``Parser.Tactic.obtain #[mkAtom "obtain",mkNullNode #[(pt0 p)[0]],mkNullNode,mkNullNode #[mkAtom ":=",mkNullNode #[s[2][0][4]]]]
   else if s[1][0].getNumArgs=0 then .node .none ``Parser.Tactic.tacticHave__ (a.set! 0 (mkAtom "have"))
   else s.setArg 1 (.node .none ``Parser.Term.letConfig #[mkNullNode])
  else if k==``Parser.Tactic.show then if hs0 99 s then .node .none ``Parser.Tactic.refine #[mkAtom "refine",s[1]]else .node .none ``Parser.Tactic.exact #[mkAtom "exact",s[1]]
  else if k==``Parser.Tactic.exact then .node .none ``Parser.Tactic.show #[mkAtom "show",s[1]]
  else if k==``Parser.Command.declModifiers then if s[6][0].isOfKind ``Parser.Command.nonrec then (s.setArg 4 (mkNullNode #[.node .none ``Parser.Command.noncomputable #[mkAtom "noncomputable"]])).setArg 6 mkNullNode else s
  else s
 |_=>s
def tq0(s:Syntax):Bool:=s.isOfKind ``Parser.Tactic.rwSeq&&s[2][1][0][1].isOfKind ``Parser.Term.paren&&s[2][1][0][1][1].isOfKind ``Parser.Term.byTactic
def fb0(t s:Syntax):Syntax:=match s with
 |.atom _ v=>.atom .none v
 |.ident ..=>let u:=t[1][0][1][ix0 192 242 s]
  if u.isMissing||u.isOfKind numLitKind then s.setInfo .none else u
 |.node _ k a=>if k==``Parser.Term.app then
   let u:=t[1][2][0][1][ix0 913 57 s[0]]
   if u.isMissing||u.isOfKind numLitKind then s else rb0 (λx=>let y:=s[1][ix0 7936 8 x/2]
    if y.isMissing then x else y) u
  else if k==nullKind then
   let l:=s[0][2][1][1][0][0][0][4][1]
   if l.isMissing then (if a.any tq0 then mkNullNode (a.flatMap λc=>if tq0 c then c[2][1][0][1][1][1][0][0].getArgs else #[c]) else s) else mkNullNode (l.getArgs++a.extract 1 a.size)
  else if k==``Parser.Command.print then .node .none ``Parser.Command.end #[mkAtom "end",mkNullNode (if s[1].getId==`a then #[]else #[s[1],mkNullNode])]else .node .none k a
 |_=>s
def cs0(u w s:Syntax):Syntax:=if s.isOfKind ``Parser.Tactic.cases&&s[1].getNumArgs=1&&s[1][0][0].getNumArgs+s[2].getNumArgs+s[3].getNumArgs=0&&!s[1][0][1][1].isOfKind ``Parser.Term.paren then
  let h:=s[1][0][1]
  rb0 (λx=>if x.getId==`ἀ then h else x) (if h.isIdent then u else w)
 else s
def oc0(t s:Syntax):Syntax:=
 let v:Nat→Syntax:=λi=>t[1][2][2][1][i][1][1][0][0][0]
 if s.isOfKind ``Parser.Tactic.omega then (if s[1][0].getNumArgs=0 then v 0 else s)
 else if s.isOfKind ``Parser.Tactic.cases then
  let f:Nat→Syntax:=λi=>rb0 (cs0 (v 6) s) (v i)
  cs0 (f 2) (f 4) s
 else s
end
open Lean in
local macro_rules(kind:=Lean.Parser.Command.mutual)|s=>do
 let c:=s[1][0]
 unless c.isOfKind ``Parser.Command.check do Macro.throwUnsupported
 let g:Syntax→Syntax:=λt=>rb0 (fb0 t) t
 let t:=g (g (g (g (g (g c[1])))))
 return rb0 (oc0 t) (rb0 fs0 (rb0 (fb0 t) (s[1].setArg 0 mkNullNode)))
mutual
#check([some,List,Int,false,Nat,true,none,Str,Prop,(by omega),Option,base,(by decide),Addr,autoParam,Bool,W.Frag,Shared,if_pos,Expr,if_neg,rows,X.env,0,PySem.wpAny_bind,Stmt,(by simp only[_root_.L3.yP,_root_.L3.zZ,_root_.L3.yH,_root_.L3.qh,_root_.L3.yE,_root_.L3.qG,_root_.L3.ZK,_root_.L3.xB,_root_.L3.xS,_root_.L3.ZJ,_root_.L3.Vt,_root_.L3.qF,_root_.L3.j_,_root_.L3.e1,_root_.L3.e2,_root_.L3.eL,_root_.L3.eC,_root_.L3.z6,_root_.L3.Y4,_root_.L3.zA,_root_.L3.zG,_root_.L3.tE,_root_.L3.Y0,_root_.L3.LI,_root_.L3.YV,_root_.L3.ZP,_root_.L3.Z1,_root_.L3.VJ,_root_.L3.Tx,_root_.L3.tq,_root_.L3.xr,_root_.L3.yc,_root_.L3.XW,_root_.L3.OG,_root_.L3.fB,_root_.L3.jn.sel,_root_.L3.fI,_root_.L3.q_,_root_.L3.vV,_root_.L3.ve,_root_.L3.Q1,_root_.L3.yZ,_root_.L3.jQ,_root_.L3.uk,_root_.L3.Q2,_root_.L3.qz,_root_.L3.Y6,_root_.L3.vH,_root_.L3.XZ,_root_.L3.VL,_root_.L3.VM,_root_.L3.Vc,_root_.L3.yB,_root_.L3.jw,_root_.L3.tz,_root_.L3.zg,_root_.L3.uj,_root_.L3.wU,Option.bind_some,Option.bind_none,List.getElem?_cons_zero,List.getElem?_cons_succ,List.set_cons_zero,List.set_cons_succ,List.map,List.cons_append,List.nil_append,List.length_cons,List.length_nil,List.replicate_zero,List.replicate_succ,Bool.not_true,Bool.not_false,decide_true,decide_false,Bool.and_self,Bool.and_true,Bool.true_and,Nat.reduceAdd,Nat.reduceSub,Int.reduceLT,Int.reduceLE,Int.reducePow,Int.reduceToNat,Int.reduceAdd,Int.reduceSub,Int.reduceMul,Int.reduceNeg]),wpAny,(Or.inl rfl),"WordMachine",s.heap.objs.size,absurd,s.heap,Reps,rows.length,sizeLine,xs.length,decide_eq_true,List.length_map,(.bl Ã),World,(by simp),False,(z6 0),heap,(Ï×D),(Í×Obj),Program,[a,b],X.mg,X.prog,(Â×Â),X.N.length,(i+1),vs.length,0,Bool.and_eq_true,(model X.prog X.w),cons,(eC (.int 0)),ps.length,(by simp only[_root_.L3.yP,_root_.L3.zZ,_root_.L3.yH,_root_.L3.qh,_root_.L3.yE,_root_.L3.qG,_root_.L3.ZK,_root_.L3.xB,_root_.L3.xS,_root_.L3.ZJ,_root_.L3.Vt,_root_.L3.qF,_root_.L3.j_,_root_.L3.e1,_root_.L3.e2,_root_.L3.eL,_root_.L3.eC,_root_.L3.z6,_root_.L3.Y4,_root_.L3.zA,_root_.L3.zG,_root_.L3.tE,_root_.L3.Y0,_root_.L3.LI,_root_.L3.YV,_root_.L3.ZP,_root_.L3.Z1,_root_.L3.VJ,_root_.L3.Tx,_root_.L3.tq,_root_.L3.xr,_root_.L3.yc,_root_.L3.XW,_root_.L3.OG,_root_.L3.fB,_root_.L3.jn.sel,_root_.L3.fI,_root_.L3.q_,_root_.L3.vV,_root_.L3.ve,_root_.L3.Q1,_root_.L3.yZ,_root_.L3.jQ,_root_.L3.uk,_root_.L3.Q2,_root_.L3.qz,_root_.L3.Y6,_root_.L3.vH,_root_.L3.XZ,_root_.L3.VL,_root_.L3.VM,_root_.L3.Vc,_root_.L3.yB,_root_.L3.jw,_root_.L3.tz,_root_.L3.zg,_root_.L3.uj,_root_.L3.wU,Option.bind_some,Option.bind_none,List.getElem?_cons_zero,List.getElem?_cons_succ,List.set_cons_zero,List.set_cons_succ,List.map,List.cons_append,List.nil_append,List.length_cons,List.length_nil,List.replicate_zero,List.replicate_succ,Bool.not_true,Bool.not_false,decide_true,decide_false,Bool.and_self,Bool.and_true,Bool.true_and,Nat.reduceAdd,Nat.reduceSub,Int.reduceLT,Int.reduceLE,Int.reducePow,Int.reduceToNat,Int.reduceAdd,Int.reduceSub,Int.reduceMul,Int.reduceNeg,_root_.L3.yO,_root_.L3.vg,_root_.L3.t_,_root_.L3.jW,_root_.L3.qY,_root_.L3.wx,_root_.L3.yt,_root_.L3.wv,_root_.L3.jr,_root_.L3.Tt,_root_.L3.Tr,_root_.L3.vq,_root_.L3.NE,_root_.L3.To,_root_.L3.uG,_root_.L3.qb,_root_.L3.putAt,_root_.L3.lA,_root_.L3.z9c,_root_.L3.gt,_root_.L3.hide,_root_.L3.qk,_root_.L3.y51,_root_.L3.y52,_root_.L3.y53,_root_.L3.y54,_root_.L3.y55,_root_.L3.y56,_root_.L3.y7f,_root_.L3.y7g,_root_.L3.y7h,_root_.L3.y7i,_root_.L3.y7j,_root_.L3.y7k,_root_.L3.y7l,_root_.L3.Od,_root_.L3.ul,_root_.L3.ZA,_root_.L3.j9,_root_.L3.EK,_root_.L3.Vj,_root_.L3.z1b,_root_.L3.z1c,_root_.L3.vx,_root_.L3.V8,_root_.L3.t7,_root_.L3.tj,_root_.L3.l5,_root_.L3.UC,_root_.L3.IL,_root_.L3.j4,_root_.L3.XQ,_root_.L3.qS,_root_.L3.Dv,_root_.L3.Du,_root_.L3.Zz,_root_.L3.Ai,_root_.L3.xy,_root_.L3.Ax,_root_.L3.Z0,_root_.L3.uI,_root_.L3.Ds,_root_.L3.jP,_root_.L3.p8,_root_.L3.jz,Option.map_some,Option.map_none,List.take_succ_cons,List.take_zero]),outer,(z7 0),Around,data,List.length_append,(z6 1),(Sum Â Ç),Value.ref,(z7 1),s.heap.get?,ds.length,I.zf,(kP ps),eval,(wI Ws),E.l2,(.str k),toks,PySem.wpAny_pure,decide_eq_false,(e::es),mainGlobals,h'.get?,s.toks,E.l1,List.size_toArray,(Nat.le_refl _),"list",D.int,(.bl Å),Array,a.size,h.get?,Heap.get?_push_of_some,List.length_cons,ks.length,(ϸn=Ã),z.elim,l.prog,X.xe,(z6 3),HT.sIx,PySem,getK,(by decide +kernel),of_decide_eq_true,Heap.lt_size,PyProof.Rows,(vP ps),(eC (.int 1)),name,prog,List.getElem?_eq_getElem,(model prog w),Nat.le_trans,kvs.length,(.int 0),ps.map,(n+1),(z6 2),PySem.Spec,(.ref f),["self"],OwnMs,PySem.sizeLine_eq,"State",FuncData,List.getElem?_eq_some_iff.mp,(z_ _),(.dK kvs),["state","row"],(a.d2 X G),(za st),if_true,scope,List.mem_cons_self,Bool.false_ne_true,List.mem_cons.mp,(.inl rfl),(z7 2),(.ref C),"words",(z7 3),z.length,X.base,E.lp,Int.toNat_natCast,W.kitOne,(.str w),(z6 4),add_int,List.all_cons,us.length,(.ref a),F.dj,(zO (zI b)),List.getElem?_map,bootBuiltins,X.calm,(k+1),K.In,I.xc,List.map_cons,Ws.length,if_false,(À v),(zX×V),(u q),cLine,List.mem_map.mp,Nat.zero_add,ys.length,[a,b,x2],(z7 4),k.toNat,iter,List.replicate,Heap.get?_push_size,Nat.lt_of_lt_of_le,b.length,r.length,"dict",String,A.in1,getA,(rows.getD i .zE),"tuple",(.ref p),"word",W.nsIn,I.tok,(.yD o Ń),ms.length,E.ext.gh,(.int 1),K.lookup,PyProof,(ĺa s),I.list,F.at_,back,(rows.getD k .zE),N.length,E.own,F.ok,apos,cpos,zero,succ,args,X.env.scope,X.env.locals,Nat.zero_le,ns.length,congrArg,(yS 0),I.tuple,(xv I q é),its.toArray,(a.d1 X G),(.int i),(.inr k),"table",(z6 5),K.go,stop,(vis Ws a b c ps due done k),(wT X scope cl own C s H fp pn),Nat.min_self,(.lst Č),decide_true,(yx e=Å),a.length,(vF st),0,(ſa _),(a σ),E.go,List.length_set,(.Name x pos),(.type ę),False.elim,"held",K.ext.gh,d.length,(.int k),Sum.inl,tplDs,E.pin,(λ_ z=>nomatch z),Nat.ne_of_lt,"_law_cell",(a==sysModules),compareOp,(.int 8),(Ç×Ä),"right","left",l.map,Scope,K.lp,List.mem_cons_of_mem,(zQ ŝ zP ÿ zC),0,(.Name x p),List.range,List.length_zip,List.append_nil,Nat.le_refl,"storew","loadw",X.N.Nodup,"jump",W.keepIn,[.ref a],"when",Iff.rfl,(Ł h),(z6 3),r.mono,I.loc,(j+1),((Ē).all yx=Å),(ns.map V.int),(σ++[À v]),(zJ zC),(.lst xs),(À Ŏ),j.length,"store",(xR A n),vS.cons,Sum.inr,(Þ+1),(z7 6),0,"set",o.map,(zQ ŝ zP Ć zC),X.env.cells.lookup,a.heap.objs.size,PySem.wpAny_mono,Option.bind_some,(.Name x xp),(λz=>nomatch z),Option.some.inj,List.map_append,(zA ă zG),"_law_k","carry",(zX×Value),(ķ pD),b.toArray,X.A.units,(yr P w),P.length,(JL Õ),A.units,(z6 6),IsPair,"zip",keep,cell,P.uc,E.ow,[xP T fw fh e due done Ws a b c ps],(X.fn x=Å\/X.env.scope.names.lookup x=À .local),List.getD_eq_getElem?_getD,List.length_take,s.heap.push,(ks.zip vs),(.str "mark"),True.intro,zh.refl,(Á M×zk),"unless",(.tup xs),I.ok.hd,h.length,f.length,W.findIn,X.stack,"load",(κ×V),"test","high",o.data,I.cell,(yB 1),zV.uz,"and","add",small,I.pin,x.gh,h.Ns,X.fs,D.nx,(zy (zM ċd) Ì),[.str k,.int x,.int y,.bl a],List.mem_singleton.mp,List.all_eq_true.mp,zV.refl,List.zip_cons_cons,Bool.false_eq_true,(ns.map D.int),"address",(eC (.int 3)),(xg A b tg n),(.type "int"),"state",(yr prog w),(.type ż),(eC .zE),(eC Ŝa),(.int x),(SL Õ f),"kind",(zI b),fs.length,(.inr z),c.trans,I.turned,[.int x],eq_int,I.laid,(xw d),"end",yh.of,value,qi.nd,"or",its',hv.h,((x==("__classdict__" : Ç))=Ã),((apos.endLine==cpos.line)=Å),(.int 2),(.Call Øa Ē [] pos),attributeBase,List.length_range,(x ≠ "__name__"),(e2 zD ă û),(zB Ć zN),b.toArray.size,(.type "bool"),(.inl z),binaryOp,(Ê Value),vs.toArray,(a.d3 X G),W.kia_one,(g i j),(.str x),o.length,Nat.ble,assign,(ĝa _),"code",intsOf,ns.map,I.free,I.bare,(uU x),"sub",r.get,IsZip,E.set,pos',call,E.fr,E.ap,Nat.lt_irrefl,(e2 zD ë û),List.length_zipWith,starEach,List.zipWith,(.type "str"),(zJ ÿ),h.objs.size,(F.ok i q z),"truths",(.ref it),"nought",(zJ zY),Txt.mul,(.int 16),"__init__",(Ç×Í),ws.length,OwnMs.imp,(À Ļ),(.nx β2),envOfC,c.length,Reps.imp,List.map,kvs.map,(À m),codeAny,E.ext.h,(z7 7),"subc","copy","addc",X.H₀,(0<=i),"max","law",o.cls,IsTup,item,(.ListComp elt [{tg,iter,ifs,0}] scope pos),(by with_unfolding_all rfl),(.tup [.str k,.int (d:Â),.int (s:Â)]),PySem.PassesOwn.never,(Θ (x+n)),0,PySem.wpAny_field,"first_words",PySem.wpAny_seqItems,PySem.wpAny_holding,"_law_script",List.mem_append.mp,(by simpa using h),(by simpa using e),"registers",Builtin.bitAnd,(eC (.int 4)),(.dic hk hv),(.ins C dx fs),(Or.inr rfl),(.builtin id),Int.mul_comm,Int.ediv_one,A.deeper,(Đ ?_),its.length,(λ_=>Æ),(.str q.1),(z7 3),a.toArray,I.ok.kind,(.type T),(zJ Ć),ks.map,0,W.toNat,(.inl a),x.length,s.TypeIs,g.length,(z7 5),[.str k],Ne.symm,(vP qs),(kP qs),(pB ps),IsPart,"xor",I.len,putF,c.gh,(eL vH (zA ë zG)),List.getElem?_append_left,List.getElem?_eq_none,own.length,Array.length_toList,(.dic Ċ Į),foldedSetIterable,(Θ (A+i)),beq_self_eq_true,List.not_mem_nil,I.zf.fresh,Heap.size_push,Bool.false_and,(.str "copy"),(EP X z8 σ Q),0,(.int (i:Â)),(.fz (.int v)),"first_held",Nat.ne_of_gt,(30+(i:Â)),List.map_map,Int.add_zero,Heap.SameBut,(Ç×Value),(yr ò X.w),(K w.params),"number",[a,b,x2,x3],(Á zX×V),(model P w),"sorted",SeqAt.EqAt,(.inr rfl),E.ext.new,DictEntry,A.handled,"place",(ĺa ύ),(Õa _ b),(.lst ws),i.length,"mark",r.extBut,l.length,W.codeIn,[.int c],(Ç×V),(top 63),(by rfl),"range","sign",valueAt,k4.getD,(ϊ _),(.bl b),putAt,xs.map,xh.one,(yB 5),(vy i),(f β),V.ref,(A i),pI.nd,isort,"due",x.new,cont,True,I.pQ,(sM Ws a b c hk hv n m),Int.natCast_nonneg,[.bl a,.bl b,.bl c],(backToKw pos (keywordEach [] Ö)),(Θ ((x+n)%65536+0)),List.mem_append_right,(.tup [(.str "d"),(.str "s")]),List.mem_of_getElem?,(by rw[E.l1];show c),(.tup [.str "stop"]),assignEach,(zO (zI a)),List.mem_range.mp,(.str "high"),PySem.call_meets,(.int (q.2:Â)),(.str "addc"),(.str "set"),a.names.lookup,(.int (k:Â)),Bool.false_or,Nat.le_of_lt,OwnMs.cells,DecidableEq,(Δa (x+n)),"memory",y.testBit,(.ref Þ),rows.getD,(.lst b),(.dT kvs),(s q z),"thing",i.natAbs,g.isList,callWith,(uG r.1),(.ref z),(.ref A),Rd.mono,(z6 7),(c b a),zV.lay,nextOf,K.ext.g,BindsTo,(z7 2),(Á D),"stop",ys.all,"done",o.elim,(p8 7),(k<=j),(b σ),xE.of,o.loc,kG.nd,E.ext,(w=0),"at",self,hide,dEqs,X.pn,Unit,[it],((n:Â)*134217728+d*16777216+s*2097152+m),(i<100000000000000000000),X.s₀.heap.objs.size,(zy ċd Ì),(sM Ws a b c Ċ Į p q),"_law_names_here",(eC (.int 2)),List.drop_eq_getElem_cons,Int.eq_ofNat_of_zero_le,[.int w,.int 31,.int 1],List.length_replicate,(.str "stop"),List.replicate_succ,(st ws a b c hk hv),(À (Ã,d)),(.str "test"),(.str "left"),List.getElem_mem,a.toArray.size,Bool.eq_iff_iff,(X.N[i]?=À x),behindInMarks,List.mem_cons,(.str "add"),Sum.inl.inj,(.lst ys),(λ_ _=>ê),x.testBit,d.trans,(.inr w),fs.lookup,(ψa (i<j)),(Θ (x+3)),(Θ (x+2)),(Θ (x+1)),(Θ (x+0)),(ps.zip us),(ks.zip us),(.type ŷ),"_law_s",isort_perm,"marks",(xL X.K F),(thaws ms),(qQ Ϟ x),(FL Õ f),Value.str,Value.int,(Γ Ñb),(.fz ώ),(Ĭ e),"do_sum",or_false,m.length,NameKind,Ws.set,[.str w],(Ùa 32),0,(zJ Ő),(yb â),(.ref l),(.int v),e.trans,(z7 12),IntsAre,(v::vs),(d q z),(a q z),stored,m.mono,backTo,I.kept,(yB 3),(yB 2),"int",whole,thaws,slots,field,bindL,bindC,(x+n),(A n),step,e.gh,body,0,I.os,E.ux,D.bl,(starEach Ē Ö=(Ã,eval e Ö)::starEach es Ö),(.int 4294967296),(e2 zD ă į),(zQ ŝ zP (w8 ÿ xq) úa),((n:Â)*134217728+d*16777216+m),(.tup [.str w,.str k,.str t]),PySem.wpAny_newObj_type,List.getElem?_append_right,(vA T e fw fh sd due done),Nat.lt_succ_self,[(n0,p0),(n1,p1),(n2,p2)],PySem.wpAny_truthy_bool,(ns.map WData.int),((u q).mpr (.inr z)),PySem.wpAny_call_entry,List.zipWith_cons_cons,PySem.wpAny_passesOwn,(.str k::R),(zB zC zN),["_law_row","_law_s"],List.all_eq_true.mpr,(Á zX×Í×Value),(getMethod ov m pl),Int.emod_lt_of_pos,Builtin.bitNot,(zQ ŝ zP ÿ zY),(eC (.int 32)),(.str "subc"),0,List.ext_getElem?,[.at [Ŀ] Âa],m.heap.objs.size,c.heap.objs.size,Nat.succ_le_succ,Nat.le_add_right,List.take_length,(.int (â:Â)),"isinstance","_law_rows",X.env.kindOf,Int.emod_nonneg,(τ++Ų k Æ),((u q).mpr ťa),(Γ (z7 2)),(kJ (yS 1)),[.int w,.bl u],(tM rfl wQ zC),(.tup [x,y,z]),(.int (n:Â)),"_law_count",(.lst Õ),swapsWith,Builtin.bitOr,(À (Å,d)),(β++[À m]),(xs.map .inr),(.int w),"_law_found",Str.ofString,(.str "or"),(start N vs),(GL Z Õ f),"_law_row",apos.atName,OwnMs.focus,List.lookup,(.str ŉa),(.int 5),vw.some_of,env.kindOf,"field",(λ_=>rfl),(zU H p o),(.str ąa),(.lst ıb),(.int p.1),"stands",l.extBut,(Α æa),(Ê Ó),(.fz d),[.ref p],argBest,xs.Nodup,r.append,d.typeIs,R.length,Operator,getItem,(ŉ ..),(zJ ùe),(kP ťc),(eC Üc),(.int n),(.int j),fs.map,yp.cons,s'.heap,i.toNat,d.toNat,W.mg_of,E.ext.g,"told",W.fnOf,Result,Paired,L2.ixN,(yb n),(uS n),(e σ),(c σ),(a::r),(W9 i),z.cps,YQ.nd,V.int,D.ind,tpos,maxI,keys,hk.h,d.oF,E.Za,(xA (yV b)),(À (Ã,xP T fw fh e due done Ws a b c ps)::τ),((n:Â)*134217728+d*16777216+s*2097152),(.Call (.Attribute o m apos) [] [] pos),(tL â λk=>.int (p7 Z Õ f i k)),"abcdefghijklmnopqrstuvwxyz",(by rw[e];show λz=>nomatch z),PySem.wpAny_callSpecial?_slot,[.str n0,.str n1,.str n2],PySem.Calls.callWith_builtin,(λC s H c d=>tR),[.int (t%4294967296),.bl u],PySem.wpAny_setField_rec,beq_eq_false_iff_ne.mpr,PySem.wpAny_pyIter_list,(ps.take i),Nat.succ.inj,(.tup [.int 27,.int 5]),PySem.F.plain_max_loop,PySem.codeAny_builtin,Nat.le_of_ble_eq_true,PySem.wpAny_tryCatch,[.ky (.inr "marks")],(zS yg yf Ć zC),PySem.strLen_append,PySem.plainId_quiet,(Αb (όa Ē Ö)),(Αb (όa es Ö)),(zQ ŝ zP ō zC),(jW (yt (eC ç))),(.type "NoneType"),List.flatten_cons,List.append_assoc,(ęa W.emptyDict),(σ++Ų ëb Æ),(.tp Å [x,y,z]),(Δ (wI W0)),"_law_kind",(uX Z Õ f i),[.int 24,.int 3],["self",ŏ,Âa],(vB as vs ks us),(pG (yV b)),(Α (z6 2)),(.str "and"),strSliceIndices,WData.weightAll,Nat.min_eq_left,List.length_nil,List.find?_cons,Value.none,I.base.free,"_law_address",s.heap.IsTuple,Bool.and_false,Nat.le_of_eq,(σ.set i ŧ),List.any_cons,(eC Îa),(ų _ rfl),Int.le_of_lt,"width","other",(qb β i π),(.tup [x,y]),scope.names,pos.line,c.heap.get?,Option.bind,Int.one_mul,(À (b,d)),(κ×Value),(ns.take k),(b.trans c),Obj.mapSeq,List.foldl,(Θ üe),(Α ŗ),(.lst ds),(Ŧa .Add),(YX a b c),(.tup ìc),(.lst Űi),(.int due),"do_bits",PassesOwn,0,(qk β),[Âa,ľa],(òb Ę),(Γ ů),(c.val k),(.int 32),(.fz ēc),(.fz Ňa),(.fz Ķ),(us++ds),(.inl w),p.extBut,h.DictOf,b.toList,J.extBut,(yE Ņa),(xR A i),(wY g _),(eC Žb),(.ref x),(.own x),(.lst a),(z6 12),(w%256),x.trans,propext,h.trans,callerA,0,base.Ns,X.outer,I.fresh,AllBare,(Ϲ e),(Ϙb c),(İb k),(Ùa n),(â+1),(Ł f),(Ł e),(yB 12),(xG zC),(wI ns),(py st),(a q w),(G b d),(.bl t),(.bl k),"byte",z.symm,(z7 4),values,ks.all,isTrue,ds.all,c.toks,c.heap,D.str,(yb 4),(vz x),0,(v1 k),(uT 5),(a++b),(a&&p),(0<=j),"row","one",keyOf,kF.nd,items,binds,atKey,a.all,Model,D.lst,[x,y],(n+k),(g=1),(a+b),(zM (zM yA)),(.tup [.str "storew",.int (d:Â),.int (s:Â),.int n]),(.tup [.str "store",.int (d:Â),.int (s:Â),.int n]),(.tup [.str "loadw",.int (d:Â),.int (s:Â),.int n]),(.tup [.str "load",.int (d:Â),.int (s:Â),.int n]),[À (Ã,.lst Õ),a1,a2,a3,a4,a5,a6,a7,a8,a9,a10,a11],[.fz (.lst Õ),.fz pl,.fz nm,sM Ws a b c hk hv i j],(zQ ŝ zP (zQ ŝ zP Ć zY) Öa),(.tup [.str "copy",.int (d:Â),.int (s:Â)]),(by exact ¬ (1000000000<=900000000);decide),["self","table","end","registers","memory"],(min (if i<0 then i+(n:Â)else i) (n:Â)),(vK T e fw fh s due done),PyProof.Rows.subscriptTail_builtinR,(zy (zM yA) Ì),(.tup [.str k,d,s]),(e2 zD ë į),((x+n)%65536+2),List.take_succ_eq_append_getElem,(λa b h z=>h (Sum.inr.inj z)),(qy Ws a b c Ċ Į due done),(.Assign [.Name x pos'] e pos),Builtin.List.listTooLong,(λa b=>if a<b then b else a),((c+7919*k)*48271%2147483647),(tL â λk=>.bl (f k)),(by simp only[ė]<;>omega),PySem.Around.under_plainId,(PyData.shownAll (pyTs a)),((vY Z Õ f â).map Ě),(vd (own:=[Ąa]) rfl),(e2 ve (eC (.int 5)) ă),X.env.scope.names.lookup,PySem.wpAny_Call_Name_kw,PySem.tupleKind_room_in1,(eC (.int 65536)),(e1 (xQ [Ý] ła) ë),PySem.wpAny_typeOf,[À (Ã,.int x),Æ],(eC (.int 4294967296)),(Nat.min_le_right _ _),List.zipWith_nil_left,[e0,e1,e2,À įb,e4],(xW ps ïb (N/W%256)),PySem.wpAny_rule,Builtin.Int.intBits,(.str "bytes"),(yk zN (zy yA Ì)),"_law_places",PySem.call_meetsIn,List.mem_range.mpr,ForInStep.yield,(Ο (zJ Ő) ía),(zQ ŝ zP Ő zC),List.nodup_append,List.Pairwise.map,(yN (yk úe Ķa)),(wI (Ws.set d w)),(relabel ň Ö),"default",List.lookup_cons,List.length_drop,(UD b e à a d),(Nat.sub_le _ _),"StopIteration",sliceBounds,f.objs.size,Int.min_eq_left,[.at [Ý] ła],(À (V.ref p)),(tupleKind Ċa),(tM rfl wQ ùe),(e2 yK ă į),(zB ÿ zN),(zA ë zG),(Ĺb es Ö),(.Name x p2),"_law_one",s.heap.update,Bool.true_and,[Âa,ľa,ž],[p0,p1,p2,p3],(À (Å,e)),(Z8 c.heap H),(ċ e Ö),e.gh.free,W.callWith_K,Nat.sub_self,List.map_nil,Int.pow_zero,I.base.there,E.ext.h.free,Around.under,["self",ľa],(ψa (i<=j)),(zU H a Ń),(zU G a ϋ),(ww û èb),(.dK []),c.heap.push,a.heap.push,X.base.get?,I.ok.mod.Yq,I.base.slot,(xW ps a b),L2.start,(kC fs f),(.tup ys),its.toList,W.plainGet,[.lst Č],[.lst Õ],(zU H a o),(yx a=Å),(a.d4 X G),(Xw e=Å),(.int â),(qv 2),"do_move",inplaceOp,cl.lookup,Reps.ints,I.base.uy,I.base.tX,I.base.qp,(.ret v),(.ref t),(.int 3),[.lst ws],(Ía .In),(ĺa Ãa),(Ùa ό),(Θ Ĝd),(Õa _ a),(À ś),(vs++dvs),(qw ns 4),(d.n X G),(.yD o u),(.tbl ps),(.ref i1),(j q z),(gt β),y.extBut,xs.foldl,t.length,s.length,n.length,h.extBut,c.h.free,ZipApart,Reps.set,OwnMs.u_,C.extBut,B.extBut,[.int 0],(yt û),(vQ K F),(g d σ),(eC ϋb),(e2 q c),0,(e1 q c),(X.gR E),(TE×TE),(I.WV e),(.str t),(.own a),(.int e),(z6 10),"steps","slice","again",ue.with,g.trans,Un.kept,rawInt,o.mono,ds.set,(Ŧc l),(äc _),(À 1),(zJ u9),(yc zG),(x::xs),(fv β),"step","bool",xs.all,u.keep,0,sIx_le,s.mono,pyIter,preSum,o.dict,d.getD,a.toks,W.isFn,T.keep,I.mono,B.kind,(zI b),(z7 8),(z6 9),(z6 8),(uT n),(tC v),(pE 4),(i==j),(V×V),(V9 x),"str",plain,piled,Vy.nd,Vx.nd,Vw.nd,T.obj,U0.nd,CmpOp,(h a),0,(f i),(vN t9 tI rfl wP t8 (wX (zJ ÿ) wg)),(zB zY (zB zY (zB zY zN))),["table","end","first_words","first_held"],((x+n)%65536+1),(yk (zB zY úe) (zy (zM (zM ċd)) Ì)),(e2 zD (e1 (xQ [Ŀ] ŏ) ë) Ýc),(if decide (0<=i)&&decide ųb then 20 else 1000000000),(Ws.getD s.toNat 0+n),[.int g0,.int g1,.int g2,.int g3],(.tup [(.str "d"),(.str "s"),(.str "n")]),[.str w,.int d,.int s],((Ùa i).map λk=>D.str (nk k)),(Şa o name Ö (eval o Ö)=eval o Ö),(λw d=>Xu g f r c w (by simpa using d)),(if 2*(x%32)<32 then x%32 else x%32-32),(.Tuple [.Name x p1,.Name y p2] kk pos),[.Subscript o k pos'],(ωa (.Attribute (.Name c p) m apos)),(Xc X.K 2 (j5 (vy i) (j5 (vy j) Xb))),Builtin.SmallTypes.ownedTupleIsFree,(((τ.take k).map jR)++τ.drop k),PySem.F.slot_tuple_iterator_next,[g0,g1*256,g2*65536,g3*16777216],PySem.wpAny_letGo,PyProof.Rows.slot_tuple_getitem,(λC s H b c=>tR),Builtin.Str.occurrences,[vA T e fw fh (wy s) due done],(.tup [(.str "d"),(.str "n")]),((c==("__debug__" : Ç))=Ã),[.Subscript ÿa k pos'],(zQ ŝ zP ÿ Ć),PySem.wpAny_Call_method0_late,(Ě (1*2 ^ ((w:Â)).toNat)),(.lst [.str "load",.str Þa]),(Δ (ķ pD)),[(p0:Â),(p1:Â),(p2:Â)],(ωa (.Attribute o m apos)),(if k'=k then À v else _),(.type "method_descriptor"),((u p).mpr Ō),(.lst [.str Þa,.str Ýa]),Builtin.Slice.slicePlaces,["self",ŏ,Ãb,"memory"],PySem.mem_of_lookup,(eC (.str "at")),PySem.F.slot_dict_values,Builtin.Tuple.tupleExact,PySem.F.plainAttrs_list,PySem.F.plainAttrs_dict,(List.nodup_cons.mp nd),(e2 zD ë ă),PySem.wpAny_getItem_of,(zQ ĺb zP (z7 10) zY),(by exact 1<30;decide),(eC (.dic [] [])),PySem.wpAny_updateSeq,PySem.wpAny_execs_nil,PySem.F.slot_zip_next,List.take_append_drop,List.getElem?_toArray,Heap.get?_update_self,Array.getElem?_toList,(.UnaryOp .Not a pos),(.Return (À e) pos),(.Constant Ď kk kp),"_law_word_here",Nat.sub_succ_lt_self,Nat.pow_lt_pow_right,(ys.any λy=>xi y x),(if b then 1 else 0),(.Attribute e f pos),letOwnedTupleGo,PySem.wpAny_standAt,List.getElem?_range,Array.toList_append,(λi=>(ad f i:Ä)),(wU ëb fs fg ft f),(by simpa using h1),(by rw[e];show Ĝa),(qz λi j=>i+j),"_law_other",PySem.codeAny_mono,"_law_machine",c.toArray.size,[.Tuple ϧf kk pt],(λ_ _ q=>ğ _ q),(zQ ĺb zP Ć zC),(b∈X.ex\/Ŵb<=b),(by simpa using a),(by rw[Ġ,Ġ,l]),(by rw[ė];omega),((e2 q c).trans w),(u8 gm kE rfl),s2.heap.objs.size,W.instObj,PySem.wpAny_of_eq,Nat.lt_succ_of_lt,List.getElem?_set,(Ç×Tok×Value),(kH jx gB rfl zY),(by rw[OA];omega),(.str "distance"),((p,w)::P.zip vs),swappedStores,(.dK Ěa),s.heap.IsSliceOf,s.heap.FunFrames,List.cons_append,Int.max_eq_right,[.lst ws,.int a],[.int 24,.int 2],[.int 21,.int 3],[.fz (.lst Ľa)],(yb (n%7).toNat),(w/16777216%256),(Qc n x (c x a)),(.tup [x,y,z,w]),(.builtin "len"),Option.map_some,Nat.testBit_and,List.range_succ,List.nil_append,"_law_far",(σ++Ų k Æ),(λc=>f c.symm),(eC (.str ãa)),(e2 zD Ĺ û),(e2 zD ë Ÿb),(e2 yZ ϫ Åb),(by rw[z];simp),(I.ok.bs b o e),(2147483648<=w),(.str "xor"),(.str Ħa),(.str àa),h.toArray.size,Nat.le_succ,I.base.keep,[.int (n:Â)],(xV ks vs k v),(by rw[h];rfl),(.type "type"),(.fz (.int 4)),(.builtin ćb),(.Name x pos'),(zB úa zN),(w8 ÿ qt),"_law_number",s.heap.DictAt,i.natAbs.log2,beq_iff_eq.mp,a.toArray.any,E.ext.gh.free,E.ext.g.trans,[ž,"count"],(ωc (b::yM)),(ψc (b::yM)),(zl.near x z),(putF f v fs),(ps.take õ),(eC (.int 7)),own.contains,P2.objs.size,Nat.lt_trans,Int.pow_succ,Int.ne_of_gt,Bool.true_or,(zB tK zN),[(D,v_ a k)],(Ía .NotIn),(ze (yJ u9)),(zU H p Źi),(zU H a ϋ),(yk íc ęd),(xs.set i x),(e2 F fa fb),(LP r ta tb),"do_storew",0,"_law_turn",W.hasDictIn,Int.mul_one,Int.le_refl,(Ϙ n q z),(Ϙ j q z),(Ře C Þ),(Öb keyOf),(ċ o Ö),(Ŧa .Mult),(Β (A n)),(Θ (w+u)),(zA į zG),(y b o e a),(x-x/p%r*p),(vQ X.K FF),(qC ps x w),(.str w::_),(.int done),(.bool Å),((n:Â)=0),(Η Ñb),(À Ž),"do_store","do_loadw","__next__",ws.toArray,b.drop,0,Value.bool,PlainAttrs,ns.getD,[.str Ēb],[(ņd,dv)],(Β (-1)),(ü<=ϖ),(λ_=>ê),(λ_ q=>q),(uC kvs k),(qn a k b),(ZG k=Å),(.tup ăe),(.str ěb),(.str ña),(.str ϔa),(.own íb),(.lst ųi),(.int i t),(tE Ĺ),(.ref g),"do_load","do_high","do_copy",zm.append,qs.length,h.flatMap,h'.DictOf,c.toArray,c.gh.free,__do_lift,0,W.makesIn,PySem.Str,Paired.Mf,[Ëa,Ąa],(Ν ŝb),(Śb ϓa),(ν ŭd),(ϖa i j),(ωc Ϲi),(ψc Ϲi),(Θ Çg),(ô+ëb),(Õa _ z),(ğ _ e),(Á Â),(σ++[v]),(β++[m]),(uA E.ux),(j<=1000),(h p ġe),(.tup ds),(.ref i2),(.ref Yr),(.ref WY),(.nx σ'),(.lst vs),(.lst []),(.int 24),(.fz čc),(.fz Ĝe),(.fz ϱ),"do_set",xD.focus,u.extBut,p.isList,k.length,j.natAbs,i.isList,c.typeIs,bindArgs,W.lookIn,Reps.one,OwnMs.Mj,L.length,(σ++ρ),(zJ Ýb),(zJ ō),(yc Ăg),(xL K F),(wI Ws'),(tL n v),(qd Ŋa),(pyTs f),(jz 3 4),(eC Ğc),(eC ϗa),(eC ļb),(eC ç),(Z8 h H),(LK r t),(2 ^ 64),(.ref c),(.nx σ),(.int m),(.int g),(.int d),(.int a),(.inr x),(.inl k),"many","label","index",xh.snoc,xh.mono,unaryOp,u.there,setItem,pyNext,ps.take,j.toNat,ds.map,ds.drop,c.symm,add_str,Keyword,I.write,I.ok.gN,A.depth,[a,b,c],(Ϲ d),(ϗb i),(Ëg q),(İb _),(Ĭ q),(Ĳ c),(Ê V),(Ł g),(Ł c),(z7 11),(z6 11),(wI W0),(u::vs),(q::qs),(m::ms),(j q y),(fs β),(f Ϸc),(eC jy),(e σ1),(a q c),(IM ..),(.bl y),(.bl v),"name",vs.map,u.slot,u.free,typeOf,s.gens,o.take,n.mono,ks.zip,j.mono,e.symm,bs.map,argsOk,Params,J.stop,J.get?,InLong,I.base,(z_ _),(yb 1),(yV a),(xw x),(vD r),(v2 k),(uT 4),(g==k),(ZK 1),(Y0 x),(U4 1),(Q0 l),(Jg z),(0<=t),there,start,st.at,names,h.Ns1,g.get,a.any,W.one,W.len,Qv.nd,Qu.nd,M.ind,"low",D.tup,D.i2z,D.i1z,D.TOz,["_law_rows","_law_places","_law_names_here","_law_cell","_law_jumps","_law_far","_law_k","_law_starts_here","_law_gaps","_law_turn","_law_place","_law_words_here"],(gP ps (Θ ((x+n)%65536+0))+gP ps (Θ ((x+n)%65536+1))*256+gP ps (Θ ((x+n)%65536+2))*65536+gP ps (Θ ((x+n)%65536+3))*16777216),(IW ["and","or","xor"] (zA (e2 pz (z6 6) (z6 7)) (zA (eL Ii (zA (z6 6) (Α (z6 7)))) (Α (e2 yZ (e2 yK (z6 6) (z6 7)) (eC (.int 2))))))),[.Name x px,.Subscript o k pos'],(ęa { cls:=.type "range",data:=.fields #[.int a t,.int c u,.int 1 v] }),(yc (zA (eC (.str "carry")) (Ω (.str "nought") (eC (.str "sign"))))),(wA (zB zY (zB Ő (zB (Η (z7 5)) zN))) Ķa),(.tup [.str k,d,s,n]),(if 2*y<4294967296 then y else y-4294967296),((a.toList.drop (sIx ĝ 0 c)).take (sIx ĝ ĝ d-sIx ĝ 0 c)),(yk (zB zY (zB zY zN)) ŵb),(A.under (.builtin "type.__call__" {.ref C::us,a})),(.tup [.str k,.int (d:Â),.int n]),(Şa Øa "values" Ö (eval Øa Ö)=eval Øa Ö),(if i<0 then(i+(n:Â)).toNat else min i.toNat n),[À (Ã,.int (n:Â)),À (Ã,.int 1),Æ],[j,i,x2,x3,x4,x5,g,k,x8,x9,À įb,x11,f,e,d],(x+(n-x/2 ^ l.toNat%2 ^ d.toNat)*2 ^ l.toNat),0,(f.2 b (Êa (Ŵ (Ĭ e) (I.ok.WP x c C l)))),(if q then x+y+vp (a&&p)else x-y-vp (a&&p)),(if k=f then(k,v)::r else(k,x)::putF f v r),(if G b=Æ/\G' b≠Æ then Æ else G1 b),[.str w,.int d,.int s,.int m],[.ky (.inr ŏ)],(Τ (e2 vo Ĺ (e2 zD ŗ (e1 Y6 į)))),(by exact c*134217728/16777216%8=0;omega),(À (.builtin "type.__getattribute__")),(.tup [.str "high",.int (d:Â),.int n]),(Ζ (e1 (xQ [Ŀ] ŏ) ë) (Τ ņa)),(.tup [.str "set",.int (d:Â),.int n]),((x+n)%65536+3),(tD L P w K G h N c a f d A þ s H E),(f.2 b (Êa (Ŵ (Ĭ e) I.ok.above))),(À (.builtin "object.__setattr__")),Int.ofNat_le.mpr,(e1 (xQ [Ý] "due") ë),(ķ λp=>if p.1=a then(a,b)else p),((Ùa n).map λi=>A õ),(À (.obj Ý ûe [a,b,c,d])::yM),(.Call (.Name "zip" p) ð [] pos),((Ùa õ).map λk=>D.str (nk k)),(zM (zM (zM (zM ċd)))),[.int 0,.int 5],PySem.F.slot_dict_getitem.lookup,(qC ps ϵa v),(.tup [.str w,.str mk,.str q.1]),0,(.lst [.str "addc",.str "subc"]),(tL õ λk=>.int (ad f k:Ä)),(.lst [.str "add",.str "addc"]),(yh X.K H p ys\/xE X.K H p ys),(0<=x/\0<=l/\l<64/\0<=d/\d<64),((a 29+9*(i:Â))%26),(.builtin "object.__class__"),(wT X ň cl own C s H l pn),PyProof.Rows.callWith_type1,(λq=>(L q/\¬ L1 q)\/L2 q),(Τ (eC (.int 2))),PySem.wpAny_updateSeq_pair,(r.2.set a (À (.fz d1))),(.lst [.str Ña,.str Ða]),(.For tg iter body [] pos),Builtin.Slice.sliceAdjust,(zQ ŝ zP Ő zY),[vK T e fw fh s due done],(Ìb (Ϟa x ņ Þ f c)),(rI Uo λi j=>.int (i*j)),(f (.int i t) (.int j u)),(((1:Â)*2 ^ w-1)*2 ^ l),"_law_words_here","_law_pairs_here",PySem.wpAny_pyIter_tuple,PySem.Calls.spliced_cons,List.eq_of_mem_replicate,(À (Ã,.int (i:Â))),(x*2 ^ n/4294967296%2=1),(zS vX u5 zC Ć),Nat.testBit_mul_two_pow,0,[.tup ìc,.int (n:Â)],(Η (Εa (zB żi zN))),(x/2 ^ l.toNat%2 ^ Øb),(sM Ws a b c hk hv p q),(qy Ws a b c hk hv n m),(k K j λv m n x r=>?_),(by rw[æ];show e.len),(.ins C dx (fs.zip vs)),(Ο Ϗa ϕa),(.str "name"),(zA û zG),List.drop_eq_nil_of_le,Array.getElem?_eq_none,(zA (eC ç) zG),(À (Ã,.dic ks ds)),(ui Č a b c Ċ Į),(if x<z then z else x),(if t then j+1 else j),PySem.SeqAt.EqAt.same,PySem.F.slot_dict_get,List.pairwise_cons.mp,List.length_singleton,List.getElem?_zipWith,[.int x,.int y,.bl p],(λz=>a (by simp[z])),(λi=>a.getD i .none),(.Subscript o k pos'),[.int l,.int W],((f q).mpr ϙb),(k5 (xG tK)),List.mem_append_left,[D.bl a,.bl b,.bl c],[.ky (.inr "bytes")],(.tup [kV f[i].1,u]),(.Subscript o i pos),s₂.heap.objs.size,List.filterMap_cons,Int.toNat_of_nonneg,(vY Z Õ f i),(u8 gj kD rfl),[ŉa,"one",Ϟc,ąa],(Ζ ži (ι ņa)),(Ùa (min ä ŭ)),(ui ws a b c hk hv),(by simpa using hv),(by rw[Ė];show r),(Nat.not_lt.mp hlt),(.int (ad f i:Ä)),((i:Â)+(m:Â)*1),(xA (yV a)),"__getattribute__",decide_eq_true_iff,Nat.sub_add_cancel,Nat.lt_of_le_of_lt,List.set_cons_zero,(Αb (όa [] Ö)),(Ο (zJ úa) ϕa),(tG Z Õ f (t+1)),(p i s σ H _ I h),(by simpa using g),(.tup [row,nx,tg]),(Qz LW LV zC),d.zf.fresh,Option.isSome_map,[.str w,.str "d"],[.str k,.str "d"],(Ϟa b a Þ f d),(λh=>by cases h),(zU g d (.own y)),(zS yj yi Ć zC),(zS vX u5 zC Öa),(x/2 ^ (n-1)%2=1),(.tup (k.map kV)),(.fz (Β (a+b))),(.builtin "repr"),z.cps.toList,(vG qW qX),(.str ϥb),(.str Þa),(.str Ýa),"fields_in_word",w.heap.objs.size,env.cells.lookup,d.heap.objs.size,X.s₀.heap.get?,X.env.scope.kind,Nat.min_eq_right,List.mem_map.mpr,List.map_fst_zip,List.any_eq_true,Int.toNat_eq_max,Int.ofNat_lt.mpr,Int.min_eq_right,(wI (Xt ps)),(uV Z Õ f),(.Name x px),(Ç->Ê Value),(wW kvs p.1 p.2),(vB as ds ks es),(vB [] [] ks es),(d b _ q λz=>z),(BS K t1 t2 a b),"place_in_word",W.methodCall_KW,Nat.log2_lt,List.of_mem_zip,List.forIn_cons,Int.ediv_nonneg,[ŉa,"one",Ϟc],[ž,"low",ϝc],[ŏ,ľa,"row"],[.int c,.int k],(Ōd b a Æ n),(ν (U3 f vs)),(ϓc b o e n a),(σ++Ų n Æ),(σ++[À Ž]),(β++[À īc]),(ys.getD j .zE),(xw (.lst Ϯ)),(xs.getD j .zE),(eC (.str øa)),(e2 zD ži ěd),(e2 zD ŗ û),(e2 zD Ħ į),(by rw[q];simp),(.tup [kV k,u]),(.dK (m.zip l)),((c q).mpr ťa),(gf xs b a),(.Name c p),"kind_of_code","is_near_code","_law_shifted","_law_cell_at","_law_bitwise",d.toArray.size,d.names.lookup,beq_iff_eq.mpr,Nat.not_lt.mpr,List.take_zero,List.Perm.refl,Int.ofNat_zero,Builtin.bitXor,[kV kv.1,kv.2],[.int (c:Â)],[.dic Ċ Į],(ι (eC Ĺd)),(τ.set i ϊb),(β'++[À m]),(wO d&&Ça ds),(vI Z Õ f k),(uK (ιb Ϯf)),(u8 VR Vs rfl),(eC (.int 15)),(eC (.int 12)),(by rw[m];rfl),(TP X z8 σ Q),(.obj x fs ms),(.builtin Ϭa),(.builtin Āc),(.List es pos),sysModules,Array.getD,"with_number","moved_right","is_far_code","dict_values","_law_starts","_law_reckon","__setattr__","__getitem__",swapsWithSole,c.heap.DictOf,X.env.globals,W.plainGet_of,Paired.length,Int.not_lt.mp,Int.add_assoc,Bool.and_true,0,[ž,čb,ăb],[ŏ,ϒa,Âa],[5,4,3,2,1,0],[3,1,5,0,4,2],[2,4,0,5,1,3],[0,1,2,3,4,5],(ċ ÿa Ö),(Ĺb ĉe Ö),(Ĺb ϧf Ö),(zu.near x z),(zU H5 D ϕb),(w/65536%256),(qb r.2 i π),(YY a ϋ H0),(V.int (a+b)),(D.bl (i==j)),(.str {#[c]}),(.ins C d []),(.Expr e pos),"words_from","word_fault","moved_left","is_address","first_word","bytes_from","address_of","address_in","_law_worth",0,"_law_words","_law_power","_law_pairs","_law_names","_law_mixed","_law_drawn","_law_coded","_law_bytes","_law_begin",seqIndex_neg,s2.heap.get?,l.row.toRowW,its'.toArray,concat_meets,WData.weight,SeqAt.RcNeAt,PySem.Within,PySem.W.Frag,Nat.succ_pos,Nat.le_total,List.any_map,Int.le_trans,Code.isFrame,(Μ (z6 2)),(όa es Ö),(ψa (j<=i)),(λ_ _=>rfl),(zU a p Ōb),(zA ë ăa),(wW kvs k v),(u7 N π m2),0,(atKey xs k),(I.pQ x c e),(21+(c:Â)),(.tab ks ms),(.inl {c,w}),(.inl (A p)),(.bl (QQ r)),(Đe Íb),"with_part","number_at","is_number","four_from","_law_word","_law_look","_law_flow","_law_deed","_law_code",seqIndex_of,a.names.all,W.specialIn,W.plainOver,W.kitx_list,W.emptyDict,Value.float,List.length,Int.pow_pos,D.TOi2.symm,(Ϙ n q c),(ϖa "q" j),(Β (i+j)),(Β (A p)),(λx=>!x.1),(zB Öa zN),(w/256%256),(uj Yz ăa),(ixN Ĉ j),(f b o a e),(c▸s q z),(21+cJ Ż),(18+cJ Ż),(.yD o Ţe),(.list çc),"table_of","put_word","put_byte","pairs_of","max.loop","bytes_of","_law_way","_law_sum","_law_due","_law_any","__name__",wpAny_call,wpAny_Name,typeLookup,typeIs_str,typeIs_int,scope.kind,es.toArray,builtinsNs,acc.length,Walks.list,Value.type,Str.length,SeqAt.RcAt,OwnMs.snoc,OwnMs.join,I.ok.above,D.i1z.symm,D.TOz.symm,(Öb kV),(zJ Öa),[.lst Ľa],(Ŵd N vs),(Á M×M),(zU H x o),(zU G p u),(zB zY zN),(zB zC zN),(yp.nil E),(u::v::vs),(r::m::ms),(eL FL fs),(acc++its),(ZG b=Å),(ZF Z Ż),(.yD ob v),(.val Ļ),(.tup ϥi),(.tup Óg),(.str ŏ),(.str "q"),(.str "n"),(.str "d"),(.int ŭ),(.inl p.1),(.bl (!k)),((k,x)::r),"word_of","word_at","told_at","look_at","is_pair","held_in","code_in","byte_at",zs.length,zm.of_get,tupleText,t.trans,g.toArray,cellsFrom,c.heap.Ns,as.length,a.g.trans,WData.int,W.takerIn,W.readsIn,W.findCls,W.OpenLaw,PySem.Fin,IsTup.new,[ŏb,ϝc],[ŉa,ġc],[ła,ž],[ž,čb],[ž,ăb],[ϻa,Ąa],(Öf õ),(ĺc Ħb),(Ķg Ę),(ĭc q j),(Θa ϣa),(ν Ţe),(ι ņa),(Êa Ϯb),(Γ Ϧa),(Γ ϔi),(Γ Ęe),(Η Ýb),(Α ŗb),(Α Ϛc),(Α Ĭe),(À ϖi),(xs++[x]),(x-y-q<0),(x b u e),(x ^^^ y),(x &&& y),(vM ks k),(n*2 ^ l),(m.n X G),(f _ _ e),(d i q z),(U9 te t),(.tup []),(.nx σ2),(.fz źc),(.bool b),(yV d),"walked","summed","signed","row_in","joined","far_at","do_row","behind",y.length,u.length,toString,pick_run,listText,its.size,h.DictAt,f.typeIs,e.typeIs,Reps.rep,OwnMs.Pl,0,I.ok.mod,E.ext.yD,A.length,[.int v],["four"],(ϸi ?_),(Ía op),(ġ<yW),(σ++τ),(zJ Èj),(yt ŗ),(yc űi),(ya ĕg),(yE Ħ),(xs++ys),(xG ů),(wY C _),(vh Ēd),(vP Õg),(vP ώi),(vP ťc),(vP ps'),(uK Çj),(tz ë),(tQ a.1),(tH q c),(qz Äb),(pyTs a),0,(pJ ÿ),(o++[i]),(kv.1=k),(kP Õg),(kP ώi),(kP ps'),(kK a.2),(k7 Ŀa),(j3 ĥa),(eC Ňg),(eC ņg),(eC Ņg),(eC ϊe),(eC ſe),(eC öc),(eC όb),(LS h H),(BQ K a),(BP K a),(2 ^ 62),(.ref e),(.ref D),(.int 4),(.inl x),(.inl i),(.inl h),(.inl e),(.inl d),(.bl d'),"taken","leads",0,"added",xs.drop,ue.near,s.trans,o.trans,o.cells,h1.get?,getAttr,e.pairs,d.mapOf,a.names,W.frame,Reps.Pw,PySem.W,L3.getA,E.moved,Builtin,[x,y,z],[.ix 2],[.ix 1],[.ix 0],(Öf i),(Ϭ I),(Ϲ c),(Ųa r),(Ϛb f),(ŉb i),(ōa u),(ġa p),(ġa c),(óc i),(Ŧc h),(ĝa G),(Ϡ _),(Êa c),(İb n),(ô+1),(Ĭ f),(Ô g),(Ê M),(Ł m),(Ł a),(À r),(À c),(z6 14),(yS 10),(x-y-q),(wI ys),(r::ms),(p q w),(n::ns),(k q z),(gu xs),(g b a),(f ϣd),(f v u),(f q z),(eC VX),(b β1),(F x y),(C q w),(BN ks),(A â),(A q c),(2 ^ n),(.bl p),(.bl a),"repr","part",r.drop,qs.map,o.bind,ns.sum,l.most,h.push,h.elim,frames,f.down,d.kept,c.size,c.getD,a.snoc,a.kind,W.item,O.heap,"self",K.keep,I.step,I.look,I.keep,F.mono,E.back,D.l2TO,B.kept,B.cell,A.cond,(zI a),(z7 9),(z6 2),(yb 3),(yS 8),(yB 6),(x++y),(wy m),(r β),(qv 1),(mA f),(kV k),(k'=k),(k σ),(jU m),(i::a),(h β),(c++a),(Xd d),(Ls i),(J0 K),(21+c),(18+c),[À (.fz (.lst NS)),À (.fz (.lst Õ)),À (.fz (.lst m)),À (.fz n),À (.fz K),À (.fz (.lst (SL Õ f))),À (.fz (.lst (wI W0))),À (.fz (.lst F)),À (.tp Å [P,I,O]),À (vK T (ad f â:Ä) fw fh (st Č a b c (kP qs) (vP qs)) (ad f i:Ä) (j:Â)),À (sM Ws a b c (kP qs) (vP qs) (ad f i:Ä) (j:Â)),À (.fz (.int (u:Â))),À (.fz (.int (i:Â))),G,C],[.str "jump",.str "when",.str "unless"],(zA (eC (.str "jump")) (zA (eC (.str "when")) (Α (eC (.str "unless"))))),(vn (λC s H b c=>(yo (i:=2) (show(wu ["code","found"] ["kind"]).Nodup by decide +kernel) rfl Ü)) rfl),[.str "load",.str "store",.str "loadw",.str "storew"],(vn (Λ (yo (i:=7) (show(wu ["_law_script","_law_start","_law_count","_law_cell","_law_names_here","_law_places","_law_rows"] ["_law_k"]).Nodup by decide +kernel) rfl Ü)) rfl),[.tup [.int (Θ (x+0)),.int (w%256)],.tup [.int (Θ (x+1)),.int (w/256%256)],.tup [.int (Θ (x+2)),.int (w/65536%256)],.tup [.int (Θ (x+3)),.int (w/16777216%256)]],[À (Ã,.lst Õ),À (Ã,pl),À (Ã,nm),À (Ã,cl),À (Ã,.lst (JL Õ)),x5,l,À (Ã,.lst (SL Õ f)),À (Å,.lst (tL â λ_=>.int 0)),x9,a,x11],[À (Ã,xP T fw fh e due done Ws a b c ps),À (Ã,.int cell),À (Ã,.dic (o.map λk:Ä=>.inl (k:Â)) (o.map λi:Ä=>(Ϯ).getD i .zE)),x,Æ],[À (.fz (.tup [.str k,d,s,n])),À Ŷb,À (.fz (.int A)),À (.fz cnt),À (.fz (.int N)),À (.fz (.int f)),À (.fz (.int W)),À (.fz (.int i)),x8],(.ins C dx (putF f w (fs.zip vs))),[.int 0,.int 4294967295,.int 2147483648,.int 1,.int (u%7),.int (65530+u%12),.int (u*7%4294967296),.int (u*5%4294967296)],Heap.get?_update_other,(zS yg yf (zS vX u5 zC Ć) zC),(zg X0 (zA (z6 10) (Α (VJ (e2 zb (z6 12) (eL vH ăa)) (e2 zb (e2 zD (Τ (z6 12)) û) (eC Žb)))))),(Τ (eC (.str ŏ))),[.tup [.int g0,.int 0],.tup [.int g1,.int 8],.tup [.int g2,.int 16],.tup [.int g3,.int 24]],(λi=>decide (0<=i)&&decide (i<1099511627776)),(λxs H Q=>(∃i,xs=[.int i]/\Q Ϩ H)\/∃k,xs=[.bl k]/\Q (Β (if k then 1 else 0)) H),(λr s'=>r=.ok (.ret (.bool Å))/\OldK c.heap s'.heap/\s'.os=c.os/\AllBare s'.gens),(if m.length+ŭ<=yW then À (Fl.nx (τ.set i (À (Å,.lst (m++ys)))))else Æ),(xW ps ϵa (v%256)),(by let:=Int.add_le_add_right (Int.le_of_lt h) (n:Â);rwa [Int.zero_add]at this),[.tup [.str ąa,.bl Ã],.tup [.str ϔa,.bl Ã],.tup [.str "sign",.bl Ã]],(.dK (wW (g.zip e) ϩ (V.int (a+b)))),[.int (x%256),.int (x/256%256),.int (x/65536%256),.int (x/16777216%256)],(λq z=>h q (Νa (s q z))),(zr gs a rfl (zB ÿ íc)),(zr Z7 b rfl (zB ÿ Ţa)),(.builtin "list.__iadd__"),(λxs H Q=>∃i j,xs=[.int i,.int j]/\Q (Β (if j>i then j else i)) H),(((sIx ĝ 0 c:Ä):Â)==0&&(1:Â)==1&&(sIx ĝ ĝ d-sIx ĝ 0 c)==ĝ),(((sIx ĝ 0 b:Ä):Â)==0&&(1:Â)==1&&(sIx ĝ ĝ e-sIx ĝ 0 b)==ĝ),[À (Ã,.int x),À (Ã,.int (n:Â)),À (Ã,.str k),Æ,Æ,Æ],[.fz T,.fz (.int e),.fz ϱ,.fz Æb],[À (Ã,.lst Õ),À (Ã,.lst Ĥd),À (Å,.lst [.int 0]),Æ],(if ŵ<=1000/\b.all qB=Å then À (D.lst (b.map keyOf))else Æ),(.Attribute o name apos),(Dn f e I h λv u l x y m d k g q=>j i l σ m x y v u Q d k g q),(l.map λp=>{PyData.keyHash w.params p.1,.str p.1 p.2.1,p.2.2}),(Đ ⟨_,rfl,Đ h⟩),(Η (Εa (zB (υ (z7 2)) zN))),(xw (Δ (vis Ws a b c qs (ad f i:Ä) (j:Â) (jD Õ i)))),(wA (zB (Κ (yN ýe) (Η (z7 5))) (zB Ő (Γ ů))) Ķa),[.str w,.int d,.int n],[À (Ã,.int x),À (Ã,N),À (Ã,.str k),Æ,Æ,Æ],[.str ąa,.str ϔa,.str "sign"],[.int g0,.int (g1*256),.int (g2*65536),.int (g3*16777216)],(zA (e1 (xQ [Ŀ] "held") ë) (Α (zg Zn (zA ë ăa)))),(by first|show Or.inl rfl|show Or.inr Ü|show Or.inr Èb),(Α (Z1 æa (e2 yq ë (Ι (eC Ŀb) (zA (eC öc) zG))))),(tN ϣ xq),(.tup [.str k,d,s,x]),(.tp Å [.own (.lst []),.own (.lst []),.own (.lst [])]),[.str w,.int d,.int s,.int n],(zA (eC (.str ña)) (Ω (.str Þa) (eC (.str Ýa)))),(if t then X4 [.int x,.int n]else X5 [.int x,.int n]),(gP ps ĳb+gP ps (Θ üe)*256+gP ps (Θ Ĝd)*65536),(Δ ((isort ns).map V.int)),(yX (i:=3) V_.nd rfl Ü (zr O8 b rfl (zB ÿ Ćc))),(xI (yG On Og (zJ ō) (zJ u9) ł) (ze (yJ u9)) xY),0,(by exact(c*134217728+d*16777216)/2097152%8=0;omega),PySem.evalArgs_none,(a::b::yM),(if v<0 then max (v+(n:Â)) 0 else min v (n:Â)),(if v<0 then(v+(n:Â)).toNat else min v.toNat n),(.Tuple [.Name x p1,.Name y p2,.Name z c] kk pos),(.dK (wW (e.zip a) ϩ w)),[À (Ã,.int c),À (Å,.lst []),Æ,Æ,Æ],(tj 0 ùc (V8 (zg Zn (zA ë ăa)) (V8 þe vx))),(W.fnOf x a (py st) ϵ ņ .none kV d g h b ct),(.Call (.Name "max" p) [a] [{À ņd,e,kp}] pos),(((ϖa "q" a).cps++(lt k).cps)++(ϖa "q" b).cps),(Ο (zJ Öa) ϕa),(zQ ŝ zP ů zC),(Şa Øa "items" Ö (ċ Øa Ö)=ċ Øa Ö),[À (Ã,.dic Ċ Į),À (Ã,.int x),Æ],[xP T fw fh e due done Ws a b c ps,.int cell],(À (Ã,xP T fw fh e due done Ws a b c ps)),(s = "stop" \/ s = ąa \/ s = àa \/ s = ãa),(j (E.go d) c λv u x p m=>q v _ _ (Ϙb p) m),(by unfold kP;rw[æ];exact _<16777216;omega),(by rw[I.ok.glob];show I.mod.glob.keeps I.bk),[h,g,x2,x3,x4,x5,f,i,x8,À ėd,c,x11,d,b,a],[D1,.tup [.str k,.int (d:Â),.int (s:Â)]],(ķd (Ø (Ϸa hz rfl (x:=.ref TO) rfl ?_))),(À (Ã,vA T e fw fh (wy s) due done)::τ),(λq=>(t q/\¬ B q)\/((B q/\¬ L1 q)\/L2 q)),(tD xK P w K mg Ë N c ņ f g A þ s H E),0,(tD xK P w K mg Ë N a ņ f b A þ s H E),(swapsWithSole [tg] e pos.line Ö=pure Ã),(W.fnOf x a (py st) ϵ ņ g kV d h i b ct),(W.fnOf m q (py st) ϵ ņ c kV d g h a ct),(.bl (decide (0<=t)&&decide (t<4294967296))),(ύa (λk' x=>if k'=k then v else x) ks vs),(if G p=Æ/\G' p≠Æ then Æ else G1 p),(Builtin.Tuple.tupleItemsOf (.ref t) >>= _),(.tup [.str Ĩa,.int (d:Â),.int (s:Â)]),[.int a,.int (uZ ps a)],(tD xK P w K mg a N x ņ f c A þ s H E),(tD xK P w K mg a N q ņ f c A þ s H E),(if([]:Á Keyword).isEmpty then 0 else 1),(by rw[q];show List.mem_singleton.mpr rfl),(acc++(if k>0 then ", " else "" : Ÿ)++t),(Ϣa λkv=>if kv.1=k then(kv.1,y)else kv),(Εb (λi j=>wf i+wf j<=134217728) (i*j)),(by rw[show n+õ=n+1+i by omega];show k),((Θa (À (.fz x))).set j (À (.fz y))),[.str w,.int d,.int m],[e,g,i,À (Ã,.int (n:Â)),b,a,h,c,d],(Builtin.«zip.__next__» {[.ref z],[]}),(.lst [.str "and",.str "or",.str "xor"]),Classical.choose_spec,(ęa { cls:=.type ŷ,ā:=.dict #[] }),(zj (h pos i s σ H _ I g) λl a c=>?_),(zj (f pos d s σ H _ I h) λu m c=>?_),(wT X ň cl own C s2 H2 fp (X.pn++z8)),(ůa (.Name x j) Ö),(vd (own:=[ŉa]) rfl),(.Subscript Øa k p2),0,PyProof.Rows.slot_tuple_getitem.lookup,[.int l,.int d],(eC (.int 256)),(λq a b=>dj q ((ũ).mpr (.inr a)) b),(zU (zU m i (.own y)) y (.ins C i [])),(tD L P w K I l N g d f G A þ s H E),(k.pin (b,o) (Ĵb _ (Ĵb _ (OZ j e)))),(if x∈cs then getA fs ms f else Æ),(Z.pin (b,o) (Ĵb _ (Ĵb _ (OZ d e)))),(W.fnOf İ c g i a Z kV F pm an d ct),(PySem.F.args_tuple_iterator_next_1 _),(.Subscript a (.Slice w A Æ p2) pos),(tL â λk=>.int (p7 Z Õ f õ k)),(pA (tN ϣ qR) (OX ϕi (OX Þc p9))),(if k'=k then À v else ĩ ks vs k),(i (E.go d) c λr t m=>q _ _ (Ϙb m)),(.tup [.str øa,.int (d:Â),.int v]),(.tup [.str ĩa,.int (d:Â),.int v]),(λ_ _ z=>nomatch z),Builtin.SmallTypes.ownedTupleHandOut,[t,u,À (Ã,.int (n:Â)),l,j,i,w],(δa (.Attribute Øa "values" apos)),(λk' x=>if k'=.inr k then z else x),(tryCatch (pyNext (.ref I)) _ >>= _),(if ns=[]then z else .int (maxI ns)),(backToKw cpos (keywordEach [] Ö)),((ŋ h).resolve_left λz=>c z.symm),(Εb (λ_ j=>0<=j) (i/2 ^ j.toNat)),(zj (l i s σ H _ I h) λc j d=>?_),(zj (k g s σ H _ I h) λv m e=>?_),(zj (f b s σ H _ I h) λu j a=>?_),(zj (b d s σ H Q I h) λc f e=>?_),(zQ ĺb zP (w8 ÿ XJ) (w8 ÿ jp)),(zB zY (zB zY (zB zY (zB zY úe)))),(wA (zB zY (zB Ϧa (Γ öa))) Ķa),(rI Mo λi j=>.int (i*2 ^ j.toNat)),(e2 zD (e1 (xQ [Ŀ] ϒa) ë) Ýc),(.tup [.str k,.int (d:Â),.int e]),(!c.toArray.isEmpty&&ġd (ōe+ώb)),[.str àa,.str q.1],(eC (.str "right")),[.str k,.int (x:Â),.int (y:Â)],(Εb (λ_ j=>0<j/\j<2 ^ 64) (i/j)),(Ăc y=À .cell\/Ăc y=À .free),(Ϸa hz rfl (x:=.bool Ã) rfl ?_),(kI (yo (i:=6) pI.nd rfl Ü) rfl),(c*134217728+d*16777216+s*2097152),(.str (ϖa "q" (a üb%4)++lt Ýg)),"_law_stands",PySem.F.entry_tuple_iterator_next,(δa (.Attribute o "clear" apos)),(Ζ (e1 (xQ [Ý] Ϫ) ë) Ìg),(λq z w=>A q èc λy=>w (j q y)),(λC s H b c=>ō),PySem.Calls.Name_function_global,[.tup R,.int (a+2),.int (a+Ϭf)],(Ϸa hz rfl (x:=.ref TI) rfl ?_),(λm t j i s o=>f m t j i ϓi o),(λm j i f s o=>a m j i f ϓi o),(vN t9 tI rfl wP t8 (wX Õb wg)),(ns.all ϊi&&decide (ϡ<=1000)),(g0+g1*256+g2*65536+g3*16777216),(.ListComp f [{tg,b,g,0}] a pos),(.Call (.Name Ěb p) [a] [] pos),[.fz ϭi,sM Ws a b c hk hv n m],[.fz Ěd,sM Ws a b c hk hv n m],[.fz ϳa,sM Ws a b c hk hv n m],(όa [a] Ö=[(Ã,ċ a Ö)]),(Ϸa hz rfl (x:=.none) rfl Íb),(λp=>if p.1=a then(a,b)else p),(λb o f e=>(sb.2 b f).trans e),(zS kB k9 (zS YH YG zC ō) zC),(ui (wI h) s A y (kP d) (vP d)),(kvs.any λkv=>decide (kv.1=k)),(Qy .list rfl rfl kL vt Tl Ϗa),(PySem.F.args_dict_get_3 _ _ _),(.tup [.str w,.str k,.str q.1]),(.Assign [.Name x px] ϱa spos),((σ++Ų 2 Æ).set i (À b)),(.tp Å [P,I,O]),PySem.wpAny_comprehension_free,[b i,.int (A õ),tA A (tg i)],(À (.Constant Ŭa j xp)::ks),(λq z w=>o q z (Νa (i q w))),(λq z w=>A q (Νa (i q z)) w),(PySem.F.args_tuple_add_2 _ _),(PySem.F.args_dict_values_1 _),(.Attribute ŗd "values" apos),(ą t==ϒc),[ŏ,ϥb,"bytes","at","many"],[.int 0,.int 1,.int 2,.int 3],(Δd (.bl (!decide (x=.zE)))),(χc (o q z ((ũ).mpr ϙb))),(Ě (x/2 ^ ((l:Â)).toNat)),(Ě (g*2 ^ ((n:Â)).toNat)),(λq=>(t i q/\¬ L1 q)\/L2 q),(λq z=>(ũ).mpr (.inr Ŏb)),(vn (υc (wu Ϥf [Ąa])) rfl),(.fz (.int ĳb)),[À (Ã,.lst āe),Æ,Æ],[À (Ã,.dic òa ŀa),Æ],[st Č a b c hk hv,.fz ϰf],[st Č a b c hk hv,.fz ϳa],[.str "d",.str "s",.str "n"],[.fz ϭi,sM e a b c f g n m],[.fz Ěd,sM e j i l f g n m],(Ďc e Æ Ϣc Ö=pure Ã),(λc f k e=>i a d g c f k e),(wu ["four"] ["byte","low"]),(ui Č a b c (kP s) (vP s)),(st Č Ã Ã Ã Ċ Į),(if g=f then À u else k g),(if f q then H' q else H0 q),(if Lm q then H' q else k q),(by exact _<=16777216;omega),(!(ēe j i 0 ða 1).isEmpty),"_law_distance",Option.isSome_iff_exists.mp,Builtin.Builtins.bindParams,[ž,űa,ŉa,"row","known"],(ħ ő ő b-ħ ő 0 a),(Şa e f Ö şd=ċ e Ö),(À (Δa ((x+n)%65536+1))),(λq=>(t q/\¬ L1 q)\/L2 q),(λd1 d2 v=>Ic I n d1 d2 v),(λa=>decide (uZ ps a≠0)),(zg pS (w_ Ý ħc ë zG)),(zQ ŝ zP (w8 ÿ tm) úa),(yH 3 (zg pW (η (z6 2)))),(e2 q_ (e2 uk į Ĺ) į),(call (.builtin a) (v::us)),(.Assign [.Name x a] e pos),((wI ys).any λy=>xi y Ňa),(e2 zD Ħ Ħe),"dict_reverseitemiterator",Nat.mod_two_eq_zero_or_one,Int.fdiv_eq_ediv_of_nonneg,Builtin.Slice.sliceApplied,[Żc,Řd,Ŋe,"_law_carry"],[vA T e fw fh sd due done],[.own íb,.fz Ňa,.fz ēc],(zQ (zO (zI d)) zP Ć zC),(zB (w8 ÿ qR) (Γ ϕi)),(yG On Og Ϗa (zJ u9) ł),(seqItems? (.ref S) >>= _),(if p.1=a then(a,b)else p),(if d q then Æ else t q),(if d q then Æ else k q),(W.methodObj Ļ (.ref y)),(.lst [.str ña,.str Ýa]),PySem.F.entry_dict_values,(še [tg] e Ö=pure Æ),(Ìb (Ϟa q ņ Þ f c)),(Ìb (Ϟa c ņ Þ f g)),(Ìb (Ϟa a ņ Þ f b)),(τ.set i (À (Å,d'))),(λf vs=>PySem.call f vs),(yo (i:=3) Vz.nd rfl Ü),(gP ps ĳb+gP ps Ϭc*256),(e2 yZ Ħ (eC (.int 9))),(aW ĉ (λb a=>Řb.1) k),(X.N.map (hide own)++own),(.ins C dx (putF f y fs)),(.call (.ref U) {âa,[]}),(.Compare a [op] [b] pos),((Ϭ x).set (Ł b).1 r),((h.endLine==d.line)=Å),(Δ (xs++zs)),(Đ (Ø ?_)),(σ.set i ϊb),slot_list_getitem.lookup,PySem.F.type_dict_values,PySem.F.slot_tuple_index,[.int x,.tup ùj,.int n],[.int x,.tup Óg,.int 0],(Εb (λ_ j=>0<j) (i%j)),(ģ .inl λw=>.inr Ĕg),(seqObj ę d.toArray 0),(by rw[e];simpa using l),(by let:=l (a&&p);omega),0,(by exact 2<=ã;decide),(args_tuple_getitem _ _),(ZP (tE (XW .list ë))),(List.mem_of_mem_take e),(.Compare a [i] [b] pos),(.Attribute o "get" ϙ),(("q" : Ç).length<=16),"itertools.zip_longest",PySem.F.slot_list_index,PySem.F.slot_dict_items,PySem.F.entry_tuple_add,Nat.testBit_mod_two_pow,Nat.testBit_div_two_pow,Nat.add_sub_cancel_left,List.mem_iff_getElem.mp,List.getElem?_replicate,Builtin.Dict.updateFrom,(Η (Εa (zB õg zN))),(Η (zS vX Em Ñb zC)),(sM Ws a b c hk hv p m),(qZ ÿ (pA (yS 1) p9)),(by rw[l];show c.val k),(W1 l v C hv {n} i a j),(.Subscript ÿa k pos'),((ps++[(ad,e)]).map pD),(zM (zM ċd)),(.Name ę p),"WordMachine.__init__",0,wpAny_pyNext_list_item,PySem.F.slot_tuple_add,PySem.F.entry_max_loop,PySem.F.entry_dict_get,PyProof.Rows.bitAnd_pp,List.pairwise_cons.mpr,List.getElem?_set_self,[ϣb,Ĩj,"_law_cells"],[.str k,.int x,.int y],(λq z=>(ũ).mpr ťa),(λb o j e=>L b o j e),(λb o f e=>S b o f e),(yN (qj QH b rfl Ţa)),(xQ ["State"] "words"),(st Č a b c áb àb),(rI C λi j=>.int ūa),(n.trans (řb e.gh j)),(i pos l s σ H _ I h),(eC (.int 2147483648)),(by rw[wB É];show w),(by rw[c];show{_,g,q}),(b.trans (ĭa b.gh c)),(.inr ((f q).mpr ťa)),(.inl {b,k,e,rfl,rfl}),(.Subscript Øa b pos),(.Call Ϟi Ē [] Ϛ),(.BoolOp .And [a] pos),((uh k x y).testBit i),"_law_start",wpAny_pyNext_list_end,X.s₀.heap.FunFrames,0,Std.Legacy.Range.size,List.set_append_right,Int.mul_ediv_add_emod,[.ref I,.none,.ref S],[.int x,.int (n:Â)],[.dic Ċ Į,.int x],[.Attribute o f pos'],(λo v z=>by cases z),(x.above y c (ĥe h)),(vd (own:=[ġc]) rfl),(tH (u.uy b c v q) d),(f.trans (j.trans n)),(wA (zB Ő ϫe) ŵb),(vd (own:=[Ēb]) rfl),(eC (.int 134217728)),(LH D.l2i2 L.toArray),(LH D.l1i1 G.toArray),(F.args_zip_next_1 _),(An I n j hf f e i g),(.Slice lo hi Æ p2),(.BoolOp .Or [a] pos),(.Attribute o f tpos),(.Attribute o f pos'),(((2 ^ i:Ä):Â)*v),(90+(k:Â)),"str_ascii_iterator","itertools.pairwise",wpAny_loadName_local,Nat.eq_of_testBit_eq,List.getElem?_set_ne,Int.emod_emod_of_dvd,Calls.evalArgs_plain,Array.toArray_toList,["one",Ϟc,"borrow"],(Γ (u8 Q5 Ql rfl)),(Γ (u8 Q4 Qk rfl)),(λz=>e (a.trans z)),(λxs z=>by cases z),(λx y=>D.tup [x,y]),(β++[À (.own d)]),(xi x y&&dEqs xs ys),(x*2 ^ n%4294967296),(tE (e2 VL Ĺ Ņa)),(tE (e2 VL ë Ņa)),(if k then 1 else 0),(if a then 1 else 0),(eC (.int 16777216)),(by rw[ė]<;>omega),(by rw[zt z];show c),(a q ((eL q).mpr z)),(a q ((eL q).mpr w)),(Vh I q w hv ?_ g a),(.fz (.int (u:Â))),(.Subscript a b pos),(.Call c Ē [] pos),(.BoolOp op [a] pos),(.Assign [tg] e pos),((Öb V.str).zip vs),((τ.take k).map jR),((d q).mpr (.inl c)),((0:Â)<4294967296),"dict_itemiterator","Machine.registers",z.cps.toList.length,wpAny_loadName_cell,entry_tuple_getitem,beq_eq_false_iff_ne,Nat.add_le_add_left,List.mem_append.mpr,Heap.SameBut.update,[ž,"low",ϝc,ăb],[.str "d",.str "s"],[.str "d",.str "n"],(ϳb d (gP ps ϵa)),(Υa (kP d) (vP d)),(Δd (ηa (x=.zE))),(ξb (.Name ćb p)),(ξb (.Name ŷ p)),(Δ (χ (ĩb a))),(ğ _ (ğ _ ϛc)),(À (Å,.lst ds)),(zQ ŝ zP ÿ èg),(zQ ŝ zP ÿ öa),(tH (u.tX b e q) d),(storeName Ö x u),(qg λi j=>.bl ūa),(ja (tP ō) zC zC),(intBits_le_64 b a),(f x y&&pj f xs ys),(eC (.str "words")),(by simpa using h2),(by simpa using e2),(by simpa using e1),(by rw[æ];show c),(.tup (p.1.map kV)),(.ret (.int j ĕ)),(.Assign ėe v pos),(.Assign ĉe v pos),"internal:collect","dict.update.loop","Machine.__init__",s.heap.IsTupleIter,getattributeRaised,SeqAt.EqAt.str_int,SeqAt.EqAt.of_refs,SeqAt.EqAt.int_str,PyData.showableAll,Obj.data_mapFields,List.zip_nil_right,List.set_cons_succ,List.mem_filter.mp,Int.mul_emod_right,[.lst ws,.int ħb],(Òa λi=>Æa ħb),(ōa (ĭa c.gh f)),(ōa (ĭa c.gh e)),(Αb (όa es env)),(Ω Ėc (eC že)),(ιb (yk úe Ķa)),(λv _=>v=.bl Å),(λb u q=>ğ _ q),(λb u e=>ğ _ e),(λ_ h=>ß h é),(zU G p (U3 f vs)),(zS yg yf ÿ Ć),(zS bn bi ÿ Ć),(zS Vn Vl Ć Ñb),(zQ ŝ zP Ć zY),(zA ŗb (Α Ďa)),(w b s σ H _ I h),(vB [] [] p.1 p.2),(jW (yt (eC ě))),(by simpa using t),(by simpa using o),(by simpa using k),(by simpa using i),(by simpa using b),(by simpa using T),(by simpa using C),(by rw[şa];omega),(by rw[ř,s];rfl),(by rw[ř,B];rfl),(bS Ŋa (yS 3) zC),(Zz (β.take ü)),(Lq t1 t2 h l1 l2),(Lo t1 t2 h l1 l2),(.str (Œa).shown),(.obj Ý ûe ϛi),(.Tuple es x1 pos),(.IfExp c a b pos),((c+7919*k)*48271),wpAny_sequenceKey,wpAny_assign_Name,meets_dict_values,d.params.defaults,Value.isInt_shape,PyData.hasDictAll,List.mem_cons.mpr,List.any_eq_false,List.Pairwise.nil,Int.emod_eq_of_lt,Calls.spliced_nil,Array.size_append,[āc,Ļd,ŷb,ϣb],[āc,Ļd,ŷb,Ëa],[.str àa,.str t],[.str w,.str Ēb],[.str w,.str "s"],[.str w,.str "n"],[.str k,.str "s"],[.str k,.str "n"],[.fz ϱ,.fz Ĝe],(ύe b o e n F t),(Ϙ i q (I q z)),(Ρ (zB Ć zN)),(Ϣa λg=>kV g.1),(Ϟa g d Þ f G),(Βd (.Name x a)),(Β (Θ (A+i))),(τ++Ų ëb Æ),0,(λx=>x.1.isSome),(λi=>c.getD i 0),(zS yj yi ÿ zC),(zS YH YG zC Ć),(xr (zA Ħ ąg)),(wY (s.free t) _),(qj QO b rfl Ŕd),(i<1099511627776),(e1 ńg (eC ĝc)),(by rw[z];show a),(by rw[i];show y),(by rw[i];show W),(by rw[h];decide),(by rw[c];decide),(List.cons.inj a),(.tbl (ps++more)),(.dK (jA [] kvs)),(.Tuple es k pos),(.Pass {0,0,0,0}),(.Dict [] [] pos),((Ċ).length<yW),((b q c).trans z),"odict_iterator","State.__init__","REGISTER_COUNT","Machine.stands","Machine.memory",z.cps.toList.map,0,wpAny_pyIter_zip,wpAny_execs_cons,noFill_tuple_add,fillsInplaceSlot,e.heap.objs.size,W.cellsFrom_some,Option.getD_none,Nat.zero_testBit,List.zipIdx_cons,List.range'_succ,List.filter_cons,List.drop_length,List.all_eq_true,F.entry_zip_next,Classical.choose,[.str w,.str mk],[.int ad,.int e],[.int 27,.int 5],(Ϣ Nat.succ l),(λz=>h (ϔb z)),(λq=>nomatch q),(λq=>La q\/c q),(λq z=>i q Ϣd),(λq z=>h q Ŏb),(wDs a<=1000000),(vY Z Õ f õ),(vY Z Õ f â),(vB [] [] ks us),(tq ëf į û),(by simp[ϥg,d]),(a.symm.trans e),0,(Zz (β.take b)),(Int.dvd_refl _),(.tup [ěa,āg]),(.inr (i q Ϣd)),(.fz (.int 256)),(.cons rfl .nil),(.builtin "sum"),(.builtin "all"),((Ŗd).length=n),"type.__call__","list_iterator","NUMBER_WIDTHS","Machine.steps","Machine.place","Machine.marks","Machine.again",wpAny_loadPart',sc.names.lookup,noFill_list_add,g.isList.typeIs,(Ŧh (řb e.gh i)),PyData.depthAll,Nat.testBit_xor,List.zipIdx_nil,List.nodup_cons,List.map_const',Heap.DictOf.new,F.slot_int_rmul,[.str w,.str k],[.int 0,.int W],[.int 0,.int 8],[.at [Ŀ] ϒa],[.at [Ŀ] ŏ],[.at [Ý] úb],[.at [Ý] ϸa],(Ψ (Α âg)),(Θa (À īc)),(Δ (xs++[y])),(Β (uZ ps a)),(Β (i+b2i k)),(όa [e,f] Ö),(Εa (Γ żi)),(À (Δa Ĝd)),(σ++Ų 1 Æ),(λi=>jb Z Ż),(λa=>.tup áj),(xg A b tg õ),(uM ks ms k m2),(u.g.trans e.g),(q _ _ _ d rfl),(o rfl rfl rfl),(eC (.str ŷa)),(eC (.str Įa)),(eC (.str ğa)),(e2 zb Ħ û),(e2 zD ŗ į),(e2 zD Ħ û),(e2 zD Ĺ į),(e2 yK ë ă),(e2 ve Ÿb ă),(e2 uk į ă),(e2 Q2 ë ă),(by simp;omega),(by kernel_rfl),(ak λi j=>i+j),(Rd.tw t Ċj q),(OU I m v ?_ a),(N7 sp [] E0 t),(K.ext.trans x),(I.ok.WW b o e),(2*n<1*2 ^ Øb),(.fz (Δ ňa)),(.fz (.lst PL)),(.fz (.lst NS)),(.fz (.int f')),(.fz (.int W')),(.bl (vJ ks k)),((ũ).mpr Ùb),((u p).mpr rfl),((t p).mpr rfl),((f q).mpr Åd),((c q).mpr ϙb),((c q).mpr Ōa),"str_iterator","Machine.step","Machine.byte","ADDRESS_BITS",wpAny_setField,sliceRange_one,slicePart_none,recursionLimit,firstArgMember,env.scope.kind,Value.type.inj,PyData.keyHash,Nat.testBit_or,Nat.max_le.mpr,Nat.add_le_add,List.forIn_nil,List.drop_zero,L.toArray.size,G.toArray.size,[a,b,x2,x3,x4],(ïj (um c k)),(Łe tg ϓa u),(ľd (Æ,())),(Ĺb [tg] Ö),(ĺa l.ext.gh),(ą õa::Äd),(Á V×Á D),(σ.set i Ñf),(λi=>Úf i 0),(yz x&&Šb yz),(xV ks ds x y),(x/16777216%4),(wY (Šd j) _),(wY (Šd i) _),(vI Z Õ f i),(u8 Q6 Qm rfl),(u8 Iy Ox rfl),(tG Z Õ j t),(pre_splitW b),(pH fs vs f w),(pH fs ms f e),(eC (.int 40)),(by size_fits),(by rw[G];rfl),(a.getD i Ã),(AY à I.big),(AP X z8 σ Q),(.int ūa ĕ),(.int (w:Â)),(.int (j:Â)),(.ins C dx []),(.inr (e q z)),(.inl (k:Â)),(.fz (.int u)),(.fz (.int N)),(.fz (.int A)),"list.append",wpAny_newList,wpAny_attempt,tupleItemsOf_,subscriptTail,seq_tuple_add,s.heap.IsList,s.heap.IsCell,r.length.symm,h.IsTupleIter,evalPart_none,call_list_seq,WData.layable,Value.isStrOf,NameKind.free,NameKind.cell,L2.isort_perm,Int.mul_assoc,[þd,Ϟc,ąa],[ęc,Ŭj,Ŵe],[Żc,Řd,Ŋe],[Żc,Ļe,Čc],[àa,ãa,ğa],[Ϫ,œa,ϸa],[ž,ŉa,ġc],[Ëa,Ąa,ŷb],[z,TI,TO,C,r],["_law_pair"],(Òc%65536+0),(ξa (ßb d)),(ĳc ϓd ìf),(ϻb (Ϙb s)),(Ϙ i q Ŏb),(Ĩc _ _ p x),(Θa (À a)),(ϗc (d q h)),(ċ ϻ Ö),(Ζ ŗb Âe),(Ζ ŗb Ďa),(Ζ ϫ Ñd),(òb (όe _)),0,(Āe%65536+3),(Āe%65536+2),(Āe%65536+1),(Āe%65536+0),(Β (2 ^ w)),(Ĺb Ē Ö),(Ω όb Ġj),(À ėd::yM),(À (Ã,x)),(À (.fz z)),(σ++[À b]),(λj o=>j++o),(λi=>pZ Ż),(ze (yJ Ő)),(zU H' a Ń),(zU H' D ϕb),(zU G' a Ń),(xg A b tg i),(xW ps x Òd),(v/65536%256),(ps.drop õ),(ps++[(a,b)]),(jA kvs more),(i p (j p w)),(eC (.int 6)),(dunderI įa),(c*134217728),(b.gh.free c),0,(b q λw=>?_),(Y2 xs lo hi),(WA (K:=K) e),(St->Hp->È),(.str s t::r),(.str (nk i)),(.str (i++j)),(.str "jump"),((n:Â)*8+d),((2:Â) ^ n),"dict_items","NUMBER_LOW","NEAR_CODES",s.cps.toList,mul_one_list,h.IsListIter,d.toList.any,c.symm.trans,W.kitx_tuple,OwnMs.length,Nat.sub_zero,Nat.pow_succ,Nat.mul_comm,K.ext.h.free,Int.zero_add,Int.sub_zero,Int.max_comm,Int.add_comm,Array.toList,[ůa tg Ö],(Ía .NotEq),0,(Ų Ű xs),(λz=>e ìd),(λx v h=>h),(λi v h=>h),(λc=>l Ŋf),(λb v h=>h),(λ_ _ e=>e),(zy Ôk Ì),(zy Òg Ì),(ze (yJ tK)),(zU H l ϩj),(zU H l Ŷd),(zU H l ϳi),(zU H l ϕb),(zU C p ϑi),(zU B p Áj),(zA Ħ ϭc),(yz m&&yz o),(x.rebase y),(ww û Ŀa),(ws.map Ě),(wW kvs k y),(wV (Êa f)),(u7 m π m2),(tj 1 [] vx),(tC (.ty T)),(qF fs fg g),(p.ok j q z),(p.bs b o e),(okb.Uf b d),(newList []),(loop _ rfl),(k.ok i q z),(k.append o),(is.map Ě),(hr.mono hk),(c.h _ _ e1),(by cases h),(b.h.free c),(a.map V.bl),(a (qk r.2)),(Xc X.K n t),(Ln t1 h l1),(I.Yo x c e),(FL Õ Ŗg),(BR a o kvs),(BO a o kvs),(30+(k:Â)),(18+(c:Â)),(.type T.nm),(.tup [āg]),(.tup [v,u]),(.tup [u,v]),(.inr {g,j}),(.inl {z,w}),(.inl {g,j}),(.dic ks vs),(.dic ks ds),(.builtin i),((c q).mp z),"enumerate","_law_some","_law_mark","_law_here","_law_cell","WORD_BITS","FAR_CODES","BYTE_LOWS","BYTE_BITS",wpAny_in_of,unsupported,subscripted,o.ExactDict,m.heap.get?,len_mul_leN,keywordEach,keys.length,k.objs.size,interactive,e0.zf.fresh,c.objs.size,acc.toArray,W.kitx_dict,Value.isInt,Value.bytes,Shared.heap,Reps.length,Reps.append,Paired.snoc,OwnMs.split,OwnMs.parts,Option.none,Nat.pow_pos,List.range',IsRangeIter,I.ok.pR.mem,I.ok.frames,Heap.ExtBut,E.ext.trans,D.TOi1.symm,Code.guards,Code.frames,Builtin.Str,[new,ov,iv],[a,.fz ϫf],[a,.fz Ěd],[S,.fz ϫf],[S,.fz Ěd],["key",ņd],(ϳb d ϥf),(χ (Îg)),(χ (żc)),(ηa (x=y)),(ηa (i=j)),(ċ e env),(ċ a Ö),(Ξa (i-j)),(ϖa "q" b),(ϖa "q" a),(Β (c%5)),(Β (3*1)),(Β (3*0)),(ác ϡi b),(Ĵb _ ŉ),(Δa (A+i)),(ψa (j<i)),(Ŵ Ϯb f),(Ų k its),(À (_,d)),(zg Wp ϋc),(zU H' D o),(zU H x o'),(zU H a u'),(zB Ϫf zN),(zA ŗ zG),(xv I q ?_),(w8 ϖe qR),(w8 ÿ jp),(v/256%256),(uj Wy ŕd),(u.trans e),(n=0->v=dv),(j.cut l h),(i.cut l h),(gP ps ĳb),(fs.zip vs),(eL qT ŕd),(e1 Y6 į),(by show t),(by show O),(by show B),(as.zip vs),(W.sub _ h),(W.inj i d),(SP X z8 D),(Cv f y fs),(A j q l z),(8*2097152),(.yD o îa),(.type Đa),(.rt Å d),(.rt m β2),(.ok .next),(.Name x j),"distance",z.cps.size,wpAny_load,vw.none_of,pushGuards,piled_cons,isTrue_and,closureFor,Ws'.length,WShape.has,W.kdl_dict,W.kdl_call,W.handedIn,Subscript_,OwnMs.putF,D.i2z.symm,0,D.i12.symm,[p0,p1,p2],[.str şb],[.lst ća],[.lst ıb],(Ře C dx),(Öb .inr),(İd f ?_),(ŋa<1000),(ûb this),(Ų k xs),(ä==ŭ),(Å==Å),(Þ==Ϥg),(λv h=>h),(zU H a c),(zU H T o),(zU H D o),(zU G p o),(yx b=Å),(xi d1 d2),(xW d u v),(xR A õ),(wW d k v),(w/2 ^ 31),(v_ its k),(vZ Ńg i),(um c Đk),0,(truthy v),(qh 1 İe),(o.getD d),(n b ob e),(by rw[h]),(by rw[c]),(ZC ks ds),(Z9 e rfl),(Yo y c e),(W.vl q h),(Ve ĉ n),(VI z b a),(P.zip vs),(FL Õ j),(2 ^ 63-1),(.tup Ŀh),(.tup Źg),(.tup ğj),(.tup ēg),(.tup ùj),(.tup ëj),(.tup ϯi),(.tup ϻf),(.tup ıb),(.str ūb),(.str Ľf),(.str ãa),(.str Ða),(.str śc),(.str x t),(.str "s"),0,(.ref ōd),(.ref üa),(.own Æb),(.lst ϧi),(.lst Şc),(.int ő),(.int ä),(.int p.2),(.inr ěb),(.inr ϔa),(.inr ąa),(.inl ħb),(.inl ïb),"Machine",z.sameBut,va.length,spos.line,slicePick,sh.extBut,sg.extBut,s.heap.Ns,o.g.trans,maxI_uniq,lastMarks,kvs.foldl,j.gh.free,isTrue_or,h.toArray,h.IsTuple,h.DictOfH,getMethod,g.isEmpty,es.length,eq_of_beq,cond_true,Str.empty,Reps.take,Reps.getK,Reps.getA,Reps.drop,"address",I.zf.kept,Arguments,[ÿd k,d],[ýd,űa],[îg,ïg],[Ōe,Ëa],[ϣb,Ĩj],[āc,Ŵe],[ăb,ϝc],[Ϫ,œa],[ϻa,ôk],[ŏ,ϒa],[ŏ,ľa],[x,y,z,u],[w,x,y,z],[v,ov,iv],[r,dd,ff],[a,.fz r],(Ņf ϓa),(Ëe n y),(Êe d.g),(Ée ōd),(Úf i 0),(Šg É),(Őj=Å),(ĺc ą),(Οb íd),(ϳb d w),(ϳb d v),(řb s t),(Ŗb s h),(ωb ŀh),(χ Ğg),(Χ ϕe),(đb<=16),(Ηb Ϯc),(ξb Õk),(Ξa ūa),(ζa Őj),(υ Ðf),(δa Ϟi),(Δ ŕg),(Β ūa),(ι Žj),(ωa źg),(ωa öj),(Τ ņa),(Ía .Eq),(ιb ýe),(Εa íc),(Δa Çg),(Ùa ϐa),(Ùa ö),(Γ Ŗe),(Γ Ýb),(Γ öa),(Α ϫ),(Α õc),(Α ϊa),(Õa _ m),(Õa _ d),(đ É),(ī c.1),(Ò rfl),(Đ ϡi),(Đ Íb),(ğ _ f),(å É),(Ø ÿh),(Ø Ϫj),(À Śj),(À ŗg),(À Ňj),(À ôj),(λc=>?_),(zA f fs),(xs++[a]),(xL K gT),(xL K Zm),(xL K Wm),(xL K Wk),(xL K We),(x/2 ^ n),(x/2 ^ l),(x*2 ^ n),(x a o e),(v_ [] 0),(vQ K pS),(vQ K Yv),(vQ K Wj),(vQ K Wi),(vQ K Wh),(vQ K Wg),(vQ K Wf),(vM ks x),(uI f fs),(st::sts),(q _ _ d),(pyTs ds),(k K b z),(jA [] b),(j _ _ e),(gP ps x),(cut H L),(b.zip m),(b _ _ e),(a[Ű]?),(a++[yv]),(N/W%256),(Hp->È),(F b o e),(C q Ōa),(C q ťa),(A.n X G),(2 ^ w-1),(.v d::a),(.rt o d),(.ref Zi),(.ref Zh),(.ref Zg),(.ref Wc),(.ref Wb),(.ref Wa),(.ref WZ),(.ok ϒd),(.nx ϫj),(.nx β'),(.int g0),(.int 21),(.int 20),(.fz ϔd),(.fz Ϩ),(.fz ϫf),(.fz ďd),(.fz Ďd),(.fz čd),(.fz Üc),(.fz Čd),(.fz cnt),0,["State"],(x==("__debug__" : Str)),(zy (Jq (n:=6) Ì) Ì),(by cases y<;>show c),(tN ϣ tm),(λd=>À (Ã,d)),(by show Ôd {?_,?_};rintro(⟨z,w⟩|⟨z,w⟩|z);show .inl {z,λy=>w Šf};show .inl {i q z,w};show .inr z;rintro(⟨z,w⟩|z)),(by cases e;rw[č]at c;subst c;show{_,uA Ė,?_};simp only[ſa,Ŧ,Ň]),(by subst e;let{o,e,c,d}:=st;show{o,e,λv z=>by rw[d]at z;cases z}),(by let{t,p,k}:=h.h;show{{t,p,λE a q=>?_}}),(by let{G3,d,I,s,rd}:=k.ud i G H x f śb Ãa hlt y;rw[Źb hlt]at a;rw[Ĳ hlt]at s;cases s;let{τ1,h1,a}:=zF (show(c _ τ).bind _=_ from a)),(by let{c,E,rfl,j,i,t}:=r2;cases(show u=ą a from rx);cases(show v=ą c from ry);by_cases hac:a=c;subst hac;rw[Ic I ĸ _ _ _ q o p]),(by decide +kernel),(by rw[show ϛe Ŷa=ϙf Ŷa by simp,Td r c];show q),(by intro l s σ H x y v u Q I i g h;let{m,o,k,f,e,d,q}:=h;by_cases hf:ĉm=Å;let c:=hf;rw[ø]at c;let{a,b}:=dg d c.1 c.2 f e),(by rw[Ė];show Ŵ åa.1 œ),(by let e:(âf).cps.toList=(Ům).cps.toList++[97+Ű]++(ŭm).cps.toList:=by unfold qn;exact(Æj).toList=_;rw[ńe,ńe];rfl),(by intro X N O S m i z8 s σ H E I F st B;subst N O S;let{ok,ov,g}:=st;let{_,f,j,T}:=VQ ĉ B.1 d;let r:ģa=ĵ:=j7 j),(by exact _<16777216;omega),(by by_cases c:B q;show .inr üh;show .inl {z,c};show .inr Ōa),(by let{W,B,e1,T,i,X}:=ěc r a;let{v1,L1,U,P,j,R}:=Ęf Y T ee),(by intro X u x A O i R s σ H E I q st L;subst u x A;let{vs,f,F}:=g ò à ţ;let n:ö=ġ:=by rw[j7 f,Úa,Q,ϰ]),(by cases d;rw[e]at a;cases a;rw[l]at b;cases b;show Ģb r c),(by split at a),(by let{a,B,rfl,g,l,z}:=n;let{c,C,rfl,j,i,q}:=m;cases(show u=ą a from p);cases(show v=ą c from o)),(by intro X t x A L i N s σ H E I p st n;subst t x A;let{_,f,g,C}:=VQ ĉ n.1 d;let m:ģa=ĵ:=j7 g),(by by_cases c:k'=k;rw[Ò c]at e;cases e),(by let b:=Cw (n:=n) É;rw[hk]at b;let a:=Qb (n:=n) É),0,(by have e2:ķ (·.1)=(ťc).map (·.1)++p.1::(Ïm).map (·.1):=by rw[<-a,<-Ť,<-Źb e,<-Ăa,Ĵe]),(by by_cases hb:b=a;subst hb),(by obtain⟨⟨n,g⟩,q⟩:=g;subst ex),(by rw[<-(ϻc).WS,<-l];show h _ Ğb;subst f;cases(show u=ą b from m);let{z,i,r,c,d}:=XT ĉ e),(by intro X hP hw hK d i z8 s σ H E I hf st hg;subst hP hw hK;let{g,j,{u,v,m},p,n}:=st),(by intro e s σ H x y v u Q I c b h;let{i,j,rfl,rfl,q}:=h;let{t,rfl}:=c;let{d,rfl}:=b),(by intro c s σ H x y v u Q I b a h;let{i,j,rfl,rfl,q}:=h;let{t,rfl}:=b;let{d,rfl}:=a),(by cases(show v=_ from r)),(by let e:(2:Ä) ^ 40=1099511627776:=by decide),(by intro X j l q p i C s σ H E I d st y;subst j l q;let{u,A,L,r,x,m}:=d it é),(by intro X N O R Q i T s σ H E I q st G;subst N O R;let{C,J,Z,y,F,p}:=q it é),(by split at z),(by by_cases c:k'=k;rw[Ò c,Ò c]),(by show Ø (m:=Če Ŕb) ?_;unfold Če;show Ø ļj;simp only[Ň];show Ø Ój),(by rw[Ô c]at b;cases b),(by rw[Ò c]at b;cases b),(by let{j,f,d,r,z,q}:=c;refine{by rw[<-Ŷ];show z,?_};let k:f üa=Æ:=Ķg Ę),(by cases(show e=[]from n);show{a,_,rfl,vi Ãa c,rfl,k,_,rfl,l,_,rfl,rfl,?_}),(by show .inl w;by_cases c:L q;show .inr ťf.2.1;rw[b q c]at w;show .inr w;let hi:i<σ.length:=by rw[Êo]),(by exact _<=16777216;omega),(by split at d),(by intro b l;exact b<(ęa _).objs.size;rw[ób];simp only[ϒb,ñb,ϰb]at l),(by by_cases hj:j=i;subst hj;rw[L]at e1;cases e1;rw[Þk K]at e2;cases e2),(by show{Ğf,λb q=>?_,h};cases q;let{ob,_,_,g,f,_}:=c;show{ob,g,f.2.1}),(by rw[ĕk (ßb hj)]at e2;let{u',Y,q}:=hl j y v' e1 e2 e3;show{u',Y,?_}),(by let{v,r,rfl,b,a}:=h),(by by_cases c:d q;rw[e1 q c]at z;cases z;rw[e2 q c]at z;show ϥa _ _ z),(by intro j s σ H x y v u Q I g c h;let{a,b,k,rfl,rfl,e,q}:=h;cases c),(by intro c j n v u h r q;let{a,f,rfl,C,y,_}:=r;cases(show u=_ from q)),(by let{p,a,w,e,g,l,r}:=h;let{b,d,c}:=ŀf r;show{b,{p,a,w,e,g,l,d},c}),(by cases a;show{_,_,b,c,q _ _ _ ϑ rfl}),0,(by show äc _;show Śe c;rw[<-j];show eV A;intro G y t' k;rw[<-j,e]),(by let{N,e1,F}:=f n l;let{G,e2,C}:=f t x;show O j N G _ _ e1 e2 F C),(by intro k s σ H x y v u Q I g j h;let{p,l,rfl,b,f,c,q}:=h;cases j),(by cases f;rename_i g h;let{a,m,rfl,B,k,_}:=w;let{b,A,rfl,C,o,_}:=r),(by split at h;rename_i e),(by show{_,rfl,?_}),(by rename_i c;rw[ø]at c),(by by_cases c:L q),(by let{t,n,y}:=f.h;show{{_,(Ñk).h,λE b q=>?_}};let{o,B,b}:=zF b),(by split<;>omega),(by split at f),(by rename_i p i;let{a,m,rfl,f,j,_}:=k;cases h;let{w,g,e}:=Gb j b),(by change (match yz x&&Šb yz with|Å=>À ľe|Ã=>Æ)=À k at b),(by obtain⟨⟨m,β1⟩,b,a⟩:=zF a),(by intro i s σ H Q I h),(by intro g s σ H Q I h),(by split at b),(by rename_i o;let{ns,j,b}:=zF (show(gu o).bind _=À d from b)),(by let{k,c,a}:=zF a;cases a),(by rw[ľ];omega),(by let j:Äa=ώb:=by let:=Ϧd;rw[æ]at this;rw[ė];show this),(by let:=Ĺa c.1 n e;rw[ø]at this;show{ī this.1,ī this.2}),(by rw[Ă,æ,żb];omega),(by rintro g c v ⟨b,f,e,q,r,l⟩;show{b,f,e,?_,Ϡa c r,l}),(by show .inl w;by_cases c:d q;show .inr Ϸd;show .inr ŕe),(by rintro i m σ H ⟨rfl,v,τ,G,K,a⟩;by_cases hlt:i<ŵ),(by let{p,i,w,rfl,e,l,r}:=h;let{m,g,j,d,a,b,c}:=h';rw[Ño]),(by let{a,z}:=u.qp b g q;show{a,by rw[zt (tH z d)];show z}),(by intro c s σ H x y v u Q I a b h;let{rfl,q}:=h;cases b),(by show Ø (m:=Ïc Ŕb 2) Ĥj;show Ø (m:=Ïc Ŕb 3) İj),(by rw[show(ϯ).N.length=ô+ëb from A4 X own]at q;show q),(by let{x,i,f,l,d}:=e;let{c,rfl,d}:=d;cases l;show æc ?_),(by let q:=(ϻc).WS;rw[ķg]at q;rw[<-q,<-l];show h _ Ğb),(by cases(show _=[]from r)),(by cases(show _=[]from h)),(by cases f;let n:(g++h).length<=ã:=by rw[ľ,Ă];show c),(by show{{o,e,d.1},λa e2=>?_};cases e2;show{o,e,d.2.1}),(by let{a,l,rfl,b,f,_}:=r1;let{i,m,e,d,c,_}:=r2;cases e),(by let c:(ġb ôa:Á zX).length=Ś:=by rw[æ,e.len,Ŷ]),(by exact Û _ _ Ňn _ _ s;rw[Ô (show ¬ Ĺn from Ŋ)]),(by let{t,h,q}:=c b A þ s H vs Q E n e;show{t,h.tW,q}),(by let u:((Ϩc).length:Â)<=1000:=by exact_mod_cast m),(by let e:=ϑa.2.1;rw[çd.2.2]at e;show ϑa.2.2.some e),(by by_cases z:n=0;let a:decide Ïf=Å:=å É;rw[Ò z]),(by rw[Ϻ];show č),(by rw[Ă,Ė];rfl),(by rw[c]at b;cases b;rw[ø]at c),(by intro X q r y N i O s σ H E I l st J;subst q r y),(by intro X n q t N i O s σ H E I j st G;subst n q t),(by cases a;show q _ _ _ Ďb rfl),(by let{y,ey,a}:=zF a;cases jO ey;let{nd,hn,a}:=zF a),(by let{w,s,_}:=ϑa.2.2;rw[s];show x.h _ _ s;rw[Âo]),(by let{l,m,c,d,k}:=a;show⟨x::l,m,c,.cons i d,k⟩),(by exact(match jC 1 (w:Â)with|Å=>À Ěe|Ã=>Æ)=_),(by exact À Êh=_;rw[show êe=decide (i=j)from rfl]),(by unfold ZC at b;rw[ϋa,<-Ĕb]at b;rw[Úa];show b),(by show .inr z),(by let{t,p,k}:=h.h),(by exact Ϥc öh _=_;rw[Q];rfl),(by cases n<;>cases h),(by let{a,b,c}:=Ϙ i q z),(by let{_,_,_,_,o,_,_,e,d,_}:=ĉ p _ b;show{o,e,d}),(by let n:(Òn).length<=ã:=by let:=EG d k v;omega),(by intro d s σ H Q I h),(by intro b s σ H D I h),(by rw[wB É]at this;show this),(by let{v,rfl,a,y,rfl,f,h,l}:=qD r;rw[OE j h]at f),(by let{n,o,i,k,v}:=c;show l d m σ o n u Q i k v),(by let:īd x=À .free:=a;rw[k]at this;cases this),(by let:b=Þ:=by simpa using z),(by intro L s σ H N J Q I r h),(by exact(ϳd).bind _=_;rw[e1]),(by intro e s σ H x y v u Q I d a h;let{c,q}:=h),(by simp only[Ú,a,n,b,i];rfl),(by show .inl z),(by rw[Q9];unfold XO),(by rw[Q8];unfold XN),(by let{to,po,ko}:=ho.h),(by let{t,rfl}:=d),(by let:=œ;omega),(by let y:yK ώ űm=À ώ:=rfl;rw[I_];unfold VA),(by constructor<;>omega),(by rw[Òo];rename_i b c e;show{b,c,e};cases a),(by let m:(Ϩc).length<=1000:=by rw[Ęa];omega),(by by_cases c:ϱb+ŭ<=yW;rw[Ò c]at a;cases a),(by apply øc;intro j;by_cases hj:j=i;subst hj),(by subst e;show d.Zb Ę Żh),(by let{a,C,rfl,g,l,B}:=r1;rw[Æo];show Ċg _),(by let e:Öf i=[]:=ăg Ħg;rw[e]at a;cases a),(by rw[Ċo];show{_,rfl,λq=>{x,y,k,b,e,c,q}}),(by let{G,ru,pu}:=I.WX Y;let{L,B,pw}:=I.WX Z),(by split at h;rename_i c;show{c,h};cases h),(by simp only[Ò c]),(by rw[Ĉo];rw[Òo]),(by rw[çd.2.1]at z;cases z),(by let a:21<=yW:=by decide),(by intro x h;show ß h Ĕd),(by show{x,y,(ϵd).trans w};by_cases c:d q),(by let{k,b,_,_}:=ŗi (α:=Ä);let i:=A.ix),(by let{G,N,U,B,J,y}:=q it é;rw[<-n]at st),(by split at e),(by simpa using h),(by simpa using e),(by show Ø ?_;simp only[àl,ďl,Ţg,Śl]),(by rw[ľ,Ă];show c;rw[Ô c]at a;cases a),(by rw[Ă,č];rfl),(by rw[å z,đ É];rfl;rw[đ z,å É];rfl),(by let{x,f,H,K}:=C G;let{y,L,R,y1}:=C hs),(by cases a;show{_,λ_=>rfl,λq=>{_,r,q}}),(by by_cases z:b=a;subst z),(by split;rw[æ];omega;rw[Ă];show Üa _),(by rw[Ġ,show n+(Ĉ+1)=n+1+Ĉ by omega]),(by rw[e1 q c]at z;show z;rw[e2 q c]at z),(by let{tk,pk,kk}:=œc;let{tv,pv,O}:=řa),(by let{ti,F,T}:=hi.h;let{tg',U,R}:=hg.h),(by let:x≠n:=by rintro rfl;show h v ŉ),(by rw[ło];show .inr Įm;show .inr Ōa),(by rw[Ċo];show{_,rfl,λq=>ab b e c q}),(by constructor),(by cases w;simp only[Ň]),(by by_cases e:p.1=k;let a:q.1=k:=ém e),(by show .inl {(ũ).mpr Ōa,w};rw[İo]),(by rw[O2];unfold VD),(by rw[O0];unfold VB),(by rw[Fi,Êb n,Êb d,Êb s];unfold Th),(by obtain⟨⟨m,β1⟩,hy,b⟩:=zF b),(by let i:d<ť:=ád.1;rw[aM];unfold Jv),(by let e:=Ŷ;simp only[ìb]at e;omega),(by let K0:=K.gQ (d:=.zE) (v:=.zE) rfl),(by rw[t.ne b hb];show h),(by rw[eL]at E;let{Z,f4}:=S n u îl o),(by obtain⟨⟨m,β1⟩,z,c⟩:=zF c),(by let{z,f,c}:=zF c;let{k,i,c}:=zF c),(by let{p,q}:=Āi (P:=P)),(by let:c=b:=by simpa using Ϣ ôm d1),(by let a:vG qW qX ĝc=À ŧc:=by rfl),(by intro l s σ H Q I h;show Ĭd ĺl),(by intro i s σ H Q I g),(by cases a;show q [] _ _ Űa ňh rfl),(by unfold p7;by_cases c:k=i;subst c),(by rw[show n+1+i+1=n+õ+1 by omega]),(by obtain⟨⟨h,m'⟩,p,c⟩:=zF c),(by let g:gc èf 0 ùc=.p 0 ùc:=rfl),(by let c:wN 134217728=Å:=by decide),(by intro c s σ H x y v u Q I b a h),(by by_cases h:p.1=a;rw[Ò Ün,Ò h]),(by subst f;let{z,i,t,c,d}:=ju ĉ e),(by simp only[Ú,e1,e2]),(by simp at h1 h2;subst h1;subst h2),(by show{rfl,rfl}),(by show q _ _ _ ϑ rfl),(by show .inr {_,Ãa _ _ e,λo=>?_}),(by rw[Ăo];rw[ìo]),(by rw[Ô c,Ô c]),(by rw[Òo];show d É;show a;show b),(by rw[wB ķb]),(by rw[e]at h;let a:y=n:=by rw[Şo]),(by rintro(⟨z,w⟩|z)),(by let{z,B,d,r,q}:=c;show{d.xc,?_}),(by let{s,l,e}:=n.h;let{y,r,j}:=g.h),(by let{o,j,e}:=l.h;let{u,n,i}:=f.h),(by let:=Ŷ;rw[æ]at this;show this)],[(zA ἀ zG),(.int ἀ),(zB ἀ zN),(.lst ἀ),(ze (yJ ἀ)),(e2 zD ἀ ἁ),(zS yj yi ἀ zC),(ἀ%65536),(yc (zA ἀ ἁ)),(zQ ŝ zP ἀ ἁ),(λC s H c d=>ἀ),(zA ἀ zG),(zB ἀ zN),(xr (zA ἀ ἁ)),(yG Ŗc y_ ἀ ἁ ł),0,(zB ÿ ἀ),0,0,(e2 zD ă ἀ),(.nx (À ἀ::yM)),(ze (pK ἀ)),(zB ō ἀ),(zA Ĺ ἀ),(zA (eC ἀ) (Α ἁ)),0,0,0,0,0,0,0,0,0,(zc (xI ἀ ἁ xY) (Ε ἂ)),(vq (tE ἀ)),(zS yg yf ἀ ἁ),(zA ë ἀ),(zA ë (Α ἀ)),(λC s H b c=>ἀ),(e2 zD ë ἀ),0,0,(zg vk (η ἀ)),(zU H p ἀ),(wX (zJ ἀ) wg),(À ἀ::yM),0,0,(ul 0 [.at [Ŀ] ŏ] Ýc ἀ),0,0,(zS yg yf zC ἀ),0,((ἀ).map Ě),(ya (jB ἀ)),(zA ă ἀ),(kI ἀ rfl),(.plain ἀ),(uW ἀ ZI),(.fz (.int (Θ ἀ))),(zr vf b rfl (zB ÿ ἀ)),(zc (gD ϴa rfl ἀ ἁ ἂ) (ze ἃ)),(Ε (wA (zB ἀ ἁ) ŵb)),(β.set i ἀ),(ya (qA Ϭi úa ἀ)),(yE (Ξ ἀ ἁ)),(vn ἀ rfl),(zA û ἀ),((u q).mpr (.inr ἀ)),(qg λi j=>.int ἀ),(zc (xI ἀ ἁ xY) (zc ἂ ἃ)),0,(zr tu b rfl ἀ),0,0,(zA Ħ (Α ἀ)),(.own (.dic ἀ ἁ)),(ἀ%4294967296),(Ιe ϊd ἀ),(W8 (U7 ἀ ἁ)),(wA ἀ ŵb),0,0,0,0,0,0,0,0,0,(u4 (uK ἀ) (ya ἁ) pC),(.Call ἀ [] [] cpos),(Ø (PySem.wpAny_onRaise ἀ)),(if ἀ=Å then _ else _),(.bl (decide ἀ)),(δ (e2 yq ϊa ἀ)),(tE (e2 zb ë ἀ)),0,0,(ul 1 Àg ěd ἀ),(yN (uq rfl ἀ ἁ ἂ Šc ἃ)),(Żi _ _ ἀ),(jZ 2 Ħ ἀ),0,0,(ya (γa ἀ ἁ)),0,0,(ZP (tE ἀ)),0,(e1 ἀ ë),(vV λi j=>decide ἀ),(.Call ἀ Ē [] pos),(backTo pos ἀ),(swapsWith v (À ἀ) pos.line Ö=pure Ã),(Oa (ZH (n:=2) rfl (uW ἀ ἁ)) rfl rfl Ì Ì),(ZA 0 [.at [Ŀ] ϒa] (eC ἀ) (yt ἁ)),(rI ἀ λi j=>.int ἁ),(λq z=>zt λc=>z ((ἀ).mpr c)),(.str (xw ἀ).shown),(qg λi j=>.bl (decide ἀ)),(xI (W7 (tP ἀ)) W6 xY),(λC s H fp pn=>ID ἀ),(λC s H fp pn=>IC ἀ),(e2 yK (eC ἀ) (z6 2)),(λC s H fp pn=>(ἀ).h),(vV λi j=>decide ἀ),(zQ ŝ zP ἀ zC),0,(ya (qA ćc Öa ἀ)),0,0,(yc (λ_=>À ἀ)),(Xv Ŋa ϻn zY ἀ),(λC s H c d=>ἀ),(yN (yk ἀ Ϲn)),(yN (uq rfl ἀ ἁ ἂ Ēe ἃ)),(Α (e2 yK ἀ ἁ)),0,0,0,0,0,0,0,0,0,(οb (θb ἀ)),(Đ (Ø ἀ)),(e2 yZ ἀ Ϛc),(e2 yK ŗ ἀ),(W5 rfl vt ἀ),(yo (i:=1) (show (ἀ).Nodup by decide +kernel) rfl Ü),(yG (qd (zI b)) qc (zJ Öa) (zJ (yN ἀ)) ϲa),0,0,(vC Ŗc y_ (zJ ἀ) (zJ zC) ł),(γa (yG (pG ἀ) pF (zJ ἁ) (zJ ἂ) ł) (k5 (xG tK))),(.Call ἀ [e] [] pos),(vn (θ ἀ) rfl),0,0,(J1 (i:=8) kF.nd rfl Ü (yN ἀ)),0,0,(vC (qd Ŋa) qc Ϗa (zJ ἀ) ϲa),0,(σ.set i (À (Å,.lst ἀ))),(jB (jX Xk b rfl (pA ϣ ἀ))),(yG ϊc pF ἀ ϕa ł),(.Call ἀ [e] [] cpos),(El G H ἀ y u v d Q s f e Ϻn q),(tE (e2 zb (e1 ἀ Ĺ) ë)),(vC ĩg y_ (zJ ἀ) (zJ ἁ) ł),(.nx [e0,e1,e2,À ἀ,e4]),(λq z=>.inl ((ἀ).mpr z)),(Kk Dy Ek rfl ZS IE ἀ),(ZH (n:=2) rfl (uW ἀ ἁ)),(Ġb β i π ἀ),(δ (e2 zb ϊa ἀ)),(yE (e2 ἀ ă Ĺ)),(e2 yZ (μ ἀ) Ŀa),(sM Ws a b c ἀ ἁ p q),(yE (xr (Ψ ἀ))),(Ġb r.2 i π ἀ),0,(Φ (yk ἀ ęd)),0,0,(zA ϊa (Ψ ἀ)),(rU λi=>.int ἀ),(zr gs b rfl ἀ),(zr Xl b rfl ἀ),(zr Xj b rfl ἀ),(zS vX u5 zC ἀ),0,0,0,0,0,0,0,0,0,(yN (yk ἀ ŵb)),(q _ _ _ ἀ rfl),(θ (Κe Ϣh ἀ)),(qY (qS X2 ἀ)),(YV (tE ἀ) (tE ἁ)),(ôd (ἀ).shown),(Μd (Γ ἀ)),0,0,(ν (Δ ἀ)),(μb (Η ἀ)),(e2 yZ ἀ új),(e2 yZ ἀ Įd),0,0,(wx 2 (wv ἀ)),0,0,(Λ (yo (i:=12) (show (ἀ).Nodup by decide +kernel) rfl Ü)),0,(λq z w=>by rcases z with⟨z,_⟩|z;show z;show j q ἀ),(.BoolOp .And ἀ pos),(.BoolOp .Or ἀ pos),(λxs H Q=>(∃p ys,xs=[.ref p]/\ἀ/\Q ἁ H)\/∃z,xs=[.str z]/\ő<=ã/\Q (.int ő) H),(swapsWith e (À ἀ) pos.line Ö=pure Ã),(L0 I É ἀ l i h λd1 d2 x y u v b d e k f=>IY I n A.in1 d1 d2 x y u v ἁ b d e k f),(λx y H Q=>y=.zE/\Q ἀ H),(λq z=>by rcases z with rfl|z;show .inl ((ἀ).mpr Ō);show .inl ((ἁ).mpr ἂ)),(Λ (yo (i:=5) (show (ἀ).Nodup by decide +kernel) rfl Ü)),(οb (yo (i:=1) (show (ἀ).Nodup by decide +kernel) rfl Ü)),(λx y H Q=>∃i j,x=.str i/\y=.str j/\Q (.bl ἀ) H),(yo (i:=3) (show (ἀ).Nodup by decide +kernel) rfl Ü),(yo (i:=2) (show (ἀ).Nodup by decide +kernel) rfl Ü),(tq (tE (e2 zb ă û)) Ņa (e2 zb (zg wG ἀ) į)),(LC II Oj rfl gF Tn ἀ),(yX (i:=2) Vv.nd rfl Ü (zr VY b rfl ἀ)),(λd=>match d with|.int j=>.int ἀ|d=>d),(Ε (vN (AF b) bh rfl kM VF (ξ ἀ))),0,(Γ (zS yg yf Ć (zr QN b rfl ἀ))),0,0,(zQ ŝ zP Ć (Qx ō (Κ ἀ ĵg))),(ja (Ο Õb ía) u9 (μb (Ρa ἀ))),(vN (IH a) Oi rfl kM VF (ξ ἀ)),(Q w H->rU (λi=>.int ἀ) u H Q),(Ε (zr O6 b rfl (zB Ć ἀ))),(zA (eC ϓb) (zA (eC Ŀb) (zA ἀ ἁ))),0,0,0,0,0,0,0,0,0,(eO (qv 1) (uq rfl õj ἀ Ųi ἁ ĭj)),(N1 (i:=5) Ĩb rfl Èb (yN ἀ)),(λxs H Q=>∃p ys,xs=Ĭc/\ἀ),(if (ἀ).length<yW then À ἁ else Æ),(Α (e2 yK ă (zg Zs ἀ))),(Κ (yN (yk ἀ Ķa)) Ϣi),(wA (Χ (zB ŭc ἀ)) Ķa),0,0,(e2 zb (e2 yZ ἀ Ÿb) į),(yE (e2 yq ë (eC ἀ))),(ms.map À++Ų ἀ Æ),(zg vk (ζ (Μ ἀ))),0,0,(yH 4 (e2 ŉe ŗ ἀ)),0,0,(updateSeq S ἀ >>= _),0,(ňf Ào++Ų ἀ Æ),(Ιc (.obj x ŵd ἀ)),(zc (xI Āg ἀ xY) (γ Āg ἁ ἂ)),(yE (zg Wn (ω ἀ))),(yE (eL Ik (Α ἀ))),(yE (eL Z5 (Α ἀ))),(Λa (Λ (θb ἀ))),(zj ἀ λr s4 a=>?_),(zB úa (zB Þc ἀ)),(zA ša (zA þe ἀ)),(.Expr (Αc ἀ) pos),(ze (YT Ŋa ἀ Ő ἁ)),(U6 (yG (xA ἀ) y_ (zJ ἁ) Ϗa ł))],[(by first|(with_reducible first|exact Nat.le_of_not_lt ‹_›|exact Nat.lt_of_lt_of_le ‹_› (Nat.min_le_right _ _)|exact Nat.lt_of_lt_of_le ‹_› (Nat.min_le_left _ _)|exact Nat.le_trans (Nat.sub_le _ _) ‹_›|exact Nat.add_sub_cancel' ‹_›|exact (Int.toNat_lt ‹_›).mpr ‹_›|exact Nat.lt_of_sub_pos ‹_›|exact Nat.le_of_sub_eq_zero ‹_›)|((with_reducible refine Int.emod_nonneg _ ?_)<;>decide)|((with_reducible refine Int.emod_lt_of_pos _ ?_)<;>decide)|((with_reducible refine Int.lt_of_lt_of_le (Int.emod_lt_of_pos _ ?_) ?_)<;>decide)|lia|omega+splitNatSub),(by first|subst ἀ|(injection ἀ;done)|cases ((ἀ))),(by first|(have q:=ἀ;first|subst q|(injection q;done))|cases ((ἀ))),(by first|subst ἀ|(injection ἀ;done)|cases ((ἀ)))])
def q0 (h_0:0=0:=by first|show .inl rfl|show .inr rfl|assumption)(h_1:0=0:=by decide)(h_2:0=0:=by intro _;rfl)(h_3:0=0:=by rfl)(h_4:0=0:=by with_unfolding_all rfl)(h_5:0=0:=by first|show Or.inl rfl|show Or.inr Ü|show Or.inr Èb)(h_6:0=0:=by first|show Ĝa|show⟨rfl,Ĝa⟩|show⟨rfl,rfl,Ĝa⟩|show⟨rfl,rfl,rfl,Ĝa⟩|show⟨rfl,rfl,rfl,rfl,Ĝa⟩)(h_7:0=0:=by show λz=>nomatch z)(h_8:0=0:=by intros;show λ_ _ _ _ _ _=>rfl):ĭb:=⟨⟩
def q7:=q0._auto_1
def q10:=q0._auto_2
def q11:=q0._auto_3
def q12:=q0._auto_4
def q13:=q0._auto_5
def q14:=q0._auto_6
def q15:=q0._auto_7
def q16:=q0._auto_8
def q17:=q0._auto_9
noncomputable section
namespace L2
open Ĩ ĺ ĭ
abbrev zX:=Sum Â Ç
nonrec def YC:zX->Value->Ï
 |.inl k,v=>ŋm k v|.inr x,v=>Ϛl x v
nonrec def z08(w:è):zX->Â
 |.inl k=>hashInt k|.inr x=>hashStr w x
def gz:∀{k:zX}{v:Value},YC k v=Å->(∃i t,k=Æa i/\v=ϫb i t)\/(∃x t,k=ôa x/\v=Ϫb x t)
 |.inl i,v,h=>by let{t,e}:=ϝk (k:=i) (v:=v) h;show .inl {i,t,rfl,e}
 |.inr x,v,h=>by let{t,e}:=Value.isStrOf_shape (x:=x) (v:=v) h;show .inr {x,t,rfl,e}
def z09(i:Â)(t:Tok):YC ði êf=Å:=by simp[YC,ŋm]
theorem z0a(x:Ç)(t:Tok):YC Ļf õn=Å:=by simp[YC,Ϛl]
theorem z0b(a b:Â):decide ((Æa a:zX)=Æa b)=(a==b):=by
 by_cases e:a=b;subst e;simp;let h:¬ (Æa a:zX)=Æa b:=λq=>e (ϔb q)
 rw[đ h];show(ţc e).symm
def z0e(a b:Ç):decide ((ôa a:zX)=ôa b)=decide (a=b):=by
 by_cases e:a=b;subst e;simp;let h:¬ (ôa a:zX)=ôa b:=λq=>e (Sum.inr.inj q)
 rw[đ h,đ e]
theorem z0c(a:Â)(b:Ç):decide ((Æa a:zX)=ôa b)=Ã:=đ ìl
def z0d(a:Ç)(b:Â):decide ((ôa a:zX)=Æa b)=Ã:=đ ìl
def yr(ı:ï)(w:è):PySem.KeyKind ı w zX where
 is:=YC
 hash:=z08 w
 inj:=λv a b f d=>by
  rcases gz f with⟨i,t,rfl,rfl⟩|⟨x,t,rfl,rfl⟩;rcases gz d with⟨j,u,rfl,e⟩|⟨y,u,rfl,e⟩;injection e with e1 _;rw[e1];show nomatch e
  rcases gz d with⟨j,u,rfl,e⟩|⟨y,u,rfl,e⟩;show nomatch e
  injection e with e1 _;rw[e1]
 byValue:=λk v h=>by rcases gz h with⟨i,t,rfl,rfl⟩|⟨x,t,rfl,rfl⟩<;>rfl
 pyHash:=λc h=>by rcases gz c with⟨i,t,rfl,rfl⟩|⟨x,t,rfl,rfl⟩;show wpAny_pyHash_int h;show wpAny_pyHash_str h
 eqBool:=λg c h=>by rcases gz g with⟨i,t,rfl,rfl⟩|⟨x,t,rfl,rfl⟩;rcases gz c with⟨j,u,rfl,rfl⟩|⟨y,u,rfl,rfl⟩;rw[z0b]at h;show wpAny_eqBool_int h;rw[z0c]at h;show šk i t y u _ _ _ _ h;rcases gz c with⟨j,u,rfl,rfl⟩|⟨y,u,rfl,rfl⟩;rw[z0d]at h;show şk x t j u _ _ _ _ h;rw[z0e]at h;show wpAny_eqBool_str h
 «strs»:=λk x t v h=>by
  rcases gz h with⟨i,u,rfl,e⟩|⟨y,u,rfl,e⟩;show nomatch e
  injection e with e1 _
  subst e1;cases v<;>rfl
def z1w(ı:ï)(w:è)(i:Â)(t:Tok):(Ńa).is ði êf=Å:=z09 i t
def EQ(ı:ï)(w:è)(x:Ç)(t:Tok):(Ńa).is Ļf õn=Å:=z0a x t
set_option genInjectivity true
inductive V where
 |zE|bl (b:Ï)|int (i:Â)|str (x:Ç)|byt (b:Ĝ UInt8)|Yp (b:UInt64)|ref (a:Í)|ty (n:Ÿ)
 deriving ņb
set_option genInjectivity false
def zw:V->Value->È
 |.zE,u=>u=ϒc|.bl b,u=>u=Øf b|.int i,u=>∃t,u=ϫb i t|.str x,u=>∃t,u=Ϫb x t|.byt b,u=>∃t,u=Ōm b t|.Yp b,u=>∃t,u=ďh b t|.ref a,u=>u=ą a|.ty n,u=>u=ķh n
abbrev zm:Á V->Á Value->È:=ńc zw
theorem zm.length{xs:Á V}{us:Á Value}(r:zm xs us):ä=Ś:=ϲg r
theorem zm.get:∀{xs:Á V}{us:Á Value}{i:Ä}{x:V},zm xs us->xs[i]?=À x->∃u,us[i]?=À u/\zw x u
 |_,_,_,_,.nil,e=>by simp at e|_,_,0,_,.cons r _,e=>by simp at e;subst e;show{_,rfl,r}|_,_,i+1,x,.cons _ t,e=>by let{u,b,a}:=zm.get (i:=i) (x:=x) t Âb;show{u,by simpa using b,a}
theorem zm.set{x:V}{u:Value}(r:zw x u):∀{xs:Á V}{us:Á Value}(i:Ä),zm xs us->zm ϲe (us.set i u)
 |_,_,_,.nil=>.nil|_,_,0,.cons _ t=>.cons r t|_,_,i+1,.cons q t=>.cons q (zm.set r i t)
theorem ðf:∀{xs ys:Á V}{us ws:Á Value},zm xs us->zm ys ws->zm Éi (us++ws)
 |_,_,_,_,.nil,s=>s|_,_,_,_,.cons r t,s=>.cons r (ðf t s)
theorem zm.take:∀{xs:Á V}{us:Á Value}(n:Ä),zm xs us->zm (xs.take n) (us.take n)
 |_,_,0,_=>.nil|_,_,_+1,.nil=>.nil|_,_,n+1,.cons r t=>.cons r (zm.take n t)
theorem zm.drop:∀{xs:Á V}{us:Á Value}(n:Ä),zm xs us->zm (ùi n) (us.drop n)
 |_,_,0,r=>r|_,_,_+1,.nil=>.nil|_,_,n+1,.cons _ t=>zm.drop n t
def vw:Ê V->Ê Value->È
 |À v,À u=>zw v u|Æ,Æ=>ĭb|_,_=>ê
def KV{κ:Type}:Á ħa->Á ϧc->È:=ńc λ(p:κ×V) (q:κ×Value)=>p.1=q.1/\zw p.2 q.2
nonrec def kV:zX->V
 |.inl i=>.int i|.inr x=>.str x
inductive HO where
  |lst (xs:Á V)
  |tup (xs:Á V)
  |dK (kvs:Á Ũ)|dT (kvs:Á ąb)
  |set (S:Â->Ï) (n:Ä)
  |ins (C dx:Í) (fs:Á ėb)
  |own (x:Í)
  |xd (fs:Á ėb)
  |met (f x:Í)
  |rng (lo hi:Â)
  |yD (o:Obj) (u:HO)
  |tbl (ps:Ĝ Value)
  |ext (φ:Heap->È)
abbrev Hp:=Í->Ê HO
nonrec def zU(H:Hp)(a:Í)(o:HO):Hp:=λb=>if b=a then À o else H b
def yL{H:Hp}{a:Í}{o:HO}:zU H a o a=À o:=by unfold zU;rw[Ò rfl]
theorem zt{H:Hp}{a b:Í}{o:HO}(h:b≠a):zU H a o b=H b:=by unfold zU;rw[Ô h]
theorem z2f{H:Hp}{a b:Í}{o u:HO}(h:H a=À o)(h':H b=À u)(d:o≠u):a≠b:=by intro e;subst e;rw[h]at h';show d (āa h')
def tH{H:Hp}{a b:Í}{o:HO}(h:H a=À o)(h':H b=Æ):a≠b:=by intro e;subst e;rw[h]at h';cases h'
section
variable(P:ï)(w:è)
def xU(H:Hp)(h:Heap)(a:Í):HO->È
 |.lst xs=>ä<=ã/\∃(its:Á Value) (n:Ä),zm xs its/\Ğ a=À { cls:=.type ę,ā:=.seq Ϧ n }|.tup xs=>ä<=ã/\∃its:Á Value,zm xs its/\ϯa h a Ϧ|.dK kvs=>ĵ<=ã/\Ìa=Ã/\∃vs,KV kvs vs/\Çd Ċa a vs|.dT kvs=>ĵ<=ã/\Ìa=Ã/\∃xs:Á ðc,
   ńc (λ(p:Á zX×V) (q:Á zX×Í×Value)=>p.1=q.1/\H q.2.1=À Ŗk/\zw p.2 q.2.2) kvs xs/\
   ∃o es ep,Ğ a=À o/\ŀm/\Īa=.dict es ep/\es.toList=ġb (entryOfKey őd)/\(ġb (·.1)).Nodup
 |.set S n=>h.SetOf (intKind P w) a S n|.ins C dx fs=>H dx=À Àe/\ŋa<=1000/\dx≠a/\Ğ a=À Àn/\
   ∃mA,ϗf dx mA/\(∀f,vw đi Ţi)/\èh mA (ĺc (·.1))
 |.own _=>∃o,Ğ a=À o|.xd fs=>∃mA,ϗf a mA/\∀f,vw đi Ţi|.rng lo hi=>∃t u v,Ğ a=À { cls:=.type Ěb,ā:=.fields #[.int lo t,.int hi u,.int 1 v] }|.yD o u=>Ğ a=À o/\xU H h a u|.tbl ps=>Ğ a=À { cls:=.none,ā:=.fields ps }|.met f x=>Ğ a=À (W.methodObj Ļ Îd)|.ext φ=>φ h/\(∃o,Ğ a=À o)/\∀h1 h2:Heap,φ h1->(∀o,þi a=À o->h2.get? a=À o)->φ h2
def xm(H:Hp)(h:Heap):È:=∀a o,H a=À o->xU P w H h a o
#print a
section
variable{P:ï}{w:è}{H H':Hp}{h h':Heap}{a:Í}{o:HO}
theorem xU.lt(x:xU P w H h a o):a<ϐa:=by
 cases o with
 |lst xs=>let{_,_,_,_,e}:=x;show Ĭ e
 |tup xs=>let{_,_,_,p}:=x;show p.lt
 |dK kvs=>let{_,_,_,_,o,_,_,e,_}:=x;show Ĭ e
 |dT kvs=>let{_,_,_,_,o,_,_,e,_}:=x;show Ĭ e
 |set S n=>let{o,_,_,_,e,_}:=x;show Ĭ e
 |ins C dx fs=>let{_,_,_,e,_}:=x;show Ĭ e
 |own y=>let{_,e}:=x;show Ĭ e
 |xd fs=>let{_,{_,_,_,e,_},_}:=x;show Ĭ e
 |rng lo hi=>let{_,_,_,e}:=x;show Ĭ e
 |yD ob u=>let{e,_}:=x;show Ĭ e
 |tbl ps=>show Ĭ (show Ğ a=À _ from x)|met f y=>show Ĭ (show Ğ a=À _ from x)|ext φ=>let{_,{_,e},_}:=x;show Ĭ e
theorem úf{α β:Type}{F G:α->β->È}:∀{l₁:Á α}{l₂:Á β},ńc F l₁ l₂->(∀a b,F a b->G a b)->ńc G l₁ l₂
 |_,_,.nil,_=>.nil|_,_,.cons r t,f=>.cons (f _ _ r) (úf t f)
def xU.Ze(x:xU P w H h a o)(k:∀b u,(b=a\/H b=À Àe)->Ğ b=À u->Ĕ b=À u)(E:∀b,H b=À Àe->H' b=À Àe)(B:∀b xs,H b=À Ġa->H' b=À Ġa):xU P w H' h' a o:=by
 induction o with
 |lst xs=>let{z,l,n,r,e}:=x;show{z,l,n,r,k _ _ Ō e}
 |tup xs=>let{z,l,r,g,e,c}:=x;show{z,l,r,g,k _ _ Ō e,c}
 |dK kvs=>let{z,y,F,r,g,j,i,e,c}:=x;show{z,y,F,r,g,j,i,k _ _ Ō e,c}
 |dT kvs=>let{z,y,xs,r,g,j,i,e,c}:=x;show{z,y,xs,úf r λp q z=>{z.1,B _ _ z.2.1,z.2.2},g,j,i,k _ _ Ō e,c}
 |set S n=>let{g,j,i,t,e,c}:=x;show{g,j,i,t,k _ _ Ō e,c}
 |ins C dx fs=>let{d,z,A,e,s,{m,j,i,e2,c},r}:=x;show{E _ d,z,A,k _ _ Ō e,s,{m,j,i,k _ _ (.inr d) e2,c},r}
 |own y=>let{g,e}:=x;show{g,k _ _ Ō e}
 |xd fs=>let{s,{m,j,i,e,c},r}:=x;show{s,{m,j,i,k _ _ Ō e,c},r}
 |rng lo hi=>let{t,u,v,e}:=x;show{t,u,v,k _ _ Ō e}
 |yD g u ih=>let{e,q}:=x;show{k _ _ Ō e,ih q}
 |tbl ps=>have e:Ğ a=À { cls:=.none,ā:=.fields ps }:=x;exact Ĕ a=À { cls:=.none,ā:=.fields ps };show k a _ Ō e|met f y=>have e:Ğ a=À ϖj:=x;exact Ĕ a=À ϖj;show k a _ Ō e|ext φ=>let{p,{o,e},st}:=x;show{st _ _ p λo q=>k _ _ Ō q,{o,k _ _ Ō e},st}
theorem xm.lt(x:xm P w H h)(e:H a=À o):a<ϐa:=(Ŷn).lt
def xm.fresh(x:xm P w H h)(e:ϐa<=a):H a=Æ:=by
 cases q:H a with
 |Æ=>rfl|À u=>show ß (Ŵ (x.lt q) e) Ϸ
def xm.kept(x:xm P w H h)(k:∀b u,Ğ b=À u->Ĕ b=À u):xm P w H h':=λa o e=>
 (Ŷn).Ze (λb u _ q=>k b u q) àf λ_ _ q=>q
def xm.laid(x:xm P w H h)(k:∀b u,Ğ b=À u->Ĕ b=À u)(g:ϐa<=a)(d:xU P w Żd h' a o):xm P w Żd h':=λb u e=>by let f:=x.fresh g;rw[Ùo];rw[yL]at e;cases e;show d;rw[zt hb]at e;show(ϕh).Ze (λc v _ q=>k c v q) (λc q=>by rw[zt (tH q f)];show q) λc i q=>by rw[zt (tH q f)];show q
#print a
def Rd(H:Hp)(a:Í)(u:HO):È:=H a=À u\/∃o,H a=À ϟd
def Rd.ok{P:ï}{w:è}{H:Hp}{h:Heap}{a:Í}{u:HO}(r:Rd H a u)(x:xm P w H h):xU P w H h a u:=by rcases r with r|⟨o,r⟩;show x a u r;let{_,q}:=x a _ r;show q
def TN:Ê HO->È
 |À (.lst _)=>ĭb|À (.dK _)=>ĭb|À (.dT _)=>ĭb|À (.set _ _)=>ĭb|À (.ins _ _ _)=>ĭb|À (.ext _)=>ĭb|_=>ê
section
variable{P:ï}{w:è}{H:Hp}{h h':Heap}{x e:Í}{o':HO}
def xm.write(p:xm P w H h)(i:TN (H x))(n:e=x\/H e=À Ïd)(k:∀b u,b≠e->Ğ b=À u->Ĕ b=À u)(j:∃u,Ĕ e=À u)(l:xU P w Żm h' x o'):xm P w Żm h':=λb u q=>by
 let a:∀c y,H c=À (.own y)->c≠x:=λc y r z=>by subst z;rw[r]at i;show i
 let d:∀c g,H c=À (.tup g)->c≠x:=λc g r z=>by subst z;rw[r]at i;show i
 by_cases hb:b=x;subst hb;rw[yL]at q;cases q;show l;rw[zt hb]at q;by_cases hbe:b=e;let m:H b=À Ïd:=by rcases n with z|z;show ß (hbe.trans z) hb;rw[hbe];show z
 rw[q]at m;cases m;let{v,o}:=j;show{v,by rw[hbe];show o};show(p b u q).Ze (λc v f r=>k c v ?_ r) (λc r=>by rw[zt (a c b r)];show r) λc g r=>by rw[zt (d c g r)];show r
 rcases f with rfl|f;show hbe;rintro rfl;rcases n with z|z;show a c b f z;rw[f]at z;cases z;show hb rfl
#print a
structure Un(fs ex:Á Í)(H H':Hp)(h h':Heap):È where
 đa:∀b o,Ğ b=À o->H b=Æ->b ∉ fs->b ∉ ex->Ĕ b=À o
 slot:∀b o,Ğ b=À o->H b=Æ->b∈fs->b ∉ ex->∃sl,Ĕ b=À { o with Îc:=sl }
 free:∀b o,Ğ b=À o->H b=Æ->b ∉ ex->H' b=Æ
 ϓf:∀b o,Ğ b=À o->b ∉ ex->∃o',Ĕ b=À o'
 tX:∀b xs,H b=À Ġa->H' b=À Ġa
 uy:∀b o u,H b=À ϟd->H' b=À ϟd
 qp:∀b ps,H b=À Ϡd->∃more,H' b=À Êl
section
variable{fs ex:Á Í}{H H1:Hp}{h h1 h':Heap}{a x e:Í}{o:HO}
def Un.any(u:Un fs ex H H1 h h1){b:Í}{a:Obj}(q:Ğ b=À a)(n:H b=Æ)(c:b ∉ ex):∃sl,þi b=À { a with Îc:=sl }:=by by_cases hb:b∈fs;show ūf b a q n hb c;show{a.slots,Öe b a q n hb c}
def Èe(k:∀b u,Ğ b=À u->Ĕ b=À u):Un fs ex H H h h':=
 {λb a q _ _ _=>k b a q,λb a q _ _ _=>{a.slots,k b a q},λ_ _ _ n _=>n,λb a q _=>{a,k b a q},λ_ _ q=>q,λ_ _ _ q=>q,λ_ c q=>{#[],by rw[q];simp}}
def Un.refl:Un fs ex H H h h:=Èe λ_ _ q=>q
def Un.laid(k:∀b u,Ğ b=À u->Ĕ b=À u)(e:ϐa<=a)(c:H a=Æ):Un fs ex H Żd h h' where
 đa:=λb u q _ _ _=>k b u q
 slot:=λb u q _ _ _=>{u.slots,k b u q}
 free:=λb u q n _=>by rw[zt (Êa (Ŵ ŕf e))];show n
 ϓf:=λb u q _=>{u,k b u q}
 tX:=λb d q=>by rw[zt Ôi];show q
 uy:=λb u d q=>by rw[zt Ôi];show q
 qp:=λb f q=>{#[],by rw[zt Ôi,q];simp}
def Un.write(a:TN (H x))(l:e=x\/H e=À Ïd)(k:∀b u,b≠e->Ğ b=À u->Ĕ b=À u)(c:∃u,Ĕ e=À u):Un fs ex H ńh h h':=by
 let g:∀b,H b=Æ->b≠x:=λb n z=>by subst z;rw[n]at a;show a
 let f:∀b,H b=Æ->b≠e:=λb n z=>by subst z;rcases l with r|r;show g b n r;rw[n]at r;cases r
 let d:∀b u,H b=À u->¬ TN (À u)->b≠x:=λb u q j z=>by subst z;rw[q]at a;show j a
 refine⟨λb u q n _ _=>k b u (f b n) q,λb u q n _ _=>{u.slots,k b u (f b n) q},λb u q n _=>by rw[zt (g b n)];show n,λb u q _=>?_,
  λb i q=>by rw[zt Ŝg];show q,λb u i q=>by rw[zt Ŝg];show q,λb m q=>{#[],by rw[zt Ŝg,q];simp}⟩
 by_cases hbe:b=e;subst hbe;show c;show{u,k b u hbe q}
#print a
nonrec def LS(h:Heap)(H:Hp):Á Í:=(Ŕn).filter λa=>(H a).isSome
def Z8(h:Heap)(H:Hp):Heap:=W.hideAll h èi
def sL(h:Heap)(H:Hp):(Ĳf).objs.size=ϐa:=W.hideAll_size _ _
def sK{h:Heap}{H:Hp}{b:Í}{o:Obj}(e:Ğ b=À o)(n:H b=Æ):(Ĳf).get? b=À o:=
 W.hideAll_get _ e λa=>by let q:(H b).isSome=Å:=(Ŧk a).2;rw[n]at q;simp at q
def z4a{h:Heap}{H:Hp}{b:Í}{o:Obj}(e:(Ĳf).get? b=À o):Ğ b=À o/\H b=Æ:=by
 let a:Ğ b=À o:=W.of_hideAll èi e;show{a,?_};cases q:H b with
 |Æ=>rfl|À x=>have c:b∈LS h H:=List.mem_filter.mpr {Ľd (Ĭ a),by simp[q]};let z:(Ĳf).get? b=Æ:=W.hideAll_none èi c;rw[z]at e;cases e
nonrec def iq(g h:Heap)(L:Í):Á î:=(Ŕn).filterMap λa=>if a=L\/(g.get? a).isSome=Å then Æ else(Ğ a).map λo=>(a,o)
def yM(g h:Heap)(L d:Í):Á î:=(iq g h L).filter λp=>decide (p.1≠d)
structure Mod(K:Ð)(mg:Ç->Ê Value)(Ë:Heap):È where
 Yq:Ţ Ë
 glob:Ød ē mg
 blt:∃mb,Ød Ĵh mb/\∀x:Ç,x ≠ Ĭh->mb x=ş x
 nolimit:base.NoLimit
structure Cx where
 ı:ï
 w:è
 K:Ð
 mg:Ç->Ê Value
 Ë:Heap
 A:Ā
 N:Á Ç
 s₀:Ñ
 H₀:Hp
 env:Env
 þ:Á Env
 stack:Á Env
 ex:Á Í
 fn:Ç->Ï
 calm:Ï
 pn:Á î
 xe:Value->Ñ->È
nonrec def j3(l:Á Env):Á Í:=l.filterMap (·.frame)
abbrev Cx.fs(X:Cx):Á Í:=j3 Ùd
def qQ(a:Óa)(x:Ç):È:=Łb x=À .local\/Łb x=À .cell\/Łb x=À .free
def qO(a:Óa)(x:Ç):È:=Łb x=À .local\/Łb x=À .cell
def iW(env:Env)(h:Heap)(m:Ç->Ê Value)(x:Ç)(u:Value):È:=
 (Ġc x=À .local/\m x=À u)\/((Ġc x=À .cell\/Ġc x=À .free)/\∃c,Ŋg x=À c/\h.IsCell c (À u))
structure Cx.Ok(X:Cx):È where
 mod:Mod X.K ñ Œ
 kind:ōg=.function
 glob:ϰg=ē
 blt:X.env.builtins=Ĵh
 above:Ŵb<=ϟ
 inj:∀x y c,ûa x=À c->ûa y=À c->x=y
 has:∀x,(Ăc x=À .cell\/Ăc x=À .free)->∃c,ûa x=À c
 WP:∀x c,X.fn x=Å->ûa x=À c->Ŵb<=c
 hd:Š=Å->X.A.handled=Æ
 ńi:X.A.frames=À ĥa
 Ul:ĥa=Ùd\/(ĥa=Ö::Ùd/\X.env.frame=À ϟ)
 Uf:∀b∈X.ex,b≠ϟ/\∀x c,ûa x=À c->c≠b
 bs:∀b o,Űd b=À o->Ōg b=À o/\Ϫa b=Æ
 gN:X.base.objs.size<=Ŵb
 WW:∀b o,Űd b=À o->b ∉ X.ex
 WQ:∀b∈X.ex,b ∉ Ĵa
 pR:ök Œ Ùd
 Zc:∀b∈Ĵa,Ϫa b=Æ
structure zH(X:Cx)(z8:Á î)(σ:Á ŗf)(H:Hp)(s:Ñ):È where
 ok:X.Ok
 os:s.os=X.s₀.os
 bare:Ûd Ůf
 Ë:Un Ĵa X.ex Ϫa H X.s₀.heap à
 loc:∃m,Čn ϟ m/\∀(i:Ä)(x:Ç)(v:V),X.N[i]?=À x->σ[i]?=À ŧ->qQ Ϟ x->∃u,zw v u/\iW Ö à m x u
 Ēa:∀x c,ûa x=À c->∃v,ϔl c v
 free:H ϟ=Æ
 pQ:∀x c,ûa x=À c->H c=Æ
 pin:∀p∈ůb++z8,ć p.1=À p.2/\H p.1=Æ/\p.1≠ϟ/\p.1 ∉ Ĵa/\∀v,p.2.data≠.cell v
 zf:xm ò X.w H à
 len:σ.length=ô
section
variable{X:Cx}{z8:Á î}{σ:Á ŗf}{H H':Hp}{s:Ñ}{h':Heap}
def Cx.Ok.iO(c:X.Ok){b:Í}{o:Obj}(e:Űd b=À o):b ∉ Ĵa:=λa=>by let:=(c.pR.mem a).1;rw[e]at this;cases this
theorem zH.bs(I:zH X z8 σ H s):∀b o,Űd b=À o->ć b=À o/\H b=Æ:=λb o e=>
 {ύe b o że.1 że.2 (I.ok.iO e) Ľl,ϓc b o że.1 że.2 Ľl}
def zH.bk(I:zH X z8 σ H s):∀b o,Űd b=À o->ć b=À o:=λb o e=>(I.bs b o e).1
theorem zH.mod(I:zH X z8 σ H s):Mod X.K ñ Œ:=Ϸh
def zH.xc(I:zH X z8 σ H s):X.K.In à:=I.ok.mod.Yq.keeps I.bk
theorem zH.lt(I:zH X z8 σ H s):ϟ<Þ:=let ⟨_,hn,_⟩:=èa;hn.lt
def zH.sz(I:zH X z8 σ H s):Ŵb<=Þ:=Ĵ ļh (ńb I.lt)
def zH.Pq(I:zH X z8 σ H s){a:Í}(h:Þ<=a):a ∉ Ĵa:=λc=>by let{_,o,b,_}:=ŗm c;show ß (Ŵ (Ĭ b) (Ĵ I.sz h)) Ϸ
def zH.Yo(I:zH X z8 σ H s):∀x c,ûa x=À c->c≠ϟ:=λx c e z=>by let{v,o,d,f}:=īa x c e;let{m,{h,i,g,b,a,_},_}:=èa;rw[z,b]at d;cases d;rw[a]at f;cases f
theorem zH.pR(I:zH X z8 σ H s):Ťe Œ Ùd:=by
 let c:∀(l:Á Env),(∀b∈j3 l,b∈Ĵa)->ök Œ l->Ťe Œ l:=by
  intro l
  induction l with
  |nil=>intro _ _;trivial|ú env r ih=>
   intro g j;let{h,{L,o,f,i,k,n},m}:=j;let d:L∈Ĵa:=g L (by unfold j3;rw[Ĝg,f];show ŉ);let{p,e}:=Ųd L o k (I.ok.Zc L d) d λz=>I.ok.WQ L z d
   show{h,{L,_,f,i,e,n},ih (λb a=>g b (by unfold j3;rw[Ĝg,f];show Õa _ a)) m}
 show c Ùd (λ_ a=>a) I.ok.pR
theorem zH.stack(I:zH X z8 σ H s):Ťe Œ ĥa:=by rcases I.ok.Ul with e|⟨e,hf⟩;rw[e];show I.pR;rw[e];let{m,a,_}:=èa;refine .cons (by rw[Ób];decide) hf a ?_ I.pR;show Heap.get?_none_of_le (Ĵ Ŏf ļh)
def zH.Um(I:zH X z8 σ H s):∀b∈j3 ĥa,b∈ϟ::Ĵa:=λb a=>by rcases I.ok.Ul with e|⟨e,hf⟩;rw[e]at a;show Õa _ a;rw[e]at a;unfold j3 at a;rw[Ĝg,hf]at a;show a
def zH.Pu(I:zH X z8 σ H s):∀b∈j3 ĥa,H b=Æ:=λb a=>by rcases ŋ (I.Um b a)with e|a;rw[e];show Ŵa;let{_,o,c,_}:=ŗm a;show ϓc b o c (I.ok.Zc b a) λz=>I.ok.WQ b z a
def zH.step{g':Ĝ GenState}{t':Ä}{d':Drawn}{ch:Á Í}(I:zH X z8 σ H s)(j:∀b∈ch,őe/\b≠ϟ/\(∀x c,ûa x=À c->c≠b)/\∀p∈ůb++z8,p.1≠b)(t:∀b o,b≠ϟ->b ∉ Ĵa->b ∉ ch->ć b=À o->H b=Æ->Ĕ b=À o)(A:∀b o,b≠ϟ->b∈Ĵa->b ∉ ch->ć b=À o->H b=Æ->∃sl,Ĕ b=À { o with Îc:=sl })(f:∀b o,b ∉ ch->ć b=À o->H b=Æ->H' b=Æ)(B:∀b o,b ∉ ch->ć b=À o->∃o',Ĕ b=À o')(U:∀b xs,H b=À Ġa->H' b=À Ġa)(W:∀b o u,H b=À ϟd->H' b=À ϟd)(R:∀b ps,H b=À Ϡd->∃more,H' b=À Êl)(ns:∀m,Čn ϟ m->h'.Ns ϟ m)(O:xm ò X.w H' h')(Z:Ûd g') :zH X z8 σ H' { s with ì:=h',gens:=g',drawn:=d',ď:=t' }:=by
 let F:∀b o,Ōg b=À o->b≠ϟ:=λb o e=>Êa (Ŵ Ϯb ļh)
 let y:∀b o,Ōg b=À o->b ∉ X.ex->b ∉ ch:=λb o e a C=>by rcases(j b C).1 with z|z;show a z;show ß (Ŵ Ϯb z) Ϸ
 let h:∀x c,ûa x=À c->∀v,ϔl c v->h'.IsCell c v:=λx c e v ⟨o,E,J⟩=>by
  let g:c ∉ ch:=λz=>(j c z).2.2.1 x c e rfl
  by_cases hc:c∈Ĵa;let{sl,q}:=A c o ģm hc g E ùh;show{_,q,J};show{o,t c o ģm hc g E ùh,J}
 show{I.ok,Øc,Z,{λb o e n C a=>?_,λb o e n C a=>?_,λb o e n a=>?_,λb o e a=>?_,λb xs e=>U b xs (ϐd b xs e),λb o xs e=>W b o xs (Ϗd b o xs e),λb ps e=>?_},?_,λx c e=>?_,?_,λx c e=>?_,λp N=>?_,O,åb};show t b o ϙn C Èf (ύe b o e n C a) Ūg;let{sl,e1}:=Ųd b o e n C a;let{G,e2}:=A b _ ϙn C Èf e1 Ūg;show{G,e2};let{o',e1}:=ťd b o e a;show f b o' Èf e1 Ūg;let{o',e1}:=ťd b o e a;show B b o' Èf e1;let{P,e1}:=ϑd b ps e;let{Q,e2}:=R b _ e1;show{P++Q,by rw[e2,Array.append_assoc]};let{m,Y,S}:=èa;show{m,ns m Y,λi x v e1 e2 T=>?_};let{u,r,l}:=S i x v e1 e2 T;show{u,r,?_};rcases l with l|⟨k,c,e,z⟩;show .inl l;show .inr {k,c,e,h x c e _ z};let{v,z}:=īa x c e;show{v,h x c e v z};let{m,{o,_,_,E,_},_}:=èa;show f _ o (λz=>(j _ z).2.1 rfl) E Ŵa;let{v,o,E,J}:=īa x c e;show f c o (λz=>(j c z).2.2.1 x c e rfl) E ùh;let{e,n,L,K,d}:=ıa p N;let g:p.1 ∉ ch:=λz=>(j p.1 z).2.2.2 p N rfl
 show{t p.1 p.2 L K g e n,f p.1 p.2 g e n,L,K,d}
def zH.un{t':Ä}(I:zH X z8 σ H s)(u:Un Ĵa [] H H' à h')(h:xm ò X.w H' h'):zH X z8 σ H' { s with ì:=h',ď:=t' }:=by
 let{m,{o,t,l,g,r},_}:=id èa;let{v,i}:=u.any g Ŵa é
 show ŏi (g':=Ůf) (d':=s.drawn) (ch:=[]) Éa (λb o _ c _ e n=>Öe b o e n c é) (λb o _ c _ e n=>ūf b o e n c é) (λb o _ e n=>Ŭf b o e n é) (λb o _ e=>Ńf b o e é) u.tX u.uy u.qp (λq k=>by let{p,f,d,a,j}:=k;rw[g]at a;cases a;show{_,f,d,i,j}) h ŵa
def zH.call{g':Ĝ GenState}{t':Ä}{d':Drawn}{ch:Á Í}(I:zH X z8 σ H s)(u:Un ài ch H H' à h')(k:xm ò X.w H' h')(t:Ûd g')(f:∀b∈ch,őe/\b≠ϟ/\(∀x c,ûa x=À c->c≠b)/\∀p∈ůb++z8,p.1≠b) :zH X z8 σ H' { s with ì:=h',gens:=g',drawn:=d',ď:=t' }:=by
 let{m,{o,C,y,j,r},_}:=id èa;let{E,g}:=u.any j Ŵa λz=>(f _ z).2.1 rfl
 show ŏi (ch:=ch) f (λb o g l a e n=>Öe b o e n (λz=>(ŋ (I.Um b z)).elim g l) a) (λb o _ _ a e n=>u.any e n a) (λb o a e n=>Ŭf b o e n a) (λb o a e=>Ńf b o e a) u.tX u.uy u.qp (λB v=>by let{A,i,h,d,q}:=v;rw[j]at d;cases d;show{_,i,h,g,q}) k t
def zH.turned{t':Ä}{it:Í}(I:zH X z8 σ H s)(k:∀b o,b≠it->ć b=À o->Ĕ b=À o)(i:H it=Æ)(f:it≠ϟ)(y:it∈X.ex\/Ŵb<=it)(l:∀x c,ûa x=À c->c≠it)(w:∀p∈ůb++z8,p.1≠it):zH X z8 σ H { s with ì:=h',ď:=t' }:=by
 let d:∀b u,H b=À u->b≠it:=λb u e z=>by rw[z,i]at e;cases e
 show ŏi (g':=Ůf) (d':=s.drawn) (ch:=űb) (λb h=>?_) (λb o _ _ a e _=>k b o Đg e) (λb o _ _ a e _=>{o.slots,k b o Đg e}) (λ_ _ _ _ n=>n)
  (λb o a e=>{o,k b o Đg e}) þm (λ_ _ _ e=>e) (λb B e=>{#[],by rw[e];simp}) (λm A=>?_) (λb u e=>?_) ŵa
 let e:b=it:=by rw[ŝo]
 subst e;show{y,f,l,w};let{o,j,g,t,r}:=A;show{o,j,g,k _ o (ßb f) t,r};show(ĉ b u e).Ze (λc v a q=>k c v ?_ q) àf λ_ _ q=>q
 rcases a with z|z;rw[z];show d b u e;show d c _ z
def zH.tok(I:zH X z8 σ H s)(t:Ä):zH X z8 σ H { s with ď:=t }:=I.un (h':=à) (t':=t) Un.refl ĉ
theorem zH.kept{t':Ä}(I:zH X z8 σ H s)(k:∀b u,ć b=À u->Ĕ b=À u):zH X z8 σ H { s with ì:=h',ď:=t' }:=I.un (Èe k) (ġn k)
theorem zH.laid{a:Í}{o:HO}{t':Ä}(I:zH X z8 σ H s)(k:∀b u,ć b=À u->Ĕ b=À u)(d:Þ<=a)(c:xU ò X.w Żd h' a o) :zH X z8 σ Żd { s with ì:=h',ď:=t' }:=I.un (Un.laid k d (òb d)) (I.zf.laid k d c)
theorem zH.write{x e:Í}{o:HO}{t':Ä}(I:zH X z8 σ H s)(f:TN (H x))(d:e=x\/H e=À Ïd)(k:∀b u,b≠e->ć b=À u->Ĕ b=À u)(a:∃u,Ĕ e=À u)(c:xU ò X.w ńh h' x o):zH X z8 σ ńh { s with ì:=h',ď:=t' }:=I.un (Un.write f d k a) (I.zf.write f d k a c)
def zH.weak{σ':Á ŗf}(I:zH X z8 σ H s)(b:σ'.length=σ.length)(w:∀(i:Ä) v,σ'[i]?=À ŧ->σ[i]?=À ŧ):zH X z8 σ' H s:=
 {I.ok,Øc,ŵa,źf,let ⟨m,hn,hl'⟩:=èa;{m,hn,λi x v e1 e2 a=>hl' i x v e1 (w i v e2) a},īa,Ŵa,Įb,ıa,ĉ,b.trans åb}
def zH.Uk{a:Á î}(I:zH X z8 σ H s)(h:∀p∈a,ć p.1=À p.2/\H p.1=Æ/\p.1≠ϟ/\p.1 ∉ Ĵa/\∀v,p.2.data≠.cell v):zH X a σ H s:=
 {I.ok,Øc,ŵa,źf,èa,īa,Ŵa,Įb,λp b=>(Àb b).elim (λz=>ıa p (Ėg _ z)) (h p),ĉ,åb}
def bY{N:Á Ç}(c:N.Nodup){i j:Ä}{x:Ç}(a:N[i]?=À x)(b:N[j]?=À x):i=j:=by let{e,e1}:=Ł a;let{d,e2}:=Ł b;show(List.getElem_inj c).mp (e1.trans e2.symm)
def eT{M:ąd}{A:Ā}{E:Value->Ñ->È}{i:Ä}{x:Ç}{v:V}{u:Value}{Q:Űb->Ñ->È}(I:zH X z8 σ H s)(hN:ßa)(L:X.N[i]?=À x)(t:qO Ϟ x)(r:zw v u)(h:∀s',zH X z8 Ϙc H s'->(∃a,ÿb a à ļc/\(a=ϟ\/ûa x=À a))->Q () s')(hf:Î Ėa q7):Û M A Ōk Q E s:=by
 let{m,hn,hl}:=id èa;let P:(ōg == .class||(ōg == .module&&ϟ != ϰg))=Ã:=by rw[Ób];rfl
 let K:i<σ.length:=by rw[åb];show(Ł L).1
 let Yo:=I.Yo
 let g:∀{a:Í}{h':Heap},(∃o,ć a=À o/\H a=Æ)->ÿb a à h'->xm ò X.w H h':=λ{a h'} ha f b ob e=>by
  let{_,_,B}:=ha;show(ĉ b ob e).Ze (λc R l q=>(f.2 c ?_).trans q) àf λ_ _ q=>q
  rintro rfl;rcases l with rfl|l;rw[B]at e;cases e;rw[B]at l;cases l
 rcases t with hk|hk;show wpAny_storeName_local hk hn (λh' hn' f=>?_) P;let{oL,_,_,hoL,_}:=id hn;show h _ {I.ok,Øc,ŵa,{λb o e n F t=>?_,λb o e n F t=>?_,ϓc,λb o e t=>?_,ϐd,Ϗd,ϑd},{_,hn',λj y v' e1 e2 e3=>?_},λy c e=>?_,Ŵa,Įb,λp Z=>?_,g {oL,hoL,Ŵa} f,by simpa using åb} {_,f,.inl rfl};show(Ég).trans Ϯk;let{sl,e1}:=Ųd b o e n F t;show{sl,(Ég).trans e1};let{U,e1}:=ťd b o e t;show{U,(Ég).trans e1};rw[îo];show{u,r,.inl {hk,by simp}};rw[ðo];rcases q with⟨k,e⟩|⟨k,c,e,z⟩;show .inl {k,?_};let:y≠x:=λe=>hj (bY hN e1 (e▸L))
 simp[this,e];show .inr {k,c,e,Ćn f àn};let{R,z}:=īa y c e;show{R,Ćn f àn};let{e,n,S,W,d}:=ıa p Z;show{(f.2 p.1 S).trans e,n,S,W,d};let C:X.fn x=Å:=by rcases hf with z|z;show z;rw[z]at hk;cases hk
 let{c,l}:=I.ok.has x (.inl hk);let{R,z}:=īa x c l;show wpAny_storeName_cell Ób hk l z (λh' J f=>?_);let{oc,G,O}:=id z;show h { s with ì:=h' } {I.ok,Øc,ŵa,{λb o e n F t=>?_,λb o e n F t=>?_,ϓc,λb o e t=>?_,ϐd,Ϗd,ϑd},{m,hn.sameBut f (ßb (Yo x c l)),λj y v' e1 e2 e3=>?_},λy T e=>?_,Ŵa,Įb,λp Z=>?_,g {oc,G,Įb x c l} f,by simpa using åb} {c,f,.inr l};show(Ϸf).trans Ϯk;let{sl,e1}:=Ųd b o e n F t;show{sl,(Ϸf).trans e1};let{U,e1}:=ťd b o e t;show{U,(Ϸf).trans e1};rw[îo];show{u,r,.inr {.inl hk,c,l,J}};rw[ðo];rcases q with q|⟨k,T,e,z'⟩;show .inl q;show .inr {k,T,e,z'.sameBut f ?_};rintro rfl;show hj (bY hN e1 (I.ok.inj _ _ _ e l▸L));by_cases hcc:T=c;subst hcc;show{_,J};let{w2,z2}:=īa y T e;show{w2,z2.sameBut f hcc};let{e,n,S,W,d}:=ıa p Z;show{(f.2 p.1 ?_).trans e,n,S,W,d};intro q;rw[q,G]at e;let q':oc=p.2:=āa e;show d R (by rw[<-q'];show O)
def N5{M:ąd}{A:Ā}{E:Value->Ñ->È}{i:Ä}{x:Ç}{v:V}{u:Value}{Q:Űb->Ñ->È}(I:zH X z8 σ H s)(b:ßa)(e:X.N[i]?=À x)(d:qO Ϟ x)(r:zw v u)(h:∀s',zH X z8 Ϙc H s'->Q () s')(c:Î Ėa q7):Û M A Ōk Q E s:=
 eT I b e d r (λs' a _=>h s' a) c
def zH.Mc{s':Ñ}{ch:Á Í}(I:zH X z8 σ H s)(f:s'.os=s.os)(u:Un ài ch H H' à ļc)(d:xm ò X.w H' ļc)(h:Ûd s'.gens)(a:∀b∈ch,őe/\b≠ϟ/\(∀x c,ûa x=À c->c≠b)/\∀p∈ůb++z8,p.1≠b):zH X z8 σ H' s':=by let{h',g',d',t',g}:=s';let e:g=s.os:=f;subst e;show I.call (g':=g') (t':=t') (d':=d') u d h a
#print a
abbrev XK:=Value->Ê Í->Hp->È
abbrev St:=Á ŗf
abbrev VK:=V->Hp->È
abbrev TE:=St->Hp->VK->È
abbrev TT:=St->Hp->(Ï->Hp->È)->È
abbrev TA:=St->Hp->(Á V->Hp->È)->È
structure uF where
 nx:St->Hp->È
 rt:VK
 bk:St->Hp->È:=λ_ _=>ê
 ct:St->Hp->È:=λ_ _=>ê
abbrev TS:=uF->St->Hp->È
def EP(X:Cx)(a:Á î)(σ:St)(Q:VK)(u:Value)(s':Ñ):È:=∃v H',zH X a σ H' s'/\zw v u/\Q v H'
def TP(X:Cx)(a:Á î)(σ:St)(Q:Ï->Hp->È)(b:Ï)(s':Ñ):È:=∃H',zH X a σ H' s'/\Q b H'
def AP(X:Cx)(a:Á î)(σ:St)(Q:Á V->Hp->È)(us:Á Value)(s':Ñ):È:=∃vs H',zH X a σ H' s'/\zm vs us/\Q vs H'
def SP(X:Cx)(a:Á î)(D:uF)(f:Flow)(s':Ñ):È:=
 match f with
 |.next=>∃σ' H',zH X a σ' H' s'/\ĵa σ' H'|.brk=>∃σ' H',zH X a σ' H' s'/\D.bk σ' H'|.cont=>∃σ' H',zH X a σ' H' s'/\D.ct σ' H'|.ret u=>∃v σ' H',zH X a σ' H' s'/\zw v u/\D.rt v H'
def PE(X:Cx)(e:Ó)(t:TE):È:=
 ∀(z8:Á î) (s:Ñ) (σ:St) (H:Hp) (Q:VK),zH X z8 σ H s->t σ H Q->Û ù X.A şd öb ĥ s
def PT(X:Cx)(e:Ó)(t:TT):È:=
 ∀(z8:Á î) (s:Ñ) (σ:St) (H:Hp) (Q:Ï->Hp->È),zH X z8 σ H s->t σ H Q->Û ù X.A (ðd e Ö şd) ϟg ĥ s
def PW(X:Cx)(e:Ó)(t:TT):È:=
 ∀(Ìc:Sem Value)(z8:Á î) (s:Ñ) (σ:St) (H:Hp) (Q:Ï->Hp->È),zH X z8 σ H s->t σ H Q->Û ù X.A (ðd e Ö Ìc) ϟg ĥ s
def PW.pt{X:Cx}{e:Ó}{t:TT}(h:PW X e t):PT X e t:=h _
def PA(X:Cx)(es:Á Ó)(t:TA):È:=
 ∀(pos:Pos)(z8:Á î) (s:Ñ) (σ:St) (H:Hp) (Q:Á V->Hp->È),zH X z8 σ H s->t σ H Q->Û ù X.A (spliced űc) Źl ĥ s
def PS(X:Cx)(st:Ù)(t:TS):È:=
 ∀(z8:Á î) (s:Ñ) (σ:St) (H:Hp) (D:uF),zH X z8 σ H s->t D σ H->Û ù X.A (exec st Ö) Ϝm ĥ s
def uf(X:Cx)(st:Á Ù)(t:TS):È:=
 ∀(z8:Á î) (s:Ñ) (σ:St) (H:Hp) (D:uF),zH X z8 σ H s->t D σ H->Û ù X.A (execs st Ö) Ϝm ĥ s
def zj{α:Type}{t:Sem α}{Q b:α->Ñ->È}{M:ąd}{A:Ā}{E:Value->Ñ->È}{s:Ñ}(h:Û M A t Q E s)(c:∀a s,Q a s->b a s):Û M A t b E s:=ýa h c λ_ _ x=>x
section
variable{X:Cx}
nonrec def W9(i:Ä):TE:=λσ H Q=>∃v,σ[i]?=À ŧ/\Q v H
nonrec def tC(v:V):TE:=λ_ H Q=>Q v H
def ZE{i:Ä}{x:Ç}{pos:Pos}(k:X.N[i]?=À x)(hv:qQ Ϟ x)(g:Î Ģ q10)(f:Î Śa q10):PE X ϻ ŋc:=by intro o s σ H Q I h;let{v,e,h}:=h;let{m,n,p}:=èa;let{u,r,l}:=p i x v k e hv;let b:EP X o σ Q u s:={v,H,I,r,h};rcases l with⟨d,q⟩|⟨d,c,j,a⟩;show Įh (ēk Ób d n q b) g;rcases d with d|d;show Įh (ĸk Ób d j a b) g;show Įh (wpAny_loadName_free Ób d j a b f) g
def Ev{i j pos}:PE X (.Constant Ϩ j pos) (tC Ϩ):=λ_ _ _ H _ I h=>wpAny_Constant_int {.int i,H,ϊ _,{_,rfl},h}
def z7i{b j pos}:PE X (.Constant ϡh j pos) (tC ğb):=λ_ _ _ H _ I h=>Constant_bool {.bl b,H,I,rfl,h}
def z80{j pos}:PE X (.Constant .none j pos) (tC .zE):=λ_ _ _ H _ I h=>Constant_none {.zE,H,I,rfl,h}
def Vp{x j pos}:PE X (.Constant Ŭa j pos) (tC Ŭa):=λ_ _ _ H _ I h=>Calls.Constant_str {.str x,H,ϊ _,{_,rfl},h}
def Gl(X:Cx)(x:Ç):È:=Ăc x=À .globalImplicit
def OU{E:Value->Ñ->È}{b:Á î}{s:Ñ}{σ:St}{H:Hp}{x:Ç}{u:Value}{pos:Pos}{Q:Value->Ñ->È}(I:zH X b σ H s)(c:Gl X x)(a:ñ x=À u)(h:Q u s)(d:Î Ģ q10):Û ù X.A ϱl Q E s:=
 Įj Ób c (Calls.loadGlobal_global Ðj a h) d
def Vh{E:Value->Ñ->È}{e:Á î}{s:Ñ}{σ:St}{H:Hp}{x:Ç}{u:Value}{pos:Pos}{Q:Value->Ñ->È}(I:zH X e σ H s)(a:Gl X x)(g:ñ x=Æ)(hv:ş x=À u)(h:Q u s)(b:Î Ša q10)(f:Î Ģ q10):Û ù X.A ϱl Q E s:=by let{i,d,c}:=I.mod.blt;show Įj Ób a (Calls.loadGlobal_builtin Ðj g (by rw[I.ok.blt];show d.keeps I.bk) ((c x b).trans hv) h) f
def z7w{x:Ç}{v:V}{u:Value}{pos:Pos}(b:Gl X x)(a:ñ x=À u)(r:zw v u)(c:Î Ģ q10):PE X ϻ èe:=
 λ_ _ _ H _ I h=>OU I b a {v,H,I,r,h} c
def z7j{x:Ç}{v:V}{u:Value}{pos:Pos}(a:Gl X x)(d:ñ x=Æ)(hv:ş x=À u)(r:zw v u)(b:Î Ša q10)(c:Î Ģ q10):PE X ϻ èe:=
 λ_ _ _ H _ I h=>Vh I a d hv {v,H,I,r,h} b c
variable{a b:Ó}{ta tb:TE}{pos:Pos}
nonrec def tB(t:TE):TT:=λσ H Q=>t σ H λx a=>∃c,x=.bl c/\Q c a
def z96{e:Ó}{t:TE}(h:PE X e t)(c:Î (∀Ìc,ðd e Ö Ìc=(do let v <-Ìc;standAt e.pos;holding [v] Øn)) q11):PT X e (tB t):=by rw[ϋo];show isTrue_plain (zj (h i s σ H _ I g) λv l a=>?_) (c _);let{x,j,b,f,k}:=a;let{d,rfl,q}:=k;cases f;show æc {j,b,q}
variable{tA tB':TT}{yM:Á Ó}
nonrec def y3s(t u:TT):TT:=λσ H Q=>t σ H λc a=>if c=Å then u σ a Q else Q Ã a
nonrec def y4f(t u:TT):TT:=λσ H Q=>t σ H λc a=>if c=Å then Q Å a else u σ a Q
nonrec def y4d(t:TT):TT:=λσ H Q=>t σ H λc a=>Q (!c) a
def z9j(b:PT X a tA):PW X òk tA:=by
 intro g d s σ H Q I h;show Ϭm ėj;cases c with
 |Å=>show isTrue_and_nil e|Ã=>show e
def z9m(b:PT X a tA):PW X Čk tA:=by
 intro g d s σ H Q I h;show Ēn ėj;cases c with
 |Ã=>show isTrue_or_nil e|Å=>show e
def z9i(l:PT X a tA)(k:PW X Ϡe tB'):PW X āf (y3s tA tB'):=by
 intro m i s σ H Q I h;show Ϭm Ĕj;let{f,g,e}:=d;cases c with
 |Å=>show k m i j σ f Q g e|Ã=>show{f,g,e}
def z9l(l:PT X a tA)(k:PW X ϟe tB'):PW X Āf (y4f tA tB'):=by
 intro m i s σ H Q I h;show Ēn Ĕj;let{f,g,e}:=d;cases c with
 |Å=>show{f,g,e}|Ã=>show k m i j σ f Q g e
def z95(d:PT X a tA):PT X ĸe (y4d tA):=by intro e s σ H Q I h;show isTrue_not (d e s σ H (λc b=>Q (!c) b) I h)
nonrec def y3t(ta tb:TE):TE:=λσ H Q=>ta σ H λx a=>∃c,x=.bl c/\if c=Å then tb σ a Q else Q ç a
nonrec def y4g(ta tb:TE):TE:=λσ H Q=>ta σ H λx a=>∃c,x=.bl c/\if c=Å then Q ě a else tb σ a Q
nonrec def y4e(ta:TE):TE:=λσ H Q=>ta σ H λx a=>∃c,x=.bl c/\Q (.bl (!c)) a
def z82{op}{t:TE}(h:PE X a t):PE X įk t:=λc s σ H Q I b=>BoolOp_one (h c s σ H Q I b)
def z7h(k:PE X a ta)(j:PE X Ϡe tb):PE X āf (y3t ta tb):=by
 rw[ćo];show BoolOp_and ĕj;rw[ėo];cases c with
 |Å=>show j g m σ i Q f d|Ã=>show{.bl Ã,i,f,rfl,d}
def z83(k:PE X a ta)(j:PE X ϟe tb):PE X Āf (y4g ta tb):=by
 rw[ćo];show BoolOp_or ĕj;rw[ėo];cases c with
 |Ã=>show j g m σ i Q f d|Å=>show{.bl Å,i,f,rfl,d}
def z81(e:PE X a ta):PE X ĸe (y4e ta):=by rw[Ćo];show UnaryOp_ (zj (e i s σ H _ I h) λv k b=>?_);let{x,j,f,g,d}:=b;let{c,rfl,d}:=d;cases g;show not_of (æc {.bl (!c),j,f,rfl,d})
nonrec def y42(t:TT)(ta tb:TE):TE:=λσ H Q=>t σ H λc a=>if c=Å then ta σ a Q else tb σ a Q
def z7x{c:Ó}(l:PT X c tA)(n:PE X a ta)(m:PE X b tb):PE X ϗk (y42 tA ta tb):=by
 intro f s σ H Q I h;show wpAny_IfExp (zj (l f s σ H _ I h) λd g e=>?_);let{i,j,k}:=e;cases d with
 |Å=>show n f g σ i Q j k|Ã=>show m f g σ i Q j k
#print a
def yh(K:Ð)(H:Hp)(a:Í)(xs:Á V):È:=
 Rd H a îa \/
  ∃(o:Obj) (its:Ĝ Value) (n:Ä),Ϗ a=À o/\Ϯa=.type ę/\Üe=Æ/\Īa=.seq its n/\ϰh<=ã/\zm xs ŷd
def xE(K:Ð)(H:Hp)(a:Í)(xs:Á V):È:=
 Rd H a Ġa \/
  ∃(o:Obj) (its:Ĝ Value) (n:Ä),Ϗ a=À o/\Ϯa=.type ż/\Īa=.seq its n/\ϰh<=ã/\zm xs ŷd
nonrec def ii:Value->Ê V
 |.none=>À .zE|.bool b=>À ğb|.int i _=>À Ϩ|.str x _=>À Ŭa|.bytes b _=>À (.byt b)|.float b _=>À (.Yp b)|.ref a=>À ś|.type n=>À (.ty n)|_=>Æ
def zw.abs{x:V}{u:Value}(r:zw x u):ii u=À x:=by
 cases x with
 |zE=>cases r;rfl|bl _=>cases r;rfl|int _=>let{t,rfl}:=r;rfl
 |str _=>let{t,rfl}:=r;rfl
 |byt _=>let{t,rfl}:=r;rfl
 |Yp _=>let{t,rfl}:=r;rfl
 |ref _=>cases r;rfl|ty _=>cases r;rfl
def zw.inj{x y:V}{u:Value}(r:zw x u)(q:zw y u):x=y:=āa (r.abs.symm.trans q.abs)
theorem zm.inj{xs ys:Á V}{us:Á Value}(h:zm xs us)(g:zm ys us):xs=ys:=by
 induction h generalizing ys with
 |nil=>cases g;rfl|ú r _ ih=>cases g with|ú r' t'=>rw[r.inj r',ih t']
section
variable{X:Cx}{z8:Á î}{σ:St}{H:Hp}{s:Ñ}{a:Í}{xs ys:Á V}
def Ŕa{K:Ð}(h:H a=À îa):yh K H a xs:=.inl ñi
def Ŧb{K:Ð}(h:H a=À Ġa):xE K H a xs:=.inl ñi
def zH.list(I:zH X z8 σ H s)(h:yh X.K H a xs):∃its:Á Value,zm xs its/\PlainL à a Ϧ/\ä<=ã:=by rcases h with h|⟨o,its,n,hk,hc,hd,hs,hz,r⟩;let{z,its,n,r,e}:=h.ok ĉ;show{its,r,{_,n,e,rfl,rfl,rfl},z};refine{ŷd,r,{o,n,ţ a o hk,hc,hd,by simpa using hs},?_};rw[ŷo]
def zH.tuple(I:zH X z8 σ H s)(h:xE X.K H a xs):∃its:Á Value,zm xs its/\ϯa à a Ϧ/\ä<=ã:=by rcases h with h|⟨o,its,n,hk,hc,hs,hz,r⟩;let{z,its,r,p}:=h.ok ĉ;show{its,r,p,z};refine{ŷd,r,{o,ţ a o hk,hc,n,by simpa using hs},?_};rw[ŷo]
def zH.Me(I:zH X z8 σ H s)(h:yh X.K H a xs)(h':yh X.K H a ys):xs=ys:=by
 let{c,r,{o,n,e,_,_,d},_}:=ϒ h;let{b,i,{k,j,f,_,_,g},_}:=ϒ h';rw[e]at f;cases f;rw[d]at g;injection g with d1 _
 rw[žo]
 subst this;show r.inj i
def zH.Mm(I:zH X z8 σ H s)(h:xE X.K H a xs)(h':xE X.K H a ys):xs=ys:=by
 let{c,r,{o,e,_,n,d},_}:=Ϥ h;let{b,i,{k,f,_,j,g},_}:=Ϥ h';rw[e]at f;cases f;rw[d]at g;injection g with d1 _
 rw[žo]
 subst this;show r.inj i
#print a
abbrev Cx.gR(X:Cx)(E:Value->Ñ->È):Cx:={ X with xe:=E }
abbrev Cx.tW(X:Cx):Cx:=X.gR λ_ _=>ê
theorem Cx.Ok.gR{X:Cx}(a:X.Ok)(E:Value->Ñ->È):(ϸd).Ok:=
 {a.mod,Ŋi,a.glob,a.blt,a.above,a.inj,a.has,a.WP,a.hd,a.frames,a.Ul,a.Uf,a.bs,a.gN,a.WW,a.WQ,a.pR,a.Zc}
def Cx.Ok.Zf{X:Cx}{E:Value->Ñ->È}(a:(ϸd).Ok):X.Ok:=
 {a.mod,Ŋi,a.glob,a.blt,a.above,a.inj,a.has,a.WP,a.hd,a.frames,a.Ul,a.Uf,a.bs,a.gN,a.WW,a.WQ,a.pR,a.Zc}
section
variable{X:Cx}{z8:Á î}{σ:St}{H:Hp}{s:Ñ}{E:Value->Ñ->È}
theorem zH.gR(I:zH X z8 σ H s)(E:Value->Ñ->È):zH ϸd z8 σ H s:={I.ok.gR E,Øc,ŵa,źf,èa,īa,Ŵa,Įb,ıa,ĉ,åb}
theorem zH.Zf(I:zH ϸd z8 σ H s):zH X z8 σ H s:={I.ok.Zf,Øc,ŵa,źf,èa,īa,Ŵa,Įb,ıa,ĉ,åb}
theorem SP.Zf{D:uF}{f:Flow}{s':Ñ}(h:SP ϸd z8 D f s'):SP X z8 D f s':=by
 cases f with
 |next=>let{σ',a,I,q}:=h;show{σ',a,I.Zf,q}
 |brk=>let{σ',a,I,q}:=h;show{σ',a,I.Zf,q}
 |Ĭb=>let{σ',a,I,q}:=h;show{σ',a,I.Zf,q}
 |ret u=>let{v,σ',a,I,r,q}:=h;show{v,σ',a,I.Zf,r,q}
theorem uf.tW{st:Á Ù}{t:TS}(h:uf X.tW st t):uf X st t:=λz8 s σ H D I a=>
 ýa (h z8 s σ H D (I.gR _) a) (λ_ _ q=>q.Zf) λ_ _ z=>Áa z
#print a
section
variable{X:Cx}{st:Ù}{yM:Á Ù}{t u:TS}{e:Ó}{te:TE}{pos:Pos}
nonrec def y4b:TS:=λD σ H=>ĵa σ H
nonrec def y4k(t u:TS):TS:=λD σ H=>t { D with nx:=u D } σ H
def cO:uf X [] y4b:=λ_ _ σ H _ I h=>Ĳe {σ,H,I,h}
def cN(e:PS X st t)(d:uf X yM u):uf X (st::yM) (y4k t u):=by
 intro a s σ H D I h;show Ùl (zj (e a s σ H { D with nx:=u D } I h) λf b q=>?_);cases f with
 |next=>let{σ',g,c,q}:=q;show d a b σ' g D c q
 |ret v=>show q|brk=>show q|Ĭb=>show q
def cP(a:PS X st t):uf X [st] t:=by
 rw[ĸo];show Ùl (zj (a b s σ H D I h) λf c q=>?_);cases f with
 |next=>show Ĳe q|ret v=>show q|brk=>show q|Ĭb=>show q
def zH.quiet{a:Á î}{σ:St}{H:Hp}{s:Ñ}(I:zH X a σ H s):ņm Ö=Ã:=by simp[ņm,Ób]
nonrec def eZ(te:TE):TS:=λD σ H=>te σ H λ_ a=>ĵa σ a
def cI(f:PE X e te)(c:Î Ţj q12):PS X Íh (eZ te):=by intro g s σ H D I h;show wpAny_Expr_any (zj (f g s σ H _ I h) λv j a=>?_) I.quiet c;let{x,b,d,k,i}:=a;show{σ,b,d,i}
nonrec def y4i(te:TE):TS:=λD σ H=>te σ H D.rt
def Ou(d:PE X e te):PS X Ĺe (y4i te):=by intro g s σ H D I h;show wpAny_Return_some (zj (d g s σ H _ I h) λv j a=>?_);let{x,b,c,f,i}:=a;show{x,σ,b,c,f,i}
nonrec def y43(c:TT)(t u:TS):TS:=λD σ H=>c σ H λb a=>if b=Å then t D σ a else u D σ a
def cK{c:Ó}{a b:Á Ù}{i:TT}(m:PT X c i)(o:uf X a t)(n:uf X b u):PS X (.If c a b pos) (y43 i t u):=by
 intro f s σ H D I h;show wpAny_If (zj (m f s σ H _ I h) λd g e=>?_);let{j,k,l}:=e;cases d with
 |Å=>show o f g σ j D k l|Ã=>show n f g σ j D k l
nonrec def y4a:TS:=λ_ _ _=>ê
def z94{a:Á Ù}:uf X a y4a:=λ_ _ _ _ _ _ h=>Ńi
#print a
abbrev TG:=V->St->Hp->Ûm->È
abbrev ga:=Á V->St->Hp->Ûm->È
def PG(X:Cx)(a:Ó)(t:TG):È:=
 ∀(z8:Á î) (s:Ñ) (σ:St) (H:Hp) (v:V) (u:Value) (Q:St->Hp->È),zH X z8 σ H s->zw v u->t v σ H Q->
  Û ù X.A (ůa a Ö u) (λ_ b=>∃σ' H',zH X z8 σ' H' b/\Q σ' H') ĥ s
def TQ(X:Cx)(b:Á Ó)(t:ga):È:=
 ∀(z8:Á î) (s:Ñ) (σ:St) (H:Hp) (vs:Á V) (us:Á Value) (Q:St->Hp->È),zH X z8 σ H s->zm vs us->t vs σ H Q->
  Û ù X.A (assignInOrder ((Ĺb b Ö).map (·.2)) us) (λ_ a=>∃σ' H',zH X z8 σ' H' a/\Q σ' H') ĥ s
abbrev Jm:=V->V->V->Hp->Ϙn->È
def BX(X:Cx)(t:Jm):È:=
 ∀(z8:Á î) (s:Ñ) (σ:St) (H:Hp) (o i v:V) (ov iv u:Value) (Q:Hp->È),zH X z8 σ H s->zw o ov->zw i iv->zw v u->t o i v H Q->
  Û ù X.A (ńf ov iv u) (λ_ a=>∃H',zH X z8 σ H' a/\Q H') ĥ s
abbrev V6:=V->V->Hp->VK->È
def TR(X:Cx)(a:Ĳc)(t:V6):È:=
 ∀(z8:Á î) (s:Ñ) (σ:St) (H:Hp) (x y:V) (v u:Value) (Q:VK),zH X z8 σ H s->zw x v->zw y u->t x y H Q->
  Û ù X.A (όd a v u) öb ĥ s
section
variable{X:Cx}{pos:Pos}
nonrec def vy(i:Ä):TG:=λv σ H Q=>Q Ϙc H
def z88{i:Ä}{x:Ç}(b:ßa)(e:X.N[i]?=À x)(d:qO Ϟ x)(c:Î Ėa q7):PG X ϻ Ĥb:=by intro g s σ H v u Q I r h;show Ϛk (N5 I b e d r (λf a=>{_,H,a,h}) c)
nonrec def Xb:ga:=λa σ H Q=>a=[]/\Q σ H
nonrec def j5(t:TG)(u:ga):ga:=λa σ H Q=>∃v r,a=v::r/\t v σ H λσ' b=>u r σ' b Q
def z8c:TQ X [] Xb:=by intro c s σ H a b Q I r h;let{e,h}:=h;subst e;cases r;show assignInOrder_nil {σ,H,I,h}
def z8b{e:Ó}{es:Á Ó}{t:TG}{u:ga}(j:PG X e t)(c:TQ X es u)(i:Î ((Àm).map (·.2)=ůa e Ö::(Ŗd).map (·.2)) q12):TQ X Ē (j5 t u):=by
 intro b s σ H m n Q I r h;let{v,l,e1,h}:=h;subst e1;cases r with
 |ú r rr=>rw[i];show assignInOrder_cons (zj (j b s σ H _ _ _ I r h) λ_ f a=>?_);let{σ1,g,d,k}:=a;show c b f σ1 g _ _ Q d rr k
nonrec def Xc(K:Ð)(n:Ä)(t:ga):TG:=λv σ H Q=>∃a xs,v=.ref a/\xE K H a xs/\ä=n/\t xs σ H Q
def z8a{es:Á Ó}{k:Ä}{t:ga}{n:Ä}(p:Š=Å)(h:TQ X es t)(i:Î Āl q12)(d:Î ((Ŗd).findIdx? (·.1)=Æ) q12):PG X Ìl ġm:=by
 intro f s σ H v u Q I r c;let{a,w,e1,l,q,c}:=c;subst e1;cases r;let{z,g,m,A}:=Ϥ l;refine assign_Tuple_tuple Ĕi m (by simp[i,<-q,Üb]) d λy x=>?_
 let j:zH X f σ H { s with ì:=y }:=Èc (t':=ĕ) λb o e=>x b o ϊh e
 show h f _ σ H w _ Q j ĳg c
nonrec def aA(a e:TE)(t:Jm):TG:=λv σ H Q=>a σ H λo c=>e σ c λi b=>t o i v b λd=>Q σ d
def z89{o i:Ó}{c d:TE}{t:Jm}(w:PE X o c)(n:PE X i d)(C:BX X t)(j:∀v,ůa Ěg Ö v=(do
   let ov <-holding [v] Ãf
   let iv <-holding [v,ov] (ċ i Ö)
   standAt pos
   holding İn (ńf ov iv v)
   release İn []):=by intro _;rfl):PG X Ěg (aA c d t):=by
 intro b s σ H v u Q I r h;rw[j];show Ø (Ϻa (zj Źk λov p a=>?_));let{x,A,k,l,F}:=a;show Ø (Ϻa (zj (n b p σ A _ k F) λiv B a=>?_));let{y,z,f,g,q}:=a;show Ø (łe (Ø (Ϻa (zj (C b B σ z x y v ov iv u _ f l g r q) λ_ G a=>?_))));let{E,e,m}:=a;show wpAny_release {σ,E,e,m}
nonrec def LJ(a:TE)(g:TG):TS:=λD σ H=>a σ H λx b=>g x σ b ĵa
def Ot{tg e:Ó}{c:TE}{g:TG}(f:PE X e c)(n:PG X tg g)(m:Î Ùj q12)(j:Î ϙj q12)(o:Î ((Ţl).map (·.2)=õm) q12):PS X İk (LJ c g):=by rw[ĸo];show wpAny_Assign_stores (zj (f b s σ H _ I h) λv k a=>?_) m j;let{x,l,d,i,p}:=a;rw[o];show zj (n b k σ l x v _ d i p) λ_ r q=>q
def cL{i:Ä}{x:Ç}{e:Ó}{c:TE}{a:Pos}(f:ßa)(l:X.N[i]?=À x)(q:qO Ϟ x)(j:PE X e c)(p:Î ϳk q12)(o:Î Ėa q7) :PS X Żj (LJ c Ĥb):=by intro m s σ H D I h;show wpAny_Assign_Name (zj (j m s σ H _ I h) λv t b=>?_) p;let{y,n,g,k,r}:=b;show N5 g f l q k (λu d=>{_,n,d,r}) o
nonrec def y3u(i:Ä)(a:TE)(d:V6):TS:=λD σ H=>∃x,σ[i]?=À (À x)/\a σ H λy c=>d x y c λz b=>ĵa (σ.set i (À z)) b
def Ez{i:Ä}{x:Ç}{e:Ó}{o:TE}{n:Ĳc}{q:V6}{f:Pos}(W:ßa)(p:X.N[i]?=À x)(g:qO Ϟ x)(C:PE X e o)(K:TR X n q)(P:Î Ėa q7) :PS X (.AugAssign (.Name x f) n e pos) (y3u i o q):=by
 intro j s σ H D I h;let{v,e1,h}:=h;let{m,Y,J}:=èa;let vis:qQ Ϟ x:=by rcases g with k|k;show .inl k;show .inr ļf
 let{u,r,l}:=J i x v p e1 vis;show wpAny_AugAssign_Name ?_
 let t:Û ù X.A şd (λw Q=>Û ù X.A (όd n u w) (λr U=>Û ù X.A (storeName Ö x r) (λ_=>SP X j D .next) ĥ U) ĥ Q) ĥ s:=by
  show zj (C j s σ H _ I h) λw G d=>?_
  let{y,O,Z,E,R}:=d;show zj (K j G σ O v y u w _ Z r E R) λz s2 d=>?_
  let{zv,L,T,B,q2}:=d;show N5 T W p g B (λs3 S=>{_,L,S,q2}) P
 rcases l with⟨a,hm⟩|⟨a,c,F,b⟩;show ēk Ób a Y hm t;rcases a with a|a;show ĸk Ób a F b t;rcases g with k|k;rw[ļo];rw[ļo]
nonrec def ak(f:Â->Â->Â):V6:=λx y H Q=>∃i j,x=.int i/\y=.int j/\Q (Β (f i j)) H
def OF:TR X .Add ĸl:=by rw[ϒo];let{i,j,e1,e2,q}:=h;subst e1;subst e2;let{t,rfl}:=b;let{d,rfl}:=a;show iadd_int {.int _,H,ϊ _,{_,rfl},q}
#print a
section
variable{X:Cx}{pos:Pos}
nonrec def y4q(c:TT)(d:TS):TS:=λD σ H=>∃W:Ä->St->Hp->È,(∃m,W m σ H)/\∀m σ H,W m σ H->
 c σ H λb a=>if b=Å then ∃N:St->Hp->È,(∀σ' H',N σ' H'->∃m',m'<m/\W m' σ' H')/\d { D with nx:=N,ct:=N,bk:=ĵa } σ a else ĵa σ a
def z93{c:Ó}{a:Á Ù}{r:TT}{B:TS}(t:ϵc ù X.A Ö ĥ)(E:PT X c r)(J:uf X a B):PS X (.While c a [] pos) (y4q r B):=by
 intro o s σ H D I h;let{W,{m0,G},d}:=h;show wpAny_While (codeAny_whileLoop (λn C=>∃σ' H',zH X o σ' H' C/\W n σ' H') ?_ m0 {σ,H,I,G});rintro n F ⟨σ1,u,K,L⟩;show ëc t (zj (E o F σ1 u _ K (d n σ1 u L)) λb O p=>?_);let{x,y,i}:=p;cases b with
 |Å=>
  let{N,z,i}:=i;rw[Ò rfl];show ëc t (zj (J o O σ1 x _ y i) λf P g=>?_);cases f with
  |next=>let{σ3,e,k,j}:=g;let{l,q,m}:=z σ3 e j;show{l,q,σ3,e,k,m}
  |Ĭb=>let{σ3,e,k,j}:=g;let{l,q,m}:=z σ3 e j;show{l,q,σ3,e,k,m}
  |brk=>show g|ret v=>show g
 |Ã=>rw[Ô Ŋ];show Ĳe {σ1,x,y,i}
#print a
structure It where
 go:Ä->Hp->È
 ud:Ä->Hp->V->Hp->È
 ϭ:Ä->Hp->È
def jH(X:Cx)(a:Á î)(H:Hp)(b:Í):È:=
 H b=Æ/\b≠ϟ/\b ∉ Ĵa/\őe/\(∀x c,ûa x=À c->c≠b)/\∀p∈ůb++a,p.1≠b
def zH.Zb{X:Cx}{d:Á î}{σ:St}{H H':Hp}{s:Ñ}{b:Í}(I:zH X d σ H s)(a:Þ<=b)(g:H' b=Æ):jH X d H' b:=by show{g,ûb (Ŵ I.lt a),I.Pq a,.inr (Ĵ I.sz a),λx c e z=>?_,λp f z=>?_};let{v,q}:=īa x c e;show ß (Ŵ q.lt Äl) Ϸ;show ß (Ŵ (Ĭ (ıa p f).1) Äl) Ϸ
structure gb(P:ï)(w:è)(K:Ð)(tg:Ó)(J:It)(fp:Á Í)(it:Í)(tn:Ä->Heap->È):È where
 mem:it∈fp
 obj:∀i h,tn i h->∀b∈fp,∃o,Ğ b=À o/\∀v,Īa≠.cell v
 đa:∀i h h',tn i h->(∀b∈fp,∀o,Ğ b=À o->Ĕ b=À o)->tn i h'
 ϰa:∀(X:Cx),ò=P->X.w=w->X.K=K->Š=Å->∀(i:Ä)(z8:Á î) (s:Ñ) (σ:St) (H:Hp) (E:Value->Ñ->È),zH X z8 σ H s->(∀b∈fp,jH X z8 H b)->tn i à->J.go i H->
  Û Ćb X.A ĳn (λr s1=>∃u,r=À u/\
   Û Ćb X.A Šl (λ_ s2=>∃x H',zH X z8 σ H' s2/\zw x u/\J.ud i H x H'/\tn õ s2.heap/\∀b∈fp,H' b=Æ) E s1) E s
 done:∀(X:Cx),ò=P->X.w=w->X.K=K->Š=Å->∀(i:Ä)(z8:Á î) (s:Ñ) (σ:St) (H:Hp) (E:Value->Ñ->È),zH X z8 σ H s->(∀b∈fp,jH X z8 H b)->tn i à->ŷf i H->
  Û Ćb X.A ĳn (λr s1=>r=Æ/\zH X z8 σ H s1) E s
 Ŭb:∀(A:Ā)(i:Ä)(s:Ñ)(Q:Value->Ñ->È)(E:Value->Ñ->È),tn i à->Q ϓa s->Û Ćb A (Úe ϓa) Q E s
abbrev TI:=St->Hp->(It->Hp->È)->È
def BW(X:Cx)(d:Á î)(σ:St)(tg:Ó)(R:It->Hp->È)(a:Value)(c:Ñ):È:=
 ∃(it:Í) (fp:Á Í) (tn:Ä->Heap->È) (J:It) (H':Hp),a=.ref it/\zH X d σ H' c/\gb ò X.w X.K tg J fp it tn/\tn 0 ód/\(∀b∈fp,jH X d H' b)/\R J H'
def PI(X:Cx)(tg a:Ó)(c:TI):È:=
 ∀(z8:Á î) (s:Ñ) (σ:St) (H:Hp) (R:It->Hp->È),zH X z8 σ H s->c σ H R->
  Û ù X.A ūm (λv b=>Û ù X.A (Úe v) (BW X z8 σ tg R) ĥ b) ĥ s
def VW{M:ąd}{A:Ā}{E:Value→Ñ→È}{s:Ñ}{tg:Ó}{it:Í}{u:Value}{o:Obj}{n:Ÿ}{vs:Ĝ Value}{Q:Űb→Ñ→È}(b:ć it=À o)(c:Ϯa=.type n)(e:Īa=.fields vs)(d:[Ĵm,Đa,ĵk,žj,Ñl,Âk,Ēk].contains n=Ã)(a:Q () s):Û M A Šl Q E s:=by
  unfold Łe
  cases tg<;>first
    |show Đ a
    | (cases u<;>first
        |show Đ a
        | (show Ø (Ϩm b ?_)
           rw[c,e];exact Û M A (ζa ([Ĵm,Đa,ĵk,žj,Ñl,Âk,Ēk].contains n&&vs[0]?==À (Ée _))) Q E s;rw[Ô (by intro h;rw[d,ôb]at h;cases h)];show Đ a))
nonrec def BP(K:Ð)(a:Í):It:=
 {λi H=>∃xs x,yh K H a xs/\xs[i]?=À x,λi H x b=>b=H/\∀xs,yh K H a xs->xs[i]?=À x,λi H=>∃xs,yh K H a xs/\ä<=i}
nonrec def BQ(K:Ð)(a:Í):It:=
 {λi H=>∃xs x,xE K H a xs/\xs[i]?=À x,λi H x b=>b=H/\∀xs,xE K H a xs->xs[i]?=À x,λi H=>∃xs,xE K H a xs/\ä<=i}
nonrec def Jf(a:Â)(n:Ä):It:={λi _=>i<n,λi H x b=>b=H/\x=.int (a+i),λi _=>n<=i}
def y7x{P:ï}{w:è}{K:Ð}{tg:Ó}(a it:Í):gb P w K tg êi űb it (λi h=>çm it a i) where
 mem:=by simp
 obj:=λi h st b f=>by
  let e:b=it:=by simpa using f
  rw[Ão]
 đa:=λi h m st k=>ϕf λo e=>k it é o e
 ϰa:=by
  rw[Ĩo];let{xs,x,l,y}:=G;let{L,F,p,Q}:=ϒ l;let{u,T,R}:=F.get y;let{B,J,Y,A,C,r}:=j it é;refine Øk st Ěf (x:=u) ϋk λm g sb=>?_
  let Z:zH X O σ H { s with ì:=m }:=Ŏa (t':=ĕ) ľj B J A C r;let{o,e,c,d}:=id g;show{u,rfl,VW (s:={ s with ì:=m }) e c d Ì {x,H,Z,R,{rfl,λys U=>by rw[I.Me U l];show y},g,λb f=>(j b f).1}}
 done:=by rw[Ĩo];let{xs,l,y}:=G;let{L,F,p,Q}:=ϒ l;let{B,J,Y,A,C,r}:=j it é;let hl:=F.length;show õk (ġa N) st Ěf Ķl λm S=>{rfl,Ŏa (t':=ĕ) ãk B J A C r}
 Ŭb:=λ_ _ _ _ _ st h=>wpAny_pyIter_listiter st h
def y80{P:ï}{w:è}{K:Ð}{tg:Ó}(a it:Í):gb P w K tg éi űb it (λi h=>ϖl it a i) where
 mem:=by simp
 obj:=λi h st b f=>by
  let e:b=it:=by simpa using f
  rw[Ão]
 đa:=λi h n st k=>ϕf λo e=>k it é o e
 ϰa:=by
  rw[ħo];let{xs,x,m,A}:=J;let{g,G,p,Q}:=Ϥ m;let{u,T,R}:=G.get A;let{C,L,Y,B,F,t}:=l it é;refine wpAny_pyNext_tuple_item st (show ϕc a ŧh from p) (x:=u) ϋk λn j sb=>?_
  let Z:zH X O σ H { s with ì:=n }:=Ŏa (t':=ĕ) ľj C L B F t;let{o,e,c,d}:=id j;show{u,rfl,VW (s:={ s with ì:=n }) e c d Ì {x,H,Z,R,{rfl,λys U=>by rw[I.Mm U m];show A},j,λb f=>(l b f).1}}
 done:=by rw[ħo];let{xs,m,A}:=J;let{g,G,p,Q}:=Ϥ m;let{C,L,Y,B,F,t}:=l it é;let hl:=G.length;show wpAny_pyNext_tuple_end (ġa N) st (show ϕc a ŧh from p) Ķl λn S=>{rfl,Ŏa (t':=ĕ) ãk C L B F t}
 Ŭb:=λ_ _ _ _ _ st h=>wpAny_pyIter_tupleiter st h
def y7y{P:ï}{w:è}{K:éh}{tg:Ó}(it:Í)(f:Â)(n:Ä):gb P w K tg (Jf f n) űb it (λi h=>Ŗm h it (f+(i:Ä)*1) ((n:Â)-(i:Ä)) 1) where
 mem:=by simp
 obj:=λi h st b a=>by
  let e:b=it:=by simpa using a
  subst e
  show{_,st,λv z=>by let G:Data.fields _=Data.cell v:=z;cases G}
 đa:=λi h g st k=>k it é _ st
 ϰa:=by
  rw[áo];let W:=Walks.range (ı:=ò) (w:=X.w) Ĕi it f 1 n;show ŋi i s _ _ y st λv g B J c O=>?_
  let{t,rfl}:=J;let N:zH X C σ H { s with ì:=g,ď:=B }:=Ŏa (λb o a e=>O b o Œe e) u A r x m;refine{_,rfl,VW (s:={ s with ì:=g,ď:=B }) (n := "range_iterator") c rfl rfl Ì {.int (f+i),H,N,{t,?_},{rfl,rfl},c,λb a=>(d b a).1}};rw[Ϲe]
 done:=by rw[áo];show wpAny_pyNext_range_end Ĕi st (by let:n<=i:=y;omega) λg F=>{rfl,Ŏa (t':=ĕ) (λb o a e=>F b o a e) u A r x m}
 Ŭb:=λ_ _ _ _ _ st h=>wpAny_pyIter_rangeiter st h
section
variable{X:Cx}{tg:Ó}
def sR(K:Ð)(c:TE):TI:=λσ H R=>c σ H λx b=>∃a,x=.ref a/\(∃xs,yh K b a xs)/\R êi b
def sU(K:Ð)(c:TE):TI:=λσ H R=>c σ H λx b=>∃a,x=.ref a/\(∃xs,xE K b a xs)/\R éi b
def z8g{l:Ó}{g:TE}(n:PE X l g):PI X tg l (sR X.K g):=by
 intro m s σ H R I h;show zj (n m s σ H _ I h) λv d f=>?_
 let{x,r,c,j,t}:=f;let{a,e,{z,k},q}:=t;subst e;cases j;let{u,y,p,w}:=c.list k;show Ťc Ěf ?_;show{ŋg,[ŋg],_,_,r,rfl,c.kept (t':=d.toks) λb o e=>ğ _ e,y7x a _,{_,ų _ rfl,rfl,rfl},λb i=>?_,q};let e:b=ŋg:=by simpa using i
 subst e;show c.Zb Ę (c.zf.fresh Ę)
def z8j{l:Ó}{i:TE}(r:PE X l i):PI X tg l (sU X.K i):=by
 intro n s σ H R I h;show zj (r n s σ H _ I h) λv c f=>?_
 let{x,t,d,k,u}:=f;let{a,e,{z,m},q}:=u;subst e;cases k;let{g,y,p,w}:=d.tuple m;show ðg (show c.heap.IsTuple a ŧh from p) ?_;show{ûc,[ûc],_,_,t,rfl,ņi (t':=òd) λb o e=>ğ _ e,y80 a _,{_,ų _ rfl,rfl,rfl},λb j=>?_,q};let e:b=ûc:=by simpa using j
 rw[Ŏo]
def y0c{f:Á î}{σ:St}{H:Hp}{s:Ñ}{R:It->Hp->È}{E:Value->Ñ->È}{a c:Â}{t u v:Tok}{tk:Ä}(I:zH X f σ H s)(j : -ëi<=a)(h:a<2 ^ 62)(i : -ëi<=c)(k:c<2 ^ 62)(q:R (Jf a (c-a).toNat) H):Û ù X.A (Úe Ŋb) (BW X f σ tg R) E { s with ì:=ęa { cls:=.type Ěb,ā:=.fields #[.int a t,.int c u,.int 1 v] },ď:=tk }:=by
 show wpAny_pyIter_range (IsRange.new ..) (small_one j h i k) ?_;let d:zH X f σ H { s with ì:=ęa { cls:=.type Ěb,ā:=.fields #[.int a t,.int c u,.int 1 v] },ď:=tk }:=Èc λb o e=>ğ _ e
 refine⟨(Ϩf).objs.size,[(Ϩf).objs.size],_,_,H,rfl,
  ņi (t':=tk) λb o e=>ğ _ e,y7y _ a (c-a).toNat,?_,λb g=>?_,q⟩
 let e1:a+((0:Ä):Â)*1=a:=by simp
 let e2:(((c-a).toNat:Ä):Â)-((0:Ä):Â)=Builtin.Range.rangeSize a c 1:=by rw[rangeSize_one];rw[āo]
 exact Ŗm _ _ (a+((0:Ä):Â)*1) ((((c-a).toNat:Ä):Â)-((0:Ä):Â)) 1;rw[e1,e2];show ų _ rfl;let e:b=(Ϩf).objs.size:=by simpa using g
 rw[Ŏo]
def sS(c:TA):TI:=λσ H R=>c σ H λb a=>∃j:Â,b=[.int j] /\ -ëi<=j/\j<2 ^ 62/\R (Jf 0 Ňf) a
def z8h{a:Ó}{d:TA}{p pos:Pos}(n:Gl X Ěb)(o:ñ Ěb=Æ)(f:PA X [a] d)(m:Î Ļj q12):PI X tg ķj (sS d):=by
 intro k s σ H R I h;show Call_ (Vh I n o boot_range (àg (zj (f pos k s σ H _ I h) λx u b=>?_) m rfl));let{v,w,g,i,c}:=b;let{j,e,c,l,q}:=c;subst e;cases i with
 |ú r rr=>cases rr;let{t,rfl}:=r;show call_range_1 (y0c g É É c l (by simpa using q))
nonrec def y41(a:TI)(g:TG)(b:TS):TS:=λD σ H=>a σ H λJ d=>∃W:Ä->Ä->St->Hp->È,(∃m,W 0 m σ d)/\∀i m σ H,W i m σ H->
 (ŷf i H/\ĵa σ H)\/(J.go i H/\∃N:St->Hp->È,(∀σ' H',N σ' H'->∃m',m'<m/\W õ m' σ' H')/\∀x H',J.ud i H x H'->g x σ H' λσ2 c=>b { D with nx:=N,ct:=N,bk:=ĵa } σ2 c)
nonrec def Qf(a:Á Í)(h:Heap):Á î:=a.filterMap λb=>(Ğ b).map λo=>(b,o)
def OZ{a:Á Í}{h:Heap}{b:Í}{o:Obj}(c:b∈a)(e:Ğ b=À o):(b,o)∈Qf a h:=List.mem_filterMap.mpr {b,c,by rw[e];rfl}
def z4b{a:Á Í}{h:Heap}{p:Í×Obj}(d:p∈Qf a h):p.1∈a/\Ğ p.1=À p.2:=by
 let{b,f,e}:=List.mem_filterMap.mp d;cases q:Ğ b with
 |Æ=>rw[q]at e;cases e|À o=>rw[q]at e;let c:(b,o)=p:=āa e;subst c;show{f,q}
def zH.pinned{c:Á î}{σ:St}{H:Hp}{s:Ñ}{a:Á Í}(I:zH X c σ H s)(j:∀b∈a,jH X c H b)(h:∀b∈a,∃o,ć b=À o/\∀v,Īa≠.cell v):zH X (c++Qf a à) σ H s:=
 I.Uk λp i=>(Àb i).elim (λz=>ıa p (Ĵb _ z)) λz=>by let{g,e}:=z4b z;let{l,m,k,_}:=j p.1 g;let{o,f,d}:=h p.1 g;rw[e]at f;cases f;show{e,l,m,k,d}
def zH.Mn{a pl:Á î}{σ:St}{H:Hp}{s:Ñ}(I:zH X (a++pl) σ H s):zH X a σ H s:=I.Uk λp b=>ıa p (Ĵb _ (Ėg _ b))
def G7{p:Ó}{t:Á Ù}{wi:TI}{g:TG}{tb:TS}{pos:Pos}(F:ϵc ù X.A Ö ĥ)(hc:Š=Å)(hi:PI X tg p wi)(hg:PG X tg g)(j:uf X t tb)(hs:Î (∀x,îb p Ö x=pure x) q11):PS X (.For tg p t [] pos) (y41 wi g tb):=by
 intro z s σ H D I h;show wpAny_For (zj (hi z s σ H _ I h) λv s1 h1=>zj h1 λitv s2 h2=>?_) hs;let{it,C,tn,J,H2,e,I2,T,S,f2,W,{m0,w0},G}:=h2;subst e;let c:∀{H':Hp},(∀b∈C,H' b=Æ)->∀b∈C,jH X z H' b:=λhn b j=>{hn b j,(f2 b j).2}
 show codeAny_forLoop_any (λn s'=>∃i σ' H',zH X z σ' H' s'/\tn i ļc/\(∀b∈C,H' b=Æ)/\W i n σ' H') ?_ m0 {0,σ,H2,I2,S,λb j=>(f2 b j).1,w0};rintro n s3 ⟨i,σ3,Q,I3,L,E,w3⟩;rcases G i n σ3 Q w3 with⟨P,qn⟩|⟨go,N,hN,O⟩;show ëc F (Εe (T.done X rfl rfl rfl hc i z s3 σ3 Q ĥ I3 (c E) L P));let{Z,I4}:=a;subst Z;show Ĳe {σ3,Q,I4,qn}
 .show ëc F (Εe (T.item X rfl rfl rfl hc i z s3 σ3 Q ĥ I3 (c E) L go));let{u,Z,h4}:=a;subst Z;show ëc F (zj h4 λ_ s5 a=>?_);let{x,H5,I5,r5,y5,B,R}:=a;let Y:=I5.pinned (c R) (óe _ _ B);show ëc F (zj (hg _ s5 σ3 H5 x u _ Y r5 (O x H5 y5)) λ_ s6 a=>?_);let{σ6,H6,I6,q6}:=a;show ëc F (zj (j _ s6 σ6 H6 _ I6 q6) λf U y=>?_)
  let q:∀{σ7:St}{l:Hp},zH X (z++Qf C s5.heap) σ7 l U->N σ7 l->∃m,m<n/\∃i σ' H',zH X z σ' H' U/\tn i U.heap/\(∀b∈C,H' b=Æ)/\W i m σ' H':=λ{σ7 l} k K=>by let{m',hm,w7}:=hN σ7 l K;show{m',hm,i+1,σ7,l,k.Mn,àe _ _ _ B λb j o e=>þj.1,λb j=>?_,w7};let{o,e,d}:=óe _ _ B b j;show þj.2.1
  cases f with
  |next=>let{σ7,l,k,K}:=y;show q k K
  |Ĭb=>let{σ7,l,k,K}:=y;show q k K
  |brk=>let{σ7,l,k,y}:=y;show{σ7,l,k.Mn,y}
  |ret v=>let{x7,σ7,l,k,r7,y}:=y;show{x7,σ7,l,k.Mn,r7,y}
#print a
abbrev R2:=V->V->Hp->VK->È
def ye(X:Cx)(f:Value->Value->Sem Value)(r:R2):È:=
 ∀(z8:Á î) (s:Ñ) (σ:St) (H:Hp) (x y:V) (v u:Value) (Q:VK),zH X z8 σ H s->zw x v->zw y u->r x y H Q->
  Û ù X.A įi öb ĥ s
def TV(X:Cx)(f:Value->Sem Value)(r:V->Hp->VK->È):È:=
 ∀(z8:Á î) (s:Ñ) (σ:St) (H:Hp) (x:V) (v:Value) (Q:VK),zH X z8 σ H s->zw x v->r x H Q->
  Û ù X.A (f v) öb ĥ s
def wL(X:Cx)(f:Value)(r:Á V->Hp->VK->È):È:=
 ∀(z8:Á î) (s:Ñ) (σ:St) (H:Hp) (xs:Á V) (us:Á Value) (Q:VK),zH X z8 σ H s->zm xs us->r xs H Q->
  Û ù X.A (ża f us) öb ĥ s
nonrec def LP(r:R2)(d a:TE):TE:=λσ H Q=>d σ H λx c=>a σ c λy b=>r x y b Q
nonrec def y4p(r:V->Hp->VK->È)(b:TE):TE:=λσ H Q=>b σ H λx a=>r x a Q
nonrec def rI(C:Â->Â->È)(g:Â->Â->V):R2:=λx y H Q=>∃i j,x=.int i/\y=.int j/\C i j/\Q ūa H
nonrec def qg(g:Â->Â->V):R2:=λx y H Q=>∃i j,x=.int i/\y=.int j/\Q ūa H
def rU(g:Â->V):V->Hp->VK->È:=λx H Q=>∃i,x=.int i/\Q (g i) H
section
variable{X:Cx}{a b c:Ó}{ta tb:TE}{pos:Pos}
def Dn(j:PE X a ta)(g:PE X b tb){d:Á î}{s:Ñ}{σ:St}{H:Hp}{R:V->V->Hp->È}(I:zH X d σ H s)(h:ta σ H λx H1=>tb σ H1 λy H2=>R x y H2){Q:Value->Ñ->È}{f:Value->Value->Sem Value}(o:∀v u s2 x y H2,zH X d σ H2 s2->zw x v->zw y u->R x y H2->Û ù X.A įi Q ĥ s2) :Û ù X.A ūm (λv s₁=>Û ù X.A (ċ b Ö) (λu s₂=>Û ù X.A įi Q ĥ s₂) ĥ s₁) ĥ s:=by
 show zj (j d s σ H _ I h) λv m c=>?_
 let{x,H1,k,l,p}:=c;show zj (g d m σ H1 _ k p) λu s2 c=>?_
 let{y,H2,e,i,n}:=c;show o v u s2 x y H2 e l i n
def cA{c:Ĳc}{r:R2}(j:ye X (Ŧa c) r)(f:PE X a ta)(e:PE X b tb):PE X (.BinOp a c b pos) ϴe:=by rw[Ćo];show wpAny_BinOp ϟi
def z86{c:UnaryOp}{r:V->Hp->VK->È}(f:TV X (łf c) r)(i:PE X a ta):PE X (.UnaryOp c a pos) (y4p r ta):=by rw[ķo];show UnaryOp_ (zj (i d s σ H _ I h) λv e b=>?_);let{x,g,j,k,l}:=b;show f d e σ g x v Q j k l
def Vm{f:Value->Value->Sem Value}{C:Â->Â->È}{g:Â->Â->Â}(a:∀(i j:Â)(t u:Tok)(s:Ñ)(Q:Value->Ñ->È)(E:Value->Ñ->È),C i j->Q źl { s with ď:=ĕ+1 }->Û ù X.A ìg Q E s) :ye X f çk:=by intro k s σ H x y v u Q I d b h;let{i,j,rfl,rfl,c,q}:=h;rw[ņo];let{e,rfl}:=b;show a i j t e s _ _ c {.int ūa,H,ϊ _,{_,rfl},q}
def Qd{f:Value->Value->Sem Value}{g:Â->Â->Â}(a:∀(i j:Â)(t u:Tok)(s:Ñ)(Q:Value->Ñ->È)(E:Value->Ñ->È),Q źl { s with ď:=ĕ+1 }->Û ù X.A ìg Q E s) :ye X f ņn:=by rw[Ýo];show a i j t d s _ _ {.int ūa,H,ϊ _,{_,rfl},q}
def Ol{f:Value->Value->Sem Value}{g:Â->Â->Ï}(a:∀(i j:Â)(t u:Tok)(s:Ñ)(Q:Value->Ñ->È)(E:Value->Ñ->È),Q (.bool ūa) s->Û ù X.A ìg Q E s) :ye X f ōk:=by rw[Ýo];show a i j t d s _ _ {.bl ūa,H,I,rfl,q}
def Mo(i j:Â):È:=0<=j/\j<=1000000/\Őb<2 ^ 64
def Uo(i j:Â):È:=(-Ĵf<i/\i<2 ^ 64)\/(-Ĵf<j/\j<2 ^ 64)
def Uo.ok{i j:Â}(h:Uo i j):IntMulOk i j:=by rcases h with⟨b,a⟩|⟨b,a⟩;show .of_left ŏk;show .of_right ŏk
def y8y(k:Ä):(0:Â)<=2 ^ k:=by rw[two_pow_cast];show İb _
def z6y:ye X ϯc (Ξa (i+j)):=Qd λ_ _ _ _ _ _ _ q=>Ř q
def kB:ye X (Ŧa .Sub) Ŭm:=Qd λ_ _ _ _ _ _ _ q=>sub_int q
def vX:ye X Äf ëg:=Vm λ_ _ _ _ _ _ _ a q=>mul_int q a.ok
def yj:ye X (Ŧa .Mod) ϱj:=Vm λi j _ _ _ _ _ a q=>by let b:(0:Â)<j:=a;show mod_int' É (by rw[Int.fmod_eq_emod_of_nonneg i É];show q)
def YH:ye X (Ŧa .LShift) ěj:=Vm λ_ _ _ _ _ _ _ a q=>lshift_int_small a.1 a.2.1 a.2.2 q
def bn:ye X (Ŧa .RShift) ēj:=Vm λi j _ _ _ _ _ a q=>
 rshift_int a (by rw[ϊj i (y8y _)];show q)
def Ep:ye X (Ŧa .BitAnd) (Ξa (Äb i j)):=Qd λ_ _ _ _ _ _ _ q=>and_int q
def bm:ye X (Ŧa .BitOr) (Ξa (ďc i j)):=Qd λ_ _ _ _ _ _ _ q=>or_int q
def z7c:ye X (Ŧa .BitXor) (Ξa (ϑg i j)):=Qd λ_ _ _ _ _ _ _ q=>xor_int q
def fD{f:Value->Sem Value}{g:Â->Â}(a:∀(i:Â)(t:Tok)(s:Ñ)(Q:Value->Ñ->È)(E:Value->Ñ->È),Q (.int (g i) ĕ) { s with ď:=ĕ+1 }->Û ù X.A (f êf) Q E s) :TV X f (Υc (g i)):=by intro c s σ H x v Q I b h;let{i,rfl,q}:=h;let{t,rfl}:=b;show a i t s _ _ {.int (g i),H,ϊ _,{_,rfl},q}
def LW:TV X (łf .USub) (Υc (-i)):=fD λ_ _ _ _ _ q=>neg_int q
def y98:TV X (łf .Invert) (Υc Ėi):=fD λ_ _ _ _ _ q=>invert_int q
def z6z:ye X ϯc (λx y H Q=>∃i k,x=.int i/\y=.bl k/\Q ğl H):=by rw[ϒo];let{i,k,rfl,rfl,q}:=h;let{t,rfl}:=b;cases a;show add_int_bool {.int (i+b2i k),H,ϊ _,{_,rfl},q}
#print a
nonrec def Ki:V->V->Ï
 |.zE,.zE=>Å|.zE,.int _=>Å|.int _,.zE=>Å|.zE,.bl _=>Å|.bl _,.zE=>Å|.zE,.str _=>Å|.str _,.zE=>Å|.int _,.int _=>Å|.bl _,.bl _=>Å|.str _,.str _=>Å|.byt _,.byt _=>Å|.int _,.str _=>Å|.str _,.int _=>Å|.bl _,.str _=>Å|.str _,.bl _=>Å|_,_=>Ã
def z9y:R2:=λx y H Q=>Ki x y=Å/\Q Ũm H
def y04:R2:=λx y H Q=>Ki x y=Å/\Q (.bl (!decide (x=y))) H
def F8{i j:Â}:decide (Ŏc i=Ŏc j)=êe:=by rw[Ϗb];simp
def F7{i j:Ï}:decide (V.bl i=V.bl j)=êe:=by rw[Ϗb];simp
def F9{i j:Ç}:decide (V.str i=V.str j)=êe:=by rw[Ϗb];simp
def AX{i j:Ĝ UInt8}:decide (V.byt i=V.byt j)=(i.toList==j.toList):=by rw[Ϗb];cases i;cases j;simp
section
variable{X:Cx}{a b c:Ó}{ta tb tc:TE}{pos:Pos}
def xv{b:Á î}{σ:St}{H:Hp}{s:Ñ}{Q:VK}{k a:Ï}(I:zH X b σ H s)(q:Q êd H)(e:k=a):EP X b σ Q (.bool a) s:=by subst e;show{.bl k,H,I,rfl,q}
def z73:ye X Őn z9y:=by
 rw[ŀo];cases x with
 |zE=>
  cases d;cases y with
  |zE=>cases a;show PySem.EqNone.eq_none_none ϥ|bl j=>cases a;show PySem.EqNone.eq_none_bool ϥ|int j=>let{b,rfl}:=a;show PySem.EqNone.eq_none_int ϥ
  |str j=>let{b,rfl}:=a;show PySem.EqNone.eq_none_str ϥ
  |_=>show ß (show Ã=Å from c) Ŋ
 |bl i=>
  cases d;cases y with
  |zE=>cases a;show PySem.EqNone.eq_bool_none ϥ|bl j=>cases a;show eq_bool (xv I q F7)|str j=>let{b,rfl}:=a;show PySem.EqMixed.eq_bool_str ϥ
  |_=>show ß (show Ã=Å from c) Ŋ
 |int i=>
  rw[ņo];cases y with
  |zE=>cases a;show PySem.EqNone.eq_int_none ϥ|int j=>let{b,rfl}:=a;show Őa (xv I q F8)
  |str j=>let{b,rfl}:=a;show PySem.EqMixed.eq_int_str ϥ
  |_=>show ß (show Ã=Å from c) Ŋ
 |str i=>
  rw[ņo];cases y with
  |zE=>cases a;show PySem.EqNone.eq_str_none ϥ|bl j=>cases a;show PySem.EqMixed.eq_str_bool ϥ|int j=>let{b,rfl}:=a;show PySem.EqMixed.eq_str_int ϥ
  |str j=>let{b,rfl}:=a;show eq_str (xv I q F9)
  |_=>show ß (show Ã=Å from c) Ŋ
 |byt i=>
  rw[ņo];cases y with
  |byt j=>let{b,rfl}:=a;show W.eq_bytes (xv I q AX)
  |_=>show ß (show Ã=Å from c) Ŋ
 |_=>cases y<;>show ß (show Ã=Å from c) Ŋ
def z77:ye X öm y04:=by
 rw[ŀo];cases x with
 |zE=>
  cases d;cases y with
  |zE=>cases a;show PySem.EqNone.ne_none_none ϥ|bl j=>cases a;show PySem.EqNone.ne_none_bool ϥ|int j=>let{b,rfl}:=a;show PySem.EqNone.ne_none_int ϥ
  |str j=>let{b,rfl}:=a;show PySem.EqNone.ne_none_str ϥ
  |_=>show ß (show Ã=Å from c) Ŋ
 |bl i=>
  cases d;cases y with
  |zE=>cases a;show PySem.EqNone.ne_bool_none ϥ|bl j=>cases a;show ne_bool (xv I q (Ϣ not F7))|str j=>let{b,rfl}:=a;show PySem.EqMixed.ne_bool_str ϥ
  |_=>show ß (show Ã=Å from c) Ŋ
 |int i=>
  rw[ņo];cases y with
  |zE=>cases a;show PySem.EqNone.ne_int_none ϥ|int j=>let{b,rfl}:=a;show ne_int (xv I q (Ϣ not F8))
  |str j=>let{b,rfl}:=a;show PySem.EqMixed.ne_int_str ϥ
  |_=>show ß (show Ã=Å from c) Ŋ
 |str i=>
  rw[ņo];cases y with
  |zE=>cases a;show PySem.EqNone.ne_str_none ϥ|bl j=>cases a;show PySem.EqMixed.ne_str_bool ϥ|int j=>let{b,rfl}:=a;show PySem.EqMixed.ne_str_int ϥ
  |str j=>let{b,rfl}:=a;show ne_str (xv I q (Ϣ not F9))
  |_=>show ß (show Ã=Å from c) Ŋ
 |byt i=>
  rw[ņo];cases y with
  |byt j=>let{b,rfl}:=a;show W.ne_bytes (xv I q (Ϣ not AX))
  |_=>show ß (show Ã=Å from c) Ŋ
 |_=>cases y<;>show ß (show Ã=Å from c) Ŋ
def Xy:ye X (Ía .Lt) (Θb (i<j)):=Ol λ_ _ _ _ _ _ _ q=>lt_int q
def Oo:ye X (Ía .LtE) (Θb (i<=j)):=Ol λ_ _ _ _ _ _ _ q=>le_int q
def Er:ye X (Ía .Gt) (Θb (j<i)):=Ol λ_ _ _ _ _ _ _ q=>gt_int q
def Om:ye X (Ía .GtE) (Θb (j<=i)):=Ol λ_ _ _ _ _ _ _ q=>ge_int q
def z76:ye X ϖd (Θd ūj):=by rw[Þo];show in_str (xv I q rfl)
def On:ye X (Ía .Is) Ńk:=by
 rw[Ĕo];show is_none_gen ſm
 cases x<;>first
  |(cases a;rfl)
  |(let{t,rfl}:=a;rfl)
def Op:ye X (Ía .IsNot) œj:=by
 rw[Ĕo];show isnot_none_gen ſm
 cases x<;>first
  |(cases a;rfl)
  |(let{t,rfl}:=a;rfl)
def ye.or{f:Value->Value->Sem Value}{r c:R2}(h:ye X f r)(h':ye X f c):ye X f (λx y H Q=>r x y H Q\/c x y H Q):=by intro a s σ H x y v u Q I b d q;rcases q with q|q;show h a s σ H x y v u Q I b d q;show h' a s σ H x y v u Q I b d q
def z_(b:Ó){a:õe}(h:Î (a≠.In) q10)(c:Î (a≠.NotIn) q10):ϑb a b=Ã:=by
 let e1:(a==CmpOp.In)=Ã:=by cases a<;>first|rfl|show ß rfl h
 let e2:(a==CmpOp.NotIn)=Ã:=by cases a<;>first|rfl|show ß rfl c
 cases b<;>simp[ϑb,e1,e2]
theorem z7t{c:õe}{r:R2}(j:ye X (Ía c) r)(f:PE X a ta)(e:PE X b tb)(n:ϑb c b=Ã):PE X (.Compare a [c] [b] pos) ϴe:=by rw[Ćo];show wpAny_Compare1 ϟi n
nonrec def y4n(t:TE):TT:=λσ H Q=>t σ H λx a=>∃k,x=.bl k/\Q k a
def G8{i:õe}{r:R2}(q:ye X (Ía i) r)(m:PE X a ta)(E:PE X b tb)(N:ϑb i b=Ã):PT X ϻj (y4n ϴe):=by
 rw[ćo];show wpAny_isTrue_Compare1 (zj (m g s σ H _ I h) λv p j=>?_) N;let{x,w,F,n,A}:=j;show zj (E g p σ w _ F A) λu K d=>?_
 let{y,t,C,l,J}:=d;show zj (q g K σ t x y v u _ C n l J) λc O f=>?_
 let{z,L,B,o,k,e,G}:=f;subst e;cases o;show æc {L,B,G}
nonrec def y3w(r f:R2)(ta tb tc:TE):TE:=λσ H Q=>ta σ H λx c=>tb σ c λy b=>r x y b λz a=>∃k,z=.bl k/\
 (if k=Å then tc σ a λd e=>f y d e Q else Q ç a)
def z7r{m f:õe}{r p:R2}(L:ye X (Ía m) r)(l:ye X (Ía f) p)(B:PE X a ta)(Y:PE X b tb)(J:PE X c tc)(hm:Î (ďn [m,f] [b,c]=Ã) q13):PE X (.Compare a [m,f] [b,c] pos) (y3w r p ta tb tc):=by
 rw[ćo];show Compare_chain (zj (B g s σ H _ I h) λv K n=>?_) hm;let{x,O,Z,C,T}:=n;show chain_link (zj (Y g K σ O _ Z T) λu s2 i=>?_);let{y,N,U,o,q2}:=i;show zj (L g s2 σ N x y v u _ U C o q2) λd F j=>?_
 let{z,w,q,E,k,e,t}:=j;subst e;cases E;show æc ?_;cases k with
 |Ã=>show ite_ff {.bl Ã,w,q,rfl,t}|Å=>show ite_tt (chain_last (zj (J g F σ w _ q t) λA S ⟨P,G,R,r4,W⟩=>l g S σ G y P u A Q R o r4 W))
def Xr:(ã:Ä)<2 ^ 63:=by rw[ľ];decide
def z70:ye X ϯc (λx y H Q=>∃i j,x=.str i/\y=.str j/\đb+ða<=ã/\Q Þm H):=by intro f s σ H x y v u Q I c b h;let{i,j,rfl,rfl,a,q}:=h;let{t,rfl}:=c;let{d,rfl}:=b;show ŋf (λd e=>{.str (i++j),H,ϊ _,{_,rfl},q}) a
def uO{x:V}{us:Á Value}(r:zm [x] us):∃u,us=[u]/\zw x u:=by
 cases r with
 |ú r1 r2=>cases r2;show{_,rfl,r1}
def Ld{x y:V}{us:Á Value}(r:zm ćd us):∃u w',us=[u,w']/\zw x u/\zw y w':=by
 cases r with
 |ú r1 r2=>
  cases r2 with
  |ú r3 r4=>cases r4;show{_,_,rfl,r1,r3}
def l_(a:Š=Å):wL X ϡg ϗi:=by
 intro d s σ H xs f Q I r h;let{i,j,rfl,q}:=h;let{u,b,rfl,{t,rfl},{e,rfl}}:=Ld r;show max_two_ints (ġa a) λg c k=>{_,H,Èc k,?_,q}
 by_cases hj:j>i;rw[Ò hj,Ò hj];show{_,rfl};rw[Ô hj,Ô hj];show{_,rfl}
def Dy:wL X Ła ϋi:=by intro b s σ H xs c Q I r h;rcases h with⟨i,rfl,q⟩|⟨k,rfl,q⟩;let{u,rfl,t,rfl}:=uO r;show call_int_int {.int i,H,I,{_,rfl},q};let{u,rfl,a}:=uO r;cases a;show call_int_bool {.int Ĥk,H,ϊ _,{_,rfl},q}
#print a
structure XB(h:Heap)(x dx C:Í)(mA:Ç->Ê Value):È where
 obj:Ğ x=À Àn
 ns:ϗf dx mA
 ne:dx≠x
def z18{h:Heap}{c:Í}{f:Ç->Ê Value}(n:ϗf c f):∃od,Ğ c=À od/\∀İ,Ġf İ od=À (f İ):=by
 let{o,d,p,j,l,g,_,m}:=n;show{o,j,λname=>?_};let e:=m İ;unfold nsFind findBy at e;rw[<-Array.find?_toList]at e;unfold Ġf;rw[l];dsimp only
 split;rename_i y q;rw[q]at e;show Ϣ À e;rename_i q;rw[q]at e
 let a:èm (·.refKey)=Ã:=by rw[Ϡk];intro y k;let{z,t,b}:=g y (Array.mem_toList_iff.mp k);simp[DictEntry.refKey,b]
 let i:¬ èm (·.refKey)=Å:=by rw[a];show Ŋ
 rw[Ô i];show Ϣ À e
def XB.look{h:Heap}{x a C:Í}{b:Ç->Ê Value}(I:XB h x a C b):∃od,W.InstAt h x (Ře C a) C (À od)/\∀İ,Ġf İ od=À (b İ):=
 let ⟨od,ho,hl⟩:=z18 I.ns
 {od,{I.obj,rfl,rfl,ho},hl}
section
variable{ı:ï}{w:è}{A:Ā}{E:Value->Ñ->È}{s:Ñ}{K:Ð}{x dx C f:Í}{mA:Ç->Ê Value}{İ:Ç}{v:Value}
def n_{a:Ï}{Q:Value->Ñ->È}(X:Ţ à)(I:XB à x dx C mA)(d:Ÿd K C İ=Å)(f:ϸe K C=Å)(e:Ĥa K Ŏ İ=À Æ)(hv:mA İ=À v)(b:ϲm v=Å)(h:Q v { s with ď:=ĕ+1 }) :Û ĳ A (ÿi Îd İ a) Q E s:=by let{g,J,c}:=Ői;show W.get_value X J (ϱg d).1 (W.findObj_own f e rfl (by rw[c,hv])) b h
def o9{pl:Sem Ï}{Q:Value×Á Value->Ñ->È}(X:Ţ à)(I:XB à x dx C mA)(a:Ÿd K C İ=Å)(c:Ĥa K Ŏ İ=À Ϝa)(d:ße K Ļ=Å)(hv:mA İ=Æ)(h:Q (.ref f,[.ref x]) s) :Û ĳ A (Ėn Îd İ pl) Q E s:=by let{e,J,b}:=Ői;show W.method_fn X J (ϱg a).1 (ϱg a).2 c (Ϛe d) (by exact(Ġf İ e).map (·.isSome)=À Ã;rw[b,hv];rfl) h
def y2m{ns:Á Ç}{Q:Űb->Ñ->È}(X:Ţ à)(I:XB à x dx C mA)(p:Ĥa K Ŏ Ϭg=À Êg)(o:Čh K C=Å)(n:ŭh K C İ=À Æ)(k:ϸe K C=Å)(l:èh mA ns)(hsz:ϡ<=ã)(h:∀h',XB h' x dx C (λy=>if y=İ then À v else mA y)->ÿb dx à h'->Q () { s with ì:=h',ď:=ĕ+2 }) :Û ĳ A (setAttr Îd İ v) Q E s:=by
 let{z,J,B}:=Ői;show W.set_plain X J p (W.osa_open (s:={ s with ď:=ĕ+1 }) (r:=Æ) X J o n λb=>?_);let{F,m,g}:=W.any_some k;let q:ć x=À {.ref C,À dx,.plain,#[]}:=I.obj;show Ø (δb (Ø (wpAny_loadPart q (Ø (W.Looks.here (s:={ s with ď:=ĕ+1 }) (W.looks_clsIn X m) ?_)))));rw[g];show Đ (a:=À dx) Ŧn;show wpAny_nsSet1 (s:={ s with ď:=ĕ+1 }) I.ns λh' d c=>?_
 let{u,t,j,f,e,i}:=d.count (PySem.Within.cons İ v l);refine Ø (wpAny_lookBehind f (by rw[e];show pastItsLine_dict (Ĵ i (by rw[Ġ];omega))) ?_);show Đ (h _ {(c.2 _ (ßb I.ne)).trans I.obj,d,I.ne} c)
def z1f{R:Ńc->Ñ->È}{vs:Á Value}{b:Á Āb}(X:Ţ à)(c:øf K C=Å)(i:Ĥa K Ŏ Ϙa=À Ϝa)(e:W.typeIn K Ļ=À (.type "function"))(h:Ϥa ĳ (A.under (.builtin āl {.ref C::vs,b})) (.call Ļ {.ref õa::vs,b}) (W.InitBack õa R)
   { s with ì:=(ŷc).push Áf }) :
  Ϥa ĳ A (.call Ŏ {vs,b}) R s:=by
 let{j,g,d,t,k}:=s;show W.make_core (W.makes_of X c) (W.looks_findIn X i) (λa=>W.bind_fn X a e) Ō h
#print a
nonrec def æb(f:Ç)(v:V):Á ėb->Á ėb
 | []=>[(f,v)]|(g,x)::r=>if g=f then(g,v)::r else(g,x)::æb f v r
theorem bF(f g:Ç)(v:V):∀fs:Á ėb,(Ϣe).lookup g=if g=f then À v else Ϛb g
 | []=>by exact Ĝc g [(f,v)]=_;by_cases h:g=f;let a:(g==f)=Å:=όg h;simp only[Ĝc,a,Ò h];let a:(g==f)=Ã:=ţc h;simp only[Ĝc,a,Ô h]|(k,x)::r=>by let b:=bF f g v r;rw[show æb f v Śh=Ϲf from rfl];by_cases hk:k=f;rw[Ò hk];by_cases h:g=k;let a:όf=Å:=όg h;simp only[Ĝc,a,Ò (Õd hk)];let a:όf=Ã:=ţc h;simp only[Ĝc,a,Ô (λe:g=f=>h (ϻb hk.symm))];rw[Ô hk];by_cases h:g=k;let a:όf=Å:=όg h;simp only[Ĝc,a,Ô (λe:g=f=>hk (h.symm.trans e))];let a:όf=Ã:=ţc h;simp only[Ĝc,a];show b
theorem Cv(f:Ç)(v:V):∀fs:Á ėb,f∈(Ϣe).map (·.1)/\∀g,g∈ĺc (·.1)->g∈(Ϣe).map (·.1)
 | []=>{by simp[æb],λg h=>by simp at h}|(k,x)::r=>by let{a,b}:=Cv f v r;rw[show æb f v Śh=Ϲf from rfl];by_cases hk:k=f;rw[Ò hk];subst hk;show{by simp,λg h=>by rw[ŝo]};rw[Ô hk];show{?_,λg h=>?_};rw[Ť];show Õa _ a;rw[Ť]at h ⊢;rcases ŋ h with e|e;show ϟk òi;show Õa _ (b g e)
theorem bD(f:Ç)(v:V):∀fs:Á ėb,(Ϣe).length<=ŋa+1
 | []=>by simp[æb]|(k,x)::r=>by let a:=bD f v r;rw[show æb f v Śh=Ϲf from rfl];by_cases hk:k=f;rw[Ò hk,Ġ,Ġ];omega;rw[Ô hk,Ġ,Ġ];omega
def ğc{v:V}{o:Ê Value}(r:vw ŧ o):∃u,o=À u/\zw v u:=by
 cases o with
 |Æ=>show(show ê from r).elim|À u=>show{u,rfl,r}
def ϩm{o:Ê Value}(r:vw Æ o):o=Æ:=by
 cases o with
 |Æ=>rfl|À u=>show(show ê from r).elim
def sH{v:V}{u:Value}(r:zw v u):ϲm u=Å:=by
 cases v with
 |zE=>cases(show u=ϒc from r);rfl|bl b=>cases(show u=Øf b from r);rfl|int i=>let{t,e}:=(show ∃t,u=ϫb i t from r);cases e;rfl
 |str x=>let{t,e}:=(show ∃t,u=Ϫb x t from r);cases e;rfl
 |byt b=>let{t,e}:=(show ∃t,u=Ōm b t from r);cases e;rfl
 |Yp b=>let{t,e}:=(show ∃t,u=ďh b t from r);cases e;rfl
 |ref a=>cases(show u=ą a from r);rfl|ty n=>cases(show u=ķh n from r);rfl
section
variable{P:ï}{w:è}{H:Hp}{h:Heap}{a C dx:Í}{fs:Á ėb}
def OC(b:xm P w H h)(e:H a=À Çb):∃mA,XB h a dx C mA/\(∀f,vw đi Ţi)/\èh mA (ĺc (·.1))/\ŋa<=1000/\H dx=À Àe:=by let{d,z,g,c,mA,n,r,q}:=(show xU P w H h a Çb from b a _ e);show{mA,{c,n,g},r,q,z,d}
#print a
structure t4(K:Ð)(C:Í):È where
 pg:Ÿd K C ěn=Å
 hd:ϸe K C=Å
 po:Čh K C=Å
 sa:Ĥa K Ŏ Ϭg=À Êg
def t4.get{K:Ð}{C:Í}(c:t4 K C)(f:Ç):Ÿd K C f=Å:=c.pg
def Zx(K:Ð)(C:Í)(f:Ç):È:=Ĥa K Ŏ f=À Æ
def Zx.iT{K:Ð}{C:Í}{f:Ç}(n:Zx K C f):ŭh K C f=À Æ:=by unfold ŭh;rw[show Ĥa K Ŏ f=À Æ from n];rfl
structure Ji(K:Ð)(C:Í)(m:Ç)(f:Í):È where
 at_:Ĥa K Ŏ m=À Ϝa
 fn:ße K Ļ=Å
 kp:áa K Ļ=Å
section
variable{X:Cx}{z8:Á î}{σ:St}{H:Hp}{s:Ñ}{a C dx:Í}{fs:Á ėb}{f:Ç}{v:V}{A:Ā}{E:Value->Ñ->È}
def aH{b:Ï}{Q:Value->Ñ->È}(I:zH X z8 σ H s)(e:H a=À Çb)(c:t4 X.K C)(n:Zx X.K C f)(l:Ϛb f=À v)(h:∀u s',zH X z8 σ H s'->zw v u->Q u s'):Û ù A (ÿi ś f b) Q E s:=by let{g,O,r,_,_,_}:=OC ĉ e;let{u,i,d}:=ğc (v:=v) (o:=g f) (by rw[<-l];show r f);show n_ ţ O (c.get f) c.hd n i (sH d) (h u _ Ğb d)
def aI{m:Ç}{g:Í}{pl:Sem Ï}{Q:Value×Á Value->Ñ->È}(I:zH X z8 σ H s)(e:H a=À Çb)(c:t4 X.K C)(k:Ji X.K C m g)(l:Ϛb m=Æ)(h:Q (.ref g,âa) s):Û ù A (Ėn ś m pl) Q E s:=by let{d,O,r,_,_,_}:=OC ĉ e;have b:d m=Æ:=ϩm (by rw[<-l];show r m);show o9 ţ O (c.get m) k.at_ k.fn b h
def e9{y:V}{u:Value}{Q:Űb->Ñ->È}(I:zH X z8 σ H s)(e:H a=À Çb)(c:t4 X.K C)(n:Zx X.K C f)(G:ŋa<1000)(p:zw y u)(h:∀s',zH X z8 σ (zU H a Ϥj) s'->Q () s'):Û ù A (setAttr ś f u) Q E s:=by
 let{k,O,r,i,_,j}:=OC ĉ e;let l:(ĺc (·.1)).length<=ã:=by rw[æ,ľ];omega
 show y2m ţ O c.sa c.po n.iT c.hd i l λB d t=>h _ ?_
 let F:∃o,B.get? dx=À o:=let ⟨o,_,_,e',_⟩:=d.ns;{o,e'};refine ōf (x:=a) (e:=dx) ňe (.inr j) (λb q m z=>(t.2 b m).trans z) F ?_;refine{by rw[zt O.ne];show j,?_,O.ne,d.obj,_,d.ns,λg=>?_,λg v=>?_};let:=bD f y fs;omega;exact vw ((æb f y fs).lookup g) ŧj;rw[bF];by_cases q:g=f;rw[Ò q,Ò q];show p;rw[Ô q,Ô q];show r g;by_cases q:g=f;rw[q];show ϝm.1;show ϝm.2 g (i g λz=>v ?_);exact ŧj=Æ;rw[Ô q];show z
def zH.made(I:zH X z8 σ H s):zH X z8 σ (zU (zU H Þ (.own õa)) õa (.ins C Þ [])) { s with ì:=(ŷc).push Áf }:=by
 let e1:(ŷc).get? Þ=À Ďh:=ų à rfl
 let e2:((ŷc).push Áf).get? (Þ+1)=À Áf:=by
  let:=ų ŷc (o:=Ře C Þ) rfl
  rwa [ób]at this
 let f:(ŷc).Ns Þ Ïb:={Ďh,#[],_,e1,rfl,(λe d=>ß d é),λ_=>rfl};let g:=őa (a:=Þ) (o:=.own õa) (h':=ęa Ďh) (t':=ĕ) Űk Ę {_,e1};show g.laid (a:=Þ+1) (o:=.ins C Þ []) (t':=ĕ) Űk (ϗc (ób _ _)) ?_;let c:Þ≠Þ+1:=Êa Íe;refine{by rw[zt c,yL],Ϡ _,c,e2,λ_=>Æ,(Heap.Ns1.of_empty f).at λo q=>ğ _ q,λ_=>Ĝa,λy h=>ß rfl h}
def lD{ı:ï}{w:è}{env:Env}{e:Ó}{f:Ç}{pos:Pos}{s:Ñ}{Q:Value->Ñ->È}(a:Şa e f env Ūm=ċ e env)(h:Û ĳ A Ūm (λo s₁=>Û ĳ A (ÿi o f Å) Q E s₁) E s):Û ĳ A (ċ ŀe env) Q E s:=
 Attribute_any_ h (by rw[arm_eval_Attribute,a])
#print a
nonrec def y40(K:Ð)(c:TE)(f:Ç):TE:=λσ H Q=>c σ H λx b=>∃a C dx fs v,x=.ref a/\b a=À Çb/\t4 K C/\Zx K C f/\Ϛb f=À v/\Q v b
def y0u(K:Ð)(e c:TE)(f:Ç):TS:=λD σ H=>c σ H λy d=>e σ d λx b=>∃a C dx fs,x=.ref a/\b a=À Çb/\t4 K C/\Zx K C f/\ŋa<1000/\
 ĵa σ (zU b a Ϥj)
def BM(X:Cx)(a:Ĳc)(b:V->V->Hp->VK->È):È:=
 ∀(z8:Á î) (s:Ñ) (σ:St) (H:Hp) (x y:V) (u v:Value) (Q:VK),zH X z8 σ H s->zw x u->zw y v->b x y H Q->Û ù X.A (όd a u v) öb ĥ s
def y0v(K:Ð)(e g:TE)(h:V->V->Hp->VK->È)(f:Ç):TS:=λD σ H=>e σ H λx b=>∃a C dx fs v,x=.ref a/\b a=À Çb/\t4 K C/\Zx K C f/\Ϛb f=À v/\
 g σ b λy d=>h v y d λz c=>∃dx' fs',c a=À (.ins C dx' fs')/\fs'.length<1000/\ĵa σ (zU c a (.ins C dx' (æb f z fs')))
section
variable{X:Cx}{o e ŕa:Ó}{f:Ç}{pos Ża Őc:Pos}{ta tv:TE}
def b_(k:PE X e ta)(g:Şa e f Ö şd=ċ e Ö):PE X ŀe (y40 X.K ta f):=by intro m s σ H Q I h;show lD g (zj (k m s σ H _ I h) λu A b=>?_);let{x,p,i,o,a,C,w,z,v,r,j,c,n,l,q}:=b;subst r;obtain rfl:u=ą a:=o;show aH i j c n l λy B d t=>{v,p,d,t,q}
def z90(g:PE X o ta)(hv:PE X ŕa tv)(B:Ďc ŕa (À Ďk) Ϣc Ö=pure Ã):PS X (.Assign þk ŕa pos) (y0u X.K ta tv f):=by
 intro e s σ H D I h;show plainObj_wpAny_Assign_Attribute (zj (hv e s σ H _ I h) λu k d=>?_) B;let{y,p,w,j,q}:=d;show zj (g e k σ p _ w q) λi L b=>?_
 let{x,G,v,m,a,C,J,F,r,z,c,n,l,A}:=b;subst r;obtain rfl:i=ą a:=m;show e9 v z c n l j λE t=>{σ,_,t,A}
def z91{k:Ĳc}{j:V->V->Hp->VK->È}(p:PE X o ta)(hv:PE X ŕa tv)(e:BM X k j):PS X (.AugAssign čk k ŕa pos) (y0v X.K ta tv j f):=by
 intro i s σ H D I h;show wpAny_AugAssign_AttributeAny (zj Ĳg λr s1 b=>?_);let{x,G,T,E,a,C,dx,fs,v,N,U,c,n,l,q}:=b;subst N;obtain rfl:r=ą a:=E;show aH T U c n l λu Y P Z=>zj (hv i Y σ G _ P q) λS t b=>?_
 let{y,F,O,w,W}:=b;show zj (e i t σ F v y u S _ O Z w W) λw4 s4 d=>?_
 let{z,H3,J,L,R,A,g,B,Q}:=d;show e9 J g c n B L λs5 m=>{σ,_,m,Q}
def z9u:V->V->Hp->VK->È:=λx y H Q=>∃i j,x=.int i/\y=.int j/\Q ĕh H
def aZ:BM X .Add z9u:=by rintro d s σ H x y u v Q I c b ⟨i,j,rfl,rfl,q⟩;let{t,rfl}:=(show ∃t,u=ϫb i t from c);let{a,rfl}:=(show ∃a,v=ϫb j a from b);show PyProof.Rows.iadd_int {.int (i+j),H,ϊ _,{_,rfl},q}
#print a
section
variable{X:Cx}{z8:Á î}{σ:St}{H:Hp}{s:Ñ}{A:Ā}{E:Value->Ñ->È}{Q:Value->Ñ->È}{c:Value}{b:Ï}
inductive jM(K:éh)(H:Hp):V->Value->È where
 |zE:jM K H .zE Ŵc
 |bl (x:Ï):jM K H (.bl x) Ťa
 |int (i:Â):jM K H Ϩ Ła
 |str (x:Ç):jM K H Ŭa ώa
 |Yp (x:UInt64):jM K H (.Yp x) (.type "float")
 |lst {a:Í} {xs:Á V} (e:H a=À îa):jM K H ś Àa
 |yD {a:Í} {o:Obj} {xs:Á V} (e:H a=À Ϡm):jM K H ś Àa
 |tup {a:Í} {xs:Á V} (e:H a=À Ġa):jM K H ś ńa
 |dK {a:Í} {kvs:Á Ũ} (e:H a=À Ń):jM K H ś Ϣb
 |dT {a:Í} {kvs:Á ąb} (e:H a=À ōb):jM K H ś Ϣb
 |ins {a C dx:Í} {fs:Á ėb} (e:H a=À Çb) (cl:t4 K C) (ha:PySem.W.findIn K Ŏ "__class__"=À (À Þg))
   (hn:PySem.W.specialIn K Þg "__get__"=À (À (.builtin "getset_descriptor.__get__"))) (htk:PySem.W.takesIn K Þg=À Å)
   (hm:PySem.W.mroIn K C (.type "object")=À Å):jM K H ś Ŏ
def OH{x:V}{u t:Value}(I:zH X z8 σ H s)(d:zw x u)(l:jM X.K H x t)(e:ŕ X.K t c=À b)(h:∀tk,Q ϡh { s with ď:=tk }) :Û ù A (ża Ϣg [u,c]) Q E s:=by
 cases l with
 |zE=>cases(show u=ϒc from d);show Ūa W.kitx_none ţ Ĝa e Āa h|bl y=>cases(show u=Øf y from d);show Ūa W.kitx_bool ţ Ĝa e Āa h|int i=>let{t,q}:=(show ∃t,u=ϫb i t from d);cases q;show Ūa W.kitx_int ţ Ĝa e Āa h
 |str y=>let{t,q}:=(show ∃t,u=Ϫb y t from d);cases q;show Ūa W.kitx_str ţ Ĝa e Āa h
 |Yp y=>let{t,q}:=(show ∃t,u=ďh y t from d);cases q;show Ūa W.kitx_float ţ Ĝa e Āa h
 |@lst a g ea=>cases(show u=ą a from d);let{_,_,n,_,f}:=(show xU ò X.w H à a (.lst g)from ĉ a _ ea);show Ūa čh ţ {_,f,rfl} e Āa h
 |@yD a ob g ea=>cases(show u=ą a from d);let{_,_,_,n,_,f}:=(show xU ò X.w H à a (.yD ob (.lst g))from ĉ a _ ea);show Ūa čh ţ {_,f,rfl} e Āa h
 |@tup a g ea=>cases(show u=ą a from d);let{_,_,_,p}:=(show xU ò X.w H à a (.tup g)from ĉ a _ ea);let{o,f,j,_}:=p;show Ūa êm ţ {o,f,j} e Āa h
 |@dK a kvs ea=>cases(show u=ą a from d);let{_,_,v,_,p}:=(show xU ò X.w H à a Ń from ĉ a _ ea);let{o,m,k,f,j,_}:=p;show Ūa Ŋm ţ {o,f,j.1} e Āa h
 |@dT a kvs ea=>cases(show u=ą a from d);let{_,_,g,_,o,m,k,f,j,_}:=(show xU ò X.w H à a ōb from ĉ a _ ea);show Ūa Ŋm ţ {o,f,j.1} e Āa h
 |@ins a C dx fs ea cl ha hn htk hm=>cases(show u=ą a from d);let{B,O,_}:=OC ĉ ea;let{r,J,_}:=O.look;show Ūa (W.kitx_own (cl.get _) cl.hd ha hn htk hm) ţ J e Āa h
#print a
structure ym(k:Ä)(A:Ā):È where
 hd:Čb=Æ
 dp:ŏf+3*k+5<Œl
 un:ča+16*k+200<Ū
 gd:A.guards=À []
theorem ym.mono{j k:Ä}{A:Ā}(r:ym k A)(h:j<=k):ym j A:={r.hd,by let:=r.dp;omega,by let:=r.un;omega,r.gd}
theorem ym.deeper{k:Ä}{A:Ā}(r:ym š A)(env:Env):ym k (Ìb env):=
 {r.hd,by let:=r.dp;exact ŏf+1+3*k+5<_;omega,by let:=r.un;exact ča+3+16*k+200<_;omega,by first|show r.gd|simp[ŧd,Ŝm,Ϫm,r.gd]}
def z1e{A:Ā}{C:Í}{us:Á Value}{a:Á Āb}:(ϯf).depth=ŏf+1:=by first|rfl|simp[ŧd,Code.weight,Code.isCreation,Code.isGuard,Code.isCaller,ŝm,îh,guardIds]
theorem z1g{A:Ā}{C:Í}{us:Á Value}{a:Á Āb}:(ϯf).units=ča+1:=by first|rfl|simp[ŧd,Code.cUnits,ŝm,îh]
theorem ym.make{k:Ä}{A:Ā}(r:ym š A)(C:Í)(us:Á Value)(a:Á Āb):ym k ϯf:=
 {r.hd,by let:=r.dp;rw[z1e];omega,by let:=r.un;rw[z1g];omega,by first|show r.gd|simp[ŧd,Ŝm,Ϫm,r.gd]}
theorem ym.depth{k:Ä}{A:Ā}(r:ym k A):ŏf<Œl:=by let:=r.dp;omega
theorem ym.units{k:Ä}{A:Ā}(r:ym k A):ča+64<Ū:=by let:=r.un;omega
nonrec def YU:TA:=λ_ H Q=>Q [] H
nonrec def U9(e:TE)(b:TA):TA:=λσ H Q=>e σ H λx d=>b σ d λa c=>Q (x::a) c
section
variable{X:Cx}{e:Ó}{es:Á Ó}{te:TE}{t:TA}{pos:Pos}
def g8:PA X [] YU:=λ_ _ _ _ H Q I h=>ϣk {[],H,I,.nil,h}
def br(f:PE X e te)(p:PA X es t)(o:Î Ûc q12):PA X Ē ϝh:=by
 intro pos b s σ H Q I h;rw[o];exact Û _ _ (spliced ((Ã,ċ e Ö)::Çc pos ðh)) _ _ s;show ñg Ėj;let{x,n,g,i,q}:=a;show zj (p pos b j σ n _ g q) λv r a=>?_
 rw[Ĭo]
def y4o(t:TA):TE:=λσ H Q=>t σ H λb a=>ŵ<=ã/\∀p,a p=Æ->Q Ž (zU a p (.tup b))
def y47(t:TA):TE:=λσ H Q=>t σ H λb a=>ŵ<=ã/\∀p,a p=Æ->Q Ž óh
def z85{x1}(h:PA X es t):PE X ϖk (y4o t):=by rw[ϋo];show wpAny_Tuple_spliced ñj;rw[èo];show{.ref üa,zU f üa (.tup j),d.laid (t':=Þe) űk Ę ?_,rfl,q _ k};show{z,l,r,{_,ų _ rfl,rfl,_,rfl}}
def c7(h:PA X es t):PE X ϣg (y47 t):=by rw[ϋo];show wpAny_List_spliced ñj;rw[èo];show{.ref üa,zU f üa (.lst j),d.laid (t':=Þe) űk Ę ?_,rfl,q _ k};show{z,l,0,r,ų _ rfl}
#print a
abbrev Sp:=Á V->Hp->VK->XK->È
abbrev jf:=Á Env->Hp->Ñ->XK->Value->Ñ->È
structure Yu(P:ï)(w:è)(K:Ð)(mg:Ç->Ê Value)(Ë:Heap)(A:Ā)(þ:Á Env)(s:Ñ)(H:Hp):È where
 ńi:A.frames=À þ
 mod:Mod K mg Ë
 bs:∀b o,base.get? b=À o->ć b=À o/\H b=Æ
 gN:base.objs.size<=Þ
 pR:Ťe Ë þ
 Zc:∀b∈j3 þ,H b=Æ
 zf:xm P w H à
 bare:Ûd Ůf
def CE(þ:Á Env)(P:ï)(w:è)(H:Hp)(s:Ñ)(Q:VK)(u:Value)(s':Ñ):È:=
 ∃v H',s'.os=s.os/\Ûd s'.gens/\Un (j3 þ) [] H H' à ļc/\xm P w H' ļc/\zw v u/\Q v H'
def CR(a:jf)(þ:Á Env)(P:ï)(w:è)(H:Hp)(s:Ñ)(Q:VK)(E:XK)(r:Ńc)(s':Ñ):È:=
 match r with
 |.ok (.ret u)=>CE þ P w H s Q u s'|.ok _=>ê|.error e=>a þ H s E e s'
structure xO(P:ï)(w:è)(K:Ð)(mg:Ç->Ê Value)(Ë:Heap)(CX:jf)(k:Ä)(f:Í)(fd:ŀ)(ps:Á Ç)(sp:Sp):È where
 len:∀vs H Q E,sp vs H Q E->ö=ü
 run:∀(A:Ā)(þ:Á Env)(s:Ñ)(H:Hp)(ϝ:Args)(us:Á Value)(vs:Á V)(Q:VK)(E:XK),ym k A->Yu P w K mg Ë A þ s H->Ŝb s fd ϝ Ϡb->zm vs us->sp vs H Q E->
  Ϥa Ćb A (.call Ļ ϝ) (CR CX þ P w H s Q E) s
def xO.imp{P:ï}{w:è}{K:Ð}{i:Ç->Ê Value}{a:Heap}{e:jf}{k:Ä}{f:Í}{g:ŀ}{ps:Á Ç}{sp c:Sp}(F:xO P w K i a e k f g ps sp)(h:∀vs H Q E,c vs H Q E->sp vs H Q E):xO P w K i a e k f g ps c:=
 {λvs H Q E q=>F.len vs H Q E (h _ _ _ _ q),λA b s H d n vs Q E o l j p m=>F.run A b s H d n vs Q E o l j p (h _ _ _ _ m)}
def Yu.make{P:ï}{w:è}{K:Ð}{b:Ç->Ê Value}{a:Heap}{A:Ā}{þ:Á Env}{s:Ñ}{H:Hp}(e:Yu P w K b a A þ s H)(C:Í)(us:Á Value)(c:Á Āb) :Yu P w K b a (A.under (.builtin āl {.ref C::us,c})) þ s H:={by first|show e.frames|(simpa [ŧd,Code.envs,îh,pushEnvs]using e.frames),e.mod,e.bs,e.gN,e.pR,e.Zc,e.zf,e.bare}
section
variable{X:Cx}{z8:Á î}{σ:St}{H:Hp}{s s':Ñ}
def zH.Pk(I:zH X z8 σ H s):Yu ò X.w X.K ñ Œ X.A ĥa s H:=
 {Řm,Ϸh,I.bs,Ĵ Ŏf I.sz,I.stack,I.Pu,ĉ,ŵa}
def zH.after{Q:VK}{u:Value}(I:zH X z8 σ H s)(h:CE ĥa ò X.w H s Q u s'):EP X z8 σ Q u s':=by let{v,j,k,a,f,e,r,q}:=h;let{i,g,d,t,c}:=s';obtain rfl:c=s.os:=k;show{v,j,I.call (h':=i) (g':=g) (d':=d) (t':=t) (ch:=[]) f e a (λb z=>ß z é),r,q}
#print a
nonrec def N7(sp:Sp)(a:Á V)(E:XK)(t:TA):TE:=λσ H Q=>t σ H λb c=>sp (b++a) c Q E
nonrec def LO(C:Í)(m:Ç)(sp:Sp)(b:Á V)(E:XK)(f:TE)(t:TA):TE:=λσ H Q=>f σ H λx c=>∃a dx fs,x=.ref a/\c a=À Çb/\Ϛb m=Æ/\
 t σ c λe d=>sp (x::(e++b)) d Q E
def y48(C:Í)(sp:Sp)(a:Á V)(E:XK)(t:TA):TE:=λσ H Q=>t σ H λc b=>∀x dx,b x=Æ->b dx=Æ->dx≠x->
 sp (.ref x::ũi) (zU (zU b dx Ïd) x Žl) (λv d=>v=.zE/\Q Îd d) E
def uQ(K:Ð)(a:ŀ)(ps:Á Ç)(ds:Á Value):È:=
 ∀(s:Ñ)(us:Á Value),Ţ à->(Äd).length=ü->Ŝb s a {us,[]} (ps.zip Äd)
def uQ.all{K:Ð}{b:ŀ}{ps:Á Ç}(h:∀us:Á Value,Ś=ü->ğf b {us,[]}=pure Ϡb):uQ K b ps []:=λs us _ a=>by rw[Ûa]at a ⊢;show .of_eq (h us a)
def XE(a:jf)(X:Cx)(E:XK):È:=∀(z8:Á î) (σ:St) (H:Hp) (s:Ñ) (e:Value) (s':Ñ),zH X z8 σ H s->a ĥa H s E e s'->ĥ e s'
section
variable{X:Cx}{CX:jf}{k:Ä}{f C:Í}{fd:ŀ}{ps:Á Ç}{sp:Sp}{dvs:Á V}{ds:Á Value}{E:XK}{x m:Ç}{p pos ϙ:Pos}{e o:Ó}{es:Á Ó}{ta:TE}{t:TA}
def Qs{b:Á î}{σ:St}{H:Hp}{s:Ñ}{Q:VK}{us:Á Value}{vs:Á V}(F:xO ò X.w X.K ñ Œ CX k f fd ps sp)(j:ym k X.A)(g:uQ X.K fd ps ds)(m:zm dvs ds)(i:XE CX X E)(I:zH X b σ H s)(r:zm vs us)(h:sp Ϝd H Q E):Û ù X.A (ża Ļ us) (EP X b σ Q) ĥ s:=by
 let c:zm Ϝd Äd:=įc m;have d:(Äd).length=ü:=by rw[<-ϟa];show F.len _ _ _ _ h
 show ĭh (ŋe (F.run X.A ĥa s H {us,[]} Äd Ϝd Q E j I.Pk (g s us ţ d) c h) λr l a=>?_);cases r with
 |error e=>show i b σ H s e l I a|ok fl=>
  cases fl with
  |ret u=>show I.after a|next=>show Áa a|brk=>show Áa a|Ĭb=>show Áa a
def z7n(F:xO ò X.w X.K ñ Œ CX k f fd ps sp)(o:ym k X.A)(m:Gl X x)(v:ñ x=À Ļ)(hk:áa X.K Ļ=Å)(g:uQ X.K fd ps ds)(u:zm dvs ds)(n:XE CX X E)(i:PA X Ē t)(a:Î Ģ q10)(j:Î Ûc q12)(b:Î ((űc).any (·.1)=Ã) q12) :PE X ŝa (N7 sp dvs E t):=by rw[ϊo];show šd (h₀:=Œ) űd hk (zj ék λC y c=>?_) j b;rw[Ϡo];show Qs F o g u n d r q
def z7z{pl:Sem Ï}(y:PE X o ta)(c:t4 X.K C)(p:Ji X.K C m f)(F:xO ò X.w X.K ñ Œ CX k f fd ps sp)(T:ym k X.A)(O:uQ X.K fd ps ds)(N:zm dvs ds)(L:XE CX X E)(v:PA X Ē t)(g:Î Ûc q12)(d:Î ((űc).any (·.1)=Ã) q12)(R:ċ Ğe Ö=(do
   let ov <-ċ o Ö
   standAt Ěc
   let (f,first) <-holding [ov] ñc
   Œb pos f first Űc Ĳb):=by rfl) :
  PE X Ğe (LO C m sp dvs E ta t):=by
 intro n s σ H Q I h;show şg (pl:=pl) (zj (y n s σ H _ I h) λu z b=>?_) R;let{x,G,j,B,a,Z,U,J,P,l,q}:=b;subst J;obtain rfl:u=ą a:=B;show aI j P c p l ?_;show šd (first:=âa) (h₀:=Œ) űd p.kp (zj (v pos n z σ G _ j q) λus s2 b=>?_) g d;let{vs,Y,i,r,S}:=b;show{i.xc,?_};show Qs (us:=.ref a::us) (vs:=.ref a::vs) F T O N L i (.cons rfl r) S
def c9{pl:Sem Ï}(j:PE X o ta)(c:t4 X.K C)(e:Ji X.K C m f)(F:xO ò X.w X.K ñ Œ CX k f fd ps sp)(y:ym k X.A)(g:uQ X.K fd ps ds)(z:zm dvs ds)(t:XE CX X E)(p:ċ řc Ö=(do
   let ov <-ċ o Ö
   standAt Ěc
   let (f,first) <-holding [ov] ñc
   Œb pos f first įg Ĳb):=by rfl) :
  PE X řc (LO C m sp dvs E ta YU):=by
 intro n s σ H Q I h;show şg (pl:=pl) (zj (j n s σ H _ I h) λu J d=>?_) p;let{x,L,b,r,a,B,G,v,i,l,q}:=d;subst v;obtain rfl:u=ą a:=r;show aI b i c e l ?_;show W.callWith_K0 (first:=âa) b.xc e.kp (Qs (us:=âa) (vs:=âa) F y g z t b ýl q)
structure Mk(K:Ð)(C f:Í):È where
 makes:øf K C=Å
 init:Ĥa K Ŏ Ϙa=À Ϝa
 fn:ße K Ļ=Å
 kp:áa K Ŏ=Å
def y0p{c:Á î}{σ:St}{H:Hp}{s:Ñ}{Q:VK}{us:Á Value}{vs:Á V}(M:Mk X.K C f)(F:xO ò X.w X.K ñ Œ CX k f fd ps sp)(q:ym š X.A)(i:uQ X.K fd ps ds)(j:zm dvs ds)(p:XE CX X E)(I:zH X c σ H s)(r:zm vs us)(h:∀x dx,H x=Æ->H dx=Æ->dx≠x->sp (.ref x::Ϝd) (zU (zU H dx Ïd) x Žl) (λv H2=>v=.zE/\Q Îd H2) E) :Û ù X.A (ża Ŏ us) (EP X c σ Q) ĥ s:=by
 let g:=h õa Þ ϵl Ϲc (Êa Íe);let b:=zH.made (C:=C) I;let d:zm (Ħb õa::Ϝd) Ťl:=.cons rfl (įc j)
 let n:(ą õa::us++ds).length=ü:=by let e:=Äa;rw[F.len _ _ _ _ g]at e;show ųf
 refine ĭh (z1f (f:=f) ţ M.makes M.init (Ϛe M.fn) (ŋe (F.run _ ĥa _ _ {ą õa::us,[]} Ťl _ _ E (q.make C us [])
  (b.Pk.make C us []) (i _ (ą õa::us) b.xc n) d g) λr m a=>?_))
 cases r with
 |error e=>show p c σ _ _ e m b a|ok fl=>
  cases fl with
  |ret u=>let{v,t,z,o,y,l}:=b.after a;subst y;show{o,{Ħb õa,t,z,rfl,l}}
  |next=>show Áa a|brk=>show Áa a|Ĭb=>show Áa a
def c8(M:Mk X.K C f)(F:xO ò X.w X.K ñ Œ CX k f fd ps sp)(o:ym š X.A)(m:Gl X x)(v:ñ x=À Ŏ)(g:uQ X.K fd ps ds)(u:zm dvs ds)(n:XE CX X E)(i:PA X Ē t)(a:Î Ģ q10)(j:Î Ûc q12)(b:Î ((űc).any (·.1)=Ã) q12) :PE X ŝa (y48 C sp dvs E t):=by rw[ϊo];show šd (h₀:=Œ) űd M.kp (zj ék λG y c=>?_) j b;rw[Ϡo];show y0p M F o g u n d r q
#print a
def PK(X:Cx)(a:Á Ōf)(t:TA):È:=
 ∀(pos:Pos)(z8:Á î) (s:Ñ) (σ:St) (H:Hp) (Q:Á V->Hp->È),zH X z8 σ H s->t σ H Q->Û ù X.A (evalAll ((backToKw pos (Ńm a Ö)).map (·.2))) Źl ĥ s
section
variable{X:Cx}{k:Ä}{f:Í}{x m:Ç}{p pos kpos:Pos}{e o:Ó}{kws:Á Ōf}{te:TE}{t:TA}{nm:Ê Ç}
def z8o:PK X [] YU:=λ_ _ _ _ H Q I h=>wpAny_evalAll_nil {[],H,I,.nil,h}
def z8m(f:PE X e te)(o:PK X kws t):PK X ({nm,e,kpos}::kws) ϝh:=by
 intro pos b s σ H Q I h;exact Û _ _ (evalAll ((do let v <-ċ e Ö;standAt pos;pure v)::(backToKw pos (Ńm kws Ö)).map (·.2))) _ _ s;show wpAny_evalAll_cons (Ø Ėj);let{x,n,g,i,p}:=a;show Ø (łe Íb);show zj (o pos b j σ n _ g p) λr q a=>?_
 rw[Ĭo]
#print a
structure zi(N P:Á Ç)(sc:Óa):È where
 kind:sc.kind=.function
 co:sc.isCoroutine=Ã
 gen:sc.isGenerator=Ã
 nd:N.Nodup
 pre:N.take ċa=P
 par:∀x∈P,ĉl x=À .local\/ĉl x=À .cell
 iP:∀y∈sc.names,y.2≠.free
theorem Sz{a:Ç->Ê ϲb}{x:Ç}:∀{Ăd:Á Āb} {m:Ç->Ê Value},(∀v,(x,v) ∉ Ăd)->Ðc a Ăd m x=m x
 | [],_,_=>rfl|(n,v)::r,m,h=>by
  unfold Ðc;rw[Sz λw b=>h w ďb]
  split;rw[ūo]
  simp[this];rfl
theorem Sx{a:Ç->Ê ϲb}{x:Ç}:∀{Ăd:Á Āb} {m:Ç->Ê Value},(∀v,(x,v) ∉ Ăd)->Ñc a Ăd m x=m x
 | [],_,_=>rfl|(n,v)::r,m,h=>by
  unfold Ñc;rw[Sx λw b=>h w ďb]
  split;rfl;rw[ūo]
  simp[this]
theorem Sy{a:Ç->Ê ϲb}{x:Ç}{v:Value}:∀{P:Á Ç}{vs:Á Value}{i:Ä}{m:Ç->Ê Value},P.Nodup->P[i]?=À x->vs[i]?=À v->a x=À .local->
  Ðc a än m x=À v
 | [],_,_,_,_,h,_,_=>by simp at h|_::_,[],_,_,_,_,h,_=>by simp at h|p::P,w::vs,0,m,nd,h1,h2,hk=>by rw[ϖo];exact Ðc a Še m p=_;unfold Ðc;rw[Sz λv b=>īe.1 (šg b).1,Ò hk];simp|p::P,w::vs,i+1,m,nd,h1,h2,hk=>by exact Ðc a Še m x=_;unfold Ðc;show Sy (i:=i) īe.2 Ňe Œk hk
theorem Sw{a:Ç->Ê ϲb}{x:Ç}{v:Value}:∀{P:Á Ç}{vs:Á Value}{i:Ä}{m:Ç->Ê Value},P.Nodup->P[i]?=À x->vs[i]?=À v->a x≠À .local->
  Ñc a än m x=À v
 | [],_,_,_,_,h,_,_=>by simp at h|_::_,[],_,_,_,_,h,_=>by simp at h|p::P,w::vs,0,m,nd,h1,h2,hk=>by rw[ϖo];exact Ñc a Še m p=_;unfold Ñc;rw[Sx λv b=>īe.1 (šg b).1,Ô hk];simp|p::P,w::vs,i+1,m,nd,h1,h2,hk=>by exact Ñc a Še m x=_;unfold Ñc;show Sw (i:=i) īe.2 Ňe Œk hk
nonrec def ϔf(N:Á Ç)(vs:Á V):St:=Ūf À++Ų (ϖ-ö) Æ
nonrec def tD(g:jf)(P:ï)(w:è)(K:Ð)(mg:Ç->Ê Value)(Ë:Heap)(N:Á Ç)(b:Ç)(a:Óa)(f:Í)(d:Value)(A:Ā)(þ:Á Env)(s:Ñ)(H:Hp)(E:XK):Cx where
 ı:=P
 w:=w
 K:=K
 mg:=mg
 Ë:=Ë
 A:=Ìb ĺg
 N:=N
 s₀:=s
 H₀:=H
 env:=Ϟa b a Þ f d
 þ:=þ
 stack:=Ϟa b a Þ f d::þ
 ex:=[]
 calm:=Å
 fn:=λ_=>Å
 pn:=[]
 xe:=λe i=>Û Ćb (Ìb ĺg) (leaving ĺg e) (λ_ c=>g þ H s E e c) (λh c=>g þ H s E h c) i
def AI{a:Óa}{n:Ä}{x:Ç}(h:Łb x=À .cell):∃c,(Ũh n Ăi []).lookup x=À c:=by let q:=Ýl Ăi n [] ñi;show ŭj q
def sk{L:jf}{P:ï}{w:è}{K:Ð}{I:Ç->Ê Value}{l:Heap}{N ps:Á Ç}{g:Ç}{d:Óa}{f:Í}{G:Value}{A:Ā}{þ:Á Env}{s O:Ñ}{H:Hp}{E:XK}{us:Á Value}{vs:Á V}(S:zi N ps d)(X:Čb=Æ)(e0:Yu P w K I l A þ s H)(Z:ö=ü)(r:zm vs us)(x:InCallC s Þ (Ðc (ϲk).kindOf Ϡb λ_=>Æ) (Ũh õa d.names []) (Ñc (ϲk).kindOf Ϡb λ_=>Æ) O) :zH ýj [] ėc H O:=by
 let T:ü<=ϖ:=by let:=Ϣ Đh S.pre;rw[Ęa]at this;omega
 let{F,Y,rfl,J}:=x.done;let m:∀b:Í,b ∉ (ýj).ex:=λb z=>ß (show b∈([]:Á Í)from z) é
 show⟨{e0.mod,S.kind,rfl,rfl,Üa _,λy z c F j=>?_,λy o=>?_,λy c _ h=>?_,λ_=>X,Around.frames_deeper e0.frames,.inr {rfl,rfl},λb z=>ß z (m b),e0.bs,e0.gN,λb _ _=>m b,λb z=>ß z (m b),e0.pR,e0.Zc},
  rfl,e0.bare,Èe J,{_,x.toInCall.ns,λi y v F j h3=>?_},λy c h=>{_,x.cell y c h},Ňm Ę,λy c h=>?_,λp B=>ß (show p∈([]:Á î)from B) é,e0.zf.kept J,?_⟩
 show name_of_addr x.apart (ĥe F) (ĥe j);let o:ϋg y=À .cell\/ϋg y=À .free:=o;rcases o with o|o;show AI o;show ß rfl (S.iP _ (ĥe o));show ńb Āk;let C:i<ö:=by
  unfold ϔf at j;by_cases C:i<ö;show C;rw[âc όk]at j;rw[Êk]at j
  split at j<;>cases j
 let R:vs[i]?=À v:=by
  unfold ϔf at j;rw[éb όk,Ş]at j;cases e:vs[i]? with
  |Æ=>rw[e]at j;cases j|À a=>rw[e]at j;cases j<;>rfl
 let{u,Q,U}:=Ÿa R
 have B:ps[i]?=À y:=by rw[<-S.pre,List.getElem?_take_of_lt É];show F
 have t:ps.Nodup:=by rw[<-S.pre];show S.nd.sublist (List.take_sublist _ _)
 show{u,U,?_};rcases S.par y (Ķb B)with k|k;show .inl {k,Sy t B Q k};let{c,e}:=AI (n:=Þ+1) k;show .inr {.inl k,c,e,?_};let q:=x.cell y c e;rw[Sw t B Q (by exact ϋg y≠_;rw[k];decide)]at q;show q;show Ňm (ńb Āk);unfold ϔf;exact _=ϖ;rw[Ďo]
def As{L:jf}{P:ï}{w:è}{K:Ð}{G:Ç->Ê Value}{h:Heap}{k:Ä}{f:Í}{İ c:Ç}{g:Ģn}{i:Á Ù}{a:Óa}{Z kV F pm d ct oc:Value}{an od:Ê Í}{U:Ĝ ŧa}{N ps:Á Ç}{sp:Sp}(lk:Ϗ f=À {oc,od,.func āj,U})(T:ĕb K d c=Å)(S:zi N ps a)(C:∀vs H Q E,sp vs H Q E->ö=ü)(j:∀(A:Ā)(þ:Á Env)(s:Ñ)(H:Hp)(vs:Á V)(Q:VK)(E:XK),ym k (Ìb (Ϟa c a Þ f d))->sp vs H Q E->
   ∃t,uf Èg i t/\t { nx:=λ_ H'=>Q .zE H',rt:=Q } ėc H) :
  xO P w K G h L š f āj ps sp:=by
 show{C,λA þ s H ϝ us vs Q E Y p hb r z=>?_};let hl:=C _ _ _ _ z;let KX:Ţ à:=p.mod.Yq.keeps λb o e=>Ĕm.1
 let R:s.heap.NoLimit:=p.mod.nolimit.keeps λb o e=>Ĕm.1
 let l:∀y∈ps.zip us,Łb y.1=À .local\/(Łb y.1=À .cell/\((Ũh õa Ăi []).lookup y.1).isSome=Å):=λ⟨n,v⟩ hy=>by rcases S.par n (šg hy).1 with q|q;show .inl q;show .inr {q,Ýl _ _ _ (.inl q)}
 show codeAny_call_function Y.depth (KX _ _ lk) rfl S.co S.gen rfl (W.codeRec_of KX T) (hb _ _ _ _ ?_);show wpAny_newFunctionEnv_cells S.kind l λenv he s1 x=>?_
 subst he;show{R.keeps x.toInCall.keep,codeAny_func ?_};let{t,ht,hq}:=j A þ s H vs Q E (Y.deeper _) z;let I:zH Èg [] ėc H s1:=sk S Y.hd p hl r x;show ýa (ht [] s1 ėc H _ I hq) (λfl O m=>?_) λe O m=>m
 let B:∀{σ':St}{H':Hp}{v:V}{u:Value},zH Èg [] σ' H' O->zw v u->Q v H'->CE þ P w H s Q u O:=
  λ{σ' H' v u} J X q=>{v,H',J.os,J.bare,J.base,J.zf,X,q}
 cases fl with
 |ret u=>
  let{v,σ',H',J,X,q}:=m;show B J X q
 |next=>
  let{σ',H',J,q}:=m;show B (v:=V.zE) (u:=ϒc) J rfl q
 |brk=>
  let{_,_,_,q}:=m;show Áa q
 |Ĭb=>
  let{_,_,_,q}:=m;show Áa q
section
variable{X:Cx}{x:Ç}{p pos:Pos}{e:Ó}{es:Á Ó}{t:TA}{id T:Ÿ}{r:Á V->Hp->VK->È}
nonrec def LK(r:Á V->Hp->VK->È)(t:TA):TE:=λσ H Q=>t σ H λb a=>r b a Q
def z7o(l:wL X Éb r)(q:Gl X x)(w:ñ x=Æ)(hv:ş x=À Éb)(f:PA X Ē t)(g:Î Ša q10)(a:Î Ģ q10)(j:Î Ûc q12)(b:Î ((űc).any (·.1)=Ã) q12):PE X ŝa ĳf:=by rw[ķo];show Ĭd īk;show PyProof.Rows.callWith_builtin1 òj j b;rw[Ļo]
def z7q(l:wL X Ôb r)(q:Gl X x)(w:ñ x=Æ)(hv:ş x=À Ôb)(f:PA X Ē t)(g:Î Ša q10)(a:Î Ģ q10)(j:Î Ûc q12)(b:Î ((űc).any (·.1)=Ã) q12):PE X ŝa ĳf:=by rw[ķo];show Ĭd īk;show àg òj j b;rw[Ļo]
#print a
#print L2
namespace HT
open Ĩ ĭ
section
variable{ı:ï}{w:è}{A:Ā}{E:Value->Ñ->È}{s:Ñ}
def cat_tup{t b:Í}{vs ws:Á Value}{Q:Value->Ñ->È}(u:ϯa à t Ũa)(q:ϯa à b Õf)(hv:vs≠[])(v:ws=[]->Q ϓd s)(r:ws≠[]->Q Ŋb { s with ì:=ęa { cls:=.type ż,ā:=.seq (vs++ws).toArray } })(hsz:ö+Ϛa<=ã):Û ĳ A (Ŧa .Add ϓd (.ref b)) Q E s:=by
 obtain⟨⟨cls,k,ā,m⟩,h,l,n,p⟩:=id u;obtain⟨⟨j,d,i,f⟩,a,c,o,g⟩:=id q;simp only at l p c g;subst l p c g;let e:Ũa++Õf=(vs++ws).toArray:=by simp
 by_cases hw:ws=[];show åh {_,h,rfl} {_,a,rfl} Úl ϒl Ùk Åk ōj
  (tuple_addW1 t b Ũa Õf n o k d m f Ĥg (by simp[hw])) {h,a,v hw}
 refine åh {_,h,rfl} {_,a,rfl} Úl ϒl Ùk Åk ōj
  (tuple_addW2 t b Ũa Õf n o k d m f Ĥg (by simpa using hw) (by rw[ė,ė];show hsz)) {h,a,?_}
 rw[e];show r hw
nonrec def sIx(n d:Ä):Ê Â->Ä
 |Æ=>d|À v=>if v<0 then(v+(n:Â)).toNat else min v.toNat n
def Øe(n d:Ä)(a:d<=n)(o:Ê Â):sIx n d o<=n:=by
 cases o with
 |Æ=>show a|À v=>exact ϻi<=n;by_cases hv:v<0;rw[Ò hv];omega;rw[Ô hv];show Nat.min_le_right _ _
def AJ(v:Â)(n d:Ä):Ϻi=((sIx n d ŧ:Ä):Â):=by exact Ϻi=((ϻi:Ä):Â);by_cases hv:v<0;simp only[Ò hv];show(Œg _).symm;simp only[Ô hv];let{k,rfl}:=źb (ϳg hv);rcases ëh k n with h|h;rw[Ŕ,Ϗc h,Ŏd (Ëg h)];rw[Ŕ,Ŏg h,Ŕg (Ëg h)]
theorem ik(b a:Ê Â)(n:Ä):çg b a 1 (n:Â)=(((sIx n 0 b:Ä):Â),((sIx n n a:Ä):Â)):=by
 let c:¬ ((1:Â)<0):=by omega
 unfold çg;simp only[c,Ŧ];show Prod.ext ?_ ?_;cases b with
 |Æ=>rfl|À v=>show AJ v n 0
 cases a with
 |Æ=>rfl|À v=>show AJ v n n
def z8r(i j:Ä):ģe (i:Â) (j:Â) 1=j-i:=by
 unfold ģe;let a:(1:Â)>0:=by omega
 simp only[a,Ň,Ëb]
 rw[āo]
def eJ{v:Value}{o:Ê Â}{Q:Ê Â->Ñ->È}(p:ãb v o)(h:Q o s):Û ĳ A (Builtin.Slice.slicePartIndex v) Q E s:=by
 cases p with
 |Æ=>show ől h|int i t=>show slicePart_int h
def eI{g:Í}{e f:Value}{a d:Ê Â}{n:Ä}{Q:Â×Â×Ä->Ñ->È}(i:ţe g e f .none)(pl:ãb e a)(k:ãb f d)(h:Q (((sIx n 0 a:Ä):Â),1,sIx n n d-sIx n 0 a) s):Û ĳ A (ϋj ìf (pure (n:Â))) Q E s:=by let{l,b,j,c}:=id i;unfold ϋj Builtin.Slice.sliceFields;show Ø (Ø (Ϸa b c (x:=e) rfl (Ø (Ϸa b c (x:=f) rfl (Ø (Ϸa b c (x:=.none) rfl Íb))))));show Ø (ől ?_);exact Û _ _ (ζa ((1:Â)==0)) _ _ s;rw[Ô Ì];show Ø (eJ pl (Ø (eJ k (Ø Íb))));exact Û _ _ (match çg a d 1 (n:Â)with|(a,d)=>pure (a,(1:Â),ģe a d 1)) _ _ s;rw[ik a d n];exact Û _ _ (pure (((sIx n 0 a:Ä):Â),(1:Â),ģe ((sIx n 0 a:Ä):Â) ((sIx n n d:Ä):Â) 1)) _ _ s;rw[z8r];show Đ h
def z8l(xs:Ĝ Value)(i k:Ä):((Ùa k).filterMap λ(m:Ä)=>xs[(Ĩg).toNat]?).toArray=((xs.toList.drop i).take k).toArray:=by
 let e:(λ(m:Ä)=>xs[(Ĩg).toNat]?)=λm=>xs[i+m]?:=by
  funext m
  let:(Ĩg).toNat=i+m:=by omega
  rw[this]
 rw[e];let:=Ϯh xs i k;rw[List.filterMap_map]at this;let e2:((λx=>xs[x]?)∘λx=>i+x)=λm=>xs[i+m]?:=rfl
 rw[e2]at this;rw[this]
theorem getItem_tuple_cut{t g:Í}{a:Ĝ Value}{l n:Value}{c d:Ê Â}{Q:Value->Ñ->È}(e:ϯa à t a)(o:ţe g l n .none)(pl:ãb l c)(x:ãb n d)(p:¬ (sIx ĝ 0 c=0/\sIx ĝ ĝ d=ĝ))(h:Q Ŋb { s with ì:=ęa { cls:=.type ż,ā:=.seq (ϭf).toArray } })(hsz:ĝ<=ã):Û ĳ A ϫl Q E s:=by
 let b:sizeOk (.seq (ϭf).toArray):=by exact(ϭf).toArray.size<=ã;rw[ė,Ęa,ňd,ìb];show Ĵ ĳd (Ĵ Ŋd hsz)
 let r:sIx ĝ ĝ d<=ĝ:=Øe _ _ Ę d;let{z,i,k,v}:=id o;let f:Ûb ìf Äe:={z,i,k};unfold ĳc
 try with_reducible show Ϻa ?_
 first|show Ø Íb|skip
 refine Ø (ϙk ϳh Ì ?_)
 show Ø (ŝc (İ:=ĕc ϭg) ϳh đe
  (éc đe ϳh Ĺk ?_ ϸj))
 exact Û _ _ ßj _ _ s;show Ø (ϐl e ?_);show Ø Ân;rw[Ò Ì];show Ø (eI o pl x ?_)
 let j:¬ (Ϙi=Å):=by intro q;rw[ø,ø]at q;let y:((sIx ĝ 0 c:Ä):Â)=0:=ęn q.1.1;let u:sIx ĝ ĝ d-sIx ĝ 0 c=ĝ:=ęn q.2;show p {Int.ofNat_eq_zero.mp y,Nat.le_antisymm r (Ĵ (ϗc u.symm) Ŋd)}
 exact Û _ _ (ζa Ϙi) _ _ s;rw[Ô j,z8l]
 first
  |show Ø (m:=Ĩe _) Ųm
  |show Ø (m:=Ĩe _) (ác (Ø šn) b)
  |show Ø (Ø (m:=Ĩe _) (ác šn b))
  |show Ø (Ø (m:=Ĩe _) Ųm)
#print a
#print HT
namespace L2
open Ĩ ĺ ĭ
abbrev TO:=St->Hp->(Ê Â->Hp->È)->È
def PO(X:Cx)(e:Ê Ó)(t:TO):È:=
 ∀(z8:Á î) (s:Ñ) (σ:St) (H:Hp) (Q:Ê Â->Hp->È),zH X z8 σ H s->t σ H Q->
  Û ù X.A (evalPart e Ö) (λu a=>∃o H',zH X z8 σ H' a/\ãb u o/\Q o H') ĥ s
nonrec def y4c:TO:=λ_ H Q=>Q Æ H
nonrec def y4h(t:TE):TO:=λσ H Q=>t σ H λx a=>∃i,x=.int i/\Q (À i) a
section
variable{X:Cx}{e:Ó}{te:TE}{lo hi:Ê Ó}{tl th:TO}{pos p2:Pos}
def z8v:PO X Æ y4c:=by intro a s σ H Q I h;rw[ϗl];show Đ {Æ,H,I,.none,h}
def z8w(h:PE X e te):PO X (À e) (y4h te):=by
 intro f s σ H Q I d;rw[evalPart_some];show zj (h f s σ H _ I d) λu k a=>?_
 let{x,g,b,c,j}:=a;let{i,rfl,q}:=j;let{t,rfl}:=c;show{À i,g,b,.int i t,q}
def gY(X:Cx)(r:V->Ê Â->Ê Â->Hp->VK->È):È:=
 ∀(z8:Á î) (s:Ñ) (σ:St) (H:Hp) (x:V) (v vl vu:Value) (lo hi:Ê Â) (sl:Í) (Q:VK),zH X z8 σ H s->zw x v->ţe sl vl vu .none->ãb vl lo->ãb vu hi->r x lo hi H Q->
  ∃T id,įh Ôb ϭg=pure (À Éb)/\Ûb v T/\Û ù X.A (ĳc v (.ref sl)) öb ĥ s
def gY.or{r d:V->Ê Â->Ê Â->Hp->VK->È}(h:gY X r)(h':gY X d):gY X (λx lo hi H Q=>r x lo hi H Q\/d x lo hi H Q):=by intro c s σ H x v a b lo hi e Q I f g i j q;rcases q with q|q;show h c s σ H x v a b lo hi e Q I f g i j q;show h' c s σ H x v a b lo hi e Q I f g i j q
nonrec def y4m(r:V->Ê Â->Ê Â->Hp->VK->È)(te:TE)(tl th:TO):TE:=λσ H Q=>te σ H λx b=>tl σ b λl a=>th σ a λu c=>r x l u c Q
def cB{r:V->Ê Â->Ê Â->Hp->VK->È}(R:gY X r)(k:PE X e te)(o:PO X lo tl)(p:PO X hi th):PE X (.Subscript e ċk pos) (y4m r te tl th):=by
 rw[ķo];show ϳm (zj (k d s σ H _ I h) λv n c=>?_);let{x,y,J,m,C}:=c;show wpAny_Slice (zj (o d n σ y _ J C) λg O c=>?_);let{l,t,G,S,N}:=c;show zj (p d O σ t _ G N) λf a i=>?_
 let{u,j,E,B,K}:=i;rw[ϗl];show Đ ?_;let z:zH X d σ j { a with ì:=ůd { cls:=.type Äe,ā:=.fields #[g,f,.none] } }:=E.kept (t':=Þe) λb U q=>ğ _ q
 let{T,W,F,L,P}:=R d { a with ì:=ůd { cls:=.type Äe,ā:=.fields #[g,f,.none] } } σ j x v g f l u üa Q z m (Heap.IsSliceOf.new ..) S B K;exact Û ù X.A (ϑl e ċk v ùn) (EP X d σ Q) ĥ { a with ì:=ůd { cls:=.type Äe,ā:=.fields #[g,f,.none] } };show tail_any (ops:=[.ref üa,v]) L F P ϲa
def Y2(xs:Á V)(lo hi:Ê Â):Á V:=(ùi (ħ ä 0 lo)).take (ħ ä ä hi-ħ ä 0 lo)
def AQ(xs:Á V)(lo hi:Ê Â):(Ùm).length<=ä:=by unfold Y2;rw[Ęa,ňd];show Ĵ ĳd Ŋd
def c_(K:Ð):V->Ê Â->Ê Â->Hp->VK->È:=λx lo hi H Q=>∃a xs,x=.ref a/\xE K H a xs/\
 ¬ (ħ ä 0 lo=0/\ħ ä ä hi=ä)/\∀p,H p=Æ->Q Ž (ν (.tup Ùm))
def y31:gY X (c_ X.K):=by
 intro w s σ H x v t u lo hi y Q I j k m n h;let{a,d,rfl,l,i,q}:=h;cases j;let{e,r,g,f}:=Ϥ l;let c:e.toArray.size=Äa:=by rw[ė];show ϕl
 show{ż,_,øj,g.typeIs,?_};refine HT.getItem_tuple_cut g k m n (by rw[c];show i) ?_ (by rw[c];show f);rw[c];show{.ref Þ,_,őa (t':=ĕ) (o:=.tup (Y2 d lo hi)) (λb p q=>ğ _ q) Ę ?_,rfl,q _ Ϲc};show{Ĵ (AQ d lo hi) f,_,(Ľi (ħ Äa 0 lo)).take (ħ Äa Äa hi-ħ Äa 0 lo),Ųh _ _}
def cg(K:Ð):R2:=λx y H Q=>∃a b xs ys,x=.ref a/\y=.ref b/\xE K H a xs/\xE K H b ys/\xs≠[]/\ä+ŭ<=ã/\
 (ys=[]->Q ś H)/\(ys≠[]->∀p,H p=Æ->Q Ž (ν (.tup Éi)))
def zm.Mg{xs:Á V}{us:Á Value}(r:zm xs us):us=[]↔xs=[]:=by
 cases r with
 |nil=>simp|ú _ _=>simp
def z72:ye X ϯc (cg X.K):=by intro C s σ H x y v u Q I j i h;let{a,b,r,t,rfl,rfl,g,m,k,e,l,p}:=h;cases j;cases i;let{A,d,n,_}:=Ϥ g;let{f,c,p2,_}:=Ϥ m;show HT.cat_tup n p2 (λz=>k (d.Mg.mp z)) (λz=>{.ref a,H,I,rfl,l (c.Mg.mp z)}) (λz=>?_) (by rw[<-Äa,<-ϟa];show e);show{.ref Þ,_,őa (t':=ĕ) (o:=.tup (r++t)) (λb B q=>ğ _ q) Ę ?_,rfl,p (λw=>z (c.Mg.mpr w)) _ Ϲc};show{by rw[Ă];show e,_,d.append c,Ųh _ _}
#print a
nonrec def ixN(n:Ä)(i:Â):Ê Ä:=if 0<=i then(if i<n then À Ľc else Æ)else if -(n:Â)<=i then À (i+n).toNat else Æ
def qu{α:Type}(xs:Á α)(i:Â):Ê α:=(ixN ä i).bind λj=>xs[j]?
def au{n:Ä}{i:Â}{j:Ä}(h:ixN n i=À j):seqIndex? i n=À j/\j<n /\ -(n:Â)<=i/\i<n:=by unfold ixN at h;by_cases h0:0<=i;rw[Ò h0]at h;by_cases h1:i<n;rw[Ò h1]at h;let e:Ľc=j:=āa h;show{by rw[ĉh h0 h1,e],by omega,by omega,h1};rw[Ô h1]at h;cases h;rw[Ô h0]at h;by_cases h1 : -(n:Â)<=i;rw[Ò h1]at h;let e:(i+n).toNat=j:=āa h;show{by rw[áh É h1,e],by omega,h1,by omega};rw[Ô h1]at h;cases h
def Bd{α:Type}{xs:Á α}{i:Â}{v:α}(h:qu xs i=À v):∃j,seqIndex? i ä=À j/\xs[j]?=À v/\j<ä /\ -(ä:Â)<=i/\i<ä:=by
 unfold qu at h;cases e:ixN ä i with
 |Æ=>rw[e]at h;cases h|À j=>rw[e]at h;let{c,a,b,d}:=au e;show{j,c,h,a,b,d}
def SX(b:Ó):È:=∀o i,Ŀm b Ã o i=operate [o,i] (ĳc o i)
def qr(X:Cx)(r:R2):È:=
 ∀(ŕa slice:Ó)(z8:Á î) (s:Ñ) (σ:St) (H:Hp) (x y:V) (v u:Value) (Q:VK),zH X z8 σ H s->zw x v->zw y u->r x y H Q->
  Ŀm slice Ã v u=operate [v,u] (ĳc v u)->Û ù X.A (ϑl ŕa slice v u) öb ĥ s
def V4(X:Cx)(a:Ÿ)(r:V->Á V->Hp->VK->È):È:=
 ∀(z8:Á î) (s:Ñ) (σ:St) (H:Hp) (x:V) (xs:Á V) (v:Value) (us:Á Value) (Q:VK),zH X z8 σ H s->zw x v->zm xs us->r x xs H Q->
  Û ù X.A źj öb ĥ s
section
variable{X:Cx}{a b:Ó}{ta tb:TE}{pos:Pos}
def qr.or{r e:R2}(h:qr X r)(h':qr X e):qr X (λx y H Q=>r x y H Q\/e x y H Q):=by intro a b g s σ H x y v u Q I c f q d;rcases q with q|q;show h a b g s σ H x y v u Q I c f q d;show h' a b g s σ H x y v u Q I c f q d
def Vo{r:R2}(m:qr X r)(e:PE X a ta)(d:PE X b tb)(l:SX b):PE X ĭk ϴe:=by rw[ćo];show ϳm (Dn e d I h λv u j x y k c i f q=>m a b g j σ k x y v u Q c i f q (l _ _))
def cm(K:Ð):R2:=λx y H Q=>∃p xs i v,x=.ref p/\y=.int i/\yh K H p xs/\qu xs i=À v/\Q v H
def cq(K:Ð):R2:=λx y H Q=>∃p xs i v,x=.ref p/\y=.int i/\xE K H p xs/\qu xs i=À v/\Q v H
def cp:R2:=λx y H Q=>∃z i c,x=.str z/\y=.int i/\ő<=ã/\qu Ńg i=À c/\Q Ëh H
def ax:qr X (cm X.K):=by
 intro d f m s σ H x y v u Q I E A h n;let{p,P,i,z,rfl,rfl,G,o,q}:=h;cases E;let{t,rfl}:=A;let{k,r,g,N}:=ϒ G;let{j,b,F,R,L,J}:=Bd o;let{w,l,c}:=Ÿa F;let C:=Ŷ;let O:=Xr;let a:EP X m σ Q w s:={z,H,I,c,q};by_cases h0:0<=i;let e:Ľc=j:=by rw[ĉh h0 J]at b;show āa b
 show item_listR őb h0 É ϴj a n;let e:(i+(k.toArray.size:Â)).toNat=j:=by rw[áh É L]at b;rw[ė,<-C];show āa b
 show Ęd (x:=w) ċl Ϭj
  (wpAny_getItem_list_neg (Q:=λr B=>r=w/\EP X m σ Q r B) őb É ħk É ϴj {rfl,a}) n
def z01:qr X (cq X.K):=by
 intro b d e s σ H x y v u Q I o l h C;let{p,L,i,z,rfl,rfl,B,k,q}:=h;cases o;let{t,rfl}:=l;let{F,r,f,G}:=Ϥ B;let{j,E,A,N,P,O}:=Bd k;let{w,g,a}:=Ÿa A;let n:=Ŷ;let J:=Xr;let c:EP X e σ Q w s:={z,H,I,a,q}
 show Ęd (x:=w) ϲh slot_tuple_getitem.lookup
  (getItem_tuple (j:=j) (Q:=λr m=>r=w/\EP X e σ Q r m) f É É (by rw[ė,<-n];show E) ĳg {rfl,c}) C
def z00:qr X cp:=by
 intro a b A s σ H x y v u Q I k f h m;let{z,i,c,rfl,rfl,p,e,q}:=h;let{t,rfl}:=k;let{r,rfl}:=f;let{j,d,l,B,o,n}:=Bd e;let g:ķk=ő:=by simp[ĸh]
 rw[g]at d o n;let w:=Xr
 show tail_any (İh s z t) slot_str_getitem.lookup (getItem_str (c:=c) (by let e1:decide (i < -(2 ^ 63:Â))=Ã:=đ É;let e2:decide (i≥2 ^ 63)=Ã:=đ É;rw[e1,e2,Bool.or_false]) (by rw[d];simpa using l) {.str {#[c]},H,ϊ _,{_,rfl},q}) m
def GR(K:Ð):R2:=λx y H Q=>cm K x y H Q\/cq K x y H Q\/cp x y H Q
def s_:qr X (GR X.K):=ax.or (z01.or z00)
def z1h(its:Á Value)(n j:Ä)(u:Value):Ϫc (·.setIfInBounds j u) { cls:=.type ę,ā:=.seq Ϧ n }={ cls:=.type ę,ā:=.seq (its.set j u).toArray n }:=by simp[Ϫc]
theorem zH.lst{a:Á î}{σ:St}{H:Hp}{s:Ñ}{p:Í}{xs:Á V}(I:zH X a σ H s)(h:H p=À îa) :∃(its:Á Value) (n:Ä),zm xs its/\ć p=À { cls:=.type ę,ā:=.seq Ϧ n }/\ä<=ã:=by let{z,its,n,r,e}:=ĉ p _ h;show{its,n,r,e,z}
def zH.iN{d:Á î}{σ:St}{H:Hp}{s:Ñ}{p:Í}{xs ys:Á V}{its Řa:Á Value}{n a:Ä}{f:Obj->Obj}(I:zH X d σ H s)(h:H p=À îa)(g:ć p=À { cls:=.type ę,ā:=.seq Ϧ n })(c:f { cls:=.type ę,ā:=.seq Ϧ n }={ cls:=.type ę,ā:=.seq äh a })(r:zm ys Řa)(hz:ŭ<=ã)(t:Ä) :zH X d σ (zU H p ϕb) { s with ì:=řd p f,ď:=t }:=by
 let e:(řd p f).get? p=À { cls:=.type ę,ā:=.seq äh a }:=by rw[Ķe f g (by rw[c]<;>rfl),c]
 refine ōf (x:=p) (e:=p) (by rw[h];trivial) Ō (λb u i q=>(ξa (ßb i)).trans q) {_,e} ?_;show{hz,Řa,a,r,e}
def y06:V->V->V->Hp->Ϙn->È:=λo i v H Q=>∃p xs k j,o=.ref p/\i=.int k/\H p=À îa/\ixN ä k=À j/\Q (μc (xs.set j v))
def Kr:BX X y06:=by
 intro A s σ H o i v E J u Q I y w B h;let{p,C,k,j,rfl,rfl,f,z,q}:=h;cases y;let{t,rfl}:=w;let{a,n,r,e,x}:=I.lst f;let{b,G,l,m}:=au z;let d:=Ŷ;let F:=Xr
 let g:zH X A σ (μc (C.set j v)) { s with ì:=řd p (Ϫc (·.setIfInBounds j u)) }:=
  I.iN f e (z1h a n j u) (r.set B j) (by rw[Ϻ];show x) ĕ
 by_cases h0:0<=k;let c:Ű=j:=by rw[ĉh h0 m]at b;show āa b
 show W.ki_setAt e h0 É (by rw[ė,<-d];show m) ìk;let c:(k+(ώb:Â)).toNat=j:=by rw[áh É l]at b;rw[ė,<-d];show āa b
 show W.ki_setBack e É (by rw[ė,<-d];show l) É ìk
def y34(b a:Ê Â)(n:Ä):Ũg.1=((ħ n 0 b:Ä):Â)/\Ũg.2.1=((ħ n n a:Ä):Â)/\Ũg.2.2=1:=by
 show{?_,?_,rfl};cases b with
 |Æ=>simp[Ōd,ħ]|À i=>simp only[Ōd,ħ,Þl,show(1:Â)>0 by decide,Ň];by_cases h:i<0;simp only[h,Ň];rw[Ŏd Ϗi,òm,<-Œg];simp only[h,Ŧ];let{k,rfl}:=źb (ϳg h);rcases ëh k n with q|q;rw[Ŕ,Ϗc q,Ŏd œf];show Ŧe Þd;rw[Ŕ,Ŏg q,Ŕg œf];show Ŧe ěi
 cases a with
 |Æ=>simp[Ōd,ħ]|À i=>simp only[Ōd,ħ,Þl,show(1:Â)>0 by decide,Ň];by_cases h:i<0;simp only[h,Ň];rw[Ŏd Ϗi,òm,<-Œg];simp only[h,Ŧ];let{k,rfl}:=źb (ϳg h);rcases ëh k n with q|q;rw[Ŕ,Ϗc q,Ŏd œf];show Ŧe Þd;rw[Ŕ,Ŏg q,Ŕg œf];show Ŧe ěi
def y33(its:Á Value)(a b:Ê Â):ĉn Ϧ a b Æ=((its.drop (ħ Îb 0 a)).take (ħ Îb Îb b-ħ Îb 0 a)).toArray:=by let{e,c,d}:=y34 a b its.toArray.size;unfold ĉn;rw[e,c,d];simp only[Ől,Ϯh,ė]<;>rfl
def cy(K:Ð):V->Ê Â->Ê Â->Hp->VK->È:=λx b c H Q=>∃a xs,x=.ref a/\yh K H a xs/\∀p,H p=Æ->Q Ž (μc (Y2 xs b c))
def y2z:gY X (cy X.K):=by intro y s σ H x v u w e f z Q I j k m n h;let{a,c,rfl,l,q}:=h;cases j;let{p,r,g,i}:=ϒ l;let d:=Ŷ;show{ę,_,Ϭj,ċl,?_};refine wpAny_getItem_list_slice őb k m n .none é ?_ ħk;rw[y33,<-d];show{.ref Þ,_,őa (t':=ĕ) (o:=.lst (Y2 c e f)) (λb t q=>ğ _ q) Ę ?_,rfl,q _ Ϲc};show{Ĵ (AQ c e f) i,_,0,(Ľi (ħ ϟa 0 e)).take (ħ ϟa ϟa f-ħ ϟa 0 e),ų _ rfl}
nonrec def qU:V->Ï
 |.zE=>Å|.bl _=>Å|.int _=>Å|.str _=>Å|_=>Ã
nonrec def tF:V->V->Ï
 |.zE,.zE=>Å|.bl a,.bl b=>a==b|.bl a,.int b=>ĥk==b|.int a,.bl b=>a==Ŀe|.int a,.int b=>a==b|.str a,.str b=>a==b|_,_=>Ã
def Am{A:Ā}{s:Ñ}{y x:V}{u v:Value}(e:zw y u)(c:zw x v)(g:qU y=Å)(f:qU x=Å):Ĉb A s u v (tF y x):=by
 cases y with
 |zE=>
  cases e;cases x with
  |zE=>cases c;show Ċg _|bl b=>cases c;show SeqAt.EqAt.none_bool b|int b=>let{t,rfl}:=c;show SeqAt.EqAt.none_int b t
  |str b=>let{t,rfl}:=c;show SeqAt.EqAt.none_str b t
  |_=>show ß (show Ã=Å from f) Ŋ
 |bl a=>
  cases e;cases x with
  |zE=>cases c;show SeqAt.EqAt.bool_none a|bl b=>cases c;show SeqAt.EqAt.bool_bool a b|int b=>let{t,rfl}:=c;show SeqAt.EqAt.bool_int a b t
  |str b=>let{t,rfl}:=c;show SeqAt.EqAt.bool_str a b t
  |_=>show ß (show Ã=Å from f) Ŋ
 |int a=>
  let{d,rfl}:=e;cases x with
  |zE=>cases c;show SeqAt.EqAt.int_none a d|bl b=>cases c;show SeqAt.EqAt.int_bool a d b|int b=>let{t,rfl}:=c;show SeqAt.EqAt.int_int a d b t
  |str b=>let{t,rfl}:=c;show šk a d b t
  |_=>show ß (show Ã=Å from f) Ŋ
 |str a=>
  let{d,rfl}:=e;cases x with
  |zE=>cases c;show SeqAt.EqAt.str_none a d|bl b=>cases c;show SeqAt.EqAt.str_bool a d b|int b=>let{t,rfl}:=c;show şk a d b t
  |str b=>let{t,rfl}:=c;show SeqAt.EqAt.str_str a d b t
  |_=>show ß (show Ã=Å from f) Ŋ
 |_=>show ß (show Ã=Å from g) Ŋ
def uU(x:V)(u:Value):Ï:=match u with
 |.none=>tF .zE x|.bool b=>tF ğb x|.int i _=>tF Ϩ x|.str z _=>tF (.str z) x|_=>Ã
def IZ{x y:V}{u:Value}(r:zw y u)(f:qU y=Å):uU x u=tF y x:=by
 cases y with
 |zE=>cases r;rfl|bl b=>cases r;rfl|int i=>let{t,rfl}:=r;rfl
 |str z=>let{t,rfl}:=r;rfl
 |_=>show ß (show Ã=Å from f) Ŋ
theorem Td{x:V}:∀{xs:Á V}{us:Á Value},zm xs us->Õe qU=Å->us.any Ŷa=xs.any λy=>tF y x
 |_,_,.nil,_=>rfl|y::xs,u::us,.cons r t,f=>by rw[ř,ø]at f;rw[ϙc,ϙc,IZ r f.1,Td t f.2]
theorem Xu{A:Ā}{s:Ñ}{x:V}{v:Value}(b:zw x v)(c:qU x=Å):∀{xs:Á V}{us:Á Value},zm xs us->Õe qU=Å->∀u∈us,Ĉb A s u v (uU x u)
 |_,_,.nil,_=>λu a=>by cases a|y::xs,u::us,.cons r t,f=>λd a=>by rw[ř,ø]at f;rcases ŋ a with rfl|a;rw[IZ r f.1];show Am r b f.1 c;show Xu b c t f.2 d a
def OB(x:V)(xs:Á V):Ï:=xs.any λy=>tF y x
def GP(K:Ð)(a:Ï):R2:=λx y H Q=>∃p xs,y=.ref p/\(yh K H p xs\/xE K H p xs)/\qU x=Å/\Õe qU=Å/\Q (.bl (if a then !OB x xs else OB x xs)) H
def z75:ye X ϖd (GP X.K Ã):=by rw[úo];rcases b with b|b;let{a,r,e,i}:=ϒ b;refine SeqAt.in_listAt Ŷa e.isList Će {.bl _,H,I,rfl,?_};rw[Èo];let{a,r,e,i}:=Ϥ b;refine SeqAt.in_tupleAt Ŷa e Će {.bl _,H,I,rfl,?_};rw[Èo]
def z79:ye X ϭe (GP X.K Å):=by rw[úo];rcases b with b|b;let{a,r,e,i}:=ϒ b;refine SeqAt.notIn_listAt Ŷa e.isList Će {.bl _,H,I,rfl,?_};rw[Èo];let{a,r,e,i}:=Ϥ b;refine SeqAt.notIn_tupleAt Ŷa e Će {.bl _,H,I,rfl,?_};rw[Èo]
def z7a:ye X ϭe (Θd (!(!(ēe j i 0 ða 1).isEmpty))):=by rw[Þo];show notIn_str {.bl _,H,I,rfl,q}
def lm:wL X ůe (λxs H Q=>∃p ys,xs=Ĭc/\Ûg/\Q ŗh H):=by intro j s σ H xs k Q I r h;let{p,ys,rfl,b,q}:=h;let{u,rfl,g}:=uO r;cases g;let i:=Xr;rcases b with b|b;let{e,c,d,f}:=ϒ b;let a:=ϟa;show Calls.call_len_list d.isList ĥd {.int ŭ,H,ϊ _,{ĕ+1,by rw[ė,a]},q};let{e,c,d,f}:=Ϥ b;let a:=ϟa;show len_tuple d ĥd {.int ŭ,H,ϊ _,{ĕ+1,by rw[ė,a]},q}
def lr:wL X ůe (λxs H Q=>∃z,xs=[.str z]/\ő<=ã/\Q ýn H):=by intro c s σ H xs d Q I r h;let{z,rfl,a,q}:=h;let{u,rfl,t,rfl}:=uO r;let b:=Xr;show len_str É {.int ő,H,ϊ _,{_,rfl},q}
def wL.or{f:Value}{r c:Á V->Hp->VK->È}(h:wL X f r)(h':wL X f c):wL X f (λxs H Q=>r xs H Q\/c xs H Q):=by intro d s σ H xs b Q I a q;rcases q with q|q;show h d s σ H xs b Q I a q;show h' d s σ H xs b Q I a q
def lz:wL X Àa (λxs H Q=>∃p ys,xs=Ĭc/\Ûg/\∀l,H l=Æ->Q Ϲb ąm):=by
 intro z s σ H xs B Q I r h;let{p,ys,rfl,j,q}:=h;let{u,rfl,A}:=uO r;cases A
 have i:∀(a:Á Value),zm ys a->ŭ<=ã->∀(c:Heap)(f:Ä),(∀b o',ć b=À o'->c.get? b=À o')->
   c.get? Þ=À { cls:=.type ę,dict:=Æ,ā:=.seq Òb f,Îc:=#[] }->EP X z σ Q Ŋb { s with ì:=c }:=λa d g c f k e=>
  {.ref Þ,_,őa (t':=ĕ) k Ę (show xU ò X.w _ c _ ϕb from{g,a,f,d,e}),rfl,q _ Ϲc}
 rcases j with j|j;let{a,d,x,g}:=ϒ j;let m:=Äa;let{o,v,t,n,y}:=x.isList;show Ϙl p Ō v t y ţj ĥd;let{a,d,x,g}:=Ϥ j;let m:=Äa;let{o,v,t,n,y}:=x;show Ϙl p ĉb v t y ţj ĥd
def II:wL X ńa (εd ((yh X.K H p ys/\∀l,H l=Æ->Q Ϲb ăm)\/(xE X.K H p ys/\Q Ž H))):=by
 intro k s σ H xs x Q I r h;let{p,ys,rfl,h}:=h;let{u,rfl,v}:=uO r;cases v;rcases h with⟨d,q⟩|⟨d,q⟩;let{a,f,g,i}:=ϒ d;let m:=ģa;show call_tuple_list őb (λc t=>?_) ĥd;let j:zH X k σ H { s with ì:=c }:=Èc (t':=ĕ) t
 let n:zH X k σ (zU H ňm Ŷd) { s with ì:=c.push { cls:=.type ż,ā:=.seq Òb } }:=
  j.laid (t':=ĕ) (λb o e=>ğ _ e) Ę (show xU ò X.w _ _ _ Ŷd from{i,a,f,Ųh _ _})
 show{.ref ňm,_,n,rfl,q _ (j.zf.fresh Ę)};let{a,f,g,i}:=Ϥ d;show call_tuple_same g {.ref p,H,I,rfl,q}
def ND(K:Ð)(T:Ÿ)(x:V)(H:Hp):È:=match x with
 |.str _=>T = íe|.int _=>T = Ëc|.ref p=>(T = ę/\∃xs,yh K H p xs)\/(T = ż/\∃o,Ϗ p=À o/\Ϯa=.type ż/\Üe=Æ) \/
   (T = ŷ/\((∃kvs,H p=À Ń)\/∃kvs,H p=À ōb))\/(T = øa/\∃S n,H p=À (.set S n))
 |_=>ê
def fC{l:Á î}{σ:St}{H:Hp}{s:Ñ}{T:Ÿ}{x:V}{v:Value}(I:zH X l σ H s)(r:zw x v)(f:ND X.K T x H) :Ûb v T/\∀a,v=.ref a->∃ob,ć a=À ob/\ob.dict=Æ:=by
 cases x with
 |str z=>let{t,rfl}:=r;cases(show T = íe from f);show{İh s z t,λ_ e=>nomatch e}
 |int i=>let{t,rfl}:=r;cases(show T = Ëc from f);show{ıh s i t,λ_ e=>nomatch e}
 |ref p=>
  cases r;rcases f with⟨rfl,u,k⟩|⟨rfl,o,b,m,h⟩|⟨rfl,b⟩|⟨rfl,S,n,b⟩;let{q,_,j,_}:=ϒ k;show{j.isList.typeIs,λa e=>?_};cases e;let{o,n,e,c,h,_}:=j;show{o,e,h};show{{o,ţ p o b,m},λa e=>?_};cases e;show{o,ţ _ o b,h};let z:∃o,ć p=À o/\ŀm:=by rcases b with⟨g,b⟩|⟨g,b⟩;rw[ĵo];rw[ĵo]
  let{o,e,d}:=z;rw[Ĝo];let{o,_,_,_,e,d,_}:=ĉ p _ b;rw[Ĝo]
 |_=>show Áa f
nonrec def eY(K:Ð)(T:Ÿ)(r:V->Á V->Hp->VK->È)(b:TE):TE:=λσ H Q=>b σ H λx a=>ND K T x a/\r x [] a Q
nonrec def eX(K:Ð)(T:Ÿ)(r:V->Á V->Hp->VK->È)(b:TE)(t:TA):TE:=λσ H Q=>b σ H λx a=>ND K T x a/\t σ a λc d=>r x c d Q
variable{o e:Ó}{es:Á Ó}{to:TE}{t:TA}{İ:Ç}{ϙ Ϛ:Pos}{T id:Ÿ}{r:V->Á V->Hp->VK->È}
def z7l(k:Ùf T)(c:Slot T İ id)(d:ŭf Éb=pure Ġe)(n:V4 X id r)(p:PE X o to)(b:Î ąe q12)(a:Î śa q12):PE X ŉn (eY X.K T r to):=by rw[Ćo];show ęe b a (zj Ĳg λv m e=>?_);let{x,q,f,g,j,u}:=e;let{t,l}:=fC f g j;show{T,id,k,c,d,t,l,şc rfl (ϸi (n i m σ q x [] v [] Q f g .nil u))}
def z7k(u:Ùf T)(f:Slot T İ id)(i:ŭf Éb=pure Ġe)(P:V4 X id r)(B:PE X o to)(y:PA X Ē t)(b:Î ąe q12)(g:((Çc Ϛ (όa Ē Ö)).all ėh&&(đj).all Ϸk
   && decide ((Ē).length+([]:Á Ōf).length+äj<30))=Å:=by rfl)
  (d:Î śa q12)(J:Î Ûc q12)(a:Î ((Çc Ϛ ðh).any (·.1)=Ã) q12) :
  PE X ñk (eX X.K T r to t):=by
 intro j s σ H Q I h;show wpAny_Call_method_late b g d rfl (zj (B j s σ H _ I h) λv z c=>?_);let{x,E,k,l,p,O}:=c;let{N,w}:=fC k l p;show{T,id,u,f,i,N,w,?_};let m:=y Ϛ j z σ E _ k O;rw[J]at m ⊢;refine şc (by exact(Ã||(Çc Ϛ ðh).any (·.1))=Ã;rw[a]<;>rfl) (ėk ?_);show zj m λL G c=>?_
 let{F,C,n,q,A}:=c;show P j G σ C x F v L Q n l q A
#print a
def BU(X:Cx)(a:Ÿ)(r:V->Á V->Hp->VK->È):È:=
 ∀(z8:Á î) (s:Ñ) (σ:St) (H:Hp) (x:V) (xs:Á V) (v:Value) (us:Á Value) (Q:VK),zH X z8 σ H s->zw x v->zm xs us->r x xs H Q->
  Û ù X.A źj öb ĥ s
def zm.one{x:V}{us:Á Value}(h:zm [x] us):∃u,us=[u]/\zw x u:=by cases h with|ú r t=>cases t;show{_,rfl,r}
def zm.zero:∀{us:Á Value},zm [] us->us=[]
 |_,.nil=>rfl
theorem zm.rep{xs:Á V}{us:Á Value}(h:zm xs us):∀k:Ä,zm (Ån).flatten (Ų k us).flatten
 |0=>.nil|k+1=>by rw[žb,žb,ŵc,ŵc];show ðf h (zm.rep h k)
theorem Au(its:Á Value):∀(k:Ä)(acc:Á Value),
  ϫc (λx1 x2=>x1++x2) ŉm (Ų k Ϧ)=(acc++(ŷm).flatten).toArray
 |0,acc=>by simp|k+1,acc=>by
  let e:ŉm++Ϧ=(Ōh).toArray:=by simp
  let e2:Ōh++(ŷm).flatten=acc++(Ų š its).flatten:=by rw[žb,ŵc,Ŷc]
  rw[<-e2,<-Au its k Ōh,<-e,žb,List.foldl_cons]
section
variable{X:Cx}{z8:Á î}{σ:St}{H:Hp}{s:Ñ}{l b:Í}{xs ys:Á V}
def zH.Jb{its Řa:Á Value}{n:Ä}{f:Ĝ Value->Ĝ Value}{t':Ä}(I:zH X z8 σ H s)(a:H l=À îa)(e:ć l=À { cls:=.type ę,ā:=.seq Ϧ n })(c:f Ϧ=äh)(hv:zm ys Řa)(hz:ŭ<=ã) :zH X z8 σ ąm { s with ì:=řd l (Ϫc f),ď:=t' }:=by let q:=PySem.IsL.update e f;rw[c]at q;refine ōf (x:=l) (e:=l) (by rw[a];show trivial) Ō (λg u d b=>(Żi à (Ϫc f) (ßb d)).trans b) {_,q} ?_;show{hz,Řa,_,hv,q}
def zH.Po{its:Á Value}{t':Ä}(I:zH X z8 σ H s)(hv:zm ys its)(hz:ŭ<=ã) :zH X z8 σ (zU H Þ ϕb) { s with ì:=ęa { cls:=.type ę,ā:=.seq Ϧ },ď:=t' }:=
 őa ŏe Ę {hz,its,0,hv,ų _ rfl}
theorem zH.fresh(I:zH X z8 σ H s):H Þ=Æ:=òb Ę
def zH.WT(I:zH X z8 σ H s)(a:H l=À îa):ä<=ã/\∃(its:Á Value) (n:Ä),zm xs its/\ä=Îb/\ć l=À { cls:=.type ę,ā:=.seq Ϧ n }:=by let{z,its,n,r,e}:=ĉ l _ a;show{z,its,n,r,Ŷ,e}
def Ef{n:Ä}(h:n<=ã):ġd n=Ã:=by unfold ġd;show đ É
#print a
section
variable{X:Cx}
def z9v:V->Á V->Hp->VK->È:=λx a H Q=>∃l xs y,x=.ref l/\a=[y]/\H l=À îa/\ä<ã/\Q .zE (zU H l ĝl)
def z24:BU X ύl z9v:=by intro i s σ H x m v o Q I f d h;let{l,k,y,rfl,rfl,b,g,q}:=h;cases f;let{u,rfl,c}:=d.one;let{z,a,n,r,j,e}:=I.WT b;refine Ľb F.slot_list_append {_,e,rfl} F.entry_list_append (F.args_list_append_2 _ _) (PySem.list_append l Òb n u Ŕe) {e,?_};refine{.zE,_,I.Jb (Řa:=a++[u]) b e é (įc (.cons c .nil)) ?_,rfl,q};rw[Ă,čg];omega
def z9z:V->Á V->Hp->VK->È:=λx a H Q=>∃l b xs zs,x=.ref l/\a=[.ref b]/\H l=À îa/\H b=À (.lst zs)/\ä+ţh<=ã/\Q .zE Ăm
def z27:BU X "list.extend" z9z:=by
 intro E s σ H x B v C Q I k o h;let{l,b,G,J,rfl,rfl,g,j,w,q}:=h;cases k;let{u,rfl,t}:=o.one;cases t;let{z,c,n,r,A,e}:=I.WT g;let{y,a,p,i,m,e2}:=I.WT j;let f:ōe+ώb<=ã:=by rw[ė,ė];omega
 let d:¬ Ğj=Å:=by rw[Ef f,ϖc];show Ŋ
 refine Ľb F.slot_list_extend {_,e,rfl} F.entry_list_extend (F.args_list_extend_2 _ _)
  (AutoSeq1.list_extend_list_list_0 l ôf n b Òb p d Ŕe É) {e,e2,?_}
 refine{.zE,_,I.Jb (Řa:=c++a) g e é (įc i) ?_,rfl,q};rw[Ă];omega
def z9w:V->Á V->Hp->VK->È:=λx a H Q=>∃l xs,x=.ref l/\a=[]/\H l=À îa/\Q .zE (zU H l Ēf)
def z25:BU X "list.clear" z9w:=by intro g s σ H x k v m Q I f d h;let{l,j,rfl,rfl,c,q}:=h;cases f;let a:=d.zero;subst a;let{z,b,n,r,i,e}:=I.WT c;refine Ľb F.slot_list_clear {_,e,rfl} F.entry_list_clear (F.args_list_clear_1 _) (AutoSeq1.list_clear_list_0 l Ĉa n Ŕe) {e,?_};show{.zE,_,I.Jb (Řa:=[]) (ys:=[]) c e rfl .nil ęi,rfl,q}
def y05:R2:=λx y H Q=>∃l k xs,x=.ref l/\y=.int k/\H l=À îa /\ -(2 ^ 63)<=k/\k<2 ^ 63/\ä*Ű<=ã/\
 ∀p,H p=Æ->Q Ž (ν (.lst (øm).flatten))
def bC{α:Type}(xs:Á α)(k:Ä):(Ån).flatten.length=k*ä:=by
 induction k with
 |ϛ=>simp|Ϝ k ih=>rw[žb,ŵc,Ă,ih,Nat.succ_mul,Nat.add_comm]
theorem z7b:ye X Äf y05:=by
 intro L s σ H x y v u Q I C w h;let{l,k,N,rfl,rfl,E,K,G,p,q}:=h;cases C;let{t,rfl}:=w;let{z,b,n,r,B,e}:=I.WT E;have i:ţa*Ű<=ã:=by rw[ė,<-B];show p
 let g:¬ ţa*Ű>æn/8:=by
  let:(ã:Ä)<=æn/8:=by decide
  omega
 let f:¬ (!Builtin.List.listFitsIndex k)=Å:=by rw[fitsIndex_both K G];show Ŋ
 let c:¬ ġd (ţa*Ű)=Å:=by rw[Ef i];show Ŋ
 let d:ϫc Æm #[] (Ų (if b.toArray.isEmpty=Å then 0 else Ű) Ĉa)=(Ų Ű b).flatten.toArray:=by
  let J:∀m:Ä,ϫc Æm #[] (Ų m Ĉa)=(Ų m b).flatten.toArray:=λm=>by let:=Au b m [];rw[ųe]at this;show this
  rw[J];cases b with
  |nil=>simp|ú a r'=>rw[Ô é]
 refine wpAny_binaryOp_repeat_ref (T := ę) (U := Ëc) Ì {_,e,rfl} (λA=>ıh A k t) noFill_list_mul F.fills_int_mul ēl repeat_list F.slot_int_index.lookup
  (Ľb ēl (ıh s k t) F.entry_int_rmul (F.args_int_rmul_2 _ _) (int___rmul___int_list k t l Ĉa n)
   {e,rfl,{_,e,rfl},Ľb F.slot_list_mul {_,e,rfl} F.entry_list_mul (F.args_list_mul_2 _ _) (AutoListH.list___mul___list_int_3 l Ĉa n k t f g c) {e,?_}})
 rw[d];show{.ref _,_,I.Po (t':=ĕ) (r.rep Ű) (by rw[bC,îm];show p),rfl,q _ Úd}
#print a
#print L2
namespace Att
open Ĩ ąi PySem.Calls ĭ
def sY{P:Ŷf}{h:Heap}:∀(ns:Á Â)(vs:Á Value),WellAll P h vs çc->Ác vs ns:=by
 intro ns
 induction ns with
 |nil=>intro vs w;rw[ţd]at w;cases w;show .nil|ú n ns ih=>
  intro vs w;rw[Ť]at w;cases w with
  |ú a b=>cases a;show .cons _ _ (ih _ b)
def script_of{l:OpenLaw}{n:Ä}(o:Łi=À n){P:Ŷf}{h:Heap}{ϝ:Á WData}{c:Á Value}(b:l.row.toRowW.claim.pre ϝ=Å)(j:WellAll P h c ϝ) :∃a vs ns,c=[ą a]/\ϝ=[WData.list çc]/\Ğ a=À { cls:=.type ę,ā:=.seq Ũa }/\Ác vs ns/\ϡ<=n:=by
 let i:WShape.hasAll [] ϝ [.list .int]=Å:=űl.1;let k:l.pre.holds [] { ϝ:=ϝ }=Å:=űl.2;let{d,r,rfl,t,p}:=hasAllW_cons i;obtain rfl:=hasAllW_nil p;let{u,rfl,s}:=hasW_list t;let{ns,rfl}:=items_int s
 let e:ϡ<=n:=by
  unfold OpenLaw.pre at k
  let g:(WTm.not (.lt (.lit ċc) (.len (.arg 0)))).holds [] { ϝ:=[.list (ųa .int)] }=Å:=by let g:=(holds_andW k).1;rw[o]at g;show g
  let f:=condW_of g (w_not (w_lt w_lit (w_len_list (w_arg rfl))));rw[æ]at f;show Nat.le_of_not_lt λq=>?_
  let m:(n:Â)<((ϡ:Ä):Â):=by omega
  first
   |(rw[å m]at f;show ß f Ì)
   |(simp at f;omega)
 cases j with
 |ú w1 w2=>
  cases w2;cases w1 with
  |list ho hall=>show{_,_,ns,rfl,rfl,ho,sY ns _ hall,e}
def post_true(l:OpenLaw)(ϝ:Á WData):l.row.toRowW.claim.post ϝ Îf ϝ=Å:=
 postW_of (r:=ãh) (X:=Çn)
  (show ϯm [] Îf .bool=Å by first|rfl|decide|simp[ϯm,WShape.arms,WShape.armsAll])
  (show(WTm.eq .res (.lit Îf)).value [] { ϝ:=ϝ,res:=À Îf,after:=ϝ }=À (.bool Çn)from w_eq_bool (w_res rfl) w_lit) rfl
#print Att
namespace L2
open Ĩ ĺ ĭ
theorem fK:∀{vs:Á Value}{ns:Á Â},Ác vs ns->zm ëa vs
 |_,_,.nil=>.nil|_,_,.cons n t h=>.cons {t,rfl} (fK h)
def SV(H:Hp):È:=∀b,H b=Æ\/∃o xs,H b=À Ϡm
def z0t{P:ï}{w:è}{K:Ð}{G R:Ç->Ê Value}{CX:jf}{k:Ä}{U a:Í}{Z:ŀ}{x:Ç}{sp:Sp}{c:Ñ}{vs:Á Value}{ns:Á Â}(KX:Ţ ód)(y:ũh ē G)(g:ũh Ĵh R)(S:∀x:Ç,x ≠ Ĭh->R x=ş x)(J:c.heap.NoLimit)(hg:c.gens=#[])(L:ϣc a=À { cls:=.type ę,ā:=.seq Ũa })(hi:Ác vs ns)(Y:ϡ<=ã)(hr:ym k Öd)(F:∀Ë:Heap,Ţ Ë->Ød ē G->xO P w K G Ë CX k U Z [x] sp)(l:∀(s:Ñ)(u:Value),Ŝb s Z {[u],[]} [(x,u)])(Q:∀H:Hp,SV H->yh K H a ëa->sp âa H ůk λ_ _ _=>ê)(N:∀H e s',CX [] H c (λ_ _ _=>ê) e s'->ê) :Ϥa Ćb Öd ϥj όi c:=by
 let rv:=fK hi;let p:=hi.length
 have j:∀H:Hp,SV H->yh K H a ëa->xm P w H ód->(∀b,H b≠Æ->b=a)->(H a≠Æ->Ϗ a=Æ)->
   Ϥa Ćb Öd ϥj όi c:=by
  intro H hO hS X hA hK;let f:∀{b:Í}{o:Obj},ϣc b=À o->H b=Æ->(Şd).get? b=À o:=λe n=>sK e n
  let T:∀{b:Í}{o:Obj}{A:Ĝ ċb}{t:Ä},ϣc b=À o->Īa=.dict A t->H b=Æ:=λ{b o A t} e d=>by
   cases q:H b with
   |Æ=>rfl|À u=>have O:b=a:=hA b ŵg;subst O;rw[L]at e;cases e;let d':Data.seq Ũa _=Data.dict A t:=d;cases d'
  let i:∀{b:Í}{m:Ç->Ê Value},ũh b m->(Şd).Ns b m:=λ{b m} ⟨o,A,t,e,d,r⟩=>{o,A,t,f e (T e d),d,r}
  let C:Ţ Şd:=λb o e=>f (KX b o e) (by
   cases q:H b with
   |Æ=>rfl|À u=>have O:b=a:=hA b ŵg;subst O;rw[hK ŵg]at e;cases e)
  let hM:Mod K G Şd:={C,i y,{R,i g,S},let ⟨mc,h1,h2⟩:=J;{mc,i h1,h2}};let e0:Yu P w K G Şd Öd [] c H:={rfl,hM,λb o e=>z4a e,ϗc (sL _ _),trivial,λb g=>ß (show b∈([]:Á Í)from g) é,X,.of_eq hg};show ŋe ((F _ C (i y)).run Öd [] c H {âa,[]} âa âa _ _ hr e0 (l c ś) ýl (Q H hO hS)) λr s' h=>?_
  cases r with
  |error e=>show(N H e s' h).elim|ok fl=>
   cases fl with
   |next=>show Áa h|brk=>show Áa h|Ĭb=>show Áa h|ret u=>
    let{v,H',os,I,un,B,r',q}:=h;let q':v=.bl Å:=q;subst q';obtain rfl:u=Øf Å:=r';show{rfl,OldK.of_keep λb o e=>?_,os,I};cases q:H b with
    |Æ=>show un.keep b o e q (by intro z;show ß (show b∈([]:Á Í)from z) é) é|À u=>
     rcases hO b with z|⟨ob,xs,z⟩
     .rw[q]at z;cases z
     .let z2:=un.uy b ob _ z;let{e1,_}:=X b _ z;let{e2,_}:=B b _ z2;rw[e]at e1;cases e1;show e2
 cases hk:Ϗ a with
 |À o=>have e:=KX a o hk;rw[L]at e;cases e;refine j Ïb (λ_=>.inl rfl) (.inr {_,Ũa,_,hk,rfl,rfl,rfl,by rw[ė,p];show Y,by simpa using rv}) (λb u z=>by let E:(Æ:Ê HO)=À u:=z;cases E) (λb z=>ß rfl z) λz=>ß rfl z|Æ=>show j (λb=>if b=a then À (.yD { cls:=.type ę,ā:=.seq Ũa } (.lst ëa))else Æ) (λb=>?_) (.inl (.inr {{ cls:=.type ę,ā:=.seq Ũa },Ò rfl})) (λb u z=>?_) (λb z=>?_) λ_=>hk;by_cases g:b=a;show .inr {_,_,Ò g};show .inl Ği;by_cases g:b=a;let E:=(Ò g).symm.trans z;cases E;subst g;show{L,by rw[æ];show Y,vs,_,rv,L};let E:=(Ği).symm.trans z;cases E;by_cases g:b=a;show g;show ß Ği z
nonrec def jT(s:Ù)(j:Ä):Ù:=match s with
 |.ClassDef _ _ _ Öc _ _ _ _ _ _ _=>body.getD j Íl|_=>.Pass {0,0,0,0}
nonrec def py(s:Ù):Ģn:=match s with
 |.FunctionDef _ a _ _ _ _ _ _ _ _=>a|_=>{ posonlyargs:=[],ϝ:=[],vararg:=Æ,kwonlyargs:=[],kw_defaults:=[],kwarg:=Æ,defaults:=[] }
nonrec def vF(s:Ù):Á Ù:=match s with
 |.FunctionDef _ _ b _ _ _ _ _ _ _=>b|_=>[]
nonrec def za(s:Ù):Óa:=match s with
 |.FunctionDef _ _ _ _ _ _ sc _ _ _=>sc|_=>{ kind:=.function,ϖf:=[],isGenerator:=Ã,isCoroutine:=Ã }
abbrev xK:jf:=λ_ _ _ _ _ _=>ê
abbrev E0:XK:=λ_ _ _=>ê
def YI{X:Cx}:XE xK X E0:=λ_ _ _ _ _ _ _ h=>Ńi
structure Fun(K:Ð)(x qual:Ç)(st:Ù)(f:Í)(fd:ŀ):È where
 ex:∃(oc:Value) (od:Ê Í) (kV doc pm:Value) (an:Ê Í) (cdv ct:Value) (osl:Ĝ ŧa),
  fd=łc x qual æd ϵ ņ .none kV doc pm an cdv ct/\Ϗ f=À {oc,od,.func fd,osl}/\ĕb K cdv qual=Å
 kp:áa K Ļ=Å
section
variable{P:ï}{w:è}{K:Ð}{mg:Ç->Ê Value}{Ë:Heap}
def Fun.ok{x a:Ç}{st:Ù}{f:Í}{i:ŀ}{N ps:Á Ç}{k:Ä}{sp:Sp}(F:Fun K x a st f i)(S:zi N ps ņ)(d:∀vs H Q E,sp vs H Q E->ö=ü)(c:∀(b:Value)(A:Ā)(þ:Á Env)(s:Ñ)(H:Hp)(vs:Á V)(Q:VK)(E:XK),ym k Ϝj->sp vs H Q E->
   ∃t,uf (Øj).tW ϵ t/\t { nx:=λ_ H'=>Q .zE H',rt:=Q } ėc H):xO P w K mg Ë xK š f i ps sp:=by
 let{v,r,kV,m,o,p,b,u,l,rfl,j,g}:=F.ex;show As j g S d λA þ s H vs Q E n e=>?_
 rw[Ġo]
def Fun.binds{x a:Ç}{st:Ù}{f:Í}{g:ŀ}{ps:Á Ç}(F:Fun K x a st f g)(h:∀(kV c d:Value)(e:Ê Í)(b ct:Value)(us:Á Value),Ś=ü->ğf (łc x a æd ϵ ņ .none kV c d e b ct) {us,[]}=pure Ϡb):uQ K g ps []:=by let{m,l,kV,c,d,e,b,ct,i,rfl,k,j}:=F.ex;show .all (h kV c d e b ct)
def Az{x a:Ç}{st:Ù}{f:Í}{i:Value}{j h:Ê Í}{e:Ĝ ŧa}{kV d g b ct:Value}(l:Ϗ f=À {i,j,.func Äj,e})(c:ĕb K b a=Å)(k:áa K Ļ=Å):Fun K x a st f Äj:={{i,j,kV,d,g,h,b,ct,e,rfl,l,c},k}
#print a
def zI{A:Ā}{k:Ä}(a:ym k A):ča+1<Ū:=ĭg (Ļk (by decide:1<=64) _) a.units
def y35{n:Ä}(h:n<=1000):n<ã:=ĭg h Ì
def gv{A B:È}(h:B):if Ã=Å then A else B:=by rw[Ô Ŋ];show h
def gw{A B:È}(h:A):if Å=Å then A else B:=by rw[Ò rfl];show h
def zh(H H':Hp):È:=∀b o,H b=À o->H' b=À o
def ĝa(H:Hp):zh H H:=λ_ _ h=>h
def zh.trans{H e d:Hp}(a:zh H e)(b:zh e d):zh H d:=λc o h=>b c o (a c o h)
def zh.free{H H':Hp}(e:zh H H'){l:Í}(h:H' l=œm):H l=œm:=by
 cases q:H l with
 |Æ=>rfl|À o=>rw[e l o q]at h;cases h
#print L2
set_option linter.all false
set_option maxRecDepth 100000
set_option maxHeartbeats 4000000
namespace L2
open Ĩ ĺ ĭ
def Def(K:Ð)(a:Ç->Ê Value)(x:Ç)(st:Ù)(ps:Á Ç):È:=
 ∃(f:Í) (fd:ŀ),Fun K x x st f fd/\a x=À Ļ/\uQ K fd ps []
def wH(P:ï)(w:è)(K:Ð)(b:Ç->Ê Value)(a:Heap)(x:Ç)(ps:Á Ç)(k:Ä)(sp:Sp):È:=
 ∃(f:Í) (fd:ŀ),b x=À Ļ/\áa K Ļ=Å/\uQ K fd ps []/\xO P w K b a xK k f fd ps sp
def wd(a:Ç->Ê Value)(x:Ç)(v:V):È:=∃u,a x=À u/\zw v u
section
variable{P:ï}{w:è}{K:Ð}{mg:Ç->Ê Value}{Ë:Heap}
theorem Def.ok{x:Ç}{st:Ù}{N ps:Á Ç}{k:Ä}{sp:Sp}(d:Def K mg x st ps)(S:zi N ps ņ)(c:∀vs H Q E,sp vs H Q E->ö=ü)(a:∀(f:Í)(b:Value)(A:Ā)(þ:Á Env)(s:Ñ)(H:Hp)(vs:Á V)(Q:VK)(E:XK),ym k (Ìb (Ϟa x ņ Þ f b))->sp vs H Q E->
   ∃t,uf (tD xK P w K mg Ë N x ņ f b A þ s H E).tW ϵ t/\t { nx:=λ_ H'=>Q .zE H',rt:=Q } ėc H):wH P w K mg Ë x ps š sp:=by
 let{f,g,F,h,e}:=d;show{f,g,h,F.kp,e,Ϙ S c (a f)}
#print a
section
variable{X:Cx}{x:Ç}{p pos:Pos}{e:Ó}{es:Á Ó}{t:TA}{ps:Á Ç}{j k:Ä}{sp:Sp}{v:V}{T:Ÿ}
nonrec def yx:Ó->Ï
 |.Starred ..=>Ã|_=>Å
def tQ{e:Ó}{es:Á Ó}{env:Env}(h:yx e=Å):όa Ē env=(Ã,ċ e env)::όa es env:=by cases e<;>first|rfl|cases h
theorem kK{env:Env}{pos:Pos}:∀{es:Á Ó},es.all yx=Å->(Ŭk).any (·.1)=Ã
 | [],_=>rfl|e::es,h=>by rw[ř,ø]at h;rw[tQ h.1];let a:=kK (env:=env) (pos:=pos) h.2;unfold Çc at a ⊢;rw[Ť,ϙc,a];rfl
def qf{a:TE}(b:PE X e a)(c:PA X es t)(h:Î ϳ q12):PA X Ē (U9 a t):=br b c (tQ h)
nonrec def Jt:Ó->Ê Â
 |.Constant Ϩ _ _=>À i|_=>Æ
def l7{e:Ó}{i:Â}(h:Jt e=À i):∃k p,e=.Constant Ϩ k p:=by
 cases e<;>first|(cases h;done)|skip
 rename_i c k p;cases c<;>first|(cases h;done)|skip
 cases h;show{k,p,rfl}
def Ųa:Á Ó->Ê Ćf
 | []=>À []|e::r=>(Jt e).bind λi=>(Đi).map (i::·)
theorem bu:∀{es:Á Ó}{is:Á Â},Ųa es=À is->PA X es (λ_ H Q=>Q (is.map Ŏc) H)
 | [],is,h=>by cases(show À []=À is from h);show g8|e::r,is,h=>by
  let q:((Jt e).bind λi=>(Đi).map (i::·))=À is:=h;cases e1:Jt e with
  |Æ=>rw[e1]at q;cases q|À i=>
   rw[e1]at q;let{k,p,rfl}:=l7 e1;cases e2:Ųa r with
   |Æ=>rw[e2]at q;cases q|À js=>rw[e2]at q;cases(show À (i::js)=À is from q);show qf Ev (bu e2)
def Ew(h:wH ò X.w X.K ñ Œ x ps k sp)(i:ym j X.A)(d:Gl X x)(g:PA X Ē t)(hk:Î Ťb q10)(a:Î Ģ q10)(c:Î êa q12):PE X ŝa Ļl:=by let{f,n,m,l,b,F}:=h;rw[ř,ø]at c;show z7n F (i.mono hk) d m l b .nil YI g a (tQ c.1) (kK c.2)
def X_(h:wd ñ x v)(b:Gl X x)(a:Î Ģ q10):PE X ϻ èe:=by let{u,c,r}:=h;show z7w b c r a
def z7m(b:Gl X x)(d:ñ x=Æ)(hv:ş x=À Ôb)(a:Î Ša q10)(c:Î Ģ q10):PE X ϻ đm:=
 z7j b d hv rfl a c
#print a
section
variable{X:Cx}
def kA:ye X (Ŧa .FloorDiv) Ģj:=Vm λi j _ _ _ _ _ a q=>by let d:(0:Â)<j:=a.1;let b:j<2 ^ 64:=a.2;let c:j.natAbs.log2<64:=(ĸn).mpr É;show PyProof.Rows.floordiv_int É (by rw[ϊj i É];show q) (.inl (PyProof.noPylong_of_log2 É))
#print a
def t8:ş "len"=À ůe:=by rw[Ço]
def lY:ş Āc=À Ϣg:=by rw[Ço]
def AE:ş "sum"=À þl:=by rw[Ço]
def lX:ş "all"=À ÿl:=by rw[Ço]
def AC:ş Ϭa=À ϡg:=by rw[Ço]
def IE:ş Ëc=À Ła:=by rw[Ço]
def lV:ş Ôe=À Ťa:=by rw[Ço]
def Tl:ş ę=À Àa:=by rw[Ço]
def Tn:ş ż=À ńa:=by rw[Ço]
def z0j{K:Ð}:ŕ K Ła Ła=À Å:=by rfl
def z0h{K:Ð}:ŕ K Ťa Ła=À Å:=by kernel_rfl
def z0i{K:Ð}:ŕ K Ła Ťa=À Ã:=by kernel_rfl
def z0g{K:Ð}:ŕ K Ťa Ťa=À Å:=by rfl
def z0l{K:Ð}:ŕ K Ŵc Ła=À Ã:=by kernel_rfl
def z0k{K:Ð}:ŕ K Ŵc Ťa=À Ã:=by kernel_rfl
def z0n{K:Ð}:ŕ K ńa ńa=À Å:=by rfl
def z0m{K:Ð}:ŕ K ώa ώa=À Å:=by rfl
def wY{H:Hp}{p:Í}(h:H p=Æ)(o:HO):zh H ģc:=λb u q=>by rw[zt (tH q h)];show q
def İa{n:Ä}(h:n<=1000):n<=ã:=ńb (y35 h)
def Zk(env:Env):Á ϙa->È
 | []=>ĭb|p::r=>Ŋg p.1=À p.2/\Zk env r
theorem Zk.get{env:Env}:∀{cl:Á ϙa} {y:Ç} {c:Í},Zk env cl->ύd y=À c->Ŋg y=À c
 | [],_,_,_,h=>by cases h|(n,a)::r,y,c,hc,h=>by
  rw[Ňd]at h;cases e:y==n with
  |Å=>
   rw[e]at h;let b:y=n:=by rw[Şo]
   subst b;let d:a=c:=by rw[ŝo]
   subst d;show hc.1
  |Ã=>rw[e]at h;show Zk.get hc.2 Áb
nonrec def VE(a:Óa)(env:Env)(cl:Á ϙa)(own:Á Ç):Ï:=
 Ċh λp=>p.1 != ("." : Ç)&&((p.2 == .local&&(ϥe p.1||p.1==(".0" : Ç)))||p.2 == .globalImplicit||p.2 == .globalExplicit ||
  (p.2 == .free&&(Ġc p.1==À .cell||Ġc p.1==À .free)&&(ύd p.1).isSome))
nonrec def ŭb(own:Á Ç)(y:Ç):Ç:=if ϥe y||y==(".0" : Ç)then "." else y
def wu(N own:Á Ç):Á Ç:=N.map (ŭb own)++own
theorem GY{env:Env}:∀{ϖf:Á (Ç×ϲb)} {y:Ç} {k:ϲb},
  (names.map λ(n,k)=>if(k==ϛl&&Ŕl == .function&&Ġc n==À .cell)then(n,Ϝl)else(n,k)).lookup y=À k->∃k0,(y,k0)∈ϖf/\(k=k0\/(k0=.free/\k=.cell))
 | [],_,_,h=>by simp at h|(n,k')::r,y,k,h=>by
  rw[Ť]at h;by_cases hc:(k'==ϛl&&Ŕl == .function&&Ġc n==À .cell)=Å;dsimp only at h;rw[Ò hc,Ňd]at h;cases e:y==n with
  |Å=>
   rw[Ϟo]
   subst a;let b:Ϝl=k:=by rw[ŝo]
   let c:k'=.free:=by rw[ø,ø]at hc;simpa using hc.1.1
   show{k',ŉ,.inr {c,b.symm}}
  |Ã=>rw[e]at h;let{k0,m,z}:=GY (env:=env) Áb;show{k0,Õa _ m,z}
  dsimp only at h;rw[Ô hc,Ňd]at h;cases e:y==n with
  |Å=>
   rw[Ϟo]
   subst a;let b:k'=k:=by rw[ŝo]
   show{k',ŉ,.inl b.symm}
  |Ã=>rw[e]at h;let{k0,m,z}:=GY (env:=env) Áb;show{k0,Õa _ m,z}
def wT(X:Cx)(a:Óa)(cl:Á ϙa)(own:Á Ç)(C:Í)(b:Ñ)(d:Hp)(c:Á Í)(pn:Á î):Cx:=
 { X with N:=wu X.N own,s₀:=b,H₀:=d,env:=compEnvC a cl C Ö,þ:=ĥa,stack:=ĥa,ex:=c,fn:=λ_=>Ã,pn:=pn,xe:=λ_ _=>ê }
section
variable{X:Cx}{z8:Á î}{σ:St}{H2:Hp}{s2:Ñ}{ň:Óa}{cl:Á ϙa}{own:Á Ç}{C D:Í}{fp:Á Í}
def A5(f:VE ň Ö cl own=Å){y:Ç}{k:ϲb}(h:(Ņd).names.lookup y=À k) :y ≠ "."/\((k=.local->ϥe y=Å\/y = ".0")/\((k=.cell\/k=.free)->(∃k0,(y,k0)∈ϡc/\k0=.cell)\/(ģj/\∃c,ύd y=À c))):=by
 let{k0,m,z}:=GY h;let q:=Ĺa f _ m;rw[ø]at q;let{g,e}:=q;refine{by simpa using g,λa=>?_,λa=>?_};rcases z with z|⟨_,z⟩;subst z;subst a;rw[Şo];rw[z]at a;cases a;let b:k0=.free\/k0=.cell:=by rcases z with z|⟨z,_⟩;subst z;rcases a with a|a;show .inr a;show .inl a;rw[ło]
 rcases b with b|b;subst b
 right
 let d:((Ăc y==À .cell||Ăc y==À .free)&&(ύd y).isSome)=Å:=by rw[Şo]
 rw[ø]at d;show{?_,ŭj d.2};let:=d.1;rw[Bool.or_eq_true]at this;rcases this with t|t;show .inl żk;show .inr żk;show .inl {k0,m,b}
def Dp(b:VE ň Ö cl own=Å)(a:∀y∈ϡc,y.2≠.cell){y:Ç}{k:ϲb}(h:(Ņd).names.lookup y=À k)(hk:k=.cell\/k=.free) :ģj/\∃c,ύd y=À c:=by rcases(A5 b h).2.2 hk with⟨d,m,e⟩|q;show ß e (a _ m);show q
def A6(I:zH X z8 σ H2 s2)(hk:Ĳh=.function)(f:∀y∈ϡc,y.2≠.cell)(d:Zk Ö cl)(j:VE ň Ö cl own=Å)(k:ŗe<=C)(g:∀b∈fp,jH X z8 H2 b)(i:∀b∈fp,∃o,âh b=À o):(ój).Ok where
 mod:=Ϸh
 kind:=hk
 glob:=I.ok.glob
 blt:=I.ok.blt
 above:=k
 inj:=λx y c n m=>I.ok.inj x y c (d.get n) (d.get m)
 has:=λx a=>by rcases a with a|a;show(Dp j f (show(Ņd).names.lookup x=_ from a) Ō).2;show(Dp j f (show(Ņd).names.lookup x=_ from a) ĉb).2
 WP:=λx c h=>by cases h
 hd:=ġa
 ńi:=Řm
 Ul:=.inl rfl
 Uf:=λb a=>{by let{o,e}:=i b a;show Êa (Ŵ Ϯb k),λx c h=>ĭi.2.2.2.2.1 x c (d.get h)}
 bs:=I.bs
 gN:=Ĵ Ŏf I.sz
 WW:=λb o e a=>by rcases(g b a).2.2.2.1 with z|z;show I.ok.WW b o e z;show ß (Ŵ Ϯb (Ĵ Ŏf z)) Ϸ
 WQ:=λb a l=>by rcases ŋ (I.Um b l)with z|z;show ĭi.2.1 z;show ĭi.2.2.1 z
 pR:=I.stack
 Zc:=I.Pu
def Iz{α:Type}{σ:Á (Ê α)}{n i:Ä}{v:α}(h:ūg[i]?=À ŧ):σ[i]?=À ŧ:=by
 by_cases hi:i<σ.length;rw[éb hi]at h;show h;rw[âc É,Êk]at h
 split at h<;>cases h
def lS{J:Heap}{m0:Ç->Ê Value}{j:Obj}{tk:Ä}(I:zH X z8 σ H2 s2)(hk:Ĳh=.function)(q:∀y∈ϡc,y.2≠.cell)(g:Zk Ö cl)(Q:VE ň Ö cl own=Å)(U:ŗe<=C)(Y:ŗe<=D)(T:D≠C)(P:∀b∈fp,jH X z8 H2 b)(S:∀b∈fp,∃o,âh b=À o)(f:∀b o,âh b=À o->Ÿf b=À o)(ns:J.Ns C m0)(hd:Ÿf D=À j)(L:∀v,j.data≠.cell v) :zH ój [(D,j)] Ÿc H2 { s2 with ì:=J,ď:=tk }:=by
 let W:∀a,ŗe<=a->a ∉ j3 ĥa:=λa Z K=>by rcases ŋ (I.Um a K)with z|z;show ß (Ŵ I.lt Z) (by rw[z];show ſa _);show I.Pq Z z
 show{A6 I hk q g Q U P S,rfl,ŵa,Èe f,{m0,ns,λi y v e1 e2 e3=>?_},λx c h=>?_,òb U,λx c h=>Įb x c (Ϙf h),λp hp=>?_,ġn f,?_};let G:σ[i]?=À ŧ:=Iz e2
 let hi:i<ô:=by let:=(Ł G).1;rw[åb]at this;show this
 let s:ϣj[i]?=À y:=e1;rw[éb (by simpa using hi),Ş]at s;cases en:X.N[i]? with
 |Æ=>rw[en]at s;cases s|À n=>
  rw[en]at s;let F:ŭb own n=y:=āa s
  let vis:∃k,(Ņd).names.lookup y=À k/\(k=.local\/k=.cell\/k=.free):=by rcases e3 with z|z|z;show{_,z,.inl rfl};show{_,z,.inr Ō};show{_,z,.inr ĉb}
  let{k,H,kk}:=vis;let{nd,O,_}:=A5 Q H;unfold ŭb at F;by_cases B:(ϥe n||n==(".0" : Ç))=Å;rw[Ò B]at F;show ß F.symm nd;rw[Ô B]at F;subst F
  let A:k=.cell\/k=.free:=by
   rcases kk with z|z;exfalso
   apply B;rcases O z with t|t;rw[t];rfl;subst t;simp;show z
  let{ok,c,hc}:=Dp Q q H A;let{m,hn,hl}:=èa;let{u,r,l}:=hl i n v en G (.inr ok);show{u,r,.inr {?_,c,hc,?_}};rcases A with z|z;subst z;show .inl H;subst z;show .inr H;rcases l with⟨z,_⟩|⟨_,c',E,z⟩;rcases ok with t|t<;>(rw[t]at z;cases z);rw[Ϙf hc]at E;cases E;let{o,R,w}:=z;show{o,f _ _ R,w}
 let{v,o,B,w}:=īa x c (Ϙf h);show{v,o,f _ _ B,w};rcases Àb hp with z|z;let{e,n,ne,nf,d}:=ıa p z;show{f _ _ e,n,Êa (Ŵ Ϯb U),λK=>?_,d};rcases ŋ (I.Um p.1 K)with t|t;show ne t;show nf t;let e:p=(D,j):=by simpa using z
 subst e;show{hd,òb Y,T,W D Y,L};exact(Ÿc).length=(ϣj).length;rw[Ă,Ă,żb,æ,åb]
#print a
def XD(X:Cx)(a:Á Ó)(b:TT):È:=
 ∀(z8:Á î) (s:Ñ) (σ:St) (H:Hp) (Q:Ï->Hp->È),zH X z8 σ H s->b σ H Q->
  Û ù X.A (forIn a Å λc r=>if r=Å then do let ok <-ðd c Ö (ċ c Ö);pure (ľd ok)else pure (ľd r)) ϟg ĥ s
nonrec def y4r:TT:=λ_ H Q=>Q Å H
def z97{X:Cx}:XD X [] y4r:=λ_ _ _ H _ I h=>wpAny_tests_nil {H,I,h}
def z98{X:Cx}{c:Ó}{t:TT}(h:PT X c t):XD X [c] t:=λa s σ H Q I q=>wpAny_tests_one (h a s σ H Q I q)
section
variable{ı:ï}{w:è}{A:Ā}{R:Ńc->Ñ->È}{s:Ñ}
def z10{f tg b:Ó}{g:Á Ó}{a:Óa}{pos:Pos}{it d:Value}{env:Env}(J:Ä->Ñ->È)(j:∀n s,J n s->Û ĳ A (Ņf it) (λr s₁=>match r with
   |Æ=>R Ϥm s₁|À v=>Û ĳ A (Łe tg it v) (λ_ z=>Û ĳ A (ůa tg env v) (λ_ s₂=>
    Û ĳ A (forIn g Å λc r=>if r=Å then do let ok <-ðd c env (ċ c env);pure (ľd ok)else pure (ľd r)) (λok s₃=>
     if ok=Å then Û ĳ A (ċ f env) (λx s₄=>Û ĳ A (ża (.builtin ύl) [d,x]) (λ_ s₅=>∃m,m<n/\J m s₅) ϖb s₄) ϖb s₃
     else ∃m,m<n/\J m s₃) ϖb s₂) ϖb z) ϖb s₁) ϖb s)
  (n:Ä)(h:J n s):Ϥa ĳ A (.compLoop Ķj 0 it d env) R s:=by
 let i:∀{P:Value->Ñ->È},∀e s',(λ_ _=>ê:Value->Ñ->È) e s'->P e s':=λ_ _ z=>ģ
 show codeAny_loop rfl J (λn s u=>?_) n h;exact Û _ A (Sem.onRaise (compTurn Ķj 0 it d env) (λx=>do noteFrame x env;theTreesLotGoes x)) _ _ s;show wpAny_noted ?_;rw[compTurn_list];show Ø (łe (Ø (ýa (j n s u) (λr s₁ l=>?_) i)));cases r with
 |Æ=>show Đ l|À v=>
  show Ø (ýa l (λ_ z p=>?_) i);show Ø (ýa p (λ_ s₂ q=>?_) i);show Ø (ýa q (λok s₃ k=>?_) i);cases ok with
  |Ã=>show Đ {rfl,k}|Å=>
   show Ø (Ø (ýa k (λx s₄ t=>?_) i));show Ø (ýa t (λ_ s₅ o=>Đ (Đ {rfl,o})) i)
#print a
abbrev v_(its:Á Value)(k:Ä):Obj:={ cls:=.type ę,ā:=.seq Ϧ k }
def bE{its:Á Value}{k:Ä}:∀v,(Ôn).data≠.cell v:=λ_ z=>nomatch z
section
variable{X:Cx}{σ:St}{H:Hp}{s:Ñ}{D:Í}
def si{pl:Á î}{its Řa:Á Value}{k g tk:Ä}{h':Heap}(I:zH X ((D,v_ its k)::pl) σ H s)(j:Ŵb<=D)(f:∀p∈ůb,p.1≠D)(w:ÿb D à h')(A:Ĕ D=À (v_ Řa g)):zH X [(D,v_ Řa g)] σ H { s with ì:=h',ď:=tk }:=by
 let{e,n,h,l,d}:=ıa (D,v_ its k) ųm;let r:zH X [] σ H s:=I.Uk λp a=>ß a é
 let t:zH X [] σ H { s with ì:=h',ď:=tk }:=r.turned (it:=D) (λb o m q=>(w.2 b m).trans q) n h (.inr j) (λx c u z=>by subst z;let{v,o,i,y}:=īa x c u;rw[show ć c=À Ôn from e]at i;cases i;show d v y) (λp a=>f p Œe)
 show t.Uk λp a=>by
  let q:p=(D,v_ Řa g):=by simpa using a
  subst q;show{A,n,h,l,bE}
#print a
section
variable{X:Cx}{tg ű elt:Ó}{ifs:Á Ó}{ň:Óa}{cl:Á ϙa}{own:Á Ç}{pos:Pos}{te:TE}{tc:TT}{g:TG}{wi:TI}
def y99{fs ex:Á Í}{H H':Hp}{h h':Heap}{D:Í}{o:HO}(u:Un fs ex H H' h h')(f:ϐa<=D)(d:H' D=Æ):Un fs ex H źm h h' where
 đa:=Öe
 slot:=ūf
 free:=λb c q n i=>by rw[zt (λz=>by subst z;show ß (Ŵ ŕf f) Ϸ)];show Ŭf b c q n i
 ϓf:=Ńf
 tX:=λb e q=>by rw[zt ŋk];show u.tX b e q
 uy:=λb c v q=>by rw[zt Ăk];show u.uy b c v q
 qp:=λb g q=>by rw[ēo]
def aX{P:ï}{w:è}{H:Hp}{h:Heap}{D:Í}{o:HO}(x:xm P w H h)(d:H D=Æ)(a:xU P w Ìn h D o):xm P w Ìn h:=λb u e=>by by_cases hb:b=D;subst hb;rw[yL]at e;cases e;show a;rw[zt hb]at e;show(ϕh).Ze (λc v _ q=>q) (λc q=>?_) (λc f q=>?_);rw[zt (tH q d)];show q;rw[zt (tH q d)];show q
structure Zj(X:Cx)(ň:Óa)(cl:Á ϙa)(own:Á Ç):È where
 kind:Ĳh=.function
 Ēa:∀y∈ϡc,y.2≠.cell
 JY:Zk Ö cl
 ok:VE ň Ö cl own=Å
 JZ:ϭm ň Ö=pure cl
 ϖf:∀y∈ϡc,y.2=.local->scope.names.lookup y.1=À .local
structure Jj(X:Cx)(z8:Á î)(H:Hp)(s:Ñ)(C:Í):È where
 free:H C=Æ
 ne:C≠ϟ
 old:Ŵb<=C
 Ēa:∀x c,ûa x=À c->c≠C
 pin:∀p∈ůb++z8,p.1≠C
def OS(σ:St)(n:Ä)(J:It)(g:TG)(tc:TT)(te:TE)(W:Ä->Ä->Á V->Hp->È)(a:Á V->Hp->È):È:=
 ∀i m ys H,W i m ys H->(ŷf i H/\a ys H)\/(J.go i H/\ŭ<ã/\∃N:Á V->Hp->È,(∀ys' H',N ys' H'->∃m',m'<m/\W õ m' ys' H')/\
  ∀x H',J.ud i H x H'->g x ūg H' λσ2 e=>(∃τ,σ2=σ++τ)/\tc σ2 e λc b=>if c=Å then te σ2 b λy d=>N (ys++[y]) d else N ys b)
def A7{z8:Á î}{σ:St}{H2:Hp}{m:Ñ}{l:Á Í}{it:Í}{tn:Ä->Heap->È}{J:It}{W:Ä->Ä->Á V->Hp->È}{Fin:Á V->Hp->È}{m0:Ä}{RR:Value->Í->Ńc->Ñ->È}(U:Š=Å)(B:Zj X ň cl own)(I:zH X z8 σ H2 m)(T:gb ò X.w X.K tg J l it tn)(t0:tn 0 m.heap)(G:∀b∈l,jH X z8 H2 b)(hg:∀C s H l pn,PG ßg tg g)(hc:∀C s H l pn,XD ßg ifs tc)(he:∀C s H l pn,PE ßg elt te)(W0:W 0 m0 [] H2)(turn:OS σ ëb J g tc te W Fin)(hRR:∀D C s' H' ys m',zH X z8 σ Êm s'->H' D=Æ->Fin ys H'->s'.heap.Ns C m'->Jj X z8 Êm s' C->RR íi C Ϥm s'){E:Value->Ñ->È} :Û ù X.A Ėm (λacc s3=>Û ù X.A (newFunctionEnv ň ϰg cl [] X.env.qual Æ .none (À Ö)) (λcenv s4=>
   Ϥa ù X.A (.compStart ϱa 0 ϓa acc { cenv with ň:=relabel ň Ö }) (RR acc cenv.locals) s4) E s3) E m:=by
 refine ác (wpAny_newFunctionEnv Ŗi (by intro y hy;simp at hy) (λh4 hns R=>?_) âe);dsimp only at hns R ⊢;generalize hP:m.heap.push ŷn=P2 at hns R ⊢;have hC:Ϧe=úc+1:=by rw[<-hP,ób]
 let S:úc≠Ϧe:=by rw[hC];show Êa Íe
 let f:úc<=Ϧe:=by rw[hC];show όe _
 let Y:∀b o,Łm b=À o->h4.get? b=À o:=λb o e=>
  R.extBut b o (Êa Ŷm) (ğ _ (hP▸ğ _ e))
 let hd4:h4.get? úc=À ŷn:=R.extBut _ _ S (ğ _ (hP▸ų _ rfl));let hfo:∀b∈l,∃o,Łm b=À o:=λb d=>let ⟨o,e,_⟩:=óe 0 _ t0 b d;{o,e}
 let lt:∀b∈l,b<úc:=λb d=>let ⟨o,e⟩:=hfo b d;Ĭ e
 generalize hDD:úc=D at S hd4 ⊢;generalize hCC:Ϧe=C at S hns R f ⊢;let t:úc<=D:=ϗc hDD
 let +zeta X':=wT X ň cl own C m H2 l (ůb++z8)
 let hpn:∀p∈X'.pn,p.1≠D:=λp hp z=>by let{e,_}:=ıa p hp;rw[z]at e;show ß (Ŵ Ϯb t) Ϸ
 let okb:=A6 I âe Ŗi B.JY B.ok f G hfo
 let P:∀{k:Ä}{a:Á Value}{H':Hp},(∀b∈l,H' b=Æ)->∀b∈l,jH X' Ϭe H' b:=λ{k a H'} hn b d=>
  ⟨hn b d,ĕm.1,okb.WQ b d,.inl d,ĕm.2,λp hp=>by
   rcases Àb hp with z|z;show èd.2.2.2.2.2 p z;let q:p=(D,v_ a k):=by simpa using z
   subst q;show λz=>ß (lt b d) (by rw[<-z];show ύg t)⟩
 have loop:∀s4:Ñ,s4={ m with ì:=h4,ď:=m.toks+([]:Á Āb).length }->
   Ϥa ù X.A (.compLoop ϱa 0 ϓa íi (compEnvC ň cl C Ö)) (RR íi C) s4:=by
  rintro s4 rfl
  show z10 (λn s'=>∃(i:Ä) (ys:Á V) (a:Á Value) (k:Ä) (H':Hp),zH X' Ϭe Ÿc H' s'/\zm ys a/\tn i ļc/\(∀b∈l,H' b=Æ)/\W i n ys H'/\ŭ<=ã) ?_ m0
   {0,[],[],0,H2,lS I âe Ŗi B.JY B.ok f t S G hfo Y hns hd4 bE,.nil,àe _ _ _ t0 λb _ o e=>Y b o e,λb d=>èd.1,W0,Ϡ _}
  rintro n s5 ⟨i,ys,a,k,H5,I5,v5,st5,fr5,w5,z5⟩;rcases turn i n ys H5 w5 with⟨ϭ,fin⟩|⟨go,room,N,hN,Ôc⟩
  .show ýa (T.done X' rfl rfl rfl U i _ s5 _ H5 ϖb I5 (P fr5) st5 ϭ) (λr s6 ⟨hr,I6⟩=>?_) λ_ _ z=>z
   subst hr;let{e6,n6,ne6,nf6,d6}:=I6.pin (D,v_ a k) ųm;let{m6,ns6,_}:=I6.loc;let u6:Un ài l H2 Åh m.heap s6.heap:=y99 I6.base t n6;let new6:xU ò X.w Åh s6.heap D ϕb:={z5,a,k,v5,e6};let I7:zH X z8 σ Åh s6:=I.Mc I6.os u6 (aX I6.zf n6 new6) I6.bare (λb d=>{èd.2.2.2.1,èd.2.1,èd.2.2.2.2.1,èd.2.2.2.2.2});show hRR D C s6 H5 ys m6 I7 n6 fin ns6 {?_,?_,?_,λx c hcx z=>?_,λp hp z=>?_}
   .rw[zt (ßb S)];show I6.free
   .show λz=>ß I.lt (by rw[<-z];show ύg f)
   .show Ĵ I.sz f
   .subst z;let{v,o,ho,_}:=īa x c hcx;show ß (Ŵ (Ĭ ho) f) Ϸ
   .let{e,_}:=ıa p hp;rw[z]at e;show ß Ŷm Ϸ
  .show ýa (T.item X' rfl rfl rfl U i _ s5 _ H5 ϖb I5 (P fr5) st5 go) (λr s6 ⟨u,hr,h6⟩=>?_) λ_ _ z=>z
   subst hr;show ýa h6 (λ_ s7 ⟨x,H7,I7,r7,y7,st7,fr7⟩=>?_) λ_ _ z=>z
   let I7':=I7.pinned (P fr7) (óe _ _ st7);show ýa (hg C m H2 l _ _ s7 _ H7 x u _ I7' r7 (Ôc x H7 y7)) (λ_ s8 ⟨σ8,H8,I8,⟨τ,hτ⟩,q8⟩=>?_) λ_ _ z=>z
   subst hτ
   have ϔ:∀{n':Ä}{Q:Á V}{F:Á Value}{k':Ä}{L:Hp}{O:Ñ}{pl:Á î},zH X' ((D,v_ F k')::pl) Ãi L O->zm Q F->tn õ Ōi->(∀b∈l,L b=Æ)->W õ n' Q L->Q.length<=ã->
     ∃(i:Ä) (ys:Á V) (a:Á Value) (k:Ä) (H':Hp),zH X' Ϭe Ÿc H' O/\zm ys a/\tn i Ōi/\(∀b∈l,H' b=Æ)/\W i n' ys H'/\ŭ<=ã:=λ{n' Q F k' L O pl} Z v9 st9 fr9 w9 z9=>by
    let I9':zH X' [(D,v_ F k')] Ãi L O:=Z.Uk λp hp=>Z.pin p (Ĵb _ (by
     let q:p=(D,v_ F k'):=by simpa using hp
     subst q;show ŉ))
    show{i+1,Q,F,k',L,I9'.weak ?_ (λj v e=>?_),v9,st9,fr9,w9,z9}
    .rw[I9'.len,<-I5.len]
    .let e':=Iz e;rw[éb (Ł e').1];show e'
   let h:∀{σ9:St}{L:Hp}{O:Ñ},zH X' (Ϭe++Qf l s7.heap) σ9 L O->tn õ Ōi/\∀b∈l,L b=Æ:=λ{σ9 L O} Z=>
    {àe _ _ _ st7 λb d o e=>Āj.1,λb d=>by let{o,e,_}:=óe _ _ st7 b d;show Āj.2.1}
   show ýa (hc C m H2 l _ _ s8 _ H8 _ I8 q8) (λc O ⟨L,Z,q9⟩=>?_) λ_ _ z=>z
   cases c with
   |Ã=>
    rw[Ô Ŋ]at q9 ⊢;let{m',hm,w9}:=hN _ _ q9;show{m',hm,ϔ Z v5 (h Z).1 (h Z).2 w9 z5}
   |Å=>
    rw[Ò rfl]at q9 ⊢;show ýa (he C m H2 l _ _ O _ L _ Z q9) (λyv sa ⟨y,Ha,Ia,ra,qa⟩=>?_) λ_ _ z=>z
    let{m',hm,wa}:=hN _ _ qa;let{ea,na,_}:=Ia.pin (D,v_ a k) (Ĵb _ (Ėg _ ŉ))
    let szi:ώb<=ã:=by let:=v5.length;simp only[ė];omega
    show wpAny_list_append_plain (hsz:=szi) {k,ea} λd hlb hsb'=>?_
    let{kb,eb}:=hlb;let eb':d.get? D=À (v_ ϖn kb):=by rw[eb];simp
    let Ib:zH X' [(D,v_ ϖn kb)] Ãi Ha { sa with ì:=d,ď:=sa.toks }:=si (tk:=sa.toks) Ia t hpn hsb' eb';let stb:tn õ d:=àe _ _ _ (h Ia).1 λb hbf o e=>(hsb'.2 b (λz=>ß (lt b hbf) (by rw[z];show ύg t))).trans e
    show{m',hm,ϔ Ib (ðf v5 (.cons ra .nil)) stb (h Ia).2 wa (by rw[Ă];show room)}
 show codeAny_compStart_list ėm (T.self X.A 0 _ _ _ (àe _ _ _ t0 λb _ o e=>Y b o e) ėm)
def y46(n:Ä)(wi:TI)(g:TG)(tc:TT)(te:TE):TE:=λσ H Q=>wi σ H λJ c=>∃W:Ä->Ä->Á V->Hp->È,(∃m,W 0 m [] c)/\
 OS σ n J g tc te W λb a=>∀p,a p=Æ->Q Ž óh
def Jj.inv{a:Á î}{σ:St}{H:Hp}{s:Ñ}{C:Í}{h':Heap}(o:Jj X a H s C)(I:zH X a σ H s)(d:ÿb C à h'):zH X a σ H { s with ì:=h' }:=
 Ŏa (it:=C) (t':=ĕ) (λb u c q=>(d.2 b c).trans q) o.free o.ne (.inr o.old) o.cell o.pin
def c6(a:Š=Å)(B:Zj X ň cl own)(E:PI X tg ű wi)(L:∀C s H fp pn,PG ϯ tg g)(n:∀C s H fp pn,XD ϯ ifs tc)(m:∀C s H fp pn,PE ϯ elt te)(K:Î (∀x,îb ű Ö x=pure x) q11) :PE X ϱa (y46 ëb wi g tc te):=by intro l s σ H Q I h;rw[eval_ListComp];show ňj (use:=Æ) rfl K B.JZ âe B.names (zj (E l s σ H _ I h) λv P N=>zj N λo Y y=>?_);let{U,fp,S,J,R,e,t,T,k,q,W,{m0,r},b}:=y;subst e;show A7 (RR:=λf C=>compPost ù X.A ĥ Æ (EP X l σ Q) f C) a B t T k q L n m r b ?_;intro D C O p G u z F i c j;show{u,c,λZ d=>{.ref D,zU p D (.lst G),j.inv z d,rfl,i D F}}
def y4l(i n:Ä)(wi:TI)(g:TG)(tc:TT)(te:TE):TS:=λD σ H=>wi σ H λJ c=>∃W:Ä->Ä->Á V->Hp->È,(∃m,W 0 m [] c)/\
 OS σ n J g tc te W λb a=>∀p,a p=Æ->ĵa Ŧl óh
def cM{i:Ä}{x:Ç}{j c:Pos}(d:Š=Å)(hN:ßa)(p:X.N[i]?=À x)(F:īd x=À .local)(B:Zj X ň cl own)(m:Ďc ϱa (À ϥm) c.line Ö=pure Å)(hi:PI X tg ű wi)(hg:∀C s H fp pn,PG ϯ tg g)(O:∀C s H fp pn,XD ϯ ifs tc)(K:∀C s H fp pn,PE ϯ elt te)(hs:Î (∀x,îb ű Ö x=pure x) q11) :PS X (.Assign [.Name x j] ϱa c) (y4l i ëb wi g tc te):=by
 intro t s σ H D I h;rw[exec_Assign_Name_used _ _ _ _ m];show Ø (łe (Ø ?_));exact Û _ X.A (do let _ <-comprehension ϱa ň Ö _ Ėm Ã (ċ ű Ö) Ūn) _ _ s
 refine Ø (zj (ňj (use:=À ôj) (Q:=λ_ f=>SP X t D .next f) rfl hs B.JZ âe B.names
  (zj (hi t s σ H _ I h) λv s1 h1=>zj h1 λP s2 h2=>?_)) λ_ f hq=>Đ (Đ hq))
 let{it,fp,tn,J,H2,e,Z,T,E,S,W,{m0,U},k}:=h2;subst e;show A7 (RR:=λq C=>compPost ù X.A ĥ Ūn (λ_ f=>SP X t D .next f) q C) d B Z T E S hg O K U k ?_;intro L C f R ys m' I' n' r l b;exact Û _ X.A (ůa ϥm Ö (.ref L)) _ _ f;show Ϛk (eT I' hN p (.inl F) (v:=.ref L) rfl (λs3 Y q3=>?_) (.inr F));let{a,u,G}:=q3
 let n:C≠a:=by rcases G with z|z;rw[z];show b.ne;show λy=>b.cell x a z y.symm
 show{m',l.sameBut u n,λh' o=>?_};show{_,_,Jj.inv (H:=zU R L ϕb) {b.free,b.ne,b.old,b.cell,b.pin} Y o,r L n'}
#print a
structure QE(X:Cx)(e:Ó)(t:TE):È where
 h:PE X e t
structure QA(X:Cx)(es:Á Ó)(t:TA):È where
 h:PA X es t
structure QS(X:Cx)(st:Ù)(t:TS):È where
 h:PS X st t
structure QG(X:Cx)(e:Ó)(t:TG):È where
 h:PG X e t
structure Jk(X:Cx)(es:Á Ó)(t:ga):È where
 h:TQ X es t
structure QI(X:Cx)(tg e:Ó)(t:TI):È where
 h:PI X tg e t
section
variable{X:Cx}{x:Ç}{p pos Ża ϙ Ϛ:Pos}{e a b c o:Ó}{es:Á Ó}{te to:TE}{t:TA}{r:R2}{v:V}{T id:Ÿ}{j k i:Ä}
def qv(i:Ä){x:Ç}{pos:Pos}(b:Î ϐb q12)(hv:Î Ϩb q14)(c:Î Ģ q10)(a:Î Śa q10):QE X ϻ ŋc:={ZE b hv c a}
def z9r(h:wd ñ x v)(a:Gl X x)(b:Î Ģ q10):QE X ϻ èe:={X_ h a b}
def z9q(b:Gl X x)(d:ñ x=Æ)(hv:ş x=À Ôb)(a:Î Ša q10)(c:Î Ģ q10):QE X ϻ đm:={z7m b d hv a c}
nonrec def cE:Ó->Ï
 |.Name ..=>Å|.Call ..=>Å|.Subscript ..=>Å|.Attribute ..=>Å|.Constant ..=>Å|.List ..=>Å|.Tuple ..=>Å|.BinOp ..=>Å|_=>Ã
def z8t{e:Ó}{env:Env}(h:cE e=Å):∀Ìc,ðd e env Ìc=(do let v <-Ìc;standAt e.pos;holding [v] Øn):=by cases e<;>first|(intro _;rfl)|cases h
def cZ:QA X [] YU:={g8}
def GI(a:QE X e te)(b:QA X es t)(h:Î ϳ q12):QA X Ē ϝh:={qf a.h b.h h}
nonrec def ZG:Ó->Ï
 |.Name ..=>Å|.Constant ..=>Å|.BinOp ..=>Å|.Call ..=>Å|.UnaryOp ..=>Å|.Subscript ..=>Å|.Attribute ..=>Å|_=>Ã
def Vr{b:Ó}(h:ZG b=Å):SX b:=by cases b<;>first|(intro _ _;rfl)|cases h
def Qn{r:Á V->Hp->VK->È}(f:wL X Éb r)(g:Gl X x)(i:ñ x=Æ)(hv:ş x=À Éb)(c:QA X Ē t)(d:Î Ša q10)(b:Î Ģ q10)(a:Î êa q12):QE X ŝa ĳf:=by rw[ř,ø]at a;show{z7o f g i hv c.h d b Ói Þi}
def W1{r:Á V->Hp->VK->È}(f:wL X Ôb r)(g:Gl X x)(i:ñ x=Æ)(hv:ş x=À Ôb)(c:QA X Ē t)(d:Î Ša q10)(b:Î Ģ q10)(a:Î êa q12):QE X ŝa ĳf:=by rw[ř,ø]at a;show{z7q f g i hv c.h d b Ói Þi}
variable{g:TG}
nonrec def Xw:Ó->Ï
 |.ListComp ..=>Ã|.SetComp ..=>Ã|.DictComp ..=>Ã|_=>Å
def bX{e:Ó}{a:Ê Ó}{n:Ä}{env:Env}(h:Xw e=Å):Ďc e a n env=pure Ã:=by cases e<;>first|rfl|cases h
def GN(a:QE X e te)(b:Î žd q12):QS X Íh (eZ te):={cI a.h (bX b)}
def GO{i:Ä}{x:Ç}{Ża:Pos}(b:ßa)(c:X.N[i]?=À x)(a:qO Ϟ x)(d:QE X e te)(g:Î žd q12)(f:Î Ėa q7) :QS X Ġd (LJ te Ĥb):={cL b c a d.h (bX g) f}
def yo{i:Ä}{x:Ç}(c:ßa)(b:X.N[i]?=À x)(a:qO Ϟ x)(d:Î Ėa q7):QG X ϻ Ĥb:={z88 c b a d}
def GJ{o i:Ó}{to a:TE}{t:Jm}(b:QE X o to)(d:QE X i a)(e:BX X t)(c:Î (ZG i=Å) q12):QG X Ěg (aA to a t):=by show{z89 b.h d.h e ?_};cases i<;>first|(intro _;rfl)|cases c
def ZI:Jk X [] Xb:={z8c}
def uW{t:TG}{u:ga}(b:QG X e t)(a:Jk X es u)(c:Î ((Àm).map (·.2)=ůa e Ö::(Ŗd).map (·.2)) q12):Jk X Ē (j5 t u):={z8b b.h a.h c}
def ZH{k:Ä}{t:ga}{n:Ä}(c:Š=Å)(h:Jk X es t)(b:Î Āl q12)(a:Î ((Ŗd).findIdx? (·.1)=Æ) q12):QG X Ìl ġm:={z8a c h.h b a}
variable{İ:Ç}{rm:V->Á V->Hp->VK->È}
theorem eR{env:Env}{pos:Pos}:∀{es:Á Ó},es.all yx=Å->(Ŭk).all ėh=Å
 | [],_=>rfl|e::es,h=>by rw[ř,ø]at h;rw[tQ h.1];let a:=eR (env:=env) (pos:=pos) h.2;unfold Çc at a ⊢;rw[Ť,ř,a];rfl
def Oy(k:Ùf T)(c:Slot T İ id)(g:ŭf Éb=pure Ġe)(m:V4 X id rm)(i:QE X o to)(l:QA X Ē t)(a:Î ąe q12)(b:Î śa q12)(d:Î êa q12)(j:Î ((Ē).length<30) q10) :QE X ñk (eX X.K T rm to t):={by let f:=eR (env:=Ö) (pos:=Ϛ) d;rw[ř,ø]at d;show z7k k c g m i.h l.h a ?_ b (tQ d.1) (kK d.2);rw[f];exact(Å&&Å&&decide ((Ē).length+0+0<30))=Å;rw[å (show(Ē).length+0+0<30 from j)];rfl}
#print a
def SqB(K:Ð)(H:Hp)(a c:Í)(xs ys:Á V):È:=(xE K H a xs/\xE K H c ys)\/(yh K H a xs/\yh K H c ys)
section
variable{X:Cx}{z8:Á î}{σ:St}{H:Hp}{s:Ñ}
def y0d{A:Ā}{a c:Í}{xs ys:Á V}{e:Ä->Ï}(I:zH X z8 σ H s)(k:ča<Ū)(R:SqB X.K H a c xs ys)(O:∀(j:Ä) x' y' u v,xs[j]?=À x'->ys[j]?=À y'->zw x' u->zw y' v->Ĉb Ź s u v (e j)) :Ĺh A s ś ĵf ((Ģg).all e&&ä==ŭ)/\çh A s ś ĵf (!((Ģg).all e&&ä==ŭ)):=by
 let f:∀{B:Á V}{b:Á Value}{j:Ä}(P:j<ţa),zm B b->∃z,B[j]?=À z/\zw z Ĉa[j]:=λ{B b j} P r=>by
  let L:=Ŷ
  let m:j<B.length:=by rw[ė]at P;omega
  let{u,o,S}:=Ÿa (Ĳ m);show{_,Ĳ m,?_}
  let:Ĉa[j]=u:=by let y:b[j]?=À b[j]:=Ĳ É;rw[y]at o;simpa using o
  rw[this];show S
 rcases R with⟨E,J⟩|⟨E,J⟩;let{b,l,g,_}:=Ϥ E;let{h,x,i,_}:=Ϥ J;let Q:=Ĕb;let y:=Úb
 let d:∀j (n:j<ţa) (t:j<ϋe),Ĉb Ź s Ĉa[j] ēn[j] (e j):=λj n t=>by rw[ùo]
 let p:=SeqAt.RcAt.tuples (e:=e) g i k d;let q:=SeqAt.RcNeAt.tuples (e:=e) g i k d;rw[ė,ė,<-Q,<-y]at p q;show{p,q};let{b,l,g,_}:=ϒ E;let{h,x,i,_}:=ϒ J;let Q:=Ĕb;let y:=Úb
 let d:∀j (n:j<ţa) (t:j<ϋe),Ĉb Ź s Ĉa[j] ēn[j] (e j):=λj n t=>by rw[ùo]
 by_cases L:ä=ŭ;let w:ţa=ϋe:=by rw[ė,ė];omega
 let p:=SeqAt.RcAt.lists (e:=e) őb ĝf w k d;let q:=SeqAt.RcNeAt.lists (e:=e) őb ĝf w k d;let e1:min ä ŭ=ţa:=by rw[ė];omega
 let e2:Æn=Å:=by simp[L]
 rw[e1,e2,ϵg];show{p,q};let w:(ţa != ϋe)=Å:=by rw[ė,ė];simp;omega
 let e2:Æn=Ã:=by simp[L]
 rw[e2,ϖc];show{SeqAt.RcAt.lists_lengths őb ĝf w k,SeqAt.RcNeAt.lists_lengths őb ĝf w k}
def OA(A:Ā):A.in1.units=ča+1:=rfl
#print a
def nM{x:V}(h:qU x=Å):tF x x=Å:=by cases x<;>first|rfl|show ðb _|cases h
open ąi (hideAll)
#print L2
namespace L2
open Ĩ ĺ ĭ
section
variable{H H':Hp}{a C:Í}
def iV(a C:Í)(h:Heap):È:=∃o vs,Ğ a=À o/\Ϯa=.ref C/\Īa=.fields vs
def y9a{fs ex:Á Í}{H H':Hp}{h h':Heap}{D:Í}{o:HO}(u:Un fs ex H H' h h')(f:Ğ D=Æ)(d:H' D=Æ):Un fs ex H źm h h' where
 đa:=Öe
 slot:=ūf
 free:=λb c q n i=>by rw[zt (λz=>by subst z;rw[f]at q;cases q)];show Ŭf b c q n i
 ϓf:=Ńf
 tX:=λb e q=>by rw[zt ŋk];show u.tX b e q
 uy:=λb c v q=>by rw[zt Ăk];show u.uy b c v q
 qp:=λb g q=>by rw[ēo]
#print a
section
variable{X:Cx}
def Le{ns:Á Â}{its:Á Value}(r:zm ëa its){i:Ä}{v:Value}(h:Ϧ[i]?=À v):∃t,v=.int ķn t:=by
 let d:i<Îb:=by rw[ĵe]at h;show åa.1
 let e:ϡ=Îb:=by rw[ϣo]
 let a:ëa[i]?=À (Β ķn):=by rw[Ş,ėa,Ĳ É];rfl
 let{u,b,c}:=Ÿa a;rw[ĵe,b]at h;cases h;show c
theorem Ey{ns:Á Â}:∀(k:Ä),k<=ϡ->Ûe ŧl k=(Ϩc).sum
 |0,_=>by simp[Ûe]|k+1,h=>by rw[Ûe,Ey k É,ĝd É,List.sum_append,ėa,Ĳ É];exact _+ns[k]=_+(ns[k]+0);rw[þb]
def Sb(ns:Á Â):È:=(∀n∈ns,Źf n)/\∀k,k<=ϡ->Źf (Ϩc).sum
def GS(K:Ð):Á V->Hp->VK->È:=λa H Q=>∃(p:Í) (ns:Á Â),a=Ĭc/\(yh K H p ëa\/xE K H p ëa)/\Sb ns/\Q (.int ŀi) H
def eV{ns:Á Â}(h:Sb ns):∀j,j<ϡ->Źf (Úf j 0)/\Źf (Ûe ŧl éa):=λj a=>by show{h.1 _ ?_,?_};rw[ėa,Ĳ a];show ύb a;rw[Ey _ É];show h.2 _ É
def AG(E:Š=Å):wL X þl (GS X.K):=by
 rw[ľo];let{p,d,rfl,m,A,q}:=h;let{u,rfl,F}:=uO r;cases F;let B:=ġa E;let e:Ûe (λi=>Ýe i 0) Äa=d.sum:=by rw[Ey _ Ę,þc]
 show call_sum_walk ?_;rcases m with m|m;let{a,t,w,C}:=ϒ m;rw[Čo]
 let c:p<Þ:=by let{o,n,e,_}:=w;show Ĭ e
 show Ťc w.isList ?_;refine{_,_,_,_,_,_,λi=>Ýe i 0,rfl,Ķh Ϙm Þ p Ěi Òb,{{_,ų _ rfl,rfl,rfl},w.isList.push _},?_,λi v x=>Le t x,?_,?_};rw[ío];rcases l with rfl|rfl;rw[øo]
 show⟨.int d.sum,H,Èc (t':=y) λb o f=>k b o (λz=>by
  rw[Ľo]
  rw[this]at f;show ß ĝi Ϸ) ţn,{_,rfl},q⟩
 let{a,t,w,C}:=Ϥ m;rw[Čo]
 let g:ϕc p Òb:=w;let c:p<Þ:=by let{o,e,_}:=g;show Ĭ e
 show ðg g ?_;refine{_,_,_,_,_,_,λi=>Ýe i 0,rfl,Walks.tuple Ϙm Þ p Ěi Òb,{{_,ų _ rfl,rfl,rfl},g.push _},?_,λi v x=>Le t x,?_,?_};rw[ío];rcases l with rfl|rfl;rw[øo]
 show⟨.int d.sum,H,Èc (t':=y) λb o f=>k b o (λz=>by
  rw[Ľo]
  rw[this]at f;show ß ĝi Ϸ) ţn,{_,rfl},q⟩
def y9e{a:Á Ï}{its:Á Value}(r:zm ğm its){i:Ä}{v:Value}(h:Ϧ[i]?=À v):v=.bool ŷl:=by
 let e:i<Îb:=by rw[ĵe]at h;show åa.1
 let f:ϴ=Îb:=by rw[ϣo]
 let b:ğm[i]?=À (.bl ŷl):=by rw[Ş,ėa,Ĳ É];rfl
 let{u,c,d}:=Ÿa b;rw[ĵe,c]at h;cases h;show d
def y0b{d:Á Ï}:(Ùa Äa).all (λi=>Ýe i Ã)=d.all id:=by
 rw[Ϗb,äl,äl]
 rw[Ůo];intro h b e;let{i,c,rfl}:=Ék e;let:=h i (Ľd c)
 rwa [ėa,Ĳ c]at this;intro h i c;let a:=Ļb c;rw[ėa,Ĳ a];show h _ (ύb a)
def ce(K:Ð):Á V->Hp->VK->È:=λa H Q=>∃(p:Í) (bs:Á Ï),a=Ĭc/\yh K H p (Ŵf V.bl)/\Q (.bl (bs.all id)) H
def lf(m:Š=Å):wL X ÿl (ce X.K):=by
 rw[ľo];let{p,d,rfl,B,q}:=h;let{u,rfl,w}:=uO r;cases w;let y:=ġa m;show call_all_walk ?_;let{a,j,g,C}:=ϒ B;let t:Äa=ώb:=by let:=ða;rw[æ]at this;rw[ė];show this
 let f:p<Þ:=by let{o,n,e,_}:=g;show Ĭ e
 show Ťc őb ?_;refine{_,_,_,_,_,_,λi=>Ýe i Ã,rfl,Ķh (by show y) Þ p (Êa f) Òb,{{_,ų _ rfl,rfl,rfl},g.isList.push _},?_,?_};intro i v F G E x l;rw[y9e j x];show Đ l;intro l A k;rw[<-t,y0b]
 show⟨.bl (d.all id),H,Èc (t':=A) λb o c=>k b o (λz=>by
  rw[Ľo]
  rw[this]at c;show ß (Ĭ c) Ϸ) (ğ _ c),rfl,q⟩
#print a
open Builtin.SmallTypes (Śb)
structure XH(P:ï)(w:è)(it l:Í)(st:Ä->Heap->È)(n:Ä)(val:Ä->Value):È where
 đa:∀i h h',st i h->(∀b o,(b=it\/b=l)->Ğ b=À o->Ĕ b=À o)->st i h'
 ϰa:∀{A:Ā}{Q:Value->Ñ->È}{E:Value->Ñ->È}{s:Ñ}(i:Ä),st i à->i<n->(∀h',st õ h'->ÿb it à h'->Q (val i) { s with ì:=h' })->Û Ćb A ýf Q E s
 done:∀{A:Ā}{Q:Value->Ñ->È}{E:Value->Ñ->È}{s:Ñ}(i:Ä),Čb=Æ->st i à->n<=i->
  (∀h' e,řm it à h'->(∃o,Ĕ e=À o/\Ϯa=.type ŋd)->E ìi { s with ì:=h' })->Û Ćb A ýf Q E s
section
variable{ı:ï}{w:è}{A:Ā}{E:Value->Ñ->È}{s:Ñ}
def z2k{it t:Í}{i:Ä}{ād}{x:Value}{Q:Value->Ñ->È}(a:ŝk it t i)(f:ϕc t ād)(g:ād[i]?=À x)(h:∀h',h'.IsTupleIter it t õ->ÿb it à h'->Q x { s with ì:=h' }):Û ĳ A ýf Q E s:=by
 let{o,c,j,b}:=id a;let{l,d,_,k,e}:=f;unfold Śb
 show Ø (ŝc (İ:=ĕc Ôf) a.typeIs Ďe
  (éc Ďe a.typeIs ĩj ?_ Ăj))
 show Ø (m:=Ïc ϓa 0) (Ϸa c b (x:=.ref t) rfl ?_);rw[ğo];show Ø (m:=Ïc ϓa 1) (Ϸa c b (x:=.int i 0) rfl ?_);show Ø (m:=seqItems? (.ref t)) (Ϲa d e ?_);simp only[Ŕ,g];refine Ø (ŏl c b é (Đ {x,rfl,Đ (h _ ?_ (Ľk ..))}))
 show{_,Ķe _ c (Obj.isFreed_of_fields (ţk b _)),(Obj.cls_mapFields ..).trans j,by rw[ţk b];simp[Ée]}
def z2j{it t:Í}{i:Ä}{ād}{Q:Value->Ñ->È}(h:Čb=Æ)(b:ŝk it t i)(k:ϕc t ād)(l:ād[i]?=Æ)(j:∀h' e,řm it à h'->(∃o,Ĕ e=À o/\Ϯa=.type ŋd)->E ìi { s with ì:=h' }):Û ĳ A ýf Q E s:=by
 let{o,c,q,f}:=id b;let{p,d,_,n,g}:=k;unfold Śb
 show Ø (ŝc (İ:=ĕc Ôf) b.typeIs Ďe
  (éc Ďe b.typeIs ĩj ?_ Ăj))
 show Ø (m:=Ïc ϓa 0) (Ϸa c f (x:=.ref t) rfl ?_);rw[ğo];show Ø (m:=Ïc ϓa 1) (Ϸa c f (x:=.int i 0) rfl ?_);show Ø (m:=seqItems? (.ref t)) (Ϲa d g ?_);simp only[Ŕ,l];refine Ø (ķd (Ø (ŏl c f é ?_)));show Ø (m:=newExc (.type ŋd) []) ?_;simp only[newExc,newTuple];show Ø (ác ?_ ŵl);refine Ø (m:=œl _ _) (ře (a:=ϒc) (by first|rfl|(simp only[œl];rfl)) ?_);show ác ?_ ŵl;simp only[raiseNew];show Ø (wpAny_handled ?_)
 first|rw[show A.in1.handled=Æ from h]|rw[h]
 show Ø (Đ (wpAny_throw ?_));show j _ _ (((Ľk ..).extBut.push _).push _) {_,ų _ rfl,rfl}
def y3b{it l:Í}(c:l≠it)(a:Ĝ Value):XH ı w it l (λi h=>çm it l i/\h.IsList l a) ĝ đg where
 đa:=λi h g st k=>{st.1.at λo e=>k it o Ō e,st.2.at λo e=>k l o ĉb e}
 ϰa:=λi st d m=>wpAny_nextOf_list_item st.1 st.2 (x:=a.getD i .none) õl λg b f=>m g {b,st.2.extBut f.extBut c} f
 done:=λi n st d j=>wpAny_nextOf_list_end n st.1 st.2 (Ąg d) j
def y3c{it l:Í}(c:l≠it)(a:Ĝ Value):XH ı w it l (λi h=>ϖl it l i/\Ĕn l a) ĝ đg where
 đa:=λi h g st k=>{st.1.at λo e=>k it o Ō e,st.2.at λo e=>k l o ĉb e}
 ϰa:=λi st d m=>z2k st.1 st.2 (x:=a.getD i .none) õl λg b f=>m g {b,st.2.extBut f.extBut c} f
 done:=λi n st d j=>z2j n st.1 st.2 (Ąg d) j
variable{z TI TO i1 i2 l1 l2:Í}{st1 st2:Ä->Heap->È}{n1 n2:Ä}{v1 v2:Ä->Value}{a b:Value}{k:Ä}
def x1l{Q:Value->Ñ->È}(D:ϫd z TI TO i1 i2 l1 l2)(K:XH ı w i1 l1 st1 n1 v1)(I:XH ı w i2 l2 st2 n2 v2)(hz:Źa à z TI TO .none)(Z:ďa à TI ϡd čf)(O:ďa à TO a b)(h1:st1 k à)(h2:st2 k à)(k1:k<n1)(k2:k<n2)(hi1:i1<Þ)(hi2:i2<Þ)(hl1:l1<Þ)(hl2:l2<Þ)(hQ:∀h',Źa h' z TI TO (Ée Þ)->ďa h' TO ød ϊf->st1 š h'->st2 š h'->ďa h' Þ ød ϊf->
   (∀c o,c≠z->c≠TO->c≠i1->c≠i2->ć c=À o->Ĕ c=À o)->Q Ŋb { s with ì:=h' }) :
  Û ĳ A íj (λfin s'=>∃v,fin=.done ϒd/\Q v s') E s:=by
 rw[ĕo];show Ø (Ϲa Z rfl ?_);rw[åo];refine Ø (Ţc hz é λha u y=>?_)
 replace u:Źa ha z TI TO .ellipsis:=u
 rw[şo];let h1a:st1 k ha:=Ŏi k _ _ h1 λc o J e=>Ϥd c o (by rcases J with rfl|rfl;show Ϣf;show D.l1z) e
 show Ø (εa (Ø (m:=Śb ϡd) (K.item k h1a k1 λhb W C=>Đ ?_)));let n:ďa hb TO a b:=Ϯd _ _ D.TOi1 (Ϥd _ _ ϣf O);show Ø (Ϲa n rfl (Ø (ãg n λJ h p=>?_)))
 replace h:ďa J TO ød b:=h
 show Ø ÿh
 let U:st2 k J:=ői k _ _ h2 λc o d e=>by rcases d with rfl|rfl;show Æd _ _ Ēh (Ϯd _ _ Ϸm (Ϥd _ _ ϡf e));show Æd _ _ Ŕi (Ϯd _ _ D.l2i1 (Ϥd _ _ D.l2z e))
 show Ø (εa (Ø (m:=Śb čf) (I.item k U k2 λhd T B=>Đ ?_)));let l:ďa hd TO ød b:=ϯd _ _ D.TOi2 h;show Ø (Ϲa l rfl (Ø (ãg l λf g r=>?_)))
 replace g:ďa f TO ød ϊf:=g
 show Ø (Đe Ţn);show Ø (Ϲa g rfl (Ø (wpAny_newTuple ?_)));let G:ōd=Þ:=by rw[r.1,B.1,p.1,C.1,y.1]
 let F:Źa f z TI TO .ellipsis:=ēb _ _ ľh (ϯd _ _ ϵm (Æd _ _ ľh (Ϯd _ _ Ľh u)))
 let hke:∀c o,c≠z->c≠TO->c≠i1->c≠i2->ć c=À o->f.get? c=À o:=λc o q N X S e=>
  ēb _ _ N (ϯd _ _ S (Æd _ _ N (Ϯd _ _ X (Ϥd _ _ q e))))
 let P:st1 š f:=Ŏi _ _ _ W λc o d e=>by rcases d with rfl|rfl;show ēb _ _ śm (ϯd _ _ D.i12 (Æd _ _ śm e));show ēb _ _ D.l1TO (ϯd _ _ D.l1i2 (Æd _ _ D.l1TO e))
 let Y:st2 š f:=ői _ _ _ T λc o d e=>by rcases d with rfl|rfl;show ēb _ _ Ēh e;show ēb _ _ Ŕi e
 let j:z<ōd:=Ĭ F;show Ø (m:=ċj Ŕb øn) ?_;unfold ċj;let R:Źa (f.push { cls:=.type ż,ā:=.seq #[v1 k,v2 k] }) z TI TO .ellipsis:=ğ _ F;refine Ø (Ţc R é λhg t sg=>?_)
 replace t:Źa hg z TI TO Ķn:=t
 refine Ţc t é λH i sh=>?_
 replace i:Źa H z TI TO Ķn:=i
 let L:∀c o,c≠z->f.get? c=À o->H.get? c=À o:=λc o q e=>Ċn _ _ q (ċn _ _ q ąf)
 let hT:ďa H ōd ød ϊf:=Ċn _ _ (ûb j) (ċn _ _ (ûb j) ϛc);rw[G]at i hT;show Đ {_,rfl,?_};exact Q øn _;rw[G];show hQ H i (L _ _ ϣf g) (Ŏi _ _ _ P λc o d e=>L c o ?_ e) (ői _ _ _ Y λc o d e=>L c o ?_ e) hT λc o q N X S e=>L c o q (hke c o q N X S e)
 .rcases d with rfl|rfl
  .show Ϣf
  .show D.l1z
 .rcases d with rfl|rfl
  .show ϡf
  .show D.l2z
def x1k{Q:Fin->Ñ->È}(O:Čb=Æ)(D:ϫd z TI TO i1 i2 l1 l2)(G:XH ı w i1 l1 st1 n1 v1)(P:XH ı w i2 l2 st2 n2 v2)(hz:Źa à z TI TO .none)(K:ďa à TI ϡd čf)(v:ďa à TO a b)(h1:st1 k à)(Z:st2 k à)(S:n1<=k\/n2<=k)(R:∀h' e,(∀c o,c≠z->c≠TO->c≠i1->c≠i2->ć c=À o->Ĕ c=À o)->(∃o,Ĕ e=À o/\Ϯa=.type ŋd)->E ìi { s with ì:=h' }) :Û ĳ A íj Q E s:=by
 rw[ĕo];show Ø (Ϲa K rfl ?_);rw[åo];refine Ø (Ţc hz é λN g l=>?_)
 replace g:Źa N z TI TO .ellipsis:=g
 rw[şo];let t:st1 k N:=G.keep k _ _ h1 λc o B e=>Ĩc c o (by rcases B with rfl|rfl;show Ϣf;show D.l1z) e
 by_cases k1:k<n1;let k2:n2<=k:=by omega
 show Ø (εa (Ø (m:=Śb ϡd) (G.item k t k1 λI Y h=>Đ ?_)));let i:ďa I TO a b:=ϩd _ _ D.TOi1 (Ĩc _ _ ϣf v);show Ø (Ϲa i rfl (Ø (ãg i λB T u=>?_)));show Ø ÿh
 let F:st2 k B:=P.keep k _ _ Z λc o J e=>by rcases J with rfl|rfl;show ęf _ _ Ēh (ϩd _ _ Ϸm (Ĩc _ _ ϡf e));show ęf _ _ Ŕi (ϩd _ _ D.l2i1 (Ĩc _ _ D.l2z e))
 show Ø (εa (Ø (m:=Śb čf) (P.done k O F k2 λX e U y=>?_)));let{L,d,f}:=y;let n:Źa X z TI TO .ellipsis:=U _ _ ϵm (ęf _ _ ľh (ϩd _ _ Ľh g));let j:e≠z:=λx=>by subst x;rw[n]at d;cases d;simp at f
 show Ţc n é λC _ r=>R C e (λc o p c2 H W x=>ēb _ _ p (U _ _ W (ęf _ _ c2 (ϩd _ _ H Ϯl)))) {L,ēb _ _ j d,f};refine Ø (εa (Ø (m:=Śb ϡd) (G.done k O t É λI e h y=>?_)));let{L,d,f}:=y;let q:Źa I z TI TO .ellipsis:=h _ _ Ľh g;let j:e≠z:=λx=>by subst x;rw[q]at d;cases d;simp at f
 show Ţc q é λC _ r=>R C e (λc o p _ H _ x=>ēb _ _ p (h _ _ H Ϯl)) {L,ēb _ _ j d,f}
#print a
#print L2
namespace L2
open Ĩ ĺ ĭ
def tf(K:Ð)(b:Ï)(H:Hp)(a:Í)(xs:Á V):È:=match b with
 |Å=>xE K H a xs|Ã=>yh K H a xs
nonrec def QR(a:Ï):Ÿ:=match a with
 |Å => "tuple_iterator"|Ã => Ăl
def qP(b:Ï)(h:Heap)(a:Í)(its:Ĝ Value):È:=match b with
 |Å=>Ĕn a its|Ã=>h.IsList a its
def Zu(a:Ï)(h:Heap)(it l:Í)(i:Ä):È:=∃o,Ğ it=À o/\Ϯa=.type (QR a)/\Īa=.fields #[.ref l,.int i 0]
theorem Zu.at{a:Ï}{h h':Heap}{it l:Í}{i:Ä}(x:Zu a h it l i)(e:∀o,Ğ it=À o->Ĕ it=À o):Zu a h' it l i:=let ⟨o,ho,r⟩:=x;{o,e _ ho,r}
theorem qP.push{b:Ï}{h:Heap}{a:Í}{its:Ĝ Value}(x:qP b h a its)(o:Obj):qP b (łi o) a its:=by cases b;show Heap.IsList.push x o;show Heap.IsTuple.push x o
def qP.lt{b:Ï}{h:Heap}{a:Í}{its:Ĝ Value}(x:qP b h a its):a<ϐa:=by cases b;let{o,e,_}:=x;show Ĭ e;let{o,e,_}:=x;show Ĭ e
section
variable{ı:ï}{w:è}{A:Ā}{E:Value->Ñ->È}{s:Ñ}
def LH{c:Ï}{it l:Í}(b:l≠it)(a:Ĝ Value):XH ı w it l (λi h=>Zu c h it l i/\qP c h l a) ĝ đg:=by cases c;show y3b b a;show y3c b a
def cX{b:Ï}{l:Í}{a:Ĝ Value}{Q:Value->Ñ->È}(h:qP b à l a)(c:Q Ŋb { s with ì:=ęa { cls:=.type (QR b),ā:=.fields #[.ref l,.int 0 0] } }):Û ĳ A (Úe Ϲb) Q E s:=by cases b;show Ťc (show ϓl l a from h) c;show ðg (show ϕc l a from h) c
abbrev Ln(t1:Ï)(h:Heap)(l1:Í):Heap:=łi { cls:=.type (QR t1),ā:=.fields #[.ref l1,.int 0 0] }
abbrev Lo(t1 t2:Ï)(h:Heap)(l1 l2:Í):Heap:=(Ģm).push { cls:=.type (QR t2),ā:=.fields #[.ref l2,.int 0 0] }
abbrev Lq(t1 t2:Ï)(h:Heap)(l1 l2:Í):Heap:=(ϓk).push { cls:=.type ż,ā:=.seq #[.ref ϐa,.ref (Ģm).objs.size] }
abbrev Lu(t1 t2:Ï)(h:Heap)(l1 l2:Í):Heap:=(ϒk).push { cls:=.type ż,ā:=.seq #[.none,.none] }
abbrev UD(t1 t2:Ï)(h:Heap)(l1 l2:Í):Heap:=(Lu t1 t2 h l1 l2).push { cls:=.type Đa,ā:=.fields #[.none,.bool Ã,.bool Ã,.ref (ϓk).objs.size,.ref (ϒk).objs.size] }
def x1p(b e:Ï)(a c:Í)(xs ys:Ĝ Value) :Meets (Builtin.«zip.__new__» {[.type Đa,.ref a,.ref c],[]}) (λ_ R s=>qP b à a xs/\qP e à c ys/\R (.ok (.ret (.ref (Lu b e à a c).objs.size))) { s with ì:=UD b e à a c }):=
 .of_wp λprog w A R s h=>by
  let{m,g,d,l,o}:=s;let{f,k,h}:=h;let n:=sub_zip;let j:qP b (ōm {m,g,d,l,o}) a xs:=f;let i:qP e (ōm {m.push { cls:=.type (QR b),ā:=.fields #[.ref a,.int 0 0] },g,d,l,o}) c ys:=qP.push k _
  wp_walk using cX j,cX i
  show{_,rfl,h}
def mB{b e:Ï}{a d:Í}{xs ys:Ĝ Value}{Q:Value->Ñ->È}(f:qP b à a xs)(g:qP e à d ys)(h:∀h',Źa h' (Þ+4) (Þ+2) (Þ+3) .none->ďa h' (Þ+2) Ŋb (.ref õa)->
   ďa h' (Þ+3) .none .none->Zu b h' Þ a 0->Zu e h' õa d 0->
   (∀c o,ć c=À o->Ĕ c=À o)->Q (.ref (Þ+4)) { s with ì:=h' }) :
  Û ĳ A (ża ϡm [.ref a,.ref d]) Q E s:=by
 refine callType_new F.called_zip Ì (F.typeCall_zip_2 _ _) (F.newCall_zip_2 _ _) (λj=>F.args_object_init_3 j _ _) F.entry_zip_new (x1p b e a d xs ys) {f,g,?_};let k:(Ln b à a).objs.size=Þ+1:=ób ..;let i:(Lo b e à a d).objs.size=Þ+2:=by rw[ób,k]
 let l:(Lq b e à a d).objs.size=Þ+3:=by rw[ób,i]
 let p:(Lu b e à a d).objs.size=Þ+4:=by rw[ób,l]
 let m:(ŉd).get? (Lu b e à a d).objs.size=À _:=ų _ rfl;let q:(ŉd).get? (Lq b e à a d).objs.size=À _:=ğ _ ϛc;let n:(ŉd).get? (Lo b e à a d).objs.size=À _:=ğ _ (ğ _ ϛc);let r:(ŉd).get? (Ln b à a).objs.size=À _:=ğ _ Ňk;let t:(ŉd).get? Þ=À _:=ğ _ (ğ _ Ňk);exact _/\_;rw[i,l,p]at m;rw[k,i]at n;rw[l]at q;rw[k]at r;rw[p]
 show⟨{_,m,rfl},h _ m n q {_,t,rfl,rfl} {_,r,rfl,rfl} λc o x=>
  ğ _ (ğ _ (ğ _ (ğ _ (ğ _ x))))⟩
#print a
section
variable{X:Cx}{z8:Á î}{σ:St}{H:Hp}{s:Ñ}
def zH.WX{b:Ï}{a:Í}{xs:Á V}(I:zH X z8 σ H s)(h:tf X.K b H a xs):∃its:Á Value,zm xs its/\qP b à a Ϧ:=by cases b;let{its,r,p,_}:=ϒ h;show{its,r,Ěf};let{its,r,p,_}:=Ϥ h;show{its,r,p}
def zH.Pr{b:Ï}{a:Í}{xs ys:Á V}(I:zH X z8 σ H s)(h:tf X.K b H a xs)(h':tf X.K b H a ys):xs=ys:=by cases b;show I.Me h h';show I.Mm h h'
def fE{fs ch:Á Í}{h h':Heap}(k:∀b o,b ∉ ch->Ğ b=À o->Ĕ b=À o):Un fs ch H H h h':=
 {λb o e _ _ a=>k b o a e,λb o e _ _ a=>{o.slots,k b o a e},λ_ _ _ n _=>n,λb o e a=>{o,k b o a e},λ_ _ z=>z,λ_ _ _ z=>z,λb c e=>{#[],by rw[e];simp}}
def aW{P:ï}{w:è}{ch:Á Í}{h h':Heap}(x:xm P w H h)(d:∀b∈ch,H b=Æ)(k:∀b o,b ∉ ch->Ğ b=À o->Ĕ b=À o):xm P w H h':=λb u e=>by
 let a:∀c v,H c=À v->c ∉ ch:=λc v e z=>by rw[d c z]at e;cases e
 show(ϕh).Ze (λc v f q=>k c v ?_ q) àf λ_ _ q=>q
 rcases f with z|z;rw[z];show a b u e;show a c _ z
def zH.but{ch:Á Í}{h':Heap}{tk:Ä}(I:zH X z8 σ H s)(c:∀b∈ch,jH X z8 H b)(k:∀b o,b ∉ ch->ć b=À o->Ĕ b=À o):zH X z8 σ H { s with ì:=h',ď:=tk }:=
 I.Mc (s':={ s with ì:=h',ď:=tk }) rfl (fE k) Ϣj ŵa λb a=>{Řb.2.2.2.1,Řb.2.1,Řb.2.2.2.2.1,Řb.2.2.2.2.2}
def zH.Pj{ch:Á Í}{h':Heap}{tk:Ä}{T:Í}{o:HO}(I:zH X z8 σ H s)(c:∀b∈ch,jH X z8 H b)(k:∀b o,b ∉ ch->ć b=À o->Ĕ b=À o)(f:ć T=Æ)(e:H T=Æ)(d:xU ò X.w Ën h' T o):zH X z8 σ Ën { s with ì:=h',ď:=tk }:=
 I.Mc (s':={ s with ì:=h',ď:=tk }) rfl (y9a (fE k) f e) (aX Ϣj e d) ŵa λb a=>{Řb.2.2.2.1,Řb.2.1,Řb.2.2.2.2.1,Řb.2.2.2.2.2}
#print a
def BS(K:Ð)(d c:Ï)(a b:Í):It:=
  ⟨λi H=>∃xs ys x y,tf K d H a xs/\tf K c H b ys/\xs[i]?=À x/\ys[i]?=À y,
   λi H v e=>∃p,H p=Æ/\v=.ref p/\∀xs ys,tf K d H a xs->tf K c H b ys->∃x y,xs[i]?=À x/\ys[i]?=À y/\e=zU H p Ϡc,
   λi H=>∃xs ys,tf K d H a xs/\tf K c H b ys/\(ä<=i\/ŭ<=i)⟩
def y81{P:ï}{w:è}{K:Ð}{O:Á Ó}{kk:Ä}{pos:Pos}(t1 t2:Ï)(a b z TI TO C r:Í)(D:ϫd z TI TO C r a b) :gb P w K (.Tuple O kk pos) ŝg ϧl z (λi h=>Źa h z TI TO .none/\ďa h TI Ŏ (.ref r)/\(∃u v,ďa h TO u v)/\Zu t1 h C a i/\Zu t2 h r b i) where
 mem:=by simp
 obj:=λi h st c d=>by let{g,j,{u,v,m},{o4,p,_,d4},{o5,n,_,d5}}:=st;simp only[ϒb,ñb,ϰb]at d;rcases d with rfl|rfl|rfl|rfl|rfl;show{_,g,λv q=>nomatch q};show{_,j,λv q=>nomatch q};show{_,m,λv q=>nomatch q};show{_,p,λv q=>by rw[d4]at q;cases q};show{_,n,λv q=>by rw[d5]at q;cases q}
 đa:=λi h h' st k=>by let{g,j,{u,v,m},p,n}:=st;show{k z é _ g,k TI é _ j,{u,v,k TO é _ m},p.at λo e=>k C é o e,n.at λo e=>k r é o e}
 ϰa:=by
  rw[Üo];let{xs,ys,x,y,Y,Z,ex,ey}:=hg;rw[Œo];let{xu,S,rxu}:=ru.get ex;let{yw,Q,ryw}:=B.get ey;let k1:i<ŝl:=by rw[ė];show(Ł S).1
  let k2:i<Ŝl:=by rw[ė];show(Ł Q).1
  let e1:G.toArray.getD i .none=xu:=by let:=Ł S;let{l,e}:=this;simp[ϥg,l,e]
  let e2:L.toArray.getD i .none=yw:=by let:=Ł Q;let{l,e}:=this;simp[ϥg,l,e]
  let U:Ûb Ŕb Đa:={_,g,rfl};let q4:C<Þ:=by let{o,e,_}:=p;show Ĭ e
  let q5:r<Þ:=by let{o,e,_}:=n;show Ĭ e
  unfold Ņf
  show Ø (Ϗl (ŝc (İ:=ĕc Ôf) U ĳe (éc ĳe U ål
   (x1l D Ĉk ćk g j m {p,pu} {n,pw} k1 k2 q4 q5 pu.lt pw.lt λh' a1 a2 a3 a4 a5 a6=>Đ ?_) ĉk)))
  rw[e1,e2]at a2 a5;show{_,rfl,wpAny_letOwnedTupleGo_zip (s:={ s with ì:=h' }) a1 λt b1 J=>?_}
  let hTs:ć Þ=Æ:=by
   cases q:ć Þ with
   |Æ=>rfl|À o=>show ß ŕf Ϸ
  let R:H Þ=Æ:=òb Ę;let hTz:Þ≠z:=ûb (Ĭ g);let tup:t.get? Þ=À { cls:=.type ż,ā:=.seq #[xu,yw] }:=Éd _ _ hTz a5
  let kk:∀c o,c ∉ ϧl->ć c=À o->t.get? c=À o:=λc o d e=>by simp only[ϒb,ñb,ϰb,not_or]at d;show Éd _ _ d.1 (a6 c o d.1 d.2.2.1 d.2.2.2.1 d.2.2.2.2 e)
  let new:xU ò X.w (zU H Þ Ϡc) t Þ Ϡc:={Ϸj,[xu,yw],.cons rxu (.cons ryw .nil),{_,tup,rfl,_,rfl}};show{.ref Þ,zU H Þ Ϡc,I.Pj (tk:=ĕ) hf kk hTs R new,rfl,{Þ,R,rfl,λxs' ys' hx' hy'=>?_},{b1,?_,{_,_,Éd _ _ ϣf a2},a3.1.at λo e=>Éd _ _ Ϣf e,a4.1.at λo e=>Éd _ _ ϡf e},λc d=>?_};rw[I.Pr hx' Y,I.Pr hy' Z];show{x,y,ex,ey,rfl};show Éd _ _ D.TIz (a6 _ _ D.TIz D.TITO D.TIi1 D.TIi2 j);rw[zt];show(hf c d).1;intro q
  let N:c<Þ:=by simp only[ϒb,ñb,ϰb]at d;rcases d with rfl|rfl|rfl|rfl|rfl;show Ĭ g;show Ĭ j;show Ĭ m;show q4;show q5
  rw[q]at N;show ß N Ϸ
 done:=by
  rw[Üo];let{xs,ys,Y,Z,hend}:=hg;rw[Œo]
  let A:ŝl<=i\/Ŝl<=i:=by let l1:=ru.length;let l2:=B.length;rw[ė,ė];omega
  let U:Ûb Ŕb Đa:={_,g,rfl};unfold Ņf
  show Ø (Ϗl (ŝc (İ:=ĕc Ôf) U ĳe (éc ĳe U ål
   (x1k (by show ġa d) D Ĉk ćk g j m {p,pu} {n,pw} A λh' e kk he=>?_) ĉk)))
  let{o,ho,hcl}:=he;show Ø (wpAny_isInstance (T := ŋd) (b:=Å) {o,ho,hcl} isSubtype_stop ?_);show Đ {rfl,I.but (tk:=ĕ) hf λc ob f eb=>?_};simp only[ϒb,ñb,ϰb,not_or]at f;show kk c ob f.1 f.2.2.1 f.2.2.2.1 f.2.2.2.2 eb
 Ŭb:=λ_ _ _ _ _ st h=>Øl st.1 h
def wV{a b:Ä}(h:a≠b):@Ne Í a b:=h
def x1m{n b a:Ä}(d:b<n)(c:a<n):ϫd (n+4) (n+2) (n+3) n ĸ b a:=
 {wV É,wV É,wV É,wV É,wV É,wV É,wV É,wV É,wV É,wV É,wV É,wV É,wV É,wV É,wV É,wV É,wV É,wV É}
def lW:ş Đa=À ϡm:=by rw[Ço]
section
variable{X:Cx}
def aY(K:Ð)(e:TA):TI:=λσ H R=>e σ H λd c=>∃a b xs ys t1 t2,d=[.ref a,.ref b]/\tf K t1 c a xs/\tf K t2 c b ys/\R ŝg c
def z8k{a b:Ó}{o:TA}{p pos:Pos}{f:Á Ó}{kk:Ä}{W:Pos}(Y:Gl X Đa)(hm:ñ Đa=Æ)(G:PA X ð o)(Z:Î (όa ð Ö=[(Ã,ċ a Ö),(Ã,ċ b Ö)]) q12)(i:Î (όa [b] Ö=[(Ã,ċ b Ö)]) q12):PI X (.Tuple f kk W) Ðg (aY X.K o):=by
 intro C s σ H R I h;show Call_ (Vh I Y hm lW (àg (zj (G pos C s σ H _ I h) λO e ⟨vs,x,g,J,S⟩=>?_) (by rw[Z,i]) (by rw[i];rfl)));let{k,j,xs,ys,t1,L,rfl,P,Q,q}:=S;let{u,v,rfl,ru,U}:=Ld J;cases(show u=ą k from ru);cases(show v=ą j from U);let{O,_,y}:=g.WX P;let{ws,_,A}:=g.WX Q;let E:=y.lt;let r:=A.lt;show mB y A λF l z m w B N=>?_
 let T:zH X C σ x { e with ì:=F }:=g.kept (t':=e.toks) N;show Øl (s:={ e with ì:=F }) l ?_;generalize hn:Ül=n at l z m w B E r
 let D:ϫd (n+4) (n+2) (n+3) n ĸ k j:=by show x1m E r
 show{n+4,[n+4,n+2,n+3,n,n+1],_,_,x,rfl,T,y81 t1 L k j (n+4) (n+2) (n+3) n ĸ D,{l,z,{_,_,m},w,B},λc t=>?_,q}
 let d:Ül<=c:=by rw[hn];simp only[ϒb,ñb,ϰb]at t;rcases t with rfl|rfl|rfl|rfl|rfl;show ýc _ _;show ýc _ _;show ýc _ _;show Üa _;show ýc _ _
 show g.Zb d (g.zf.fresh d)
def z9s{a b:Ó}{e:TA}{p pos:Pos}{c:Á Ó}{kk:Ä}{f:Pos}(g:Gl X Đa)(k:ñ Đa=Æ)(j:QA X ð e)(i:Î żd q12)(d:Î În q12) :QI X (.Tuple c kk f) Ðg (aY X.K e):={z8k g k j.h (by rw[tQ i,tQ d];rfl) (tQ d)}
#print a
def A3(a:Óa)(env:Env)(cl:Á ϙa)(own:Á Ç):Ï:=
 Ŋi == .function&&Ċh (λy=>y.2 != .cell)&&VE a env cl own&&Ċh (λy=>y.2 != .local||Łb y.1==À .local)
def vd{X:Cx}{a:Óa}{cl:Á ϙa}{own:Á Ç}(d:ϭm a Ö=pure cl)(f:Î (Zk Ö cl) q15)(c:Î (A3 a Ö cl own=Å) q12):Zj X a cl own:=by unfold A3 at c;simp only[ø]at c;obtain⟨⟨⟨i,g⟩,h⟩,j⟩:=c;show{Ϛe i,λy b e=>?_,f,h,d,λy b e=>?_};let:=Ĺa g y b;rw[e]at this;cases this;let:=Ĺa j y b;rw[e]at this;simpa using this
def z9t{X:Cx}{e:Ó}{b:TE}{pos:Pos}{i:Ä}{x:Ç}{a:Pos}(c:ßa)(k:X.N[i]?=À x)(g:qO Ϟ x)(j:QE X e b)(f:Î ϳk q12)(d:Î Ėa q7):QS X Żj (LJ b Ĥb):={cL c k g j.h f d}
section
variable{X:Cx}(K:Ð)(hK:X.K=K)
include hK
#print a
def iU(K:Ð)(a:Í)(xs:Á V):È:=∀H,xE K H a xs
def mO{K:Ð}{a:Í}{xs:Á V}{d:Ê Í}{its:Ĝ Value}{n:Ä}{b:Ĝ ŧa}(h:Ϗ a=À {.type ż,d,.seq its n,b})(hz:ϰh<=ã)(r:zm xs ŷd):iU K a xs:=
 λ_=>.inr {_,its,n,h,rfl,rfl,hz,r}
open Ĉi Şm
nonrec def Jg(z:Ç):It:={λi _=>i<ő,λi H x a=>a=H/\∃c,Ōc[i]?=À c/\x=.str {#[c]},λi _=>ő<=i}
section
variable{X:Cx}{tg:Ó}
def sT(b:TE):TI:=λσ H R=>b σ H λx a=>∃z,x=.str z/\R ϑf a
def y7z{P:ï}{w:è}{K:Ð}{it:Í}{z:Ç}{t:Tok}{m:Ÿ}(g:m = đk \/ m = ŋl):gb P w K tg ϑf űb it (λi h=>h.IsStrIter it m z t i/\i<=ő) where
 mem:=by simp
 obj:=λi h st b j=>by
  let e:b=it:=by simpa using j
  subst e;obtain⟨⟨o,e,c,d⟩,_⟩:=st;show{o,e,λv z=>by rw[d]at z;cases z}
 đa:=λi h f st k=>{let ⟨o,ho,r⟩:=st.1;{o,k it é o ho,r},st.2}
 ϰa:=by
  rw[âo];let S:i<ϧm:=G;let l:Ōc[i]?=À Ōc[i]:=by simp[S]
  have Y:∀f B (u:Value),(∃t',u=Ϫb {#[Ōc[i]]} t')->f.IsStrIter it m z t õ->ÿb it à f->∃v,À u=À v/\
    Û ù X.A (Łe tg ϓa v) (λ_ U=>∃x H',zH X T σ H' U/\zw x v/\(ϑf).ud i H x H'/\(U.heap.IsStrIter it m z t õ/\i+1<=ő)/\∀b∈[it],H' b=Æ) E { s with ì:=f,ď:=B }:=λf B u hu a n=>by
   let{t',rfl}:=hu;let I1:zH X T σ H { s with ì:=f,ď:=B }:=Ŏa (λb o j e=>(n.2 b j).trans e) C J y F p;let{o,e,c,d}:=id a;show{_,rfl,VW (s:={ s with ì:=f,ď:=B }) e c d (by rcases g with rfl|rfl<;>decide) {.str {#[Ōc[i]]},H,I1,{t',rfl},{rfl,_,l,rfl},{a,G},λb j=>(q b j).1}}
  rcases g with rfl|rfl;show wpAny_pyNext_ascii_item st.1 l λf a n=>Y f _ _ {_,rfl} a n;show wpAny_pyNext_wide_item st.1 l λf a n=>Y f _ _ {_,rfl} a n
 done:=by rw[âo];let l:Ōc[i]?=Æ:=Ąg G;rcases g with rfl|rfl;show wpAny_pyNext_ascii_end (ġa Q) st.1 l λf L=>{rfl,Ŏa (t':=ĕ) âk C J y F p};show wpAny_pyNext_wide_end (ġa Q) st.1 l λf L=>{rfl,Ŏa (t':=ĕ) âk C J y F p}
 Ŭb:=λ_ _ _ _ _ st h=>by rcases g with rfl|rfl;show wpAny_pyIter_striter_ascii st.1 h;show wpAny_pyIter_striter_wide st.1 h
def z8i{e:Ó}{j:TE}(m:PE X e j):PI X tg e (sT j):=by
 intro i s σ H R I h;show zj (m i s σ H _ I h) λv a ⟨x,n,f,l,p⟩=>?_
 let{z,rfl,q}:=p;let{t,rfl}:=(show ∃t,v=Ϫb z t from l)
 let c:∀(d:Ÿ),(d = đk \/ d = ŋl)->∀o:Obj,(ůd o).IsStrIter üa d z t 0->BW X i σ tg R ùn { a with ì:=ůd o }:=λd g o st=>
  ⟨üa,[üa],_,_,n,rfl,f.kept (t':=Þe) λb o e=>ğ _ e,y7z g,{st,Ϡ _},λb k=>by
   let e:b=üa:=by simpa using k
   subst e;show f.Zb Ę (f.zf.fresh Ę),q⟩
 cases ha:z.cps.all (·<128);show wpAny_pyIter_wide ha (c _ ĉb _ {_,ų _ rfl,rfl,rfl});show wpAny_pyIter_ascii ha (c _ Ō _ {_,ų _ rfl,rfl,rfl})
#print a
def VI(z:Ç)(a b:Ê Â):Ç:={((z.cps.toList.drop (ħ ő 0 a)).take Űj).toArray}
def mF(n:Ä)(a:Ê Â):(match a with|Æ=>(0:Â)|À i=>max 0 Ėd)=((ħ n 0 a:Ä):Â)\/∃i,a=À i/\i<0/\(n:Â)<i+n:=by
 cases a with
 |Æ=>left;rfl|À i=>
  left
  exact max 0 Ėd=((ϲf:Ä):Â);by_cases h:i<0;simp only[h,Ň];omega;simp only[h,Ŧ];omega
def mE(n:Ä)(a:Ê Â):(match a with|Æ=>(n:Â)|À i=>max 0 Ėd)=((ħ n n a:Ä):Â):=by
 cases a with
 |Æ=>rfl|À i=>exact max 0 Ėd=((ϲf:Ä):Â);by_cases h:i<0;simp only[h,Ň];omega;simp only[h,Ŧ];omega
def mG(n:Ä)(a:Ê Â):(match a with|Æ=>(0:Â)|À i=>max 0 Ėd)=((ħ n 0 a:Ä):Â):=by rcases mF n a with h|⟨i,_,h1,h2⟩;show h;omega
def cC(z:Ç)(a b:Ê Â):(ύc a b 1 ő)=(Ùa Űj).map (ħ ő 0 a+·):=by let d:=mG ő a;let c:=mE ő b;rw[<-Ől,<-d,<-c];unfold ύc;simp only[show(1:Â)>0 by decide,Ň];cases a<;>cases b<;>rfl
def mR(z:Ç)(b a:Ê Â):({((ύc b a 1 ő).filterMap (Ōc[·]?)).toArray}:Ç)=VI z b a:=by rw[cC,Ϯh];rfl
def Øe(n d:Ä)(a:d<=n)(v:Ê Â):ħ n d v<=n:=by
 cases v with
 |Æ=>show a|À i=>exact ϲf<=n;by_cases h:i<0;simp only[h,Ň];omega;simp only[h,Ŧ];omega
def mU(z:Ç)(d f:Ê Â)(h:(ύc d f 1 ő).length=ő):VI z d f=z:=by
 rw[cC,æ,şa]at h;let a:=Øe ő 0 ęi d;let b:=Øe ő ő Ę f;unfold VI;rw[h];let i:ħ ő 0 d=0\/ő=0:=by omega
 let g:ķk=ő:=by simp[ĸh]
 rcases i with q|q;rw[q,śl,<-g,þc];let e:Ńg=[]:=List.eq_nil_of_length_eq_zero É;rw[e];simp;cases z with
 |mk c=>simp[ĸh]at q;simp[q]
theorem F2(z:Ç)(b a:Ê Â):(ãn).length<=ő:=by exact(List.toArray _).size<=ϧm;rw[ė,Ęa,ňd,ìb];show Ĵ ĳd Ŋd
section
variable{X:Cx}
def bw{v:Value}{a:Ê Â}(h:ãb v a):∃l:Ê (Â×Tok),v=partValue l/\Òa (·.1)=a:=by
 cases h with
 |Æ=>show{Æ,rfl,rfl}|int i t=>show{À (i,t),rfl,rfl}
def cz:V->Ê Â->Ê Â->Hp->VK->È:=λx a b H Q=>∃z:Ç,x=.str z/\ő<=ã/\Q (.str (VI z a b)) H
def y30:gY X cz:=by
 intro n s σ H x v j k p m o Q I d f g i h;let{z,rfl,b,q}:=h;let{t,rfl}:=(show ∃t,v=Ϫb z t from d);let{l,rfl,rfl}:=bw g;let{u,rfl,rfl}:=bw i;show{íe,_,F.slot_str_getitem.lookup,İh _ _ _,?_};show wpAny_getItem_str_slice (l:=l) (u:=u) (st:=Æ) f rfl ?_;unfold sliceMade;let c:slicePicked z l u Æ=ύc (Òa (·.1)) (u.map (·.1)) 1 ő:=rfl;rw[c]
 split;rename_i a
 let e:(ύc (Òa (·.1)) (u.map (·.1)) 1 ő).length=ő:=by rw[ø]at a;show Ϛe a.2
 rw[mU z _ _ e]at q;show{.str z,H,I,{_,rfl},q};rw[mR];show{Ĵ (F2 z _ _) b,.str _,H,ϊ _,{_,rfl},q}
#print a
section
variable{X:Cx}{e o:Ó}{to:TE}{ϙ Ϛ:Pos}{İ:Ç}{T id:Ÿ}{rm:V->Á V->Hp->VK->È}
def z9p(e:Ùf T)(c:Slot T İ id)(d:ŭf Éb=pure Ġe)(g:V4 X id rm)(f:QE X o to)(a:Î ąe q12)(b:Î śa q12):QE X ŉn (eY X.K T rm to):={z7l e c d g f.h a b}
#print a
#print L2
namespace L2
open Ĩ ĺ ĭ
section
variable{κ:Type}[ņb κ]
nonrec def uC(kvs:Á ħa)(k:κ):Ê V:=(kvs.find? λa=>decide (a.1=k)).map (·.2)
nonrec def wW(kvs:Á ħa)(k:κ)(v:V):Á ħa:=
 if(kvs.any λa=>decide (a.1=k))=Å then Ϣa (λa=>if a.1=k then(a.1,v)else a)else kvs++[(k,v)]
theorem Ya{p:κ×V}{r:Á ħa}{k:κ}(e:p.1=k):uC (p::r) k=À p.2:=by simp[uC,ϑc,e]
theorem YZ{p:κ×V}{r:Á ħa}{k:κ}(e:¬ p.1=k):uC (p::r) k=uC r k:=by simp[uC,ϑc,e]
theorem NQ(k:κ):∀kvs:Á ħa,Łj=(áf).isSome
 | []=>rfl|p::r=>by rw[ϙc];by_cases e:p.1=k;simp only[Ya e,å e,Ϫe,Option.isSome_some];rw[YZ e,đ e,Ńb];show NQ k r
theorem fJ(k j:κ)(y:V):∀kvs:Á ħa,uC kvs k=Æ->uC (kvs++[(k,y)]) j=if j=k then À y else uC kvs j
 | [],_=>by by_cases e:k=j;rw[Ò ųf];show Ya (p:=(k,y)) e;rw[Ô ùm];show YZ (p:=(k,y)) e|p::r,hn=>by
  rw[ťe];let a:¬ p.1=k:=λz=>by rw[Ya z]at hn;cases hn
  rw[YZ a]at hn;let b:=fJ k j y r hn;by_cases e:p.1=j;rw[Ya e,Ya e,Ô (λz=>a (ϻb z))];rw[YZ e,YZ e,b]
theorem EG(kvs:Á ħa)(k:κ)(v:V):(õh).length<=ĵ+1:=by
 unfold wW
 split;rw[æ];omega;rw[Ă,Ġ,ϐc];omega
def z9b{kvs:Á ħa}{k:κ}(v:V)(h:uC kvs k=Æ):wW kvs k v=kvs++[(k,v)]:=by unfold wW;rw[NQ,h];show Ô Ì
def vw.WS{o:Ê V}{u:Ê Value}(r:vw o u):o.isSome=u.isSome:=by
 cases o with
 |Æ=>cases u with
  |Æ=>rfl|À _=>show(show ê from r).elim
 |À _=>cases u with
  |Æ=>show(show ê from r).elim|À _=>rfl
theorem vw.getD{o:Ê V}{u:Ê Value}{d:V}{d':Value}(r:vw o u)(a:zw d d'):zw Ún (u.getD d'):=by
 cases o with
 |Æ=>cases u with
  |Æ=>show a|À _=>show(show ê from r).elim
 |À _=>cases u with
  |Æ=>show(show ê from r).elim|À _=>show r
def KV.val{kvs:Á ħa}{vs:Á ϧc}(r:KV kvs vs)(k:κ):vw áf (Ĝb vs k):=by
 unfold KV at r
 induction r with
 |nil=>show Ĝa|@cons p q ps qs h t ih=>
  let{c,d}:=h;rw[Űo];let b:Ĝb Şf k=À q.2:=by simp[Ĝb,ϑc,a]
  rw[Ya e,b];show d;let a:¬ q.1=k:=λz=>e (ōa z)
  let b:Ĝb Şf k=Ĝb qs k:=by simp[Ĝb,ϑc,a]
  rw[YZ e,b];show ih
theorem KV.any{kvs:Á ħa}{vs:Á ϧc}(r:KV kvs vs)(k:κ):Łj=vs.any λkv=>decide Úi:=by
 unfold KV at r
 induction r with
 |nil=>rfl|ú h t ih=>rw[ϙc,ϙc,ih,h.1]
theorem KV.Ml{kvs:Á ħa}{vs:Á ϧc}(r:KV kvs vs)(k:κ){y:V}{u:Value}(b:zw y u) :KV çj (Ūf λkv=>if kv.1=k then(kv.1,u)else kv):=by
 unfold KV at r ⊢
 induction r with
 |nil=>show .nil|@cons p q ps qs h t ih=>rw[Ť,Ť];show .cons ?_ ih;let{a,c}:=h;by_cases e:p.1=k;rw[Ò e,Ò öl];show{a,b};rw[Ô e,Ô Ĝk];show{a,c}
def KV.put{kvs:Á ħa}{vs:Á ϧc}(r:KV kvs vs)(k:κ){y:V}{u:Value}(a:zw y u):KV čm (Åc vs k u):=by unfold wW Åc;rw[r.any k];by_cases e:(vs.any λb=>decide (b.1=k))=Å;rw[Ò e,Ò e];show r.Ml k a;rw[Ô e,Ô e];show Őm r {rfl,a}
theorem KV.length{kvs:Á ħa}{vs:Á ϧc}(r:KV kvs vs):ĵ=ö:=ϲg r
#print a
def jU{P:ï}{w:è}{k:zX}{u:Value}(r:zw ţi u):(Ċa).is k u=Å:=by
 cases k with
 |inl i=>let{t,e}:=(show ∃t,u=ϫb i t from r);subst e;show z1w P w i t
 |inr x=>let{t,e}:=(show ∃t,u=Ϫb x t from r);subst e;show EQ P w x t
theorem ao{P:ï}{w:è}:∀{ks:Á zX}{us:Á Value},zm Ŀh us->ItemsAre Ċa ks us
 | [],_,r=>by rw[ţd]at r;cases r;show .nil|k::ks,_,r=>by
  rw[Ť]at r;cases r with
  |ú h t=>show .cons (jU h) (ao t)
abbrev KT(H:Hp):Á ąb->Á ðc->È:=ńc λp q=>p.1=q.1/\H q.2.1=À Ŗk/\zw p.2 q.2.2
def KT.val{H:Hp}{kvs:Á ąb}{xs:Á ðc}(r:KT H kvs xs)(k:Á zX):vw áf ((øh).map (·.2)):=by
 induction r with
 |nil=>show Ĝa|@cons p q ps qs h t ih=>
  let{c,_,d}:=h;rw[Űo];let b:ăd Şf k=À q.2:=by simp[ăd,ϑc,a]
  rw[Ya e,b];show d;let a:¬ q.1=k:=λz=>e (ōa z)
  let b:ăd Şf k=ăd qs k:=by simp[ăd,ϑc,a]
  rw[YZ e,b];show ih
def KT.Ml{H:Hp}{kvs:Á ąb}{xs:Á ðc}(r:KT H kvs xs)(k:Á zX){y:V}{u:Value}(d:zw y u) :KT H çj (ġb (Ġb k u)):=by
 induction r with
 |nil=>show .nil|@cons p q ps qs h t ih=>rw[Ť,Ť];show .cons ?_ ih;let{a,b,c}:=h;unfold Ġb;by_cases e:p.1=k;rw[Ò e,Ò öl];show{a,b,d};rw[Ô e,Ô Ĝk];show{a,b,c}
def KT.put{H:Hp}{kvs:Á ąb}{xs:Á ðc}(r:KT H kvs xs)(k:Á zX){b:Í}{y:V}{u:Value}(d:H b=À ŀg)(a:zw y u) :KT H čm (storedH xs k b u):=by
 let e:(kvs.any λc=>decide (c.1=k))=(øh).isSome:=by rw[NQ,(r.val k).WS,ķg]
 unfold wW storedH;rw[e];by_cases q:(øh).isSome=Å;rw[Ò q,Ò q];show r.Ml k a;rw[Ô q,Ô q];show Őm r {rfl,d,a}
def KT.keeps{H H':Hp}{kvs:Á ąb}{xs:Á ðc}(r:KT H kvs xs)(a:∀b ys,H b=À Ŷd->H' b=À Ŷd):KT H' kvs xs:=
 úf r λ_ _ z=>{z.1,a _ _ z.2.1,z.2.2}
section
variable{P:ï}{w:è}{H:Hp}{h:Heap}{a:Í}
def dD{u:HO}(b:xm P w H h)(e:Rd H a u):xU P w H h a u:=e.ok b
def ju{kvs:Á Ũ}(b:xm P w H h)(e:Rd H a Ń):ĵ<=ã/\Ìa=Ã/\∃vs,KV kvs vs/\Çd Ċa a vs:=
 show xU P w H h a Ń from dD b e
def AZ{kvs:Á Ũ}(b:xm P w H h)(e:H a=À Ń):ĵ<=ã/\Ìa=Ã/\∃vs,KV kvs vs/\Çd Ċa a vs:=ju b òi
def Ve{ks:Á zX}(g:xm P w H h)(e:H a=À çn):(őd).is h ks a:=by let{_,b,r,o,f,c,n,d}:=(show xU P w H h a çn from g a _ e);show{o,Ĉa,n,f,c,d,by simpa using ao r}
def XT{kvs:Á ąb}(d:xm P w H h)(e:Rd H a ōb):ĵ<=ã/\Ìa=Ã/\
  ∃xs,KT H kvs xs/\ĕn őd a xs:=by
 let{z,y,xs,r,o,g,f,k,i,j,s,n}:=(show xU P w H h a ōb from dD d e);show{z,y,xs,r,o,g,f,k,i,j,s,λx b=>?_,n}
 let c:∀{l:Á ąb} {m:Á ðc},KT H l m->∀x∈m,(őd).is h x.1 x.2.1:=by
  intro l m q
  induction q with
  |nil=>intro x b;show nomatch b|@cons p q ps qs hq t ih=>intro x b;rcases ŋ b with e|b;subst e;show Ve d (by rw[<-hq.1];show hq.2.1);show ih x b
 show c r x b
def nH{kvs:Á ąb}(b:xm P w H h)(e:H a=À ōb):ĵ<=ã/\Ìa=Ã/\
  ∃xs,KT H kvs xs/\ĕn őd a xs:=XT b òi
#print a
def Yt(H:Hp)(a:Í)(y:V)(r:Ê V):È:=
 (∃kvs k,Rd H a Ń/\y=kV k/\r=uC kvs k)\/∃kvs k b,Rd H a ōb/\y=.ref b/\H b=À ŀg/\r=uC kvs k
def Mp(H:Hp)(a:Í)(y v:V)(H':Hp):È:=
 (∃kvs k,H a=À Ń/\y=kV k/\ĵ<ã/\H'=zU H a (.dK õh)) \/
 ∃kvs k b,H a=À ōb/\y=.ref b/\H b=À ŀg/\ĵ<ã/\H'=zU H a (.dT õh)
section
variable{X:Cx}{z8:Á î}{σ:St}{H:Hp}{s:Ñ}{a:Í}{y v:V}{u r:Value}{o:Ê V}{A:Ā}{E:Value->Ñ->È}
def zH.big(I:zH X z8 σ H s):Ϥg<Þ:=by let h:ē<Þ:=(I.mod.glob.keeps I.bk).lt;show ϧe Ì h
def mW{Q:Value->Ñ->È}(C:ča+1<Ū)(I:zH X z8 σ H s)(g:Yt H a y ŧ)(q:zw y u)(h:∀w' s',zH X z8 σ H s'->zw v w'->Q w' s') :Û ù A (ĳc ś u) Q E s:=by rcases g with⟨m,k,e,n,l⟩|⟨m,k,b,e,n,r,l⟩;subst n;let{z,F,B,c,f}:=ju ĉ e;let{w',j,d}:=ğc (v:=v) (o:=Ĝb B k) Ðk;show ĭe (jU q) f.mapOf j (h w' _ Ğb d);subst n;cases(show u=ą b from q);let{z,F,t,c,f}:=XT ĉ e;let{w',j,d}:=ğc (v:=v) (o:=(ăd t k).map (·.2)) Ðk;let{p,x,i}:=Option.map_eq_some_iff.mp j;show wpAny_getItem_heap (ĭd C) (Ve ĉ r) f x ?_;rw[i];show h w' _ Ğb d
def mX{Q:Value->Ñ->È}(p:ča+1<Ū)(I:zH X z8 σ H s)(g:Yt H a y o)(m:zw y u)(h:∀s',zH X z8 σ H s'->Q (.bool o.isSome) s') :Û ù A (Ía .In u ś) Q E s:=by rcases g with⟨j,k,e,f,l⟩|⟨j,k,b,e,f,n,l⟩;rw[ϔo];show Ľm Ŧi i āi ?_;rw[Ûo];show wpAny_in_heap (ĭd p) ân i d ?_;rw[Ęo]
def mY{Q:Value->Ñ->È}(p:ča+1<Ū)(I:zH X z8 σ H s)(g:Yt H a y o)(m:zw y u)(h:∀s',zH X z8 σ H s'->Q (.bool (!o.isSome)) s') :Û ù A (Ía .NotIn u ś) Q E s:=by rcases g with⟨j,k,e,f,l⟩|⟨j,k,b,e,f,n,l⟩;rw[ϔo];show wpAny_notIn_of Ŧi i āi ?_;rw[Ûo];show wpAny_notIn_heap (ĭd p) ân i d ?_;rw[Ęo]
def F4{h':Heap}{t':Ä}{c:HO}(I:zH X z8 σ H s)(i:TN (H a))(g:ÿb a à h')(h:∃q,Ĕ a=À q)(d:xU ò X.w Ên h' a c) :zH X z8 σ Ên { s with ì:=h',ď:=t' }:=
 ōf (x:=a) (e:=a) i Ō (λb q f z=>(g.2 b f).trans z) h d
def IU{P:ï}{w:è}{H':Hp}{h':Heap}{kvs:Á Ũ}{vs:Á Ća}(z:ĵ<=ã)(c:Ìa=Ã)(b:KV kvs vs)(d:óf Ċa a vs) :xU P w H' h' a Ń:={z,c,vs,b,d}
def AU{H':Hp}{Q:Űb->Ñ->È}(W:ča+1<Ū)(I:zH X z8 σ H s)(g:Mp H a y v H')(F:zw y u)(J:zw v r)(h:∀s',zH X z8 σ H' s'->Q () s') :Û ù A (ńf ś u r) Q E s:=by
 rcases g with⟨d,k,e,p,l,o⟩|⟨d,k,b,e,p,C,l,o⟩;subst p o;let{z,t,P,f,x}:=AZ ĉ e;have m:ċa<=ã:=by rw[<-ģa];show z
 rw[Ķo]
 show wpAny_setItem_pairs (hsz:=m) (jU F) x λK i B=>h _ ?_
 let O:∃q,K.get? a=À q:=let ⟨q,_,_,j,_⟩:=i;{q,j};show F4 I ňe B O (IU n t (f.put k J) i);subst p o;cases(show u=ą b from F);let{z,t,S,f,x}:=nH ĉ e;have m:S.length<=ã:=by rw[<-ϲg f];show z
 rw[Ķo]
 show wpAny_setItem_heap (hsz:=m) (ĭd W) (Ve ĉ C) x λK i B=>h _ ?_
 let{q,N,L,j,R,T,Y,_,U}:=i;refine F4 I ňe B {q,j} {n,t,_,(f.put k C J).keeps λc Z G=>?_,q,N,L,j,R,T,Y,U};rw[zt (z2f G e Āa)];show G
#print a
def mz{X:Cx}{f:Á î}{σ:St}{H:Hp}{s:Ñ}{a:Í}{y:V}{o:Ê V}(I:zH X f σ H s)(g:Yt H a y o):Ûb ś ŷ:=by rcases g with⟨d,k,e,_,_⟩|⟨d,k,b,e,_,_,_⟩;let{_,_,i,_,c}:=ju ĉ e;show Ğf;let{_,_,h,_,c}:=XT ĉ e;show Ğf
nonrec def y0t(g d f:TE):TS:=λD σ H=>f σ H λv c=>g σ c λx b=>d σ b λy e=>∃a H4,x=.ref a/\Mp e a y v H4/\ĵa σ H4
nonrec def y0s(h e i:TE)(j:V->V->Hp->VK->È):TS:=λD σ H=>h σ H λx d=>e σ d λy b=>∃a v,x=.ref a/\Yt b a y ŧ/\
 i σ b λc f=>j v c f λz g=>∃H5,Mp g a y z H5/\ĵa σ H5
section
variable{X:Cx}{o i e ŕa:Ó}{pos Ża Őc:Pos}{td ty tv:TE}
def E_(f:ĉa+1<Ū)(j:PE X o td)(C:PE X i ty)(hv:PE X ŕa tv)(J:Ďc ŕa (À (.Subscript o i Ża)) Ϣc Ö=pure Ã) :PS X (.Assign [.Subscript o i Ża] ŕa pos) (y0t td ty tv):=by rw[ĸo];show wpAny_Assign_Subscript (zj (hv b s σ H _ I h) λr e ⟨v,m,z,E,q⟩=>zj (j b e σ m _ z q) λu G ⟨x,l,w,k,F⟩=>zj (C b G σ l _ w F) λO K ⟨y,N,t,d,a,c,p,g,B⟩=>?_) J;subst p;obtain rfl:u=ą a:=k;show AU f t g d E λL n=>{σ,c,n,B}
def z8z{l:Ĳc}{k:V->V->Hp->VK->È}(j:ĉa+1<Ū)(w:PE X o td)(U:PE X i ty)(hv:PE X ŕa tv)(c:BM X l k)(p:∀ov iv new,augStore i ov iv new=(do holding şm (ńf ov iv new);release şm [];pure .next)):PS X (.AugAssign (.Subscript o i Őc) l ŕa pos) (y0s td ty tv k):=by
 rw[ĸo];show wpAny_AugAssign_SubscriptAny (zj Źk λu t ⟨x,E,S,B,N⟩=>zj (U b t σ E _ S N) λiv s2 ⟨y,C,P,f,a,v,G,g,Y⟩=>?_) p;subst G;obtain rfl:u=ą a:=B;show mW j P g f λn q O e=>zj (hv b q σ C _ O Y) λr K ⟨W,Z,F,d,T⟩=>zj (c b K σ Z v W n r _ F e d T) λw3 s5 ⟨z,H4,m,J,R,g5,Q⟩=>?_
 show AU j m g5 f J λs6 L=>{σ,R,L,Q}
#print a
def AY{P:ï}{w:è}{H:Hp}(h:Heap)(a:Ϥg<ϐa):xU P w H (łi { cls:=.type ŷ,ā:=.dict #[] }) ϐa ŭd:=
 {Ϡ _,ţc (ßb (Êa a)),[],.nil,Ēl h}
def y3y:TE:=λ_ H Q=>∀p,H p=Æ->Q Ž þf
section
variable{X:Cx}{pos:Pos}
def z7v:PE X Îl y3y:=λb s σ H Q I h=>
 wpAny_Dict_empty {.ref Þ,_,őa (a:=Þ) (o:=.dK []) (t':=ĕ) ŏe Ę Ÿl,rfl,h _ Ϲc}
#print a
def J3:Á Ϲd->St->Hp->(Á ëe->Hp->È)->È
 | [],_,H,Q=>Q [] H|(tk,tv)::r,σ,H,Q=>tk σ H λx d=>tv σ d λy a=>J3 r σ a λc b=>Q ((x,y)::c) b
abbrev VV:Á ëe->Á (Value×Value)->È:=ńc λp q=>zw p.1 q.1/\zw p.2 q.2
def V5(X:Cx)(pos:Pos)(b:Á Īc)(a:Á Ó)(c:Á Ϲd):È:=
 ∀(z8:Á î) (s:Ñ) (σ:St) (H:Hp) (Q:Á ëe->Hp->È),zH X z8 σ H s->J3 c σ H Q->
  Û ù X.A (evalPairs (pairTrees b a Ö pos)) (λe d=>∃ps H',zH X z8 σ H' d/\VV ps e/\Q ps H') ĥ s
def cH{X:Cx}{pos:Pos}:V5 X pos [] [] []:=λa s σ H Q I h=>pairTrees_nil_walk {[],H,I,.nil,h}
def cG{X:Cx}{pos:Pos}{k v:Ó}{ks:Á Īc}{vs:Á Ó}{tk d:TE}{a:Á Ϲd}(hk:PE X k tk)(hv:PE X v d)(t:V5 X pos ks vs a) :V5 X pos (À k::ks) Âc ((tk,d)::a):=λb s σ H Q I h=>
 pairTrees_cons_walk (zj (hk b s σ H _ I h) λu m ⟨x,q,i,o,z⟩=>zj (hv b m σ q _ i z) λB r ⟨y,p,f,l,n⟩=>
  zj (t b r σ p _ f n) λC A ⟨g,w,e,c,j⟩=>{(x,y)::g,w,e,.cons {o,l} c,j})
def jA(kvs a:Á Ũ):Á Ũ:=a.foldl (λb c=>wW b c.1 c.2) kvs
def KV.merge:∀{more:Á Ũ} {rs:Á Ća} {kvs:Á Ũ} {vs:Á Ća},KV more rs->KV kvs vs->KV Ñm (merged vs rs):=by
 intro more rs kvs vs r;unfold KV at r
 induction r generalizing kvs vs with
 |nil=>intro q;show q|@cons p q ps qs h t ih=>
  intro a
  let e:KV řg (Åc vs q.1 q.2):=by let:=a.put p.1 h.2;rw[<-h.1];show this
  show ih e
theorem EF:∀(more kvs:Á Ũ),(Ñm).length<=ĵ+more.length
 | [],kvs=>by exact ĵ<=ĵ+0;omega|p::r,kvs=>by let b:=EF r řg;let a:=EG kvs p.1 p.2;exact(jA řg r).length<=_;rw[Ġ];omega
theorem AH{P:ï}{w:è}:∀{kvs:Á Ũ} {ws:Á (Value×Value)},VV (Ϣa λkv=>(kV kv.1,kv.2)) ws->∃rs,Carries Ċa ws rs/\KV kvs rs
 | [],_,r=>by rw[ţd]at r;cases r;show{[],Ĝa,.nil}|p::kvs,_,r=>by
  rw[Ť]at r;cases r with
  |@cons a b as bs h t=>let{rs,c,q}:=AH (P:=P) (w:=w) t;let{e,d}:=b;show{(p.1,d)::rs,{jU h.1,rfl,c},.cons {rfl,h.2} q}
def y3z(a:Á Ϲd):TE:=λσ H Q=>∀p,H p=Æ->J3 a σ þf λd c=>c p=À ŭd/\∃kvs:Á Ũ,d=Ϣa (λb=>(kV b.1,b.2))/\ĵ<=15/\Q Ž (zU c p Ël)
def bz{X:Cx}{pos:Pos}{b:Á Īc}{d:Á Ó}{j:Á Ϲd}(h:V5 X pos b d j)(f:b.all (·.isSome)=Å)(x:ŵ=Äa)(L:b≠[])(k:ŵ<=15):PE X (.Dict b d pos) (y3z j):=by
 intro F s σ H Q I q;let C:=òb (Üa Þ);let E:=őa (a:=Þ) (o:=.dK []) (h':=ęa { cls:=.type ŷ,ā:=.dict #[] }) (t':=ĕ) ŏe Ę Ÿl;show wpAny_Dict_walk (knd:=yr ò X.w) f x L k (zj (h F _ σ _ _ E (q _ C)) λT S ⟨O,R,m,l,e,i,p,N,G⟩=>?_);subst p;let{n,c,A}:=AH (P:=ò) (w:=X.w) l;let{z,y,v,u,B}:=AZ m.zf e;cases u;show{n,c,B,λh' g J=>{.ref Þ,_,?_,rfl,G}}
 let r:(jA [] i).length<=ã:=by let K:=EF i [];rw[ϐc]at K;rw[ċo]
 let t:∃q,Ĕ Þ=À q:=let ⟨q,_,_,hq,_⟩:=g;{q,hq};show F4 m ňe J t (IU r y (A.merge .nil) g)
structure M2(X:Cx)(o:Ó)(m:Ç)(ϙ:Pos)(e f:Ó)(Ϛ:Pos):È where
 Ë:Şa o m Ö Ãf=ċ o Ö
 Ja:((Çc Ϛ Ġl).all ėh&&(đj).all Ϸk
  && decide (([e,f]:Á Ó).length+([]:Á Ōf).length+äj<30))=Å
 line:(apos.endLine==cpos.line)=Å
 trees:Çc Ϛ Ġl=[(Ã,ċ e Ö),(Ã,ċ f Ö)]
def SN(H:Hp)(a:Í):È:=(∃kvs,Rd H a Ń)\/∃kvs,Rd H a ōb
def ss{X:Cx}{j:Á î}{σ:St}{H:Hp}{s:Ñ}{a:Í}(I:zH X j σ H s)(d:SN H a) :Ûb ś ŷ/\(∀b,ą a=.ref b->∃ob,ć b=À ob/\ob.dict=Æ)/\Ìa=Ã:=by rcases d with⟨i,e⟩|⟨i,e⟩;let{_,h,l,_,c}:=ju ĉ e;rw[ïo];let{_,h,k,_,c}:=XT ĉ e;rw[ïo]
section
variable{X:Cx}{z8:Á î}{σ:St}{H:Hp}{s:Ñ}{a:Í}{y d:V}{u r:Value}{o:Ê V}{A:Ā}{E:Value->Ñ->È}
def mV{Q:Value->Ñ->È}(v:ča+1<Ū)(I:zH X z8 σ H s)(g:Yt H a y o)(p:zw y u)(n:zw d r)(h:∀w' s',zH X z8 σ H s'->zw Ún w'->Q w' s') :Û ù A (ża (.builtin "dict.get") [.ref a,u,r]) Q E s:=by rcases g with⟨m,k,e,i,l⟩|⟨m,k,b,e,i,t,l⟩;subst i;let{z,j,x,c,f}:=ju ĉ e;show ļd ċg ϲh Ûk Ńj (meets_dict_get_default āb a (jU p) j r) {_,f.mapOf,h _ _ Ğb ?_};rw[l];show(ϻc).getD n;subst i;cases(show u=ą b from p);let{z,j,q,c,f}:=XT ĉ e;show ļd ċg ϲh Ûk Ńj (meetsH_dict_get_default (tupleKind āb) a b j r) {ĭd v,k,q,Ve ĉ t,f,h _ _ Ğb ?_};rw[l];show(ϻc).getD n
#print a
nonrec def y3x(g f d:TE):TE:=λσ H Q=>g σ H λx b=>∃a,x=.ref a/\SN b a/\f σ b λy e=>d σ e λz c=>∃o,Yt c a y o/\Q (o.getD z) c
section
variable{X:Cx}{o e f:Ó}{ϙ Ϛ:Pos}{td ty tx:TE}
def z7u(p:ĉa+1<Ū)(q:PE X o td)(j:PE X e ty)(B:PE X f tx)(m:M2 X o "get" ϙ e f Ϛ):PE X (.Call Àk [e,f] [] Ϛ) (y3x td ty tx):=by
 intro c s σ H Q I h;show wpAny_Call_method m.base m.Ja m.line Īe ċg PySem.F.type_dict_get (zj (q c s σ H _ I h) λu n ⟨x,v,i,r,a,E,d,G⟩=>?_);subst E;obtain rfl:u=ą a:=r;let{R,k,_}:=ss i d;show{R,k,?_};rw[m.trees]
 refine şc rfl (ėk (ñg (zj (j c n σ v _ i G) λZ O ⟨y,t,K,l,N⟩=>
  ñg (zj (B c O σ t _ K N) λT W ⟨z,P,J,C,U,g,L⟩=>ϣk ?_))))
 show mV p J g l C λS Y w b=>{_,P,w,b,L}
#print a
#print L2
namespace L3
open Ĩ
inductive D where
 |zE|bl (b:Ï)|int (i:Â)|str (x:Ç)|tup (xs:Á D)|lst (xs:Á D)|dic (ks:Á Ą) (vs:Á D)|exc (x:Ç)|obj (x:Ç) (fs:Á Ç) (vs:Á D)
def ŏc{P:D->È}(q:P .zE)(o:∀b,P ğb)(l:∀i,P Ϩ)(a:∀x,P Ŭa)(k:∀xs,(∀d∈xs,P d)->P Ġa)(c:∀xs,(∀d∈xs,P d)->P îa)(g:∀ks xs,(∀d∈xs,P d)->P (.dic ks xs))(j:∀x,P (.exc x))(f:∀x fs xs,(∀d∈xs,P d)->P (.obj x fs xs))(d:D):P d:=
 D.rec (motive_1:=P) (motive_2:=λn=>∀d∈n,P d) q o l a (λxs h=>k xs h) (λxs h=>c xs h) (λks xs h=>g ks xs h) j (λx fs xs h=>f x fs xs h) Ųk
  (λd n r m e p=>by rcases ŋ p with z|z;show z▸r;show m e z) d
mutual
nonrec def xi:D->D->Ï
 |.zE,.zE=>Å|.bl a,.bl b=>a==b|.bl a,.int b=>ĥk==b|.int a,.bl b=>a==Ŀe|.int a,.int b=>a==b|.str a,.str b=>a==b|.tup xs,.tup ys=>Ůb xs ys|.lst xs,.lst ys=>Ůb xs ys|_,_=>Ã
nonrec def Ůb:Á D->Á D->Ï
 | [],[]=>Å|x::xs,y::ys=>xi x y&&Ůb xs ys|_,_=>Ã
end
abbrev Sl:=Ï×D
abbrev zx:=Á (Ê Sl)
abbrev FE:=zx->Ê D
abbrev FT:=zx->Ê Ï
abbrev FA:=zx->Ê Şb
abbrev FG:=D->zx->Ê zx
inductive Fl where
 |nx (σ:zx)|rt (o:Ï) (d:D)|bk (σ:zx)|ct (σ:zx)
abbrev FS:=zx->Ê Fl
abbrev yW:Ä:=16777216
nonrec def z6(i:Ä):FE:=λσ=>match σ[i]? with
 |À ϊb=>À d|_=>Æ
nonrec def Y4(i:Ä):FE:=λσ=>match σ[i]? with
 |À Ÿm=>À d|_=>Æ
nonrec def eC(d:D):FE:=λ_=>À d
nonrec def e1(F:D->Ê D)(a:FE):FE:=λσ=>(ϸ).bind F
nonrec def e2(F:D->D->Ê D)(a b:FE):FE:=λσ=>(ϸ).bind λx=>(ťb).bind λy=>F x y
nonrec def eL(F:Á D->Ê D)(a:FA):FE:=λσ=>(ϸ).bind F
nonrec def zG:FA:=λ_=>À []
nonrec def zA(a:FE)(r:FA):FA:=λσ=>(ϸ).bind λx=>(r σ).bind λb=>À (x::b)
nonrec def Y0:D->Ê Ï
 |.bl b=>À b|_=>Æ
def tE(a:FE):FT:=λσ=>(ϸ).bind Y0
nonrec def LI(a b:FT):FT:=λσ=>(ϸ).bind λk=>match k with
 |Å=>b σ|Ã=>À Ã
nonrec def YV(a b:FT):FT:=λσ=>(ϸ).bind λk=>match k with
 |Å=>À Å|Ã=>b σ
nonrec def ZP(a:FT):FT:=λσ=>(ϸ).bind λk=>À (!k)
def Z1(a b:FE):FE:=λσ=>(ϸ).bind λx=>(ώf).bind λk=>match k with
 |Å=>b σ|Ã=>À ç
def VJ(a b:FE):FE:=λσ=>(ϸ).bind λx=>(ώf).bind λk=>match k with
 |Å=>À ě|Ã=>b σ
def Tx(a:FE):FE:=λσ=>(ϸ).bind λx=>(ώf).bind λk=>À řh
nonrec def tq(c:FT)(a b:FE):FE:=λσ=>(ŉc).bind λk=>match k with
 |Å=>a σ|Ã=>b σ
nonrec def xr(a:FA):FE:=λσ=>(ϸ).bind λb=>À (.tup b)
nonrec def yc(a:FA):FE:=λσ=>(ϸ).bind λb=>À Ōb
nonrec def yK:D->D->Ê D
 |.int i,.int j=>À ĕh|.int i,.bl b=>À (Β (i+Ŀe))|.str x,.str y=>if Úb+ϫh<=yW then À (.str Şi)else Æ|.lst x,.lst y=>if Úb+ϫh<=yW then À (Δ Şi)else Æ|.tup x,.tup y=>if x.isEmpty=Ã/\Úb+ϫh<=yW then À (.tup Şi)else Æ|_,_=>Æ
nonrec def fI(C:Â->Â->Ï)(g:Â->Â->Â):D->D->Ê D
 |.int i,.int j=>match C i j with
  |Å=>À ŋn|Ã=>Æ
 |_,_=>Æ
nonrec def q_:D->D->Ê D
 |.int i,.int j=>À (Β (i-j))|_,_=>Æ
nonrec def wN(i:Â):Ï:=decide (-Ĵf<i)&&decide (i<2 ^ 64)
def ve:D->D->Ê D:=fI (λi _=>wN i) (·*·)
def Q1:D->D->Ê D:=fI (λ_ j=>wN j) (·*·)
def yZ:D->D->Ê D:=fI (λ_ j=>decide (0<j)) (· % ·)
def jQ:D->D->Ê D:=fI (λ_ j=>decide (0<j)&&decide (j<2 ^ 64)) (· / ·)
nonrec def jC(i j:Â):Ï:=decide üd&&(decide (j<=1000000)&&decide (Őb<2 ^ 64))
def uk:D->D->Ê D:=fI jC λi j=>i*2 ^ Ňf
def Q2:D->D->Ê D:=fI (λ_ j=>decide üd) λi j=>i/2 ^ Ňf
nonrec def qz(g:Â->Â->Â):D->D->Ê D
 |.int i,.int j=>À ŋn|_,_=>Æ
nonrec def Y6:D->Ê D
 |.int i=>À (Β (-i))|_=>Æ
nonrec def FK:D->Ê D
 |.int i=>À (Β Ėi)|_=>Æ
nonrec def vV(g:Â->Â->Ï):D->D->Ê D
 |.int i,.int j=>À (.bl ūa)|_,_=>Æ
nonrec def Vc:D->Ï
 |.zE=>Å|_=>Ã
def VL:D->D->Ê D
 |x,.zE=>À (.bl (Vc x))|_,_=>Æ
def VM:D->D->Ê D
 |x,.zE=>À (.bl (!Vc x))|_,_=>Æ
nonrec def yz:D->Ï
 |.zE=>Å|.bl _=>Å|.int _=>Å|.str _=>Å|_=>Ã
nonrec def pj(f:D->D->Ï):Á D->Á D->Ï
 |x::xs,y::ys=>f x y&&pj f xs ys|_,_=>Å
def uS:Ä->D->D->Ï
 |0,_,_=>Ã|n+1,x,y=>match x,y with
  |.tup xs,.tup ys=>pj Ňc xs ys|.lst xs,.lst ys=>pj Ňc xs ys|x,y=>yz x&&yz y
def Z4:D->D->Ê Ï
 |.int _,.bl _=>Æ|.bl _,.int _=>Æ|x,y=>match uS 6 x y with
  |Å=>À (xi x y)|Ã=>Æ
def zb(x y:D):Ê D:=(Z4 x y).bind λk=>À êd
def xt(x y:D):Ê D:=(Z4 x y).bind λk=>À řh
nonrec def vz:D->Ê Ą
 |.int i=>À ði|.str x=>À Ļf|_=>Æ
nonrec def ĩ{α:Type}:Á Ą->Á α->Sum Â Ç->Ê α
 |k'::ks,v::vs,k=>if k'=k then À v else ĩ ks vs k|_,_,_=>Æ
nonrec def vJ(ks:Á Ą)(k:Sum Â Ç):Ï:=ks.any λj=>decide (j=k)
def vM(ks:Á Ą)(k:Sum Â Ç):Á Ą:=if vJ ks k=Å then ks else ks++[k]
def xV(ks:Á Ą)(vs:Á α)(k:Sum Â Ç)(v:α):Á α:=if vJ ks k=Å then ύa (λa x=>if a=k then v else x) ks vs else vs++[v]
def Ih(x:D):D->Ê Ï
 |.lst ys=>match yz x&&Šb yz with
  |Å=>À ľe|Ã=>Æ
 |.tup ys=>match yz x&&Šb yz with
  |Å=>À ľe|Ã=>Æ
 |.str j=>match x with
  |.str i=>À ūj|_=>Æ
 |.dic ks _=>(öd).bind λk=>À (vJ ks k)|_=>Æ
def yq(x y:D):Ê D:=(Ih x y).bind λk=>À êd
def jv(x y:D):Ê D:=(Ih x y).bind λk=>À řh
nonrec def vZ(xs:Á α)(i:Â):Ê α:=if 0<=i then xs[Ľc]? else if -(ä:Â)<=i then xs[(i+ä).toNat]? else Æ
def zD:D->D->Ê D
 |.lst xs,.int i=>vZ xs i|.tup xs,.int i=>vZ xs i|.str z,.int i=>(Õn).bind λc=>À Ëh|.dic ks vs,k=>(vz k).bind λk=>ĩ ks vs k|_,_=>Æ
nonrec def vH:Á D->Ê D
 | [.lst xs]=>À þn| [.tup xs]=>À þn| [.str z]=>À ýn|_=>Æ
nonrec def Ii:Á D->Ê D
 | [.int i,.int j]=>À (Β (if j>i then j else i))|_=>Æ
nonrec def XZ:Á D->Ê D
 | [.int i]=>À Ϩ| [.bl k]=>À (Β Ĥk)|_=>Æ
inductive jn where
 |int|bool|str|list|tuple
nonrec def jn.nm:jn->Ÿ
 |.int => Ëc|.bool => Ôe|.str => íe|.list => ę|.tuple => ż
nonrec def fB:D->Ê (Ï×Ï×Ï×Ï×Ï)
 |.zE=>À (Ã,Ã,Ã,Ã,Ã)|.bl _=>À (Å,Å,Ã,Ã,Ã)|.int _=>À (Å,Ã,Ã,Ã,Ã)|.str _=>À (Ã,Ã,Å,Ã,Ã)|.tup _=>À (Ã,Ã,Ã,Ã,Å)|.lst _=>À (Ã,Ã,Ã,Å,Ã)|.dic _ _=>Æ|.exc _=>Æ|.obj _ _ _=>Æ
nonrec def jn.sel:jn->Ï×Ï×Ï×Ï×Ï->Ï
 |.int,k=>k.1|.bool,k=>k.2.1|.str,k=>k.2.2.1|.list,k=>k.2.2.2.1|.tuple,k=>k.2.2.2.2
def OG(T:jn)(d:D):Ê Ï:=(fB d).bind λk=>À (T.sel k)
def XW(T:jn)(a:FE):FE:=λτ=>(a τ).bind λd=>(OG T d).bind λb=>À ğb
nonrec def tz(a:FE):FA:=λσ=>(ϸ).bind λd=>match d with
 |.lst xs=>À xs|.tup xs=>À xs|.str z=>À (Öl λc=>.str {#[c]})|_=>Æ
nonrec def ww(b a:FE):FA:=λσ=>(ťb).bind λx=>(ϸ).bind λy=>match x,y with
 |.int i,.int j=>if Őb<=yW/\Ĝf<=yW/\(j-i).toNat<=yW then À ((Ùa (j-i).toNat).map λk:Ä=>.int (i+k))else Æ|_,_=>Æ
nonrec def yB(i:Ä):FG:=λd σ=>À ϫj
nonrec def jw(i j:Ä):FG:=λd σ=>match d with
 |.tup ćd=>À ((σ.set i Ãm).set j (À (Ã,y)))|_=>Æ
nonrec def xS:FS:=λσ=>À Ķf
nonrec def zZ(a b:FS):FS:=λσ=>(ϸ).bind λf=>match f with
 |.nx σ'=>b σ'|f=>À f
nonrec def yH(i:Ä)(e:FE):FS:=λσ=>(ňc).bind λd=>À Ϩn
nonrec def qh(i:Ä)(e:FE):FS:=λσ=>(ňc).bind λd=>À (.nx (σ.set i Đc))
nonrec def yE(e:FE):FS:=λσ=>(ňc).bind λd=>À (.rt Ã d)
nonrec def qG(e:FE):FS:=λσ=>(ňc).bind λd=>À Ϣm
nonrec def ZK(i:Ä):FS:=λσ=>match σ[i]? with
 |À Đc=>À Ϣm|_=>Æ
nonrec def xB(c:FT)(a b:FS):FS:=λσ=>(ŉc).bind λk=>match k with
 |Å=>a σ|Ã=>b σ
nonrec def j_(g:FG)(b:FS):Á D->zx->Ê Fl
 | [],σ=>À Ķf|d::r,σ=>(ϳd).bind λσ1=>(b σ1).bind λf=>match f with
  |.nx σ2=>j_ g b r σ2|.ct σ2=>j_ g b r σ2|.bk σ2=>À ϟh|.rt o d=>À ϟn
def qF(it:FA)(g:FG)(b:FS):FS:=λσ=>(it σ).bind λa=>j_ g b a σ
nonrec def jE(c:FT)(b:FS):Ä->zx->Ê Fl
 |0,_=>Æ|n+1,σ=>(ŉc).bind λk=>match k with
  |Ã=>À Ķf|Å=>(ťb).bind λf=>match f with
   |.nx σ2=>jE c b n σ2|.ct σ2=>jE c b n σ2|.bk σ2=>À ϟh|.rt o d=>À ϟn
nonrec def Jd:Ä:=100000000
def Ge(c:FT)(b:FS):FS:=λσ=>jE c b Jd σ
nonrec def ZJ(i:Ä):FS:=λσ=>match σ[i]? with
 |À Ÿm=>À Ϩn|_=>Æ
nonrec def Vt(i:Ä)(F:D->D->Ê D)(e:FE):FS:=λσ=>match σ[i]? with
 |À Đc=>(ňc).bind λx=>(F d x).bind λa=>À (.nx (σ.set i (À (Å,a))))|_=>Æ
nonrec def XY:D->D->Ê D
 |.lst xs,y=>if ä<yW then À ĝl else Æ|_,_=>Æ
def jZ(i:Ä)(k v:FE):FS:=λσ=>(v σ).bind λy=>match σ[i]? with
 |À (À (Å,.dic ks ds))=>(ťi).bind λx=>(öd).bind λx=>if ġ<yW then À (.nx (σ.set i (À (Å,.dic ſn ũl))))else Æ|_=>Æ
def vG(ks:Á Ą)(ds:Á D)(x:D):Ê D:=(öd).bind λk=>ĩ ks ds k
def Y5(ks:Á Ą)(x:D):Ê D:=(öd).bind λk=>À ńl
def Z3(d k e:FE):FE:=λσ=>(d σ).bind λx=>match x with
 |.dic ks ds=>(ťi).bind λy=>(ňc).bind λz=>(vz y).bind λy=>À ((ĩ ks ds y).getD z)|_=>Æ
nonrec def IW(ks:Á Ç)(vs:FA):FE:=λσ=>(vs σ).bind λa=>if ġ=ϴ then À (.dic Án a)else Æ
def Z2(F d:D->D->Ê D)(a b c:FE):FE:=λτ=>(a τ).bind λx=>(b τ).bind λy=>(ĳi).bind λk=>(Y0 k).bind λk=>match k with
 |Å=>(c τ).bind λz=>d y z|Ã=>À ç
nonrec def xF(g:FG)(c:FT)(e:FE)(σ:zx):Á D->Ê Şb
 | []=>À []|d::r=>(ϳd).bind λσ1=>(c σ1).bind λk=>match k with
  |Å=>(Ťf).bind λx=>(xF g c e σ r).bind λa=>À (x::a)|Ã=>xF g c e σ r
nonrec def yy:FT:=λ_=>À Å
def wU(n:Ä)(it:FA)(g:FG)(c:FT)(e:FE):FE:=λσ=>(it σ).bind λb=>(xF g c e ūg b).bind λa=>À Ðd
nonrec def yP(n:Ä)(b:FS)(ds:Á D):Ê í:=(b (χd (n-Ĉ))).bind λf=>match f with
 |.rt o d=>À (o,d)|.nx _=>À (Ã,.zE)|_=>Æ
nonrec def zg(F:Á D->Ê í)(a:FA):FE:=λσ=>(ϸ).bind λb=>(F b).bind λr=>À r.2
nonrec def uj(F:Á D->Ê í)(a:FA):FE:=λσ=>(ϸ).bind λb=>(F b).bind λr=>match r with
 |(Å,d)=>À d|_=>Æ
open ĺ ĭ L2
abbrev St:=L2.St
def ic(_:Ð)(H:Hp)(a:Í)(kvs:Á Ũ):È:=Rd H a Ń
mutual
def zd(K:Ð)(H:Hp):D->V->È
 |.zE,v=>v=.zE|.bl b,v=>v=.bl b|.int i,v=>v=.int i|.str x,v=>v=.str x/\Úb<=ã|.tup ds,v=>∃a vs,v=.ref a/\xE K H a vs/\á K H ds vs/\Ĉ<=ã|.lst ds,v=>∃a vs,v=.ref a/\yh K H a vs/\á K H ds vs/\Ĉ<=ã|.dic ks ds,v=>∃a vs,v=.ref a/\ic K H a Ěa/\ġ=ö/\á K H ds vs/\Ĉ<=ã|.exc x,v=>∃a C,v=.ref a/\ſ K ē x=À ïa/\H a=À (.ext (iV a C))|.obj x fs ds,v=>∃a C dx vs,v=.ref a/\ſ K ē x=À ïa/\H a=À ÿg/\ŋa=ö/\á K H ds vs
def á(K:Ð)(H:Hp):Á D->Á V->È
 | [],vs=>vs=[]|d::ds,vs=>∃v r,vs=v::r/\zd K H d v/\á K H ds r
end
section
variable{K:Ð}{H H':Hp}
def Ŗb{a:Í}{u:HO}(s:zh H H')(h:Rd H a u):Rd H' a u:=by rcases h with h|⟨o,h⟩;show .inl (s _ _ h);show .inr {o,s _ _ h}
def vi(s:zh H H')(h:xE K H a xs):xE K H' a xs:=by rcases h with h|h;show .inl Ŀn;show .inr h
def uY(s:zh H H')(h:yh K H a xs):yh K H' a xs:=by rcases h with h|h;show .inl Ŀn;show .inr h
theorem Ϡa:∀{ds:Á D}{vs:Á V},(∀d∈ds,∀v,zd K H d v->zd K H' d v)->á K H ds vs->á K H' ds vs
 | [],_,_,h=>h|d::ds,vs,f,h=>by rw[ño];show{v,r,rfl,f d ŉ v b,Ϡa (λc m=>f c Ŝn) a}
theorem zd.mono(s:zh H H'):∀{d:D}{v:V},zd K H d v->zd K H' d v:=λ{d}=>by show ŏc (P:=λd=>∀v,zd K H d v->zd K H' d v) Én ým ûm úm ?_ ?_ ?_ ?_ ?_ d _;rintro g c v ⟨a,f,e,q,r,l⟩;show{a,f,e,vi s q,Ϡa c r,l};rintro g c v ⟨a,f,e,q,r,l⟩;show{a,f,e,uY s q,Ϡa c r,l};rintro k g c v ⟨a,f,e,q,z,r,l⟩;show{a,f,e,Ŗb s q,z,Ϡa c r,l};rintro x v ⟨a,C,e,n,h⟩;show{a,C,e,n,s _ _ h};rintro x m g c v ⟨a,C,j,f,e,n,h,l,r⟩;show{a,C,j,f,e,n,s _ _ h,l,Ϡa c r}
theorem Reps.mono(s:zh H H'){ds:Á D}{vs:Á V}(h:á K H ds vs):á K H' ds vs:=Ϡa (λ_ _ _=>zd.mono s) h
theorem Ŏm:∀{ds:Á D}{vs:Á V},á K H ds vs->ö=Ĉ
 | [],_,h=>by rw[Ěo];rfl|d::ds,_,h=>by let{v,r,rfl,_,a}:=h;rw[Ġ,Ġ,Ŏm a]
theorem Reps.get:∀{ds:Á D}{vs:Á V}{i:Ä}{d:D},á K H ds vs->ds[i]?=À d->∃v,vs[i]?=À v/\zd K H d v
 | [],_,_,_,_,e=>by cases e|d::ds,_,0,_,h,e=>by rw[ño];cases e;show{v,rfl,b}
 |d::ds,_,i+1,d',h,e=>by rw[ño];show Reps.get (i:=i) a Âb
theorem Reps.at{ds:Á D}{vs:Á V}{i:Ä}{v:V}(h:á K H ds vs)(e:vs[i]?=À v):∃d,ds[i]?=À d/\zd K H d v:=by
 let l:=Ģa;have b:i<Ĉ:=by rw[<-l];show âd.1
 let{c,a,r}:=h.get (Ĳ b);rw[e]at a;cases a;show{_,Ĳ b,r}
theorem ŏm:∀{ds es:Á D}{vs us:Á V},á K H ds vs->á K H es us->á K H (ds++es) (vs++us)
 | [],_,_,_,h,g=>by rw[Ěo];show g|d::ds,_,_,_,h,g=>by rw[ño];show{v,_,rfl,b,ŏm a g}
def ġf(h:zd K H d v):á K H [d] [v]:={v,[],rfl,h,rfl}
theorem Ĝn:∀{ds:Á D}{vs:Á V}(n:Ä),á K H ds vs->á K H (ds.take n) (vs.take n)
 |_,_,0,_=>by rw[ώg,ώg];rfl| [],_,n+1,h=>by rw[Ěo];rfl|d::ds,_,n+1,h=>by rw[ño];show{v,_,rfl,b,Ĝn n a}
theorem ğn:∀{ds:Á D}{vs:Á V}(n:Ä),á K H ds vs->á K H (ŉf n) (vs.drop n)
 |_,_,0,h=>h| [],_,n+1,h=>by rw[Ěo];rfl|d::ds,_,n+1,h=>by rw[ño];show ğn n a
theorem ώd:∀{ns:Á Â},á K H Ľa ëa
 | []=>rfl|n::ns=>{_,_,rfl,rfl,ώd}
#print a
structure zV(G H G' H':Hp):È where
 g:zh G G'
 h:zh H H'
 gh:zh G' H'
 new:∀p,G' p≠Æ->G p≠Æ\/H p=Æ
section
variable{G H G0 H0 G1 H1 G2 H2:Hp}{p:Í}{o:HO}
theorem ĺa(s:zh G H):zV G H G H:={ĝa _,ĝa _,s,λ_ h=>.inl h}
theorem zV.trans(a:zV G H G1 H1)(b:zV G1 H1 G2 H2):zV G H G2 H2:={ūh b.g,a.h.trans b.h,b.gh,λp h=>by rcases b.new p h with z|z;show a.new p z;show .inr (a.h.free z)}
def zV.rebase(a:zV G0 H0 G1 H1)(b:zV G1 H0 G2 H2):zV G0 H0 G2 H2:={ūh b.g,b.h,b.gh,λp h=>by rcases b.new p h with z|z;show a.new p z;rw[İo]}
def zV.kY(a:zV G0 H0 G1 H1):zV G1 H0 G1 H1:={ĝa _,a.h,a.gh,λ_ h=>.inl h}
def LZ(h:zU H p o q≠Æ):q=p\/H q≠Æ:=by by_cases e:q=p;show .inl e;rw[zt e]at h;show .inr h
def Qt(s:zh G H):zh Ín ģc:=λb u e=>by by_cases hb:b=p;subst hb;rw[yL]at e ⊢;show e;rw[zt hb]at e ⊢;show s _ _ e
def řb(s:zh G H)(h:H p=Æ):zV G H Ín ģc:={wY (s.free h) o,wY h o,Qt s,λq z=>by rcases LZ z with e|e;show .inr (e▸h);show .inl e}
def ĭa(s:zh G H)(h:H p=Æ):zV G H G ģc:={ĝa _,wY h o,ûi (wY h o),λ_ z=>.inl z}
def zV.yD(a:zV G H G1 H1)(h:H p=Æ)(g:G1 p=Æ)(e:H1 p=À o):zV G H (zU G1 p o) H1:=⟨ūh (wY g o),a.h,λb u q=>by
 by_cases hb:b=p;subst hb;rw[yL]at q;cases q;show e;rw[zt hb]at q;show a.gh _ _ q,λq z=>by
 rcases LZ z with w|w;show .inr (w▸h);show a.new q w⟩
#print a
def wM(K:Ð)(G H:Hp)(d:D)(p:Í):È:=match d with
 |.lst ds=>∃vs,H p=À đf/\á K G ds vs/\Ĉ<=ã|.dic ks ds=>∃vs,H p=À Ţe/\ġ=ö/\á K G ds vs/\Ĉ<=ã|_=>ê
section
variable{K:Ð}{G H G' H':Hp}{d:D}{p:Í}
def wM.some(h:wM K G H d p):H p≠Æ:=by
 cases d with
 |lst ds=>let{a,e,_}:=h;rw[e];show λz=>nomatch z
 |dic ks ds=>let{a,e,_}:=h;rw[e];show λz=>nomatch z
 |_=>show Ńi
theorem wM.mono(g:zh G G')(h:zh H H')(o:wM K G H d p):wM K G' H' d p:=by
 cases d with
 |lst ds=>let{a,e,r,l}:=o;show{a,h _ _ e,ça g,l}
 |dic ks ds=>let{a,e,z,r,l}:=o;show{a,h _ _ e,z,ça g,l}
 |_=>show Ţb
def wM.rep(s:zh G H)(o:wM K G H d p):zd K H d Ž:=by
 cases d with
 |lst ds=>let{a,e,r,l}:=o;show{p,a,rfl,Ŕa e,ça s,l}
 |dic ks ds=>let{a,e,z,r,l}:=o;show{p,a,rfl,.inl e,z,ça s,l}
 |_=>show Ţb
def wM.yD(o:wM K G H d p)(g:G p=Æ):∃u,H p=Option.some u/\zd K Ņh d Ž:=by
 cases d with
 |lst ds=>let{a,e,r,l}:=o;show{_,e,p,a,rfl,Ŕa yL,ça Ìd,l}
 |dic ks ds=>let{a,e,z,r,l}:=o;show{_,e,p,a,rfl,.inl yL,z,ça Ìd,l}
 |_=>show Ţb
#print a
structure zu(K:Ð)(n:Ä)(G0 H0 G H:Hp)(τ:zx)(σ:St):È where
 ext:zV G0 H0 G H
 l1:σ.length=n
 l2:τ.length=n
 fr:∀(i:Ä)(d:D),τ[i]?=À ϊb->∃v,σ[i]?=À ŧ/\zd K G d v
 ow:∀(i:Ä)(d:D),τ[i]?=À Đc->∃p,σ[i]?=À Őd/\G p=Æ/\H0 p=Æ/\wM K G H d p
 ap:∀(i j:Ä)(d e:D)(p:Í),i≠j->τ[i]?=À Đc->τ[j]?=À ŝd->σ[i]?=À Őd->σ[j]?=À Őd->ê
section
variable{K:Ð}{n:Ä}{G0 H0 G H G' H':Hp}{τ:zx}{σ:St}
def zu.go(E:zu K n G0 H0 G H τ σ)(x:zV G H G' H'):zu K n G0 H0 G' H' τ σ:=⟨Śm x,Ė,č,λi d h=>by
 let{v,e,r}:=Ža i d h;show{v,e,ça x.g},λi d h=>by
 let{p,e,g,z,o}:=Ĕa i d h;show{p,e,?_,z,Êe x.g x.h};cases q:G' p with
 |Æ=>rfl|À u=>rcases īb p (by rw[q];show λz=>nomatch z)with w|w;show ß g w;show ß w o.some,ža⟩
theorem zu.kY(E:zu K n G0 H0 G H τ σ):zu K n G H0 G H τ σ:={E.ext.kY,Ė,č,Ža,Ĕa,ža}
def zu.near(a:zV G0 H0 Ga Ha)(E:zu K n Ga H0 G H τ σ):zu K n G0 H0 G H τ σ:={a.rebase ũb,Ė,č,Ža,Ĕa,ža}
def zu.lt{i:Ä}{s:Ê Sl}(E:zu K n G0 H0 G H τ σ)(h:τ[i]?=À s):i<n:=by rw[<-č];show åa.1
def vO{α:Type}{xs:Á α}{i j:Ä}{x y:α}(h:ϲe[j]?=À y):(j=i/\y=x)\/(j≠i/\xs[j]?=À y):=by
 rw[śe]at h;by_cases e:i=j;subst e;rw[Ò rfl]at h
 split at h;cases h;show .inl {rfl,rfl};cases h;rw[Ô e]at h;show .inr {λz=>e ìd,h}
def Y7{α:Type}{xs:Á α}{i:Ä}{x:α}(h:i<ä):ϲe[i]?=À x:=by rw[śe,Ò rfl,Ò h]
theorem qV{α:Type}{xs:Á α}{i j:Ä}{x:α}(h:j≠i):ϲe[j]?=xs[j]?:=by rw[śe,Ô (λz=>h ìd)]
theorem zu.set{i:Ä}{d:D}{v:V}(E:zu K n G0 H0 G H τ σ)(o:i<n)(r:zd K G d v):zu K n G0 H0 G H ϖg Ϙc:=⟨ũb,by rw[Ϻ];show Ė,by rw[Ĥo],λj e h=>by
 rcases vO h with⟨rfl,z⟩|⟨a,z⟩;cases z;show{v,Y7 (by rw[Ė];show o),r};rw[qV a];show Ža j e z,λj e h=>by
 rcases vO h with⟨rfl,z⟩|⟨a,z⟩;cases z;rw[qV a];show Ĕa j e z,λj k e f p c m l=>by
 rcases vO m with⟨rfl,z⟩|⟨a,z⟩;cases z;rcases vO l with⟨rfl,b⟩|⟨g,b⟩;cases b;rw[qV a,qV g];show ža j k e f p c z b⟩
def zu.Pt{i:Ä}{d:D}{p:Í}(E:zu K n G0 H0 G H τ σ)(r:i<n)(u:G p=Æ)(w:H0 p=Æ)(o:wM K G H d p)(t:∀(j:Ä)(e:D),j≠i->τ[j]?=À ŝd->σ[j]?=À Őd->ê) :zu K n G0 H0 G H (τ.set i Đc) Ŧl:=⟨ũb,by rw[Ϻ];show Ė,by rw[Ĥo],λj e h=>by
 rcases vO h with⟨rfl,z⟩|⟨b,z⟩;cases z;rw[qV b];show Ža j e z,λj e h=>by
 rcases vO h with⟨rfl,z⟩|⟨b,z⟩;cases z;show{p,Y7 ĥg,u,w,o};rw[qV b];show Ĕa j e z,λj k e f q l v s c g=>by
 rcases vO v with⟨rfl,z⟩|⟨b,z⟩;rcases vO s with⟨rfl,m⟩|⟨a,m⟩;show l rfl;rw[Y7 ĥg]at c;rw[qV a]at g;cases c;show t k f a m g;rcases vO s with⟨rfl,m⟩|⟨a,m⟩;rw[Y7 ĥg]at g;rw[qV b]at c;cases g;show t j e b z c;rw[qV b]at c;rw[qV a]at g;show ža j k e f q l z m c g⟩
def zu.Pp(E:zu K n G0 H0 G H τ σ)(a:H p=Æ):∀(j:Ä)(e:D),j≠i->τ[j]?=À ŝd->σ[j]?=À Őd->ê:=λj e _ c b=>by let{q,e1,_,_,o}:=Ĕa j e c;rw[b]at e1;cases e1;show o.some a
def zu.freeze{i:Ä}{b:Ï}{d:D}(E:zu K n G0 H0 G H τ σ)(m:τ[i]?=À Ϧc):∃G',zu K n G0 H0 G' H ϖg σ/\zh G G':=by
 let A:=E.lt m;cases b with
 |Ã=>
  show{G,?_,ĝa _}
  let e:τ.set i ϊb=τ:=by rw[ōo];rw[Y7 (by rw[č];show A),m];rw[qV hj]
  rw[e];show E
 |Å=>let{p,e,g,z,o}:=Ĕa i d m;let{u,J,r}:=o.yD g;let x:zV G0 H0 Ņh H:=ϸh z g J;refine{zU G p u,{x,Ė,by rw[Ĥo],λj a h=>?_,λj a h=>?_,λj k e1 f q t O N=>?_},wY g _};rcases vO h with⟨rfl,w⟩|⟨y,w⟩;cases w;show{_,e,r};let{v,l,I}:=Ža j a w;show{v,l,áe Ìd};rcases vO h with⟨rfl,w⟩|⟨y,w⟩;cases w;let{q,l,F,L,B}:=Ĕa j a w;show{q,l,?_,L,B.mono Ìd Űa};rw[zt ūn];show F;subst c;show ža i j d a q (λc=>y Ŋf) m w e l;rcases vO O with⟨rfl,w⟩|⟨y,w⟩;cases w;rcases vO N with⟨rfl,s⟩|⟨C,s⟩;cases s;show ža j k e1 f q t w s
#print a
section
variable(X:Cx)
structure SE(e:Ó)(f:FE):È where
 h:∃t,PE X e t/\∀{G0 H0 G H:Hp}{τ:zx}{σ:St}{d:D}{Q:VK},zu X.K ô G0 H0 G H τ σ->f τ=À d->(∀v G' H',zV G H G' H'->zd X.K G' d v->Q v H')->t σ H Q
structure SB(e:Ó)(f:FE):È where
 h:∃t,PE X e t/\∀{G0 H0 G H:Hp}{τ:zx}{σ:St}{d:D}{Q:VK},zu X.K ô G0 H0 G H τ σ->f τ=À d->(∀v G' H',zV G H G' H'->zd X.K H' d v->Q v H')->t σ H Q
structure SF(e:Ó)(f:FE):È where
 h:∃t,PE X e t/\∀{G0 H0 G H:Hp}{τ:zx}{σ:St}{d:D}{Q:VK},zu X.K ô G0 H0 G H τ σ->f τ=À d->(∀p G' H',zV G H G' H'->H p=Æ->G' p=Æ->wM X.K G' H' d p->Q Ž H')->t σ H Q
structure ST(e:Ó)(f:FT):È where
 h:∃t,PT X e t/\∀{G0 H0 G H:Hp}{τ:zx}{σ:St}{d:Ï}{Q:Ï->Hp->È},zu X.K ô G0 H0 G H τ σ->f τ=À d->(∀G' H',zV G H G' H'->Q d H')->t σ H Q
structure SW(e:Ó)(f:FT):È where
 h:∃t,PW X e t/\∀{G0 H0 G H:Hp}{τ:zx}{σ:St}{d:Ï}{Q:Ï->Hp->È},zu X.K ô G0 H0 G H τ σ->f τ=À d->(∀G' H',zV G H G' H'->Q d H')->t σ H Q
structure SA(es:Á Ó)(f:FA):È where
 h:∃t,PA X es t/\∀{G0 H0 G H:Hp}{τ:zx}{σ:St}{ds:Á D}{Q:Á V->Hp->È},zu X.K ô G0 H0 G H τ σ->f τ=À ds->(∀vs G' H',zV G H G' H'->á X.K G' ds vs->Q vs H')->t σ H Q
structure TU(es:Á Ó)(f:FA):È where
 h:∃t,PA X es t/\∀{G0 H0 G H:Hp}{τ:zx}{σ:St}{ds:Á D}{Q:Á V->Hp->È},zu X.K ô G0 H0 G H τ σ->f τ=À ds->(∀vs G' H',zV G H G' H'->á X.K H' ds vs->Q vs H')->t σ H Q
#print a
def ue(K:Ð)(n:Ä)(b a:Hp)(E:uF):Fl->È
 |.nx τ=>∀σ G H,zu K n b a G H τ σ->E.nx σ H|.bk τ=>∀σ G H,zu K n b a G H τ σ->E.bk σ H|.ct τ=>∀σ G H,zu K n b a G H τ σ->E.ct σ H|.rt Ã d=>∀v G H,zV b a G H->zd K G d v->E.rt v H|.rt Å d=>∀p G H,zV b a G H->a p=Æ->G p=Æ->wM K G H d p->E.rt Ž H
section
variable(X:Cx)
structure SS(st:Ù)(f:FS):È where
 h:∃t,PS X st t/\∀{G0 H0 G H:Hp}{τ:zx}{σ:St}{fl:Fl}{E:uF},zu X.K ô G0 H0 G H τ σ->f τ=À fl->ue X.K ô G0 H0 E fl->t E σ H
structure tZ(st:Á Ù)(f:FS):È where
 h:∃t,uf X st t/\∀{G0 H0 G H:Hp}{τ:zx}{σ:St}{fl:Fl}{E:uF},zu X.K ô G0 H0 G H τ σ->f τ=À fl->ue X.K ô G0 H0 E fl->t E σ H
#print a
structure jo(K:Ð)(J:It)(G:Hp)(ds:Á D):È where
 go:∀i G2 H,zh G G2->zh G2 H->i<Ĉ->J.go i H
 ud:∀i G2 H x H',zh G G2->zh G2 H->i<Ĉ->J.ud i H x H'->∃G3 d,zV G2 H G3 H'/\ds[i]?=À d/\zd K G3 d x
 ϭ:∀i G2 H,zh G G2->zh G2 H->Ĉ<=i->ŷf i H
structure SI(X:Cx)(tg ű:Ó)(f:FA):È where
 h:∃wi,PI X tg ű wi/\∀{G0 H0 G H:Hp}{τ:zx}{σ:St}{ds:Á D}{R:It->Hp->È},zu X.K ô G0 H0 G H τ σ->f τ=À ds->(∀J G' H',zV G H G' H'->Ĉ<=ã->jo X.K J G' ds->R J H')->wi σ H R
nonrec def vQ(K:Ð)(F:Á D->Ê í):Sp:=λa H Q _=>∃G ds o d,zh G H/\á K G ds a/\F ds=À (o,d)/\
 match o with
 |Ã=>∀v G' H',zV G H G' H'->zd K G' d v->Q v H'|Å=>∀p G' H',zV G H G' H'->H p=Æ->G' p=Æ->wM K G' H' d p->Q Ž H'
def zF{α β:Type}{o:Ê α}{f:α->Ê β}{b:β}(h:Ŀi f=À b):∃a,o=À a/\f a=À b:=by
 cases o with
 |Æ=>cases h|À a=>show{a,rfl,h}
def FC(h:z6 i τ=À d):τ[i]?=À ϊb:=by
 unfold z6 at h
 rw[üo];cases h;show e;cases h
def Af(h:Y4 i τ=À d):∃b,τ[i]?=À Ϧc:=by
 unfold Y4 at h
 split at h;rename_i b a e;cases h;show{_,e};cases h
section
variable{X:Cx}{x:Ç}{p pos:Pos}{e a b c o:Ó}{es yM:Á Ó}{f fa fb fc:FE}{ft fu:FT}{fs:FA}{F:D->D->Ê D}{r:R2}
def SE.sb(h:SE X e f):SB X e f:={let ⟨t,p,k⟩:=h.h;{t,p,λE b q=>k E b λv a c x r=>q v a c x (ça Ĳa)}}
def SF.se(h:SF X e f):SE X e f:={let ⟨t,p,k⟩:=h.h;{t,p,λE d q=>k E d λp g i x c a o=>by let{u,b,r}:=o.yD a;show q _ _ _ (x.yD c a b) r}}
def zJ(h:SE X e f):SB X e f:=h.sb
def yN(h:SF X e f):SE X e f:=h.se
def z7(i:Ä)(c:Î ϐb q12)(hv:Î Ϩb q14)(d:Î Ģ q10)(a:Î Śa q10):SE X ϻ (z6 i):={{_,ZE c hv d a,λE b q=>by let{v,e,r}:=Ža _ _ (FC b);show{v,e,q v _ _ Ďb r}}}
def y0z(i:Ä)(f:Î ϐb q12)(hv:Î Ϩb q14)(g:Î Ģ q10)(a:Î Śa q10):SB X ϻ (Y4 i):=⟨⟨_,ZE f hv g a,λE d q=>by
 let{b,c}:=Af d;cases b with
 |Ã=>let{v,e,r}:=Ža _ _ c;show{v,e,q v _ _ Ďb (ça ύ)}
 |Å=>let{p,e,_,_,o}:=Ĕa _ _ c;show{_,e,q _ _ _ Ďb (o.rep ύ)}⟩⟩
def Qw(h:PE X e èe)(r:∀H,zd X.K H d v):SE X e (eC d):={{_,h,λE a q=>by cases a;show q v _ _ Ďb (r _)}}
def zC{i k pos}:SE X (.Constant Ϩ k pos) (eC Ϩ):=Qw Ev λ_=>rfl
def tK{i k pos}:SE X (.Constant (.bool i) k pos) (eC (.bl i)):=Qw z7i λ_=>rfl
def u9{k pos}:SE X (.Constant .none k pos) Ņa:=Qw z80 λ_=>rfl
def zY{x k pos}(h:Î (Úb<=1000) q10):SE X (.Constant Ŭa k pos) (eC Ŭa):=Qw Vp λ_=>{rfl,İa h}
def u8(h:wd ñ x v)(r:∀H,zd X.K H d v)(a:Gl X x)(b:Î Ģ q10):SE X ϻ (eC d):=Qw (X_ h a b) r
def uR(K:Ð)(r:R2)(F:D->D->Ê D):È:=∀G H x y u v d (Q:VK),zh G H->zd K G x u->zd K G y v->F x y=À d->(∀w G' H',zV G H G' H'->zd K G' d w->Q w H')->r u v H Q
def jL(K:Ð)(r:R2)(F:D->D->Ê D):È:=∀H x y u v d (Q:VK),zd K H x u->zd K H y v->F x y=À d->∃k,d=.bl k/\(Q êd H->r u v H Q)
def zS(A:ye X (Ŧa op) r)(t:uR X.K r F)(n:SE X a fa)(j:SE X b fb):SE X (.BinOp a op b pos) ϳe:=by
 let{J,l,f}:=n.h;let{O,I,k}:=j.h;show{{_,cA A l I,λE c q=>?_}};let{x,C,c}:=zF c;let{y,H,c}:=zF c;show f E C λv L N e o=>?_
 show k Üd H λu i B d m=>?_
 show t i B x y v u _ _ d.gh ĵn m c λw z G s p=>q w z G Ϭl p
def zQ(G:qr X r)(t:uR X.K r F)(n:SE X a fa)(j:SE X b fb)(B:Î ōh q12):SE X ĭk ϳe:=by
 let{L,l,f}:=n.h;let{P,J,k}:=j.h;show{{_,Vo G l J (Vr B),λE c q=>?_}};let{x,C,c}:=zF c;let{y,I,c}:=zF c;show f E C λv N O e o=>?_
 show k Üd I λu i A d m=>?_
 show t i A x y v u _ _ d.gh ĵn m c λw z H s p=>q w z H Ϭl p
def vC(o:ye X Ái r)(A:jL X.K r F)(m:SB X a fa)(g:SB X b fb)(B:ϑb op b=Ã):SE X Ϧj ϳe:=by
 let{G,j,f}:=m.h;let{J,t,i}:=g.h;show{{_,z7t o j t B,λE c q=>?_}};let{x,s,c}:=zF c;let{y,w,c}:=zF c;show f E s λv H I d n=>?_
 show i őf w λu C p e l=>?_
 let{k,rfl,z}:=A p x y v u _ _ (Űf e.h) l c;show z (δc (Ϙb e))
def yG(p:ye X Ái r)(B:jL X.K r F)(n:SB X a fa)(i:SB X b fb)(C:ϑb op b=Ã):ST X Ϧj (tE ϳe):=by
 let{H,l,g}:=n.h;let{L,w,j}:=i.h;show{{_,G8 p l w C,λE d q=>?_}};let{z,c,d}:=zF d;let{x,t,c}:=zF c;let{y,A,c}:=zF c;show g E t λv I J e o=>?_
 show j Üd A λu G s f m=>?_
 let{k,rfl,z}:=B s x y v u _ _ (Êe f.h) m c;cases d;show z {_,rfl,q _ _ (ϻb f)}
def dh(H:ye X Ái r)(S:jL X.K r F)(i:ye X (Ía op') r')(g:jL X.K r' F')(B:SB X a fa)(O:SB X b fb)(C:SB X c fc)(T:Î (ďn [op,op'] [b,c]=Ã) q13) :SE X (.Compare a [op,op'] [b,c] pos) (Z2 F F' fa fb fc):=by
 let{Y,o,N}:=B.h;let{tb,Q,n}:=O.h;let{U,P,G}:=C.h;show{{_,z7r H i o Q P T,λE d q=>?_}};let{x,J,d}:=zF d;let{y,L,d}:=zF d;let{k,m,d}:=zF d;show N E J λv G1 Z e s=>?_
 show n Üd L λu G2 I f j=>?_
 let{k,rfl,z}:=S I x y v u _ _ (Ùe f.h) j m;show z {k,rfl,?_};cases k with
 |Ã=>cases d;show gv (δc (ϻb f))|Å=>let{w,t,d}:=zF (show(fc _).bind _=_ from d);show gw (G ((Üd).go f) t λp W R l A=>?_);let{k,rfl,z}:=g R y w u p _ _ (Ųf l.h) A d;show z (δc (ϻb (f.trans l)))
def tP(h:SE X e f)(c:Î (cE e=Å) q12):ST X e (tE f):=by
 rw[ıo];show{{_,z96 p (z8t c),λE a q=>?_}};let{z,b,a}:=zF a;show k E b λv d g x r=>?_
 cases z<;>first|cases a|skip
 cases r;show{_,rfl,q _ _ x}
def y3r(h:ST X a ft):SW X òk ft:={let ⟨t,p,k⟩:=h.h;{t,z9j p,k}}
def U8(h:ST X a ft):SW X Čk ft:={let ⟨t,p,k⟩:=h.h;{t,z9m p,k}}
def eW(l:ST X a ft)(f:SW X Ϡe fu):SW X āf (LI ft fu):=by
 rw[Ϣo];show{{_,z9i j n,λE c q=>?_}};let{k,g,c}:=zF c;show e E g λp s d=>?_
 cases k with
 |Å=>show gw ćj|Ã=>cases c;show gv όn
def U7(l:ST X a ft)(f:SW X ϟe fu):SW X Āf (YV ft fu):=by
 rw[Ϣo];show{{_,z9l j n,λE c q=>?_}};let{k,g,c}:=zF c;show e E g λp s d=>?_
 cases k with
 |Ã=>show gv ćj|Å=>cases c;show gw όn
def W8(h:SW X e ft):ST X e ft:={let ⟨t,p,k⟩:=h.h;{t,p.pt,k}}
def W7(h:ST X a ft):ST X ĸe (ZP ft):=by let{g,f,c}:=h.h;show{{_,z95 f,λE b q=>?_}};let{k,e,b}:=zF b;cases b;show c E e λj i d=>q _ _ d
def ZL{op}(h:SE X a f):SE X įk f:={let ⟨t,p,k⟩:=h.h;{t,z82 p,k}}
def GZ{K:Ð}{G:Hp}{z:D}{v:V}{k:Ï}(r:zd K G z v)(h:Y0 z=À k):v=.bl k:=by
 cases z<;>first|cases h|skip
 show r
def U1(n:SE X a fa)(g:SE X Ϡe fb):SE X āf (Z1 fa fb):=by
 rw[ϡo];show{{_,z7h l r,λE c q=>?_}};rw[żo];show e E f λv t w d o=>{k,GZ o i,?_}
 cases k with
 |Å=>show gw Îj|Ã=>cases c;show gv ĩl
def Ko(n:SE X a fa)(g:SE X ϟe fb):SE X Āf (VJ fa fb):=by
 rw[ϡo];show{{_,z83 l r,λE c q=>?_}};rw[żo];show e E f λv t w d o=>{k,GZ o i,?_}
 cases k with
 |Ã=>show gv Îj|Å=>cases c;show gw ĩl
def Km(i:SE X a fa):SE X ĸe (Tx fa):=by let{l,g,c}:=i.h;show{{_,z81 g,λE b q=>?_}};let{z,d,b}:=zF b;let{k,f,b}:=zF b;cases b;show c E d λv m n e j=>{k,GZ j f,q _ _ _ e rfl}
def ja(p:ST X c ft)(o:SE X a fa)(j:SE X b fb):SE X ϗk (tq ft fa fb):=by
 let{x,t,r}:=p.h;let{y,n,i}:=o.h;let{B,w,m}:=j.h;show{{_,z7x t n w,λE e q=>?_}};let{k,l,e}:=zF e;show r E l λz A d=>?_
 cases k with
 |Å=>show gw (i őf e λv s u g f=>q v _ _ (Ϙb g) f)|Ã=>show gv (m őf e λv s u g f=>q v _ _ (Ϙb g) f)
def zN:SA X [] zG:={{_,g8,λE a q=>by rw[ĩo]}}
def zB(m:SE X e f)(r:SA X es fs)(h:Î ϳ q12):SA X Ē Ŭn:=by
 let{u,k,i}:=m.h;let{B,s,j}:=r.h;show{{_,qf k s h,λE a q=>?_}};let{x,p,a}:=zF a;let{y,b,a}:=zF a;cases a;show i E p λv w z c n=>j ďi b λo t A d l=>?_
 show q _ _ _ (ōa d) {v,o,rfl,Űf d.g,l}
def wg:TU X [] zG:={{_,g8,λE a q=>by rw[ĩo]}}
def wX(l:SB X e f)(p:TU X es fs)(h:Î ϳ q12):TU X Ē Ŭn:=by
 let{t,j,g}:=l.h;let{A,r,i}:=p.h;show{{_,qf j r h,λE a q=>?_}};let{x,o,a}:=zF a;let{w,b,a}:=zF a;cases a;show g E o λv u y c m=>i ďi b λn s z d k=>?_
 show q _ _ _ (ōa d) {v,n,rfl,Æc d.h,k}
def L6(h:Ųa es=À is):SA X es (λ_=>À Ěm):={{_,bu h,λE a q=>by cases a;show q _ _ _ Ďb ώd}}
def wA{x1}(h:SA X es fs)(e:∀τ ds,fs τ=À ds->Ĉ<=1000):SE X ϖk (xr fs):=by
 let{t,g,k}:=h.h;show{{_,z85 g,λE a q=>?_}};let{f,d,a}:=zF a;cases a;let l:ģa<=ã:=İa (e _ _ d);refine k E d λi j m x1 b=>{by rw[ŵ];show l,λp c=>?_}
 show q _ _ _ (x1.trans (řb x1.gh c)) {p,i,rfl,Ŧb yL,b.mono (wY (x1.gh.free c) _),l}
def yk(h:SA X es fs)(f:∀τ ds,fs τ=À ds->Ĉ<=1000):SF X ϣg (yc fs):=by
 let{t,i,k}:=h.h;show{{_,c7 i,λE c q=>?_}};let{g,e,c}:=zF c;cases c;let l:Üb<=ã:=İa ϛh;refine k E e λj m n a d=>{by rw[Äa];show l,λp b=>?_}
 show q _ _ _ (a.trans (ĭa a.gh b)) (a.h.free b) (a.gh.free b) {j,yL,d,l}
def yA:∀(τ:zx) ds,zG τ=À ds->Ĉ<=0:=λ_ _ h=>by cases h;show Üa _
def zM(h:∀τ ds,fs τ=À ds->Ĉ<=n):∀τ ds,zA f fs τ=À ds->Ĉ<=n+1:=λτ ds e=>by let{x,_,e}:=zF e;let{b,a,e}:=zF e;cases e;show üc (h _ _ a)
def Jq{is:Á Â}{n:Ä}(h:is.length<=n):∀(τ:zx) ds,(À Ěm)=À ds->Ĉ<=n:=λ_ _ e=>by cases e;rw[æ];show h
def zy(h:∀τ ds,fs τ=À ds->Ĉ<=m)(a:m<=n):∀τ ds,fs τ=À ds->Ĉ<=n:=λτ ds e=>Ĵ (h τ ds e) a
variable{ps:Á Ç}{j k:Ä}{FF:Á D->Ê í}{FL:Á D->Ê D}{id T:Ÿ}
def qj(h:wH ò X.w X.K ñ Œ x ps k Êf)(f:ym j X.A)(z:Gl X x)(i:SA X Ē fs)(hk:Î Ťb q10)(b:Î Ģ q10)(m:Î êa q12):SF X ŝa (uj FF fs):=by
 let{t,v,B}:=i.h;show{{_,Ew h f z v hk b m,λE a q=>?_}};let{u,F,a}:=zF a;obtain⟨⟨o,d⟩,f,a⟩:=zF a;cases o with
 |Ã=>cases a|Å=>
  cases a;refine B E F λG l H c n=>{l,u,Å,_,çb,by rw[Ûa];show n,f,λp r C y s g o=>?_}
  show q p r C (ōa y) (Ϫd s) g o
def zr(h:wH ò X.w X.K ñ Œ x ps k Êf)(g:ym j X.A)(G:Gl X x)(n:SA X Ē fs)(hk:Î Ťb q10)(b:Î Ģ q10)(y:Î êa q12):SE X ŝa (zg FF fs):=by
 let{t,F,H}:=n.h;show{{_,Ew h g G F hk b y,λE a q=>?_}};let{C,J,a}:=zF a;obtain⟨⟨o,d⟩,g,a⟩:=zF a;cases a;refine H E J λL s N c z=>{s,C,o,d,çb,by rw[Ûa];show z,g,?_}
 cases o with
 |Ã=>show λv l m f r=>q v l m (ōa f) r|Å=>intro p l m f B i o;let{u,I,r}:=o.yD i;show q _ _ _ (ōa (f.yD B i I)) r
def jl(K:Ð)(r:Á V->Hp->VK->È)(F:Á D->Ê D):È:=∀G H ds vs d (Q:VK),zh G H->á K H ds vs->F ds=À d->(∀w G' H',zV G H G' H'->zd K G' d w->Q w H')->r vs H Q
def SU(K:Ð)(r:Á V->Hp->VK->È)(F:Á D->Ê D):È:=∀G H ds vs d (Q:VK),zh G H->á K G ds vs->F ds=À d->(∀w G' H',zV G H G' H'->zd K G' d w->Q w H')->r vs H Q
def vN(l:wL X Éb rc)(A:jl X.K rc FL)(v:Gl X x)(C:ñ x=Æ)(hv:ş x=À Éb)(f:TU X Ē fs)(i:Î Ša q10)(a:Î Ģ q10)(j:Î êa q12):SE X ŝa ŋh:=by let{t,n,y}:=f.h;show{{_,(Qn l v C hv {n} i a j).h,λE b q=>?_}};let{o,B,b}:=zF b;show y E B λr g s c k=>A g s o r _ _ çb k b λw m z u d=>q w m z ēi d
def Kk(l:wL X Ôb rc)(A:jl X.K rc FL)(v:Gl X x)(C:ñ x=Æ)(hv:ş x=À Ôb)(f:TU X Ē fs)(i:Î Ša q10)(a:Î Ģ q10)(j:Î êa q12):SE X ŝa ŋh:=by rw[Āo];show y E B λr g s c k=>A g s o r _ _ çb k b λw m z u d=>q w m z ēi d
def LC(l:wL X Ôb rc)(A:SU X.K rc FL)(v:Gl X x)(C:ñ x=Æ)(hv:ş x=À Ôb)(f:SA X Ē fs)(i:Î Ša q10)(a:Î Ģ q10)(j:Î êa q12):SE X ŝa ŋh:=by rw[Āo];show y E B λr g s c k=>A g s o r _ _ çb k b λw m z u d=>q w m z ēi d
def Qz(j:TV X (łf op) ru)(o:∀(G H:Hp) x u d (Q:VK),zd X.K G x u->F1 x=À d->∃w,(∀G,zd X.K G d w)/\(Q w H->ru u H Q))(f:SE X a fa):SE X (.UnaryOp op a pos) (e1 F1 fa):=by
 let{t,k,n}:=f.h;show{{_,z86 j k,λE b q=>?_}};let{x,m,b}:=zF b;show n E m λv g l e i=>?_
 let{w,c,z}:=o g l x v _ _ i b;show z (q w _ _ e (c _))
#print a
section
variable{X:Cx}{x:Ç}{p pos Ża:Pos}{e a b c tg ű:Ó}{f fa:FE}{ft:FT}{fs:FA}{st:Ù}{sts Öc:Á Ù}{g g':FS}
def xY:tZ X [] xS:={{_,cO,λ{_ _ G H τ σ b E} K a q=>by cases a;show q σ G H K}}
theorem Æe{K:Ð}{n:Ä}{e c:Hp}{E b:uF}{a:Fl}(h:ue K n e c E a)(j:∀τ,a=.nx τ->ue K n e c b (.nx τ))(g:∀τ,a=.bk τ->ue K n e c b (.bk τ))(m:∀τ,a=.ct τ->ue K n e c b (.ct τ))(f:b.rt=E.rt):ue K n e c b a:=by
 cases a with
 |nx τ=>show j τ rfl|bk τ=>show g τ rfl|ct τ=>show m τ rfl|rt o d=>
  cases o with
  |Ã=>intro v G H x r;rw[f];show h v G H x r|Å=>intro v G H x k i l;rw[f];show h v G H x k i l
def zc(b:SS X st g)(c:tZ X sts g'):tZ X ϋn (zZ g g'):=by
 let{t,p,k}:=b.h;let{r,e,j}:=c.h;show{{_,cN p e,λ{u m G H τ σ l E} K a q=>?_}};let{i,b,a}:=zF a;show k K b ?_;cases i with
 |nx τ'=>show λσ' n s f=>j f a q|bk τ'=>cases a;show q|ct τ'=>cases a;show q|rt o d=>cases a;show Æe q Éa Éa Éa rfl
def ze(a:SS X st g):tZ X [st] g:={let ⟨t,p,k⟩:=a.h;{t,cP p,k}}
def U5(i:Ä)(h:tZ X sts g):tZ X sts (zZ (ZJ i) g):=by
 rw[ıo];show{{t,p,λ{o j G H τ σ f E} K b q=>?_}};let{n,a,b}:=zF b;unfold ZJ at a
 rw[Òo];rename_i m d e;cases a;let{l,c,_}:=K.freeze e;show k c b q;cases a
def yX(c:ßa)(b:X.N[i]?=À x)(l:qO Ϟ x)(g:SE X e f)(j:Î žd q12)(a:Î Ėa q7) :SS X Ġd (yH i f):=by let{t,p,k}:=g.h;show{{_,(GO c b l {p} j a).h,λ{w o G H τ σ n E} K a q=>?_}};let{d,m,a}:=zF a;cases a;show k K m λv s u x r=>q _ _ _ ϧj
def gE(j:ßa)(b:X.N[i]?=À x)(n:qO Ϟ x)(l:SF X e f)(m:Î žd q12)(a:Î Ėa q7) :SS X Ġd (qh i f):=by
 let{t,p,k}:=l.h;show{{_,(GO j b n {p} m a).h,λ{y u G H τ σ s E} K a q=>?_}};let{d,r,a}:=zF a;cases a;show k K r λp v w x c g o=>q _ _ _ ((Ϭ x).Pt (Ł b).1 g (ïm c) o ?_)
 show K.Pp c
def yJ(b:SE X e f):SS X Ĺe (yE f):=by let{t,p,k}:=b.h;show{{_,Ou p,λ{m i G H τ σ g E} K a q=>?_}};let{d,c,a}:=zF a;cases a;show k K c λv j l x r=>q v _ _ ļl r
def pK(c:SF X e f):SS X Ĺe (qG f):=by let{t,p,k}:=c.h;show{{_,Ou p,λ{r l G H τ σ j E} K a q=>?_}};let{d,i,a}:=zF a;cases a;show k K i λp m n x g b o=>q p _ _ ļl (ïm g) b o
def U4(i:Ä)(c:Î ϐb q12)(hv:Î Ϩb q14)(h:Î Ģ q10)(b:Î Śa q10):SS X (.Return (À ϔe) pos) (ZK i):=by
 show{{_,Ou (ZE c hv h b),λ{l k G H τ σ j E} K a q=>?_}};unfold ZK at a
 rw[Òo];rename_i d f;cases a;let{p,e,g,z,o}:=K.ow _ _ f;show{_,e,q p _ _ K.ext z g o};cases a
def xI(m:ST X c ft)(l:tZ X sa g)(e:tZ X sb g'):SS X (.If c sa sb pos) (xB ft g g'):=by
 let{r,o,n}:=m.h;let{s,j,d}:=l.h;let{x,p,i}:=e.h;show{{_,cK o j p,λ{y v G H τ σ t E} K a q=>?_}};let{k,f,a}:=zF a;show n K f λu w b=>?_
 cases k with
 |Å=>show gw (d (Ϭ b) a q)|Ã=>show gv (i (Ϭ b) a q)
def W6:tZ X sts Ïb:={{_,z94,λ_ a=>by cases a}}
def y3g{ft:FT}(x:ϵc ù X.A Ö ĥ)(u:ST X c ft)(r:tZ X Öc g):SS X (.While c Öc [] pos) (Ge ft g):=by
 let{J,B,v}:=u.h;let{L,F,t}:=r.h;show{{_,z93 x B F,λ{p j G H τ σ i E} K a q=>?_}};show{λm σ H=>∃τ G,zu X.K ô p j G H τ σ/\jE ft g m τ=À i,{Jd,τ,G,K,a},?_};rintro m σ H ⟨τ,G,K,a⟩;cases m with
 |ϛ=>cases a|Ϝ n=>
  let{k,s,a}:=zF (show(ft τ).bind _=_ from a);show v K s λO P f=>?_
  cases k with
  |Ã=>cases a;show gv (q _ _ _ (Ϭ f))|Å=>
   let{I,C,a}:=zF (show(g τ).bind _=_ from a);show gw {λσ' l=>∃τ G,zu X.K ô p j G l τ σ'/\jE ft g n τ=À i,λσ' l z=>{n,äc n,z},t (Ϭ f) C ?_};cases I with
   |nx τ2=>show λσ2 e y b=>{τ2,e,b,a}|ct τ2=>show λσ2 e y b=>{τ2,e,b,a}|bk τ2=>cases a;show q|rt o d=>cases a;show Æe q Éa Éa Éa rfl
theorem úi{K:Ð}{n:Ä}{e b c g:Hp}{E:uF}{a:Fl}(x:zV e b c g)(h:ue K n e b E a):ue K n c b E a:=by
 cases a with
 |nx τ=>show λσ G H z=>h σ G H Äh|bk τ=>show λσ G H z=>h σ G H Äh|ct τ=>show λσ G H z=>h σ G H Äh|rt o d=>
  cases o with
  |Ã=>show λv G H y r=>h v G H Ċm r|Å=>show λp G H y i f j=>h p G H Ċm i f j
structure SG(X:Cx)(tg:Ó)(fg:FG):È where
 h:∃t,PG X tg t/\∀{G0 H0 G H:Hp}{τ τ':zx}{σ:St}{d:D}{v:V}{Q:St->Hp->È},zu X.K ô G0 H0 G H τ σ->zd X.K G d v->fg d τ=À τ'->(∀σ',zu X.K ô G0 H0 G H τ' σ'->Q σ' H)->t v σ H Q
def kI(h:QG X ϻ Ĥb)(a:X.N[i]?=À x):SG X ϻ (yB i):={{_,h.h,λK r b q=>by cases b;show q _ (K.set ġi.1 r)}}
def eE(h:QG X Ĉe ċe)(m:X.N[i]?=À x)(g:X.N[j]?=À y):SG X Ĉe (jw i j):=⟨⟨_,h.h,λ{z s G H τ τ' σ d v Q} K r b q=>by
 unfold jw at b
 rw[Ĉo];rename_i t w;cases b;let{a,u,rfl,c,{k,p,rfl,o,{l,e,rfl,f,n}},_}:=r;rw[éo];show q _ ((K.set Ġi.1 o).set Řf.1 f);cases b⟩⟩
def gD{c:FG}(P:ϵc ù X.A Ö ĥ)(O:Š=Å)(hi:SI X tg ű fs)(hg:SG X tg c)(Y:tZ X Öc g)(hs:Î (∀x,îb ű Ö x=pure x) q11):SS X æg (qF fs c g):=by
 rw[Ūo];let{tb,pb,C}:=Y.h;show{{_,G7 P O F U pb hs,λ{G0 r G H τ σ u E} K a q=>?_}};let{b,S,a}:=zF a;show T K S λJ j Ha W _ k=>?_
 let t:=Ϭ W;let n:=úi t.ext q;show{λi m σ H=>m=ŵ-i/\i<=ŵ/\∃τ G,zu X.K ô j r G H τ σ/\j_ c g či τ=À u,{ŵ,rfl,Ϡ _,τ,j,t.kY,a},?_};rw[đo];show .inr {k.go i G H śb Ãa hlt,λσ' f=>∃τ G,zu X.K ô j r G f τ σ'/\j_ c g Źh τ=À u,λσ' f z=>{ŵ-õ,ļe _ _ hlt,rfl,hlt,z},λx f y=>?_};rw[Åo];let{L,Z,a}:=zF a;show R Ďi rd h1 λσ1 B=>C B Z ?_
 cases L with
 |nx τ2=>show λσ2 p Q l=>{τ2,p,l,a}|ct τ2=>show λσ2 p Q l=>{τ2,p,l,a}|bk τ2=>cases a;show n|rt o d=>cases a;show Æe n Éa Éa Éa rfl
 rw[Őo];show .inl {k.stop i G H śb Ãa É,n _ _ _ K}
def sZ{K:Ð}{G:Hp}{b:Â}{n:Ä}:jo K (Jf b n) G ((ßd).map λk:Ä=>Ě (b+k)) where
 go:=λi c H _ _ a=>by exact i<n;simpa using a
 ud:=λi c H x e _ d a y=>by let{rfl,rfl}:=y;show{c,.int (b+i),ĺa d,by simp at a;simp[a],rfl}
 ϭ:=λi c H _ _ a=>by exact n<=i;simpa using a
def tM(u:Gl X Ěb)(w:ñ Ěb=Æ)(g:SE X a fa)(d:Î żd q12):SI X tg ķj (ww û fa):=by
 let{t,m,k}:=(zB g zN d).h;show{{_,z8h u w m (tQ d),λ{I B G H τ σ ds R} K b q=>?_}};let{x,l,b}:=zF b;cases l;let{y,s,b}:=zF b;refine k K (ds:=[y]) (by unfold zA;rw[s];rfl) λC A E f i=>?_
 cases y<;>first|cases b|skip
 rename_i j;let{v,r,rfl,o,n}:=i;cases(show r=[]from n);cases(show v=.int j from o)
 change (if(0:Â).natAbs<=yW/\Ĝf<=yW/\(j-0).toNat<=yW then _ else _)=_ at b
 by_cases c:(0:Â).natAbs<=yW/\Ĝf<=yW/\(j-0).toNat<=yW;rw[ço];let F:Ĝf<=16777216:=c.2.1;let z:(j-0).toNat<=16777216:=c.2.2;refine{j,rfl,by omega,by omega,q _ _ _ f ?_ ?_};rw[æ,şa,ľ];omega;let e:(j-0).toNat=Ňf:=by omega
 rw[e];show sZ;rw[æo]
def z17{K:Ð}{G:Hp}{a:Í}{vs:Á V}{ds:Á D}(h:yh K G a vs)(r:á K G ds vs):jo K êi G ds where
 go:=λi g H b c f=>by let{v,e,_}:=Ÿa (Ĳ f);show{vs,v,uY ϩc h,e}
 ud:=λi g H x l b c f y=>by let{rfl,y}:=y;let e:=y vs (uY ϩc h);let{d,k,j}:=r.at e;show{g,d,ĺa c,k,Ųf b}
 ϭ:=λi g H b c f=>{vs,uY ϩc h,by rw[Ŷ];show f}
def y7p{K:Ð}{G:Hp}{a:Í}{vs:Á V}{ds:Á D}(h:xE K G a vs)(r:á K G ds vs):jo K éi G ds where
 go:=λi g H b c f=>by let{v,e,_}:=Ÿa (Ĳ f);show{vs,v,vi ϩc h,e}
 ud:=λi g H x l b c f y=>by let{rfl,y}:=y;let e:=y vs (vi ϩc h);let{d,k,j}:=r.at e;show{g,d,ĺa c,k,Ųf b}
 ϭ:=λi g H b c f=>{vs,vi ϩc h,by rw[Ŷ];show f}
def y3p{K:Ð}{G:Hp}{z:Ç}:jo K ϑf G (Öl λc=>ôd {#[c]}) where
 go:=λi b H _ _ a=>by rw[æ,ìb]at a;show a
 ud:=λi b H x f _ d a y=>by let{rfl,c,e,rfl}:=y;show{b,.str {#[c]},ĺa d,?_,rfl,İa (n:=1) Ì};rw[Ş,ķe,e];rfl
 ϭ:=λi b H _ _ a=>by rw[æ,ìb]at a;show a
def PI.or(c:PI X tg e w1)(b:PI X tg e w2):PI X tg e (λσ H R=>w1 σ H R\/w2 σ H R):=λa s σ H R I q=>by rcases q with q|q;show c a s σ H R I q;show b a s σ H R I q
def pJ(h:SE X e f):SI X tg e (tz f):=by
 rw[ıo];show{{_,PI.or (z8g p) (PI.or (z8j p) (z8i p)),λ{u o G H τ σ s R} K g q=>?_}};let{d,j,g}:=zF g;cases d<;>first|cases g|skip
 rename_i z;show .inr (.inr ýg);let{rfl,l}:=r;show{z,rfl,q _ _ _ x (by rw[æ,ìb];show l) y3p};show .inr (.inl ýg);let{a,i,rfl,b,c,l}:=r;show{a,rfl,{i,vi Ĳa b},q _ _ _ x l (y7p b c)};show .inl ýg;let{a,i,rfl,b,c,l}:=r;show{a,rfl,{i,uY Ĳa b},q _ _ _ x l (z17 b c)}
#print a
nonrec def N8(K:Ð)(n:Ä)(f:FE):TE:=λσ H Q=>∃G0 H0 G τ d,zu K n G0 H0 G H τ σ/\f τ=À d/\∀v G' H',zV G H G' H'->zd K G' d v->Q v H'
nonrec def LQ(K:Ð)(n:Ä)(f:FT):TT:=λσ H Q=>∃G0 H0 G τ d,zu K n G0 H0 G H τ σ/\f τ=À d/\∀G' H',zV G H G' H'->Q d H'
structure XG(X:Cx)(es:Á Ó)(f:FT):È where
 h:XD X es (LQ X.K ô f)
section
variable{X:Cx}{e c:Ó}{f:FE}{ft:FT}
def SE.pe(h:SE X e f):PE X e (N8 X.K ô f):=λa s σ H Q I q=>by rw[ıo];let{g,c,G,τ,d,K,b,z}:=q;show p a s σ H Q I ώn
def ST.pt(h:ST X e ft):PT X e (LQ X.K ô ft):=λa s σ H Q I q=>by rw[ıo];let{f,c,G,τ,d,K,b,z}:=q;show p a s σ H Q I ώn
def tR:XG X [] yy:={λb s σ H Q I q=>by let{c,e,G,τ,d,K,a,z}:=q;cases a;show z97 b s σ H Q I (z _ _ ϗd)}
def U6(h:ST X c ft):XG X [c] ft:={z98 h.pt}
#print a
def zu.more{K:Ð}{n:Ä}{o l G H:Hp}{τ:zx}{σ:St}(k:Ä)(E:zu K n o l G H τ σ):zu K Ĉd o l G H Ąc ŵe:=by
 let a:∀{i:Ä}{s:Sl},Ąc[i]?=À (À s)->τ[i]?=À (À s)/\ŵe[i]?=σ[i]?:=λ{i s} h=>by let b:=Iz h;let t:i<n:=E.lt b;show{b,éb (by rw[Ė];show t)}
 refine{ũb,by rw[Ă,żb,Ė],by rw[Ă,żb,č],λi d h=>?_,λi d h=>?_,λi j d e p c u r m q=>?_};let{b,e}:=a h;rw[e];show Ža i d b;let{b,e}:=a h;rw[e];show Ĕa i d b;let{g,e1}:=a u;let{f,e2}:=a r;rw[e1]at m;rw[e2]at q;show ža i j d e p c g f m q
def OT{K:éh}{n k:Ä}{E t b j:Hp}{τ:zx}{σ:St}{J:It}{ds out:Á D}{g:TG}{h:FG}{q:FT}{f:FE}{c:Á V->Hp->È}(w:jo K J b ds)(hl:Ĉ<=ã)(L:zu K n E t b j τ σ)(a:xF h q f Ąc ds=À out)(U:∀G H d v τ' (Q:St->Hp->È),zu K Ĉd E t G H Ąc ŵe->zd K G d v->h d Ąc=À τ'->(∀ρ,zu K Ĉd E t G H τ' Ĥf->Q Ĥf H)->g v ŵe H Q)(C:∀ys G H,zV b j G H->á K G out ys->out.length<=ã->c ys H) :∃W:Ä->Ä->Á V->Hp->È,(∃m,W 0 m [] j)/\OS σ k J g (LQ K Ĉd q) (N8 K Ĉd f) W c:=by
 show{λi m ys H=>m=Ĉ-i/\i<=Ĉ/\ŭ<=i/\∃G done yM,zV b j G H/\á K G done ys/\xF h q f Ąc (ŉf i)=À yM/\done++yM=out,{Ĉ,rfl,Ϡ _,Üa _,b,[],out,ĺa L.ext.gh,rfl,a,rfl},?_};rintro i m ys H ⟨rfl,P,B,G,done,yM,x,r,a,s⟩;by_cases hlt:i<Ĉ
 .refine .inr {w.go i G H x.g Ĳa hlt,by omega,λys H=>ŭ<=i+1/\∃G done yM,zV b j G H/\á K G done ys/\xF h q f Ąc (ŉf õ)=À yM/\done++yM=out,λT A z=>{Ĉ-õ,ļe _ _ hlt,rfl,hlt,z.1,z.2},λv A y=>?_};let{S,d,o,I,Z}:=w.ud i G H v A x.g Ĳa hlt y;rw[Źb hlt]at a;rw[Ĳ hlt]at I;cases I;let{τ1,h1,a}:=zF (show(h _ _).bind _=_ from a);let{O,Y,a}:=zF a;let K3:=((L.go x).go o).more k;show U S A _ v τ1 _ K3 Z h1 λρ F=>{{ρ,rfl},_,_,_,_,O,F,Y,λX H5 p=>?_}
  cases O with
  |Ã=>show gv {by omega,X,done,yM,Ód (üi p),ça (čn p.g),a,s}|Å=>let{z,R,a}:=zF (show(f _).bind _=_ from a);let{l,hm,a}:=zF a;cases a;refine gw {_,_,_,_,z,F.go p,R,λu G6 H6 N r6=>{by rw[Ă];show üc B,G6,done++[z],l,Ód (üi (p.trans N)),(ça (čn (p.g.trans N.g))).append (ġf r6),hm,?_}};rw[Ŷc];show s
 let e:ŉf i=[]:=ăg Ħg;rw[e]at a;cases a;rw[Ûa]at s;subst s;refine .inl {w.stop i G H x.g Ĳa É,C ys G H x r ?_};rw[<-Ŷ];omega
section
variable{X:Cx}{tg ű elt:Ó}{ifs:Á Ó}{ň:Óa}{cl:Á ϙa}{own:Á Ç}{pos:Pos}{fs:FA}{fg:FG}{ft:FT}{f:FE}{g:TG}
def Kt(xs:Á α)(y:α)(ys:Á α)(h:n=ä)(z:α):(xs++y::ys).set n z=xs++z::ys:=by subst h;rw[ùk _ _ Ę,Ţd];rfl
structure BG(X:Cx)(ň:Óa)(cl:Á ϙa)(own:Á Ç)(tg:Ó)(g:TG)(fg:FG):È where
 q:∀C s H fp pn,QG ϯ tg g
 k:∀{G0 H0:Hp}{τ:zx}{σ:St},τ.length=ô->σ.length=ô->∀G H d v τ' (Q:St->Hp->È),zu X.K ăf G0 H0 G H ϵk Ÿc->zd X.K G d v->fg d ϵk=À τ'->
  (∀ρ,zu X.K ăf G0 H0 G H τ' Ĥf->Q Ĥf H)->g v Ÿc H Q
def vn(q:∀C s H fp pn,QG (wT X ň cl [x] C s H fp pn) tg Ĥb)(b:i=ô):BG X ň cl [x] tg Ĥb (yB i):={q,λ{h j τ σ} g f G H d v τ' Q E r c k=>by cases c;let e:=źa (i:=i) (v:=v) (by rw[b];show äc _) r;let a:(ģl).set i ŧ=σ++[À v]:=Kt σ Æ [] (b.trans f.symm) ŧ;exact Q ((ģl).set i ŧ) H;rw[a];show k [À v] ?_;rw[<-a];show e}
def lN(q:∀C s H fp pn,QG (wT X ň cl ćd C s H fp pn) tg ċe)(l:i=ô)(g:j=ô+1):BG X ň cl ćd tg ċe (jw i j):=⟨q,λ{J z τ σ} B h G H d v τ' Q E r e k=>by
 unfold jw at e
 rw[Ŝo];rename_i A I;cases e;let{a,F,rfl,m,{b,w,rfl,u,{c,n,rfl,o,t}},_}:=r;cases(show n=[]from t);let p:=(źa (i:=i) (v:=b) (by rw[l];show Nat.lt_add_of_pos_right (êh _)) u).set (i:=j) (v:=c) (by rw[g];show äc _) o
 let f:(ņj).set j ģi=σ++[À b,À c]:=by
  let e1:(σ++Ų 2 Æ).set i (À b)=σ++[À b,Æ]:=Kt σ Æ [Æ] (l.trans h.symm) (À b);rw[e1];let e2:σ++[À b,Æ]=Åm++[Æ]:=by simp
  rw[e2,Kt Åm Æ [] (by rw[Ă,g,h];rfl) ģi];simp
 show{a,_,rfl,vi ύ m,rfl,b,_,rfl,c,_,rfl,rfl,?_};exact Q ((ņj).set j ģi) H;rw[f];show k [À b,À c] ?_;rw[<-f];show p;cases e⟩
def A4(X:Cx)(own:Á Ç):(wu X.N own).length=ô+ëb:=by unfold wu;rw[Ă,æ]
theorem IC(h:SE ϯ elt f):PE ϯ elt (N8 X.K ăf f):=by let q:=h.pe;rw[Ėo]
def ID(h:XG ϯ ifs ft):XD ϯ ifs (LQ X.K ăf ft):=by let q:=h.h;rw[Ėo]
def uq(a:Š=Å)(B:Zj X ň cl own)(z:SI X tg ű fs)(j:BG X ň cl own tg g fg)(r:∀C s H fp pn,XG ϯ ifs ft)(m:∀C s H fp pn,SE ϯ elt f)(F:Î (∀x,îb ű Ö x=pure x) q11) :SF X ϱa ņe:=by
 let{S,o,y}:=z.h;show{{_,c6 a B o (Νb (j.q C s H fp pn)) (Κb (r C s H fp pn)) (Λb (m C s H fp pn)) F,λ{T N G H τ σ d Q} K b q=>?_}};let{P,w,b}:=zF b;let{t,v,b}:=zF b;cases b;show y K w λJ I L i l u=>OT u l (Ϭ i) v (j.k K.l2 K.l1) λE R O c n A p e=>?_
 show q p _ _ (i.trans ūk) (i.h.free (Ϫd e)) (õf e) {E,yL,n,A}
def y3e(b:Š=Å)(S:ßa)(c:X.N[i]?=À x)(O:īd x=À .local)(B:Zj X ň cl own)(n:Ďc ϱa Ũn Ĉn Ö=pure Å)(T:SI X tg ű fs)(v:BG X ň cl own tg g fg)(A:∀C s H fp pn,XG ϯ ifs ft)(w:∀C s H fp pn,SE ϯ elt f)(W:Î (∀x,îb ű Ö x=pure x) q11) :SS X Ņj (qh i ņe):=by
 let{ti,z,Q}:=T.h;show{{_,cM b S c O B n z (Νb (v.q C s H fp pn)) (Κb (A C s H fp pn)) (Λb (w C s H fp pn)) W,λ{G0 H0 G H τ σ fl E} K r q=>?_}};let{d,a,r}:=zF r;cases r;let{ds,P,a}:=zF a;let{F,L,a}:=zF a;cases a;show Q K P λJ Y Z t l I=>OT I l (Ϭ t) L (v.k K.l2 K.l1) λu G1 H1 j y U p e=>?_
 let m:=(Ϭ t).go j;let R:=m.go (ĭa (o:=.lst u) j.gh e);show q _ _ _ (R.Pt řf.1 (đn e) (m.ext.h.free e) {u,yL,y,U} (m.Pp e))
def N0(b:Š=Å)(R:ßa)(c:X.N[i]?=À x)(L:īd x=À .local)(B:Zj X ň cl own)(j:Ďc ϱa Ũn Ĉn Ö=pure Å)(S:SI X tg ű fs)(u:BG X ň cl own tg g fg)(z:∀C s H fp pn,XG ϯ ifs ft)(v:∀C s H fp pn,SE ϯ elt f)(U:Î (∀x,îb ű Ö x=pure x) q11) :SS X Ņj (yH i ņe):=by
 let{ti,y,P}:=S.h;show{{_,cM b R c L B j y (Νb (u.q C s H fp pn)) (Κb (z C s H fp pn)) (Λb (v C s H fp pn)) U,λ{G0 Z G H τ σ fl E} K m q=>?_}};let{d,a,m}:=zF m;cases m;let{ds,O,a}:=zF a;let{A,I,a}:=zF a;cases a;show P K O λJ W Y r l F=>OT F l (Ϭ r) I (u.k K.l2 K.l1) λt G1 H1 e w T p n=>?_
 let Q:=((Ϭ r).go e).go (řb (o:=.lst t) Õc n);show q _ _ _ (Q.set řf.1 {p,t,rfl,Ŕa yL,w.mono (wY (Šd n) _),T})
#print a
section
variable{K:Ð}{n:Ä}{G0 H0 G H:Hp}{τ:zx}{σ:St}
def zu.Ui(E:zu K n G0 H0 G H τ σ)(B:τ[i]?=À Đc)(v:σ[i]?=À Ñf)(C:wM K G ģc d' p):zu K n G0 H0 G ģc ϝj σ:=by
 let{T,e,g,z,_}:=Ĕa i d B;rw[v]at e;cases e
 let l:∀{m:Hp},m p=Æ->zh m H->zh m ģc:=λ{m} h s b u q=>by rw[zt (tH q h)];show s _ _ q
 refine{{ŀc,l z ϥa,l g ύ,Ċb},Ė,by rw[Ĥo],λj e h=>?_,λj e h=>?_,λj k e f q a R N Q S=>?_};rcases vO h with⟨rfl,w⟩|⟨F,w⟩;cases w;show Ža j e w;rcases vO h with⟨rfl,w⟩|⟨F,w⟩;cases w;show{p,v,g,z,C};let{q,I,O,J,A}:=Ĕa j e w;show{q,I,O,J,?_}
 let a:q≠p:=λc=>by subst c;show ža i j d e q (λc=>F Ŋf) B w v I
 cases e with
 |lst ds=>let{x,y,r}:=A;show{x,by rw[zt a];show y,r}
 |dic ks ds=>let{x,y,r}:=A;show{x,by rw[zt a];show y,r}
 |_=>show A.elim
 let t:∀{j:Ä}{e:D},ϝj[j]?=À ŝd->∃e,τ[j]?=À ŝd:=λ{j e} h=>by rcases vO h with⟨rfl,_⟩|⟨_,w⟩;show{_,B};show{_,w}
 let{e1,P}:=t R;let{e2,L}:=t N;show ža j k e1 e2 q a P L Q S
#print a
section
variable{X:Cx}{x:Ç}{xp pos ϙ Ϛ:Pos}{e:Ó}{f:FE}
def Kz(O:QE X ÿa ŋc)(J:SE X e f)(n:Î (Şa ÿa "append" Ö Áh=ċ ÿa Ö) q12)(m:Î śa q12)(I:Î ϳ q12) :SS X (Θe (.Attribute ÿa "append" ϙ)) (Vt i XY f):=by
 let{t,p,k}:=(zB J zN I).h;refine{{_,(GN (Oy ĩe PySem.F.slot_list_append PySem.F.type_list_append z24 O {p} n m (by rw[ř,I];rfl) įe) rfl).h,λ{Z S G H τ σ W E} K j q=>?_}};unfold Vt at j
 split at j;rename_i d B;let{y,P,j}:=zF j;let{N,b,j}:=zF j;cases j;let{a,C,g,z,o}:=K.ow _ _ B;cases d with
 |lst ds=>
  let{v,A,w,l}:=o;refine{_,C,.inl {rfl,v,Ŕa A},k K (ds:=[y]) (by unfold zA;rw[P];rfl) λU Y T s L=>?_};let{u,r,rfl,R,Q}:=L;cases(show r=[]from Q)
  change (if Ĉ<yW then À (Ćd (ds++[y]))else Æ)=À N at b
  by_cases c:Ĉ<yW;rw[ço];refine{a,v,u,rfl,rfl,s.h _ _ A,by rw[w.length,ľ];show c,?_};show q _ _ _ ((Ϭ s).Ui B C {v++[u],yL,(w.mono s.g).append (ġf R),?_});rw[Ă,ľ];show c;rw[æo]
 |_=>cases b
 cases j
#print a
section
variable{P:ï}{w:è}{K:Ð}{mg:Ç->Ê Value}{Ë:Heap}
def OY{α β:Type}{ds:Á α}{k i:Ä}{h:α->Ê β}{y:β}(e:(ňf h++Ų k Æ)[i]?=À (À y)):∃d,ds[i]?=À d/\h d=À y:=by
 let a:=Iz e;rw[Ş]at a;cases q:ds[i]? with
 |Æ=>rw[q]at a;cases a|À d=>rw[q]at a;show{d,rfl,āa a}
def Al{N:Á Ç}{G H:Hp}{ds:Á D}{vs:Á V}(s:zh G H)(r:á K G ds vs)(g:Ĉ<=ϖ):zu K ϖ G H G H (χd (ϖ-Ĉ)) łh:=by let l:=Ŷ;show{ĺa s,?_,?_,λi d h=>?_,λi d h=>?_,λi j d e p _ f=>?_};unfold Ŵd;rw[Ďo];rw[Ďo];let{b,e,z}:=OY h;cases z;let{v,a,c}:=Ÿa e;show{v,?_,c};unfold Ŵd;rw[éb (by rw[æ];show ġi.1),Ş,a];rfl;let{b,e,z}:=OY h;cases z;let{b,e,z}:=OY f;cases z
def Def.iR{x:Ç}{st:Ù}{N ps:Á Ç}{k:Ä}{F:Á D->Ê í}{b:FS}(d:Def K mg x st ps)(S:zi N ps ņ)(J:ü<=ϖ)(i:∀ds r,F ds=À r->Ĉ=ü/\yP ϖ b ds=À r)(j:∀(f:Í)(c:Value)(A:Ā)(þ:Á Env)(s:Ñ)(H:Hp)(E:XK),ym k êg->tZ (tD xK P w K mg Ë N x ņ f c A þ s H E).tW ϵ b):wH P w K mg Ë x ps š ϲd:=by
 show d.ok S (λy H Q E h=>?_) λf c A þ s H y Q E B h=>?_;let{G,ds,o,m,_,r,e,_}:=h;rw[Ŷ,(i _ _ e).1];let{G,ds,o,m,u,r,e,q}:=h;let{l,a}:=i _ _ e;let{t,p,C}:=(j f c A þ s H E B).h;let{n,g,a}:=zF a;refine{t,p,C (Al (N:=N) u r É) g ?_};cases n with
 |nx τ=>cases a;show λσ v I z=>q .zE v I z.ext rfl|rt o' d'=>
  cases o' with
  |Ã=>cases a<;>show q|Å=>cases a<;>show q
 |_=>cases a
#print a
section
variable{X:Cx}{K:Ð}
def Xx(h:∀i j,Cb i j=Å->C i j):uR K çk (fI Cb g):=λG H x y u v d Q s b e a q=>by
 cases x<;>first|(cases a;done)|skip
 cases y<;>first|(cases a;done)|skip
 rename_i i j
 change (match Cb i j with|Å=>À (Ě ūa)|Ã=>Æ)=À d at a
 cases c:Cb i j with
 |Ã=>rw[c]at a;cases a|Å=>rw[c]at a;cases a;show{i,j,b,e,h i j c,q _ _ _ ϑ rfl}
def Vk:uR K ņn (qz g):=λG H x y u v d Q s b c a q=>by
 cases x<;>first|(cases a;done)|skip
 cases y<;>first|(cases a;done)|skip
 rw[öo]
def k9:uR K Ŭm q_:=λG H x y u v d Q s b c a q=>by
 cases x<;>first|(cases a;done)|skip
 cases y<;>first|(cases a;done)|skip
 rw[öo]
def bI(h:wN i=Å) : -Ĵf<i/\i<2 ^ 64:=by unfold wN at h;rw[ø]at h;show{ī h.1,ī h.2}
def u5:uR K ëg ve:=Xx λ_ _ h=>.inl (bI h)
def Em:uR K ëg Q1:=Xx λ_ _ h=>.inr (bI h)
def yi:uR K ϱj yZ:=Xx λ_ _ h=>ī h
def k8:uR K Ģj jQ:=Xx λ_ _ h=>by rw[ø]at h;show{ī h.1,ī h.2}
def z8x(h:jC i j=Å):Mo i j:=by unfold jC at h;rw[ø,ø]at h;show{ī h.1,ī h.2.1,ī h.2.2}
def YG:uR K ěj uk:=Xx λ_ _ h=>z8x h
def bi:uR K ēj Q2:=Xx λ_ _ h=>ī h
def uo:jL K ōk (vV g):=λH x y u v d Q b c a=>by
 cases x<;>first|(cases a;done)|skip
 cases y<;>first|(cases a;done)|skip
 cases a;show{_,rfl,λq=>{_,_,b,c,q}}
def am(r:zd K H x u):Vc x=decide (u=.zE):=by
 cases x with
 |zE=>cases r;rfl|bl b=>cases r;rfl|int b=>cases r;rfl|str b=>let{rfl,_}:=r;rfl
 |tup b=>let{a,d,rfl,_}:=r;rfl
 |lst b=>let{a,d,rfl,_}:=r;rfl
 |dic b c=>let{a,d,rfl,_}:=r;rfl
 |exc b=>let{a,C,rfl,_}:=r;rfl
 |obj b c e=>let{a,C,f,d,rfl,_}:=r;rfl
def Og:jL K Ńk VL:=λH x y u v d Q b c a=>by
 cases y<;>first|(cases a;done)|skip
 let e:=am b;show{Vc x,(āa a).symm,λq=>{c,?_}};rw[<-e];show q
def Oh:jL K œj VM:=λH x y u v d Q b c a=>by
 cases y<;>first|(cases a;done)|skip
 let e:=am b;show{!Vc x,(āa a).symm,λq=>{c,?_}};rw[<-e];show q
def LV:∀(G H:Hp) x u d (Q:VK),zd K G x u->Y6 x=À d->∃w,(∀G,zd K G d w)/\(Χd (-i)):=λG H x u d Q r a=>by
 cases x<;>first|(cases a;done)|skip
 rw[Ťo]
def y97:∀(G H:Hp) x u d (Q:VK),zd K G x u->FK x=À d->∃w,(∀G,zd K G d w)/\(Χd Ėi):=λG H x u d Q r a=>by
 cases x<;>first|(cases a;done)|skip
 rw[Ťo]
def cf(K:Ð):R2:=λx y H Q=>∃l b xs zs,x=.ref l/\y=.ref b/\yh K H l xs/\yh K H b zs/\ä+ţh<=ã/\∀p,H p=Æ->Q Ž (ν ϩj)
def z71:ye X ϯc (cf X.K):=by
 intro R s σ H x y v u Q I A t h;let{l,b,S,U,rfl,rfl,z,E,n,q}:=h;cases A;cases t;let{c,p,G,_}:=ϒ z;let{a,o,w,_}:=ϒ E;obtain⟨⟨P,J,W,k⟩,r,i,d,N,j⟩:=G;obtain⟨⟨T,B,O,m⟩,L,e,f,C,g⟩:=w;simp only at d j f g;subst d j f g
 refine åh {_,i,rfl} {_,e,rfl} Ċl seq_list_add PySem.F.slot_list_add PySem.F.entry_list_add (PySem.F.args_list_add_2 _ _)
  (list_addW l b ôf Òb r L J B k m (by rw[ė,ė,<-p.length,<-ŭa];show n)) {i,e,?_}
 rw[show ôf++Òb=(ũi).toArray by simp];show{.ref _,_,I.Po (t':=ĕ) (p.append o) (by rw[Ă];show n),rfl,q _ Úd}
def cb(K:Ð):R2:=λx y H Q=>qg (λi j=>.int (i+j)) x y H Q\/(∃i k,x=.int i/\y=.bl k/\Q ğl H)\/(∃i j,x=.str i/\y=.str j/\đb+ða<=ã/\Q Þm H)\/cf K x y H Q\/cg K x y H Q
def yg:ye X ϯc (cb X.K):=z6y.or (z6z.or (z70.or (z71.or z72)))
def yf:uR K (cb K) yK:=λG H x y u v d Q s w r f q=>by
 cases x<;>first|(cases f;done)|skip
 all_goals (cases y<;>first|(cases f;done)|skip)
 rename_i i b;cases w;cases r;cases f;show .inr (.inl {i,b,rfl,rfl,?_});let e:i+b2i b=i+Ŀe:=by cases b<;>rfl
 rw[e];rw[Ϙo];cases f;show .inl {_,_,w,r,q _ _ _ ϑ rfl};rename_i i j;let{rfl,I}:=w;let{rfl,F}:=r
 change (if đb+ða<=yW then _ else _)=_ at f
 by_cases c:đb+ða<=yW;rw[Ò c]at f;cases f;let n:đb+ða<=ã:=by rw[ľ];show c
 show .inr (.inr (.inl {i,j,rfl,rfl,n,q _ _ _ ϑ {rfl,by rw[Ůc];show n}}));rw[Ô c]at f;rw[ûo]
 change (if ėn=Ã/\Üb+Ģa<=yW then _ else _)=_ at f
 by_cases c0:ėn=Ã/\Üb+Ģa<=yW;rw[Ò c0]at f;let c:=c0.2;rw[ěo]
 let E:m≠[]:=λe=>by
  let l:=ěf;rw[e]at l;cases g with
  |nil=>cases c0.1|ú=>cases l
 refine .inr (.inr (.inr (.inr {a,b,m,A,rfl,rfl,vi s B,vi s C,E,by rw[ěf,ŭa,ľ];show c,λe=>?_,λe p t=>?_})));subst e
 let e2:h=[]:=by
  cases h with
  |nil=>rfl|ú=>let{_,_,z,_}:=o;cases z
 subst e2;show q _ _ _ ϑ {a,m,rfl,B,by rw[Ûa];show k,n};show q _ _ _ ľn {p,m++A,rfl,Ŧb yL,(ęm).mono Àl,n};rw[Ô c0]at f;rw[ûo]
 change (if Üb+Ģa<=yW then _ else _)=_ at f
 by_cases c:Üb+Ģa<=yW;rw[Ò c]at f;rw[ěo]
 refine .inr (.inr (.inr (.inl {a,b,m,A,rfl,rfl,uY s B,uY s C,by rw[ěf,ŭa,ľ];show c,λp t=>?_})));show q _ _ _ ľn {p,m++A,rfl,Ŕa yL,(ęm).mono Àl,n};rw[Ô c]at f;cases f
def l8(h:qu xs i=À x):∃j:Ä,xs[j]?=À x/\∀{β:Type}(ys:Á β),ŭ=ä->qu ys i=ys[j]?:=by
 unfold qu at h;cases e:ixN ä i with
 |Æ=>rw[e]at h;cases h|À j=>rw[e]at h;show{j,h,λys l=>by unfold qu;rw[l,e];rfl}
def Sm(xs:Á α)(i:Â):qu xs i=vZ xs i:=by
 unfold qu vZ ixN;by_cases h:0<=i;rw[Ò h,Ò h];by_cases h2:i<ä;rw[Ò h2];rfl;rw[Ô h2];show(êb É).symm;rw[Ô h,Ô h]
 split<;>rfl
def Gb(r:á K H ds vs)(h:vZ ds i=À d):∃v,qu vs i=À v/\zd K H d v:=by rw[<-Sm]at h;let{j,e,k}:=l8 h;let{v,b,a}:=Ÿa e;show{v,by rw[k vs Ŷ];show b,a}
def nN:D->D->Ê D
 |.lst xs,.int i=>vZ xs i|.tup xs,.int i=>vZ xs i|.str z,.int i=>(Õn).bind λc=>À Ëh|_,_=>Æ
def El:uR K (GR K) nN:=λG H x y u v d Q s k h b q=>by
 cases x<;>first|(cases b;done)|skip
 all_goals (cases y<;>first|(cases b;done)|skip)
 rename_i z i;let{rfl,l}:=k;cases h;let{c,o,b}:=zF b;cases b;rw[<-Sm]at o;show .inr (.inr {z,i,c,rfl,rfl,l,o,q _ _ _ ϑ {rfl,İa (n:=1) Ì}});rw[ăo];show .inr (.inl {a,m,i,w,rfl,rfl,vi s f,g,q _ _ _ ϑ e});rw[ăo];show .inl {a,m,i,w,rfl,rfl,uY s f,g,q _ _ _ ϑ e}
def t9:wL X ůe (Αd Ûg ŗh):=lm.or lr
def tI:jl K (Αd (yh K H p ys\/xE K H p ys) ŗh) vH:=λG H i j d Q s r b q=>by
 match i,b with
 | [.lst xs],b=>cases b;let{v,e,rfl,{a,g,rfl,f,h,_},c}:=r;cases(show e=[]from c);show .inl {a,g,rfl,.inl f,by rw[Ģa];rw[Ϙo]}
 | [.tup xs],b=>cases b;let{v,e,rfl,{a,g,rfl,f,h,_},c}:=r;cases(show e=[]from c);show .inl {a,g,rfl,.inr f,by rw[Ģa];rw[Ϙo]}
 | [.str z],b=>cases b;let{v,e,rfl,{rfl,l},c}:=r;cases(show e=[]from c);show .inr {z,rfl,l,q _ _ _ ϑ rfl}
def z6a:jl K ϗi Ii:=λG H e h d Q s r a q=>by
 match e,a with
 | [.int i,.int j],a=>cases a;let{v,g,rfl,rfl,{f,b,rfl,rfl,c}}:=r;cases(show b=[]from c);show{i,j,rfl,q _ _ _ ϑ rfl}
def Ek:jl K ϋi XZ:=λG H e f d Q s r a q=>by
 match e,a with
 | [.int i],a=>cases a;let{v,c,rfl,rfl,b}:=r;cases(show c=[]from b);show .inl {i,rfl,q _ _ _ ϑ rfl}
 | [.bl k],a=>cases a;let{v,c,rfl,rfl,b}:=r;cases(show c=[]from b);show .inr {k,rfl,q _ _ _ ϑ rfl}
#print a
theorem AT:∀xs ys:Á D,(((Ģg).all λj=>xi Űg Ůg)&&ä==ŭ)=Ůb xs ys
 | [],[]=>rfl| [],_::_=>rfl|_::_,[]=>rfl|x::xs,y::ys=>by
  let a:=AT xs ys;exact _=Ġk;rw[<-a,Ġ,Ġ,Nat.succ_min_succ,List.range_succ_eq_map,ř,List.all_map,Bool.and_assoc]
  congr 1
  congr 1
  rw[Ϗb];simp
theorem AK:∀{xs ys:Á D},pj f xs ys=Å->∀(j:Ä) x y,xs[j]?=À x->ys[j]?=À y->f x y=Å
 | [],_,_,j,x,y,e,_=>by cases e|x::xs,[],_,j,_,y,_,e=>by cases e|x::xs,y::ys,h,0,_,_,e1,e2=>by cases e1;cases e2;let c:Ők=Å:=h;rw[ø]at c;show c.1|x::xs,y::ys,h,j+1,a,b,e1,e2=>by let c:Ők=Å:=h;rw[ø]at c;show AK c.2 j a b Ŕk œk
section
variable{X:Cx}{z8:Á î}{σ:St}{H:Hp}{s:Ñ}{K:Ð}
theorem FH(d:∀d1 d2 v,uS n d1 d2=Å->zd K H d1 v->zd K H d2 v->xi d1 d2=Å):∀{xs ys:Á D}{vs:Á V},pj Ňc xs ys=Å->á K H xs vs->á K H ys vs->Ůb xs ys=Å
 | [],[],_,_,_,_=>rfl| [],_::_,_,_,r1,r2=>by cases(show _=[]from r1);let{_,_,e,_}:=r2;cases e
 |_::_,[],_,_,r1,r2=>by cases(show _=[]from r2);let{_,_,e,_}:=r1;cases e
 |x::xs,y::ys,_,h,r1,r2=>by let{v,r,rfl,a,b}:=r1;let{i,j,e,g,f}:=r2;cases e;let c:(uS n x y&&pj Ňc xs ys)=Å:=h;rw[ø]at c;exact Ġk=Å;rw[d x y v c.1 a g,FH d c.2 b f];rfl
def D_(h:uS ĸ x y=Å):(∃xs ys,x=.tup xs/\y=.tup ys/\pj Ňc xs ys=Å)\/(∃xs ys,x=.lst xs/\y=.lst ys/\pj Ňc xs ys=Å)\/(yz x=Å/\yz y=Å):=by
 unfold uS at h
 split at h;show .inl {_,_,rfl,rfl,h};show .inr (.inl {_,_,rfl,rfl,h});rw[ø]at h;show .inr (.inr h)
def YO(h:yz d=Å)(r:zd K H d v):qU v=Å:=by
 cases d<;>first|show ß h Ŋ|skip
 rw[ßo];rfl;rw[ßo];rfl;rw[ßo];rfl;cases(show v=_/\_ from r).1;rfl
def W3(d:yz d1=Å)(c:yz d2=Å)(a:zd K H d1 x)(b:zd K H d2 y):tF x y=xi d1 d2:=by
 cases d1<;>first|show ß d Ŋ|skip
 all_goals (cases d2<;>first|show ß c Ŋ|skip)
 all_goals first
  |(cases(show x=_ from a);cases(show y=_ from b);rfl)
  |(cases(show x=_ from a);cases(show y=_/\_ from b).1;rfl)
  |(cases(show x=_/\_ from a).1;cases(show y=_ from b);rfl)
  |(cases(show x=_/\_ from a).1;cases(show y=_/\_ from b).1;rfl)
theorem Ic(I:zH X z8 σ H s):∀(n:Ä)(d1 d2:D)(v:V),uS n d1 d2=Å->zd X.K H d1 v->zd X.K H d2 v->xi d1 d2=Å
 |0,_,_,_,h,_,_=>by cases h|n+1,d1,d2,v,h,r1,r2=>by rcases D_ h with⟨j,k,rfl,rfl,h⟩|⟨j,k,rfl,rfl,h⟩|⟨g,o⟩;rw[ĝo];cases I.Mm b d;show FH Ŵj h f c;rw[ĝo];cases I.Me b d;show FH Ŵj h f c;rw[<-W3 g o r1 r2];show nM (YO g r1)
def aC{α:Type}{xs:Á α}{j:Ä}{x d:α}(h:xs[j]?=À x):xs.getD j d=x:=by rw[ėa,h];rfl
def L0{A:Ā}{n:Ä}{a c:Í}{xs ys:Á D}{vs us:Á V}(I:zH X z8 σ H s)(B:ča<Ū)(o:SqB X.K H a c vs us)(f:á X.K H xs vs)(i:á X.K H ys us)(h:pj Ňc xs ys=Å)(p:∀(b d2:D)(x y:V)(u v:Value),uS n b d2=Å->zd X.K H b x->zd X.K H d2 y->zw x u->zw y v->Ĉb Ź s u v (xi b d2)):Ĺh A s ś ĵf (Ůb xs ys)/\çh A s ś ĵf (!dEqs xs ys):=by
 let z:=y0d (A:=A) (e:=λj=>xi Űg Ůg) I B o λj m t g k e1 e2 w r=>by let{b,d,C}:=f.at e1;let{d2,l,q}:=i.at e2;exact Ĉb Ź s g k (xi Űg Ůg);rw[aC d,aC l];show p b d2 m t g k (AK h j b d2 d l) C q w r
 rw[ģa,đb,AT]at z;show z
theorem IY(I:zH X z8 σ H s):∀(n:Ä)(A:Ā)(d1 d2:D)(x y:V)(u v:Value),ča+n<Ū->uS n d1 d2=Å->zd X.K H d1 x->zd X.K H d2 y->zw x u->zw y v->Ĉb A s u v Ïn
 |0,_,_,_,_,_,_,_,_,h,_,_,_,_=>by cases h|n+1,A,d1,d2,x,y,u,v,hu,h,r1,r2,rx,ry=>by let q:=h;let o:=r1;let p:=r2;rcases D_ h with⟨w,z,rfl,rfl,h⟩|⟨w,z,rfl,rfl,h⟩|⟨m,r⟩;rw[ŏo];show Šk hac (Γd įm Şe).1;rw[ŏo];show Šk hac (Γd ĭm Şe).1;rw[<-W3 m r r1 r2];show Am rx ry (YO m r1) (YO r r2)
#print a
def O_(K:Ð)(a:Ï):R2:=λx y H Q=>∃d1 d2 k,zd K H d1 x/\zd K H d2 y/\Z4 d1 d2=À k/\Q (.bl (if a then !k else k)) H
def yV(a:ym k A):ča+7<Ū:=ĭg (Ļk (by decide:7<=64) _) a.units
section
variable{X:Cx}{K:Ð}
def FJ(h:Z4 d1 d2=À k):uS 6 d1 d2=Å/\k=xi d1 d2:=by
 unfold Z4 at h
 split at h;cases h;cases h;rw[üo];cases h;show{e,rfl};cases h
def dg(h:Z4 d1 d2=À k)(d:yz d1=Å)(c:yz d2=Å)(a:zd K H d1 x)(b:zd K H d2 y):Ki x y=Å/\decide (x=y)=k:=by
 let{_,e}:=FJ h;subst e;cases d1<;>first|show ß d Ŋ|skip
 all_goals (cases d2<;>first|show ß c Ŋ|(cases h;done)|skip)
 all_goals first
  |(cases(show x=_ from a);cases(show y=_ from b);show⟨rfl,by first|rfl|show F8|show F7⟩)
  |(cases(show x=_ from a);cases(show y=_/\_ from b).1;show⟨rfl,rfl⟩)
  |(cases(show x=_/\_ from a).1;cases(show y=_ from b);show⟨rfl,rfl⟩)
  |(cases(show x=_/\_ from a).1;cases(show y=_/\_ from b).1;show⟨rfl,F9⟩)
def An(I:zH X z8 σ H s)(G:ča+7<Ū)(h:uS 6 d1 d2=Å)(E:¬ (yz d1&&yz d2)=Å)(n:zd X.K H d1 x)(m:zd X.K H d2 y)(p:zw x u)(o:zw y v) :Ĺh A s u v Ïn/\çh A s u v (!xi d1 d2):=by rcases D_ h with⟨t,w,rfl,rfl,h⟩|⟨t,w,rfl,rfl,h⟩|⟨r,F⟩;rw[Óo];show L0 I É įm l i h λd1 d2 x y u v b d e k f=>IY I 5 Ź d1 d2 x y u v Şe b d e k f;rw[Óo];show L0 I É ĭm l i h λd1 d2 x y u v b d e k f=>IY I 5 Ź d1 d2 x y u v Şe b d e k f;show ß (by rw[r,F];rfl) E
def xA(n:ĉa+7<Ū):ye X Őn (O_ X.K Ã):=by rw[Éo];show z73 l s σ H x y v u Q I i g {a,by rw[b];show q};let{j,rfl}:=FJ d;show Ċk.1 _ _ _ _ {.bl _,H,I,rfl,q}
def pG(n:ĉa+7<Ū):ye X öm (O_ X.K Å):=by rw[Éo];show z77 l s σ H x y v u Q I i g {a,by rw[b];show q};let{j,rfl}:=FJ d;show Ċk.2 _ _ _ _ {.bl _,H,I,rfl,q}
def y_:jL K (O_ K Ã) zb:=λH x y u v d Q b e a=>by rw[őo]
def pF:jL K (O_ K Å) xt:=λH x y u v d Q b e a=>by rw[őo]
#print a
def z0o{K:Ð}:ŕ K Ŵc ώa=À Ã/\ŕ K Ŵc Àa=À Ã/\ŕ K Ŵc ńa=À Ã/\
  ŕ K Ťa ώa=À Ã/\ŕ K Ťa Àa=À Ã/\ŕ K Ťa ńa=À Ã/\
  ŕ K Ła ώa=À Ã/\ŕ K Ła Àa=À Ã/\ŕ K Ła ńa=À Ã:=by show{?_,?_,?_,?_,?_,?_,?_,?_,?_}<;>kernel_rfl
def z0p{K:Ð}:ŕ K ώa Ła=À Ã/\ŕ K ώa Ťa=À Ã/\ŕ K ώa Àa=À Ã/\ŕ K ώa ńa=À Ã/\
  ŕ K Àa Ła=À Ã/\ŕ K Àa Ťa=À Ã/\ŕ K Àa ώa=À Ã/\ŕ K Àa ńa=À Ã/\ŕ K Àa Àa=À Å:=by show{?_,?_,?_,?_,?_,?_,?_,?_,?_}<;>first|kernel_rfl|rfl
def z0q{K:Ð}:ŕ K ńa Ła=À Ã/\ŕ K ńa Ťa=À Ã/\ŕ K ńa Àa=À Ã/\ŕ K ńa ώa=À Ã:=by show{?_,?_,?_,?_}<;>kernel_rfl
nonrec def y8z:D->Ÿ
 |.zE => "NoneType"|.bl _ => Ôe|.int _ => Ëc|.str _ => íe|.tup _ => ż|.lst _ => ę|.dic _ _ => ŷ|.exc _ => "x"|.obj _ _ _ => "x"
def Vg{K:Ð}{T:jn}{d:D}{b:Ï}(h:OG T d=À b):ŕ K (.type (y8z d)) ĩm=À b:=by
 let{a,u,m,t,q,r,w,e,v}:=z0o (K:=K);let{p,s,i,f,y,x,k,l,c}:=z0p (K:=K);let{j,g,o,n}:=z0q (K:=K);cases T<;>cases d<;>cases h
 all_goals first|show z0j|show z0h|show z0i|show z0g|show z0l|show z0k|show z0n|show z0m|assumption
def y01(K:Ð)(T:jn):Á V->Hp->VK->È:=λa H Q=>∃x d b,a=[x,.ty T.nm]/\zd K H d x/\OG T d=À b/\Q ğb H
def lj(T:jn):wL X Ϣg (y01 X.K T):=by
 intro v s σ H B A Q I r h;let{x,d,b,rfl,i,e,q}:=h;let{u,c,rfl,g,w}:=Ld r;cases(show c=ķh T.nm from w);let f:∀k,EP X v σ Q ϡh { s with ď:=k }:=λk=>{.bl b,H,ϊ k,rfl,q}
 cases d with
 |zE=>cases(show x=_ from i);show OH I g .zE (Vg (d:=.zE) e) f|bl y=>cases(show x=_ from i);show OH I g (.bl _) (Vg (d:=.bl y) e) f|int y=>cases(show x=_ from i);show OH I g (.int _) (Vg (d:=.int y) e) f|str y=>cases(show x=_/\_ from i).1;show OH I g (.str _) (Vg (d:=.str y) e) f|tup ds=>let{a,t,rfl,j,_}:=i;cases(show u=ą a from g);let{p,_,{o,m,l,_},_}:=Ϥ j;show Ūa êm ţ {o,m,l} (Vg (d:=.tup ds) e) Āa f
 |lst ds=>let{a,t,rfl,j,_}:=i;cases(show u=ą a from g);let{p,_,{o,n,m,l,_},_}:=ϒ j;show Ūa čh ţ {o,m,l} (Vg (d:=.lst ds) e) Āa f
 |dic ks ds=>cases T<;>cases e|exc _=>cases T<;>cases e|obj _ _ _=>cases T<;>cases e
def Qy(T:jn)(s:Gl X Āc)(g:Gl X x)(w:ñ Āc=Æ)(e:ñ x=Æ)(hv:ş x=À ĩm)(m:SB X a f)(i:Î żd q12)(n:Î Ša q10)(u:Î Ģ q10):SE X (.Call (.Name Āc p) [a,.Name x p1] [] pos) (XW T f):=by let{t,o,k}:=m.h;refine{{_,(Qn (lj T) s w lY (GI {o} (GI (z9q g e hv n u) cZ rfl) i) Ì Ì (by rw[ř,i];rfl)).h,λ{C y G H τ σ d Q} E c q=>?_}};let{z,j,c}:=zF c;let{b,l,c}:=zF c;cases c;show k E j λv A B x r=>{v,z,b,rfl,r,l,q _ _ _ x rfl}
#print L3
namespace L3
open Ĩ
theorem NV{c:FT}{b:FS}:∀{n:Ä}{σ:zx}{fl:Fl}(k:Ä),jE c b n σ=À fl->jE c b Ĉd σ=À fl
 |0,_,_,_,h=>by cases h|n+1,σ,fl,k,h=>by
  rw[Nat.succ_add];unfold jE at h ⊢;cases hc:c σ with
  |Æ=>rw[hc]at h;cases h|À kk=>
   rw[hc]at h;cases kk with
   |Ã=>show h|Å=>
    change (ťb).bind _=_ at h
    exact(ťb).bind _=_;cases hb:b σ with
    |Æ=>rw[hb]at h;cases h|À f=>
     rw[hb]at h;cases f with
     |nx τ=>show NV k h|ct τ=>show NV k h|bk τ=>show h|rt o d=>show h
def y0x(n:Ä)(h:jE c b n σ=À fl)(a:Î (n<=Jd) q10):Ge c b σ=À fl:=by let e:=NV (Jd-n) h;rw[Nat.add_sub_of_le a]at e;show e
def x15(d:c σ=À Å)(a:b σ=À Đf):jE c b ĸ σ=jE c b n σ':=by exact(ŉc).bind _=_;rw[d];exact(ťb).bind _=_;rw[a];rfl
def x0z(a:c σ=À Ã):jE c b ĸ σ=À Ķf:=by exact(ŉc).bind _=_;rw[a];rfl
theorem jV(P:Ä->zx->È):∀{ds:Á D}{σ:zx}(n:Ä),P n σ->(∀i d σ,ds[i]?=À d->P (n+i) σ->∃σ1 σ2,g d σ=À σ1/\(b σ1=À ϟh\/b σ1=À (.ct σ2))/\P (n+i+1) σ2)->
  ∃σ',j_ g b ds σ=À Đf/\P (n+Ĉ) σ'
 | [],σ,n,h,_=>{σ,rfl,h}|d::ds,σ,n,h,Ôc=>by
  let{σ1,σ2,e1,e2,f}:=Ôc 0 d σ rfl h
  let{σ',c,e}:=jV P (ds:=ds) (σ:=σ2) ĸ f λi p τ o k=>by let{a,j,q,l,m}:=Ôc õ p τ Žk éj;show{a,j,q,l,by rw[ώo];show m}
  show{σ',?_,by rw[ŧo];show e};rw[Ŀo];exact(b σ1).bind _=_;rcases e2 with e2|e2;rw[e2];show c;rw[e2];show c
abbrev yb(j:Ä):Á D:=(Ùa j).map λk:Ä=>Ě k
def tJ(h:f τ=À ĸc)(a:n.natAbs<=1000000):ww û f τ=À (yb n.toNat):=by unfold ww;rw[h];exact(if(0:Â).natAbs<=yW/\n.natAbs<=yW/\(n-0).toNat<=yW then _ else _)=_;rw[Ò {by decide,by rw[ëo],by rw[ëo]},ñm];simp only[ðm]
open ĺ ĭ L2
section
variable{α:Type}
theorem fU:∀{ks:Á zX}{vs:Á α}(k:zX),ġ=ö->((Ěa).any λkv=>decide Úi)=vJ ks k
 | [],[],_,_=>rfl|k'::ks,v::vs,k,h=>by let a:=fU (ks:=ks) (vs:=vs) k Áb;exact(decide Ťi||((Ěa).any λkv=>decide Úi))=(decide Ťi||vJ ks k);rw[a]
theorem ZT(k:zX):∀{ks:Á zX}{vs:Á V},ġ=ö->uC Ěa k=ĩ ks vs k:=by
 intro ks
 induction ks with
 |nil=>intro vs _;cases vs<;>rfl|ú k' ks ih=>
  intro vs h;cases vs with
  |nil=>cases h|ú v vs=>by_cases e:k'=k;rw[Ļa,Ya (p:=(k',v)) e];exact _=ğe;rw[Ò e];rw[Ļa,YZ (p:=(k',v)) e,ih ėi];exact _=ğe;rw[Ô e]
theorem x1n(k:zX)(v:V):∀(ks:Á zX)(vs:Á V),((Ěa).map λkv=>if kv.1=k then(kv.1,v)else kv)=űf Ýj:=by
 intro ks
 induction ks with
 |nil=>intro vs;rfl|ú k' ks ih=>
  intro vs;cases vs with
  |nil=>rfl|ú u vs=>rw[Ļa,Ť,ih,êc,Ļa];by_cases e:k'=k;rw[Ò e,Ò e];rw[Ô e,Ô e]
theorem JD(h:ġ=ö):wW Ěa k v=(Ϙh).zip Ϗe:=by unfold wW vM xV;rw[fU k h];by_cases c:vJ ks k=Å;rw[Ò c,Ò c,Ò c,x1n k v];rw[Ô c,Ô c,Ô c,List.zip_append h];rfl
def Qi(h:ġ=ö):(Ϙh).length=(Ϗe).length:=by
 unfold vM xV
 split;rw[ϋa,h,ϰ];rw[Ă,Ă,h];rfl
def GA(h:ġ=ö):(Ϗe).length<=ö+1:=by
 unfold xV
 split;rw[ϋa,h,ϰ];show όe _;rw[Ă];show Üa _
#print a
section
variable{K:Ð}{H:Hp}
theorem ĝn:∀{ks:Á zX}{ds:Á D}{vs:Á V}{k:zX}{d:D},á K H ds vs->ĩ ks ds k=À d->∃v,ĩ ks vs k=À v/\zd K H d v
 | [],_,_,_,_,_,e=>by cases e|_::_,[],_,_,_,_,e=>by cases e|k'::ks,d'::ds,_,k,d,r,e=>by
  let{v,h,rfl,f,b}:=r
  change (if k'=k then À d' else L3.getK ks ds k)=À d at e
  rw[Õo];show{v,by exact ğe=_;rw[Ò c],f};rw[Ô c]at e;let{u,a,g}:=ĝn b e;show{u,by exact ğe=_;rw[Ô c];show a,g}
theorem aF{α β:Type}:∀{ks:Á zX}{ds:Á α}{vs:Á β}{k:zX},Ĉ=ö->ĩ ks ds k=Æ->ĩ ks vs k=Æ
 | [],_,_,_,_,_=>by unfold ĩ;rfl|_::_,[],[],_,_,_=>rfl|k'::ks,d'::ds,v::vs,k,h,e=>by
  change (if k'=k then À d' else ĩ ks ds k)=Æ at e
  exact Ćj=Æ;rw[Õo];rw[Ô c]at e;rw[Ô c];show aF Áb e
theorem Fe:∀{ks:Á zX}{vs:Á α}(k:zX),ġ=ö->(ĩ ks vs k).isSome=vJ ks k
 | [],[],_,_=>rfl|k'::ks,v::vs,k,h=>by let a:=Fe (ks:=ks) (vs:=vs) k Áb;exact(Ćj).isSome=(decide Ťi||_);by_cases c:k'=k;rw[Ò c,å c];rfl;rw[Ô c,đ c,a];rfl
theorem Ąi(hv:zd K H d v):∀{ks:Á zX}{ds:Á D}{vs:Á V},á K H ds vs->á K H (ύa (λk' x=>if k'=k then d else x) ks ds) Ýj
 | [],_,_,_=>rfl|_::_,[],_,r=>by rw[ęo];rfl|k'::ks,d'::ds,_,r=>by let{u,e,rfl,b,a}:=r;show{_,_,rfl,?_,Ąi hv a};exact zd K H (if k'=k then d else d') (if k'=k then v else u);rw[äo];show hv;rw[ϛo];show b
def Reps.put(r:á K H ds vs)(hv:zd K H d v):á K H (xV ks ds k d) Ϗe:=by
 unfold xV
 split;show Ąi hv r;show įc (ġf hv)
def g_(h:vz x=À k)(r:zd K H x u):u=kV k:=by
 cases x<;>first|(cases h;done)|skip
 cases h;show r;cases h;show(show u=_/\_ from r).1
#print a
section
variable{X:Cx}{K:Ð}
def cj:R2:=λx y H Q=>∃a kvs k v,x=.ref a/\y=kV k/\Rd H a Ń/\uC kvs k=À v/\Q v H
def aw:qr X cj:=by
 intro c g A s σ H x y v u Q I p m h B;let{a,d,k,z,rfl,rfl,e,l,q}:=h;cases p;let{_,_,t,f,w}:=ju ĉ e;let{i,j,b}:=ğc (v:=z) (o:=Ĝb t k) (by rw[<-l];show f.val k)
 show Ęd (x:=i) (mz I (.inl {d,k,e,rfl,rfl})) Ôg
  (ĭe (Q:=λr n=>r=i/\EP X A σ Q r n) Ŧi w.mapOf j {rfl,z,H,ϊ _,b,q}) B
def ci(K:Ð):R2:=λx y H Q=>GR K x y H Q\/cj x y H Q
def zO(_:ĉa+1<Ū):qr X (ci X.K):=s_.or aw
def zP:uR K (ci K) zD:=λG H x y u v d Q s f e c q=>by
 cases x with
 |dic ks ds=>let{a,n,rfl,i,l,g,_}:=f;let{k,j,c}:=zF c;let{z,h,m}:=g.getK c;show .inr {a,_,k,z,rfl,g_ j e,Ŗb s i,by rw[ZT k l];show h,q _ _ _ ϑ m}
 |zE=>cases c|bl b=>cases c|int b=>cases c|str z=>show .inl (Βc (.str z))|tup z=>show .inl (Βc (.tup z))|lst z=>show .inl (Βc (.lst z))|exc z=>cases c|obj z _ _=>cases c
def di(N:ĉa+1<Ū)(f:QE X Øa ŋc)(S:SE X b fb)(W:Î ōh q12):SE X ðk (e2 zD (Y4 i) fb):=by
 let{tb,Y,r}:=S.h;show{{_,Vo (zO N) f.h Y (Vr W),λ{G0 Z G H τ σ d Q} E a q=>?_}};let{x,O,a}:=zF a;let{y,B,a}:=zF a;let{o,f}:=Af O;cases o with
 |Ã=>let{v,n,T}:=Ža _ _ f;show{v,n,r E B λu C s c e=>zP C s x y v u _ _ çb (T.mono c.g) e a λw U R L J=>q w U R (ōa L) J}
 |Å=>
  let{p,n,_,_,o}:=Ĕa _ _ f;show{_,n,r E B λu C s c e=>?_};cases x with
  |lst ds=>
   let{t,e1,j,_}:=o;cases y<;>first|(cases a;done)|skip
   rename_i i;let{w,K,m}:=Gb j a;cases e;show .inl (.inl {p,t,i,w,rfl,rfl,Ŕa Ĝm,K,q _ _ _ c (Æc c.g)})
  |dic ks ds=>let{t,e1,l,j,_}:=o;let{k,I,a}:=zF a;let{z,F,P}:=j.getK a;show .inr {p,_,k,z,rfl,g_ I e,.inl Ĝm,by rw[ZT k l];show F,q _ _ _ c (P.mono c.g)}
  |_=>show Ţb
def GQ(b:Ï):R2:=λx y H Q=>∃a kvs k,y=.ref a/\x=kV k/\Rd H a Ń/\Q (.bl (if b then !(uC kvs k).isSome else(áf).isSome)) H
def z74(f:ĉa+1<Ū):ye X ϖd (GQ Ã):=by rw[óo];show mX f I ïk g λi d=>{.bl _,H,d,rfl,q}
def z78(f:ĉa+1<Ū):ye X ϭe (GQ Å):=by rw[óo];show mY f I ïk g λi d=>{.bl _,H,d,rfl,q}
def Qq(K:Ð)(a:Ï):R2:=λx y H Q=>GP K a x y H Q\/(∃i j,x=.str i/\y=.str j/\Q (.bl (if a then !(!(ēe j i 0 ða 1).isEmpty)else !(ēe j i 0 ða 1).isEmpty)) H)\/GQ a x y H Q
def qd(a:ĉa+1<Ū):ye X ϖd (Qq X.K Ã):=z75.or (z76.or (z74 a))
def Es(a:ĉa+1<Ū):ye X ϭe (Qq X.K Å):=z79.or (z7a.or (z78 a))
theorem Qr(d:yz x=Å)(c:zd K H x u):∀{ys:Á D}{vs:Á V},á K H ys vs->Šb yz=Å->vs.all qU=Å/\OB u vs=ys.any λy=>xi y x
 | [],_,r,_=>by rw[ęo];show{rfl,rfl}|y::ys,_,r,h=>by let{v,g,rfl,e,f}:=r;rw[ř,ø]at h;let{a,b}:=Qr d c f h.2;refine{by rw[ř,YO h.1 e,a];rfl,?_};exact(tF v u||OB u g)=(xi y x||_);rw[W3 h.1 d e c,b]
theorem ab(d:zd K H x u)(h:zd K H y v)(b:Ih x y=À k)(q:Q (.bl (if neg then !k else k)) H):Qq K neg u v H Q:=by
 cases y with
 |lst ys=>
  let{a,g,rfl,e,f,_}:=h
  rw[Ąo]
  cases c:Ũl with
  |Ã=>rw[c]at b;cases b|Å=>rw[c]at b;cases b;rw[ø]at c;let{o,m}:=Qr c.1 d f c.2;show .inl {a,g,rfl,.inl e,YO c.1 d,o,by rw[m];show q}
 |tup ys=>
  let{a,g,rfl,e,f,_}:=h
  rw[Ąo]
  cases c:Ũl with
  |Ã=>rw[c]at b;cases b|Å=>rw[c]at b;cases b;rw[ø]at c;let{o,m}:=Qr c.1 d f c.2;show .inl {a,g,rfl,.inr e,YO c.1 d,o,by rw[m];show q}
 |str j=>
  cases x<;>first|(cases b;done)|skip
  rename_i i;cases b;show .inr (.inl {i,j,(show u=_/\_ from d).1,(show v=_/\_ from h).1,q})
 |dic ks ds=>let{n,p,b}:=zF b;cases b;let{a,g,rfl,e,l,f,_}:=h;show .inr (.inr {a,_,n,rfl,g_ p d,e,?_});rw[ZT n l,Fe n l];show q
 |_=>cases b
def qc:jL K (Qq K Ã) yq:=λH x y u v d Q b e a=>by rw[ŭo]
def En:jL K (Qq K Å) jv:=λH x y u v d Q b e a=>by rw[ŭo]
def LD:SF X Îl İe:={{_,z7v,λ{c e G H τ σ d Q} E b q p a=>by cases b;show q p G _ (ĭa ύ a) a (Ϝe a) {[],yL,rfl,rfl,Ϡ _}}}
def YT(Q:ĉa+1<Ū)(F:QE X ÿa ŋc)(hk:SE X k fk)(hv:SE X v fv)(O:Î (Βb Òk) q12) :SS X Řk (jZ i fk fv):=by
 let{Z,t,P}:=œc;let{tv,N,r}:=řa;show{{_,E_ Q F.h t N O,λ{G0 R G H τ σ Y E} K b q=>?_}};let{y,J,b}:=zF b;show r K J λw G1 T s C=>?_
 rw[Ĉo];rename_i ks n o;let{xk,I,b}:=zF b;let{d,e,b}:=zF b;by_cases c:ġ<yW;rw[ço];let m:=Ϭ s;let{a,p,g,z,vs,L,l,j,S}:=m.ow _ _ o;show{_,p,P m I λu W U f B=>{a,_,rfl,.inl {_,d,f.h _ _ L,g_ e B,?_,rfl},?_}};rw[Úa,l,ϰ,ľ,<-l];show c;show q _ _ _ ((m.go f).Ui o p {xV ks vs d w,?_,Qi l,(Ųf f.g).put (C.mono f.g),?_});rw[yL,JD l];let h1:=GA (ks:=ks) (vs:=n) (k:=d) (v:=y) (by rw[l,ða]);have h2:Ϩd<16777216:=by rw[<-ða,<-l];show c
 rw[ċo];rw[æo];cases b
def t6(K:Ð)(w:è)(a:Í)(ks:Á zX)(ds:Á D):È:=
 ∃us:Á V,ġ=Ś/\Ìa=Ã/\(∀H,á K H ds us)/\∀(P:ï)(h:Heap),Ţ h->∃vs,KV ϡb vs/\Çd Ċa a vs
inductive jg(w:è):Á ċb->Á Ç->Á Value->È
 |nil:jg w [] [] []
 |ú {x:Ç} {t:Tok} {v:Value} {es:Á ċb} {xs:Á Ç} {vs:Á Value} (r:jg w es xs vs):jg w (⟨Ŗl w.params x,.str x t,v⟩::es) Ñe Âc
def jg.pairs:∀{es:Á ċb}{xs:Á Ç}{vs:Á Value},jg w es xs vs->Pairs Ċa es ((ġb ôa).zip vs)/\(∀e∈es,∃k,(Ċa).is k e.key=Å/\e.hash=(Ċa).hash k):=λ{es xs vs} h=>by
 induction h with
 |nil=>show{.nil,λ_ h=>(ñb h).elim}|@cons x t _ _ _ _ r ih=>let{a,b}:=ih;show{.cons (EQ P w x t) rfl a,λe h=>?_};rcases ŋ h with rfl|h;show{.inr x,EQ P w x t,rfl};show b e h
def jg.len{w:è}{es:Á ċb}{xs:Á Ç}{vs:Á Value}(h:jg w es xs vs):ä=ö:=by
 induction h with
 |nil=>rfl|ú _ ih=>rw[Ġ,Ġ,ih]
theorem Cz(r:zm us vs):∀{ks:Á zX},ġ=Ś->KV ϡb Ěa:=by
 induction r with
 |nil=>intro ks _;rw[Ťk,Ťk];show .nil|ú r _ ih=>
  intro ks h;cases ks with
  |nil=>show .nil|ú k ks=>show .cons {rfl,r} (ih ėi)
theorem Lw:∀{ks:Á zX}{vs:Á Value},ġ=ö->(Ěa).map (·.1)=ks
 | [],[],_=>rfl|k::ks,v::vs,h=>by rw[Ļa,Ť,Lw Áb]
theorem aB(l:Ϗ a=À { cls:=.type ŷ,ā:=.dict ĳh n })(e:jg w es xs vs)(g:Įc)(f:Ìa=Ã)(r:zm us vs)(j:∀H,á K H ds us) :t6 K w a Ēc ds:=by
 rw[Ğo]
 show{us,c,f,j,λP h d=>{_,Cz r c,?_}};rw[Žo];refine{_,_,_,d _ _ l,{rfl,rfl,rfl},rfl,λe i=>q e ſk,p,?_};rw[Lw þg];show łd _ Ğd g
def ng(g:t6 X.K X.w A ks ds):qr X (λx y H Q=>x=.ref A/\∃k,y=kV k/\∃d,ĩ ks ds k=À d/\∀v,(∀H,∃H',zh H H'/\ĭb)->(∀H,zd X.K H d v)->Q v H):=by
 intro c f P s σ H x y v u Q I J B h R;let{rfl,k,rfl,d,l,q}:=h;cases J;let{T,G,p,n,N}:=g;let{L,e,m}:=N ò à ţ;let{z,i,_}:=(n H).getK l
 let O:∀H,zd X.K H d z:=λH'=>by let{S,a,E}:=(n H').getK l;rw[i]at a;cases a;show E
 let{j,t,b}:=ğc (v:=z) (o:=Ĝb L k) (by rw[<-i,<-ZT k G];show e.val k)
 show Ęd (x:=j) m.typeIs Ôg
  (ĭe (Q:=λr C=>r=j/\EP X P σ Q r C) (jU B) m.mapOf t {rfl,z,H,ϊ _,b,q z (λH=>{H,ĝa H,trivial}) O}) R
def kH(h:wd ñ x ŕb)(g:t6 X.K X.w A ks ds)(m:Gl X x)(c:SE X b fb)(l:Î ōh q12)(s:Î Ģ q10) :SE X ðk (e1 (vG ks ds) fb):=by let{C,r,f}:=c.h;show{{_,Vo (ng g) (X_ h m s) r (Vr l),λ{F z G H τ σ d Q} E a q=>?_}};let{y,o,a}:=zF a;let{k,e,a}:=zF a;show f E o λu t B n i=>{rfl,k,g_ e i,d,a,λv _ j=>q v _ _ n (j _)}
#print a
nonrec def ZM:D->Ê Şb
 |.lst xs=>À xs|.tup xs=>À xs|_=>Æ
def jS(a b:FE):FA:=λσ=>(ϸ).bind λx=>(ťb).bind λy=>(ZM x).bind λd=>(ZM y).bind λc=>À (ύa Ğk d c)
section
variable{K:Ð}{G H:Hp}
def dq(h:ZM x=À xs)(r:zd K G x u):∃t a vs,u=.ref a/\tf K t G a vs/\á K G xs vs/\ä<=ã:=by
 cases x<;>first|(cases h;done)|skip
 cases h;let{a,vs,rfl,c,b,l}:=r;show{Å,a,vs,rfl,c,b,l};cases h;let{a,vs,rfl,c,b,l}:=r;show{Ã,a,vs,rfl,c,b,l}
def YS(s:zh H H')(h:tf K t H a vs):tf K t H' a vs:=by cases t;show uY s h;show vi s h
def x1o(j:tf K t1 G a vs)(l:tf K t2 G b us)(h:á K G xs vs)(g:á K G ys us):jo K ŝg G (ύa Ğk xs ys) where
 go:=λi e H d c f=>by rw[ϋa]at f;let{v,e1,_}:=h.get (Ĳ (show i<ä by omega));let{u,e2,_}:=Ϙf (Ĳ (show i<ŭ by omega));show{vs,us,v,u,YS Ýd j,YS Ýd l,e1,e2}
 ud:=λi e H x A d c f y=>by let{p,o,rfl,k}:=y;let{v,u,e1,e2,rfl}:=k vs us (YS Ýd j) (YS Ýd l);let{r,q,z}:=h.at e1;let{w,t,s}:=g.at e2;refine{zU e p īm,.tup [r,w],řb c o,by rw[Ďg,q,t],?_};let m:zh G (zU e p īm):=Ϙb (wY (c.free o) _);show{p,[v,u],rfl,Ŧb yL,{v,_,rfl,z.mono m,{u,_,rfl,Ùe m,rfl}},İa (n:=2) Ì}
 ϭ:=λi e H d c f=>by rw[ϋa]at f;show{vs,us,YS Ýd j,YS Ýd l,?_};rw[Ģa,Üb];omega
#print a
section
variable{X:Cx}{a b e o:Ó}{fa fb f:FE}{p pos ϙ Ϛ:Pos}
def Kx(O:Gl X Đa)(S:ñ Đa=Æ)(u:SE X a fa)(I:SE X b fb)(o:Î żd q12)(d:Î În q12):SI X (.Tuple elts kk tp) Ðg (jS fa fb):=by
 let{t,N,k}:=(zB u (zB I zN d) o).h;show{{_,(z9s O S {N} o d).h,λ{G0 U G H τ σ ds R} K c q=>?_}};let{x,A,c}:=zF c;let{y,C,c}:=zF c;let{xs,e,c}:=zF c;let{ys,j,c}:=zF c;cases c;refine k K (ds:=ćd) (by unfold zA;rw[A,C];rfl) λY G1 Z f w=>?_
 let{v,r,rfl,B,{T,s,rfl,l,P}}:=w;cases(show s=[]from P);let{Q,L,g,rfl,m,E,l1}:=dq e B;let{z,F,i,rfl,n,J,W}:=dq j l;show{L,F,g,i,Q,z,rfl,YS f.gh m,YS f.gh n,q _ _ _ f ?_ (x1o m n E J)};rw[ϋa];omega
abbrev FO:=zx->Ê (Ê Â)
nonrec def k6:FO:=λ_=>À Æ
nonrec def k7(f:FE):FO:=λσ=>(f σ).bind λd=>match d with
 |.int i=>À (À i)|_=>Æ
def gf(xs:Á α)(a b:Ê Â):Á α:=(ùi (ħ ä 0 a)).take (ħ ä ä b-ħ ä 0 a)
def Ao(d:D)(b a:Ê Â):Ê D:=match d with
 |.lst xs=>À (Δ Źg)|.tup xs=>if ħ ä 0 b=0/\ħ ä ä a=ä then Æ else À èn|.str z=>À (.str ãn)|_=>Æ
def IX(a:FE)(b c:FO):FE:=λσ=>(ϸ).bind λd=>(ťb).bind λl=>(ŉc).bind λh=>Ao d l h
structure SO(X:Cx)(e:Ê Ó)(f:FO):È where
 h:∃t,PO X e t/\∀{G0 H0 G H:Hp}{τ:zx}{σ:St}{d:Ê Â}{Q:Ê Â->Hp->È},zu X.K ô G0 H0 G H τ σ->f τ=À d->(∀G' H',zV G H G' H'->Q d H')->t σ H Q
def eK:SO X Æ k6:={{_,z8v,λE a q=>by cases a;show q _ _ Ďb}}
def eM(h:SE X e f):SO X (À e) (k7 f):=by
 let{t,b,k}:=h.h;show{{_,z8w b,λ{l g G H τ σ d Q} E a q=>?_}};let{x,c,a}:=zF a;cases x<;>first|(cases a;done)|skip
 cases a;show k E c λv i j x r=>{_,r,q _ _ x}
def Reps.cut{K:Ð}{G:Hp}{ds:Á D}{vs:Á V}(r:á K G ds vs)(b a:Ê Â):á K G (gf ds b a) (Y2 vs b a):=by unfold gf Y2;rw[Ŷ];show(Ľi _).take _
def IM(xs:Á α)(b a:Ê Â):(Źg).length<=ä:=by unfold gf;rw[Ęa,ňd];show Ĵ ĳd Ŋd
def y07(K:Ð):V->Ê Â->Ê Â->Hp->VK->È:=λx a b H Q=>cy K x a b H Q\/c_ K x a b H Q\/cz x a b H Q
def eG:gY X (y07 X.K):=y2z.or (y31.or y30)
def y2h{w A:Ê Ó}{y fh:FO}{p2:Pos}(C:SE X a fa)(o:SO X w y)(m:SO X A fh):SE X ăj (IX fa y fh):=by
 let{R,B,N}:=C.h;let{Y,I,O}:=o.h;let{Z,K,L}:=m.h;show{{_,cB eG B I K,λ{G0 S G H τ σ d Q} E b q=>?_}};let{x,J,b}:=zF b;let{l,o,b}:=zF b;let{h,m,b}:=zF b;show N E J λv G1 T k F=>O (Ϲ k) o λW U u=>L ((Ϲ k).go u) m λP H3 e=>?_
 let t:=k.trans ώm;let n:=Œi Ĩl;cases x with
 |lst xs=>cases b;let{a,r,rfl,s,j,f}:=n;refine .inl {a,r,rfl,uY Õc s,λp i=>q _ _ _ Čl {p,_,rfl,Ŕa yL,(ϐm).mono Ŭl,Ĵ Ŧf f}}
 |tup xs=>
  change (if ħ ä 0 l=0/\ħ ä ä h=ä then Æ else À (Ϡf (gf xs l h)))=À d at b
  by_cases c:ħ ä 0 l=0/\ħ ä ä h=ä;rw[ço];rw[æo];let{a,r,rfl,s,j,f}:=n;refine .inr (.inl {a,r,rfl,vi Õc s,by rw[ða];show c,λp i=>?_});show q _ _ _ Čl {p,_,rfl,Ŧb yL,(ϐm).mono Ŭl,Ĵ Ŧf f}
 |str z=>cases b;let{rfl,f}:=n;show .inr (.inr {z,rfl,f,q _ _ _ t {rfl,Ĵ (F2 ..) f}})
 |_=>cases b
nonrec def qT:Á D->Ê D
 | [.lst xs]=>À îa| [.tup xs]=>À îa|_=>Æ
nonrec def Z5:Á D->Ê D
 | [.lst xs]=>À Ġa| [.tup xs]=>À Ġa|_=>Æ
def qD{K:Ð}{G:Hp}{d:D}{vs:Á V}(r:á K G [d] vs):∃v,vs=[v]/\zd K G d v:=by let{v,c,rfl,b,a}:=r;cases(show c=[]from a);show{v,rfl,b}
def W5{fs:FA}(u:Gl X ę)(x:ñ ę=Æ)(n:SA X [e] fs)(s:Î ϳ q12):SF X Ņn (eL qT fs):=by
 let{t,r,k}:=n.h;refine{{_,(W1 lz u x Tl {r} Ì Ì ώk).h,λ{C z G H τ σ d Q} E f q=>?_}};let{o,w,f}:=zF f;show k E w λA y B b m=>?_
 match o,f with
 | [.lst xs],f=>cases f;let{v,rfl,a,g,rfl,j,i,l}:=qD m;show{a,g,rfl,.inl (uY b.gh j),λp c=>q p _ _ ík Ğm Öm {g,yL,i,l}}
 | [.tup xs],f=>cases f;let{v,rfl,a,g,rfl,j,i,l}:=qD m;show{a,g,rfl,.inr (vi b.gh j),λp c=>q p _ _ ík Ğm Öm {g,yL,i,l}}
def Oj{K:Ð}:SU K (εd ((yh K H p ys/\∀l,H l=Æ->Q Ϲb ăm)\/(xE K H p ys/\Q Ž H))) Z5:=λG H h i d Q s r b q=>by
 match h,b with
 | [.lst xs],b=>cases b;let{v,rfl,a,c,rfl,e,f,l}:=qD r;show{a,c,rfl,.inl {uY s e,λp g=>q _ _ _ (řb s g) {p,c,rfl,Ŧb yL,f.mono (wY (s.free g) _),l}}}
 | [.tup xs],b=>cases b;let{v,rfl,a,c,rfl,e,f,l}:=qD r;show{a,c,rfl,.inr {vi s e,q _ _ _ ϑ {a,c,rfl,e,f,l}}}
def Vd(x:D):Á D->Ä->Ê Ä
 | [],_=>Æ|y::ys,n=>match xi y x with
  |Å=>À n|Ã=>Vd x ys ĸ
def vo:D->D->Ê D
 |.lst ys,x=>match yz x&&Šb yz with
  |Å=>(Vd x ys 0).bind λn=>À ĸc|Ã=>Æ
 |_,_=>Æ
theorem Cp:∀{ys:Á D}{n m:Ä},Vd x ys n=À m->∃j y,m=n+j/\ys[j]?=À y/\xi y x=Å/\∀i z,i<j->ys[i]?=À z->xi z x=Ã
 | [],_,_,h=>by cases h|y::ys,n,m,h=>by
  change (match xi y x with|Å=>À n|Ã=>Vd x ys ĸ)=À m at h
  cases c:xi y x with
  |Å=>rw[c]at h;cases h;show{0,y,rfl,rfl,c,λi z b=>ß b (Nat.not_lt_zero _)}|Ã=>
   rw[c]at h;let{j,d,e1,e2,e,f}:=Cp h;refine{j+1,d,by omega,by simpa using e2,e,λi z b a=>?_};cases i with
   |ϛ=>cases a;show c|Ϝ i=>show f i z É Œe
def z28:V4 X "list.index" (λx vs H Q=>∃(a:Í) (us:Á V) (y:V) (j:Ä) (u:V),x=.ref a/\vs=[y]/\yh X.K H a us/\qU y=Å/\us.all qU=Å/\us[j]?=À u/\tF u y=Å/\(∀i z,i<j->us[i]?=À z->tF z y=Ã)/\Q żl H):=by
 intro z8 s σ H x xs v P Q I S O h;let{a,us,y,j,u,rfl,rfl,W,fy,L,J,o,T,q}:=h;cases S;let{w,rfl,R}:=uO O;let{b,r,{{c1,d1,t1,l},N,C,A,hd,g},hz}:=ϒ W;simp only at A g;subst A g;let B:=Ŷ;let Z:j<Ś:=(Ł J).1
 let f:∀(i:Ä)(z:V)(n:i<ţa),us[i]?=À z->uU y Ĉa[i]=tF z y:=λi z n E=>by
  let{t,G,rt}:=Ÿa E
  let e:Ĉa[i]=t:=by let Y:b[i]?=À b[i]:=Ĳ (by rw[ė]at n;show n);rw[Y]at G;simpa using G
  rw[e];show IZ rt (Ĺa L z (Ķb E))
 have d:j<ţa:=by rw[ė,<-B];show Z
 let U:=Xr;refine Ľb Ãk {_,C,rfl} PySem.F.entry_list_index (PySem.F.args_list_index_2 _ _) (SeqAt.list_indexAt a Ĉa N d1 l w (uU y) j d É (by rw[f j u d J];show o) λm p k=>?_) {C,λt g=>?_,{.int j,H,ϊ _,{_,rfl},q}};have c:m<Ś:=by rw[ė,<-B]at p;show p
 rw[f m us[m] p Ŗf];show T m _ k Ŗf;show Xu R fy r L t ĳg
def Qx{B:FE}(S:SE X o B)(P:SE X e f)(p:Î (Şa o Ŀf Ö Ãf=ċ o Ö) q12)(m:Î śa q12)(K:Î ϳ q12) :SE X (Αc (.Attribute o Ŀf ϙ)) (e2 vo B f):=by
 let{to,T,ko}:=S.h;let{te,N,U}:=(zB P zN K).h;refine{{_,(Oy ĩe Ãk PySem.F.type_list_index z28 {T} {N} p m (by rw[ř,K];rfl) įe).h,λ{G0 H0 G H τ σ d Q} E b q=>?_}};let{x,W,b}:=zF b;let{y,Z,b}:=zF b;show ko E W λv G1 H1 r R=>?_
 cases x with
 |lst ys=>
  let{a,A,rfl,I,L,_}:=R;refine{.inl {rfl,A,uY r.gh I},U (Ϲ r) (ds:=[y]) (by unfold zA;rw[Z];rfl) λws G2 H2 t O=>?_};let{w,rfl,k}:=qD O
  change (match yz y&&Šb yz with|Å=>(Vd y ys 0).bind λn=>À (Ě n)|Ã=>Æ)=À d at b
  cases c:(yz y&&Šb yz)with
  |Ã=>rw[c]at b;cases b|Å=>
   rw[c]at b;let{n,hn,b}:=zF b;cases b;rw[ø]at c;let{j,z,e1,e2,Y,e4}:=Cp hn;rw[Ŭ]at e1;subst e1;let l:=L.mono t.g;let{u,eu,ru}:=l.get e2;let J:∀{i:Ä}{z:D},ys[i]?=À z->yz z=Å:=λ{i z} s=>Ĺa c.2 z (Ķb s)
   refine{a,A,w,n,u,rfl,rfl,uY (r.gh.trans t.h) I,YO c.1 k,(Qr c.1 k l c.2).1,eu,by rw[W3 (J e2) c.1 ru k];show Y,λi z hi s=>?_,q _ _ _ (r.trans t) rfl};let{dz,C,rd}:=l.at s;rw[W3 (J C) c.1 rd k];show e4 i dz hi C
 |_=>cases b
def K_(p:TR X op ti)(L:uR X.K ti F)(A:ßa)(l:X.N[i]?=À x)(j:qO Ϟ x)(n:SE X e f)(a:Î Ėa q7) :SS X (.AugAssign ϔe op e pos) (yH i (e2 F (z6 i) f)):=by let{t,I,k}:=n.h;show{{_,Ez A l j I p a,λ{S O G H τ σ R E} K a q=>?_}};let{d,b,a}:=zF a;cases a;let{x,j,b}:=zF b;let{y,z,b}:=zF b;let{v,s,C}:=K.fr _ _ (FC j);show{v,s,k K z λu B r c o=>L B r x y v u d _ çb (C.mono c.g) o b λw Q P J m=>?_};show q _ _ _ (((Ϭ c).go J).set (Ł l).1 m)
def Of{K:Ð}:uR K ĸl ŉe:=λG H x y u v d Q s b c a q=>by
 cases x<;>first|(cases a;done)|skip
 cases y<;>first|(cases a;done)|skip
 rw[öo]
def N1(c:ßa)(b:X.N[i]?=À x)(l:qO Ϟ x)(g:SE X e f)(j:Î (Βd ϔe) q12)(a:Î Ėa q7):SS X Ġd (yH i f):=by let{t,p,k}:=g.h;show{{_,(z9t c b l {p} j a).h,λ{w o G H τ σ n E} K a q=>?_}};let{d,m,a}:=zF a;cases a;show k K m λv s u x r=>q _ _ _ ϧj
#print a
def FR(n N:Ä)(b:FS)(ds:Á D):Ê í:=if Ĉ=n then yP N b ds else Æ
def yT:∀ds r,FR n N b ds=À r->Ĉ=n/\yP N b ds=À r:=λds r h=>by
 unfold FR at h
 rw[œo]
theorem f8{M:ąd}{A:Ā}{E:Value->Ñ->È}{a:Ĝ Value}{x:Value}{e:Value->Ï}{j:Ä}(k:∃ı w,M=model ı w)(l:j<ĝ)(b:e a[j]=Å)(g:∀m (n:m<ĝ),m<j->e a[m]=Ã){s:Ñ}(f:∀y∈a,Ĉb A s y x (e y)){Q:Ê űh×Űb->Ñ->È}(h:Q (À (.done ŗk),()) { s with ď:=ĕ+1 }):∀m i:Ä,i+m=ĝ->i<=j->
  Û M A (forIn (ŕm i m) ((Æ,()):Ê űh×Űb) λ(i:Ä) (_:Ê űh×Űb)=>match a[i]? with
   |À y=>do
    let öf <-eqBool y x
    if öf=Å then do
      let öf <-retInt (i:Â)
      pure (ForInStep.done (À öf,()))
     else pure šl
   |_=>pure šl) Q E s
 |0,i,h1,h2=>by omega|m+1,i,h1,h2=>by
  let{ı,w,rfl}:=k;let d:i<ĝ:=by omega
  rw[ál,Ţg];show Ø ?_;rw[Array.getElem?_eq_getElem d];show Ø (f _ (Array.getElem_mem d) ı w E _ ?_);by_cases c:i=j;subst c;rw[b,Ò rfl]
  wp_walk
  show h;rw[g i d É,Ô Ì];show Đ ?_;show f8 {ı,w,rfl} l b g f h m õ É É
def y7r(t:Í)(a:Ĝ Value)(x:Value)(e:Value->Ï)(j:Ä)(i:j<ĝ)(c:e a[j]=Å)(l:∀m (u:m<ĝ),m<j->e a[m]=Ã) :Meets (Builtin.«tuple.index» {[.ref t,x],[]}) (λA R s=>ϯa à t a/\(∀y∈a,Ĉb Ź s y x (e y))/\R (.ok ŗk) { s with ď:=ĕ+1 }):=by
 intro b w A R s h;let{z,g,d,q,B}:=s;obtain⟨⟨o,v,r,n,p⟩,f,h⟩:=h;unfold Builtin.«tuple.index»
 wp_walk
 skip
 rw[p];show Đ Íb;exact Û _ _ (pure 0 >>= _) _ _ _;show Ø (Đ Ŧn);rw[Std.Legacy.Range.forIn_eq_forIn_range'];let k:øk [0:min ĝ ĝ]=ĝ:=by simp[øk]
 rw[k];show f8 {b,w,rfl} i c l f ?_ ĝ 0 É É;show Đ h
section
variable{X:Cx}{e o k v:Ó}{f fo fk fv:FE}{x:Ç}{xp p pos ϙ Ϛ:Pos}
def z29:V4 X "tuple.index" (λx vs H Q=>∃(a:Í) (us:Á V) (y:V) (j:Ä) (u:V),x=.ref a/\vs=[y]/\xE X.K H a us/\qU y=Å/\us.all qU=Å/\us[j]?=À u/\tF u y=Å/\(∀i z,i<j->us[i]?=À z->tF z y=Ã)/\Q żl H):=by
 intro Z s σ H x xs v J Q I N G h;let{a,us,y,j,u,rfl,rfl,P,T,C,B,l,O,q}:=h;cases N;let{w,rfl,L}:=uO G;let{b,r,E,Y}:=Ϥ P;let o:=Ŷ;let S:j<Ś:=(Ł B).1
 let f:∀(i:Ä)(z:V)(k:i<ţa),us[i]?=À z->uU y Ĉa[i]=tF z y:=λi z k p=>by
  let{t,A,W}:=Ÿa p
  let e:Ĉa[i]=t:=by let R:b[i]?=À b[i]:=Ĳ (by rw[ė]at k;show k);rw[R]at A;simpa using A
  rw[e];show IZ W (Ĺa C z (Ķb p))
 have d:j<ţa:=by rw[ė,<-o];show S
 refine Ľb Ϯj E.typeIs PySem.F.entry_tuple_index (PySem.F.args_tuple_index_2 _ _) (y7r a Ĉa w (uU y) j d (by rw[f j u d B];show l) λm n g=>?_) {E,λt U=>?_,{.int j,H,ϊ _,{_,rfl},q}};have c:m<Ś:=by rw[ė,<-o]at n;show n
 rw[f m us[m] n Ŗf];show O m _ g Ŗf;show Xu L T r C t (by simpa using U)
def BZ(K:Ð)(A:Í):È:=∃o,Ϗ A=À o/\Ϯa=.type ż/\Üe=Æ
def Io(ds:Á D)(y:D):Ê D:=vo Ϯc y
def y2e(h:wd ñ x ŕb)(r:∀H,zd X.K H Čf ŕb)(P:BZ X.K A)(hg:Gl X x)(I:SE X e f)(R:Î Ģ q10)(l:Î (Şa ÿa Ŀf Ö Áh=ċ ÿa Ö) q12)(k:Î śa q12)(t:Î ϳ q12) :SE X (Αc (.Attribute ÿa Ŀf ϙ)) (e1 (Io ds) f):=by
 let{te,B,J}:=(zB I zN t).h;refine{{_,(Oy PySem.F.plainAttrs_tuple Ϯj PySem.F.type_tuple_index z29 (z9r h hg R) {B} l k (by rw[ř,t];rfl) įe).h,λ{G0 H0 G H τ σ d Q} E b q=>?_}};let{y,O,b}:=zF b;refine{.inr (.inl {rfl,P}),J E (ds:=[y]) (by unfold zA;rw[O];rfl) λws S H2 v C=>?_};let{w,rfl,g}:=qD C;let{a,L,W,T,m,_}:=r S;cases W
 change (match yz y&&ñd yz with|Å=>(Vd y ds 0).bind λn=>À (Ě n)|Ã=>Æ)=À d at b
 cases c:(yz y&&ñd yz)with
 |Ã=>rw[c]at b;cases b|Å=>
  rw[c]at b;let{n,U,b}:=zF b;cases b;rw[ø]at c;let{j,z,e1,e2,N,Z}:=Cp U;rw[Ŭ]at e1;subst e1;let{u,eu,ru}:=m.get e2;let s:∀{i:Ä}{z:D},ds[i]?=À z->yz z=Å:=λ{i z} o=>Ĺa c.2 z (Ķb o)
  refine{A,L,w,n,u,rfl,rfl,vi v.gh T,YO c.1 g,(Qr c.1 g m c.2).1,eu,by rw[W3 (s e2) c.1 ru g];show N,λi z Y o=>?_,q _ _ _ v rfl};let{dz,p,rd}:=m.at o;rw[W3 (s p) c.1 rd g];show Z i dz Y p
structure SD(X:Cx)(pos:Pos)(Œc:Á Īc)(îd:Á Ó)(ks:Á Ç)(fs:FA):È where
 h:∃trs,V5 X pos Œc îd trs/\∀{G0 H0 G H:Hp}{τ:zx}{σ:St}{ds:Á D}{Q:Á ëe->Hp->È},zu X.K ô G0 H0 G H τ σ->fs τ=À ds->(∀vs G' H',zV G H G' H'->á X.K G' ds vs->ö=ġ->Q ık H')->J3 trs σ H Q
def y2d:SD X pos [] [] [] zG:={{_,cH,λE a q=>by cases a;show q [] _ _ Ďb rfl rfl}}
def Kj(hv:SE X v fv)(r:SD X pos ks vs xs fs):SD X pos Ŋj Âc Ñe (zA fv fs):=by
 let{A,m,k}:=řa;let{t,i,p}:=r.h;show{{_,cG Vp m i,λ{J B G H τ σ I Q} E a q=>?_}};let{d,s,a}:=zF a;let{y,b,a}:=zF a;cases a;show k E s λu z C c o=>p ďi b λe w F f n l=>?_
 show q (u::e) _ _ (ōa f) {u,e,rfl,Êe f.g,n} œe
theorem EO:∀(kvs acc:Á Ũ),(Ϣa (·.1)).Nodup->(∀kv∈kvs,uC acc kv.1=Æ)->jA acc kvs=acc++kvs
 | [],acc,_,_=>by rw[Ûa];rfl|kv::r,acc,nd,hn=>by rw[Ť,Đl]at nd;let b:=hn kv ŉ;exact jA (wW acc kv.1 kv.2) r=_;rw[z9b kv.2 b,EO r _ nd.2 (λa m=>?_)];rw[Ŷc];rfl;rw[fJ kv.1 a.1 kv.2 acc b,Ô (λe=>nd.1 (by rw[<-e];show List.mem_map_of_mem m))];show hn a Ŝn
theorem No:∀{ks:Á Ç}{vs:Á V},(Öb V.str).zip vs=(((Öb ôa:Á zX).zip vs).map λkv=>(kV kv.1,kv.2))
 | [],_=>rfl|_::_,[]=>rfl|k::ks,v::vs=>by rw[Ť,Ť,Ļa,Ļa,Ť,No];rfl
theorem Nn:∀{ks:Á zX}{vs:Á V},ġ=ö->(Ěa).map (·.1)=ks
 | [],[],_=>rfl|k::ks,v::vs,h=>by rw[Ļa,Ť,Nn Áb]
theorem y2q(h:SD X pos Œc îd ks fs)(I:ks.Nodup)(r:ġ<=15)(f:Î (keys.all (·.isSome)=Å) q12)(C:Î (ńm=values.length) q12)(L:Î (Œc≠[]) q16)(i:Î (ńm<=15) q10) :SF X (.Dict Œc îd pos) (IW ks fs):=by
 let{K,x,B}:=h.h;show{{_,bz x f C L i,λ{O N G H τ σ d Q} E e q p j=>?_}};let{F,o,e}:=zF e;let t:zV G H G þf:=ĭa ύ j;show B (Ϲ t) o λk s v m A l=>?_
 let e2:v p=À ŭd:=m.h _ _ yL
 let w:s p=Æ:=by
  cases c:s p with
  |Æ=>rfl|À u=>rcases m.new p (by rw[c];show λz=>nomatch z)with z|z;show ß (Ϝe j) z;rw[yL]at z;cases z
 let n:(Öb ôa:Á zX).length=ěf:=by rw[æ,l]
 by_cases c:ġ=F.length;rw[Ò c]at e;cases e;refine{e2,(Öb ôa:Á zX).zip k,No,by rw[Úa,n,ϰ,l];show r,?_};rw[EO _ [] (by rw[Nn n];show łd _ Ğd I) òh,ųe]
 let J:zV G H s (zU v p (.dK ((Öb ôa:Á zX).zip k))):=by let y:=Ŧh m;show{y.g,λb u z=>?_,λb u z=>?_,y.new};rw[zt (tH z j)];show y.h _ _ z;rw[zt (tH z w)];show m.gh _ _ z
 show q p _ _ J j w {k,yL,n,A,by rw[<-c];show İa É};rw[Ô c]at e;cases e
def Kl(N:ĉa+1<Ū)(O:SE X o fo)(hk:SE X k fk)(hv:SE X v fv)(m:M2 X o "get" ϙ k v Ϛ):SE X (.Call Àk [k,v] [] Ϛ) (Z3 fo fk fv):=by
 let{to,R,U}:=O.h;let{tk,I,Y}:=œc;let{tv,W,C}:=řa;show{{_,z7u N R I W m,λ{G0 H0 G H τ σ d Q} E b q=>?_}};let{x,S,b}:=zF b;show U E S λw G1 H1 f K=>?_
 cases x with
 |dic ks ds=>
  let{y,T,b}:=zF b;let{z,F,b}:=zF b;let{e,i,b}:=zF b;cases b;let{a,P,rfl,B,l,t,_}:=K;show{a,rfl,.inl {_,Ŗb f.gh B},Y (Ϲ f) T λu G2 H2 j J=>C ((Ϲ f).go j) F λZ G3 H3 n L=>?_};show{uC (űf P) e,.inl {_,e,Ŗb (f.gh.trans (j.h.trans n.h)) B,g_ i J,rfl},?_};rw[ZT e l];let p:=t.mono (j.g.trans n.g);cases c:ĩ ks ds e with
  |Æ=>rw[c]at q;rw[aF (by rw[Ϧd]) c];show q _ _ _ ăk L|À d'=>rw[c]at q;let{z',s,r}:=p.getK c;rw[s];show q _ _ _ ăk r
 |_=>cases b
nonrec def wf(i:Â):Ä:=ĸd i
def pz:D->D->Ê D:=fI (λi j=>decide (wf i+wf j<=134217728)) (·*·)
def Vn:ye X Äf èj:=Vm λi j _ _ _ _ _ b q=>mul_int q (by unfold IntMulOk;intro h;rw[ø]at h;let a:decide (((ĸd i+ĸd j:Ä):Â)>(134217728:Ä))=Å:=h.2;let d:=ī a;let c:ĸd i+ĸd j<=134217728:=b;omega)
def Vl{K:Ð}:uR K èj pz:=Xx λ_ _ h=>ī h
#print a
open ąi
theorem fP:∀{ns:Á Â}{m:Â},m∈ns->wf m<=ώc çc
 | [],_,h=>by cases h|n::ns,m,h=>by
  let e:ώc ((Īi).map Ŭh)=wf n+1+ώc çc:=by exact ώc (Ŭh n::ųa Ŭh)=_;rw[ώc];rfl
  rw[e];rcases ŋ h with rfl|h;omega;let:=fP h;omega
def z0v{ns:Á Â}(h:WData.layableAll [.list çc]=Å):∀m∈ns,wf m<=1048576:=λm b=>by
 let a:ϙl ġh=Å:=Ĺa h _ (List.mem_singleton.mpr rfl);unfold ϙl at a;rw[ø]at a;let c:æh ġh<=2 ^ 20:=ī a.2;let d:=fP b;let e:æh ġh=ώc çc:=by rw[æh]
 omega
section
variable{K:Ð}
def J0(K:Ð):Sp:=λb H Q _=>∃(a:Í) (ns:Á Â),b=âa/\yh K H a ëa/\ϡ<=63/\(∀m∈ns,wf m<=1048576)/\∀H',Q ě H'
#print a
def walkB{l:Űh}{n k:Ä}{q:ï}{i:Á Ç}{U:Řg->Heap->È}{O:è->Heap->È}{d:DefRec}{K:Ŷf->Ð}{sp:Ð->Sp}{x:Ç}(hn:Łi=À n)(L:n<=ã)(G:Ϝk=[])(hr:ym k Öd)(hY:∀(w:è)(h:Heap),O w h->(Ăb).In h)(F:∀(w:è)(j:Ç->Ê Value)(C:Í)(h:Heap),(Ăb).In h->ĳa ē j->j d.name=À Ŏ->
   ∃fd:ŀ,(∀(s:Ñ)(u:Value),Ŝb s fd {[u],[]} [(x,u)])/\∀Ë:Heap,(Ăb).In Ë->Ød ē j->xO Ĥ w Ăb j Ë xK k C fd [x] (sp Ăb))
  (I:∀(K:Ð)(H:Hp)(a:Í)(ns:Á Â),ϡ<=n->(∀m∈ns,wf m<=1048576)->yh K H a ëa->sp K âa H ůk λ_ _ _=>ê) :
  W.WalkO q i U O ãh d [] Ϟj:=by
 intro w s0 s1 j mb p Y C o pm cd doc S kV ho hd hcd N J hg Q P as t A X E hlo;let e1:S=.none:=Dflts.none N G;let e2:kV=.none:=Dflts.noKw N;subst e1 e2;let{a,vs,ns,rfl,rfl,B,e,c}:=Att.script_of hn t E;let R:=hY w _ Y;let{fd,hb,hF}:=F w j C _ R p.T.g J;let y:=z0t R p.T.g p.T.b p.T.builtins p.T.nolimit hg B e (Ĵ c L) hr hF hb (λH _ Z=>I _ H a ns c (z0v A) Z) (λ_ _ _ z=>z);show enter_call (ŋe y λr s' hq=>?_);let{rfl,h2,h3,h4}:=hq;show{.inl {.bool Å,.bool Å,[],rfl,λ_=>rfl,.bool Å,Att.post_true l _,λ_=>?_},h2,h3,h4};show{ϡk,λ_ hm=>nomatch hm}
#print L3
namespace L3
open Ĩ ĺ ĭ L2
def nv{ı:ï}{w:è}{A:Ā}{E:Value->Ñ->È}{s:Ñ}{a:Í}{o:Obj}{xs:Ĝ Value}{k:Ä}{İ:Ç}{Q:Ê Value->Ñ->È}(q:ć a=À o)(p:Ϯa=.type ę)(f:Īa=.seq xs k)(r:Üe=Æ)(j:įh Àa İ=pure Æ)(i:(["__module__",Ĭh,"__qualname__","__doc__","__annotations__"]:Á Ç).contains İ=Ã)(y:Čb=Æ)(h:∀h' tk,(∀b ob,ć b=À ob->Ĕ b=À ob)->Q Æ { s with ì:=h',ď:=tk })(hsz:name.length+100<=ã) :Û ĳ A (getAttr? (.ref a) İ) Q E s:=by
 let{c,u,t,x}:=o;simp only at p f r;subst p f r;let{v,g,d,tk,z}:=s;let n:∀l,({v,g,d,l,z}:Ñ).TypeIs ś ę:=λ_=>{_,q,rfl}
 let I:=sub_AttributeError;let K:=PySem.F.slot_list_getattribute.lookup;let H:=PySem.F.slot_list_getattribute.bind ś;let G:=am_list_getattr_none;unfold getAttr? getAttrBy? getAttrBy
 repeat (any_goals (first|assumption|show n _|((with_reducible exact Û _ _ (ża (Value.builtin "list.__getattribute__") _ _) _ _ _);show Ľb PySem.F.slot_list_getattribute (n _) am_entry_list_getattribute (F.args_list_getattribute_2 _ _) (meets_getattribute_miss_list a xs k x İ _ j i hsz) ⟨q,y,λh' l e m=>?_⟩)|wp_step))
 let{J,C,B}:=m.there;exact Û _ _ (Şk _ _ _ _ _ _ _) _ _ _;unfold Şk
 repeat (any_goals (first|assumption|wp_step))
 show h _ _ m.keeps
def Os:plainId śk=Å:=by rw[Ço]
def Aj:entryFor table śk=À Builtin.«dict.update.loop»:=entryFor_of_fast ķl
def _root_.PySem.Heap.DictOf.Md{ı:ï}{w:è}{h h':Heap}{a:Í}{kvs:Á Ća}(b:Çd Ńa a kvs)(k:∀o,Ğ a=À o->Ĕ a=À o):óf Ńa a kvs:=
 let ⟨o',es,ep,ho,r⟩:=b;{o',es,ep,k _ ho,r}
def y3o(kvs:Á Ća)(k:zX)(v:Value):(Åc kvs k v).length<=ĵ+1:=by
 unfold Åc
 rw[Ŧo]
def BY(h:Heap)(v:Value)(k:zX)(x:Value):È:=∃b key,v=.ref b/\YC k key=Å/\ϯa h b #[key,x]
theorem fG{ı:ï}{w:è}{A:Ā}{R:Ńc->Ñ->È}{d it l:Í}{its:Á Value}(hA:Čb=Æ)(G:d≠l)(u:d≠it)(E:l≠it) :∀(kvs:Á Ća) (i:Ä) (acc:Á Ća) (s:Ñ),s.heap.IsListIter it l i->ϓl l Ϧ->i+ĵ=Îb->(∀j kv,kvs[j]?=À kv->∃v,its[i+j]?=À v/\BY à v kv.1 kv.2)->
   s.heap.DictOf Ńa d acc->ĵh+ĵ<=ã->(∀h' tk,óf Ńa d (Đn (λa kv=>Åc a kv.1 kv.2) acc)->(∀b o,b≠d->b≠it->ć b=À o->Ĕ b=À o)->R (.ok (.ret .none)) { s with ì:=h',ď:=tk })->
   Û ĳ Ź (Builtin.«dict.update.loop» {[.ref d,.ref it,Ée i,.none],[]}) (λfin s'=>match fin with|.done f=>R (.ok f) s'|.again c'=>c'.quiet=Å/\Ϥa ĳ A c' R s') (λe s'=>R (.error e) s') s
 | [],i,acc,s,st,hl,hn,hp,hd,hz,h=>by unfold Builtin.«dict.update.loop»;refine Ø (õk (by show hA) st hl (by simp at hn ⊢;omega) λh' eb=>?_);exact Û _ _ (Builtin.Dict.addKeywords d [] >>= _) _ _ _;show Ø Ţn;show h h' ĕ (hd.Md λo e=>eb d o u e) (λb o _ hb e=>eb b o hb e)|kv::kvs,i,acc,s,st,hl,hn,hp,hd,hz,h=>by
  let{v,hv,b,key,rfl,hk,ht}:=hp 0 kv rfl;unfold Builtin.«dict.update.loop»;refine Ø (Øk st hl (x:=.ref b) Ĥg λh1 X sb=>?_);let m:∀c o,c≠it->ć c=À o->þi c=À o:=λc o L e=>(sb.2 c L).trans e
  let p:∀{c:Í}{y:Ĝ Value},ϯa à c y->c≠it:=λ{c y} t e=>by subst e;let{o,e1,P,_}:=t;let{o',e2,N,_}:=st;rw[e1]at e2;cases e2;rw[P]at N;show ß (ŕl N) Ì
  let H:∀{c:Í}{y:Ĝ Value},ϯa à c y->c≠d:=λ{c y} t e=>by subst e;let{o,e1,P,_}:=t;let{o',es,ep,e2,N,_}:=hd;rw[e1]at e2;cases e2;let c3:=N.1;rw[P]at c3;show ß (ŕl c3) Ì
  let{o,ho,L,n,C}:=ht;let K:=m b o (p {o,ho,L,n,C}) ho;let Z:h1.DictOf Ńa d acc:=hd.Md λo e=>m d o u e
  show Ø (Ϻa (Ø (ūc ?_)));unfold Builtin.Dict.pairItems;show Ø (İd (T := ż) {o,K,L} ?_);rw[Ò ęb];show Ø (Ϲa K C Íb);show Ϻa (wpAny_dictSet_pairs (knd:=yr ı w) (k:=kv.1) hk Z (λh2 S J=>?_) É);show Đ {ůc Os _,ũc Aj ?_};rw[Ħd Os _];let g:∀c o,c≠d->c≠it->ć c=À o->h2.get? c=À o:=λc o B q e=>(J.2 c B).trans (m c o q e)
  let I:∀{c:Í}{y:Ĝ Value},ϯa à c y->ϯa h2 c y:=λ{c y} t=>by let a1:=H t;let a2:=p t;let{o,e1,r}:=t;show{o,g c o a1 a2 e1,r}
  show fG (its:=its) hA G u E kvs õ (Åc acc kv.1 kv.2) _ ?_ ?_ (by rw[Ġ]at hn;omega) (λj O e=>?_) S ?_ λh' tk Q kp=>?_;show X.at λo e=>(J.2 it (λz=>u ìd)).trans e;let{o,e,r}:=hl;show{o,g l o (λz=>G ìd) E e,r};let{v',U,b',F,rfl,Y,W}:=hp éa O Âb;show{_,by rw[show i+1+j=i+éa by omega];show U,b',F,rfl,Y,I W};let:=y3o acc kv.1 kv.2;rw[Ġ]at hz;omega;show h h' tk Q λc o B q e=>kp c o B q (g c o B q e)
def li{ı:ï}{w:è}{A:Ā}{E:Value->Ñ->È}{s:Ñ}{l:Í}{o:Obj}{its:Á Value}{n:Ä}{kvs:Á Ća}{Q:Value->Ñ->È}(O:Čb=Æ)(G:ć l=À o)(x:Ϯa=.type ę)(z:Üe=Æ)(f:Īa=.seq Ϧ n)(W:ĵ=Îb)(S:∀(j:Ä)(g:zX×Value),kvs[j]?=À g->∃v,its[j]?=À v/\BY à v g.1 g.2)(hz:ĵ<=ã)(h:∀h' tk,óf Ńa Þ (Đn (λa g=>Åc a g.1 g.2) [])->(∀b o,ć b=À o->Ĕ b=À o)->Q Ŋb { s with ì:=h',ď:=tk }) :Û ĳ A (ża Ϣb [.ref l]) Q E s:=by
 show callType_codes (Q₁:=λt N=>t=.ref Þ/\N={ s with ì:=ęa { cls:=.type ŷ,ā:=.dict #[] } }) F.kt_called_dict (F.kt_typeCall_dict_1 _) F.entry_dict_init (kt_code_dict_new _ {rfl,rfl}) ?_;rintro t N ⟨rfl,rfl⟩;let d:(ðj).DictOf Ńa Þ []:=Ēl à;show{İc,F.args_dict_init_2 _ _,?_};unfold Builtin.«dict.__init__»;show Ø ?_;unfold Builtin.Dict.selfAndRest;show Ø (wpAny_notOrdered_dict İc ?_);exact Û _ _ (pure (Þ,[ą l])) _ _ _;show Đ ?_;exact Û _ _ (Ëk "dict.__init__" Þ Ϲb [] .none) _ _ _;unfold Ëk;let q:=Ĭ G;let m:(ðj).get? l=À o:=ğ _ G;show Ø (İd (T := ę) {o,m,x} ?_);rw[Ò ęb];refine Ø (nv (o:=o) m x f z (am_miss_of_fast ķl) Ì ϗm (λp J k=>?_) Ì);rw[Ò ęb];let u:p.DictOf Ńa Þ []:=d.Md λo e=>k _ _ e
 let H:p.get? l=À o:=k _ _ m;let K:p.IsList l Ϧ:={o,H,x,n,f}
 let c:Þ<p.objs.size:=by let{y,_,_,e,_}:=u;show Ĭ e
 exact Û _ _ (pure () >>= _) _ _ _;show Ø Ϫj;show Ťc (s:={ s with ì:=p,ď:=J }) K ?_;show Đ {ůc Os _,ũc Aj ?_};rw[Ħd Os _];let B:∀b i,ć b=À i->(p.push { cls:=.type Ăl,ā:=.fields #[.ref l,.int 0 0] }).get? b=À i:=λb i e=>ğ _ (k b i ąf)
 refine fG (l:=l) (its:=its) (A:=Ź) ϗm (wV (ûb q)) (wV Ěi) (wV (Êa (ϧe q c))) kvs 0 [] _ {_,ų _ rfl,rfl,rfl} {o,B l o G,x,n,f} (by rw[Ŭ];show W) (λj g e=>?_) (u.push _) (by simpa using hz) λh' tk C R=>?_;let{v,U,b,I,rfl,P,y,e1,r}:=S j g e;show{_,by rw[Ŭ];show U,b,I,rfl,P,y,B b y e1,r};show{rfl,h h' tk C λb i e=>?_};let L:=Ĭ e;show R b i (wV (Êa L)) (wV (Êa (ϧe L c))) (B b i e)
section
variable{X:Cx}
theorem bv{l:Á î}{σ:St}{H:Hp}{s:Ñ}(I:zH X l σ H s):∀{kvs:Á Ũ} {vs:Á V} {its:Á Value},zm vs its->ĵ=ö->(∀(j:Ä)(kv:zX×V),kvs[j]?=À kv->∃b,vs[j]?=À (Ħb b)/\xE X.K H b ϒg)->
  ∃ws:Á Ća,KV kvs ws/\∀(j:Ä)(kw:zX×Value),ws[j]?=À kw->∃v,its[j]?=À v/\BY à v kw.1 kw.2
 | [],_,_,_,_,_=>{[],.nil,λj kw e=>by cases e}|kv::kvs,[],_,_,h,_=>by cases h|kv::kvs,_::vs,_::its,.cons r t,h,hp=>by
  let{ws,g,k}:=bv I t Áb λj c e=>by let{b,e1,q}:=hp éa c Âb;show{b,by simpa using e1,q}
  let{b,e1,i}:=hp 0 kv rfl;cases e1;let{o,f,n,_}:=Ϥ i;let{d,x,rfl,a,m}:=Ld f;show{(kv.1,x)::ws,.cons {rfl,m} g,λj kw e=>?_};cases j with
  |ϛ=>cases e;show{_,rfl,b,d,r,jU (P:=ò) (w:=X.w) a,n}|Ϝ j=>let{v,e2,q}:=k j kw Âb;show{v,by simpa using e2,q}
def z9x(K:Ð):Á V->Hp->VK->È:=λc H Q=>∃a vs kvs,c=âa/\yh K H a vs/\ĵ=ö/\(∀(j:Ä)(kv:zX×V),kvs[j]?=À kv->∃b,vs[j]?=À (.ref b)/\xE K H b ϒg)/\∀p,H p=Æ->Q Ž (ν Ël)
def lh(c:Š=Å):wL X Ϣb (z9x X.K):=by
 rw[ľo];let{a,G,b,rfl,y,k,x,q}:=h;let{u,rfl,E}:=uO r;cases(show u=ą a from E);let{g,j,{o,n,w,t,i,d},m}:=ϒ y;let{C,l,p}:=bv I j k x;have e:C.length=Üb:=by rw[<-Ĕb,k,ða]
 refine li ĕi w t i d e p (by rw[e,<-ða];show m) λO A z v=>?_
 let f:(Ϗn).length<=ã:=by let B:=EF b [];rw[ϐc]at B;omega
 let F:Èn=Ã:=by let:=I.big;rw[ĺk];show wV Än
 show{.ref Þ,_,őa (a:=Þ) (o:=.dK Ϗn) (t':=A) v Ę (IU f F (l.merge .nil) z),rfl,q _ Úd}
#print a
def OL:Á D->Ê (Á Ą×Á D)
 | []=>À ([],[])|.tup [k,v]::r=>(vz k).bind λk=>(OL r).bind λp=>À (k::p.1,v::p.2)|_=>Æ
def vB{α:Type}:Á Ą->Á α->Á Ą->Á α->Á Ą×Á α
 |ks,ds,k::r,v::q=>vB Ϙh (xV ks ds k v) r q|ks,ds,_,_=>(ks,ds)
def Ig:Á D->Ê D
 | [.lst xs]=>(OL xs).bind λp=>À (.dic źk.1 źk.2)|_=>Æ
theorem cS:∀{ks:Á zX}{us:Á V}{as:Á zX}{vs:Á V},ġ=Ś->Ūh=ö->jA ϙm ϡb=ſc.1.zip ſc.2/\ſc.1.length=ſc.2.length
 | [],[],as,vs,_,h=>{rfl,h}|k::ks,u::us,as,vs,h1,h2=>by let a:=cS (ks:=ks) (us:=us) (as:=vM as k) (vs:=xV as vs k u) Ňe (Qi h2);show{?_,a.2};exact jA (wW ϙm k u) ϡb=_;rw[JD h2];show a.1
theorem cR{K:Ð}{G:Hp}:∀{ks:Á zX}{es:Á D}{us:Á V}{as:Á zX}{ds:Á D}{vs:Á V},á K G es us->á K G ds vs->ġ=Ś->Ūh=ö->á K G Śg.2 ſc.2/\Śg.1=ſc.1
 | [],es,us,as,ds,vs,r1,r2,h1,h2=>by
  let e1:vB as ds [] es=(as,ds):=by unfold vB;rfl
  let e2:vB as vs [] us=(as,vs):=by unfold vB;rfl
  rw[e1,e2];show{r2,rfl}
 |k::ks,es,[],as,ds,vs,r1,r2,h1,h2=>by cases h1|k::ks,[],u::us,as,ds,vs,r1,r2,h1,h2=>by cases(show _=[]from r1)|k::ks,e::es,_::_,as,ds,vs,r1,r2,h1,h2=>by let{v,r,c,b,a}:=r1;cases c;show cR (ks:=ks) (es:=es) (as:=vM as k) a (r2.put b) Ňe (Qi h2)
theorem cQ{α:Type}:∀{ks:Á zX}{es:Á α}{as:Á zX}{ds:Á α},Ūh=Ĉ->Śg.2.length<=Ĉ+Ęn
 | [],es,as,ds,_=>by
  let e:vB as ds [] es=(as,ds):=by unfold vB;rfl
  rw[e];show ýc _ _
 |_::_,[],as,ds,_=>by
  let e:∀k ks,vB as ds (k::ks) ([]:Á α)=(as,ds):=λ_ _=>by unfold vB;rfl
  rw[e];show ýc _ _
 |k::ks,e::es,as,ds,h=>by let a:=cQ (ks:=ks) (es:=es) (as:=vM as k) (ds:=xV as ds k e) (Qi h);let:=GA (ks:=as) (vs:=ds) (k:=k) (v:=e) h;exact(vB (vM as k) (xV as ds k e) ks es).2.length<=_;rw[Ġ];omega
theorem b5{K:Ð}{G:Hp}:∀{xs:Á D}{vs:Á V}{ks:Á zX}{ds:Á D},OL xs=À (ks,ds)->á K G xs vs->∃us,á K G ds us/\ġ=Ś/\ġ=ö/\∀(j:Ä)(kv:zX×V),ϡb[j]?=À kv->∃b,vs[j]?=À (Ħb b)/\xE K G b ϒg
 | [],_,_,_,h,r=>by cases h;rw[ęo];show{[],rfl,rfl,rfl,λj kv e=>by cases e}|x::xs,_,ks,ds,h,r=>by
  let{v,B,rfl,l,z}:=r;unfold OL at h
  rw[üo];cases e;rename_i k y A e;cases e;let{n,f,h}:=zF h;obtain⟨⟨u,g⟩,q,h⟩:=zF h;cases h;let{us,m,w,s,o}:=b5 q z;let{b,E,rfl,p,{C,_,rfl,c,{d,_,rfl,a,i}},_}:=l;cases(show _=[]from i);refine⟨d::us,{d,us,rfl,a,m},by rw[Ġ,Ġ,w],by rw[Ġ,Ġ,s],λj kv e=>?_⟩;cases j with
  |ϛ=>cases e;show{b,rfl,?_};rw[<-g_ f c];show p|Ϝ j=>let{t,e1,e2}:=o j kv Âb;show{t,by simpa using e1,e2}
  cases h
def y2o{X:Cx}{e:Ó}{fs:FA}{p pos:Pos}(f:Š=Å)(O:Gl X ŷ)(R:ñ ŷ=Æ)(hv:ş ŷ=À Ϣb)(z:SA X [e] fs)(P:Î ϳ q12):SF X Ņk (eL Ig fs):=by
 let{t,N,k}:=z.h;refine{{_,(W1 (lh f) O R hv {N} Ì Ì (by rw[ř,P];rfl)).h,λ{W S G H τ σ d Q} E c q=>?_}};let{ds,F,c}:=zF c;show k E F λvs T C g A=>?_
 unfold Ig at c
 split at c;rename_i U;obtain⟨⟨ks,es⟩,y,c⟩:=zF c;cases c;let{v,rfl,a,u,rfl,J,n,l}:=qD A;let{us,o,i,r,I}:=b5 y n;let{K,B}:=cS (ks:=ks) (us:=us) (as:=[]) (vs:=[]) i rfl;let{L,s}:=cR (ks:=ks) (as:=[]) (ds:=[]) (vs:=[]) o rfl i rfl;refine{a,u,űf us,rfl,uY g.gh J,by rw[Úa,i,ϰ,<-i,r],λj w e=>?_,λp m=>?_};let{b,e1,e2}:=I j w e;show{b,e1,vi g.gh e2};show q p _ _ (Çe (ĭa g.gh m)) (g.h.free m) (g.gh.free m) {ól.2,?_,?_,L,?_};exact zU C p (.dK (jA [] ϡb)) p=À (.dK (śg.1.zip ól.2));rw[yL,s];show Ϣ (λx=>À (HO.dK x)) K;exact śg.1.length=_;rw[s];show B;let:=cQ (ks:=ks) (es:=es) (as:=[]) (ds:=[]) rfl;have e1:Ęn=Ϭh:=by rw[<-ŭa,<-i,r]
 rw[Ϩd]at e1;exact śg.2.length<=ã;simp only[ϐc,Ŭ]at this;omega;cases c
open ϐ Ĉi Şm
section
variable{X:Cx}{e o a b c:Ó}{f:FE}{x:Ç}{xp p pos:Pos}
def AA:ş ŷ=À Ϣb:=by rw[Ço]
def Vu(i:Ä)(k v:FE):FS:=λσ=>(v σ).bind λy=>match σ[i]? with
 |À ňk=>(ťi).bind λx=>match x with
  |.int j=>(ěh).bind λn=>À (.nx (χb Ĵn))|_=>Æ
 |_=>Æ
theorem Ϭd{K:Ð}{G:Hp}{d:D}{v:V}(hv:zd K G d v):∀{ds:Á D}{vs:Á V}(n:Ä),á K G ds vs->á K G (Ëe n d) (vs.set n v)
 | [],_,_,r=>by rw[ęo];rfl|d'::ds,_,0,r=>by let{u,c,rfl,b,a}:=r;show{v,c,rfl,hv,a}
 |d'::ds,_,n+1,r=>by let{u,c,rfl,b,a}:=r;show{u,_,rfl,b,Ϭd hv n a}
def eP(A:QE X ÿa ŋc)(hk:SE X k fk)(hv:SE X v fv)(B:Î ãf q12)(Q:Î (Ϯg ėe v Ϣc Ö=pure Ã) q12)(t:Î (še ėe v Ö=pure Æ) q12)(R:Î ((Ĺb ėe Ö).map (·.2)=[ůa Òk Ö]) q12):SS X Řk (Vu i fk fv):=by
 let{tk,p,S}:=œc;let{tv,L,m}:=řa;show{{_,Ot L (GJ A {p} Kr B).h Q t R,λ{G0 T G H τ σ fl E} K a q=>?_}};let{y,I,a}:=zF a;show m K I λw G1 U o s=>?_
 rw[Òo];rename_i W e;let{O,F,a}:=zF a;cases O with
 |int j=>let{n,N,a}:=zF a;cases a;let c:=Ϭ o;let{P,f,g,z,C,J,d,l}:=c.ow _ _ e;show{_,f,S c F λu Z Y b r=>?_};cases(show u=_ from r);refine{P,C,j,n,rfl,rfl,b.h _ _ J,by rw[Äa];show N,?_};show q _ _ _ ((c.go b).Ui e f {_,yL,Ϭd (Ùe b.g) n (d.mono b.g),by rw[Ϻ];show l})
 |_=>cases a
 cases a
#print a
#print L3
namespace L2
open Ĩ ĺ ϐ ĭ
nonrec def Xn(a:Â):Á Â->Á Â
 | []=>[a]|b::r=>if a<=b then a::b::r else b::Xn a r
def ĩb:Á Â->Á Â
 | []=>[]|a::r=>Xn a (ĩb r)
theorem Cm(a:Â):∀l:Á Â,(Xn a l).Perm (a::l)
 | []=>Ϗg _|b::r=>by
  unfold Xn
  split;show Ϗg _;show((Cm a r).cons b).trans (List.Perm.swap a b r)
theorem Ϥb:∀l:Á Â,(ĩb l).Perm l
 | []=>Ϗg _|a::r=>(Cm a _).trans ((Ϥb r).cons a)
theorem ac(a:Â):∀{l:Á Â},l.Pairwise (·<=·)->(Xn a l).Pairwise (·<=·)
 | [],_=>by simp[Xn]|b::r,h=>by
  let{e,f}:=Čg h;unfold Xn
  split;rename_i d
  show Ýk {λx c=>by rcases ŋ c with rfl|c;show d;show íh d (e x c),h};rename_i d;show Ýk {λx c=>?_,ac a f};rcases ŋ ((Cm a r).mem_iff.mp c)with rfl|c;omega;show e x c
theorem Cn:∀l:Á Â,(ĩb l).Pairwise (·<=·)
 | []=>ϡk|a::r=>ac a (Cn r)
theorem Ky:∀{a b:Á Â},a.Perm b->a.Pairwise (·<=·)->b.Pairwise (·<=·)->a=b
 | [],b,p,_,_=>(List.nil_perm.mp p).symm|x::a,[],p,_,_=>by cases p.length_eq|x::a,y::b,p,ha,hb=>by
  let{g,f}:=Čg ha;let{h,i}:=Čg hb
  let e:x=y:=by let c:x∈y::b:=p.mem_iff.mp Ĵc;let d:y∈x::a:=p.mem_iff.mpr Ĵc;rcases ŋ c with rfl|c;rfl;rcases ŋ d with e|d;show ųf;show Int.le_antisymm (g y d) (h x c)
  subst e;rw[Ky (List.perm_cons x |>.mp p) f i]
theorem fL:∀{ns:Á Â}{its:Á Value},zm ëa its->Ác its ns
 | [],_,.nil=>.nil|n::ns,_,.cons r rr=>by let{t,rfl}:=r;show .cons _ _ (fL rr)
def af{ns:Á Â}{its:Á Value}(h:Ác its ns):zm ëa its:=by
 induction h with
 |nil=>show .nil|ú _ _ _ ih=>show .cons {_,rfl} ih
section
variable{X:Cx}
def m9:wL X ϓe (λxs H Q=>∃p ns,xs=Ĭc/\yh X.K H p ëa/\ϡ<64/\∀l,H l=Æ->Q Ϲb Ąm):=by
 intro A s σ H xs z Q I r h;let{p,ns,rfl,v,o,q}:=h;let{u,rfl,n}:=uO r;cases n;let{d,j,y,i}:=ϒ v;let b:=ða;rw[æ]at b;refine sorted_ints y.isList (fL j) É λa f x t k=>?_
 let e:f=ĩb ns:=Ky (Ŧh (Ϥb ns).symm) k (Cn ns);subst e;let{c,m}:=sortedAll_at à d a;let g:(ĩb ns).length=ϡ:=(Ϥb ns).length_eq;show{.ref õa,_,őa (t':=ĕ) (h':=sortedAll à d a) (λ_ _=>sortedAll_old) (όe _) (show xU ò X.w _ _ _ ϳi from{?_,a.toList,c,af x,?_}),rfl,q _ ϵl};rw[æ,g];exact _<=ã;rw[æ]at i;show i;rw[Ęk];show m
#print a
#print L2
namespace L3
open Ĩ ĺ ĭ L2
def AD:ş ćb=À ϓe:=by rw[Ço]
nonrec def Ųa:Á D->Ê Ćf
 | []=>À []|.int i::r=>(Đi).bind λa=>À ŧi|_=>Æ
theorem aj:∀{ds:Á D}{ns:Á Â},Ųa ds=À ns->ds=ųa Ě
 | [],_,h=>by cases h;rfl|d::ds,ns,h=>by
  unfold Ųa at h
  rw[üo];cases e;rename_i i r e;cases e;let{b,a,h}:=zF h;cases h;rw[aj a];rfl;cases h
theorem dG{K:Ð}{G:Hp}:∀{ns:Á Â}{vs:Á V},á K G Ľa vs->vs=ųa Ŏc
 | [],_,r=>r|n::ns,_,r=>by let{v,c,rfl,b,a}:=r;rw[dG a,show v=Ŏc n from b];rfl
theorem ae{K:Ð}{G:Hp}:∀ns:Á Â,á K G Ľa ëa
 | []=>rfl|n::ns=>{.int n,_,rfl,rfl,ae ns}
def FU:Á D->Ê D
 | [.lst xs]=>(Ųa xs).bind λa=>if ϴ<64 then À ņk else Æ|_=>Æ
def y2v(z:Gl X ćb)(A:ñ ćb=Æ)(n:SA X [e] fs)(y:Î ϳ q12):SF X ńk (eL FU fs):=by
 let{t,x,k}:=n.h;refine{{_,(Qn m9 z A AD {x} Ì Ì (by rw[ř,y];rfl)).h,λ{K B G H τ σ d Q} E b q=>?_}};let{r,s,b}:=zF b;show k E s λC J F c o=>?_
 rcases r with _|⟨x_,r_⟩;cases b
 cases x_<;>first|(cases b;done)|skip
 cases r_<;>first|(cases b;done)|skip
 rename_i w;let{m,u,b}:=zF (show(Ųa w).bind _=À d from b)
 rw[Ĉo];rename_i g;cases b;let{v,rfl,a,I,rfl,j,i,l}:=qD o;rw[aj u]at i l;rw[dG i]at j;show{a,m,rfl,uY çb j,g,λp f=>q p _ _ Ūk (Ϫd f) (õf f) {_,yL,ae _,?_}};rw[æ,(Ϥb m).length_eq];rw[æ]at l;show l;cases b
nonrec def jR:Ê Sl->Ê Sl
 |À (_,d)=>À (Ã,d)|Æ=>Æ
def Iu(τ:zx):zx:=τ.map jR
def LN(f:FT):FT:=λτ=>f (Iu τ)
def y4t(τ:zx)(k:Ä)(h:k<τ.length):(če).set k (jR τ[k])=((τ.take š).map jR)++τ.drop š:=by
 let e:τ.drop k=τ[k]::τ.drop š:=Źb h;let l:(Ĳk).length=k:=by rw[æ,Ęa];omega
 rw[e,ùk _ _ É,l,Ţd,Įg,ĝd h,Ăa,Ŷc];rfl
section
variable{K:Ð}{n:Ä}{G0 H0 G H G':Hp}{τ:zx}{σ:St}
def X7(G G':Hp):È:=∀p,G p=Æ->G' p≠Æ->∃u,G' p=À u/\(∀xs,u≠.tup xs)/\∀o v,u≠.yD o v
def z7d(o:wM K G H d p):∃u,H p=À u/\(∀xs,u≠.tup xs)/\∀o v,u≠.yD o v:=by
 cases d with
 |lst ds=>let{a,e,_}:=o;show{_,e,ĝk,ÿk}
 |dic ks ds=>let{a,e,_}:=o;show{_,e,ĝk,ÿk}
 |_=>show Ţb
def zu.iK(E:zu K n G0 H0 G H τ σ)(l:τ[i]?=À Ϧc):∃G',zu K n G0 H0 G' H ϖg σ/\zh G G'/\X7 G G':=by
 cases b with
 |Ã=>
  show{G,?_,ĝa _,λp s a=>ß s a}
  let e:τ.set i ϊb=τ:=by rw[ōo];rw[Y7 (by rw[č];show E.lt l),l];rw[qV hj]
  rw[e];show E
 |Å=>
  let P:=E.lt l;let{p,e,g,z,o}:=Ĕa i d l;let{R,m,Q}:=z7d o;let{u,F,r}:=o.yD g;let S:u=R:=by rw[F]at m;show āa m
  subst S;let x:zV G0 H0 Ņh H:=ϸh z g F;refine{zU G p u,{x,Ė,by rw[Ĥo],λj t h=>?_,λj t h=>?_,λj k e1 f q B s a=>?_},wY g _,λq s a=>?_};rcases vO h with⟨rfl,w⟩|⟨C,w⟩;cases w;show{_,e,r};let{v,y,N}:=Ža j t w;show{v,y,N.mono Ìd};rcases vO h with⟨rfl,w⟩|⟨C,w⟩;cases w;let{q,y,L,O,I}:=Ĕa j t w;show{q,y,?_,O,áe Ìd Űa};rw[zt ūn];show L;subst c;show ža i j d t q (λc=>C Ŋf) l w e y;rcases vO s with⟨rfl,w⟩|⟨C,w⟩;cases w;rcases vO a with⟨rfl,A⟩|⟨J,A⟩;cases A;show ža j k e1 f q B w A;rcases LZ a with c|c;subst c;show{u,yL,Q};show ß s c
def X7.trans(h:zh G1 G2)(a:X7 G G1)(b:X7 G1 G2):X7 G G2:=λp f c=>by
 cases e:G1 p with
 |Æ=>show b p e c|À u=>let{g,i,d}:=a p f Ŝc;show{g,h _ _ i,d}
theorem zu.Pm(E:zu K n G0 H0 G H τ σ):∀k,k<=n->∃G',zu K n G0 H0 G' H če σ/\zh G G'/\X7 G G'
 |0,_=>{G,by rw[ώg];show E,ĝa _,λp u m=>ß u m}|k+1,hk=>by
  let{o,f,g,h}:=zu.Pm E k É;let a:k<τ.length:=by rw[č];omega
  let e:=y4t τ k a
  let c:če[k]?=À τ[k]:=by rw[âc (by rw[æ,Ęa];omega),æ,Ęa,Ϗc É,Ţd,List.getElem?_drop,Nat.add_zero,Ĳ a]
  cases t:τ[k]with
  |Æ=>
   show{o,?_,g,h};rw[<-e,t]
   let e2:(če).set k (jR Æ)=Ĳk++τ.drop k:=by apply øc;intro j;by_cases hj:j=k;subst hj;rw[Y7 (by rw[f.l2];omega),c,t];rfl;rw[qV hj]
   rw[e2];show f
  |À s=>let{b,d}:=s;rw[t]at c;let{l,r,i,q}:=f.iK c;show{l,?_,Çe i,Õd i q};rw[<-e,t];show r
def zu.iJ(E:zu K n G0 H0 G H τ σ):∃G',zu K n G0 H0 G' H (Iu τ) σ/\zh G G'/\X7 G G':=by
 let{G',a,s,l}:=E.Pm n Ę;show{G',?_,s,l};have e:τ.take n=τ:=by rw[<-č];show þc
 have e2:τ.drop n=[]:=by rw[<-č];show ãl
 rw[e,e2,Ûa]at a;show a
nonrec def ϔ(G G' a:Hp):Hp:=λp=>if G p=Æ/\G' p≠Æ then Æ else a p
theorem zV.back(s:zh G G')(d:zh G' H)(x:zV G' H G1 H1):zV G H (ϔ G G' G1) H1:=by show{λb u e=>?_,x.h,λb u e=>?_,λp h=>?_};exact Ϻf=À u;rw[Ô (λc=>by rw[c.1]at e;cases e)];show x.g _ _ (s _ _ e);by_cases c:G b=Æ/\G' b≠Æ;let a:Ϻf=À u:=e;rw[Ò c]at a;cases a;let a:Ϻf=À u:=e;rw[Ô c]at a;show Ĳa _ _ a;by_cases c:G p=Æ/\G' p≠Æ;let a:Þj≠Æ:=h;rw[Ò c]at a;show ß rfl a;let a:Þj≠Æ:=h;rw[Ô c]at a;rcases īb p a with z|z;by_cases g:G p=Æ;show ß {g,z} c;show .inl g;rw[İo]
#print a
section
variable{X:Cx}{e:Ó}{ft:FT}
def y3i(h:ST X e ft):ST X e (LN ft):=by rw[ıo];show{{t,p,λ{m g G H τ σ d Q} E c q=>?_}};let{i,a,s,l}:=E.iJ;show k a c λf j b=>q _ _ (zV.back s a.ext.gh b)
#print a
nonrec def qE(i:Ä)(e:FE):FS:=λσ=>match σ[i]? with
 |À (À (Å,.lst xs))=>(ňc).bind λy=>match y with
  |.lst ys=>if ä+ŭ<=yW then À (.nx (χb Éi))else Æ|_=>Æ
 |_=>Æ
nonrec def VN:D->D->Ê D
 |.lst x,.int k=>if 0<=k/\k<=1000000/\Úb*Ű<=yW then À (.lst (Ų Ű x).flatten)else Æ|_,_=>Æ
def nO(h:VN x y=À d):∃xs k,x=.lst xs/\y=.int k/\(0<=k/\k<=1000000/\ä*Ű<=yW)/\d=.lst (øm).flatten:=by
 unfold VN at h
 split at h;rename_i xs k;by_cases c:0<=k/\k<=1000000/\ä*Ű<=yW;rw[Ò c]at h;cases h;show{_,_,rfl,rfl,c,rfl};rw[Ô c]at h;cases h;cases h
theorem ϴh{K:Ð}{G:Hp}{ds:Á D}{vs:Á V}(r:á K G ds vs):∀k:Ä,á K G (Ų k ds).flatten (Ų k vs).flatten
 |0=>rfl|k+1=>by rw[žb,ŵc,žb,ŵc];show įc (ϴh r k)
section
variable{X:Cx}{a b:Ó}{f fa fb:FE}{x:Ç}{xp pos ϙ Ϛ:Pos}{e:Ó}
def y0y(m:SF X e f)(j:Î ϳ q12):∃t,PA X [e] t/\∀{G0 H0 G H:Hp}{τ:zx}{σ:St}{d:D}{Q:Á V->Hp->È},zu X.K ô G0 H0 G H τ σ->f τ=À d->(∀p G' H',zV G H G' H'->H p=Æ->G' p=Æ->wM X.K G' H' d p->Q Ĭc H')->t σ H Q:=by let{t,p,k}:=m.h;show{_,qf p g8 j,λE g q=>k E g λp l i b c a o=>?_};show q p l i b c a o
def eO(C:QE X ÿa ŋc)(B:SF X e f)(d:Î (Şa ÿa "extend" Ö Áh=ċ ÿa Ö) q12)(b:Î śa q12)(w:Î ϳ q12) :SS X (Θe (.Attribute ÿa "extend" ϙ)) (qE i f):=by
 let{t,p,k}:=y0y B w;refine{{_,(GN (Oy ĩe PySem.F.slot_list_extend PySem.F.type_list_extend z27 C {p} d b (by rw[ř,w];rfl) įe) rfl).h,λ{U Q G H τ σ L E} K a q=>?_}};unfold qE at a
 rw[Òo];rename_i m u;let{y,J,a}:=zF a;cases y with
 |lst ys=>
  change ύi=À L at a
  rw[Ōo];let{O,v,g,z,r,s,n,l}:=K.ow _ _ u;show{_,v,.inl {rfl,r,Ŕa s},k K J λp T S j R P o=>?_};let{I,N,A,_}:=o;refine{O,p,r,I,rfl,rfl,j.h _ _ s,N,by rw[Ϩd,Ϲh,ľ];show c,?_};show q _ _ _ ((Ϭ j).Ui u v {_,yL,(Űf j.g).append A,?_});rw[Šo]
 |_=>cases a
 cases a
def eD(t:SF X a fa)(F:SE X b fb):SF X (.BinOp a .Mult b pos) (e2 VN fa fb):=by
 let{K,r,C}:=t.h;let{U,I,n}:=F.h;show{{_,cA z7b r I,λ{W L G H τ σ d Q} E i q=>?_}};let{x,z,i}:=zF i;let{y,A,i}:=zF i;show C E z λp S O l N J o=>?_
 show n (Ϲ l) A λu R P j s=>?_
 let{T,k,rfl,rfl,c,rfl}:=nO i;let{w,B,m,_}:=o;cases(show u=.int k from s);let e:=l.trans j;refine{p,k,w,rfl,rfl,j.h _ _ B,by omega,by omega,by rw[ϱb,ľ];show c.2.2,λv f=>?_};show q v _ _ (ϻb (ĭa Õc f)) (e.h.free f) (Šd f) {_,yL,ϴh (Æc j.g) _,?_};rw[ľ,bC,îm];show c.2.2
#print a
nonrec def z30(τ:zx):Ï:=τ.all λs=>match s with
 |À (Å,_)=>Ã|_=>Å
nonrec def Tk:Á D->Ê (Á Ï)
 | []=>À []|.bl b::r=>(Tk r).bind λa=>À (b::a)|_=>Æ
theorem A9:∀{ds:Á D}{bs:Á Ï},Tk ds=À bs->ds=Ŵf Úc
 | [],_,h=>by cases h;rfl|d::ds,bs,h=>by
  unfold Tk at h
  rw[üo];cases e;rename_i b r e;cases e;let{c,a,h}:=zF h;cases h;rw[A9 a];rfl;cases h
theorem dH{K:Ð}{G:Hp}:∀{bs:Á Ï}{vs:Á V},á K G (Ŵf Úc) vs->vs=Ŵf V.bl
 | [],_,r=>r|b::bs,_,r=>by let{v,d,rfl,c,a}:=r;rw[dH a,show v=V.bl b from c];rfl
def FI:Á D->Ê D
 | [.lst xs]=>(Tk xs).bind λa=>À (.bl (Ąd id))|_=>Æ
def z4s{K:Ð}:jl K (ce K) FI:=λG H i j d Q s r b q=>by
 rcases i with _|⟨x_,r_⟩;cases b
 cases x_<;>first|(cases b;done)|skip
 cases r_<;>first|(cases b;done)|skip
 rename_i h;let{g,f,b}:=zF (show(Tk h).bind _=À d from b);cases b;let{v,rfl,a,k,rfl,e,c,l}:=qD r;rw[A9 f]at c;rw[dH c]at e;show{a,g,rfl,e,q _ _ _ ϑ rfl}
#print L3
namespace L2
open Ĩ ĺ ϐ ĭ
nonrec def ÿd:Value->zX
 |.int i _=>.inl i|.str x _=>.inr x|_=>.inl 0
theorem Ťh:∀{xs:Á V}{us:Á Value},Ś=ä->(∀(j:Ä)(x:V)(v:Value),xs[j]?=À x->us[j]?=À v->zw x v)->zm xs us
 | [],[],_,_=>.nil| [],_::_,h,_=>by cases h|_::_,[],h,_=>by cases h|x::xs,u::us,h,f=>.cons (f 0 x u rfl rfl) (Ťh Áb λj y v b a=>f éa y v ϊk Œe)
#print L2
namespace L3
open Ĩ ĺ ĭ L2
structure iZ(K:Ð)(H0 G H:Hp)(p:Í)(qs:Á Í)(nds:Á Şb):È where
 hp:H p=À (Δ (ľi Ħb))
 p0:H0 p=Æ
 pg:G p=Æ
 np:p ∉ qs
 nd:qs.Nodup
 ln:nds.length=ñf
 el:∀(j:Ä)(q:Í),qs[j]?=À q->∃ds vs,nds[j]?=À ds/\H q=À đf/\H0 q=Æ/\G q=Æ/\á K G ds vs/\Ĉ<=ã
structure SQ(K:Ð)(n:Ä)(G0 H0 G H:Hp)(τ:zx)(σ:St)(i:Ä)(nds:Á Şb):È where
 env:zu K n G0 H0 G H τ σ
 no:z30 τ=Å
 x1q:∃p qs,σ[i]?=À Ñf/\iZ K H0 G H p qs nds
inductive NF where
 |nx (nds:Á Şb) (τ:zx)
 |rt (d:D)
abbrev iX:=Á Şb->zx->Ê NF
def iY(K:Ð)(n:Ä)(a b:Hp)(E:uF)(i:Ä):NF->È
 |.nx nds τ=>∀σ G H,SQ K n a b G H τ σ i nds->E.nx σ H|.rt d=>∀v G H,zV a b G H->zd K G d v->E.rt v H
structure NS(X:Cx)(i:Ä)(st:Ù)(f:iX):È where
 h:∃t,PS X st t/\∀{G0 H0 G H:Hp}{τ:zx}{σ:St}{nds:Á Şb} {fl:NF} {E:uF},SQ X.K ô G0 H0 G H τ σ i nds->f nds τ=À fl->iY X.K ô G0 H0 E i fl->t E σ H
#print L3
namespace L2
open Ĩ ĺ ϐ ĭ
section
variable{ı:ï}{w:è}{A:Ā}{E:Value->Ñ->È}
def mM{s:Ñ}{a:Í}{kvs:Á Ća}{ep:Ä}{Q:Á Value->Ñ->È}(t:Čb=Æ)(u:Ìa=Ã)(n:Ϙe Ńa a kvs ep)(p:ĵ<=ã)(h:∀h' tk vs,ö=ĵ->(∀(j:Ä)(v:Value),vs[j]?=À v->∃k x,kvs[j]?=À (k,x)/\(Ńa).is k v=Å)->Þ<h'.objs.size->(∀b ob,ć b=À ob->Ĕ b=À ob)->Q vs { s with ì:=h',ď:=tk }):Û ĳ A (collect ś) Q E s:=by
 unfold collect;show Ø (wpAny_runValue (ũc (entry_proto_collect') ?_));exact Û _ _ (newList [] >>= λl=>again (.builtin "list.__iadd__" {[l,.ref a],[]})) _ _ s;refine Ø (ώl (Đ {Code.quiet_builtin _ Ī,ũc (entry_list_iadd') ?_}));let i:a<Þ:=n.lt_size;let g:Þ≠a:=wV (ûb i);rw[Ħd Ī]
 refine W.kdl_extend (R:=λr m=>match r with
  |.ok ϒd=>Û ĳ A (match v with
   |ą a=>(do
    let o <-load a
    match Īa with
    |.seq xs _=>pure xs.toList|_=>ľm Śk)
   |_=>ľm Śk) Q E m
  |.ok _=>ê|.error e=>E e m) (s:={ s with ì:=ęa (seqObj ę #[] 0) }) (ϰm (knd:=yr ı w) (kvs:=kvs) (ep:=ep) u) ϖm (n.push _) Þ g g Ŋb 0 ϛc (λh' tk c y q f d=>?_) p
 show Ø (Ϩm f ?_);exact Û _ _ (pure c.toList) _ _ _;refine Đ (h h' tk c.toList (by rw[ìb];show d.1) (λj v e=>d.2 j v (by rw[<-ķe];show e)) ĝi λb ob e=>?_);show q b ob (wV ϊh) ąf
def sX(vs:Á Value)(kvs:Á Ća)(ns:Á Â)(b:ö=ĵ)(a:Ϣa (·.1)=ųa Æa)(c:∀(j:Ä)(v:Value),vs[j]?=À v->∃k x,kvs[j]?=À (k,x)/\(Ńa).is k v=Å):Ác vs ns:=by
 revert kvs ns
 induction vs with
 |nil=>
  intro kvs ns b a _;cases kvs with
  |nil=>
   cases ns with
   |nil=>show .nil|ú n ns=>cases a
  |ú _ _=>cases b
 |ú v vs ih=>
  intro kvs ns b a c;cases kvs with
  |nil=>cases b|ú kx kvs=>
   cases ns with
   |nil=>cases a|ú n ns=>let{k,x,e,z}:=c 0 v rfl;cases e;let d:k=Æa n:=Él.1;subst d;let{t,rfl}:=ϝk (k:=n) (v:=v) z;show .cons _ _ (ih kvs ns ϊk Él.2 λj u f=>by simpa using c éa u (by simpa using f))
def y36{s:Ñ}{a:Í}{kvs:Á Ća}{ep:Ä}{ns:Á Â}{Q:Value->Ñ->È}(t:Čb=Æ)(B:Ìa=Ã)(C:Ϙe Ńa a kvs ep)(hk:Ϣa (·.1)=ųa Æa)(y:ϡ<64)(h:∀h' tk p out c ns',Þ<=p->Ĕ p=À (seqObj ę out c)->Ác out.toList ns'->ns'.Perm ns->ns'.Pairwise (·<=·)->(∀b ob,ć b=À ob->Ĕ b=À ob)->Q Ž { s with ì:=h',ď:=tk }) :Û ĳ A (ża ϓe âa) Q E s:=by
 let F:ĵ=ϡ:=by
  let:=Ϣ Đh hk
  rwa [æ,æ]at this
 let l:ĵ<=ã:=by rw[ċo]
 show Calls.call_function_entry kind_sorted plain_sorted entry_sorted (args_sorted1 _) ?_;unfold Builtin.«sorted»;refine Ø (m:=checkCount ćb 1 1 _) (δb (mM ϖm B C l λk tk d o v g n=>Ø (ώl ?_ (by rw[o];show l))));let z:=sX d kvs ns o hk v;let j:Äa<64:=by omega
 let i:(k.push ϳj).get? Ņm=À ϳj:=ų _ rfl;show Ø (Ϻa (éc slot_list_sort {_,i,rfl} entry_list_sort (list_sort_tree i z j λout ns' x q r=>{_,rfl,?_}) (args_list_sort _)));let{c,u}:=sortedHeap_at (vs:=d) (out:=out) i;show Đ {_,rfl,h _ tk Ņm out c ns' (ńb g) u x q r λb ob e=>?_};let f:=Ĭ Ûn;rw[sortedHeap_old Ďm (by rw[size_push'];show Śe f)];show ğ _ Ûn
#print a
section
variable{X:Cx}
theorem Cy:∀{kvs:Á Ũ} {vs:Á Ća},KV kvs vs->Ūf (·.1)=Ϣa (·.1)
 |_,_,.nil=>rfl|_,_,.cons r t=>by rw[Ť,Ť,Cy t,r.1]
def y09:Á V->Hp->VK->È:=λb H Q=>∃(a:Í) (kvs:Á Ũ) (ns:Á Â),b=âa/\Rd H a Ń/\Ϣa (·.1)=ųa Æa/\ϡ<64/\∀l,H l=Æ->Q Ϲb Ąm
def m8(b:Š=Å):wL X ϓe y09:=by
 intro U s σ H W T Q I r h;let{a,N,d,rfl,L,t,i,q}:=h;let{u,rfl,R}:=uO r;cases(show u=ą a from R);let{_,E,B,k,o,x,m,A,C,F,G,O,n}:=ju ĉ L;let S:Ϙe āb a B m:={o,x,A,C,F,G,O,n};show y36 (ġa b) E S ((Cy k).trans t) i λh' K p g c f l y P J v z=>?_
 let e:f=ĩb d:=Ky (J.trans (Ϥb d).symm) v (Cn d);subst e;let j:(ĩb d).length=Äa:=(Ϥb d).length_eq;show{.ref p,_,őa (t':=K) (h':=h') z l (show xU ò X.w _ _ _ (Δ ((ĩb d).map Ŏc))from{?_,g.toList,c,af P,?_}),rfl,q _ (òb l)};rw[æ,j];exact _<=ã;rw[ċo];rw[Ęk];show y
#print a
#print L2
namespace L3
open Ĩ ĺ ĭ L2
nonrec def Vf:Á Ą->Ê Ćf
 | []=>À []|.inl i::r=>(Vf r).bind λa=>À ŧi|.inr _::_=>Æ
theorem a_:∀{ks:Á Ą} {ns:Á Â},Vf ks=À ns->ks=ųa Æa
 | [],_,h=>by cases h;rfl|.inl i::r,_,h=>by let{ns,a,h}:=zF h;cases h;rw[a_ a];rfl
 |.inr _::_,_,h=>by cases h
def FQ:Á D->Ê D
 | [.dic ks _]=>(Vf ks).bind λa=>if ϴ<64 then À ņk else Æ|_=>Æ
def y2u{X:Cx}{e:Ó}{fs:FA}{p pos:Pos}(g:Š=Å)(A:Gl X ćb)(C:ñ ćb=Æ)(m:SA X [e] fs)(B:Î ϳ q12) :SF X ńk (eL FQ fs):=by
 let{t,z,k}:=m.h;refine{{_,(Qn (p:=p) (pos:=pos) (m8 g) A C AD {z} Ì Ì Ϗk).h,λ{P I G H τ σ d Q} E b q=>?_}};let{r,u,b}:=zF b;show k E u λK N L i n=>?_
 rcases r with _|⟨x_,r_⟩;cases b
 cases x_<;>first|(cases b;done)|skip
 cases r_<;>first|(cases b;done)|skip
 rename_i w O;let{j,y,b}:=zF b;by_cases c:ða<64;rw[ço];let{v,rfl,a,s,rfl,x,J,F,l}:=qD n;show{a,w.zip s,j,rfl,Ŗb i.gh x,?_,c,λo f=>?_};rw[<-a_ y];show Őg É;show q o _ _ (i.trans (ĭa i.gh f)) (i.h.free f) (i.gh.free f) {_,yL,ώd,?_};rw[æ,(Ϥb j).length_eq,ľ];rw[ëo];rw[æo]
section
variable{α:Type}{P:Á α->È}
def y9c(h:P []):∀us:Á α,Ś=0->P us
 | [],_=>h
def J4{n:Ä}(h:∀a (r:Á α),Ŷ=n->P Ŋc):∀us:Á α,Ś=n+1->P us
 |a::r,e=>h a r (Ŧc e)
def us1(h:∀a,P [a]):∀us:Á α,Ś=1->P us:=J4 λa=>y9c (P:=λr=>P Ŋc) öe
def us2(h:∀a b,P ð):∀us:Á α,Ś=2->P us:=J4 λa=>us1 (P:=λr=>P Ŋc) öe
def us3(h:∀a b c,P Őf):∀us:Á α,Ś=3->P us:=J4 λa=>us2 (P:=λr=>P Ŋc) öe
def us4(h:∀a b c d,P [a,b,c,d]):∀us:Á α,Ś=4->P us:=J4 λa=>us3 (P:=λr=>P Ŋc) öe
def us5(h:∀a b c d e,P [a,b,c,d,e]):∀us:Á α,Ś=5->P us:=J4 λa=>us4 (P:=λr=>P Ŋc) öe
#print a
abbrev Ir(x:Ç)(st:Ù)(oc:Value)(od:Ê Í)(sl:Ĝ ŧa)(kV dc pm:Value)(an:Ê Í)(cd ct:Value):Ê Obj:=À {oc,od,.func (łc x x æd ϵ ņ .none kV dc pm an cd ct),sl}
#print L3
namespace L2
open Ĩ ĺ ϐ ĭ
def pY(K:Ð)(w:è)(a:Í)(ks:Á zX)(us:Á V):È:=
 Ìa=Ã/\ġ=Ś/\∃ep,∀(P:ï)(h:Heap),Ţ h->∃vs,KV ϡb vs/\ϱh Ċa a vs ep
def Ct{k:zX}{v:Value}(h:YC k v=Å):zw ţi v:=by rcases gz h with⟨i,t,rfl,rfl⟩|⟨x,t,rfl,rfl⟩;show{t,rfl};show{t,rfl}
def BN(ks:Á zX):It:={λi _=>i<ġ,λi H v a=>a=H/\∃k,ks[i]?=À k/\v=kV k,λi _=>ġ<=i}
theorem j7:∀{kvs:Á Ũ} {vs:Á Ća},KV kvs vs->ö=ĵ
 |_,_,.nil=>rfl|_,_,.cons _ t=>by rw[Ġ,Ġ,j7 t]
theorem y7v{P:ï}{w:è}{K:Ð}{tg:Ó}{ks:Á zX}{us:Á V}{ep:Ä}(a it:Í)(Q:ġ=Ś)(g:∀(P:ï)(h:Heap),Ţ h->∃vs,KV ϡb vs/\ϱh Ċa a vs ep) :gb P w K tg ĵi űb it (λi h=>h.IsKeyIter it a i ġ ep) where
 mem:=by simp
 obj:=λi h st b m=>by
  let e:b=it:=by simpa using m
  rw[Ão]
 đa:=λi h t st k=>ϕf λo e=>k it é o e
 ϰa:=by
  rw[Ðo]
  let Z:i<ö:=by rw[n];show L
  let r:vs[i]?=À (vs[i].1,vs[i].2):=Ĳ Z
  let S:ks[i]?=À vs[i].1:=by let e:=Ϣ (λl:Á zX=>l[i]?) (Cy f);simp only[Ş,r,Űe,Őg (show ġ<=Ś by omega)]at e;show ųf
  rw[śo];show wpAny_pyNext_dict_item st F r λC t p j sb=>?_
  rw[n]at j;let Y:zH X R σ H { s with ì:=t }:=Ŏa (t':=ĕ) (λb o m e=>(sb.2 b m).trans e) G N B J y;let{o,e,c,d}:=id j;show{C,rfl,VW (s:={ s with ì:=t }) e c d Ì {kV vs[i].1,H,Y,Ct p,{rfl,_,S,rfl},j,λb m=>(q b m).1}}
 done:=by
  rw[Ðo]
  let r:vs[i]?=Æ:=êb (by rw[n];show L);rw[śo];show wpAny_pyNext_dict_end (ġa O) st F r λt T=>{rfl,Ŏa (t':=ĕ) (λb o m e=>T b o m e) G N B J y}
 Ŭb:=λ_ _ _ _ _ st h=>wpAny_pyIter_keyiter st h
def sQ(ks:Á zX):TI:=λ_ H R=>R ĵi H
def z8f{X:Cx}{tg:Ó}{x:Ç}{p:Pos}{A:Í}{ks:Á zX}{us:Á V}(h:wd ñ x ŕb)(g:pY X.K X.w A ks us)(z:Gl X x)(B:Î Ģ q10):PI X tg Øa (sQ ks):=by
 intro r s σ H R I n;let{c,j,C,k}:=g;show zj (X_ (pos:=p) h z B r s σ H (λv i=>v=.ref A/\i=H) I {rfl,rfl}) λv a ⟨y,i,d,q,e1,e2⟩=>?_
 subst e1 e2;cases(show v=ą A from q);let{u,f,m}:=k ò a.heap d.xc;let t:Ϭh=ġ:=by rw[j7 f,Úa,j,ϰ]
 show wpAny_pyIter_dict c m ?_;rw[t];show{üa,[üa],_,_,i,rfl,ņi (t':=Þe) λb o e=>ğ _ e,y7v A _ j k,{_,ų _ rfl,rfl,rfl},λb l=>?_,n};let e:b=üa:=by simpa using l
 rw[Ŏo]
#print L2
namespace L3
open Ĩ ĺ ϐ ĭ L2
nonrec def ÿd:zX->D
 |.inl i=>.int i|.inr x=>.str x
nonrec def qB:zX->Ï
 |.inl _=>Å|.inr x=>decide (Úb<=yW)
def iG(ks:Á zX):FA:=λ_=>À Âf
def Cu{K:Ð}{G:Hp}{k:zX}(h:qB k=Å):zd K G (ÿd k) ţi:=by
 cases k with
 |inl i=>rfl|inr x=>show{rfl,by rw[ľ];show ī h}
def oE{K:Ð}{G:Hp}{ks:Á zX}(h:ïd qB=Å):jo K ĵi G Âf where
 go:=λi b H _ _ a=>by rw[æ]at a;show a
 ud:=λi b H x f e d a y=>by let{rfl,k,c,rfl}:=y;show{b,ÿd k,ĺa d,by rw[Ş,c];rfl,Cu (Ĺa h k (Ķb c))}
 ϭ:=λi b H _ _ a=>by rw[æ]at a;show a
def Kw(h:wd ñ x ŕb)(g:pY X.K X.w A ks us)(c:Gl X x)(hk:ïd qB=Å)(b:ġ<=1000)(d:Î Ģ q10):SI X tg Øa (iG ks):=
 {{_,z8f h g c d,λ{f i G H τ σ e R} K a q=>by cases a;show q _ _ _ ϗd (by rw[æ,ľ];show Ĵ b Ì) (oE hk)}}
def nh{K:Ð}{w:è}{a:Í}{es:Á ċb}{n:Ä}{xs:Á Ç}{vs:Á Value}{us:Á V}(l:Ϗ a=À { cls:=.type ŷ,ā:=.dict ĳh n })(e:jg w es xs vs)(g:Įc)(f:Ìa=Ã)(r:zm us vs) :pY K w a Ēc us:=by
 rw[Ğo]
 show{f,c,n,λP h d=>{_,Cz r c,?_}};rw[Žo];refine{_,_,d _ _ l,{rfl,rfl,rfl},rfl,λe i=>q e ſk,p,?_};rw[Lw þg];show łd _ Ğd g
#print L3
namespace L2
open Ĩ ĺ ϐ ĭ
def Se(r d:Í)(h:Heap):È:=h.IsValuesView r d
abbrev TX(r d:Í):HO:=.ext (Se r d)
section
variable{X:Cx}{A:Í}{ks:Á zX}{us:Á V}{x:Ç}{p ϙ Ϛ:Pos}
def ek(A:Í):TE:=λ_ H Q=>∀r,H r=Æ->Q (.ref r) (zU H r (TX r A))
def z87(h:wd ñ x ŕb)(g:pY X.K X.w A ks us)(P:Gl X x)(J:Î Ģ q10)(f:Î ϱf q12)(d:Î śa q12) :PE X čj (ek A):=by
 intro N s σ H Q I R;let{i,T,S,G}:=g;show ęe f d (zj (X_ (pos:=p) h P J N s σ H (λv n=>v=.ref A/\n=H) I {rfl,rfl}) λv c ⟨y,n,m,C,e1,e2⟩=>?_);subst e1 e2;cases(show v=ą A from C);let{r,O,L}:=G ò ód m.xc;let l:ϯg āb A r:=L.dictOf
 let E:∀b,ą A=.ref b->∃j,ϣc b=À j/\j.dict=Æ:=λb q=>by cases q;let{j,_,_,B,u,_}:=l;show{j,B,u.2.1}
 show{ŷ,_,Īe,ħe,ϭj,l.typeIs,E,şc rfl Ài};show ļd ħe l.typeIs Ϙj Ŏj (ϛk āb A i) {{r,l},?_};let t:Se ûc A (Ůd { cls:=.type ϩg,ā:=.fields #[.ref A] }):={_,ų _ rfl,rfl,rfl};show{.ref ûc,_,m.laid (a:=ûc) (o:=TX ûc A) (t':=òd) ŏe Ę {t,?_,λB u z k=>?_},rfl,R _ m.fresh};let{o,e,_}:=t;show{o,e};let{o,e,z}:=z;show{o,k _ e,z}
def y03(A:Í)(us:Á V):Á V->Hp->VK->È:=λa H Q=>∃r,a=[.ref r]/\H r=À (TX r A)/\∀p,H p=Æ->Q Ž (ν (.lst us))
theorem b7:∀{kvs:Á Ũ} {vs:Á Ća},KV kvs vs->zm (Ϣa (·.2)) (Ūf (·.2))
 |_,_,.nil=>.nil|_,_,.cons r t=>.cons r.2 (b7 t)
def ly(c:Š=Å)(g:pY X.K X.w A ks us)(p:Ś<=1000):wL X Àa (y03 A us):=by
 intro P s σ H R T Q I r h;let{a,rfl,J,q}:=h;let{u,rfl,O}:=uO r;cases(show u=ą a from O);let{t,y,ep,B}:=g;let{m,i,F}:=B ò à ţ;let L:ϱb=Ś:=by rw[j7 i,Úa,y,ϰ]
 let{C,_}:=(show xU ò X.w H à a (TX a A)from ĉ a _ J);refine ϱm (W.kdl_values (knd:=yr ò X.w) (d:=A) (r:=a) (kvs:=m) (ep:=ep)) ĕi {C,F} (by rw[L,ľ];show Ĵ p Ì) λS G b E x z f=>?_
 let{n,l}:=f
 let e:Èd=m.map (·.2):=by
  show øc λj=>?_
  cases hj:Èd[j]? with
  |Æ=>have:=List.getElem?_eq_none_iff.mp hj;rw[ìb,n]at this;rw[Ş,êb this];rfl|À v=>let{k,e}:=l j v (by rw[<-ķe];show hj);rw[Ş,e];rfl
 let N:zm us Èd:=by rw[e];let:=b7 i;rw[List.map_snd_zip (show Ś<=ġ by omega)]at this;show this
 show{.ref Þ,_,őa (a:=Þ) (o:=.lst us) (t':=G) x Ę {?_,Èd,E,N,?_},rfl,q _ Úd};rw[ľ];show Ĵ p Ì;rw[z]
#print a
#print L2
namespace L3
open Ĩ ĺ ϐ ĭ L2
def eB(a:Š=Å)(f:Gl X ę)(j:ñ ę=Æ)(h:wd ñ x ŕb)(g:pY X.K X.w A ks us)(t:Gl X x)(m:∀H,á X.K H ds us)(k:Ĉ<=1000)(n:Î Ģ q10)(c:Î (Şa ŗd "values" Ö (ċ ŗd Ö)=ċ ŗd Ö) q12)(b:Î śa q12) :SF X (.Call Õk [.Call ŏj [] [] Ϛ] [] pos) (eC Ϯc):=by
 let y:Ś<=1000:=by rw[(m Ïb).length];show k
 let z:QE X (δa ŏj) (ek A):={z87 h g t n c b};refine{{_,(W1 (p:=p) (pos:=pos) (ly a g y) f j Tl (GI z cZ) Ì Ì).h,λ{C B G H τ σ d Q} E s q=>?_}};cases s;intro r v;show{r,rfl,yL,λl i=>?_};let e:=ĭa (o:=TX r A) ύ v;let u:=ϻb (ĭa (o:=.lst us) Õc i);show q l _ _ u (e.h.free i) (Šd i) {us,yL,m _,by rw[ľ];show Ĵ k Ì}
#print L3
namespace L2
open Ĩ ĺ ϐ ĭ
section
variable{ı:ï}{w:è}{A:Ā}{E:Value->Ñ->È}{s:Ñ}
open HT in
def nz{t g:Í}{a:Ĝ Value}{k l:Value}{b e:Ê Â}{Q:Value->Ñ->È}(d:ϯa à t a)(n:ţe g k l .none)(pl:ãb k b)(q:ãb l e)(m:sIx ĝ 0 b=0/\sIx ĝ ĝ e=ĝ)(h:Q ϓd s):Û ĳ A ϫl Q E s:=by
 let{r,i,j,p}:=id n;let f:Ûb ìf Äe:={r,i,j};unfold ĳc
 try with_reducible show Ϻa ?_
 first|show Ø Íb|skip
 refine Ø (ϙk İc Ì ?_)
 show Ø (ŝc (İ:=ĕc ϭg) İc đe
  (éc đe İc Ĺk ?_ ϸj))
 exact Û _ _ ßj _ _ s;show Ø (ϐl d ?_);show Ø Ân;rw[Ò Ì];show Ø (eI n pl q ?_)
 let c:ϙi=Å:=by rw[m.1,m.2,ìm];simp
 exact Û _ _ (ζa ϙi) _ _ s;rw[Ò c];let o:Ûb ϓd ż:=İc;unfold Builtin.Tuple.tupleIsExact;show Ø (Ø (İd o (δb (ķd (Đ {_,rfl,Đ h})))))
#print a
def y08(K:Ð):V->Ê Â->Ê Â->Hp->VK->È:=λx b c H Q=>∃a xs,x=.ref a/\xE K H a xs/\
 (ħ ä 0 b=0/\ħ ä ä c=ä)/\Q ś H
def y32:gY X (y08 X.K):=by
 intro t s σ H x v n o w p u Q I g i k l h;let{a,f,rfl,j,e,q}:=h;cases g;let{c,r,d,m}:=Ϥ j;let b:ōe=ģa:=by rw[ė];show ϕl
 show{ż,_,øj,İc,?_};show nz d i k l (by rw[b];show e) {.ref a,H,I,rfl,q}
#print L2
namespace L3
open Ĩ ĺ ϐ ĭ L2
def VO(d:D)(b a:Ê Â):Ê D:=match d with
 |.tup xs=>À èn|d=>Ao d b a
def XX(a:FE)(b c:FO):FE:=λσ=>(ϸ).bind λd=>(ťb).bind λl=>(ŉc).bind λh=>VO d l h
def mQ{α:Type}{xs:Á α}{b a:Ê Â}(c:ħ ä 0 b=0/\ħ ä ä a=ä):gf xs b a=xs:=by unfold gf;rw[c.1,c.2,ìm,śl,þc]
theorem y2i{X:Cx}{a:Ó}{B:FE}{pos:Pos}{w A:Ê Ó}{y fh:FO}{p2:Pos}(F:SE X a B)(t:SO X w y)(r:SO X A fh):SE X ăj (XX B y fh):=by
 let{S,C,O}:=F.h;let{Z,J,P}:=t.h;let{th,L,N}:=r.h;show{{_,cB (eG.or y32) C J L,λ{G0 T G H τ σ d Q} E b q=>?_}};let{x,K,b}:=zF b;let{l,t,b}:=zF b;let{h,r,b}:=zF b;show O E K λv G1 U o I=>P (Ϲ o) t λY W u=>N ((Ϲ o).go u) r λR H3 e=>?_
 let n:=üi ώm;let s:=áe Ĩl;cases x with
 |lst xs=>cases b;let{a,k,rfl,m,i,f}:=s;refine .inl (.inl {a,k,rfl,uY Õc m,λp j=>q _ _ _ èk {p,_,rfl,Ŕa yL,(ϑm).mono ūl,Ĵ Ŧf f}})
 |tup xs=>cases b;let{a,k,rfl,m,i,f}:=s;by_cases c:ħ ä 0 l=0/\ħ ä ä h=ä;refine .inr {a,k,rfl,vi Õc m,by rw[đb];show c,?_};rw[mQ c]at q;show q _ _ _ n {a,k,rfl,m,i,f};refine .inl (.inr (.inl {a,k,rfl,vi Õc m,by rw[đb];show c,λp j=>?_}));show q _ _ _ èk {p,_,rfl,Ŧb yL,(ϑm).mono ūl,Ĵ Ŧf f}
 |str z=>cases b;let{rfl,f}:=s;show .inl (.inr (.inr {z,rfl,f,q _ _ _ n {rfl,Ĵ (F2 ..) f}}))
 |_=>cases b
#print L3
namespace L2
open Ĩ ĺ ϐ ĭ
section
variable{X:Cx}{z8:Á î}{σ:St}{H:Hp}{s:Ñ}{a:Í}{o:Obj}{kvs:Á Ũ}
def zH.swap(I:zH X z8 σ H s)(e:H a=À u)(A:∀x,u≠.own x)(k:∀xs,u≠.tup xs)(l:∀ps,Ϫa a≠À Ϡd)(j:∀ob v,Ϫa a≠À ŏh)(B:∀xs,Ϫa a≠À Ġa)(h:xU ò X.w żm à a u'):zH X z8 σ żm s:=by
 let f:∀b,H b=Æ->b≠a:=λb d z=>by subst z;rw[e]at d;cases d
 show{I.ok,Øc,ŵa,{ύe,Ųd,λb ob q n o=>?_,ťd,λb xs q=>?_,λb ob v q=>?_,λb ps q=>?_},èa,īa,?_,λx c q=>?_,λp m=>?_,λb v q=>?_,åb};let:=ϓc b ob q n o;rw[zt (f b this)];show this;let d:b≠a:=λz=>by subst z;show B xs q
 rw[zt d];show ϐd b xs q;let d:b≠a:=λz=>by subst z;show j ob v q
 rw[zt d];show Ϗd b ob v q;let d:b≠a:=λz=>by subst z;show l ps q
 rw[zt d];show ϑd b ps q;rw[zt (f _ Ŵa)];show Ŵa;rw[zt (f _ (Įb x c q))];show Įb x c q;let{t,i,r}:=ıa p m;show{t,by rw[zt (f _ i)];show i,r};by_cases d:b=a;subst d;rw[yL]at q;cases q;show h;rw[zt d]at q;show(ĉ b v q).Ze (λc w _ z=>z) (λc z=>?_) λc xs z=>?_;let g:c≠a:=λy=>by subst y;rw[e]at z;cases z;show A _ rfl
 rw[zt g];show z;let g:c≠a:=λy=>by subst y;rw[e]at z;cases z;show k _ rfl
 rw[zt g];show z
def zH.WV(I:zH X z8 σ H s)(e:H a=À Ń):(∀ps,Ϫa a≠À Ϡd)/\(∀ob v,Ϫa a≠À ŏh)/\∀xs,Ϫa a≠À Ġa:=by show{λps z=>?_,λob v z=>?_,λxs z=>?_};let{_,q}:=ϑd a ps z;rw[e]at q;cases q;let q:=Ϗd a ob v z;rw[e]at q;cases q;let q:=ϐd a xs z;rw[e]at q;cases q
def zH.up(I:zH X z8 σ H s)(e:H a=À Ń):∃o,zH X z8 σ ϰe s:=by let{d,h,f}:=I.WV e;let{z,y,j,r,b,k,i,g,c}:=(show xU ò X.w H à a Ń from ĉ a _ e);show{b,I.swap e Éa Éa d h f {g,z,y,j,r,b,k,i,g,c}}
def zH.dn(I:zH X z8 σ H s)(e:H a=À ϋ)(n:(∀ps,Ϫa a≠À Ϡd)/\(∀ob v,Ϫa a≠À ŏh)/\∀xs,Ϫa a≠À Ġa):zH X z8 σ Ūd s:=by let{b,f,d}:=n;let{_,z,y,i,r,ob,j,h,g,c}:=(show xU ò X.w H à a ϋ from ĉ a _ e);show I.swap e Éa Éa b f d {z,y,i,r,ob,j,h,g,c}
#print a
def uF.dn(D:uF)(a:Í)(o:Obj)(kvs:Á Ũ):uF:=
 {λσ H=>H a=À ϋ/\ĵa σ Ūd,λv H=>H a=À ϋ/\D.rt v Ūd,λσ H=>H a=À ϋ/\D.bk σ Ūd,λσ H=>H a=À ϋ/\D.ct σ Ūd}
def y0w(i:Ä)(t:TS):TS:=λD σ H=>∃a,σ[i]?=À ϛd/\((∃o kvs,H a=À ϋ/\t D σ H)\/∃kvs,H a=À Ń/\∀o,t (D.dn a o kvs) σ ϰe)
def z92{X:Cx}{st:Ù}{t:TS}{i:Ä}(h:PS X st t):PS X st (y0w i t):=by
 intro k s σ H D I d;obtain⟨a,n,⟨_,_,_,d⟩|⟨m,e,d⟩⟩:=d;show h k s σ H D I d
 .let{o,l}:=I.up e;show zj (h k s σ _ _ l (d o)) λf p g=>?_
  cases f with
  |next=>let{σ',j,b,c,q}:=g;show{σ',_,b.dn c Ϻd,q}
  |brk=>let{σ',j,b,c,q}:=g;show{σ',_,b.dn c Ϻd,q}
  |Ĭb=>let{σ',j,b,c,q}:=g;show{σ',_,b.dn c Ϻd,q}
  |ret u=>let{v,σ',j,b,r,c,q}:=g;show{v,σ',_,b.dn c Ϻd,r,q}
def y4j(i:Ä)(t:TE):TE:=λσ H Q=>∃a,σ[i]?=À ϛd/\((∃o kvs,H a=À ϋ/\t σ H Q)\/∃kvs,H a=À Ń/\∀o,t σ ϰe λv b=>b a=À ϋ/\Q v (zU b a Ń))
def z84(h:PE X e t):PE X e (y4j i t):=by intro c s σ H Q I b;obtain⟨a,k,⟨_,_,_,b⟩|⟨g,e,b⟩⟩:=b;show h c s σ H Q I b;let{o,d}:=I.up e;show zj (h c s σ _ _ d (b o)) λu l ⟨v,m,f,r,j,q⟩=>{v,_,f.dn j Ϻd,r,q}
def VQ(j:xm P w H h)(e:H a=À ϋ)(d:Īa=.dict es ep):Ìa=Ã/\∃vs,KV kvs vs/\ϱh Ċa a vs ep:=by let{g,z,y,vs,r,k,b,i,f,c}:=(show xU P w H h a ϋ from j a _ e);rw[g]at f;cases f;show{y,vs,r,o,b,g,c.1,?_,c.2.2};let e1:=c.2.1;rw[d]at e1;cases e1;show d
theorem ON:∀{kvs:Á Ũ} {vs:Á Ća} {i:Ä} {k:zX} {x:Value},KV kvs vs->vs[i]?=À (k,x)->∃u,kvs[i]?=À (k,u)/\zw u x
 |_,_,_,_,_,.nil,e=>by cases e|_,_,0,_,_,.cons r t,e=>by cases e;let{a,b}:=r;show{_,Ϣ À (Prod.ext a rfl),b}
 |_,_,i+1,_,_,.cons _ t,e=>ON (i:=i) t Âb
#print L2
namespace L3
open Ĩ ĺ ϐ ĭ L2
structure Tw(a:Í)(kvs:Á Ũ)(G G':Hp):È where
 ne:∀b,b≠a->G' b=G b
 l:Rd G a Ń
 r:Rd G' a Ń
section
variable{K:Ð}{a:Í}{o:Obj}{kvs:Á Ũ}{G G' H H' G0 H0:Hp}
def Rd.tw(t:Tw a kvs G G')(c:∀ob v,u≠.yD ob v)(h:Rd G b u):Rd G' b u:=by
 rw[Ùo]
 let e:u=.dK kvs:=by rcases h with h|⟨ob,h⟩<;>rcases t.l with l|⟨oc,l⟩<;>rw[l]at h;cases h;rfl;cases h;show ß rfl (c oc _);cases h;cases h;rfl
 rw[e];show t.r;rcases h with h|⟨ob,h⟩;show .inl (by rw[Źo]);show .inr {ob,by rw[Źo]}
theorem Tw.at{b:Í}{u:HO}(t:Tw a kvs G G')(h:G b=À u)(d:u≠.dK kvs)(c:∀o,u≠.yD o Ń):G' b=À u:=by rw[Ùo];rcases t.l with l|⟨oc,l⟩<;>rw[l]at h;cases h;show ß rfl d;cases h;show ß rfl (c oc);rw[Źo]
theorem zd.tw(t:Tw a kvs G G'):∀{d:D}{v:V},zd K G d v->zd K G' d v:=λ{d}=>by show ŏc (P:=λd=>∀v,zd K G d v->zd K G' d v) Én ým ûm úm ?_ ?_ ?_ ?_ ?_ d _;rw[ďo];rcases q with q|q;show .inl Ĺl;show .inr q;rw[ďo];rcases q with q|q;show .inl Ĺl;show .inr q;rintro k g c v ⟨b,f,e,q,z,r,l⟩;show{b,f,e,Rd.tw t Ċj q,z,Ϡa c r,l};rintro x v ⟨b,C,e,n,h⟩;show{b,C,e,n,t.at h Āa Éa};rintro x m g c v ⟨b,C,j,f,e,n,h,l,r⟩;show{b,C,j,f,e,n,t.at h Āa Éa,l,Ϡa c r}
theorem Reps.tw(t:Tw a kvs G G')(h:á K G ds vs):á K G' ds vs:=Ϡa (λ_ _ _=>zd.tw t) h
theorem wM.tw(t:Tw a kvs G G')(f:H' p=H p)(c:wM K G H d p):wM K G' H' d p:=by
 cases d with
 |lst ds=>let{b,e,r,l}:=c;show{b,by rw[f];show e,r.tw t,l}
 |dic ks ds=>let{b,e,z,r,l}:=c;show{b,by rw[f];show e,z,r.tw t,l}
 |_=>show c.elim
def NC(e:G a=À Ń):Tw a kvs G ūd:={λb c=>zt c,.inl e,.inr {o,yL}}
def LU(e:G a=À ϋ):Tw a kvs G (zU G a Ń):={λb c=>zt c,.inr {o,e},.inl yL}
nonrec def YY(a:Í)(f:HO)(H0:Hp):Hp:=λb=>if b=a then(H0 a).bind λ_=>À f else H0 b
def fF(h:b≠a):YY a f H0 b=H0 b:=Ô h
def LX:YY a f H0 b=Æ↔H0 b=Æ:=by
 unfold YY;by_cases h:b=a;subst h;rw[Ò rfl];cases H0 b with
 |Æ=>show{λ_=>rfl,λ_=>rfl}|À u=>show{λz=>(nomatch z),λz=>(nomatch z)}
 rw[Ô h]
theorem y9b(h:YY a f H0 a=À u):u=f:=by
 unfold YY at h;rw[Ò rfl]at h;cases e:H0 a with
 |Æ=>rw[e]at h;cases h|À w=>rw[e]at h;cases h;rfl
def zu.up(E:zu K n G0 H0 G H τ σ)(e:G a=À Ń):zu K n ūd Èh ūd ϰe τ σ:=by
 let t:=NC (o:=o) e;show{{ĝa _,λb u h=>?_,Qt ύ,λ_ h=>.inl h},Ė,č,λi d h=>?_,λi d h=>?_,ža};rw[Ùo];rw[yL,y9b h];rw[fF hb]at h;rw[zt hb];show ϥa _ _ h;let{v,c,r}:=Ža i d h;show{v,c,r.tw t};let{p,c,g,z,j}:=Ĕa i d h;let f:p≠a:=λz=>by subst z;rw[e]at g;cases g
 show{p,c,by rw[zt f];show g,LX.mpr z,j.tw t (zt f)}
def zV.Yn(c:zV G0 H0 G H)(e:G a=À Ń)(x:zV ūd Èh G' H'):G' a=À ϋ/\H' a=À ϋ/\zV G0 H0 Ëm Ém:=by let d:G' a=À ϋ:=x.g _ _ yL;show{d,Ĳa _ _ d,c.rebase {λb u h=>?_,λb u h=>?_,Qt Ĳa,λp h=>?_}};rw[Ùo];rw[e]at h;cases h;show yL;rw[zt hb];show x.g _ _ (by rw[zt hb];show h);rw[Ùo];let:=c.h _ _ h;rw[çb _ _ e]at this;cases this;show yL;rw[zt hb];show x.h _ _ (by rw[fF hb];show h);by_cases hb:p=a;subst hb;show .inl Ŝc;rw[zt hb]at h;rcases īb p h with z|z;rw[zt hb]at z;rw[ło];show .inr (LX.mp z)
theorem zu.Yn(E:zu K n G0 H0 G H τ σ)(e:G a=À Ń)(b:zu K n ūd Èh G' H' τ' σ'):H' a=À ϋ/\zu K n G0 H0 Ëm Ém τ' σ':=by
 let{j,k,x}:=E.ext.Yn e b.ext;let t:=LU j;show{k,x,b.l1,b.l2,λi d h=>?_,λi d h=>?_,b.ap};let{v,c,r}:=b.fr i d h;show{v,c,r.tw t};let{p,c,g,z,l}:=b.ow i d h;let f:p≠a:=λz=>by subst z;rw[j]at g;cases g
 show{p,c,by rw[zt f];show g,LX.mp z,l.tw t (zt f)}
#print a
def Kn(K:Ð)(i:Ä)(τ:zx)(σ:St)(G:Hp):È:=∃a o ks ds vs,τ[i]?=À Ćg/\σ[i]?=À ϛd/\G a=À Ġh/\ġ=ö/\á K G ds vs/\Ĉ<=ã
structure Sa(X:Cx)(i:Ä)(st:Ù)(f:FS):È where
 h:∃t,PS X st t/\∀{G0 H0 G H:Hp}{τ:zx}{σ:St}{fl:Fl}{E:uF},zu X.K ô G0 H0 G H τ σ->Kn X.K i τ σ G->f τ=À fl->ue X.K ô G0 H0 E fl->t E σ H
structure SY(X:Cx)(i:Ä)(e:Ó)(f:FE):È where
 h:∃t,PE X e t/\∀{G0 H0 G H:Hp}{τ:zx}{σ:St}{d:D}{Q:VK},zu X.K ô G0 H0 G H τ σ->Kn X.K i τ σ G->f τ=À d->(∀p G' H',zV G H G' H'->H p=Æ->G' p=Æ->wM X.K G' H' d p->Q Ž H')->t σ H Q
structure Jl(X:Cx)(i:Ä)(tg ű:Ó)(f:FA):È where
 h:∃wi,PI X tg ű wi/\∀{G0 H0 G H:Hp}{τ:zx}{σ:St}{ds:Á D}{R:It->Hp->È},zu X.K ô G0 H0 G H τ σ->Kn X.K i τ σ G->f τ=À ds->(∀J G' H',zV G H G' H'->Ĉ<=ã->jo X.K J G' ds->R J H')->wi σ H R
def Zl(i:Ä)(f:zx->Ê α):È:=∀τ x,f τ=À x->∃ks ds,τ[i]?=À Ćg
def y3f{X:Cx}{i:Ä}{st:Ù}{f:FS}(h:Sa X i st f)(hk:Zl i f):SS X st f:=by
 let{t,Q,k}:=h.h;show{{_,z92 (i:=i) Q,λ{S R G H τ σ O E} K m q=>?_}};let{I,F,u}:=hk _ _ m;let{v,n,a,C,rfl,P,B,y,J}:=K.fr i _ u;show{a,n,?_};rcases P with e|⟨o,e⟩;rw[ϙo];let L:=K.up (o:=o) e;show k L {a,o,I,F,C,u,n,yL,B,y.tw (NC e),J} m ?_;cases O with
 |nx τ'=>show λσ' g c z=>let ⟨h1,h2⟩:=K.Yn e z;{h1,q σ' _ _ h2}|bk τ'=>show λσ' g c z=>let ⟨h1,h2⟩:=K.Yn e z;{h1,q σ' _ _ h2}|ct τ'=>show λσ' g c z=>let ⟨h1,h2⟩:=K.Yn e z;{h1,q σ' _ _ h2}|rt l d=>
  cases l with
  |Ã=>intro v g c x r;let{b,w,s}:=K.ext.Yn e x;show{w,q v _ _ s (r.tw (LU b))}
  |Å=>
   intro p g c x N j l;let{b,w,s}:=K.ext.Yn e x;let A:p≠a:=λz=>by subst z;rw[b]at j;cases j
   show{w,q p _ _ s (LX.mp N) (by rw[zt A];show j) (l.tw (LU b) (zt A))}
 show .inl {o,_,Ãa _ _ e,k K {a,o,I,F,C,u,n,e,B,y,J} m q}
def y2t(h:SY X i e f)(hk:Zl i f):SF X e f:=by
 let{t,T,k}:=h.h;show{{_,z84 (i:=i) T,λ{W U G H τ σ d Q} K s q=>?_}};let{m,I,A}:=hk _ _ s;let{v,y,a,l,rfl,S,E,B,J}:=K.fr i _ A;show{a,y,?_};rcases S with e|⟨o,e⟩;rw[ϙo];let N:=K.up (o:=o) e;show k N {a,o,m,I,l,A,y,yL,E,B.tw (NC e),J} s λp L R x F j O=>?_
 let P:H a=À _:=Ãa _ _ e;let n:L a=À (.yD o ŷg):=x.g _ _ yL
 let r:H p=Æ:=by by_cases z:p=a;subst z;rw[n]at j;cases j;rw[zt z]at F;show F
 let C:p≠a:=λz=>by subst z;rw[n]at j;cases j
 show{Ĳa _ _ n,q p (zU L a ŷg) (zU R a ŷg) {λb u c=>?_,λb u c=>?_,Qt Ĳa,λb c=>?_} r (by rw[zt C];show j) (O.tw (LU n) (zt C))};rw[ťo];rw[e]at c;cases c;show yL;rw[zt z];show x.g _ _ Ĩk;rw[ťo];rw[P]at c;cases c;show yL;rw[zt z];show x.h _ _ Ĩk;rw[ťo];show .inl Ŝc;rw[zt z]at c;rcases īb b c with w|w;rw[zt z]at w;show .inl w;rw[zt z]at w;show .inr w;show .inl {o,_,Ãa _ _ e,k K {a,o,m,I,l,A,y,e,E,B,J} s q}
def y3d(P:ϵc ù X.A Ö ĥ)(O:Š=Å)(hi:Jl X i tg ű fs)(hg:SG X tg fg)(Y:tZ X Öc g)(hs:Î (∀x,îb ű Ö x=pure x) q11):Sa X i æg Ēm:=by
 rw[Ūo];let{tb,pb,B}:=Y.h;show{{_,G7 P O F U pb hs,λ{G0 p G H τ σ t E} K C a q=>?_}};let{b,S,a}:=zF a;show T K C S λJ f Ha W _ j=>?_
 let s:=Ϭ W;let l:=úi s.ext q;show{λi m σ H=>m=ŵ-i/\i<=ŵ/\∃τ G,zu X.K ô f p G H τ σ/\j_ fg g či τ=À t,{ŵ,rfl,Ϡ _,τ,f,s.kY,a},?_};rintro i m σ H ⟨rfl,u,τ,G,K,a⟩;by_cases hlt:i<ŵ;show .inr {j.go i G H śb Ãa hlt,λσ' c=>∃τ G,zu X.K ô f p G c τ σ'/\j_ fg g Źh τ=À t,λσ' c z=>{ŵ-õ,ļe _ _ hlt,rfl,hlt,z},λx c y=>?_};let{G3,d,I,r,rd}:=j.ud i G H x c śb Ãa hlt y;rw[Źb hlt]at a;rw[Ĳ hlt]at r;cases r;let{τ1,h1,a}:=zF (show(fg _ τ).bind _=_ from a);let{L,Z,a}:=zF a;show R Ďi rd h1 λσ1 v=>B v Z ?_
 cases L with
 |nx τ2=>show λσ2 n Q k=>{τ2,n,k,a}|ct τ2=>show λσ2 n Q k=>{τ2,n,k,a}|bk τ2=>cases a;show l|rt o d=>cases a;show Æe l Éa Éa Éa rfl
 rw[Őo];show .inl {j.stop i G H śb Ãa É,l _ _ _ K}
def mq(h:Zl i fs):Zl i Ēm:=λτ x a=>by let{c,b,_}:=zF a;show h τ c b
#print L3
namespace L2
open Ĩ ĺ ϐ ĭ
nonrec def BR(a:Í)(o:Obj)(kvs:Á Ũ):It:={λi H=>H a=À ϋ/\i<ĵ,λi H v b=>b=H/\∃k,kvs[i]?=À (k,v),λi H=>H a=À ϋ/\ĵ<=i}
def y7u{P:ï}{w:è}{K:Ð}{tg:Ó}{kvs:Á Ũ}{o:Obj}{es:Ĝ ċb}{ep:Ä}(a it:Í)(d:Īa=.dict es ep) :gb P w K tg ĥm űb it (λi h=>h.IsValIter it a i ĵ ep) where
 mem:=by simp
 obj:=λi h st b l=>by
  let e:b=it:=by simpa using l
  rw[Ão]
 đa:=λi h r st k=>ϕf λo e=>k it é o e
 ϰa:=by
  rw[Ôo];let T:i<ģa:=by rw[m];show n.2
  let q:f[i]?=À (f[i].1,f[i].2):=Ĳ T;let{u,O,Y}:=ON g q;let{F,J,R,B,G,y}:=p it é;rw[<-m]at st;show wpAny_pyNext_values_item st C q λr j U=>?_
  rw[m]at j;let S:zH X N σ H { s with ì:=r }:=Ŏa (t':=ĕ) (λb o l e=>(U.2 b l).trans e) F J B G y;let{o,e,c,d}:=id j;show{f[i].2,rfl,VW (s:={ s with ì:=r }) e c d Ì {u,H,S,Y,{rfl,_,O},j,λb l=>(p b l).1}}
 done:=by rw[Ôo];let q:f[i]?=Æ:=êb (by rw[m];show n.2);let{F,J,R,B,G,y}:=p it é;rw[<-m]at st;show wpAny_pyNext_values_end (ġa L) st C q λr Q=>{rfl,Ŏa (t':=ĕ) (λb o l e=>Q b o l e) F J B G y}
 Ŭb:=λ_ _ _ _ _ st h=>wpAny_pyIter_valiter st h
def sP(i:Ä):TI:=λσ H R=>∃a o kvs,σ[i]?=À ϛd/\H a=À ϋ/\R ĥm H
def z8e{X:Cx}{tg:Ó}{x:Ç}{p h d:Pos}{i:Ä}(S:X.N[i]?=À x)(hv:qQ Ϟ x)(Q:Î Ģ q10)(z:Î Śa q10)(k:Î ϱf q12)(j:Î Ϩj q12) :PI X tg (.Call (.Attribute Øa "values" h) [] [] d) (sP i):=by
 intro J s σ H R I t;let{a,o,m,K,e,t}:=t;show ęe k j (zj (ZE (pos:=p) S hv Q z J s σ H (λv l=>v=.ref a/\l=H) I {_,K,rfl,rfl}) λv c ⟨y,l,B,L,e1,e2⟩=>?_);subst e1 e2;cases(show v=ą a from L);let{g,_,_,_,_,o',es,Z,E,_,f,_}:=(show xU ò X.w l ód a (.yD o (.dK m))from B.zf a _ e);rw[g]at E;cases E;let{P,u,C,G}:=VQ B.zf e f;let W:Ϭh=ϱb:=j7 C;let r:ϯg āb a u:=G.dictOf
 let O:∀b,ą a=.ref b->∃n,ϣc b=À n/\n.dict=Æ:=λb q=>by cases q;let{n,_,_,Y,U,_}:=r;show{n,Y,U.2.1}
 show{ŷ,_,Īe,ħe,ϭj,r.typeIs,O,şc rfl Ài};show ļd ħe r.typeIs Ϙj Ŏj (ϛk āb a P) {{u,r},?_};let A:zH X J σ l { c with ì:=Ůd { cls:=.type ϩg,ā:=.fields #[.ref a] } }:=ŕi (t':=òd) λb o e=>ğ _ e
 show wpAny_pyIter_values (knd:=yr ò X.w) (s:={ c with ì:=Ůd { cls:=.type ϩg,ā:=.fields #[.ref a] } }) {_,ų _ rfl,rfl,rfl} (G.push _) ?_;rw[W];show{_,[_],_,_,l,rfl,A.kept (t':=òd) λb o e=>ğ _ e,y7u a _ f,{_,ų _ rfl,rfl,rfl},λb T=>?_,t};let e:=ĸa T;subst e;show A.Zb Ę (A.zf.fresh Ę)
#print L2
namespace L3
open Ĩ ĺ ϐ ĭ L2
nonrec def Vb(i:Ä):FA:=λτ=>match τ[i]? with
 |À (À (Ã,.dic _ ds))=>À ds|_=>Æ
def my(i:Ä):Zl i (Vb i):=λτ x a=>by
 unfold Vb at a
 rw[Ŋo]
def fV{ks:Á zX}{vs:Á V}{i:Ä}{k:zX}{v:V}(h:Ěa[i]?=À (k,v)):ks[i]?=À k/\vs[i]?=À v:=by rw[List.getElem?_zip_eq_some]at h;show h
def nJ{K:Ð}{G:Hp}{a:Í}{o:Obj}{ks:Á zX}{ds:Á D}{vs:Á V}(j:ġ=ö)(e:G a=À Ġh)(g:á K G ds vs):jo K (BR a o Ěa) G ds where
 go:=λi h H b c f=>{c _ _ ϔn,by rw[Úa,j,ϰ,Üb];show f}
 ud:=λi h H x p b c f y=>by let{rfl,k,l}:=y;let{d,n,m}:=g.at (fV l).2;show{h,d,ĺa c,n,Æc b}
 ϭ:=λi h H b c f=>{c _ _ ϔn,by rw[Úa,j,ϰ,Üb];show f}
def y2y(j:X.N[i]?=À x)(hv:qQ Ϟ x)(s:Î Ģ q10)(f:Î Śa q10)(c:Î ϱf q12)(b:Î śa q12):Jl X i tg čj (Vb i):=by show{{_,z8e j hv s f c b,λ{y u G H τ σ w R} K k d q=>?_}};let{a,o,t,r,v,l,n,e,m,g,h}:=k;unfold Vb at d;rw[l]at d;cases d;show{a,o,_,n,Ãa _ _ e,q _ _ _ ϗd h (nJ m e g)}
def mw(h:Zl i fs):Zl i (wU n fs fg ft f):=λτ x a=>by let{c,b,_}:=zF a;show h τ c b
section
variable{X:Cx}{i:Ä}{tg ű elt:Ó}{ifs:Á Ó}{ň:Óa}{cl:Á ϙa}{own:Á Ç}{pos:Pos}{fs:FA}{fg:FG}{ft:FT}{f:FE}{g:TG}
def y2r(a:Š=Å)(B:Zj X ň cl own)(E:Jl X i tg ű fs)(m:BG X ň cl own tg g fg)(u:∀C s H fp pn,XG ϯ ifs ft)(o:∀C s H fp pn,SE ϯ elt f)(L:Î (∀x,îb ű Ö x=pure x) q11) :SY X i ϱa ņe:=by
 let{U,t,A}:=E.h;show{{_,c6 a B t (Νb (m.q C s H fp pn)) (Κb (u C s H fp pn)) (Λb (o C s H fp pn)) L,λ{W P G H τ σ d Q} K n b q=>?_}};let{S,z,b}:=zF b;let{v,y,b}:=zF b;cases b;show A K n z λJ N O j l w=>OT w l (Ϭ j) y (m.k K.l2 K.l1) λI T R c r F p e=>?_
 show q p _ _ (j.trans ūk) (j.h.free (Ϫd e)) (õf e) {I,yL,r,F}
#print a
#print L3
namespace L2
open Ĩ ĺ ϐ ĭ
def BO(a:Í)(o:Obj)(kvs:Á Ũ):It:={λi H=>H a=À ϋ/\i<ĵ,λi H v b=>∃p k u,H p=Æ/\v=.ref p/\kvs[i]?=À (k,u)/\b=zU H p Ŷg,λi H=>H a=À ϋ/\ĵ<=i}
def y7t{P:ï}{w:è}{K:Ð}{x:Á Ó}{kk:Ä}{pos:Pos}{kvs:Á Ũ}{o:Obj}{es:Ĝ ċb}{ep:Ä}(a it:Í)(d:Īa=.dict es ep) :gb P w K (.Tuple x kk pos) Ħm űb it (λi h=>∃ok ov,IsItemIter h it a i ĵ ep ok ov) where
 mem:=by simp
 obj:=λi h st b hb=>by
  let e:b=it:=by simpa using hb
  subst e;let{ok,ov,g}:=st;show{_,g,λv q=>nomatch q}
 đa:=λi h h' st k=>by let{ok,ov,g}:=st;show{ok,ov,k it é _ g}
 ϰa:=by
  rw[Ìo];let hi:i<ģa:=by rw[r];show B.2
  let G:f[i]?=À (f[i].1,f[i].2):=Ĳ hi;let{u,hk,ru}:=ON j G;let n:it<Þ:=Ĭ g;rw[<-r]at g;show wpAny_pyNext_items_item g T G λp Z t ho ht hz L=>?_
  show{_,rfl,wpAny_letOwnedTupleGo_items (s:={ s with ì:=Z }) ho λJ A l=>?_}
  replace l:ÿb it Z J:=l
  let Q:ć Þ=Æ:=by
   cases q:ć Þ with
   |Æ=>rfl|À o=>show ß ŕf Ϸ
  let C:H Þ=Æ:=òb Ę;let R:Ÿf Þ=À { cls:=.type ż,ā:=.seq #[p,f[i].2] }:=Ĩc _ _ (ûb n) ht
  let kk:∀c o,c ∉ űb->ć c=À o->Ÿf c=À o:=λc o m z=>by
   let y:c≠it:=λq=>m åj
   show Ĩc _ _ y (L c o y z)
  let new:xU ò X.w (zU H Þ ęg) J Þ ęg:={Ϸj,[p,f[i].2],.cons (Ct t) (.cons ru .nil),{_,R,rfl,_,rfl}};rw[r]at A;show{.ref Þ,zU H Þ ęg,I.Pj (tk:=ĕ) F kk Q C new,rfl,{Þ,_,u,C,rfl,hk,rfl},{p,_,A},λc m=>?_};rw[zt];show(F c m).1;intro q;let e:c=it:=by simpa using m
  rw[e]at q;rw[q]at n;show ß n Ϸ
 done:=by rw[Ìo];let G:f[i]?=Æ:=êb (by rw[r];show B.2);rw[<-r]at g;show wpAny_pyNext_items_end (ġa m) g T G λZ Y=>{rfl,I.but (tk:=ĕ) F λc ob U eb=>Y c ob (λq=>U åj) eb}
 Ŭb:=λ_ _ _ _ _ st h=>by let{ok,ov,g}:=st;show W.kcp_self g h
def sO(i:Ä):TI:=λσ H R=>∃a o kvs,σ[i]?=À ϛd/\H a=À ϋ/\R Ħm H
def z8d{X:Cx}{m:Á Ó}{kk:Ä}{l:Pos}{x:Ç}{p h d:Pos}{i:Ä}(U:X.N[i]?=À x)(hv:qQ Ϟ x)(T:Î Ģ q10)(B:Î Śa q10)(k:Î Éj q12)(j:Î Ϩj q12) :PI X (.Tuple m kk l) (.Call (.Attribute Øa "items" h) [] [] d) (sO i):=by
 intro L s σ H R I z;let{a,o,r,O,e,z}:=z;show ęe k j (zj (ZE (pos:=p) U hv T B L s σ H (λv n=>v=.ref a/\n=H) I {_,O,rfl,rfl}) λv c ⟨y,n,E,P,e1,e2⟩=>?_);subst e1 e2;cases(show v=ą a from P);let{g,_,_,_,_,o',es,ep,J,_,f,_}:=(show xU ò X.w n ód a (.yD o (.dK r))from E.zf a _ e);rw[g]at J;cases J;let{S,A,G,K}:=VQ E.zf e f;let Z:Ϲh=Ŷ:=j7 G;let u:ϯg āb a A:=K.dictOf
 let Q:∀b,ą a=.ref b->∃t,ϣc b=À t/\t.dict=Æ:=λb q=>by cases q;let{t,_,_,h1,Y,_}:=u;show{t,h1,Y.2.1}
 show{ŷ,_,Īe,Äk,PySem.F.type_dict_items,u.typeIs,Q,şc rfl Ài};show ļd Äk u.typeIs PySem.F.entry_dict_items (PySem.F.args_dict_items_1 _) (meets_dict_items āb a S) {{A,u},?_};let C:zH X L σ n { c with ì:=Ůd { cls:=.type âm,ā:=.fields #[.ref a] } }:=E.kept (t':=òd) λb o e=>ğ _ e
 show wpAny_pyIter_items (knd:=yr ò X.w) (s:={ c with ì:=Ůd { cls:=.type âm,ā:=.fields #[.ref a] } }) {_,ų _ rfl,rfl,rfl} (K.push _) ?_;rw[Z];show{_,[_],_,_,n,rfl,C.kept (t':=òd) λb o e=>ğ _ e,y7t a _ f,{_,_,ų _ rfl},λb W=>?_,z};let e:=ĸa W;subst e;show C.Zb Ę (C.zf.fresh Ę)
#print L2
namespace L3
open Ĩ ĺ ϐ ĭ L2
def ZC(ks:Á zX)(ds:Á D):Á D:=ύa (λk d=>Ϡf ģn) ks ds
def Va(i:Ä):FA:=λτ=>match τ[i]? with
 |À Ćg=>if ïd qB=Å then À Þn else Æ|_=>Æ
def mv(i:Ä):Zl i (Va i):=λτ x a=>by
 unfold Va at a
 rw[Ŋo]
def mn{K:Ð}{G:Hp}{a:Í}{o:Obj}{ks:Á zX}{ds:Á D}{vs:Á V}(w:ġ=ö)(e:G a=À Ġh)(l:á K G ds vs)(h:ïd qB=Å):jo K (BO a o Ěa) G Þn where
 go:=λi j H f c b=>{c _ _ ϛh,by rw[įo]}
 ud:=λi j H x z f c b y=>by let{p,k,u,m,rfl,r,rfl}:=y;let{g,t}:=fV r;let{d,v,s}:=l.at t;show{zU j p Ŷg,.tup ģn,řb c m,?_,?_};unfold ZC;rw[Ďg,g,v];let q:zh G (zU j p Ŷg):=f.trans (wY (c.free m) _);show{p,[kV k,u],rfl,Ŧb yL,{_,_,rfl,Cu (Ĺa h k (Ķb g)),{u,_,rfl,Ùe q,rfl}},L2.small (n:=2) Ì}
 ϭ:=λi j H f c b=>{c _ _ ϛh,by rw[įo]}
def y2x(m:X.N[i]?=À x)(hv:qQ Ϟ x)(v:Î Ģ q10)(j:Î Śa q10)(f:Î Éj q12)(d:Î śa q12):Jl X i (.Tuple elts kk Őc) (δa (.Attribute Øa "items" ϙ)) (Va i):=by
 show{{_,z8d m hv v j f d,λ{z w G H τ σ u R} K n b q=>?_}};let{a,o,g,h,y,r,t,e,s,k,l}:=n;unfold Va at b;rw[r]at b
 change (if g.all qB=Å then À (ZC g h)else Æ)=À u at b
 by_cases c:g.all qB=Å;rw[ço];show{a,o,_,t,Ãa _ _ e,q _ _ _ ϗd ?_ (mn s e k c)};unfold ZC;rw[ϋa];show Ĵ ĳd l;rw[æo]
#print L3
namespace L2
open Ĩ ĺ ϐ ĭ
def z2a(a d:Value):ŵf Ϭa {[a],[(ņd,d)]}:=by unfold ŵf;kernel_rfl
section
variable{ı:ï}{w:è}{A:Ā}{R:Ńc->Ñ->È}{I:Í}{fp wr:Á Í}{n:Ä}{P:Ä->Value->È}{St:Ä->Heap->È}{kw:Á Āb}
def Oc:(ϭh Ϭa ++ ϭh ".loop" : Ÿ) = Ħh:=by decide
theorem EX(W:Walks ı w Ź I fp wr n P St)(q:Ä->Ä->Ï)(i:CmpOf ı w Ź .Gt P q)(S:Í)(p:S ∉ fp):∀(k j:Ä)(s:Ñ)(vb:Value)(c:Ä),n-éa=k->j+1<=n->St éa à->P żh vb->
  ć S=À { cls:=.type ę,dict:=Æ,ā:=.seq #[vb,vb] c,Îc:=#[] }->(∀v h' tk,P (ĭc q (n-1)) v->(∀b o,b ∉ wr->b≠S->ć b=À o->Ĕ b=À o)->R ϧn { s with ì:=h',ď:=tk })->
  Ϥa ĳ A (.builtin Ħh {ûk,kw}) R s
 |k,j,s,vb,c,hk,hj,hst,hPb,hS,hR=>by
  let y:S ∉ wr:=λh=>p Ϛm
  show ũc Úk ?_;rw[Ħd Ũc _]
  change Û _ Ź ϒj _ _ s
  show Ø (Ϲa hS rfl ?_)
  change Û _ Ź ďj _ _ s
  match k,hk with
  |0,hk=>
   let z:j+1=n:=by omega
   show Ø (ūc (W.done s _ _ (z▸hst) λh' tk f=>?_));let l:=f S _ y hS
   change Û _ Ź (υd (λ_=>#[])) _ _ _
   show Ø (ıe l rfl ťn);show hR vb _ tk (by rw[<-z];show hPb) λb o a d e=>(Ϫl).trans Ĝh
  |k+1,hk=>
   let u:j+1<n:=by omega
   show Ø (ūc (ŋi éa s _ _ u hst λv h' tk E r f=>?_));let l:=f S _ y hS
   change Û _ Ź (tryCatch (holding [v,v] (richCompare .Gt v vb >>= _)) _ >>= _) _ _ _
   show Ø (ūc (Ϻa (Ø (i éa żh v vb _ _ _ E hPb (Ø (Ϻa (æc ťn)))))));cases hb:q éa żh with
   |Å=>simp only[Ň];show Ø (ıe l rfl (Ø (Đe ?_)));rw[Oc];refine Đ {ůc Ũc _,EX W q i S p k éa _ v _ É u (ăi _ _ _ r λb C o e=>?_) (by simp only[ĭc,hb,Ň];show E) (Ķe _ l rfl) λB t g x m=>?_};show(ξa (λh:S=b=>p (by rw[h];show C))).trans e;show hR B t g x λb o a d e=>m b o a d ((Ϫl).trans Ĝh)|Ã=>simp only[ļa,Ŧ];show Ø (Đe ?_);rw[Oc];refine Đ {ůc Ũc _,EX W q i S p k éa _ vb c É u r (by simp only[ĭc,hb,ļa,Ŧ];show hPb) l λB t g x m=>?_};show hR B t g x λb o a d e=>m b o a d Ĝh
def z2b(W:Walks ı w Ź I fp wr n P St)(u:Ä->Ä->Ï)(j:CmpOf ı w Ź .Gt P u)(S:Í)(g:S ∉ fp)(l:St 0 à)(C:ć S=À { cls:=.type ę,dict:=Æ,ā:=.seq #[] c,Îc:=#[] })(B:∀v h' tk,Ϗm->(0<n->P (ĭc u (n-1)) v)->(∀b o,b ∉ wr->b≠S->ć b=À o->Ĕ b=À o)->R ϧn { s with ì:=h',ď:=tk }) :Ϥa ĳ A (.builtin Ħh {ûk,Üf}) R s:=by
 let r:S ∉ wr:=λh=>g Ϛm
 show ũc Úk ?_;rw[Ħd Ũc _]
 change Û _ Ź ϒj _ _ s
 show Ø (Ϲa C rfl ?_)
 change Û _ Ź ďj _ _ s
 by_cases hn:n=0;subst hn;show Ø (ūc (W.done s _ _ l λh' tk d=>?_))
 change Û _ Ź (rule _ >>= _) _ _ _
 show Ø (ķd Íb);show B dv _ tk Ģc (λz=>ß z Ϸ) λb o a f e=>d b o a e;let q:0<n:=by omega
 show Ø (ūc (ŋi 0 s _ _ q l λv h' tk E m d=>?_));let k:=d S _ r C
 change Û _ Ź (υd (λ_=>#[v,v])) _ _ _
 show Ø (ıe k rfl ?_);rw[Oc];show Đ {ůc Ũc _,EX W u j S g _ 0 _ v _ rfl q (ăi _ _ _ m λb y o e=>?_) E (Ķe _ k rfl) λG t i x p=>?_};show(ξa (λh:S=b=>g (by rw[h];show y))).trans e;show B G t i (λz=>ß z hn) (λ_=>x) λb o a f e=>p b o a f ((ξa (ßb f)).trans (d b o a e))
#print a
section
variable{ı:ï}{w:è}{A:Ā}{E:Value->Ñ->È}{s:Ñ}
def y7o{a:Ÿ}{b:Ĉi}{ϝ:Á Value}{c:Á Āb}{Q:Value->Ñ->È}(hk:builtinKind a=Æ)(i:plainId a=Å)(j:entryFor table a=À b)(h:ŵf a {ϝ,c})(g:Û ĳ Ź (b {ϝ,c}) (λfin s'=>match fin with
   |.done f=>(match(Except.ok f:Ńc)with|.ok ϒd=>Q v s'|.ok _=>ê|.error e=>E e s')
   |.again c'=>c'.quiet=Å/\Ϥa ĳ A c' (λr s'=>match r with|.ok ϒd=>Q v s'|.ok _=>ê|.error e=>E e s') s') E s):Û ĳ A (ża (.builtin a) ϝ c) Q E s:=by
 show ĭh (codeAny_call_builtin i j ?_);simp only[checkBuiltinCall,hk];cases hsig:Manifest.signature? a with
 |Æ=>show Đ g|À sig=>
  let d:Bind.checkArgs a sig {ϝ,c}=pure ():=by simpa only [ŵf,hsig]using h
  simp only[d];show Đ g
def m7
  (h:Û ĳ Ź (Úe x) (λit s₂=>∃I fp wr n P St bt,it=.ref I/\Walks ı w Ź I fp wr n P St/\St 0 s₂.heap/\(∀b∈fp,b<ěg)/\CmpOf ı w Ź .Gt P bt/\
   ∀v h' tk,Ϗm->(0<n->P (ĭc bt (n-1)) v)->(∀b o,b ∉ wr->s₂.heap.get? b=À o->Ĕ b=À o)->Q v { s₂ with ì:=h',ď:=tk }) E s) :
  Û ĳ A (ża ϡg [x] Üf) Q E s:=by
 show y7o PySem.F.kind_max PySem.F.plain_max PySem.F.entry_max (z2a _ _) ?_
 change Û _ Ź (Ůj Ϭa Ťm 0 {[],Üf} >>= _) _ _ s
 show Ø (ře (show Ůj Ϭa Ťm 0 {[],Üf}=pure [Æ,À dv]from rfl) ?_);show Ø (δb (ýa h (λit s₂ k=>?_) λ_ _ e=>e));let{I,fp,wr,n,P,St,bt,rfl,W,g,c,a,l}:=k;show Ø (ác ?_);let d:ěg ∉ fp:=λp=>ſa _ (c _ p)
 rw[Oc];show Đ {ůc Ũc _,z2b W bt a ěg d (ăi _ _ _ g λb _ o e=>ğ _ e) ϛc λv h' tk m j i=>?_};show l v h' tk m j λb o f e=>i b o f ϊh ąf
#print a
section
variable{X:Cx}
nonrec def őc:Á Â->Â
 | []=>0|x::xs=>ϥd Ģd x
theorem bM:∀(xs:Á Â)(x:Â),(ϥd Ģd x=x\/ϥd Ģd x∈xs)/\x<=ϥd Ģd x/\∀y∈xs,y<=ϥd Ģd x
 | [],x=>{.inl rfl,Ϻe _,λy h=>ß h é}|z::xs,x=>by
  let{a,b,c}:=bM xs Ĉg;let f:x<=if x<z then z else x:=by rw[āo]
  let e:z<=if x<z then z else x:=by rw[āo]
  show{?_,íh f b,λy d=>?_};rcases a with a|a;by_cases q:x<z;rw[Ò q]at a
  right
  exact ϫc _ Ĉg xs∈z::xs;rw[Ò q,a];show ŉ;left
  rw[Ô q]at a;exact ϫc _ Ĉg xs=x;rw[Ô q,a];show .inr Ϛd;rcases ŋ d with rfl|d;show íh e b;show c y d
def z1j(h:xs≠[]):őc xs∈xs/\∀y∈xs,y<=őc xs:=by
 cases xs with
 |nil=>show ß rfl h|ú x xs=>let{a,b,c}:=bM xs x;show{?_,λy d=>?_};rcases a with a|a;exact ϫc _ x xs∈_;rw[a];show ŉ;show Õa _ a;rcases ŋ d with rfl|d;show b;show c y d
def Ďn(h:m∈xs)(c:∀y∈xs,y<=m):m=őc xs:=by let{a,b}:=z1j (xs:=xs) (λz=>by rw[z]at h;show ß h é);let:=b m h;let:=c _ a;omega
def y49(K:Ð)(d b:TE):TE:=λσ H Q=>d σ H λx c=>b σ c λz a=>∃(p:Í) (ns:Á Â),x=.ref p/\yh K a p ëa/\Q Đj a
def cY(K:Ð)(x:V)(Q:VK):Á V->Hp->È:=λb a=>match b with
 | [z]=>∃(p:Í) (ns:Á Â),x=.ref p/\yh K a p ëa/\Q Đj a|_=>ê
def z9n(K:Ð)(b:TE)(σ:St)(Q:VK):Á V->Hp->È:=λa d=>match a with
 | [x]=>b σ d λz c=>cY K x Q [z] c|_=>ê
def z7y(f:Š=Å)(hg:Gl X Ϭa)(hm:ñ Ϭa=Æ)(ha:PE X a ta)(hd:PE X e td)(G:Î Ļj q12) :PE X Åj (y49 X.K ta td):=by
 intro W s σ H Q I h;let Z:PA X [a] (U9 ta YU):=br ha g8 G;let pk:PK X [{À ņd,e,kp}] (U9 td YU):=z8m hd z8o;show Ĭd (Vh I hg hm AC ?_);show PyProof.Rows.callWith_kw (zj (Z pos W s σ H (z9n X.K td σ Q) I h) λus s1 ⟨vs,H1,I1,C,O⟩=>?_) Ŷl Ŷl
 match vs,C,O with
 | [x],C,O=>
  let{u,rfl,ru}:=uO C;show zj (pk pos W s1 σ H1 (cY X.K x Q) I1 O) λws w ⟨zs,T,B,E,P⟩=>?_
  match zs,E,P with
  | [z],E,P=>
   let{dv,rfl,rd}:=uO E;let{l,c,rfl,hq,q}:=P;cases(show u=ą l from ru);let J:=B.ok.hd f;let{d,R,L,hz}:=B.list hq;let S:ϟa=ϊg:=by let:=ıc;rw[æ]at this;rw[ė];show this
   let g:l<ŉg:=by let{o,n,e,_}:=L;show Ĭ e
   show m7 ?_;show Ťc L.isList ?_;refine{_,_,_,_,_,_,_,rfl,Ķh (by show J) ŉg l (Êa g) d.toArray,{{_,ų _ rfl,rfl,rfl},L.isList.push _},?_,CmpOf.ints_gt ϸk (λi v hv=>Le R hv),?_};intro b U;exact b<(w.heap.push _).objs.size;rw[ób];simp only[ϒb,ñb,ϰb]at U;rcases U with rfl|rfl;show äc _;show Śe g;intro v h' Y h0 hP k
   let kp:∀b o,w.heap.get? b=À o->Ĕ b=À o:=λb o N=>k b o (λz=>by
    let:b=ŉg:=by simpa using z
    rw[this]at N;show ß (Ĭ N) Ϸ) (ğ _ N)
   by_cases e0:c=[];rw[Ò e0]at q;have:v=dv:=h0 (by rw[<-S,e0];rfl);subst this;show{z,T,ŕi (t':=Y) kp,rd,q};rw[Ô e0]at q;let r:0<ϟa:=List.length_pos_iff.mpr e0;have F:=hP (by rw[<-S];show r);let{t,rfl}:=Le R F;let{b1,b2}:=argBest_gt ϸk (ϊg-1);generalize ĭc (λi j=>decide (ňi i 0>ňi j 0)) (ϊg-1)=m at *;let A:m<ϟa:=by omega
   let em:ňi m 0=őc c:=by
    show Ďn ?_ λy hy=>?_;rw[ėa,Ĳ A];show ύb A;let{j,hj,rfl}:=Ék hy;let:=b2 j É
    rwa [ėa,Ĳ hj]at this
   show{.int (őc c),T,ŕi (t':=Y) kp,{t,by rw[<-em]},q}
#print a
#print L2
namespace L3
open Ĩ ĺ ϐ ĭ L2
nonrec def gu:Á D->Ê Ćf
 | []=>À []|.int i::r=>(gu r).bind λa=>À ŧi|_::_=>Æ
theorem OE{K:Ð}{G:Hp}:∀{xs:Á D}{ns:Á Â}{vs:Á V},gu xs=À ns->á K G xs vs->vs=ųa Ŏc
 | [],ns,vs,h,r=>by cases h;show(show vs=[]from r)|.int i::xs,ns,vs,h,r=>by let{e,b,h}:=zF (show(Ĭi).bind _=_ from h);cases h;let{v,d,rfl,c,a}:=r;cases(show v=.int i from c);rw[OE b a];rfl
 |.zE::_,_,_,h,_=>by cases h|.bl _::_,_,_,h,_=>by cases h|.str _::_,_,_,h,_=>by cases h|.tup _::_,_,_,h,_=>by cases h|.lst _::_,_,_,h,_=>by cases h|.dic _ _::_,_,_,h,_=>by cases h|.exc _::_,_,_,h,_=>by cases h|.obj _ _ _::_,_,_,h,_=>by cases h
theorem ah:∀ns:Á Â,gu Ľa=À ns
 | []=>rfl|n::ns=>by exact(gu Ľa).bind _=_;rw[ah ns];rfl
def FP:D->D->Ê D
 |.lst xs,z=>(Ĭi).bind λa=>À (if a=[]then z else .int (őc a))|_,_=>Æ
def y2f{X:Cx}{a e:Ó}{n m:FE}{p kp pos:Pos}(f:Š=Å)(L:Gl X Ϭa)(P:ñ Ϭa=Æ)(y:SE X a n)(C:SE X e m)(N:Î żd q12):SE X Åj (e2 FP n m):=by
 let{R,w,F}:=y.h;let{W,O,K}:=C.h;show{{_,z7y f L P w O (tQ N),λ{Z S G H τ σ d Q} E b q=>?_}};let{x,B,b}:=zF b;let{z,s,b}:=zF b;show F E B λv Y T g A=>?_
 show K (Ϲ g) s λu k j i t=>?_
 cases x with
 |lst xs=>let{o,J,b}:=zF b;cases b;let{l,U,rfl,I,r,_}:=A;let e:=OE J r;subst e;show{l,o,rfl,uY (g.gh.trans i.h) I,?_};by_cases c:o=[];rw[Ò c];rw[Ò c]at q;show q u k j (Çe i) t;rw[Ô c];rw[Ô c]at q;show q _ k j (Çe i) rfl
 |_=>cases b
#print L3
namespace L2
open Ĩ ĺ ϐ ĭ
section
variable{X:Cx}
def y02:Á V->Hp->VK->È:=λc H Q=>∃(a:Í) (kvs:Á Ũ),c=âa/\Rd H a Ń/\ĵ<=1000/\∀p,H p=Æ->Q Ž (zU H p (Δ (Ϣa λb=>kV b.1)))
def lx(c:Š=Å):wL X Àa y02:=by
 intro z8 s σ H xs us Q I r h;let{a,kvs,rfl,S,n,q}:=h;let{u,rfl,Y}:=uO r;cases(show u=ą a from Y);let{_,J,l,f,o,B,ep,E,G,K,N,U,z}:=ju ĉ S;let Z:Ϙe āb a l ep:={o,B,E,G,K,N,U,z};let p:=j7 f;let O:Ĕb<=ã:=by rw[p,ľ];show Ĵ n Ì
 show ϱm (ϰm (knd:=yr ò X.w) (kvs:=l) (ep:=ep) J) ĕi Z O λh' P b L C F d=>?_
 let{m,i}:=d
 let T:zm ϱk Èd:=by
  refine Ťh (by rw[æ,ìb,m,p]) λj x v t R=>?_
  let{k,y,e,A}:=i j v (by rw[<-ķe];show R);let{w,e2,_}:=ON f e;rw[Ş,e2]at t;cases t;show Ct A
 show{.ref Þ,_,őa (a:=Þ) (o:=.lst ϱk) (t':=P) C Ę {?_,Èd,L,T,?_},rfl,q _ Úd};rw[æ,ľ];show Ĵ n Ì;rw[F]
#print a
#print L2
namespace L3
open Ĩ ĺ ϐ ĭ L2
def FN:Á D->Ê D
 | [.dic ks _]=>if ġ<=1000/\ïd qB=Å then À (Δ Âf)else Æ|_=>Æ
theorem dI{K:Ð}{G:Hp}:∀{ks:Á zX},ïd qB=Å->á K G Âf Ŀh
 | [],_=>rfl|k::ks,h=>by rw[ř,ø]at h;show{kV k,_,rfl,Cu h.1,dI h.2}
def y2s{X:Cx}{e:Ó}{fs:FA}{p pos:Pos}(i:Š=Å)(A:Gl X ę)(C:ñ ę=Æ)(o:SA X [e] fs)(B:Î ϳ q12) :SF X Ņn (eL FN fs):=by
 let{t,y,k}:=o.h;refine{{_,(W1 (p:=p) (pos:=pos) (lx i) A C Tl {y} Ì Ì Ϗk).h,λ{P I G H τ σ d Q} E f q=>?_}};let{u,w,f}:=zF f;show k E w λK N L j r=>?_
 rcases u with _|⟨x_,r_⟩;cases f
 cases x_<;>first|(cases f;done)|skip
 cases r_<;>first|(cases f;done)|skip
 rename_i b O;by_cases c:ŵ<=1000/\b.all qB=Å;change ϝi=À d at f
 rw[Ò c]at f;cases f;let{v,rfl,a,m,rfl,x,J,F,l}:=qD r
 let z:(ϓn).map (λn=>kV n.1)=b.map kV:=by let:(ϓn).map Prod.fst=b:=Őg É;rw[<-Ϣ (ϡa kV) this,ýb];rfl
 refine{a,b.zip m,rfl,Ŗb j.gh x,by rw[Úa];omega,λs g=>?_};rw[z];show q s _ _ (j.trans (ĭa j.gh g)) (j.h.free g) (đn g) {_,yL,dI c.2,?_};rw[æ,ľ];show Ĵ c.1 Ì;change ϝi=À d at f
 rw[Ô c]at f;cases f
#print L3
namespace L3
open Ĩ ĺ ĭ L2
inductive M where
 |fz (d:D)|own (d:D)|obj (x:Ç) (fs:Á Ç) (ms:Á M)|tab (ks:Á Ą) (ms:Á M)|tp (b:Ï) (ms:Á M)
nonrec def y3a(b:Ï)(ds:Á D):D:=match b with
 |Å=>.lst ds|Ã=>.tup ds
mutual
nonrec def wy:M->D
 |.fz d=>d|.own d=>d|.obj x fs ms=>.obj x fs ϧb|.tab ks ms=>.dic ks ϧb|.tp b ms=>y3a b ϧb
nonrec def Íc:Á M->Á D
 | []=>[]|m::ms=>wy m::Íc ms
end
nonrec def ź{κ α:Type}[ņb κ]:Á κ->Á α->κ->Ê α
 |k'::ks,v::vs,k=>if k'=k then À v else ź ks vs k|_,_,_=>Æ
nonrec def uM{κ α:Type}[ņb κ]:Á κ->Á α->κ->α->Á α
 |k'::ks,v::vs,k,y=>if k'=k then y::vs else v::uM ks vs k y|_,vs,_,_=>vs
def Kq{κ α:Type}[ņb κ]{k:κ}{y:α}:∀{ks:Á κ}{ms:Á α},(uM ks ms k y).length=ό:=λ{ks}=>by
 induction ks with
 |nil=>intro ms;rfl|ú k' ks ih=>
  intro ms;cases ms with
  |nil=>rfl|ú y ms=>
   unfold uM
   split;rfl;rw[Ġ,Ġ,ih]
inductive xH where
 |at(cs:Á Ç) (f:Ç)|ky (k:Sum Â Ç)|ix (k:Ä)
def eS:M->xH->Ê M
 |.obj x fs ms,.at cs f=>if x∈cs then ź fs ms f else Æ|.tab ks ms,.ky k=>ź ks ms k|.tp Å ms,.ix k=>ź Ϙd ms k|_,_=>Æ
def y2k:M->xH->M->M
 |.obj x fs ms,.at _ f,m=>.obj x fs (uM fs ms f m)|.tab ks ms,.ky k,m=>.tab ks (uM ks ms k m)|.tp b ms,.ix k,m=>.tp b (uM Ϙd ms k m)|m,_,_=>m
def uH:M->Á xH->Ê M
 |m,[]=>À m|m,s::π=>(eS m s).bind λa=>uH a π
def u7:M->Á xH->M->Ê M
 |_,[],m'=>À m'|m,s::π,m'=>(eS m s).bind λb=>(u7 b π m').bind λa=>À (y2k m s a)
abbrev Ft:=Í->È
def SqB(K:Ð)(G:Hp)(b:Ï)(p:Í)(vs:Á V):È:=match b with
 |Å=>G p=À đf|Ã=>xE K G p vs
def y38{K:Ð}{G a:Hp}{b:Ï}{p:Í}{vs:Á V}(g:zh G a)(h:SqB K G b p vs):SqB K a b p vs:=match b with
 |Å=>g _ _ h|Ã=>vi g h
mutual
def xD(K:Ð)(G H:Hp):M->V->Ft->È
 |.fz d,v,L=>zd K G d v/\∀q,¬ L q|.own d,v,L=>∃p,v=.ref p/\wM K G H d p/\∀q,L q↔q=p|.obj x fs ms,v,L=>∃p C dx vs L',v=.ref p/\ſ K ē x=À ïa/\H p=À ÿg/\ŋa=ö/\Ľ K G H ms vs L'/\¬ L' p/\∀q,L q↔q=p\/L' q|.tab ks ms,v,L=>∃p vs L',v=.ref p/\H p=À Ţe/\ġ=ö/\Ľ K G H ms vs L'/\ό<=ã/\¬ L' p/\∀q,L q↔q=p\/L' q|.tp b ms,v,L=>∃p vs,v=.ref p/\SqB K G b p vs/\Ľ K G H ms vs L/\ό<=ã
def Ľ(K:Ð)(G H:Hp):Á M->Á V->Ft->È
 | [],vs,L=>vs=[]/\∀q,¬ L q|m::ms,vs,L=>∃v r L1 L2,vs=v::r/\xD K G H m v L1/\Ľ K G H ms r L2/\(∀q,L1 q->L2 q->ê)/\∀q,L q↔L1 q\/L2 q
end
def Ϟf{P:M->È}(j:∀d,P īc)(own:∀d,P (.own d))(f:∀x fs ms,(∀m∈ms,P m)->P Ϡg)(c:∀ks ms,(∀m∈ms,P m)->P ûh)(g:∀b ms,(∀m∈ms,P m)->P (.tp b ms))(m:M):P m:=
 M.rec (motive_1:=P) (motive_2:=λms=>∀m∈ms,P m) j own (λx fs ms h=>f x fs ms h) (λks ms h=>c ks ms h) (λb ms h=>g b ms h) Ųk
  (λd l k a e i=>by rcases ŋ i with z|z;show z▸k;show a e z) m
nonrec def Dq:HO->Ï
 |.lst _=>Å|.dK _=>Å|.ins _ _ _=>Å|_=>Ã
def Bx(H:Hp)(q:Í):È:=∃u,H q=À u/\Dq u=Å
def Bx.some{H:Hp}{q:Í}(b:Bx H q):H q≠Æ:=by let{u,e,_}:=b;rw[e];show λz=>nomatch z
section
variable{K:Ð}{G H G' H':Hp}
def wM.loc{d:D}{p:Í}(g:zh G G')(h:H' p=H p)(o:wM K G H d p):wM K G' H' d p:=by
 cases d with
 |lst ds=>let{a,e,r,l}:=o;show{a,Õd e,ça g,l}
 |dic ks ds=>let{a,e,z,r,l}:=o;show{a,Õd e,z,ça g,l}
 |_=>show Ţb
theorem ϛa:∀{ms:Á M}{vs:Á V}{L:Ft},(∀m∈ms,∀v L1,(∀q,L1 q->L q)->xD K G H m v L1->xD K G' H' m v L1)->Ľ K G H ms vs L->Ľ K G' H' ms vs L
 | [],_,_,_,h=>h|m::ms,vs,L,f,h=>by let{v,r,L1,k,e,j,g,b,u}:=h;show{v,r,L1,k,e,f m ŉ v L1 ák j,ϛa (λa d c i s o=>f a ŝn c i Řj o) g,b,u}
theorem xD.loc(g:zh G G')(m:M):∀(v:V)(L:Ft),(∀q,L q->H' q=H q)->xD K G H m v L->xD K G' H' m v L:=by show Ϟf (P:=λm=>∀v L,(∀q,L q->H' q=H q)->xD K G H m v L->xD K G' H' m v L) ?_ ?_ ?_ ?_ ?_ m;rintro d v L h ⟨r,n⟩;show{ça g,n};rintro d v L h ⟨p,e,o,u⟩;show{p,e,ŧb g (h p ņl),u};rintro x F w a v L h ⟨p,C,A,c,t,e,E,k,l,r,n,u⟩;show{p,C,A,c,t,e,E,(ċf).trans k,l,ϛa Ĳj r,n,u};rintro I w a v L h ⟨p,c,t,e,k,l,r,y,n,u⟩;show{p,c,t,e,(ċf).trans k,l,ϛa Ĳj r,y,n,u};rintro b w a v L h ⟨p,c,e,B,r,l⟩;show{p,c,e,y38 g B,ϛa (λm j i f s o=>a m j i f ïl o) r,l}
theorem ëm:∀{ms:Á M}{vs:Á V}{L:Ft},Ľ K G H ms vs L->ö=ό
 | [],_,_,h=>by let{rfl,_}:=h;rfl
 |m::ms,_,_,h=>by let{v,r,b,c,rfl,_,a,_}:=h;rw[Ġ,Ġ,ëm a]
theorem wM.bx{d:D}{p:Í}(o:wM K G H d p):Bx H p:=by
 cases d with
 |lst ds=>let{a,e,_}:=o;show{_,e,rfl}
 |dic ks ds=>let{a,e,_}:=o;show{_,e,rfl}
 |_=>show Ţb
theorem Ņb:∀{ms:Á M}{vs:Á V}{L:Ft},(∀m∈ms,∀v L1,xD K G H m v L1->∀q,L1 q->Bx H q)->Ľ K G H ms vs L->∀q,L q->Bx H q
 | [],_,_,_,h,q,z=>ß z (h.2 q)|m::ms,vs,L,f,h,q,z=>by let{v,r,L1,i,e,d,c,g,u}:=h;rcases(u q).mp z with z|z;show f m ŉ v L1 d q z;show Ņb (λa b=>f a ďb) c q z
theorem xD.cells(m:M):∀(v:V)(L:Ft),xD K G H m v L->∀q,L q->Bx H q:=by show Ϟf (P:=λm=>∀v L,xD K G H m v L->∀q,L q->Bx H q) ?_ ?_ ?_ ?_ ?_ m;rintro d v L ⟨r,n⟩ q z;show ß z (n q);rintro d v L ⟨p,e,o,u⟩ q z;cases(u q).mp z;show o.bx;rintro x t f a v L ⟨p,C,j,g,h,e,w,c,l,r,n,u⟩ q z;rcases(u q).mp z with rfl|z;show{_,c,rfl};show Ņb a r q z;rintro i f a v L ⟨p,g,h,e,c,l,r,s,n,u⟩ q z;rcases(u q).mp z with rfl|z;show{_,c,rfl};show Ņb a r q z;rintro b f a v L ⟨p,g,e,k,r,l⟩ q z;show Ņb a r q z
theorem LR:∀(ms:Á M),(ϧb).length=ό
 | []=>rfl|m::ms=>by exact(ϧb).length+1=_;rw[LR ms];rfl
theorem ϭd:∀{ms:Á M}{vs:Á V}{L:Ft},(∀m∈ms,∀v L1,(∀q,L1 q->L q)->xD K G H m v L1->zd K G' şi v)->Ľ K G H ms vs L->á K G' ϧb vs
 | [],_,_,_,h=>h.1|m::ms,vs,L,f,h=>by let{v,r,L1,k,e,i,d,j,u}:=h;show{v,r,e,f m ŉ v L1 ák i,ϭd (λa c b g s o=>f a (Õa _ c) b g Řj o) d}
theorem xD.u_(g:zh G G')(m:M):∀(v:V)(L:Ft),(∀q,L q->G' q=H q)->xD K G H m v L->zd K G' şi v:=by
 show Ϟf (P:=λm=>∀v L,(∀q,L q->G' q=H q)->xD K G H m v L->zd K G' şi v) ?_ ?_ ?_ ?_ ?_ m;rintro d v L h ⟨r,n⟩;show ça g;rintro d v L h ⟨p,rfl,o,u⟩;let c:=h p ņl;cases d with
 |lst ds=>let{a,e,r,l}:=o;show{p,a,rfl,Ŕa (ōa e),ça g,l}
 |dic E ds=>let{a,e,z,r,l}:=o;show{p,a,rfl,.inl (ōa e),z,ça g,l}
 |_=>show Ţb
 rintro x J w f v L h ⟨p,C,F,a,B,e,I,c,l,r,n,u⟩;show{p,C,F,a,e,I,(ċf).trans c,l,ϭd ıj r};rintro E w f v L h ⟨p,a,B,e,c,l,r,A,n,u⟩;show{p,a,e,.inl ((ċf).trans c),l,ϭd ıj r,by rw[LR];show A};rintro b w f v L h ⟨p,a,e,y,r,l⟩;let k:=ϭd (λm t j i s o=>f m t j i ïl o) r;cases b with
 |Å=>show{p,a,e,Ŕa (g _ _ y),k,by rw[LR];show l}|Ã=>show{p,a,e,vi g y,k,by rw[LR];show l}
theorem ěc{κ:Type}[ņb κ]{k:κ}{t:M}:∀{ks:Á κ}{ms:Á M}{vs:Á V}{L:Ft},Ľ K G H ms vs L->ź ks ms k=À t->
  ∃v1 L1,ź ks vs k=À v1/\xD K G H t v1 L1/\(∀q,L1 q->L q)/\∀{G' H':Hp}{m2:M}{L2:Ft},zh G G'->(∀q,L q->¬ L1 q->H' q=H q)->xD K G' H' m2 v1 L2->(∀q,L2 q->L q->L1 q)->Ľ K G' H' ħl vs ág
 | [],_,_,_,_,e=>by cases e|_::_,[],_,_,_,e=>by cases e|k'::ks,m::ms,vs,L,h,e=>by
  let{v,r,n,x,rfl,y,A,b,u}:=h;unfold ź at e;rw[Õo];refine{v,n,by unfold ź;rw[Ò c],y,λq z=>(ũ).mpr ťa,λ{G' H' m2 L2} g i p l=>?_};unfold uM;rw[Ò c];show{v,r,L2,x,rfl,p,?_,λq d a=>b q (l q d ((ũ).mpr (.inr a))) a,λq=>?_};show ϛa (λC _ F B s o=>ŧb g C F B λq z=>i q (Νa Ŏb) λw=>b q w Ŏb) A;rw[Ůo];rw[ϟo];rcases(u q).mp z with z|z;show ß z w;rw[İo];rw[ło];rintro(z|z);rw[İo];show .inl {(ũ).mpr Ōa,λw=>b q w z};rw[Ô c]at e;let{v1,L1,e1,E,j,f}:=ěc A e;refine{v1,L1,by unfold ź;rw[Ô c];show e1,E,λq z=>(ũ).mpr (.inr Ϣd),λ{G' H' m2 L2} g i p l=>?_};unfold uM;rw[Ô c];show{v,r,n,λq=>(x q/\¬ L1 q)\/L2 q,rfl,?_,f g (λq z w=>i q èc w) p (λq z w=>l q z ((ũ).mpr ϙb)),λq d a=>?_,λq=>?_}
  show y.loc g m v n λq z=>i q ąc λw=>b q z (j q w);rcases a with⟨a,_⟩|a;show b q d a;show b q d (j q (l q a ((ũ).mpr ói)));rw[Ůo];rw[ϟo];rcases(u q).mp z with z|z;rw[Ŭo];rintro(z|⟨z,w⟩|z);show .inl {(ũ).mpr ťa,λw=>b q z (j q w)};rw[űo]
#print a
def xh(K:Ð)(H:Hp):V->Á xH->V->È
 |v,[],u=>u=v|v,.at cs f::π,u=>∃p x C dx fs w,v=.ref p/\x∈cs/\ſ K ē x=À ïa/\H p=À Çb/\Ϛb f=À w/\xh K H w π u|v,.ky k::π,u=>∃p kvs w,v=.ref p/\H p=À Ń/\uC kvs k=À w/\xh K H w π u|v,.ix k::π,u=>∃p vs w,v=.ref p/\H p=À đf/\ź ŕn vs k=À w/\xh K H w π u
theorem OV{κ α:Type}[ņb κ][BEq κ][LawfulBEq κ]{k:κ}:∀{ks:Á κ}{vs:Á α},(Ěa).lookup k=ź ks vs k
 | [],_=>rfl|_::_,[]=>rfl|k'::ks,v::vs=>by
  rw[Ļa,Ňd];unfold ź;by_cases c:k'=k;subst c;rw[Ò rfl];simp;rw[Ô c];let:(k==k')=Ã:=by simpa using λz=>c ìd
  rw[this];show OV
theorem Fd{α:Type}{k:Sum Â Ç}:∀{ks:Á Ą} {vs:Á α},ź ks vs k=ĩ ks vs k
 | [],_=>by unfold ź ĩ;rfl|_::_,[]=>by unfold ź ĩ;rfl|k'::ks,v::vs=>by unfold ź ĩ;rw[äo];rw[ϛo];show Fd
section
variable{K:Ð}{G H G' H':Hp}
theorem Łf(s:zh H H'):∀{π:Á xH}{v u:V},xh K H v π u->xh K H' v π u
 | [],_,_,h=>h|.at cs f::π,_,_,h=>by let{p,x,C,c,j,w,e,g,i,a,l,r}:=h;show{p,x,C,c,j,w,e,g,i,s _ _ a,l,Łf s r}
 |.ky k::π,_,_,h=>by let{p,b,w,e,a,l,r}:=h;show{p,b,w,e,s _ _ a,l,Łf s r}
 |.ix k::π,_,_,h=>by let{p,d,w,e,a,l,r}:=h;show{p,d,w,e,s _ _ a,l,Łf s r}
theorem Ģb:∀{π:Á xH}{v u u':V},xh K H v π u->xh K H v π u'->u=u'
 | [],_,_,_,h,h'=>Õd h'.symm|.at cs f::π,_,_,_,h,h'=>by let{p,x,C,z,A,w,rfl,B,E,e,l,r}:=h;let{m,y,t,n,q,j,d,s,o,a,b,c}:=h';rw[Ño]
 |.ky k::π,_,_,_,h,h'=>by rw[Ēo]
 |.ix k::π,_,_,_,h,h'=>by rw[Ēo]
theorem ŀf:∀{π:Á xH}{s:xH}{v u:V},xh K H v (π++[s]) u->∃w,xh K H v π w/\xh K H w [s] u
 | [],_,v,_,h=>{v,rfl,h}|.at cs f::π,_,_,_,h=>by let{p,x,C,i,j,w,e,m,n,g,l,r}:=h;let{b,d,c}:=ŀf r;show{b,{p,x,C,i,j,w,e,m,n,g,l,d},c}
 |.ky k::π,_,_,_,h=>by rw[õo]
 |.ix k::π,_,_,_,h=>by rw[õo]
theorem Ęf{m1:M}(Y:zh G H):∀{π:Á xH}{m:M}{v:V}{L:Ft},xD K G H m v L->uH m π=À m1->
  ∃v1 L1,xh K H v π v1/\xD K G H m1 v1 L1/\(∀q,L1 q->L q)/\∀{G' H':Hp}{m2:M}{L2:Ft},zh G G'->(∀q,L q->¬ L1 q->H' q=H q)->xD K G' H' m2 v1 L2->(∀q,L2 q->L q->L1 q)->
   ∃m',u7 m π m2=À m'/\xD K G' H' m' v ág
 | [],m,v,L,h,e=>by
  cases e;show{v,L,rfl,h,λ_ z=>z,λ{G' H' m2 L2} g A I o=>{m2,rfl,?_}}
  let e:(λq=>(L q/\¬ L q)\/L2 q)=L2:=by
   funext q
   show Ôd {λz=>ģ (λw=>ß w.1 w.2) id,.inr}
  rw[e];show I
 |s::π,m,v,L,h,e=>by
  let{N,a,ee}:=zF e
  let S:∀{p:Í}{t L1 L2:Ft},¬ t p->(∀q,L q↔q=p\/t q)->(∀q,L1 q->t q)->(∀q,L2 q->L q->L1 q)->(¬ ((t p/\¬ L1 p)\/L2 p))/\∀q,((L q/\¬ L1 q)\/L2 q)↔q=p\/((t q/\¬ L1 q)\/L2 q):=λ{p t L1 L2} n u s o=>by show{?_,λq=>{?_,?_}};rintro(⟨z,_⟩|z);show n z;show n (s p (o p z ġe));rw[ϟo];rcases(u q).mp z with z|z;rw[Ŭo];rintro(rfl|⟨z,w⟩|z);show .inl {(ũ).mpr Ō,λw=>n (s q w)};rw[űo]
  cases m with
  |fz d=>cases a|own d=>cases a|obj x fs ms=>
   cases s with
   |ky k=>cases a|ix k=>cases a| «at» cs f=>
    change ÿj=À N at a
    by_cases hx:x∈cs;rw[Ò hx]at a;let{p,C,dx,J,t,rfl,ns,F,l,r,n,u}:=h;rw[Ïo];refine{v1,L1,{p,x,C,dx,_,W,rfl,hx,ns,F,by rw[OV];show e1,U},P,λq z=>(ũ).mpr ûl,λ{G' H' m2 L2} g A I o=>?_};let{m',Q,O}:=R g Ōj I ŋj
    let E:=X g Ĭj O Ŕj
    let eL:Õj=ųj:=by
     funext q
     rw[Áo];rw[Îo]
    rw[źo];refine{.obj x fs (uM fs ms f m'),by exact(Ϥc ÿj _)=_;rw[Ò hx,a];rw[Ĳo],p,C,dx,J,_,rfl,ns,?_,l,E,Z,f4};rw[A p ġe λw=>n Òm];show F;rw[Ô hx]at a;cases a
  |tab ks ms=>
   cases s with
   | «at» cs f=>cases a|ix k=>cases a|ky k=>
    change ź ks ms k=À N at a
    let{p,J,t,rfl,F,l,r,l2,n,u}:=h;rw[Ïo];refine{v1,L1,{p,_,W,rfl,F,by rw[ZT _ l,<-Fd];show e1,U},P,λq z=>(ũ).mpr ûl,λ{G' H' m2 L2} g A I o=>?_};let{m',Q,O}:=R g Ōj I ŋj
    let E:=X g Ĭj O Ŕj
    let eL:Õj=ųj:=by
     funext q
     rw[Áo];rw[Îo]
    rw[źo];refine{.tab ks (uM ks ms k m'),by exact(Ϥc (ź ks ms k) _)=_;rw[a];rw[Ĳo],p,J,_,rfl,?_,l,E,?_,Z,f4};rw[A p ġe λw=>n Òm];show F;rw[Kq];show l2
  |tp b ms=>
   cases s with
   | «at» cs f=>cases b<;>cases a|ky k=>cases b<;>cases a|ix k=>
    cases b with
    |Ã=>cases a|Å=>
    change ź Ϙd ms k=À N at a
    let{p,J,rfl,F,r,l}:=h;rw[Ïo];refine{v1,L1,{p,J,W,rfl,Y _ _ F,by rw[Ŷ];show e1,U},P,λq z=>i q Ϣd,λ{G' H' m2 L2} g A I o=>?_};let{m',Q,O}:=R g (λq z w=>A q (i q z) w) I (λq z w=>o q z (i q w))
    let E:=X g (λq z w=>A q z λy=>w Šf) O (χc (o q z w))
    let eL:(λq=>(L q/\¬ B q)\/((B q/\¬ L1 q)\/L2 q))=ág:=by
     funext q
     rw[Áo];rw[Îo]
    rw[eL]at E;show{.tp Å (uM Ϙd ms k m'),by exact(Ϥc (ź Ϙd ms k) _)=_;rw[a];rw[Ĳo],p,J,rfl,g _ _ F,E,by rw[Kq];show l}
#print a
abbrev zk:=Á ği
nonrec def ŭb:M->Ê Sl
 |.fz d=>À (Ã,d)|_=>Æ
def gt(β:zk):zx:=β.map λo=>Ŀi ŭb
def qk(β:zk):zx:=β.map λo=>ùa λm=>(Ã,wy m)
mutual
nonrec def wO:D->Ï
 |.zE=>Å|.bl _=>Å|.int _=>Å|.str _=>Å|.tup ds=>Ça ds|_=>Ã
nonrec def Ça:Á D->Ï
 | []=>Å|d::ds=>wO d&&Ça ds
end
def Od:D->Ï
 |.lst ds=>Ça ds|.dic _ ds=>Ça ds|_=>Ã
structure RS(K:Ð)(H0 G H:Hp)(β:zk)(σ:St)(Ls:Ä->Ft):È where
 at_:∀(i:Ä)(m:M),β[i]?=À ϣa->∃v,σ[i]?=À ŧ/\xD K G H m v ūi
 dj:∀(i j:Ä)(q:Í),i≠j->Ls i q->Ls j q->ê
 ok:∀(i:Ä)(q:Í),Ls i q->G q=Æ/\H0 q=Æ/\Bx H q
structure zl(K:Ð)(n:Ä)(P:Á V)(G0 H0 G H:Hp)(β:zk)(σ:St):È where
 ext:zV G0 H0 G H
 l1:σ.length=n
 l2:β.length=n
 lp:ċa<=n
 pin:∀(i:Ä)(v:V),P[i]?=À v->σ[i]?=À ŧ
 own:∃Ls,RS K H0 G H β σ Ls
section
variable{K:Ð}{n:Ä}{P:Á V}{G0 H0 G H G' H':Hp}{β:zk}{σ:St}
def IF{q:Í}(x:zV G H G' H')(g:G q=Æ)(b:Bx H q):G' q=Æ/\Bx H' q:=by
 let{u,e,c}:=b;show{?_,u,x.h _ _ e,c};cases z:G' q with
 |Æ=>rfl|À o=>rcases īb q (by rw[z];show λw=>nomatch w)with w|w;show ß g w;rw[e]at w;cases w
def zl.go(E:zl K n P G0 H0 G H β σ)(x:zV G H G' H'):zl K n P G0 H0 G' H' β σ:=by let{j,F}:=ϗ;show{Śm x,Ė,č,œ,Èa,j,λi m h=>?_,Ŝ,λi q z=>?_};let{v,e,o}:=ϓ i m h;show{v,e,ŧb x.g m v _ λq z=>?_};let{u,d,_}:=ϑa.2.2;rw[d];show x.h _ _ d;rw[Ĵo];let{f,k}:=IF x a c;show{f,b,k}
def sN{i:Ä}{b:Ï}{d:D}(h:ϣd[i]?=À Ϧc):b=Ã/\β[i]?=À (À īc):=by
 unfold gt at h;rw[Ş]at h;cases e:β[i]? with
 |Æ=>rw[e]at h;cases h|À o=>
  rw[e]at h;cases o with
  |Æ=>cases h|À m=>
   cases m with
   |fz d'=>cases h;show{rfl,rfl}|_=>cases h
def y50{i:Ä}{b:Ï}{d:D}(h:Ϸc[i]?=À Ϧc):b=Ã/\∃m,β[i]?=À ϣa/\d=wy m:=by
 unfold qk at h;rw[Ş]at h;cases e:β[i]? with
 |Æ=>rw[e]at h;cases h|À o=>
  rw[e]at h;cases o with
  |Æ=>cases h|À m=>cases h;show{rfl,m,rfl,rfl}
def Ak{τ:zx}(s:zh G H)(a:σ.length=n)(f:τ.length=n)(h:∀(i:Ä)(b:Ï)(d:D),τ[i]?=À Ϧc->b=Ã/\∃v,σ[i]?=À ŧ/\zd K G d v):zu K n G H G H τ σ:=
 {ĺa s,a,f,λi d e=>(h i Ã d e).2,λi d e=>(by cases(h i Å d e).1),λi j d e p _ c=>(by cases(h i Å d c).1)}
def zl.Ug(E:zl K n P G0 H0 G H β σ):zu K n G H G H ϣd σ:=by
 let{c,F}:=ϗ;refine Ak ύ Ė (by unfold gt;rw[æ];show č) λi b d h=>?_
 let{rfl,a}:=sN h;let{v,e,r,_}:=ϓ i _ a;show{rfl,v,e,r}
def mT{b c:Hp}{L:Ft}(i:∀q,¬ L q->c q=b q)(g:∀q,L q->Bx b q){a:Í}{vs:Á V}(h:xE K b a vs):xE K c a vs:=by
 let k:∀{u:HO},Dq u=Ã->b a=À u->c a=À u:=λ{u} j e=>by rw[i a λz=>?_];show e;let{w,d,f}:=g a z;rw[e]at d;cases d;rw[j]at f;cases f
 rcases h with h|h;rcases h with h|⟨o,h⟩;show .inl (.inl (k rfl h));show .inl (.inr {o,k rfl h});show .inr h
def AR{g j:Hp}{L:Ft}(w:∀q,¬ L q->j q=g q)(o:∀q,L q->Bx g q)(d:D):∀(v:V),wO d=Å->zd K g d v->zd K j d v:=by
 show ŏc (P:=λd=>∀v,wO d=Å->zd K g d v->zd K j d v) (λv _ h=>h) (λb v _ h=>h) (λi v _ h=>h) (λx v _ h=>h) ?_ (λc f v t=>by cases t) (λA c f v t=>by cases t) (λx v t=>by cases t) (λx B c f v t=>by cases t) d;rintro c f v t ⟨a,n,e,q,r,l⟩;show{a,n,e,mT w o q,?_,l};let p:Ça c=Å:=t;clear t q l
 induction c generalizing n with
 |nil=>show r|ú x c ih2=>let{u,m,rfl,y,s}:=r;let k:(wO x&&Ça c)=Å:=p;rw[ø]at k;show{u,m,rfl,f x ŉ u k.1 y,ih2 (λd z=>f d Ąf) m s k.2}
theorem AS{a c:Hp}{L:Ft}(f:∀q,¬ L q->c q=a q)(e:∀q,L q->Bx a q):∀{ds:Á D}{vs:Á V},Ça ds=Å->á K a ds vs->á K c ds vs
 | [],_,_,r=>r|d::ds,_,t,r=>by let{u,h,rfl,i,g}:=r;let b:Ϙg=Å:=t;rw[ø]at b;show{u,h,rfl,AR f e d u b.1 i,AS f e b.2 g}
theorem zl.u_(E:zl K n P G0 H0 G H β σ):∃G1,zu K n G1 H G1 H Ϸc σ/\∀G2 H2,zV G1 H G2 H2->∃G3,zV G H G3 H2/\zl K n P G0 H0 G3 H2 β σ/\(∀d v,wO d=Å->zd K G2 d v->zd K G3 d v)/\(∀ds vs,Ça ds=Å->á K G2 ds vs->á K G3 ds vs)/\∀q,G2 q=Æ->G3 q=Æ:=by
 classical
 let{y,F}:=ϗ
 let +zeta L:Ft:=λq=>∃i,y i q
 let k:∀q,L q->G q=Æ:=λq ⟨i,z⟩=>ϑa.1
 let A:∀q,L q->Bx H q:=λq ⟨i,z⟩=>ϑa.2.2
 let +zeta G1:Hp:=λq=>if L q then H q else G q
 let e1:∀q,L q->G1 q=H q:=λq z=>Ò z
 let e2:∀q,¬ L q->G1 q=G q:=λq z=>Ô z
 let j:zh G G1:=λq o e=>by rw[e2 q λz=>by rw[k q z]at e;cases e];show e
 let B:zh G1 H:=λq o e=>by rw[ÿo];rw[e1 q c]at e;show e;rw[e2 q c]at e;show ύ _ _ e
 refine{G1,Ak B Ė (by unfold qk;rw[æ];show č) λi b d h=>?_,λG2 H2 x=>?_};let{rfl,m,C,rfl}:=y50 h;let{v,e,o}:=ϓ i m C;show{rfl,v,e,o.u_ j m v _ λq z=>e1 q {i,z}};let +zeta G3:Hp:=λq=>if L q then Æ else G2 q
 let a:∀q,¬ L q->G3 q=G2 q:=λq z=>Ô z
 let f:∀q,L q->G3 q=Æ:=λq z=>Ò z
 let l:∀q,L q->Bx G2 q:=λq z=>by let{u,s,c}:=A q z;show{u,x.g _ _ ((e1 q z).trans s),c}
 let p:zV G H G3 H2:=by
  show{λq o e=>?_,x.h,λq o e=>?_,λq z=>?_};let c:¬ L q:=λz=>by rw[k q z]at e;cases e
  rw[a q c];show x.g _ _ ϐn;rw[ÿo];rw[f q c]at e;cases e;rw[a q c]at e;show Ĳa _ _ e;rw[ÿo];rw[f q c]at z;show ß rfl z;rw[a q c]at z;rcases īb q z with w|w;rw[e2 q c]at w;show .inl w;show .inr w
 show{G3,p,Ϲ p,λd v t r=>AR a l d v t r,λds vs t r=>AS a l t r,λq z=>?_};rw[ÿo];show f q c;rw[a q c];show z
def ZO{α:Type}{xs:Á α}{x y:α}{i:Ä}(h:ϓh[i]?=À y):(i<ä/\xs[i]?=À y)\/(i=ä/\y=x):=by
 rcases Nat.lt_or_ge i ä with c|c;rw[éb c]at h;show .inl {c,h};rw[âc c]at h;cases z:i-ä with
 |ϛ=>rw[z]at h;cases h;show .inr {by omega,rfl}|Ϝ k=>rw[z]at h;cases h
def uA{α:Type}{xs:Á α}{x:α}{n:Ä}(h:ä=n):ϓh[n]?=À x:=by subst h;rw[âc Ę,Ţd];rfl
def wB{α:Type}{xs:Á α}{x:α}{i:Ä}(h:i<ä):ϓh[i]?=xs[i]?:=éb h
def zl.push{m:M}{v:V}{L:Ft}(E:zl K n P G0 H0 G H β σ)(o:xD K G H m v L)(l:∀Ls,RS K H0 G H β σ Ls->∀i q,Ls i q->L q->ê)(k:∀q,L q->G q=Æ/\H0 q=Æ/\Bx H q):zl K ĸ P G0 H0 G H đc ìa:=by
 let{Ls,F}:=ϗ;let f:=l Ls F;refine{ũb,by rw[ĥo],by rw[šo],by rw[Ňo],λi u h=>?_,λj=>if j<n then Ls j else if j=n then L else λ_=>ê,λi g h=>?_,λi j q d b a=>?_,λi q z=>?_};let r:i<σ.length:=by rw[Êo]
 rw[wB r];show Èa i u h;rcases ZO h with⟨c,e⟩|⟨c,e⟩;rw[č]at c;let{u,s,p}:=ϓ i g e;refine{u,by rw[ϝo];show s,?_};rw[Ŕo];show p;cases e;rw[č]at c;subst c;show{v,uA Ė,?_};simp only[ſa,Ŧ,Ň];show o;skip
 rw[ŕo];show Ŝ i j q d b a;rw[Òo];show f i q b a;show a;rw[ŕo];show f j q a b;rw[Ϝo];skip
 rw[ão];show Ϙ i q z;rw[ão];show k q z;show ģ
def zl.gQ{d:D}{v:V}(E:zl K n P G0 H0 G H β σ)(r:zd K G d v):zl K ĸ P G0 H0 G H ŭg ìa:=
 E.push (L:=λ_=>ê) {r,λ_ z=>z} (λ_ _ _ _ _ z=>z) λ_ z=>ģ
def zl.Mi{d:D}{p:Í}(E:zl K n P G0 H0 G H β σ)(x:zV G H G' H')(t:H p=Æ)(y:G' p=Æ)(o:wM K G' H' d p):zl K ĸ P G0 H0 G' H' ğk Ŭg:=by
 let{v,F}:=ϗ;let J:=Ϲ x;show{?_,?_,?_,?_,?_,?_}<;>try first|show J.ext|show(by rw[ĥo])|show(by rw[šo])
 rw[Ňo];intro i u h
 let B:i<σ.length:=by rw[Êo]
 rw[wB B];show Èa i u h;let l:∀i q,v i q->q≠p:=λi q z c=>by subst c;show ϑa.2.2.some t
 show{λj=>if j<n then v j else if j=n then(λq=>q=p)else λ_=>ê,λi m h=>?_,λi j q r k f=>?_,λi q z=>?_};rcases ZO h with⟨c,e⟩|⟨c,e⟩;rw[č]at c;let{u,I,A}:=ϓ i m e;refine{u,by rw[ϝo];show I,?_};rw[Ŕo];show A.loc x.g m u _ λq z=>?_
 rw[īo];show{p,rfl,o,λq=>äa};skip
 split at k;rw[Ăo];show Ŝ i j q r k f;rw[Ăo];show l i q k f;show f;split at k;rw[Ăo];show l j q f k;rw[Ăo];show r É;show f;show k;skip
 rw[ão];rw[Ĵo];let{C,L}:=IF x a c;show{C,b,L};rw[ão];subst z;show{y,Ŧd t,o.bx};show ģ
def zl.Ps{m:M}{v:V}{i:Ä}(s:i<n)(r:ċa<=i)(d:σ.length=n)(b:β.length=n)(E:zl K ĸ P G0 H0 G H đc ìa):zl K n P G0 H0 G H Žh Ϙc:=by
 let{o,F}:=ϗ;refine{ũb,by rw[Ϻ];show d,by rw[Ϻ];show b,by omega,λj u h=>?_,λj=>if j=i then o n else if j<n then o j else λ_=>ê,λj p h=>?_,λj k q e c a=>?_,λj q z=>?_};let l:j<ċa:=åa.1;rw[qV É];let:=Èa j u h;rw[Ĺo];rcases vO h with⟨rfl,w⟩|⟨e,w⟩;cases w;let{u,f,g}:=ϓ n _ (uA b);rw[uA d]at f;cases f;simp only[Ň];show{v,Y7 É,g};have l:j<n:=by rw[<-b];show(Ł w).1
 let{u,f,g}:=ϓ j p ëk;rw[wB É]at f;simp only[Ô e,Ò l];show{u,by rw[qV e];show f,g};skip
 split at c;rw[Òo];show e É;rw[Òo];show Ŝ n k q É c a;show a;split at c;rw[Òo];show Ŝ j n q É c a;rw[Òo];show Ŝ j k q e c a;show a;show c;skip
 rw[ão];show Ϙ n q z;rw[ão];show Ϙ j q z;show ģ
def zl.pop{m:Ê M}{v:Ê V}(b:σ.length=n)(a:β.length=n)(f:ċa<=n)(E:zl K ĸ P G0 H0 G H Ĉf ćf):zl K n P G0 H0 G H β σ:=by
 let{e,F}:=ϗ;show{ũb,b,a,f,λj u h=>?_,e,λj d h=>?_,Ŝ,Ϙ};let i:j<ċa:=åa.1;let:=Èa j u h;rw[Ĺo];have i:j<n:=by rw[<-a];show åa.1
 let{u,c,g}:=ϓ j d (by rw[wB É];show h);rw[wB É]at c;show{u,c,g}
#print a
inductive Zv where
 |nx (β:zk)|rt (m:M) (β:zk)|bk (β:zk)|ct (β:zk)
abbrev yU:=zk->Ê Zv
abbrev xC:=zk->Ê (M×zk)
abbrev V2:=zk->Ê (Ï×zk)
def W_(K:Ð)(n:Ä)(P:Á V)(a b:Hp)(E:uF):Zv->È
 |.nx β=>∀σ G H,zl K n P a b G H β σ->E.nx σ H|.bk β=>∀σ G H,zl K n P a b G H β σ->E.bk σ H|.ct β=>∀σ G H,zl K n P a b G H β σ->E.ct σ H|.rt m β=>∀σ v G H,zl K ĸ P a b G H đc ìa->E.rt v H
section
variable(X:Cx)
structure MC(e:Ó)(f:xC):È where
 h:∃t,PE X e t/\∀{P:Á V}{G0 H0 G H:Hp}{β β':zk}{σ:St}{m:M}{Q:VK},zl X.K ô P G0 H0 G H β σ->f β=À (m,β')->(∀v G' H',zh G G'->zl X.K Ĝi P G0 H0 G' H' ϗg ìa->Q v H')->t σ H Q
structure MT(e:Ó)(f:V2):È where
 h:∃t,PT X e t/\∀{P:Á V}{G0 H0 G H:Hp}{β β':zk}{σ:St}{b:Ï}{Q:Ï->Hp->È},zl X.K ô P G0 H0 G H β σ->f β=À (b,β')->(∀G' H',zh G G'->zl X.K ô P G0 H0 G' H' β' σ->Q b H')->t σ H Q
structure MS(np:Ä)(st:Ù)(f:yU):È where
 h:∃t,PS X st t/\∀{P:Á V}{G0 H0 G H:Hp}{β:zk}{σ:St}{fl:Zv}{E:uF},ċa=np->zl X.K ô P G0 H0 G H β σ->f β=À fl->W_ X.K ô P G0 H0 E fl->t E σ H
structure jJ(np:Ä)(st:Á Ù)(f:yU):È where
 h:∃t,uf X st t/\∀{P:Á V}{G0 H0 G H:Hp}{β:zk}{σ:St}{fl:Zv}{E:uF},ċa=np->zl X.K ô P G0 H0 G H β σ->f β=À fl->W_ X.K ô P G0 H0 E fl->t E σ H
#print a
section
variable{K:Ð}{n:Ä}{P:Á V}{G0 H0 G H G':Hp}{β:zk}{σ:St}{m:M}{v:V}{d:D}
def zl.Za{m:Ê M}{v:Ê V}(E:zl K ĸ P G0 H0 G H Ĉf ćf):σ.length=n:=by let:=Ė;rw[Ă]at this;show Ŧc this
def zl.ux{m:Ê M}{v:Ê V}(E:zl K ĸ P G0 H0 G H Ĉf ćf):β.length=n:=by let:=č;rw[Ă]at this;show Ŧc this
def zl.gO(E:zl K ĸ P G0 H0 G H ŭg ìa):zd K G d v:=by let{b,F}:=ϗ;let{u,a,r,_}:=ϓ n _ ĉf;rw[uA ŕc]at a;cases a;show r
def zl.Zd{i:Ä}(E:zl K n P G0 H0 G H β σ)(a:i<n)(b:ċa<=i)(r:zd K G d v):zl K n P G0 H0 G H Ĝl Ϙc:=(E.gQ r).Ps a b Ė č
theorem zl.kY(E:zl K n P G0 H0 G H β σ):zl K n P G H0 G H β σ:={E.ext.kY,Ė,č,œ,Èa,ϗ}
def zl.near{b c:Hp}(a:zV G0 H0 b c)(E:zl K n P b H0 G H β σ):zl K n P G0 H0 G H β σ:={a.rebase ũb,Ė,č,œ,Èa,ϗ}
theorem W_.near{b c:Hp}{E:uF}{a:Zv}(x:zV G0 H0 b c)(h:W_ K n P G0 H0 E a):W_ K n P b H0 E a:=by
 cases a with
 |nx τ=>show λσ G H z=>h σ G H ϡe|bk τ=>show λσ G H z=>h σ G H ϡe|ct τ=>show λσ G H z=>h σ G H ϡe|rt m β=>show λσ v G H z=>h σ v G H ϡe
def zl.iM{Ls:Ä->Ft}(E:zl K ĸ P G0 H0 G H ğk ìa):∃G',zh G G'/\zl K ĸ P G0 H0 G' H ŭg ìa:=by let{Ls,F}:=ϗ;let{u,f,p,rfl,o,s}:=ϓ n _ ĉf;rw[uA ŕc]at f;cases f;let{g,B,J}:=Ϙ n p ((s p).mpr rfl);let{w,A,r}:=o.yD g;let t:zh G (zU G p w):=wY g w;let k:∀(i:Ä)(v:V),P[i]?=À v->(σ++[À (Ħb p)])[i]?=À ŧ:=Èa;refine{zU G p w,t,ϸh B g A,Ė,by rw[Ă,Ùc];rfl,œ,k,λj=>if j<n then Ls j else λ_=>ê,λi x h=>?_,λi j q y m l=>?_,λi q z=>?_};rcases ZO h with⟨c,e⟩|⟨c,e⟩;rw[Ùc]at c;let{u,f,I}:=ϓ i x (by rw[wB (by rw[Ùc];show c)];show e);show{u,f,?_};simp only[Ò c];show èa t x u _ λq z=>rfl;cases e;rw[Ùc]at c;subst c;show{_,uA ŕc,?_};simp only[ſa,Ŧ];show{r,λ_ z=>z};split at m;split at l;show Ŝ i j q y m l;show l;show m;split at z;rename_i c;let{a,b,C}:=Ϙ i q z;show{?_,b,C};rw[zt λe=>?_];show a;subst e;show Ŝ i n q É z ((s q).mpr rfl);show ģ
#print a
def yt(f:FE):xC:=λβ=>(Įi).bind λd=>À (.fz d,β)
def wv(f:FE):xC:=λβ=>(Ţf).bind λd=>match wO d with
 |Å=>À (.fz d,β)|Ã=>Æ
def jr(f:FE):xC:=λβ=>(Įi).bind λd=>À (.own d,β)
def Tt(f:FE):xC:=λβ=>(Ţf).bind λd=>match Od d with
 |Å=>À (.own d,β)|Ã=>Æ
nonrec def Tr(f:xC):xC:=λβ=>(ĥb).bind λr=>match r with
 |(.own d,β')=>À (.fz d,β')|r=>À r
def vq(f:FT):V2:=λβ=>(Ţf).bind λb=>À (b,β)
nonrec def uG:M->Ê D
 |.fz d=>À d|_=>Æ
def To(F:D->D->Ê D)(f g:xC):xC:=λβ=>(ĥb).bind λr=>(œb).bind λx=>(g r.2).bind λa=>(uG a.1).bind λy=>(ĳi).bind λz=>À (.fz z,a.2)
def NE(f:xC):V2:=λβ=>(ĥb).bind λr=>(œb).bind λx=>(ώf).bind λb=>À (b,r.2)
def jO{m:M}{d:D}(h:uG m=À d):m=.fz d:=by
 cases m with
 |fz d'=>cases h;rfl|_=>cases h
section
variable{X:Cx}{x:Ç}{p pos:Pos}{e a b:Ó}{f:FE}{ft:FT}{F:D->D->Ê D}{r:R2}{g g':xC}{u:V2}
def xG(h:SE X e f):MC X e (yt f):=by rw[Äo];let{d,i,a}:=zF a;cases a;show k E.Ug i λv b c x r=>q v b c x.g ((Ϲ x).gQ r)
def vh(h:SE X e f):MC X e (wv f):=by
 rw[Äo];let{d,o,a}:=zF a;cases c:wO d with
 |Ã=>rw[c]at a;cases a|Å=>
  rw[c]at a;cases a;let{s,l,ϔ}:=E.u_;show k l o λv u n x r=>?_
  let{b,j,m,i,_}:=ϔ _ _ x;show q v b n j.g (m.gQ (i d v c r))
def ZB(h:SF X e f):MC X e (jr f):=by rw[Äo];let{d,l,a}:=zF a;cases a;show k E.Ug l λp b j x c i o=>q _ b j x.g (E.Mi x c i o)
def z2i{K:Ð}{G b H:Hp}{d:D}{p:Í}(a:∀ds vs,Ça ds=Å->á K G ds vs->á K b ds vs)(c:Od d=Å)(o:wM K G H d p):wM K b H d p:=by
 cases d with
 |lst ds=>let{vs,e,r,l}:=o;show{vs,e,a _ _ c r,l}
 |dic ks ds=>let{vs,e,z,r,l}:=o;show{vs,e,z,a _ _ c r,l}
 |_=>show Ţb
def EM(h:SF X e f):MC X e (Tt f):=by
 rw[Äo];let{d,u,a}:=zF a;cases c:Od d with
 |Ã=>rw[c]at a;cases a|Å=>
  rw[c]at a;cases a;let{v,n,ϔ}:=E.u_;show k n u λp w s x r j o=>?_
  let{l,b,y,_,i,m}:=ϔ _ _ x;show q _ l s b.g (E.Mi b r (m p j) (z2i i c o))
def EL(h:MC X e g):MC X e (Tr g):=by
 rw[Äo];rw[ąo];cases m with
 |own d=>
  cases a;show k E b λv n l s i=>?_
  let{c,j,f}:=zl.iM (Ls:=λ_ _=>ê) i;show q v c l (ûi j) f
 |_=>cases a;show k E b q
def uK(h:ST X e ft):MT X e (vq ft):=by
 rw[Äo];let{b,d,a}:=zF a;cases a;let{m,i,ϔ}:=E.u_;show k i d λn l x=>?_
 let{c,f,j,_}:=ϔ _ _ x;show q c l f.g j
def zl.down{K:Ð}{n:Ä}{P:Á V}{b a G H:Hp}{β:zk}{σ:St}{m:Ê M}{v:Ê V}(c:ċa<=n)(E:zl K ĸ P b a G H Ĉf ćf):zl K n P b a G H β σ:=E.pop ŕc Ùc c
def z26{i:õe}(y:ye X (Ía i) r)(Q:jL X.K r F)(t:MC X a g)(I:MC X b g')(R:ϑb i b=Ã):MT X ϻj (NE (To F g g')):=by
 let{T,p,G}:=t.h;let{tb,P,o}:=I.h;show{{_,G8 y p P R,λE d q=>?_}};obtain⟨⟨m3,β3⟩,c,d⟩:=zF d;let{d3,B,d}:=zF d;cases jO B;let{Y,f,d}:=zF d;cases d;obtain⟨⟨S,β1⟩,O,c⟩:=zF c;let{N,e1,c}:=zF c;cases jO e1;obtain⟨⟨U,β2⟩,J,c⟩:=zF c;let{C,e2,c}:=zF c;cases jO e2;let{z,n,c}:=zF c;cases c;show G E O λv Z W x j=>?_
 let u:=j.gO;show o (j.down œ) J λw H A m l=>?_
 let s:=l.gO;let e:=l.down œ;let{k,rfl,L}:=Q A N C v w _ _ ((u.mono m).mono e.ext.gh) (Ùe e.ext.gh) n;cases f;show L {_,rfl,q H _ (Ód m) e}
#print a
nonrec def t_:yU:=λβ=>À (.nx β)
nonrec def yO(a b:yU):yU:=λβ=>(a β).bind λf=>match f with
 |.nx β'=>b β'|f=>À f
nonrec def vg(c:V2)(a b:yU):yU:=λβ=>(c β).bind λr=>match r.1 with
 |Å=>a r.2|Ã=>b r.2
nonrec def jW(f:xC):yU:=λβ=>(ĥb).bind λr=>À (.rt r.1 r.2)
nonrec def qY(f:xC):yU:=λβ=>(ĥb).bind λr=>À (.nx r.2)
nonrec def wx(i:Ä)(f:xC):yU:=λβ=>(ĥb).bind λr=>À (.nx (r.2.set i (À r.1)))
abbrev MG:=D->zk->Ê zk
nonrec def p8(i:Ä):MG:=λd β=>À Ĝl
nonrec def jz(i j:Ä):MG:=λd β=>match d with
 |.tup ćd=>À êj|_=>Æ
nonrec def vW(g:MG)(b:yU):Á D->zk->Ê Zv
 | [],β=>À (.nx β)|d::r,β=>(g d β).bind λβ1=>(Ĳi).bind λf=>match f with
  |.nx β2=>vW g b r β2|.ct β2=>vW g b r β2|.bk β2=>À ϝa|.rt m β2=>À ϣm
def Vj(it:FA)(g:MG)(b:yU):yU:=λβ=>(it ϣd).bind λa=>vW g b a β
section
variable{X:Cx}{np:Ä}{x:Ç}{p pos Ża:Pos}{e c tg ű:Ó}{st:Ù}{sts Öc:Á Ù}{f g:yU}{h:xC}{u:V2}{fs:FA}
def pC:jJ X np [] t_:={{_,cO,λ{P c d G H β σ b E} _ K a q=>by cases a;show q σ G H K}}
def yR(b:MS X np st f)(e:jJ X np sts g):jJ X np ϋn (yO f g):=by
 let{t,p,k}:=b.h;let{u,i,m}:=e.h;show{{_,cN p i,λ{P w r G H β σ n E} c K a q=>?_}};let{l,b,a}:=zF a;show k c K b ?_;cases l with
 |nx τ'=>show λσ' s v j=>m c j a q|bk τ'=>cases a;show q|ct τ'=>cases a;show q|rt o d=>cases a;show q
def ya(a:MS X np st f):jJ X np [st] f:={let ⟨t,p,k⟩:=a.h;{t,cP p,k}}
def u4{b i:Á Ù}(r:MT X c u)(p:jJ X np b f)(l:jJ X np i g):MS X np (.If c b i pos) (vg u f g):=by
 let{w,t,s}:=r.h;let{x,o,j}:=p.h;let{C,v,n}:=l.h;show{{_,cK t o v,λ{P F A G H β σ y E} e K a q=>?_}};obtain⟨⟨k,β1⟩,m,a⟩:=zF a;show s K m λz B _ d=>?_
 cases k with
 |Å=>show gw (j e d a q)|Ã=>show gv (n e d a q)
def k5(c:MC X e h):MS X np Ĺe (jW h):=by let{t,p,k}:=c.h;show{{_,Ou p,λ{P n i G H β σ f E} g K a q=>?_}};rw[ąo];cases a;show k K b λv j l _ d=>q _ v _ _ d
def jB(c:MC X e h)(f:Î Ţj q12):MS X np Íh (qY h):=by let{t,p,k}:=c.h;show{{_,cI p f,λ{P o j G H β σ g E} i K a q=>?_}};rw[ąo];cases a;show k K b λv l n _ d=>q _ _ _ (d.down Ôa)
def vL{i:Ä}{x:Ç}{Ża:Pos}(d:ßa)(c:X.N[i]?=À x)(l:qO Ϟ x)(o:np<=i)(g:MC X e h)(j:Î žd q12)(a:Î Ėa q7) :MS X np Ġd (wx i h):=by let{t,p,k}:=g.h;show{{_,(GO d c l {p} j a).h,λ{P y s G H β σ n E} r K a q=>?_}};obtain⟨⟨m,β1⟩,f,a⟩:=zF a;cases a;show k K f λv u w _ b=>q _ _ _ (b.Ps řf.1 É b.Za b.ux)
structure TJ(X:Cx)(np:Ä)(tg:Ó)(fg:MG):È where
 h:∃t,PG X tg t/\∀{P:Á V}{G0 H0 G H:Hp}{β β':zk}{σ:St}{d:D}{v:V}{Q:St->Hp->È},ċa=np->zl X.K ô P G0 H0 G H β σ->zd X.K G d v->fg d β=À β'->(∀σ',zl X.K ô P G0 H0 G H β' σ'->Q σ' H)->t v σ H Q
def bQ{i:Ä}{x:Ç}(h:QG X ϻ Ĥb)(a:X.N[i]?=À x)(c:np<=i):TJ X np ϻ (p8 i):={{_,h.h,λd K r b q=>by cases b;show q _ (K.Zd ġi.1 É r)}}
def Oa{i j:Ä}{x y:Ç}{p1 p2:Pos}{kk:Ä}(h:QG X Ĉe ċe)(m:X.N[i]?=À x)(g:X.N[j]?=À y)(p:np<=i)(C:np<=j):TJ X np Ĉe (jz i j):=⟨⟨_,h.h,λ{P B u G H β β' σ d v Q} s K r b q=>by
 unfold jz at b
 rw[Ĉo];rename_i w A;cases b;let{a,z,rfl,c,{k,t,rfl,o,{l,e,rfl,f,n}},_}:=r;rw[éo];show q _ ((K.Zd Ġi.1 É o).Zd Řf.1 É f);cases b⟩⟩
def Ob{c:MG}(Q:ϵc ù X.A Ö ĥ)(O:Š=Å)(hi:SI X tg ű fs)(hg:TJ X np tg c)(Z:jJ X np Öc g)(hs:Î (∀x,îb ű Ö x=pure x) q11):MS X np æg (Vj fs c g):=by
 let{ti,F,U}:=hi.h;let{tg',W,S}:=hg.h;let{tb,pb,C}:=Z.h;show{{_,G7 Q O F W pb hs,λ{P G0 r G H τ σ u E} p K a q=>?_}};let{b,T,a}:=zF a;show U K.Ug T λJ j Ha Y _ k=>?_
 let t:=Ϭ Y;let n:=W_.near t.ext q;show{λi m σ H=>m=ŵ-i/\i<=ŵ/\∃τ G,zl X.K ô P j r G H τ σ/\vW c g či τ=À u,{ŵ,rfl,Ϡ _,τ,j,t.kY,a},?_};rw[đo];show .inr {k.go i G H śb Ãa hlt,λσ' f=>∃τ G,zl X.K ô P j r G f τ σ'/\vW c g Źh τ=À u,λσ' f z=>{ŵ-õ,ļe _ _ hlt,rfl,hlt,z},λx f y=>?_};rw[Åo];let{L,h2,a}:=zF a;show S p Ďi rd h1 λσ1 B=>C p B h2 ?_
 cases L with
 |nx τ2=>show λσ2 o R l=>{τ2,o,l,a}|ct τ2=>show λσ2 o R l=>{τ2,o,l,a}|bk τ2=>cases a;show n|rt m β=>cases a;show n
 let e:i=ŵ:=by omega
 subst e;rw[ãl]at a;cases a;show .inl {k.stop _ G H śb Ãa Ę,n _ _ _ K}
#print a
def qb(β:zk)(i:Ä)(π:Á xH):Ê M:=match β[i]? with
 |À ϣa=>uH m π|_=>Æ
def Ġb(β:zk)(i:Ä)(π:Á xH)(m2:M):Ê zk:=match β[i]? with
 |À ϣa=>(ďm).bind λa=>À ϯl|_=>Æ
def g7{β:zk}{i:Ä}{π:Á xH}{a:M}(h:qb β i π=À a):∃m,β[i]?=À ϣa/\uH m π=À a:=by
 unfold qb at h
 split at h;rename_i m e;show{m,e,h};cases h
def YK{β:zk}{i:Ä}{π:Á xH}{m a m2:M}(h:β[i]?=À ϣa)(e:u7 m π m2=À a):Ġb β i π m2=À ϯl:=by unfold Ġb;rw[h];exact(ďm).bind _=_;rw[e];rfl
def wt(K:Ð)(a:Á Ç)(f:Ç):È:=∀x∈a,∀C,ſ K ē x=À ïa->t4 K C/\Zx K C f
structure SP(X:Cx)(e:Ó)(i:Ä)(π:Á xH):È where
 h:∃t,PE X e t/\∀{σ:St}{H:Hp}{v u:V}{Q:VK},σ[i]?=À ŧ->xh X.K H v π u->Q u H->t σ H Q
section
variable{X:Cx}{x f:Ç}{p pos:Pos}{e:Ó}{i:Ä}{π:Á xH}{cs:Á Ç}
def yS(i:Ä){x:Ç}{pos:Pos}(c:Î ϐb q12)(hv:Î Ϩb q14)(d:Î Ģ q10)(b:Î Śa q10):SP X ϻ i []:={{_,ZE c hv d b,λe a q=>by cases(show _=_ from a);show{_,e,q}}}
def tN(h:SP X e i π)(k:wt X.K cs f)(g:Î űj q12):SP X ŀe i (π++[.at cs f]):=by let{t,p,s}:=h.h;show{{_,b_ p g,λe a q=>?_}};let{w,o,b}:=ŉi;let{p,x,C,d,j,v,rfl,r,u,m,l,rfl}:=b;let{c,n}:=k x r C u;show s e o {p,C,d,j,_,rfl,m,c,n,l,q}
def nu{α:Type}:∀{vs:Á α}{s k:Ä},ź (ŕm s ö) vs (s+k)=vs[k]?:=λ{vs}=>by
 induction vs with
 |nil=>intro s k;rfl|ú v vs ih=>
  intro s k;rw[Ġ,ál];unfold ź;cases k with
  |ϛ=>show Ò rfl|Ϝ k=>rw[Ô É,show s+š=s+1+k by omega,ih];rfl
def ni{vs:Á V}{k:Ä}{w:V}(h:ź ŕn vs k=À w):qu vs (k:Â)=À w:=by rw[List.range_eq_range',show k=0+k by omega,nu]at h;let a:=åa.1;unfold qu ixN;rw[Ò Þd,Ò É];show h
def U2{k:Ä}{kk kp}(h:SP X e i π):SP X (.Subscript e (.Constant łb kk kp) pos) i (π++[.ix k]):=by let{t,p,g}:=h.h;show{{_,Vo ax p Ev (Vr rfl),λe a q=>?_}};let{w,d,b}:=ŉi;let{p,f,j,rfl,c,l,rfl}:=b;show g e d {p,f,(k:Â),_,rfl,rfl,Ŕa c,ni l,q}
def kJ{k:Ç}{kk kp}(h:SP X e i π):SP X (.Subscript e ĺe pos) i (π++[.ky ϩ]):=by let{t,p,g}:=h.h;show{{_,Vo aw p Vp (Vr rfl),λe a q=>?_}};let{w,f,c}:=ŉi;let{p,b,j,rfl,d,l,rfl}:=c;show g e f {p,b,.inr k,_,rfl,rfl,.inl d,l,q}
#print a
section
variable{K:Ð}{n:Ä}{P:Á V}{G0 H0 G H:Hp}{β:zk}{σ:St}
def zl.write{m S Q:M}{U:V}{i:Ä}{π:Á xH}(E:zl K ĸ P G0 H0 G H (β++[À Q]) (σ++[À U]))(hP:ċa<=n)(X:β[i]?=À ϣa)(ha:uH m π=À S) :∃r v1 L1 Lr,σ[i]?=À Ģi/\xh K H r π v1/\xD K G H S v1 L1/\xD K G H Q U Lr/\(∀q,L1 q->Lr q->ê)/\
   ∀{H':Hp}{m2:M}{L2:Ft},(∀q,¬ L1 q->H' q=H q)->xD K G H' m2 v1 L2->(∀q,L2 q->L1 q\/Lr q)->∃m',u7 m π m2=À m'/\zl K n P G0 H0 G H' (Θa (À m')) σ:=by
 let{t,F}:=ϗ;let x:=ŕc;let l:=Ùc;have hi:i<n:=by rw[<-l];show(Ł X).1
 let{r,O,Z}:=ϓ i m (by rw[wB É];show X);rw[wB É]at O;let{u,y,J}:=ϓ n Q (uA l);rw[uA x]at y;cases y;let{v1,L1,va,o1,s,re}:=Z.focus ύ ha;let N:∀q,L1 q->t n q->ê:=λq a b=>Ŝ i n q É (s q a) b
 show{r,v1,L1,t n,O,va,o1,J,N,λ{H' m2 L2} p T B=>?_}
 let{m',e',Y}:=re Ęi (λq _ z=>p q z) T (λq z w=>by rcases B q z with c|c;show c;show ß c λc=>Ŝ i n q É w c)
 let A:∀q,L1 q->G q=Æ/\H0 q=Æ:=λq z=>{ϭl.1,ϭl.2.1}
 show{m',e',{ŀc,λq o z=>?_,λq o z=>?_,Ċb},x,by rw[Ϻ];show l,hP,λj w h=>?_,λj=>if j=i then ŗj else if j<n then t j else λ_=>ê,λj W h=>?_,λj k q f e d=>?_,λj q z=>?_}
 .rw[p q λw=>by rw[(A q w).2]at z;cases z];show ϥa _ _ z
 .rw[p q λw=>by rw[(A q w).1]at z;cases z];show ύ _ _ z
 .let C:j<ċa:=åa.1;let:=Èa j w h;rw[Ĺo]
 .rcases vO h with⟨rfl,w⟩|⟨f,w⟩
  .rw[ůo];show{r,O,Y}
  .have C:j<n:=by rw[<-l];show(Ł w).1
   let{u,y,ou}:=ϓ j W ëk;rw[wB É]at y;simp only[Ô f,Ò C];show{u,y,ou.loc Ęi W u _ λq z=>p q λI=>Ŝ i j q Ŷe (s q I) z}
 .let v:∀j,j≠i->j<n->∀q,(t i q/\¬ L1 q)\/L2 q->t j q->ê:=λj f C q e d=>by
   rcases e with⟨e,_⟩|e;show Ŝ i j q Ŷe e d;rcases B q e with c|c;show Ŝ i j q Ŷe (s q c) d;show Ŝ n j q É c d
  rw[Ŝo]
  .rw[ìo];show f É;rw[ìo];show v k É É q e d;show d
  .rw[Ŝo];rw[ìo];show v j É É q d e;rw[ìo];show Ŝ j k q f e d;show d;show e
 .split at z
  .rcases z with⟨z,w⟩|z
   .rw[Ĵo];let{u,R,L}:=c;show{a,b,u,(ĩi).trans R,L}
   .show{?_,?_,T.cells m2 _ _ q z}
    .rcases B q z with c|c
     .show ķi.1
     .show ēh.1
    .rcases B q z with c|c
     .show ķi.2
     .show ēh.2.1
  .split at z
   .rename_i f C;let{a,b,c}:=Ϙ j q z;let{u,R,L}:=c;show{a,b,u,(p q λI=>Ŝ i j q Ŷe (s q I) z).trans R,L}
   .show ģ
#print a
def ul(i:Ä)(π:Á xH)(a:FE)(fv:xC):yU:=λβ=>(Òe).bind λr=>(œb).bind λy=>(Çh).bind λb=>match b with
 |.own Ϯc=>(Ġm).bind λx=>match x with
  |.int j=>(ěh).bind λn=>(Οc (.own (Δ Ĵn))).bind λβ2=>À ϝa|_=>Æ
 |_=>Æ
def ZA(i:Ä)(π:Á xH)(a:FE)(fv:xC):yU:=λβ=>(Òe).bind λr=>(œb).bind λy=>(Çh).bind λb=>match b with
 |.own ım=>(Ġm).bind λx=>(öd).bind λx=>match decide Âi with
  |Å=>(Οc (Υa ſn ũl)).bind λβ2=>À ϝa|Ã=>Æ
 |_=>Æ
section
variable{X:Cx}{np:Ä}{o k v:Ó}{i:Ä}{π:Á xH}{fk:FE}{fv:xC}{pos Ża:Pos}
def qA(ho:SP X o i π)(hk:SE X k fk)(hv:MC X v fv)(T:Î ãf q12)(hs:Î (Ϯg ĉe v Ϣc Ö=pure Ã) q12)(hw:Î (še ĉe v Ö=pure Æ) q12)(h1:Î ((Âh).map (·.2)=[ůa Ēg Ö]) q12):MS X np řk (ul i π fk fv):=by
 rw[ũo];rw[Ņo];show{{_,Ot pv (GJ {po} {pk} Kr T).h hs hw h1,λ{P G0 H0 G H β σ fl E} hP K a q=>?_}};obtain⟨⟨m,β1⟩,hy,a⟩:=zF a;rw[Īo]
 rw[Òo];rename_i Y;let{xk,Z,a}:=zF a;cases xk with
 |int j=>
  let{d,e,a}:=zF a;let{β2,N,a}:=zF a;cases a;let{mm,t,I}:=g7 hn;show O K hy λw G1 H1 s1 f=>?_
  let{r,v1,L1,Lr,C,F,_}:=f.write Ôa t I;show ko C F ?_;let{Ga,Ea,ϔ}:=(Ņi Ôa).u_;show kk Ea Z λu G2 U x2 R=>?_
  cases(show u=_ from R);let{G3,B,_,_}:=ϔ _ _ x2;let J:=f.go B;let{r',Q,S,W,b,s,n,or',dj',g}:=J.write Ôa t I;rw[C]at b;cases b;cases Ģb (Œi B.h) s;let{p,rfl,{L,ev,A,l},x}:=n;let{m',e',K5}:=g (H':=zU U p (Δ (L.set d w))) (m2:=.own (Δ (Y.set d y))) (L2:=λq=>q=p) (Ζb (x q)) {p,rfl,{_,yL,Ϭd J.gO d A,by rw[Ϻ];show l},λ_=>äa} (Ζc (x q));rw[YK t e']at N;cases N;show{p,L,j,d,rfl,rfl,ev,by rw[Ϲh];show e,q _ _ _ K5}
 |_=>cases a
 cases a
def Xv(hu:ĉa+1<Ū)(ho:SP X o i π)(hk:SE X k fk)(hv:MC X v fv)(hs:Î (Βb Ēg) q12):MS X np řk (ZA i π fk fv):=by
 rw[ũo];let{to,po,Y}:=ho.h;show{{_,E_ hu po pk pv hs,λ{P G0 H0 G H β σ fl E} hP K a q=>?_}};obtain⟨⟨m,β1⟩,Z,a⟩:=zF a;rw[Īo]
 rw[Òo];rename_i ks g;let{xk,W,a}:=zF a;let{b,e,a}:=zF a
 rw[Òo];rename_i c;let c:=ī c;let{β2,N,a}:=zF a;cases a;let{mm,x,J}:=g7 hn;show O K Z λw G1 H1 s1 j=>?_
 let{r,v1,L1,Lr,F,I,_}:=j.write Ôa x J;show Y F I ?_;let{Ga,Ea,ϔ}:=(j.down Ôa).u_;show kk Ea W λu G2 T x2 R=>?_
 let{G3,C,_,_}:=ϔ _ _ x2;let L:=j.go C;let{r',Q,S,U,d,t,s,or',dj',n}:=L.write Ôa x J;rw[F]at d;cases d;cases Ģb (áe C.h) t;let{p,rfl,{vs,ev,l,f,hl},B}:=s
 let{m',e',K5}:=n (H':=zU T p (.dK (wW Ěa b w))) (m2:=.own (.dic (vM ks b) (xV ks g b y))) (L2:=λq=>q=p) (Ζb (B q))
  ⟨p,rfl,⟨xV ks vs b w,by rw[yL,JD l],Qi l,f.put L.gO,by
   let h1:=GA (ks:=ks) (vs:=g) (k:=b) (v:=y) (by rw[l,ģa]);have h2:Üb<16777216:=by rw[<-ģa,<-l];show c
   rw[ċo]⟩,λ_=>äa⟩ (Ζc (B q))
 rw[YK x e']at N;cases N;show{p,_,rfl,.inl {_,b,ev,g_ e R,by rw[Úa,l,ϰ,ľ,<-l];show c,rfl},q _ _ _ K5};cases a;cases a
#print a
nonrec def kC(fs:Á Ç)(f:Ç):Á Ç:=if f∈fs then fs else fs++[f]
def pH{α:Type}(fs:Á Ç)(ms:Á α)(f:Ç)(m:α):Á α:=if f∈fs then uM fs ms f m else ms++[m]
theorem cT{f:Ç}{w:V}:∀{fs:Á Ç}{vs:Á V},ŋa=ö->æb f w ϓm=(ŵd).zip Ųl
 | [],[],_=>by unfold kC pH;rw[Ô é,Ô é];rfl| [],_::_,h=>by cases h|_::_,[],h=>by cases h|g::fs,v::vs,h=>by
  let b:=cT (f:=f) (w:=w) (fs:=fs) (vs:=vs) ėi;rw[Ļa];unfold æb;by_cases c:g=f;subst c;unfold kC pH;rw[Ò rfl,Ò ŉ,Ò ŉ];unfold uM;rw[Ò rfl,Ļa];rw[Ô c,b];unfold kC pH;by_cases z:f∈fs;rw[Ò z,Ò z,Ò Ąf,Ò Ąf]
  conv=>rhs;unfold uM
  rw[Ô c,Ļa];let a:f ∉ g::fs:=λw=>by rcases ŋ w with w|w;show c w.symm;show z w
  rw[Ô z,Ô z,Ô a,Ô a,ťe,ťe,Ļa]
theorem z99{α:Type}{f:Ç}{w:α}{fs:Á Ç}{vs:Á α}(h:ŋa=ö):(ŵd).length=(Ųl).length:=by
 unfold kC pH
 split;rw[Kq];show h;rw[Ă,Ă,h];rfl
section
variable{K:Ð}{G H:Hp}
theorem ϵh{κ:Type}[ņb κ]{k:κ}{m2:M}{e:V}{L2:Ft}(i:xD K G H m2 e L2):∀{ks:Á κ}{ms:Á M}{vs:Á V}{L:Ft},Ľ K G H ms vs L->(∀q,L q->L2 q->ê)->∃L',Ľ K G H ħl (uM ks vs k e) L'/\∀q,L' q->L q\/L2 q
 | [],ms,vs,L,h,_=>{L,by unfold uM;show h,λq z=>.inl z}|_::_,[],vs,L,h,_=>by let{rfl,n}:=h;show{L,by unfold uM;show{rfl,n},λq z=>.inl z}
 |k'::ks,m::ms,vs,L,h,dj=>by let{v,r,f,l,rfl,p,j,d,u}:=h;unfold uM;rw[äo];show{λq=>L2 q\/l q,{e,r,L2,l,rfl,i,j,λq a b=>dj q ((ũ).mpr (.inr b)) a,λq=>äa},λq z=>?_};rcases z with z|z;rw[İo];show .inl èc;rw[ϛo];let{L',o,g}:=ϵh (k:=k) i (ks:=ks) j ûj;show{λq=>f q\/L' q,{v,_,f,L',rfl,p,o,λq a b=>?_,λq=>äa},λq z=>?_};rcases g q b with b|b;show d q a b;show dj q Ņl b;rcases z with z|z;show .inl ąc;rcases g q z with z|z;show .inl èc;rw[İo]
theorem ĺh{m2:M}{c:V}{L2:Ft}(e:xD K G H m2 c L2):∀{ms:Á M}{vs:Á V}{L:Ft},Ľ K G H ms vs L->(∀q,L q->L2 q->ê)->Ľ K G H (ms++[m2]) (vs++[c]) (λq=>L q\/L2 q)
 | [],vs,L,h,_=>by let{rfl,n}:=h;show{c,[],L2,λ_=>ê,rfl,e,{rfl,λ_ z=>z},λ_ _ z=>z,λq=>{?_,?_}};rintro(z|z);show ß z (n q);rw[ło];rintro(z|z);rw[İo];show ģ
 |m::ms,vs,L,h,dj=>by let{v,r,f,i,rfl,j,g,d,u}:=h;show{v,_,f,λq=>i q\/L2 q,rfl,j,ĺh e g ûj,λq a b=>?_,λq=>{?_,?_}};rcases b with b|b;show d q a b;show dj q Ņl b;rintro(z|z);rcases(u q).mp z with z|z;rw[ło];show .inr ťa;show .inr Ōa;rintro(z|z|z);show .inl ąc;show .inl èc;rw[İo]
def ϴm{f:Ç}{m2:M}{b:V}{L2 L:Ft}{fs:Á Ç}{ms:Á M}{vs:Á V}(d:xD K G H m2 b L2)(h:Ľ K G H ms vs L)(a:∀q,L q->L2 q->ê):∃L',Ľ K G H (pH fs ms f m2) (pH fs vs f b) L'/\∀q,L' q->L q\/L2 q:=by unfold pH;by_cases c:f∈fs;rw[Ò c,Ò c];show ϵh d h a;rw[ϛo];show{_,ĺh d h a,λq z=>z}
#print a
def jY(m:M)(β:zk)(i:Ä)(π:Á xH)(a:Á Ç)(f:Ç):Ê Zv:=(ϟc).bind λb=>match b with
 |.obj x fs ms=>match decide (x∈a)&&decide Ãn with
  |Å=>(ψd (pH fs ms f m)).bind λβ2=>À ϝa|Ã=>Æ
 |_=>Æ
def j9(i:Ä)(π:Á xH)(a:Á Ç)(f:Ç)(fv:xC):yU:=λβ=>(Òe).bind λr=>jY r.1 r.2 i π a f
def EJ(i:Ä)(π:Á xH)(d:Á Ç)(f:Ç)(g:FE):yU:=λβ=>(ϟc).bind λe=>match e with
 |.obj x fs ms=>match decide (x∈d)&&decide Ãn with
  |Å=>(ź fs ms f).bind λc=>(uG c).bind λc=>match c with
   |.int a=>(g Ϸc).bind λy=>match y with
    |.int b=>(ψd (pH fs ms f Łg)).bind λβ2=>À ϝa|_=>Æ
   |_=>Æ
  |Ã=>Æ
 |_=>Æ
section
variable{X:Cx}{np:Ä}{o v:Ó}{i:Ä}{π:Á xH}{cs:Á Ç}{f:Ç}{fv:xC}{fe:FE}{pos Ża Őc:Pos}
def zl.Pv{K:Ð}{n:Ä}{P:Á V}{J y G H:Hp}{β β2:zk}{σ:St}{x f:Ç}{fs:Á Ç}{ms:Á M}{m e:M}{w:V}{i:Ä}{π:Á xH}(E:zl K ĸ P J y G H (β++[À e]) (σ++[À w]))(T:ċa<=n)(N:β[i]?=À ϣa)(R:uH m π=À Ϡg)(F:Ġb β i π (.obj x ŵd ųl)=À β2) :∃r p C dx vs,σ[i]?=À Ģi/\xh K H r π Ž/\ſ K ē x=À ïa/\H p=À ÿg/\ŋa=ö/\zl K n P J y G ϯe β2 σ:=by
 let{r,v1,L1,I,er,va,o1,h,j,Y}:=E.write T N R;let{p,C,dx,vs,Z,rfl,L,X,l,O,A,d}:=o1;let k:∀q,q≠p->ϯe q=H q:=λq z=>zt z
 let t:Ľ K G ϯe ms vs Z:=ϛa (λB _ v' g s o=>ŧb Űa B v' g λq z=>k q λc=>A ĝh) O;let u:xD K G ϯe e w I:=h.loc Űa e w I λq z=>k q λc=>j q ĳk z
 let{g,S,v}:=ϴm (f:=f) (fs:=fs) u t (λq a b=>j q ((d q).mpr (.inr a)) b)
 let{B,U,Q}:=Y (H':=zU H p Źi) (m2:=.obj x ŵd ųl) (L2:=λq=>q=p\/g q) (λq z=>k q λc=>z ĳk)
  ⟨p,C,dx,pH fs vs f w,g,rfl,L,by rw[yL,cT l],z99 l,S,λz=>by
   rcases v p z with z|z;show A z;show j p ((d p).mpr Ō) z,λq=>äa⟩ (λq z=>by
   rcases z with rfl|z;show .inl ((d q).mpr Ō);rcases v q z with z|z;show .inl ((d q).mpr Ōa);rw[İo])
 rw[YK N U]at F;cases F;show{r,p,C,dx,vs,er,va,L,X,l,Q}
def g6(n:SP X o i π)(k:wt X.K cs f)(hv:MC X v fv)(N:Î (Βb Ďk) q12):MS X np (.Assign þk v pos) (j9 i π cs f fv):=by
 let{tv,A,b}:=řa;let{to,u,y}:=n.h;show{{_,z90 u A N,λ{P G0 T G H β σ fl E} S K a q=>?_}};obtain⟨⟨m,β1⟩,z,a⟩:=zF a;let{Z,I,a}:=zF (show(qb β1 i π).bind _=_ from a)
 rw[Òo];rename_i x U ms
 rw[Òo];rw[þo];let j:=ī c.2;let{β2,J,a}:=zF a;cases a;let{mm,R,g}:=g7 I;show b K z λw G1 Y W d=>?_
 let{r,p,C,F,vs,B,O,Q,s,l,e}:=d.Pv Ôa R g J;let{t,L}:=k x şn C Q;show y B O {p,C,F,_,rfl,s,t,L,by rw[Úa,l,ϰ,<-l];show j,q _ _ _ e};cases a;cases a
def z22(ho:SP X o i π)(k:wt X.K cs f)(hv:SE X v fe):MS X np (.AugAssign čk .Add v pos) (EJ i π cs f fe):=by
 let{tv,pv,N}:=řa;let{to,po,Z}:=ho.h;show{{_,z91 po pv aZ,λ{P G0 H0 G H β σ fl E} hP K e q=>?_}};let{nd,hn,e}:=zF e
 rw[Ŝo];rename_i x fs ms
 rw[Ŝo];rw[þo];let Y:=ī c.1;let S:=ī c.2;let{ch,m,e}:=zF e;let{dc,z,w}:=zF e;cases jO z
 split at w;rename_i a;let{y,hy,e}:=zF w
 rw[Ŝo];rename_i b;let{β2,hβ,e}:=zF e;cases e;let{mm,L,I}:=g7 hn;rw[Ÿo];let{r,v1,L1,Lr,B,F,o1,_}:=K0.write Ôa L I;let{p,C,dx,vs,L',rfl,J,T,l,O,nL,uL}:=o1;let{W,na}:=k x Y C J;let{vc,Lc,ec,{rc,_},_}:=ěc O m;cases(show vc=_ from rc);refine Z B F {p,C,dx,_,_,rfl,T,W,na,by rw[OV];show ec,?_};let{Ga,Ea,ϔ}:=K.u_;show N Ea hy λu G2 H2 x2 Q=>?_
 cases(show u=_ from Q);let{G3,R,K3,_}:=ϔ _ _ x2;let{r',p',C',s,U,j,t,g,n,A,K5}:=(K3.gQ (d:=.int Ċd) (v:=.int Ċd) rfl).Pv Ôa L I hβ;rw[B]at j;cases j;cases Ģb (Œi R.h) t;let eC:C'=C:=by rw[J]at g;cases g;rfl
 subst eC;show{_,_,rfl,rfl,s,_,n,by rw[Úa,A,ϰ,<-A];show S,q _ _ _ K5};cases e;cases w;cases e;cases e
#print a
open Classical in
nonrec def cut(H:Hp)(L:Ft):Hp:=λq=>if L q then Æ else H q
def AN{H:Hp}{L:Ft}{q:Í}(h:L q):cut H L q=Æ:=by unfold cut;rw[Ò h]
theorem pp{H:Hp}{L:Ft}{q:Í}(h:¬ L q):cut H L q=H q:=by unfold cut;rw[Ô h]
theorem AO{H:Hp}{L:Ft}{q:Í}(h:cut H L q=Æ):L q\/H q=Æ:=by rw[ÿo];show .inl c;rw[pp c]at h;show .inr h
abbrev FM:=Á M->Ê Ńh
def xL(K:Ð)(F:FM):Sp:=λa H Q _=>∃G ms L ms' m',zh G H/\Ľ K G H ms a L/\(∀q,L q->G q=Æ)/\F ms=À (ms',m')/\
 ∀v G' H' L',zV G ϒn G' H'->Ľ K G' H' (m'::ms') (v::a) L'->(∀q,L' q->G' q=Æ/\cut H L q=Æ)->Q v H'
section
variable{K:Ð}{n:Ä}{P:Á V}{G0 H0 G H G' H':Hp}{β:zk}{σ:St}
def zl.Mh{m:M}{v:V}{L:Ft}(E:zl K n P G0 H0 G H β σ)(x:zV G H G' H')(o:xD K G' H' m v L)(k:∀q,L q->G' q=Æ/\H q=Æ):zl K ĸ P G0 H0 G' H' đc ìa:=by
 let{t,F}:=ϗ;let I:=Ϲ x;let l:∀i q,t i q->L q->ê:=λi q z c=>ϑa.2.2.some (k q c).2
 refine{I.ext,by rw[ĥo],by rw[šo],by rw[Ňo],λi u h=>?_,λj=>if j<n then t j else if j=n then L else λ_=>ê,λi p h=>?_,λi j q r f d=>?_,λi q z=>?_};let A:i<σ.length:=by rw[Êo]
 rw[wB A];show Èa i u h;rcases ZO h with⟨c,e⟩|⟨c,e⟩;rw[č]at c;let{u,C,y}:=ϓ i p e;refine{u,by rw[ϝo];show C,?_};rw[Ŕo];show y.loc x.g p u _ λq z=>?_
 rw[īo];show o;rw[Ϛo];show Ŝ i j q r f d;rw[ìo];show l i q f d;show d;rw[Ϛo];show l j q d f;rw[ìo];show r É;show d;show f;rw[ão];rw[Ĵo];let{B,J}:=IF x a c;show{B,b,J};rw[ão];show{īi.1,Ŧd īi.2,ýi m v _ q z};show ģ
def zl.back{m O:M}{i:Ä}{π:Á xH}(E:zl K n P G0 H0 G H β σ)(X:β[i]?=À ϣa)(ha:uH m π=À O) :∃r v1 L1,σ[i]?=À Ģi/\xh K H r π v1/\xD K G H O v1 L1/\(∀q,L1 q->G q=Æ)/\
   ∀{G' H':Hp}{m' nd':M}{v:V}{Lr L2:Ft},zV G (cut H L1) G' H'->xD K G' H' m' v Lr->xD K G' H' nd' v1 L2->(∀q,Lr q->L2 q->ê)->(∀q,Lr q\/L2 q->G' q=Æ/\cut H L1 q=Æ)->
    ∃mm,u7 m π nd'=À mm/\zl K ĸ P G0 H0 G' H' (β.set i (À mm)++[À m']) ìa:=by
 let{t,F}:=ϗ;have hi:i<n:=by rw[<-č];show(Ł X).1
 let{r,R,Z}:=ϓ i m X;let{v1,L1,va,o1,I,re}:=Z.focus ύ ha;show{r,v1,L1,R,va,o1,λq z=>ϯk.1,λ{G' H' m' nd' v Lr L2} x N S dj C=>?_}
 let s:∀j q,t j q->¬ L1 q->H' q=H q:=λj q z w=>by let{u,B,_}:=Àf.2.2;rw[B];show x.h _ _ ((pp w).trans B)
 let y:∀j q,t j q->¬ L1 q->(Lr q\/L2 q)->ê:=λj q z w c=>by let e:=(C q c).2;rw[pp w]at e;show Àf.2.2.some e
 let{mm,e',Y}:=re x.g (λq z w=>s i q z w) S (λq z w=>by by_cases c:L1 q;show c;show(y i q w c Ōa).elim)
 let A:∀j q,j≠i->t j q->¬ L1 q:=λj q l z w=>Ŝ i j q üm (I q w) z
 let J:∀q,cut H L1 q=Æ->H0 q=Æ:=λq z=>by rcases AO z with z|z;show ϯk.2.1;show Ŧd z
 let p:(Θa (À mm)).length=n:=by rw[Ĥo]
 show{mm,e',{ϝe x.g,λq o z=>x.h _ _ ?_,Ĳa,λq z=>?_},by rw[ĥo],by rw[Ă,p];rfl,by rw[Ňo],λj u h=>?_,λj=>if j=i then ŗj else if j<n then t j else if j=n then Lr else λ_=>ê,λj T h=>?_,λj k q l f d=>?_,λj q z=>?_}
 .rw[pp λw=>by rw[(Ϙ i q (I q w)).2.1]at z;cases z];show ϥa _ _ z
 .rcases īb q z with w|w
  .show Ċb q w
  .show .inr (J q w)
 .let hj:j<σ.length:=by
   rw[Êo]
  rw[wB hj];show Èa j u h
 .rcases ZO h with⟨c,e⟩|⟨c,e⟩
  .rw[p]at c;rcases vO e with⟨rfl,w⟩|⟨l,w⟩
   .rw[ůo];show{r,by rw[ϝo];show R,Y}
   .let{u,eu,ou}:=ϓ j T w;simp only[Ô l,Ò c];show{u,by rw[ϝo];show eu,ou.loc x.g T u _ λq z=>s j q z Ϟm}
  .cases e;rw[p]at c;subst c;show{_,uA Ė,?_};simp only[Ô (ûb hi),ſa,Ŧ,Ň];show N
 .let U:∀j,j≠i->∀q,(t i q/\¬ L1 q)\/L2 q->t j q->ê:=λj l q f d=>by
   rcases f with⟨f,_⟩|f;show Ŝ i j q üm f d;show y j q d (A j q l d) (.inr f)
  let Q:∀q,(t i q/\¬ L1 q)\/L2 q->Lr q->ê:=λq f d=>by rcases f with⟨f,w⟩|f;show y i q f w ói;show dj q d f
  let L:∀j,j≠i->∀q,t j q->Lr q->ê:=λj l q f d=>y j q f (A j q l f) ói
  rw[Ăo]
  .rw[ìo];show l É;rw[ìo];show U k É q f d;rw[ìo];show Q q f d;show d
  .rw[Ϛo];show U j É q d f;rw[ìo];show Ŝ j k q l f d;rw[ìo];show L j É q f d;show d;rw[Ϛo];show Q q d f;rw[ìo];show L k É q d f;rw[ìo];show l É;show d;show f
 .let W:∀q,t j q->¬ L1 q->G' q=Æ/\H0 q=Æ/\Bx H' q:=λq z w=>by
   let{a,b,u,B,cu}:=Ϙ j q z;show{?_,b,u,(s j q z w).trans B,cu};cases e:G' q with
   |Æ=>rfl|À o=>rcases īb q Ŝc with c|c;show ß a c;rw[pp w,B]at c;cases c
  rw[ão]
  .rename_i ej;subst ej;rcases z with⟨z,w⟩|z;show W q z w;show{Ϛn.1,J q Ϛn.2,S.cells nd' _ _ q z}
  .rename_i l
   rw[ão];show W q z Ϟm;rw[ão];show{ϛn.1,J q ϛn.2,N.cells m' _ _ q z};show ģ
#print a
inductive AV where
 |v (d:D)|p (i:Ä) (π:Á xH)
abbrev tY:=zk->Ê (Á AV)
def Ys(K:Ð)(G H:Hp)(σ:St):Á AV->Á V->È
 | [],vs=>vs=[]|.v d::as,vs=>∃v r,vs=v::r/\zd K G d v/\Ys K G H σ as r|.p i π::as,vs=>∃v r w,vs=v::r/\σ[i]?=À (À w)/\xh K H w π v/\Ys K G H σ as r
structure MA(X:Cx)(es:Á Ó)(f:tY):È where
 h:∃t,PA X es t/\∀{P:Á V}{G0 H0 G H:Hp}{β:zk}{σ:St}{as:Á AV}{Q:Á V->Hp->È},zl X.K ô P G0 H0 G H β σ->f β=À as->(∀vs G' H',zV G H G' H'->Ys X.K G' H' σ as vs->Q vs H')->t σ H Q
nonrec def vx:tY:=λ_=>À []
def V8(f:FE)(r:tY):tY:=λβ=>(Ţf).bind λd=>match wO d with
 |Å=>(Ši).bind λa=>À Ϟn|Ã=>Æ
def t7(f:FE)(r:tY):tY:=λβ=>(Įi).bind λd=>(Ši).bind λa=>À Ϟn
nonrec def gc:M->Ä->Á xH->AV
 |.fz d,_,_=>.v d|_,i,π=>.p i π
def tj(i:Ä)(π:Á xH)(r:tY):tY:=λβ=>(ϟc).bind λb=>(Ši).bind λa=>À (gc b i π::a)
section
variable{X:Cx}{e:Ó}{es:Á Ó}{f:FE}{r:tY}{i:Ä}{π:Á xH}
def p9:MA X [] vx:={{_,g8,λE a q=>by rw[ĩo]}}
def OX(j:SE X e f)(y:MA X es r)(h:Î ϳ q12):MA X Ē (V8 f r):=by
 let{t,p,k}:=j.h;let{C,o,A}:=y.h;show{{_,qf p o h,λE a q=>?_}};let{d,u,a}:=zF a
 rw[Òo];rename_i c;let{H,b,a}:=zF a;cases a;let{J,n,ϔ}:=E.u_;show k n u λv I F x r=>?_
 let{B,m,w,l,_}:=ϔ _ _ x;refine A w b λs K G i z=>q _ _ _ (m.trans i) {v,s,rfl,(l d v c r).mono i.g,z};cases a
def qZ(i:SE X e f)(m:MA X es r)(h:Î ϳ q12):MA X Ē (t7 f r):=by
 let{t,p,k}:=i.h;let{z,j,s}:=m.h;show{{_,qf p j h,λE a q=>?_}};let{d,o,a}:=zF a;let{u,b,a}:=zF a;cases a;show k E.Ug o λv w A x r=>?_
 show s (Ϲ x) b λl y B c n=>q _ _ _ (Ód c) {v,l,rfl,ça c.g,n}
def pA(y:SP X e i π)(B:MA X es r)(h:Î ϳ q12):MA X Ē (tj i π r):=by
 let{t,p,k}:=y.h;let{K,z,C}:=B.h;show{{_,qf p z h,λE a q=>?_}};let{A,u,a}:=zF a;let{H,o,a}:=zF a;let{G,F,s}:=g7 u;let{w,j,I,f,m,v,_}:=œi F s;show k f m (C E o λl J L c n=>q _ _ _ c ?_);cases A with
 |fz d=>cases a;show{j,l,rfl,v.1.mono c.g,n}|own d=>cases a;show{j,l,w,rfl,f,Æc c.h,n}|obj x fs ms=>cases a;show{j,l,w,rfl,f,Æc c.h,n}|tab ks ms=>cases a;show{j,l,w,rfl,f,Æc c.h,n}|tp b ms=>cases a;show{j,l,w,rfl,f,Æc c.h,n}
#print a
nonrec def UC:Á AV->Ê Şb
 | []=>À []|.v d::as=>(UC as).bind λa=>À (d::a)|.p _ _::_=>Æ
def IL:Á AV->Ê (Á D×Ä×Á xH×Á D)
 | []=>Æ|.v d::as=>(IL as).bind λr=>À (d::r.1,r.2)|.p i π::as=>(UC as).bind λb=>À ([],i,π,b)
nonrec def j4(ds:Á D):Á M:=ňf .fz
def XQ(F:FM)(as:Á AV)(β:zk):Ê (M×zk):=match UC as with
 |À ds=>(F (j4 ds)).bind λr=>À (r.2,β)|Æ=>(IL as).bind λc=>(qb β c.2.1 c.2.2.1).bind λb=>(F (j4 c.1++b::j4 c.2.2.2)).bind λr=>(r.1[c.1.length]?).bind λa=>(Ġb β c.2.1 c.2.2.1 a).bind λβ'=>À (r.2,β')
def qS(F:FM)(f:tY):xC:=λβ=>(ĥb).bind λa=>XQ F a β
section
variable{K:Ð}{n:Ä}{P:Á V}{G0 H0 G H G' H':Hp}{β:zk}{σ:St}
theorem Qe:∀{ds:Á D}{vs:Á V},á K G ds vs->Ľ K G H (j4 ds) vs ßf
 | [],_,r=>{r,λ_ z=>z}|d::ds,_,r=>by let{v,r,rfl,b,a}:=r;show{v,r,λ_=>ê,λ_=>ê,rfl,{b,λ_ z=>z},Qe a,λ_ z=>ģ,λq=>{λz=>ģ,λz=>ģ id id}}
theorem bq{f:M}{v1:V}{c:Ft}(o:xD K G H f v1 c){b:Á D}{e:Á V}(g:á K G b e):∀{a:Á D}{va:Á V},á K G a va->Ľ K G H (j4 a++f::j4 b) (va++v1::e) c
 | [],va,r=>by cases(show va=[]from r);show{v1,e,c,λ_=>ê,rfl,o,Qe g,λ_ _ z=>z,λq=>{.inl,λz=>ģ id Áa}}|d::ds,_,r=>by let{v,r,rfl,i,h}:=r;show{v,_,λ_=>ê,c,rfl,{i,λ_ z=>z},bq o g h,λ_ z=>ģ,λq=>{.inr,λz=>ģ Áa id}}
theorem Js:∀{as:Á AV}{ds:Á D}{vs:Á V},UC as=À ds->Ys K G H σ as vs->á K G ds vs
 | [],ds,vs,e,r=>by cases e;show r|.v d::as,ds,vs,e,r=>by let{b,a,e}:=zF e;cases e;let{v,r,rfl,f,c}:=r;show{v,r,rfl,f,Js a c}
 |.p i π::as,ds,vs,e,r=>by cases e
theorem Sk:∀{as:Á AV}{a b:Á D}{i:Ä}{π:Á xH}{vs:Á V},IL as=À (a,i,π,b)->Ys K G H σ as vs->∃va v1 vb w,vs=va++v1::vb/\á K G a va/\á K G b vb/\σ[i]?=À (À w)/\xh K H w π v1
 | [],a,b,i,π,vs,e,r=>by cases e|.v d::as,a,b,i,π,vs,e,r=>by obtain⟨⟨o,q,π',l⟩,g,e⟩:=zF e;cases e;let{v,r,rfl,n,h}:=r;let{va,v1,vb,w,rfl,k,m,c,f}:=Sk g h;show⟨v::va,v1,vb,w,rfl,{v,va,rfl,n,k},m,c,f⟩
 |.p j ρ::as,a,b,i,π,vs,e,r=>by let{l,g,e}:=zF e;cases e;let{v,r,w,rfl,c,va,h}:=r;show{[],v,r,w,rfl,rfl,Js g h,c,va}
theorem Et{v1:V}{a:M}:∀{ms:Á M}{vs:Á V}{L:Ft}{k:Ä},Ľ K G H ms vs L->ms[k]?=À a->vs[k]?=À v1->∃L2,xD K G H a v1 L2/\∀q,L2 q->L q
 | [],_,_,_,_,e,_=>by cases e|m::ms,_,L,0,h,e1,e2=>by let{v,r,b,g,rfl,f,c,d,u}:=h;cases e1;cases e2;show{b,f,λq z=>(ũ).mpr ťa}
 |m::ms,_,L,k+1,h,e1,e2=>by let{v,r,b,g,rfl,f,c,d,u}:=h;let{L2,o,s}:=Et (k:=k) c Ŕk œk;show{L2,o,λq z=>(ũ).mpr (.inr Ŏb)}
def zl.call{F:FM}{as:Á AV}{vs:Á V}{m:M}{β':zk}{Q:VK}{E0:XK}(E:zl K n P G0 H0 G H β σ)(t:Ys K G H σ as vs)(c:XQ F as β=À (m,β'))(q:∀v G' H',zh G G'->zl K ĸ P G0 H0 G' H' ϗg ìa->Q v H'):xL K F vs H Q E0:=by
 unfold XQ at c
 split at c;rename_i ds e;rw[Ϗo];cases c;show{G,_,_,_,_,ύ,Qe (Js e t),λ_ z=>ģ,p,λv G' H' Y x o f=>?_}
 let I:cut H ßf=H:=by
  funext q
  show pp (λz=>z)
 rw[I]at x;let{v',T,S,X,e2,k,y,r,u}:=o;cases e2
 show q v G' H' x.g (E.Mh x k λq z=>by let{a,b}:=f q ąc;rw[I]at b;show{a,b});obtain⟨⟨a,i,π,b⟩,U,c⟩:=zF c;let{nd,hn,c}:=zF c;rw[Ϗo];let{nd',j,c}:=zF c;let{β2,B,c}:=zF c;cases c;let{mm,A,R}:=g7 hn;let{w,v1,L1,er,va,k,L,W}:=œi A R;let{xa,N,xb,w',rfl,s,O,d,l}:=Sk U t;rw[er]at d;cases d;cases Ģb va l;show{G,_,L1,_,_,ύ,bq k O s,L,p,λv G' H' Y x o f=>?_};let{v',T,S,X,e2,oa,J,r,u}:=o;cases e2
 let{L2,y,C}:=Et (v1:=v1) J j (by rw[<-ϧd,âc Ę,Ţd];rfl)
 let{m3,Z,K3}:=W x oa y (λq z w=>r q z Ĵi) (λq z=>by rcases z with z|z;show f q ąc;show f q (Νa (C q z)))
 rw[YK A Z]at B;cases B;show q v G' H' x.g K3
#print a
section
variable{X:Cx}{x m c:Ç}{ps:Á Ç}{j k:Ä}{F:FM}{e o:Ó}{es:Á Ó}{fa:tY}{p pos ϙ:Pos}{i:Ä}{π:Á xH}
def jX(h:wH ò X.w X.K ñ Œ x ps k Ϧb)(u:ym j X.A)(r:Gl X x)(l:MA X Ē fa)(hk:Î Ťb q10)(a:Î Ģ q10)(m:Î êa q12):MC X ŝa (qS F fa):=by
 let{t,i,f}:=l.h;show{{_,Ew h u r i hk a m,λE b q=>?_}};let{B,c,b}:=zF b;show f E c λG C H d n=>?_
 rw[Ûa];show(őf).call n b λv o y s z=>q v o y (d.g.trans s) z
def qq(P:ï)(w:è)(K:Ð)(b:Ç->Ê Value)(a:Heap)(c m:Ç)(ps:Á Ç)(k:Ä)(sp:Sp):È:=
 ∃(C f:Í) (fd:ŀ),ſ K ē c=À ïa/\t4 K C/\Ji K C m f/\uQ K fd ps []/\xO P w K b a xK k f fd ps sp
def VG(c m:Ç)(i:Ä)(π:Á xH)(F:FM)(f:tY):xC:=λβ=>(ϟc).bind λb=>match b with
 |.obj x fs _=>match decide (x=c)&&!(decide (m∈fs))with
  |Å=>(ĥb).bind λa=>XQ F (.p i π::a) β|Ã=>Æ
 |_=>Æ
theorem EH{f:Ç}:∀{fs:Á Ç}{vs:Á V},f ∉ fs->(ϓm).lookup f=Æ
 | [],_,_=>rfl|_::_,[],_=>rfl|g::fs,v::vs,h=>by
  rw[Ļa,Ňd]
  let c:(f==g)=Ã:=by
   let:f≠g:=λz=>h (z▸ŉ)
   simpa using this
  rw[c];show EH λz=>h Ąf
def lc{P:Á V}{d b G H:Hp}{β β':zk}{σ:St}{r:M}{Q:VK}{C:Í}{t:TA}{y:TE}{E0:XK}(n:ſ X.K ē c=À ïa)(R:∀{σ:St}{H:Hp}{v u:V}{Q:VK},σ[i]?=À ŧ->xh X.K H v π u->Q u H->y σ H Q)(S:∀{P:Á V}{d b G H:Hp}{β:zk}{σ:St}{as:Á AV}{Q:Á V->Hp->È},zl X.K ô P d b G H β σ->fa β=À as->(∀vs G' H',zV G H G' H'->Ys X.K G' H' σ as vs->Q vs H')->t σ H Q)(E:zl X.K ô P d b G H β σ)(k:VG c m i π F fa β=À (r,β'))(q:∀v G' H',zh G G'->zl X.K Ĝi P d b G' H' (β'++[À r]) ìa->Q v H'):LO C m Ϧb [] E0 y t σ H Q:=by
 let{nd,U,a}:=zF k
 rw[Òo];rename_i x L ms
 rw[Òo];rename_i j;rw[ø]at j;cases ī j.1
 let hm:m ∉ L:=by let:=j.2;simpa using this
 let{as,o,k}:=zF a;let{mm,f,I}:=g7 U;let{w,v1,L1,z,A,Y,_}:=œi f I;let{p,C',T,vs,L',rfl,B,O,l,rs,nL,uL}:=Y;rw[n]at B;cases B;show R z A {p,T,_,rfl,O,EH hm,?_};show S E o λvs G1 H1 e J=>?_
 rw[Ûa];show(Üd).call (as:=.p i π::as) {_,vs,w,rfl,z,A.mono e.h,J} k λv G' H' s Z=>q v G' H' (e.g.trans s) Z;cases a;cases a
def bO{pl:Sem Ï}(h:qq ò X.w X.K ñ Œ c m ps k Ϧb)(u:ym j X.A)(g:SP X o i π)(hk:Î Ťb q10)(d:ċ řc Ö=(do
   let ov <-ċ o Ö
   standAt Ěc
   let (f,first) <-holding [ov] ñc
   Œb pos f first įg Ĳb):=by rfl):MC X řc (VG c m i π F vx):=by
 let{C,f,J,x,p,a,b,n}:=h;let{B,s,v}:=g.h;show{{_,c9 s p a n (u.mono hk) b .nil YI d,λE r q=>lc (t:=YU) x v (λ{P L I G H β σ z Q} l e y=>by cases e;show y _ _ _ ţl rfl) E r q}}
def TH(P:ï)(w:è)(K:Ð)(b:Ç->Ê Value)(a:Heap)(c:Ç)(ps:Á Ç)(k:Ä)(sp:Sp):È:=
 ∃(C f:Í) (fd:ŀ),ſ K ē c=À ïa/\b c=À Ŏ/\Mk K C f/\uQ K fd ps []/\xO P w K b a xK k f fd ps sp
def Dv(c:Ç)(F:FM)(f:tY):xC:=λβ=>(ĥb).bind λa=>(UC a).bind λb=>(F (.obj c [] []::j4 b)).bind λr=>match r.2 with
 |.fz .zE=>(r.1[0]?).bind λm=>À (m,β)|_=>Æ
def z1o(h:TH ò X.w X.K ñ Œ c ps k Ϧb)(hr:ym j X.A)(hg:Gl X c)(ha:MA X Ē fa)(hk:Î (k+1<=j) q10)(W:Î Ėe q10)(S:Î êa q12) :MC X ōn (Dv c F fa):=by
 let{C,f,fd,ns,J,mk,b,FF}:=h;let{t,pa,ka}:=ha.h;rw[ř,ø]at S;show{{_,c8 mk FF ěm hg J b .nil YI pa W (tQ S.1) (kK S.2),λ{P G0 H0 G H β β' σ mr Q} E d q=>?_}};let{as,U,d}:=zF d;let{ds,T,d}:=zF d;obtain⟨⟨R,m'⟩,hF,d⟩:=zF d;show ka E U λvs x m Z ra y i n l ne=>?_
 rw[Ûa];let O:=Ϲ Z;let rd:=Js T ra
 rw[ìo];rename_i em
 change m'=.fz .zE at em
 subst em;let{m0,h0,d}:=zF d;cases d;let Y:∀q,q≠y->q≠i->zU (zU m i (.own y)) y (.ins C i []) q=m q:=λq z w=>by rw[zt z,zt w]
 let gy:x y=Æ:=O.ext.gh.free n
 let s2:zh x üj:=λq o z=>by let s:=O.ext.gh _ _ z;rw[Y q (λc=>by subst c;rw[n]at s;cases s) (λc=>by subst c;rw[l]at s;cases s)];show s
 show{x,.obj c [] []::j4 ds,λq=>q=y,R,.fz .zE,s2,{_,vs,λq=>q=y,λ_=>ê,rfl,{y,C,i,[],λ_=>ê,rfl,ns,yL,rfl,{rfl,λ_ z=>z},λz=>z,λq=>{.inl,λz=>ģ id Áa}},Qe rd,λ_ _ z=>z,λq=>{.inl,λz=>ģ id Áa}},λq z=>z▸gy,hF,λv G' H' L' I o hN=>?_};let{v',r',La,Lb,e2,oa,ob,dj,u}:=o;cases e2;show{oa.1,?_};let{L2,o2,N}:=Et (v1:=.ref y) ob h0 rfl
 let cn:∀q,cut üj (λq=>q=y) q=Æ->m q=Æ:=λq z=>by rcases AO z with z|z;show z▸n;by_cases r:q=y;show r▸n;by_cases B:q=i;show B▸l;rw[Y q r B]at z;show z
 let x3:zV x m G' H':=⟨I.g,λq o z=>I.h _ _ (by
  let r:q≠y:=λc=>by subst c;rw[n]at z;cases z
  let B:q≠i:=λc=>by subst c;rw[l]at z;cases z
  rw[pp (L:=λq=>q=y) r,Y q r B];show z),I.gh,λq z=>by
  rcases I.new q z with w|w;show .inl w;show .inr (cn q w)⟩
 show q _ G' H' (Z.g.trans x3.g) (O.Mh x3 o2 λq z=>by let{a,b}:=hN q (Νa (N q z));show{a,cn q b});cases d
#print a
section
variable{K:Ð}{G H:Hp}
theorem őm:∀{ms:Á M}{vs:Á V}{L:Ft},Ľ K G H ms vs L->∃Ls:Ä->Ft,(∀(i:Ä)(m:M),ms[i]?=À m->∃v,vs[i]?=À v/\xD K G H m v ūi)/\(∀(i j:Ä)(q:Í),i≠j->Ls i q->Ls j q->ê)/\∀i q,Ls i q->L q
 | [],_,_,_=>{λ_ _=>ê,{λi m h=>ĝm,{λ_ _ _ _ z=>ģ,λ_ _ z=>ģ}}}|m::ms,_,L,h=>by
  let{v,r,l,t,rfl,p,o,d,u}:=h;let{Ls,s,n,f}:=őm o;show{λi=>match i with|0=>l|j+1=>Ls j,λi k e=>?_,λi j q g b a=>?_,λi q z=>?_};cases i with
  |ϛ=>cases e;show{v,rfl,p}|Ϝ j=>show s j k Âb
  cases i with
  |ϛ=>
   cases j with
   |ϛ=>show g rfl|Ϝ j=>show d q b (f j q a)
  |Ϝ i=>
   cases j with
   |ϛ=>show d q a (f i q b)|Ϝ j=>show n i j q (λc=>g Ýn) b a
  cases i with
  |ϛ=>show(ũ).mpr ťa|Ϝ j=>show(ũ).mpr (.inr (f j q z))
theorem Ļh:∀{ms:Á M}{vs:Á V}{Ls:Ä->Ft},(∀(i:Ä)(m:M),ms[i]?=À m->∃v,vs[i]?=À v/\xD K G H m v ūi)->(∀(i j:Ä)(q:Í),i≠j->Ls i q->Ls j q->ê)->ö=ό->∃L,Ľ K G H ms vs L/\∀q,L q->∃i,i<ό/\Ls i q
 | [],vs,Ls,_,_,l=>by
  cases vs with
  |nil=>show{λ_=>ê,{rfl,λ_ z=>z},λ_ z=>ģ}|ú v r=>cases l
 |m::ms,[],Ls,_,_,l=>by cases l|m::ms,v::vs,Ls,h,d,l=>by
  let{L,o,c}:=Ļh (ms:=ms) (vs:=vs) (Ls:=λi=>Ls õ) (λi f e=>by let{u,b,a}:=h õ f Âb;show{u,by simpa using b,a}) (λi j q p=>d õ éa q É) Ìe
  let{u,b,a}:=h 0 m rfl;cases b;show{λq=>Ls 0 q\/L q,{v,vs,Ls 0,L,rfl,a,o,λq k g=>?_,λq=>äa},λq z=>?_};let{i,_,z}:=c q g;show d 0 õ q É k z;rcases z with z|z;show{0,êh _,z};let{i,n,z}:=c q z;show{i+1,Nat.succ_lt_succ n,z}
#print a
nonrec def Zz:Á ği->Ê (Á M)
 | []=>À []|o::r=>Ŀi λm=>(Zz r).bind λa=>À (m::a)
def Ai(b:Ä):Zv->Ê Ńh
 |.rt m β=>(øl).bind λa=>À (a,m)|.nx β=>(øl).bind λa=>À (a,.fz .zE)|_=>Æ
def xy(a n:Ä)(b:yU)(ms:Á M):Ê Ńh:=(b (ξd (n-ό))).bind (Ai a)
def wq(c n:Ä)(b:yU):FM:=λa=>if ϴ=c then xy c n b a else Æ
def vE{a n:Ä}{b:yU}:∀ms r,wq a n b ms=À r->ό=a/\xy a n b ms=À r:=λms r h=>by
 unfold wq at h
 rw[œo]
theorem Sj:∀{os:Á ği} {ms:Á M},Zz os=À ms->ό=os.length/\∀(i:Ä)(m:M),ms[i]?=À m->os[i]?=À ϣa
 | [],ms,h=>by cases h;show{rfl,λi m e=>by cases e}|o::r,ms,h=>by
  let{m0,c,h}:=zF h;let{a,b,h}:=zF h;cases h;subst c;let{l,g}:=Sj b;refine{by rw[Ġ,Ġ,l],λi m e=>?_};cases i with
  |ϛ=>cases e;rfl|Ϝ j=>show g j m Âb
section
variable{K:Ð}
def z1d{N:Á Ç}{G H:Hp}{ms:Á M}{vs:Á V}{L:Ft}(s:zh G H)(o:Ľ K G H ms vs L)(k:∀q,L q->G q=Æ)(w:ό<=ϖ):zl K ϖ vs G ϒn G H (ξd (ϖ-ό)) łh:=by
 let l:=ŭa;let{p,r,g,d}:=o.split;let b:∀q,L q->Bx H q:=Ņb (λm _ v j f=>f.cells m v j) o
 let a:∀(i:Ä)(v:V),vs[i]?=À v->łh[i]?=À ŧ:=λi v e=>by unfold Ŵd;rw[éb (by rw[æ];show âd.1),Ş,e];rfl
 show{{ĝa _,λq o e=>?_,s,λq z=>.inl z},?_,?_,by omega,a,p,λi m h=>?_,g,λi q z=>{k q Ϝh,AN Ϝh,b q Ϝh}};rw[ÿo];rw[AN c]at e;cases e;rw[pp c]at e;show e;unfold Ŵd;rw[Ďo];rw[Ďo];let{u,e,z}:=OY h;cases z;let{v,t,n}:=r i _ e;show{v,a i v t,n}
def bK{n:Ä}{C f G H:Hp}{vs:Á V}{β:zk}{σ:St}{m:M}{v:V}{ms:Á M}(E:zl K ĸ vs C f G H đc ìa)(t:ö<=n)(h:Zz (β.take ö)=À ms) :∃L,Ľ K G H şf Âc L/\∀q,L q->G q=Æ/\f q=Æ:=by
 let{Ls,F}:=ϗ;let{l,g}:=Sj h;rw[Ęa,Ùc,Ϗc t]at l;let{u,p,A}:=ϓ n m ĉf;rw[uA ŕc]at p;cases p
 let{L,o,y}:=Ļh (K:=K) (G:=G) (H:=H) (ms:=m::ms) (vs:=v::vs) (Ls:=λi=>match i with|0=>Ls n|j+1=>if j<n then Ls j else λ_=>ê) (λi c e=>by
  cases i with
  |ϛ=>cases e;show{v,rfl,A}|Ϝ j=>
   let k:ms[j]?=À c:=by rw[Şo]
   have d:j<ö:=by rw[<-l];show(Ł k).1
   let e2:=g j c k;rw[List.getElem?_take]at e2;rw[Ò d]at e2;let{w,s,B}:=ϓ j c (by rw[wB (by rw[Ùc];omega)];show e2);let r:=Èa j (vs[j]) (Ĳ d);rw[s]at r;cases r;refine{vs[j],by simp[d],?_};simp only[Ò (show j<n by omega)];show B) (λi j q x b a=>by
  cases i with
  |ϛ=>
   cases j with
   |ϛ=>show x rfl|Ϝ j=>
    dsimp only at b a
    rw[Òo];show Ŝ n j q É b a;show a
  |Ϝ i=>
   cases j with
   |ϛ=>
    dsimp only at b a
    rw[Ĉo];show Ŝ n i q É a b;show b
   |Ϝ j=>
    dsimp only at b a
    rw[ŕo];show Ŝ i j q É b a;show a;show b) œe
 show{L,o,λq z=>?_};let{i,_,z}:=y q z;cases i with
 |ϛ=>show{ϻe.1,ϻe.2.1}|Ϝ j=>
  dsimp only at z
  rw[ão];show{Àf.1,Àf.2.1};show ģ
#print a
structure wb(K:Ð)(x qual:Ç)(st:Ù)(f:Í)(fd:ŀ):È where
 ex:∃(oc:Value) (od:Ê Í) (dV kV doc pm:Value) (an:Ê Í) (cdv ct:Value) (osl:Ĝ ŧa),
  fd=łc x qual æd ϵ ņ dV kV doc pm an cdv ct/\Ϗ f=À {oc,od,.func fd,osl}/\ĕb K cdv qual=Å
 kp:áa K Ļ=Å
def _root_.L2.Fun.v{K:Ð}{x a:Ç}{st:Ù}{f:Í}{h:ŀ}(F:Fun K x a st f h):wb K x a st f h:=by let{m,n,kV,c,k,l,d,i,b,e,j,g}:=F.ex;show{{m,n,.none,kV,c,k,l,d,i,b,e,j,g},F.kp}
section
variable{P:ï}{w:è}{K:Ð}{mg:Ç->Ê Value}{Ë:Heap}
def nW{x a:Ç}{st:Ù}{f:Í}{j:Value}{m i:Ê Í}{e:Ĝ ŧa}{g kV d h b ct:Value}(l:Ϗ f=À {j,m,.func Új,e})(c:ĕb K b a=Å)(k:áa K Ļ=Å):wb K x a st f Új:={{j,m,g,kV,d,h,i,b,ct,e,rfl,l,c},k}
def wb.ok{x a:Ç}{st:Ù}{f:Í}{i:ŀ}{N ps:Á Ç}{k:Ä}{sp:Sp}(F:wb K x a st f i)(S:zi N ps ņ)(d:∀vs H Q E,sp vs H Q E->ö=ü)(c:∀(b:Value)(A:Ā)(þ:Á Env)(s:Ñ)(H:Hp)(vs:Á V)(Q:VK)(E:XK),ym k Ϝj->sp vs H Q E->
   ∃t,uf (Øj).tW ϵ t/\t { nx:=λ_ H'=>Q .zE H',rt:=Q } ėc H):xO P w K mg Ë xK š f i ps sp:=by
 let{y,u,o,kV,m,p,r,b,v,l,rfl,j,g}:=F.ex;show As j g S d λA þ s H vs Q E n e=>?_
 rw[Ġo]
def wb.Uj{x c:Ç}{st:Ù}{f:Í}{U:ŀ}{N ps:Á Ç}{k:Ä}{F:FM}{b:yU}(d:wb K x c st f U)(S:zi N ps ņ)(W:ü<=ϖ)(R:∀ms r,F ms=À r->ό=ü/\xy ü ϖ b ms=À r)(hb:∀(g:Value)(A:Ā)(þ:Á Env)(s:Ñ)(H:Hp)(E:XK),ym k ϛj->jJ (Öj).tW ü ϵ b):xO P w K mg Ë xK š f U ps Ĩf:=by
 show d.ok S (λT H Q E h=>?_) λg A þ s H T Q E hr h=>?_;let{G,ms,L,n,Z,_,o,_,e,_}:=h;rw[ŭa,(R _ _ e).1];let{G,ms,L,n,Z,X,o,hL,e,q}:=h;let{l,a}:=R _ _ e;let{t,p,Y}:=(hb g A þ s H E hr).h;let{fl,O,a}:=zF a;let i:T.length=ü:=by rw[ŭa,l]
 refine{t,p,Y i (z1d (N:=N) X o hL É) O ?_};cases fl with
 |nx β=>let{u,y,a}:=zF (show(ϑk).bind _=_ from a);cases a;intro σ J z j;let{B,I,C}:=bK (j.gQ (d:=.zE) (v:=.zE) rfl) Æl Ål;show q .zE J z B j.ext I C
 |rt m β=>let{u,y,a}:=zF (show(ϑk).bind _=_ from a);cases a;intro σ v J z j;let{B,I,C}:=bK j Æl Ål;show q v J z B j.ext I C
 |_=>cases a
def wb.iQ{x c:Ç}{st:Ù}{f:Í}{m:ŀ}{N ps:Á Ç}{k:Ä}{F:Á D->Ê í}{b:FS}(d:wb K x c st f m)(S:zi N ps ņ)(O:ü<=ϖ)(j:∀ds r,F ds=À r->Ĉ=ü/\yP ϖ b ds=À r)(n:∀(g:Value)(A:Ā)(þ:Á Env)(s:Ñ)(H:Hp)(E:XK),ym k ϛj->tZ (Öj).tW ϵ b):xO P w K mg Ë xK š f m ps ϲd:=by
 show d.ok S (λC H Q E h=>?_) λg A þ s H C Q E I h=>?_;let{G,ds,o,u,_,r,e,_}:=h;rw[Ŷ,ϐn.1];let{G,ds,o,u,y,r,e,q}:=h;let{l,a}:=j _ _ e;let{t,p,J}:=(n g A þ s H E I).h;let{v,i,a}:=zF a;refine{t,p,J (Al (N:=N) y r É) i ?_};cases v with
 |nx τ=>cases a;show λσ B L z=>q .zE B L z.ext rfl|rt o' d'=>
  cases o' with
  |Ã=>cases a<;>show q|Å=>cases a<;>show q
 |_=>cases a
theorem Def.Uj{x:Ç}{st:Ù}{N ps:Á Ç}{k:Ä}{F:FM}{b:yU}(d:Def K mg x st ps)(S:zi N ps ņ)(g:ü<=ϖ)(j:∀ms r,F ms=À r->ό=ü/\xy ü ϖ b ms=À r)(h:∀(f:Í)(a:Value)(A:Ā)(þ:Á Env)(s:Ñ)(H:Hp)(E:XK),ym k (Ìb (Ϟa x ņ Þ f a))->jJ (tD xK P w K mg Ë N x ņ f a A þ s H E).tW ü ϵ b):wH P w K mg Ë x ps š Ĩf:=by let{f,i,e,l,c}:=d;show{f,i,l,e.kp,c,e.v.Uj S g j (h f)}
def Ax(F:FM):Á D->Ê í:=λa=>(F (j4 a)).bind λr=>match r.2 with
 |.fz d=>À (Ã,d)|.own d=>À (Å,d)|_=>Æ
def y37{F:FM}{vs:Á V}{H:Hp}{Q:VK}{E:XK}(h:vQ K (Ax F) vs H Q E):xL K F vs H Q E:=by
 let{G,n,o,d,s,r,e,q}:=h;obtain⟨⟨c,g⟩,y,e⟩:=zF e
 let k:cut H ßf=H:=by
  funext q
  show pp (λz=>z)
 show{G,j4 n,λ_=>ê,c,g,s,Qe r,λ_ z=>ģ,y,λv i f L x m t=>?_};rw[k]at x;let{N,I,B,J,e2,j,A,C,u}:=m;cases e2;cases g with
 |fz d'=>cases e;show q v i f x j.1|own d'=>cases e;let{p,rfl,w,l}:=j;let{a,b}:=t p ((u p).mpr (.inl ((l p).mpr rfl)));rw[k]at b;show q p i f x b a w
 |_=>cases e
#print a
structure Je(P:ï)(w:è)(K:Ð)(mg:Ç->Ê Value)(Ë:Heap)(c m:Ç)(ps:Á Ç)(k:Ä)(sp:Sp):È where
 ex:∃(C f:Í) (fd:ŀ) (mc:Value),mg c=À Ŏ/\ċh K Ŏ Īg=À Ãg/\Ůh K C mc=Å/\ůh K Ŏ mc m=À Őh/\áa K Ļ=Å/\uQ K fd ps []/\xO P w K mg Ë xK k f fd ps sp
section
variable{X:Cx}{c m:Ç}{ps:Á Ç}{j k:Ä}{F:FM}{e:Ó}{es:Á Ó}{p pos ϙ:Pos}{sp:Sp}{t:TA}
def z7s{pl:Sem Ï}(h:Je ò X.w X.K ñ Œ c m ps k sp)(E:ym j X.A)(B:Gl X c)(o:PA X Ē t)(hk:Î Ťb q10)(a:Î Ėe q10)(g:Î êa q12)(x:ċ Ċe Ö=(do
   let ov <-ċ źg Ö
   standAt Ěc
   let (f,first) <-holding [ov] ñc
   Œb pos f first Űc Ĳb):=by rfl):PE X Ċe Ļl:=by
 let{C,f,P,J,F,l,d,i,y,b,z}:=h.ex;rw[ř,ø]at g;intro v s σ H Q I u;show şg (pl:=pl) ?_ x;show OU I B F ?_ a;show W.method_cls ţ l (W.cls_value ţ d i rfl ?_);show šd (h₀:=Œ) űd y (zj (o pos v _ σ H _ Ğb u) λO G ⟨L,N,n,r,q⟩=>{n.xc,Qs z (E.mono hk) b .nil YI n r q}) (tQ g.1) (kK g.2)
#print a
def yp(K:Ð)(n:Ä)(P:Á V)(b a G H:Hp)(β:zk)(σ:St)(ms:Á M)(vs:Á V):È:=
 ∃(L:Ft) (H1:Hp),zl K n P b H1 G H β σ/\Ľ K G H ms vs L/\(∀q,L q->G q=Æ/\a q=Æ/\H1 q=H q)/\∀q,¬ L q->H1 q=a q
section
variable{K:Ð}{n:Ä}{P:Á V}{G0 H0 G H G' H':Hp}{β:zk}{σ:St}
def zl.hold{m:M}{v:V}(t:ċa<=n)(E:zl K ĸ P G0 H0 G H đc ìa):∃(L:Ft) (H1:Hp),zl K n P G0 H1 G H β σ/\xD K G H m v L/\(∀q,L q->G q=Æ/\H0 q=Æ/\H1 q=H q)/\∀q,¬ L q->H1 q=H0 q:=by
 classical
 let{e,F}:=ϗ;let{u,k,p}:=ϓ n m ĉf;rw[uA ŕc]at k;cases k
 let +zeta H1:Hp:=λq=>if e n q then H q else H0 q
 let e1:∀q,e n q->H1 q=H q:=λq z=>Ò z
 let e2:∀q,¬ e n q->H1 q=H0 q:=λq z=>Ô z
 let f:=E.down t;show{e n,H1,{{ŀc,λq o z=>?_,ύ,λq z=>?_},f.l1,f.l2,t,f.pin,λj=>if j<n then e j else λ_=>ê,λi x h=>?_,λi j q y r l=>?_,λi q z=>?_},p,λq z=>{ϻe.1,ϻe.2.1,e1 q z},e2};by_cases c:e n q;rw[Ũo];show ϥa _ _ z;rcases Ċb q z with w|w;show .inl w;by_cases c:e n q;show ß ēh.1 z;show .inr ŕe;have s:i<n:=by rw[<-f.l2];show åa.1
 let{u,k,p}:=ϓ i x (by rw[wB (by rw[f.l2];show s)];show h);rw[wB (by rw[f.l1];show s)]at k;simp only[Ò s];show{u,k,p};split at r;split at l;show Ŝ i j q y r l;show l;show r;rw[ão];rename_i c;let{a,b,d}:=Ϙ i q z;show{a,(e2 q λw=>Ŝ i n q É z w).trans b,d};show ģ
def yp.nil(E:zl K n P G0 H0 G H β σ):yp K n P G0 H0 G H β σ [] []:={λ_=>ê,H0,E,{rfl,λ_ z=>z},λ_ z=>ģ,λ_ _=>rfl}
def Ļc{m:M}{v:V}{L:Ft}{j:Hp}{ms:Á M}{vs:Á V}(o:xD K G H m v L)(d:∀q,L q->G q=Æ/\H0 q=Æ/\j q=H q)(p:∀q,¬ L q->j q=H0 q)(x:zh G0 G)(s:zh G G')(h:yp K n P G0 j G' H' β σ ms vs):yp K n P G0 H0 G' H' β σ şf Âc:=by
 let{l,r,i,t,a,b}:=h;let k:∀q,L q->Bx H q:=ýi m v L
 let f:∀q,L q->¬ l q:=λq z w=>by let e:=çd.2.1;rw[Ãc.2.2]at e;show(īi).some e
 let c:∀q,L q->H' q=H q:=λq z=>by let{u,g,_}:=k q z;rw[g];show i.ext.h _ _ ?_;rw[b q İi,Ãc.2.2];show g
 show{λq=>L q\/l q,r,i,{v,vs,L,l,rfl,ŧb s m v L c,t,f,λq=>äa},λq z=>?_,λq z=>?_};rcases z with z|z;show{?_,Ãc.2.1,by rw[b q İi,Ãc.2.2,c q z]};cases e:G' q with
 |Æ=>rfl|À w=>
  let{u,g,_}:=k q z;let e2:r q=À u:=by rw[b q İi,Ãc.2.2];show g
  rcases i.ext.new q Ŝc with w|w;cases e3:G0 q with
  |Æ=>show ß e3 w|À o3=>have:=x _ _ e3;rw[Ãc.1]at this;cases this
  rw[e2]at w;cases w
 show{Äc.1,?_,Äc.2.2};let e:=Äc.2.1;rw[p q λw=>f q w z]at e;show e;rw[b q λw=>z ϙb,p q λw=>z Åd]
theorem yp.tab{ks:Á Ą}{ms:Á M}{vs:Á V}{p:Í}{d:D}(g0:zh G0 G)(h:yp K n P G0 H0 G H β σ (.own d::ms) (.ref p::vs))(l:ġ=ö)(X:ό<=ã) :zl K ĸ P G0 H0 G žh (β++[À ûh]) Ŭg:=by
 let{L,H1,E,{v,r,La,Y,e,oa,O,R,u},a,b}:=h;cases e;let{p',W,J,t}:=oa;cases W;let N:L p:=(u p).mpr (.inl Ňl);let A:∀q,q≠p->žh q=H q:=λq z=>zt z
 let{S,F}:=ϗ
 let I:∀i q,S i q->¬ L q:=λi q z w=>by rw[Ģo]
 show{{ŀc,λq o z=>?_,λq o z=>?_,λq z=>?_},by rw[ĥo],by rw[šo],by rw[Ňo],λi w h=>?_,λj=>if j<n then S j else if j=n then L else λ_=>ê,λi C h=>?_,λi j q Q k f=>?_,λi q z=>?_};let c:¬ L q:=λw=>by rw[Ŗo]
 rw[A q λw=>c (w▸N)];show ϥa _ _ Ðl;rw[A q λw=>by subst w;rw[(a q N).1]at z;cases z];show ύ _ _ z;rcases Ċb q z with w|w;rw[êo]
 rw[wB hi];show Èa i w h;rcases ZO h with⟨c,e⟩|⟨c,e⟩;rw[č]at c;let{w,T,U}:=ϓ i C e;refine{w,by rw[ϝo];show T,?_};simp only[Ò c];show U.loc Űa C w _ λq z=>A q λw=>I i q z (w▸N);cases e;rw[č]at c;subst c;show{_,uA Ė,?_};simp only[ſa,Ŧ,Ň];show{p,vs,Y,rfl,yL,l,ϛa (λC _ v' L3 s o=>ŧb Űa C v' L3 λq z=>A q λc=>R q ((t q).mpr c) Ŏb) O,X,λz=>R p Ňl z,λq=>?_};rw[u q,t q];split at k;split at f;show Ŝ i j q Q k f;split at f;show I i q k f;show f;split at k;split at f;show I j q f k;split at f;show Q É;show f;show k;let bx:∀q,L q->Bx H q:=λq z=>by rcases(u q).mp z with z|z;cases(t q).mp z;show J.bx;show Ņb (λm _ v L1 J=>J.cells m v L1) O q z
 let B:∀q,Bx H q->Bx žh q:=λq z=>by by_cases c:q=p;subst c;show{_,yL,rfl};let{u,hu,Z}:=z;show{u,(ķi).trans hu,Z}
 rw[ão];let{x,y,w}:=Ϙ i q z;show{x,by rw[b q (I i q z)]at y;show y,B q w};rw[ão];show{Äc.1,Äc.2.1,B q (bx q z)};show ģ
#print a
structure MD(X:Cx)(pos:Pos)(Œc:Á Īc)(îd:Á Ó)(ks:Á Ç)(fs:zk->Ê Ğa):È where
 h:∃trs,V5 X pos Œc îd trs/\∀{P:Á V}{G0 H0 G H:Hp}{β β':zk}{σ:St}{ms:Á M}{Q:Á ëe->Hp->È},zl X.K ô P G0 H0 G H β σ->fs β=À (ms,β')->(∀vs G' H',zh G G'->yp X.K ô P G0 H0 G' H' β' σ ms vs->ö=ġ->Q ık H')->J3 trs σ H Q
nonrec def Z0:zk->Ê Ğa:=λβ=>À ([],β)
nonrec def uI(f:xC)(r:zk->Ê Ğa):zk->Ê Ğa:=λβ=>(ĥb).bind λa=>(r a.2).bind λb=>À (a.1::b.1,b.2)
nonrec def Ds(ks:Á Ç)(fs:zk->Ê Ğa):xC:=λβ=>(šf).bind λr=>match decide (ġ=r.1.length)with
 |Å=>À (.tab Án r.1,r.2)|Ã=>Æ
nonrec def jP(i:Ä):xC:=λβ=>match β[i]? with
 |À ϣa=>À (m,β.set i Æ)|_=>Æ
section
variable{X:Cx}{v:Ó}{x:Ç}{xp pos:Pos}{fv:xC}
def z1r:MD X pos [] [] [] Z0:={{_,cH,λ{P c d G H β β' σ b Q} E a q=>by rw[όo]}}
def Qa{j:Ä}{ks:Á Īc}{vs:Á Ó}{xs:Á Ç}{fs:zk->Ê Ğa}(hv:MC X v fv)(y:MD X pos ks vs xs fs):MD X pos Ŋj Âc Ñe (uI fv fs):=by
 let{N,t,i}:=řa;let{F,f,k}:=y.h;show{{_,cG Vp t f,λ{P R A G H β β' σ J Q} E c q=>?_}};rw[Żo];obtain⟨⟨s,β2⟩,w,c⟩:=zF c;cases c;show i E z λu K B p n=>?_
 let{L,O,d,o,a,b}:=n.hold œ;show k d w λr I C e h l=>?_
 show q (u::r) _ _ (p.trans e) (Ļc o a b d.ext.g e h) œe
def z1q{e:Á Īc}{f:Á Ó}{ks:Á Ç}{fs:zk->Ê Ğa}(h:MD X pos e f ks fs)(R:ks.Nodup)(u:ġ<=15)(k:Î (e.all (·.isSome)=Å) q12)(N:Î (e.length=ģa) q12)(S:Î (e≠[]) q16)(n:Î (e.length<=15) q10) :MC X (.Dict e f pos) (Ds ks fs):=by
 let{W,B,I}:=h.h;show{{_,bz B k N S n,λ{P Z H0 G H β β' σ m Q} E j q p s=>?_}};obtain⟨⟨ms,β1⟩,Y,j⟩:=zF j;let C:zV G H G þf:=ĭa ύ s;let J:=E.Mi (d:=.dic [] []) C s (Ϝe s) {[],yL,rfl,rfl,Ϡ _};let{L,Hb,y,o,a,b}:=J.hold œ;show I y Y λx A O w F l=>?_
 let i:=Ļc o a b y.ext.g w F;let r:(Öb ôa:Á zX).length=Úb:=by rw[æ,l]
 split at j;rename_i c;let c:=ī c;cases j
 let e2:O p=À ŭd:=by
  let{L2,H3,E3,{v',r',La,Lb,K,oa,_},_}:=i;cases K;let{p',v,{t,T,z,_},_}:=oa;cases v;cases t with
  |nil=>show T|ú _ _=>cases z
 refine{e2,(Öb ôa:Á zX).zip x,No,by rw[Úa,r,ϰ,l];show u,?_};rw[EO _ [] (by rw[Nn r];show łd _ Ğd R) òh,ųe];let U:zh Z A:=ϝe w;show q _ A _ w (yp.tab U i r ?_);rw[<-c];show İa É;cases j
def zl.moved{K:Ð}{n i:Ä}{P:Á V}{p l G H:Hp}{β β':zk}{σ:St}{m:M}(E:zl K n P p l G H β σ)(f:jP i β=À (m,β')):∃v,σ[i]?=À ŧ/\zl K ĸ P p l G H ϗg ìa:=by
 unfold jP at f
 rw[Ăo];rename_i g r;cases f;let{o,F}:=ϗ;have x:i<n:=by rw[<-č];show(Ł r).1
 let{v,B,s}:=ϓ i m r;refine{v,B,{ũb,by rw[ĥo],by rw[Ă,Ϻ,č];rfl,by rw[Ňo],λj w h=>?_,λj=>if j=i then ßf else if j<n then o j else if j=n then o i else λ_=>ê,λj g h=>?_,λj k q d b a=>?_,λj q z=>?_}};let t:j<σ.length:=by rw[Êo]
 rw[wB t];show Èa j w h;rcases ZO h with⟨c,e⟩|⟨c,e⟩;rcases vO e with⟨_,w⟩|⟨d,w⟩;cases w;rw[Ϻ,č]at c;let{u,A,y}:=ϓ j g w;simp only[Ô d,Ò c];show{u,by rw[ϝo];show A,y};cases e;rw[Ϻ,č]at c;subst c;show{_,uA Ė,?_};simp only[Ô (ûb x),ſa,Ŧ,Ň];show s;rw[Ĉo];show b;rw[ŕo];show a;rw[Òo];show Ŝ j k q d b a;rw[Òo];show Ŝ j i q É b a;show a;rw[ŕo];show a;rw[Òo];show Ŝ i k q É b a;rw[Ϝo];rw[ão];show ģ;rw[ão];show Ϙ j q z;rw[ão];show Ϙ i q z;show ģ;cases f
def bP(i:Ä){x:Ç}{pos:Pos}(e:Î ϐb q12)(hv:Î Ϩb q14)(f:Î Ģ q10)(a:Î Śa q10):MC X ϻ (jP i):={{_,ZE e hv f a,λ{P g h G H β β' σ m Q} E d q=>by let{v,c,b}:=ći d;show{v,c,q v G H Űa b}}}
#print a
#print L3
namespace L2
open Ĩ ĺ ϐ ĭ
section
variable{X:Cx}{c e:Ó}{es:Á Ó}{t:TA}{tc:TE}{pos:Pos}{j:Ä}
nonrec def y3v(X:Cx)(j:Ä)(tc:TE)(t:TA):TE:=λσ H Q=>tc σ H λv c=>∃(f:Í) (fd:ŀ) (ps:Á Ç) (k:Ä) (sp:Sp),v=.ref f/\k<=j/\áa X.K Ļ=Å/\uQ X.K fd ps []/\xO ò X.w X.K ñ Œ xK k f fd ps sp/\t σ c λa b=>sp (a++[]) b Q E0
def z7p(y:ym j X.A)(p:PE X c tc)(m:PA X Ē t)(a:Î êa q12)(d:Î (ċ Įk Ö=(do Œb pos (<-ċ c Ö) [] Űc Ĳb)) q12):PE X Įk (y3v X j tc t):=by rw[Ćo];rw[ř,ø]at a;rw[d];show Ø (zj Ĳg λu x ⟨v,G,n,o,f,N,B,k,C,z,l,w,b,F,q⟩=>?_);subst z;cases o;show šd (h₀:=Œ) űd w (zj (m pos i x σ _ _ n q) λL K ⟨J,E,g,r,q⟩=>{g.xc,?_}) Ói Þi;show Qs F (y.mono l) b .nil YI g r q
#print a
#print L2
namespace L3
open Ĩ ĺ ĭ L2
def Zt(K:Ð)(w:è)(b:Ç->Ê Value)(a:Í)(ks:Á zX)(ns:Á Ç):È:=
 ∃fs:Á Í,Ìa=Ã/\ġ=ŋa/\(∀(i:Ä)(n:Ç),ns[i]?=À n->∃f,fs[i]?=À f/\b n=À Ļ)/\ϡ=ŋa/\∀(P:ï)(h:Heap),Ţ h->∃vs,KV (űf źh) vs/\Çd Ċa a vs
inductive XA(mg:Ç->Ê Value):Á Ç->Á Í->È
 |nil:XA mg [] []
 |ú {n:Ç} {f:Í} {ns:Á Ç} {fs:Á Í} (h:mg n=À Ļ) (r:XA mg ns fs):XA mg Īi (f::fs)
theorem XA.at_{c:Ç->Ê Value}:∀{ns:Á Ç}{fs:Á Í},XA c ns fs->(∀(i:Ä)(n:Ç),ns[i]?=À n->∃f,fs[i]?=À f/\c n=À Ļ)/\ϡ=ŋa
 |_,_,.nil=>{λi n h=>ĝm,rfl}|_,_,.cons h r=>by
  let{a,b}:=r.at_;show{λi n e=>?_,by rw[Ġ,Ġ,b]};cases i with
  |ϛ=>cases e;show{_,rfl,h}|Ϝ i=>show a i n Âb
theorem fM:∀{fs:Á Í},zm źh ĺn
 | []=>.nil|_::_=>.cons rfl fM
def oC{K:Ð}{d:Ç->Ê Value}{w:è}{a:Í}{es:Á ċb}{n:Ä}{xs ns:Á Ç}{fs:Á Í}(l:Ϗ a=À { cls:=.type ŷ,ā:=.dict ĳh n })(e:jg w es xs ĺn)(j:Įc)(i:Ìa=Ã)(m:XA d ns fs) :Zt K w d a Ēc ns:=by
 let c:(ġb ôa:Á zX).length=(źh).length:=by rw[æ,e.len,æ,æ]
 let{f,k}:=m.at_;refine{fs,i,by rw[c,æ],f,k,λP h g=>{_,Cz fM c,?_}};rw[Žo];refine{_,_,_,g _ _ l,{rfl,rfl,rfl},rfl,λe o=>q e Žk,p,?_};rw[Lw þg];show łd _ Ğd j
section
variable{X:Cx}
def oA{A:Í}{ks:Á zX}{ns:Á Ç}(g:Zt X.K X.w ñ A ks ns):ye X ϖd (λx y H Q=>y=.ref A/\∃k,x=kV k/\Q ńl H):=by intro j s σ H x y v u Q I f e h;let{rfl,k,rfl,q}:=h;cases e;let{l,a,c,_,_,i}:=g;let{m,b,d}:=i ò à ţ;show Ľm (jU f) a āi ?_;rw[<-(b.val k).WS,ZT k ŕk,Fe k ŕk];show{.bl _,H,ϊ _,rfl,q}
def y3h{A:Í}{ks:Á zX}{ns:Á Ç}{x:Ç}{p pos:Pos}{a:Ó}{e:FE}(h:wd ñ x ŕb)(g:Zt X.K X.w ñ A ks ns)(n:Gl X x)(m:SE X a e)(s:Î Ģ q10)(t:Î (ϑb .In Øa=Ã) q12) :ST X (.Compare a [.In] [.Name x p] pos) (tE (e1 (Y5 ks) e)):=by let{B,l,f}:=m.h;show{{_,G8 (oA g) l (X_ h n s) t,λ{I C G H τ σ d Q} E c q=>?_}};let{z,b,c}:=zF c;let{y,r,b}:=zF b;let{k,i,b}:=zF b;cases b;cases c;show f E r λu v F o j=>{rfl,k,g_ i j,_,rfl,q _ _ o}
def oB{A:Í}{ks:Á zX}{ns:Á Ç}(g:Zt X.K X.w ñ A ks ns):qr X (λx y H Q=>x=.ref A/\∃k n,y=kV k/\ĩ ks ns k=À n/\∀f,ñ n=À Ļ->Q Ļ H):=by
 intro l p W s σ H x y v u Q I O J h Y;let{rfl,k,n,rfl,U,q}:=h;cases O;let{a,C,N,b,T,S}:=g;let{R,m,B}:=S ò à ţ
 let j:∀{ks:Á zX}{ns:Á Ç}{a:Á Í},(∀(i:Ä)(n:Ç),ns[i]?=À n->∃f,a[i]?=À f/\ñ n=À Ļ)->ĩ ks ns k=À n->∃f,ĩ ks (a.map Ħb) k=À Ļ/\ñ n=À Ļ:=λ{ks}=>by
  induction ks with
  |nil=>intro ns a _ e;cases e|ú k' ks ih=>
   intro ns a b e;cases ns with
   |nil=>cases e|ú n' ns=>
    let{Z,t,m0}:=b 0 n' rfl;cases a with
    |nil=>cases t|ú f1 a=>cases t;unfold ĩ at e;rw[Ť];unfold ĩ;by_cases c:k'=k;rw[Ò c]at e ⊢;cases e;show{_,rfl,m0};rw[Ô c]at e ⊢;show ih (λi n h=>b õ n Áb) e
 let{f,P,E}:=j b U;let{z,G,d}:=ğc (v:=Ħb f) (o:=Ĝb R k) (by rw[<-P,<-ZT k (by rw[æ];show N)];show m.val k)
 show Ęd (x:=z) B.typeIs Ôg
  (ĭe (Q:=λr L=>r=z/\EP X W σ Q r L) (jU J) B.mapOf G {rfl,_,H,ϊ _,d,q f E}) Y
inductive vS(X:Cx)(j:Ä):Á Ç->Á FM->È
 |nil:vS X j [] []
 |ú {n:Ç} {ps:Á Ç} {k:Ä} {F:FM} {ns:Á Ç} {Fs:Á FM} (h:wH ò X.w X.K ñ Œ n ps k Ϧb) (hk:k<=j) (r:vS X j ns Fs):vS X j Īi (F::Fs)
theorem vS.get{X:Cx}{j:Ä}{k:zX}{F:FM}:∀{ks:Á zX}{ns:Á Ç}{Fs:Á FM},vS X j ns Fs->ĩ ks Fs k=À F->∃n ps i,ĩ ks ns k=À n/\i<=j/\wH ò X.w X.K ñ Œ n ps i Ϧb
 | [],_,_,_,e=>by cases e|_::_,_,_,.nil,e=>by cases e|k'::ks,_,_,.cons (n:=n) (ps:=ps) (k:=i) h hk r,e=>by unfold ĩ at e;rw[Õo];show{n,ps,i,by unfold ĩ;rw[Ò c],hk,h};rw[Ô c]at e;let{d,a,f,b,g}:=Ÿa e;show{d,a,f,by unfold ĩ;rw[Ô c];show b,g}
def Du(ks:Á zX)(a:Á FM)(b:FE)(c:tY):xC:=λβ=>(b Ϸc).bind λx=>(öd).bind λk=>(ĩ ks a k).bind λF=>qS F c β
def z1m{A:Í}{ks:Á zX}{ns:Á Ç}{z:Á FM}{x:Ç}{p p2 pos:Pos}{k e:Ó}{es:Á Ó}{B:FE}{t:tY}{j:Ä}(h:wd ñ x ŕb)(g:Zt X.K X.w ñ A ks ns)(hg:Gl X x)(D:vS X j ns z)(hr:ym j X.A)(hk:SE X k B)(R:MA X Ē t)(hs:Î ãf q12)(hd:Î Ģ q10)(S:Î êa q12)(l:Î (ċ Ŏn Ö=(do Œb pos (<-ċ öj Ö) [] Űc Ĳb)) q12):MC X Ŏn (Du ks z B t):=by
 let{tk,J,kk}:=œc;let{ta,N,ka}:=R.h;show{{_,z7p hr (Vo (oB g) (X_ h hg hd) J (Vr hs)) N S l,λ{P G0 H0 G H β β' σ m Q} E a q=>?_}};let{y,hy,a}:=zF a;let{r,d,a}:=zF a;let{F,hF,a}:=zF a;let{as,o,a}:=zF a;let{n,L,i,hn,hi,{f,fd,hm,T,b,Z}}:=D.get hF;let{G1,U,ϔ}:=E.u_;show kk U hy λu G2 H2 x2 O=>?_
 let{G3,W,C,_}:=ϔ _ _ x2;show{rfl,r,n,g_ d O,hn,λf' c=>?_};rw[hm]at c;cases c;show{f,fd,L,i,_,rfl,hi,T,b,Z,ka C o λvs G4 H4 I Y=>?_};rw[Ûa];show(C.go I).call Y a λv G' H' s K'=>q v G' H' (W.g.trans (I.g.trans s)) K'
#print a
def xQ(a:Á Ç)(f:Ç):D->Ê D
 |.obj x fs vs=>if x∈a then ź fs vs f else Æ|_=>Æ
theorem Ğn{K:Ð}{G:Hp}{κ:Type}[ņb κ]{k:κ}{d:D}:∀{ks:Á κ}{ds:Á D}{vs:Á V},á K G ds vs->Ći ks ds k=À d->∃v,Ći ks vs k=À v/\zd K G d v
 | [],_,_,_,e=>by cases e|_::_,[],_,_,e=>by cases e|k'::ks,d'::ds,vs,r,e=>by let{v,f,rfl,b,a}:=r;unfold Ći at e ⊢;by_cases c:k'=k;rw[Ò c]at e ⊢;cases e;show{v,rfl,b};rw[Ô c]at e ⊢;show Ğn a e
nonrec def w_(c m:Ç)(b:FE)(fs:FA):FA:=λτ=>(b τ).bind λo=>match o with
 |.obj x fl _=>match decide (x=c)&&!(decide (m∈fl))with
  |Å=>(fs τ).bind λa=>À (o::a)|Ã=>Æ
 |_=>Æ
section
variable{X:Cx}{e o:Ó}{f m c:Ç}{cs:Á Ç}{fe fo:FE}{pos ϙ:Pos}{ps:Á Ç}{j k:Ä}{FF:Á D->Ê í}
def w8(h:SE X e fe)(k:wt X.K cs f)(w:Î űj q12):SE X ŀe (e1 (xQ cs f) fe):=by
 let{t,p,o}:=h.h;show{{_,b_ p w,λ{P F G H τ σ d Q} E b q=>?_}};let{y,r,b}:=zF b;show o E r λv O J c j=>?_
 unfold xQ at b
 rw[Ĉo];rename_i x I L;by_cases hx:x∈cs;rw[Ò hx]at b;let{a,C,s,N,rfl,A,i,l,g}:=j;let{u,m,B}:=g.getA b;let{n,z}:=k x hx C A;show{a,C,s,_,u,rfl,çb _ _ i,n,z,by rw[OV];show m,q _ _ _ c B};rw[Ô hx]at b;cases b;cases b
def dk{f b G H:Hp}{τ:zx}{σ:St}{ds:Á D}{Q:VK}{C:Í}{t:TA}{n:TE}{sp:Sp}{fs:FA}(k:ſ X.K ē c=À ïa)(I:∀{f b G H:Hp}{τ:zx}{σ:St}{d:D}{Q:VK},zu X.K ô f b G H τ σ->fo τ=À d->(∀v G' H',zV G H G' H'->zd X.K G' d v->Q v H')->n σ H Q)(B:∀{f b G H:Hp}{τ:zx}{σ:St}{ds:Á D}{Q:Á V->Hp->È},zu X.K ô f b G H τ σ->fs τ=À ds->(∀vs G' H',zV G H G' H'->á X.K G' ds vs->Q vs H')->t σ H Q)(E:zu X.K ô f b G H τ σ)(j:w_ c m fo fs τ=À ds)(q:∀vs G' H',zV G H G' H'->á X.K G' ds vs->sp vs H' Q E0):LO C m sp [] E0 n t σ H Q:=by
 let{y,F,e}:=zF j
 rw[Ŝo];rename_i x z vs
 rw[Ŝo];rename_i i;rw[ø]at i;cases ī i.1
 let L:m ∉ z:=by let:=i.2;simpa using this
 let{A,J,j}:=zF e;cases j;show I E F λv S T h o=>?_
 let{a,P,s,Y,rfl,r,w,l,O}:=id o;rw[k]at r;cases r;show{a,s,_,rfl,h.gh _ _ w,EH L,B (Ϲ h) J λvs R U p u=>?_};rw[Ûa];show q _ _ _ (Õd p) {_,vs,rfl,Êe p.g,u};cases e;cases e
def eN{G H:Hp}{ds:Á D}{vs:Á V}{Q:VK}{b a:Hp}{d:D}{o:Ï}{E:XK}(x:zV b a G H)(r:á X.K G ds vs)(g:FF ds=À (o,d))(q:∀v G' H',zV b a G' H'->zd X.K G' d v->Q v H'):vQ X.K FF vs H Q E:=by
 show{G,ds,o,d,Ĳa,r,g,?_};cases o with
 |Ã=>show λv G' H' c r=>q v G' H' (Ód c) r|Å=>intro p G' H' c f e o;let{u,h,r}:=o.yD e;show q _ _ _ (Ód (c.yD f e h)) r
def YR{pl:Sem Ï}(h:qq ò X.w X.K ñ Œ c m ps k Êf)(B:ym j X.A)(n:SE X o fo)(hk:Î Ťb q10)(z:ċ řc Ö=(do
   let ov <-ċ o Ö
   standAt Ěc
   let (f,first) <-holding [ov] ñc
   Œb pos f first įg Ĳb):=by rfl):SE X řc (zg FF (w_ c m fo zG)):=by
 let{C,f,R,L,p,g,b,F}:=h;let{T,s,v}:=n.h;show{{_,c9 s p g F (B.mono hk) b .nil YI z,λ{J i G H τ σ d Q} E a q=>?_}};let{u,y,a}:=zF a;obtain⟨⟨O,U⟩,I,a⟩:=zF a;cases a;show dk (t:=YU) L v (λ{J i G H τ σ u Q} l e N=>by cases e;show N _ _ _ ţl rfl) E y λP W S x r=>eN x r I q
def y2g{pl:Sem Ï}{es:Á Ó}{fs:FA}(h:qq ò X.w X.K ñ Œ c m ps k Êf)(I:ym j X.A)(p:SE X o fo)(l:SA X Ē fs)(hk:Î Ťb q10)(g:Î êa q12)(B:ċ Ğe Ö=(do
   let ov <-ċ o Ö
   standAt Ěc
   let (f,first) <-holding [ov] ñc
   Œb pos f first Űc Ĳb):=by rfl):SE X Ğe (zg FF (w_ c m fo fs)):=by
 let{C,f,S,L,s,n,b,F}:=h;let{U,u,y}:=p.h;let{t,i,v}:=l.h;rw[ř,ø]at g;show{{_,z7z u s n F (áe hk) b .nil YI i (tQ g.1) (kK g.2) B,λ{Z O G H τ σ d Q} E a q=>?_}};let{R,z,a}:=zF a;obtain⟨⟨N,W⟩,J,a⟩:=zF a;cases a;show dk L y v E z λP Y T x r=>eN x r J q
#print a
theorem Ģf{K:Ð}{G H:Hp}{k:Sum Â Ç}{d:D}{w:V}(i:zd K G d w):∀{ks:Á Ą} {ms:Á M} {vs:Á V} {L:Ft},Ľ K G H ms vs L->ġ=ö->∃L',Ľ K G H (ύa (λk' x=>if k'=k then M.fz d else x) ks ms) (ύa (λk' x=>if k'=k then w else x) ks vs) L'/\∀q,L' q->L q
 | [],ms,vs,L,h,l=>{λ_=>ê,{rfl,λ_ z=>z},λ_ z=>ģ}|_::_,[],vs,L,h,l=>by let{rfl,n}:=h;cases l
 |k'::ks,m::ms,vs,L,h,l=>by let{v,r,g,s,rfl,p,o,j,u}:=h;let{L',f,e}:=Ģf (k:=k) i o Ìe;rw[êc,êc];rw[äo];show{L',{w,_,λ_=>ê,L',rfl,{i,λ_ z=>z},f,λ_ z=>ģ,λq=>{.inr,λz=>ģ Áa id}},λq z=>(ũ).mpr žl};rw[ϛo];show{λq=>g q\/L' q,{v,_,g,L',rfl,p,f,λq a b=>j q a (e q b),λq=>äa},λq z=>?_};rcases z with z|z;show(ũ).mpr ťa;show(ũ).mpr žl
def QZ(i:Ä)(π:Á xH)(k:Ç)(d:FE):yU:=λβ=>(ϟc).bind λe=>match e with
 |.tab ks ms=>match vJ ks ϩ&&decide Âi with
  |Å=>(ź ks ms ϩ).bind λc=>(uG c).bind λc=>match c with
   |.int a=>(d Ϸc).bind λy=>match y with
    |.int b=>(Ιc (.tab ks (xV ks ms ϩ Łg))).bind λβ2=>À ϝa|_=>Æ
   |_=>Æ
  |Ã=>Æ
 |_=>Æ
section
variable{X:Cx}{np:Ä}{o v:Ó}{i:Ä}{π:Á xH}{k:Ç}{kk:Ä}{kp pos Őc:Pos}{fe:FE}
def bS(hu:ĉa+1<Ū)(ho:SP X o i π)(hv:SE X v fe):MS X np (.AugAssign (.Subscript o ĺe Őc) .Add v pos) (QZ i π k fe):=by
 let{tv,pv,kv}:=řa;rw[Ņo];show{{_,z8z hu po Vp pv aZ (λ_ _ _=>rfl),λ{P G0 H0 G H β σ fl E} hP K f q=>?_}};let{nd,hn,f}:=zF f
 rw[Ăo];rename_i g ms
 rw[Ăo];rw[þo];let Z:=c.1;let hl:=ī c.2;let{ch,N,f}:=zF f;let{dc,U,T}:=zF f;cases jO U
 split at T;rename_i a;let{y,hy,f}:=zF T
 rw[Ăo];rename_i b;let{β2,hβ,f}:=zF f;cases f;let{mm,W,ha}:=g7 hn;rw[Ÿo];let{r,v1,L1,Lr,er,va,o1,_}:=K0.write Ôa W ha;let{p,vs,L',rfl,hp,l,rs,l2,nL,uL}:=o1;let{vc,Lc,ec,{rc,_},_}:=ěc rs N;cases(show vc=_ from rc);refine ko er va {p,_,rfl,.inl {_,.inr k,.inl hp,rfl,by rw[ZT _ l,<-Fd];show ec.symm},?_};let{Ga,Ea,ϔ}:=K.u_;show kv Ea hy λu G2 C x2 r2=>?_
 cases(show u=_ from r2);let{G3,x3,K3,_}:=ϔ _ _ x2;let K4:=K3.gQ (d:=.int Ċd) (v:=.int Ċd) rfl;let{r',v1',L1',Lr',t,R,O,orr,dj,wr}:=K4.write Ôa W ha;rw[er]at t;cases t;cases Ģb (va.mono x3.h) R;let{p',e,J,e0,Q,m,n,ux,B,j}:=O;cases e0
 let ez:wW (g.zip e) ϩ Éh=g.zip (xV g e ϩ Éh):=by rw[JD m];unfold vM;rw[Ò Z]
 let k1:∀q,q≠p->Ćm q=C q:=λq z=>zt z
 let L:Ľ X.K G3 Ćm ms e J:=ϛa (λm' _ v' I s o=>ŧb Űa m' v' I λq z=>k1 q λc=>B ĝh) n;let{I,o3,Y}:=Ģf (k:=.inr k) (d:=.int Ċd) (w:=.int Ċd) rfl L m
 let F:∀{α:Type}(S:Á α)(z:α),xV g S ϩ z=ύa Ďj g S:=λS z=>by unfold xV;rw[Ò Z]
 let{m',e',K5}:=wr (H':=zU C p ϑi) (m2:=.tab g (xV g ms ϩ Łg)) (L2:=λq=>q=p\/I q) (λq z=>k1 q λc=>z ((j q).mpr (.inl c)))
  {p,xV g e ϩ Éh,I,rfl,by rw[yL,ez],by rw[F,ϋa,m,ϰ],by rw[F,F];show o3,by rw[F,ϋa,n.length.symm.trans m.symm,ϰ];rw[<-Ϩd,<-m]at l2;show l2,λz=>B (Y p z),λq=>äa} (Εd (j q) (j q) (.inr (Y q z)))
 rw[YK W e']at hβ;cases hβ;show{_,_,rfl,rfl,_,.inl {_,.inr k,Q,rfl,by rw[Úa,m,ϰ,ľ,<-m];show hl,rfl},q _ _ _ K5};cases f;cases T;cases f;cases f
#print a
def EK(a:Ä)(i:Ä)(π:Á xH)(b:FE)(fv:xC):yU:=λβ=>(Òe).bind λr=>(œb).bind λy=>match y with
 |.tup [d1,d2]=>(qb äg i π).bind λc=>match c with
  |.own Ϯc=>(b (qk äg)).bind λx=>match x with
   |.int j=>(ěh).bind λn=>(Ġb äg i π (.own (Δ (Ëe n d2)))).bind λβ2=>À ϝa|_=>Æ
  |_=>Æ
 |_=>Æ
section
variable{X:Cx}{np:Ä}{o k v:Ó}{ix i:Ä}{x:Ç}{π:Á xH}{fk:FE}{fv:xC}{px pos Ża pt:Pos}{kk:Ä}
def z23(hc:Š=Å)(hx:QG X ŗg (vy ix))(hi:X.N[ix]?=À x)(hn:np<=ix)(ho:SP X o i π)(hk:SE X k fk)(hv:MC X v fv)(hp:Î ãf q12)(n:Î ((Ãh).map (·.2)=ůa ŗg Ö::(Âh).map (·.2)) q12)(t:Î ((Âh).map (·.2)=ůa Ēg Ö::(Ĺb [] Ö).map (·.2)) q12)(s:Î ((Ãh).length=2) q12)(Q:Î ((Ãh).findIdx? (·.1)=Æ) q12)(hs:Î (Ϯg Ŏe v Ϣc Ö=pure Ã) q12)(hw:Î (še Ŏe v Ö=pure Æ) q12)(h1:Î ((Ĺb Ŏe Ö).map (·.2)=[ůa (.Tuple ϧf kk pt) Ö]) q12) :MS X np (.Assign Ŏe v pos) (EK ix i π fk fv):=by
 let{tk,pk,F}:=œc;let{tv,pv,kv}:=řa;rw[Ņo];show{{_,Ot pv (ZH hc (uW hx (uW (GJ {po} {pk} Kr hp) ZI t) n) s Q).h hs hw h1,λ{P G0 H0 G H β σ fl E} hP K b q=>?_}};rw[ŵo];let{y,ey,f}:=zF b;clear b;cases jO ey
 rw[Ăo];rename_i d1 d2;let{nd,L,b}:=zF f;clear f
 rw[Ĉo];rename_i ds;let{xk,B,b}:=zF b;cases xk with
 |int j=>
  let{e,A,b}:=zF b;let{β2,hβ,b}:=zF b;cases b;let{mm,R,ha}:=g7 L;show kv K hy λw G1 H1 s1 K1=>?_
  let{a,I,rfl,sq,{w1,r1,rfl,g1,{U,g,rfl,g2,g3}},_}:=K1.gO;cases(show g=[]from g3);let Kd:=K1.down Ôa;let Y:=Kd.Zd (i:=ix) (v:=w1) (Ł hi).1 É g1;let Kp:=Y.gQ g2;show{a,_,rfl,vi Kd.ext.gh sq,rfl,w1,_,rfl,U,_,rfl,?_};let{r,v1,L1,Lr,Z,va,_}:=Kp.write Ôa R ha;show ko Z va ?_;let{Ga,Ea,ϔ}:=Y.u_;show F Ea B λu G2 H2 x2 g=>?_
  cases(show u=_ from g);let{G3,W,_,_}:=ϔ _ _ x2;let K4:=Kp.go W;let{r',v1',L1',Lr',d,O,J,or',dj',C}:=K4.write Ôa R ha;rw[Z]at d;cases d;cases Ģb (va.mono W.h) O;let{p,rfl,{I,ev,T,l},S}:=J;let{m',e',K5}:=C (H':=zU H2 p (Δ (I.set e U))) (m2:=.own (Δ (Ëe e d2))) (L2:=λq=>q=p) (Ζb (S q)) {p,rfl,{_,yL,Ϭd K4.gO e T,by rw[Ϻ];show l},λ_=>äa} (Ζc (S q));rw[YK R e']at hβ;cases hβ;show{p,I,j,e,rfl,rfl,ev,by rw[T.length];show A,rfl,q _ _ _ K5}
 |_=>cases b
 cases b;cases f
#print a
open ϐ
mutual
nonrec def xw:D->PyData
 |.zE=>.none|.bl b=>.bool b|.int i=>.int i|.str x=>.str x|.tup ds=>.tuple ύn|.lst ds=>.list ύn|_=>.none
nonrec def pyTs:Á D->Á PyData
 | []=>[]|d::ds=>xw d::pyTs ds
end
mutual
nonrec def wD:D->Ä
 |.zE=>4|.bl _=>5|.int i=>if decide ϫa&&decide ųb then 20 else 1000000000|.tup ds=>wDs ds+3|.lst ds=>wDs ds+2|_=>1000000000
nonrec def wDs:Á D->Ä
 | []=>0|d::ds=>wD d+2+wDs ds
end
nonrec def uT:Ä->D->Ï
 |_,.zE=>Å|_,.bl _=>Å|_,.int _=>Å|n+1,.tup ds=>ñd çe|n+1,.lst ds=>ñd çe|_,_=>Ã
def Ik:Á D->Ê D
 | [.lst ds]=>match decide (wDs ds<=1000000)&&ñd ùd with
  |Å=>À ńn|Ã=>Æ
 |_=>Æ
theorem f6:∀(ts:Á Ç)(k:Ä)(acc:Ç),(textFrom k acc ts).length<=ĵh+ïe ts
 | [],k,acc=>ýc _ _|t::r,k,acc=>by
  let h:=f6 r š æj
  let e:(æj).length=ĵh+(if k>0 then 2 else 0)+Ϧd:=by
   rw[Ůc,Ůc]
   split<;>rfl
  rw[e]at h;rw[ϫm];exact(textFrom š _ r).length<=_;let:(if k>0 then 2 else 0:Ä)<=2:=by rw[āo]
  omega
def z15(a:Á Ç):(ϯh a).length<=ïe a+2:=by unfold ϯh;let h:=f6 a 0 "[";let e1:(("[" : Ÿ):Ç).length=1:=rfl;let e2:(("]" : Ÿ):Ç).length=1:=rfl;rw[Ůc,e2];rw[e1]at h;omega
def y7q(a:Á Ç):(ťh a).length<=ïe a+3:=by
 unfold ťh;rw[Ůc,Ůc];let e1:((("(" : Ÿ):Ç)).length=1:=rfl;let b:(((if ϴ==1 then ",)" else ")" : Ÿ):Ç)).length<=2:=by split<;>decide
 rw[e1];by_cases h:a=[];subst h;let:(Str.join ", " []).length=0:=rfl;omega;let:=join_length_add a h;omega
def Kv(d:D):wD d<=900000000->(Œa).shown.length<=wD d:=by
 let f:∀a:Á D,(∀d∈a,wD d<=900000000->(Œa).shown.length<=wD d)->wDs a<=900000000->ïe ħd<=wDs a:=λa=>by
  induction a with
  |nil=>intro _ _;show Üa _|ú x a g=>intro h k;let m:wD x+2+wDs a<=900000000:=k;let q:=h x ŉ É;let j:=g (λd n=>h d (Õa _ n)) É;exact ïe ((žf).shown::PyData.shownAll Öi)<=wD x+2+wDs a;rw[ϫm];omega
 show ŏc (P:=λd=>wD d<=900000000->(Œa).shown.length<=wD d) ?_ ?_ ?_ ?_ ?_ ?_ ?_ ?_ ?_ d;intro _;decide;intro b _;cases b<;>decide;intro i h
 change ÿe<=900000000 at h
 exact(ĕc (ϭh i)).length<=ÿe;cases c:(decide ϫa&&decide ųb)with
 |Ã=>rw[c,Ô Ì]at h;omega|Å=>
  rw[Ò rfl];rw[ø]at c;let e:(10:Â) ^ 20=100000000000000000000:=by decide
  let j:=ī c.2;rw[<-e]at j;show toString_length_le şn Ì j
 rw[Řo];intro a g h;let l:wDs a+3<=900000000:=h;let:=f a g É;let:=y7q ħd;exact(ťh ħd).length<=wDs a+3;omega;intro a g h;let l:wDs a+2<=900000000:=h;let:=f a g É;let:=z15 ħd;exact(ϯh ħd).length<=wDs a+2;omega;intro o a _ h;show ß h Ĕd;rw[Řo];intro x p a _ h;show ß h Ĕd
def y2w(d:D):wD d<=900000000->(Œa).showable=Å/\(Œa).hasDict=Ã:=by
 let g:∀f:Á D,(∀d∈f,wD d<=900000000->(Œa).showable=Å/\(Œa).hasDict=Ã)->wDs f<=900000000->Ţk Ĭf=Å/\Ϟk Ĭf=Ã:=λf=>by
  induction f with
  |nil=>intro _ _;show{rfl,rfl}|ú x f j=>
   intro h k;let n:wD x+2+wDs f<=900000000:=k;let{a,b}:=h x ŉ É;let{c,e}:=j (λd o=>h d (Õa _ o)) É
   rw[Ůo];exact((žf).showable&&Ţk Ĭf)=Å;rw[a,c];rfl;exact((žf).hasDict||Ϟk Ĭf)=Ã;rw[b,e];rfl
 show ŏc (P:=λd=>wD d<=900000000->(Œa).showable=Å/\(Œa).hasDict=Ã) (λ_=>{rfl,rfl}) (λb _=>{rfl,rfl}) ?_ ?_ ?_ ?_ (λp f _ _=>{rfl,rfl}) (λx _=>{rfl,rfl}) (λx r f _ _=>{rfl,rfl}) d;intro i h
 change ÿe<=900000000 at h
 show{?_,rfl};cases c:(decide ϫa&&decide ųb)with
 |Ã=>rw[c,Ô Ì]at h;omega|Å=>
  rw[ø]at c;let s:=ī c.1;let q:=ī c.2;exact decide (ϙe<1920)=Å;show å ?_;by_cases z:Őb=0;rw[z];decide;let e:(2:Ä) ^ 67=147573952589676412928:=by decide
  let m:Őb<2 ^ 67:=by rw[e];omega
  let:=(Šg z).mpr m;omega
 rw[Řo];intro f j h;let l:wDs f+3<=900000000:=h;show g f j É;intro f j h;let l:wDs f+2<=900000000:=h;show g f j É
theorem FB:∀(n:Ä)(d:D),uT n d=Å->(Œa).depth<=n
 |n,.zE,_=>Ϡ _|n,.bl _,_=>Ϡ _|n,.int _,_=>Ϡ _|0,.tup _,h=>by cases h|0,.lst _,h=>by cases h|n+1,.tup a,h=>by
  let b:∀a:Á D,Ąd çe=Å->čl Öi<=n:=λa=>by
   induction a with
   |nil=>intro _;show Ϡ _|ú x xs ih=>intro h;rw[ř,ø]at h;show Řl {FB n x h.1,ih h.2}
  show üc (b a h)
 |n+1,.lst a,h=>by
  let b:∀a:Á D,Ąd çe=Å->čl Öi<=n:=λa=>by
   induction a with
   |nil=>intro _;show Ϡ _|ú x xs ih=>intro h;rw[ř,ø]at h;show Řl {FB n x h.1,ih h.2}
  show üc (b a h)
 |n,.str _,h=>by cases n<;>cases h|n,.dic _ _,h=>by cases n<;>cases h|n,.exc _,h=>by cases n<;>cases h|n,.obj _ _ _,h=>by rw[ĳo]
section
variable{X:Cx}{z8:Á î}{σ:St}{H:Hp}{s:Ñ}
def y0e(I:zH X z8 σ H s)(d:D):∀(n:Ä)(v:V)(u:Value),uT n d=Å->zd X.K H d v->zw v u->∃as,Reads à u Œa as:=by
 let p:∀(c:Á D),(∀d∈c,∀(n:Ä)(v:V)(u:Value),uT n d=Å->zd X.K H d v->zw v u->∃as,Reads à u Œa as)->∀(n:Ä)(f:Á V)(w:Á Value),c.all çe=Å->á X.K H c f->zm f w->∃as,ReadsAll à w (pyTs c) as:=λc=>by
  induction c with
  |nil=>intro _ n f w _ r B;cases(show f=[]from r);cases B;show{[],.nil}|ú x c j=>
   intro h n f w z r B;let{v,F,rfl,L,J}:=r;rw[ř,ø]at z;cases B with
   |ú q1 q2=>let{as,k}:=h x ŉ n v _ z.1 L q1;let{N,G}:=j (λd l=>h d (Õa _ l)) n F _ z.2 J q2;show{_,.cons k G}
 show ŏc (P:=λd=>∀(n:Ä)(v:V)(u:Value),uT n d=Å->zd X.K H d v->zw v u->∃as,Reads à u Œa as) ?_ ?_ ?_ ?_ ?_ ?_ ?_ ?_ ?_ d;intro n v u _ r q;rw[ßo];cases(show u=_ from q);show{_,.none};intro b n v u _ r q;rw[ßo];cases(show u=_ from q);show{_,.bool b};intro i n v u _ r q;rw[ßo];let{t,rfl}:=(show ∃t,u=ϫb i t from q);show{_,.int i t};intro x n v u h;rw[ĳo];rw[ôo];cases n with
 |ϛ=>cases h|Ϝ n=>let{g,E,{o,e,A,m,l},_}:=Ϥ C;let{as,k}:=p c j n f g h y E;show{as,.tuple e A l žk}
 rw[ôo];cases n with
 |ϛ=>cases h|Ϝ n=>let{g,E,{o,m,e,A,_,l},_}:=ϒ C;let{as,k}:=p c j n f g h y E;show{_,.list e A l žk}
 intro Q c _ n v u h;rw[ĳo];intro x n v u h;rw[ĳo];intro x O c _ n v u h;rw[ĳo]
#print a
def cv(K:Ð):Á V->Hp->VK->È:=λa H Q=>∃ds v,a=[v]/\zd K H Ϯc v/\wDs ds<=1000000/\ñd ùd=Å/\Q ńn H
def AF{X:Cx}{j:Ä}(i:ym j X.A):wL X łg (cv X.K):=by
 intro B s σ H C y Q I r h;let{b,v,rfl,g,w,d,q}:=h;let{u,rfl,c}:=uO r;let{z,l}:=y0e I Ōb 6 v u d g c;let{a,x,rfl,_}:=g;cases c;let f:wD Ōb<=900000000:=by exact wDs b+2<=_;omega
 let{m,o}:=y2w Ōb f;let t:=FB 6 Ōb d;let G:=i.units;let E:=Kv Ōb f
 let p:(xw Ōb).shown.length<=ã:=by let:wD Ōb=wDs b+2:=rfl;rw[ċo]
 show repr_of_reads' l m (PyData.noDict_hsm o) i.gd É þm (λF u n k=>{.str _,H,Èc (t':=n) k,{_,rfl},q}) p
def bh{K:Ð}:jl K (cv K) Ik:=λG H g i d Q s r b q=>by
 rcases g with _|⟨x_,r_⟩;cases b
 cases x_<;>first|(cases b;done)|skip
 cases r_<;>first|(cases b;done)|skip
 rename_i a
 change (match decide ðl&&Ąd ùd with|Å=>À (θc (xw Ðd))|Ã=>Æ)=À d at b
 cases c:(decide ðl&&Ąd ùd)with
 |Ã=>rw[c]at b;cases b|Å=>
  rw[Ħo];let f:=ī c.1;let{v,rfl,e}:=qD r;let h:=Kv Ðd (by exact wDs a+2<=_;omega);show{a,v,rfl,?_,f,c.2,q _ _ _ ϑ {rfl,?_}};first|show e|show e.mono s
  let:wD Ðd=wDs a+2:=rfl;rw[ċo]
def lg{X:Cx}:wL X Ϣb (λxs H Q=>∃a kvs,xs=âa/\Rd H a Ń/\∀p,H p=Æ->Q Ž (zU H p Ń)):=by
 intro y s σ H xs z Q I r h;let{a,kvs,rfl,e,q}:=h;let{u,rfl,w}:=uO r;cases(show u=ą a from w);let{j,d,t,c,l}:=ju ĉ e;let g:Ϧd=ĵ:=j7 c;refine kt_call_dict d l (by rw[g];show j) λv x n=>?_
 let i:Èn=Ã:=by let:=I.big;rw[ĺk];show wV Än
 let m:∀b o,ć b=À o->v.get? b=À o:=λb o k=>by let f:=Ĭ k;show(n.2 b Ďm).trans (ğ _ k)
 show{.ref Þ,_,őa (a:=Þ) (o:=.dK kvs) (t':=ĕ) m Ę (IU j i c x),rfl,q _ Úd}
nonrec def Ie:Á D->Ê D
 | [.dic ks ds]=>À ım|_=>Æ
def y2p{X:Cx}{e:Ó}{fs:FA}{p pos:Pos}(r:Gl X ŷ)(x:ñ ŷ=Æ)(hv:ş ŷ=À Ϣb)(j:SA X [e] fs)(s:Î ϳ q12):SF X Ņk (eL Ie fs):=by
 let{t,o,k}:=j.h;refine{{_,(W1 lg r x hv {o} Ì Ì ώk).h,λ{J B G H τ σ d Q} E b q=>?_}};let{I,w,b}:=zF b;show k E w λC A F c m=>?_
 unfold Ie at b
 rw[Ĉo];rename_i y z;cases b;let{v,rfl,a,u,rfl,i,n,g,l}:=qD m;show{a,_,rfl,Ŗb çb i,λp f=>?_};show q p _ _ Ūk (Ϫd f) (õf f) {u,yL,n,g,l};cases b
#print L3
namespace L3
def y7f:wO .zE=Å:=rfl
def y7g(b:Ï):wO ğb=Å:=rfl
def y7h(i:Â):wO Ϩ=Å:=rfl
def y7i(x:ùf):wO Ŭa=Å:=rfl
def y7j(ds:Á D):wO Čf=Ça ds:=rfl
def y7k:Ça []=Å:=rfl
def y7l(d:D)(ds:Á D):Ça (d::ds)=Ϙg:=rfl
def l5(i:Ä)(π:Á xH)(d:D):gc īc i π=.v d:=rfl
def y51(d:D):wy īc=d:=rfl
def y52(d:D):wy (.own d)=d:=rfl
def y53(x:ùf)(fs:Á ùf)(ms:Á M):wy Ϡg=.obj x fs ϧb:=rfl
def y54(ks:Á (Sum Â ùf))(ms:Á M):wy ûh=.dic ks ϧb:=rfl
def y55:Íc []=[]:=rfl
def y56(m:M)(ms:Á M):Íc şf=wy m::Íc ms:=rfl
def lA(x:M):uH x []=À x:=rfl
def z9c(x y:M):u7 x [] y=À y:=rfl
def z1b(g:MG)(b:yU)(x:zk):vW g b [] x=À (.nx x):=rfl
def z1c(g:MG)(b:yU)(x:zk)(d:D)(r:Á D):type_of% (vW.eq_2 g b x d r):=rfl
open Ĩ ĺ ĭ L2
def fldk_nil{K:Ð}{f:Ç}:wt K [] f:=λx a=>ß a é
def fldk_cons{K:Ð}{f c:Ç}{C:Í}{d:Á Ç}(ns:ſ K ē c=À ïa)(cl:t4 K C)(g:Ĥa K Ŏ f=À Æ)(r:wt K d f):wt K (c::d) f:=λx b e a=>by rcases ŋ b with rfl|b;rw[ns]at a;cases a;show{cl,g};show r x b e a
def Il:Á D->Ê D
 | [.lst xs]=>(Ĭi).bind λa=>match Ąd ϊi&&decide (ϴ<=1000)with
  |Å=>À (.int a.sum)|Ã=>Æ
 |_=>Æ
theorem N6:∀{ns:Á Â},(∀n∈ns,0<=n/\n<1099511627776)->0<=ŀi/\ŀi<=1099511627776*(ϡ:Â)
 | [],_=>{Ϻe _,by decide}|n::ns,h=>by
  let{a,b}:=N6 λm e=>h m (Õa _ e)
  let{c,d}:=h n ŉ;rw[List.sum_cons,Ġ]
  rw[Ůo];omega;push_cast
  omega
def z6l{K:Ð}:jl K (GS K) Il:=λG H p x d Q s r b q=>by
 rcases p with _|⟨x_,r_⟩;cases b
 cases x_<;>first|(cases b;done)|skip
 cases r_<;>first|(cases b;done)|skip
 rw[ĉo];cases c:Ĵj with
 |Ã=>rw[c]at b;cases b|Å=>
  rw[Ħo];let w:=ī c.2
  let g:∀n∈ns,0<=n/\n<1099511627776:=λn e=>by rw[čo]
  rw[ĺo];show{a,ns,rfl,.inl f,{λn e=>?_,λk t=>?_},q _ _ _ ϑ rfl};let:=g n e
  rw[ŉo];let:=N6 (ns:=ns.take k) λn e=>g n Ϻj
  rw[ŋo]
  rw[ġo]
  rw[ŉo]
def VF:ş Ļi=À łg:=PyProof.Rows.bootS_repr
def Vi(h:xC)(a:MG):yU:=λβ=>(Ũi).bind λr=>(œb).bind λd=>(a d r.2).bind λβ2=>À ϝa
def EU{X:Cx}{g:Ä}{tg e:Ó}{pos:Pos}{h:xC}{f:MG}(k:MC X e h)(b:TJ X g tg f)(r:Î Ùj q12)(n:Î ϙj q12)(s:Î ((Ţl).map (·.2)=õm) q12) :MS X g İk (Vi h f):=by
 let{J,i,p}:=k.h;let{A,o,t}:=b.h;show{{_,Ot i o r n s,λ{P I B G H β σ y E} l K a q=>?_}};obtain⟨⟨m,β1⟩,u,a⟩:=zF a;let{d,x,b}:=zF a;clear a;cases jO x;let{β2,j,a}:=zF b;cases a;show p K u λv z F C c=>?_
 show t l (c.down Ôa) c.gO j λσ' w=>q _ _ _ w
open ϐ
nonrec def Iq:D->Ï
 |.int i=>decide ϫa&&decide ųb|.bl _=>Å|_=>Ã
def Xa:Á D->Ê D
 | [d]=>match Iq d with
  |Å=>À ϔk|Ã=>Æ
 |_=>Æ
def cx(K:Ð):Á V->Hp->VK->È:=λa H Q=>∃d v,a=[v]/\zd K H d v/\Iq d=Å/\Q ϔk H
def IH{X:Cx}{j:Ä}(o:ym j X.A):wL X łg (cx X.K):=by
 intro l s σ H m n Q I r h;let{d,v,rfl,c,g,q}:=h;let{u,rfl,f}:=uO r;cases d with
 |int i=>
  cases(show v=.int i from c);let{t,rfl}:=f;let a:(decide ϫa&&decide ųb)=Å:=g;rw[ø]at a;let w:=ī a.1;let p:=ī a.2
  let k:ϙe<1920:=by
   let:Őb<2 ^ 70:=by
    let e:(2:Ä) ^ 70=1180591620717411303424:=by decide
    omega
   by_cases z:Őb=0;rw[z];decide;show ϧe ((Šg z).mpr this) Ì
  show P.repr_of_int k {.str _,H,ϊ _,{_,rfl},q}
 |bl b=>cases(show v=.bl b from c);cases(show u=.bool b from f);show P.repr_of_bool {.str _,H,ϊ _,{_,rfl},by cases b<;>show q}|_=>cases g
def Oi{K:Ð}:jl K (cx K) Xa:=λG H f g d Q s r a q=>by
 match f,a with
 | [x],a=>
  change (match Iq x with|Å=>À (θc (žf))|Ã=>Æ)=À d at a
  cases c:Iq x with
  |Ã=>rw[c]at a;cases a|Å=>
   rw[c]at a;cases a;let{v,rfl,e}:=qD r
   let h:wD x<=20:=by
    cases x with
    |int i=>exact(if(decide ϫa&&decide ųb)=Å then 20 else 1000000000)<=20;rw[Ò (show(decide ϫa&&decide ųb)=Å from c)];show Üa _|bl b=>exact 5<=20;decide|_=>cases c
   let j:=Kv x É;show{x,v,rfl,e,c,q _ _ _ ϑ {rfl,?_}};rw[ċo]
def Ts(FL:Á D->Ê D)(h:xC):xC:=λβ=>(Ũi).bind λr=>(œb).bind λd=>(FL [d]).bind λz=>À (.fz z,r.2)
section
variable{X:Cx}{np:Ä}
def bN{x:Ç}{p pos:Pos}{i:Ÿ}{e:Ó}{h:xC}{FL:Á D->Ê D}{k:Á V->Hp->VK->È}(B:wL X Ĳm k)(O:jl X.K k FL)(I:Gl X x)(Q:ñ x=Æ)(hv:ş x=À Ĳm)(r:MC X e h)(u:Î Ša q10)(b:Î Ģ q10)(y:Î ([e].all yx=Å) q12)(J:Î ϳ q12) :MC X (.Call Øa [e] [] pos) (Ts FL h):=by
 let{t,H,L}:=r.h;show{{_,(Qn B I Q hv {qf H g8 J} u b y).h,λE a q=>?_}};obtain⟨⟨m,β1⟩,n,a⟩:=zF a;let{d,P,a}:=zF a;cases jO P;let{z,l,a}:=zF a;cases a;show L E n λv s G C f=>?_
 let A:=f.gO;let c:=Ņi œ;show O s G [d] [v] _ _ c.ext.gh {v,[],rfl,A.mono c.ext.gh,rfl} l λw F N j o=>q w F N (C.trans j.g) ((c.go j).gQ o)
def OW(i:Ä)(F:D->D->Ê D)(h:xC):yU:=λβ=>(z6 i ϣd).bind λx=>(Ũi).bind λr=>(œb).bind λy=>(ĳi).bind λz=>À (.nx (r.2.set i Äm))
def z21{x:Ç}{pos b:Pos}{e:Ó}{h:xC}{F:D->D->Ê D}{i:Ä}{l:Ĳc}{j:V6}(B:TR X l j)(T:uR X.K j F)(L:ßa)(g:X.N[i]?=À x)(c:qO Ϟ x)(hn:np<=i)(r:MC X e h)(a:Î Ėa q7) :MS X np (.AugAssign (.Name x b) l e pos) (OW i F h):=by let{t,R,k}:=r.h;show{{_,Ez L g c R B a,λ{P G0 W G H β σ fl E} U K a q=>?_}};let{x,c,a}:=zF a;obtain⟨⟨m,β1⟩,o,a⟩:=zF a;let{y,I,a}:=zF a;cases jO I;let{z,n,a}:=zF a;cases a;let{v,J,Q}:=K.Ug.fr _ _ (FC c);show{v,J,k K o λu O C A f=>?_};let s:=f.gO;let d:=Ņi Ôa;show T O C x y v u z _ d.ext.gh (Q.mono A) s n λw Z Y S p=>q _ _ _ ((d.go S).Zd Řf.1 É p)
def YF(i:Ä)(π:Á xH)(k:Ç)(fv:xC):yU:=λβ=>(Òe).bind λr=>(œb).bind λy=>(Çh).bind λa=>match a with
 |.tab ks ms=>match vJ ks ϩ&&decide Âi with
  |Å=>(Οc (.tab ks (xV ks ms ϩ (.fz y)))).bind λβ2=>À ϝa|Ã=>Æ
 |_=>Æ
def EW{o v:Ó}{i:Ä}{π:Á xH}{k:Ç}{kk:Ä}{kp pos f:Pos}{fv:xC}(hu:ĉa+1<Ū)(ho:SP X o i π)(hv:MC X v fv)(hs:Î (Βb (.Subscript o ĺe f)) q12):MS X np (.Assign [.Subscript o ĺe f] v pos) (YF i π k fv):=by
 let{tv,pv,Y}:=řa;rw[Ņo];show{{_,E_ hu po Vp pv hs,λ{P G0 H0 G H β σ fl E} hP K b q=>?_}};rw[ŵo];let{y,ey,b}:=zF b;cases jO ey;let{nd,hn,b}:=zF b
 rw[Ĉo];rename_i e Q
 rw[Ĉo];rw[þo];let N:=c.1;let hl:=ī c.2;let{β2,T,b}:=zF b;cases b;let{mm,W,ha}:=g7 hn;show Y K hy λw G1 B s1 S=>?_
 let{r,v1,L1,Lr,er,va,o1,orr,dj,wr}:=S.write Ôa W ha;show ko er va ?_;let{p,a,C,rfl,I,j,l,U,n,g}:=o1
 let ez:wW (e.zip a) ϩ w=e.zip (xV e a ϩ w):=by rw[JD j];unfold vM;rw[Ò N]
 let O:∀q,q≠p->ćm q=B q:=λq z=>zt z
 let F:Ľ X.K G1 ćm Q a C:=ϛa (λR _ v' u s o=>ŧb Űa R v' u λq z=>O q λc=>n ĝh) l;let{u,Z,L}:=Ģf (k:=.inr k) (d:=y) (w:=w) S.gO F j
 let t:∀{α:Type}(J:Á α)(z:α),xV e J ϩ z=ύa Ďj e J:=λJ z=>by unfold xV;rw[Ò N]
 let{R,e',K5}:=wr (H':=zU B p Áj) (m2:=.tab e (xV e Q ϩ (.fz y))) (L2:=λq=>q=p\/u q) (λq z=>O q λc=>z ((g q).mpr (.inl c)))
  {p,xV e a ϩ w,u,rfl,by rw[yL,ez],by rw[t,ϋa,j,ϰ],by rw[t,t];show Z,by rw[t,ϋa,l.length.symm.trans j.symm,ϰ];rw[<-Ĕb,<-j]at U;show U,λz=>n (L p z),λq=>äa} (Εd (g q) (g q) (.inr (L q z)))
 rw[YK W e']at T;cases T;show{p,_,rfl,.inl {_,.inr k,I,rfl,by rw[Úa,j,ϰ,ľ,<-j];show hl,rfl},q _ _ _ K5};cases b;cases b
nonrec def OK(i j k:Ä):MG:=λd β=>match d with
 |.tup ĉi=>À ((êj).set k Äm)|_=>Æ
def z1u{i j k:Ä}{x y z:Ç}{p1 p2 c pos:Pos}{kk:Ä}(h:QG X Àj (Xc X.K 3 (j5 Ĥb (j5 (vy j) (j5 (vy k) Xb)))))(p:X.N[i]?=À x)(o:X.N[j]?=À y)(hk:X.N[k]?=À z)(J:np<=i)(O:np<=j)(E:np<=k):TJ X np Àj (OK i j k):=⟨⟨_,h.h,λ{P S C G H β β' σ d v Q} A K r b q=>by
 unfold OK at b
 rw[Ĉo];rename_i R I L;cases b;let{a,F,rfl,m,{f,B,rfl,t,{g,w,rfl,n,{l,e,rfl,s,u}}},_}:=r;cases(show e=[]from u);show{a,_,rfl,vi Ãa m,rfl,f,_,rfl,g,_,rfl,l,_,rfl,rfl,?_};show q _ (((K.Zd (Ł p).1 É t).Zd (Ł o).1 É n).Zd (Ł hk).1 É s);cases b⟩⟩
#print a
section
variable{P:ï}{w:è}{K:Ð}{mg:Ç->Ê Value}{Ë:Heap}
def z0u{x:Ç}{st:Ù}{N:Á Ç}{k:Ä}{F:FM}{b:yU}{f:Í}{i:ŀ}(d:Fun K ϭa ϭa st f i)(S:zi N [x] ņ)(j:1<=ϖ)(p:∀ms r,F ms=À r->ό=1/\xy 1 ϖ b ms=À r)(e:∀ns:Á Â,ϡ<=63->(∀m∈ns,wf m<=1048576)->∃r,F Ūe=À (r,.fz ě))(o:∀(g:Value)(A:Ā)(þ:Á Env)(s:Ñ)(H:Hp)(E:XK),ym k (Ìb (Ϟa ϭa ņ Þ f g))->jJ (tD xK P w K mg Ë N ϭa ņ f g A þ s H E).tW 1 ϵ b):xO P w K mg Ë xK š f i [x] Ŭi:=
 (d.v.Uj (F:=F) S j p o).imp λC H Q E h=>by let{a,ns,rfl,n,l,c,q}:=h;let{r,t}:=e ns l c;let y:á K H Łh âa:={_,_,rfl,{a,_,rfl,n,ώd,by rw[æ];show İa É},rfl};show y37 {H,_,Ã,.bl Å,ĝa H,y,?_,λv B u _ z=>?_};exact(F (j4 Łh)).bind _=_;rw[show j4 Łh=Ūe from rfl,t];rfl;cases(show v=.bl Å from z);show q u
#print a
nonrec def Ij:D->D->Ê D
 |.str x,.int j=>match decide (Úb<=16)&&(decide üd&&decide Ċf)with
  |Å=>À (.str (ϖa x j))|Ã=>Æ
 |_,_=>Æ
def cr:V->V->Hp->VK->È:=λx y H Q=>∃i j,x=.str i/\y=.int j/\đb<=16/\0<=j/\j<=1000/\Q (.str ÿf) H
def bj{X:Cx}:ye X Äf cr:=by intro f s σ H x y v u Q I b a h;let{i,j,rfl,rfl,d,e,g,q}:=h;let{t,rfl}:=b;let{c,rfl}:=a;show SB.mul (mulOk_of 16 1000 d É É Ì Ì) λc k=>{.str ÿf,H,ϊ _,{_,rfl},q}
def bg{K:Ð}:uR K cr Ij:=λG H x y u v d Q s g f a q=>by
 cases x<;>first|(cases a;done)|skip
 cases y<;>first|(cases a;done)|skip
 rename_i i j
 change (match decide Ńn&&(decide üd&&decide Ċf)with|Å=>À (ôd ÿf)|Ã=>Æ)=À d at a
 cases c:(decide Ńn&&(decide üd&&decide Ċf))with
 |Ã=>rw[c]at a;cases a|Å=>rw[c]at a;cases a;rw[ø,ø]at c;let b:=ī c.1;let e:=ī c.2.1;let h:=ī c.2.2;let l:(ÿf).length<=16*1000:=łm b É;show{i,j,g.1,f,b,e,h,q _ _ _ ϑ {rfl,by rw[ċo]}}
def iadd_list_road{M:ąd}{A:Ā}{E:Value->Ñ->È}{s:Ñ}{a b:Value}{Q:Value->Ñ->È}(g:Ûb a ę)(h:Ûb b ę)(i:Û M A (ża ϖi ð) Q E s):Û M A (όd .Add a b) Q E s:=by
 let f:=F.slot_list_iadd.lookup;unfold όd;show Ϻa ?_
 let d:Ûl Àa įa (Operator.Add == .Add)=pure Ã:=by unfold Ûl;exact(įh Àa Ôm >>= λe=>pure (e.isSome&&!isSeqSlot e))=pure Ã;rw[f];exact(pure (Å&&!isSeqSlot ϒh):Sem Ï)=_;rw[show isSeqSlot ϒh=Å by rw[Ço]];rfl
 let c:seqSlot? (.type ę) Ôm=pure ϒh:=PySem.seqSlot_of f Ī;show Ø (İd g (Ø (ře d ?_)));exact Û M A (if Ã=Å then _ else _) Q E s;rw[Ô Ŋ];show Ø (wpAny_binaryOp1_none (nm := įa) g h Ċl ?_);show Ø (ře c ?_);show Ø (ķd i)
#print L3
namespace L2
open Ĩ ĺ ϐ ĭ
open PySem.AutoSeq1 in
def z16(l:Í)(c:Ĝ Value)(n:Ä)(b:Í)(a:Ĝ Value)(n2:Ä)(d2:Ê Í)(e:Ĝ ŧa)(p:¬(!c.isEmpty&&ġd (Ňi+ĝ))=Å)(i:Ňi<=ã)(f:Ňi+ĝ<=ã+1) :Meets (Builtin.«list.__iadd__» {[.ref l,.ref b],[]}) (λ_ R s=>ć l=À { cls:=.type ę,dict:=Æ,ā:=.seq c n,Îc:=#[] }/\ć b=À { cls:=.type ę,dict:=d2,ā:=.seq a n2,Îc:=e }/\R (.ok (.ret (ą l))) { s with ì:=řd l (Ϫc λx=>x++a),ď:=ĕ }):=
 .of_wp λm w A R s h=>by
  let{v,g,d,q,B}:=s;let{k,o,h}:=h;let u:=idx_int;let z:=AutoSeq1.sub_tuple_tuple;let y:=AutoSeq1.sub_list_list;let t:=AutoSeq1.sub_tuple_list;let r:=AutoSeq1.sub_list_tuple;let j:(ũi).size<=ã+1:=by rw[Ϥk];show f
  wp_walk using(ıe k rfl (hz:=i) (_hz':=j)),Ĉl k,Ĉl o
  show{_,rfl,h}
def y00(K:Ð):V6:=λx y H Q=>∃l b xs zs,x=.ref l/\y=.ref b/\H l=À îa/\yh K H b zs/\ä+ţh<=ã/\Q Ϲb Ăm
def sr{X:Cx}:TR X .Add (y00 X.K):=by
 intro O s σ H x y v u Q I A p h;let{l,b,P,S,rfl,rfl,o,w,J,q}:=h;cases A;cases p;let{z,c,n,r,N,e}:=I.WT o;let{a,m,t,_}:=ϒ w;obtain⟨⟨R,B,L,k⟩,G,f,g,C,i⟩:=t;simp only at g i;subst g i;let E:=ϱb;let j:ōe+ώb<=ã:=by rw[ė,ė];omega
 let d:¬ Ğj=Å:=by rw[Ef j,ϖc];show Ŋ
 refine L3.iadd_list_road {_,e,rfl} {_,f,rfl} (Ľb F.slot_list_iadd {_,e,rfl} F.entry_list_iadd (F.args_list_iadd_2 _ _)
  (z16 l ôf n b Òb G B k d Ŕe É) {e,f,?_})
 refine{.ref l,_,I.Jb (Řa:=c++a) o e é (įc m) ?_,rfl,q};rw[Ă];omega
#print L2
namespace L3
open Ĩ ĺ ϐ ĭ L2
section
variable{X:Cx}{x:Ç}{pos Ża:Pos}{e:Ó}{f:FE}{i:Ä}
def y2n{α:Type}{xs:Á α}{i:Ä}{v:α}(h:xs[i]?=À v):xs.set i v=xs:=by let{a,rfl}:=Ł h;show List.set_getElem_self a
def J1(F:ßa)(L:X.N[i]?=À x)(A:qO Ϟ x)(s:SE X e f)(a:Î Ėa q7) :SS X (.AugAssign ϔe .Add e pos) (qE i f):=by
 let{t,O,k}:=s.h;show{{_,Ez F L A O sr a,λ{T Q G H τ σ J E} K a q=>?_}};unfold qE at a
 rw[Òo];rename_i m p;let{y,B,a}:=zF a;cases y with
 |lst ys=>
  change ύi=À J at a
  rw[Ōo];let{r,j,g,z,w,C,n,l}:=K.ow _ _ p;show{_,j,k K B λu S R d v=>?_};let{b,P,rfl,I,o,_}:=v;refine{r,b,w,P,rfl,rfl,d.h _ _ C,uY d.gh I,by rw[Ϩd,ŭa,ľ];show c,?_}
  change E.nx (List.set σ i (À (Ħb r))) _
  rw[y2n j];show q _ _ _ ((Ϭ d).Ui p j {_,yL,(Űf d.g).append o,?_});rw[Šo]
 |_=>cases a
 cases a
#print a
#print L3
namespace L3
open Ĩ ĺ ĭ L2
def zW(K:Ð)(x:Ç)(st:Ù):È:=
 ∃(f:Í) (od an:Ê Í) (sl:Ĝ ŧa) (oc kV dc pm cd ct:Value),ſ K ē x=À Ϝa/\Ϗ f=Ir x st oc od sl kV dc pm an cd ct/\ĕb K cd x=Å/\áa K Ļ=Å
section
variable{K:Ð}{mg:Ç->Ê Value}{h:Heap}{x p0 p1 p2 p3:Ç}{st:Ù}{ps:Á Ç}
def fnp_mk{f:Í}{j h:Ê Í}{e:Ĝ ŧa}{i kV d g b ct:Value}(a:ſ K ē x=À Ϝa)(l:Ϗ f=Ir x st i j e kV d g h b ct)(c:ĕb K b x=Å)(k:áa K Ļ=Å):zW K x st:={_,_,_,_,_,_,_,_,_,_,a,l,c,k}
def zW.d(a:zW K x st)(X:Ţ h)(G:ĳa ē mg)(b:∀(kV g i:Value)(j:Ê Í)(e ct:Value)(us:Á Value),Ś=ü->ğf (łc x x æd ϵ ņ .none kV g i j e ct) {us,[]}=pure Ϡb):Def K mg x st ps:=by let{f,m,j,o,q,kV,n,i,p,ct,a,l,c,k}:=a;let F:=Az (st:=st) l c k;show{_,_,F,Ŀc X G a,F.binds b}
abbrev BA(x:Ç)(st:Ù)(us:Á Value)(ps:Á Ç):È:=∀(kV doc pm:Value)(an:Ê Í)(cdv ct:Value),ğf (łc x x æd ϵ ņ .none kV doc pm an cdv ct) {us,[]}=pure Ϡb
def zW.d1(a:zW K x st)(X:Ţ h)(G:ĳa ē mg)(b:Î (∀u,BA x st [u] [p0]) q17):Def K mg x st [p0]:=a.d X G λ_ _ _ _ _ _=>us1 λu=>b u _ _ _ _ _ _
def zW.d2(a:zW K x st)(X:Ţ h)(G:ĳa ē mg)(b:Î (∀u v,BA x st [u,v] [p0,p1]) q17):Def K mg x st [p0,p1]:=a.d X G λ_ _ _ _ _ _=>us2 λu v=>b u v _ _ _ _ _ _
def zW.d3(a:zW K x st)(X:Ţ h)(G:ĳa ē mg)(b:Î (∀u v y,BA x st [u,v,y] ϸm) q17):Def K mg x st ϸm:=a.d X G λ_ _ _ _ _ _=>us3 λu v y=>b u v y _ _ _ _ _ _
def zW.d4(a:zW K x st)(X:Ţ h)(G:ĳa ē mg)(b:Î (∀u v y z,BA x st [u,v,y,z] Ŝd) q17):Def K mg x st Ŝd:=a.d X G λ_ _ _ _ _ _=>us4 λu v y z=>b u v y z _ _ _ _ _ _
def _root_.L2.Def.oS(d:Def K mg x st ps)(P:ï)(w:è)(a:Heap)(k:Ä)(F:Á D->Ê í)(S:zi N ps ņ)(i:∀ds r,F ds=À r->Ĉ=ü/\yP ϖ b ds=À r)(g:∀{f:Í}{c:Value}{A:Ā}{þ:Á Env}{s:Ñ}{H:Hp}{E:XK},ym k êg->tZ (âj).tW ϵ b)(e:Î Þf q10):wH P w K mg a x ps š ϲd:=Def.iR d S e i λ_ _ _ _ _ _ _ h=>g h
def _root_.L2.Def.oM(d:Def K mg x st ps)(P:ï)(w:è)(a:Heap)(k:Ä)(F:FM)(S:zi N ps ņ)(i:∀ms r,F ms=À r->ό=ü/\xy ü ϖ b ms=À r)(g:∀{f:Í}{c:Value}{A:Ā}{þ:Á Env}{s:Ñ}{H:Hp}{E:XK},ym k êg->jJ (âj).tW ü ϵ b)(e:Î Þf q10):wH P w K mg a x ps š Ĩf:=Def.Uj d S e i λ_ _ _ _ _ _ _ h=>g h
def wb.oM(d:wb K x q st f fd)(P:ï)(w:è)(mg:Ç->Ê Value)(a:Heap)(k:Ä)(F:FM)(S:zi N ps ņ)(i:∀ms r,F ms=À r->ό=ü/\xy ü ϖ b ms=À r)(g:∀{c:Value}{A:Ā}{þ:Á Env}{s:Ñ}{H:Hp}{E:XK},ym k Ϛj->jJ (ãj).tW ü ϵ b)(e:Î Þf q10):xO P w K mg a xK š f fd ps Ĩf:=d.Uj S e i λ_ _ _ _ _ _ h=>g h
def wb.oF(d:wb K x q st f fd)(P:ï)(w:è)(mg:Ç->Ê Value)(a:Heap)(k:Ä)(F:Á D->Ê í)(S:zi N ps ņ)(i:∀ds r,F ds=À r->Ĉ=ü/\yP ϖ b ds=À r)(g:∀{c:Value}{A:Ā}{þ:Á Env}{s:Ñ}{H:Hp}{E:XK},ym k Ϛj->tZ (ãj).tW ϵ b)(e:Î Þf q10):xO P w K mg a xK š f fd ps ϲd:=d.iQ S e i λ_ _ _ _ _ _ h=>g h
#print a
def Gn(K:Ð)(x:Ç):È:=ſ K ē x=À Æ
def Gs(K:Ð)(x:Ç)(v:Value):È:=ſ K ē x=À ŧ
def Tq(K:Ð)(d:Ê Í)(a:Í)(vs:Á Value):È:=∃n sl,Ϗ a=À {.type ż,d,.seq Ũa n,sl}
def Tp(K:Ð)(a:Í)(vs:Á Value):È:=∃d,Tq K d a vs
def Dc(K:Ð)(w:è)(a:Í)(l:Á Ŝe):È:=(∃n,Ϗ a=À { cls:=.type ŷ,ā:=.dict (Ϡi).toArray n })/\Ìa=Ã
nonrec def vD:Á Value->Ê ťl
 | []=>À ([],[])|.int i _::r=>(ſf).bind λp=>À (.int i::p.1,.int i::p.2)|.str s _::r=>match Ůa ϧd 1000 with
  |Å=>(ſf).bind λp=>À (.str s::p.1,.str s::p.2)|Ã=>Æ
 |_=>Æ
def vT(vs:Á Value):Ê ťl:=match Ůa ö 1000 with
 |Å=>vD vs|Ã=>Æ
nonrec def vU:Á Value->Ê (Á V)
 | []=>À []|.ref a::r=>(vU r).bind λp=>À (.ref a::p)|_=>Æ
section
variable{K:Ð}{w:è}{h:Heap}{mg:Ç->Ê Value}{a:Í}{x:Ç}{v:Value}{d:Ê Í}{n:Ä}{i:Â}{t:Tok}{s:Ç}{sl:Ĝ ŧa}{xs:Á Ç}{vs:Á Value}{us:Á V}{ds:Á D}{l:Á Ŝe}
def gn_mk(h:ſ K ē x=À Æ):Gn K x:=h
def gs_mk(h:ſ K ē x=À ŧ):Gs K x v:=h
def tq_mk(h:Ϗ a=À {.type ż,d,.seq Ũa n,sl}):Tq K d a vs:={_,_,h}
def tp_mk(h:Ϗ a=À {.type ż,d,.seq Ũa n,sl}):Tp K a vs:={_,_,_,h}
def dc_mk(h:Ϗ a=À { cls:=.type ŷ,ā:=.dict (Ϡi).toArray n })(q:Ìa=Ã):Dc K w a l:={{n,h},q}
def p6(X:Ţ h)(G:ĳa ē mg)(g:Gn K x):mg x=Æ:=W.mg_none_of X G g
def Z6(X:Ţ h)(G:ĳa ē mg)(g:Gs K x ś):wd mg x ś:={_,Ŀc X G g,rfl}
def VU(X:Ţ h)(G:ĳa ē mg)(g:Gs K x êf):wd mg x Ϩ:={_,Ŀc X G g,{_,rfl}}
theorem WA:∀{vs:Á Value}{us:Á V}{ds:Á D},vD vs=À (us,ds)->zm us vs/\∀H,á K H ds us
 | [],_,_,e=>by cases e;show{.nil,λ_=>rfl}|.int i t::r,_,_,e=>by let{p,e1,e}:=zF (show(ſf).bind _=_ from e);cases e;let{b,c}:=WA e1;show{.cons {_,rfl} b,λH=>{_,_,rfl,rfl,c H}}
 |.str s t::r,_,_,e=>by
  cases z:Ůa ϧd 1000 with
  |Ã=>rw[show vD Üm=match Ůa ϧd 1000 with|Å=>_|Ã=>Æ from rfl,z]at e;cases e
  |Å=>rw[show vD Üm=match Ůa ϧd 1000 with|Å=>_|Ã=>Æ from rfl,z]at e;let{p,e1,e}:=zF (show(ſf).bind _=_ from e);cases e;let{b,c}:=WA e1;show{.cons {_,rfl} b,λH=>{_,_,rfl,{rfl,İa (Ūc z)},c H}}
theorem fH:∀{vs:Á Value}{us:Á V},vU vs=À us->zm us vs
 | [],_,e=>by cases e;show .nil|.ref a::r,_,e=>by let{p,e1,e}:=zF (show(vU r).bind _=_ from e);cases e;show .cons rfl (fH e1)
def NA(g:Tq K d a vs)(e:vT vs=À (us,ds))(H:Hp):zd K H Čf ś:=by
 let{n,sl,g}:=g;cases z:Ůa ö 1000 with
 |Ã=>rw[show vT vs=match Ůa ö 1000 with|Å=>_|Ã=>Æ from rfl,z]at e;cases e
 |Å=>rw[show vT vs=match Ůa ö 1000 with|Å=>_|Ã=>Æ from rfl,z]at e;let{b,c}:=WA (K:=K) e;let q:=İa (Ūc z);show{a,us,rfl,mO g q b H,c H,by rw[<-(c H).length,ŵ];show q}
def wz(g:Tp K a vs)(e:vT vs=À (us,ds))(H:Hp):zd K H Čf ś:=let ⟨_,g⟩:=g;NA g e H
def f7(g:Tq K Æ a vs):BZ K a:=let ⟨_,_,g⟩:=g;{_,g,rfl,rfl}
theorem Q0:∀l:Á Ŝe,jg w (Òa λp=>({Ŗl w.params p.1,.str p.1 p.2.1,p.2.2}:ċb)) (Òa (·.1)) (Òa (·.2.2))
 | []=>.nil|_::l=>.cons ϐf
def AW(g:Dc K w a l)(e:vU (Òa (·.2.2))=À us)(b:Įc)(ex:Òa (·.1)=xs)(c:∀H,á K H ds us):t6 K w a Ēc ds:=by rw[Úo];show aB g ϐf b q (fH e) c
def IR(g:Dc K w a l)(e:vD (Òa (·.2.2))=À (us,ds))(b:Įc)(ex:Òa (·.1)=xs):t6 K w a Ēc ds:=by rw[Úo];show aB g ϐf b q Úm.1 (WA e).2
def F5(g:Dc K w a l)(e:vD (Òa (·.2.2))=À (us,ds))(b:Įc)(ex:Òa (·.1)=xs):pY K w a Ēc us:=by rw[Úo];show nh g ϐf b q Úm.1
def F6(_:Dc K w a l)(e:vD (Òa (·.2.2))=À (us,ds)):∀H,á K H ds us:=(WA e).2
#print a
abbrev HD(x:Ç)(ps:Á Ç)(k:Ä)(F:Á D->Ê í)(P:ï)(w:è)(K:Ð)(mg:Ç->Ê Value)(Ë:Heap):È:=wH P w K mg Ë x ps k ϲd
def X9(K:Ð)(m q:Ç)(st:Ù)(ps:Á Ç)(f:Í):È:=ße K Ļ=Å/\áa K Ļ=Å/\∃fd,wb K m q st f fd/\uQ K fd ps []
def TM(K:Ð)(m:Ç)(f:Í)(c:Ç):È:=∃C,ſ K ē c=À ïa/\t4 K C/\Ĥa K Ŏ m=À Ϝa
def jK(K:Ð)(c d m q:Ç)(st:Ù)(ps:Á Ç):È:=∃f,TM K m f c/\TM K m f d/\X9 K m q st ps f
def TK(K:Ð)(c q:Ç)(st:Ù)(ps:Á Ç):È:=∃C f,ſ K ē c=À ïa/\øf K C=Å/\Ĥa K Ŏ Ϙa=À Ϝa/\áa K Ŏ=Å/\X9 K Ϙa q st ps f
def Jc(K:Ð)(c m q:Ç)(st:Ù)(ps:Á Ç):È:=∃C f,ſ K ē c=À ïa/\ċh K Ŏ Īg=À Ãg/\Ůh K C ϑe=Å/\ůh K Ŏ ϑe m=À Őh/\X9 K m q st ps f
def pX(K:Ð)(x:Ç)(st:Ù)(f:Í):È:=ſ K ē x=À Ϝa/\zW K x st
section
variable{K:Ð}{w:è}{mg:Ç->Ê Value}{h:Heap}{c d m q x:Ç}{st:Ù}{ps xs ns:Á Ç}{f a:Í}{C D:Í}{sp:Sp}{k:Ä}{l:Á Ŝe}{fs:Á Í}
def cls_mk(a:Ÿd K C ěn=Å)(c:ϸe K C=Å)(d:Čh K C=Å)(b:Ĥa K Ŏ Ϭg=À Êg):t4 K C:={a,c,d,b}
def mdp_mk{n:Value}{o h:Ê Í}{j:Ĝ ŧa}{c kV d g a ct:Value}(i:ße K Ļ=Å)(l:Ϗ f=À {n,o,.func Ûj,j})(e:ĕb K a q=Å)(k:áa K Ļ=Å)(b:uQ K Ûj ps []):X9 K m q st ps f:={i,k,_,nW l e k,b}
def mtc_mk(n:ſ K ē c=À ïa)(cl:t4 K C)(g:Ĥa K Ŏ m=À Ϝa):TM K m f c:={C,n,cl,g}
def mtp_mk(a:TM K m f c)(b:TM K m f d)(e:X9 K m q st ps f):jK K c d m q st ps:={f,a,b,e}
def mkp_mk(n:ſ K ē c=À ïa)(a:øf K C=Å)(g:Ĥa K Ŏ Ϙa=À Ϝa)(b:áa K Ŏ=Å)(e:X9 K Ϙa q st ps f):TK K c q st ps:={C,f,n,a,g,b,e}
def cmp_mk(n:ſ K ē c=À ïa)(b:ċh K Ŏ Īg=À Ãg)(a:Ůh K C ϑe=Å)(g:ůh K Ŏ ϑe m=À Őh)(e:X9 K m q st ps f):Jc K c m q st ps:={C,f,n,b,a,g,e}
def fnq_mk{j h:Ê Í}{e:Ĝ ŧa}{i kV d g b ct:Value}(a:ſ K ē x=À Ϝa)(l:Ϗ f=Ir x st i j e kV d g h b ct)(c:ĕb K b x=Å)(k:áa K Ļ=Å):pX K x st f:={a,fnp_mk a l c k}
def lK(b:∀s us,Ţ à->Ś=ü->Ŝb s fd {us,[]} Ϡb):uQ K fd ps []:=λs us c a=>by rw[Ûa]at a ⊢;show b s us c a
def jK.hh(a:jK K c d m q st ps)(P:ï)(w:è)(mg:Ç->Ê Value)(e:Heap)(h:∀{f fd},wb K m q st f fd->xO P w K mg e xK k f fd ps sp):qq P w K mg e c m ps k sp/\qq P w K mg e d m ps k sp:=by let{f,{C,j,o,l},{D,n,r,p},i,g,fd,F,b}:=a;show{{C,f,fd,j,o,{l,i,g},b,h F},{D,f,fd,n,r,{p,i,g},b,h F}}
def TK.hh(a:TK K c q st ps)(X:Ţ h)(G:ĳa ē mg)(P:ï)(w:è)(d:Heap)(l:∀{f fd},wb K Ϙa q st f fd->xO P w K mg d xK k f fd ps sp):TH P w K mg d c ps k sp:=by let{C,f,n,j,g,e,i,m,fd,F,b}:=a;show{C,f,fd,n,Ŀc X G n,{j,g,i,e},b,l F}
def Jc.hh(a:Jc K c m q st ps)(X:Ţ h)(G:ĳa ē mg)(P:ï)(w:è)(d:Heap)(e:∀{f fd},wb K m q st f fd->xO P w K mg d xK k f fd ps sp):Je P w K mg d c m ps k sp:=by let{C,f,n,j,o,g,i,l,fd,F,b}:=a;show{{C,f,fd,_,Ŀc X G n,j,o,g,l,b,e F}}
def pX.n(a:pX K x st f)(X:Ţ h)(G:ĳa ē mg):mg x=À Ļ:=Ŀc X G a.1
def mZ(g:Dc K w a l)(e:Òa (·.2.2)=ĺc ą)(b:Įc)(ex:Òa (·.1)=xs)(m:XA mg ns fs):Zt K w mg a Ēc ns:=by rw[Úo];show oC g (e▸Q0 l) b q m
#print a
nonrec def U3(b:Ï)(vs:Á V):HO:=match b with
 |Å=>.lst vs|Ã=>.tup vs
def y39{K:Ð}{G:Hp}{b:Ï}{p:Í}{vs:Á V}:SqB K (zU G p (U3 b vs)) b p vs:=match b with
 |Å=>yL|Ã=>Ŧb yL
section
variable{K:Ð}{n:Ä}{P:Á V}{G0 H0 G H:Hp}{β:zk}{σ:St}
def yp.sq(f:Ï)(h:yp K n P G0 H0 G H β σ ms vs)(I:H p=Æ)(Z:ό<=ã) :zl K ĸ P G0 H0 ųk ũg (β++[À (.tp f ms)]) Ŭg:=by
 let{L,H1,E,N,a,b}:=h;let{Q,F}:=ϗ;let C:G p=Æ:=Ϝe I;let t:∀q,q≠p->ũg q=H q:=λq z=>zt z
 let S:∀q,q≠p->ųk q=G q:=λq z=>zt z
 let B:∀q,L q->Bx H q:=Ņb (λm _ v L1 X=>X.cells m v L1) N
 let l:∀q,Bx H q->q≠p:=λq z w=>by subst w;show z.some I
 let J:∀i q,Q i q->¬ L q:=λi q z w=>by rw[Ģo]
 let Lp:¬ L p:=λz=>l p (B p z) rfl
 let T:H0 p=Æ:=by
  cases e:H0 p with
  |Æ=>rfl|À o=>have:=ϥa p o ((b p Lp).trans e);rw[I]at this;cases this
 let r:∀q,Bx H q->Bx ũg q:=λq z=>by let{u,U,R}:=z;show{u,(t q (l q {u,U,R})).trans U,R}
 show{{ϝe Ëi,λq o z=>?_,Qt ύ,λq z=>?_},by rw[ĥo],by rw[šo],by rw[Ňo],λi w h=>?_,λj=>if j<n then Q j else if j=n then L else λ_=>ê,λi A h=>?_,λi j q O k d=>?_,λi q z=>?_};let c:¬ L q:=λw=>by rw[Ŗo]
 rw[t q λw=>by subst w;rw[T]at z;cases z];show ϥa _ _ Ðl;rcases LZ z with e|e;show .inr (e▸T);rcases Ċb q e with w|w;rw[êo]
 rw[wB hi];show Èa i w h;rcases ZO h with⟨c,e⟩|⟨c,e⟩;rw[č]at c;let{w,W,Y}:=ϓ i A e;refine{w,by rw[ϝo];show W,?_};rw[Ŕo];show Y.loc Ëi A w _ λq z=>t q (l q ϑa.2.2);rw[Âo];show{p,vs,rfl,y39,ϛa (λA _ v' L3 s o=>ŧb Ëi A v' L3 λq z=>t q (l q (B q Ŏb))) N,Z};split at k;rw[ìo];show Ŝ i j q O k d;rw[ìo];show J i q k d;show d;split at k;rw[ìo];show J j q d k;rw[ìo];show O É;show d;show k;rw[ão];let{x,y,w}:=Ϙ i q z;show{(S q (l q w)).trans x,by rw[b q (J i q z)]at y;show y,r q w};rw[ão];show{(S q (l q (B q z))).trans Äc.1,Äc.2.1,r q (B q z)};show ģ
#print a
structure ML(X:Cx)(es:Á Ó)(fs:zk->Ê Ğa):È where
 h:∃t,PA X es t/\∀{P:Á V}{G0 H0 G H:Hp}{β β':zk}{σ:St}{ms:Á M}{Q:Á V->Hp->È},zl X.K ô P G0 H0 G H β σ->fs β=À (ms,β')->(∀vs G' H',zh G G'->yp X.K ô P G0 H0 G' H' β' σ ms vs->ö=ό->Q vs H')->t σ H Q
nonrec def Dt(b:Ï)(fs:zk->Ê Ğa):xC:=λβ=>(šf).bind λr=>match Ůa r.1.length 1000 with
 |Å=>À (.tp b r.1,r.2)|Ã=>Æ
section
variable{X:Cx}{e v:Ó}{es:Á Ó}{x y:Ç}{pos:Pos}{f:xC}{fs:zk->Ê Ğa}
def z1x:ML X [] Z0:={{_,g8,λ{P c d G H β β' σ b Q} E a q=>by rw[όo]}}
def ER(hv:MC X e f)(x:ML X es fs)(h:Î ϳ q12):ML X Ē ϊn:=by
 let{K,v,k}:=řa;let{C,j,n}:=x.h;show{{_,qf v j h,λ{P O z G H β β' σ I Q} E c q=>?_}};obtain⟨⟨m,β1⟩,y,c⟩:=zF c;obtain⟨⟨t,β2⟩,w,c⟩:=zF c;cases c;show k E y λu J A r p=>?_
 let{L,N,d,o,a,b}:=p.hold œ;show n d w λs F B i h l=>?_
 show q (u::s) _ _ (r.trans i) (Ļc o a b d.ext.g i h) œe
def z1n(h:ML X es fs):MC X ϣg (Dt Å fs):=by
 let{t,i,e}:=h.h;show{{_,c7 i,λ{P u o G H β β' σ m Q} E a q=>?_}};obtain⟨⟨n,β1⟩,j,a⟩:=zF a
 rw[Òo];rename_i c;cases a;refine e E j λr k s g b l=>{by rw[l];show İa (Ūc c),λp d=>?_}
 show q _ _ _ (Çe (wY ?_ _)) (b.sq Å d (İa (Ūc c)));let{_,_,f,_}:=b;show f.ext.gh.free d;cases a
#print a
section
variable{K:Ð}{fd:ŀ}{p0 p1 p2 p3:Ç}
def bd4(b:∀s x y z u,Ţ à->Ŝb s fd {Įn,[]} ((Ŝd).zip Įn)):uQ K fd Ŝd []:=lK λs a d c=>us4 (P:=λa=>Ŝb s fd {a,[]} ((Ŝd).zip a)) (λx y z u=>b s x y z u d) a c
#print a
section
variable{K:Ð}{n:Ä}{P:Á V}{G0 H0 G H G' H':Hp}{β:zk}{σ:St}{ms ms':Á M}{vs:Á V}
def yp.call{F:FM}{t:M}{Q:VK}{E0:XK}(h:yp K n P G0 H0 G H β σ ms vs)(O:F ms=À (ms',t))(q:∀v G' H',zh G G'->yp K n P G0 H0 G' H' β σ (t::ms') Âc->Q v H'):xL K F vs H Q E0:=by
 classical
 let{L,S,E,o,a,b}:=h;let{A,k}:=ϗ;show{G,ms,L,ms',t,ύ,o,λq z=>Äc.1,O,λv G' H' f x J r=>q v G' H' x.g ?_}
 let C:∀q,cut H L q=Æ->H0 q=Æ:=λq z=>by rw[ÿo];show ťf.2.1;rw[<-b q c];show Ŧd ((pp c).symm.trans z)
 let l:∀i q,A i q->¬ L q/\cut H L q=H q/\∃u,H q=À u/\H' q=À u/\Dq u=Å:=λi q z=>by
  let{_,w,u,d,s}:=k.ok i q z;let c:¬ L q:=λc=>by rw[ťf.2.2,d]at w;cases w
  show{c,pp c,u,d,x.h _ _ ((pp c).trans d),s}
 let e1:∀q,f q->Ũj=H' q:=λq z=>Ò z
 let e2:∀q,¬ f q->Ũj=H0 q:=λq z=>Ô z
 show{f,λq=>if f q then H' q else H0 q,{{ϝe x.g,λq o z=>?_,Ĳa,λq z=>?_},Ė,č,œ,Èa,A,λi m R=>?_,k.dj,λi q z=>?_},J,λq z=>{(r q z).1,C q (r q z).2,e1 q z},e2};by_cases c:f q;rw[Ũo];let p:¬ L q:=λw=>by rw[Ŗo]
 show x.h _ _ ((pp p).trans (ϥa _ _ ((b q p).trans z)));let c:¬ f q:=λw=>z (r q w).1
 rw[e2 q c];rcases īb q z with w|w;rcases Ċb q w with w|w;show .inl w;by_cases p:L q;show .inr (a q p).2.1;show .inr ((b q p).symm.trans w);show .inr Ĵi;let{B,N,I}:=k.at_ i m R;show{B,N,èa x.g m B _ λq z=>?_};let{_,_,u,d,j,_}:=l i q z;rw[d,j];let{c,y,u,d,j,s}:=l i q z;show{?_,?_,u,j,s};cases e:G' q with
 |Æ=>rfl|À o=>rcases īb q Ŝc with w|w;show ß Ęm.1 w;rw[y,d]at w;cases w
 rw[e2 q λw=>by let:=(r q w).2;rw[y,d]at this;cases this]
 show(b q c).symm.trans Ęm.2.1
def yp.give{r m:M}{u v:V}{i:Ä}(h:yp K n P G0 H0 G H β σ Ŋh ŉh)(Z:σ[i]?=À ŧ)(hb:β[i]?=À Æ):yp K n P G0 H0 G H Žh σ Ĩi ŝf:=by
 classical
 let{L,t,E,{u',_,Q,L2,e,X,{v',_,d,J,T,N,S,U,f},O,C},a,b}:=h;cases e;cases T;let{I,p}:=ϗ;let F:∀q,d q->L q:=λq z=>(C q).mpr îk
 let R:∀q,d q->Bx H q:=N.cells m v d;let e1:∀q,d q->ϔj=Æ:=λq z=>Ò z
 let e2:∀q,¬ d q->ϔj=t q:=λq z=>Ô z
 let B:∀j q,I j q->¬ d q:=λj q z w=>by let:=ēm.2.1;rw[(a q (F q w)).2.2]at this;show(R q w).some this
 show{λq=>Q q\/J q,λq=>if d q then Æ else t q,{{ŀc,λq o z=>?_,ύ,λq z=>?_},Ė,by rw[Ĥo],œ,Èa,λj=>if j=i then d else I j,λj W hm=>?_,λj k q s A l=>?_,λj q z=>?_},{u,vs,Q,J,rfl,X,S,λq z w=>O q z Ĕg,λq=>äa},λq z=>?_,λq z=>?_};rw[òo];rcases Ċb q z with w|w;rw[Đo];rcases vO hm with⟨rfl,w⟩|⟨s,w⟩;rw[ůo];show{v,Z,N};simp only[Ô s];show p.at_ j W w;split at A;split at l;show s É;show B k q l A;split at l;show B j q A l;show p.dj j k q s A l;rw[ão];show{(a q (F q z)).1,e1 q z,R q z};let{x,y,w}:=p.ok j q z;show{x,(e2 q (B j q z)).trans y,w};let Y:L q:=(C q).mpr ϲj;let c:¬ d q:=λw=>ģ (λy=>O q y ňl) λy=>U q w y
 let{x,y,w}:=a q Y;rw[řo];show(Ϸd).trans (a q (F q c)).2.1.symm;show(ϵd).trans Øm;rcases(C q).mp w with w|w;show z Åd;rcases(f q).mp w with w|w;show c w;show z ϙb
def yp.drop{r m:M}{u v:V}(h:yp K n P G0 H0 G H β σ Ŋh ŉh):yp K n P G0 H0 G H β σ Ĩi ŝf:=by
 classical
 let{L,k,E,{T,_,A,S,e,N,{U,_,d,s,F,O,C,J,f},t,l},a,b}:=h;cases e;cases F;let{p,i}:=ϗ;let B:∀q,d q->L q:=λq z=>(l q).mpr îk
 let R:∀q,d q->Bx H q:=O.cells m v d;let e1:∀q,d q->ϕj=Æ:=λq z=>Ò z
 let e2:∀q,¬ d q->ϕj=k q:=λq z=>Ô z
 let I:∀j q,p j q->¬ d q:=λj q z w=>by let:=(i.ok j q z).2.1;rw[(a q (B q w)).2.2]at this;show(R q w).some this
 show{λq=>A q\/s q,λq=>if d q then Æ else k q,{{ŀc,λq o z=>?_,ύ,λq z=>?_},Ė,č,œ,Èa,p,i.at_,i.dj,λj q z=>?_},{u,vs,A,s,rfl,N,C,λq z w=>t q z Ĕg,λq=>äa},λq z=>?_,λq z=>?_};rw[òo];rcases Ċb q z with w|w;rw[Đo];let{x,y,w}:=i.ok j q z;show{x,(e2 q (I j q z)).trans y,w};let Q:L q:=(l q).mpr ϲj;let c:¬ d q:=λw=>ģ (λy=>t q y ňl) λy=>J q w y
 let{x,y,w}:=a q Q;rw[řo];show(Ϸd).trans (a q (B q c)).2.1.symm;show(ϵd).trans Øm;rcases(l q).mp w with w|w;show z Åd;rcases(f q).mp w with w|w;show c w;show z ϙb
def yp.add{m:M}{v:V}{Lm:Ft}(h:yp K n P G0 H0 G H β σ ms vs)(x:zV G H G H')(I:xD K G H' m v Lm)(p:∀q,Lm q->G q=Æ/\H q=Æ):yp K n P G0 H0 G H' β σ şf Âc:=by
 classical
 let{L,k,E,o,a,b}:=h;let{O,e}:=ϗ;let d:∀q,L q->Bx H q:=Ņb (λm _ v y r=>r.cells m v y) o;let t:∀q,Bx H q->H' q=H q:=λq ⟨u,C,_⟩=>(x.h _ _ C).trans C.symm
 let f:∀q,Bx H q->¬ Lm q:=λq z w=>z.some ĩi.2
 let e1:∀q,Lm q->ũj=H' q:=λq z=>Ò z
 let e2:∀q,¬ Lm q->ũj=k q:=λq z=>Ô z
 let j:=Ϲ x;show{λq=>Lm q\/L q,λq=>if Lm q then H' q else k q,{{j.ext.g,λq o z=>?_,j.ext.gh,λq z=>?_},Ė,č,œ,Èa,O,λi l S=>?_,e.dj,λi q z=>?_},{v,vs,Lm,L,rfl,I,ϛa (λl _ R y s r=>r.loc x.g l R y λq z=>t q (d q Ŏb)) o,λq z w=>f q (d q w) z,λq=>äa},λq z=>?_,λq z=>?_};by_cases c:Lm q;show(Ϸd).symm.trans z;show j.ext.h _ _ ((ϵd).symm.trans z);let c:¬ Lm q:=λw=>z ĩi.1
 show(j.ext.new q z).elim .inl λw=>.inr ŕe;let{w,F,N}:=e.at_ i l S;show{w,F,N.loc x.g l w _ λq z=>t q (e.ok i q z).2.2};let{g,A,B}:=e.ok i q z;let{J,Q}:=IF x g B;show{J,(e2 q (f q B)).trans A,Q};rcases z with z|z;show{(p q z).1,?_,e1 q z};let c:¬ L q:=λw=>f q (d q w) z
 show(b q c).symm.trans (Ŧd (p q z).2);let{g,T,A}:=a q z;show{g,T,((e2 q (f q Ãc)).trans A).trans (t q Ãc).symm};show(e2 q λw=>z Åd).trans (b q λw=>z ϙb)
def yp.swap{r m:M}{u v:V}(h:yp K n P G0 H0 G H β σ Ŋh ŉh):yp K n P G0 H0 G H β σ (m::r::ms) (v::u::vs):=by let{L,p,E,{x,_,f,B,e,i,{A,_,j,g,o,l,k,t,c},d,s},a,b}:=h;cases e;cases o;show{L,p,E,{v,_,j,λq=>f q\/g q,rfl,l,{u,vs,f,g,rfl,i,k,λq z w=>d q z ŉl,λq=>äa},λq z w=>w.elim (λy=>d q y Ÿg) (t q z),λq=>(s q).trans {?_,?_}},a,b};rintro(z|z);show .inr ťa;show(ĳm).elim .inl λy=>.inr (.inr y);rintro(z|z|z);show .inr Ÿg;rw[ło];show .inr Ŋl
def yp.len{r:M}{u:V}(h:yp K n P G0 H0 G H β σ (r::ms') ŝf)(_:ό=ö):ms'.length=ö:=by let{L,a,E,o,_}:=h;let:=ŭa;show(Ŧc this).symm
def yp.push{m:M}{v:V}(h:yp K n P G0 H0 G H β σ [m] [v]):zl K ĸ P G0 H0 G H đc ìa:=by
 let{L,J,E,{T,r,k,S,e,o,{R,O},d,u},a,b}:=h;cases e;let{B,p}:=ϗ;let eL:∀q,L q↔k q:=λq=>(ũ).trans {λz=>ģ id λw=>ß w (O q),.inl}
 let C:∀q,k q->Bx H q:=ýi m v k
 let s:∀j q,B j q->¬ k q:=λj q z w=>by let:=ēm.2.1;rw[Īk.2.2]at this;show(Ĵi).some this
 let t:∀q,¬ k q->J q=H0 q:=λq z=>b q λw=>z ((eL q).mp w)
 show{{ŀc,λq o z=>?_,ύ,λq z=>?_},by rw[ĥo],by rw[šo],Nat.le_succ_of_le œ,λi w h=>?_,λj=>if j<n then B j else if j=n then k else λ_=>ê,λi N h=>?_,λi j q A l f=>?_,λi q z=>?_};let c:¬ k q:=λw=>by rw[Īk.2.1]at z;cases z
 show ϥa _ _ ((t q c).trans z);rcases Ċb q z with w|w;show .inl w;by_cases c:k q;show .inr (a q ((eL q).mpr c)).2.1;show .inr ((t q c).symm.trans w);let Q:i<σ.length:=by rw[Êo]
 rw[wB Q];show Èa i w h;rcases ZO h with⟨c,e⟩|⟨c,e⟩;rw[č]at c;let{w,F,I}:=p.at_ i N e;refine{w,by rw[ϝo];show F,?_};rw[Ŕo];show I;rw[Âo];show o;split at l;rw[Ăo];show p.dj i j q A l f;rw[Ăo];show s i q l f;show f;split at l;rw[Ăo];show s j q f l;rw[Ăo];show A É;show f;show l;rw[ão];let{x,y,w}:=p.ok i q z;show{x,(t q (s i q z)).symm.trans y,w};rw[ão];show{ĩk.1,ĩk.2.1,C q z};show ģ
#print a
inductive Tg where
 |no|var (i:Ä)|sp (i k:Ä)
def Zy(G:Hp)(σ:St):Á Tg->Á V->È
 | [],vs=>vs=[]|.no::ts,vs=>∃v r,vs=v::r/\Zy G σ ts r|.var i::ts,vs=>∃v r,vs=v::r/\σ[i]?=À ŧ/\Zy G σ ts r|.sp i k::ts,vs=>∃p a r,vs=a++r/\ϴ=k/\σ[i]?=À Ñf/\G p=À Ðd/\Zy G σ ts r
def Zy.mono{G b:Hp}{σ:St}(g:zh G b):∀{ts:Á Tg}{vs:Á V},Zy G σ ts vs->Zy b σ ts vs:=λ{ts}=>by
 induction ts with
 |nil=>show λh=>h|ú o ts ih=>
  intro vs h;cases o with
  |no=>let{v,r,e,h}:=h;show{v,r,e,ih h}
  |var i=>let{v,r,e,s,h}:=h;show{v,r,e,s,ih h}
  |sp i k=>let{p,a,r,e,l,s,z,h}:=h;show{p,a,r,e,l,s,g _ _ z,ih h}
nonrec def ge:Á Tg->Á M->zk->Ê zk
 | [],[],β=>À β|.var i::ts,m::ms,β=>match β[i]? with
  |À Æ=>ge ts ms Žh|_=>Æ
 |.no::ts,_::ms,β=>ge ts ms β|.sp i k::ts,ms,β=>match β[i]? with
  |À Æ=>match Ůa k ό&&Ůa k 1000 with
   |Å=>ge ts (ms.drop k) (Θa (À (.tp Å (ms.take k))))|Ã=>Æ
  |_=>Æ
 |_,_,_=>Æ
section
variable{K:Ð}{n:Ä}{P:Á V}{G0 H0 G H:Hp}{β:zk}{σ:St}{ms:Á M}{vs:Á V}
def Œm{b:Á M}{i:Á V}:∀{a:Á M}{va:Á V}{L:Ft},ϴ=ćn->Ľ K G H úd (va++i) L->∃La Lb,Ľ K G H a va La/\Ľ K G H b i Lb/\(∀q,La q->Lb q->ê)/\∀q,L q↔La q\/Lb q:=λ{a}=>by
 induction a with
 |nil=>
  intro va L l h;cases va with
  |nil=>show{λ_=>ê,L,{rfl,λ_ z=>z},h,λ_ z=>ģ,λq=>{.inr,λz=>ģ Áa id}}|ú _ _=>cases l
 |ú m a ih=>
  intro va L l h;cases va with
  |nil=>cases l|ú v va=>let{n,r,g,p,e,o,h,d,u}:=h;cases e;let{La,Lb,k,j,f,c}:=ih Ìe h;show{λq=>g q\/La q,Lb,{v,va,g,La,rfl,o,k,λq z w=>d q z ((c q).mpr Åd),λq=>äa},j,λq z w=>ģ (λy=>d q y ŉl) λy=>f q y w,λq=>(ũ).trans {?_,?_}};rintro(z|z);show .inl ťa;show(ĳm).elim (λy=>.inl (.inr y)) .inr;rintro((z|z)|z);show .inl z;show .inr Ÿg;show .inr Ŋl
def OwnMs.glue{b:Á M}{e:Á V}{c:Ft}(f:Ľ K G H b e c):∀{a:Á M}{va:Á V}{La:Ft},Ľ K G H a va La->(∀q,La q->c q->ê)->Ľ K G H úd (va++e) íl:=λ{a}=>by
 induction a with
 |nil=>
  rintro va La ⟨rfl,i⟩ d;let:íl=c:=funext λq=>Ôd {λz=>ģ (λy=>ß y (i q)) id,.inr}
  rw[this];show f
 |ú m a ih=>rintro va La ⟨v,r,g,k,rfl,o,h,j,u⟩ d;show{v,r++e,g,λq=>k q\/c q,rfl,o,ih h λq z w=>d q èc w,λq z w=>w.elim Ϣd λy=>d q ąc y,λq=>{?_,?_}};rintro(z|z);show((ũ).mp z).elim .inl λy=>.inr (.inl y);show .inr Ōa;rintro(z|z|z);show .inl ąc;show .inl èc;show .inr z
def yp.pack{r:M}{u:V}{a b:Á M}{c i:Á V}{p:Í}(h:yp K n P G0 H0 G H β σ (r::úd) (u::(c++i)))(l:ϴ=ϟa)(s:G p=À (.lst c))(q:ϴ<=ã):yp K n P G0 H0 G H β σ (r::.tp Å a::b) (u::.ref p::i):=by let{L,t,E,{B,_,v,A,e,o,h,d,k},x,y}:=h;cases e;let{m,w,z,j,f,g}:=Œm l h;show{L,t,E,{u,_,v,A,rfl,o,{_,_,m,w,rfl,{p,c,rfl,s,z,q},j,f,g},d,k},x,y}
def yp.iS{a b:Á M}{v:V}{c:Á V}(h:yp K n P G0 H0 G H β σ (.tp Å a::b) (v::c)):∃p va,v=.ref p/\G p=À (.lst va)/\ćn=ϴ/\yp K n P G0 H0 G H β σ úd (va++c):=by
 let{L,j,E,{l,_,k,m,e,{p,va,rfl,i,f,_},g,d,u},x,y}:=h;cases e;let:=funext λq=>Ôd ũ
 subst this;show{p,va,rfl,i,ģa,_,j,E,g.glue f d,x,y}
def yp.Pi{r:M}{u:V}:∀{ts:Á Tg}{ms:Á M}{vs:Á V}{β β':zk},yp K n P G0 H0 G H β σ Ĩi ŝf->ό=ö->Zy G σ ts vs->ge ts ms β=À β'->yp K n P G0 H0 G H β' σ [r] [u]:=λ{ts}=>by
 induction ts with
 |nil=>
  intro ms vs β β' h l t e;cases(show vs=[]from t);cases ms with
  |nil=>cases e;show h|ú _ _=>cases e
 |ú o ts ih=>
  intro ms vs β β' h l t e;cases o with
  |no=>
   let{v,f,rfl,t}:=t;cases ms with
   |nil=>cases e|ú m ms=>show ih h.drop Ìe t e
  |var i=>
   let{v,f,rfl,d,t}:=t;cases ms with
   |nil=>cases e|ú m ms=>
    unfold ge at e
    rw[Ŝo];rename_i b;show ih (h.give d b) Ìe t e;cases e
  |sp i k=>
   let{p,a,f,rfl,rfl,d,q,t}:=t;unfold ge at e
   rw[Ŝo];rename_i b
   rw[Ŝo];rw[þo];let j:=Ūc c.1;let g:(ms.take ϴ).length=ϴ:=by rw[Ęa,Ϗc j]
   rw[<-Ĵe ϴ ms]at h;refine ih ((h.pack g q (by rw[g];show İa (Ūc c.2))).give d b) ?_ t e;rw[ňd,l,Ă,Èk];cases e;cases e
#print a
structure Zw(X:Cx)(es:Á Ó)(ts:Á Tg)(fs:zk->Ê Ğa):È where
 h:∃t,PA X es t/\∀{P:Á V}{G0 H0 G H:Hp}{β β':zk}{σ:St}{ms:Á M}{Q:Á V->Hp->È},zl X.K ô P G0 H0 G H β σ->fs β=À (ms,β')->(∀vs G' H',zh G G'->yp X.K ô P G0 H0 G' H' β' σ ms vs->ό=ö->Zy G' σ ts vs->Q vs H')->t σ H Q
def Bb(i:Ä):zk->Ê Ğa:=λβ=>(jP i β).bind λr=>match r.1 with
 |.tp Å Őf=>À (Őf,r.2)|_=>Æ
def Dx(F:FM)(a:Á Tg)(fs:zk->Ê Ğa):xC:=λβ=>(šf).bind λr=>(F r.1).bind λs=>(ge a s.1 r.2).bind λβ'=>À (s.2,β')
def Dw(c:Ç)(F:FM)(a:Á Tg)(fs:zk->Ê Ğa):xC:=λβ=>(šf).bind λr=>(F (.obj c [] []::r.1)).bind λs=>match s.2,s.1 with
 |.fz .zE,m::ms=>(ge a ms r.2).bind λβ'=>À (m,β')|_,_=>Æ
section
variable{X:Cx}{x m c:Ç}{ps:Á Ç}{j k:Ä}{F:FM}{e o:Ó}{es:Á Ó}{ts:Á Tg}{f:xC}{fs:zk->Ê Ğa}{p pos ϙ:Pos}
def z1y:Zw X [] [] Z0:={{_,g8,λ{P c d G H β β' σ b Q} E a q=>by cases a;show q [] _ _ Űa ňh rfl rfl}}
def bR(hv:MC X e f)(y:Zw X es ts fs)(h:Î ϳ q12):Zw X Ē (.no::ts) ϊn:=by
 let{N,w,n}:=řa;let{F,k,p}:=y.h;show{{_,qf w k h,λ{P R A G H β β' σ J Q} E c q=>?_}};rw[Żo];obtain⟨⟨v,β2⟩,x,c⟩:=zF c;cases c;show n E z λu K B s r=>?_
 let{L,O,i,o,a,b}:=r.hold œ;show p i x λd I C j h l t=>?_
 show q (u::d) _ _ (ûi j) (Ļc o a b i.ext.g j h) êl {u,d,rfl,t}
def ES(i:Ä){x:Ç}{pos:Pos}(A:Zw X es ts fs)(n:Î ϐb q12)(hv:Î Ϩb q14)(j:Î Ģ q10)(d:Î Śa q10):Zw X (.Name x pos::es) (.var i::ts) (uI (jP i) fs):=by let{R,r,s}:=A.h;let{U,O,I}:=(bP (X:=X) i (x:=x) (pos:=pos) n hv j d).h;show{{_,qf (ZE n hv j d) r rfl,λ{P C u G H β β' σ T Q} E c q=>?_}};obtain⟨⟨m,β1⟩,B,c⟩:=zF c;obtain⟨⟨y,β2⟩,z,c⟩:=zF c;cases c;let F:∃v,σ[i]?=À ŧ/\zl X.K Ĝi P C u G H (β1++[À m]) ìa:=ći B;let{v,f,w}:=F;let{L,W,k,o,a,b}:=w.hold œ;show{v,f,s k z λe S J p h l t=>q (v::e) _ _ p (Ļc o a b k.ext.g p h) êl {v,e,rfl,f,t}}
def z1l{pl:Sem Ï}(h:Je ò X.w X.K ñ Œ c m ps k Ϧb)(I:ym j X.A)(H:Gl X c)(x:Zw X Ē ts fs)(hk:Î Ťb q10)(d:Î Ėe q10)(z:Î êa q12)(B:ċ Ċe Ö=(do
   let ov <-ċ źg Ö
   standAt Ěc
   let (f,first) <-holding [ov] ñc
   Œb pos f first Űc Ĳb):=by rfl):MC X Ċe (Dx F ts fs):=by
 let{t,r,n}:=x.h;show{{_,z7s h I H r hk d z B,λE a q=>?_}};obtain⟨⟨O,β1⟩,g,a⟩:=zF a;obtain⟨⟨i,N⟩,L,a⟩:=zF a;let{β2,o,a}:=zF a;cases a;show n E g λQ P R C u l y=>?_
 rw[Ûa];show u.call L λv G J s b=>q v G J (C.trans s) (b.Pi (b.len l) (y.mono s) o).push
def z1z(i:Ä){x:Ç}{p0 p1 p2 s y A C u B:Pos}{k0 k1 k2}(r:Î ϐb q12)(hv:Î Ϩb q14)(n:Î Ģ q10)(d:Î Śa q10):Zw X [.Subscript (.Name x p0) (.Constant Ķ k0 s) C,.Subscript (.Name x p1) (.Constant ώ k1 y) u,.Subscript ŗd (.Constant Ŝa k2 A) B] [.sp i 3] (Bb i):=by
 let{t0,I,O}:=(U2 (k:=0) (kk:=k0) (kp:=s) (pos:=C) (yS (X:=X) i (x:=x) (pos:=p0) r hv n d)).h;let{t1,e1,U}:=(U2 (k:=1) (kk:=k1) (kp:=y) (pos:=u) (yS (X:=X) i (x:=x) (pos:=p1) r hv n d)).h;let{W,e2,K}:=(U2 (k:=2) (kk:=k2) (kp:=A) (pos:=B) (yS (X:=X) i (x:=x) (pos:=p2) r hv n d)).h;show{{_,qf I (qf e1 (qf e2 g8 rfl) rfl) rfl,λ{P G0 Y G H β β' σ Z Q} E f q=>?_}};obtain⟨⟨m,β1⟩,S,f⟩:=zF f;dsimp only at f
 rw[Ăo];rename_i a b c;cases f;let{v,j,J}:=ći S;let{L,Hb,z,o,F,R}:=J.hold œ;let{p,T,rfl,w,l,t}:=(Ļc o F R z.ext.g Ęi (yp.nil z)).iS;let e:=ύ _ _ w;rw[Ûa,Ûa]at t
 match T,l with
 | [v0,v1,v2],_=>show O j {p,_,v0,rfl,e,rfl,rfl} (U j {p,_,v1,rfl,e,rfl,rfl} (K j {p,_,v2,rfl,e,rfl,rfl} (q _ _ _ Űa t rfl {p,[v0,v1,v2],[],rfl,rfl,j,w,rfl})))
 cases f
def z1p(h:TH ò X.w X.K ñ Œ c ps k Ϧb)(hr:ym j X.A)(hg:Gl X c)(U:Zw X Ē ts fs)(hk:Î (k+1<=j) q10)(B:Î Ėe q10)(r:Î êa q12) :MC X ōn (Dw c F ts fs):=by
 let{C,f,fd,ns,i,mk,b,FF}:=h;let{t,T,ka}:=U.h;rw[ř,ø]at r;show{{_,c8 mk FF ěm hg i b .nil YI T B (tQ r.1) (kK r.2),λ{P G0 H0 G H β β' σ mr Q} E a q=>?_}};obtain⟨⟨ms,β1⟩,x,a⟩:=zF a;obtain⟨⟨S,m'⟩,hF,a⟩:=zF a;show ka E x λvs I g Z L l W y d u n ne=>?_
 rw[Ûa];dsimp only at a
 rw[Òo];rename_i m0 ms0;let{β2,hb,a}:=zF a;cases a
 let J:zh I g:=by let{_,_,Y,_}:=L;show Y.ext.gh
 let a1:∀q,q≠y->q≠d->zU ļg y Ìh q=g q:=λq z w=>by rw[zt z,zt w]
 let N:∀q o,g q=À o->zU ļg y Ìh q=À o:=λq o z=>by rw[a1 q (λc=>by subst c;rw[u]at z;cases z) (λc=>by subst c;rw[n]at z;cases z)];show z
 let x2:zV I g I (zU ļg y Ìh):={ĝa _,N,λq o z=>N q o (J _ _ z),λq z=>.inl z};let h2:=L.add (m:=.obj c [] []) (v:=.ref y) (Lm:=λq=>q=y) x2 {y,C,d,[],λ_=>ê,rfl,ns,yL,rfl,{rfl,λ_ z=>z},λz=>z,λq=>{.inl,λz=>ģ id Áa}} λq z=>z▸{J.free u,u}
 show h2.call hF λv G' H' s R=>?_
 let rv:v=.zE:=by let{_,_,_,{_,_,_,_,e,{o,_},_},_}:=R;cases e;show o
 show{rv,?_};let O:=R.swap.drop;show q _ G' H' (Z.trans s) (O.Pi (O.len l) (W.mono s) hb).push;cases a
#print a
def QY(i:Ä)(π:Á xH):yU:=λβ=>(ϟc).bind λa=>match a with
 |.own (.lst _)=>(Ιc (.own Ēf)).bind λβ'=>À ϩn|_=>Æ
section
variable{X:Cx}{o:Ó}{i np:Ä}{π:Á xH}{ϙ Ϛ pos:Pos}
def EV(u:SP X o i π)(e:Î (Şa o "clear" Ö Ãf=ċ o Ö) q12)(d:Î śa q12)(I:Î (Xw Īj=Å) q12) :MS X np (.Expr Īj pos) (QY i π):=by
 let{W,x,y}:=u.h;show{{_,(GN (z9p ĩe PySem.F.slot_list_clear PySem.F.type_list_clear z25 {x} e d) I).h,λ{P G0 R G H β σ Z E} O K b q=>?_}};let{S,C,b}:=zF b
 rw[Ĉo];rename_i T;let{β2,k,b}:=zF b;cases b;let{U,n,s}:=g7 C;let p:=K.Mh (m:=.fz .zE) (v:=.zE) (L:=λ_=>ê) ϗd {rfl,λ_ z=>z} λ_ z=>ģ
 let{r,Q,L1,Lr,B,J,{a,rfl,{g,j,N,l},f},_,_,w}:=p.write Ôa n s;let{Y,t,A}:=w (H':=zU H a Ēf) (m2:=.own Ēf) (L2:=λq=>q=a) (Ζb (f q)) {a,rfl,{[],yL,rfl,Ϡ _},λ_=>äa} λq z=>.inl ((f q).mpr z)
 rw[YK n t]at k;cases k;show y B J {.inl {rfl,g,Ŕa j},a,g,rfl,rfl,j,q _ _ _ A};cases b
#print a
def Im:Á D->Ê D
 | [.tup xs]=>Il [.lst xs]|_=>Æ
def z6m{K:Ð}:jl K (GS K) Im:=λG H p x d Q s r b q=>by
 rcases p with _|⟨x_,r_⟩;cases b
 cases x_<;>first|(cases b;done)|skip
 cases r_<;>first|(cases b;done)|skip
 rw[ĉo];cases c:Ĵj with
 |Ã=>rw[c]at b;cases b|Å=>
  rw[Ħo];let w:=ī c.2
  let g:∀n∈ns,0<=n/\n<1099511627776:=λn e=>by rw[čo]
  rw[ĺo];show{a,ns,rfl,.inr f,{λn e=>?_,λk t=>?_},q _ _ _ ϑ rfl};let:=g n e
  rw[ŉo];let:=N6 (ns:=ns.take k) λn e=>g n Ϻj
  rw[ŋo]
  rw[ġo]
  rw[ŉo]
#print L3
namespace L3
open Ĩ
nonrec def aJ:Á D:=[Ķ,Îa,ϗa,ēf]
def VX:D:=.tup aJ
nonrec def Xg:Á D:=[Ĥc,çf,åf]
def jy:D:=.tup Xg
nonrec def Ff:Á Ą:=ϡa .inr [ľf,øa,ĩa,Ϩa,įa,ϩa,ŷa,ϧa,Įa,ŗa,äb,Ĩa,Ña,Ða,Ħa,ña,Þa,Ýa,àa,ãa,ğa,şb]
nonrec def Fk:Á D:=[Īm,ĕe,ĕe,ĵb,ĵb,ĵb,ĵb,ĵb,ĵb,ĵb,ĵb,ĵb,ĕe,ĕe,Ăe,Ăe,Ăe,Ăe,Īm,úl,úl,Ϟh]
nonrec def Fg:Á Ą:=ϡa .inr [øa,ĩa,Ña,Ða,Ħa,ña,Þa,Ýa]
nonrec def Fm:Á D:=[ϗa,ϗa,Ğc,Ğc,Îa,Îa,Îa,Îa]
nonrec def qW:Á Ą:=ϡa .inr [ŉa,"d","s",Ēb,Ϧm]
nonrec def qX:Á D:=[(.tup [(.int 27),Ğc]),(.tup [ēf,ϔd]),(.tup [ϫn,ϔd]),(.tup [ēf,Ŝa]),(.tup [Ķ,Ğc])]
nonrec def gn:Á Ą:=ϡa .inr [şb,øa,ĩa,Ϩa,įa,ϩa,ŷa,ϧa,Įa,ŗa,äb,Ĩa,Ña,Ða,Ħa,ña,Þa,Ýa]
nonrec def gr:Á D:=[Ķ,ώ,Ŝa,ϔd,îi,Ğc,(.int 6),(.int 7),Îa,(.int 9),(.int 10),(.int 11),(.int 12),(.int 13),(.int 14),(.int 15),ϗa,(.int 17)]
nonrec def O3:Á L2.V:=[.int 0,.int 1,.int 2,.int 3,.int 4,.int 5,.int 6,.int 7,.int 8,.int 9,.int 10,.int 11,.int 12,.int 13,.int 14,.int 15,.int 16,.int 17]
nonrec def Xf:Á Ą:=ϡa .inr ϣl
nonrec def Y9:Á D:=[(.int 18),(.int 19),Ϭn]
nonrec def O5:Á L2.V:=[.int 18,.int 19,.int 20]
nonrec def Xe:Á Ą:=ϡa .inr ϣl
nonrec def Y8:Á D:=[ϫn,(.int 22),(.int 23)]
nonrec def O4:Á L2.V:=[.int 21,.int 22,.int 23]
theorem b8{g:FG}{c:FT}{e:FE}{σ:zx}(p:D->Ï)(v:D->D):∀{ds:Á D},(∀d∈ds,∃σ1,g d σ=À σ1/\c σ1=À (p d)/\(p d=Å->e σ1=À (v d)))->xF g c e σ ds=À ((ds.filter p).map v)
 | [],_=>rfl|d::ds,h=>by
  let{σ1,e1,e2,f}:=h d Ĵc;let a:=b8 p v (ds:=ds) λx b=>h x ďb
  rw[Ŀo];exact(c σ1).bind _=_;rw[e2];cases hp:p d with
  |Ã=>rw[List.filter_cons_of_neg (by rw[hp];decide)];show a|Å=>rw[List.filter_cons_of_pos hp];exact(Ťf).bind _=_;rw[f hp];exact(xF g c e σ ds).bind _=_;rw[a];rfl
def YD(v:D->D)(h:∀d∈ds,∃σ1,g d σ=À σ1/\e σ1=À (v d)):xF g yy e σ ds=À (ňf v):=by
 let:=b8 (g:=g) (c:=yy) (e:=e) (σ:=σ) (λ_=>Å) v (ds:=ds) λd f=>by let{σ1,a,b}:=h d f;show{σ1,a,rfl,λ_=>b}
 rw[this,List.filter_eq_self.mpr òh]
inductive Wd(R:D->D->È):Á D->Á D->È
 |nil:Wd R [] []
 |ú {x y:D} {xs ys:Á D}:R x y->Wd R xs ys->Wd R Ñe (y::ys)
theorem b9{g:FG}{e:FE}{σ:zx}(R:D->D->È):∀{ds:Á D},(∀d∈ds,∃σ1 x,g d σ=À σ1/\e σ1=À x/\R d x)->∃xs,xF g yy e σ ds=À xs/\Wd R ds xs
 | [],_=>{[],rfl,.nil}|d::ds,h=>by
  let{σ1,x,e1,e2,r}:=h d Ĵc;let{xs,c,a}:=b9 R (ds:=ds) λx b=>h x ďb
  show⟨x::xs,?_,.cons r a⟩;rw[Ŀo];exact(Ťf).bind _=_;rw[e2];exact(xF g yy e σ ds).bind _=_;rw[c];rfl
def UB{n i:Ä}{d:D}(h:ņc[i]?=À d):i<n/\d=.int (i:Â):=by
 let a:i<n:=by let:=åa.1;simpa using this
 show{a,?_};simp[a]at h;show h.symm
def LY(n:Ä):(ņc).length=n:=by simp
def lB(xs:Á α)(a:α):vZ ŭn (-1)=À a:=by unfold vZ;rw[Ô Ì,Ò (by rw[Ă,čg];omega)];rw[show((-1:Â)+((ŭn).length:Ä)).toNat=ä by rw[Ă,čg];omega];simp
def Be{α:Type}{xs:Á α}{i:Â}{a:α}(b:0<=i)(h:xs[Ľc]?=À a):vZ xs i=À a:=by unfold vZ;rw[Ò b,h]
def pE:Ä->D->Ï
 |0,_=>Ã|n+1,.tup xs=>Õe (pE n)|n+1,.lst xs=>Õe (pE n)|_+1,d=>yz d
theorem Dz{f:D->D->Ï}:∀{xs:Á D},(∀x∈xs,f x x=Å)->pj f xs xs=Å
 | [],_=>rfl|x::xs,h=>by exact(f x x&&pj f xs xs)=Å;rw[h x Ĵc,Dz λy a=>h y Ϛd];rfl
theorem F3:∀{xs:Á D},(∀x∈xs,xi x x=Å)->Ůb xs xs=Å
 | [],_=>rfl|x::xs,h=>by exact(xi x x&&Ůb xs xs)=Å;rw[h x Ĵc,F3 λy a=>h y Ϛd];rfl
theorem Qc:∀(n:Ä)(d:D),pE n d=Å->uS n d d=Å/\xi d d=Å
 |0,_,h=>by cases h|n+1,d,h=>by
  cases d with
  |tup xs=>have c:∀x∈xs,pE n x=Å:=Ĺa h;show{Dz λx a=>ŭe.1,F3 λx a=>ŭe.2}|lst xs=>have c:∀x∈xs,pE n x=Å:=Ĺa h;show{Dz λx a=>ŭe.1,F3 λx a=>ŭe.2}|dic ks vs=>cases h|exc _=>cases h|obj _ _ _=>cases h|zE=>show{rfl,rfl}|bl b=>show{rfl,ðb b}|int i=>show{rfl,ðb i}|str z=>show{rfl,ðb z}
def nK(h:pE 6 d=Å):Z4 d d=À Å:=by
 let{b,a}:=Qc 6 d h
 have e:Z4 d d=match uS 6 d d with
  |Å=>À (xi d d)|Ã=>Æ:=by cases d<;>rfl
 rw[e,b,a]
theorem z2g(h:pE 6 d=Å):xt d d=À ç:=by unfold xt;rw[nK h];rfl
def Xo{i j:Â}(h:i=j):zb Ϩ Ĺc=À ě:=by subst h;exact À (Úc (i==i))=_;rw[ðb]
theorem YA{i j:Â}(h:i≠j):zb Ϩ Ĺc=À ç:=by exact À Êh=_;rw[ţc h]
theorem Ř{i j:Â}:yK Ϩ Ĺc=À ĕh:=rfl
def ij{L M:Á D}(h:ģf+M.length<=1000):yK (.lst L) (.lst M)=À (Δ (L++M)):=by exact(if ģf+M.length<=yW then _ else _)=_;rw[Ò Ūj]
theorem Ee{x y:D}{b:Ï}(h:zb x y=À ğb):xt x y=À (.bl (!b)):=by
 unfold zb at h;unfold xt;cases e:Z4 x y with
 |Æ=>rw[e]at h;cases h|À k=>rw[e]at h;cases h;rfl
def iz(a:n<2 ^ w)(b:y/2 ^ l%2 ^ w=0):(y &&& ϙh)=0:=by
 apply Ĕk;intro i;rw[űe,ßl];rw[ög];by_cases hl:l<=i;by_cases hi:i-l<w;let e:ŉb i=(y/2 ^ l%2 ^ w).testBit (i-l):=by rw[Æk,Çk,å hi,Śd,Ĭg hl]
 rw[e,b,ßl,ôb];let:n.testBit (i-l)=Ã:=Nat.testBit_lt_two_pow (Ŵ a (Nat.pow_le_pow_right Ì É));rw[this];simp;simp[hl]
theorem iu(x l w:Ä):(x &&& (ϝn*2 ^ l))=x/2 ^ l%2 ^ w*2 ^ l:=by apply Ĕk;intro i;rw[űe,ög,ög,Nat.testBit_two_pow_sub_one,Æk,Çk];by_cases hl:l<=i;simp[hl,Ĭg hl];rw[Bool.and_comm];simp[hl]
theorem mC(l w:Ä):íg=((ϝn*2 ^ l:Ä):Â):=by let h:1<=2 ^ w:=Nat.one_le_two_pow;rw[Int.natCast_mul,Int.natCast_sub h];simp
def lP(a:0<=x)(l w:Ä):Äb x íg=x/2^l%2^w*2^l:=by let{n,rfl}:=źb a;rw[mC,Ük Ŕf Ŕf,Ŕ,Ŕ,iu];simp
def lO(h:0<=y)(c:0<=n)(g:n<2 ^ w)(hz:y/2 ^ l%2 ^ w=0):Äb y ϙh=0:=by
 let{a,rfl}:=źb h;let{b,rfl}:=źb c;let e:(b:Â)*2 ^ l=((b*2 ^ l:Ä):Â):=by simp
 let f:b<2 ^ w:=by
  let:((2 ^ w:Ä):Â)=(2:Â) ^ w:=by simp
  omega
 let d:a/2 ^ l%2 ^ w=0:=by
  let:((a/2 ^ l%2 ^ w:Ä):Â)=(a:Â)/2 ^ l%2 ^ w:=by simp
  omega
 rw[e,Ük Ŕf Ŕf,Ŕ,Ŕ,iz f d];rfl
def mS{x p r:Â}(d:0<=x)(a:0<p)(b:0<r):0<=x-x/p%r*p/\Éf/p%r=0/\Éf/p/r=x/p/r/\Éf%p=x%p:=by
 let g:0<=x/p:=ţg d (Ϝc a);let e1:x-x/p%r*p=x+p*(-(x/p%r)):=by rw[Int.mul_neg,Êb p];omega
 let e2:Éf/p=x/p-x/p%r:=by rw[e1,Int.add_mul_ediv_left _ _ (ϩe a)];omega
 let c:x/p-x/p%r=r*(x/p/r):=by let:=úk (x/p) r;omega
 show{?_,?_,?_,?_};let f:x/p%r<=x/p:=by let:=úk (x/p) r;let e:0<=x/p/r:=ţg g (Ϝc b);let h:0<=r*(x/p/r):=Int.mul_nonneg (Ϝc b) e;omega
 let j:x/p%r*p<=x/p*p:=Int.mul_le_mul_of_nonneg_right f (Ϝc a);let i:=Int.ediv_mul_le x (ϩe a);omega;rw[e2,c];show ŧk _ _;rw[e2,c];show Int.mul_ediv_cancel_left _ (ϩe b);rw[e1];show Int.add_mul_emod_self_left ..
def Eu(x:Â)(w:Ä):Äb x ((1:Â)*2 ^ w-1)=x%2 ^ w:=by rw[ϥc,W.kbt_mask]
theorem x18{x n:Â}{l w:Ä}(b:0<=x)(c:0<=n)(a:n<2 ^ w):ďc (Äb x (óc íg)) ϙh=x+(n-x/2 ^ l%2 ^ w)*2 ^ l:=by let e:(0:Â)<2 ^ l:=đh Ì;let d:(0:Â)<2 ^ w:=đh Ì;let{f,g,_,_}:=mS b e d;rw[PyProof.Rows.bitAnd_not,lP b,PyProof.Rows.bitOr_and,lO f c a g,Int.sub_mul];omega
def A8(a:Ä):decide ((0:Â)<=óc (a:Â))=Ã:=đ (by unfold óc;omega)
def b0(a:Ä):decide ((0:Â)<=(a:Â))=Å:=å (İb a)
def lT(a:Â):óc (óc a)=a:=by unfold óc;omega
def AB(a b:Ä):ďc (a:Â) (b:Â)=((a ||| b:Ä):Â):=by unfold ďc Äb;rw[A8,A8];simp only[lT,Ŕ]
theorem Su(a b:Ä):Äb (a:Â) (b:Â)=((a &&& b:Ä):Â):=by unfold Äb;rw[b0,b0];simp only[Ŕ]
def Sr:FS:=
 (zZ (xB (tE (e2 ϛb ă èb))
   (yE Ĭe)
   xS)
  (yE û))
def sW(ns:Á Â)(k:Ä):Ľa[k]?=(ns[k]?).map Ě:=Ş
nonrec def qw(ns:Á Â)(k:Â):Â:=Úf Ű 0
nonrec def jG:Á D->Ê í
 | [.lst xs,.int k]=>if 0<=k then((xs[Ű]?).getD Ķ |> λd=>À (Ã,d))else Æ|_=>Æ
def XR(ns:Á Â){k:Â}(h:0<=k):jG [.lst Ľa,.int k]=À (Ã,.int (qw ns k)):=by exact(if 0<=k then _ else _)=_;rw[Ò h,sW];unfold qw;rw[ėa];cases ns[Ű]?<;>rfl
def y0o:∀ds r,jG ds=À r->Ĉ=2/\yP 2 Sr ds=À r:=λds r h=>by
 rcases ds with _|⟨x,_|⟨y,_|⟨z,w⟩⟩⟩;cases h;cases x<;>cases h
 .cases x<;>first|(cases h;done)|skip
  cases y<;>first|(cases h;done)|skip
  rename_i a k
  replace h:(if 0<=k then À (Ã,(ϕn).getD Ķ)else Æ)=À r:=h
  show{rfl,?_};by_cases h0:0<=k;rw[Ò h0]at h;cases h;unfold Sr;by_cases c:k<(ϴ:Â);let e:zD Ðd Åa=À ((ϕn).getD Ķ):=by exact vZ a k=_;unfold vZ;rw[Ò h0,Ĳ É];rfl
  simp only[Ú,å c,e];let e:a[Ű]?=Æ:=êb É;simp only[Ú,đ c,e,Option.getD];rw[Ô h0]at h;cases h
 .cases x<;>first|(cases h;done)|(cases y<;>cases h)
def Tj(h:Őb<2 ^ m):wf i<=m:=by
 by_cases c:i=0;subst c;show Ϡ _;let e:wf i=ϙe+1:=by exact(if(i==0)=Å then 0 else ϙe+1)=_;rw[Ô (by simpa using c)]
 rw[e];show(ĸn).mpr h
def Qg{i j:Â}(a:0<=j)(d:j<64)(b:0<=i)(c:i<2 ^ 64):jC i j=Å:=by unfold jC;rw[å a,å (show j<=1000000 by omega),å (show Őb<2 ^ 64 by omega)];rfl
def Ss:FS:=
 (zZ (yH 4 (e2 uk Źj ă))
  (yE (e2 (qz ďc) (e2 Õi ë (e1 FK ŗ)) (e2 uk Ħ ă))))
def z8y{d:Ä}(h:d<64):1<=(2:Â) ^ d/\(2:Â) ^ d<2 ^ 64:=by
 let b:(2:Ä) ^ d<2 ^ 64:=Ľe Ì h;let a:0<(2:Ä) ^ d:=Ŕm Ì;let e:((2 ^ d:Ä):Â)=(2:Â) ^ d:=by simp
 let e2:((2 ^ 64:Ä):Â)=(2:Â) ^ 64:=by decide
 omega
nonrec def ku:Á D->Ê í
 | [.int x,.int l,.int d,.int n]=>if Üg/\0<=n/\n<2 ^ ľc then À (Ã,.int ϵf)else Æ|_=>Æ
def y0q:∀ds r,ku ds=À r->Ĉ=4/\yP 5 Ss ds=À r:=λds r h=>by
 unfold ku at h
 split at h;rename_i x l d n;show{rfl,?_}
 split at h;rename_i c;obtain⟨⟨g,e,a,k,m⟩,b,f⟩:=c;let{p,q}:=z8y (d:=ľc) É;cases h;let e1:=Qg (i:=1) (j:=d) k m Ì Ì;let e2:=Qg (i:=1*2 ^ ľc-1) (j:=l) e a É É;let o:=Qg (i:=n) (j:=l) e a b É;unfold Ss;simp only[Ú,e1,e2,o,FK,x18 g b f];cases h;cases h
def fQ{x l d n:Â}(h:Üg/\0<=n/\n<2 ^ ľc):ku [.int x,.int l,.int d,.int n]=À (Ã,.int ϵf):=Ò h
def IA:FS:=
 (yE (e2 Õi ĵl Źj))
def wG:Á D->Ê í:=FR 3 3 IA
def aT(a b x2:D):wG Ů=yP 3 IA Ů:=rfl
def Bt:FS:=
 (zZ (yH 3 (e2 yK Ĳl ôl))
  (Κa (e2 yZ Ħ ķc) (Α (e2 (Ξb (j<=i)) æa Ĳd))))
def Wn:Á D->Ê í:=FR 3 4 Bt
def oU(a b x2:D):Wn Ů=yP 4 Bt Ů:=rfl
def Dg:FS:=
 (zZ (yH 3 (e2 q_ (e2 q_ ë ă) ôl))
  (zZ (xB (tE (e2 ϛb Ħ û))
   (Κa (e2 yK Ħ ķc) (Α (eC (.bl Å))))
   xS)
  (yE ϻk)))
def Wx:Á D->Ê í:=FR 3 4 Dg
def sA(a b x2:D):Wx Ů=yP 4 Dg Ů:=rfl
def DW:FS:=
 (zZ (yH 2 (e2 uk ë ă))
  (zZ (yH 3 (Λd (Ψ (zA õc Çf))))
  (yE (Ξ (zg wG (Ψ (Μa Śn))) ĩc))))
def X4:Á D->Ê í:=FR 2 4 DW
def rX(a b:D):X4 ð=yP 4 DW ð:=rfl
def DX:FS:=
 (zZ (yH 2 (Λd (ζ (zA (e2 q_ ă į) Çf))))
  (Κa ĵl (Α Śi)))
def X5:Á D->Ê í:=FR 2 3 DX
def rY(a b:D):X5 ð=yP 3 DX ð:=rfl
def J9:FE:=(zg wG (ζ (ω ϐh)))
def B_:FS:=
 (Γe (wU 1 (tz ıi) Ĭa yy J9))
def Wp:Á D->Ê í:=FR 1 1 B_
def og(a:D):Wp [a]=yP 1 B_ [a]:=rfl
def Nh:FE:=(e2 uk ă Ĺ)
def Dl:FS:=
 (yE (eL Il (Α (wU 2 (jS ë ıi) (jw 1 2) yy Nh))))
def TC:Á D->Ê í:=FR 1 1 Dl
def sF(a:D):TC [a]=yP 1 Dl [a]:=rfl
def By:FS:=
 (yE (Z3 ë ă û))
def Yw:Á D->Ê í:=FR 2 2 By
def oY(a b:D):Yw ð=yP 2 By ð:=rfl
def Bv:FS:=
 (yE (zg wG (zA Ĳl (Μa (Α įf)))))
def Wo:Á D->Ê í:=FR 2 2 Bv
def oW(a b:D):Wo ð=yP 2 Bv ð:=rfl
def Lj:FE:=(zg Wo ôh)
def DB:FS:=
 (qG (wU 1 (ww û Åb) Ĭa yy Lj))
def Yz:Á D->Ê í:=FR 1 1 DB
def rB(a:D):Yz [a]=yP 1 DB [a]:=rfl
def Ll:FE:=(zg Yw (η Śi))
def Dj:FS:=
 (yE (zg TC (Α (wU 1 (tz Ěh) Êc yy Ll))))
def T9:Á D->Ê í:=FR 2 2 Dj
def sD(a b:D):T9 ð=yP 2 Dj ð:=rfl
def Da:yU:=
 (ZA 0 [] ă (yt (zg wG (Ψ (Μa ϐh)))))
def Ww:FM:=wq 3 3 Da
def rg(a b x2:M):Ww Ů=xy 3 3 Da Ů:=rfl
def OR:yU:=(qY (qS Ww (tj 0 [] (t7 Ħ (t7 ŗ vx)))))
def Db:yU:=
 (Vj (jS Ěh Źm) ĭf
   OR)
def T8:FM:=wq 3 5 Db
def rh(a b x2:M):T8 Ů=xy 3 5 Db Ů:=rfl
def fR:FE:=ϻk
def Br:yU:=
 (yO (j9 0 [] [Ŀ] ŏ (jr (eL qT ăa)))
  (yO (j9 0 [] [Ŀ] ϒa (jr (eL Ig (Α (wU 1 (tz ţf) Éc yy fR)))))
  (j9 0 [] [Ŀ] Âa (jr (eL Ie ϋc)))))
def Wk:FM:=wq 3 3 Br
def oR(a b x2:M):Wk Ů=xy 3 3 Br Ů:=rfl
def D7:yU:=
 (ς (yt ŏn))
def Uu:FM:=wq 2 2 D7
def oz(a b:M):Uu ð=xy 2 2 D7 ð:=rfl
def D4:yU:=
 (ς (wv (zg ku (zA þe (zA įf (Ω ϗa âg))))))
def Ur:FM:=wq 2 2 D4
def ot(a b:M):Ur ð=xy 2 2 D4 ð:=rfl
def D3:yU:=
 (ς (wv Åg))
def Uq:FM:=wq 2 2 D3
def oj(a b:M):Uq ð=xy 2 2 D3 ð:=rfl
def VC:FS:=
 (zZ (xB (ιa (eC ϓb))
   (Αe (Ψ ąg))
   xS)
  (zZ (xB (ιa (eC Ŀb))
   (Αe (Ψ ĩc))
   xS)
  (yE (zg Wx (ω (Ψ (Α (Z1 æa (e2 zb ë æi)))))))))
def pV:Á D->Ê í:=FR 4 4 VC
def O1(a b x2 x3:D):pV Ąb=yP 4 VC Ąb:=rfl
def DV:yU:=
 (yO (Δb çf (e2 zb ă û))
  (Δb åf (e2 zb (zg wG (ω (zA (e2 q_ õc į) Çf))) į)))
def X2:FM:=wq 2 2 DV
def rW(a b:M):X2 ð=xy 2 2 DV ð:=rfl
def Jw:yU:=
 (yO (ςc (zg pV (Ηe (zA Åg (Α (Ζ (χa (xQ Ϸn ϒa)) (eC Ĥc)))))))
  (yO (Δb Ĥc ıl)
  (yO (ζc (tj 0 [] (t7 Ÿe vx)))
  (vg (δ (e2 xt ša ϴd))
   (ς (yt Ÿe))
   t_))))
def jh:FM:=wq 2 3 Jw
def aN(a b:M):jh ð=xy 2 3 Jw ð:=rfl
def DF:FS:=
 (zZ (xB (ιa (eC όc))
   (Λc Õi)
   xS)
  (zZ (xB (ιa (eC Ėc))
   (Λc (qz ďc))
   xS)
  (Λc (qz ϑg))))
def Wq:Á D->Ê í:=FR 3 3 DF
def rE(a b x2:D):Wq Ů=yP 3 DF Ů:=rfl
def D2:yU:=
 (yO (ςc (zg Wq (Ηe (Α (Ζ (e1 åk ë) âg)))))
  (yO (ζc (tj 0 [] (t7 Ĺ vx)))
  (ς (yt Ĺ))))
def Zo:FM:=wq 2 3 D2
def oi(a b:M):Zo ð=xy 2 3 D2 ð:=rfl
def Jv:yU:=
 (yO (wx 2 (wv þe))
  (yO (wx 3 (yt (tq (tE (e2 zb ša çi)) (zg X4 ěl) (zg X5 ěl))))
  (yO (vg (δ (e2 VM Ŵg Ņa))
   (Δb Ĥc Ŵg)
   t_)
  (yO (ζc (tj 0 [] (t7 İl vx)))
  (ς (yt İl))))))
def Yy:FM:=wq 2 4 Jv
def aM(a b:M):Yy ð=xy 2 4 Jv ð:=rfl
def Bu:FS:=
 (yE (zg Wo (zA Åg (Α (e2 zD ă Ŀa)))))
def Zn:Á D->Ê í:=FR 2 2 Bu
def oV(a b:D):Zn ð=yP 2 Bu ð:=rfl
def D5:yU:=
 (ς (wv (zg Yw ϩi)))
def Us:FM:=wq 2 2 D5
def ox(a b:M):Us ð=xy 2 2 D5 ð:=rfl
def D6:yU:=
 (ς (wv (zg T9 ϩi)))
def Ut:FM:=wq 2 2 D6
def oy(a b:M):Ut ð=xy 2 2 D6 ð:=rfl
def D8:yU:=
 (qY (qS Ww Ãj))
def Uv:FM:=wq 2 2 D8
def o_(a b:M):Uv ð=xy 2 2 D8 ð:=rfl
def D9:yU:=
 (qY (qS T8 Ãj))
def Uw:FM:=wq 2 2 D9
def r9(a b:M):Uw ð=xy 2 2 D9 ð:=rfl
nonrec def qx:Á Ą:=ϡa .inr [øa,ĩa,Ϩa,įa,ϩa,ŷa,ϧa,Ĩa,Įa,ŗa,äb,Ña,Ða,Ħa,Þa,ña,Ýa]
nonrec def Ab:Á Ç:=[ėf,îf,ïf,ϯb,ϯb,ϯb,ϯb,ϯb,ϴc,ϴc,ϴc,ϋd,ϋd,íf,Óf,Òf,ϵe]
def Tu:Á FM:=[Uu,Ur,Uq,jh,jh,jh,jh,jh,Zo,Zo,Zo,Yy,Yy,Us,Ut,Uv,Uw]
def Tf:yU:=
 (vg (δ (e1 (Y5 qx) ša))
   (qY (Du qx Tu ša (tj 0 [] (t7 ă vx))))
   t_)
def kZ:FM:=wq 2 2 Tf
def Fh(a b:M):kZ ð=xy 2 2 Tf ð:=rfl
def lI:FS:=
 (zZ (xB (tE (e2 zb ša ŷe))
   (yE Ĝj)
   xS)
  (zZ (xB (tE (e2 zb ša ĭl))
   (yE (Tx Ĝj))
   xS)
  (yE (e2 zb ša äi))))
def Zr:Á D->Ê í:=FR 2 2 lI
def Bp:FS:=
 (yE (VJ (e2 zb Ìg (χa (xQ [Ý] œa))) (e2 zb (e2 zD īj û) (xr (Α Íd)))))
def pS:Á D->Ê í:=FR 1 1 Bp
def oP(a:D):pS [a]=yP 1 Bp [a]:=rfl
def Ju:yU:=
 (yO (vg (δ Ŷj)
   ųc
   t_)
  (yO (wx 1 (wv īj))
  (yO (qY (qS kZ (tj 0 ŏd (t7 ša vx))))
  (yO (j9 0 [] [Ý] Īb (wv (tq (tE (zg Zr (zA įd (Α ša)))) ŏn Ýc)))
  (yO (EJ 0 [] [Ý] šb į)
  Żk)))))
def gT:FM:=wq 1 2 Ju
def aL(a:M):gT [a]=xy 1 2 Ju [a]:=rfl
abbrev jI:Á Ą:=[.inr ąa,.inr ϔa,.inr ěb]
nonrec def YX(a b c:Ï):D:=.dic jI ıb
def st(ws:Á D)(a b c:Ï)(hk:Á Ą)(hv:Á D):M:=.obj Ŀ ϸg [.own Đb,.own ϰc,.own Æb]
def ui(ws:Á D)(a b c:Ï)(hk:Á Ą)(hv:Á D):D:=.obj Ŀ ϸg [.lst ws,YX a b c,.dic hk hv]
abbrev X8:Á Ç:=[Ϫ,œa,ϸa,úb,ła,Īb,šb]
nonrec def vK(T:D)(e:Â)(fw fh:D)(s:M)(due done:Â):M:=.obj Ý X8 [.fz T,.fz Áe,.fz fw,.fz fh,s,.fz ϳc,.fz Íf]
nonrec def vA(T:D)(e:Â)(fw fh:D)(s:D)(due done:Â):D:=.obj Ý X8 [T,.int e,fw,fh,s,.int due,.int done]
section
variable{ws ws':Á D}{a b c d':Ï}{hk hk':Á Ą}{hv hv':Á D}{T fw fh sd:D}{e due done:Â}{s s':M}
def uN:wy ſb=ui ws a b c hk hv:=by simp only[st,ui,wy,Íc]
theorem UA:wy ėd=vA T e fw fh (wy s) due done:=by simp only[vK,vA,wy,Íc]
theorem XM{i:Ä}{π:Á xH}:gc ſb i π=.p i π:=rfl
def jq:uH ſb Ęl=À (.own Đb):=rfl
def Te:uH ſb ėl=À (.own (.dic jI ıb)):=rfl
def Sn:uH ſb ùc=À ún:=rfl
def gA:u7 ſb Ęl (.own (.lst ws'))=À (st ws' a b c hk hv):=rfl
def cU:u7 ſb ùc (.own (.dic hk' hv'))=À (st ws a b c hk' hv'):=rfl
def Qj{x y z:Ï}:u7 ſb ėl (.own (.dic jI [.bl x,.bl y,.bl z]))=À (st ws x y z hk hv):=rfl
def p_:xQ [Ŀ] ŏ ģg=À Đb:=rfl
def FV:xQ [Ŀ] ϒa ģg=À ϰc:=rfl
def Ip:xQ [Ŀ] Âa ģg=À Æb:=rfl
def NB:zD ϰc Ĥc=À ĺi:=rfl
def y7m:zD ϰc çf=À ğb:=rfl
def y7n:zD ϰc åf=À (.bl c):=rfl
def Oq:vM jI Ăn=jI:=rfl
def z8n:vM jI ān=jI:=rfl
def z8p:vM jI Ān=jI:=rfl
def Ov:xV jI ėg Ăn ôi=[.bl d',.bl b,.bl c]:=rfl
def z9g:xV jI ėg ān ôi=[.bl a,.bl d',.bl c]:=rfl
def z9h:xV jI ėg Ān ôi=[.bl a,.bl b,.bl d']:=rfl
def So:uH ėd ŏd=À s:=rfl
def cV:u7 ėd ŏd s'=À (vK T e fw fh s' due done):=rfl
def FW:xQ [Ý] Ϫ ãc=À T:=rfl
def Ap:xQ [Ý] œa ãc=À Áe:=rfl
def VP:xQ [Ý] ła ãc=À sd:=rfl
def Q3:xQ [Ý] Īb ãc=À ϳc:=rfl
def nP:xQ [Ý] šb ãc=À Íf:=rfl
def Ar:jY (.fz (.int d2)) Âm 0 [] [Ý] Īb=À (Υ (vK T e fw fh s d2 done)):=rfl
def Sq:EJ 0 [] [Ý] šb į Âm=À (Υ (vK T e fw fh s due (done+1))):=rfl
def Tc(h:fo τ=À ãc)(b:m ∉ X8)(a:fs τ=À ds):w_ Ý m fo fs τ=À (vA T e fw fh sd due done::ds):=by unfold w_;rw[h];exact(match decide ((Ý : Ç) = Ý)&&!(decide (m∈X8))with|Å=>_|Ã=>_)=_;rw[å (show(Ý : Ç) = Ý from rfl),đ b];exact(fs τ).bind _=_;rw[a];rfl
#print a
nonrec def wI(ns:Á Â):Á D:=ųa Ě
def ua{ns:Á Â}{k:Ä}{v:Â}:(åd).set k Ϻb=wI (ns.set k v):=(List.map_set ..).symm
def uD{ns:Á Â}:(åd).length=ϡ:=æ ..
def uJ{n k:Ä}(h:k<n):Ņc n (k:Â)=À k:=by unfold Ņc;rw[Ò Þd];simp[h]
theorem wJ{ns:Á Â}{k:Ä}{v:Â}(h:ns[k]?=À v):zD (Δ åd) łb=À Ϻb:=by exact vZ åd (k:Â)=_;unfold vZ;rw[Ò Þd];exact åd[((k:Â)).toNat]?=_;rw[Ŕ];unfold wI;rw[Ş,h];rfl
def Aa:z6 0 (À (Ã,vA T e fw fh sd due done)::τ)=À ãc:=rfl
def N2{T fw fh sd row nx tg:D}{e due done:Â}{k:Ï}(h:due≠e->zD T ϳc=À Ĵg/\zb row ĸb=À êd) :pS ύj=À (Ã,.bl (decide (due=e)||k))\/due=e/\pS ύj=À (Ã,.bl Å):=by
 let a:∀{i j:Â},zb Ϩ Ĺc=À ũm:=λ{i j}=>by rw[Įo]
 let g:∀{x y z:D},zD Ċc Ķ=À x:=rfl;rw[oP];unfold Bp;by_cases c:due=e;right
 show{c,?_};simp only[Ú,Q3,Ap,a,c,ϲ];left
 let{f,d}:=h c;let b:decide (due=e)=Ã:=đ c;rw[b];simp only[Ú,Q3,Ap,FW,a,b,f,g,d];rfl
def N4{T fw fh row tg:D}{e due done:Â}{s s':M}{nx:D}{d2:Â}(c:due≠e)(f:zD T ϳc=À Ĵg)(t:zb row ĸb=À ç)(i:wO Ĵg=Å)(ns:∀d,s≠.fz d)(m:kZ [s,.fz row]=À ([s',.fz row],.fz .zE))(g:Ï)(h:Zr [wy s',row]=À (Ã,.bl g))(j:(if g then tg else nx)=.int d2) :gT ég=À ([vK T e fw fh s' d2 (done+1)],.fz ě):=by
 let n:pS Ĕe=À (Ã,.bl Ã):=by rcases N2 (T:=T) (fw:=fw) (fh:=fh) (sd:=wy s) (row:=row) (nx:=nx) (tg:=tg) (e:=e) (due:=due) (done:=done) (k:=Ã) λ_=>{f,t}with z|⟨z,_⟩;rw[z,đ c];rfl;show ß z c
 let r:∀{x y z:D},zD Ċc Ķ=À x:=rfl;let q:∀{x y z:D},zD Ċc ώ=À y:=rfl;let o:∀{x y z:D},zD Ċc Ŝa=À z:=rfl
 let l:gc s 0 ŏd=.p 0 ŏd:=by
  cases s with
  |fz d=>show ß rfl (ns d)|_=>rfl
 let a:∀τ:zx,w_ Ý ħc ë zG Ôj=À Ĕe:=λτ=>Tc Aa Ī rfl
 rw[aL];unfold Ju;cases g with
 |Ã=>have b:nx=.int d2:=j;subst b;simp only[ý,UA,a,n,FW,Q3,f,i,r,q,o,So,cV,l,m,VP,h,Ar,Sq]|Å=>have b:tg=.int d2:=j;subst b;simp only[ý,UA,a,n,FW,Q3,f,i,r,q,o,So,cV,l,m,VP,h,Ar,Sq]
theorem ur{x y z:D}:zD Ċc Ķ=À x:=rfl
def qH{x y z:D}:zD Ċc ώ=À y:=rfl
def qI{x y z:D}:zD Ċc Ŝa=À z:=rfl
def XU{x y:D}:zD Ϡc Ķ=À x:=rfl
def XV{x y:D}:zD Ϡc ώ=À y:=rfl
def Őa{i j:Â}:zb Ϩ Ĺc=À ũm:=by rw[Įo]
theorem Xq{x:Ç}:vz Ŭa=À Ļf:=rfl
def QX:decide (3<yW)=Å:=by decide
def QT:zD (.tup (y::xs)) Ķ=À y:=rfl
section
variable{Ws:Á Â}{a b c:Ï}{hk:Á Ą}{hv:Á D}
def nB{d:Ä}{n:Â}(e:d<ť):Uu [st Č a b c hk hv,.fz Æg]=À ([st (wI (ϳb d n)) a b c hk hv,.fz Æg],.fz .zE):=by rw[oz];unfold D7;simp only[ý,ur,qH,qI,jq,gA,uD,uJ e,ua]
theorem n5{d s:Ä}{v:Â}(f:d<ť)(e:Ws[s]?=À v):Uq [st Č a b c hk hv,.fz ēd]=À ([st (wI Ľn) a b c hk hv,.fz ēd],.fz .zE):=by rw[oj];unfold D3;simp only[ý,uN,p_,wJ e,ur,qH,qI,jq,gA,uD,uJ f,ua]
theorem Xs{w:Â}{g:Â}(h:wG Żb=À (Ã,.int g)):X2 [st Č a b c hk hv,.fz ēc]=À ([st Č a (decide Ūb) (decide ĉd) hk hv,.fz ēc],.fz .zE):=by rw[rW];unfold DV;simp only[ý,uN,h,Őa,Xq,Te,Qj,QX,z8n,z8p,z9g,z9h]
theorem n8{d:Ä}{n v w:Â}(e:Ws[d]?=À v)(h:ku [.int v,.int 16,.int 16,.int n]=À (Ã,.int w)):Ur [st Č a b c hk hv,.fz Äg]=À ([st ńd a b c hk hv,.fz Äg],.fz .zE):=by let f:d<ť:=âd.1;rw[ot];unfold D4;simp only[ý,uN,p_,wJ e,h,ur,qH,qI,jq,gA,uD,uJ f,ua]
theorem nE{k:Ç}{d s:Ä}{x y w g:Â}{u:Ï}(e:xt Ď ϋb=À ě)(f:Ws[d]?=À x)(l:Ws[s]?=À y)(h:pV ķa=À (Ã,.tup Ĉc))(j:wG Żb=À (Ã,.int g)) :jh Şj=À ([st ńd u (decide Ūb) (decide ĉd) hk hv,.fz ϳa],.fz .zE):=by let i:d<ť:=ád.1;rw[aN];unfold Jw;simp only[ý,uN,p_,FV,NB,wJ f,wJ l,h,ur,qH,qI,XU,XV,Xq,Te,Qj,QX,Oq,Ov,Xs j,XM,e,jq,gA,uD,uJ i,ua]
theorem gi{k:Ç}{d s:D}{F:FM}{S a:M}(f:Y5 qx Ď=À ě)(e:ĩ qx Tu ϩ=À F)(b:∀d,S≠.fz d)(g:wO d=Å)(i:wO s=Å)(h:F ţm=À (šm,.fz .zE)) :kZ ţm=À (šm,.fz .zE):=by
 rw[Fh];unfold Tf
 let c:gc S 0 []=.p 0 []:=by
  cases S with
  |fz d=>show ß rfl (b d)|_=>rfl
 simp only[ý,ur,f,Xq,e,c,h]
theorem tO{ws:Á D}:∀d,st ws a b c hk hv≠.fz d:=λd h=>by cases h
#print a
section
variable{Ws:Á Â}{a b c:Ï}{hk:Á Ą}{hv:Á D}
def n4{k:Ç}{d s:Ä}{x y w g:Â}(e:Ws[d]?=À x)(j:Ws[s]?=À y)(h:Wq àk=À (Ã,.int w))(i:wG Żb=À (Ã,.int g)) :Zo Şj=À ([st ńd a (decide Ūb) (decide ĉd) hk hv,.fz ϳa],.fz .zE):=by let f:d<ť:=âd.1;rw[oi];unfold D2;simp only[ý,uN,p_,wJ e,wJ j,h,ur,qH,qI,Xs i,XM,jq,gA,uD,uJ f,ua]
theorem Ac{k:Ç}{d:Ä}{x n w g:Â}(f:Ws[d]?=À x)(t:Ï)(e:zb Ď όb=À éd)(h:ϱi=À (Ã,.tup [.int w,.zE]))(j:wG Żb=À (Ã,.int g)) :Yy ŝj=À ([st ńd a (decide Ūb) (decide ĉd) hk hv,.fz ϰf],.fz .zE):=by
 rw[Ŷo];cases t with
 |Ã=>rw[Ô Ì]at h;simp only[ý,uN,p_,wJ f,e,h,ur,qH,qI,XU,XV,Xs j,XM,jq,gA,uD,uJ i,ua]|Å=>rw[Ò rfl]at h;simp only[ý,uN,p_,wJ f,e,h,ur,qH,qI,XU,XV,Xs j,XM,jq,gA,uD,uJ i,ua]
theorem Ad{k:Ç}{d:Ä}{x n w g:Â}{u:Ï}(f:Ws[d]?=À x)(t:Ï)(e:zb Ď όb=À éd)(h:ϱi=À (Ã,.tup Ĉc))(j:wG Żb=À (Ã,.int g)) :Yy ŝj=À ([st ńd u (decide Ūb) (decide ĉd) hk hv,.fz ϰf],.fz .zE):=by
 rw[Ŷo];cases t with
 |Ã=>rw[Ô Ì]at h;simp only[ý,uN,p_,wJ f,e,h,ur,qH,qI,XU,XV,Xq,Te,Qj,QX,Oq,Ov,Xs j,XM,jq,gA,uD,uJ i,ua]|Å=>rw[Ò rfl]at h;simp only[ý,uN,p_,wJ f,e,h,ur,qH,qI,XU,XV,Xq,Te,Qj,QX,Oq,Ov,Xs j,XM,jq,gA,uD,uJ i,ua]
#print a
inductive kz:D->È
 |ϭ:kz ĸb
 |WR {w:Ç} {d n:Â} (hw:w = øa \/ w = ĩa) (d0:0<=d) (d1:d<8) (n0:0<=n) (n1:n<65536):kz őh
 |two {w:Ç} {d s:Â} (hw:w = Ϩa \/ w = įa \/ w = ϩa \/ w = ŷa \/ w = ϧa \/ w = Įa \/ w = ŗa \/ w = äb \/ w = Ĩa) (d0:0<=d) (d1:d<8) (s0:0<=s) (s1:s<8):kz äf
 |WU {w:Ç} {d n:Â} (hw:w = Ña \/ w = Ða) (d0:0<=d) (d1:d<8) (n0:0<=n) (n1:n<32):kz őh
 |mem {w:Ç} {d s n:Â} (hw:w = Ħa \/ w = ña \/ w = Þa \/ w = Ýa) (d0:0<=d) (d1:d<8) (s0:0<=s) (s1:s<8) (n0:0<=n) (n1:n<256):kz ín
def Co{a:D}{r:Á D}:zD (.tup Ŋc) Ķ=À a:=rfl
nonrec def w6:D->Ï
 |.tup Ìf=>w == àa || w == ãa || w == ğa|_=>Ã
def EC:D->D
 |.tup xs=>(vZ xs (-1)).getD .zE|_=>.zE
nonrec def z04:D:=.tup Űi
theorem Ex{d:D}(h:kz d):∃w,zD d Ķ=À Ŗ/\yq Ŗ z04=À ç/\zb Ŗ (.str ľf)=À ç/\w6 d=Ã/\pE 5 d=Å:=by
 cases h with
 |ϭ=>show{_,rfl,rfl,rfl,rfl,rfl}|WR hw=>rcases hw with rfl|rfl<;>show{_,rfl,rfl,rfl,rfl,rfl}
 |two hw=>rcases hw with rfl|rfl|rfl|rfl|rfl|rfl|rfl|rfl|rfl<;>show{_,rfl,rfl,rfl,rfl,rfl}
 |WU hw=>rcases hw with rfl|rfl<;>show{_,rfl,rfl,rfl,rfl,rfl}
 |mem hw=>rcases hw with rfl|rfl|rfl|rfl<;>show{_,rfl,rfl,rfl,rfl,rfl}
nonrec def sv:D->Ï
 |.tup Ìf=>w == ľf|_=>Ã
nonrec def z2c(t:Ç):D->Ï
 |.tup [_,.str u]=>u==t|_=>Ã
def z8q(t:Ç)(s:Ä×Ê Ä)(d:D):Ä×Ê Ä:=match sv d with
 |Å=>(s.1,match z2c t d with
  |Å=>À s.1|Ã=>s.2)
 |Ã=>(s.1+1,s.2)
def z8u(t:Ç)(L:Á D):Ä×Ê Ä:=L.foldl (z8q t) (0,Æ)
def l4{L:Á D}{r:D}(h:ģf<=1000):XY (.lst L) r=À (Δ (L++[r])):=by exact(if ģf<yW then _ else _)=_;rw[Ò (by rw[Ío])]
theorem Ag{R:D->D->È}:∀{xs ys:Á D},Wd R xs ys->ä=ŭ
 |_,_,.nil=>rfl|_,_,.cons _ r=>by rw[Ġ,Ġ,Ag r]
theorem Ah{R:D->D->È}:∀{xs ys:Á D},Wd R xs ys->∀y∈ys,∃x∈xs,R x y
 |_,_,.nil,_,h=>by cases h|x::xs,y::ys,.cons r rs,z,hz=>by rcases ŋ hz with rfl|hz;show{x,ŉ ..,r};let{w,a,h}:=Ah rs z hz;show{w,Õa _ a,h}
def DO:FS:=
 (zZ (yH 2 (e2 yZ (e2 Q1 (e2 yK ë (e2 ve (eC (.int 7919)) ă)) (eC (.int 48271))) (eC (.int 2147483647))))
  (yE (e2 yZ (e2 yK (e2 yK (e2 pz Ĺ Ĺ) (e2 ve Ϥe Ĺ)) ă) (eC (.int 2147483629)))))
def vk:Á D->Ê í:=FR 2 3 DO
def rO(a b:D):vk ð=yP 3 DO ð:=rfl
def DT:FS:=
 (zZ (yH 2 (εb (μ ĳl)))
  (zZ (yH 3 (μ (e2 yK ĳl į)))
  (zZ (yH 4 (yc (Μa (zA (eC (.int 4294967295)) (zA êk (zA į (zA (e2 yZ Ħ Ϥe) (Ωb (eC (.int 65530)) (e2 yZ æa ϝg)))))))))
  (yE (e2 zD (ζb (Ι (e2 yZ (e2 Q1 Ħ Ϥe) ķc) (Α (e2 yZ (e2 Q1 æa Įf) Ĳd)))) Ĺ)))))
def T5:Á D->Ê í:=FR 2 5 DT
def rT(a b:D):T5 ð=yP 5 DT ð:=rfl
def Nf:FE:=(zg T5 ôh)
def DU:FS:=
 (qG (wU 1 (ww û Ϛc) Ĭa yy Nf))
def T6:Á D->Ê í:=FR 1 1 DU
def rV(a:D):T6 [a]=yP 1 DU [a]:=rfl
def um(c k:Â):∃v:Â,vk ŧg=À (Ã,.int v)/\0<=v/\v<2147483629:=by
 let g:=ăc Ϙk (show(2147483647:Â)≠0 by decide);let f:=òc Ϙk (show(0:Â)<2147483647 by decide);let d:wN 7919=Å/\wN 48271=Å/\wN 7=Å:={by decide,by decide,by decide}
 let b:wf ģd<=40:=by
  rw[ào]
  show Tj É
 let a:decide (wf ģd+wf ģd<=134217728)=Å:=å É;show{((c+7919*k)*48271%2147483647*ģd+7*ģd+k)%2147483629,?_,ăc _ Ì,òc _ Ì};rw[rO];unfold DO;simp only[Ú,d,Ř,pz,a,ϲ]
theorem YB{l:Á D}{P:D->È}(c:Â){n:Â}(h:(Ĕb:Â)=n)(d:0<n)(a:∀r∈l,P r):∃r,zD (.lst l) (Β (c%n))=À r/\P r:=by
 let m0:=ăc c (show n≠0 by omega);let e:=òc c d;let b:(c%n).toNat<Ĕb:=by omega
 show{l[(c%n).toNat],Be m0 (Ĳ b),a _ (ύb b)}
def xX{P:D->È}{x:D}{l:Á D}(h:P x)(t:∀r∈l,P r):∀r∈x::l,P r:=λr m=>by rcases ŋ m with rfl|m;show h;show t r m
def Z_{P:D->È}:∀r∈([]:Á D),P r:=λ_ m=>ß m ñb
def x19(c k:Â):∃w:Â,T5 ŧg=À (Ã,.int w)/\0<=w/\w<4294967296:=by let{v,e1,i,j}:=um c (2*k);let{u,e2,h,m}:=um c (2*k+1);let e:wN 2=Å/\wN 7=Å/\wN 5=Å:={by decide,by decide,by decide};let{_,b,w,rfl,g,f}:=YB (P:=λd=>∃w:Â,d=.int w/\0<=w/\w<4294967296) v (n:=8) (l:=źi) rfl Ì (xX {_,rfl,by omega,by omega} (xX {_,rfl,by omega,by omega} (xX {_,rfl,by omega,by omega} (xX {_,rfl,by omega,by omega} (xX {_,rfl,by omega,by omega} (xX {_,rfl,by omega,by omega} (xX {_,rfl,by omega,by omega} (xX {_,rfl,by omega,by omega} Z_))))))));show{w,?_,g,f};let a:yK (.lst [.int 0,.int 4294967295,.int 2147483648,.int 1,.int (u%7),.int (65530+u%12)]) (.lst [.int (u*7%4294967296),.int (u*5%4294967296)])=À (.lst źi):=rfl;rw[rT];unfold DT;simp only[Ú,e,Ř,e1,e2,a,b,ϲ]
theorem ED{g:FG}{e:FE}{σ:zx}(P:Â->È):∀{ds:Á D},(∀d∈ds,∃σ1 v,g d σ=À σ1/\e σ1=À Ϻb/\P v)->∃vs:Á Â,xF g yy e σ ds=À (wI vs)/\ö=Ĉ/\∀v∈vs,P v
 | [],_=>{[],rfl,rfl,λ_ h=>ß h é}|d::ds,h=>by
  let{σ1,v,e1,e2,p}:=h d Ĵc;let{vs,c,l,q}:=ED P λf b=>h f ďb
  show⟨v::vs,?_,by rw[Ġ,Ġ,l],λx a=>?_⟩;simp only[xF,e1,yy,þa,e2,c];rfl;rcases ŋ a with rfl|a;show p;show q x a
def x1a(c:Â):∃Ws:Á Â,T6 Ėb=À (Å,.lst Č)/\ť=8/\∀w∈Ws,0<=w/\w<4294967296:=by
 let b:ww û Ϛc [À (Ã,.int c)]=À (yb 8):=tJ (n:=8) rfl Ì
 let{f,e,l,p}:=ED (g:=yB 1) (e:=Nf) (σ:=[À (Ã,.int c),Æ]) (λw=>0<=w/\w<4294967296) (ds:=yb 8) λd i=>by let{k,_,rfl}:=ū i;let{w,a,j,h}:=x19 c k;show{_,w,rfl,?_,j,h};unfold Nf;simp only[Ú,a]
 show{f,?_,l,p};rw[rV];unfold DU;simp only[Ú,b,e]
nonrec def pD(p:Â×Â):D:=.tup [.int p.1,.int p.2]
structure we(ps:Á ó):È where
 ad:∀p∈ps,0<=p.1/\p.1<65536
 uc:∀p∈ps,0<=p.2/\p.2<256
 nd:(ķ (·.1)).Nodup
def GW:FA:=(ww û (e2 yZ (μ Ŵl) Ϥe))
def fS:FE:=(e2 zD ϫ û)
def OQ:FS:=(zZ (yH 3 (μ (Μb (.int 50))))
    (zZ (yH 4 (Ζ (Ι ϡj (zA (e2 yK (eC (.int 65527)) ϡj) (Α (e2 yZ æa Įd)))) (Μc (Μb (.int 60)))))
    (xB (LN (tE (e2 jv ŗ (wU 1 (tz ă) ģb yy fS))))
     (Vt 1 XY (xr (zA ŗ (Α (Ζ (Ι (ξc (οd (Μb (.int 70)))) (Μa (Μ (eC (.int 255))))) (e2 yZ (οd (Μb (.int 80))) Ŀa))))))
     xS)))
def DP:FS:=
 (zZ (qh 1 Ðe)
  (zZ (qF GW Êc
   OQ)
  ύf))
def T3:Á D->Ê í:=FR 1 5 DP
def rP(a:D):T3 [a]=yP 5 DP [a]:=rfl
def sV(x:Â):∀(ys:Á Â),Ih Ňa (Δ ħi)=À (decide (x∈ys)):=λys=>by
 let b:(yz Ňa&&(ħi).all yz)=Å:=by rw[ø];show{rfl,ïc λd f=>?_};let{y,_,rfl}:=ū f;rfl
 exact(match yz Ňa&&(ħi).all yz with|Å=>À żj|Ã=>Æ)=_;rw[b];exact À żj=_
 congr 1
 unfold wI;rw[ìh,Ϗb];rw[īg,őg]
 rw[Ůo];rintro⟨y,c,e⟩;let a:(y==x)=Å:=e;rw[beq_iff_eq]at a;show a▸c;intro h;show{x,h,(ðb x:(x==x)=Å)}
def z7f(c:Â):∃ps,T3 Ėb=À (Å,.lst ća)/\we ps/\ü<=6:=by
 let{n,F,Y,U}:=um c 40
 let R:GW Âj=À ūe:=by unfold GW;show tJ (n:=n%7) ?_ É;simp only[Ú,F,ϲ]
 let{σ',e1,ps,u,q,t,l,P,rfl}:=jV (g:=yB 2) (b:=OQ) (λi σ=>∃(ps:Á ó) (u q t:Ê Sl),ü<=i/\we ps/\σ=[À (Ã,.int c),À (Å,.lst ća),u,q,t])
  (ds:=yb (n%7).toNat) (σ:=Âj) 0 {[],Æ,Æ,Æ,Üa _,{λ_ h=>ß h é,λ_ h=>ß h é,List.nodup_nil},rfl} λi d σ m a=>by
   let{ps,u,q,t,l,P,rfl}:=a;rw[Ŭ]at l ⊢;let{k,_,rfl}:=ū (Ķb m);let{v,w,X,W}:=um c (50+k);let{o,A,_,_}:=um c (60+k);let{N,S,_,_}:=um c (70+k);let{f,T,_,_}:=um c (80+k)
   obtain⟨ad,B,C,Q⟩:∃ad:Â,zD (.lst [.int (v%9),.int (65527+v%9),.int (v%65536)]) (Β (o%3))=À (.int ad)/\0<=ad/\ad<65536:=by rcases(show o%3=0\/o%3=1\/o%3=2 by omega)with h|h|h<;>rw[h]<;>show{_,rfl,by omega,by omega}
   obtain⟨e,G,b0,E⟩:∃e:Â,zD (.lst [.int (N%256),.int 0,.int 255]) (Β (f%3))=À Áe/\0<=e/\e<256:=by rcases(show f%3=0\/f%3=1\/f%3=2 by omega)with h|h|h<;>rw[h]<;>show{_,rfl,by omega,by omega}
   let s:xF ģb yy fS [À (Ã,.int c),À (Ã,.lst ća),À (Ã,.int (k:Â)),À (Ã,.int v),À (Ã,.int ad),Æ] ća=À ((ća).map λd=>match d with|.tup [x,_]=>x|d=>d):=YD (λd=>match d with|.tup [x,_]=>x|d=>d) λd m=>by let{p,_,rfl}:=ū m;show{_,rfl,rfl}
   let r:((ća).map λd=>match d with|.tup [x,_]=>x|d=>d)=wI (ķ (·.1)):=by unfold wI;rw[ýb,ýb];rfl
   rw[r]at s;let j:=sV ad (ķ (·.1));by_cases cc:ad∈ķ (·.1);show{_,[À (Ã,.int c),À (Å,.lst ća),À (Ã,.int (k:Â)),À (Ã,.int v),À (Ã,.int ad)],rfl,.inl ?_,ps,_,_,_,by omega,P,rfl};unfold OQ;rw[å cc]at j;simp only[Ú,Ř,w,A,B,ϲ,LN,Iu,jR,s,jv,j];show{_,[À (Ã,.int c),À (Å,.lst Ók),À (Ã,.int (k:Â)),À (Ã,.int v),À (Ã,.int ad)],rfl,.inl ?_,ps++[(ad,e)],_,_,_,?_,?_,rfl};unfold OQ;rw[đ cc]at j
   let O:XY Ĝe (.tup èl)=À (Δ Ók):=by
    exact(ζd (ća) (Ćd (ķ pD++[.tup èl])))=_;let H:i<(ūe).length:=Ġi.1;let J:(ūe).length=(n%7).toNat:=by simp[yb]
    rw[Ò (by rw[æ];rw[Ío]),Ăa];rfl
   simp only[Ú,Ř,w,A,B,ϲ,LN,Iu,jR,s,jv,j,S,T,G,O];rw[Ă];exact ü+1<=_;omega;show{λp a=>?_,λp a=>?_,?_};rcases Àb a with a|a;show P.ad p a;cases ĸa a;show{C,Q};rcases Àb a with a|a;show ēa p a;cases ĸa a;show{b0,E};rw[Ăa,Łd];refine{P.nd,by simp,λx K y L=>?_};obtain rfl:ad=y:=(ĸa L).symm;intro z;let I:x=ad:=z;show cc (I▸K)
 show{ps,?_,P,?_};rw[rP];unfold DP;simp only[Ú,R,e1];let:(ūe).length=(n%7).toNat:=by simp[yb]
 omega
def DC:FS:=
 (zZ (xB (YV (tE (XW .bool ë)) (υa (XW .int ë)))
   (yE ıf)
   xS)
  (yE (Z1 (e2 ũd û ë) (e2 ϛb ë Ĵl))))
def ji:Á D->Ê í:=FR 2 2 DC
def rC(a b:D):ji ð=yP 2 DC ð:=rfl
def Jy:FS:=
 (yE (zg ji (η įf)))
def Y_:Á D->Ê í:=FR 1 1 Jy
def aP(a:D):Y_ [a]=yP 1 Jy [a]:=rfl
def DE:FS:=
 (zZ (xB (YV (υa (XW .tuple ë)) (tE (e2 xt èb ņa)))
   (yE ıf)
   xS)
  (yE (Z1 (zg Y_ śn) (zg ji (zA ěd ϐh)))))
def Uy:Á D->Ê í:=FR 1 1 DE
def rD(a:D):Uy [a]=yP 1 DE [a]:=rfl
def C_:FS:=(zZ (xB (υa (zg Uy ϋc))
     Ïb
     xS)
    (zZ (xB (tE (e2 yq Ÿe (Y4 1)))
     Ïb
     xS)
    (jZ 1 Ÿe ıl)))
def Bz:FS:=
 (zZ Ùn
  (zZ (xB ģk
   ύf
   xS)
  (zZ (xB Ϲj
   Ïb
   xS)
  (zZ (qF Òi Êc
   C_)
  ύf))))
def Yx:Á D->Ê í:=FR 1 3 Bz
def oZ(a:D):Yx [a]=yP 3 Bz [a]:=rfl
def Ni:FE:=(zg ji (ω Śn))
def Dm:FS:=
 (zZ (xB ģk
   (qG (e2 VN ħf Ϛc))
   xS)
  (zZ (xB (YV Ϲj (tE (e2 xt èb Ϛc)))
   Ïb
   xS)
  (zZ (xB (υa (eL FI (Α (wU 1 Òi Ĭa yy Ni))))
   Ïb
   xS)
  (qG ϔm))))
def TF:Á D->Ê í:=FR 1 1 Dm
def sG(a:D):TF [a]=yP 1 Dm [a]:=rfl
def Bj:yU:=
 (yO (j9 0 [] [Ý] ła (Dv Ŀ Wk (tj 0 Ěl (tj 0 ęl vx))))
  (yO (j9 0 [] [Ý] Īb ϱd)
  (j9 0 [] [Ý] šb ϱd)))
def Zm:FM:=wq 1 1 Bj
def oH(a:M):Zm [a]=xy 1 1 Bj [a]:=rfl
def Bi:yU:=
 (yO (j9 0 [] [Ý] Ϫ (yt ă))
  (yO (j9 0 [] [Ý] œa (yt Ĺ))
  (yO (j9 0 [] [Ý] ϸa (Tr (Tt (uj TF ĩc))))
  (yO (j9 0 [] [Ý] úb (Tr (Tt (uj Yx ϭc))))
  (qY (VG Ý Åe 0 [] Zm vx))))))
def We:FM:=wq 5 5 Bi
def oG(a b x2 x3 x4:M):We Şl=xy 5 5 Bi Şl:=rfl
theorem EI(P:Ä->zk->È):∀{ds:Á D}{β:zk}(n:Ä),P n β->(∀i d β,ds[i]?=À d->P (n+i) β->∃β1 β2,g d β=À β1/\b β1=À ϝa/\P (n+i+1) β2)->
  ∃β',vW g b ds β=À ϩn/\P (n+Ĉ) β'
 | [],β,n,h,_=>{β,rfl,h}|d::ds,β,n,h,Ôc=>by
  let{β1,β2,e1,e2,e}:=Ôc 0 d β rfl h
  let{β',q,c}:=EI P (ds:=ds) (β:=β2) ĸ e λi r τ p k=>by let{a,j,s,l,o}:=Ôc õ r τ (by simpa using p) éj;show{a,j,s,l,by rw[ώo];show o}
  show{β',?_,by rw[ŧo];show c};exact((g d β).bind λβ1=>(Ĳi).bind λf=>match f with|.nx β2=>vW g b ds β2|.ct β2=>vW g b ds β2|.bk β2=>À ϝa|.rt m β2=>À ϣm)=_;rw[e1];exact(Ĳi).bind _=_;rw[e2];show q
def OI{i:Â}{w:Ä}(e:w<=64):ji [.int i,.int (w:Â)]=À (Ã,.bl (decide ϫa&&decide (i<2 ^ w))):=by
 let b:jC 1 (w:Â)=Å:=by unfold jC;rw[å É,å É];rfl
 let d:uk ώ Żl=À ϻl:=by rw[ĭo];rw[b];exact À Ěe=_;rw[Ŕ,ϥc]
 rw[rC];unfold DC;by_cases c:0<=i;let a:decide ϫa=Å:=å c;rw[a];simp only[Ú,a,b,Ŕ,ϥc];let a:decide ϫa=Ã:=đ c;rw[a];simp only[Ú,a,ôb]
theorem x1b{Ws:Á Â}(g:ť=8)(m:∀w∈Ws,0<=w/\w<4294967296):TF Źd=À (Å,.lst Č):=by
 let e:xF Ĭa yy Ni [À (Ã,.lst Č),Æ] Č=À ((Č).map λ_=>.bl Å):=YD (λ_=>.bl Å) λd n=>by
  let{w,f,rfl}:=ū n;rw[ýo];let{a,b}:=m w f;let h:=OI (i:=w) (w:=32) Ì;let c:(2:Â) ^ 32=4294967296:=by decide
  rw[c,å a,å b]at h;unfold Ni;simp only[Ú,show ji [.int w,.int 32]=À (Ã,.bl Å)from h]
 let e2:(Č).map (λ_=>Úc Å)=(Ų 8 Å).map Úc:=by unfold wI;rw[ýb,List.map_replicate,<-g,<-đl];rfl
 let l:FI [.lst [.bl Å,.bl Å,.bl Å,.bl Å,.bl Å,.bl Å,.bl Å,.bl Å]]=À ě:=rfl;rw[e2]at e;let j:qT Źd=À ϱ:=rfl
 let k:xt (.int ((Č).length:Â)) Îa=À ç:=by rw[uD,g];rfl
 rw[sG];unfold Dm;simp only[Ú,k,e,l,j]
nonrec def kP(ps:Á ó):Á Ą:=ķ λp=>.inl p.1
nonrec def vP(ps:Á ó):Á D:=ķ λp=>.int p.2
def Ck:vJ Ċ Ùb=decide (a∈ķ (·.1)):=by
 unfold vJ kP;rw[ìh,Ϗb,īg,őg]
 rw[Ůo];rintro⟨p,b,e⟩;let c:=ī e;show ŏg {p,b,ϔb c};intro h;let{p,b,e}:=ū h;show{p,b,å (Ϣ Æa e)}
def G9(h:a ∉ ķ (·.1)):vM Ċ Ùb=kP Ðm/\xV Ċ Į Ùb (.int b)=vP Ðm:=by
 let c:vJ Ċ Ùb=Ã:=by rw[Ck];show đ h
 unfold vM xV;rw[Ô Èl,Ô Èl];unfold kP vP;rw[Ăa,Ăa];rw[ϗo]
def z7e{p:Â×Â}(d:0<=p.1/\p.1<65536)(c:0<=p.2/\p.2<256):Uy [pD p]=À (Ã,.bl Å):=by
 let a:=OI (i:=p.1) (w:=16) Ì;rw[å d.1,å (show p.1<2 ^ 16 from d.2)]at a;let b:=OI (i:=p.2) (w:=8) Ì;rw[å c.1,å (show p.2<2 ^ 8 from c.2)]at b;let e:ji [.int p.1,.int 16]=À (Ã,.bl Å):=a;let f:ji [.int p.2,.int 8]=À (Ã,.bl Å):=b
 let g:Y_ [.int p.1]=À (Ã,.bl Å):=by rw[aP];unfold Jy;simp only[Ú,e]
 let h:xt (.int ((0+1+1:Ä):Â)) Ŝa=À ç:=rfl;rw[rD];unfold DE pD;simp only[Ú,XU,XV,g,f,h]
theorem lb{ps:Á ó}(P:we ps)(v:ü<=1000):Yx Ϻm=À (Å,.dic Ċ Į):=by
 let{σ',e1,x,rfl}:=jV (g:=yB 2) (b:=C_) (λi σ=>∃x:Ê Sl,σ=[À (Ã,.lst ća),À (Å,.dic Ķc Ïi),x])
  (ds:=ķ pD) (σ:=[À (Ã,.lst ća),À (Å,.dic [] []),Æ]) 0 {Æ,rfl} λi d σ f a=>by
   let{x,rfl}:=a;rw[Ŭ];let e:i<ü:=by let:=ád.1;rw[æ]at this;show this
   rw[Ş,Ĳ e]at f;cases f;generalize a:ps[i]=p;let j:p∈ps:=a▸ύb e;let o:=z7e (P.ad p j) (ēa p j);let n:ņf õ=ņf i++[p]:=by rw[ĝd e,a]
   let c:p.1 ∉ (ťc).map (·.1):=by
    let l:=P.nd
    rw[Øo]
    rw[e2,Łd]at l;intro z;show l.2.2 _ z _ ŉ rfl
   let h:yq Ħc (.dic Ķc Ïi)=À ç:=by exact((vz Ħc).bind λk=>À (vJ Ķc k)).bind _=_;exact À (Úc (vJ Ķc Řh))=_;rw[Ck,đ c]
   let{u,s}:=G9 (b:=p.2) c;let m:(Ķc).length<yW:=by unfold kP;rw[æ,Ęa];rw[Ío]
   show{_,[À (Ã,.lst ća),À (Å,.dic (kP ϣe) (vP ϣe)),À (Ã,pD p)],rfl,.inl ?_,_,rfl};rw[n];unfold C_;let q:zD (pD p) Ķ=À Ħc:=rfl;let r:zD (pD p) ώ=À ÿn:=rfl;let t:vz Ħc=À Řh:=rfl;rw[<-u,<-s];simp only[Ú,o,q,r,h,jZ,t,Ò m]
 rw[Ŭ,æ,þc]at e1;rw[oZ];unfold Bz;simp only[Ú,e1]
theorem aE{g:Ä->D}{k:Ä}:∀{xs:Á Ä},k∈xs->ĩ (ġb λk:Ä=>(.inl (k:Â):Sum Â Ç)) (ġb g) ſl=À (g k)
 | [],h=>ß h é|x::xs,h=>by rw[Ť,Ť];unfold ĩ;by_cases c:x=k;rw[Ò Ýn,c];rw[Ô (λz=>c (by let:=ϔb z;omega))];show aE Ēj
def y3k{Ws:Á Â}{hk:Á Ą}{hv:Á D}:Wk [.obj Ŀ [] [],.fz ϱ,.fz Æb]=À ([st Č Ã Ã Ã hk hv,.fz ϱ,.fz Æb],.fz .zE):=by let e1:xF Éc yy fR [Æ,À (Ã,.lst Č),À (Ã,.dic hk hv),Æ] Xg=À ϐi:=rfl;let e2:Ig [.lst ϐi]=À (YX Ã Ã Ã):=rfl;let d:qT Źd=À ϱ:=rfl;let e:Ie [.dic hk hv]=À Æb:=rfl;let a:∀{x:M}{yM:zk},jY x (ο (.obj Ŀ [] [])) 0 [] [Ŀ] ŏ=À (Υ (.obj Ŀ [ŏ] [x])):=rfl;let c:∀{x y:M}{yM:zk},jY x (ο (.obj Ŀ [ŏ] [y])) 0 [] [Ŀ] ϒa=À (Υ (.obj Ŀ Ĭn [y,x])):=rfl;let b:∀{x y z:M}{yM:zk},jY x (ο (.obj Ŀ Ĭn [y,z])) 0 [] [Ŀ] Âa=À (Υ (.obj Ŀ ϸg [y,z,x])):=rfl;rw[oR];unfold Br;simp only[ý,jy,e1,e2,d,e,a,c,b];rfl
def ip{T fw fh:D}{e:Â}{Ws:Á Â}{hk:Á Ą}{hv:Á D}{fs:Á Ç}{ms:Á M}:Zm [.obj Ý ûe ϛi]=À ([vK T e ϱ Æb (st Č Ã Ã Ã hk hv) 0 0],.fz .zE):=by let l:uH ϕk Ěl=À Ėf:=rfl;let j:uH ϕk ęl=À (.fz Æb):=rfl;let h:∀{a b c d x:M}{yM:zk},jY x Ïg 0 [] [Ý] ła=À (Υ (.obj Ý [Ϫ,œa,ϸa,úb,"state"] [a,b,c,d,x])):=rfl;let k:∀{a b c d f x:M}{yM:zk},jY x (ο (.obj Ý [Ϫ,œa,ϸa,úb,ła] [a,b,c,d,f])) 0 [] [Ý] Īb=À (Υ (.obj Ý [Ϫ,œa,ϸa,úb,"state",Īb] [a,b,c,d,f,x])):=rfl;let i:∀{a b c d f g x:M}{yM:zk},jY x (ο (.obj Ý [Ϫ,œa,ϸa,úb,ła,Īb] [a,b,c,d,f,g])) 0 [] [Ý] šb=À (Υ (.obj Ý X8 [a,b,c,d,f,g,x])):=rfl;rw[oH];unfold Bj;simp only[ý,l,j,y3k,h,k,i];rfl
def Ng:FE:=(xr (ω ϑh))
def Nk:FT:=(tE (e2 xt Ĭe û))
def DZ:FS:=
 (qG (wU 1 (tz (eL FQ ŕd)) Ĭa Nk Ng))
def T7:Á D->Ê í:=FR 1 1 DZ
def rf(a:D):T7 [a]=yP 1 DZ [a]:=rfl
def Bo:FS:=
 (qG (eL qT (Α (e1 åk įd))))
def Wi:Á D->Ê í:=FR 1 1 Bo
def oO(a:D):Wi [a]=yP 1 Bo [a]:=rfl
def Li:FE:=(e2 zD (e1 (xQ [Ŀ] ϒa) įd) ă)
def Bl:FS:=
 (Γe (wU 1 (tz ţf) Ĭa yy Li))
def Wg:Á D->Ê í:=FR 1 1 Bl
def oJ(a:D):Wg [a]=yP 1 Bl [a]:=rfl
def Bm:FS:=
 (qG (uj T7 (Α (e1 (xQ Ϸn Âa) įd))))
def Wh:Á D->Ê í:=FR 1 1 Bm
def oK(a:D):Wh [a]=yP 1 Bm [a]:=rfl
def Bn:FS:=
 (yE Ìg)
def Yv:Á D->Ê í:=FR 1 1 Bn
def oN(a:D):Yv [a]=yP 1 Bn [a]:=rfl
def Bq:FS:=
 (yE (χa (xQ [Ý] šb)))
def Wj:Á D->Ê í:=FR 1 1 Bq
def oQ(a:D):Wj [a]=yP 1 Bq [a]:=rfl
def QW:FS:=(xB (tE Įl)
     (οa (zg Wi (w_ Ý Ãb ë zG)))
     (xB (tE (e2 zb Ħ į))
       (οa (zg Wg (w_ Ý ϥb ë zG)))
       (xB (tE (e2 zb Ħ ņa))
         (οa (zg Wh (w_ Ý ňb ë zG)))
         (xB (tE (e2 zb Ħ Ŀa))
           (οa (zg Yv (w_ Ý čb ë zG)))
           (xB (tE (e2 zb Ħ Åb))
             (οa (zg Wj (w_ Ý Ãe ë zG)))
             (jZ 2 Ħ Ŷj))))))
def Lk:FE:=(e2 zD Ĺ ŗ)
def DN:FS:=
 (zZ (qh 2 İe)
  (zZ (qF (tz (Ζ (Ι (Τb (ϡa Ě Àh)) (zA (Τb (ϡa Ě Ϲg)) (zA (Τb (ϡa Ě ϻg)) (Α (Τb (ϡa Ě Ϻg)))))) (e2 yZ ă Åb))) Éc
   QW)
  (zZ (ZJ 2) (Βe (wU 1 (ww û Óm) (yB 4) yy Lk)))))
def Wu:Á D->Ê í:=FR 2 4 DN
def rN(a b:D):Wu ð=yP 4 DN ð:=rfl
def Nd:FE:=(xr (Τa (Ζ ϕg æa)))
def Nj:FT:=(tE (e2 ŵm (e2 zD ϕg Ħ) û))
def DM:FS:=
 (zZ (yH 2 (wU 1 (tz (eL FU (Α (eL FN (Μ ϕg))))) Éc Nj Nd))
  (Βe (Ι (ι ők) (zA (eL Z5 (Μ (ι ãi))) (zA Śi (zA (ι Ħe) (zA (ι (eC ñn)) ăa)))))))
def X0:Á D->Ê í:=FR 2 3 DM
def rM(a b:D):X0 ð=yP 3 DM ð:=rfl
nonrec def uZ:Á ó->Â->Â
 | [],_=>0|p::ps,a=>if p.1=a then p.2 else uZ ps a
theorem aD{a:Â}:∀{ps:Á ó},a∈ķ (·.1)->ĩ Ċ Į Ùb=À Ğl
 | [],h=>ß h é|p::ps,h=>by exact ĩ (.inl p.1::kP ps) (.int p.2::vP ps) Ùb=_;unfold ĩ uZ;by_cases c:p.1=a;rw[Ò (Ϣ Æa c),Ò c];rw[Ô (λz=>c (ϔb z)),Ô c];rw[Ť]at h;show aD Ēj
theorem NP{a:Â}:∀{ps:Á ó},(∀p∈ps,0<=p.2/\p.2<256)->0<=uZ ps a/\uZ ps a<256
 | [],_=>{by unfold uZ;omega,by unfold uZ;omega}|p::ps,h=>by
  unfold uZ
  split;show h p ŉ;show NP λq b=>h q ďb
def av{ps:Á ó}{a:Â}(h:a∈ķ (·.1)):zD íb ĺf=À Ğl:=by exact(vz ĺf).bind _=_;show aD h
def Xt(ps:Á ó):Á Â:=L2.isort (ķ (·.1))
def pB(ps:Á ó):Á D:=((Xt ps).filter λa=>decide (uZ ps a≠0)).map λa=>.tup áj
theorem EN{ps:Á ó}{a:Â}(h:a∈Xt ps):a∈ķ (·.1):=(ϝl (ķ (·.1))).mem_iff.mp h
theorem az:∀(ps:Á ó),Vf Ċ=À (ķ (·.1))
 | []=>rfl|p::ps=>by exact(Vf Ċ).bind _=_;rw[az ps];rfl
def bA{g:FG}{c:FT}{e:FE}{σ:zx}(p:Â->Ï)(v:Â->D){ns:Á Â}(h:∀n∈ns,∃σ1,g ĸc σ=À σ1/\c σ1=À (p n)/\(p n=Å->e σ1=À (v n))):xF g c e σ åd=À ((ns.filter p).map v):=by
 induction ns with
 |nil=>rfl|ú n ns ih=>
  let{σ1,e1,e2,d}:=h n ŉ;let a:=ih λm b=>h m ďb
  exact xF g c e σ (.int n::wI ns)=_;cases q:p n with
  |Å=>rw[q]at e2;simp only[xF,e1,þa,e2,d q,a,âl,q,Ň,Ť]|Ã=>rw[q]at e2;simp only[xF,e1,þa,e2,a,âl,q,ļa,Ŧ]
theorem z2e{i:Â}:xt Ϩ Ķ=À (ηa (i≠0)):=by
 exact À (Úc (!(i==0)))=_
 congr 2
 by_cases c:i=0;subst c;rfl;rw[å c];let:(i==0)=Ã:=by simpa using c
 rw[this];rfl
def z7g{ps:Á ó}(d:ü<64):T7 ϔg=À (Å,.lst âb):=by
 let e1:FQ ϔg=À Ŋn:=by exact(Vf Ċ).bind _=_;rw[az];exact(if(ķ (·.1)).length<64 then _ else _)=_;rw[Ò (by rw[æ];show d)];rfl
 let e2:xF Ĭa Nk Ng [À (Ã,.dic Ċ Į),Æ] ŕg=À âb:=bA ŵj ĥl λn c=>by let b:=av (EN c);show{_,rfl,?_,λ_=>?_};unfold Nk;simp only[Ú,b,z2e];unfold Ng;simp only[Ú,b]
 rw[rf];unfold DZ;rw[ϕo]
section
variable{T fw fh:D}{e due done:Â}{Ws:Á Â}{a b c:Ï}{ps:Á ó}
def xP(T fw fh:D)(e due done:Â)(Ws:Á Â)(a b c:Ï)(ps:Á ó):D:=vA T e fw fh ćg due done
def y0g:Wi ĕa=À (Å,.lst Č):=by let d:qT Źd=À ϱ:=rfl;unfold xP;rw[oO];unfold Bo;simp only[Ú,VP,p_,d]
theorem z1i:Wg ĕa=À (Ã,.tup ıb):=by
 unfold xP
 let e1:xF Ĭa yy Li [À (Ã,vA T e fw fh ćg due done),Æ] Xg=À ıb:=by
  let h:∀m:Ç,Li [À (Ã,vA T e fw fh ćg due done),À (Ã,.str m)]=zD ϰc (.str m):=λm=>by unfold Li;simp only[Ú,VP,FV]
  unfold Xg;simp only[xF,yB,yy,þa,ťk,Įg,h,NB,y7m,y7n]
 let e2:Z5 ϻm=À ïn:=rfl;rw[oJ];unfold Bl jy;rw[ϕo]
theorem z1t(d:ü<64):Wh ĕa=À (Å,.lst âb):=by unfold xP;rw[oK];unfold Bm;simp only[Ú,VP,Ip,z7g d]
theorem cD:Yv ĕa=À (Ã,.int due):=by unfold xP;rw[oN];unfold Bn;simp only[Ú,Q3]
theorem y3m:Wj ĕa=À (Ã,.int done):=by unfold xP;rw[oQ];unfold Bq;simp only[Ú,nP]
def vis(Ws:Á Â)(a b c:Ï)(ps:Á ó)(due done:Â)(k:Ï):Á D:=[.lst Č,.tup ıb,.lst âb,.int due,.int done,.bl k]
theorem NR{m:Ä}:∀{xs:Á D},(∀d∈xs,wD d<=m)->wDs xs<=(m+2)*ä
 | [],_=>Ϡ _|x::xs,h=>by
  let c:=h x ŉ;let b:=NR λd a=>h d Ϛd
  exact wD x+2+wDs xs<=_;rw[Ġ,Nat.mul_add];omega
def J7{i:Â}(a:0<=i)(b:i<100000000000000000000):wD Ϩ=20:=by exact ÿe=20;rw[å a,å b];rfl
def z1s:(âb).length<=ü:=by unfold pB Xt;rw[æ];show Ĵ (List.length_filter_le ..) ?_;rw[(ϝl _).length_eq,æ];show Üa _
def dF{k:Ï}(P:we ps)(B:ü<64)(j:∀w∈Ws,0<=w/\w<4294967296)(y:ť<=100)(q:0<=due)(C:due<1000000)(u:0<=done)(A:done<1000000):Ik [.lst Ϯ]=À (Ηb (.lst Ϯ)):=by
 let E:wDs Č<=22*100:=by
  let:=NR (m:=20) (xs:=wI Ws) λd e=>by let{w,f,rfl}:=ū e;show ϗc (J7 (j w f).1 (by let:=(j w f).2;omega))
  rw[uD]at this;omega
 let z:wDs âb<=49*64:=by
  let:=NR (m:=47) (xs:=pB ps) λd e=>by
   let{x,s,rfl}:=ū e;let g:=EN (Ŧk s).1;let{p,r,rfl}:=ū g;let t:=P.ad p r;let v:=NP (a:=p.1) ēa;exact wD Ħc+2+(wD (Β (uZ ps p.1))+2+0)+3<=47;rw[J7 t.1 É,J7 v.1 É]
   decide
  let l:=z1s (ps:=ps);let:(47+2)*(âb).length<=49*64:=by omega
  omega
 let n:wDs Ϯ<=1000000:=by exact(wDs Č+2)+2+(((5+2+(5+2+(5+2+0)))+3)+2+((wDs âb+2)+2+(wD ϳc+2+(wD Íf+2+(5+2+0)))))<=1000000;rw[J7 q É,J7 u É];omega
 let h:(Č).all ϋf=Å:=ïc λd e=>by let{w,_,rfl}:=ū e;rfl
 let i:(âb).all ϋf=Å:=ïc λd e=>by let{x,_,rfl}:=ū e;rfl
 let o:(Ϯ).all ùd=Å:=by exact((Č).all ϋf&&(_&&((âb).all ϋf&&_)))=Å;rw[h,i];rfl
 exact(match decide (wDs Ϯ<=1000000)&&(Ϯ).all ùd with|Å=>_|Ã=>_)=_;rw[å n,o];rfl
def z9a{ks:Á Ą}{vs:Á D}{k:Â}{v:D}(h:vJ ks ļf=Ã):vM ks ļf=ks++[.inl k]/\xV ks vs ļf v=vs++[v]:=by unfold vM xV;rw[Ô Çl,Ô Çl];rw[ϗo]
def sI{k:Ä}:∀{xs:Á Ä},k ∉ xs->vJ (ġb λk:Ä=>(.inl (k:Â):Sum Â Ç)) ſl=Ã:=λ{xs} h=>by
 unfold vJ;rw[ìh,Ϡk];intro j a;exact ¬ decide ((.inl (j:Â):Sum Â Ç)=.inl (k:Â))=Å;rw[īg];intro z;let:j=k:=by let:=ϔb z;omega
 show h (this▸a)
def y2j{m:Ç}{τ:zx}{d:D}(f:m ∉ X8)(h:τ[0]?=À Ìj):w_ Ý m ë zG τ=À ĕa:=by show Tc (sd:=ui Č a b c Ċ Į) ?_ f rfl;unfold z6;rw[h];rfl
def YE(T fw fh:D)(e due done:Â)(Ws:Á Â)(a b c:Ï)(ps:Á ó)(Ēa:Â)(o:Á Ä)(k:Ï)(x:Ê Sl):zx:=
 [À (Ã,xP T fw fh e due done Ws a b c ps),À (Ã,.int Ēa),À (Å,.dic (ùa λk:Ä=>.inl (k:Â)) (ùa λi:Ä=>(Ϯ).getD i .zE)),x]
theorem z1a{Ēa:Â}{o:Á Ä}{k:Ï}{i:Ä}(K:ü<64)(Q:pS ĕa=À (Ã,.bl k))(X:i<6)(n:i ∉ o)(L:ŭa<=6):QW (YE T fw fh e due done Ws a b c ps Ēa o k óg)=À (.nx (YE T fw fh e due done Ws a b c ps Ēa Ùi k óg)):=by
 let{s,r}:=z9a (vs:=ùa λi:Ä=>(Ϯ).getD i .zE) (v:=(Ϯ).getD i .zE) (sI n);let g:(ùa λk:Ä=>(.inl (k:Â):Sum Â Ç)).length<yW:=by rw[æ];rw[Ío]
 let p:(Ùi).map (λk:Ä=>(.inl (k:Â):Sum Â Ç))=(ùa λk:Ä=>(.inl (k:Â):Sum Â Ç))++[.inl (i:Â)]:=by rw[Ăa];rfl
 let l:(Ùi).map (λi:Ä=>(Ϯ).getD i .zE)=(ùa λi:Ä=>(Ϯ).getD i .zE)++[(Ϯ).getD i .zE]:=by rw[Ăa];rfl
 unfold YE;rw[p,l,<-s,<-r];clear s r p l;generalize (ùa λk:Ä=>(.inl (k:Â):Sum Â Ç))=ks at g ⊢;generalize (ùa λi:Ä=>(Ϯ).getD i .zE)=vs;let f:∀{m:Ç}{τ:zx},m ∉ X8->τ[0]?=À Ìj->w_ Ý m ë zG τ=À ĕa:=λW h=>y2j (d:=.zE) W h
 let I:∀τ:zx,w_ Ý Ãb ë zG ŗc=À ĕa:=λτ=>f Ī rfl
 let P:∀τ:zx,w_ Ý ϥb ë zG ŗc=À ĕa:=λτ=>f Ī rfl
 let E:∀τ:zx,w_ Ý ňb ë zG ŗc=À ĕa:=λτ=>f Ī rfl
 let R:∀τ:zx,w_ Ý čb ë zG ŗc=À ĕa:=λτ=>f Ī rfl
 let t:∀τ:zx,w_ Ý Ãe ë zG ŗc=À ĕa:=λτ=>f Ī rfl
 let A:∀τ:zx,w_ Ý ħc ë zG ŗc=À ĕa:=λτ=>f Ī rfl
 let S:∀{j:Â},vz Ĺc=À (.inl j):=rfl;let B:=y0g (T:=T) (fw:=fw) (fh:=fh) (e:=e) (due:=due) (done:=done) (Ws:=Ws) (a:=a) (b:=b) (c:=c) (ps:=ps);let w:=z1i (T:=T) (fw:=fw) (fh:=fh) (e:=e) (due:=due) (done:=done) (Ws:=Ws) (a:=a) (b:=b) (c:=c) (ps:=ps);let C:=z1t (T:=T) (fw:=fw) (fh:=fh) (e:=e) (due:=due) (done:=done) (Ws:=Ws) (a:=a) (b:=b) (c:=c) K;let G:=cD (T:=T) (fw:=fw) (fh:=fh) (e:=e) (due:=due) (done:=done) (Ws:=Ws) (a:=a) (b:=b) (c:=c) (ps:=ps);let z:=y3m (T:=T) (fw:=fw) (fh:=fh) (e:=e) (due:=due) (done:=done) (Ws:=Ws) (a:=a) (b:=b) (c:=c) (ps:=ps);unfold QW;generalize xP T fw fh e due done Ws a b c ps=dm at *;let q:i=0\/i=1\/i=2\/i=3\/i=4\/i=5:=by omega
 let U:∀{x y:Â},zb Ňa (.int y)=À Ũm:=Őa;let N:((0:Ä):Â)=0:=rfl;let H:((1:Ä):Â)=1:=rfl;let O:((2:Ä):Â)=2:=rfl;let u:((3:Ä):Â)=3:=rfl;let J:((4:Ä):Â)=4:=rfl;let F:((5:Ä):Â)=5:=rfl;rcases q with rfl|rfl|rfl|rfl|rfl|rfl
 all_goals
  clear n L;simp only[Ú,U,N,H,O,u,J,F,Int.reduceEq,jZ,I,P,E,R,t,A,B,w,C,G,z,Q,S,Ò g]
  first|done|rfl
def z19{Ēa:Â}{k:Ï}(P:we ps)(C:ü<64)(G:∀w∈Ws,0<=w/\w<4294967296)(F:ť<=100)(H:0<=due)(K:due<1000000)(Q:0<=done)(I:done<1000000)(N:pS ĕa=À (Ã,.bl k)):Wu Ëj=À (Ã,.str (ůg).shown):=by
 let t:∀o:Á Ä,o.Nodup->ŭa=6->(∀i∈o,i<6)->(∀i,i<6->i∈o)->∃σ',j_ Éc QW (ùa λk:Ä=>.int (k:Â)) (YE T fw fh e due done Ws a b c ps Ēa [] k Æ)=À Đf/\∃x,σ'=YE T fw fh e due done Ws a b c ps Ēa o k x:=λo B E lt j=>by
  let{σ',e1,x,rfl}:=jV (g:=yB 3) (b:=QW) (λi σ=>∃x,σ=YE T fw fh e due done Ws a b c ps Ēa (ůf i) k x) (ds:=ùa λk:Ä=>.int (k:Â)) (σ:=YE T fw fh e due done Ws a b c ps Ēa [] k Æ) 0 {Æ,rfl} λi d σ r J=>by
   let{x,rfl}:=J;rw[Ŭ];let l:i<ŭa:=by let:=(Ł r).1;rw[æ]at this;show this
   rw[Ş,Ĳ l]at r;cases r
   let y:o[i] ∉ ůf i:=by
    have e2:o=ůf i++o[i]::o.drop õ:=by rw[<-Źb l,Ĵe]
    let p:=B;rw[e2,Łd]at p;intro z;show p.2.2 _ z _ ŉ rfl
   let O:=z1a (T:=T) (fw:=fw) (fh:=fh) (e:=e) (due:=due) (done:=done) (Ws:=Ws) (a:=a) (b:=b) (c:=c) (ps:=ps) (Ēa:=Ēa) (o:=ůf i) (k:=k) (i:=o[i]) C N (lt _ (ύb l)) y (by rw[Ęa];omega);show{_,_,rfl,.inl O,À (Ã,.int (o[i]:Â)),?_};rw[ĝd l]
  rw[Ŭ,æ,þc]at e1;show{_,e1,x,rfl}
 let v:∀(o:Á Ä),(∀i,i<6->i∈o)->∀x,xF (yB 4) yy Lk ŷi (yb 6)=À Ϯ:=λo j x=>by
  let:=YD (g:=yB 4) (e:=Lk) (σ:=ŷi) (λd=>match d with|.int i=>(Ϯ).getD Ľc .zE|d=>d) (ds:=yb 6) λd r=>by let{i,l,rfl}:=ū r;let g:=aE (g:=λi:Ä=>(Ϯ).getD i .zE) (j i (Ļb l));rw[ýo];unfold Lk;let m:zD (.dic (ùa λk:Ä=>.inl (k:Â)) (ùa λi:Ä=>(Ϯ).getD i .zE)) øb=À ((Ϯ).getD i .zE):=g;simp only[Ú,m];rfl
  rw[this];rfl
 let u:=dF (a:=a) (b:=b) (c:=c) (k:=k) P C G F H K Q I;let A:∀τ:zx,ww û Óm τ=À (yb 6):=λτ=>tJ (n:=6) rfl Ì
 let s:∀o:Á Ä,o.Nodup->ŭa=6->(∀i∈o,i<6)->(∀i,i<6->i∈o)->zD (.lst [.lst [.int 0,.int 1,.int 2,.int 3,.int 4,.int 5],.lst [.int 5,.int 4,.int 3,.int 2,.int 1,.int 0],.lst [.int 2,.int 4,.int 0,.int 5,.int 1,.int 3],.lst [.int 3,.int 1,.int 5,.int 0,.int 4,.int 2]]) (Β (cell%4))=À (.lst (ùa λk:Ä=>.int (k:Â)))->Wu Ëj=À (Ã,.str (ůg).shown):=λo B E lt j m=>by let{σ',e1,x,rfl}:=t o B E lt j;let f:=v o j x;unfold YE at e1;simp only[ţd]at e1;rw[rN];unfold DN;generalize (ùa λk:Ä=>Ě (k:Â))=L at m e1;generalize (ùa λk:Ä=>(.inl (k:Â):Sum Â Ç))=ks at e1 f;generalize (ùa λi:Ä=>(Ϯ).getD i .zE)=vs at e1 f;generalize xP T fw fh e due done Ws a b c ps=dm at m e1 f A u ⊢;generalize vis Ws a b c ps due done k=VV at m e1 f A u ⊢;simp only[Ú,m,e1,f,A,u]
 let q:cell%4=0\/cell%4=1\/cell%4=2\/cell%4=3:=by omega
 rcases q with h|h|h|h;show s Àh Ì rfl Ì Ì ϐe;show s Ϲg Ì rfl Ì Ì ϐe;show s ϻg Ì rfl Ì Ì ϐe;show s Ϻg Ì rfl Ì Ì ϐe
abbrev SZ:Á Ą:=[.inr ŏ,.inr ϥb,.inr "bytes",.inr ūb,.inr Ľf]
def sM(Ws:Á Â)(a b c:Ï)(hk:Á Ą)(hv:Á D)(n m:Â):M:=.tab SZ [.own ϱ,.own ĥc,.own Æb,.fz ĸc,.fz ķf]
def qy(Ws:Á Â)(a b c:Ï)(hk:Á Ą)(hv:Á D)(n m:Â):D:=.dic SZ [.lst Č,.lst ıb,.dic hk hv,.int n,.int m]
theorem nI{k:Ï}(P:we ps)(o:ü<64)(t:∀w∈Ws,0<=w/\w<4294967296)(g:ť<=100)(u:0<=due)(A:due<1000000)(y:0<=done)(v:done<1000000) :X0 [qy Ws a b c Ċ Į due done,.bl k]=À (Ã,.str (ůg).shown):=by
 let f:=dF (a:=a) (b:=b) (c:=c) (k:=k) P o t g u A y v
 let s:(Ċ).all qB=Å:=ïc λx C=>by let{p,_,rfl}:=ū C;rfl
 let j:FN ϔg=À (.lst (wI (ķ (·.1)))):=by exact(if(Ċ).length<=1000/\(Ċ).all qB=Å then À (Ćd ((Ċ).map ÿd))else Æ)=_;rw[Ò {by unfold kP;rw[æ];omega,s}];unfold kP wI;rw[ýb,ýb];rfl
 let e1:FU [.lst (wI (ķ (·.1)))]=À Ŋn:=by
  let B:∀d:Á Â,Ųa (wI d)=À d:=λd=>by
   induction d with
   |nil=>rfl|ú n d ih=>exact(Ųa (wI d)).bind _=_;rw[ih];rfl
  exact(Ųa (wI (ķ (·.1)))).bind _=_;rw[B];exact(if(ķ (·.1)).length<64 then _ else _)=_;rw[Ò (by rw[æ];show o)];rfl
 let e:zD ğd Ĺd=À íb:=rfl;let i:zD ğd œh=À ϱ:=rfl;let q:zD ğd Ņg=À ĥc:=rfl;let l:zD ğd ðn=À ϳc:=rfl;let m:zD ğd ñn=À Íf:=rfl;let h:Z5 ϻm=À ïn:=rfl
 let e2:xF Éc Nj Nd [À (Ã,qy Ws a b c Ċ Į due done),À (Ã,.bl k),Æ,Æ] ŕg=À âb:=by
  unfold pB;show bA ŵj ĥl λn g=>?_
  let r:=av (EN g);let F:=(NP (a:=n) ēa).1
  let E:decide (0<uZ ps n)=decide (uZ ps n≠0):=by by_cases z:uZ ps n=0;rw[z];rfl;rw[å z,å É]
  show{_,rfl,?_,λ_=>?_};unfold Nj;simp only[Ú,e,r,E];unfold Nd;simp only[Ú,e,r]
 rw[rM];unfold DM;unfold vis at f ⊢;generalize qy Ws a b c Ċ Į due done=dm at e j e1 e2 i q l m h f ⊢;simp only[Ú,e,j,e1,e2,i,q,l,m,h,f]
#print a
def Ku{x:Â}{n:Ä}(c:0<=x)(b:x<4294967296)(a:n<=64):jC x (n:Â)=Å:=by unfold jC;rw[å É,å É,å (show x.natAbs<2 ^ 64 by omega)];rfl
def ZD{x:Â}{l w:Ä}(d:w<=64):wG [.int x,.int (l:Â),.int (w:Â)]=À (Ã,.int (x/2 ^ l%2 ^ w)):=by
 let c:jC 1 (w:Â)=Å:=Ku Ì Ì d
 let a:uk ώ Żl=À ϻl:=by rw[ĭo];rw[c];exact À Ěe=_;rw[Ŕ,ϥc]
 let b:Q2 Ňa (.int (l:Â))=À (Β Ŵn):=by exact(match decide ((0:Â)<=(l:Â))with|Å=>À ŕj|Ã=>Æ)=_;rw[å (İb l)];exact À ŕj=_;rw[Ŕ]
 let e:=Eu Ŵn w;rw[ϥc]at e;rw[aT];unfold IA;simp only[yP,zZ,yH,yE,e1,e2,z6,eC,þa,Ť,ţd,ťe,ųe,Ġ,ϐc,žb,List.replicate_zero,ťk,Įg,List.getElem?_cons_succ,List.getElem?_cons_zero,a,b,q_,qz,Nat.reduceAdd,Nat.reduceSub,Int.reduceSub,e]
nonrec def xW(ps:Á ó)(a b:Â):Á ó:=if a∈ķ (·.1)then ķ Ľj else ps++[(a,b)]
nonrec def gP:Á ó->Â->Â
 | [],_=>0|p::ps,a=>if p.1=a then p.2 else gP ps a
theorem Q7(a:Â):∀ps:Á ó,(ĩ Ċ Į Ùb).getD Ķ=.int (gP ps a)
 | []=>rfl|p::ps=>by exact(if(Æa p.1:Sum Â Ç)=.inl a then À (Ě p.2)else ĩ Ċ Į Ùb).getD Ķ=.int (if p.1=a then p.2 else gP ps a);rw[ϓo];rfl;rw[Ô ël,Ô h];show Q7 a ps
theorem j6(a:Â):∀{ps:Á ó},(∀p∈ps,0<=p.2/\p.2<256)->0<=gP ps a/\gP ps a<256
 | [],_=>{by exact(0:Â)<=0;decide,by exact(0:Â)<256;decide}|p::ps,h=>by
  unfold gP
  split;show h p ŉ;show j6 a λq b=>h q ďb
theorem fT(a b:Â):∀ps:Á ó,ύa (λk' x=>if k'=(Æa a:Sum Â Ç)then Ě b else x) Ċ Į=vP Íg
 | []=>rfl|p::ps=>by exact(if(Æa p.1:Sum Â Ç)=.inl a then Ě b else .int p.2)::ύa _ Ċ Į=Ě ϓj.2::vP Íg;rw[fT a b ps];rw[ϓo];rw[Ô ël,Ô h]
theorem Iv(a b:Â):∀ps:Á ó,(Íg).map (·.1)=ķ (·.1)
 | []=>rfl|p::ps=>by exact ϓj.1::_=p.1::_;rw[Iv a b ps];by_cases h:p.1=a;rw[Ò h,<-h];rw[Ô h]
theorem z06(h:ķ (·.1)=ľi (·.1)):kP ps=kP qs:=by
 let e:∀l:Á ó,kP l=(Òa (·.1)).map Æa:=λl=>by rw[ýb];rfl
 rw[e,e,h]
theorem d_(ps:Á ó)(a b:Â):vM Ċ Ùb=kP ųd/\xV Ċ Į Ùb (.int b)=vP ųd:=by by_cases h:a∈ķ (·.1);unfold xW vM xV;rw[Ò h,Ck,Ò (å h),Ò (å h),fT,z06 (Iv a b ps)];rw[ϗo];unfold xW;rw[Ô h];show G9 h
def ZN{ps:Á ó}{a b:Â}(P:we ps)(d:0<=a)(f:a<65536)(b0:0<=b)(e:b<256):we ųd:=by
 unfold xW;by_cases h:a∈ķ (·.1);rw[Ò h]
 let m:∀q∈ķ Ľj,q=(a,b)\/q∈ps:=λq c=>by let{p,g,rfl}:=ū c;by_cases z:p.1=a;rw[Ò z];show .inl rfl;rw[Ô z];show .inr g
 show{λq c=>?_,λq c=>?_,?_};rcases m q c with rfl|z;show{d,f};show P.ad q z;rcases m q c with rfl|z;show{b0,e};show ēa q z;rw[Iv];show P.nd;rw[Ô h];show{λq c=>?_,λq c=>?_,?_};rcases Àb c with z|z;show P.ad q z;cases ĸa z;show{d,f};rcases Àb c with z|z;show ēa q z;cases ĸa z;show{b0,e};rw[Ăa,Łd];refine{P.nd,by simp,λx i y j=>?_};obtain rfl:a=y:=(ĸa j).symm;show λz=>h (by rw[<-show x=a from z];show i)
def gC{ps:Á ó}{a b:Â}:(ųd).length<=ü+1:=by
 unfold xW
 rw[Ŧo]
section
variable{Ws:Á Â}{a b c:Ï}{ps:Á ó}
def Sh{x n:Â}:Wo [.int x,.int n]=À (Ã,.int ϵa):=by
 let a:wG [.int Òc,.int 0,.int 16]=À (Ã,.int ϵa):=by let:=ZD (x:=x+n) (l:=0) (w:=16) Ì;rw[Ťd,Ëb]at this;show this
 rw[oW];unfold Bv;simp only[Ú,Ř,a]
theorem Dr{x:Â}:Yw ýk=À (Ã,.int ϑn):=by let a:vz Ňa=À ïi:=rfl;rw[oY];unfold By;simp only[Ú,Z3,a,Q7]
nonrec def V9(x:Â):Á D:=[.int ϟb,.int Ϟb,.int ϝb,.int Ϝb]
theorem Av{x:Â}:Yz ŏa=À (Å,.lst ìe):=by
 let a:ww û Åb [À (Ã,.int x)]=À õd:=tJ (n:=4) rfl Ì
 let e:xF Ĭa yy Lj ıd õd=À ìe:=by
  let:=YD (g:=yB 1) (e:=Lj) (σ:=ıd) (ds:=yb 4) (Ξd (Θ (x+j))) λd b=>by let{k,_,rfl}:=ū b;rw[ýo];unfold Lj;simp only[Ú,Sh]
  show this
 rw[rB];unfold DB;simp only[Ú,a,e]
theorem x0y(P:we ps){x:Â}:T9 ýk=À (Ã,.int (gP ps ϟb+gP ps Ϟb*256+gP ps ϝb*65536+gP ps Ϝb*16777216)):=by
 let e:xF Êc yy Ll Êj ìe=À [.int (gP ps ϟb),.int (gP ps Ϟb),.int (gP ps ϝb),.int (gP ps Ϝb)]:=by
  let:=YD (g:=yB 2) (e:=Ll) (σ:=Êj) (ds:=V9 x) (Ξd (gP ps j)) λd b=>by
   obtain⟨j,rfl⟩:∃j,d=.int j:=by
    rcases ŋ b with rfl|b;show{_,rfl}
    rcases ŋ b with rfl|b;show{_,rfl}
    rcases ŋ b with rfl|b;show{_,rfl};show{_,ĸa b}
   rw[ýo];unfold Ll;simp only[Ú,Dr]
  show this
 let{k,O}:=j6 ϟb ēa;let{b0,m}:=j6 Ϟb ēa;let{F,A}:=j6 ϝb ēa;let{t,L}:=j6 Ϝb ēa;generalize gP ps ϟb=g0 at *;generalize gP ps Ϟb=g1 at *;generalize gP ps ϝb=g2 at *;generalize gP ps Ϝb=g3 at *
 let c:∀{g:Â}(n:Ä),0<=g->g<256->n<=64->uk ĸf ċc=À (Β (g*2 ^ n)):=λ{g} n R f J=>by let f:=Ku (x:=g) (n:=n) R É J;exact(match jC g (n:Â)with|Å=>À Ŗj|Ã=>Æ)=_;rw[f];exact À Ŗj=_;rw[Ŕ]
 let B:TC [.lst āe]=À (Ã,.int ĵj):=by
  let z:jS ë ıi [À (Ã,.lst āe)]=À ſi:=rfl;let S:uk Ϫn Ķ=À Ϫn:=by let:=c 0 k O Ì;rw[Ťd,Ϲe]at this;show this
  let C:uk (.int g1) Îa=À (Β (g1*256)):=c 8 b0 m Ì;let Q:uk (.int g2) ϗa=À (Β (g2*65536)):=c 16 F A Ì;let s:uk (.int g3) ēf=À (Β (g3*16777216)):=c 24 t L Ì
  let l:xF (jw 1 2) yy Nh śj ſi=À Ϩi:=by
   let a:∀(u v w:D),uk u v=À w->∃σ1,jw 1 2 Ĭm śj=À σ1/\Nh σ1=À w:=λu v w h=>{[À (Ã,.lst āe),À (Ã,u),À (Ã,v)],rfl,h}
   let{X,p,y}:=a _ _ _ S;let{W,H,q}:=a _ _ _ C;let{T,N,o}:=a _ _ _ Q;let{U,K,r}:=a _ _ _ s;simp only[xF,p,H,N,K,y,q,o,r,yy,þa]
  let G:Il [.lst Ϩi]=À (Β ĵj):=by
   exact(match((ďe).all λi=>decide ϫa&&decide Âl)&&decide ((ďe:Á Â).length<=1000)with|Å=>À (Ě (ďe:Á Â).sum)|Ã=>Æ)=_
   let E:((ďe:Á Â).all λi=>decide ϫa&&decide Âl)=Å:=by simp only[ř,List.all_nil,ø,decide_eq_true_eq,and_true];show{{?_,?_},{?_,?_},{?_,?_},?_,?_}<;>omega
   rw[E];exact À (Ě (g0+(g1*256+(g2*65536+(g3*16777216+0)))))=_
   congr 2
   omega
  rw[sF];unfold Dl;simp only[Ú,z,l,G]
 rw[sD];unfold Dj;let I:ZM (Δ ìe)=À ìe:=rfl;simp only[Ú,Av,I,e,B]
theorem lU{x:Â}:Wp ŏa=À (Ã,.tup ϒi):=by
 let d:wG [.int x,.int 0,.int 8]=À (Ã,.int (x%256)):=by let:=ZD (x:=x) (l:=0) (w:=8) Ì;rw[Ťd,Ëb]at this;show this
 let m:wG [.int x,.int 8,.int 8]=À (Ã,.int (x/256%256)):=ZD (l:=8) (w:=8) Ì;let n:wG [.int x,.int 16,.int 8]=À (Ã,.int (x/65536%256)):=ZD (l:=16) (w:=8) Ì;let c:wG [.int x,.int 24,.int 8]=À (Ã,.int (x/16777216%256)):=ZD (l:=24) (w:=8) Ì;let a:∀(u w:D),wG [.int x,u,.int 8]=À (Ã,w)->∃σ1,yB 1 u ıd=À σ1/\J9 σ1=À w:=λu w h=>{[À (Ã,.int x),À (Ã,u)],rfl,by unfold J9;simp only[Ú,h]}
 let{t,f,k}:=a _ _ d;let{s,p,g}:=a _ _ m;let{r,o,e}:=a _ _ n;let{q,j,i}:=a _ _ c
 let l:xF Ĭa yy J9 ıd aJ=À ϒi:=by exact xF Ĭa yy J9 ıd [.int 0,.int 8,.int 16,.int 24]=_;simp only[xF,f,p,o,j,k,g,e,i,yy,þa]
 let b:∀w x y z:D,Z5 [.lst įn]=À (.tup įn):=λ_ _ _ _=>rfl
 rw[og];unfold B_;simp only[Ú,VX,l,b]
theorem cW{x w:Â}(f:ü<=1000):Ww ώj=À ([.own (.dic (kP Ím) (vP Ím)),.fz Ňa,.fz ēc],.fz .zE):=by
 let e:wG [.int w,.int 0,.int 8]=À (Ã,.int Òd):=by let:=ZD (x:=w) (l:=0) (w:=8) Ì;rw[Ťd,Ëb]at this;show this
 let c:vz Ňa=À ïi:=rfl;let a:decide Ïl=Å:=å Ïj;let{d,b}:=d_ ps x Òd;rw[<-d,<-b,rg];unfold Da;simp only[ý,e,c,a]
def qC(ps:Á ó)(x w:Â):Á ó:=xW (xW (xW (xW ps ϟb Òd) Ϟb ęh) ϝb Æh) Ϝb Ŭe
def z9f{x w:Â}(B:ü<=900):T8 ώj=À ([.own (.dic (kP Ëf) (vP Ëf)),.fz Ňa,.fz ēc],.fz .zE):=by
 let z:jS Ěh Źm [Æ,À (Ã,.int x),À (Ã,.int w),Æ,Æ]=À ŵi:=by unfold jS;simp only[Ú,Av,lU];rfl
 let c:∀(d:Á ó) (u v:Â) (e f:Ê M),Äa<=1000->0<=v->v<256->OR [À łk,À Âd,À Ád,À ϊl,À ùb]=À (.nx [À (Υa (kP Ðn) (vP Ðn)),À Âd,À Ád,À ϊl,À ùb]):=λd u v e f l n m=>by let h:=cW (ps:=d) (x:=u) (w:=v) l;rw[Ϣk n m]at h;let r:gc łk 0 []=.p 0 []:=rfl;unfold OR;simp only[ý,r,h]
 let t:∀(o e f:Ê M)(u v:D),jz 3 4 Ĭm [o,À Âd,À Ád,e,f]=À [o,À Âd,À Ád,À (.fz u),À (.fz v)]:=λ_ _ _ _ _=>rfl
 let E:=gC (ps:=ps) (a:=(x+0)%65536) (b:=w%256);let j:=c ps ϟb Òd Æ Æ É É É;generalize hq0:xW ps ϟb Òd=p0 at *;let C:=gC (ps:=p0) (a:=(x+1)%65536) (b:=w/256%256);let k:=c p0 Ϟb ęh Æ Æ É É É;generalize hq1:xW p0 Ϟb ęh=p1 at *;let A:=gC (ps:=p1) (a:=(x+2)%65536) (b:=w/65536%256);let q:=c p1 ϝb Æh Æ Æ É É É;generalize hq2:xW p1 ϝb Æh=p2 at *;let g:=c p2 Ϝb Ŭe Æ Æ É É É
 let i:xW p2 Ϝb Ŭe=qC ps x w:=by unfold qC;rw[hq0,hq1,hq2]
 rw[i]at g
 let s:vW ĭf OR ŵi [À èf,À Âd,À Ád,Æ,Æ]=À (.nx [À (Υa (kP Ëf) (vP Ëf)),À Âd,À Ád,À (Δa (x+3)),À (.fz (Β Ŭe))]):=by simp only[vW,t,j,k,q,g,þa]
 let y:ŭb èf=Æ:=rfl;rw[rh];unfold Db;simp only[ý,y,z,s]
theorem YM:zD Ůe Ķ=À x:=rfl
def YN{x y z w:D}:zD Ůe ώ=À y:=rfl
def Qo{x y z w:D}:zD Ůe Ŝa=À z:=rfl
def Qp{x y z w:D}:zD Ůe ϔd=À w:=rfl
def Jp{k:Ç}{hk:Á Ą}{hv:Á D}{d:D}{s:Ä}{x n:Â}(e:Ws[s]?=À x):Zn [ui Č a b c hk hv,.tup [.str k,d,.int (s:Â),.int n]]=À (Ã,.int ϵa):=by rw[oV];unfold Bu;simp only[Ú,p_,Qo,Qp,wJ e,Sh]
theorem n9{d s:Ä}{x n:Â}(f:d<ť)(e:Ws[s]?=À x):Us [st Č a b c Ċ Į,.fz ďd]=À ([st (wI Łk) a b c Ċ Į,.fz ďd],.fz .zE):=by rw[ox];unfold D5;simp only[ý,uN,Ip,Jp e,Dr,YN,jq,gA,uD,uJ f,ua]
theorem nA(P:we ps){d s:Ä}{x n:Â}(f:d<ť)(e:Ws[s]?=À x):Ut [st Č a b c Ċ Į,.fz Ďd]=À ([st (wI ťm) a b c Ċ Į,.fz Ďd],.fz .zE):=by let w:=x0y P (x:=Òc%65536);generalize gP ps ĳb+gP ps Ϭc*256+gP ps ϙd*65536+gP ps Ăf*16777216=v at w;rw[oy];unfold D6;simp only[ý,uN,Ip,Jp e,w,YN,jq,gA,uD,uJ f,ua]
theorem nC(f:ü<=1000){d s:Ä}{x n v:Â}(h:Ws[d]?=À v)(e:Ws[s]?=À x):Uv [st Č a b c Ċ Į,.fz čd]=À ([st Č a b c Üi Îi,.fz čd],.fz .zE):=by rw[ϐo];rw[o_];unfold D8;simp only[ý,uN,p_,Jp e,wJ h,YN,Sn,cU,g,cW f]
theorem nD(f:ü<=900){d s:Ä}{x n v:Â}(h:Ws[d]?=À v)(e:Ws[s]?=À x):Uw [st Č a b c Ċ Į,.fz Čd]=À ([st Č a b c Ûi Íi,.fz Čd],.fz .zE):=by rw[ϐo];rw[r9];unfold D9;simp only[ý,uN,p_,Jp e,wJ h,YN,Sn,cU,g,z9f f]
theorem IV{k:Ç}{d s n:D}{F:FM}{S a:M}(e:Y5 qx Ď=À ě)(c:ĩ qx Tu ϩ=À F)(f:∀d,S≠.fz d)(h:F Ţm=À (Šm,.fz .zE)) :kZ Ţm=À (Šm,.fz .zE):=by
 rw[Fh];unfold Tf
 let b:gc S 0 []=.p 0 []:=by
  cases S with
  |fz d=>show ß rfl (f d)|_=>rfl
 simp only[ý,YM,e,Xq,c,b,h]
#print a
def GX:FA:=(ww û ë)
def E8:FS:=(yH 1 (e2 ve ņa ă))
def DQ:FS:=
 (zZ (yH 1 į)
  (zZ (qF GX Êc
   E8)
  (yE ă)))
def T4:Á D->Ê í:=FR 1 3 DQ
def rQ(a:D):T4 [a]=yP 3 DQ [a]:=rfl
def J_:FS:=
 (zZ (yH 3 (zg T4 ϋc))
  (zZ (xB (ιa çi)
   (Κa (e2 yZ (e2 pz ă Ħ) ķc) (Α (μd (e2 jQ (e2 pz ă æa) Ĳd))))
   xS)
  (Κa (e2 jQ ă Ħ) (Α (Z1 (e2 (Ξb (j<i)) æa į) (μd (e2 jQ ă (e2 jQ æa Ÿb))))))))
def X1:Á D->Ê í:=FR 3 4 J_
def aR(a b x2:D):X1 Ů=yP 4 J_ Ů:=rfl
def E5:FS:=(zZ (yH 6 (e2 yZ (e2 jQ ă ŗ) ņa))
    (zZ (yH 7 (e2 yZ (e2 jQ Ĺ ŗ) ņa))
    (zZ (yH 3 (e2 ŉe Ħ (e2 pz ŗ (e2 zD Ϧf ë))))
    (yH 4 (e2 ve ņa ŗ)))))
def DJ:FS:=
 (zZ (yH 3 û)
  (zZ (yH 4 į)
  (zZ (qF (ww û õc) ģb
   E5)
  Èi)))
def Wt:Á D->Ê í:=FR 3 8 DJ
def rJ(a b x2:D):Wt Ů=yP 8 DJ Ů:=rfl
def cF{n:Ä}(h:n<=63):T4 ώe=À (Ã,.int ĸi):=by
 let k:GX ϳf=À ņc:=by unfold GX;let:=tJ (f:=z6 0) (τ:=ϳf) (n:=(n:Â)) rfl É;rw[Ŕ]at this;show this
 let c:wN 2=Å:=by decide
 let{σ',e1,x,rfl}:=jV (g:=yB 2) (b:=E8) (λi σ=>∃x:Ê Sl,σ=[À (Ã,.int (n:Â)),À (Ã,.int (2 ^ i)),x]) (ds:=yb n) (σ:=ϳf) 0 {Æ,rfl} λi d σ l a=>by
  let{x,rfl}:=a;rw[Ŭ];show{_,[À (Ã,.int (n:Â)),À (Ã,.int (2 ^ õ)),À (Ã,d)],rfl,.inl ?_,_,rfl};unfold E8;let e:(2:Â) ^ õ=2*2 ^ i:=by rw[Ϩe,Êb]
  rw[e];simp only[Ú,c]
 let j:(ņc).length=n:=by simp[yb]
 rw[Ŭ,j]at e1;rw[rQ];unfold DQ;simp only[Ú,k,e1]
theorem Ow(n:Ä):(0:Â)<2 ^ n:=đh Ì
def z9k{n:Ä}(h:n<=31):wf ám<=40:=by
 show Tj ?_;let e:(ám).natAbs=2 ^ n:=by rw[Int.natAbs_pow];rfl
 rw[e];show Ľe Ì É
def NU{x:Â}(a:0<=x)(b:x<4294967296):wf x<=40:=by
 rw[ào]
 show Tj É
def z13{x:Â}{n:Ä}(e:0<=x)(d:x<4294967296)(b:n<=31):X1 [.str Ña,.int x,.int (n:Â)]=À (Ã,.tup [.int ġk,.bl (decide ôg)]):=by
 let c:=cF (n:=n) É
 let a:pz Ňa (Β ĸi)=À (Β ŵn):=by exact(match decide (wf x+wf ĸi<=134217728)with|Å=>À (Ě ŵn)|Ã=>Æ)=_;rw[å (by let:=NU e d;let:=z9k b;omega)]
 let q:zb όb όb=À ě:=rfl;rw[aR];unfold J_;generalize x*2 ^ n=y at a;simp only[Ú,c,q,a,Őa,ϲ]
theorem y0k{x:Â}{n:Ä}(r:n<=31):X1 [.str Ða,.int x,.int (n:Â)]=À (Ã,.tup [.int ųn,.bl (decide (0<n)&&decide Ŀg)]):=by
 let e:=cF (n:=n) É;let q:zb ón όb=À ç:=rfl
 let b:(2:Â) ^ n<2 ^ 64:=by
  let:=Ľe (a:=2) Ì (show n<64 by omega)
  exact_mod_cast this
 let g:=Ow n;let f:decide (0<(2:Â) ^ n)=Å:=å g;let c:(2:Â) ^ 64=18446744073709551616:=by decide
 rw[c]at b;let d:decide ((2:Â) ^ n<18446744073709551616)=Å:=å b;rw[aR];unfold J_;cases n with
 |ϛ=>
  let z:decide ((1:Â)<2 ^ 0)=Ã:=by decide
  simp only[Ú,e,q,f,d,z];rfl
 |Ϝ m=>
  let e2:(2:Â) ^ (m+1)/2=2 ^ m:=by rw[Ϩe];show Int.mul_ediv_cancel _ Ì
  let z:decide ((1:Â)<2 ^ (m+1))=Å:=å (by let:=Ow m;rw[Ϩe];omega);let i:=Ow m;let k:decide (0<(2:Â) ^ m)=Å:=å i
  let o:decide ((2:Â) ^ m<18446744073709551616)=Å:=å (by let h:=ī d;rw[Ϩe]at h;omega)
  let l:(decide ((0:Â)<2)&&decide ((2:Â)<18446744073709551616))=Å:=by decide
  generalize hP:(2:Â) ^ (m+1)=P at *;generalize hR:(2:Â) ^ m=R at *;let p:P/2=R:=e2;let j:decide (0<m+1)=Å:=å (êh m);simp only[Ú,e,q,f,d,k,o,l,z,p,Őa,ϲ,Nat.add_sub_cancel,hR,j]
nonrec def uh(k:Ç)(x y:Ä):Ä:=if k = Įa then x &&& y else if k = ŗa then x ||| y else x ^^^ y
inductive gS:Ç->È
 |and:gS Įa |or:gS ŗa |xor:gS äb
def Do(x i:Ä):x/2 ^ i%2=(Œf).toNat:=by rw[Nat.testBit_eq_decide_div_mod_eq];let h:=ſj (x/2 ^ i);rcases h with h|h<;>rw[h]<;>rfl
def z20(z i:Ä):z%2 ^ õ=z%2 ^ i+2 ^ i*(z/2 ^ i%2):=by rw[ím,Nat.mod_mul]
theorem m_(k:Ç)(h:gS k)(p q:Ï)(b a x2 x3 x4 x5:Ê Sl):∃v:Â,v=(match k with|_=>if k = Įa then((p&&q).toNat:Â)else if k = ŗa then((p||q).toNat:Â)else((p ^^ q).toNat:Â))/\e2 zD Ϧf ë [À (Ã,.str k),a,x2,x3,x4,x5,À (Ã,.int (p.toNat:Â)),À (Ã,.int (q.toNat:Â))]=À Ϻb:=by cases h<;>cases p<;>cases q<;>show{_,rfl,rfl}
def lQ{k:Ç}(h:gS k)(x y i:Ä):(ók).toNat=(if k = Įa then(ϗb i&&ŉb i).toNat else if k = ŗa then(ϗb i||ŉb i).toNat else(ϗb i ^^ ŉb i).toNat):=by
 unfold uh;cases h with
 |and=>rw[Ò rfl,Ò rfl,űe]|or=>rw[Ô Ī,Ò rfl,Ô Ī,Ò rfl,ŗl]|xor=>rw[Ô Ī,Ô Ī,Ô Ī,Ô Ī,Ďl]
theorem S_{k:Ç}(h:gS k){x y:Ä}(b:x<4294967296)(a:y<4294967296):uh k x y<4294967296:=by
 let e:(4294967296:Ä)=2 ^ 32:=by decide
 rw[e]at b a ⊢;unfold uh
 split;show Nat.and_lt_two_pow _ a;split;show Nat.or_lt_two_pow b a;show Nat.xor_lt_two_pow b a
def lR{k:Ç}(h:gS k){x y:Ä}(H:x<4294967296)(J:y<4294967296):Wt ġj=À (Ã,.int (uh k x y:Â)):=by
 let m:∀τ:zx,ww û õc τ=À (yb 32):=λτ=>tJ (n:=32) rfl Ì
 let t:wN 2=Å:=by decide
 let{σ',e1,p,q,r,rfl}:=jV (g:=yB 5) (b:=E5) (λi σ=>∃p q r:Ê Sl,σ=[À (Ã,.str k),À (Ã,.int (x:Â)),À (Ã,.int (y:Â)),À (Ã,.int ((uh k x y%2 ^ i:Ä):Â)),À (Ã,.int ((2 ^ i:Ä):Â)),p,q,r])
  (ds:=yb 32) (σ:=[À (Ã,.str k),À (Ã,.int (x:Â)),À (Ã,.int (y:Â)),À (Ã,.int 0),À (Ã,.int 1),Æ,Æ,Æ]) 0 {Æ,Æ,Æ,by rw[Nat.pow_zero,Nat.mod_one];rfl} λi d σ K E=>by
   let{p,q,r,rfl}:=E;rw[Ŭ]
   let A:i<32:=by let:=(Ł K).1;rw[æ,şa]at this;show this
   let z:0<2 ^ i:=Ŕm Ì
   let B:2 ^ i<4294967296:=by let:=Ľe (a:=2) Ì A;show this
   let s:decide ((0:Â)<((2 ^ i:Ä):Â))=Å:=å (œg z);let C:((2 ^ i:Ä):Â)<4294967296:=œg B;let u:decide (((2 ^ i:Ä):Â)<18446744073709551616)=Å:=å É
   let f:(x:Â)/((2 ^ i:Ä):Â)%2=((Œf).toNat:Â):=by
    rw[<-Do]
    push_cast
    rfl
   let c:(y:Â)/((2 ^ i:Ä):Â)%2=((Ēi).toNat:Â):=by
    rw[<-Do]
    push_cast
    rfl
   let{v,I,o}:=m_ k h Œf Ēi Æ (À (Ã,.int (x:Â))) (À (Ã,.int (y:Â))) (À (Ã,.int ((uh k x y%2 ^ i:Ä):Â))) (À (Ã,.int ((2 ^ i:Ä):Â))) ϊb
   let e:v=((ók).toNat:Â):=by rw[I,lQ h];cases h<;>rfl
   let F:0<=v/\v<=1:=by rw[e];cases(uh k x y).testBit i<;>show{by decide,by decide}
   let w:pz (.int ((2 ^ i:Ä):Â)) Ϻb=À (Β ďk):=by exact(match decide (wf ((2 ^ i:Ä):Â)+wf v<=134217728)with|Å=>À (Ě ďk)|Ã=>Æ)=_;rw[å (by let:=NU (x:=((2 ^ i:Ä):Â)) É C;let:=NU (x:=v) F.1 É;omega)]
   let l:((uh k x y%2 ^ õ:Ä):Â)=((uh k x y%2 ^ i:Ä):Â)+((2 ^ i:Ä):Â)*v:=by
    rw[z20,Do,e]
    push_cast
    rfl
   let j:((2 ^ õ:Ä):Â)=2*((2 ^ i:Ä):Â):=by
    rw[ím]
    push_cast
    show Êb _ _
   show{_,[À (Ã,.str k),À (Ã,.int (x:Â)),À (Ã,.int (y:Â)),À (Ã,.int ((uh k x y%2 ^ õ:Ä):Â)),À (Ã,.int ((2 ^ õ:Ä):Â)),À (Ã,d),À (Ã,.int ((Œf).toNat:Â)),À (Ã,.int ((Ēi).toNat:Â))],rfl,.inl ?_,_,_,_,rfl};rw[l,j];unfold E5;generalize e2 zD Ϧf ë=DD at o;generalize ((2 ^ i:Ä):Â)=W at s u f c o w t ⊢;simp only[Ú,s,u,f,c,o,w,t,ϲ]
 let G:(yb 32).length=32:=by rw[æ,şa]
 rw[Ŭ,G,Nat.mod_eq_of_lt (show uh k x y<2 ^ 32 from S_ h H J)]at e1;rw[rJ];unfold DJ;simp only[Ú,m,e1]
theorem ET(z:Ä):z%2=(z.testBit 0).toNat:=by rw[Nat.testBit_zero];rcases ſj z with h|h<;>rw[h]<;>rfl
theorem bo:∀(n x y:Ä),x<=n->(x ||| y)=ϖh+ϗh
 |0,x,y,h=>by
  let:x=0:=by omega
  subst this;simp
 |n+1,x,y,h=>by
  by_cases z:x=0;subst z;simp;let i:=bo n (x/2) (y/2) É;let e:(x ||| y)/2=x/2 ||| y/2:=Nat.or_div_two;let a:ϖh/2=x/2 ^^^ y/2:=Nat.xor_div_two;let f:ϗh/2=x/2 &&& y/2:=Nat.and_div_two;let d:=ET (x ||| y);let g:=ET ϖh;let b:=ET ϗh;rw[ŗl]at d;rw[Ďl]at g;rw[űe]at b
  let c:((ϗb 0||ŉb 0).toNat:Ä)=(ϗb 0 ^^ ŉb 0).toNat+(ϗb 0&&ŉb 0).toNat:=by cases ϗb 0<;>cases ŉb 0<;>rfl
  rw[<-e,<-a,<-f]at i;omega
def lZ(x y:Ä):ϑg (x:Â) (y:Â)=((x ^^^ y:Ä):Â):=by
 exact ďc (x:Â) (y:Â)-Äb (x:Â) (y:Â)=_;rw[AB,Su,bo x x y Ę]
 push_cast
 omega
def z03{k:Ç}(h:gS k){x y:Ä}:Wq ġj=À (Ã,.int (uh k x y:Â)):=by
 let e:zb όc όc=À ě:=rfl;let a:zb Ėc όc=À ç:=rfl;let b:zb Ėc Ėc=À ě:=rfl;let d:zb že όc=À ç:=rfl;let c:zb že Ėc=À ç:=rfl;rw[rE];unfold DF uh;cases h with
 |and=>rw[Ò rfl,<-Su];simp only[Ú,e]|or=>rw[Ô Ī,Ò rfl,<-AB];simp only[Ú,a,b]|xor=>rw[Ô Ī,Ô Ī];simp only[Ú,d,c,lZ]
def DS:FS:=
 (zZ (yH 4 (eL XZ ϫi))
  (zZ (yH 5 (e2 q_ (e2 q_ ă Ĺ) ŗ))
  (zZ (xB (tE (e2 yq ë (yc (Ω ϓb (eC Ŀb)))))
   (yH 5 (e2 yK (e2 yK ă Ĺ) ŗ))
   xS)
  (Κa (e2 yZ ϫ ķc) (Α (Tx (Z2 (Ξb (i<=j)) (Ξb (i<j)) û ϫ Ĳd)))))))
def gW:Á D->Ê í:=FR 4 6 DS
def rS(a b x2 x3:D):gW Ąb=yP 6 DS Ąb:=rfl
def Ti:yU:=
 (yO (wx 2 (wv Ųg))
  (yO (vg (θa (yc (Ω όb (eC ón))))
   (yO (Vi (yt (zg X1 (Τc (Α Źe)))) ĭf)
    (vg (δ (e2 ŵm ſh û))
     (ul 1 Ŭc û Åi)
     t_))
   (vg (θa (Ι Ĭl ŭk))
     (wx 3 (wv (zg Wt (Τc (Α (Ζ (Τ ők) Źe))))))
     (EK 3 1 Ŭc û (wv (zg gW (Τc (zA ġg (Α (e2 zD (Τ ãi) û)))))))))
  (yO (ul 1 Ŭc į (yt Įl))
  (yO (ul 1 Ŭc ņa (yt (e2 ñh Ħ êk)))
  (vg (δ (e2 xt ϊa ϴd))
   (μa (yt Ħ))
   t_)))))
def Zq:FM:=wq 2 5 Ti
def Fj(a b:M):Zq ð=xy 2 5 Ti ð:=rfl
def W2:FA:=(ww û Ħ)
def j8:yU:=(yO (wx 8 (yt (οc (e2 yK Ĺ ŗb))))
    (yO (vg (θa (yc (Ω æf ái)))
     (ZA 1 Ęg æe (yt (ξc (e2 jQ ŗ Ďa))))
     t_)
    (yO (OW 5 ŉe (wv (e2 pz Ďa (Z3 (Τ (eC Ĺd)) æe û))))
    (wx 6 (yt (e2 ve új Ďa))))))
def VA:yU:=
 (yO (ςc (οc (e2 yK ġg (e2 zD ë Ŀa))))
  (yO (wx 3 (yt (e2 yK į (e2 ve Ŀa (eL XZ (Α (e2 yq ϊa (Ι âi (Μ ái)))))))))
  (yO (wx 4 (wv Ųg))
  (yO (wx 5 ϱd)
  (yO (wx 6 (yt į))
  (yO (Vj W2 ţb
   j8)
  (vg (θa (yc (Ω ſe âi)))
   (μa (yt ϫ))
   t_)))))))
def km:FM:=wq 2 9 VA
def I_(a b:M):km ð=xy 2 9 VA ð:=rfl
def XO:yU:=
 (vg (Κc (eC ŀb))
   (μa (yt ſh))
   (vg (Κc İf)
     (μa (wv (e2 yK (e2 yZ Ųg Įd) (e2 ve Įd ſh))))
     (vg (Κc (eC õb))
       (μa (wv ġg))
       (vg (θa (Ι åi ϰi))
         (qY (qS km (t7 ë Đm)))
         (qY (qS Zq (t7 ë Đm)))))))
def jj:FM:=wq 2 2 XO
def Q9(a b:M):jj ð=xy 2 2 XO ð:=rfl
def E4:yU:=(ZA 2 [] Ħ Åi)
def DI:yU:=
 (yO (wx 2 (jr İe))
  (yO (Vj (tz ă) ĭf
   E4)
  (jW (Ds őj (uI (jr ϔm) (uI (jr (Ι ıf (zA ıf ąg))) (uI (jP 2) (uI ϱd (uI ϱd Z0)))))))))
def U_:FM:=wq 2 5 DI
def rH(a b:M):U_ ð=xy 2 5 DI ð:=rfl
section
variable{Ws Ws':Á Â}{a b c:Ï}{hk:Á Ą}{hv:Á D}{n m:Â}{x y z:D}{p q r:Ï}
def uB:wy įb=qy Ws a b c hk hv n m:=by simp only[sM,qy,wy,Íc]
theorem Jr{i:Ä}{π:Á xH}:gc įb i π=.p i π:=rfl
def Y1:uH įb Àg=À (.own ϱ):=rfl
def Bf:uH įb Ŭc=À (.own ĥc):=rfl
def YL:u7 įb Àg (.own (Δ ĩf))=À (sM Ws' a b c hk hv n m):=rfl
def GB:u7 įb Ŭc (.own (.lst [.bl p,.bl q,.bl r]))=À (sM Ws p q r hk hv n m):=rfl
def jt:zD üg œh=À ϱ:=rfl
def IQ:zD üg Ņg=À ĥc:=rfl
def m0:zD ĥc Ķ=À ĺi:=rfl
def EY:Ņc 3 0=À 0:=rfl
def EZ:Ņc 3 1=À 1:=rfl
def Ec:Ņc 3 2=À 2:=rfl
def Xz{w:Â}:wG Żb=À (Ã,.int (w/2147483648%2)):=by let e:=Eu Ón 1;let a:wG Żb=À (Ã,.int (Äb Ón (1*2 ^ 1-1))):=rfl;rw[a,e];rfl
def lL{ps:Á ó}(P:we ps)(q:ü<=1000):U_ ϭk=À (ϭk,sM Ws Ã Ã Ã Ċ Į 0 0):=by
 let{β',e1,x,y,rfl}:=EI (g:=jz 3 4) (b:=E4) (λi β=>∃x y:Ê M,β=[À Ėf,À ĕf,À (Υa Ķc Ïi),x,y])
  (ds:=ķ pD) (β:=[À Ėf,À ĕf,À (.own (.dic [] [])),Æ,Æ]) 0 {Æ,Æ,rfl} λi d β c a=>by
   let{x,y,rfl}:=a;rw[Ŭ];let e:i<ü:=by let:=řf.1;rw[æ]at this;show this
   rw[Ş,Ĳ e]at c;cases c;generalize a:ps[i]=p;let k:ņf õ=ņf i++[p]:=by rw[ĝd e,a]
   let f:p.1 ∉ (ťc).map (·.1):=by
    let h:=P.nd
    rw[Øo]
    rw[e2,Łd]at h;intro z;show h.2.2 _ z _ ŉ rfl
   let{o,m}:=G9 (b:=p.2) f;let j:decide ((Ķc).length<yW)=Å:=å (by unfold kP;rw[æ,Ęa];rw[Ío]);show{_,[À Ėf,À ĕf,À (Υa (kP ϣe) (vP ϣe)),À (.fz Ħc),À (.fz ÿn)],rfl,?_,_,_,rfl};rw[k,<-o,<-m];unfold E4;let n:vz Ħc=À Řh:=rfl;simp only[ý,n,j]
 rw[Ŭ,æ,þc]at e1;let l:qT Źd=À ϱ:=rfl;rw[rH];unfold DI;simp only[ý,e1,l];rfl
#print a
section
variable{Ws:Á Â}{a b c:Ï}{ps:Á ó}{p q:Â}
def VZ{hk:Á Ą}{hv:Á D}:ŭb ûg=Æ:=rfl
def IP{hk:Á Ą}{hv:Á D}:zD (qy Ws a b c hk hv p q) Ĺd=À Æb:=rfl
def lC{hk:Á Ą}{hv:Á D}:uH ûg Ęg=À ún:=rfl
def z9e{hk d:Á Ą}{hv e:Á D}:u7 ûg Ęg (.own (.dic d e))=À (sM Ws a b c d e p q):=rfl
def bT{W g:Â}(h:0<=W)(f:W<4294967296)(b:0<=g)(d:g<256):pz (.int W) ĸf=À (Β (W*g)):=by
 rw[ào]
 let c:wf W<=40:=Tj É;let a:wf g<=40:=Tj É;exact(match decide (wf W+wf g<=134217728)with|Å=>À (Ě (W*g))|Ã=>Æ)=_;rw[å É]
theorem f9{k:Ç}{d s n cnt:D}{A N f f' W W' i:Â}{x8:Ê M}(hk:yq Ď ϗj=À ç)(P:we ps)(u:0<W)(l:W<4294967296)(h:256*W=W')(m:f+W*gP ps ïb=f') :j8 Ÿi=À (.nx [À ϯn,À Ŷb,À όl,À ϵn,À ϋl,À łl,À Ńl,À Ϯn,À Ŵm]):=by
 let{e,g}:=j6 ïb ēa;let o:=bT É l e g;let j:wN 256=Å:=by decide
 let t:vz ϴk=À Ąn:=rfl;let r:=Q7 ïb ps;subst h m;unfold j8;simp only[ý,hk,YM,OW,uG,Z3,VZ,uB,IP,t,r,o,j,Ř,ϲ]
theorem fA{k:Ç}{d s n cnt:D}{A N f W W' i:Â}{x8:Ê M}(hk:yq Ď ϗj=À ě)(P:we ps)(B:ü<=1000)(z:0<W)(x:W<4294967296)(w:256*W=W') :∃f',j8 Ÿi=À (.nx [À ϯn,À (Νc (kP Ķd) (vP Ķd)),À όl,À ϵn,À ϋl,À łl,À Ńl,À Ϯn,À Ŵm]):=by
 let y:we Ķd:=ZN P É É É É;let{u,v}:=j6 ïb y.uc;let l:=bT É x u v;let h:wN 256=Å:=by decide
 let o:vz ϴk=À Ąn:=rfl;let m:=Q7 ïb Ķd;let e:decide Ïl=Å:=å Ïj;let t:decide (0<W)=Å:=å z;let j:decide (W<18446744073709551616)=Å:=å É;let{r,g}:=d_ ps ïb ϗn;show{f+W*gP Ķd ïb,?_};subst w;unfold j8;generalize hQ:xW ps ïb ϗn=Q at hk o e r g m l h t j ⊢;simp only[ý,hk,YM,OW,uG,Z3,VZ,uB,IP,lC,z9e,o,e,r,g,m,l,h,t,j,Ř,ϲ]
theorem OM{e f i g b a h j c:Ê M}{d:D}:p8 7 d [e,f,i,g,b,a,h,j,c]=À [e,f,i,g,b,a,h,À īc,c]:=rfl
def OD{t:Ï}:XZ [.bl t]=À (Β (if t then 1 else 0)):=by cases t<;>rfl
def L5{n:Ä}(j:n<=1000){e g i b a h c d:Ê Sl}:W2 ìj=À ņc:=by unfold W2;let:=tJ (f:=z6 3) (τ:=ìj) (n:=(n:Â)) rfl É;rw[Ŕ]at this;show this
def z0w(P:we ps){d s:Ä}{x n v:Â}(o:Ws[d]?=À v)(E:Ws[s]?=À x):km [.fz ďd,sM Ws a b c Ċ Į p q]=À ([.fz ďd,sM Łk a b c Ċ Į p q],.fz .zE):=by
 let B:d<ť:=(Ł o).1;let F:yq ſe Ģe=À ç:=rfl;let z:yq ſe ěe=À ě:=rfl;let G:=f9 (Ws:=Ws) (a:=a) (b:=b) (c:=c) (p:=p) (q:=q) (k := Ħa) (d:=.int (d:Â)) (s:=.int (s:Â)) (n:=.int n) (cnt:=.int 1) (A:=Òc%65536) (N:=v) (f:=0) (f':=gP ps ϵa) (W:=1) (W':=256) (i:=0) (x8:=Æ) rfl P Ì Ì rfl (by rw[þb,Ėk _ ùl];omega)
 let C:vW ţb j8 żf [À ϰn,À Ŷb,À Ňb,À ϭb,À ùb,À Ãd,À ϭb,Æ,Æ]=À (.nx [À ϰn,À Ŷb,À Ňb,À ϭb,À ùb,À (.fz (Β (gP ps ϵa))),À ül,À Ãd,À Śj]):=by exact vW ţb j8 ϰd _=_;simp only[vW,OM,G,þa]
 let g:wN 3=Å:=by decide
 let e:∀{m r u j h t w l:Ê Sl},W2 [m,r,u,À (Ã,.int 1),j,h,t,w,l]=À żf:=λ{m r u j h t w l}=>L5 (n:=1) Ì
 rw[ňo];simp only[ý,uB,VZ,jt,YM,YN,Qo,Qp,wJ o,wJ E,Ř,F,z,OD,g,y,e,C,Y1,YL,uD,uJ B,ua,ϲ,ļa,Ŧ,Ň]
theorem z0x(P:we ps){d s:Ä}{x n v:Â}(t:Ws[d]?=À v)(I:Ws[s]?=À x):km [.fz Ďd,sM Ws a b c Ċ Į p q]=À ([.fz Ďd,sM ťm a b c Ċ Į p q],.fz .zE):=by
 let H:d<ť:=(Ł t).1;let J:yq ņg Ģe=À ě:=rfl;let E:yq ņg ěe=À ě:=rfl;let e:=λ(f f' W W' i:Â) (x8:Ê M)=>f9 (Ws:=Ws) (a:=a) (b:=b) (c:=c) (p:=p) (q:=q) (k := Þa) (d:=.int (d:Â)) (s:=.int (s:Â)) (n:=.int n) (cnt:=.int 4) (A:=Òc%65536) (N:=v) (f:=f) (f':=f') (W:=W) (W':=W') (i:=i) (x8:=x8) rfl P
 let K:=e 0 ϒm 1 256 0 Æ Ì Ì rfl É;let F:=e ϒm Ϡj 256 65536 1 ŧn Ì Ì rfl É;let G:=e Ϡj ϲi 65536 16777216 2 Ųj Ì Ì rfl É;let C:=e ϲi ϥf 16777216 4294967296 3 Ģl Ì Ì rfl É
 let z:vW ţb j8 õd [À ϱn,À Ŷb,À Ňb,À ϒe,À ùb,À Ãd,À ϭb,Æ,Æ]=À (.nx [À ϱn,À Ŷb,À Ňb,À ϒe,À ùb,À (.fz (.int ϥf)),À ϳn,À ϭn,À œn]):=by exact vW ţb j8 Œj _=_;simp only[vW,OM,K,F,G,C,þa]
 let g:∀{o r w l j u y m:Ê Sl},W2 [o,r,w,À (Ã,.int 4),l,j,u,y,m]=À õd:=λ{o r w l j u y m}=>L5 (n:=4) Ì
 let h:wN 3=Å:=by decide
 let B:yK ώ Űm=À îi:=rfl;generalize gP ps ĳb+gP ps Ϭc*256+gP ps ϙd*65536+gP ps Ăf*16777216=R at z ⊢;rw[I_];unfold VA;simp only[ý,uB,VZ,jt,YM,YN,Qo,Qp,wJ t,wJ I,Ř,J,E,OD,h,B,g,z,Y1,YL,uD,uJ H,ua,ϲ,ļa,Ŧ,Ň]
theorem z0y(P:we ps)(F:ü<=1000){d s:Ä}{x n v:Â}(z:Ws[d]?=À v)(G:Ws[s]?=À x):km [.fz čd,sM Ws a b c Ċ Į p q]=À ([.fz čd,sM Ws a b c Üi Îi p q],.fz .zE):=by
 let H:yq æf Ģe=À ç:=rfl;let C:yq æf ěe=À ç:=rfl;let{B,w}:=fA (Ws:=Ws) (a:=a) (b:=b) (c:=c) (p:=p) (q:=q) (k := ña) (d:=.int (d:Â)) (s:=.int (s:Â)) (n:=.int n) (cnt:=.int 1) (A:=Òc%65536) (N:=v) (f:=0) (W:=1) (W':=256) (i:=0) (x8:=Æ) rfl P F Ì Ì rfl;rw[þb,Ėk _ ùl,Ëb]at w
 let E:vW ţb j8 żf [À ϲn,À Ŷb,À Ňb,À ϭb,À ùb,À Ãd,À ϭb,Æ,Æ]=À (.nx [À ϲn,À (Νc Üi Îi),À Ňb,À ϭb,À ùb,À (.fz (.int B)),À ül,À Ãd,À Ňb]):=by exact vW ţb j8 ϰd _=_;simp only[vW,OM,w,þa]
 let e:∀{m o t j h r u l:Ê Sl},W2 [m,o,t,À (Ã,.int 1),j,h,r,u,l]=À żf:=λ{m o t j h r u l}=>L5 (n:=1) Ì
 let g:wN 3=Å:=by decide
 rw[ňo];simp only[ý,uB,VZ,jt,YM,YN,Qo,Qp,wJ z,wJ G,Ř,H,C,OD,g,y,e,E,ϲ,ļa,Ŧ,Ň]
theorem z0z(P:we ps)(hp:ü<=900){d s:Ä}{x n v:Â}(O:Ws[d]?=À v)(U:Ws[s]?=À x):km [.fz Čd,sM Ws a b c Ċ Į p q]=À ([.fz Čd,sM Ws a b c Ûi Íi p q],.fz .zE):=by
 let L:yq Ňg Ģe=À ě:=rfl;let S:yq Ňg ěe=À ç:=rfl;let e:=λ(C:Á ó) (f W W' i:Â) (x8:Ê M) (Q:we C)=>fA (Ws:=Ws) (a:=a) (b:=b) (c:=c) (ps:=C) (p:=p) (q:=q) (k := Ýa) (d:=.int (d:Â)) (s:=.int (s:Â)) (n:=.int n) (cnt:=.int 4) (A:=Òc%65536) (N:=v) (f:=f) (W:=W) (W':=W') (i:=i) (x8:=x8) rfl Q
 let{R,E}:=e ps 0 1 256 0 Æ P É Ì Ì rfl;rw[Ëb]at E;let l0:=gC (ps:=ps) (a:=ϩl%65536) (b:=v%256);let m:we (xW ps ĳb (v%256)):=ZN P É É É É;generalize hq0:xW ps ĳb (v%256)=p0 at *;let{X,Y}:=e p0 R 256 65536 1 ŧn m É Ì Ì rfl;let l1:=gC (ps:=p0) (a:=üe%65536) (b:=v/256%256);let t:we (xW p0 Ϭc όm):=ZN m É É É É;generalize hq1:xW p0 Ϭc όm=p1 at *;let{K,H}:=e p1 X 65536 16777216 2 Ųj t É Ì Ì rfl;let Z:=gC (ps:=p1) (a:=Ĝd%65536) (b:=v/65536%256);let I:we (xW p1 ϙd Îm):=ZN t É É É É;generalize hq2:xW p1 ϙd Îm=p2 at *;let{J,u}:=e p2 K 16777216 4294967296 3 Ģl I É Ì Ì rfl
 let G:xW p2 Ăf (v/16777216%256)=qC ps ϵa v:=by unfold qC;rw[hq0,hq1,hq2]
 rw[G]at u
 let T:vW ţb j8 õd [À ϴn,À Ŷb,À Ňb,À ϒe,À ùb,À Ãd,À ϭb,Æ,Æ]=À (.nx [À ϴn,À (Νc Ûi Íi),À Ňb,À ϒe,À ùb,À (.fz (.int J)),À ϳn,À ϭn,À œn]):=by exact vW ţb j8 Œj _=_;simp only[vW,OM,E,Y,H,u,þa]
 let g:∀{w y B l j z r o:Ê Sl},W2 [w,y,B,À (Ã,.int 4),l,j,z,r,o]=À õd:=λ{w y B l j z r o}=>L5 (n:=4) Ì
 let h:wN 3=Å:=by decide
 let F:yK ώ Űm=À îi:=rfl;rw[I_];unfold VA;simp only[ý,uB,VZ,jt,YM,YN,Qo,Qp,wJ O,wJ U,Ř,L,S,OD,h,F,g,T,ϲ,ļa,Ŧ,Ň]
#print a
section
variable{Ws:Á Â}{a b c:Ï}{hk:Á Ą}{hv:Á D}
nonrec def vp(p:Ï):Â:=if p then 1 else 0
def Sf{x y:Â}{p:Ï}:Wn ďg=À (Ã,.tup [.int (Φa (x+y+vp p)),.bl (decide (4294967296<=x+y+vp p))]):=by
 let a:decide Ĵk=Å:=by decide
 rw[oU];unfold Bt;cases p<;>simp only[Ú,Ř,vp,a,ļa,Ŧ,Ň]
theorem e_{x y:Â}{p:Ï}(h:0<=x)(g:x<4294967296)(j:0<=y)(f:y<4294967296):Wx ďg=À (Ã,.tup [.int (Φa (x-y-vp p)),.bl (decide (x-y-vp p<0))]):=by
 let b:∀(q:Â),(q=0\/q=1)->(∀τ:zx,tq ëf į û [À (Ã,.int x),À (Ã,.int y),À (Ã,.bl p),Æ]=À (.int q))->Wx ďg=À (Ã,.tup [.int (Φa Ħi),.bl (decide ϔh)]):=λq i d=>by
  let a:=d [];rw[sA];unfold Dg;generalize tq ëf į û=EE at a;by_cases z:x-y-q<0;let c:decide ϔh=Å:=å z;let e:Ħi%4294967296=x-y-q+4294967296:=by omega
  rw[e,c];simp only[Ú,a,c,Ř];let c:decide ϔh=Ã:=đ z;let e:Ħi%4294967296=x-y-q:=by omega
  rw[e,c];simp only[Ú,a,c]
 cases p with
 |Ã=>show b 0 Ō λ_=>rfl|Å=>show b 1 ĉb λ_=>rfl
def mD{t:Â}{σ:zx}(h:σ[5]?=À (À (Ã,.int t))):Z2 ũd ϛb û ϫ ķc σ=À Üj:=by
 let e:z6 5 σ=À (.int t):=by unfold z6;rw[h]
 by_cases z:0<=t;let a:decide ϒf=Å:=å z;simp only[Ú,Z2,h,a];let a:decide ϒf=Ã:=đ z;simp only[Ú,Z2,h,a,ôb]
inductive gZ:Ç->È
 |add:gZ įa |addc:gZ ϩa |sub:gZ ŷa |subc:gZ ϧa |test:gZ Ĩa
def bG{k:Ç}{x y:Â}{p q:Ï}(g:yq Ď Øg=À Ĺi)(l:yq Ď Úg=À (.bl q)) :gW ķa=À (Ã,.tup [.int (ϸf%4294967296),.bl (!(decide (0<=ϸf)&&decide (ϸf<4294967296)))]):=by
 let h:decide Ĵk=Å:=by decide
 rw[rS];unfold DS;generalize hch:Z2 ũd ϛb û ϫ ķc=CH;let n:∀d b e f c t,CH [d,b,e,f,c,À (Ã,.int t)]=À Üj:=λd b e f c t=>hch▸mD rfl
 generalize hmo:eL XZ ϫi=MO
 let o:MO [À (Ã,.str k),À (Ã,.int x),À (Ã,.int y),À (Ã,.bl a),Æ,Æ]=À (Β (vp ûd)):=by subst hmo;cases a<;>cases p<;>simp only[Ú,g,vp]
 generalize vp ûd=m at *;cases q<;>simp only[Ú,l,Ř,n,h,o,ļa,Ŧ,Ň]
theorem y3q{k:Ç}(h:gZ k){x y:Â}(n:0<=x)(m:x<4294967296)(q:0<=y)(r:y<4294967296):∃(t:Â) (u:Ï),pV ķa=À (Ã,.tup šc)/\gW ķa=À (Ã,.tup šc):=by
 let s:∀t:Â,0<=t->decide (4294967296<=t)=!(decide ϒf&&decide (t<4294967296)):=λt h=>by rw[å h];by_cases z:4294967296<=t;rw[Ţo]
 let v:∀t:Â,t<4294967296->decide (t<0)=!(decide ϒf&&decide (t<4294967296)):=λt h=>by rw[å h];by_cases z:t<0;rw[Ţo]
 let l:∀c,0<=vp c/\vp c<=1:=λc=>by cases c<;>show{by decide,by decide}
 let ad:∀{k:Ç}{p:Ï},yq Ď Øg=À Ĺi->yq Ď Úg=À ě->pV ķa=À (Ã,.tup [.int (Φa (x+y+vp ûd)),.bl (decide (4294967296<=x+y+vp ûd))])->∃(t:Â) (u:Ï),pV ķa=À (Ã,.tup šc)/\gW ķa=À (Ã,.tup šc):=λ{k p} i j e=>
  {_,_,e,by rw[bG i j,Ò rfl,s _ ϵj]}
 let g:∀{k:Ç}{p:Ï},yq Ď Øg=À Ĺi->yq Ď Úg=À ç->pV ķa=À (Ã,.tup [.int (Φa (x-y-vp ûd)),.bl (decide (x-y-vp ûd<0))])->∃(t:Â) (u:Ï),pV ķa=À (Ã,.tup šc)/\gW ķa=À (Ã,.tup šc):=λ{k p} i j e=>
  {_,_,e,by rw[bG i j,Ô Ŋ,v _ ϵj]}
 let o:∀{k:Ç},zb Ď ϓb=À ç->zb Ď Ŀb=À ç->zb Ď öc=À ç->pV ķa=À (Ã,.tup [.int (Φa (x-y-vp (a&&Ã))),.bl (decide (x-y-vp (a&&Ã)<0))]):=λ{k} b d f=>by rw[ϖc,O1];unfold VC;cases a<;>simp only[Ú,b,d,f,e_ n m q r]
 cases h with
 |add=>show ad (p:=Ã) rfl rfl ?_;let b:zb ϓb ϓb=À ě:=rfl;rw[ϖc,O1];unfold VC;simp only[Ú,b,Sf]|addc=>show ad (p:=Å) rfl rfl ?_;let b:zb Ŀb ϓb=À ç:=rfl;let d:zb Ŀb Ŀb=À ě:=rfl;rw[ϵg,O1];unfold VC;simp only[Ú,b,d,Sf]|sub=>show g (p:=Ã) rfl rfl Īl|subc=>show g (p:=Å) rfl rfl ?_;let b:zb öc ϓb=À ç:=rfl;let d:zb öc Ŀb=À ç:=rfl;let f:zb öc öc=À ě:=rfl;rw[ϵg,O1];unfold VC;cases a<;>simp only[Ú,b,d,f,e_ n m q r]|test=>show g (p:=Ã) rfl rfl Īl
def nF{d s:Ä}{x y w g:Â}{u:Ï}(j:Ws[d]?=À x)(i:Ws[s]?=À y)(h:pV [.str Ĩa,.int x,.int y,.bl a]=À (Ã,.tup Ĉc))(f:wG Żb=À (Ã,.int g)) :jh [st Č a b c hk hv,.fz àj]=À ([st Č u (decide Ūb) (decide ĉd) hk hv,.fz àj],.fz .zE):=by let e:xt ϋb ϋb=À ç:=rfl;rw[aN];unfold Jw;simp only[ý,uN,p_,FV,NB,wJ j,wJ i,h,ur,qH,qI,XU,XV,Xq,Te,Qj,QX,Oq,Ov,Xs f,XM,e]
#print a
nonrec def lt(k:Â):Ç:={#[97+Ű]}
def ie(a:0<=k)(b:k<26):vZ (śc : Ç).cps.toList k=À (97+Ű):=by
 let h:∀j:Fin 26,vZ (śc : Ç).cps.toList (j.val:Â)=À (97+j.val):=by rw[Ço]
 let:=h {Ű,by omega};rw[show(({Ű,by omega}:Fin 26).val:Â)=k by exact(Ű:Â)=k;omega]at this;show this
def ig(a:0<=k)(b:k<26):zD ôn Åa=À (.str (lt k)):=by exact(vZ _ k).bind _=_;rw[ie a b];rfl
def ŋf(h:ϴ+ŵ<=100000):yK (.str a) (.str b)=À (.str úd):=by exact(if ϴ+ŵ<=yW then _ else _)=_;rw[Ò Ūj]
theorem z14(a b:Ç):(úd).length=ϴ+ŵ:=Ϥk
def bJ(k:Â):(lt k).length=1:=rfl
open Ĩ ĭ
def E7:FS:=(zZ (yH 4 (μ (e2 yK (eC (.int 30)) æa)))
    (zZ (yH 5 (Τ (e2 yZ (e2 yK (μ (eC (.int 29))) (e2 ve (eC (.int 9)) Ħ)) (eC (.int 26)))))
    (Vt 2 XY (e2 yK (e2 yK (e2 Ij (eC Ŕh) (e2 yZ ŗ Åb)) ϫ) (e2 Ij (eC Ŕh) (e2 yZ (e2 jQ ŗ Åb) Åb))))))
def Jz:FS:=
 (zZ (yH 1 (eC ôn))
  (zZ (qh 2 Ðe)
  (zZ (qF ċm Éc
   E7)
  (zZ (xB (tE (e2 zb (e2 yZ ë Įf) û))
   (Vu 2 û (Ζ (Ι Íd (zA (eC Ĥc) (Ω ßm ŷe))) (e2 yZ (e2 jQ ë Įf) Åb)))
   xS)
  (ZK 2)))))
def T2:Á D->Ê í:=FR 1 6 Jz
def aQ(a:D):T2 [a]=yP 6 Jz [a]:=rfl
def qn(a k b:Â):Ç:=ϖa "q" a++lt k++ϖa "q" b
def z9o:("q" : Ç)={#[113]}:=by rw[Ço]
def Oz{a k b:Â}{x:Ä}:x∈(âf).cps.toList->x=113\/x=97+Ű:=λh=>by
 rw[Ëo]
 rw[e,z9o,æm,æm]at h;rcases Àb h with h|h;rcases Àb h with h|h;show .inl (òg h);show .inr (ĸa h);show .inl (òg h)
def ca{a k b:Â}:97+Ű∈(âf).cps.toList:=by
 rw[Ëo]
 rw[e];simp
def GK{a k b f c d:Â}(l:0<=k)(g:0<=c)(h:k≠c):qn a k b≠qn f c d:=λe=>by let j:=Oz (a:=f) (k:=c) (b:=d) (x:=97+Ű) (e▸ca);let i:=Oz (a:=a) (k:=k) (b:=b) (x:=97+c.toNat) (e▸ca);omega
def LG{s:Ç}{x y:Ä}{a k b:Â}(c:x∈åm)(f:y∈åm)(d:x≠y)(h:x≠113)(g:y≠113):s≠qn a k b:=λe=>by subst e;let:=Oz c;let:=Oz f;omega
def bU{j:Â}(a:0<=j)(b:j<4):Ij Ŕh Ĺc=À (.str Ĕh):=by exact(match decide Ák&&(decide üd&&decide Ċf)with|Å=>À (ôd Ĕh)|Ã=>Æ)=_;rw[show decide Ák=Å by rw[Ço],å a,å É];rfl
def bV{j:Â}(a:j<4):(Ĕh).length<=1*4:=łm (L:=1) (N:=4) Ī É
structure Jn(n0 n1 n2:Ç):È where
 a:n0≠n1
 b:n0≠n2
 c:n1≠n2
def z2d(c:Â):∃n0 n1 n2:Ç,T2 Ėb=À (Å,.lst Şc)/\Jn n0 n1 n2:=by
 obtain⟨a,f⟩:∃a:Â->Â,∀k,vk ŧg=À (Ã,.int (a k))/\0<=a k:={λk=>æl (um c k),λk=>{şl.1,şl.2.1}};let l:=(f 29).1;let R:=(f 29).2
 let +zeta nk:Ä->Ç:=λk=>qn (a ħm%4) ((a 29+9*(k:Â))%26) (a ħm/4%4)
 let o:∀τ:zx,ww û Ŀa τ=À śi:=λτ=>tJ (n:=3) rfl Ì
 let{σ',e1,F,J,H,rfl}:=jV (g:=yB 3) (b:=E7) (λi σ=>∃F J H:Ê Sl,σ=[À (Ã,.int c),À (Ã,.str śc),À (Å,.lst Ąe),F,J,H])
  (ds:=yb 3) (σ:=[À (Ã,.int c),À (Ã,.str śc),À (Å,.lst []),Æ,Æ,Æ]) 0 {Æ,Æ,Æ,rfl} λi d σ S P=>by
   let{F,J,H,rfl}:=P;rw[Ŭ];let{U,rfl}:=UB S;let r:=(f üb).1;let T:=(f üb).2;let E:=ig (k:=(a 29+9*(i:Â))%26) É É;let t:wN 9=Å:=by decide
   let u:=bU (j:=a üb%4) É É;let A:=bU (j:=a üb/4%4) É É;let O:=bV (j:=a üb%4) É;let N:=bV (j:=a üb/4%4) É;let B:yK (.str (ϖa "q" (a üb%4))) (.str (lt Ýg))=À ħj:=ŋf (by rw[bJ];omega);let v:yK ħj (.str (ϖa "q" (a üb/4%4)))=À Ým:=ŋf (by rw[z14,bJ];omega)
   let w:XY (Δ ((Ùa i).map λk=>ôd (nk k))) Ým=À (Δ Ñg):=by exact(ζd (Ąe) (Ćd (Ąe++[_])))=_;rw[Ò (by rw[æ,şa];rw[Ío]),Ųe,Ăa];rfl
   show{_,[À (Ã,.int c),À (Ã,.str śc),À (Å,.lst Ñg),À (Ã,.int (i:Â)),À (Ã,.int (a üb)),À (Ã,.str (lt Ýg))],rfl,.inl ?_,_,_,_,rfl};unfold E7;generalize Ąe=LL at r l t E u A B v w ⊢;generalize Ñg=LM at r l t E u A B v w ⊢;generalize nk i=NK at r l t E u A B v w ⊢;simp only[Ú,Ř,r,l,t,E,u,A,B,v,w,ϲ]
 let Q:(śi).length=3:=by rw[æ,şa]
 rw[Ŭ,Q]at e1;let L:(Ùa 3).map (λk=>ôd (nk k))=[.str (nk 0),.str (nk 1),.str (nk 2)]:=rfl;rw[L]at e1;let I:nk 0≠nk 1:=GK É É É;let G:nk 0≠nk 2:=GK É É É;let p:nk 1≠nk 2:=GK É É É
 let K:∀s:Ç,Íj->∀k,s≠nk k:=λs C k=>by rcases C with rfl|rfl|rfl|rfl;show LG (x:=115) (y:=116) Ī Ī Ì Ì Ì;show LG (x:=99) (y:=97) Ī Ī Ì Ì Ì;show LG (x:=106) (y:=117) Ī Ī Ì Ì Ì;show LG (x:=119) (y:=104) Ī Ī Ì Ì Ì
 by_cases z:c%5=0;obtain⟨s,q,C⟩:∃s:Ç,zD (.lst [.str şb,.str ąa,.str àa,.str ãa]) (Β (c/5%4))=À (.str s)/\Íj:=by rcases(show c/5%4=0\/c/5%4=1\/c/5%4=2\/c/5%4=3 by omega)with h|h|h|h<;>rw[h];show{_,rfl,.inl rfl};show{_,rfl,.inr Ō};show{_,rfl,.inr (.inr Ō)};show{_,rfl,.inr (.inr ĉb)}
 show{s,nk 1,nk 2,?_,K s C 1,K s C 2,p};let m:zb ům Ķ=À ě:=Xo z;let e:Ņc 3 0=À 0:=rfl;rw[aQ];unfold Jz;generalize nk 0=A0 at o e1 m q e ⊢;generalize nk 1=A1 at o e1 m q e ⊢;generalize nk 2=A2 at o e1 m q e ⊢;simp only[Ú,Vu,o,e1,m,q,e,ϲ];show{nk 0,nk 1,nk 2,?_,I,G,p};let m:zb ům Ķ=À ç:=YA z;rw[aQ];unfold Jz;generalize nk 0=A0 at o e1 m ⊢;generalize nk 1=A1 at o e1 m ⊢;generalize nk 2=A2 at o e1 m ⊢;simp only[Ú,o,e1,m,ϲ]
def x1s(a:Á D)(r:D):D:=match w6 r with
 |Å=>match EC r with
  |.str t=>(((z8u t a).2).map λn:Ä=>Ě n).getD .zE|_=>.zE
 |Ã=>.zE
inductive RJ(Z:Á Ïa)(RK:D->È):D->È
 |îe {r:D} (h:RK r):RJ Z RK r
 |ϭ:RJ Z RK ĸb
 |Uh {q:Ç×Ä} (h:q∈Z):RJ Z RK én
 |cond {w k:Ç} {q:Ç×Ä} (hw:w = ãa \/ w = ğa) (hk:k = ąa \/ k = ϔa \/ k = ěb) (h:q∈Z):RJ Z RK ńj
structure Hd(r:D):È where
 pr:kz r
 w:∃w,zD r Ķ=À Ŗ/\zb Ŗ Žb=À ç/\jv Ŗ ϲc=À ě
def VB:yU:=
 (yO (vg (vq (ηc (e2 zb Žj èb) (e2 zb (e2 zD Ōn û) Íd)))
   ųc
   t_)
  (yO (wx 4 (wv Ōn))
  (yO (QZ 3 [] Ľf į)
  (yO (QZ 3 [] ūb į)
  (yO (vg (δ (e2 jv ųg Æi))
   (qY (qS jj (t7 ŗ (tj 3 [] vx))))
   (vg (vq (ηc (e2 zb ųg äi) (e2 zb (Ζ (e2 zD Ħ ãi) (e2 vo ϩf įl)) (e2 zb ųg ŷe))))
     (YF 3 [] ūb (yt Ág))
     t_))
  Żk)))))
def kq:FM:=wq 4 5 VB
def O0(a b x2 x3:M):kq Ąb=xy 4 5 VB Ąb:=rfl
inductive BV(G:D->Á Â->Á ó->Á Â->Á ó->È)(r:D)(Ws:Á Â)(a b c:Ï)(ps:Á ó):È
 |mk (Ws':Á Â) (a' b' c':Ï) (ps':Á ó) (l:Ϯm=8) (h:∀w∈Ws',0<=w/\w<4294967296) (P:we ps') (g:G r Ws ps Ws' ps')
  (e1:kZ [st Č a b c Ċ Į,.fz r]=À ([st ĩf a' b' c' Ýi Ði,.fz r],.fz .zE)) (e2:∀n m,jj [.fz r,sM Ws a b c Ċ Į n m]=À ([.fz r,sM Ws' a' b' c' Ýi Ði n m],.fz .zE))
  (e3:Zr [ui ĩf a' b' c' Ýi Ði,r]=À (Ã,.bl Ã)) (e4:zb r ĸb=À ç) (e5:wO r=Å):BV G r Ws a b c ps
def XC(G:D->Á Â->Á ó->Á Â->Á ó->È)(d:D->È):È:=∀(r:D)(Ws:Á Â)(a b c:Ï)(ps:Á ó),d r->ť=8->(∀w∈Ws,0<=w/\w<4294967296)->we ps->ü<=800->BV G r Ws a b c ps
section
variable{Ws:Á Â}{a b c:Ï}{hk:Á Ą}{hv:Á D}{n m p:Â}
def Y3:zD üg ðn=À ĸc:=rfl
def aV:ŭb įb=Æ:=rfl
def Bg{e0 e1 e2 e4:Ê M}:QZ 3 [] ūb į ĵd=À (Εc (sM Ws a b c hk hv ĸ m)):=rfl
def Bh{e0 e1 e2 e4:Ê M}:QZ 3 [] Ľf į ĵd=À (Εc (sM Ws a b c hk hv n (m+1))):=rfl
def dw{fv:xC}{e0 e1 e2 e4:Ê M}(h:fv ĵd=À (.fz (.int p),ĵd)):YF 3 [] ūb fv ĵd=À (Εc Îk):=by unfold YF;rw[h];rfl
nonrec def QQ:D->Ï
 |.tup Ìf=>w == şb|_=>Ã
def jD(Õ:Á D)(i:Ä):Ï:=decide (i=â)||QQ Ż
def Xp{Õ:Á D}{i:Ä}(a:i<â):zD čc øb=À Ż:=by exact vZ Õ (i:Â)=_;unfold vZ;rw[Ò (İb i),Ŕ,ėa,Ĳ a];rfl
#print a
section
variable{Z:Á Ïa}{RK:D->È}{g:D->Á Â->Á ó->Á Â->Á ó->È}
def Gc(b:XC g RK)(d:∀r,RK r->Hd r){r:D}(h:RJ Z RK r):∃w:Ç,zD r Ķ=À Ŗ/\zb Ŗ Žb=À þh/\zb r ĸb=À þh:=by
 cases h with
 |îe h=>
  let{_,_,_,_,_,_,_,_,_,_,_,_,e,_}:=b r (Ų 8 0) Ã Ã Ã [] h rfl (λw a=>by rw[òg a];show{by decide,by decide}) {λ_ h=>ß h é,λ_ h=>ß h é,by simp} Ì;let c:=(d r h).pr;let{w,e1,e2,_}:=(d r h).w;show{w,e1,?_,?_};rw[e2]
  congr 2
  cases c with
  |ϭ=>cases e1;cases e2|WR a=>rcases a with rfl|rfl<;>rfl
  |two a=>rcases a with rfl|rfl|rfl|rfl|rfl|rfl|rfl|rfl|rfl<;>rfl
  |WU a=>rcases a with rfl|rfl<;>rfl
  |mem a=>rcases a with rfl|rfl|rfl|rfl<;>rfl
  rw[e]
  congr 2
  cases c with
  |ϭ=>cases e1;cases e2|WR a=>rcases a with rfl|rfl<;>rfl
  |two a=>rcases a with rfl|rfl|rfl|rfl|rfl|rfl|rfl|rfl|rfl<;>rfl
  |WU a=>rcases a with rfl|rfl<;>rfl
  |mem a=>rcases a with rfl|rfl|rfl|rfl<;>rfl
 |ϭ=>show{_,rfl,rfl,rfl}|Uh h=>show{_,rfl,rfl,rfl}|cond a hk h=>rcases a with rfl|rfl<;>show{_,rfl,rfl,rfl}
#print a
section
variable{Z:Á Ïa}{RK:D->È}{Õ:Á D}{g:D->Á Â->Á ó->Á Â->Á ó->È}{T fw fh:D}{Ws:Á Â}{a b c:Ï}{qs:Á ó}
def Xd{i:Ä}(a:i<â):ŋb i .zE∈Õ:=by rw[ėa,Ĳ a];show ύb a
def nU(k:XC g RK)(o:∀r,RK r->Hd r)(p:∀r∈Õ,RJ Z RK r){pl nm:D}{hk:Á Ą}{hv:Á D}{i:Ä}{j:Â}(q:i<=â)(f:jD Õ i=Å) :kq đd=À (đd,.fz ç):=by
 unfold jD at f;let h:vH źd=À ſd:=rfl;rw[ųo];by_cases z:i=â;let e:zb øb ÿc=À ě:=Xo É;simp only[ý,uB,Y3,h,e];let d:i<â:=by omega
 let e:zb øb ÿc=À ç:=YA É;rw[đ z,Ńb]at f;let{w,m,l,_}:=Gc k o (p _ Ūi);let n:=Xp d;rw[f]at l;generalize ŋb i .zE=r at h e n m l ⊢;simp only[ý,uB,Y3,h,e,n,m,l]
theorem y3l{e due done:Â}{s:M}(h:pS Ĕe=À (Ã,.bl Å)):gT ég=À (ég,.fz ç):=by
 let a:∀τ:zx,w_ Ý ħc ë zG Ôj=À Ĕe:=λτ=>Tc Aa Ī rfl
 rw[aL];unfold Ju;simp only[ý,UA,a,h]
theorem y3n{i:Ä}(b:i<â)(a:jD Õ i=Ã):QQ Ż=Ã:=by unfold jD at a;rw[đ É,Ńb]at a;show a
def nV(B:XC g RK)(y:∀r,RK r->Hd r){r:D}(h:RK r)(A:wO r=Å){d:Á Â}{k l p:Ï}{pl nm:D}{hk f:Á Ą}{hv e:Á D}{i:Ä}{j:Â}(x:i<â)(u:ŋb i .zE=r)(q:∀n m,jj [.fz r,sM Ws a b c hk hv n m]=À ([.fz r,sM d k l p f e n m],.fz .zE)) :kq đd=À ([.fz čc,.fz pl,.fz nm,sM d k l p f e ((i:Â)+1) éa],.fz ě):=by let s:vH źd=À ſd:=rfl;let C:zb øb ÿc=À ç:=YA É;let{w,z,v,t}:=(y r h).w;let o:=Xp x;rw[u]at o;rw[ųo];simp only[ý,uB,Y3,s,C,o,A,z,v,t,Bg,Bh,Jr,q]
theorem nT{r pl nm:D}{w:Ç}{q:Ç×Ä}{k:Â}{hk:Á Ą}{hv:Á D}{i:Ä}{j:Â}(u:i<â)(t:ŋb i .zE=r)(l:wO r=Å)(g:zD r Ķ=À Ŗ)(x:zb Ŗ Žb=À ç)(s:jv Ŗ ϲc=À ç)(v:zb Ŗ ϊe=À ě)(h:zD r Ýf=À Ðb)(d:vo nm Ðb=À Åa)(e:zD pl Åa=À ľb) :kq đd=À ([.fz čc,.fz pl,.fz nm,sM Ws a b c hk hv q.2 éa],.fz ě):=by let o:vH źd=À ſd:=rfl;let y:zb øb ÿc=À ç:=YA É;let f:=Xp u;rw[t]at f;let st:=dw (Ws:=Ws) (a:=a) (b:=b) (c:=c) (hk:=hk) (hv:=hv) (n:=(i:Â)+1) (m:=j+1) (p:=(q.2:Â)) (fv:=yt Ág) (e0:=À Ĕf) (e1:=À (.fz pl)) (e2:=À (.fz nm)) (e4:=À (.fz r)) (by simp only[ý,aV,h,d,e]);rw[ųo];simp only[ý,uB,Y3,o,y,f,l,g,x,s,v,Bg,Bh,st]
theorem nS{r pl nm:D}{w h:Ç}{q:Ç×Ä}{k g:Â}{y v e:Ï}{hk:Á Ą}{hv:Á D}{i:Ä}{j:Â}(B:i<â)(z:ŋb i .zE=r)(H:wO r=Å)(F:zD r Ķ=À Ŗ)(C:zb Ŗ Žb=À ç)(x:jv Ŗ ϲc=À ç)(A:zb Ŗ ϊe=À ç)(o:zD r ώ=À (.str h))(m2:vo ûn (.str h)=À ĸf)(E:zD ĥc ĸf=À ŧf)(t:zb Ŗ òn=À Ũf)(s:zb ŧf Ũf=À (.bl e))(G:zD r Ýf=À Ðb)(d:vo nm Ðb=À Åa)(f:zD pl Åa=À ľb) :kq đd=À ([.fz čc,.fz pl,.fz nm,sM Ws a b c hk hv (if e then(q.2:Â)else(i:Â)+1) éa],.fz ě):=by let u:vH źd=À ſd:=rfl;let I:zb øb ÿc=À ç:=YA É;let l:=Xp B;rw[z]at l;let st:=dw (Ws:=Ws) (a:=a) (b:=b) (c:=c) (hk:=hk) (hv:=hv) (n:=(i:Â)+1) (m:=j+1) (p:=(q.2:Â)) (fv:=yt Ág) (e0:=À Ĕf) (e1:=À (.fz pl)) (e2:=À (.fz nm)) (e4:=À (.fz r)) (by simp only[ý,aV,G,d,f]);rw[ųo];cases e<;>simp only[ý,uB,Y3,IQ,u,I,l,H,F,C,x,A,o,m2,E,t,s,Bg,Bh,st,ļa,Ŧ,Ň]
theorem Ae{S r:D}{a:M}{w:Ç}(b:zD r Ķ=À Ŗ)(c:Y5 qx Ŗ=À ç):kZ Ĳn=À (Ĳn,.fz .zE):=by rw[Fh];unfold Tf;simp only[ý,b,c]
def Sc(G:D->Á Â->Á ó->Á Â->Á ó->È)(Õ:Á D)(Ws:Á Â)(qs:Á ó)(i:Ä)(b:Á Â)(a:Á ó)(c:Ä)(t:Ï):È:=(t=Ã/\b=Ws/\a=qs/\c=i)\/(t=Å/\(((∃r∈Õ,G r Ws qs b a)/\c=i+1)\/(b=Ws/\a=qs)))
#print a
def x17{w n:Â}(a:0<=w)(b:w<4294967296)(n0:0<=n)(n1:n<65536):ku [.int w,.int 16,.int 16,.int n]=À (Ã,.int (w%65536+65536*n)):=by
 rw[fQ (x:=w) (l:=16) (d:=16) (n:=n) {{a,by decide,by decide,by decide,by decide},n0,n1}];let e:w+(n-w/65536%65536)*65536=w%65536+65536*n:=by omega
 show Ϣ (λz=>À (Ã,Ě z)) e
def z12{x:Â}{n:Ä}(f:0<=x)(e:x<4294967296)(g:n<=31):X4 ük=À (Ã,.tup [.int ġk,if n=0 then .zE else .bl (decide ôg)]):=by
 let d:=Ku (n:=n) f e É;let b:∀y:Â,wG [.int y,.int 32,.int 1]=À (Ã,.int (y/4294967296%2)):=λy=>ZD (x:=y) (l:=32) (w:=1) Ì
 let c:∀y:Â,wG [.int y,.int 0,.int 32]=À (Ã,.int (y%4294967296)):=λy=>by let:=ZD (x:=y) (l:=0) (w:=32) Ì;rw[Ťd,Ëb]at this;show this
 rw[rX];unfold DW;rw[ģo];simp only[Ú,d,Ŕ,b,c,Őa,a];let a:decide Ïf=Ã:=đ É;rw[Ô z];simp only[Ú,d,Ŕ,b,c,Őa,a]
theorem y0j{x:Â}{n:Ä}:X5 ük=À (Ã,.tup [.int ųn,if n=0 then .zE else .bl (decide Ŀg)]):=by
 let b:decide ((0:Â)<=(n:Â))=Å:=å ěi;rw[rY];unfold DX;rw[ģo];simp only[Ú,b,Ŕ,Őa,a];let a:decide Ïf=Ã:=đ É
 let p:wG [.int x,.int ((n:Â)-1),.int 1]=À (Ã,.int (x/2 ^ (n-1)%2)):=by rw[show(n:Â)-1=((n-1:Ä):Â) by omega];show ZD (l:=n-1) (w:=1) Ì
 rw[Ô z];simp only[Ú,b,Ŕ,p,Őa,a]
section
variable{Ws:Á Â}{a b c:Ï}{hk:Á Ą}{hv:Á D}
def y0f{k:Ç}{d s:Ä}{x y w:Â}{n m:Â}(h:gS k)(e:Ws[d]?=À x)(f:Ws[s]?=À y)(h:Wt àk=À (Ã,.int w)) :Zq ĺj=À ([.fz ϳa,sM ļn a (decide Ūb) (decide Že) hk hv n m],.fz .zE):=by
 let g:d<ť:=âd.1
 obtain⟨o,i,j⟩:yq Ď åg=À ç/\yq Ď îj=À ě/\xt Ď ϋb=À ě:=by rename_i l;cases l<;>show{rfl,rfl,rfl}
 rw[Fj];unfold Ti;simp only[ý,uB,jt,IQ,m0,ur,qH,qI,wJ e,wJ f,h,Bf,GB,EY,EZ,Ec,Őa,o,i,j,Y1,YL,uD,uJ g,ua]
theorem dE{k:Ç}{d s:Ä}{x y w:Â}{u t:Ï}{n m:Â}(h:gZ k)(e:xt Ď ϋb=À éd)(f:Ws[d]?=À x)(j:Ws[s]?=À y)(h:gW ķa=À (Ã,.tup Ĉc)) :Zq ĺj=À ([.fz ϳa,sM (if t then ϳb d w else Ws) u (decide Ūb) (decide Že) hk hv n m],.fz .zE):=by
 let g:d<ť:=ád.1
 obtain⟨o,i⟩:yq Ď åg=À ç/\yq Ď îj=À ç:=by rename_i l;cases l<;>show{rfl,rfl}
 rw[Fj];unfold Ti;cases t<;>simp only[ý,uB,jt,IQ,m0,ur,qH,qI,wJ f,wJ j,h,Bf,GB,EY,EZ,Ec,Őa,o,i,e,Y1,YL,uD,uJ g,ua,ļa,Ŧ,Ň]
theorem L4{k:Ç}{d:Ä}{x w:Â}{p u:Ï}{e n m:Â}(j:decide (0<e)=p)(l:yq Ď åg=À ě)(i:xt Ď ϋb=À ě)(f:Ws[d]?=À x)(h:X1 [.str k,.int x,.int e]=À (Ã,.tup Ĉc)) :Zq [.fz ĝj,sM Ws a b c hk hv n m]=À ([.fz ĝj,sM ļn (if p then u else a) (decide Ūb) (decide Že) hk hv n m],.fz .zE):=by let g:d<ť:=ád.1;rw[Fj];unfold Ti;rcases p with _|_<;>simp only[ý,Vi,uG,uB,jt,IQ,m0,ur,qH,qI,wJ f,h,Bf,GB,EY,EZ,Ec,Őa,l,i,j,Y1,YL,uD,uJ g,ua,ļa,Ŧ,Ň]
theorem XS{k:Ç}{d s:D}{e:Á Â}{j i l:Ï}{f:Á Ą}{g:Á D}(r:zb Ď ŀb=À ç)(o:zb Ď ļb=À ç)(q:zb Ď õb=À ç)(p:yq Ď éf=À ç)(t:wO Ěd=Å)(h:∀n m,Zq Ĺj=À (šj,.fz .zE))(n m:Â) :jj Ĺj=À (šj,.fz .zE):=by rw[Ńo];simp only[ý,ur,r,o,q,p,Jr,h n m]
theorem IS{k:Ç}{d s x:D}{e:Á Â}{f:Á Ą}{g:Á D}(o:zb Ď ŀb=À ç)(i:zb Ď ļb=À ç)(l:zb Ď õb=À ç)(j:yq Ď éf=À ě)(h:∀n m,km ĸj=À (Šj,.fz .zE))(n m:Â) :jj ĸj=À (Šj,.fz .zE):=by rw[Ńo];simp only[ý,YM,o,i,l,j,Jr,h n m]
theorem ml{d:Ä}{v:Â}(f:d<ť)(n m:Â):jj [.fz Ĉj,sM Ws a b c hk hv n m]=À ([.fz Ĉj,sM Ľn a b c hk hv n m],.fz .zE):=by let e:zb ŀb ŀb=À ě:=rfl;rw[Ńo];simp only[ý,ur,qH,qI,e,Y1,YL,uD,uJ f,ua]
theorem mj{d:Ä}{v x:Â}(e:Ws[d]?=À x)(n m:Â):jj [.fz ĉj,sM Ws a b c hk hv n m]=À ([.fz ĉj,sM (ϳb d (x%65536+65536*v)) a b c hk hv n m],.fz .zE):=by
 let f:d<ť:=âd.1;let i:zb ļb ŀb=À ç:=rfl;let g:zb ļb ļb=À ě:=rfl;let h:wN 65536=Å:=by decide
 rw[Ńo];simp only[ý,uB,jt,ur,qH,qI,i,g,wJ e,h,Ř,Y1,YL,uD,uJ f,ua,ϲ]
theorem mh{d s:Ä}{x:Â}(i:d<ť)(e:Ws[s]?=À x)(n m:Â):jj [.fz ēd,sM Ws a b c hk hv n m]=À ([.fz ēd,sM (ϳb d x) a b c hk hv n m],.fz .zE):=by let h:zb õb ŀb=À ç:=rfl;let f:zb õb ļb=À ç:=rfl;let g:zb õb õb=À ě:=rfl;rw[Ńo];simp only[ý,uB,jt,ur,qH,qI,h,f,g,wJ e,Y1,YL,uD,uJ i,ua]
#print a
def sx{n0 n1 n2:Ç}(h:Jn n0 n1 n2){p0 p1 p2:Ä}:∀q∈[(n0,p0),(n1,p1),(n2,p2)],∃k:Â,vo ün Ðb=À Åa/\zD (.lst [.int (p0:Â),.int (p1:Â),.int (p2:Â)]) Åa=À ľb:=λq e=>by
 let d:∀x y:Ç,xi Ŭa (.str y)=(x==y):=λx y=>rfl
 let f:∀t:Ç,vo ün ϻd=(match xi (.str n0) ϻd with|Å=>À 0|Ã=>match xi (.str n1) ϻd with|Å=>À 1|Ã=>match xi (.str n2) ϻd with|Å=>À 2|Ã=>(Æ:Ê Ä)).bind λn=>À ĸc:=λt=>rfl
 let g:∀{x y:Ç},x≠y->(x==y)=Ã:=λ{x y} h=>by rw[ŝo]
 rcases ŋ e with rfl|e;show{0,?_,rfl};rw[f,d,ðb];rfl;rcases ŋ e with rfl|e;show{1,?_,rfl};rw[f,d,g h.a,d,ðb];rfl;cases ĸa e;show{2,?_,rfl};rw[f,d,g h.b,d,g h.c,d,ðb];rfl
nonrec def jN(r:D)(Ws:Á Â):Á Â:=match r with
 |.tup [_,_,.int s,.int n]=>[Ϻl%65536,Ϲl%65536,ϸl%65536,Ϸl%65536]|_=>[]
theorem Sg{u v:D}{s n:Â}{Ws:Á Â}:jN (.tup [u,v,.int s,.int n]) Ws=[Ϻl%65536,Ϲl%65536,ϸl%65536,Ϸl%65536]:=rfl
def GM(r:D)(Ws:Á Â)(ps:Á ó)(b:Á Â)(a:Á ó):È:=a=ps\/(b=Ws/\ϴ<=ü+4/\∀k∈a.map (·.1),k∈ķ (·.1)\/k∈jN r Ws)
def Q_{ps:Á ó}{a b:Â}:∀k∈(ųd).map (·.1),k∈ķ (·.1)\/k=a:=λk c=>by
 unfold xW at c
 split at c;rw[Iv]at c;show .inl c;rw[Ăa]at c;rcases Àb c with h|h;show .inl h;show .inr (ĸa h)
inductive V3:Ç->È
 |load:V3 Ħa |store:V3 ña |loadw:V3 Þa |storew:V3 Ýa
inductive ug:D->È
 |sum {k:Ç} {d s:Ä} (h:gZ k) (hd:d<8) (hs:s<8):ug ϳa
 |bits {k:Ç} {d s:Ä} (h:gS k) (hd:d<8) (hs:s<8):ug ϳa
 |copy {d s:Ä} (hd:d<8) (hs:s<8):ug ēd
 |set {d:Ä} {n:Â} (hd:d<8) (n0:0<=n) (n1:n<65536):ug Æg
 |high {d:Ä} {n:Â} (hd:d<8) (n0:0<=n) (n1:n<65536):ug Äg
 |left {d n:Ä} (hd:d<8) (hn:n<=31):ug (.tup [.str Ña,.int (d:Â),.int (n:Â)])
 |right {d n:Ä} (hd:d<8) (hn:n<=31):ug (.tup [.str Ða,.int (d:Â),.int (n:Â)])
 |mem {k:Ç} {d s:Ä} {n:Â} (h:V3 k) (hd:d<8) (hs:s<8) (n0:0<=n) (n1:n<256):ug (.tup [.str k,.int (d:Â),.int (s:Â),.int n])
def O9(r:D)(h:ug r):Hd r:=by
 cases h with
 |sum h hd hs=>cases h<;>show{.two é É É É É,_,rfl,rfl,rfl}|bits h hd hs=>cases h<;>show{.two é É É É É,_,rfl,rfl,rfl}|copy hd hs=>show{.two é É É É É,_,rfl,rfl,rfl}|set hd n0 n1=>show{.WR é É É n0 n1,_,rfl,rfl,rfl}|high hd n0 n1=>show{.WR é É É n0 n1,_,rfl,rfl,rfl}|left hd hn=>show{.WU é É É É É,_,rfl,rfl,rfl}|right hd hn=>show{.WU é É É É É,_,rfl,rfl,rfl}|mem h hd hs n0 n1=>cases h<;>show{.mem é É É É É n0 n1,_,rfl,rfl,rfl}
def Eo:XC GM ug:=λr E a b c ps h W U P hp=>by
 let C:∀{d:Ä},d<8->∃v,E[d]?=À v/\0<=v/\v<4294967296:=λ{d} G=>by
  let I:d<E.length:=by omega
  show{E[d],Ĳ I,U _ (ύb I)}
 let O:∀{w:Â},0<=w->w<4294967296->decide (w/2147483648%2=1)=decide Že:=λ{w} o A=>by by_cases z:2147483648<=w;rw[å z,å É];rw[đ z,đ É]
 let e:∀{d:Ä}{w:Â},0<=w->w<4294967296->∀v∈źa d w,0<=v/\v<4294967296:=λ{d w} o A v hm=>by rcases List.mem_or_eq_of_mem_set hm with z|z;show U v z;show z▸{o,A}
 let J:∀{d:Ä}{w:Â},(źa d w).length=8:=λ{d w}=>by rw[Ϻ];show W
 cases h with
 |@sum k d s h G hs=>
  rw[ţo];let{t,u,j,B}:=y3q (a:=a) h H K R y1;let o:0<=t%4294967296:=ăc _ Ì;let A:t%4294967296<4294967296:=òc _ Ì;generalize t%4294967296=w at j B o A
  have N:∀(k:Ç),gZ k->gW ķa=À (Ã,.tup Ĉc)->pV ķa=À (Ã,.tup Ĉc)->xt Ď ϋb=À ě->Y5 qx Ď=À ě->ĩ qx Tu ϩ=À jh->(∀D1,Zr Òj=À (Ã,.bl Ã))->zb ϳa ĸb=À ç->zb Ď ŀb=À ç->zb Ď ļb=À ç->zb Ď õb=À ç->yq Ď éf=À ç->
   BV GM ϳa E a b c ps:=λk h B j q1 q2 q3 q4 q5 Y X Z g4=>by
   let F:=gi (k:=k) q2 q3 tO rfl rfl (nE (b:=b) (c:=c) (hk:=kP ps) (hv:=vP ps) q1 f L j Xz);rw[O o A]at F;show{źa d w,_,_,_,ps,J,e o A,P,.inl rfl,F,XS Y X Z g4 rfl λn m=>dE (t:=Å) h q1 f L B,q4 _,q5,rfl}
  cases h with
  |add=>show N įa .add B j rfl rfl rfl Ģc rfl rfl rfl rfl rfl|addc=>show N ϩa .addc B j rfl rfl rfl Ģc rfl rfl rfl rfl rfl|sub=>show N ŷa .sub B j rfl rfl rfl Ģc rfl rfl rfl rfl rfl|subc=>show N ϧa .subc B j rfl rfl rfl Ģc rfl rfl rfl rfl rfl|test=>have F:=gi (k := Ĩa) rfl rfl tO rfl rfl (nF (b:=b) (c:=c) (hk:=kP ps) (hv:=vP ps) f L j Xz);rw[O o A]at F;show{E,_,_,_,ps,W,U,P,.inl rfl,F,XS rfl rfl rfl rfl rfl λn m=>dE (t:=Ã) .test rfl f L B,rfl,rfl,rfl}
 |@bits k d s h G hs=>
  rw[ţo];let{T,rfl}:=źb H;let{S,rfl}:=źb R;let hx:T<4294967296:=by omega
  let hy:S<4294967296:=by omega
  let o:0<=(uh k T S:Â):=İb _;let A:(uh k T S:Â)<4294967296:=œg (S_ h hx hy);let j:=z03 h (x:=T) (y:=S);let B:=lR h hx hy;generalize (uh k T S:Â)=w at o A j B
  obtain⟨q2,q3,q4,q5,Y,X,Z,g4⟩:Y5 qx Ď=À ě/\ĩ qx Tu ϩ=À Zo/\(∀D1,Zr Òj=À (Ã,.bl Ã))/\zb ϳa ĸb=À ç/\zb Ď ŀb=À ç/\zb Ď ļb=À ç/\zb Ď õb=À ç/\yq Ď éf=À ç:=by cases h<;>show{rfl,rfl,λ_=>rfl,rfl,rfl,rfl,rfl,rfl}
  let F:=gi (k:=k) q2 q3 tO rfl rfl (n4 (a:=a) (b:=b) (c:=c) (hk:=kP ps) (hv:=vP ps) f L j Xz);rw[O o A]at F;show{źa d w,_,_,_,ps,J,e o A,P,.inl rfl,F,XS Y X Z g4 rfl λn m=>y0f h f L B,q4 _,q5,rfl}
 |@copy d s G hs=>let{y,L,R,y1}:=C hs;show{źa d y,a,b,c,ps,J,e R y1,P,.inl rfl,gi (k := Ϩa) rfl rfl tO rfl rfl (n5 É L),λn m=>mh É L n m,rfl,rfl,rfl}
 |@set d n G n0 n1=>show{źa d n,a,b,c,ps,J,e n0 É,P,.inl rfl,gi (k := øa) rfl rfl tO rfl rfl (nB É),λi m=>ml É i m,rfl,rfl,rfl}|@high d n G n0 n1=>let{x,f,H,K}:=C G;show{źa d (x%65536+65536*n),a,b,c,ps,J,e É É,P,.inl rfl,gi (k := ĩa) rfl rfl tO rfl rfl (n8 f (x17 H K n0 n1)),λi m=>mj f i m,rfl,rfl,rfl}
 |@left d n G hn=>let{x,f,H,K}:=C G;let j:=z12 (n:=n) H K hn;let B:=z13 (n:=n) H K hn;let o:0<=x*2 ^ n%4294967296:=ăc _ Ì;let A:x*2 ^ n%4294967296<4294967296:=òc _ Ì;generalize x*2 ^ n%4294967296=w at o A j B;generalize decide ôg=u at j B;by_cases z:n=0;rw[Ò z]at j;let F:=gi (k := Ña) rfl rfl tO rfl rfl (Ac (a:=a) (b:=b) (c:=c) (hk:=kP ps) (hv:=vP ps) f Å rfl j Xz);rw[O o A]at F;show{źa d w,_,_,_,ps,J,e o A,P,.inl rfl,F,XS rfl rfl rfl rfl rfl λi m=>L4 (p:=Ã) Şn rfl rfl f B,rfl,rfl,rfl};rw[Ô z]at j;let F:=gi (k := Ña) rfl rfl tO rfl rfl (Ad (a:=a) (b:=b) (c:=c) (hk:=kP ps) (hv:=vP ps) f Å rfl j Xz);rw[O o A]at F;show{źa d w,_,_,_,ps,J,e o A,P,.inl rfl,F,XS rfl rfl rfl rfl rfl λi m=>L4 (p:=Å) Ťn rfl rfl f B,rfl,rfl,rfl}
 |@right d n G hn=>let{x,f,H,K}:=C G;let j:=y0j (x:=x) (n:=n);let B:=y0k (x:=x) (n:=n) hn;let o:0<=x/2 ^ n:=ţg H (Ϝc (Ow n));let A:x/2 ^ n<4294967296:=Int.lt_of_le_of_lt (Int.ediv_le_self _ H) K;generalize x/2 ^ n=w at o A j B;generalize decide Ŀg=u at j B;by_cases z:n=0;rw[Ò z]at j;let F:=gi (k := Ða) rfl rfl tO rfl rfl (Ac (a:=a) (b:=b) (c:=c) (hk:=kP ps) (hv:=vP ps) f Ã rfl j Xz);rw[O o A]at F;show{źa d w,_,_,_,ps,J,e o A,P,.inl rfl,F,XS rfl rfl rfl rfl rfl λi m=>L4 (p:=Ã) Şn rfl rfl f B,rfl,rfl,rfl};rw[Ô z]at j;rw[å (show 0<n by omega),Śd]at B;let F:=gi (k := Ða) rfl rfl tO rfl rfl (Ad (a:=a) (b:=b) (c:=c) (hk:=kP ps) (hv:=vP ps) f Ã rfl j Xz);rw[O o A]at F;show{źa d w,_,_,_,ps,J,e o A,P,.inl rfl,F,XS rfl rfl rfl rfl rfl λi m=>L4 (p:=Å) Ťn rfl rfl f B,rfl,rfl,rfl}
 |@mem k d s n h G hs n0 n1=>
  let{v,Q,v0,v1}:=C G;let{x,f,H,K}:=C hs;let I:d<E.length:=by omega
  let gx:E.getD ((s:Â)).toNat 0=x:=by rw[Ŕ,ėa,f];rfl
  cases h with
  |load=>have g:=j6 ϵa ēa;show{_,a,b,c,ps,J,e g.1 É,P,.inl rfl,IV (k := Ħa) rfl rfl tO (n9 I f),IS rfl rfl rfl rfl λp q=>z0w P Q f,rfl,rfl,rfl}|loadw=>have g0:=j6 ĳb ēa;let Y:=j6 Ϭc ēa;let X:=j6 ϙd ēa;let Z:=j6 Ăf ēa;show{_,a,b,c,ps,J,e É É,P,.inl rfl,IV (k := Þa) rfl rfl tO (nA P I f),IS rfl rfl rfl rfl λp q=>z0x P Q f,rfl,rfl,rfl}|store=>
   let l:=gC (ps:=ps) (a:=Òc%65536) (b:=v%256);refine{E,a,b,c,_,W,U,ZN P É É É É,.inr {rfl,by omega,λk hk=>?_},IV (k := ña) rfl rfl tO (nC É Q f),IS rfl rfl rfl rfl λp q=>z0y P É Q f,rfl,rfl,rfl};rcases Q_ k hk with z|z;rw[ło];right
   rw[Sg,gx,z];show ϟk (.inl ?_);omega
  |storew=>have P0:=ZN (a:=ϩl%65536) (b:=v%256) P É É É É;let P1:=ZN (a:=üe%65536) (b:=v/256%256) P0 É É É É;let P2:=ZN (a:=Ĝd%65536) (b:=v/65536%256) P1 É É É É;let P3:=ZN (a:=Çg%65536) (b:=v/16777216%256) P2 É É É É;let lw:(Õg).length<=ü+4:=Ĵ gC (üc (Ĵ gC (üc (Ĵ gC (üc gC)))));show{E,a,b,c,qC ps ϵa v,W,U,P3,.inr {rfl,lw,λk hk=>?_},IV (k := Ýa) rfl rfl tO (nD É Q f),IS rfl rfl rfl rfl λp q=>z0z P É Q f,rfl,rfl,rfl};rw[Sg,gx];rcases Q_ k hk with z|z;rcases Q_ k z with z|z;rcases Q_ k z with z|z;rcases Q_ k z with z|z;show .inl z;show .inr Że;show .inr Że;show .inr Że;show .inr Że
def DH:FS:=
 (zZ (yH 3 (εb (μ Īd)))
  (zZ (yH 4 (εb (μ (e2 yK Īd į))))
  (zZ (yH 5 (μ (e2 yK Īd Ÿb)))
  (zZ (yH 6 (e2 zD Ĺ (Μc (e2 yK Īd Ŀa))))
  (zZ (yH 7 (e2 zD ϩf (Μc (e2 yK Īd Åb))))
  (zZ (qh 8 (Ι (Ξ ŷe Ÿk) (zA (Ξ ĭl Ÿk) (zA (xr (Ω ßm Ďa)) (zA (Ξ īl Ĉm) (Α (Ξ űg (zA æa (Μ (e2 yZ ϫ Įf))))))))))
  (zZ (qE 8 (Ι (Ξ Ġj (Τa źe)) (zA (Ξ çi (Τa (e2 yZ ϫ (eC Àd)))) (Α (Ξ (e2 zD (yc (Ωd æi (Μ ϴd))) źe) (zA æa žm))))))
  (zZ (qE 8 (Ι (Ξ (e2 zD (yc (zA åi ϰi)) źe) (zA Ħ (zA ŗ (Α (ξc (e2 jQ ϫ Åb)))))) (Α (Ξ İf (zA æa (Μ (e2 yZ ϫ Įd)))))))
  (zZ (qE 8 (Ι (Ξ (Ζ (yc (zA (eC (.str Ϩa)) (zA Ĭl ŭk))) źe) Ĉm) (Α (e2 zD (yc (zA (xr (Μ Íd)) (Μ (Ξ ϴd (zA æa (zA æa zG)))))) (e2 yZ ϫ Ÿb)))))
  (zZ (ZJ 8) (yE (Ζ æe (e2 yZ ë ϝg)))))))))))))
def Uz:Á D->Ê í:=FR 3 9 DH
def rG(a b x2:D):Uz Ů=yP 9 DH Ů:=rfl
def Nb:FE:=(e2 yZ (zg vk (Τa (e2 yK Ŵl ŗb))) (e2 yK Ĺ į))
def GV:FA:=(ww û Ĺ)
def Nc:FE:=(zg Uz (zA (zg jG (η (e2 yK (e2 yK ă Ÿb) ŗb))) (zA ŗb ϭc)))
def DL:FS:=
 (zZ (yH 2 (e2 yK į (e2 yZ (zg jG ôh) ϝg)))
  (zZ (yH 3 (zg jG (η œd)))
  (zZ (yH 4 (uj T2 ĩc))
  (zZ (yH 5 (wU 1 ċm (yB 7) yy Nb))
  (zZ (yH 6 (wU 1 GV (yB 7) yy Nc))
  (yE (Ξ Ďa (zA ϫ ϭc))))))))
def T1:Á D->Ê í:=FR 2 7 DL
def rL(a b:D):T1 ð=yP 7 DL ð:=rfl
theorem eU:∀{l m:Á Â},l.Nodup->(∀x∈l,x∈m)->Ĕb<=ϱb
 | [],_,_,_=>Ϡ _|x::l,m,nd,h=>by
  rw[Đl]at nd;let a:=h x ŉ;have c:=eU (m:=m.erase x) nd.2 λy b=>(List.mem_erase_of_ne (λz=>nd.1 (by rw[<-z];show b))).mpr (h y ďb)
  rw[List.length_erase_of_mem a]at c;let:0<ϱb:=List.length_pos_of_mem a;rw[Ġ];omega
def il(r:D)(Ws:Á Â):(jN r Ws).length<=4:=by
 unfold jN
 split;show Üa _;show Ϡ _
theorem Si(Ws:Á Â):∀Õ:Á D,(rows.flatMap λr=>jN r Ws).length<=4*â
 | []=>Üa _|r::Õ=>by rw[List.flatMap_cons,Ă,Ġ];let:=il r Ws;let:=Si Ws Õ;omega
def Wz(W0:Á Â)(a:Á Â)(j i:Ä)(Ws:Á Â)(qs:Á ó):È:=∃z:Ä,ñf+4*z<=6+4*j/\((Ws=W0/\(∀k∈ľi (·.1),k∈a)/\(i=j\/1<=z))\/(1<=z/\(i=j\/2<=z)))
def so{W0 c:Á Â}{Õ:Á D}(m:∀r∈Õ,∀k∈jN r W0,k∈c){j i f:Ä}{Ws a:Á Â}{qs b:Á ó}{t:Ï}(h:Wz W0 c j i Ws qs)(T:Sc GM Õ Ws qs i a b f t):Wz W0 c ĉg f a b:=by let{z,l,h}:=h;rcases T with⟨rfl,rfl,rfl,rfl⟩|⟨rfl,T⟩;show{z,l,h};exact Wz W0 c éa f a b;rcases T with⟨⟨r,n,G⟩,rfl⟩|⟨rfl,rfl⟩;rcases G with rfl|⟨rfl,gl,gk⟩;refine{z+1,by omega,.inr {by omega,?_}};rcases h with⟨_,_,h⟩|⟨_,h⟩<;>omega;refine{z,by omega,?_};rcases h with⟨rfl,d,h⟩|⟨g,h⟩;show .inl {rfl,λk e=>?_,by omega};rcases gk k e with y|y;show d k y;show m r n k y;show .inr {g,by omega};refine{z+1,by omega,?_};rcases h with⟨rfl,d,h⟩|⟨g,h⟩;show .inl {rfl,d,.inr É};show .inr {by omega,.inr É}
def sj{W0 a:Á Â}{j i:Ä}{Ws:Á Â}{qs:Á ó}(h:Wz W0 a j i Ws qs)(Q:we qs)(d:ϴ<=54)(g:i<=12)(f:j<=16):ñf<64:=by let{z,c,h}:=h;rcases h with⟨_,b,_⟩|⟨e,h⟩;let:=eU Q.nd b;rw[æ]at this;omega;omega
def y0i{t:Ï}:Xa [.bl t]=À (Ηb éd):=rfl
def bW{x:Ç}:xt Ŭa Ŭa=À ç:=by exact À (Úc (!(x==x)))=_;rw[ðb];rfl
def i_{n0 n1 n2:Ç}{p0 p1 p2:Ä}(c k:Â):∃r,Uz [.int c,.int k,.lst Şc]=À (Ã,r)/\RJ åc ug r:=by
 let{J,C,a0,b0}:=um c (5*k);let{G,E,a1,b1}:=um c (5*k+1);let{f,v,a2,b2}:=um c (5*k+2);let{W,s,a3,b3}:=um c (5*k+3);let{v4,u,a4,b4}:=um c (5*k+4);obtain⟨e,Y,a⟩:∃e:Ä,J%8=(e:Â)/\e<8:={(J%8).toNat,by omega,by omega};obtain⟨g,R,b⟩:∃g:Ä,G%8=(g:Â)/\g<8:={(G%8).toNat,by omega,by omega};let{_,Z,q,rfl,z}:=YB (P:=λd=>∃q:Ç×Ä,d=.str q.1/\q∈[(n0,p0),(n1,p1),(n2,p2)]) W (n:=3) (l:=Şc) rfl Ì (xX {(n0,p0),rfl,by simp} (xX {(n1,p1),rfl,by simp} (xX {(n2,p2),rfl,by simp} Z_)));let{_,em,h,rfl,K}:=YB (P:=λd=>∃h:Ç,d=.str h/\(h = ąa \/ h = ϔa \/ h = ěb)) v4 (n:=3) (l:=ϧi) rfl Ì (xX {_,rfl,.inl rfl} (xX {_,rfl,.inr Ō} (xX {_,rfl,.inr ĉb} Z_)));let{_,I,wa,rfl,Q}:=YB (P:=λd=>∃w:Ç,d=.str w/\gZ w) f (n:=4) (l:=[.str įa,.str ϩa,.str ϧa,.str Ĩa]) rfl Ì (xX {_,rfl,.add} (xX {_,rfl,.addc} (xX {_,rfl,.subc} (xX {_,rfl,.test} Z_))));let{_,j,wm,rfl,p}:=YB (P:=λd=>∃w:Ç,d=.str w/\V3 w) f (n:=4) (l:=ųi) rfl Ì (xX {_,rfl,.load} (xX {_,rfl,.store} (xX {_,rfl,.loadw} (xX {_,rfl,.storew} Z_))));let{_,H,wc,rfl,U}:=YB (P:=λd=>∃w:Ç,d=.str w/\ug (.tup [.str w,.int (e:Â),.int (g:Â)])) f (n:=4) (l:=[.str Ϩa,.str Įa,.str ŗa,.str äb]) rfl Ì (xX {_,rfl,.copy a b} (xX {_,rfl,.bits .and a b} (xX {_,rfl,.bits .or a b} (xX {_,rfl,.bits .xor a b} Z_))));let{L,B,A}:=YB (P:=RJ åc ug) f (n:=2) (l:=[.tup Ϲm,.tup [.str Ĩa,.int (e:Â),.int (e:Â)]]) rfl Ì (xX .stop (xX (Βa (.sum .test a a)) Z_));obtain⟨o,i,t⟩:∃o:Ä,f%4=(o:Â)/\o<=31:={(f%4).toNat,by omega,by omega};obtain⟨m,y,x⟩:∃m:Ä,f%32=(m:Â)/\m<=31:={(f%32).toNat,by omega,by omega};rw[i]at I j H
 let{F,N,T}:=YB (P:=RJ åc ug) c (n:=12) (l:=[.tup [.str ãa,.str h,.str q.1],.tup [.str ğa,.str h,.str q.1],.tup ğj,.tup [.str ŷa,.int (e:Â),.int (g:Â)],.tup [.str øa,.int (e:Â),.int (f%5)],.tup [.str Ða,.int (e:Â),.int (o:Â)],.tup [.str Ña,.int (e:Â),.int (m:Â)],.tup [.str wa,.int (e:Â),.int (g:Â)],.tup [.str wm,.int (e:Â),.int (g:Â),.int (f/4%256)],.tup [.str ĩa,.int (e:Â),.int (f%65536)],.tup [.str wc,.int (e:Â),.int (g:Â)],L]) rfl Ì
  (xX (.cond Ō K z) (xX (.cond ĉb K z) (xX (.Uh z) (xX (Βa (.sum .sub a b)) (xX (Βa (.set a É É)) (xX (Βa (.right a t)) (xX (Βa (.left a x)) (xX (Βa (.sum Q a b)) (xX (Βa (.mem p a b É É)) (xX (Βa (.high a É É)) (xX (.plain U) (xX A Z_))))))))))))
 show{F,?_,T};let l1:wN 5=Å:=by decide
 let O:8<=yW:=by decide
 let X:10<=yW:=by decide
 let S:12<=yW:=by decide
 rw[rG];unfold DH;simp only[Ú,qE,Ř,l1,C,E,v,s,u,Y,R,Z,em,i,y,I,j,H,B,Ò O,Ò X,Ò S,N,ϲ]
theorem nG(ns:Á Â):∃(n:Ä) (n0 n1 n2:Ç) (p0 p1 p2:Ä) (Õ:Á D),1<=n/\n<=12/\Jn n0 n1 n2/\p0<=n/\p1<=n/\p2<=n/\â=n/\(∀r∈Õ,RJ åc ug r)/\T1 [.lst Ľa,.int 3]=À (Ã,.tup [.lst Õ,.lst (wI ĝe),.lst Şc]):=by
 let R:=XR ns (k:=3) Ì;let E:=XR ns (k:=4) Ì;let{n0,n1,n2,o,N}:=z2d ϝd;obtain⟨n,O,m,s⟩:∃n:Ä,1+qw ns 3%12=(n:Â)/\1<=n/\n<=12:={(1+qw ns 3%12).toNat,by omega,by omega,by omega};let J:∀τ:zx,ww û Ŀa τ=À śi:=λτ=>tJ (n:=3) rfl Ì
 generalize hNS:ųa Ě=NS at *;generalize hNM:Ćd Şc=NM at *
 let{C,H,T,b}:=ED (g:=yB 7) (e:=Nb) (σ:=[À (Ã,.lst NS),À (Ã,.int 3),À (Ã,.int (n:Â)),À (Ã,.int ϝd),À (Ã,NM),Æ,Æ,Æ]) (λv=>0<=v/\v<=n) (ds:=yb 3) λd q=>by let{k,_,rfl}:=ū q;let{v,P,Z,Y}:=um ϝd (40+(k:Â));show{_,v%((n:Â)+1),rfl,?_,ăc _ É,by let:=òc v (show 0<(n:Â)+1 by omega);omega};let z:decide (0<(n:Â)+1)=Å:=å É;unfold Nb;simp only[Ú,Ř,P,z]
 obtain⟨p0,p1,p2,p,W,U,S⟩:∃p0 p1 p2:Ä,C=ĝe/\p0<=n/\p1<=n/\p2<=n:=by
  match C,T,b with
  | [x,y,z],_,b=>have K:=b x é;let Q:=b y é;let I:=b z é;show{x.toNat,y.toNat,z.toNat,?_,by omega,by omega,by omega};rw[ĝg K.1,ĝg Q.1,ĝg I.1]
 subst p;generalize hPL:wI ĝe=PL at *
 let{Õ,c,F}:=b9 (g:=yB 7) (e:=Nc) (σ:=[À (Ã,.lst NS),À (Ã,.int 3),À (Ã,.int (n:Â)),À (Ã,.int ϝd),À (Ã,NM),À (Ã,.lst PL),Æ,Æ]) (λ_ x=>RJ åc ug x) (ds:=yb n) λd q=>by let{k,_,rfl}:=ū q;let G:=XR ns (k:=5+(k:Â)) É;rw[hNS]at G;let{r,c,A}:=i_ (n0:=n0) (n1:=n1) (n2:=n2) (p0:=p0) (p1:=p1) (p2:=p2) (qw ns (5+(k:Â))) (k:Â);rw[hNM]at c;show{_,r,rfl,?_,A};unfold Nc;simp only[Ú,Ř,G,c]
 have a:â=n:=by rw[<-Ag F,æ,şa]
 let A:∀r∈Õ,RJ åc ug r:=λr X=>by let{x,_,h}:=Ah F r X;show h
 let B:∀{t u l j i w:Ê Sl},GV Čj=À ņc:=λ{t u l j i w}=>by unfold GV;let:=tJ (f:=z6 2) (τ:=Čj) (n:=(n:Â)) rfl É;rw[Ŕ]at this;show this
 let L:jG [.lst NS,.int (3+1)]=À (Ã,.int ϝd):=E;show{n,n0,n1,n2,p0,p1,p2,Õ,m,s,N,W,U,S,a,A,?_};rw[hNM,hPL,rL];unfold DL;simp only[Ú,R,E,o,Ř,O,J,H,B,c,ϲ]
def lJ:FS:=
 (zZ (xB (tE (e2 zb ă (eC ŕh)))
   (yE (xr (Μa (Α (χa (vG Fg Fm))))))
   xS)
  (yE (e1 ńg ă)))
def vm:Á D->Ê í:=FR 2 2 lJ
def Di:FS:=
 (yE (zg ku (ζ (zA ša (zA Ýc ϋc)))))
def jk:Á D->Ê í:=FR 3 3 Di
def sC(a b x2:D):jk Ů=yP 3 Di Ů:=rfl
def NW{x l d n:Â}(h:Üg/\0<=n/\n<2 ^ ľc):jk ϯj=À (Ã,.int ϵf):=by let b:zD ën Ķ=À (.int l):=rfl;let a:zD ën ώ=À Ĺf:=rfl;rw[sC];unfold Di;simp only[Ú,b,a,fQ h]
def x1c:FE:=ă
def x1g:FT:=(tE (e2 xt ă (eC āg)))
def lE:FS:=
 (qG (wU 1 (tz (χa (vG Ff Fk))) Ĭa x1g x1c))
def t5:Á D->Ê í:=FR 1 1 lE
def QU:FS:=(zZ (yH 5 (tq (tE (e2 zb Ħ (eC ěa))) (e1 (Io Xg) ŗ) ŗ))
    (yH 2 (zg jk (Ψ (zA (zg vm (zA ϊa ĩc)) řn)))))
def XN:FS:=
 (zZ (yH 2 (zg jk (Μa (zA Ãl ăa))))
  (zZ (qF (jS (uj t5 śn) (XX ë (k7 į) k6)) (jw 3 4)
   QU)
  (yE Ĺ)))
def pT:Á D->Ê í:=FR 2 6 XN
def Q8(a b:D):pT ð=yP 6 XN ð:=rfl
def Qh{c:Â}(a:0<=c)(b:c<32):jk [.int 0,.tup él,.int c]=À (Ã,.int Õm):=by rw[NW (x:=0) (l:=27) (d:=5) (n:=c) {by decide,a,b}];simp
def YJ{x l d n m:Â}(a:0<=l/\l<64)(b:0<=d/\d<64)(c:0<=x)(n0:0<=n)(n1:n<2 ^ ľc)(hz:x/2 ^ l.toNat%2 ^ ľc=0)(e:m=2 ^ l.toNat):jk ϯj=À (Ã,.int (x+n*m)):=by rw[NW {{c,a.1,a.2,b.1,b.2},n0,n1},hz,e,ñm]
theorem FZ{c:Â}(b:0<=c)(g:c<32){w:Ç}(e:t5 ϴb=À (Å,.lst [])):pT [.tup ϴb,.int c]=À (Ã,.int Õm):=by
 let f:vG qW qX ĝc=À ŧc:=by rfl
 let d:=Qh b g;let a:VO (.tup ϴb) Îe Æ=À Ϟh:=by rfl
 rw[ńo];simp only[Ú,f,d,QT,e,jS,XX,k7,k6,a,ZM,Ĵd]
theorem nX{w:Ç}{c W d n:Â}(j:t5 ϴb=À (Å,.lst ŀk))(o:vm ĸg=À (Ã,.tup Žc))(p:vm Ϫk=À (Ã,.tup ĕl))(i:0<=c)(r:c<32)(v:0<=W)(y:W<=16)(t:0<=d)(e:d<8)(n0:0<=n)(n1:n<2 ^ Øb)(h:(2:Â) ^ Øb ∣ 16777216) :pT [.tup ϥi,.int c]=À (Ã,.int (c*134217728+d*16777216+n)):=by
 rw[ſo]
 let u:=Qh i r;let f:=YJ (x:=c*134217728) (l:=24) (d:=3) (n:=d) (m:=16777216) Ì Ì É t e Âg Ì
 have s:=YJ (x:=c*134217728+d*16777216) (l:=0) (d:=W) (n:=n) (m:=1) Ì {v,by omega} É n0 n1 (by exact(c*134217728+d*16777216)/1%2 ^ Øb=0;rw[Ëb];let{k,a}:=h;rw[show c*134217728+d*16777216=2 ^ Øb*(k*(8*c+d)) by rw[<-Ϟl,<-a];omega];show ŧk _ _) Ì
 let b:zb Ŗh ěa=À ç:=by rfl
 let q:zb ŕh ěa=À ç:=by rfl
 let g:VO őh Îe Æ=À (.tup [.int d,.int n]):=by rfl
 rw[ńo];simp only[Ú,a,u,QT,j,jS,XX,k7,k6,g,ZM,êc,Ĵd,QU,b,q,o,f,p,s,Ϲe]
theorem nY{w:Ç}{c d s:Â}(r:t5 ϴb=À (Å,.lst Ŀk))(e:vm ĸg=À (Ã,.tup Žc))(t:vm ϩk=À (Ã,.tup ũe))(q:0<=c)(i:c<32)(h:0<=d)(k:d<8)(v:0<=s)(j:s<8) :pT [.tup ăe,.int c]=À (Ã,.int Ħj):=by
 let b:vG qW qX ĝc=À ŧc:=by rfl
 let u:=Qh q i;let o:=YJ (x:=c*134217728) (l:=24) (d:=3) (n:=d) (m:=16777216) Ì Ì É h k Âg Ì;let g:=YJ (x:=c*134217728+d*16777216) (l:=21) (d:=3) (n:=s) (m:=2097152) Ì Ì É v j Ϸi Ì;let a:zb Ŗh ěa=À ç:=by rfl
 let f:zb ön ěa=À ç:=by rfl
 let p:VO äf Îe Æ=À (.tup [.int d,.int s]):=by rfl
 rw[ńo];simp only[Ú,b,u,QT,r,jS,XX,k7,k6,p,ZM,êc,Ĵd,QU,a,f,e,o,t,g]
theorem nZ{w:Ç}{c d s n:Â}(v:t5 ϴb=À (Å,.lst şj))(f:vm ĸg=À (Ã,.tup Žc))(y:vm ϩk=À (Ã,.tup ũe))(g:vm Ϫk=À (Ã,.tup Ėl))(u:0<=c)(k:c<32)(j:0<=d)(p:d<8)(A:0<=s)(o:s<8)(n0:0<=n)(n1:n<256) :pT [.tup ϯi,.int c]=À (Ã,.int (c*134217728+d*16777216+s*2097152+n)):=by
 let e:vG qW qX ĝc=À ŧc:=by rfl
 let z:=Qh u k;let q:=YJ (x:=c*134217728) (l:=24) (d:=3) (n:=d) (m:=16777216) Ì Ì É j p Âg Ì;let i:=YJ (x:=c*134217728+d*16777216) (l:=21) (d:=3) (n:=s) (m:=2097152) Ì Ì É A o Ϸi Ì;let b:=YJ (x:=c*134217728+d*16777216+s*2097152) (l:=0) (d:=8) (n:=n) (m:=1) Ì Ì É n0 n1 (by exact Ħj/1%256=0;omega) Ì;let a:zb Ŗh ěa=À ç:=by rfl
 let h:zb ön ěa=À ç:=by rfl
 let t:zb ŕh ěa=À ç:=by rfl
 let r:VO ín Îe Æ=À (.tup [.int d,.int s,.int n]):=by rfl
 rw[ńo];simp only[Ú,e,z,QT,v,jS,XX,k7,k6,r,ZM,êc,Ĵd,QU,a,h,t,f,q,y,i,g,b,Ϲe]
theorem A_{c m:Â}{w k:Ç}(i:t5 ϴb=À (Å,.lst Ûf))(g:vm Ϩk=À (Ã,.tup Ũe))(a:Io Xg Ď=À ķf)(m0:0<=m)(p:m<3)(h:0<=c)(o:c<32):pT [.tup Ĕl,.int c]=À (Ã,.int (c*134217728+m*16777216)):=by
 let j:vG qW qX ĝc=À ŧc:=by rfl
 let f:=Qh h o;let b:=YJ (x:=c*134217728) (l:=24) (d:=2) (n:=m) (m:=16777216) Ì Ì É m0 (by exact m<4;omega) (by exact c*134217728/16777216%4=0;omega) Ì;let e1:zb ěa ěa=À ě:=by rfl
 let e:VO (.tup Ĕl) Îe Æ=À (.tup Þb):=by rfl
 rw[ńo];simp only[Ú,j,f,QT,i,jS,XX,k7,k6,e,ZM,êc,Ĵd,QU,e1,a,g,b]
def DY:FS:=
 (yE (zg wG (ζ (zA ša (Α Ýc)))))
def gX:Á D->Ê í:=FR 2 2 DY
def rZ(a b:D):gX ð=yP 2 DY ð:=rfl
def D0:FS:=
 (yE (zg gX (η Ãl)))
def gU:Á D->Ê í:=FR 1 1 D0
def oh(a:D):gU [a]=yP 1 D0 [a]:=rfl
def x1d:FE:=Ĺ
def x1h:FT:=(Γc (vG gn gr))
def x1e:FE:=Ĺ
def x1i:FT:=(Γc (vG Xf Y9))
def x1f:FE:=Ĺ
def x1j:FT:=(Γc (vG Xe Y8))
def lH:FS:=
 (zZ (qh 1 (wU 1 (iG gn) Êc x1h x1d))
  (zZ (qE 1 (wU 1 (iG Xf) Êc x1i x1e))
  (zZ (qE 1 (wU 1 (iG Xe) Êc x1j x1f))
  (zZ (ZJ 1) (yE (tq (tE (e2 zb ă Ðe)) Ņa ša))))))
def Wr:Á D->Ê í:=FR 1 2 lH
def lG:FS:=
 (νd (.lst Y9))
def kj:Á D->Ê í:=FR 1 1 lG
def lF:FS:=
 (νd (.lst Y8))
def Zp:Á D->Ê í:=FR 1 1 lF
def Jx:FS:=
 (zZ (yH 3 (zg gX (η (zg vm (ω ïh)))))
  (zZ (xB (tE (e2 xt Ĺ (eC ěa)))
   Èi
   xS)
  (yE (tq (tE (e2 ϛb Ħ (eL vH (Α ţf)))) (e2 zD ţf Ħ) Ņa))))
def qM:Á D->Ê í:=FR 3 4 Jx
def aO(a b x2:D):qM Ů=yP 4 Jx Ů:=rfl
def Yb:FE:=(zg qM (ζ (Ψ řn)))
def Dd:FS:=
 (zZ (yH 1 (zg gU ŕd))
  (zZ (yH 2 (zg Wr ăa))
  (zZ (xB Ģk
   Êd
   xS)
  (zZ (yH 3 (eL Z5 (Ωb (yc ïh) (wU 1 (tz (uj t5 ïh)) ģb yy Yb))))
  (zZ (xB (tE (e2 yq Ņa Ħ))
   Êd
   xS)
  (zZ (yH 4 (tq (tE (zg kj ăa)) (zg jk (ζ (zA (e1 (vG qW qX) (eC şe)) Ăg))) ë))
  (yE (tq (tE (e2 zb (zg pT (zA Ħ ăa)) ŗ)) Ħ Ņa))))))))
def pU:Á D->Ê í:=FR 1 5 Dd
def rj(a:D):pU [a]=yP 5 Dd [a]:=rfl
def De:FS:=
 (zZ (yH 2 Ĵl)
  (yE (tq (tE (e2 ϛb (e2 ve ņa ë) Ĺ)) ë (e2 q_ ë Ĺ))))
def Zs:Á D->Ê í:=FR 2 3 De
def rl(a b:D):Zs ð=yP 3 De ð:=rfl
def DA:FS:=
 (zZ (xB (tE (e2 ñh œd èb))
   Êd
   xS)
  (Ξc (zA (e2 yK ă ņa) (ηd (zA (ι œd) (zA õc zG))))))
def Ux:Á D->Ê í:=FR 3 3 DA
def rA(a b x2:D):Ux Ů=yP 3 DA Ů:=rfl
def VD:FS:=
 (zZ (xB (ηc (e2 ϛb ă û) (e2 ñh ă èb))
   Êd
   xS)
  (zZ (yH 2 (zg pU ϑh))
  (zZ (xB Ģk
   Êd
   xS)
  (zZ (yH 3 (zg gU ϑh))
  (zZ (xB (tE (zg Zp ĩc))
   (yE (zg Ux (ζ (zA ă ϋc))))
   xS)
  (zZ (xB (tE (zg kj ĩc))
   (zZ (yH 4 (e1 ńg (eC şe)))
    (Ξc (zA œd (ηd (zA (zg gX (zA Ĭe žm)) (Μ įl))))))
   xS)
  (Ξc (zA œd (Α Ņa)))))))))
def pW:Á D->Ê í:=FR 2 5 VD
def O2(a b:D):pW ð=yP 5 VD ð:=rfl
def Oe{x l W:Â}(c:0<=l)(e:0<=W)(b:W<64):gX [.int x,.tup ēg]=À (Ã,.int úg):=by
 let a:zD ên Ķ=À (.int l):=rfl;let d:zD ên ώ=À (.int W):=rfl;let e1:=Qg (i:=1) (j:=W) e b Ì Ì
 let p:wG [.int x,.int l,.int W]=À (Ã,.int úg):=by rw[aT];unfold IA;simp only[Ú,e1,å c,Eu]
 rw[rZ];unfold DY;simp only[Ú,a,d,p]
theorem VH{x:Â}(c:0<=x)(b:x<4294967296):gU ŏa=À (Ã,.int (x/134217728)):=by
 rw[ſo]
 let n:gX [.int x,.tup él]=À (Ã,.int (x/134217728%32)):=Oe Ì Ì Ì;rw[show x/134217728%32=x/134217728 by omega]at n;rw[oh];unfold D0;simp only[Ú,a,n]
nonrec def k4:Á D:=[.str şb,.str øa,.str ĩa,.str Ϩa,.str įa,.str ϩa,.str ŷa,.str ϧa,.str Įa,.str ŗa,.str äb,.str Ĩa,.str Ña,.str Ða,.str Ħa,.str ña,.str Þa,.str Ýa,.str àa,.str ãa,.str ğa,.str àa,.str ãa,.str ğa]
theorem z0f:(ϵb).map (λc:Ä=>Wr ϓg)=(ϵb).map λc=>À (Ã,ĝb c .zE):=by kernel_rfl
def z2h:(ϵb).map (λc:Ä=>kj ϓg)=(ϵb).map λc=>À (Ã,.bl (decide (18<=c)&&decide (c<=20))):=by kernel_rfl
def nQ:(ϵb).map (λc:Ä=>Zp ϓg)=(ϵb).map λc=>À (Ã,.bl (decide (21<=c)&&decide (c<=23))):=by kernel_rfl
def Ej{f g:Ä->Ê í}(h:(ϵb).map f=(ϵb).map g){n:Ä}(a:n<32):f n=g n:=by let e:=Ϣ (λl=>l[n]?) h;simp only[Ş,Ńe a,Űe]at e;show āa e
def Cw{n:Ä}(h:n<32):Wr ώe=À (Ã,ĝb n .zE):=Ej z0f h
def Qb{n:Ä}(h:n<32):kj ώe=À (Ã,.bl (decide (18<=n)&&decide (n<=20))):=Ej z2h h
def FX{n:Ä}(h:n<32):Zp ώe=À (Ã,.bl (decide (21<=n)&&decide (n<=23))):=Ej nQ h
def Xm{x l W:Â}{k f:Ç}(b:vm [.str k,.str f]=À (Ã,.tup ēg))(e:xt (.str f) ěa=À ě)(a:0<=l)(d:0<=W)(c:W<64):qM [.int x,.str k,.str f]=À (Ã,.int úg):=by let n:=Oe (x:=x) a d c;rw[aO];unfold Jx;simp only[Ú,b,n,e]
nonrec def bL:Á D:=[.str ąa,.str ϔa,.str ěb,.zE]
theorem sJ{x:Â}{k:Ç}(a:vm [.str k,.str Ēb]=À (Ã,.tup Ũe)):qM [.int x,.str k,.str Ēb]=À (Ã,bL.getD (Ūl).toNat .zE):=by
 let n:gX [.int x,.tup Ũe]=À (Ã,.int Ūl):=Oe Ì Ì Ì;let b:xt ěa ěa=À ç:=by rfl
 rw[aO];unfold Jx;rcases(show x/16777216%4=0\/x/16777216%4=1\/x/16777216%4=2\/x/16777216%4=3 by omega)with e|e|e|e<;>rw[e]at n ⊢;let i:zD jy Ķ=À Ĥc:=rfl;rw[Ło];let i:zD jy ώ=À çf:=rfl;rw[Ło];let i:zD jy Ŝa=À åf:=rfl;rw[Ło];simp only[Ú,a,n,b];rfl
def Gd{x c Z a:Â}{b:Ï}{k:Ç}{fs R:Á D}(h:gU ŏa=À (Ã,.int c))(hk:Wr Ėb=À (Ã,.str k))(i:t5 Þb=À (Å,.lst fs))(g:xF ģb yy Yb [À (Ã,.int x),À (Ã,.int c),À (Ã,.str k),Æ,Æ,Æ] fs=À R)(m:yq .zE ϱc=À ç)(q:ıc<=3)(d:kj Ėb=À (Ã,.bl b))(n:b=Å->jk ϰj=À (Ã,.int a))(p:b=Ã->a=x)(hz:pT [.tup ìc,.int c]=À (Ã,.int Z)) :pU ŏa=À (Ã,if Z=a then .tup ìc else .zE):=by
 let l:yK (.lst Þb) (.lst R)=À (Δ (.str k::R)):=by rw[ij (by simp only[Ġ,ϐc];omega)];rfl
 let o:Z5 [.lst ìc]=À ϱc:=rfl;let j:vG qW qX şe=À Œh:=by rfl
 let f:zb (.int Z) ĺf=À (ηa (Z=a)):=by by_cases e:Z=a;rw[Xo e,å e];rw[YA e,đ e]
 rw[rj];unfold Dd;cases b with
 |Å=>have n:=n rfl;by_cases e:Z=a;rw[Ò e];rw[å e]at f;simp only[Ú,h,hk,i,g,l,o,m,d,j,n,hz,f];rw[Ô e];rw[đ e]at f;simp only[Ú,h,hk,i,g,l,o,m,d,j,n,hz,f]|Ã=>obtain rfl:x=a:=(p rfl).symm;by_cases e:Z=x;rw[Ò e];rw[å e]at f;simp only[Ú,h,hk,i,g,l,o,m,d,j,hz,f];rw[Ô e];rw[đ e]at f;simp only[Ú,h,hk,i,g,l,o,m,d,j,hz,f]
theorem eF{n W:Â}(e:0<=W)(d:W<64):Zs [.int n,.int W]=À (Ã,.int (if 2*n<2 ^ Øb then n else n-2 ^ Øb)):=by
 let e1:=Qg (i:=1) (j:=W) e d Ì Ì;let b:wN 2=Å:=by decide
 rw[rl];unfold De;by_cases c:2*n<2 ^ Øb;rw[Ò c];let a:decide ľl=Å:=å É;simp only[Ú,e1,b,a];rw[Ô c];let a:decide ľl=Ã:=đ É;simp only[Ú,e1,b,a,đ c,ϥc]
theorem y7d{ws:Á D}{a:Â}(h:a<0\/(Ϛa:Â)<=a):pW ŧe=À (Ã,.zE):=by
 rw[Ųo];by_cases c:a<0;simp only[Ú,å c];let d:(Ϛa:Â)<=a:=by omega
 simp only[Ú,đ c,å d]
structure At(ws:Á D)(a x:Â):È where
 a0:0<=a
 a1:a<(Ϛa:Â)
 ix:zD Đb ĺf=À Ňa
 x0:0<=x
 x1:x<4294967296
section
variable{ws:Á D}{a x:Â}(A:At ws a x)
include A
theorem At.cond{α:Type}:decide (a<0)=Ã/\decide ((Ϛa:Â)<=a)=Ã/\decide (0<=a)=Å/\decide (a<(Ϛa:Â))=Å:=by let{c,b,_,_,_}:=A;show{đ É,đ É,å c,å b}
theorem y7e{c:Â}{R:Á D}(h:gU ŏa=À (Ã,.int c))(d:Zp Ėb=À (Ã,.bl Ã))(e:kj Ėb=À (Ã,.bl Ã))(f:pU ŏa=À (Ã,.tup R)) :pW ŧe=À (Ã,.tup [.tup R,.int (a+1),.zE]):=by let{i,b,_,_}:=ŗi (α:=Ä);let g:=A.ix;rw[Ųo];simp only[Ú,i,b,g,f,h,d,e,Ř]
theorem y7c{c:Â}{R:Á D}(j:gU ŏa=À (Ã,.int c))(d:Zp Ėb=À (Ã,.bl Ã))(f:kj Ėb=À (Ã,.bl Å))(g:pU ŏa=À (Ã,.tup R)) :pW ŧe=À (Ã,.tup [.tup R,.int (a+1),.int (a+će)]):=by
 rw[Śo];let e:vG qW qX şe=À Œh:=by rfl
 let n:gX [.int x,.tup Óg]=À (Ã,.int (x/1%32)):=Oe Ì Ì Ì;rw[Ëb]at n;let s:Zs [.int (x%32),.int 5]=À (Ã,.int će):=eF Ì Ì;let h:zD Œh ώ=À Ğc:=rfl;rw[Ųo];generalize će=S at s ⊢;simp only[Ú,k,b,i,g,j,d,f,e,n,h,s,Ř]
theorem y7b{c:Â}{R:Á D}(j:gU ŏa=À (Ã,.int c))(f:Zp Ėb=À (Ã,.bl Å))(g:pU ŏa=À (Ã,.tup R)){y:Â}(h:zD Đb (Β (a+1))=À (.int y))(l:a+1<(Ϛa:Â)) :pW ŧe=À (Ã,.tup įj):=by
 rw[Śo];let s:Zs [.int y,.int 32]=À (Ã,.int Ϭf):=eF Ì Ì;let d:decide ((Ϛa:Â)<=a+1)=Ã:=đ É
 let e:Ux [.lst ws,.int a,.tup R]=À (Ã,.tup įj):=by rw[rA];unfold DA;generalize Ϭf=S at s ⊢;simp only[Ú,Ř,d,h,s]
 rw[Ųo];simp only[Ú,k,b,i,g,j,f,e]
#print a
def EA:FS:=(zZ (jZ 1 Ĺ Ħ)
    (zZ (yH 2 Ŵg)
    Ÿj))
def IG:FT:=(tE (e2 VM Ħ Ņa))
def Dh:FS:=
 (zZ Ùn
  (zZ (yH 2 û)
  (zZ Ÿj
  (zZ (Ge IG
   EA)
  ύf))))
def Wy:Á D->Ê í:=FR 1 4 Dh
def sB(a:D):Wy [a]=yP 4 Dh [a]:=rfl
def NX:FE:=Ýc
def Bw:FS:=
 (yE (e2 FP (wU 1 (Vb 0) Ĭa yy NX) û))
def Up:Á D->Ê í:=FR 1 1 Bw
def oX(a:D):Up [a]=yP 1 Bw [a]:=rfl
def EB:FS:=(zZ (yH 5 (e2 zD ŗ ņa))
    (xB (LI (tE (e2 VM ϫ Ņa)) (LI (tE (e2 xt ϫ Ĺ)) (tE (e2 jv ϫ ă))))
     Èi
     xS))
def Dk:FS:=
 (zZ (yH 1 ύm)
  (zZ (yH 2 (zg Up ăa))
  (zZ (xB (tE (e2 xt Ĺ èb))
   (yE Ĺ)
   xS)
  (zZ (qF (Va 1) (jw 3 4)
   EB)
  Êd))))
def TB:Á D->Ê í:=FR 1 6 Dk
def sE(a:D):TB [a]=yP 6 Dk [a]:=rfl
def Df:FS:=
 (zZ (yH 1 (zg TB ŕd))
  (zZ (xB (tE (e2 VM ă Ņa))
   Ïb
   xS)
  (qG ύm)))
def X6:Á D->Ê í:=FR 1 2 Df
def rq(a:D):X6 [a]=yP 2 Df [a]:=rfl
nonrec def tA(A:Ä->Â):Ê Ä->D
 |Æ=>.zE|À p=>.int (A p)
structure Tb(ws:Á D)(n:Ä)(A:Ä->Â)(b:Ä->D)(tg:Ä->Ê Ä):È where
 up:∀i,i<n->A i<A õ
 z:A 0=0
 e:A n=(Ϛa:Â)
 told:∀i,i<n->pW Ũk=À (Ã,.tup ŉj)
 fin:pW [.lst ws,.int Óc]=À (Ã,.zE)
 le:∀i p,i<n->tg i=À p->p<=n
 Ja:n<=400
def tS(A:Ä->Â)(b:Ä->D)(tg:Ä->Ê Ä)(i:Ä):D:=.tup ŉj
nonrec def xR(A:Ä->Â)(n:Ä):Á Ą:=(ßd).map λi=>.inl ħb
def xg(A:Ä->Â)(b:Ä->D)(tg:Ä->Ê Ä)(n:Ä):Á D:=(ßd).map (tS A b tg)
def z9d{ks:Á Ą}{vs:Á D}{k:Sum Â Ç}{v:D}(h:vJ ks k=Ã):vM ks k=ks++[k]/\xV ks vs k v=vs++[v]:=by unfold vM xV;rw[h];rw[ϗo]
def z0s(A:Ä->Â)(n:Ä):xR A ĸ=xR A n++[.inl Óc]:=by unfold xR;rw[Ųe,Ăa];rfl
def y9f(A:Ä->Â)(b:Ä->D)(tg:Ä->Ê Ä)(n:Ä):xg A b tg ĸ=xg A b tg n++[tS A b tg n]:=by unfold xg;rw[Ųe,Ăa];rfl
def z0r(A:Ä->Â)(n:Ä):(òa).length=n:=by unfold xR;rw[æ,şa]
theorem b6{A:Ä->Â}{n:Ä}{x:Â}:vJ òa ïi=Å↔∃i,i<n/\A i=x:=by
 unfold vJ xR;rw[őg]
 rw[Ůo];rintro⟨k,b,e⟩;let{i,a,rfl}:=ū b;show{i,Ļb a,ϔb (ī e)};rintro⟨i,a,rfl⟩;show{_,ŏg {i,Ľd a,rfl},å rfl}
section
variable{ws:Á D}{n:Ä}{A:Ä->Â}{b:Ä->D}{tg:Ä->Ê Ä}(T:Tb ws n A b tg)
include T
theorem Tb.lt{i j:Ä}(h:i<j)(a:j<=n):A i<A j:=by
 induction j with
 |ϛ=>omega|Ϝ j ih=>have u:=T.up j É;by_cases e:i=j;rw[e];show u;let:=ih É É;omega
theorem Tb.inj{i j:Ä}(b:i<=n)(a:j<=n)(e:A i=A j):i=j:=by rcases Nat.lt_trichotomy i j with h|h|h;let:=T.lt h a;omega;show h;let:=T.lt h b;omega
theorem Tb.new{i:Ä}(a:i<=n):vJ Ëd ăn=Ã:=by
 cases c:vJ Ëd ăn with
 |Ã=>rfl|Å=>let{j,b,e}:=b6.mp c;let:=T.inj É a e;omega
def YW(n:Ä)(A:Ä->Â)(b:Ä->D)(tg:Ä->Ê Ä)(i:Ä):D:=if i<n then tS A b tg i else .zE
theorem Tb.tell{i:Ä}(a:i<=n):pW Ũk=À (Ã,YW n A b tg i):=by
 unfold YW;by_cases h:i<n;rw[Ò h];show T.told i h;let e:i=n:=by omega
 rw[Ô h,e];show T.fin
theorem fN:∀(k i:Ä),i+k=n->jE IG EA š [À (Ã,.lst ws),À (Å,.dic Ëd Ìm),À (Ã,.int ħb),À (Ã,YW n A b tg i)]=À (.nx [À (Ã,.lst ws),À (Å,.dic òa ŀa),À (Ã,.int Óc),À (Ã,.zE)])
 |0,i,h=>by
  let e:i=n:=by omega
  subst e;let g:YW i A b tg i=.zE:=Ô Ϸ;rw[g];show x0z ?_;unfold IG;simp only[Ú]
 |k+1,i,h=>by
  let f:i<n:=by omega
  let g:YW n A b tg i=tS A b tg i:=Ò f;rw[g,x15 (σ':=[À (Ã,.lst ws),À (Å,.dic Ñn Ħl),À (Ã,.int (A õ)),À (Ã,YW n A b tg õ)])];show fN k õ É;unfold IG tS;simp only[Ú];let{j,l}:=z9d (vs:=xg A b tg i) (v:=tS A b tg i) (T.new (ńb f));let c:=T.tell (i:=i+1) f;let m:(Ëd).length<yW:=by rw[z0r];let:=T.Ja;exact i<16777216;omega
  let d:zD (tS A b tg i) ώ=À (Β (A õ)):=rfl
  have a:jZ 1 Ĺ Ħ [À (Ã,.lst ws),À (Å,.dic Ëd Ìm),À (Ã,.int ħb),À (Ã,tS A b tg i)]=À (.nx [À (Ã,.lst ws),À (Å,.dic Ñn Ħl),À (Ã,.int ħb),À (Ã,tS A b tg i)]):=by rw[z0s,y9f,<-j,<-l];exact(if(Ëd).length<yW then _ else _)=_;rw[Ò m];rfl
  unfold EA;generalize xR A õ=K1 at a d c ⊢;generalize xg A b tg õ=V1 at a d c ⊢;generalize xR A i=K0 at a d c ⊢;generalize xg A b tg i=V0 at a d c ⊢;generalize tS A b tg i=TD at a d c ⊢;generalize YW n A b tg õ=TL at a d c ⊢;simp only[Ú,a,d,c]
theorem fO:Wy ϕd=À (Å,.dic òa ŀa):=by let c:=T.tell (i:=0) ęi;rw[T.z]at c;let a:=y0x ĸ (fN T n 0 (Ŭ n)) (by let:=T.Ja;exact n+1<=100000000;omega);rw[T.z]at a;let e:xR A 0=[]:=rfl;let d:xg A b tg 0=[]:=rfl;rw[e,d]at a;rw[sB];unfold Dh;generalize YW n A b tg 0=TL at c a ⊢;generalize xR A n=KK at c a ⊢;generalize xg A b tg n=VV at c a ⊢;simp only[Ú,c,a]
theorem lM:Up [.dic òa ŀa]=À (Ã,.int Óc):=by
 let e1:xF Ĭa yy NX Ŝj ŀa=À Ŧm:=by
  let:=YD (g:=yB 1) (e:=NX) (σ:=Ŝj) (λd=>match d with|.tup [_,x,_]=>x|_=>.zE) (ds:=xg A b tg n) λd k=>by let{i,_,rfl}:=ū k;show{_,rfl,rfl}
  rw[this];unfold xg;rw[ýb,ýb];rfl
 let e2:FP (Δ Ŧm) Ķ=À Åf:=by
  exact(gu _).bind _=_;rw[ah];exact À (if(ßd).map (λi=>A õ)=[]then _ else _)=_;by_cases c:n=0;subst c;exact À (Ě 0)=À (Ě (A 0));rw[T.z];rw[Ô (by intro h;let:=Ϣ Đh h;rw[æ,şa]at this;show c this)]
  let:A n=L2.maxI Îg:=by show L2.maxI_uniq ?_ λy j=>?_;show ŏg {n-1,Ľd É,by rw[Ĭg É]};let{i,f,rfl}:=ū j;let f:=Ļb f;by_cases e:i+1=n;rw[e];show Ϻe _;show Ϝc (T.lt É Ę)
  rw[<-this]
 rw[oX];unfold Bw;generalize (Îg).map Ě=LL at *;let a:Vb 0 [À (Ã,.dic òa ŀa)]=À ŀa:=rfl;generalize xR A n=KK at a e1 e2 ⊢;generalize xg A b tg n=VV at a e1 e2 ⊢;simp only[Ú,a,e1,e2]
def OJ(A:Ä->Â)(b:Ä->D)(tg:Ä->Ê Ä)(n:Ä):Á D:=(ßd).map λi=>Ϡf [.int ħb,tS A b tg i]
omit T in
theorem sw{x2 x3 x4 x5:Ê Sl}:Va 1 [À (Ã,.lst ws),À (Ã,.dic òa ŀa),x2,x3,x4,x5]=À (OJ A b tg n):=by
 let h:(òa).all qB=Å:=ïc λk a=>by let{i,_,rfl}:=ū a;rfl
 exact(if(òa).all qB=Å then À (ZC òa ŀa)else Æ)=_;rw[Ò h];unfold ZC xR xg OJ;show Ϣ À (øc λi=>?_);rw[Ďg,Ş,Ş,Ş];cases(Ùa n)[i]? with
 |Æ=>rfl|À j=>rfl
theorem nR:TB ϕd=À (Ã,.zE):=by
 let e1:=fO T;let e2:=lM T;let d:xt Åf (.int (Ϛa:Â))=À ç:=by rw[T.e];show Ee (Xo rfl)
 let{σ',k,x3,x4,x5,rfl}:=jV (g:=jw 3 4) (b:=EB) (λi σ=>∃x3 x4 x5,σ=[À (Ã,.lst ws),À (Ã,.dic òa ŀa),À (Ã,.int Óc),x3,x4,x5]) (ds:=OJ A b tg n)
  (σ:=[À (Ã,.lst ws),À (Ã,.dic òa ŀa),À (Ã,.int Óc),Æ,Æ,Æ]) 0 {Æ,Æ,Æ,rfl} (by
  rintro i v σ o ⟨x3,x4,x5,rfl⟩;let{j,l,rfl}:=ū (Ķb o);let l:=Ļb l;show{_,[À (Ã,.lst ws),À (Ã,.dic òa ŀa),À (Ã,.int Óc),À (Ã,.int (A j)),À (Ã,tS A b tg j),À (Ã,tA A (tg j))],rfl,.inl ?_,_,_,_,rfl};let a:zD (tS A b tg j) Ŝa=À (tA A (tg j)):=rfl;unfold EB;cases h:tg j with
  |Æ=>
   rw[h]at a;let m:tA A Æ=.zE:=rfl;rw[m]at a ⊢;generalize tS A b tg j=TD at a ⊢;generalize xR A n=KK at a ⊢;generalize xg A b tg n=VV at a ⊢;simp only[Ú,a]
  |À p=>
   rw[h]at a;let m:tA A (À p)=.int (A p):=rfl;rw[m]at a ⊢;let r:=T.le j p l h;by_cases e:p=n
   .let q:xt Ėh Åf=À ç:=by rw[e];show Ee (Xo rfl)
    generalize tS A b tg j=TD at a q ⊢;generalize xR A n=KK at a q ⊢;generalize xg A b tg n=VV at a q ⊢;simp only[Ú,a,q]
   .let q:xt Ėh Åf=À ě:=Ee (YA (by let:=T.lt (i:=p) (j:=n) É Ę;omega))
    let c:jv Ėh (.dic òa ŀa)=À ç:=by exact(À (vJ òa ýh)).bind _=_;rw[b6.mpr {p,by omega,rfl}];rfl
    generalize tS A b tg j=TD at a q c ⊢;generalize xR A n=KK at a q c ⊢;generalize xg A b tg n=VV at a q c ⊢;simp only[Ú,a,q,c])
 let f:=sw (ws:=ws) (A:=A) (b:=b) (tg:=tg) (n:=n) (x2:=À (Ã,.int Óc)) (x3:=Æ) (x4:=Æ) (x5:=Æ);rw[sE];unfold Dk;generalize OJ A b tg n=IT at e1 e2 d f k ⊢;generalize xR A n=KK at e1 e2 d f k ⊢;generalize xg A b tg n=VV at e1 e2 d f k ⊢;simp only[Ú,e1,e2,d,f,k]
omit T in
theorem aG{n:Ä}{A:Ä->Â}(b:∀i j,i<=n->j<=n->A i=A j->i=j){p:Ä}(c:p<n)(f:Ä->D):∀(l:Á Ä),p∈l->(∀i∈l,i<=n)->ĩ ũk (Òa f) ýh=À (f p)
 | [],h,_=>by cases h|a::l,h,hl=>by exact(if(Æa (A a):Sum Â Ç)=.inl (A p)then À (f a)else ĩ ũk (Òa f) ýh)=_;by_cases e:A a=A p;let:=b a p (hl a ŉ) (ńb c) e;subst this;rw[Ò rfl];rw[Ô (λz=>e (ϔb z))];rcases ŋ h with rfl|h;show ß rfl e;show aG b c f l h λi d=>hl i ŝn
#print a
def z11{g:FG}{c:FT}{e:FE}{σ σ1:zx}{d x:D}{r xs:Á D}(h:g d σ=À σ1)(a:c σ1=À Å)(b:e σ1=À x)(f:xF g c e σ r=À xs):xF g c e σ (d::r)=À Ñe:=by rw[xF,h,þa,a,þa];exact(Ťf).bind _=_;rw[b,f];rfl
def Z9{x:Â}{N r:D}{k:Ç}{f:D}{fs R:Á D}(h:qM [.int x,.str k,f]=À (Ã,r))(a:xF ģb yy Yb Ϧi fs=À R):xF ģb yy Yb Ϧi (f::fs)=À (r::R):=
 z11 (σ1:=[À (Ã,.int x),À (Ã,N),À (Ã,.str k),Æ,Æ,À (Ã,f)]) rfl rfl (by simp only[Ú,Yb,h]) a
def Tv{q d B r b:Â}(h:0<B)(e:0<=d)(a:d<b)(f:0<=r)(c:r<B):(q*(b*B)+d*B+r)/B%b=d:=by rw[<-Ϟl,<-Int.add_mul,óm,Int.add_mul_ediv_right _ _ (ϩe h),Int.ediv_eq_zero_of_lt f c,ðm,óm,Int.add_mul_emod_self_right,Ϣk e a]
structure V7(r:D)(v:Â):È where
 v0:0<=v
 v1:v<4294967296
 c:∃n:Ä,n<=17/\v/134217728=(n:Â)
 r:pU Ϻh=À (Ã,r)
def Lh{k:Ç}{n:Ä}{v:Â}{R fs:Á D}(e:0<=v)(v1:v<4294967296)(d:n<=17)(hv:v/134217728=(n:Â))(hk:ĝb n .zE=.str k)(l:vG gn gr Ď=À ċc)(g:t5 Þb=À (Å,.lst fs))(f:xF ģb yy Yb [À (Ã,.int v),À (Ã,.int (n:Â)),À (Ã,.str k),Æ,Æ,Æ] fs=À R)(i:yq .zE ϱc=À ç)(j:ıc<=3)(hz:pT øg=À (Ã,.int v)):V7 ϱc v:=by show{e,v1,{n,d,hv},?_};let c:=VH e v1;rw[hv]at c;rw[Öo];rw[đ (show ¬ 18<=n by omega),ôb]at a;let:=Gd c b g f i j a Ļg Ģc hz;rw[this,Ò rfl]
theorem Lg{n:Ä}{k:Ç}{W P d m:Â}(a:n<=17)(hk:ĝb n .zE=.str k)(t:vG gn gr Ď=À ċc)(p:t5 Þb=À (Å,.lst ŀk))(g:vm Ĺg=À (Ã,.tup Žc))(o:vm Ϭk=À (Ã,.tup ĕl))(r:0<=W)(v:W<=16)(i:(2:Â) ^ Øb=P)(e:(2:Â) ^ Øb ∣ 16777216)(j:0<=d)(l:d<8)(m0:0<=m)(s:m<P)(u:P<=65536)(w:ßc%P=m):V7 (.tup [.str k,.int d,.int m]) ßc:=by
 let f:=nX (c:=(n:Â)) (d:=d) (n:=m) p g o É É r v j l m0 (by rw[i];show s) e;let q:qM [.int ßc,.str k,.str "d"]=À (Ã,.int (ßc/16777216%8)):=Xm g ęb Ì Ì Ì;have h:qM [.int ßc,.str k,.str "n"]=À (Ã,.int (ßc/1%P)):=by rw[<-i];show Xm o ęb Ì r É
 rw[Ëb,w]at h;rw[show ßc/16777216%8=d from Tv (B:=16777216) (b:=8) Ì j l m0 É]at q;show Lh É É a É hk t p (Z9 q (Z9 h rfl)) rfl é f
def ZR{n:Ä}{k:Ç}{d s:Â}(u:n<=13)(hk:ĝb n .zE=.str k)(t:vG gn gr Ď=À ċc)(i:t5 Þb=À (Å,.lst Ŀk))(o:vm Ĺg=À (Ã,.tup Žc))(h:vm ϫk=À (Ã,.tup ũe))(m:0<=d)(g:d<8)(p:0<=s)(f:s<8):V7 (.tup [.str k,.int d,.int s]) Řc:=by let e:=nY (c:=(n:Â)) (d:=d) (s:=s) i o h É É m g p f;let l:qM [.int Řc,.str k,.str "d"]=À (Ã,.int (Řc/16777216%8)):=Xm o ęb Ì Ì Ì;let j:qM [.int Řc,.str k,.str "s"]=À (Ã,.int (Řc/2097152%8)):=Xm h ęb Ì Ì Ì;rw[show Řc/16777216%8=d from Tv (B:=16777216) (b:=8) Ì m g É É]at l;let a:=Tv (q:=(n:Â)*8+d) (B:=2097152) (b:=8) (r:=0) Ì p f Ì Ì;rw[show àm*ϟm+s*2097152+0=(n:Â)*134217728+d*16777216+s*2097152 by omega]at a;rw[a]at j;show Lh É É É É hk t i (Z9 l (Z9 j rfl)) rfl é e
def Lf{n:Ä}{k:Ç}{d s m:Â}(f:n<=17)(hk:ĝb n .zE=.str k)(y:vG gn gr Ď=À ċc)(p:t5 Þb=À (Å,.lst şj))(v:vm Ĺg=À (Ã,.tup Žc))(o:vm ϫk=À (Ã,.tup ũe))(a:vm Ϭk=À (Ã,.tup Ėl))(i:0<=d)(l:d<8)(w:0<=s)(j:s<8)(m0:0<=m)(x:m<256):V7 (.tup [.str k,.int d,.int s,.int m]) Ųb:=by let g:=nZ (c:=(n:Â)) (d:=d) (s:=s) (n:=m) p v o a É É i l w j m0 x;let u:qM [.int Ųb,.str k,.str "d"]=À (Ã,.int (Ųb/16777216%8)):=Xm v ęb Ì Ì Ì;let h:qM [.int Ųb,.str k,.str "s"]=À (Ã,.int (Ųb/2097152%8)):=Xm o ęb Ì Ì Ì;let t:qM [.int Ųb,.str k,.str "n"]=À (Ã,.int (Ųb/1%256)):=Xm a ęb Ì Ì Ì;rw[ϴg,show((n:Â)*134217728+d*16777216+(s*2097152+m))/16777216%8=d from Tv (B:=16777216) (b:=8) Ì i l É É,<-ϴg]at u;let e:=Tv (q:=(n:Â)*8+d) (B:=2097152) (b:=8) (r:=m) Ì w j m0 É;rw[show àm*ϟm+s*2097152+m=(n:Â)*134217728+d*16777216+s*2097152+m by omega]at e;rw[e]at h;rw[show Ųb/1%256=m by omega]at t;show Lh É É f É hk y p (Z9 u (Z9 h (Z9 t rfl))) rfl é g
def Th:FS:=
 (zZ (qh 3 (Ι Íd (zA űg (zA İf (zA (eC õb) (Ωd īl (zA æi (zA (eC όc) (zA (eC Ėc) (zA (eC že) (zA ϴd Ám)))))))))))
  (zZ (qE 3 (Ι åi (zA (eC æf) (zA âi (zA ái űi)))))
  (zZ (ZJ 3) (zZ (yH 4 (e2 ve Ćk (e2 vo Ħ ϊa)))
  (zZ (xB (tE (e2 yq ϊa Æi))
   (zZ (xB (tE (e2 xt ϊa äi))
     (ςd (e2 ve Ħk (e2 vo ϩf ěd)))
     xS)
    (zZ (xB ëf
     (qG (Ι (ζb (e2 ve Ŀa Ćk)) (Α (e2 yZ ă Ĳd))))
     xS)
    (qG (yc (Α (ζb (e2 yZ ă õc)))))))
   xS)
  (zZ (xB (tE (e2 zb ϊa Íd))
   (qG (yc ϭc))
   xS)
  (zZ (ςd (e2 ve Ħk ěd))
  (zZ (xB (tE (e2 yq ϊa (Ι űg (zA İf Ám))))
   (qG (yc (Α (e2 yK ŗ Źe))))
   xS)
  (qG (yc (Ωb (ζb (e2 ve (eC (.int 2097152)) Źe)) (eL Im (Μ (IX ë ßi k6))))))))))))))
def qN:Á D->Ê í:=FR 3 5 Th
def Fi(a b x2:D):qN Ů=yP 5 Th Ů:=rfl
abbrev z07:D:=.lst [.str şb,.str øa,.str ĩa,.str Ϩa,.str įa,.str ϩa,.str ŷa,.str ϧa,.str Įa,.str ŗa,.str äb,.str Ĩa,.str Ña,.str Ða,.str Ħa,.str ña,.str Þa,.str Ýa,.str àa,.str ãa,.str ğa]
section
variable{w k:Ç}{n m:Â}{dd ff:D}
structure Kd(w:Ç)(n:Â)(a b c:Ï):È where
 i:vo z07 Ŗ=À ĸc
 j:yq Ŗ ϲc=À ĺi
 s:zb Ŗ Žb=À ğb
 m:yq Ŗ (.lst [.str øa,.str ĩa,.str Ña,.str Ða])=À (.bl c)
def mH:qN [.tup Ϲm,dd,ff]=À (Å,.lst ϰd):=rfl
def IK{d m:Â}(h:Kd w n Ã Ã Å):qN [.tup ëj,dd,ff]=À (Å,.lst [.int (n*134217728+d*16777216+m)]):=by
 let{f,c,e,k}:=h;let b:wN 134217728=Å:=by decide
 let j:wN 16777216=Å:=by decide
 let i:zD ìn ώ=À Ĺf:=rfl;let g:zD ìn Ŝa=À ķf:=rfl;rw[ŗo]
 rw[Fi,Êb n,Êb d];unfold Th;simp only[Ú,qE,Ò a,Co,i,g,f,c,e,k,b,j,Ř]
theorem k_{d s:Â}(h:Kd w n Ã Ã Ã):qN [.tup ăe,dd,ff]=À (Å,.lst [.int (n*134217728+d*16777216+s*2097152)]):=by
 let{i,f,g,o}:=h;rw[ϑo]
 let m:wN 16777216=Å:=by decide
 let l:zD äf ώ=À Ĺf:=rfl;let j:zD äf Ŝa=À (.int s):=rfl;rw[ŗo]
 let b:∀τ:zx,IX ë ßi k6 (À (Ã,.tup ăe)::τ)=À Ϟh:=λ_=>rfl
 let e:Im [.tup []]=À Ķ:=rfl;let k:wN 2097152=Å:=by decide
 rw[Ŵo];simp only[Ú,qE,Ò a,Co,l,j,i,f,g,o,c,m,k,b,e,Ř,þb]
theorem IJ{d s m:Â}(h:Kd w n Ã Ã Ã)(m0:0<=m)(q:m<256):qN [.tup ϻf,dd,ff]=À (Å,.lst [.int (n*134217728+d*16777216+s*2097152+m)]):=by
 let{i,f,g,p}:=h;rw[ϑo]
 let o:wN 16777216=Å:=by decide
 let l:zD în ώ=À Ĺf:=rfl;let j:zD în Ŝa=À (.int s):=rfl;rw[ŗo]
 let b:∀τ:zx,IX ë ßi k6 (À (Ã,.tup ϻf)::τ)=À (.tup [.int m]):=λ_=>rfl
 let e:Im [.tup [.int m]]=À ķf:=by exact(match(decide (0<=m)&&decide (m<1099511627776)&&Å)&&Å with|Å=>À (Ě (m+0))|Ã=>Æ)=_;rw[å m0,å (show m<1099511627776 by omega),þb];rfl
 let k:wN 2097152=Å:=by decide
 rw[Ŵo];simp only[Ú,qE,Ò a,Co,l,j,i,f,g,p,c,o,k,b,e,Ř]
#print a
def z8s{r:D}(h:kz r):∃v:Â,V7 r v/\∀dd ff,qN ın=À (Å,.lst Ϻh):=by
 cases h with
 |ϭ=>show{0,Lh (n:=0) (fs:=[]) Ì Ì Ì Ì rfl rfl rfl rfl rfl é (FZ (c:=0) Ì Ì rfl),λ_ _=>mH}|WR hw d0 d1 n0 n1=>rcases hw with rfl|rfl;show{_,Lg (n:=1) (W:=16) (P:=65536) Ì rfl rfl rfl rfl rfl Ì Ì Ì Ì d0 d1 n0 n1 Ì É,λ_ _=>IK {rfl,rfl,rfl,rfl}};show{_,Lg (n:=2) (W:=16) (P:=65536) Ì rfl rfl rfl rfl rfl Ì Ì Ì Ì d0 d1 n0 n1 Ì É,λ_ _=>IK {rfl,rfl,rfl,rfl}}
 |two hw d0 d1 s0 s1=>rcases hw with rfl|rfl|rfl|rfl|rfl|rfl|rfl|rfl|rfl;show{_,ZR (n:=3) Ì rfl rfl rfl rfl rfl d0 d1 s0 s1,λ_ _=>k_ {rfl,rfl,rfl,rfl}};show{_,ZR (n:=4) Ì rfl rfl rfl rfl rfl d0 d1 s0 s1,λ_ _=>k_ {rfl,rfl,rfl,rfl}};show{_,ZR (n:=5) Ì rfl rfl rfl rfl rfl d0 d1 s0 s1,λ_ _=>k_ {rfl,rfl,rfl,rfl}};show{_,ZR (n:=6) Ì rfl rfl rfl rfl rfl d0 d1 s0 s1,λ_ _=>k_ {rfl,rfl,rfl,rfl}};show{_,ZR (n:=7) Ì rfl rfl rfl rfl rfl d0 d1 s0 s1,λ_ _=>k_ {rfl,rfl,rfl,rfl}};show{_,ZR (n:=8) Ì rfl rfl rfl rfl rfl d0 d1 s0 s1,λ_ _=>k_ {rfl,rfl,rfl,rfl}};show{_,ZR (n:=9) Ì rfl rfl rfl rfl rfl d0 d1 s0 s1,λ_ _=>k_ {rfl,rfl,rfl,rfl}};show{_,ZR (n:=10) Ì rfl rfl rfl rfl rfl d0 d1 s0 s1,λ_ _=>k_ {rfl,rfl,rfl,rfl}};show{_,ZR (n:=11) Ì rfl rfl rfl rfl rfl d0 d1 s0 s1,λ_ _=>k_ {rfl,rfl,rfl,rfl}}
 |WU hw d0 d1 n0 n1=>rcases hw with rfl|rfl;show{_,Lg (n:=12) (W:=5) (P:=32) Ì rfl rfl rfl rfl rfl Ì Ì Ì Ì d0 d1 n0 n1 Ì É,λ_ _=>IK {rfl,rfl,rfl,rfl}};show{_,Lg (n:=13) (W:=5) (P:=32) Ì rfl rfl rfl rfl rfl Ì Ì Ì Ì d0 d1 n0 n1 Ì É,λ_ _=>IK {rfl,rfl,rfl,rfl}}
 |mem hw d0 d1 s0 s1 n0 n1=>rcases hw with rfl|rfl|rfl|rfl;show{_,Lf (n:=14) Ì rfl rfl rfl rfl rfl rfl d0 d1 s0 s1 n0 n1,λ_ _=>IJ {rfl,rfl,rfl,rfl} n0 n1};show{_,Lf (n:=15) Ì rfl rfl rfl rfl rfl rfl d0 d1 s0 s1 n0 n1,λ_ _=>IJ {rfl,rfl,rfl,rfl} n0 n1};show{_,Lf (n:=16) Ì rfl rfl rfl rfl rfl rfl d0 d1 s0 s1 n0 n1,λ_ _=>IJ {rfl,rfl,rfl,rfl} n0 n1};show{_,Lf (n:=17) Ì rfl rfl rfl rfl rfl rfl d0 d1 s0 s1 n0 n1,λ_ _=>IJ {rfl,rfl,rfl,rfl} n0 n1}
nonrec def IB:D->D
 |.tup xs=>.tup xs.dropLast|d=>d
nonrec def cJ:D->Â
 |.tup Ìf=>if w = ãa then 1 else if w = ğa then 2 else 0|_=>0
nonrec def mJ:D->Â
 |.tup [_,.str k,_]=>if k = ϔa then 1 else if k = ěb then 2 else 0|_=>0
structure Ba(r:D)(c m:Â):È where
 c0:0<=c
 c1:c<3
 m0:0<=m
 m1:m<3
 nr:∀d:Â,pU [.int (Ůi*134217728+m*16777216+d%32)]=À (Ã,IB r)
 fr:pU [.int (ŭi*134217728+m*16777216)]=À (Ã,IB r)
 hd:∃R,IB r=.tup R/\R≠[]/\ıc<=2/\R.all yz=Å
def bc{x Z:Â}{n:Ä}{k:Ç}{fs R:Á D}(d:0<=x)(g:x<4294967296)(m:x/134217728=(n:Â))(n0:18<=n)(n1:n<=20)(hk:ĝb n .zE=.str k)(i:t5 Þb=À (Å,.lst fs))(f:xF ģb yy Yb Ϛi fs=À R)(j:yq .zE ϱc=À ç)(o:ıc<=3)(hz:pT øg=À (Ã,.int Z))(l:Z=x+(0-x%32)*1):pU ŏa=À (Ã,.tup ìc):=by let c:=VH d g;rw[m]at c;rw[Öo];rw[å n0,å n1,Śd]at a;let e:jk ϰj=À (Ã,.int (x+(0-x/1%32)*1)):=NW {{d,by decide,by decide,by decide,by decide},by decide,by decide};rw[Ëb]at e;let:=Gd c b i f j o a (λ_=>e) Ļg hz;rw[this,Ò l]
theorem Aw{x:Â}{n:Ä}{k:Ç}{fs R:Á D}(g:0<=x)(e:x<4294967296)(i:x/134217728=(n:Â))(n0:21<=n)(n1:n<=23)(hk:ĝb n .zE=.str k)(f:t5 Þb=À (Å,.lst fs))(d:xF ģb yy Yb Ϛi fs=À R)(j:yq .zE ϱc=À ç)(l:ıc<=3)(hz:pT øg=À (Ã,.int x)):pU ŏa=À (Ã,.tup ìc):=by let c:=VH g e;rw[i]at c;rw[Öo];rw[đ (show ¬ n<=20 by omega),ϖc]at a;let:=Gd c b f d j l a Ļg Ģc hz;rw[this,Ò rfl]
theorem z05{t:Ç}:Ba (.tup ϧk) 0 0:=by refine{by decide,by decide,by decide,by decide,λd=>?_,?_,{_,rfl,by simp,by simp,rfl}};refine bc (n:=18) (k := àa) (fs:=[]) (R:=[]) (Z:=18*134217728) É É É Ì Ì rfl rfl rfl rfl é (FZ (c:=18) Ì Ì rfl) É;show Aw (n:=21) (k := àa) (fs:=[]) (R:=[]) É É É Ì Ì rfl rfl rfl rfl é (FZ (c:=21) Ì Ì rfl)
def mN{w k t:Ç}(f:w = ãa \/ w = ğa)(hk:k = ąa \/ k = ϔa \/ k = ěb):Ba àc (cJ àc) (mJ àc):=by
 obtain⟨c,s,z,y,v,i,o,l⟩:∃c:Ä,cJ àc=(c:Â)/\1<=c/\c<=2/\vG Xf Y9 Ŗ=À (Β Ĩm)/\vG Xe Y8 Ŗ=À (Β úh)/\ĝb Ůi .zE=.str w/\ĝb ŭi .zE=.str w:=by rcases f with rfl|rfl;show{1,by rfl,by decide,by decide,by rfl,by rfl,rfl,rfl};show{2,by rfl,by decide,by decide,by rfl,by rfl,rfl,rfl}
 obtain⟨m,p,u,j,q⟩:∃m:Ä,mJ àc=(m:Â)/\m<3/\Io Xg Ď=À (.int (m:Â))/\bL.getD m .zE=.str k:=by rcases hk with rfl|rfl|rfl;show{0,by rfl,by decide,by rfl,rfl};show{1,by rfl,by decide,by rfl,rfl};show{2,by rfl,by decide,by rfl,rfl}
 rw[s,p];let b:t5 ϴb=À (Å,.lst Ûf):=by rcases f with rfl|rfl<;>rfl
 let g:vm Ϩk=À (Ã,.tup Ũe):=by rcases f with rfl|rfl<;>rfl
 let a:∀x:Â,x/16777216%4=(m:Â)->qM [.int x,.str w,.str Ēb]=À (Ã,.str k):=λx r=>by let:=sJ (x:=x) g;rw[r,Ŕ,q]at this;show this
 refine{by omega,by omega,by omega,by omega,λd=>?_,?_,{_,rfl,by simp,by simp,rfl}};let e:=a (Ĩm*134217728+(m:Â)*16777216+d%32) É;show bc (n:=18+c) (k:=w) (fs:=Ûf) (R:=Þb) (Z:=((18+c:Ä):Â)*134217728+(m:Â)*16777216) É É É É É o b ßn rfl é (A_ b g j É É É É) É;let e:=a (úh*134217728+(m:Â)*16777216) É;let h:=A_ (c:=((21+c:Ä):Â)) b g j É É É É;rw[show((21+c:Ä):Â)*134217728+(m:Â)*16777216=úh*134217728+(m:Â)*16777216 by omega]at h;show Aw (n:=21+c) (k:=w) (fs:=Ûf) (R:=Þb) É É É É É l b ßn rfl é h
nonrec def J8(c m d:Â)(a:Ï):Á Â:=bif a then[ŭi*134217728+m*16777216,d%4294967296]else[Ůi*134217728+m*16777216+d%32]
theorem mK{t:Ç}{d:Â}{b:Ï}:qN [.tup ϧk,.int d,.bl b]=À (Å,.lst (χ (J8 0 0 d b))):=by cases b<;>rfl
def mI{w k t:Ç}{d:Â}{b:Ï}(a:w = ãa \/ w = ğa)(hk:k = ąa \/ k = ϔa \/ k = ěb):qN [.tup [.str w,.str k,.str t],.int d,.bl b]=À (Å,.lst (χ (J8 (cJ àc) (mJ àc) d b))):=by rcases a with rfl|rfl<;>rcases hk with rfl|rfl|rfl<;>cases b<;>rfl
def pZ(r:D):D:=bif w6 r then IB r else r
nonrec def ZQ:Á Ïa->Ç->Ä
 | [],_=>0|q::Z,t=>if q.1=t then q.2 else ZQ Z t
def ZF(Z:Á Ïa)(r:D):Ä:=match EC r with
 |.str t=>ZQ Z t|_=>0
def jb(Z:Á Ïa)(r:D):Ê Ä:=bif w6 r then À (ZF Z r)else Æ
structure TW(Z:Á Ïa)(Õ:Á D)(A:Ä->Â)(T:D):È where
 inj:∀i,i<â->A i≠A â
 ix:∀k,k<â->zD T (Β (A k))=À (.tup [pZ ϕ,.int (A š),tA A (jb Z ϕ)])
 vl:∀q∈Z,ZQ Z q.1=q.2
section
variable{Z:Á Ïa}{RK:D->È}{Õ:Á D}{g:D->Á Â->Á ó->Á Â->Á ó->È}{T fw fh:D}{Ws:Á Â}{a b c:Ï}{qs:Á ó}{A:Ä->Â}
def Sv(a:XC g RK)(b:∀r,RK r->Hd r){r:D}(h:RJ Z RK r):zb (pZ r) ĸb=À þh:=by
 let{_,_,_,e}:=Gc a b h;cases h with
 |îe h=>unfold pZ;rw[(Ex (b r h).pr).choose_spec.2.2.2.1];show e|ϭ=>rfl|Uh h=>rfl|cond hw hk h=>rcases hw with rfl|rfl<;>rfl
def eQ(f:XC g RK)(l:∀r,RK r->Hd r)(h:∀r∈Õ,RJ Z RK r)(W:TW Z Õ A T){i:Ä}{j:Â}(m:i<=â) :pS [xP T fw fh Ķi ħb j Ws a b c qs]=À (Ã,.bl (jD Õ i)):=by
 unfold xP jD;by_cases z:i=â
 .rw[å z,Ϫe];subst z;rcases N2 (T:=T) (fw:=fw) (fh:=fh) (sd:=ui Č a b c áb àb) (row:=.zE) (nx:=.zE) (tg:=.zE) (e:=A â) (due:=A â) (done:=j) (k:=Å) λz=>ß rfl z with z|⟨_,z⟩;rw[z,å rfl];rfl;show z
 .let d:i<â:=by omega
  rw[đ z,Ńb];rcases N2 (T:=T) (fw:=fw) (fh:=fh) (sd:=ui Č a b c áb àb) (e:=A â) (due:=A i) (done:=j) λ_=>{W.ix i d,Sv f l (h _ Ūi)}with z'|⟨z',_⟩;rw[z',đ ϛm,Ńb];show ß z' ϛm
inductive Sd(g:D->Á Â->Á ó->Á Â->Á ó->È)(Õ:Á D)(A:Ä->Â)(T fw fh pl nm:D)(Ws:Á Â)(a b c:Ï)(qs:Á ó)(i:Ä)(j:Â):È
 |mk (Ws':Á Â) (a' b' c':Ï) (qs':Á ó) (i':Ä) (t:Ï) (l:Ϯm=8) (h:∀w∈Ws',0<=w/\w<4294967296) (P:we qs') (r:Sc g Õ Ws qs i Ws' qs' i' t) (hi:i'<=â)
  (e1:gT [vK T Ķi fw fh æk ħb j]=À ([vK T Ķi fw fh (st ĩf a' b' c' (kP qs') (vP qs')) (A i') ĉg],.fz éd))
  (e2:kq [.fz čc,.fz pl,.fz nm,sM Ws a b c áb àb i j]=À ([.fz čc,.fz pl,.fz nm,sM Ws' a' b' c' (kP qs') (vP qs') i' ĉg],.fz éd)):Sd g Õ A T fw fh pl nm Ws a b c qs i j
def y7s(m:XC g RK)(E:∀r,RK r->Hd r)(X:∀r∈Õ,RJ Z RK r)(W:TW Z Õ A T)(hZ:∀q∈Z,q.2<=â){pl nm:D}(u:∀q∈Z,∃k:Â,vo nm Ðb=À Åa/\zD pl Åa=À ľb){i:Ä}{j:Â}(O:i<=â)(C:ť=8)(B:∀w∈Ws,0<=w/\w<4294967296)(Q:we qs)(hq:ñf<=800) :Sd g Õ A T fw fh pl nm Ws a b c qs i j:=by
 let F:=eQ (fw:=fw) (fh:=fh) (Ws:=Ws) (a:=a) (b:=b) (c:=c) (qs:=qs) m E X W (j:=j) O;cases hs:jD Õ i with
 |Å=>rw[hs]at F;show{Ws,a,b,c,qs,i,Ã,C,B,Q,.inl {rfl,rfl,rfl,rfl},O,y3l (by rw[uN];show F),nU m E X O hs}|Ã=>
  let d:i<â:=by unfold jD at hs;rw[Bool.or_eq_false_iff]at hs;let:=of_decide_eq_false hs.1;omega
  let sf:=y3n d hs;let t:=W.ix i d;let K:=W.inj i d;let o:=X _ Ūi;let I:=Sv m E o;rw[sf]at I;generalize he:ŋb i .zE=r at *;cases o with
  |îe h=>
   let{G,Y,b',c',p,N,l,Q',J,dr,dd,n,U,tp}:=m r Ws a b c qs h C B Q hq;let nj:=(Ex (E r h).pr).choose_spec.2.2.2.1;let H:pZ r=r:=by unfold pZ;rw[nj];rfl
   let x:jb Z r=Æ:=by unfold jb;rw[nj];rfl
   rw[x,H]at t;let f:=N4 (T:=T) (fw:=fw) (fh:=fh) (e:=A â) (due:=A i) (done:=j) (s:=st Č a b c áb àb) (s':=st (wI G) Y b' c' (kP p) (vP p)) (d2:=A õ) K t U (by exact(wO r&&_)=Å;rw[tp];rfl) tO dr Ã (by rw[uN];show n) rfl;show{G,Y,b',c',p,i+1,Å,N,l,Q',.inr {rfl,.inl {{r,by rw[<-he];show Xd d,J},rfl}},d,f,nV m E h tp d he dd}
  |ϭ=>cases sf|@Uh q h=>let{k,L,R}:=u q h;let x:jb Z én=À q.2:=Ϣ À án;rw[x]at t;let f:=N4 (T:=T) (fw:=fw) (fh:=fh) (e:=A â) (due:=A i) (done:=j) (s:=st Č a b c áb àb) (s':=st Č a b c áb àb) (d2:=A q.2) K t I rfl tO (Ae (S:=.zE) (w := àa) rfl rfl) Å rfl rfl;show{Ws,a,b,c,qs,q.2,Å,C,B,Q,.inr {rfl,.inr {rfl,rfl}},hZ q h,f,nT (w := àa) d he rfl rfl rfl rfl rfl rfl L R}
  |@cond w mk q l hk h=>
   let{k,L,R}:=u q h;let z:w6 Ög=Å:=by rcases l with rfl|rfl<;>rfl
   let x:jb Z Ög=À q.2:=by unfold jb;rw[z];show Ϣ À án
   let H:pZ Ög=.tup çl:=by unfold pZ;rw[z];rfl
   rw[x,H]at t;rw[H]at I
   obtain⟨n,P,y,v,f1,m2,m3,m4,m5⟩:∃(n:Ï) (P:Â) (y v:Ï),Zr [ui Č a b c áb àb,.tup çl]=À (Ã,.bl n)/\vo ûn (.str mk)=À (.int P)/\zD ĥc (.int P)=À ŧf/\zb Ŗ òn=À Ũf/\zb ŧf Ũf=À (.bl n):=by rcases l with rfl|rfl<;>rcases hk with rfl|rfl|rfl;show{a,0,a,Å,rfl,rfl,rfl,rfl,by cases a<;>rfl};show{b,1,b,Å,rfl,rfl,rfl,rfl,by cases b<;>rfl};show{c,2,c,Å,rfl,rfl,rfl,rfl,by cases c<;>rfl};show{!a,0,a,Ã,rfl,rfl,rfl,rfl,by cases a<;>rfl};show{!b,1,b,Ã,rfl,rfl,rfl,rfl,by cases b<;>rfl};show{!c,2,c,Ã,rfl,rfl,rfl,rfl,by cases c<;>rfl}
   obtain⟨x2,x3,x4,x5⟩:Y5 qx Ŗ=À ç/\zb Ŗ Žb=À ç/\jv Ŗ ϲc=À ç/\zb Ŗ ϊe=À ç:=by rcases l with rfl|rfl<;>show{rfl,rfl,rfl,rfl}
   let f:=N4 (T:=T) (fw:=fw) (fh:=fh) (e:=A â) (due:=A i) (done:=j) (s:=st Č a b c áb àb) (s':=st Č a b c áb àb) (d2:=A (if n then q.2 else i+1)) K t I rfl tO (Ae (S:=.zE) (w:=w) rfl x2) n (by rw[uN];show f1) (by cases n<;>rfl);let fc:=nS (Ws:=Ws) (a:=a) (b:=b) (c:=c) (hk:=kP qs) (hv:=vP qs) (j:=j) d he rfl rfl x3 x4 x5 rfl m2 m3 m4 m5 rfl L R;cases n with
   |Å=>show{Ws,a,b,c,qs,q.2,Å,C,B,Q,.inr {rfl,.inr {rfl,rfl}},hZ q h,f,fc}|Ã=>show{Ws,a,b,c,qs,i+1,Å,C,B,Q,.inr {rfl,.inr {rfl,rfl}},d,f,fc}
#print a
def dC:FA:=Ŭd
def E9:FS:=(Vt 2 XY (e2 yK (e2 yK (Ζ (Y4 2) ϕm) į) (eL XZ (Α (Τ æa)))))
def DR:FS:=
 (zZ (qh 2 ħf)
  (zZ (qF dC Éc
   E9)
  (ZK 2)))
def Wv:Á D->Ê í:=FR 2 4 DR
def rR(a b:D):Wv ð=yP 4 DR ð:=rfl
def NY:FE:=(e2 yq (e2 zD Ñd û) Æi)
def d7:FA:=Ŭd
def NZ:FE:=(Z1 (e2 zD ŗ Ñd) (e2 zb (e2 yZ (zg vk (Τa (e2 yK (eC (.int 90)) Ñd))) Ŀa) û))
def d8:FA:=(ww û (e2 yK èb į))
def d9:FA:=Ŭd
def QV:FS:=(xB (tE (e2 zD ŗ Ďa))
       (zZ (yH 10 (Τ (e2 vo Ĺ (Ζ (e2 zD ë Ďa) ϕm))))
        (Vu 8 Ďa (e2 q_ ϲl ϳl)))
       xS)
def dA:FA:=Ŭd
def Na:FE:=(VJ ϴl (Tx (Z2 ũd ũd (e1 Y6 įf) (Ζ (Y4 8) Ñd) Ϝg)))
def OP:FS:=(zZ (yH 7 (uj Wv (η ϫ)))
    (zZ (qh 8 (e2 VN ħf èb))
    (zZ (qF d9 ŝi
     QV)
    (yH 5 (wU 1 dA ãd yy Na)))))
def dB:FA:=Ŭd
def E6:FS:=(qE 11 (uj qN (zA (ι Ďa) (zA (Ζ æe Ďa) (Α (Ζ ϫ Ďa))))))
def DK:FS:=
 (zZ (yH 4 (wU 1 Òi ãd yy NY))
  (zZ (yH 5 (wU 1 d7 ãd yy NZ))
  (zZ (yH 7 ħf)
  (zZ (qh 8 Ðe)
  (zZ (qF d8 (yB 9)
   OP)
  (zZ (ZJ 8) (zZ (qh 11 Ðe)
  (zZ (qF dB ŝi
   E6)
  (zZ (ZJ 11) (Κa śf Ϗh))))))))))
def T0:Á D->Ê í:=FR 4 12 DK
def rK(a b x2 x3:D):T0 Ąb=yP 12 DK Ąb:=rfl
nonrec def tL(n:Ä)(v:Ä->D):Á D:=(ßd).map v
def eh{n:Ä}{v:Ä->D}:tL ĸ v=tL n v++[v n]:=by unfold tL;rw[Ųe,Ăa];rfl
def ef{n:Ä}{v:Ä->D}:(Īf).length=n:=by unfold tL;rw[æ,şa]
theorem J2{n k:Ä}{v:Ä->D}(h:k<n):zD (Δ Īf) łb=À (v k):=Be Þd (by rw[Ŕ];unfold tL;rw[Ş,Ńe h];rfl)
def y45{n k:Ä}{v:Ä->D}{y:D}:(Īf).set k y=tL n λj=>if j=k then y else v j:=øc λj=>by
 unfold tL;rw[śe,Ş,Ş,æ,şa];by_cases c:j<n;rw[Ńe c];by_cases e:k=j;rw[Ò e,Ò É,e];exact _=À (if j=j then y else v j);rw[Ò rfl];rw[Ô e];exact _=À (if j=k then y else v j);rw[Ô ùm];rfl;rw[êb ύk]
 split;rw[Ô É];rfl;rfl
def y44{Õ:Á D}{h:D->D}:rows.map h=tL â λk=>h ϕ:=øc λk=>by unfold tL;rw[Ş,Ş];by_cases c:k<â;rw[Ńe c,Ĳ c,Űe,Űe,ėa,Ĳ c];rfl;rw[êb É,êb ύk];rfl
def bB{g:FG}{e:FE}{σ:zx}{n:Ä}(v:Ä->D)(h:∀k,k<n->∃σ1,g łb σ=À σ1/\e σ1=À (v k)):xF g yy e σ ņc=À Īf:=by
 rw[YD (λd=>match d with|.int i=>v Ľc|d=>d) λd b=>by let{k,a,rfl}:=ū b;show h k (Ļb a)]
 unfold tL;rw[ýb];rfl
nonrec def cnt(f:Ä->Ï):Ä->Ä
 |0=>0|n+1=>cnt f n+(f n).toNat
def ad(f:Ä->Ï)(n:Ä):Ä:=n+cnt f n
theorem F0{f:Ä->Ï}:∀{n:Ä},cnt f n<=n
 |0=>Üa _|n+1=>řl F0 (by cases f n<;>decide)
theorem AM{f g:Ä->Ï}(h:∀k,f k=Å->g k=Å):∀n,cnt f n<=cnt g n
 |0=>Üa _|n+1=>řl (AM h n) (by
  cases e:f n with
  |Ã=>show Ϡ _|Å=>rw[h n e];show Üa _)
theorem AL{f g:Ä->Ï}(h:∀k,f k=Å->g k=Å){k:Ä}(a:f k=Ã)(b:g k=Å):∀{n:Ä},k<n->cnt f n<cnt g n
 |n+1,hk=>by
  exact cnt f n+(f n).toNat<cnt g n+(g n).toNat;by_cases e:k=n;rw[<-e,a,b];show Nat.add_lt_add_of_le_of_lt (AM h k) Ì;refine Nat.add_lt_add_of_lt_of_le (AL h a b É) ?_;cases c:f n with
  |Ã=>show Ϡ _|Å=>rw[h n c];show Üa _
def Bc{f:Ä->Ï}{i:Ä}:((ad f õ:Ä):Â)=(ad f i:Ä)+1+(if f i then 1 else 0):=by
 let e:ad f õ=ad f i+1+(øe).toNat:=by unfold ad;exact i+1+(cnt f i+(øe).toNat)=_;omega
 rw[e];cases f i<;>rfl
def Jo{f:Ä->Ï}{i:Ä}:ad f i<=2*i:=by let:=F0 (f:=f) (n:=i);unfold ad;omega
def y3j{Õ:Á D}{f:Ä->Ï}(l:â<=100):Wv [.lst Õ,.lst Ĥd]=À (Å,.lst (tL àd λk=>.int (ad f k:Ä))):=by
 let e2:dC Ϝi=À ϸb:=tJ (n:=(â:Â)) rfl É
 let{σ',e,x,rfl}:=jV (g:=yB 3) (b:=E9) (λi σ=>∃x,σ=[À (Ã,.lst Õ),À (Ã,.lst Ĥd),À (Å,.lst Ùg),x]) (ds:=yb â)
  (σ:=Ϝi) 0 {Æ,rfl} (by
  rintro i v σ h ⟨x,rfl⟩;let{j,rfl}:=UB h;rw[Ŭ]
  let d:zD (Δ Ùg) Ýf=À ħg:=by rw[eh];show lB _ _
  let a:=J2 (v:=λk=>.bl (f k)) j;let c:=l4 (L:=tL õ λk=>.int (ad f k:Ä)) (r:=.int (ad f õ:Ä)) (by rw[ef];omega);show{_,[À (Ã,.lst Õ),À (Ã,.lst Ĥd),À (Å,.lst (tL (i+1+1) λk=>.int (ad f k:Ä))),À (Ã,.int (i:Â))],rfl,.inl ?_,_,rfl};rw[eh (n:=i+1)];rw[Bc]at c ⊢;unfold E9;generalize Ùg=L1 at d a c ⊢;generalize Ĥd=L2 at d a c ⊢;simp only[Ú,d,a,Ř,c])
 rw[LY,Ŭ]at e;rw[rR];unfold DR;simp only[Ú,e2,e]
section
variable(Z:Á Ïa)(Õ:Á D)
def vI(f:Ä->Ï)(k:Ä):Â:=bif w6 ϕ then(ad f (ZF Z ϕ):Â)-(ad f k:Â)else 0
def uV(f:Ä->Ï)(k:Ä):Ï:=f k||!(decide (-16<=vI Z Õ f k)&&decide (vI Z Õ f k<=15))
def tG(f:Ä->Ï):Ä->Ä->Ï
 |0=>f|t+1=>uV Z Õ (tG f t)
#print a
section
variable{Z:Á Ïa}{Õ:Á D}
def bd{f:Ä->Ï}(h:∀k,f k=Å->w6 ϕ=Å){k:Ä}(hk:uV Z Õ f k=Å):w6 ϕ=Å:=by
 cases c:w6 ϕ with
 |Å=>rfl|Ã=>
  unfold uV vI at hk;rw[c]at hk;cases e:f k with
  |Å=>rw[h k e]at c;cases c|Ã=>rw[e]at hk;show hk
theorem FY{f:Ä->Ï}(h:∀k,f k=Å->w6 ϕ=Å):∀(t k:Ä),tG Z Õ f t k=Å->w6 ϕ=Å
 |0,k,hk=>h k hk|t+1,_,hk=>bd (FY h t) hk
def z02{k:Ä}(h:w6 ϕ=Å):k<â:=by by_cases c:k<â;show c;rw[ėa,êb É]at h;cases h
def aU{f:Ä->Ï}(h:∀k,f k=Å->w6 ϕ=Å):uV Z Õ f=f\/cnt f â<cnt Ŗg â:=by
 by_cases c:∃k,f k=Ã/\uV Z Õ f k=Å;let{k,a,b}:=c;show .inr (AL (λk e=>by unfold uV;rw[e];rfl) a b (z02 (bd h b)));show .inl (funext λk=>?_);cases e:f k with
 |Å=>unfold uV;rw[e];rfl|Ã=>
  cases d:uV Z Õ f k with
  |Ã=>rfl|Å=>show ß {k,e,d} c
theorem eA{f:Ä->Ï}(h:∀k,f k=Å->w6 ϕ=Å):∀t,tG Z Õ f (t+1)=tG Z Õ f t\/t+1<=cnt ıg â
 |0=>(aU h).imp id λz=>by exact 1<=cnt Ŗg â;omega|t+1=>(eA h t).elim (λz=>.inl (by
  exact uV Z Õ ıg=uV Z Õ (tG Z Õ f t)
  rw[z])) λz=>(aU (Z:=Z) (FY h (t+1))).imp id λy=>by exact t+1+1<=cnt (uV Z Õ ıg) â;omega
def Ay{f:Ä->Ï}(h:∀k,f k=Å->w6 ϕ=Å):tG Z Õ f àd=tG Z Õ f â:=(eA h â).resolve_right λz=>by let:=F0 (f:=tG Z Õ f àd) (n:=â);omega
#print a
def Vq(r:D):Â:=match qN [r,.int 0,.bl Ã]with
 |À (_,.lst (.int v::_))=>v|_=>0
section
variable(Z:Á Ïa)(Õ:Á D)(f:Ä->Ï)
def uX(k:Ä):Á Â:=bif w6 ϕ then J8 (cJ ϕ) (mJ ϕ) ϙg (f k)else[Vq ϕ]
def vY:Ä->Á Â
 |0=>[]|n+1=>vY n++uX Z Õ f n
#print a
structure XF(Z:Á Ïa)(n:Ä)(r:D):È where
 hd:∃w,zD r Ķ=À Ŗ/\yq Ŗ ϲc=À (.bl (w6 r))
 tp:wO (pZ r)=Å
 pl:w6 r=Ã->V7 r (Vq r)/\(∃R,r=.tup R)/\∀dd ff,qN ın=À (Å,.lst [.int (Vq r)])
 jm:w6 r=Å->Ba r (cJ r) (mJ r)/\ZF Z r<=n/\(∃t,zD r Ýf=À ϻd/\EC r=.str t/\∃q∈Z,q.1=t)/\∀d b,qN [r,.int d,.bl b]=À (Å,.lst (χ (J8 (cJ r) (mJ r) d b)))
def y0r{Z:Á Ïa}{e:D->È}{n:Ä}(o:∀r,e r->Hd r)(d:∀q∈Z,ZQ Z q.1=q.2)(g:∀q∈Z,q.2<=n){r:D}(h:RJ Z e r):XF Z n r:=by
 let a:∀{b:Ï}{p:È},b=Ã->b=Å->p:=λs f=>by rw[s]at f;cases f
 let l:kz r->XF Z n r:=λh=>by
  let{w,e1,e2,_,c,_}:=Ex h;let{v,m,i}:=z8s h;let t:Vq r=v:=by unfold Vq;rw[i]
  show{{w,e1,by rw[c];show e2},by unfold pZ;rw[c];cases h<;>rfl,λ_=>by rw[t];show{m,by cases h<;>show{_,rfl},i},a c}
 cases h with
 |îe h=>show l (o r h).pr|ϭ=>show l .stop|@Uh q h=>show{{_,rfl,rfl},rfl,λz=>a z rfl,λ_=>{z05,Ĵ ϰl (g q h),{q.1,rfl,rfl,q,h,rfl},λ_ _=>mK}}|@cond w k q hw hk h=>
  let j:w6 ńj=Å:=by rcases hw with rfl|rfl<;>rfl
  show{{w,rfl,by rcases hw with rfl|rfl<;>rfl},by rcases hw with rfl|rfl<;>rfl,λz=>a z j,λ_=>{mN hw hk,Ĵ ϰl (g q h),{q.1,rfl,rfl,q,h,rfl},λ_ _=>mI hw hk}}
structure Wl(Z:Á Ïa)(Õ:Á D)(f:Ä->Ï):È where
 rw:∀r∈Õ,XF Z â r
 fj:∀k,f k=Å->w6 ϕ=Å
 st:uV Z Õ f=f
 hn:â<=12
section
variable{Z:Á Ïa}{Õ:Á D}{f:Ä->Ï}(W:Wl Z Õ f)
include W
theorem Wl.one{i:Ä}(a:i<â):XF Z â Ż:=W.rw _ (Xd a)
theorem Wl.near{i:Ä}(h:f i=Ã) : -16<=vI Z Õ f i/\vI Z Õ f i<=15:=by let e:=congrFun W.st i;unfold uV at e;rw[h,Ńb,Bool.not_eq_false',ø]at e;show{ī e.1,ī e.2}
theorem Wl.Pn{i:Ä}:(żc).length=1+(øe).toNat:=by
 unfold uX;cases hj:w6 Ż with
 |Ã=>
  cases c:f i with
  |Ã=>rfl|Å=>rw[W.fj i c]at hj;cases hj
 |Å=>unfold J8;cases f i<;>rfl
theorem Wl.len:∀{n:Ä},(vY Z Õ f n).length=ad f n
 |0=>rfl|n+1=>by exact(vY Z Õ f n++uX Z Õ f n).length=n+1+(cnt f n+(f n).toNat);rw[Ă,W.Pn,Wl.len];unfold ad;omega
omit W in
theorem ir{i n:Ä}(h:i<=n):∃r,vY Z Õ f n=vY Z Õ f i++r:=by
 induction n with
 |ϛ=>show{[],by rw[show i=0 by omega];rfl}|Ϝ n ih=>by_cases e:i=n+1;show{[],by rw[e,Ûa]};let{r,q}:=ih É;show{r++uX Z Õ f n,by exact vY Z Õ f n++uX Z Õ f n=_;rw[q,Ŷc]}
theorem Wl.at{i k:Ä}{v:Â}(a:i<â)(hk:żc[k]?=À v):zD (Δ Ĩd) (Β ((ad f i:Â)+k))=À Ϻb/\(ad f i:Â)+k<((Ĩd).length:Â):=by
 let{r,e}:=ir (Z:=Z) (Õ:=Õ) (f:=f) (i:=i+1) (n:=â) a;let l:=ϛf (n:=i);let b:k<(żc).length:=(Ł hk).1;let e2:vY Z Õ f õ=vY Z Õ f i++uX Z Õ f i:=rfl
 have g:òl[ad f i+k]?=À v:=by rw[<-l,e,e2,Ŷc,âc É,Èk,éb b];show hk
 let lt:=Řf.1;rw[æ];refine{Be É ?_,by omega};rw[show((ad f i:Â)+(k:Â)).toNat=ad f i+k by omega,Ş,g];rfl
theorem Wl.tb:Tb Ĩd â Ņe Çm Ĥl:=by
 let I:=W.hn;show{λi j=>?_,rfl,?_,λi j=>?_,?_,λi p j h=>?_,by omega};exact((ad f i:Ä):Â)<(ad f õ:Ä);rw[Bc]
 rw[āo];rw[æ,ϛf];let h:=Ϛf j;exact pW [_,.int (ad f i:Ä)]=À (Ã,Ϡf [_,.int (ad f õ:Ä),_]);let o:(0:Â)<=(ad f i:Ä):=İb _;let N:=Jo (f:=f) (i:=i);rw[Bc];unfold pZ jb;cases hj:w6 Ż with
 |Ã=>
  let{w,{R,e},_}:=h.pl hj
  let y:f i=Ã:=by
   cases c:f i with
   |Ã=>rfl|Å=>rw[W.fj i c]at hj;cases hj
  let g:=W.at (k:=0) (v:=Vq Ż) j (by unfold uX;rw[hj];rfl);rw[ϐg,þb]at g;let{n,z,A}:=w.c;let d:=VH w.v0 w.v1;rw[A]at d;let b:=Qb (n:=n) É;rw[đ (show ¬ 18<=n by omega),ôb]at b;let a:=FX (n:=n) É;rw[đ (show ¬ 21<=n by omega),ôb]at a;let u:=w.r;rw[e]at u g;rw[y7e {o,g.2,g.1,by rw[<-e];show w.v0,by rw[<-e];show w.v1} (by rw[<-e];show d) a b u,y,e];simp only[ļa,Ŧ,þb,cond_false];rfl
 |Å=>
  let{w,K,_,_}:=h.jm hj;let{R,e,_,_,_}:=w.hd;let F:=w.c0;let E:=w.c1;let m0:=w.m0;let C:=w.m1;let H:=Jo (f:=f) (i:=ZF Z Ż);let J:vI Z Õ f i=(ad f Ŏh:Â)-(ad f i:Â):=by unfold vI;rw[hj];rfl
  let L : -200<=vI Z Õ f i:=by omega
  let G:vI Z Õ f i<=200:=by omega
  cases hF:f i with
  |Å=>
   let m:uX Z Õ f i=[Ğh*134217728+mJ Ż*16777216,vI Z Õ f i%4294967296]:=by unfold uX;rw[hj,hF];rfl
   let g:=W.at (k:=0) j Ϟg;rw[ϐg,þb]at g;let q:=W.at (k:=1) j Ϟg;rw[show((1:Ä):Â)=1 from rfl]at q;let l:=w.fr;rw[e]at l;obtain⟨x,s⟩:∃x,x=Ğh*134217728+mJ Ż*16777216:={_,rfl};obtain⟨n,t⟩:∃n:Ä,(n:Â)=21+cJ Ż:={(Ğh).toNat,by omega};rw[<-s]at g l;let d:=VH (x:=x) É É;rw[show x/134217728=(n:Â) by omega]at d;let a:=FX (n:=n) É;rw[å (show 21<=n by omega),å (show n<=23 by omega),Śd]at a;rw[y7b {o,g.2,g.1,by omega,by omega} d a l q.1 q.2,show((ad f i:Ä):Â)+(if 2*(vI Z Õ f i%4294967296)<4294967296 then vI Z Õ f i%4294967296 else vI Z Õ f i%4294967296-4294967296)=(ad f Ŏh:Ä) by rw[āo]];simp only[Ěn,e,Ň];rw[ϴg];rfl
  |Ã=>
   let m:uX Z Õ f i=[ğh*134217728+mJ Ż*16777216+vI Z Õ f i%32]:=by unfold uX;rw[hj,hF];rfl
   let{O,B}:=W.near hF;let g:=W.at (k:=0) j Ϟg;rw[ϐg,þb]at g;let l:=w.nr ŭl;rw[e]at l;obtain⟨x,s⟩:∃x,x=ğh*134217728+mJ Ż*16777216+vI Z Õ f i%32:={_,rfl};obtain⟨n,t⟩:∃n:Ä,(n:Â)=18+cJ Ż:={(ğh).toNat,by omega};rw[<-s]at g l;let d:=VH (x:=x) É É;rw[show x/134217728=(n:Â) by omega]at d;let a:=FX (n:=n) É;rw[đ (show ¬ 21<=n by omega),ôb]at a;let b:=Qb (n:=n) É;rw[å (show 18<=n by omega),å (show n<=20 by omega),Śd]at b;rw[y7c {o,g.2,g.1,by omega,by omega} d a b l,show((ad f i:Ä):Â)+će=(ad f Ŏh:Ä) by rw[āo]];simp only[Ěn,e,ļa,Ŧ,þb];rfl
 show y7d (.inr ?_);rw[æ,ϛf];show Ϻe _;unfold jb at h;cases hj:w6 Ż with
 |Ã=>rw[hj]at h;cases h|Å=>rw[hj]at h;cases h;show((Ϛf j).jm hj).2.1
omit W in
theorem N9{ds:Á D}(h:∀d∈ds,wO d=Å):Ça ds=Å:=by
 induction ds with
 |nil=>rfl|ú d ds ih=>exact Ϙg=Å;rw[h d ŉ,ih λd a=>h d Ϛd];rfl
omit W in
theorem y4s{ws:Á D}{n:Ä}{A:Ä->Â}{b:Ä->D}{tg:Ä->Ê Ä}(T:Tb ws n A b tg):X6 ϕd=À (Å,.dic òa ŀa):=by let e1:=nR T;let e2:=fO T;rw[rq];unfold Df;generalize xR A n=KK at e1 e2 ⊢;generalize xg A b tg n=VV at e1 e2 ⊢;rw[ϕo]
theorem Wl.tw(l:∀q∈Z,ZQ Z q.1=q.2):∃ks vs,TW Z Õ Ņe İm/\X6 [.lst Ĩd]=À (Å,.dic ks vs)/\Ça vs=Å:=by
 let T:=W.tb
 let g:Ça (xg Ņe Çm Ĥl â)=Å:=N9 λd m=>by let{i,a,rfl}:=ū m;exact(wO (pZ Ż)&&(Å&&(wO (tA _ (jb Z Ż))&&Å)))=Å;rw[(Ϛf (Ļb a)).tp];cases jb Z Ż<;>rfl
 refine{_,_,{λi a e=>by let:=T.lt a Ę;omega,λk c=>?_,l},y4s T,g};show aG (λi j a b h=>T.inj a b h) c (tS _ _ _) (Ùa â) (Ľd c) λj b=>ńb (Ļb b)
#print a
section
variable{Z:Á Ïa}{Õ:Á D}
def p7(Z:Á Ïa)(Õ:Á D)(f:Ä->Ï)(i j:Ä):Â:=if j<i then vI Z Õ f j else 0
def y0h{n:Ä}(h:n<=100):VN (.lst ϰd) ċc=À (Δ (tL n λ_=>.int 0)):=by exact(if(0:Â)<=n/\(n:Â)<=1000000/\1*(n:Â).toNat<=yW then _ else _)=_;rw[Ò {by omega,by omega,by rw[ëo]},Ŕ,List.flatten_replicate_singleton];unfold tL;rw[đl,şa]
theorem y2l{i k:Ä}{e:FE}{σ:zx}{ds:Á D}{y:D}(c:e σ=À y)(a:σ[i]?=À ňk){q:FE}(b:q σ=À łb)(d:k<Ĉ):Vu i q e σ=À (.nx (χb (Ëe k y))):=by unfold Vu;rw[c,þa,a];exact(q σ).bind _=_;rw[b,þa];exact(Ņc Ĉ (k:Â)).bind _=_;rw[uJ d];rfl
def JL(Õ:Á D):Á D:=tL â λk=>.bl (w6 ϕ)
def FL(Õ:Á D)(f:Ä->Ï):Á D:=tL â λk=>.bl (f k)
def SL(Õ:Á D)(f:Ä->Ï):Á D:=tL àd λk=>.int (ad f k:Ä)
def GL(Z:Á Ïa)(Õ:Á D)(f:Ä->Ï):Á D:=tL â λk=>.int ϙg
def ay{k:Ä}(h:k<â):zD (Δ Ča) łb=À (.bl (w6 ϕ)):=J2 h
def Aq{f:Ä->Ï}{k:Ä}(h:k<â):zD (Δ ϩb) łb=À (.bl (f k)):=J2 h
def LF{f:Ä->Ï}{k:Ä}(h:k<=â):zD (Δ ňa) łb=À (.int (ad f k:Ä)):=J2 (Nat.lt_succ_of_le h)
def aK{f:Ä->Ï}{k:Ä}(h:k<â):zD (Δ Ęc) łb=À (Β ϙg):=J2 h
def nc{pl nm cl:D}{f:Ä->Ï}{x5 x9 x11:Ê Sl}(C:∀r∈Õ,XF Z â r)(o:∀q∈Z,∃k:Â,vo nm Ðb=À Åa/\zD pl Åa=À ľb)(A:∀q∈Z,ZQ Z q.1=q.2)(l a:Ê Sl) :∃σ',j_ ŝi QV ϸb Ŷi=À Đf/\
   ∃l a,σ'=[À (Ã,.lst Õ),À (Ã,pl),À (Ã,nm),À (Ã,cl),À (Ã,.lst Ča),x5,l,À (Ã,.lst ňa),À (Å,.lst Ęc),x9,a,x11]:=by
 let{σ',I,l,a,rfl}:=jV (g:=yB 6) (b:=QV) (λi σ=>∃l a,σ=[À (Ã,.lst Õ),À (Ã,pl),À (Ã,nm),À (Ã,cl),À (Ã,.lst Ča),x5,l,À (Ã,.lst ňa),À (Å,.lst Śc),x9,a,x11]) (ds:=yb â)
  (σ:=Ŷi) 0 {l,a,rfl} (by
  rintro i v σ J ⟨l,a,rfl⟩;let{m,rfl}:=UB J;rw[Ŭ];let h:=C _ (Xd m);let j:=ay m;let n:=Xp m;let s:=LF (f:=f) (ńb m);cases hj:w6 Ż with
  |Ã=>
   rw[hj]at j
   let e:(λk=>Ě (p7 Z Õ f õ k))=λk=>.int (p7 Z Õ f i k):=funext λk=>by rw[ύo];rw[Ò Íe,Ô Ϸ];unfold vI;rw[hj];rfl;by_cases d:k<i;rw[Ò d,Ò É];rw[Ô d,Ô É]
   rw[e];show{_,[À (Ã,.lst Õ),À (Ã,pl),À (Ã,nm),À (Ã,cl),À (Ã,.lst Ča),x5,À (Ã,.int (i:Â)),À (Ã,.lst ňa),À (Å,.lst Śc),x9,a,x11],rfl,.inl ?_,_,_,rfl};unfold QV;generalize Śc=L3 at j ⊢;simp only[Ú,j]
  |Å=>
   rw[hj]at j;let{_,L,{t,H,E,q,w,rfl},_}:=h.jm hj
   let K:ZF Z Ż=q.2:=by unfold ZF;rw[E];show A q w
   let{k,x,G}:=o q w;let u:=LF (f:=f) (show q.2<=â by omega)
   let F:vI Z Õ f i=(ad f q.2:Ä)-(ad f i:Ä):=by unfold vI;rw[hj,K];rfl
   let e:Ąj=(Śc).set i (Β ((ad f q.2:Ä)-(ad f i:Ä))):=by
    rw[y45]
    congr 1
    funext k
    rw[ύo];rw[Ò Íe,Ò rfl,F];rw[Ô c];by_cases d:k<i;rw[Ò d,Ò É];rw[Ô d,Ô É]
   let p:i<(Śc).length:=by rw[ef];show m
   show{_,[À (Ã,.lst Õ),À (Ã,pl),À (Ã,nm),À (Ã,cl),À (Ã,.lst Ča),x5,À (Ã,.int (i:Â)),À (Ã,.lst ňa),À (Å,.lst Ąj),x9,À (Ã,.int (q.2:Â)),x11],rfl,.inl ?_,_,_,rfl};rw[e];unfold QV;generalize Śc=L3 at *;generalize (ad f q.2:Â)=aq at *;generalize (ad f i:Â)=ai at *;let z:=y2l (i:=8) (k:=i) (y:=.int (aq-ai)) (ds:=L3) (e:=e2 q_ ϲl ϳl) (q:=z6 6) (σ:=[À (Ã,.lst Õ),À (Ã,pl),À (Ã,nm),À (Ã,cl),À (Ã,.lst Ča),x5,À (Ã,.int (i:Â)),À (Ã,.lst ňa),À (Å,.lst L3),x9,À (Ã,.int (q.2:Â)),x11]) (by simp only[Ú,s,u]) rfl rfl p;simp only[Ú,j,n,H,x,G,z])
 show{_,I,l,a,?_};rw[LY,Ŭ]
 let e:(tL â λk=>.int (p7 Z Õ f â k))=GL Z Õ f:=List.map_congr_left λk B=>by unfold p7;rw[Ò (Ļb B)]
 rw[e]
theorem y0l{pl nm cl:D}{f:Ä->Ï}{x11:Ê Sl}(p:∀r∈Õ,XF Z â r)(v:â<=12)(e:∀q∈Z,∃k:Â,vo nm Ðb=À Åa/\zD pl Åa=À ľb)(o:∀q∈Z,ZQ Z q.1=q.2)(i u x8 x9 a:Ê Sl) :∃y6 y10,OP [À (Ã,.lst Õ),À (Ã,pl),À (Ã,nm),À (Ã,cl),À (Ã,.lst Ča),À (Ã,.lst ϩb),i,u,x8,x9,a,x11]=À (.nx [À (Ã,.lst Õ),À (Ã,pl),À (Ã,nm),À (Ã,cl),À (Ã,.lst Ča),À (Ã,.lst Ĥm),y6,À (Ã,.lst ňa),À (Å,.lst Ęc),x9,y10,x11]):=by
 let{σ',e1,y6,y10,rfl}:=nc (pl:=pl) (nm:=nm) (cl:=cl) (f:=f) (x5:=À (Ã,.lst ϩb)) (x9:=x9) (x11:=x11) p e o i a;show{y6,y10,?_};let l:Wv [.lst Õ,.lst ϩb]=À (Å,.lst ňa):=y3j É;let m:=y0h (n:=â) É;let s:∀{a1 a2 a3 a4 a5 a6 a7 a8 a9 a10 a11:Ê Sl},d9 Đd=À ϸb:=tJ (n:=(â:Â)) rfl É;let t:∀{a1 a2 a3 a4 a5 a6 a7 a8 a9 a10 a11:Ê Sl},dA Đd=À ϸb:=tJ (n:=(â:Â)) rfl É
 let e2:xF ãd yy Na [À (Ã,.lst Õ),À (Ã,pl),À (Ã,nm),À (Ã,cl),À (Ã,.lst Ča),À (Ã,.lst ϩb),y6,À (Ã,.lst ňa),À (Å,.lst Ęc),x9,y10,x11,Æ] ϸb=À Ĥm:=bB (λk=>.bl (uV Z Õ f k)) λk h=>by
  rw[ýo];let g:=Aq (f:=f) h;let j:=aK (Z:=Z) (f:=f) h;unfold Na uV;generalize vI Z Õ f k=d at *;generalize f k=b at *;cases b with
  |Å=>simp only[Ú,g,Ϫe]|Ã=>
   cases c:decide (-16<=d)with
   |Å=>simp only[Ú,g,Z2,j,c,Ńb]|Ã=>simp only[Ú,g,Z2,j,c,Ńb,ôb]
 unfold OP;simp only[Ú,l,m,s,e1,t,e2]
theorem mL{pl nm:D}{c:Â}(G:∀r∈Õ,XF Z â r)(Q:â<=12)(F:∀q∈Z,∃k:Â,vo nm Ðb=À Åa/\zD pl Åa=À ľb)(U:∀q∈Z,ZQ Z q.1=q.2) :∃f,Wl Z Õ f/\T0 [.lst Õ,pl,nm,.int c]=À (Ã,.tup [.lst Ĩd,.lst ňa]):=by
 obtain⟨I,E⟩:∃I:Ä->Â,∀k:Ä,vk [.int c,.int Đk]=À (Ã,.int (I k)):={λk=>æl Ön,λk=>(ïj Ön).1};obtain⟨j,s⟩:∃j:Ä->Ï,∀k,j k=(w6 ϕ&&decide (I k%3=0)):={_,λ_=>rfl}
 let K:∀k,j k=Å->w6 ϕ=Å:=λk h=>by rw[s,ø]at h;show h.1
 let e1:xF ãd yy NY [À (Ã,.lst Õ),À (Ã,pl),À (Ã,nm),À (Ã,.int c),Æ,Æ,Æ,Æ,Æ,Æ,Æ,Æ,Æ] Õ=À Ča:=by
  rw[YD (λr=>.bl (w6 r)) λr Y=>by let{w,a,b}:=(G r Y).hd;rw[ýo];unfold NY;simp only[Ú,a,b],y44]
  rfl
 let e2:xF ãd yy NZ [À (Ã,.lst Õ),À (Ã,pl),À (Ã,nm),À (Ã,.int c),À (Ã,.lst Ča),Æ,Æ,Æ,Æ,Æ,Æ,Æ,Æ] ϸb=À ån:=bB (λk=>.bl (j k)) λk R=>by
  rw[ýo];let m:=ay R;let o:=E k;rw[s];unfold NZ;generalize w6 ϕ=b at *;cases b with
  |Ã=>simp only[Ú,m,ôb]|Å=>simp only[Ú,m,Ř,o,Őa]
 let O:∀{a1 a2 a3 a4 a5 a6 a7 a8 a9 a10 a11:Ê Sl},d7 Đd=À ϸb:=tJ (n:=(â:Â)) rfl É;let L:∀{a1 a2 a3 a4 a5 a6 a7 a8 a9 a10 a11:Ê Sl},d8 Đd=À (yb àd):=tJ (n:=((â+1:Ä):Â)) rfl É;let N:∀{a1 a2 a3 a4 a5 a6 a7 a8 a9 a10 a11:Ê Sl},dB Đd=À ϸb:=tJ (n:=(â:Â)) rfl É
 let{σ',A,l,y,u,p,d,rfl,P}:=jV (g:=yB 9) (b:=OP) (λi σ=>∃l y u p d,σ=[À (Ã,.lst Õ),À (Ã,pl),À (Ã,nm),À (Ã,.int c),À (Ã,.lst Ča),À (Ã,.lst (FL Õ (tG Z Õ j i))),l,y,u,p,d,Æ]/\∀t,i=t+1->y=À (Ã,.lst (SL Õ Űl))/\u=À (Å,.lst (GL Z Õ Űl)))
  (ds:=yb àd) (σ:=[À (Ã,.lst Õ),À (Ã,pl),À (Ã,nm),À (Ã,.int c),À (Ã,.lst Ča),À (Ã,.lst ån),Æ,À (Ã,.lst ϰd),À (Å,.lst []),Æ,Æ,Æ]) 0 {_,_,_,_,_,rfl,λt h=>by omega} (by
  rintro i v σ H ⟨l,y,u,p,d,rfl,_⟩;let{x,rfl}:=UB H;rw[Ŭ];let{T,X,h}:=y0l (pl:=pl) (nm:=nm) (cl:=.int c) (f:=tG Z Õ j i) (x11:=Æ) G Q F U l y u óg d;show{_,_,rfl,.inl h,_,_,_,_,_,rfl,λt e=>by cases e;rw[ϗo]})
 rw[LY,Ŭ]at A P;let{rfl,rfl}:=P â rfl;rw[Ay K]at A;let W:Wl Z Õ (tG Z Õ j â):={G,FY K _,Ay K,Q};generalize tG Z Õ j â=f at *
 let{σ',J,T,rfl}:=jV (g:=yB 6) (b:=E6) (λi σ=>∃l,σ=[À (Ã,.lst Õ),À (Ã,pl),À (Ã,nm),À (Ã,.int c),À (Ã,.lst Ča),À (Ã,.lst ϩb),l,À (Ã,.lst ňa),À (Ã,.lst Ęc),p,d,À (Å,.lst Łn)])
  (ds:=yb â) (σ:=[À (Ã,.lst Õ),À (Ã,pl),À (Ã,nm),À (Ã,.int c),À (Ã,.lst Ča),À (Ã,.lst ϩb),l,À (Ã,.lst ňa),À (Ã,.lst Ęc),p,d,À (Å,.lst [])]) 0 {_,rfl} (by
  rintro i v σ H ⟨l,rfl⟩;let{x,rfl}:=UB H;rw[Ŭ];let h:=Ϛf x;let m:=Xp x;let o:=aK (Z:=Z) (f:=f) x;let z:=Aq (f:=f) x;let S:(ñl).map Ě=(Ğg).map Ě++(żc).map Ě:=Ăa
  let C:qN [ŋb i .zE,.int ŭl,.bl øe]=À (Å,.lst ŧm):=by
   unfold uX;cases hj:w6 Ż with
   |Ã=>show(h.pl hj).2.2 _ _|Å=>show(h.jm hj).2.2.2 _ _
  let B:(Łn).length+(ŧm).length<=yW:=by
   rw[æ,æ,ϛf,W.Pn];let:=Jo (f:=f) (i:=i);let:(øe).toNat<=1:=by cases f i<;>decide
   rw[ëo]
  show{_,[À (Ã,.lst Õ),À (Ã,pl),À (Ã,nm),À (Ã,.int c),À (Ã,.lst Ča),À (Ã,.lst ϩb),À (Ã,.int (i:Â)),À (Ã,.lst ňa),À (Ã,.lst Ęc),p,d,À (Å,.lst (χ ñl))],rfl,.inl ?_,_,rfl};rw[S];unfold E6;generalize (Ğg).map Ě=L1 at m o z C B ⊢;generalize (żc).map Ě=L2 at m o z C B ⊢;generalize ŋb i .zE=r at m o z C B ⊢;simp only[Ú,qE,m,o,z,C,Ò B])
 rw[LY,Ŭ]at J;show{f,W,?_};rw[rK];unfold DK;generalize (òl).map Ě=L1 at e1 O e2 L A N J ⊢;simp only[Ú,e1,O,e2,L,A,N,J]
#print a
def Bk:FS:=
 (zZ (xB (υa (zg Y_ ăa))
   Ïb
   xS)
  (yE (zg Yw (zA (e1 (xQ [Ŀ] Âa) įd) ăa))))
def Wf:Á D->Ê í:=FR 2 2 Bk
def oI(a b:D):Wf ð=yP 2 Bk ð:=rfl
def Bs:yU:=
 (yO (wx 4 (Tr (Tt (uj X6 ăa))))
  (qY (Dx We [.var 0,.no,.no,.var 2,.var 3] (uI (jP 0) (uI Åi (uI (wv (eL vH ăa)) (uI (jP 2) (uI (jP 3) Z0))))))))
def Wm:FM:=wq 4 5 Bs
def oT(a b x2 x3:M):Wm Ąb=xy 4 5 Bs Ąb:=rfl
def OO:yU:=(yO (wx 12 (wv (Ζ Âe Ħe)))
    (yO (YF 10 [] ūb (yt ϴl))
    (yO (wx 13 (wv Ži))
    (yO (YF 10 [] ūb (yt Ñd))
    (yO (vg (δ (e2 xt (zg Wu (zA åe (Ωb (zg jG (ζ (zA Ÿb zG))) śf))) (z6 13)))
     ųc
     t_)
    (yO (vg (NE (To xt (Ts Xa (VG Ý Óe 9 [] gT vx)) (Ts Xa (qS kq (t7 ă (t7 Ĺ (t7 Ħ (tj 10 [] vx))))))))
     ųc
     t_)
    (yO (wx 14 (wv (οc (e2 yK (Ζ (e2 zD Âe (eC œh)) (εb śf)) śf))))
    (vg (vq (tE (e2 xt (eL Xa (Α (zg Wf (w_ Ý ëd åe (Μ Ĥi))))) (eL Xa (Α (Z3 (Ζ Âe (eC Ĺd)) Ĥi û))))))
     ųc
     t_))))))))
def DG:yU:=
 (yO (Vi (yt (zg T1 (η Ŀa))) (OK 1 2 3))
  (yO (Vi (yt (zg T0 (ω (Ψ (Τa (zg jG (ζ (Μ (eC Ϭn))))))))) (jz 4 5))
  (yO (wx 6 (yt (uj T6 (Α (zg jG (zA ë Ăg))))))
  (yO (wx 7 (yt (uj T3 (Α (zg jG (ζ Çf))))))
  (yO (wx 8 (Dt Å (uI (jr (eL qT ϭc)) (uI (jr (eL qT (Α Ďa))) (uI (jr (eL qT Ϗh)) Z0)))))
  (yO (wx 9 (Dw Ý Wm [.sp 8 3] (Bb 8)))
  (yO (vg (δ (e2 xt æe (yc (zA ŗ (zA Ďa Ϗh)))))
   ųc
   t_)
  (yO (QY 8 Či)
  (yO (QY 8 ċi)
  (yO (QY 8 Ċi)
  (yO (wx 10 (qS U_ (t7 Ďa (t7 ŗb vx))))
  (yO (Vj (ww û Ϝg) (p8 11)
   OO)
  (jW (wv (e2 zb (zg Yv (w_ Ý čb åe zG)) (Ζ ϫ (e2 zD Âe Ħe)))))))))))))))))
def RQ:FM:=wq 1 15 DG
def rF(a:M):RQ [a]=xy 1 15 DG [a]:=rfl
def z1v{T md:D}{e:Â}{Ws:Á Â}{ps:Á ó}(j:ť=8)(n:∀w∈Ws,0<=w/\w<4294967296)(r:Yx [md]=À (Å,.dic Ċ Į)) :We [.obj Ý [] [],.fz T,.fz Áe,.own ϱ,.own md]=À ([vK T e ϱ íb Ŧj 0 0,.fz T,.fz Áe,.own ϱ,.own md],.fz .zE):=by
 let g:∀{x:M}{yM:zk},jY x (ο (.obj Ý [] [])) 0 [] [Ý] Ϫ=À (Υ (.obj Ý [Ϫ] [x])):=rfl;let i:∀{a x:M}{yM:zk},jY x (ο (.obj Ý [Ϫ] [a])) 0 [] [Ý] œa=À (Υ (.obj Ý Īn [a,x])):=rfl;let h:∀{a b x:M}{yM:zk},jY x (ο (.obj Ý Īn ð)) 0 [] [Ý] ϸa=À (Υ (.obj Ý Ϥl [a,b,x])):=rfl;let l:∀{a b c x:M}{yM:zk},jY x (ο (.obj Ý Ϥl Őf)) 0 [] [Ý] úb=À (Υ (.obj Ý ûe [a,b,c,x])):=rfl;let m:=ip (T:=T) (e:=e) (fw:=.zE) (fh:=.zE) (Ws:=Ws) (hk:=kP ps) (hv:=vP ps) (fs:=[]) (ms:=[]);let k:∀{a b c d:M}{yM:zk},VG Ý Åe 0 [] Zm vx Ïg=XQ Zm [.p 0 []] Ïg:=rfl
 let q:Ça Č=Å:=N9 λd f=>by let{w,_,rfl}:=ū f;rfl
 let o:Ça Į=Å:=N9 λd f=>by let{w,_,rfl}:=ū f;rfl
 rw[oG];unfold Bi;simp only[ý,q,o,g,i,h,l,x1b j n,r,k];simp only[ý,m]
theorem x16{ws vs:Á D}{ks:Á Ą}{md:D}{Ws:Á Â}{ps:Á ó}(f:X6 ϕd=À (Å,.dic ks vs))(d:Ça vs=Å)(b:ť=8)(c:∀w∈Ws,0<=w/\w<4294967296)(g:Yx [md]=À (Å,.dic Ċ Į)) :Wm [.obj Ý [] [],.own Đb,.own ϱ,.own md]=À ([vK İm Ϛa ϱ íb Ŧj 0 0,.own Đb,.own ϱ,.own md],.fz .zE):=by let a:=z1v (T:=.dic ks vs) (md:=md) (e:=Ϛa) b c g;rw[oT];unfold Bs;simp only[ý,Dx,uI,Z0,jP,ge,f,d,a]
theorem z1k{T fw fh:D}{e due done x:Â}{Ws:Á Â}{a b c:Ï}{ps:Á ó}(j:0<=x)(g:x<65536):Wf [xP T fw fh e due done Ws a b c ps,.int x]=À (Ã,.int ϑn):=by
 let d:=OI (i:=x) (w:=16) Ì;rw[å j,å (show x<2 ^ 16 from g)]at d;let f:ji [.int x,.int 16]=À (Ã,.bl Å):=d
 let h:Y_ ŏa=À (Ã,.bl Å):=by rw[aP];unfold Jy;simp only[Ú,f]
 unfold xP;rw[oI];unfold Bk;simp only[Ú,h,VP,Ip,Dr]
theorem y9d{n0 n1 n2:Ç}{p0 p1 p2:Ä}(h:Jn n0 n1 n2):∀q∈[(n0,p0),(n1,p1),(n2,p2)],ZQ åc q.1=q.2:=λq d=>by rcases ŋ d with rfl|d;show Ò rfl;rcases ŋ d with rfl|d;show(Ô h.a).trans Šn;cases ĸa d;show(Ô h.b).trans ((Ô h.c).trans Šn)
def mP{T fw fh:D}{e due done:Â}{s:M}{h g x2 x3 x4 x5 f i x8 c x11 d b a:Ê M}:VG Ý Óe 9 [] gT vx Ñj=XQ gT [.p 9 []] Ñj:=rfl
def dt{fv:xC}{Ws:Á Â}{a b c:Ï}{hk:Á Ą}{hv:Á D}{n m p:Â}{j i x2 x3 x4 x5 g k x8 x9 x11 f e d:Ê M}(h:fv ϴf=À (.fz (.int p),ϴf)) :YF 10 [] ūb fv ϴf=À (.nx [j,i,x2,x3,x4,x5,g,k,x8,x9,À Îk,x11,f,e,d]):=by unfold YF;rw[h];rfl
def sy{Ws:Á Â}(a:ť=8)(u:Ä):∃w,zD ϱ (Β ((u:Â)%8))=À ēc:=by
 let h:u%8<ť:=by omega
 let:=wJ (Ĳ h);show{_,this}
def y0m{v:Â}(a:0<=v)(b:v<256):Xa Ϻh=À (Ηb Ϻb):=by exact(match decide (0<=v)&&decide (v<100000000000000000000)with|Å=>À (θc (xw Ϻb))|Ã=>Æ)=_;rw[å a,å É];rfl
inductive Jh(W0 K0:Á Â)(Õ NS PL P5:Á D)(NM T fw fh CD:D)(f:Ä->Ï)(x8:Ê M)(u:Ä)(β:zk):È
 |mk (Ws:Á Â) (a b c:Ï) (qs:Á ó) (i j:Ä) (x11 x12 x13 x14:Ê M) (l:ť=8) (h:∀w∈Ws,0<=w/\w<4294967296) (P:we qs) (I:Wz W0 K0 j i Ws qs) (hi:i<=â) (hj:j<=u)
  (e:β=[À Łl,À Ĕf,À ŀl,À (.fz NM),À (.fz CD),À Ŀl,À Ϡh,À (.fz (.lst P5)),x8,À (vK T (ad f â:Ä) fw fh æk (ad f i:Ä) (j:Â)),À (sM Ws a b c áb àb (i:Â) (j:Â)),x11,x12,x13,x14]):Jh W0 K0 Õ NS PL P5 NM T fw fh CD f x8 u β
def y7w{W0 R:Á Â}{ns:Á Â}{Z:Á Ïa}{Õ m F:Á D}{n T fw fh K:D}{f:Ä->Ï}{u:Ä}{β:zk}{P I O:M}(hu:u<15)(W:TW Z Õ Ņe T)(hr:∀r∈Õ,RJ Z ug r)(hn:â<=12)(hZ:∀q∈Z,q.2<=â)(U:∀q∈Z,∃k:Â,vo n Ðb=À Åa/\zD (.lst m) Åa=À ľb)(Y:ıc<=54)(hKr:∀r∈Õ,∀k∈jN r W0,k∈R)(L:Jh W0 R Õ Ľa m F n T fw fh K f ũn u β):∃β2,OO (β.set 11 (À Ĭk))=À ϝa/\Jh W0 R Õ Ľa m F n T fw fh K f ũn (u+1) β2:=by
 let{Ws,a,b,c,qs,i,j,x11,x12,G,C,lw,X,Q,hI,hi,hj1,rfl}:=L;let c2:=XR ns (k:=2) Ì;generalize ųa Ě=NS at *;let lq:=sj hI Q Y É É;let ai:=Jo (f:=f) (i:=i);let hS:=eQ (fw:=fw) (fh:=fh) (Ws:=Ws) (a:=a) (b:=b) (c:=c) (qs:=qs) Eo O9 hr W (j:=(j:Â)) hi;let lk:=z19 (T:=T) (fw:=fw) (fh:=fh) (e:=(ad f â:Ä)) (due:=(ad f i:Ä)) (done:=j) (Ws:=Ws) (a:=a) (b:=b) (c:=c) (Ēa:=qw ns 2+u) (k:=jD Õ i) Q lq X É É É É É hS;unfold xP at lk;let o:=nI (due:=(ad f i:Ä)) (done:=j) (Ws:=Ws) (a:=a) (b:=b) (c:=c) (k:=jD Õ i) Q lq X É É É É É;let{h,s,A,y,d,v,t,H,hw',Q',tr,l,N,E}:=y7s (fw:=fw) (fh:=fh) (Ws:=Ws) (a:=a) (b:=b) (c:=c) (qs:=qs) (pl:=.lst m) (nm:=n) Eo O9 hr W hZ U (j:=(j:Â)) hi lw X Q É;let hI':=so hKr hI tr;let ej:(if t then(j:Â)+1 else(j:Â))=((if t then j+1 else j:Ä):Â):=by cases t<;>rfl
 rw[ej]at N E;let{w,ew}:=sy H u;let g:=j6 Æf Q'.uc;let mb:=z1k (T:=T) (fw:=fw) (fh:=fh) (e:=(ad f â:Ä)) (due:=(ad f v:Ä)) (done:=((if t then j+1 else j:Ä):Â)) (Ws:=h) (a:=s) (b:=A) (c:=y) (ps:=d) (x:=(w+u)%65536) (ăc _ Ì) (òc _ Ì);unfold xP at mb;let gp:=Q7 Æf d;let rp:=y0m g.1 g.2;let ixi:=LF (f:=f) hi;show{[À Łl,À Ĕf,À (.fz (.lst m)),À (.fz n),À (.fz K),À Ŀl,À Ϡh,À (.fz (.lst F)),À Ňj,À (vK T (ad f â:Ä) fw fh (st (wI h) s A y (kP d) (vP d)) (ad f v:Ä) ((if t then j+1 else j:Ä):Â)),À (sM h s A y (kP d) (vP d) (v:Â) ((if t then j+1 else j:Ä):Â)),À Ĭk,À (.fz øb),À (.fz (.str (ϣi).shown)),À (Δa (w+u))],?_,{h,s,A,y,d,v,_,_,_,_,_,H,hw',Q',hI',l,by rw[āo],rfl}};unfold OO;generalize (ϣi).shown=SS at *;generalize ((if t then j+1 else j:Ä):Â)=J at *
 let hD:wv Ži ůi=À (.fz (.str SS),ůi):=by
  let fl:vH źd=À ſd:=rfl;unfold jD at o;by_cases z:i=â;let S:zb øb ÿc=À ě:=Xo É;rw[å z,Ϫe]at o;simp only[ý,uB,fl,S,o];let l:i<â:=by omega
  let S:zb øb ÿc=À ç:=YA É;let{w,w1,w2,_}:=Gc Eo O9 (hr _ (Xd l));rw[đ z,Ńb]at o;let ix:=Xp l;generalize ŋb i .zE=r at fl S ix w1 w2 o ⊢;simp only[ý,uB,fl,S,ix,w1,w2,o]
 generalize (wv (zg X0 _))=B at hD ⊢
 let aS:∀{x:D}{τ:zx},τ[9]?=À (À (Ã,vA T (ad f â:Ä) fw fh ŀj (ad f v:Ä) J))->τ[14]?=À Ãm->w_ Ý ëd åe (Α Ĥi) τ=À [vA T (ad f â:Ä) fw fh ŀj (ad f v:Ä) J,x]:=λ{x τ} h9 h14=>by show Tc (ds:=[x]) ?_ Ī ?_;unfold z6;rw[h9];exact(z6 14 τ).bind _=_;unfold z6;rw[h14];rfl
 simp only[ý,Ts,To,uG,Z3,UA,uN,uB,Y3,jt,IP,c2,Ř];rw[dt (p:=(ad f i:Ä))];simp only[ý,hD];rw[dt (p:=(i:Â))];simp only[ý,Ts,To,uG,Z3,UA,uN,uB,Y3,jt,IP,c2,Ř,lk,bW,mP,N,y0i,Jr,E,ew,mb,gp,rp];rw[aS rfl rfl];let kd:vz (Β Æf)=À (.inl Æf):=rfl;simp only[Ú,mb,rp,kd,gp,bW];simp only[ý];simp only[ý,ixi]
theorem z4c{ws W0:Á Â}{ps:Á ó}:pE 6 (.lst [.lst Čm,.lst Ŝf,.lst ća])=Å:=by
 let h:∀b:Á Â,(b.map Ě).all ée=Å:=λb=>ïc λd a=>by let{_,_,rfl}:=ū a;rfl
 let k:(ća).all ée=Å:=ïc λd a=>by let{_,_,rfl}:=ū a;rfl
 exact((Čm).all ée&&((W0.map Ě).all ée&&((ća).all ée&&Å)))=Å;rw[h,h,k];rfl
def y0n:∀ns:Á Â,ϡ<=63->(∀m∈ns,wf m<=1048576)->∃r,RQ Ūe=À (r,.fz ě):=λns hl hb=>by
 let{W0,e1,l0,w0}:=x1a (qw ns 0);let{ps,e2,P,lp}:=z7f (qw ns 1);let c0:=XR ns (k:=0) Ì;let c1:=XR ns (k:=1) Ì;let J:=XR ns (k:=20) Ì;let{n,Y,K,X,p0,p1,p2,h,n1',n12,N3,h0,h1,h2,o,t,O}:=nG ns;let F:∀τ:zx,ww û Ϝg τ=À (yb 15):=λτ=>tJ (n:=15) rfl Ì
 let N:=sx N3 (p0:=p0) (p1:=p1) (p2:=p2);let S:=y9d N3 (p0:=p0) (p1:=p1) (p2:=p2)
 let hZ:∀q∈[(Y,p0),(K,p1),(X,p2)],q.2<=Ģa:=λq p=>by rw[o];rcases ŋ p with rfl|p;show h0;rcases ŋ p with rfl|p;show h1;cases ĸa p;show h2
 generalize [(Y,p0),(K,p1),(X,p2)]=Z at *;generalize hNM:Ćd [.str Y,.str K,.str X]=NM at *;generalize hPL:wI ĝe=PL at *;have l:∀q∈Z,∃k:Â,vo NM Ðb=À Åa/\zD (.lst PL) Åa=À ľb:=by rw[<-hPL];show N
 let{f,wl,U}:=mL (c:=qw ns 20) (λr hm=>y0r O9 S hZ (t r hm)) É l S;let{ks,vs,W,ht,tp}:=wl.tw S;let wi:=x16 ht tp l0 w0 (lb P É);rw[æ,wl.len]at wi;let be:=lL (Ws:=W0) P É
 let G:(ķ (·.1)++òf λr=>jN r W0).length<=54:=by rw[Ă,æ];let:=Si W0 h;omega
 let I:∀r∈h,∀k∈jN r W0,k∈ķ (·.1)++òf λr=>jN r W0:=λr t k A=>ļk (.inr (List.mem_flatMap.mpr {r,t,A}))
 let B:Wz W0 (ķ (·.1)++òf λr=>jN r W0) 0 0 W0 ps:={0,by omega,.inl {rfl,λk A=>ļk (.inl A),.inl rfl}};generalize (ķ (·.1)++òf λr=>jN r W0)=K0 at *;let nq:=z2g (z4c (ws:=vY Z h f Ģa) (W0:=W0) (ps:=ps));generalize (vY Z h f Ģa).map Ě=ws at *;generalize D.dic ks vs=T at *
 let{β',e3,L}:=EI (g:=p8 11) (b:=OO) (Jh W0 K0 h Ľa PL ća NM T źc íb Đb f (À Ϯi))
  (ds:=yb 15) (β:=[À (.fz (.lst Ľa)),À (.fz (.lst h)),À ŀl,À (.fz NM),À (.fz Đb),À (.fz (Δ (SL h f))),À Ϡh,À ĕf,À Ϯi,À (vK T (ad f Ģa:Ä) źc íb (st Ŝf Ã Ã Ã Ċ Į) 0 0),À (sM W0 Ã Ã Ã Ċ Į 0 0),Æ,Æ,Æ,Æ]) 0 {W0,Ã,Ã,Ã,ps,0,0,Æ,Æ,Æ,Æ,l0,w0,P,B,by omega,by omega,rfl} λu d β hd hp=>by let{hu,rfl}:=UB hd;rw[Ŭ]at hp ⊢;let{β2,e,L2}:=y7w hu W t É hZ l G I hp;show{_,β2,rfl,e,L2}
 let{Ws,a,b,c,s,i,j,x11,x12,x13,x14,lw,hw,Q,hI,hi,hj1,rfl}:=L;let R:=LF (f:=f) hi;let pf:=cD (T:=T) (fw:=.lst Ŝf) (fh:=.dic Ċ Į) (e:=(ad f Ģa:Ä)) (due:=(ad f i:Ä)) (done:=j) (Ws:=Ws) (a:=a) (b:=b) (c:=c) (ps:=s);unfold xP at pf;let nb:(Ůa 3 3&&Ůa 3 1000)=Å:=rfl;let d3:∀{x y z:M},(ĉi).drop 3=[]:=rfl;let th:∀{x y z:D},wy (.tp Å [.own x,.own y,.own z])=.lst ĉi:=rfl;let i0:∀{x y z:M},uH Źc Či=À x:=rfl;let i1:∀{x y z:M},uH Źc ċi=À y:=rfl;let i2:∀{x y z:M},uH Źc Ċi=À z:=rfl;let j0:∀{x y z v:M},u7 Źc Či v=À (.tp Å [v,y,z]):=rfl;let j1:∀{x y z v:M},u7 Źc ċi v=À (.tp Å [x,v,z]):=rfl;let j2:∀{x y z v:M},u7 Źc Ċi v=À (.tp Å [x,y,v]):=rfl
 let pa:∀{τ:zx},τ[9]?=À (À (Ã,vA T (ad f Ģa:Ä) źc íb ťj (ad f i:Ä) j))->w_ Ý čb åe zG τ=À [vA T (ad f Ģa:Ä) źc íb ťj (ad f i:Ä) j]:=λ{τ} h9=>by show Tc (ds:=[]) ?_ Ī rfl;unfold z6;rw[h9]
 let H:zb ħg ħg=À ě:=Xo rfl;let tb:∀k,wO êd=Å:=λ_=>rfl
 let C:qT ϕd=À Đb:=rfl;let E:qT [.lst Ŝf]=À źc:=rfl;let w:qT Ϻm=À Ĝe:=rfl;generalize SL h f=SR at *;show{Ūe,?_};generalize ųa Ě=NS at *;rw[rF];unfold DG;simp only[ý,Vi,uG,OK,jz,O,c0,c1,J,U,e1,e2,C,E,w,Dt,uI,Z0,Dw,Bb,jP,wi,nb,d3,th,nq,i0,i1,i2,j0,j1,j2,ge,QY,be,F,e3,UA,uN,uB,Y3,R];rw[pa rfl];simp only[ý,pf,H,tb]
#print L3
local macro_rules
 | `(tactic| ac_rfl)=>`(tactic| show⟨rfl,rfl,rfl,by decide +kernel,rfl,by decide +kernel,by decide +kernel⟩)
namespace My
open Ĩ L2 L3
set_option maxHeartbeats 4000000
nonrec def top(i:Ä):Ù:=PySem.Challenge.pw_markrun_k43_words_by_hand.main.body.getD i Íl
section
variable{P:ï}{w:è}{K:Ð}{mg:Ç->Ê Value}{Ë:Heap}{WY:Í}{Yr:Í}{Wa:Í}{Wb:Í}{Wc:Í}{Zg:Í}{Zi:Í}{Zh:Í}{WZ:Í}
abbrev HT:=ï->è->Ð->Řg->Heap->È
section
variable{h:Heap}(X:Ţ h)(G:ĳa ē mg)
abbrev HZ:Ù:=top 10
def y1v:zi ųh ųh (za HZ):=by ac_rfl
variable(kL:mg Āc=Æ)(ZS:mg Ëc=Æ)(Nm:mg Ôe=Æ)
def Mz:=HD Ăh ųh 1 ji
def z5h(a:zW K Ăh HZ):Mz P w K mg Ë:=(Ņ).oS P w Ë 0 ji y1v yT λb=>(γ (Ψa (tP (Qy .bool rfl rfl kL Nm lV Ϗa)) (U8 (W7 (tP (Qy .int rfl rfl kL ZS IE Ϗa))))) ām (U1 (vC Oo uo ía Ϗa ł) (ZL (vC Xy uo Ϗa (zJ Ϻk) ł))))
abbrev Gw:Ù:=top 11
def dM:zi [þd,Ϟc,ąa,"total"] ϟl (za Gw):=by ac_rfl
variable(VR:wd mg "BEYOND" Üc)(Vs:∀H,zd K H Üc Üc)
def Mq:=HD øi ϟl 1 Wn
def z4p(a:zW K øi Gw):Mq P w K mg Ë:=(ũa).oS P w Ë 0 Wn dM yT λb=>(zc (yX (i:=3) dM.nd rfl Ü (ε Ŵk Ŏk)) (Ηa (zS yj yi Ő ϛg) (Γ (vC Om uo (zJ Ñb) (zJ ϛg) Żf))))
abbrev KO:Ù:=top 12
def db:zi [þd,Ϟc,"borrow",Ña] ęk (za KO):=by ac_rfl
def BJ:=HD õi ęk 1 Wx
def z6p(a:zW K õi KO):BJ P w K mg Ë:=(ũa).oS P w Ë 0 Wx db yT λb=>(zc (yX (i:=3) db.nd rfl Ü (zS kB k9 (zS kB k9 ÿ Ć) Ŏk)) (γ (yG Xy uo Ϸb ía ł) (Ηa (zS yg yf Ő ϛg) ϫe) Ąk))
abbrev KE:Ù:=top 15
def y25:zi ťg ťg (za KE):=by ac_rfl
def BF:=HD ļi ťg 1 wG
def z6f(a:zW K ļi KE):BF P w K mg Ë:=(ũa).oS P w Ë 0 wG y25 yT λb=>(Ε (zS Ep Vk ŵk Ŀj))
abbrev KS:Ù:=top 16
def df:zi [ž,ϟf,ϝc,ăb,"there"] ľk (za KS):=by ac_rfl
def BK:=HD Āh ľk 1 ku
def z6t(a:zW K Āh KS):BK P w K mg Ë:=(Žd).oS P w Ë 0 ku df y0q λb=>(zc (yX (i:=4) df.nd rfl Ü (zS YH YG Ŀj Ć)) (Ε (zS bm Vk (zS Ep Vk ÿ (Qz y98 y97 ů)) (zS YH YG Ő Ć))))
abbrev KL:Ù:=top 17
def dZ:zi [ăb,ϝc,"power"] ĩn (za KL):=by ac_rfl
def BI:=HD ϥh ĩn 1 Zs
def z6k(a:zW K ϥh KL):BI P w K mg Ë:=(Ņ).oS P w Ë 0 Zs dZ yT λb=>(zc (yX (i:=2) dZ.nd rfl Ü Ϻk) (Ε (ja (yG Xy uo (zJ (zS vX u5 zC ÿ)) Ħf ł) ÿ (zS kB k9 ÿ ō))))
abbrev KY:Ù:=top 19
def y2b:zi ϻh ϻh (za KY):=by ac_rfl
variable(JC:mg "sum"=Æ)(WB:mg Đa=Æ)(Q6:wd mg Ļm ďf)(Qm:∀H,zd K H VX ďf)
def BL:=HD śh ϻh 1 TC
def z6w(a:zW K śh KY):BL P w K mg Ë:=(ϧ).oS P w Ë 0 TC y2b yT λd=>(Ε (vN (AG rfl) z6l rfl JC AE (ξ (Ψb (vd (own:=["byte",ϟf]) rfl) (Kx rfl WB ÿ Ůl) (lN (θ (Θc (θb Ťj) (Γa (Κd Ťj)))) rfl rfl) (θ (zS YH YG Ć ō))))))
abbrev KD:Ù:=top 34
def y24:zi [Âa] [Âa] (za KD):=by ac_rfl
variable(JB:mg ćb=Æ)
def BE:=HD ĥh [Âa] 1 T7
def z6e(a:zW K ĥh KD):BE P w K mg Ë:=(ϧ).oS P w Ë 0 T7 y24 yT λb=>(Φ (uq rfl (vd (own:=[ľa]) rfl) (pJ (yN (y2u rfl rfl JB Ŕd))) (Δe (wu [Âa] [Ġn])) (Λ (U6 (yG ϊc pF (zJ Ęe) ía ł))) (Λ (Ωa (zB Ć ύh)))))
abbrev G_:Ù:=top 35
def y1e:zi ϸc ϸc (za G_):=by ac_rfl
def Ms:=HD Ţh ϸc 1 Yw
def z4u(a:zW K Ţh G_):Ms P w K mg Ë:=(Ņ).oS P w Ë 0 Yw y1e yT λb=>(Ε (Kl Ŋa ÿ Ć zC {rfl,rfl,rfl,rfl}))
abbrev Gu:Ù:=jT (top 42) 0
def y1a:zi žc žc (za Gu):=by ac_rfl
variable(vt:mg ę=Æ)(Lv:mg ŷ=Æ)(gj:wd mg "MARKS" Ďf)(kD:∀H,zd K H jy Ďf)(xq:wt K [Ŀ] ŏ)(tm:wt K [Ŀ] ϒa)(qR:wt K [Ŀ] Âa)
def z4n{f:Í}{a:ŀ}(d:wb K Ϙa Òl Gu f a):xO P w K mg Ë xK 1 f a žc űn:=d.oM P w mg Ë 0 Wk y1a vE λe=>(yR (g6 ϣ xq (ZB (W5 rfl vt Ţa))) (yR (g6 ϣ tm (ZB (y2o rfl rfl Lv AA (Ν (Ψb ąk (pJ (u8 gj kD rfl)) (οb (Ιd (wu žc ["mark"]))) (λC s H b c=>Ąk)))))) (ya (g6 ϣ qR (ZB (y2p rfl Lv AA Ćc))))))
abbrev HL:Ù:=top 43
def y1m:zi ń ń (za HL):=by ac_rfl
def Mu:HT:=λP w K mg Ë=>wH P w K mg Ë ėf ń 1 (xL K Uu)
def z55(a:zW K ėf HL):Mu P w K mg Ë:=(Ņ).oM P w Ë 0 Uu y1m vE λb=>(Ιa (xG úa))
abbrev HF:Ù:=top 45
def y1h:zi ń ń (za HF):=by ac_rfl
def Mt:HT:=λP w K mg Ë=>wH P w K mg Ë ïf ń 1 (xL K Uq)
def z4z(a:zW K ïf HF):Mt P w K mg Ë:=(Ņ).oM P w Ë 0 Uq y1h vE λb=>(Ιa (vh Þc))
abbrev He:Ù:=top 50
def y1x:zi Ťg Ťg (za He):=by ac_rfl
def M_:=HD ϧh Ťg 1 Wq
def z5j(a:zW K ϧh He):M_ P w K mg Ë:=(ũa).oS P w Ë 0 Wq y1x yT λb=>(ωd (Ε (zS Ep Vk Ć ō)) (Ε (zS bm Vk Ć ō)) (zS z7c Vk Ć ō))
abbrev K8:Ù:=top 59
def y21:zi ń ń (za K8):=by ac_rfl
def BD:=HD öi ń 1 Zr
def z68(a:zW K öi K8):BD P w K mg Ë:=(Ņ).oS P w Ë 0 Zr y21 yT λb=>(zc (xI İg (Ε ŷj) xY) (γ İg (Ε (Km ŷj)) (vC Ŗc y_ (zJ úa) ϕa ł)))
abbrev Go:Ù:=jT Ęb 2
def y18:zi ļ ļ (za Go):=by ac_rfl
variable(jp:wt K [Ý] Īb)(XJ:wt K [Ý] Ϫ)(TY:wt K [Ý] œa)
def z4k{f:Í}{b:ŀ}(d:wb K ħc Ôl Go f b):xO P w K mg Ë xK 1 f b ļ Ÿn:=Ŕc P w mg Ë 0 pS y18 yT λa=>(Ε (Ko (Δc ϋm (w8 ÿ TY)) (ZL (Δc (zQ ĺb zP Ęj zC) (wA ņh ęd)))))
abbrev Gm:Ù:=jT Ęb 5
def y17:zi ļ ļ (za Gm):=by ac_rfl
variable(qt:wt K [Ý] ła)
def z4j{f:Í}{a:ŀ}(d:wb K Ãb Ķk Gm f a):xO P w K mg Ë xK 1 f a ļ Żn:=Ŕc P w mg Ë 0 Wi y17 yT λb=>(Φ (ηb (Γ (w8 ϖe xq))))
abbrev Gi:Ù:=jT Ęb 6
def y14:zi ļ ļ (za Gi):=by ac_rfl
variable(gF:mg ż=Æ)
def z4g{f:Í}{a:ŀ}(d:wb K ϥb Ćl Gi f a):xO P w K mg Ë xK 1 f a ļ Žn:=Ŕc P w mg Ë 0 Wg y14 yT λe=>(Ε (ιc (Ψb ąk (pJ ğg) (Ηd (wu [ōi] ["mark"])) (θ (zQ (zO (zI e)) zP (w8 ϖe tm) Ć)))))
abbrev Gk:Ù:=jT Ęb 9
def y16:zi ļ ļ (za Gk):=by ac_rfl
def z4i{f:Í}{a:ŀ}(d:wb K čb ąl Gk f a):xO P w K mg Ë xK 1 f a ļ Źn:=Ŕc P w mg Ë 0 Yv y16 yT λb=>(Ε ϋm)
abbrev Gq:Ù:=jT Ęb 10
def y19:zi ļ ļ (za Gq):=by ac_rfl
variable(XI:wt K [Ý] šb)
def z4m{f:Í}{a:ŀ}(d:wb K Ãe Ąl Gq f a):xO P w K mg Ë xK 1 f a ļ źn:=Ŕc P w mg Ë 0 Wj y19 yT λb=>(Ε (w8 ÿ XI))
abbrev KF:Ù:=top 65
def y26:zi Ŵh Ŵh (za KF):=by ac_rfl
variable(Fc:wd mg ăl Ϥn)(GH:t6 K w Wb Fg Fm)(Fb:wd mg ãm Ķ)(GG:∀H,zd K H Ķ Ķ)(jx:wd mg "PLACES" ϣn)(gB:t6 K w Wc qW qX)
def BH:=HD Şg Ŵh 1 vm
def z6g(a:zW K Şg KF):BH P w K mg Ë:=(Ņ).oS P w Ë 0 vm y26 yT λb=>(γ (Ο Õb ϕa) (Ηa (u8 Fb GG rfl) (Γ (kH Fc GH rfl ÿ))) (kH jx gB rfl Ć))
abbrev HR:Ù:=top 68
def y1q:zi [ŉa] [ŉa] (za HR):=by ac_rfl
variable(Fa:wd mg "FIELDS" ϥn)(GE:t6 K w Wa Ff Fk)
def Mv:=HD ňg [ŉa] 1 t5
def z5a(a:zW K ňg HR):Mv P w K mg Ë:=(ϧ).oS P w Ë 0 t5 y1q yT λd=>(Φ (uq rfl āk (pJ (kH Fa GE rfl ÿ)) (γb (wu [ŉa] [ġc])) (θ (U6 (yG (pG Ϣh) pF Õb ϕa ł))) (λC s H b c=>Ć)))
abbrev Hf:Ù:=top 71
def dR:zi [űa,"found"] [űa] (za Hf):=by ac_rfl
variable(Iw:wd mg "CODES" Ϣn)(GC:t6 K w Zg gn gr)(VT:wd mg äm Ϡn)(GF:t6 K w Zi Xf Y9)(VS:wd mg ĺm ϡn)(GD:t6 K w Zh Xe Y8)(FD:pY K w Zg gn O3)(T_:pY K w Zi Xf O5)(GU:∀H,á K H Y9 O5)(Tz:pY K w Zh Xe O4)(GT:∀H,á K H Y8 O4)
def B0:=HD Żg [űa] 1 Wr
def z5k(a:zW K Żg Hf):B0 P w K mg Ë:=(ϧ).oS P w Ë 0 Wr dR yT λd=>(zc (y3e (i:=1) rfl dR.nd rfl rfl õj rfl (Kw Iw FD rfl Ì Ì) Ųi (εc (kH Iw GC rfl ō)) ĭj) (zc (γd (Kw VT T_ rfl Ì Ì) (εc (kH VT GF rfl ō))) (zc (γd (Kw VS Tz rfl Ì Ì) (εc (kH VS GD rfl ō))) (U5 1 (Ε (ja (yG (xA Ϣh) y_ Õb (zJ (yN ĺd)) ł) u9 Ϗj))))))
abbrev HY:Ù:=top 72
def y1u:zi [űa] [űa] (za HY):=by ac_rfl
def Mx:=HD żg [űa] 1 kj
def z5g(a:zW K żg HY):Mx P w K mg Ë:=(ϧ).oS P w Ë 0 kj y1u yT λb=>(Ε (υb (yN (eB rfl rfl vt VT T_ rfl GU Ì))))
abbrev HX:Ù:=top 73
def y1t:zi [űa] [űa] (za HX):=by ac_rfl
def Mw:=HD Ϩg [űa] 1 Zp
def z5f(a:zW K Ϩg HX):Mw P w K mg Ë:=(ϧ).oS P w Ë 0 Zp y1t yT λb=>(Ε (υb (yN (eB rfl rfl vt VS Tz rfl GT Ì))))
abbrev Gz:Ù:=top 82
def y1d:zi [Ϫ] [Ϫ] (za Gz):=by ac_rfl
variable(JA:mg Ϭa=Æ)
def Mr:=HD Ϫh [Ϫ] 1 Up
def z4t(a:zW K Ϫh Gz):Mr P w K mg Ë:=(ϧ).oS P w Ë 0 Up y1d yT λd=>(Ε (y2f rfl rfl JA (yN (y2t (y2r rfl (vd (own:=[Łc]) rfl) (y2y (i:=0) rfl Ϫi) (γb (wu [Ϫ] [Łc])) Ēe (θ Ϗj)) (mw (my 0)))) zC))
abbrev Hk:Ù:=top 86
def y1y:zi Ÿh Ÿh (za Hk):=by ac_rfl
variable(wP:mg "len"=Æ)
def B4:=HD žg Ÿh 1 jG
def z5q(a:zW K žg Hk):B4 P w K mg Ë:=(Ņ).oS P w Ë 0 jG y1y y0o λb=>(zc (xI (yG Xy uo Õb ĵc ł) (Ε Ęe) xY) (ze (yJ zC)))
abbrev Ht:Ù:=top 87
def dW:zi [Ëa,Ąa,ϗe] ûf (za Ht):=by ac_rfl
def B8:=HD Üh ûf 1 vk
def z5y(a:zW K Üh Ht):B8 P w K mg Ë:=(Ņ).oS P w Ë 0 vk dW yT λb=>(zc (yX (i:=2) dW.nd rfl Ü (Η (zS vX Em (zS yg yf ÿ õg) zC))) (Ε (Η (zS yg yf (ε (zS Vn Vl ŝb ŝb) (zS vX u5 zC ŝb)) Ć))))
abbrev Hw:Ù:=top 88
def L8:zi [Čc,ϗe,Ϸe] [Čc] (za Hw):=by ac_rfl
variable(wQ:mg Ěb=Æ)
def B9:=HD Ùh [Čc] 1 T4
def z61(a:zW K Ùh Hw):B9 P w K mg Ë:=(ϧ).oS P w Ë 0 T4 L8 yT λb=>(zc (yX (i:=1) L8.nd rfl Ü zC) (Ζa (tM rfl wQ ÿ) (Αa (yo (i:=2) L8.nd rfl Ü)) (ze (yX (i:=1) L8.nd rfl Ü õg)) (yJ Ć)))
abbrev H_:Ù:=top 91
def L9:zi [Żc,Řd,Ŋe,"_law_carry","_law_more","_law_total"] όj (za H_):=by ac_rfl
def BC:=HD ĩh όj 1 gW
def z65(a:zW K ĩh H_):BC P w K mg Ë:=(Žd).oS P w Ë 0 gW L9 yT λb=>(zc (yX (i:=4) L9.nd rfl Ü (Ηc (ξ (U1 Ő (ZL (υb (yN Ϯf))))))) (zc (yX (i:=5) L9.nd rfl Ü (zS kB k9 (zS kB k9 Ć ō) ů)) (γ (yG īf qc Ϗa (zJ (γc (zB zY ņh))) ϲa) (ze (yX (i:=5) L9.nd rfl Ü (ε (zS yg yf Ć ō) íd))) (Ωa (zB ώh (Γ (Km (dh Oo uo Xy uo ía ĥf ía))))))))
abbrev Hi:Ù:=top 92
def YQ:zi [Żc,Řd,Ŋe,Ĕc,Öh,Ϸe,ķm,"_law_there"] ϡl (za Hi):=by ac_rfl
def B2:=HD ſg ϡl 1 Wt
def z5o(a:zW K ſg Hi):B2 P w K mg Ë:=(ũa).oS P w Ë 0 Wt YQ yT λb=>(zc (yX (i:=3) ōc rfl Ü zC) (zc (yX (i:=4) ōc rfl Ü zC) (Ζa ĉc (Αa (yo (i:=5) ōc rfl Ü)) (zc (yX (i:=6) ōc rfl Ü (Η (zS kA k8 Ć ů))) (zc (yX (i:=7) ōc rfl Ü (Η (zS kA k8 ŝb ů))) (zc (K_ (i:=3) OF Of ōc rfl Ü (zS Vn Vl ů (zQ ŝ zP (yN (y2q (Kj (zS Vn Vl öa Ϧa) (Kj (vN (l_ rfl) z6a rfl JA AC (wX (zJ öa) (ξ Ϧa))) (Kj (Η (zS yg yf öa Ϧa)) y2d))) Ī Ì)) ÿ))) (ze (yX (i:=4) ōc rfl Ü (zS vX u5 zC ů)))))) (yJ Ő))))
abbrev Hj:Ù:=top 95
def kG:zi [ęc,ϣb,ϔc,Čc,ϗe,Ĕc,Öh,Ϸe,ķm] îc (za Hj):=by ac_rfl
def B3:HT:=λP w K mg Ë=>wH P w K mg Ë ßh îc 1 (xL K km)
def z5p(a:zW K ßh Hj):B3 P w K mg Ë:=(Ņ).oM P w Ë 0 km kG vE λb=>(yR (vL (i:=2) Ũb rfl Ü Ì (vh (zS yj yi (zS yg yf Ēd Öa) zC))) (yR (vL (i:=3) Ũb rfl Ü Ì (xG (υ (Ωc (Ηc (wX (zJ (vC īf qc ŀh (zJ (yN Ϯf)) ϲa)) wg)))))) (yR (vL (i:=4) Ũb rfl Ü Ì Ìi) (yR (vL (i:=5) Ũb rfl Ü Ì äd) (yR (vL (i:=6) Ũb rfl Ü Ì äd) (yR (Ob ϴa rfl (tM rfl wQ Ő) (bQ (yo (i:=7) Ũb rfl Ü) rfl Ì) (yR (vL (i:=8) Ũb rfl Ü Ì (xG (Η (ε ŝb Ϧa)))) (yR (u4 Ϛg (ya (Xv Ŋa ćc äe (xG (Η (zS kA k8 ů öa))))) pC) (yR (z21 (i:=5) OF Of Ũb rfl Ü Ì (vh (zS Vn Vl öa (Kl Ŋa ŷk äe zC {rfl,rfl,rfl,rfl})))) (ya (vL (i:=6) Ũb rfl Ü Ì (xG (zS vX u5 zC öa)))))))) (ya (u4 Ϛg (Ρb (xG Ýb)) pC))))))))
abbrev Hh:Ù:=top 97
def L7:zi [îg,ïg,"_law_cells",ϔc,"_law_byte"] ĥn (za Hh):=by ac_rfl
def B1:HT:=λP w K mg Ë=>wH P w K mg Ë àh ĥn 1 (xL K U_)
def z5n(a:zW K àh Hh):B1 P w K mg Ë:=(Ņ).oM P w Ë 0 U_ L7 vE λb=>(yR (vL (i:=2) L7.nd rfl Ü Ì (ZB LD)) (yR (Ob ϴa rfl (pJ Ć) (Γb (yo (i:=3) L7.nd rfl Ü) (Γa (yo (i:=4) L7.nd rfl Ü))) (ya (Xv Ŋa (yS 2) Ő Êi))) (ya (k5 (z1q (ks:=őj) (Qa (ZB (W5 rfl vt Ŕd)) (Qa (ZB (yk (zB tK (zB tK ϫe)) Ķa)) (Qa (bP 2) (Qa äd (Qa äd z1r))))) Ī Ì)))))
abbrev Hq:Ù:=top 100
def dS:zi ßk ħn (za Hq):=by ac_rfl
variable(kM:mg Ļi=Æ)
def B6:=HD Īh ħn 1 X0
def z5v(a:zW K Īh Hq):B6 P w K mg Ë:=(Ņ).oS P w Ë 0 X0 dS yT λb=>(zc (N0 (i:=2) rfl dS.nd rfl rfl (vd (own:=[ϔc]) rfl) rfl (pJ (yN (y2v rfl JB (Γ (yN (y2s rfl rfl vt (zB ôc zN))))))) (Λa (Λ (Ιd (wu ßk [ϔc])))) (Λ (U6 (yG Er uo (zJ (zQ ŝ zP ôc Ő)) ía ł))) (Λ (Ωa (zB Ő (Γ (Κ ôc Ñb)))))) (Οd (yN (yk (zB ôc (zB (Μd (Γ ôc)) (Χ (zB ôc (zB ôc Ţa))))) Ām))))
abbrev Hl:Ù:=top 106
def Vw:zi [ęc,Ŭj,Ŵe,"_law_kinds",Ļe] Ϡl (za Hl):=by ac_rfl
def B5:=HD Ĉh Ϡl 1 qN
def z5r(a:zW K Ĉh Hl):B5 P w K mg Ë:=(ũa).oS P w Ë 0 qN Vw yT λb=>(zc (gE (i:=3) òe rfl Ü (yk (zB zY (zB zY (zB zY (zB zY (zB zY (zB zY (zB zY ęj))))))) (zy (zM (zM (zM (zM (zM (zM (zM (zM Òg)))))))) Ì))) (zc (J1 (i:=3) òe rfl Ü (yN (yk ęj (zy (zM Òg) Ì)))) (U5 3 (zc (yX (i:=4) òe rfl Ü (Ωc (Qx Ő Öa))) (Οa Ůk (zc (xI ŀn (ze (K_ (i:=4) OF Of òe rfl Ü (Ωc (Qx Ńd Öa)))) xY) (zc (xI (tP ō) (Φ (yk (zB (zS yg yf ů (zS vX u5 zC zC)) (Γ Ľg)) ŵb)) xY) (Ρc (Γ (zS yg yf ů Ľg))))) (xI Çj (Φ (yk Ϻc ęd)) xY) (zc (K_ (i:=4) OF Of òe rfl Ü ľg) (zc (xI őn (Ρc (Ν (zS yg yf ů Öa))) xY) (Ρc (Ν (ε (zS yg yf ů ľg) (vN (AG rfl) z6m rfl JC AE (ξ (y2h ÿ (eM zC) eK)))))))))))))
abbrev Hz:Ù:=top 107
def Kf:zi [āc,Ŵe,Ĕc,Ąa] Ĩn (za Hz):=by ac_rfl
def BB:=HD Ϫg Ĩn 1 Wv
def z64(a:zW K Ϫg Hz):BB P w K mg Ë:=(Ņ).oS P w Ë 0 Wv Kf yT λb=>(zc (gE (i:=2) Kf.nd rfl Ü ϱe) (Ζa Œd (Αa (yo (i:=3) Kf.nd rfl Ü)) (ze (Kz ϊd (ε (zS yg yf (di ãe ϊd ĵg) zC) (Ηc (ξ (zQ ŝ zP Ć Ő)))))) (U4 2)))
abbrev KA:Ù:=top 13
def Kg:zi [ž,"count","moved","fallen"] Ϟe (za KA):=by ac_rfl
variable(gm:wd mg Ĺm Àd)(kE:∀H,zd K H Àd Àd)(tu:BF P w K mg Ë)
def R_:=HD Ðh Ϟe 2 X4
def z6b(a:zW K Ðh KA):R_ P w K mg Ë:=(Ņ).oS P w Ë 1 X4 Kg yT λb=>(zc (yX (i:=2) Kg.nd rfl Ü (zS YH YG ÿ Ć)) (zc (yX (i:=3) Kg.nd rfl Ü (Υd (zB ō (zB Ŗe Ňh)))) (Ηa (Ρa (zB ō (zB zC Ŗn))) Ϭb)))
abbrev KB:Ù:=top 14
def dY:zi [ž,"count","fallen"] Ϟe (za KB):=by ac_rfl
def S0:=HD ϧg Ϟe 2 X5
def z6c(a:zW K ϧg KB):S0 P w K mg Ë:=(Ņ).oS P w Ë 1 X5 dY yT λb=>(zc (yX (i:=2) dY.nd rfl Ü (Υd (zB ÿ (zB (zS kB k9 Ć zC) Ňh)))) (Ηa ŵk (Γ ŝb)))
abbrev HB:Ù:=top 18
def y1f:zi [ž] [ž] (za HB):=by ac_rfl
def RW:=HD ħh [ž] 2 Wp
def z4w(a:zW K ħh HB):RW P w K mg Ë:=(ϧ).oS P w Ë 1 Wp y1f yT λd=>(Ε (ιc (Ψb (vd (own:=[ϟf]) rfl) (pJ Ůl) (Ηd (wu ["word"] [ϟf])) (θ (zr tu d rfl (Ρ (zB Ć íc)))))))
abbrev HW:Ù:=top 33
def y1s:zi [ŏb] [ŏb] (za HW):=by ac_rfl
variable(Q4:wd mg Ŏl ϗa)(Qk:∀H,zd K H ϗa ϗa)(Xj:Mz P w K mg Ë)
def Rm:=HD Ñh [ŏb] 2 Y_
def z5e(a:zW K Ñh HW):Rm P w K mg Ë:=(ϧ).oS P w Ë 1 Y_ y1s yT λb=>(Ε (Ψc (Ρ ěk)))
abbrev Gy:Ù:=top 36
def y1c:zi ŷh ŷh (za Gy):=by ac_rfl
def RU:=HD Ôh ŷh 2 Wo
def z4r(a:zW K Ôh Gy):RU P w K mg Ë:=(Ņ).oS P w Ë 1 Wo y1c yT λb=>(Ε (Ρa (zB Ŵk (zB zC ěk))))
abbrev KG:Ù:=top 39
def y27:zi śd śd (za KG):=by ac_rfl
variable(Q5:wd mg ļm Îa)(Ql:∀H,zd K H Îa Îa)
def S4:HT:=λP w K mg Ë=>wH P w K mg Ë Ĥh śd 2 (xL K Ww)
def z6h(a:zW K Ĥh KG):S4 P w K mg Ë:=(ũa).oM P w Ë 1 Ww y27 vE λb=>(ya (Xv Ŋa ϣ Ć (xG (Ρa (Χ (zB zC Ěk))))))
abbrev HG:Ù:=top 44
def y1i:zi ń ń (za HG):=by ac_rfl
variable(QP:BK P w K mg Ë)
def RZ:HT:=λP w K mg Ë=>wH P w K mg Ë îf ń 2 (xL K Ur)
def z50(a:zW K îf HG):RZ P w K mg Ë:=(Ņ).oM P w Ë 1 Ur y1i vE λb=>(Ιa (vh (zr QP b rfl (zB Þc (zB zC (zB zC ϕe))))))
abbrev KM:Ù:=top 47
def y28:zi Ġg Ġg (za KM):=by ac_rfl
variable(O6:Mq P w K mg Ë)(Cf:BJ P w K mg Ë)
def S7:=HD Ϥh Ġg 2 pV
def z6n(a:zW K Ϥh KM):S7 P w K mg Ë:=(Žd).oS P w Ë 1 pV y28 yT λb=>(ωd (Ψd (Χ ϫe)) (Ψd (Χ Ϭb)) (zr Cf b rfl (zB Ć (Χ (Γ (U1 Ñb (ZL (vC (xA (yV b)) y_ Ϗa ϕa Żf))))))))
abbrev K9:Ù:=top 48
def y22:zi ŵh ŵh (za K9):=by ac_rfl
def Rz:HT:=λP w K mg Ë=>wH P w K mg Ë Şh ŵh 2 (xL K X2)
def z69(a:zW K Şh K9):Rz P w K mg Ë:=(Ņ).oM P w Ë 1 X2 y22 vE λb=>(yR (Υb (xG (vC Ŗc y_ Õb ía ł))) (ya (Υb (xG (μb (Ρa (zB Ć (zB (zS kB k9 Ŗe zC) Ňh))))))))
abbrev KZ:Ù:=top 62
def y2c:zi [Ãb] [Ãb] (za KZ):=by ac_rfl
variable(Nl:mg "all"=Æ)(Iy:wd mg Ól Îa)(Ox:∀H,zd K H Îa Îa)
def SM:=HD Îh [Ãb] 2 TF
def z6x(a:zW K Îh KZ):SM P w K mg Ë:=(ϧ).oS P w Ë 1 TF y2c yT λb=>(Οa ϑj (Φ (eD ϱe ůl)) (xI (Ψa (W7 (tP łj)) (U8 (yG ϊc pF ĵc (zJ ůl) ł))) W6 xY) (zc (Ιb (vN (lf rfl) z4s rfl Nl lX (ξ (νa (vd (own:=[ŏb]) rfl) Øi (Δe (wu [Ãb] [ŏb])) (Λ (Ψc (zB Ć Ŗn))))))) (Φ (ηb (zB ÿ zN)))))
abbrev Gg:Ù:=jT Ęb 1
def y12:zi ļ ļ (za Gg):=by ac_rfl
variable(TZ:wt K [Ý] úb)(Ta:wt K [Ý] ϸa)(Cr:TH P w K mg Ë Ŀ žc 1 űn)
def z4e{f:Í}{a:ŀ}(d:wb K Åe ćl Gg f a):xO P w K mg Ë xK 3 f a ļ ůn:=d.oM P w mg Ë 2 Zm y12 vE λb=>(yR (g6 ϣ qt (z1o Cr b rfl (pA (tN ϣ Ta) (pA (tN ϣ TZ) p9)))) (yR (g6 ϣ jp äd) (ya (g6 ϣ XI äd))))
abbrev Gj:Ù:=jT Ęb 7
def y15:zi ļ ļ (za Gj):=by ac_rfl
variable(CZ:BE P w K mg Ë)
def z4h{f:Í}{a:ŀ}(d:wb K ňb Õl Gj f a):xO P w K mg Ë xK 2 f a ļ żn:=Ŕc P w mg Ë 1 Wh y15 yT λb=>(Φ (qj CZ b rfl (Γ ϊm)))
abbrev KC:Ù:=top 66
def y23:zi Ŷh Ŷh (za KC):=by ac_rfl
def S3:=HD āh Ŷh 2 gX
def z6d(a:zW K āh KC):S3 P w K mg Ë:=(Ņ).oS P w Ë 1 gX y23 yT λb=>(Ε (Ρa (zB ÿ (zB úa ϕe))))
abbrev KR:Ù:=top 67
def y29:zi Ϸg Ϸg (za KR):=by ac_rfl
def SH:=HD Ϧg Ϸg 2 jk
def z6s(a:zW K Ϧg KR):SH P w K mg Ë:=(ũa).oS P w Ë 1 jk y29 yT λb=>(Ε (zr QP b rfl (Ρ (zB úa (zB úa Ćc)))))
abbrev HQ:Ù:=top 78
def y1p:zi Ŧg Ŧg (za HQ):=by ac_rfl
variable(QN:BI P w K mg Ë)
def Ri:=HD Ϩh Ŧg 2 Ux
def z59(a:zW K Ϩh HQ):Ri P w K mg Ë:=(ũa).oS P w Ë 1 Ux y1p yT λb=>(γ (yG Om uo (zJ ŭc) ĵc ł) Ϯe (wA (zB ō (zB ŭc (Ρd (zB (zQ ŝ zP ÿ ŭc) (zB Ŗe zN))))) Ķa))
abbrev K6:Ù:=top 89
def LA:zi [Ëa,Ąa,Ĩh,ϗe,ĵm] ûf (za K6):=by ac_rfl
variable(vf:B8 P w K mg Ë)
def Rx:=HD Ąh ûf 2 T5
def z66(a:zW K Ąh K6):Rx P w K mg Ë:=(Ņ).oS P w Ë 1 T5 LA yT λb=>(zc (yX (i:=2) LA.nd rfl Ü Ìk) (zc (yX (i:=3) LA.nd rfl Ü ġl) (zc (yX (i:=4) LA.nd rfl Ü (yN (yk (zB zC (zB zC (zB zC (zB zC (zB Ðf (Ν ňn)))))) Ām))) (Ε (zQ ŝ zP (zS yg yf ů (γc (zB Ík (Ν Ík)))) ō)))))
abbrev Hy:Ù:=top 93
def dX:zi [Żc,Ļe,Čc,Öh] Ϣl (za Hy):=by ac_rfl
variable(CN:B9 P w K mg Ë)
def Rw:=HD Žg Ϣl 2 X1
def z63(a:zW K Žg Hy):Rw P w K mg Ë:=(ũa).oS P w Ë 1 X1 dX yT λb=>(zc (yX (i:=3) dX.nd rfl Ü (zr CN b rfl Ćc)) (γ Āg (Ηa (Η Ŷk) (Ν (νc (zS kA k8 Ŷk zC)))) (Ωa (zB (zS kA k8 Ć Ő) (zB (U1 (vC Er uo Ϸb ía ł) (ZL (νc (zS kA k8 Ć (zS kA k8 Ñb zC))))) zN)))))
abbrev Hv:Ù:=top 98
def Qu:zi [Ëa,Ĕc,Ąa,Ĩh,ϔc] [Ëa] (za Hv):=by ac_rfl
def Ru:=HD Úh [Ëa] 2 T3
def z60(a:zW K Úh Hv):Ru P w K mg Ë:=(ϧ).oS P w Ë 1 T3 Qu yT λb=>(zc (gE (i:=1) ϝf rfl Ü ĺd) (Ζa (tM rfl wQ (Η Œn)) (Αa (yo (i:=2) ϝf rfl Ü)) (zc (yX (i:=3) ϝf rfl Ü (Εa (Γ (υ ŝb)))) (zc (yX (i:=4) ϝf rfl Ü (θd (zB Ðf (zB ňn (Ν Ðf))))) (ze (xI (y3i (yG (Es ãe) En (zJ ů) (zJ (νa (vd (own:=Ϩl) rfl) (pJ Ć) (Λa (Ζd (wu [ĸm,Ĕc,Ąa,Ĩh,ϔc] Ϩl))) (Λ (zQ ŝ zP Ýb zC)))) ϲa)) (ze (Kz ši (Ωa (zB ů (Ν (θd (zB Ϣi (zB zC íc)))))))) xY)))) Ϗf))
abbrev Hu:Ù:=top 101
def Vy:zi [Ëa,"_law_letters",ŷb,Ąa,Ķm,"_law_letter"] [Ëa] (za Hu):=by ac_rfl
def Rt:=HD Ûh [Ëa] 2 T2
def z5z(a:zW K Ûh Hu):Rt P w K mg Ë:=(ϧ).oS P w Ë 1 T2 Vy yT λb=>(zc (yX (i:=1) ðe rfl Ü zY) (zc (gE (i:=2) ðe rfl Ü ĺd) (zc (gD ϴa rfl ĉc (Αa (yo (i:=3) ðe rfl Ü)) (zc (yX (i:=4) ðe rfl Ü (Εa (Γ (υ Ñb)))) (zc (yX (i:=5) ðe rfl Ü (zQ ŝ zP Ć (Η (ε Œn (zS vX u5 zC Ñb))))) (ze (Kz ϊd (ε (zS yg yf (zS bj bg zY (Η ů)) (z7 5)) (zS bj bg zY (Η (zS kA k8 ů zC))))))))) (zc (xI (Ο (zJ Ϲk) ía) (ze (eP ϊd zC (Κ (yN ýe) (Η (zS kA k8 ÿ zC))))) xY) (ze (U4 2))))))
abbrev Hg:Ù:=top 102
def kF:zi [Ëa,Ąa,ŷb,"_law_d",ϣb,"_law_n","_law_name",Ķm,ĵm] Ϧl (za Hg):=by ac_rfl
def Ro:=HD īh Ϧl 2 Uz
def z5m(a:zW K īh Hg):Ro P w K mg Ë:=(ũa).oS P w Ë 1 Uz kF yT λb=>(zc (yX (i:=3) Ād rfl Ü Ìk) (zc (yX (i:=4) Ād rfl Ü ùg) (zc (yX (i:=5) Ād rfl Ü ġl) (zc (yX (i:=6) Ād rfl Ü (zQ ŝ zP ō ùg)) (zc (yX (i:=7) Ād rfl Ü (Κ Ńd ùg)) (zc (gE (i:=8) Ād rfl Ü (yk (zB Ěj (zB Ěj (zB (Ωa (zB zY Řn)) (zB (wA (zB zY (zB Ő Ϻc)) Ķa) Žm)))) (zy (zM Ôk) Ì))) (zc (ςb (yk (zB Ϫf (zB Ϫf (zB Ϥi zN))) Ķa)) (zc (ςb (yk (zB (wA (zB (Κ (yN ýe) ώh) (zB Ő (zB ů (Ν (Η (zS kA k8 Ýb zC)))))) ÿm) Žm) ŵb)) (zc (ςb (yk (zB Ϥi (Ν (Κ (γc (zB (wA ņh (zy (zM yA) Ì)) (zB (wA (zB zY (zB Ő Ϭb)) Ķa) zN))) ώh))) ŵb)) (U5 8 (Ε (Κ äe Ϲk))))))))))))
abbrev Hm:Ù:=top 108
def pI:zi Ϥf Ϧk (za Hm):=by ac_rfl
variable(CQ:BB P w K mg Ë)(CB:B5 P w K mg Ë)
def Rp:=HD Þh Ϧk 2 T0
def z5s(a:zW K Þh Hm):Rp P w K mg Ë:=(Žd).oS P w Ë 1 T0 pI yT λb=>(zc (N1 (i:=4) Ĩb rfl Èb (νa (vd (own:=[ęc]) rfl) Øi (Λa (υc (wu Ϥf [ęc]))) (Λ (vC īf qc (zJ (Οb (z7 12))) (zJ Ńd) ϲa)))) (zc (δd (uq rfl ĩd Œd řj Šc (Λ (U1 (Κ íd Àc) (ZL (νc (zr vf b rfl (zB Ñb (Ν (υ Àc)))))))))) (zc (yX (i:=7) Ĩb rfl Ü (yN ϱe)) (zc (gE (i:=8) Ĩb rfl Èb ĺd) (zc (gD ϴa rfl (tM rfl wQ (zS yg yf ùe zC)) (Αa (yo (i:=9) Ĩb rfl Ü)) (zc (yX (i:=7) Ĩb rfl Ü (yN (qj CQ b rfl (Ρ ŗn)))) (zc (gE (i:=8) Ĩb rfl Èb (eD ϱe ùe)) (Ζa Œd ĥj (ze (xI (tP (Κ íd öa)) (zc (yX (i:=10) Ĩb rfl Ü (Τd Ŋk)) (ze (eP (qv 8) öa (zS kB k9 (Κ Ϧa (z7 10)) (Κ Ϧa öa))))) xY)) (δd (uq rfl (vd (own:=[Ąa]) rfl) Œd řj Šc (Λ (Ko (Κ Ýb Àc) (ZL (Km (dh Oo uo Oo uo (zJ ĵg) (zJ (di ãe (qv 8) Àc)) ía))))))))))) (U5 8 (zc (gE (i:=11) Ĩb rfl Ü ĺd) (zc (gD ϴa rfl Œd ĥj (ze (J1 (i:=11) Ĩb rfl Ü (yN (qj CB b rfl (zB Ŋk (zB (Κ äe öa) (Γ (Κ Ýb öa))))))))) (U5 11 (Ηa Śf ϋh))))))))))
abbrev Hc:Ù:=top 32
def y1w:zi [ŏb] [ŏb] (za Hc):=by ac_rfl
variable(QJ:Rm P w K mg Ë)
def Rn:=HD şh [ŏb] 3 Uy
def z5i(a:zW K şh Hc):Rn P w K mg Ë:=(ϧ).oS P w Ë 2 Uy y1w yT λb=>(γ (Ψa (W7 (tP (Qy .tuple rfl rfl kL gF Tn Ϗa))) (U8 (yG ϊc pF ĵc ía ł))) ām (U1 (zr QJ b rfl Ęh) (ZL (Ψc (zB Öa Ěk)))))
abbrev HU:Ù:=top 37
def y1r:zi [ľa] [ľa] (za HU):=by ac_rfl
variable(QB:RU P w K mg Ë)
def Rk:=HD ăh [ľa] 3 Yz
def z5c(a:zW K ăh HU):Rk P w K mg Ë:=(ϧ).oS P w Ë 2 Yz y1r yT λd=>(Φ (uq rfl (vd (own:=[ăb]) rfl) ĉc (γb (wu [ľa] [ăb])) Ēe (θ (zr QB d rfl ϰk))))
abbrev HP:Ù:=top 46
def dP:zi [ła,ýd,Łc] ń (za HP):=by ac_rfl
variable(Xk:Rz P w K mg Ë)(Cd:S7 P w K mg Ë)
def Rh:HT:=λP w K mg Ë=>wH P w K mg Ë ϯb ń 3 (xL K jh)
def z58(a:zW K ϯb HP):Rh P w K mg Ë:=(Ņ).oM P w Ë 2 jh dP vE λb=>(yR (vL (i:=2) dP.nd rfl Ü Ì (vh (zr Cd b rfl (Ζe (zB Þc (Γ (zQ ŝ zP (w8 ÿ tm) zY))))))) (yR (Υb (xG Ųc)) (yR (ψb (qZ Ųc p9)) (ςa (ωb (zJ úa)) (qA Ϭi úa (xG Ųc))))))
abbrev HE:Ù:=top 49
def dN:zi [ła,ýd,ž] ń (za HE):=by ac_rfl
variable(C5:M_ P w K mg Ë)
def RY:HT:=λP w K mg Ë=>wH P w K mg Ë ϴc ń 3 (xL K Zo)
def z4y(a:zW K ϴc HE):RY P w K mg Ë:=(Ņ).oM P w Ë 2 Zo dN vE λb=>(yR (vL (i:=2) dN.nd rfl Ü Ì (vh (zr C5 b rfl (Ζe (zB Þc zN))))) (yR (ψb (qZ ō p9)) (Ιa (xG ō))))
abbrev HJ:Ù:=top 51
def Kc:zi [ła,ýd,ž,Łc] ń (za HJ):=by ac_rfl
variable(CW:R_ P w K mg Ë)(CY:S0 P w K mg Ë)
def Rc:HT:=λP w K mg Ë=>wH P w K mg Ë ϋd ń 3 (xL K Yy)
def z53(a:zW K ϋd HJ):Rc P w K mg Ë:=(Ņ).oM P w Ë 2 Yy Kc vE λb=>(yR (vL (i:=2) Kc.nd rfl Ü Ì (vh Þc)) (yR (vL (i:=3) Kc.nd rfl Ü Ì (xG (ja İg (zr CW b rfl łn) (zr CY b rfl łn)))) (yR (γa (yG Op Oh (zJ ŀd) Ïe ł) (Υb (xG ŀd))) (yR (ψb (qZ ŀd p9)) (Ιa (xG ŀd))))))
abbrev Gx:Ù:=top 52
def y1b:zi ń ń (za Gx):=by ac_rfl
def RT:=HD Õh ń 3 Zn
def z4q(a:zW K Õh Gx):RT P w K mg Ë:=(Ņ).oS P w Ë 2 Zn y1b yT λb=>(Ε (zr QB b rfl (zB (zQ ŝ zP (w8 ÿ xq) úa) ϕe)))
abbrev Gh:Ù:=jT Ęb 8
def y13:zi Ũd Ũd (za Gh):=by ac_rfl
variable(Xh:Ms P w K mg Ë)
def z4f{f:Í}{b:ŀ}(d:wb K ëd ōl Gh f b):xO P w K mg Ë xK 3 f b Ũd žn:=Ŕc P w mg Ë 2 Wf y13 yT λa=>(zc (Ιb (zr QJ a rfl Ţa)) (Ε (zr Xh a rfl (zB ϊm Ţa))))
abbrev HS:Ù:=top 69
def Vv:zi [ýd,űa,ž,ġc,Âa,ăb] Ĥn (za HS):=by ac_rfl
variable(Cq:BZ K Yr)(VY:SH P w K mg Ë)(QF:Mv P w K mg Ë)(QL:BH P w K mg Ë)
def Rj:=HD Òh Ĥn 3 pT
def z5b(a:zW K Òh HS):Rj P w K mg Ë:=(Ņ).oS P w Ë 2 pT Vv yT λb=>(zc (Νd (zB zC (zB ŝe Ţa))) (Ζa (Kx rfl WB (yN (qj QF b rfl Ęh)) (y2i ÿ (eM zC) eK)) (eE (Θc (yo (i:=3) Vv.nd rfl Ü) (Γa (yo (i:=4) Vv.nd rfl Ü))) rfl rfl) (zc (yX (i:=5) Vv.nd rfl Ü (ja (Ο Ϸb (zJ zY)) (y2e gj kD Cq rfl ů) ů)) (ze (Νd (Χ (zB (zr QL b rfl (zB Öa Ϭb)) ŗn))))) (yJ ō)))
abbrev HC:Ù:=top 70
def y1g:zi [ž] [ž] (za HC):=by ac_rfl
variable(Xl:S3 P w K mg Ë)
def RX:=HD šh [ž] 3 gU
def z4x(a:zW K šh HC):RX P w K mg Ë:=(ϧ).oS P w Ë 2 gU y1g yT λb=>(Ε (Χc (Ρ (Γ ŝe))))
abbrev HV:Ù:=top 75
def dQ:zi [ž,ŉa,ġc,ăb] ϥl (za HV):=by ac_rfl
def Rl:=HD Šh ϥl 3 qM
def z5d(a:zW K Šh HV):Rl P w K mg Ë:=(ũa).oS P w Ë 2 qM dQ yT λb=>(zc (yX (i:=3) dQ.nd rfl Ü (Χc (Ρ (Γ (zr QL b rfl (zB Ć üf)))))) (γ (ωb Ħf) Èm (ja (yG Xy uo Ϸb (zJ (vN t9 tI rfl wP t8 (ξ ğg))) ł) (zQ ŝ zP ğg Ő) u9)))
abbrev K7:Ù:=top 90
def y20:zi [Ëa] [Ëa] (za K7):=by ac_rfl
variable(CT:Rx P w K mg Ë)
def Ry:=HD Øh [Ëa] 3 T6
def z67(a:zW K Øh K7):Ry P w K mg Ë:=(ϧ).oS P w Ë 2 T6 y20 yT λd=>(Φ (uq rfl ĩd ĉc (γb (wu [Ëa] ["_law_k"])) Ēe (θ (zr CT d rfl ϰk))))
abbrev Hx:Ù:=top 94
def Vz:zi [ęc,ϣb,Řd,Ļe,"_law_fell"] îc (za Hx):=by ac_rfl
variable(CP:Rw P w K mg Ë)(C9:B2 P w K mg Ë)(CS:BC P w K mg Ë)
def Rv:HT:=λP w K mg Ë=>wH P w K mg Ë ϫg îc 3 (xL K Zq)
def z62(a:zW K ϫg Hx):Rv P w K mg Ë:=(Ņ).oM P w Ë 2 Zq Vz vE λb=>(yR (vL (i:=2) Vz.nd rfl Ü Ì Ìi) (yR (u4 Ϛg (yR (EU (xG (zr CP b rfl (zB Öa (Χ Ęh)))) (Γb ϟj (Γa (yo (i:=4) Vz.nd rfl Ü)))) (ςa (yG Er uo ŀh ía ł) (qA ćc zC Êi))) (ya (u4 (uK Ůk) (ya (vL (i:=3) Vz.nd rfl Ü Ì (vh (zr C9 b rfl (zB Öa (Χ (zB Ēd zN))))))) (ya (z23 rfl ϟj rfl Ì ćc zC (vh (zr CS b rfl (zB Öa (Χ (zB Ēd (Γ (Οb ŷk)))))))))))) (yR (qA ćc zC (xG (vC Ŗc y_ Ϸb ía ł))) (yR (qA ćc zC (xG (vC Om uo Ϸb ía ł))) (ςa ŀn (qA ćc Öa (xG Ő)))))))
abbrev Hs:Ù:=top 99
def Ke:zi [Ōe,Ëa,Ĕc,Ąa] Ħn (za Hs):=by ac_rfl
variable(NL:qq P w K mg Ë Ý Ãb ļ 1 Żn)(NI:qq P w K mg Ë Ý ϥb ļ 1 Žn)(NJ:qq P w K mg Ë Ý ňb ļ 2 żn)(J5:qq P w K mg Ë Ý čb ļ 1 Źn)(NO:qq P w K mg Ë Ý Ãe ļ 1 źn)(J6:qq P w K mg Ë Ý ħc ļ 1 Ÿn)
def B7:=HD ąh Ħn 3 Wu
def z5x(a:zW K ąh Hs):B7 P w K mg Ë:=(Ņ).oS P w Ë 2 Wu Ke yT λb=>(zc (gE (i:=2) Ke.nd rfl Èb LD) (zc (gD ϴa rfl (pJ (Κ (yN (yk (zB (Χb (L6 (is:=Àh) rfl)) (zB (Χb (L6 (is:=Ϲg) rfl)) (zB (Χb (L6 (is:=ϻg) rfl)) (Γ (Χb (L6 (is:=Ϻg) rfl)))))) ÿm)) Ľg)) (Αa (yo (i:=3) Ke.nd rfl Ü)) (ze (xI Ŀd (Χa (YR NL b ÿ)) (ze (xI Ŀd (Χa (YR NI b ÿ)) (ze (xI Ŀd (Χa (YR NJ b ÿ)) (ze (xI Ŀd (Χa (YR J5 b ÿ)) (ze (xI Ŀd (Χa (YR NO b ÿ)) (Χa (YR J6 b ÿ))))))))))))) (U5 2 (Οd (yN (uq rfl ĩd ĉc (Λa (Φb (yo (i:=4) (show(wu [Ōe,ĸm,Ĕc,Ąa] [Ąa]).Nodup by rw[Ço]) rfl Ü))) Šc (Φb (zQ ŝ zP ō ů))))))))
abbrev Ho:Ù:=top 103
def Vx:zi [ϻa,ôk,Čc,Ëa,ŷb,Ļd,āc] īn (za Ho):=by ac_rfl
variable(gs:B4 P w K mg Ë)(CL:Rt P w K mg Ë)(C7:Ro P w K mg Ë)
def Rr:=HD Ýh īn 3 T1
def z5u(a:zW K Ýh Ho):Rr P w K mg Ë:=(Ņ).oS P w Ë 2 T1 Vx yT λb=>(zc (yX (i:=2) ñe rfl Èb (υ (Η (Φc (zB ÿ Ţa))))) (zc (yX (i:=3) ñe rfl Èb (Φc (Ρ (Γ ŭc)))) (zc (yX (i:=4) ñe rfl Èb (yN (qj CL b rfl Ϭb))) (zc (N0 (i:=5) rfl ñe rfl rfl ĩd rfl ĉc Ŵi Šc (Λ (zS yj yi (zr vf b rfl (zB Ő (Γ (υ Ϧa)))) (zS yg yf ō zC)))) (zc (N0 (i:=6) rfl ñe rfl rfl ĩd rfl (tM rfl wQ ō) Ŵi Šc (Λ (zr C7 b rfl (zB (Φc (Ρ (Γ (zS yg yf ŭc Ϧa)))) (zB Ϧa Ϻc))))) (Ε (wA (zB öa (zB Ýb Ϻc)) Ķa)))))))
abbrev HA:Ù:=top 31
def Kb:zi [ňb,Âa,"pair"] [ňb] (za HA):=by ac_rfl
variable(C4:Rn P w K mg Ë)
def RV:=HD Óh [ňb] 4 Yx
def z4v(a:zW K Óh HA):RV P w K mg Ë:=(ϧ).oS P w Ë 3 Yx Kb yT λb=>(zc (gE (i:=1) Kb.nd rfl Ü LD) (Οa ϑj (ze Ϗf) (Ιb łj) (Ζa Øi (Αa (yo (i:=2) Kb.nd rfl Ü)) (zc (Ιb (zr C4 b rfl Ćc)) (zc (xI (yG (qd ãe) qc (zJ Ųc) (y0z 1) ϲa) W6 xY) (ze (YT ãe ši Ųc Ųc)))) Ϗf)))
abbrev KU:Ù:=top 38
def y2a:zi ϸc ϸc (za KU):=by ac_rfl
variable(Ci:BL P w K mg Ë)(QH:Rk P w K mg Ë)
def SJ:=HD Ŝh ϸc 4 T9
def z6u(a:zW K Ŝh KU):SJ P w K mg Ë:=(Ņ).oS P w Ë 3 T9 y2a yT λb=>(Ε (zr Ci b rfl (Γ (νa (vd (own:=[þd]) rfl) (pJ äk) (Λa (Φb (Κd (wu [Âa,Ġn] [þd])))) (Φb (zr Xh b rfl (Ρ üf)))))))
abbrev KH:Ù:=top 40
def Kh:zi [Âa,ľa,ž,þd,ëd] śd (za KH):=by ac_rfl
variable(QM:S4 P w K mg Ë)(Fp:RW P w K mg Ë)
def S5:HT:=λP w K mg Ë=>wH P w K mg Ë ģh śd 4 (xL K T8)
def z6i(a:zW K ģh KH):S5 P w K mg Ë:=(ũa).oM P w Ë 3 T8 Kh vE λb=>(ya (Ob ϴa rfl (Kx rfl WB äk (zr Fp b rfl Ćc)) (Γb (yo (i:=3) Kh.nd rfl Ü) (Γa (yo (i:=4) Kh.nd rfl Ü))) (ψ (jX QM b rfl (pA ϣ (qZ Ő (qZ ů p9)))))))
abbrev HH:Ù:=top 53
def y1j:zi ń ń (za HH):=by ac_rfl
variable(Z7:RT P w K mg Ë)
def Ra:HT:=λP w K mg Ë=>wH P w K mg Ë íf ń 4 (xL K Us)
def z51(a:zW K íf HH):Ra P w K mg Ë:=(Ņ).oM P w Ë 3 Us y1j vE λb=>(Ιa (vh (zr Xh b rfl ϐj)))
abbrev HM:Ù:=top 55
def y1n:zi ń ń (za HM):=by ac_rfl
def Rf:HT:=λP w K mg Ë=>wH P w K mg Ë Òf ń 4 (xL K Uv)
def z56(a:zW K Òf HM):Rf P w K mg Ë:=(Ņ).oM P w Ë 3 Uv y1n vE λb=>(ψ (jX QM b rfl ąj))
abbrev KJ:Ù:=top 74
def Qv:zi ůj [ž] (za KJ):=by ac_rfl
variable(QC:RX P w K mg Ë)(C6:B0 P w K mg Ë)(C2:Rl P w K mg Ë)(QK:Mx P w K mg Ë)(C1:Rj P w K mg Ë)
def S6:=HD Ϧh [ž] 4 pU
def z6j(a:zW K Ϧh KJ):S6 P w K mg Ë:=(ϧ).oS P w Ë 3 pU Qv yT λb=>(zc (yX (i:=1) Ϝf rfl Ü (zr QC b rfl Ŕd)) (zc (yX (i:=2) Ϝf rfl Èb (zr C6 b rfl Ţa)) (zc ϵi (zc (yX (i:=3) Ϝf rfl Ü (ιc (ε (yN (yk üf ęd)) (νa āk (pJ (yN (qj QF b rfl üf))) (Λa (Ζd (wu ůj [ġc]))) (Λ (zr C2 b rfl (Ρ (zB ŝb (Ν (z7 5)))))))))) (Οa (yG īf qc Ïe Ϸb ϲa) Ϯe (yX (i:=4) Ϝf rfl Ü (ja (tP (zr QK b rfl Ţa)) (zr VY b rfl (Ρ (zB ŝe íc))) ÿ)) (ze (yJ (ja (Ο (zJ (zr C1 b rfl (zB Ő Ţa))) (zJ ů)) Ő u9))))))))
abbrev Hn:Ù:=top 96
def y1z:zi îc îc (za Hn):=by ac_rfl
variable(CA:B3 P w K mg Ë)(CO:Rv P w K mg Ë)
def Rq:HT:=λP w K mg Ë=>wH P w K mg Ë ćh îc 4 (xL K jj)
def z5t(a:zW K ćh Hn):Rq P w K mg Ë:=(Ņ).oM P w Ë 3 jj y1z vE λb=>(ya (u4 Ñi (Ρb (xG Öa)) (ya (u4 Ñi (Ρb (vh (ε (zS yj yi Ēd zC) ľg))) (ya (u4 Ñi (Ρb Ìi) (ya (u4 (uK őn) (ψ (jX CA b rfl Ïk)) (ψ (jX CO b rfl Ïk))))))))))
abbrev HI:Ù:=top 54
def y1k:zi ń ń (za HI):=by ac_rfl
variable(Cg:SJ P w K mg Ë)
def Rb:HT:=λP w K mg Ë=>wH P w K mg Ë Óf ń 5 (xL K Ut)
def z52(a:zW K Óf HI):Rb P w K mg Ë:=(Ņ).oM P w Ë 4 Ut y1k vE λb=>(Ιa (vh (zr Cg b rfl ϐj)))
abbrev HN:Ù:=top 56
def y1o:zi ń ń (za HN):=by ac_rfl
variable(Ca:S5 P w K mg Ë)
def Rg:HT:=λP w K mg Ë=>wH P w K mg Ë ϵe ń 5 (xL K Uw)
def z57(a:zW K ϵe HN):Rg P w K mg Ë:=(Ņ).oM P w Ë 4 Uw y1o vE λb=>(ψ (jX Ca b rfl ąj))
abbrev Gf:Ù:=jT Ęb 0
def y11:zi ĕd ĕd (za Gf):=by ac_rfl
variable(NG:qq P w K mg Ë Ý Åe ļ 3 ůn)(Cj:SM P w K mg Ë)(Fo:RV P w K mg Ë)
def z4d{f:Í}{b:ŀ}(d:wb K Ϙa Ŝk Gf f b):xO P w K mg Ë xK 5 f b ĕd Ųn:=d.oM P w mg Ë 4 We y11 vE λa=>(yR (g6 ϣ XJ (xG Ć)) (yR (g6 ϣ TY (xG ō)) (yR (g6 ϣ Ta (EL (EM (qj Cj a rfl Ϭb)))) (yR (g6 ϣ TZ (EL (EM (qj Fo a rfl Ϻc)))) (ψ (bO NG a ϣ))))))
abbrev KP:Ù:=top 77
def LB:zi [ŏ,ľa,ýd,űa,čb] ĭn (za KP):=by ac_rfl
variable(Cc:S6 P w K mg Ë)(C3:Mw P w K mg Ë)(C0:Ri P w K mg Ë)
def S9:=HD ŝh ĭn 5 pW
def z6q(a:zW K ŝh KP):S9 P w K mg Ë:=(Ņ).oS P w Ë 4 pW LB yT λb=>(Οa (Ψa (yG Xy uo Õb ía ł) (U8 (yG Om uo Õb ĵc ł))) Ϯe (yX (i:=2) LB.nd rfl Ü (zr Cc b rfl ύh)) (zc ϵi (zc (yX (i:=3) LB.nd rfl Ü (zr QC b rfl ύh)) (zc (xI (tP (zr C3 b rfl Ϭb)) (Ε (zr C0 b rfl (Ρ (zB Ć Ćc)))) xY) (γ (tP (zr QK b rfl Ϭb)) (zc (yX (i:=4) LB.nd rfl Ü ŝe) (Ε (ιd (Ρd (zB (Χc (zB Ęe (Ν íd))) (Ν Ļn)))))) (ιd (zB u9 zN)))))))
abbrev Hr:Ù:=top 104
def dU:zi [āc,Ļd,ŷb,ϣb,ęc] ϥk (za Hr):=by ac_rfl
variable(CF:Rq P w K mg Ë)
def Rs:HT:=λP w K mg Ë=>wH P w K mg Ë Ćh ϥk 5 (xL K kq)
def z5w(a:zW K Ćh Hr):Rs P w K mg Ë:=(Žd).oM P w Ë 4 kq dU vE λb=>(yR (γa (Ψa (Ο (zJ èg) ĵc) (U8 (Ο (zJ (Οb ŉk)) ϕa))) ĕg) (yR (vL (i:=4) dU.nd rfl Ü Ì (vh ŉk)) (yR ϐk (yR ϐk (yR (u4 (uK (yG (Es Ŋa) En Äi (zJ Ńd) ϲa)) (ψ (jX CF b rfl (qZ ů (pA (yS 3) p9)))) (ςa (Ψa (Ο Äi ϕa) (U8 (Ο (zJ (Κ èg (Qx Ńd Ļn))) (zJ (vC Ŗc y_ Äi ϕa ł))))) (EW Ŋa (yS 3) (xG (Τd íd))))) Çi)))))
abbrev HK:Ù:=top 58
def y1l:zi ń ń (za HK):=by ac_rfl
variable(Ix:wd mg "DEEDS" Ϧn)(IN:Zt K w mg WZ qx Ab)(Fy:Mu P w K mg Ë)(Fu:RZ P w K mg Ë)(Fq:Mt P w K mg Ë)(Xi:Rh P w K mg Ë)(QD:RY P w K mg Ë)(O7:Rc P w K mg Ë)(Fv:Ra P w K mg Ë)(Fw:Rb P w K mg Ë)(Fz:Rf P w K mg Ë)(F_:Rg P w K mg Ë)
def Re:HT:=λP w K mg Ë=>wH P w K mg Ë ϩh ń 6 (xL K kZ)
def z54(a:zW K ϩh HK):Re P w K mg Ë:=(Ņ).oM P w Ë 5 kZ y1l vE λb=>(ςa (y3h Ix IN rfl úa) (jB (z1m Ix IN rfl (óa Fy Ì (óa Fu Ì (óa Fq Ì (óa Xi Ì (óa Xi Ì (óa Xi Ì (óa Xi Ì (óa Xi Ì (óa QD Ì (óa QD Ì (óa QD Ì (óa O7 Ì (óa O7 Ì (óa Fv Ì (óa Fw Ì (óa Fz Ì (óa F_ Ì vS.nil))))))))))))))))) b úa (pA ϣ (qZ Ć p9)))))
abbrev KQ:Ù:=top 81
def V_:zi [ŏ,Ϫ,ľa,Łc] [ŏ] (za KQ):=by ac_rfl
variable(O8:S9 P w K mg Ë)
def SC:=HD ϣh [ŏ] 6 Wy
def z6r(a:zW K ϣh KQ):SC P w K mg Ë:=(ϧ).oS P w Ë 5 Wy V_ yT λb=>(zc (gE (i:=1) V_.nd rfl Ü LD) (zc (yX (i:=2) V_.nd rfl Ü zC) (zc ϴi (zc (y3g ϴa (yG Op Oh Ϸb Ïe ł) (zc (YT Ŋa ši ō Ő) (zc (yX (i:=2) V_.nd rfl Ü ŀd) (ze ϴi)))) (ze Ϗf)))))
abbrev Gp:Ù:=jT Ęb 3
def dJ:zi [ōi,Łc] ļ (za Gp):=by ac_rfl
variable(Fx:Re P w K mg Ë)(CV:BD P w K mg Ë)
def z4l{f:Í}{b:ŀ}(d:wb K Óe Ōl Gp f b):xO P w K mg Ë xK 7 f b ļ Ůn:=d.oM P w mg Ë 6 gT dJ vE λa=>(yR (γa (tP (YR J6 a ÿ)) ĕg) (yR (vL (i:=1) dJ.nd rfl Ü Ì (vh Ęj)) (yR (jB (jX Fx a rfl (pA (tN ϣ qt) (qZ Őe p9)))) (yR (g6 ϣ jp (vh (ja (tP (zr CV a rfl (zB ϖe (Γ Őe)))) Őe Őe))) (yR (z22 ϣ XI zC) Çi)))))
abbrev KW:Ù:=top 79
def U0:zi [ŏ,Ϫ,œa,ľa,Łc,"target"] [ŏ] (za KW):=by ac_rfl
variable(QO:SC P w K mg Ë)(Fn:Mr P w K mg Ë)
def SK:=HD Ïh [ŏ] 7 TB
def z6v(a:zW K Ïh KW):SK P w K mg Ë:=(ϧ).oS P w Ë 6 TB U0 yT λb=>(zc (yX (i:=1) ôe rfl Ü (yN Ál)) (zc (yX (i:=2) ôe rfl Ü (zr Fn b rfl Ţa)) (Οa (yG ϊc pF Ħf ĵc ł) (ze (yJ ō)) (y3f (y3d ϴa rfl (y2x (i:=1) rfl Ϫi) (eE (Θc (yo (i:=3) ôe rfl Ü) (Γa (yo (i:=4) ôe rfl Ü))) rfl rfl) (zc (yX (i:=5) ôe rfl Ü Èj) (ze (xI (W8 (eW (yG Op Oh ĥf Ïe ł) (eW (yG ϊc pF ĥf Ħf ł) (y3r (yG (Es Ŋa) En ĥf Õb ϲa))))) Èm xY)))) (mq (mv 1))) Ϯe)))
abbrev KN:Ù:=top 80
def da:zi [ŏ,"wrong"] [ŏ] (za KN):=by ac_rfl
variable(Ch:SK P w K mg Ë)
def S8:=HD Ģh [ŏ] 8 X6
def z6o(a:zW K Ģh KN):S8 P w K mg Ë:=(ϧ).oS P w Ë 7 X6 da yT λb=>(zc (yX (i:=1) da.nd rfl Ü (zr Ch b rfl Ŕd)) (zc (xI (yG Op Oh Õb Ïe ł) W6 xY) (Φ Ál)))
abbrev Gv:Ù:=jT (top 84) 0
def dL:zi [ōi,ŏ,Ãb,ňb,Ϫ] Ĥe (za Gv):=by ac_rfl
variable(NT:Je P w K mg Ë ąn Ϙa ĕd 5 Ųn)(Ce:S8 P w K mg Ë)
def z4o{f:Í}{b:ŀ}(d:wb K Ϙa Ök Gv f b):xO P w K mg Ë xK 9 f b Ĥe Űn:=d.oM P w mg Ë 8 Wm dL vE λa=>(yR (vL (i:=4) dL.nd rfl Ü Ì (EL (EM (qj Ce a rfl Ţa)))) (ψ (z1l (pl:=_) NT a rfl (ES 0 (bR Êi (bR (vh ĳj) (ES 2 (ES 3 z1y))))))))
abbrev W4:Ù:=top 109
def qi:zi [ϻa,āc,Ļd,ŷb,"_law_code_here","_law_starts_here",îg,ïg,"_law_handed",Ōe,ϣb,Ϸe,"_law_at","_law_due_here","_law_near"] [ϻa] (za W4):=by ac_rfl
variable(Cs:TH P w K mg Ë Ý Ĥe 9 Űn)(NN:qq P w K mg Ë Ý Óe ļ 7 Ůn)(NH:qq P w K mg Ë Ý ëd Ũd 3 žn)(C8:B1 P w K mg Ë)(CJ:Rs P w K mg Ë)(CG:Rr P w K mg Ë)(CC:Rp P w K mg Ë)(CU:Ry P w K mg Ë)(CM:Ru P w K mg Ë)(CI:B6 P w K mg Ë)(CK:B7 P w K mg Ë)
def z5l{f:Í}{c:ŀ}(d:Fun K ϭa ϭa W4 f c):xO P w K mg Ë xK 11 f c [ϻa] Ŭi:=z0u d qi Ì vE y0n λe A b s H E a=>(yR (EU (xG (zr CG a rfl (zB ÿ íc))) (z1u (ZH (n:=3) rfl (uW (yo (i:=1) Ŗa rfl Ü) (uW (yo (i:=2) Ŗa rfl Ü) (Γa (yo (i:=3) Ŗa rfl Ü))))) rfl rfl rfl Ì Ì Ì)) (yR (EU (xG (zr CC a rfl (zB Ć (Χ (zB Ő όh))))) (Γb (yo (i:=4) Ŗa rfl Ü) (Γa (yo (i:=5) Ŗa rfl Ü)))) (yR (vL (i:=6) Ŗa rfl Ü Ì (xG (yN (qj CU a rfl όh)))) (yR (vL (i:=7) Ŗa rfl Ü Ì (xG (yN (qj CM a rfl όh)))) (yR (vL (i:=8) Ŗa rfl Ü Ì (z1n (ER (ZB (W5 rfl vt Ϻc)) (ER (ZB (ηb Řn)) (ER (ZB (ηb ϋh)) z1x))))) (yR (vL (i:=9) Ŗa rfl Ü Ì (z1p Cs a rfl (z1z 8))) (yR (νb Žf äe (yN (yk (zB ů (zB öa ϋh)) Ķa))) (yR (EV (U2 (k:=0) Ŝi)) (yR (EV (U2 (k:=1) Ŝi)) (yR (EV (U2 (k:=2) Ŝi)) (yR (vL (i:=10) Ŗa rfl Ü Ì (jX C8 a rfl (qZ öa (qZ Ϧa p9)))) (yR (Ob ϴa rfl ĉc (bQ (yo (i:=11) Ŗa rfl Ü) rfl Ì) (yR (vL (i:=12) Ŗa rfl Ü Ì (vh Įe)) (yR (EW Ři ĥi (xG (zQ ĺb zP Ýb Àc))) (yR (vL (i:=13) Ŗa rfl Ü Ì (vh (zr CI a rfl (zB (z7 10) (Γ (Ko (vC ĩg y_ (zJ Àc) (zJ ĳj) Żf) (ZL (vC ĩg y_ (zJ (zQ ĺb zP (zQ ĺb zP Ć Àc) zC)) ϕa Żf)))))))) (yR (EW Ři ĥi (xG Àc)) (yR (νb Žf (zr CK a rfl (zB ři (Γ (zS yg yf ϔi Śf)))) (z7 13)) (yR (u4 (z26 (pG Žf) pF (bN (IH a) Oi rfl kM VF (bO NN a (yS 9))) (bN (IH a) Oi rfl kM VF (jX CJ a rfl (qZ Ć (qZ ō (qZ Ő (pA ĥi p9)))))) ł) Çi pC) (yR (vL (i:=14) Ŗa rfl Ü Ì (vh (Η (ε (zQ ĺb zP Įe (zS yj yi Śf zC)) Śf)))) (ya (νb Žf (Φd (y2g NH a ři (Γ (z7 14)))) (Φd (Kl Ři Įe (z7 14) zC {rfl,rfl,rfl,rfl})))))))))))) (ya (k5 (vh (Δc (YR J5 a ři) (zQ ĺb zP Ýb Įe)))))))))))))))))
#print a
#print a
def all_mk{l:Űh}{w:è}{K:Ð}{h:Heap}{a:Ç->Ê Value}(X:Ţ h)(G:ĳa ē a)(hfa:a ϭa=À (.ref fa))(a0:zW K Ăh HZ)(a1:zW K øi Gw)(a2:zW K õi KO)(a3:zW K ļi KE)(a4:zW K Āh KS)(a5:zW K ϥh KL)(a6:zW K śh KY)(a7:zW K ĥh KD)(a8:zW K Ţh G_)(a9:TK K Ŀ Òl Gu žc)(a10:pX K ėf HL z)(a11:pX K ïf HF E)(a12:zW K ϧh He)(a13:zW K öi K8)(a14:jK K Ý Ý ħc Ôl Go ļ)(a15:jK K Ý Ý Ãb Ķk Gm ļ)(a16:jK K Ý Ý ϥb Ćl Gi ļ)(a17:jK K Ý Ý čb ąl Gk ļ)(a18:jK K Ý Ý Ãe Ąl Gq ļ)(a19:zW K Şg KF)(a20:zW K ňg HR)(a21:zW K Żg Hf)(a22:zW K żg HY)(a23:zW K Ϩg HX)(a24:zW K Ϫh Gz)(a25:zW K žg Hk)(a26:zW K Üh Ht)(a27:zW K Ùh Hw)(a28:zW K ĩh H_)(a29:zW K ſg Hi)(a30:zW K ßh Hj)(a31:zW K àh Hh)(a32:zW K Īh Hq)(a33:zW K Ĉh Hl)(a34:zW K Ϫg Hz)(a35:zW K Ðh KA)(a36:zW K ϧg KB)(a37:zW K ħh HB)(a38:zW K Ñh HW)(a39:zW K Ôh Gy)(a40:zW K Ĥh KG)(T:pX K îf HG J)(a42:zW K Ϥh KM)(a43:zW K Şh K9)(a44:zW K Îh KZ)(a45:jK K Ý Ý Åe ćl Gg ļ)(a46:jK K Ý Ý ňb Õl Gj ļ)(a47:zW K āh KC)(a48:zW K Ϧg KR)(a49:zW K Ϩh HQ)(a50:zW K Ąh K6)(a51:zW K Žg Hy)(a52:zW K Úh Hv)(a53:zW K Ûh Hu)(a54:zW K īh Hg)(a55:zW K Þh Hm)(a56:zW K şh Hc)(a57:zW K ăh HU)(d:pX K ϯb HP b)(m:pX K ϴc HE c)(A:pX K ϋd HJ k)(a61:zW K Õh Gx)(a62:jK K Ý Ý ëd ōl Gh Ũd)(a63:zW K Òh HS)(a64:zW K šh HC)(a65:zW K Šh HV)(a66:zW K Øh K7)(a67:zW K ϫg Hx)(a68:zW K ąh Hs)(a69:zW K Ýh Ho)(a70:zW K Óh HA)(a71:zW K Ŝh KU)(a72:zW K ģh KH)(S:pX K íf HH F)(a74:pX K Òf HM C)(a75:zW K Ϧh KJ)(a76:zW K ćh Hn)(Z:pX K Óf HI L)(Y:pX K ϵe HN B)(a79:Jc K ąn Ϙa Ŝk Gf ĕd)(a80:zW K ŝh KP)(a81:zW K Ćh Hr)(a82:zW K ϩh HK)(a83:zW K ϣh KQ)(a84:jK K Ý Ý Óe Ōl Gp ļ)(a85:zW K Ïh KW)(a86:zW K Ģh KN)(a87:TK K Ý Ök Gv Ĥe)(a88:ſ K ē ϭa=À (À (.ref y)))(l88:Ϗ y=Ir ϭa W4 oc88 od88 Q u q r t j p)(c88:ĕb K j ϭa=Å)(k88:áa K (.ref y)=Å)(z40:Gn K Āc)(z3z:Gn K Ëc)(z3x:Gn K Ôe)(z47:Gn K "sum")(z49:Gn K Đa)(z46:Gn K ćb)(z42:Gn K ę)(z3y:Gn K ŷ)(z48:Gn K ż)(z43:Gn K Ϭa)(z41:Gn K "len")(z44:Gn K Ěb)(z45:Gn K Ļi)(z3w:Gn K "all")(XI:wt K [Ý] šb)(jp:wt K [Ý] Īb)(TY:wt K [Ý] œa)(TZ:wt K [Ý] úb)(Ta:wt K [Ý] ϸa)(x:wt K [Ŀ] Âa)(P:wt K [Ý] ła)(XJ:wt K [Ý] Ϫ)(N:wt K [Ŀ] ϒa)(f:wt K [Ŀ] ŏ)(z2q:Gs K "DEEDS" Ϧn)(z31:Dc K w WZ [(øa,y58,.ref z),(ĩa,y64,.ref J),(Ϩa,y6d,.ref E),(įa,y6k,.ref b),(ϩa,y6p,.ref b),(ŷa,y6u,.ref b),(ϧa,y6y,.ref b),(Ĩa,y72,.ref b),(Įa,y76,.ref c),(ŗa,y79,.ref c),(äb,y5f,.ref c),(Ña,y5i,.ref k),(Ða,y5l,.ref k),(Ħa,y5o,.ref F),(Þa,y5r,.ref L),(ña,y5u,.ref C),(Ýa,y5x,.ref B)])(z2m:Gs K "BEYOND" (.int 4294967296 y4v))(z2o:Gs K Ļm ďf)(bZ:Tq K Æ WY [.int 0 y90,.int 8 y92,.int 16 y94,.int 24 y96])(z2t:Gs K "MARKS" Ďf)(ba:Tq K Æ Yr [.str ąa y91,.str ϔa y93,.str ěb y95])(z2w:Gs K ăl Ϥn)(z33:Dc K w Wb [(øa,y5c,.int 16 y85),(ĩa,y68,.int 16 y8h),(Ña,y6h,.int 5 y8l),(Ða,y6m,.int 5 y8n),(Ħa,y6r,.int 8 y8p),(ña,y6w,.int 8 y8r),(Þa,y70,.int 8 y8t),(Ýa,y74,.int 8 y8v)])(z2v:Gs K ãm (.int 0 y4x))(z2x:Gs K "PLACES" ϣn)(z34:Dc K w Wc [(ŉa,y5d,.ref Py),("d",y69,.ref RA),("s",y6i,.ref RE),(Ēb,y6n,.ref RG),(Ϧm,y6s,.ref RI)])(z36:Tp K Py [.int 27 y9h,.int 5 y9i])(z3i:Tp K RA [.int 24 x07,.int 3 x09])(z3m:Tp K RE [.int 21 x0d,.int 3 x0f])(z3o:Tp K RG [.int 24 x0h,.int 2 x0j])(z3q:Tp K RI [.int 0 x0l,.int 5 x0n])(z2s:Gs K "FIELDS" ϥn)(z32:Dc K w Wa [(ľf,y5a,.ref Px),(øa,y66,.ref R9),(ĩa,y6f,.ref RD),(Ϩa,y6l,.ref RF),(įa,y6q,.ref RH),(ϩa,y6v,.ref RL),(ŷa,y6z,.ref RM),(ϧa,y73,.ref RN),(Įa,y77,.ref RO),(ŗa,y7a,.ref RP),(äb,y5g,.ref Pz),(Ĩa,y5j,.ref P_),(Ña,y5m,.ref R0),(Ða,y5p,.ref R1),(Ħa,y5s,.ref R3),(ña,y5v,.ref R4),(Þa,y5y,.ref R5),(Ýa,y60,.ref R6),(àa,y61,.ref R7),(ãa,y62,.ref R8),(ğa,y6a,.ref RB),(şb,y6b,.ref RC)])(z35:Tp K Px [.str ũf y9g])(z3h:Tp K R9 [.str "d" x06,.str "n" x08])(z3l:Tp K RD [.str "d" x0c,.str "n" x0e])(z3n:Tp K RF [.str "d" x0g,.str "s" x0i])(z3p:Tp K RH [.str "d" x0k,.str "s" x0m])(z3r:Tp K RL [.str "d" x0o,.str "s" x0p])(z3s:Tp K RM [.str "d" x0q,.str "s" x0r])(z3t:Tp K RN [.str "d" x0s,.str "s" x0t])(z3u:Tp K RO [.str "d" x0u,.str "s" x0v])(z3v:Tp K RP [.str "d" x0w,.str "s" x0x])(z37:Tp K Pz [.str "d" y9j,.str "s" y9k])(z38:Tp K P_ [.str "d" y9l,.str "s" y9m])(z39:Tp K R0 [.str "d" y9n,.str "n" y9o])(z3a:Tp K R1 [.str "d" y9p,.str "n" y9q])(z3b:Tp K R3 [.str "d" y9r,.str "s" y9s,.str "n" y9t])(z3c:Tp K R4 [.str "d" y9u,.str "s" y9v,.str "n" y9w])(z3d:Tp K R5 [.str "d" y9x,.str "s" y9y,.str "n" y9z])(z3e:Tp K R6 [.str "d" x00,.str "s" x01,.str "n" x02])(z3f:Tp K R7 [.str ũf x03])(z3g:Tp K R8 [.str Ēb x04,.str ũf x05])(z3j:Tp K RB [.str Ēb x0a,.str ũf x0b])(z3k:Tp K RC [])(z2p:Gs K "CODES" Ϣn)(Eg:Dc K w Zg [(şb,y57,.int 0 y82),(øa,y63,.int 1 y8e),(ĩa,y6c,.int 2 y8i),(Ϩa,y6j,.int 3 y8m),(įa,y6o,.int 4 y8o),(ϩa,y6t,.int 5 y8q),(ŷa,y6x,.int 6 y8s),(ϧa,y71,.int 7 y8u),(Įa,y75,.int 8 y8w),(ŗa,y78,.int 9 y8x),(äb,y5e,.int 10 y86),(Ĩa,y5h,.int 11 y87),(Ña,y5k,.int 12 y88),(Ða,y5n,.int 13 y89),(Ħa,y5q,.int 14 y8a),(ña,y5t,.int 15 y8b),(Þa,y5w,.int 16 y8c),(Ýa,y5z,.int 17 y8d)])(z2u:Gs K äm Ϡn)(Ei:Dc K w Zi [(àa,y5b,.int 18 y84),(ãa,y67,.int 19 y8g),(ğa,y6g,.int 20 y8k)])(z2r:Gs K ĺm ϡn)(Eh:Dc K w Zh [(àa,y59,.int 21 y83),(ãa,y65,.int 22 y8f),(ğa,y6e,.int 23 y8j)])(z2z:Gs K Ĺm (.int 32 y4z))(z2l:Gs K Ŏl (.int 16 y4u))(z2n:Gs K ļm (.int 8 y4w))(z2y:Gs K Ól (.int 8 y4y)): ∃fd:ŀ,(∀(s:Ñ)(v:Value),Ŝb s fd {[v],[]} [(ϻa,v)])/\∀Ë:Heap,Ţ Ë->Ød ē a->xO Ĥ w K a Ë xK 11 fa fd [ϻa] Ŭi:=by
 let e:=hfa.symm.trans (Ŀc X G a88);cases e;let kL:=p6 X G z40;let ZS:=p6 X G z3z;let Nm:=p6 X G z3x;let JC:=p6 X G z47;let WB:=p6 X G z49;let JB:=p6 X G z46;let o:=p6 X G z42;let Lv:=p6 X G z3y;let R:=p6 X G z48;let JA:=p6 X G z43;let g:=p6 X G z41;let i:=p6 X G z44;let kM:=p6 X G z45;let Nl:=p6 X G z3w;let Ix:=Z6 X G z2q;let IN:Zt K w a WZ qx Ab:=mZ (fs:=[z,J,E,b,b,b,b,b,c,c,c,k,k,F,L,C,B]) z31 rfl Ī rfl (.cons (a10.n X G) (.cons (T.n X G) (.cons (a11.n X G) (.cons Ϟd (.cons Ϟd (.cons Ϟd (.cons Ϟd (.cons Ϟd (.cons Ϛh (.cons Ϛh (.cons Ϛh (.cons Ϝn (.cons Ϝn (.cons (S.n X G) (.cons (Z.n X G) (.cons (a74.n X G) (.cons (Y.n X G) .nil)))))))))))))))));let VR:=VU X G z2m;let Vs:∀H,zd K H Üc Üc:=λ_=>rfl
 let Q6:=Z6 X G z2o;let x1r:=f7 bZ;let Qm:∀H,zd K H VX ďf:=NA bZ rfl;let gj:=Z6 X G z2t;let Cq:=f7 ba;let kD:∀H,zd K H jy Ďf:=NA ba rfl;let Fc:=Z6 X G z2w;let GH:t6 K w Wb Fg Fm:=IR z33 rfl Ī rfl;let Fb:=VU X G z2v;let GG:∀H,zd K H Ķ Ķ:=λ_=>rfl
 let U:=Z6 X G z2x;let gB:t6 K w Wc qW qX:=AW z34 rfl Ī rfl λH=>{_,_,rfl,wz z36 rfl H,{_,_,rfl,wz z3i rfl H,{_,_,rfl,wz z3m rfl H,{_,_,rfl,wz z3o rfl H,{_,_,rfl,wz z3q rfl H,rfl}}}}}
 let Fa:=Z6 X G z2s;let GE:t6 K w Wa Ff Fk:=AW z32 rfl Ī rfl λH=>{_,_,rfl,wz z35 rfl H,{_,_,rfl,wz z3h rfl H,{_,_,rfl,wz z3l rfl H,{_,_,rfl,wz z3n rfl H,{_,_,rfl,wz z3p rfl H,{_,_,rfl,wz z3r rfl H,{_,_,rfl,wz z3s rfl H,{_,_,rfl,wz z3t rfl H,{_,_,rfl,wz z3u rfl H,{_,_,rfl,wz z3v rfl H,{_,_,rfl,wz z37 rfl H,{_,_,rfl,wz z38 rfl H,{_,_,rfl,wz z39 rfl H,{_,_,rfl,wz z3a rfl H,{_,_,rfl,wz z3b rfl H,{_,_,rfl,wz z3c rfl H,{_,_,rfl,wz z3d rfl H,{_,_,rfl,wz z3e rfl H,{_,_,rfl,wz z3f rfl H,{_,_,rfl,wz z3g rfl H,{_,_,rfl,wz z3j rfl H,{_,_,rfl,wz z3k rfl H,rfl}}}}}}}}}}}}}}}}}}}}}}
 let Iw:=Z6 X G z2p;let FD:pY K w Zg gn O3:=F5 (ds:=gr) Eg rfl Ī rfl;let y0a:∀H,á K H gr O3:=F6 Eg rfl;let GC:t6 K w Zg gn gr:=IR Eg rfl Ī rfl;let VT:=Z6 X G z2u;let T_:pY K w Zi Xf O5:=F5 (ds:=Y9) Ei rfl Ī rfl;let GU:∀H,á K H Y9 O5:=F6 Ei rfl;let GF:t6 K w Zi Xf Y9:=IR Ei rfl Ī rfl;let VS:=Z6 X G z2r;let Tz:pY K w Zh Xe O4:=F5 (ds:=Y8) Eh rfl Ī rfl;let GT:∀H,á K H Y8 O4:=F6 Eh rfl;let GD:t6 K w Zh Xe Y8:=IR Eh rfl Ī rfl;let gm:=VU X G z2z;let kE:∀H,zd K H Àd Àd:=λ_=>rfl
 let Q4:=VU X G z2l;let Qk:∀H,zd K H ϗa ϗa:=λ_=>rfl
 let Q5:=VU X G z2n;let Ql:∀H,zd K H Îa Îa:=λ_=>rfl
 let Iy:=VU X G z2y;let Ox:∀H,zd K H Îa Îa:=λ_=>rfl
 let F88:=Az (st:=W4) l88 c88 k88;show{łc ϭa ϭa (py W4) (vF W4) (za W4) .none u q r t j p,λs v=>.of_eq rfl,λbase _ _=>?_};let Xj:Mz Ĥ w K a Ë:=z5h X G kL ZS Nm a0;let O6:Mq Ĥ w K a Ë:=z4p X G VR Vs a1;let Cf:BJ Ĥ w K a Ë:=z6p X G VR Vs a2;let I:BF Ĥ w K a Ë:=z6f X G a3;let QP:BK Ĥ w K a Ë:=z6t X G a4;let QN:BI Ĥ w K a Ë:=z6k X G a5;let Ci:BL Ĥ w K a Ë:=z6w X G JC WB Q6 Qm a6;let CZ:BE Ĥ w K a Ë:=z6e X G JB a7;let Xh:Ms Ĥ w K a Ë:=z4u X G a8;let Cr:=a9.hh X G Ĥ w Ë (z4n o Lv gj kD f N x);let Fy:Mu Ĥ w K a Ë:=z55 X G f a10.2;let Fq:Mt Ĥ w K a Ë:=z4z X G f a11.2;let C5:M_ Ĥ w K a Ë:=z5j X G a12;let CV:BD Ĥ w K a Ë:=z68 X G N a13;let J6:=(a14.hh Ĥ w a Ë (z4k jp XJ TY)).1;let NL:=(a15.hh Ĥ w a Ë (z4j o f P)).1;let NI:=(a16.hh Ĥ w a Ë (z4g gj kD N P R)).1;let J5:=(a17.hh Ĥ w a Ë (z4i jp)).1;let NO:=(a18.hh Ĥ w a Ë (z4m XI)).1;let QL:BH Ĥ w K a Ë:=z6g X G Fc GH Fb GG U gB a19;let QF:Mv Ĥ w K a Ë:=z5a X G Fa GE a20;let C6:B0 Ĥ w K a Ë:=z5k X G Iw GC VT GF VS GD FD T_ Tz a21;let QK:Mx Ĥ w K a Ë:=z5g X G o VT T_ GU a22;let C3:Mw Ĥ w K a Ë:=z5f X G o VS Tz GT a23;let Fn:Mr Ĥ w K a Ë:=z4t X G JA a24;let gs:B4 Ĥ w K a Ë:=z5q X G g a25;let O:B8 Ĥ w K a Ë:=z5y X G a26;let CN:B9 Ĥ w K a Ë:=z61 X G i a27;let CS:BC Ĥ w K a Ë:=z65 X G ZS a28;let C9:B2 Ĥ w K a Ë:=z5o X G JA i a29;let CA:B3 Ĥ w K a Ë:=z5p X G ZS i a30;let C8:B1 Ĥ w K a Ë:=z5n X G o a31;let CI:B6 Ĥ w K a Ë:=z5v X G JB o R kM a32;let CB:B5 Ĥ w K a Ë:=z5r X G JC a33;let CQ:BB Ĥ w K a Ë:=z64 X G ZS g i a34;let CW:=z6b X G gm kE I a35;let CY:=z6c X G I a36;let Fp:=z4w X G Q6 Qm R I a37;let QJ:=z5e X G Q4 Qk Xj a38;let QB:=z4r X G I Q4 Qk a39;let QM:=z6h X G I Q5 Ql a40;let Fu:=z50 X G f QP T.2;let Cd:=z6n X G O6 Cf a42;let Xk:=z69 X G N gm kE I a43;let Cj:=z6x X G kL o g gm kE Xj Nl Iy Ox a44;let NG:=(a45.hh Ĥ w a Ë (z4e jp P XI TZ Ta Cr)).1;let NJ:=(a46.hh Ĥ w a Ë (z4h x P CZ)).1;let Xl:=z6d X G I a47;let VY:=z6s X G QP a48;let C0:=z59 X G g gm kE QN a49;let CT:=z66 X G O a50;let CP:=z63 X G CN a51;let CM:=z60 X G i O a52;let CL:=z5z X G i O a53;let C7:=z5m X G O a54;let CC:=z5s X G g i O CQ CB a55;let C4:=z5i X G kL R g Xj Q5 Ql QJ a56;let QH:=z5c X G i QB a57;let Xi:=z58 X G f N Xk Cd d.2;let QD:=z4y X G f Xk C5 m.2;let O7:=z53 X G f N Xk CW CY A.2;let Z7:=z4q X G f QB a61;let NH:=(a62.hh Ĥ w a Ë (z4f x P QJ Xh)).1;let C1:=z5b X G WB gj kD U gB Cq VY QF QL a63;let QC:=z4x X G U gB Xl a64;let C2:=z5d X G gj kD g QL Xl a65;let CU:=z67 X G i CT a66;let CO:=z62 X G CP C9 CS a67;let CK:B7 Ĥ w K a Ë:=z5x X G i kM NL NI NJ J5 NO J6 a68;let CG:=z5u X G i O gs CL C7 a69;let Fo:=z4v X G kL o C4 a70;let Cg:=z6u X G Xh Ci QH a71;let Ca:=z6i X G WB QH QM Fp a72;let Fv:=z51 X G f x Xh Z7 S.2;let Fz:=z56 X G f x QM Z7 a74.2;let Cc:=z6j X G R U gB VY QF QC C6 C2 QK C1 a75;let CF:=z5t X G CA CO a76;let Fw:=z52 X G f x Z7 Cg Z.2;let F_:=z57 X G f x Z7 Ca Y.2;let NT:=a79.hh X G Ĥ w Ë (z4d XJ TY TZ Ta NG Cj Fo);let O8:=z6q X G U gB g QN Xl QC QK Cc C3 C0 a80;let CJ:=z5w X G g CF a81;let Fx:=z54 X G Ix IN Fy Fu Fq Xi QD O7 Fv Fw Fz F_ a82;let QO:=z6r X G O8 a83;let NN:=(a84.hh Ĥ w a Ë (z4l jp XJ P XI J6 Fx CV)).1;let Ch:=z6v X G g QO Fn a85;let Ce:=z6o X G QO Ch a86;let Cs:=a87.hh X G Ĥ w Ë (z4o g NT Ce);show z5l o g i kM J5 gs Cs NN NH C8 CJ CG CC CU CM CI CK F88
def walk{l:Űh}{q:ï}{b:Á Ç}{r:Řg->Heap->È}{g:è->Heap->È}{d:DefRec}{K:Ŷf->Ð}(t:Łi=À 63)(e:Ϝk=[])(j:∀(w:è)(h:Heap),g w h->(Ăb).In h)(F:∀(w:è)(c:Ç->Ê Value)(i:Í)(h:Heap),(Ăb).In h->ĳa ē c->c d.name=À (.ref i)->
   ∃fd:ŀ,(∀(s:Ñ)(u:Value),Ŝb s fd {[u],[]} [(ϻa,u)])/\∀Ë:Heap,(Ăb).In Ë->Ød ē c->xO Ĥ w Ăb c Ë xK 11 i fd [ϻa] (J0 Ăb)) :
  W.WalkO q b r g ãh d [] Ϟj:=
 L3.walkB (n:=63) (k:=11) (x := ϻa) (sp:=J0) t Ì e {rfl,by decide,by decide,rfl} j F λ_ _ a v m p o=>{a,v,rfl,o,m,p,λ_=>rfl}
#print My
end
open Lean in
local macro_rules|`(universe $x)=>return rb0 (fb0 .missing) (mkNullNode (<-(("sts_419 sts_535 tree_185 tree_700 tree_440 sts_223 sts_650 o_59 tree_614 tree_85 sts_186 sts_354 heap_833 tree_210 o_61 o_57 tree_70 o_51 tree_534 tree_418 tree_778 tree_295 tree_832 tree_220 tree_226 sts_701 o_53 sts_779 sts_229 o_56 tree_649 o_60 sts_615 view_39 sts_213 tree_100 sts_101 tree_353 sts_443 tree_144 sts_145 o_58 o_55 o_63 sts_298 o_49 heap_39 o_54".splitOn).toArray++(Array.range' 64 769).map (s!"o_{·}")).mapM λi=>`(def $(mkIdent (.mkSimple s!"tw{(Name.str x.getId i).hash}")):ident:=Nat)))
namespace PySem.W.Fast
universe PySem.Challenge.cw_markrun_k43_words_by_hand_holds
def tw8061962262955925110:=Nat
end PySem.W.Fast
open PySem PySem.W PyProof.Rows
set_option maxRecDepth 100000 in
set_option maxHeartbeats 0 in
theorem PySem.Challenge.cw_markrun_k43_words_by_hand_holds : PySem.Challenge.rw_markrun_k43_words_by_hand.Holds := by
 w_on;o_law;k_head;(case hw=>w_witness2)
 k_fill
 refine My.walk (l:=PySem.Challenge.rw_markrun_k43_words_by_hand) rfl rfl (λw h Y=>PySem.W.kIn_of Y) ?F
 case F=>
  intro w d e h c G b;refine' My.all_mk c G b ?a0 ?a1 ?a2 ?a3 ?a4 ?a5 ?a6 ?a7 ?a8 ?a9 ?a10 ?a11 ?a12 ?a13 ?a14 ?a15 ?a16 ?a17 ?a18 ?a19 ?a20 ?a21 ?a22 ?a23 ?a24 ?a25 ?a26 ?a27 ?a28 ?a29 ?a30 ?a31 ?a32 ?a33 ?a34 ?a35 ?a36 ?a37 ?a38 ?a39 ?a40 ?a41 ?a42 ?a43 ?a44 ?a45 ?a46 ?a47 ?a48 ?a49 ?a50 ?a51 ?a52 ?a53 ?a54 ?a55 ?a56 ?a57 ?a58 ?a59 ?a60 ?a61 ?a62 ?a63 ?a64 ?a65 ?a66 ?a67 ?a68 ?a69 ?a70 ?a71 ?a72 ?a73 ?a74 ?a75 ?a76 ?a77 ?a78 ?a79 ?a80 ?a81 ?a82 ?a83 ?a84 ?a85 ?a86 ?a87 ?a88 ?l88 ?c88 ?k88 ?a200 ?a201 ?a202 ?a203 ?a204 ?a205 ?a206 ?a207 ?a208 ?a209 ?a210 ?a211 ?a212 ?a213 ?a214 ?a215 ?a216 ?a217 ?a218 ?a219 ?a220 ?a221 ?a222 ?a223 ?a224 ?a225 ?a226 ?a227 ?a228 ?a229 ?a230 ?a231 ?a232 ?a233 ?a234 ?a235 ?a236 ?a237 ?a238 ?a239 ?a240 ?a241 ?a242 ?a243 ?a244 ?a245 ?a246 ?a247 ?a248 ?a249 ?a250 ?a251 ?a252 ?a253 ?a254 ?a255 ?a256 ?a257 ?a258 ?a259 ?a260 ?a261 ?a262 ?a263 ?a264 ?a265 ?a266 ?a267 ?a268 ?a269 ?a270 ?a271 ?a272 ?a273 ?a274
  all_goals try first|exact L3.fnp_mk (by k_is) (by k_is) (by k_is) (by k_is)|exact L3.gn_mk (by k_is)|exact L3.gs_mk (by k_is)|exact L3.dc_mk (by simp only[List.map_cons,List.map_nil];k_is) (by decide)|exact L3.tp_mk (by k_is)|exact L3.tq_mk (by k_is)|exact L3.fnq_mk (by k_is) (by k_is) (by k_is) (by k_is)|exact L3.mtp_mk (L3.mtc_mk (by k_is) (L3.cls_mk (by k_is) (by k_is) (by k_is) (by k_is)) (by k_is)) (L3.mtc_mk (by k_is) (L3.cls_mk (by k_is) (by k_is) (by k_is) (by k_is)) (by k_is)) (L3.mdp_mk (by k_is) (by k_is) (by k_is) (by k_is) (by first|exact .all (L3.us1 λ_=>rfl)|exact .all (L3.us2 λ_ _=>rfl)|exact .all (L3.us3 λ_ _ _=>rfl)|exact .all (L3.us4 λ_ _ _ _=>rfl)|exact .all (L3.us5 λ_ _ _ _ _=>rfl)|(refine L3.bd2 λ_ _ _ a=>?_;apply PySem.W.binds_K a rfl;k_is;all_goals rfl)|(refine L3.bd4 λ_ _ _ _ _ a=>?_;apply PySem.W.binds_K a rfl;k_is;all_goals rfl)))|exact L3.mkp_mk (by k_is) (by k_is) (by k_is) (by k_is) (L3.mdp_mk (by k_is) (by k_is) (by k_is) (by k_is) (by first|exact .all (L3.us1 λ_=>rfl)|exact .all (L3.us2 λ_ _=>rfl)|exact .all (L3.us3 λ_ _ _=>rfl)|exact .all (L3.us4 λ_ _ _ _=>rfl)|exact .all (L3.us5 λ_ _ _ _ _=>rfl)|(refine L3.bd2 λ_ _ _ a=>?_;apply PySem.W.binds_K a rfl;k_is;all_goals rfl)|(refine L3.bd4 λ_ _ _ _ _ a=>?_;apply PySem.W.binds_K a rfl;k_is;all_goals rfl)))|exact L3.cmp_mk (by k_is) (by k_is) (by k_is) (by k_is) (L3.mdp_mk (by k_is) (by k_is) (by k_is) (by k_is) (by first|exact .all (L3.us1 λ_=>rfl)|exact .all (L3.us2 λ_ _=>rfl)|exact .all (L3.us3 λ_ _ _=>rfl)|exact .all (L3.us4 λ_ _ _ _=>rfl)|exact .all (L3.us5 λ_ _ _ _ _=>rfl)|(refine L3.bd2 λ_ _ _ a=>?_;apply PySem.W.binds_K a rfl;k_is;all_goals rfl)|(refine L3.bd4 λ_ _ _ _ _ a=>?_;apply PySem.W.binds_K a rfl;k_is;all_goals rfl)))|exact L3.fldk_cons (by k_is) (L3.cls_mk (by k_is) (by k_is) (by k_is) (by k_is)) (by k_is) L3.fldk_nil|exact L3.mkd_mk (by k_is) (by k_is) (by k_is) (by k_is) (by k_is) (by k_is) (by k_is) (by k_is) (by(refine L3.bd3 λ_ _ _ _ a=>?_;apply PySem.W.binds_K a rfl;k_is;all_goals rfl))
  all_goals try (first|k_is|k_exc|kit_is|kts_exm)
  all_goals decide
