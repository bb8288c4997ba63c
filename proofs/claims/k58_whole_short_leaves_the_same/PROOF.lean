import PyProof.Rows.All
import Wide.All
import OpenK.AllK
import Wide.FinOn
import Lean
import PyProof.EqAt
import PyProof.EqKinds
import PyProof.TupleCall
import PySem.Challenge.RW_markrun_k58_whole_short_leaves_the_same
set_option Elab.async false
set_option linter.all false
set_option maxRecDepth 100000
set_option genSizeOf false
set_option genInjectivity false
set_option compiler.extract_closed false
set_option bootstrap.genMatcherCode false
section
open Lean
def rb0(f:Syntax→Syntax)(s:Syntax):Syntax:=s.rewriteBottomUp f
def ix0(b w:Nat)(s:Syntax):Nat:=match s with
 |.ident _ _ (.str .anonymous x) _=>
  let n:=x.front.toNat
  let n:=if b=192&&970≤n then n-586 else n
  if n<b||b+w≤n||2<x.length then 99999 else 2*(if x.length=1 then n-b else n-b+w*(x.back.toNat-96))
 |_=>99999
def wr0(k:Name)(x:Array Syntax):Syntax:=.node .none ``Parser.Tactic.rcasesPatLo #[.node .none ``Parser.Tactic.rcasesPatMed #[mkNullNode #[.node .none k x]],mkNullNode]
def pt0(s:Syntax):Syntax:=rb0 (λs=>if s.isIdent then wr0 ``Parser.Tactic.rcasesPat.one #[s]else if s.isOfKind ``Parser.Term.hole then wr0 ``Parser.Tactic.rcasesPat.ignore #[s[0]]else if s.isOfKind ``Parser.Term.anonymousCtor then wr0 ``Parser.Tactic.rcasesPat.tuple s.getArgs else s) s
def hs0:Nat→Syntax→Bool
 |0,_=>false
 |n+1,s=>!s.isOfKind ``Parser.Term.byTactic&&(s.isOfKind ``Parser.Term.syntheticHole||s.getArgs.any (hs0 n))
def fs0(s:Syntax):Syntax:=match s with
 |.node _ k a=>if k==`«term{_}» then .node .none ``Parser.Term.anonymousCtor #[mkAtom "⟨",a[1]!,mkAtom "⟩"]
  else if k==choiceKind then (a.find? (·.isOfKind ``Parser.Term.anonymousCtor)).getD s
  else if k==``Parser.Tactic.tacticLet__ then
   let p:=s[2][0][0]
   if p.isOfKind ``Parser.Term.anonymousCtor then .node .none ``Parser.Tactic.obtain #[mkAtom "obtain",mkNullNode #[(pt0 p)[0]],mkNullNode,mkNullNode #[mkAtom ":=",mkNullNode #[s[2][0][4]]]]
   else if s[1][0].getNumArgs=0 then .node .none ``Parser.Tactic.tacticHave__ (a.set! 0 (mkAtom "have"))
   else s.setArg 1 (.node .none ``Parser.Term.letConfig #[mkNullNode])
  else if k==``Parser.Tactic.show then if hs0 99 s then .node .none ``Parser.Tactic.refine #[mkAtom "refine",s[1]]else .node .none ``Parser.Tactic.exact #[mkAtom "exact",s[1]]
  else if k==``Parser.Tactic.exact then .node .none ``Parser.Tactic.show #[mkAtom "show",s[1]]
  else if k==``Parser.Command.declModifiers then if s[6][0].isOfKind ``Parser.Command.nonrec then (s.setArg 4 (mkNullNode #[.node .none ``Parser.Command.noncomputable #[mkAtom "noncomputable"]])).setArg 6 mkNullNode else s
  else s
 |_=>s
def tq0(s:Syntax):Bool:=s.isOfKind ``Parser.Tactic.rwSeq&&s[2][1][0][1].isOfKind ``Parser.Term.paren&&s[2][1][0][1][1].isOfKind ``Parser.Term.byTactic
def fb0(t s:Syntax):Syntax:=match s with
 |.atom _ v=>.atom .none v
 |.ident ..=>let u:=t[1][0][1][ix0 192 242 s]
  if u.isMissing||u.isOfKind numLitKind then s else u
 |.node _ k a=>if k==``Parser.Term.app then
   let u:=t[1][2][0][1][ix0 913 57 s[0]]
   if u.isMissing||u.isOfKind numLitKind then s else rb0 (λx=>let y:=s[1][ix0 7936 8 x/2]
    if y.isMissing then x else y) u
  else if k==nullKind then
   let l:=s[0][2][1][1][0][0][0][4][1]
   if l.isMissing then (if a.any tq0 then mkNullNode (a.flatMap λc=>if tq0 c then c[2][1][0][1][1][1][0][0].getArgs else #[c]) else s) else mkNullNode (l.getArgs++a.extract 1 a.size)
  else if k==``Parser.Command.print then .node .none ``Parser.Command.end #[mkAtom "end",mkNullNode (if s[1].getId==`a then #[]else #[s[1],mkNullNode])]else .node .none k a
 |_=>s
def cs0(u w s:Syntax):Syntax:=if s.isOfKind ``Parser.Tactic.cases&&s[1].getNumArgs=1&&s[1][0][0].getNumArgs+s[2].getNumArgs+s[3].getNumArgs=0&&!s[1][0][1][1].isOfKind ``Parser.Term.paren then
  let h:=s[1][0][1]
  rb0 (λx=>if x.getId==`ἀ then h else x) (if h.isIdent then u else w)
 else s
def oc0(t s:Syntax):Syntax:=
 let v:Nat→Syntax:=λi=>t[1][2][2][1][i][1][1][0][0][0]
 if s.isOfKind ``Parser.Tactic.omega then (if s[1][0].getNumArgs=0 then v 0 else s)
 else if s.isOfKind ``Parser.Tactic.cases then
  let f:Nat→Syntax:=λi=>rb0 (cs0 (v 6) s) (v i)
  cs0 (f 2) (f 4) s
 else s
end
open Lean in
local macro_rules(kind:=Lean.Parser.Command.mutual)|s=>do
 let c:=s[1][0]
 unless c.isOfKind ``Parser.Command.check do Macro.throwUnsupported
 let g:Syntax→Syntax:=λt=>rb0 (fb0 t) t
 let t:=g (g (g (g (g (g c[1])))))
 return rb0 (oc0 t) (rb0 fs0 (rb0 (fb0 t) (s[1].setArg 0 mkNullNode)))
mutual
#check([some,List,Nat,false,true,none,Int,Str,Prop,Option,(by omega),Addr,base,Shared,autoParam,if_pos,Bool,if_neg,(by decide),PySem.wpAny_bind,W.Frag,(zB z6),Expr,0,(by simp only[_root_.L3.yL,_root_.L3.zQ,_root_.L3.zl,_root_.L3.qF,_root_.L3.yc,_root_.L3.vY,_root_.L3.pS,_root_.L3.yb,_root_.L3.xK,_root_.L3.Yn,_root_.L3.rG,_root_.L3.qE,_root_.L3.jK,_root_.L3.Yb,_root_.L3.e1,_root_.L3.e2,_root_.L3.eL,_root_.L3.eC,_root_.L3.z7,_root_.L3.qP,_root_.L3.zC,_root_.L3.zF,_root_.L3.tE,_root_.L3.YH,_root_.L3.Yx,_root_.L3.Z1,_root_.L3.gU,_root_.L3.Xk,_root_.L3.IF,_root_.L3.ML,_root_.L3.pG,_root_.L3.wP,_root_.L3.xv,_root_.L3.Xl,_root_.L3.Il,_root_.L3.Z3,_root_.L3.qj.sel,_root_.L3.fI,_root_.L3.pH,_root_.L3.ql,_root_.L3.IH,_root_.L3.II,_root_.L3.xE,_root_.L3.vK,_root_.L3.fG,_root_.L3.vz,_root_.L3.TW,_root_.L3.vW,_root_.L3.YR,_root_.L3.vy,_root_.L3.fF,_root_.L3.ZU,_root_.L3.IK,_root_.L3.YW,_root_.L3.yC,_root_.L3.vM,_root_.L3.vt,_root_.L3.zg,_root_.L3.we,_root_.L3.wY,Option.bind_some,Option.bind_none,List.getElem?_cons_zero,List.getElem?_cons_succ,List.set_cons_zero,List.set_cons_succ,List.map,List.cons_append,List.nil_append,List.length_cons,List.length_nil,List.replicate_zero,List.replicate_succ,Bool.not_true,Bool.not_false,decide_true,decide_false,Bool.and_self,Bool.and_true,Bool.true_and,Nat.reduceAdd,Nat.reduceSub,Int.reduceLT,Int.reduceLE,Int.reducePow,Int.reduceToNat,Int.reduceAdd,Int.reduceSub,Int.reduceMul,Int.reduceNeg]),wpAny,Array,X.env,Stmt,s.heap.objs.size,absurd,Keyed,"RowMachine",(Or.inl rfl),s.heap,List.length_map,sizeLine,(Bool×D),World,heap,(model prog w),And.intro,Reps,xs.length,List.length_append,PyProof.Rows.wpS_bind,(i+1),Program,cons,X.mg,X.N.length,PySem.wpAny_pure,(by simp),(Ë×Obj),X.prog,0,s.heap.get?,Around,decide_eq_true,PyProof.Rows.wpS_pure,ds.length,(.bl Ã),(z7 0),Nat.le_trans,False,SortSt,rows,prog,(model X.prog X.w),(z7 1),getK,data,List.length_cons,outer,rows.length,h'.get?,(zB X),[a,x1],Bool.and_eq_true,decide_eq_false,List.getElem?_eq_getElem,vs.length,(ĺ _),s.toks,toks,(e::es),Value.ref,List.getElem?_map,mainGlobals,D.int,I.zi,Heap.get?_push_of_some,Int.toNat_natCast,(z8 0),h.get?,(z7 2),List.mem_cons_self,Bool.false_ne_true,(z8 1),ps.length,eval,Heap.lt_size,"items",(n+1),"list",List.mem_cons.mp,(.ref f),(eC (.int 0)),List.size_toArray,Sum.inl,all_at,X.xe,(.bl Ä),(z7 3),name,congrArg,List.mem_singleton.mp,List.map_cons,Nat.zero_add,(Æ×Æ),(kP ps),Array.length_toList,Nat.le_refl,(Sum Æ Ç),(z8 2),X.base,PySem,List.getElem?_eq_some_iff.mp,"State",scope,z.length,ks.length,z6.size,FuncData,l.prog,(k+1),(by simp only[_root_.L3.yL,_root_.L3.zQ,_root_.L3.zl,_root_.L3.qF,_root_.L3.yc,_root_.L3.vY,_root_.L3.pS,_root_.L3.yb,_root_.L3.xK,_root_.L3.Yn,_root_.L3.rG,_root_.L3.qE,_root_.L3.jK,_root_.L3.Yb,_root_.L3.e1,_root_.L3.e2,_root_.L3.eL,_root_.L3.eC,_root_.L3.z7,_root_.L3.qP,_root_.L3.zC,_root_.L3.zF,_root_.L3.tE,_root_.L3.YH,_root_.L3.Yx,_root_.L3.Z1,_root_.L3.gU,_root_.L3.Xk,_root_.L3.IF,_root_.L3.ML,_root_.L3.pG,_root_.L3.wP,_root_.L3.xv,_root_.L3.Xl,_root_.L3.Il,_root_.L3.Z3,_root_.L3.qj.sel,_root_.L3.fI,_root_.L3.pH,_root_.L3.ql,_root_.L3.IH,_root_.L3.II,_root_.L3.xE,_root_.L3.vK,_root_.L3.fG,_root_.L3.vz,_root_.L3.TW,_root_.L3.vW,_root_.L3.YR,_root_.L3.vy,_root_.L3.fF,_root_.L3.ZU,_root_.L3.IK,_root_.L3.YW,_root_.L3.yC,_root_.L3.vM,_root_.L3.vt,_root_.L3.zg,_root_.L3.we,_root_.L3.wY,Option.bind_some,Option.bind_none,List.getElem?_cons_zero,List.getElem?_cons_succ,List.set_cons_zero,List.set_cons_succ,List.map,List.cons_append,List.nil_append,List.length_cons,List.length_nil,List.replicate_zero,List.replicate_succ,Bool.not_true,Bool.not_false,decide_true,decide_false,Bool.and_self,Bool.and_true,Bool.true_and,Nat.reduceAdd,Nat.reduceSub,Int.reduceLT,Int.reduceLE,Int.reducePow,Int.reduceToNat,Int.reduceAdd,Int.reduceSub,Int.reduceMul,Int.reduceNeg,_root_.L3.wB,_root_.L3.Yc,_root_.L3.Yd,_root_.L3.Ye,_root_.L3.ji,_root_.L3.qR,_root_.L3.wm,_root_.L3.gD,_root_.L3.Jz,_root_.L3.z4m,_root_.L3.z4k,_root_.L3.X1,_root_.L3.x9p,_root_.L3.SU,_root_.L3.x9q,_root_.L3.Ow,_root_.L3.M8,_root_.L3.z4j,_root_.L3.k9,_root_.L3.gK,_root_.L3.putAt,_root_.L3.z3p,_root_.L3.y9z,_root_.L3.kF,_root_.L3.hide,_root_.L3.pU,_root_.L3.x6f,_root_.L3.x6g,_root_.L3.x6h,_root_.L3.x6i,_root_.L3.x6j,_root_.L3.x6k,_root_.L3.x76,_root_.L3.x77,_root_.L3.x78,_root_.L3.x79,_root_.L3.x7a,_root_.L3.x7b,_root_.L3.x7c,_root_.L3.Kv,_root_.L3.Zd,_root_.L3.Vg,_root_.L3.jF,_root_.L3.y2b,_root_.L3.Km,_root_.L3.y22,_root_.L3.y23,_root_.L3.vq,_root_.L3.TL,_root_.L3.vA,_root_.L3.z35,_root_.L3.jW,_root_.L3.z3l,_root_.L3.QN,_root_.L3.MF,_root_.L3.jg,_root_.L3.YL,_root_.L3.jZ,_root_.L3.IC,_root_.L3.Ex,_root_.L3.ZT,_root_.L3.MN,_root_.L3.wy,_root_.L3.fQ,_root_.L3.z5x,_root_.L3.z5w,_root_.L3.z4n,_root_.L3.z4l,_root_.L3.y0l,_root_.L3.Td,Option.map_some,Option.map_none,List.take_succ_cons,List.take_zero]),(zU (zR b)),(eC (.int 1)),PyProof.Rows,kvs.length,(ϛp=Ã),a.size,zero,List.replicate,List.getD_eq_getElem?_getD,List.append_nil,["state","row"],(wI Ws),N.length,(.ref a),(za st),(.str w),HT.sIx,"set",PySem.Spec,(z7 4),"self",StateT,succ,List.append_assoc,of_decide_eq_true,(.inl rfl),ns.length,cond,(.dK kvs),(.ref C),[.lst z6],z.elim,P.it,Nat.lt_of_lt_of_le,PySem.sizeLine_eq,ys.length,(a.d1 X G),W.kitOne,(.int 0),E.l2,E.l1,List.mem_cons_of_mem,(vP ps),(.ref p),X.calm,K.In,Heap.get?_push_size,List.mem_append.mp,Nat.zero_le,(a.d2 X G),(ϡ 8),iter,(.Name x xp),(yJ _),(xA z6),r.length,ps.map,if_true,D.tup,List.mem_of_getElem?,"tuple",o.push,rawInt,OwnMs,pos',List.all_cons,bootBuiltins,(É Â),es.size,b.size,W.nsIn,I.list,cLine,seen,I.wW,Nat.ne_of_lt,(zt X i),stop,List.range,List.not_mem_nil,Nat.le_add_right,ns.map,its.toArray,X.length,(zt z6 i),(.lst xs),L.length,(xz 0),D.str,plain,(j+1),cpos,(ns.map D.int),List.map_map,(z8 3),[.ref a],(Ġ ..),[b,x1,a],(.int i),0,k.toNat,o.data,X.env.scope,X.env.locals,"carry",K.lookup,(À v),j.toNat,add_int,(zY×V),apos,(by decide +kernel),Option.some.inj,List.mem_map.mp,List.length_set,List.foldl_cons,(wf I q ô),"unless",(z8 4),c.length,"copy","when","dict",I.tok,(a σ),K.go,F.dj,List.getElem?_eq_none,0,List.length_range,s.heap.push,(xI n zG),b.length,W.keepIn,(vx st),I.tuple,r.mono,(u q),l.map,List.all_eq_true.mp,(λ_ z=>nomatch z),List.length_take,"number",(.int 8),"nought",us.length,X.N.Nodup,d.length,"sign",String,label,Scope,Unit,(vi X scope cl own C s H fp pn),List.filter_cons_of_neg,((ĕ).all xM=Ä),Nat.le_of_lt,(.Name x pos),Int.le_of_lt,(xg prog w),0,"held",(ó ?_),a.length,(.int 1),(zR b),I.ok.hd,(ŋa s),"test",x.size,"row",step,getA,args,List.filter_cons_of_pos,List.mem_range.mpr,"_law_script",(by simpa using h),(λz=>nomatch z),List.map_append,(Or.inr rfl),(xM e=Ä),A.handled,if_false,P.length,(zM yA),(À c),(Ôc _),"subc","addc",elem',I.loc,h.Ns,((Õ).map yz),(zG.map y_),List.mem_cons,compareOp,(.type Ĩ),(.lst Ŕ),(.lst ys),False.elim,(.ref Ý),"right",(À Ŧ),j.length,"left",xs.size,uA.cons,qs.map,F.at_,List.mem_append_right,(zC þ zF),PySem.PassesOwn.never,List.length_replicate,Array.getElem?_toList,List.mem_filter.mp,X.env.cells.lookup,List.filter_append,Builtin.bitAnd,Nat.succ_le_succ,PySem.wpAny_mono,(a==sysModules),SetTable.below,ms.length,"word",or_false,"jump",PyProof,(Ý+1),IsPair,I.cell,(zB L),zT.tV,"zip",(W i),"sub","add",I.pin,F.ok,Int.eq_ofNat_of_zero_le,(by simpa using e),List.length_drop,(z6.map (xQ z6)),(Nat.sub_le _ _),zT.refl,List.nodup_nil,(.int (i:Æ)),Nat.ne_of_gt,(zY×Value),"storew",fs.length,X.A.units,Ws.length,(Á Â),(À Ī),(.tup xs),"table","store","loadw",W.findIn,yF.refl,X.stack,(z7 6),"range","load",A.units,(uZ F),ya.of,E.go,most,keep,X.fs,E.ow,E.fr,(X.fn x=Ä\/X.env.scope.names.lookup x=À .local),(À (Ã,.int (m:Æ))),List.getElem?_append_left,(.Call (.Name x p) ĕ [] pos),Str.ofString,(Â×Â×Â),(.str "subc"),(.str "addc"),Heap.SameBut,"sorted",True.intro,E.ext.gh,(zM ĝ),(.type Ϗ),vs.toArray,"state",(.inr z),z6.length,(a &&& p),K.ext.gh,SetTable,L2.cutS,t.place,(Ŀ h),(Á D),(x::xs),(z8 5),intsOf,I.laid,I.free,I.bare,(f β),keyOf,"and",V.ref,E.own,"or",dEqs,E.lp,(eC (.int 2)),List.take_append_drop,"_law_mark_here",PySem.wpAny_holding,Builtin.bitOr,a.heap.objs.size,Heap.size_push,(.type "bool"),(.yj o ť),(.type "int"),(Æ×Value),Value.none,Int.le_refl,binaryOp,(Ϥ V.int),(É Value),its.length,(Ç×Ë),(.int 16),a.toArray,W.kia_one,(zM zK),(eC .zO),(g i j),(xJ t L),T.length,(z8 3),(À m),0,(κ×V),y.Perm,(qQ x),(lo+i),(k<=j),isort,yd.tr,tplDs,"xor",r.get,o.cls,IsZip,A.in1,(j-1),memK,its',D.nx,D.bl,beq_eq_false_iff_ne.mpr,starEach,(zC ą zF),Nat.lt_of_le_of_lt,(eq_of_beq c),own.length,foldedSetIterable,"registers",a.toList.drop,Nat.min_eq_left,0,(.str "test"),(.builtin id),(.str "add"),(ks.zip vs),(.type "str"),"truths","words",Int.le_trans,h.objs.size,ForInStep,(.ref it),b.extract,Obj.mapSeq,"__init__",(xg P w),b.toArray,y.toList,(Ŀ hi),envOfC,(z8 6),s.TypeIs,f.length,Reps.imp,I.turned,(.int 2),(z7 5),"high",IntsAre,(vC z6),(z8 2),X.H₀,0,(zN T),(yC 1),(gV i),"due",V.int,"law",value,small,I.len,(x+1),item,body,P.jy,E.ap,(.tup [.str k,.int (d:Æ),.int (s:Æ)]),Nat.lt_succ_self,PySem.wpAny_field,(.tup (hd++[.str u])),Array.getElem_toList,"_law_first",List.replicate_succ,List.zip_cons_cons,(x ≠ "__name__"),(.str "jump"),attributeBase,beq_self_eq_true,(eC (.int 3)),(.str "stop"),(zD ĝ zP),b.toArray.size,(.ins C dx fs),(.inl (n:Æ)),I.zi.fresh,(σ++[À v]),"places",A.deeper,(a.d3 X G),"memory",(Wf z6 m),I.ok.kind,c.trans,(gt T i),(.inl a),"rows",g.length,codeAny,BindsTo,z.symm,(Ź _),(ϡ n),(xq X),"end",L.map,forIn,IsTup,E.pin,[d,s],x.gh,putF,call,I.pq,"abcdefghijklmnopqrstuvwxyz",(zX ŉ zV Ģ zK),(.ListComp elt [{tg,iter,ifs,0}] scope pos),Int.natCast_nonneg,((apos.endLine==cpos.line)=Ä),Option.isSome_iff_exists.mp,PySem.wpAny_call_entry,PySem.wpAny_seqItems,Int.emod_lt_of_pos,a.toList.take,Nat.lt_succ_of_lt,Bool.false_eq_true,Int.emod_nonneg,Builtin.bitNot,(eC (.int 4)),List.cons_append,(e2 zJ ą ī),(by kernel_rfl),"set_iterator",(EP X zA σ Q),(Α (z7 2)),a.extract,Nat.le_of_eq,Nat.min_self,"_law_k",(K w.params),(.str "sub"),(.str "and"),(N.map ϫ),(.inl z),DecidableEq,(Á zY×V),(zD ļ zP),(model P w),(.str "or"),SeqAt.EqAt,L.filter,scanBound,Value.str,(eC æa),(.nx β2),"stands",R.length,t.length,r.extBut,q.toList,n.length,i.length,W.codeIn,(xq z6),(Ç×V),(.ref l),Ne.symm,(xv zF),(À d),(qt z6),(.bl b),(z7 7),(yC 2),(uo i),(lo+k),putAt,names,N.map,E.ext,(w=0),hide,True,K.lp,(backToKw pos (keywordEach [] Û)),((x==("__classdict__" : Ç))=Ã),List.mem_append_left,"first_words",[À (Ã,.lst z6),Å,Å],List.getElem?_append_right,List.pairwise_append.mp,List.drop_eq_getElem_cons,(.tup [.str "stop"]),(λ_ h=>by cases h),(λC s H c d=>tT),"address",List.getElem_mem,b.toList.take,Nat.le_antisymm,beq_iff_eq.mpr,a.toArray.size,a.names.lookup,(.dic hk hv),(À (Ä,d)),(.Name x p),"enumerate",(yR x p f g),(eL vy Īa),(.int 32),eq_of_beq,decide_true,(Η (x+3)),(.str ĵb),(dl++[m]),Value.type,"items",es.toList,Value.int,PassesOwn,(ŋa Ŵa),(Ϥ ϫ),(j d ô),(.type T),(.dT kvs),List.map,["item"],(.int v),x.length,h.length,callWith,(g d σ),(L++[d]),(.str x),(.str t),0,(.str k),(.ref z),Rd.mono,(c b a),nextOf,e.trans,W.mg_of,Sum.inr,(Òa _),assign,L2.ixN,IsPart,(pl a),a.map,drawn,[x,y],self,s.ws,s.ps,refl,many,cont,X.pn,P.ln,I.os,Nat.lt_irrefl,[À (Ã,.lst a),Å,Å,Å,Å],PySem.wpAny_newObj_type,0,(.tup [.str "jump",.str t]),X.s₀.heap.objs.size,PySem.codeAny_builtin,Nat.mod_two_eq_zero_or_one,PyProof.Rows.wpS_forRange,[.int w,.int 31,.int 1],List.take_of_length_le,(yP (zd yW) Ò),Nat.add_le_add_left,List.getElem?_range,Array.toList_append,(st ws a b c hk hv),(À (Ã,d)),(by simpa using c),(by rw[hl];decide),Nat.lt_of_succ_lt,List.ext_getElem?,Option.bind_some,"first_held",Nat.testBit_and,List.nil_append,List.length_zip,(yR a0 p0 f0 g),Sum.inl.inj,isort_perm,behindInMarks,b.toList.drop,(zD Ģ zP),Nat.sub_self,List.zipWith,(Ç×Value),0,(λ_ _=>Ā),(zM Ģ),fs.lookup,(Η (x+2)),(Η (x+1)),(Η (x+0)),(ps.zip us),(.type Ña),(Α ı),SortSt.mk',(.ref I),(λ_=>Å),(xr X.K F),(thaws ms),(L.map zN),(.inr rfl),(.dic K V),"place",DictEntry,(Ν Áa),(Ú ß),(Ų _ a),(top 100),(I z x y),(.lst []),ts.map,"do_sum",x.toList,l.length,NameKind,(ĥ e),(zM ļ),(vt þ),(ug ĝ),(.inl h),valueAt,Nat.ble,Iff.rfl,"told",zT.lay,(z8 7),(šc c),(îk s),xs.map,y.size,t.fits,stored,q.size,o.elim,backTo,(zN a),(yC 3),(c β),"int",whole,t.led,field,bindL,bindC,nds',hi.h,(starEach ĕ Û=(Ã,eval e Û)::starEach es Û),(zX ŉ zV (vZ ĝ wc) Ķb),(yQ (vQ tO b rfl (zD ĝ zP))),List.take_succ_eq_append_getElem,(wR zP (yP yW Ò)),(.tup [.str "set",.str "high"]),(ql λi j=>decide (i<j)),(.Assign [.Name x pos'] e pos),List.Perm.refl,(by with_unfolding_all rfl),Array.getElem?_eq_getElem,(.str "label"),PySem.wpAny_passesOwn,(Á zY×Ë×Value),[.bl a,.bl b,.bl c],(getMethod ov m pl),(Ϥ WData.int),(z6.take i),(ϡ (Õ).length),(.str "left"),Nat.le_succ_of_le,Nat.le_of_lt_succ,List.flatten_cons,(λC s H b c=>tT),(zW ub ua ĝ zK),[.at [ŀ] øa],Int.not_lt.mp,m.heap.objs.size,PySem.call_meets,List.take_length,List.mem_map.mpr,(wN as vs ks us),"set-order","isinstance",X.env.kindOf,List.length_nil,Bool.eq_iff_iff,s.heap.update,(τ++Ő k Å),(zD zK zP),(yR y q Å g),(.tup [x,y,z]),(.int (p:Æ)),(dl'++[m]),d.trans,(yY z6 r),(.int x),Nat.lt_or_ge,(ŷ _ rfl),(λd=>!zj d),(start N vs),(failedOf s),(F.ok i q z),(.str "xor"),apos.atName,List.lookup,(.str ϻ),(.int 2047),(.int (-1)),"__next__",swapsWith,sep.length,env.kindOf,beq_iff_eq,Str.length,"thing",(ze H p o),(kindOf s),(Zs a b c),zG.length,x.testBit,m.testBit,OwnMs.imp,[øa,Ϗb],(Žg _ _),(Ų _ c),(λ_=>?_),(start _),(j s ô),(arrOf s),(Uf z6 m),(Pf z6 m),(.rt o d),r.append,Y.length,(lo+hi),(ϋ pD),(Pf X i),(Ľc _),s'.heap,l.toNat,kvs.map,N.Nodup,I.fresh,(ćb _),(Wf z6),ys.all,fs.map,"done",zG.map,v8.one,modify,h.elim,eq_int,Ws.set,W.fnOf,N.len,(zB a),(xq a),(vw n),(lo+m),(e σ),(c σ),"run",z.cps,xP.of,x.new,thaws,W4.nd,0,(i+k),insI,putO,nds2,w_lt,hv.h,hk.h,dict,P.tg,P.nd,I.ok,[À (Ã,.str name),À (Ã,.lst Õ),À (Ã,.dic ks vs),À (Ä,.dic K V),À (Ã,.str a)],(zX ŉ zV ĝ zK),[.str w,.str k,.str t],(qr (l.map λi:Â=>(i:Æ))),(.Call (.Attribute o m apos) [] [] pos),(e2 zJ þ ī),(.tup [.str "left",.str "right"]),X.env.scope.names.lookup,PySem.wpAny_callSpecial?_slot,Array.getElem?_eq_some_iff.mp,PySem.Around.under_plainId,(vJ T e fw fh sd due done),w.params.followText,(.int 4294967296),PySem.wpAny_setField_rec,PySem.wpAny_Call_Name_kw,PySem.wpAny_pyIter_list,0,(.dic ĸ ų),Nat.add_sub_cancel',List.drop_eq_nil_of_le,(e2 zJ ą Ϛa),(Yo g ô λr n j=>?_),(zW wM wL Ģ zK),List.getElem?_toArray,Heap.get?_update_self,(seqObj Ĩ #[] 0),List.dropLast_concat,List.all_eq_true.mpr,"StopIteration",List.nodup_cons.mpr,(οa (Îb ĕ Û)),(Nat.not_lt_zero _),PySem.wpAny_rule,PySem.wpAny_typeOf,PySem.codeAny_mono,Nat.sub_add_cancel,[YN X fw fh s i j],(οa (Îb es Û)),(zX ŉ zV ļ zK),(.type "NoneType"),"_law_items",x.extract,List.mem_range.mp,List.getElem?_set,(Ùa W.emptyDict),(σ++Ő Òb Å),c.heap.objs.size,Nat.zero_testBit,0,Nat.testBit_succ,(.fz (.int m)),[.int i,.bl Ä],(Á D->É å),(.builtin "len"),Nat.succ.inj,WData.weightAll,List.find?_cons,List.filter_nil,(X.N[i]?=À x),(wx Ċ zG p),I.base.free,s.heap.IsTuple,List.take_zero,(Η (x+n)),(.str Ïa),(τ.set i Å),(fs.map V.ref),(.inl (m:Æ)),(xJ t z6),List.any_cons,many.toNat,[ŝ,Þb,øa],(wp Ă zG i),(W5 QK QJ zK),"targets",(vN z6 t),W.callWith_K,Nat.add_comm,(yP ϩe Ò),(knd.hash k),(.tup [x,y]),Array.getD,scope.names,OwnMs.cells,List.length,L2.isort,I.ok.mod.XG,(.tup Èd),(.str ġa),[b,x1,a,x3],(κ×Value),(um (vm e)),(e1 YR Ŋ),a.testBit,"number",ord.length,(ϧa .Add),(λ_=>rfl),(uE a ņc),(gt T î),(g_ Ϲ x),L.foldl,"do_bits",pos.line,Reps.ints,(Ęb Ē),(Ų _ b),(ě _ e),(xQ z6 d),(c.val k),(.ref i1),[.ref p],["mark"],(us++ds),(.inr u),(ϐ p),p.extBut,o.length,m.length,i.natAbs,Operator,J.extBut,zG.getD,n.trans,(uE a L),(o++[l]),(lo+m-1),(k9 r.1),(gt T w),(eC ďb),(F++[m]),(.ref x),(.own x),(.lst a),(.int j),(.inr t),(óa c),(w%256),"marks",x.trans,j.trans,i.toNat,callerA,base.Ns,X.outer,K.ext.g,AllBare,(äe c),(wI ns),(vN z6),(ja st),(e σ1),(G b d),(.bl k),pyNext,f.map,"stop",xs.all,pyIter,o.getD,isTrue,c.mono,c.drop,T.keep,Result,Paired,I.kept,(zN R),(v1 k),(qv 3),(b σ),(a::r),z.imp,slots,binds,a.any,U3.nd,U2.nd,Model,Fl.nx,F.map,D.lst,(n+k),(m+4),(j+2),(g=1),(yP (zd (zd yW)) Ò),(.tup [.str "load",.str "store",.str "loadw",.str "storew"]),["self","table","end","registers","memory"],(min (if i<0 then i+(n:Æ)else i) (n:Æ)),(!w.params.followText "set-order"),PyProof.Rows.wpS_mono,(À (Ã,.int (need:Æ))),(!t.plain&&decide (es.size>1)),(xF T e fw fh s due done),(L.map λl=>.lst (zN l)),(SetTable.grown c.size),[À (Ã,.lst z6),Å,x2],PySem.wpAny_setState_of,List.pairwise_iff_getElem.mp,(Κ (zW ub ua Ía zK)),(by simp only[Ĭ]<;>omega),List.extract_eq_take_drop,List.pairwise_append.mpr,Builtin.List.listTooLong,PySem.wpAny_truthy_bool,PySem.fits_of_scanBound,List.getElem?_replicate,(assignEach es Û),[À (Ã,.int x),Å],(by exact 1<30;decide),(À (Ã,.int i)),(λi:Â=>(i:Æ)),List.pairwise_cons.mp,"_law_names_here",(zW wM wL ϱ zK),List.mem_of_mem_take,Array.toList_extract,(by rw[E.l1];show c),(X.drop k++Y.take e),(.int (xi z6 a:Â)),PySem.plainId_quiet,List.mem_filter.mpr,List.length_zipWith,List.getElem_of_mem,Int.toNat_of_nonneg,Builtin.Int.intBits,(.builtin Ųa),(À (Ä,.lst ds)),0,(λl=>D.lst (zN l)),(ps.take i),xs.toList.Pairwise,ForInStep.yield,(zX ŉ zV ϱ zK),(by simpa using b),(by rw[Ĺ];omega),(L.foldl (ud t) s),((u q).mpr Źa),SetTable.below.go,Array.toList_push,"target",(wI (Ws.set d w)),(relabel Ł Û),(QU b t2 â a d),(yP (zd ϩe) Ò),(.fz (.int w)),(.Name x pos'),List.lookup_cons,(qU z6 F dl Ūa),"_law_many",sliceBounds,f.objs.size,Nat.zero_lt_one,List.cons.injEq,Int.min_eq_left,[.at [à] Ÿa],(À (V.ref p)),0,(tupleKind æb),(e2 zJ ğ ī),(e2 xN ą Ŋ),(by simp;omega),((àa).mpr Œb),"_law_found",(V s+n),"other",Nat.not_lt.mpr,(wE ks vs k v),(.int (a:Æ)),s.heap.DictAt,b.trans,Nat.add_assoc,(ς ŵa),(Wf z6 i),[øa,Ϗb,ķa],[p0,p1,p2,p3],(Φc (b::z_)),(À (Ä,e)),(β++[À m]),(YV c.heap H),(.Name gn gp),(Ĥ e Û),(xW (yl b)),isort_sorted,List.map_nil,Int.pow_zero,Int.ediv_one,I.base.there,Around.under,0,assignEach,(Ő ħ []),(zD jL zP),a.heap.push,X.base.get?,OwnMs.focus,List.map_id,Int.one_mul,I.base.slot,(À (b,d)),(vA Ŝ vq),(uP X.K FF),(ks.zip us),(f (pU β)),(T.set m x),z6.filter,L2.start,(Zl fs f),(.tup ys),(.fz ţc),out.toList,its.toList,W.plainGet,(ze H a o),(xM a=Ä),(Xw e=Ä),(.str ça),l.extBut,"do_move",y.testBit,hd.length,I.base.uz,I.base.qc,I.base.py,Decidable,[ća,ōb],(đc ϫ),(Φc Đk),(ěa .In),(Η Þe),(żb _ z),(Γ ϱ),(wD ks k),(vs++dvs),(f.n X G),(.yj o u),(.tbl ps),(.int 50),(s q z),(kF β),Y.take,y.length,y.extBut,w.length,s.length,s.drawn,p.toList,oneType',j.natAbs,i.extBut,h.DictOf,f.typeIs,f.extBut,e.length,b.typeIs,b.toList,ZipApart,Reps.one,OwnMs.p_,C.extBut,B.extBut,(qv 2),(ϫe ?_),(zt Y i),(zM Ķb),(vW Ϟa),(uP K F),(kP ϸd),(jn Õ),(gl L w),(X.ZJ E),(.own a),(.int n),(.int 3),(.fz d),ds.set,X.drop,"again",qL.with,l.trans,getItem,cut_len,add_str,Un.kept,Sb.refl,E.ext.h,c.symm,[p0,p1],(ţa e),(ċd.2),(îk d),(ľb i),(ĸb n),(Ϣ h),(ĥ q),(Ŀ e),(zN ws),(xi z6),(xQ z6),(tS z6),(c d a),(Pf z6),"ways","step","one","bool",u.keep,sIx_le,preSum,o.dict,layNew,knd.is,e.symm,ds.map,d.getD,W.isFn,I.base,B.kind,(zN Y),(zB Y),(yC 6),(wg f),(ud t),(uY x),(u::v),(tC v),(qv 4),(i==j),(a==b),(a++b),(Z5 F),(YH x),(Xq P),(X++M),(Wf X),(TM x),(0<=i),R.map,"str",vH.Le,start,n.map,error,atKey,T.obj,Q5.nd,Q4.nd,Q3.nd,Q2.nd,[a,b],(m%8),(i-1),(h a),(U i),(P i),(e2 zJ (e1 (wK [ŀ] "words") þ) (e2 zJ ą Ŋ)),["table","end","first_words","first_held"],(zd (zd (zd yW))),(.inl ((xi z6 a:Â):Æ)),PyProof.Rows.wpS_get,(.Call (.Attribute (.Name c p) m apos) ĕ [] pos),(.tup [.str (ŭa w),.int (d:Â),.int (s:Â)]),[.int g0,.int g1,.int g2,.int g3],(zD ĝ (zD Ģ zP)),(xF T e fw fh s d j),(Đb o name Û (eval o Û)=eval o Û),(λw d=>Tk f g r c w (by simpa using d)),(.Call (.Attribute o m apos) ĕ [] pos),(VO X.K 2 (gH (uo i) (gH (uo j) VN))),(Ő (Õ).length 0++[2047]),0,PyProof.Rows.subscriptTail_builtinR,Builtin.SmallTypes.ownedTupleIsFree,PySem.wpAny_askSetting,(c*48271+104729*k+7919*(ţ:Æ)+1),(mirror x lo (lo+m) ((lo+m-lo)/2)),(T.set m (rl (U m) (P m) T (W m))),PySem.F.slot_tuple_iterator_next,[g0,g1*256,g2*65536,g3*16777216],(eC (.dic [] [])),Builtin.Str.occurrences,[vJ T e fw fh (vd s) due done],[.Subscript Ž k pos'],(ę (1*2 ^ ((w:Æ)).toNat)),(λc=>∃r,c.1=À r/\uv t r),(x.extract (d+Ϧ) (d+Ϧ+e)),PyProof.Rows.callWith_type1,(if k'=k then À v else _),(.type "method_descriptor"),[.Subscript o k pos'],((u p).mpr Ţ),(kW (yl b)),(λp=>(J p).map (qA J pl)),(zX (zU (zR a)) zV Ģ zK),Builtin.Slice.slicePlaces,[.int p,.str (wx n zG p)],PySem.mem_of_lookup,PySem.tupleKind_room_in1,Builtin.Tuple.tupleExact,0,(zX ŉ zV ļ Ía),(seqObj Ĩ d.toArray 0),(we uO Īa),"set_iterator.__next__","set_iterator.__iter__",strSliceIndices,PySem.F.plainAttrs_list,Builtin.Range.rangeSize,(λp r h=>(VZ P h).2.2),(e1 (wK [à] Ÿa) þ),((ſ).getD i Å),((Ęa).getD i .zO),Array.getElem?_eq_none,PySem.wpAny_execs_nil,PySem.F.slot_zip_next,List.nodup_append.mpr,List.length_singleton,(λ_=>Ş ā Sem β),(by rw[E.l1];show hi),(.UnaryOp .Not a pos),(.Subscript Ž k sp),(.Return (À e) pos),decide_eq_decide.mpr,Nat.sub_succ_lt_self,Nat.eq_of_testBit_eq,List.range_eq_range',(σ.set i (À Ŵ)),(ys.any λy=>xf y x),(if b then 1 else 0),(Nat.lt_of_not_le c),(.Attribute e f pos),0,letOwnedTupleGo,beq_eq_false_iff_ne,PySem.wpAny_newList,PySem.wpAny_attempt,List.map_congr_left,(ðd (d+k) (d+Ϧ)),(zX ŉ zV ĝ Ģ),(by simpa using hi),(by simpa using h1),(eC (.str Ða)),z.cps.toList,decide_eq_true_iff,(Τ (zM Çd) Đa),(w/2147483648%2=1),(b∈X.ex\/Ùc<=b),s2.heap.objs.size,decide_eq_true_eq,W.instObj,Nat.lt_trichotomy,Nat.lt_succ_of_le,List.getElem_drop,List.Pairwise.nil,[ŝ,Ħ,Ôb,ĝb],[(a:Æ),(b:Æ)],(Ç×Tok×Value),(by rw[Me];omega),((p,w)::P.zip vs),"_law_most",s.heap.FunFrames,PySem.wpAny_call,PySem.typeIs_str,Nat.testBit_zero,Nat.min_eq_right,Nat.le_of_not_lt,List.map_fst_zip,List.filter_cons,Int.max_eq_right,(λi=>K x (b+i)),(w/16777216%256),(o++Ŋb i (i+k)),(O7 n x (c x a)),(.tup [x,y,z,w]),(.lst [a,b,c,d]),p.toNat.testBit,List.range_succ,List.Perm.of_eq,Int.ediv_nonneg,Bool.or_eq_true,(σ++Ő k Å),(λc=>f c.symm),(yR a0 p0 f0 u),(vW λi j=>i+j),(e2 zJ þ ą),(e2 xN ı Ŋ),(I.ok.bs b o e),g.toArray.size,Bool.false_and,"width",I.base.keep,[b,x1,a,x3,x4],(Θ (.int 8)),(Yt a b o i j),(Ys a b o i j),(.type "type"),(.int (k:Æ)),(ks.map kV),rows.getD,es.toList.map,beq_iff_eq.mp,a.toArray.any,List.sum_cons,Bool.true_and,Bool.or_false,[ķa,"count"],[Þb,Ýb,øa],[.str "stop"],(Ĥ Ž Û),(Χc (b::z_)),(zy.near x z),(zM (yQ Ĺc)),(wx Ċ zG q),(putF f v fs),(lo+k-(lo+l)),(.str (wd r)),[åa,Æe],d.zi.fresh,(eC ý),pickOrder.go,own.contains,decide_false,P2.objs.size,Nat.lt_trans,Nat.le_total,K.ext.h.free,Int.ne_of_gt,(.str ëa),[ŝ,"most"],[(D,uq a k)],(ěa .NotIn),(λ_ _=>rfl),(ze H p Úk),(xs.set i x),(xg ö X.w),(gK β i π),(e2 F fa fb),(Vj (vO jL)),(F.ok j q z),(D0 r ta tb),(.int (i+j)),"numbers","do_storew",p.length_eq,f.toArray,W.hasDictIn,Option.bind,Nat.le_succ,(Ó ?_),(.int k),(ĉf C Ý),(ĩa _ όg),(Á M×yM),(y b o e a),(x-x/p%r*p),(wx n zG p),(vk ps a b),(vZ ĝ gB),(ns.take k),(l+(r-l)/2),(kK Ă zG),(.type Ś),(.bool Ä),((n:Æ)=0),(wI s.ws),"do_store","do_loadw",ws.toArray,tm.some_of,setsByText,Value.bool,Pt.testBit,PlainAttrs,ns.getD,[.lst Ŕ],(ģ<=ŕ),(λ_ q=>q),(zl 1 Úf),(yY X ϟ),(qw kvs k),(o b ob e),(X_ k=Ä),(T.map pc),(E.r8 k d),(.tup Ϯg),(.str òb),(.str řa),(.str Őa),(.own Ød),(.lst Õ),(.int p.1),(.int i t),(.int due),(Ća hd),(zM ϱ),(xs++ys),(eC İ),"do_load","do_high","do_copy",zo.append,xs.toList,ts.length,pc.isList,l.swap.hd,h'.DictOf,e.gh.free,drawOrder,dl.length,cl.lookup,as.length,__do_lift,0,W.makesIn,PySem.Str,Paired.FK,E.ext.new,[ća,ċb],[zt z6 i],[f,j,h,g],(ϻb âb),(Ϫg _ _),(Χc Đk),(Κ ëb),(Κ Ía),(Ϥ ĭ),(Α Ŝ),(ò+Òb),(Á Æ),(σ++[v]),(β++[m]),(h p Îf),(.ref i2),(.ref Wg),(.ref Ur),(.ref Uq),(.ref Up),(.ref Uo),(.ref Um),(.ref Ul),(.ref Uk),0,(.ref Ui),(.bool b),"do_set","append",u.extBut,p.isList,mergeAt',l.countP,h.isList,entryFor,bindArgs,X.take,W.lookIn,Reps.set,K.length,F.length,(ĥ g),(áb W7),(Ϗg nd),(σ++ρ),(zN Ła),(zN Šc),(zM ϴa),(xr K F),(vW ıa),(vN X t),(vM 1 2),(qe [r]),(qW Ċ),(qV a.1),(kf Ŧb),0,(kS ñb),(jl P h),(gl L p),(eC ňc),(eC Ód),(eC ŀc),(by rfl),(Zp a.2),(YV h H),(By r t),(2 ^ 64),(.str a),(.ref t),(.ref e),(.ref c),(.ref A),(.nx σ),(.lst b),(.int w),(.int e),(.inr x),(.inr k),"slice",z6.take,unaryOp,u.trans,u.there,tD.swap,tD.move,setNext,h.trans,g.trans,ds.drop,b.drop,ZP.cons,W8.putO,I.write,I.ok.ZI,A.depth,(Īe e),(ϫg q),(ðc b),(Ŏ-1),(ϐ q),(Õb i),(ĸb k),(ĸb _),(Ϟ c),(Œ _),(ġ z),(ġ h),(Ŀ l),(Ŀ f),(É V),(À b),(zM jM),(xs=ys),(qp xs),(q::qs),(pU β),(n::ns),(m%4<2),(i∈R),(hi-lo),(h _ z),(b β1),(Yy zG),(Uf z6),(x++y),vs.map,u.slot,u.free,typeOf,s.gens,s.free,p.size,not_or,newExc,n.mono,ks.zip,kindOf,bs.map,argsOk,a.toks,R.take,Params,Or.inr,J.stop,InLong,V.str,(z8 9),(z7 9),(z7 2),(yC 5),(wI W),(vD r),(v2 k),(r β),(qv 1),(qW n),(q/64),(pl u),(k σ),(jG d),(g==k),(Ll z),"low",there,table,o.loc,l.fin,j.get,h.Ns1,Ob.nd,Oa.nd,OZ.nd,OY.nd,OX.nd,OW.nd,OV.nd,OU.nd,M.ind,D.ind,D.i2z,D.i1z,D.TOz,CmpOp,[À (Ã,s),À (Ã,.int first),À (Ã,.int most),À (Ã,.int l),À (Ã,.lst (N.map D.str)),À (Ã,.int A),À (Ã,.lst R),À (Ã,.int (i:Æ)),À (Ä,.lst L)],(xW (yl b)),[À (Ã,s),À (Ã,.int first),À (Ã,.int most),À (Ã,.int l),À (Ã,.lst (N.map D.str)),À (Ã,.int A),À (Ã,.lst R),Å,À (Ä,.lst [])],[zQ (zl 2 (zg XW Īa)) t7,zQ (zl 2 (zg XX Īa)) t7,zQ (zl 2 (zg XR Īa)) t7,zQ (zl 2 (zg XV Īa)) t7],(e2 zJ ą Ŋ),(λr f=>match r with|.ok (.ret v)=>EP X k σ Q v f|.ok _=>False|.error e=>X.xe e f),List.length_filter_le,(Ùa { cls:=.type "range",data:=.fields #[.int lo t,.int hi u,.int 1 v] }),((z6.toList.drop (sIx ń 0 lo)).take (sIx ń ń hi-sIx ń 0 lo)),[À (Ã,ws),Å,À (Ã,.int (w:Æ)),À (Ã,.int (i:Æ)),y],[À (xF T e fw fh s d0 j0),À (.fz (.int m)),À (.fz (.int k))],(List.mem_singleton.mpr rfl),(À (Ã,.int (rl (Uf z6 m) (Pf z6 m) T (Wf z6 m):Â))),(swapsWith e (À (.Name x pos')) pos.line Û=pure Ã),List.nodup_cons.mp,[À (Ã,ę n),À (Ã,.str a),À (Ã,.int left)],(if plainKind x=Ä then d else { d with plain:=Ã }),(List.zipWith (λk' x=>if k'=k then v else x) ks vs),(A.under (.builtin "type.__call__" {.ref C::us,a})),(.tup [.str k,.int (d:Æ),.int n]),(if i<0 then(i+(n:Æ)).toNat else min i.toNat n),[rows.getD k .zO,.int ((k:Æ)+1),zG.getD k .zO],[vJ T e fw fh (gF Ŕ a b c ĸ ų) due done],(f.2 b (Ϟ (Ū (ĥ e) (I.ok.Ua x c C l)))),(Yo (s:={ s with ç:=r }) n ô λx K m=>?_),(if k=f then(k,v)::r else(k,x)::putF f v r),(.tup [.str Ïa,.int (d:Æ),.int (s:Æ)]),(tE (e2 vL (z7 7) (e2 zJ (qP 4) (z7 6)))),(À (.builtin "type.__getattribute__")),(by rw[PySem.isSubtype_type];kernel_rfl),(.tup [.str "high",.int (d:Æ),.int n]),(pickOrder (w.params.setOrder a ep) es),[o0,a,c,o3,o4,o5,o6,À ϰe,o8,o9,o10],[o0,a,c,o3,o4,o5,o6,o7,À ϰe,o9,o10],(qO L P w K G h N c a f d A ĉ s H E),(f.2 b (Ϟ (Ū (ĥ e) I.ok.above))),(À (.builtin "object.__setattr__")),(ze H l (Β ((isort ns).map V.int))),(.tup [.str Ś,.int (d:Æ),.int n]),PyProof.Rows.F.plain_set_update_loop,(.Call (.Name "zip" p) [a,b] [] pos),Nat.min_le_right,Int.ofNat_le.mpr,List.mem_reverse.mp,Heap.SameBut.update,[.int (i:Æ),x],(ϋ λp=>if p.1=a then(a,b)else p),(if s.1∈a then s.2 else s.2++[d]),(e2 zJ (e1 (wK [ŀ] Þb) þ) Ûd),Array.mem_toList_iff.mpr,(yG Xo b rfl (zD yA zP)),(À (.obj à Ϩe [a,b,c,d])::z_),(U5 rfl pW (yQ (vQ YU b rfl Ĕb))),0,(y.toList.drop lo),Nat.eq_zero_of_not_pos,Heap.get?_update_other,PySem.Calls.call_function_entry,[1,26,676,17576,3,5,7],Array.mem_of_getElem?,(ϐ q++(ãb m (j-1)).reverse),(ya X.K H p ys\/xP X.K H p ys),(if Òd ŕc=Ä then _ else _),(by rw[e];show λz=>nomatch z),(X.fn y=Ä\/Íd y=À .local),((c==("__debug__" : Ç))=Ã),List.eq_nil_of_length_eq_zero,Array.perm_iff_toList_perm.mp,(.builtin "object.__class__"),PySem.wpAny_pyNext_list_item,PySem.Calls.callWith_builtin,(Ő (Õ).length 0),[.str k,.int x,.int y,.bl a],(vi X Ł cl own C s H l pn),(by exact _<=16777216;omega),PySem.wpAny_pyNext_list_end,Nat.lt_succ_iff_lt_or_eq.mp,(e2 vK Ŝ (eC (.int 256))),PySem.wpAny_updateSeq_pair,List.length_eq_zero_iff.mp,["kind","one","other",ϻ],(Į (e t) (x := Ða) Ò),0,(Į (e t) (x := Ìa) Ò),(r.2.set a (À (.fz d1))),(.tup [.str Ða,.str Ìa]),(.For tg iter body [] pos),List.pairwise_reverse.mpr,List.mem_or_eq_of_mem_set,Classical.byContradiction,Builtin.Slice.sliceAdjust,[xF T e fw fh s due done],(ěb (êb x ŗ Ý f c)),(rI J6 λi j=>.int (i*j)),(f (.int i t) (.int j u)),(((1:Æ)*2 ^ w-1)*2 ^ l),PySem.wpAny_pyIter_tuple,PySem.Calls.spliced_cons,List.mem_iff_getElem?.mp,(β.set i (À (.fz d))),(Te z6 R T (Õ).length),(.tup [.str Ĺa,.str r]),(zl 2 (zg F Īa)),Nat.testBit_mul_two_pow,Nat.add_sub_cancel_left,List.filter_eq_self.mpr,Bool.or_eq_false_iff.mp,[.int a,.int (gX ps a)],(zd (zd (zd (zd ϩe)))),(k K i λv n m x r=>?_),(L.set w (gl L w++[i])),(Int.natCast_pos.mpr j),(.ins C dx (fs.zip vs)),((Õ).map λr=>y_ Ţc),0,"_law_leaves_the_same",PySem.wpAny_isInstance,List.zipWith_cons_cons,List.pairwise_cons.mpr,List.getElem?_set_self,List.Perm.append_right,(λi=>z6.getD i .none),(o++(Ŋb k i).reverse),(.BoolOp .And [a] pos),PySem.wpAny_updateSeq,PySem.wpAny_ite_split,PySem.SeqAt.EqAt.same,PySem.F.slot_dict_get,List.set_append_right,List.pairwise_map.mpr,List.eq_nil_or_concat,List.concat_eq_append,List.Perm.append_left,[.int x,.int y,.bl p],(λz=>a (by simp[z])),(λa w=>a ||| gt T w),(vI (own:=[ōb]) rfl),(vI (own:=[åa]) rfl),(by simp only[Ø,s]),(by dsimp only;omega),(.Slice lo hi Å p2),(eC (.str Ìa)),(e2 zJ þ Ŋ),PySem.wpAny_setField,PySem.wpAny_newTuple,PySem.gives_joinTail,Nat.pow_le_pow_right,List.mem_of_mem_drop,List.getElem?_set_ne,Array.toArray_toList,[D.bl a,.bl b,.bl c],(xf x y&&dEqs xs ys),(.Subscript o i pos),((m/512+(j:Æ))%26),PySem.wpAny_standAt,Nat.add_left_cancel,List.reverse_append,List.mem_map_of_mem,List.filterMap_cons,(vB Xn W2 rfl),(by size_fits),(T.set m need),(.int (m:Â)),(ϡ (min ë Ŭ)),(zX ŉ zV Ģ Ía),(wY Òb fs fg ft f),(relayAll t2 c ϕd),(gF ws a b c hk hv),(f x y&&pC f xs ys),(by simpa using hv),(by rw[e];show ųa),((j.2 b k).trans J),((i:Æ)+(m:Æ)*1),(we g6 Īa),"idle_of_one_kind","copied_to_itself","__getattribute__",Nat.lt_or_eq_of_le,List.set_cons_zero,List.set_cons_succ,List.mem_singleton,List.map_replicate,[mX X fw fh s i j],["kind","one",ße],(ψ (zM Çd) Đa),(οa (Îb [] Û)),(Τ (zM ϴa) ϯa),(À (Ã,.int m)),(λb u q=>ě _ q),(λ_ _ q=>ě _ q),(xf x y=Ä↔x=y),(seqObj Ĩ out c),(by simpa using a),(by simpa using F),(by rw[ϝb e];rfl),(by rw[ϔ,C];rfl),(by rw[Øa];omega),(by rw[Ĭ];omega),(args_list_sort _),(2*(Õ).length+2),(.tup [row,nx,tg]),"to_the_next_row","names_of_places","moves_by_nought","_law_program_by",z.cps.toList.drop,bne_self_eq_false,SetTable.probe.go,Option.isSome_map,Nat.sub_pos_of_lt,List.reverse_perm,List.getElem_take,List.foldl_append,Array.size_append,[.str Ĺa,.str t],(Ðe lo hi Å n),(êb b a Ý f d),(Ýf lo hi 1 ł),(Ő n 0++[2047]),(τ++Ő Òb Å),(yG VY b rfl Ĕb),(QR q Ê Ê ?_),(Nat.log2_lt Ê),(.tup (k.map kV)),"_law_registers",s.heap.IsSliceOf,h.heap.objs.size,env.cells.lookup,X.s₀.heap.get?,X.env.scope.kind,Nat.max_eq_right,List.zipIdx_cons,List.nodup_range,Int.toNat_eq_max,Int.min_eq_right,(zC þ Ïb),[.fz (.lst ϯ)],(řb λd=>!zj d),(Ç->É Value),(xv (zC ī zF)),(wN as ds ks es),(wN [] [] ks es),(qB kvs p.1 p.2),(q/64%(ŕ:Æ)),(ks.foldl tt []),(g.symm.trans z),(c b _ q λz=>z),(args_sorted1 _),(C4 K t1 t2 a b),(.cons rfl .nil),"table_of_rows","list_iterator",a.setIfInBounds,W.methodCall_KW,Nat.and_le_left,List.take_left',List.of_mem_zip,List.mem_append,List.forIn_cons,List.drop_left',[ķa,"low",ıf],[s,.int (46+i)],(ăd b o e n a),(Θ (.bl Ä)),(Ó (Ϲe ùa)),(σ++Ő n Å),(ys.getD j .zO),(xs.getD j .zO),(eC (.str Ś)),(e2 zJ ı Ŋ),(e2 zJ ğ Ŝ),(e2 zJ ğ Ŋ),(e2 zJ ą Ŝ),(e2 xE ŝa Ńb),(by rw[q];simp),(by rw[hl];rfl),(Zr Ă zG Ċ),(.dK (m.zip j)),(zD Ķb zP),"label_places","_law_cell_at",sortedHeap_old,list_sort_tree,d.names.lookup,Nat.testBit_or,Nat.le_min.mpr,List.take_take,List.drop_drop,Builtin.bitXor,[kV kv.1,kv.2],[.int w,.bl u],(Ĭd (vX a) s),(τ.set i äc),(zC (z7 2) zF),(vB TY Tv rfl),0,(call ϴd ϲ),(by rw[ì,G]),(TP X zA σ Q),(Ni R c.1 c.2),(.obj x fs ms),(.int (n:Â)),(.int (m:Æ)),(.inl (p:Æ)),(.builtin Ŗc),((Ϸg).take m),sysModules,"set.__new__","not_reached","moved_right","_law_varied","_law_row_by","_law_memory","__setattr__",swapsWithSole,swappedStores,sortedHeap_at,s.heap.IsList,p.toList.take,p.toList.drop,X.env.globals,W.plainGet_of,Paired.length,Nat.reduceSub,0,Nat.reduceAdd,L2.isort_perm,Bool.not_true,(μ/3%256),(.str şa),(.str Řa),[āa,åa,Æe],[.type Ś,a],(λr=>y_ Ţc),(zu.near x z),(ze H5 D Ğa),(yR a p fl g),(w/65536%256),(VG xs lo hi),(T.set m àk),(D.bl (i==j)),(.str {#[c]}),(.mk e1 e2 d),(.Expr e pos),((left-1)%26),"words_from","targets_of","not_needed","moved_left","is_address","bytes_from","address_of","address_in","_law_words","_law_names","IDLE_KINDS",0,setAddHashed,seqIndex_neg,s2.heap.get?,plain_sorted,ns'.Pairwise,l.row.toRowW,its'.toArray,h.IsListIter,entry_sorted,concat_meets,WData.weight,SeqAt.RcNeAt,PySem.Within,PySem.W.Frag,Nat.zero_max,Nat.succ_mul,List.map_set,List.any_map,K.env.ext.gh,E.ext.h.free,Code.isFrame,Bool.or_true,[.int i,v i],(ěa .NotEq),(Îb es Û),(λz=>c ħb),(ze H a Ϣa),(ze G a Ϣa),(zC ğ Āc),(x.rebase y),(wR Ŝc ßc),(qB kvs k v),(pairsOf vs),(gallopOf s),(atKey xs k),(I.pq x c e),(.int 65536),["State"],(Zb N[i]),(Xz.mp d),(.dK Ûb),"with_part","ways_from","needed_at","last_name","is_number","four_from","comers_of","_law_told","_law_mark",xs.dropLast,wpAny_of_eq,seqIndex_of,kind_sorted,c.heap.get?,a.names.all,W.specialIn,W.plainOver,W.kitx_list,W.emptyDict,Value.float,Sum.inr.inj,Reps.length,Nat.div_pos,K.env.ext.g,Int.pow_pos,D.TOi2.symm,(Ĥ o Û),(ϧa .Mult),(Łb _ Ò),(Ľb _ Ò),(λx=>!x.1),(zC Ŏf zF),(zC Ŋ zF),(we Wp Ïb),(w/256%256),(uF Ía pJ),(pl a::Ϝ),(i∈Yy zG),(ixN ü j),(by show N),(by show B),(L++[xy t]),(.type ãd),(.str w::_),(.rt m β2),(.refl _ _),(.list Ņc),(.Name c p),((i:Æ)+1),relayAll,ns.foldl,"put_word","put_byte","pairs_of","mark_bit","leads_on","labelled","is_label","bytes_of","__name__",z.cps.size,wpAny_load,wpAny_Name,typeIs_int,scope.kind,o.ExactSet,cond_false,checkCount,builtinsNs,b.Pairwise,X.Pairwise,SeqAt.RcAt,OwnMs.snoc,OwnMs.join,List.foldl,I.ok.above,D.i1z.symm,D.TOz.symm,(eC ćd),[.lst ϯ],(Ĉe N vs),(Ça this),(Ő m []),(Á M×M),(λ_=>Ā),(ze H x o),(wD K Ϫe),(uP X.K F),(qF 2 Ãf),(jn Õ p),(acc++its),(.yj ob v),(.val Ī),(.lst ęa),(.int Ŭ),(.bl (!k)),((k,x)::r),"word_of","word_at","without","ways_of","there","rows_of","reached","name_of","look_at","is_pair","is_jump","byte_at",zo.of_get,t.dummies,reduceIte,qs.length,ps.take,o.reverse,names.map,n.testBit,inplaceOp,i.g.trans,cond_true,collect,cellsFrom,c.toArray,c.heap.Ns,c.gh.free,a.size_eq,a.g.trans,WData.int,W.takerIn,W.readsIn,W.findCls,W.OpenLaw,U.testBit,Str.empty,PySem.Fin,IsTup.new,[Ŷc,ıf],[ģb,ĉc],[Ĥa,ġa],0,[ķa,åa],[Ÿa,ķa],[Ħ,ģb],(Ţd ĭ),(ōe n y),(Ĝd Éd),(Αb õb),(Γ ϴa),(Γ Ía),(ϣ _ _),(Α ñb),(ς ùc),(ϡ čd),(Ų _ z),(ě _ g),(ó Ŭf),(ó ùa),(À Ŗ),(À Ä),(λz=>?_),(λc=>?_),(xs[i]+1),(xs++[x]),(x-y-q<0),(x b u e),(x ^^^ y),(x &&& y),(st::sts),0,(qA J pl),(p.n X G),(n*65536),(n*2 ^ l),(kO z6 T),(j _ _ e),(gt T i1),(d i q z),(QM P hi),(.v d::a),(.tup ds),(.ref We),(.nx σ2),(.nx σ'),(.lst z6),(.lst ws),(.lst ds),(.int 30),(.fz ŭf),(ó h),(vm j),"summed","led_on","joined","do_row",xo.focus,ws.foldl,raiseNew,qs.Nodup,pick_run,o.toList,0,ns'.Perm,n.natAbs,its.size,i.h.free,g.toList,f.isList,c.toList,c.h.free,a.toList,W.length,Reps.rep,OwnMs.bA,I.ok.mod,[.ref l],[.lst a],["four"],(Ţk%26),(ϭg ..),(áb Q8),(ϡ 32),(σ++τ),(zN çe),(zN Úa),(zM Ġc),(zM æe),(zM Ía),(zM Çd),(zB Īb),(yo Ģ),(yc ą),(wm ğ),(wm ī),(vt Úf),(vO ļ),(vM 3 4),(vM 2 3),(tz Ĳh),(tz þ),(qo q c),(pO üa),(pN n p),(lo+y-1),(kv.1=k),(jf Ŝa),(gt T m),(eC Øb),(D5 h H),(C3 K a),(C2 K a),(C0 K a),(2 ^ 62),(.tup c),(.str b),(.ref D),(.own d),(.lst N),(.lst I),(.int b),(.int a),(.inr a),(.inl i),(.inl e),(.inl d),(.bl d'),"need","words","taken","short","plain","needs","leads","label","count","added",xs.getD,v8.snoc,v8.mono,u.toNat,setItem,propext,k.trans,h1.get?,getAttr,f.trans,a.names,Reps.bK,PySem.W,N.least,L3.getA,ElemsOf,E.ext.g,(ãg k),(Ϻl i),(Ŏe k),(ţa k),(ţa f),(ţa d),(Ôa x),(Ôa j),(Ĭb f),(ϔc/2),(řk _),(ώa r),(Ġb b),(úc f),(ýd h),(Ϭg d),(śa _),(ŏc c),(ϑb j),(Ϗg h),(łb i),(óa G),(Ķ _),(ü+1),(ώ e),(Ñ g),(Đ c),(Ŀ m),(É M),(À r),(À p),(À 7),(x-y-q),(vO zK),(n+ü),(n+i+1),(m∈F),(j-i-1),(j+1+m),(g b a),(f ĩe),(f v u),(eC TZ),(c σ1),(b Ēd),(b r.2),(Yh z6),(Tj ps),(O3 BS),(I _ z),"used","part",z6.map,tD.fin,t'.led,r.drop,o.mono,o.bind,ns.sum,m.mono,l.most,"item",items',h.push,frames,d.kept,d.get?,c.size,c.heap,bubble,b.Perm,Y.drop,T.done,O.heap,N.mono,N.last,K.keep,I.step,I.look,I.keep,H.get?,E.back,D.l2TO,C.get?,B.cell,(zN l),(z7 i),(yJ _),(yC 4),0,(xy t),(vd m),(tS a),(pl b),(pl _),(pS 4),(pS 2),(pS 1),(mA f),(lo+y),(lo+j),(k_ 4),(k_ 1),(kV k),(k'=k),(i::a),(c++a),(Uf X),(Tp r),(Pf X),(Ov X),(Om K),(Ls i),(xG (Δa (zR b) (z8 3) (wz (zD yA (zD yA zP)) (yP (zd (zd yW)) Ò))) (zc (yo (wz (zD (z8 3) (zD (z8 4) (zD (zX ŉ zV (yQ (wR (zD (Κ (z8 6)) (zD (Κ (z8 6)) zP)) ϋd)) (Κ (zW ub ua ĝ zK))) zP))) (yP ϩe Ò)))) xj),[À (Ã,s),À (Ã,.int first),À (Ã,.int most),À (Ã,.int l),À (Ã,.lst (N.map D.str)),À (Ã,.int A),À (Ã,.lst R),À (Ã,.int (i:Æ)),À (Ä,.lst w)],[.tup [.int (Η (x+0)),.int (w%256)],.tup [.int (Η (x+1)),.int (w/256%256)],.tup [.int (Η (x+2)),.int (w/65536%256)],.tup [.int (Η (x+3)),.int (w/16777216%256)]],(Z1 (tE (e2 vL (wY 1 (vt (z7 6)) (yC 9) DJ Sq) (xv zF))) (tE (e2 zh (e2 xE (e2 vK (zg uC (zC þ (Α (e2 xN ą Ϛa)))) Ϛa) (eC (.int 5))) (z7 7)))),(uD (Μ (yt (i:=6) (show(wJ [Ϝa,"_law_many","_law_letters","_law_size","_law_word","_law_spot"] ["_law_k"]).Nodup by decide +kernel) rfl á)) rfl),0,(e2 (vW Ϟa) (zg t4 (Α (e2 zJ ą (z7 6)))) (e2 (vW ıa) (MK Wz (zC (qP 4) (Α (e2 zJ (z7 2) (z7 6))))) (e1 TU (zg qe (Α (e2 zJ ą (z7 6))))))),[À (Ã,.int m),À (Ã,.int many),À (Ã,.str ĵb),À (Ã,.int (m%8)),À (Ã,.str W),À (Ã,.int c),À (Ã,.int (i:Æ))],(.ins C dx (putF f w (fs.zip vs))),[À (Ã,.lst rows),À (Ã,.lst ęa),À (Ã,.dic K V),À (Ä,.lst (wp rows zG i)),À (Ã,.int (i:Æ)),À (Ã,r)],((p.setIfInBounds i (d,Ϧ+Y.length,K)).eraseIdxIfInBounds î),(zD yA (zD yA (zD yA (zD yA (zD yA (zD yA (zD yA zP))))))),["_law_script",ċb,"_law_most","_law_count","_law_names_here","_law_many","_law_rows","_law_k","_law_items"],(λd=>match d with|.int j=>D.str (L2.cutS W Å (À c)++lt ((m/512+j)%26)++L2.cutS W (À c) Å)|d=>d),(rl (Uf z6 m) (Pf z6 m) T (Wf z6 m)),(wN (wD as (.inl (a:Æ))) (wE as ds (.inl (a:Æ)) (v a)) (qs.map λi:Â=>ĭ (i:Æ)) (qs.map v)),(.tup [.str (ŭa w),.int d,.int s]),[À (Ã,.lst rows),À (Ã,.lst ęa),À (Ã,.dic K V),À (Ä,.lst (wp rows zG Ċ)),o,s],(xH ϧ=Ã/\yY z6 ϧ=Å/\jJ (Õ).length ſ ((Ęa).getD i .zO) ((ſ).getD i Å)=zt z6 i),(λk:zY=>match k with|.inl i=>i|.inr _=>(0:Æ)),[.tup [.int g0,.int 0],.tup [.int g1,.int 8],.tup [.int g2,.int 16],.tup [.int g3,.int 24]],[À (Ã,.int m),À (Ã,.int many),À (Ã,.str ĵb),À (Ã,.int (m%8)),Å,Å,Å],[À (Ã,.lst z6),À (Ã,.lst (zN T)),À (Ã,.lst (vC z6)),À (Ã,.lst (zN a))],(PySem.wpAny_newList (ó {PySem.Code.quiet_builtin _ Æa,Úc (entry_list_iadd') ?_})),(λr s'=>r=.ok (.ret (.bool Ä))/\OldK c.heap s'.heap/\s'.os=c.os/\AllBare s'.gens),[À (Ã,.lst Ă),À (Ã,.lst ęa),À (Ã,.dic K V),À (Ä,.lst []),Å,Å],(λq z w=>by rcases z with⟨z,_⟩|z;show z;show i q (t q z ((u q).mpr (.inr w)))),(((sIx ń 0 lo:Â):Æ)==0&&(1:Æ)==1&&(sIx ń ń hi-sIx ń 0 lo)==ń),pendingOf,(λc=>c.1=Å/\∃y q g,st=yR y q Å g/\uJ 0 q.toList y.toList/\y.Perm x),[À (Ã,.lst a),Å,f,À (Ã,.int (i:Æ)),À (Ã,.lst (zN (W i)))],[.tup [.str ϻ,.bl Ã],.tup [.str ça,.bl Ã],.tup [.str ëa,.bl Ã]],[À (Ã,.lst z6),À (Ã,.lst (zN T)),À (Ã,.lst (vC z6)),Å,Å],[.int (x%256),.int (x/256%256),.int (x/65536%256),.int (x/16777216%256)],(by let:=Int.add_le_add_right (õa h) (n:Æ);rwa [Int.zero_add]at this),(λq z=>h q (Ζa (s q z))),[.fz (.lst X),.fz (.lst Y),.fz (.lst ϯ),.fz (.int 30),.fz (.int 50)],0,(λg a b i s o=>f g (Ų _ a) b i (λq z=>(u q).mpr (.inr (s q z))) o),(newList [] >>= λl=>again (.builtin "list.__iadd__" {[l,.ref a],[]})),[À (Ã,.lst ϯ),À (Ã,.int 38),À (Ã,.dic ĸ ų),j,c,Å],[.fz T,.fz (.int e),.fz ĝa,.fz ϖb],[À (Ã,.lst ϯ),À (Ã,.int 38),À (Ä,.dic [] []),Å,Å],[À (Ã,.lst z6),À (Ã,.lst Ă),À (Ä,.dic [] []),Å,Å],(yP (Jr (n:=4) Ò) Ò),(.Attribute o name apos),["not_reached","to_the_next_row","copied_to_itself","not_needed"],(λr=>pure (.done (À r,e.2.1,e.2.2.1,e.2.2.2.1,e.2.2.2.2.1))),(zC (e1 (wK [ŀ] øa) þ) (Α (zg XQ (zC þ (zC ą zF))))),(l.map λp=>{PyData.keyHash w.params p.1,.str p.1 p.2.1,p.2.2}),(ó ⟨_,rfl,ó h⟩),[À (Ã,.lst z6),À (Ã,.lst (zN a)),Å,Å,Å,Å,Å],[.fz (.lst X),.fz (.lst Y),.fz S,.fz (.int 30),.fz (.int 50)],(λxs H Q=>∃a kvs,xs=[V.ref a]/\Rd H a ť/\Q (.int Ō) H),(wN [] [] (a.map λi:Â=>ĭ (i:Æ)) (a.map λ_=>D.bl Ä)),(vj Ċ zG i++[jJ Ċ zG (rows.getD i .zO) (zG.getD i Å)]),(setNext a (q:Æ).toNat (i:Æ).toNat (ep:Æ).toNat >>= _),[.int g0,.int (g1*256),.int (g2*65536),.int (g3*16777216)],(Yx (tE (e2 Ļc Ŝ (eL vy Ïb))) (tE (e2 Xm Ŝ (qP 2)))),(Öc (ó {_,rfl, Ňb,_,{_,ŷ _ rfl,rfl},Oi.lookup,?_})),(e2 zJ (e1 (wK [à] ŗa) þ) (e1 (wK [à] "due") þ)),(by rw[typeLookup_type,builtinLookup_eq_fast];kernel_rfl),(a::b::z_),(.tup [.str k,d,s,n]),(.done (À (Ys a b (ϐ q) i (j+1)),ϐ q,i,j+1,g,k,u)),(PySem.wpAny_runValue (Úc (entry_proto_collect') ?_)),(.tup [.str (ŭa w),.int (d:Â),.int (s:Â),.int n]),[À (xF T c fw fh b a d),À ùd,À (.fz (.int k))],(λr=>pure (.done (À r,d.2.1,d.2.2.1,d.2.2.2.1,g))),(if t then Wx [.int x,.int n]else Wy [.int x,.int n]),[À (Ã,.lst ęa),À (Ã,.lst (zN Úa)),Å,Å],(zl 3 (e2 zJ (zg JO zF) (e2 xE þ (eC (.int 28))))),(.yield (Å,e.2.1,e.2.2.1,e.2.2.2.1,e.2.2.2.2.1+1)),(wp Ă zG i++vj Ċ zG i++[.tup (hd++[.str Ăd])]),(kM (qT Ϫ jX) (M_ (yG YT b rfl ϯe) (M_ Ķc pJ))),(.tup [.str k,d,s]),(if v<0 then max (v+(n:Æ)) 0 else min v (n:Æ)),(.tup [.str şa,.int (d:Æ),.int (s:Æ),.int n]),(.tup [.str řa,.int (d:Æ),.int (s:Æ),.int n]),(.tup [.str Řa,.int (d:Æ),.int (s:Æ),.int n]),(.tup [.str Őa,.int (d:Æ),.int (s:Æ),.int n]),['r','o','t','a','r','e','t','i','_','t','e','s'],(wN [] [] (a.map λi:Â=>ĭ (i:Æ)) (a.map v)),(if v<0 then(v+(n:Æ)).toNat else min v.toNat n),(.ListComp (.List [] p) [{tg,iter,[],0}] Ł pos),(wp Ă zG i++vj Ċ zG i),(jW 0 Ŏc (TL (zg XQ (zC þ Ïb)) (TL ϧe vq))),(W.fnOf x a (ja st) Ýa ŗ .none kV d g h b ct),((Śc a (äb λ_=>#[])).push (seqObj Ϗ ŷa 0)),[.fz m,.fz o,.fz S,.fz (.int 30),.fz (.int 50)],[Ïa,"add",Ĕa,"sub",ēa,"and","or","xor",ÿa],(Γ (zX ŉ zV Ģ (zW xX xV ëb (ς ùc)))),(λi=>decide (0<=i)&&decide (i<1099511627776)),(by first|rfl|(simp only[firstArgMember];rfl)),[À (Ã,.dic ĸ ų),À (Ã,.int x),Å],(wN as ds (ħa λi:Â=>ĭ (i:Æ)) (ħa v)),(kvs.map λkv=>if kv.1=k then(kv.1,y)else kv),(j (E.go d) c λv x s p i=>q v _ _ (šc p) i),(by rw[I.ok.glob];show I.mod.glob.keeps I.bk),(Va (t:=wx (Õ).length ſ p) (u := "") A w),(assign (.Name x j) Û),[D1,.tup [.str k,.int (d:Æ),.int (s:Æ)]],(çd (Ó (Ĉb hz rfl (x:=.ref TO) rfl ?_))),(À (Ã,vJ T e fw fh (vd s) due done)::τ),(λq=>(o q/\¬ E q)\/((E q/\¬ L1 q)\/L2 q)),(qO xS P w K mg Ì N c ŗ f g A ĉ s H E),(qO xS P w K mg Ì N a ŗ f b A ĉ s H E),(ds.map (λd=>À (Ã,d))++Ő (n-ü) Å),(W.fnOf x a (ja st) Ýa ŗ h kV d g i b ct),(W.fnOf m q (ja st) Ýa ŗ d kV g c h a ct),(zX (zU (zR a)) zV (vZ ĝ VB) (vZ ĝ YG)),(uc=Ã->k = "add" \/ k = "sub" \/ k = ÿa),(h.imp (λz=>by omega) λz=>{by omega,z.2}),(.tup [.str ÿa,.int (d:Æ),.int (s:Æ)]),(wx (Õ).length ſ p),(zl 1 (e2 (vW Ϟa) ą (zg Ww (Θ ŭc)))),(qO xS P w K mg a N x ŗ f c A ĉ s H E),(qO xS P w K mg a N q ŗ f c A ĉ s H E),(if(i==0)=Ä then 0 else i.natAbs.log2+1),(if([]:Á Keyword).isEmpty then 0 else 1),(.tup [.str (ŭa w),.int d,.int s,.int n]),(ψa (λi j=>vV i+vV j<=134217728) (i*j)),(Α (e2 zJ ą (e2 xE ŝa (eL vy Ïb)))),(λ_=>û {_,rfl,WB.go {f,h,d,by omega}}),(Yu (tF (Of .list rfl rfl Zx gY M6 ŵa))),(.tup [.str k,.int (d:Â),.int (s:Â)]),(.tup [.str (ŭa w),.str (ŭa k),.str t]),[.str w,.int d,.int s],(zD (vZ ĝ jX) (Γ (yG YT b rfl ϯe))),(n[Âa]'(by rw[<-w.ln];show(Ŀ hds).1)),(by rw[<-m];show Nat.not_succ_le_self _),(UG (by rcases b with rfl|rfl<;>decide)),(Builtin.«zip.__next__» {[.ref z],[]}),(.dic (kP (Zm ps x w)) (vP (Zm ps x w))),(.Call (.Subscript Ϙb k p2) ĕ [] pos),Array.Perm.refl,(Ùa { cls:=.type Ña,ć:=.dict #[] }),(zx (w pos d s σ H _ I h) λk f c=>?_),(zx (v pos i s σ H _ I h) λB y c=>?_),(zx (h pos j s σ H _ I k) λl a c=>?_),(vi X Ł cl own C s2 H2 fp (X.pn++zA)),(.Tuple [.Name x p1,.Name y p2] kk pos),(vI (own:=[āa]) rfl),(by let:=ïc z;omega),(m/512+(i:Æ)),(λq a b=>dj q ((àa).mpr (.inr a)) b),(λd=>match d with|.tup [_,x]=>x|d=>d),(ze (ze m i (.own y)) y (.ins C i [])),(qO R P w K J l N g d f I A ĉ s H E),(pN (Õ).length λi=>!decide (i∈R)),(k.pin (b,o) (ĩa _ (ĩa _ (B1 p e)))),(by first|show .inl Æa|show .inr Æa),(Z.pin (b,o) (ĩa _ (ĩa _ (B1 d e)))),(W.fnOf Ĳ c g i a Z kV z pm an d ct),(PySem.F.args_tuple_iterator_next_1 _),(if x∈cs then getA fs a f else Å),(if k'=k then À v else Ć ks vs k),(i (E.go d) c λt o m=>q _ _ (šc m)),(.Tuple [.Name x g,.Name y p2] f pos),(.Tuple [.Name x e,.Name y p2] c pos),(λ_ _ z=>nomatch z),Builtin.SmallTypes.ownedTupleHandOut,[.str Ïa,.int (m/4%8),.int (m/4%8)],(ϋ λp=>zQ (zl 2 (zg p.1 Īa)) t7),(λv:Æ=>decide (v/2147483648%2=1)),(backToKw cpos (keywordEach [] Û)),(ϊb (show tD _ _ _ _ _ from h).sx),(η (gR t a b y) (Q9 t a b (x+1))),(zx (m g s σ H _ I h) λc j d=>?_),(zx (m f s σ H _ I h) λv j e=>?_),(zx (d b s σ H Q I h) λc f e=>?_),(e2 zJ (e1 (wK [ŀ] Ýb) þ) Żg),(.tup [.str (ŭa w),.int d,.int n]),(ŗc y=À .cell\/ŗc y=À .free),(ψa (λ_ j=>0<j/\j<2 ^ 64) (i/j)),(Ĉb hz rfl (x:=.bool Ã) rfl ?_),(ÿ (show k+1<=101 by omega) Ò),(zl 5 (e2 xE (e2 vK þ Ŝb) ğ)),(qE 8 tN (γb (e2 zJ Ŝ (z7 7)))),(if(Ė t==ϥa)=Ä then _ else _),PySem.F.entry_tuple_iterator_next,(λq z w=>B q Ãe λF=>w (i q F)),((ĩ h).resolve_left λz=>c ħb),(!w.params.followText ŕc && ϒd),(zD yA (zD yA zP)),(e2 zJ (z7 2) Ŝ),PySem.F.slot_dict_getitem.lookup,PySem.Calls.Name_function_global,(z6.take î),(Ĉb hz rfl (x:=.ref TI) rfl ?_),(λm j i c s o=>f m j i c õk o),(λm f b i s o=>a m f b i õk o),(g0+g1*256+g2*65536+g3*16777216),(.ListComp d [{tg,b,f,0}] a pos),PyProof.Rows.slot_tuple_getitem,List.take_sublist,[.own Ød,.fz ţc,.fz (.int w)],[.lst ϯ,.int first,.int most],[.int w,.int 16,.int 16,.int n],(ψa (λ_ j=>0<=j) (i/2 ^ Âa)),(Ĉb hz rfl (x:=.none) rfl ùa),(Îb [a] Û=[(Ã,Ĥ a Û)]),(η (gT t a b y) (QB t a b x)),(λp=>if p.1=a then(a,b)else p),(zW Zj Zi (zW kY kU zK ļ) zK),(wp Ă zG i++vj Ċ zG i++[r]),(rI FW λi j=>.int (i*2 ^ Âa)),(kvs.any λkv=>decide (kv.1=k)),(k = ϻ \/ k = ça \/ k = ëa),(gQ left (wg f) λi=>K x (b+i)),(by unfold IB;simp only[Ø,c]),(PySem.F.args_dict_get_3 _ _ _),(Nat.le_of_sub_eq_zero (ϸg c)),(.Call (.Name x xp2) ĕ [] p2),((σ++Ő 2 Å).set i (À b)),(zW ub ua ëb zK),(zW kY kU zK Çd),PySem.wpAny_comprehension_free,0,Array.perm_iff_toList_perm.mpr,[ïd,"_law_other",ća,ċb,ēf],(Ĝd (F.map λi:Â=>(i:Æ))),(şb<=14/\(źa:Æ)<=2*most+2),(ϗd (es:=es) (t:=t) i b c ?_),(λq z w=>t q z (Ζa (j q w))),(λq z w=>B q (Ζa (j q z)) w),(by rw[size_push'];show Ŀb f),(X.take k++r.toList++Y.drop e),(PySem.F.args_tuple_add_2 _ _),["ways","comers",ĉc,åa,Ěb],(ř ł ł hi-ř ł 0 lo),(ř ë ë hi-ř ë 0 lo),(Β (Ĭb λl=>D.lst (zN l))),(ę (x/2 ^ ((l:Æ)).toNat)),(ę (g*2 ^ ((n:Æ)).toNat)),(λq=>(t i q/\¬ L1 q)\/L2 q),(pN (Õ).length λi=>pE ϧ),(jJ (Õ).length ſ ãf âf),(.tup [.str w,.int d,.int n]),[.int (i:Æ),v],((Õ).length+1),[À (Ã,.lst Ϯe),Å,Å],[À (Ã,.lst a),Å,f,q,o],[st Ŕ a b c hk hv,.fz ϔg],[st Ŕ a b c hk hv,.fz Ćb],(űc e Å Įd Û=pure Ã),(Β (Ĭb λl=>.lst (zN l))),0,(λc d k e=>j a f m c d k e),(wJ ["four"] ["byte","low"]),(tF (yG VU b rfl (Γ õb))),(st Ŕ Ã Ã Ã ĸ ų),(setField Ăc 2 .none >>= _),(if g=f then À u else i g),((Č).map λr=>y_ (yY X r)),((p:Æ)<((Õ).length:Æ)),(!(Äf j i 0 ģa 1).isEmpty),List.idxOf_lt_length_of_mem,List.getElem?_concat_length,Builtin.List.listLengthHint,Builtin.List.listExtendWith,(Đb e f Û ïe=Ĥ e Û),(λq=>(o q/\¬ L1 q)\/L2 q),(λq=>(L q/\¬ L1 q)\/L2 q),(λd1 d2 v=>MP I n d1 d2 v),(zg tL (jA à Şb þ zF)),(zX ŉ zV (vZ ĝ qk) Ķb),(pN (Õ).length (kO z6 T)),(if zj d=Ä then 0 else 1),(e2 xE (e2 vK ŝa Ńb) Ŝb),(e2 pH (e2 vz Ŋ ğ) Ŋ),(List.pairwise_map.mp this),(.own (.dic (kP c) (vP c))),(χa (.int 64)),(p∈xI Ċ zG),"dict_reverseitemiterator",Int.fdiv_eq_ediv_of_nonneg,Builtin.Slice.sliceApplied,Array.toList_setIfInBounds,0,[vJ T e fw fh sd due done],(λb p=>b++sep.cps++p.cps),(yN B9 B7 ŵa (zM jM) ž),(if p.1=a then(a,b)else p),(by rw[mirror_size];omega),(W.methodObj Ī (.ref y)),(Pf X i &&& uG T (Wf X i)),((ġb).testBit k=Ä->x=y),"_law_machine",Option.map_eq_some_iff.mp,[ŗa,īb,Žb,êc,Ÿa,ûb],(ěb (êb q ŗ Ý f c)),(ěb (êb c ŗ Ý f g)),(ěb (êb a ŗ Ý f b)),(Γ (zX ŉ zV Ģ ëb)),(ς (zM (vB IS OK rfl))),(τ.set i (À (Ä,d'))),(λf vs=>PySem.call f vs),(rule "list.sort.gallop"),(pN (Õ).length (Yh z6)),(i4 Ě (λb a=>Ϻb.1) k),(by simp at hn ⊢;omega),(X.N.map (hide own)++own),(Tl (tz þ) (vM 3 4) O5),(Nat.le_of_ble_eq_true z),(.nx (Ν (À (Ä,a)))),(.ins C dx (putF f y fs)),(.call (.ref S) {ϲ,[]}),(.Compare a [op] [b] pos),(j.2 a l.symm),slot_list_getitem.lookup,PySem.F.type_list_append,PySem.F.slot_tuple_index,PySem.F.slot_list_append,List.Pairwise.imp_of_mem,Builtin.List.listSameRef,(ψa (λ_ j=>0<j) (i%j)),(ϐ q++ãb ϭ (j+1+m)),(ıa w (łb 4294901760)),(xs.drop (ř ë 0 lo)),(wJ [đd,Ěb] [ĥd,ĉc]),(uh z6 L Ħh dl Ūa ϑd),(if i∈a then 0 else 1),(by rw[k];simpa using n),(by exact 2<=ä;decide),(Option.map (λx=>!x) y),(.lst ((Àb a).map ę)),(.Attribute o "get" Åa),"itertools.zip_longest",PySem.F.entry_tuple_add,Nat.testBit_mod_two_pow,Nat.testBit_div_two_pow,Nat.not_lt.mp,List.length_pos_iff.mpr,List.getElem?_cons_zero,List.getElem?_cons_succ,F.entry_set_update_loop,Builtin.Dict.updateFrom,[ϣb,Ğc,"ways","puts"],(νb (d.lst i (ϝb c))),(Β ((Àb b).map üb)),(λx l r Q c U N O=>?_),(λv:Æ=>decide (v=0)),(λd=>.tup [d,.bl Ä]),(.Return (À Ìe) pos),(.Name Ųa p),PySem.F.slot_tuple_add,PySem.F.entry_dict_get,PyProof.Rows.bitAnd_pp,Nat.testBit_lt_two_pow,List.pairwise_lt_range,(À (Ã,.dic ks ds)),(λq z=>(àa).mpr Œb),(λc=>Br x (z+1) c st),(λb o g e=>T b o g e),(zl 4 (e2 xE þ ğ)),(zl 0 (χa (.int 28))),(yQ (vQ Ic b rfl Ĕb)),(yQ (vQ IZ b rfl óc)),(xF T e fw fh s d0 j0),(uh z6 L T dl Ūa ϑd),(uG T Ğb &&& Pf z6 m),(rI C λi j=>.int ϱa),(i.trans (Ŀa i.gh g)),(gF Ŕ a b c ĸ ų),(by rw[z];show Ġ ..),(by rw[ur Ê];show w),(by rw[d];show{_,g,q}),(Pf z6 i &&& uG T çe),(Bo a b (ϐ q) i Èb),(.inl {b,k,e,rfl,rfl}),(.While c body [] pos),(.Subscript Ž k ϓ),(.Call ÿk ĕ [] Ϯ),"RowMachine.__init__","PUT_NOUGHT_AND_SIGN",X.s₀.heap.FunFrames,Std.Legacy.Range.size,PyProof.Rows.wpS_lift,Nat.add_lt_of_lt_sub',List.mem_filterMap.mp,List.getElem?_zipWith,List.dropLast_eq_take,List.Pairwise.sublist,Int.mul_ediv_add_emod,[ŗa,īb,Žb,êc,Ÿa],[ća,ċb,Ýe,ōb,Ϝa],[.int x,.int (n:Æ)],[.dic ĸ ų,.int x],(Η ((x+n)%65536+3)),(Η ((x+n)%65536+2)),(Η ((x+n)%65536+1)),(Η ((x+n)%65536+0)),(zB (Ĭd (vX f) s).2),(x.above y c (Ôf h)),(vI (own:=[ĥd]) rfl),(uh z6 L T ϡb x6 x7),(uh z6 L T dl Ūa x7),(qo (u.uz b c v q) d),(pG (tE ğ) Ŋ ī),(fC I l o hf g d e i),(f.trans (i.trans n)),(es.getD p (0,.none)),(by simpa using this),(by rw[ď c];decide),(F.args_zip_next_1 _),(Bs D.l2i2 G.toArray),(Bs D.l1i1 C.toArray),(.Call ÿk [] [] Ϯ),(.Call Ϙb [] [] pos),(.Call Ž ĕ [] p2),(.BoolOp .Or [a] pos),(.Attribute o f tpos),((Ôa x).set éb.1 r),(.ret .none),"str_ascii_iterator","itertools.pairwise",wpAny_loadName_local,codeAny_call_builtin,Nat.add_le_of_le_sub,Nat.add_le_add_right,List.length_eraseIdx,List.length_dropLast,Calls.evalArgs_plain,Array.toList_reverse,[xF T c fw fh b a d],[.Attribute o f ϓ],["one",ße,"borrow"],(ο (Xl .list þ)),(Ĥd 0&&p.testBit 0),(Γ (vB IQ OI rfl)),(Γ (vB IN OG rfl)),(λz=>e (a.trans z)),(λq z=>j q (i q z)),(zc (ku (qv 4) ύa)),(wJ [ϣb] [åa,āa]),(w a/2147483648%2=1),(w = Ða \/ w = Ìa),(vA ñb (vA ŝa vq)),(uF ύa (uF ëb pJ)),(tE (e2 ZU þ ϰa)),(if a then 1 else 0),(by rw[Ĭ]<;>omega),(by rw[yH z];show c),(by rw[j,k];show hz),(by rw[a,hl];decide),(by rw[N.len];omega),(by let:=P.ln;omega),(Yt a b ĺd (i-1) j),(Th I o i hv ?_ u b),(Nat.le_add_left ..),(.tup (c++[.str t])),(.rt Ã (.str Ĳ)),(.inr (j q (i q z))),(.Subscript o k ϓ),(.Subscript a b pos),(.Call c ĕ [] pos),(.BoolOp op [a] pos),(.Attribute o f ϓ),((d q).mpr (.inl c)),0,"dict_itemiterator","Machine.registers",z.cps.toList.length,ws.take,wpAny_setEntries_of,wpAny_loadName_cell,wpAny_letGo,Nat.sub_le_sub_left,List.replicate_zero,List.range',List.filter_sublist,Builtin.Range.small,[ķa,"low",ıf,åa],(υc (.Name Şa p)),(υc (.Name ϙb p)),(δb (.Name Ña p)),(εc (ν (x=.zO))),(εc (ι (x=.zO))),(ϋ λp=>.int p.1),(Η (Þe%65536+3)),(Η (Þe%65536+2)),(Η (Þe%65536+1)),(Η (Þe%65536+0)),(Įa (ώ (qD hi))),(ě _ (ě _ ťc)),(À (Ä,.lst xs)),(λx l r Q c q=>?_),(zX ŉ zV Ía Ġc),0,(zX ŉ zV ϱ Ía),(zX ŉ zV ĝ ύa),(vk ps Ćd (v%256)),(vI (own:=Ōf) rfl),(vI (own:=ϭb) rfl),(vE I s N L Ϥd x6),(tE (εa (eC ēb))),(storeName Û x u),(qo (u.qc b e q) d),(pQ λi j=>.bl ϱa),(intBits_le_64 a b),(hi l s σ H _ I h),(by simpa using hz),(by simpa using hj),(by simpa using h2),(by simpa using e2),(by simpa using e1),(by simp only[Ø]),(by rw[Ķ];show U),(by rw[Ĺ];show b),(by rw[ã];show c),(by rw[z08];decide),(by rw[w.l];show f),(by rw[H.l];show d),(Zo (tF ļ) zK zK),(Obj.putSet es2 t2),(.tup (p.1.map kV)),(.ret (.int j ē)),(.Tuple elts kk tp),(.Assign Íf v pos),(.Assign Æf v pos),0,(zg V2 Īa),(zU (zR d)),(xW (yl a)),"internal:collect","dict.update.loop","Machine.__init__",s.heap.IsTupleIter,getattributeRaised,SetTable.orStandIn,SeqAt.EqAt.str_int,SeqAt.EqAt.of_refs,SeqAt.EqAt.int_str,Obj.data_mapFields,Nat.lt_of_le_of_ne,List.zip_nil_right,List.getElem_idxOf,List.getElem?_take,List.Nodup.sublist,Int.lt_of_le_of_lt,(łd (ğc e.gh i)),(äe (Ŀa b.gh f)),(Ġb (Ŀa c.gh e)),(οa (Îb es env)),(À (Ä,.lst L)),(λv _=>v=.bl Ä),(λb u e=>ě _ e),(λb G F q=>I b q),(λ_ h=>Þ h ô),(λC s H c d=>Ģ),(λC s H b c=>ļ),(β.set i (À a)),(zW wM wL ĝ Ģ),(zW mZ mQ ĝ Ģ),(zW kX qS Ģ ϳg),(zD Ía (Γ ύa)),(zD ļ (Γ Ϩd)),(z i s σ H _ I h),(wpAny_handled ?_),(wN [] [] p.1 p.2),(seqObj Ĩ Ũf 0),(seqObj Ĩ #[] c),(n f s σ H _ I h),(call Ùb (v::us)),(by simpa using t),(by simpa using q),(by simpa using f),(by simpa using d),(by simpa using Q),(by rw[ϔ,s];rfl),(by rw[ϔ,A];rfl),(by rw[Ĉ];omega),(by rw[ì];omega),(by rw[hp];decide),(by rw[QH];show c),(ZT (β.take ģ)),(DM t1 t2 h l1 l2),(DL t1 t2 h l1 l2),(Bj a b ĺd î j),(.obj à Ϩe ûk),(.Tuple es x1 pos),(.IfExp c a b pos),((Ė t==ϥa)=Ä),((a:Æ)==(b:Æ)),wpAny_storeSet_of,wpAny_setEpoch_of,wpAny_pyIter_slot,wpAny_pyIter_enum,wpAny_assign_Name,s.heap.IsListIter,d.params.defaults,Value.isInt_shape,Nat.or_lt_two_pow,Nat.add_sub_of_le,List.pairwise_map,List.nodup_append,List.getElem?_inj,List.drop_sublist,List.any_eq_false,List.Pairwise.map,Int.emod_eq_of_lt,Heap.get?_push_ne,Calls.spliced_nil,Builtin.Str.glued,Bool.not_eq_true',[şa,Řa,řa,Őa],[.lst ϯ,.int k],(Ņa i q (I q z)),(Ĳf b o e n F t),(Ϲg _ _ (ũb u)),(êb g d Ý f I),(ςa (zD Ýd zP)),(Β (ps.map pD)),(λz=>by cases z),(λx=>x.1.isSome),(zl iy (zg F fs)),(zj d=Ä->f d=d),(ze a p (.lst c)),(zW xX xV ĝ zK),(zW Zj Zi ļ zK),(zW Zj Zi zK ϙd),(y.toList.map wg),(x.toList.map wg),(wq (Õ).length),(wA g xY e σ ds),(not_not_intro z),(i<1099511627776),(eL vy (Θ Ϡb)),(by rw[z];show a),(by rw[i];show W),(by rw[i];show O),(by rw[c];decide),(by rw[b];show c),(by rw[<-O6];rfl),(b=Ã->pE r=Ã),(List.cons.inj a),(.tbl (ps++more)),(.Tuple es k pos),(.Pass {0,0,0,0}),(.Dict [] [] pos),"odict_iterator","State.__init__","REGISTER_COUNT","Machine.stands","Machine.memory",z.cps.toList.map,wpAny_pyIter_zip,wpAny_getItem_of,wpAny_execs_cons,noFill_tuple_add,e.heap.objs.size,b.heap.objs.size,W.cellsFrom_some,Option.getD_none,Nat.succ_lt_succ,List.range'_succ,List.isEmpty_nil,List.countP_cons,List.any_eq_true,List.all_eq_true,Int.ediv_le_self,Heap.size_update,F.entry_zip_next,[p0,p1,p2,p3,p4],["name",ģb,Ěb],["_law_address"],(će λd=>!zj d),(À (yr K Ϫe)),(λz=>h (ïc z)),(λx y=>ύ Êc),(λq=>nomatch q),(λq z=>h q Ĩe),(yR x Ük Å g),(wq (m%8).toNat),(wq (m%4).toNat),(wN [] [] ks us),(wE K V Ϫe İ),(wA g c e σ ds),(tE (zg XT ŉb)),(qU z6 F ϡb x4),(putO o (w f) q),(hd++[.str ńk]),(e2 Ļc ą ϛb),(by simp[Ęd,a]),(a.symm.trans e),(ZT (β.take b)),(.obj à [] []),(.fresh 0 0 Ϗd),(.done (Å,())),(.builtin "sum"),(.builtin "all"),((ϡd).length=n),"type.__call__","Machine.marks","Machine.again","LOOK_AT_CARRY",wpAny_loadPart',u.toNat.testBit,sc.names.lookup,es'.toList.Perm,codeAny_of_tree,0,Option.map_some,Nat.div_add_mod,List.zipIdx_nil,L2.isort_sorted,Heap.DictOf.new,F.slot_set_iter,F.slot_int_rmul,F.plain_set_new,[.at [ŀ] Þb],[.at [ŀ] Ýb],[.at [à] êc],[.at [à] Žb],(Νa (Α Ûd)),(Ζ (i+b2i k)),(Ζ (gX ps a)),(Υ (Α ϕk)),(ža W đa Å),(ža W Å đa),(ŋb (Ùd ŏd)),(Β (xs++[y])),(Β (Tj s.ps)),(Ĳa (ϣ x z)),(Îb [e,f] Û),(σ++Ő 1 Å),(λz=>.inl Œb),(λ_=>.inl rfl),(β++[À Ōe]),(zQ ëh t7 ϖd),0,(uf ks ms k m2),(q _ _ _ d rfl),(kq rfl uT ϱ),(iI λi j=>i+j),(h.swap.pa e c),(f x (Å,l,r)),(eC (.int 256)),(e2 zJ ı ŝa),(e2 zJ ı Ŝ),(e2 zJ ı ī),(e2 zJ þ ñb),(e2 zJ þ Ϛa),(e2 xN þ ą),(e2 xE ŝa Ēb),(e2 xE Ŝ Ēb),(e2 vK Ŝ Ńb),(e2 pH ğ Ŋ),(e2 TW þ ą),(e.2.2.2.2.1+1),(a++[.str Ēd]),(U5 rfl pW ĝ),(Rd.tw t Ųk q),(K.set éb.1 r),(K.ext.trans x),(Iy I o j ?_ b),(I.ok.Ud b o e),(Bz sp [] E0 t),(11*Ðl-Z0 ϵe),(.nx (Ν äc)),(.bl (yr ks k)),((ĕl).trans y),0,((àa).mpr Ģb),((Úa).idxOf p),((u p).mpr rfl),"str_iterator","Machine.step","ADDRESS_BITS",sliceRange_one,slicePart_none,recursionLimit,isSubtype_stop,firstArgMember,env.scope.kind,entryFor_alias,e.toArray.size,c.toArray.size,c.resolve_left,Value.type.inj,PyData.keyHash,Nat.add_le_add,List.forIn_nil,List.Perm.swap,G.toArray.size,C.toArray.size,Bool.and_false,[À ϓd,x1,a],[z,TI,TO,i1,r],[.int (n:Æ)],[.dic ĸ ų],(ĭb [:n] c f),(øf tg âb u),(Ϻd (Å,())),(Β (zN Ìh)),(Β (D4 s b)),(ļb Y rfl ?_),(Ė Ļa::ĸd),(Á V×Á D),(λz:Ç=>Ăf),(λi=>Ϗf i 0),(λ_ _ _ e=>e),(β'++[À m]),(yR x p Å g),(xw x&&ϟc xw),(xh (Ŏa èg)),(x-y-pM Ã<0),(wJ [ϣb] Ōf),(wE ks ds x y),(vB MY BP rfl),(vB IR OJ rfl),(vB IP OH rfl),(uR d&&Âb ds),(pre_splitW b),(m.2 a l.symm),(l.lst hl Ñb),(kq rfl uT zK),(jH fs vs f w),(jH fs ms f e),(h [] įe ϗc),(glued sep ts),(eC (.str "")),(d2 q (B▸f)),(cutS z lo hi),(by rw[ú c]),(a.getD i Ã),(R.filter Ği),(Nl _ _ _ _ _),(H _ _ Ê ?_),(.int ϱa ē),(.int (w:Æ)),(.int (n:Æ)),(.int (j:Æ)),(.int (b:Æ)),(.ins C dx []),(.inl (i:Æ)),(.fz (.int u)),(.fresh 0 0 b),(.List es pos),"list.append","_law_script","__getitem__","Machine.run",x.toList.drop,subscriptTail,seq_tuple_add,s.heap.IsCell,listUpdate_at,i.natAbs.log2,h.IsTupleIter,evalPart_none,call_list_seq,WData.layable,W.callWith_K0,Value.isStrOf,SetTable.laid,Reps.dropLast,NameKind.free,NameKind.cell,Int.reduceSub,Bool.false_or,Bool.and_true,A.in1.handled,[Ūe,ße,ϻ],[ïd,ća,ċb],[ŗa,īb,Žb],[Ϝa,ϧd,Ïe],[ća,ċb,ēf],["_law_item"],(Ņa i q Ĩe),(Ζ (2 ^ w)),(ēe _ _ t x),(øe ĕ Û),(ϲg (Àh a)),(ža z lo hi),(Ĥ ôa Û),(ĳ _ (r t)),(À ϓd::z_),(σ++[À b]),(λj o=>j++o),(λi h z=>?_),(ze H' D Ğa),(zc (u7 Ĺc)),(xx.size-1+1),(wI (Éb ps)),(wI (W++[v])),(vk ps x Őd),(vk ps v Ûi),(uf A a k m'),(rl u p T ws),(qE 4 tN ñb),(putO o x Ws),(ps++[(a,b)]),(j.gh.free n),(j p (i p w)),(i.gh.free g),(hd++[ϫ t]),(gX ps a≠0),(gK r.2 i π),(eC (.int 7)),(b.gh.free f),(a/2 &&& p/2),(Zr Ă zG n),(Zm ps Ćd v),(Yf kvs more),(Ye (wm Ϧf)),(Ye (wm Ŏf)),(Xi xs lo hi),(St->Hp->È),(H _ _ lo ?_),(0<(ŕ:Æ)),(.str s t::r),(.str (i++j)),(.Name Ĩ p),((n:Æ)+1-1),((left-1)/26),(Ϭb ę ϻg),(eC Úb),"ALL_NEEDED",setNextDrawn,p.mem_iff.mp,k.symm.trans,h.symm.trans,h'.objs.size,e2.length_eq,call_range_1,call_meetsIn,c.toList.any,c.symm.trans,b.cps.toList,a.cps.toList,W.kitx_tuple,SetTable.has,OwnMs.length,Nat.succ_pos,Nat.mul_comm,Nat.lt_asymm,Nat.add_zero,Int.max_comm,Array.toList,[.str Ĺa,t],["_law_row"],(œi gC acc),0,(Œi t es n),(Β (x::r)),(Öc ?_ ĥh),(Ő Ϸ xs),(λz=>e šk),(λx v h=>h),(λi v h=>h),(λd=>!YW d),(λc=>l Ře),(λb v h=>h),(ze H l Ċe),(ze H l Ğa),(zc (yo jL)),(zD ļ ϥh),(zD ļ úe),(zD ĝ Ŝc),(yR y p f g),(xw n&&xw m),(xh (Ϟ i)),(xh (Ϟ f)),(xf Ϩ Ğa),(wK ĝi Þb),(vt (eC Ta)),(tC (.ty T)),(qm ī ı),(qB kvs k y),(okb.Qz b d),(newList []),0,(n.append o),(n+M.length),(loop _ rfl),(ks.map ϓa),(jI m π m2),(jI P π m2),(is.map ę),(i+1+1==Ŏ),(fs[k]' Ê),(dl++gl L m),(c.h _ _ e1),(by cases h),(b.h.free f),(a (pU r.2)),(VO X.K n t),(N0 Ê Ò),(I.WY x c e),(DK t1 h l1),(C1 a o kvs),(B.bs b o e),(A.mono j.g),(46+(i:Æ)),(.type T.nm),(.tup [v,u]),(.tup [u,v]),(.tab ks ms),(.int 65535),(.inr {b,d}),(.inl ği.2),(.inl {z,w}),(.inl {c,w}),0,(.inl {b,d}),(.dic ks ds),(.bl (pE r)),"_law_word","WORD_BITS","PUT_CARRY","LOOK_AT_S","LOOK_AT_D","BYTE_LOWS","BYTE_BITS",wpAny_throw,wpAny_in_of,unsupported,u.objs.size,subscripted,seqEpoch_at,o.ExactDict,mirror_perm,m.heap.get?,l.objs.size,k.objs.size,interactive,ds.dropLast,c.objs.size,binarySort',acc.toArray,W.kitx_dict,Value.isInt,Value.bytes,Shared.heap,Reps.append,Paired.snoc,OwnMs.split,Option.none,Nat.sub_sub,Nat.add_mul,List.filter,IsRangeIter,IsRange.new,Int.mul_one,I.ok.jR.mem,I.ok.frames,Heap.ExtBut,E.ext.trans,D.TOi1.symm,Code.guards,Code.frames,Builtin.Str,[a,.fz Ğd],[a,.fz ĝk],[a,.fz đk],[a,.fz Øc],[S,.int 38],[S,.int 37],[S,.int 30],[S,.fz ĝk],[S,.fz đk],(Äm k ü),(Ņa n q z),(Ņa n q c),(Ζ (a%3)),(Łd j Å),(ĺf j .zO),(ĺf i .zO),(ξb (j<i)),(ςc (ņc)),(Ĥ e env),(Ĥ a Û),(Θa (i-j)),(ι (i=j)),(åk∘ĭ),(ãb m Èb),(Öc Ąk a),(ĩa _ Ġ),(Ū Ėc f),(ÿ l Ò),(ÿ a Ò),(Ő k its),(Ų _ ϳ),(À (_,d)),(zg uC Űh),(zg Uy ŉb),(ze H' D o),(ze H x o'),(ze H a u'),(zc (k_ 2)),(zD õb zP),(zD Çd zP),(zD zK Ŝc),(zD yA ϔk),(zD yA Ýk),(zC ı zF),(y j q l z),(wf I q ?_),(we Wq Īa),(wD ks Ĺd),(vj n zG p),(um (vm o)),(um (vm f)),(p.trans C),(j.cut l h),(fs.zip vs),(eL vy Ïb),(as.zip vs),(SP X zA D),(S.len▸f),(KP f y fs),(F.trans a),(11*ħ-s'),(.yj o Ġi),(.yj o Ϩ),(.type ŀa),(.rt Ä d),(.rt Ã d),(.ok .next),(.Name x j),((n:Æ)+1),((i:Æ)<l),"__iter__","MARK_LOW",typeLookup,tm.none_of,size_push',pushGuards,places.map,nds.length,m.zi.fresh,l.swap.fin,isTrue_and,f.zi.fresh,dl'.length,closureFor,boot_range,bind_assoc,acc.length,a.Pairwise,Walks.list,WShape.has,W.handedIn,Subscript_,R.Pairwise,OwnMs.putF,Nat.mod_lt,D.i2z.symm,D.i12.symm,[p0,p1,p2],[.tup Èd],(Èc V.bl),(ģc .inr),(ĉf C dx),(őa<1000),(Ŏa this),(ë==Ŭ),(Ő k xs),(Ä==Ä),(Ý==Åi),(À (-1)),(λv h=>h),(zl 6 ñl),(zl 2 øm),(zl 2 ī),(zl 1 ī),(ze H q o),(ze H a d),(ze H T o),(ze H D o),(ze G p u),(ze G p o),(xf d1 d2),(xM b=Ä),(w/2 ^ 31),(vk c u v),(vX a s d),(v.db Ñb),(uq its k),(ul Ăf i),(uE a Ϙk),(truthy v),(s.2++[d]),(qF 4 Ūb),0,(qF 1 Ãf),(qB d k v),(j+1==Ϙ),(hb _ _ e),(eL FL fs),(by rw[h]),(by rw[e]),(by rw[c]),(arrOf st),(a.d4 X G),(X_ b=Ä),(WY y c e),(P.zip vs),(NB e=Ä),(Iq Ě n),(H b ob e),(2 ^ 63-1),(.tup Ïl),(.tup Ĺf),(.tup ők),(.str x t),(.ref Ñe),(.ref ϟa),(.int ϱa),(.int ł),(.int ë),(.inr ëa),(.inr ça),0,(.inr ϻ),(.inl ņb),(.inl p.1),"Machine","LETTERS",zs.length,z.sameBut,ws.length,updateSeq,t.advance,strValues,spos.line,sortRuns',slicePick,sh.extBut,sg.extBut,s.ws.getD,s.heap.Ns,ru.length,putSet_of,pu.isList,ok.frames,newFields,l.swap.sa,"dropped",kvs.foldl,isTrue_or,h.swap.ca,h.IsTuple,h.DictOfH,getMethod,0,g.toArray,g.isEmpty,g.gh.free,es.length,d.sublist,countRun',c.g.trans,b.testBit,Y.isEmpty,Reps.take,Reps.getK,Reps.getA,Reps.drop,R.toArray,Int.toNat,I.zi.kept,Classical,Arguments,[Āl,Ϝa],[Ğc,Ěb],[āa,ĸj],[đd,Ěb],[ģb,đd],[ϣb,ϐi],[ϣb,ģb],[ŗa,īb],[Ś,òb],[Ða,Ìa],[Ϝa,Ïe],[Ħ,ťf],[x,y,z,u],[w,x,y,z],[v,ov,iv],[a,.fz r],[3,2,1,0],[2,0,3,1],[1,3,0,2],[0,1,2,3],[.p 0 []],["thing"],(ϸc a l),(ϕe ϥd),(ęg î),(ϣi Ŗ),(Ϝi î),(Ţd ϓa),(Ám ùa),(Ϻl î),(šd âb),(Ĭl hlt),(Èc ĭ),(Ϡc Ė),(ğc s r),(ϟk _ _),(ōf Ē),(ςb ϥf),(ũ r d),(ũ d o),(ũ d k),(Ϲb s h),(đc őg),(ςc Ϙk),(δb Ĺl),(δc ēh),(ϲa.1+1),(Θa ϱa),(Ă[p]?),(ϑ Ñe),(ςa óc),(Β ļg),(Β żf),(Β ħk),(Β őb),(ěa .Eq),(Θ ŗf),(Θ Ϝb),(Θ Ϭa),(Θ ēb),(ŋa ża),(Į rfl),(Γ Ĥh),(Γ Øf),(Γ Ýd),(Ùa àd),(Κ ϳk),(Ϟ Ėc),(ς Ϥf),(ĩa _ z),(ϡ àb),(ϡ Âa),(Ų _ q),(Ų _ f),(Ų _ e),(Ų _ d),(ó ëj),(ó Ąk),(À Ķk),(À Ŵ),(zC f fs),(z0e _ _),(xr K jS),(xr K j4),(xr K ZM),(xr K XO),(xr K Uu),(xr K Ut),(xi z6 a),(x/2 ^ l),(x a o e),(wD ks x),(uq [] 0),(uP K tL),(uP K Wm),(uP K Wl),(uP K Wj),(u e1 e2),(q _ _ d),(o=À k),(o++x++y),(k K a z),(jZ F fa),(hv s hs),(h r g f),(gO E.WX),(fg d τ),(f _ _ e),(ds++[y]),(d+k+x.2),(cut H L),(a[Ϸ]?),(a::b::r),(a++[yv]),(Yf [] b),(SC te t),(Pf z6 i),(O.n X G),(Lk lo n),(ID ns k),(Hp->È),(F b o e),(C q Œb),(C q Źa),(BM P hi),(2 ^ w-1),(.ref Uj),(.ok žl),(.nx r.2),(.lst vs),(.int g0),(.int 24),(.int 12),(.fz ħh),(.fz Ϯb),(x==("__debug__" : Str)),(zX ŉ zV ĝ zK),(qT Ϫ wc),(by cases y<;>show c),(qT Ϫ qk),(Ća (show n<32 by omega)),(vI (own:=ķd) rfl),(ug (vB VP Vu rfl)),(um (vm l)),(eC (.int 26)),(by exact _<16777216;omega),(by unfold uh;generalize zB z6=RR at b a ⊢;generalize vC z6=WW at b a ⊢;generalize Ĭb Ϸd=LL at b a ⊢;generalize zN T=TT at b a ⊢;generalize zN dl=DD at b a ⊢),(by omega;rintro _ g (⟨f⟩|⟨l⟩);show û {g,rfl,_,rfl,f}),(by decide +kernel),(by rw[VS];unfold YI;show Vz όc ?_),(by show Ňj {?_,?_};rintro(⟨z,w⟩|⟨z,w⟩|z);show .inl {z,λF=>w (i q F)};show .inl {j q z,w};show .inr z;rintro(⟨z,w⟩|z)),(by let{c,z,rfl,d,k,C}:=r2;cases(show u=Ė a from rx);cases(show v=Ė c from ry);by_cases hac:a=c;subst hac;rw[MP I ħ _ _ _ p m q]),(by rw[show Ľf Ϲa=Ŷd Ϲa by simp,Jt r c];show q),(by intro j s σ H x y v u Q I e i h;let{n,m,k,g,d,f,q}:=h;by_cases hf:Ìo=Ä;let c:=hf;rw[Ď]at c;let{a,b}:=rX f c.1 c.2 g d),(by show this),(by unfold Xh;generalize zB z6=RR at c f ⊢;simp only[Ø,c,f];rfl),(by subst e;let{o,e,c,d}:=st;show{o,e,λv z=>by rw[d]at z;cases z}),(by intro c s σ H x y v u Q I a b h),(by simpa using this),(by exact(ϲb).bind _=_;rw[e1]),(by dsimp only),(by show Ϻg ĭi ûi Āi żh ?_;unfold Builtin.«sorted»),0,(by show{_,rfl,?_}),(by rw[Ñ c]at b;cases b),(by rw[Ï c]at b;cases b),(by let{a,t,rfl,b,g,F}:=o;let{c,z,rfl,d,k,C}:=m;cases(show u=Ė a from n);cases(show v=Ė c from p)),(by intro X x C G Q i O s σ H E I q st p;subst x C G;let{_,f,g,F}:=GY Ě p.1 d;let m:íb=Ō:=Ir g),(by by_cases c:k'=k;rw[Ï c]at e;cases e),(by kernel_rfl),(by rw[<-(Ĵd).Uc,<-l];show h _ Ãc;subst f;cases(show u=Ė b from m);let{z,i,r,c,j}:=TR Ě e),(by exact _<=16777216;omega),(by rw[ϋb hlt]at a;rw[Đ hlt]at u;cases u;let{τ1,L,a}:=zH (show(c _ τ).bind _=_ from a)),(by split at a),(by intro e s σ H x y v u Q I b c h;let{i,j,rfl,rfl,q}:=h;let{t,rfl}:=b;let{d,rfl}:=c),(by intro X hP hw hK d i zA s σ H E I Y st hg;subst hP hw hK;let{f,j,{u,v,p},n,m}:=st),(by intro X F Y Z b i zA s σ H E I y st hg;subst F Y Z;obtain⟨⟨old,g⟩,j⟩:=st),(by split at h),(by simp only[Ěa,Ϣ,ĸa]at b),(by let{t,p,k}:=h.h),(by intro X L O Q S i N s σ H E I p st J;subst L O Q;let{C,F,f2,y,G,q}:=p it ô),(by rw[ő,ő,òd];by_cases c:m=i;rw[Ï c,Ï Ře,Ï (c▸h)];rfl;rw[Ñ c,Ñ đi]),(by intro X g m p x i A s σ H E I d st y;subst g m p;let{q,r,C,l,u,j}:=d it ô),(by rw[Ï c]at h;cases h;show{_,_,rfl,rfl,c,rfl};rw[Ñ c]at h;cases h;cases h),(by simp only[c,Ϟb,ό];show û (v c);simp only[c,őf,ŀb,Ďa];show û (z c)),(by show{c.typeIs,λb q=>?_,h};cases q;let{ob,_,_,g,i,_}:=c;show{ob,g,i.2.1}),(by rw[ϴp];show Ó ϗh;exact Ù _ _ Ãh _ _ _),(by rw[ϴp];rw[Ñ Ê];refine í Ĺn;cases e2:B ŷf;show û (O e2);show û (N e2)),(by show Ó (m:=ϸe ϸb) ?_;unfold ϸe;show Ó Ϥk;simp only[ό];show Ó ĸk),(by let{i,f,d,r,z,q}:=c;refine{by rw[<-ϊ];show z,?_};let g:f ϟa=Å:=ōf Ē),(by let:=B3 íg;rw[show(íg).isEmpty=Ã by rw[O6];cases zN dl'<;>rfl]at this),0,(by show{λh=>by rw[h],λh=>by injection h}),(by rename_i lo y q g L R;let J:=Ϩi;have Z:Ĥc=lo+şb:=by rw[<-Ĺ,i,ì,p]),(by let e2:=U0 _ e όk;generalize zB z6=RR at e2 ⊢;simp only[Ø,e2];rfl),(by intro b m;exact b<(Ùa _).objs.size;rw[Ϡa];simp only[Ěa,Ϣ,ĸa]at m),(by by_cases hj:j=i;subst hj;rw[hi]at e1;cases e1;rw[üh J]at e2;cases e2),(by rw[ęh (ũb hj)]at e2;let{u',r',q}:=hl j y v' e1 e2 U;show{u',r',?_}),(by omega;rw[ì];show ĺ _),(by let:=ģa;rw[ã]at this;rw[Ĭ];rw[Ϯp]),(by cases a;show{_,_,c,b,q _ _ _ þa rfl}),(by rw[Ϫp];by_cases c:E q;show .inr öo;show .inl {z,c};show .inr Źa),(by intro i s σ H x y v u Q I f g h;let{a,b,k,rfl,rfl,e,q}:=h;cases g),(by unfold vX;rw[hl];exact(s.1+1,if s.1∈f then s.2 else s.2++[d])=_),(by cases e;rw[Ű]at c;subst c;show{_,gO ű,?_};simp only[Ôc,Ďa,ό]),(by show ćb _;show Ŀb c;rw[<-w];show sv A;intro E x t' k;rw[<-w,e]),(by rw[ϳp];exact(Şd).bind _=_;rw[e2];exact(şm).bind _=_;rw[a];rfl),(by rw[Éq];rename_i e;cases e),(by let{C,e1,J}:=f t w;let{E,e2,B}:=f l m;show O j C E _ _ e1 e2 J B),(by intro l s σ H x y v u Q I f i h;let{p,k,rfl,b,g,c,q}:=h;cases i),(by cases f;rename_i g h;let{a,k,rfl,B,n,_}:=w;let{b,t,rfl,C,o,_}:=A),(by let z:decide (k<m)=Ä:=ú hk;unfold YK;simp only[ň,WC,z,e8,h]),(by rename_i p i;let{a,f,rfl,j,m,_}:=g;cases h;let{w,k,e}:=Nh m b),(by change (match xw x&&ϟc xw with|Ä=>À óf|Ã=>Å)=À k at b),(by unfold ϣi;show Ó ēk;exact Ù _ _ ùk _ _ s;refine Ó ék),(by rw[Ĉ,show n+Ūj=n+1+ü by omega]),(by intro i s σ H Q I h),(by intro f s σ H Q I h),(by intro d s σ H Q I h),(by split at d),(by rw[ű];show Ū ϊa.1 ϙa),(by let{k,b,a}:=zH a;cases a),(by let{d,c,a}:=zH a;cases a),0,(by by_cases hb:b=a;subst hb),(by unfold t7;generalize zN Y=YY at b a ⊢;simp only[Ø,b,a]),(by rw[ϱp];let{i,j,rfl,rfl,q}:=h;let{t,rfl}:=a;let{d,rfl}:=b),(by rw[show n+1+i+1=n+î+1 by omega]),(by let{d,rfl}:=ņa d0;let{s,rfl}:=ņa s0;let a:d<8:=by omega),(by let{W,E,e1,X,j,Y}:=ýe r b;let{v1,L1,a1,Q,i,T}:=ñj X ee),(by cases e;rw[c]at a;cases a;rw[l]at b;cases b;show ϣc r d),(by rw[ì,ã,Ĭa];omega),(by rw[Ëq];show{{t,p,λE a q=>?_}}),(by rw[Éa];show Ű),(by rintro g c v ⟨b,f,e,q,r,l⟩;show{b,f,e,?_,îb c r,l}),(by omega;rintro⟨q,c⟩ g ⟨r,e,f⟩;cases e;show û Ųp),(by let{v,r,rfl,a,b}:=h),(by rw[show(ða).N.length=ò+Òb from dN X own]at q;show q),(by let{a,z}:=u.py b i q;show{a,by rw[yH (qo z d)];show z}),(by show Ó (m:=İc ϸb 2) ϋk;show Ó (m:=İc ϸb 3) ϙk),(by let{x,i,g,l,d}:=e;let{c,rfl,d}:=d;cases l;show Ϟd ?_),(by let:(Ża).testBit 0=ϗl:=ëc ..;simp only[ėf]at this),(by intro a Ϝ o R j K V w B g;let c:=x j;let f:=l6 P Ţp),(by let q:=(Ĵd).Uc;rw[ŕh]at q;rw[<-q,<-l];show h _ Ãc),(by cases(show _=[]from r)),(by cases(show _=[]from h)),(by cases f;let m:(g++h).length<=ä:=by rw[ū,ì];show c),(by show{{o,e,d.1},λa e2=>?_};cases e2;show{o,e,d.2.1}),(by show .inr z),(by let{a,k,rfl,b,d,_}:=r1;let{j,l,e,c,f,_}:=r2;cases e),(by exact Ù _ _ Ϗk _ _ s;rw[Ñ (show ¬ ĵm from ġ)]),(by by_cases c:k'=k;rw[Ï c,Ï c]),(by let{t,h,q}:=c b A ĉ s H vs Q E j e;show{t,h.qb,q}),(by cases(Ça źh);exact Ù _ _ Ċk _ _ s;rw[Ĝ,Ĝ,Ĝ]),(by by_cases z:n=0;let a:decide Żf=Ä:=ú Ê;rw[Ï z]),(by simpa using e),(by rw[ė,ė];by_cases c:i<(Õ).length;rw[qD c,ác c]),(by rw[this]at g;show Þ èg Ēa),(by rw[show n+î=n+1+i by omega]),(by let{a,b,c}:=Ņa i q z),(by intro X q B C O i N s σ H E I l st L;subst q B C),(by intro X n A B O i N s σ H E I j st L;subst n A B),(by cases a;show q _ _ _ ϧb rfl),(by let{y,ey,a}:=zH a;cases VD ey;let{nd,hn,a}:=zH a),(by exact(match pP 1 (w:Æ)with|Ä=>À Çf|Ã=>Å)=_),(by exact À çi=_;rw[show ϋe=decide (i=j)from rfl]),(by dsimp only at e),(by show q _ _ _ þa rfl),(by let{_,_,_,_,o,_,_,e,d,_}:=Ě p _ b;show{o,e,d}),(by let p:(ϸo).length<=ä:=by let:=Kg d k v;omega),(by let{g,v,n,m,j}:=c;show l d f σ v g k Q n m j),(by let:Íd x=À .free:=a;rw[k]at this;cases this),(by let:b=Ý:=by simpa using z),(by cases(show v=_ from r);rfl),(by let:=z0k h b;unfold Zh at this;rw[Ď]at this),(by let e:x[b+i]?=À x[b+i]:=getElem?_pos _ _ Ê),(by intro e s σ H x y v u Q I d a h;let{c,q}:=h),(by by_cases z:q<i;rw[Ï z,Ï Ê];rw[Ñ z,Ñ Ê]),(by split at z),(by simpa using h),(by let{t,rfl}:=d),(by let f:=ĥ ϖf;rw[Ϩh Îo Âl];show ě _ ϖf),(by let e:vV i=ōn+1:=by exact ňk=_;rw[Ñ åc]),(by exact(ϯc).bind _=_),(by constructor),(by cases Ĵ h;omega),(by by_cases c:i=m;rw[Ï c,c]),(by rintro x _ J ⟨l,o,rfl,p,t,u,v⟩;rw[ϴp]),(by by_cases c:L q),(by rw[Ï c,ąa ĵn];rfl;rw[Ñ c,ña Ŵl];rfl),(by rw[ur Ê]at this;rw[Ϯp]),(by obtain⟨⟨m,β1⟩,b,a⟩:=zH a;cases a),(by let{d,b,a}:=zH a;cases a;let{x,c,b}:=zH b),(by let{a,w,rfl,b,g,E}:=r1;rw[ϫp];show ăh _),(by let{C,ru,pu}:=I.Uh Z;let{G,A,pw}:=I.Uh hy),(by split at f;rw[óq]),(by show{_,rfl,?_,rfl}),(by rw[õq];show{_,rfl,λq=>{x,y,k,e,c,b,q}}),(by rename_i c),(by show .inl z;show .inr õo;show .inr Źa),(by unfold Mq;exact zQ _ _ ŷg=_;rw[tR el]),(by split at b),(by simp only[Ø,a,b]),(by show Ó ?_;simp only[Ŭh,Ϲm,ϑh,ċn]),(by rw[Øa]at this;rw[Ϯp]),(by rintro _ ⟨l,_,_,z⟩),(by cases a;show{_,λ_=>rfl,λq=>{_,r,q}}),(by by_cases z:b=a;subst z),(by by_cases c:i=0;subst c),(by show{L++[xy N[i]],?_,ll,B};unfold xy),(by rintro _ _ ⟨rfl,y,q,g,rfl,d,a,C⟩),(by rintro _ _ ⟨rfl,l,o,rfl,p,t,u,v⟩),(by refine{by omega,λ⟨q,h,i,j⟩=>?_}),(by let:x≠n:=by rintro rfl;show h v Ġ),(by exact Ù _ _ Ül _ _ _;refine Ó Üd),(by unfold zN),(by unfold ud;rw[h,a];show{?_,by rw[b]}),(by show .inl {(àa).mpr Źa,w};rw[Đq]),(by rw[õq];show{_,rfl,λq=>i7 e c b q}),(by let{j,o,e}:=Èa h;let:j=i:=by omega),(by let{F,G}:=hv d hd;let{O,Z}:=hv s hs),(by let j:d<œa:=Ĭg.1;rw[hX];unfold M3),(by by_cases e:p.1=k;let a:q.1=k:=ϧn e),(by simp only[Ø,e1]),(by rw[ϴp];rw[Ï c];show û q;rw[Óq]),(by let{c,y}:=Ïi (vs:=d) (out:=out) g),(by unfold vj;by_cases c:i∈xI Ċ zG),(by show{rfl,{λh=>(Īg).elim,nofun}}),(by rw[ã]at b;rw[íc,<-j,Ōb];show b),(by rw[Éq];rw[łq];show{c,h};cases h),(by rw[t.ne b hb];show h),(by let{z,o,c}:=zH c;let{k,l,c}:=zH c),(by let:c=b:=by simpa using ĳ ϲn d1),(by let e:=ϊ;simp only[Ĺ]at e;omega),(by intro f s σ H D I h),(by intro e s σ H Q I h),(by intro b s σ H D I h),(by by_cases e2:i=j;rw[e2];show Ϧa _),(by by_cases c:m<(Õ).length/\m ∉ F),(by obtain⟨⟨k,m'⟩,h,c⟩:=zH c),(by let{R,ru,pu,_}:=Ϛ A;let pl:=ìp),(by let h:k8 Ϟf 0 Ŏc=.p 0 Ŏc:=rfl),(by exact _<=ä;rw[ū];omega;rw[Ěh]),(by by_cases hx:x∈cs;rw[Ï hx]at b),(by by_cases h:p.1=a;rw[Ï Àp,Ï h]),(by subst this),(by subst f;let{z,i,t,c,j}:=kC Ě e),(by simpa using g),(by simp at h1 h2;subst h1;subst h2),(by show Ó ùa),(by show .inl z;rintro(z|z);rw[Đq]),(by rw[óq];show l Ê;show d;show f),(by rw[Éa];show ű),(by rw[e]at h;let b:y=n:=by rw[ėq]),(by rintro(⟨z,w⟩|z)),(by obtain⟨⟨o,d⟩,b,a⟩:=zH a),(by let{u,m,f}:=r.h;let{w,e,j}:=g.h),(by let{r,l,f}:=n.h;let{s,e,i}:=g.h),(by exact(Ĭc).bind _=_),(by cases Ĵ hk;show hd),(by cases z;rw[uX a];show Ũa j d z)],[(zC ἀ zF),(.lst ἀ),(zD ἀ zP),(zc (yo ἀ)),(zc (u7 ἀ)),(.int ἀ),(ἀ%65536),(Α (eC ἀ)),(λC s H c d=>ἀ),(zW xX xV ἀ zK),(Į ἀ a),(λC s H b c=>ἀ),(σ.set i ἀ),(.nx (À ἀ::z_)),(uD ἀ rfl),0,(zD Ģ ἀ),0,0,(yN Ÿg xU ἀ ἁ ž),(zC ą ἀ),(yt (i:=2) (show (ἀ).Nodup by decide +kernel) rfl á),(zX ŉ zV ἀ ἁ),(wz ἀ ϋd),(ze H p ἀ),0,0,0,0,0,0,0,0,0,(À ἀ::z_),(Yq ἀ rfl),(qC ἀ Yl),(yt (i:=1) (show (ἀ).Nodup by decide +kernel) rfl á),(λr st=>∃g,st=yR a0 p0 f0 g/\jr ἀ ἁ r),(Zd 0 [.at [ŀ] "words"] Żg ἀ),(.bl (decide ἀ)),0,0,0,(.bl (!decide ἀ)),(wv (Xt ϝp Ķb ἀ)),(gU (tE ἀ)),0,0,(ue tM tP rfl wT t6 (v_ ἀ uH)),0,0,(Yk (n:=2) rfl (qC ἀ ἁ)),0,(xG (Τ ἀ ἁ) (Δ ἂ) xj),(tQ Ÿg xU ἀ ἁ ž),(zb (xG ἀ ἁ xj) (zc ἂ)),(xt ἀ λc=>?_),(ó (Ó ἀ)),(Yu (tF ἀ)),(yN (pO ἀ) pL (zM ἁ) (zM ἂ) (by with_unfolding_all rfl)),(PyProof.Rows.wpS_modify ἀ),((u q).mpr (.inr ἀ)),(zb (kz īa rfl ἀ ἁ ἂ) (zc ἃ)),(pQ λi j=>.int ἀ),(tE (e2 xT Ëd ἀ)),(zb (xG ἀ ἁ xj) (zb ἂ ἃ)),(al (al ἀ m) p),(Γ (yQ ἀ)),(zC ğ ἀ),(zM (yQ ἀ)),(zC þ ἀ),0,(PyProof.Rows.wpS_lift (PySem.wpAny_rule {rfl,í ἀ})),0,0,(if ἀ=Ä then _ else _),(Ó (PySem.wpAny_onRaise ἀ)),(À (Ä,.lst ἀ)),(zg uC (zC þ (Α ἀ))),(Vh (Vk ἀ) (wv ἁ) Vi),(yN Ïf kT ἀ ἁ ž),0,0,0,0,0,0,0,0,0,(Δa üa Ϝp ἀ),(xv (λ_=>À ἀ)),(e2 zh Ëd ἀ),(Ι (Yw ἀ)),(yc (wP ἀ)),(wv (Zg ἀ)),(vO (yQ ἀ)),0,0,0,(X1 (tE ἀ)),(ϐd ἀ ?_),(backTo pos ἀ),0,0,(yG tu b rfl (zD ĝ ἀ)),0,0,(λC s H c d=>ἀ),0,(e2 vK þ (eC ἀ)),(rI ἀ λi j=>.int ἁ),(Vg 0 [.at [ŀ] Ýb] (eC ἀ) (wm ἁ)),(zM (zX ŉ zV ἀ zK)),(λc=>û {g,rfl,gT.fin ἀ}),(pQ λi j=>.bl (decide ἀ)),(tE (e2 xT ı (wP ἀ))),(D.lst ((ἀ).map ę)),(tE (e2 zh þ ἀ)),(QO ἀ ἁ {l} ?_ ?_ ?_),(zb (xG ἀ ἁ xj) (Δ ἂ)),(O2 üa ϟp yA ἀ),(Χb (zC Ŝ ἀ)),(λC s H b c=>ἀ),(zc (Os Ŀe zK ἀ)),(Ω (Β ἀ)),(Ο (υa ἀ)),(Δ (Ψ ἀ)),0,(kq rfl uT ἀ),0,0,(xG ἀ Oq xj),(qE 3 tN ἀ),(yt (i:=3) (show (ἀ).Nodup by decide +kernel) rfl á),(yc (wP (zC ı ἀ))),(swapsWith v (À ἀ) pos.line Û=pure Ã),(Bg rfl rfl Zw Jy (Γ (yQ ἀ))),0,0,0,0,0,0,0,0,0,(wP (zC (eC ŀc) (Α ἀ))),(.Call ἀ [e] [] pos),(Α (Κe (e2 xE ŝa ἀ) (zC ἁ zF))),(Zg (Xs VX b rfl (kM Ϫ ἀ))),(.Call ἀ [e] [] cpos),(N3 G H ἀ y u v d Q s e f Ϟp q),(λc=>û {g,rfl,gR.fin ἀ}),0,0,0,(λc=>û (h _ _ ἀ)),(ql λi j=>decide ἀ),(xh (by rw[u];show Ϟ ἀ)),0,0,(.nx (Ν (Φa ἀ))),0,0,(setField Ăc 0 ἀ >>= _),0,(ji (jZ Wv (jW 0 [] ἀ))),(Jw (υa (υ ἀ ἁ)) rfl rfl),(Ψ (zD yA (Γ ἀ))),(λC s H fp pn=>Es ἀ),(λC s H fp pn=>Er ἀ),(yN Ïf kT ἀ ϯa ž),(λC s H fp pn=>(ἀ).h),(λC s H a b=>ἀ),(Ο (Μ (Φ ἀ))),(rU λi=>.int ἀ),(Λe ìj ϣp ἀ),(yQ (wR ἀ þk)),(yG VW b rfl ἀ),(eL YO (Α ἀ)),(ἀ%4294967296),(Νa (Α ἀ)),(Ο (Ι ἀ)),(υa (Ψ ἀ)),0,(ςa (Γ ἀ)),0,0,(Εa (í ἀ)),(ϫe (í ἀ)),(.BoolOp .And ἀ pos),(.BoolOp .Or ἀ pos),(zc (yU (i:=1) Oc.nd rfl á (zW kX qS Ģ ἀ))),(λxs H Q=>(∃p ys,xs=[.ref p]/\ἀ/\Q ἁ H)\/∃z,xs=[.str z]/\ł<=ä/\Q (.int ł) H),0,0,0,0,0,0,0,0,0,(BU I Ê ἀ g k h λd1 d2 x y u v e f i l j=>MO I n A.in1 d1 d2 x y u v ἁ e f i l j),(zl 1 (e2 (vW Ϟa) ą (e2 vz Ŋ ἀ))),(λx y H Q=>y=.zO/\Q ἀ H),(Ι (yt (i:=9) (show (ἀ).Nodup by decide +kernel) rfl á)),(Ι (yt (i:=4) (show (ἀ).Nodup by decide +kernel) rfl á)),(Ι (yt (i:=5) (show (ἀ).Nodup by decide +kernel) rfl á)),(ψ (zM (yG jE b rfl ἀ)) ϯa),0,0,0,(λx y H Q=>∃i j,x=.str i/\y=.str j/\Q (.bl ἀ) H),(pG (tE (e2 zh ą ī)) ϰa (e2 zh (zg vG ἀ) Ŋ)),(ϝa (Ļb slot_list_sort {_,g,rfl} entry_list_sort ἀ ἁ)),0,0,((ἀ).filter λd=>!zj d),0,0,(.Call ἀ [a] [] pos),0,(.done (À ἀ,i,m,ϐ q++(ἁ).reverse,g,k,j-1-m)),(λd=>match d with|.int j=>.int ἀ|d=>d),(pK (i:=1) Ri.nd rfl á Ò (vO ἀ)),(χ ŵa Đa (yG Mb b rfl (Ρ ἀ))),(uI rfl Šk (ug ķc) (Ο ἀ) ώb (Ι ἁ)),(Δ (rY de mR rfl UI Eu (Μa ἀ))),(Αa (λc=>û {_,rfl,WB.fin ἀ})),(Αa (λc=>û {_,rfl,W9.fin ἀ})),(.done (À ἀ,i,j-1,ϐ q,g,k,u)),(yG jE b rfl (zD ļ (zD zK ἀ))),(.done (À ἀ,o++Ŋb i ἁ,i+k,j,g,k,u)),(Q w H->rU (λi=>.int ἀ) u H Q),(λc=>û (both λp j q f=>Áb ἀ ἁ)),(zC (eC Üi) (zC (eC Ýi) (zC ἀ ἁ))),(sC rfl rfl X2 rfl O_ (Μa ἀ)),(λxs H Q=>∃p ys,xs=Ķd/\ἀ),(Zo (Τ ùc ϯa) jM (ιc ἀ)),(.nx [À ἀ,À ċe,À Ëe,À ἁ,À ἂ]),0,(uI rfl ϡp Ϣp (Ο ἀ) (λC s H a b=>tT) (Εc ἁ)),0,0,(Ųb β i π (.obj x ĉe ἀ)),(λq z=>yH λc=>z ((ἀ).mpr c)),(if (ἀ).length<yX then À ἁ else Å),(λc=>û {_,rfl,gR.fin ἀ}),(by rw[Š,<-Š ἀ,ϛa,ex]),((ἀ).filter λp=>decide òl),0,0,0,0,0,0,0,0,0,(xG (γa ἀ) (Ψc ϴk) xj),((ἀ).all λw=>(ἁ).all λd=>(ἂ).all λs=>Zh âk),((ἀ).all λw=>(ἁ).all λd=>(ἂ).all λs=>f âk),(Ųb r.2 i π (.own ἀ)),(λq z=>.inl ((ἀ).mpr z)),(zX ùm zV ļ (Κ ἀ)),(tQ úm xU (zM ἀ) (zM ἁ) ž),0,0,0,(ms.map À++Ő ἀ Å),(O P h' es' c t' J g ἀ f b ἁ),(e2 zJ ğ (e2 xE ἀ Ϥp)),0,0,(λb o g e=>(ἀ).trans e),0,0,(zW wM wL ĝ (yQ ἀ)),0,(zM (yG Md b rfl ἀ)),(yc (eL IL (Α ἀ))),(ζa (yN ðe xU ἀ ἁ ž)),(Ο (Μ (ζ ἀ))),(zx ἀ λr s4 a=>?_),(zD Ķb (zD Ķc ἀ)),(zC ůi (zC Ϝn ἀ)),(zC Ņb (zC ϧe ἀ)),(al (al ἀ ϣf) Ϡp),(.nx ((ἀ).set j äc)),(.Expr (ηb ἀ) pos),(zC āf (zC Ēh ἀ)),(e2 zJ (xv (zC ἀ ἁ)) (e2 xE (χa Ϝb) Ϛa)),((um (vm f)).trans ((um ἀ).trans ((ἁ).trans ἂ)))],[(by first|(with_reducible first|assumption|exact Nat.le_of_not_lt ‹_›|exact Nat.lt_of_lt_of_eq ‹_› (Eq.symm ‹_›)|exact Nat.lt_of_lt_of_eq ‹_› ‹_›|exact Nat.lt_of_lt_of_le ‹_› (Nat.min_le_right _ _)|exact Nat.lt_of_lt_of_le ‹_› (Nat.min_le_left _ _)|exact Nat.lt_of_lt_of_le ‹_› ‹_›|exact Nat.lt_of_le_of_lt ‹_› ‹_›|exact Nat.lt_succ_of_le ‹_›|exact Nat.lt_succ_of_lt ‹_›|exact Nat.lt_of_le_of_ne ‹_› ‹_›|exact Nat.lt_of_le_of_ne ‹_› (Ne.symm ‹_›)|exact Nat.lt_of_le_of_lt (Nat.sub_le _ _) ‹_›|exact Nat.lt_of_le_of_lt (Nat.le_add_right _ _) ‹_›|exact Nat.lt_of_sub_pos ‹_›|exact Nat.lt_of_not_le ‹_›|exact Nat.lt_of_succ_lt ‹_›|exact Nat.pos_of_ne_zero ‹_›|exact Nat.le_refl _|exact Nat.le_add_right _ _|exact Nat.min_le_right _ _|exact Nat.le_of_eq ‹_›|exact Nat.le_of_eq (Eq.symm ‹_›)|exact Nat.le_of_lt ‹_›|exact Nat.succ_le_of_lt ‹_›|exact Nat.succ_le_succ ‹_›|exact Nat.le_trans (Nat.sub_le _ _) ‹_›|exact Nat.le_trans (Nat.le_add_right _ _) ‹_›|exact Nat.le_trans (Nat.le_of_eq ‹_›) ‹_›|exact Nat.le_trans (Nat.le_of_eq (Eq.symm ‹_›)) ‹_›|exact Nat.le_trans ‹_› ‹_›|exact Nat.le_trans ‹_› (Nat.le_add_right _ _)|exact Nat.le_of_sub_eq_zero ‹_›|exact Nat.not_lt_of_le ‹_›|exact Nat.le_antisymm ‹_› ‹_›|exact Nat.add_sub_cancel' ‹_›|exact Eq.trans ‹_› (Eq.symm ‹_›)|exact Int.natCast_nonneg _|exact Int.add_nonneg ‹_› (Int.natCast_nonneg _)|exact Int.ofNat_lt.mpr ‹_›|exact Int.lt_of_le_of_lt ‹_› ‹_›|exact (Int.toNat_lt ‹_›).mpr ‹_›|exact Int.toNat_of_nonneg ‹_›|exact (Int.toNat_of_nonneg ‹_›).symm)|((with_reducible refine Int.emod_nonneg _ ?_)<;>decide)|((with_reducible refine Int.emod_lt_of_pos _ ?_)<;>decide)|((with_reducible refine Nat.le_trans ‹_› ?_)<;>decide)|((with_reducible refine Nat.lt_of_le_of_lt ‹_› ?_)<;>decide)|((with_reducible refine Nat.lt_of_lt_of_le ‹_› ?_)<;>decide)|((with_reducible refine Int.lt_of_lt_of_le ‹_› ?_)<;>decide)|((with_reducible refine Int.lt_of_le_of_lt ‹_› ?_)<;>decide)|((with_reducible refine Int.lt_of_lt_of_le (Int.emod_lt_of_pos _ ?_) ?_)<;>decide)|lia|omega+splitNatSub),(by first|subst ἀ|(injection ἀ;done)|cases ((ἀ))),(by first|(have q:=ἀ;first|subst q|(injection q;done))|cases ((ἀ))),(by first|subst ἀ|(injection ἀ;done)|cases ((ἀ)))])
def q0 (h0:0=0:=by first|show .inl rfl|show .inr rfl|assumption)(h1:0=0:=by decide)(h2:0=0:=by intro _;rfl)(h3:0=0:=by rfl)(h4:0=0:=by first|show Or.inl rfl|show Ŏg á|show Ŏg ċa)(h5:0=0:=by first|show ųa|show⟨rfl,ųa⟩|show⟨rfl,rfl,ųa⟩|show⟨rfl,rfl,rfl,ųa⟩|show⟨rfl,rfl,rfl,rfl,ųa⟩)(h6:0=0:=by intros;show λ_ _ _ _ _ _=>rfl):Ÿb:=⟨⟩
def q7:=q0._auto_1
def q10:=q0._auto_2
def q11:=q0._auto_3
def q12:=q0._auto_4
def q13:=q0._auto_5
def q14:=q0._auto_6
def q15:=q0._auto_7
noncomputable section
namespace L2
open ľ ś ŋ
abbrev zY:=Sum Æ Ç
nonrec def t_:zY->Value->Ð
 |.inl k,v=>ēo k v|.inr x,v=>œn x v
nonrec def y0o(w:æ):zY->Æ
 |.inl k=>hashInt k|.inr x=>hashStr w x
def jh:∀{k:zY}{v:Value},t_ k v=Ä->(∃i t,k=ĭ i/\v=ϥb i t)\/(∃x t,k=Âc x/\v=śb x t)
 |.inl i,v,h=>by let{t,e}:=ľm (k:=i) (v:=v) h;show .inl {i,t,rfl,e}
 |.inr x,v,h=>by let{t,e}:=Value.isStrOf_shape (x:=x) (v:=v) h;show .inr {x,t,rfl,e}
def y0p(i:Æ)(t:Tok):t_ Ĵj ϡf=Ä:=by simp[t_,ēo]
theorem y0q(x:Ç)(t:Tok):t_ Čg Ïp=Ä:=by simp[t_,œn]
theorem y0r(a b:Æ):decide ((ĭ a:zY)=ĭ b)=όe:=by
 by_cases e:a=b;subst e;simp;let h:¬ (ĭ a:zY)=ĭ b:=λq=>e (ïc q)
 rw[ď h];show(Íb e).symm
def y0w(a b:Ç):decide ((Âc a:zY)=Âc b)=decide (a=b):=by
 by_cases e:a=b;subst e;simp;let h:¬ (Âc a:zY)=Âc b:=λq=>e (ĵi q)
 rw[ď h,ď e]
theorem y0s(a:Æ)(b:Ç):decide ((ĭ a:zY)=Âc b)=Ã:=ď ϗm
def y0v(a:Ç)(b:Æ):decide ((Âc a:zY)=ĭ b)=Ã:=ď ϗm
def xg(ă:ï)(w:æ):PySem.KeyKind ă w zY where
 is:=t_
 hash:=y0o w
 inj:=λv a b g d=>by
  rcases jh g with⟨i,t,rfl,rfl⟩|⟨x,t,rfl,rfl⟩;rcases jh d with⟨j,u,rfl,e⟩|⟨y,u,rfl,e⟩;injection e with e1 _;rw[e1];show nomatch e
  rcases jh d with⟨j,u,rfl,e⟩|⟨y,u,rfl,e⟩;show nomatch e
  injection e with e1 _;rw[e1]
 byValue:=λk v h=>by rcases jh h with⟨i,t,rfl,rfl⟩|⟨x,t,rfl,rfl⟩<;>rfl
 pyHash:=λc h=>by rcases jh c with⟨i,t,rfl,rfl⟩|⟨x,t,rfl,rfl⟩;show wpAny_pyHash_int h;show wpAny_pyHash_str h
 eqBool:=λf c h=>by rcases jh f with⟨i,t,rfl,rfl⟩|⟨x,t,rfl,rfl⟩;rcases jh c with⟨j,u,rfl,rfl⟩|⟨y,u,rfl,rfl⟩;rw[y0r]at h;show wpAny_eqBool_int h;rw[y0s]at h;show ăm i t y u _ _ _ _ h;rcases jh c with⟨j,u,rfl,rfl⟩|⟨y,u,rfl,rfl⟩;rw[y0v]at h;show ām x t j u _ _ _ _ h;rw[y0w]at h;show wpAny_eqBool_str h
 «strs»:=λk x t v h=>by
  rcases jh h with⟨i,u,rfl,e⟩|⟨y,u,rfl,e⟩;show nomatch e
  injection e with e1 _
  subst e1;cases v<;>rfl
def y2t(ă:ï)(w:æ)(i:Æ)(t:Tok):(öa).is Ĵj ϡf=Ä:=y0p i t
def Ks(ă:ï)(w:æ)(x:Ç)(t:Tok):(öa).is Čg Ïp=Ä:=y0q x t
set_option genInjectivity true
inductive V where
 |zO|bl (b:Ð)|int (i:Æ)|str (x:Ç)|byt (b:Ú UInt8)|Wa (b:UInt64)|ref (a:Ë)|ty (n:ìa)
 deriving œb
set_option genInjectivity false
def yB:V->Value->È
 |.zO,u=>u=ϥa|.bl b,u=>u=όf b|.int i,u=>∃t,u=ϥb i t|.str x,u=>∃t,u=śb x t|.byt b,u=>∃t,u=Ĕo b t|.Wa b,u=>∃t,u=Ĵi b t|.ref a,u=>u=Ė a|.ty n,u=>u=Ϣb n
abbrev zo:Á V->Á Value->È:=Ŭd yB
theorem zo.length{xs:Á V}{us:Á Value}(r:zo xs us):ë=èa:=Õi r
theorem zo.get:∀{xs:Á V}{us:Á Value}{i:Â}{x:V},zo xs us->xs[i]?=À x->∃u,us[i]?=À u/\yB x u
 |_,_,_,_,.nil,e=>by simp at e|_,_,0,_,.cons r _,e=>by simp at e;subst e;show{_,rfl,r}|_,_,i+1,x,.cons _ t,e=>by let{u,a,b}:=zo.get (i:=i) (x:=x) t Ňa;show{u,by simpa using a,b}
theorem zo.set{x:V}{u:Value}(r:yB x u):∀{xs:Á V}{us:Á Value}(i:Â),zo xs us->zo ŝf (us.set i u)
 |_,_,_,.nil=>.nil|_,_,0,.cons _ t=>.cons r t|_,_,i+1,.cons q t=>.cons q (zo.set r i t)
theorem Ϫf:∀{xs ys:Á V}{us ws:Á Value},zo xs us->zo ys ws->zo ϥf (us++ws)
 |_,_,_,_,.nil,s=>s|_,_,_,_,.cons r t,s=>.cons r (Ϫf t s)
theorem zo.take:∀{xs:Á V}{us:Á Value}(n:Â),zo xs us->zo (xs.take n) (us.take n)
 |_,_,0,_=>.nil|_,_,_+1,.nil=>.nil|_,_,n+1,.cons r t=>.cons r (zo.take n t)
theorem zo.drop:∀{xs:Á V}{us:Á Value}(n:Â),zo xs us->zo (xs.drop n) (us.drop n)
 |_,_,0,r=>r|_,_,_+1,.nil=>.nil|_,_,n+1,.cons _ t=>zo.drop n t
def tm:É V->É Value->È
 |À v,À u=>yB v u|Å,Å=>Ÿb|_,_=>Ā
def KV{κ:Type}:Á Ϸa->Á ġd->È:=Ŭd λ(p:κ×V) (q:κ×Value)=>p.1=q.1/\yB p.2 q.2
nonrec def kV:zY->V
 |.inl i=>.int i|.inr x=>.str x
inductive HO where
  |lst (xs:Á V)
  |tup (xs:Á V)
  |dK (kvs:Á Äa)|dT (kvs:Á Ŕb)
  |set (S:Æ->Ð) (n:Â)
  |ins (C dx:Ë) (fs:Á ŧb)
  |own (x:Ë)
  |xd (fs:Á ŧb)
  |met (f x:Ë)
  |rng (lo hi:Æ)
  |yj (o:Obj) (u:HO)
  |tbl (ps:Ú Value)
  |ext (φ:Heap->È)
abbrev Hp:=Ë->É HO
nonrec def ze(H:Hp)(a:Ë)(o:HO):Hp:=λb=>if b=a then À o else H b
def yq{H:Hp}{a:Ë}{o:HO}:ze H a o a=À o:=by unfold ze;rw[Ï rfl]
theorem yH{H:Hp}{a b:Ë}{o:HO}(h:b≠a):ze H a o b=H b:=by unfold ze;rw[Ñ h]
theorem y3d{H:Hp}{a b:Ë}{o u:HO}(h:H a=À o)(h':H b=À u)(d:o≠u):a≠b:=by intro e;subst e;rw[h]at h';show d (Ça h')
def qo{H:Hp}{a b:Ë}{o:HO}(h:H a=À o)(h':H b=Å):a≠b:=by intro e;subst e;rw[h]at h';cases h'
section
variable(P:ï)(w:æ)
def xm(H:Hp)(h:Heap)(a:Ë):HO->È
 |.lst xs=>ë<=ä/\∃(its:Á Value) (n:Â),zo xs its/\Ğ a=À { cls:=.type Ĩ,ć:=.seq ϥ n }|.tup xs=>ë<=ä/\∃its:Á Value,zo xs its/\Įb h a ϥ|.dK kvs=>Ō<=ä/\Ĵa=Ã/\∃vs,KV kvs vs/\Ĵe æb a vs|.dT kvs=>Ō<=ä/\Ĵa=Ã/\∃xs:Á łc,
   Ŭd (λ(p:Á zY×V) (q:Á zY×Ë×Value)=>p.1=q.1/\H q.2.1=À òm/\yB p.2 q.2.2) kvs xs/\
   ∃o es ep,Ğ a=À o/\Ĉo/\ϸ=.dict es ep/\Ϥb=ģc (entryOfKey Øe)/\(ģc (·.1)).Nodup
 |.set S n=>h.SetOf (intKind P w) a S n|.ins C dx fs=>H dx=À ŉe/\őa<=1000/\dx≠a/\Ğ a=À ϗo/\
   ∃mA,Ũg dx mA/\(∀f,tm Šj Ãk)/\Ąi mA (Ϡc (·.1))
 |.own _=>∃o,Ğ a=À o|.xd fs=>∃mA,Ũg a mA/\∀f,tm Šj Ãk|.rng lo hi=>∃t u v,Ğ a=À { cls:=.type Şa,ć:=.fields #[.int lo t,.int hi u,.int 1 v] }|.yj o u=>Ğ a=À o/\xm H h a u|.tbl ps=>Ğ a=À { cls:=.none,ć:=.fields ps }|.met f x=>Ğ a=À (W.methodObj Ī Ŋd)|.ext φ=>φ h/\(∃o,Ğ a=À o)/\∀h1 h2:Heap,φ h1->(∀o,ŉj a=À o->h2.get? a=À o)->φ h2
def wX(H:Hp)(h:Heap):È:=∀a o,H a=À o->xm P w H h a o
#print a
section
variable{P:ï}{w:æ}{H H':Hp}{h h':Heap}{a:Ë}{o:HO}
theorem xm.lt(x:xm P w H h a o):a<àb:=by
 cases o with
 |lst xs=>let{_,_,_,_,e}:=x;show ĥ e
 |tup xs=>let{_,_,_,p}:=x;show p.lt
 |dK kvs=>let{_,_,_,_,o,_,_,e,_}:=x;show ĥ e
 |dT kvs=>let{_,_,_,_,o,_,_,e,_}:=x;show ĥ e
 |set S n=>let{o,_,_,_,e,_}:=x;show ĥ e
 |ins C dx fs=>let{_,_,_,e,_}:=x;show ĥ e
 |own y=>let{_,e}:=x;show ĥ e
 |xd fs=>let{_,{_,_,_,e,_},_}:=x;show ĥ e
 |rng lo hi=>let{_,_,_,e}:=x;show ĥ e
 |yj ob u=>let{e,_}:=x;show ĥ e
 |tbl ps=>show ĥ (show Ğ a=À _ from x)|met f y=>show ĥ (show Ğ a=À _ from x)|ext φ=>let{_,{_,e},_}:=x;show ĥ e
theorem Ϲf{α β:Type}{F G:α->β->È}:∀{l₁:Á α}{l₂:Á β},Ŭd F l₁ l₂->(∀a b,F a b->G a b)->Ŭd G l₁ l₂
 |_,_,.nil,_=>.nil|_,_,.cons r t,f=>.cons (f _ _ r) (Ϲf t f)
def xm.XH(x:xm P w H h a o)(k:∀b u,(b=a\/H b=À ŉe)->Ğ b=À u->ċ b=À u)(E:∀b,H b=À ŉe->H' b=À ŉe)(F:∀b xs,H b=À Ŗa->H' b=À Ŗa):xm P w H' h' a o:=by
 induction o with
 |lst xs=>let{z,l,n,r,e}:=x;show{z,l,n,r,k _ _ Ţ e}
 |tup xs=>let{z,l,r,g,e,c}:=x;show{z,l,r,g,k _ _ Ţ e,c}
 |dK kvs=>let{z,y,B,r,g,i,j,e,c}:=x;show{z,y,B,r,g,i,j,k _ _ Ţ e,c}
 |dT kvs=>let{z,y,xs,r,g,i,j,e,c}:=x;show{z,y,xs,Ϲf r λp q z=>{z.1,F _ _ z.2.1,z.2.2},g,i,j,k _ _ Ţ e,c}
 |set S n=>let{g,i,j,t,e,c}:=x;show{g,i,j,t,k _ _ Ţ e,c}
 |ins C dx fs=>let{d,z,A,e,m,{s,i,j,e2,c},r}:=x;show{E _ d,z,A,k _ _ Ţ e,m,{s,i,j,k _ _ (.inr d) e2,c},r}
 |own y=>let{g,e}:=x;show{g,k _ _ Ţ e}
 |xd fs=>let{m,{s,i,j,e,c},r}:=x;show{m,{s,i,j,k _ _ Ţ e,c},r}
 |rng lo hi=>let{t,u,v,e}:=x;show{t,u,v,k _ _ Ţ e}
 |yj g u ih=>let{e,q}:=x;show{k _ _ Ţ e,ih q}
 |tbl ps=>have e:Ğ a=À { cls:=.none,ć:=.fields ps }:=x;exact ċ a=À { cls:=.none,ć:=.fields ps };show k a _ Ţ e|met f y=>have e:Ğ a=À ýl:=x;exact ċ a=À ýl;show k a _ Ţ e|ext φ=>let{p,{o,e},st}:=x;show{st _ _ p λo q=>k _ _ Ţ q,{o,k _ _ Ţ e},st}
theorem wX.lt(x:wX P w H h)(e:H a=À o):a<àb:=(Ťp).lt
def wX.fresh(x:wX P w H h)(e:àb<=a):H a=Å:=by
 cases q:H a with
 |Å=>rfl|À u=>show Þ (Ū (x.lt q) e) Ēa
def wX.kept(x:wX P w H h)(k:∀b u,Ğ b=À u->ċ b=À u):wX P w H h':=λa o e=>
 (Ťp).XH (λb u _ q=>k b u q) ϒf λ_ _ q=>q
def wX.laid(x:wX P w H h)(k:∀b u,Ğ b=À u->ċ b=À u)(g:àb<=a)(d:xm P w ďe h' a o):wX P w ďe h':=λb u e=>by let f:=x.fresh g;rw[øq];rw[yq]at e;cases e;show d;rw[yH hb]at e;show(Ój).XH (λc v _ q=>k c v q) (λc q=>by rw[yH (qo q f)];show q) λc i q=>by rw[yH (qo q f)];show q
#print a
def Rd(H:Hp)(a:Ë)(u:HO):È:=H a=À u\/∃o,H a=À ĥe
def Rd.ok{P:ï}{w:æ}{H:Hp}{h:Heap}{a:Ë}{u:HO}(r:Rd H a u)(x:wX P w H h):xm P w H h a u:=by rcases r with r|⟨o,r⟩;show x a u r;let{_,q}:=x a _ r;show q
def Jd:É HO->È
 |À (.lst _)=>Ÿb|À (.dK _)=>Ÿb|À (.dT _)=>Ÿb|À (.set _ _)=>Ÿb|À (.ins _ _ _)=>Ÿb|À (.ext _)=>Ÿb|_=>Ā
section
variable{P:ï}{w:æ}{H:Hp}{h h':Heap}{x e:Ë}{o':HO}
def wX.write(ok:wX P w H h)(g:Jd (H x))(n:e=x\/H e=À ŋd)(k:∀b u,b≠e->Ğ b=À u->ċ b=À u)(j:∃u,ċ e=À u)(l:xm P w ŋo h' x o'):wX P w ŋo h':=λb u q=>by
 let a:∀c y,H c=À (.own y)->c≠x:=λc y r z=>by subst z;rw[r]at g;show g
 let d:∀c f,H c=À (.tup f)->c≠x:=λc f r z=>by subst z;rw[r]at g;show g
 by_cases hb:b=x;subst hb;rw[yq]at q;cases q;show l;rw[yH hb]at q;by_cases hbe:b=e;let m:H b=À ŋd:=by rcases n with z|z;show Þ (hbe.trans z) hb;rw[hbe];show z
 rw[q]at m;cases m;let{v,o}:=j;show{v,by rw[hbe];show o};show(ok b u q).XH (λc v i r=>k c v ?_ r) (λc r=>by rw[yH (a c b r)];show r) λc f r=>by rw[yH (d c f r)];show r
 rcases i with rfl|i;show hbe;rintro rfl;rcases n with z|z;show a c b i z;rw[i]at z;cases z;show hb rfl
#print a
structure Un(fs ex:Á Ë)(H H':Hp)(h h':Heap):È where
 ťa:∀b o,Ğ b=À o->H b=Å->b ∉ fs->b ∉ ex->ċ b=À o
 slot:∀b o,Ğ b=À o->H b=Å->b∈fs->b ∉ ex->∃sl,ċ b=À { o with Ŵd:=sl }
 free:∀b o,Ğ b=À o->H b=Å->b ∉ ex->H' b=Å
 ţg:∀b o,Ğ b=À o->b ∉ ex->∃o',ċ b=À o'
 qc:∀b xs,H b=À Ŗa->H' b=À Ŗa
 uz:∀b o u,H b=À ĥe->H' b=À ĥe
 py:∀b ps,H b=À Ħe->∃more,H' b=À ūm
section
variable{fs ex:Á Ë}{H H1:Hp}{h h1 h':Heap}{a x e:Ë}{o:HO}
def Un.any(u:Un fs ex H H1 h h1){b:Ë}{a:Obj}(q:Ğ b=À a)(n:H b=Å)(c:b ∉ ex):∃sl,ŉj b=À { a with Ŵd:=sl }:=by by_cases hb:b∈fs;show ľg b a q n hb c;show{a.slots,Ŭe b a q n hb c}
def ŕe(k:∀b u,Ğ b=À u->ċ b=À u):Un fs ex H H h h':=
 {λb a q _ _ _=>k b a q,λb a q _ _ _=>{a.slots,k b a q},λ_ _ _ n _=>n,λb a q _=>{a,k b a q},λ_ _ q=>q,λ_ _ _ q=>q,λ_ c q=>{#[],by rw[q];simp}}
def Un.refl:Un fs ex H H h h:=ŕe λ_ _ q=>q
def Un.laid(k:∀b u,Ğ b=À u->ċ b=À u)(e:àb<=a)(c:H a=Å):Un fs ex H ďe h h' where
 ťa:=λb u q _ _ _=>k b u q
 slot:=λb u q _ _ _=>{u.slots,k b u q}
 free:=λb u q n _=>by rw[yH (Ϟ (Ū Še e))];show n
 ţg:=λb u q _=>{u,k b u q}
 qc:=λb d q=>by rw[yH Ğj];show q
 uz:=λb u d q=>by rw[yH Ğj];show q
 py:=λb f q=>{#[],by rw[yH Ğj,q];simp}
def Un.write(a:Jd (H x))(j:e=x\/H e=À ŋd)(k:∀b u,b≠e->Ğ b=À u->ċ b=À u)(d:∃u,ċ e=À u):Un fs ex H Ŷi h h':=by
 let g:∀b,H b=Å->b≠x:=λb n z=>by subst z;rw[n]at a;show a
 let f:∀b,H b=Å->b≠e:=λb n z=>by subst z;rcases j with r|r;show g b n r;rw[n]at r;cases r
 let c:∀b u,H b=À u->¬ Jd (À u)->b≠x:=λb u q nm z=>by subst z;rw[q]at a;show nm a
 refine⟨λb u q n _ _=>k b u (f b n) q,λb u q n _ _=>{u.slots,k b u (f b n) q},λb u q n _=>by rw[yH (g b n)];show n,λb u q _=>?_,
  λb i q=>by rw[yH Żh];show q,λb u i q=>by rw[yH Żh];show q,λb l q=>{#[],by rw[yH Żh,q];simp}⟩
 by_cases hbe:b=e;subst hbe;show d;show{u,k b u hbe q}
#print a
nonrec def D5(h:Heap)(H:Hp):Á Ë:=(Őp).filter λa=>(H a).isSome
def YV(h:Heap)(H:Hp):Heap:=W.hideAll h Ħj
def z9m(h:Heap)(H:Hp):(Āg).objs.size=àb:=W.hideAll_size _ _
def z9l{h:Heap}{H:Hp}{b:Ë}{o:Obj}(e:Ğ b=À o)(n:H b=Å):(Āg).get? b=À o:=
 W.hideAll_get _ e λa=>by let q:(H b).isSome=Ä:=(Įa a).2;rw[n]at q;simp at q
def y4w{h:Heap}{H:Hp}{b:Ë}{o:Obj}(e:(Āg).get? b=À o):Ğ b=À o/\H b=Å:=by
 let a:Ğ b=À o:=W.of_hideAll Ħj e;show{a,?_};cases q:H b with
 |Å=>rfl|À x=>have c:b∈D5 h H:=ϯd {Ća (ĥ a),by simp[q]};let z:(Āg).get? b=Å:=W.hideAll_none Ħj c;rw[z]at e;cases e
nonrec def z3g(g h:Heap)(L:Ë):Á õ:=(Őp).filterMap λa=>if a=L\/(g.get? a).isSome=Ä then Å else(Ğ a).map λo=>(a,o)
def z_(g h:Heap)(L d:Ë):Á õ:=(z3g g h L).filter λp=>decide (p.1≠d)
structure Mod(K:Ô)(mg:Ç->É Value)(Ì:Heap):È where
 XG:Ŷ Ì
 glob:Ŗd Ę mg
 blt:∃mb,Ŗd ťi mb/\∀x:Ç,x ≠ Ŝi->mb x=ϕ x
 nolimit:base.NoLimit
structure Cx where
 ă:ï
 w:æ
 K:Ô
 mg:Ç->É Value
 Ì:Heap
 A:ù
 N:Á Ç
 s₀:Í
 H₀:Hp
 env:Env
 ĉ:Á Env
 stack:Á Env
 ex:Á Ë
 fn:Ç->Ð
 calm:Ð
 pn:Á õ
 xe:Value->Í->È
nonrec def jf(l:Á Env):Á Ë:=l.filterMap (·.frame)
abbrev Cx.fs(X:Cx):Á Ë:=jf ŗd
def g_(a:îa)(x:Ç):È:=ϕb x=À .local\/ϕb x=À .cell\/ϕb x=À .free
def qN(a:îa)(x:Ç):È:=ϕb x=À .local\/ϕb x=À .cell
def z32(env:Env)(h:Heap)(m:Ç->É Value)(x:Ç)(u:Value):È:=
 (ųc x=À .local/\m x=À u)\/((ųc x=À .cell\/ųc x=À .free)/\∃c,Ũh x=À c/\h.IsCell c (À u))
structure Cx.Ok(X:Cx):È where
 mod:Mod X.K ñ Ľ
 kind:Ūh=.function
 glob:Ói=Ę
 blt:X.env.builtins=ťi
 above:Ùc<=Ϻ
 inj:∀x y c,įa x=À c->įa y=À c->x=y
 has:∀x,(ŗc x=À .cell\/ŗc x=À .free)->∃c,įa x=À c
 Ua:∀x c,X.fn x=Ä->įa x=À c->Ùc<=c
 hd:ŵ=Ä->X.A.handled=Å
 ϝj:X.A.frames=À Ŝa
 J4:Ŝa=ŗd\/(Ŝa=Û::ŗd/\X.env.frame=À Ϻ)
 Qz:∀b∈X.ex,b≠Ϻ/\∀x c,įa x=À c->c≠b
 bs:∀b o,üe b=À o->ũh b=À o/\öb b=Å
 ZI:X.base.objs.size<=Ùc
 Ud:∀b o,üe b=À o->b ∉ X.ex
 Ub:∀b∈X.ex,b ∉ Ŧa
 jR:Řl Ľ ŗd
 XF:∀b∈Ŧa,öb b=Å
structure Inv(X:Cx)(zA:Á õ)(σ:Á ĭg)(H:Hp)(s:Í):È where
 ok:X.Ok
 os:s.os=X.s₀.os
 bare:řd Łg
 Ì:Un Ŧa X.ex öb H X.s₀.heap â
 loc:∃m,ép Ϻ m/\∀(i:Â)(x:Ç)(v:V),X.N[i]?=À x->σ[i]?=À Áa->g_ Ϲ x->∃u,yB v u/\z32 Û â m x u
 cell:∀x c,įa x=À c->∃v,ŋn c v
 free:H Ϻ=Å
 pq:∀x c,įa x=À c->H c=Å
 pin:∀p∈Ñc++zA,ø p.1=À p.2/\H p.1=Å/\p.1≠Ϻ/\p.1 ∉ Ŧa/\∀v,p.2.data≠.cell v
 zi:wX ö X.w H â
 len:σ.length=ò
section
variable{X:Cx}{zA:Á õ}{σ:Á ĭg}{H H':Hp}{s:Í}{h':Heap}
def Cx.Ok.z2q(ok:X.Ok){b:Ë}{o:Obj}(e:üe b=À o):b ∉ Ŧa:=λa=>by let:=(ok.jR.mem a).1;rw[e]at this;cases this
theorem Inv.bs(I:Inv X zA σ H s):∀b o,üe b=À o->ø b=À o/\H b=Å:=λb o e=>
 {Ĳf b o Įf.1 Įf.2 (I.ok.z2q e) ñn,ăd b o Įf.1 Įf.2 ñn}
def Inv.bk(I:Inv X zA σ H s):∀b o,üe b=À o->ø b=À o:=λb o e=>(I.bs b o e).1
theorem Inv.mod(I:Inv X zA σ H s):Mod X.K ñ Ľ:=Ąj
def Inv.wW(I:Inv X zA σ H s):X.K.In â:=I.ok.mod.XG.keeps I.bk
theorem Inv.lt(I:Inv X zA σ H s):Ϻ<Ý:=let ⟨_,hn,_⟩:=Ėa;hn.lt
def Inv.sz(I:Inv X zA σ H s):Ùc<=Ý:=ÿ Ŭi (óa I.lt)
def Inv.bD(I:Inv X zA σ H s){a:Ë}(h:Ý<=a):a ∉ Ŧa:=λc=>by let{_,o,b,_}:=Ġo c;show Þ (Ū (ĥ b) (ÿ I.sz h)) Ēa
def Inv.WY(I:Inv X zA σ H s):∀x c,įa x=À c->c≠Ϻ:=λx c e z=>by let{v,o,f,d}:=Ľa x c e;let{m,{h,g,i,a,b,_},_}:=Ėa;rw[z,a]at f;cases f;rw[b]at d;cases d
theorem Inv.jR(I:Inv X zA σ H s):Ĕf Ľ ŗd:=by
 let d:∀(l:Á Env),(∀b∈jf l,b∈Ŧa)->Řl Ľ l->Ĕf Ľ l:=by
  intro l
  induction l with
  |nil=>intro _ _;trivial|ð env r ih=>
   intro g j;let{k,{L,o,a,n,i,m},h}:=j;let f:L∈Ŧa:=g L (by unfold jf;rw[ģh,a];show Ġ);let{p,e}:=Āe L o i (I.ok.XF L f) f λz=>I.ok.Ub L z f
   show{k,{L,_,a,n,e,m},ih (λb c=>g b (by unfold jf;rw[ģh,a];show Ų _ c)) h}
 show d ŗd (λ_ c=>c) I.ok.jR
theorem Inv.stack(I:Inv X zA σ H s):Ĕf Ľ Ŝa:=by rcases I.ok.J4 with e|⟨e,hf⟩;rw[e];show I.jR;rw[e];let{m,a,_}:=Ėa;refine .cons (by rw[ğb];decide) hf a ?_ I.jR;show Heap.get?_none_of_le (ÿ ĝg Ŭi)
def Inv.J5(I:Inv X zA σ H s):∀b∈jf Ŝa,b∈Ϻ::Ŧa:=λb a=>by rcases I.ok.J4 with e|⟨e,hf⟩;rw[e]at a;show Ų _ a;rw[e]at a;unfold jf at a;rw[ģh,hf]at a;show a
def Inv.bI(I:Inv X zA σ H s):∀b∈jf Ŝa,H b=Å:=λb a=>by rcases ĩ (I.J5 b a)with e|a;rw[e];show ϐa;let{_,o,c,_}:=Ġo a;show ăd b o c (I.ok.XF b a) λz=>I.ok.Ub b z a
def Inv.step{g':Ú GenState}{t':Â}{d':Drawn}{ch:Á Ë}(I:Inv X zA σ H s)(h:∀b∈ch,Ćf/\b≠Ϻ/\(∀x c,įa x=À c->c≠b)/\∀p∈Ñc++zA,p.1≠b)(t:∀b o,b≠Ϻ->b ∉ Ŧa->b ∉ ch->ø b=À o->H b=Å->ċ b=À o)(A:∀b o,b≠Ϻ->b∈Ŧa->b ∉ ch->ø b=À o->H b=Å->∃sl,ċ b=À { o with Ŵd:=sl })(f:∀b o,b ∉ ch->ø b=À o->H b=Å->H' b=Å)(C:∀b o,b ∉ ch->ø b=À o->∃o',ċ b=À o')(T:∀b xs,H b=À Ŗa->H' b=À Ŗa)(W:∀b o u,H b=À ĥe->H' b=À ĥe)(Y:∀b ps,H b=À Ħe->∃more,H' b=À ūm)(ns:∀m,ép Ϻ m->h'.Ns Ϻ m)(S:wX ö X.w H' h')(Z:řd g') :Inv X zA σ H' { s with ç:=h',gens:=g',Éc:=d',Ĕ:=t' }:=by
 let F:∀b o,ũh b=À o->b≠Ϻ:=λb o e=>Ϟ (Ū Ėc Ŭi)
 let y:∀b o,ũh b=À o->b ∉ X.ex->b ∉ ch:=λb o e a B=>by rcases(h b B).1 with z|z;show a z;show Þ (Ū Ėc z) Ēa
 let g:∀x c,įa x=À c->∀v,ŋn c v->h'.IsCell c v:=λx c e v ⟨o,E,J⟩=>by
  let j:c ∉ ch:=λz=>(h c z).2.2.1 x c e rfl
  by_cases hc:c∈Ŧa;let{sl,q}:=A c o èo hc j E ěi;show{_,q,J};show{o,t c o èo hc j E ěi,J}
 show{Åd,Óc,Z,{λb o e n B a=>?_,λb o e n B a=>?_,λb o e n a=>?_,λb o e a=>?_,λb xs e=>T b xs (Ęe b xs e),λb o xs e=>W b o xs (ėe b o xs e),λb ps e=>?_},?_,λx c e=>?_,?_,λx c e=>?_,λp L=>?_,S,Āb};show t b o ύp B űf (Ĳf b o e n B a) ϕh;let{sl,e1}:=Āe b o e n B a;let{G,e2}:=A b _ ύp B űf e1 ϕh;show{G,e2};let{o',e1}:=õe b o e a;show f b o' űf e1 ϕh;let{o',e1}:=õe b o e a;show C b o' űf e1;let{Q,e1}:=ęe b ps e;let{O,e2}:=Y b _ e1;show{Q++O,by rw[e2,Array.append_assoc]};let{m,R,U}:=Ėa;show{m,ns m R,λi x v e1 e2 P=>?_};let{u,r,l}:=U i x v e1 e2 P;show{u,r,?_};rcases l with l|⟨k,c,e,z⟩;show .inl l;show .inr {k,c,e,g x c e _ z};let{v,z}:=Ľa x c e;show{v,g x c e v z};let{m,{o,_,_,E,_},_}:=Ėa;show f _ o (λz=>ĸg.2.1 rfl) E ϐa;let{v,o,E,J}:=Ľa x c e;show f c o (λz=>(h c z).2.2.1 x c e rfl) E ěi;let{e,n,K,N,d}:=ńa p L;let j:p.1 ∉ ch:=λz=>(h p.1 z).2.2.2 p L rfl
 show{t p.1 p.2 K N j e n,f p.1 p.2 j e n,K,N,d}
def Inv.un{t':Â}(I:Inv X zA σ H s)(u:Un Ŧa [] H H' â h')(j:wX ö X.w H' h'):Inv X zA σ H' { s with ç:=h',Ĕ:=t' }:=by
 let{m,{o,l,q,g,r},_}:=id Ėa;let{p,h}:=u.any g ϐa ô
 show Ϫj (g':=Łg) (d':=įe) (ch:=[]) ãa (λb o _ c _ e n=>Ŭe b o e n c ô) (λb o _ c _ e n=>ľg b o e n c ô) (λb o _ e n=>Ŀg b o e n ô) (λb o _ e=>Ēg b o e ô) u.qc u.uz u.py (λt i=>by let{v,d,f,a,k}:=i;rw[g]at a;cases a;show{_,d,f,h,k}) j ϑa
def Inv.call{g':Ú GenState}{t':Â}{d':Drawn}{ch:Á Ë}(I:Inv X zA σ H s)(u:Un ģj ch H H' â h')(q:wX ö X.w H' h')(t:řd g')(d:∀b∈ch,Ćf/\b≠Ϻ/\(∀x c,įa x=À c->c≠b)/\∀p∈Ñc++zA,p.1≠b) :Inv X zA σ H' { s with ç:=h',gens:=g',Éc:=d',Ĕ:=t' }:=by
 let{m,{o,y,B,j,r},_}:=id Ėa;let{A,g}:=u.any j ϐa λz=>(d _ z).2.1 rfl
 show Ϫj (ch:=ch) d (λb o g k a e n=>Ŭe b o e n (λz=>(ĩ (I.J5 b z)).elim g k) a) (λb o _ _ a e n=>u.any e n a) (λb o a e n=>Ŀg b o e n a) (λb o a e=>Ēg b o e a) u.qc u.uz u.py (λC l=>by let{E,h,i,f,v}:=l;rw[j]at f;cases f;show{_,h,i,g,v}) q t
def Inv.turned{t':Â}{it:Ë}(I:Inv X zA σ H s)(k:∀b o,b≠it->ø b=À o->ċ b=À o)(A:H it=Å)(f:it≠Ϻ)(y:it∈X.ex\/Ùc<=it)(i:∀x c,įa x=À c->c≠it)(w:∀p∈Ñc++zA,p.1≠it):Inv X zA σ H { s with ç:=h',Ĕ:=t' }:=by
 let d:∀b u,H b=À u->b≠it:=λb u e z=>by rw[z,A]at e;cases e
 show Ϫj (g':=Łg) (d':=įe) (ch:=[it]) (λb h=>?_) (λb o _ _ a e _=>k b o ċh e) (λb o _ _ a e _=>{o.slots,k b o ċh e}) (λ_ _ _ _ n=>n)
  (λb o a e=>{o,k b o ċh e}) (λ_ _ e=>e) Ğn (λb B e=>{#[],by rw[e];simp}) (λm j=>?_) (λb u e=>?_) ϑa
 let e:b=it:=by rw[įq]
 subst e;show{y,f,i,w};let{o,g,l,t,r}:=j;show{o,g,l,k _ o (ũb f) t,r};show(Ě b u e).XH (λc v a q=>k c v ?_ q) ϒf λ_ _ q=>q
 rcases a with z|z;rw[z];show d b u e;show d c _ z
def Inv.tok(I:Inv X zA σ H s)(t:Â):Inv X zA σ H { s with Ĕ:=t }:=I.un (h':=â) (t':=t) Un.refl Ě
theorem Inv.kept{t':Â}(I:Inv X zA σ H s)(k:∀b u,ø b=À u->ċ b=À u):Inv X zA σ H { s with ç:=h',Ĕ:=t' }:=I.un (ŕe k) (ćp k)
theorem Inv.laid{a:Ë}{o:HO}{t':Â}(I:Inv X zA σ H s)(k:∀b u,ø b=À u->ċ b=À u)(d:Ý<=a)(c:xm ö X.w ďe h' a o) :Inv X zA σ ďe { s with ç:=h',Ĕ:=t' }:=I.un (Un.laid k d (Ęb d)) (I.zi.laid k d c)
theorem Inv.write{x e:Ë}{o:HO}{t':Â}(I:Inv X zA σ H s)(d:Jd (H x))(f:e=x\/H e=À ŋd)(k:∀b u,b≠e->ø b=À u->ċ b=À u)(a:∃u,ċ e=À u)(c:xm ö X.w Ŷi h' x o):Inv X zA σ Ŷi { s with ç:=h',Ĕ:=t' }:=I.un (Un.write d f k a) (I.zi.write d f k a c)
def Inv.weak{σ':Á ĭg}(I:Inv X zA σ H s)(b:σ'.length=σ.length)(w:∀(i:Â) v,σ'[i]?=À Áa->σ[i]?=À Áa):Inv X zA σ' H s:=
 {Åd,Óc,ϑa,Ŷe,let ⟨m,hn,hl'⟩:=Ėa;{m,hn,λi x v e1 e2 a=>hl' i x v e1 (w i v e2) a},Ľa,ϐa,Ĵb,ńa,Ě,äe Āb}
def Inv.J3{a:Á õ}(I:Inv X zA σ H s)(h:∀p∈a,ø p.1=À p.2/\H p.1=Å/\p.1≠Ϻ/\p.1 ∉ Ŧa/\∀v,p.2.data≠.cell v):Inv X a σ H s:=
 {Åd,Óc,ϑa,Ŷe,Ėa,Ľa,ϐa,Ĵb,λp b=>(Ÿ b).elim (λz=>ńa p Ġe) (h p),Ě,Āb}
def m5{N:Á Ç}(c:ϛc){i j:Â}{x:Ç}(a:N[i]?=À x)(b:N[j]?=À x):i=j:=by let{d,e1}:=Ŀ a;let{e,e2}:=Ŀ b;show(List.getElem_inj c).mp (e1.trans e2.symm)
def si{M:Źd}{A:ù}{E:Value->Í->È}{i:Â}{x:Ç}{v:V}{u:Value}{Q:ïa->Í->È}(I:Inv X zA σ H s)(hN:éa)(hi:X.N[i]?=À x)(t:qN Ϲ x)(r:yB v u)(h:∀s',Inv X zA ċc H s'->(∃a,űa a â Ϙc/\(a=Ϻ\/įa x=À a))->Q () s')(hf:Î ũa q7):Ù M A ßm Q E s:=by
 let{m,Z,hl}:=id Ėa;let G:(Ūh == .class||(Ūh == .module&&Ϻ != Ói))=Ã:=by rw[ğb];rfl
 let J:i<σ.length:=by rw[Āb];show éb.1
 let WY:=I.WY
 let g:∀{a:Ë}{h':Heap},(∃o,ø a=À o/\H a=Å)->űa a â h'->wX ö X.w H h':=λ{a h'} ha f b ob e=>by
  let{_,_,B}:=ha;show(Ě b ob e).XH (λc R l q=>(f.2 c ?_).trans q) ϒf λ_ _ q=>q
  rintro rfl;rcases l with rfl|l;rw[B]at e;cases e;rw[B]at l;cases l
 rcases t with hk|hk;show wpAny_storeName_local hk Z (λh' hn' f=>?_) G;let{oL,_,_,hoL,_}:=id Z;show h _ {Åd,Óc,ϑa,{λb o e n F t=>?_,λb o e n F t=>?_,ăd,λb o e t=>?_,Ęe,ėe,ęe},{_,hn',λj y v' e1 e2 U=>?_},λy c e=>?_,ϐa,Ĵb,λp T=>?_,g {oL,hoL,ϐa} f,by simpa using Āb} {_,f,.inl rfl};show(Ϥg).trans ŏm;let{sl,e1}:=Āe b o e n F t;show{sl,(Ϥg).trans e1};let{Y,e1}:=õe b o e t;show{Y,(Ϥg).trans e1};rw[Üq];show{u,r,.inl {hk,by simp}};rw[Ýq];rcases q with⟨k,e⟩|⟨k,c,e,z⟩;show .inl {k,?_};let:y≠x:=λe=>hj (m5 hN e1 (e▸hi))
 simp[this,e];show .inr {k,c,e,Þp f Æp};let{R,z}:=Ľa y c e;show{R,Þp f Æp};let{e,n,P,W,d}:=ńa p T;show{(f.2 p.1 P).trans e,n,P,W,d};let C:X.fn x=Ä:=by rcases hf with z|z;show z;rw[z]at hk;cases hk
 let{c,l}:=I.ok.has x (.inl hk);let{R,z}:=Ľa x c l;show wpAny_storeName_cell ğb hk l z (λh' K f=>?_);let{oc,L,O}:=id z;show h { s with ç:=h' } {Åd,Óc,ϑa,{λb o e n F t=>?_,λb o e n F t=>?_,ăd,λb o e t=>?_,Ęe,ėe,ęe},{m,Z.sameBut f (ũb (WY x c l)),λj y v' e1 e2 U=>?_},λy S e=>?_,ϐa,Ĵb,λp T=>?_,g {oc,L,Ĵb x c l} f,by simpa using Āb} {c,f,.inr l};show(Ϙg).trans ŏm;let{sl,e1}:=Āe b o e n F t;show{sl,(Ϙg).trans e1};let{Y,e1}:=õe b o e t;show{Y,(Ϙg).trans e1};rw[Üq];show{u,r,.inr {.inl hk,c,l,K}};rw[Ýq];rcases q with q|⟨k,S,e,z'⟩;show .inl q;show .inr {k,S,e,z'.sameBut f ?_};rintro rfl;show hj (m5 hN e1 (I.ok.inj _ _ _ e l▸hi));by_cases hcc:S=c;subst hcc;show{_,K};let{w2,z2}:=Ľa y S e;show{w2,z2.sameBut f hcc};let{e,n,P,W,d}:=ńa p T;show{(f.2 p.1 ?_).trans e,n,P,W,d};intro q;rw[q,L]at e;let q':oc=p.2:=Ça e;show d R (by rw[<-q'];show O)
def S8{M:Źd}{A:ù}{E:Value->Í->È}{i:Â}{x:Ç}{v:V}{u:Value}{Q:ïa->Í->È}(I:Inv X zA σ H s)(c:éa)(hi:X.N[i]?=À x)(d:qN Ϲ x)(r:yB v u)(h:∀s',Inv X zA ċc H s'->Q () s')(a:Î ũa q7):Ù M A ßm Q E s:=
 si I c hi d r (λs' b _=>h s' b) a
def Inv.FH{s':Í}{ch:Á Ë}(I:Inv X zA σ H s)(h:s'.os=s.os)(u:Un ģj ch H H' â Ϙc)(g:wX ö X.w H' Ϙc)(d:řd s'.gens)(a:∀b∈ch,Ćf/\b≠Ϻ/\(∀x c,įa x=À c->c≠b)/\∀p∈Ñc++zA,p.1≠b):Inv X zA σ H' s':=by let{h',g',d',t',f}:=s';let e:f=s.os:=h;subst e;show I.call (g':=g') (t':=t') (d':=d') u g d a
#print a
abbrev XK:=Value->É Ë->Hp->È
abbrev St:=Á ĭg
abbrev VK:=V->Hp->È
abbrev TE:=St->Hp->VK->È
abbrev TT:=St->Hp->(Ð->Hp->È)->È
abbrev TA:=St->Hp->(Á V->Hp->È)->È
structure u_ where
 nx:St->Hp->È
 rt:VK
 bk:St->Hp->È:=λ_ _=>Ā
 ct:St->Hp->È:=λ_ _=>Ā
abbrev TS:=u_->St->Hp->È
def EP(X:Cx)(a:Á õ)(σ:St)(Q:VK)(u:Value)(s':Í):È:=∃v H',Inv X a σ H' s'/\yB v u/\Q v H'
def TP(X:Cx)(a:Á õ)(σ:St)(Q:Ð->Hp->È)(b:Ð)(s':Í):È:=∃H',Inv X a σ H' s'/\Q b H'
def AP(X:Cx)(a:Á õ)(σ:St)(Q:Á V->Hp->È)(us:Á Value)(s':Í):È:=∃vs H',Inv X a σ H' s'/\zo vs us/\Q vs H'
def SP(X:Cx)(a:Á õ)(D:u_)(f:Flow)(s':Í):È:=
 match f with
 |.next=>∃σ' H',Inv X a σ' H' s'/\Ëb σ' H'|.brk=>∃σ' H',Inv X a σ' H' s'/\D.bk σ' H'|.cont=>∃σ' H',Inv X a σ' H' s'/\D.ct σ' H'|.ret u=>∃v σ' H',Inv X a σ' H' s'/\yB v u/\D.rt v H'
def PE(X:Cx)(e:Ö)(t:TE):È:=
 ∀(zA:Á õ) (s:Í) (σ:St) (H:Hp) (Q:VK),Inv X zA σ H s->t σ H Q->Ù Ą X.A ïe ňb į s
def PT(X:Cx)(e:Ö)(t:TT):È:=
 ∀(zA:Á õ) (s:Í) (σ:St) (H:Hp) (Q:Ð->Hp->È),Inv X zA σ H s->t σ H Q->Ù Ą X.A (ŧd e Û ïe) Ϲh į s
def PW(X:Cx)(e:Ö)(t:TT):È:=
 ∀(Įc:Sem Value)(zA:Á õ) (s:Í) (σ:St) (H:Hp) (Q:Ð->Hp->È),Inv X zA σ H s->t σ H Q->Ù Ą X.A (ŧd e Û Įc) Ϲh į s
def PW.pt{X:Cx}{e:Ö}{t:TT}(h:PW X e t):PT X e t:=h _
def PA(X:Cx)(es:Á Ö)(t:TA):È:=
 ∀(pos:Pos)(zA:Á õ) (s:Í) (σ:St) (H:Hp) (Q:Á V->Hp->È),Inv X zA σ H s->t σ H Q->Ù Ą X.A (spliced ìd) (AP X zA σ Q) į s
def PS(X:Cx)(st:Ü)(t:TS):È:=
 ∀(zA:Á õ) (s:Í) (σ:St) (H:Hp) (D:u_),Inv X zA σ H s->t D σ H->Ù Ą X.A (exec st Û) Šo į s
def uk(X:Cx)(st:Á Ü)(t:TS):È:=
 ∀(zA:Á õ) (s:Í) (σ:St) (H:Hp) (D:u_),Inv X zA σ H s->t D σ H->Ù Ą X.A (execs st Û) Šo į s
def zx{α:Type}{t:Sem α}{Q b:α->Í->È}{M:Źd}{A:ù}{E:Value->Í->È}{s:Í}(h:Ù M A t Q E s)(c:∀a s,Q a s->b a s):Ù M A t b E s:=ĳa h c λ_ _ x=>x
section
variable{X:Cx}
nonrec def gV(i:Â):TE:=λσ H Q=>∃v,σ[i]?=À Áa/\Q v H
nonrec def tC(v:V):TE:=λ_ H Q=>Q v H
def Vs{i:Â}{x:Ç}{pos:Pos}(k:X.N[i]?=À x)(hv:g_ Ϲ x)(g:Î ō q10)(f:Î Żb q10):PE X ôa úb:=by intro n s σ H Q I h;let{v,e,h}:=h;let{m,q,p}:=Ėa;let{u,r,l}:=p i x v k e hv;let d:EP X n σ Q u s:={v,H,I,r,h};rcases l with⟨b,o⟩|⟨b,c,j,a⟩;show şi (ϋl ğb b q o d) g;rcases b with b|b;show şi (Àm ğb b j a d) g;show şi (wpAny_loadName_free ğb b j a d f) g
def mz{i j pos}:PE X (.Constant ϵ j pos) (tC ϵ):=λ_ _ _ H _ I h=>wpAny_Constant_int {.int i,H,Òa _,{_,rfl},h}
def y8c{b j pos}:PE X (.Constant Ùg j pos) (tC ŭb):=λ_ _ _ H _ I h=>Constant_bool {.bl b,H,I,rfl,h}
def y8v{j pos}:PE X (.Constant .none j pos) (tC .zO):=λ_ _ _ H _ I h=>Constant_none {.zO,H,I,rfl,h}
def y91{x j pos}:PE X (.Constant ϴb j pos) (tC ϴb):=λ_ _ _ H _ I h=>Calls.Constant_str {.str x,H,Òa _,{_,rfl},h}
def Gl(X:Cx)(x:Ç):È:=ŗc x=À .globalImplicit
def Iy{E:Value->Í->È}{c:Á õ}{s:Í}{σ:St}{H:Hp}{x:Ç}{u:Value}{pos:Pos}{Q:Value->Í->È}(I:Inv X c σ H s)(a:Gl X x)(d:ñ x=À u)(h:Q u s)(b:Î ō q10):Ù Ą X.A Ũn Q E s:=
 ϗk ğb a (Calls.loadGlobal_global Ĵk d h) b
def Th{E:Value->Í->È}{c:Á õ}{s:Í}{σ:St}{H:Hp}{x:Ç}{u:Value}{pos:Pos}{Q:Value->Í->È}(I:Inv X c σ H s)(f:Gl X x)(e:ñ x=Å)(hv:ϕ x=À u)(h:Q u s)(g:Î Ďb q10)(b:Î ō q10):Ù Ą X.A Ũn Q E s:=by let{i,a,d}:=I.mod.blt;show ϗk ğb f (Calls.loadGlobal_builtin Ĵk e (by rw[I.ok.blt];show a.keeps I.bk) ((d x g).trans hv) h) b
def y8r{x:Ç}{v:V}{u:Value}{pos:Pos}(a:Gl X x)(c:ñ x=À u)(r:yB v u)(b:Î ō q10):PE X ôa ſe:=
 λ_ _ _ H _ I h=>Iy I a c {v,H,I,r,h} b
def y8d{x:Ç}{v:V}{u:Value}{pos:Pos}(c:Gl X x)(b:ñ x=Å)(hv:ϕ x=À u)(r:yB v u)(d:Î Ďb q10)(a:Î ō q10):PE X ôa ſe:=
 λ_ _ _ H _ I h=>Th I c b hv {v,H,I,r,h} d a
variable{a b:Ö}{ta tb:TE}{pos:Pos}
nonrec def tB(t:TE):TT:=λσ H Q=>t σ H λx a=>∃c,x=.bl c/\Q c a
def nT{e:Ö}{t:TE}(h:PE X e t)(j:Î (∀Įc,ŧd e Û Įc=(do let v <-Įc;standAt e.pos;holding [v] ϳo)) q11):PT X e (tB t):=by intro b s σ H Q I i;show isTrue_plain (zx (h b s σ H _ I i) λv l a=>?_) (j _);let{x,k,g,f,c}:=a;let{d,rfl,q}:=c;cases f;show Ϟd {k,g,q}
variable{tA tB':TT}{z_:Á Ö}
nonrec def x59(t u:TT):TT:=λσ H Q=>t σ H λc a=>if c=Ä then u σ a Q else Q Ã a
nonrec def x5q(t u:TT):TT:=λσ H Q=>t σ H λc a=>if c=Ä then Q Ä a else u σ a Q
nonrec def x5o(t:TT):TT:=λσ H Q=>t σ H λc a=>Q (!c) a
def nv(d:PT X a tA):PW X Āh tA:=by
 intro g b s σ H Q I h;show Ÿo żk;cases c with
 |Ä=>show isTrue_and_nil e|Ã=>show e
def x08(d:PT X a tA):PW X Żl tA:=by
 intro g b s σ H Q I h;show òp żk;cases c with
 |Ã=>show isTrue_or_nil e|Ä=>show e
def nu(m:PT X a tA)(k:PW X êe tB'):PW X ĝe (x59 tA tB'):=by
 intro l g s σ H Q I h;show Ÿo źk;let{e,f,i}:=d;cases c with
 |Ä=>show k l g j σ e Q f i|Ã=>show{e,f,i}
def x07(m:PT X a tA)(k:PW X Ņf tB'):PW X Äg (x5q tA tB'):=by
 intro l g s σ H Q I h;show òp źk;let{e,f,i}:=d;cases c with
 |Ä=>show{e,f,i}|Ã=>show k l g j σ e Q f i
def y9w(e:PT X a tA):PT X ëf (x5o tA):=by rw[òq];show isTrue_not (e d s σ H (λc b=>Q (!c) b) I h)
nonrec def x5a(ta tb:TE):TE:=λσ H Q=>ta σ H λx a=>∃c,x=.bl c/\if c=Ä then tb σ a Q else Q ý a
nonrec def x5r(ta tb:TE):TE:=λσ H Q=>ta σ H λx a=>∃c,x=.bl c/\if c=Ä then Q İ a else tb σ a Q
nonrec def x5p(ta:TE):TE:=λσ H Q=>ta σ H λx a=>∃c,x=.bl c/\Q (.bl (!c)) a
def y8x{op}{t:TE}(h:PE X a t):PE X ϳl t:=λc s σ H Q I b=>BoolOp_one (h c s σ H Q I b)
def y8b(m:PE X a ta)(k:PE X êe tb):PE X ĝe (x5a ta tb):=by
 rw[ñq];show BoolOp_and Żk;rw[Ĉq];cases c with
 |Ä=>show k f j σ i Q g d|Ã=>show{.bl Ã,i,g,rfl,d}
def y8y(m:PE X a ta)(k:PE X Ņf tb):PE X Äg (x5r ta tb):=by
 rw[ñq];show BoolOp_or Żk;rw[Ĉq];cases c with
 |Ã=>show k f j σ i Q g d|Ä=>show{.bl Ä,i,g,rfl,d}
def y8w(j:PE X a ta):PE X ëf (x5p ta):=by rw[ŧq];show UnaryOp_ (zx (j e s σ H _ I h) λv k d=>?_);let{x,i,g,f,b}:=d;let{c,rfl,b}:=b;cases f;show not_of (Ϟd {.bl (!c),i,g,rfl,b})
nonrec def x5h(t:TT)(ta tb:TE):TE:=λσ H Q=>t σ H λc a=>if c=Ä then ta σ a Q else tb σ a Q
def y8s{c:Ö}(l:PT X c tA)(n:PE X a ta)(m:PE X b tb):PE X Ĵm (x5h tA ta tb):=by
 rw[ŧq];show wpAny_IfExp (zx (l e s σ H _ I h) λd g f=>?_);let{i,j,k}:=f;cases d with
 |Ä=>show n e g σ i Q j k|Ã=>show m e g σ i Q j k
#print a
def ya(K:Ô)(H:Hp)(a:Ë)(xs:Á V):È:=
 Rd H a Ϩ \/
  ∃(o:Obj) (its:Ú Value) (n:Â),Àa a=À o/\Åb=.type Ĩ/\ůe=Å/\ϸ=.seq its n/\új<=ä/\zo xs če
def xP(K:Ô)(H:Hp)(a:Ë)(xs:Á V):È:=
 Rd H a Ŗa \/
  ∃(o:Obj) (its:Ú Value) (n:Â),Àa a=À o/\Åb=.type Ϗ/\ϸ=.seq its n/\új<=ä/\zo xs če
nonrec def z38:Value->É V
 |.none=>À .zO|.bool b=>À ŭb|.int i _=>À ϵ|.str x _=>À ϴb|.bytes b _=>À (.byt b)|.float b _=>À (.Wa b)|.ref a=>À Ŗ|.type n=>À (.ty n)|_=>Å
def yB.abs{x:V}{u:Value}(r:yB x u):z38 u=À x:=by
 cases x with
 |zO=>cases r;rfl|bl _=>cases r;rfl|int _=>let{t,rfl}:=r;rfl
 |str _=>let{t,rfl}:=r;rfl
 |byt _=>let{t,rfl}:=r;rfl
 |Wa _=>let{t,rfl}:=r;rfl
 |ref _=>cases r;rfl|ty _=>cases r;rfl
def yB.inj{x y:V}{u:Value}(r:yB x u)(q:yB y u):x=y:=Ça (r.abs.symm.trans q.abs)
theorem zo.inj{xs ys:Á V}{us:Á Value}(h:zo xs us)(g:zo ys us):xs=ys:=by
 induction h generalizing ys with
 |nil=>cases g;rfl|ð r _ ih=>cases g with|ð r' t'=>rw[r.inj r',ih t']
section
variable{X:Cx}{zA:Á õ}{σ:St}{H:Hp}{s:Í}{a:Ë}{xs ys:Á V}
def Ţa{K:Ô}(h:H a=À Ϩ):ya K H a xs:=.inl Ěc
def ϲc{K:Ô}(h:H a=À Ŗa):xP K H a xs:=.inl Ěc
def Inv.list(I:Inv X zA σ H s)(h:ya X.K H a xs):∃its:Á Value,zo xs its/\PlainL â a ϥ/\ë<=ä:=by rcases h with h|⟨o,its,n,hk,hc,hd,hs,hz,r⟩;let{z,its,n,r,e}:=h.ok Ě;show{its,r,{_,n,e,rfl,rfl,rfl},z};refine{če,r,{o,n,ϝ a o hk,hc,hd,by simpa using hs},?_};rw[ťq]
def Inv.tuple(I:Inv X zA σ H s)(h:xP X.K H a xs):∃its:Á Value,zo xs its/\Įb â a ϥ/\ë<=ä:=by rcases h with h|⟨o,its,n,hk,hc,hs,hz,r⟩;let{z,its,r,p}:=h.ok Ě;show{its,r,p,z};refine{če,r,{o,ϝ a o hk,hc,n,by simpa using hs},?_};rw[ťq]
def Inv.LZ(I:Inv X zA σ H s)(h:ya X.K H a xs)(h':ya X.K H a ys):xs=ys:=by
 let{c,r,{o,n,e,_,_,d},_}:=Ϛ h;let{b,i,{k,j,g,_,_,f},_}:=Ϛ h';rw[e]at g;cases g;rw[d]at f;injection f with d1 _
 rw[Ťq]
 rw[űq];show r.inj i
def Inv.FU(I:Inv X zA σ H s)(h:xP X.K H a xs)(h':xP X.K H a ys):xs=ys:=by
 let{c,r,{o,e,_,n,d},_}:=Þa h;let{b,i,{k,g,_,j,f},_}:=Þa h';rw[e]at g;cases g;rw[d]at f;injection f with d1 _
 rw[Ťq]
 rw[űq];show r.inj i
#print a
abbrev Cx.ZJ(X:Cx)(E:Value->Í->È):Cx:={ X with xe:=E }
abbrev Cx.qb(X:Cx):Cx:=X.ZJ λ_ _=>Ā
theorem Cx.Ok.ZJ{X:Cx}(ok:X.Ok)(E:Value->Í->È):(ňe).Ok:=
 {ok.mod,ok.kind,ok.glob,ok.blt,ok.above,ok.inj,ok.has,ok.Ua,ok.hd,íp,ok.J4,ok.Qz,ok.bs,ok.ZI,ok.Ud,ok.Ub,ok.jR,ok.XF}
def Cx.Ok.XI{X:Cx}{E:Value->Í->È}(ok:(ňe).Ok):X.Ok:=
 {ok.mod,ok.kind,ok.glob,ok.blt,ok.above,ok.inj,ok.has,ok.Ua,ok.hd,íp,ok.J4,ok.Qz,ok.bs,ok.ZI,ok.Ud,ok.Ub,ok.jR,ok.XF}
section
variable{X:Cx}{zA:Á õ}{σ:St}{H:Hp}{s:Í}{E:Value->Í->È}
theorem Inv.ZJ(I:Inv X zA σ H s)(E:Value->Í->È):Inv ňe zA σ H s:={I.ok.ZJ E,Óc,ϑa,Ŷe,Ėa,Ľa,ϐa,Ĵb,ńa,Ě,Āb}
theorem Inv.XI(I:Inv ňe zA σ H s):Inv X zA σ H s:={I.ok.XI,Óc,ϑa,Ŷe,Ėa,Ľa,ϐa,Ĵb,ńa,Ě,Āb}
theorem SP.XI{D:u_}{f:Flow}{s':Í}(h:SP ňe zA D f s'):SP X zA D f s':=by
 cases f with
 |next=>let{σ',a,I,q}:=h;show{σ',a,I.XI,q}
 |brk=>let{σ',a,I,q}:=h;show{σ',a,I.XI,q}
 |Ðc=>let{σ',a,I,q}:=h;show{σ',a,I.XI,q}
 |ret u=>let{v,σ',a,I,r,q}:=h;show{v,σ',a,I.XI,r,q}
theorem uk.qb{st:Á Ü}{t:TS}(h:uk X.qb st t):uk X st t:=λzA s σ H D I a=>
 ĳa (h zA s σ H D (I.ZJ _) a) (λ_ _ q=>q.XI) λ_ _ z=>ğa z
#print a
section
variable{X:Cx}{st:Ü}{z_:Á Ü}{t u:TS}{e:Ö}{te:TE}{pos:Pos}
nonrec def x5m:TS:=λD σ H=>Ëb σ H
nonrec def x5v(t u:TS):TS:=λD σ H=>t { D with nx:=u D } σ H
def nS:uk X [] x5m:=λ_ _ σ H _ I h=>åf {σ,H,I,h}
def OE(d:PS X st t)(e:uk X z_ u):uk X (st::z_) (x5v t u):=by
 intro a s σ H D I h;show ŷm (zx (d a s σ H { D with nx:=u D } I h) λf c q=>?_);cases f with
 |next=>let{σ',b,g,q}:=q;show e a c σ' b D g q
 |ret v=>show q|brk=>show q|Ðc=>show q
def NK(a:PS X st t):uk X [st] t:=by
 rw[Ũq];show ŷm (zx (a b s σ H D I h) λf c q=>?_);cases f with
 |next=>show åf q|ret v=>show q|brk=>show q|Ðc=>show q
def Inv.quiet{a:Á õ}{σ:St}{H:Hp}{s:Í}(I:Inv X a σ H s):čo Û=Ã:=by simp[čo,ğb]
nonrec def z05(te:TE):TS:=λD σ H=>te σ H λ_ a=>Ëb σ a
def nN(f:PE X e te)(i:Î Õl q12):PS X êi (z05 te):=by intro d s σ H D I h;show wpAny_Expr_any (zx (f d s σ H _ I h) λv j a=>?_) I.quiet i;let{x,b,c,k,g}:=a;show{σ,b,c,g}
nonrec def x5t(te:TE):TS:=λD σ H=>te σ H D.rt
def OD(g:PE X e te):PS X íf (x5t te):=by rw[Ŧq];show wpAny_Return_some (zx (g f s σ H _ I h) λv j a=>?_);let{x,b,d,c,i}:=a;show{x,σ,b,d,c,i}
nonrec def x5i(c:TT)(t u:TS):TS:=λD σ H=>c σ H λb a=>if b=Ä then t D σ a else u D σ a
def nO{c:Ö}{a b:Á Ü}{k:TT}(m:PT X c k)(o:uk X a t)(n:uk X b u):PS X (.If c a b pos) (x5i k t u):=by
 intro e s σ H D I h;show wpAny_If (zx (m e s σ H _ I h) λd g f=>?_);let{i,j,l}:=f;cases d with
 |Ä=>show o e g σ i D j l|Ã=>show n e g σ i D j l
nonrec def x5l:TS:=λ_ _ _=>Ā
def y9v{a:Á Ü}:uk X a x5l:=λ_ _ _ _ _ _ h=>ϥc
#print a
abbrev TG:=V->St->Hp->ϓn->È
abbrev ZS:=Á V->St->Hp->ϓn->È
def PG(X:Cx)(a:Ö)(t:TG):È:=
 ∀(zA:Á õ) (s:Í) (σ:St) (H:Hp) (v:V) (u:Value) (Q:St->Hp->È),Inv X zA σ H s->yB v u->t v σ H Q->
  Ù Ą X.A (Äc a Û u) (λ_ b=>∃σ' H',Inv X zA σ' H' b/\Q σ' H') į s
def Jg(X:Cx)(ts:Á Ö)(t:ZS):È:=
 ∀(zA:Á õ) (s:Í) (σ:St) (H:Hp) (vs:Á V) (us:Á Value) (Q:St->Hp->È),Inv X zA σ H s->zo vs us->t vs σ H Q->
  Ù Ą X.A (assignInOrder ((øe ts Û).map (·.2)) us) (λ_ a=>∃σ' H',Inv X zA σ' H' a/\Q σ' H') į s
abbrev Lq:=V->V->V->Hp->όp->È
def C8(X:Cx)(t:Lq):È:=
 ∀(zA:Á õ) (s:Í) (σ:St) (H:Hp) (o i v:V) (ov iv u:Value) (Q:Hp->È),Inv X zA σ H s->yB o ov->yB i iv->yB v u->t o i v H Q->
  Ù Ą X.A (ņj ov iv u) (λ_ a=>∃H',Inv X zA σ H' a/\Q H') į s
abbrev Jk:=V->V->Hp->VK->È
def Lo(X:Cx)(a:Ŀd)(t:Jk):È:=
 ∀(zA:Á õ) (s:Í) (σ:St) (H:Hp) (x y:V) (v u:Value) (Q:VK),Inv X zA σ H s->yB x v->yB y u->t x y H Q->
  Ù Ą X.A (Ϡi a v u) ňb į s
section
variable{X:Cx}{pos:Pos}
nonrec def uo(i:Â):TG:=λv σ H Q=>Q ċc H
def y94{i:Â}{x:Ç}(b:éa)(hi:X.N[i]?=À x)(c:qN Ϲ x)(a:Î ũa q7):PG X ôa Űb:=by intro e s σ H v u Q I r h;show Ļm (S8 I b hi c r (λf d=>{_,H,d,h}) a)
nonrec def VN:ZS:=λa σ H Q=>a=[]/\Q σ H
nonrec def gH(t:TG)(u:ZS):ZS:=λb σ H Q=>∃v r,b=v::r/\t v σ H λσ' a=>u r σ' a Q
def y98:Jg X [] VN:=by intro a s σ H b c Q I r h;let{e,h}:=h;subst e;cases r;show assignInOrder_nil {σ,H,I,h}
def y97{e:Ö}{es:Á Ö}{t:TG}{u:ZS}(g:PG X e t)(d:Jg X es u)(k:Î ((ťn).map (·.2)=Äc e Û::(ϡd).map (·.2)) q12):Jg X ĕ (gH t u):=by
 intro b s σ H l m Q I r h;let{v,n,e1,h}:=h;subst e1;cases r with
 |ð r rr=>rw[k];show assignInOrder_cons (zx (g b s σ H _ _ _ I r h) λ_ c a=>?_);let{σ1,j,i,f}:=a;show d b c σ1 j _ _ Q i rr f
nonrec def VO(K:Ô)(n:Â)(t:ZS):TG:=λv σ H Q=>∃a xs,v=.ref a/\xP K H a xs/\ë=n/\t xs σ H Q
def y96{es:Á Ö}{k:Â}{t:ZS}{n:Â}(p:ŵ=Ä)(h:Jg X es t)(x:Î Ϭm q12)(c:Î ((ϡd).findIdx? (·.1)=Å) q12):PG X Ŭm æo:=by
 intro f s σ H v u Q I r d;let{a,i,e1,l,m,d}:=d;subst e1;cases r;let{z,g,w,A}:=Þa l;refine assign_Tuple_tuple (ýa p) w (by simp[x,<-m,Ĥb]) c λj q=>?_
 let y:Inv X f σ H { s with ç:=j }:=ŭd (t':=ē) λb o e=>q b o ōp e
 show h f _ σ H i _ Q y (by rw[ųq]) d
nonrec def fS(d a:TE)(t:Lq):TG:=λv σ H Q=>d σ H λo c=>a σ c λi b=>t o i v b λe=>Q σ e
def y95{o i:Ö}{d c:TE}{t:Lq}(n:PE X o d)(hi:PE X i c)(E:C8 X t)(l:∀v,Äc ĝh Û v=(do
   let ov <-holding [v] Ļi
   let iv <-holding [v,ov] (Ĥ i Û)
   standAt pos
   holding Ęp (ņj ov iv v)
   release Ęp []):=by intro _;rfl):PG X ĝh (fS d c t):=by
 intro b s σ H v u Q I r h;rw[l];show Ó (ϝa (zx (n b s σ H _ I h) λov e a=>?_));let{x,C,w,q,m}:=a;show Ó (ϝa (zx (hi b e σ C _ w m) λiv g a=>?_));let{y,z,j,f,A}:=a;show Ó (ğh (Ó (ϝa (zx (E b g σ z x y v ov iv u _ j q f r A) λ_ F a=>?_))));let{p,k,B}:=a;show wpAny_release {σ,p,k,B}
nonrec def Bw(b:TE)(g:TG):TS:=λD σ H=>b σ H λx a=>g x σ a Ëb
def nJ{tg e:Ö}{c:TE}{g:TG}(m:PE X e c)(l:PG X tg g)(p:Î (Íi [tg] e Įd Û=pure Ã) q12)(n:Î (Îi [tg] e Û=pure Å) q12)(i:Î ((øe [tg] Û).map (·.2)=[Äc tg Û]) q12):PS X (.Assign [tg] e pos) (Bw c g):=by rw[Ũq];show wpAny_Assign_stores (zx (m b s σ H _ I h) λv d a=>?_) p n;let{x,o,k,j,f}:=a;rw[i];show zx (l b d σ o x v _ k j f) λ_ r q=>q
def nP{i:Â}{x:Ç}{e:Ö}{b:TE}{ϓ:Pos}(d:éa)(hi:X.N[i]?=À x)(m:qN Ϲ x)(n:PE X e b)(p:Î ώg q12)(c:Î ũa q7) :PS X ļc (Bw b Űb):=by rw[Ŧq];show wpAny_Assign_Name (zx ġm λv q a=>?_) p;let{y,o,l,k,j}:=a;show S8 l d hi m k (λr g=>{_,o,g,j}) c
nonrec def x5b(i:Â)(d:TE)(a:Jk):TS:=λD σ H=>∃x,σ[i]?=À (À x)/\d σ H λy b=>a x y b λz c=>Ëb (Ν (À z)) c
def nK{i:Â}{x:Ç}{e:Ö}{p:TE}{j:Ŀd}{o:Jk}{ϓ:Pos}(P:éa)(hi:X.N[i]?=À x)(n:qN Ϲ x)(G:PE X e p)(F:Lo X j o)(t:Î ũa q7) :PS X (.AugAssign Ìe j e pos) (x5b i p o):=by
 rw[Ŧq];let{v,e1,h}:=h;let{m,J,S}:=Ėa;let g:g_ Ϲ x:=by rcases n with k|k;show .inl k;show .inr (.inl k)
 let{u,r,l}:=S i x v hi e1 g;show wpAny_AugAssign_Name ?_
 let q:Ù Ą X.A ïe (λw Y=>Ù Ą X.A (Ϡi j u w) (λr W=>Ù Ą X.A (storeName Û x r) (λ_=>SP X f D .next) į W) į Y) į s:=by
  show zx (G f s σ H _ I h) λw O b=>?_
  let{y,K,L,U,R}:=b;show zx (F f O σ K v y u w _ L r U R) λz s2 b=>?_
  let{zv,Z,C,B,q2}:=b;show S8 C P hi n B (λs3 E=>{_,Z,E,q2}) t
 rcases l with⟨a,Q⟩|⟨a,c,T,d⟩;show ϋl ğb a J Q q;rcases a with a|a;show Àm ğb a T d q;rcases n with k|k;rw[ħq];rw[ħq]
nonrec def iI(f:Æ->Æ->Æ):Jk:=λx y H Q=>∃i j,x=.int i/\y=.int j/\Q (Ζ (f i j)) H
def KE:Lo X .Add Ûn:=by intro c s σ H x y v u Q I b a h;let{i,j,e1,e2,q}:=h;subst e1;subst e2;let{t,rfl}:=b;let{d,rfl}:=a;show iadd_int {.int _,H,Òa _,{_,rfl},q}
#print a
section
variable{X:Cx}{pos:Pos}
nonrec def x61(c:TT)(d:TS):TS:=λD σ H=>∃W:Â->St->Hp->È,(∃m,W m σ H)/\∀m σ H,W m σ H->
 c σ H λb a=>if b=Ä then ∃N:St->Hp->È,(∀σ' H',N σ' H'->∃m',m'<m/\W m' σ' H')/\d { D with nx:=N,ct:=N,bk:=Ëb } σ a else Ëb σ a
def nR{c:Ö}{a:Á Ü}{t:TT}{z:TS}(u:Ϧb Ą X.A Û į)(O:PT X c t)(K:uk X a z):PS X (.While c a [] pos) (x61 t z):=by
 intro j s σ H D I h;let{W,{L,P},d}:=h;show wpAny_While (codeAny_whileLoop (λn E=>∃σ' H',Inv X j σ' H' E/\W n σ' H') ?_ L {σ,H,I,P});rintro n J ⟨σ1,x,F,G⟩;show Łc u (zx (O j J σ1 x _ F (d n σ1 x G)) λb C l=>?_);let{B,r,i}:=l;cases b with
 |Ä=>
  let{N,y,i}:=i;rw[Ï rfl];show Łc u (zx (K j C σ1 B _ r i) λf Q g=>?_);cases f with
  |next=>let{σ3,e,k,q}:=g;let{p,o,m}:=y σ3 e q;show{p,o,σ3,e,k,m}
  |Ðc=>let{σ3,e,k,q}:=g;let{p,o,m}:=y σ3 e q;show{p,o,σ3,e,k,m}
  |brk=>show g|ret v=>show g
 |Ã=>rw[Ñ ġ];show åf {σ1,B,r,i}
#print a
structure It where
 go:Â->Hp->È
 tW:Â->Hp->V->Hp->È
 Ϡ:Â->Hp->È
def g7(X:Cx)(a:Á õ)(H:Hp)(b:Ë):È:=
 H b=Å/\b≠Ϻ/\b ∉ Ŧa/\Ćf/\(∀x c,įa x=À c->c≠b)/\∀p∈Ñc++a,p.1≠b
def Inv.Wb{X:Cx}{d:Á õ}{σ:St}{H H':Hp}{s:Í}{b:Ë}(I:Inv X d σ H s)(a:Ý<=b)(g:H' b=Å):g7 X d H' b:=by show{g,Ŏa (Ū I.lt a),I.bD a,.inr (ÿ I.sz a),λx c e z=>?_,λp f z=>?_};let{v,q}:=Ľa x c e;show Þ (Ū q.lt ţm) Ēa;show Þ (Ū (ĥ (ńa p f).1) ţm) Ēa
structure YF(P:ï)(w:æ)(K:Ô)(tg:Ö)(J:It)(fp:Á Ë)(it:Ë)(tn:Â->Heap->È):È where
 mem:it∈fp
 obj:∀i h,tn i h->∀b∈fp,∃o,Ğ b=À o/\∀v,ϸ≠.cell v
 ťa:∀i h h',tn i h->(∀b∈fp,∀o,Ğ b=À o->ċ b=À o)->tn i h'
 Ăb:∀(X:Cx),ö=P->X.w=w->X.K=K->ŵ=Ä->∀(i:Â)(zA:Á õ) (s:Í) (σ:St) (H:Hp) (E:Value->Í->È),Inv X zA σ H s->(∀b∈fp,g7 X zA H b)->tn i â->J.go i H->
  Ù Ŗb X.A Ĩp (λr s1=>∃u,r=À u/\
   Ù Ŗb X.A ĕn (λ_ s2=>∃x H',Inv X zA σ H' s2/\yB x u/\J.tW i H x H'/\tn î s2.heap/\∀b∈fp,H' b=Å) E s1) E s
 done:∀(X:Cx),ö=P->X.w=w->X.K=K->ŵ=Ä->∀(i:Â)(zA:Á õ) (s:Í) (σ:St) (H:Hp) (E:Value->Í->È),Inv X zA σ H s->(∀b∈fp,g7 X zA H b)->tn i â->ŏg i H->
  Ù Ŗb X.A Ĩp (λr s1=>r=Å/\Inv X zA σ H s1) E s
 Ëc:∀(A:ù)(i:Â)(s:Í)(Q:Value->Í->È)(E:Value->Í->È),tn i â->Q âb s->Ù Ŗb A (ťd âb) Q E s
abbrev TI:=St->Hp->(It->Hp->È)->È
def C7(X:Cx)(d:Á õ)(σ:St)(tg:Ö)(R:It->Hp->È)(a:Value)(c:Í):È:=
 ∃(it:Ë) (fp:Á Ë) (tn:Â->Heap->È) (J:It) (H':Hp),a=.ref it/\Inv X d σ H' c/\YF ö X.w X.K tg J fp it tn/\tn 0 ϡj/\(∀b∈fp,g7 X d H' b)/\R J H'
def PI(X:Cx)(tg a:Ö)(c:TI):È:=
 ∀(zA:Á õ) (s:Í) (σ:St) (H:Hp) (R:It->Hp->È),Inv X zA σ H s->c σ H R->
  Ù Ą X.A Ļo (λv b=>Ù Ą X.A (ťd v) (C7 X zA σ tg R) į b) į s
def IU{M:Źd}{A:ù}{E:Value→Í→È}{s:Í}{tg:Ö}{it:Ë}{u:Value}{o:Obj}{n:ìa}{vs:Ú Value}{Q:ïa→Í→È}(e:ø it=À o)(b:Åb=.type n)(d:ϸ=.fields vs)(c:[ϙb,ŀa,Ϸl,ól,ům,Ĩl,ϊl].contains n=Ã)(a:Q () s):Ù M A ĕn Q E s:=by
  unfold øf
  cases tg<;>first
    |show ó a
    | (cases u<;>first
        |show ó a
        | (show Ó (Şi e ?_)
           rw[b,d];exact Ù M A (Τa ([ϙb,ŀa,Ϸl,ól,ům,Ĩl,ϊl].contains n&&vs[0]?==À (ϑ _))) Q E s;rw[Ñ (by intro h;rw[c,İf]at h;cases h)];show ó a))
nonrec def C2(K:Ô)(a:Ë):It:=
 {λi H=>∃xs x,ya K H a xs/\xs[i]?=À x,λi H x b=>b=H/\∀xs,ya K H a xs->xs[i]?=À x,λi H=>∃xs,ya K H a xs/\ë<=i}
nonrec def C3(K:Ô)(a:Ë):It:=
 {λi H=>∃xs x,xP K H a xs/\xs[i]?=À x,λi H x b=>b=H/\∀xs,xP K H a xs->xs[i]?=À x,λi H=>∃xs,xP K H a xs/\ë<=i}
nonrec def Lk(lo:Æ)(n:Â):It:={λi _=>i<n,λi H x a=>a=H/\x=.int Ϻa,λi _=>n<=i}
def x7j{P:ï}{w:æ}{K:Ô}{tg:Ö}(a it:Ë):YF P w K tg Ĩj [it] it (λi h=>ÿi it a i) where
 mem:=by simp
 obj:=λi h st b f=>by
  let e:b=it:=by simpa using f
  rw[ϰp]
 ťa:=λi h l st k=>st.at λo e=>k it ô o e
 Ăb:=by
  rw[ĝq];let{U,x,m,r}:=L;let{C,t,p,R}:=Ϛ m;let{u,Q,Y}:=t.get r;let{F,G,S,y,J,q}:=j it ô;refine Êh st Ýg (x:=u) ħm λl g sb=>?_
  let T:Inv X N σ H { s with ç:=l }:=ïb (t':=ē) (λb o f e=>(sb.2 b f).trans e) F G y J q;let{o,e,c,d}:=id g;show{u,rfl,IU (s:={ s with ç:=l }) e c d Ò {x,H,T,Y,{rfl,λys Z=>by rw[I.LZ Z m];show r},g,λb f=>(j b f).1}}
 done:=by rw[ĝq];let{U,m,r}:=L;let{C,t,p,R}:=Ϛ m;let{F,G,S,y,J,q}:=j it ô;let hl:=Šb;show Ðh (ýa O) st Ýg Ûe λl eb=>{rfl,ïb (t':=ē) (λb o f e=>eb b o f e) F G y J q}
 Ëc:=λ_ _ _ _ _ st h=>wpAny_pyIter_listiter st h
def x7m{P:ï}{w:æ}{K:Ô}{tg:Ö}(a it:Ë):YF P w K tg ħj [it] it (λi h=>Ŏn it a i) where
 mem:=by simp
 obj:=λi h st b g=>by
  let e:b=it:=by rw[ųq]
  rw[ϰp]
 ťa:=λi h m st k=>st.at λo e=>k it ô o e
 Ăb:=by
  rw[Ĝq];let{U,x,n,t}:=L;let{f,y,p,R}:=Þa n;let{u,Q,Y}:=y.get t;let{F,G,S,A,J,r}:=l it ô;refine wpAny_pyNext_tuple_item st (show Ąd a Ũf from p) (x:=u) ħm λm j sb=>?_
  let T:Inv X N σ H { s with ç:=m }:=ïb (t':=ē) (ςd (sb.2 b g)) F G A J r;let{o,e,c,d}:=id j;show{u,rfl,IU (s:={ s with ç:=m }) e c d Ò {x,H,T,Y,{rfl,λys Z=>by rw[I.FU Z n];show t},j,λb g=>(l b g).1}}
 done:=by rw[Ĝq];let{U,n,t}:=L;let{f,y,p,R}:=Þa n;let{F,G,S,A,J,r}:=l it ô;let hl:=īe;show wpAny_pyNext_tuple_end (ýa O) st (show Ąd a Ũf from p) Ûe λm eb=>{rfl,ïb (t':=ē) (λb o g e=>eb b o g e) F G A J r}
 Ëc:=λ_ _ _ _ _ st h=>wpAny_pyIter_tupleiter st h
def x7k{P:ï}{w:æ}{K:ąi}{tg:Ö}(it:Ë)(lo:Æ)(n:Â):YF P w K tg ϊp [it] it (λi h=>ĝo h it (lo+(i:Â)*1) ((n:Æ)-(i:Â)) 1) where
 mem:=by simp
 obj:=λi h st b a=>by
  let e:b=it:=by simpa using a
  subst e
  show{_,st,λv z=>by let N:Data.fields _=Data.cell v:=z;cases N}
 ťa:=λi h f st k=>k it ô _ st
 Ăb:=by
  rw[Îq];let W:=Walks.range (ă:=ö) (w:=X.w) (ýa x) it lo 1 n;show W.item i s _ _ y st λv f B G c J=>?_
  let{t,rfl}:=G;let F:Inv X A σ H { s with ç:=f,Ĕ:=B }:=ïb (λb o a e=>J b o Ņh e) q r l u j;refine{_,rfl,IU (s:={ s with ç:=f,Ĕ:=B }) (n := "range_iterator") c rfl rfl Ò {.int Ϻa,H,F,{t,?_},{rfl,rfl},c,λb a=>(d b a).1}};rw[ğo]
 done:=by rw[Îq];show wpAny_pyNext_range_end (ýa x) st (by let:n<=i:=y;omega) λf L=>{rfl,ïb (t':=ē) (λb o a e=>L b o a e) q r l u j}
 Ëc:=λ_ _ _ _ _ st h=>wpAny_pyIter_rangeiter st h
section
variable{X:Cx}{tg:Ö}
def z9r(K:Ô)(c:TE):TI:=λσ H R=>c σ H λx b=>∃a,x=.ref a/\(∃xs,ya K b a xs)/\R Ĩj b
def z9u(K:Ô)(c:TE):TI:=λσ H R=>c σ H λx b=>∃a,x=.ref a/\(∃xs,xP K b a xs)/\R ħj b
def y9b{l:Ö}{g:TE}(n:PE X l g):PI X tg l (z9r X.K g):=by
 intro j s σ H R I h;show zx (n j s σ H _ I h) λv c f=>?_
 let{x,t,d,r,m}:=f;let{a,e,{w,k},q}:=m;subst e;cases r;let{u,y,p,z}:=d.list k;show Öd Ýg ?_;show{õd,[õd],_,_,t,rfl,Ϟj (t':=c.toks) λb o e=>ě _ e,x7j a _,{_,ŷ _ rfl,rfl,rfl},λb i=>?_,q};let e:b=õd:=by simpa using i
 subst e;show d.Wb Ē Įp
def n8{l:Ö}{i:TE}(r:PE X l i):PI X tg l (z9u X.K i):=by
 intro k s σ H R I h;show zx (r k s σ H _ I h) λv c g=>?_
 let{x,u,d,t,n}:=g;let{a,e,{w,m},q}:=n;subst e;cases t;let{f,y,p,z}:=d.tuple m;show åh (show c.heap.IsTuple a Ũf from p) ?_;show{õd,[õd],_,_,u,rfl,Ϟj (t':=c.toks) λb o e=>ě _ e,x7m a _,{_,ŷ _ rfl,rfl,rfl},λb j=>?_,q};let e:b=õd:=by simpa using j
 subst e;show d.Wb Ē Įp
def x14{a:Á õ}{σ:St}{H:Hp}{s:Í}{R:It->Hp->È}{E:Value->Í->È}{lo hi:Æ}{t u v:Tok}{tk:Â}(I:Inv X a σ H s)(d : -Īj<=lo)(i:lo<2 ^ 62)(h : -Īj<=hi)(f:hi<2 ^ 62)(q:R (Lk lo (ķg).toNat) H):Ù Ą X.A (ťd Ġa) (C7 X a σ tg R) E { s with ç:=Ùa { cls:=.type Şa,ć:=.fields #[.int lo t,.int hi u,.int 1 v] },Ĕ:=tk }:=by
 show wpAny_pyIter_range (Ğo ..) (small_one d i h f) ?_;let c:Inv X a σ H { s with ç:=Ùa { cls:=.type Şa,ć:=.fields #[.int lo t,.int hi u,.int 1 v] },Ĕ:=tk }:=ŭd λb o e=>ě _ e
 refine⟨(žg).objs.size,[(žg).objs.size],_,_,H,rfl,
  c.kept (t':=tk) λb o e=>ě _ e,x7k _ lo (ķg).toNat,?_,λb g=>?_,q⟩
 let e1:lo+((0:Â):Æ)*1=lo:=by simp
 let e2:(((ķg).toNat:Â):Æ)-((0:Â):Æ)=ßf lo hi 1:=by rw[rangeSize_one];split<;>omega
 exact ĝo _ _ (lo+((0:Â):Æ)*1) ((((ķg).toNat:Â):Æ)-((0:Â):Æ)) 1;rw[e1,e2];show ŷ _ rfl;let e:b=(žg).objs.size:=by rw[ųq]
 subst e;show c.Wb Ē (c.zi.fresh Ē)
def z9s(a:TA):TI:=λσ H R=>a σ H λc b=>∃j:Æ,c=[.int j] /\ -Īj<=j/\j<2 ^ 62/\R (Lk 0 Âa) b
def y9c{a:Ö}{d:TA}{p pos:Pos}(m:Gl X Şa)(g:ñ Şa=Å)(o:PA X [a] d)(n:Î ϥk q12):PI X tg Èm (z9s d):=by
 intro f s σ H R I h;show Call_ (Th I m g żo (Êf (zx (o pos f s σ H _ I h) λw u c=>?_) n rfl));let{v,x,k,i,b}:=c;let{j,e,b,l,q}:=b;subst e;cases i with
 |ð r rr=>cases rr;let{t,rfl}:=r;show Ϥn (x14 k Ê Ê b l Ĥm)
nonrec def x5g(a:TI)(g:TG)(c:TS):TS:=λD σ H=>a σ H λJ b=>∃W:Â->Â->St->Hp->È,(∃m,W 0 m σ b)/\∀i m σ H,W i m σ H->
 (ŏg i H/\Ëb σ H)\/(J.go i H/\∃N:St->Hp->È,(∀σ' H',N σ' H'->∃m',m'<m/\W î m' σ' H')/\∀x H',J.tW i H x H'->g x σ H' λσ2 d=>c { D with nx:=N,ct:=N,bk:=Ëb } σ2 d)
nonrec def OC(a:Á Ë)(h:Heap):Á õ:=a.filterMap λb=>(Ğ b).map λo=>(b,o)
def B1{a:Á Ë}{h:Heap}{b:Ë}{o:Obj}(c:b∈a)(e:Ğ b=À o):(b,o)∈OC a h:=List.mem_filterMap.mpr {b,c,by rw[e];rfl}
def y4x{a:Á Ë}{h:Heap}{p:Ë×Obj}(d:p∈OC a h):p.1∈a/\Ğ p.1=À p.2:=by
 let{b,c,e}:=Ŝl d;cases q:Ğ b with
 |Å=>rw[q]at e;cases e|À o=>rw[q]at e;let f:(b,o)=p:=Ça e;subst f;show{c,q}
def Inv.pinned{a:Á õ}{σ:St}{H:Hp}{s:Í}{c:Á Ë}(I:Inv X a σ H s)(i:∀b∈c,g7 X a H b)(m:∀b∈c,∃o,ø b=À o/\∀v,ϸ≠.cell v):Inv X (a++OC c â) σ H s:=
 I.J3 λp l=>(Ÿ l).elim (λz=>ńa p ŏp) λz=>by let{f,e}:=y4x z;let{h,k,j,_}:=i p.1 f;let{o,g,d}:=m p.1 f;rw[e]at g;cases g;show{e,h,k,j,d}
def Inv.FV{a pl:Á õ}{σ:St}{H:Hp}{s:Í}(I:Inv X (a++pl) σ H s):Inv X a σ H s:=I.J3 λp b=>ńa p (ĩa _ (żb _ b))
def BL{c:Ö}{y:Á Ü}{wi:TI}{g:TG}{tb:TS}{pos:Pos}(E:Ϧb Ą X.A Û į)(hc:ŵ=Ä)(hi:PI X tg c wi)(hg:PG X tg g)(p:uk X y tb)(hs:Î (∀x,Ób c Û x=pure x) q11):PS X (.For tg c y [] pos) (x5g wi g tb):=by
 intro z s σ H D I h;show wpAny_For (zx (hi z s σ H _ I h) λv s1 h1=>zx h1 λitv s2 h2=>?_) hs;let{it,L,tn,J,H2,e,I2,T,U,f2,W,{m0,w0},G}:=h2;subst e;let l:∀{H':Hp},(∀b∈L,H' b=Å)->∀b∈L,g7 X z H' b:=λhn b p=>{hn b p,(f2 b p).2}
 show codeAny_forLoop_any (λn s'=>∃i σ' H',Inv X z σ' H' s'/\tn i Ϙc/\(∀b∈L,H' b=Å)/\W i n σ' H') ?_ m0 {0,σ,H2,I2,U,λb p=>(f2 b p).1,w0};rintro n s3 ⟨i,σ3,Q,I3,O,F,w3⟩;rcases G i n σ3 Q w3 with⟨C,qn⟩|⟨go,N,hN,K⟩;show Łc E (Βe (ϥj X rfl rfl rfl hc i z s3 σ3 Q į I3 (l F) O C));let{Y,I4}:=a;subst Y;show åf {σ3,Q,I4,qn}
 .show Łc E (Βe (T.item X rfl rfl rfl hc i z s3 σ3 Q į I3 (l F) O go));let{u,Y,h4}:=a;subst Y;show Łc E (zx h4 λ_ s5 a=>?_);let{x,H5,I5,r5,y5,B,S}:=a;let R:=I5.pinned (l S) (Ϝe _ _ B);show Łc E (zx (hg _ s5 σ3 H5 x u _ R r5 (K x H5 y5)) λ_ s6 a=>?_);let{σ6,H6,I6,q6}:=a;show Łc E (zx (p _ s6 σ6 H6 _ I6 q6) λf Z t=>?_)
  let j:∀{σ7:St}{q:Hp},Inv X (z++OC L s5.heap) σ7 q Z->N σ7 q->∃m,m<n/\∃i σ' H',Inv X z σ' H' Z/\tn i Z.heap/\(∀b∈L,H' b=Å)/\W i m σ' H':=λ{σ7 q} k P=>by let{m',hm,w7}:=hN σ7 q P;show{m',hm,i+1,σ7,q,k.FV,Ūd _ _ _ B λb p o e=>Ũk.1,λb p=>?_,w7};let{o,e,d}:=Ϝe _ _ B b p;show Ũk.2.1
  cases f with
  |next=>let{σ7,q,k,P}:=t;show j k P
  |Ðc=>let{σ7,q,k,P}:=t;show j k P
  |brk=>let{σ7,q,k,t}:=t;show{σ7,q,k.FV,t}
  |ret v=>let{x7,σ7,q,k,r7,t}:=t;show{x7,σ7,q,k.FV,r7,t}
#print a
abbrev R2:=V->V->Hp->VK->È
def xD(X:Cx)(f:Value->Value->Sem Value)(r:R2):È:=
 ∀(zA:Á õ) (s:Í) (σ:St) (H:Hp) (x y:V) (v u:Value) (Q:VK),Inv X zA σ H s->yB x v->yB y u->r x y H Q->
  Ù Ą X.A żj ňb į s
def Jl(X:Cx)(f:Value->Sem Value)(r:V->Hp->VK->È):È:=
 ∀(zA:Á õ) (s:Í) (σ:St) (H:Hp) (x:V) (v:Value) (Q:VK),Inv X zA σ H s->yB x v->r x H Q->
  Ù Ą X.A (f v) ňb į s
def vg(X:Cx)(f:Value)(r:Á V->Hp->VK->È):È:=
 ∀(zA:Á õ) (s:Í) (σ:St) (H:Hp) (xs:Á V) (us:Á Value) (Q:VK),Inv X zA σ H s->zo xs us->r xs H Q->
  Ù Ą X.A (ĳb f us) ňb į s
nonrec def D0(r:R2)(a c:TE):TE:=λσ H Q=>a σ H λx b=>c σ b λy d=>r x y d Q
nonrec def x60(r:V->Hp->VK->È)(a:TE):TE:=λσ H Q=>a σ H λx b=>r x b Q
nonrec def rI(C:Æ->Æ->È)(g:Æ->Æ->V):R2:=λx y H Q=>∃i j,x=.int i/\y=.int j/\C i j/\Q ϱa H
nonrec def pQ(g:Æ->Æ->V):R2:=λx y H Q=>∃i j,x=.int i/\y=.int j/\Q ϱa H
def rU(g:Æ->V):V->Hp->VK->È:=λx H Q=>∃i,x=.int i/\Q (g i) H
section
variable{X:Cx}{a b c:Ö}{ta tb:TE}{pos:Pos}
def Eo(p:PE X a ta)(i:PE X b tb){d:Á õ}{s:Í}{σ:St}{H:Hp}{R:V->V->Hp->È}(I:Inv X d σ H s)(h:ta σ H λx H1=>tb σ H1 λy H2=>R x y H2){Q:Value->Í->È}{f:Value->Value->Sem Value}(g:∀v u s2 x y H2,Inv X d σ H2 s2->yB x v->yB y u->R x y H2->Ù Ą X.A żj Q į s2) :Ù Ą X.A Ļo (λv s₁=>Ù Ą X.A (Ĥ b Û) (λu s₂=>Ù Ą X.A żj Q į s₂) į s₁) į s:=by
 show zx (p d s σ H _ I h) λv e c=>?_
 let{x,H1,o,m,l}:=c;show zx (i d e σ H1 _ o l) λu s2 c=>?_
 let{y,H2,k,j,n}:=c;show g v u s2 x y H2 k m j n
def N9{c:Ŀd}{r:R2}(j:xD X (ϧa c) r)(m:PE X a ta)(d:PE X b tb):PE X (.BinOp a c b pos) ţf:=by rw[ñq];show wpAny_BinOp (Eo m d I h λv u e x y k g i l q=>j f e σ k x y v u Q g i l q)
def y93{d:UnaryOp}{r:V->Hp->VK->È}(j:Jl X (Đg d) r)(l:PE X a ta):PE X (.UnaryOp d a pos) (x60 r ta):=by intro c s σ H Q I h;show UnaryOp_ (zx (l c s σ H _ I h) λv e b=>?_);let{x,f,i,g,k}:=b;show j c e σ f x v Q i g k
def Tt{f:Value->Value->Sem Value}{C:Æ->Æ->È}{g:Æ->Æ->Æ}(a:∀(i j:Æ)(t u:Tok)(s:Í)(Q:Value->Í->È)(E:Value->Í->È),C i j->Q ĺn { s with Ĕ:=ē+1 }->Ù Ą X.A ãh Q E s) :xD X f Ŋl:=by intro k s σ H x y v u Q I b d h;let{i,j,rfl,rfl,c,q}:=h;let{t,rfl}:=b;let{e,rfl}:=d;show a i j t e s _ _ c {.int ϱa,H,Òa _,{_,rfl},q}
def O8{f:Value->Value->Sem Value}{g:Æ->Æ->Æ}(a:∀(i j:Æ)(t u:Tok)(s:Í)(Q:Value->Í->È)(E:Value->Í->È),Q ĺn { s with Ĕ:=ē+1 }->Ù Ą X.A ãh Q E s) :xD X f Ĺp:=by rw[Æq];show a i j t d s _ _ {.int ϱa,H,Òa _,{_,rfl},q}
def B8{f:Value->Value->Sem Value}{g:Æ->Æ->Ð}(a:∀(i j:Æ)(t u:Tok)(s:Í)(Q:Value->Í->È)(E:Value->Í->È),Q (.bool ϱa) s->Ù Ą X.A ãh Q E s) :xD X f ám:=by rw[Æq];show a i j t d s _ _ {.bl ϱa,H,I,rfl,q}
def FW(i j:Æ):È:=0<=j/\j<=1000000/\ľd<2 ^ 64
def J6(i j:Æ):È:=(-Ăg<i/\i<2 ^ 64)\/(-Ăg<j/\j<2 ^ 64)
def J6.ok{i j:Æ}(h:J6 i j):IntMulOk i j:=by rcases h with⟨a,b⟩|⟨a,b⟩;show .of_left âm;show .of_right âm
def x7q(k:Â):(0:Æ)<=2 ^ k:=by rw[two_pow_cast];show ĸb _
def y7k:xD X ħd (Θa (i+j)):=O8 λ_ _ _ _ _ _ _ q=>Ãa q
def Zj:xD X (ϧa .Sub) ļo:=O8 λ_ _ _ _ _ _ _ q=>sub_int q
def BC:xD X ļi âh:=Tt λ_ _ _ _ _ _ _ a q=>mul_int q a.ok
def xX:xD X (ϧa .Mod) Ĝl:=Tt λi j _ _ _ _ _ a q=>by let b:(0:Æ)<j:=a;show mod_int' Ê (by rw[Int.fmod_eq_emod_of_nonneg i Ê];show q)
def kY:xD X (ϧa .LShift) Ϫk:=Tt λ_ _ _ _ _ _ _ a q=>lshift_int_small a.1 a.2.1 a.2.2 q
def mZ:xD X (ϧa .RShift) ϣk:=Tt λi j _ _ _ _ _ a q=>
 rshift_int a (by rw[ôl i (x7q _)];show q)
def O9:xD X (ϧa .BitAnd) (Θa (ıa i j)):=O8 λ_ _ _ _ _ _ _ q=>and_int q
def kX:xD X (ϧa .BitOr) (Θa (Ϟa i j)):=O8 λ_ _ _ _ _ _ _ q=>or_int q
def y81:xD X (ϧa .BitXor) (Θa (ϯh i j)):=O8 λ_ _ _ _ _ _ _ q=>xor_int q
def z0g{f:Value->Sem Value}{g:Æ->Æ}(a:∀(i:Æ)(t:Tok)(s:Í)(Q:Value->Í->È)(E:Value->Í->È),Q (.int (g i) ē) { s with Ĕ:=ē+1 }->Ù Ą X.A (f ϡf) Q E s) :Jl X f (Ηc (g i)):=by intro c s σ H x v Q I b h;let{i,rfl,q}:=h;let{t,rfl}:=b;show a i t s _ _ {.int (g i),H,Òa _,{_,rfl},q}
def QK:Jl X (Đg .USub) (Ηc (-i)):=z0g λ_ _ _ _ _ q=>neg_int q
def z0j:Jl X (Đg .Invert) (Ηc ŧj):=z0g λ_ _ _ _ _ q=>invert_int q
def y7l:xD X ħd (λx y H Q=>∃i k,x=.int i/\y=.bl k/\Q Èn H):=by rw[ϱp];let{i,k,rfl,rfl,q}:=h;let{t,rfl}:=a;cases b;show add_int_bool {.int (i+b2i k),H,Òa _,{_,rfl},q}
#print a
nonrec def Ro:V->V->Ð
 |.zO,.zO=>Ä|.zO,.int _=>Ä|.int _,.zO=>Ä|.zO,.bl _=>Ä|.bl _,.zO=>Ä|.zO,.str _=>Ä|.str _,.zO=>Ä|.int _,.int _=>Ä|.bl _,.bl _=>Ä|.str _,.str _=>Ä|.byt _,.byt _=>Ä|.int _,.str _=>Ä|.str _,.int _=>Ä|.bl _,.str _=>Ä|.str _,.bl _=>Ä|_,_=>Ã
def x0m:R2:=λx y H Q=>Ro x y=Ä/\Q (ι (x=y)) H
def x0r:R2:=λx y H Q=>Ro x y=Ä/\Q (ν (x=y)) H
def G9{i j:Æ}:decide (üb i=üb j)=ϋe:=by rw[řc];simp
def G8{i j:Ð}:decide (V.bl i=V.bl j)=ϋe:=by rw[řc];simp
def GA{i j:Ç}:decide (őg i=őg j)=ϋe:=by rw[řc];simp
def eJ{i j:Ú UInt8}:decide (V.byt i=V.byt j)=(i.toList==j.toList):=by rw[řc];cases i;cases j;simp
section
variable{X:Cx}{a b c:Ö}{ta tb:TE}{pos:Pos}
def wf{a:Á õ}{σ:St}{H:Hp}{s:Í}{Q:VK}{k b:Ð}(I:Inv X a σ H s)(q:Q Šd H)(e:k=b):EP X a σ Q Ùg s:=by subst e;show{.bl k,H,I,rfl,q}
def y7o:xD X Łp x0m:=by
 rw[Ĭq];cases x with
 |zO=>
  cases d;cases y with
  |zO=>cases a;show PySem.EqNone.eq_none_none Ëa|bl j=>cases a;show PySem.EqNone.eq_none_bool Ëa|int j=>let{b,rfl}:=a;show PySem.EqNone.eq_none_int Ëa
  |str j=>let{b,rfl}:=a;show PySem.EqNone.eq_none_str Ëa
  |_=>show Þ (show Ã=Ä from c) ġ
 |bl i=>
  cases d;cases y with
  |zO=>cases a;show PySem.EqNone.eq_bool_none Ëa|bl j=>cases a;show eq_bool (wf I q G8)|str j=>let{b,rfl}:=a;show PySem.EqMixed.eq_bool_str Ëa
  |_=>show Þ (show Ã=Ä from c) ġ
 |int i=>
  rw[İq];cases y with
  |zO=>cases a;show PySem.EqNone.eq_int_none Ëa|int j=>let{b,rfl}:=a;show Ϧc (wf I q G9)
  |str j=>let{b,rfl}:=a;show PySem.EqMixed.eq_int_str Ëa
  |_=>show Þ (show Ã=Ä from c) ġ
 |str i=>
  rw[İq];cases y with
  |zO=>cases a;show PySem.EqNone.eq_str_none Ëa|bl j=>cases a;show PySem.EqMixed.eq_str_bool Ëa|int j=>let{b,rfl}:=a;show PySem.EqMixed.eq_str_int Ëa
  |str j=>let{b,rfl}:=a;show eq_str (wf I q GA)
  |_=>show Þ (show Ã=Ä from c) ġ
 |byt i=>
  rw[İq];cases y with
  |byt j=>let{b,rfl}:=a;show W.eq_bytes (wf I q eJ)
  |_=>show Þ (show Ã=Ä from c) ġ
 |_=>cases y<;>show Þ (show Ã=Ä from c) ġ
def y7v:xD X ďi x0r:=by
 rw[Ĭq];cases x with
 |zO=>
  cases d;cases y with
  |zO=>cases a;show PySem.EqNone.ne_none_none Ëa|bl j=>cases a;show PySem.EqNone.ne_none_bool Ëa|int j=>let{b,rfl}:=a;show PySem.EqNone.ne_none_int Ëa
  |str j=>let{b,rfl}:=a;show PySem.EqNone.ne_none_str Ëa
  |_=>show Þ (show Ã=Ä from c) ġ
 |bl i=>
  cases d;cases y with
  |zO=>cases a;show PySem.EqNone.ne_bool_none Ëa|bl j=>cases a;show ne_bool (wf I q (ĳ not G8))|str j=>let{b,rfl}:=a;show PySem.EqMixed.ne_bool_str Ëa
  |_=>show Þ (show Ã=Ä from c) ġ
 |int i=>
  rw[İq];cases y with
  |zO=>cases a;show PySem.EqNone.ne_int_none Ëa|int j=>let{b,rfl}:=a;show ne_int (wf I q (ĳ not G9))
  |str j=>let{b,rfl}:=a;show PySem.EqMixed.ne_int_str Ëa
  |_=>show Þ (show Ã=Ä from c) ġ
 |str i=>
  rw[İq];cases y with
  |zO=>cases a;show PySem.EqNone.ne_str_none Ëa|bl j=>cases a;show PySem.EqMixed.ne_str_bool Ëa|int j=>let{b,rfl}:=a;show PySem.EqMixed.ne_str_int Ëa
  |str j=>let{b,rfl}:=a;show ne_str (wf I q (ĳ not GA))
  |_=>show Þ (show Ã=Ä from c) ġ
 |byt i=>
  rw[İq];cases y with
  |byt j=>let{b,rfl}:=a;show W.ne_bytes (wf I q (ĳ not eJ))
  |_=>show Þ (show Ã=Ä from c) ġ
 |_=>cases y<;>show Þ (show Ã=Ä from c) ġ
def Xy:xD X (ěa .Lt) (Γb (i<j)):=B8 λ_ _ _ _ _ _ _ q=>lt_int q
def y7t:xD X (ěa .LtE) (Γb (i<=j)):=B8 λ_ _ _ _ _ _ _ q=>le_int q
def mV:xD X (ěa .Gt) (Γb (j<i)):=B8 λ_ _ _ _ _ _ _ q=>gt_int q
def y7p:xD X (ěa .GtE) (Γb (j<=i)):=B8 λ_ _ _ _ _ _ _ q=>ge_int q
def y7s:xD X Ğe (νc àl):=by rw[úq];show in_str (wf I q rfl)
def B9:xD X (ěa .Is) Ìm:=by
 rw[ϱp];let{rfl,q}:=h;cases b;show is_none_gen ŕo
 cases x<;>first
  |(cases a;rfl)
  |(let{t,rfl}:=a;rfl)
def mW:xD X (ěa .IsNot) Ëm:=by
 rw[ϱp];let{rfl,q}:=h;cases b;show isnot_none_gen ŕo
 cases x<;>first
  |(cases a;rfl)
  |(let{t,rfl}:=a;rfl)
def xD.or{f:Value->Value->Sem Value}{r d:R2}(h:xD X f r)(h':xD X f d):xD X f (λx y H Q=>r x y H Q\/d x y H Q):=by intro a s σ H x y v u Q I c b q;rcases q with q|q;show h a s σ H x y v u Q I c b q;show h' a s σ H x y v u Q I c b q
def yJ(b:Ö){a:Ŷg}(h:Î (a≠.In) q10)(c:Î (a≠.NotIn) q10):ñc a b=Ã:=by
 let e1:(a==CmpOp.In)=Ã:=by cases a<;>first|rfl|show Þ rfl h
 let e2:(a==CmpOp.NotIn)=Ã:=by cases a<;>first|rfl|show Þ rfl c
 cases b<;>simp[ñc,e1,e2]
theorem y8o{c:Ŷg}{r:R2}(k:xD X (ěa c) r)(n:PE X a ta)(d:PE X b tb)(i:ñc c b=Ã):PE X (.Compare a [c] [b] pos) ţf:=by rw[ñq];show wpAny_Compare1 (Eo n d I h λv u e x y l g j m q=>k f e σ l x y v u Q g j m q) i
nonrec def x5y(t:TE):TT:=λσ H Q=>t σ H λx a=>∃k,x=.bl k/\Q k a
def NL{f:Ŷg}{r:R2}(p:xD X (ěa f) r)(N:PE X a ta)(B:PE X b tb)(C:ñc f b=Ã):PT X (.Compare a [f] [b] pos) (x5y ţf):=by
 rw[òq];show wpAny_isTrue_Compare1 (zx (N d s σ H _ I h) λv A j=>?_) C;let{x,t,w,G,E}:=j;show zx (B d A σ t _ w E) λu m g=>?_
 let{y,J,n,l,K}:=g;show zx (p d m σ J x y v u _ n G l K) λc O i=>?_
 let{z,L,o,F,k,e,q}:=i;subst e;cases F;show Ϟd {L,o,q}
def Ti:(ä:Â)<2 ^ 63:=by rw[ū];decide
def y7m:xD X ħd (λx y H Q=>∃i j,x=.str i/\y=.str j/\Ťb+ģa<=ä/\Q ϗn H):=by intro e s σ H x y v u Q I a b h;let{i,j,rfl,rfl,c,q}:=h;let{t,rfl}:=a;let{d,rfl}:=b;show Ŕe (λd f=>{.str (i++j),H,Òa _,{_,rfl},q}) c
def qG{x:V}{us:Á Value}(r:zo [x] us):∃u,us=[u]/\yB x u:=by
 cases r with
 |ð r1 r2=>cases r2;show{_,rfl,r1}
def Sf{x y:V}{us:Á Value}(r:zo Êc us):∃u w',us=[u,w']/\yB x u/\yB y w':=by
 cases r with
 |ð r1 r2=>
  cases r2 with
  |ð r3 r4=>cases r4;show{_,_,rfl,r1,r3}
#print a
structure V7(h:Heap)(x dx C:Ë)(mA:Ç->É Value):È where
 obj:Ğ x=À ϗo
 ns:Ũg dx mA
 ne:dx≠x
def y21{h:Heap}{f:Ë}{d:Ç->É Value}(n:Ũg f d):∃od,Ğ f=À od/\∀Ĳ,äg Ĳ od=À (d Ĳ):=by
 let{o,c,p,k,m,l,_,j}:=n;show{o,k,λname=>?_};let e:=j Ĳ;unfold nsFind findBy at e;rw[<-Array.find?_toList]at e;unfold äg;rw[m];rw[ϴp]
 split;rename_i y q;rw[q]at e;show ĳ À e;rename_i q;rw[q]at e
 let a:Ϧn (·.refKey)=Ã:=by rw[Ņm];intro y g;let{z,t,b}:=l y (Array.mem_toList_iff.mp g);simp[DictEntry.refKey,b]
 let i:¬ Ϧn (·.refKey)=Ä:=by rw[a];show ġ
 rw[Ñ i];show ĳ À e
def V7.look{h:Heap}{x a C:Ë}{b:Ç->É Value}(I:V7 h x a C b):∃od,W.InstAt h x (ĉf C a) C (À od)/\∀Ĳ,äg Ĳ od=À (b Ĳ):=
 let ⟨od,ho,hl⟩:=y21 I.ns
 {od,{I.obj,rfl,rfl,ho},hl}
section
variable{ă:ï}{w:æ}{A:ù}{E:Value->Í->È}{s:Í}{K:Ô}{x dx C f:Ë}{mA:Ç->É Value}{Ĳ:Ç}{v:Value}
def z73{a:Ð}{Q:Value->Í->È}(X:Ŷ â)(I:V7 â x dx C mA)(d:Ďe K C Ĳ=Ä)(c:ũf K C=Ä)(f:Śa K Ŧ Ĳ=À Å)(hv:mA Ĳ=À v)(b:όo v=Ä)(h:Q v { s with Ĕ:=ē+1 }) :Ù è A (Ŋj Ŋd Ĳ a) Q E s:=by let{g,J,e}:=ϫj;show W.get_value X J (Ôi d).1 (W.findObj_own c f rfl (by rw[e,hv])) b h
def z74{pl:Sem Ð}{Q:Value×Á Value->Í->È}(X:Ŷ â)(I:V7 â x dx C mA)(a:Ďe K C Ĳ=Ä)(b:Śa K Ŧ Ĳ=À ŕa)(c:ŵe K Ī=Ä)(hv:mA Ĳ=Å)(h:Q (.ref f,[.ref x]) s) :Ù è A (öp Ŋd Ĳ pl) Q E s:=by let{d,J,e}:=ϫj;show W.method_fn X J (Ôi a).1 (Ôi a).2 b (ļf c) (by exact(äg Ĳ d).map (·.isSome)=À Ã;rw[e,hv];rfl) h
def x3l{ns:Á Ç}{Q:ïa->Í->È}(X:Ŷ â)(I:V7 â x dx C mA)(t:Śa K Ŧ Ìi=À ϥg)(m:ıi K C=Ä)(p:ϫi K C Ĳ=À Å)(l:ũf K C=Ä)(q:Ąi mA ns)(hsz:ţ<=ä)(h:∀h',V7 h' x dx C (λy=>if y=Ĳ then À v else mA y)->űa dx â h'->Q () { s with ç:=h',Ĕ:=ē+2 }) :Ù è A (setAttr Ŋd Ĳ v) Q E s:=by
 let{F,J,z}:=ϫj;show W.set_plain X J t (W.osa_open (s:={ s with Ĕ:=ē+1 }) (r:=Å) X J m p λb=>?_);let{u,n,g}:=W.any_some l;let o:ø x=À {.ref C,À dx,.plain,#[]}:=I.obj;show Ó (Βa (Ó (wpAny_loadPart o (Ó (W.Looks.here (s:={ s with Ĕ:=ē+1 }) (W.looks_clsIn X n) ?_)))));rw[g];show ó (a:=À dx) (Ó Êj);show wpAny_nsSet1 (s:={ s with Ĕ:=ē+1 }) I.ns λh' d c=>?_
 let{B,k,j,i,e,f}:=d.count (PySem.Within.cons Ĳ v q);refine Ó (wpAny_lookBehind i (by rw[e];show pastItsLine_dict (ÿ f Īm)) ?_);show ó (h _ {(c.2 _ (ũb I.ne)).trans I.obj,d,I.ne} c)
def y2f{R:ūd->Í->È}{vs:Á Value}{b:Á öc}(X:Ŷ â)(e:Ϸf K C=Ä)(hi:Śa K Ŧ åb=À ŕa)(c:W.typeIn K Ī=À (.type "function"))(h:ĥb è (A.under (.builtin ϭm {.ref C::vs,b})) (.call Ī {.ref Ļa::vs,b}) (W.InitBack Ļa R)
   { s with ç:=(ód).push Ůf }) :
  ĥb è A (.call Ŧ {vs,b}) R s:=by
 let{i,g,d,t,j}:=s;show W.make_core (W.makes_of X e) (W.looks_findIn X hi) (λa=>W.bind_fn X a c) Ţ h
#print a
nonrec def Ĳb(f:Ç)(v:V):Á ŧb->Á ŧb
 | []=>[(f,v)]|(g,x)::r=>if g=f then(g,v)::r else(g,x)::Ĳb f v r
theorem lE(f g:Ç)(v:V):∀fs:Á ŧb,(ŉf).lookup g=if g=f then À v else úc g
 | []=>by exact Ŭc g [(f,v)]=_;by_cases h:g=f;let a:(g==f)=Ä:=ϓb h;simp only[Ŭc,a,Ï h];let a:(g==f)=Ã:=Íb h;simp only[Ŭc,a,Ñ h]|(k,x)::r=>by let b:=lE f g v r;rw[show Ĳb f v ϋi=Ϛg from rfl];by_cases hk:k=f;rw[Ï hk];by_cases h:g=k;let a:Šg=Ä:=ϓb h;simp only[Ŭc,a,Ï (Ėg hk)];let a:Šg=Ã:=Íb h;simp only[Ŭc,a,Ñ (λe:g=f=>h (Àc hk.symm))];rw[Ñ hk];by_cases h:g=k;let a:Šg=Ä:=ϓb h;simp only[Ŭc,a,Ñ (λe:g=f=>hk (ϡn e))];let a:Šg=Ã:=Íb h;simp only[Ŭc,a];show b
theorem KP(f:Ç)(v:V):∀fs:Á ŧb,f∈(ŉf).map (·.1)/\∀g,g∈Ϡc (·.1)->g∈(ŉf).map (·.1)
 | []=>{by simp[Ĳb],λg h=>by simp at h}|(k,x)::r=>by let{a,b}:=KP f v r;rw[show Ĳb f v ϋi=Ϛg from rfl];by_cases hk:k=f;rw[Ï hk];subst hk;show{by simp,λg h=>by rw[įq]};rw[Ñ hk];show{?_,λg h=>?_};rw[ĵ];show Ų _ a;rw[ĵ]at h ⊢;rcases ĩ h with e|e;show List.mem_cons.mpr ĵj;show Ų _ (b g e)
theorem lB(f:Ç)(v:V):∀fs:Á ŧb,(ŉf).length<=őa+1
 | []=>by simp[Ĳb]|(k,x)::r=>by let a:=lB f v r;rw[show Ĳb f v ϋi=Ϛg from rfl];by_cases hk:k=f;rw[Ï hk,Ĉ,Ĉ];omega;rw[Ñ hk,Ĉ,Ĉ];omega
def ϊf{v:V}{o:É Value}(r:tm Áa o):∃u,o=À u/\yB v u:=by
 cases o with
 |Å=>show(show Ā from r).elim|À u=>show{u,rfl,r}
def űo{o:É Value}(r:tm Å o):o=Å:=by
 cases o with
 |Å=>rfl|À u=>show(show Ā from r).elim
def z9k{v:V}{u:Value}(r:yB v u):όo u=Ä:=by
 cases v with
 |zO=>cases(show u=ϥa from r);rfl|bl b=>cases(show u=όf b from r);rfl|int i=>let{t,e}:=(show ∃t,u=ϥb i t from r);cases e;rfl
 |str x=>let{t,e}:=(show ∃t,u=śb x t from r);cases e;rfl
 |byt b=>let{t,e}:=(show ∃t,u=Ĕo b t from r);cases e;rfl
 |Wa b=>let{t,e}:=(show ∃t,u=Ĵi b t from r);cases e;rfl
 |ref a=>cases(show u=Ė a from r);rfl|ty n=>cases(show u=Ϣb n from r);rfl
section
variable{P:ï}{w:æ}{H:Hp}{h:Heap}{a C dx:Ë}{fs:Á ŧb}
def Mg(c:wX P w H h)(e:H a=À Ėb):∃mA,V7 h a dx C mA/\(∀f,tm Šj Ãk)/\Ąi mA (Ϡc (·.1))/\őa<=1000/\H dx=À ŉe:=by let{d,z,b,g,mA,n,r,q}:=(show xm P w H h a Ėb from c a _ e);show{mA,{g,n,b},r,q,z,d}
#print a
structure qK(K:Ô)(C:Ë):È where
 pg:Ďe K C ϰi=Ä
 hd:ũf K C=Ä
 po:ıi K C=Ä
 sa:Śa K Ŧ Ìi=À ϥg
def qK.get{K:Ô}{C:Ë}(c:qK K C)(f:Ç):Ďe K C f=Ä:=c.pg
def Xc(K:Ô)(C:Ë)(f:Ç):È:=Śa K Ŧ f=À Å
def Xc.z2y{K:Ô}{C:Ë}{f:Ç}(n:Xc K C f):ϫi K C f=À Å:=by unfold ϫi;rw[show Śa K Ŧ f=À Å from n];rfl
structure Lm(K:Ô)(C:Ë)(m:Ç)(f:Ë):È where
 at_:Śa K Ŧ m=À ŕa
 fn:ŵe K Ī=Ä
 kp:Üa K Ī=Ä
section
variable{X:Cx}{zA:Á õ}{σ:St}{H:Hp}{s:Í}{a C dx:Ë}{fs:Á ŧb}{f:Ç}{v:V}{A:ù}{E:Value->Í->È}
def fj{b:Ð}{Q:Value->Í->È}(I:Inv X zA σ H s)(e:H a=À Ėb)(c:qK X.K C)(n:Xc X.K C f)(l:úc f=À v)(h:∀u s',Inv X zA σ H s'->yB v u->Q u s'):Ù Ą A (Ŋj Ŗ f b) Q E s:=by let{i,O,r,_,_,_}:=Mg Ě e;let{u,g,d}:=ϊf (v:=v) (o:=i f) (by rw[<-l];show r f);show z73 ϝ O (c.get f) c.hd n g (z9k d) (h u _ Ãc d)
def fm{m:Ç}{g:Ë}{pl:Sem Ð}{Q:Value×Á Value->Í->È}(I:Inv X zA σ H s)(e:H a=À Ėb)(c:qK X.K C)(k:Lm X.K C m g)(l:úc m=Å)(h:Q (.ref g,ϲ) s):Ù Ą A (öp Ŗ m pl) Q E s:=by let{d,O,r,_,_,_}:=Mg Ě e;have b:d m=Å:=űo (by rw[<-l];show r m);show z74 ϝ O (c.get m) k.at_ k.fn b h
def sA{y:V}{u:Value}{Q:ïa->Í->È}(I:Inv X zA σ H s)(e:H a=À Ėb)(c:qK X.K C)(n:Xc X.K C f)(G:őa<1000)(t:yB y u)(h:∀s',Inv X zA σ (ze H a Ēl) s'->Q () s'):Ù Ą A (setAttr Ŗ f u) Q E s:=by
 let{i,O,r,k,_,j}:=Mg Ě e;let v:(Ϡc (·.1)).length<=ä:=by rw[ã,ū];omega
 show x3l ϝ O c.sa c.po n.z2y c.hd k v λl d B=>h _ ?_
 let p:∃o,l.get? dx=À o:=let ⟨o,_,_,e',_⟩:=d.ns;{o,e'};refine Ĝg (x:=a) (e:=dx) įh (.inr j) (λb q m z=>(B.2 b m).trans z) p ?_;refine{by rw[yH O.ne];show j,?_,O.ne,d.obj,_,d.ns,λg=>?_,λg F=>?_};let:=lB f y fs;omega;exact tm ((Ĳb f y fs).lookup g) Ýl;rw[lE];by_cases q:g=f;rw[Ï q,Ï q];show t;rw[Ñ q,Ñ q];show r g;by_cases q:g=f;rw[q];show Ţo.1;show Ţo.2 g (k g λz=>F ?_);exact Ýl=Å;rw[Ñ q];show z
def Inv.made(I:Inv X zA σ H s):Inv X zA σ (ze (ze H Ý (.own Ļa)) Ļa (.ins C Ý [])) { s with ç:=(ód).push Ůf }:=by
 let e1:(ód).get? Ý=À ĳi:=ŷ â rfl
 let e2:((ód).push Ůf).get? (Ý+1)=À Ůf:=by
  let:=ŷ ód (o:=ĉf C Ý) rfl
  rwa [Ϡa]at this
 let g:(ód).Ns Ý ăc:={ĳi,#[],_,e1,rfl,(λe f=>Þ f ô),λ_=>rfl};let h:=Ϗa (a:=Ý) (o:=.own Ļa) (h':=Ùa ĳi) (t':=ē) Łh Ē {_,e1};show h.laid (a:=Ý+1) (o:=.ins C Ý []) (t':=ē) Łh (ŋb (Ϡa _ _)) ?_;let c:Ý≠Ý+1:=Ϟ ϝc;refine{by rw[yH c,yq],Ź _,c,e2,λ_=>Å,(Heap.Ns1.of_empty g).at λo q=>ě _ q,λ_=>ųa,λy d=>Þ rfl d}
def z3q{ă:ï}{w:æ}{env:Env}{e:Ö}{f:Ç}{pos:Pos}{s:Í}{Q:Value->Í->È}(a:Đb e f env ĺo=Ĥ e env)(h:Ù è A ĺo (λo s₁=>Ù è A (Ŋj o f Ä) Q E s₁) E s):Ù è A (Ĥ öf env) Q E s:=
 Attribute_any_ h (by rw[arm_eval_Attribute,a])
#print a
nonrec def x5f(K:Ô)(c:TE)(f:Ç):TE:=λσ H Q=>c σ H λx b=>∃a C dx fs v,x=.ref a/\b a=À Ėb/\qK K C/\Xc K C f/\úc f=À v/\Q v b
def x1z(K:Ô)(d c:TE)(f:Ç):TS:=λD σ H=>c σ H λy e=>d σ e λx b=>∃a C dx fs,x=.ref a/\b a=À Ėb/\qK K C/\Xc K C f/\őa<1000/\
 Ëb σ (ze b a Ēl)
def cW(X:Cx)(b:Ŀd)(a:V->V->Hp->VK->È):È:=
 ∀(zA:Á õ) (s:Í) (σ:St) (H:Hp) (x y:V) (u v:Value) (Q:VK),Inv X zA σ H s->yB x u->yB y v->a x y H Q->Ù Ą X.A (Ϡi b u v) ňb į s
def x20(K:Ô)(d h:TE)(e:V->V->Hp->VK->È)(f:Ç):TS:=λD σ H=>d σ H λx c=>∃a C dx fs v,x=.ref a/\c a=À Ėb/\qK K C/\Xc K C f/\úc f=À v/\
 h σ c λy g=>e v y g λz b=>∃dx' fs',b a=À (.ins C dx' fs')/\fs'.length<1000/\Ëb σ (ze b a (.ins C dx' (Ĳb f z fs')))
section
variable{X:Cx}{o e þb:Ö}{f:Ç}{pos ϓ tpos:Pos}{ta tv:TE}
def my(r:PE X e ta)(d:Đb e f Û ïe=Ĥ e Û):PE X öf (x5f X.K ta f):=by rw[ðq];show z3q d (zx (r i s σ H _ I h) λu w b=>?_);let{x,t,p,m,a,C,z,A,v,k,o,c,n,l,q}:=b;subst k;obtain rfl:u=Ė a:=m;show fj p o c n l λB y j g=>{v,t,j,g,q}
def y9t(B:PE X o ta)(hv:PE X þb tv)(r:űc þb (À ϴl) Įd Û=pure Ã):PS X (.Assign ϔl þb pos) (x1z X.K ta tv f):=by
 intro e s σ H D I h;show plainObj_wpAny_Assign_Attribute (zx (hv e s σ H _ I h) λu t d=>?_) r;let{y,k,m,w,q}:=d;show zx (B e t σ k _ m q) λA E b=>?_
 let{x,J,g,v,a,C,F,L,p,j,c,n,l,z}:=b;subst p;obtain rfl:A=Ė a:=v;show sA g j c n l w λG i=>{σ,_,i,z}
def y9u{j:Ŀd}{k:V->V->Hp->VK->È}(Z:PE X o ta)(hv:PE X þb tv)(i:cW X j k):PS X (.AugAssign żl j þb pos) (x20 X.K ta tv k f):=by
 intro d s σ H D I h;show wpAny_AugAssign_AttributeAny (zx (Z d s σ H _ I h) λW s1 b=>?_);let{x,G,J,Q,a,C,dx,fs,v,L,E,c,n,l,q}:=b;subst L;obtain rfl:W=Ė a:=Q;show fj J E c n l λu m p O=>zx (hv d m σ G _ p q) λP N b=>?_
 let{y,S,r,T,F}:=b;show zx (i d N σ S v y u P _ r O T F) λw4 s4 e=>?_
 let{z,H3,R,t,A,w,g,Y,B}:=e;show sA R g c n Y t λs5 U=>{σ,_,U,B}
def x0j:V->V->Hp->VK->È:=λx y H Q=>∃i j,x=.int i/\y=.int j/\Q Ťf H
def z9y:cW X .Add x0j:=by rintro d s σ H x y u v Q I b c ⟨i,j,rfl,rfl,q⟩;let{t,rfl}:=(show ∃t,u=ϥb i t from b);let{a,rfl}:=(show ∃a,v=ϥb j a from c);show PyProof.Rows.iadd_int {.int (i+j),H,Òa _,{_,rfl},q}
#print a
section
variable{X:Cx}{zA:Á õ}{σ:St}{H:Hp}{s:Í}{A:ù}{E:Value->Í->È}{Q:Value->Í->È}{c:Value}{b:Ð}
inductive gA(K:ąi)(H:Hp):V->Value->È where
 |zO:gA K H .zO îd
 |bl (x:Ð):gA K H (.bl x) ϡa
 |int (i:Æ):gA K H ϵ ϣa
 |str (x:Ç):gA K H ϴb Üb
 |Wa (x:UInt64):gA K H (.Wa x) (.type "float")
 |lst {a:Ë} {xs:Á V} (e:H a=À Ϩ):gA K H Ŗ Ĝa
 |yj {a:Ë} {o:Obj} {xs:Á V} (e:H a=À Ŧo):gA K H Ŗ Ĝa
 |tup {a:Ë} {xs:Á V} (e:H a=À Ŗa):gA K H Ŗ Ŷa
 |dK {a:Ë} {kvs:Á Äa} (e:H a=À ť):gA K H Ŗ ÿc
 |dT {a:Ë} {kvs:Á Ŕb} (e:H a=À ϫb):gA K H Ŗ ÿc
 |ins {a C dx:Ë} {fs:Á ŧb} (e:H a=À Ėb) (cl:qK K C) (ha:PySem.W.findIn K Ŧ "__class__"=À (À Éh))
   (hn:PySem.W.specialIn K Éh "__get__"=À (À (.builtin "getset_descriptor.__get__"))) (htk:PySem.W.takesIn K Éh=À Ä)
   (hm:PySem.W.mroIn K C (.type "object")=À Ä):gA K H Ŗ Ŧ
def Mh{x:V}{u t:Value}(I:Inv X zA σ H s)(d:yB x u)(m:gA X.K H x t)(e:Ů X.K t c=À b)(h:∀tk,Q Ùg { s with Ĕ:=tk }) :Ù Ą A (ĳb Ãi [u,c]) Q E s:=by
 cases m with
 |zO=>cases(show u=ϥa from d);show Ϯa W.kitx_none ϝ ųa e ĉa h|bl y=>cases(show u=όf y from d);show Ϯa W.kitx_bool ϝ ųa e ĉa h|int i=>let{t,q}:=(show ∃t,u=ϥb i t from d);cases q;show Ϯa W.kitx_int ϝ ųa e ĉa h
 |str y=>let{t,q}:=(show ∃t,u=śb y t from d);cases q;show Ϯa W.kitx_str ϝ ųa e ĉa h
 |Wa y=>let{t,q}:=(show ∃t,u=Ĵi y t from d);cases q;show Ϯa W.kitx_float ϝ ųa e ĉa h
 |@lst a g ea=>cases(show u=Ė a from d);let{_,_,n,_,f}:=(show xm ö X.w H â a (.lst g)from Ě a _ ea);show Ϯa Ĳi ϝ {_,f,rfl} e ĉa h
 |@yj a ob g ea=>cases(show u=Ė a from d);let{_,_,_,n,_,f}:=(show xm ö X.w H â a (.yj ob (.lst g))from Ě a _ ea);show Ϯa Ĳi ϝ {_,f,rfl} e ĉa h
 |@tup a g ea=>cases(show u=Ė a from d);let{_,_,_,p}:=(show xm ö X.w H â a (.tup g)from Ě a _ ea);let{o,f,j,_}:=p;show Ϯa Ϫn ϝ {o,f,j} e ĉa h
 |@dK a kvs ea=>cases(show u=Ė a from d);let{_,_,r,_,p}:=(show xm ö X.w H â a ť from Ě a _ ea);let{o,k,l,f,j,_}:=p;show Ϯa Ēo ϝ {o,f,j.1} e ĉa h
 |@dT a kvs ea=>cases(show u=Ė a from d);let{_,_,g,_,o,k,l,f,j,_}:=(show xm ö X.w H â a ϫb from Ě a _ ea);show Ϯa Ēo ϝ {o,f,j.1} e ĉa h
 |@ins a C dx fs ea cl ha hn htk hm=>cases(show u=Ė a from d);let{v,O,_}:=Mg Ě ea;let{B,J,_}:=O.look;show Ϯa (W.kitx_own (cl.get _) cl.hd ha hn htk hm) ϝ J e ĉa h
#print a
structure yk(k:Â)(A:ù):È where
 hd:ča=Å
 dp:Ğg+3*k+5<Ān
 un:Ša+16*k+200<ϛ
 gd:A.guards=À []
theorem yk.mono{j k:Â}{A:ù}(r:yk k A)(h:j<=k):yk j A:={r.hd,by let:=r.dp;omega,by let:=r.un;omega,r.gd}
theorem yk.deeper{k:Â}{A:ù}(r:yk Ň A)(env:Env):yk k (ěb env):=
 {r.hd,by let:=r.dp;exact Ğg+1+3*k+5<_;omega,by let:=r.un;exact Ša+3+16*k+200<_;omega,by first|show r.gd|simp[öe,ĥo,ųo,r.gd]}
def y2e{A:ù}{C:Ë}{us:Á Value}{a:Á öc}:(ϓg).depth=Ğg+1:=by first|rfl|simp[öe,Code.weight,Code.isCreation,Code.isGuard,Code.isCaller,Ħo,Či,guardIds]
theorem y2g{A:ù}{C:Ë}{us:Á Value}{a:Á öc}:(ϓg).units=Ša+1:=by first|rfl|simp[öe,Code.cUnits,Ħo,Či]
theorem yk.make{k:Â}{A:ù}(r:yk Ň A)(C:Ë)(us:Á Value)(a:Á öc):yk k ϓg:=
 {r.hd,by let:=r.dp;rw[y2e];omega,by let:=r.un;rw[y2g];omega,by first|show r.gd|simp[öe,ĥo,ųo,r.gd]}
theorem yk.depth{k:Â}{A:ù}(r:yk k A):Ğg<Ān:=by let:=r.dp;omega
theorem yk.units{k:Â}{A:ù}(r:yk k A):Ša+64<ϛ:=by let:=r.un;omega
nonrec def UB:TA:=λ_ H Q=>Q [] H
nonrec def SC(a:TE)(e:TA):TA:=λσ H Q=>a σ H λx c=>e σ c λb d=>Q (x::b) d
section
variable{X:Cx}{e:Ö}{es:Á Ö}{te:TE}{t:TA}{pos:Pos}
def Tu:PA X [] UB:=λ_ _ _ _ H Q I h=>ŉm {[],H,I,.nil,h}
def y86(q:PE X e te)(i:PA X es t)(p:Î ĵc q12):PA X ĕ Žp:=by
 intro pos b s σ H Q I h;rw[p];exact Ù _ _ (spliced ((Ã,Ĥ e Û)::ĩc pos Đi)) _ _ s;show æh (zx (q b s σ H _ I h) λu c a=>?_);let{x,o,l,k,j}:=a;show zx (i pos b c σ o _ l j) λv r a=>?_
 let{d,m,g,f,n}:=a;show⟨x::d,m,g,.cons k f,n⟩
def x5z(t:TA):TE:=λσ H Q=>t σ H λb a=>Ûa<=ä/\∀p,a p=Å->Q Ŵ (ze a p (.tup b))
def z06(t:TA):TE:=λσ H Q=>t σ H λb a=>Ûa<=ä/\∀p,a p=Å->Q Ŵ (ze a p ĉg)
def y92{x1}(h:PA X es t):PE X ĳm (x5z t):=by intro j s σ H Q I k;show wpAny_Tuple_spliced ŝk;rw[Õq];show{.ref ϟa,ze f ϟa (.tup i),d.laid (t':=ŋg) đm Ē ?_,rfl,q _ g};show{z,l,r,{_,ŷ _ rfl,rfl,_,rfl}}
def n4(h:PA X es t):PE X Ńn (z06 t):=by intro j s σ H Q I k;show wpAny_List_spliced ŝk;rw[Õq];show{.ref ϟa,ze f ϟa (.lst i),d.laid (t':=ŋg) đm Ē ?_,rfl,q _ g};show{z,l,0,r,ŷ _ rfl}
#print a
abbrev Sp:=Á V->Hp->VK->XK->È
abbrev ZL:=Á Env->Hp->Í->XK->Value->Í->È
structure Wi(P:ï)(w:æ)(K:Ô)(mg:Ç->É Value)(Ì:Heap)(A:ù)(ĉ:Á Env)(s:Í)(H:Hp):È where
 ϝj:A.frames=À ĉ
 mod:Mod K mg Ì
 bs:∀b o,base.get? b=À o->ø b=À o/\H b=Å
 ZI:base.objs.size<=Ý
 jR:Ĕf Ì ĉ
 XF:∀b∈jf ĉ,H b=Å
 zi:wX P w H â
 bare:řd Łg
def CE(ĉ:Á Env)(P:ï)(w:æ)(H:Hp)(s:Í)(Q:VK)(u:Value)(s':Í):È:=
 ∃v H',s'.os=s.os/\řd s'.gens/\Un (jf ĉ) [] H H' â Ϙc/\wX P w H' Ϙc/\yB v u/\Q v H'
def CR(a:ZL)(ĉ:Á Env)(P:ï)(w:æ)(H:Hp)(s:Í)(Q:VK)(E:XK)(r:ūd)(s':Í):È:=
 match r with
 |.ok (.ret u)=>CE ĉ P w H s Q u s'|.ok _=>Ā|.error e=>a ĉ H s E e s'
structure xc(P:ï)(w:æ)(K:Ô)(mg:Ç->É Value)(Ì:Heap)(CX:ZL)(k:Â)(f:Ë)(fd:Ņ)(ps:Á Ç)(sp:Sp):È where
 len:∀vs H Q E,sp vs H Q E->đ=ģ
 run:∀(A:ù)(ĉ:Á Env)(s:Í)(H:Hp)(Ąa:Args)(us:Á Value)(vs:Á V)(Q:VK)(E:XK),yk k A->Wi P w K mg Ì A ĉ s H->Ħb s fd Ąa þc->zo vs us->sp vs H Q E->
  ĥb Ŗb A (.call Ī Ąa) (CR CX ĉ P w H s Q E) s
def xc.imp{P:ï}{w:æ}{K:Ô}{e:Ç->É Value}{a:Heap}{g:ZL}{k:Â}{f:Ë}{i:Ņ}{ps:Á Ç}{sp d:Sp}(F:xc P w K e a g k f i ps sp)(h:∀vs H Q E,d vs H Q E->sp vs H Q E):xc P w K e a g k f i ps d:=
 {λvs H Q E q=>F.len vs H Q E (h _ _ _ _ q),λA b s H c n vs Q E l o j m p=>F.run A b s H c n vs Q E l o j m (h _ _ _ _ p)}
def Wi.make{P:ï}{w:æ}{K:Ô}{b:Ç->É Value}{a:Heap}{A:ù}{ĉ:Á Env}{s:Í}{H:Hp}(e:Wi P w K b a A ĉ s H)(C:Ë)(us:Á Value)(c:Á öc) :Wi P w K b a (A.under (.builtin ϭm {.ref C::us,c})) ĉ s H:={by first|show e.frames|(simpa [öe,Code.envs,Či,pushEnvs]using e.frames),e.mod,e.bs,e.ZI,e.jR,e.XF,e.zi,e.bare}
section
variable{X:Cx}{zA:Á õ}{σ:St}{H:Hp}{s s':Í}
def Inv.b9(I:Inv X zA σ H s):Wi ö X.w X.K ñ Ľ X.A Ŝa s H:=
 {ġo,Ąj,I.bs,ÿ ĝg I.sz,I.stack,I.bI,Ě,ϑa}
def Inv.after{Q:VK}{u:Value}(I:Inv X zA σ H s)(h:CE Ŝa ö X.w H s Q u s'):EP X zA σ Q u s':=by let{v,e,i,a,j,k,r,q}:=h;let{f,g,d,t,c}:=s';obtain rfl:c=s.os:=i;show{v,e,I.call (h':=f) (g':=g) (d':=d) (t':=t) (ch:=[]) j k a (λb z=>Þ z ô),r,q}
#print a
nonrec def Bz(sp:Sp)(a:Á V)(E:XK)(t:TA):TE:=λσ H Q=>t σ H λc b=>sp Ëk b Q E
nonrec def B_(C:Ë)(m:Ç)(sp:Sp)(b:Á V)(E:XK)(d:TE)(t:TA):TE:=λσ H Q=>d σ H λx c=>∃a dx fs,x=.ref a/\c a=À Ėb/\úc m=Å/\
 t σ c λf e=>sp (x::(f++b)) e Q E
def x5k(C:Ë)(sp:Sp)(a:Á V)(E:XK)(t:TA):TE:=λσ H Q=>t σ H λc b=>∀x dx,b x=Å->b dx=Å->dx≠x->
 sp (.ref x::Ëk) (ze (ze b dx ŋd) x Ŀn) (λv d=>v=.zO/\Q Ŋd d) E
def uN(K:Ô)(a:Ņ)(ps:Á Ç)(ds:Á Value):È:=
 ∀(s:Í)(us:Á Value),Ŷ â->(ĸd).length=ģ->Ħb s a {us,[]} (ps.zip ĸd)
def uN.all{K:Ô}{a:Ņ}{ps:Á Ç}(h:∀us:Á Value,èa=ģ->âg a {us,[]}=pure þc):uN K a ps []:=λs us _ b=>by rw[Œ]at b ⊢;show .of_eq (h us b)
def Xd(a:ZL)(X:Cx)(E:XK):È:=∀(zA:Á õ) (σ:St) (H:Hp) (s:Í) (e:Value) (s':Í),Inv X zA σ H s->a Ŝa H s E e s'->į e s'
section
variable{X:Cx}{CX:ZL}{k:Â}{f C:Ë}{fd:Ņ}{ps:Á Ç}{sp:Sp}{dvs:Á V}{ds:Á Value}{E:XK}{x m:Ç}{p pos Åa:Pos}{e o:Ö}{es:Á Ö}{ta:TE}{t:TA}
def Vy{b:Á õ}{σ:St}{H:Hp}{s:Í}{Q:VK}{us:Á Value}{vs:Á V}(F:xc ö X.w X.K ñ Ľ CX k f fd ps sp)(l:yk k X.A)(d:uN X.K fd ps ds)(g:zo dvs ds)(j:Xd CX X E)(I:Inv X b σ H s)(r:zo vs us)(h:sp ģe H Q E):Ù Ą X.A (ĳb Ī us) (EP X b σ Q) į s:=by
 let c:zo ģe ĸd:=ϒc g;have m:(ĸd).length=ģ:=by rw[<-Îa];show F.len _ _ _ _ h
 show ĕf (éd (F.run X.A Ŝa s H {us,[]} ĸd ģe Q E l I.b9 (d s us ϝ m) c h) λr i a=>?_);cases r with
 |Ϛe e=>show j b σ H s e i I a|ok fl=>
  cases fl with
  |ret u=>show I.after a|next=>show ğa a|brk=>show ğa a|Ðc=>show ğa a
def y8h(F:xc ö X.w X.K ñ Ľ CX k f fd ps sp)(l:yk k X.A)(o:Gl X x)(j:ñ x=À Ī)(hk:Üa X.K Ī=Ä)(g:uN X.K fd ps ds)(m:zo dvs ds)(n:Xd CX X E)(v:PA X ĕ t)(b:Î ō q10)(u:Î ĵc q12)(a:Î ((ìd).any (·.1)=Ã) q12) :PE X Ŭa (Bz sp dvs E t):=by rw[ðq];show Õd ðn;show ēd (h₀:=Ľ) ĝd hk Ŝk u a;let{z,C,d,r,q}:=c;show{d.wW,?_};show Vy F l g m n d r q
def y8i(F:xc ö X.w X.K ñ Ľ CX k f fd ps sp)(g:yk k X.A)(i:Gl X x)(e:ñ x=À Ī)(hk:Üa X.K Ī=Ä)(b:uN X.K fd ps ds)(c:zo dvs ds)(d:Xd CX X E)(a:Î ō q10):PE X Źl (Bz sp dvs E UB):=by intro j s σ H Q I h;show Õd (Iy I i e ?_ a);show Œn ϝ hk (Vy (us:=[]) F g b c d I .nil h)
def y8u{pl:Sem Ð}(z:PE X o ta)(c:qK X.K C)(p:Lm X.K C m f)(F:xc ö X.w X.K ñ Ľ CX k f fd ps sp)(N:yk k X.A)(L:uN X.K fd ps ds)(P:zo dvs ds)(y:Xd CX X E)(T:PA X ĕ t)(g:Î ĵc q12)(d:Î ((ìd).any (·.1)=Ã) q12)(S:Ĥ ϳe Û=(do
   let ov <-Ĥ o Û
   standAt ūc
   let (f,first) <-holding [ov] ńc
   ϱb pos f first åd źb):=by rfl) :
  PE X ϳe (B_ C m sp dvs E ta t):=by
 rw[ðq];show όh (pl:=pl) (zx Ĝm λu J b=>?_) S;let{x,G,n,O,a,Y,fs,B,v,l,q}:=b;subst B;obtain rfl:u=Ė a:=O;show fm n v c p l ?_;show ēd (first:=ϲ) (h₀:=Ľ) ĝd p.kp (zx (T pos i J σ G _ n q) λus U b=>?_) g d;let{vs,Z,j,r,R}:=b;show{j.wW,?_};show Vy (us:=.ref a::us) (vs:=.ref a::vs) F N L P y j (.cons rfl r) R
def n5{pl:Sem Ð}(z:PE X o ta)(c:qK X.K C)(e:Lm X.K C m f)(F:xc ö X.w X.K ñ Ľ CX k f fd ps sp)(j:yk k X.A)(g:uN X.K fd ps ds)(t:zo dvs ds)(v:Xd CX X E)(y:Ĥ Êd Û=(do
   let ov <-Ĥ o Û
   standAt ūc
   let (f,first) <-holding [ov] ńc
   ϱb pos f first ľh źb):=by rfl) :
  PE X Êd (B_ C m sp dvs E ta UB):=by
 rw[ðq];show όh (pl:=pl) (zx Ĝm λu B d=>?_) y;let{x,L,b,p,a,G,J,n,r,l,q}:=d;subst n;obtain rfl:u=Ė a:=p;show fm b r c e l ?_;show Œn (first:=ϲ) b.wW e.kp (Vy (us:=ϲ) (vs:=ϲ) F j g t v b žh q)
structure Mk(K:Ô)(C f:Ë):È where
 makes:Ϸf K C=Ä
 init:Śa K Ŧ åb=À ŕa
 fn:ŵe K Ī=Ä
 kp:Üa K Ŧ=Ä
def x1u{c:Á õ}{σ:St}{H:Hp}{s:Í}{Q:VK}{us:Á Value}{vs:Á V}(M:Mk X.K C f)(F:xc ö X.w X.K ñ Ľ CX k f fd ps sp)(m:yk Ň X.A)(j:uN X.K fd ps ds)(p:zo dvs ds)(y:Xd CX X E)(I:Inv X c σ H s)(r:zo vs us)(h:∀x dx,H x=Å->H dx=Å->dx≠x->sp (.ref x::ģe) (ze (ze H dx ŋd) x Ŀn) (λv H2=>v=.zO/\Q Ŋd H2) E) :Ù Ą X.A (ĳb Ŧ us) (EP X c σ Q) į s:=by
 let g:=h Ļa Ý (Ęb (ūf _)) İd (Ϟ ϝc);let b:=Inv.made (C:=C) I;let d:zo (ϕa Ļa::ģe) Ěn:=.cons rfl (ϒc p)
 let o:(Ė Ļa::us++ds).length=ģ:=by let e:=êa;rw[F.len _ _ _ _ g]at e;show Ųe
 refine ĕf (y2f (f:=f) ϝ M.makes M.init (ļf M.fn) (éd (F.run _ Ŝa _ _ {Ė Ļa::us,[]} Ěn _ _ E (m.make C us [])
  (b.b9.make C us []) (j _ (Ė Ļa::us) b.wW o) d g) λr q a=>?_))
 cases r with
 |Ϛe e=>show y c σ _ _ e q b a|ok fl=>
  cases fl with
  |ret u=>let{v,i,l,t,n,z}:=b.after a;subst n;show{t,{ϕa Ļa,i,l,rfl,z}}
  |next=>show ğa a|brk=>show ğa a|Ðc=>show ğa a
def y8t(M:Mk X.K C f)(F:xc ö X.w X.K ñ Ľ CX k f fd ps sp)(l:yk Ň X.A)(o:Gl X x)(j:ñ x=À Ŧ)(g:uN X.K fd ps ds)(m:zo dvs ds)(n:Xd CX X E)(v:PA X ĕ t)(b:Î ō q10)(u:Î ĵc q12)(a:Î ((ìd).any (·.1)=Ã) q12) :PE X Ŭa (x5k C sp dvs E t):=by rw[ðq];show Õd ðn;show ēd (h₀:=Ľ) ĝd M.kp Ŝk u a;let{z,G,d,r,q}:=c;show{d.wW,?_};show x1u M F l g m n d r q
#print a
structure zm(N P:Á Ç)(sc:îa):È where
 kind:sc.kind=.function
 co:sc.isCoroutine=Ã
 gen:sc.isGenerator=Ã
 nd:ϛc
 pre:N.take ďa=P
 par:∀x∈P,ϳm x=À .local\/ϳm x=À .cell
 z2r:∀y∈sc.names,y.2≠.free
theorem dJ{a:Ç->É ĕc}{x:Ç}:∀{ŵd:Á öc} {m:Ç->É Value},(∀v,(x,v) ∉ ŵd)->ıc a ŵd m x=m x
 | [],_,_=>rfl|(n,v)::r,m,h=>by
  unfold ıc;rw[dJ λw b=>h w ıd]
  split;rw[őq]
  simp[this];rfl
theorem dH{a:Ç->É ĕc}{x:Ç}:∀{ŵd:Á öc} {m:Ç->É Value},(∀v,(x,v) ∉ ŵd)->Ĳc a ŵd m x=m x
 | [],_,_=>rfl|(n,v)::r,m,h=>by
  unfold Ĳc;rw[dH λw b=>h w ıd]
  split;rfl;rw[őq]
  simp[this]
theorem dI{a:Ç->É ĕc}{x:Ç}{v:Value}:∀{P:Á Ç}{vs:Á Value}{i:Â}{m:Ç->É Value},P.Nodup->P[i]?=À x->vs[i]?=À v->a x=À .local->
  ıc a Çp m x=À v
 | [],_,_,_,_,h,_,_=>by simp at h|_::_,[],_,_,_,_,h,_=>by simp at h|p::P,w::vs,0,m,nd,h1,h2,hk=>by rw[Ŵq];exact ıc a Ēf m p=_;unfold ıc;rw[dJ λv b=>êg.1 (Ϗh b).1,Ï hk];simp|p::P,w::vs,i+1,m,nd,h1,h2,hk=>by exact ıc a Ēf m x=_;unfold ıc;show dI (i:=i) êg.2 Āf æm hk
theorem dG{a:Ç->É ĕc}{x:Ç}{v:Value}:∀{P:Á Ç}{vs:Á Value}{i:Â}{m:Ç->É Value},P.Nodup->P[i]?=À x->vs[i]?=À v->a x≠À .local->
  Ĳc a Çp m x=À v
 | [],_,_,_,_,h,_,_=>by simp at h|_::_,[],_,_,_,_,h,_=>by simp at h|p::P,w::vs,0,m,nd,h1,h2,hk=>by rw[Ŵq];exact Ĳc a Ēf m p=_;unfold Ĳc;rw[dH λv b=>êg.1 (Ϗh b).1,Ñ hk];simp|p::P,w::vs,i+1,m,nd,h1,h2,hk=>by exact Ĳc a Ēf m x=_;unfold Ĳc;show dG (i:=i) êg.2 Āf æm hk
nonrec def Ϙe(N:Á Ç)(vs:Á V):St:=Ľg À++Ő (ŕ-đ) Å
nonrec def qO(g:ZL)(P:ï)(w:æ)(K:Ô)(mg:Ç->É Value)(Ì:Heap)(N:Á Ç)(b:Ç)(a:îa)(f:Ë)(d:Value)(A:ù)(ĉ:Á Env)(s:Í)(H:Hp)(E:XK):Cx where
 ă:=P
 w:=w
 K:=K
 mg:=mg
 Ì:=Ì
 A:=ěb ŝh
 N:=N
 s₀:=s
 H₀:=H
 env:=êb b a Ý f d
 ĉ:=ĉ
 stack:=êb b a Ý f d::ĉ
 ex:=[]
 calm:=Ä
 fn:=λ_=>Ä
 pn:=[]
 xe:=λe h=>Ù Ŗb (ěb ŝh) (leaving ŝh e) (λ_ c=>g ĉ H s E e c) (λi c=>g ĉ H s E i c) h
def df{a:îa}{n:Â}{x:Ç}(h:ϕb x=À .cell):∃c,(Ϥi n Ōj []).lookup x=À c:=by let q:=Żm Ōj n [] Ěc;show ĺb q
def y03{R:ZL}{P:ï}{w:æ}{K:Ô}{J:Ç->É Value}{l:Heap}{N ps:Á Ç}{g:Ç}{d:îa}{f:Ë}{I:Value}{A:ù}{ĉ:Á Env}{s Q:Í}{H:Hp}{E:XK}{us:Á Value}{vs:Á V}(S:zm N ps d)(X:ča=Å)(m:Wi P w K J l A ĉ s H)(hl:đ=ģ)(r:zo vs us)(x:InCallC s Ý (ıc (őm).kindOf þc λ_=>Å) (Ϥi Ļa d.names []) (Ĳc (őm).kindOf þc λ_=>Å) Q) :Inv Ŧk [] ŧc H Q:=by
 let T:ģ<=ŕ:=by let:=ĳ ěd S.pre;rw[äa]at this;omega
 let{G,tk,rfl,O}:=x.done;let o:∀b:Ë,b ∉ (Ŧk).ex:=λb z=>Þ (show b∈([]:Á Ë)from z) ô
 show⟨{m.mod,S.kind,rfl,rfl,ĺ _,λy z c G j=>?_,λy t=>?_,λy c _ h=>?_,λ_=>X,Around.frames_deeper m.frames,.inr {rfl,rfl},λb z=>Þ z (o b),m.bs,m.ZI,λb _ _=>o b,λb z=>Þ z (o b),m.jR,m.XF},
  rfl,m.bare,ŕe O,{_,x.toInCall.ns,λi y v G j Z=>?_},λy c h=>{_,x.cell y c h},Ŷo Ē,λy c h=>?_,λp B=>Þ (show p∈([]:Á õ)from B) ô,m.zi.kept O,?_⟩
 show name_of_addr x.apart (Ôf G) (Ôf j);let t:Ϫh y=À .cell\/Ϫh y=À .free:=t;rcases t with t|t;show df t;show Þ rfl (S.z2r _ (Ôf t));show óa Ūl;let F:i<đ:=by
  unfold Ϙe at j;by_cases F:i<đ;show F;rw[ſb ņh]at j;rw[Ϡd]at j
  split at j<;>cases j
 let Y:vs[i]?=À v:=by
  unfold Ϙe at j;rw[ūa ņh,ė]at j;cases e:vs[i]? with
  |Å=>rw[e]at j;cases j|À a=>rw[e]at j;cases j<;>rfl
 let{u,L,U}:=Äb Y
 have B:ps[i]?=À y:=by rw[<-S.pre,List.getElem?_take_of_lt Ê];show G
 have C:ps.Nodup:=by rw[<-S.pre];show S.nd.sublist ĭp
 show{u,U,?_};rcases S.par y (ώ B)with k|k;show .inl {k,dI C B L k};let{c,e}:=df (n:=Ý+1) k;show .inr {.inl k,c,e,?_};let q:=x.cell y c e;rw[dG C B L (by exact Ϫh y≠_;rw[k];decide)]at q;show q;show Ŷo (óa Ūl);unfold Ϙe;exact _=ŕ;rw[ÿq]
def fN{L:ZL}{P:ï}{w:æ}{K:Ô}{G:Ç->É Value}{h:Heap}{k:Â}{f:Ë}{Ĳ c:Ç}{g:ĉp}{i:Á Ü}{a:îa}{Z kV z pm d ct oc:Value}{an od:É Ë}{Y:Ú ϩa}{N ps:Á Ç}{sp:Sp}(lk:Àa f=À {oc,od,.func ūk,Y})(O:ťb K d c=Ä)(S:zm N ps a)(p:∀vs H Q E,sp vs H Q E->đ=ģ)(l:∀(A:ù)(ĉ:Á Env)(s:Í)(H:Hp)(vs:Á V)(Q:VK)(E:XK),yk k (ěb (êb c a Ý f d))->sp vs H Q E->
   ∃t,uk ϣg i t/\t { nx:=λ_ H'=>Q .zO H',rt:=Q } ŧc H) :
  xc P w K G h L Ň f ūk ps sp:=by
 show{p,λA ĉ s H Ąa us vs Q E X B hb r C=>?_};let hl:=p _ _ _ _ C;let KX:Ŷ â:=B.mod.XG.keeps λb o e=>ëo.1
 let U:s.heap.NoLimit:=B.mod.nolimit.keeps λb o e=>ëo.1
 let j:∀y∈ps.zip us,ϕb y.1=À .local\/(ϕb y.1=À .cell/\((Ϥi Ļa Ōj []).lookup y.1).isSome=Ä):=λ⟨n,v⟩ hy=>by rcases S.par n (Ϗh hy).1 with q|q;show .inl q;show .inr {q,Żm _ _ _ (.inl q)}
 show codeAny_call_function X.depth (KX _ _ lk) rfl S.co S.gen rfl (W.codeRec_of KX O) (hb _ _ _ _ ?_);show wpAny_newFunctionEnv_cells S.kind j λenv he s1 x=>?_
 subst he;show{U.keeps x.toInCall.keep,codeAny_func ?_};let{t,ht,hq}:=l A ĉ s H vs Q E (X.deeper _) C;let I:Inv ϣg [] ŧc H s1:=y03 S X.hd B hl r x;show ĳa (ht [] s1 ŧc H _ I hq) (λfl R m=>?_) λe R m=>m
 let F:∀{σ':St}{H':Hp}{v:V}{u:Value},Inv ϣg [] σ' H' R->yB v u->Q v H'->CE ĉ P w H s Q u R:=
  λ{σ' H' v u} J T q=>{v,H',J.os,J.bare,J.base,J.zi,T,q}
 cases fl with
 |ret u=>
  let{v,σ',H',J,T,q}:=m;show F J T q
 |next=>
  let{σ',H',J,q}:=m;show F (v:=V.zO) (u:=ϥa) J rfl q
 |brk=>
  let{_,_,_,q}:=m;show ğa q
 |Ðc=>
  let{_,_,_,q}:=m;show ğa q
section
variable{X:Cx}{x:Ç}{p pos:Pos}{e:Ö}{es:Á Ö}{t:TA}{id T:ìa}{r:Á V->Hp->VK->È}
nonrec def By(r:Á V->Hp->VK->È)(t:TA):TE:=λσ H Q=>t σ H λb a=>r b a Q
def y8j(l:vg X Ùb r)(o:Gl X x)(i:ñ x=Å)(hv:ϕ x=À Ùb)(w:PA X ĕ t)(u:Î Ďb q10)(b:Î ō q10)(q:Î ĵc q12)(a:Î ((ìd).any (·.1)=Ã) q12):PE X Ŭa āg:=by rw[òq];show Õd ϫl;show PyProof.Rows.callWith_builtin1 śk q a;rw[Ħq]
def y8l(l:vg X Ϫb r)(o:Gl X x)(i:ñ x=Å)(hv:ϕ x=À Ϫb)(w:PA X ĕ t)(u:Î Ďb q10)(b:Î ō q10)(q:Î ĵc q12)(a:Î ((ìd).any (·.1)=Ã) q12):PE X Ŭa āg:=by rw[òq];show Õd ϫl;show Êf śk q a;rw[Ħq]
#print a
#print L2
namespace HT
open ľ ŋ
section
variable{ă:ï}{w:æ}{A:ù}{E:Value->Í->È}{s:Í}
def cat_tup{t b:Ë}{vs ws:Á Value}{Q:Value->Í->È}(v:Įb â t ŷa)(q:Įb â b ſf)(hv:vs≠[])(u:ws=[]->Q Ąg s)(r:ws≠[]->Q Ġa { s with ç:=Ùa { cls:=.type Ϗ,ć:=.seq (vs++ws).toArray } })(hsz:đ+ßp<=ä):Ù è A (ϧa .Add Ąg (.ref b)) Q E s:=by
 obtain⟨⟨cls,o,ć,j⟩,h,l,n,m⟩:=id v;obtain⟨⟨p,c,i,g⟩,a,d,k,f⟩:=id q;simp only at l m d f;subst l m d f;let e:ŷa++ſf=(vs++ws).toArray:=by simp
 by_cases hw:ws=[];show āi {_,h,rfl} {_,a,rfl} Ÿm Ŋn ĺl ĩl Äl
  (tuple_addW1 t b ŷa ſf n k o c j g Įh (by simp[hw])) {h,a,u hw}
 refine āi {_,h,rfl} {_,a,rfl} Ÿm Ŋn ĺl ĩl Äl
  (tuple_addW2 t b ŷa ſf n k o c j g Įh (by simpa using hw) (by rw[Ĭ,Ĭ];show hsz)) {h,a,?_}
 rw[e];show r hw
nonrec def sIx(n d:Â):É Æ->Â
 |Å=>d|À v=>if v<0 then(v+(n:Æ)).toNat else min v.toNat n
def sIx_nat(n d k:Â):sIx n d (À (k:Æ))=min k n:=by exact(if(k:Æ)<0 then((k:Æ)+(n:Æ)).toNat else min (k:Æ).toNat n)=min k n;rw[Ñ Ê,Ĝ]
theorem ŭe(n d:Â)(a:d<=n)(o:É Æ):sIx n d o<=n:=by
 cases o with
 |Å=>show a|À v=>exact ĥk<=n;by_cases hv:v<0;rw[Ï hv];omega;rw[Ñ hv];show Ϫg _ _
def dt(v:Æ)(n d:Â):Ğk=((sIx n d Áa:Â):Æ):=by exact Ğk=((ĥk:Â):Æ);by_cases hv:v<0;simp only[Ï hv];show(Ůh _).symm;simp only[Ñ hv];let{k,rfl}:=ņa (ŏc hv);rcases Ŕf k n with h|h;rw[Ĝ,Öb h,Ôe (ϫg h)];rw[Ĝ,Ęf h,ůh (ϫg h)]
theorem z3e(lo hi:É Æ)(n:Â):ßh lo hi 1 (n:Æ)=(((sIx n 0 lo:Â):Æ),((sIx n n hi:Â):Æ)):=by
 let a:¬ ((1:Æ)<0):=by omega
 unfold ßh;simp only[a,Ďa];show Prod.ext ?_ ?_;cases lo with
 |Å=>rfl|À v=>show dt v n 0
 cases hi with
 |Å=>rfl|À v=>show dt v n n
def y9k(i j:Â):Òf (i:Æ) (j:Æ) 1=j-i:=by
 unfold Òf;let a:(1:Æ)>0:=by omega
 simp only[a,ό,ôe]
 split<;>omega
def sI{v:Value}{o:É Æ}{Q:É Æ->Í->È}(p:Æc v o)(h:Q o s):Ù è A (Builtin.Slice.slicePartIndex v) Q E s:=by
 cases p with
 |Å=>show ÿn h|int i t=>show slicePart_int h
def x49{e:Ë}{d c:Value}{lo hi:É Æ}{n:Â}{Q:Æ×Æ×Â->Í->È}(g:Ŧh e d c .none)(pl:Æc d lo)(f:Æc c hi)(h:Q (((sIx n 0 lo:Â):Æ),1,sIx n n hi-sIx n 0 lo) s):Ù è A (õl ąg (pure (n:Æ))) Q E s:=by let{j,a,i,b}:=id g;unfold õl Builtin.Slice.sliceFields;show Ó (Ó (Ĉb a b (x:=d) rfl (Ó (Ĉb a b (x:=c) rfl (Ó (Ĉb a b (x:=.none) rfl ùa))))));show Ó (ÿn ?_);exact Ù _ _ (Τa ((1:Æ)==0)) _ _ s;rw[Ñ Ò];show Ó (sI pl (Ó (sI f (Ó ùa))));exact Ù _ _ (match ßh lo hi 1 (n:Æ)with|(lo,hi)=>pure (lo,(1:Æ),Òf lo hi 1)) _ _ s;rw[z3e lo hi n];exact Ù _ _ (pure (((sIx n 0 lo:Â):Æ),(1:Æ),Òf ((sIx n 0 lo:Â):Æ) ((sIx n n hi:Â):Æ) 1)) _ _ s;rw[y9k];show ó h
def y9f(xs:Ú Value)(i k:Â):((ϡ k).filterMap λ(m:Â)=>xs[(ıh).toNat]?).toArray=((xs.toList.drop i).take k).toArray:=by
 let e:(λ(m:Â)=>xs[(ıh).toNat]?)=λm=>xs[i+m]?:=by
  funext m
  let:(ıh).toNat=i+m:=by omega
  rw[this]
 rw[e];let:=õj xs i k;rw[List.filterMap_map]at this;let e2:((λx=>xs[x]?)∘λx=>i+x)=λm=>xs[i+m]?:=rfl
 rw[e2]at this;rw[this]
theorem getItem_tuple_cut{t d:Ë}{z6:Ú Value}{j i:Value}{lo hi:É Æ}{Q:Value->Í->È}(b:Įb â t z6)(k:Ŧh d j i .none)(pl:Æc j lo)(r:Æc i hi)(v:¬ (sIx ń 0 lo=0/\sIx ń ń hi=ń))(h:Q Ġa { s with ç:=Ùa { cls:=.type Ϗ,ć:=.seq (ſg).toArray } })(hsz:ń<=ä):Ù è A (Œe Ąg (.ref d)) Q E s:=by
 let a:sizeOk (.seq (ſg).toArray):=by exact(ſg).toArray.size<=ä;rw[Ĭ,äa,ňa,Ĺ];show ÿ Ãg (ÿ Ŋa hsz)
 let n:sIx ń ń hi<=ń:=ŭe _ _ Ē hi;let{l,c,g,p}:=id k;let f:ìb (.ref d) Ďg:={l,c,g};unfold Œe
 try with_reducible show ϝa ?_
 first|show Ó ùa|skip
 refine Ó (wpAny_sequenceKey ĸe Ò ?_)
 show Ó (Îd (Ĳ:=ŭa ņn) ĸe Ϟk
  (Ļb Ϟk ĸe entry_tuple_getitem ?_ (args_tuple_getitem _ _)))
 exact Ù _ _ (Builtin.Tuple.tupleItemsOf Ąg >>= _) _ _ s;show Ó (tupleItemsOf_ b ?_);show Ó (èd f ?_);rw[Ï Ò];show Ó (x49 k pl r ?_)
 let e:¬ (ík=Ä):=by intro q;rw[Ď,Ď]at q;let o:((sIx ń 0 lo:Â):Æ)=0:=ϝb q.1.1;let u:sIx ń ń hi-sIx ń 0 lo=ń:=ϝb q.2;show v {Int.ofNat_eq_zero.mp o,ϒb n (ÿ (ŋb u.symm) Ŋa)}
 exact Ù _ _ (Τa ík) _ _ s;rw[Ñ e,y9f]
 first
  |show Ó (m:=Öf _) ŀo
  |show Ó (m:=Öf _) (Öc (Ó ŗp) a)
  |show Ó (Ó (m:=Öf _) (Öc ŗp a))
  |show Ó (Ó (m:=Öf _) ŀo)
#print a
#print HT
namespace L2
open ľ ś ŋ
abbrev TO:=St->Hp->(É Æ->Hp->È)->È
def PO(X:Cx)(e:É Ö)(t:TO):È:=
 ∀(zA:Á õ) (s:Í) (σ:St) (H:Hp) (Q:É Æ->Hp->È),Inv X zA σ H s->t σ H Q->
  Ù Ą X.A (evalPart e Û) (λu a=>∃o H',Inv X zA σ H' a/\Æc u o/\Q o H') į s
nonrec def x5n:TO:=λ_ H Q=>Q Å H
nonrec def x5s(t:TE):TO:=λσ H Q=>t σ H λx a=>∃i,x=.int i/\Q (À i) a
section
variable{X:Cx}{e:Ö}{te:TE}{lo hi:É Ö}{tl th:TO}{pos p2:Pos}
def y9o:PO X Å x5n:=by intro a s σ H Q I h;rw[ŏn];show ó {Å,H,I,.none,h}
def y9p(h:PE X e te):PO X (À e) (x5s te):=by
 intro b s σ H Q I g;rw[evalPart_some];show zx (h b s σ H _ I g) λu k a=>?_
 let{x,j,f,d,c}:=a;let{i,rfl,q}:=c;rw[İq];show{À i,j,f,.int i t,q}
def YE(X:Cx)(r:V->É Æ->É Æ->Hp->VK->È):È:=
 ∀(zA:Á õ) (s:Í) (σ:St) (H:Hp) (x:V) (v vl vu:Value) (lo hi:É Æ) (sl:Ë) (Q:VK),Inv X zA σ H s->yB x v->Ŧh sl vl vu .none->Æc vl lo->Æc vu hi->r x lo hi H Q->
  ∃T id,Űo Ϫb ņn=pure (À Ùb)/\ìb v T/\Ù Ą X.A (Œe v (.ref sl)) ňb į s
def YE.or{r j:V->É Æ->É Æ->Hp->VK->È}(h:YE X r)(h':YE X j):YE X (λx lo hi H Q=>r x lo hi H Q\/j x lo hi H Q):=by intro b s σ H x v f d lo hi a Q I c i g e q;rcases q with q|q;show h b s σ H x v f d lo hi a Q I c i g e q;show h' b s σ H x v f d lo hi a Q I c i g e q
nonrec def x5x(r:V->É Æ->É Æ->Hp->VK->È)(te:TE)(tl th:TO):TE:=λσ H Q=>te σ H λx c=>tl σ c λl b=>th σ b λu a=>r x l u a Q
def y90{r:V->É Æ->É Æ->Hp->VK->È}(F:YE X r)(t:PE X e te)(J:PO X lo tl)(o:PO X hi th):PE X (.Subscript e đh pos) (x5x r te tl th):=by
 rw[òq];show ύo (zx (t d s σ H _ I h) λv C c=>?_);let{x,y,z,K,G}:=c;show wpAny_Slice (zx (J d C σ y _ z G) λg k c=>?_);let{l,N,m,B,P}:=c;show zx (o d k σ N _ m P) λf a i=>?_
 let{u,j,n,O,p}:=i;rw[ŏn];show ó ?_;let L:Inv X d σ j { a with ç:=ûe { cls:=.type Ďg,ć:=.fields #[g,f,.none] } }:=n.kept (t':=ŋg) λb W q=>ě _ q
 let{T,U,E,R,S}:=F d { a with ç:=ûe { cls:=.type Ďg,ć:=.fields #[g,f,.none] } } σ j x v g f l u ϟa Q L K (Heap.IsSliceOf.new ..) B O p;exact Ù Ą X.A (ŉn e đh v Ñp) (EP X d σ Q) į { a with ç:=ûe { cls:=.type Ďg,ć:=.fields #[g,f,.none] } };show tail_any (ops:=[.ref ϟa,v]) R E S ľc
def Xi(xs:Á V)(lo hi:É Æ):Á V:=(ğl).take Çl
def eD(xs:Á V)(lo hi:É Æ):(ϒn).length<=ë:=by unfold Xi;rw[äa,ňa];show ÿ Ãg Ŋa
def oR(K:Ô):V->É Æ->É Æ->Hp->VK->È:=λx lo hi H Q=>∃a xs,x=.ref a/\xP K H a xs/\
 ¬ (ř ë 0 lo=0/\ř ë ë hi=ë)/\∀p,H p=Å->Q Ŵ (Ω (.tup ϒn))
def x48:YE X (oR X.K):=by
 intro t s σ H x v y w lo hi p Q I i n m j h;let{a,d,rfl,k,l,q}:=h;cases i;let{e,r,g,f}:=Þa k;let c:ąn=êa:=by rw[Ĭ];show r.length.symm
 show{Ϗ,_,PyProof.Rows.slot_tuple_getitem.lookup,g.typeIs,?_};refine HT.getItem_tuple_cut g n m j (by rw[c];show l) ?_ (by rw[c];show f);rw[c];show{.ref Ý,_,Ϗa (t':=ē) (o:=.tup (Xi d lo hi)) Łh Ē ?_,rfl,q _ İd};show{ÿ (eD d lo hi) f,_,(ϔj (ř êa 0 lo)).take (ř êa êa hi-ř êa 0 lo),ϲi _ _}
def oG(K:Ô):R2:=λx y H Q=>∃a b xs ys,x=.ref a/\y=.ref b/\xP K H a xs/\xP K H b ys/\xs≠[]/\ë+Ŭ<=ä/\
 (ys=[]->Q Ŗ H)/\(ys≠[]->∀p,H p=Å->Q Ŵ (Ω (.tup ϥf)))
def zo.FN{xs:Á V}{us:Á Value}(r:zo xs us):us=[]↔xs=[]:=by
 cases r with
 |nil=>simp|ð _ _=>simp
def y7n:xD X ħd (oG X.K):=by intro B s σ H x y v u Q I m r h;let{a,b,k,g,rfl,rfl,A,l,i,f,n,t}:=h;cases m;cases r;let{j,d,p,_}:=Þa A;let{e,c,p2,_}:=Þa l;show HT.cat_tup p p2 (λz=>i (d.FN.mp z)) (λz=>{.ref a,H,I,rfl,n (c.FN.mp z)}) Îj (by rw[<-êa,<-Îa];show f);show{.ref Ý,_,Ϗa (t':=ē) (o:=.tup (k++g)) (λb C q=>ě _ q) Ē ?_,rfl,t (λw=>z (c.FN.mpr w)) _ İd};show{by rw[ì];show f,_,d.append c,ϲi _ _}
#print a
nonrec def ixN(n:Â)(i:Æ):É Â:=if 0<=i then(if i<n then À Ŕd else Å)else if -(n:Æ)<=i then À (i+n).toNat else Å
def pB{α:Type}(xs:Á α)(i:Æ):É α:=(ixN ë i).bind λj=>xs[j]?
def iN{n:Â}{i:Æ}{j:Â}(h:ixN n i=À j):seqIndex? i n=À j/\j<n /\ -(n:Æ)<=i/\i<n:=by unfold ixN at h;by_cases h0:0<=i;rw[Ï h0]at h;by_cases h1:i<n;rw[Ï h1]at h;let e:Ŕd=j:=Ça h;show{by rw[Ĭi h0 h1,e],by omega,by omega,h1};rw[Ñ h1]at h;cases h;rw[Ñ h0]at h;by_cases h1 : -(n:Æ)<=i;rw[Ï h1]at h;let e:(i+n).toNat=j:=Ça h;show{by rw[ùi Ê h1,e],by omega,h1,by omega};rw[Ñ h1]at h;cases h
def CH{α:Type}{xs:Á α}{i:Æ}{v:α}(h:pB xs i=À v):∃j,seqIndex? i ë=À j/\xs[j]?=À v/\j<ë /\ -(ë:Æ)<=i/\i<ë:=by
 unfold pB at h;cases e:ixN ë i with
 |Å=>rw[e]at h;cases h|À j=>rw[e]at h;let{a,c,d,b}:=iN e;show{j,a,h,c,d,b}
def z3o{α:Type}{xs:Á α}{j:Â}{v:α}(h:xs[j]?=À v):pB xs (j:Æ)=À v:=by
 let a:j<ë:=ϊa.1
 let e:ixN ë (j:Æ)=À j:=by unfold ixN;rw[Ï Ê,Ï Ê];simp
 unfold pB;rw[e];show h
def cf(b:Ö):È:=∀o i,Ćo b Ã o i=operate [o,i] (Œe o i)
def jT(X:Cx)(r:R2):È:=
 ∀(þb slice:Ö)(zA:Á õ) (s:Í) (σ:St) (H:Hp) (x y:V) (v u:Value) (Q:VK),Inv X zA σ H s->yB x v->yB y u->r x y H Q->
  Ćo slice Ã v u=operate [v,u] (Œe v u)->Ù Ą X.A (ŉn þb slice v u) ňb į s
def TC(X:Cx)(id:ìa)(r:V->Á V->Hp->VK->È):È:=
 ∀(zA:Á õ) (s:Í) (σ:St) (H:Hp) (x:V) (xs:Á V) (v:Value) (us:Á Value) (Q:VK),Inv X zA σ H s->yB x v->zo xs us->r x xs H Q->
  Ù Ą X.A Ģm ňb į s
section
variable{X:Cx}{a b:Ö}{ta tb:TE}{pos:Pos}
def jT.or{r c:R2}(h:jT X r)(h':jT X c):jT X (λx y H Q=>r x y H Q\/c x y H Q):=by intro b a d s σ H x y v u Q I f e q g;rcases q with q|q;show h b a d s σ H x y v u Q I f e q g;show h' b a d s σ H x y v u Q I f e q g
def BD{r:R2}(g:jT X r)(m:PE X a ta)(c:PE X b tb)(l:cf b):PE X ϱl ţf:=by rw[ŧq];show ύo (Eo m c I h λv u d x y j f i k q=>g a b e d σ j x y v u Q f i k q (l _ _))
def oJ(K:Ô):R2:=λx y H Q=>∃p xs i v,x=.ref p/\y=.int i/\ya K H p xs/\pB xs i=À v/\Q v H
def oN(K:Ô):R2:=λx y H Q=>∃p xs i v,x=.ref p/\y=.int i/\xP K H p xs/\pB xs i=À v/\Q v H
def oK:R2:=λx y H Q=>∃z i c,x=.str z/\y=.int i/\ł<=ä/\pB Ăf i=À c/\Q èi H
def iQ:jT X (oJ X.K):=by
 intro g c l s σ H x y v u Q I E L h m;let{p,R,i,z,rfl,rfl,F,B,q}:=h;cases E;let{t,rfl}:=L;let{e,r,d,O}:=Ϛ F;let{j,b,C,N,o,J}:=CH B;let{w,n,f}:=Äb C;let G:=ϊ;let P:=Ti;let a:EP X l σ Q w s:={z,H,I,f,q};by_cases h0:0<=i;let k:Ŕd=j:=by rw[Ĭi h0 J]at b;show Ça b
 show item_listR d.isList h0 Ê ģl a m;let k:(i+(ąn:Æ)).toNat=j:=by rw[ùi Ê o]at b;rw[Ĭ,<-G];show Ça b
 show Ϸe (x:=w) d.isList.typeIs Ėl
  (wpAny_getItem_list_neg (Q:=λr A=>r=w/\EP X l σ Q r A) d.isList Ê Ϥl Ê ģl {rfl,a}) m
def y0f:jT X (oN X.K):=by
 intro c a e s σ H x y v u Q I A E h n;let{p,O,i,z,rfl,rfl,B,l,q}:=h;cases A;let{t,rfl}:=E;let{m,r,f,L}:=Þa B;let{j,g,o,G,J,P}:=CH l;let{w,F,b}:=Äb o;let C:=ϊ;let N:=Ti;let d:EP X e σ Q w s:={z,H,I,b,q}
 show Ϸe (x:=w) ĵe slot_tuple_getitem.lookup
  (getItem_tuple (j:=j) (Q:=λr k=>r=w/\EP X e σ Q r k) f Ê Ê (by rw[Ĭ,<-C];show g) ņh {rfl,d}) n
def y0e:jT X oK:=by
 intro b a p s σ H x y v u Q I l o h g;let{z,i,c,rfl,rfl,w,f,q}:=h;let{t,rfl}:=l;let{B,rfl}:=o;let{j,d,k,r,e,n}:=CH f;let m:Ϲl=ł:=by simp[ŵc]
 rw[m]at d e n;let A:=Ti
 show tail_any (Ėf s z t) slot_str_getitem.lookup (getItem_str (c:=c) (by let e1:decide (i < -(2 ^ 63:Æ))=Ã:=ď Ê;let e2:decide (i≥2 ^ 63)=Ã:=ď Ê;rw[e1,e2,ŀf]) (by rw[d];simpa using k) {.str {#[c]},H,Òa _,{_,rfl},q}) g
def Nd(K:Ô):R2:=λx y H Q=>oJ K x y H Q\/oN K x y H Q\/oK x y H Q
def y0d:jT X (Nd X.K):=iQ.or (y0f.or y0e)
def y2h(its:Á Value)(n j:Â)(u:Value):äb (·.setIfInBounds j u) { cls:=.type Ĩ,ć:=.seq ϥ n }={ cls:=.type Ĩ,ć:=.seq (its.set j u).toArray n }:=by simp[äb]
theorem Inv.lst{a:Á õ}{σ:St}{H:Hp}{s:Í}{p:Ë}{xs:Á V}(I:Inv X a σ H s)(h:H p=À Ϩ) :∃(its:Á Value) (n:Â),zo xs its/\ø p=À { cls:=.type Ĩ,ć:=.seq ϥ n }/\ë<=ä:=by let{z,its,n,r,e}:=Ě p _ h;show{its,n,r,e,z}
def Inv.z2n{d:Á õ}{σ:St}{H:Hp}{s:Í}{p:Ë}{xs ys:Á V}{its Êb:Á Value}{n a:Â}{f:Obj->Obj}(I:Inv X d σ H s)(h:H p=À Ϩ)(i:ø p=À { cls:=.type Ĩ,ć:=.seq ϥ n })(c:f { cls:=.type Ĩ,ć:=.seq ϥ n }={ cls:=.type Ĩ,ć:=.seq þi a })(r:zo ys Êb)(hz:Ŭ<=ä)(t:Â) :Inv X d σ (ze H p Ğa) { s with ç:=Śc p f,Ĕ:=t }:=by
 let e:(Śc p f).get? p=À { cls:=.type Ĩ,ć:=.seq þi a }:=by rw[ßd f i (by rw[c]<;>rfl),c]
 refine Ĝg (x:=p) (e:=p) (by rw[h];trivial) Ţ (λb u g q=>(Ϲg _ _ (ũb g)).trans q) {_,e} ?_;show{hz,Êb,a,r,e}
def x0v:V->V->V->Hp->όp->È:=λo i v H Q=>∃p xs k j,o=.ref p/\i=.int k/\H p=À Ϩ/\ixN ë k=À j/\Q (Νb (xs.set j v))
def rn:C8 X x0v:=by
 intro x s σ H o i v J F u Q I w C y h;let{p,A,k,j,rfl,rfl,f,B,q}:=h;cases w;let{t,rfl}:=C;let{a,n,r,c,z}:=I.lst f;let{b,G,l,m}:=iN B;let e:=ϊ;let E:=Ti
 let g:Inv X x σ (Νb (A.set j v)) { s with ç:=Śc p (äb (·.setIfInBounds j u)) }:=
  I.z2n f c (y2h a n j u) (r.set y j) (by rw[Éa];show z) ē
 by_cases h0:0<=k;let d:Ϸ=j:=by rw[Ĭi h0 m]at b;show Ça b
 show W.ki_setAt c h0 Ê (by rw[Ĭ,<-e];show m) ŏl;let d:(k+(ϔb:Æ)).toNat=j:=by rw[ùi Ê l]at b;rw[Ĭ,<-e];show Ça b
 show W.ki_setBack c Ê (by rw[Ĭ,<-e];show l) Ê ŏl
def x4b(lo hi:É Æ)(n:Â):Ŝh.1=((ř n 0 lo:Â):Æ)/\Ŝh.2.1=((ř n n hi:Â):Æ)/\Ŝh.2.2=1:=by
 show{?_,?_,rfl};cases lo with
 |Å=>simp[Ðe,ř]|À i=>simp only[Ðe,ř,żm,show(1:Æ)>0 by decide,ό];by_cases h:i<0;simp only[h,ό];rw[Ôe ôk,ϱn,<-Ůh];simp only[h,Ďa];let{k,rfl}:=ņa (ŏc h);rcases Ŕf k n with q|q;rw[Ĝ,Öb q,Ôe Ġg];show Ĝf ĥg;rw[Ĝ,Ęf q,ůh Ġg];show Ĝf Şe
 cases hi with
 |Å=>simp[Ðe,ř]|À i=>simp only[Ðe,ř,żm,show(1:Æ)>0 by decide,ό];by_cases h:i<0;simp only[h,ό];rw[Ôe ôk,ϱn,<-Ůh];simp only[h,Ďa];let{k,rfl}:=ņa (ŏc h);rcases Ŕf k n with q|q;rw[Ĝ,Öb q,Ôe Ġg];show Ĝf ĥg;rw[Ĝ,Ęf q,ůh Ġg];show Ĝf Şe
def x4a(its:Á Value)(lo hi:É Æ):åp ϥ lo hi Å=((its.drop (ř Ϫa 0 lo)).take (ř Ϫa Ϫa hi-ř Ϫa 0 lo)).toArray:=by let{a,b,c}:=x4b lo hi its.toArray.size;unfold åp;rw[a,b,c];simp only[þn,õj,Ĭ]<;>rfl
def oP(K:Ô):V->É Æ->É Æ->Hp->VK->È:=λx c b H Q=>∃a xs,x=.ref a/\ya K H a xs/\∀p,H p=Å->Q Ŵ (Νb (Xi xs c b))
def x46:YE X (oP X.K):=by intro u s σ H x v z y e f t Q I i p m j h;let{a,c,rfl,k,q}:=h;cases i;let{n,r,g,l}:=Ϛ k;let d:=ϊ;show{Ĩ,_,Ėl,g.isList.typeIs,?_};refine wpAny_getItem_list_slice g.isList p m j .none ô ?_ Ϥl;rw[x4a,<-d];show{.ref Ý,_,Ϗa (t':=ē) (o:=.lst (Xi c e f)) (λb w q=>ě _ q) Ē ?_,rfl,q _ İd};show{ÿ (eD c e f) l,_,0,(ϔj (ř Îa 0 e)).take (ř Îa Îa f-ř Îa 0 e),ŷ _ rfl}
nonrec def je:V->Ð
 |.zO=>Ä|.bl _=>Ä|.int _=>Ä|.str _=>Ä|_=>Ã
nonrec def jC:V->V->Ð
 |.zO,.zO=>Ä|.bl a,.bl b=>a==b|.bl a,.int b=>ϣl==b|.int a,.bl b=>a==ôf|.int a,.int b=>a==b|.str a,.str b=>a==b|_,_=>Ã
def fA{A:ù}{s:Í}{y x:V}{u v:Value}(f:yB y u)(c:yB x v)(g:je y=Ä)(e:je x=Ä):Řb A s u v (jC y x):=by
 cases y with
 |zO=>
  cases f;cases x with
  |zO=>cases c;show ăh _|bl b=>cases c;show SeqAt.EqAt.none_bool b|int b=>let{t,rfl}:=c;show SeqAt.EqAt.none_int b t
  |str b=>let{t,rfl}:=c;show SeqAt.EqAt.none_str b t
  |_=>show Þ (show Ã=Ä from e) ġ
 |bl a=>
  cases f;cases x with
  |zO=>cases c;show SeqAt.EqAt.bool_none a|bl b=>cases c;show SeqAt.EqAt.bool_bool a b|int b=>let{t,rfl}:=c;show SeqAt.EqAt.bool_int a b t
  |str b=>let{t,rfl}:=c;show SeqAt.EqAt.bool_str a b t
  |_=>show Þ (show Ã=Ä from e) ġ
 |int a=>
  let{d,rfl}:=f;cases x with
  |zO=>cases c;show SeqAt.EqAt.int_none a d|bl b=>cases c;show SeqAt.EqAt.int_bool a d b|int b=>let{t,rfl}:=c;show SeqAt.EqAt.int_int a d b t
  |str b=>let{t,rfl}:=c;show ăm a d b t
  |_=>show Þ (show Ã=Ä from e) ġ
 |str a=>
  let{d,rfl}:=f;cases x with
  |zO=>cases c;show SeqAt.EqAt.str_none a d|bl b=>cases c;show SeqAt.EqAt.str_bool a d b|int b=>let{t,rfl}:=c;show ām a d b t
  |str b=>let{t,rfl}:=c;show SeqAt.EqAt.str_str a d b t
  |_=>show Þ (show Ã=Ä from e) ġ
 |_=>show Þ (show Ã=Ä from g) ġ
def qQ(x:V)(u:Value):Ð:=match u with
 |.none=>jC .zO x|.bool b=>jC ŭb x|.int i _=>jC ϵ x|.str z _=>jC (.str z) x|_=>Ã
def GH{x y:V}{u:Value}(r:yB y u)(f:je y=Ä):qQ x u=jC y x:=by
 cases y with
 |zO=>cases r;rfl|bl b=>cases r;rfl|int i=>let{t,rfl}:=r;rfl
 |str z=>let{t,rfl}:=r;rfl
 |_=>show Þ (show Ã=Ä from f) ġ
theorem Jt{x:V}:∀{xs:Á V}{us:Á Value},zo xs us->Ťd je=Ä->us.any Ϲa=xs.any λy=>jC y x
 |_,_,.nil,_=>rfl|y::xs,u::us,.cons r t,f=>by rw[ϔ,Ď]at f;rw[Čd,Čd,GH r f.1,Jt t f.2]
theorem Tk{A:ù}{s:Í}{x:V}{v:Value}(c:yB x v)(b:je x=Ä):∀{xs:Á V}{us:Á Value},zo xs us->Ťd je=Ä->∀u∈us,Řb A s u v (qQ x u)
 |_,_,.nil,_=>λu a=>by cases a|y::xs,u::us,.cons r t,f=>λd a=>by rw[ϔ,Ď]at f;rcases ĩ a with rfl|a;rw[GH r f.1];show fA r c f.1 b;show Tk c b t f.2 d a
def Mf(x:V)(xs:Á V):Ð:=xs.any λy=>jC y x
def Nb(K:Ô)(a:Ð):R2:=λx y H Q=>∃p xs,y=.ref p/\(ya K H p xs\/xP K H p xs)/\je x=Ä/\Ťd je=Ä/\Q (.bl (if a then !Mf x xs else Mf x xs)) H
def y7r:xD X Ğe (Nb X.K Ã):=by rw[éq];rcases b with b|b;let{a,r,e,j}:=Ϛ b;refine SeqAt.in_listAt Ϲa e.isList ϲe {.bl _,H,I,rfl,?_};rw[Ϭp];let{a,r,e,j}:=Þa b;refine SeqAt.in_tupleAt Ϲa e ϲe {.bl _,H,I,rfl,?_};rw[Ϭp]
def y7y:xD X Śf (Nb X.K Ä):=by rw[éq];rcases b with b|b;let{a,r,e,j}:=Ϛ b;refine SeqAt.notIn_listAt Ϲa e.isList ϲe {.bl _,H,I,rfl,?_};rw[Ϭp];let{a,r,e,j}:=Þa b;refine SeqAt.notIn_tupleAt Ϲa e ϲe {.bl _,H,I,rfl,?_};rw[Ϭp]
def y7z:xD X Śf (νc (!(!(Äf j i 0 ģa 1).isEmpty))):=by rw[úq];show notIn_str {.bl _,H,I,rfl,q}
def z4w:vg X üd (λxs H Q=>∃p ys,xs=Ķd/\Âh/\Q ſi H):=by intro i s σ H xs j Q I r h;let{p,ys,rfl,b,q}:=h;let{u,rfl,f}:=qG r;cases f;let k:=Ti;rcases b with b|b;let{d,e,c,g}:=Ϛ b;let a:=ķe;show Calls.call_len_list c.isList Ϛd {.int Ŭ,H,Òa _,{ē+1,by rw[Ĭ,a]},q};let{d,e,c,g}:=Þa b;let a:=ķe;show len_tuple c Ϛd {.int Ŭ,H,Òa _,{ē+1,by rw[Ĭ,a]},q}
def z4x:vg X üd (λxs H Q=>∃z,xs=[.str z]/\ł<=ä/\Q Óp H):=by intro a s σ H xs b Q I r h;let{z,rfl,c,q}:=h;let{u,rfl,t,rfl}:=qG r;let d:=Ti;show len_str Ê {.int ł,H,Òa _,{_,rfl},q}
def vg.or{f:Value}{r d:Á V->Hp->VK->È}(h:vg X f r)(h':vg X f d):vg X f (λxs H Q=>r xs H Q\/d xs H Q):=by intro a s σ H xs c Q I b q;rcases q with q|q;show h a s σ H xs c Q I b q;show h' a s σ H xs c Q I b q
def z4z:vg X Ĝa (λxs H Q=>∃p ys,xs=Ķd/\Âh/\∀l,H l=Å->Q Ũb Æo):=by
 intro z s σ H xs B Q I r h;let{p,ys,rfl,i,q}:=h;let{u,rfl,A}:=qG r;cases A
 have j:∀(a:Á Value),zo ys a->Ŭ<=ä->∀(c:Heap)(d:Â),(∀b o',ø b=À o'->c.get? b=À o')->
   c.get? Ý=À { cls:=.type Ĩ,Âd:=Å,ć:=.seq ϭa d,Ŵd:=#[] }->EP X z σ Q Ġa { s with ç:=c }:=λa f m c d k e=>
  {.ref Ý,_,Ϗa (t':=ē) k Ē (show xm ö X.w _ c _ Ğa from{m,a,d,f,e}),rfl,q _ İd}
 rcases i with i|i;let{a,f,y,m}:=Ϛ i;let g:=íb;let{o,t,v,n,x}:=y.isList;show Őn p Ţ t v x Øl Ϛd;let{a,f,y,m}:=Þa i;let g:=íb;let{o,t,v,n,x}:=y;show Őn p ćc t v x Øl Ϛd
def de:vg X Ŷa (Νd ((ya X.K H p ys/\∀l,H l=Å->Q Ũb Åo)\/(xP X.K H p ys/\Q Ŵ H))):=by
 intro j s σ H xs x Q I r h;let{p,ys,rfl,h}:=h;let{u,rfl,t}:=qG r;cases t;rcases h with⟨d,q⟩|⟨d,q⟩;let{a,g,f,m}:=Ϛ d;let i:=Ĥb;show call_tuple_list ýj (λc v=>?_) Ϛd;let k:Inv X j σ H { s with ç:=c }:=ŭd (t':=ē) v
 let n:Inv X j σ (ze H ďo Ċe) { s with ç:=c.push { cls:=.type Ϗ,ć:=.seq ϭa } }:=
  k.laid (t':=ē) (λb o e=>ě _ e) Ē (show xm ö X.w _ _ _ Ċe from{m,a,g,ϲi _ _})
 show{.ref ďo,_,n,rfl,q _ (k.zi.fresh Ē)};let{a,g,f,m}:=Þa d;show call_tuple_same f {.ref p,H,I,rfl,q}
def SR(K:Ô)(T:ìa)(x:V)(H:Hp):È:=match x with
 |.str _=>T = ϖe|.int _=>T = ĭc|.ref p=>(T = Ĩ/\∃xs,ya K H p xs)\/(T = Ϗ/\∃o,Àa p=À o/\Åb=.type Ϗ/\ůe=Å) \/
   (T = Ña/\((∃kvs,H p=À ť)\/∃kvs,H p=À ϫb))\/(T = Ś/\∃S n,H p=À (.set S n))
 |_=>Ā
def z0f{k:Á õ}{σ:St}{H:Hp}{s:Í}{T:ìa}{x:V}{v:Value}(I:Inv X k σ H s)(r:yB x v)(f:SR X.K T x H) :ìb v T/\∀a,v=.ref a->∃ob,ø a=À ob/\ob.dict=Å:=by
 cases x with
 |str z=>let{t,rfl}:=r;cases(show T = ϖe from f);show{Ėf s z t,λ_ e=>nomatch e}
 |int i=>let{t,rfl}:=r;cases(show T = ĭc from f);show{Ši s i t,λ_ e=>nomatch e}
 |ref p=>
  cases r;rcases f with⟨rfl,u,l⟩|⟨rfl,o,b,m,h⟩|⟨rfl,b⟩|⟨rfl,S,n,b⟩;let{q,_,j,_}:=Ϛ l;show{j.isList.typeIs,λa e=>?_};cases e;let{o,n,e,c,h,_}:=j;show{o,e,h};show{{o,ϝ p o b,m},λa e=>?_};cases e;show{o,ϝ _ o b,h};let z:∃o,ø p=À o/\Ĉo:=by rcases b with⟨g,b⟩|⟨g,b⟩;rw[Ĥq];rw[Ĥq]
  let{o,e,d}:=z;rw[ďq];let{o,_,_,_,e,d,_}:=Ě p _ b;rw[ďq]
 |_=>show ğa f
nonrec def z03(K:Ô)(T:ìa)(r:V->Á V->Hp->VK->È)(b:TE):TE:=λσ H Q=>b σ H λx a=>SR K T x a/\r x [] a Q
nonrec def z02(K:Ô)(T:ìa)(r:V->Á V->Hp->VK->È)(c:TE)(t:TA):TE:=λσ H Q=>c σ H λx a=>SR K T x a/\t σ a λb d=>r x b d Q
variable{o e:Ö}{es:Á Ö}{to:TE}{t:TA}{Ĳ:Ç}{Åa Ϯ:Pos}{T id:ìa}{r:V->Á V->Hp->VK->È}
def y8f(q:ώf T)(c:Slot T Ĳ id)(d:ŀg Ùb=pure Ìf)(l:TC X id r)(n:PE X o to)(b:Î ϱe q12)(a:Î Ĺb q12):PE X Ÿl (z03 X.K T r to):=by rw[ñq];show wpAny_Call_method0_late b a (zx ġm λv j e=>?_);let{x,u,i,g,t,m}:=e;let{p,k}:=z0f i g t;show{T,id,q,c,d,p,k,Ëh rfl (PySem.evalArgs_none (l f j σ u x [] v [] Q i g .nil m))}
def y8e(F:ώf T)(f:Slot T Ĳ id)(i:ŀg Ùb=pure Ìf)(z:TC X id r)(C:PE X o to)(P:PA X ĕ t)(c:Î ϱe q12)(g:((ĩc Ϯ (Îb ĕ Û)).all Ŀi&&(ŷk).all ŕm
   && decide ((ĕ).length+([]:Á Keyword).length+ŉk<30))=Ä:=by rfl)
  (b:Î Ĺb q12)(O:Î ĵc q12)(a:Î ((ĩc Ϯ Đi).any (·.1)=Ã) q12) :
  PE X ŕl (z02 X.K T r to t):=by
 intro j s σ H Q I h;show wpAny_Call_method_late c g b rfl (zx (C j s σ H _ I h) λv n d=>?_);let{x,N,l,k,G,A}:=d;let{E,u}:=z0f l k G;show{T,id,F,f,i,E,u,?_};let m:=P Ϯ j n σ N _ l A;rw[O]at m ⊢;refine Ëh (by exact(Ã||(ĩc Ϯ Đi).any (·.1))=Ã;rw[a]<;>rfl) (ϑl ?_);show zx m λB q d=>?_
 let{w,J,y,p,L}:=d;show z j q σ J x w v B Q y k p L
#print a
def C6(X:Cx)(id:ìa)(r:V->Á V->Hp->VK->È):È:=
 ∀(zA:Á õ) (s:Í) (σ:St) (H:Hp) (x:V) (xs:Á V) (v:Value) (us:Á Value) (Q:VK),Inv X zA σ H s->yB x v->zo xs us->r x xs H Q->
  Ù Ą X.A Ģm ňb į s
def zo.one{x:V}{us:Á Value}(h:zo [x] us):∃u,us=[u]/\yB x u:=by cases h with|ð r t=>cases t;show{_,rfl,r}
def zo.zero:∀{us:Á Value},zo [] us->us=[]
 |_,.nil=>rfl
theorem zo.dropLast{xs:Á V}{us:Á Value}(h:zo xs us):zo Īi us.dropLast:=by
 induction h with
 |nil=>show .nil|ð r t ih=>
  cases t with
  |nil=>show .nil|ð q t'=>show .cons r ih
theorem zo.rep{xs:Á V}{us:Á Value}(h:zo xs us):∀k:Â,zo (ϛo).flatten (Ő k us).flatten
 |0=>.nil|k+1=>by rw[Čb,Čb,ŋc,ŋc];show Ϫf h (zo.rep h k)
def z6v{α:Type}(l:Á α):l.eraseIdx (Ĕc-1)=l.dropLast:=by
 induction l with
 |nil=>rfl|ð a r ih=>
  cases r with
  |nil=>rfl|ð b r=>
   let e:(źp).length-1=((b::r).length-1)+1:=by let c:(źp).length=ϊ+2:=rfl;let d:(b::r).length=ϊ+1:=rfl;omega
   rw[e,List.eraseIdx_cons_succ,ih]
   all_goals rfl
theorem fO(its:Á Value):∀(k:Â)(acc:Á Value),
  ūi (λx1 x2=>x1++x2) đo (Ő k ϥ)=(acc++(Ņo).flatten).toArray
 |0,acc=>by simp|k+1,acc=>by
  let e:đo++ϥ=(Żi).toArray:=by simp
  let e2:Żi++(Ņo).flatten=acc++(Ő Ň its).flatten:=by rw[Čb,ŋc,Š]
  rw[<-e2,<-fO its k Żi,<-e,Čb,Êa]
section
variable{X:Cx}{zA:Á õ}{σ:St}{H:Hp}{s:Í}{l b:Ë}{xs ys:Á V}
def Inv.FJ{its Êb:Á Value}{n:Â}{f:Ú Value->Ú Value}{t':Â}(I:Inv X zA σ H s)(d:H l=À Ϩ)(e:ø l=À { cls:=.type Ĩ,ć:=.seq ϥ n })(b:f ϥ=þi)(hv:zo ys Êb)(hz:Ŭ<=ä) :Inv X zA σ Æo { s with ç:=Śc l (äb f),Ĕ:=t' }:=by let q:=PySem.IsL.update e f;rw[b]at q;refine Ĝg (x:=l) (e:=l) (by rw[d];show trivial) Ţ (λg u c a=>(Ϲg â (äb f) (ũb c)).trans a) {_,q} ?_;show{hz,Êb,_,hv,q}
def Inv.bB{its:Á Value}{t':Â}(I:Inv X zA σ H s)(hv:zo ys its)(hz:Ŭ<=ä) :Inv X zA σ (ze H Ý Ğa) { s with ç:=Ùa { cls:=.type Ĩ,ć:=.seq ϥ },Ĕ:=t' }:=
 Ϗa łh Ē {hz,its,0,hv,ŷ _ rfl}
theorem Inv.fresh(I:Inv X zA σ H s):H Ý=Å:=Ęb Ē
def Inv.Ld(I:Inv X zA σ H s)(a:H l=À Ϩ):ë<=ä/\∃(its:Á Value) (n:Â),zo xs its/\ë=Ϫa/\ø l=À { cls:=.type Ĩ,ć:=.seq ϥ n }:=by let{z,its,n,r,e}:=Ě l _ a;show{z,its,n,r,ϊ,e}
def m8{n:Â}(h:n<=ä):ϝd n=Ã:=by unfold ϝd;show ď Ê
#print a
section
variable{X:Cx}
def x0k:V->Á V->Hp->VK->È:=λx a H Q=>∃l xs y,x=.ref l/\a=[y]/\H l=À Ϩ/\ë<ä/\Q .zO (ze H l În)
def lP:C6 X ńn x0k:=by intro i s σ H x j v k Q I d f h;let{l,g,y,rfl,rfl,b,o,q}:=h;cases d;let{u,rfl,c}:=f.one;let{z,a,n,r,m,e}:=I.Ld b;refine őc F.slot_list_append {_,e,rfl} F.entry_list_append (F.args_list_append_2 _ _) (PySem.list_append l ϭa n u Ŋh) {e,?_};refine{.zO,_,I.FJ (Êb:=a++[u]) b e ô (ϒc (.cons c .nil)) ?_,rfl,q};rw[ì,èf];omega
def x0s:V->Á V->Hp->VK->È:=λx a H Q=>∃l xs y,x=.ref l/\a=[]/\H l=À Ϩ/\xs[ë-1]?=À y/\Q y (ze H l (.lst Īi))
def y32:C6 X "list.pop" x0s:=by
 intro p s σ H x t v w Q I j m h;let{l,o,y,rfl,rfl,d,f,q}:=h;cases j;let c:=m.zero;subst c;let{z,a,n,r,k,e}:=I.Ld d;let{u,i,g}:=Äb f
 let b:ϭa[ϔb-1]?=À u:=by exact ϭa[úa-1]?=À u;rw[<-ĭa,<-k];show i
 refine őc F.slot_list_pop {_,e,rfl} F.entry_list_pop (F.args_list_pop_1 _) (MeetsSeq.list_pop_last l ϭa n u b Ŋh) {e,?_};show{y,_,I.FJ (Êb:=a.dropLast) d e ?_ r.dropLast ?_,g,q};exact a.toArray.eraseIdxIfInBounds (ϔb-1)=a.dropLast.toArray;rw[Ĭ,List.eraseIdxIfInBounds_toArray,z6v];rw[ϐl];omega
def x0u:R2:=λx y H Q=>∃l k xs,x=.ref l/\y=.int k/\H l=À Ϩ /\ -(2 ^ 63)<=k/\k<2 ^ 63/\ë*Ϸ<=ä/\
 ∀p,H p=Å->Q Ŵ (Ω (.lst (Ϻn).flatten))
def l9{α:Type}(xs:Á α)(k:Â):(ϛo).flatten.length=k*ë:=by
 induction k with
 |ŏ=>simp|ş k ih=>rw[Čb,ŋc,ì,ih,ći,Ĕd]
theorem y80:xD X ļi x0u:=by
 intro L s σ H x y v u Q I E K h;let{l,k,N,rfl,rfl,J,w,C,p,q}:=h;cases E;let{t,rfl}:=K;let{z,b,n,r,G,e}:=I.Ld J;have d:ĕb*Ϸ<=ä:=by rw[Ĭ,<-G];show p
 let i:¬ ĕb*Ϸ>Ëp/8:=by
  let:(ä:Â)<=Ëp/8:=by decide
  omega
 let f:¬ (!Builtin.List.listFitsIndex k)=Ä:=by rw[fitsIndex_both w C];show ġ
 let c:¬ ϝd (ĕb*Ϸ)=Ä:=by rw[m8 d];show ġ
 let g:ūi Ŭn #[] (Ő (if b.toArray.isEmpty=Ä then 0 else Ϸ) çb)=(Ő Ϸ b).flatten.toArray:=by
  let B:∀m:Â,ūi Ŭn #[] (Ő m çb)=(Ő m b).flatten.toArray:=λm=>by let:=fO b m [];rw[ìc]at this;rw[Ϯp]
  rw[B];cases b with
  |nil=>simp|ð a r'=>rw[Ñ ô]
 refine wpAny_binaryOp_repeat_ref (T := Ĩ) (U := ĭc) Ò {_,e,rfl} (λA=>Ši A k t) noFill_list_mul F.fills_int_mul Án repeat_list F.slot_int_index.lookup
  (őc Án (Ši s k t) F.entry_int_rmul (F.args_int_rmul_2 _ _) (int___rmul___int_list k t l çb n)
   {e,rfl,{_,e,rfl},őc F.slot_list_mul {_,e,rfl} F.entry_list_mul (F.args_list_mul_2 _ _) (AutoListH.list___mul___list_int_3 l çb n k t f i c) {e,?_}})
 rw[g];show{.ref _,_,I.bB (t':=ē) (r.rep Ϸ) (by rw[l9,Ϯn];show p),rfl,q _ Ϝc}
#print a
#print L2
namespace Att
open ľ Ŏj PySem.Calls ŋ
def y00{P:ōg}{h:Heap}:∀(ns:Á Æ)(vs:Á Value),WellAll P h vs Ņc->ób vs ns:=by
 intro ns
 induction ns with
 |nil=>intro vs w;rw[òe]at w;cases w;show .nil|ð n ns ih=>
  intro vs w;rw[ĵ]at w;cases w with
  |ð a b=>cases a;show .cons _ _ (ih _ b)
def script_of{l:OpenLaw}{n:Â}(t:ϙj=À n){P:ōg}{h:Heap}{Ąa:Á WData}{c:Á Value}(b:l.row.toRowW.claim.pre Ąa=Ä)(i:WellAll P h c Ąa) :∃a vs ns,c=[Ė a]/\Ąa=[WData.list Ņc]/\Ğ a=À { cls:=.type Ĩ,ć:=.seq ŷa }/\ób vs ns/\ţ<=n:=by
 let j:WShape.hasAll [] Ąa [.list .int]=Ä:=Īn.1;let k:l.pre.holds [] { Ąa:=Ąa }=Ä:=Īn.2;let{d,r,rfl,p,m}:=hasAllW_cons j;obtain rfl:=hasAllW_nil m;let{u,rfl,o}:=hasW_list p;let{ns,rfl}:=items_int o
 let e:ţ<=n:=by
  unfold OpenLaw.pre at k
  let f:(WTm.not (.lt (.lit ļn) (.len (.arg 0)))).holds [] { Ąa:=[.list (Ϥ .int)] }=Ä:=by let f:=(holds_andW k).1;rw[t]at f;show f
  let g:=condW_of f (w_not (ϻc w_lit (w_len_list (w_arg rfl))));rw[ã]at g;show ęf λq=>?_
  let s:(n:Æ)<((ţ:Â):Æ):=by omega
  first
   |(rw[ú s]at g;show Þ g Ò)
   |(simp at g;omega)
 cases i with
 |ð w1 w2=>
  cases w2;cases w1 with
  |list ho hall=>show{_,_,ns,rfl,rfl,ho,y00 ns _ hall,e}
def post_true(l:OpenLaw)(Ąa:Á WData):l.row.toRowW.claim.post Ąa źf Ąa=Ä:=
 postW_of (r:=ýi) (X:=Ϝo)
  (show ϋo [] źf .bool=Ä by first|rfl|decide|simp[ϋo,WShape.arms,WShape.armsAll])
  (show(WTm.eq .res (.lit źf)).value [] { Ąa:=Ąa,res:=À źf,after:=Ąa }=À (.bool Ϝo)from w_eq_bool (w_res rfl) w_lit) rfl
#print Att
namespace L2
open ľ ś ŋ
theorem z0r:∀{vs:Á Value}{ns:Á Æ},ób vs ns->zo Ϩa vs
 |_,_,.nil=>.nil|_,_,.cons n t h=>.cons {t,rfl} (z0r h)
def ce(H:Hp):È:=∀b,H b=Å\/∃o xs,H b=À Ŧo
def y1l{P:ï}{w:æ}{K:Ô}{t N:Ç->É Value}{CX:ZL}{k:Â}{S a:Ë}{fd:Ņ}{x:Ç}{sp:Sp}{c:Í}{vs:Á Value}{ns:Á Æ}(KX:Ŷ ϡj)(E:Ϧi Ę t)(g:Ϧi ťi N)(T:∀x:Ç,x ≠ Ŝi->N x=ϕ x)(J:c.heap.NoLimit)(hg:c.gens=#[])(L:Įi a=À { cls:=.type Ĩ,ć:=.seq ŷa })(hi:ób vs ns)(hl:ţ<=ä)(hr:yk k ŕd)(F:∀Ì:Heap,Ŷ Ì->Ŗd Ę t->xc P w K t Ì CX k S fd [x] sp)(l:∀(s:Í)(u:Value),Ħb s fd {[u],[]} [(x,u)])(R:∀H:Hp,ce H->ya K H a Ϩa->sp ϲ H Đm λ_ _ _=>Ā)(O:∀H e s',CX [] H c (λ_ _ _=>Ā) e s'->Ā) :ĥb Ŗb ŕd ēl êk c:=by
 let X:=z0r hi;let C:=hi.length
 have j:∀H:Hp,ce H->ya K H a Ϩa->wX P w H ϡj->(∀b,H b≠Å->b=a)->(H a≠Å->Àa a=Å)->
   ĥb Ŗb ŕd ēl êk c:=by
  intro H hO hS Y Z hK;let f:∀{b:Ë}{o:Obj},Įi b=À o->H b=Å->(íe).get? b=À o:=λe n=>z9l e n
  let Q:∀{b:Ë}{o:Obj}{p:Ú Ċc}{B:Â},Įi b=À o->ϸ=.dict p B->H b=Å:=λ{b o p B} e d=>by
   cases q:H b with
   |Å=>rfl|À u=>have U:b=a:=Z b ϡh;subst U;rw[L]at e;cases e;let d':Data.seq ŷa _=Data.dict p B:=d;cases d'
  let i:∀{b:Ë}{m:Ç->É Value},Ϧi b m->(íe).Ns b m:=λ{b m} ⟨o,p,B,e,d,r⟩=>{o,p,B,f e (Q e d),d,r}
  let I:Ŷ íe:=λb o e=>f (KX b o e) (by
   cases q:H b with
   |Å=>rfl|À u=>have U:b=a:=Z b ϡh;subst U;rw[hK ϡh]at e;cases e)
  let hM:Mod K t íe:={I,i E,{N,i g,T},let ⟨mc,h1,h2⟩:=J;{mc,i h1,h2}};let e0:Wi P w K t íe ŕd [] c H:={rfl,hM,λb o e=>y4w e,ŋb (z9m _ _),trivial,λb g=>Þ (show b∈([]:Á Ë)from g) ô,Y,.of_eq hg};show éd ((F _ I (i E)).run ŕd [] c H {ϲ,[]} ϲ ϲ _ _ hr e0 (l c Ŗ) žh (R H hO hS)) λr s' h=>?_
  cases r with
  |Ϛe e=>show(O H e s' h).elim|ok fl=>
   cases fl with
   |next=>show ğa h|brk=>show ğa h|Ðc=>show ğa h|ret u=>
    let{v,H',os,y,un,A,r',q}:=h;let q':v=.bl Ä:=q;subst q';obtain rfl:u=όf Ä:=r';show{rfl,OldK.of_keep λb o e=>?_,os,y};cases q:H b with
    |Å=>show un.keep b o e q (by intro z;show Þ (show b∈([]:Á Ë)from z) ô) ô|À u=>
     rcases hO b with z|⟨ob,xs,z⟩
     .rw[q]at z;cases z
     .let z2:=un.uz b ob _ z;let{e1,_}:=Y b _ z;let{e2,_}:=A b _ z2;rw[e]at e1;cases e1;show e2
 cases hk:Àa a with
 |À o=>have e:=KX a o hk;rw[L]at e;cases e;refine j ăc Ôn (.inr {_,ŷa,_,hk,rfl,rfl,rfl,by rw[Ĭ,C];show hl,by simpa using X}) (λb u z=>by let G:(Å:É HO)=À u:=z;cases G) (λb z=>Þ rfl z) λz=>Þ rfl z|Å=>show j (λb=>if b=a then À (.yj { cls:=.type Ĩ,ć:=.seq ŷa } (Β Ϩa))else Å) (λb=>?_) (.inl (.inr {{ cls:=.type Ĩ,ć:=.seq ŷa },Ï rfl})) (λb u z=>?_) (λb z=>?_) λ_=>hk;by_cases g:b=a;show .inr {_,_,Ï g};show .inl Ŭj;by_cases g:b=a;let G:=(Ï g).symm.trans z;cases G;subst g;show{L,by rw[ã];show hl,vs,_,X,L};let G:=(Ŭj).symm.trans z;cases G;by_cases g:b=a;show g;show Þ Ŭj z
nonrec def ZX(s:Ü)(j:Â):Ü:=match s with
 |.ClassDef _ _ _ ăb _ _ _ _ _ _ _=>body.getD j ŭm|_=>.Pass {0,0,0,0}
nonrec def ja(s:Ü):ĉp:=match s with
 |.FunctionDef _ a _ _ _ _ _ _ _ _=>a|_=>{ posonlyargs:=[],Ąa:=[],vararg:=Å,kwonlyargs:=[],kw_defaults:=[],kwarg:=Å,defaults:=[] }
nonrec def vx(s:Ü):Á Ü:=match s with
 |.FunctionDef _ _ b _ _ _ _ _ _ _=>b|_=>[]
nonrec def za(s:Ü):îa:=match s with
 |.FunctionDef _ _ _ _ _ _ sc _ _ _=>sc|_=>{ kind:=.function,ųb:=[],isGenerator:=Ã,isCoroutine:=Ã }
abbrev xS:ZL:=λ_ _ _ _ _ _=>Ā
abbrev E0:XK:=λ_ _ _=>Ā
def Yj{X:Cx}:Xd xS X E0:=λ_ _ _ _ _ _ _ h=>ϥc
structure Fun(K:Ô)(x qual:Ç)(st:Ü)(f:Ë)(fd:Ņ):È where
 ex:∃(oc:Value) (od:É Ë) (kV doc pm:Value) (an:É Ë) (cdv ct:Value) (osl:Ú ϩa),
  fd=Ϩc x qual ŝd Ýa ŗ .none kV doc pm an cdv ct/\Àa f=À {oc,od,.func fd,osl}/\ťb K cdv qual=Ä
 kp:Üa K Ī=Ä
section
variable{P:ï}{w:æ}{K:Ô}{mg:Ç->É Value}{Ì:Heap}
def Fun.ok{x a:Ç}{st:Ü}{f:Ë}{i:Ņ}{N ps:Á Ç}{k:Â}{sp:Sp}(F:Fun K x a st f i)(S:zm N ps ŗ)(g:∀vs H Q E,sp vs H Q E->đ=ģ)(c:∀(b:Value)(A:ù)(ĉ:Á Env)(s:Í)(H:Hp)(vs:Á V)(Q:VK)(E:XK),yk k ąl->sp vs H Q E->
   ∃t,uk (ļk).qb Ýa t/\t { nx:=λ_ H'=>Q .zO H',rt:=Q } ŧc H):xc P w K mg Ì xS Ň f i ps sp:=by
 let{o,u,kV,l,p,v,b,r,m,rfl,n,d}:=F.ex;show fN n d S g λA ĉ s H vs Q E j e=>?_
 rw[Ĕq]
def Fun.binds{x a:Ç}{st:Ü}{f:Ë}{g:Ņ}{ps:Á Ç}(F:Fun K x a st f g)(h:∀(kV c d:Value)(e:É Ë)(b ct:Value)(us:Á Value),èa=ģ->âg (Ϩc x a ŝd Ýa ŗ .none kV c d e b ct) {us,[]}=pure þc):uN K g ps []:=by let{k,l,kV,c,d,e,b,ct,j,rfl,m,i}:=F.ex;show .all (h kV c d e b ct)
def fR{x a:Ç}{st:Ü}{f:Ë}{i:Value}{j h:É Ë}{e:Ú ϩa}{kV d g b ct:Value}(l:Àa f=À {i,j,.func ĩk,e})(c:ťb K b a=Ä)(k:Üa K Ī=Ä):Fun K x a st f ĩk:={{i,j,kV,d,g,h,b,ct,e,rfl,l,c},k}
#print a
def zR{A:ù}{k:Â}(a:yk k A):Ša+1<ϛ:=Ðb (àc (by decide:1<=64) _) a.units
def x4d{n:Â}(h:n<=1000):n<ä:=Ðb h Ò
def kG{A B:È}(h:B):if Ã=Ä then A else B:=by rw[Ñ ġ];show h
def kH{A B:È}(h:A):if Ä=Ä then A else B:=by rw[Ï rfl];show h
def yF(H H':Hp):È:=∀b o,H b=À o->H' b=À o
def śa(H:Hp):yF H H:=λ_ _ h=>h
def yF.trans{H d e:Hp}(a:yF H d)(b:yF d e):yF H e:=λc o h=>b c o (a c o h)
def yF.free{H H':Hp}(e:yF H H'){l:Ë}(h:H' l=ęo):H l=ęo:=by
 cases q:H l with
 |Å=>rfl|À o=>rw[e l o q]at h;cases h
#print L2
set_option linter.all false
set_option maxRecDepth 100000
set_option maxHeartbeats 4000000
namespace L2
open ľ ś ŋ
def Def(K:Ô)(a:Ç->É Value)(x:Ç)(st:Ü)(ps:Á Ç):È:=
 ∃(f:Ë) (fd:Ņ),Fun K x x st f fd/\a x=À Ī/\uN K fd ps []
def wu(P:ï)(w:æ)(K:Ô)(b:Ç->É Value)(a:Heap)(x:Ç)(ps:Á Ç)(k:Â)(sp:Sp):È:=
 ∃(f:Ë) (fd:Ņ),b x=À Ī/\Üa K Ī=Ä/\uN K fd ps []/\xc P w K b a xS k f fd ps sp
def v6(a:Ç->É Value)(x:Ç)(v:V):È:=∃u,a x=À u/\yB v u
section
variable{P:ï}{w:æ}{K:Ô}{mg:Ç->É Value}{Ì:Heap}
theorem Def.ok{x:Ç}{st:Ü}{N ps:Á Ç}{k:Â}{sp:Sp}(d:Def K mg x st ps)(S:zm N ps ŗ)(c:∀vs H Q E,sp vs H Q E->đ=ģ)(a:∀(f:Ë)(b:Value)(A:ù)(ĉ:Á Env)(s:Í)(H:Hp)(vs:Á V)(Q:VK)(E:XK),yk k (ěb (êb x ŗ Ý f b))->sp vs H Q E->
   ∃t,uk (qO xS P w K mg Ì N x ŗ f b A ĉ s H E).qb Ýa t/\t { nx:=λ_ H'=>Q .zO H',rt:=Q } ŧc H):wu P w K mg Ì x ps Ň sp:=by
 let{f,h,F,g,e}:=d;show{f,h,g,F.kp,e,Ņa S c (a f)}
#print a
section
variable{X:Cx}{x:Ç}{p pos:Pos}{e:Ö}{es:Á Ö}{t:TA}{ps:Á Ç}{j k:Â}{sp:Sp}{v:V}{T:ìa}
nonrec def xM:Ö->Ð
 |.Starred ..=>Ã|_=>Ä
def qV{e:Ö}{es:Á Ö}{env:Env}(h:xM e=Ä):Îb ĕ env=(Ã,Ĥ e env)::Îb es env:=by cases e<;>first|rfl|cases h
theorem Zp{env:Env}{pos:Pos}:∀{es:Á Ö},es.all xM=Ä->(Ďm).any (·.1)=Ã
 | [],_=>rfl|e::es,h=>by rw[ϔ,Ď]at h;rw[qV h.1];let a:=Zp (env:=env) (pos:=pos) h.2;unfold ĩc at a ⊢;rw[ĵ,Čd,a];rfl
def Vp{a:TE}(c:PE X e a)(b:PA X es t)(h:Î Ča q12):PA X ĕ (SC a t):=y86 c b (qV h)
nonrec def Lz:Ö->É Æ
 |.Constant ϵ _ _=>À i|_=>Å
def z3m{e:Ö}{i:Æ}(h:Lz e=À i):∃k p,e=.Constant ϵ k p:=by
 cases e<;>first|(cases h;done)|skip
 rename_i c k p;cases c<;>first|(cases h;done)|skip
 cases h;show{k,p,rfl}
def ώa:Á Ö->É Êg
 | []=>À []|e::r=>(Lz e).bind λi=>(Şj).map (i::·)
theorem mq:∀{es:Á Ö}{is:Á Æ},ώa es=À is->PA X es (λ_ H Q=>Q (is.map üb) H)
 | [],is,h=>by cases(show À []=À is from h);show Tu|e::r,is,h=>by
  let q:((Lz e).bind λi=>(Şj).map (i::·))=À is:=h;cases e1:Lz e with
  |Å=>rw[e1]at q;cases q|À i=>
   rw[e1]at q;let{k,p,rfl}:=z3m e1;cases e2:ώa r with
   |Å=>rw[e2]at q;cases q|À js=>rw[e2]at q;cases(show À (i::js)=À is from q);show Vp mz (mq e2)
def BE(h:wu ö X.w X.K ñ Ľ x ps k sp)(i:yk j X.A)(l:Gl X x)(m:PA X ĕ t)(hk:Î ϻa q10)(a:Î ō q10)(c:Î òa q12):PE X Ŭa òn:=by let{f,n,d,g,b,F}:=h;rw[ϔ,Ď]at c;show y8h F (i.mono hk) l d g b .nil Yj m a (qV c.1) (Zp c.2)
def OB(h:v6 ñ x v)(a:Gl X x)(b:Î ō q10):PE X ôa ſe:=by let{u,c,r}:=h;show y8r a c r b
def y8g(b:Gl X x)(c:ñ x=Å)(hv:ϕ x=À Ϫb)(d:Î Ďb q10)(a:Î ō q10):PE X ôa Òo:=
 y8d b c hv rfl d a
#print a
section
variable{X:Cx}
def ub:xD X (ϧa .FloorDiv) ϊk:=Tt λi j _ _ _ _ _ a q=>by let b:(0:Æ)<j:=a.1;let c:j<2 ^ 64:=a.2;let d:j.natAbs.log2<64:=(ţh).mpr Ê;show PyProof.Rows.floordiv_int Ê (by rw[ôl i Ê];show q) (.inl (PyProof.noPylong_of_log2 Ê))
#print a
def t6:ϕ "len"=À üd:=by rw[Ϩp]
def z4d:ϕ Ŗc=À Ãi:=by rw[Ϩp]
def z4f:ϕ "sum"=À Ϫm:=by rw[Ϩp]
def z4c:ϕ "all"=À ϫm:=by rw[Ϩp]
def z4a:ϕ ĭc=À ϣa:=by rw[Ϩp]
def z49:ϕ ūe=À ϡa:=by rw[Ϩp]
def M6:ϕ Ĩ=À Ĝa:=by rw[Ϩp]
def Eu:ϕ Ϗ=À Ŷa:=by rw[Ϩp]
def y11{K:Ô}:Ů K ϣa ϣa=À Ä:=by rfl
def y0z{K:Ô}:Ů K ϡa ϣa=À Ä:=by rw[Áq]
def y10{K:Ô}:Ů K ϣa ϡa=À Ã:=by rw[Áq]
def y0y{K:Ô}:Ů K ϡa ϡa=À Ä:=by rfl
def y13{K:Ô}:Ů K îd ϣa=À Ã:=by rw[Áq]
def y12{K:Ô}:Ů K îd ϡa=À Ã:=by rw[Áq]
def y15{K:Ô}:Ů K Ŷa Ŷa=À Ä:=by rfl
def y14{K:Ô}:Ů K Üb Üb=À Ä:=by rfl
def t8{H:Hp}{p:Ë}(h:H p=Å)(o:HO):yF H ŷc:=λb u q=>by rw[yH (qo q h)];show q
def ÿb{n:Â}(h:n<=1000):n<=ä:=óa (x4d h)
def XM(env:Env):Á ϫa->È
 | []=>Ÿb|p::r=>Ũh p.1=À p.2/\XM env r
theorem XM.get{env:Env}:∀{cl:Á ϫa} {y:Ç} {c:Ë},XM env cl->ϳf y=À c->Ũh y=À c
 | [],_,_,_,h=>by cases h|(n,a)::r,y,c,hc,h=>by
  rw[Íe]at h;cases e:y==n with
  |Ä=>
   rw[e]at h;let d:y=n:=by rw[ėq]
   subst d;let b:a=c:=by rw[įq]
   subst b;show hc.1
  |Ã=>rw[e]at h;show XM.get hc.2 Ĉa
nonrec def TN(a:îa)(env:Env)(b:Á ϫa)(own:Á Ç):Ð:=
 įi λp=>p.1 != ("." : Ç)&&((p.2 == .local&&(Őf p.1||p.1==(".0" : Ç)))||p.2 == .globalImplicit||p.2 == .globalExplicit ||
  (p.2 == .free&&(ųc p.1==À .cell||ųc p.1==À .free)&&(b.lookup p.1).isSome))
nonrec def ŷb(own:Á Ç)(y:Ç):Ç:=if Őf y||y==(".0" : Ç)then "." else y
def wJ(N own:Á Ç):Á Ç:=Ŵb (ŷb own)++own
theorem Ng{env:Env}:∀{ųb:Á (Ç×ĕc)} {y:Ç} {k:ĕc},
  (Ϟi λ(n,k)=>if(k==Ŗn&&ăn == .function&&ųc n==À .cell)then(n,ŗn)else(n,k)).lookup y=À k->∃k0,(y,k0)∈ųb/\(k=k0\/(k0=.free/\k=.cell))
 | [],_,_,h=>by simp at h|(n,k')::r,y,k,h=>by
  rw[ĵ]at h;by_cases hc:(k'==Ŗn&&ăn == .function&&ųc n==À .cell)=Ä;dsimp only at h;rw[Ï hc,Íe]at h;cases e:y==n with
  |Ä=>
   rw[Źq]
   subst b;let a:ŗn=k:=by rw[įq]
   let c:k'=.free:=by rw[Ď,Ď]at hc;simpa using hc.1.1
   show{k',Ġ,.inr {c,a.symm}}
  |Ã=>rw[e]at h;let{k0,m,z}:=Ng (env:=env) Ĉa;show{k0,Ų _ m,z}
  dsimp only at h;rw[Ñ hc,Íe]at h;cases e:y==n with
  |Ä=>
   rw[Źq]
   subst b;let a:k'=k:=by rw[įq]
   show{k',Ġ,.inl a.symm}
  |Ã=>rw[e]at h;let{k0,m,z}:=Ng (env:=env) Ĉa;show{k0,Ų _ m,z}
def vi(X:Cx)(a:îa)(b:Á ϫa)(own:Á Ç)(C:Ë)(c:Í)(e:Hp)(d:Á Ë)(pn:Á õ):Cx:=
 { X with N:=wJ X.N own,s₀:=c,H₀:=e,env:=compEnvC a b C Û,ĉ:=Ŝa,stack:=Ŝa,ex:=d,fn:=λ_=>Ã,pn:=pn,xe:=λ_ _=>Ā }
section
variable{X:Cx}{zA:Á õ}{σ:St}{H2:Hp}{s2:Í}{Ł:îa}{cl:Á ϫa}{own:Á Ç}{C D:Ë}{fp:Á Ë}
def dO(f:TN Ł Û cl own=Ä){y:Ç}{k:ĕc}(h:(Èe).names.lookup y=À k) :y ≠ "."/\((k=.local->Őf y=Ä\/y = ".0")/\((k=.cell\/k=.free)->(∃k0,(y,k0)∈ęd/\k0=.cell)\/(ſk/\∃c,ϳf y=À c))):=by
 let{k0,m,z}:=Ng h;let q:=âa f _ m;rw[Ď]at q;let{g,e}:=q;refine{by rw[ųq],λa=>?_,λa=>?_};rcases z with z|⟨_,z⟩;subst z;subst a;rw[ėq];rw[z]at a;cases a;let b:k0=.free\/k0=.cell:=by rcases z with z|⟨z,_⟩;subst z;rcases a with a|a;show .inr a;show .inl a;show .inl z
 rcases b with b|b;subst b
 right
 let d:((ŗc y==À .cell||ŗc y==À .free)&&(ϳf y).isSome)=Ä:=by rw[ėq]
 rw[Ď]at d;show{?_,ĺb d.2};let:=d.1;rw[ħf]at this;rcases this with t|t;show .inl ģm;show .inr ģm;show .inl {k0,m,b}
def Ep(b:TN Ł Û cl own=Ä)(a:∀y∈ęd,y.2≠.cell){y:Ç}{k:ĕc}(h:(Èe).names.lookup y=À k)(hk:k=.cell\/k=.free) :ſk/\∃c,ϳf y=À c:=by rcases(dO b h).2.2 hk with⟨d,m,e⟩|q;show Þ e (a _ m);show q
def dP(I:Inv X zA σ H2 s2)(hk:ši=.function)(d:∀y∈ęd,y.2≠.cell)(f:XM Û cl)(j:TN Ł Û cl own=Ä)(k:ćf<=C)(g:∀b∈fp,g7 X zA H2 b)(i:∀b∈fp,∃o,úi b=À o):(Şk).Ok where
 mod:=Ąj
 kind:=hk
 glob:=I.ok.glob
 blt:=I.ok.blt
 above:=k
 inj:=λx y c l m=>I.ok.inj x y c (f.get l) (f.get m)
 has:=λx a=>by rcases a with a|a;show(Ep j d (show(Èe).names.lookup x=_ from a) Ţ).2;show(Ep j d (show(Èe).names.lookup x=_ from a) ćc).2
 Ua:=λx c h=>by cases h
 hd:=ýa
 ϝj:=ġo
 J4:=.inl rfl
 Qz:=λb a=>{by let{o,e}:=i b a;show Ϟ (Ū Ėc k),λx c h=>źj.2.2.2.2.1 x c (f.get h)}
 bs:=I.bs
 ZI:=ÿ ĝg I.sz
 Ud:=λb o e a=>by rcases(g b a).2.2.2.1 with z|z;show I.ok.Ud b o e z;show Þ (Ū Ėc (ÿ ĝg z)) Ēa
 Ub:=λb a n=>by rcases ĩ (I.J5 b n)with z|z;show źj.2.1 z;show źj.2.2.1 z
 jR:=I.stack
 XF:=I.bI
def MZ{α:Type}{σ:Á (É α)}{n i:Â}{v:α}(h:Ϙh[i]?=À Áa):σ[i]?=À Áa:=by
 by_cases hi:i<σ.length;rw[ūa hi]at h;show h;rw[ſb Ê,Ϡd]at h
 split at h<;>cases h
def z47{H:Heap}{m0:Ç->É Value}{g:Obj}{tk:Â}(I:Inv X zA σ H2 s2)(hk:ši=.function)(s:∀y∈ęd,y.2≠.cell)(j:XM Û cl)(U:TN Ł Û cl own=Ä)(Q:ćf<=C)(hD:ćf<=D)(K:D≠C)(T:∀b∈fp,g7 X zA H2 b)(O:∀b∈fp,∃o,úi b=À o)(f:∀b o,úi b=À o->ϭj b=À o)(ns:H.Ns C m0)(hd:ϭj D=À g)(R:∀v,g.data≠.cell v) :Inv Şk [(D,g)] ôd H2 { s2 with ç:=H,Ĕ:=tk }:=by
 let W:∀a,ćf<=a->a ∉ jf Ŝa:=λa ha S=>by rcases ĩ (I.J5 a S)with z|z;show Þ (Ū I.lt ha) (by rw[z];show Ôc _);show I.bD ha z
 show{dP I hk s j U Q T O,rfl,ϑa,ŕe f,{m0,ns,λi y v e1 e2 e3=>?_},λx c h=>?_,Ęb Q,λx c h=>Ĵb x c (ŧg h),λp hp=>?_,ćp f,?_};let E:σ[i]?=À Áa:=MZ e2
 let hi:i<ò:=by let:=(Ŀ E).1;rw[Āb]at this;rw[Ϯp]
 let q:Ďl[i]?=À y:=e1;rw[ūa ÿf,ė]at q;cases en:X.N[i]? with
 |Å=>rw[en]at q;cases q|À n=>
  rw[en]at q;let G:ŷb own n=y:=Ça q
  let L:∃k,(Èe).names.lookup y=À k/\(k=.local\/k=.cell\/k=.free):=by rcases e3 with z|z|z;show{_,z,.inl rfl};show{_,z,.inr Ţ};show{_,z,.inr ćc}
  let{k,J,kk}:=L;let{nd,Y,_}:=dO U J;unfold ŷb at G;by_cases A:(Őf n||n==(".0" : Ç))=Ä;rw[Ï A]at G;show Þ G.symm nd;rw[Ñ A]at G;subst G
  let B:k=.cell\/k=.free:=by
   rcases kk with z|z;exfalso
   apply A;rcases Y z with t|t;rw[t];rfl;subst t;simp;show z
  let{Z,c,hc}:=Ep U s J B;let{m,hn,hl}:=Ėa;let{u,r,l}:=hl i n v en E (.inr Z);show{u,r,.inr {?_,c,hc,?_}};rcases B with z|z;subst z;show .inl J;subst z;show .inr J;rcases l with⟨z,_⟩|⟨_,c',F,z⟩;rcases Z with t|t<;>(rw[t]at z;cases z);rw[ŧg hc]at F;cases F;let{o,P,w}:=z;show{o,f _ _ P,w}
 let{v,o,A,w}:=Ľa x c (ŧg h);show{v,o,f _ _ A,w};rcases Ÿ hp with z|z;let{e,n,ne,nf,d}:=ńa p z;show{f _ _ e,n,Ϟ (Ū Ėc Q),λS=>?_,d};rcases ĩ (I.J5 p.1 S)with t|t;show ne t;show nf t;let e:p=(D,g):=by simpa using z
 subst e;show{hd,Ęb hD,K,W D hD,R};exact(ôd).length=(Ďl).length;rw[ì,ì,Ĭa,ã,Āb]
#print a
def V8(X:Cx)(a:Á Ö)(b:TT):È:=
 ∀(zA:Á õ) (s:Í) (σ:St) (H:Hp) (Q:Ð->Hp->È),Inv X zA σ H s->b σ H Q->
  Ù Ą X.A (ĭb a Ä λc r=>if r=Ä then do let ok <-ŧd c Û (Ĥ c Û);pure (Ϻd ok)else pure (Ϻd r)) Ϲh į s
nonrec def SH:TT:=λ_ H Q=>Q Ä H
def nU{X:Cx}:V8 X [] SH:=λ_ _ _ H _ I h=>wpAny_tests_nil {H,I,h}
def y9x{X:Cx}{c:Ö}{t:TT}(h:PT X c t):V8 X [c] t:=λa s σ H Q I q=>wpAny_tests_one (h a s σ H Q I q)
section
variable{ă:ï}{w:æ}{A:ù}{R:ūd->Í->È}{s:Í}
def y1q{d tg b:Ö}{f:Á Ö}{a:îa}{pos:Pos}{it g:Value}{env:Env}(J:Â->Í->È)(j:∀n s,J n s->Ù è A (šd it) (λr s₁=>match r with
   |Å=>R Ūo s₁|À v=>Ù è A (øf tg it v) (λ_ z=>Ù è A (Äc tg env v) (λ_ s₂=>
    Ù è A (ĭb f Ä λc r=>if r=Ä then do let ok <-ŧd c env (Ĥ c env);pure (Ϻd ok)else pure (Ϻd r)) (λok s₃=>
     if ok=Ä then Ù è A (Ĥ d env) (λx s₄=>Ù è A (ĳb (.builtin ńn) [g,x]) (λ_ s₅=>∃m,m<n/\J m s₅) øc s₄) øc s₃
     else ∃m,m<n/\J m s₃) øc s₂) øc z) øc s₁) øc s)
  (n:Â)(h:J n s):ĥb è A (.compLoop ϝk 0 it g env) R s:=by
 let i:∀{P:Value->Í->È},∀e s',(λ_ _=>Ā:Value->Í->È) e s'->P e s':=λ_ _ z=>Ũ
 show codeAny_loop rfl J (λn s q=>?_) n h;exact Ù _ A (Sem.onRaise (compTurn ϝk 0 it g env) (λx=>do noteFrame x env;theTreesLotGoes x)) _ _ s;show wpAny_noted ?_;rw[compTurn_list];show Ó (ğh (Ó (ĳa (j n s q) (λr s₁ k=>?_) i)));cases r with
 |Å=>show ó k|À v=>
  show Ó (ĳa k (λ_ z t=>?_) i);show Ó (ĳa t (λ_ s₂ u=>?_) i);show Ó (ĳa u (λok s₃ l=>?_) i);cases ok with
  |Ã=>show ó {rfl,l}|Ä=>
   show Ó (Ó (ĳa l (λx s₄ p=>?_) i));show Ó (ĳa p (λ_ s₅ o=>ó (ó {rfl,o})) i)
#print a
abbrev uq(its:Á Value)(k:Â):Obj:={ cls:=.type Ĩ,ć:=.seq ϥ k }
def lD{its:Á Value}{k:Â}:∀v,(ϰo).data≠.cell v:=λ_ z=>nomatch z
section
variable{X:Cx}{σ:St}{H:Hp}{s:Í}{D:Ë}
def y02{pl:Á õ}{its Êb:Á Value}{k f tk:Â}{h':Heap}(I:Inv X ((D,uq its k)::pl) σ H s)(u:Ùc<=D)(g:∀p∈Ñc,p.1≠D)(A:űa D â h')(t:ċ D=À (uq Êb f)):Inv X [(D,uq Êb f)] σ H { s with ç:=h',Ĕ:=tk }:=by
 let{e,n,h,w,d}:=ńa (D,uq its k) Ło;let l:Inv X [] σ H s:=I.J3 λp a=>Þ a ô
 let y:Inv X [] σ H { s with ç:=h',Ĕ:=tk }:=l.turned (it:=D) (λb o j q=>(A.2 b j).trans q) n h Ĺd (λx c r z=>by subst z;let{v,o,i,m}:=Ľa x c r;rw[show ø c=À ϰo from e]at i;cases i;show d v m) (λp a=>g p Ņh)
 show y.J3 λp a=>by
  let q:p=(D,uq Êb f):=by simpa using a
  subst q;show{t,n,h,w,lD}
#print a
section
variable{X:Cx}{tg ż elt:Ö}{ifs:Á Ö}{Ł:îa}{cl:Á ϫa}{own:Á Ç}{pos:Pos}{te:TE}{tc:TT}{g:TG}{wi:TI}
def x9r{fs ex:Á Ë}{H H':Hp}{h h':Heap}{D:Ë}{o:HO}(u:Un fs ex H H' h h')(f:àb<=D)(d:H' D=Å):Un fs ex H Ŋo h h' where
 ťa:=Ŭe
 slot:=ľg
 free:=λb c q n g=>by rw[yH (λz=>by subst z;show Þ (Ū Še f) Ēa)];show Ŀg b c q n g
 ţg:=Ēg
 qc:=λb e q=>by rw[yH àm];show u.qc b e q
 uz:=λb c v q=>by rw[yH Ůl];show u.uz b c v q
 py:=λb i q=>by rw[Ćq]
def i5{P:ï}{w:æ}{H:Hp}{h:Heap}{D:Ë}{o:HO}(x:wX P w H h)(d:H D=Å)(a:xm P w ϧo h D o):wX P w ϧo h:=λb u e=>by by_cases hb:b=D;subst hb;rw[yq]at e;cases e;show a;rw[yH hb]at e;show(Ój).XH (λc v _ q=>q) (λc q=>?_) (λc f q=>?_);rw[yH (qo q d)];show q;rw[yH (qo q d)];show q
structure XJ(X:Cx)(Ł:îa)(cl:Á ϫa)(own:Á Ç):È where
 kind:ši=.function
 cell:∀y∈ęd,y.2≠.cell
 LX:XM Û cl
 ok:TN Ł Û cl own=Ä
 LY:Żo Ł Û=pure cl
 ųb:∀y∈ęd,y.2=.local->scope.names.lookup y.1=À .local
structure Ln(X:Cx)(zA:Á õ)(H:Hp)(s:Í)(C:Ë):È where
 free:H C=Å
 ne:C≠Ϻ
 old:Ùc<=C
 cell:∀x c,įa x=À c->c≠C
 pin:∀p∈Ñc++zA,p.1≠C
def Ix(σ:St)(n:Â)(J:It)(g:TG)(tc:TT)(te:TE)(W:Â->Â->Á V->Hp->È)(a:Á V->Hp->È):È:=
 ∀i m ys H,W i m ys H->(ŏg i H/\a ys H)\/(J.go i H/\Ŭ<ä/\∃N:Á V->Hp->È,(∀ys' H',N ys' H'->∃m',m'<m/\W î m' ys' H')/\
  ∀x H',J.tW i H x H'->g x Ϙh H' λσ2 d=>(∃τ,σ2=σ++τ)/\tc σ2 d λc b=>if c=Ä then te σ2 b λy e=>N (ys++[y]) e else N ys b)
def dQ{zA:Á õ}{σ:St}{H2:Hp}{m:Í}{l:Á Ë}{it:Ë}{tn:Â->Heap->È}{J:It}{W:Â->Â->Á V->Hp->È}{Fin:Á V->Hp->È}{m0:Â}{RR:Value->Ë->ūd->Í->È}(Q:ŵ=Ä)(B:XJ X Ł cl own)(I:Inv X zA σ H2 m)(T:YF ö X.w X.K tg J l it tn)(t0:tn 0 m.heap)(G:∀b∈l,g7 X zA H2 b)(hg:∀C s H l pn,PG Îh tg g)(hc:∀C s H l pn,V8 Îh ifs tc)(he:∀C s H l pn,PE Îh elt te)(W0:W 0 m0 [] H2)(turn:Ix σ Òb J g tc te W Fin)(hRR:∀D C s' H' ys m',Inv X zA σ Ůn s'->H' D=Å->Fin ys H'->s'.heap.Ns C m'->Ln X zA Ůn s' C->RR ĭj C Ūo s'){E:Value->Í->È} :Ù Ą X.A Öo (λacc s3=>Ù Ą X.A (newFunctionEnv Ł Ói cl [] X.env.qual Å .none (À Û)) (λcenv s4=>
   ĥb Ą X.A (.compStart ķb 0 âb acc { cenv with Ł:=relabel Ł Û }) (RR acc cenv.locals) s4) E s3) E m:=by
 refine Öc (wpAny_newFunctionEnv ϱj (by intro y hy;simp at hy) (λh4 hns P=>?_) ŷe);dsimp only at hns P ⊢;generalize hP:m.heap.push Ŧp=P2 at hns P ⊢;have hC:Œf=Őc+1:=by rw[<-hP,Ϡa]
 let U:Őc≠Œf:=by rw[hC];show Ϟ ϝc
 let f:Őc<=Œf:=by rw[hC];show ūf _
 let R:∀b o,Ċo b=À o->h4.get? b=À o:=λb o e=>
  P.extBut b o (Ϟ ło) (ě _ (hP▸ě _ e))
 let hd4:h4.get? Őc=À Ŧp:=P.extBut _ _ U (ě _ (hP▸ŷ _ rfl));let hfo:∀b∈l,∃o,Ċo b=À o:=λb d=>let ⟨o,e,_⟩:=Ϝe 0 _ t0 b d;{o,e}
 let lt:∀b∈l,b<Őc:=λb d=>let ⟨o,e⟩:=hfo b d;ĥ e
 generalize hDD:Őc=D at U hd4 ⊢;generalize hCC:Œf=C at U hns P f ⊢;let F:Őc<=D:=ŋb hDD
 let +zeta X':=vi X Ł cl own C m H2 l (Ñc++zA)
 let hpn:∀p∈X'.pn,p.1≠D:=λp hp z=>by let{e,_}:=ńa p hp;rw[z]at e;show Þ (Ū Ėc F) Ēa
 let okb:=dP I ŷe ϱj B.LX B.ok f G hfo
 let S:∀{k:Â}{a:Á Value}{H':Hp},(∀b∈l,H' b=Å)->∀b∈l,g7 X' řf H' b:=λ{k a H'} hn b d=>
  ⟨hn b d,Õo.1,okb.Ub b d,.inl d,Õo.2,λp hp=>by
   rcases Ÿ hp with z|z;show şd.2.2.2.2.2 p z;let q:p=(D,uq a k):=by simpa using z
   subst q;show λz=>Þ (lt b d) (by rw[<-z];show àe F)⟩
 have loop:∀s4:Í,s4={ m with ç:=h4,Ĕ:=m.toks+([]:Á öc).length }->
   ĥb Ą X.A (.compLoop ķb 0 âb ĭj (compEnvC Ł cl C Û)) (RR ĭj C) s4:=by
  rintro s4 rfl
  show y1q (λn s'=>∃(i:Â) (ys:Á V) (a:Á Value) (k:Â) (H':Hp),Inv X' řf ôd H' s'/\zo ys a/\tn i Ϙc/\(∀b∈l,H' b=Å)/\W i n ys H'/\Ŭ<=ä) ?_ m0
   {0,[],[],0,H2,z47 I ŷe ϱj B.LX B.ok f F U G hfo R hns hd4 lD,.nil,Ūd _ _ _ t0 λb _ o e=>R b o e,λb d=>şd.1,W0,Ź _}
  rintro n s5 ⟨i,ys,a,k,H5,I5,v5,st5,fr5,w5,z5⟩;rcases turn i n ys H5 w5 with⟨Ϡ,fin⟩|⟨go,room,N,hN,Ăa⟩
  .show ĳa (ϥj X' rfl rfl rfl Q i _ s5 _ H5 øc I5 (S fr5) st5 Ϡ) (λr s6 ⟨hr,I6⟩=>?_) λ_ _ z=>z
   subst hr;let{e6,n6,ne6,nf6,d6}:=I6.pin (D,uq a k) Ło;let{m6,ns6,_}:=I6.loc;let u6:Un ģj l H2 âi m.heap s6.heap:=x9r I6.base F n6;let new6:xm ö X.w âi s6.heap D Ğa:={z5,a,k,v5,e6};let I7:Inv X zA σ âi s6:=I.FH I6.os u6 (i5 I6.zi n6 new6) I6.bare (λb d=>{şd.2.2.2.1,şd.2.1,şd.2.2.2.2.1,şd.2.2.2.2.2});show hRR D C s6 H5 ys m6 I7 n6 fin ns6 {?_,?_,?_,λx c hcx z=>?_,λp hp z=>?_}
   .rw[yH (ũb U)];show I6.free
   .show λz=>Þ I.lt (by rw[<-z];show àe f)
   .show ÿ I.sz f
   .subst z;let{v,o,ho,_}:=Ľa x c hcx;show Þ (Ū (ĥ ho) f) Ēa
   .let{e,_}:=ńa p hp;rw[z]at e;show Þ ło Ēa
  .show ĳa (T.item X' rfl rfl rfl Q i _ s5 _ H5 øc I5 (S fr5) st5 go) (λr s6 ⟨u,hr,h6⟩=>?_) λ_ _ z=>z
   subst hr;show ĳa h6 (λ_ s7 ⟨x,H7,I7,r7,y7,st7,fr7⟩=>?_) λ_ _ z=>z
   let I7':=I7.pinned (S fr7) (Ϝe _ _ st7);show ĳa (hg C m H2 l _ _ s7 _ H7 x u _ I7' r7 (Ăa x H7 y7)) (λ_ s8 ⟨σ8,H8,I8,⟨τ,hτ⟩,q8⟩=>?_) λ_ _ z=>z
   subst hτ
   have back:∀{n':Â}{Y:Á V}{t:Á Value}{k':Â}{L:Hp}{O:Í}{pl:Á õ},Inv X' ((D,uq t k')::pl) Čj L O->zo Y t->tn î Ϧj->(∀b∈l,L b=Å)->W î n' Y L->ϓc<=ä->
     ∃(i:Â) (ys:Á V) (a:Á Value) (k:Â) (H':Hp),Inv X' řf ôd H' O/\zo ys a/\tn i Ϧj/\(∀b∈l,H' b=Å)/\W i n' ys H'/\Ŭ<=ä:=λ{n' Y t k' L O pl} Z v9 st9 fr9 w9 z9=>by
    let I9':Inv X' [(D,uq t k')] Čj L O:=Z.J3 λp hp=>Z.pin p (ĩa _ (by
     let q:p=(D,uq t k'):=by simpa using hp
     subst q;show Ġ))
    show{i+1,Y,t,k',L,I9'.weak ?_ (λj v e=>?_),v9,st9,fr9,w9,z9}
    .rw[I9'.len,<-I5.len]
    .let e':=MZ e;rw[ūa (Ŀ e').1];show e'
   let h:∀{σ9:St}{L:Hp}{O:Í},Inv X' (řf++OC l s7.heap) σ9 L O->tn î Ϧj/\∀b∈l,L b=Å:=λ{σ9 L O} Z=>
    {Ūd _ _ _ st7 λb d o e=>Ūk.1,λb d=>by let{o,e,_}:=Ϝe _ _ st7 b d;show Ūk.2.1}
   show ĳa (hc C m H2 l _ _ s8 _ H8 _ I8 q8) (λc O ⟨L,Z,q9⟩=>?_) λ_ _ z=>z
   cases c with
   |Ã=>
    rw[Ñ ġ]at q9 ⊢;let{m',hm,w9}:=hN _ _ q9;show{m',hm,back Z v5 (h Z).1 (h Z).2 w9 z5}
   |Ä=>
    rw[Ï rfl]at q9 ⊢;show ĳa (he C m H2 l _ _ O _ L _ Z q9) (λyv sa ⟨y,Ha,Ia,ra,qa⟩=>?_) λ_ _ z=>z
    let{m',hm,wa}:=hN _ _ qa;let{ea,na,_}:=Ia.pin (D,uq a k) (ĩa _ (żb _ Ġ))
    let szi:ϔb<=ä:=by let:=v5.length;simp only[Ĭ];omega
    show wpAny_list_append_plain (hsz:=szi) {k,ea} λd hlb hsb'=>?_
    let{kb,eb}:=hlb;let eb':ϟj D=À (uq Żp kb):=by rw[eb];simp
    let Ib:Inv X' [(D,uq Żp kb)] Čj Ha { sa with ç:=d,Ĕ:=sa.toks }:=y02 (tk:=sa.toks) Ia F hpn hsb' eb';let stb:tn î d:=Ūd _ _ _ (h Ia).1 λb hbf o e=>(hsb'.2 b (λz=>Þ (lt b hbf) (by rw[z];show àe F))).trans e
    show{m',hm,back Ib (Ϫf v5 (.cons ra .nil)) stb (h Ia).2 wa (by rw[ì];show room)}
 show codeAny_compStart_list Úo (T.self X.A 0 _ _ _ (Ūd _ _ _ t0 λb _ o e=>R b o e) Úo)
def x5j(n:Â)(wi:TI)(g:TG)(tc:TT)(te:TE):TE:=λσ H Q=>wi σ H λJ b=>∃W:Â->Â->Á V->Hp->È,(∃m,W 0 m [] b)/\
 Ix σ n J g tc te W λc a=>∀p,a p=Å->Q Ŵ Řm
def Ln.inv{a:Á õ}{σ:St}{H:Hp}{s:Í}{C:Ë}{h':Heap}(o:Ln X a H s C)(I:Inv X a σ H s)(d:űa C â h'):Inv X a σ H { s with ç:=h' }:=
 ïb (it:=C) (t':=ē) (λb u c q=>(d.2 b c).trans q) o.free o.ne (.inr o.old) o.cell o.pin
def m_(a:ŵ=Ä)(B:XJ X Ł cl own)(hi:PI X tg ż wi)(K:∀C s H fp pn,PG ða tg g)(F:∀C s H fp pn,V8 ða ifs tc)(t:∀C s H fp pn,PE ða elt te)(u:Î (∀x,Ób ż Û x=pure x) q11) :PE X ķb (x5j Òb wi g tc te):=by intro l s σ H Q I h;rw[eval_ListComp];show ϵk (use:=Å) rfl u B.LY ŷe B.names (zx ãm λv S q=>zx q λG N z=>?_);let{O,fp,P,J,Z,e,m,T,d,r,W,{Y,L},b}:=z;subst e;show dQ (RR:=λj C=>compPost Ą X.A į Å (EP X l σ Q) j C) a B m T d r K F t L b ?_;intro D C R y p E n o k i c;show{E,i,λU f=>{.ref D,ze y D (.lst p),c.inv n f,rfl,k D o}}
def x5w(i n:Â)(wi:TI)(g:TG)(tc:TT)(te:TE):TS:=λD σ H=>wi σ H λJ b=>∃W:Â->Â->Á V->Hp->È,(∃m,W 0 m [] b)/\
 Ix σ n J g tc te W λc a=>∀p,a p=Å->Ëb òf Řm
def nQ{i:Â}{x:Ç}{j c:Pos}(d:ŵ=Ä)(hN:éa)(E:X.N[i]?=À x)(F:Íd x=À .local)(B:XJ X Ł cl own)(p:űc ķb (À ūo) c.line Û=pure Ä)(hi:PI X tg ż wi)(hg:∀C s H fp pn,PG ða tg g)(hc:∀C s H fp pn,V8 ða ifs tc)(Z:∀C s H fp pn,PE ða elt te)(hs:Î (∀x,Ób ż Û x=pure x) q11) :PS X (.Assign [.Name x j] ķb c) (x5w i Òb wi g tc te):=by
 intro l s σ H D I h;rw[exec_Assign_Name_used _ _ _ _ p];show Ó (ğh Ŭf);exact Ù _ X.A (do let _ <-comprehension ķb Ł Û _ Öo Ã (Ĥ ż Û) Řp) _ _ s
 refine Ó (zx (ϵk (use:=À Ķk) (Q:=λ_ f=>SP X l D .next f) rfl hs B.LY ŷe B.names
  (zx ãm λv s1 S=>zx S λitv s2 h2=>?_)) λ_ f hq=>ó (ó hq))
 let{it,fp,tn,J,H2,e,G,T,m,U,W,{m0,w0},k}:=h2;subst e;show dQ (RR:=λr C=>compPost Ą X.A į Řp (λ_ f=>SP X l D .next f) r C) d B G T m U hg hc Z w0 k ?_;intro L C f H' R m' O P t q b;exact Ù _ X.A (Äc ūo Û (.ref L)) _ _ f;show Ļm (si O hN E (.inl F) (v:=.ref L) rfl (λs3 K Y=>?_) (.inr F));let{a,n,ha}:=Y
 let u:C≠a:=by rcases ha with z|z;rw[z];show b.ne;show λy=>b.cell x a z y.symm
 show{m',q.sameBut n u,λh' o=>?_};show{_,_,Ln.inv (H:=ze H' L (.lst R)) {b.free,b.ne,b.old,b.cell,b.pin} K o,t L P}
#print a
structure QE(X:Cx)(e:Ö)(t:TE):È where
 h:PE X e t
structure QA(X:Cx)(es:Á Ö)(t:TA):È where
 h:PA X es t
structure QS(X:Cx)(st:Ü)(t:TS):È where
 h:PS X st t
structure QG(X:Cx)(e:Ö)(t:TG):È where
 h:PG X e t
structure Lp(X:Cx)(es:Á Ö)(t:ZS):È where
 h:Jg X es t
structure QI(X:Cx)(tg e:Ö)(t:TI):È where
 h:PI X tg e t
section
variable{X:Cx}{x:Ç}{p pos ϓ Åa Ϯ:Pos}{e a b c o:Ö}{es:Á Ö}{te to:TE}{t:TA}{r:R2}{v:V}{T id:ìa}{j k i:Â}
def qv(i:Â){x:Ç}{pos:Pos}(c:Î ād q12)(hv:Î īd q13)(b:Î ō q10)(a:Î Żb q10):QE X ôa úb:={Vs c hv b a}
def x0d(h:v6 ñ x v)(b:Gl X x)(a:Î ō q10):QE X ôa ſe:={OB h b a}
def x0c(b:Gl X x)(c:ñ x=Å)(hv:ϕ x=À Ϫb)(d:Î Ďb q10)(a:Î ō q10):QE X ôa Òo:={y8g b c hv d a}
nonrec def NB:Ö->Ð
 |.Name ..=>Ä|.Call ..=>Ä|.Subscript ..=>Ä|.Attribute ..=>Ä|.Constant ..=>Ä|.List ..=>Ä|.Tuple ..=>Ä|.BinOp ..=>Ä|_=>Ã
def nD{e:Ö}{env:Env}(h:NB e=Ä):∀Įc,ŧd e env Įc=(do let v <-Įc;standAt e.pos;holding [v] ϳo):=by cases e<;>first|(intro _;rfl)|cases h
def NZ:QA X [] UB:={Tu}
def BQ(b:QE X e te)(a:QA X es t)(h:Î Ča q12):QA X ĕ Žp:={Vp b.h a.h h}
nonrec def X_:Ö->Ð
 |.Name ..=>Ä|.Constant ..=>Ä|.BinOp ..=>Ä|.Call ..=>Ä|.UnaryOp ..=>Ä|.Subscript ..=>Ä|.Attribute ..=>Ä|_=>Ã
def BI{b:Ö}(h:X_ b=Ä):cf b:=by cases b<;>first|(intro _ _;rfl)|cases h
def OM{r:Á V->Hp->VK->È}(c:vg X Ùb r)(d:Gl X x)(g:ñ x=Å)(hv:ϕ x=À Ùb)(i:QA X ĕ t)(f:Î Ďb q10)(b:Î ō q10)(a:Î òa q12):QE X Ŭa āg:=by rw[ϔ,Ď]at a;show{y8j c d g hv i.h f b õg ÿg}
def Vv{r:Á V->Hp->VK->È}(c:vg X Ϫb r)(d:Gl X x)(g:ñ x=Å)(hv:ϕ x=À Ϫb)(i:QA X ĕ t)(f:Î Ďb q10)(b:Î ō q10)(a:Î òa q12):QE X Ŭa āg:=by rw[ϔ,Ď]at a;show{y8l c d g hv i.h f b õg ÿg}
variable{g:TG}
nonrec def Xw:Ö->Ð
 |.ListComp ..=>Ã|.SetComp ..=>Ã|.DictComp ..=>Ã|_=>Ä
def l_{e:Ö}{a:É Ö}{n:Â}{env:Env}(h:Xw e=Ä):űc e a n env=pure Ã:=by cases e<;>first|rfl|cases h
def Na(b:QE X e te)(a:Î đe q12):QS X êi (z05 te):={nN b.h (l_ a)}
def ON{i:Â}{x:Ç}{ϓ:Pos}(c:éa)(hi:X.N[i]?=À x)(f:qN Ϲ x)(b:QE X e te)(d:Î đe q12)(a:Î ũa q7) :QS X ļc (Bw te Űb):={nP c hi f b.h (l_ d) a}
def yt{i:Â}{x:Ç}(a:éa)(hi:X.N[i]?=À x)(c:qN Ϲ x)(b:Î ũa q7):QG X ôa Űb:={y94 a hi c b}
def oA{o i:Ö}{to a:TE}{t:Lq}(b:QE X o to)(hi:QE X i a)(d:C8 X t)(c:Î (X_ i=Ä) q12):QG X ĝh (fS to a t):=by show{y95 b.h Ĵc d ?_};cases i<;>first|(intro _;rfl)|cases c
def Yl:Lp X [] VN:={y98}
def qC{t:TG}{u:ZS}(a:QG X e t)(c:Lp X es u)(b:Î ((ťn).map (·.2)=Äc e Û::(ϡd).map (·.2)) q12):Lp X ĕ (gH t u):={y97 a.h c.h b}
def Yk{k:Â}{t:ZS}{n:Â}(c:ŵ=Ä)(h:Lp X es t)(b:Î Ϭm q12)(a:Î ((ϡd).findIdx? (·.1)=Å) q12):QG X Ŭm æo:={y96 c h.h b a}
variable{Ĳ:Ç}{rm:V->Á V->Hp->VK->È}
theorem sV{env:Env}{pos:Pos}:∀{es:Á Ö},es.all xM=Ä->(Ďm).all Ŀi=Ä
 | [],_=>rfl|e::es,h=>by rw[ϔ,Ď]at h;rw[qV h.1];let a:=sV (env:=env) (pos:=pos) h.2;unfold ĩc at a ⊢;rw[ĵ,ϔ,a];rfl
def OL(i:ώf T)(c:Slot T Ĳ id)(g:ŀg Ùb=pure Ìf)(j:TC X id rm)(k:QE X o to)(m:QA X ĕ t)(b:Î ϱe q12)(a:Î Ĺb q12)(d:Î òa q12)(l:Î ((ĕ).length<30) q10) :QE X ŕl (z02 X.K T rm to t):={by let f:=sV (env:=Û) (pos:=Ϯ) d;rw[ϔ,Ď]at d;show y8e i c g j k.h m.h b ?_ a (qV d.1) (Zp d.2);rw[f];exact(Ä&&Ä&&decide ((ĕ).length+0+0<30))=Ä;rw[ú (show(ĕ).length+0+0<30 from l)];rfl}
#print a
def cr(K:Ô)(H:Hp)(a c:Ë)(xs ys:Á V):È:=(xP K H a xs/\xP K H c ys)\/(ya K H a xs/\ya K H c ys)
section
variable{X:Cx}{zA:Á õ}{σ:St}{H:Hp}{s:Í}
def x15{A:ù}{a c:Ë}{xs ys:Á V}{e:Â->Ð}(I:Inv X zA σ H s)(i:Ša<ϛ)(R:cr X.K H a c xs ys)(O:∀(j:Â) x' y' u v,xs[j]?=À x'->ys[j]?=À y'->yB x' u->yB y' v->Řb Çb s u v (e j)) :Ũi A s Ŗ Ćg ((Ĩh).all e&&ë==Ŭ)/\ăi A s Ŗ Ćg (!((Ĩh).all e&&ë==Ŭ)):=by
 let f:∀{x:Á V}{b:Á Value}{j:Â}(P:j<ĕb),zo x b->∃z,x[j]?=À z/\yB z çb[j]:=λ{x b j} P r=>by
  let F:=ϊ
  let k:j<ϯb:=by rw[Ĭ]at P;omega
  let{u,o,Q}:=Äb (Đ k);show{_,Đ k,?_}
  let:çb[j]=u:=by let y:b[j]?=À b[j]:=Đ Ê;rw[y]at o;simpa using o
  rw[this];show Q
 rcases R with⟨L,G⟩|⟨L,G⟩;let{b,w,h,_}:=Þa L;let{g,m,pc,_}:=Þa G;let N:=ĭe;let y:=Ľd
 let d:∀j (t:j<ĕb) (l:j<įf),Řb Çb s çb[j] øp[j] (e j):=λj t l=>by rw[èq]
 let p:=SeqAt.RcAt.tuples (e:=e) h pc i d;let q:=SeqAt.RcNeAt.tuples (e:=e) h pc i d;rw[Ĭ,Ĭ,<-N,<-y]at p q;show{p,q};let{b,w,h,_}:=Ϛ L;let{g,m,pc,_}:=Ϛ G;let N:=ĭe;let y:=Ľd
 let d:∀j (t:j<ĕb) (l:j<įf),Řb Çb s çb[j] øp[j] (e j):=λj t l=>by rw[èq]
 by_cases F:ë=Ŭ;let n:ĕb=įf:=by rw[Ĭ,Ĭ];omega
 let p:=SeqAt.RcAt.lists (e:=e) àg ϭf n i d;let q:=SeqAt.RcNeAt.lists (e:=e) àg ϭf n i d;let e1:min ë Ŭ=ĕb:=by rw[Ĭ];omega
 let e2:Ϛo=Ä:=by simp[F]
 rw[e1,e2,Śn];show{p,q};let n:(ĕb != įf)=Ä:=by rw[Ĭ,Ĭ];simp;omega
 let e2:Ϛo=Ã:=by simp[F]
 rw[e2,ďn];show{SeqAt.RcAt.lists_lengths àg ϭf n i,SeqAt.RcNeAt.lists_lengths àg ϭf n i}
def Me(A:ù):A.in1.units=Ša+1:=rfl
#print a
def z6s{x:V}(h:je x=Ä):jC x x=Ä:=by cases x<;>first|rfl|show đb _|cases h
open Ŏj (hideAll)
#print L2
namespace L2
open ľ ś ŋ
section
variable{H H':Hp}{a C:Ë}
def z31(a C:Ë)(h:Heap):È:=∃o vs,Ğ a=À o/\Åb=.ref C/\ϸ=.fields vs
def x9s{fs ex:Á Ë}{H H':Hp}{h h':Heap}{D:Ë}{o:HO}(u:Un fs ex H H' h h')(f:Ğ D=Å)(d:H' D=Å):Un fs ex H Ŋo h h' where
 ťa:=Ŭe
 slot:=ľg
 free:=λb c q n g=>by rw[yH (λz=>by subst z;rw[f]at q;cases q)];show Ŀg b c q n g
 ţg:=Ēg
 qc:=λb e q=>by rw[yH àm];show u.qc b e q
 uz:=λb c v q=>by rw[yH Ůl];show u.uz b c v q
 py:=λb i q=>by rw[Ćq]
#print a
section
variable{X:Cx}
def z0q{ns:Á Æ}{its:Á Value}(r:zo Ϩa its){i:Â}{v:Value}(h:ϥ[i]?=À v):∃t,v=.int (Ϗf i 0) t:=by
 let d:i<Ϫa:=by rw[Þd]at h;show ϊa.1
 let e:ţ=Ϫa:=by let:=ϊ;rw[ã]at this;rw[Ϯp]
 let c:Ϩa[i]?=À (Ζ (ns.getD i 0)):=by rw[ė,ő,Đ Ê];rfl
 let{u,a,b}:=Äb c;rw[Þd,a]at h;cases h;show b
theorem NJ{ns:Á Æ}:∀(k:Â),k<=ţ->Ůe ĝn k=(Ŷf).sum
 |0,_=>by simp[Ůe]|k+1,h=>by rw[Ůe,NJ k Ê,ĸc Ê,List.sum_append,ő,Đ Ê];exact _+ns[k]=_+(ns[k]+0);rw[Int.add_zero]
def cx(ns:Á Æ):È:=(∀n∈ns,Őg n)/\∀k,k<=ţ->Őg (Ŷf).sum
def oT(K:Ô):Á V->Hp->VK->È:=λa H Q=>∃(p:Ë) (ns:Á Æ),a=Ķd/\(ya K H p Ϩa\/xP K H p Ϩa)/\cx ns/\Q (.int ϗj) H
def sv{ns:Á Æ}(h:cx ns):∀j,j<ţ->Őg (Ϗf j 0)/\Őg (Ůe ĝn ϭ):=λj a=>by show{h.1 _ ?_,?_};rw[ő,Đ a];show ϐb a;rw[NJ _ Ê];show h.2 _ Ê
def z56(G:ŵ=Ä):vg X Ϫm (oT X.K):=by
 intro J s σ H N L Q I r h;let{p,d,rfl,t,A,q}:=h;let{u,rfl,F}:=qG r;cases F;let B:=ýa G;let e:Ůe (λi=>Ŵe i 0) êa=d.sum:=by rw[NJ _ Ē,Œc]
 show call_sum_walk ?_;rcases t with t|t;let{a,j,l,C}:=Ϛ t;let w:êa=ϔb:=by rw[ßq]
 let c:p<Ý:=by let{o,n,e,_}:=l;show ĥ e
 show Öd l.isList ?_;refine{_,_,_,_,_,_,λi=>Ŵe i 0,rfl,ϊo ŉi Ý p ħg ϭa,{{_,ŷ _ rfl,rfl,rfl},l.isList.push _},?_,λi v y=>z0q j y,?_,?_};rw[Ûq];rcases m with rfl|rfl;rw[åq]
 show⟨.int d.sum,H,ŭd (t':=x) λb o g=>k b o (λz=>by
  rw[Ĩq]
  rw[ęq]) Éj,{_,rfl},q⟩
 let{a,j,l,C}:=Þa t;let w:êa=ϔb:=by rw[ßq]
 let f:Ąd p ϭa:=l;let c:p<Ý:=by let{o,e,_}:=f;show ĥ e
 show åh f ?_;refine{_,_,_,_,_,_,λi=>Ŵe i 0,rfl,Walks.tuple ŉi Ý p ħg ϭa,{{_,ŷ _ rfl,rfl,rfl},f.push _},?_,λi v y=>z0q j y,?_,?_};rw[Ûq];rcases m with rfl|rfl;rw[åq]
 show⟨.int d.sum,H,ŭd (t':=x) λb o g=>k b o (λz=>by
  rw[Ĩq]
  rw[ęq]) Éj,{_,rfl},q⟩
def w06{a:Á Ð}{its:Á Value}(r:zo ϕo its){i:Â}{v:Value}(h:ϥ[i]?=À v):v=.bool Ķn:=by
 let e:i<Ϫa:=by rw[Þd]at h;show ϊa.1
 let f:úa=Ϫa:=by let:=ϊ;rw[ã]at this;rw[Ϯp]
 let d:ϕo[i]?=À (.bl Ķn):=by rw[ė,ő,Đ Ê];rfl
 let{u,b,c}:=Äb d;rw[Þd,b]at h;cases h;show c
def x11{d:Á Ð}:(ϡ êa).all (λi=>Ŵe i Ã)=d.all id:=by
 rw[řc,όm,όm]
 rw[Ĵq];intro h b e;let{i,c,rfl}:=List.mem_iff_getElem.mp e;let:=h i (Ća c)
 rwa [ő,Đ c]at this;intro h i c;let a:=ñd c;rw[ő,Đ a];show h _ (ϐb a)
def oC(K:Ô):Á V->Hp->VK->È:=λa H Q=>∃(p:Ë) (bs:Á Ð),a=Ķd/\ya K H p (ŉg V.bl)/\Q (.bl (bs.all id)) H
def z4q(A:ŵ=Ä):vg X ϫm (oC X.K):=by
 intro C s σ H N E Q I r h;let{p,d,rfl,w,q}:=h;let{u,rfl,x}:=qG r;cases x;let B:=ýa A;show call_all_walk ?_;let{a,j,f,G}:=Ϛ w;let y:êa=ϔb:=by rw[ßq]
 let c:p<Ý:=by let{o,n,e,_}:=f;show ĥ e
 show Öd ýj ?_;refine{_,_,_,_,_,_,λi=>Ŵe i Ã,rfl,ϊo ŉi Ý p ħg ϭa,{{_,ŷ _ rfl,rfl,rfl},f.isList.push _},?_,?_};intro i v L J F t l;rw[w06 j t];show ó l;intro l m k;rw[<-y,x11]
 show⟨.bl (d.all id),H,ŭd (t':=m) λb o g=>k b o (λz=>by
  rw[Ĩq]
  rw[ęq]) Éj,rfl,q⟩
#print a
open Builtin.SmallTypes (ϻb)
structure V9(P:ï)(w:æ)(it l:Ë)(st:Â->Heap->È)(n:Â)(val:Â->Value):È where
 ťa:∀i h h',st i h->(∀b o,(b=it\/b=l)->Ğ b=À o->ċ b=À o)->st i h'
 Ăb:∀{A:ù}{Q:Value->Í->È}{E:Value->Í->È}{s:Í}(i:Â),st i â->i<n->(∀h',st î h'->űa it â h'->Q (val i) { s with ç:=h' })->Ù Ŗb A Âg Q E s
 done:∀{A:ù}{Q:Value->Í->È}{E:Value->Í->È}{s:Í}(i:Â),ča=Å->st i â->n<=i->
  (∀h' e,Ģo it â h'->(∃o,ċ e=À o/\Åb=.type ãd)->E ąg { s with ç:=h' })->Ù Ŗb A Âg Q E s
section
variable{ă:ï}{w:æ}{A:ù}{E:Value->Í->È}{s:Í}
def y3i{it t:Ë}{i:Â}{z6}{x:Value}{Q:Value->Í->È}(a:þm it t i)(j:Ąd t z6)(g:z6[i]?=À x)(h:∀h',h'.IsTupleIter it t î->űa it â h'->Q x { s with ç:=h' }):Ù è A Âg Q E s:=by
 let{o,c,f,b}:=id a;let{l,d,_,k,e}:=j;unfold ϻb
 show Ó (Îd (Ĳ:=ŭa Űc) a.typeIs Áf
  (Ļb Áf a.typeIs ϐk ?_ Ŭk))
 show Ó (m:=İc âb 0) (Ĉb c b (x:=.ref t) rfl ?_);rw[Ēq];show Ó (m:=İc âb 1) (Ĉb c b (x:=.int i 0) rfl ?_);show Ó (m:=seqItems? (.ref t)) (ļb d e ?_);simp only[Ĝ,g];refine Ó (Ĕh c b ô (ó {x,rfl,ó (h _ ?_ ĉj)}))
 show{_,ßd _ c (Obj.isFreed_of_fields (Ąm b _)),(Obj.cls_mapFields ..).trans f,by rw[Ąm b];simp[ϑ]}
def y3h{it t:Ë}{i:Â}{z6}{Q:Value->Í->È}(h:ča=Å)(b:þm it t i)(k:Ąd t z6)(j:z6[i]?=Å)(l:∀h' e,Ģo it â h'->(∃o,ċ e=À o/\Åb=.type ãd)->E ąg { s with ç:=h' }):Ù è A Âg Q E s:=by
 let{o,f,n,c}:=id b;let{q,d,_,p,g}:=k;unfold ϻb
 show Ó (Îd (Ĳ:=ŭa Űc) ĸe Áf
  (Ļb Áf ĸe ϐk ?_ Ŭk))
 show Ó (m:=İc âb 0) (Ĉb f c (x:=.ref t) rfl ?_);rw[Ēq];show Ó (m:=İc âb 1) (Ĉb f c (x:=.int i 0) rfl ?_);show Ó (m:=seqItems? (.ref t)) (ļb d g ?_);simp only[Ĝ,j];refine Ó (çd (Ó (Ĕh f c ô ?_)));show Ó (m:=Ņg ŋi []) ?_;simp only[Ņg,newTuple];show Ó Ϲn;refine Ó (m:=Ăn _ _) (īi (a:=ϥa) įk ?_);show Öc ?_ ĥh;simp only[ój];show Ó ĝm
 first|rw[show śn=Å from h]|rw[h]
 show Ó (ó (Ăo ?_));show l _ _ (((ĉj).extBut.push _).push _) {_,ŷ _ rfl,rfl}
def x4p{it l:Ë}(c:l≠it)(z6:Ú Value):V9 ă w it l (λi h=>ÿi it l i/\h.IsList l z6) ń þh where
 ťa:=λi h d st k=>{st.1.at λo e=>k it o Ţ e,st.2.at λo e=>k l o ćc e}
 Ăb:=λi st a j=>wpAny_nextOf_list_item st.1 st.2 (x:=z6.getD i .none) Ϥm λd b f=>j d {b,st.2.extBut Ķe c} f
 done:=λi g st a m=>wpAny_nextOf_list_end g st.1 st.2 (äf a) m
def x4q{it l:Ë}(c:l≠it)(z6:Ú Value):V9 ă w it l (λi h=>Ŏn it l i/\ôp l z6) ń þh where
 ťa:=λi h d st k=>{st.1.at λo e=>k it o Ţ e,st.2.at λo e=>k l o ćc e}
 Ăb:=λi st a j=>y3i st.1 st.2 (x:=z6.getD i .none) Ϥm λd b f=>j d {b,st.2.extBut Ķe c} f
 done:=λi g st a m=>y3h g st.1 st.2 (äf a) m
variable{z TI TO i1 i2 l1 l2:Ë}{st1 st2:Â->Heap->È}{n1 n2:Â}{v1 v2:Â->Value}{a b:Value}{k:Â}
def w13{Q:Value->Í->È}(D:ĺe z TI TO i1 i2 l1 l2)(I:V9 ă w i1 l1 st1 n1 v1)(K:V9 ă w i2 l2 st2 n2 v2)(hz:Æb â z TI TO .none)(Y:ļa â TI ĵd Îg)(X:ļa â TO a b)(h1:st1 k â)(h2:st2 k â)(k1:k<n1)(k2:k<n2)(hi1:i1<Ý)(hi2:i2<Ý)(hl1:l1<Ý)(hl2:l2<Ý)(hQ:∀h',Æb h' z TI TO (ϑ Ý)->ļa h' TO ůd Řg->st1 Ň h'->st2 Ň h'->ļa h' Ý ůd Řg->
   (∀c o,c≠z->c≠TO->c≠i1->c≠i2->ø c=À o->ċ c=À o)->Q Ġa { s with ç:=h' }) :
  Ù è A Ŗk (λfin s'=>∃v,fin=.done (.ret v)/\Q v s') E s:=by
 rw[ćq];show Ó ęn;rw[Ôq];refine Ó (Ôd hz ô λha q B=>?_)
 replace q:Æb ha z TI TO .ellipsis:=q
 rw[Ňq];let U:st1 k ha:=Ϭj k _ _ h1 λc o L e=>ľe c o (by rcases L with rfl|rfl;show Ŵg;show D.l1z) e
 show Ó (Υa (Ó (m:=ϻb ĵd) (I.item k U k1 λhb Z C=>ó ?_)));let l:ļa hb TO a b:=Ľe _ _ D.TOi1 (ľe _ _ ŵg X);show Ó (ļb l rfl (Ó (Óh l λL h p=>?_)))
 replace h:ļa L TO ůd b:=h
 show Ó Ħp
 let P:st2 k L:=ϩj k _ _ h2 λc o d e=>by rcases d with rfl|rfl;show Ļd _ _ ĺi (Ľe _ _ ϒo (ľe _ _ ųg e));show Ļd _ _ ϯj (Ľe _ _ D.l2i1 (ľe _ _ D.l2z e))
 show Ó (Υa (Ó (m:=ϻb Îg) (K.item k P k2 λhd R y=>ó ?_)));let j:ļa hd TO ůd b:=Ĭe _ _ D.TOi2 h;show Ó (ļb j rfl (Ó (Óh j λf g r=>?_)))
 replace g:ļa f TO ůd Řg:=g
 show Ó (Ám Ëj);show Ó (ļb g rfl (Ó (ĕh ?_)));let G:Ñe=Ý:=by rw[r.1,y.1,p.1,C.1,B.1]
 let F:Æb f z TI TO .ellipsis:=šb _ _ Ůi (Ĭe _ _ ϑo (Ļd _ _ Ůi (Ľe _ _ ŭi q)))
 let hke:∀c o,c≠z->c≠TO->c≠i1->c≠i2->ø c=À o->f.get? c=À o:=λc o u J T W e=>
  šb _ _ J (Ĭe _ _ W (Ļd _ _ J (Ľe _ _ T (ľe _ _ u e))))
 let O:st1 Ň f:=Ϭj _ _ _ Z λc o d e=>by rcases d with rfl|rfl;show šb _ _ Ĥo (Ĭe _ _ D.i12 (Ļd _ _ Ĥo e));show šb _ _ D.l1TO (Ĭe _ _ D.l1i2 (Ļd _ _ D.l1TO e))
 let S:st2 Ň f:=ϩj _ _ _ R λc o d e=>by rcases d with rfl|rfl;show šb _ _ ĺi e;show šb _ _ ϯj e
 let n:z<Ñe:=ĥ F;show Ó (m:=ųk ϸb Ðp) ?_;unfold ųk;let hzf:Æb (f.push { cls:=.type Ϗ,ć:=.seq #[v1 k,v2 k] }) z TI TO .ellipsis:=ě _ F;refine Ó (Ôd hzf ô λhg t sg=>?_)
 replace t:Æb hg z TI TO Ļp:=t
 refine Ôd t ô λH i sh=>?_
 replace i:Æb H z TI TO Ļp:=i
 let N:∀c o,c≠z->f.get? c=À o->ϭj c=À o:=λc o u e=>æp _ _ u (çp _ _ u Ĳd)
 let hT:ļa H Ñe ůd Řg:=æp _ _ (Ŏa n) (çp _ _ (Ŏa n) ťc);rw[G]at i hT;show ó {_,rfl,?_};exact Q Ðp _;rw[G];show hQ H i (N _ _ ŵg g) (Ϭj _ _ _ O λc o d e=>N c o ?_ e) (ϩj _ _ _ S λc o d e=>N c o ?_ e) hT λc o u J T W e=>N c o u (hke c o u J T W e)
 .rcases d with rfl|rfl
  .show Ŵg
  .show D.l1z
 .rcases d with rfl|rfl
  .show ųg
  .show D.l2z
def w12{Q:Fin->Í->È}(N:ča=Å)(D:ĺe z TI TO i1 i2 l1 l2)(G:V9 ă w i1 l1 st1 n1 v1)(T:V9 ă w i2 l2 st2 n2 v2)(hz:Æb â z TI TO .none)(K:ļa â TI ĵd Îg)(I:ļa â TO a b)(W:st1 k â)(Y:st2 k â)(R:n1<=k\/n2<=k)(S:∀h' e,(∀c o,c≠z->c≠TO->c≠i1->c≠i2->ø c=À o->ċ c=À o)->(∃o,ċ e=À o/\Åb=.type ãd)->E ąg { s with ç:=h' }) :Ù è A Ŗk Q E s:=by
 rw[ćq];show Ó (ļb K rfl ?_);rw[Ôq];refine Ó (Ôd hz ô λU g l=>?_)
 replace g:Æb U z TI TO .ellipsis:=g
 rw[Ňq];let p:st1 k U:=G.keep k _ _ W λc o J e=>ēe c o (by rcases J with rfl|rfl;show Ŵg;show D.l1z) e
 by_cases k1:k<n1;let X:n2<=k:=by omega
 show Ó (Υa (Ó (m:=ϻb ĵd) (G.item k p k1 λH h1b i=>ó ?_)));let h:ļa H TO a b:=ĳe _ _ D.TOi1 (ēe _ _ ŵg I);show Ó (ļb h rfl (Ó (Óh h λJ P u=>?_)));show Ó Ħp
 let y:st2 k J:=Ūd k _ _ Y λc o L e=>by rcases L with rfl|rfl;show Üg _ _ ĺi (ĳe _ _ ϒo (ēe _ _ ųg e));show Üg _ _ ϯj (ĳe _ _ D.l2i1 (ēe _ _ D.l2z e))
 show Ó (Υa (Ó (m:=ϻb Îg) (ϥj k N y X λhd e O C=>?_)));let{B,d,f}:=C;let n:Æb hd z TI TO .ellipsis:=O _ _ ϑo (Üg _ _ Ůi (ĳe _ _ ŭi g));let j:e≠z:=λx=>by subst x;rw[n]at d;cases d;simp at f
 show Ôd n ô λv _ r=>S v e (λc o t c2 F Z x=>šb _ _ t (O _ _ Z (Üg _ _ c2 (ĳe _ _ F Ťn)))) {B,šb _ _ j d,f};refine Ó (Υa (Ó (m:=ϻb ĵd) (G.done k N p Ê λH e i C=>?_)));let{B,d,f}:=C;let q:Æb H z TI TO .ellipsis:=i _ _ ŭi g;let j:e≠z:=λx=>by subst x;rw[q]at d;cases d;simp at f
 show Ôd q ô λv _ r=>S v e (λc o t _ F _ x=>šb _ _ t (i _ _ F Ťn)) {B,šb _ _ j d,f}
#print a
#print L2
namespace L2
open ľ ś ŋ
def qi(K:Ô)(b:Ð)(H:Hp)(a:Ë)(xs:Á V):È:=match b with
 |Ä=>xP K H a xs|Ã=>ya K H a xs
nonrec def Im(a:Ð):ìa:=match a with
 |Ä => "tuple_iterator"|Ã => ϊh
def pA(b:Ð)(h:Heap)(a:Ë)(its:Ú Value):È:=match b with
 |Ä=>ôp a its|Ã=>h.IsList a its
def XZ(a:Ð)(h:Heap)(it l:Ë)(i:Â):È:=∃o,Ğ it=À o/\Åb=.type (Im a)/\ϸ=.fields #[.ref l,.int i 0]
theorem XZ.at{a:Ð}{h h':Heap}{it l:Ë}{i:Â}(x:XZ a h it l i)(e:∀o,Ğ it=À o->ċ it=À o):XZ a h' it l i:=let ⟨o,ho,r⟩:=x;{o,e _ ho,r}
theorem pA.push{b:Ð}{h:Heap}{a:Ë}{its:Ú Value}(x:pA b h a its)(o:Obj):pA b (Ϝj o) a its:=by cases b;show Heap.IsList.push x o;show Heap.IsTuple.push x o
def pA.lt{b:Ð}{h:Heap}{a:Ë}{its:Ú Value}(x:pA b h a its):a<àb:=by cases b;let{o,e,_}:=x;show ĥ e;let{o,e,_}:=x;show ĥ e
section
variable{ă:ï}{w:æ}{A:ù}{E:Value->Í->È}{s:Í}
def Bs{b:Ð}{it l:Ë}(a:l≠it)(z6:Ú Value):V9 ă w it l (λi h=>XZ b h it l i/\pA b h l z6) ń þh:=by cases b;show x4p a z6;show x4q a z6
def n_{a:Ð}{l:Ë}{z6:Ú Value}{Q:Value->Í->È}(h:pA a â l z6)(b:Q Ġa { s with ç:=Ùa { cls:=.type (Im a),ć:=.fields #[.ref l,.int 0 0] } }):Ù è A (ťd Ũb) Q E s:=by cases a;show Öd (show Ði l z6 from h) b;show åh (show Ąd l z6 from h) b
abbrev DK(t1:Ð)(h:Heap)(l1:Ë):Heap:=Ϝj { cls:=.type (Im t1),ć:=.fields #[.ref l1,.int 0 0] }
abbrev DL(t1 t2:Ð)(h:Heap)(l1 l2:Ë):Heap:=(éo).push { cls:=.type (Im t2),ć:=.fields #[.ref l2,.int 0 0] }
abbrev DM(t1 t2:Ð)(h:Heap)(l1 l2:Ë):Heap:=(İm).push { cls:=.type Ϗ,ć:=.seq #[.ref àb,.ref (éo).objs.size] }
abbrev DN(t1 t2:Ð)(h:Heap)(l1 l2:Ë):Heap:=(įm).push { cls:=.type Ϗ,ć:=.seq #[.none,.none] }
abbrev QU(t1 t2:Ð)(h:Heap)(l1 l2:Ë):Heap:=(DN t1 t2 h l1 l2).push { cls:=.type ŀa,ć:=.fields #[.none,.bool Ã,.bool Ã,.ref (İm).objs.size,.ref (įm).objs.size] }
def w17(b t2:Ð)(a c:Ë)(xs ys:Ú Value) :Meets (Builtin.«zip.__new__» {[.type ŀa,.ref a,.ref c],[]}) (λ_ R s=>pA b â a xs/\pA t2 â c ys/\R (.ok (.ret (.ref (DN b t2 â a c).objs.size))) { s with ç:=QU b t2 â a c }):=
 .of_wp λprog w A R s h=>by
  let{l,g,d,m,k}:=s;let{j,e,h}:=h;let n:=sub_zip;let i:pA b (ĕo {l,g,d,m,k}) a xs:=j;let f:pA t2 (ĕo {l.push { cls:=.type (Im b),ć:=.fields #[.ref a,.int 0 0] },g,d,m,k}) c ys:=pA.push e _
  wp_walk using n_ i,n_ f
  show{_,rfl,h}
def z57{b t2:Ð}{a d:Ë}{xs ys:Ú Value}{Q:Value->Í->È}(k:pA b â a xs)(e:pA t2 â d ys)(h:∀h',Æb h' (Ý+4) (Ý+2) (Ý+3) .none->ļa h' (Ý+2) Ġa (.ref Ļa)->
   ļa h' (Ý+3) .none .none->XZ b h' Ý a 0->XZ t2 h' Ļa d 0->
   (∀c o,ø c=À o->ċ c=À o)->Q (.ref (Ý+4)) { s with ç:=h' }) :
  Ù è A (ĳb ŧo [.ref a,.ref d]) Q E s:=by
 refine callType_new F.called_zip Ò (F.typeCall_zip_2 _ _) (F.newCall_zip_2 _ _) (λl=>F.args_object_init_3 l _ _) F.entry_zip_new (w17 b t2 a d xs ys) {k,e,?_};let f:(DK b â a).objs.size=Ý+1:=Ϡa ..;let i:(DL b t2 â a d).objs.size=Ý+2:=by rw[Ϡa,f]
 let j:(DM b t2 â a d).objs.size=Ý+3:=by rw[Ϡa,i]
 let n:(DN b t2 â a d).objs.size=Ý+4:=by rw[Ϡa,j]
 let g:(Ée).get? (DN b t2 â a d).objs.size=À _:=ŷ _ rfl;let m:(Ée).get? (DM b t2 â a d).objs.size=À _:=ě _ ťc;let p:(Ée).get? (DL b t2 â a d).objs.size=À _:=ě _ (ě _ ťc);let q:(Ée).get? (DK b â a).objs.size=À _:=ě _ Óm;let r:(Ée).get? Ý=À _:=ě _ (ě _ Óm);exact _/\_;rw[i,j,n]at g;rw[f,i]at p;rw[j]at m;rw[f]at q;rw[n]
 show⟨{_,g,rfl},h _ g p m {_,r,rfl,rfl} {_,q,rfl,rfl} λc o x=>
  ě _ (ě _ (ě _ (ě _ (ě _ x))))⟩
#print a
section
variable{X:Cx}{zA:Á õ}{σ:St}{H:Hp}{s:Í}
def Inv.Uh{b:Ð}{a:Ë}{xs:Á V}(I:Inv X zA σ H s)(h:qi X.K b H a xs):∃its:Á Value,zo xs its/\pA b â a ϥ:=by cases b;let{its,r,p,_}:=Ϛ h;show{its,r,Ýg};let{its,r,p,_}:=Þa h;show{its,r,p}
def Inv.bF{b:Ð}{a:Ë}{xs ys:Á V}(I:Inv X zA σ H s)(h:qi X.K b H a xs)(h':qi X.K b H a ys):xs=ys:=by cases b;show I.LZ h h';show I.FU h h'
def z0i{fs ch:Á Ë}{h h':Heap}(k:∀b o,b ∉ ch->Ğ b=À o->ċ b=À o):Un fs ch H H h h':=
 {λb o e _ _ a=>k b o a e,λb o e _ _ a=>{o.slots,k b o a e},λ_ _ _ n _=>n,λb o e a=>{o,k b o a e},λ_ _ z=>z,λ_ _ _ z=>z,λb c e=>{#[],by rw[e];simp}}
def i4{P:ï}{w:æ}{ch:Á Ë}{h h':Heap}(x:wX P w H h)(f:∀b∈ch,H b=Å)(k:∀b o,b ∉ ch->Ğ b=À o->ċ b=À o):wX P w H h':=λb u e=>by
 let a:∀c v,H c=À v->c ∉ ch:=λc v e z=>by rw[f c z]at e;cases e
 show(Ój).XH (λc v d q=>k c v ?_ q) ϒf λ_ _ q=>q
 rcases d with z|z;rw[z];show a b u e;show a c _ z
def Inv.but{ch:Á Ë}{h':Heap}{tk:Â}(I:Inv X zA σ H s)(c:∀b∈ch,g7 X zA H b)(k:∀b o,b ∉ ch->ø b=À o->ċ b=À o):Inv X zA σ H { s with ç:=h',Ĕ:=tk }:=
 I.FH (s':={ s with ç:=h',Ĕ:=tk }) rfl (z0i k) Čl ϑa λb a=>{Ϻb.2.2.2.1,Ϻb.2.1,Ϻb.2.2.2.2.1,Ϻb.2.2.2.2.2}
def Inv.b8{ch:Á Ë}{h':Heap}{tk:Â}{T:Ë}{o:HO}(I:Inv X zA σ H s)(c:∀b∈ch,g7 X zA H b)(k:∀b o,b ∉ ch->ø b=À o->ċ b=À o)(f:ø T=Å)(e:H T=Å)(d:xm ö X.w Ϧo h' T o):Inv X zA σ Ϧo { s with ç:=h',Ĕ:=tk }:=
 I.FH (s':={ s with ç:=h',Ĕ:=tk }) rfl (x9s (z0i k) f e) (i5 Čl e d) ϑa λb a=>{Ϻb.2.2.2.1,Ϻb.2.1,Ϻb.2.2.2.2.1,Ϻb.2.2.2.2.2}
#print a
def C4(K:Ô)(c t2:Ð)(a b:Ë):It:=
  ⟨λi H=>∃xs ys x y,qi K c H a xs/\qi K t2 H b ys/\xs[i]?=À x/\ys[i]?=À y,
   λi H v d=>∃p,H p=Å/\v=.ref p/\∀xs ys,qi K c H a xs->qi K t2 H b ys->∃x y,xs[i]?=À x/\ys[i]?=À y/\d=ze H p ėd,
   λi H=>∃xs ys,qi K c H a xs/\qi K t2 H b ys/\(ë<=i\/Ŭ<=i)⟩
def x7n{P:ï}{w:æ}{K:Ô}{S:Á Ö}{R:Â}{pos:Pos}(t1 t2:Ð)(a b z TI TO i1 r:Ë)(D:ĺe z TI TO i1 r a b) :YF P w K (.Tuple S R pos) Žh đn z (λi h=>Æb h z TI TO .none/\ļa h TI ĵd (.ref r)/\(∃u v,ļa h TO u v)/\XZ t1 h i1 a i/\XZ t2 h r b i) where
 mem:=by simp
 obj:=λi h st c d=>by let{f,j,{u,v,p},{o4,n,_,d4},{o5,m,_,d5}}:=st;simp only[Ěa,Ϣ,ĸa]at d;rcases d with rfl|rfl|rfl|rfl|rfl;show{_,f,λv q=>nomatch q};show{_,j,λv q=>nomatch q};show{_,p,λv q=>nomatch q};show{_,n,λv q=>by rw[d4]at q;cases q};show{_,m,λv q=>by rw[d5]at q;cases q}
 ťa:=λi h h' st k=>by let{f,j,{u,v,p},n,m}:=st;show{k z ô _ f,k TI ô _ j,{u,v,k TO ô _ p},n.at λo e=>k i1 ô o e,m.at λo e=>k r ô o e}
 Ăb:=by
  rw[Çq];let{xs,ys,x,y,Z,hy,ex,ey}:=hg;rw[ľq];let{xu,L,rxu}:=ru.get ex;let{yw,U,ryw}:=A.get ey;let k1:i<Ďn:=by rw[Ĭ];show(Ŀ L).1
  let k2:i<čn:=by rw[Ĭ];show(Ŀ U).1
  let e1:C.toArray.getD i .none=xu:=by let:=Ŀ L;let{l,e}:=this;simp[Ęd,l,e]
  let e2:G.toArray.getD i .none=yw:=by let:=Ŀ U;let{l,e}:=this;simp[Ęd,l,e]
  let Q:ìb ϸb ŀa:={_,f,rfl};let q4:i1<Ý:=by let{o,e,_}:=n;show ĥ e
  let q5:r<Ý:=by let{o,e,_}:=m;show ĥ e
  unfold šd
  show Ó (ûf (Îd (Ĳ:=ŭa Űc) Q æf (Ļb æf Q Ϗm
   (w13 D ŷl Ŷl f j p {n,pu} {m,pw} k1 k2 q4 q5 pu.lt pw.lt λh' a1 a2 a3 a4 a5 a6=>ó ?_) ŵl)))
  rw[e1,e2]at a2 a5;show{_,rfl,wpAny_letOwnedTupleGo_zip (s:={ s with ç:=h' }) a1 λB b1 J=>?_}
  let hTs:ø Ý=Å:=by
   cases q:ø Ý with
   |Å=>rfl|À o=>show Þ Še Ēa
  let N:H Ý=Å:=Ęb Ē;let hTz:Ý≠z:=Ŏa (ĥ f);let tup:B.get? Ý=À { cls:=.type Ϗ,ć:=.seq #[xu,yw] }:=ŀd _ _ hTz a5
  let R:∀c o,c ∉ đn->ø c=À o->B.get? c=À o:=λc o d e=>by simp only[Ěa,Ϣ,ĸa,ńg]at d;show ŀd _ _ d.1 (a6 c o d.1 d.2.2.1 d.2.2.2.1 d.2.2.2.2 e)
  let new:xm ö X.w (ze H Ý ėd) B Ý ėd:={Ĥl,[xu,yw],.cons rxu (.cons ryw .nil),{_,tup,rfl,_,rfl}};show{.ref Ý,ze H Ý ėd,I.b8 (tk:=ē) Y R hTs N new,rfl,{Ý,N,rfl,λxs' ys' hx' hy'=>?_},{b1,?_,{_,_,ŀd _ _ ŵg a2},a3.1.at λo e=>ŀd _ _ Ŵg e,a4.1.at λo e=>ŀd _ _ ųg e},λc d=>?_};rw[I.bF hx' Z,I.bF hy' hy];show{x,y,ex,ey,rfl};show ŀd _ _ D.TIz (a6 _ _ D.TIz D.TITO D.TIi1 D.TIi2 j);rw[yH];show(Y c d).1;intro q
  let O:c<Ý:=by simp only[Ěa,Ϣ,ĸa]at d;rcases d with rfl|rfl|rfl|rfl|rfl;show ĥ f;show ĥ j;show ĥ p;show q4;show q5
  rw[q]at O;show Þ O Ēa
 done:=by
  rw[Çq];let{xs,ys,Z,hy,hend}:=hg;rw[ľq]
  let t:Ďn<=i\/čn<=i:=by let l1:=êp;let l2:=A.length;rw[Ĭ,Ĭ];omega
  let Q:ìb ϸb ŀa:={_,f,rfl};unfold šd
  show Ó (ûf (Îd (Ĳ:=ŭa Űc) Q æf (Ļb æf Q Ϗm
   (w12 (by show ýa d) D ŷl Ŷl f j p {n,pu} {m,pw} t λh' e R he=>?_) ŵl)))
  let{o,ho,hcl}:=he;show Ó (ùh (T := ãd) (b:=Ä) {o,ho,hcl} ān ?_);show ó {rfl,I.but (tk:=ē) Y λc ob g eb=>?_};simp only[Ěa,Ϣ,ĸa,ńg]at g;show R c ob g.1 g.2.2.1 g.2.2.2.1 g.2.2.2.2 eb
 Ëc:=λ_ _ _ _ _ st h=>ŵm st.1 h
def xh{a b:Â}(h:a≠b):@Ne Ë a b:=h
def w14{n b a:Â}(c:b<n)(d:a<n):ĺe (n+4) (n+2) (n+3) n ħ b a:=
 {xh Ê,xh Ê,xh Ê,xh Ê,xh Ê,xh Ê,xh Ê,xh Ê,xh Ê,xh Ê,xh Ê,xh Ê,xh Ê,xh Ê,xh Ê,xh Ê,xh Ê,xh Ê}
def z4b:ϕ ŀa=À ŧo:=by rw[Ϩp]
section
variable{X:Cx}
def i6(K:Ô)(d:TA):TI:=λσ H R=>d σ H λe c=>∃a b xs ys t1 t2,e=[.ref a,.ref b]/\qi K t1 c a xs/\qi K t2 c b ys/\R Žh c
def y9e{a b:Ö}{C:TA}{p pos:Pos}{i:Á Ö}{kk:Â}{W:Pos}(hg:Gl X ŀa)(Y:ñ ŀa=Å)(ha:PA X ϡe C)(S:Î (Îb ϡe Û=[(Ã,Ĥ a Û),(Ã,Ĥ b Û)]) q12)(g:Î (Îb [b] Û=[(Ã,Ĥ b Û)]) q12):PI X (.Tuple i kk W) ϩg (i6 X.K C):=by
 intro o s σ H R I h;show Call_ (Th I hg Y z4b (Êf (zx (ha pos o s σ H _ I h) λL e ⟨vs,w,d,r1,Z⟩=>?_) (by rw[S,g]) (by rw[g];rfl)));let{l,j,xs,ys,J,N,rfl,O,T,q}:=Z;let{u,v,rfl,U,P}:=Sf r1;cases(show u=Ė l from U);cases(show v=Ė j from P);let{L,_,F}:=d.Uh O;let{ws,_,y}:=d.Uh T;let x:=F.lt;let r:=y.lt;show z57 F y λz k A t m B Q=>?_
 let G:Inv X o σ w { e with ç:=z }:=Ϟj (t':=e.toks) Q;show ŵm (s:={ e with ç:=z }) k ?_;generalize hn:Źm=n at k A t m B x r
 let D:ĺe (n+4) (n+2) (n+3) n ħ l j:=by show w14 x r
 show{n+4,[n+4,n+2,n+3,n,n+1],_,_,w,rfl,G,x7n J N l j (n+4) (n+2) (n+3) n ħ D,{k,A,{_,_,t},m,B},λc E=>?_,q}
 let f:Źm<=c:=by rw[hn];simp only[Ěa,Ϣ,ĸa]at E;rcases E with rfl|rfl|rfl|rfl|rfl;show ϣ _ _;show ϣ _ _;show ϣ _ _;show ĺ _;show ϣ _ _
 show d.Wb f (ōf f)
def x0e{a b:Ö}{e:TA}{p pos:Pos}{c:Á Ö}{j:Â}{f:Pos}(i:Gl X ŀa)(g:ñ ŀa=Å)(l:QA X ϡe e)(k:Î Đe q12)(d:Î ϫo q12) :QI X (.Tuple c j f) ϩg (i6 X.K e):={y9e i g l.h (by rw[qV k,qV d];rfl) (qV d)}
#print a
def dM(a:îa)(env:Env)(b:Á ϫa)(own:Á Ç):Ð:=
 a.kind == .function&&įi (λy=>y.2 != .cell)&&TN a env b own&&įi (λy=>y.2 != .local||ϕb y.1==À .local)
def vI{X:Cx}{a:îa}{b:Á ϫa}{own:Á Ç}(i:Żo a Û=pure b)(g:Î (XM Û b) q14)(ok:Î (dM a Û b own=Ä) q12):XJ X a b own:=by unfold dM at ok;simp only[Ď]at ok;obtain⟨⟨⟨d,h⟩,j⟩,f⟩:=ok;show{ļf d,λy c e=>?_,g,j,i,λy c e=>?_};let:=âa h y c;rw[e]at this;cases this;let:=âa f y c;rw[e]at this;rw[ϲp]
def x0f{X:Cx}{e:Ö}{a:TE}{pos:Pos}{i:Â}{x:Ç}{ϓ:Pos}(d:éa)(hi:X.N[i]?=À x)(g:qN Ϲ x)(c:QE X e a)(f:Î ώg q12)(b:Î ũa q7):QS X ļc (Bw a Űb):={nP d hi g c.h f b}
section
variable{X:Cx}(K:Ô)(hK:X.K=K)
include hK
#print a
def z30(K:Ô)(a:Ë)(xs:Á V):È:=∀H,xP K H a xs
def e7{K:Ô}{a:Ë}{xs:Á V}{d:É Ë}{its:Ú Value}{n:Â}{b:Ú ϩa}(h:Àa a=À {.type Ϗ,d,.seq its n,b})(hz:új<=ä)(r:zo xs če):z30 K a xs:=
 λ_=>.inr {_,its,n,h,rfl,rfl,hz,r}
open Builtin ħo
section
variable{X:Cx}
theorem z0t:∀{ts:Á Ç}{its:Á Value},zo Ĵp its->∃l:Á (Ç×Tok),its=âp l/\áa (·.1)=ts
 | [],_,.nil=>{[],rfl,rfl}|t::ts,_,.cons r rr=>by let{k,e}:=(show ∃k,_=śb t k from r);let{l,e1,e2}:=z0t rr;subst e e1;show{(t,k)::l,rfl,by rw[ĵ,e2]}
def x0p(K:Ô):V->Á V->Hp->VK->È:=λx a H Q=>∃(sep:Ç) (p:Ë) (ts:Á Ç),x=.str sep/\a=Ķd/\ya K H p Ĵp/\(đc (·.length)).sum+Ϭf*Ųc<=ä/\Q (.str ın) H
def h9(sep:Ç):∀ts:Á Ç,(ın).length<=(đc (·.length)).sum+Ϭf*Ųc
 | []=>by exact(ŵc _)<=_;simp[glued,ŵc,ϰi]|t::ts=>by
  let h:∀(c:Á Ç)(a:Ú Â),(c.foldl ùl a).size=Ŏ+(c.map (·.length)).sum+Îa*Ųc:=λc=>by
   induction c with
   |nil=>intro a;simp|ð u c ih=>intro a;rw[Êa,ih];simp only[Śh,ĵ,ľf,Ĉ,ći,ŵc];omega
  exact(ts.foldl ùl t.cps).size<=_;rw[h];simp only[ĵ,ľf,Ĉ,ći,ŵc];omega
def y31:TC X "str.join" (x0p X.K):=by
 intro k s σ H x P v R Q I N B h;let{d,p,z,rfl,rfl,L,C,q}:=h;let{t,rfl}:=(show ∃t,v=śb d t from N);let{u,rfl,G}:=qG B;cases(show u=Ė p from G);let{E,r,y,_}:=Ϛ L;let{l,rfl,j}:=z0t r;let J:ìb Ŵ Ĩ:=y.isList.typeIs;let{o,A,S,n,O}:=y.isList
 let g:tooLong ((áa (·.1)).toArray.foldl (·+·.length+êa) 0)=Ã:=by rw[j,StrLaws.joinTotal];unfold tooLong;show ď Ê
 let i:(glued d z).length<=ä:=ÿ (h9 d z) C;show ĕf (όl F.slot_str_join.plain F.entry_str_join (F.slot_str_join.check _ _ _ _ _ _ _ _ (Ėf _ _ _) (F.args_str_join_2 _ _) ?_));let{m,e}:=join_tree d t p;rw[e];show Ó (èd J ?_);rw[Ï Ò];show Ó (ļb A O ?_);exact Ù _ _ (joinTail d (âp l)) _ _ _;rcases l with _|⟨a,_|⟨b,c⟩⟩;subst j;show Ėh d [] g ö X.w _ żg s {i,.str _,H,Òa _,{_,rfl},q};subst j;show Ėh d [a] g ö X.w _ żg s {.str _,H,I,{_,rfl},q};subst j;show Ėh d (a::b::c) g ö X.w _ żg s {i,.str _,H,Òa _,{_,rfl},q}
#print a
nonrec def Ll(z:Ç):It:={λi _=>i<ł,λi H x a=>a=H/\∃c,ϱc[i]?=À c/\x=.str {#[c]},λi _=>ł<=i}
section
variable{X:Cx}{tg:Ö}
def z9t(b:TE):TI:=λσ H R=>b σ H λx a=>∃z,x=.str z/\R šg a
def x7l{P:ï}{w:æ}{K:Ô}{it:Ë}{z:Ç}{t:Tok}{m:ìa}(j:m = ſl \/ m = ûn):YF P w K tg šg [it] it (λi h=>h.IsStrIter it m z t i/\i<=ł) where
 mem:=by simp
 obj:=λi h st b g=>by
  let e:b=it:=by rw[ųq]
  subst e;obtain⟨⟨o,e,c,d⟩,_⟩:=st;show{o,e,λv z=>by rw[d]at z;cases z}
 ťa:=λi h a st k=>{let ⟨o,ho,r⟩:=st.1;{o,k it ô o ho,r},st.2}
 Ăb:=by
  rw[Ìq];let R:i<ŝi:=J;let l:ϱc[i]?=À ϱc[i]:=by simp[R]
  have Y:∀a B (u:Value),(∃t',u=śb {#[ϱc[i]]} t')->a.IsStrIter it m z t î->űa it â a->∃v,À u=À v/\
    Ù Ą X.A (øf tg âb v) (λ_ U=>∃x H',Inv X N σ H' U/\yB x v/\(šg).tW i H x H'/\(U.heap.IsStrIter it m z t î/\i+1<=ł)/\∀b∈[it],H' b=Å) E { s with ç:=a,Ĕ:=B }:=λa B u Z f n=>by
   let{t',rfl}:=Z;let I1:Inv X N σ H { s with ç:=a,Ĕ:=B }:=ïb (ςd (n.2 b g)) C F y G q;let{o,e,c,d}:=id f;show{_,rfl,IU (s:={ s with ç:=a,Ĕ:=B }) e c d (by rcases j with rfl|rfl<;>decide) {.str {#[ϱc[i]]},H,I1,{t',rfl},{rfl,_,l,rfl},{f,J},λb g=>(p b g).1}}
  rcases j with rfl|rfl;show wpAny_pyNext_ascii_item st.1 l λa f n=>Y a _ _ {_,rfl} f n;show wpAny_pyNext_wide_item st.1 l λa f n=>Y a _ _ {_,rfl} f n
 done:=by rw[Ìq];let l:ϱc[i]?=Å:=äf J;rcases j with rfl|rfl;show wpAny_pyNext_ascii_end (ýa S) st.1 l λa T=>{rfl,ïb (t':=ē) łl C F y G q};show wpAny_pyNext_wide_end (ýa S) st.1 l λa T=>{rfl,ïb (t':=ē) łl C F y G q}
 Ëc:=λ_ _ _ _ _ st h=>by rcases j with rfl|rfl;show wpAny_pyIter_striter_ascii st.1 h;show wpAny_pyIter_striter_wide st.1 h
def y9d{e:Ö}{j:TE}(n:PE X e j):PI X tg e (z9t j):=by
 intro i s σ H R I h;show zx (n i s σ H _ I h) λv a ⟨x,p,g,m,l⟩=>?_
 let{z,rfl,q}:=l;let{t,rfl}:=(show ∃t,v=śb z t from m)
 let c:∀(d:ìa),(d = ſl \/ d = ûn)->∀o:Obj,(ûe o).IsStrIter ϟa d z t 0->C7 X i σ tg R Ñp { a with ç:=ûe o }:=λd f o st=>
  ⟨ϟa,[ϟa],_,_,p,rfl,g.kept (t':=ŋg) λb o e=>ě _ e,x7l f,{st,Ź _},λb k=>by
   let e:b=ϟa:=by simpa using k
   subst e;show g.Wb Ē (g.zi.fresh Ē),q⟩
 cases ha:z.cps.all (·<128);show wpAny_pyIter_wide ha (c _ ćc _ {_,ŷ _ rfl,rfl,rfl});show wpAny_pyIter_ascii ha (c _ Ţ _ {_,ŷ _ rfl,rfl,rfl})
#print a
def cutS(z:Ç)(lo hi:É Æ):Ç:={((Œh (ř ł 0 lo)).take Æl).toArray}
def z5h(n:Â)(lo:É Æ):(match lo with|Å=>(0:Æ)|À i=>max 0 ώd)=((ř n 0 lo:Â):Æ)\/∃i,lo=À i/\i<0/\(n:Æ)<i+n:=by
 cases lo with
 |Å=>left;rfl|À i=>
  left
  exact max 0 ώd=((ϕg:Â):Æ);by_cases h:i<0;simp only[h,ό];omega;simp only[h,Ďa];omega
def z5g(n:Â)(hi:É Æ):(match hi with|Å=>(n:Æ)|À i=>max 0 ώd)=((ř n n hi:Â):Æ):=by
 cases hi with
 |Å=>rfl|À i=>exact max 0 ώd=((ϕg:Â):Æ);by_cases h:i<0;simp only[h,ό];omega;simp only[h,Ďa];omega
def z5i(n:Â)(lo:É Æ):(match lo with|Å=>(0:Æ)|À i=>max 0 ώd)=((ř n 0 lo:Â):Æ):=by rcases z5h n lo with h|⟨i,_,h1,h2⟩;show h;omega
def nA(z:Ç)(lo hi:É Æ):Şh=(ϡ Æl).map (ř ł 0 lo+·):=by let a:=z5i ł lo;let b:=z5g ł hi;rw[<-þn,<-a,<-b];unfold Ýf;simp only[show(1:Æ)>0 by decide,ό];cases lo<;>cases hi<;>rfl
def z5s(z:Ç)(lo hi:É Æ):({((Şh).filterMap (ϱc[·]?)).toArray}:Ç)=cutS z lo hi:=by rw[nA,õj];rfl
def ŭe(n d:Â)(a:d<=n)(v:É Æ):ř n d v<=n:=by
 cases v with
 |Å=>show a|À i=>exact ϕg<=n;by_cases h:i<0;simp only[h,ό];omega;simp only[h,Ďa];omega
def z5v(z:Ç)(lo hi:É Æ)(h:(Şh).length=ł):cutS z lo hi=z:=by
 rw[nA,ã,Øa]at h;let a:=ŭe ł 0 Ĩb lo;let b:=ŭe ł ł Ē hi;unfold cutS;rw[h];let d:ř ł 0 lo=0\/ł=0:=by omega
 let f:Ϲl=ł:=by simp[ŵc]
 rcases d with q|q;rw[q,List.drop_zero,<-f,Œc];let e:Ăf=[]:=Çh Ê;rw[e];simp;cases z with
 |mk c=>simp[ŵc]at q;simp[q]
theorem œe(z:Ç)(lo hi:É Æ):(Ĵn).length<=ł:=by exact(List.toArray _).size<=ŝi;rw[Ĭ,äa,ňa,Ĺ];show ÿ Ãg Ŋa
section
variable{X:Cx}
def mx{v:Value}{lo:É Æ}(h:Æc v lo):∃l:É (Æ×Tok),v=partValue l/\áa (·.1)=lo:=by
 cases h with
 |Å=>show{Å,rfl,rfl}|int i t=>show{À (i,t),rfl,rfl}
def oQ:V->É Æ->É Æ->Hp->VK->È:=λx b a H Q=>∃z:Ç,x=.str z/\ł<=ä/\Q (.str (cutS z b a)) H
def x47:YE X oQ:=by
 intro k s σ H x v p o n m j Q I c i g d h;let{z,rfl,f,q}:=h;let{t,rfl}:=(show ∃t,v=śb z t from c);let{l,rfl,rfl}:=mx g;let{u,rfl,rfl}:=mx d;show{ϖe,_,F.slot_str_getitem.lookup,Ėf _ _ _,?_};show wpAny_getItem_str_slice (l:=l) (u:=u) (st:=Å) i rfl ?_;unfold sliceMade;let b:slicePicked z l u Å=Ýf (áa (·.1)) (u.map (·.1)) 1 ł:=rfl;rw[b]
 split;rename_i a
 let e:(Ýf (áa (·.1)) (u.map (·.1)) 1 ł).length=ł:=by rw[Ď]at a;show ļf a.2
 rw[z5v z _ _ e]at q;show{.str z,H,I,{_,rfl},q};rw[z5s];show{ÿ (œe z _ _) f,.str _,H,Òa _,{_,rfl},q}
#print a
section
variable{X:Cx}{e o:Ö}{to:TE}{Åa Ϯ:Pos}{Ĳ:Ç}{T id:ìa}{rm:V->Á V->Hp->VK->È}
def x0b(e:ώf T)(c:Slot T Ĳ id)(d:ŀg Ùb=pure Ìf)(g:TC X id rm)(f:QE X o to)(a:Î ϱe q12)(b:Î Ĺb q12):QE X Ÿl (z03 X.K T rm to):={y8f e c d g f.h a b}
#print a
#print L2
namespace L2
open ľ ś ŋ
section
variable{κ:Type}[œb κ]
nonrec def qw(kvs:Á Ϸa)(k:κ):É V:=(kvs.find? λa=>decide (a.1=k)).map (·.2)
nonrec def qB(kvs:Á Ϸa)(k:κ)(v:V):Á Ϸa:=
 if(kvs.any λa=>decide (a.1=k))=Ä then Ϛc (λa=>if a.1=k then(a.1,v)else a)else kvs++[(k,v)]
theorem D9{p:κ×V}{r:Á Ϸa}{k:κ}(e:p.1=k):qw (p::r) k=À p.2:=by simp[qw,ÿd,e]
theorem D8{p:κ×V}{r:Á Ϸa}{k:κ}(e:¬ p.1=k):qw (p::r) k=qw r k:=by simp[qw,ÿd,e]
theorem z0o(k:κ):∀kvs:Á Ϸa,ϫk=(ϕf).isSome
 | []=>rfl|p::r=>by rw[Čd];by_cases e:p.1=k;simp only[D9 e,ú e,Bool.true_or,Option.isSome_some];rw[D8 e,ď e,řn];show z0o k r
def Kg(kvs:Á Ϸa)(k:κ)(v:V):(ėi).length<=Ō+1:=by
 unfold qB
 split;rw[ã];omega;rw[ì,Ĉ,Řc];omega
def tm.Uc{o:É V}{u:É Value}(r:tm o u):o.isSome=u.isSome:=by
 cases o with
 |Å=>cases u with
  |Å=>rfl|À _=>show(show Ā from r).elim
 |À _=>cases u with
  |Å=>show(show Ā from r).elim|À _=>rfl
theorem tm.getD{o:É V}{u:É Value}{d:V}{d':Value}(r:tm o u)(a:yB d d'):yB (Ŧd d) (u.getD d'):=by
 cases o with
 |Å=>cases u with
  |Å=>show a|À _=>show(show Ā from r).elim
 |À _=>cases u with
  |Å=>show(show Ā from r).elim|À _=>show r
def KV.val{kvs:Á Ϸa}{vs:Á ġd}(r:KV kvs vs)(k:κ):tm ϕf (ěc vs k):=by
 unfold KV at r
 induction r with
 |nil=>show ųa|@cons p q ps qs h t ih=>
  let{c,d}:=h;rw[Śq];let b:ěc Ĳg k=À q.2:=by simp[ěc,ÿd,a]
  rw[D9 e,b];show d;let a:¬ q.1=k:=λz=>e (Ġb z)
  let b:ěc Ĳg k=ěc qs k:=by simp[ěc,ÿd,a]
  rw[D8 e,b];show ih
theorem KV.any{kvs:Á Ϸa}{vs:Á ġd}(r:KV kvs vs)(k:κ):ϫk=vs.any λkv=>decide Ģj:=by
 unfold KV at r
 induction r with
 |nil=>rfl|ð h t ih=>rw[Čd,Čd,ih,h.1]
theorem KV.FP{kvs:Á Ϸa}{vs:Á ġd}(r:KV kvs vs)(k:κ){y:V}{u:Value}(c:yB y u) :KV Ĳk (Ľg λkv=>if kv.1=k then(kv.1,u)else kv):=by
 unfold KV at r ⊢
 induction r with
 |nil=>show .nil|@cons p q ps qs h t ih=>rw[ĵ,ĵ];show .cons ?_ ih;let{a,b}:=h;by_cases e:p.1=k;rw[Ï e,Ï ϥm];show{a,c};rw[Ñ e,Ñ Ϛl];show{a,b}
def KV.put{kvs:Á Ϸa}{vs:Á ġd}(r:KV kvs vs)(k:κ){y:V}{u:Value}(a:yB y u):KV Ôo (Ħc vs k u):=by unfold qB Ħc;rw[r.any k];by_cases e:(vs.any λb=>decide (b.1=k))=Ä;rw[Ï e,Ï e];show r.FP k a;rw[Ñ e,Ñ e];show ėo r {rfl,a}
theorem KV.length{kvs:Á Ϸa}{vs:Á ġd}(r:KV kvs vs):Ō=đ:=Õi r
#print a
def ZY{P:ï}{w:æ}{k:zY}{u:Value}(r:yB Èk u):(æb).is k u=Ä:=by
 cases k with
 |inl i=>let{t,e}:=(show ∃t,u=ϥb i t from r);subst e;show y2t P w i t
 |inr x=>let{t,e}:=(show ∃t,u=śb x t from r);subst e;show Ks P w x t
theorem iM{P:ï}{w:æ}:∀{ks:Á zY}{us:Á Value},zo Ĺf us->ItemsAre æb ks us
 | [],_,r=>by rw[òe]at r;cases r;show .nil|k::ks,_,r=>by
  rw[ĵ]at r;cases r with
  |ð h t=>show .cons (ZY h) (iM t)
abbrev KT(H:Hp):Á Ŕb->Á łc->È:=Ŭd λp q=>p.1=q.1/\H q.2.1=À òm/\yB p.2 q.2.2
def KT.val{H:Hp}{kvs:Á Ŕb}{xs:Á łc}(r:KT H kvs xs)(k:Á zY):tm ϕf ((Ěi).map (·.2)):=by
 induction r with
 |nil=>show ųa|@cons p q ps qs h t ih=>
  let{c,_,d}:=h;rw[Śq];let b:ϛe Ĳg k=À q.2:=by simp[ϛe,ÿd,a]
  rw[D9 e,b];show d;let a:¬ q.1=k:=λz=>e (Ġb z)
  let b:ϛe Ĳg k=ϛe qs k:=by simp[ϛe,ÿd,a]
  rw[D8 e,b];show ih
def KT.FP{H:Hp}{kvs:Á Ŕb}{xs:Á łc}(r:KT H kvs xs)(k:Á zY){y:V}{u:Value}(c:yB y u) :KT H Ĳk (ģc (Ųb k u)):=by
 induction r with
 |nil=>show .nil|@cons p q ps qs h t ih=>rw[ĵ,ĵ];show .cons ?_ ih;let{a,b,d}:=h;unfold Ųb;by_cases e:p.1=k;rw[Ï e,Ï ϥm];show{a,b,c};rw[Ñ e,Ñ Ϛl];show{a,b,d}
def KT.put{H:Hp}{kvs:Á Ŕb}{xs:Á łc}(r:KT H kvs xs)(k:Á zY){b:Ë}{y:V}{u:Value}(d:H b=À Ťh)(a:yB y u) :KT H Ôo (storedH xs k b u):=by
 let e:(kvs.any λc=>decide (c.1=k))=(Ěi).isSome:=by rw[z0o,(r.val k).Uc,ŕh]
 unfold qB storedH;rw[e];by_cases q:(Ěi).isSome=Ä;rw[Ï q,Ï q];show r.FP k a;rw[Ñ q,Ñ q];show ėo r {rfl,d,a}
def KT.keeps{H H':Hp}{kvs:Á Ŕb}{xs:Á łc}(r:KT H kvs xs)(a:∀b ys,H b=À Ċe->H' b=À Ċe):KT H' kvs xs:=
 Ϲf r λ_ _ z=>{z.1,a _ _ z.2.1,z.2.2}
section
variable{P:ï}{w:æ}{H:Hp}{h:Heap}{a:Ë}
def oh{u:HO}(ok:wX P w H h)(e:Rd H a u):xm P w H h a u:=e.ok ok
def kC{kvs:Á Äa}(ok:wX P w H h)(e:Rd H a ť):Ō<=ä/\Ĵa=Ã/\∃vs,KV kvs vs/\Ĵe æb a vs:=
 show xm P w H h a ť from oh ok e
def z69{kvs:Á Äa}(ok:wX P w H h)(e:H a=À ť):Ō<=ä/\Ĵa=Ã/\∃vs,KV kvs vs/\Ĵe æb a vs:=kC ok ĵj
def Iq{ks:Á zY}(ok:wX P w H h)(e:H a=À Íp):(Øe).is h ks a:=by let{_,b,r,o,c,d,n,f}:=(show xm P w H h a Íp from ok a _ e);show{o,çb,n,c,d,f,by simpa using iM r}
def TR{kvs:Á Ŕb}(ok:wX P w H h)(e:Rd H a ϫb):Ō<=ä/\Ĵa=Ã/\
  ∃xs,KT H kvs xs/\õp Øe a xs:=by
 let{z,y,xs,r,o,d,g,j,f,i,k,n}:=(show xm P w H h a ϫb from oh ok e);show{z,y,xs,r,o,d,g,j,f,i,k,λx b=>?_,n}
 let c:∀{l:Á Ŕb} {m:Á łc},KT H l m->∀x∈m,(Øe).is h x.1 x.2.1:=by
  intro l m q
  induction q with
  |nil=>intro x b;show nomatch b|@cons p q ps qs hq t ih=>intro x b;rcases ĩ b with e|b;subst e;show Iq ok (by rw[<-hq.1];show hq.2.1);show ih x b
 show c r x b
def z6o{kvs:Á Ŕb}(ok:wX P w H h)(e:H a=À ϫb):Ō<=ä/\Ĵa=Ã/\
  ∃xs,KT H kvs xs/\õp Øe a xs:=TR ok ĵj
#print a
def J7(H:Hp)(a:Ë)(y:V)(r:É V):È:=
 (∃kvs k,Rd H a ť/\y=kV k/\r=qw kvs k)\/∃kvs k b,Rd H a ϫb/\y=.ref b/\H b=À Ťh/\r=qw kvs k
def bM(H:Hp)(a:Ë)(y v:V)(H':Hp):È:=
 (∃kvs k,H a=À ť/\y=kV k/\Ō<ä/\H'=ze H a (.dK ėi)) \/
 ∃kvs k b,H a=À ϫb/\y=.ref b/\H b=À Ťh/\Ō<ä/\H'=ze H a (.dT ėi)
section
variable{X:Cx}{zA:Á õ}{σ:St}{H:Hp}{s:Í}{a:Ë}{y v:V}{u r:Value}{o:É V}{A:ù}{E:Value->Í->È}
def Inv.big(I:Inv X zA σ H s):Åi<Ý:=by let h:Ę<Ý:=(I.mod.glob.keeps I.bk).lt;show œf Ò h
def z5z{Q:Value->Í->È}(p:Ša+1<ϛ)(I:Inv X zA σ H s)(g:J7 H a y o)(m:yB y u)(h:∀s',Inv X zA σ H s'->Q (.bool o.isSome) s') :Ù Ą A (ěa .In u Ŗ) Q E s:=by rcases g with⟨d,k,e,f,l⟩|⟨d,k,b,e,f,n,l⟩;rw[Ųq];show ăo (ZY m) i j.mapOf ?_;rw[Âq];show wpAny_in_heap (Õf p) Ép i j ?_;rw[ċq]
def z61{Q:Value->Í->È}(p:Ša+1<ϛ)(I:Inv X zA σ H s)(g:J7 H a y o)(m:yB y u)(h:∀s',Inv X zA σ H s'->Q (.bool (!o.isSome)) s') :Ù Ą A (ěa .NotIn u Ŗ) Q E s:=by rcases g with⟨d,k,e,f,l⟩|⟨d,k,b,e,f,n,l⟩;rw[Ųq];show wpAny_notIn_of (ZY m) i j.mapOf ?_;rw[Âq];show wpAny_notIn_heap (Õf p) Ép i j ?_;rw[ċq]
def eI{h':Heap}{t':Â}{d:HO}(I:Inv X zA σ H s)(g:Jd (H a))(i:űa a â h')(h:∃q,ċ a=À q)(c:xm ö X.w ϥo h' a d) :Inv X zA σ ϥo { s with ç:=h',Ĕ:=t' }:=
 Ĝg (x:=a) (e:=a) g Ţ (λb q f z=>(i.2 b f).trans z) h c
def GB{P:ï}{w:æ}{H':Hp}{h':Heap}{kvs:Á Äa}{vs:Á ŏa}(z:Ō<=ä)(c:Ĵa=Ã)(b:KV kvs vs)(d:ϯf æb a vs) :xm P w H' h' a ť:={z,c,vs,b,d}
def z62{H':Hp}{Q:ïa->Í->È}(O:Ša+1<ϛ)(I:Inv X zA σ H s)(g:bM H a y v H')(J:yB y u)(C:yB v r)(h:∀s',Inv X zA σ H' s'->Q () s') :Ù Ą A (ņj Ŗ u r) Q E s:=by
 rcases g with⟨d,k,e,t,l,B⟩|⟨d,k,b,e,t,K,l,B⟩;subst t B;let{z,x,N,f,n}:=z69 Ě e;have m:ŕ<=ä:=by rw[<-íb];show z
 rw[ĥq]
 show wpAny_setItem_pairs (hsz:=m) (ZY J) n λG i o=>h _ ?_
 let S:∃q,G.get? a=À q:=let ⟨q,_,_,j,_⟩:=i;{q,j};show eI I įh o S (GB p x (f.put k C) i);subst t B;cases(show u=Ė b from J);let{z,x,T,f,n}:=z6o Ě e;have m:ϳa<=ä:=by rw[<-Õi f];show z
 rw[ĥq]
 show wpAny_setItem_heap (hsz:=m) (Õf O) (Iq Ě K) n λG i o=>h _ ?_
 let{q,L,W,j,U,P,R,_,Y}:=i;refine eI I įh o {q,j} {p,x,_,(f.put k K C).keeps λc Z F=>?_,q,L,W,j,U,P,R,Y};rw[yH (y3d F e ĉa)];show F
#print a
section
variable{X:Cx}{zA:Á õ}{σ:St}{H:Hp}{s:Í}{a:Ë}{kvs:Á Äa}{A:ù}{E:Value->Í->È}
def z60{Q:Value->Í->È}(I:Inv X zA σ H s)(e:Rd H a ť)(h:∀t s',Inv X zA σ H s'->Q (.int Ō t) s'):Ù Ą A (ĳb üd ϲ) Q E s:=by let{z,d,f,b,c}:=kC Ě e;refine call_len_dict d c (by rw[<-Ûa];rw[ū]at z;omega) ?_;rw[<-Ûa];show h _ _ Ãc
#print a
def z67{X:Cx}{f:Á õ}{σ:St}{H:Hp}{s:Í}{a:Ë}{y:V}{o:É V}(I:Inv X f σ H s)(g:J7 H a y o):ìb Ŗ Ña:=by rcases g with⟨c,k,e,_,_⟩|⟨c,k,b,e,_,_,_⟩;let{_,_,i,_,d}:=kC Ě e;show d.typeIs;let{_,_,h,_,d}:=TR Ě e;show d.typeIs
nonrec def x1y(e c f:TE):TS:=λD σ H=>f σ H λv g=>e σ g λx d=>c σ d λy b=>∃a H4,x=.ref a/\bM b a y v H4/\Ëb σ H4
section
variable{X:Cx}{o i e þb:Ö}{pos ϓ:Pos}{td ty tv:TE}
def nM(f:Œa+1<ϛ)(j:PE X o td)(hi:PE X i ty)(hv:PE X þb tv)(q:űc þb (À (.Subscript o i ϓ)) Įd Û=pure Ã) :PS X (.Assign [.Subscript o i ϓ] þb pos) (x1y td ty tv):=by rw[Ũq];show wpAny_Assign_Subscript (zx (hv b s σ H _ I h) λr t ⟨v,m,n,k,z⟩=>zx (j b t σ m _ n z) λu c ⟨x,E,d,w,G⟩=>zx (hi b c σ E _ d G) λJ K ⟨y,N,e,F,a,B,p,g,l⟩=>?_) q;subst p;obtain rfl:u=Ė a:=w;show z62 f e g F k λL C=>{σ,B,C,l}
#print a
def z68{P:ï}{w:æ}{H:Hp}(h:Heap)(a:Åi<àb):xm P w H (Ϝj { cls:=.type Ña,ć:=.dict #[] }) àb (.dK []):=
 {Ź _,Íb (ũb (Ϟ a)),[],.nil,ϻm h}
def x5e:TE:=λ_ H Q=>∀p,H p=Å->Q Ŵ (Ω (.dK []))
section
variable{X:Cx}{pos:Pos}
def y8q:PE X Ům x5e:=λb s σ H Q I h=>
 wpAny_Dict_empty {.ref Ý,_,Ϗa (a:=Ý) (o:=.dK []) (t':=ē) łh Ē (z68 â I.big),rfl,h _ İd}
#print a
def Yf(kvs a:Á Äa):Á Äa:=a.foldl (λb c=>qB b c.1 c.2) kvs
def KV.merge:∀{more:Á Äa} {rs:Á ŏa} {kvs:Á Äa} {vs:Á ŏa},KV more rs->KV kvs vs->KV Ϗn (merged vs rs):=by
 intro more rs kvs vs r;unfold KV at r
 induction r generalizing kvs vs with
 |nil=>intro q;show q|@cons p q ps qs h t ih=>
  intro a
  let e:KV ŷh (Ħc vs q.1 q.2):=by let:=a.put p.1 h.2;rw[<-h.1];rw[Ϯp]
  show ih e
theorem lA:∀(more kvs:Á Äa),(Ϗn).length<=Ō+more.length
 | [],kvs=>by exact Ō<=Ō+0;omega|p::r,kvs=>by let a:=lA r ŷh;let b:=Kg kvs p.1 p.2;exact(Yf ŷh r).length<=_;rw[Ĉ];omega
structure M2(X:Cx)(o:Ö)(m:Ç)(Åa:Pos)(e f:Ö)(Ϯ:Pos):È where
 Ì:Đb o m Û Ļi=Ĥ o Û
 z2l:((ĩc Ϯ Ñn).all Ŀi&&(ŷk).all ŕm
  && decide (([e,f]:Á Ö).length+([]:Á Keyword).length+ŉk<30))=Ä
 line:(apos.endLine==cpos.line)=Ä
 trees:ĩc Ϯ Ñn=[(Ã,Ĥ e Û),(Ã,Ĥ f Û)]
def cX(H:Hp)(a:Ë):È:=(∃kvs,Rd H a ť)\/∃kvs,Rd H a ϫb
def y04{X:Cx}{j:Á õ}{σ:St}{H:Hp}{s:Í}{a:Ë}(I:Inv X j σ H s)(d:cX H a) :ìb Ŗ Ña/\(∀b,Ė a=.ref b->∃ob,ø b=À ob/\ob.dict=Å)/\Ĵa=Ã:=by rcases d with⟨f,e⟩|⟨f,e⟩;let{_,h,l,_,c}:=kC Ě e;rw[Ñq];let{_,h,k,_,c}:=TR Ě e;rw[Ñq]
section
variable{X:Cx}{zA:Á õ}{σ:St}{H:Hp}{s:Í}{a:Ë}{y d:V}{u r:Value}{o:É V}{A:ù}{E:Value->Í->È}
def z5y{Q:Value->Í->È}(v:Ša+1<ϛ)(I:Inv X zA σ H s)(g:J7 H a y o)(p:yB y u)(n:yB d r)(h:∀w' s',Inv X zA σ H s'->yB (Ŧd d) w'->Q w' s') :Ù Ą A (ĳb (.builtin "dict.get") [.ref a,u,r]) Q E s:=by rcases g with⟨i,k,e,j,l⟩|⟨i,k,b,e,j,t,l⟩;subst j;let{z,m,x,c,f}:=kC Ě e;show ϥn Ąh ĵe Ļl ϯk (meets_dict_get_default Şf a (ZY p) m r) {_,f.mapOf,h _ _ Ãc ?_};rw[l];show(Ĵd).getD n;subst j;cases(show u=Ė b from p);let{z,m,q,c,f}:=TR Ě e;show ϥn Ąh ĵe Ļl ϯk (meetsH_dict_get_default (tupleKind Şf) a b m r) {Õf v,k,q,Iq Ě t,f,h _ _ Ãc ?_};rw[l];show(Ĵd).getD n
#print a
nonrec def x5d(g d e:TE):TE:=λσ H Q=>g σ H λx c=>∃a,x=.ref a/\cX c a/\d σ c λy f=>e σ f λz b=>∃o,J7 b a y o/\Q (Ŧd z) b
section
variable{X:Cx}{o e f:Ö}{Åa Ϯ:Pos}{td ty tx:TE}
def y8p(p:Œa+1<ϛ)(t:PE X o td)(B:PE X e ty)(j:PE X f tx)(m:M2 X o "get" Åa e f Ϯ):PE X (.Call ħl [e,f] [] Ϯ) (x5d td ty tx):=by
 intro b s σ H Q I h;show wpAny_Call_method m.base m.z2l m.line PySem.F.plainAttrs_dict Ąh PySem.F.type_dict_get (zx (t b s σ H _ I h) λu G ⟨x,C,i,J,a,E,d,K⟩=>?_);subst E;obtain rfl:u=Ė a:=J;let{q,v,_}:=y04 i d;show{q,v,?_};rw[m.trees]
 refine Ëh rfl (ϑl (æh (zx (B b G σ C _ i K) λU k ⟨y,N,l,O,P⟩=>
  æh (zx (j b k σ N _ l P) λT W ⟨z,R,n,r,Y,g,w⟩=>ŉm ?_))))
 show z5y p n g O r λS Z L c=>{_,R,L,c,w}
#print a
#print L2
namespace L3
open ľ
set_option genInjectivity true
inductive D where
 |zO|bl (b:Ð)|int (i:Æ)|str (x:Ç)|tup (xs:Á D)|lst (xs:Á D)|dic (ks:Á Ļ) (vs:Á D)|exc (x:Ç)|obj (x:Ç) (fs:Á Ç) (vs:Á D)
set_option genInjectivity false
def Ųg{P:D->È}(o:P .zO)(r:∀b,P ŭb)(j:∀i,P ϵ)(k:∀x,P ϴb)(m:∀xs,(∀d∈xs,P d)->P Ŗa)(a:∀xs,(∀d∈xs,P d)->P Ϩ)(c:∀ks xs,(∀d∈xs,P d)->P (.dic ks xs))(f:∀x,P (.exc x))(l:∀x fs xs,(∀d∈xs,P d)->P (.obj x fs xs))(d:D):P d:=
 D.rec (motive_1:=P) (motive_2:=λn=>∀d∈n,P d) o r j k (λxs h=>m xs h) (λxs h=>a xs h) (λks xs h=>c ks xs h) f (λx fs xs h=>l x fs xs h) ēm
  (λd n p g e q=>by rcases ĩ q with z|z;show z▸p;show g e z) d
mutual
nonrec def xf:D->D->Ð
 |.zO,.zO=>Ä|.bl a,.bl b=>a==b|.bl a,.int b=>ϣl==b|.int a,.bl b=>a==ôf|.int a,.int b=>a==b|.str a,.str b=>a==b|.tup xs,.tup ys=>Ϙa xs ys|.lst xs,.lst ys=>Ϙa xs ys|_,_=>Ã
nonrec def Ϙa:Á D->Á D->Ð
 | [],[]=>Ä|x::xs,y::ys=>xf x y&&Ϙa xs ys|_,_=>Ã
end
abbrev Sl:=Ð×D
abbrev zw:=Á (É Sl)
abbrev FE:=zw->É D
abbrev FT:=zw->É Ð
abbrev FA:=zw->É ϋa
abbrev FG:=D->zw->É zw
inductive Fl where
 |nx (σ:zw)|rt (o:Ð) (d:D)|bk (σ:zw)|ct (σ:zw)
abbrev FS:=zw->É Fl
abbrev yX:Â:=16777216
nonrec def z7(i:Â):FE:=λσ=>match σ[i]? with
 |À äc=>À d|_=>Å
nonrec def qP(i:Â):FE:=λσ=>match σ[i]? with
 |À Ňo=>À d|_=>Å
nonrec def eC(d:D):FE:=λ_=>À d
nonrec def e1(F:D->É D)(a:FE):FE:=λσ=>(Óa).bind F
nonrec def e2(F:D->D->É D)(a b:FE):FE:=λσ=>(Óa).bind λx=>(űd).bind λy=>F x y
nonrec def eL(F:Á D->É D)(a:FA):FE:=λσ=>(Óa).bind F
nonrec def zF:FA:=λ_=>À []
nonrec def zC(a:FE)(r:FA):FA:=λσ=>(Óa).bind λx=>(r σ).bind λb=>À (x::b)
nonrec def YH:D->É Ð
 |.bl b=>À b|_=>Å
def tE(a:FE):FT:=λσ=>(Óa).bind YH
nonrec def Yx(a b:FT):FT:=λσ=>(Óa).bind λk=>match k with
 |Ä=>b σ|Ã=>À Ã
nonrec def Z1(a b:FT):FT:=λσ=>(Óa).bind λk=>match k with
 |Ä=>À Ä|Ã=>b σ
nonrec def gU(a:FT):FT:=λσ=>(Óa).bind λk=>À (!k)
def Xk(a b:FE):FE:=λσ=>(Óa).bind λx=>(Ϗe).bind λk=>match k with
 |Ä=>b σ|Ã=>À ý
def IF(a b:FE):FE:=λσ=>(Óa).bind λx=>(Ϗe).bind λk=>match k with
 |Ä=>À İ|Ã=>b σ
def ML(a:FE):FE:=λσ=>(Óa).bind λx=>(Ϗe).bind λk=>À ϊi
nonrec def pG(c:FT)(a b:FE):FE:=λσ=>(ϯc).bind λk=>match k with
 |Ä=>a σ|Ã=>b σ
nonrec def wP(a:FA):FE:=λσ=>(Óa).bind λb=>À (.tup b)
nonrec def xv(a:FA):FE:=λσ=>(Óa).bind λb=>À ĉg
nonrec def xN:D->D->É D
 |.int i,.int j=>À Ťf|.int i,.bl b=>À (Ζ (i+ôf))|.str x,.str y=>if ϯb+īe<=yX then À (.str ļg)else Å|.lst x,.lst y=>if ϯb+īe<=yX then À Ľp else Å|.tup x,.tup y=>if x.isEmpty=Ã/\ϯb+īe<=yX then À (.tup ļg)else Å|_,_=>Å
nonrec def fI(C:Æ->Æ->Ð)(g:Æ->Æ->Æ):D->D->É D
 |.int i,.int j=>match C i j with
  |Ä=>À Òp|Ã=>Å
 |_,_=>Å
nonrec def pH:D->D->É D
 |.int i,.int j=>À (Ζ (i-j))|_,_=>Å
nonrec def Xr(i:Æ):Ð:=decide (-Ăg<i)&&decide (i<2 ^ 64)
def IH:D->D->É D:=fI (λi _=>Xr i) (·*·)
def II:D->D->É D:=fI (λ_ j=>Xr j) (·*·)
def xE:D->D->É D:=fI (λ_ j=>decide (0<j)) (· % ·)
def vK:D->D->É D:=fI (λ_ j=>decide (0<j)&&decide (j<2 ^ 64)) (· / ·)
nonrec def pP(i j:Æ):Ð:=decide (0<=j)&&(decide (j<=1000000)&&decide (ľd<2 ^ 64))
def fG:D->D->É D:=fI pP λi j=>i ^ Âa
def vz:D->D->É D:=fI pP λi j=>i*2 ^ Âa
def TW:D->D->É D:=fI (λ_ j=>decide (0<=j)) λi j=>i/2 ^ Âa
nonrec def vW(g:Æ->Æ->Æ):D->D->É D
 |.int i,.int j=>À Òp|_,_=>Å
nonrec def YR:D->É D
 |.int i=>À (Ζ (-i))|_=>Å
nonrec def TU:D->É D
 |.int i=>À (Ζ ŧj)|_=>Å
nonrec def ql(g:Æ->Æ->Ð):D->D->É D
 |.int i,.int j=>À (.bl ϱa)|_,_=>Å
nonrec def YW:D->Ð
 |.zO=>Ä|_=>Ã
def ZU:D->D->É D
 |x,.zO=>À (.bl (YW x))|_,_=>Å
def IK:D->D->É D
 |x,.zO=>À (.bl (!YW x))|_,_=>Å
nonrec def xw:D->Ð
 |.zO=>Ä|.bl _=>Ä|.int _=>Ä|.str _=>Ä|_=>Ã
nonrec def pC(f:D->D->Ð):Á D->Á D->Ð
 |x::xs,y::ys=>f x y&&pC f xs ys|_,_=>Ä
def vw:Â->D->D->Ð
 |0,_,_=>Ã|n+1,x,y=>match x,y with
  |.tup xs,.tup ys=>pC Ϭc xs ys|.lst xs,.lst ys=>pC Ϭc xs ys|x,y=>xw x&&xw y
def YQ:D->D->É Ð
 |.int _,.bl _=>Å|.bl _,.int _=>Å|x,y=>match vw 6 x y with
  |Ä=>À (xf x y)|Ã=>Å
def zh(x y:D):É D:=(YQ x y).bind λk=>À Šd
def vL(x y:D):É D:=(YQ x y).bind λk=>À ϊi
nonrec def uY:D->É Ļ
 |.int i=>À Ĵj|.str x=>À Čg|_=>Å
nonrec def Ć{α:Type}:Á Ļ->Á α->Sum Æ Ç->É α
 |k'::ks,v::vs,k=>if k'=k then À v else Ć ks vs k|_,_,_=>Å
nonrec def yr(ks:Á Ļ)(k:Sum Æ Ç):Ð:=ks.any λj=>decide (j=k)
def wD(ks:Á Ļ)(k:Sum Æ Ç):Á Ļ:=if yr ks k=Ä then ks else ks++[k]
def wE(ks:Á Ļ)(vs:Á α)(k:Sum Æ Ç)(v:α):Á α:=if yr ks k=Ä then õc (λa x=>if a=k then v else x) ks vs else vs++[v]
def GN(x:D):D->É Ð
 |.lst ys=>match xw x&&ϟc xw with
  |Ä=>À óf|Ã=>Å
 |.tup ys=>match xw x&&ϟc xw with
  |Ä=>À óf|Ã=>Å
 |.str j=>match x with
  |.str i=>À àl|_=>Å
 |.dic ks _=>(Že).bind λk=>À (yr ks k)|_=>Å
def xT(x y:D):É D:=(GN x y).bind λk=>À Šd
def Xm(x y:D):É D:=(GN x y).bind λk=>À ϊi
nonrec def ul(xs:Á α)(i:Æ):É α:=if 0<=i then xs[Ŕd]? else if -(ë:Æ)<=i then xs[(i+ë).toNat]? else Å
def zJ:D->D->É D
 |.lst xs,.int i=>ul xs i|.tup xs,.int i=>ul xs i|.str z,.int i=>(ϱo).bind λc=>À èi|.dic ks vs,k=>(uY k).bind λk=>Ć ks vs k|_,_=>Å
nonrec def vy:Á D->É D
 | [.lst xs]=>À Ôp| [.tup xs]=>À Ôp| [.str z]=>À Óp|_=>Å
nonrec def fF:Á D->É D
 | [.int i]=>À ϵ| [.bl k]=>À (Ζ (if k then 1 else 0))|_=>Å
inductive qj where
 |int|bool|str|list|tuple
nonrec def qj.nm:qj->ìa
 |.int => ĭc|.bool => ūe|.str => ϖe|.list => Ĩ|.tuple => Ϗ
nonrec def Z3:D->É (Ð×Ð×Ð×Ð×Ð)
 |.zO=>À (Ã,Ã,Ã,Ã,Ã)|.bl _=>À (Ä,Ä,Ã,Ã,Ã)|.int _=>À (Ä,Ã,Ã,Ã,Ã)|.str _=>À (Ã,Ã,Ä,Ã,Ã)|.tup _=>À (Ã,Ã,Ã,Ã,Ä)|.lst _=>À (Ã,Ã,Ã,Ä,Ã)|.dic _ _=>Å|.exc _=>Å|.obj _ _ _=>Å
nonrec def qj.sel:qj->Ð×Ð×Ð×Ð×Ð->Ð
 |.int,k=>k.1|.bool,k=>k.2.1|.str,k=>k.2.2.1|.list,k=>k.2.2.2.1|.tuple,k=>k.2.2.2.2
def Il(T:qj)(d:D):É Ð:=(Z3 d).bind λk=>À (T.sel k)
def Xl(T:qj)(a:FE):FE:=λτ=>(a τ).bind λd=>(Il T d).bind λb=>À ŭb
nonrec def vt(a:FE):FA:=λσ=>(Óa).bind λd=>match d with
 |.lst xs=>À xs|.tup xs=>À xs|.str z=>À (Ŵm λc=>.str {#[c]})|_=>Å
nonrec def qm(lo hi:FE):FA:=λσ=>(lo σ).bind λx=>(hi σ).bind λy=>match x,y with
 |.int i,.int j=>if ľd<=yX/\Ĳe<=yX/\(j-i).toNat<=yX then À ((ϡ (j-i).toNat).map λk:Â=>.int Ϸc)else Å|_,_=>Å
nonrec def yC(i:Â):FG:=λd σ=>À (Ν äc)
nonrec def vM(i j:Â):FG:=λd σ=>match d with
 |.tup Êc=>À ((Ν (À (Ã,x))).set j (À (Ã,y)))|_=>Å
nonrec def xK:FS:=λσ=>À Ĉg
nonrec def zQ(a b:FS):FS:=λσ=>(Óa).bind λf=>match f with
 |.nx σ'=>b σ'|f=>À f
nonrec def zl(i:Â)(e:FE):FS:=λσ=>(Ϯc).bind λd=>À ôn
nonrec def qF(i:Â)(e:FE):FS:=λσ=>(Ϯc).bind λd=>À (.nx (Ν ϗb))
nonrec def yc(e:FE):FS:=λσ=>(Ϯc).bind λd=>À ũo
nonrec def vY(e:FE):FS:=λσ=>(Ϯc).bind λd=>À Ũo
nonrec def pS(i:Â):FS:=λσ=>match σ[i]? with
 |À ϗb=>À Ũo|_=>Å
nonrec def yb(c:FT)(a b:FS):FS:=λσ=>(ϯc).bind λk=>match k with
 |Ä=>a σ|Ã=>b σ
nonrec def Yb(g:FG)(b:FS):Á D->zw->É Fl
 | [],σ=>À Ĉg|d::r,σ=>(ϲb).bind λσ1=>(b σ1).bind λf=>match f with
  |.nx σ2=>Yb g b r σ2|.ct σ2=>Yb g b r σ2|.bk σ2=>À äj|.rt o d=>À ϑc
def jK(it:FA)(g:FG)(b:FS):FS:=λσ=>(it σ).bind λa=>Yb g b a σ
nonrec def uw(c:FT)(b:FS):Â->zw->É Fl
 |0,_=>Å|n+1,σ=>(ϯc).bind λk=>match k with
  |Ã=>À Ĉg|Ä=>(űd).bind λf=>match f with
   |.nx σ2=>uw c b n σ2|.ct σ2=>uw c b n σ2|.bk σ2=>À äj|.rt o d=>À ϑc
nonrec def Y9:Â:=100000000
def Zn(c:FT)(b:FS):FS:=λσ=>uw c b Y9 σ
nonrec def Yn(i:Â):FS:=λσ=>match σ[i]? with
 |À Ňo=>À ôn|_=>Å
nonrec def rG(i:Â)(F:D->É D):FS:=λσ=>match σ[i]? with
 |À ϗb=>(F d).bind λa=>À đl|_=>Å
nonrec def qE(i:Â)(F:D->D->É D)(e:FE):FS:=λσ=>match σ[i]? with
 |À ϗb=>(Ϯc).bind λx=>(F d x).bind λa=>À đl|_=>Å
nonrec def tN:D->D->É D
 |.lst xs,y=>if ë<yX then À În else Å|_,_=>Å
def jo(i:Â)(k v:FE):FS:=λσ=>(v σ).bind λy=>match σ[i]? with
 |À (À (Ä,.dic ks ds))=>(Şg).bind λx=>(Že).bind λx=>if Ń<yX then À (.nx (Ν (À (Ä,.dic ťp ĥn))))else Å|_=>Å
def VL(ks:Á Ļ)(x:D):É D:=(Že).bind λk=>À õn
def GE(d k e:FE):FE:=λσ=>(d σ).bind λx=>match x with
 |.dic ks ds=>(Şg).bind λy=>(Ϯc).bind λz=>(uY y).bind λy=>À ((Ć ks ds y).getD z)|_=>Å
nonrec def wA(g:FG)(c:FT)(e:FE)(σ:zw):Á D->É ϋa
 | []=>À []|d::r=>(ϲb).bind λσ1=>(žj).bind λk=>match k with
  |Ä=>(Şd).bind λx=>(wA g c e σ r).bind λa=>À (x::a)|Ã=>wA g c e σ r
nonrec def xY:FT:=λ_=>À Ä
def wY(n:Â)(it:FA)(g:FG)(c:FT)(e:FE):FE:=λσ=>(it σ).bind λa=>(wA g c e Ϙh a).bind λb=>À ĉg
nonrec def yL(n:Â)(b:FS)(ds:Á D):É å:=(b Ľk).bind λf=>match f with
 |.rt o d=>À (o,d)|.nx _=>À (Ã,.zO)|_=>Å
nonrec def zg(F:Á D->É å)(a:FA):FE:=λσ=>(Óa).bind λb=>(F b).bind λr=>À r.2
nonrec def we(F:Á D->É å)(a:FA):FE:=λσ=>(Óa).bind λb=>(F b).bind λr=>match r with
 |(Ä,d)=>À d|_=>Å
def MK(F:Á D->É å)(a:FA):FE:=λσ=>(zg F a σ).bind λd=>if xw d=Ä then À d else Å
open ś ŋ L2
abbrev St:=L2.St
def z34(_:Ô)(H:Hp)(a:Ë)(kvs:Á Äa):È:=Rd H a ť
mutual
def zZ(K:Ô)(H:Hp):D->V->È
 |.zO,v=>v=.zO|.bl b,v=>v=.bl b|.int i,v=>v=.int i|.str x,v=>v=.str x/\ϯb<=ä|.tup ds,v=>∃a vs,v=.ref a/\xP K H a vs/\ê K H ds vs/\ü<=ä|.lst ds,v=>∃a vs,v=.ref a/\ya K H a vs/\ê K H ds vs/\ü<=ä|.dic ks ds,v=>∃a vs,v=.ref a/\z34 K H a Ûb/\Ń=đ/\ê K H ds vs/\ü<=ä|.exc x,v=>∃a C,v=.ref a/\ϙ K Ę x=À Ģa/\H a=À (.ext (z31 a C))|.obj x fs ds,v=>∃a C dx vs,v=.ref a/\ϙ K Ę x=À Ģa/\H a=À õh/\őa=đ/\ê K H ds vs
def ê(K:Ô)(H:Hp):Á D->Á V->È
 | [],vs=>vs=[]|d::ds,vs=>∃v r,vs=v::r/\zZ K H d v/\ê K H ds r
end
section
variable{K:Ô}{H H':Hp}
def Ϲb{a:Ë}{u:HO}(s:yF H H')(h:Rd H a u):Rd H' a u:=by rcases h with h|⟨o,h⟩;show .inl (s _ _ h);show .inr {o,s _ _ h}
def t9(s:yF H H')(h:xP K H a xs):xP K H' a xs:=by rcases h with h|h;show .inl ĳp;show .inr h
def ut(s:yF H H')(h:ya K H a xs):ya K H' a xs:=by rcases h with h|h;show .inl ĳp;show .inr h
theorem îb:∀{ds:Á D}{vs:Á V},(∀d∈ds,∀v,zZ K H d v->zZ K H' d v)->ê K H ds vs->ê K H' ds vs
 | [],_,_,h=>h|d::ds,vs,f,h=>by rw[Ąq];show{v,r,rfl,f d Ġ v a,îb (λc m=>f c (Ų _ m)) b}
theorem zZ.mono(s:yF H H'):∀{d:D}{v:V},zZ K H d v->zZ K H' d v:=λ{d}=>by show Ųg (P:=λd=>∀v,zZ K H d v->zZ K H' d v) ϟo Äo Áo Ào ?_ ?_ ?_ ?_ ?_ d _;rintro g c v ⟨a,f,e,q,r,l⟩;show{a,f,e,t9 s q,îb c r,l};rintro g c v ⟨a,f,e,q,r,l⟩;show{a,f,e,ut s q,îb c r,l};rintro k g c v ⟨a,f,e,q,z,r,l⟩;show{a,f,e,Ϲb s q,z,îb c r,l};rintro x v ⟨a,C,e,n,h⟩;show{a,C,e,n,s _ _ h};rintro x m g c v ⟨a,C,j,f,e,n,h,l,r⟩;show{a,C,j,f,e,n,s _ _ h,l,îb c r}
theorem Reps.mono(s:yF H H'){ds:Á D}{vs:Á V}(h:ê K H ds vs):ê K H' ds vs:=îb (λ_ _ _=>zZ.mono s) h
theorem Ķi:∀{ds:Á D}{vs:Á V},ê K H ds vs->đ=ü
 | [],_,h=>by rw[čq];rfl|d::ds,_,h=>by let{v,r,rfl,_,a}:=h;rw[Ĉ,Ĉ,Ķi a]
theorem Reps.get:∀{ds:Á D}{vs:Á V}{i:Â}{d:D},ê K H ds vs->ds[i]?=À d->∃v,vs[i]?=À v/\zZ K H d v
 | [],_,_,_,_,e=>by cases e|d::ds,_,0,_,h,e=>by rw[Ąq];cases e;show{v,rfl,a}
 |d::ds,_,i+1,d',h,e=>by rw[Ąq];show Reps.get (i:=i) b Ňa
theorem Reps.at{ds:Á D}{vs:Á V}{i:Â}{v:V}(h:ê K H ds vs)(e:vs[i]?=À v):∃d,ds[i]?=À d/\zZ K H d v:=by
 let l:=ϰb;have a:i<ü:=by rw[<-l];show še.1
 let{c,b,r}:=h.get (Đ a);rw[e]at b;cases b;show{_,Đ a,r}
theorem Ėo:∀{ds es:Á D}{vs us:Á V},ê K H ds vs->ê K H es us->ê K H (ds++es) (vs++us)
 | [],_,_,_,h,g=>by rw[čq];show g|d::ds,_,_,_,h,g=>by rw[Ąq];show{v,_,rfl,a,Ėo b g}
def Ļe(h:zZ K H d v):ê K H [d] [v]:={v,[],rfl,h,rfl}
theorem āp:∀{ds:Á D}{vs:Á V}(n:Â),ê K H ds vs->ê K H (ds.take n) (vs.take n)
 |_,_,0,_=>by rw[ąd,ąd];rfl| [],_,n+1,h=>by rw[čq];rfl|d::ds,_,n+1,h=>by rw[Ąq];show{v,_,rfl,a,āp n b}
theorem Ąp:∀{ds:Á D}{vs:Á V}(n:Â),ê K H ds vs->ê K H (Ęg n) (vs.drop n)
 |_,_,0,h=>h| [],_,n+1,h=>by rw[čq];rfl|d::ds,_,n+1,h=>by let{v,r,rfl,b,a}:=h;show Ąp n a
theorem įd:∀{ns:Á Æ},ê K H ϯ Ϩa
 | []=>rfl|n::ns=>{_,_,rfl,rfl,įd}
#print a
structure zT(G H G' H':Hp):È where
 g:yF G G'
 h:yF H H'
 gh:yF G' H'
 new:∀p,G' p≠Å->G p≠Å\/H p=Å
section
variable{G H G0 H0 G1 H1 G2 H2:Hp}{p:Ë}{o:HO}
theorem ŋa(s:yF G H):zT G H G H:={śa _,śa _,s,λ_ h=>.inl h}
theorem zT.trans(a:zT G H G1 H1)(b:zT G1 H1 G2 H2):zT G H G2 H2:={ϩi b.g,a.h.trans b.h,b.gh,λp h=>by rcases b.new p h with z|z;show a.new p z;show .inr (a.h.free z)}
def zT.rebase(a:zT G0 H0 G1 H1)(b:zT G1 H0 G2 H2):zT G0 H0 G2 H2:={ϩi b.g,b.h,b.gh,λp h=>by rcases b.new p h with z|z;show a.new p z;rw[Đq]}
def zT.WZ(a:zT G0 H0 G1 H1):zT G1 H0 G1 H1:={śa _,a.h,a.gh,λ_ h=>.inl h}
def z0m(h:ze H p o q≠Å):q=p\/H q≠Å:=by by_cases e:q=p;show .inl e;rw[yH e]at h;show .inr h
def Rb(s:yF G H):yF ϩo ŷc:=λb u e=>by by_cases hb:b=p;subst hb;rw[yq]at e ⊢;show e;rw[yH hb]at e ⊢;show s _ _ e
def ğc(s:yF G H)(h:H p=Å):zT G H ϩo ŷc:={t8 (łg h) o,t8 h o,Rb s,λq z=>by rcases z0m z with e|e;show .inr (e▸h);show .inl e}
def Ŀa(s:yF G H)(h:H p=Å):zT G H G ŷc:={śa _,t8 h o,s.trans (t8 h o),λ_ z=>.inl z}
def zT.yj(a:zT G H G1 H1)(h:H p=Å)(g:G1 p=Å)(e:H1 p=À o):zT G H (ze G1 p o) H1:=⟨ϩi (t8 g o),a.h,λb u q=>by
 by_cases hb:b=p;subst hb;rw[yq]at q;cases q;show e;rw[yH hb]at q;show a.gh _ _ q,λq z=>by
 rcases z0m z with w|w;show .inr (w▸h);show a.new q w⟩
#print a
def vp(K:Ô)(G H:Hp)(d:D)(p:Ë):È:=match d with
 |.lst ds=>∃vs,H p=À ϕp/\ê K G ds vs/\ü<=ä|.dic ks ds=>∃vs,H p=À Ġi/\Ń=đ/\ê K G ds vs/\ü<=ä|_=>Ā
section
variable{K:Ô}{G H G' H':Hp}{d:D}{p:Ë}
def vp.some(h:vp K G H d p):H p≠Å:=by
 cases d with
 |lst ds=>let{a,e,_}:=h;rw[e];show λz=>nomatch z
 |dic ks ds=>let{a,e,_}:=h;rw[e];show λz=>nomatch z
 |_=>show ϥc
theorem vp.mono(g:yF G G')(h:yF H H')(o:vp K G H d p):vp K G' H' d p:=by
 cases d with
 |lst ds=>let{a,e,r,l}:=o;show{a,h _ _ e,ßa g,l}
 |dic ks ds=>let{a,e,z,r,l}:=o;show{a,h _ _ e,z,ßa g,l}
 |_=>show Ĩc
def vp.rep(s:yF G H)(o:vp K G H d p):zZ K H d Ŵ:=by
 cases d with
 |lst ds=>let{a,e,r,l}:=o;show{p,a,rfl,Ţa e,ßa s,l}
 |dic ks ds=>let{a,e,z,r,l}:=o;show{p,a,rfl,.inl e,z,ßa s,l}
 |_=>show Ĩc
def vp.yj(o:vp K G H d p)(g:G p=Å):∃u,H p=Option.some u/\zZ K Ϩo d Ŵ:=by
 cases d with
 |lst ds=>let{a,e,r,l}:=o;show{_,e,p,a,rfl,Ţa yq,ßa (t8 g _),l}
 |dic ks ds=>let{a,e,z,r,l}:=o;show{_,e,p,a,rfl,.inl yq,z,ßa (t8 g _),l}
 |_=>show Ĩc
#print a
structure zu(K:Ô)(n:Â)(G0 H0 G H:Hp)(τ:zw)(σ:St):È where
 ext:zT G0 H0 G H
 l1:σ.length=n
 l2:τ.length=n
 fr:∀(i:Â)(d:D),τ[i]?=À äc->∃v,σ[i]?=À Áa/\zZ K G d v
 ow:∀(i:Â)(d:D),τ[i]?=À ϗb->∃p,σ[i]?=À Öe/\G p=Å/\H0 p=Å/\vp K G H d p
 ap:∀(i j:Â)(d e:D)(p:Ë),i≠j->τ[i]?=À ϗb->τ[j]?=À ëe->σ[i]?=À Öe->σ[j]?=À Öe->Ā
section
variable{K:Ô}{n:Â}{G0 H0 G H G' H':Hp}{τ:zw}{σ:St}
def zu.go(E:zu K n G0 H0 G H τ σ)(x:zT G H G' H'):zu K n G0 H0 G' H' τ σ:=⟨ģo x,ű,Ű,λi d h=>by
 let{v,e,r}:=Ũa i d h;show{v,e,ßa x.g},λi d h=>by
 let{p,e,g,z,o}:=ŧa i d h;show{p,e,?_,z,ϕj x.g x.h};cases q:G' p with
 |Å=>rfl|À u=>rcases ϳc p (by rw[q];show λz=>nomatch z)with w|w;show Þ g w;show Þ w o.some,ąb⟩
theorem zu.WZ(E:zu K n G0 H0 G H τ σ):zu K n G H0 G H τ σ:={E.ext.WZ,ű,Ű,Ũa,ŧa,ąb}
def zu.near(a:zT G0 H0 Ga Ha)(E:zu K n Ga H0 G H τ σ):zu K n G0 H0 G H τ σ:={a.rebase ŵb,ű,Ű,Ũa,ŧa,ąb}
def zu.lt{i:Â}{s:É Sl}(E:zu K n G0 H0 G H τ σ)(h:τ[i]?=À s):i<n:=by rw[<-Ű];show ϊa.1
def vv{α:Type}{xs:Á α}{i j:Â}{x y:α}(h:ŝf[j]?=À y):(j=i/\y=x)\/(j≠i/\xs[j]?=À y):=by
 rw[òd]at h;by_cases e:i=j;subst e;rw[Ï rfl]at h
 rw[Éq];cases h;show .inl {rfl,rfl};cases h;rw[Ñ e]at h;show .inr {λz=>e ħb,h}
def YS{α:Type}{xs:Á α}{i:Â}{x:α}(h:i<ë):ŝf[i]?=À x:=by rw[òd,Ï rfl,Ï h]
theorem uX{α:Type}{xs:Á α}{i j:Â}{x:α}(h:j≠i):ŝf[j]?=xs[j]?:=by rw[òd,Ñ (λz=>h ħb)]
theorem zu.set{i:Â}{d:D}{v:V}(E:zu K n G0 H0 G H τ σ)(hi:i<n)(r:zZ K G d v):zu K n G0 H0 G H ϳh ċc:=⟨ŵb,by rw[Ÿq],by rw[āq],λj e h=>by
 rcases vv h with⟨rfl,z⟩|⟨a,z⟩;cases z;show{v,YS êf,r};rw[uX a];show Ũa j e z,λj e h=>by
 rcases vv h with⟨rfl,z⟩|⟨a,z⟩;cases z;rw[uX a];show ŧa j e z,λj k e f p g l m=>by
 rcases vv l with⟨rfl,z⟩|⟨a,z⟩;cases z;rcases vv m with⟨rfl,c⟩|⟨b,c⟩;cases c;rw[uX a,uX b];show ąb j k e f p g z c⟩
def zu.z2x{i:Â}{d:D}{p:Ë}(E:zu K n G0 H0 G H τ σ)(hi:i<n)(v:G p=Å)(t:H0 p=Å)(o:vp K G H d p)(s:∀(j:Â)(e:D),j≠i->τ[j]?=À ëe->σ[j]?=À Öe->Ā) :zu K n G0 H0 G H (τ.set i ϗb) òf:=⟨ŵb,by rw[Ÿq],by rw[āq],λj e h=>by
 rcases vv h with⟨rfl,z⟩|⟨b,z⟩;cases z;rw[uX b];show Ũa j e z,λj e h=>by
 rcases vv h with⟨rfl,z⟩|⟨b,z⟩;cases z;show{p,YS êf,v,t,o};rw[uX b];show ŧa j e z,λj k e f q m u r c g=>by
 rcases vv u with⟨rfl,z⟩|⟨b,z⟩;rcases vv r with⟨rfl,l⟩|⟨a,l⟩;show m rfl;rw[YS êf]at c;rw[uX a]at g;cases c;show s k f a l g;rcases vv r with⟨rfl,l⟩|⟨a,l⟩;rw[YS êf]at g;rw[uX b]at c;cases g;show s j e b z c;rw[uX b]at c;rw[uX a]at g;show ąb j k e f q m z l c g⟩
def zu.z2p(E:zu K n G0 H0 G H τ σ)(c:H p=Å):∀(j:Â)(e:D),j≠i->τ[j]?=À ëe->σ[j]?=À Öe->Ā:=λj e _ a b=>by let{q,e1,_,_,o}:=ŧa j e a;rw[b]at e1;cases e1;show o.some c
def zu.freeze{i:Â}{b:Ð}{d:D}(E:zu K n G0 H0 G H τ σ)(hi:τ[i]?=À āe):∃G',zu K n G0 H0 G' H ϳh σ/\yF G G':=by
 let t:=E.lt hi;cases b with
 |Ã=>
  show{G,?_,śa _}
  let e:τ.set i äc=τ:=by apply èc;intro j;by_cases hj:j=i;subst hj;rw[YS (by rw[Ű];show t),hi];rw[uX hj]
  rw[e];show E
 |Ä=>let{p,e,g,z,o}:=ŧa i d hi;let{u,A,r}:=o.yj g;let x:zT G0 H0 Ϩo H:=E.ext.yj z g A;refine{ze G p u,{x,ű,by rw[āq],λj a h=>?_,λj a h=>?_,λj k e1 f q y B I=>?_},t8 g _};rcases vv h with⟨rfl,w⟩|⟨m,w⟩;cases w;show{_,e,r};let{v,l,N}:=Ũa j a w;show{v,l,ϧj (t8 g _)};rcases vv h with⟨rfl,w⟩|⟨m,w⟩;cases w;let{q,l,C,L,F}:=ŧa j a w;show{q,l,?_,L,F.mono (t8 g _) ţj};rw[yH Ïj];show C;subst c;show ąb i j d a q (λc=>m Ře) hi w e l;rcases vv B with⟨rfl,w⟩|⟨m,w⟩;cases w;rcases vv I with⟨rfl,s⟩|⟨J,s⟩;cases s;show ąb j k e1 f q y w s
#print a
section
variable(X:Cx)
structure SE(e:Ö)(f:FE):È where
 h:∃t,PE X e t/\∀{G0 H0 G H:Hp}{τ:zw}{σ:St}{d:D}{Q:VK},zu X.K ò G0 H0 G H τ σ->f τ=À d->(∀v G' H',zT G H G' H'->zZ X.K G' d v->Q v H')->t σ H Q
structure SB(e:Ö)(f:FE):È where
 h:∃t,PE X e t/\∀{G0 H0 G H:Hp}{τ:zw}{σ:St}{d:D}{Q:VK},zu X.K ò G0 H0 G H τ σ->f τ=À d->(∀v G' H',zT G H G' H'->zZ X.K H' d v->Q v H')->t σ H Q
structure SF(e:Ö)(f:FE):È where
 h:∃t,PE X e t/\∀{G0 H0 G H:Hp}{τ:zw}{σ:St}{d:D}{Q:VK},zu X.K ò G0 H0 G H τ σ->f τ=À d->(∀p G' H',zT G H G' H'->H p=Å->G' p=Å->vp X.K G' H' d p->Q Ŵ H')->t σ H Q
structure ST(e:Ö)(f:FT):È where
 h:∃t,PT X e t/\∀{G0 H0 G H:Hp}{τ:zw}{σ:St}{d:Ð}{Q:Ð->Hp->È},zu X.K ò G0 H0 G H τ σ->f τ=À d->(∀G' H',zT G H G' H'->Q d H')->t σ H Q
structure SW(e:Ö)(f:FT):È where
 h:∃t,PW X e t/\∀{G0 H0 G H:Hp}{τ:zw}{σ:St}{d:Ð}{Q:Ð->Hp->È},zu X.K ò G0 H0 G H τ σ->f τ=À d->(∀G' H',zT G H G' H'->Q d H')->t σ H Q
structure SA(es:Á Ö)(f:FA):È where
 h:∃t,PA X es t/\∀{G0 H0 G H:Hp}{τ:zw}{σ:St}{ds:Á D}{Q:Á V->Hp->È},zu X.K ò G0 H0 G H τ σ->f τ=À ds->(∀vs G' H',zT G H G' H'->ê X.K G' ds vs->Q vs H')->t σ H Q
structure Ji(es:Á Ö)(f:FA):È where
 h:∃t,PA X es t/\∀{G0 H0 G H:Hp}{τ:zw}{σ:St}{ds:Á D}{Q:Á V->Hp->È},zu X.K ò G0 H0 G H τ σ->f τ=À ds->(∀vs G' H',zT G H G' H'->ê X.K H' ds vs->Q vs H')->t σ H Q
#print a
def qL(K:Ô)(n:Â)(b a:Hp)(E:u_):Fl->È
 |.nx τ=>∀σ G H,zu K n b a G H τ σ->E.nx σ H|.bk τ=>∀σ G H,zu K n b a G H τ σ->E.bk σ H|.ct τ=>∀σ G H,zu K n b a G H τ σ->E.ct σ H|.rt Ã d=>∀v G H,zT b a G H->zZ K G d v->E.rt v H|.rt Ä d=>∀p G H,zT b a G H->a p=Å->G p=Å->vp K G H d p->E.rt Ŵ H
section
variable(X:Cx)
structure SS(st:Ü)(f:FS):È where
 h:∃t,PS X st t/\∀{G0 H0 G H:Hp}{τ:zw}{σ:St}{fl:Fl}{E:u_},zu X.K ò G0 H0 G H τ σ->f τ=À fl->qL X.K ò G0 H0 E fl->t E σ H
structure tq(st:Á Ü)(f:FS):È where
 h:∃t,uk X st t/\∀{G0 H0 G H:Hp}{τ:zw}{σ:St}{fl:Fl}{E:u_},zu X.K ò G0 H0 G H τ σ->f τ=À fl->qL X.K ò G0 H0 E fl->t E σ H
#print a
structure k7(K:Ô)(J:It)(G:Hp)(ds:Á D):È where
 go:∀i G2 H,yF G G2->yF G2 H->i<ü->J.go i H
 tW:∀i G2 H x H',yF G G2->yF G2 H->i<ü->J.tW i H x H'->∃G3 d,zT G2 H G3 H'/\ds[i]?=À d/\zZ K G3 d x
 Ϡ:∀i G2 H,yF G G2->yF G2 H->ü<=i->ŏg i H
structure SI(X:Cx)(tg ż:Ö)(f:FA):È where
 h:∃wi,PI X tg ż wi/\∀{G0 H0 G H:Hp}{τ:zw}{σ:St}{ds:Á D}{R:It->Hp->È},zu X.K ò G0 H0 G H τ σ->f τ=À ds->(∀J G' H',zT G H G' H'->ü<=ä->k7 X.K J G' ds->R J H')->wi σ H R
nonrec def uP(K:Ô)(F:Á D->É å):Sp:=λa H Q _=>∃G ds o d,yF G H/\ê K G ds a/\F ds=À (o,d)/\
 match o with
 |Ã=>∀v G' H',zT G H G' H'->zZ K G' d v->Q v H'|Ä=>∀p G' H',zT G H G' H'->H p=Å->G' p=Å->vp K G' H' d p->Q Ŵ H'
def zH{α β:Type}{o:É α}{f:α->É β}{b:β}(h:ϖj f=À b):∃a,o=À a/\f a=À b:=by
 cases o with
 |Å=>cases h|À a=>show{a,rfl,h}
def GF(h:z7 i τ=À d):τ[i]?=À äc:=by
 unfold z7 at h
 rw[Éq];rename_i e;cases h;show e;cases h
def eW(h:qP i τ=À d):∃b,τ[i]?=À āe:=by
 unfold qP at h
 rw[Éq];rename_i b a e;cases h;show{_,e};cases h
section
variable{X:Cx}{x:Ç}{p pos:Pos}{e a b c o:Ö}{es z_:Á Ö}{f fa fb:FE}{ft fu:FT}{fs:FA}{F:D->D->É D}{r:R2}
def SE.sb(h:SE X e f):SB X e f:={let ⟨t,p,k⟩:=h.h;{t,p,λE b q=>k E b λv c a x r=>q v c a x (ßa ıb)}}
def SF.se(h:SF X e f):SE X e f:={let ⟨t,p,k⟩:=h.h;{t,p,λE b q=>k E b λp i g x d a o=>by let{u,c,r}:=o.yj a;show q _ _ _ (x.yj d a c) r}}
def zM(h:SE X e f):SB X e f:=h.sb
def yQ(h:SF X e f):SE X e f:=h.se
def z8(i:Â)(d:Î ād q12)(hv:Î īd q13)(c:Î ō q10)(a:Î Żb q10):SE X ôa ϳj:={{_,Vs d hv c a,λE b q=>by let{v,e,r}:=Ũa _ _ (GF b);show{v,e,q v _ _ ϧb r}}}
def Q0(i:Â)(g:Î ād q12)(hv:Î īd q13)(f:Î ō q10)(a:Î Żb q10):SB X ôa (qP i):=⟨⟨_,Vs g hv f a,λE d q=>by
 let{b,c}:=eW d;cases b with
 |Ã=>let{v,e,r}:=Ũa _ _ c;show{v,e,q v _ _ ϧb (ßa Ŵa)}
 |Ä=>let{p,e,_,_,o}:=ŧa _ _ c;show{_,e,q _ _ _ ϧb (o.rep Ŵa)}⟩⟩
def Oe(h:PE X e ſe)(r:∀H,zZ X.K H d v):SE X e (eC d):={{_,h,λE a q=>by cases a;show q v _ _ ϧb (r _)}}
def zK{i k pos}:SE X (.Constant ϵ k pos) (eC ϵ):=Oe mz λ_=>rfl
def jL{i k pos}:SE X (.Constant (.bool i) k pos) (eC (.bl i)):=Oe y8c λ_=>rfl
def jM{k pos}:SE X (.Constant .none k pos) ϰa:=Oe y8v λ_=>rfl
def yA{x k pos}(h:Î (ϯb<=1000) q10):SE X (.Constant ϴb k pos) (eC ϴb):=Oe y91 λ_=>{rfl,ÿb h}
def vB(h:v6 ñ x v)(r:∀H,zZ X.K H d v)(b:Gl X x)(a:Î ō q10):SE X ôa (eC d):=Oe (OB h b a) r
def tj(K:Ô)(r:R2)(F:D->D->É D):È:=∀G H x y u v d (Q:VK),yF G H->zZ K G x u->zZ K G y v->F x y=À d->(∀w G' H',zT G H G' H'->zZ K G' d w->Q w H')->r u v H Q
def gx(K:Ô)(r:R2)(F:D->D->É D):È:=∀H x y u v d (Q:VK),zZ K H x u->zZ K H y v->F x y=À d->∃k,d=.bl k/\(Q Šd H->r u v H Q)
def zW(s:xD X (ϧa op) r)(C:tj X.K r F)(I:SE X a fa)(n:SE X b fb):SE X (.BinOp a op b pos) Šf:=by
 let{L,t,k}:=I.h;let{N,j,o}:=n.h;show{{_,N9 s t j,λE c q=>?_}};let{x,B,c}:=zH c;let{y,l,c}:=zH c;show k E B λv J O e z=>?_
 show o Śe l λu f A d m=>?_
 show C f A x y v u _ _ d.gh (z.mono d.g) m c λw G i p H=>q w G i (Àc (šc p)) H
def zX(o:jT X r)(G:tj X.K r F)(J:SE X a fa)(n:SE X b fb)(t:Î Åp q12):SE X ϱl Šf:=by
 let{N,z,k}:=J.h;let{O,j,p}:=n.h;show{{_,BD o z j (BI t),λE c q=>?_}};let{x,C,c}:=zH c;let{y,l,c}:=zH c;show k E C λv L P e A=>?_
 show p Śe l λu f B d m=>?_
 show G f B x y v u _ _ d.gh (A.mono d.g) m c λw H i s I=>q w H i (Àc (šc s)) I
def tQ(o:xD X (ěa op) r)(A:gx X.K r F)(B:SB X a fa)(l:SB X b fb)(m:ñc op b=Ã):SE X Ĕl Šf:=by
 let{H,p,g}:=B.h;let{I,f,n}:=l.h;show{{_,y8o o p f m,λE c q=>?_}};let{x,w,c}:=zH c;let{y,i,c}:=zH c;show g E w λv G J e s=>?_
 show n Śe i λu C t d j=>?_
 let{k,rfl,z}:=A t x y v u _ _ (s.mono d.h) j c;show z (q _ _ _ (Àc d) rfl)
def yN(p:xD X (ěa op) r)(B:gx X.K r F)(C:SB X a fa)(m:SB X b fb)(n:ñc op b=Ã):ST X Ĕl (tE Šf):=by
 let{I,s,i}:=C.h;let{J,g,o}:=m.h;show{{_,NL p s g n,λE d q=>?_}};let{z,c,d}:=zH d;let{x,A,c}:=zH c;let{y,j,c}:=zH c;show i E A λv H L f t=>?_
 show o ŗj j λu G w e l=>?_
 let{k,rfl,z}:=B w x y v u _ _ (t.mono e.h) l c;cases d;show z {_,rfl,q _ _ (ŋj e)}
def tF(h:SE X e f)(c:Î Èp q12):ST X e (tE f):=by
 rw[Ëq];show{{_,nT p (nD c),λE a q=>?_}};let{z,b,a}:=zH a;show k E b λv g d x r=>?_
 cases z<;>first|cases a|skip
 cases r;show{_,rfl,q _ _ x}
def Bv(h:ST X a ft):SW X Āh ft:={let ⟨t,p,k⟩:=h.h;{t,nv p,k}}
def QF(h:ST X a ft):SW X Żl ft:={let ⟨t,p,k⟩:=h.h;{t,x08 p,k}}
def Bu(n:ST X a ft)(g:SW X êe fu):SW X ĝe (Yx ft fu):=by
 rw[Žq];show{{_,nu l e,λE c q=>?_}};let{k,j,c}:=zH c;show f E j λp u d=>?_
 cases k with
 |Ä=>show kH ůk|Ã=>cases c;show kG Ŭp
def UA(n:ST X a ft)(g:SW X Ņf fu):SW X Äg (Z1 ft fu):=by
 rw[Žq];show{{_,x07 l e,λE c q=>?_}};let{k,j,c}:=zH c;show f E j λp u d=>?_
 cases k with
 |Ã=>show kG ůk|Ä=>cases c;show kH Ŭp
def Zq(h:SW X e ft):ST X e ft:={let ⟨t,p,k⟩:=h.h;{t,p.pt,k}}
def Yu(h:ST X a ft):ST X ëf (gU ft):=by let{j,d,e}:=h.h;show{{_,y9w d,λE b q=>?_}};let{k,c,b}:=zH b;cases b;show e E c λi g f=>q _ _ f
def U4{op}(h:SE X a f):SE X ϳl f:={let ⟨t,p,k⟩:=h.h;{t,y8x p,k}}
def BV{K:Ô}{G:Hp}{z:D}{v:V}{k:Ð}(r:zZ K G z v)(h:YH z=À k):v=.bl k:=by
 cases z<;>first|cases h|skip
 show r
def Od(r:SE X a fa)(g:SE X êe fb):SE X ĝe (Xk fa fb):=by
 rw[żq];show{{_,y8b m e,λE c q=>?_}};rw[ţq];show f E o λv t y d n=>{k,BV n l,?_}
 cases k with
 |Ä=>show kH ĳk|Ã=>cases c;show kG Ùn
def rZ(r:SE X a fa)(g:SE X Ņf fb):SE X Äg (IF fa fb):=by
 rw[żq];show{{_,y8y m e,λE c q=>?_}};rw[ţq];show f E o λv t y d n=>{k,BV n l,?_}
 cases k with
 |Ã=>show kG ĳk|Ä=>cases c;show kH Ùn
def x3e(j:SE X a fa):SE X ëf (ML fa):=by let{n,d,e}:=j.h;show{{_,y8w d,λE b q=>?_}};let{z,g,b}:=zH b;let{k,c,b}:=zH b;cases b;show e E g λv m l i f=>{k,BV f c,q _ _ _ i rfl}
def Zo(r:ST X c ft)(u:SE X a fa)(m:SE X b fb):SE X Ĵm (pG ft fa fb):=by
 let{w,pc,s}:=r.h;let{y,p,l}:=u.h;let{z,j,n}:=m.h;show{{_,y8s pc p j,λE d q=>?_}};let{k,o,d}:=zH d;show s E o λx A e=>?_
 cases k with
 |Ä=>show kH (l Śe d λv t i g f=>q v _ _ (Àc g) f)|Ã=>show kG (n Śe d λv t i g f=>q v _ _ (Àc g) f)
def zP:SA X [] zF:={{_,Tu,λE a q=>by rw[Ğq]}}
def zD(s:SE X e f)(m:SA X es fs)(h:Î Ča q12):SA X ĕ Śp:=by
 let{y,o,j}:=s.h;let{z,i,n}:=m.h;show{{_,Vp o i h,λE a q=>?_}};let{x,r,a}:=zH a;let{u,b,a}:=zH a;cases a;show j E r λv w B d p=>n Řj b λl t A c k=>?_
 show q _ _ _ ġc {v,l,rfl,p.mono c.g,k}
def uH:Ji X [] zF:={{_,Tu,λE a q=>by rw[Ğq]}}
def v_(r:SB X e f)(l:Ji X es fs)(h:Î Ča q12):Ji X ĕ Śp:=by
 let{w,n,i}:=r.h;let{y,g,m}:=l.h;show{{_,Vp n g h,λE a q=>?_}};let{x,p,a}:=zH a;let{t,b,a}:=zH a;cases a;show i E p λv u A d o=>m Řj b λk s z c j=>?_
 show q _ _ _ ġc {v,k,rfl,ϕj c.h,j}
def OT(h:ώa es=À is):SA X es (λ_=>À Þo):={{_,mq h,λE a q=>by cases a;show q _ _ _ ϧb įd}}
def wz{x1}(h:SA X es fs)(i:∀τ ds,fs τ=À ds->ü<=1000):SE X ĳm (wP fs):=by
 let{t,g,k}:=h.h;show{{_,y92 g,λE a q=>?_}};let{e,d,a}:=zH a;cases a;let l:ķe<=ä:=ÿb (i _ _ d);refine k E d λf j m x1 c=>{by rw[Îa];show l,λp b=>?_}
 show q _ _ _ (x1.trans (ğc x1.gh b)) {p,f,rfl,ϲc yq,Ũd (t8 (x1.gh.free b) _),l}
def wR(h:SA X es fs)(j:∀τ ds,fs τ=À ds->ü<=1000):SF X Ńn (xv fs):=by
 let{t,i,k}:=h.h;show{{_,n4 i,λE b q=>?_}};let{f,e,b}:=zH b;cases b;let l:íb<=ä:=ÿb Ýj;refine k E e λg m n a d=>{by rw[êa];show l,λp c=>?_}
 show q _ _ _ (a.trans (Ŀa a.gh c)) (a.h.free c) (a.gh.free c) {g,yq,d,l}
def yW:∀(τ:zw) ds,zF τ=À ds->ü<=0:=λ_ _ h=>by cases h;show ĺ _
def zd(h:∀τ ds,fs τ=À ds->ü<=n):∀τ ds,zC f fs τ=À ds->ü<=n+1:=λτ ds e=>by let{x,_,e}:=zH e;let{b,a,e}:=zH e;cases e;show Ĳa (h _ _ a)
def Jr{is:Á Æ}{n:Â}(h:is.length<=n):∀(τ:zw) ds,(À Þo)=À ds->ü<=n:=λ_ _ e=>by cases e;rw[ã];show h
def yP(h:∀τ ds,fs τ=À ds->ü<=m)(a:m<=n):∀τ ds,fs τ=À ds->ü<=n:=λτ ds e=>ÿ (h τ ds e) a
variable{ps:Á Ç}{j k:Â}{FF:Á D->É å}{FL:Á D->É D}{id T:ìa}
def vQ(h:wu ö X.w X.K ñ Ľ x ps k ăe)(b:yk j X.A)(z:Gl X x)(F:SA X ĕ fs)(hk:Î ϻa q10)(c:Î ō q10)(B:Î òa q12):SF X Ŭa (we FF fs):=by
 let{t,m,s}:=F.h;show{{_,BE h b z m hk c B,λE a q=>?_}};let{l,v,a}:=zH a;rw[Żq];cases o with
 |Ã=>cases a|Ä=>
  cases a;refine s E v λG n H f u=>{n,l,Ä,_,f.gh,by rw[Œ];show u,b,λp y g C r i o=>?_}
  show q p y g (ŋj C) (f.h.free r) i o
def yG(h:wu ö X.w X.K ñ Ľ x ps k ăe)(b:yk j X.A)(H:Gl X x)(J:SA X ĕ fs)(hk:Î ϻa q10)(c:Î ō q10)(I:Î òa q12):SE X Ŭa (zg FF fs):=by
 let{t,y,C}:=J.h;show{{_,BE h b H y hk c I,λE a q=>?_}};let{n,G,a}:=zH a;rw[Żq];cases a;refine C E G λL z N g F=>{z,n,o,d,g.gh,by rw[Œ];show F,b,?_}
 cases o with
 |Ã=>show λv m i f r=>q v m i (ėg f) r|Ä=>intro p m i f B l o;let{u,s,r}:=o.yj l;show q _ _ _ (ėg (f.yj B l s)) r
def x39(h:wu ö X.w X.K ñ Ľ x ps k ăe)(g:yk j X.A)(H:Gl X x)(L:Ji X ĕ fs)(hk:Î ϻa q10)(i:Î ō q10)(I:Î òa q12):SE X Ŭa (MK FF fs):=by
 let{t,u,B}:=L.h;show{{_,BE h g H u hk i I,λE a q=>?_}};let{Q,b,a}:=zH a;let{s,F,b}:=zH b;obtain⟨⟨o,d⟩,g,b⟩:=zH b;cases b;by_cases fl:xw d=Ä;rw[Ï fl]at a;cases a;refine B E F λN y J n C=>{J,s,o,d,śa _,by rw[Œ];show C,g,?_}
 let c:∀{G f:Hp}{v:V},zZ X.K G d v->zZ X.K f d v:=λ{G f v} r=>by cases d<;>first|show r|show Þ fl ġ
 cases o with
 |Ã=>show λv f m l r=>q v y m (łd {śa _,l.h,n.gh.trans l.h,λ_ z=>.inl z}) (c r)|Ä=>intro p f m l P O o;cases d<;>first|show Ĩc|show Þ fl ġ
 rw[Ñ fl]at a;cases a
def Jf(K:Ô)(r:Á V->Hp->VK->È)(F:Á D->É D):È:=∀G H ds vs d (Q:VK),yF G H->ê K H ds vs->F ds=À d->(∀w G' H',zT G H G' H'->zZ K G' d w->Q w H')->r vs H Q
def cZ(K:Ô)(r:Á V->Hp->VK->È)(F:Á D->É D):È:=∀G H ds vs d (Q:VK),yF G H->ê K G ds vs->F ds=À d->(∀w G' H',zT G H G' H'->zZ K G' d w->Q w H')->r vs H Q
def ue(n:vg X Ùb rc)(s:Jf X.K rc FL)(v:Gl X x)(i:ñ x=Å)(hv:ϕ x=À Ùb)(C:Ji X ĕ fs)(z:Î Ďb q10)(b:Î ō q10)(y:Î òa q12):SE X Ŭa ϻo:=by let{t,k,m}:=C.h;show{{_,(OM n v i hv {k} z b y).h,λE a q=>?_}};let{j,r,a}:=zH a;show m E r λg l A c o=>s l A j g _ _ c.gh o a λw u d B f=>q w u d (Ġb B) f
def rY(n:vg X Ϫb rc)(s:cZ X.K rc FL)(v:Gl X x)(i:ñ x=Å)(hv:ϕ x=À Ϫb)(C:SA X ĕ fs)(z:Î Ďb q10)(b:Î ō q10)(y:Î òa q12):SE X Ŭa ϻo:=by let{t,k,m}:=C.h;show{{_,(Vv n v i hv {k} z b y).h,λE a q=>?_}};let{j,r,a}:=zH a;show m E r λg l A c o=>s l A j g _ _ c.gh o a λw u d B f=>q w u d (Ġb B) f
def W5(i:Jl X (Đg op) ru)(k:∀(G H:Hp) x u d (Q:VK),zZ X.K G x u->F1 x=À d->∃w,(∀G,zZ X.K G d w)/\(Q w H->ru u H Q))(o:SE X a fa):SE X (.UnaryOp op a pos) (e1 F1 fa):=by
 let{t,e,g}:=o.h;show{{_,y93 i e,λE b q=>?_}};let{x,l,b}:=zH b;show g E l λv f m n j=>?_
 let{w,c,z}:=k f m x v _ _ j b;show z (q w _ _ n (c _))
#print a
section
variable{X:Cx}{x:Ç}{p pos ϓ:Pos}{e a b c tg ż:Ö}{f fa:FE}{ft:FT}{fs:FA}{st:Ü}{sts ăb:Á Ü}{g g':FS}
def xj:tq X [] xK:={{_,nS,λ{_ _ G H τ σ b E} K a q=>by cases a;show q σ G H K}}
theorem Őe{K:Ô}{n:Â}{e c:Hp}{E b:u_}{a:Fl}(h:qL K n e c E a)(m:∀τ,a=.nx τ->qL K n e c b (.nx τ))(l:∀τ,a=.bk τ->qL K n e c b (.bk τ))(i:∀τ,a=.ct τ->qL K n e c b (.ct τ))(f:b.rt=E.rt):qL K n e c b a:=by
 cases a with
 |nx τ=>show m τ rfl|bk τ=>show l τ rfl|ct τ=>show i τ rfl|rt o d=>
  cases o with
  |Ã=>intro v G H x r;rw[f];show h v G H x r|Ä=>intro v G H x j k g;rw[f];show h v G H x j k g
def zb(b:SS X st g)(c:tq X sts g'):tq X Öj (zQ g g'):=by
 let{t,p,k}:=b.h;let{u,i,e}:=c.h;show{{_,OE p i,λ{m n G H τ σ r E} K a q=>?_}};let{f,b,a}:=zH a;show k K b ?_;cases f with
 |nx τ'=>show λσ' s l j=>e j a q|bk τ'=>cases a;show q|ct τ'=>cases a;show q|rt o d=>cases a;show Őe q ãa ãa ãa rfl
def zc(a:SS X st g):tq X [st] g:={let ⟨t,p,k⟩:=a.h;{t,NK p,k}}
def Ou(i:Â)(h:tq X sts g):tq X sts (zQ (Yn i) g):=by
 rw[Ëq];show{{t,p,λ{j l G H τ σ m E} K b q=>?_}};let{f,a,b}:=zH b;unfold Yn at a
 rw[Åq];rename_i o d e;cases a;let{n,c,_}:=K.freeze e;show k c b q;cases a
def yU(b:éa)(hi:X.N[i]?=À x)(g:qN Ϲ x)(j:SE X e f)(l:Î đe q12)(a:Î ũa q7) :SS X ļc (zl i f):=by let{t,p,k}:=j.h;show{{_,(ON b hi g {p} l a).h,λ{n o G H τ σ s E} K a q=>?_}};rw[öq];show k K c λv u m x r=>q _ _ _ Žl
def pT(c:éa)(hi:X.N[i]?=À x)(l:qN Ϲ x)(m:SF X e f)(n:Î đe q12)(a:Î ũa q7) :SS X ļc (qF i f):=by
 let{t,p,k}:=m.h;show{{_,(ON c hi l {p} n a).h,λ{s u G H τ σ v E} K a q=>?_}};let{d,j,a}:=zH a;cases a;show k K j λp w r x b g o=>q _ _ _ ((řj).z2x éb.1 g (ŕf b) o ?_)
 show K.z2p b
def yo(c:SE X e f):SS X íf (yc f):=by let{t,p,k}:=c.h;show{{_,OD p,λ{i j G H τ σ l E} K a q=>?_}};let{d,b,a}:=zH a;cases a;show k K b λv m g x r=>q v _ _ ïn r
def u7(i:SF X e f):SS X íf (vY f):=by let{t,p,k}:=i.h;show{{_,OD p,λ{l m G H τ σ n E} K a q=>?_}};let{d,g,a}:=zH a;cases a;show k K g λp r j x c b o=>q p _ _ ïn (ŕf c) b o
def k_(i:Â)(c:Î ād q12)(hv:Î īd q13)(f:Î ō q10)(b:Î Żb q10):SS X ĸl (pS i):=by
 show{{_,OD (Vs c hv f b),λ{j k G H τ σ l E} K a q=>?_}};unfold pS at a
 rw[Åq];rename_i d h;cases a;let{p,e,g,z,o}:=K.ow _ _ h;show{_,e,q p _ _ K.ext z g o};cases a
def xG(m:ST X c ft)(o:tq X sa g)(f:tq X sb g'):SS X (.If c sa sb pos) (yb ft g g'):=by
 let{p,pc,n}:=m.h;let{t,l,e}:=o.h;let{u,d,i}:=f.h;show{{_,nO pc l d,λ{r v G H τ σ w E} K a q=>?_}};let{k,j,a}:=zH a;show n K j λs x b=>?_
 cases k with
 |Ä=>show kH (e (Ôa b) a q)|Ã=>show kG (i (Ôa b) a q)
def Oq:tq X sts ăc:={{_,y9v,λ_ a=>by cases a}}
def Ot{ft:FT}(v:Ϧb Ą X.A Û į)(B:ST X c ft)(s:tq X ăb g):SS X œl (Zn ft g):=by
 let{J,pc,C}:=B.h;let{O,r,t}:=s.h;show{{_,nR v pc r,λ{i j G H τ σ l E} K a q=>?_}};show{λm σ H=>∃τ G,zu X.K ò i j G H τ σ/\uw ft g m τ=À l,{Y9,τ,G,K,a},?_};rintro m σ H ⟨τ,G,K,a⟩;cases m with
 |ŏ=>cases a|ş n=>
  let{k,x,a}:=zH (show(ft τ).bind _=_ from a);show C K x λL I p=>?_
  cases k with
  |Ã=>cases a;show kG (q _ _ _ (Ôa p))|Ä=>
   let{u,y,a}:=zH (show(g τ).bind _=_ from a);show kH {λσ' f=>∃τ G,zu X.K ò i j G f τ σ'/\uw ft g n τ=À l,λσ' f z=>{n,ćb n,z},t (Ôa p) y ?_};cases u with
   |nx τ2=>show λσ2 b F e=>{τ2,b,e,a}|ct τ2=>show λσ2 b F e=>{τ2,b,e,a}|bk τ2=>cases a;show q|rt o d=>cases a;show Őe q ãa ãa ãa rfl
theorem qL.near{K:Ô}{n:Â}{e b c i:Hp}{E:u_}{a:Fl}(x:zT e b c i)(h:qL K n e b E a):qL K n c b E a:=by
 cases a with
 |nx τ=>show λσ G H z=>h σ G H ái|bk τ=>show λσ G H z=>h σ G H ái|ct τ=>show λσ G H z=>h σ G H ái|rt o d=>
  cases o with
  |Ã=>show λv G H y r=>h v G H ĕi r|Ä=>show λp G H y f g j=>h p G H ĕi f g j
structure SG(X:Cx)(tg:Ö)(fg:FG):È where
 h:∃t,PG X tg t/\∀{G0 H0 G H:Hp}{τ τ':zw}{σ:St}{d:D}{v:V}{Q:St->Hp->È},zu X.K ò G0 H0 G H τ σ->zZ X.K G d v->fg d τ=À τ'->(∀σ',zu X.K ò G0 H0 G H τ' σ'->Q σ' H)->t v σ H Q
def Yq(h:QG X ôa Űb)(hi:X.N[i]?=À x):SG X ôa (yC i):={{_,h.h,λK r a q=>by cases a;show q _ în}}
def sD(h:QG X şk ϴe)(hi:X.N[i]?=À x)(f:X.N[j]?=À y):SG X şk (vM i j):=⟨⟨_,h.h,λ{p u G H τ τ' σ d v Q} K r b q=>by
 unfold vM at b
 rw[Ņq];rename_i t s;cases b;let{a,o,rfl,l,{m,w,rfl,k,{n,c,rfl,e,g}},_}:=r;cases(show c=[]from g);show{a,_,rfl,t9 ża l,rfl,m,_,rfl,n,_,rfl,rfl,?_};show q _ ((K.set éb.1 k).set Ĭg.1 e);cases b⟩⟩
def kz{c:FG}(C:Ϧb Ą X.A Û į)(hc:ŵ=Ä)(hi:SI X tg ż fs)(hg:SG X tg c)(U:tq X ăb g)(Q:Î (∀x,Ób ż Û x=pure x) q11):SS X Ûh (jK fs c g):=by
 let{ti,S,ki}:=Ĵc;let{B,pg,I}:=hg.h;let{tb,R,v}:=U.h;show{{_,BL C hc S pg R Q,λ{G0 r G H τ σ t E} K a q=>?_}};let{b,hd,a}:=zH a;show ki K hd λJ l Ha O _ j=>?_
 let s:=Ôa O;let n:=qL.near s.ext q;show{λi m σ H=>m=Ûa-i/\i<=Ûa/\∃τ G,zu X.K ò l r G H τ σ/\Yb c g (ęg i) τ=À t,{Ûa,rfl,Ź _,τ,l,s.WZ,a},?_};rintro i m σ H ⟨rfl,Z,τ,G,K,a⟩;by_cases hlt:i<Ûa;show .inr {j.go i G H Řd ża hlt,λσ' f=>∃τ G,zu X.K ò l r G f τ σ'/\Yb c g Ģp τ=À t,λσ' f z=>{Ûa-î,ïf _ _ hlt,rfl,hlt,z},λx f y=>?_};let{G3,d,F,u,T}:=j.tW i G H x f Řd ża hlt y;rw[Äq];let{Y,W,a}:=zH a;show I (Ôa F) T L λσ1 P=>v P W ?_
 cases Y with
 |nx τ2=>show λσ2 k H2 p=>{τ2,k,p,a}|ct τ2=>show λσ2 k H2 p=>{τ2,k,p,a}|bk τ2=>cases a;show n|rt o d=>cases a;show Őe n ãa ãa ãa rfl
 let e:ęg i=[]:=Úd ĩp;rw[e]at a;cases a;show .inl {j.stop i G H Řd ża Ê,n _ _ _ K}
def y01{K:Ô}{G:Hp}{lo:Æ}{n:Â}:k7 K ϊp G ((ĩb).map λk:Â=>ę űb) where
 go:=λi b H _ _ a=>by exact i<n;simpa using a
 tW:=λi b H x d _ c a y=>by let{rfl,rfl}:=y;show{b,.int Ϻa,ŋa c,by simp at a;simp[a],rfl}
 Ϡ:=λi b H _ _ a=>by exact n<=i;simpa using a
def kq(s:Gl X Şa)(g:ñ Şa=Å)(w:SE X a fa)(d:Î Đe q12):SI X tg Èm (qm ī fa):=by
 let{t,i,k}:=(zD w zP d).h;show{{_,y9c s g i (qV d),λ{B E G H τ σ ds R} K b q=>?_}};let{x,o,b}:=zH b;cases o;let{y,f,b}:=zH b;refine k K (ds:=[y]) (by unfold zC;rw[f];rfl) λz A I u n=>?_
 cases y<;>first|cases b|skip
 rename_i j;let{v,r,rfl,l,m}:=n;cases(show r=[]from m);cases(show v=.int j from l)
 change (if(0:Æ).natAbs<=yX/\Ĳe<=yX/\(j-0).toNat<=yX then _ else _)=_ at b
 by_cases c:(0:Æ).natAbs<=yX/\Ĳe<=yX/\(j-0).toNat<=yX;rw[Ϲp];let C:Ĳe<=16777216:=c.2.1;let F:(j-0).toNat<=16777216:=c.2.2;refine{j,rfl,by omega,by omega,q _ _ _ u ?_ ?_};rw[ã,Øa,ū];omega;let e:(j-0).toNat=Âa:=by omega
 rw[e];show y01;rw[ϸp]
def y20{K:Ô}{G:Hp}{a:Ë}{vs:Á V}{ds:Á D}(h:ya K G a vs)(r:ê K G ds vs):k7 K Ĩj G ds where
 go:=λi g H b c f=>by let{v,e,_}:=Äb (Đ f);show{vs,v,ut Śd h,e}
 tW:=λi g H x l b c f y=>by let{rfl,y}:=y;let e:=y vs (ut Śd h);let{d,k,j}:=r.at e;show{g,d,ŋa c,k,j.mono b}
 Ϡ:=λi g H b c f=>{vs,ut Śd h,by rw[ϊ];show f}
def x7f{K:Ô}{G:Hp}{a:Ë}{vs:Á V}{ds:Á D}(h:xP K G a vs)(r:ê K G ds vs):k7 K ħj G ds where
 go:=λi g H b c f=>by let{v,e,_}:=Äb (Đ f);show{vs,v,t9 Śd h,e}
 tW:=λi g H x l b c f y=>by let{rfl,y}:=y;let e:=y vs (t9 Śd h);let{d,k,j}:=r.at e;show{g,d,ŋa c,k,j.mono b}
 Ϡ:=λi g H b c f=>{vs,t9 Śd h,by rw[ϊ];show f}
def x57{K:Ô}{G:Hp}{z:Ç}:k7 K šg G (Ŵm λc=>ϫ {#[c]}) where
 go:=λi b H _ _ a=>by rw[ã,Ĺ]at a;show a
 tW:=λi b H x f _ e a y=>by let{rfl,c,d,rfl}:=y;show{b,.str {#[c]},ŋa e,?_,rfl,ÿb (n:=1) Ò};rw[ė,ĭa,d];rfl
 Ϡ:=λi b H _ _ a=>by rw[ã,Ĺ]at a;show a
def PI.or(b:PI X tg e w1)(c:PI X tg e w2):PI X tg e (λσ H R=>w1 σ H R\/w2 σ H R):=λa s σ H R I q=>by rcases q with q|q;show b a s σ H R I q;show c a s σ H R I q
def ug(h:SE X e f):SI X tg e (vt f):=by
 rw[Ëq];show{{_,PI.or (y9b p) (PI.or (n8 p) (y9d p)),λ{s u G H τ σ o R} K c q=>?_}};let{d,i,c}:=zH c;cases d<;>first|cases c|skip
 rename_i z;show .inr (.inr òh);let{rfl,l}:=r;show{z,rfl,q _ _ _ x (by rw[ã,Ĺ];show l) x57};show .inr (.inl òh);let{a,g,rfl,b,j,l}:=r;show{a,rfl,{g,t9 ıb b},q _ _ _ x l (x7f b j)};show .inl òh;let{a,g,rfl,b,j,l}:=r;show{a,rfl,{g,ut ıb b},q _ _ _ x l (y20 b j)}
#print a
nonrec def SD(K:Ô)(n:Â)(f:FE):TE:=λσ H Q=>∃G0 H0 G τ d,zu K n G0 H0 G H τ σ/\f τ=À d/\∀v G' H',zT G H G' H'->zZ K G' d v->Q v H'
nonrec def D2(K:Ô)(n:Â)(f:FT):TT:=λσ H Q=>∃G0 H0 G τ d,zu K n G0 H0 G H τ σ/\f τ=À d/\∀G' H',zT G H G' H'->Q d H'
structure TH(X:Cx)(es:Á Ö)(f:FT):È where
 h:V8 X es (D2 X.K ò f)
section
variable{X:Cx}{e c:Ö}{f:FE}{ft:FT}
def SE.pe(h:SE X e f):PE X e (SD X.K ò f):=λb s σ H Q I q=>by rw[Ëq];let{c,g,G,τ,d,K,a,z}:=q;show p b s σ H Q I ůp
def ST.pt(h:ST X e ft):PT X e (D2 X.K ò ft):=λb s σ H Q I q=>by rw[Ëq];let{c,f,G,τ,d,K,a,z}:=q;show p b s σ H Q I ůp
def tT:TH X [] xY:={λb s σ H Q I q=>by let{e,c,G,τ,d,K,a,z}:=q;cases a;show nU b s σ H Q I (z _ _ ņp)}
def Yw(h:ST X c ft):TH X [c] ft:={y9x h.pt}
#print a
def zu.more{K:Ô}{n:Â}{l o G H:Hp}{τ:zw}{σ:St}(k:Â)(E:zu K n l o G H τ σ):zu K Žd l o G H śc Ĩf:=by
 let a:∀{i:Â}{s:Sl},śc[i]?=À (À s)->τ[i]?=À (À s)/\Ĩf[i]?=σ[i]?:=λ{i s} h=>by let b:=MZ h;let t:i<n:=E.lt b;show{b,ūa (by rw[ű];show t)}
 refine{ŵb,by rw[ì,Ĭa,ű],by rw[ì,Ĭa,Ű],λi d h=>?_,λi d h=>?_,λi j d e p g u r m q=>?_};let{b,e}:=a h;rw[e];show Ũa i d b;let{b,e}:=a h;rw[e];show ŧa i d b;let{f,e1}:=a u;let{c,e2}:=a r;rw[e1]at m;rw[e2]at q;show ąb i j d e p g f c m q
def Kf{K:ąi}{n k:Â}{A C b o:Hp}{τ:zw}{σ:St}{J:It}{ds out:Á D}{g:TG}{l:FG}{q:FT}{f:FE}{p:Á V->Hp->È}(w:k7 K J b ds)(hl:ü<=ä)(L:zu K n A C b o τ σ)(a:wA l q f śc ds=À out)(R:∀G H d v τ' (Q:St->Hp->È),zu K Žd A C G H śc Ĩf->zZ K G d v->l d śc=À τ'->(∀ρ,zu K Žd A C G H τ' ëg->Q ëg H)->g v Ĩf H Q)(E:∀ys G H,zT b o G H->ê K G out ys->out.length<=ä->p ys H) :∃W:Â->Â->Á V->Hp->È,(∃m,W 0 m [] o)/\Ix σ k J g (D2 K Žd q) (SD K Žd f) W p:=by
 show{λi m ys H=>m=ü-i/\i<=ü/\Ŭ<=i/\∃G done z_,zT b o G H/\ê K G done ys/\wA l q f śc (Ęg i)=À z_/\done++z_=out,{ü,rfl,Ź _,ĺ _,b,[],out,ŋa L.ext.gh,rfl,a,rfl},?_};rintro i m ys H ⟨rfl,hle,t,G,done,z_,x,r,a,s⟩;by_cases hlt:i<ü
 .refine .inr {w.go i G H x.g ıb hlt,by omega,λys H=>Ŭ<=i+1/\∃G done z_,zT b o G H/\ê K G done ys/\wA l q f śc (Ęg î)=À z_/\done++z_=out,λP B z=>{ü-î,ïf _ _ hlt,rfl,hlt,z.1,z.2},λv B y=>?_};let{Z,d,c,N,U}:=w.tW i G H v B x.g ıb hlt y;rw[ϋb hlt]at a;rw[Đ hlt]at N;cases N;let{τ1,T,a}:=zH (show(l _ _).bind _=_ from a);let{I,h2,a}:=zH a;let K3:=((L.go x).go c).more k;show R Z B _ v τ1 _ K3 U T λρ O=>{{ρ,rfl},_,_,_,_,I,O,h2,λX H5 j=>?_}
  cases I with
  |Ã=>show kG {by omega,X,done,z_,Œd (Ġb j),ßa (þp j.g),a,s}|Ä=>let{z,Y,a}:=zH (show(f _).bind _=_ from a);let{h,hm,a}:=zH a;cases a;refine kH {_,_,_,_,z,O.go j,Y,λu G6 H6 F S=>{by rw[ì];show Ĳa t,G6,done++[z],h,Œd (Ġb (œd F)),(ßa (þp (j.g.trans F.g))).append (Ļe S),hm,?_}};rw[Š];show s
 let e:Ęg i=[]:=Úd ĩp;rw[e]at a;cases a;rw[Œ]at s;subst s;refine .inl {w.stop i G H x.g ıb Ê,E ys G H x r ?_};rw[<-ϊ];omega
section
variable{X:Cx}{tg ż elt:Ö}{ifs:Á Ö}{Ł:îa}{cl:Á ϫa}{own:Á Ç}{pos:Pos}{fs:FA}{fg:FG}{ft:FT}{f:FE}{g:TG}
def Rp(xs:Á α)(y:α)(ys:Á α)(h:n=ë)(z:α):(xs++y::ys).set n z=xs++z::ys:=by subst h;rw[ąh _ _ Ē,ôc];rfl
structure BG(X:Cx)(Ł:îa)(cl:Á ϫa)(own:Á Ç)(tg:Ö)(g:TG)(fg:FG):È where
 q:∀C s H fp pn,QG ða tg g
 k:∀{G0 H0:Hp}{τ:zw}{σ:St},τ.length=ò->σ.length=ò->∀G H d v τ' (Q:St->Hp->È),zu X.K Ég G0 H0 G H Šh ôd->zZ X.K G d v->fg d Šh=À τ'->
  (∀ρ,zu X.K Ég G0 H0 G H τ' ëg->Q ëg H)->g v ôd H Q
def uD(q:∀C s H fp pn,QG (vi X Ł cl [x] C s H fp pn) tg Űb)(hi:i=ò):BG X Ł cl [x] tg Űb (yC i):={q,λ{g h τ σ} f b G H d v τ' Q E r c k=>by cases c;let e:=E.set (i:=i) (v:=v) (by rw[hi];show ćb _) r;let a:(Òn).set i Áa=σ++[À v]:=Rp σ Å [] (hi.trans b.symm) Áa;exact Q ((Òn).set i Áa) H;rw[a];show k [À v] ?_;rw[<-a];show e}
def Jw(q:∀C s H fp pn,QG (vi X Ł cl Êc C s H fp pn) tg ϴe)(hi:i=ò)(g:j=ò+1):BG X Ł cl Êc tg ϴe (vM i j):=⟨q,λ{w B τ σ} I h G H d v τ' Q E r e k=>by
 unfold vM at e
 split at e;rename_i A z;cases e;let{a,u,rfl,p,{b,F,rfl,o,{c,l,rfl,m,n}},_}:=r;cases(show l=[]from n);let t:=(E.set (i:=i) (v:=b) (by rw[hi];show Nat.lt_add_of_pos_right (ϭn _)) o).set (i:=j) (v:=c) (by rw[g];show ćb _) m
 let f:(ϲk).set j đa=σ++[À b,À c]:=by
  let e1:(σ++Ő 2 Å).set i Įg=σ++[À b,Å]:=Rp σ Å [Å] (hi.trans h.symm) Įg;rw[e1];let e2:σ++[À b,Å]=ūn++[Å]:=by simp
  rw[e2,Rp ūn Å [] (by rw[ì,g,h];rfl) đa];simp
 show{a,_,rfl,t9 Ŵa p,rfl,b,_,rfl,c,_,rfl,rfl,?_};exact Q ((ϲk).set j đa) H;rw[f];show k [À b,À c] ?_;rw[<-f];show t;cases e⟩
def dN(X:Cx)(own:Á Ç):(wJ X.N own).length=ò+Òb:=by unfold wJ;rw[ì,ã]
theorem Er(h:SE ða elt f):PE ða elt (SD X.K Ég f):=by let q:=h.pe;rw[ąq]
def Es(h:TH ða ifs ft):V8 ða ifs (D2 X.K Ég ft):=by let q:=h.h;rw[ąq]
def uI(a:ŵ=Ä)(B:XJ X Ł cl own)(hi:SI X tg ż fs)(j:BG X Ł cl own tg g fg)(y:∀C s H fp pn,TH ða ifs ft)(r:∀C s H fp pn,SE ða elt f)(t:Î (∀x,Ób ż Û x=pure x) q11) :SF X ķb Īh:=by
 let{F,u,w}:=Ĵc;show{{_,m_ a B u (Δc (j.q C s H fp pn)) (Αc (y C s H fp pn)) (Βc (r C s H fp pn)) t,λ{N R G H τ σ d Q} K b q=>?_}};let{I,A,b}:=zH b;let{v,o,b}:=zH b;cases b;show w K A λJ P S i l m=>Kf m l (Ôa i) o (j.k K.l2 K.l1) λn L O c z E p e=>?_
 show q p _ _ (i.trans čm) (ûj (ÿj e)) (ϧi e) {n,yq,z,E}
def S4(b:ŵ=Ä)(I:éa)(c:X.N[i]?=À x)(y:Íd x=À .local)(B:XJ X Ł cl own)(m:űc ķb (À (.Name x px)) ãp Û=pure Ä)(hi:SI X tg ż fs)(u:BG X Ł cl own tg g fg)(P:∀C s H fp pn,TH ða ifs ft)(z:∀C s H fp pn,SE ða elt f)(A:Î (∀x,Ób ż Û x=pure x) q11) :SS X (.Assign [.Name x px] ķb spos) (zl i Īh):=by
 let{U,F,O}:=Ĵc;show{{_,nQ b I c y B m F (Δc (u.q C s H fp pn)) (Αc (P C s H fp pn)) (Βc (z C s H fp pn)) A,λ{Z H0 G H τ σ fl E} K e q=>?_}};let{d,a,e}:=zH e;cases e;let{W,R,a}:=zH a;let{L,w,a}:=zH a;cases a;show O K R λJ Ga Ha t l v=>Kf v l (Ôa t) w (u.k K.l2 K.l1) λr Y H1 j Q S p n=>?_
 let T:=((Ôa t).go j).go (ğc (o:=.lst r) j.gh n);show q _ _ _ (T.set (Ŀ c).1 {p,r,rfl,Ţa yq,Q.mono (t8 źn _),S})
#print a
section
variable{K:Ô}{n:Â}{G0 H0 G H:Hp}{τ:zw}{σ:St}
def zu.J1(E:zu K n G0 H0 G H τ σ)(hi:τ[i]?=À ϗb)(x:σ[i]?=À řp)(B:vp K G ŷc d' p):zu K n G0 H0 G ŷc Ĉl σ:=by
 let{S,e,g,z,_}:=ŧa i d hi;rw[x]at e;cases e
 let l:∀{m:Hp},m p=Å->yF m H->yF m ŷc:=λ{m} h s b u q=>by rw[yH (qo q h)];show s _ _ q
 refine{{Œj,l z ŗe,l g Ŵa,Ϻf},ű,by rw[āq],λj e h=>?_,λj e h=>?_,λj k e f q a J Q I L=>?_};rcases vv h with⟨rfl,w⟩|⟨C,w⟩;cases w;show Ũa j e w;rcases vv h with⟨rfl,w⟩|⟨C,w⟩;cases w;show{p,x,g,z,B};let{q,F,O,R,A}:=ŧa j e w;show{q,F,O,R,?_}
 let a:q≠p:=λc=>by subst c;show ąb i j d e q (λc=>C Ře) hi w x F
 cases e with
 |lst ds=>let{v,y,r}:=A;show{v,by rw[yH a];show y,r}
 |dic ks ds=>let{v,y,r}:=A;show{v,by rw[yH a];show y,r}
 |_=>show A.elim
 let t:∀{j:Â}{e:D},Ĉl[j]?=À ëe->∃e,τ[j]?=À ëe:=λ{j e} h=>by rcases vv h with⟨rfl,_⟩|⟨_,w⟩;show{_,hi};show{_,w}
 let{e1,P}:=t J;let{e2,N}:=t Q;show ąb j k e1 e2 q a P N I L
#print a
section
variable{X:Cx}{x:Ç}{xp pos Åa Ϯ:Pos}{e:Ö}{f:FE}
def ku(N:QE X Ž úb)(O:SE X e f)(n:Î (Đb Ž Ûg Û ńf=Ĥ Ž Û) q12)(m:Î Ĺb q12)(C:Î Ča q12) :SS X (Θe (.Attribute Ž Ûg Åa)) (qE i tN f):=by
 let{t,p,k}:=(zD O zP C).h;refine{{_,(Na (OL Þf ęl ėl lP N {p} n m ňh ϣd) rfl).h,λ{T Y G H τ σ Z E} K j q=>?_}};unfold qE at j
 split at j;rename_i d I;let{y,P,j}:=zH j;let{J,b,j}:=zH j;cases j;let{a,A,g,z,o}:=K.ow _ _ I;cases d with
 |lst ds=>
  let{s,w,B,l}:=o;refine{_,A,.inl {rfl,s,Ţa w},k K (ds:=[y]) (by unfold zC;rw[P];rfl) λU S W v R=>?_};let{u,r,rfl,L,Q}:=R;cases(show r=[]from Q)
  change (if ü<yX then À (żd Ŷp)else Å)=À J at b
  by_cases c:ü<yX;rw[Ϲp];refine{a,s,u,rfl,rfl,v.h _ _ w,by rw[B.length,ū];show c,?_};show q _ _ _ ((Ôa v).J1 I A {s++[u],yq,(B.mono v.g).append (Ļe L),?_});rw[ì,ū];show c;rw[ϸp]
 |_=>cases b
 cases j
#print a
section
variable{P:ï}{w:æ}{K:Ô}{mg:Ç->É Value}{Ì:Heap}
def B0{α β:Type}{ds:Á α}{k i:Â}{h:α->É β}{y:β}(e:(ųe h++Ő k Å)[i]?=À (À y)):∃d,ds[i]?=À d/\h d=À y:=by
 let a:=MZ e;rw[ė]at a;cases q:ds[i]? with
 |Å=>rw[q]at a;cases a|À d=>rw[q]at a;show{d,rfl,Ça a}
def f9{N:Á Ç}{G H:Hp}{ds:Á D}{vs:Á V}(s:yF G H)(r:ê K G ds vs)(g:ü<=ŕ):zu K ŕ G H G H (ųe (λd=>À (Ã,d))++Ő (ŕ-ü) Å) űi:=by let l:=ϊ;show{ŋa s,?_,?_,λi d h=>?_,λi d h=>?_,λi j d e p _ c=>?_};unfold Ĉe;rw[ÿq];rw[ÿq];let{b,e,z}:=B0 h;cases z;let{v,a,f}:=Äb e;show{v,?_,f};unfold Ĉe;rw[ūa (by rw[ã];show(Ŀ a).1),ė,a];rfl;let{b,e,z}:=B0 h;cases z;let{b,e,z}:=B0 c;cases z
def Def.z2t{x:Ç}{st:Ü}{N ps:Á Ç}{k:Â}{F:Á D->É å}{b:FS}(d:Def K mg x st ps)(S:zm N ps ŗ)(J:ģ<=ŕ)(i:∀ds r,F ds=À r->ü=ģ/\yL ŕ b ds=À r)(m:∀(f:Ë)(c:Value)(A:ù)(ĉ:Á Env)(s:Í)(H:Hp)(E:XK),yk k áh->tq (qO xS P w K mg Ì N x ŗ f c A ĉ s H E).qb Ýa b):wu P w K mg Ì x ps Ň ńe:=by
 show d.ok S (λn H Q E h=>?_) λf c A ĉ s H n Q E u h=>?_;let{G,ds,o,C,_,r,e,_}:=h;rw[ϊ,(i _ _ e).1];let{G,ds,o,C,y,r,e,q}:=h;let{l,a}:=i _ _ e;let{t,p,I}:=(m f c A ĉ s H E u).h;let{v,g,a}:=zH a;refine{t,p,I (f9 (N:=N) y r Ê) g ?_};cases v with
 |nx τ=>cases a;show λσ B j z=>q .zO B j z.ext rfl|rt o' d'=>
  cases a;cases o with
  |Ã=>show q|Ä=>show q
 |_=>cases a
#print a
section
variable{X:Cx}{K:Ô}
def Vo(h:∀i j,Cb i j=Ä->C i j):tj K Ŋl (fI Cb g):=λG H x y u v d Q s e b a q=>by
 cases x<;>first|(cases a;done)|skip
 cases y<;>first|(cases a;done)|skip
 rename_i i j
 change (match Cb i j with|Ä=>À (ę ϱa)|Ã=>Å)=À d at a
 cases c:Cb i j with
 |Ã=>rw[c]at a;cases a|Ä=>rw[c]at a;cases a;show{i,j,e,b,h i j c,q _ _ _ þa rfl}
def qS:tj K Ĺp (vW g):=λG H x y u v d Q s c b a q=>by
 cases x<;>first|(cases a;done)|skip
 cases y<;>first|(cases a;done)|skip
 rw[àq]
def Zi:tj K ļo pH:=λG H x y u v d Q s c b a q=>by
 cases x<;>first|(cases a;done)|skip
 cases y<;>first|(cases a;done)|skip
 rw[àq]
def lF(h:Xr i=Ä) : -Ăg<i/\i<2 ^ 64:=by unfold Xr at h;rw[Ď]at h;show{š h.1,š h.2}
def mN:tj K âh IH:=Vo λ_ _ h=>.inl (lF h)
def mO:tj K âh II:=Vo λ_ _ h=>.inr (lF h)
def xV:tj K Ĝl xE:=Vo λ_ _ h=>š h
def ua:tj K ϊk vK:=Vo λ_ _ h=>by rw[Ď]at h;show{š h.1,š h.2}
def y9q(h:pP i j=Ä):FW i j:=by unfold pP at h;rw[Ď,Ď]at h;show{š h.1,š h.2.1,š h.2.2}
def kU:tj K Ϫk vz:=Vo λ_ _ h=>y9q h
def mQ:tj K ϣk TW:=Vo λ_ _ h=>š h
def gL:gx K ám (ql g):=λH x y u v d Q c b a=>by
 cases x<;>first|(cases a;done)|skip
 cases y<;>first|(cases a;done)|skip
 cases a;show{_,rfl,λq=>{_,_,c,b,q}}
def iJ(r:zZ K H x u):YW x=decide (u=.zO):=by
 cases x with
 |zO=>cases r;rfl|bl b=>cases r;rfl|int b=>cases r;rfl|str b=>let{rfl,_}:=r;rfl
 |tup b=>let{a,d,rfl,_}:=r;rfl
 |lst b=>let{a,d,rfl,_}:=r;rfl
 |dic b c=>let{a,d,rfl,_}:=r;rfl
 |exc b=>let{a,C,rfl,_}:=r;rfl
 |obj b c e=>let{a,C,f,d,rfl,_}:=r;rfl
def B7:gx K Ìm ZU:=λH x y u v d Q c b a=>by
 cases y<;>first|(cases a;done)|skip
 let e:=iJ c;show{YW x,(Ça a).symm,λq=>{b,?_}};rw[<-e];show q
def mP:gx K Ëm IK:=λH x y u v d Q c b a=>by
 cases y<;>first|(cases a;done)|skip
 let e:=iJ c;show{!YW x,(Ça a).symm,λq=>{b,?_}};rw[<-e];show q
def QJ:∀(G H:Hp) x u d (Q:VK),zZ K G x u->YR x=À d->∃w,(∀G,zZ K G d w)/\(Ιd (-i)):=λG H x u d Q r a=>by
 cases x<;>first|(cases a;done)|skip
 rw[Ŋq]
def z0h:∀(G H:Hp) x u d (Q:VK),zZ K G x u->TU x=À d->∃w,(∀G,zZ K G d w)/\(Ιd ŧj):=λG H x u d Q r a=>by
 cases x<;>first|(cases a;done)|skip
 rw[Ŋq]
def oE(K:Ô):R2:=λx y H Q=>∃l b xs zs,x=.ref l/\y=.ref b/\ya K H l xs/\ya K H b zs/\ë+Ýp<=ä/\∀p,H p=Å->Q Ŵ (Νb (xs++zs))
def mU:xD X ħd (oE X.K):=by
 intro O s σ H x y v u Q I z J h;let{l,b,T,S,rfl,rfl,E,t,o,q}:=h;cases z;cases J;let{c,p,G,_}:=Ϛ E;let{a,n,r,_}:=Ϛ t;obtain⟨⟨W,C,P,k⟩,N,f,e,L,d⟩:=G;obtain⟨⟨U,A,R,m⟩,w,j,g,B,i⟩:=r;simp only at e d g i;subst e d g i
 refine āi {_,f,rfl} {_,j,rfl} noFill_list_add seq_list_add PySem.F.slot_list_add PySem.F.entry_list_add (PySem.F.args_list_add_2 _ _)
  (list_addW l b ϥi ϭa N w C A k m (by rw[Ĭ,Ĭ,<-p.length,<-ţb];show o)) {f,j,?_}
 rw[show ϥi++ϭa=(Ëk).toArray by simp];show{.ref _,_,I.bB (t':=ē) (p.append n) (by rw[ì];show o),rfl,q _ Ϝc}
def oB(K:Ô):R2:=λx y H Q=>pQ (λi j=>.int (i+j)) x y H Q\/(∃i k,x=.int i/\y=.bl k/\Q Èn H)\/(∃i j,x=.str i/\y=.str j/\Ťb+ģa<=ä/\Q ϗn H)\/oE K x y H Q\/oG K x y H Q
def wM:xD X ħd (oB X.K):=y7k.or (y7l.or (y7m.or (mU.or y7n)))
def wL:tj K (oB K) xN:=λG H x y u v d Q s w A f q=>by
 cases x<;>first|(cases f;done)|skip
 all_goals (cases y<;>first|(cases f;done)|skip)
 rename_i i b;cases w;cases A;cases f;show .inr (.inl {i,b,rfl,rfl,?_});let e:i+b2i b=i+ôf:=by cases b<;>rfl
 rw[e];rw[ģq];cases f;show .inl {_,_,w,A,q _ _ _ þa rfl};rename_i i j;let{rfl,I}:=w;let{rfl,F}:=A
 change (if Ťb+ģa<=yX then _ else _)=_ at f
 by_cases c:Ťb+ģa<=yX;rw[Ï c]at f;cases f;let m:Ťb+ģa<=ä:=by rw[ū];show c
 show .inr (.inr (.inl {i,j,rfl,rfl,m,q _ _ _ þa {rfl,by rw[strLen_append];show m}}));rw[Ñ c]at f;rw[êq]
 change (if ùp=Ã/\Ĥb+ϰb<=yX then _ else _)=_ at f
 by_cases c0:ùp=Ã/\Ĥb+ϰb<=yX;rw[Ï c0]at f;let c:=c0.2;rw[Ďq]
 let E:k≠[]:=λe=>by
  let l:=ţb;rw[e]at l;cases g with
  |nil=>cases c0.1|ð=>cases l
 refine .inr (.inr (.inr (.inr {a,b,k,t,rfl,rfl,t9 s B,t9 s C,E,by rw[ţb,ļd,ū];show c,λe=>?_,λe p r=>?_})));subst e
 let e2:h=[]:=by
  cases h with
  |nil=>rfl|ð=>let{_,_,z,_}:=o;cases z
 subst e2;show q _ _ _ þa {a,k,rfl,B,by rw[Œ];show n,m};show q _ _ _ Ĭp {p,k++t,rfl,ϲc yq,(Øo).mono (t8 (łg r) _),m};rw[Ñ c0]at f;rw[êq]
 change (if Ĥb+ϰb<=yX then _ else _)=_ at f
 by_cases c:Ĥb+ϰb<=yX;rw[Ï c]at f;rw[Ďq]
 refine .inr (.inr (.inr (.inl {a,b,k,t,rfl,rfl,ut s B,ut s C,by rw[ţb,ļd,ū];show c,λp r=>?_})));show q _ _ _ Ĭp {p,k++t,rfl,Ţa yq,(Øo).mono (t8 (łg r) _),m};rw[Ñ c]at f;cases f
def z3n(h:pB xs i=À x):∃j:Â,xs[j]?=À x/\∀{β:Type}(ys:Á β),Ŭ=ë->pB ys i=ys[j]?:=by
 unfold pB at h;cases e:ixN ë i with
 |Å=>rw[e]at h;cases h|À j=>rw[e]at h;show{j,h,λys l=>by unfold pB;rw[l,e];rfl}
def d9(xs:Á α)(i:Æ):pB xs i=ul xs i:=by
 unfold pB ul ixN;by_cases h:0<=i;rw[Ï h,Ï h];by_cases h2:i<ë;rw[Ï h2];rfl;rw[Ñ h2];show(Öa Ê).symm;rw[Ñ h,Ñ h]
 split<;>rfl
def Nh(r:ê K H ds vs)(h:ul ds i=À d):∃v,pB vs i=À v/\zZ K H d v:=by rw[<-d9]at h;let{j,e,k}:=z3n h;let{v,a,b}:=Äb e;show{v,by rw[k vs ϊ];show a,b}
def z6y:D->D->É D
 |.lst xs,.int i=>ul xs i|.tup xs,.int i=>ul xs i|.str z,.int i=>(ϱo).bind λc=>À èi|_,_=>Å
def N3:tj K (Nd K) z6y:=λG H x y u v d Q s g h b q=>by
 cases x<;>first|(cases b;done)|skip
 all_goals (cases y<;>first|(cases b;done)|skip)
 rename_i z i;let{rfl,l}:=g;cases h;let{c,o,b}:=zH b;cases b;rw[<-d9]at o;show .inr (.inr {z,i,c,rfl,rfl,l,o,q _ _ _ þa {rfl,ÿb (n:=1) Ò}});rw[ìq];show .inr (.inl {a,f,i,w,rfl,rfl,t9 s j,k,q _ _ _ þa e});rw[ìq];show .inl {a,f,i,w,rfl,rfl,ut s j,k,q _ _ _ þa e}
def tM:vg X üd (Ωc Âh ſi):=z4w.or z4x
def tP:Jf K (Ωc (ya K H p ys\/xP K H p ys) ſi) vy:=λG H i j d Q s r b q=>by
 match i,b with
 | [.lst xs],b=>cases b;let{v,e,rfl,{a,g,rfl,h,f,_},c}:=r;cases(show e=[]from c);show .inl {a,g,rfl,.inl h,by rw[íb];rw[ģq]}
 | [.tup xs],b=>cases b;let{v,e,rfl,{a,g,rfl,h,f,_},c}:=r;cases(show e=[]from c);show .inl {a,g,rfl,.inr h,by rw[íb];rw[ģq]}
 | [.str z],b=>cases b;let{v,e,rfl,{rfl,l},c}:=r;cases(show e=[]from c);show .inr {z,rfl,l,q _ _ _ þa rfl}
#print a
theorem eG:∀xs ys:Á D,(((Ĩh).all λj=>xf Ϛh ϙh)&&ë==Ŭ)=Ϙa xs ys
 | [],[]=>rfl| [],_::_=>rfl|_::_,[]=>rfl|x::xs,y::ys=>by
  let a:=eG xs ys;exact _=Ĝh;rw[<-a,Ĉ,Ĉ,Nat.succ_min_succ,List.range_succ_eq_map,ϔ,List.all_map,Bool.and_assoc]
  congr 1
  congr 1
  rw[řc];simp
theorem dv:∀{xs ys:Á D},pC f xs ys=Ä->∀(j:Â) x y,xs[j]?=À x->ys[j]?=À y->f x y=Ä
 | [],_,_,j,x,y,e,_=>by cases e|x::xs,[],_,j,_,y,_,e=>by cases e|x::xs,y::ys,h,0,_,_,e1,e2=>by cases e1;cases e2;let c:ĭh=Ä:=h;rw[Ď]at c;show c.1|x::xs,y::ys,h,j+1,a,b,e1,e2=>by let c:ĭh=Ä:=h;rw[Ď]at c;show dv c.2 j a b èm çm
section
variable{X:Cx}{zA:Á õ}{σ:St}{H:Hp}{s:Í}{K:Ô}
theorem GJ(d:∀d1 d2 v,vw n d1 d2=Ä->zZ K H d1 v->zZ K H d2 v->xf d1 d2=Ä):∀{xs ys:Á D}{vs:Á V},pC Ϭc xs ys=Ä->ê K H xs vs->ê K H ys vs->Ϙa xs ys=Ä
 | [],[],_,_,_,_=>rfl| [],_::_,_,_,r1,r2=>by cases(show _=[]from r1);let{_,_,e,_}:=r2;cases e
 |_::_,[],_,_,r1,r2=>by cases(show _=[]from r2);let{_,_,e,_}:=r1;cases e
 |x::xs,y::ys,_,h,r1,r2=>by let{v,r,rfl,a,b}:=r1;let{i,j,e,f,g}:=r2;cases e;let c:(vw n x y&&pC Ϭc xs ys)=Ä:=h;rw[Ď]at c;exact Ĝh=Ä;rw[d x y v c.1 a f,GJ d c.2 b g];rfl
def E_(h:vw ħ x y=Ä):(∃xs ys,x=.tup xs/\y=.tup ys/\pC Ϭc xs ys=Ä)\/(∃xs ys,x=.lst xs/\y=.lst ys/\pC Ϭc xs ys=Ä)\/(xw x=Ä/\xw y=Ä):=by
 unfold vw at h
 rw[Éq];show .inl {_,_,rfl,rfl,h};show .inr (.inl {_,_,rfl,rfl,h});rw[Ď]at h;show .inr (.inr h)
def Vw(h:xw d=Ä)(r:zZ K H d v):je v=Ä:=by
 cases d<;>first|show Þ h ġ|skip
 rw[ĩq];rw[ĩq];rw[ĩq];cases(show v=_/\_ from r).1;rfl
def OQ(c:xw d1=Ä)(d:xw d2=Ä)(a:zZ K H d1 x)(b:zZ K H d2 y):jC x y=xf d1 d2:=by
 cases d1<;>first|show Þ c ġ|skip
 all_goals (cases d2<;>first|show Þ d ġ|skip)
 all_goals first
  |(cases(show x=_ from a);cases(show y=_ from b);rfl)
  |(cases(show x=_ from a);cases(show y=_/\_ from b).1;rfl)
  |(cases(show x=_/\_ from a).1;cases(show y=_ from b);rfl)
  |(cases(show x=_/\_ from a).1;cases(show y=_/\_ from b).1;rfl)
theorem MP(I:Inv X zA σ H s):∀(n:Â)(d1 d2:D)(v:V),vw n d1 d2=Ä->zZ X.K H d1 v->zZ X.K H d2 v->xf d1 d2=Ä
 |0,_,_,_,h,_,_=>by cases h|n+1,d1,d2,v,h,r1,r2=>by rcases E_ h with⟨i,m,rfl,rfl,h⟩|⟨i,m,rfl,rfl,h⟩|⟨g,o⟩;rw[đq];cases I.FU b c;show GJ èl h d f;rw[đq];cases I.LZ b c;show GJ èl h d f;rw[<-OQ g o r1 r2];show z6s (Vw g r1)
def fU{α:Type}{xs:Á α}{j:Â}{x d:α}(h:xs[j]?=À x):łj j d=x:=by rw[ő,h];rfl
def BU{A:ù}{n:Â}{a c:Ë}{xs ys:Á D}{vs us:Á V}(I:Inv X zA σ H s)(p:Ša<ϛ)(q:cr X.K H a c vs us)(i:ê X.K H xs vs)(k:ê X.K H ys us)(h:pC Ϭc xs ys=Ä)(o:∀(d b:D)(x y:V)(u v:Value),vw n d b=Ä->zZ X.K H d x->zZ X.K H b y->yB x u->yB y v->Řb Çb s u v (xf d b)):Ũi A s Ŗ Ćg (Ϙa xs ys)/\ăi A s Ŗ Ćg (!dEqs xs ys):=by
 let z:=x15 (A:=A) (e:=λj=>xf Ϛh ϙh) I p q λj C w l g e1 e2 E B=>by let{d,f,r}:=i.at e1;let{b,m,t}:=k.at e2;exact Řb Çb s l g (xf Ϛh ϙh);rw[fU f,fU m];show o d b C w l g (dv h j d b f m) r t E B
 rw[Ťb,k.length,eG]at z;show z
theorem MO(I:Inv X zA σ H s):∀(n:Â)(A:ù)(d1 d2:D)(x y:V)(u v:Value),Ša+n<ϛ->vw n d1 d2=Ä->zZ X.K H d1 x->zZ X.K H d2 y->yB x u->yB y v->Řb A s u v Ϫo
 |0,_,_,_,_,_,_,_,_,h,_,_,_,_=>by cases h|n+1,A,d1,d2,x,y,u,v,hu,h,r1,r2,rx,ry=>by let p:=h;let m:=r1;let q:=r2;rcases E_ h with⟨t,B,rfl,rfl,h⟩|⟨t,B,rfl,rfl,h⟩|⟨o,r⟩;rw[Ľq];show Ăm hac (γc øo đf).1;rw[Ľq];show Ăm hac (γc óo đf).1;rw[<-OQ o r r1 r2];show fA rx ry (Vw o r1) (Vw r r2)
#print a
def OO(K:Ô)(a:Ð):R2:=λx y H Q=>∃d1 d2 k,zZ K H d1 x/\zZ K H d2 y/\YQ d1 d2=À k/\Q (.bl (if a then !k else k)) H
def yl(a:yk k A):Ša+7<ϛ:=Ðb (àc (by decide:7<=64) _) a.units
section
variable{X:Cx}{K:Ô}
def GM(h:YQ d1 d2=À k):vw 6 d1 d2=Ä/\k=xf d1 d2:=by
 unfold YQ at h
 rw[Éq];cases h;cases h;rw[Éq];rename_i e;cases h;show{e,rfl};cases h
def rX(h:YQ d1 d2=À k)(c:xw d1=Ä)(d:xw d2=Ä)(a:zZ K H d1 x)(b:zZ K H d2 y):Ro x y=Ä/\decide (x=y)=k:=by
 let{_,e}:=GM h;subst e;cases d1<;>first|show Þ c ġ|skip
 all_goals (cases d2<;>first|show Þ d ġ|(cases h;done)|skip)
 all_goals first
  |(cases(show x=_ from a);cases(show y=_ from b);show⟨rfl,by first|rfl|show G9|show G8⟩)
  |(cases(show x=_ from a);cases(show y=_/\_ from b).1;show⟨rfl,rfl⟩)
  |(cases(show x=_/\_ from a).1;cases(show y=_ from b);show⟨rfl,rfl⟩)
  |(cases(show x=_/\_ from a).1;cases(show y=_/\_ from b).1;show⟨rfl,GA⟩)
def fC(I:Inv X zA σ H s)(G:Ša+7<ϛ)(h:vw 6 d1 d2=Ä)(q:¬ (xw d1&&xw d2)=Ä)(o:zZ X.K H d1 x)(m:zZ X.K H d2 y)(n:yB x u)(p:yB y v) :Ũi A s u v Ϫo/\ăi A s u v (!xf d1 d2):=by rcases E_ h with⟨r,B,rfl,rfl,h⟩|⟨r,B,rfl,rfl,h⟩|⟨w,E⟩;rw[Ϻp];show BU I Ê øo g k h λd1 d2 x y u v e f i l j=>MO I 5 Çb d1 d2 x y u v đf e f i l j;rw[Ϻp];show BU I Ê óo g k h λd1 d2 x y u v e f i l j=>MO I 5 Çb d1 d2 x y u v đf e f i l j;show Þ (by rw[w,E];rfl) q
def xW(l:Œa+7<ϛ):xD X Łp (OO X.K Ã):=by rw[ϭp];show y7o j s σ H x y v u Q I e i {a,by rw[b];show q};let{o,rfl}:=GM f;show Űl.1 _ _ _ _ {.bl _,H,I,rfl,q}
def kW(l:Œa+7<ϛ):xD X ďi (OO X.K Ä):=by rw[ϭp];show y7v j s σ H x y v u Q I e i {a,by rw[b];show q};let{o,rfl}:=GM f;show Űl.2 _ _ _ _ {.bl _,H,I,rfl,q}
def xU:gx K (OO K Ã) zh:=λH x y u v d Q e c a=>by rw[Łq]
def kT:gx K (OO K Ä) vL:=λH x y u v d Q e c a=>by rw[Łq]
#print a
def y16{K:Ô}:Ů K îd Üb=À Ã/\Ů K îd Ĝa=À Ã/\Ů K îd Ŷa=À Ã/\
  Ů K ϡa Üb=À Ã/\Ů K ϡa Ĝa=À Ã/\Ů K ϡa Ŷa=À Ã/\
  Ů K ϣa Üb=À Ã/\Ů K ϣa Ĝa=À Ã/\Ů K ϣa Ŷa=À Ã:=by show{?_,?_,?_,?_,?_,?_,?_,?_,?_}<;>kernel_rfl
def y17{K:Ô}:Ů K Üb ϣa=À Ã/\Ů K Üb ϡa=À Ã/\Ů K Üb Ĝa=À Ã/\Ů K Üb Ŷa=À Ã/\
  Ů K Ĝa ϣa=À Ã/\Ů K Ĝa ϡa=À Ã/\Ů K Ĝa Üb=À Ã/\Ů K Ĝa Ŷa=À Ã/\Ů K Ĝa Ĝa=À Ä:=by show{?_,?_,?_,?_,?_,?_,?_,?_,?_}<;>first|kernel_rfl|rfl
def y18{K:Ô}:Ů K Ŷa ϣa=À Ã/\Ů K Ŷa ϡa=À Ã/\Ů K Ŷa Ĝa=À Ã/\Ů K Ŷa Üb=À Ã:=by show{?_,?_,?_,?_}<;>kernel_rfl
nonrec def x7r:D->ìa
 |.zO => "NoneType"|.bl _ => ūe|.int _ => ĭc|.str _ => ϖe|.tup _ => Ϗ|.lst _ => Ĩ|.dic _ _ => Ña|.exc _ => "x"|.obj _ _ _ => "x"
def Tf{K:Ô}{T:qj}{d:D}{b:Ð}(h:Il T d=À b):Ů K (.type (x7r d)) îo=À b:=by
 let{y,x,q,a,f,e,w,i,u}:=y16 (K:=K);let{c,j,r,g,l,s,n,v,m}:=y17 (K:=K);let{k,o,p,t}:=y18 (K:=K);cases T<;>cases d<;>cases h
 all_goals first|show y11|show y0z|show y10|show y0y|show y13|show y12|show y15|show y14|assumption
def x0o(K:Ô)(T:qj):Á V->Hp->VK->È:=λa H Q=>∃x d b,a=[x,.ty T.nm]/\zZ K H d x/\Il T d=À b/\Q ŭb H
def z4u(T:qj):vg X Ãi (x0o X.K T):=by
 intro t s σ H B A Q I r h;let{x,d,b,rfl,g,e,q}:=h;let{u,c,rfl,i,w}:=Sf r;cases(show c=Ϣb T.nm from w);let f:∀k,EP X t σ Q Ùg { s with Ĕ:=k }:=λk=>{.bl b,H,Òa k,rfl,q}
 cases d with
 |zO=>cases(show x=_ from g);show Mh I i .zO (Tf (d:=.zO) e) f|bl y=>cases(show x=_ from g);show Mh I i (.bl _) (Tf (d:=.bl y) e) f|int y=>cases(show x=_ from g);show Mh I i (.int _) (Tf (d:=.int y) e) f|str y=>cases(show x=_/\_ from g).1;show Mh I i (.str _) (Tf (d:=.str y) e) f|tup ds=>let{a,v,rfl,p,_}:=g;cases(show u=Ė a from i);let{l,_,{o,j,m,_},_}:=Þa p;show Ϯa Ϫn ϝ {o,j,m} (Tf (d:=.tup ds) e) ĉa f
 |lst ds=>let{a,v,rfl,p,_}:=g;cases(show u=Ė a from i);let{l,_,{o,n,j,m,_},_}:=Ϛ p;show Ϯa Ĳi ϝ {o,j,m} (Tf (d:=.lst ds) e) ĉa f
 |dic ks ds=>cases T<;>cases e|exc _=>cases T<;>cases e|obj _ _ _=>cases T<;>cases e
def Of(T:qj)(s:Gl X Ŗc)(e:Gl X x)(l:ñ Ŗc=Å)(g:ñ x=Å)(hv:ϕ x=À îo)(w:SB X a f)(i:Î Đe q12)(u:Î Ďb q10)(n:Î ō q10):SE X (.Call (.Name Ŗc p) [a,.Name x p1] [] pos) (Xl T f):=by let{t,m,k}:=w.h;refine{{_,(OM (z4u T) s l z4d (BQ {m} (BQ (x0c e g hv u n) NZ rfl) i) Ò Ò (by rw[ϔ,i];rfl)).h,λ{A B G H τ σ d Q} E c q=>?_}};let{z,o,c}:=zH c;let{b,j,c}:=zH c;cases c;show k E o λv C y x r=>{v,z,b,rfl,r,j,q _ _ _ x rfl}
#print L3
namespace L3
open ľ
theorem Sk{c:FT}{b:FS}:∀{n:Â}{σ:zw}{fl:Fl}(k:Â),uw c b n σ=À fl->uw c b Žd σ=À fl
 |0,_,_,_,h=>by cases h|n+1,σ,fl,k,h=>by
  rw[Nat.succ_add];unfold uw at h ⊢;cases hc:c σ with
  |Å=>rw[hc]at h;cases h|À kk=>
   rw[hc]at h;cases kk with
   |Ã=>show h|Ä=>
    change (űd).bind _=_ at h
    exact(űd).bind _=_;cases hb:b σ with
    |Å=>rw[hb]at h;cases h|À f=>
     rw[hb]at h;cases f with
     |nx τ=>show Sk k h|ct τ=>show Sk k h|bk τ=>show h|rt o d=>show h
def U0(n:Â)(h:uw c b n σ=À fl)(a:Î (n<=Y9) q10):Zn c b σ=À fl:=by let e:=Sk (Y9-n) h;rw[ŀm a]at e;show e
def QT(a:c σ=À Ä)(d:b σ=À åj):uw c b ħ σ=uw c b n σ':=by rw[ĳq];rw[a];exact(űd).bind _=_;rw[d];rfl
def UH(a:c σ=À Ã):uw c b ħ σ=À Ĉg:=by rw[ĳq];rw[a];rfl
theorem kL(P:Â->zw->È):∀{ds:Á D}{σ:zw}(n:Â),P n σ->(∀i d σ,ds[i]?=À d->P (n+i) σ->∃σ1 σ2,g d σ=À σ1/\(b σ1=À äj\/b σ1=À (.ct σ2))/\P Ŷj σ2)->
  ∃σ',Yb g b ds σ=À åj/\P ŵj σ'
 | [],σ,n,h,_=>{σ,rfl,h}|d::ds,σ,n,h,Ăa=>by
  let{σ1,σ2,e1,e2,q}:=Ăa 0 d σ rfl h
  let{σ',c,p}:=kL P (ds:=ds) (σ:=σ2) ħ q λi k τ f m=>by let{a,j,e,l,o}:=Ăa î k τ ĥm (by rw[Ěq];show m);show{a,j,e,l,by rw[ûq];show o}
  show{σ',?_,by rw[ïq];show p};rw[ϳp];exact(b σ1).bind _=_;rcases e2 with e2|e2;rw[e2];show c;rw[e2];show c
def tR(h:a σ=À åj):zQ a b σ=b σ':=by exact(Óa).bind _=_;rw[h];rfl
def x3h(h:a σ=À ϑc):zQ a b σ=À ϑc:=by exact(Óa).bind _=_;rw[h];rfl
def z9x(h:c σ=À Ä):yb c a b σ=a σ:=by rw[ĳq];rw[h];rfl
def z9w(h:c σ=À Ã):yb c a b σ=b σ:=by rw[ĳq];rw[h];rfl
abbrev wq(j:Â):Á D:=(ϡ j).map λk:Â=>ę k
def kj(h:f τ=À Ŋe)(a:ùj<=1000000):qm ī f τ=À (wq n.toNat):=by unfold qm;rw[h];exact(if(0:Æ).natAbs<=yX/\ùj<=yX/\(n-0).toNat<=yX then _ else _)=_;rw[Ï {by decide,by rw[Ãq],by rw[Ãq]},Int.sub_zero];simp only[Int.zero_add]
#print L3
namespace L3
def shx:=
 é yL.eq_1<|é zQ.eq_1<|é zl.eq_1<|é qF.eq_1<|é yc.eq_1<|é vY.eq_1<|é pS.eq_1<|é yb.eq_1<|é xK.eq_1<|é Yn.eq_1 <|
 é rG.eq_1<|é qE.eq_1<|é jK.eq_1<|é Yb.eq_1<|é Yb.eq_2<|é e1.eq_1<|é e2.eq_1<|é eL.eq_1<|é eC.eq_1<|é z7.eq_1<|é qP.eq_1 <|
 é zC.eq_1<|é zF.eq_1<|é tE.eq_1<|é YH.eq_def<|é Yx.eq_1<|é Z1.eq_1<|é gU.eq_1<|é Xk.eq_1<|é IF.eq_1<|é ML.eq_1<|é pG.eq_1 <|
 é wP.eq_1<|é xv.eq_1<|é Xl.eq_1<|é Il.eq_1<|é Z3.eq_1<|é Z3.eq_2<|é Z3.eq_3<|é Z3.eq_4<|é Z3.eq_5<|é Z3.eq_6<|é Z3.eq_7<|é Z3.eq_8<|é Z3.eq_9<|é qj.sel.eq_1<|é qj.sel.eq_2<|é qj.sel.eq_3<|é qj.sel.eq_4<|é qj.sel.eq_5<|é fI.eq_def<|é pH.eq_def<|é ql.eq_def<|é IH.eq_1<|é II.eq_1<|é xE.eq_1<|é vK.eq_1 <|
 é fG.eq_1<|é vz.eq_1<|é TW.eq_1<|é vW.eq_def<|é YR.eq_def<|é vy.eq_def<|é fF.eq_def<|é ZU.eq_def<|é IK.eq_def<|é YW.eq_def <|
 é yC.eq_1<|é vM.eq_1<|é vt.eq_1<|é zg.eq_1<|é we.eq_1<|é wY.eq_1 <|
 é @Option.bind_some.{0,0} <| é @Option.bind_none.{0,0} <| é @List.getElem?_cons_zero.{0} <| é @List.getElem?_cons_succ.{0} <| é @List.set_cons_zero.{0} <| é @List.set_cons_succ.{0} <| é @List.map_cons.{0,0} <| é @List.map_nil.{0,0} <|
 é @List.cons_append.{0} <| é @List.nil_append.{0} <| é @List.length_cons.{0} <| é @List.length_nil.{0} <| é @List.replicate_zero.{0} <| é @List.replicate_succ.{0} <| é Úi<|é Bool.not_false <|
 é @decide_true<|é @decide_false<|é Bool.and_self<|é Śn Ŀf
open ľ ś ŋ L2
section
variable{α:Type}
theorem z1h:∀{ks:Á zY}{vs:Á α}(k:zY),Ń=đ->((Ûb).any λkv=>decide Ģj)=yr ks k
 | [],[],_,_=>rfl|k'::ks,v::vs,k,h=>by let a:=z1h (ks:=ks) (vs:=vs) k Ĉa;exact(decide Ék||((Ûb).any λkv=>decide Ģj))=(decide Ék||yr ks k);rw[a]
theorem UJ(k:zY):∀{ks:Á zY}{vs:Á V},Ń=đ->qw Ûb k=Ć ks vs k:=by
 intro ks
 induction ks with
 |nil=>intro vs _;cases vs<;>rfl|ð k' ks ih=>
  intro vs h;cases vs with
  |nil=>cases h|ð v vs=>by_cases e:k'=k;rw[čb,D9 (p:=(k',v)) e];exact _=Ëf;rw[Ï e];rw[čb,D8 (p:=(k',v)) e,ih šj];exact _=Ëf;rw[Ñ e]
theorem w15(k:zY)(v:V):∀(ks:Á zY)(vs:Á V),((Ûb).map λkv=>if kv.1=k then(kv.1,v)else kv)=Ňg ϒg:=by
 intro ks
 induction ks with
 |nil=>intro vs;rfl|ð k' ks ih=>
  intro vs;cases vs with
  |nil=>rfl|ð u vs=>rw[čb,ĵ,ih,úh,čb];by_cases e:k'=k;rw[Ï e,Ï e];rw[Ñ e,Ñ e]
theorem AF(h:Ń=đ):qB Ûb k v=(Ģe).zip áe:=by unfold qB wD wE;rw[z1h k h];by_cases c:yr ks k=Ä;rw[Ï c,Ï c,Ï c,w15 k v];rw[Ñ c,Ñ c,Ñ c,List.zip_append h];rfl
def W1(h:Ń=đ):(Ģe).length=(áe).length:=by
 unfold wD wE
 split;rw[ϰd,h,Ōb];rw[ì,ì,h];rfl
def NO(h:Ń=đ):(áe).length<=đ+1:=by
 unfold wE
 split;rw[ϰd,h,Ōb];show ūf _;rw[ì];show ĺ _
#print a
section
variable{K:Ô}{H:Hp}
theorem Ăp:∀{ks:Á zY}{ds:Á D}{vs:Á V}{k:zY}{d:D},ê K H ds vs->Ć ks ds k=À d->∃v,Ć ks vs k=À v/\zZ K H d v
 | [],_,_,_,_,_,e=>by cases e|_::_,[],_,_,_,_,e=>by cases e|k'::ks,d'::ds,_,k,d,r,e=>by
  let{v,h,rfl,g,f}:=r
  change (if k'=k then À d' else L3.getK ks ds k)=À d at e
  rw[Àq];show{v,by exact Ëf=_;rw[Ï c],g};rw[Ñ c]at e;let{u,b,a}:=Ăp f e;show{u,by exact Ëf=_;rw[Ñ c];show b,a}
theorem fX{α β:Type}:∀{ks:Á zY}{ds:Á α}{vs:Á β}{k:zY},ü=đ->Ć ks ds k=Å->Ć ks vs k=Å
 | [],_,_,_,_,_=>by unfold Ć;rfl|_::_,[],[],_,_,_=>rfl|k'::ks,d'::ds,v::vs,k,h,e=>by
  change (if k'=k then À d' else Ć ks ds k)=Å at e
  exact Ůk=Å;rw[Àq];rw[Ñ c]at e;rw[Ñ c];show fX Ĉa e
theorem Gm:∀{ks:Á zY}{vs:Á α}(k:zY),Ń=đ->(Ć ks vs k).isSome=yr ks k
 | [],[],_,_=>rfl|k'::ks,v::vs,k,h=>by let a:=Gm (ks:=ks) (vs:=vs) k Ĉa;exact(Ůk).isSome=(decide Ék||_);by_cases c:k'=k;rw[Ï c,ú c];rfl;rw[Ñ c,ď c,a];rfl
theorem ōj(hv:zZ K H d v):∀{ks:Á zY}{ds:Á D}{vs:Á V},ê K H ds vs->ê K H (õc (λk' x=>if k'=k then d else x) ks ds) ϒg
 | [],_,_,_=>rfl|_::_,[],_,r=>by rw[Čq];rfl|k'::ks,d'::ds,_,r=>by let{u,e,rfl,a,b}:=r;show{_,_,rfl,?_,ōj hv b};exact zZ K H (if k'=k then d else d') (if k'=k then v else u);rw[ēq];show hv;rw[Ñ c,Ñ c];show a
def Reps.put(r:ê K H ds vs)(hv:zZ K H d v):ê K H (wE ks ds k d) áe:=by
 unfold wE
 split;show ōj hv r;show ϒc (Ļe hv)
def YZ(h:uY x=À k)(r:zZ K H x u):u=kV k:=by
 cases x<;>first|(cases h;done)|skip
 cases h;show r;cases h;show(show u=_/\_ from r).1
#print a
section
variable{X:Cx}{K:Ô}
def oI:R2:=λx y H Q=>∃a kvs k v,x=.ref a/\y=kV k/\Rd H a ť/\qw kvs k=À v/\Q v H
def y0c:jT X oI:=by
 intro f b j s σ H x y v u Q I A B h w;let{a,c,k,z,rfl,rfl,e,l,q}:=h;cases A;let{_,_,m,g,p}:=kC Ě e;let{i,t,d}:=ϊf (v:=z) (o:=ěc m k) (by rw[<-l];show g.val k)
 show Ϸe (x:=i) (z67 I (.inl {c,k,e,rfl,rfl})) ϖk
  (Ŷm (Q:=λr n=>r=i/\EP X j σ Q r n) (ZY B) p.mapOf t {rfl,z,H,Òa _,d,q}) w
def oH(K:Ô):R2:=λx y H Q=>Nd K x y H Q\/oI x y H Q
def zU(_:Œa+1<ϛ):jT X (oH X.K):=y0d.or y0c
def zV:tj K (oH K) zJ:=λG H x y u v d Q s e f c q=>by
 cases x with
 |dic ks ds=>let{a,n,rfl,i,l,m,_}:=e;let{k,h,c}:=zH c;let{z,j,g}:=m.getK c;show .inr {a,_,k,z,rfl,YZ h f,Ϲb s i,by rw[UJ k l];show j,q _ _ _ þa g}
 |zO=>cases c|bl b=>cases c|int b=>cases c|str z=>show .inl (θb (.str z))|tup z=>show .inl (θb (.tup z))|lst z=>show .inl (θb (.lst z))|exc z=>cases c|obj z _ _=>cases c
def x3c(F:Œa+1<ϛ)(f:QE X Ϙb úb)(W:SE X b fb)(S:Î Åp q12):SE X (.Subscript Ϙb b pos) (e2 zJ (qP i) fb):=by
 let{tb,U,s}:=W.h;show{{_,BD (zU F) f.h U (BI S),λ{Z H0 G H τ σ d Q} E a q=>?_}};let{x,L,a}:=zH a;let{y,B,a}:=zH a;let{o,f}:=eW L;cases o with
 |Ã=>let{v,j,N}:=Ũa _ _ f;show{v,j,s E B λu t C c e=>zV t C x y v u _ _ c.gh (ϧj c.g) e a λw P T I Y=>q w P T (Ġb I) Y}
 |Ä=>
  let{p,j,_,_,o}:=ŧa _ _ f;show{_,j,s E B λu t C c e=>?_};cases x with
  |lst ds=>
   let{r,e1,m,_}:=o;cases y<;>first|(cases a;done)|skip
   rename_i i;let{w,R,n}:=Nh m a;cases e;show .inl (.inl {p,r,i,w,rfl,rfl,Ţa âo,R,q _ _ _ c (ņg c.g)})
  |dic ks ds=>let{r,e1,l,m,_}:=o;let{k,J,a}:=zH a;let{z,O,K}:=m.getK a;show .inr {p,_,k,z,rfl,YZ J e,.inl âo,by rw[UJ k l];show O,q _ _ _ c (K.mono c.g)}
  |_=>show Ĩc
def Nc(b:Ð):R2:=λx y H Q=>∃a kvs k,y=.ref a/\x=kV k/\Rd H a ť/\Q (.bl (if b then !(qw kvs k).isSome else(ϕf).isSome)) H
def y7q(c:Œa+1<ϛ):xD X Ğe (Nc Ã):=by rw[âq];show z5z c I Œl f λj d=>{.bl _,H,d,rfl,q}
def y7x(c:Œa+1<ϛ):xD X Śf (Nc Ä):=by rw[âq];show z61 c I Œl f λj d=>{.bl _,H,d,rfl,q}
def OP(K:Ô)(a:Ð):R2:=λx y H Q=>Nb K a x y H Q\/(∃i j,x=.str i/\y=.str j/\Q (.bl (if a then !(!(Äf j i 0 ģa 1).isEmpty)else !(Äf j i 0 ģa 1).isEmpty)) H)\/Nc a x y H Q
def pO(a:Œa+1<ϛ):xD X Ğe (OP X.K Ã):=y7r.or (y7s.or (y7q a))
def N6(a:Œa+1<ϛ):xD X Śf (OP X.K Ä):=y7y.or (y7z.or (y7x a))
theorem BW(c:xw x=Ä)(e:zZ K H x u):∀{ys:Á D}{vs:Á V},ê K H ys vs->ϟc xw=Ä->vs.all je=Ä/\Mf u vs=ys.any λy=>xf y x
 | [],_,r,_=>by rw[Čq];show{rfl,rfl}|y::ys,_,r,h=>by let{v,g,rfl,d,f}:=r;rw[ϔ,Ď]at h;let{a,b}:=BW c e f h.2;refine{by rw[ϔ,Vw h.1 d,a];rfl,?_};exact(jC v u||Mf u g)=(xf y x||_);rw[OQ h.1 c d e,b]
theorem i7(d:zZ K H x u)(f:zZ K H y v)(b:GN x y=À k)(q:Q (.bl (if neg then !k else k)) H):OP K neg u v H Q:=by
 cases y with
 |lst ys=>
  let{a,g,rfl,e,h,_}:=f
  rw[íq]
  cases c:ġn with
  |Ã=>rw[c]at b;cases b|Ä=>rw[c]at b;cases b;rw[Ď]at c;let{m,n}:=BW c.1 d h c.2;show .inl {a,g,rfl,.inl e,Vw c.1 d,m,by rw[n];show q}
 |tup ys=>
  let{a,g,rfl,e,h,_}:=f
  rw[íq]
  cases c:ġn with
  |Ã=>rw[c]at b;cases b|Ä=>rw[c]at b;cases b;rw[Ď]at c;let{m,n}:=BW c.1 d h c.2;show .inl {a,g,rfl,.inr e,Vw c.1 d,m,by rw[n];show q}
 |str j=>
  cases x<;>first|(cases b;done)|skip
  rename_i i;cases b;show .inr (.inl {i,j,(show u=_/\_ from d).1,(show v=_/\_ from f).1,q})
 |dic ks ds=>let{o,p,b}:=zH b;cases b;let{a,g,rfl,e,l,h,_}:=f;show .inr (.inr {a,_,o,rfl,YZ p d,e,?_});rw[UJ o l,Gm o l];show q
 |_=>cases b
def pL:gx K (OP K Ã) xT:=λH x y u v d Q e c a=>by rw[Ŗq]
def N4:gx K (OP K Ä) Xm:=λH x y u v d Q e c a=>by rw[Ŗq]
def Q7:SF X Ům Ãf:={{_,y8q,λ{c e G H τ σ d Q} E b q p a=>by cases b;show q p G _ (Ŀa Ŵa a) a (E.ext.gh.free a) {[],yq,rfl,rfl,Ź _}}}
def QC(t:Œa+1<ϛ)(C:QE X Ž úb)(hk:SE X k fk)(hv:SE X v fv)(J:Î (Ψb Ŕl) q12) :SS X öm (jo i fk fv):=by
 let{W,Q,O}:=Ád;let{R,s,L}:=Àd;show{{_,nM t C.h Q s J,λ{T H0 G H τ σ fl E} K b q=>?_}};let{y,N,b}:=zH b;show L K N λw S Y I P=>?_
 rw[Ņq];rename_i ks n p;let{xk,F,b}:=zH b;let{d,e,b}:=zH b;by_cases c:Ń<yX;rw[Ϲp];let j:=Ôa I;let{a,o,g,z,vs,B,l,m,hl}:=j.ow _ _ p;show{_,o,O j F λu Z H2 f r=>{a,_,rfl,.inl {_,d,f.h _ _ B,YZ e r,?_,rfl},?_}};rw[íc,l,Ōb,ū,<-l];show c;show q _ _ _ ((j.go f).J1 p o {wE ks vs d w,?_,W1 l,(Ϙj f.g).put (P.mono f.g),?_});rw[yq,AF l];let U:=NO (ks:=ks) (vs:=n) (k:=d) (v:=y) (by rw[l,Ľd]);have h2:ţb<16777216:=by rw[<-Ľd,<-l];show c
 rw[ū];omega;rw[ϸp];cases b
inductive Y8(w:æ):Á Ċc->Á Ç->Á Value->È
 |nil:Y8 w [] [] []
 |ð {x:Ç} {t:Tok} {v:Value} {es:Á Ċc} {xs:Á Ç} {vs:Á Value} (r:Y8 w es xs vs):Y8 w (⟨ĉn w.params x,.str x t,v⟩::es) όa (v::vs)
def Y8.pairs:∀{es:Á Ċc}{xs:Á Ç}{vs:Á Value},Y8 w es xs vs->Pairs æb es ((ģc Âc).zip vs)/\(∀e∈es,∃k,(æb).is k e.key=Ä/\e.hash=(æb).hash k):=λ{es xs vs} h=>by
 induction h with
 |nil=>show{.nil,λ_ h=>(şe).elim}|@cons x t _ _ _ _ r ih=>let{a,b}:=ih;show{.cons (Ks P w x t) rfl a,λe h=>?_};rcases ĩ h with rfl|h;show{.inr x,Ks P w x t,rfl};show b e h
def Y8.len{w:æ}{es:Á Ċc}{xs:Á Ç}{vs:Á Value}(h:Y8 w es xs vs):ë=đ:=by
 induction h with
 |nil=>rfl|ð _ ih=>rw[Ĉ,Ĉ,ih]
theorem y1b(r:zo us vs):∀{ks:Á zY},Ń=èa->KV Ąe Ûb:=by
 induction r with
 |nil=>intro ks _;rw[Ćm,Ćm];show .nil|ð r _ ih=>
  intro ks h;cases ks with
  |nil=>show .nil|ð k ks=>show .cons {rfl,r} (ih šj)
theorem z1i:∀{ks:Á zY}{vs:Á Value},Ń=đ->(Ûb).map (·.1)=ks
 | [],[],_=>rfl|k::ks,v::vs,h=>by rw[čb,ĵ,z1i Ĉa]
#print a
nonrec def Bf:D->É ϋa
 |.lst xs=>À xs|.tup xs=>À xs|_=>Å
def Tc(a b:FE):FA:=λσ=>(Óa).bind λx=>(űd).bind λy=>(Bf x).bind λd=>(Bf y).bind λc=>À (õc ϖm d c)
section
variable{K:Ô}{G H:Hp}
def rf(h:Bf x=À xs)(r:zZ K G x u):∃t a vs,u=.ref a/\qi K t G a vs/\ê K G xs vs/\ë<=ä:=by
 cases x<;>first|(cases h;done)|skip
 cases h;let{a,vs,rfl,b,c,l}:=r;show{Ä,a,vs,rfl,b,c,l};cases h;let{a,vs,rfl,b,c,l}:=r;show{Ã,a,vs,rfl,b,c,l}
def W6(s:yF H H')(h:qi K t H a vs):qi K t H' a vs:=by cases t;show ut s h;show t9 s h
def w16(g:qi K t1 G a vs)(h:qi K t2 G b us)(l:ê K G xs vs)(j:ê K G ys us):k7 K Žh G (õc ϖm xs ys) where
 go:=λi e H d c f=>by rw[ϰd]at f;let{v,e1,_}:=l.get (Đ (show i<ë by omega));let{u,e2,_}:=ŧg (Đ (show i<Ŭ by omega));show{vs,us,v,u,W6 ġc g,W6 ġc h,e1,e2}
 tW:=λi e H x A d c f y=>by let{p,m,rfl,k}:=y;let{v,u,e1,e2,rfl}:=k vs us (W6 ġc g) (W6 ġc h);let{t,q,s}:=l.at e1;let{r,z,w}:=j.at e2;refine{ze e p ïo,.tup [t,r],ğc c m,by rw[ŝl,q,z],?_};let o:yF G (ze e p ïo):=šc (t8 (c.free m) _);show{p,[v,u],rfl,ϲc yq,{v,_,rfl,s.mono o,{u,_,rfl,w.mono o,rfl}},ÿb (n:=2) Ò}
 Ϡ:=λi e H d c f=>by rw[ϰd]at f;show{vs,us,W6 ġc g,W6 ġc h,?_};rw[Ĕc,ģa];omega
#print a
section
variable{X:Cx}{a b e o:Ö}{fa fb f:FE}{p pos:Pos}
def sH(Q:Gl X ŀa)(C:ñ ŀa=Å)(S:SE X a fa)(B:SE X b fb)(n:Î Đe q12)(d:Î ϫo q12):SI X ôm ϩg (Tc fa fb):=by
 let{t,E,k}:=(zD S (zD B zP d) n).h;show{{_,(x0e Q C {E} n d).h,λ{W H0 G H τ σ ds R} K c q=>?_}};let{x,z,c}:=zH c;let{y,A,c}:=zH c;let{xs,g,c}:=zH c;let{Y,e,c}:=zH c;cases c;refine k K (ds:=Êc) (by unfold zC;rw[z,A];rfl) λT U H1 j O=>?_
 let{v,r,rfl,F,{Z,s,rfl,l,I}}:=O;cases(show s=[]from I);let{u,N,f,rfl,o,L,l1}:=rf g F;let{w,J,i,rfl,m,P,l2}:=rf e l;show{N,J,f,i,u,w,rfl,W6 j.gh o,W6 j.gh m,q _ _ _ j ?_ (w16 o m L P)};rw[ϰd];omega
abbrev FO:=zw->É (É Æ)
nonrec def kR:FO:=λ_=>À Å
nonrec def kS(f:FE):FO:=λσ=>(f σ).bind λd=>match d with
 |.int i=>À (À i)|_=>Å
def VG(xs:Á α)(lo hi:É Æ):Á α:=(ğl).take Çl
def MR(d:D)(lo hi:É Æ):É D:=match d with
 |.lst xs=>À (Β åi)|.tup xs=>if ř ë 0 lo=0/\ř ë ë hi=ë then Å else À (.tup åi)|.str z=>À (.str Ĵn)|_=>Å
def kE(a:FE)(lo hi:FO):FE:=λσ=>(Óa).bind λd=>(lo σ).bind λl=>(hi σ).bind λh=>MR d l h
structure SO(X:Cx)(e:É Ö)(f:FO):È where
 h:∃t,PO X e t/\∀{G0 H0 G H:Hp}{τ:zw}{σ:St}{d:É Æ}{Q:É Æ->Hp->È},zu X.K ò G0 H0 G H τ σ->f τ=À d->(∀G' H',zT G H G' H'->Q d H')->t σ H Q
def Oj:SO X Å kR:={{_,y9o,λE a q=>by cases a;show q _ _ ϧb}}
def Ol(h:SE X e f):SO X (À e) (kS f):=by
 let{t,b,k}:=h.h;show{{_,y9p b,λ{i j G H τ σ d Q} E a q=>?_}};let{x,c,a}:=zH a;cases x<;>first|(cases a;done)|skip
 cases a;show k E c λv l g x r=>{_,r,q _ _ x}
def Reps.cut{K:Ô}{G:Hp}{ds:Á D}{vs:Á V}(r:ê K G ds vs)(lo hi:É Æ):ê K G (VG ds lo hi) (Xi vs lo hi):=by unfold VG Xi;rw[ϊ];show(ϔj _).take _
def e9(xs:Á α)(lo hi:É Æ):(åi).length<=ë:=by unfold VG;rw[äa,ňa];show ÿ Ãg Ŋa
def x0x(K:Ô):V->É Æ->É Æ->Hp->VK->È:=λx b a H Q=>oP K x b a H Q\/oR K x b a H Q\/oQ x b a H Q
def x45:YE X (x0x X.K):=x46.or (x48.or x47)
def Og{lo hi:É Ö}{w fh:FO}{p2:Pos}(L:SE X a fa)(r:SO X lo w)(k:SO X hi fh):SE X (.Subscript a đh pos) (kE fa w fh):=by
 let{W,J,y}:=L.h;let{R,F,B}:=r.h;let{U,A,I}:=k.h;show{{_,y90 x45 J F A,λ{O Y G H τ σ d Q} E b q=>?_}};let{x,C,b}:=zH b;let{l,r,b}:=zH b;let{h,k,b}:=zH b;show y E C λv N P o K=>B (ţa o) r λS Z u=>I ((ţa o).go u) k λT H3 e=>?_
 let n:=o.trans (đg e);let t:=K.mono (u.g.trans e.g);cases x with
 |lst xs=>cases b;let{a,m,rfl,s,j,f}:=t;refine .inl {a,m,rfl,ut e.gh s,λp i=>q _ _ _ ċm {p,_,rfl,Ţa yq,(Ŝo).mono (t8 (ϰf i) _),ÿ (e9 ..) f}}
 |tup xs=>
  change (if ř ë 0 l=0/\ř ë ë h=ë then Å else À (ύ (VG xs l h)))=À d at b
  by_cases c:ř ë 0 l=0/\ř ë ë h=ë;rw[Ϲp];rw[ϸp];let{a,m,rfl,s,j,f}:=t;refine .inr (.inl {a,m,rfl,t9 e.gh s,by rw[ģa];show c,λp i=>?_});show q _ _ _ ċm {p,_,rfl,ϲc yq,(Ŝo).mono (t8 (ϰf i) _),ÿ (e9 ..) f}
 |str z=>cases b;let{rfl,f}:=t;show .inr (.inr {z,rfl,f,q _ _ _ n {rfl,ÿ (œe ..) f}})
 |_=>cases b
nonrec def VM:Á D->É D
 | [.lst xs]=>À Ϩ| [.tup xs]=>À Ϩ|_=>Å
nonrec def IL:Á D->É D
 | [.lst xs]=>À Ŗa| [.tup xs]=>À Ŗa|_=>Å
def pR{K:Ô}{G:Hp}{d:D}{vs:Á V}(r:ê K G [d] vs):∃v,vs=[v]/\zZ K G d v:=by let{v,c,rfl,b,a}:=r;cases(show c=[]from a);show{v,rfl,b}
def Rq{fs:FA}(w:Gl X Ĩ)(n:ñ Ĩ=Å)(x:SA X [e] fs)(s:Î Ča q12):SF X (δb Ϙn) (eL VM fs):=by
 let{t,r,k}:=x.h;refine{{_,(Vv z4z w n M6 {r} Ò Ò Ĩm).h,λ{A B G H τ σ d Q} E c q=>?_}};let{o,u,c}:=zH c;show k E u λy z C b m=>?_
 match o,c with
 | [.lst xs],c=>cases c;let{v,rfl,a,g,rfl,i,j,l}:=pR m;show{a,g,rfl,.inl (ut b.gh i),λp f=>q p _ _ Čm äo ϋn {g,yq,j,l}}
 | [.tup xs],c=>cases c;let{v,rfl,a,g,rfl,i,j,l}:=pR m;show{a,g,rfl,.inr (t9 b.gh i),λp f=>q p _ _ Čm äo ϋn {g,yq,j,l}}
def mR{K:Ô}:cZ K (Νd ((ya K H p ys/\∀l,H l=Å->Q Ũb Åo)\/(xP K H p ys/\Q Ŵ H))) IL:=λG H h i d Q s r b q=>by
 match h,b with
 | [.lst xs],b=>cases b;let{v,rfl,a,c,rfl,e,f,l}:=pR r;show{a,c,rfl,.inl {ut s e,λp g=>q _ _ _ (ğc s g) {p,c,rfl,ϲc yq,f.mono (t8 (łg g) _),l}}}
 | [.tup xs],b=>cases b;let{v,rfl,a,c,rfl,e,f,l}:=pR r;show{a,c,rfl,.inr {t9 s e,q _ _ _ þa {a,c,rfl,e,f,l}}}
def Io(x:D):Á D->Â->É Â
 | [],_=>Å|y::ys,n=>match xf y x with
  |Ä=>À n|Ã=>Io x ys ħ
def z6x:D->D->É D
 |.lst ys,x=>match xw x&&ϟc xw with
  |Ä=>(Io x ys 0).bind λn=>À Ŋe|Ã=>Å
 |_,_=>Å
theorem iO:∀{ys:Á D}{n m:Â},Io x ys n=À m->∃j y,m=n+j/\ys[j]?=À y/\xf y x=Ä/\∀i z,i<j->ys[i]?=À z->xf z x=Ã
 | [],_,_,h=>by cases h|y::ys,n,m,h=>by
  change (match xf y x with|Ä=>À n|Ã=>Io x ys ħ)=À m at h
  cases c:xf y x with
  |Ä=>rw[c]at h;cases h;show{0,y,rfl,rfl,c,λi z a=>Þ a æd}|Ã=>
   rw[c]at h;let{j,d,e1,e2,e,f}:=iO h;refine{j+1,d,by omega,by simpa using e2,e,λi z a b=>?_};cases i with
   |ŏ=>cases b;show c|ş i=>show f i z Ê Àe
def sQ(s:Lo X op ti)(B:tj X.K ti F)(n:éa)(hi:X.N[i]?=À x)(c:qN Ϲ x)(C:SE X e f)(a:Î ũa q7) :SS X (.AugAssign Ìe op e pos) (zl i (e2 F ϳj f)):=by let{t,o,k}:=C.h;show{{_,nK n hi c o s a,λ{O P G H τ σ Q E} K a q=>?_}};rw[ļq];let{y,l,b}:=zH b;let{v,r,A}:=K.fr _ _ (GF c);show{v,r,k K l λu p I j z=>B p I x y v u d _ j.gh ìo z b λw L R J m=>?_};show q _ _ _ (((Śj).go J).set éb.1 m)
def N2{K:Ô}:tj K Ûn īf:=λG H x y u v d Q s c b a q=>by
 cases x<;>first|(cases a;done)|skip
 cases y<;>first|(cases a;done)|skip
 rw[àq]
def x4w(b:éa)(hi:X.N[i]?=À x)(g:qN Ϲ x)(j:SE X e f)(l:Î ώg q12)(a:Î ũa q7):SS X ļc (zl i f):=by let{t,p,k}:=j.h;show{{_,(x0f b hi g {p} l a).h,λ{n o G H τ σ s E} K a q=>?_}};rw[öq];show k K c λv u m x r=>q _ _ _ Žl
variable{x:Ç}{ps:Á Ç}{j k:Â}{FF:Á D->É å}
def x38(h:wu ö X.w X.K ñ Ľ x ps k ăe)(c:yk j X.A)(B:Gl X x)(hk:Î ϻa q10)(e:Î ō q10):SE X Źl (zg FF zF):=by
 let{f,L,n,z,b,F}:=h;show{{_,y8i F (Ũd hk) B n z b .nil Yj e,λ{I J G H τ σ d Q} E a q=>?_}};let{C,y,a}:=zH a;cases y;obtain⟨⟨o,d⟩,c,a⟩:=zH a;cases a;show{G,[],o,d,Ŵa,rfl,c,?_};cases o with
 |Ã=>show λv m i g r=>q v m i g r|Ä=>intro p m i g t l o;let{u,s,r}:=o.yj l;show q _ _ _ (g.yj t l s) r
#print a
def FR(n N:Â)(b:FS)(ds:Á D):É å:=if ü=n then yL N b ds else Å
def yT:∀ds r,FR n N b ds=À r->ü=n/\yL N b ds=À r:=λds r h=>by
 unfold FR at h
 rw[šq]
theorem z0c{M:Źd}{A:ù}{E:Value->Í->È}{z6:Ú Value}{x:Value}{e:Value->Ð}{j:Â}(k:∃ă w,M=model ă w)(g:j<ń)(a:e z6[j]=Ä)(d:∀m (l:m<ń),m<j->e z6[m]=Ã){s:Í}(f:∀y∈z6,Řb A s y x (e y)){Q:É ϱi×ïa->Í->È}(h:Q (À (.done óm),()) { s with Ĕ:=ē+1 }):∀m i:Â,i+m=ń->i<=j->
  Ù M A (ĭb (Äm i m) ((Å,()):É ϱi×ïa) λ(i:Â) (_:É ϱi×ïa)=>match z6[i]? with
   |À y=>do
    let ϵf <-eqBool y x
    if ϵf=Ä then do
      let ϵf <-retInt (i:Æ)
      pure (ForInStep.done (À ϵf,()))
     else pure Ėn
   |_=>pure Ėn) Q E s
 |0,i,h1,h2=>by omega|m+1,i,h1,h2=>by
  let{ă,w,rfl}:=k;let b:i<ń:=by omega
  rw[žm,ϑh];show Ó ?_;rw[Ŀc b];show Ó (f _ (Array.getElem_mem b) ă w E _ ?_);by_cases c:i=j;subst c;rw[a,Ï rfl]
  wp_walk
  show h;rw[d i b Ê,Ñ Ò];show ó ?_;show z0c {ă,w,rfl} g a d f h m î Ê Ê
def x7g(t:Ë)(z6:Ú Value)(x:Value)(e:Value->Ð)(j:Â)(c:j<ń)(b:e z6[j]=Ä)(i:∀m (q:m<ń),m<j->e z6[m]=Ã) :Meets (Builtin.«tuple.index» {[.ref t,x],[]}) (λA R s=>Įb â t z6/\(∀y∈z6,Řb Çb s y x (e y))/\R (.ok óm) { s with Ĕ:=ē+1 }):=by
 intro a w A R s h;let{r,g,d,z,p}:=s;obtain⟨⟨o,u,v,n,f⟩,k,h⟩:=h;unfold Builtin.«tuple.index»
 wp_walk
 skip
 rw[f];show ó ùa;exact Ù _ _ (pure 0 >>= _) _ _ _;show Ó (Βa Êj);rw[Std.Legacy.Range.forIn_eq_forIn_range'];let l:řl [0:min ń ń]=ń:=by simp[řl]
 rw[l];show z0c {a,w,rfl} c b i k ?_ ń 0 Ê Ê;show ó h
section
variable{X:Cx}{e o k v:Ö}{f fo fk fv:FE}{x:Ç}{xp p Åa Ϯ:Pos}
def y30:TC X "tuple.index" (λx vs H Q=>∃(a:Ë) (us:Á V) (y:V) (j:Â) (u:V),x=.ref a/\vs=[y]/\xP X.K H a us/\je y=Ä/\us.all je=Ä/\us[j]?=À u/\jC u y=Ä/\(∀i z,i<j->us[i]?=À z->jC z y=Ã)/\Q Ľn H):=by
 intro Y s σ H x xs v R Q I P L h;let{a,us,y,j,u,rfl,rfl,S,G,p,o,n,J,q}:=h;cases P;let{w,rfl,U}:=qG L;let{b,r,B,Z}:=Þa S;let C:=ϊ;let O:j<èa:=(Ŀ o).1
 let d:∀(i:Â)(z:V)(g:i<ĕb),us[i]?=À z->qQ y çb[i]=jC z y:=λi z g E=>by
  let{t,A,T}:=Äb E
  let e:çb[i]=t:=by let N:b[i]?=À b[i]:=Đ (by rw[Ĭ]at g;show g);rw[N]at A;simpa using A
  rw[e];show GH T (âa p z (ώ E))
 have f:j<ĕb:=by rw[Ĭ,<-C];show O
 refine őc Ęl B.typeIs PySem.F.entry_tuple_index (PySem.F.args_tuple_index_2 _ _) (x7g a çb w (qQ y) j f (by rw[d j u f o];show n) λm l k=>?_) {B,λt W=>?_,{.int j,H,Òa _,{_,rfl},q}};have c:m<èa:=by rw[Ĭ,<-C]at l;show l
 rw[d m us[m] l ŭj];show J m _ k ŭj;show Tk U G r p t (by simpa using W)
def CD(K:Ô)(A:Ë):È:=∃o,Àa A=À o/\Åb=.type Ϗ/\ůe=Å
def fH(ds:Á D)(y:D):É D:=z6x èj y
def x3b(h:v6 ñ x ćg)(r:∀H,zZ X.K H âj ćg)(S:CD X.K A)(hg:Gl X x)(P:SE X e f)(hd:Î ō q10)(l:Î (Đb Ž "index" Û ńf=Ĥ Ž Û) q12)(k:Î Ĺb q12)(p:Î Ča q12) :SE X (ηb (.Attribute Ž "index" Åa)) (e1 (fH ds) f):=by
 let{te,O,W}:=(zD P zP p).h;refine{{_,(OL PySem.F.plainAttrs_tuple Ęl PySem.F.type_tuple_index y30 (x0d h hg hd) {O} l k (by rw[ϔ,p];rfl) ϣd).h,λ{G0 H0 G H τ σ d Q} E b q=>?_}};let{y,Y,b}:=zH b;refine{.inr (.inl {rfl,S}),W E (ds:=[y]) (by unfold zC;rw[Y];rfl) λws U H2 v B=>?_};let{w,rfl,g}:=pR B;let{a,L,N,sq,m,_}:=r U;cases N
 change (match xw y&&ds.all xw with|Ä=>(Io y ds 0).bind λn=>À (ę n)|Ã=>Å)=À d at b
 cases c:(xw y&&ds.all xw)with
 |Ã=>rw[c]at b;cases b|Ä=>
  rw[c]at b;let{n,R,b}:=zH b;cases b;rw[Ď]at c;let{j,z,e1,e2,J,T}:=iO R;rw[Ķ]at e1;subst e1;let{u,I,Z}:=m.get e2;let s:∀{i:Â}{z:D},ds[i]?=À z->xw z=Ä:=λ{i z} o=>âa c.2 z (ώ o)
  refine{A,L,w,n,u,rfl,rfl,t9 v.gh sq,Vw c.1 g,(BW c.1 g m c.2).1,I,by rw[OQ (s e2) c.1 Z g];show J,λi z C o=>?_,q _ _ _ v rfl};let{dz,t,rd}:=m.at o;rw[OQ (s t) c.1 rd g];show T i dz C t
def x3a(J:Œa+1<ϛ)(L:SE X o fo)(hk:SE X k fk)(hv:SE X v fv)(m:M2 X o "get" Åa k v Ϯ):SE X (.Call ħl [k,v] [] Ϯ) (GE fo fk fv):=by
 let{to,S,K}:=L.h;let{tk,Y,T}:=Ád;let{Z,F,P}:=Àd;show{{_,y8p J S Y F m,λ{G0 H0 G H τ σ d Q} E b q=>?_}};let{x,N,b}:=zH b;show K E N λw G1 H1 f W=>?_
 cases x with
 |dic ks ds=>
  let{y,R,b}:=zH b;let{z,O,b}:=zH b;let{e,j,b}:=zH b;cases b;let{a,I,rfl,B,l,t,_}:=W;show{a,rfl,.inl {_,Ϲb f.gh B},T ŗj R λu G2 H2 i C=>P ((ŗj).go i) O λw' G3 H3 n U=>?_};show{qw (Ňg I) e,.inl {_,e,Ϲb (f.gh.trans (i.h.trans n.h)) B,YZ j C,rfl},?_};rw[UJ e l];let s:=t.mono (ϡi n.g);cases c:Ć ks ds e with
  |Å=>rw[c]at q;rw[fX (by rw[Šb]) c];show q _ _ _ űl U|À d'=>rw[c]at q;let{z',r,p}:=s.getK c;rw[r];show q _ _ _ űl p
 |_=>cases b
nonrec def vV(i:Æ):Â:=ϳd i
def GR:D->D->É D:=fI (λi j=>decide (vV i+vV j<=134217728)) (·*·)
def y7u:xD X ļi ŋk:=Tt λi j _ _ _ _ _ a q=>mul_int q (by unfold IntMulOk;intro h;rw[Ď]at h;let b:decide (((ϳd i+ϳd j:Â):Æ)>(134217728:Â))=Ä:=h.2;let d:=š b;let c:ϳd i+ϳd j<=134217728:=a;omega)
def y6p{K:Ô}:tj K ŋk GR:=Vo λ_ _ h=>š h
#print a
open Ŏj
theorem z15:∀{ns:Á Æ}{m:Æ},m∈ns->vV m<=þd Ņc
 | [],_,h=>by cases h|n::ns,m,h=>by
  let e:þd ((Ĵg).map Ϫi)=vV n+1+þd Ņc:=by exact þd (Ϫi n::Ϥ Ϫi)=_;rw[þd];rfl
  rw[e];rcases ĩ h with rfl|h;omega;let:=z15 h;omega
def y1n{ns:Á Æ}(h:WData.layableAll [.list Ņc]=Ä):∀m∈ns,vV m<=1048576:=λm b=>by
 let a:őn ŏi=Ä:=âa h _ όg;unfold őn at a;rw[Ď]at a;let d:Ăi ŏi<=2 ^ 20:=š a.2;let e:=z15 b;let c:Ăi ŏi=þd Ņc:=by rw[Ăi]
 omega
section
variable{K:Ô}
def Om(K:Ô):Sp:=λb H Q _=>∃(a:Ë) (ns:Á Æ),b=ϲ/\ya K H a Ϩa/\ţ<=63/\(∀m∈ns,vV m<=1048576)/\∀H',Q İ H'
#print a
def walkB{l:Ϯi}{n k:Â}{q:ï}{i:Á Ç}{XP:ųh->Heap->È}{P:æ->Heap->È}{d:DefRec}{K:ōg->Ô}{sp:Ô->Sp}{x:Ç}(hn:ϙj=À n)(J:n<=ä)(I:Ľm=[])(hr:yk k ŕd)(hY:∀(w:æ)(h:Heap),P w h->(Ŏb).In h)(F:∀(w:æ)(j:Ç->É Value)(C:Ë)(h:Heap),(Ŏb).In h->ėa Ę j->j d.name=À Ŧ->
   ∃fd:Ņ,(∀(s:Í)(u:Value),Ħb s fd {[u],[]} [(x,u)])/\∀Ì:Heap,(Ŏb).In Ì->Ŗd Ę j->xc ņ w Ŏb j Ì xS k C fd [x] (sp Ŏb))
  (L:∀(K:Ô)(H:Hp)(a:Ë)(ns:Á Æ),ţ<=n->(∀m∈ns,vV m<=1048576)->ya K H a Ϩa->sp K ϲ H Đm λ_ _ _=>Ā) :
  W.WalkO q i XP P ýi d [] ĉl:=by
 intro w s0 s1 j mb A Y C o pm cd doc U kV ho hd S O E hg N Q as B p hrd G Z;let e1:U=.none:=Dflts.none O I;let e2:kV=.none:=Dflts.noKw O;subst e1 e2;let{a,vs,ns,rfl,rfl,y,e,c}:=Att.script_of hn B G;let R:=hY w _ Y;let{fd,hb,hF}:=F w j C _ R A.T.g E;let t:=y1l R A.T.g A.T.b A.T.builtins A.T.nolimit hg y e (ÿ c J) hr hF hb (λH _ hS=>L _ H a ns c (y1n p) hS) (λ_ _ _ z=>z);show enter_call (éd t λr s' hq=>?_);let{rfl,h2,X,h4}:=hq;show{.inl {.bool Ä,.bool Ä,[],rfl,λ_=>rfl,.bool Ä,Att.post_true l _,λ_=>?_},h2,X,h4};show{čf,λ_ hm=>nomatch hm}
#print L3
namespace L3
open ľ ś ŋ L2
def z72{ă:ï}{w:æ}{A:ù}{E:Value->Í->È}{s:Í}{a:Ë}{o:Obj}{xs:Ú Value}{k:Â}{Ĳ:Ç}{Q:É Value->Í->È}(r:ø a=À o)(p:Åb=.type Ĩ)(f:ϸ=.seq xs k)(q:ůe=Å)(j:Űo Ĝa Ĳ=pure Å)(i:(["__module__",Ŝi,"__qualname__","__doc__","__annotations__"]:Á Ç).contains Ĳ=Ã)(z:ča=Å)(h:∀h' tk,(∀b ob,ø b=À ob->ċ b=À ob)->Q Å { s with ç:=h',Ĕ:=tk })(hsz:name.length+100<=ä) :Ù è A (getAttr? (.ref a) Ĳ) Q E s:=by
 let{c,y,v,t}:=o;simp only at p f q;subst p f q;let{x,g,d,tk,u}:=s;let n:∀m,({x,g,d,m,u}:Í).TypeIs Ŗ Ĩ:=λ_=>{_,r,rfl}
 let B:=sub_AttributeError;let H:=PySem.F.slot_list_getattribute.lookup;let C:=PySem.F.slot_list_getattribute.bind Ŗ;let G:=am_list_getattr_none;unfold getAttr? getAttrBy? getAttrBy
 repeat (any_goals (first|assumption|show n _|((with_reducible exact Ù _ _ (ĳb (Value.builtin "list.__getattribute__") _ _) _ _ _);show őc PySem.F.slot_list_getattribute (n _) am_entry_list_getattribute (F.args_list_getattribute_2 _ _) (meets_getattribute_miss_list a xs k t Ĳ _ j i hsz) ⟨r,z,λh' m e l=>?_⟩)|wp_step))
 let{J,K,I}:=l.there;exact Ù _ _ (ÿm _ _ _ _ _ _ _) _ _ _;unfold ÿm
 repeat (any_goals (first|assumption|wp_step))
 show h _ _ l.keeps
def BJ:plainId üm=Ä:=by rw[Ϩp]
def f6:ág Ťg üm=À Builtin.«dict.update.loop»:=entryFor_of_fast ņb
def _root_.PySem.Heap.DictOf.FI{ă:ï}{w:æ}{h h':Heap}{a:Ë}{kvs:Á ŏa}(b:Ĵe öa a kvs)(k:∀o,Ğ a=À o->ċ a=À o):ϯf öa a kvs:=
 let ⟨o',es,ep,ho,r⟩:=b;{o',es,ep,k _ ho,r}
def x56(kvs:Á ŏa)(k:zY)(v:Value):(Ħc kvs k v).length<=Ō+1:=by
 unfold Ħc
 split;rw[ã];rw[Þq]
def C9(h:Heap)(v:Value)(k:zY)(x:Value):È:=∃b key,v=.ref b/\t_ k key=Ä/\Įb h b #[key,x]
theorem z0l{ă:ï}{w:æ}{A:ù}{R:ūd->Í->È}{d it l:Ë}{its:Á Value}(hA:ča=Å)(I:d≠l)(B:d≠it)(F:l≠it) :∀(kvs:Á ŏa) (i:Â) (acc:Á ŏa) (s:Í),ļm it l i->Ði l ϥ->i+Ō=Ϫa->(∀j kv,kvs[j]?=À kv->∃v,its[i+j]?=À v/\C9 â v kv.1 kv.2)->
   s.heap.DictOf öa d acc->žo+Ō<=ä->(∀h' tk,ϯf öa d (ñp (λa kv=>Ħc a kv.1 kv.2) acc)->(∀b o,b≠d->b≠it->ø b=À o->ċ b=À o)->R ϓp { s with ç:=h',Ĕ:=tk })->
   Ù è Çb (Builtin.«dict.update.loop» {[.ref d,.ref it,ϑ i,.none],[]}) (λfin s'=>match fin with|.done f=>R (.ok f) s'|.again c'=>c'.quiet=Ä/\ĥb è A c' R s') (λe s'=>R (.error e) s') s
 | [],i,acc,s,st,hl,hn,hp,hd,hz,h=>by unfold Builtin.«dict.update.loop»;refine Ó (Ðh (by show hA) st hl čl λh' eb=>?_);exact Ù _ _ (Builtin.Dict.addKeywords d [] >>= _) _ _ _;show Ó Ëj;show h h' ē (hd.FI λo e=>eb d o B e) (λb o _ hb e=>eb b o hb e)|kv::kvs,i,acc,s,st,hl,hn,hp,hd,hz,h=>by
  let{v,hv,b,key,rfl,hk,ht}:=hp 0 kv rfl;unfold Builtin.«dict.update.loop»;refine Ó (Êh st hl (x:=.ref b) Įh λh1 P sb=>?_);let m:∀c o,c≠it->ø c=À o->ŉj c=À o:=λc o N e=>(sb.2 c N).trans e
  let p:∀{c:Ë}{q:Ú Value},Įb â c q->c≠it:=λ{c q} t e=>by subst e;let{o,e1,X,_}:=t;let{o',e2,L,_}:=st;rw[e1]at e2;cases e2;rw[X]at L;show Þ (Ĉn L) Ò
  let J:∀{c:Ë}{q:Ú Value},Įb â c q->c≠d:=λ{c q} t e=>by subst e;let{o,e1,X,_}:=t;let{o',es,ep,e2,L,_}:=hd;rw[e1]at e2;cases e2;let c3:=L.1;rw[X]at c3;show Þ (Ĉn c3) Ò
  let{o,ho,N,n,C}:=ht;let G:=m b o (p {o,ho,N,n,C}) ho;let Y:h1.DictOf öa d acc:=hd.FI λo e=>m d o B e
  show Ó (ϝa (Ó (wpAny_tryCatch ?_)));unfold Builtin.Dict.pairItems;show Ó (èd (T := Ϗ) {o,G,N} ?_);rw[Ï þg];show Ó (ļb G C ùa);show ϝa (wpAny_dictSet_pairs (knd:=xg ă w) (k:=kv.1) hk Y (λh2 U K=>?_) Ê);show ó {Ϯd BJ _,Úc f6 ?_};rw[Ðd BJ _];let g:∀c o,c≠d->c≠it->ø c=À o->h2.get? c=À o:=λc o y u e=>(K.2 c y).trans (m c o u e)
  let E:∀{c:Ë}{q:Ú Value},Įb â c q->Įb h2 c q:=λ{c q} t=>by let a1:=J t;let a2:=p t;let{o,e1,r}:=t;show{o,g c o a1 a2 e1,r}
  show z0l (its:=its) hA I B F kvs î (Ħc acc kv.1 kv.2) _ ?_ ?_ (by rw[Ĉ]at hn;omega) (λj Z e=>?_) U ?_ λh' tk S kp=>?_;show P.at λo e=>(K.2 it (λz=>B ħb)).trans e;let{o,e,r}:=hl;show{o,g l o (λz=>I ħb) F e,r};let{v',Q,b',H,rfl,W,O}:=hp ϭ Z Ňa;show{_,by rw[show i+1+j=i+ϭ by omega];show Q,b',H,rfl,W,E O};let:=x56 acc kv.1 kv.2;rw[Ĉ]at hz;omega;show h h' tk S λc o y u e=>kp c o y u (g c o y u e)
def z4t{ă:ï}{w:æ}{A:ù}{E:Value->Í->È}{s:Í}{l:Ë}{o:Obj}{its:Á Value}{n:Â}{kvs:Á ŏa}{Q:Value->Í->È}(N:ča=Å)(C:ø l=À o)(x:Åb=.type Ĩ)(G:ůe=Å)(d:ϸ=.seq ϥ n)(U:Ō=Ϫa)(P:∀(j:Â)(g:zY×Value),kvs[j]?=À g->∃v,its[j]?=À v/\C9 â v g.1 g.2)(hz:Ō<=ä)(h:∀h' tk,ϯf öa Ý (ñp (λa g=>Ħc a g.1 g.2) [])->(∀b o,ø b=À o->ċ b=À o)->Q Ġa { s with ç:=h',Ĕ:=tk }) :Ù è A (ĳb ÿc ąj) Q E s:=by
 show callType_codes (Q₁:=λt L=>t=.ref Ý/\L={ s with ç:=Ùa { cls:=.type Ña,ć:=.dict #[] } }) F.kt_called_dict (F.kt_typeCall_dict_1 _) F.entry_dict_init (kt_code_dict_new _ {rfl,rfl}) ?_;rintro t L ⟨rfl,rfl⟩;let f:(Śk).DictOf öa Ý []:=ϻm â;show{ĵe,F.args_dict_init_2 _ _,?_};unfold Builtin.«dict.__init__»;show Ó ?_;unfold Builtin.Dict.selfAndRest;show Ó (wpAny_notOrdered_dict ĵe ?_);exact Ù _ _ (pure (Ý,[Ė l])) _ _ _;show ó ?_;exact Ù _ _ (ıl "dict.__init__" Ý Ũb [] .none) _ _ _;unfold ıl;let q:=ĥ C;let i:(Śk).get? l=À o:=ě _ C;show Ó (èd (T := Ĩ) {o,i,x} ?_);rw[Ï þg];refine Ó (z72 (o:=o) i x d G (am_miss_of_fast ņb) Ò ňi (λp y k=>?_) Ò);rw[Ï þg];let u:p.DictOf öa Ý []:=f.FI λo e=>k _ _ e
 let K:p.get? l=À o:=k _ _ i;let H:p.IsList l ϥ:={o,K,x,n,d}
 let c:Ý<p.objs.size:=by let{I,_,_,e,_}:=u;show ĥ e
 exact Ù _ _ (pure () >>= _) _ _ _;show Ó Êj;show Öd (s:={ s with ç:=p,Ĕ:=y }) H ?_;show ó {Ϯd BJ _,Úc f6 ?_};rw[Ðd BJ _];let J:∀b m,ø b=À m->(p.push { cls:=.type ϊh,ć:=.fields #[.ref l,.int 0 0] }).get? b=À m:=λb m e=>ě _ (k b m Ĳd)
 refine z0l (l:=l) (its:=its) (A:=Çb) ňi (xh (Ŏa q)) (xh ħg) (xh (Ϟ (œf q c))) kvs 0 [] _ {_,ŷ _ rfl,rfl,rfl} {o,J l o C,x,n,d} êm (λj g e=>?_) (u.push _) äm λh' tk z S=>?_;let{v,W,b,B,rfl,R,I,e1,r}:=P j g e;show{_,by rw[Ķ];show W,b,B,rfl,R,I,J b I e1,r};show{rfl,h h' tk z λb m e=>?_};let O:=ĥ e;show S b m (xh (Ϟ O)) (xh (Ϟ (œf O c))) (J b m e)
section
variable{X:Cx}
theorem mv{f:Á õ}{σ:St}{H:Hp}{s:Í}(I:Inv X f σ H s):∀{kvs:Á Äa} {vs:Á V} {its:Á Value},zo vs its->Ō=đ->(∀(j:Â)(kv:zY×V),kvs[j]?=À kv->∃b,vs[j]?=À (ϕa b)/\xP X.K H b ϰh)->
  ∃ws:Á ŏa,KV kvs ws/\∀(j:Â)(kw:zY×Value),ws[j]?=À kw->∃v,its[j]?=À v/\C9 â v kw.1 kw.2
 | [],_,_,_,_,_=>{[],.nil,λj kw e=>by cases e}|kv::kvs,[],_,_,h,_=>by cases h|kv::kvs,_::vs,_::its,.cons r t,h,hp=>by
  let{ws,rk,m}:=mv I t Ĉa λj d e=>by let{b,e1,q}:=hp ϭ d Ňa;show{b,by simpa using e1,q}
  let{b,e1,k}:=hp 0 kv rfl;cases e1;let{n,l,g,_}:=Þa k;let{c,x,rfl,a,i}:=Sf l;show{(kv.1,x)::ws,.cons {rfl,i} rk,λj kw e=>?_};cases j with
  |ŏ=>cases e;show{_,rfl,b,c,r,ZY (P:=ö) (w:=X.w) a,g}|ş j=>let{v,e2,q}:=m j kw Ňa;show{v,by simpa using e2,q}
def x0l(K:Ô):Á V->Hp->VK->È:=λc H Q=>∃a vs kvs,c=ϲ/\ya K H a vs/\Ō=đ/\(∀(j:Â)(kv:zY×V),kvs[j]?=À kv->∃b,vs[j]?=À (.ref b)/\xP K H b ϰh)/\∀p,H p=Å->Q Ŵ (Ω (.dK (Yf [] kvs)))
def z4s(c:ŵ=Ä):vg X ÿc (x0l X.K):=by
 intro F s σ H L J Q I r h;let{a,G,b,rfl,C,k,l,q}:=h;let{u,rfl,z}:=qG r;cases(show u=Ė a from z);let{i,g,{o,n,m,E,f,d},v}:=Ϛ C;let{B,rk,x}:=mv I g k l;have e:B.length=Ťb:=by rw[<-rk.length,k,Ĥb]
 refine z4t (ýa c) m E f d e x (by rw[e,<-Ĥb];show v) λN w y t=>?_
 let j:(żp).length<=ä:=by let p:=lA b [];rw[Řc]at p;omega
 let A:ϝo=Ã:=by let:=I.big;rw[ùf];show xh ϙo
 show{.ref Ý,_,Ϗa (a:=Ý) (o:=.dK żp) (t':=w) t Ē (GB j A (rk.merge .nil) y),rfl,q _ Ϝc}
#print a
def Za:Á D->É (Á Ļ×Á D)
 | []=>À ([],[])|.tup [k,v]::r=>(uY k).bind λk=>(Za r).bind λp=>À (k::p.1,v::p.2)|_=>Å
def wN{α:Type}:Á Ļ->Á α->Á Ļ->Á α->Á Ļ×Á α
 |ks,ds,k::r,v::q=>wN Ģe (wE ks ds k v) r q|ks,ds,_,_=>(ks,ds)
def YO:Á D->É D
 | [.lst xs]=>(Za xs).bind λp=>À (.dic Ğm.1 Ğm.2)|_=>Å
theorem nX:∀{ks:Á zY}{us:Á V}{as:Á zY}{vs:Á V},Ń=èa->ϴf=đ->Yf şo Ąe=Ŕc.1.zip Ŕc.2/\Ŕc.1.length=Ŕc.2.length
 | [],[],as,vs,_,h=>{rfl,h}|k::ks,u::us,as,vs,h1,h2=>by let a:=nX (ks:=ks) (us:=us) (as:=wD as k) (vs:=wE as vs k u) Āf (W1 h2);show{?_,a.2};exact Yf (qB şo k u) Ąe=_;rw[AF h2];show a.1
theorem nW{K:Ô}{G:Hp}:∀{ks:Á zY}{es:Á D}{us:Á V}{as:Á zY}{ds:Á D}{vs:Á V},ê K G es us->ê K G ds vs->Ń=èa->ϴf=đ->ê K G ŵh.2 Ŕc.2/\ŵh.1=Ŕc.1
 | [],es,us,as,ds,vs,r1,r2,h1,h2=>by
  let e1:wN as ds [] es=(as,ds):=by unfold wN;rfl
  let e2:wN as vs [] us=(as,vs):=by unfold wN;rfl
  rw[e1,e2];show{r2,rfl}
 |k::ks,es,[],as,ds,vs,r1,r2,h1,h2=>by cases h1|k::ks,[],u::us,as,ds,vs,r1,r2,h1,h2=>by cases(show _=[]from r1)|k::ks,e::es,_::_,as,ds,vs,r1,r2,h1,h2=>by let{v,r,c,a,b}:=r1;cases c;show nW (ks:=ks) (es:=es) (as:=wD as k) b (r2.put a) Āf (W1 h2)
theorem nV{α:Type}:∀{ks:Á zY}{es:Á α}{as:Á zY}{ds:Á α},ϴf=ü->ŵh.2.length<=ü+ûp
 | [],es,as,ds,_=>by
  let e:wN as ds [] es=(as,ds):=by unfold wN;rfl
  rw[e];show ϣ _ _
 |_::_,[],as,ds,_=>by
  let e:∀k ks,wN as ds (k::ks) ([]:Á α)=(as,ds):=λ_ _=>by unfold wN;rfl
  rw[e];show ϣ _ _
 |k::ks,e::es,as,ds,h=>by let a:=nV (ks:=ks) (es:=es) (as:=wD as k) (ds:=wE as ds k e) (W1 h);let:=NO (ks:=as) (vs:=ds) (k:=k) (v:=e) h;exact(wN (wD as k) (wE as ds k e) ks es).2.length<=_;rw[Ĉ];omega
theorem ib{K:Ô}{G:Hp}:∀{xs:Á D}{vs:Á V}{ks:Á zY}{ds:Á D},Za xs=À (ks,ds)->ê K G xs vs->∃us,ê K G ds us/\Ń=èa/\Ń=đ/\∀(j:Â)(kv:zY×V),Ąe[j]?=À kv->∃b,vs[j]?=À (ϕa b)/\xP K G b ϰh
 | [],_,_,_,h,r=>by cases h;rw[Čq];show{[],rfl,rfl,rfl,λj kv e=>by cases e}|x::xs,_,ks,ds,h,r=>by
  let{v,E,rfl,q,s}:=r;unfold Za at h
  rw[çq];rename_i k y A e;cases e;let{l,m,h}:=zH h;obtain⟨⟨u,f⟩,p,h⟩:=zH h;cases h;let{us,t,z,o,i}:=ib p s;let{b,C,rfl,w,{B,_,rfl,c,{d,_,rfl,a,g}},_}:=q;cases(show _=[]from g);refine⟨d::us,{d,us,rfl,a,t},by rw[Ĉ,Ĉ,z],by rw[Ĉ,Ĉ,o],λj kv e=>?_⟩;cases j with
  |ŏ=>cases e;show{b,rfl,?_};rw[<-YZ m c];show w|ş j=>let{n,e1,e2}:=i j kv Ňa;show{n,by simpa using e1,e2}
  cases h
def Bg{X:Cx}{e:Ö}{fs:FA}{p pos:Pos}(f:ŵ=Ä)(P:Gl X Ña)(I:ñ Ña=Å)(hv:ϕ Ña=À ÿc)(R:SA X [e] fs)(C:Î Ča q12):SF X Êm (eL YO fs):=by
 let{t,J,k}:=R.h;refine{{_,(Vv (z4s f) P I hv {J} Ò Ò ňh).h,λ{T W G H τ σ d Q} E c q=>?_}};let{ds,O,c}:=zH c;show k E O λvs S B g N=>?_
 unfold YO at c
 split at c;rename_i U;obtain⟨⟨ks,es⟩,A,c⟩:=zH c;cases c;let{v,rfl,a,s,rfl,L,n,l}:=pR N;let{us,r,i,o,z}:=ib A n;let{w,y}:=nX (ks:=ks) (us:=us) (as:=[]) (vs:=[]) i rfl;let{K,u}:=nW (ks:=ks) (as:=[]) (ds:=[]) (vs:=[]) r rfl i rfl;refine{a,s,Ňg us,rfl,ut g.gh L,by rw[íc,i,Ōb,<-i,o],λj F e=>?_,λp m=>?_};let{b,e1,e2}:=z j F e;show{b,e1,t9 g.gh e2};show q p _ _ (ėg (Ŀa g.gh m)) (g.h.free m) (úp m) {Ϝm.2,?_,?_,K,?_};exact ze B p (.dK (Yf [] Ąe)) p=À (.dK (Ŷh.1.zip Ϝm.2));rw[yq,u];show ĳ (λx=>À (HO.dK x)) w;exact Ŷh.1.length=_;rw[u];show y;let:=nV (ks:=ks) (es:=es) (as:=[]) (ds:=[]) rfl;have e1:ûp=Įe:=by rw[<-ϊ,<-i,o]
 rw[ţb]at e1;exact Ŷh.2.length<=ä;simp only[Řc,Ķ]at this;omega;cases c
open ĺa Builtin ħo
section
variable{X:Cx}{e o a b c:Ö}{f fo:FE}{x:Ç}{xp p pos Åa Ϯ:Pos}
nonrec def U9:Á D->É (Á Ç)
 | []=>À []|.str z::r=>(U9 r).bind λa=>À (z::a)|_=>Å
def GO:D->D->É D
 |.str sep,.lst xs=>(U9 xs).bind λa=>if(Èc (·.length)).sum+úa*Ųc<=yX then À (.str (glued sep a))else Å|_,_=>Å
theorem ss{K:Ô}{G:Hp}:∀{xs:Á D}{vs:Á V}{ts:Á Ç},U9 xs=À ts->ê K G xs vs->vs=đc őg
 | [],_,_,h,r=>by cases h;show r|x::xs,_,ts,h,r=>by
  let{v,g,rfl,c,b}:=r;unfold U9 at h
  rw[çq];rename_i z f e;cases e;let{d,a,h}:=zH h;cases h;rw[ĵ,(show v=_/\_ from c).1,ss a b];cases h
def x3d(t:SE X o fo)(C:SB X e f)(c:Î (Đb o "join" Û Ļi=Ĥ o Û) q12)(b:Î Ĺb q12)(l:Î Ča q12) :SE X (ηb (.Attribute o "join" Åa)) (e2 GO fo f):=by
 let{to,K,r}:=t.h;let{T,A,I}:=(v_ C uH l).h;refine{{_,(OL PySem.F.plainAttrs_str PySem.F.slot_str_join PySem.F.type_str_join y31 {K} {A} c b (by rw[ϔ,l];rfl) ϣd).h,λ{R Y G H τ σ d Q} E a q=>?_}};let{x,z,a}:=zH a;let{y,J,a}:=zH a;show r E z λv P S k N=>?_
 cases x with
 |str sep=>
  let{rfl,l1}:=N;refine{rfl,I Ŗj (ds:=[y]) (by unfold zC;rw[J];rfl) λW U Z u n=>?_};let{w,rfl,j}:=pR n;cases y with
  |lst xs=>
   let{g,i,a}:=zH a;let{p,O,rfl,L,B,_}:=j;let s:=ss i B;subst s;by_cases cc:(g.map (·.length)).sum+Ĥb*Ųc<=yX;rw[Ï cc]at a;cases a;let m:(g.map (·.length)).sum+Ĥb*Ųc<=ä:=by rw[ū];show cc
   show{sep,p,g,rfl,rfl,L,m,q _ _ _ (ňj u) {rfl,ÿ (h9 sep g) m}};rw[Ñ cc]at a;cases a
  |_=>cases a
 |_=>cases a
def Jy:ϕ Ña=À ÿc:=by rw[Ϩp]
def jq(i:Â)(k v:FE):FS:=λσ=>(v σ).bind λy=>match σ[i]? with
 |À ϵd=>(Şg).bind λx=>match x with
  |.int j=>(Ňi).bind λn=>À (ςb ϻi)|_=>Å
 |_=>Å
theorem åg{K:Ô}{G:Hp}{d:D}{v:V}(hv:zZ K G d v):∀{ds:Á D}{vs:Á V}(n:Â),ê K G ds vs->ê K G (ōe n d) (vs.set n v)
 | [],_,_,r=>by rw[Čq];rfl|d'::ds,_,0,r=>by let{u,c,rfl,b,a}:=r;show{v,c,rfl,hv,a}
 |d'::ds,_,n+1,r=>by let{u,c,rfl,b,a}:=r;show{u,_,rfl,b,åg hv n a}
def Os(A:QE X Ž úb)(hk:SE X k fk)(hv:SE X v fv)(s:Î ϗf q12)(L:Î (Íi Æf v Įd Û=pure Ã) q12)(F:Î (Îi Æf v Û=pure Å) q12)(B:Î ((øe Æf Û).map (·.2)=[Äc Ŕl Û]) q12):SS X öm (jq i fk fv):=by
 let{Z,S,P}:=Ád;let{T,o,N}:=Àd;show{{_,nJ o (oA A {S} rn s).h L F B,λ{Y H0 G H τ σ fl E} K a q=>?_}};let{y,O,a}:=zH a;show N K O λw W H1 J Q=>?_
 rw[Åq];rename_i U f;let{R,C,a}:=zH a;cases R with
 |int j=>let{n,I,a}:=zH a;cases a;let c:=Ôa J;let{r,d,g,z,p,t,e,l}:=c.ow _ _ f;show{_,d,P c C λu G2 H2 b m=>?_};cases(show u=_ from m);refine{r,p,j,n,rfl,rfl,b.h _ _ t,by rw[ķe];show I,?_};show q _ _ _ ((c.go b).J1 f d {_,yq,åg (Q.mono b.g) n (e.mono b.g),by rw[Éa];show l})
 |_=>cases a
 cases a
nonrec def W3(j i:Â):FS:=λσ=>match σ[i]? with
 |À ϵd=>(ds.getLast?).bind λd=>if j=i then Å else À (Ηe (Ν (À (Ä,.lst Ďo))))|_=>Å
theorem ŕn{K:Ô}{G:Hp}{ds:Á D}{vs:Á V}(r:ê K G ds vs):ê K G Ďo vs.dropLast:=by rw[Şl,Şl,ϊ];show r.take _
#print a
#print L3
namespace L2
open ľ ś ŋ
def C0(K:Ô)(a:Ë):It:=
  ⟨λi H=>∃xs x,ya K H a xs/\xs[i]?=À x,
   λi H v b=>∃p,H p=Å/\v=.ref p/\∀xs,ya K H a xs->∃x,xs[i]?=À x/\b=ze H p Ϛf,
   λi H=>∃xs,ya K H a xs/\ë<=i⟩
def x7i{P:ï}{w:æ}{K:Ô}{r:Á Ö}{kk:Â}{pos:Pos}(a e it:Ë)(n:e≠it) :YF P w K (.Tuple r kk pos) ĩj [e,it] e (λi h=>(∃old,IsEnum h e it (i:Æ) old)/\ÿi it a i) where
 mem:=by simp
 obj:=λi h st c b=>by obtain⟨⟨old,g⟩,⟨o2,j,_,d2⟩⟩:=st;rw[Êq];rcases b with rfl|rfl;show{_,g,λv q=>nomatch q};show{_,j,λv q=>by rw[d2]at q;cases q}
 ťa:=λi h h' st k=>by obtain⟨⟨old,g⟩,j⟩:=st;show{{old,k e ô _ g},j.at λo x=>k it ô o x}
 Ăb:=by
  rw[Èq];let{xs,x,A,ex}:=hg;rw[Ŭq];let{B,L,Q}:=ru.get ex;let d:ąp[i]?=À B:=by rw[Þd];show L
  let t:e<Ý:=ĥ g;let lt2:it<Ý:=by let{o,z,_}:=j;show ĥ z
  show wpAny_pyNext_enum_item g j pl d n λS T p G hz1 J=>?_
  show{_,rfl,wpAny_letOwnedTupleGo_enum (s:={ s with ç:=S,Ĕ:=ē+1 }) T λC U f=>?_}
  replace f:űa e S C:=f
  let N:ø Ý=Å:=by
   cases q:ø Ý with
   |Å=>rfl|À o=>show Þ Še Ēa
  let l:H Ý=Å:=Ęb Ē;let tup:ϰj Ý=À { cls:=.type Ϗ,ć:=.seq #[.int i ē,B] }:=Ķe _ _ (Ŏa t) G
  let kk:∀c o,c ∉ [e,it]->ø c=À o->ϰj c=À o:=λc o b z=>by simp only[Ěa,Ϣ,ĸa,ńg]at b;show Ķe _ _ b.1 (J c o b.1 b.2 z)
  let new:xm ö X.w (ze H Ý Ϛf) C Ý Ϛf:={Ĥl,[.int i ē,B],.cons {_,rfl} (.cons Q .nil),{_,tup,rfl,_,rfl}};show{.ref Ý,ze H Ý Ϛf,I.b8 (tk:=ē+1) y kk N l new,rfl,{Ý,l,rfl,λxs' d=>?_},{{B,?_},p.at λo z=>Ķe _ _ n.symm z},λc b=>?_};rw[I.LZ d A];show{x,ex,rfl};rw[show((i+1:Â):Æ)=(i:Æ)+1 from rfl];show U;rw[yH];show(y c b).1;intro q
  let m:c<Ý:=by rw[Êq];rcases b with rfl|rfl;show t;show lt2
  rw[q]at m;show Þ m Ēa
 done:=by
  rw[Èq];let{xs,A,hend}:=hg;rw[Ŭq]
  let d:ąp[i]?=Å:=by rw[Þd];show Öa (by let:=êp;omega)
  refine wpAny_pyNext_enum_end (by show ýa b) g j pl d λS O=>?_
  show{rfl,I.but (tk:=ē) y λc ob u eb=>?_};simp only[Ěa,Ϣ,ĸa,ńg]at u;show O c ob u.2 eb
 Ëc:=λ_ _ _ _ _ st h=>by obtain⟨⟨old,g⟩,_⟩:=st;show ĺm g h
section
variable{X:Cx}
def z9q(K:Ô)(c:TA):TI:=λσ H R=>c σ H λd b=>∃a xs,d=ϲ/\ya K b a xs/\R ĩj b
def y9a{a:Ö}{m:TA}{p pos:Pos}{e:Á Ö}{F:Â}{B:Pos}(L:Gl X ϙb)(C:ñ ϙb=Å)(N:PA X [a] m)(z:Î ϥk q12) :PI X (.Tuple e F B) Ém (z9q X.K m):=by
 intro i s σ H R I h;show Call_ (Th I L C boot_enumerate (Êf (zx (N pos i s σ H _ I h) λv b ⟨O,j,f,G,E⟩=>?_) (by rw[z];rfl) rfl));let{r,P,rfl,w,q}:=E;let{u,rfl,A}:=qG G;cases(show u=Ė r from A);let{v,_,J,_}:=f.list w;show call_enumerate_list J.isList λk g l y x=>?_
 let t:Inv X i σ j { b with ç:=k }:=f.kept (t':=b.toks) x;show ĺm (s:={ b with ç:=k }) g ?_;generalize hn:źm=n at g l y;refine{n+1,[n+1,n],_,_,j,rfl,t,x7i r ħ n (xh Ê),{{_,g},l},λc o=>?_,q}
 let d:źm<=c:=by rw[hn];simp only[Ěa,Ϣ,ĸa]at o;rcases o with rfl|rfl;show ϣ _ _;show ĺ _
 show f.Wb d (Źo d)
#print a
#print L2
namespace L3
open ľ ś ŋ L2
nonrec def qp(xs:Á D):Á D:=õc (λ(i:Â) x=>ύ Ϯg) (ϡ ë) xs
def tz(a:FE):FA:=λσ=>(Óa).bind λd=>match d with
 |.lst xs=>À ıg|_=>Å
def kQ(xs:Á D):(ıg).length=ë:=by simp[qp]
theorem Xx(xs:Á D)(i:Â):ıg[i]?=(xs[i]?).map λx=>ύ Ϯg:=by unfold qp;rw[ŝl];by_cases h:i<ë;rw[ác h,Đ h];rfl;rw[Öa Ĉa,Öa Ê];rfl
section
variable{K:Ô}{G H:Hp}
def z6r(f:ya K G a vs)(g:ê K G xs vs):k7 K ĩj G ıg where
 go:=λi e H c b d=>by rw[kQ]at d;let{v,e1,_}:=g.get (Đ d);show{vs,v,ut şj f,e1}
 tW:=λi e H x q c b d y=>by let{p,h,rfl,k}:=y;let{v,e1,rfl}:=k vs (ut şj f);let{m,j,l}:=g.at e1;refine{ze e p Ìp,.tup [.int (i:Æ),m],ğc b h,by rw[Xx,j];rfl,?_};let o:yF G (ze e p Ìp):=Ġb (t8 (b.free h) _);show{p,Ïl,rfl,ϲc yq,{_,_,rfl,rfl,{v,_,rfl,l.mono o,rfl}},ÿb (n:=2) Ò}
 Ϡ:=λi e H c b d=>by rw[kQ]at d;show{vs,ut şj f,by rw[Ĥb];show d}
#print a
def U5(y:Gl X ϙb)(i:ñ ϙb=Å)(z:SE X a fa)(e:Î Đe q12):SI X ôm Ém (tz fa):=by
 let{t,l,k}:=(zD z zP e).h;show{{_,y9a y i l (qV e),λ{C E G H τ σ ds R} K b q=>?_}};let{x,u,b}:=zH b;cases x<;>first|(cases b;done)|skip
 cases b;rename_i g;refine k K (ds:=[.lst g]) (by unfold zC;rw[u];rfl) λA B F f s=>?_
 let{v,r,rfl,m,n}:=s;cases(show r=[]from n);let{j,c,rfl,d,o,w}:=m;show{j,c,rfl,ut f.gh d,q _ _ _ f (by rw[kQ];show w) (z6r d o)}
#print L3
namespace L2
open ľ ś ĺa ŋ
nonrec def ϸc(a:Æ):Á Æ->Á Æ
 | []=>[a]|b::r=>if a<=b then a::b::r else b::ϸc a r
def Àb:Á Æ->Á Æ
 | []=>[]|a::r=>ϸc a (Àb r)
theorem KB(a:Æ):∀l:Á Æ,(Ġp).Perm (a::l)
 | []=>Ľc _|b::r=>by
  unfold ϸc
  split;show Ľc _;show((KB a r).cons b).trans (Čn a b r)
theorem ðc:∀l:Á Æ,(Àb l).Perm l
 | []=>Ľc _|a::r=>(KB a _).trans ((ðc r).cons a)
theorem i9(a:Æ):∀{l:Á Æ},l.Pairwise (·<=·)->(Ġp).Pairwise (·<=·)
 | [],_=>by simp[ϸc]|b::r,h=>by
  let{e,f}:=Ϧd h;unfold ϸc
  split;rw[łq]
  show ûh {λx d=>by rcases ĩ d with rfl|d;show c;show ßb c (e x d),h};rw[łq];show ûh {λx d=>?_,i9 a f};rcases ĩ ((KB a r).mem_iff.mp d)with rfl|d;omega;show e x d
theorem ñe:∀l:Á Æ,(Àb l).Pairwise (·<=·)
 | []=>čf|a::r=>i9 a (ñe r)
theorem Bi:∀{a b:Á Æ},a.Perm b->ſo (·<=·)->Ŧi (·<=·)->a=b
 | [],b,p,_,_=>(List.nil_perm.mp p).symm|x::a,[],p,_,_=>by cases ŧf|x::a,y::b,p,ha,hb=>by
  let{f,h}:=Ϧd ha;let{g,i}:=Ϧd hb
  let e:x=y:=by let d:x∈y::b:=ϟn ϳ;let c:y∈x::a:=p.mem_iff.mpr ϳ;rcases ĩ d with rfl|d;rfl;rcases ĩ c with e|c;show Ųe;show Int.le_antisymm (f y c) (g x d)
  subst e;rw[Bi (List.perm_cons x |>.mp p) h i]
theorem KD{ns:Á Æ}{its:Á Value}(h:ób its ns):zo Ϩa its:=by
 induction h with
 |nil=>show .nil|ð _ _ _ ih=>show .cons {_,rfl} ih
#print L2
namespace L3
open ľ ś ŋ L2
def Ew:ϕ Ųa=À ϴd:=by rw[Ϩp]
nonrec def ώa:Á D->É Êg
 | []=>À []|.int i::r=>(Şj).bind λa=>À Êk|_=>Å
theorem iH:∀ns:Á Æ,ώa ϯ=À ns
 | []=>rfl|n::ns=>by exact(ώa ϯ).bind _=_;rw[iH ns];rfl
theorem iF:∀{ds:Á D}{ns:Á Æ},ώa ds=À ns->ds=Ϥ ę
 | [],_,h=>by cases h;rfl|d::ds,ns,h=>by
  unfold ώa at h
  rw[çq];rename_i i r e;cases e;let{b,a,h}:=zH h;cases h;rw[iF a];rfl;cases h
theorem oj{K:Ô}{G:Hp}:∀{ns:Á Æ}{vs:Á V},ê K G ϯ vs->vs=Ϥ üb
 | [],_,r=>r|n::ns,_,r=>by let{v,c,rfl,b,a}:=r;rw[oj a,show v=üb n from b];rfl
theorem iC{K:Ô}{G:Hp}:∀ns:Á Æ,ê K G ϯ Ϩa
 | []=>rfl|n::ns=>{.int n,_,rfl,rfl,iC ns}
nonrec def IG:D->D->É D
 |.lst x,.lst y=>if ϯb+īe<=yX then À Ľp else Å|_,_=>Å
def z6w{x y d:D}(h:IG x y=À d):∃xs ys,x=.lst xs/\y=.lst ys/\ë+Ŭ<=yX/\d=.lst ϥf:=by
 unfold IG at h
 rw[Éq];rename_i xs ys;by_cases c:ë+Ŭ<=yX;rw[Ïq]
section
variable{X:Cx}{a b:Ö}{fa fb:FE}{x:Ç}{pos:Pos}
def x3n(R:SE X a fa)(J:SE X b fb):SF X (.BinOp a .Add b pos) (e2 IG fa fb):=by
 let{Y,L,n}:=R.h;let{Z,C,t}:=J.h;show{{_,N9 mU L C,λ{T H0 G H τ σ d Q} E f q=>?_}};let{x,B,f}:=zH f;let{y,I,f}:=zH f;show n E B λv S U k N=>?_
 show t Ŗj I λu W H2 i o=>?_
 let{F,A,rfl,rfl,c,rfl}:=z6w f;let{s,r,rfl,O,m,_}:=N;let{w,z,rfl,P,l,_}:=o;let K:(F++A).length<=ä:=by rw[ū,ì];show c
 let e:=ňj i;refine{s,w,r,z,rfl,rfl,ut (ϡi i.gh) O,ut i.gh P,by rw[Ľd,Ĕc,ū];show c,λp j=>?_};show q p _ _ (Àc (Ŀa e.gh j)) (e.h.free j) (ϰf j) {_,yq,(Ϙj i.g).append l,K}
#print a
nonrec def V_(i:Â)(e:FE):FS:=λσ=>match σ[i]? with
 |À Ôm=>(Ϯc).bind λy=>match y with
  |.lst ys=>if ë+Ŭ<=yX then À įp else Å|_=>Å
 |_=>Å
nonrec def TV:D->D->É D
 |.lst x,.int k=>if 0<=k/\k<=1000000/\ϯb*Ϸ<=yX then À (.lst (Ő Ϸ x).flatten)else Å|_,_=>Å
def z6z(h:TV x y=À d):∃xs k,x=.lst xs/\y=.int k/\(0<=k/\k<=1000000/\ë*Ϸ<=yX)/\d=.lst (Ϻn).flatten:=by
 unfold TV at h
 rw[Éq];rename_i xs k;by_cases c:0<=k/\k<=1000000/\ë*Ϸ<=yX;rw[Ïq]
theorem Ăj{K:Ô}{G:Hp}{ds:Á D}{vs:Á V}(r:ê K G ds vs):∀k:Â,ê K G (Ő k ds).flatten (Ő k vs).flatten
 |0=>rfl|k+1=>by rw[Čb,ŋc,Čb,ŋc];show ϒc (Ăj r k)
section
variable{X:Cx}{a b:Ö}{f fa fb:FE}{x:Ç}{pos:Pos}{e:Ö}
def sB(I:SF X a fa)(C:SE X b fb):SF X (.BinOp a .Mult b pos) (e2 TV fa fb):=by
 let{S,F,n}:=I.h;let{T,A,t}:=C.h;show{{_,N9 y80 F A,λ{L U G H τ σ d Q} E i q=>?_}};let{x,z,i}:=zH i;let{y,B,i}:=zH i;show n E z λp K O m N J o=>?_
 show t (ţa m) B λu P W j r=>?_
 let{R,k,rfl,rfl,c,rfl}:=z6z i;let{s,v,l,_}:=o;cases(show u=.int k from r);let e:=m.trans j;refine{p,k,s,rfl,rfl,j.h _ _ v,by omega,by omega,by rw[Ĕc,ū];show c.2.2,λw f=>?_};show q w _ _ (Àc (Ŀa e.gh f)) (e.h.free f) (ϰf f) {_,yq,Ăj (l.mono j.g) _,?_};rw[ū,l9,Ϯn];show c.2.2
#print a
nonrec def jj(τ:zw):Ð:=τ.all λs=>match s with
 |À (Ä,_)=>Ã|_=>Ä
nonrec def Jx:Á D->É (Á Ð)
 | []=>À []|.bl b::r=>(Jx r).bind λa=>À (b::a)|_=>Å
theorem dU:∀{ds:Á D}{bs:Á Ð},Jx ds=À bs->ds=ŉg Ìb
 | [],_,h=>by cases h;rfl|d::ds,bs,h=>by
  unfold Jx at h
  rw[çq];rename_i b r e;cases e;let{c,a,h}:=zH h;cases h;rw[dU a];rfl;cases h
theorem ot{K:Ô}{G:Hp}:∀{bs:Á Ð}{vs:Á V},ê K G (ŉg Ìb) vs->vs=ŉg V.bl
 | [],_,r=>r|b::bs,_,r=>by let{v,d,rfl,c,a}:=r;rw[ot a,show v=V.bl b from c];rfl
def GL:Á D->É D
 | [.lst xs]=>(Jx xs).bind λa=>À (.bl (a.all id))|_=>Å
def y5b{K:Ô}:Jf K (oC K) GL:=λG H h j d Q s r b q=>by
 rcases h with _|⟨x_,r_⟩;cases b
 cases x_<;>first|(cases b;done)|skip
 cases r_<;>first|(cases b;done)|skip
 rename_i f;let{i,g,b}:=zH (show(Jx f).bind _=À d from b);cases b;let{v,rfl,a,k,rfl,c,e,l}:=pR r;rw[dU g]at e;rw[ot e]at c;show{a,i,rfl,c,q _ _ _ þa rfl}
#print L3
namespace L2
open ľ ś ĺa ŋ
nonrec def Éb(ks:Á zY)(k:zY):Ð:=ks.any λa=>decide (a=k)
def tt(a:Á zY)(k:zY):Á zY:=if Éb a k=Ä then a else a++[k]
theorem z3c(a:Á zY)(k:zY):(tt a k).length<=úa+1:=by
 unfold tt
 split;rw[Þq]
def iX{k:zY}{v:Value}(h:t_ k v=Ä):v.scannable=Ä:=by rcases jh h with⟨i,t,_,rfl⟩|⟨x,t,_,rfl⟩<;>rfl
section
theorem ic(P:ï)(w:æ):∀{ks:Á zY}{its:Á Value},zo Ĺf its->∀(j:Â)(k:zY),ks[j]?=À k->∃v,its[j]?=À v/\t_ k v=Ä
 | [],_,.nil,j,k,h=>by cases h|k::ks,_,.cons r t,j,k',h=>by
  cases j with
  |ŏ=>cases h;show{_,rfl,ZY (P:=P) (w:=w) r}|ş j=>let{v,e,q}:=ic P w t j k' Ĉa;show{v,by rw[ėq],q}
#print a
#print L2
namespace L3
open ľ ś ŋ L2
def z4e:ϕ Ś=À Źf:=by rw[Ϩp]
#print L3
namespace L2
open ľ ś ĺa ŋ
structure vH(t:Ža):È where
 du:ϙi=#[]
 up:t.place.toList.Pairwise (·<·)
theorem El(l:Ϲd (·<·))(j:Â):∀(f lo hi:Â),lo<=hi->hi<=ĥa->hi-lo<=f->(∀(i:Â)(h:i<ĥa),i<lo->xs[i]<j)->(∀(i:Â)(h:i<ĥa),hi<=i->j<=xs[i])->
  Äe xs j f lo hi<=ĥa/\(∀(i:Â)(h:i<ĥa),i<Äe xs j f lo hi->xs[i]<j)/\(∀(i:Â)(h:i<ĥa),Äe xs j f lo hi<=i->j<=xs[i])
 |0,lo,hi,h1,h2,h3,a,b=>by unfold Äe;show{by omega,a,λi h c=>b i h Ê}|f+1,lo,hi,h1,h2,h3,a,b=>by
  let d:∀(i k:Â)(hi:i<ĥa)(m:k<ĥa),i<k->xs[i]<xs[k]:=λi k hi m c=>by let:=Ϙd l i k ÿf (by simpa using m) c;rw[ϲp]
  unfold Äe;by_cases c:lo<hi;rw[Ï c];let g:ϔc/2<ĥa:=by omega
  let e:łj Ŝj j=xs[ϔc/2]:=by simp[Ęd,g]
  exact(if łj Ŝj j<j then _ else _)<=_/\_;rw[ϴp];rw[e];by_cases q:xs[ϔc/2]<j;rw[Ï q];refine El l j f (ϔc/2+1) hi Ê h2 Ê ŭn b;by_cases y:i=ϔc/2;subst y;show q;show œf (d i _ h g Ê) q;rw[Ñ q];refine El l j f lo Ŝj Ê Ê Ê a ŭn;by_cases y:i=ϔc/2;subst y;omega;let:=d _ i g h Ê;omega;rw[Ñ c];show{by omega,a,λi h z=>b i h Ê}
def Em(a:Ϲd (·<·))(j:Â):ĵa xs j<=ĥa/\(∀(i:Â)(h:i<ĥa),i<ĵa xs j->xs[i]<j)/\(∀(i:Â)(h:i<ĥa),ĵa xs j<=i->j<=xs[i]):=
 El a j ĥa 0 ĥa Ĩb Ē Ê (λi _ h=>by omega) λi h c=>by omega
def x03(d:Ϲd (·<·))(l:xs[ĵa xs j]?≠À j):(SetTable.insertAt xs (ĵa xs j) j).toList.Pairwise (·<·):=by
 let{b0,h,f}:=Em d j;generalize ĵa xs j=p at *;rw[SetTable.toList_insertAt];show Ϝd {üp (ϟk ..),ûh {λa g=>?_,üp (ńm ..)},λa g b e=>?_};let{i,c,rfl}:=ϱd g;rw[ňa,Ĺ]at c;rw[Čf,Ċb];let o:=f (p+i) Ê Ê
 let m:xs[p+i]' Ê≠j:=λz=>by
  cases i with
  |ŏ=>show l (by rw[Ŀc Ê];show ĳ À z)|ş i=>have n:=f p Ê Ē;let k:=Ϙd d p (p+î) Ûe Ûe Ê;simp only[Ċb]at k;omega
 omega;let lt:a<j:=by let{i,c,rfl}:=ϱd g;rw[äa,Ĺ]at c;rw[Řh,Ċb];show h i Ê Ê
 rcases ĩ e with rfl|e;show lt;let{i,c,rfl}:=ϱd e;rw[ňa,Ĺ]at c;rw[Čf,Ċb];let:=f (p+i) Ê Ê;omega
def lj(h:vH t)(j:Â):ϫn ϙi j=Ã:=by rw[h.du];rfl
def x4c(h:vH t)(j:Â):(t.slot j=.empty/\ſa[ĵa ſa j]?≠À j)\/∃i,t.slot j=.live i:=by unfold SetTable.slot;rw[ϴp];by_cases c:ſa[ĵa ſa j]?=À j;rw[Ï (by rw[c];show đb _)];show .inr {_,rfl};rw[Ñ (by rw[Ŵc];show c),lj h,Ñ ġ];show .inl {rfl,c}
theorem nH(h:vH t):∀(n:Â)(p:SetTable.Probe){j:Â}{d:É Â},p.dummy=Å->Ŕh t f hh n p=À (.empty j d)->d=Å/\ſa[ĵa ſa j]?≠À j
 |0,p,j,d,hp,e=>by unfold Ŕh at e;cases e|n+1,p,j,d,hp,e=>by
  let a:(áp p).dummy=Å:=by
   unfold SetTable.advance
   split;show hp;show hp
  unfold Ŕh at e;rcases x4c h p.j with⟨s,b⟩|⟨i,s⟩;rw[s]at e;rw[Ģq];cases e;show{hp,b};rw[s]at e;rw[Ģq]
  split at e;cases e;show nH h n (áp p) a e
def ϗe(t:Ža)(n:Â):vH (t.standIn n):={rfl,by exact(Array.range n).toList.Pairwise (·<·);rw[Array.toList_range];show ľl}
def vH.lay(h:vH t)(es:Ú Ϥa)(f:Æ)(x:Value):vH (Űe t es f x).2.1:=by
 unfold Űe
 split;rename_i a wd b;rw[ϴp]
 let c:vH (t.put a).1:=by
  unfold SetTable.freeSlot at b
  rw[Ņq];rename_i j d e;let{rfl,g}:=nH h _ _ (show(t.probeStart f).dummy=Å from rfl) e;cases b;unfold SetTable.put;show{?_,?_};exact(if ϫn ϙi _=Ä then _ else _)=_;rw[lj h,Ñ ġ];show h.du;show x03 h.up g;cases b
 unfold Ām
 split;show c;show ϗe _ _;show ϗe _ _
theorem vH.plain(h:vH t)(b:Ð):vH { t with Ϭ:=b }:={h.du,h.up}
def y1f{f d i:Â}{j h:Ð}{k:Ú Æ}{t':Ža}{g:Ú Â}(e:Ŕn f d i j h k=À (t',g)):vH t'/\ϓj=j:=by
 unfold Ŕn at e;cases c:SetTable.layClean f k with
 |Å=>rw[c]at e;cases e|À owner=>rw[c]at e;cases e;show{{rfl,?_},rfl};exact((List.filterMap _ _).map _).Pairwise _;show ņm _ (R:=λa b:Â×Â=>a.1<b.1) (λa b z=>z) ?_;show List.Pairwise.filterMap _ (R:=λa b:Â=>a<b) (λa b z x m y l=>?_) ľl;let{_,_,rfl}:=āl m;let{_,_,rfl}:=āl l;show z
def vH.z2w(es:Ú Ϥa)(n:Â)(h:vH t):vH Ϸn.2.1/\Ϸn.2.1.led=įc:=by
 unfold Œi
 split;rename_i b a e;rw[ϴp]
 split;show y1f e;show{ϗe _ _,rfl};show{ϗe _ _,rfl}
def y1o(t:Ža)(es:Ú Ϥa)(a:Æ)(x:Value):(Űe t es a x).2.1.led=įc:=by
 unfold Űe
 split;rw[ϴp];unfold Ām
 split<;>rfl;rfl
section
variable{ă:ï}{w:æ}{K:Type}[œb K]{knd:KeyKind ă w K}{A:ù}{E:Value->Í->È}
def ng{h:Heap}{a:Ë}{o:Obj}{es es2:Ú Ϥa}{ep:Â}{t t2:Ža}(c:Ğ a=À o)(b:ϸ=.set es ep t) :(h.update a ñm).get? a=À { o with ć:=.set es2 (ep+1) t2 }:=by let e:=ßd ñm c (by rw[ëp es2 t2 b];rfl);rw[ëp es2 t2 b]at e;show e
def z07{s:Í}{g:Ð->Sem ïa}(z:∀(b:Ð)(k:Í)(q:ïa->Í->È),q () k->Ù è A (g b) q E k){a:Ë}{o:Obj}{es:Ú Ϥa}{ep:Â}{t:Ža}(m:ø a=À o)(r:ϸ=.set es ep t){c:Ú Ϥa}{t2:Ža}(x:Ϡj<Śb)(v:t2.fits Ϡj=Ä)(l:vH t2){wd:Ð}{R:É Ð->Í->È}(h:∀(h':Heap)(es':Ú Ϥa) (e:Â) (t':Ža),űa a â h'->ċ a=À { o with ć:=.set es' e t' }->ϴm þj->t'.fits es'.size=Ä->vH t'->ϓj=t2.led->R Íj { s with ç:=h' }) :Ù è A (storeSet a c t2 >>= λ_=>if(!wd&&t2.tooFull)=Ä then g īh.2.2 >>= λ_=>storeSet a īh.1 īh.2.1 >>= λ_=>pure Íj else pure Íj) R E s:=by
 show Ó (ķm (es':=c) (t':=t2) m r ?_ (ϟd x));let f:=ng (es2:=c) (t2:=t2) m r;let n:=ϭg â a (Obj.putSet c t2)
 split;let p:=relayAll_perm t2 c ϕd;let i:=relayAll_fits t2 c ϕd;let{d,j}:=l.z2w c ϕd;generalize Œi t2 c ϕd=L at *;let{es2,u,y}:=L;dsimp only at *;have B:es2.size=Ϡj:=by rw[<-Ĺ,ŧf,Ĺ]
 show Ó (z y _ _ (Ó (ķm (es':=es2) (t':=u) f rfl ùa (ϟd Ê))));show h _ es2 _ u (łd (ϭg _ a _)) (ng (o:={ o with ć:=.set c (ep+1) t2 }) f rfl) p i d j;show ó (h _ c _ t2 n f ϗc v l rfl)
def z3d{s:Í}{a:Ë}{o:Obj}{es:Ú Ϥa}{ep:Â}{t:Ža}{k:K}{x:Value}{Q:Ð->Í->È}(z:űe k x=Ä)(u:x.scannable=Ä)(B:ø a=À o)(H:ϸ=.set es ep t)(r:őj knd Ϥb)(R:ϗ+1<Śb)(N:ĥc ϗ=Ä)(X:vH t)(T:(∃e∈Ϥb,űe k e.2=Ä)->Q Ã s)(O:(∀e∈Ϥb,űe k e.2=Ã)->∀(h':Heap)(es':Ú Ϥa) (c:Â) (t':Ža),űa a â h'->ċ a=À { o with ć:=.set es' c t' }->ϴm (Ϥb++[(knd.hash k,x)])->t'.fits es'.size=Ä->vH t'->ϓj=įc->Q Ä { s with ç:=h' }) :Ù è A (øi a x Ėd) Q E s:=by
 unfold øi setAddHashedIn;show ϝa (Ó (ϗd (es:=es) (t:=t) B H N ?_));rw[ϴp];rw[byScan_of u (çc R) r,Ï rfl];unfold setAddByScan;show Ó (Ó (çd (Ó (wpAny_setScan_of z B H N r ?_))));cases hr:List.findIdx? (λe=>űe k e.2) Ϥb with
 |À j=>dsimp only;let{W,S,_}:=List.findIdx?_eq_some_iff_getElem.mp hr;show ó (ó (T {Ϥb[j],ϐb W,S}))
 |Å=>
  dsimp only;let P:∀e∈Ϥb,űe k e.2=Ã:=λe U=>List.findIdx?_eq_none_iff.mp hr e U
  let I:∀(b:Ð){G:Í}{F:ïa->Í->È},F () G->Ù è A (match b with|Ä=>rule "set.scan.the-table-gave-way" |Ã=>pure ()) F E G:=λb _ _ q=>by cases b;show ó q;show çd q
  let C:=layNew_perm t es Ėd x;let i:=layNew_fits t es Ėd x;let m:=X.lay es Ėd x;let n:=y1o t es Ėd x;generalize Űe t es Ėd x=L at *;let{y,d,wd,Y}:=L;dsimp only at *;rw[Åe]at C
  have v:Ĥc<Śb:=by rw[<-Ĺ,C.length_eq,ì,Ĺ];show R
  show Ó (I Y ?_)
  split;show Ó ?_;rw[hashByValue_scannable 8 u];show ó ?_
  let h:vH ϑg/\(ϑg).led=d.led/\(ϑg).fits Ĥc=Ä:=by split;show{m,rfl,i};show{m.plain Ã,rfl,SetTable.fits_plain_off i}
  show z07 Ēm B H v h.2.2 h.1 λh' es' c t' J g p f b l=>?_
  rw[ϴp];show ó (ξd śo ((őe h.2.1).trans n));rw[ŵq];simp only[↓Ϛi];show z07 Ēm B H v i m λh' es' c t' J g p f b l=>?_
  rw[ϴp];show ó (ξd śo (őe n))
#print a
nonrec def ϓa:Value->zY
 |.int i _=>.inl i|.str x _=>.inr x|_=>.inl 0
def KO(h:t_ k v=Ä):ϓa v=k:=by rcases jh h with⟨i,t,rfl,rfl⟩|⟨x,t,rfl,rfl⟩<;>rfl
section
variable{ă:ï}{w:æ}
def j7(ă:ï)(w:æ)(a:Ë)(ks:Á zY)(h:Heap):È:=∃o es ep t,Ğ a=À o/\Ţi/\ϸ=.set es ep t/\őj öa Ϥb/\ϗ<Śb/\ĥc ϗ=Ä/\vH t/\įc=Ϗd/\(Ļf λe=>ϓa e.2).Perm ks
def j7.keep{a:Ë}{ks:Á zY}{h h':Heap}(z:j7 ă w a ks h)(k:∀o,Ğ a=À o->ċ a=À o):j7 ă w a ks h':=by let{o,b,c,t,d,r}:=z;show{o,b,c,t,k o d,r}
def eh(b:őj öa es)(c:e∈es):t_ (ϓa e.2) e.2=Ä:=by obtain⟨⟨k,a,_⟩,_⟩:=b e c;let a:t_ k e.2=Ä:=a;rw[KO a];show a
def lL:Éb ks k=Ä↔k∈ks:=by unfold Éb;rw[ϋm];show{λ⟨x,a,e⟩=>š e▸a,λh=>{k,h,ú rfl}}
def j7.add{A:ù}{E:Value->Í->È}{s:Í}{a:Ë}{ks:Á zY}{k:zY}{x:Value}{Q:Ð->Í->È}(z:j7 ă w a ks â)(hk:t_ k x=Ä)(W:Ń+1<Śb)(h:∀(h':Heap)(b:Ð),(∀c o,c≠a->ø c=À o->ċ c=À o)->j7 ă w a (tt ks k) h'->Q b { s with ç:=h' }):Ù è A (øi a x ((öa).hash k)) Q E s:=by
 let{o,v,P,t,I,J,L,d,F,G,K,H,r}:=z;have U:v.size=Ń:=by rw[<-r.length_eq,ã,Ĺ]
 refine z3d (knd:=xg ă w) (k:=k) hk (iX hk) I L d Ê G K (λ⟨e,u,q⟩=>?_) λO h' j C S N g p f B l=>?_;let q:t_ k e.2=Ä:=q;let m:Éb ks k=Ä:=lL.mpr (r.mem_iff.mp (œc {e,u,KO q}));let y:tt ks k=ks:=by unfold tt;rw[m,Ï rfl]
 let:=h â Ã Ğn (by rw[y];show{o,v,P,t,I,J,L,d,F,G,K,H,r});rw[Ϯp];let m:Éb ks k=Ã:=by
  cases c:Éb ks k with
  |Ã=>rfl|Ä=>
   exfalso
   let{e,u,q}:=Èa (r.mem_iff.mpr (lL.mp c));let i:=eh d u;rw[q]at i;let n:t_ k e.2=Ã:=O e u;rw[n]at i;cases i
 let y:tt ks k=ks++[k]:=by unfold tt;rw[m,Ñ ġ]
 have X:j.size=v.size+1:=by rw[<-Ĺ,ŧf,ì,Ĺ];rfl
 show h h' Ä (λc T R e=>(N.2 c R).trans e) ?_;rw[y];refine{_,j,C,S,g,J,rfl,(d.push (knd:=xg ă w) (k:=k) hk (iX hk)).perm p,by omega,f,B,őe H,?_};show(p.map λe=>ϓa e.2).trans ?_;rw[Ċa];show ϒc (ĥf ?_);exact[ϓa x]=[k];rw[KO hk]
theorem x3m{A:ù}{E:Value->Í->È}{s:Í}(a:Value){Q₁:Value->Í->È}(h:Q₁ Ġa { s with ç:=Ùa { cls:=.type Ś,Âd:=Å,ć:=.set #[] 0 Ϩm } }) :ĥb è A (.call (.builtin Æi) {ßi,[]}) (wants Q₁ E) s:=by
 show ϵm (show Ù _ Çb (checkBuiltinCall Æi {ßi,[]} >>= λ_=>again (.builtin Æi {ßi,[]})) _ _ s from ?_);show Ó (īi (F.newCall_set_1 a) (ó {Ϯd Ân _,Úc (F.entry_set_new) ?_}));rw[Ðd (Ân) _];unfold Builtin.«set.__new__» Builtin.Frozenset.newClass;let e:=sub_set_self;let{c,g,d,b,f}:=s;rw[ϴp]
 wp_walk
 show Ϲe ùa;rw[ϴp];simp only[newObj];show Ó (wpAny_alloc Ŗp)
theorem rp{A:ù}{R:ūd->Í->È}{d it l:Ë}{its:Á Value}(J:ča=Å)(p:d≠l)(g:d≠it)(m:l≠it) :∀(ks:Á zY)(i:Â)(acc:Á zY)(s:Í),ļm it l i->Ði l ϥ->i+Ń=Ϫa->(∀(j:Â)(k:zY),ks[j]?=À k->∃v,its[i+j]?=À v/\t_ k v=Ä)->
   j7 ă w d acc â->žo+Ń+1<Śb->(∀h' tk,j7 ă w d (ks.foldl tt acc) h'->(∀b o,b≠d->b≠it->ø b=À o->ċ b=À o)->R ϓp { s with ç:=h',Ĕ:=tk })->
   ĥb è A (.builtin "set.update.loop" {[.ref d,.ref it],[]}) R s
 | [],i,acc,s,st,hl,hn,hp,hd,hz,h=>by show Úc İl ?_;rw[Ðd Ϩg _];unfold Builtin.«set.update.loop»;refine Ó (Ðh (by show J) st hl čl λh' K=>?_);show ó (h h' ē (hd.keep λo e=>K d o g e) λb o _ O e=>K b o O e)|k::ks,i,acc,s,st,hl,hn,hp,hd,hz,h=>by
  let{v,T,I}:=hp 0 k rfl;show Úc İl ?_;rw[Ðd Ϩg _];unfold Builtin.«set.update.loop»;refine Ó (Êh st hl (x:=v) (by simpa using T) λC u W=>?_);let f:∀c o,c≠it->ø c=À o->ϰj c=À o:=λc o U e=>(W.2 c U).trans e
  let H:j7 ă w d acc C:=hd.keep λo e=>f d o g e
  rw[Ĉ]at hz hn;show Ó (ϝa ?_);unfold setAdd;show ϝa (Ó ((öa).pyHash (k:=k) I ?_));refine H.add (s:={ s with ç:=C,Ĕ:=_ }) I Ê λS X n E=>?_
  let a:∀c o,c≠d->c≠it->ø c=À o->S.get? c=À o:=λc o t q e=>(n c o t (f c o q e))
  show ó {Ϯd (Ϩg) _,?_};let P:=z3c acc k;show rp (its:=its) J p g m ks î (tt acc k) _ ?_ ?_ Ê (λj L e=>?_) E Ê λh' tk B N=>?_;show u.at λo e=>n it o (λz=>g ħb) e;let{o,e,r}:=hl;show{o,a l o (λz=>p ħb) m e,r};let{Q,y,G}:=hp ϭ L Ňa;show{Q,by rw[show i+1+j=i+ϭ by omega];show y,G};show h h' tk B λc o t q e=>N c o t q (a c o t q e)
set_option maxHeartbeats 8000000 in
def z52{A:ù}{E:Value->Í->È}{s:Í}{l:Ë}{o:Obj}{its:Á Value}{n:Â}{ks:Á zY}{Q:Value->Í->È}(W:ča=Å)(t:ø l=À o)(K:Åb=.type Ĩ)(g:ϸ=.seq ϥ n)(U:Ń=Ϫa)(S:∀(j:Â)(k:zY),ks[j]?=À k->∃v,its[j]?=À v/\t_ k v=Ä)(hz:Ń+1<Śb)(h:∀h' tk,j7 ă w Ý Źh h'->(∀b o,ø b=À o->ċ b=À o)->Q Ġa { s with ç:=h',Ĕ:=tk }) :Ù è A (ĳb Źf ąj) Q E s:=by
 let{_,_,em}:=PySem.F.called_set.mro;let e1:=PySem.F.called_set.made;let e2:=PySem.F.called_set.sub;let e3:=PySem.F.called_set.notType;let e4:=PySem.F.called_set.canCreate;let e5:=F.typeCall_set_1 Ũb;refine ĕf (ϵm (show Ù _ _ (callAny Źf _) _ _ _ from ó {PySem.Code.quiet_builtin _ Æa,Úc F.entry_type_call ?_}));rw[Around.under_plain (weight_type_call_type Ś ąj []) rfl]
 repeat (any_goals (first|wp_step|assumption))
 show éd (x3m Ũb (E:=E) (Q₁:=λv z=>v=.ref Ý/\z={ s with ç:=Ùa { cls:=.type Ś,Âd:=Å,ć:=.set #[] 0 Ϩm } }) {rfl,rfl}) λr z B=>?_
 cases r with
 |Ϛe e=>show B|ok fl=>
  cases fl with
  |ret v=>
   let{rfl,rfl}:=B;generalize hb0:Ϗd=b;obtain⟨d,f⟩:∃d,d=Ùa { cls:=.type Ś,Âd:=Å,ć:=.set #[] 0 łn }:={_,rfl};let L:ϟj Ý=À { cls:=.type Ś,Âd:=Å,ć:=.set #[] 0 łn }:=by rw[f];show ŷ _ rfl
   let I:∀c a,ø c=À a->ϟj c=À a:=λc a e=>by rw[f];show ě _ e
   let u:d.objs.size=Ý+1:=by rw[f];show Ϡa ..
   let p:j7 ă w Ý [] d:={_,#[],0,_,L,{rfl,rfl,rfl},rfl,λe T=>by simp at T,by decide,by rfl,{rfl,čf},hb0.symm,Ľc _};rw[<-f];let X:Shared.TypeIs { s with ç:=d } Ġa Ś:={_,L,rfl};let i1:=PySem.F.called_set.init.lookup;let Z:=PySem.F.called_set.init.bind Ġa
   repeat (any_goals (first|wp_step|assumption))
   show éd (όl (R:=wants (λr q=>r=.none/\∃h' tk,q={ s with ç:=h',Ĕ:=tk }/\j7 ă w Ý Źh h'/\∀b o,ø b=À o->ċ b=À o) E) PySem.F.called_set.init.plain F.entry_set_init (check_set_init_1 X ?_)) λN q i=>?_;let C:=I l o t;let{a,od,O,os}:=o;simp only at K g;subst K g;let G:d.IsList l ϥ:={_,C,rfl,n,rfl};let z:=F.sub_list_set;let q:=F.sub_list_frozenset;let Y:(Ϣb Ĩ == Ϣb Ña)=Ã:=by decide
   let m:=ĥ t;unfold Builtin.«set.__init__» noKeywords Builtin.Frozenset.updateFrom;generalize eP:ťd=P
   wp_walk
   subst eP;show Öd G (Ó (PySem.wpAny_runValue ?_));let J:∀c a,ø c=À a->(d.push { cls:=.type ϊh,ć:=.fields #[.ref l,.int 0 0] }).get? c=À a:=λc a e=>ě _ (I c a e)
   refine rp (l:=l) (its:=its) (by simp[W]) (xh (Ŏa m)) (οb ϝc) (οb (Ŀb m)) ks 0 [] _ {_,ŷ _ rfl,rfl,rfl} {_,J l _ t,rfl,n,rfl} êm (λj k e=>by rw[Ķ];show S j k e) (p.keep λa e=>ě _ e) äm λh' tk y x=>?_
   show ó (show Ù _ _ (ret ϥa) _ _ _ from ó {rfl,h',tk,rfl,y,λc a e=>?_});let H:=ĥ e;show x c a (xh (Ϟ H)) (οb (Ŀb H)) (J c a e)
   .cases N with
    |Ϛe e=>show i|ok f2=>
     cases f2 with
     |ret r=>
      let{rfl,h',tk,rfl,y,x}:=i
      repeat (any_goals (first|wp_step|assumption))
      show h _ _ y x
     |_=>show i.elim
  |_=>show B.elim
#print a
def Oi:Slot Ňb Űc Ûf:=
 .of (owner := Ňb) (n := Űc) ďk Æa Æa Æa ũk Ϟg
def sG:Slot Ňb Ůo Üf:=
 .of (owner := Ňb) (n := Ůo) ďk Æa Æa Æa ũk Ϟg
def x43:ág Ťg Ûf=À Builtin.«set_iterator.__next__»:=entryFor_of_tree ņb
def x42:ág Ťg Üf=À Builtin.«dict_keyiterator.__iter__»:=Ąn (id' := "dict_keyiterator.__iter__") ņb (by first|rfl|decide +kernel) Æa ņb
def x3k:ág Ťg "set.__iter__"=À Builtin.«frozenset.__iter__»:=Ąn (id' := "frozenset.__iter__") ņb rfl Æa ņb
def sF:Manifest.owners.lookup (String.ofList (Ňb).toList)=À Manifest.sig_set_iterator:=by rw[Áq]
def x40(a:Value):Ŋg Ûf {[a],[]}:=by unfold Ŋg;rw[signature?_of (id := Ûf) (n:=['_','_','t','x','e','n','_','_']) (o:=ģk) ņb sF];rw[Áq]
def x3z(a:Value):Ŋg Üf {[a],[]}:=by unfold Ŋg;rw[signature?_of (id := Üf) (n:=['_','_','r','e','t','i','_','_']) (o:=ģk) ņb sF];rw[Áq]
section
variable{M:Źd}{A:ù}{E:Value->Í->È}
def z5b(a:n≠0)(h:∀i d,i<n->Q i { s with Éc:=d }):Ù M A (choose src n) Q E s:=
 λ_ _ _=>{a,h _ _ (ϐo _ (Nat.pos_of_ne_zero a))}
theorem GK{α:Type}:∀{xs:Á α}{i:Â}{x:α},xs[i]?=À x->(x::xs.eraseIdx i).Perm xs
 | [],_,_,h=>by cases h|y::ys,0,x,h=>by cases h;show Ľc _|y::ys,i+1,x,h=>(Čn y x _).trans ((GK Ĉa).cons y)
theorem eV:∀(n:Â)(xs:Á α)(s:Í){Q:Á α->Í->È},ë<=n->(∀ys d,ys.Perm xs->Q ys { s with Éc:=d })->Ù M A (ϱf n xs) Q E s
 |0,xs,s,Q,hn,h=>by
  cases xs with
  |nil=>unfold ϱf;show ó İn|ð _ _=>simp at hn
 |n+1,[],s,Q,hn,h=>by unfold ϱf;show ó İn|n+1,x::xs,s,Q,hn,h=>by
  unfold ϱf;refine Ó (z5b ô λi d a=>?_);let e:όa[i]?=À (όa[i]):=Đ a;rw[e]
  let c:((όa).eraseIdx i).length<=n:=by rw[Ϗl,Ï a];rw[Ĉ]at hn ⊢;omega
  show Ó (eV n _ { s with Éc:=d } c λys b p=>ó ?_);show h _ b ((List.Perm.cons _ p).trans (GK e))
#print a
theorem n9(next:Â->Â):∀(n k:Â)(left:Á α)(out:Ú α),left.length<=n->(ŏf next n k left out).toList.Perm (Če++left)
 |0,k,left,out,h=>by
  cases left with
  |nil=>unfold ŏf;show ĥf (Ĩg).symm|ð _ _=>simp at h
 |n+1,k,left,out,h=>by
  unfold ŏf;cases left with
  |nil=>show ĥf (Ĩg).symm|ð x xs=>
   let a:next k%(όa).length<(όa).length:=ϐo _ ô;let e:όa[next k%(όa).length]?=À (όa[next k%(όa).length]):=Đ a;rw[e];rw[ϴp]
   let b:((όa).eraseIdx (next k%(όa).length)).length<=n:=by rw[Ϗl,Ï a];rw[Ĉ]at h ⊢;omega
   show(n9 next n Ň _ _ b).trans ?_;rw[Åe,Š];show(ϗc).append (GK e)
def y9g(next:Â->Â)(xs:Ú α):(pickOrder next xs).toList.Perm ϫf:=by exact(ŏf next ĥa 0 ϫf #[]).toList.Perm _;let:=n9 next ĥa 0 ϫf #[] ô;rw[ϲp]
def z40(d:Ϲd (·<·)):ĵa xs 0=0:=by let{a,b,_}:=Em d 0;by_cases c:ĵa xs 0=0;show c;let:=b 0 Ê Ê;omega
def z3z(d:Ϲd (·<·))(h:i<ĥa):ĵa xs Ðj=i+1:=by let{a,b,c}:=Em d Ðj;generalize ĵa xs Ðj=p at *;rcases Ċf p î with q|q|q;let:=c i h Ê;omega;show q;let f:=b î Ê q;let e:=Ϙd d i î Ĉa Ûe Ê;simp only[Ċb]at e;omega
section
variable{ă:ï}{w:æ}{A:ù}{E:Value->Í->È}
def TF(h:Heap)(I:Ë)(fs:Ú Value):È:=Ğ I=À { cls:=.type Ňb,ć:=.fields fs }
structure Wk(w:æ)(a:Ë)(es:Ú Ϥa)(ep:Â)(t:Ža)(ord:Á Value)(I tp:Ë)(i:Â)(h:Heap):È where
 st:∃o,Ğ a=À o/\ϸ=.set es ep t
 md:(Òd ŕc=Ä/\ord=(Ϡg).toList.map (·.2)/\∃sl:Â,TF h I #[ϑ sl,ϑ i,.ref a,ϑ ϗ,ϑ ep]) \/
  (Òd ŕc=Ã/\ϒd=Ã/\įc=Ä/\vH t/\ord=Ļf (·.2)/\∃sl:Â,TF h I #[ϑ sl,ϑ i,.ref a,ϑ ϗ,ϑ ep]/\ĵa ſa sl=i) \/
  ∃places:Á Â,ord=Ŵo (λp=>Ųl.2)/\(∀p∈places,p<ϗ)/\TF h I #[.ref tp,ϑ i,.ref a,ϑ ϗ,ϑ ep]/\Ğ tp=À { cls:=.type Ϗ,ć:=.seq (Ŵo λp:Â=>ϑ p).toArray }
def y0b(g:ø a=À o)(B:Ţi)(k:ϸ=.set es ep t)(m:ĥc ϗ=Ä)(v:ϗ<Śb)(u:vH t)(ld:įc=Ϗd)(h:∀h' d ord I tp,ord.Perm (Ļf (·.2))->Ý<=I->(tp=a\/Ý<=tp)->I≠tp->Wk w a es ep t ord I tp 0 h'->(∀b ob,ø b=À ob->ċ b=À ob)->Q Ăc { s with ç:=h',Éc:=d }):Ù è A (ťd Ŗ) Q E s:=by
 let r:ìb Ŗ Ś:={o,g,B.1};show Ĺm r Àn (Ļb (Àn) r x3k ?_ (F.args_set_iter_1 _));unfold Builtin.«frozenset.__iter__» Builtin.Frozenset.slot0 slotArgs;simp only[ſm,Úi,ŀb,↓Ϛi,Žo,Řc,œh];unfold Builtin.Frozenset.addrOf Builtin.Frozenset.sizeOf;rw[ŵq]
 try dsimp only
 rw[ŵq];show Ó (Ó (ϻl (es:=es) g k m ùa));unfold setDrawn ϋf;show Ó (Ó (ϗd (es:=es) (t:=t) g k m ?_));rw[ϴp];show Ó (Ó (Ϲe Ëj));exact Ù _ _ (Τa ϓk) _ _ _;let G:ϗ<=ä:=ϟd v;by_cases c:ϓk=Ä;rw[Ï c];refine Ó (eV ϗ _ s ô λn d p=>?_);let C:ţb=ϗ:=by rw[ŧf,Øa]
 show Ó (ĕh ?_ (by rw[ã,C];show G));let l:(Ùa { cls:=.type Ϗ,ć:=.seq (ϙe λi:Â=>ϑ i).toArray }).get? a=À o:=ě _ g;show Ó (ĸm (es:=es) (t:=t) l k m ?_);unfold îp;show Ó čk;show h _ d (ϙe λp=>Ųl.2) _ Ý ?_ ?_ (.inr Ē) ?_ {{o,ě _ l,k},.inr (.inr {n,rfl,λq y=>?_,ŷ _ rfl,ě _ ťc})} λb ob e=>ě _ Ĳd;show(p.map _).trans (ĥf ?_);refine List.ext_getElem ô λj z H=>?_
 let x:j<ϗ:=by simpa using z
 simp[Ęd,x];rw[Ϡa];show ūf _;rw[Ϡa];show xh (Ŏa ϝc);simpa using ϟn y;rw[Ñ c];show Ó (Βa (ĸm (es:=es) (t:=t) g k m ?_));unfold îp;show Ó čk;cases f:Òd ŕc with
 |Ä=>show h _ įe _ _ a ((y9g (w.params.setOrder a ep) es).map (·.2)) Ē Ţ Ģn {{o,ě _ g,k},.inl {f,rfl,0,ŷ _ rfl}} λb ob e=>ě _ e|Ã=>
  rw[f]at c ld
  let c:ϒd=Ã:=by rw[Bool.not_eq_true]at c;show c
  show h _ įe _ _ a ϗc Ē Ţ Ģn {{o,ě _ g,k},.inr (.inl {f,c,ld,u,rfl,0,ŷ _ rfl,z40 u.up})} λb ob e=>ě _ e
def y3k{s:Í}{a:Ë}{o:Obj}{es:Ú Ϥa}{ep:Â}{t:Ža}{d g:Â}{Q:É (Value×Â)->Í->È}(i:ø a=À o)(b:ϸ=.set es ep t)(c:ĥc ϗ=Ä)(f:Òd ŕc=Ä)(h:Q ((Ϡg[g]?).map λe=>(e.2,d)) s):Ù è A (ĕg a d g ep) Q E s:=by unfold ĕg ϋf;show Ó ϻk;rw[Òq];rw[Ï f,Ñ ô];unfold setWalk ϋf;show Ó (Ó ϻk);rw[Òq];rw[Ï f];show Ó (Ϲe Ŗp)
def y3j{s:Í}{a:Ë}{o:Obj}{es:Ú Ϥa}{ep:Â}{t:Ža}{b g e:Â}{Q:É (Value×Â)->Í->È}(k:ø a=À o)(d:ϸ=.set es ep t)(i:ĥc ϗ=Ä)(f:Òd ŕc=Ã)(c:ϒd=Ã)(ld:įc=Ä)(h:Q (match es[ĵa ſa b]?,ſa[ĵa ſa b]? with|À (_,x),À j=>À (x,j+1)|_,_=>Å) s):Ù è A (ĕg a b g e) Q E s:=by unfold ĕg ϋf;show Ó (ϗd (es:=es) (t:=t) k d i ?_);rw[Òq];rw[Ñ (by rw[f];show ġ)];rw[ŵq];exact Ù _ _ (if ϒd=Ä then _ else _) _ _ _;rw[Ñ (by rw[c];show ġ)];show Ó (show Ù _ _ (Τa (!t.led&&!es.isEmpty)) _ _ _ from ?_);rw[Ñ (by rw[ld];show ġ)];show ó ëj
def S7{s:Í}{P:Fin->Í->È}{Q:É Value->Í->È}(c:ča=Å)(h:∀h',(∀b ob,ø b=À ob->ċ b=À ob)->Q Å { s with ç:=h' }) :Ù è Çb (Ņg ŋi [] >>= λe=>(ój e:Sem Fin)) P (λe s'=>Ù è A (isInstance e ŋi >>= λb=>if b=Ä then pure Å else throw e) Q E s') s:=by show Ó ?_;simp only[Ņg,newTuple];refine Ó (Öc (Ó (m:=Ăn _ _) (īi (a:=ϥa) įk Ϲn)) ĥh);simp only[ój];show Ó ĝm;rw[show śn=Å from c];rw[ŵq];show Ăo Ŭf;show ùh (T := ãd) (b:=Ä) {_,ŷ _ rfl,rfl} ān ?_;show ó (h _ λb ob e=>ě _ Ĳd)
def Yo{s:Í}{I:Ë}{fs:Ú Value}{k:Â}{v:Value}{Q:ïa->Í->È}(a:TF â I fs)(hk:k<fs.size)(h:∀h',TF h' I (fs.setIfInBounds k v)->űa I â h'->Q () { s with ç:=h' }):Ù è A (setField Ăc k v) Q E s:=
 Ĕh a rfl hk (h _ (ßd _ a rfl) ĉj)
def lZ{s:Í}{a:Ë}{es:Ú Ϥa}{ep:Â}{t:Ža}{h:Á Value}{I G:Ë}{i:Â}{Q:É Value->Í->È}(L:ča=Å)(l:I≠a)(P:I≠G)(C:ĥc ϗ=Ä)(lo:ϰb=ϗ)(W:Wk w a es ep t h I G i â)(hi:i<=ϰb)(O:∀v h',h[i]?=À v->Wk w a es ep t h I G î h'->űa I â h'->Q Áa { s with ç:=h' })(N:i=ϰb->∀h',(∀b ob,b≠I->ø b=À ob->ċ b=À ob)->Q Å { s with ç:=h' }):Ù è A (šd Ăc) Q E s:=by
 obtain⟨⟨o,y,B⟩,T⟩:=W
 obtain⟨first,g⟩:∃first,TF â I #[first,ϑ i,.ref a,ϑ ϗ,ϑ ep]:=by rcases T with⟨_,_,q,z⟩|⟨_,_,_,_,_,q,z,_⟩|⟨_,_,_,z,_⟩;show{_,z};show{_,z};show{_,z}
 let U:ìb Ăc Ňb:={_,g,rfl};unfold šd;show Ó (ûf (Îd (Ĳ:=ŭa Űc) U Oi (Ļb Oi U x43 ?_ (x40 _))));unfold Builtin.«set_iterator.__next__» slotArgs;simp -iota only [ſm,Úi,ŀb,↓Ϛi,Žo,Řc,œh];rw[ŵq];show Ó (wpAny_fieldsOf g rfl ?_);exact Ù _ _ (setEntries a >>= _) _ _ s;show Ó (ϻl (es:=es) y B C ?_);rw[Ñ ô];rw[ŵq];rcases T with⟨f,u,q,z⟩|⟨f,c,R,X,u,q,z,hb⟩|⟨d,u,S,z,Y⟩;rw[ĕq]
 let Z:(Ϡg[i]?).map (λe=>(e.2,q))=(h[i]?).map λv=>(v,q):=by rw[u,ė,ĭa,Option.map_map];rfl
 show Ó (y3k y B C f ?_);rw[Z];cases F:h[i]? with
 |À v=>exact Ù _ _ (υb (ϑ q)) _ _ _;refine Ó Üd;refine Ó ϙg;show ó {v,rfl,ó (O v x F {{o,?_,B},.inl {f,u,q,?_}} (œd m))};show(īn).trans ön;show K
 |Å=>
  rw[Œq]
  let e:i=ϰb:=by let:=List.getElem?_eq_none_iff.mp F;omega
  show S7 L λx m=>N e x λb ob k J=>m b ob İh
 rw[ĕq];show Ó (y3j y B C f c R ?_);rw[hb]
 let hps:t.place.size=ϗ:=by simp only[SetTable.fits,Ď,Ŵc]at C;show C.1
 by_cases hlt:i<ϗ;let e1:es[i]?=À (es[i].1,es[i].2):=Ŀc hlt;let e2:ſa[i]?=À (ſa[i]' Ê):=Ŀc Ê;rw[e1,e2]
 let F:h[i]?=À es[i].2:=by rw[u,ė,ĭa,e1];rfl
 exact Ù _ _ (υb (ϑ ((ſa[i]' Ê+1:Â):Æ))) _ _ _;refine Ó Üd;refine Ó ϙg;show ó {es[i].2,rfl,ó (O _ x F {{o,?_,B},.inr (.inl {f,c,R,X,u,ſa[i]' Ê+1,?_,z3z X.up Ê})} (œd m))};show(īn).trans ön;show K;let e1:es[i]?=Å:=äf Ê;rw[e1];rw[Œq];show S7 L λx m=>N Ê x λb ob k J=>m b ob İh;cases(Ça źh);exact Ù _ _ (seqItems? (.ref G) >>= _) _ _ s;show Ó ęn;have lp:êa=ϗ:=by rw[<-lo,u,ã]
 exact Ù _ _ (match(d.map λp:Â=>ϑ p).toArray[(i:Æ).toNat]? with|À (.int place _)=>_|À _=>_|Å=>_) _ _ _;rw[Ĝ];by_cases hlt:i<êa;let e1:(d.map λp:Â=>ϑ p).toArray[i]?=À (ϑ (d[i]:Â)):=by simp[hlt]
 let H:=S d[i] (ϐb hlt);let e2:es[d[i]]?=À (es[d[i]].1,es[d[i]].2):=Ŀc H
 let F:h[i]?=À es[d[i]].2:=by rw[u,ė,Đ hlt];simp[Ęd,H]
 rw[e1];exact Ù _ _ (Ϟn a ((d[i]:Â):Æ).toNat (ep:Æ).toNat >>= _) _ _ _;rw[Ĝ,Ĝ];unfold Ϟn;show Ó (Ó (ϗd (es:=es) (t:=t) y B C ?_));rw[ϴp];rw[Ñ ô,e2];show ó ?_;refine Ó Üd;refine ó {_,rfl,ó (O _ r F {{o,(ĕl).trans y,B},.inr (.inr {d,u,S,n,(j.2 G P.symm).trans Y})} j)};let e1:(d.map λp:Â=>ϑ p).toArray[i]?=Å:=by simp;omega
 rw[e1];exact Ù _ _ (υb (ϑ 0)) _ _ _;refine Ó Üd;refine Ó ϙg;show S7 L λh4 k4=>N Ê h4 λb ob k J=>k4 b ob ((m.2 b k).trans İh)
#print a
section
variable{ă:ï}{w:æ}{A:ù}{E:Value->Í->È}
def w0x(G:ča=Å)(m:I≠a)(r:I≠tp)(F:ĥc ϗ=Ä)(lo:Ħd=ϗ) :Walks ă w A I [I,a,tp] [I] Ħd (λi v=>ord[i]?=À v) (λi h=>i<=Ħd/\Wk w a es ep t ord I tp i h) where
 sub:=λb j=>by rw[Ĵ j];show Ġ ..
 frame:=λi h n ⟨u,W⟩ k=>by obtain⟨⟨o,L,R⟩,B⟩:=W;let y:=k I ϳ;let H:=k a ņo;let O:=k tp (Ų _ ņo);show{u,{o,H o L,R},?_};rcases B with⟨f,q,p,z⟩|⟨f,c,J,P,q,p,z,j⟩|⟨d,q,K,z,S⟩;show .inl {f,q,p,y _ z};show .inr (.inl {f,c,J,P,q,p,y _ z,j});show .inr (.inr {d,q,K,y _ z,O _ S})
 Ăb:=λi s Q E u ⟨g,W⟩ l=>lZ G m r F lo W g (λv n x N k=>by
  let:=l v n ē x {u,N} λb o j e=>(k.2 b λz=>j ōl).trans e
  rw[Ϯp]) λz=>Þ z (Ϟ u)
 done:=λs Q E ⟨g,W⟩ l=>lZ G m r F lo W g (λv n x=>by rw[Öa Ē]at x;cases x) λ_ n k=>l n ē λb o j e=>k b o (λz=>j ōl) e
 Ëc:=λi s Q E ⟨g,W⟩ l=>by
  let{_,B}:=W
  let C:ìb Ăc Ňb:=by rcases B with⟨_,_,p,z⟩|⟨_,_,_,_,_,p,z,_⟩|⟨_,_,_,z,_⟩<;>show{_,z,rfl}
  show Ĺm C sG (Ļb sG C x42 (show Ù _ _ (ret Ăc) _ _ s from ?_) (x3z _));show ó {_,rfl, Ňb,_,C,Oi.lookup,l}
def z9o(c:ìb Ŗ Ś)(h:Q Ã s):Ù è A (ãl Ŗ) Q E s:=by
 unfold ãl;show Ó (wpAny_specialOf c (F.slot_set_len.lookup) ?_);generalize hi:("set.__len__" : ìa)=x
 wp_delta
 rw[show splitId x=À (Ś,"__len__")from by subst hi;rw[Ϩp]];subst hi;refine Ó (ùh (T := Ś) (b:=Ä) c Ϟg ?_);refine Ăh (λz=>Þ z Ò) λ_=>Ăh ϋc λz=>Þ Æa z
 show Ó (èd c ëj)
def z5k(hh:ča=Å)(N:ø a=À o)(G:Ţi)(hd:ϸ=.set es ep t)(L:ĥc ϗ=Ä)(U:ϗ<Śb)(tb:vH t)(ld:įc=Ϗd)(h:∀h' d tk ord,ord.Perm (Ļf (·.2))->Ý<Ϣn->(∀b ob,ø b=À ob->ċ b=À ob)->Q ord { s with ç:=h',Éc:=d,Ĕ:=tk }):Ù è A ģp Q E s:=by
 rw[îq];exact Ù _ _ (äl Ġa Ŗ Ġa) _ _ { s with ç:=Ùa àd };unfold äl;let p:(ŋp).get? a=À o:=ě _ N;let r:=ĥ N;let n:Ý≠a:=xh (Ŏa r);show Ó (èd (T := Ś) {o,p,G.1} ?_);let q1:ěl Ġa Ŗ=Ã:=by simp[ěl,n]
 let q2:(Ϣb Ś == Ϣb Ĩ)=Ã:=by decide
 let q3:(Ϣb Ś == Ϣb Ϗ)=Ã:=by decide
 rw[Ñ (by rw[q1,q2,q3];show ġ)];show Ó (y0b p G hd L U tb ld λy d ord I tp O B x K W0 H=>?_);show Ó (ϝa (z9o {o,H a o p,G.1} ?_));show Ăh ϋc λz=>Þ Æa z
 show Ó (çd Ŭf);let z0:(ŋp).objs.size=Ý+1:=Ϡa ..;rw[z0]at B x;let S:Ħd=ϗ:=by rw[O.length_eq,ã,Ĺ]
 let J:I≠a:=xh (Ŏa (Ū (Ŀb r) B))
 let v:Ý ∉ [I,a,tp]:=λm=>by simp only[Ěa,Ϣ,ĸa]at m;rcases m with m|m|m;show Þ B Ŕk;show n m;rcases x with e|e;show n (m.trans e);show Þ e Ŕk
 exact Ù _ _ (àp Ý (·.push .none) >>= λ_=>àp Ý (·.pop)) _ _ _;let R:y.get? Ý=À àd:=H _ _ ťc;show Ó (āh R rfl ?_);let Z:=ßd (äb (·.push ϥa)) R rfl;refine āh (hz:=by seq_fits) Z rfl (ó {Ϯd (F.plain_extend_loop) _,?_});let S3:=ßd (äb (·.pop)) Z rfl;let W:=w0x (ă:=ă) (w:=w) (A:=Çb) (ep:=ep) (t:=t) (es:=es) (by show hh) J K L S
 let k:∀b ob,b≠Ý->y.get? b=À ob->((y.update Ý (äb (·.push ϥa))).update Ý (äb (·.pop))).get? b=À ob:=λb ob u e=>
  (Őm).trans ((Őm).trans e)
 refine codeAny_extend_loopS W.toS (by rw[S];show ϟd U) Ý v Ġa Ħd 0 _ #[] _ rfl Ĩb (W.frame 0 y _ {Ź _,W0} λb C ob e=>k b ob (λz=>v (z▸C)) e) S3 (ItemsOf.nil _) λP g c' X q f=>?_
 rw[Moved.eq_with X];show Ó (Şi q ?_)
 let ea:üj=ord:=by
  show èc λj=>?_
  by_cases c:j<Ħd;let Y:j<g.size:=by rw[f.1];show c
  rw[ĭa,Ŀc Y];show(f.2 j _ (Ŀc Y)).symm;rw[Öa (by rw[Ĺ,f.1];omega),Öa Ê]
 exact Ù _ _ (pure üj) _ _ _;rw[ea];show ó (h P.heap d P.toks ord O Še λb ob e=>?_);let i:=ĥ e;show X.heap b ob (λm=>?_) (k b ob Ío (H b ob Ĳd));rcases ĩ m with m|m;show Þ i (by rw[m];show Ôc _);rw[Ĵ m]at i;show Þ (Ū i (Nat.le_of_succ_le B)) Ēa
#print a
nonrec def KC:Value->Æ
 |.int i _=>i|_=>0
theorem iE:∀{vs:Á Value},(∀v∈vs,∃i t,v=.int i t)->ób vs (Ľg KC)
 | [],_=>.nil|v::vs,h=>by let{i,t,rfl}:=h v ϳ;show .cons _ _ (iE λx a=>h x čc)
section
variable{ă:ï}{w:æ}{A:ù}{E:Value->Í->È}
def x4l(N:ča=Å)(z:j7 ă w a Çg â)(W:ţ<64)(h:∀h' d tk p out c ns',Ý<=p->ċ p=À ńh->ób Če ns'->øj ns->üi (·<=·)->(∀b ob,ø b=À ob->ċ b=À ob)->Q Ŵ { s with ç:=h',Éc:=d,Ĕ:=tk }) :Ù è A Ϸh Q E s:=by
 let{o,es,ep,t,P,R,hd,B,I,L,X,O,pk}:=z;rw[ϵp];refine Ó (m:=Ťi Ųa 1 1 _) (Βa (z5k ňi P R hd L I X O λu d tk f y G H=>Ó (úf ?_ (by rw[y.length_eq,ã,Ĺ];show ϟd I))))
 let q:(ĥp).Perm Çg:=by let:=y.map ϓa;rw[ϰ]at this;show this.trans pk
 let n:∀v∈f,∃i tk,v=ϥb i tk:=λv n=>by let{e,S,rfl}:=Èa (y.mem_iff.mp n);let{i,_,K}:=Èa (q.mem_iff.mp (Ģh n));let:=eh B S;rw[<-K]at this;rcases jh this with⟨j,tk,_,e⟩|⟨x,tk,e,_⟩;show{j,tk,e};cases e
 let Y:=iE n
 let J:(Ţd KC).Perm ns:=by
  let g:=q.map λk:zY=>match k with|.inl i=>i|.inr _=>(0:Æ)
  rw[ϰ,ϰ]at g
  let e1:Ϥ ľo=ns:=by rw[show ľo=id from rfl,þe]
  let e2:Ţd (åk∘ϓa)=Ţd KC:=üf λv C=>by let{i,tk,rfl}:=n v C;rfl
  rw[e1,e2]at g;show g
 let F:íb<64:=by let:=J.length_eq;rw[ã]at this;omega
 let r:(u.push ğm).get? ąo=À ğm:=ŷ _ rfl;show Ó (ϝa (Ļb slot_list_sort {_,r,rfl} entry_list_sort (ϩh r Y F λout ns' Z U T=>{_,rfl,?_}) ŋh));let{c,hc}:=Ïi (vs:=f) (out:=out) r;show ó {_,rfl,h _ d tk ąo out c ns' Ũj hc Z (U.trans J) T λb ob e=>?_};let l:=ĥ Êp;rw[Ϩh (xh (Ϟ l)) (by rw[Ųo];show Ŀb l)];show ě _ Êp
#print a
section
variable{X:Cx}
abbrev Jj(ă:ï)(w:æ)(a:Ë)(ks:Á zY):HO:=.ext (j7 ă w a ks)
def x0w(X:Cx):Á V->Hp->VK->È:=λb H Q=>∃(a:Ë) (ks:Á zY),b=ϲ/\ya X.K H a Ĺf/\Ń<1000/\∀p,H p=Å->Q Ŵ (Ω (Jj ö X.w p Źh))
def z51(b:ŵ=Ä):vg X Źf (x0w X):=by
 intro B s σ H G C Q I r h;let{a,i,rfl,y,L,q}:=h;let{u,rfl,x}:=qG r;cases(show u=Ė a from x);let{d,f,{o,n,j,A,l,c},F}:=Ϛ y;have v:Ťb=êa:=by rw[<-íb,ã]
 refine z52 (ýa b) j A c v (ic ö X.w f) (by unfold Śb;omega) λJ p g m=>?_
 show{.ref Ý,_,Ϗa (a:=Ý) (o:=Jj ö X.w Ý (i.foldl tt [])) (t':=p) m Ē {g,?_,λE K z k=>z.keep k},rfl,q _ Ϝc};let{t,_,_,_,e,_}:=g;show{t,e}
def _root_.L2.Inv.draw(I:Inv X zA σ H s)(d:Drawn):Inv X zA σ H { s with Éc:=d }:={Åd,Óc,ϑa,Ŷe,Ėa,Ľa,ϐa,Ĵb,ńa,Ě,Āb}
def x10(X:Cx):Á V->Hp->VK->È:=λb H Q=>∃(a:Ë) (ns:Á Æ),b=ϲ/\H a=À (Jj ö X.w a Çg)/\ţ<64/\∀l,H l=Å->Q Ũb Ϧg
def z55(f:ŵ=Ä):vg X ϴd (x10 X):=by
 intro B s σ H E C Q I r h;let{a,b,rfl,m,k,q}:=h;let{u,rfl,v}:=qG r;cases(show u=Ė a from v);let{z,_}:=(show xm ö X.w H â a (Jj ö X.w a (b.map ĭ))from Ě a _ m);show x4l (ýa f) z k λh' d o p i c j l A y x t n=>?_
 let e:j=Àb b:=Bi (Œd (ġg).symm) t (ñe b);subst e;let g:(Àb b).length=Ûa:=(ġg).length_eq;show{.ref p,_,(I.draw d).laid (t':=o) (h':=h') n l (show xm ö X.w _ _ _ Ĵl from{?_,i.toList,c,KD y,?_}),rfl,q _ (Ęb l)};rw[ã,g];rw[Ůq];show A
#print a
#print L2
namespace L3
open ľ ś ŋ L2
nonrec def gC(a:Á Æ)(n:Æ):Á Æ:=if(Ŷd λm=>decide (m=n))=Ä then a else a++[n]
def qr(ns:Á Æ):Á Æ:=œi gC []
theorem z3b(a:Á Æ)(n:Æ):tt Īp (.inl n)=(gC a n).map ĭ:=by
 let e:Éb Īp (.inl n)=Ŷd λm=>decide (m=n):=by
  unfold Éb;rw[ĉi]
  congr 1
  funext m
  show îf {ïc,ĳ _}
 unfold tt gC;rw[e]
 split;rfl;rw[Ċa];rfl
theorem mS:∀(ns acc:Á Æ),(Çg).foldl tt (acc.map ĭ)=(ϵn).map ĭ
 | [],_=>rfl|n::ns,acc=>by rw[ĵ,Êa,Êa,z3b];show mS ns (gC acc n)
def TX:Á D->É D
 | [.lst xs]=>(ώa xs).bind λa=>if úa<1000/\(qr a).length<64 then À (.lst ((Àb (qr a)).map ę))else Å|_=>Å
def sC(b:ŵ=Ä)(R:Gl X Ųa)(J:ñ Ųa=Å)(r:Gl X Ś)(u:ñ Ś=Å)(S:SA X [e] fs)(C:Î Ča q12) :SF X (.Call Ĺl [.Call (.Name Ś p2) [e] [] pos2] [] pos) (eL TX fs):=by
 let{t,L,k}:=S.h;let N:=Vv (p:=p2) (pos:=pos2) (z51 b) r u z4e {L} Ò Ò ňh;refine{{_,(OM (p:=p) (pos:=pos) (z55 b) R J Ew (BQ N NZ) Ò Ò).h,λ{U Z G H τ σ d Q} E c q=>?_}};let{z,P,c}:=zH c;show k E P λT A Y s O=>?_
 rcases z with _|⟨x_,r_⟩;cases c
 cases x_<;>first|(cases c;done)|skip
 cases r_<;>first|(cases c;done)|skip
 rename_i I;let{f,B,c}:=zH (show(ώa I).bind _=À d from c)
 split at c;rename_i g;cases c;let{v,rfl,a,W,rfl,i,x,l}:=pR O;rw[iF B]at x l;rw[oj x]at i
 let i:ya X.K A a ((Ϻi).map kV):=by rw[ϰ];show i
 let F:(Ϻi).foldl tt []=(qr f).map ĭ:=mS f [];refine{a,Ţd ĭ,rfl,ut s.gh i,by rw[ã];show g.1,λy m=>?_};let j:=s.trans (Ŀa (o:=Jj ö X.w y ((Ϻi).foldl tt [])) s.gh m);refine{y,qr f,rfl,by rw[F];show yq,g.2,λp n=>?_};show q p _ _ (œd (Ŀa j.gh n)) (j.h.free n) źn {_,yq,iC _,?_};rw[ã,(ðc _).length_eq];rw[Ãq];cases c
#print L3
namespace L2
open ľ ś ĺa ŋ
nonrec def QD(i j c:Æ):Â:=if i<j then(Ÿj/c+1).toNat else 0
def sZ{i j c:Æ}(a:0<c):ßf i j c=(QD i j c:Æ):=by
 unfold ßf QD;rw[Ï a]
 split;let:0<=Ÿj/c:=Ħf Ê Ê;omega;rfl
def x54{i j c:Æ}(a:0<c):QD i j c<=(j-i).toNat:=by
 unfold QD
 split;let:Ÿj/c<=j-i-1:=ύm _ Ê;omega;omega
def x4e{i j c:Æ}(d:0<c)(e:ľd<=16777216)(l:Ĳe<=16777216)(p:c<=16777216):Æm i j c=Ä:=by
 unfold Æm;rw[sZ d];let:=x54 (i:=i) (j:=j) d;simp only[Builtin.Range.rangeFitsLong,Ď,ħf,Ĉf,Ŵc,Ï (show c>0 from d)];generalize QD i j c=n at *;let a:∀{x:Æ},-100000000<=x->x<=100000000 -> -2 ^ 63<=x/\x<2 ^ 63:=λh g=>{ßb Ò h,Ċm g Ò}
 let b:∀{x:Æ},x.natAbs<=16777216 -> -16777216<=x/\x<=16777216:=λh=>by omega
 let{f,k}:=b e;let{m,o}:=b l;show{{{{a (ßb Ò f) (ßb k Ò),a (ßb Ò m) (ßb o Ò)},a (ßb Ò (õa d)) (ßb p Ò)},a (ßb Ò Şe) Ê},.inr (a Ê Ê)}
open PySem.AutoSeq1 in
def y1z(l:Ë)(z6:Ú Value)(n:Â)(b:Ë)(a:Ú Value)(o:Â)(p:É Ë)(i:Ú ϩa)(q:¬(!z6.isEmpty&&ϝd (ń+Ŏ))=Ä)(e:ń<=ä)(f:ń+Ŏ<=ä+1) :Meets (Builtin.«list.extend» {[.ref l,.ref b],[]}) (λ_ R s=>ø l=À { cls:=.type Ĩ,Âd:=Å,ć:=.seq z6 n,Ŵd:=#[] }/\ø b=À { cls:=.type Ĩ,Âd:=p,ć:=.seq a o,Ŵd:=i }/\R (.ok (.ret ϥa)) { s with ç:=Śc l (äb λx=>x++a),Ĕ:=ē }):=
 .of_wp λk w A R s h=>by
  let{u,g,d,B,r}:=s;let{j,m,h}:=h;let t:=idx_int;let C:=AutoSeq1.sub_tuple_tuple;let z:=AutoSeq1.sub_list_list;let v:=AutoSeq1.sub_tuple_list;let y:=AutoSeq1.sub_list_tuple;let c:(z6++a).size<=ä+1:=by rw[Śh];show f
  wp_walk using(āh j rfl (hz:=e) (_hz':=c)),ϱm j,ϱm m
  show{_,rfl,h}
theorem Ϙi:∀{xs:Á V}{us:Á Value},èa=ë->(∀(j:Â)(x:V)(v:Value),xs[j]?=À x->us[j]?=À v->yB x v)->zo xs us
 | [],[],_,_=>.nil| [],_::_,h,_=>by cases h|_::_,[],h,_=>by cases h|x::xs,u::us,h,f=>.cons (f 0 x u rfl rfl) (Ϙi Ĉa λj y v a b=>f ϭ y v Ņh Àe)
section
variable{X:Cx}
def x0n(K:Ô):V->Á V->Hp->VK->È:=λx a H Q=>∃l b xs zs,x=.ref l/\a=[.ref b]/\H l=À Ϩ/\ya K H b zs/\ë+Ýp<=ä/\Q .zO (ze H l (Β (xs++zs)))
def y2z:C6 X "list.extend" (x0n X.K):=by
 intro J s σ H x L v N Q I B t h;let{l,b,S,R,rfl,rfl,o,G,P,q}:=h;cases B;let{u,rfl,y}:=t.one;cases y;let{z,c,n,r,U,e}:=I.Ld o;let{a,m,p,_}:=Ϛ G;obtain⟨⟨T,C,O,k⟩,A,j,f,E,g⟩:=p;simp only at f g;subst f g;let w:=Ľd;let i:Ćn+ϔb<=ä:=by rw[Ĭ,Ĭ];omega
 let d:¬ (!c.toArray.isEmpty&&ϝd (Ćn+ϔb))=Ä:=by rw[m8 i,ďn];show ġ
 refine őc F.slot_list_extend {_,e,rfl} F.entry_list_extend (F.args_list_extend_2 _ _)
  (y1z l ϥi n b ϭa A C k d Ŋh Ê) {e,j,?_}
 refine{.zO,_,I.FJ (Êb:=c++a) o e ô (ϒc m) ?_,rfl,q};rw[ì];omega
def cg(a:Ë)(n:Â)(h:Heap):È:=∃t u v,IsRange h a 0 n 1 t u v
abbrev Jh(a:Ë)(n:Â):HO:=.ext (cg a n)
def x0t:Á V->Hp->VK->È:=λa H Q=>∃j:Æ,a=[.int j]/\0<=j/\∀p,H p=Å->Q Ŵ (Ω (Jh p Âa))
def z50:vg X (.type Şa) x0t:=by
 intro f s σ H d i Q I r h;let{j,rfl,l,q}:=h;let{u,rfl,c}:=qG r;let{t,rfl}:=(show ∃t,u=ϥb j t from c);show Ϥn ?_;let e:((Âa:Â):Æ)=j:=by omega
 let b:cg Ý Âa (Ùa { cls:=.type Şa,ć:=.fields #[.int 0 ē,.int j t,.int 1 (ē+1)] }):=by show{ē,t,ē+1,?_};rw[e];show Ğo ..
 show{.ref Ý,_,Ϗa (a:=Ý) (o:=Jh Ý Âa) łh Ē {b,?_,λm g z k=>?_},rfl,q _ Ϝc};let{t,u,v,e}:=b;show{_,e};let{t,u,v,e}:=z;show{t,u,v,k _ e}
def x0q:Á V->Hp->VK->È:=λb H Q=>∃(a:Ë) (n:Â),b=ϲ/\H a=À (Jh a n)/\n<=1000000/\∀p,H p=Å->Q Ŵ (Ω (.lst ((ĩb).map λk:Â=>üb k)))
def z4y(c:ŵ=Ä):vg X Ĝa x0q:=by
 intro G s σ H L J Q I r h;let{a,n,rfl,m,K,q}:=h;let{u,rfl,B}:=qG r;cases(show u=Ė a from B);obtain⟨⟨t,u,v,E⟩,_⟩:=(show xm ö X.w H â a (Jh a n)from Ě a _ m)
 let A:ßf 0 (n:Æ) 1=(n:Æ):=by
  rw[sZ Ò];unfold QD
  split<;>omega
 refine call_list_range (ýa c) E (x4e Ò Ò Ê Ò) A Ê λN z b C y F d=>?_
 let{f,g}:=d
 let p:zo ((ĩb).map λk:Â=>üb k) Ĺe:=by
  refine Ϙi (by simp[f]) λj x v i l=>?_
  rw[ė,ác (by let:=īg.1;rw[Ĺ,f]at this;rw[Ϯp])]at i
  cases i;let{t,e}:=g j v (by rw[<-ĭa];show l);show{t,?_};rw[e];simp
 show{.ref Ý,_,Ϗa (a:=Ý) (o:=.lst ((ĩb).map λk:Â=>üb k)) (t':=z) y Ē {?_,Ĺe,C,p,?_},rfl,q _ Ϝc};rw[ã,Øa,ū];exact n<=16777216;omega;rw[F]
#print a
#print L2
namespace L3
open ľ ś ŋ L2
nonrec def GQ:Á D->É D
 | [.int j]=>if 0<=j/\j<=1000000 then À (.lst ((őp).map λk:Â=>.int k))else Å|_=>Å
def x1a{K:Ô}{G:Hp}(l:Á Â):ê K G (áa λk:Â=>ę k) (áa λk:Â=>üb k):=by
 induction l with
 |nil=>rfl|ð a r ih=>show{_,_,rfl,rfl,ih}
section
variable{X:Cx}{x y:Ç}{xp yp pos Åa Ϯ:Pos}{e:Ö}{f:FE}
def sS{i j:Â}(A:QE X Ž úb)(t:éa)(m:X.N[j]?=À y)(s:qN Ϲ y)(c:Î (Đb Ž "pop" Û ńf=Ĥ Ž Û) q12)(b:Î Ĺb q12)(a:Î Åh q7) :SS X (.Assign [.Name y yp] (.Call (.Attribute Ž "pop" Åa) [] [] Ϯ) pos) (W3 j i):=by
 show{{_,(ON t m s (x0b Þf PySem.F.slot_list_pop PySem.F.type_list_pop y32 A c b) rfl a).h,λ{C I G H τ σ J E} K a q=>?_}};unfold W3 at a
 rw[Åq];rename_i u r;let{d,o,a}:=zH a;by_cases hne:j=i;rw[Ï hne]at a;cases a;rw[Ñ hne]at a;cases a;let{w,p,g,z,f,n,e,l}:=K.ow _ _ r;rw[List.getLast?_eq_getElem?]at o;let{v,k,B}:=e.get o;rw[<-ķe]at k;show{_,p,.inl {rfl,f,Ţa n},w,f,v,rfl,rfl,n,k,?_};show q _ _ _ ((K.J1 (d':=.lst u.dropLast) r p {_,yq,ŕn e,?_}).set Ůj.1 B);rw[ϐl];omega;cases a
def sR{i:Â}(I:QE X Ž úb)(J:SE X e f)(j:Î (Đb Ž "extend" Û ńf=Ĥ Ž Û) q12)(d:Î Ĺb q12)(A:Î Ča q12) :SS X (Θe (.Attribute Ž "extend" Åa)) (V_ i f):=by
 let{t,p,k}:=(zD J zP A).h;refine{{_,(Na (OL Þf PySem.F.slot_list_extend PySem.F.type_list_extend y2z I {p} j d ĩm ϣd) rfl).h,λ{S W G H τ σ Q E} K a q=>?_}};unfold V_ at a
 rw[Åq];rename_i n B;let{y,N,a}:=zH a;cases y with
 |lst ys=>
  change (if ţb+Ŭ<=yX then À (źd (τ.set i (Φa (n++ys))))else Å)=À Q at a
  by_cases c:ţb+Ŭ<=yX;rw[Ï c]at a;cases a;let{C,u,g,z,o,s,w,l}:=K.ow _ _ B;refine{_,u,.inl {rfl,o,Ţa s},k K (ds:=[.lst ys]) (by unfold zC;rw[N];rfl) λT R U m P=>?_};let{v,rfl,b,L,rfl,O,r,_}:=pR P;refine{C,b,o,L,rfl,rfl,m.h _ _ s,ut m.gh O,by rw[ĭe,ϊ,ū];show c,?_};show q _ _ _ ((Ôa m).J1 B u {_,yq,(w.mono m.g).append r,?_});rw[ū,ì];show c;rw[Ñ c]at a;cases a
 |_=>cases a
 cases a
def x3q{p p2 b:Pos}{fs:FA}(f:ŵ=Ä)(F:Gl X Ĩ)(r:ñ Ĩ=Å)(m:Gl X Şa)(l:ñ Şa=Å)(I:SA X [e] fs)(A:Î Ča q12) :SF X (.Call Ϙn [.Call (.Name Şa p2) [e] [] b] [] pos) (eL GQ fs):=by
 let{t,u,k}:=I.h;let y:=Vv (p:=p2) (pos:=b) z50 m l żo {u} Ò Ò ĩm;refine{{_,(Vv (p:=p) (pos:=pos) (z4y f) F r M6 (BQ y NZ) Ò Ò).h,λ{L N G H τ σ d Q} E a q=>?_}};let{s,C,a}:=zH a;show k E C λJ K O n B=>?_
 match s,a with
 | [.int j],a=>
  change (if 0<=j/\j<=1000000 then À (żd ((őp).map λk:Â=>.int k))else Å)=À d at a
  by_cases c:0<=j/\j<=1000000;rw[Ï c]at a;cases a;let{v,rfl,w}:=pR B;cases(show v=.int j from w);refine{j,rfl,c.1,λp x=>{p,Âa,rfl,yq,by omega,λz g=>?_}};let i:=łd (Ŀa (o:=Jh p Âa) n.gh x);show q z _ _ ŋl (ûj g) żn {_,yq,x1a _,?_};rw[ã,Øa,ū];exact Âa<=16777216;omega;rw[Ñ c]at a;cases a
#print a
structure YC(K:Ô)(H0 G H:Hp)(p:Ë)(qs:Á Ë)(nds:Á ϋa):È where
 hp:H p=À (Β (ħa ϕa))
 p0:H0 p=Å
 pg:G p=Å
 np:p ∉ qs
 nd:ôj
 ln:ŵo=ϛi
 el:∀(j:Â)(q:Ë),qs[j]?=À q->∃ds vs,nds[j]?=À ds/\H q=À ϕp/\H0 q=Å/\G q=Å/\ê K G ds vs/\ü<=ä
structure Xb(K:Ô)(n:Â)(G0 H0 G H:Hp)(τ:zw)(σ:St)(i:Â)(nds:Á ϋa):È where
 env:zu K n G0 H0 G H τ σ
 no:jj τ=Ä
 Ue:∃p qs,σ[i]?=À řp/\YC K H0 G H p qs nds
inductive NF where
 |nx (nds:Á ϋa) (τ:zw)
 |rt (d:D)
abbrev p9:=Á ϋa->zw->É NF
def TD(K:Ô)(n:Â)(b a:Hp)(E:u_)(i:Â):NF->È
 |.nx nds τ=>∀σ G H,Xb K n b a G H τ σ i nds->E.nx σ H|.rt d=>∀v G H,zT b a G H->zZ K G d v->E.rt v H
structure NS(X:Cx)(i:Â)(st:Ü)(f:p9):È where
 h:∃t,PS X st t/\∀{G0 H0 G H:Hp}{τ:zw}{σ:St}{nds:Á ϋa} {fl:NF} {E:u_},Xb X.K ò G0 H0 G H τ σ i nds->f nds τ=À fl->TD X.K ò G0 H0 E i fl->t E σ H
structure Je(X:Cx)(i:Â)(st:Á Ü)(f:p9):È where
 h:∃t,uk X st t/\∀{G0 H0 G H:Hp}{τ:zw}{σ:St}{nds:Á ϋa} {fl:NF} {E:u_},Xb X.K ò G0 H0 G H τ σ i nds->f nds τ=À fl->TD X.K ò G0 H0 E i fl->t E σ H
section
variable{K:Ô}{n:Â}{G0 H0 G H G' H':Hp}{τ:zw}{σ:St}{i:Â}{nds:Á ϋa}{p:Ë}{qs:Á Ë}
def Kw(x:zT G H G' H'){a:Ë}(c:G a=Å)(b:H a≠Å):G' a=Å:=by
 cases e:G' a with
 |Å=>rfl|À u=>rcases ϳc a Äh with w|w;show Þ c w;show Þ w b
def YC.go(N:YC K H0 G H p qs nds)(x:zT G H G' H'):YC K H0 G' H' p qs nds:={x.h _ _ N.hp,N.p0,Kw x N.pg (by rw[N.hp];show λz=>nomatch z),N.np,N.nd,N.ln,λj q c=>by let{b,a,e1,e2,d,e,r,l}:=N.el j q c;show{b,a,e1,x.h _ _ e2,d,Kw x e (by rw[e2];show λz=>nomatch z),ßa x.g,l}}
theorem Xb.go(N:Xb K n G0 H0 G H τ σ i nds)(x:zT G H G' H'):Xb K n G0 H0 G' H' τ σ i nds:=by let{p,qs,e,w}:=N.Ue;show{N.env.go x,N.no,p,qs,e,w.go x}
def B5(h:jj τ=Ä){j:Â}{d:D}(e:τ[j]?=À ϗb):Ā:=by let:=âa h _ ūj;cases this
def zu.z2u(E:zu K n G0 H0 G H τ σ)(f:jj τ=Ä){q:Ë}{o:HO}(l:H0 q=Å)(i:G q=Å):zu K n G0 H0 G Ϥo τ σ:=by
 let a:∀{c:Hp},c q=Å->yF c H->yF c Ϥo:=λ{c} h s b u z=>by rw[yH (qo z h)];show s _ _ z
 show{{Œj,a l ŗe,a i Ŵa,Ϻf},ű,Ű,Ũa,λj d h=>(B5 f h).elim,λj k d e p _ h=>(B5 f h).elim}
def zu.unset(E:zu K n G0 H0 G H τ σ)(b:jj τ=Ä)(v:V):zu K n G0 H0 G H Ĉd ċc:=by refine{ŵb,by rw[Ÿq],by rw[āq],λj d h=>?_,λj d h=>?_,λj k d e p _ h=>?_};rcases vv h with⟨_,z⟩|⟨a,z⟩;rw[ϊq];rcases vv h with⟨_,z⟩|⟨a,z⟩;cases z;show(B5 b z).elim;rcases vv h with⟨_,z⟩|⟨a,z⟩;cases z;show(B5 b z).elim
def y49(h:jj τ=Ä)(i:Â):jj Ĉd=Ä:=by
 show âd λs a=>?_
 rcases Ýh a with z|z;show âa h _ z;subst z;rfl
def Kx(h:jj τ=Ä)(i:Â)(d:D):jj ϳh=Ä:=by
 show âd λs a=>?_
 rcases Ýh a with z|z;show âa h _ z;subst z;rfl
theorem zT.uz(x:zT G0 H0 G H):∀(l:Á Ë),l.Nodup->(∀a∈l,H0 a=Å/\G a=Å/\H a≠Å)->∃G',zT G0 H0 G' H/\yF G G'/\(∀a∈l,G' a=H a)/\∀b,b ∉ l->G' b=G b
 | [],_,_=>{G,x,śa _,λ_ h=>(şe).elim,λ_ _=>rfl}|a::l,nd,h=>by
  let{o,m}:=Ϗg nd;let{f,q,j,e1,g}:=zT.uz x l m λb d=>h b ŕp
  let{n,p,k}:=h a Ġ;cases e:H a with
  |Å=>show Þ e k|À u=>
   let i:f a=Å:=by rw[g a o];show p
   show{ze f a u,q.yj n i e,œd (t8 i u),λb d=>?_,λb d=>?_};by_cases c:b=a;subst c;rw[yq,e];rw[yH c];show e1 b ((ĩ d).resolve_left c);rw[yH (λc:b=a=>d (by rw[c];show Ġ)),g b λc=>d ϊc]
theorem YC.rep(N:YC K H0 G H p qs nds)(x:zT G0 H0 G H)(o:ŵo<=ä):∃G',zT G0 H0 G' H/\zZ K G' (Β (nds.map .lst)) Ŵ:=by
 let c:∀a∈p::qs,H0 a=Å/\G a=Å/\H a≠Å:=λa i=>by rcases ĩ i with rfl|i;show{N.p0,N.pg,by rw[N.hp];show λz=>nomatch z};let{j,u}:=List.getElem?_of_mem i;let{b,k,_,e2,v,B,_}:=N.el j a u;show{v,B,by rw[e2];show λz=>nomatch z}
 let{G',t,s,g,w}:=x.uz (p::qs) (äd {N.np,N.nd}) c;show{G',t,p,ħa ϕa,rfl,Ţa ((g p Ġ).trans N.hp),?_,by rw[ã];show o}
 let m:∀(j:Â)(q:Ë),qs[j]?=À q->∃b,nds[j]?=À b/\zZ K G' ĉg (.ref q):=λj q n=>by let{b,k,e1,e2,_,_,r,l}:=N.el j q n;show{b,e1,q,k,rfl,Ţa ((g q (Ų _ (ώ n))).trans e2),ßa s,l}
 let f:=N.ln;clear c N t g w o x s
 induction nds generalizing qs with
 |nil=>
  cases qs with
  |nil=>rfl|ð q qs=>cases f
 |ð d nds ih=>
  cases qs with
  |nil=>cases f|ð q qs=>
   let{b,e1,y}:=m 0 q rfl;cases e1
   show{_,_,rfl,y,ih (λj A h=>by let{b,e,r}:=m ϭ A Ĉa;show{b,by rw[ėq],r}) ĥm}
theorem TD.near{b c:Hp}{E:u_}{a:NF}(x:zT G0 H0 b c)(h:TD K n G0 H0 E i a):TD K n b H0 E i a:=by
 cases a with
 |nx nds τ=>show λσ G H z=>h σ G H {zu.near x z.env,z.no,z.Ue}|rt d=>show λv G H y r=>h v G H ĕi r
#print a
nonrec def Tn(f g:p9):p9:=λa τ=>(f a τ).bind λb=>match b with
 |.nx a τ=>g a τ|.rt d=>À (.rt d)
nonrec def lQ(k v:FE):p9:=λa τ=>(k τ).bind λx=>(v τ).bind λy=>match x with
 |.int j=>match a[Âa]? with
  |À ds=>if 0<=j/\ü<yX then À (.nx (a.set Âa Ŷp) τ)else Å|Å=>Å
 |_=>Å
nonrec def O0(g:FG)(b:p9):Á D->Á ϋa->zw->É NF
 | [],nds,τ=>À (.nx nds τ)|d::ds,nds,τ=>(g d τ).bind λτ'=>(b nds τ').bind λa=>match a with
  |.nx ĳc τ''=>O0 g b ds ĳc τ''|.rt d=>À (.rt d)
def Tl(it:FA)(g:FG)(b:p9):p9:=λa τ=>(it τ).bind λc=>O0 g b c a τ
nonrec def O4:p9:=λa _=>if úa<=yX then À (.rt (Β (Èc .lst)))else Å
section
variable{X:Cx}{i:Â}{x:Ç}{p pos ϓ Åa Ϯ xp sp:Pos}{e k v c tg ż:Ö}{f fk fv:FE}{fs:FA}{st:Ü}{sts ăb:Á Ü}{g g':p9}{fg:FG}
def y4g(b:NS X i st g)(e:Je X i sts g'):Je X i Öj (Tn g g'):=by
 let{t,p,k}:=b.h;let{v,l,f}:=e.h;show{{_,OE p l,λ{o r G H τ σ c s E} K a q=>?_}};let{j,b,a}:=zH a;show k K b ?_;cases j with
 |nx ĳc τ'=>show λσ' u n m=>f m a q|rt d=>cases a;show q
def K_(a:NS X i st g):Je X i [st] g:={let ⟨t,p,k⟩:=a.h;{t,NK p,k}}
def y4e(hu:Œa+1<ϛ)(ho:QE X Ž úb)(hk:SE X k fk)(hv:SE X v fv)(hp:Î ϗf q12)(p:Î (Đb ìf Ûg Û (Ĥ ìf Û)=Ĥ ìf Û) q12)(g:Î Ĺb q12)(Z:Î (xM v=Ä) q12) :NS X i (.Expr (.Call (.Attribute ìf Ûg Åa) [v] [] Ϯ) pos) (lQ fk fv):=by
 let{tk,pk,kk}:=Ád;let{t,pv,kv}:=(zD hv zP Z).h;refine{{_,(Na (OL Þf ęl ėl lP (o:=.Subscript Ž k sp) {BD (iQ (X:=X)) ho.h pk (BI hp)} {pv} p g (by rw[ϔ,Z];rfl) ϣd) rfl).h,λ{G0 H0 G H τ σ T fl E} K b q=>?_}};let{xk,hk,b}:=zH b;let{y,hy,b}:=zH b;cases xk with
 |int j=>
  dsimp only at b;cases hds:T[Âa]? with
  |Å=>rw[hds]at b;cases b|À ds=>
  rw[hds]at b;dsimp only at b;by_cases c:0<=j/\ü<yX;rw[Ϲp];let{a,n,W,w}:=K.Ue;show{_,W,kk K.env hk λu G1 H1 L r1=>?_};cases(show u=.int j from r1);let U:=w.go L;have m:n[Âa]?=À œk:=Đ _;generalize œk=q0 at m
  let I:pB (ϙe ϕa) j=À (.ref q0):=by let e:=z3o (xs:=ϙe ϕa) (j:=Âa) (v:=.ref q0) (by rw[ė,m];rfl);rw[show((Âa:Â):Æ)=j by omega]at e;show e
  let{ds1,C,e1,e2,_}:=U.el _ _ m;refine{a,ϙe ϕa,j,.ref q0,rfl,rfl,Ţa U.hp,I,.inl {rfl,C,Ţa e2},kv (K.env.go L) (ds:=[y]) (by unfold zC;rw[hy];rfl) λus G2 H2 x2 r2=>?_};let{u,r,rfl,O,hr}:=r2;cases(show r=[]from hr);let Q:=Ôa (L.trans x2);let f:=U.go x2;let{ds2,B,s,P,h0,hg,Y,l}:=f.el _ _ m;rw[hds]at s;cases s;refine{q0,B,u,rfl,rfl,P,by rw[ϓc,ū];show c.2,?_};show q _ _ _ {Q.env.z2u Q.no h0 hg,Q.no,a,n,W,?_};let N:a≠q0:=λz=>w.np (z▸ώ m)
  refine{by rw[yH N];show f.hp,f.p0,f.pg,f.np,f.nd,by rw[Éa];show f.ln,λj' q' d=>?_};by_cases cj:j'=Âa;subst cj;rw[m]at d;cases d;show{ds++[y],B++[u],YS (Ŀ hds).1,yq,h0,hg,Y.append (Ļe O),?_};rw[ì,ū];show c.2;let S:q'≠q0:=λz=>cj ((Ńm (Ŀ d).1 f.nd).mp (by rw[d,m,z]))
  let{J,R,f1,f2,f3}:=f.el _ _ d;show{J,R,by rw[uX cj];show f1,by rw[yH S];show f2,f3};rw[ϸp]
 |_=>cases b
structure CB(X:Cx)(i:Â)(tg:Ö)(fg:FG):È where
 h:∃t,PG X tg t/\∀{G0 H0 G H:Hp}{τ τ':zw}{σ:St}{d:D}{v:V}{Q:St->Hp->È},zu X.K ò G0 H0 G H τ σ->jj τ=Ä->zZ X.K G d v->fg d τ=À τ'->(∀σ',zu X.K ò G0 H0 G H τ' σ'->jj τ'=Ä->σ'[i]?=σ[i]?->Q σ' H)->t v σ H Q
def x3w{j:Â}(h:QG X ôa (uo j))(hi:X.N[j]?=À x)(a:Î (i≠j) q10):CB X i ôa (yC j):={{_,h.h,λK b r c q=>by cases c;show q _ în (Kx b _ _) (uX a)}}
def x3v{j l:Â}{y:Ç}{g p2:Pos}{f:Â}(h:QG X Űk (VO X.K 2 (gH (uo j) (gH (uo l) VN))))(hi:X.N[j]?=À x)(n:X.N[l]?=À y)(c:Î (i≠j) q10)(e:Î (i≠l) q10):CB X i Űk (vM j l):=⟨⟨_,h.h,λ{A E G H τ τ' σ d v Q} K u r b q=>by
 unfold vM at b
 rw[Ņq];rename_i C B;cases b;let{a,z,rfl,s,{t,F,rfl,p,{w,k,rfl,m,o}},_}:=r;cases(show k=[]from o);show{a,_,rfl,t9 ża s,rfl,t,_,rfl,w,_,rfl,rfl,?_};show q _ ((K.set éb.1 p).set (Ŀ n).1 m) (Kx (Kx u _ _) _ _) (by rw[uX e,uX c]);cases b⟩⟩
def mJ(C:Ϧb Ą X.A Û į)(hc:ŵ=Ä)(hi:SI X tg ż fs)(hg:CB X i tg fg)(Z:Je X i ăb g)(Q:Î (∀x,Ób ż Û x=pure x) q11):NS X i Ûh (Tl fs fg g):=by
 let{ti,W,ki}:=Ĵc;let{B,pg,I}:=hg.h;let{tb,U,v}:=Z.h;show{{_,BL C hc W pg U Q,λ{G0 r G H τ σ nds t E} K b q=>?_}};let{c,hd,b}:=zH b;show ki K.env hd λJ o Ha O _ l=>?_
 let k:=Ôa O;let s:=TD.near k.env.ext q;show{λj m σ H=>m=Îa-j/\j<=Îa/\∃τ G nds,Xb X.K ò o r G H τ σ i nds/\O0 fg g (ũd j) nds τ=À t,{Îa,rfl,Ź _,τ,o,nds,{k.env.WZ,k.no,k.Ue},b},?_};rintro j m σ H ⟨rfl,hle,τ,G,nds,K,b⟩;by_cases hlt:j<Îa;refine .inr {l.go j G H ĸi Ċi hlt,λσ' f=>∃τ G nds,Xb X.K ò o r G f τ σ' i nds/\O0 fg g (ũd ϭ) nds τ=À t,λσ' f z=>{Îa-ϭ,by omega,rfl,hlt,z},λx f y=>?_};let{G3,d,F,u,Y}:=l.tW j G H x f ĸi Ċi hlt y;rw[ϋb hlt]at b;rw[Đ hlt]at u;cases u;let{τ1,L,b}:=zH (show(fg _ τ).bind _=_ from b);let{f1,h2,b}:=zH b;let p:=Ôa F;let{a,T,P,w}:=p.Ue;refine I p.env p.no Y L λσ1 E1 n S=>v (nds:=nds) {E1,n,a,T,by rw[S];show P,w} h2 ?_
 cases f1 with
 |nx Ϻc τ2=>show λσ2 R H2 K2=>{τ2,R,Ϻc,K2,b}|rt d=>cases b;show s
 let e:ũd j=[]:=Úd Ê;rw[e]at b;cases b;show .inl {l.stop j G H ĸi Ċi Ê,s _ _ _ K}
def y4f(f:Î ād q12)(hv:Î īd q13)(h:Î ō q10)(e:Î Żb q10):NS X i ĸl O4:=by show{{_,OD (Vs f hv h e),λ{m n G H τ σ d o E} K b q=>?_}};unfold O4 at b;by_cases c:êa<=yX;rw[Ϲp];let{a,l,g,w}:=K.Ue;let{k,j,r}:=w.rep K.env.ext (by rw[ū];show c);show{_,g,q _ k H j r};rw[ϸp]
#print a
def T_(i:Â)(a:zw->É Â)(g:p9):FS:=λτ=>match jj τ with
 |Ã=>Å|Ä=>(a τ).bind λm=>(g ųi Ĉd).bind λb=>match b with
  |.rt d=>À ũo|.nx _ _=>Å
nonrec def O3(it:FA):zw->É Â:=λτ=>(it τ).bind λa=>À úa
section
variable{X:Cx}{i:Â}{x:Ç}{pos ϓ p spos:Pos}{e tg ż:Ö}{st:Ü}{fi:zw->É Â}{fs:FA}{z_:Á Ü}{g:p9}{Ł:îa}{cl:Á ϫa}{own:Á Ç}{tG:TG}{fg:FG}
def y3g{G0 H0 G H x r:Hp}{τ:zw}{σ:St}{J:It}{ds:Á D}{Q:Ë->Hp->È}(L:k7 X.K J x ds)(l:ü<=ä)(K:zu X.K ò G0 H0 G H τ σ)(O:zT G H x r)(hg:BG X Ł cl own tg tG fg)(T:∀d τ,(Ŵp).isSome=Ä)(q:∀p qs G' H',zT G H G' H'->YC X.K H G' H' p qs (Ő ü [])->Q p H') :∃W:Â->Â->Á V->Hp->È,(∃m,W 0 m [] r)/\Ix σ Òb J tG SH (z06 UB) W λys H'=>∀p,H' p=Å->Q p (ze H' p Ğa):=by
 let Z:=Ôa O;show{λi m ys H'=>m=ü-i/\i<=ü/\∃(G':Hp) (qs:Á Ë),zT x r G' H'/\ys=ħa ϕa/\ϛi=i/\ôj/\∀b∈qs,H' b=À Đc/\r b=Å/\G' b=Å,{ü,rfl,Ź _,x,[],ŋa Z.ext.gh,rfl,rfl,Ōa,λ_ h=>(şe).elim},?_};rintro i m ys P ⟨rfl,hle,C,qs,o,rfl,Y,nd,E⟩;by_cases hlt:i<ü;refine .inr {L.go i C P o.g o.gh hlt,by rw[ã];omega,λys H'=>∃(G':Hp) (qs:Á Ë),zT x r G' H'/\ys=ħa ϕa/\ϛi=i+1/\ôj/\∀b∈qs,H' b=À Đc/\r b=Å/\G' b=Å,λys' H' z=>{ü-î,ïf _ _ hlt,rfl,hlt,z},λv H' y=>?_};let{U,d,t,ed,rv}:=L.tW i C P v H' o.g o.gh hlt y;let K3:=((Z.go o).go t).more Òb;let{τ1,h1}:=ĺb (T d Šh);show hg.k K.l2 K.l1 U H' d v τ1 _ K3 rv h1 λρ K4=>{{ρ,rfl},?_}
 rw[ϴp];unfold SH;rw[ϴp];rw[Ï rfl];show{Ź _,λb f=>?_};let n:=o.trans t
 let a:b ∉ qs:=λz=>by let:=t.h _ _ (E b z).1;rw[this]at f;cases f
 refine{U,qs++[b],łd (Ŀa n.gh f),by rw[Ċa];rfl,by rw[ì,Y];rfl,?_,λc F=>?_};show çf {nd,äd {Ϣ,Ōa},λu hu w hw e=>a (by cases Ĵ hw;show e▸hu)};rcases Ÿ F with z|z;let{A,I,R}:=E c z;let S:=t.h _ _ A;refine{by rw[yH (λe:c=b=>a (e▸z))];show S,I,Kw t R (by rw[A];show λz=>nomatch z)};cases Ĵ z;show{yq,n.h.free f,n.gh.free f};let ei:i=ü:=by omega
 subst ei;show .inl {L.stop ü C P o.g o.gh Ē,λb f=>?_};let B:=O.trans o
 let a:b ∉ qs:=λz=>by rw[(E b z).1]at f;cases f
 refine q b qs C _ (B.trans (Ŀa B.gh f)) {yq,B.h.free f,B.gh.free f,a,nd,by rw[Ĭa];show Y.symm,λj c F=>?_};let s:=ώ F;let{A,I,R}:=E c s;show{[],[],?_,by rw[yH (λe:c=b=>a (e▸s))];show A,O.h.free I,R,rfl,Ź _};rw[Ϡd,Ï (by let:=(Ŀ F).1;omega)]
structure cq(X:Cx)(i:Â)(st:Ü)(f:zw->É Â):È where
 h:∃t,PS X st t/\∀{G0 H0 G H:Hp}{τ:zw}{σ:St}{m:Â}{E:u_},zu X.K ò G0 H0 G H τ σ->f τ=À m->(∀p qs G' H',zT G H G' H'->YC X.K H G' H' p qs ųi->E.nx òf H')->t E σ H
def x4f(a:ŵ=Ä)(r:éa)(j:X.N[i]?=À x)(y:Íd x=À .local)(B:XJ X Ł cl own)(c:űc Ħk (À Ìe) ãp Û=pure Ä)(hi:SI X tg ż fs)(k:BG X Ł cl own tg tG fg)(g:∀d τ,(Ŵp).isSome=Ä)(z:Î (∀x,Ób ż Û x=pure x) q11) :cq X i (.Assign [.Name x ϓ] Ħk spos) (O3 fs):=by let{A,o,v}:=Ĵc;show{{_,nQ a r j y B c o (λC s H e f=>(k.q C s H e f).h) (λC s H e f=>nU) (λC s H e f=>n4 Tu) z,λ{L O G H τ σ m E} K b q=>?_}};let{I,w,b}:=zH b;cases b;show v K w λJ F P u l t=>y3g (Q:=λp n=>E.nx òf n) t l K u k g q
def x4x(hi:X.N[i]?=À x)(v:cq X i st fi)(C:Je X i z_ g):tq X (st::z_) (T_ i fi g):=by
 let{t,p,k}:=v.h;let{P,f,A}:=C.h;show{{_,OE p f,λ{O J G H τ σ L E} K b q=>?_}};unfold T_ at b;cases no:jj τ with
 |Ã=>rw[no]at b;cases b|Ä=>
 rw[no]at b;let{m,B,b}:=zH (show(fi τ).bind _=À L from b);let{F,s,b}:=zH b;show k K B λa e u z x w=>?_
 let c:i<ò:=éb.1
 let r:YC X.K J u z a e ųi:={w.hp,ŕf w.p0,w.pg,w.np,w.nd,w.ln,λj q I=>by let{n,l,e1,e2,o,y}:=w.el j q I;show{n,l,e1,e2,ŕf o,y}}
 refine A (nds:=Ő m []) (τ:=τ.set i Å) {(řj).unset no _,y49 no i,a,e,YS (by rw[K.l1];show c),r} s ?_;cases F with
 |nx nds τ2=>cases b|rt d=>cases b;show q
#print a
#print L3
namespace L2
open ľ ś ĺa ŋ
section
variable{ă:ï}{w:æ}{A:ù}{E:Value->Í->È}
def dw{s:Í}{a:Ë}{kvs:Á ŏa}{ep:Â}{Q:Á Value->Í->È}(q:ča=Å)(lo:Ĵa=Ã)(m:ãe öa a kvs ep)(p:Ō<=ä)(h:∀h' tk vs,đ=Ō->(∀(j:Â)(v:Value),vs[j]?=À v->∃k x,kvs[j]?=À (k,x)/\(öa).is k v=Ä)->Ý<Ϣn->(∀b ob,ø b=À ob->ċ b=À ob)->Q vs { s with ç:=h',Ĕ:=tk }):Ù è A ģp Q E s:=by
 rw[îq];let i:a<Ý:=m.lt_size;let g:Ý≠a:=xh (Ŏa i);rw[Ðd Æa]
 refine W.kdl_extend (R:=λr n=>match r with
  |.ok (.ret v)=>Ù è A (match v with
   |Ė a=>(do
    let o <-load a
    match ϸ with
    |.seq xs _=>pure ϫf|_=>Ąo ûm)
   |_=>Ąo ûm) Q E n
  |.ok _=>Ā|.error e=>E e n) (s:={ s with ç:=Ùa àd }) (W.kdl_dict (knd:=xg ă w) (kvs:=kvs) (ep:=ep) lo) (by show q) (m.push _) Ý g g Ġa 0 ťc (λh' tk c u t f d=>?_) p
 show Ó (Şi f ?_);exact Ù _ _ (pure þj) _ _ _;refine ó (h h' tk þj (by rw[Ĺ];show d.1) (λj v e=>d.2 j v (by rw[<-ĭa];show e)) (ĥ f) λb ob e=>?_);show t b ob (xh ōp) Ĳd
def iG(vs:Á Value)(kvs:Á ŏa)(ns:Á Æ)(b:đ=Ō)(a:Ϛc (·.1)=Ϥ ĭ)(c:∀(j:Â)(v:Value),vs[j]?=À v->∃k x,kvs[j]?=À (k,x)/\(öa).is k v=Ä):ób vs ns:=by
 revert kvs ns
 induction vs with
 |nil=>
  intro kvs ns b a _;cases kvs with
  |nil=>
   cases ns with
   |nil=>show .nil|ð n ns=>cases a
  |ð _ _=>cases b
 |ð v vs ih=>
  intro kvs ns b a c;cases kvs with
  |nil=>cases b|ð kx kvs=>
   cases ns with
   |nil=>cases a|ð n ns=>let{k,x,e,z}:=c 0 v rfl;cases e;let f:k=ĭ n:=Ūm.1;subst f;let{t,rfl}:=ľm (k:=n) (v:=v) z;show .cons _ _ (ih kvs ns Àe Ūm.2 λj u d=>by simpa using c ϭ u Ħm)
def x4j{s:Í}{a:Ë}{kvs:Á ŏa}{ep:Â}{ns:Á Æ}{Q:Value->Í->È}(r:ča=Å)(lo:Ĵa=Ã)(t:ãe öa a kvs ep)(hk:Ϛc (·.1)=Ϥ ĭ)(B:ţ<64)(h:∀h' tk p out c ns',Ý<=p->ċ p=À ńh->ób Če ns'->øj ns->üi (·<=·)->(∀b ob,ø b=À ob->ċ b=À ob)->Q Ŵ { s with ç:=h',Ĕ:=tk }) :Ù è A Ϸh Q E s:=by
 let C:Ō=ţ:=by
  let:=ĳ ěd hk
  rwa [ã,ã]at this
 let l:Ō<=ä:=by rw[ū];omega
 rw[ϵp];refine Ó (m:=Ťi Ųa 1 1 _) (Βa (dw (by show r) lo t l λk tk d n q j o=>Ó (úf ?_ (by rw[n];show l))));let v:=iG d kvs ns n hk q;let i:êa<64:=by omega
 let g:(k.push Ùf).get? Čo=À Ùf:=ŷ _ rfl;show Ó (οc (ϩh g v i λout ns' x u z=>{_,rfl,?_}) ŋh);rw[ŝq];show ó {_,rfl,h _ tk Čo out c ns' (óa j) y x u z λb ob e=>?_};rw[ıq]
#print a
section
variable{X:Cx}
theorem KR:∀{kvs:Á Äa} {vs:Á ŏa},KV kvs vs->Ľg (·.1)=Ϛc (·.1)
 |_,_,.nil=>rfl|_,_,.cons r t=>by rw[ĵ,ĵ,KR t,r.1]
def x0y:Á V->Hp->VK->È:=λb H Q=>∃(a:Ë) (kvs:Á Äa) (ns:Á Æ),b=ϲ/\Rd H a ť/\Ϛc (·.1)=Ϥ ĭ/\ţ<64/\∀l,H l=Å->Q Ũb Ϧg
def z53(d:ŵ=Ä):vg X ϴd x0y:=by
 intro T s σ H W U Q I r h;let{a,v,b,rfl,z,x,k,q}:=h;let{u,rfl,G}:=qG r;cases(show u=Ė a from G);let{_,F,n,j,o,m,L,t,A,S,R,y,N}:=kC Ě z;let J:ãe Şf a n L:={o,m,t,A,S,R,y,N};show x4j (ýa d) F J ((KR j).trans x) k λh' C p g c i l P O K E B=>?_
 let e:i=Àb b:=Bi (K.trans (ġg).symm) E (ñe b);subst e;let f:(Àb b).length=Ûa:=(ġg).length_eq;show{.ref p,_,Ϗa (t':=C) (h':=h') B l (show xm ö X.w _ _ _ Ĵl from{?_,üj,c,KD O,?_}),rfl,q _ (Ęb l)};rw[ã,f];rw[Ůq];show P
#print a
#print L2
namespace L3
open ľ ś ŋ L2
nonrec def ZZ:Á Ļ->É Êg
 | []=>À []|.inl i::r=>(ZZ r).bind λa=>À Êk|.inr _::_=>Å
theorem Mn:∀{ks:Á Ļ} {ns:Á Æ},ZZ ks=À ns->ks=Ϥ ĭ
 | [],_,h=>by cases h;rfl|.inl i::r,_,h=>by let{ns,a,h}:=zH h;cases h;rw[Mn a];rfl
 |.inr _::_,_,h=>by cases h
def GS:Á D->É D
 | [.dic ks _]=>(ZZ ks).bind λa=>if úa<64 then À Ħl else Å|_=>Å
def x3s{X:Cx}{e:Ö}{fs:FA}{p pos:Pos}(f:ŵ=Ä)(B:Gl X Ųa)(u:ñ Ųa=Å)(C:SA X [e] fs)(s:Î Ča q12) :SF X Ķp (eL GS fs):=by
 let{t,w,k}:=C.h;refine{{_,(OM (p:=p) (pos:=pos) (z53 f) B u Ew {w} Ò Ò Ĩm).h,λ{J O G H τ σ d Q} E b q=>?_}};let{m,A,b}:=zH b;show k E A λF I L i z=>?_
 rcases m with _|⟨x_,r_⟩;cases b
 cases x_<;>first|(cases b;done)|skip
 cases r_<;>first|(cases b;done)|skip
 rename_i y N;let{j,r,b}:=zH b;by_cases c:ģa<64;rw[Ϲp];let{v,rfl,a,n,rfl,x,P,K,l}:=pR z;show{a,y.zip n,j,rfl,Ϲb i.gh x,?_,c,λo g=>?_};rw[<-Mn r];show Ěf Ê;show q o _ _ ŋl (ûj g) żn {_,yq,įd,?_};rw[ã,(ðc j).length_eq,ū];rw[Ãq];rw[ϸp]
#print L3
namespace L2
open ľ ś ĺa ŋ
section
variable{X:Cx}{x:Ç}{e:Ö}{es:Á Ö}{t:TA}{p pos:Pos}{i j:Â}
nonrec def z04(X:Cx)(j i:Â)(t:TA):TE:=λσ H Q=>∃(f:Ë) (fd:Ņ) (ps:Á Ç) (k:Â) (sp:Sp),σ[i]?=À ŕa/\k<=j/\Üa X.K Ī=Ä/\uN X.K fd ps []/\xc ö X.w X.K ñ Ľ xS k f fd ps sp/\t σ H λb a=>sp (b++[]) a Q E0
def y8m(n:yk j X.A)(o:PE X Ϙb úb)(C:PA X ĕ t)(a:Î òa q12):PE X Ŭa (z04 X j i t):=by intro c s σ H Q I h;let{f,O,K,k,G,l,w,B,b,F,h}:=h;rw[ϔ,Ď]at a;show Õd (zx (o c s σ H (λv g=>v=.ref f/\g=H) I {_,l,rfl,rfl}) λu m ⟨v,g,z,y,e1,e2⟩=>?_);subst e1 e2;cases y;show ēd (h₀:=Ľ) ĝd B (zx (C pos c m σ _ _ z h) λL E ⟨J,N,d,r,q⟩=>{d.wW,?_}) õg ÿg;show Vy F (ņg w) b .nil Yj d r q
#print a
#print L2
namespace L3
open ľ ś ŋ L2
def zu.z2m{K:Ô}{n:Â}{g m G H:Hp}{τ:zw}{σ:St}{i:Â}(E:zu K n g m G H τ σ)(v:V):zu K n g m G H Ĉd ċc:=by refine{ŵb,by rw[Ÿq],by rw[āq],λj d h=>?_,λj d h=>?_,λj k d e p f s q l o=>?_};rcases vv h with⟨_,z⟩|⟨a,z⟩;rw[ϊq];rcases vv h with⟨_,z⟩|⟨a,z⟩;cases z;rw[uX a];show ŧa j d z;rcases vv s with⟨_,b⟩|⟨t,b⟩;cases b;rcases vv q with⟨_,c⟩|⟨r,c⟩;cases c;rw[uX t]at l;rw[uX r]at o;show ąb j k d e p f b c l o
def T9(X:Cx)(j:Â)(f:Ë)(F:Á D->É å):È:=∃(fd:Ņ) (ps:Á Ç) (k:Â),k<=j/\Üa X.K Ī=Ä/\uN X.K fd ps []/\xc ö X.w X.K ñ Ľ xS k f fd ps Ÿi
structure BX(X:Cx)(i:Â)(t:TS)(f:Ë)(g:FS):È where
 h:∀{G0 H0 G H:Hp}{τ:zw}{σ:St}{fl:Fl}{E:u_},zu X.K ò G0 H0 G H τ σ->σ[i]?=À ŕa->g τ=À fl->qL X.K ò G0 H0 E fl->t E σ H
inductive ZK(X:Cx)(i:Â)(t:TS):Á Ë->Á FS->È
 |nil:ZK X i t [] []
 |ð {f:Ë} {fs:Á Ë} {g:FS} {gs:Á FS}:BX X i t f g->ZK X i t fs gs->ZK X i t (f::fs) (g::gs)
def ZK.len{X:Cx}{i:Â}{t:TS}{fs:Á Ë}{a:Á FS}(h:ZK X i t fs a):őa=úa:=by
 induction h with
 |nil=>rfl|ð _ _ ih=>rw[Ĉ,Ĉ,ih]
theorem ZK.get{X:Cx}{i:Â}{t:TS}:∀{fs:Á Ë}{gs:Á FS}{k:Â}{f:Ë},ZK X i t fs gs->fs[k]?=À f->∃g,gs[k]?=À g/\BX X i t f g
 |_,_,_,_,.nil,h=>by cases h|_,_,0,_,.cons b _,h=>by cases h;show{_,rfl,b}|_,_,k+1,_,.cons _ h,e=>ZK.get (k:=k) h Ňa
nonrec def gJ(i:Â):Á FS->zw->É Fl
 | [],τ=>À (.nx τ)|g::gs,τ=>(g Ĉd).bind λa=>match a with
  |.nx τ'=>gJ i gs τ'|.ct τ'=>gJ i gs τ'|.bk τ'=>À (.nx τ')|f=>À f
section
variable{X:Cx}{x y o gn:Ç}{e:Ö}{es:Á Ö}{fs:FA}{p p2 pos ϓ xp gp:Pos}{i iy j:Â}{ăb z_:Á Ü}{t:TS}{g:FS}
def T9.of{n:Ç}{ps:Á Ç}{k:Â}{f:Ë}{F:Á D->É å}(h:wu ö X.w X.K ñ Ľ n ps k Ÿi)(c:ñ n=À Ī)(hk:Î ϻa q10):T9 X j f F:=by let{g,d,a,e,b,F}:=h;rw[c]at a;cases a;show{d,ps,k,hk,e,b,F}
def z4p{m:TA}(n:∀{c e G H:Hp}{τ:zw}{σ:St}{ds:Á D}{Q:Á V->Hp->È},zu X.K ò c e G H τ σ->fs τ=À ds->(∀vs G' H',zT G H G' H'->ê X.K G' ds vs->Q vs H')->m σ H Q){f:Ë}{F:Á D->É å}(h:T9 X j f F){c e G H:Hp}{τ:zw}{σ:St}{d:D}{Q:VK}(E:zu X.K ò c e G H τ σ)(A:σ[i]?=À ŕa)(a:zg F fs τ=À d)(q:∀v G' H',zT G H G' H'->zZ X.K G' d v->Q v H'):z04 X j i m σ H Q:=by
 let{O,z,k,C,L,b,B}:=h;let{ds,J,a}:=zH a;obtain⟨⟨o,s⟩,y,a⟩:=zH a;cases a;refine{f,O,z,k,_,A,C,L,b,B,n E J λvs w P l I=>{w,ds,o,s,l.gh,by rw[Œ];show I,y,?_}};cases o with
 |Ã=>show λv G' H' g r=>q v G' H' (őe g) r|Ä=>intro p G' H' g x gp o;let{u,t,r}:=o.yj gp;show q _ _ _ (őe (g.yj x gp t)) r
def z4g(z:yk j X.A)(p:PE X Ž úb)(w:éa)(l:X.N[iy]?=À y)(B:qN Ϲ y)(J:SA X ĕ fs)(a:tq X z_ g)(s:Î òa q12)(k:Î (Xw źl=Ä) q12)(b:Î Åh q7) :∃t,uk X (.Assign [.Name y ϓ] źl pos::z_) t/\∀f F,T9 X j f F->BX X i t f (zQ Ŗm g):=by let{R,C,m}:=J.h;let{U,n,u}:=a.h;show{_,OE (ON w l B {y8m z p C s} k b).h n,λf F o=>{λ{L S G H τ σ T E} K k b q=>?_}};let{Q,c,b}:=zH b;let{d,I,c}:=zH c;cases c;show z4p m o K k I λv O P x r=>u ((řj).set īg.1 r) b q
def x4v{a:Ë}{fs:Á Ë}{c:Á FS}(P:Ϧb Ą X.A Û į)(W:ŵ=Ä)(n:PE X îe (tC Ŗ))(l:∀H,xP X.K H a ĉd)(Z:QG X Ž Űb)(hi:X.N[i]?=À x)(R:uk X ăb t)(O:ZK X i t fs c)(Q:Î (∀x,Ób îe Û x=pure x) q11):SS X (.For Ž îe ăb [] pos) (gJ i c):=by
 show{{_,BL P W (n8 n) Z.h R Q,λ{F J G H τ σ L E} K b q=>?_}};show{a,rfl,{_,l H},?_};let gl:=O.len;show{λk m σ H=>m=Îa-k/\k<=Îa/\∃τ G,zu X.K ò F J G H τ σ/\gJ i (ũd k) τ=À L,{Îa,rfl,Ź _,τ,G,K,b},?_};rintro k m σ H ⟨rfl,U,τ,G,K,b⟩;by_cases hlt:k<Îa;let j:fs[k]?=À ào:=Đ Ê;generalize ào=f at j;let I:ĉd[k]?=À (ϕa f):=by rw[ė,j];rfl
 refine .inr {{_,_,l H,I},λσ' r=>∃τ G,zu X.K ò F J G r τ σ'/\gJ i (ũd Ň) τ=À L,λσ' r z=>{Îa-Ň,by omega,rfl,hlt,z},λv r y=>?_};let{rfl,y}:=y;let e:=y _ (l _);rw[I]at e;cases e;let{g,C,B}:=O.get j;rw[ϋb hlt]at b;rw[Đ hlt]at C;cases C;let{T,S,b}:=zH (show(c[k] Ĉd).bind _=_ from b);let p:i<ò:=éb.1;refine B.h (K.z2m (i:=i) Ī) (YS (by rw[K.l1];show p)) S ?_;cases T with
 |nx τ2=>show λσ2 s Y u=>{τ2,s,u,b}|ct τ2=>show λσ2 s Y u=>{τ2,s,u,b}|bk τ2=>cases b;show q|rt o d=>cases b;show Őe q ãa ãa ãa rfl
 let e:ũd k=[]:=Úd Ê;rw[e]at b;cases b;show .inl {{_,l H,by rw[ã];omega},q _ _ _ K}
#print a
def CC(K:Ô)(a:Ç->É Value)(A:Ë)(ųb:Á Ç):È:=∃fs:Á Ë,(∀H,xP K H A ĉd)/\Ϟi a=Ϡc λf=>À Ī
inductive ZP(X:Cx)(j:Â):Á Ç->Á ûd->È
 |nil:ZP X j [] []
 |ð {n:Ç} {ns:Á Ç} {F:Á D->É å} {Fs:Á ûd} {ps:Á Ç} {k:Â} (h:wu ö X.w X.K ñ Ľ n ps k Ÿi) (r:ZP X j ns Fs) (hk:Î ϻa q10):ZP X j Ĵg (F::Fs)
section
variable{X:Cx}{x y o gn:Ç}{e:Ö}{es:Á Ö}{fs:FA}{p p2 pos ϓ xp xp2 gp op:Pos}{i iy j:Â}{z_:Á Ü}{g:FS}{a:Ë}{ųb:Á Ç}{Fs:Á ûd}{gs:Á FS}
theorem dX{t:TS}{G:ûd->FS}(a:∀f F,T9 X j f F->BX X i t f (G F)):∀{ųb:Á Ç}{Fs:Á ûd} {as:Á Ë},ZP X j ųb Fs->Ϟi ñ=as.map (λf=>À Ī)->ZK X i t as (Fs.map G)
 |_,_,[],.nil,_=>.nil|_,_,_::_,.nil,h=>by cases h|_,_,[],.cons _ _ _,h=>by cases h|_,_,f::as,.cons hh r hk,h=>by
  rw[ĵ,ĵ]at h;injection h with h1 h2
  show .cons (a _ _ (T9.of hh h1 hk)) (dX a r h2)
def x4u(u:Ϧb Ą X.A Û į)(B:ŵ=Ä)(m:v6 ñ gn Ŗ)(c:Gl X gn)(q:CC X.K ñ a ųb)(I:ZP X j ųb Fs)(s:yk j X.A)(G:QG X Ž Űb)(hi:X.N[i]?=À x)(E:QE X (.Name x xp2) úb)(o:éa)(n:X.N[iy]?=À y)(v:qN Ϲ y)(L:SA X ĕ fs)(b:tq X z_ g)(d:gs=Fs.map λF=>zQ Ŗm g)(k:Î ((gn==("__debug__" : Ç))=Ã) q10)(H:Î òa q12)(f:Î (Xw ϱk=Ä) q12)(l:Î Åh q7)(J:Î (∀x,Ób îe Û x=pure x) q11) :SS X (.For Ž îe (.Assign [.Name y op] ϱk ϓ::z_) [] pos) (gJ i gs):=by subst d;let{t,r,C}:=z4g (p2:=p2) (pos:=ϓ) (ϓ:=op) s E.h o n v L b H f l;let{O,z,p}:=q;show x4v u B (OB m c k) z G hi r (dX C I p) J
#print a
section
variable{α:Type}{P:Á α->È}
def z0n(h:P []):∀us:Á α,èa=0->P us
 | [],_=>h
def Ox{n:Â}(h:∀a (r:Á α),ϊ=n->P Ųd):∀us:Á α,èa=n+1->P us
 |a::r,e=>h a r (ýd e)
def us1(h:∀a,P [a]):∀us:Á α,èa=1->P us:=Ox λa=>z0n (P:=λr=>P Ųd) Ϥe
def us2(h:∀a b,P ϡe):∀us:Á α,èa=2->P us:=Ox λa=>us1 (P:=λr=>P Ųd) Ϥe
def us3(h:∀a b c,P [a,b,c]):∀us:Á α,èa=3->P us:=Ox λa=>us2 (P:=λr=>P Ųd) Ϥe
def us4(h:∀a b c d,P [a,b,c,d]):∀us:Á α,èa=4->P us:=Ox λa=>us3 (P:=λr=>P Ųd) Ϥe
def us5(h:∀a b c d e,P [a,b,c,d,e]):∀us:Á α,èa=5->P us:=Ox λa=>us4 (P:=λr=>P Ųd) Ϥe
#print a
abbrev MV(x:Ç)(st:Ü)(oc:Value)(od:É Ë)(sl:Ú ϩa)(kV dc pm:Value)(an:É Ë)(cd ct:Value):É Obj:=À {oc,od,.func (Ϩc x x ŝd Ýa ŗ .none kV dc pm an cd ct),sl}
open ĺa
def IJ:D->D->É D
 |.lst _,.zO=>À İ|.lst xs,.lst ys=>vL Ϩ Ğa|_,_=>Å
def oO(K:Ô):R2:=λx y H Q=>(∃a xs,x=.ref a/\y=.zO/\ya K H a xs/\Q İ H)\/OO K Ä x y H Q
section
variable{X:Cx}{K:Ô}
def y7w(e:Œa+7<ϛ):xD X ďi (oO X.K):=by intro d s σ H x y v u Q I b c h;rcases h with⟨a,j,rfl,rfl,g,q⟩|h;cases(show v=Ė a from b);cases(show u=ϥa from c);let{i,_,f,_}:=Ϛ g;show SeqAt.RcNeAt.list_none ýj Ê _ _ _ _ {.bl Ä,H,I,rfl,q};show kW e d s σ H x y v u Q I b c h
def y6s:gx K (oO K) IJ:=λH x y u v d Q c f b=>by
 cases x with
 |lst xs=>
  cases y with
  |zO=>cases b;let{a,g,rfl,h,_}:=c;cases(show v=V.zO from f);show{_,rfl,λq=>.inl {a,g,rfl,rfl,h,q}}
  |lst ys=>let{w,e,k}:=kT (K:=K) H Ϩ Ğa u v d Q c f b;show{w,e,λq=>.inr (k q)}
  |_=>cases b
 |_=>cases b
#print a
#print L3
namespace L2
open ľ ś ĺa ŋ
def y0t{k:zY}{v:Value}(h:t_ k v=Ä):yB Èk v:=by rcases jh h with⟨i,t,rfl,rfl⟩|⟨x,t,rfl,rfl⟩;show{t,rfl};show{t,rfl}
theorem Ir:∀{kvs:Á Äa} {vs:Á ŏa},KV kvs vs->đ=Ō
 |_,_,.nil=>rfl|_,_,.cons _ t=>by rw[Ĉ,Ĉ,Ir t]
#print L2
namespace L3
open ľ ś ĺa ŋ L2
nonrec def ϓa:zY->D
 |.inl i=>.int i|.inr x=>.str x
nonrec def Ts:zY->Ð
 |.inl _=>Ä|.inr x=>decide (ϯb<=yX)
def y0u{K:Ô}{G:Hp}{k:zY}(h:Ts k=Ä):zZ K G (ϓa k) Èk:=by
 cases k with
 |inl i=>rfl|inr x=>show{rfl,by rw[ū];show š h}
#print L3
namespace L2
open ľ ś ĺa ŋ
section
variable{X:Cx}{zA:Á õ}{σ:St}{H:Hp}{s:Í}{a:Ë}{o:Obj}{kvs:Á Äa}
def Inv.swap(I:Inv X zA σ H s)(e:H a=À u)(A:∀x,u≠.own x)(j:∀xs,u≠.tup xs)(k:∀ps,öb a≠À Ħe)(B:∀ob v,öb a≠À żi)(l:∀xs,öb a≠À Ŗa)(h:xm ö X.w Ōo â a u'):Inv X zA σ Ōo s:=by
 let f:∀b,H b=Å->b≠a:=λb d z=>by subst z;rw[e]at d;cases d
 show{Åd,Óc,ϑa,{Ĳf,Āe,λb ob q n t=>?_,õe,λb xs q=>?_,λb ob v q=>?_,λb ps q=>?_},Ėa,Ľa,?_,λx c q=>?_,λp m=>?_,λb v q=>?_,Āb};let:=ăd b ob q n t;rw[yH (f b this)];rw[Ϯp];let d:b≠a:=λz=>by subst z;show l xs q
 rw[yH d];show Ęe b xs q;let d:b≠a:=λz=>by subst z;show B ob v q
 rw[yH d];show ėe b ob v q;let d:b≠a:=λz=>by subst z;show k ps q
 rw[yH d];show ęe b ps q;rw[yH (f _ ϐa)];show ϐa;rw[yH (f _ (Ĵb x c q))];show Ĵb x c q;let{r,i,o}:=ńa p m;show{r,by rw[yH (f _ i)];show i,o};by_cases d:b=a;subst d;rw[yq]at q;cases q;show h;rw[yH d]at q;show(Ě b v q).XH (λc w _ z=>z) (λc z=>?_) λc xs z=>?_;let g:c≠a:=λy=>by subst y;rw[e]at z;cases z;show A _ rfl
 rw[yH g];show z;let g:c≠a:=λy=>by subst y;rw[e]at z;cases z;show j _ rfl
 rw[yH g];show z
def Inv.bC(I:Inv X zA σ H s)(e:H a=À ť):(∀ps,öb a≠À Ħe)/\(∀ob v,öb a≠À żi)/\∀xs,öb a≠À Ŗa:=by show{λps z=>?_,λob v z=>?_,λxs z=>?_};let{_,q}:=ęe a ps z;rw[e]at q;cases q;let q:=ėe a ob v z;rw[e]at q;cases q;let q:=Ęe a xs z;rw[e]at q;cases q
def Inv.up(I:Inv X zA σ H s)(e:H a=À ť):∃o,Inv X zA σ Ēi s:=by let{h,j,i}:=I.bC e;let{z,y,f,r,b,d,k,g,c}:=(show xm ö X.w H â a ť from Ě a _ e);show{b,I.swap e ãa ãa h j i {g,z,y,f,r,b,d,k,g,c}}
def Inv.dn(I:Inv X zA σ H s)(e:H a=À Ϣa)(n:(∀ps,öb a≠À Ħe)/\(∀ob v,öb a≠À żi)/\∀xs,öb a≠À Ŗa):Inv X zA σ (ze H a ť) s:=by let{f,i,h}:=n;let{_,z,y,d,r,ob,b,j,g,c}:=(show xm ö X.w H â a Ϣa from Ě a _ e);show I.swap e ãa ãa f i h {z,y,d,r,ob,b,j,g,c}
#print a
def x5u(i:Â)(t:TE):TE:=λσ H Q=>∃a,σ[i]?=À Ìj/\((∃o kvs,H a=À Ϣa/\t σ H Q)\/∃kvs,H a=À ť/\∀o,t σ Ēi λv b=>b a=À Ϣa/\Q v (ze b a ť))
def y8z(h:PE X e t):PE X e (x5u i t):=by intro c s σ H Q I b;obtain⟨a,l,⟨_,_,_,b⟩|⟨f,e,b⟩⟩:=b;show h c s σ H Q I b;let{o,g}:=I.up e;show zx (h c s σ _ _ g (b o)) λu m ⟨v,k,d,r,j,q⟩=>{v,_,d.dn j (I.bC e),r,q}
def C1(a:Ë)(o:Obj)(kvs:Á Äa):It:={λi H=>H a=À Ϣa/\i<Ō,λi H v b=>b=H/\∃k u,kvs[i]?=À (k,u)/\v=kV k,λi H=>H a=À Ϣa/\Ō<=i}
def GY(ok:wX P w H h)(e:H a=À Ϣa)(d:ϸ=.dict es ep):Ĵa=Ã/\∃vs,KV kvs vs/\h.DictAt æb a vs ep:=by let{g,z,y,vs,r,j,b,i,f,c}:=(show xm P w H h a Ϣa from ok a _ e);rw[g]at f;cases f;show{y,vs,r,o,b,g,c.1,?_,c.2.2};let e1:=c.2.1;rw[d]at e1;cases e1;show d
theorem im:∀{kvs:Á Äa} {vs:Á ŏa} {i:Â} {k:zY} {x:Value},KV kvs vs->vs[i]?=À (k,x)->∃u,kvs[i]?=À (k,u)/\yB u x
 |_,_,_,_,_,.nil,e=>by cases e|_,_,0,_,_,.cons r t,e=>by cases e;let{a,b}:=r;show{_,ĳ À (Prod.ext a rfl),b}
 |_,_,i+1,_,_,.cons _ t,e=>im (i:=i) t Ňa
def x7h{P:ï}{w:æ}{K:Ô}{tg:Ö}{kvs:Á Äa}{o:Obj}{es:Ú Ċc}{ep:Â}(a it:Ë)(d:ϸ=.dict es ep) :YF P w K tg êo [it] it (λi h=>h.IsKeyIter it a i Ō ep) where
 mem:=by simp
 obj:=λi h st b j=>by
  let e:b=it:=by simpa using j
  rw[ϰp]
 ťa:=λi h t st k=>st.at λo e=>k it ô o e
 Ăb:=by
  rw[ϻp];let R:i<íb:=by rw[m];show p.2
  let r:f[i]?=À (f[i].1,f[i].2):=Đ R;let{u,S,_}:=im g r;let{J,L,T,B,N,A}:=q it ô;rw[<-m]at st;show wpAny_pyNext_dict_item st F r λy t n l Z=>?_
  rw[m]at l;let U:Inv X O σ H { s with ç:=t }:=ïb (t':=ē) (λb o j e=>(Z.2 b j).trans e) J L B N A;let{o,e,c,d}:=id l;show{y,rfl,IU (s:={ s with ç:=t }) e c d Ò {kV f[i].1,H,U,y0t n,{rfl,_,_,S,rfl},l,λb j=>(q b j).1}}
 done:=by rw[ϻp];let r:f[i]?=Å:=Öa (by rw[m];show p.2);let{J,L,T,B,N,A}:=q it ô;rw[<-m]at st;show wpAny_pyNext_dict_end (ýa Q) st F r λt Y=>{rfl,ïb (t':=ē) (λb o j e=>Y b o j e) J L B N A}
 Ëc:=λ_ _ _ _ _ st h=>wpAny_pyIter_keyiter st h
def z9p(i:Â):TI:=λσ H R=>∃a o kvs,σ[i]?=À Ìj/\H a=À Ϣa/\R êo H
def y99{X:Cx}{tg:Ö}{x:Ç}{p:Pos}{i:Â}(A:X.N[i]?=À x)(hv:g_ Ϲ x)(E:Î ō q10)(k:Î Żb q10):PI X tg Ϙb (z9p i):=by
 intro q s σ H R I m;let{a,o,d,F,e,m}:=m;show zx (Vs (pos:=p) A hv E k q s σ H (λv j=>v=.ref a/\j=H) I {_,F,rfl,rfl}) λv h ⟨y,j,f,C,e1,e2⟩=>?_
 subst e1 e2;cases(show v=Ė a from C);let{g,_,_,_,_,J,G,K,n,_,c,_}:=(show xm ö X.w j h.heap a (.yj o (.dK d))from f.zi a _ e);rw[g]at n;cases n;let{u,r,l,t}:=GY f.zi e c;let B:ϊ=êa:=Ir l;show wpAny_pyIter_dict u t ?_;rw[B];show{ŧh,[ŧh],_,_,j,rfl,f.kept (t':=h.toks) λb o e=>ě _ e,x7h a _ c,{_,ŷ _ rfl,rfl,rfl},λb z=>?_,m};let e:b=ŧh:=by simpa using z
 subst e;show f.Wb Ē (Źo Ē)
#print L2
namespace L3
open ľ ś ĺa ŋ L2
structure Tw(a:Ë)(kvs:Á Äa)(G G':Hp):È where
 ne:∀b,b≠a->G' b=G b
 l:Rd G a ť
 r:Rd G' a ť
section
variable{K:Ô}{a:Ë}{o:Obj}{kvs:Á Äa}{G G' H H' G0 H0:Hp}
def Rd.tw(t:Tw a kvs G G')(c:∀ob v,u≠.yj ob v)(h:Rd G b u):Rd G' b u:=by
 rw[øq]
 let e:u=.dK kvs:=by rcases h with h|⟨ob,h⟩<;>rcases t.l with l|⟨oc,l⟩<;>rw[l]at h;cases h;rfl;cases h;show Þ rfl (c oc _);cases h;cases h;rfl
 rw[e];show t.r;rcases h with h|⟨ob,h⟩;show .inl (by rw[Ţq]);show .inr {ob,by rw[Ţq]}
theorem Tw.at{b:Ë}{u:HO}(t:Tw a kvs G G')(h:G b=À u)(c:u≠.dK kvs)(d:∀o,u≠.yj o ť):G' b=À u:=by rw[øq];rcases t.l with l|⟨oc,l⟩<;>rw[l]at h;cases h;show Þ rfl c;cases h;show Þ rfl (d oc);rw[Ţq]
theorem zZ.tw(t:Tw a kvs G G'):∀{d:D}{v:V},zZ K G d v->zZ K G' d v:=λ{d}=>by show Ųg (P:=λd=>∀v,zZ K G d v->zZ K G' d v) ϟo Äo Áo Ào ?_ ?_ ?_ ?_ ?_ d _;rw[Ăq];rcases q with q|q;show .inl ín;show .inr q;rw[Ăq];rcases q with q|q;show .inl ín;show .inr q;rintro k g c v ⟨b,f,e,q,z,r,l⟩;show{b,f,e,Rd.tw t Ųk q,z,îb c r,l};rintro x v ⟨b,C,e,n,h⟩;show{b,C,e,n,t.at h ĉa ãa};rintro x m g c v ⟨b,C,j,f,e,n,h,l,r⟩;show{b,C,j,f,e,n,t.at h ĉa ãa,l,îb c r}
theorem Reps.tw(t:Tw a kvs G G')(h:ê K G ds vs):ê K G' ds vs:=îb (λ_ _ _=>zZ.tw t) h
theorem vp.tw(t:Tw a kvs G G')(f:H' p=H p)(b:vp K G H d p):vp K G' H' d p:=by
 cases d with
 |lst ds=>let{c,e,r,l}:=b;show{c,by rw[f];show e,r.tw t,l}
 |dic ks ds=>let{c,e,z,r,l}:=b;show{c,by rw[f];show e,z,r.tw t,l}
 |_=>show b.elim
def z0d(e:G a=À ť):Tw a kvs G ēi:={λb c=>yH c,.inl e,.inr {o,yq}}
def x7o(e:G a=À Ϣa):Tw a kvs G (ze G a ť):={λb c=>yH c,.inr {o,e},.inl yq}
nonrec def QL(a:Ë)(f:HO)(H0:Hp):Hp:=λb=>if b=a then(H0 a).bind λ_=>À f else H0 b
def x9u(h:b≠a):QL a f H0 b=H0 b:=Ñ h
def x9v:QL a f H0 b=Å↔H0 b=Å:=by
 unfold QL;by_cases h:b=a;subst h;rw[Ï rfl];cases H0 b with
 |Å=>show{λ_=>rfl,λ_=>rfl}|À u=>show{λz=>(nomatch z),λz=>(nomatch z)}
 rw[Ñ h]
theorem x9t(h:QL a f H0 a=À u):u=f:=by
 unfold QL at h;rw[Ï rfl]at h;cases e:H0 a with
 |Å=>rw[e]at h;cases h|À w=>rw[e]at h;cases h;rfl
def zu.up(E:zu K n G0 H0 G H τ σ)(e:G a=À ť):zu K n ēi (QL a Ϣa H0) ēi Ēi τ σ:=by
 let t:=z0d (o:=o) e;show{{śa _,λb u h=>?_,Rb Ŵa,λ_ h=>.inl h},ű,Ű,λi d h=>?_,λi d h=>?_,ąb};rw[øq];rw[yq,x9t h];rw[x9u hb]at h;rw[yH hb];show ŗe _ _ h;let{v,c,r}:=Ũa i d h;show{v,c,r.tw t};let{p,c,g,z,j}:=ŧa i d h;let f:p≠a:=λz=>by subst z;rw[e]at g;cases g
 show{p,c,by rw[yH f];show g,x9v.mpr z,j.tw t (yH f)}
#print a
def Kn(K:Ô)(i:Â)(τ:zw)(σ:St)(G:Hp):È:=∃a o ks ds vs,τ[i]?=À Ŀl/\σ[i]?=À Ìj/\G a=À ťo/\Ń=đ/\ê K G ds vs/\ü<=ä
structure ci(X:Cx)(i:Â)(e:Ö)(f:FE):È where
 h:∃t,PE X e t/\∀{G0 H0 G H:Hp}{τ:zw}{σ:St}{d:D}{Q:VK},zu X.K ò G0 H0 G H τ σ->Kn X.K i τ σ G->f τ=À d->(∀p G' H',zT G H G' H'->H p=Å->G' p=Å->vp X.K G' H' d p->Q Ŵ H')->t σ H Q
structure cp(X:Cx)(i:Â)(tg ż:Ö)(f:FA):È where
 h:∃wi,PI X tg ż wi/\∀{G0 H0 G H:Hp}{τ:zw}{σ:St}{ds:Á D}{R:It->Hp->È},zu X.K ò G0 H0 G H τ σ->Kn X.K i τ σ G->f τ=À ds->(∀J G' H',zT G H G' H'->ü<=ä->k7 X.K J G' ds->R J H')->wi σ H R
def Lg(i:Â)(f:zw->É α):È:=∀τ x,f τ=À x->∃ks ds,τ[i]?=À Ŀl
def x3r(h:ci X i e f)(hk:Lg i f):SF X e f:=by
 let{t,R,k}:=h.h;show{{_,y8z (i:=i) R,λ{U W G H τ σ d Q} K r q=>?_}};let{m,C,A}:=hk _ _ r;let{v,y,a,j,rfl,P,L,I,F}:=K.fr i _ A;show{a,y,?_};rcases P with e|⟨o,e⟩;show .inr {_,ża _ _ e,λo=>?_};let N:=K.up (o:=o) e;show k N {a,o,m,C,j,A,y,yq,L,I.tw (z0d e),F} r λp J O x E l S=>?_
 let T:H a=À _:=ża _ _ e;let n:J a=À (.yj o Ϥh):=x.g _ _ yq
 let s:H p=Å:=by by_cases z:p=a;subst z;rw[n]at l;cases l;rw[yH z]at E;show E
 let B:p≠a:=λz=>by subst z;rw[n]at l;cases l
 show{ıb _ _ n,q p (ze J a Ϥh) (ze O a Ϥh) {λb u c=>?_,λb u c=>?_,Rb ıb,λb c=>?_} s (by rw[yH B];show l) (S.tw (x7o n) (yH B))};rw[ŋq];rw[e]at c;cases c;show yq;rw[yH z];show x.g _ _ ϥl;rw[ŋq];rw[T]at c;cases c;show yq;rw[yH z];show x.h _ _ ϥl;rw[ŋq];show .inl Äh;rw[yH z]at c;rcases ϳc b c with w|w;rw[yH z]at w;show .inl w;rw[yH z]at w;show .inr w;show .inl {o,_,ża _ _ e,k K {a,o,m,C,j,A,y,e,L,I,F} r q}
def Tb(i:Â):FA:=λτ=>match τ[i]? with
 |À (À (Ã,.dic ks _))=>if ks.all Ts=Ä then À Ûo else Å|_=>Å
def z64(i:Â):Lg i (Tb i):=λτ x a=>by
 unfold Tb at a
 rw[Åq];rename_i c b e;show{c,b,e};cases a
def z6a{K:Ô}{G:Hp}{a:Ë}{o:Obj}{ks:Á zY}{vs:Á V}(j:Ń=đ)(e:G a=À ťo)(h:ks.all Ts=Ä):k7 K (C1 a o Ûb) G Ûo where
 go:=λi g H f d b=>{d _ _ ŵp,by rw[Šq]}
 tW:=λi g H x m f d b y=>by
  let{rfl,k,u,l,rfl}:=y
  let c:ks[i]?=À k:=by let:=ĳ (Option.map Prod.fst) l;rw[<-ė,Ěf Ê]at this;rw[Ϯp]
  show{g,ϓa k,ŋa d,by rw[ė,c];rfl,y0u (âa h k (ώ c))}
 Ϡ:=λi g H f d b=>{d _ _ ŵp,by rw[Šq]}
def x41{X:Cx}{tg:Ö}{x:Ç}{p:Pos}{i:Â}(j:X.N[i]?=À x)(hv:g_ Ϲ x)(n:Î ō q10)(d:Î Żb q10):cp X i tg Ϙb (Tb i):=by
 show{{_,y99 j hv n d,λ{v w G H τ σ k R} K l b q=>?_}};let{a,o,f,h,u,s,t,e,g,r,m}:=l;unfold Tb at b;rw[s]at b
 change (if f.all Ts=Ä then À ĥp else Å)=À k at b
 by_cases c:f.all Ts=Ä;rw[Ϲp];show{a,o,_,t,ża _ _ e,q _ _ _ ņp ?_ (z6a g e c)};rw[ã,g,ϊ];show m;rw[ϸp]
def z65(h:Lg i fs):Lg i (wY n fs fg ft f):=λτ x b=>by let{a,c,_}:=zH b;show h τ a c
section
variable{X:Cx}{i:Â}{tg ż elt:Ö}{ifs:Á Ö}{Ł:îa}{cl:Á ϫa}{own:Á Ç}{pos:Pos}{fs:FA}{fg:FG}{ft:FT}{f:FE}{g:TG}
def x3p(a:ŵ=Ä)(B:XJ X Ł cl own)(hi:cp X i tg ż fs)(m:BG X Ł cl own tg g fg)(A:∀C s H fp pn,TH ða ifs ft)(u:∀C s H fp pn,SE ða elt f)(v:Î (∀x,Ób ż Û x=pure x) q11) :ci X i ķb Īh:=by
 let{L,w,z}:=Ĵc;show{{_,m_ a B w (Δc (m.q C s H fp pn)) (Αc (A C s H fp pn)) (Βc (u C s H fp pn)) v,λ{P T G H τ σ d Q} K o b q=>?_}};let{N,F,b}:=zH b;let{y,t,b}:=zH b;cases b;show z K o F λJ S U j l n=>Kf n l Śj t (m.k K.l2 K.l1) λr O R c E I p e=>?_
 show q p _ _ (œd čm) (j.h.free (ÿj e)) (ϧi e) {r,yq,E,I}
#print a
nonrec def Ij:Á D->É Êg
 | []=>À []|.int i::r=>(Ij r).bind λa=>À Êk|_::_=>Å
theorem iD{K:Ô}{G:Hp}:∀{xs:Á D}{ns:Á Æ}{vs:Á V},Ij xs=À ns->ê K G xs vs->vs=Ϥ üb
 | [],ns,vs,h,r=>by cases h;show(show vs=[]from r)|.int i::xs,ns,vs,h,r=>by let{d,a,h}:=zH (show(Ij xs).bind _=_ from h);cases h;let{v,e,rfl,b,c}:=r;cases(show v=.int i from b);rw[iD a c];rfl
 |.zO::_,_,_,h,_=>by cases h|.bl _::_,_,_,h,_=>by cases h|.str _::_,_,_,h,_=>by cases h|.tup _::_,_,_,h,_=>by cases h|.lst _::_,_,_,h,_=>by cases h|.dic _ _::_,_,_,h,_=>by cases h|.exc _::_,_,_,h,_=>by cases h|.obj _ _ _::_,_,_,h,_=>by cases h
nonrec def GP:Á D->É D
 | [.dic ks _]=>À (.int Ń)|_=>Å
def z4v:vg X üd ćk:=by intro e s σ H xs f Q I r h;let{a,kvs,rfl,d,q}:=h;let{u,rfl,b}:=qG r;cases b;show z60 I d λt g c=>{.int Ō,H,c,{t,rfl},q}
def y6j{K:Ô}:Jf K ćk GP:=λG H e c d Q s r b q=>by
 rcases e with _|⟨x_,r_⟩;cases b
 cases x_<;>first|(cases b;done)|skip
 cases r_<;>first|(cases b;done)|skip
 rename_i k xs;cases b;let{v,j,rfl,f,g}:=r;cases(show j=[]from g);let{a,c,rfl,i,h,l,_}:=f;show{a,_,rfl,i,?_};rw[íc,<-h,Ōb];rw[ģq]
#print L3
namespace L3
open ľ ś ŋ L2
inductive M where
 |fz (d:D)|own (d:D)|obj (x:Ç) (fs:Á Ç) (ms:Á M)|tab (ks:Á Ļ) (ms:Á M)|tp (ms:Á M)
mutual
nonrec def vd:M->D
 |.fz d=>d|.own d=>d|.obj x fs ms=>.obj x fs ąc|.tab ks ms=>.dic ks ąc|.tp ms=>.tup ąc
nonrec def ϴc:Á M->Á D
 | []=>[]|m::ms=>vd m::ϴc ms
end
nonrec def ăa{κ α:Type}[œb κ]:Á κ->Á α->κ->É α
 |k'::ks,v::vs,k=>if k'=k then À v else ăa ks vs k|_,_,_=>Å
nonrec def uf{κ α:Type}[œb κ]:Á κ->Á α->κ->α->Á α
 |k'::ks,v::vs,k,y=>if k'=k then y::vs else v::uf ks vs k y|_,vs,_,_=>vs
inductive wH where
 |at(cs:Á Ç) (f:Ç)|ky (k:Sum Æ Ç)
def sW:M->wH->É M
 |.obj x fs ms,.at cs f=>if x∈cs then ăa fs ms f else Å|.tab ks ms,.ky k=>ăa ks ms k|_,_=>Å
def x3j:M->wH->M->M
 |.obj x fs ms,.at _ f,m=>.obj x fs (uf fs ms f m)|.tab ks ms,.ky k,m=>.tab ks (uf ks ms k m)|m,_,_=>m
def jB:M->Á wH->É M
 |m,[]=>À m|m,s::π=>(sW m s).bind λa=>jB a π
def jI:M->Á wH->M->É M
 |_,[],m'=>À m'|m,s::π,m'=>(sW m s).bind λb=>(jI b π m').bind λa=>À (x3j m s a)
abbrev Ft:=Ë->È
mutual
def xo(K:Ô)(G H:Hp):M->V->Ft->È
 |.fz d,v,L=>zZ K G d v/\∀q,¬ L q|.own d,v,L=>∃p,v=.ref p/\vp K G H d p/\∀q,L q↔q=p|.obj x fs ms,v,L=>∃p C dx vs L',v=.ref p/\ϙ K Ę x=À Ģa/\H p=À õh/\őa=đ/\ϒ K G H ms vs L'/\¬ L' p/\∀q,L q↔q=p\/L' q|.tab ks ms,v,L=>∃p vs L',v=.ref p/\H p=À Ġi/\Ń=đ/\ϒ K G H ms vs L'/\Ķa<=ä/\¬ L' p/\∀q,L q↔q=p\/L' q|.tp ms,v,L=>∃p vs,v=.ref p/\xP K G p vs/\ϒ K G H ms vs L/\Ķa<=ä
def ϒ(K:Ô)(G H:Hp):Á M->Á V->Ft->È
 | [],vs,L=>vs=[]/\∀q,¬ L q|m::ms,vs,L=>∃v r L1 L2,vs=v::r/\xo K G H m v L1/\ϒ K G H ms r L2/\(∀q,L1 q->L2 q->Ā)/\∀q,L q↔L1 q\/L2 q
end
def űg{P:M->È}(f:∀d,P Ōe)(own:∀d,P Įj)(a:∀x fs ms,(∀m∈ms,P m)->P ϻh)(b:∀ks ms,(∀m∈ms,P m)->P ño)(i:∀ms,(∀m∈ms,P m)->P (.tp ms))(m:M):P m:=
 M.rec (motive_1:=P) (motive_2:=λms=>∀m∈ms,P m) f own (λx fs ms h=>a x fs ms h) (λks ms h=>b ks ms h) (λms h=>i ms h) ēm
  (λd k g c e j=>by rcases ĩ j with z|z;show z▸g;show c e z) m
nonrec def dW:HO->Ð
 |.lst _=>Ä|.dK _=>Ä|.ins _ _ _=>Ä|_=>Ã
def Bx(H:Hp)(q:Ë):È:=∃u,H q=À u/\dW u=Ä
def Bx.some{H:Hp}{q:Ë}(b:Bx H q):H q≠Å:=by let{u,e,_}:=b;rw[e];show λz=>nomatch z
section
variable{K:Ô}{G H G' H':Hp}
def vp.loc{d:D}{p:Ë}(g:yF G G')(h:H' p=H p)(o:vp K G H d p):vp K G' H' d p:=by
 cases d with
 |lst ds=>let{a,e,r,l}:=o;show{a,Ėg e,ßa g,l}
 |dic ks ds=>let{a,e,z,r,l}:=o;show{a,Ėg e,z,ßa g,l}
 |_=>show Ĩc
theorem Žc:∀{ms:Á M}{vs:Á V}{L:Ft},(∀m∈ms,∀v L1,(∀q,L1 q->L q)->xo K G H m v L1->xo K G' H' m v L1)->ϒ K G H ms vs L->ϒ K G' H' ms vs L
 | [],_,_,_,h=>h|m::ms,vs,L,f,h=>by let{v,r,L1,k,e,c,d,j,u}:=h;show{v,r,L1,k,e,f m Ġ v L1 ŀl c,Žc øk d,j,u}
theorem xo.loc(g:yF G G')(m:M):∀(v:V)(L:Ft),(∀q,L q->H' q=H q)->xo K G H m v L->xo K G' H' m v L:=by show űg (P:=λm=>∀v L,(∀q,L q->H' q=H q)->xo K G H m v L->xo K G' H' m v L) ?_ ?_ ?_ ?_ ?_ m;rintro d v L h ⟨r,n⟩;show{ßa g,n};rintro d v L h ⟨p,e,o,u⟩;show{p,e,ťg g (h p ún),u};rintro x F t a v L h ⟨p,C,B,c,k,e,w,j,l,r,n,u⟩;show{p,C,B,c,k,e,w,(Íg).trans j,l,Žc ϛk r,n,u};rintro E t a v L h ⟨p,c,k,e,j,l,r,A,n,u⟩;show{p,c,k,e,(Íg).trans j,l,Žc ϛk r,A,n,u};rintro t a v L h ⟨p,c,e,y,r,l⟩;show{p,c,e,t9 g y,Žc (λm f b i s o=>a m f b i Ϙm o) r,l}
theorem Ϭn:∀{ms:Á M}{vs:Á V}{L:Ft},ϒ K G H ms vs L->đ=Ķa
 | [],_,_,h=>by let{rfl,_}:=h;rfl
 |m::ms,_,_,h=>by let{v,r,c,b,rfl,_,a,_}:=h;rw[Ĉ,Ĉ,Ϭn a]
theorem vp.bx{d:D}{p:Ë}(o:vp K G H d p):Bx H p:=by
 cases d with
 |lst ds=>let{a,e,_}:=o;show{_,e,rfl}
 |dic ks ds=>let{a,e,_}:=o;show{_,e,rfl}
 |_=>show Ĩc
theorem Ěd:∀{ms:Á M}{vs:Á V}{L:Ft},(∀m∈ms,∀v L1,xo K G H m v L1->∀q,L1 q->Bx H q)->ϒ K G H ms vs L->∀q,L q->Bx H q
 | [],_,_,_,h,q,z=>Þ z (h.2 q)|m::ms,vs,L,f,h,q,z=>by let{v,r,L1,i,e,b,c,g,u}:=h;rcases(u q).mp z with z|z;show f m Ġ v L1 b q z;show Ěd (λd a=>f d čc) c q z
theorem xo.cells(m:M):∀(v:V)(L:Ft),xo K G H m v L->∀q,L q->Bx H q:=by show űg (P:=λm=>∀v L,xo K G H m v L->∀q,L q->Bx H q) ?_ ?_ ?_ ?_ ?_ m;rintro d v L ⟨r,n⟩ q z;show Þ z (n q);rintro d v L ⟨p,e,o,u⟩ q z;cases(u q).mp z;show o.bx;rintro x t f a v L ⟨p,C,s,c,g,e,h,b,l,r,n,u⟩ q z;rcases(u q).mp z with rfl|z;show{_,b,rfl};show Ěd a r q z;rintro k f a v L ⟨p,c,g,e,b,l,r,j,n,u⟩ q z;rcases(u q).mp z with rfl|z;show{_,b,rfl};show Ěd a r q z;rintro f a v L ⟨p,c,e,i,r,l⟩ q z;show Ěd a r q z
theorem SN:∀(ms:Á M),(ąc).length=Ķa
 | []=>rfl|m::ms=>by exact(ąc).length+1=_;rw[SN ms];rfl
theorem ļe:∀{ms:Á M}{vs:Á V}{L:Ft},(∀m∈ms,∀v L1,(∀q,L1 q->L q)->xo K G H m v L1->zZ K G' ϸj v)->ϒ K G H ms vs L->ê K G' ąc vs
 | [],_,_,_,h=>h.1|m::ms,vs,L,f,h=>by let{v,r,L1,k,e,c,d,j,u}:=h;show{v,r,e,f m Ġ v L1 ŀl c,ļe øk d}
theorem xo.p_(g:yF G G')(m:M):∀(v:V)(L:Ft),(∀q,L q->G' q=H q)->xo K G H m v L->zZ K G' ϸj v:=by
 show űg (P:=λm=>∀v L,(∀q,L q->G' q=H q)->xo K G H m v L->zZ K G' ϸj v) ?_ ?_ ?_ ?_ ?_ m;rintro d v L h ⟨r,n⟩;show ßa g;rintro d v L h ⟨p,rfl,o,u⟩;let b:=h p ún;cases d with
 |lst ds=>let{a,e,r,l}:=o;show{p,a,rfl,Ţa (äe e),ßa g,l}
 |dic E ds=>let{a,e,z,r,l}:=o;show{p,a,rfl,.inl (äe e),z,ßa g,l}
 |_=>show Ĩc
 rintro x F k f v L h ⟨p,C,y,a,t,e,A,b,l,r,n,u⟩;show{p,C,y,a,e,A,(Íg).trans b,l,ļe Ϛk r};rintro E k f v L h ⟨p,a,t,e,b,l,r,w,n,u⟩;show{p,a,e,.inl ((Íg).trans b),l,ļe Ϛk r,by rw[SN];show w};rintro k f v L h ⟨p,a,e,B,r,l⟩;show{p,a,e,t9 g B,ļe (λm j i c s o=>f m j i c Ϙm o) r,by rw[SN];show l}
theorem ýe{κ:Type}[œb κ]{k:κ}{t:M}:∀{ks:Á κ}{ms:Á M}{vs:Á V}{L:Ft},ϒ K G H ms vs L->ăa ks ms k=À t->
  ∃v1 L1,ăa ks vs k=À v1/\xo K G H t v1 L1/\(∀q,L1 q->L q)/\∀{G' H':Hp}{m2:M}{L2:Ft},yF G G'->(∀q,L q->¬ L1 q->H' q=H q)->xo K G' H' m2 v1 L2->(∀q,L2 q->L q->L1 q)->ϒ K G' H' Øn vs çl
 | [],_,_,_,_,e=>by cases e|_::_,[],_,_,_,e=>by cases e|k'::ks,m::ms,vs,L,h,e=>by
  let{v,r,n,A,rfl,x,y,b,u}:=h;unfold ăa at e;rw[Àq];refine{v,n,by unfold ăa;rw[Ï c],x,λq z=>(àa).mpr Œb,λ{G' H' m2 L2} g i p l=>?_};unfold uf;rw[Ï c];show{v,r,L2,A,rfl,p,?_,λq d a=>b q (l q d ((àa).mpr ĳj)) a,λq=>?_};show Žc (λF _ C B s o=>ťg g F C B λq z=>i q (Ζa Ĩe) λw=>b q w Ĩe) y;rw[Ĵq];rw[źq];rcases(u q).mp z with z|z;show Þ z w;rw[Đq];rw[Ŷq];show .inl {(àa).mpr Źa,λw=>b q w z};rw[Ñ c]at e;let{v1,L1,e1,E,j,f}:=ýe y e;refine{v1,L1,by unfold ăa;rw[Ñ c];show e1,E,λq z=>(àa).mpr (.inr (j q z)),λ{G' H' m2 L2} g i p l=>?_};unfold uf;rw[Ñ c];show{v,r,n,λq=>(A q/\¬ L1 q)\/L2 q,rfl,?_,f g (λq z w=>i q Ãe w) p (λq z w=>l q z ((àa).mpr (.inr w))),λq d a=>?_,λq=>?_}
  show x.loc g m v n λq z=>i q Üe λw=>b q z (j q w);rcases a with⟨a,_⟩|a;show b q d a;show b q d (j q (l q a ((àa).mpr Ķj)));rw[Ĵq];rw[źq];rcases(u q).mp z with z|z;rw[Ńq];rintro(z|⟨z,w⟩|z);show .inl {(àa).mpr Œb,λw=>b q z (j q w)};rw[ŕq]
#print a
def v8(K:Ô)(H:Hp):V->Á wH->V->È
 |v,[],u=>u=v|v,.at cs f::π,u=>∃p x C dx fs w,v=.ref p/\x∈cs/\ϙ K Ę x=À Ģa/\H p=À Ėb/\úc f=À w/\v8 K H w π u|v,.ky k::π,u=>∃p kvs w,v=.ref p/\H p=À ť/\qw kvs k=À w/\v8 K H w π u
theorem Mz{κ α:Type}[œb κ][BEq κ][LawfulBEq κ]{k:κ}:∀{ks:Á κ}{vs:Á α},(Ûb).lookup k=ăa ks vs k
 | [],_=>rfl|_::_,[]=>rfl|k'::ks,v::vs=>by
  rw[čb,Íe];unfold ăa;by_cases c:k'=k;subst c;rw[Ï rfl];simp;rw[Ñ c];let:(k==k')=Ã:=by simpa using λz=>c ħb
  rw[this];show Mz
theorem fT{α:Type}{k:Sum Æ Ç}:∀{ks:Á Ļ} {vs:Á α},ăa ks vs k=Ć ks vs k
 | [],_=>by unfold ăa Ć;rfl|_::_,[]=>by unfold ăa Ć;rfl|k'::ks,v::vs=>by unfold ăa Ć;rw[ēq];rw[Ñ c,Ñ c];show fT
section
variable{K:Ô}{G H G' H':Hp}
theorem ńj(s:yF H H'):∀{π:Á wH}{v u:V},v8 K H v π u->v8 K H' v π u
 | [],_,_,h=>h|.at cs f::π,_,_,h=>by let{p,x,C,c,i,w,e,g,d,b,l,r}:=h;show{p,x,C,c,i,w,e,g,d,s _ _ b,l,ńj s r}
 |.ky k::π,_,_,h=>by let{p,a,w,e,b,l,r}:=h;show{p,a,w,e,s _ _ b,l,ńj s r}
theorem ϣc:∀{π:Á wH}{v u u':V},v8 K H v π u->v8 K H v π u'->u=u'
 | [],_,_,_,h,h'=>Ėg h'.symm|.at cs f::π,_,_,_,h,h'=>by let{p,x,C,y,E,w,rfl,A,t,c,l,r}:=h;let{s,B,z,n,m,o,e,i,j,a,b,d}:=h';rw[þq]
 |.ky k::π,_,_,_,h,h'=>by let{p,q,w,rfl,c,l,r}:=h;let{s,g,o,e,a,b,d}:=h';rw[þq]
theorem Ńj:∀{π:Á wH}{s:wH}{v u:V},v8 K H v (π++[s]) u->∃w,v8 K H v π w/\v8 K H w [s] u
 | [],_,v,_,h=>{v,rfl,h}|.at cs f::π,_,_,_,h=>by let{p,x,C,j,n,w,e,m,i,b,l,r}:=h;let{c,g,a}:=Ńj r;show{c,{p,x,C,j,n,w,e,m,i,b,l,g},a}
 |.ky k::π,_,_,_,h=>by let{p,d,w,e,b,l,r}:=h;let{c,g,a}:=Ńj r;show{c,{p,d,w,e,b,l,g},a}
theorem ñj{m1:M}:∀{π:Á wH}{m:M}{v:V}{L:Ft},xo K G H m v L->jB m π=À m1->
  ∃v1 L1,v8 K H v π v1/\xo K G H m1 v1 L1/\(∀q,L1 q->L q)/\∀{G' H':Hp}{m2:M}{L2:Ft},yF G G'->(∀q,L q->¬ L1 q->H' q=H q)->xo K G' H' m2 v1 L2->(∀q,L2 q->L q->L1 q)->
   ∃m',jI m π m2=À m'/\xo K G' H' m' v çl
 | [],m,v,L,h,e=>by
  cases e;show{v,L,rfl,h,λ_ z=>z,λ{G' H' m2 L2} g B O t=>{m2,rfl,?_}}
  let e:(λq=>(L q/\¬ L q)\/L2 q)=L2:=by
   funext q
   show Ňj {λz=>Ũ (λw=>Þ w.1 w.2) id,.inr}
  rw[e];show O
 |s::π,m,v,L,h,e=>by
  let{P,b,ee}:=zH e
  let N:∀{p:Ë}{o L1 L2:Ft},¬ o p->(∀q,L q↔q=p\/o q)->(∀q,L1 q->o q)->(∀q,L2 q->L q->L1 q)->(¬ ((o p/\¬ L1 p)\/L2 p))/\∀q,((L q/\¬ L1 q)\/L2 q)↔q=p\/((o q/\¬ L1 q)\/L2 q):=λ{p o L1 L2} n u s t=>by show{?_,λq=>{?_,?_}};rintro(⟨z,_⟩|z);show n z;show n (s p (t p z Îf));rw[źq];rcases(u q).mp z with z|z;rw[Ńq];rintro(rfl|⟨z,w⟩|z);show .inl {(àa).mpr Ţ,λw=>n (s q w)};rw[ŕq]
  cases m with
  |fz d=>cases b|own d=>cases b|tp a=>cases b|obj x fs a=>
   cases s with
   |ky k=>cases b| «at» cs f=>
    change ŭk=À P at b
    rw[ůq];let{p,C,dx,R,o,rfl,ns,J,l,r,n,u}:=h;rw[ýq];refine{v1,L1,{p,x,C,dx,_,W,rfl,hx,ns,J,by rw[Mz];show e1,a1},Q,λq z=>(àa).mpr ϯl,λ{G' H' m2 L2} g B O t=>?_};let{m',e',U}:=T g Ál O Àl
    let I:=Y g ϑk U ìk
    let eL:ĺk=æl:=by
     funext q
     rw[áq]
    rw[eL]at I;let{S,Z}:=N n u ϛl t;refine{.obj x fs (uf fs a f m'),by exact(Ūf ŭk _)=_;rw[Ï hx,b];exact Ūf Ýo _=_;rw[e'];rfl,p,C,dx,R,_,rfl,ns,?_,l,I,S,Z};rw[B p Îf λw=>n Żn];show J;rw[Ñ hx]at b;cases b
  |tab A a=>
   cases s with
   | «at» cs f=>cases b|ky k=>
    change ăa A a k=À P at b
    let{p,R,o,rfl,J,l,r,l2,n,u}:=h;rw[ýq];refine{v1,L1,{p,_,W,rfl,J,by rw[UJ _ l,<-fT];show e1,a1},Q,λq z=>(àa).mpr ϯl,λ{G' H' m2 L2} g B O t=>?_};let{m',e',U}:=T g Ál O Àl
    let I:=Y g ϑk U ìk
    let eL:ĺk=æl:=by
     funext q
     rw[áq]
    rw[eL]at I;let{S,Z}:=N n u ϛl t;refine{.tab A ŵn,by exact(Ūf (ăa A a k) _)=_;rw[b];exact Ūf Ýo _=_;rw[e'];rfl,p,R,_,rfl,?_,l,I,?_,S,Z};rw[B p Îf λw=>n Żn];show J;let:∀{A:Á Ļ} {a:Á M},(ŵn).length=úa:=λ{A}=>by
     induction A with
     |nil=>intro a;rfl|ð k' A ih=>
      intro a;cases a with
      |nil=>rfl|ð y a=>
       unfold uf
       split;rfl;rw[Ĉ,Ĉ,ih]
    rw[this];show l2
#print a
abbrev yM:=Á ůj
nonrec def ŷb:M->É Sl
 |.fz d=>À (Ã,d)|_=>Å
def kF(β:yM):zw:=β.map λo=>ϖj ŷb
def pU(β:yM):zw:=β.map λo=>o.map λm=>(Ã,vd m)
mutual
nonrec def uR:D->Ð
 |.zO=>Ä|.bl _=>Ä|.int _=>Ä|.str _=>Ä|.tup ds=>Âb ds|_=>Ã
nonrec def Âb:Á D->Ð
 | []=>Ä|d::ds=>uR d&&Âb ds
end
def Kv:D->Ð
 |.lst ds=>Âb ds|.dic _ ds=>Âb ds|_=>Ã
structure bQ(K:Ô)(H0 G H:Hp)(β:yM)(σ:St)(Ls:Â->Ft):È where
 at_:∀(i:Â)(m:M),β[i]?=À ϵa->∃v,σ[i]?=À Áa/\xo K G H m v Ñk
 dj:∀(i j:Â)(q:Ë),i≠j->Ls i q->Ls j q->Ā
 ok:∀(i:Â)(q:Ë),Ls i q->G q=Å/\H0 q=Å/\Bx H q
structure zy(K:Ô)(n:Â)(P:Á V)(G0 H0 G H:Hp)(β:yM)(σ:St):È where
 ext:zT G0 H0 G H
 l1:σ.length=n
 l2:β.length=n
 lp:ďa<=n
 pin:∀(i:Â)(v:V),P[i]?=À v->σ[i]?=À Áa
 own:∃Ls,bQ K H0 G H β σ Ls
section
variable{K:Ô}{n:Â}{P:Á V}{G0 H0 G H G' H':Hp}{β:yM}{σ:St}
def Ev{q:Ë}(x:zT G H G' H')(g:G q=Å)(b:Bx H q):G' q=Å/\Bx H' q:=by
 let{u,e,c}:=b;show{?_,u,x.h _ _ e,c};cases z:G' q with
 |Å=>rfl|À o=>rcases ϳc q (by rw[z];show λw=>nomatch w)with w|w;show Þ g w;rw[e]at w;cases w
def zy.go(E:zy K n P G0 H0 G H β σ)(x:zT G H G' H'):zy K n P G0 H0 G' H' β σ:=by let{k,F}:=ϖa;show{ģo x,ű,Ű,ϙa,įb,k,λi m h=>?_,Õa,λi q z=>?_};let{v,e,o}:=Ĩa i m h;show{v,e,ťg x.g m v _ λq z=>?_};let{u,d,_}:=ũc.2.2;rw[d];show x.h _ _ d;rw[ěq];let{f,j}:=Ev x a c;show{f,b,j}
def z9n{i:Â}{b:Ð}{d:D}(h:ĩe[i]?=À āe):b=Ã/\β[i]?=À (À Ōe):=by
 unfold kF at h;rw[ė]at h;cases e:β[i]? with
 |Å=>rw[e]at h;cases h|À o=>
  rw[e]at h;cases o with
  |Å=>cases h|À m=>
   cases m with
   |fz d'=>cases h;show{rfl,rfl}|_=>cases h
def x6e{i:Â}{b:Ð}{d:D}(h:ĳg[i]?=À āe):b=Ã/\∃m,β[i]?=À ϵa/\d=vd m:=by
 unfold pU at h;rw[ė]at h;cases e:β[i]? with
 |Å=>rw[e]at h;cases h|À o=>
  rw[e]at h;cases o with
  |Å=>cases h|À m=>cases h;show{rfl,m,rfl,rfl}
def f8{τ:zw}(s:yF G H)(f:σ.length=n)(c:τ.length=n)(h:∀(i:Â)(b:Ð)(d:D),τ[i]?=À āe->b=Ã/\∃v,σ[i]?=À Áa/\zZ K G d v):zu K n G H G H τ σ:=
 {ŋa s,f,c,λi d e=>(h i Ã d e).2,λi d e=>(by cases(h i Ä d e).1),λi j d e p _ a=>(by cases(h i Ä d a).1)}
def zy.Q_(E:zy K n P G0 H0 G H β σ):zu K n G H G H ĩe σ:=by
 let{c,F}:=ϖa;refine f8 Ŵa ű (by unfold kF;rw[ã];show Ű) λi b d h=>?_
 let{rfl,a}:=z9n h;let{v,e,r,_}:=Ĩa i _ a;show{rfl,v,e,r}
def z5u{b c:Hp}{L:Ft}(g:∀q,¬ L q->c q=b q)(i:∀q,L q->Bx b q){a:Ë}{vs:Á V}(h:xP K b a vs):xP K c a vs:=by
 let k:∀{u:HO},dW u=Ã->b a=À u->c a=À u:=λ{u} j e=>by rw[g a λz=>?_];show e;let{w,d,f}:=i a z;rw[e]at d;cases d;rw[j]at f;cases f
 rcases h with h|h;rcases h with h|⟨o,h⟩;show .inl (.inl (k rfl h));show .inl (.inr {o,k rfl h});show .inr h
def eE{g j:Hp}{L:Ft}(w:∀q,¬ L q->j q=g q)(o:∀q,L q->Bx g q)(d:D):∀(v:V),uR d=Ä->zZ K g d v->zZ K j d v:=by
 show Ųg (P:=λd=>∀v,uR d=Ä->zZ K g d v->zZ K j d v) (λv _ h=>h) (λb v _ h=>h) (λi v _ h=>h) (λx v _ h=>h) ?_ (λc f v t=>by cases t) (λA c f v t=>by cases t) (λx v t=>by cases t) (λx B c f v t=>by cases t) d;rintro c f v t ⟨a,m,e,q,r,l⟩;show{a,m,e,z5u w o q,?_,l};let z:Âb c=Ä:=t;clear t q l
 induction c generalizing m with
 |nil=>show r|ð x c ih2=>let{u,n,rfl,p,s}:=r;let k:(uR x&&Âb c)=Ä:=z;rw[Ď]at k;show{u,n,rfl,f x Ġ u k.1 p,ih2 (λd y=>f d (Ų _ y)) n s k.2}
theorem eF{b c:Hp}{L:Ft}(e:∀q,¬ L q->c q=b q)(f:∀q,L q->Bx b q):∀{ds:Á D}{vs:Á V},Âb ds=Ä->ê K b ds vs->ê K c ds vs
 | [],_,_,r=>r|d::ds,_,t,r=>by let{u,i,rfl,g,h}:=r;let a:ĩn=Ä:=t;rw[Ď]at a;show{u,i,rfl,eE e f d u a.1 g,eF e f a.2 h}
theorem zy.p_(E:zy K n P G0 H0 G H β σ):∃G1,zu K n G1 H G1 H ĳg σ/\∀G2 H2,zT G1 H G2 H2->∃G3,zT G H G3 H2/\zy K n P G0 H0 G3 H2 β σ/\(∀d v,uR d=Ä->zZ K G2 d v->zZ K G3 d v)/\(∀ds vs,Âb ds=Ä->ê K G2 ds vs->ê K G3 ds vs)/\∀q,G2 q=Å->G3 q=Å:=by
 classical
 let{C,F}:=ϖa
 let +zeta L:Ft:=λq=>∃i,C i q
 let p:∀q,L q->G q=Å:=λq ⟨i,z⟩=>ũc.1
 let B:∀q,L q->Bx H q:=λq ⟨i,z⟩=>ũc.2.2
 let +zeta G1:Hp:=λq=>if L q then H q else G q
 let e1:∀q,L q->G1 q=H q:=λq z=>Ï z
 let e2:∀q,¬ L q->G1 q=G q:=λq z=>Ñ z
 let j:yF G G1:=λq o e=>by rw[e2 q λz=>by rw[p q z]at e;cases e];show e
 let s:yF G1 H:=λq o e=>by rw[ĸq];rw[e1 q c]at e;show e;rw[e2 q c]at e;show Ŵa _ _ e
 refine{G1,f8 s ű (by unfold pU;rw[ã];show Ű) λi b d h=>?_,λG2 H2 x=>?_};let{rfl,m,A,rfl}:=x6e h;let{v,e,o}:=Ĩa i m A;show{rfl,v,e,o.p_ j m v _ λq z=>e1 q {i,z}};let +zeta G3:Hp:=λq=>if L q then Å else G2 q
 let a:∀q,¬ L q->G3 q=G2 q:=λq z=>Ñ z
 let f:∀q,L q->G3 q=Å:=λq z=>Ï z
 let l:∀q,L q->Bx G2 q:=λq z=>by let{u,y,c}:=B q z;show{u,x.g _ _ ((e1 q z).trans y),c}
 let k:zT G H G3 H2:=by
  show{λq o e=>?_,x.h,λq o e=>?_,λq z=>?_};let c:¬ L q:=λz=>by rw[p q z]at e;cases e
  rw[a q c];show x.g _ _ Ýj;rw[ĸq];rw[f q c]at e;cases e;rw[a q c]at e;show ıb _ _ e;rw[ĸq];rw[f q c]at z;show Þ rfl z;rw[a q c]at z;rcases ϳc q z with w|w;rw[e2 q c]at w;show .inl w;show .inr w
 show{G3,k,ţa k,λd v t r=>eE a l d v t r,λds vs t r=>eF a l t r,λq z=>?_};rw[ĸq];show f q c;rw[a q c];show z
def Bh{α:Type}{xs:Á α}{x y:α}{i:Â}(h:Ñj[i]?=À y):(i<ë/\xs[i]?=À y)\/(i=ë/\y=x):=by
 rcases Ťc i ë with c|c;rw[ūa c]at h;show .inl {c,h};rw[ſb c]at h;cases z:i-ë with
 |ŏ=>rw[z]at h;cases h;show .inr {by omega,rfl}|ş k=>rw[z]at h;cases h
def gO{α:Type}{xs:Á α}{x:α}{n:Â}(h:ë=n):Ñj[n]?=À x:=by subst h;rw[ſb Ē,ôc];rfl
def ur{α:Type}{xs:Á α}{x:α}{i:Â}(h:i<ë):Ñj[i]?=xs[i]?:=ūa h
def zy.push{m:M}{v:V}{L:Ft}(E:zy K n P G0 H0 G H β σ)(o:xo K G H m v L)(g:∀Ls,bQ K H0 G H β σ Ls->∀i q,Ls i q->L q->Ā)(ok:∀q,L q->G q=Å/\H0 q=Å/\Bx H q):zy K ħ P G0 H0 G H ìe ęb:=by
 let{Ls,F}:=ϖa;let f:=g Ls F;refine{ŵb,by rw[ì,ű];rfl,by rw[ì,Ű];rfl,by let:=ϙa;omega,λi u h=>?_,λj=>if j<n then Ls j else if j=n then L else λ_=>Ā,λi p h=>?_,λi j q d b a=>?_,λi q z=>?_};let k:i<σ.length:=by rw[ôq]
 rw[ur k];show įb i u h;rcases Bh h with⟨c,e⟩|⟨c,e⟩;rw[Ű]at c;let{u,l,r}:=Ĩa i p e;refine{u,by rw[ur ϫd];show l,?_};simp only[Ï c];show r;cases e;rw[Ű]at c;subst c;show{v,gO ű,?_};simp only[Ôc,Ďa,ό];show o;skip
 rw[Ņq];rw[Åq];show Õa i j q d b a;rw[Åq];show f i q b a;show a;rw[Ņq];rw[Åq];show f j q a b;rw[Åq];show d Ê;show a;show b;skip
 rw[Įq];show Ņa i q z;rw[Įq];show ok q z;show Ũ
def zy.Ug{d:D}{v:V}(E:zy K n P G0 H0 G H β σ)(r:zZ K G d v):zy K ħ P G0 H0 G H Õn ęb:=
 E.push (L:=λ_=>Ā) {r,λ_ z=>z} (λ_ _ _ _ _ z=>z) λ_ z=>Ũ
def zy.z2v{d:D}{p:Ë}(E:zy K n P G0 H0 G H β σ)(x:zT G H G' H')(m:H p=Å)(A:G' p=Å)(o:vp K G' H' d p):zy K ħ P G0 H0 G' H' (β++[À Įj]) (σ++[À Ŵ]):=by
 let{v,F}:=ϖa;let L:=ţa x;show{?_,?_,?_,?_,?_,?_}<;>try first|show L.ext|show(by rw[ì,ű];rfl)|show(by rw[ì,Ű];rfl)
 let:=ϙa;omega;intro i u h
 let B:i<σ.length:=by rw[ôq]
 rw[ur B];show įb i u h;let s:∀i q,v i q->q≠p:=λi q z c=>by subst c;show ũc.2.2.some m
 show{λj=>if j<n then v j else if j=n then(λq=>q=p)else λ_=>Ā,λi r h=>?_,λi j q l k f=>?_,λi q z=>?_};rcases Bh h with⟨c,e⟩|⟨c,e⟩;rw[Ű]at c;let{u,I,J}:=Ĩa i r e;refine{u,by rw[ur ϫd];show I,?_};simp only[Ï c];show J.loc x.g r u _ λq z=>?_
 let{w,t,_}:=ũc.2.2;rw[t];show x.h _ _ t;rw[äq];show{p,rfl,o,λq=>ĝc};skip
 split at k;split at f;show Õa i j q l k f;split at f;show s i q k f;show f;split at k;split at f;show s j q f k;split at f;show l Ê;show f;show k;skip
 rw[Įq];rw[ěq];let{y,C}:=Ev x a c;show{y,b,C};rw[Įq];subst z;show{A,ċi m,o.bx};show Ũ
def zy.bG{m:M}{v:V}{i:Â}(hi:i<n)(r:ďa<=i)(f:σ.length=n)(b:β.length=n)(E:zy K ħ P G0 H0 G H ìe ęb):zy K n P G0 H0 G H (β.set i ϵa) ċc:=by
 let{o,F}:=ϖa;refine{ŵb,by rw[Éa];show f,by rw[Éa];show b,by omega,λj u h=>?_,λj=>if j=i then o n else if j<n then o j else λ_=>Ā,λj p h=>?_,λj k q d c a=>?_,λj q z=>?_};let l:j<ďa:=ϊa.1;rw[uX Ê];let:=įb j u h;rw[ĺq];rcases vv h with⟨rfl,w⟩|⟨d,w⟩;cases w;let{u,e,g}:=Ĩa n m (gO b);rw[gO f]at e;cases e;simp only[ό];show{v,YS Ê,g};have l:j<n:=by rw[<-b];show(Ŀ w).1
 let{u,e,g}:=Ĩa j p Ŏl;rw[ur Ê]at e;simp only[Ñ d,Ï l];show{u,by rw[uX d];show e,g};skip
 split at c;rw[Åq];show d Ê;rw[Åq];show Õa n k q Ê c a;show a;split at c;rw[Åq];show Õa j n q Ê c a;rw[Åq];show Õa j k q d c a;show a;show c;skip
 rw[Įq];show Ņa n q z;rw[Įq];show Ņa j q z;show Ũ
def zy.pop{m:É M}{v:É V}(b:σ.length=n)(a:β.length=n)(d:ďa<=n)(E:zy K ħ P G0 H0 G H Ìg Ëg):zy K n P G0 H0 G H β σ:=by
 let{g,F}:=ϖa;show{ŵb,b,a,d,λj u h=>?_,g,λj i h=>?_,Õa,Ņa};let f:j<ďa:=ϊa.1;let:=įb j u h;rw[ĺq];have f:j<n:=by rw[<-a];show ϊa.1
 let{u,c,e}:=Ĩa j i (by rw[ur Ê];show h);rw[ur Ê]at c;show{u,c,e}
#print a
inductive gu where
 |nx (β:yM)|rt (m:M) (β:yM)|bk (β:yM)|ct (β:yM)
abbrev yZ:=yM->É gu
abbrev v7:=yM->É (M×yM)
abbrev t5:=yM->É (Ð×yM)
def TB(K:Ô)(n:Â)(P:Á V)(b a:Hp)(E:u_):gu->È
 |.nx β=>∀σ G H,zy K n P b a G H β σ->E.nx σ H|.bk β=>∀σ G H,zy K n P b a G H β σ->E.bk σ H|.ct β=>∀σ G H,zy K n P b a G H β σ->E.ct σ H|.rt m β=>∀σ v G H,zy K ħ P b a G H ìe ęb->E.rt v H
section
variable(X:Cx)
structure MC(e:Ö)(f:v7):È where
 h:∃t,PE X e t/\∀{P:Á V}{G0 H0 G H:Hp}{β β':yM}{σ:St}{m:M}{Q:VK},zy X.K ò P G0 H0 G H β σ->f β=À (m,β')->(∀v G' H',yF G G'->zy X.K (ò+1) P G0 H0 G' H' ğn ęb->Q v H')->t σ H Q
structure MT(e:Ö)(f:t5):È where
 h:∃t,PT X e t/\∀{P:Á V}{G0 H0 G H:Hp}{β β':yM}{σ:St}{b:Ð}{Q:Ð->Hp->È},zy X.K ò P G0 H0 G H β σ->f β=À (b,β')->(∀G' H',yF G G'->zy X.K ò P G0 H0 G' H' β' σ->Q b H')->t σ H Q
structure MW(e:Ö)(f:t5):È where
 h:∃t,PW X e t/\∀{P:Á V}{G0 H0 G H:Hp}{β β':yM}{σ:St}{b:Ð}{Q:Ð->Hp->È},zy X.K ò P G0 H0 G H β σ->f β=À (b,β')->(∀G' H',yF G G'->zy X.K ò P G0 H0 G' H' β' σ->Q b H')->t σ H Q
structure MS(np:Â)(st:Ü)(f:yZ):È where
 h:∃t,PS X st t/\∀{P:Á V}{G0 H0 G H:Hp}{β:yM}{σ:St}{fl:gu}{E:u_},ďa=np->zy X.K ò P G0 H0 G H β σ->f β=À fl->TB X.K ò P G0 H0 E fl->t E σ H
structure jV(np:Â)(st:Á Ü)(f:yZ):È where
 h:∃t,uk X st t/\∀{P:Á V}{G0 H0 G H:Hp}{β:yM}{σ:St}{fl:gu}{E:u_},ďa=np->zy X.K ò P G0 H0 G H β σ->f β=À fl->TB X.K ò P G0 H0 E fl->t E σ H
#print a
section
variable{K:Ô}{n:Â}{P:Á V}{G0 H0 G H:Hp}{β:yM}{σ:St}{m:M}{v:V}{d:D}
def zy.Qy{m:É M}{v:É V}(E:zy K ħ P G0 H0 G H Ìg Ëg):σ.length=n:=by let:=ű;rw[ì]at this;show ýd this
def zy.WX{m:É M}{v:É V}(E:zy K ħ P G0 H0 G H Ìg Ëg):β.length=n:=by let:=Ű;rw[ì]at this;show ýd this
def zy.J0(E:zy K ħ P G0 H0 G H Õn ęb):zZ K G d v:=by let{b,F}:=ϖa;let{u,a,r,_}:=Ĩa n _ ųp;rw[gO E.Qy]at a;cases a;show r
def zy.FQ{i:Â}(E:zy K n P G0 H0 G H β σ)(hi:i<n)(a:ďa<=i)(r:zZ K G d v):zy K n P G0 H0 G H èh ċc:=(E.Ug r).bG hi a ű Ű
theorem zy.WZ(E:zy K n P G0 H0 G H β σ):zy K n P G H0 G H β σ:={E.ext.WZ,ű,Ű,ϙa,įb,ϖa}
def zy.near{b c:Hp}(a:zT G0 H0 b c)(E:zy K n P b H0 G H β σ):zy K n P G0 H0 G H β σ:={a.rebase ŵb,ű,Ű,ϙa,įb,ϖa}
theorem TB.near{b c:Hp}{E:u_}{a:gu}(x:zT G0 H0 b c)(h:TB K n P G0 H0 E a):TB K n P b H0 E a:=by
 cases a with
 |nx τ=>show λσ G H z=>h σ G H ņf|bk τ=>show λσ G H z=>h σ G H ņf|ct τ=>show λσ G H z=>h σ G H ņf|rt m β=>show λσ v G H z=>h σ v G H ņf
#print a
def wm(f:FE):v7:=λβ=>(Żj).bind λd=>À (.fz d,β)
def gD(f:FE):v7:=λβ=>(ąe).bind λd=>match uR d with
 |Ä=>À (.fz d,β)|Ã=>Å
def Jz(f:FE):v7:=λβ=>(Żj).bind λd=>À (.own d,β)
def z4m(f:FE):v7:=λβ=>(ąe).bind λd=>match Kv d with
 |Ä=>À (.own d,β)|Ã=>Å
nonrec def z4k(f:v7):v7:=λβ=>(ϒa).bind λr=>match r with
 |(.own d,β')=>À (.fz d,β')|r=>À r
def X1(f:FT):t5:=λβ=>(ąe).bind λb=>À (b,β)
nonrec def x9p(f:t5):t5:=λβ=>(ϒa).bind λr=>À (!r.1,r.2)
nonrec def SU(f g:t5):t5:=λβ=>(ϒa).bind λr=>match r.1 with
 |Ä=>g r.2|Ã=>À (Ã,r.2)
nonrec def x9q(f g:t5):t5:=λβ=>(ϒa).bind λr=>match r.1 with
 |Ä=>À (Ä,r.2)|Ã=>g r.2
nonrec def k9:M->É D
 |.fz d=>À d|_=>Å
def M8(F:D->D->É D)(f g:v7):v7:=λβ=>(ϒa).bind λr=>(ņd).bind λx=>(g r.2).bind λa=>(k9 a.1).bind λy=>(F x y).bind λz=>À (.fz z,a.2)
def Ow(f:v7):t5:=λβ=>(ϒa).bind λr=>(ņd).bind λx=>(Ϗe).bind λb=>À (b,r.2)
def z4j(f g:v7):v7:=λβ=>(ϒa).bind λr=>(ņd).bind λx=>(Ϗe).bind λb=>match b with
 |Ä=>g r.2|Ã=>À (.fz ý,r.2)
def VD{m:M}{d:D}(h:k9 m=À d):m=.fz d:=by
 cases m with
 |fz d'=>cases h;rfl|_=>cases h
section
variable{X:Cx}{x:Ç}{p pos:Pos}{e a b:Ö}{z_:Á Ö}{f:FE}{ft:FT}{F:D->D->É D}{r:R2}{g g':v7}{u u':t5}
def vO(h:SE X e f):MC X e (wm f):=by rw[Āq];rw[öq];show k E.Q_ c λv i b x r=>q v i b x.g ((ţa x).Ug r)
def Zf(h:SE X e f):MC X e (gD f):=by
 rw[Āq];let{d,n,a}:=zH a;cases c:uR d with
 |Ã=>rw[c]at a;cases a|Ä=>
  rw[c]at a;cases a;let{u,m,b}:=E.p_;show k m n λv w i x r=>?_
  let{j,l,o,s,_}:=b _ _ x;show q v j i l.g (o.Ug (s d v c r))
def Kr(h:SF X e f):MC X e (Jz f):=by rw[Āq];rw[öq];show k E.Q_ c λp j b x l i o=>q _ j b x.g (E.z2v x l i o)
def Vk(h:ST X e ft):MT X e (X1 ft):=by
 rw[Ëq];show{{t,p,λE c q=>?_}};let{b,f,c}:=zH c;cases c;let{n,l,a}:=E.p_;show k l f λo d x=>?_
 let{i,j,m,_}:=a _ _ x;show q i d j.g m
def y35(h:MT X a u):MW X Āh u:={let ⟨t,p,k⟩:=h.h;{t,nv p,k}}
def y34(o:MT X a u)(i:MW X êe u'):MW X ĝe (SU u u'):=by
 let{s,n,g}:=o.h;let{t,f,l}:=i.h;show{{_,nu n f,λE c q=>?_}};obtain⟨⟨k,β1⟩,m,c⟩:=zH c;show g E m λr w d e=>?_
 cases k with
 |Ä=>show kH (l e c λv p j E2=>q _ _ (šc j) E2)|Ã=>cases c;show kG (q _ _ d e)
def y36(h:MW X e u):MT X e u:={let ⟨t,p,k⟩:=h.h;{t,p.pt,k}}
def zy.down{K:Ô}{n:Â}{P:Á V}{b a G H:Hp}{β:yM}{σ:St}{m:É M}{v:É V}(c:ďa<=n)(E:zy K ħ P b a G H Ìg Ëg):zy K n P b a G H β σ:=E.pop E.Qy E.WX c
def y33(h:MC X e g)(j:Î Èp q12):MT X e (Ow g):=by
 rw[Ëq];show{{_,nT p (nD j),λE a q=>?_}};obtain⟨⟨o,β1⟩,i,a⟩:=zH a;let{m,e1,a}:=zH a;cases VD e1;let{b,f,a}:=zH a;cases a;show k E i λn l r d c=>?_
 show{_,BV c.J0 f,q _ _ d (c.down ϙa)}
def y2y{e:Ŷg}(s:xD X (ěa e) r)(w:gx X.K r F)(Q:MC X a g)(C:MC X b g')(H:ñc e b=Ã):MT X (.Compare a [e] [b] pos) (Ow (M8 F g g')):=by
 let{Y,L,m}:=Q.h;let{Z,B,o}:=C.h;show{{_,NL s L B H,λE d q=>?_}};obtain⟨⟨W,β3⟩,c,d⟩:=zH d;let{d3,p,d}:=zH d;cases VD p;let{bb,i,d}:=zH d;cases d;obtain⟨⟨T,β1⟩,t,c⟩:=zH c;let{J,e1,c}:=zH c;cases VD e1;obtain⟨⟨R,β2⟩,G,c⟩:=zH c;let{I,e2,c}:=zH c;cases VD e2;let{z,x,c}:=zH c;cases c;show m E t λu S U A l=>?_
 let N:=l.J0;show o (l.down ϙa) G λP y O j E2=>?_
 let n:=E2.J0;let f:=E2.down ϙa;let{k,rfl,v}:=w O J I u P _ _ ((ϧj j).mono f.ext.gh) (ņg f.ext.gh) x;cases i;show v {_,rfl,q y _ (A.trans j) f}
#print a
nonrec def Yd:yZ:=λβ=>À (.nx β)
nonrec def wB(a b:yZ):yZ:=λβ=>(a β).bind λf=>match f with
 |.nx β'=>b β'|f=>À f
nonrec def Yc(c:t5)(a b:yZ):yZ:=λβ=>(Ĭc).bind λr=>match r.1 with
 |Ä=>a r.2|Ã=>b r.2
nonrec def Ye(f:v7):yZ:=λβ=>(ϒa).bind λr=>À (.rt r.1 r.2)
nonrec def ji(f:v7):yZ:=λβ=>(ϒa).bind λr=>À ϔp
nonrec def qR(i:Â)(f:v7):yZ:=λβ=>(ϒa).bind λr=>À (.nx (r.2.set i (À r.1)))
abbrev MG:=D->yM->É yM
nonrec def y0l(i:Â):MG:=λd β=>À èh
nonrec def Td(i j:Â):MG:=λd β=>match d with
 |.tup Êc=>À ((β.set i (À (.fz x))).set j (À (.fz y)))|_=>Å
nonrec def gI(g:MG)(b:yZ):Á D->yM->É gu
 | [],β=>À (.nx β)|d::r,β=>(g d β).bind λβ1=>(Ĺg).bind λf=>match f with
  |.nx β2=>gI g b r β2|.ct β2=>gI g b r β2|.bk β2=>À ŝb|.rt m β2=>À ōi
def Km(it:FA)(g:MG)(b:yZ):yZ:=λβ=>(it ĩe).bind λa=>gI g b a β
nonrec def ju(c:t5)(b:yZ):Â->yM->É gu
 |0,_=>Å|n+1,β=>(Ĭc).bind λr=>match r.1 with
  |Ã=>À ϔp|Ä=>(ϊj).bind λf=>match f with
   |.nx β2=>ju c b n β2|.ct β2=>ju c b n β2|.bk β2=>À ŝb|.rt m β2=>À ōi
def Ko(c:t5)(b:yZ):yZ:=λβ=>ju c b Y9 β
section
variable{X:Cx}{np:Â}{x:Ç}{p pos ϓ:Pos}{e c tg ż:Ö}{st:Ü}{sts ăb:Á Ü}{f g:yZ}{h:v7}{u:t5}{fs:FA}
def Vi:jV X np [] Yd:={{_,nS,λ{P c d G H β σ b E} _ K a q=>by cases a;show q σ G H K}}
def wQ(b:MS X np st f)(e:jV X np sts g):jV X np Öj (wB f g):=by
 let{t,p,k}:=b.h;let{w,l,i}:=e.h;show{{_,OE p l,λ{P r s G H β σ u E} c K a q=>?_}};let{j,b,a}:=zH a;show k c K b ?_;cases j with
 |nx τ'=>show λσ' v n m=>i c m a q|bk τ'=>cases a;show q|ct τ'=>cases a;show q|rt o d=>cases a;show q
def wv(a:MS X np st f):jV X np [st] f:={let ⟨t,p,k⟩:=a.h;{t,NK p,k}}
def Vh{e i:Á Ü}(r:MT X c u)(t:jV X np e f)(m:jV X np i g):MS X np (.If c e i pos) (Yc u f g):=by
 let{v,pc,s}:=r.h;let{y,p,l}:=t.h;let{z,j,n}:=m.h;show{{_,nO pc p j,λ{P w A G H β σ B E} b K a q=>?_}};obtain⟨⟨k,β1⟩,o,a⟩:=zH a;show s K o λx C _ d=>?_
 cases k with
 |Ä=>show kH (l b d a q)|Ã=>show kG (n b d a q)
def Vj(d:MC X e h):MS X np íf (Ye h):=by let{t,p,k}:=d.h;show{{_,OD p,λ{P i j G H β σ l E} f K a q=>?_}};rw[Ļq];show k K b λv n g _ c=>q _ v _ _ c
def Zg(d:MC X e h)(f:Î Õl q12):MS X np êi (ji h):=by let{t,p,k}:=d.h;show{{_,nN p f,λ{P j l G H β σ n E} g K a q=>?_}};rw[Ļq];show k K b λv o i _ c=>q _ _ _ (c.down Źb)
def pK{i:Â}{x:Ç}{ϓ:Pos}(c:éa)(hi:X.N[i]?=À x)(f:qN Ϲ x)(w:np<=i)(g:MC X e h)(j:Î đe q12)(a:Î ũa q7) :MS X np ļc (qR i h):=by let{t,p,k}:=g.h;show{{_,(ON c hi f {p} j a).h,λ{P o r G H β σ s E} l K a q=>?_}};obtain⟨⟨m,β1⟩,d,a⟩:=zH a;cases a;show k K d λv u n _ b=>q _ _ _ (b.bG éb.1 Ê b.Qy b.WX)
structure cY(X:Cx)(np:Â)(tg:Ö)(fg:MG):È where
 h:∃t,PG X tg t/\∀{P:Á V}{G0 H0 G H:Hp}{β β':yM}{σ:St}{d:D}{v:V}{Q:St->Hp->È},ďa=np->zy X.K ò P G0 H0 G H β σ->zZ X.K G d v->fg d β=À β'->(∀σ',zy X.K ò P G0 H0 G H β' σ'->Q σ' H)->t v σ H Q
def y2q{i j:Â}{x y:Ç}{e p2:Pos}{c:Â}(h:QG X űk ϴe)(hi:X.N[i]?=À x)(k:X.N[j]?=À y)(E:np<=i)(u:np<=j):cY X np űk (Td i j):=⟨⟨_,h.h,λ{P w B G H β β' σ d v Q} s K r b q=>by
 unfold Td at b
 rw[Ņq];rename_i A z;cases b;let{a,t,rfl,n,{o,C,rfl,m,{p,f,rfl,g,l}},_}:=r;cases(show f=[]from l);show{a,_,rfl,t9 ża n,rfl,o,_,rfl,p,_,rfl,rfl,?_};show q _ ((K.FQ éb.1 Ê m).FQ (Ŀ k).1 Ê g);cases b⟩⟩
def y2w{c:MG}(C:Ϧb Ą X.A Û į)(hc:ŵ=Ä)(hi:SI X tg ż fs)(hg:cY X np tg c)(W:jV X np ăb g)(R:Î (∀x,Ób ż Û x=pure x) q11):MS X np Ûh (Km fs c g):=by
 let{ti,T,ki}:=Ĵc;let{B,pg,I}:=hg.h;let{tb,S,v}:=W.h;show{{_,BL C hc T pg S R,λ{P G0 r G H τ σ t E} p K a q=>?_}};let{b,hd,a}:=zH a;show ki K.Q_ hd λJ l Ha O _ j=>?_
 let s:=Ôa O;let n:=TB.near s.ext q;show{λi m σ H=>m=Ûa-i/\i<=Ûa/\∃τ G,zy X.K ò P l r G H τ σ/\gI c g (ęg i) τ=À t,{Ûa,rfl,Ź _,τ,l,s.WZ,a},?_};rintro i m σ H ⟨rfl,hle,τ,G,K,a⟩;by_cases hlt:i<Ûa;show .inr {j.go i G H Řd ża hlt,λσ' f=>∃τ G,zy X.K ò P l r G f τ σ'/\gI c g Ģp τ=À t,λσ' f z=>{Ûa-î,ïf _ _ hlt,rfl,hlt,z},λx f y=>?_};let{G3,d,F,u,U}:=j.tW i G H x f Řd ża hlt y;rw[Äq];let{Z,Y,a}:=zH a;show I p (Ôa F) U L λσ1 Q=>v p Q Y ?_
 cases Z with
 |nx τ2=>show λσ2 k H2 o=>{τ2,k,o,a}|ct τ2=>show λσ2 k H2 o=>{τ2,k,o,a}|bk τ2=>cases a;show n|rt m β=>cases a;show n
 let e:i=Ûa:=by omega
 subst e;rw[List.drop_length]at a;cases a;show .inl {j.stop _ G H Řd ża Ē,n _ _ _ K}
def y2x(v:Ϧb Ą X.A Û į)(B:MT X c u)(r:jV X np ăb g):MS X np œl (Ko u g):=by
 let{J,pc,C}:=B.h;let{O,p,s}:=r.h;show{{_,nR v pc p,λ{P f i G H τ σ l E} o K a q=>?_}};show{λm σ H=>∃τ G,zy X.K ò P f i G H τ σ/\ju u g m τ=À l,{Y9,τ,G,K,a},?_};rintro m σ H ⟨τ,G,K,a⟩;cases m with
 |ŏ=>cases a|ş n=>
  obtain⟨⟨k,β1⟩,x,a⟩:=zH (show(u τ).bind _=_ from a);show C K x λL I _ j=>?_
  cases k with
  |Ã=>cases a;show kG (q _ _ _ j)|Ä=>
   let{t,y,a}:=zH (show(g β1).bind _=_ from a);show kH {λσ' e=>∃τ G,zy X.K ò P f i G e τ σ'/\ju u g n τ=À l,λσ' e z=>{n,ćb n,z},s o j y ?_};cases t with
   |nx τ2=>show λσ2 b F d=>{τ2,b,d,a}|ct τ2=>show λσ2 b F d=>{τ2,b,d,a}|bk τ2=>cases a;show q|rt m β=>cases a;show q
#print a
def gK(β:yM)(i:Â)(π:Á wH):É M:=match β[i]? with
 |À ϵa=>jB m π|_=>Å
def Ųb(β:yM)(i:Â)(π:Á wH)(m2:M):É yM:=match β[i]? with
 |À ϵa=>(Üo).bind λa=>À Ėm|_=>Å
def Vm{β:yM}{i:Â}{π:Á wH}{a:M}(h:gK β i π=À a):∃m,β[i]?=À ϵa/\jB m π=À a:=by
 unfold gK at h
 rw[Éq];rename_i m e;show{m,e,h};cases h
def BN{β:yM}{i:Â}{π:Á wH}{m a m2:M}(h:β[i]?=À ϵa)(e:jI m π m2=À a):Ųb β i π m2=À Ėm:=by unfold Ųb;rw[h];exact(Üo).bind _=_;rw[e];rfl
def vh(K:Ô)(a:Á Ç)(f:Ç):È:=∀x∈a,∀C,ϙ K Ę x=À Ģa->qK K C/\Xc K C f
structure SP(X:Cx)(e:Ö)(i:Â)(π:Á wH):È where
 h:∃t,PE X e t/\∀{σ:St}{H:Hp}{v u:V}{Q:VK},σ[i]?=À Áa->v8 X.K H v π u->Q u H->t σ H Q
section
variable{X:Cx}{x f:Ç}{p pos:Pos}{e:Ö}{i:Â}{π:Á wH}{cs:Á Ç}
def xz(i:Â){x:Ç}{pos:Pos}(d:Î ād q12)(hv:Î īd q13)(c:Î ō q10)(b:Î Żb q10):SP X ôa i []:={{_,Vs d hv c b,λe a q=>by cases(show _=_ from a);show{_,e,q}}}
def qT(h:SP X e i π)(k:vh X.K cs f)(b:Î ål q12):SP X öf i (π++[.at cs f]):=by let{t,p,u}:=h.h;show{{_,my p b,λe a q=>?_}};let{w,m,g}:=a.snoc;let{p,x,C,o,s,v,rfl,r,d,j,l,rfl}:=g;let{c,n}:=k x r C d;show u e m {p,C,o,s,_,rfl,j,c,n,l,q}
#print a
section
variable{K:Ô}{n:Â}{P:Á V}{G0 H0 G H:Hp}{β:yM}{σ:St}
def zy.write{m S Q:M}{X:V}{i:Â}{π:Á wH}(E:zy K ħ P G0 H0 G H (β++[À Q]) (σ++[À X]))(Y:ďa<=n)(U:β[i]?=À ϵa)(ha:jB m π=À S) :∃r v1 L1 Lr,σ[i]?=À Űj/\v8 K H r π v1/\xo K G H S v1 L1/\xo K G H Q X Lr/\(∀q,L1 q->Lr q->Ā)/\
   ∀{H':Hp}{m2:M}{L2:Ft},(∀q,¬ L1 q->H' q=H q)->xo K G H' m2 v1 L2->(∀q,L2 q->L1 q\/Lr q)->∃m',jI m π m2=À m'/\zy K n P G0 H0 G H' (β.set i (À m')) σ:=by
 let{t,F}:=ϖa;let y:=E.Qy;let l:=E.WX;have hi:i<n:=by rw[<-l];show(Ŀ U).1
 let{r,N,Z}:=Ĩa i m (by rw[ur Ê];show U);rw[ur Ê]at N;let{u,v,O}:=Ĩa n Q (gO l);rw[gO y]at v;cases v;let{v1,L1,va,o1,s,re}:=Z.focus ha;let L:∀q,L1 q->t n q->Ā:=λq a b=>Õa i n q Ê (s q a) b
 show{r,v1,L1,t n,N,va,o1,O,L,λ{H' m2 L2} p W B=>?_}
 let{m',e',o'}:=re (śa G) (λq _ z=>p q z) W (λq z w=>by rcases B q z with c|c;show c;show Þ c λc=>Õa i n q Ê w c)
 let A:∀q,L1 q->G q=Å/\H0 q=Å:=λq z=>{Ţn.1,Ţn.2.1}
 show{m',e',{Œj,λq o z=>?_,λq o z=>?_,Ϻf},y,by rw[Éa];show l,Y,λj w h=>?_,λj=>if j=i then Ël else if j<n then t j else λ_=>Ā,λj T h=>?_,λj k q f e d=>?_,λj q z=>?_}
 .rw[p q λw=>by rw[(A q w).2]at z;cases z];show ŗe _ _ z
 .rw[p q λw=>by rw[(A q w).1]at z;cases z];show Ŵa _ _ z
 .let C:j<ďa:=ϊa.1;let:=įb j w h;rw[ĺq]
 .rcases vv h with⟨rfl,w⟩|⟨f,w⟩
  .cases w;simp only[ό];show{r,N,o'}
  .have C:j<n:=by rw[<-l];show(Ŀ w).1
   let{u,v,ou}:=Ĩa j T Ŏl;rw[ur Ê]at v;simp only[Ñ f,Ï C];show{u,v,ou.loc (śa G) T u _ λq z=>p q λJ=>Õa i j q ĩf (s q J) z}
 .let x:∀j,j≠i->j<n->∀q,(t i q/\¬ L1 q)\/L2 q->t j q->Ā:=λj f C q e d=>by
   rcases e with⟨e,_⟩|e;show Õa i j q ĩf e d;rcases B q e with c|c;show Õa i j q ĩf (s q c) d;show Õa n j q Ê c d
  split at e
  .rw[óq];show f Ê;rw[óq];show x k Ê Ê q e d;show d
  .split at e;rw[óq];show x j Ê Ê q d e;rw[óq];show Õa j k q f e d;show d;show e
 .split at z
  .rcases z with⟨z,w⟩|z
   .rw[ěq];let{u,I,R}:=c;show{a,b,u,(p q w).trans I,R}
   .show{?_,?_,W.cells m2 _ _ q z}
    .rcases B q z with c|c
     .show(A q c).1
     .show ĳo.1
    .rcases B q z with c|c
     .show(A q c).2
     .show ĳo.2.1
  .split at z
   .rename_i f C;let{a,b,c}:=Ņa j q z;let{u,I,R}:=c;show{a,b,u,(p q λJ=>Õa i j q ĩf (s q J) z).trans I,R}
   .show Ũ
#print a
def Zd(i:Â)(π:Á wH)(a:FE)(c:v7):yZ:=λβ=>(Ĭc).bind λr=>(ņd).bind λy=>(ſn).bind λb=>match b with
 |.own èj=>(åo).bind λx=>match x with
  |.int j=>(Ňi).bind λn=>(ζd (Β ϻi)).bind λβ2=>À ŝb|_=>Å
 |_=>Å
def Vg(i:Â)(π:Á wH)(a:FE)(c:v7):yZ:=λβ=>(Ĭc).bind λr=>(ņd).bind λy=>(ſn).bind λb=>match b with
 |.own ùo=>(åo).bind λx=>(Že).bind λx=>match decide (Ń<yX)with
  |Ä=>(ζd (.dic ťp ĥn)).bind λβ2=>À ŝb|Ã=>Å
 |_=>Å
section
variable{X:Cx}{np:Â}{o k v:Ö}{i:Â}{π:Á wH}{fk:FE}{fv:v7}{pos ϓ:Pos}
def Xt(T:SP X o i π)(hk:SE X k fk)(hv:MC X v fv)(R:Î ϗf q12)(Z:Î (Íi Íf v Įd Û=pure Ã) q12)(hw:Î (Îi Íf v Û=pure Å) q12)(U:Î ((øe Íf Û).map (·.2)=[Äc ϰl Û]) q12):MS X np õm (Zd i π fk fv):=by
 let{tk,Y,kk}:=Ád;let{tv,pv,kv}:=Àd;let{to,po,Q}:=T.h;show{{_,nJ pv (oA {po} {Y} rn R).h Z hw U,λ{P G0 H0 G H β σ fl E} hP K a q=>?_}};obtain⟨⟨m,β1⟩,hy,a⟩:=zH a;rw[ğq]
 rw[Åq];rename_i ds;let{xk,W,a}:=zH a;cases xk with
 |int j=>
  let{e,s,a}:=zH a;let{β2,I,a}:=zH a;cases a;let{mm,t,O}:=Vm hn;show kv K hy λw G1 H1 s1 f=>?_
  let{r,v1,L1,Lr,L,F,_}:=f.write Źb t O;show Q L F ?_;let{Ga,Ea,d}:=(f.down Źb).p_;show kk Ea W λu G2 H2 x2 r2=>?_
  cases(show u=_ from r2);let{G3,B,_,_}:=d _ _ x2;let N:=f.go B;let{r',v1',L1',Lr',b,x,n,or',dj',g}:=N.write Źb t O;rw[L]at b;cases b;cases ϣc (F.mono B.h) x;let{p,rfl,{J,S,C,l},A}:=n;let{m',e',K5}:=g (H':=ze H2 p (Β (J.set e w))) (m2:=.own (Β (ōe e y))) (L2:=λq=>q=p) (Υd (A q)) {p,rfl,{_,yq,åg N.J0 e C,by rw[Éa];show l},λ_=>ĝc} (ηd (A q));rw[BN t e']at I;cases I;show{p,J,j,e,rfl,rfl,S,by rw[C.length];show s,q _ _ _ K5}
 |_=>cases a
 cases a
def O2(hu:Œa+1<ϛ)(S:SP X o i π)(hk:SE X k fk)(hv:MC X v fv)(W:Î (Ψb ϰl) q12):MS X np õm (Vg i π fk fv):=by
 let{tk,U,kk}:=Ád;let{tv,pv,kv}:=Àd;let{to,po,Q}:=S.h;show{{_,nM hu po U pv W,λ{P G0 H0 G H β σ fl E} hP K a q=>?_}};obtain⟨⟨m,β1⟩,Z,a⟩:=zH a;rw[ğq]
 rw[Åq];rename_i ks t;let{xk,T,a}:=zH a;let{b,f,a}:=zH a
 rw[Åq];rw[łq];let c:=š c;let{β2,J,a}:=zH a;cases a;let{mm,x,O}:=Vm hn;show kv K Z λw G1 H1 s1 g=>?_
 let{r,v1,L1,Lr,L,I,_}:=g.write Źb x O;show Q L I ?_;let{Ga,Ea,e}:=(g.down Źb).p_;show kk Ea T λu G2 H2 x2 r2=>?_
 let{G3,F,_,_}:=e _ _ x2;let N:=g.go F;let{r',Y,L1',Lr',d,B,s,or',dj',n}:=N.write Źb x O;rw[L]at d;cases d;cases ϣc (I.mono F.h) B;let{p,rfl,{vs,R,l,j,hl},C}:=s
 let{m',e',K5}:=n (H':=ze H2 p (.dK (qB Ûb b w))) (m2:=.own (.dic (wD ks b) (wE ks t b y))) (L2:=λq=>q=p) (Υd (C q))
  ⟨p,rfl,⟨wE ks vs b w,by rw[yq,AF l],W1 l,j.put N.J0,by
   let h1:=NO (ks:=ks) (vs:=t) (k:=b) (v:=y) (by rw[l,ģa]);have h2:Šb<16777216:=by rw[<-ģa,<-l];show c
   rw[ū];omega⟩,λ_=>ĝc⟩ (ηd (C q))
 rw[BN x e']at J;cases J;show{p,_,rfl,.inl {_,b,R,YZ f r2,by rw[íc,l,Ōb,ū,<-l];show c,rfl},q _ _ _ K5};cases a;cases a
#print a
nonrec def Zl(fs:Á Ç)(f:Ç):Á Ç:=if f∈fs then fs else fs++[f]
def jH{α:Type}(fs:Á Ç)(ms:Á α)(f:Ç)(m:α):Á α:=if f∈fs then uf fs ms f m else ms++[m]
theorem nY{f:Ç}{w:V}:∀{fs:Á Ç}{vs:Á V},őa=đ->Ĳb f w ŝo=(ĉe).zip Įn
 | [],[],_=>by unfold Zl jH;rw[Ñ ô,Ñ ô];rfl| [],_::_,h=>by cases h|_::_,[],h=>by cases h|g::fs,v::vs,h=>by
  let b:=nY (f:=f) (w:=w) (fs:=fs) (vs:=vs) šj;rw[čb];unfold Ĳb;by_cases c:g=f;subst c;unfold Zl jH;rw[Ï rfl,Ï Ġ,Ï Ġ];unfold uf;rw[Ï rfl,čb];rw[Ñ c,b];unfold Zl jH;by_cases z:f∈fs;rw[Ï z,Ï z,Ï Èj,Ï Èj]
  conv=>rhs;unfold uf
  rw[Ñ c,čb];let a:f ∉ g::fs:=λw=>by rcases ĩ w with w|w;show c w.symm;show z w
  rw[Ñ z,Ñ z,Ñ a,Ñ a,ńb,ńb,čb]
theorem rg{κ α:Type}[œb κ]{k:κ}{y:α}:∀{ks:Á κ}{xs:Á α},(uf ks xs k y).length=ë
 | [],_=>by unfold uf;rfl|_::_,[]=>by unfold uf;rfl|k'::ks,x::xs=>by
  unfold uf
  split;rfl;rw[Ĉ,Ĉ,rg]
theorem y9y{α:Type}{f:Ç}{w:α}{fs:Á Ç}{vs:Á α}(h:őa=đ):(ĉe).length=(Įn).length:=by
 unfold Zl jH
 split;rw[rg];show h;rw[ì,ì,h];rfl
section
variable{K:Ô}{G H:Hp}
theorem ăj{κ:Type}[œb κ]{k:κ}{m2:M}{e:V}{L2:Ft}(l:xo K G H m2 e L2):∀{ks:Á κ}{ms:Á M}{vs:Á V}{L:Ft},ϒ K G H ms vs L->(∀q,L q->L2 q->Ā)->∃L',ϒ K G H Øn (uf ks vs k e) L'/\∀q,L' q->L q\/L2 q
 | [],ms,vs,L,h,_=>{L,by unfold uf;show h,λq z=>.inl z}|_::_,[],vs,L,h,_=>by let{rfl,n}:=h;show{L,by unfold uf;show{rfl,n},λq z=>.inl z}
 |k'::ks,m::ms,vs,L,h,dj=>by let{v,r,f,j,rfl,p,g,d,u}:=h;unfold uf;rw[ēq];show{λq=>L2 q\/j q,{e,r,L2,j,rfl,l,g,λq a b=>dj q ((àa).mpr (.inr b)) a,λq=>ĝc},λq z=>?_};rcases z with z|z;rw[Đq];show .inl Ãe;rw[Ñ c,Ñ c];let{L',o,i}:=ăj (k:=k) l (ks:=ks) g ţk;show{λq=>f q\/L' q,{v,_,f,L',rfl,p,o,λq a b=>?_,λq=>ĝc},λq z=>?_};rcases i q b with b|b;show d q a b;show dj q øn b;rcases z with z|z;show .inl Üe;rcases i q z with z|z;show .inl Ãe;rw[Đq]
theorem ũi{m2:M}{c:V}{L2:Ft}(e:xo K G H m2 c L2):∀{ms:Á M}{vs:Á V}{L:Ft},ϒ K G H ms vs L->(∀q,L q->L2 q->Ā)->ϒ K G H (ms++[m2]) (vs++[c]) (λq=>L q\/L2 q)
 | [],vs,L,h,_=>by let{rfl,n}:=h;show{c,[],L2,λ_=>Ā,rfl,e,{rfl,λ_ z=>z},λ_ _ z=>z,λq=>{?_,?_}};rintro(z|z);show Þ z (n q);rw[Ŷq];show Ũ
 |m::ms,vs,L,h,dj=>by let{v,r,f,j,rfl,g,i,d,u}:=h;show{v,_,f,λq=>j q\/L2 q,rfl,g,ũi e i ţk,λq a b=>?_,λq=>{?_,?_}};rcases b with b|b;show d q a b;show dj q øn b;rintro(z|z);rcases(u q).mp z with z|z;show .inl z;show .inr Œb;show .inr Źa;rintro(z|z|z);show .inl Üe;show .inl Ãe;rw[Đq]
def Ϗo{f:Ç}{m2:M}{b:V}{L2 L:Ft}{fs:Á Ç}{ms:Á M}{vs:Á V}(a:xo K G H m2 b L2)(h:ϒ K G H ms vs L)(d:∀q,L q->L2 q->Ā):∃L',ϒ K G H (jH fs ms f m2) (jH fs vs f b) L'/\∀q,L' q->L q\/L2 q:=by unfold jH;by_cases c:f∈fs;rw[Ï c,Ï c];show ăj a h d;rw[Ñ c,Ñ c];show{_,ũi a h d,λq z=>z}
#print a
def gM(m:M)(β:yM)(i:Â)(π:Á wH)(a:Á Ç)(f:Ç):É gu:=(şf).bind λb=>match b with
 |.obj x fs ms=>match decide (x∈a)&&decide Ϙo with
  |Ä=>(Τd (jH fs ms f m)).bind λβ2=>À ŝb|Ã=>Å
 |_=>Å
def jF(i:Â)(π:Á wH)(a:Á Ç)(f:Ç)(b:v7):yZ:=λβ=>(b β).bind λr=>gM r.1 r.2 i π a f
def Kl(i:Â)(π:Á wH)(g:Á Ç)(f:Ç)(d:FE):yZ:=λβ=>(şf).bind λe=>match e with
 |.obj x fs ms=>match decide (x∈g)&&decide Ϙo with
  |Ä=>(ăa fs ms f).bind λc=>(k9 c).bind λc=>match c with
   |.int a=>(d ĳg).bind λy=>match y with
    |.int b=>(Τd (jH fs ms f (.fz (Ζ (a+b))))).bind λβ2=>À ŝb|_=>Å
   |_=>Å
  |Ã=>Å
 |_=>Å
section
variable{X:Cx}{np:Â}{o v:Ö}{i:Â}{π:Á wH}{cs:Á Ç}{f:Ç}{fv:v7}{fe:FE}{pos ϓ tpos:Pos}
def zy.bJ{K:Ô}{n:Â}{P:Á V}{v L G H:Hp}{β β2:yM}{σ:St}{x f:Ç}{fs:Á Ç}{ms:Á M}{m e:M}{w:V}{i:Â}{π:Á wH}(E:zy K ħ P v L G H (β++[À e]) (σ++[À w]))(O:ďa<=n)(F:β[i]?=À ϵa)(ha:jB m π=À ϻh)(I:Ųb β i π (.obj x ĉe įn)=À β2) :∃r p C dx vs,σ[i]?=À Űj/\v8 K H r π Ŵ/\ϙ K Ę x=À Ģa/\H p=À õh/\őa=đ/\zy K n P v L G Ŝf β2 σ:=by
 let{r,v1,L1,N,Z,Y,o1,j,u,S}:=E.write O F ha;let{p,C,dx,vs,T,rfl,B,R,l,U,y,d}:=o1;let t:∀q,q≠p->Ŝf q=H q:=λq z=>yH z
 let k:ϒ K G Ŝf ms vs T:=Žc (λJ _ v' g s o=>ťg ţj J v' g λq z=>t q λc=>y (c▸s q z)) U;let h:xo K G Ŝf e w N:=j.loc ţj e w N λq z=>t q λc=>u q ϵl z
 let{g,Q,A}:=Ϗo (f:=f) (fs:=fs) h k (λq a b=>u q ((d q).mpr ĳj) b)
 let{J,e',X}:=S (H':=ze H p Úk) (m2:=.obj x ĉe įn) (L2:=λq=>q=p\/g q) (λq z=>t q λc=>z ϵl)
  ⟨p,C,dx,jH fs vs f w,g,rfl,B,by rw[yq,nY l],y9y l,Q,λz=>by
   rcases A p z with z|z;show y z;show u p ((d p).mpr Ţ) z,λq=>ĝc⟩ (λq z=>by
   rcases z with rfl|z;show .inl ((d q).mpr Ţ);rcases A q z with z|z;show .inl ((d q).mpr Źa);rw[Đq])
 rw[BN F e']at I;cases I;show{r,p,C,dx,vs,Z,Y,B,R,l,X}
def kN(g:SP X o i π)(k:vh X.K cs f)(hv:MC X v fv)(u:Î (Ψb ϴl) q12):MS X np (.Assign ϔl v pos) (jF i π cs f fv):=by
 let{T,b,y}:=Àd;let{to,I,d}:=g.h;show{{_,y9t I b u,λ{P Y H0 G H β σ fl E} S K a q=>?_}};obtain⟨⟨m,β1⟩,A,a⟩:=zH a;let{nd,s,a}:=zH (show(gK β1 i π).bind _=_ from a)
 rw[Åq];rename_i x fs ms
 rw[Åq];rw[łq];rw[Ď]at c;let N:=š c.2;let{β2,L,a}:=zH a;cases a;let{mm,J,R}:=Vm s;show y K A λw W Z s1 j=>?_
 let{r,p,C,n,U,B,z,F,e,l,t}:=j.bJ Źb J R L;let{Q,O}:=k x (š c.1) C F;show d B z {p,C,n,_,rfl,e,Q,O,by rw[íc,l,Ōb,<-l];show N,q _ _ _ t};cases a;cases a
def y2v(S:SP X o i π)(k:vh X.K cs f)(hv:SE X v fe):MS X np (.AugAssign żl .Add v pos) (Kl i π cs f fe):=by
 let{tv,pv,kv}:=Àd;let{to,Z,O}:=S.h;show{{_,y9u Z pv z9y,λ{P G0 H0 G H β σ fl E} hP K e q=>?_}};let{nd,hn,e}:=zH e
 split at e;rename_i x fs ms
 split at e;rw[łq];rw[Ď]at c;let T:=š c.1;let hl:=š c.2;let{ch,w,e}:=zH e;let{dc,n,z}:=zH e;cases VD n
 rw[Įq];rename_i a;let{y,Y,e}:=zH z
 split at e;rename_i b;let{β2,hβ,e}:=zH e;cases e;let{mm,J,N}:=Vm hn;let K0:=K.Ug (d:=.zO) (v:=.zO) rfl;let{r,v1,L1,Lr,I,B,o1,_}:=K0.write Źb J N;let{p,C,dx,vs,L',rfl,F,Q,l,W,nL,uL}:=o1;let{cl,na}:=k x T C F;let{vc,Lc,ec,{U,_},_}:=ýe W w;cases(show vc=_ from U);refine O I B {p,C,dx,_,_,rfl,Q,cl,na,by rw[Mz];show ec,?_};let{Ga,Ea,j}:=K.p_;show kv Ea Y λu G2 H2 x2 r2=>?_
 cases(show u=_ from r2);let{G3,R,K3,_}:=j _ _ x2;let{r',p',C',t,vs',g,A,m,s,L,K5}:=(K3.Ug (d:=.int (a+b)) (v:=.int (a+b)) rfl).bJ Źb J N hβ;rw[I]at g;cases g;cases ϣc (B.mono R.h) A;let eC:C'=C:=by rw[F]at m;cases m;rfl
 subst eC;show{_,_,rfl,rfl,t,_,s,by rw[íc,L,Ōb,<-L];show hl,q _ _ _ K5};cases e;cases z;cases e;cases e
#print a
open Ĉp in
nonrec def cut(H:Hp)(L:Ft):Hp:=λq=>if L q then Å else H q
def eA{H:Hp}{L:Ft}{q:Ë}(h:L q):cut H L q=Å:=by unfold cut;rw[Ï h]
theorem YM{H:Hp}{L:Ft}{q:Ë}(h:¬ L q):cut H L q=H q:=by unfold cut;rw[Ñ h]
theorem eB{H:Hp}{L:Ft}{q:Ë}(h:cut H L q=Å):L q\/H q=Å:=by rw[ĸq];show .inl c;rw[YM c]at h;show .inr h
abbrev FM:=Á M->É Ŵi
def xr(K:Ô)(F:FM):Sp:=λa H Q _=>∃G ms L ms' m',yF G H/\ϒ K G H ms a L/\(∀q,L q->G q=Å)/\F ms=À (ms',m')/\
 ∀v G' H' L',zT G Ÿp G' H'->ϒ K G' H' (m'::ms') (v::a) L'->(∀q,L' q->G' q=Å/\cut H L q=Å)->Q v H'
section
variable{K:Ô}{n:Â}{P:Á V}{G0 H0 G H G' H':Hp}{β:yM}{σ:St}
def zy.bE{m:M}{v:V}{L:Ft}(E:zy K n P G0 H0 G H β σ)(x:zT G H G' H')(o:xo K G' H' m v L)(k:∀q,L q->G' q=Å/\H q=Å):zy K ħ P G0 H0 G' H' ìe ęb:=by
 let{t,F}:=ϖa;let J:=ţa x;let r:∀i q,t i q->L q->Ā:=λi q z c=>ũc.2.2.some (k q c).2
 refine{J.ext,by rw[ì,ű];rfl,by rw[ì,Ű];rfl,by let:=ϙa;omega,λi u h=>?_,λj=>if j<n then t j else if j=n then L else λ_=>Ā,λi p h=>?_,λi j q l f d=>?_,λi q z=>?_};let A:i<σ.length:=by rw[ôq]
 rw[ur A];show įb i u h;rcases Bh h with⟨c,e⟩|⟨c,e⟩;rw[Ű]at c;let{u,C,I}:=Ĩa i p e;refine{u,by rw[ur ϫd];show C,?_};simp only[Ï c];show Ėa x.g p u _ λq z=>?_
 let{w,s,_}:=ũc.2.2;rw[s];show x.h _ _ s;rw[äq];show o;rw[Ŀq];show Õa i j q l f d;rw[óq];show r i q f d;show d;rw[Ŀq];show r j q d f;rw[ŷq];rw[Įq];rw[ěq];let{y,B}:=Ev x a c;show{y,b,B};rw[Įq];show{(k q z).1,ċi (k q z).2,o.cells m v _ q z};show Ũ
def zy.back{m U:M}{i:Â}{π:Á wH}(E:zy K n P G0 H0 G H β σ)(Q:β[i]?=À ϵa)(ha:jB m π=À U) :∃r v1 L1,σ[i]?=À Űj/\v8 K H r π v1/\xo K G H U v1 L1/\(∀q,L1 q->G q=Å)/\
   ∀{G' H':Hp}{m' nd':M}{v:V}{Lr L2:Ft},zT G (cut H L1) G' H'->xo K G' H' m' v Lr->xo K G' H' nd' v1 L2->(∀q,Lr q->L2 q->Ā)->(∀q,Lr q\/L2 q->G' q=Å/\cut H L1 q=Å)->
    ∃mm,jI m π nd'=À mm/\zy K ħ P G0 H0 G' H' (β.set i (À mm)++[À m']) ęb:=by
 let{t,F}:=ϖa;have Y:i<n:=by rw[<-Ű];show(Ŀ Q).1
 let{r,O,om}:=Ĩa i m Q;let{v1,L1,va,o1,I,re}:=om.focus ha;show{r,v1,L1,O,va,o1,λq z=>Ŏm.1,λ{G' H' m' nd' v Lr L2} x W X dj C=>?_}
 let s:∀j q,t j q->¬ L1 q->H' q=H q:=λj q z w=>by let{u,B,_}:=Ţf.2.2;rw[B];show x.h _ _ ((YM w).trans B)
 let A:∀j q,t j q->¬ L1 q->(Lr q\/L2 q)->Ā:=λj q z w c=>by let e:=(C q c).2;rw[YM w]at e;show Ţf.2.2.some e
 let{mm,e',o'}:=re x.g (λq z w=>s i q z w) X (λq z w=>by by_cases c:L1 q;show c;show(A i q w c Źa).elim)
 let y:∀j q,j≠i->t j q->¬ L1 q:=λj q l z w=>Õa i j q Ão (I q w) z
 let J:∀q,cut H L1 q=Å->H0 q=Å:=λq z=>by rcases eB z with z|z;show Ŏm.2.1;show ċi z
 let p:(β.set i (À mm)).length=n:=by rw[āq]
 show{mm,e',{E.ext.g.trans x.g,λq o z=>x.h _ _ ?_,ıb,λq z=>?_},by rw[ì,ű];rfl,by rw[ì,p];rfl,by let:=ϙa;omega,λj u h=>?_,λj=>if j=i then Ël else if j<n then t j else if j=n then Lr else λ_=>Ā,λj N h=>?_,λj k q l f d=>?_,λj q z=>?_}
 .rw[YM λw=>by rw[(Ņa i q (I q w)).2.1]at z;cases z];show ŗe _ _ z
 .rcases ϳc q z with w|w
  .show Ϻf q w
  .show .inr (J q w)
 .let hj:j<σ.length:=by
   rw[ôq]
  rw[ur hj];show įb j u h
 .rcases Bh h with⟨c,e⟩|⟨c,e⟩
  .rw[p]at c;rcases vv e with⟨rfl,w⟩|⟨l,w⟩
   .cases w;simp only[ό];show{r,by rw[ur ϫd];show O,o'}
   .let{u,Z,ou}:=Ĩa j N w;simp only[Ñ l,Ï c];show{u,by rw[ur ϫd];show Z,ou.loc x.g N u _ λq z=>s j q z Ŕo}
  .cases e;rw[p]at c;subst c;show{_,gO ű,?_};simp only[Ñ (Ŏa Y),Ôc,Ďa,ό];show W
 .let S:∀j,j≠i->∀q,(t i q/\¬ L1 q)\/L2 q->t j q->Ā:=λj l q f d=>by
   rcases f with⟨f,_⟩|f;show Õa i j q Ão f d;show A j q d (y j q l d) (.inr f)
  let R:∀q,(t i q/\¬ L1 q)\/L2 q->Lr q->Ā:=λq f d=>by rcases f with⟨f,w⟩|f;show A i q f w Ķj;show dj q d f
  let L:∀j,j≠i->∀q,t j q->Lr q->Ā:=λj l q f d=>A j q f (y j q l f) Ķj
  split at f
  .rw[óq];show l Ê;rw[óq];show S k Ê q f d;rw[óq];show R q f d;show d
  .rw[Ŀq];show S j Ê q d f;rw[óq];show Õa j k q l f d;rw[óq];show L j Ê q f d;show d;rw[Ŀq];show R q d f;rw[óq];show L k Ê q d f;rw[ŷq]
 .let T:∀q,t j q->¬ L1 q->G' q=Å/\H0 q=Å/\Bx H' q:=λq z w=>by
   let{a,b,u,B,cu}:=Ņa j q z;show{?_,b,u,(s j q z w).trans B,cu};cases e:G' q with
   |Å=>rfl|À o=>rcases ϳc q Äh with c|c;show Þ a c;rw[YM w,B]at c;cases c
  rw[Įq]
  .rename_i ej;subst ej;rcases z with⟨z,w⟩|z;show T q z w;show{Ϗp.1,J q Ϗp.2,X.cells nd' _ _ q z}
  .rename_i l
   rw[Įq];show T q z Ŕo;rw[Įq];show{ώp.1,J q ώp.2,W.cells m' _ _ q z};show Ũ
#print a
inductive AV where
 |v (d:D)|p (i:Â) (π:Á wH)
abbrev tf:=yM->É (Á AV)
def Wh(K:Ô)(G H:Hp)(σ:St):Á AV->Á V->È
 | [],vs=>vs=[]|.v d::as,vs=>∃v r,vs=v::r/\zZ K G d v/\Wh K G H σ as r|.p i π::as,vs=>∃v r w,vs=v::r/\σ[i]?=À (À w)/\v8 K H w π v/\Wh K G H σ as r
structure MA(X:Cx)(es:Á Ö)(f:tf):È where
 h:∃t,PA X es t/\∀{P:Á V}{G0 H0 G H:Hp}{β:yM}{σ:St}{as:Á AV}{Q:Á V->Hp->È},zy X.K ò P G0 H0 G H β σ->f β=À as->(∀vs G' H',zT G H G' H'->Wh X.K G' H' σ as vs->Q vs H')->t σ H Q
nonrec def vq:tf:=λ_=>À []
def TL(f:FE)(r:tf):tf:=λβ=>(ąe).bind λd=>match uR d with
 |Ä=>(řg).bind λa=>À áj|Ã=>Å
def vA(f:FE)(r:tf):tf:=λβ=>(Żj).bind λd=>(řg).bind λa=>À áj
def z35(f:FE)(r:tf):tf:=λβ=>(ąe).bind λd=>match Kv d with
 |Ä=>(řg).bind λa=>À áj|Ã=>Å
nonrec def k8:M->Â->Á wH->AV
 |.fz d,_,_=>.v d|_,i,π=>.p i π
def jW(i:Â)(π:Á wH)(r:tf):tf:=λβ=>(şf).bind λa=>(řg).bind λb=>À (k8 a i π::b)
section
variable{X:Cx}{e:Ö}{es:Á Ö}{f:FE}{r:tf}{i:Â}{π:Á wH}
def pJ:MA X [] vq:={{_,Tu,λE a q=>by rw[Ğq]}}
def M_(s:SE X e f)(u:MA X es r)(h:Î Ča q12):MA X ĕ (TL f r):=by
 let{t,p,k}:=s.h;let{L,o,l}:=u.h;show{{_,Vp p o h,λE a q=>?_}};let{d,z,a}:=zH a
 rw[Åq];rw[łq];let{G,i,a}:=zH a;cases a;let{C,y,b}:=E.p_;show k y z λv H K x r=>?_
 let{J,n,A,B,_}:=b _ _ x;refine l A i λm F I j w=>q _ _ _ (łd j) {v,m,rfl,(B d v c r).mono j.g,w};cases a
def uF(s:SE X e f)(l:MA X es r)(h:Î Ča q12):MA X ĕ (vA f r):=by
 let{t,p,k}:=s.h;let{B,n,i}:=l.h;show{{_,Vp p n h,λE a q=>?_}};let{d,o,a}:=zH a;let{A,b,a}:=zH a;cases a;show k E.Q_ o λv u y x r=>?_
 show i (ţa x) b λj z w c m=>q _ _ _ (Œd c) {v,j,rfl,ßa c.g,m}
def kM(z:SP X e i π)(u:MA X es r)(h:Î Ča q12):MA X ĕ (jW i π r):=by
 let{t,p,k}:=z.h;let{K,v,o}:=u.h;show{{_,Vp p v h,λE a q=>?_}};let{y,A,a}:=zH a;let{J,n,a}:=zH a;let{G,s,C}:=Vm A;let{w,m,H,f,c,B,_}:=Ϯj s C;show k f c (o E n λj I F b l=>q _ _ _ b ?_);cases y with
 |fz d=>cases a;show{m,j,rfl,B.1.mono b.g,l}|own d=>cases a;show{m,j,w,rfl,f,Ũd b.h,l}|obj x fs ms=>cases a;show{m,j,w,rfl,f,Ũd b.h,l}|tab ks ms=>cases a;show{m,j,w,rfl,f,Ũd b.h,l}|tp ms=>cases a;show{m,j,w,rfl,f,Ũd b.h,l}
#print a
nonrec def QN:Á AV->É ϋa
 | []=>À []|.v d::as=>(QN as).bind λa=>À (d::a)|.p _ _::_=>Å
def MF:Á AV->É (Á D×Â×Á wH×Á D)
 | []=>Å|.v d::as=>(MF as).bind λr=>À (d::r.1,r.2)|.p i π::as=>(QN as).bind λb=>À ([],i,π,b)
nonrec def jg(ds:Á D):Á M:=ųe .fz
def YL(F:FM)(as:Á AV)(β:yM):É (M×yM):=match QN as with
 |À ds=>(F (jg ds)).bind λr=>À (r.2,β)|Å=>(MF as).bind λc=>(gK β c.2.1 c.2.2.1).bind λb=>(F (jg c.1++b::jg c.2.2.2)).bind λr=>(r.1[c.1.length]?).bind λa=>(Ųb β c.2.1 c.2.2.1 a).bind λβ'=>À (r.2,β')
def jZ(F:FM)(f:tf):v7:=λβ=>(ϒa).bind λa=>YL F a β
section
variable{K:Ô}{n:Â}{P:Á V}{G0 H0 G H G' H':Hp}{β:yM}{σ:St}
theorem OA:∀{ds:Á D}{vs:Á V},ê K G ds vs->ϒ K G H (jg ds) vs ŵi
 | [],_,r=>{r,λ_ z=>z}|d::ds,_,r=>by let{v,r,rfl,a,b}:=r;show{v,r,λ_=>Ā,λ_=>Ā,rfl,{a,λ_ z=>z},OA b,λ_ z=>Ũ,λq=>{λz=>Ũ,λz=>Ũ id id}}
theorem mo{f:M}{v1:V}{c:Ft}(o:xo K G H f v1 c){b:Á D}{e:Á V}(g:ê K G b e):∀{a:Á D}{va:Á V},ê K G a va->ϒ K G H (jg a++f::jg b) (va++v1::e) c
 | [],va,r=>by cases(show va=[]from r);show{v1,e,c,λ_=>Ā,rfl,o,OA g,λ_ _ z=>z,λq=>{.inl,λz=>Ũ id ğa}}|d::ds,_,r=>by let{v,r,rfl,h,i}:=r;show{v,_,λ_=>Ā,c,rfl,{h,λ_ z=>z},mo o g i,λ_ z=>Ũ,λq=>{.inr,λz=>Ũ ğa id}}
theorem Ly:∀{as:Á AV}{ds:Á D}{vs:Á V},QN as=À ds->Wh K G H σ as vs->ê K G ds vs
 | [],ds,vs,e,r=>by cases e;show r|.v d::as,ds,vs,e,r=>by let{a,f,e}:=zH e;cases e;let{v,r,rfl,b,c}:=r;show{v,r,rfl,b,Ly f c}
 |.p i π::as,ds,vs,e,r=>by cases e
theorem d8:∀{as:Á AV}{a b:Á D}{i:Â}{π:Á wH}{vs:Á V},MF as=À (a,i,π,b)->Wh K G H σ as vs->∃va v1 vb w,vs=va++v1::vb/\ê K G a va/\ê K G b vb/\σ[i]?=À (À w)/\v8 K H w π v1
 | [],a,b,i,π,vs,e,r=>by cases e|.v d::as,a,b,i,π,vs,e,r=>by obtain⟨⟨o,q,π',m⟩,h,e⟩:=zH e;cases e;let{v,r,rfl,k,c}:=r;let{va,v1,vb,w,rfl,n,l,f,g}:=d8 h c;show⟨v::va,v1,vb,w,rfl,{v,va,rfl,k,n},l,f,g⟩
 |.p j ρ::as,a,b,i,π,vs,e,r=>by let{m,h,e}:=zH e;cases e;let{v,r,w,rfl,f,va,c}:=r;show{[],v,r,w,rfl,rfl,Ly h c,f,va}
theorem N8{v1:V}{a:M}:∀{ms:Á M}{vs:Á V}{L:Ft}{k:Â},ϒ K G H ms vs L->ms[k]?=À a->vs[k]?=À v1->∃L2,xo K G H a v1 L2/\∀q,L2 q->L q
 | [],_,_,_,_,e,_=>by cases e|m::ms,_,L,0,h,e1,e2=>by let{v,r,b,g,rfl,c,f,d,u}:=h;cases e1;cases e2;show{b,c,λq z=>(àa).mpr Œb}
 |m::ms,_,L,k+1,h,e1,e2=>by let{v,r,b,g,rfl,c,f,d,u}:=h;let{L2,o,s}:=N8 (k:=k) f èm çm;show{L2,o,λq z=>(àa).mpr (.inr Ĩe)}
def zy.call{F:FM}{as:Á AV}{vs:Á V}{m:M}{β':yM}{Q:VK}{E0:XK}(E:zy K n P G0 H0 G H β σ)(I:Wh K G H σ as vs)(c:YL F as β=À (m,β'))(q:∀v G' H',yF G G'->zy K ħ P G0 H0 G' H' ğn ęb->Q v H'):xr K F vs H Q E0:=by
 unfold YL at c
 split at c;rename_i ds e;rw[ūq];cases c;show{G,_,_,_,_,Ŵa,OA (Ly e I),λ_ z=>Ũ,h,λv G' H' T x o f=>?_}
 let s:cut H ŵi=H:=by
  funext q
  show YM (λz=>z)
 rw[s]at x;let{v',r',L,Lb,e2,p,C,B,u}:=o;cases e2
 show q v G' H' x.g (E.bE x p λq z=>by let{a,b}:=f q Üe;rw[s]at b;show{a,b});obtain⟨⟨a,i,π,b⟩,hc,c⟩:=zH c;let{nd,U,c}:=zH c;rw[ūq];let{W,j,c}:=zH c;let{β2,y,c}:=zH c;cases c;let{mm,t,ha}:=Vm U;let{w,v1,R,Y,X,p,J,O}:=Ϯj t ha;let{xa,Z,xb,w',rfl,A,N,d,l}:=d8 hc I;rw[Y]at d;cases d;cases ϣc X l;show{G,_,R,_,_,Ŵa,mo p N A,J,h,λv G' H' T x o f=>?_};let{v',r',L,Lb,e2,oa,ob,B,u}:=o;cases e2
 let{L2,C,r}:=N8 (v1:=v1) ob j (by rw[<-A.length,ſb Ē,ôc];rfl)
 let{m3,S,K3}:=O x oa C (λq z w=>B q z (r q w)) (λq z=>by rcases z with z|z;show f q Üe;show f q (Ζa (r q z)))
 rw[BN t S]at y;cases y;show q v G' H' x.g K3
#print a
section
variable{X:Cx}{x m c:Ç}{ps:Á Ç}{j k:Â}{F:FM}{e o:Ö}{es:Á Ö}{fa:tf}{p pos Åa:Pos}{i:Â}{π:Á wH}
def Xs(h:wu ö X.w X.K ñ Ľ x ps k Ąc)(l:yk j X.A)(r:Gl X x)(z:MA X ĕ fa)(hk:Î ϻa q10)(c:Î ō q10)(u:Î òa q12):MC X Ŭa Űp:=by
 let{t,m,i}:=z.h;show{{_,BE h l r m hk c u,λE a q=>?_}};let{H,b,a}:=zH a;show i E b λC G B d y=>?_
 rw[Œ];show(Řj).call y a λv o f s n=>q v o f (d.g.trans s) n
def g8(P:ï)(w:æ)(K:Ô)(b:Ç->É Value)(a:Heap)(c m:Ç)(ps:Á Ç)(k:Â)(sp:Sp):È:=
 ∃(C f:Ë) (fd:Ņ),ϙ K Ę c=À Ģa/\qK K C/\Lm K C m f/\uN K fd ps []/\xc P w K b a xS k f fd ps sp
def kB(c m:Ç)(i:Â)(π:Á wH)(F:FM)(f:tf):v7:=λβ=>(şf).bind λa=>match a with
 |.obj x fs _=>match decide (x=c)&&!(decide (m∈fs))with
  |Ä=>(ϒa).bind λb=>YL F (.p i π::b) β|Ã=>Å
 |_=>Å
theorem Ki{f:Ç}:∀{fs:Á Ç}{vs:Á V},f ∉ fs->(ŝo).lookup f=Å
 | [],_,_=>rfl|_::_,[],_=>rfl|g::fs,v::vs,h=>by
  rw[čb,Íe]
  let c:(f==g)=Ã:=by
   let:f≠g:=λz=>h (z▸Ġ)
   rw[ϲp]
  rw[c];show Ki λz=>h Èj
def dZ{P:Á V}{b d G H:Hp}{β β':yM}{σ:St}{A:M}{Q:VK}{C:Ë}{t:TA}{B:TE}{E0:XK}(o:ϙ X.K Ę c=À Ģa)(J:∀{σ:St}{H:Hp}{v u:V}{Q:VK},σ[i]?=À Áa->v8 X.K H v π u->Q u H->B σ H Q)(I:∀{P:Á V}{b d G H:Hp}{β:yM}{σ:St}{as:Á AV}{Q:Á V->Hp->È},zy X.K ò P b d G H β σ->fa β=À as->(∀vs G' H',zT G H G' H'->Wh X.K G' H' σ as vs->Q vs H')->t σ H Q)(E:zy X.K ò P b d G H β σ)(e:kB c m i π F fa β=À (A,β'))(q:∀v G' H',yF G G'->zy X.K (ò+1) P b d G' H' (β'++[À A]) ęb->Q v H'):B_ C m Ąc [] E0 B t σ H Q:=by
 let{nd,R,a}:=zH e
 rw[Åq];rename_i x U ms
 rw[Åq];rename_i f;rw[Ď]at f;cases š f.1
 let S:m ∉ U:=by let:=f.2;rw[ϲp]
 let{as,j,e}:=zH a;let{mm,k,ha}:=Vm R;let{w,v1,L1,y,r,Z,_}:=Ϯj k ha;let{p,C',O,vs,L',rfl,z,L,l,rs,nL,uL}:=Z;rw[o]at z;cases z;show J y r {p,O,_,rfl,L,Ki S,?_};show I E j λvs G1 H1 n Y=>?_
 rw[Œ];show(ţa n).call (as:=.p i π::as) {_,vs,w,rfl,y,ßa n.h,Y} e λv G' H' s T=>q v G' H' (n.g.trans s) T;cases a;cases a
def lJ{pl:Sem Ð}(h:g8 ö X.w X.K ñ Ľ c m ps k Ąc)(p:yk j X.A)(u:SP X o i π)(B:MA X ĕ fa)(hk:Î ϻa q10)(a:Î òa q12)(y:Ĥ ϳe Û=(do
   let ov <-Ĥ o Û
   standAt ūc
   let (f,first) <-holding [ov] ńc
   ϱb pos f first åd źb):=by rfl):MC X ϳe (kB c m i π F fa):=by
 let{C,f,H,l,z,s,b,x}:=h;let{t,v,g}:=B.h;let{G,n,r}:=u.h;rw[ϔ,Ď]at a;show{{_,y8u n z s x (p.mono hk) b .nil Yj v õg ÿg y,λE d q=>dZ l r g E d q}}
def lK{pl:Sem Ð}(h:g8 ö X.w X.K ñ Ľ c m ps k Ąc)(n:yk j X.A)(s:SP X o i π)(hk:Î ϻa q10)(y:Ĥ Êd Û=(do
   let ov <-Ĥ o Û
   standAt ūc
   let (f,first) <-holding [ov] ńc
   ϱb pos f first ľh źb):=by rfl):MC X Êd (kB c m i π F vq):=by
 let{C,f,L,d,x,r,b,u}:=h;let{J,l,p}:=s.h;show{{_,n5 l x r u (ņg hk) b .nil Yj y,λE a q=>dZ (t:=UB) d p (λ{P z B G H β σ I Q} v e g=>by cases e;show g _ _ _ (ŋa v.ext.gh) rfl) E a q}}
def Li(P:ï)(w:æ)(K:Ô)(b:Ç->É Value)(a:Heap)(c:Ç)(ps:Á Ç)(k:Â)(sp:Sp):È:=
 ∃(C f:Ë) (fd:Ņ),ϙ K Ę c=À Ģa/\b c=À Ŧ/\Mk K C f/\uN K fd ps []/\xc P w K b a xS k f fd ps sp
def IC(c:Ç)(F:FM)(f:tf):v7:=λβ=>(ϒa).bind λb=>(QN b).bind λa=>(F (.obj c [] []::jg a)).bind λr=>match r.2 with
 |.fz .zO=>(r.1[0]?).bind λm=>À (m,β)|_=>Å
def Kq(h:Li ö X.w X.K ñ Ľ c ps k Ąc)(hr:yk j X.A)(hg:Gl X c)(ha:MA X ĕ fa)(hk:Î (k+1<=j) q10)(R:Î Æh q10)(S:Î òa q12) :MC X (.Call Ői ĕ [] pos) (IC c F fa):=by
 let{C,f,fd,ns,Y,mk,b,FF}:=h;let{t,pa,ka}:=ha.h;rw[ϔ,Ď]at S;show{{_,y8t mk FF (hr.mono hk) hg Y b .nil Yj pa R (qV S.1) (Zp S.2),λ{P G0 H0 G H β β' σ mr Q} E d q=>?_}};let{as,N,d}:=zH d;let{ds,O,d}:=zH d;obtain⟨⟨U,m'⟩,hF,d⟩:=zH d;show ka E N λvs x m x1 ra y i n l ne=>?_
 rw[Œ];let T:=ţa x1;let rd:=Ly O ra
 rw[óq];rename_i em
 change m'=.fz .zO at em
 subst em;let{m0,h0,d}:=zH d;cases d;let W:∀q,q≠y->q≠i->ze (ze m i (.own y)) y (.ins C i []) q=m q:=λq z w=>by rw[yH z,yH w]
 let gy:x y=Å:=T.ext.gh.free n
 let s2:yF x ťk:=λq o z=>by let r:=T.ext.gh _ _ z;rw[W q (λc=>by subst c;rw[n]at r;cases r) (λc=>by subst c;rw[l]at r;cases r)];show r
 show{x,.obj c [] []::jg ds,λq=>q=y,U,.fz .zO,s2,{_,vs,λq=>q=y,λ_=>Ā,rfl,{y,C,i,[],λ_=>Ā,rfl,ns,yq,rfl,{rfl,λ_ z=>z},λz=>z,λq=>{.inl,λz=>Ũ id ğa}},OA rd,λ_ _ z=>z,λq=>{.inl,λz=>Ũ id ğa}},λq z=>z▸gy,hF,λv G' H' L' I o hN=>?_};let{v',r',La,Lb,e2,oa,ob,dj,u}:=o;cases e2;show{oa.1,?_};let{L2,o2,J}:=N8 (v1:=.ref y) ob h0 rfl
 let cn:∀q,cut ťk (λq=>q=y) q=Å->m q=Å:=λq z=>by rcases eB z with z|z;show z▸n;by_cases s:q=y;show s▸n;by_cases B:q=i;show B▸l;rw[W q s B]at z;show z
 let Z:zT x m G' H':=⟨I.g,λq o z=>I.h _ _ (by
  let s:q≠y:=λc=>by subst c;rw[n]at z;cases z
  let B:q≠i:=λc=>by subst c;rw[l]at z;cases z
  rw[YM (L:=λq=>q=y) s,W q s B];show z),I.gh,λq z=>by
  rcases I.new q z with w|w;show .inl w;show .inr (cn q w)⟩
 show q _ G' H' (x1.g.trans Z.g) (T.bE Z o2 λq z=>by let{a,b}:=hN q (Ζa (J q z));show{a,cn q b});cases d
#print a
section
variable{K:Ô}{G H:Hp}
theorem Ęo:∀{ms:Á M}{vs:Á V}{L:Ft},ϒ K G H ms vs L->∃Ls:Â->Ft,(∀(i:Â)(m:M),ms[i]?=À m->∃v,vs[i]?=À v/\xo K G H m v Ñk)/\(∀(i j:Â)(q:Ë),i≠j->Ls i q->Ls j q->Ā)/\∀i q,Ls i q->L q
 | [],_,_,_=>{λ_ _=>Ā,{λi m h=>ão,{λ_ _ _ _ z=>Ũ,λ_ _ z=>Ũ}}}|m::ms,_,L,h=>by
  let{v,r,k,t,rfl,n,o,d,u}:=h;let{Ls,s,l,f}:=Ęo o;show{λi=>match i with|0=>k|j+1=>Ls j,λi p e=>?_,λi j q g a b=>?_,λi q z=>?_};cases i with
  |ŏ=>cases e;show{v,rfl,n}|ş j=>show s j p Ňa
  cases i with
  |ŏ=>
   cases j with
   |ŏ=>show g rfl|ş j=>show d q a (f j q b)
  |ş i=>
   cases j with
   |ŏ=>show d q b (f i q a)|ş j=>show l i j q (λc=>g Âp) a b
  cases i with
  |ŏ=>show(àa).mpr Œb|ş j=>show(àa).mpr (.inr (f j q z))
theorem Ūi:∀{ms:Á M}{vs:Á V}{Ls:Â->Ft},(∀(i:Â)(m:M),ms[i]?=À m->∃v,vs[i]?=À v/\xo K G H m v Ñk)->(∀(i j:Â)(q:Ë),i≠j->Ls i q->Ls j q->Ā)->đ=Ķa->∃L,ϒ K G H ms vs L/\∀q,L q->∃i,i<Ķa/\Ls i q
 | [],vs,Ls,_,_,l=>by
  cases vs with
  |nil=>show{λ_=>Ā,{rfl,λ_ z=>z},λ_ z=>Ũ}|ð v r=>cases l
 |m::ms,[],Ls,_,_,l=>by cases l|m::ms,v::vs,Ls,h,d,l=>by
  let{L,o,c}:=Ūi (ms:=ms) (vs:=vs) (Ls:=λi=>Ls î) (λi n e=>by let{u,a,b}:=h î n Ňa;show{u,by simpa using a,b}) (λi j q p=>d î ϭ q Ê) (ýd l)
  let{u,a,b}:=h 0 m rfl;cases a;show{λq=>Ls 0 q\/L q,{v,vs,Ls 0,L,rfl,b,o,λq f k=>?_,λq=>ĝc},λq z=>?_};let{i,_,z}:=c q k;show d 0 î q Ê f z;rcases z with z|z;show{0,ϭn _,z};let{i,g,z}:=c q z;show{i+1,Žm g,z}
#print a
nonrec def ZT:Á ůj->É (Á M)
 | []=>À []|o::r=>ϖj λm=>(ZT r).bind λa=>À (m::a)
def MN(b:Â):gu->É Ŵi
 |.rt m β=>(Ϧm).bind λa=>À (a,m)|.nx β=>(Ϧm).bind λa=>À (a,.fz .zO)|_=>Å
def wy(a n:Â)(b:yZ)(ms:Á M):É Ŵi:=(b (νd (n-Ķa))).bind (MN a)
def uB(a n:Â)(b:yZ):FM:=λc=>if Îa=a then wy a n b c else Å
def uW{a n:Â}{b:yZ}:∀ms r,uB a n b ms=À r->Ķa=a/\wy a n b ms=À r:=λms r h=>by
 unfold uB at h
 rw[šq]
theorem d7:∀{os:Á ůj} {ms:Á M},ZT os=À ms->Ķa=os.length/\∀(i:Â)(m:M),ms[i]?=À m->os[i]?=À ϵa
 | [],ms,h=>by cases h;show{rfl,λi m e=>by cases e}|o::r,ms,h=>by
  let{d,b,h}:=zH h;let{a,c,h}:=zH h;cases h;subst b;let{l,g}:=d7 c;refine{by rw[Ĉ,Ĉ,l],λi m e=>?_};cases i with
  |ŏ=>cases e;rfl|ş j=>show g j m Ňa
section
variable{K:Ô}
def y2d{N:Á Ç}{G H:Hp}{ms:Á M}{vs:Á V}{L:Ft}(s:yF G H)(o:ϒ K G H ms vs L)(g:∀q,L q->G q=Å)(w:Ķa<=ŕ):zy K ŕ vs G Ÿp G H (νd (ŕ-Ķa)) űi:=by
 let l:=ļd;let{k,r,j,d}:=o.split;let b:∀q,L q->Bx H q:=Ěd (λm _ v n f=>f.cells m v n) o
 let a:∀(i:Â)(v:V),vs[i]?=À v->űi[i]?=À Áa:=λi v e=>by unfold Ĉe;rw[ūa (by rw[ã];show še.1),ė,e];rfl
 show{{śa _,λq o e=>?_,s,λq z=>.inl z},?_,?_,by omega,a,k,λi m h=>?_,j,λi q z=>{g q ßj,eA ßj,b q ßj}};rw[ĸq];rw[eA c]at e;cases e;rw[YM c]at e;show e;unfold Ĉe;rw[ÿq];rw[ÿq];let{u,e,z}:=B0 h;cases z;let{v,p,t}:=r i m e;show{v,a i v p,t}
def lH{n:Â}{x p G H:Hp}{vs:Á V}{β:yM}{σ:St}{m:M}{v:V}{ms:Á M}(E:zy K ħ vs x p G H ìe ęb)(C:đ<=n)(h:ZT (β.take đ)=À ms) :∃L,ϒ K G H (m::ms) (v::vs) L/\∀q,L q->G q=Å/\p q=Å:=by
 let{Ls,F}:=ϖa;let{l,g}:=d7 h;rw[äa,E.WX,Öb C]at l;let{u,f,A}:=Ĩa n m ųp;rw[gO E.Qy]at f;cases f
 let{L,o,t}:=Ūi (K:=K) (G:=G) (H:=H) (ms:=m::ms) (vs:=v::vs) (Ls:=λi=>match i with|0=>Ls n|j+1=>if j<n then Ls j else λ_=>Ā) (λi d e=>by
  cases i with
  |ŏ=>cases e;show{v,rfl,A}|ş j=>
   let r:ms[j]?=À d:=by rw[ėq]
   have c:j<đ:=by rw[<-l];show(Ŀ r).1
   let e2:=g j d r;rw[Ĉm]at e2;rw[Ï c]at e2;let{w,B,y}:=Ĩa j d (by rw[ur (by rw[E.WX];omega)];show e2);let k:=įb j (vs[j]) ŭj;rw[B]at k;cases k;refine{vs[j],by simp[c],?_};simp only[Ï (show j<n by omega)];show y) (λi j q s a b=>by
  cases i with
  |ŏ=>
   cases j with
   |ŏ=>show s rfl|ş j=>
    dsimp only at a b
    rw[Ņq];show Õa n j q Ê a b;show b
  |ş i=>
   cases j with
   |ŏ=>
    dsimp only at a b
    rw[Åq];show Õa n i q Ê b a;show a
   |ş j=>
    dsimp only at a b
    rw[Åq];rw[Ņq];show Õa i j q Ê a b;show b;show a) (by rw[Ĉ,Ĉ,l])
 show{L,o,λq z=>?_};let{i,_,z}:=t q z;cases i with
 |ŏ=>show{Ĳo.1,Ĳo.2.1}|ş j=>
  dsimp only at z
  rw[Įq];show{Ţf.1,Ţf.2.1};show Ũ
#print a
structure vo(K:Ô)(x qual:Ç)(st:Ü)(f:Ë)(fd:Ņ):È where
 ex:∃(oc:Value) (od:É Ë) (dV kV doc pm:Value) (an:É Ë) (cdv ct:Value) (osl:Ú ϩa),
  fd=Ϩc x qual ŝd Ýa ŗ dV kV doc pm an cdv ct/\Àa f=À {oc,od,.func fd,osl}/\ťb K cdv qual=Ä
 kp:Üa K Ī=Ä
def _root_.L2.Fun.v{K:Ô}{x a:Ç}{st:Ü}{f:Ë}{h:Ņ}(F:Fun K x a st f h):vo K x a st f h:=by let{k,m,kV,d,i,n,b,l,g,e,j,c}:=F.ex;show{{k,m,.none,kV,d,i,n,b,l,g,e,j,c},F.kp}
section
variable{P:ï}{w:æ}{K:Ô}{mg:Ç->É Value}{Ì:Heap}
def z70{x a:Ç}{st:Ü}{f:Ë}{j:Value}{m i:É Ë}{e:Ú ϩa}{h kV d g b ct:Value}(l:Àa f=À {j,m,.func ľk,e})(c:ťb K b a=Ä)(k:Üa K Ī=Ä):vo K x a st f ľk:={{j,m,h,kV,d,g,i,b,ct,e,rfl,l,c},k}
def vo.ok{x a:Ç}{st:Ü}{f:Ë}{i:Ņ}{N ps:Á Ç}{k:Â}{sp:Sp}(F:vo K x a st f i)(S:zm N ps ŗ)(g:∀vs H Q E,sp vs H Q E->đ=ģ)(c:∀(b:Value)(A:ù)(ĉ:Á Env)(s:Í)(H:Hp)(vs:Á V)(Q:VK)(E:XK),yk k ąl->sp vs H Q E->
   ∃t,uk (ļk).qb Ýa t/\t { nx:=λ_ H'=>Q .zO H',rt:=Q } ŧc H):xc P w K mg Ì xS Ň f i ps sp:=by
 let{p,v,o,kV,l,r,y,b,u,m,rfl,n,d}:=F.ex;show fN n d S g λA ĉ s H vs Q E j e=>?_
 rw[Ĕq]
def vo.J2{x c:Ç}{st:Ü}{f:Ë}{U:Ņ}{N ps:Á Ç}{k:Â}{F:FM}{b:yZ}(d:vo K x c st f U)(S:zm N ps ŗ)(W:ģ<=ŕ)(T:∀ms r,F ms=À r->Ķa=ģ/\wy ģ ŕ b ms=À r)(Z:∀(g:Value)(A:ù)(ĉ:Á Env)(s:Í)(H:Hp)(E:XK),yk k Ąl->jV (Ļk).qb ģ Ýa b):xc P w K mg Ì xS Ň f U ps ïg:=by
 show d.ok S (λR H Q E h=>?_) λg A ĉ s H R Q E hr h=>?_;let{G,ms,L,C,m',_,o,_,e,_}:=h;rw[ļd,(T _ _ e).1];let{G,ms,L,C,m',X,o,hL,e,q}:=h;let{l,a}:=T _ _ e;let{t,p,Y}:=(Z g A ĉ s H E hr).h;let{fl,u,a}:=zH a;let i:şb=ģ:=by rw[ļd,l]
 refine{t,p,Y i (y2d (N:=N) X o hL Ê) u ?_};cases fl with
 |nx β=>let{n,O,a}:=zH (show(Įm).bind _=_ from a);cases a;intro σ y z j;let{I,J,B}:=lH (j.Ug (d:=.zO) (v:=.zO) rfl) Ťm ťm;show q .zO y z I j.ext J B
 |rt m β=>let{n,O,a}:=zH (show(Įm).bind _=_ from a);cases a;intro σ v y z j;let{I,J,B}:=lH j Ťm ťm;show q v y z I j.ext J B
 |_=>cases a
def vo.z2s{x c:Ç}{st:Ü}{f:Ë}{m:Ņ}{N ps:Á Ç}{k:Â}{F:Á D->É å}{b:FS}(d:vo K x c st f m)(S:zm N ps ŗ)(O:ģ<=ŕ)(j:∀ds r,F ds=À r->ü=ģ/\yL ŕ b ds=À r)(u:∀(g:Value)(A:ù)(ĉ:Á Env)(s:Í)(H:Hp)(E:XK),yk k Ąl->tq (Ļk).qb Ýa b):xc P w K mg Ì xS Ň f m ps ńe:=by
 show d.ok S (λv H Q E h=>?_) λg A ĉ s H v Q E y h=>?_;let{G,ds,o,J,_,r,e,_}:=h;rw[ϊ,Ýj.1];let{G,ds,o,J,C,r,e,q}:=h;let{l,a}:=j _ _ e;let{t,p,L}:=(u g A ĉ s H E y).h;let{B,i,a}:=zH a;refine{t,p,L (f9 (N:=N) C r Ê) i ?_};cases B with
 |nx τ=>cases a;show λσ I n z=>q .zO I n z.ext rfl|rt o' d'=>
  cases a;cases o with
  |Ã=>show q|Ä=>show q
 |_=>cases a
theorem Def.J2{x:Ç}{st:Ü}{N ps:Á Ç}{k:Â}{F:FM}{b:yZ}(d:Def K mg x st ps)(S:zm N ps ŗ)(h:ģ<=ŕ)(i:∀ms r,F ms=À r->Ķa=ģ/\wy ģ ŕ b ms=À r)(g:∀(f:Ë)(a:Value)(A:ù)(ĉ:Á Env)(s:Í)(H:Hp)(E:XK),yk k (ěb (êb x ŗ Ý f a))->jV (qO xS P w K mg Ì N x ŗ f a A ĉ s H E).qb ģ Ýa b):wu P w K mg Ì x ps Ň ïg:=by let{f,l,e,j,c}:=d;show{f,l,j,e.kp,c,e.v.J2 S h i (g f)}
def fQ(F:FM):Á D->É å:=λa=>(F (jg a)).bind λr=>match r.2 with
 |.fz d=>À (Ã,d)|.own d=>À (Ä,d)|_=>Å
def x4n{F:FM}{vs:Á V}{H:Hp}{Q:VK}{E:XK}(h:uP K (fQ F) vs H Q E):xr K F vs H Q E:=by
 let{G,m,o,d,s,r,e,q}:=h;obtain⟨⟨c,k⟩,w,e⟩:=zH e
 let g:cut H ŵi=H:=by
  funext q
  show YM (λz=>z)
 show{G,jg m,λ_=>Ā,c,k,s,OA r,λ_ z=>Ũ,w,λv f i B x l y=>?_};rw[g]at x;let{C,N,A,L,e2,j,I,J,u}:=l;cases e2;cases k with
 |fz d'=>cases e;show q v f i x j.1|own d'=>cases e;let{p,rfl,t,n}:=j;let{a,b}:=y p ((u p).mpr (.inl ((n p).mpr rfl)));rw[g]at b;show q p f i x b a t
 |_=>cases e
#print a
structure Lh(P:ï)(w:æ)(K:Ô)(mg:Ç->É Value)(Ì:Heap)(c m:Ç)(ps:Á Ç)(k:Â)(sp:Sp):È where
 ex:∃(C f:Ë) (fd:Ņ) (mc:Value),mg c=À Ŧ/\İi K Ŧ ĵh=À ϝg/\Ϭi K C mc=Ä/\ϭi K Ŧ mc m=À Ži/\Üa K Ī=Ä/\uN K fd ps []/\xc P w K mg Ì xS k f fd ps sp
section
variable{X:Cx}{c m:Ç}{ps:Á Ç}{j k:Â}{F:FM}{e:Ö}{es:Á Ö}{fa:tf}{p pos Åa:Pos}{sp:Sp}{t:TA}
def y8n{pl:Sem Ð}(h:Lh ö X.w X.K ñ Ľ c m ps k sp)(v:yk j X.A)(B:Gl X c)(F:PA X ĕ t)(hk:Î ϻa q10)(d:Î Æh q10)(i:Î òa q12)(E:Ĥ Ϭe Û=(do
   let ov <-Ĥ Ői Û
   standAt ūc
   let (f,first) <-holding [ov] ńc
   ϱb pos f first åd źb):=by rfl):PE X Ϭe òn:=by
 let{C,f,P,N,u,l,a,g,z,b,y}:=h.ex;rw[ϔ,Ď]at i;intro o s σ H Q I x;show όh (pl:=pl) ?_ E;show Iy I B u ?_ d;show W.method_cls ϝ l (W.cls_value ϝ a g rfl ?_);show ēd (h₀:=Ľ) ĝd z (zx (F pos o _ σ H _ Ãc x) λL G ⟨J,O,n,r,q⟩=>{n.wW,Vy y (v.mono hk) b .nil Yj n r q}) (qV i.1) (Zp i.2)
def y2k{pl:Sem Ð}(h:Lh ö X.w X.K ñ Ľ c m ps k Ąc)(o:yk j X.A)(y:Gl X c)(G:MA X ĕ fa)(hk:Î ϻa q10)(d:Î Æh q10)(z:Î òa q12)(B:Ĥ Ϭe Û=(do
   let ov <-Ĥ Ői Û
   standAt ūc
   let (f,first) <-holding [ov] ńc
   ϱb pos f first åd źb):=by rfl):MC X Ϭe Űp:=by
 let{t,r,n}:=G.h;show{{_,y8n h o y r hk d z B,λE a q=>?_}};let{L,b,a}:=zH a;show n E b λI J H i C=>?_
 rw[Œ];show(ţa i).call C a λv x l s u=>q v x l (ϡi s) u
#print a
nonrec def z5x:yM->É Űf:=λβ=>À ([],β)
nonrec def z5w(f:v7)(r:yM->É Űf):yM->É Űf:=λβ=>(ϒa).bind λa=>(r a.2).bind λb=>À (a.1::b.1,b.2)
nonrec def z4n(ks:Á Ç)(fs:yM->É Űf):v7:=λβ=>(fs β).bind λr=>match decide (Ń=r.1.length)with
 |Ä=>À (.tab (ks.map .inr) r.1,r.2)|Ã=>Å
nonrec def z4l(i:Â):v7:=λβ=>match β[i]? with
 |À ϵa=>À (m,β.set i Å)|_=>Å
#print L3
namespace L2
open ľ ś ĺa ŋ
section
variable{X:Cx}{c e:Ö}{es:Á Ö}{t:TA}{tc:TE}{pos:Pos}{j:Â}
nonrec def x5c(X:Cx)(j:Â)(tc:TE)(t:TA):TE:=λσ H Q=>tc σ H λv a=>∃(f:Ë) (fd:Ņ) (ps:Á Ç) (k:Â) (sp:Sp),v=.ref f/\k<=j/\Üa X.K Ī=Ä/\uN X.K fd ps []/\xc ö X.w X.K ñ Ľ xS k f fd ps sp/\t σ a λb c=>sp (b++[]) c Q E0
def y8k(m:yk j X.A)(p:PE X c tc)(z:PA X ĕ t)(d:Î òa q12)(a:Î (Ĥ ϲl Û=(do ϱb pos (<-Ĥ c Û) [] åd źb)) q12):PE X ϲl (x5c X j tc t):=by intro g s σ H Q I h;rw[ϔ,Ď]at d;rw[a];show Ó (zx (p g s σ H _ I h) λu l ⟨v,L,x,w,f,N,G,k,C,n,o,y,b,F,q⟩=>?_);subst n;cases w;show ēd (h₀:=Ľ) ĝd y (zx (z pos g l σ _ _ x q) λJ B ⟨E,K,i,r,q⟩=>{i.wW,?_}) (qV d.1) (Zp d.2);show Vy F (Ϙj o) b .nil Yj i r q
#print a
#print L2
namespace L3
open ľ ś ŋ L2
def XY(K:Ô)(w:æ)(b:Ç->É Value)(a:Ë)(ks:Á zY)(ns:Á Ç):È:=
 ∃fs:Á Ë,Ĵa=Ã/\Ń=őa/\(∀(i:Â)(n:Ç),ns[i]?=À n->∃f,fs[i]?=À f/\b n=À Ī)/\ţ=őa/\∀(P:ï)(h:Heap),Ŷ h->∃vs,KV (Ňg ĉd) vs/\Ĵe æb a vs
inductive V6(mg:Ç->É Value):Á Ç->Á Ë->È
 |nil:V6 mg [] []
 |ð {n:Ç} {f:Ë} {ns:Á Ç} {fs:Á Ë} (h:mg n=À Ī) (r:V6 mg ns fs):V6 mg Ĵg (f::fs)
theorem V6.at_{c:Ç->É Value}:∀{ns:Á Ç}{fs:Á Ë},V6 c ns fs->(∀(i:Â)(n:Ç),ns[i]?=À n->∃f,fs[i]?=À f/\c n=À Ī)/\ţ=őa
 |_,_,.nil=>{λi n h=>ão,rfl}|_,_,.cons h r=>by
  let{a,b}:=r.at_;show{λi n e=>?_,by rw[Ĉ,Ĉ,b]};cases i with
  |ŏ=>cases e;show{_,rfl,h}|ş i=>show a i n Ňa
theorem z0s:∀{fs:Á Ë},zo ĉd īp
 | []=>.nil|_::_=>.cons rfl z0s
def z77{K:Ô}{c:Ç->É Value}{w:æ}{a:Ë}{es:Á Ċc}{n:Â}{xs ns:Á Ç}{fs:Á Ë}(l:Àa a=À { cls:=.type Ña,ć:=.dict es.toArray n })(e:Y8 w es xs īp)(f:xs.Nodup)(o:Ĵa=Ã)(m:V6 c ns fs) :XY K w c a ϖo ns:=by
 let d:(ģc Âc:Á zY).length=(ĉd).length:=by rw[ã,e.len,ã,ã]
 let{j,i}:=m.at_;refine{fs,o,by rw[d,ã],j,i,λP h g=>{_,y1b z0s d,?_}};let{p,q}:=e.pairs (P:=P);refine{_,_,_,g _ _ l,{rfl,rfl,rfl},rfl,λe k=>q e (by simpa using k),p,?_};rw[z1i (by rw[ã];show e.len)];show ņm _ (λa b h z=>h (ĵi z)) f
section
variable{X:Cx}
def z75{A:Ë}{ks:Á zY}{ns:Á Ç}(g:XY X.K X.w ñ A ks ns):xD X Ğe (λx y H Q=>y=.ref A/\∃k,x=kV k/\Q õn H):=by intro j s σ H x y v u Q I d e h;let{rfl,k,rfl,q}:=h;cases e;let{m,a,c,_,_,f}:=g;let{l,b,i}:=f ö â ϝ;show ăo (ZY d) a i.mapOf ?_;rw[<-(b.val k).Uc,UJ k ìm,Gm k ìm];show{.bl _,H,Òa _,rfl,q}
def x4y{A:Ë}{ks:Á zY}{ns:Á Ç}{x:Ç}{p pos:Pos}{a:Ö}{e:FE}(h:v6 ñ x ćg)(g:XY X.K X.w ñ A ks ns)(r:Gl X x)(t:SE X a e)(o:Î ō q10)(l:Î (ñc .In Ϙb=Ã) q12) :ST X (.Compare a [.In] [.Name x p] pos) (tE (e1 (VL ks) e)):=by let{C,n,f}:=t.h;show{{_,NL (z75 g) n (OB h r o) l,λ{B F G H τ σ d Q} E c q=>?_}};let{z,b,c}:=zH c;let{y,i,b}:=zH b;let{k,m,b}:=zH b;cases b;cases c;show f E i λu v I s j=>{rfl,k,YZ m j,_,rfl,q _ _ s}
def z76{A:Ë}{ks:Á zY}{ns:Á Ç}(g:XY X.K X.w ñ A ks ns):jT X (λx y H Q=>x=.ref A/\∃k n,y=kV k/\Ć ks ns k=À n/\∀f,ñ n=À Ī->Q Ī H):=by
 intro m d G s σ H x y v u Q I U Z h R;let{rfl,k,n,rfl,P,q}:=h;cases U;let{a,t,Y,b,S,N}:=g;let{J,p,B}:=N ö â ϝ
 let j:∀{ks:Á zY}{ns:Á Ç}{a:Á Ë},(∀(i:Â)(n:Ç),ns[i]?=À n->∃f,a[i]?=À f/\ñ n=À Ī)->Ć ks ns k=À n->∃f,Ć ks (Èc ϕa) k=À Ī/\ñ n=À Ī:=λ{ks}=>by
  induction ks with
  |nil=>intro ns a _ e;cases e|ð k' ks ih=>
   intro ns a b e;cases ns with
   |nil=>cases e|ð n' ns=>
    let{f0,C,T}:=b 0 n' rfl;cases a with
    |nil=>cases C|ð f1 a=>cases C;unfold Ć at e;rw[ĵ];unfold Ć;by_cases c:k'=k;rw[Ï c]at e ⊢;cases e;show{_,rfl,T};rw[Ñ c]at e ⊢;show ih (λi n h=>b î n Ĉa) e
 let{f,E,W}:=j b P;let{z,O,l}:=ϊf (v:=ϕa f) (o:=ěc J k) (by rw[<-E,<-UJ k (by rw[ã];show Y)];show p.val k)
 show Ϸe (x:=z) B.typeIs ϖk
  (Ŷm (Q:=λr L=>r=z/\EP X G σ Q r L) (ZY Z) B.mapOf O {rfl,_,H,Òa _,l,q f W}) R
inductive uA(X:Cx)(j:Â):Á Ç->Á FM->È
 |nil:uA X j [] []
 |ð {n:Ç} {ps:Á Ç} {k:Â} {F:FM} {ns:Á Ç} {Fs:Á FM} (h:wu ö X.w X.K ñ Ľ n ps k Ąc) (hk:k<=j) (r:uA X j ns Fs):uA X j Ĵg (F::Fs)
theorem uA.get{X:Cx}{j:Â}{k:zY}{F:FM}:∀{ks:Á zY}{ns:Á Ç}{Fs:Á FM},uA X j ns Fs->Ć ks Fs k=À F->∃n ps i,Ć ks ns k=À n/\i<=j/\wu ö X.w X.K ñ Ľ n ps i Ąc
 | [],_,_,_,e=>by cases e|_::_,_,_,.nil,e=>by cases e|k'::ks,_,_,.cons (n:=n) (ps:=ps) (k:=i) h hk r,e=>by unfold Ć at e;rw[Àq];show{n,ps,i,by unfold Ć;rw[Ï c],hk,h};rw[Ñ c]at e;let{b,a,d,g,f}:=Äb e;show{b,a,d,by unfold Ć;rw[Ñ c];show g,f}
def Ex(ks:Á zY)(b:Á FM)(a:FE)(c:tf):v7:=λβ=>(a ĳg).bind λx=>(Že).bind λk=>(Ć ks b k).bind λF=>jZ F c β
def y2l{A:Ë}{ks:Á zY}{ns:Á Ç}{B:Á FM}{x:Ç}{p p2 pos:Pos}{k e:Ö}{es:Á Ö}{C:FE}{J:tf}{j:Â}(h:v6 ñ x ćg)(g:XY X.K X.w ñ A ks ns)(hg:Gl X x)(D:uA X j ns B)(hr:yk j X.A)(hk:SE X k C)(ha:MA X ĕ J)(hs:Î ϗf q12)(hd:Î ō q10)(Y:Î òa q12)(t:Î (Ĥ Řk Û=(do ϱb pos (<-Ĥ (.Subscript Ϙb k p2) Û) [] åd źb)) q12):MC X Řk (Ex ks B C J):=by
 let{tk,pk,kk}:=Ád;let{ta,pa,L}:=ha.h;show{{_,y8k hr (BD (z76 g) (OB h hg hd) pk (BI hs)) pa Y t,λ{P G0 H0 G H β β' σ m Q} E a q=>?_}};let{y,hy,a}:=zH a;let{r,l,a}:=zH a;let{F,T,a}:=zH a;let{as,o,a}:=zH a;let{n,R,i,Z,O,{f,fd,hm,U,b,FF}}:=D.get T;let{G1,E1,d}:=E.p_;show kk E1 hy λu G2 H2 x2 N=>?_
 let{G3,S,I,_}:=d _ _ x2;show{rfl,r,n,YZ l N,Z,λf' c=>?_};rw[hm]at c;cases c;show{f,fd,R,i,_,rfl,O,U,b,FF,L I o λvs G4 H4 z ra=>?_};rw[Œ];show(I.go z).call ra a λv W H' s K'=>q v W H' (S.g.trans (z.g.trans s)) K'
#print a
def wK(a:Á Ç)(f:Ç):D->É D
 |.obj x fs vs=>if x∈a then ăa fs vs f else Å|_=>Å
theorem ăp{K:Ô}{G:Hp}{κ:Type}[œb κ]{k:κ}{d:D}:∀{ks:Á κ}{ds:Á D}{vs:Á V},ê K G ds vs->Őj ks ds k=À d->∃v,Őj ks vs k=À v/\zZ K G d v
 | [],_,_,_,e=>by cases e|_::_,[],_,_,e=>by cases e|k'::ks,d'::ds,vs,r,e=>by let{v,f,rfl,b,a}:=r;unfold Őj at e ⊢;by_cases c:k'=k;rw[Ï c]at e ⊢;cases e;show{v,rfl,b};rw[Ñ c]at e ⊢;show ăp a e
nonrec def jA(c m:Ç)(b:FE)(fs:FA):FA:=λτ=>(b τ).bind λo=>match o with
 |.obj x fl _=>match decide (x=c)&&!(decide (m∈fl))with
  |Ä=>(fs τ).bind λa=>À (o::a)|Ã=>Å
 |_=>Å
section
variable{X:Cx}{e o:Ö}{f m c:Ç}{cs:Á Ç}{fe fo:FE}{pos Åa:Pos}{ps:Á Ç}{j k:Â}{FF:Á D->É å}
def vZ(h:SE X e fe)(k:vh X.K cs f)(s:Î ål q12):SE X öf (e1 (wK cs f) fe):=by
 let{t,p,m}:=h.h;show{{_,my p s,λ{J O G H τ σ d Q} E b q=>?_}};let{y,n,b}:=zH b;show m E n λv I N c w=>?_
 unfold wK at b
 rw[Ņq];rename_i x P F;rw[ůq];let{a,C,i,L,rfl,o,B,l,j}:=w;let{u,g,r}:=j.getA b;let{z,A}:=k x hx C o;show{a,C,i,_,u,rfl,c.gh _ _ B,z,A,by rw[Mz];show g,q _ _ _ c r};rw[Ñ hx]at b;cases b;cases b
def x3g{b e G H:Hp}{τ:zw}{σ:St}{ds:Á D}{Q:VK}{C:Ë}{t:TA}{p:TE}{sp:Sp}{fs:FA}(j:ϙ X.K Ę c=À Ģa)(A:∀{b e G H:Hp}{τ:zw}{σ:St}{d:D}{Q:VK},zu X.K ò b e G H τ σ->fo τ=À d->(∀v G' H',zT G H G' H'->zZ X.K G' d v->Q v H')->p σ H Q)(B:∀{b e G H:Hp}{τ:zw}{σ:St}{ds:Á D}{Q:Á V->Hp->È},zu X.K ò b e G H τ σ->fs τ=À ds->(∀vs G' H',zT G H G' H'->ê X.K G' ds vs->Q vs H')->t σ H Q)(E:zu X.K ò b e G H τ σ)(h:jA c m fo fs τ=À ds)(q:∀vs G' H',zT G H G' H'->ê X.K G' ds vs->sp vs H' Q E0):B_ C m sp [] E0 p t σ H Q:=by
 let{y,s,f}:=zH h
 split at f;rename_i x F vs
 split at f;rename_i i;rw[Ď]at i;cases š i.1
 let z:m ∉ F:=by let:=i.2;rw[ϲp]
 let{w,J,h}:=zH f;cases h;show A E s λv P Y k o=>?_
 let{a,S,I,R,rfl,n,L,l,U}:=id o;rw[j]at n;cases n;show{a,I,_,rfl,k.gh _ _ L,Ki z,B Ŗj J λvs O T r u=>?_};rw[Œ];show q _ _ _ (ňj r) {_,vs,rfl,ϕj r.g,u};cases f;cases f
def x4o{G H:Hp}{ds:Á D}{vs:Á V}{Q:VK}{b a:Hp}{d:D}{o:Ð}{E:XK}(x:zT b a G H)(r:ê X.K G ds vs)(g:FF ds=À (o,d))(q:∀v G' H',zT b a G' H'->zZ X.K G' d v->Q v H'):uP X.K FF vs H Q E:=by
 show{G,ds,o,d,ıb,r,g,?_};cases o with
 |Ã=>show λv G' H' c r=>q v G' H' (Œd c) r|Ä=>intro p G' H' c h e o;let{u,f,r}:=o.yj e;show q _ _ _ (Œd (c.yj h e f)) r
def Q6{pl:Sem Ð}(h:g8 ö X.w X.K ñ Ľ c m ps k ăe)(z:yk j X.A)(p:SE X o fo)(hk:Î ϻa q10)(N:Ĥ Êd Û=(do
   let ov <-Ĥ o Û
   standAt ūc
   let (f,first) <-holding [ov] ńc
   ϱb pos f first ľh źb):=by rfl):SE X Êd (zg FF (jA c m fo zF)):=by
 let{C,f,T,v,L,B,b,F}:=h;let{W,y,l}:=p.h;show{{_,n5 y L B F (z.mono hk) b .nil Yj N,λ{n I G H τ σ d Q} E a q=>?_}};let{i,J,a}:=zH a;obtain⟨⟨O,S⟩,s,a⟩:=zH a;cases a;show x3g (t:=UB) v l (λ{n I G H τ σ i Q} u e g=>by cases e;show g _ _ _ (ŋa u.ext.gh) rfl) E J λP R U x r=>x4o x r s q
#print a
def y2b(a:Â)(i:Â)(π:Á wH)(b:FE)(d:v7):yZ:=λβ=>(d β).bind λr=>(ņd).bind λy=>match y with
 |.tup [d1,d2]=>(gK Ùh i π).bind λc=>match c with
  |.own èj=>(b (pU Ùh)).bind λx=>match x with
   |.int j=>(Ňi).bind λn=>(Ųb Ùh i π (.own (Β (ōe n d2)))).bind λβ2=>À ŝb|_=>Å
  |_=>Å
 |_=>Å
open ĺa
def z4r{X:Cx}:vg X ÿc (λxs H Q=>∃a kvs,xs=ϲ/\Rd H a ť/\∀p,H p=Å->Q Ŵ (ze H p ť)):=by
 intro y s σ H xs z Q I r h;let{a,kvs,rfl,e,q}:=h;let{u,rfl,m}:=qG r;cases(show u=Ė a from m);let{j,c,n,d,x}:=kC Ě e;let g:ţb=Ō:=Ir d;refine kt_call_dict c x (by rw[g];show j) λl t w=>?_
 let f:ϝo=Ã:=by let:=I.big;rw[ùf];show xh ϙo
 let v:∀b o,ø b=À o->l.get? b=À o:=λb o k=>by let i:=ĥ k;show(w.2 b Ío).trans (ě _ k)
 show{.ref Ý,_,Ϗa (a:=Ý) (o:=.dK kvs) (t':=ē) v Ē (GB j f d t),rfl,q _ Ϝc}
nonrec def MQ:Á D->É D
 | [.dic ks ds]=>À ùo|_=>Å
def x3o{X:Cx}{e:Ö}{fs:FA}{p pos:Pos}(w:Gl X Ña)(g:ñ Ña=Å)(hv:ϕ Ña=À ÿc)(x:SA X [e] fs)(o:Î Ča q12):SF X Êm (eL MQ fs):=by
 let{t,i,k}:=x.h;refine{{_,(Vv z4r w g hv {i} Ò Ò (by rw[ϔ,o];rfl)).h,λ{C F G H τ σ d Q} E b q=>?_}};let{A,s,b}:=zH b;show k E s λz B J c r=>?_
 unfold MQ at b
 rw[Ņq];rename_i I y;cases b;let{v,rfl,a,j,rfl,n,m,u,l}:=pR r;show{a,_,rfl,Ϲb c.gh n,λp f=>?_};show q p _ _ (Ġb (Ŀa c.gh f)) (ÿj f) (ϧi f) {j,yq,m,u,l};cases b
#print L3
namespace L3
def x76:uR .zO=Ä:=rfl
def x77(b:Ð):uR ŭb=Ä:=rfl
def x78(i:Æ):uR ϵ=Ä:=rfl
def x79(x:ϸf):uR ϴb=Ä:=rfl
def x7a(ds:Á D):uR âj=Âb ds:=rfl
def x7b:Âb []=Ä:=rfl
def x7c(d:D)(ds:Á D):Âb (d::ds)=ĩn:=rfl
def z3l(i:Â)(π:Á wH)(d:D):k8 Ōe i π=.v d:=rfl
def x6f(d:D):vd Ōe=d:=rfl
def x6g(d:D):vd Įj=d:=rfl
def x6h(x:ϸf)(fs:Á ϸf)(ms:Á M):vd ϻh=.obj x fs ąc:=rfl
def x6i(ks:Á (Sum Æ ϸf))(ms:Á M):vd ño=.dic ks ąc:=rfl
def x6j:ϴc []=[]:=rfl
def x6k(m:M)(ms:Á M):ϴc (m::ms)=vd m::ϴc ms:=rfl
def z3p(x:M):jB x []=À x:=rfl
def y9z(x y:M):jI x [] y=À y:=rfl
def y22(g:MG)(b:yZ)(x:yM):gI g b [] x=À (.nx x):=rfl
def y23(g:MG)(b:yZ)(x:yM)(d:D)(r:Á D):type_of% (gI.eq_2 g b x d r):=rfl
open ľ ś ŋ L2
def fldk_nil{K:Ô}{f:Ç}:vh K [] f:=λx a=>Þ a ô
def fldk_cons{K:Ô}{f c:Ç}{C:Ë}{d:Á Ç}(ns:ϙ K Ę c=À Ģa)(g:qK K C)(e:Śa K Ŧ f=À Å)(r:vh K d f):vh K (c::d) f:=λx b h a=>by rcases ĩ b with rfl|b;rw[ns]at a;cases a;show{g,e};show r x b h a
def GU:Á D->É D
 | [.lst xs]=>(Ij xs).bind λa=>match a.all Įk&&decide (úa<=1000)with
  |Ä=>À (.int a.sum)|Ã=>Å
 |_=>Å
theorem s_:∀{ns:Á Æ},(∀n∈ns,0<=n/\n<1099511627776)->0<=ϗj/\ϗj<=1099511627776*(ţ:Æ)
 | [],_=>{Ϧa _,by decide}|n::ns,h=>by
  let{a,b}:=s_ λm e=>h m Ŕp
  let{c,d}:=h n Ġ;rw[ľf,Ĉ]
  rw[Ĵq];omega;push_cast
  omega
def y76{K:Ô}:Jf K (oT K) GU:=λG H j t d Q s r b q=>by
 rcases j with _|⟨x_,r_⟩;cases b
 cases x_<;>first|(cases b;done)|skip
 cases r_<;>first|(cases b;done)|skip
 rename_i h;let{ns,p,b}:=zH (show(Ij h).bind _=À d from b);cases c:(ns.all Įk&&decide (ţ<=1000))with
 |Ã=>rw[c]at b;cases b|Ä=>
  rw[c]at b;cases b;rw[Ď]at c;let x:=š c.2
  let g:∀n∈ns,0<=n/\n<1099511627776:=λn e=>by let:=âa c.1 n e;rw[Ď]at this;show{š this.1,š this.2}
  let{v,rfl,a,w,rfl,f,o,l}:=pR r;rw[iD p o]at f;show{a,ns,rfl,.inl f,{λn e=>?_,λk y=>?_},q _ _ _ þa rfl};let:=g n e
  constructor<;>omega;let:=s_ (ns:=ns.take k) λn e=>g n (ϩd e)
  let m:(Ŷf).length<=1000:=by rw[äa];omega
  let u:((Ŷf).length:Æ)<=1000:=by exact_mod_cast m
  constructor<;>omega
def Kk(i:Â)(F:D->D->É D)(f:FE):yZ:=λβ=>(e2 F ϳj f ĩe).bind λd=>À (.nx èh)
section
variable{X:Cx}{np:Â}{x c:Ç}{p pos ϓ:Pos}{e:Ö}{f:FE}{F:D->D->É D}
def y2u{i:Â}{m:Ŀd}{l:Jk}(s:Lo X m l)(z:tj X.K l F)(J:éa)(hi:X.N[i]?=À x)(c:qN Ϲ x)(T:np<=i)(B:SE X e f)(a:Î ũa q7) :MS X np (.AugAssign Ìe m e pos) (Kk i F f):=by let{t,L,k}:=B.h;show{{_,nK J hi c L s a,λ{P S W G H β σ Y E} R K a q=>?_}};rw[ļq];let{y,I,b}:=zH b;let n:=K.Q_;let{v,r,A}:=n.fr _ _ (GF c);show{v,r,k n I λu p C j O=>z p C x y v u d _ j.gh ìo O b λw U Z Q o=>?_};show q _ _ _ (((Śj).go Q).FQ éb.1 Ê o)
#print a
open ĺa
section
variable{P:ï}{w:æ}{K:Ô}{mg:Ç->É Value}{Ì:Heap}
def y1m{x:Ç}{st:Ü}{N:Á Ç}{k:Â}{F:FM}{b:yZ}{f:Ë}{i:Ņ}(d:Fun K ýb ýb st f i)(S:zm N [x] ŗ)(o:1<=ŕ)(y:∀ms r,F ms=À r->Ķa=1/\wy 1 ŕ b ms=À r)(g:∀ns:Á Æ,ţ<=63->(∀m∈ns,vV m<=1048576)->∃r,F űh=À (r,.fz İ))(n:∀(e:Value)(A:ù)(ĉ:Á Env)(s:Í)(H:Hp)(E:XK),yk k (ěb (êb ýb ŗ Ý f e))->jV (qO xS P w K mg Ì N ýb ŗ f e A ĉ s H E).qb 1 Ýa b):xc P w K mg Ì xS Ň f i [x] Ðk:=
 (d.v.J2 (F:=F) S o y n).imp λB H Q E h=>by let{a,ns,rfl,u,l,c,q}:=h;let{r,p}:=g ns l c;let t:ê K H Űi ϲ:={_,_,rfl,{a,_,rfl,u,įd,by rw[ã];show ÿb Ê},rfl};show x4n {H,_,Ã,.bl Ä,śa H,t,?_,λv C j _ z=>?_};exact(F (jg Űi)).bind _=_;rw[show jg Űi=űh from rfl,p];rfl;cases(show v=.bl Ä from z);show q j
#print a
#print L3
namespace L3
open ľ ś ŋ L2
def zS(K:Ô)(x:Ç)(st:Ü):È:=
 ∃(f:Ë) (od an:É Ë) (sl:Ú ϩa) (oc kV dc pm cd ct:Value),ϙ K Ę x=À ŕa/\Àa f=MV x st oc od sl kV dc pm an cd ct/\ťb K cd x=Ä/\Üa K Ī=Ä
section
variable{K:Ô}{mg:Ç->É Value}{h:Heap}{x p0 p1 p2 p3 p4:Ç}{st:Ü}{ps:Á Ç}
def fnp_mk{f:Ë}{i j:É Ë}{e:Ú ϩa}{h kV g d b ct:Value}(a:ϙ K Ę x=À ŕa)(l:Àa f=MV x st h i e kV g d j b ct)(c:ťb K b x=Ä)(k:Üa K Ī=Ä):zS K x st:={_,_,_,_,_,_,_,_,_,_,a,l,c,k}
def zS.d(a:zS K x st)(X:Ŷ h)(G:ėa Ę mg)(b:∀(kV g i:Value)(j:É Ë)(e ct:Value)(us:Á Value),èa=ģ->âg (Ϩc x x ŝd Ýa ŗ .none kV g i j e ct) {us,[]}=pure þc):Def K mg x st ps:=by let{f,q,j,n,p,kV,o,i,m,ct,a,l,c,k}:=a;let F:=fR (st:=st) l c k;show{_,_,F,Ác X G a,F.binds b}
abbrev BA(x:Ç)(st:Ü)(us:Á Value)(ps:Á Ç):È:=∀(kV doc pm:Value)(an:É Ë)(cdv ct:Value),âg (Ϩc x x ŝd Ýa ŗ .none kV doc pm an cdv ct) {us,[]}=pure þc
def zS.d0(a:zS K x st)(X:Ŷ h)(G:ėa Ę mg)(b:Î (BA x st [] []) q15):Def K mg x st []:=a.d X G λ_ _ _ _ _ _=>z0n (b _ _ _ _ _ _)
def zS.d1(a:zS K x st)(X:Ŷ h)(G:ėa Ę mg)(b:Î (∀u,BA x st [u] [p0]) q15):Def K mg x st [p0]:=a.d X G λ_ _ _ _ _ _=>us1 λu=>b u _ _ _ _ _ _
def zS.d2(a:zS K x st)(X:Ŷ h)(G:ėa Ę mg)(b:Î (∀u v,BA x st [u,v] ře) q15):Def K mg x st ře:=a.d X G λ_ _ _ _ _ _=>us2 λu v=>b u v _ _ _ _ _ _
def zS.d3(a:zS K x st)(X:Ŷ h)(G:ėa Ę mg)(b:Î (∀u v y,BA x st [u,v,y] ϓo) q15):Def K mg x st ϓo:=a.d X G λ_ _ _ _ _ _=>us3 λu v y=>b u v y _ _ _ _ _ _
def zS.d4(a:zS K x st)(X:Ŷ h)(G:ėa Ę mg)(b:Î (∀u v y z,BA x st [u,v,y,z] ée) q15):Def K mg x st ée:=a.d X G λ_ _ _ _ _ _=>us4 λu v y z=>b u v y z _ _ _ _ _ _
def zS.d5(a:zS K x st)(X:Ŷ h)(G:ėa Ę mg)(b:Î (∀u v y z q,BA x st [u,v,y,z,q] ϐm) q15):Def K mg x st ϐm:=a.d X G λ_ _ _ _ _ _=>us5 λu v y z q=>b u v y z q _ _ _ _ _ _
def _root_.L2.Def.oS(d:Def K mg x st ps)(P:ï)(w:æ)(a:Heap)(k:Â)(F:Á D->É å)(S:zm N ps ŗ)(h:∀ds r,F ds=À r->ü=ģ/\yL ŕ b ds=À r)(e:∀{f:Ë}{c:Value}{A:ù}{ĉ:Á Env}{s:Í}{H:Hp}{E:XK},yk k áh->tq (ņk).qb Ýa b)(g:Î ϑf q10):wu P w K mg a x ps Ň ńe:=Def.z2t d S g h λ_ _ _ _ _ _ _ i=>e i
def _root_.L2.Def.oM(d:Def K mg x st ps)(P:ï)(w:æ)(a:Heap)(k:Â)(F:FM)(S:zm N ps ŗ)(h:∀ms r,F ms=À r->Ķa=ģ/\wy ģ ŕ b ms=À r)(e:∀{f:Ë}{c:Value}{A:ù}{ĉ:Á Env}{s:Í}{H:Hp}{E:XK},yk k áh->jV (ņk).qb ģ Ýa b)(g:Î ϑf q10):wu P w K mg a x ps Ň ïg:=Def.J2 d S g h λ_ _ _ _ _ _ _ i=>e i
def vo.oM(d:vo K x q st f fd)(P:ï)(w:æ)(mg:Ç->É Value)(a:Heap)(k:Â)(F:FM)(S:zm N ps ŗ)(h:∀ms r,F ms=À r->Ķa=ģ/\wy ģ ŕ b ms=À r)(e:∀{c:Value}{A:ù}{ĉ:Á Env}{s:Í}{H:Hp}{E:XK},yk k ăl->jV (Ňk).qb ģ Ýa b)(g:Î ϑf q10):xc P w K mg a xS Ň f fd ps ïg:=d.J2 S g h λ_ _ _ _ _ _ i=>e i
def vo.oF(d:vo K x q st f fd)(P:ï)(w:æ)(mg:Ç->É Value)(a:Heap)(k:Â)(F:Á D->É å)(S:zm N ps ŗ)(h:∀ds r,F ds=À r->ü=ģ/\yL ŕ b ds=À r)(e:∀{c:Value}{A:ù}{ĉ:Á Env}{s:Í}{H:Hp}{E:XK},yk k ăl->tq (Ňk).qb Ýa b)(g:Î ϑf q10):xc P w K mg a xS Ň f fd ps ńe:=d.z2s S g h λ_ _ _ _ _ _ i=>e i
#print a
#print L3
namespace L2
open ľ ś ĺa ŋ
nonrec def wg(p:ß):Æ:=numOf p.1
def yd(p q:ß):È:=wg p<=wg q
def U6(p:ß):È:=∃n t,p.1=.int n t
def uQ(x:Ú ß):È:=∀(i:Â) p,x[i]?=À p->U6 p
nonrec def VR:Ð->ß->Ú ß->Â->Â->Â->Ş ā Sem ϖ:=sortPriv% PySem.Builtin.gallop
nonrec def lN:Ú ß->Ú ß->Ş ā Sem Čc:=sortPriv% PySem.Builtin.mergeLo
nonrec def lM:Ú ß->Ú ß->Ş ā Sem Čc:=sortPriv% PySem.Builtin.mergeHi
section
variable{ă:ï}{w:æ}{A:ù}{E:Value->Í->È}{s:Í}
def uS{x:Ú ß}{i:Â}{p:ß}{st:ā}{Q}(h:x[i]?=À p)(q:Q p st):wpS è A E s (ĕa x i) Q st:=by rw[elem'_eq,h];show û q
def ϻc{p q:ß}{st:ā}{Q:É Ð->ā->È}(hk:ňg st=ıe)(d:U6 p)(c:U6 q)(h:Q (À (decide (wg p<wg q))) st):wpS è A E s (lt' p q) Q st:=by obtain⟨⟨a,t,e⟩,⟨b,u,f⟩⟩:=é d c;rw[lt'_eq];show í ŀe;unfold wg at h;rw[hk,keyLt'_oneType,e,f];rw[e,f]at h;show í (Śl (ûf (oneLt_int {rfl,û h})))
def Rs(B:Â->Ð)(n hi:Â):È:=hi<=n/\(∀i,i<hi->B i=Ä)/\∀i,hi<=i->i<n->B i=Ã
nonrec def gQ(left:Ð)(k:Æ)(f:Â->Æ)(i:Â):Ð:=if left then decide (f i<k)else !decide (k<f i)
def w0d{left:Ð}{a x:ß}{st:ā}{Q:É Ð->ā->È}(hk:ňg st=ıe)(c:U6 a)(b:U6 x)(h:Q (À (gQ left (wg a) (λ_=>wg x) 0)) st) :wpS è A E s (if left=Ä then lt' x a else do let y <-lt' a x;pure ĥl) Q st:=by
 cases left with
 |Ä=>show ϻc hk b c h|Ã=>show í (ϻc hk c b (û h))
def DA{β:Type}{n:Â}{c:β}{f:Â->β->Ş ā Sem (áb β)}{st:ā}{Q R:β->ā->È}(I:Â->β->È)(h:I 0 c)(e:∀i c,i<n->I i c->wpS è A E s (f i c) (λr st'=>match r with|.done c'=>Q c' st'|.yield c'=>st'=st/\I î c') st)(b:∀c,I n c->Q c st)(d:∀c st',Q c st'->R c st'):wpS è A E s Ĕn R st:=by show ϐd (Üc (I:=λi c st'=>st'=st/\I i c) (Q:=Q) ?_ ?_ {rfl,h}) d;rintro i c _ _ a ⟨rfl,h⟩;show e i c a h;rintro c _ ⟨rfl,h⟩;rw[Ći]at h;show b c h
def z0v{B:Â->Ð}{n lo hi:Â}{st:ā}{f:Â->É ϖ×Â×Â->Ş ā Sem (áb (É ϖ×Â×Â))}{R:É ϖ×Â×Â->ā->È}(a:∀i j,i<=j->j<n->B j=Ä->B i=Ä)(F:lo<=hi)(v:hi<=n)(C:∀i,i<lo->B i=Ä)(G:∀i,hi<=i->i<n->B i=Ã)(z:∀x l r Q,r<=l->Q (.done (Å,l,r)) st->wpS è A E s Ýn Q st)(I:∀x l r Q,l<r->r<=n->(B ŷf=Ä->Q (.yield (Å,l+(r-l)/2+1,r)) st)->(B ŷf=Ã->Q (.yield (Å,l,l+(r-l)/2)) st)->wpS è A E s Ýn Q st)(q:∀m,Rs B n m->R (Å,m,m) st):wpS è A E s (ĭb [:n] (Å,lo,hi) f) R st:=by show DA (Q:=λc t=>t=st/\∃m,c=(Å,m,m)/\Rs B n m) (λx c=>∃l r,c=(Å,l,r)/\l<=r/\r<=n/\r+x<=n+l/\(∀i,i<l->B i=Ä)/\∀i,r<=i->i<n->B i=Ã) {lo,hi,rfl,F,v,Ċn v Ĩb,C,G} ?_ ?_ ?_;rintro x _ J ⟨l,r,rfl,k,b,H,d,h⟩;by_cases c:r<=l;cases ϒb k c;show z _ _ _ _ c {rfl,l,rfl,b,d,h};let u:=ϣ l ((r-l)/2);let p:=śl (Nat.div_lt_self (Ŗh õf) (ćb 1));show I _ _ _ _ õf b ?_ ?_<;>(generalize l+(r-l)/2=m at u p ⊢;intro e);show{rfl,_,r,rfl,p,b,by omega,λi o=>a i m (Ŋc o) (Ū p b) e,h};refine{rfl,l,_,rfl,u,by omega,by omega,d,λi o y=>?_};cases e2:B i;rfl;rw[a _ i o y e2]at e;cases e;rintro _ ⟨l,r,rfl,k,b,H,d,h⟩;cases ϒb k Ê;show{rfl,l,rfl,b,d,h};rintro _ _ ⟨rfl,m,rfl,g⟩;show q m g
def w0g{left:Ð}{f:ß}{x:Ú ß}{b n d:Â}{st:ā}{Q:É Â->ā->È}(hk:ňg st=ıe)(P:U6 f)(J:uQ x)(W:b+n<=Āa)(G:d<n)(S:∀i j,i<=j->j<n->K x (b+i)<=K x (b+j))(h:∀hi,Rs ϭk n hi->Q (À hi) st) :wpS è A E s (VR left f x b n d) Q st:=by
 have H:∀i Q,i<n->Q (À (gQ left Że ĝf i)) st->wpS è A E s (ĕa x (b+i) >>= λx=>if left=Ä then lt' x f else do let y <-lt' f x;pure ĥl) Q st:=by
  intro i Q hi q;rw[īq];show í (uS e (w0d hk P (J _ _ e) ?_));let e2:K x (b+i)=wg x[b+i]:=by unfold K;rw[e];rfl
  let I:gQ left Że (λ_=>wg x[b+i]) 0=gQ left Że ĝf i:=by unfold gQ;simp only[e2]
  rw[I];show q
 let k:∀i j,i<=j->j<n->gQ left Że ĝf j=Ä->gQ left Że ĝf i=Ä:=by intro i j R T;let:=S i j R T;unfold gQ;cases left;simp only[ŀb,Ďa,ŋm,decide_eq_false_iff_not];omega;simp only[ό,Ĉf];omega
 generalize ϭk=B at h H k;unfold VR;show í (H d _ G ?_);cases e:B d;show í (DA (Q:=λc F=>F=st/\∃l o,c=(Å,l,o)/\l<=d/\B (d-l)=Ã/\l<o/\∀i,i+o<=d->B i=Ä) (λx c=>∃l o,c=(Å,l,o)/\l<=d/\B (d-l)=Ã/\l<o/\x<o) {0,1,rfl,Ź _,e,Òe,Òe} ?_ ?_ ?_);rw[ķq]
 split;show û {rfl,l,o,rfl,p,t,u,λi _=>by omega};let lo:=Ðb (Nat.sub_le d o) G;show í ϔn;cases e2:B (d-o);show û {rfl,o,_,rfl,by omega,e2,by omega,by omega};show û {rfl,l,o,rfl,p,t,u,λi C=>k i _ (Nat.le_sub_of_add_le C) lo e2};rintro _ ⟨l,o,rfl,p,t,u,v⟩;show{rfl,l,o,rfl,p,t,u,λi _=>by omega};rw[ŏq];refine í (z0v (B:=B) (lo:=d+1-min o (d+1)) (hi:=d-l) k (ÿ (Âm (Ϭh {u,Ĳa p}) _) (ŋb (Nat.add_sub_add_right ..))) (óa (Ðb Ŋa G)) (λi a=>v i (by let:=Nat.add_lt_of_lt_sub a;omega)) (λi C L=>?_) Õm ĵl λm g=>û (h m g));cases e2:B i;rfl;rw[k _ i C L e2]at t;cases t;rw[Ŝq];show í (DA (Q:=λc F=>F=st/\∃l o,c=(Å,l,o)/\d+l<n/\B (d+l)=Ä/\l<o/\∀i,d+o<=i->i<n->B i=Ã) (λx c=>∃l o,c=(Å,l,o)/\d+l<n/\B (d+l)=Ä/\l<o/\x<o) {0,1,rfl,G,e,Òe,Òe} ?_ ?_ ?_);rw[ķq]
 split;rw[łq]
 replace c:=Nat.le_add_of_sub_le c
 show û {rfl,l,o,rfl,p,t,u,λi _ _=>by omega};rw[łq];let lo:=śl õf;show í ϔn;cases e2:B (d+o);show û {rfl,l,o,rfl,p,t,u,λi C L=>by cases I:B i;rfl;rw[k _ i C L I]at e2;cases e2};show û {rfl,o,_,rfl,lo,e2,by omega,by omega};rintro _ ⟨l,o,rfl,p,t,u,v⟩;show{rfl,l,o,rfl,p,t,u,λi _ _=>by omega};rw[ŏq];show í (z0v (B:=B) (lo:=d+l+1) (hi:=d+min o (n-d)) k (Nat.add_lt_add_left (Nat.lt_min.mpr {u,Nat.lt_sub_of_add_lt (Ĕd .. ▸ p)}) _) (ÿ (àc (Ϫg ..) _) (ŋb (Ùd Ũj))) (λi C=>k i (d+l) (Ŋc C) p t) (λi a b=>?_) Õm ĵl λm g=>û (h m g));rcases Ŕf o (n-d)with z|z;rw[Öb z]at a;show v i a b;rw[Ęf z,Ùd Ũj]at a;show Þ b (àe a);rw[Ŝq]
#print a
structure tD(R:ß->ß->È)(t o x y:Á ß):È where
 p:(o++ļg).Perm t
 sx:(o++x).Pairwise R
 sy:(o++y).Pairwise R
section
variable{R:ß->ß->È}{t o m x y:Á ß}
def ēg(h:tD R t o x y):tD R t o y x:={(ĉh o List.perm_append_comm).trans h.p,h.sy,h.sx}
def Ĕg(h:tD R t o (m++x) y)(c:∀p∈m,∀q∈y,R p q):tD R t (o++m) x y:=by let{p,a,b}:=h;show{?_,?_,?_};rw[Š]at p ⊢;show p;rw[Š];show a;rw[List.pairwise_append]at a b ⊢;show{?_,b.2.1,λp e q d=>?_};show Ϝd {a.1,(ϊb a.2.1).1,λp e q d=>a.2.2 p e q (żb _ d)};rcases Ÿ e with z|z;show b.2.2 p z q d;show c p z q d
def ϒj(h:tD R t o x y)(c:∀p∈x,∀q∈y,R p q):(Ůp).Perm t/\(Ůp).Pairwise R:=by let:=(Ĕg (m:=x) (x:=[]) (by rw[Œ];show h) c);show{by rw[Š];show h.p,this.sy}
#print a
def Áb{p q r:ß}(a:yd p q)(b:yd q r):yd p r:=ßb a b
section
variable{ă:ï}{w:æ}{A:ù}{E:Value->Í->È}{s:Í}
def QP{left:Ð}{a:ß}{x:Ú ß}{b n d:Â}{st:ā}{Q:É Â->ā->È}(hk:ňg st=ıe)(f:U6 a)(r:uQ x)(o:b+n<=Āa)(q:d<n){z:Á ß}(m:(ňn b).take n=z)(t:z.Pairwise yd)(h:∀k,k<=n->(∀p∈z.take k,if left then wg p<wg a else yd p a)->(∀p∈z.drop k,if left then yd a p else wg a<wg p)->Q (À k) st) :wpS è A E s (VR left a x b n d) Q st:=by
 have v:ł=n:=by rw[<-m,äa,ňa,Ĺ];omega
 let g:∀i (l:i<ł),K x (b+i)=wg z[i]:=by intro i l;subst m;rw[īq];unfold K;rw[e,Řh,Čf,Ċb];rfl
 show w0g hk f r o q (λi j y u=>?_) λk c=>h k c.1 (λp f=>?_) λp f=>?_;rw[g i Ê,g j Ê];by_cases e:i=j;subst e;show Ϧa _;show Ϙd t i j _ _ Ê;let{i,l,rfl}:=List.mem_take_iff_getElem.mp f;let:=c.2.1 i Ê;simp only[gQ,g i (show i<ł by omega)]at this;cases left;show ŏc ųl;rw[ϲp];let{i,l,rfl}:=List.mem_drop_iff_getElem.mp f;let:=c.2.2 (k+i) Ê Ê;simp only[gQ,g (k+i) Ê]at this;simp only[Ĕd k i]at this ⊢;cases left;rw[ϲp];show ŏc ųl
def jr{β:Type}(Q I:β->È):áb β->È
 |.done c=>Q c|.yield c=>I c
abbrev yR(a:Ú ß)(p:Ú Ůa)(f:É Value)(g:Â):ā:=āc ıe a p g f
def QO{β:Type}{n:Â}{c:β}{f:Â->β->Ş ā Sem (áb β)}{a p fl g}{R:β->ā->È}(I:Â->β->È)(Q:β->È)(h:I 0 c)(j:∀i c g,i<n->I i c->wpS è A E s (f i c) (λr st'=>∃g',st'=yR a p fl g'/\jr Q (I î) r) ãi)(d:∀c,I n c->Q c)(e:∀c g,Q c->R c ãi):wpS è A E s Ĕn R ãi:=by show ϐd (Üc (I:=λi c st'=>∃g,st'=yR a p fl g/\I i c) (Q:=λc st'=>∃g,st'=yR a p fl g/\Q c) ?_ ?_ {g,rfl,h}) ?_;rintro i c _ _ b ⟨g,rfl,h⟩;show ϐd (j i c g b h) ?_;rintro r _ ⟨g,rfl,h⟩;cases r<;>show{g,rfl,h};rintro c _ ⟨g,rfl,h⟩;rw[Ći]at h;show{g,rfl,d c h};rintro c _ ⟨g,rfl,h⟩;show e c g h
#print a
def wS(t:Á ß)(a b o:Ú ß)(i j:Â):È:=tD yd t öj Ĥg (òc j)
def uv(t:Á ß)(r:Ú ß):È:=r.toList.Perm t/\r.toList.Pairwise yd
section
variable{t:Á ß}{a b o:Ú ß}{i j k:Â}{p:ß}
def GD(h:a[i]?=À p):Õb i=p::Õb î:=by let{b,rfl}:=Ïd h;rw[ϋb ëm,Ċb]
theorem wS.swap(h:wS t a b o i j):wS t b a o j i:=ēg h
def wS.pa(h:wS t a b o i j)(e:a[i]?=À p)(c:∀q∈òc j,yd p q):wS t a b ĺd î j:=by unfold wS at h ⊢;rw[GD e]at h;rw[Åe];show Ĕg (m:=[p]) h λq d=>Ĵ d▸c
def wS.pb(h:wS t a b o i j)(e:b[j]?=À p)(c:∀q∈Õb i,yd p q):wS t a b ĺd i ϭ:=(Ün).swap
def wS.ca(h:wS t a b o i j)(c:∀p∈(Ĥg).take k,∀q∈òc j,yd p q):wS t a b ğf Ϸc j:=by unfold wS at h ⊢;rw[<-ϛa k Ĥg,Ϯh]at h;rw[âc,Ϫd,ϛd,íh];show h.move c
def wS.cb(h:wS t a b o i j)(c:∀p∈(òc j).take k,∀q∈Õb i,yd p q):wS t a b (o++ãb j (j+k)) i (j+k):=(óp c).swap
theorem wS.fin(h:wS t a b o i j)(c:∀p∈Õb i,∀q∈òc j,yd p q):uv t (o++Ŋb i Ŏ++ãb j Ϙ):=by
 let e:∀(x:Ú ß) k,(ðd k Āa).toList=ňn k:=λx k=>by rw[Ϫd,ϛd];show Þc (by rw[ňa,Ĺ];show ĺ _)
 unfold uv;rw[âc,âc,e,e];show ϒj h c
def wS.hd(h:wS t a b o i j)(e:a[i]?=À p):∀q∈Õb i,yd p q:=by unfold wS at h;let:=(ϊb h.sx).2.1;rw[GD e]at this ⊢;intro q c;rcases ĩ c with rfl|c;show Ϧa _;show(Ϧd this).1 q c
def wS.sa(h:wS t a b o i j):(Ĥg).Pairwise yd:=Ÿk.2.1
def m7(h:i=Ŏ){P:ß->È}:∀p∈Õb i,P p:=by rw[Úd Áe];intro p b;cases b
def Į(h:Ϙ-i=k):(òc i).take k=òc i:=Þc (by rw[ňa,Ĺ];omega)
#print a
abbrev sJ:=É Čc×Ú ß×Â×Â×Â
abbrev Bk:=É Čc×Ú ß×Â×Â×Â×Â
abbrev W7:=É Čc×Ú ß×Â×Â×Â×Â×Â
structure U7(t:Á ß)(a b:Ú ß)(x:Â)(o:Ú ß)(i j:Â):È where
 l:wS t a b o i j
 p:i+1<Ŏ
 q:j<Ϙ
 s:x<i+j
section
variable(t:Á ß)(a b:Ú ß)(x:Â)
inductive Bp:sJ->È
 |mk {o i j m}:U7 t a b x o i j->Bp (Å,o,i,j,m)
inductive Oo:Bk->È
 |mk {o i j m n}:U7 t a b x o i j->Oo (Å,o,i,j,m,n)
inductive W9:Bk->È
 |fin {r c}:uv t r->W9 (À r,c)
 |go {o i j m n}:U7 t a b x o i j->W9 (Å,o,i,j,m,n)
inductive Q9:W7->È
 |mk {o i j m n q}:U7 t a b x o i j->Q9 (Å,o,i,j,m,n,q)
inductive gR:W7->È
 |fin {r c}:uv t r->gR (À r,c)
 |go {o i j m n q}:U7 t a b x o i j->gR (Å,o,i,j,m,n,q)
#print a
def Yg{a b:Â}(h:a<=b)(c:¬όe=Ä):a<b:=ąm h λe=>c (ϓb e)
def Xu{a:Â}(c:¬(a==0)=Ä):∃n,a=n+1:=Nat.exists_eq_succ_of_ne_zero λe=>c (ϓb e)
nonrec def Bn(r:É Â)(f:Â->Ş ā Sem β)(g:Ş ā Sem β):Ş ā Sem β:=(sortPriv% PySem.Builtin.mergeLo.match_1) éf r f λ_=>g
section
variable(a b:Ú ß)
nonrec def Ys(o:Ú ß)(i j:Â):Ú ß:=o++Ŋb i Ŏ++ãb j Ϙ
nonrec def Bj(o:Ú ß)(i j:Â):Ú ß:=o++ãb j Ϙ++Ŋb i Ŏ
def S0(o:Ú ß)(i j g k m:Â):Ş ā Sem ég:=do
 let p <-ĕa a i
 if ßo=Ä then pure (.done (À ım,ϐ p,i+1,j,g,k,m))
 else if(decide (k<7)&&decide (m<7))=Ä then pure (.done (Å,ϐ p,i+1,j,g,k,m))else pure (.yield (Å,ϐ p,i+1,j,g,k,m))
def R_(o:Ú ß)(i j g k u:Â):Ş ā Sem ég:=do
 let q <-ĕa b j
 if Ϲo=Ä then pure Ēk
 else do
  let p <-ĕa a i
  let r <-VR Ä p b ϭ (Ϙ-ϭ) 0
  Bn r (λm=>
   if m>0 then
    if(j+1+m==Ϙ)=Ä then pure (.done (À (Ys a b ĝl i Źj),ϐ q++ãb ϭ Źj,i,j+1+m,g,k,m))
    else S0 a b ĝl i Źj g k m
   else S0 a b ģg i ϭ g k m) (pure Ēk)
def Rz(o:Ú ß)(i j n u g:Â):Ş ā Sem ég:=do
 Ϥc λs=>āc Ÿc ώc Ģc g Ũc
 let q <-ĕa b j
 let r <-VR Ã q a i (Ŏ-i) 0
 Bn r (λk=>
  if k>0 then
   if(i+k+1==Ŏ)=Ä then pure (Θd (Bj a b ğf Ϸc j) Ϸc)
   else if(i+k==Ŏ)=Ä then pure (Θd (Ys a b ğf Ϸc j) Ϸc)
   else R_ a b ğf Ϸc j g k u
  else R_ a b o i j g k u) (pure (.done (À Ķf,o,i,j,g,n,u)))
nonrec def On(r:É α)(f:α->Ş ā Sem β)(g:Ş ā Sem β):Ş ā Sem β:=Break.runK.match_1 éf r f λ_=>g
nonrec def sM(r:É Ð)(f:Ð->Ş ā Sem β)(g:Ş ā Sem β):Ş ā Sem β:=(sortPriv% PySem.Builtin.countRun.match_1) éf r f λ_=>g
def sP(o:Ú ß)(i j g m n:Â):Ş ā Sem (áb Bk):=do
 let q <-ĕa b j
 let p <-ĕa a i
 let r <-lt' q p
 sM r (λt=>
  if t=Ä then do
   let q <-ĕa b j
   if Ϲo=Ä then pure (.done (À (Ys a b ģg i ϭ),ϐ q,i,j+1,0,n+1))
   else if n+1≥g then pure (.done (Å,ϐ q,i,j+1,0,n+1))else pure (.yield (Å,ϐ q,i,j+1,0,n+1))
  else do
   let p <-ĕa a i
   if ßo=Ä then pure (.done (À ım,ϐ p,i+1,j,m+1,0))
   else if m+1≥g then pure (.done (Å,ϐ p,i+1,j,m+1,0))else pure (.yield (Å,ϐ p,i+1,j,m+1,0))) (pure (.done (À Ķf,o,i,j,m,n)))
def x4s(x:W7):Ş ā Sem ég:=if x.2.2.2.2.1>1 then Rz a b x.2.1 x.2.2.1 x.2.2.2.1 x.2.2.2.2.2.1 x.2.2.2.2.2.2 (x.2.2.2.2.1-1)else Rz a b x.2.1 x.2.2.1 x.2.2.2.1 x.2.2.2.2.2.1 x.2.2.2.2.2.2 x.2.2.2.2.1
def x4t(o:Ú ß)(i j g:Â):Ş ā Sem (áb sJ):=do
 let d <-ĭb [:Ŏ+Ϙ] ((Å,o,i,j,0,0):Bk) λ_ d=>sP a b d.2.1 d.2.2.1 d.2.2.2.1 g d.2.2.2.2.1 d.2.2.2.2.2
 On d.1 Ėk do
  liftM Ċl
  let e <-ĭb [:Ŏ+Ϙ] ((Å,d.2.1,d.2.2.1,d.2.2.2.1,g+1,d.2.2.2.2.1,d.2.2.2.2.2):W7) λ_ e=>x4s a b e
  On e.1 āk do
   Ϥc λs=>āc Ÿc ώc Ģc ên Ũc
   pure Ěk
#print a
def Xg(x:Ú ß)(i:Â)(h:i<Āa):∃p,x[i]?=À p:={_,getElem?_pos x i h}
section
variable{t:Á ß}{a b:Ú ß}(hl:∀q∈Ĺe,∀p∈Õb Ģg,yd q p)
include hl in
theorem wS.lst{o i j}(l:wS t a b o i j)(e:i+1=Ŏ):uv t (Bj a b o i j):=ŷo λq d p c=>hl q (List.drop_subset _ _ d) p (by rw[show Ŏ-1=i by omega];show c)
def wS.da{o i j}(l:wS t a b o i j)(e:i=Ŏ):uv t Ķf:=Ŧg (m7 e)
def wS.db{o i j}(l:wS t a b o i j)(e:j=Ϙ):uv t Ķf:=Ŧg λp c=>m7 e
#print a
section
variable{ă:ï}{w:æ}{A:ù}{E:Value->Í->È}{s:Í}
def xt{α:Type}{c:È}[Ěe c]{m n:Ş ā Sem α}{Q:α->ā->È}{st:ā}(a:c->wpS è A E s m Q st)(b:¬c->wpS è A E s n Q st):wpS è A E s (if c then m else n) Q st:=by by_cases h:c;rw[Ï h];show a h;rw[Ñ h];show b h
section
variable{t:Á ß}{a b:Ú ß}(ha:uQ a)(hb:uQ b)(hl:∀q∈Ĺe,∀p∈Õb Ģg,yd q p){a0:Ú ß}{p0:Ú Ůa}{f0:É Value}{x y g m k u:Â}{o:Ú ß}{i j:Â}{p q:ß}
include hl in
theorem z11(l:wS t a b o i j)(ep:a[i]?=À p)(c:∀r∈òc j,yd p r)(e:i+1<Ŏ)(d:j<Ϙ)(h:x<=i+j)(f:y<=x):wpS è A E s (S0 a b o i j g k m) (η (gR t a b y) (Q9 t a b x)) îc:=by
 replace l:=l.pa ep c
 show í (uS ep (Αa (ιb Ĭn)))
 replace c:=Yg e c
 show xt (λ_=>û {g,rfl,gR.go {l,c,d,by omega}}) λ_=>û {g,rfl,Q9.mk {l,c,d,by omega}}
include ha hb hl in
theorem z10(l:wS t a b o i j)(h:b[j]?=À q)(c:∀r∈Õb i,yd q r)(f:i+1<Ŏ)(B:x<i+j+1)(e:y<=x):wpS è A E s (R_ a b o i j g k u) Źk îc:=by
 let C:=(Ïd h).1
 replace l:=l.pb h c
 show í (uS h (Αa (ιb (l.db Ñb))))
 replace c:=Yg C c
 replace e:=ŉc e
 let{p,d}:=Xg a i (çc f);show í (uS d (í (QP rfl (ha _ _ d) hb Ín (Ŗh c) Ňp ïp λm n e1 e2=>?_)));rw[Ϯh]at e2
 replace n:j+1+m<=Ϙ:=Ĕd .. ▸ ύl ŏd n
 show xt ϋc λz=>?_;let v:=l.cb λp G r F=>Áb (õa (e1 p G)) (l.hd d r F)
 refine xt (ιb ϯo) λc=>z11 hl v d e2 f (Yg n c) Ê e;cases ϸg z;show z11 hl l d e2 f c B e
include ha hb hl in
theorem z0z(l:wS t a b o i j)(B:i+1<Ŏ)(C:j<Ϙ)(I:x<i+j)(z:y<=x){n K:Â}:wpS è A E s (Rz a b o i j n u g) Źk (yR a0 p0 f0 K):=by
 let{q,e}:=Xg b j C;let v:=çc B;show í (Τc (uS e (í (QP rfl Ϻo ha (ŋb (Ùd (óa v))) (Ŗh v) Ňp l.sa λk h H d=>?_))));rw[Ϯh]at d
 replace d:=λp f=>õa (d p f)
 replace h:i+k<=Ŏ:=Ĕd .. ▸ ύl (óa v) h
 show xt ϋc λc=>?_;let m:=l.ca λp f r F=>Áb (H p f) (Ϯf e r F)
 refine xt (Χd (m.lst hl Ñb)) λJ=>xt (Χd (m.da Ñb)) λG=>z10 ha hb hl m e d (Yg (Yg h G) J) Ê z;cases ϸg c;show z10 ha hb hl l e d B (Ŀb I) z
include ha hb hl in
theorem w0j(l:U7 t a b x o i j)(B:y<=x+1){n:Â}:wpS è A E s (sP a b o i j g m n) (η (W9 t a b y) (Oo t a b āb)) Īf:=by
 let{l,h,k,z}:=l;let{p,f}:=Xg a i (çc h);let{q,e}:=Xg b j k;show í (uS e (í (uS f (í (ϻc rfl Ϻo (ha _ _ f) ?_)))));by_cases c:wg q<wg p;rw[ú c];let d:=l.pb e λr v=>Áb (õa c) (l.hd f r v)
 show í (uS e (Εd (d.db Ñb)))
 replace c:=Yg k c
 show xt (λ_=>û {_,rfl,W9.go {d,h,c,by omega}}) λ_=>û {_,rfl,Oo.mk {d,h,c,Žm z}};rw[ď c];let d:=l.pa f λr v=>Áb Ťj (Ϯf e r v)
 show í (uS f (Εd (d.lst hl Ñb)))
 replace c:=Yg h c
 show xt (λ_=>û {_,rfl,W9.go {d,c,k,by omega}}) λ_=>û {_,rfl,Oo.mk {d,c,k,by omega}}
include ha hb hl in
theorem w0k(l:U7 t a b x o i j):wpS è A E s (x4t a b o i j g) (η Èf (Bp t a b āb)) Īf:=by show í (Ηb (λz=>Oo t a b (x+z)) (W9 t a b āb));rintro z _ g m ⟨l⟩;show w0j ha hb hl l Ðn;rintro _ ⟨_,d,e,h⟩;rw[ϧp];show í (Ρa (Ηb (λz=>Q9 t a b (x+1+z)) (gR t a b āb)));rintro z _ g m ⟨l,d,e,h⟩;let k:=ϣ āb z;show xt (λ_=>z0z ha hb hl l d e h k) λ_=>z0z ha hb hl l d e h k;rintro _ ⟨_,d,e,h⟩;rw[ϧp];show í (Εa (û {_,rfl,Bp.mk l}))
#print a
def w0n{a b:Ú ß}{a0 p0 f0 g}{t:Á ß}{Q:Ú ß->ā->È}(v:uQ a)(k:uQ b)(u:0<Ŏ){y:ß}(j:b[0]?=À y)(d:wS t a b #[y] 0 1)(i:∀q∈Ĺe,∀p∈Õb Ģg,yd q p)(h:∀r g,uv t r->Q r îc):wpS è A E s (lN a b) Q îc:=by let m:0<Ϙ:=(Ïd j).1;unfold lN;show í (Ρa (uS j (xt (νb (d.db (ϝb c))) λo=>xt ĳl λn=>?_)));show í (Υc (QO (λx=>Bp t a b x) Èf {d,Yg u n,Yg m o,Nat.one_pos} ?_ ?_ ?_));rintro x _ g F ⟨l⟩;show w0k v k i l;rintro _ ⟨_,C,z,B⟩;rw[ăq]
#print a
def wZ(t:Á ß)(a b o:Ú ß)(i j:Â):È:=tD (λp q=>yd q p) t öj (ŝe).reverse (ťj).reverse
section
variable{t:Á ß}{a b o:Ú ß}{i j k:Â}{p:ß}
def SL(h:a[i]?=À p):ľb î=ľb i++[p]:=by let{b,rfl}:=Ïd h;rw[ĸc ëm,Ċb]
theorem wZ.swap(h:wZ t a b o i j):wZ t b a o j i:=ēg h
def wZ.pa(h:wZ t a b o î j)(e:a[i]?=À p)(c:∀q∈ϑb j,yd q p):wZ t a b ĺd i j:=by unfold wZ at h ⊢;rw[SL e,ġh]at h;rw[Åe];show Ĕg (m:=[p]) h λq f r d=>Ĵ f▸c r Ţj
def wZ.pb(h:wZ t a b o i ϭ)(e:b[j]?=À p)(c:∀q∈ľb i,yd q p):wZ t a b ĺd i j:=(Ün).swap
def wZ.ca(h:wZ t a b o i j)(hk:k<=i)(c:∀p∈(ŝe).drop k,∀q∈ϑb j,yd q p):wZ t a b ÿh k j:=by unfold wZ at h ⊢;rw[<-ϛa k ŝe,ġh,ϭh,Öb hk]at h;rw[âc,ϒl,Ϫd,ϛd,<-List.drop_take];show h.move λp e r d=>c p (Ϭg e) r Ţj
def wZ.cb(h:wZ t a b o i j)(hk:k<=j)(c:∀p∈(ťj).drop k,∀q∈ľb i,yd q p):wZ t a b (o++(ãb k j).reverse) i k:=(óp hk c).swap
theorem wZ.fin(h:wZ t a b o i j)(c:∀p∈ľb i,∀q∈ϑb j,yd p q):uv t (Ŋb 0 i++ãb 0 j++ϝi):=by
 let e:∀(x:Ú ß) k,(ðd 0 k).toList=x.toList.take k:=λx k=>by rw[Ϫd,ϛd];rfl
 let:=ϒj (ēg h) λq g p d=>c p Ţj q (Ϭg g)
 unfold uv;rw[âc,âc,e,e,ϒl]
 let f:(öj++(ťj).reverse++(ŝe).reverse).reverse=ľb i++ϑb j++o.toList.reverse:=by simp only[ġh,List.reverse_reverse,Š]
 rw[<-f];show{(ŗh _).trans this.1,Üh this.2}
def wZ.sa(h:wZ t a b o i j):(ŝe).Pairwise yd:=List.pairwise_reverse.mp Ÿk.2.1
def wZ.hd(h:wZ t a b o î j)(e:a[i]?=À p):∀q∈ľb î,yd q p:=by let:=h.sa;rw[SL e]at this ⊢;intro q c;rcases Ÿ c with c|c;show(ϊb this).2.2 q c p Ġ;rw[Ĵ c];show Ϧa _
def lh(h:i=0){P:ß->È}:∀p∈ľb i,P p:=by subst h;intro p b;cases b
#print a
abbrev Q8:=É Čc×Â×Â×Ú ß×Â×Â×Â
abbrev sK:=É Čc×Â×Â×Ú ß×Â
abbrev Bl:=É Čc×Â×Â×Ú ß×Â×Â
structure WA(t:Á ß)(a b:Ú ß)(x:Â)(o:Ú ß)(i j:Â):È where
 l:wZ t a b o î ſd
 p:i<Ŏ
 q:j+1<Ϙ
 s:x+i+j+3<Ŏ+Ϙ
section
variable(t:Á ß)(a b:Ú ß)(x:Â)
inductive Bq:sK->È
 |mk {o i j m}:WA t a b x o i j->Bq (Å,i+1,j+2,o,m)
inductive Op:Bl->È
 |mk {o i j m n}:WA t a b x o i j->Op (Å,i+1,j+2,o,m,n)
inductive WB:Bl->È
 |fin {r c}:uv t r->WB (À r,c)
 |go {o i j m n}:WA t a b x o i j->WB (Å,i+1,j+2,o,m,n)
inductive QB:Q8->È
 |mk {o i j m n q}:WA t a b x o i j->QB (Å,i+1,j+2,o,m,n,q)
inductive gT:Q8->È
 |fin {r c}:uv t r->gT (À r,c)
 |go {o i j m n q}:WA t a b x o i j->gT (Å,i+1,j+2,o,m,n,q)
#print a
section
variable(a b:Ú ß)
nonrec def Yt(o:Ú ß)(i j:Â):Ú ß:=Ŋb 0 i++ãb 0 j++ϝi
nonrec def Bo(o:Ú ß)(i j:Â):Ú ß:=ãb 0 j++Ŋb 0 i++ϝi
def Ry(o:Ú ß)(i j g k m:Â):Ş ā Sem Ċj:=do
 let p <-ĕa a ϣe
 if(i-1==0)=Ä then pure (.done (À Ϫl,i-1,j,ϐ p,g,k,m))
 else if(decide (k<7)&&decide (m<7))=Ä then pure (.done (Å,i-1,j,ϐ p,g,k,m))else pure (.yield (Å,i-1,j,ϐ p,g,k,m))
def Rx(o:Ú ß)(i j g k u:Â):Ş ā Sem Ċj:=do
 let q <-ĕa b Èb
 if(j-1==1)=Ä then pure (Ζd ől)
 else do
  let p <-ĕa a ϣe
  let r <-VR Ä p b 0 Èb (j-1-1)
  Bn r (λm=>
   if j-1-m>0 then
    if(m==1)=Ä then pure (χc (Bo a b Áh i m) Ŀo)
    else if(m==0)=Ä then pure (χc (Yt a b Áh i m) Ŀo)
    else Ry a b Áh i m g k (j-1-m)
   else Ry a b ģg i Èb g k (j-1-m)) (pure (Ζd (Yt a b ģg i Èb)))
def Rw(o:Ú ß)(i j n u g:Â):Ş ā Sem Ċj:=do
 Ϥc λs=>āc Ÿc ώc Ģc g Ũc
 let q <-ĕa b Èb
 let r <-VR Ã q a 0 i ϣe
 Bn r (λk=>
  if i-k>0 then
   if(k==0)=Ä then pure (.done (À (Yt a b ÿh k j),k,j,o++(Ŋb k i).reverse,g,i-k,u))
   else Rx a b ÿh k j g (i-k) u
  else Rx a b o i j g (i-k) u) (pure (.done (À ĵf,i,j,o,g,n,u)))
def sO(o:Ú ß)(i j g m n:Â):Ş ā Sem (áb Bl):=do
 let q <-ĕa b Èb
 let p <-ĕa a ϣe
 let r <-lt' q p
 sM r (λt=>
  if t=Ä then do
   let p <-ĕa a ϣe
   if(i-1==0)=Ä then pure (.done (À Ϫl,i-1,j,ϐ p,m+1,0))
   else if m+1≥g then pure (.done (Å,i-1,j,ϐ p,m+1,0))else pure (.yield (Å,i-1,j,ϐ p,m+1,0))
  else do
   let q <-ĕa b Èb
   if(j-1==1)=Ä then pure (.done (À ől,i,j-1,ϐ q,0,n+1))
   else if n+1≥g then pure (.done (Å,i,j-1,ϐ q,0,n+1))else pure (.yield (Å,i,j-1,ϐ q,0,n+1))) (pure (.done (À ĵf,i,j,o,m,n)))
def x4r(o:Ú ß)(i j g:Â):Ş ā Sem (áb sK):=do
 let d <-ĭb [:Ŏ+Ϙ] ((Å,i,j,o,0,0):Bl) λ_ d=>sO a b d.2.2.2.1 d.2.1 d.2.2.1 g d.2.2.2.2.1 d.2.2.2.2.2
 On d.1 Ėk do
  liftM Ċl
  let e <-ĭb [:Ŏ+Ϙ] ((Å,d.2.1,d.2.2.1,d.2.2.2.1,g+1,d.2.2.2.2.1,d.2.2.2.2.2):Q8) λ_ e=>if e.2.2.2.2.1>1 then Rw a b e.2.2.2.1 e.2.1 e.2.2.1 e.2.2.2.2.2.1 e.2.2.2.2.2.2 (e.2.2.2.2.1-1)else Rw a b e.2.2.2.1 e.2.1 e.2.2.1 e.2.2.2.2.2.1 e.2.2.2.2.2.2 e.2.2.2.2.1
  On e.1 āk do
   Ϥc λs=>āc Ÿc ώc Ģc ên Ũc
   pure Ěk
#print a
section
variable{ă:ï}{w:æ}{A:ù}{E:Value->Í->È}{s:Í}
section
variable{t:Á ß}{a b:Ú ß}(ha:uQ a)(hb:uQ b)(hl:∀q∈Āj,∀p∈ϑb 1,yd p q){a0:Ú ß}{p0:Ú Ůa}{f0:É Value}{x y g m k u:Â}{o:Ú ß}{i j:Â}{p:ß}
include hl in
theorem wZ.lst(l:wZ t a b o i j)(e:j=1):uv t (Bo a b o i j):=ŷo λq d p c=>hl p (List.take_subset _ _ c) q (e▸d)
def wZ.da(l:wZ t a b o i j)(e:i=0):uv t ĵf:=Ŧg (lh e)
def wZ.db(l:wZ t a b o i j)(e:j=0):uv t ĵf:=Ŧg λp c=>lh e
def z0y(l:wZ t a b o î j)(ep:a[i]?=À p)(c:∀r∈ϑb j,yd r p)(f:2<=j)(e:j<=Ϙ)(q:x+i+j<Ŏ+Ϙ)(h:y<=x):wpS è A E s (Ry a b o î j g k m) Ϧk îc:=by
 let d:=(Ïd ep).1
 replace l:=l.pa ep c
 show í (uS ep (Αa (Βb (l.da Ñb))));let{i,rfl}:=Xu c;obtain⟨j,rfl⟩:∃n,j=n+2:={j-2,(êd f).symm};show xt (λ_=>û {g,rfl,gT.go {l,çc d,e,by omega}}) λ_=>û {g,rfl,QB.mk {l,çc d,e,by omega}}
include ha hb hl in
theorem z0x(l:wZ t a b o î ſd)(B:b[j+1]?=À q)(c:∀r∈ľb î,yd r q)(H:i<Ŏ)(J:x+i+j+1<Ŏ+Ϙ)(C:y<=x):wpS è A E s (Rx a b o î ſd g k u) Ϧk îc:=by
 let f:=(Ïd B).1
 replace l:=l.pb B c
 show í (uS B (Αa (Βb Ĭn)));let{j,rfl}:=Xu (a:=j) λe=>c Ňh
 let{p,h}:=Xg a i H
 replace f:=óa f
 show í (uS h (í (QP rfl (ha _ _ h) hb (show 0+(j+1+1)<=Ϙ from(ũj).symm▸f) ϝc (z:=ϑb (j+1+1)) rfl ïp λm d e1 e2=>?_)))
 replace d:m<=j+1+1:=d
 rw[ϭh,Öb d]at e1
 replace e1:=λp n=>õa (e1 p n)
 show xt ϋc λc=>?_;let v:=l.cb d λp n r G=>Áb (l.hd h r G) (e2 p n)
 show xt (Βb (v.lst hl Ñb)) λI=>xt (Βb ϯo) λF=>by
  let{m,rfl}:=Xu F;let{m,rfl}:=Xu (a:=m) λe=>I Ňh
  show z0y v h e1 Ϭl (ÿ d f) Ê C
 cases ϒb d ϰk;show z0y l h e1 Ϭl f Ê C
include ha hb hl in
theorem z0w(l:WA t a b x o i j)(e:y<=x){n H:Â}:wpS è A E s (Rw a b o î ſd n u g) (η (gT t a b y) (QB t a b āb)) (yR a0 p0 f0 H):=by
 let{l,m,C,I}:=l;let{q,d}:=Xg b ϭ C
 replace e:=ŉc e
 show í (Τc (uS d (í (QP rfl (hb _ _ d) ha (show 0+î<=a.size from(ũj).symm▸m) ϝc (z:=a.toList.take î) rfl l.sa λk f h F=>?_))));rw[ϭh,Öb f]at h;show xt ϋc λc=>?_;let v:=l.ca f λp G r B=>Áb (Ϯf d r B) (õa (F p G))
 show xt (λc=>û {_,rfl,gT.fin (v.da Ñb)}) λc=>?_
 let{k,rfl}:=Xu c;show z0x ha hb hl v d h (ÿ f m) Ê e;cases ϒb f ϰk;show z0x ha hb hl l d h m Ê e
include ha hb hl in
theorem w0h(l:WA t a b x o i j)(B:y<=x+1){n:Â}:wpS è A E s (sO a b o î ſd g m n) (η (WB t a b y) (Op t a b āb)) Īf:=by
 let{l,h,d,C}:=l;let{p,k}:=Xg a i h;let{q,v}:=Xg b ϭ d;show í (uS v (í (uS k (í (ϻc rfl (hb _ _ v) (ha _ _ k) ?_)))));by_cases c:wg q<wg p;rw[ú c];let f:=l.pa k λr z=>Áb (Ϯf v r z) (õa c)
 show í (uS k (Δd (f.da Ñb)));let{i,rfl}:=Xu c
 replace h:=çc h
 show xt ōk λ_=>û {_,rfl,Op.mk {f,h,d,by omega}};rw[ď c];let f:=l.pb v λr z=>Áb (l.hd k r z) Ťj
 show í (uS v (Δd (f.lst hl Ñb)));let{j,rfl}:=Xu (a:=j) λe=>c Ňh
 replace d:=çc d
 show xt ōk λ_=>û {_,rfl,Op.mk {f,h,d,by omega}}
include ha hb hl in
theorem w0i(l:WA t a b x o i j):wpS è A E s (x4r a b o î ſd g) (η Èf (Bq t a b āb)) Īf:=by show í (Ηb (λz=>Op t a b (x+z)) (WB t a b āb));rintro z _ g e ⟨l⟩;show w0h ha hb hl l Ðn;rw[ŉq];rw[ϧp];show í (Ρa (Ηb (λz=>QB t a b (x+1+z)) (gT t a b āb)));rintro z _ g e ⟨l⟩;let d:=ϣ āb z;show xt (λ_=>z0w ha hb hl l d) λ_=>z0w ha hb hl l d;rw[ŉq];rw[ϧp];show í (Εa (û {_,rfl,Bq.mk l}))
#print a
def w0m{a b:Ú ß}{a0 p0 f0 g}{t:Á ß}{Q:Ú ß->ā->È}(v:uQ a)(j:uQ b)(k:0<Ϙ){y:ß}(o:a[Ŏ-1]?=À y)(d:wZ t a b #[y] Ģg Ϙ)(i:∀q∈Āj,∀p∈ϑb 1,yd p q)(h:∀r g,uv t r->Q r îc):wpS è A E s (lM a b) Q îc:=by
 unfold lM;show í (Ρa (uS o (xt (νb (d.da (ϝb c))) λu=>xt ĳl λm=>?_)));let{n,e1}:=Xu u;obtain⟨B,e2⟩:∃n,Ϙ=n+2:={Ϙ-2,(êd (ąm k λe=>m (ϓb Ųe))).symm};let F:Ŏ=n+2:=by omega
 rw[e1,e2]at d;refine í (Υc (QO (λx=>Bq t a b x) Èf (by rw[e1,e2];show{d,by omega,by omega,by omega}) ?_ ?_ ?_));rintro x _ g C ⟨l⟩;show w0i v j i l;rw[ŉq];rw[ăq]
#print a
def gS(x:Ú ß)(l n:Â):È:=∀i j,i<=j->j<n->K x (l+i)<=K x (l+j)
def sL(x:Ú ß):È:=∀i j,i<Āa->j<Āa->K x i=K x j->i=j
def x3u(h:gS x l n)(c:n=0\/K x (l+n-1)<=K x (l+n)):gS x l ħ:=by
 intro i j a b;by_cases e:j<n;show h i j a e;obtain rfl:j=n:=by omega
 rw[ũq];let:=h i Èb Ê Ê;rw[show l+Èb=l+j-1 by omega]at this;show ßb this (ćn Ê)
section
variable{ă:ï}{w:æ}{A:ù}{E:Value->Í->È}{s:Í}
def QR{i j p f g}(c:uQ x)(hi:i<Āa)(d:j<Āa)(h:Q (À (decide (K x i<K x j))) Ϛb):wpS è A E s (ltAt' i j) Q Ϛb:=by let a:x[i]?=À x[i]:=getElem?_pos x i hi;let b:x[j]?=À x[j]:=getElem?_pos x j d;rw[ltAt'_eq];show í (Υc (uS a (í (uS b (ϻc rfl (c _ _ a) (c _ _ b) ?_)))));unfold K at h;rw[a,b]at h;show h
def z0u{x:Ú ß}{a lo n p f g}{F:Â->É ϖ×Â->Ş ā Sem (áb (É ϖ×Â))}{R:É ϖ×Â->ā->È}(l:1<=a)(b:a<=n)(k:gS x lo a)(i:∀y m Q,1<=m->m<n->(K x ϭc<K x Ņd->Q (.done (Å,m)) Ϛb)->(¬ K x ϭc<K x Ņd->Q (.yield (Å,m+1)) Ϛb)->wpS è A E s (F y (Å,m)) Q Ϛb)(h:∀m,a<=m->m<=n->gS x lo m->(m=n\/K x ϭc<K x Ņd)->R (Å,m) Ϛb):wpS è A E s (ĭb [a:n] (Å,a) F) R Ϛb:=by show Üc (I:=λy c st=>st=yR x p f g/\c=(Å,y)/\gS x lo y) ?_ ?_ {rfl,rfl,k};rintro y _ _ e j ⟨rfl,rfl,d⟩;show i _ _ _ Ê j (λc=>h y e Ê d (.inr c)) λc=>{rfl,rfl,x3u d (.inr Ťj)};rintro _ _ ⟨rfl,rfl,d⟩;rw[ūh b]at d ⊢;show h n b Ē d Ţ
def lO{lo m j:Â}(h:j<m):lo+ϭc-1-Åk=lo+(m-1-j):=by rw[Ěo,Ěo,Nat.add_left_comm 1,Nat.add_sub_add_left,Nat.add_sub_assoc (by rw[Ĕd];show h)]
theorem w0f{x:Ú ß}{lo n p f g}{Q:É Â->ā->È}(q:uQ x)(G:sL x)(R:lo+n=Āa)(L:1<=n)(h:∀m y,ϸa x->(∀k,k<lo->y[k]?=x[k]?)->1<=m->m<=n->gS y lo m->Q ϵa Ëo):wpS è A E s (ýp lo n) Q Ϛb:=by
 unfold ýp;refine í (z0u (lo:=lo) (ĺ 1) L (λi j a b=>by rw[show i=j by omega];show Ϧa _) ?_ ?_);intro y m Q a b v z;refine í Ţh;by_cases c:K x ϭc<K x Ņd;rw[Ðq];intro m a b r c;show xt (λe=>û (h m x ŝj śf a b r)) λe=>?_
 replace c:=ćn Ňa
 replace b:m<n:=by simp at e;omega
 show xt (λe=>?_) λe=>?_;refine í Ţh
 let:K x lo<K x Ņd:=by let u:=r 0 (m-1) Ê (by rw[Ģq];omega);rw[show lo+(m-1)=lo+m-1 by omega,ϰn]at u;let C:=G lo Ņd Ê Ê;rw[Ģq];omega
 simp only[this,Ϟb,ό];show û (h m x ŝj śf a Ê r);obtain rfl:m=1:=by rw[Ģq];omega
 show í (Śl (çd {rfl,?_}));show í (ξa (Üc (I:=λy c st=>st=yR x p f g/\c=(Å,y,0)/\∀i j,i<=j->j<y->K x Åk<=K x Ϻa) (Q:=λc st=>st=yR x p f g/\∃m,c=(Å,m,0)/\2<=m/\m<=n/\∀i j,i<=j->j<m->K x Åk<=K x Ϻa) ?_ ?_ {rfl,rfl,?_}));rintro y _ _ C F ⟨rfl,rfl,d⟩;refine í (QR q Đh Đh ?_);by_cases c:K x Äk<K x ġj;simp only[c,Ϟb,ό];show û {rfl,rfl,λi j o l=>?_};by_cases e:j<y;show d i j o e;obtain rfl:j=y:=by omega
 rw[ũq];let:=d i Èb Ê Ê;rw[show lo+Èb=lo+j-1 by omega]at this;omega;simp only[c,őf,ŀb,Ďa];refine í Ţh
 let:K x ġj<K x Äk:=by let P:=G ġj Äk Ê Ê;omega
 simp only[this,Ϟb,ό];show û {rfl,y,rfl,by omega,by omega,d};rintro _ _ ⟨rfl,rfl,d⟩;rw[ūh Ê]at d ⊢;show{rfl,n,rfl,by omega,by omega,d};intro i j o l;by_cases e2:i=j;rw[e2];show Ϧa _;rw[show i=0 by omega,show j=1 by omega];show õa c;rintro _ _ ⟨rfl,m,rfl,C,F,d⟩;let B:∀k,K ϻe k=_:=λk=>K_mirror Ê k
 refine í (wpS_reverse (í (z0u (x:=mirror x lo ϭc ((lo+m-lo)/2)) (lo:=lo) Đh F ?_ ?_ ?_)));intro i j o l;dsimp only at l;rw[B,B,Ï Ê,Ï Ê];let:=d (m-1-j) (m-1-i) (Âm o _) (Ðb Ŋa (Nat.sub_lt (Ðb Ĩb l) Òe));rw[lO (Ðb o l),lO l];rw[Ϯp];intro y t Q a b v z;let N:(ϻe).Perm x:=ĉo _ _ _ _;show í (QR ?_ ül ül ?_);intro i p J;let{H,u}:=çh ((Èh N).mem_iff.mp (ϲg (Àh J)));show q H p (by rw[<-ĭa];show u);by_cases c:K ϻe (lo+t)<K ϻe (lo+t-1);rw[Ðq];intro t a b r _;show û (h t _ (ĉo _ _ _ _) (λk O=>?_) (by dsimp only at a;omega) b r);rw[getElem?_mirror_all Ê,Ñ Ê]
#print a
def Js{x y:Ú ß}(h:uQ x)(p:ϸa x):uQ y:=by intro i q a;let{b,c}:=çh ((Èh p).mem_iff.mp Ŧn);show h b q (by rw[<-ĭa];show c)
section
variable{ă:ï}{w:æ}{A:ù}{E:Value->Í->È}{s:Í}
def y2r{l r:Â}(h:l<r):l<=(l+r)/2/\(l+r)/2<r:=by omega
def w0e{x:Ú ß}{lo n ok p f g}{Q:Ð->ā->È}(hx:uQ x)(hn:lo+n<=Āa)(zi:ok<=n)(d:gS x lo ok)(h:∀y,ϸa x->(∀k,k<lo->y[k]?=x[k]?)->gS y lo n->Q Ä Ëo):wpS è A E s (Đo lo n ok) Q Ϛb:=by
 unfold Đo;show í (ξa (Üc (I:=λk c st=>c=(Å,())/\∃y,st=yR y p f g/\ϸa x/\(∀k,k<lo->y[k]?=x[k]?)/\(k<=n->gS y lo k)) (Q:=λc st=>c=(Å,())/\∃y,st=yR y p f g/\ϸa x/\(∀k,k<lo->y[k]?=x[k]?)/\gS y lo n) ?_ ?_ {rfl,x,rfl,řk _,λ_ _=>rfl,λ_ i j a b=>?_}));rintro k _ _ hk R ⟨rfl,y,rfl,v,H,d⟩
 replace d:=d (óa R)
 let hy:=Js hx v;let L:lo+k<Ĥc:=by let:=v.size_eq;omega
 let sj:∀j,j<=k->lo+j<Ĥc:=λj hj=>Ðb (àc hj lo) L
 show í (DA (Q:=λc st=>st=yR y p f g/\∃l r,c=(Å,l,r)/\l<=k/\(∀i,i<l->K y Ϻa<=K y űb)/\∀i,l<=i->i<k->K y űb<K y Ϻa) (λz c=>∃l r,c=(Å,l,r)/\l<=r/\r<=k/\r+z<=k+l/\(∀i,i<l->K y Ϻa<=K y űb)/\∀i,r<=i->i<k->K y űb<K y Ϻa) {0,k,rfl,Ź _,ĺ _,ĺ _,λi J=>Þ J æd,λi a b=>Þ b (àe a)} ?_ ?_ ?_);rintro z _ hz ⟨l,r,rfl,O,q,Z,B,C⟩;show xt Ïj λc=>?_;cases ϒb O c;show û {rfl,l,l,rfl,q,B,C};let{U,T}:=y2r õf;dsimp only;generalize (l+r)/2=m at U T ⊢;let P:=Ū T q;show í (QR hy L (sj m (óa P)) ?_);by_cases c2:K y űb<K y ϭc;simp only[c2,Ϟb,ό];show û {rfl,l,_,rfl,U,óa P,by omega,B,λi o S=>Int.lt_of_lt_of_le c2 (d _ _ o S)};simp only[c2,őf,ŀb,Ďa];show û {rfl,_,r,rfl,T,q,by omega,λi o=>ßb (d i m (Ŋc o) P) (ŏc c2),C};rintro _ ⟨l,r,rfl,O,q,Z,B,C⟩;cases ϒb O Ê;show{rfl,l,l,rfl,q,B,C};rintro _ _ ⟨rfl,l,r,rfl,q,B,C⟩;let e:lo+k-Ŋf=lo+l:=Nat.sub_sub_self (àc q lo);show í (Εa (û {rfl,Ϣj y űb Ŋf,rfl,(bubble_perm _ _ _).trans v,λi J=>?_,λ_=>?_}));let z:=Ū J (ϣ lo l);rw[<-H i J,getElem?_bubble L _ Ŋa,e,Ñ (Ϟ z),Ñ λc=>ϯn z c.1];let F:∀i,K (Ϣj y űb Ŋf) i=_:=K_bubble L Ŋa;generalize Ϣj y űb Ŋf=b at F;rw[e]at F;let N:∀i,i<l->K b Ϻa=K y Ϻa:=λi a=>by rw[F,Ñ λc=>Ϟ a (Ġh c),Ñ λc=>ϯn a (Nat.lt_of_add_lt_add_left c.1)]
 let W:K b (lo+l)=K y űb:=by rw[F,Ï rfl]
 let Y:∀i,l<=i->i<k->K b (lo+î)=K y Ϻa:=λi a c=>by rw[F,Ñ Ê,Ï Ê];rfl
 intro i j o S;rcases Ċf j l with z|rfl|z;rw[N i (Ðb o z),N j z];show d i j o (Ū z q);rcases Ķh o with z|rfl;rw[N i z,W];show B i z;show Ϧa _;obtain⟨j,rfl⟩:∃t,j=t+1:={j-1,by omega};let G:=Nat.lt_of_succ_lt_succ S;rw[Y j (Ŋc z) G];rcases Ċf i l with u|rfl|u;rw[N i u];show d i j Ê G;rw[W];show õa (C j (Ŋc z) G);obtain⟨i,rfl⟩:∃t,i=t+1:={i-1,by omega};let X:=Nat.le_of_succ_le_succ o;rw[Y i (Ŋc u) (Ðb X G)];show d i j X G;rintro _ _ ⟨rfl,y,rfl,v,H,d⟩;show{rfl,y,rfl,v,H,?_};by_cases e:n=0;intro i j a b;omega;rw[ūh Ê]at d;show d Ē;by_cases e:ok=0;rw[show i=j by omega];show Ϧa _;show d i j a Ê;rintro _ _ ⟨rfl,y,rfl,v,H,d⟩;show û (h y v H d)
#print a
theorem rj{F:Ú ß->ß×Â->Ú ß}{s:Â}(b:∀a p j,F a (p,j)=ϋh (s+j) p){R:Á ß}:∀(l Z P:Á ß)(n:Â)(x:Ú ß),ēc=P++(Z++R)->ďa=s+n->Z.length=Ĕc->((l.zipIdx n).foldl F x).toList=P++(l++R)
 | [],Z,P,n,x,h,_,hz=>by rw[Ôh hz]at h;show h|p::l,z::Z,P,n,x,h,hp,hz=>by
  rw[Ŭh,Êa,b]
  let:=rj b (R:=R) l Z (P++[p]) ħ (x.setIfInBounds (s+n) p) (by rw[öl,h,ąh _ _ Ê,hp,ôc,Š];rfl) (by rw[ì,hp];rfl) (ýd hz)
  rw[this,Š];rfl
def fE{x:Ú ß}{P X R:Á ß}{a b:Â}(h:ēc=P++(X++R))(c:ďa=a)(d:a+Ϧ=b):(ðd a b).toList=X:=by rw[Ϫd,ϛd,h,ϒh c,ώh Ê]
theorem L_{x:Ú ß}{P R:Á ß}{p:ß}{a:Â}(h:ēc=P++p::R)(b:ďa=a):x[a]?=À p:=by rw[<-ĭa,h,ſb Ê,b,ôc];rfl
def c_{x y:Ú ß}(h:uQ x)(c:∀p∈èb,p∈ēc):uQ y:=by intro i q a;let{b,d}:=çh (c q Ŧn);show h b q (by rw[<-ĭa];show d)
section
variable{ă:ï}{w:æ}{A:ù}{E:Value->Í->È}{s:Í}
def w0o{a st:ā}{Q:PUnit->ā->È}(h:Q ⟨⟩ a):wpS è A E s (set a:Ş ā Sem PUnit) Q st:=by unfold wpS;rw[StateT.run_set];show ó {rfl,h}
def w0l{x:Ú ß}{p:Ú Ůa}{g i d K pw2:Â}{p1 p2:Á Ůa}{P o v R:Á ß}{l u:ß}{Q:Ð->ā->È}(O:uQ x)(ep:İe=p1++(d,(ńd).length,K)::(d+(ńd).length,(že).length,pw2)::p2)(hi:p1.length=i)(ex:ēc=P++(ńd++(že++R)))(G:ďa=d)(L:(ńd).Pairwise yd)(I:(že).Pairwise yd)(h:∀y q g Z,èb=P++(Z++R)->Z.Perm (ńd++že)->Z.Pairwise yd->Ţb=p1++(d,(ńd).length+(že).length,K)::p2->Q Ä ŝc):wpS è A E s (Þg i) Q Ġn:=by
 generalize eX:o++[l]=X at ep ex L h;generalize eY:u::v=Y at ep ex I h
 have e1:p[i]?=À (d,Ϧ,K):=by rw[<-ĭa,ep,ſb Ê,hi,ôc];rfl
 have e2:p[i+1]?=À (d+Ϧ,ϓc,pw2):=by rw[<-ĭa,ep,ſb Ê,hi,íh];rfl
 let e3:(Ük).toList=p1++(d,Ϧ+ϓc,K)::p2:=by rw[Array.toList_eraseIdxIfInBounds,öl,ep,ąh _ _ Ê,hi,ôc,List.eraseIdx_append_of_length_le Ê,hi,íh];rfl
 let T:∀q∈X,yd q l:=by intro q f;rw[<-eX]at f L;rcases Ÿ f with z|z;show(ϊb L).2.2 q z l Ġ;rw[Ĵ z];show Ϧa _
 let J:∀q∈Y,yd u q:=by intro q f;rw[<-eY]at f I;rcases ĩ f with z|z;rw[z];show Ϧa _;show(Ϧd I).1 q z
 let mX:l∈X:=eX▸ĩa _ Ġ;let mY:u∈Y:=eY▸Ġ;have lX:Ϧ=ļd+1:=by rw[<-eX,ì];rfl
 have lY:ϓc=v.length+1:=by rw[<-eY];rfl
 have szx:Āa=d+(Ϧ+(ϓc+şb)):=by rw[<-Ĺ,ex,ì,ì,ì,G]
 have ay:x[d+Ϧ]?=À u:=L_ (P:=P++X) (R:=v++R) (by rw[ex,Š,<-eY];rfl) ϸh;have ax:x[d+Ϧ-1]?=À l:=L_ (P:=P++o) (R:=Y++R) (by rw[ex,<-eX,Š,Š];rfl) īm;let both:(∀p∈X,∀q∈Y,yd p q)->Q Ä ϙm:=λc=>h x _ g (X++Y) (by rw[ex,Š]) ϗc (Ϝd {L,I,c}) e3
 unfold Þg;show í ŀe;exact wpS _ _ _ _ (match(p[i]?,p[i+1]?)with|_=>_) _ _;rw[e1,e2];refine í (w0o (í (uS ay (í (QP (z:=X) (x:=x) (b:=d) (n:=Ϧ) rfl (O _ _ ay) O Ê Ê (by rw[ex,ϒh G,ώh rfl]) L λk hk d1 d2=>?_)))));show xt (Κd (d1 p ?_) (J q f)) λc=>?_;rw[Þc (by simp at c;omega)];show j
 replace c:k<Ϧ:=by simp at c;omega
 let ax2:x[d+k+(Ϧ-k)-1]?=À l:=by rw[åe,Ùd ŏd];show ax
 refine í (uS ax2 (í (QP (z:=Y) (x:=x) (b:=d+Ϧ) (n:=ϓc) rfl (O _ _ ax) O Ê Ê (by rw[ex,<-Š,ϒh ϸh,ώh rfl]) I λe U f1 f2=>?_)));show xt (Κd (T p j) (f2 q ?_)) λc2=>?_;rw[ϝb c];show f
 replace c2:0<e:=by simp at c2;omega
 have B:(ýf).toList=Ŏe k:=fE (P:=P++ãg k) (R:=Y++R) (Ψd œj) (by rw[ì,äa,G,Öb ŏd]) (by rw[ňa,åe,Ùd ŏd]);have C:(Éf).toList=Īe e:=fE (P:=P++X) (R:=Ϥj e++R) (Ψd ğg) ϸh (by rw[äa,Öb U])
 have fin:∀r g,uv Ϭd r->wpS è A E s (do Ϥc λs=>āc Ÿc (r.toList.zipIdx.foldl (λa x=>ϋh ŷp x.1) ώc) Ģc ęi Ũc;return (failedOf (<-get)).isNone) Q ϙm:=by
  rintro r g ⟨r1,r2⟩;show í (Τc (ϫe (û (h _ _ _ Ãl ?_ ?_ ?_ e3))));have:=rj (F:=λa x=>ϋh ŷp x.1) (s:=d+k) (λ_ _ _=>rfl) (R:=Ϥj e++R) r.toList Ϭd (P++ãg k) 0 x (by rw[ex];simp only[Š];rw[<-Š ğg,ϛa,<-Š œj,ϛa]) (by rw[ì,äa,G,Öb ŏd];rfl) r1.length_eq.symm
  rw[this];simp only[Š];let a:(Ãl).Perm (ãg k++Ϭd++Ϥj e):=ýh _ (ĉh _ r1);rw[<-Š œj ŕj,ϛa,Š X,ϛa]at a;show a;let m:∀q∈r.toList,q∈Ŏe k\/q∈Īe e:=λq f=>Ÿ (r1.mem_iff.mp f)
  let tX:=ϛa k X;let tY:=ϛa e Y;let H:=L;let N:=I;rw[<-tX]at H;rw[<-tY]at N;show Ϝd {Ϝd {(ϊb H).1,r2,λp j q f=>?_},(ϊb N).2.1,λp j q f=>?_};rcases m q f with z|z;show(ϊb H).2.2 p j q z;show Áb (d1 p j) (J q (ϩd z));rcases Ÿ j with j|j;show Áb (d1 p j) (J q (Ęh f));rcases m p j with z|z;show Áb (T p (Ęh z)) (f2 q f);show(ϊb N).2.2 p z q f
 let A1:uQ ýf:=c_ O λp j=>by rw[B]at j;rw[ex];show ĩa _ (żb _ (Ęh j))
 let A2:uQ Éf:=c_ O λp j=>by rw[C]at j;rw[ex];show ĩa _ (ĩa _ (żb _ (ϩd j)))
 have z1:(ýf).size=Ϧ-k:=by rw[<-Ĺ,B,ňa]
 have z2:(Éf).size=e:=by rw[<-Ĺ,C,äa,Öb U]
 let W:(ŕj).Pairwise yd:=şl (ńm _ _) L;let S:(ğg).Pairwise yd:=şl ĭp I;have b0:Éf[0]?=À u:=L_ (P:=[]) (R:=v.take (e-1)) (by rw[C,<-eY];obtain⟨n,rfl⟩:∃n,e=n+1:={e-1,by omega};rfl) rfl;have al:ýf[Ϧ-k-1]?=À l:=L_ (P:=o.drop k) (R:=[]) (by rw[B,<-eX,List.drop_append_of_le_length Ê]) (by rw[ňa];omega);generalize ðd (d+k) (d+Ϧ)=xx at *;generalize ðd (d+Ϧ) (d+Ϧ+e)=yy at *;refine xt (λ_=>í (w0n (t:=Ŏe k++Īe e) A1 A2 Ê b0 ?_ ?_ λr g hr=>fin r g hr)) λ_=>í (w0m (t:=Ŏe k++Īe e) A1 A2 Ê (y:=l) ?_ ?_ ?_ λr g hr=>fin r g hr);have a0:wS Ϭd xx yy #[] 0 0:={by rw[<-B,<-C];show Ľc _,B▸W,C▸S};show a0.pb b0 λq f=>õa ĳn;intro q f p j;rw[z1,GD al,Úd Áe]at j;rw[Ĵ j];show õa (f1 q (C▸f));rw[z1];show al;let a0:wZ Ϭd xx yy #[] Űn yy.size:=by let t1:xx.toList.take Űn=xx.toList:=Þc Áe;let t2:yy.toList.take yy.size=yy.toList:=Þc (by rw[Ĺ];show ĺ _);unfold wZ;rw[t1,t2,B,C];let pz:=List.Perm.append (ŗh ŕj) (ŗh ğg);show{pz,Üh W,Üh S}
 show a0.pa (by rw[z1];show al) λq f=>õa (f1 q (C▸ϩd f));intro q f p j;rw[SL b0]at j;rw[Ĵ j];show õa ĳn
#print a
def uJ:Â->Á Ůa->Á ß->È
 |_,[],L=>L=[]|n,r::p,L=>r.1=n/\∃X M,L=X++M/\Ϧ=r.2.1/\X≠[]/\ŧi yd/\uJ (n+r.2.1) p M
theorem oy:∀{p q:Á Ůa} {n:Â} {L:Á ß},uJ n (p++q) L->∃M N,L=M++N/\uJ n p M/\uJ Ùo q N
 | [],q,n,L,h=>{[],L,rfl,rfl,h}|r::p,q,n,L,h=>by let{d,X,M,rfl,c,e,f,g}:=h;let{M,N,rfl,a,b}:=oy g;show{X++M,N,(Š ..).symm,{d,X,M,rfl,c,e,f,a},by rw[ì,c,<-åe];show b}
theorem Nm:∀{p q:Á Ůa} {n:Â} {M N:Á ß},uJ n p M->uJ Ùo q N->uJ n (p++q) (M++N)
 | [],q,n,M,N,h,h2=>by rw[show M=[]from h]at h2 ⊢;show h2|r::p,q,n,M,N,h,h2=>by let{b,X,M,rfl,a,c,d,e}:=h;show{b,X,M++N,Š ..,a,c,d,Nm e (by rw[ì,a,<-åe]at h2;show h2)}
theorem oz:∀{p:Á Ůa} {n:Â} {L:Á ß},uJ n p L->p.length<=ϩ
 | [],n,L,h=>Ź _|r::p,n,L,h=>by let{c,X,M,rfl,e,a,d,b}:=h;let:=oz b;let:=ĭl a;rw[ì,Ĉ];omega
theorem r9{F:Â×Â×Â->Â×Â×Â}(a:∀r,(F r).1=r.1/\(F r).2.1=r.2.1):∀{p:Á Ůa} {k n:Â} {L:Á ß},uJ n p L->uJ n (p.modify k F) L
 | [],0,n,L,h=>h| [],_+1,n,L,h=>h|r::p,0,n,L,h=>by let{b,X,M,rfl,f,c,d,e}:=h;show{(a r).1.trans b,X,M,rfl,ŋj (a r).2.symm,c,d,(a r).2▸e}
 |r::p,k+1,n,L,h=>by let{b,X,M,rfl,f,c,d,e}:=h;show{b,X,M,rfl,f,c,d,r9 a e}
def x3f{x y:Ú ß}{L R:Á ß}{lo m:Â}(ex:ēc=L++R)(n:ϩ=lo)(f:∀k,k<lo->y[k]?=x[k]?)(l:gS y lo m)(o:lo+m<=Ĥc):∃X M,èb=L++ϑe/\Ϧ=m/\ŧi yd:=by
 let e:y.toList.take lo=L:=by
  show èc λk=>?_
  rw[Ĉm]
  split;rw[łq];rw[ĭa,f k c,<-ĭa,ex,ūa Ê];rw[Öa Ê]
 let d:(Äi).length=m:=by rw[äa,ňa,Ĺ];omega
 show{(Ϸg).take m,(Ϸg).drop m,?_,d,List.pairwise_iff_getElem.mpr λi j a h b=>?_};rw[ϛa,<-e,ϛa];let g:∀i (a:i<(Äi).length),K y Ϻa=wg Äi[i]:=by intro i a;let e:y[lo+i]?=À y[lo+i]:=getElem?_pos _ _ Ê;unfold K;rw[e,Řh,Čf,Ċb];rfl
 let:=l i j (óa b) Ê;rw[g i a,g j h]at this;rw[Ϯp]
def z6n{x y:Ú ß}(h:(ŝm).Nodup)(p:ϸa x):sL y:=by
 let n:(Ŝm).Nodup:=((Èh p).map wg).nodup_iff.mpr h;intro i j a b e
 let g:∀i (a:i<Ĥc),Ŝm[i]?=À (K y i):=by intro i a;let e:y[i]?=À y[i]:=getElem?_pos y i a;rw[ė,ĭa];unfold K;rw[e];rfl
 show(Ńm (by rw[ã,Ĺ];show a) n).mp (by rw[g i a,g j b,e])
section
variable{ă:ï}{w:æ}{A:ù}{E:Value->Í->È}{s:Í}
def z12{x:Ú ß}{p:Ú Ůa}{g i:Â}{L R:Á ß}{Q:Ð->ā->È}(v:uQ x)(ex:ēc=L++R)(o:uJ 0 İe L)(hi:i+1<Ńg)(h:∀y q g M,èb=M++R->M.Perm L->uJ 0 Ţb M->ħc+1=Ńg->Q Ä ŝc):wpS è A E s (Þg i) Q Ġn:=by
 let t:p.toList.length=Ńg:=Ĺ;obtain⟨⟨U,na,K⟩,⟨W,J,I⟩,c⟩:∃r1 r2,İe=Ñi i++r1::r2::Òi (i+2):={İe[i],İe[i+1],by rw[<-ϋb,<-ϋb,ϛa]};let d:(Ñi i).length=i:=by rw[äa];omega
 let k:(Òi (i+2)).length=Ńg-(i+2):=by rw[ňa,t]
 generalize Ñi i=p1 at c d;generalize Òi (i+2)=p2 at c k;rw[c]at o;let{P,N,rfl,r,C}:=oy o;let{j,X,N,rfl,l,u,G,f,Y,N,rfl,n,F,B,a}:=C;dsimp only at j l f n a;let{O,xl,rfl}:=(ćh X).resolve_left u;rw[Ĉh]at *;let{T,S,rfl}:=List.exists_cons_of_ne_nil F;subst l n;rw[Ķ]at j f;subst j;subst f;refine w0l v c d (P:=P) (R:=N++R) (by rw[ex];simp only[Š]) rfl G B λy q g Z H b z m=>h y q g (P++(Z++N)) (by rw[H];simp only[Š]) ?_ ?_ ?_;show ĉh _ ((ýh N b).trans ?_);rw[Š];rw[m];show Nm r {(ũj).symm,Z,N,rfl,b.length_eq.trans (ì ..),?_,z,?_};intro e;rw[e]at b;let:=b.length_eq;rw[ì,Ĉ]at this;cases this;rw[Ķ]at a ⊢;rw[åe]at a;show a;let:=ĳ ěd m;rw[Ĺ,ì,Ĉ,d,k]at this;omega
abbrev Ru:=áb (É ïa×Â)
nonrec def Rt(lo n:Â):Ş ā Sem Ru:=do
 Ϥc λs=>āc Ÿc ώc ((Ģc).push (lo,n,0)) ęi Ũc
 pure (.yield (Å,lo+n))
nonrec def Bm{β:Type}(r:É Ůa)(f:Â->Â->Â->Ş ā Sem β)(g:Ş ā Sem β):Ş ā Sem β:=(sortPriv% PySem.Builtin.sortRuns.match_1) éf r f λ_=>g
def sN(N lo n:Â)(f:Â->Â->Â):Ş ā Sem Ru:=do
 let d <-get
 Bm (Ŝe).back? (λe g _=>do
  let r <-ĭb [:N] ((Å,()):É ïa×ïa) λ_ _=>do
   let d <-get
   Bm (if(Ŝe).size>1 then Ŝe[(Ŝe).size-2]? else Å) (λ_ _ a=>
    if a<=f e g then pure ϩm else do
     let b <-Þg ((Ŝe).size-2)
     if(!b)=Ä then pure (.done (À (),()))else pure (.yield (Å,()))) (pure ϩm)
  On r.1 (λr=>pure (.done (À r,lo))) do
   let _ <-Ϥc λs=>āc Ÿc ώc ((Ģc).modify ((Ģc).size-1) λx=>(sortPriv% PySem.Builtin.sortRuns.match_3) (λ_=>Â×Â×Â) x λst c _=>(st,c,f e g)) ęi Ũc
   Rt lo n) (Rt lo n)
inductive Rv(X M L:Á ß):É ïa×ïa->ā->È
 |mk {y q g N}:èb=N++ϑe->N.Perm L->uJ 0 Ţb N->Rv X M L (Å,()) ŝc
def w0q{x y:Ú ß}{q:Ú Ůa}{g k lo N:Â}{L X M:Á ß}{H:Â->Â->Â}{Q:Ru->ā->È}(C:uQ x)(z:ϸa x)(o:uJ 0 Ţb L)(t:ϩ=lo)(l:èb=L++ϑe)(n:Ϧ=k)(F:ŧi yd)(hk:1<=k)(h:∀y q g L,èb=L++M->ϩ=lo+k->uJ 0 Ţb L->ϸa x->Q (.yield (Å,lo+k)) ŝc):wpS è A E s (sN N lo k H) Q ŝc:=by
 let u:∀{f:Ú ß}{b},f.toList=b++ϑe->ϣj L->f.Perm x:=λe1 e2=>Array.Perm.trans (Ϸk (by rw[e1,l];show ýh _ e2)) z
 let j:∀{f:Ú ß}{a:Ú Ůa} {m b},f.toList=b++ϑe->ϣj L->uJ 0 Āj b->wpS è A E s (Rt lo k) Q (yR f a Å m):=by intro f a m b e1 e2 d;refine í (Εa (û (h _ _ _ (b++X) (by rw[Š];show e1) (by rw[ì,ϣn,t,n]) ?_ ūp)));exact uJ 0 (a.push (lo,k,0)).toList _;rw[Åe];show Nm d {by rw[Ķ,ϣn,t],X,[],(Ĩg).symm,n,λe=>Ŏa hk (n▸ĳ ěd e),F,rfl}
 show í ŀe;exact wpS _ _ _ _ (Bm q.back? _ _) _ _;cases q.back? with
 |Å=>show j l ϗc o|À r=>
  show í (ξa (Üc (I:=λ_=>Rv X M L) (Q:=Rv X M L) ?_ (λ_ _ h=>h) (.mk l ϗc o)));rintro _ _ _ _ _ ⟨e1,e2,d⟩;rename_i f a m b;show í ŀe;exact wpS _ _ _ _ (Bm (if Ŏ>1 then a[Ŏ-2]? else Å) _ _) _ _;by_cases c:Ŏ>1;rw[Ï c];cases a[Ŏ-2]? with
  |Å=>show û éi|À r=>show xt (λ_=>û éi) λ_=>í (z12 (p:=a) (i:=Ŏ-2) (Js C ūp) e1 d Ê λJ O P M2 B v G K=>û (.mk B (v.trans e2) G))
  rw[Ñ c];show û éi;rintro _ _ ⟨e1,e2,d⟩;show í (Εa (j e1 e2 ?_));exact uJ 0 (Array.modify _ _ _).toList _;rw[Array.toList_modify];show r9 ?_ d;show λ⟨_,_,_⟩=>{rfl,rfl}
inductive Br(x:Ú ß)(z:Â):É ïa×Â->ā->È
 |mk {lo y q g L R}:èb=L++R->ϩ=lo->uJ 0 Ţb L->ϸa x->z<=lo->Br x z (Å,lo) ŝc
def w0p{x:Ú ß}{g:Â}{Q:ïa->ā->È}(v:uQ x)(hd:(ŝm).Nodup)(h:∀y q g,ϸa x->y.toList.Pairwise yd->Q () ŝc):wpS è A E s äp Q (yR x #[] Å g):=by
 unfold äp;show í ŀe;show í (ξa (Üc (I:=λz=>Br x z) (Q:=λc st=>c.1=Å/\∃y q g,st=yR y q Å g/\uJ 0 Ţb èb/\ϸa x) ?_ ?_ (.mk (L:=[]) (R:=ēc) rfl rfl rfl ŝj Ē)));rintro z _ _ _ hz ⟨i,p,d,a,l⟩;rw[Ùq]
 show xt Ïj λc=>?_;let:R=[]:=Ôh (by dsimp only at c;omega);rw[űq];rw[Œ]at i;show û {rfl,y,q,g,rfl,i▸d,a};replace c:lo<Āa:=by dsimp only at c;omega
 refine í (w0f (lo:=lo) (n:=Āa-lo) (Js v a) (z6n hd a) Ê Ê λm y1 F U H B T=>?_);let A1:=Js v ţo;let z1:=(ţo).size_eq
 let S:∀{k f P},1<=k->lo+k<=Āa->f.Perm y->(∀j,j<lo->f[j]?=y[j]?)->gS f lo k->wpS è A E s (sN Āa lo k P) (λr st=>jr ïk Łl r) (yR f q Å g):=by intro k f P N Y u t G;let{X,M,eY,lX,sX}:=x3f (m:=k) i p t G (by rw[(đg a).size_eq];show Y);show w0q v (đg a) d p eY lX sX N λy q g L e1 e2 W e4=>.mk e1 e2 W e4 (Ċn l N)
 show ϐd (Q:=λr st=>jr ïk Łl r) ?_ λr st h=>by cases r<;>show h
 show xt (λo=>í (Ρa (w0e (lo:=lo) (n:=min (Āa-lo) (minRun' Āa Āa 0)) (ok:=m) A1 ?_ ?_ T λf u t G=>xt (λc=>nomatch c) λ_=>S ?_ ?_ (đg F) (λk O=>(t k O).trans (U k O)) G))) λo=>S H Ê F U T;omega;show Ϭh {B,óa o};show Ϭh {ÿ H B,ÿ H (óa o)};show ÿ (àc (Nat.min_le_left ..) _) Ín;rintro _ _ ⟨i,p,d,a,l⟩;rw[Ùq]
 let:R=[]:=Ôh (by dsimp only at l;omega);rw[űq];rw[Œ]at i;show{rfl,y,q,g,rfl,i▸d,a};rintro⟨_,lo⟩ _ ⟨rfl,y,q,g,rfl,d,a⟩;show í (ξa (Üc (I:=λz c st=>c=(Å,())/\∃y q g,st=yR y q Å g/\uJ 0 Ţb èb/\ϸa x/\(ħc<=1\/ħc+z<=Āa)) (Q:=λc st=>c=(Å,())/\∃y q g,st=yR y q Å g/\uJ 0 Ţb èb/\ϸa x/\ħc<=1) ?_ ?_ {rfl,y,q,g,rfl,d,a,.inr ?_}));rintro z _ _ _ hz ⟨rfl,y,q,g,rfl,d,a,C⟩;show í (ϫe (Αa (λc=>û {rfl,y,q,g,rfl,d,a,c})))
 replace c:¬ ħc<=1:=c
 show í (z12 (Js v a) (Ĩg).symm d ?_ λf t g2 M K o c3 c4=>?_);let:∀(b:È) [Ěe b],(if b then ħc-2-1 else ħc-2)+1<ħc:=λb _=>by split<;>omega
 show this _;rw[Œ]at K;refine û {rfl,f,t,g2,rfl,K▸c3,(Ϸk (K▸o)).trans a,.inr Ê};rw[Ŏq];show{rfl,y,q,g,rfl,d,a,by rw[Ći]at C;dsimp only at C;omega};let:=oz d;rw[Ĺ,Ĺ,Ϩi]at this;rw[Ϯp];rw[Ŏq];show û (h y q g a ?_)
 match e:Ţb,d,(Ĺ (xs:=q))with
 | [],d,_=>rw[show èb=[]from d];show čf| [r],d,_=>let{_,X,M,e,_,_,h5,h6}:=d;rw[e,show M=[]from h6,Œ];show h5
 |_::_::_,_,B=>simp only[Ĉ]at B;omega
def x4h(l:ø a=À (seqObj Ĩ ŷa n))(f:ób vs ns)(H:ns.Nodup)(hz:đ<=ä)(h:∀(out:Ú Value)(b:Á Æ),ób Če b->ϣj ns->Ŧi (·<=·)->P (.done žl) { s with ç:=sortedHeap â a vs out }):Ù è A (Builtin.«list.sort» {ϲ,[]}) P E s:=by
 by_cases h64:đ<64;show ϩh l f h64 h
 obtain⟨m,o,r,rfl⟩:∃m o r,vs=m::o::r:=by
  match vs,h64 with
  | [],h=>show Þ Ò h| [_],h=>show Þ (show 1<64 by decide) h|m::o::r,_=>show{m,o,r,rfl}
 generalize e:m::o::r=vs at *;let k:¬ vs.toArray.size<2:=by rw[Ĭ];omega
 let v:a<Ý:=ĥ l;obtain⟨c,B⟩:∃c,(Śc a (äb λ_=>#[])).get? a=À Ġm:={_,get?_update_seq l (λ_=>#[])}
 let u:((Īk).push àd).get? a=À Ġm:=by rw[ňm _ _ _ (by rw[Ųo,ώm];show Ϟ (Ŀb v)),ňm _ _ _ (by rw[ώm];show Ϟ v)];show B
 rw[list_sort_plain];refine Ó (listItems_at l rfl (Ó (Ōn l rfl (hsz:=by rw[Ĭ];show hz) ?_)));show Ó (ćo B rfl (Ó (ĕh ?_ (by show hz))));show Ó (úf (ϝa ?_));exact Ù è A _ P E { s with ç:=(Īk).push àd };rw[Ñ k,Ñ k,<-e,keyKind_ints (e▸f),e];show Ó (Βa (ĳa (w0p (x:=pairsOf vs) (g:=7) (Q:=λ_ st=>(Ãp).Perm Ęi/\failedOf st=Å/\SortedTo Ãp (Ęi).size) ?_ ?_ ?_) ?_ λ_ _ e=>e));intro i p d;show f.intKeys p (ϲg (Àh d));have:(Ęi).toList.map wg=ns:=by rw[pairsOf_toList,show wg=numOf∘Prod.fst from rfl,<-ϰ,Ěf Ē,f.nums]
 rw[this];show H;intro y q g d t;show{d,rfl,λi j O N=>?_};let z:=d.size_eq;let C:y[i]?=À y[i]:=getElem?_pos y i Ê;let I:y[j]?=À y[j]:=getElem?_pos y j Ê;unfold K;rw[C,I];by_cases c:i=j;subst c;show Ϧa _;let:=Ϙd t i j Áe Áe Ê;rw[Ċb,Ċb]at this;rw[Ϯp];rintro⟨⟨⟩,st⟩ _ ⟨rfl,d,F,t⟩;rw[ϴp];show Ó (ćo u rfl (Ó (Ōn u rfl ?_ (hsz2:=by refine ÿ (ŋb ((Array.size_map ..).trans (d.size_eq.trans (pairsOf_size _)))) (ŉc hz)))));rw[F];simp only[œh,ŀb,Ďa];let{b,L,G,J}:=sorted_out f d t;show ó (h _ b L G J)
def x4k(t:ča=Å)(lo:Ĵa=Ã)(n:ãe öa a kvs ep)(hk:Ϛc (·.1)=Ϥ ĭ)(hz:ţ<=ä)(h:∀h' tk p out c ns',Ý<=p->ċ p=À ńh->ób Če ns'->øj ns->üi (·<=·)->(∀b ob,ø b=À ob->ċ b=À ob)->Q Ŵ { s with ç:=h',Ĕ:=tk }) :Ù è A Ϸh Q E s:=by
 let k:Ō=ţ:=by
  let:=ĳ ěd hk
  rwa [ã,ã]at this
 let r:ns.Nodup:=by let:=n.nodup;rw[hk]at this;show(ïl).imp λh z=>h (ĳ _ z)
 rw[ϵp];refine Ó (m:=Ťi Ųa 1 1 _) (Βa (dw (by show t) lo n (k▸hz) λl tk d j q i o=>Ó (úf ?_ Ϧl)));let v:=iG d kvs ns j hk q;let g:(l.push Ùf).get? ċo=À Ùf:=ŷ _ rfl;refine Ó (οc (x4h g v r Ϧl λout ns' x u B=>{_,rfl,?_}) ŋh);rw[ŝq];show ó {_,rfl,h _ tk ċo out c ns' (óa i) y x u B λb ob e=>?_};rw[ıq]
#print a
section
variable{X:Cx}
def x0z:Á V->Hp->VK->È:=λb H Q=>∃(a:Ë) (kvs:Á Äa) (ns:Á Æ),b=ϲ/\Rd H a ť/\Ϛc (·.1)=Ϥ ĭ/\ţ<=ä/\∀l,H l=Å->Q Ũb Ϧg
def z54(b:ŵ=Ä):vg X ϴd x0z:=by
 intro R s σ H T S Q I r h;let{a,n,d,rfl,x,t,j,q}:=h;let{u,rfl,E}:=qG r;cases(show u=Ė a from E);let{_,C,l,g,o,k,J,m,y,P,O,v,K}:=kC Ě x;let F:ãe Şf a l J:={o,k,m,y,P,O,v,K};show x4k (ýa b) C F ((KR g).trans t) j λh' A p e c f i N L G B z=>?_
 obtain rfl:f=Àb d:=Bi (G.trans (ðc d).symm) B (ñe d);show{.ref p,_,Ϗa (t':=A) (h':=h') z i (show xm ö X.w _ _ _ (Β ((Àb d).map üb))from{?_,e.toList,c,KD L,?_}),rfl,q _ (Ęb i)};rw[ã,(ðc d).length_eq];show j;rw[Ěh];show N
#print a
#print L2
namespace L3
open ľ ś ŋ L2
def GT:Á D->É D
 | [.dic ks _]=>(ZZ ks).bind λa=>À Ħl|_=>Å
def x3t(c:ŵ=Ä)(F:Gl X Ųa)(w:ñ Ųa=Å)(I:SA X [e] fs)(u:Î Ča q12) :SF X Ķp (eL GT fs):=by
 let{t,x,k}:=I.h;refine{{_,(OM (p:=p) (pos:=pos) (z54 c) F w Ew {x} Ò Ò (by rw[ϔ,u];rfl)).h,λ{L P G H τ σ d Q} E b q=>?_}};let{n,C,b}:=zH b;show k E C λJ K N g B=>?_
 rcases n with _|⟨x_,r_⟩;cases b
 cases x_<;>first|(cases b;done)|skip
 cases r_<;>first|(cases b;done)|skip
 rename_i A O;let{i,j,b}:=zH b;cases b;let{v,rfl,a,o,rfl,z,y,s,l}:=pR B
 let m:Ťb<=ä:=by let:=Ķi s;rw[Mn j,ã]at y;omega
 show{a,A.zip o,i,rfl,Ϲb g.gh z,?_,m,λr f=>?_};rw[<-Mn j];show Ěf Ê;show q r _ _ (ėg (Ŀa g.gh f)) (g.h.free f) (úp f) {_,yq,įd,?_};rw[ã,(ðc i).length_eq];show m
def Gn(K:Ô)(x:Ç):È:=ϙ K Ę x=À Å
def Gs(K:Ô)(x:Ç)(v:Value):È:=ϙ K Ę x=À Áa
def Tq(K:Ô)(d:É Ë)(a:Ë)(vs:Á Value):È:=∃n sl,Àa a=À {.type Ϗ,d,.seq ŷa n,sl}
def Dc(K:Ô)(w:æ)(a:Ë)(l:Á Đf):È:=(∃n,Àa a=À { cls:=.type Ña,ć:=.dict (ăk).toArray n })/\Ĵa=Ã
nonrec def vD:Á Value->É ěn
 | []=>À ([],[])|.int i _::r=>(ŗg).bind λp=>À (.int i::p.1,.int i::p.2)|.str s _::r=>match Ĝc Įe 1000 with
  |Ä=>(ŗg).bind λp=>À (.str s::p.1,.str s::p.2)|Ã=>Å
 |_=>Å
def vT(vs:Á Value):É ěn:=match Ĝc đ 1000 with
 |Ä=>vD vs|Ã=>Å
section
variable{K:Ô}{w:æ}{h:Heap}{mg:Ç->É Value}{a:Ë}{x:Ç}{v:Value}{d:É Ë}{n:Â}{i:Æ}{t:Tok}{s:Ç}{sl:Ú ϩa}{vs:Á Value}{us:Á V}{ds:Á D}{l:Á Đf}
def gn_mk(h:ϙ K Ę x=À Å):Gn K x:=h
def gs_mk(h:ϙ K Ę x=À Áa):Gs K x v:=h
def tq_mk(h:Àa a=À {.type Ϗ,d,.seq ŷa n,sl}):Tq K d a vs:={_,_,h}
def dc_mk(h:Àa a=À { cls:=.type Ña,ć:=.dict (ăk).toArray n })(q:Ĵa=Ã):Dc K w a l:={{n,h},q}
def jD(X:Ŷ h)(G:ėa Ę mg)(g:Gn K x):mg x=Å:=W.mg_none_of X G g
def ZW(X:Ŷ h)(G:ėa Ę mg)(g:Gs K x Ŗ):v6 mg x Ŗ:={_,Ác X G g,rfl}
def VQ(X:Ŷ h)(G:ėa Ę mg)(g:Gs K x ϡf):v6 mg x ϵ:={_,Ác X G g,{_,rfl}}
def z71(X:Ŷ h)(G:ėa Ę mg)(g:Gs K x (.str s t)):v6 mg x (.str s):={_,Ác X G g,{_,rfl}}
theorem SY:∀{vs:Á Value}{us:Á V}{ds:Á D},vD vs=À (us,ds)->zo us vs/\∀H,ê K H ds us
 | [],_,_,e=>by cases e;show{.nil,λ_=>rfl}|.int i t::r,_,_,e=>by let{p,e1,e}:=zH (show(ŗg).bind _=_ from e);cases e;let{b,c}:=SY e1;show{.cons {_,rfl} b,λH=>{_,_,rfl,rfl,c H}}
 |.str s t::r,_,_,e=>by
  cases z:Ĝc Įe 1000 with
  |Ã=>rw[show vD ϖn=match Ĝc Įe 1000 with|Ä=>_|Ã=>Å from rfl,z]at e;cases e
  |Ä=>rw[show vD ϖn=match Ĝc Įe 1000 with|Ä=>_|Ã=>Å from rfl,z]at e;let{p,e1,e}:=zH (show(ŗg).bind _=_ from e);cases e;let{b,c}:=SY e1;show{.cons {_,rfl} b,λH=>{_,_,rfl,{rfl,ÿb Đl},c H}}
def Y_(g:Tq K d a vs)(e:vT vs=À (us,ds))(H:Hp):zZ K H âj Ŗ:=by
 let{n,sl,g}:=g;cases z:Ĝc đ 1000 with
 |Ã=>rw[show vT vs=match Ĝc đ 1000 with|Ä=>_|Ã=>Å from rfl,z]at e;cases e
 |Ä=>rw[show vT vs=match Ĝc đ 1000 with|Ä=>_|Ã=>Å from rfl,z]at e;let{b,c}:=SY (K:=K) e;let q:=ÿb Đl;show{a,us,rfl,e7 g q b H,c H,by rw[<-(c H).length,Ûa];show q}
def Yz(g:Tq K Å a vs):CD K a:=let ⟨_,_,g⟩:=g;{_,g,rfl,rfl}
theorem f7:∀l:Á Đf,Y8 w (áa λp=>({ĉn w.params p.1,.str p.1 p.2.1,p.2.2}:Ċc)) (áa (·.1)) (áa (·.2.2))
 | []=>.nil|_::l=>.cons (f7 l)
#print a
abbrev HD(x:Ç)(ps:Á Ç)(k:Â)(F:Á D->É å)(P:ï)(w:æ)(K:Ô)(mg:Ç->É Value)(Ì:Heap):È:=wu P w K mg Ì x ps k ńe
def V5(K:Ô)(m q:Ç)(st:Ü)(ps:Á Ç)(f:Ë):È:=ŵe K Ī=Ä/\Üa K Ī=Ä/\∃fd,vo K m q st f fd/\uN K fd ps []
def Jc(K:Ô)(m:Ç)(f:Ë)(c:Ç):È:=∃C,ϙ K Ę c=À Ģa/\qK K C/\Śa K Ŧ m=À ŕa
def ZR(K:Ô)(c d m q:Ç)(st:Ü)(ps:Á Ç):È:=∃f,Jc K m f c/\Jc K m f d/\V5 K m q st ps f
def Jb(K:Ô)(c q:Ç)(st:Ü)(ps:Á Ç):È:=∃C f,ϙ K Ę c=À Ģa/\Ϸf K C=Ä/\Śa K Ŧ åb=À ŕa/\Üa K Ŧ=Ä/\V5 K åb q st ps f
def Lf(K:Ô)(c m q:Ç)(st:Ü)(ps:Á Ç):È:=∃C f,ϙ K Ę c=À Ģa/\İi K Ŧ ĵh=À ϝg/\Ϭi K C ķf=Ä/\ϭi K Ŧ ķf m=À Ži/\V5 K m q st ps f
def qM(K:Ô)(x:Ç)(st:Ü)(f:Ë):È:=ϙ K Ę x=À ŕa/\zS K x st
section
variable{K:Ô}{w:æ}{mg:Ç->É Value}{h:Heap}{c d m q x:Ç}{st:Ü}{ps xs ns:Á Ç}{f a:Ë}{C D:Ë}{sp:Sp}{k:Â}{l:Á Đf}{fs:Á Ë}
def cls_mk(c:Ďe K C ϰi=Ä)(a:ũf K C=Ä)(d:ıi K C=Ä)(b:Śa K Ŧ Ìi=À ϥg):qK K C:={c,a,d,b}
def mdp_mk{n:Value}{o h:É Ë}{j:Ú ϩa}{d kV g c a ct:Value}(i:ŵe K Ī=Ä)(l:Àa f=À {n,o,.func Ŀk,j})(e:ťb K a q=Ä)(k:Üa K Ī=Ä)(b:uN K Ŀk ps []):V5 K m q st ps f:={i,k,_,z70 l e k,b}
def mtc_mk(n:ϙ K Ę c=À Ģa)(a:qK K C)(g:Śa K Ŧ m=À ŕa):Jc K m f c:={C,n,a,g}
def mtp_mk(a:Jc K m f c)(b:Jc K m f d)(e:V5 K m q st ps f):ZR K c d m q st ps:={f,a,b,e}
def mkp_mk(n:ϙ K Ę c=À Ģa)(a:Ϸf K C=Ä)(g:Śa K Ŧ åb=À ŕa)(b:Üa K Ŧ=Ä)(e:V5 K åb q st ps f):Jb K c q st ps:={C,f,n,a,g,b,e}
def cmp_mk(n:ϙ K Ę c=À Ģa)(b:İi K Ŧ ĵh=À ϝg)(a:Ϭi K C ķf=Ä)(g:ϭi K Ŧ ķf m=À Ži)(e:V5 K m q st ps f):Lf K c m q st ps:={C,f,n,b,a,g,e}
def fnq_mk{i j:É Ë}{e:Ú ϩa}{h kV g d b ct:Value}(a:ϙ K Ę x=À ŕa)(l:Àa f=MV x st h i e kV g d j b ct)(c:ťb K b x=Ä)(k:Üa K Ī=Ä):qM K x st f:={a,fnp_mk a l c k}
def dF(b:∀s us,Ŷ â->èa=ģ->Ħb s fd {us,[]} þc):uN K fd ps []:=λs us c a=>by rw[Œ]at a ⊢;show b s us c a
def ZR.hh(a:ZR K c d m q st ps)(P:ï)(w:æ)(mg:Ç->É Value)(e:Heap)(ok:∀{f fd},vo K m q st f fd->xc P w K mg e xS k f fd ps sp):g8 P w K mg e c m ps k sp/\g8 P w K mg e d m ps k sp:=by let{f,{C,l,n,j},{D,o,h,p},i,g,fd,F,b}:=a;show{{C,f,fd,l,n,{j,i,g},b,ok F},{D,f,fd,o,h,{p,i,g},b,ok F}}
def Jb.hh(a:Jb K c q st ps)(X:Ŷ h)(G:ėa Ę mg)(P:ï)(w:æ)(d:Heap)(ok:∀{f fd},vo K åb q st f fd->xc P w K mg d xS k f fd ps sp):Li P w K mg d c ps k sp:=by let{C,f,n,j,g,e,i,l,fd,F,b}:=a;show{C,f,fd,n,Ác X G n,{j,g,i,e},b,ok F}
def Lf.hh(a:Lf K c m q st ps)(X:Ŷ h)(G:ėa Ę mg)(P:ï)(w:æ)(d:Heap)(ok:∀{f fd},vo K m q st f fd->xc P w K mg d xS k f fd ps sp):Lh P w K mg d c m ps k sp:=by let{C,f,n,j,e,g,i,l,fd,F,b}:=a;show{{C,f,fd,_,Ác X G n,j,e,g,l,b,ok F}}
def qM.n(a:qM K x st f)(X:Ŷ h)(G:ėa Ę mg):mg x=À Ī:=Ác X G a.1
def z63(g:Dc K w a l)(e:áa (·.2.2)=Ϡc Ė)(b:xs.Nodup)(ex:áa (·.1)=xs)(m:V6 mg ns fs):XY K w mg a ϖo ns:=by obtain⟨⟨n,g⟩,q⟩:=g;subst ex;show z77 g (e▸f7 l) b q m
#print a
section
variable{K:Ô}{fd:Ņ}{p0 p1 p2 p3:Ç}
def bd2(b:∀s x y,Ŷ â->Ħb s fd {Êc,[]} ((ře).zip Êc)):uN K fd ře []:=dF λs a c d=>us2 (P:=λa=>Ħb s fd {a,[]} ((ře).zip a)) (λx y=>b s x y c) a d
def bd4(b:∀s x y z u,Ŷ â->Ħb s fd {Ėp,[]} ((ée).zip Ėp)):uN K fd ée []:=dF λs a c d=>us4 (P:=λa=>Ħb s fd {a,[]} ((ée).zip a)) (λx y z u=>b s x y z u c) a d
#print a
#print L3
namespace L3
open ľ
nonrec def z78:Á D:=[ďb,(.str Ða),(.str Ìa)]
def Ma:D:=.tup z78
nonrec def IT:Á D:=[ŭc,Ēe,ŗf]
def Ta:D:=.tup IT
nonrec def z7a:Á D:=[ϛf,ňc,ğd,Úb,Űa,ŏb,ůa,Őb,ŗb,Ūc,Øb,Ýi,ϝf]
def Gq:D:=.tup z7a
nonrec def z7b:Á D:=[ćd,Üi,Ϝf,Úb,Űa,ŏb,ůa,Őb,ŗb,Ūc,Øb,Ýi,ϝf]
def Gu:D:=.tup z7b
nonrec def z79:Á D:=[Űa,ůa]
def Gp:D:=.tup z79
nonrec def z7d:Á D:=[(.str Ś),ϛf,ćd,Üi,Ϝf,Úb,Űa,ŏb,ůa,Őb,ŗb,Ūc,ňc,ğd]
def Gw:D:=.tup z7d
nonrec def z7e:Á D:=[Úb,Űa,ŏb,ůa,Øb,Őb,ŗb,Ūc,ňc,ğd]
def Gx:D:=.tup z7e
nonrec def z7c:Á D:=[Úb,Űa,ŏb,ůa,Øb,ňc,ğd]
def Gv:D:=.tup z7c
nonrec def fq:Á D:=[ů,æa,Ϭa,ϗp]
def TZ:D:=.tup fq
theorem Tg{g:FG}{c:FT}{e:FE}{σ:zw}(p:D->Ð)(v:D->D):∀{ds:Á D},(∀d∈ds,∃σ1,g d σ=À σ1/\c σ1=À (p d)/\(p d=Ä->e σ1=À (v d)))->wA g c e σ ds=À ((ds.filter p).map v)
 | [],_=>rfl|d::ds,h=>by
  let{σ1,e1,e2,b}:=h d ϳ;let a:=Tg p v (ds:=ds) λx f=>h x œp
  rw[ϳp];exact(žj).bind _=_;rw[e2];cases hp:p d with
  |Ã=>rw[ña Ĭm];show a|Ä=>rw[ąa hp];exact(Şd).bind _=_;rw[b hp];exact(Ϟm).bind _=_;rw[a];rfl
def Zc(v:D->D)(h:∀d∈ds,∃σ1,g d σ=À σ1/\e σ1=À (v d)):wA g xY e σ ds=À (ųe v):=by
 let:=Tg (g:=g) (c:=xY) (e:=e) (σ:=σ) (λ_=>Ä) v (ds:=ds) λd f=>by let{σ1,a,b}:=h d f;show{σ1,a,rfl,λ_=>b}
 rw[this,îh śf]
inductive XN(R:D->D->È):Á D->Á D->È
 |nil:XN R [] []
 |ð {x y:D} {xs ys:Á D}:R x y->XN R xs ys->XN R όa (y::ys)
theorem Ke{g:FG}{e:FE}{σ:zw}(R:D->D->È):∀{ds:Á D},(∀d∈ds,∃σ1 x,g d σ=À σ1/\e σ1=À x/\R d x)->∃xs,wA g xY e σ ds=À xs/\XN R ds xs
 | [],_=>{[],rfl,.nil}|d::ds,h=>by
  let{σ1,x,e1,e2,r}:=h d ϳ;let{xs,a,c}:=Ke R (ds:=ds) λx b=>h x ıd
  show⟨x::xs,?_,.cons r c⟩;rw[æq]
def UD{n i:Â}{d:D}(h:(wq n)[i]?=À d):i<n/\d=.int (i:Æ):=by
 let a:i<n:=by let:=ϊa.1;rw[ϲp]
 show{a,?_};simp[a]at h;show h.symm
def SX{n:Â}{d:D}(h:d∈wq n):∃i:Â,i<n/\d=.int (i:Æ):=by let{i,a,e}:=ϱd h;show{i,(UD (List.getElem?_eq_some_iff.mpr {a,e}))}
def UE(n:Â):(wq n).length=n:=by simp
def jY{α:Type}{xs:Á α}{i:Æ}{a:α}(b:0<=i)(h:xs[Ŕd]?=À a):ul xs i=À a:=by unfold ul;rw[Ï b,h]
def qq:Â->D->Ð
 |0,_=>Ã|n+1,.tup xs=>Ťd (qq n)|n+1,.lst xs=>Ťd (qq n)|_+1,d=>xw d
theorem Ez{f:D->D->Ð}:∀{xs:Á D},(∀x∈xs,f x x=Ä)->pC f xs xs=Ä
 | [],_=>rfl|x::xs,h=>by exact(f x x&&pC f xs xs)=Ä;rw[h x ϳ,Ez λy a=>h y čc];rfl
theorem G7:∀{xs:Á D},(∀x∈xs,xf x x=Ä)->Ϙa xs xs=Ä
 | [],_=>rfl|x::xs,h=>by exact(xf x x&&Ϙa xs xs)=Ä;rw[h x ϳ,G7 λy a=>h y čc];rfl
theorem O7:∀(n:Â)(d:D),qq n d=Ä->vw n d d=Ä/\xf d d=Ä
 |0,_,h=>by cases h|n+1,d,h=>by
  cases d with
  |tup xs=>have c:∀x∈xs,qq n x=Ä:=âa h;show{Ez λx a=>Ġf.1,G7 λx a=>Ġf.2}|lst xs=>have c:∀x∈xs,qq n x=Ä:=âa h;show{Ez λx a=>Ġf.1,G7 λx a=>Ġf.2}|dic ks vs=>cases h|exc _=>cases h|obj _ _ _=>cases h|zO=>show{rfl,rfl}|bl b=>show{rfl,đb b}|int i=>show{rfl,đb i}|str z=>show{rfl,đb z}
def fB(h:qq 6 d=Ä):YQ d d=À Ä:=by
 let{a,b}:=O7 6 d h
 have e:YQ d d=match vw 6 d d with
  |Ä=>À (xf d d)|Ã=>Å:=by cases d<;>rfl
 rw[e,a,b]
theorem z6u(h:qq 6 d=Ä):zh d d=À İ:=by unfold zh;rw[fB h];rfl
def lU(h:qq 6 d=Ä):vL d d=À ý:=by unfold vL;rw[fB h];rfl
def iA{i j:Æ}(h:i=j):zh ϵ ōd=À İ:=by subst h;exact À (Ìb (i==i))=_;rw[đb]
theorem iB{i j:Æ}(h:i≠j):zh ϵ ōd=À ý:=by exact À çi=_;rw[Íb h]
theorem Ãa{i j:Æ}:xN ϵ ōd=À Ťf:=rfl
theorem sr:∀ts:Á Ç,U9 Ĝe=À ts
 | []=>rfl|t::ts=>by exact(U9 Ĝe).bind _=_;rw[sr ts];rfl
def y0g(h:(đc (·.length)).sum+Ϭf*Ųc<=1000000):GO (.str sep) (Β Ĝe)=À (.str (Ŋm sep ts)):=by exact(U9 Ĝe).bind _=_;rw[sr];exact(if _<=yX then _ else _)=_;rw[Ï Ïh]
theorem œe(z:Ç)(lo hi:É Æ):(ŧn).length<=ł:=by exact((Œh _).take _).toArray.size<=ŝi;simp only[Ĭ,äa,ňa,Ĺ];omega
def ff:∀{ks:Á Ļ} {vs:Á α},Ń=đ->∀k',Ć Ģe áe k'=if k=k' then À v else Ć ks vs k':=by
 let f:∀{ks:Á Ļ} {vs:Á α},Ń=đ->∀k',yr ks k=Ä->Ć ks ϒg k'=if k=k' then À v else Ć ks vs k':=by
  intro ks
  induction ks with
  |nil=>intro vs _ k' h;cases h|ð a ks ih=>
   intro vs c k' h;cases vs with
   |nil=>cases c|ð b vs=>
    rw[úh];unfold Ć;by_cases e1:a=k;subst e1;by_cases e2:a=k';rw[Ï e2,Ï e2,Ï rfl];rw[Ñ e2,Ñ e2,Ñ e2];by_cases e3:yr ks a=Ä;let:=ih (vs:=vs) åc k' e3;rw[this,Ñ e2];let:∀{ks:Á Ļ} {vs:Á α},Ń=đ->yr ks a=Ã->Ć ks (õc (λk' x=>if k'=a then v else x) ks vs) k'=Ć ks vs k':=by
     intro ks
     induction ks with
     |nil=>intro vs _ _;rfl|ð a' ks ih'=>
      intro vs c h;cases vs with
      |nil=>cases c|ð b vs=>
       let d:decide (a'=a)=Ã/\yr ks a=Ã:=by let:(decide (a'=a)||yr ks a)=Ã:=h;show ïh this
       rw[úh];unfold Ć;rw[Ñ (of_decide_eq_false d.1),ih' åc d.2]
    show this åc (by simpa using e3);let d:yr ks k=Ä:=by let:(decide (a=k)||yr ks k)=Ä:=h;rw[ď e1]at this;rw[Ϯp]
    let:=ih (vs:=vs) åc k' d;rw[this,Ñ e1];by_cases e2:a=k';rw[Ï e2];rw[Ñ (λe=>e1 (e2.trans Ųe)),Ï e2];rw[Ñ e2];by_cases e3:k=k';rw[Ï e3,Ï e3];rw[Ñ e3,Ñ e3,Ñ e2]
 intro ks vs c k';unfold wD wE;by_cases h:yr ks k=Ä;rw[Ï h,Ï h];show f c k' h;rw[Ñ h,Ñ h];clear f
 induction ks generalizing vs with
 |nil=>
  cases vs with
  |nil=>rfl|ð _ _=>cases c
 |ð a ks ih=>
  cases vs with
  |nil=>cases c|ð b vs=>
   let d:¬ a=k/\¬ yr ks k=Ä:=by
    let:¬ (decide (a=k)||yr ks k)=Ä:=h
    rw[Ĵq];intro e;show this (by rw[ú e];rfl);intro e;show this (by rw[e,či])
   rw[ńb,ńb];exact(if a=k' then À b else Ć (ks++[k]) (vs++[v]) k')=if k=k' then À v else if a=k' then À b else Ć ks vs k'
   rw[ih åc d.2];by_cases e:a=k';rw[Ï e,Ï e];rw[Ñ (λg=>d.1 (Àc g.symm))];rw[Ñ e,Ñ e]
theorem h_(a:Sum Æ Ç):yr Ģe a=(yr ks a||decide (k=a)):=by unfold wD;by_cases h:yr ks k=Ä;rw[Ï h];by_cases e:k=a;subst e;rw[h];rfl;rw[ď e,ŀf];rw[Ñ h];unfold yr;rw[List.any_append];simp
theorem KA{α:Type}:∀{ks:Á Ļ} {us:Á α} {as:Á Ļ} {vs:Á α},Ń=èa->∀k,yr Ŕc.1 k=(yr as k||yr ks k)
 | [],us,as,vs,_,k=>by exact yr as k=(yr as k||Ã);rw[ŀf]|a::ks,[],_,_,h,_=>by cases h|a::ks,u::us,as,vs,h,k=>by exact yr (wN (wD as a) (wE as vs a u) ks us).1 k=_;rw[KA Ĉa,h_];exact _=(yr as k||(decide (a=k)||yr ks k));rw[Bool.or_assoc]
theorem B3(xs:Á D):vL Ϩ Đc=À (.bl (!xs.isEmpty)):=by
 cases xs with
 |nil=>show lU (d:=.lst []) rfl|ð x r=>have e:xf ϸn Đc=Ã:=rfl;exact(À (xf ϸn Đc)).bind _=_;rw[e];rfl
theorem En:∀(n:Â){l:Á Â},l.Nodup->(∀x∈l,x<n)->Ĕc<=n
 |0,l,_,h=>by
  cases l with
  |nil=>show ĺ _|ð x r=>show Þ (h x ϳ) æd
 |n+1,l,hd,h=>by
  by_cases hm:n∈l;let b:=En n (hd.erase n) λx a=>by let:=(hd.mem_erase_iff).mp a;let:=h x this.2;omega
  rw[List.length_erase_of_mem hm]at b;omega;let b:=En n hd λx a=>by
   let d:=h x a;let c:x≠n:=λe=>hm (e▸a)
   omega
  omega
def z3i(a:n<2 ^ w)(b:y/2 ^ l%2 ^ w=0):(y &&& Ûj)=0:=by
 apply ðf;intro i;rw[ëc,öd];rw[ìh];by_cases hl:l<=i;by_cases hi:i-l<w;let e:ĕe i=(y/2 ^ l%2 ^ w).testBit (i-l):=by rw[Īl,īl,ú hi,Ŀf,êd hl]
 rw[e,b,öd,İf];let:ϟi (i-l)=Ã:=Ľl (Ū a (ėh Ò Ê));rw[this];simp;simp[hl]
theorem z3h(x l w:Â):(x &&& (ϑp*2 ^ l))=x/2 ^ l%2 ^ w*2 ^ l:=by apply ðf;intro i;rw[ëc,ìh,ìh,Nat.testBit_two_pow_sub_one,Īl,īl];by_cases hl:l<=i;simp[hl,êd hl];rw[Bool.and_comm];simp[hl]
theorem z58(l w:Â):äh=((ϑp*2 ^ l:Â):Æ):=by let h:1<=2 ^ w:=Nat.one_le_two_pow;rw[Int.natCast_mul,Int.natCast_sub h];simp
def z42(a:0<=x)(l w:Â):ıa x äh=x/2^l%2^w*2^l:=by let{n,rfl}:=ņa a;rw[z58,ļl Ħg Ħg,Ĝ,Ĝ,z3h];simp
def z41(f:0<=y)(h:0<=n)(d:n<2 ^ w)(hz:y/2 ^ l%2 ^ w=0):ıa y Ûj=0:=by
 let{a,rfl}:=ņa f;let{b,rfl}:=ņa h;let e:(b:Æ)*2 ^ l=((b*2 ^ l:Â):Æ):=by simp
 let c:b<2 ^ w:=by
  let:((2 ^ w:Â):Æ)=(2:Æ) ^ w:=by simp
  omega
 let g:a/2 ^ l%2 ^ w=0:=by
  let:((a/2 ^ l%2 ^ w:Â):Æ)=(a:Æ)/2 ^ l%2 ^ w:=by simp
  omega
 rw[e,ļl Ħg Ħg,Ĝ,Ĝ,z3i c g];rfl
def z5t{x p r:Æ}(g:0<=x)(a:0<p)(b:0<r):0<=x-x/p%r*p/\Ųf/p%r=0/\Ųf/p/r=x/p/r/\Ųf%p=x%p:=by
 let e:0<=x/p:=Ħf g (õa a);let e1:x-x/p%r*p=x+p*(-(x/p%r)):=by rw[Int.mul_neg,Int.mul_comm p];omega
 let e2:Ųf/p=x/p-x/p%r:=by rw[e1,Int.add_mul_ediv_left _ _ (Ŗf a)];omega
 let c:x/p-x/p%r=r*(x/p/r):=by let:=Šl (x/p) r;omega
 show{?_,?_,?_,?_};let d:x/p%r<=x/p:=by let:=Šl (x/p) r;let f:0<=x/p/r:=Ħf e (õa b);let j:0<=r*(x/p/r):=Int.mul_nonneg (õa b) f;omega
 let h:x/p%r*p<=x/p*p:=Int.mul_le_mul_of_nonneg_right d (õa a);let i:=Int.ediv_mul_le x (Ŗf a);omega;rw[e2,c];show Int.mul_emod_right _ _;rw[e2,c];show Int.mul_ediv_cancel_left _ (Ŗf b);rw[e1];show Int.add_mul_emod_self_left ..
def mw(x:Æ)(w:Â):ıa x ((1:Æ)*2 ^ w-1)=x%2 ^ w:=by rw[ÿe,W.kbt_mask]
theorem w0v{x n:Æ}{l w:Â}(b:0<=x)(g:0<=n)(a:n<2 ^ w):Ϟa (ıa x (łb äh)) Ûj=x+(n-x/2 ^ l%2 ^ w)*2 ^ l:=by let f:(0:Æ)<2 ^ l:=Ĺi Ò;let d:(0:Æ)<2 ^ w:=Ĺi Ò;let{c,e,_,_}:=z5t b f d;rw[PyProof.Rows.bitAnd_not,z42 b,PyProof.Rows.bitOr_and,z41 c g a e,Int.sub_mul];omega
def Sb(a b:Â):È:=∀k,Ĥd k=Ä->ÿp k=Ä
def Ŗe(a:Â):Sb a a:=λ_ h=>h
def Sb.trans{a b c:Â}(h:Sb a b)(g:Sb b c):Sb a c:=λk z=>g k (h k z)
def Sb.b7(h:Sb a b)(g:Sb b a):a=b:=ðf λk=>by
 cases ea:Ĥd k with
 |Ä=>show(h k ea).symm|Ã=>
  cases eb:ÿp k with
  |Ã=>rfl|Ä=>rw[g k eb]at ea;cases ea
def Rc(a:Â):Sb 0 a:=λk h=>by rw[öd]at h;cases h
theorem eO:∀(k a p:Â),(a-Ża).testBit k=(Ĥd k&&!p.testBit k)
 |0,a,p=>by
  let b:Ża%2=(a%2)*(p%2):=by rw[ĉq];rcases Ûc a with e|e<;>rcases Ûc p with f|f<;>rcases Ûc Ża with g|g<;>rw[e,f,g]at this<;>rw[e,f,g]<;>first|rfl|(simp at this)
  let c:Ża<=a:=ύh;simp only[ėf];rcases Ûc a with e|e<;>rcases Ûc p with f|f<;>rw[e,f]at b<;>simp only[e,f]<;>simp<;>omega
 |k+1,a,p=>by
  let b:(a-Ża)/2=a/2-όn:=by
   let d:Ża/2=όn:=by
    show ðf λj=>?_
    rw[ëc,<-ød,<-ød,<-ød,ëc]
   let c:Ża<=a:=ύh
   let h:Ża%2<=a%2:=by rw[ĉq];rcases Ûc a with e|e<;>rcases Ûc Ża with g|g<;>rw[e,g]at this<;>rw[e,g]<;>first|omega|(simp at this)
   rw[<-d];omega
  rw[ød,b,eO k,ød,ød]
theorem Et(a:Â):decide ((0:Æ)<=łb (a:Æ))=Ã:=ď (by unfold łb;omega)
def b0(a:Â):decide ((0:Æ)<=(a:Æ))=Ä:=ú (ĸb a)
def dS(a:Æ):łb (łb a)=a:=by unfold łb;omega
def M7(a b:Â):Ϟa (a:Æ) (b:Æ)=((a ||| b:Â):Æ):=by unfold Ϟa ıa;rw[Et,Et];simp only[dS,Ĝ]
theorem Ej(a b:Â):ıa (a:Æ) (b:Æ)=((a &&& b:Â):Æ):=by unfold ıa;rw[b0,b0];simp only[Ĝ]
theorem z3x(a p:Â):ıa (a:Æ) (łb (p:Æ))=((a-Ża:Â):Æ):=by let b:Ża<=a:=ύh;unfold ıa;rw[b0,Et];simp only[dS,Ĝ];omega
def z44(h:x<2048)(hk:Żc k=Ä):k<11:=by rcases Ťc k 11 with c|c;show c;let:x<2 ^ k:=Ū h (ėh (n:=2) Ò c);rw[Ľl this]at hk;cases hk
def mh(d:a<2048)(c:b<2048):(a ||| b)<2048:=Ŀm (n:=11) d c
def z6b{a:Â}(p:Â)(b:a<2048):a-Ża<2048:=by omega
nonrec def pc(x:Â):Â:=(ϡ 11).countP λk=>Żc k
def y89(x:Â):pc x<=11:=by let:=List.countP_le_length (p:=λk=>Żc k) (l:=ϡ 11);rw[ňq]
theorem d_:∀{l:Á Â},(∀k∈l,p k=Ä->q k=Ä)->(∃k∈l,q k=Ä/\p k=Ã)->ßg p<ßg q
 | [],_,⟨k,h,_⟩=>by cases h|a::l,h,⟨k,b,h1,h2⟩=>by
  let e:ßg p<=ßg q:=List.countP_mono_left λk b z=>h k ıd z
  rcases ĩ b with rfl|b;rw[List.countP_cons_of_pos h1,List.countP_cons_of_neg (by rw[h2];decide)];omega;let d:=d_ (l:=l) (λk b=>h k ıd) {k,b,h1,h2};rw[ϊm,ϊm];let:=h a Ġ;by_cases c:p a=Ä;rw[Ï c,Ï (this c)];omega;rw[Ñ c];omega
def y8a{a b:Â}(h:Sb a b)(d:b<2048)(c:a≠b):pc a<pc b:=by
 show d_ (λk _ z=>h k z) ?_;apply Þh;intro f;show c (h.b7 λk z=>?_);cases e:Ĥd k with
 |Ä=>rfl|Ã=>show(f {k,Ća (z44 d z),z,e}).elim
def dE:FS:=
 (zQ (yb (tE ϣm)
   (yc Ĭf)
   xK)
  (yc ī))
def z9z(ns:Á Æ)(k:Â):ϯ[k]?=(ns[k]?).map ę:=ė
nonrec def ID(ns:Á Æ)(k:Æ):Æ:=Ϗf Ϸ 0
nonrec def JK:Á D->É å
 | [.lst xs,.int k]=>if 0<=k then((xs[Ϸ]?).getD ů |> λd=>À (Ã,d))else Å|_=>Å
def z5a(ns:Á Æ){k:Æ}(h:0<=k):JK ōm=À (Ã,.int ϋp):=by exact(if 0<=k then _ else _)=_;rw[Ï h,z9z];unfold ID;rw[ő];cases ns[Ϸ]?<;>rfl
def x1t:∀ds r,JK ds=À r->ü=2/\yL 2 dE ds=À r:=λds r h=>by
 rcases ds with _|⟨x,_|⟨y,_|⟨z,w⟩⟩⟩;cases h;cases x<;>cases h
 .cases x<;>first|(cases h;done)|skip
  cases y<;>first|(cases h;done)|skip
  rename_i a k
  replace h:(if 0<=k then À (Ã,(Źp).getD ů)else Å)=À r:=h
  show{rfl,?_};by_cases h0:0<=k;rw[Ï h0]at h;cases h;unfold dE;by_cases c:k<(úa:Æ);let e:zJ Ōd ŭf=À ((Źp).getD ů):=by exact ul a k=_;unfold ul;rw[Ï h0,Đ Ê];rfl
  simp only[Ø,ú c,e];let e:a[Ϸ]?=Å:=Öa Ê;simp only[Ø,ď c,e,Option.getD];rw[Ñ h0]at h;cases h
 .cases x<;>first|(cases h;done)|(cases y<;>cases h)
def z46(h:vV i<=m):ľd<2 ^ m:=by
 rw[Ōq];show Nat.pow_pos Ò;rw[Ĳq]
 show(ţh).mp Ê
def z45(h:ľd<2 ^ m):vV i<=m:=by
 rw[Ōq];show Ź _;rw[Ĳq]
 rw[e];show(ţh).mpr h
def z59{ns:Á Æ}{M:Â}(a:∀m∈ns,vV m<=M)(k:Æ):vV ϋp<=M:=by
 unfold ID;rw[ő];cases e:ns[Ϸ]? with
 |Å=>show Ź _|À m=>show a m ūj
def EO:FS:=
 (yc (e2 ðg én îl))
def vG:Á D->É å:=FR 3 3 EO
def z90(b x1 a:D):vG ϴ=yL 3 EO ϴ:=rfl
def CT:FS:=
 (zQ (zl 3 (e2 xN än ůl))
  (ηa (zC (e2 xE ı üg) (Α (e2 (ξb (j<=i)) ı üg)))))
def Uv:Á D->É å:=FR 3 4 CT
def z7o(b x1 a:D):Uv ϴ=yL 4 CT ϴ:=rfl
def EX:FS:=
 (zQ (zl 3 (e2 pH (e2 pH þ ą) ůl))
  (zQ (yb (tE (e2 Ļc ı ī))
   (ηa (zC (e2 xN ı üg) ϖh))
   xK)
  (Χb ŀi)))
def T7:Á D->É å:=FR 3 4 EX
def z98(b x1 a:D):T7 ϴ=yL 4 EX ϴ:=rfl
def EF:FS:=
 (zQ (zl 2 (e2 vz þ ą))
  (zQ (zl 3 (ξc (Νa (zC (eC Ϝb) Łi))))
  (ηa (zC (zg vG (Νa (zC ī Ńp))) Āc))))
def Wx:Á D->É å:=FR 2 4 EF
def z8r(a x1:D):Wx č=yL 4 EF č:=rfl
def EG:FS:=
 (zQ (zl 2 (ξc (Οa (zC (e2 pH ą Ŋ) Łi))))
  (ηa (zC én ŉb)))
def Wy:Á D->É å:=FR 2 3 EG
def z8s(a x1:D):Wy č=yL 3 EG č:=rfl
def Ee:FS:=
 (zQ (zl 4 (e2 vz îl ą))
  (yc (e2 Ńe (e2 ðg þ (e1 TU Ŝ)) (e2 vz ı ą))))
def V3:Á D->É å:=FR 4 5 Ee
def z9d(b x1 a x3:D):V3 Ġd=yL 5 Ee Ġd:=rfl
def Oz:FE:=(zg vG (Οa (zC ą Ĵf)))
def CZ:FS:=
 (ψd (wY 1 (vt Žj) ùb xY Oz))
def Uy:Á D->É å:=FR 1 1 CZ
def z7t(a:D):Uy [a]=yL 1 CZ [a]:=rfl
def Sz:FE:=(e2 vz ą ğ)
def Eh:FS:=
 (yc (eL GU (Α (wY 2 (Tc þ Žj) òg xY Sz))))
def JX:Á D->É å:=FR 1 1 Eh
def z9g(a:D):JX [a]=yL 1 Eh [a]:=rfl
def CW:FS:=
 (yc (GE þ ą ī))
def Ux:Á D->É å:=FR 2 2 CW
def z7r(a x1:D):Ux č=yL 2 CW č:=rfl
def CV:FS:=
 (yc (zg vG (zC än (zC ī ńp))))
def Uw:Á D->É å:=FR 2 2 CV
def z7q(a x1:D):Uw č=yL 2 CV č:=rfl
def DC:FE:=(zg Uw Űh)
def Cn:FS:=
 (vY (wY 1 (qm ī Ńb) ùb xY DC))
def Wp:Á D->É å:=FR 1 1 Cn
def z84(a:D):Wp [a]=yL 1 Cn [a]:=rfl
def DI:FE:=(zg Ux (zC þ ŉb))
def Eg:FS:=
 (yc (zg JX (Α (wY 1 (vt łi) ůb xY DI))))
def JW:Á D->É å:=FR 2 2 Eg
def z9f(a x1:D):JW č=yL 2 Eg č:=rfl
def ER:yZ:=
 (Vg 0 [] ą (wm (zg vG (Νa (zC ī Ĵf)))))
def T6:FM:=uB 3 3 ER
def z92(b x1 a:M):T6 ϴ=wy 3 3 ER ϴ:=rfl
def Mr:yZ:=(ji (jZ T6 (jW 0 [] (vA ı Ăe))))
def ES:yZ:=
 (Km (Tc łi ŉo) (Td 3 4)
   Mr)
def JT:FM:=uB 3 5 ES
def z93(b x1 a:M):JT ϴ=wy 3 5 ES ϴ:=rfl
def z18:FE:=(wP (zC ı ŀi))
def CS:yZ:=
 (wB (jF 0 [] [ŀ] Þb (Jz (eL VM Ïb)))
  (wB (jF 0 [] [ŀ] Ýb (Jz (Λc (wY 1 Ño īc xY z18))))
  (jF 0 [] [ŀ] øa (Jz (eL MQ ŉb)))))
def Uu:FM:=uB 3 3 CS
def z7n(b x1 a:M):Uu ϴ=wy 3 3 CS ϴ:=rfl
def Ci:yZ:=
 (θ (wm Ûd))
def JC:FM:=uB 2 2 Ci
def z81(a x1:M):JC č=wy 2 2 Ci č:=rfl
def Ce:yZ:=
 (θ (gD (zg V3 (zC ϧe (zC (eC Ϭa) (zC (eC Ϭa) (Α Ûd)))))))
def J9:FM:=uB 2 2 Ce
def z7y(a x1:M):J9 č=wy 2 2 Ce č:=rfl
def Cd:yZ:=
 (θ (gD ϱg))
def J8:FM:=uB 2 2 Cd
def z7x(a x1:M):J8 č=wy 2 2 Cd č:=rfl
def VE:FS:=
 (zQ (yb (Ζb Ϝn)
   (yc (zg Uv (Υ (Νa ŀi))))
   xK)
  (zQ (yb (Ζb (eC Űa))
   (yc (zg Uv (Υ Ĕi)))
   xK)
  (yc (zg T7 (Υ (Νc (Xk ı (e2 zh þ (eC ůa)))))))))
def ZO:Á D->É å:=FR 4 4 VE
def IV(b x1 a x3:D):ZO Ġd=yL 4 VE Ġd:=rfl
def ED:yZ:=
 (wB (ωa Ēe (e2 zh ą ī))
  (ωa ŗf (e2 zh (zg vG (Υ (zC (e2 pH (eC (.int 32)) Ŋ) Łi))) Ŋ)))
def Wv:FM:=uB 2 2 ED
def z8q(a x1:M):Wv č=wy 2 2 ED č:=rfl
def M4:yZ:=
 (wB (qR 2 (gD (zg ZO (Εe (zC ϱg (Α (e2 zJ (e1 (wK ĝi Ýb) þ) (eC ŭc))))))))
  (wB (ωa ŭc Ϟh)
  (wB (χb (vA Ùe vq))
  (Yc (νa (e2 vL Ņb ĥj))
   (θ (wm Ùe))
   Yd))))
def gm:FM:=uB 2 3 M4
def hZ(a x1:M):gm č=wy 2 3 M4 č:=rfl
def Cu:FS:=
 (zQ (yb (Ζb (eC Őb))
   (yc (e2 ðg ą ğ))
   xK)
  (zQ (yb (Ζb (eC ŗb))
   (yc (e2 Ńe ą ğ))
   xK)
  (yc (e2 (vW ϯh) ą ğ))))
def U_:Á D->É å:=FR 3 3 Cu
def z8b(b x1 a:D):U_ ϴ=yL 3 Cu ϴ:=rfl
def Cc:yZ:=
 (wB (qR 2 (gD (zg U_ (Εe (Α (e2 zJ (e1 Ðo þ) Ûd))))))
  (wB (χb (vA ğ vq))
  (θ Ėj)))
def XS:FM:=uB 2 3 Cc
def z7w(a x1:M):XS č=wy 2 3 Cc č:=rfl
def M3:yZ:=
 (wB (qR 2 (gD ϧe))
  (wB (qR 3 (wm (pG (tE (e2 zh Ņb ûg)) (zg Wx Çn) (zg Wy Çn))))
  (wB (Yc (νa (e2 IK Ϝh ϰa))
   (ωa ŭc Ϝh)
   Yd)
  (wB (χb (vA án vq))
  (θ (wm án))))))
def Wo:FM:=uB 2 4 M3
def hX(a x1:M):Wo č=wy 2 4 M3 č:=rfl
def CU:FS:=
 (yc (zg Uw (zC ϱg (Α (e2 zJ ą Ēb)))))
def XQ:Á D->É å:=FR 2 2 CU
def z7p(a x1:D):XQ č=yL 2 CU č:=rfl
def Cf:yZ:=
 (θ (gD (zg Ux Ăk)))
def JA:FM:=uB 2 2 Cf
def z7z(a x1:M):JA č=wy 2 2 Cf č:=rfl
def Cg:yZ:=
 (θ (gD (zg JW Ăk)))
def JB:FM:=uB 2 2 Cg
def z80(a x1:M):JB č=wy 2 2 Cg č:=rfl
def Cj:yZ:=
 (ji (jZ T6 Ĩk))
def JD:FM:=uB 2 2 Cj
def z82(a x1:M):JD č=wy 2 2 Cj č:=rfl
def Ck:yZ:=
 (ji (jZ JT Ĩk))
def JE:FM:=uB 2 2 Ck
def z83(a x1:M):JE č=wy 2 2 Ck č:=rfl
nonrec def jb:Á Ļ:=Ϭb .inr [Ś,òb,Ïa,Ńa,Ĕa,ła,ēa,ÿa,ϔa,ϗa,Ãb,Ĥa,ġa,şa,řa,Řa,Őa]
nonrec def eN:Á Ç:=[Úg,Ϩf,ϩf,Ēc,Ēc,Ēc,Ēc,Ēc,ĭd,ĭd,ĭd,Ĕe,Ĕe,ϧf,žf,Žf,Ŧf]
def IE:Á FM:=[JC,J9,J8,gm,gm,gm,gm,gm,XS,XS,XS,Wo,Wo,JA,JB,JD,JE]
def Jv:yZ:=
 (Yc (νa (e1 (VL jb) Ņb))
   (ji (Ex jb IE Ņb (jW 0 [] (vA ą vq))))
   Yd)
def j_:FM:=uB 2 2 Jv
def Go(a x1:M):j_ č=wy 2 2 Jv č:=rfl
def z3s:FS:=
 (zQ (yb (tE (e2 zh Ņb āf))
   (yc Žk)
   xK)
  (zQ (yb (tE (e2 zh Ņb Ēh))
   (yc (ML Žk))
   xK)
  (yc (e2 zh Ņb ňd))))
def gr:Á D->É å:=FR 2 2 z3s
def CP:FS:=
 (yc (IF (e2 zh (e1 (wK [à] ûb) þ) (e1 (wK [à] īb) þ)) (e2 zh (e2 zJ Ďk ī) (wP Ņp))))
def tL:Á D->É å:=FR 1 1 CP
def z7l(a:D):tL [a]=yL 1 CP [a]:=rfl
def M1:yZ:=
 (wB (Yc (X1 (tE él))
   ϑn
   Yd)
  (wB (qR 1 (gD Ďk))
  (wB (ji (jZ j_ (jW 0 Õe (vA Ņb vq))))
  (wB (jF 0 [] [à] ûb (gD (pG (tE (zg gr (zC áf (Α Ņb)))) Ûd Żg)))
  (wB (Kl 0 [] [à] ϡc Ŋ)
  ϐn)))))
def jS:FM:=uB 1 2 M1
def hU(a:M):jS [a]=wy 1 2 M1 [a]:=rfl
abbrev j5:Á Ļ:=[.inr ϻ,.inr ça,.inr ëa]
nonrec def Zs(a b c:Ð):D:=.dic j5 Ńc
def st(ws:Á D)(a b c:Ð)(hk:Á Ļ)(hv:Á D):M:=.obj ŀ łf [.own çj,.own Źc,.own ϖb]
def gF(ws:Á D)(a b c:Ð)(hk:Á Ļ)(hv:Á D):D:=.obj ŀ łf [.lst ws,Zs a b c,.dic hk hv]
abbrev JZ:Á Ç:=[ŗa,īb,Žb,êc,Ÿa,ûb,ϡc]
nonrec def xF(T:D)(e:Æ)(fw fh:D)(s:M)(due done:Æ):M:=.obj à JZ [.fz T,.fz ċg,.fz fw,.fz fh,s,.fz Ϣf,.fz (.int done)]
nonrec def vJ(T:D)(e:Æ)(fw fh:D)(s:D)(due done:Æ):D:=.obj à JZ [T,.int e,fw,fh,s,.int due,.int done]
section
variable{ws ws':Á D}{a b c d':Ð}{hk hk':Á Ļ}{hv hv':Á D}{T fw fh sd:D}{e due done:Æ}{s s':M}
def pV:vd ãc=gF ws a b c hk hv:=by simp only[st,gF,vd,ϴc]
theorem WC:vd ϓd=vJ T e fw fh (vd s) due done:=by simp only[xF,vJ,vd,ϴc]
theorem VC{i:Â}{π:Á wH}:k8 ãc i π=.p i π:=rfl
def kA:jB ãc Ãn=À (.own çj):=rfl
def Ju:jB ãc Än=À (.own (.dic j5 Ńc)):=rfl
def dA:jB ãc Ŏc=À (.own ϖb):=rfl
def kZ:jI ãc Ãn (.own (.lst ws'))=À (st ws' a b c hk hv):=rfl
def ni:jI ãc Ŏc (.own (.dic hk' hv'))=À (st ws a b c hk' hv'):=rfl
def OF{x y z:Ð}:jI ãc Än (.own (.dic j5 [.bl x,.bl y,.bl z]))=À (st ws x y z hk hv):=rfl
def jc:wK [ŀ] Þb Ĭh=À çj:=rfl
def GW:wK [ŀ] Ýb Ĭh=À Źc:=rfl
def GV:wK [ŀ] øa Ĭh=À ϖb:=rfl
def SQ:zJ Źc ŭc=À (.bl a):=rfl
def x7d:zJ Źc Ēe=À ŭb:=rfl
def x7e:zJ Źc ŗf=À (.bl c):=rfl
def BH:wD j5 Øp=j5:=rfl
def y9h:wD j5 Öp=j5:=rfl
def y9i:wD j5 Õp=j5:=rfl
def BO:wE j5 ěh Øp ķj=[.bl d',.bl b,.bl c]:=rfl
def x05:wE j5 ěh Öp ķj=[.bl a,.bl d',.bl c]:=rfl
def x06:wE j5 ěh Õp ķj=[.bl a,.bl b,.bl d']:=rfl
def dB:jB ϓd Õe=À s:=rfl
def nk:jI ϓd Õe s'=À (xF T e fw fh s' due done):=rfl
def GX:wK [à] ŗa Ñd=À T:=rfl
def fJ:wK [à] īb Ñd=À ċg:=rfl
def IM:wK [à] Ÿa Ñd=À sd:=rfl
def MU:wK [à] ûb Ñd=À Ϣf:=rfl
def fM:gM (.fz (.int d2)) Ūn 0 [] [à] ûb=À (Ξ (xF T e fw fh s d2 done)):=rfl
def dC:Kl 0 [] [à] ϡc Ŋ Ūn=À (Ξ (xF T e fw fh s due (done+1))):=rfl
def Lv(h:fo τ=À Ñd)(b:m ∉ JZ)(a:fs τ=À ds):jA à m fo fs τ=À (vJ T e fw fh sd due done::ds):=by unfold jA;rw[h];exact(match decide ((à : Ç) = à)&&!(decide (m∈JZ))with|Ä=>_|Ã=>_)=_;rw[ú (show(à : Ç) = à from rfl),ď b];exact(fs τ).bind _=_;rw[a];rfl
#print a
nonrec def wI(ns:Á Æ):Á D:=Ϥ ę
def Z4{ns:Á Æ}{k:Â}{v:Æ}:(śd).set k Ϯb=wI (ns.set k v):=(Ĉi ..).symm
def jt{ns:Á Æ}:(śd).length=ţ:=ã ..
def kJ{n k:Â}(h:k<n):Åc n (k:Æ)=À k:=by unfold Åc;rw[Ï ĥg];simp[h]
theorem pI{ns:Á Æ}{k:Â}{v:Æ}(h:ns[k]?=À v):zJ (Β śd) ĸf=À Ϯb:=by exact ul śd (k:Æ)=_;unfold ul;rw[Ï ĥg];exact śd[((k:Æ)).toNat]?=_;rw[Ĝ];unfold wI;rw[ė,h];rfl
def eM:z7 0 (À (Ã,vJ T e fw fh sd due done)::τ)=À Ñd:=rfl
def S5{T fw fh sd row nx tg:D}{e due done:Æ}{k:Ð}(h:due≠e->zJ T Ϣf=À ōh/\zh row όb=À Šd) :tL øl=À (Ã,.bl (decide (due=e)||k))\/due=e/\tL øl=À (Ã,.bl Ä):=by
 let b:∀{i j:Æ},zh ϵ ōd=À Ľo:=λ{i j}=>by rw[ġq]
 let f:∀{x y z:D},zJ Şc ů=À x:=rfl;rw[z7l];unfold CP;by_cases c:due=e;right
 show{c,?_};simp only[Ø,MU,fJ,b,c,Ϟb];left
 let{d,g}:=h c;let a:decide (due=e)=Ã:=ď c;rw[a];simp only[Ø,MU,fJ,GX,b,a,d,f,g];rfl
def x53{T fw fh row tg:D}{e due done:Æ}{s s':M}{nx:D}{f:Æ}(c:due≠e)(g:zJ T Ϣf=À ōh)(t:zh row όb=À ý)(l:uR ōh=Ä)(ns:∀d,s≠.fz d)(n:j_ [s,.fz row]=À ([s',.fz row],.fz .zO))(ld:Ð)(m:gr [vd s',row]=À (Ã,.bl ld))(j:(if ld then tg else nx)=.int f) :jS àh=À ([xF T e fw fh s' f (done+1)],.fz İ):=by
 let h:tL Åf=À (Ã,.bl Ã):=by rcases S5 (T:=T) (fw:=fw) (fh:=fh) (sd:=vd s) (row:=row) (nx:=nx) (tg:=tg) (e:=e) (due:=due) (done:=done) (k:=Ã) λ_=>{g,t}with z|⟨z,_⟩;rw[z,ď c];rfl;show Þ z c
 let q:∀{x y z:D},zJ Şc ů=À x:=rfl;let o:∀{x y z:D},zJ Şc ûa=À y:=rfl;let i:∀{x y z:D},zJ Şc ðb=À z:=rfl
 let r:k8 s 0 Õe=.p 0 Õe:=by
  cases s with
  |fz d=>show Þ rfl (ns d)|_=>rfl
 let a:∀τ:zw,jA à Şb þ zF Ĺk=À Åf:=λτ=>Lv eM Æa rfl
 rw[hU];unfold M1;cases ld with
 |Ã=>have b:nx=.int f:=j;subst b;simp only[ň,WC,a,h,GX,MU,g,l,q,o,i,dB,nk,r,n,IM,m,fM,dC]|Ä=>have b:tg=.int f:=j;subst b;simp only[ň,WC,a,h,GX,MU,g,l,q,o,i,dB,nk,r,n,IM,m,fM,dC]
theorem Z2{x y z:D}:zJ Şc ů=À x:=rfl
def Zt{x y z:D}:zJ Şc ûa=À y:=rfl
def Zu{x y z:D}:zJ Şc ðb=À z:=rfl
def VH{x y:D}:zJ ėd ů=À x:=rfl
def VI{x y:D}:zJ ėd ûa=À y:=rfl
def Ϧc{i j:Æ}:zh ϵ ōd=À Ľo:=by rw[ġq]
theorem Vb{x:Ç}:uY ϴb=À Čg:=rfl
def I_:decide (3<yX)=Ä:=by decide
section
variable{Ws:Á Æ}{a b c:Ð}{hk:Á Ļ}{hv:Á D}
def z6i{d:Â}{n:Æ}(e:d<œa):JC [st Ŕ a b c hk hv,.fz ϧg]=À ([st (wI (ϧc d n)) a b c hk hv,.fz ϧg],.fz .zO):=by rw[z81];unfold Ci;simp only[ň,Z2,Zt,Zu,kA,kZ,jt,kJ e,Z4]
theorem eQ{d s:Â}{v:Æ}(e:d<œa)(f:Ws[s]?=À v):J8 [st Ŕ a b c hk hv,.fz ϛg]=À ([st (wI (ϧc d v)) a b c hk hv,.fz ϛg],.fz .zO):=by rw[z7x];unfold Cd;simp only[ň,pV,jc,pI f,Z2,Zt,Zu,kA,kZ,jt,kJ e,Z4]
theorem Vf{w:Æ}{g:Æ}(h:vG Ýc=À (Ã,.int g)):Wv [st Ŕ a b c hk hv,.fz Ċg]=À ([st Ŕ a (decide Ŷb) (decide ϊd) hk hv,.fz Ċg],.fz .zO):=by rw[z8q];unfold ED;simp only[ň,pV,h,Ϧc,Vb,Ju,OF,I_,y9h,y9i,x05,x06]
theorem z6f{d:Â}{n v w:Æ}(e:Ws[d]?=À v)(h:V3 [.int v,.int 16,.int 16,.int n]=À (Ã,.int w)):J9 [st Ŕ a b c hk hv,.fz ϟg]=À ([st Çe a b c hk hv,.fz ϟg],.fz .zO):=by let f:d<œa:=še.1;rw[z7y];unfold Ce;simp only[ň,pV,jc,pI e,h,Z2,Zt,Zu,kA,kZ,jt,kJ f,Z4]
theorem z6l{k:Ç}{d s:Â}{x y w g:Æ}{u:Ð}(e:vL Ϸb Øb=À İ)(f:Ws[d]?=À x)(j:Ws[s]?=À y)(h:ZO Íh=À (Ã,.tup ϱh))(i:vG Ýc=À (Ã,.int g)) :gm Ôl=À ([st Çe u (decide Ŷb) (decide ϊd) hk hv,.fz Ćb],.fz .zO):=by let l:d<œa:=Ĭg.1;rw[hZ];unfold M4;simp only[ň,pV,jc,GW,SQ,pI f,pI j,h,Z2,Zt,Zu,VH,VI,Vb,Ju,OF,I_,BH,BO,Vf i,VC,e,kA,kZ,jt,kJ l,Z4]
theorem kD{k:Ç}{d s:D}{F:FM}{S a:M}(b:VL jb Ϸb=À İ)(c:Ć jb IE čg=À F)(e:∀d,S≠.fz d)(g:uR d=Ä)(i:uR s=Ä)(h:F įo=À (ĩo,.fz .zO)) :j_ įo=À (ĩo,.fz .zO):=by
 rw[Go];unfold Jv
 let f:k8 S 0 []=.p 0 []:=by
  cases S with
  |fz d=>show Þ rfl (e d)|_=>rfl
 simp only[ň,Z2,b,Vb,c,f,h]
theorem qu{ws:Á D}:∀d,st ws a b c hk hv≠.fz d:=λd h=>by cases h
#print a
section
variable{Ws:Á Æ}{a b c:Ð}{hk:Á Ļ}{hv:Á D}
def z6e{k:Ç}{d s:Â}{x y w g:Æ}(e:Ws[d]?=À x)(i:Ws[s]?=À y)(h:U_ [.str k,.int x,.int y]=À (Ã,.int w))(f:vG Ýc=À (Ã,.int g)) :XS Ôl=À ([st Çe a (decide Ŷb) (decide ϊd) hk hv,.fz Ćb],.fz .zO):=by let j:d<œa:=še.1;rw[z7w];unfold Cc;simp only[ň,pV,jc,pI e,pI i,h,Z2,Zt,Zu,Vf f,VC,kA,kZ,jt,kJ j,Z4]
theorem eS{k:Ç}{d:Â}{x n w g:Æ}(f:Ws[d]?=À x)(t:Ð)(e:zh Ϸb ňc=À (.bl t))(h:ėk=À (Ã,.tup [.int w,.zO]))(i:vG Ýc=À (Ã,.int g)) :Wo Ól=À ([st Çe a (decide Ŷb) (decide ϊd) hk hv,.fz ϔg],.fz .zO):=by
 rw[řq];cases t with
 |Ã=>rw[Ñ Ò]at h;simp only[ň,pV,jc,pI f,e,h,Z2,Zt,Zu,VH,VI,Vf i,VC,kA,kZ,jt,kJ j,Z4]|Ä=>rw[Ï rfl]at h;simp only[ň,pV,jc,pI f,e,h,Z2,Zt,Zu,VH,VI,Vf i,VC,kA,kZ,jt,kJ j,Z4]
theorem eU{k:Ç}{d:Â}{x n w g:Æ}{u:Ð}(f:Ws[d]?=À x)(t:Ð)(e:zh Ϸb ňc=À (.bl t))(h:ėk=À (Ã,.tup ϱh))(i:vG Ýc=À (Ã,.int g)) :Wo Ól=À ([st Çe u (decide Ŷb) (decide ϊd) hk hv,.fz ϔg],.fz .zO):=by
 rw[řq];cases t with
 |Ã=>rw[Ñ Ò]at h;simp only[ň,pV,jc,pI f,e,h,Z2,Zt,Zu,VH,VI,Vb,Ju,OF,I_,BH,BO,Vf i,VC,kA,kZ,jt,kJ j,Z4]|Ä=>rw[Ï rfl]at h;simp only[ň,pV,jc,pI f,e,h,Z2,Zt,Zu,VH,VI,Vb,Ju,OF,I_,BH,BO,Vf i,VC,kA,kZ,jt,kJ j,Z4]
#print a
inductive gz:D->È
 |Ϡ:gz όb
 |Wc {w:Ç} {d n:Æ} (hw:w = Ś \/ w = òb) (d0:0<=d) (d1:d<8) (n0:0<=n) (n1:n<65536):gz Îl
 |two {w:Ç} {d s:Æ} (hw:w = Ïa \/ w = Ńa \/ w = Ĕa \/ w = ła \/ w = ēa \/ w = ϔa \/ w = ϗa \/ w = Ãb \/ w = ÿa) (d0:0<=d) (d1:d<8) (s0:0<=s) (s1:s<8):gz Îp
 |Wd {w:Ç} {d n:Æ} (hw:w = Ĥa \/ w = ġa) (d0:0<=d) (d1:d<8) (n0:0<=n) (n1:n<32):gz Îl
 |mem {w:Ç} {d s n:Æ} (hw:w = şa \/ w = Řa \/ w = řa \/ w = Őa) (d0:0<=d) (d1:d<8) (s0:0<=s) (s1:s<8) (n0:0<=n) (n1:n<256):gz (.tup [.str w,.int d,.int s,.int n])
inductive C5(m:Æ):D->È
 |w8 {p:Æ} (p0:0<=p) (p1:p<=m):C5 m (.tup [.str Ĺa,.int p])
 |Ť {w k:Ç} {p:Æ} (hw:w = Ða \/ w = Ìa) (hk:k = ϻ \/ k = ça \/ k = ëa) (p0:0<=p) (p1:p<=m):C5 m (.tup [.str w,.str k,.int p])
def z33(m:Æ)(d:D):È:=gz d\/C5 m d
nonrec def xH:D->Ð
 |.tup Ōi=>w == Ĺa || w == Ða || w == Ìa|_=>Ã
def iz:D->D
 |.tup xs=>(ul xs (-1)).getD .zO|_=>.zO
nonrec def y0j:D:=.tup [.str Ĺa,.str Ða,.str Ìa]
theorem Zk(h:gz d):∃w,zJ d ů=À Ř/\xT Ř y0j=À ý/\zh Ř ŀc=À ý/\xH d=Ã/\qq 5 d=Ä:=by
 cases h with
 |Ϡ=>show{_,rfl,rfl,rfl,rfl,rfl}|Wc hw=>rcases hw with rfl|rfl<;>show{_,rfl,rfl,rfl,rfl,rfl}
 |two hw=>rcases hw with rfl|rfl|rfl|rfl|rfl|rfl|rfl|rfl|rfl<;>show{_,rfl,rfl,rfl,rfl,rfl}
 |Wd hw=>rcases hw with rfl|rfl<;>show{_,rfl,rfl,rfl,rfl,rfl}
 |mem hw=>rcases hw with rfl|rfl|rfl|rfl<;>show{_,rfl,rfl,rfl,rfl,rfl}
nonrec def zj:D->Ð
 |.tup Ōi=>w == Ŀj|_=>Ã
nonrec def xy(t:Ç):D:=.tup [.str Ŀj,.str t]
theorem BY(h:z33 m d):∃w,zJ d ů=À Ř/\zh Ř ŀc=À ý/\zj d=Ã/\qq 5 d=Ä:=by
 rcases h with h|h;cases h with
 |Ϡ=>show{_,rfl,rfl,rfl,rfl}|Wc hw=>rcases hw with rfl|rfl<;>show{_,rfl,rfl,rfl,rfl}
 |two hw=>rcases hw with rfl|rfl|rfl|rfl|rfl|rfl|rfl|rfl|rfl<;>show{_,rfl,rfl,rfl,rfl}
 |Wd hw=>rcases hw with rfl|rfl<;>show{_,rfl,rfl,rfl,rfl}
 |mem hw=>rcases hw with rfl|rfl|rfl|rfl<;>show{_,rfl,rfl,rfl,rfl}
 cases h with
 |w8=>show{_,rfl,rfl,rfl,rfl}|Ť hw hk=>rcases hw with rfl|rfl<;>rcases hk with rfl|rfl|rfl<;>show{_,rfl,rfl,rfl,rfl}
nonrec def To(t:Ç):D->Ð
 |.tup [_,.str u]=>u==t|_=>Ã
def ud(t:Ç)(s:Â×É Â)(d:D):Â×É Â:=match zj d with
 |Ä=>(s.1,match To t d with
  |Ä=>À s.1|Ã=>s.2)
 |Ã=>(s.1+1,s.2)
def xJ(t:Ç)(L:Á D):Â×É Â:=Ĭd że (0,Å)
def Vt(t:Ç)(L:Á D)(d:D):xJ t ϳb=ud t ϲa d:=by unfold xJ;rw[řh];rfl
theorem BK(t:Ç):∀(L:Á D)(s:Â×É Â),Âe.1=s.1+(Ųh).length
 | [],_=>rfl|d::L,s=>by
  rw[Êa,BK t L];unfold ud;cases h:zj d with
  |Ä=>rw[ña (by rw[h];decide)]|Ã=>rw[ąa (by rw[h];rfl),Ĉ];exact s.1+1+_=_;omega
def ND(t u:Ç)(L:Á D):(xJ t (L++[xy u])).2=if u=t then À (Ųh).length else ϲa.2:=by rw[Vt];let h:=BK t L (0,Å);exact(match(u==t)with|Ä=>À ϲa.1|Ã=>ϲa.2)=_;by_cases e:u=t;rw[Ï e,ϓb e];exact À ϲa.1=_;rw[show ϲa.1=_ from h,Ķ];rw[Ñ e,Íb e]
theorem NG{t:Ç}{L:Á D}{d:D}(h:zj d=Ã):(xJ t ϳb).2=ϲa.2:=by rw[Vt];unfold ud;rw[h]
theorem Xf{L:Á D}{r:D}(h:ϩ<=1000):tN (.lst L) r=À (Β (L++[r])):=by exact(if ϩ<yX then _ else _)=_;rw[Ï (by rw[ϥp])]
inductive ym:D->È
 |ía (t:Ç):ym Ϸj
 |Ϭ {d:D}:gz d->ym d
 |w8 (t:Ç):ym Øc
 |Ť {w k:Ç} (t:Ç) (hw:w = Ða \/ w = Ìa) (hk:k = ϻ \/ k = ça \/ k = ëa):ym Ğd
def Mi(h:ym d):∃w,zJ d ů=À Ř/\zh Ř ŀc=À (.bl (zj d))/\qq 5 d=Ä:=by
 cases h with
 |ía=>show{_,rfl,rfl,rfl}|Ϭ h=>let{w,a,b,c,e}:=BY (m:=0) Ěc;show{w,a,by rw[c];show b,e}
 |w8=>show{_,rfl,rfl,rfl}|Ť t hw hk=>rcases hw with rfl|rfl<;>rcases hk with rfl|rfl|rfl<;>show{_,rfl,rfl,rfl}
def y05(h:zj x=Ä):xH x=Ã:=by
 unfold zj at h
 rw[Éq];rename_i w r;let e:w = Ŀj:=by rw[įq]
 subst e;rfl;cases h
def z6p{R:D->D->È}{xs ys:Á D}(h:XN R xs ys):ë=Ŭ:=by
 induction h with
 |nil=>rfl|ð _ _ ih=>rw[Ĉ,Ĉ,ih]
theorem MM{R:D->D->È}{xs ys:Á D}(h:XN R xs ys):∀y∈ys,∃x∈xs,R x y:=by
 induction h with
 |nil=>show λ_ h=>(şe).elim|ð r _ ih=>intro z a;rcases ĩ a with rfl|a;show{_,Ġ ..,r};let{w,b,h}:=ih z a;show{w,Ų _ b,h}
theorem eZ{R:D->D->È}:∀{xs ys:Á D},ë=Ŭ->(∀(i:Â) x y,xs[i]?=À x->ys[i]?=À y->R x y)->XN R xs ys
 | [],[],_,_=>.nil| [],_::_,h,_=>by cases h|_::_,[],h,_=>by cases h|x::xs,y::ys,h,r=>.cons (r 0 x y rfl rfl) (eZ Ĉa λi a b d c=>r î a b Ħm åc)
inductive g9(N:Á Ç):D->È
 |Ϭ {d:D}:gz d->g9 N d
 |w8 {t:Ç} (ht:t∈N):g9 N Øc
 |Ť {w k t:Ç} (hw:w = Ða \/ w = Ìa) (hk:k = ϻ \/ k = ça \/ k = ëa) (ht:t∈N):g9 N Ğd
def Lj(N:Á Ç)(d:D):È:=g9 N d\/∃t∈N,d=xy t
def Nn{N:Á Ç}{d:D}(h:g9 N d):ym d/\zj d=Ã:=by
 cases h with
 |Ϭ h=>let{_,_,_,l,_}:=BY (m:=0) Ěc;show{.plain h,l}
 |w8 ht=>show{.w8 _,rfl}|Ť hw hk ht=>show{.cond _ hw hk,by rcases hw with rfl|rfl<;>rfl}
def y07{N:Á Ç}{d:D}(h:Lj N d):ym d:=by rcases h with h|⟨t,_,rfl⟩;show(Nn h).1;show .label t
nonrec def pD(p:Æ×Æ):D:=.tup [.int p.1,.int p.2]
structure j6(ps:Á ķ):È where
 ad:∀p∈ps,0<=p.1/\p.1<65536
 jy:∀p∈ps,0<=p.2/\p.2<256
 nd:(ϋ (·.1)).Nodup
def Cs:FS:=
 (zQ (yb (Z1 (tE (Xl .bool þ)) (ο (Xl .int þ)))
   (yc Ŏf)
   xK)
  (yc (Xk (e2 (ξb (i<=j)) ī þ) (e2 Ļc þ (e2 vz Ŋ ą)))))
def ZN:Á D->É å:=FR 2 2 Cs
def z89(a x1:D):ZN č=yL 2 Cs č:=rfl
def Cp:FS:=
 (yc (zg ZN (Οa ńp)))
def JG:Á D->É å:=FR 1 1 Cp
def z86(a:D):JG [a]=yL 1 Cp [a]:=rfl
def Ct:FS:=
 (zQ (yb (Z1 (ο (Xl .tuple þ)) (tE (e2 vL ϛb Ϛa)))
   (yc Ŏf)
   xK)
  (yc (Xk (zg JG (Α Ëd)) (zg ZN (zC ēh Ĵf)))))
def JH:Á D->É å:=FR 1 1 Ct
def z8a(a:D):JH [a]=yL 1 Ct [a]:=rfl
def KS:FS:=(zQ (yb (ο (zg JH ŉb))
     ăc
     xK)
    (zQ (yb (tE (e2 xT Ùe (qP 1)))
     ăc
     xK)
    (jo 1 Ùe Ϟh)))
def CY:FS:=
 (zQ Ϸo
  (zQ (yb Ϣl
   Âk
   xK)
  (zQ (yb ϖl
   ăc
   xK)
  (zQ (jK Ęc ůb
   KS)
  Âk))))
def Wn:Á D->É å:=FR 1 3 CY
def z7s(a:D):Wn [a]=yL 3 CY [a]:=rfl
def S_:FE:=(zg ZN (Υ Ńp))
def Ei:FS:=
 (zQ (yb Ϣl
   (vY (e2 TV Ŵh Ŝb))
   xK)
  (zQ (yb (Z1 ϖl (tE (e2 vL ϛb Ŝb)))
   ăc
   xK)
  (zQ (yb (ο (eL GL (Α (wY 1 Ęc ùb xY S_))))
   ăc
   xK)
  (vY (eL VM Īa)))))
def JY:Á D->É å:=FR 1 1 Ei
def z9h(a:D):JY [a]=yL 1 Ei [a]:=rfl
def Cr:FS:=
 (yc (εa ýg))
def XU:Á D->É å:=FR 1 1 Cr
def z88(a:D):XU [a]=yL 1 Cr [a]:=rfl
def Cq:FS:=
 (yc (e2 xT Ëd (eC Ma)))
def XT:Á D->É å:=FR 1 1 Cq
def z87(a:D):XT [a]=yL 1 Cq [a]:=rfl
def z1e:FE:=ą
def A8:FT:=(ο (zg XU Ïb))
def EU:FS:=
 (vY (wY 1 Ęc ùb A8 z1e))
def uO:Á D->É å:=FR 1 1 EU
def z95(a:D):uO [a]=yL 1 EU [a]:=rfl
def Mo:FS:=(yb (tE (zg XU Āc))
     (jo 1 Ϝh ğ)
     (zl 2 (e2 īf ğ Ŋ)))
def Cv:FS:=
 (zQ Ϸo
  (zQ Ϣo
  (zQ (jK Ęc īc
   Mo)
  Âk)))
def Wq:Á D->É å:=FR 1 4 Cv
def z8c(a:D):Wq [a]=yL 4 Cv [a]:=rfl
def Sw:FE:=(pG ϟm (e2 zJ ą (e2 zJ ğ ģd)) ϰa)
def EY:FS:=
 (zQ (zl 1 Ŗo)
  (vY (wY 1 Ęj ůb xY Sw)))
def g6:Á D->É å:=FR 1 2 EY
def z99(a:D):g6 [a]=yL 2 EY [a]:=rfl
def KZ:FS:=(jo 2 ı (wP (zC (e2 zJ ą ı) (zC ĭf Èg))))
def EW:FS:=
 (zQ ϓf
  (zQ Źi
  (zQ (jK Ĝj Ěj
   KZ)
  Ák)))
def JU:Á D->É å:=FR 1 5 EW
def z97(a:D):JU [a]=yL 5 EW [a]:=rfl
def CK:yZ:=
 (wB (jF 0 [] [à] Ÿa (IC ŀ Uu (jW 0 Æn (jW 0 Ån vq))))
  (wB (jF 0 [] [à] ûb ėj)
  (jF 0 [] [à] ϡc ėj)))
def XO:FM:=uB 1 1 CK
def z7g(a:M):XO [a]=wy 1 1 CK [a]:=rfl
def CJ:yZ:=
 (wB (jF 0 [] [à] ŗa (wm ą))
  (wB (jF 0 [] [à] īb Ėj)
  (wB (jF 0 [] [à] Žb (wm (we JY Āc)))
  (wB (jF 0 [] [à] êc (wm (we Wn Èg)))
  (ji (kB à ŏe 0 [] XO vq))))))
def Ut:FM:=uB 5 5 CJ
def z7f(b x1 a x3 x4:M):Ut ĳf=wy 5 5 CJ ĳf:=rfl
def CQ:yZ:=
 (wB (qR 4 (wm (we JU Ïb)))
  (ji (jZ Ut (jW 0 [] (vA Ŝ (vA (eL GP Èg) (vA ğ (vA ı vq))))))))
def ZM:FM:=uB 4 5 CQ
def z7m(b x1 a x3:M):ZM Ġd=wy 4 5 CQ Ġd:=rfl
theorem y24(P:Â->yM->È):∀{ds:Á D}{β:yM}(n:Â),P n β->(∀i d β,ds[i]?=À d->P (n+i) β->∃β1 β2,g d β=À β1/\b β1=À ŝb/\P Ŷj β2)->
  ∃β',gI g b ds β=À (.nx β')/\P ŵj β'
 | [],β,n,h,_=>{β,rfl,h}|d::ds,β,n,h,Ăa=>by
  let{β1,β2,e1,e2,s}:=Ăa 0 d β rfl h
  let{β',p,r}:=y24 P (ds:=ds) (β:=β2) ħ s λi k τ e o=>by let{a,j,c,l,q}:=Ăa î k τ Ňa (by rw[Ěq];show o);show{a,j,c,l,by rw[ûq];show q}
  show{β',?_,by rw[ïq];show r};exact((g d β).bind λβ1=>(Ĺg).bind λf=>match f with|.nx β2=>gI g b ds β2|.ct β2=>gI g b ds β2|.bk β2=>À ŝb|.rt m β2=>À ōi)=_;rw[e1];exact(Ĺg).bind _=_;rw[e2];show p
def N1{i:Æ}{w:Â}(e:w<=64):ZN [.int i,.int (w:Æ)]=À (Ã,.bl (decide ϔe&&decide (i<2 ^ w))):=by
 let b:pP 1 (w:Æ)=Ä:=by unfold pP;rw[ú Ê,ú Ê];rfl
 let d:vz ûa Ļn=À ţn:=by rw[Ġq];rw[b];exact À Çf=_;rw[Ĝ,ÿe]
 rw[z89];unfold Cs;by_cases c:0<=i;let a:decide ϔe=Ä:=ú c;rw[a];simp only[Ø,a,b,Ĝ,ÿe];let a:decide ϔe=Ã:=ď c;rw[a];simp only[Ø,a,İf]
theorem w11{Ws:Á Æ}(h:œa=8)(n:∀w∈Ws,0<=w/\w<4294967296):JY ϐf=À (Ä,.lst Ŕ):=by
 let e:wA ùb xY S_ [À (Ã,.lst Ŕ),Å] Ŕ=À ((Ŕ).map λ_=>.bl Ä):=Zc (λ_=>.bl Ä) λd k=>by
  let{w,c,rfl}:=Èa k;rw[Ϸp];let{a,b}:=n w c;let g:=N1 (i:=w) (w:=32) Ò;let f:(2:Æ) ^ 32=4294967296:=by decide
  rw[f,ú a,ú b]at g;unfold S_;simp only[Ø,show ZN [.int w,.int 32]=À (Ã,.bl Ä)from g]
 let e2:(Ŕ).map (λ_=>Ìb Ä)=(Ő 8 Ä).map Ìb:=by unfold wI;rw[ϰ,ĺh,<-h,<-List.map_const'];rfl
 let m:GL [.lst [.bl Ä,.bl Ä,.bl Ä,.bl Ä,.bl Ä,.bl Ä,.bl Ä,.bl Ä]]=À İ:=rfl;rw[e2]at e;let l:VM ϐf=À ĝa:=rfl
 let j:vL (.int ((Ŕ).length:Æ)) æa=À ý:=by rw[jt,h];rfl
 rw[z9h];unfold Ei;simp only[Ø,j,e,m,l]
nonrec def kP(ps:Á ķ):Á Ļ:=ϋ λp=>.inl p.1
nonrec def vP(ps:Á ķ):Á D:=ϋ λp=>.int p.2
def K9:yr ĸ Ģb=decide (a∈ϋ (·.1)):=by
 unfold yr kP;rw[ĉi,řc,ăf,ϋm]
 rw[Ĵq];rintro⟨p,b,e⟩;let c:=š e;show œc {p,b,ïc c};intro h;let{p,b,e}:=Èa h;show{p,b,ú (ĳ ĭ e)}
def nc(h:a ∉ ϋ (·.1)):wD ĸ Ģb=kP Źn/\wE ĸ ų Ģb ıj=vP Źn:=by
 let c:yr ĸ Ģb=Ã:=by rw[K9];show ď h
 unfold wD wE;rw[Ñ Ŧm,Ñ Ŧm];unfold kP vP;rw[Ċa,Ċa];show{rfl,rfl}
def y87{p:Æ×Æ}(b:0<=p.1/\p.1<65536)(d:0<=p.2/\p.2<256):JH [pD p]=À (Ã,.bl Ä):=by
 let a:=N1 (i:=p.1) (w:=16) Ò;rw[ú b.1,ú (show p.1<2 ^ 16 from b.2)]at a;let c:=N1 (i:=p.2) (w:=8) Ò;rw[ú d.1,ú (show p.2<2 ^ 8 from d.2)]at c;let h:ZN [.int p.1,.int 16]=À (Ã,.bl Ä):=a;let g:ZN [.int p.2,.int 8]=À (Ã,.bl Ä):=c
 let e:JG [.int p.1]=À (Ã,.bl Ä):=by rw[z86];unfold Cp;simp only[Ø,h]
 let f:vL (.int ((0+1+1:Â):Æ)) ðb=À ý:=rfl;rw[z8a];unfold Ct pD;simp only[Ø,VH,VI,e,g,f]
theorem z4i{ps:Á ķ}(P:j6 ps)(v:ģ<=1000):Wn [.lst ϕc]=À (Ä,.dic ĸ ų):=by
 let{σ',e1,x,rfl}:=kL (g:=yC 2) (b:=KS) (λi σ=>∃x:É Sl,σ=[À (Ã,.lst ϕc),À (Ä,.dic Ņe (vP ϸd)),x])
  (ds:=ϋ pD) (σ:=[À (Ã,.lst ϕc),À (Ä,.dic [] []),Å]) 0 {Å,rfl} λi d σ h c=>by
   let{x,rfl}:=c;rw[Ķ];let e:i<ģ:=by let:=ϊa.1;rw[ã]at this;rw[Ϯp]
   rw[ė,Đ e]at h;cases h;generalize c:ps[i]=p;let l:p∈ps:=c▸ϐb e;let u:=y87 (P.ad p l) (Ąb p l);let m:Ϝi î=Ϝi i++[p]:=by rw[ĸc e,c]
   let a:p.1 ∉ (ϸd).map (·.1):=by
    let j:=Äd
    have e2:ϋ (·.1)=(ϸd).map (·.1)++p.1::(ps.drop î).map (·.1):=by rw[<-c,<-ĵ,<-ϋb e,<-Ċa,ϛa]
    rw[e2,łm]at j;intro z;show j.2.2 _ z _ Ġ rfl
   let f:xT Ϡf (.dic Ņe (vP ϸd))=À ý:=by exact((uY Ϡf).bind λk=>À (yr Ņe k)).bind _=_;exact À (Ìb (yr Ņe Úp))=_;rw[K9,ď a]
   let{n,s}:=nc (b:=p.2) a;let r:(Ņe).length<yX:=by unfold kP;rw[ã,äa];rw[ϥp]
   show{_,[À (Ã,.lst ϕc),À (Ä,.dic (kP Ĥp) (vP Ĥp)),À (Ã,pD p)],rfl,.inl ?_,_,rfl};rw[m];unfold KS;let t:zJ (pD p) ů=À Ϡf:=rfl;let q:zJ (pD p) ûa=À (.int p.2):=rfl;let o:uY Ϡf=À Úp:=rfl;rw[<-n,<-s];simp only[Ø,u,t,q,f,jo,o,Ï r]
 rw[Ķ,ã,Œc]at e1;rw[z7s];unfold CY;rw[śq]
def CA(r:D):È:=XU [r]=À (Ã,.bl Ã)/\XT [r]=À (Ã,.bl Ã)
nonrec def qW(n:Â):Á Ļ:=(ĩb).map λk:Â=>.inl (k:Æ)
theorem fW{g:Â->D}{k:Â}:∀{xs:Á Â},k∈xs->Ć (ģc λk:Â=>(.inl (k:Æ):Sum Æ Ç)) (ģc g) (.inl (k:Æ))=À (g k)
 | [],h=>Þ h ô|x::xs,h=>by rw[ĵ,ĵ];unfold Ć;by_cases c:x=k;rw[Ï Âp,c];rw[Ñ (λz=>c šk)];show fW ϒk
def z08:yr śg ėb=Ã:=by unfold yr qW;rw[ĉi,Ņm];intro k a;let:=ñd a;exact ¬ decide ((.inl (k:Æ):Sum Æ Ç)=.inl (n:Æ))=Ä;rw[ăf];intro z;let:=ïc z;omega
def x52{Ws:Á Æ}{hk:Á Ļ}{hv:Á D}:Uu [.obj ŀ [] [],.fz ĝa,.fz ϖb]=À ([st Ŕ Ã Ã Ã hk hv,.fz ĝa,.fz ϖb],.fz .zO):=by let e1:wA īc xY z18 [Å,À (Ã,.lst Ŕ),À (Ã,.dic hk hv),Å] IT=À ñk:=rfl;let e2:YO [.lst ñk]=À (Zs Ã Ã Ã):=rfl;let b:VM ϐf=À ĝa:=rfl;let c:MQ [.dic hk hv]=À ϖb:=rfl;let a:∀{x:M}{z_:yM},gM x (γ (.obj ŀ [] [])) 0 [] [ŀ] Þb=À (Ξ (.obj ŀ [Ĺj] [x])):=rfl;let e:∀{x y:M}{z_:yM},gM x (γ (.obj ŀ [Þb] [y])) 0 [] [ŀ] Ýb=À (Ξ (.obj ŀ [Ĺj,"truths"] [y,x])):=rfl;let d:∀{x y z:M}{z_:yM},gM x (γ (.obj ŀ [Þb,Ýb] [y,z])) 0 [] [ŀ] øa=À (Ξ (.obj ŀ [Ĺj,"truths",øa] [y,z,x])):=rfl;rw[z7n];unfold CS;simp only[ň,Ta,e1,e2,b,c,a,e,d];rfl
def z3f{T fw fh:D}{e:Æ}{Ws:Á Æ}{hk:Á Ļ}{hv:Á D}{fs:Á Ç}{ms:Á M}:XO [.obj à Ϩe ûk]=À ([xF T e ĝa ϖb (st Ŕ Ã Ã Ã hk hv) 0 0],.fz .zO):=by let h:jB Ĳm Æn=À (.fz ĝa):=rfl;let i:jB Ĳm Ån=À (.fz ϖb):=rfl;let j:∀{a b c d x:M}{z_:yM},gM x ϴg 0 [] [à] Ÿa=À (Ξ (.obj à šl [a,b,c,d,x])):=rfl;let l:∀{a b c d f x:M}{z_:yM},gM x (γ (.obj à šl [a,b,c,d,f])) 0 [] [à] ûb=À (Ξ (.obj à Ăl [a,b,c,d,f,x])):=rfl;let k:∀{a b c d f g x:M}{z_:yM},gM x (γ (.obj à Ăl [a,b,c,d,f,g])) 0 [] [à] ϡc=À (Ξ (.obj à JZ [a,b,c,d,f,g,x])):=rfl;rw[z7g];unfold CK;simp only[ň,h,i,x52,j,l,k];rfl
def Rr{x:Æ}{n:Â}(b:0<=x)(a:x<4294967296)(c:n<=64):pP x (n:Æ)=Ä:=by unfold pP;rw[ú Ê,ú Ê,ú (show x.natAbs<2 ^ 64 by omega)];rfl
def Yi{x:Æ}{l w:Â}(b:w<=64):vG [.int x,.int (l:Æ),.int (w:Æ)]=À (Ã,.int (x/2 ^ l%2 ^ w)):=by
 let a:pP 1 (w:Æ)=Ä:=Rr Ò Ò b
 let c:vz ûa Ļn=À ţn:=by rw[Ġq];rw[a];exact À Çf=_;rw[Ĝ,ÿe]
 let d:TW ţc (.int (l:Æ))=À (Ζ ţp):=by exact(match decide ((0:Æ)<=(l:Æ))with|Ä=>À Él|Ã=>Å)=_;rw[ú (ĸb l)];exact À Él=_;rw[Ĝ]
 let e:=mw ţp w;rw[ÿe]at e;rw[z90];unfold EO;simp only[yL,zQ,zl,yc,e1,e2,z7,eC,éc,ĵ,òe,ńb,ìc,Ĉ,Řc,Čb,Ãm,ĸh,ķh,įl,Įl,c,d,pH,vW,Øi,Öi,Řn,e]
nonrec def vk(ps:Á ķ)(a b:Æ):Á ķ:=if a∈ϋ (·.1)then ϋ ϧk else ps++[(a,b)]
nonrec def gP:Á ķ->Æ->Æ
 | [],_=>0|p::ps,a=>if p.1=a then p.2 else gP ps a
theorem fY(a:Æ):∀ps:Á ķ,(Ć ĸ ų Ģb).getD ů=.int (gP ps a)
 | []=>rfl|p::ps=>by exact(if(ĭ p.1:Sum Æ Ç)=.inl a then À (ę p.2)else Ć ĸ ų Ģb).getD ů=.int (if p.1=a then p.2 else gP ps a);rw[Űq];rfl;rw[Ñ ϕm,Ñ h];show fY a ps
theorem ZV(a:Æ):∀{ps:Á ķ},(∀p∈ps,0<=p.2/\p.2<256)->0<=gP ps a/\gP ps a<256
 | [],_=>{by exact(0:Æ)<=0;decide,by exact(0:Æ)<256;decide}|p::ps,h=>by
  unfold gP
  split;show h p Ġ;show ZV a λq b=>h q ıd
theorem z1g(a b:Æ):∀ps:Á ķ,õc (λk' x=>if k'=(ĭ a:Sum Æ Ç)then ę b else x) ĸ ų=vP ϯg
 | []=>rfl|p::ps=>by exact(if(ĭ p.1:Sum Æ Ç)=.inl a then ę b else .int p.2)::õc _ ĸ ų=ę ûl.2::vP ϯg;rw[z1g a b ps];rw[Űq];rw[Ñ ϕm,Ñ h]
theorem GZ(a b:Æ):∀ps:Á ķ,(ϯg).map (·.1)=ϋ (·.1)
 | []=>rfl|p::ps=>by exact ûl.1::_=p.1::_;rw[GZ a b ps];by_cases h:p.1=a;rw[Ï h,<-h];rw[Ñ h]
theorem y0k(h:ϋ (·.1)=ħa (·.1)):kP ps=kP qs:=by
 let e:∀l:Á ķ,kP l=(áa (·.1)).map ĭ:=λl=>by rw[ϰ];rfl
 rw[e,e,h]
theorem rh(ps:Á ķ)(a b:Æ):wD ĸ Ģb=kP Ŵf/\wE ĸ ų Ģb ıj=vP Ŵf:=by by_cases h:a∈ϋ (·.1);unfold vk wD wE;rw[Ï h,K9,Ï (ú h),Ï (ú h),z1g,y0k (GZ a b ps)];show{rfl,rfl};unfold vk;rw[Ñ h];show nc h
def rq{ps:Á ķ}{a b:Æ}(P:j6 ps)(e:0<=a)(d:a<65536)(b0:0<=b)(f:b<256):j6 Ŵf:=by
 unfold vk;by_cases h:a∈ϋ (·.1);rw[Ï h]
 let m:∀q∈ϋ ϧk,q=(a,b)\/q∈ps:=λq c=>by let{p,j,rfl}:=Èa c;by_cases z:p.1=a;rw[Ï z];show .inl rfl;rw[Ñ z];show .inr j
 show{λq c=>?_,λq c=>?_,?_};rcases m q c with rfl|z;show{e,d};show P.ad q z;rcases m q c with rfl|z;show{b0,f};show Ąb q z;rw[GZ];show Äd;rw[Ñ h];show{λq c=>?_,λq c=>?_,?_};rcases Ÿ c with z|z;show P.ad q z;cases Ĵ z;show{e,d};rcases Ÿ c with z|z;show Ąb q z;cases Ĵ z;show{b0,f};rw[Ċa,łm];refine{Äd,by simp,λx i y g=>?_};obtain rfl:a=y:=(Ĵ g).symm;show λz=>h (by rw[<-show x=a from z];show i)
def Yp{ps:Á ķ}{a b:Æ}:(Ŵf).length<=ģ+1:=by
 unfold vk
 split;rw[ã];rw[Þq]
section
variable{Ws:Á Æ}{a b c:Ð}{ps:Á ķ}
def cz{x n:Æ}:Uw [.int x,.int n]=À (Ã,.int Ćd):=by
 let a:vG [.int (x+n),.int 0,.int 16]=À (Ã,.int Ćd):=by let:=Yi (x:=x+n) (l:=0) (w:=16) Ò;rw[óe,ôe]at this;rw[Ϯp]
 rw[z7q];unfold CV;simp only[Ø,Ãa,a]
theorem dY{x:Æ}:Ux Ťl=À (Ã,.int (gP ps x)):=by let a:uY ţc=À (.inl x):=rfl;rw[z7r];unfold CW;simp only[Ø,GE,a,fY]
nonrec def TM(x:Æ):Á D:=[.int ýc,.int üc,.int ûc,.int ϟb]
theorem fP{x:Æ}:Wp [.int x]=À (Ä,.lst ϓe):=by
 let b:qm ī Ńb [À (Ã,.int x)]=À (wq 4):=kj (n:=4) rfl Ò
 let e:wA ùb xY DC Ϣd (wq 4)=À ϓe:=by
  let:=Zc (g:=yC 1) (e:=DC) (σ:=Ϣd) (ds:=wq 4) (ψc (Η (x+j))) λd a=>by let{k,_,rfl}:=Èa a;rw[Ϸp];unfold DC;simp only[Ø,cz]
  rw[Ϯp]
 rw[z84];unfold Cn;simp only[Ø,b,e]
theorem w0r(P:j6 ps){x:Æ}:JW Ťl=À (Ã,.int (gP ps ýc+gP ps üc*256+gP ps ûc*65536+gP ps ϟb*16777216)):=by
 let e:wA ůb xY DI İk ϓe=À [.int (gP ps ýc),.int (gP ps üc),.int (gP ps ûc),.int (gP ps ϟb)]:=by
  let:=Zc (g:=yC 2) (e:=DI) (σ:=İk) (ds:=TM x) (ψc (gP ps j)) λd b=>by
   obtain⟨j,rfl⟩:∃j,d=.int j:=by
    rcases ĩ b with rfl|b;show{_,rfl}
    rcases ĩ b with rfl|b;show{_,rfl}
    rcases ĩ b with rfl|b;show{_,rfl};show{_,Ĵ b}
   rw[Ϸp];unfold DI;simp only[Ø,dY]
  rw[Ϯp]
 let{N,G}:=ZV ýc Ąb;let{b0,F}:=ZV üc Ąb;let{r,J}:=ZV ûc Ąb;let{O,E}:=ZV ϟb Ąb;generalize gP ps ýc=g0 at *;generalize gP ps üc=g1 at *;generalize gP ps ûc=g2 at *;generalize gP ps ϟb=g3 at *
 let c:∀{g:Æ}(n:Â),0<=g->g<256->n<=64->vz (.int g) ļn=À (Ζ (g*2 ^ n)):=λ{g} n q f y=>by let f:=Rr (x:=g) (n:=n) q Ê y;exact(match pP g (n:Æ)with|Ä=>À Êl|Ã=>Å)=_;rw[f];exact À Êl=_;rw[Ĝ]
 let p:JX [.lst Ϯe]=À (Ã,.int Ϝk):=by
  let z:Tc þ Žj [À (Ã,.lst Ϯe)]=À æk:=rfl;let Q:vz ϖp ů=À ϖp:=by let:=c 0 N G Ò;rw[óe,ğo]at this;rw[Ϯp]
  let A:vz (.int g1) æa=À (Ζ (g1*256)):=c 8 b0 F Ò;let k:vz (.int g2) Ϭa=À (Ζ (g2*65536)):=c 16 r J Ò;let B:vz (.int g3) ϗp=À (Ζ (g3*16777216)):=c 24 O E Ò
  let l:wA òg xY Sz Ñl æk=À ċk:=by
   let a:∀(u v w:D),vz u v=À w->∃σ1,vM 1 2 ðo Ñl=À σ1/\Sz σ1=À w:=λu v w h=>{[À (Ã,.lst Ϯe),À (Ã,u),À (Ã,v)],rfl,h}
   let{T,s,o}:=a _ _ _ Q;let{S,C,K}:=a _ _ _ A;let{U,L,m}:=a _ _ _ k;let{W,t,R}:=a _ _ _ B;simp only[wA,s,C,L,t,o,K,m,R,xY,éc]
  let H:GU [.lst ċk]=À (.int Ϝk):=by
   exact(match((Âf).all λi=>decide ϔe&&decide šm)&&decide ((Âf:Á Æ).length<=1000)with|Ä=>À (ę (Âf:Á Æ).sum)|Ã=>Å)=_
   let al:((Âf:Á Æ).all λi=>decide ϔe&&decide šm)=Ä:=by simp only[ϔ,List.all_nil,Ď,Ĉf,and_true];show{{?_,?_},{?_,?_},{?_,?_},?_,?_}<;>omega
   rw[al];exact À (ę (g0+(g1*256+(g2*65536+(g3*16777216+0)))))=_
   congr 2
   omega
  rw[z9g];unfold Eh;simp only[Ø,z,l,H]
 rw[z9f];unfold Eg;let I:Bf (Β ϓe)=À ϓe:=rfl;simp only[Ø,fP,I,e,p]
theorem z48{x:Æ}:Uy [.int x]=À (Ã,.tup ók):=by
 let n:vG [.int x,.int 0,.int 8]=À (Ã,.int (x%256)):=by let:=Yi (x:=x) (l:=0) (w:=8) Ò;rw[óe,ôe]at this;rw[Ϯp]
 let g:vG [.int x,.int 8,.int 8]=À (Ã,.int (x/256%256)):=Yi (l:=8) (w:=8) Ò;let f:vG [.int x,.int 16,.int 8]=À (Ã,.int (x/65536%256)):=Yi (l:=16) (w:=8) Ò;let p:vG [.int x,.int 24,.int 8]=À (Ã,.int (x/16777216%256)):=Yi (l:=24) (w:=8) Ò;let a:∀(u w:D),vG [.int x,u,.int 8]=À (Ã,w)->∃σ1,yC 1 u Ϣd=À σ1/\Oz σ1=À w:=λu w h=>{[À (Ã,.int x),À (Ã,u)],rfl,by unfold Oz;simp only[Ø,h]}
 let{r,j,d}:=a _ _ n;let{q,e,i}:=a _ _ g;let{s,k,b}:=a _ _ f;let{t,m,o}:=a _ _ p
 let l:wA ùb xY Oz Ϣd fq=À ók:=by exact wA ùb xY Oz Ϣd [.int 0,.int 8,.int 16,.int 24]=_;simp only[wA,j,e,k,m,d,i,b,o,xY,éc]
 let c:∀w x y z:D,IL [.lst ėp]=À (.tup ėp):=λ_ _ _ _=>rfl
 rw[z7t];unfold CZ;simp only[Ø,TZ,l,c]
theorem nr{x w:Æ}(f:ģ<=1000):T6 Ϡk=À ([.own (.dic (kP ųn) (vP ųn)),.fz ţc,.fz Ċg],.fz .zO):=by
 let d:vG [.int w,.int 0,.int 8]=À (Ã,.int Őd):=by let:=Yi (x:=w) (l:=0) (w:=8) Ò;rw[óe,ôe]at this;rw[Ϯp]
 let c:uY ţc=À (.inl x):=rfl;let b:decide ((ĸ).length<yX)=Ä:=ú (by unfold kP;rw[ã];rw[ϥp]);let{e,a}:=rh ps x Őd;rw[<-e,<-a,z92];unfold ER;simp only[ň,d,c,b]
def Zm(ps:Á ķ)(x w:Æ):Á ķ:=vk (vk (vk (vk ps ýc Őd) üc Ńi) ûc äi) ϟb Ğf
def x04{x w:Æ}(B:ģ<=900):JT Ϡk=À ([.own ŗk,.fz ţc,.fz Ċg],.fz .zO):=by
 let z:Tc łi ŉo [Å,À (Ã,.int x),À (Ã,.int w),Å,Å]=À Ôk:=by unfold Tc;simp only[Ø,fP,z48];rfl
 let d:∀(c:Á ķ) (u v:Æ) (f e:É M),Îa<=1000->0<=v->v<256->Mr [À ðl,À ċe,À Ëe,À Łn,À Ϛp]=À (Οd (.own (.dic (kP ϭo) (vP ϭo))) Łn Ϛp):=λc u v f e l i r=>by let g:=nr (ps:=c) (x:=u) (w:=v) l;rw[Ňm i r]at g;let q:k8 ðl 0 []=.p 0 []:=rfl;unfold Mr;simp only[ň,q,g]
 let t:∀(o f e:É M)(u v:D),Td 3 4 ðo [o,À ċe,À Ëe,f,e]=À [o,À ċe,À Ëe,À (.fz u),À (.fz v)]:=λ_ _ _ _ _=>rfl
 let A:=Yp (ps:=ps) (a:=(x+0)%65536) (b:=w%256);let n:=d ps ýc Őd Å Å Ê Ê Ê;generalize hq0:vk ps ýc Őd=p0 at *;let E:=Yp (ps:=p0) (a:=āb%65536) (b:=w/256%256);let k:=d p0 üc Ńi Å Å Ê Ê Ê;generalize hq1:vk p0 üc Ńi=p1 at *;let C:=Yp (ps:=p1) (a:=(x+2)%65536) (b:=w/65536%256);let y:=d p1 ûc äi Å Å Ê Ê Ê;generalize hq2:vk p1 ûc äi=p2 at *;let h:=d p2 ϟb Ğf Å Å Ê Ê Ê
 let m:vk p2 ϟb Ğf=Zm ps x w:=by unfold Zm;rw[hq0,hq1,hq2]
 rw[m]at h
 let j:gI (Td 3 4) Mr Ôk [À Ϟf,À ċe,À Ëe,Å,Å]=À (Οd (.own ŗk) (.fz (.int ϟb)) (.fz (.int Ğf))):=by simp only[gI,t,n,k,y,h,éc]
 let s:ŷb Ϟf=Å:=rfl;rw[z93];unfold ES;simp only[ň,s,z,j]
theorem x0g:zJ ġf ů=À x:=rfl
def BR{x y z w:D}:zJ ġf ûa=À y:=rfl
def x0h{x y z w:D}:zJ ġf ðb=À z:=rfl
def x0i{x y z w:D}:zJ ġf ŋe=À w:=rfl
def Lx{k:Ç}{hk:Á Ļ}{hv:Á D}{d:D}{s:Â}{x n:Æ}(e:Ws[s]?=À x):XQ [gF Ŕ a b c hk hv,.tup [.str k,d,.int (s:Æ),.int n]]=À (Ã,.int Ćd):=by rw[z7p];unfold CU;simp only[Ø,jc,x0h,x0i,pI e,cz]
theorem z6g{d s:Â}{x n:Æ}(e:d<œa)(f:Ws[s]?=À x):JA [st Ŕ a b c ĸ ų,.fz ğk]=À ([st (wI (ϧc d (gP ps Ćd))) a b c ĸ ų,.fz ğk],.fz .zO):=by rw[z7z];unfold Cf;simp only[ň,pV,GV,Lx f,dY,BR,kA,kZ,jt,kJ e,Z4]
theorem z6h(P:j6 ps){d s:Â}{x n:Æ}(e:d<œa)(f:Ws[s]?=À x):JB [st Ŕ a b c ĸ ų,.fz Ġk]=À ([st (wI (ϧc d (gP ps Ũl+gP ps ŧl*256+gP ps Ŧl*65536+gP ps ťl*16777216))) a b c ĸ ų,.fz Ġk],.fz .zO):=by let w:=w0r P (x:=(x+n)%65536);generalize gP ps Ũl+gP ps ŧl*256+gP ps Ŧl*65536+gP ps ťl*16777216=v at w;rw[z80];unfold Cg;simp only[ň,pV,GV,Lx f,w,BR,kA,kZ,jt,kJ e,Z4]
theorem z6j(g:ģ<=1000){d s:Â}{x n v:Æ}(e:Ws[d]?=À v)(f:Ws[s]?=À x):JD [st Ŕ a b c ĸ ų,.fz ġk]=À ([st Ŕ a b c (kP Úm) (vP Úm),.fz ġk],.fz .zO):=by rw[ŭq];rw[z82];unfold Cj;simp only[ň,pV,jc,Lx f,pI e,BR,dA,ni,h,nr g]
theorem z6k(g:ģ<=900){d s:Â}{x n v:Æ}(e:Ws[d]?=À v)(f:Ws[s]?=À x):JE [st Ŕ a b c ĸ ų,.fz Ģk]=À ([st Ŕ a b c (kP ώn) (vP ώn),.fz Ģk],.fz .zO):=by rw[ŭq];rw[z83];unfold Ck;simp only[ň,pV,jc,Lx f,pI e,BR,dA,ni,h,x04 g]
theorem MJ{k:Ç}{d s n:D}{F:FM}{S a:M}(b:VL jb Ϸb=À İ)(f:Ć jb IE čg=À F)(c:∀d,S≠.fz d)(h:F İo=À (Īo,.fz .zO)) :j_ İo=À (Īo,.fz .zO):=by
 rw[Go];unfold Jv
 let e:k8 S 0 []=.p 0 []:=by
  cases S with
  |fz d=>show Þ rfl (c d)|_=>rfl
 simp only[ň,x0g,b,Vb,f,e,h]
#print a
def x09(n:Â):(0:Æ)<2 ^ n:=Ĺi Ò
nonrec def YJ(k:Ç)(x y:Â):Â:=if k = ϔa then x &&& y else if k = ϗa then x ||| y else x ^^^ y
inductive Us:Ç->È
 |and:Us ϔa |or:Us ϗa |xor:Us Ãb
def z43{k:Ç}(h:Us k){x y:Â}(b:x<4294967296)(a:y<4294967296):YJ k x y<4294967296:=by
 let e:(4294967296:Â)=2 ^ 32:=by decide
 rw[e]at b a ⊢;unfold YJ
 split;show Nat.and_lt_two_pow _ a;split;show Ŀm b a;show Nat.xor_lt_two_pow b a
def Kt(z:Â):z%2=(z.testBit 0).toNat:=by rw[ėf];rcases Ûc z with h|h<;>rw[h]<;>rfl
theorem mi:∀(n x y:Â),x<=n->(x ||| y)=Ôj+Õj
 |0,x,y,h=>by
  let:x=0:=by omega
  rw[űq];simp
 |n+1,x,y,h=>by
  by_cases z:x=0;subst z;simp;let b:=mi n (x/2) (y/2) Ê;let a:(x ||| y)/2=x/2 ||| y/2:=Nat.or_div_two;let f:Ôj/2=x/2 ^^^ y/2:=Nat.xor_div_two;let g:Õj/2=x/2 &&& y/2:=Nat.and_div_two;let i:=Kt (x ||| y);let d:=Kt Ôj;let e:=Kt Õj;rw[ϫh]at i;rw[Nat.testBit_xor]at d;rw[ëc]at e
  let c:((Żc 0||ĕe 0).toNat:Â)=(Żc 0 ^^ ĕe 0).toNat+(Żc 0&&ĕe 0).toNat:=by cases Żc 0<;>cases ĕe 0<;>rfl
  rw[<-a,<-f,<-g]at b;omega
def z4h(x y:Â):ϯh (x:Æ) (y:Æ)=((x ^^^ y:Â):Æ):=by
 exact Ϟa (x:Æ) (y:Æ)-ıa (x:Æ) (y:Æ)=_;rw[M7,Ej,mi x x y Ē]
 push_cast
 omega
def y0h{k:Ç}(h:Us k){x y:Â}:U_ [.str k,.int (x:Æ),.int (y:Æ)]=À (Ã,.int (YJ k x y:Æ)):=by
 let d:zh Őb Őb=À İ:=rfl;let a:zh ŗb Őb=À ý:=rfl;let b:zh ŗb ŗb=À İ:=rfl;let e:zh Ūc Őb=À ý:=rfl;let c:zh Ūc ŗb=À ý:=rfl;rw[z8b];unfold Cu YJ;cases h with
 |and=>rw[Ï rfl,<-Ej];simp only[Ø,d]|or=>rw[Ñ Æa,Ï rfl,<-M7];simp only[Ø,a,b]|xor=>rw[Ñ Æa,Ñ Æa];simp only[Ø,e,c,z4h]
section
variable{Ws:Á Æ}{a b c:Ð}{hk:Á Ļ}{hv:Á D}
nonrec def pM(p:Ð):Æ:=if p then 1 else 0
def cy{x y:Æ}{p:Ð}:Uv Ċh=À (Ã,.tup [.int (Μc (x+y+pM p)),.bl (decide (4294967296<=x+y+pM p))]):=by
 let a:decide ((0:Æ)<4294967296)=Ä:=by decide
 rw[z7o];unfold CT;cases p<;>simp only[Ø,Ãa,pM,a,ŀb,Ďa,ό]
theorem SM{x y:Æ}{p:Ð}(g:0<=x)(x1:x<4294967296)(f:0<=y)(h:y<4294967296):T7 Ċh=À (Ã,.tup [.int (Μc (x-y-pM p)),.bl (decide (x-y-pM p<0))]):=by
 let c:∀(q:Æ),(q=0\/q=1)->(∀τ:zw,pG (tE ğ) Ŋ ī [À (Ã,.int x),À (Ã,.int y),À (Ã,.bl p),Å]=À (.int q))->T7 Ċh=À (Ã,.tup [.int (Μc ųj),.bl (decide Òj)]):=λq i d=>by
  let a:=d [];rw[z98];unfold EX;generalize pG (tE ğ) Ŋ ī=EE at a;by_cases z:x-y-q<0;let b:decide Òj=Ä:=ú z;let e:ųj%4294967296=x-y-q+4294967296:=by omega
  rw[e,b];simp only[Ø,a,b,Ãa];let b:decide Òj=Ã:=ď z;let e:ųj%4294967296=x-y-q:=by omega
  rw[e,b];rw[ņq]
 cases p with
 |Ã=>show c 0 Ţ λ_=>rfl|Ä=>show c 1 ćc λ_=>rfl
inductive VA:Ç->È
 |add:VA Ńa |addc:VA Ĕa |sub:VA ła |subc:VA ēa |test:VA ÿa
def sw{k:Ç}(h:VA k){x y:Æ}(f:0<=x)(x1:x<4294967296)(e:0<=y)(g:y<4294967296):∃(t:Æ) (u:Ð),ZO Íh=À (Ã,.tup [.int (t%4294967296),.bl u]):=by
 cases h with
 |add=>show{x+y+pM Ã,decide (4294967296<=x+y+pM Ã),?_};let b:zh Úb Úb=À İ:=rfl;rw[IV];unfold VE;simp only[Ø,b,cy]|addc=>show{x+y+pM a,decide (4294967296<=x+y+pM a),?_};let b:zh Űa Úb=À ý:=rfl;let c:zh Űa Űa=À İ:=rfl;rw[IV];unfold VE;simp only[Ø,b,c,cy]|sub=>show{x-y-pM Ã,decide ģn,?_};let b:zh ŏb Úb=À ý:=rfl;let c:zh ŏb Űa=À ý:=rfl;let d:zh ŏb ůa=À ý:=rfl;rw[IV];unfold VE;cases a<;>simp only[Ø,b,c,d,SM f x1 e g]|subc=>show{x-y-pM a,decide (x-y-pM a<0),?_};let b:zh ůa Úb=À ý:=rfl;let c:zh ůa Űa=À ý:=rfl;let d:zh ůa ůa=À İ:=rfl;rw[IV];unfold VE;cases a<;>simp only[Ø,b,c,d,SM f x1 e g]|test=>show{x-y-pM Ã,decide ģn,?_};let b:zh Øb Úb=À ý:=rfl;let c:zh Øb Űa=À ý:=rfl;let d:zh Øb ůa=À ý:=rfl;rw[IV];unfold VE;cases a<;>simp only[Ø,b,c,d,SM f x1 e g]
theorem z6m{d s:Â}{x y w g:Æ}{u:Ð}(i:Ws[d]?=À x)(j:Ws[s]?=À y)(h:ZO [.str ÿa,.int x,.int y,.bl a]=À (Ã,.tup ϱh))(f:vG Ýc=À (Ã,.int g)) :gm [st Ŕ a b c hk hv,.fz Ńk]=À ([st Ŕ u (decide Ŷb) (decide ϊd) hk hv,.fz Ńk],.fz .zO):=by let e:vL Øb Øb=À ý:=rfl;rw[hZ];unfold M4;simp only[ň,pV,jc,GW,SQ,pI i,pI j,h,Z2,Zt,Zu,VH,VI,Vb,Ju,OF,I_,BH,BO,Vf f,VC,e]
#print a
def y1x{x:Æ}{n:Â}(f:0<=x)(e:x<4294967296)(g:n<=31):Wx ţl=À (Ã,.tup [.int (x*2 ^ n%4294967296),if n=0 then .zO else .bl (decide (x*2 ^ n/4294967296%2=1))]):=by
 let d:=Rr (n:=n) f e Ê;let c:∀y:Æ,vG [.int y,.int 32,.int 1]=À (Ã,.int (y/4294967296%2)):=λy=>Yi (x:=y) (l:=32) (w:=1) Ò
 let b:∀y:Æ,vG [.int y,.int 0,.int 32]=À (Ã,.int (y%4294967296)):=λy=>by let:=Yi (x:=y) (l:=0) (w:=32) Ò;rw[óe,ôe]at this;rw[Ϯp]
 rw[z8r];unfold EF;rw[Ėq];simp only[Ø,d,Ĝ,c,b,Ϧc,a];let a:decide Żf=Ã:=ď Ê;rw[Ñ z];simp only[Ø,d,Ĝ,c,b,Ϧc,a]
theorem x1e{x:Æ}{n:Â}:Wy ţl=À (Ã,.tup [.int (x/2 ^ n),if n=0 then .zO else .bl (decide (x/2 ^ (n-1)%2=1))]):=by
 let b:decide ((0:Æ)<=(n:Æ))=Ä:=ú Şe;rw[z8s];unfold EG;rw[Ėq];simp only[Ø,b,Ĝ,Ϧc,a];let a:decide Żf=Ã:=ď Ê
 let p:vG [.int x,.int ((n:Æ)-1),.int 1]=À (Ã,.int (x/2 ^ (n-1)%2)):=by rw[show(n:Æ)-1=((n-1:Â):Æ) by omega];show Yi (l:=n-1) (w:=1) Ò
 rw[Ñ z];simp only[Ø,b,Ĝ,p,Ϧc,a]
theorem w0u{w n:Æ}(h:0<=w)(j:w<4294967296)(d:0<=n)(f:n<65536):V3 Ϣk=À (Ã,.int (w%65536+65536*n)):=by
 let e:=w0v (x:=w) (n:=n) (l:=16) (w:=16) h d f;let k:V3 Ϣk=À (Ã,.int (Ϟa (ıa w (łb ((1*2 ^ 16-1)*2 ^ 16))) (n*2 ^ 16)))\/Ÿb:=.inr trivial
 let i:pP n 16=Ä:=by unfold pP;rw[ú (show ùj<2 ^ 64 by omega)];rfl
 let a:vz Ŋe Ϭa=À (Ζ Új):=by exact(match pP n 16 with|Ä=>À (ę (n*2 ^ (16:Æ).toNat))|Ã=>Å)=_;rw[i];rfl
 let c:vz òo Ϭa=À (.int 4294901760):=rfl;let b:vz ûa Ϭa=À Ĝi:=rfl
 let g:Ϟa Ğl Új=w%65536+65536*n:=by let e1:Ϟa Ğl Új=w+(n-w/65536%65536)*65536:=e;rw[e1];omega
 rw[z9d];unfold Ee;simp only[yL,zQ,zl,yc,e1,e2,z7,eC,éc,ĵ,òe,ńb,ìc,Ĉ,Řc,Čb,Ãm,ĸh,ķh,įl,Įl,a,c,b,pH,TU,vW,Øi,Öi,Řn,g]
nonrec def Zr(Ă zG:Á D)(n:Â):Á D:=(ĩb).map λk:Â=>.tup ϖg
theorem x64:wD śg ėb=qW ħ/\wE śg ύn ėb (.tup [ĺf n .zO,.int Ŭo,Łd n .zO])=Zr Ă zG ħ:=by unfold wD wE;rw[Ñ ím,Ñ ím];unfold qW Zr;rw[Ĥf,Ċa,Ċa];show{rfl,rfl}
def x63{Ă zG:Á D}{k n:Â}(h:k<n):zJ (.dic śg ύn) ĸf=À (.tup ϖg):=by exact(uY ĸf).bind _=_;show fW (g:=λk:Â=>.tup ϖg) (Ća h)
def x62{z6 Ă zG:Á D}(o:uO ŧ=À (Ä,.lst Ă))(f:g6 ŧ=À (Ä,.lst zG))(m:źc=Ċ)(s:Ċ<=1000):JU ŧ=À (Ä,.dic ôg ϣh):=by
 let e:tz Ĳh ýk=À (qp zG):=by unfold tz;simp only[Ø,f]
 let{σ',e1,x,y,rfl}:=kL (g:=vM 3 4) (b:=KZ) (λi σ=>∃x y:É Sl,σ=[À (Ã,.lst z6),À (Ã,.lst Ă),À (Ä,.dic (qW i) (Zr Ă zG i)),x,y])
  (ds:=qp zG) (σ:=ýk) 0 {Å,Å,rfl} λi d σ c j=>by
   let{x,y,rfl}:=j;rw[Ķ]
   let h:i<Ċ:=by let:=(Ŀ c).1;rw[kQ]at this;omega
   let a:i<źc:=by omega
   rw[Xx,Đ a]at c;cases c;let gt:zG[i]=Łd i .zO:=by rw[ő,Đ a];rfl
   rw[gt]
   let r:zJ (.lst Ă) ōa=À ķo:=by exact ul Ă (i:Æ)=_;unfold ul;rw[Ï (ĸb i),Ĝ,ő,Đ h];rfl
   let{k,q}:=x64 (Ă:=Ă) (zG:=zG) (n:=i);let p:(qW i).length<yX:=by unfold qW;rw[ã,Øa];rw[ϥp]
   let l:uY ōa=À ŀn:=rfl;show{_,[À (Ã,.lst z6),À (Ã,.lst Ă),À (Ä,.dic (qW î) (Zr Ă zG î)),À (Ã,.int (i:Æ)),À (Ã,Łd i .zO)],rfl,.inl ?_,_,_,rfl};rw[<-k,<-q];unfold KZ;simp only[Ø,jo,r,Ãa,l,Ï p]
 rw[Ķ,kQ,m]at e1;rw[z97];unfold EW;generalize qp zG=NN at e e1;simp only[Ø,o,e,e1]
theorem y2s{T f:D}{e:Æ}{Ws:Á Æ}{ps:Á ķ}(h:œa=8)(l:∀w∈Ws,0<=w/\w<4294967296)(i:Wn [f]=À (Ä,.dic ĸ ų)) :Ut [.obj à [] [],.fz T,.fz ċg,.fz ĝa,.fz f]=À ([xF T e ĝa Ød Ûl 0 0,.fz T,.fz ċg,.fz ĝa,.fz f],.fz .zO):=by let g:∀{x:M}{z_:yM},gM x (γ ϧm) 0 [] [à] ŗa=À (Ξ (.obj à [ŗa] [x])):=rfl;let o:∀{a x:M}{z_:yM},gM x (γ (.obj à [ŗa] [a])) 0 [] [à] īb=À (Ξ (.obj à đp [a,x])):=rfl;let n:∀{a b x:M}{z_:yM},gM x (γ (.obj à đp ϡe)) 0 [] [à] Žb=À (Ξ (.obj à Şn [a,b,x])):=rfl;let j:∀{a b c x:M}{z_:yM},gM x (γ (.obj à Şn [a,b,c])) 0 [] [à] êc=À (Ξ (.obj à Ϩe [a,b,c,x])):=rfl;let m:=z3f (T:=T) (e:=e) (fw:=.zO) (fh:=.zO) (Ws:=Ws) (hk:=kP ps) (hv:=vP ps) (fs:=[]) (ms:=[]);let k:∀{a b c d:M}{z_:yM},kB à ŏe 0 [] XO vq ϴg=YL XO Ğp ϴg:=rfl;rw[z7f];unfold CJ;simp only[Ø,wB.eq_1,ji.eq_1,jF.eq_1,wm.eq_1,kF.eq_1,hide.eq_1,wy.eq_1,MN.eq_1,MN.eq_2,ZT.eq_1,ZT.eq_2,@Option.map_some.{0,0},@List.take_succ_cons.{0},@List.take_zero.{0},g,o,n,j,w11 h l,i,k];simp only[ň,m]
theorem x1f{z6 Ă zG:Á D}{b:D}{Ws:Á Æ}{ps:Á ķ}(c:uO ŧ=À (Ä,.lst Ă))(f:g6 ŧ=À (Ä,.lst zG))(i:źc=Ċ)(a:Ċ<=1000)(j:œa=8)(h:∀w∈Ws,0<=w/\w<4294967296)(g:Wn [b]=À (Ä,.dic ĸ ų)) :ZM [.obj à [] [],.fz æj,.fz ĝa,.fz b]=À ([xF (.dic ôg ϣh) Ċ ĝa Ød Ûl 0 0,.fz æj,.fz ĝa,.fz b],.fz .zO):=by
 let d:k8 ϧm 0 []=.p 0 []:=rfl
 let e:GP [.dic ôg ϣh]=À (.int Ċ):=by exact À (ę ((ôg).length:Æ))=_;unfold qW;rw[ã,Øa]
 rw[z7m];unfold CQ;simp only[ň,x62 c f i a,e,d,y2s j h g]
def z3t:FS:=
 (yc (e2 vz Ŋ (e2 xN Ŝb (e1 (fH IT) þ))))
def Ww:Á D->É å:=FR 1 1 z3t
def z3u:FS:=
 (yc (Xk (IF (εa ûg) (εa (eC ğd))) (e2 zh ãn ī)))
def FX:Á D->É å:=FR 1 1 z3u
def z3w:FS:=
 (zQ (yb Þm
   (yc (eC Ůc))
   xK)
  (zQ (yb (Z1 (tE (e2 zh Ëd āf)) (tE (e2 zh Ëd Ēh)))
   (yc (zg Ww (Α ēh)))
   xK)
  (zQ ϣo
  (zQ (yb (Ιa (eC Gq))
   ķp
   xK)
  (zQ (yb (Ιa (eC Gu))
   (δc ãn)
   xK)
  (zQ (yb (Ιa (eC Gp))
   Ņk
   xK)
  ĕj))))))
def t4:Á D->É å:=FR 1 2 z3w
def z3v:FS:=
 (zQ ϣo
  (zQ (yb (Ιa (eC Gw))
   ķp
   xK)
  (zQ (yb (Ιa (eC Gx))
   (zl 1 (e2 Ńe (e2 Ńe ą (zg Ww (Θ Ēe))) (zg Ww łp)))
   xK)
  (zQ (yb (Yx (Ιa (eC Gv)) (ο (zg FX Īa)))
   Ņk
   xK)
  ĕj))))
def qe:Á D->É å:=FR 1 2 z3v
def Vq{w:Æ}:vG Ýc=À (Ã,.int (w/2147483648%2)):=by let e:=mw Ϭo 1;let a:vG Ýc=À (Ã,.int (ıa Ϭo (1*2 ^ 1-1))):=rfl;rw[a,e];rfl
inductive Ja:Ç->È
 |load:Ja şa |store:Ja Řa |loadw:Ja řa |storew:Ja Őa
inductive qf:D->È
 |sum {k:Ç} {d s:Â} (h:VA k) (hd:d<8) (hs:s<8):qf Ćb
 |bits {k:Ç} {d s:Â} (h:Us k) (hd:d<8) (hs:s<8):qf Ćb
 |copy {d s:Â} (hd:d<8) (hs:s<8):qf ϛg
 |set {d:Â} {n:Æ} (hd:d<8) (n0:0<=n) (n1:n<65536):qf ϧg
 |high {d:Â} {n:Æ} (hd:d<8) (n0:0<=n) (n1:n<65536):qf ϟg
 |left {d n:Â} (hd:d<8) (hn:n<=31):qf (.tup [.str Ĥa,.int (d:Æ),.int (n:Æ)])
 |right {d n:Â} (hd:d<8) (hn:n<=31):qf (.tup [.str ġa,.int (d:Æ),.int (n:Æ)])
 |mem {k:Ç} {d s:Â} {n:Æ} (h:Ja k) (hd:d<8) (hs:s<8) (n0:0<=n) (n1:n<256):qf (.tup [.str k,.int (d:Æ),.int (s:Æ),.int n])
nonrec def MB(f:Æ->Ð):É å->Ð
 |À (Ã,.int u)=>f u|_=>Ã
def dg{f:Æ->Ð}{x:É å}(h:MB f x=Ä):∃u,x=À (Ã,.int u)/\f u=Ä:=by
 cases x with
 |Å=>cases h|À p=>let{b,d}:=p;cases b<;>cases d<;>first|(cases h;done)|show⟨_,rfl,h⟩
def gE(r:D)(R:Á Â)(o:É Â)(pc pn:Ð):Ð:=MB (λu=>MB (λp=>decide (0<=u)&&(decide (0<=p)&&(R.all (λk=>ϲm k)&&((Ż).all (λk=>ģf k==decide ŭp)&&((ģf 8==pc)&&((ģf 9==pn)&&(ģf 10==pn))))))) óg) (t4 [r])
structure UP(r:D)(R:Á Â)(o:É Â)(pc pn:Ð)(U Pt:Â):È where
 u:t4 [r]=À (Ã,.int (U:Æ))
 p:qe [r]=À (Ã,.int (Pt:Æ))
 r:∀k∈R,ϯi k=Ä
 o:∀k,k<8->ύf k=decide ŭp
 c:ύf 8=pc
 n:ύf 9=pn
 s:ύf 10=pn
def gW{r:D}{R:Á Â}{o:É Â}{pc pn:Ð}(h:gE r R o pc pn=Ä):∃U Pt,UP r R o pc pn U Pt:=by let{u,e1,h}:=dg h;let{p,e2,h}:=dg h;simp only[Ď,Ĉf,Ŵc]at h;let{c,i,b,g,f,d,e}:=h;refine{Ņj,p.toNat,by rw[ϲd c];show e1,by rw[ϲd i];show e2,λk a=>âa b k a,λk a=>?_,f,d,e};show ϝb (âa g k (Ća a))
def MD:([Ńa,Ĕa,ła,ēa].all λw=>(Ż).all λd=>(Ż).all λs=>gE ϭe İb ūb Ä Ä)=Ä:=by rw[Áq]
def z5f:((Ż).all λd=>(Ż).all λs=>gE (.tup [.str ÿa,.int (d:Â),.int (s:Â)]) İb Å Ä Ä)=Ä:=by rw[Áq]
def Ey:([ϔa,ϗa,Ãb].all λw=>(Ż).all λd=>(Ż).all λs=>gE ϭe İb ūb Ã Ä)=Ä:=by rw[Áq]
def z5c:((Ż).all λd=>(Ż).all λs=>gE (.tup [.str Ïa,.int (d:Â),.int (s:Â)]) [s] ūb Ã Ã)=Ä:=by rw[Áq]
def z5e(n:Æ):((Ż).all λd=>gE (.tup [.str Ś,.int (d:Â),.int n]) [] ūb Ã Ã)=Ä:=by rw[Áq]
def z5d(n:Æ):((Ż).all λd=>gE (.tup [.str òb,.int (d:Â),.int n]) [d] ūb Ã Ã)=Ä:=by rw[Áq]
def dm:((ϵi).all λw=>(Ż).all λd=>(ċj).all λs=>gE ϭe [d] ūb (decide (s≠0)) Ä)=Ä:=by rw[Áq]
def dk(n:Æ):([şa,řa].all λw=>(Ż).all λd=>(Ż).all λs=>gE Ĕk [s] ūb Ã Ã)=Ä:=by rw[Áq]
def dq(n:Æ):([Řa,Őa].all λw=>(Ż).all λd=>(Ż).all λs=>gE Ĕk İb Å Ã Ã)=Ä:=by rw[Áq]
def al{α:Type}{l:Á α}{f:α->Ð}(h:l.all f=Ä){x:α}(a:x∈l):f x=Ä:=âa h x a
nonrec def Ϲc(o:É Â)(w:Æ)(Ws:Á Æ):Á Æ:=match o with
 |À d=>ϧc d w|Å=>Ws
structure bO(r:D)(R:Á Â)(o:É Â)(pc pn:Ð)(V:Â->Æ)(a b c:Ð)(ps:Á ķ)(w:Æ)(a' b' c':Ð)(ps':Á ķ):È where
 w0:0<=w
 w1:w<4294967296
 P:j6 ps'
 l:ps'.length<=ģ+4
 ks:qe [r]=À (Ã,.int 0)\/ps'=ps
 ca:pc=Ã->a'=a
 cb:pn=Ã->b'=b
 cc:pn=Ã->c'=c
 dr:∀Ws:Á Æ,œa=8->(∀k∈R,Ws[k]?=À (V k))->j_ [st Ŕ a b c ĸ ų,.fz r]=À ([st (wI (Ϲc o w Ws)) a' b' c' (kP ps') (vP ps'),.fz r],.fz .zO)
def E2(r:D)(R:Á Â)(o:É Â)(pc pn d:Ð)(V:Â->Æ)(ps:Á ķ):È:=
 ∃(w:Ð->Æ) (A B C:Ð->Ð) (ps':Á ķ),(d=Ã->∀x y,w x=w y/\A x=A y/\B x=B y/\C x=C y)/\∀a b c,bO r R o pc pn V a b c ps (w a) (Ť pc (A a) a) (Ť pn (B a) b) (Ť pn (C a) c) ps'
structure bN(r:D)(R:Á Â)(o:É Â)(pc pn uc:Ð):È where
 up:∃U Pt,UP r R o pc pn U Pt
 r8:∀k∈R,k<8
 o8:∀d,o=À d->d<8
 ld:∀D1,gr [D1,r]=À (Ã,.bl Ã)
 st:zh r όb=À ý
 tp:uR r=Ä
 pl:CA r
 cu:uc=Ä->∀U:Â,t4 [r]=À (Ã,.int (U:Æ))->ϯi 8=Ä
 ef:∀(V:Â->Æ)(ps:Á ķ),(∀k,k<8->0<=V k/\V k<4294967296)->j6 ps->ģ<=800->E2 r R o pc pn uc V ps
def VJ{r:D}{R:Á Â}{o:É Â}{V:Â->Æ}{ps ps':Á ķ}{W:Æ}(h:∀a b c,bO r R o Ã Ã V a b c ps W a b c ps'):E2 r R o Ã Ã Ã V ps:={λ_=>W,λ_=>Ä,λ_=>Ä,λ_=>Ä,ps',λ_ _ _=>{rfl,rfl,rfl,rfl},h}
def M9(r:D):Ð:=MB (λu=>ϲm 8) (t4 [r])
def di:([Ĕa,ēa].all λw=>(Ż).all λd=>(Ż).all λs=>M9 ϭe)=Ä:=by rw[Áq]
def z4o{r:D}(h:M9 r=Ä)(U:Â)(e:t4 [r]=À (Ã,.int (U:Æ))):ϯi 8=Ä:=by unfold M9 at h;rw[e]at h;show h
def x58{k:Ç}(h:k = Ńa \/ k = ła \/ k = ÿa)(x y:Æ)(a b:Ð):ZO Íh=ZO [.str k,.int x,.int y,.bl b]:=by rcases h with rfl|rfl|rfl<;>cases a<;>cases b<;>rfl
def y2m(h:k∈[d,s]):k=d\/k=s:=by rw[įq]
def lt2{d s:Â}(b:d<8)(c:s<8):∀k∈[d,s],k<8:=λk a=>by rcases y2m a with rfl|rfl<;>assumption
def Yr{d:Â}(a:d<8):∀k,À d=À k->k<8:=λk e=>by cases e;show a
def Oh{ps:Á ķ}{x y:Æ}(P:j6 ps):j6 (vk ps (x%65536) (y%256)):=rq P Ľi ľi Ľi ľi
def GG{r:D}(h:qf r):∃R o pc pn uc,bN r R o pc pn uc:=by
 cases h with
 |@sum k d s h hd hs=>
  let m:=Ća hd;let p:=Ća hs
  let J:∀(uc:Ð),Łk->∀V:Â->Æ,(∀k,k<8->0<=V k/\V k<4294967296)->∃(w:Ð->Æ) (u:Ð->Ð),(uc=Ã->∀x y,w x=w y/\u x=u y)/\∀a,0<=w a/\w a<4294967296/\ZO [.str k,.int (V d),.int (V s),.bl a]=À (Ã,.tup [.int (w a),.bl (u a)]):=λuc hu V hv=>by
   rw[Řq];let{t,u,l}:=sw (a:=Ã) h F G O Z;let{Q,u',N}:=sw (a:=Ä) h F G O Z;let q0:=Łb t (show(4294967296:Æ)≠0 by decide);let q1:=Ľb t (show(0:Æ)<4294967296 by decide);let r0:=Łb Q (show(4294967296:Æ)≠0 by decide);let r1:=Ľb Q (show(0:Æ)<4294967296 by decide);show{λa=>Ť a (Q%4294967296) (t%4294967296),λa=>Ť a u' u,λz=>?_,λa=>by cases a;show{q0,q1,l};show{r0,r1,N}};let e:=l.symm.trans ((x58 (hu z) (V d) (V s) Ã Ä).trans N);let e1:t%4294967296=Q%4294967296:=by injection e with e;injection e with _ e;injection e with e;injection e with e _;injection e
   let e2:u=u':=by injection e with e;injection e with _ e;injection e with e;injection e with _ e;injection e with e _;injection e
   intro x y;cases x<;>cases y<;>show{by simp only[Ϣi,ţi,e1],by simp only[Ϣi,ţi,e2]}
  let H:∀uc:Ð,Łk->(uc=Ä->M9 Ćb=Ä)->gE ŏk İb ūb Ä Ä=Ä->vL Ϸb Øb=À İ->VL jb Ϸb=À İ->Ć jb IE čg=À gm->(∀D1,gr ķk=À (Ã,.bl Ã))->zh Ćb όb=À ý->CA Ćb->bN Ćb İb ūb Ä Ä uc:=λuc hu hc T q1 Y q3 S q5 X=>{gW T,lt2 hd hs,Yr hd,S,q5,rfl,X,λz U e=>z4o (hc z) U e,λV i hv P E=>by let{w,u,I,f}:=J uc hu V hv;show{w,u,λa=>decide (w a=0),λa=>decide Ϟl,i,λz x y=>{ďc.1,ďc.2,ĳ Ķl ďc.1,ĳ Ŷk ďc.1},λa b c=>?_};let{C,A,l}:=f a;show{C,A,P,ϣ _ _,.inr rfl,nofun,nofun,nofun,λq B j=>?_};show kD (k:=k) Y q3 qu rfl rfl (z6l (b:=b) (c:=c) (hk:=kP i) (hv:=vP i) q1 ϩb ύc l Vq)}
  cases h with
  |add=>show{_,_,_,_,_,H Ã Ôn nofun (al (al (al MD (x := Ńa) Ò) m) p) rfl rfl rfl Ĩd rfl {rfl,rfl}}|addc=>show{_,_,_,_,_,H Ä nofun (λ_=>al (al (al di (x := Ĕa) Ò) m) p) (Λa (al MD (x := Ĕa) Ò)) rfl rfl rfl Ĩd rfl {rfl,rfl}}|sub=>show{_,_,_,_,_,H Ã (λ_=>.inr Ţ) nofun (al (al (al MD (x := ła) Ò) m) p) rfl rfl rfl Ĩd rfl {rfl,rfl}}|subc=>show{_,_,_,_,_,H Ä nofun (λ_=>al (al (al di (x := ēa) Ò) m) p) (Λa (al MD (x := ēa) Ò)) rfl rfl rfl Ĩd rfl {rfl,rfl}}|test=>show{İb,Å,Ä,Ä,Ã,gW (al (al z5f m) p),lt2 hd hs,nofun,λ_=>rfl,rfl,rfl,{rfl,rfl},nofun,λV i hv P E=>?_};let{w,u,I,f}:=J Ã (λ_=>.inr ćc) V hv;show{w,u,λa=>decide (w a=0),λa=>decide Ϟl,i,λz x y=>{ďc.1,ďc.2,ĳ Ķl ďc.1,ĳ Ŷk ďc.1},λa b c=>?_};let{C,A,l}:=f a;show{C,A,P,ϣ _ _,.inr rfl,nofun,nofun,nofun,λq B j=>?_};show kD (k := ÿa) rfl rfl qu rfl rfl (z6m (b:=b) (c:=c) (hk:=kP i) (hv:=vP i) ϩb ύc l Vq)
 |@bits k d s h hd hs=>
  let m:=Ća hd;let p:=Ća hs
  obtain⟨T,Y,q3,S,q5,X⟩:gE ŏk İb ūb Ã Ä=Ä/\VL jb Ϸb=À İ/\Ć jb IE čg=À XS/\(∀D1,gr ķk=À (Ã,.bl Ã))/\zh Ćb όb=À ý/\CA Ćb:=by
   cases h with
   |and=>show{al (al (al Ey (x := ϔa) Ò) m) p,rfl,rfl,λ_=>rfl,rfl,rfl,rfl}|or=>show{al (al (al Ey (x := ϗa) Ò) m) p,rfl,rfl,λ_=>rfl,rfl,rfl,rfl}|xor=>show{al (al (al Ey (x := Ãb) Ò) m) p,rfl,rfl,λ_=>rfl,rfl,rfl,rfl}
  show{İb,À d,Ã,Ä,Ã,gW T,lt2 hd hs,Yr hd,S,q5,rfl,X,nofun,λV i hv P E=>?_};rw[Řq];let{L,ex}:=ņa F;let{K,ey}:=ņa O;let hx:L<4294967296:=by omega
  let hy:K<4294967296:=by omega
  let C:0<=(YJ k L K:Æ):=ĸb _;let A:(YJ k L K:Æ)<4294967296:=Int.ofNat_lt.mpr (z43 h hx hy);let l:=y0h h (x:=L) (y:=K);show{λ_=>(YJ k L K:Æ),λ_=>Ä,λ_=>decide ((YJ k L K:Æ)=0),λ_=>decide ((YJ k L K:Æ)/2147483648%2=1),i,λ_ _ _=>{rfl,rfl,rfl,rfl},λa b c=>{C,A,P,ϣ _ _,.inr rfl,λ_=>rfl,nofun,nofun,λq B j=>?_}};show kD (k:=k) Y q3 qu rfl rfl (z6e (a:=a) (b:=b) (c:=c) (hk:=kP i) (hv:=vP i) (by rw[j d ô,ex]) (by rw[j s ô,ey]) l Vq)
 |@copy d s hd hs=>refine{[s],À d,Ã,Ã,Ã,gW (al (al z5c ϣf) (Ća hs)),λk hk=>by cases Ĵ hk;show hs,Yr hd,λ_=>rfl,rfl,rfl,{rfl,rfl},nofun,λV i hv P E=>?_};show VJ (W:=V s) (ps':=i) λa b c=>{űp.1,űp.2,P,ϣ _ _,.inr rfl,λ_=>rfl,λ_=>rfl,λ_=>rfl,λq B j=>kD (k := Ïa) rfl rfl qu rfl rfl (eQ Ê ύc)}|@set d n hd n0 n1=>refine{[],À d,Ã,Ã,Ã,gW (al (z5e n) ϣf),λk hk=>Þ hk ô,Yr hd,λ_=>rfl,rfl,rfl,{rfl,rfl},nofun,λV i hv P E=>?_};show VJ (W:=n) (ps':=i) λa b c=>{n0,by omega,P,ϣ _ _,.inr rfl,λ_=>rfl,λ_=>rfl,λ_=>rfl,λq B j=>kD (k := Ś) rfl rfl qu rfl rfl (z6i Ê)}|@high d n hd n0 n1=>refine{[d],À d,Ã,Ã,Ã,gW (al (z5d n) ϣf),λk hk=>by rw[ſq],Yr hd,λ_=>rfl,rfl,rfl,{rfl,rfl},nofun,λV i hv P E=>?_};let{F,G}:=hv d hd;show VJ (W:=V d%65536+65536*n) (ps':=i) λa b c=>{by omega,by omega,P,ϣ _ _,.inr rfl,λ_=>rfl,λ_=>rfl,λ_=>rfl,λq B j=>kD (k := òb) rfl rfl qu rfl rfl (z6f ϩb (w0u F G n0 n1))}
 |@left d n hd hn=>refine{[d],À d,decide (n≠0),Ä,Ã,gW (Ζe (al dm (x := Ĥa) Ò)),λk hk=>by rw[ſq],Yr hd,λ_=>rfl,rfl,rfl,{rfl,rfl},nofun,λV i hv P E=>?_};let{F,G}:=hv d hd;let l:=y1x (n:=n) F G hn;let C:0<=V d*2 ^ n%4294967296:=Łb _ Ò;let A:V d*2 ^ n%4294967296<4294967296:=Ľb _ Ò;generalize V d*2 ^ n%4294967296=w at C A l;by_cases z:n=0;rw[Ï z]at l;rw[ď Šm];show{λ_=>w,λ_=>Ä,λ_=>decide Ŷb,λ_=>decide ąf,i,λ_ _ _=>{rfl,rfl,rfl,rfl},λa b c=>{C,A,P,ϣ _ _,.inr rfl,λ_=>rfl,nofun,nofun,λq B j=>kD (k := Ĥa) rfl rfl qu rfl rfl (eS (a:=a) (b:=b) (c:=c) (hk:=kP i) (hv:=vP i) ϩb Ä rfl l Vq)}};rw[Ñ z]at l;rw[ú z];show{λ_=>w,λ_=>decide (V d*2 ^ n/4294967296%2=1),λ_=>decide Ŷb,λ_=>decide ąf,i,λ_ _ _=>{rfl,rfl,rfl,rfl},λa b c=>{C,A,P,ϣ _ _,.inr rfl,nofun,nofun,nofun,λq B j=>kD (k := Ĥa) rfl rfl qu rfl rfl (eU (a:=a) (b:=b) (c:=c) (hk:=kP i) (hv:=vP i) ϩb Ä rfl l Vq)}}
 |@right d n hd hn=>refine{[d],À d,decide (n≠0),Ä,Ã,gW (Ζe (al dm (x := ġa) Ò)),λk hk=>by rw[ſq],Yr hd,λ_=>rfl,rfl,rfl,{rfl,rfl},nofun,λV i hv P E=>?_};let{F,G}:=hv d hd;let l:=x1e (x:=V d) (n:=n);let C:0<=V d/2 ^ n:=Ħf F (õa (x09 n));let A:V d/2 ^ n<4294967296:=Ċm (ύm _ F) G;generalize V d/2 ^ n=w at C A l;by_cases z:n=0;rw[Ï z]at l;rw[ď Šm];show{λ_=>w,λ_=>Ä,λ_=>decide Ŷb,λ_=>decide ąf,i,λ_ _ _=>{rfl,rfl,rfl,rfl},λa b c=>{C,A,P,ϣ _ _,.inr rfl,λ_=>rfl,nofun,nofun,λq B j=>kD (k := ġa) rfl rfl qu rfl rfl (eS (a:=a) (b:=b) (c:=c) (hk:=kP i) (hv:=vP i) ϩb Ã rfl l Vq)}};rw[Ñ z]at l;rw[ú z];show{λ_=>w,λ_=>decide (V d/2 ^ (n-1)%2=1),λ_=>decide Ŷb,λ_=>decide ąf,i,λ_ _ _=>{rfl,rfl,rfl,rfl},λa b c=>{C,A,P,ϣ _ _,.inr rfl,nofun,nofun,nofun,λq B j=>kD (k := ġa) rfl rfl qu rfl rfl (eU (a:=a) (b:=b) (c:=c) (hk:=kP i) (hv:=vP i) ϩb Ã rfl l Vq)}}
 |@mem k d s n h hd hs n0 n1=>
  let m:=Ća hd;let p:=Ća hs;let l1:∀k∈[s],k<8:=λk hk=>by cases Ĵ hk;show hs
  cases h with
  |load=>refine{[s],À d,Ã,Ã,Ã,gW (Λa (al (dk n) (x := şa) Ò)),l1,Yr hd,λ_=>rfl,rfl,rfl,{rfl,rfl},nofun,λV i hv P E=>?_};let g:=ZV ğe Ąb;show VJ (W:=gP i ğe) (ps':=i) λa b c=>{g.1,by omega,P,ϣ _ _,.inr rfl,λ_=>rfl,λ_=>rfl,λ_=>rfl,λq B j=>MJ (k := şa) rfl rfl qu (z6g Ê ύc)}|loadw=>refine{[s],À d,Ã,Ã,Ã,gW (Λa (al (dk n) (x := řa) Ò)),l1,Yr hd,λ_=>rfl,rfl,rfl,{rfl,rfl},nofun,λV i hv P E=>?_};let g0:=ZV Ñm Ąb;let g1:=ZV Ðm Ąb;let g2:=ZV Ïm Ąb;let g3:=ZV Îm Ąb;show VJ (W:=gP i Ñm+gP i Ðm*256+gP i Ïm*65536+gP i Îm*16777216) (ps':=i) λa b c=>{by omega,by omega,P,ϣ _ _,.inr rfl,λ_=>rfl,λ_=>rfl,λ_=>rfl,λq B j=>MJ (k := řa) rfl rfl qu (z6h P Ê ύc)}|store=>refine{İb,Å,Ã,Ã,Ã,gW (Λa (al (dq n) (x := Řa) Ò)),lt2 hd hs,nofun,λ_=>rfl,rfl,rfl,{rfl,rfl},nofun,λV i hv P E=>?_};show VJ (W:=0) (ps':=vk i ğe (V d%256)) λa b c=>{by decide,by decide,Oh P,ÿ Yp (àc Ò _),Ùp,λ_=>rfl,λ_=>rfl,λ_=>rfl,λq B j=>MJ (k := Řa) rfl rfl qu (z6j Ê ϩb ύc)}|storew=>refine{İb,Å,Ã,Ã,Ã,gW (Λa (al (dq n) (x := Őa) Ò)),lt2 hd hs,nofun,λ_=>rfl,rfl,rfl,{rfl,rfl},nofun,λV i hv P E=>?_};let lw:(Zm i ğe (V d)).length<=Ťb+4:=ÿ Yp (Ĳa (ÿ Yp (Ĳa (ÿ Yp (Ĳa Yp)))));show VJ (W:=0) (ps':=Zm i ğe (V d)) λa b c=>{by decide,by decide,Oh (Oh (Oh (Oh P))),lw,Ùp,λ_=>rfl,λ_=>rfl,λ_=>rfl,λq B j=>MJ (k := Őa) rfl rfl qu (z6k Ê ϩb ύc)}
nonrec def lt(k:Æ):Ç:={#[97+Ϸ]}
def z36(b:0<=k)(a:k<26):ul (ĵb : Ç).cps.toList k=À (97+Ϸ):=by
 let h:∀j:Fin 26,ul (ĵb : Ç).cps.toList (j.val:Æ)=À (97+j.val):=by rw[Ϩp]
 let:=h {Ϸ,by omega};rw[show(({Ϸ,by omega}:Fin 26).val:Æ)=k by exact(Ϸ:Æ)=k;omega]at this;rw[Ϯp]
def CG(b:0<=k)(a:k<26):zJ Ϡb ŭf=À (.str (lt k)):=by exact(ul _ k).bind _=_;rw[z36 b a];rfl
def Ŕe(h:úa+Ûa<=100000):xN ăg Ĭj=À (.str ύe):=by exact(if úa+Ûa<=yX then _ else _)=_;rw[Ï Ïh]
theorem Mx(a b:Ç):(ύe).length=úa+Ûa:=Śh
def O1(k:Æ):(lt k).length=1:=rfl
def z37:(((ĵb : Ç).length:Â):Æ)=26:=by rw[Ϩp]
def E4:FS:=
 (zQ (zl 2 (e2 xN (e2 xN (e2 xN (e2 II (zg JK Űh) (eC (.int 48271))) (e2 IH (eC (.int 104729)) ą)) (e2 IH (eC (.int 7919)) ϛb)) Ŋ))
  (yc (e2 xE (e2 II (e2 xE (e2 GR ğ ğ) (eC (.int 2147483647))) (eC (.int 2003))) (eC (.int 2147483629)))))
def uC:Á D->É å:=FR 2 3 E4
def z8h(a x1:D):uC č=yL 3 E4 č:=rfl
def y2i{c k l:Æ}{M:Â}(f:4<=M)(d:vV c<=M)(j:0<=k)(h:k<100)(m:0<=l)(i:l<=63):vV (c*48271+104729*k+7919*l+1)<=M+20:=by
 let b:=z46 d;let a:2 ^ 4<=2 ^ M:=ėh Ò f;show z45 ?_;rw[Nat.pow_add];generalize 2 ^ M=P at b a;let g:(2:Â) ^ 20=1048576:=by decide
 let e:(2:Â) ^ 4=16:=by decide
 rw[g];rw[e]at a;omega
def Ze{ns:Á Æ}(p:ţ<=63)(f:∀m∈ns,vV m<=1048576){k:Æ}(b:0<=k)(e:k<100):∃m:Æ,0<=m/\m<2147483629/\uC ōm=À (Ã,.int m):=by let a:=z5a ns (k:=k) b;let d:=z59 f k;generalize ID ns k=c at a d;let o:=y2i (M:=1048576) (l:=(ţ:Æ)) Ò d b e Ê Ê;let g:decide (vV Ϻe+vV Ϻe<=134217728)=Ä:=ú Ê;let n:Xr 48271=Ä/\Xr 104729=Ä/\Xr 7919=Ä/\Xr 2003=Ä:={by decide,by decide,by decide,by decide};let h:∀{i j:Æ},xN ϵ ōd=À Ťf:=rfl;refine{Ϻe*Ϻe%2147483647*2003%2147483629,Łb _ Ò,Ľb _ Ò,?_};rw[z8h];unfold E4;simp only[shx,Øi,Öi,a,ã,h,n,GR,g,Ϟb,Int.reduceLT]
theorem KG{d:D}(h:ym d):XU [d]=À (Ã,.bl (zj d)):=by let{w,a,b,_}:=Mi h;rw[z88];unfold Cr;rw[ņq]
theorem Ym{z6:Á D}(h:∀d∈z6,ym d):uO ŧ=À (Ä,.lst ϓm):=by
 let e:=Tg (g:=yC 1) (c:=A8) (e:=z1e) (σ:=[À (Ã,.lst z6),Å]) Ŧc id (ds:=z6) λd b=>by let a:=KG (h d b);show{_,rfl,?_,λ_=>rfl};unfold A8;simp only[Ø,a]
 rw[þe]at e;rw[z95];unfold EU;simp only[Ø,e]
theorem KF{d:D}(h:ym d):XT [d]=À (Ã,.bl (xH d)):=by
 let:∃w,zJ d ů=À Ř/\xT Ř Ma=À (.bl (xH d)):=by
  cases h with
  |ía=>show{_,rfl,rfl}|Ϭ h=>let{w,a,b,_,c,_}:=Zk h;show{w,a,by rw[c];show b}
  |w8=>show{_,rfl,rfl}|Ť t hw hk=>rcases hw with rfl|rfl<;>show{_,rfl,rfl}
 let{w,a,b}:=this;rw[z87];unfold Cq;rw[ņq]
theorem Mj(h:ym d)(a:zj d=Ä):∃t,d=xy t:=by
 cases h with
 |ía t=>show{t,rfl}|Ϭ h=>let{_,_,_,z,_}:=BY (m:=0) Ěc;rw[z]at a;cases a
 |w8=>cases a|Ť t hw hk=>rcases hw with rfl|rfl<;>cases a
def y1d{z6:Á D}(h:∀d∈z6,ym d)(A:źa<=1000):∃ks vs,Wq ŧ=À (Ä,.dic ks vs)/\Ń=đ/\∀t,Ć ks vs Ŏd=(śe).map λn:Â=>ę n:=by
 let{σ',e,ks,vs,o,c,s,j,rfl}:=kL (g:=yC 3) (b:=Mo) (λi σ=>∃ks vs o,Ń=đ/\Ń<=i/\(∀t,Ć ks vs Ŏd=((xJ t ņc).2).map λn:Â=>ę n)/\σ=[À (Ã,.lst z6),À (Ä,.dic ks vs),À (Ã,.int ((Ĺo).length:Â)),o]) (ds:=z6)
  (σ:=[À (Ã,.lst z6),À (Ä,.dic [] []),À (Ã,.int 0),Å]) 0 {[],[],Å,rfl,ĺ _,λt=>rfl,rfl} (by
  rintro i v σ m ⟨ks,vs,o,c,s,j,rfl⟩;rw[Ķ]at *;let r:i<źa:=Ůj.1;let x:z6[i]=v:=Ůj.2;let l:ďg î=ďg i++[v]:=by rw[ĸc r,x]
  let q:=h v (ώ m);let k:=KG q;generalize hn:(Ĺo).length=n;cases hL:zj v with
  |Ä=>
   let{u,rfl}:=Mj q hL;rw[hL]at k;let y:zJ (xy u) ûa=À (.str u):=rfl;let w:uY (.str u)=À Ĺd:=rfl;let f:Ń<yX:=by rw[ϥp]
   let a:(ĵp).length=n:=by rw[l,İa,ì,hn];rfl
   let p:(ŗo).length<=i+1:=by
    unfold wD
    split;omega;rw[ì];exact _+1<=_;omega
   show{_,[À (Ã,.lst z6),À (Ä,.dic ŗo (wE ks vs Ĺd Ài)),À (Ã,.int (n:Â)),À (Ã,xy u)],rfl,.inl ?_,wD ks Ĺd,wE ks vs Ĺd Ài,_,W1 c,p,λt=>?_,by rw[a]}
   .unfold Mo;simp only[Ø,k,jo,y,w,Ï f]
   .rw[ff c,l,ND,hn,j];by_cases e:u=t
    .rw[Ï Áp,Ï e];rfl
    .rw[Ñ (λz=>e (ĵi z)),Ñ e]
  |Ã=>
   rw[hL]at k
   let a:(ĵp).length=n+1:=by rw[l,İa,ì,hn,ąa (by rw[hL];rfl)];rfl
   show{_,[À (Ã,.lst z6),À (Ä,.dic ks vs),À (Ã,.int ((n:Â)+1:Æ)),À (Ã,v)],rfl,.inl ?_,ks,vs,_,c,by omega,λt=>?_,by rw[a];rfl}
   .unfold Mo;simp only[Ø,k]
   .rw[l,NG hL,j])
 rw[Ķ,Œc]at j;show{ks,vs,?_,c,j};rw[z8c];unfold Cv;simp only[Ø,e]
theorem iu{z6:Á D}(h:∀d∈z6,ym d)(c:źa<=1000):∃ks vs,Wq ŧ=À (Ä,.dic ks vs)/\∀t,Ć ks vs Ŏd=(śe).map λn:Â=>ę n:=by let{ks,vs,a,_,b}:=y1d h c;show{ks,vs,a,b}
def z3r:FS:=
 (zQ (zl 0 (xv (zC ϛh (zC (eC ϛf) (Δe (zC (eC Űa) (zC (eC ŏb) (zC (eC ůa) (zC (eC Őb) (zC (eC ŗb) (zC (eC Ūc) (zC ĥj (zC ûg (Θ ğd))))))))))))))
  (zQ (zl 0 (e2 xN þ (xv (Λd (eC Ϝf) (zC (eC ϝf) (zC ňd (Ιe Ņp)))))))
  (yc (e2 xN þ (xv (zC ϛh (Δe (Ιe (zC ĥj (Θ ŏb))))))))))
def JO:Á D->É å:=FR 0 1 z3r
def YI:FS:=
 (zQ ęk
  (zQ ńl
  (zQ Ńl
  (zQ ύk
  (zQ Ϡo
  (zQ (yb (Δb (zC ϛh (Θ ϛf)))
   (Κb (εb (eC Ĝi) ån))
   xK)
  (zQ (yb (Δb (zC ûg (Θ (.str ġa))))
   (Κb (εb (eC Ϝb) ån))
   xK)
  (zQ (yb (Δb (Λd (eC Ϝf) (Θ ϝf)))
   (Κb (zC ñb (εb Þn Ϡh)))
   xK)
  (zQ (yb (tE (e2 zh ı ňd))
   (Χb Ōk)
   xK)
  (zQ (yb (Δb (zC āf (Θ (.str "unless"))))
   (ηa (zC ı (zC (e2 zJ (xv (zC (eC ŭc) (zC (eC Ēe) łp))) (e2 xE ñb Ēb)) Ōk)))
   xK)
  (zQ (yb (tE (e2 zh ı (eC ēb)))
   (yc (wP Āc))
   xK)
  (Κb Åj))))))))))))
def JM:Á D->É å:=FR 3 7 YI
def VS(b x1 a:D):JM ϴ=yL 7 YI ϴ:=rfl
def oU:FA:=Óo
def DF:FE:=(οd (e2 vK (e2 vK þ Ŝb) (e2 zJ (δa ϛn) ŝa)))
def oV:FA:=(qm ī ą)
def Sn:FE:=(e2 xN (e2 xN (kE Ŝ kR øg) (οd (e2 xN (χa (.int 512)) ŝa))) (kE Ŝ øg kR))
def E6:FS:=
 (zQ (zl 2 (eC Ϡb))
  (zQ (zl 3 (e2 xE þ Ŝb))
  (zQ (zl 4 (e2 GO Ĳn (wY 1 oU źe xY DF)))
  (zQ (zl 5 (e2 xE ñl ĭf))
  (zQ (zl 4 (kE Ŝ kR (kS ϊn)))
  (vY (wY 1 oV źe xY Sn)))))))
def JL:Á D->É å:=FR 2 6 E6
def z8j(a x1:D):JL č=yL 6 E6 č:=rfl
def oW:FA:=Óo
def So:FE:=(zg JM (zC (Χa (e2 xN (e2 xN ą Ēb) œg)) (zC Ŝ Åj)))
def oX:FA:=(qm ī ĭf)
def Sq:FE:=œg
def DJ:FT:=(tE (e2 zh (e2 zJ œg ģd) (e2 zJ Ŝ Ůb)))
def Mq:FS:=(zQ (yb Õk
     ώk
     xK)
    (yb (tE (e2 Ļc Ůb ı))
     (qE 8 tN (e2 zJ ŝa Ůb))
     xK))
def E7:FS:=
 (zQ (zl 3 (e2 xE ňo (e2 xN ğ Ŋ)))
  (zQ (zl 4 (zg JL (zC (Χa Úe) (Α ĭf))))
  (zQ (zl 5 (e2 zJ (xv (zC Ēb Ĵf)) (e2 xE (Χa (e2 xN ą Ϛa)) Ϛa)))
  (zQ (zl 6 (wY 1 oW (yC 9) xY So))
  (zQ (qF 8 Ūb)
  (zQ (jK oX (yC 7)
   Mq)
  (pS 8)))))))
def T3:Á D->É å:=FR 3 9 E7
def z8k(b x1 a:D):T3 ϴ=yL 9 E7 ϴ:=rfl
def z5q(a b:Ç):(ύe).cps.toList=ϩn++Ϩn:=âc
def MH(z:Ç)(lo hi:É Æ):(ŧn).length<=ł:=œe z lo hi
def z5r(z:Ç):(ža z Å Ųj).length<=7:=by exact(((Œh 0).take (ř ł ł (À ((7:Â):Æ))-0)).toArray).size<=7;rw[HT.sIx_nat,Ĭ,äa];omega
def y38{m:Æ}(m0:0<=m){Ïc:Æ}(n0:0<=Ïc)(n1:Ïc<=20):∃N:Á Ç,ŕ=čd/\ϛc/\(∃ln:Â,ln<=100/\∀t∈N,Šb=ln)/\JL [.int m,.int Ïc]=À (Ä,.lst őb):=by
 let A:oU [À (Ã,.int m),À (Ã,.int Ïc),À (Ã,.str ĵb),À (Ã,.int Ϣe),Å,Å]=À Ϛm:=kj (n:=m%8) rfl Ê
 obtain⟨ts,e1,F⟩:∃ts:Á Ç,wA źe xY DF çk Ϛm=À Ĝe/\∀t∈ts,Šb=1:=by
  let{f,J,I}:=Ke (g:=yC 6) (e:=DF) (σ:=çk) (λ_ y=>∃t:Ç,y=.str t/\Šb=1) (ds:=wq (Ϣe).toNat) λd E=>by
   let{i,hi,rfl}:=SX E
   obtain⟨p,P,p1,L⟩:∃p:Æ,0<p/\p<20000/\zJ (.lst ϛn) ōa=À (.int p):=by rcases(show i=0\/i=1\/i=2\/i=3\/i=4\/i=5\/i=6 by omega)with rfl|rfl|rfl|rfl|rfl|rfl|rfl<;>show{_,by decide,by decide,rfl}
   let a:=CG (k:=m/8/p%26) Ê Ê;let u:decide (0<p)=Ä:=ú P;let g2:decide (p<18446744073709551616)=Ä:=ú Ê;show{_,.str (lt (m/8/p%26)),rfl,?_,_,rfl,O1 _};unfold DF;generalize Ϭb ę ϻg=PS at L;simp only[Ø,L,u,g2,a]
  let:∃ts:Á Ç,f=đc ϫ/\∀t∈ts,Šb=1:=by
   let h:∀x∈f,∃t:Ç,x=.str t/\Šb=1:=λx S=>by let{_,_,r}:=MM I x S;show r
   clear J I
   induction f with
   |nil=>show{[],rfl,λ_ h=>by cases h}|ð x f ih=>
    let{t,rfl,l}:=h x ϳ;let{ts,rfl,Q}:=ih λy q=>h y Œp
    show⟨t::ts,rfl,λy q=>by rcases ĩ q with rfl|q;show l;show Q y q⟩
  let{ts,rfl,h}:=this;show{ts,J,h}
 let tl:Ϭf=(Ϣe).toNat:=by
  let:=ĳ (λo=>(Ŧd []).length) e1
  let U:∀{g:FG}{e:FE}{σ:zw}{ds f:Á D},wA g xY e σ ds=À f->íb=ü:=λ{g e σ ds}=>by
   induction ds with
   |nil=>intro f h;cases h;rfl|ð d ds ih=>intro f h;let{σ1,H,h}:=zH (show(ϲb).bind _=À f from h);let{x,h3,h}:=zH (show(Şd).bind _=À f from h);let{ys,h4,h}:=zH h;cases h;rw[Ĉ,Ĉ,ih h4]
  let:=U e1;rw[ã,UE]at this;rw[Ϯp]
 let sm:∀{l:Á Ç},(∀t∈l,Šb=1)->(áa (·.length)).sum=Ĕc:=λ{l}=>by
  induction l with
  |nil=>intro _;rfl|ð x l ih=>intro h;rw[ĵ,ľf,ih λy q=>h y Œp,h x ϳ,Ĉ];omega
 let X:("" : Ç).length=0:=rfl;let jn:=y0g (sep := "") (ts:=ts) (by rw[sm F,X,tl];omega);generalize Ŋm "" ts=W0 at jn;obtain⟨W,G⟩:∃W:Ç,W=ža W0 Å Ųj:={_,rfl};let lW:āj<=7:=by rw[G];show z5r W0
 let u:decide (0<m%8+1)=Ä:=ú Ê;obtain⟨c,s⟩:∃c:Æ,c=m/64%(m%8+1):={_,rfl};let B:oV [À (Ã,.int m),À (Ã,.int Ïc),À (Ã,.str ĵb),À (Ã,.int Ϣe),À (Ã,.str W),À (Ã,.int c)]=À (wq čd):=kj (n:=Ïc) rfl Ê
 let e2:=Zc (g:=yC 6) (e:=Sn) (σ:=[À (Ã,.int m),À (Ã,.int Ïc),À (Ã,.str ĵb),À (Ã,.int Ϣe),À (Ã,.str W),À (Ã,.int c),Å]) ßk (ds:=wq čd) λd E=>by let{i,hi,rfl}:=SX E;let a:=CG (k:=Ţk%26) Ê Ê;let Z:=MH W Å đa;let l2:=MH W đa Å;let l3:=O1 Ĉj;let s1:kE Ŝ kR øg Ùk=À (.str Ìn):=rfl;let s2:kE Ŝ øg kR Ùk=À (.str Ën):=rfl;let w:=Ŕe (a:=ža W Å đa) (b:=lt Ĉj) Ê;let C:=Ŕe (a:=ža W Å đa++lt Ĉj) (b:=ža W đa Å) (by rw[Mx];omega);rw[Ϸp];unfold Sn;simp only[Ø,s1,s2,Ãa,a,w,C]
 let R:(wq čd).map ßk=((Çj).map λj:Â=>ža W Å đa++lt Ğh++ža W đa Å).map ϫ:=by rw[ϰ,ϰ];rfl
 rw[R]at e2;refine{(Çj).map λj:Â=>ža W Å đa++lt Ğh++ža W đa Å,by rw[ã,Øa],?_,{(Ìn).length+1+(Ën).length,?_,λt F=>?_},?_};show Ćh (Ěl (λ{a b} O K T=>?_) (ŭh (n:=čd)));intro h;let O:=ñd O;let K:=ñd K;let H:=ĳ Ĝn h;let Y:∀x:Æ,(lt x).cps.toList=[97+x.toNat]:=λ_=>rfl
 simp only[z5q,Y,Š,List.append_cancel_left_eq,ńb,ìc,Óe]at H;omega;let Z:=MH W Å đa;let l2:=MH W đa Å;omega;let{j,_,rfl}:=Èa F;rw[Mx,Mx,O1];let v:MR (.str W0) Å Ųj=À (.str W):=by rw[G];rfl
 rw[z8j];unfold E6;generalize Ϭb ϫ (Ϭb (λj:Â=>ža W Å đa++lt Ğh++ža W đa Å) Çj)=NN at A e1 jn u s v B e2 ⊢;generalize đc ϫ=TT at A e1 jn u s v B e2 ⊢;simp only[Ø,A,e1,jn,Ãa,u,<-s,kE,kS,kR,v,B,e2]
abbrev Oy:D:=.lst [.str Ś,.str òb,.str Ïa,.str Ńa,.str Ĕa,.str ła,.str ēa,.str ϔa,.str ϗa,.str Ãb,.str ÿa,.str Ĥa,.str ġa,.str şa,.str Řa,.str řa,.str Őa,.str Ĺa,.str Ða,.str Ìa,.str ţd,.str Ś,.str Ïa,.str Ńa,.str Ða,.str Ìa,.str ÿa,.str ła]
theorem w10:JO []=À (Ã,Oy):=by rfl
def Lu(w:Ç):È:=(w = Ś \/ w = òb)\/(w = Ĥa \/ w = ġa)\/(w = şa \/ w = Řa \/ w = řa \/ w = Őa)\/(w = Ïa \/ w = Ńa \/ w = Ĕa \/ w = ła \/ w = ēa \/ w = ϔa \/ w = ϗa \/ w = Ãb \/ w = ÿa)\/w = Ĺa \/ ϟl\/w = ţd
nonrec def z13(w:Ç):Ěe (Lu w):=by unfold Lu;infer_instance
def w0y:((ϡ 28).all λk:Â=>match zJ Oy ĸf with
  |À Ř=>@decide (Lu w) (z13 w)|_=>Ã)=Ä:=by rw[Ϩp]
def w0z(a:0<=v)(b:v<28):∃w:Ç,Lu w/\zJ Oy Ϯb=À Ř:=by
 let h:=âa w0y v.toNat (Ća Ê);rw[ϲd a]at h;generalize zJ Oy Ϯb=o at h ⊢
 rw[Éq];show{_,@of_decide_eq_true _ (z13 _) h,rfl};cases h
def BF{a b i:Æ}(d:0<=i)(c:i<2):∃n,(n=a\/n=b)/\zJ (.lst [.int a,.int b]) ϵ=À Ŋe:=by rcases(show i=0\/i=1 by omega)with rfl|rfl;show{a,by simp,rfl};show{b,by simp,rfl}
def Vz{n:Â}{b:FS}{ds:Á D}{r:É Fl}{o:Ð}{d:D}(h:b Ľk=r)(e:r=À ϑc):yL n b ds=À (o,d):=by unfold yL;rw[h,e];rfl
def vm{f:FE}{σ:zw}{k:Ð}(h:f σ=À Šd):tE f σ=À k:=by unfold tE;rw[h];rfl
def um{c:FT}{a b:FS}{σ:zw}(h:c σ=À Ã):zQ (yb c a xK) b σ=b σ:=tR ((z9w h).trans rfl)
def TQ{c:FT}{a b f:FS}{σ:zw}{o:Ð}{d:D}(h:c σ=À Ä)(e:a σ=À ϑc):zQ (yb c a f) b σ=À ϑc:=x3h ((z9x h).trans e)
def x1i{N:Á Ç}(P:N≠[]){m:Æ}(W:0<=m){d:Æ}(U:d=3\/d=8):∃r,g9 N r/\JM [.int m,.lst őb,.int d]=À (Ã,r):=by
 let{w,c,H}:=w0z (v:=m%28) Ê Ê;let G:=w10;let T:0<ŕ:=ĭl P;let I:decide (0<d)=Ä:=ú Ê;obtain⟨q,Q⟩:∃q:Æ,q=m/28:={_,rfl};let p:=Łb q (show d≠0 by omega);let S:=Ľb q (show 0<d by omega);let u:=Łb (q/8) (show d≠0 by omega);let K:=Ľb (q/8) (show 0<d by omega);obtain⟨g,y⟩:∃z:Æ,z=q%d:={_,rfl};obtain⟨two,E⟩:∃z:Æ,z=q/8%d:={_,rfl};rw[<-y]at p S;rw[<-E]at u K
 have Ϙe:∀z_:FS,zQ ęk
  (zQ ńl
  (zQ Ńl
  (zQ ύk
  (zQ Ϡo z_)))) [À (Ã,.int m),À (Ã,.lst őb),À (Ã,.int d),Å,Å,Å,Å]=z_ [À (Ã,.int q),À (Ã,.lst őb),À (Ã,.int d),À (Ã,.str w),À (Ã,.int g),À (Ã,.int two),À (Ã,.int Ŝg)]:=λz_=>by
  generalize Ŵb ϫ=NN at *
  rw[tR (σ':=[À (Ã,.int m),À (Ã,.lst NN),À (Ã,.int d),À (Ã,.str w),Å,Å,Å]) (by generalize Oy=WD at G H ⊢;simp only[Ø,G,H])]
  rw[tR (σ':=[À (Ã,.int q),À (Ã,.lst NN),À (Ã,.int d),À (Ã,.str w),Å,Å,Å]) (by simp only[Ø,<-Q])];rw[tR (σ':=[À (Ã,.int q),À (Ã,.lst NN),À (Ã,.int d),À (Ã,.str w),À (Ã,.int g),Å,Å]) (by simp only[Ø,I,<-y])];rw[tR (σ':=[À (Ã,.int q),À (Ã,.lst NN),À (Ã,.int d),À (Ã,.str w),À (Ã,.int g),À (Ã,.int two),Å]) (by simp only[Ø,I,<-E])];rw[tR (σ':=[À (Ã,.int q),À (Ã,.lst NN),À (Ã,.int d),À (Ã,.str w),À (Ã,.int g),À (Ã,.int two),À (Ã,.int Ŝg)]) ém]
 let nm:∃t∈N,zJ ŀp (.int Ÿh)=À ϵb:=by
  let R:=Łb Ŝg (show(ŕ:Æ)≠0 by omega);let Y:=Ľb Ŝg (show 0<(ŕ:Æ) by omega);let F:(Ÿh).toNat<ŕ:=by omega
  show{N[(Ÿh).toNat],ϐb F,jY R (by rw[ė,Đ F];rfl)}
 let{t,J,C}:=nm;let B:decide ϕn=Ä:=ú Ê;rcases c with c|c|c|c|c|c|c;let{n,A,s}:=BF (a:=q/64%65536) (b:=q/64%3) (i:=q/32%2) Ê Ê;let e:xT Ř ĺc=À İ:=by rcases c with rfl|rfl<;>rfl
 refine{_,.plain (.Wc c p Ê (show 0<=n by omega) Ê),?_};rw[ϩp];show TQ (vm e) ďh;let{n,A,s}:=BF (a:=q/64%32) (b:=q/64%3) (i:=q/32%2) Ê Ê;let e:xT Ř ĺc=À ý:=by rcases c with rfl|rfl<;>rfl
 let f:xT Ř Ìd=À İ:=by rcases c with rfl|rfl<;>rfl
 refine{_,.plain (.Wd c p Ê (show 0<=n by omega) Ê),?_};rw[ϩp];show(Ģd).trans (TQ (vm f) ďh);let{n,A,s}:=BF (a:=q/64%256) (b:=q/64%4) (i:=q/32%2) Ê Ê;let e:xT Ř ĺc=À ý:=by rcases c with rfl|rfl|rfl|rfl<;>rfl
 let f:xT Ř Ìd=À ý:=by rcases c with rfl|rfl|rfl|rfl<;>rfl
 let j:xT Ř όd=À İ:=by rcases c with rfl|rfl|rfl|rfl<;>rfl
 refine{_,.plain (.mem c p Ê u Ê (show 0<=n by omega) Ê),?_};rw[ϩp];show(Ģd).trans ((Śo).trans (TQ ìj ďh));let k:xT Ř ĺc=À ý/\xT Ř Ìd=À ý/\xT Ř όd=À ý/\zh Ř ďb=À ý/\xT Ř Úh=À ý/\zh Ř ēb=À ý:=by rcases c with rfl|rfl|rfl|rfl|rfl|rfl|rfl|rfl|rfl<;>show{rfl,rfl,rfl,rfl,rfl,rfl}
 let{e,f,j,l,o,x}:=k;refine{_,.plain (.two c p Ê u Ê),?_};rw[ϩp];show(Ģd).trans (Θc ((řo).trans ((um (vm x)).trans rfl)));subst c;let k:xT ďb ĺc=À ý/\xT ďb Ìd=À ý/\xT ďb όd=À ý/\zh ďb ďb=À İ:={rfl,rfl,rfl,rfl};let{e,f,j,l}:=k;show{_,.w8 J,?_};rw[ϩp];show(Ģd).trans ((Śo).trans ((um ìj).trans (TQ (vm l) (by simp only[Ø,ã,B,C]))));let k:xT Ř ĺc=À ý/\xT Ř Ìd=À ý/\xT Ř όd=À ý/\zh Ř ďb=À ý/\xT Ř Úh=À İ:=by rcases c with rfl|rfl<;>show{rfl,rfl,rfl,rfl,rfl}
 let{e,f,j,l,o}:=k
 obtain⟨X,L,O⟩:∃k:Ç,Ϭk/\zJ (.lst [.str ϻ,.str ça,.str ëa]) (Ζ (two%3))=À Ϸb:=by rcases(show two%3=0\/two%3=1\/two%3=2 by omega)with h|h|h<;>rw[h];show{ϻ,by simp,rfl};show{ça,by simp,rfl};show{ëa,by simp,rfl}
 show{_,.cond c L J,?_};rw[ϩp];show(Ģd).trans (Θc (TQ (vm o) (by simp only[Ø,ã,B,C,O])));subst c;let k:xT ēb ĺc=À ý/\xT ēb Ìd=À ý/\xT ēb όd=À ý/\zh ēb ďb=À ý/\xT ēb Úh=À ý/\zh ēb ēb=À İ:={rfl,rfl,rfl,rfl,rfl,rfl};let{e,f,j,l,o,x}:=k;show{_,.plain .stop,?_};rw[ϩp];show(Ģd).trans (Θc ((řo).trans (TQ (vm x) rfl)))
structure PC(z6:Á D):È where
 it:∀d∈z6,ym d
 nd:(će zj).Nodup
 tg:∀d∈z6,xH d=Ä->∃(t:Ç) (p:Â),zJ d ůc=À ϵb/\ċd.2=À p
 ln:źa<=100
def Zb(t:Ç)(d:D):Ð:=xf (iz d) ϵb
def y1g{N:Á Ç}{d:D}(h:g9 N d)(t:Ç):∃x,zJ d ůc=À x/\zh x ϵb=À (.bl (Zb t d)):=by
 cases h with
 |Ϭ h=>cases h<;>show{_,rfl,rfl}|w8 ht=>show{_,rfl,rfl}|Ť hw hk ht=>show{_,rfl,rfl}
def x1h{N:Á Ç}{d:D}(h:g9 N d)(a:xH d=Ä):∃t∈N,zJ d ůc=À ϵb/\Zb t d=Ä:=by
 cases h with
 |Ϭ h=>let{_,_,_,_,c,_}:=Zk h;rw[c]at a;cases a
 |w8 ht=>rename_i t;show{t,ht,rfl,đb t}|Ť hw hk ht=>rename_i t;show{t,ht,rfl,đb t}
structure cv(N:Á Ç)(R:Á D)(k:Â)(L:Á D):È where
 it:∀d∈L,Lj N d
 rs:řb Ŧc=Ōg k
 nd:(řb zj).Nodup
 lb:∀d∈L,zj d=Ä->∃j,j<k/\∃t,N[j]?=À t/\d=xy t
 pl:∀j t,j<k->N[j]?=À t->(∃r∈R,Zb t r=Ä)->ϲa.2=À j
 ln:ϩ<=2*k
theorem m4:∀{N:Á Ç},ϛc->∀{i j:Â}{u:Ç},N[i]?=À u->N[j]?=À u->i=j
 | [],_,_,_,_,h,_=>by cases h|x::N,h,0,0,_,_,_=>rfl|x::N,h,0,j+1,u,hi,hj=>by cases hi;show Þ (ώ åm) Ŧj.1|x::N,h,i+1,0,u,hi,hj=>by cases hj;show Þ (ώ ÿf) Ŧj.1|x::N,h,i+1,j+1,u,hi,hj=>by rw[m4 Ŧj.2 (i:=i) (j:=j) ÿf åm]
theorem ip{t u:Ç}(h:xy t=xy u):t=u:=by
 unfold xy at h;injection h with h
 injection h with _ h
 injection h with h _
 injection h
def x50{N:Á Ç}(s:ϛc){R L:Á D}{k:Â}(S:cv N R k L){t:Ç}(l:N[k]?=À t)(hk:k<=şb) :(∀d∈L++[xy t],Lj N d)/\(Ŋi).filter Ŧc=Ōg k/\((Ŋi).filter zj).Nodup/\(∀d∈L++[xy t],zj d=Ä->∃j,j<k+1/\∃t,N[j]?=À t/\d=xy t)/\(∀j u,j<k+1->N[j]?=À u->(∃r∈R,Zb u r=Ä)->(xJ u Ŋi).2=À j):=by
 let g:∀{i j:Â}{u:Ç},N[i]?=À u->N[j]?=À u->i=j:=λv m=>m4 s v m
 show{λd c=>?_,?_,?_,λd c n=>?_,λj u m f w=>?_};rcases Ÿ c with c|c;show S.it d c;cases Ĵ c;show .inr {t,ώ l,rfl};rw[İa,S.rs];exact Ōg k++[]=_;rw[Œ];rw[İa];exact(řb zj++[xy t]).Nodup;refine çf {S.nd,äd {by simp,Ōa},λa p b q e=>?_};cases Ĵ q;let{p,n}:=Įa p;let{j,m,u,f,o}:=S.lb a p n;let:=ip (o.symm.trans e);rw[űq];let:=g f l;omega;rcases Ÿ c with c|c;let{j,m,u,f,o}:=S.lb d c n;show{j,by omega,u,f,o};cases Ĵ c;show{k,by omega,t,l,rfl};rw[ND];by_cases e:t=u;subst e;let:=g f l;rw[Ï rfl,S.rs,äa,this]
 congr 1
 omega;rw[Ñ e];show S.pl j u ?_ f w;rcases Ťc j k with h|h;show h;let:j=k:=by omega
 rw[űq];rw[l]at f;cases f;show Þ rfl e
def y9s{ns:Á Æ}(E:ţ<=63)(Z:∀m∈ns,vV m<=1048576){first Ťa:Æ}(f0:0<=first)(I:first<=40)(m0:0<=Ťa)(m1:Ťa<=14) :∃(N:Á Ç) (R z6:Á D),Ϻk/\ŕ=şb+1/\ϛc/\(∀r∈R,g9 N r)/\PC z6/\će Ŧc=R/\źa<=40/\T3 ϡk=À (Ä,.lst z6)/\(∃ln:Â,∀t∈N,Šb=ln)/\∀t,xy t∈z6->t∈N:=by
 let{a,a0,a1,ea}:=Ze E Z (k:=first) f0 Ê;let{b,b0,b1,eb}:=Ze E Z (k:=first+1) Ê Ê;let{c,c0,c1,U}:=Ze E Z (k:=first+2) Ê Ê
 let em:∀i:Â,i<20->∃m:Æ,0<=m/\uC [.lst ϯ,.int (first+3+(i:Æ))]=À (Ã,.int m):=λi hi=>by let{m,h0,_,e}:=Ze E Z (k:=first+3+(i:Æ)) Ê Ê;show{m,h0,e}
 generalize żd ϯ=s at ea eb U em ⊢;let g0:decide (0<Ťa+1)=Ä:=ú Ê;obtain⟨l,F⟩:∃z:Æ,z=a%(Ťa+1):={_,rfl};let ct0:0<=l:=by rw[F];show Łb _ Ê
 let ct1:l<Ťa+1:=by rw[F];show Ľb _ Ê
 let{N,nl,nd,W,en}:=y38 b0 (Ïc:=l+1) Ê Ê;let nn:N≠[]:=λz=>by rw[z]at nl;simp at nl;omega
 let{A,hmn,X}:=BF (a:=3) (b:=8) (i:=c%2) Ê Ê;let r1:oW [À (Ã,s),À (Ã,.int first),À (Ã,.int Ťa),À (Ã,.int l),À (Ã,.lst őb),À (Ã,.int A),Å,Å,Å]=À (wq ϙc):=kj (n:=l) rfl Ê
 let{R,e1,eR}:=Ke (g:=yC 9) (e:=So) (σ:=[À (Ã,s),À (Ã,.int first),À (Ã,.int Ťa),À (Ã,.int l),À (Ã,.lst őb),À (Ã,.int A),Å,Å,Å,Å]) (λ_ y=>g9 N y) (ds:=wq ϙc) λd o=>by let{i,hi,rfl}:=SX o;let{m,h0,e}:=em i Ê;let{r,C,er}:=x1i nn h0 hmn;show{_,r,rfl,?_,C};unfold So;generalize Ŵb ϫ=NN at e er ⊢;simp only[Ø,Ãa,e,er]
 have rl:şb=ϙc:=by rw[<-z6p eR,UE]
 let hR:∀r∈R,g9 N r:=λr C=>by let{_,_,h}:=MM eR r C;show h
 let r2:oX Źg=À (wq (ϙc+1)):=by let:=kj (f:=e2 xN ı Ŋ) (τ:=Źg) (n:=l+1) rfl Ê;rw[show(l+1).toNat=ϙc+1 by omega]at this;rw[Ϯp]
 let{σ',e3,L,x7,S,rfl}:=kL (g:=yC 7) (b:=Mq) (λi σ=>∃L x7,cv N R i L/\σ=[À (Ã,s),À (Ã,.int first),À (Ã,.int Ťa),À (Ã,.int l),À (Ã,.lst őb),À (Ã,.int A),À (Ã,.lst R),x7,À (Ä,.lst L)]) (ds:=wq (ϙc+1))
  (σ:=Źg) 0 {[],Å,{ύb,by rw[ąd];rfl,Ōa,ύb,(λj _ h=>Þ h æd),ĺ _},rfl} (by
  rintro i v σ hv ⟨L,x7,S,rfl⟩;let{hi,rfl}:=UD hv;rw[Ķ]at *;let hiN:i<ŕ:=by omega
  let gN:N[i]?=À N[i]:=Đ hiN;let Q:zJ ŀp ōa=À (.str N[i]):=jY Ê (by rw[Ĝ,ė,gN];rfl)
  let I:=Tg (g:=yC 9) (c:=DJ) (e:=Sq) (σ:=[À (Ã,s),À (Ã,.int first),À (Ã,.int Ťa),À (Ã,.int l),À (Ã,.lst őb),À (Ã,.int A),À (Ã,.lst R),À (Ã,.int (i:Æ)),À (Ä,.lst L),Å]) Ği id (ds:=R) λd o=>by let{x,q1,q2}:=y1g (hR d o) N[i];show{_,rfl,?_,λ_=>rfl};unfold DJ;generalize Ŵb ϫ=NN at q1 Q q2 ⊢;simp only[Ø,q1,Q,q2]
  rw[þe]at I;let H:=B3 ķn
  have lab:∃ w,yb Õk
     ώk
     xK ŷg=À (.nx Ók)/\
    ĭe<=2*i+1/\(∀d∈w,Lj N d)/\w.filter Ŧc=Ōg i/\(w.filter zj).Nodup/\(∀d∈w,zj d=Ä->∃j,j<i+1/\∃t,N[j]?=À t/\d=xy t)/\(∀j u,j<i+1->N[j]?=À u->(∃r∈R,Zb u r=Ä)->(xJ u w).2=À j):=by
   let q:=Xf (L:=L) (r:=xy N[i]) (by let:=S.ln;omega);let B:=x50 nd S gN Ê;let ll:(L++[xy N[i]]).length<=2*i+1:=by rw[ì];let:=S.ln;exact ϩ+1<=_;omega
   unfold xy at q;cases hE:(ķn).isEmpty with
   |Ã=>
    rw[hE]at H;rw[ōq];generalize Ŵb ϫ=NN at I H Q q ⊢;simp only[Ø,I,H,Q,q]
   |Ä=>
    rw[hE]at H
    let K:¬ ∃r∈R,Zb N[i] r=Ä:=λ⟨r,C,h⟩=>by let:r∈R.filter Ği:=ϯd {C,h};rw[List.isEmpty_iff.mp hE]at this;cases this
    by_cases hc:c/2%5=(i:Æ)
    .let k:=iA hc;rw[ōq];generalize Ŵb ϫ=NN at I H U k Q q ⊢;simp only[Ø,I,H,Ãa,U,k,Q,q]
    .let k:=iB hc;show{L,?_,by let:=S.ln;omega,S.it,S.rs,S.nd,λd o E=>?_,λj u T J C=>?_}
     .generalize Ŵb ϫ=NN at *;simp only[Ø,I,H,Ãa,U,k]
     .let{j,T,t,Y,e}:=S.lb d o E;show{j,by omega,t,Y,e}
     .rcases Ťc j i with h|h
      .show S.pl j u h J C
      .let:j=i:=by omega
       rw[űq];rw[gN]at J;cases J;show Þ C K
  let{w,el,ll,l1,l2,l3,l4,l5}:=lab;by_cases hir:i<ϙc
  .let p:decide ŭo=Ä:=ú Ê;let O:i<şb:=by omega
   let P:zJ (.lst R) ōa=À R[i]:=jY Ê (by rw[Ĝ];show Đ O);let q:=Xf (L:=w) (r:=R[i]) Ê;let rA:=hR _ (ϐb O);let G:=(Nn rA).2;show{_,[À (Ã,s),À (Ã,.int first),À (Ã,.int Ťa),À (Ã,.int l),À (Ã,.lst őb),À (Ã,.int A),À (Ã,.lst R),À (Ã,.int (i:Æ)),À (Ä,.lst (w++[R[i]]))],rfl,.inl ?_,w++[R[i]],_,{?_,?_,?_,?_,?_,?_},rfl}
   .rw[ńq];generalize Ŵb ϫ=NN at p P q ⊢;generalize R[i]=RI at p P q ⊢;simp only[Ø,p,P,q]
   .intro d o;rcases Ÿ o with o|o
    .show l1 d o
    .cases Ĵ o;show .inl rA
   .rw[İa,l2,ąa (by rw[G];rfl),Ād,ĸc O]
   .rw[İa,ña (by rw[G];decide),Ād,Œ];show l3
   .intro d o E;rcases Ÿ o with o|o
    .show l4 d o E
    .cases Ĵ o;rw[G]at E;cases E
   .intro j u T J C;rw[NG G];show l5 j u T J C
   .rw[ì];exact ĭe+1<=_;omega
  .let p:decide ŭo=Ã:=ď Ê;show{_,Ók,rfl,.inl ?_,w,_,{l1,?_,l3,l4,l5,by omega},rfl}
   .rw[ńq];generalize Ŵb ϫ=NN at p ⊢;simp only[Ø,p]
   .rw[l2,Þc Ê,Þc Ê])
 rw[UE,Ķ]at S;let ln:=S.ln;refine{N,R,L,by omega,by omega,nd,hR,{λd o=>y07 (S.it d o),S.nd,λd o T=>?_,by omega},by rw[S.rs,Þc Ê],by omega,?_,?_,λt Y=>?_};rcases S.it d o with h|⟨t,_,rfl⟩;let{t,Y,e,li}:=x1h h T;let{j,hj2,ej}:=ϱd Y
 let dR:d∈R:=by
  let:d∈řb λd=>!zj d:=ϯd {o,by rw[(Nn h).2];rfl}
  rw[S.rs]at this;show ϩd this
 show{t,j,e,S.pl j t Ê (by rw[Đ hj2,ej]) {d,dR,li}};cases T;rw[z8k];unfold E7;generalize Ŵb ϫ=NN at ea g0 F eb en U X r1 e1 r2 e3 ⊢;simp only[Ø,ea,Ãa,g0,<-F,eb,en,U,X,r1,e1,r2,e3];let{ln,_,h}:=W;show{ln,h};let{j,_,u,J,e}:=S.lb _ Y rfl;rw[ip e];show ώ J
def y9r{ns:Á Æ}(o:ţ<=63)(j:∀m∈ns,vV m<=1048576){first Ťa:Æ}(i:0<=first)(n:first<=40)(l:0<=Ťa)(k:Ťa<=14) :∃(N:Á Ç) (R z6:Á D),Ϻk/\ŕ=şb+1/\ϛc/\(∀r∈R,g9 N r)/\PC z6/\će Ŧc=R/\źa<=40/\T3 ϡk=À (Ä,.lst z6):=by let{N,R,z6,a,b,c,d,e,f,g,h,_}:=y9s o j i n l k;show{N,R,z6,a,b,c,d,e,f,g,h}
nonrec def zN(a:Á Â):Á D:=Èc λi:Â=>ę i
theorem ie:∀qs:Á Â,Za (ħa λi:Â=>ύ úd)=À (ħa λi:Â=>ĭ (i:Æ),ħa λ_=>Ìb Ä)
 | []=>rfl|a::qs=>by exact(uY âe).bind _=_;exact(Za (ħa λi:Â=>ύ úd)).bind _=_;rw[ie qs];rfl
theorem Ii(n:Â):∀qs:Á Â,yr (ħa λi:Â=>ĭ (i:Æ)) ėb=decide (n∈qs)
 | []=>rfl|a::qs=>by exact(decide ((ĭ (a:Æ):Sum Æ Ç)=.inl (n:Æ))||yr (ħa λi:Â=>ĭ (i:Æ)) ėb)=_;rw[Ii n qs];by_cases h:a=n;subst h;rw[ú (p:=(ĭ (a:Æ):Sum Æ Ç)=.inl (a:Æ)) rfl,ú ϳ];rfl;rw[ď (p:=(ĭ (a:Æ):Sum Æ Ç)=.inl (n:Æ)) (λe=>h (by let:=ïc e;omega)),řn];show îf {λz=>Ų _ z,λz=>?_};rcases ĩ z with z|z;show Þ ħb h;show z
def eK(a:Á Â):∃K V,YO [.lst (Èc λi:Â=>ύ úd)]=À Ĉc/\∀n:Â,yr K ėb=decide (n∈a):=by show{Ĉk.1,Ĉk.2,?_,λn=>?_};exact(Za _).bind _=_;rw[ie];rfl;rw[KA ô,Ii];rfl
nonrec def B6:É å->Ð
 |À (Ã,.int u)=>decide (0<=u/\u<2048)|_=>Ã
def Zh(r:D):Ð:=B6 (t4 [r])&&B6 óg
def w01:Zh όb=Ä:=by rw[Ϩp]
def x9x:∀n:Æ,((Ēp).all λw=>(Ż).all λd=>Zh žk)=Ä:=λn=>by rw[Áq]
def w02:(δd (Ĭk) (Ż) (Ż))=Ä:=by rw[Áq]
def w00:(δd (ϵi) (Ż) ċj)=Ä:=by rw[Áq]
def x9z:∀n:Æ,((Ōm).all λw=>(Ż).all λd=>(Ż).all λs=>Zh Ŋk)=Ä:=λn=>by rw[Áq]
def x9y:∀t:Ç,Zh Øc=Ä:=λn=>by rw[Áq]
def x9w:∀t:Ç,((ēp).all λw=>[ϻ,ça,ëa].all λk=>Zh Ők)=Ä:=λn=>by rw[Áq]
def mM{o:É å}(h:B6 o=Ä):∃u:Â,u<2048/\o=À (Ã,.int u):=by
 unfold B6 at h
 rw[Éq];rename_i u;let:=š h;show{Ņj,by omega,by rw[ϲd this.1]};cases h
def Į{α:Type}{l:Á α}{f:α->Ð}(h:l.all f=Ä){x:α}(a:x∈l):f x=Ä:=âa h x a
def Vl{d:Æ}{n:Â}(b:0<=d)(a:d<n):∃k∈ϡ n,d=(k:Â):={d.toNat,Ća Ê,by omega}
def y08{f:D->Ð}(m:f όb=Ä)(i:∀n:Æ,((Ēp).all λw=>(Ż).all λd=>f žk)=Ä)(c:(εd (Ĭk) (Ż) (Ż))=Ä)(l:(εd (ϵi) (Ż) ċj)=Ä)(g:∀n:Æ,((Ōm).all λw=>(Ż).all λd=>(Ż).all λs=>f Ŋk)=Ä)(o:∀t:Ç,f Øc=Ä)(e:∀t:Ç,((ēp).all λw=>[ϻ,ça,ëa].all λk=>f Ők)=Ä){r:D}(h:ym r)(p:zj r=Ã):f r=Ä:=by
 cases h with
 |ía t=>cases p|Ϭ h=>
  cases h with
  |Ϡ=>show m|Wc hw d0 d1 n0 n1=>let{k,a,rfl}:=Vl (n:=8) d0 d1;rcases hw with rfl|rfl;show Į (Į (i _) (x := Ś) Ò) a;show Į (Į (i _) (x := òb) Ò) a
  |two hw d0 d1 s0 s1=>let{k,a,rfl}:=Vl (n:=8) d0 d1;let{j,b,rfl}:=Vl (n:=8) s0 s1;rcases hw with rfl|rfl|rfl|rfl|rfl|rfl|rfl|rfl|rfl;show Į (Λ (Į c (x := Ïa) Ò)) b;show Į (Λ (Į c (x := Ńa) Ò)) b;show Į (Λ (Į c (x := Ĕa) Ò)) b;show Į (Λ (Į c (x := ła) Ò)) b;show Į (Λ (Į c (x := ēa) Ò)) b;show Į (Λ (Į c (x := ϔa) Ò)) b;show Į (Λ (Į c (x := ϗa) Ò)) b;show Į (Λ (Į c (x := Ãb) Ò)) b;show Į (Λ (Į c (x := ÿa) Ò)) b
  |Wd hw d0 d1 n0 n1=>let{k,a,rfl}:=Vl (n:=8) d0 d1;let{j,b,rfl}:=Vl (n:=32) n0 n1;rcases hw with rfl|rfl;show Į (Λ (Į l (x := Ĥa) Ò)) b;show Į (Λ (Į l (x := ġa) Ò)) b
  |mem hw d0 d1 s0 s1 n0 n1=>let{k,a,rfl}:=Vl (n:=8) d0 d1;let{j,b,rfl}:=Vl (n:=8) s0 s1;rcases hw with rfl|rfl|rfl|rfl;show Į (Λ (Į (g _) (x := şa) Ò)) b;show Į (Λ (Į (g _) (x := Řa) Ò)) b;show Į (Λ (Į (g _) (x := řa) Ò)) b;show Į (Λ (Į (g _) (x := Őa) Ò)) b
 |w8 t=>show o t|Ť t hw a=>rcases hw with rfl|rfl<;>rcases a with rfl|rfl|rfl;show Į Öh (x := ϻ) Ò;show Į Öh (x := ça) Ò;show Į Öh (x := ëa) Ò;show Į Øh (x := ϻ) Ò;show Į Øh (x := ça) Ò;show Į Øh (x := ëa) Ò
def z0k{r:D}(h:ym r)(a:zj r=Ã):Zh r=Ä:=y08 w01 x9x w02 w00 x9z x9y x9w h a
nonrec def Vn:É å->Â
 |À (_,.int u)=>Ņj|_=>0
def w03{r:D}(h:ym r)(b:zj r=Ã):t4 [r]=À (Ã,.int (Vn (t4 [r]):Â))/\Vn (t4 [r])<2048:=by rw[Īq];let{u,a,e}:=mM this.1;rw[e];show{rfl,a}
def x00{r:D}(h:ym r)(b:zj r=Ã):qe [r]=À (Ã,.int (Vn óg:Â))/\Vn óg<2048:=by rw[Īq];let{u,a,e}:=mM this.2;rw[e];show{rfl,a}
def Eb:FS:=
 (zQ (yb Þm
   (vY Ūb)
   xK)
  (zQ (yb (tE (εa ňd))
   (vY (xv ŉb))
   xK)
  (zQ (yb (tE (e2 ZU ğ ϰa))
   (vY (xv (Α Úe)))
   xK)
  (vY (eL TX (Α (xv (zC Úe ϴh))))))))
def JV:Á D->É å:=FR 3 3 Eb
def z9b(b x1 a:D):JV ϴ=yL 3 Eb ϴ:=rfl
nonrec def wd:D->Ç
 |.tup Ōi=>w|_ => ""
def Tp(r:D):Ç:=match iz r with
 |.str t=>t|_ => ""
def yY(z6:Á D)(r:D):É Â:=match xH r with
 |Ä=>(xJ Ík z6).2|Ã=>Å
nonrec def y_:É Â->D
 |Å=>.zO|À p=>.int (p:Æ)
nonrec def two(a b:Â):Á Â:=if a=b then[a]else if a<b then[a,b]else[b,a]
def Zv(r:D)(i:Â)(t:É Â):Á Â:=if wd r = ţd then[]else match t with
 |Å=>[i+1]|À p=>if wd r = Ĺa then[p]else two î p
def zB(z6:Á D):Á D:=će λd=>!zj d
def Wf(z6:Á D)(i:Â):Á Â:=match Õ[i]? with
 |À r=>Zv r i Ţc|Å=>[]
theorem Mu{g:FG}{e:FE}{σ:zw}(v:Â->D):∀{ds:Á D}(k:Â),(∀i d,ds[i]?=À d->∃σ1,g d σ=À σ1/\e σ1=À (v (k+i)))->wA g xY e σ ds=À ((ıo).map v)
 | [],_,_=>rfl|d::ds,k,h=>by
  let{σ1,e1,e2}:=h 0 d rfl
  let a:=Mu v (ds:=ds) Ň λi c b=>by rw[show k+1+i=k+î by omega];show h î c Àe
  rw[æq]
def iL{r:D}(h:ym r):zJ r ů=À ŋf:=by
 cases h with
 |ía t=>rfl|Ϭ h=>cases h<;>rfl|w8 t=>rfl|Ť t hw hk=>rfl
def y09{r:D}(h:ym r):xH r=(wd r == Ĺa || wd r == Ða || wd r == Ìa):=by
 cases h with
 |ía t=>rfl|Ϭ h=>cases h<;>rfl|w8 t=>rfl|Ť t hw hk=>rfl
def Ml{r:D}{t:Ç}(h:ym r)(a:xH r=Ä)(e:zJ r ůc=À ϵb):Tp r=t:=by
 cases h with
 |ía u=>cases a|Ϭ h=>let{_,_,_,_,z,_}:=Zk h;rw[z]at a;cases a
 |w8 u=>cases e;rfl|Ť u hw hk=>cases e;rfl
def S9(a b:Ç):zh ăg Ĭj=À (.bl όe):=rfl
def x4i(a b:Â):TX [.lst [.int (a:Æ),.int (b:Æ)]]=À (Β (zN (two a b))):=by
 let e:qr ďf=if a=b then[(a:Æ)]else[(a:Æ),(b:Æ)]:=by
  exact gC (gC [] (a:Æ)) (b:Æ)=_;unfold gC;by_cases h:a=b;subst h;simp;let:¬ (a:Æ)=(b:Æ):=by omega
  simp[h,this]
 exact(if(ďf).length<1000/\(qr ďf).length<64 then À (Εb (Ĝd (qr ďf)))else Å)=_;rw[e];unfold two;by_cases h:a=b;rw[Ï h,Ï h];rfl;rw[Ñ h,Ñ h,Ï {by exact 2<1000;decide,by exact 2<64;decide}];exact À (Εb (L2.insI (a:Æ) [(b:Æ)]))=_;unfold L2.insI;by_cases h2:a<b;rw[Ï h2,Ï Ê];rfl;rw[Ñ h2,Ñ Ê];rfl
def w0s{r:D}(h:ym r)(i:Â){t:É Â}(b:t.isSome=xH r):JV [r,.int (i:Æ),y_ t]=À (Ä,.lst (zN (Zv r i t))):=by
 let a:=iL h;let d:=y09 h;let e1:=S9 (wd r) ţd;let e2:=S9 (wd r) Ĺa;rw[z9b];unfold Eb Zv;by_cases c1:wd r = ţd;rw[Ï c1];rw[ϓb c1]at e1;simp only[Ø,a,e1];rfl;rw[Ñ c1];rw[Íb c1]at e1;by_cases c2:wd r = Ĺa;rw[ϓb c2]at e2 d;rw[d]at b;cases t with
 |Å=>cases b|À p=>dsimp only;rw[Ï c2];unfold y_;simp only[Ø,a,e1,e2];rfl
 rw[Íb c2]at e2;cases t with
 |Å=>unfold y_;simp only[Ø,a,e1,e2,ZU,Ãa];rfl|À p=>dsimp only;rw[Ñ c2];unfold y_;let c:=x4i î p;rw[show((i+1:Â):Æ)=(i:Æ)+1 by omega]at c;simp only[Ø,a,e1,e2,ZU,Ãa,c]
theorem UC{z6:Á D}(P:PC z6){r:D}(c:r∈z6):(Ţc).isSome=xH r/\∀t,xH r=Ä->zJ r ůc=À ϵb->Tp r=t:=by
 let b:=ũ r c;show{?_,λt a e=>Ml b a e};unfold yY;cases a:xH r with
 |Ã=>rfl|Ä=>let{t,p,e1,e2}:=Ãd r c a;rw[Ml b a e1,e2];rfl
def D3{z6:Á D}(P:PC z6):g6 ŧ=À (Ä,.lst öh):=by
 let{b,c,e1,i}:=iu ũ ϩl;let e2:uO ŧ=À (Ä,.lst Õ):=Ym ũ
 let l:=Zc (g:=yC 2) (e:=Sw) (σ:=[À (Ã,.lst z6),À (Ã,.dic b c),Å]) ài (ds:=zB z6) λr j=>by
  let d:r∈z6:=(Įa j).1;let a:=KF İp;rw[Ϸp];unfold Sw yY;cases z:xH r with
  |Ä=>
   rw[z]at a;let{t,p,h,f}:=Ãd r d z
   let k:zJ (.dic b c) ϵb=À şc:=by exact Ć b c Ŏd=_;rw[i,f];rfl
   rw[Ml İp z h,f];unfold y_;simp only[Ø,a,h,k]
  |Ã=>rw[z]at a;unfold y_;simp only[Ø,a]
 rw[z99];unfold EY;simp only[Ø,e1,e2,l]
def vC(z6:Á D):Á D:=(Ňc).map λi=>.lst čj
def Si{z6:Á D}{i:Â}(h:i<(Õ).length):zJ (Β ôb) ōa=À (Β čj):=by refine jY Ê ?_;unfold vC;rw[Ĝ,ė,ác h];rfl
theorem NE(t:Ç):∀(L:Á D)(s:Â×É Â),(∀p,s.2=À p->p<=s.1)->∀p,Âe.2=À p->p<=Âe.1
 | [],s,h=>h|d::L,s,h=>by
  rw[Êa];show NE t L _ λp a=>?_
  unfold ud at a ⊢;cases hl:zj d with
  |Ä=>
   rw[hl]at a;dsimp only at a ⊢;cases hn:To t d with
   |Ä=>rw[hn]at a;cases a;show ĺ _|Ã=>rw[hn]at a;show h p a
  |Ã=>rw[hl]at a;show ŉc (h p a)
def TK{z6:Á D}{i w:Â}(hi:i<(Õ).length)(h:w∈Wf z6 i):w<=(Õ).length:=by
 let b:∀t p,ċd.2=À p->p<=(Õ).length:=λt p a=>by let:=NE t z6 (0,Å) (λp z=>nomatch z) p a;rw[BK t z6 (0,Å),Ķ]at this;rw[Ϯp]
 unfold Wf at h;rw[Đ hi]at h;generalize Õ[i]=r at h;dsimp only at h;unfold Zv at h
 split at h;cases h;let c:∀p,yY z6 r=À p->p<=(Õ).length:=λp a=>by
  unfold yY at a
  rw[Åq];show b _ _ a;cases a
 rw[Éq];rw[ĵq];rename_i p a;let:=c p a
 rw[Éq];rw[ĵq];unfold two at h
 rw[Éq];rw[ĵq];rw[Éq];rcases ĩ h with rfl|h;omega;rw[ĵq];rcases ĩ h with rfl|h;omega;rw[ĵq]
def CF(z6:Á D)(i:Â):(çe).length<=2:=by
 unfold Wf Zv two
 split;split;show Ź _;split;show Ĳa Ĩb;split;show Ĳa Ĩb;split;show Ĳa Ĩb;split<;>show ĺ 2;show Ź _
def Sx:FE:=(zg JV (zC (e2 zJ ą ğ) Ĕi))
def Ec:FS:=
 (zQ ϓf
  (vY (wY 2 Ĝj ěj xY Sx)))
def V2:Á D->É å:=FR 1 2 Ec
def z9c(a:D):V2 [a]=yL 2 Ec [a]:=rfl
def Sh{z6:Á D}(P:PC z6):V2 ŧ=À (Ä,.lst ôb):=by
 let e1:uO ŧ=À (Ä,.lst Õ):=Ym ũ;let e2:=D3 P
 let b:=Mu (g:=vM 2 3) (e:=Sx) (σ:=[À (Ã,.lst z6),À (Ã,.lst Õ),Å,Å]) (λi=>.lst čj) (ds:=qp öh) 0 λi d a=>by
  rw[Xx,ė]at a;cases hr:Õ[i]? with
  |Å=>rw[hr]at a;cases a|À r=>
   rw[hr]at a;cases a;rw[Ϸp];let c:r∈z6:=(Įa (ώ hr)).1;let j:=w0s (ũ r c) i (t:=yY z6 r) (UC P c).1;let f:Wf z6 i=Zv r i Ţc:=by unfold Wf;rw[hr]
   rw[Ķ,f];let h:zJ ϟf ōa=À r:=jY Ê (by rw[Ĝ];show hr);unfold Sx;simp only[Ø,h,j]
 rw[kQ,ã,<-ñf]at b;rw[z9c];unfold Ec vC;generalize (Õ).map ài=ts at e1 e2 b ⊢;simp only[Ø,e1,e2,tz,b]
def KY:FS:=(zl 2 (e2 Ńe ğ (e2 zJ þ ı)))
def EJ:FS:=
 (zQ Ϣo
  (zQ (jK (vt ą) īc
   KY)
  (yc ğ)))
def Wz:Á D->É å:=FR 2 4 EJ
def z8v(a x1:D):Wz č=yL 4 EJ č:=rfl
def BS:FA:=(qm ī (e2 xN ϛb Ŋ))
def B2:p9:=(lQ ğ ı)
def O5:p9:=(Tl (vt Ŝ) ůb
      B2)
def dD:FS:=
 (T_ 1 ύj
  (Tn (Tl ĝj Ěj
    O5)
   O4))
def Uz:Á D->É å:=FR 1 5 dD
def z7u(a:D):Uz [a]=yL 5 dD [a]:=rfl
def Iv:FS:=(zQ (W3 6 5)
    (zQ (zl 7 Øk)
    (yb Ϝg
     (zQ (jq 4 ŝa Ůb)
      (V_ 5 ßn))
     xK)))
def J_:FT:=(tE (e2 vL (qP 5) Ūb))
def EK:FS:=
 (zQ ϓf
  (zQ ϡo
  (zQ (zl 3 (zg Uz ŉb))
  (zQ (qF 4 (e2 IG (e2 TV Ŵh Şo) (xv (Θ Ůc))))
  (zQ (qF 5 (eL GQ (Α Şo)))
  (zQ (Zn J_
   Iv)
  (zQ (Yn 5) Àk)))))))
def W_:Á D->É å:=FR 1 8 EK
def z8w(a:D):W_ [a]=yL 8 EK [a]:=rfl
nonrec def gt(T:Á Â)(i:Â):Â:=T.getD i 0
def z9j{T:Á Â}{i:Â}(h:i<ϳa):T[i]?=À ġb:=by unfold gt;rw[ő,Đ h];rfl
def z9i{T:Á Â}{m i x:Â}(h:m<ϳa):gt Će i=if i=m then x else gt T i:=by unfold gt;rw[Íq]
def uG(T:Á Â)(ws:Á Â):Â:=òj Čh 0
theorem ml(T:Á Â)(k:Â):∀(ws:Á Â)(a:Â),(òj Čh a).testBit k=Ä↔Ĥd k=Ä\/∃w∈ws,(Ňd).testBit k=Ä
 | [],a=>{.inl,λh=>ϥc id λ⟨_,z,_⟩=>by cases z}|w::ws,a=>by
  rw[Êa,ml T k ws,ϫh,ħf]
  rw[Ĵq];rintro((h|h)|⟨v,b,h⟩);show .inl h;show .inr {w,Ġ,h};show .inr {v,Ų _ b,h};rintro(h|⟨v,b,h⟩);show .inl Ěc;rcases ĩ b with rfl|b;show .inl (.inr h);show .inr {v,b,h}
def mj(T ws:Á Â)(k:Â):(uG T ws).testBit k=Ä↔∃w∈ws,(Ňd).testBit k=Ä:=by unfold uG;rw[ml,öd];show{λh=>ϥc Ŕm id,.inr}
def y84(T ws:Á Â)(w:Â):uG T (ws++[w])=(uG T ws ||| gt T w):=by unfold uG;rw[řh];rfl
def y83{T:Á Â}(h:∀i,gt T i<2048)(ws:Á Â):uG T ws<2048:=by
 let:∀(ws:Á Â)(a:Â),a<2048->òj Čh a<2048:=by
  intro ws
  induction ws with
  |nil=>show λa b=>b|ð w ws ih=>show λa b=>ih _ (mh b (h w))
 show this ws 0 Ò
def rl(u p:Â)(T ws:Á Â):Â:=u ||| (uG T ws-(uG T ws &&& p))
def Nl(u p:Â)(T ws:Á Â)(k:Â):(Ŷn).testBit k=Ä↔u.testBit k=Ä\/((∃w∈ws,(Ňd).testBit k=Ä)/\p.testBit k=Ã):=by unfold rl;rw[ϫh,eO,ħf,Ď,mj,ŋm]
theorem OS{u p:Â}{T a ws:Á Â}(h:∀w∈ws,Sb Ňd (gt a w)):Sb Ŷn (rl u p a ws):=λk z=>by rw[Nl]at z ⊢;show ųd id λ⟨⟨w,b,e⟩,c⟩=>{{w,b,h w b k e},c}
def x1g{u p:Â}{T b ws:Á Â}(h:∀w∈ws,gt T w=gt b w):rl u p T ws=rl u p b ws:=
 (OS λw a=>by rw[h w a];show Ŗe _).b7 (OS λw a=>by rw[h w a];show Ŗe _)
def ox{u p:Â}{T ws:Á Â}(a:u<2048)(h:∀i,gt T i<2048):rl u p T ws<2048:=mh a (z6b _ (y83 h ws))
structure z2z(n:Â)(U P:Â->Â)(W:Â->Á Â)(S:Á Â):È where
 last:gt S n=2047
 all:∀i,i<n->Sb (rl ϥe Ϧe S Ła) (gt S i)
structure NI(n:Â)(U P:Â->Â)(W:Â->Á Â)(T dl:Á Â):È where
 len:ϳa=n+1
 last:gt T n=2047
 lt:∀i,gt T i<2048
 up:∀i,i<n->Sb ġb (rl ϥe Ϧe T Ła)
 fx:∀i,i<n->i ∉ dl->gt T i=rl ϥe Ϧe T Ła
 dn:∀i∈dl,i<n
 least:∀S,z2z n U P W S->∀i,i<=n->Sb ġb (gt S i)
section
variable{n:Â}{U P:Â->Â}{W:Â->Á Â}{T dl:Á Â}{m:Â}
def y46:NI n U P W şh ĩb:=by
 let b:∀i,i<n->gt şh i=0:=λi a=>by unfold gt;rw[ő,ūa (by rw[Ĭa];show a),Ϡd,Ï a];rfl
 let d:gt şh n=2047:=by unfold gt;rw[ő,ſb (by rw[Ĭa];show ĺ _),Ĭa,ôc];rfl
 refine{by rw[ì,Ĭa];rfl,d,λi=>?_,λi a=>by rw[b i a];show Rc _,λi a z=>(z (Ća a)).elim,λi a=>ñd a,λS c i a=>?_};rcases Ċf i n with h|h|h;rw[b i h];decide;rw[h,d];decide;unfold gt;rw[ő,Öa (by rw[ì,Ĭa];show h)]
 decide;rcases Ťc i n with h|h;rw[b i h];show Rc _;let:i=n:=by omega
 rw[this,d,c.last];show Ŗe _
def y45(N:NI n U P W T ϡb)(e:rl (U m) (P m) T (W m)=gt T m):NI n U P W T dl:={ϩc,Ϩj,N.lt,N.up,λi a h=>by by_cases c:i=m;rw[c,e];show N.fx i a λz=>(Ÿ z).elim h λz=>c (Ĵ z),λi a=>N.dn i (żb _ a),ŏj}
def y44{C:Á Â}(N:NI n U P W T ϡb)(p:U m<2048)(f:∀j,j∈C↔(j<n/\m∈W j)):NI n U P W Àf (dl++C):=by
 let g:m<n:=N.dn m ůf;let q:m<ϳa:=by rw[ϩc];omega
 let b:∀i,gt Àf i=if i=m then rl (U m) (P m) T (W m)else gt T i:=λi=>z9i q
 let l:∀i,Sb ġb (gt Àf i):=λi=>by rw[b];rw[Ķq];show N.up m g;rw[Ñ c];show Ŗe _
 let d:∀i,m ∉ W i->rl ϥe Ϧe T Ła=rl ϥe Ϧe Àf Ła:=λi h=>x1g λw k=>by rw[b,Ñ (λz:w=m=>h (z▸k))]
 refine{by rw[Éa];show ϩc,by rw[b,Ñ Ê];show Ϩj,λi=>?_,λi a=>?_,λi a h=>?_,λi a=>?_,λS c i a=>?_};rw[b]
 split;show ox p N.lt;show N.lt i;rw[b];rw[Ķq];show OS λw _=>l w;rw[Ñ c];show(N.up i a).trans (OS λw _=>l w);let o:m ∉ W i:=λz=>h (ĩa _ ((f i).mpr {a,z}))
 rw[<-d i o,b];rw[Ķq];rw[Ñ c];show N.fx i a λz=>(Ÿ z).elim (λz=>h Ġe) λz=>c (Ĵ z);rcases Ÿ a with z|z;show N.dn i Ġe;show((f i).mp z).1;rw[b];by_cases e:i=m;rw[Ï e,e];show Sb.trans (OS λw k=>?_) (c.all m g);rcases Ťc w ħ with hw'|hw';show ŏj S c w Ê;let:gt T w=0:=by unfold gt;rw[ő,Öa (by rw[ϩc];show hw')];rfl
 rw[this];show Rc _;rw[Ñ e];show ŏj S c i a
def Z0(T:Á Â):Â:=(Ϙf).sum
theorem z00:∀T:Á Â,Z0 T<=11*ϳa
 | []=>ĺ _|x::T=>by let:=z00 T;let h:=y89 x;exact pc x+(Ϙf).sum<=11*(ϳa+1);unfold Z0 at this;omega
theorem z01:∀{T:Á Â}{m x:Â},m<ϳa->Z0 Će+pc Ĥj=Z0 T+pc x
 | [],m,x,h=>by cases h|y::T,0,x,_=>by exact pc x+(Ϙf).sum+pc y=pc y+(Ϙf).sum+pc x;omega|y::T,m+1,x,h=>by let a:=z01 (T:=T) (m:=m) (x:=x) Ĉa;let e:gt (y::T) (m+1)=gt T m:=rfl;rw[e];exact pc y+Z0 Će+pc Ĥj=pc y+Z0 T+pc x;omega
#print a
def Ku{T:Á Â}{i:Â}(h:i<ϳa):zJ (Β øb) ōa=À (.int (gt T i:Â)):=by refine jY Ê ?_;rw[œq];rw[Ĝ,ė,z9j h];rfl
def lV{T ws:Á Â}(h:∀w∈ws,w<ϳa):Wz [.lst øb,.lst Ţe]=À (Ã,.int (uG T ws:Â)):=by
 let{σ',e1,f,rfl}:=kL (g:=yC 3) (b:=KY) (λi σ=>∃f,σ=[À (Ã,.lst øb),À (Ã,.lst Ţe),À (Ã,.int ((uG T Ŕj:Â):Æ)),f]) (ds:=zN ws)
  (σ:=[À (Ã,.lst øb),À (Ã,.lst Ţe),À (Ã,.int 0),Å]) 0 {Å,rfl} (by
  rintro i d σ a ⟨f,rfl⟩;rw[Ķ];unfold zN at a;rw[ė]at a;cases hw:ws[i]? with
  |Å=>rw[hw]at a;cases a|À w=>
   rw[hw]at a;cases a;let j:=(Ŀ hw).1;let e:=Ku (T:=T) (h w (ώ hw))
   let k:uG T ħp=(uG T Ŕj ||| gt T w):=by rw[ĸc j,y84];rw[Đ j]at hw;cases hw;rfl
   let c:=M7 (uG T Ŕj) Ňd;rw[<-k]at c;show{_,[À (Ã,.lst øb),À (Ã,.lst Ţe),À (Ã,.int ((uG T ħp:Â):Æ)),À (Ã,.int (w:Æ))],rfl,.inl ?_,_,rfl};unfold KY;generalize zN T=TT at e c ⊢;generalize zN ws=WW at e c ⊢;simp only[Ø,e,c])
 let l:(Ţe).length=ßp:=by rw[œq];rw[ã]
 rw[l,Ķ,Œc]at e1;rw[z8v];unfold EJ;generalize zN T=TT at e1 ⊢;generalize zN ws=WW at e1 ⊢;rw[śq]
theorem Kj{g:FG}{b:p9}(P:Â->Á ϋa->zw->È):∀{ds:Á D}{nds:Á ϋa} {σ:zw} (n:Â),P n nds σ->(∀i d nds σ,ds[i]?=À d->P (n+i) nds σ->∃σ1 Ϻc σ2,g d σ=À σ1/\b nds σ1=À (.nx Ϻc σ2)/\P Ŷj Ϻc σ2)->
  ∃ĳc σ',O0 g b ds nds σ=À (.nx ĳc σ')/\P ŵj ĳc σ'
 | [],nds,σ,n,h,_=>{nds,σ,rfl,h}|d::ds,nds,σ,n,h,Ăa=>by
  let{σ1,Ϻc,σ2,e1,e2,m}:=Ăa 0 d nds σ rfl h
  let{ĳc,σ',k,s}:=Kj P (ds:=ds) (nds:=Ϻc) (σ:=σ2) ħ m λi e p τ q j=>by let{a,l,c,o,f,r}:=Ăa î e p τ Ĥm (by rw[Ěq];show j);show{a,l,c,o,f,by rw[ûq];show r}
  show{ĳc,σ',?_,by rw[ïq];show s};rw[ϳp];exact(b nds σ1).bind _=_;rw[e2];show k
nonrec def gl(L:Á Ŕa)(p:Â):Á Â:=L.getD p []
theorem h8{L:Á Ŕa}{i:Â}(h:i<ϩ):L[i]?=À (gl L i):=by unfold gl;rw[ő,Đ h];rfl
def f_{T:Á Ŕa}{m i:Â}{x:Á Â}(h:m<ϳa):gl Će i=if i=m then x else gl T i:=by unfold gl;rw[Íq]
structure Cm(n:Â)(W:Â->Á Â)(i k:Â)(L:Á Ŕa):È where
 l:ϩ=n+1
 m:∀p,p<=n->∀j,j∈gl L p↔(j<i/\p∈W j\/j=i/\p∈(Ła).take k)
 b:∀p,(úg).length<=2*i+k
section
variable{n i k w:Â}{W:Â->Á Â}{L:Á Ŕa}
def z5j:Cm n W 0 0 ùe:=by
 let e:∀p,gl ùe p=[]:=λp=>by unfold gl;rw[ő,Ϡd];split<;>rfl
 show{Ĭa,λp _ j=>by rw[e];show{nofun,λz=>Ũ (λz=>Þ z.1 æd) λz=>by rw[ąd]at z;cases z.2},λp=>by rw[e];show Ź _}
def Cm.put(c:Cm n W i k L)(h:Ła[k]?=À w)(a:w<=n):Cm n W i Ň óh:=by
 let d:w<ϩ:=by rw[c.l];show ċf a
 let f:(Ła).take Ň=(Ła).take k++[w]:=by rw[List.take_succ,h];rfl
 refine{by rw[Éa];show c.l,λp g j=>?_,λp=>?_};rw[f_ d,f,ϐh,Ĺh];by_cases e:p=w;rw[Ï e,ϐh,Ĺh,e,c.m w a];show{λz=>Ũ (λz=>ųd id λz=>{z.1,.inl z.2}) λz=>.inr {z,.inr rfl},λz=>Ũ Ón λz=>z.2.elim (λy=>.inl (.inr {z.1,y})) λ_=>.inr z.1};rw[Ñ e,c.m p g];show{λz=>ųd id λz=>{z.1,.inl z.2},λz=>ųd id λz=>{z.1,z.2.resolve_right e}};rw[f_ d];by_cases e:p=w;rw[Ï e,ì];show Ĳa (c.b w);rw[Ñ e];show ŉc (c.b p)
def Cm.next(c:Cm n W i (Ła).length L)(h:(Ła).length<=2):Cm n W î 0 L:=by
 show{c.l,λp a j=>?_,λp=>ÿ (c.b p) (àc h _)};rw[c.m p a,Œc,ąd]
 rw[Ĵq];rintro(z|⟨rfl,z⟩);show .inl {Ŀb z.1,z.2};show .inl {ćb _,z};rintro(z|⟨_,z⟩);rcases Ñh z.1 with q|rfl;show .inl {q,z.2};show .inr {rfl,z.2};cases z
def z3k{ws:D}{y:É å}(h:w<ϩ)(c:(Ňe).length<=1000):B2 Ćc ϊg=À (.nx ((óh).map zN) ϊg):=by
 let a:Ćc[w]?=À (zN Ňe):=by rw[ė,h8 h];rfl
 let b:(Ćc).set w (zN Ňe++[ę (i:Æ)])=(óh).map zN:=by rw[Ĉi];rw[œq];rw[Ċa];rfl
 let d:(zN Ňe).length<=1000:=by rw[œq];rw[ã];show c
 unfold B2
 exact(match Ćc[((w:Â):Æ).toNat]? with
  |À ds=>if 0<=((w:Â):Æ)/\ü<yX then À (NF.nx ((Ćc).set ((w:Â):Æ).toNat (ds++[ę (i:Æ)])) ϊg)else Å|Å=>Å)=_
 rw[Ĝ,a];exact(if _ then _ else _)=_;rw[Ï {ĸb w,Ðb d Ò},b]
#print a
def z5l{n:Â}{W:Â->Á Â}(P:n<=100)(G:∀i,i<n->∀w∈W i,w<=n)(x:∀i,(Ła).length<=2) :∃L:Á Ŕa,ϩ=n+1/\(∀p,p<=n->∀j,j∈gl L p↔(j<n/\p∈W j))/\(∀p,(úg).length<=2*n)/\Uz [.lst ((ĩb).map λi=>.lst ìg)]=À (Ã,.lst ϔd):=by
 obtain⟨a,h⟩:∃a:Á D,a=(ĩb).map λi=>.lst ìg:={_,rfl}
 let s:úa=n:=by rw[h,ã,Øa]
 let J:BS Õc=À (wq ħ):=by show kj (n:=((n+1:Â):Æ)) ?_ Ê;exact À (ę ((úa:Æ)+1))=_;rw[s];rfl
 rw[<-h]
 let{u,σ',e1,L,f,q,o,c,rfl,rfl}:=Kj (g:=vM 3 4) (b:=O5) (λi nds σ=>∃(L:Á Ŕa) (f q o:É å),Cm n W i 0 L/\nds=Ĭb zN/\σ=Òl) (ds:=qp a)
  (nds:=Ő ħ []) (σ:=Õc) 0 {_,Å,Å,Å,z5j,by rw[ĺh];rfl,rfl} (by
  rintro i d nds σ e ⟨L,f,q,o,c,rfl,rfl⟩;rw[Ķ]at c;rw[Xx]at e
  let t:i<n:=by
   rw[<-s];cases z:a[i]? with
   |Å=>rw[z]at e;cases e|À y=>show(Ŀ z).1
  let K:a[i]?=À (Β ìg):=by rw[h,ė,ác t];rfl
  rw[K]at e;cases e
  let{_,_,e2,N,B,v,rfl,rfl}:=Kj (g:=yC 2) (b:=B2) (λk nds σ=>∃(L:Á Ŕa) (f:É å),Cm n W i k L/\nds=Ĭb zN/\σ=ðk) (ds:=zN Ła)
   (nds:=Ĭb zN) (σ:=ðk) 0 {L,f,c,rfl,rfl} (by
   rintro k d nds σ e ⟨L,f,c,rfl,rfl⟩;rw[Ķ]at c;unfold zN at e;rw[ė]at e;cases hw':Ła[k]? with
   |Å=>rw[hw']at e;cases e|À w=>
    rw[hw']at e;cases e;let A:=G i t w (ώ hw');let O:=(Ŀ hw').1
    let I:(Ňe).length<=1000:=by let:=c.b w;let:=x i;omega
    show{_,_,_,rfl,z3k (by rw[c.l];show ċf A) I,_,_,by rw[Ķ];show c.put hw' A,rfl,rfl})
  let r:(ìg).length=(Ła).length:=by rw[œq];rw[ã]
  rw[r,Ķ]at v;show{_,_,_,rfl,e2,N,B,_,_,by rw[Ķ];show v.next (x i),rfl,rfl})
 rw[kQ,s,Ķ]at c;show{L,c.l,λp C j=>?_,c.b,?_};rw[c.m p C,ąd];show{λz=>z.resolve_right λz=>(Ϣ z.2).elim,.inl};rw[z7u];exact(T_ 1 ύj _ Õc).bind _=_
 let F:T_ 1 ύj (Tn ďl O4) Õc=À (.rt Ã Öl):=by
  unfold T_;rw[show jj Õc=Ä from rfl];rw[ϴp];unfold O3;rw[J];let E:Tl ĝj Ěj O5 ùe Õc=À (.nx Ćc Òl):=e1
  let H:Tn ďl O4 ùe Õc=À (.rt Öl):=by unfold Tn;rw[E];exact(if(Ćc).length<=yX then À (NF.rt (Β ((Ćc).map .lst)))else Å)=_;rw[Ï (by rw[ã,c.l];rw[Ãq]),ϰ];rfl
  exact((À (wq ħ).length).bind _)=_;rw[UE];exact((Tn _ _ ùe Õc).bind _)=_;rw[H];rfl
 rw[F];rfl
def nG{σ:zw}{i j:Â}{ds:Á D}{d:D}(h:σ[i]?=À (Φa (ds++[d])))(a:j≠i):W3 j i σ=À (Ηe (Ν ϵd)):=by unfold W3;rw[h];rw[ϴp];rw[List.getLast?_append,ád];exact(if j=i then Å else _)=_;rw[Ñ a];rfl
def x3i{σ:zw}{i j:Â}{k v:FE}{ds:Á D}{y:D}(hv:v σ=À y)(h:σ[i]?=À ϵd)(hk:k σ=À Ľn)(a:j<ü):jq i k v σ=À (ςb (ōe j y)):=by
 unfold jq;rw[hv]
 exact(match σ[i]? with
  |À ϵd=>(Şg).bind λx=>match x with
   |.int j=>(Åc ü j).bind λn=>À (źd (Ν (Φa ϻi)))|_=>Å
  |_=>Å)=_
 rw[h];rw[ϴp];rw[hk];exact(Åc ü (j:Æ)).bind _=_;unfold Åc;rw[Ï Ê,Ï Ê,Ĝ];rfl
def fD{σ:zw}{i:Â}{f:FE}{xs ys:Á D}(h:σ[i]?=À Ôm)(a:f σ=À Ğa)(b:ë+Ŭ<=10000000):V_ i f σ=À įp:=by unfold V_;rw[h];rw[ϴp];rw[a];exact(if ë+Ŭ<=yX then _ else _)=_;rw[Ï Ïh]
theorem Xv(T:Á Â):(øb).length=ϳa:=by rw[œq];rw[ã]
theorem O6(T:Á Â)(m:Â):zN (T++[m])=zN T++[.int (m:Æ)]:=by rw[œq];rw[Ċa];rfl
def lR(T S:Á Â):zN (T++S)=zN T++zN S:=by rw[œq];rw[Ċa]
theorem y3b(T:Á Â)(m x:Â):(øb).set m (.int (x:Æ))=zN Će:=by rw[œq];rw[Ĉi]
def zt(z6:Á D)(i:Â):D:=(Õ).getD i .zO
def Uf(z6:Á D)(i:Â):Â:=Vn (t4 Àg)
def Pf(z6:Á D)(i:Â):Â:=Vn (qe Àg)
def qD{z6:Á D}{i:Â}(h:i<(Õ).length):Õ[i]?=À ϧ:=by unfold zt;rw[ő,Đ h];rfl
def x1k{z6:Á D}{i:Â}(h:i<(Õ).length):zJ ϟf ōa=À ϧ:=jY Ê (by rw[Ĝ];show qD h)
def jl{z6:Á D}(P:PC z6){i:Â}(h:i<(Õ).length):ym ϧ/\zj ϧ=Ã:=by let:=Įa (ώ (qD h));show{ũ _ this.1,by simpa using this.2}
def QM{z6:Á D}(P:PC z6){i:Â}(h:i<(Õ).length):t4 Àg=À (Ã,.int (Uf z6 i:Â))/\Uf z6 i<2048:=w03 ùg.1 ùg.2
def BM{z6:Á D}(P:PC z6){i:Â}(h:i<(Õ).length):qe Àg=À (Ã,.int (Pf z6 i:Â))/\Pf z6 i<2048:=x00 ùg.1 ùg.2
def uh(z6:Á D)(L:Á Ŕa)(T dl:Á Â)(x6 x7:É å):zw:=[À (Ã,.lst z6),À (Ã,.lst Õ),À (Ã,.lst ôb),À (Ã,.lst ϔd),À (Ä,.lst øb),À (Ä,.lst (zN dl)),x6,x7]
theorem lS(a b:Â):vL âe ľn=À (ν (a=b)):=by exact À (Ìb (!((a:Æ)==(b:Æ))))=_;by_cases c:a=b;subst c;simp;rw[Íb Ê,ď c]
theorem y3f{z6:Á D}(P:PC z6){L:Á Ŕa}{T dl:Á Â}{m:Â}{x6 x7:É å}(F:ϩ=(Õ).length+1)(s:∀p,(úg).length<=2*(Õ).length)(H:ϲf<=1000000)(N:NI (Õ).length Ļg ŧe Ϟc T ϡb) :Iv Ŭl=À (.nx (if rl Ϗc ϐc T Ğb=gt T m then uh z6 L T dl Ūa ύg
   else uh z6 L æi áo Ūa ύg)):=by
 let t:m<(Õ).length:=N.dn m ůf;let G:(Õ).length<=100:=ÿ ſc Òc;let r:=x1k t;let g:=(QM P t).1;let h:=(BM P t).1;let q:=Si t;let n:=lV (T:=T) (ws:=Wf z6 m) λw C=>by rw[ϩc];let:=TK t C;omega
 let o:=z3x (uG T Ğb) ϐc;let e:=M7 Ϗc (uG T Ğb-ŉl);let e:Ϟa (Uf z6 m:Â) ((uG T Ğb-ŉl:Â):Æ)=((rl Ϗc ϐc T Ğb:Â):Æ):=e;let b:=Ku (T:=T) (i:=m) Ϩl;let a:=lS àk Ĥj;have z:=nG (σ:=uh z6 L T ϡb x6 x7) (i:=5) (j:=6) (ds:=zN dl) (d:=.int (m:Æ)) Ũm Ò;let z:W3 6 5 Ŭl=À (.nx ŭl):=z;let E:zJ Èl Ái=À (Β (zN (gl L m))):=jY Ê (by rw[Ĝ,ė,h8 Ê];rfl);unfold Iv;rw[tR z]
 let A:zl 7 Øk ŭl=À (.nx (uh z6 L T dl Ūa ύg)):=by unfold uh;generalize rl Ϗc ϐc T Ğb=need at r g q n h o e ⊢;generalize zB z6=RR at r g q n h o e ⊢;generalize vC z6=WW at r g q n h o e ⊢;generalize Ĭb Ϸd=LL at r g q n h o e ⊢;generalize zN T=TT at r g q n h o e ⊢;generalize zN dl=DD at r g q n h o e ⊢;simp only[Ø,r,g,q,MK,n,xw,ό,h,TU,o,e]
 rw[tR A];generalize hneed:rl Ϗc ϐc T Ğb=need at *;by_cases c:need=gt T m
 .rw[ú c]at a;rw[Ï c];rw[Ϧp];simp only[Ø,b,a]
 .rw[ď c]at a;rw[Ñ c];let x:=x3i (σ:=uh z6 L T dl Ūa ϑd) (i:=4) (j:=m) (k:=z7 6) (v:=z7 7) (ds:=zN T) (y:=.int (need:Æ)) rfl rfl rfl (by rw[Xv,ϩc];omega);rw[y3b]at x;let x:jq 4 ŝa Ůb ňl=À (.nx ġl):=x
  let u:=fD (σ:=uh z6 L Ħh dl Ūa ϑd) (i:=5) (f:=e2 zJ ı ŝa) (xs:=zN dl) (ys:=zN (gl L m)) rfl (by exact zJ Èl Ái=_;show E) (by rw[Xv,Xv];let:=s m;omega)
  rw[<-lR]at u;let u:V_ 5 ßn ġl=À (.nx (uh z6 L Ħh áo Ūa ϑd)):=u
  let B:Ϝg ňl=À Ä:=by rw[Ϧp];simp only[Ø,b,a]
  exact(Ϝg _).bind _=_;rw[B];exact zQ _ _ _=_;rw[tR x,u]
theorem y3e{z6:Á D}(P:PC z6){L:Á Ŕa}(k:ϩ=(Õ).length+1)(b:∀p,(úg).length<=2*(Õ).length)(h:∀p,p<=(Õ).length->∀j,j∈gl L p↔(j<(Õ).length/\p∈Wf z6 j)) :∀(M:Â){T dl:Á Â}{x6 x7:É å},NI (Õ).length Ļg ŧe Ϟc T dl->(11*Ðl-Z0 T)*Ōh+ϲf<=M->M<=1000000->
   ∃T' y6 y7,NI (Õ).length Ļg ŧe Ϟc T' []/\uw J_ Iv (M+1) (uh z6 L T dl x6 x7)=À (.nx (uh z6 L T' [] y6 y7)):=by
 intro M
 induction M with
 |ŏ=>
  intro T dl x6 x7 N e _;let:dl=[]:=Çh Ê;rw[űq];show{T,x6,x7,N,UH rfl}
 |ş M ih=>
  intro T dl x6 x7 N e q;rcases ćh dl with rfl|⟨dl',m,hdl⟩
  .show{T,x6,x7,N,UH rfl}
  .rw[Ĉh]at hdl;subst hdl;let v:(Šc).length=źo+1:=by rw[ì];rfl
   let d:m<(Õ).length:=N.dn m ůf
   let g:J_ (uh z6 L T Šc x6 x7)=À Ä:=by rw[Öq];unfold J_ uh;generalize zB z6=RR at this ⊢;generalize vC z6=WW at this ⊢;generalize Ĭb Ϸd=LL at this ⊢;generalize zN T=TT at this ⊢;generalize zN Šc=DD at this ⊢;simp only[Ø,this]
   let i:=y3f P (x6:=x6) (x7:=x7) k b Ê N;rw[QT g i];by_cases c:rl Ϗc ϐc T Ğb=gt T m
   .rw[Ï c];show ih (y45 N c) Ê Ê
   .rw[Ñ c];refine ih (y44 N (QM P d).2 (h m Ê)) ?_ Ê;let t:=z01 (T:=T) (m:=m) (x:=rl Ϗc ϐc T Ğb) Ϩl;let r:=y8a (N.up m d) (ox (QM P d).2 N.lt) đi;let f:=z00 æi;rw[Éa,ϩc]at f;let u:=b m;rw[ì];generalize Z0 æi=s' at *;generalize Z0 T=s at *;generalize (Õ).length=n at *;obtain⟨a,o⟩:∃a,11*ħ-s=a+1+Ťo:={11*ħ-s-1-Ťo,by omega};rw[o,ěo,ěo,Nat.one_mul]at e;let:0<=a*(2*n+2):=Ź _;omega
def B4{z6:Á D}(P:PC z6):∃T,NI (Õ).length Ļg ŧe Ϟc T []/\W_ ŧ=À (Ä,.lst øb):=by
 let o:(Õ).length<=100:=ÿ ſc Òc;let d:uO ŧ=À (Ä,.lst Õ):=Ym ũ;let g:=Sh P;let{L,t,r,m,b}:=z5l (n:=(Õ).length) (W:=Wf z6) o (λi h w s=>TK h s) (CF z6);let b:Uz [.lst ôb]=À (Ã,.lst ϔd):=b
 let q:ón*Ōh+(Ňc).length<=300000:=by rw[Øa];let:ón*Ōh<=1111*202:=Nat.mul_le_mul Ê Ê;omega
 let{T,p,j,N,a}:=y3e P t m r 300000 (x6:=Å) (x7:=Å) y46 q Ê;let a:=U0 (300000+1) a Ò;show{T,N,?_}
 let e:TV (.lst [.int 0]) (.int ((Õ).length:Â))=À ėn:=by
  exact(if 0<=(((Õ).length:Â):Æ)/\(((Õ).length:Â):Æ)<=1000000/\([ę 0]).length*(((Õ).length:Â):Æ).toNat<=yX then À (żd (Ő (((Õ).length:Â):Æ).toNat [ę 0]).flatten)else Å)=_;rw[Ï {by omega,by omega,by exact 1*_<=16777216;omega},Ĝ]
  congr 2
  rw[œq];rw[ĺh];generalize (Õ).length=n
  induction n with
  |ŏ=>rfl|ş n ih=>rw[Čb,Čb,ŋc,ih];rfl
 let c:IG ėn (.lst [.int 2047])=À (Β (zN ϵe)):=by exact(if(zN Ìh).length+1<=yX then _ else _)=_;rw[Ï (by rw[Xv,Ĭa];rw[Ãq]),O6];rfl
 let f:GQ [.int ((Õ).length:Â)]=À (Β (zN Ňc)):=by exact(if 0<=(((Õ).length:Â):Æ)/\(((Õ).length:Â):Æ)<=1000000 then À (żd ((ϡ (((Õ).length:Â):Æ).toNat).map λk:Â=>ę k))else Å)=_;rw[Ï {by omega,by omega},Ĝ];rfl
 let a:Zn J_ Iv [À (Ã,.lst z6),À (Ã,.lst Õ),À (Ã,.lst ôb),À (Ã,.lst ϔd),À (Ä,.lst (zN ϵe)),À (Ä,.lst (zN Ňc)),Å,Å]=À (.nx [À (Ã,.lst z6),À (Ã,.lst Õ),À (Ã,.lst ôb),À (Ã,.lst ϔd),À (Ä,.lst øb),À (Ä,.lst (zN [])),p,j]):=a;rw[z8w];unfold EK;generalize zN T=TT at d g b e c f a ⊢;generalize zN Ňc=DD at d g b e c f a ⊢;generalize zN ϵe=T0 at d g b e c f a ⊢;generalize zN Ìh=T1 at d g b e c f a ⊢;generalize zN []=DZ at d g b e c f a ⊢;generalize zB z6=RR at d g b e c f a ⊢;generalize vC z6=WW at d g b e c f a ⊢;generalize Ĭb Ϸd=LL at d g b e c f a ⊢;simp only[Ø,d,g,b,e,c,f,a]
def Ik(t:Ç)(d:D):Ð:=zj d&&To t d
def y06{t:Ç}{d:D}(h:ym d)(a:Ik t d=Ä):d=xy t:=by unfold Ik at a;rw[Ď]at a;let{u,rfl}:=Mj h a.1;let:(u==t)=Ä:=a.2;rw[Ŵc]at this;rw[this]
theorem lz{t:Ç}:∀{L:Á D}{s:Â×É Â},(∀d∈L,Ik t d=Ã)->Âe.2=s.2
 | [],_,_=>rfl|d::L,s,h=>by
  rw[Êa,lz λx a=>h x čc];let:=h d ϳ;unfold Ik at this;unfold ud;cases hl:zj d with
  |Ã=>rfl|Ä=>rw[hl,Ŀf]at this;rw[this]
def Iw:FS:=(zQ (W3 4 3)
    (yb Čk
     (zQ (jo 2 Ŝ Ϧf)
      (V_ 3 ϟh))
     xK))
def IA:FT:=(tE (e2 vL (qP 3) Ūb))
def ET:FS:=
 (zQ (zl 1 øm)
  (zQ Źi
  (zQ (qF 3 Ŵh)
  (zQ (Zn IA
   Iw)
  (zQ (Yn 3) (zQ (Yn 2) (vY (eL GS ŉb))))))))
def V0:Á D->É å:=FR 1 5 ET
def z94(a:D):V0 [a]=yL 5 ET [a]:=rfl
inductive jz(n:Â)(W:Â->Á Â):Â->È
 |ŏ:jz n W 0
 |Ăa {i w:Â}:jz n W i->i<n->w∈W i->jz n W w
structure RI(n:Â)(W:Â->Á Â)(F dl:Á Â):È where
 nd:F.Nodup
 fl:∀f∈F,f<n/\jz n W f
 dc:∀d∈dl,jz n W d
 z:0<n->0∈F\/0∈dl
 cl:∀f∈F,∀w∈W f,w<n->w∈F\/w∈dl
def Ky{n:Â}:∀{F:Á Â},F.Nodup->(∀f∈F,f<n)->çg<=n:=λ{F} a h=>by
 let:=List.Nodup.length_le_of_subset a (l₂:=ϡ n) λx b=>Ća (h x b)
 rw[ňq]
section
variable{n:Â}{W:Â->Á Â}{F dl:Á Â}{m:Â}
def x1d(R:RI n W F ϡb)(h:¬ m<n\/m∈F):RI n W F dl:=by
 let b:∀w,w<n->w∈F\/w∈dl++[m]->w∈F\/w∈dl:=λw c a=>by rcases a with a|a;show .inl a;rcases Ÿ a with z|z;rw[Đq];cases Ĵ z;rcases h with h|h;show Þ c h;show .inl h
 show{R.nd,R.fl,λd j=>R.dc d (żb _ j),λe=>b 0 e (R.z e),λf i w c g=>b w g (R.cl f i w c g)}
def Ni(R:RI n W F ϡb)(i:m<n)(q:m ∉ F):RI n W ŉd (dl++W m):=by
 let j:jz n W m:=R.dc m ůf
 let c:∀w,w∈F\/w∈dl++[m]->w∈F++[m]\/w∈dl++W m:=λw h=>by rcases h with h|h;show .inl (żb _ h);rcases Ÿ h with z|z;show .inr Ġe;show .inl ŏp
 refine{çf {R.nd,äd {Ϣ,Ōa},λa s b l e=>q (by cases Ĵ l;show e▸s)},λf g=>?_,λd p=>?_,λo=>c 0 (R.z o),λf g w k r=>?_};rcases Ÿ g with z|z;show R.fl f z;cases Ĵ z;show{i,j};rcases Ÿ p with z|z;show R.dc d Ġe;show .step j i z;rcases Ÿ g with z|z;show c w (R.cl f z w k r);cases Ĵ z;show .inr (ĩa _ k)
def x1c(R:RI n W F []){i:Â}(h:jz n W i):i<n->i∈F:=by
 induction h with
 |ŏ=>show λa=>(R.z a).resolve_right Ϣ|Ăa hc hj hw ih=>show λa=>(R.cl _ (ih hj) _ hw a).resolve_right Ϣ
def x1b(R:RI n W F [])(i:Â):i∈F↔i<n/\jz n W i:={R.fl i,λh=>x1c R h.2 h.1}
#print a
nonrec def uZ(F:Á Â):Á Ļ:=Żd λi:Â=>.inl (i:Æ)
nonrec def Z5(F:Á Â):Á D:=Żd λ_=>.bl Ä
def y0x(F:Á Â):(ša).length=çg:=by unfold uZ;rw[ã]
theorem iZ:∀F:Á Â,ZZ ša=À (Żd λi:Â=>(i:Æ))
 | []=>rfl|f::F=>by exact(ZZ ša).bind _=_;rw[iZ F];rfl
def qU(z6:Á D)(F dl:Á Â)(x4:É å):zw:=[À (Ã,.lst z6),À (Ã,.lst ôb),À (Ä,.dic ša ώe),À (Ä,.lst (zN dl)),x4]
theorem x17{z6:Á D}{F dl:Á Â}{m:Â}{x4:É å}(p:çg<=1000)(o:ϲf<=1000):Iw Ϡm=À (.nx (if m<(Õ).length/\m ∉ F then qU z6 ŉd (dl++Wf z6 m) Ūa else qU z6 F dl Ūa)):=by
 have b:=nG (σ:=qU z6 F ϡb x4) (i:=3) (j:=4) (ds:=zN dl) (d:=.int (m:Æ)) Ũm Ò;let b:W3 4 3 Ϡm=À (.nx Îe):=b;let k:(ôb).length=(Õ).length:=by unfold vC;rw[ã,Øa]
 unfold Iw;rw[tR b]
 let a:Xm Ái (.dic ša ώe)=À (ν ŷj):=by exact(À (yr ša Ċd)).bind _=_;rw[show yr ša Ċd=decide ŷj from Ii m F];rfl
 let l:Čk Îe=À (decide (m<(Õ).length/\m ∉ F)):=by
  let e1:decide ((m:Æ)<((ôb).length:Â))=decide (m<(Õ).length):=by rw[k];show îf Ê
  unfold qU;generalize vC z6=WW at *;generalize uZ F=KK at *;generalize Z5 F=YY at *;generalize zN dl=DD at *;by_cases c:m<(Õ).length;rw[ú c]at e1;by_cases c2:m∈F;rw[ú c2]at a;rw[ď (λz=>z.2 c2)];simp only[Ø,e1,a];rw[ď c2]at a;rw[ú {c,c2}];simp only[Ø,e1,a];rw[ď c]at e1;rw[ď (λz=>c z.1)];rw[śq]
 exact((Yx _ _) Îe).bind _=_;rw[l];rw[Ūq];rw[ú c,Ï c];let h:=Si c.1
 let g:¬ yr ša Ċd=Ä:=by
  rw[show yr ša Ċd=decide ŷj from Ii m F,ď c.2]
  decide
 let n:jo 2 Ŝ Ϧf Îe=À (.nx (qU z6 ŉd dl Ūa)):=by
  exact(Φd (ša) (źd ((Îe).set 2 (À (Ä,.dic (wD ša Ċd) (wE ša ώe Ċd İ))))))=_;rw[Ï (by rw[y0x];rw[ϥp])];unfold wD wE;rw[Ñ g,Ñ g];let e1:uZ F++[.inl (m:Æ)]=uZ ŉd:=by unfold uZ;rw[Ċa];rfl
  let e2:Z5 F++[.bl Ä]=Z5 ŉd:=by unfold Z5;rw[Ċa];rfl
  rw[e1,e2];rfl
 let e:=fD (σ:=qU z6 ŉd dl Ūa) (i:=3) (f:=e2 zJ ą Ŝ) (xs:=zN dl) (ys:=zN Ğb) rfl h (by rw[Xv,Xv];let:=CF z6 m;omega);rw[<-lR]at e;exact zQ _ _ _=_;rw[tR n];show e;rw[ď c,Ñ c];rfl
def x16{z6:Á D}(i:(Õ).length<=100) :∀(M:Â){F dl:Á Â}{x4:É å},RI (Õ).length Ϟc F dl->3*((Õ).length-çg)+ϲf<=M->M<=1000->∃F' y4,RI (Õ).length Ϟc F' []/\uw IA Iw (M+1) (qU z6 F dl x4)=À (.nx (qU z6 F' [] y4)):=by
 intro M
 induction M with
 |ŏ=>intro F dl x4 R e _;let:dl=[]:=Çh Ê;subst this;show{F,x4,R,UH rfl}|ş M ih=>
  intro F dl x4 R e h;let d:=Ky R.nd λf a=>(R.fl f a).1
  rcases ćh dl with rfl|⟨dl',m,hdl⟩;show{F,x4,R,UH rfl};rw[Ĉh]at hdl;subst hdl;let k:(Šc).length=źo+1:=by rw[ì];rfl
  let g:IA (qU z6 F Šc x4)=À Ä:=by rw[Öq];unfold IA qU;generalize vC z6=WW at this ⊢;generalize uZ F=KK at this ⊢;generalize Z5 F=YY at this ⊢;generalize zN Šc=DD at this ⊢;simp only[Ø,this]
  rw[QT g (x17 Ê Ê)];rw[Ūq];rw[Ï c];show ih Ϻh ?_ Ê;let b:=Ky (Ϻh).nd λf a=>((Ϻh).fl f a).1
  let j:=CF z6 m;rw[ì,èf]at b;rw[ì,ì,èf];omega;rw[Ñ c];show ih (x1d R (Decidable.not_and_iff_or_not.mp c |>.imp id λz=>Decidable.not_not.mp z)) Ê Ê
def x72{l:Á Æ}(h:∀x∈l,0<=x):(áa Ćp).map ϥd=l:=by
 rw[ϰ]
 conv=>rhs;rw[<-þe l]
 show üf λx a=>ϲd (h x a)
def oi{z6:Á D}(P:PC z6)(A:(Õ).length<=60):∃R:Á Â,ώo (·<·)/\(∀i,i∈R↔i<(Õ).length/\jz (Õ).length Ϟc i)/\V0 ŧ=À (Ä,.lst Ůd):=by
 let e1:=Sh P
 let{F,u,m,c}:=x16 (z6:=z6) Ê 200 (F:=[]) (dl:=[0]) (x4:=Å) {Ōa,ύb,(λd w=>by cases Ĵ w;show .zero),λ_=>.inr όg,λ_ h=>by cases h} (by exact 3*((Õ).length-0)+1<=200;omega) Ê
 let c:=U0 (200+1) c Ò;let B:=Ky m.nd λf s=>(m.fl f s).1
 obtain⟨R,y⟩:∃R,R=(Ϲk).map Ćp:={_,rfl};let n:=Ùi (Żd λi:Â=>(i:Æ))
 let l:ϕe ϥd=Ĝd (Żd λi:Â=>(i:Æ)):=by
  rw[y];show x72 λx t=>?_
  let{f,_,rfl}:=Èa (n.mem_iff.mp t);omega
 let k:∀i,i∈R↔i∈F:=λi=>by
  let q:i∈R↔(i:Æ)∈ϕe ϥd:=⟨λh=>œc {i,h,rfl},λh=>by
   rw[ŗq]
   show this▸o⟩
  rw[q,l,n.mem_iff]
  show⟨λh=>by
   rw[ŗq]
   show this▸o,λh=>œc {i,h,rfl}⟩
 let p:ώo (·<·):=by
  let r:(ġp).Pairwise (·<=·):=by rw[l];show Ϻm _
  let z:R.Nodup:=by
   let:(ġp).Nodup:=by rw[l,n.nodup_iff];show Ćh (m.nd.imp λh e=>h Ê)
   show(ïl).imp λh e=>h Áp
  rw[Łm]at r;show r.imp₂ (λa b q v=>by let:a≠b:=v;omega) z
 let g:GS [.dic ša ώe]=À (Β Ůd):=by exact(ZZ ša).bind _=_;rw[iZ];exact(if(Żd λi:Â=>(i:Æ)).length<64 then À (Εb Ϲk)else Å)=_;rw[Ï (by rw[ã];omega),<-l,ϰ];rfl
 show{R,p,λi=>(k i).trans (x1b m i),?_};let c:Zn IA Iw [À (Ã,.lst z6),À (Ã,.lst ôb),À (Ä,.dic [] []),À (Ä,.lst [.int 0]),Å]=À (.nx [À (Ã,.lst z6),À (Ã,.lst ôb),À (Ä,.dic ša ώe),À (Ä,.lst (zN [])),u]):=c;rw[z94];unfold ET;generalize zN R=RR at e1 c g ⊢;generalize zN []=DZ at e1 c g ⊢;generalize uZ F=KK at e1 c g ⊢;generalize Z5 F=YY at e1 c g ⊢;generalize vC z6=WW at e1 c g ⊢;simp only[Ø,e1,c,g]
def Ss:FE:=(wP (zC ğ ϖh))
def og:FA:=(qm ī (eL vy (zC Úf zF)))
def z1d:FE:=ğ
def A6:FT:=(tE (e2 Xm ğ ą))
def EM:FS:=
 (zQ (zl 1 (eL YO (zC (wY 1 (vt (zg V0 Īa)) ůb xY Ss) zF)))
  (vY (wY 1 og ůb A6 z1d)))
def XW:Á D->É å:=FR 1 2 EM
def z8y(a:D):XW [a]=yL 2 EM [a]:=rfl
def z1f:FE:=ą
def A9:FT:=(tE (e2 zh ğ Úe))
def EZ:FS:=
 (vY (wY 2 Ĝj òg A9 z1f))
def XX:Á D->É å:=FR 1 1 EZ
def z9a(a:D):XX [a]=yL 1 EZ [a]:=rfl
def z19:FE:=ą
def A0:FT:=(Yx (tE (e2 zh Ùe ůi)) (tE (e2 zh Ϟh (e2 zJ ğ Ϛa))))
def Ca:FS:=
 (vY (wY 2 (tz Úf) òg A0 z19))
def XR:Á D->É å:=FR 1 1 Ca
def z7v(a:D):XR [a]=yL 1 Ca [a]:=rfl
def DH:FE:=(zg qe Èg)
def oZ:FA:=(qm ī (eL vy Āc))
def z1c:FE:=Ŝ
def A5:FT:=(Yx (tE (e2 vL àn ī)) (tE (e2 zh (e2 ðg àn (zg Wz Ên)) ī)))
def EL:FS:=
 (zQ (zl 1 (we W_ Īa))
  (zQ ϡo
  (zQ (zl 3 (wY 1 Ęj ϵj xY DH))
  (vY (wY 1 oZ ϵj A5 z1c)))))
def XV:Á D->É å:=FR 1 4 EL
def z8x(a:D):XV [a]=yL 4 EL [a]:=rfl
theorem i_{g:FG}{c:FT}{e:FE}{σ:zw}(p:Â->Ð):∀{ds:Á D}(k:Â),(∀i d,ds[i]?=À d->∃σ1,g d σ=À σ1/\c σ1=À (p (k+i))/\e σ1=À (.int ((k+i:Â):Æ)))->wA g c e σ ds=À (zN ((ıo).filter p))
 | [],_,_=>rfl|d::ds,k,h=>by
  let{σ1,e1,e2,f}:=h 0 d rfl
  let a:=i_ p (ds:=ds) Ň λi j b=>by rw[show k+1+i=k+î by omega];show h î j Àe
  rw[ϳp];exact(žj).bind _=_;rw[e2,Ĉ,žm,ϰn];cases hp:p k with
  |Ã=>rw[ña Ĭm];show a|Ä=>rw[ąa hp];exact(Şd).bind _=_;rw[f];exact(Ϟm).bind _=_;rw[a];rfl
nonrec def pN(n:Â)(p:Â->Ð):Á Â:=(ĩb).filter p
def Xz{n:Â}{p:Â->Ð}{i:Â}:i∈pN n p↔i<n/\p i=Ä:=by unfold pN;rw[List.mem_filter,List.mem_range]
theorem Mv{g:FG}{c:FT}{e:FE}{σ:zw}(p:Â->Ð){ds:Á D}(h:∀i d,ds[i]?=À d->∃σ1,g d σ=À σ1/\c σ1=À (p i)/\e σ1=À ōa):wA g c e σ ds=À (zN (pN ü p)):=by
 let:=i_ (g:=g) (c:=c) (e:=e) (σ:=σ) p (ds:=ds) 0 λi d a=>by rw[Ķ];show h i d a
 rw[this,<-ñf];rfl
def y4b{z6:Á D}(P:PC z6){R:Á Â}(f:V0 ŧ=À (Ä,.lst Ůd)):XW ŧ=À (Ä,.lst (zN ŧk)):=by
 let m:(Õ).length<=100:=ÿ ſc Òc;let j:uO ŧ=À (Ä,.lst Õ):=Ym ũ
 let e1:wA ůb xY Ss žb Ůd=À (ϕe λi:Â=>ύ úd):=by
  let:=Zc (g:=yC 2) (e:=Ss) (σ:=žb) ķl (ds:=zN R) λd h=>{_,rfl,rfl}
  rw[this];rw[œq];rw[ϰ];rfl
 let{K,V,e2,k}:=eK R
 let b:og [À (Ã,.lst z6),À (Ã,.dic K V)]=À Şm:=by show kj (n:=((Õ).length:Â)) ?_ Ê;generalize zB z6=RR at j ⊢;simp only[Ø,j]
 let a:=Mv (g:=yC 2) (c:=A6) (e:=z1d) (σ:=[À (Ã,.lst z6),À (Ã,.dic K V),Å]) (λi=>!decide Ķg) (ds:=wq (Õ).length) λi d h=>by
  let{_,rfl}:=UD h;rw[ŀq]
  let l:Xm ōa Ĉc=À (ν Ķg):=by exact(À (yr K ŀn)).bind _=_;rw[k];rfl
  unfold A6;simp only[Ø,l]
 rw[UE]at a;rw[z8y];unfold EM;generalize zN ŧk=AA at f e1 e2 b a ⊢;generalize zN R=RR at f e1 e2 b a ⊢;generalize (ϕe λi:Â=>ύ úd)=TT at f e1 e2 b a ⊢;simp only[Ø,f,e1,e2,b,a]
def Yh(z6:Á D)(i:Â):Ð:=decide (yY z6 ϧ=À î)
def y82(o:É Â)(i:Â):zh (y_ o) (Ζ ői)=À (ι (o=À î)):=by
 cases o with
 |Å=>rfl|À p=>exact À (Ìb ((p:Æ)==(i:Æ)+1))=_;by_cases c:p=i+1;subst c;rw[ú rfl,show((i+1:Â):Æ)=(i:Æ)+1 by omega,đb];rw[ď (by intro z;cases z;show c rfl),Íb Ê]
theorem x75{z6:Á D}(P:PC z6):XX ŧ=À (Ä,.lst (zN ċl)):=by
 let f:=D3 P
 let b:=Mv (g:=vM 1 2) (c:=A9) (e:=z1f) (σ:=žb) ϋj (ds:=qp öh) λi d a=>by
  rw[Xx,ė]at a;cases hr:Õ[i]? with
  |Å=>rw[hr]at a;cases a|À r=>
   rw[hr]at a;cases a
   let h:zt z6 i=r:=by let:=qD (Ŀ hr).1;rw[hr]at this;show(Ųi).symm
   rw[ŀq];let j:=y82 Ţc i;unfold A9 Yh;rw[h];simp only[Ø,Ãa,j]
 rw[kQ,ã]at b;rw[z9a];unfold EZ;generalize zN ċl=AA at f b ⊢;generalize (Õ).map ài=ts at f b ⊢;simp only[Ø,f,tz,b]
nonrec def pE:D->Ð
 |.tup ők=>(w == Ïa)&&(d==s)|_=>Ã
def z5o{r:D}(h:ym r):∃b,zh ŋf ćd=À ŭb/\(b=Ä->∃x y,zJ r ûa=À x/\zJ r ðb=À y/\zh x y=À úo)/\ũm:=by
 let a:∀{r:D},zh ŋf ćd=À ý->pE r=Ã->∃b,zh ŋf ćd=À ŭb/\(b=Ä->∃x y,zJ r ûa=À x/\zJ r ðb=À y/\zh x y=À úo)/\ũm:=λf g=>{Ã,f,nofun,λ_=>g}
 cases h with
 |ía t=>show a rfl rfl|Ϭ h=>
  cases h with
  |Ϡ=>show a rfl rfl|Wc hw=>rcases hw with rfl|rfl<;>show a rfl rfl
  |@two w d s hw d0 d1 s0 s1=>have e:pE Îp=((w==(Ïa : Ç))&&(d==s)):=rfl;show{w == Ïa,S9 _ _,λc=>{_,_,rfl,rfl,?_},λc=>by rw[e,c];rfl};rw[e,c];rfl|Wd hw=>rcases hw with rfl|rfl<;>show a rfl rfl
  |mem hw=>rcases hw with rfl|rfl|rfl|rfl<;>show a rfl rfl
 |w8 t=>show a rfl rfl|Ť t hw hk=>rcases hw with rfl|rfl<;>show a rfl rfl
def z5n{z6:Á D}(P:PC z6):XR ŧ=À (Ä,.lst (zN Ìl)):=by
 let h:uO ŧ=À (Ä,.lst Õ):=Ym ũ
 let f:=Mv (g:=vM 1 2) (c:=A0) (e:=z19) (σ:=žb) (λi=>pE ϧ) (ds:=qp Õ) λi d a=>by
  rw[Xx]at a;cases hr:Õ[i]? with
  |Å=>rw[hr]at a;cases a|À r=>
   rw[hr]at a;cases a;let l:=(Ŀ hr).1
   let k:zt z6 i=r:=by let:=qD l;rw[hr]at this;show(Ųi).symm
   let j:=(jl P l).1;rw[k]at j;let n:=iL j;let{b,m,o,p}:=z5o j;rw[ŀq];unfold A0;rw[k];cases b with
   |Ä=>let{x,y,s,q,t}:=o rfl;simp only[Ø,n,m,s,q,t]
   |Ã=>rw[p rfl];simp only[Ø,n,m]
 rw[kQ]at f;rw[z7v];unfold Ca;generalize zN Ìl=AA at h f ⊢;generalize zB z6=RR at h f ⊢;simp only[Ø,h,tz,f]
def kO(z6:Á D)(T:Á Â)(i:Â):Ð:=decide (Pf z6 i≠0)&&decide (Ől=0)
def z6t(a:Â):zh âe ů=À (ι (a=0)):=by exact À (Ìb ((a:Æ)==0))=_;by_cases c:a=0;subst c;rfl;rw[Íb Ê,ď c]
theorem y4a{z6:Á D}(P:PC z6){T:Á Â}(F:ϳa=(Õ).length+1)(m:W_ ŧ=À (Ä,.lst øb)):XV ŧ=À (Ä,.lst (zN ël)):=by
 let E:(Õ).length<=100:=ÿ ſc Òc;let k:uO ŧ=À (Ä,.lst Õ):=Ym ũ;let o:=Sh P;obtain⟨a,j⟩:∃a:Á Â,a=(Ňc).map ŧe:={_,rfl};let A:úa=(Õ).length:=by rw[j,ã,Øa]
 let B:∀i,i<(Õ).length->gt a i=Pf z6 i:=λi b=>by unfold gt;rw[j,ő,ė,ác b];rfl
 let e1:wA ϵj xY DH òk Õ=À Īc:=by
  let:=Mu (g:=yC 4) (e:=DH) (σ:=òk) (λi=>.int (Pf z6 i:Â)) (ds:=zB z6) 0 λi d r=>by
   let b:=(Ŀ r).1
   let t:zt z6 i=d:=by let:=qD b;rw[r]at this;show(Ųi).symm
   let q:=(BM P b).1;rw[t]at q;rw[Ϸp];rw[Ķ];unfold DH;generalize zN T=TT at q ⊢;generalize vC z6=WW at q ⊢;simp only[Ø,q]
  rw[this,<-ñf,j];rw[œq];rw[ϰ];rfl
 let l:oZ èk=À Şm:=by
  let:=kj (f:=eL vy Āc) (τ:=èk) (n:=((Õ).length:Â)) (by exact À (ę ((Īc).length:Â))=_;rw[Xv,A]) Ê
  rw[Ĝ]at this;rw[Ϯp]
 let h:=Mv (g:=yC 4) (c:=A5) (e:=z1c) (σ:=[À (Ã,.lst z6),À (Ã,.lst øb),À (Ã,.lst ôb),À (Ã,.lst Īc),Å]) Üj (ds:=wq (Õ).length) λi d r=>by
  let{b,rfl}:=UD r;rw[ŀq];let s:=Ku (T:=a) (i:=i) Ê;rw[B i b]at s;let u:=Si b;let C:=lV (T:=T) (ws:=Wf z6 i) λw y=>by let:=TK b y;omega
  let x:=Ej žp (uG T çe);let p:=lS žp 0;let p:vL (.int (Pf z6 i:Â)) ů=À (ν (Pf z6 i=0)):=p;let v:=z6t Ől;unfold A5 kO;generalize zN T=TT at *;generalize vC z6=WW at *;generalize zN a=PP at *;generalize zN çe=WI at *;by_cases c:Pf z6 i=0;rw[ú c]at p;rw[ď (λz=>z c),İf];simp only[Ø,s,p];rw[ď c]at p;rw[ú c,Ŀf];simp only[Ø,s,p,u,C,x,v]
 rw[UE]at h;rw[z8x];unfold EL;generalize zN ël=AA at m o k e1 l h ⊢;generalize zN T=TT at m o k e1 l h ⊢;generalize zN a=PP at m o k e1 l h ⊢;generalize vC z6=WW at m o k e1 l h ⊢;generalize wq (Õ).length=UU at m o k e1 l h ⊢;generalize zB z6=RR at m o k e1 l h ⊢;simp only[Ø,m,o,k,e1,l,h]
theorem N5:∀(ns acc:Á Æ),acc.Nodup->(ϵn).Nodup/\∀x,x∈œi gC acc↔x∈acc\/x∈ns
 | [],acc,h=>{h,λx=>{.inl,λz=>Ũ id λz=>by cases z}}|n::ns,acc,h=>by
  rw[Êa];by_cases c:(acc.any λm=>decide (m=n))=Ä;let e:gC acc n=acc:=Ï c;rw[e];let{a,b}:=N5 ns acc h;show{a,λx=>(b x).trans {λz=>ųd id (Ų _),λz=>Ũ .inl λz=>?_}};rcases ĩ z with rfl|z;let{m,g,e}:=List.any_eq_true.mp c;show .inl (š e▸g);rw[Đq];let e:gC acc n=acc++[n]:=Ñ c;rw[e];let i:n ∉ acc:=λz=>c (List.any_eq_true.mpr {n,z,ú rfl})
  let{a,b}:=N5 ns (acc++[n]) (çf {h,äd {Ϣ,Ōa},λx f y d z=>i (by cases Ĵ d;show z▸f)});show{a,λx=>(b x).trans ?_};rw[ϐh,Ĺh,Ěa];show{λz=>Ũ (λz=>Ũ .inl λz=>.inr Œb) λz=>.inr Źa,λz=>Ũ Ón λz=>Ũ (λz=>.inl Źa) .inr}
theorem lG:∀{a b:Á Æ},ſo (·<·)->Ŧi (·<·)->(∀x,x∈a↔x∈b)->a=b
 | [],[],_,_,_=>rfl| [],y::b,_,_,h=>by let:=(h y).mpr Ġ;cases this|x::a,[],_,_,h=>by let:=(h x).mp Ġ;cases this|x::a,y::b,ha,hb,h=>by
  rw[List.pairwise_cons]at ha hb
  let e:x=y:=by rcases ĩ ((h x).mp Ġ)with z|z;show z;rcases ĩ ((h y).mpr Ġ)with w|w;show w.symm;let:=hb.1 x z;let:=ha.1 y w;omega
  subst e
  rw[lG ha.2 hb.2 λz=>⟨λc=>by
   rcases ĩ ((h z).mp ϊc)with w|w;let:=ha.1 z c;omega;show w,λc=>by
   rcases ĩ ((h z).mpr ϊc)with w|w;let:=hb.1 z c;omega;show w⟩]
theorem y85(n:Â)(p:Â->Ð):((Ġj).map λi:Â=>(i:Æ)).Pairwise (·<·):=by rw[Łm];unfold pN;show List.Pairwise.filter _ (List.pairwise_lt_range.imp λh=>by omega)
def x4m{n:Â}(t:n<64){l:Á Â}(m:Ĕc<1000){p:Â->Ð}(h:∀i,i∈l↔i<n/\p i=Ä):TX [.lst ϲj]=À (Β (zN Ġj)):=by
 let k:ώa ϲj=À (áa λi:Â=>(i:Æ)):=by let:=iH (áa λi:Â=>(i:Æ));rw[ϰ]at this;rw[Ϯp]
 let{o,c}:=N5 (áa λi:Â=>(i:Æ)) [] Ōa;let e:=Ùi Éd
 let r:(Àj).Pairwise (·<·):=by let q:(Àj).Nodup:=e.nodup_iff.mpr o;show(Ϻm Éd).imp₂ (λa b s j=>by let:a≠b:=j;omega) q
 let g:Ĝd Éd=(Ġj).map λi:Â=>(i:Æ):=lG r (y85 n p) λx=>by
  rw[e.mem_iff,show x∈qr (áa λi:Â=>(i:Æ))↔x∈([]:Á Æ)\/x∈áa ϥd from c x]
  rw[Ĵq];rintro(z|z);cases z;let{i,d,rfl}:=Èa z;show œc {i,Xz.mpr ((h i).mp d),rfl};intro z;let{i,d,rfl}:=Èa z;show .inr (œc {i,(h i).mpr ği,rfl})
 have f:(Éd).length<64:=by rw[<-e.length_eq,g,ã];unfold pN;let:=Žg p ĩb;rw[Øa]at this;omega
 exact(ώa ϲj).bind _=_;rw[k];exact(if(áa λi:Â=>(i:Æ)).length<1000/\(Éd).length<64 then À (Εb Àj)else Å)=_;rw[Ï {by rw[ã];show m,f},g,ϰ];rfl
nonrec def jG:D->É Ç
 |.tup [_,.str t]=>À t|_=>Å
nonrec def Tx(g:Ç->Ç):D->D
 |.tup [a,.str t]=>.tup [a,.str (g t)]|.tup [a,b,.str t]=>.tup [a,b,.str (g t)]|d=>d
def YX{d:D}(h:ym d)(a:xH d=Ä):∃(hd:Á D) (t:Ç),d=.tup (hd++[.str t])/\hd≠[]/\Ėe<=2/\(∀g,Tx g d=.tup (hd++[.str (g t)]))/\(∀u,ym ĉb/\xH ĉb=Ä/\zj ĉb=Ã)/\(∀u,jG ĉb=(şg).map λ_=>u):=by
 cases h with
 |ía u=>cases a|Ϭ h=>let{_,_,_,_,c,_}:=Zk h;rw[c]at a;cases a
 |w8 t=>show{[.str Ĺa],t,rfl,by simp,by simp,λ_=>rfl,λu=>{.w8 u,rfl,rfl},λ_=>rfl}|Ť t hw hk=>rename_i w k;show{[.str w,.str k],t,rfl,by simp,by simp,λ_=>rfl,λu=>{.cond u hw hk,by rcases hw with rfl|rfl<;>rfl,by rcases hw with rfl|rfl<;>rfl},λ_=>rfl}
def Va{c:Á D}{t u:Ç}(d:c≠[])(e:Îa<=2):MR ϭl Å Ϟo=À īj/\zJ ϭl ůc=À ϵb/\xN īj (.tup [.str u])=À (.tup (c++[.str u])):=by
 match c,d,e with
 | [a],_,_=>show{rfl,rfl,rfl}| [a,b],_,_=>show{rfl,rfl,rfl}| [],h,_=>show Þ rfl h|_::_::_::_,_,h=>simp at h
section
variable(J:Â->É Ç)(pl:Ç->Â)
inductive qg:Â->Ç->Á Â->É Ç->È
 |Ϡ {a:Ç} {Ϝ:Á Â}:J Çc=Å->qg 0 a Ϝ (À a)
 |Y7 {a r:Ç} {Ϝ:Á Â}:J Çc=À r->pl a∈Ϝ->qg 0 a Ϝ Å
 |go {a r:Ç} {Ϝ:Á Â} {k:Â} {o:É Ç}:J Çc=À r->pl a ∉ Ϝ->qg k r Ņi o->qg Ň a Ϝ o
def j3:Â->Ç->È
 |0,a=>J Çc=Å|k+1,a=>∃r,J Çc=À r/\j3 k r
inductive V4:Â->Ç->Ç->È
 |Îc {a:Ç}:V4 0 a a
 |Ăa {a r b:Ç} {k:Â}:J Çc=À r->V4 k r b->V4 Ň a b
#print a
section
variable{J:Â->É Ç}{pl:Ç->Â}
def x1q{k:Â}{a:Ç}{b:Á Â}{o:É Ç}(h:qg J pl k a b o):∀{k':Â}{o':É Ç},qg J pl k' a b o'->o=o':=by
 induction h with
 |Ϡ h=>
  intro k' o' g;cases g with
  |Ϡ _=>rfl|Y7 g _=>rw[h]at g;cases g|go g _ _=>rw[h]at g;cases g
 |Y7 h m=>
  intro k' o' g;cases g with
  |Ϡ g=>rw[h]at g;cases g|Y7 _ _=>rfl|go _ g _=>show Þ m g
 |go h m _ ih=>
  intro k' o' g;cases g with
  |Ϡ g=>rw[h]at g;cases g|Y7 _ g=>show Þ g m|go g _ r=>rw[h]at g;cases g;show ih r
theorem Vx{n:Â}(e:∀p r,J p=À r->p<n):∀(m:Â)(a:Ç)(Ϝ:Á Â),seen.Nodup->(∀q∈Ϝ,q<n)->n-seen.length<=m->∃k o,k<=m/\qg J pl k a Ϝ o
 |m,a,Ϝ,nd,hs,hm=>by
  cases h:J Çc with
  |Å=>show{0,_,Ź _,.stop h}|À r=>
   by_cases hi:pl a∈Ϝ;show{0,_,Ź _,.Y7 h hi};let f:=e _ _ h;let c:(Ņi).Nodup:=äd {hi,nd}
   let b:∀q∈pl a::Ϝ,q<n:=λq d=>by rcases ĩ d with rfl|d;show f;show hs q d
   let:=En n c b;rw[Ĉ]at this
   match m,hm with
   |0,hm=>omega|m+1,hm=>let{k,o,g,R}:=Vx e m r Ņi c b Īm;show{k+1,o,by omega,.go h hi R}
def rF{k:Â}{a:Ç}{c:Á Â}{o:É Ç}(R:qg J pl k a c o):∀{b:Ç},o=À b->J Ϻj=Å/\∃j,j3 J pl j a:=by
 induction R with
 |Ϡ h=>intro b e;cases e;show{h,0,h}|Y7=>show nofun|go h _ _ ih=>intro b e;let{a,j,e}:=ih e;show{a,j+1,_,h,e}
theorem e_:∀{k k':Â}{a:Ç},j3 J pl k a->j3 J pl k' a->k=k'
 |0,0,_,_,_=>rfl|0,k'+1,_,h,⟨r,h',_⟩=>by rw[show J ϻj=Å from h]at h';cases h'|k+1,0,_,⟨r,h,_⟩,h'=>by rw[show J ϻj=Å from h']at h;cases h|k+1,k'+1,_,⟨r,h,e⟩,⟨r',h',e'⟩=>by rw[h]at h';cases h';rw[e_ e e']
theorem y1r{m:Â}{a b:Ç}(l:V4 J pl m a b):∀{k:Â},j3 J pl k a->∃k',k'+m=k/\j3 J pl k' b:=by
 induction l with
 |Îc=>show λ{k} h=>{k,rfl,h}|Ăa e _ ih=>
  intro k h;cases k with
  |ŏ=>rw[show J ϻj=Å from h]at e;cases e|ş k=>let{r,c,f}:=h;rw[e]at c;cases c;let{k',e1,e2}:=ih f;show{k',by rw[<-e1];rfl,e2}
def z6q{k:Â}{a b:Ç}(h:pl a=pl b)(e:j3 J pl k a):j3 J pl k b:=by
 cases k with
 |ŏ=>show(ĳ J h).symm.trans e|ş k=>let{r,c,d}:=e;show{r,by rw[<-h];show c,d}
def y1s{m:Â}{a b r:Ç}(l:V4 J pl m a b)(h:J Ϻj=À r):V4 J pl (m+1) a r:=by
 induction l with
 |Îc=>show .step h .refl|Ăa e _ ih=>show .step e (ih h)
theorem rE:∀{k:Â}{a:Ç}{Ϝ:Á Â},qg J pl k a Ϝ Å->(∀q∈Ϝ,∃m r b,J q=À r/\V4 J pl m r b/\pl b=pl a)->¬ ∃j,j3 J pl j a
 |_,a,Ϝ,.Y7 h hi,inv=>λ⟨j,e⟩=>by
  let{m,r,b,c,l,d}:=inv _ hi
  match j,e with
  |0,e=>rw[show J Çc=Å from e]at c;cases c|j+1,⟨r',h',e'⟩=>rw[c]at h';cases h';let{n,e1,e2}:=y1r l e';let:=e_ (z6q d e2) (show j3 J pl ϭ a from{r,c,e'});omega
 |_,a,Ϝ,.go (r:=r) h hi R,inv=>λ⟨j,e⟩=>by
  match j,e with
  |0,e=>rw[show J Çc=Å from e]at h;cases h|j+1,⟨r',h',e'⟩=>rw[h]at h';cases h';show rE R (λq g=>?_) {j,e'};rcases ĩ g with rfl|g;show{0,r,r,h,.refl,rfl};let{m,i,b,f,l,d}:=inv q g;show{m+1,i,r,f,y1s l (by rw[d];show h),rfl}
#print a
nonrec def qA(J:Â->É Ç)(pl:Ç->Â)(t:Ç):Ç:=open Ĉp in if h:∃o k,qg J pl k t [] o then(Classical.choose h).getD t else t
def Ve{J:Â->É Ç}{pl:Ç->Â}{t:Ç}{k:Â}{o:É Ç}(h:qg J pl k t [] o):qA J pl t=Ŧd t:=by let a:∃o k,qg J pl k t [] o:={o,k,h};unfold qA;rw[dif_pos a];let{c,b}:=Classical.choose_spec a;rw[x1q b h]
theorem y1h{J:Â->É Ç}{pl:Ç->Â}{n:Â}(q:∀p r,J p=À r->p<n)(t:Ç) :qA Ðf pl (qA J pl t)=qA J pl t:=by
 let s:∀p r,Ðf p=À r->p<n:=λp r h=>by
  cases e:J p with
  |Å=>rw[show Ðf p=(J p).map Øj from rfl,e]at h;cases h|À r'=>show q p r' e
 let{k,o,_,R}:=Vx (pl:=pl) q n t [] Ōa ύb Ŋa;rw[Ve R];cases o with
 |À b=>have h:=(rF R rfl).1;show Ve (k:=0) (o:=À b) (.stop (by exact(J Ϻj).map _=Å;rw[h];rfl))|Å=>
  let v:=rE R ύb;exact qA _ pl t=t
  let d:∀u,(¬ ∃j,j3 J pl j u)->∃r,J ŝg=À r/\(¬ ∃j,j3 J pl j r)/\qA J pl r=r:=λu i=>by
   cases e:J ŝg with
   |Å=>show Þ {0,e} i|À r=>
    let l:¬ ∃j,j3 J pl j r:=λ⟨j,z⟩=>i {j+1,r,e,z}
    show{r,rfl,l,?_};let{g,f,_,c}:=Vx (pl:=pl) q n r [] Ōa ύb Ŋa;rw[Ve c];cases f with
    |Å=>rfl|À b=>show Þ (rF c rfl).2 l
  let m:∀{g:Â}{u:Ç}{a:Á Â}{f:É Ç},qg Ðf pl g u a f->(¬ ∃j,j3 J pl j u)->f=Å:=λ{g}=>by
   induction g with
   |ŏ=>
    intro u a f c i;let{r,l,_,_}:=d u i;cases c with
    |Ϡ h=>have h:(J ŝg).map Øj=Å:=h;rw[l]at h;cases h|Y7 _ _=>rfl
   |ş g ih=>
    intro u a f c i;let{r,l,x,w}:=d u i;cases c with
    |go h _ R2=>have h:(J ŝg).map Øj=À _:=h;rw[l,Ϸm,w]at h;cases h;show ih R2 x
  let{g,f,_,c}:=Vx (pl:=pl) s n t [] Ōa ύb Ŋa;rw[Ve c,m c v];rfl
theorem NH{t:Ç}:∀{L:Á D}(s:Â×É Â),xy t∈L\/s.2.isSome=Ä->(Âe.2).isSome=Ä
 | [],s,h=>ϥc Ŕm id|d::L,s,h=>by
  rw[Êa];show NH _ ?_;rcases h with h|h;rcases ĩ h with rfl|h;show .inr ?_;let:To t Ϸj=Ä:=đb t;unfold ud;rw[show zj Ϸj=Ä from rfl];rw[ϴp];rw[this];rfl;show .inl h;show .inr ?_;unfold ud;cases zj d with
  |Ä=>
   rw[ϴp];cases To t d with
   |Ä=>rfl|Ã=>show h
  |Ã=>show h
def x4g{z6:Á D}(h:∀d∈z6,ym d){t:Ç}{p:Â}(e:ċd.2=À p):xy t∈z6:=by
 apply Þh;intro b
 let:=lz (t:=t) (L:=z6) (s:=(0,Å)) λd a=>by
  cases ht:Ik t d with
  |Ã=>rfl|Ä=>show Þ (y06 (h d a) ht▸a) b
 unfold xJ at e;rw[this]at e;cases e
def EB:FS:=
 (yc (Xk ϣm (e2 zh (e2 zJ Ĭf ī) ňd)))
def JP:Á D->É å:=FR 2 2 EB
def z8o(a x1:D):JP č=yL 2 EB č:=rfl
def Xp:FS:=(zQ (yb (tE (e2 xT ϝh (qP 3)))
     (yc þ)
     xK)
    (zQ (jo 3 ϝh Ϧf)
    (zl 4 (e2 zJ (e2 zJ ą ϝh) ģd))))
def Xh:FT:=(tE (zg JP Ên))
def Cy:FS:=
 (zQ (qF 3 Ãf)
  (zQ (zl 4 þ)
  (zQ (Zn Xh
   Xp)
  (zQ (Yn 3) (yc Ŝ)))))
def JJ:Á D->É å:=FR 3 5 Cy
def z8e(b x1 a:D):JJ ϴ=yL 5 Cy ϴ:=rfl
def Sr:FE:=(pG (tE (zg XT Āc)) (e2 xN (kE ı kR (kS ģd)) (wP (Α (zg JJ (zC (e2 zJ ı ģd) (Υ ϴh)))))) ı)
def EC:FS:=
 (zQ ϓf
  (zQ (zl 2 Ŗo)
  (vY (wY 1 Ęc īc xY Sr))))
def T4:Á D->É å:=FR 1 3 EC
def z8p(a:D):T4 [a]=yL 3 EC [a]:=rfl
def jn(Ă:Á D)(p:Â):É Ç:=(ĺp).bind jG
def Ip(Ă:Á D)(p:Â):jn Ă p=(ĺp).bind jG:=rfl
def No{d:D}(h:ym d)(a:zj d=Ã):∃w,zJ d ů=À Ř/\zh Ř ďb=À (.bl (şg).isSome)/\∀t,jG d=À t->d=.tup śh:=by
 cases h with
 |ía u=>cases a|Ϭ h=>cases h with
  |Ϡ=>show{_,rfl,rfl,λt z=>by cases z}|Wc hw=>rcases hw with rfl|rfl<;>show{_,rfl,rfl,λt z=>by cases z}
  |two hw=>rcases hw with rfl|rfl|rfl|rfl|rfl|rfl|rfl|rfl|rfl<;>show{_,rfl,rfl,λt z=>by cases z}
  |Wd hw=>rcases hw with rfl|rfl<;>show{_,rfl,rfl,λt z=>by cases z}
  |mem hw=>rcases hw with rfl|rfl|rfl|rfl<;>show{_,rfl,rfl,λt z=>by cases z}
 |w8 u=>show{_,rfl,rfl,λt z=>by cases z;rfl}|Ť u hw hk=>rcases hw with rfl|rfl<;>show{_,rfl,rfl,λt z=>by cases z}
def xi(z6:Á D)(t:Ç):Â:=(śe).getD 0
def YB(z6:Á D)(t:Ç):È:=∃p,ċd.2=À p
def KQ{z6:Á D}{t:Ç}(h:YB z6 t):ċd.2=À (xi z6 t):=by let{p,e}:=h;unfold xi;rw[e];rfl
def Nq{z6:Á D}(P:PC z6){p:Â}{d:D}(h:Õ[p]?=À d):d∈z6/\ym d/\zj d=Ã:=by let:=Įa (ώ h);show{this.1,ũ d this.1,by simpa using this.2}
def VZ{z6:Á D}(P:PC z6){p:Â}{r:Ç}(h:jn Õ p=À r):Õ[p]?=À êh/\YB z6 r/\p<(Õ).length:=by
 rw[Ip]at h;cases e:Õ[p]? with
 |Å=>rw[e]at h;cases h|À d=>rw[e]at h;let{m,g,i}:=Nq P e;let{w,a,b,c}:=No g i;let f:=c r h;subst f;show{rfl,?_,še.1};let{t,q,e1,e2}:=Ãd _ m rfl;cases e1;show{q,e2}
def l6{z6:Á D}(P:PC z6)(p:Â):JP [.lst Õ,.int (p:Æ)]=À (Ã,.bl (źi).isSome):=by
 rw[z8o];unfold EB;by_cases h:p<(Õ).length;let c:decide ßl=Ä:=ú Ê;let e:Õ[p]?=À Õ[p]:=Đ h;let{_,i,j}:=Nq P e;let{w,a,b,_}:=No i j;let g:zJ ϟf şc=À Õ[p]:=jY Ê (by rw[Ĝ];show e);let f:jn Õ p=jG Õ[p]:=by rw[Ip,e];rfl
 rw[f];generalize Õ[p]=d at c g a b ⊢;generalize zB z6=RR at c g a b ⊢;simp only[Ø,c,g,a,b];let c:decide ßl=Ã:=ď Ê;let f:jn Õ p=Å:=by rw[Ip,Öa Ê];rfl
 rw[f];generalize zB z6=RR at c ⊢;simp only[Ø,c];rfl
def y1k{z6:Á D}(P:PC z6){ks:Á Ļ}{vs:Á D}(hk:∀t,Ć ks vs Ŏd=(śe).map λn:Â=>ę n)(Ĳ:Ç) :∀{k:Â}{a:Ç}{Ϝ:Á Â}{o:É Ç},qg ņe ţe k a Ϝ o->YB z6 a->∀(K:Á Ļ) (V:Á D),æg=V.length->æg+k<=1000->(∀q:Â,yr K (.inl (q:Æ))=decide (q∈Ϝ))->
  (∃b K' V',o=À b/\uw Xh Xp Ň Æd=À (.nx [À (Ã,.str Ĳ),À (Ã,.lst Õ),À (Ã,.dic ks vs),À (Ä,.dic K' V'),À (Ã,.str b)])) \/
  (o=Å/\uw Xh Xp Ň Æd=À Ϯl):=by
 let x:∀{a:Ç},YB z6 a->zJ (.dic ks vs) ăg=À ϭd:=λ{a} h=>by exact Ć ks vs ĳj=_;rw[hk,KQ h];rfl
 intro k
 induction k with
 |ŏ=>
  rw[Ċq];cases R with
  |Ϡ h=>
   show .inl {a,K,V,rfl,?_};rw[h]at f;rw[UH];rw[ϯp]
  |Y7 h hi=>
   show .inr {rfl,?_};rw[h]at f
   let d:xT ϭd Ĉc=À İ:=by exact(ϔm).bind _=_;rw[g,ú hi];rfl
   unfold uw
   let m:Xh Æd=À Ä:=by rw[ϯp]
   let l:Xp Æd=À Ϯl:=by unfold Xp;generalize zB z6=RR at c d ⊢;simp only[Ø,c,d]
   rw[m];exact(Xp _).bind _=_;rw[l];rfl
 |ş k ih=>
  rw[Ċq];cases R with
  |go h hi R=>
   rename_i r;let{y,A,C}:=VZ P h;rw[h]at f
   let d:xT ϭd Ĉc=À ý:=by exact(ϔm).bind _=_;rw[g,ď hi];rfl
   let v:zJ ϟf ϭd=À êh:=jY Ê (by rw[Ĝ];show y);let s:zJ êh ůc=À (.str r):=rfl;let u:uY ϭd=À Ϫe:=rfl;let i:æg<yX:=by rw[ϥp]
   let m:Xh Æd=À Ä:=by rw[ϯp]
   let l:Xp Æd=À (.nx [À (Ã,.str Ĳ),À (Ã,.lst Õ),À (Ã,.dic ks vs),À (Ä,.dic ŷi ϝm),À (Ã,.str r)]):=by unfold Xp;generalize zB z6=RR at c d u i v s ⊢;simp only[Ø,c,d,jo,u,Ï i,v,s]
   let:=ih R A ŷi ϝm (W1 w) (by
    let:(ŷi).length<=æg+1:=by
     unfold wD
     split;rw[Þq]
    omega) λq=>by
    rw[h_,g];by_cases e:q=xi z6 a;subst e;rw[ú (p:=(ĭ ((xi z6 a:Â):Æ):Sum Æ Ç)=ĭ ((xi z6 a:Â):Æ)) rfl,či,ú ϳ];rw[ď (p:=(ĭ ((xi z6 a:Â):Æ):Sum Æ Ç)=ĭ (q:Æ)) ϻn,ŀf];show îf {λz=>Ų _ z,λz=>?_};rcases ĩ z with z|z;show Þ z e;show z
   rw[QT m l];rw[Ϯp]
def y1i{z6:Á D}(P:PC z6){ks:Á Ļ}{vs:Á D}(hk:∀t,Ć ks vs Ŏd=(śe).map λn:Â=>ę n){t:Ç}(c:YB z6 t) :JJ [.str t,.lst Õ,.dic ks vs]=À (Ã,.str (qA ņe ţe t)):=by let rl:(Õ).length<=100:=ÿ ſc Òc;let{k,o,a,R}:=Vx (J:=jn Õ) (pl:=xi z6) (n:=(Õ).length) àf (Õ).length t [] Ōa ύb Ŋa;rw[Ve R,z8e];unfold Cy;rcases y1k P hk t R c [] [] rfl (by exact 0+k<=_;omega) (λq=>rfl)with⟨b,d,f,rfl,e⟩|⟨rfl,e⟩;rw[Úq];rw[Úq]
nonrec def vN(z6:Á D)(t:Ç):Ç:=qA ņe ţe t
nonrec def xQ(z6:Á D)(d:D):D:=match xH d with
 |Ä=>Tx Ŝd d|Ã=>d
def y1w{z6:Á D}(P:PC z6):T4 ŧ=À (Ä,.lst ŉa):=by
 let{q,m,e1,o}:=iu ũ ϩl;let e2:=Ym ũ
 let l:=Zc (g:=yC 3) (e:=Sr) (σ:=[À (Ã,.lst z6),À (Ã,.lst Õ),À (Ã,.dic q m),Å]) Ťe (ds:=z6) λd k=>by
  let a:=KF Ĳp;rw[Ϸp];unfold Sr xQ;cases z:xH d with
  |Ã=>rw[z]at a;generalize zB z6=RR at a ⊢;simp only[Ø,a]|Ä=>
   rw[z]at a;let{w,p,b,v}:=Ãd d k z;let{j,t,r,s,n,rl,_,_}:=YX Ĳp z;let{f,c,i}:=Va (t:=t) (u:=vN z6 t) s n;rw[rl];subst r;rw[c]at b;injection b with b
   injection b with b
   subst b;let h:=y1i P o {p,v};unfold vN at *;generalize qA ņe ţe t=u at a f c h i ⊢;generalize zB z6=RR at a f c h i ⊢;generalize j++[ϫ t]=dd at a f c h i ⊢;simp only[Ø,a,kE,kS,kR,f,c,h,i]
 rw[z8p];unfold EC;generalize ϑj Ťe=LL at *;let e2:uO ŧ=À (Ä,.lst Õ):=e2;generalize zB z6=RR at e2 e1 l ⊢;simp only[Ø,e2,e1,l]
theorem iT{f:D->D}(t:Ç):∀{L:Á D}(s:Â×É Â),(∀d∈L,zj (f d)=zj d/\ŗm)->(śj).foldl że s=Ĭd że s
 | [],_,_=>rfl|d::L,s,h=>by
  rw[ĵ,Êa,Êa,iT t _ λx c=>h x ϊc];let{a,b}:=h d ϳ
  congr 1
  unfold ud;rw[a];cases hl:zj d with
  |Ä=>rw[b hl]|Ã=>rfl
theorem iS{f:D->D}:∀{L:Á D},(∀d∈L,zj (f d)=zj d/\ŗm)->(śj).filter zj=řb zj
 | [],_=>rfl|d::L,h=>by
  let{a,b}:=h d ϳ;let c:=iS λx e=>h x Ŕp
  rw[ĵ];cases hl:zj d with
  |Ä=>rw[ąa (by rw[a];show hl),ąa hl,c,b hl]|Ã=>rw[ña ϧl,ña æc,c]
theorem iU{f:D->D}:∀{L:Á D},(∀d∈L,zj (f d)=zj d)->(śj).filter Ŧc=(Ųh).map f
 | [],_=>rfl|d::L,h=>by
  let a:=h d ϳ;let b:=iU λx c=>h x ϊc
  rw[ĵ];cases hl:zj d with
  |Ä=>rw[ña ϧl,ña æc,b]|Ã=>rw[ąa (by rw[a,hl];rfl),ąa Ϣh,b,ĵ]
theorem l8{z6:Á D}(P:PC z6):∀d∈z6,ym ĳd/\xH ĳd=xH d/\zj ĳd=zj d/\(zj d=Ä->xQ z6 d=d)/\jG ĳd=(if xH d=Ä then(şg).map Ŝd else jG d):=λd b=>by
 unfold xQ;cases z:xH d with
 |Ã=>show{ũ d b,z,rfl,λ_=>rfl,by rw[Ñ ġ]}|Ä=>
  let{i,t,c,j,k,rl,a,f}:=YX (ũ d b) z;exact ym (Tx Ŝd d)/\_;rw[rl,Ï rfl,f];let g:zj d=Ã:=by rw[c];show(a t).2.2
  refine{(a _).1,(a _).2.1,by rw[g];show(a _).2.2,(λy=>by rw[g]at y;cases y),?_};let:=f t;rw[<-c]at this;cases e:jG d with
  |Å=>rfl|À u=>rw[e]at this;let h:u=t:=Ça this;rw[h];rfl
def ii{z6:Á D}(P:PC z6){t:Ç}(d:YB z6 t):YB z6 Ēd:=by
 let{k,o,_,R}:=Vx (J:=jn Õ) (pl:=xi z6) (n:=(Õ).length) àf (Õ).length t [] Ōa ύb Ŋa;unfold vN;rw[Ve R]
 let f:∀{k:Â}{a:Ç}{c:Á Â}{b:Ç},qg ņe ţe k a c Įg->YB z6 a->YB z6 b:=λ{k}=>by
  induction k with
  |ŏ=>intro a c b R h;cases R;show h|ş k ih=>
   intro a c b R h;cases R with
   |go e _ R=>show ih R (VZ P e).2.1
 cases o with
 |Å=>show d|À b=>show f R d
def Xq{z6:Á D}(P:PC z6):PC ŉa/\(∀t,xJ t ŉa=xJ t z6)/\zB ŉa=(Õ).map Ťe:=by
 let c:=l8 P;let k:∀t,xJ t ŉa=xJ t z6:=λt=>iT t _ λd a=>{Ŧe.2.2.1,Ŧe.2.2.2.1}
 show{{λd a=>?_,?_,λd a l=>?_,by rw[ã];show Òc},k,iU λd a=>Ŧe.2.2.1};let{x,g,rfl}:=Èa a;show(c x g).1;rw[iS λd a=>{Ŧe.2.2.1,Ŧe.2.2.2.1}];show Äd;let{x,g,rfl}:=Èa a;let b:=l;rw[(c x g).2.1]at b;let{s,p,f,r}:=Ãd x g b;let{h,t,o,j,i,rl,_,_}:=YX (ũ x g) b
 let e:xQ z6 x=.tup (h++[.str Ēd]):=by unfold xQ;rw[b];show rl _
 let{_,m,_}:=Va (t:=t) (u:=t) j i;rw[o,m]at f;injection f with f
 injection f with f
 subst f;let{q,n}:=ii P {p,r};show{vN z6 t,q,?_,by rw[k];show n};rw[e];show(Va (t:=vN z6 t) (u:=t) j i).2.1
def y1v{z6:Á D}(P:PC z6):(ŉa).map (xQ ŉa)=ϑj Ťe:=by
 let{J,C,rk}:=Xq P;let v:=l8 P;let f:xi ŉa=xi z6:=funext λt=>by unfold xi;rw[C]
 let x:jn (zB ŉa)=λp=>(źi).map Ŝd:=funext λp=>by
  rw[Ip,rk,ė];exact _=(źi).map Ŝd;rw[Ip];cases e:Õ[p]? with
  |Å=>rfl|À d=>
   exact jG ĳd=(şg).map Ŝd;let{m,l,y}:=Nq P e;rw[(v d m).2.2.2.2];cases hj:xH d with
   |Ä=>rw[Ï rfl]|Ã=>
    rw[Ñ ġ];cases en:jG d with
    |Å=>rfl|À u=>let{_,_,_,c}:=No l y;let:=c u en;subst this;cases hj
 let B:∀t,vN ŉa Ēd=vN z6 t:=λt=>by exact qA (jn (zB ŉa)) (xi ŉa) Ēd=_;rw[f,x];show y1h (n:=(Õ).length) àf t
 rw[ϰ];show üf λd A=>?_
 exact xQ ŉa ĳd=xQ z6 d;cases hj:xH d with
 |Ã=>
  let e:xQ z6 d=d:=by unfold xQ;rw[hj]
  rw[e];unfold xQ;rw[hj]
 |Ä=>
  let{a,t,H,I,G,rl,b,_}:=YX (ũ d A) hj
  let e:xQ z6 d=.tup ën:=by unfold xQ;rw[hj];show rl _
  rw[e];let{i,k,j,F,E,g,_,_}:=YX ſj.1 ſj.2.1
  let e2:xQ ŉa (.tup ën)=.tup (i++[.str (vN ŉa k)]):=by unfold xQ;rw[ſj.2.1];show g _
  let s:=D.tup.inj j;let{o,w}:=List.append_inj' s rfl;let q:vN z6 t=k:=by injection w with z _;injection z
  rw[e2,<-q,B,o]
def Sy:FE:=(wP (zC ŝa ϖh))
def Kb:FS:=(yb (tE (zg XU Åj))
     ŷn
     (zQ (yb (tE (e2 Xm ı ğ))
       ŷn
       xK)
      (zl 3 (e2 īf ı Ŋ))))
def Ef:FS:=
 (zQ (zl 2 (Λc (wY 1 (vt ą) źe xY Sy)))
  (zQ ϵo
  (zQ (zl 3 ī)
  (zQ (jK Ęc ŕg
   Kb)
  Àk))))
def T8:Á D->É å:=FR 2 6 Ef
def z9e(a x1:D):T8 č=yL 6 Ef č:=rfl
def vX(a:Á Â)(s:Â×Á D)(d:D):Â×Á D:=match zj d with
 |Ä=>(s.1,s.2++[d])|Ã=>(s.1+1,if s.1∈a then s.2 else s.2++[d])
def uE(a:Á Â)(L:Á D):Â×Á D:=Ĭd (vX a) (0,[])
def y0n(a:Á Â)(L:Á D)(d:D):uE a ϳb=vX a Ńd d:=by unfold uE;rw[řh];rfl
theorem KL(a:Á Â):∀(L:Á D)(s:Â×Á D),ϲh.2.length<=s.2.length+ϩ
 | [],s=>ĺ _|d::L,s=>by
  rw[Êa];let h:=KL a L Ϯo
  let:Ϯo.2.length<=s.2.length+1:=by
   unfold vX;cases zj d with
   |Ä=>exact(ϴo).length<=_;rw[ì];show ĺ _|Ã=>
    exact(ϰg).length<=_
    split;rw[Þq]
  rw[Ĉ];omega
theorem iW(a:Á Â):∀(L:Á D)(s:Â×Á D),∀x∈ϲh.2,x∈s.2\/x∈L
 | [],s,x,h=>.inl h|d::L,s,x,h=>by
  rw[Êa]at h;rcases iW a L _ x h with h|h;let:x∈s.2\/x=d:=by
   unfold vX at h;cases hl:zj d with
   |Ä=>rw[hl]at h;rcases Ÿ h with h|h;show .inl h;show .inr (Ĵ h)
   |Ã=>
    rw[hl]at h;let h:x∈ϰg:=h
    rw[Éq];show .inl h;rcases Ÿ h with h|h;show .inl h;show .inr (Ĵ h)
  rcases this with h|h;show .inl h;show .inr (h▸Ġ ..);show .inr (Ų _ h)
def w0w{z6:Á D}(h:∀d∈z6,ym d)(u:źa<=100)(a:Á Â):T8 [.lst z6,.lst Īc]=À (Ä,.lst (uE a z6).2):=by
 let e1:wA źe xY Sy ąk Īc=À (Èc λi:Â=>ύ úd):=by
  let:=Zc (g:=yC 6) (e:=Sy) (σ:=ąk) ķl (ds:=zN a) λd w=>{_,rfl,rfl}
  rw[this];rw[œq];rw[ϰ];rfl
 let{K,V,e2,t}:=eK a
 let{σ',m,k,rfl}:=kL (g:=yC 5) (b:=Kb) (λi σ=>∃k,σ=[À (Ã,.lst z6),À (Ã,.lst Īc),À (Ã,.dic K V),À (Ã,.int ((ĩd.1:Â):Æ)),À (Ä,.lst ĩd.2),k]) (ds:=z6)
  (σ:=[À (Ã,.lst z6),À (Ã,.lst Īc),À (Ã,.dic K V),À (Ã,.int 0),À (Ä,.lst []),Å]) 0 {Å,rfl} (by
  rintro i v σ l ⟨k,rfl⟩;rw[Ķ]at *;let n:i<źa:=īg.1;let o:z6[i]=v:=īg.2;let q:ďg î=ďg i++[v]:=by rw[ĸc n,o]
  let f:=KG (h v (ώ l));let p:=KL a ņc (0,[]);let lt:(ņc).length<=100:=by rw[äa];omega
  let c:Xm (.int ((ĩd.1:Â):Æ)) Ĉc=À (ν (ĩd.1∈a)):=by exact(À (yr K (.inl _))).bind _=_;rw[t];rfl
  let j:=Xf (L:=ĩd.2) (r:=v) (by let:ĩd.2.length<=0+(ņc).length:=p;omega);show{_,[À (Ã,.lst z6),À (Ã,.lst Īc),À (Ã,.dic K V),À (Ã,.int ((ϲo.1:Â):Æ)),À (Ä,.lst ϲo.2),À (Ã,v)],rfl,.inl ?_,_,rfl};rw[q,y0n];generalize uE a ņc=s at *;unfold Kb vX;cases hL:zj v with
  |Ä=>
   rw[hL]at f;simp only[Ø,f,j]
  |Ã=>
   rw[hL]at f;by_cases hm:s.1∈a
   .rw[ú hm]at c;simp only[Ø,f,c,Ï hm];rfl
   .rw[ď hm]at c;simp only[Ø,f,c,j,Ñ hm];rfl)
 rw[Ķ,Œc]at m;rw[z9e];unfold Ef;generalize zN a=QQ at e1 e2 m ⊢;simp only[Ø,e1,e2,m]
def Vd:FS:=(zQ (zl 1 (e2 xN (e2 zJ (eC Ϡb) (e2 xE èn Ţm)) ą))
    (zl 2 (e2 vK èn Ţm)))
def VF:FT:=(tE (e2 ĸo ğ ī))
def EH:FS:=
 (zQ (zl 1 Ĳn)
  (zQ (zl 2 (e2 xN þ Ŋ))
  (zQ (Zn VF
   Vd)
  ĕj)))
def T5:Á D->É å:=FR 1 3 EH
def z8t(a:D):T5 [a]=yL 3 EH [a]:=rfl
def nm(n:Â):Ç:=if n<26 then lt (n:Æ) ++ "" else lt ((n/26-1:Â):Æ)++(lt ((n%26:Â):Æ) ++ "")
def y4h{n left:Æ}{c:Ç}(f:Îa<=100):Vd [À (Ã,.int n),À (Ã,.str c),À (Ã,.int left)]=À (.nx [À (Ã,.int n),À (Ã,.str (lt ëi++c)),À (Ã,.int Ϛn)]):=by let d:=CG (k:=(left-1)%26) Ê Ê;let e:=Ŕe (a:=lt ëi) (b:=c) (by rw[O1];omega);unfold Vd;simp only[Ø,z37,d,e]
theorem mL{n left:Æ}{a:Ç}:VF [À (Ã,.int n),À (Ã,.str a),À (Ã,.int left)]=À (decide (0<left)):=by unfold VF;simp only[Ø]
theorem N0{n left:Æ}{a:Ç}{k:Â}(h:0<left)(b:úa<=100):uw VF Vd Ň ϐg =
  uw VF Vd k [À (Ã,.int n),À (Ã,.str (lt ëi++a)),À (Ã,.int Ϛn)]:=QT (mL.trans (by rw[ú h])) (y4h b)
def mK{n left:Æ}{a:Ç}{k:Â}(h:¬ 0<left):uw VF Vd Ň ϐg=À (.nx ϐg):=
 UH (mL.trans (by rw[ď h]))
def y48{n:Â}(h:n<702):T5 Ēn=À (Ã,.str (nm n)):=by
 let a:∀{s:Ç}{left:Æ},Zn VF Vd [À (Ã,.int (n:Æ)),À (Ã,.str ""),À (Ã,.int Ŭo)]=À (.nx [À (Ã,.int (n:Æ)),À (Ã,.str s),À (Ã,.int left)])->T5 Ēn=À (Ã,.str s):=λ{s left} h=>by rw[z8t];unfold EH;simp only[Ø,Ãa,h]
 let e:(n:Æ)+1-1=n:=Int.add_sub_cancel _ _;unfold nm;by_cases c:n<26;rw[Ï c];refine a (left:=ϙn/26) (U0 2 ((ço).trans ?_));rw[mK Ê,e,Ňm Şe Ê];rw[Ñ c];let g:0<n/26:=ķi (ęf c) Ò;let f:n/26<27:=Nat.div_lt_of_lt_mul h;let b:(n:Æ)/26=((n/26:Â):Æ):=rfl;let d:(n:Æ)%26=((n%26:Â):Æ):=rfl;refine a (left:=(ϙn/26-1)/26) (U0 3 ((ço).trans ((N0 (by rw[e,b];omega) (by rw[Mx,O1];decide)).trans ?_)));rw[e,d,b];generalize n/26=q at *;rw[mK Ê,show((q:Æ)-1)%26=((q-1:Â):Æ) by omega]
theorem ig(v:Â->D):∀qs:Á Â,Za (ħa λi:Â=>ύ Ďi)=À (ħa λi:Â=>ĭ (i:Æ),ħa v)
 | []=>rfl|a::qs=>by exact(uY âe).bind _=_;exact(Za (ħa λi:Â=>ύ Ďi)).bind _=_;rw[ig v qs];rfl
theorem fZ(v:Â->D)(n:Â):∀(qs:Á Â)(as:Á Ļ) (ds:Á D),ϴf=ü->Ć ık.1 ık.2 ėb=if n∈qs then À (v n)else Ć as ds ėb
 | [],as,ds,_=>by rw[Ñ Ϣ];unfold wN;rfl|a::qs,as,ds,h=>by exact Ć ák.1 ák.2 ėb=_;rw[fZ v n qs _ _ (W1 h),ff h];by_cases c:n∈qs;rw[Ï c,Ï ϊc];rw[Ñ c];by_cases e:a=n;subst e;rw[Ï rfl,Ï ϳ];rw[Ñ ϻn,Ñ (λz=>(ĩ z).elim (λz=>e ħb) c)]
theorem z66(v:Â->D)(a:Á Â):∃K V,YO [.lst (Èc λi:Â=>ύ Ďi)]=À Ĉc/\(∀n:Â,yr K ėb=decide (n∈a))/\∀n∈a,Ć K V ėb=À (v n):=by show{Ĥk.1,Ĥk.2,?_,λn=>?_,λn b=>?_};exact(Za _).bind _=_;rw[ig];rfl;rw[KA ô,Ii];rfl;rw[fZ v n a [] [] rfl,Ï b]
def z1b:FE:=ğ
def A4:FT:=(tE (e2 IK ğ ϰa))
def DG:FE:=(wP (zC ı (Α (zg T5 ϴh))))
def EI:FS:=
 (zQ (zl 1 (eL TX (Α (wY 1 Ęc ůb A4 z1b))))
  (vY (Λc (wY 2 (tz ą) ěj xY DG))))
def JQ:Á D->É å:=FR 1 2 EI
def z8u(a:D):JQ [a]=yL 2 EI [a]:=rfl
def Mp:FS:=(zQ (yb (tE (e2 xT Ŝ ğ))
     (Υb (γb ϕk))
     xK)
    (Υb (pG (tE (e2 ZU ϟh ϰa)) ñb (e2 xN ñb (wP (Α (e2 zJ Ŕg ϟh)))))))
def Cw:FS:=
 (zQ (zl 2 (zg JQ Ïb))
  (zQ (qF 3 Ūb)
  (zQ (jK ĝj (vM 4 5)
   Mp)
  (zQ (yb (tE (e2 xT ϛb ğ))
   (Υb (wP (zC ýg (zC (e2 zJ ğ ϛb) zF))))
   xK)
  (pS 3)))))
def JI:Á D->É å:=FR 2 6 Cw
def z8d(a x1:D):JI č=yL 6 Cw č:=rfl
def Sv:FE:=(pG ϟm (kE ğ kR (kS ģd)) ğ)
def EQ:FS:=
 (zQ (zl 1 (wY 1 Ęj ůb xY Sv))
  (vY (we JI (zC ą (zC Ĳh zF)))))
def JS:Á D->É å:=FR 1 2 EQ
def z91(a:D):JS [a]=yL 2 EQ [a]:=rfl
nonrec def Yy(zG:Á ϖ):Á Â:=zG.filterMap id
def xI(n:Â)(zG:Á ϖ):Á Â:=pN ħ λi=>decide ņi
def NA{n:Â}{zG:Á ϖ}(h:∀p,À p∈zG->p<=n){p:Â}:p∈xI n zG↔À p∈zG:=by
 unfold xI Yy;rw[Xz,ăf,List.mem_filterMap]
 rw[Ĵq];rintro⟨_,a,b,e⟩;let e:a=À p:=e;show e▸b;show λz=>{ċf (h p z),À p,z,rfl}
def wx(n:Â)(zG:Á ϖ)(p:Â):Ç:=nm ùn
def nB(n:Â)(zG:Á ϖ):(Úa).length<=n+1:=by unfold xI pN;let:=Žg (λi=>decide ņi) (ϡ ħ);rw[ňq]
def y9j(n:Â)(zG:Á ϖ):(Úa).Nodup:=by unfold xI pN;show ĉm Åm ŭh
theorem N7:∀zG:Á ϖ,(ęa).filter Âo=zN ĺg
 | []=>rfl|Å::zG=>by rw[ĵ,ña Ò,N7 zG];rfl|À p::zG=>by rw[ĵ,ąa þg,N7 zG];rfl
def y39{n:Â}(v:n<=60){zG:Á ϖ}(u:źc<=900)(h:∀p,À p∈zG->p<=n) :∃K V,JQ [.lst ęa]=À (Ä,.dic K V)/\(∀p:Â,yr K Âi=decide (p∈xI n zG))/\∀p∈xI n zG,Ć K V Âi=À (.str ųf):=by
 let e1:=Tg (g:=yC 2) (c:=A4) (e:=z1b) (σ:=[À (Ã,.lst ęa),Å,Å]) Âo id (ds:=Ϣc y_) λd b=>by show{_,rfl,?_,λ_=>rfl};unfold A4;simp only[Ø]
 rw[þe,N7]at e1
 let e2:=x4m (n:=n+1) Ê (l:=Yy zG) (by
  let:(ĺg).length<=źc:=List.length_filterMap_le _ _;omega) (p:=λi=>decide ņi) λi=>by
  rw[ăf];show{λz=>{?_,z},λz=>z.2};let{a,s,e}:=Ŝl z;let e:a=À i:=e;show ċf (h i (e▸s))
 let e2:TX [.lst (zN ĺg)]=À (.lst Ďj):=e2;let{K,V,k,r,o}:=z66 (λp=>.str ųf) Úa
 let j:wA ěj xY DG Ęk (qp Ďj)=À ((Úa).map λp:Â=>ύ Óf):=by
  let:=Mu (g:=vM 2 3) (e:=DG) (σ:=Ęk) (λi=>match Úa[i]? with|À p=>ύ Óf|Å=>.zO) (ds:=qp Ďj) 0 λi d b=>by
   rw[Xx]at b;unfold zN at b;rw[ė]at b;cases hp:Úa[i]? with
   |Å=>rw[hp]at b;cases b|À p=>
    rw[hp]at b;cases b;let f:=(Ŀ hp).1;let t:=nB n zG
    let q:(Úa).idxOf p=i:=by let e:Úa[i]=p:=(Ŀ hp).2;rw[<-e];show(y9j n zG).idxOf_getElem i f
    let m:=y48 (n:=i) Ê;rw[Ϸp];rw[Ķ,hp];exact _=À (ύ [.int p,.str (nm ùn)]);rw[q];unfold DG;generalize zN Úa=PP at m ⊢;generalize Ϣc y_=TT at m ⊢;simp only[Ø,m]
  rw[this,<-ñf,kQ,Xv];show ĳ À (èc λi=>?_);rw[ė,ė];by_cases f:i<(Úa).length;rw[ác f,Đ f];exact À (match Úa[i]? with|À p=>ύ Óf|Å=>.zO)=_;rw[Đ f];rfl;rw[Öa ŉh,Öa Ê];rfl
 show{K,V,?_,r,o};rw[z8u];unfold EI;generalize (Úa).map (λp:Â=>ύ Óf)=PR at e1 e2 j k ⊢;generalize zN Úa=PP at e1 e2 j k ⊢;generalize zN ĺg=NN at e1 e2 j k ⊢;generalize Ϣc y_=TT at e1 e2 j k ⊢;simp only[Ø,e1,e2,tz,j,k]
nonrec def z3j:D->Ç->D
 |.tup xs,s=>.tup (xs++[.str s])|d,_=>d
def vj(n:Â)(zG:Á ϖ)(p:Â):Á D:=if p∈xI n zG then[xy ųf]else[]
def jJ(n:Â)(zG:Á ϖ)(r:D):É Â->D
 |Å=>r|À p=>z3j r ųf
def wp(Ă:Á D)(zG:Á ϖ):Â->Á D
 |0=>[]|i+1=>wp Ă zG i++ĉk
def kK(Ă:Á D)(zG:Á ϖ):Á D:=wp Ă zG Ċ++vj Ċ zG Ċ
def Kc(n:Â)(zG:Á ϖ)(p:Â):(Řo).length<=1:=by
 unfold vj
 split;show ĺ _;show Ź _
theorem Mt(Ă:Á D)(zG:Á ϖ):∀i,(ďd).length<=2*i
 |0=>ĺ _|i+1=>by unfold wp;rw[ì,ì,èf];let:=Mt Ă zG i;let:=Kc Ċ zG i;omega
def y1c{Ă:Á D}{zG:Á ϖ}(I:Ċ<=60)(W:źc=Ċ)(h:∀p,À p∈zG->p<=Ċ)(Q:∀i p:Â,zG[i]?=À űj->∃hd:Á D,Ă[i]?=À (ύ hd)/\hd≠[]/\Ėe<=2) :JI [.lst Ă,.lst ęa]=À (Ä,.lst Ÿf):=by
 let{K,V,e1,H,S}:=y39 I Ê h
 let C:∀p:Â,xT şc Ĉc=À (ι òl):=λp=>by exact(À (yr K Âi)).bind _=_;rw[H];rfl
 let v:∀p∈xI Ċ zG,zJ Ĉc şc=À (.str Ăd):=λp A=>S p A
 let q:∀(p:Â)(L:Á D)(f:FE)(σ:zw),σ[3]?=À ďm->σ[2]?=À (À (Ã,.dic K V))->f σ=À şc->ϩ<=900->(∀L',f (σ.set 3 L')=f σ)->yb (tE (e2 xT f ğ)) (Υb (γb (e2 zJ Ŕg f))) xK σ=À (.nx (σ.set 3 (Φa (L++vj Ċ zG p)))):=λp L f σ B F E Y _=>by
  let y:=C p;unfold vj;by_cases c:p∈xI Ċ zG;rw[Ï c];rw[ú c]at y;let m:=v p c;let l:=Xf (L:=L) (r:=xy Ăd) Ê;unfold xy at *;simp only[Ø,E,F,y,m,B,l];rw[Ñ c,Œ];rw[ď c]at y
  let e:σ.set 3 ďm=σ:=by
   show èc λj=>?_
   rw[òd];by_cases z:3=j;subst z;rw[Ï rfl,Ï (Ŀ B).1,B];rw[Ñ z]
  rw[e];simp only[Ø,E,F,y]
 let{σ',e2,o,s,rfl}:=kL (g:=vM 4 5) (b:=Mp) (λi σ=>∃(o s:É Sl),σ=[À (Ã,.lst Ă),À (Ã,.lst ęa),À (Ã,.dic K V),À (Ä,.lst ďd),o,s]) (ds:=qp Ă)
  (σ:=ëk) 0 {Å,Å,rfl} (by
  rintro i d σ hd ⟨o,s,rfl⟩;rw[Ķ]at *;rw[Xx]at hd;cases hx:Ă[i]? with
  |Å=>rw[hx]at hd;cases hd|À r=>
   rw[hx]at hd;cases hd;let U:=(Ŀ hx).1;let G:=Mt Ă zG i;let X:=Kc Ċ zG i;let O:ĺf i .zO=r:=by rw[ő,hx];rfl
   let x:zG[i]?=À zG[i]:=Đ Ê;let J:Łd i Å=zG[i]:=by rw[ő,x];rfl
   let a:zJ ži ōa=À (y_ zG[i]):=jY Ê (by rw[Ĝ,ė,x];rfl);let N:=q i ďd Ŝ Ûk rfl rfl rfl Ê Ĩd;let k:=Xf (L:=wp Ă zG i++vj Ċ zG i) (r:=jJ Ċ zG r zG[i]) īm;show{_,[À (Ã,.lst Ă),À (Ã,.lst ęa),À (Ã,.dic K V),À (Ä,.lst (wp Ă zG î)),À (Ã,.int (i:Æ)),À (Ã,r)],rfl,.inl ?_,_,_,rfl};exact Mp Ûk=À (źd [À (Ã,.lst Ă),À (Ã,.lst ęa),À (Ã,.dic K V),À (Ä,.lst (wp Ă zG i++ĉk)),À (Ã,.int (i:Æ)),À (Ã,r)]);rw[O,J,<-Š];unfold Mp;rw[tR N];exact qE 3 tN _ [À (Ã,.lst Ă),À (Ã,.lst ęa),À (Ã,.dic K V),À (Ä,.lst ħk),À (Ã,.int (i:Æ)),À (Ã,r)]=_;cases hg:zG[i]with
   |Å=>
    rw[hg]at a k;let a:zJ ži ōa=À .zO:=a;let l:tN Ŀp r=À (Β ϩk):=k;clear k;exact _=À (źd [À (Ã,.lst Ă),À (Ã,.lst ęa),À (Ã,.dic K V),À (Ä,.lst ϩk),À (Ã,.int (i:Æ)),À (Ã,r)]);generalize Ϣc y_=TT at a l ⊢;generalize wp Ă zG i++vj Ċ zG i=LL at a l ⊢;simp only[Ø,a,l]
   |À p=>
    rw[hg]at a k x;let{hd,w,T,R}:=Q i p x;rw[hx]at w;cases w;let A:p∈xI Ċ zG:=(NA h).mpr (ώ x);let m:=v p A;let z:ZU şc .zO=À ý:=rfl;let a:zJ ži ōa=À şc:=a;let n:=(Va (t := "") (u:=wx Ċ zG p) T R).2.2;let l:tN Ŀp (.tup (hd++[.str Ăd]))=À (Β ěk):=k;clear k;exact _=À (źd [À (Ã,.lst Ă),À (Ã,.lst ęa),À (Ã,.dic K V),À (Ä,.lst ěk),À (Ã,.int (i:Æ)),À (Ã,.tup hd)]);generalize wx Ċ zG p=u at a z m n l ⊢;generalize Ϣc y_=TT at a z m n l ⊢;generalize wp Ă zG i++vj Ċ zG i=LL at a z m n l ⊢;generalize ύ (hd++[.str u])=dd at a z m n l ⊢;generalize ύ hd=dh at a z m n l ⊢;simp only[Ø,a,z,m,n,l])
 rw[kQ,Ķ]at e2;let G:=Mt Ă zG Ċ;let P:=q Ċ (wp Ă zG Ċ) ϛb ãk rfl rfl rfl Ê Ĩd;rw[z8d];unfold Cw;exact((zQ _ _ [À (Ã,.lst Ă),À (Ã,.lst ęa),Å,Å,Å,Å]).bind _)=_
 rw[tR (σ':=[À (Ã,.lst Ă),À (Ã,.lst ęa),À (Ã,.dic K V),Å,Å,Å]) (by generalize Ϣc y_=TT at e1 ⊢;rw[śq])]
 rw[tR (σ':=ëk) ém]
 rw[tR (σ':=ãk) (by generalize Ϣc y_=TT at e2 ⊢;simp only[Ø,tz,e2])]
 rw[tR P];rfl
def yz(r:D):D:=match xH r with
 |Ä=>match r with
  |.tup xs=>.tup Īi|d=>d
 |Ã=>r
def xA(z6:Á D):Á ϖ:=(Õ).map (yY z6)
def qt(z6:Á D):Á D:=kK Ęa ſ
def Ek{d:D}(h:ym d)(e:xH d=Ä):∃hd:Á D,yz d=.tup hd/\hd≠[]/\Ėe<=2/\MR d Å Ϟo=À (.tup hd)/\∀u,ym ĉb:=by let{hd,t,a,b,c,_,g,_}:=YX h e;let{f,_,_}:=Va (t:=t) (u:=t) b c;show{hd,?_,b,c,by rw[a];show f,λu=>(g u).1};unfold yz;rw[e];subst a;exact ύ (Žn).dropLast=_;rw[ád]
theorem z09{z6:Á D}{r:D}{p:Â}(h:yY z6 r=À p):p<=(Õ).length:=by
 unfold yY at h
 rw[Éq];let:=NE Ík z6 (0,Å) ãa p h;rw[BK]at this;exact p<=(ϓm).length;omega;cases h
def nC{z6:Á D}(P:PC z6)(m:(Õ).length<=60):JS ŧ=À (Ä,.lst Ŭb)/\∀d∈qt z6,ym d:=by
 let k:uO ŧ=À (Ä,.lst Õ):=Ym ũ;let w:=D3 P
 let e1:=Zc (g:=yC 2) (e:=Sv) (σ:=žb) yz (ds:=zB z6) λd a=>by
  let c:=ũ d (Įa a).1;let f:=KF c;rw[Ϸp];unfold Sv;cases z:xH d with
  |Ã=>
   rw[z]at f;let e:yz d=d:=by unfold yz;rw[z]
   rw[e];simp only[Ø,f]
  |Ä=>rw[z]at f;let{s,l,_,_,E,_}:=Ek c z;rw[l];simp only[Ø,f,kE,kS,kR,E]
 let u:(Ęa).length=(Õ).length:=ã _
 let o:∀i p,ſ[i]?=À űj->∃r,Õ[i]?=À r/\yY z6 r=À p/\ym r/\xH r=Ä:=λi p h=>by
  unfold xA at h;rw[ė]at h;cases e:Õ[i]? with
  |Å=>rw[e]at h;cases h|À r=>
   rw[e]at h;let h:À Ţc=À űj:=h;injection h with h
   show{r,e,h,ũ r (Įa ūj).1,?_};cases z:xH r with
   |Ä=>rfl|Ã=>unfold yY at h;rw[z]at h;cases h
 let v:∀p,À p∈xA z6->p<=(Ęa).length:=λp q=>by rw[u];let{r,_,e}:=Èa q;show z09 e
 have b:=y1c (Ă:=(Õ).map yz) (zG:=xA z6) Ê (by unfold xA;rw[ã,u]) v (λi p h=>by let{r,e,_,c,f}:=o i p h;let{a,l,F,C,_}:=Ek c f;show{a,by rw[ė,e,<-l];rfl,F,C})
 let j:g6 ŧ=À (Ä,.lst ((ſ).map y_)):=by rw[w];unfold xA;rw[ϰ];rfl
 clear w;show{?_,?_};rw[z91];unfold EQ qt;generalize kK Ęa ſ=LL at k e1 j b ⊢;generalize (ſ).map y_=TT at k e1 j b ⊢;generalize (Õ).map yz=BB at k e1 j b ⊢;generalize zB z6=RR at k e1 j b ⊢;simp only[Ø,k,e1,j,b];let x:∀n p,∀d∈vj n ſ p,ym d:=λn p d a=>by
  unfold vj at a
  rw[Åq];cases Ĵ a;show .label _;cases a
 let B:∀i,i<=(Õ).length->∀d∈wp Ęa ſ i,ym d:=λi=>by
  induction i with
  |ŏ=>show λ_ d a=>by cases a|ş i ih=>
   intro G d a;unfold wp at a;rcases Ÿ a with a|a;show ih Ê d a;rcases Ÿ a with a|a;show x _ _ d a;cases Ĵ a;let m:Õ[i]?=À Õ[i]:=Đ Ê;let t:=(Įa (ώ m)).1;let e1:(Ęa).getD i .zO=yz Õ[i]:=by rw[ő,ė,m];rfl
   let e2:(ſ).getD i Å=yY z6 Õ[i]:=by unfold xA;rw[ő,ė,m];rfl
   rw[e1,e2];generalize Õ[i]=r at t;let c:=ũ r t;cases z:xH r with
   |Ã=>
    let b:yY z6 r=Å:=by unfold yY;rw[z]
    let A:yz r=r:=by unfold yz;rw[z]
    rw[b,A];show c
   |Ä=>have:=(UC P t).1;rw[z]at this;let{p,q}:=ĺb this;let{s,l,_,_,_,y}:=Ek c z;rw[q,l];show y _
 intro d a;unfold qt kK at a;rcases Ÿ a with a|a;show B _ (by rw[u];show ĺ _) d a;show x _ _ d a
nonrec def Mw:D->Ð
 |.int _=>Ä|.str _=>Ä|_=>Ã
def y1t{x y:D}(d:Mw x=Ä)(c:Mw y=Ä):vw 4 x y=Ä/\Ńh:=by
 cases x<;>first|(cases d;done)|skip
 all_goals (cases y<;>first|(cases c;done)|skip)
 rename_i a b;show{rfl,?_};rw[show xf Ĳj ıj=όe from rfl,Ŵc];rw[Øq];rw[şq];rw[şq];rename_i a b;show{rfl,?_};rw[show xf ăg Ĭj=όe from rfl,Ŵc];rw[Øq]
theorem GI{p:D->Ð}{f:D->D->Ð}(h:∀x y,p x=Ä->p y=Ä->f x y=Ä/\Ńh):∀{xs ys:Á D},(∀x∈xs,p x=Ä)->(∀y∈ys,p y=Ä)->pC f xs ys=Ä/\(Ϙa xs ys=Ä↔xs=ys)
 | [],[],_,_=>{rfl,{λ_=>rfl,λ_=>rfl}}| [],_::_,_,_=>{rfl,{λh=>(Īg).elim,nofun}}|_::_,[],_,_=>{rfl,{λh=>(Īg).elim,nofun}}|x::xs,y::ys,hx,hy=>by let{b,d}:=h x y (hx x ϳ) (hy y ϳ);let{g,c}:=GI h (xs:=xs) (ys:=ys) (λz a=>hx z čc) (λz a=>hy z čc);show{?_,?_};exact ĭh=Ä;rw[b,g];rfl;rw[show Ϙa όa (y::ys)=Ĝh from rfl,Ď,d,c];show{λ⟨e1,e2⟩=>by rw[e1,e2],λe=>by injection e with e1 e2;show{e1,e2}}
def Tz:D->Ð
 |.tup xs=>Ťd Mw|_=>Ã
def x1j{x y:D}(e:Tz x=Ä)(d:Tz y=Ä):vw 5 x y=Ä/\Ńh:=by
 cases x<;>first|(cases e;done)|skip
 cases y<;>first|(cases d;done)|skip
 rename_i c g;let{a,b}:=GI (p:=Mw) (f:=vw 4) (λx y=>y1t) (âa e) (âa d);show{a,?_};rw[show xf īj (.tup g)=Ϙa c g from rfl,b];rw[Øq]
def x1o{xs ys:Á D}(e:∀x∈xs,Tz x=Ä)(d:∀y∈ys,Tz y=Ä)[Ěe İg]:YQ Ϩ Ğa=À (decide İg):=by
 let{a,b}:=GI (p:=Tz) (f:=vw 5) (λx y=>x1j) e d;exact(match vw 6 Ϩ Ğa with|Ä=>À Ïo|Ã=>Å)=_;rw[show vw 6 Ϩ Ğa=Ä from a];exact À Ïo=_;rw[show xf Ϩ Ğa=Ϙa xs ys from rfl];by_cases c:xs=ys;rw[ú c,b.mpr c];rw[ď c];cases z:Ϙa xs ys with
 |Ã=>rfl|Ä=>show Þ (b.mp z) c
def iK{d:D}(h:ym d):Tz d=Ä:=by
 cases h with
 |ía u=>rfl|Ϭ h=>cases h<;>rfl|w8 u=>rfl|Ť u hw hk=>rfl
def y0a{xs ys:Á D}(b:∀x∈xs,ym x)(a:∀y∈ys,ym y)[Ěe İg]:vL Ϩ Ğa=À (ν İg):=by unfold vL;rw[x1o (λx h=>iK (b x h)) (λy h=>iK (a y h))];rfl
def y5z{z6:Á D}(h:∀d∈z6,ym d):qq 6 æj=Ä:=âd λd a=>(Mi (h d a)).choose_spec.2.2
def t7:FS:=(yb (tE (e2 vL ğ Ūb))
     (yc ğ)
     xK)
def Co:FS:=
 (zQ (gJ 1 źg)
  (vY Ūb))
def JF:Á D->É å:=FR 1 3 Co
def z85(a:D):JF [a]=yL 3 Co [a]:=rfl
nonrec def jd:Á Ŕa->Á Â
 | []=>[]|l::ls=>if l.isEmpty=Ä then jd ls else l
nonrec def SV:É å->Á Â
 |À (_,.lst ds)=>ųe λd=>match d with
  |.int i=>Ŕd|_=>0
 |_=>[]
theorem D6(o:Ð)(R:Á Â):SV (À (o,.lst Ůd))=R:=by exact(Ůd).map _=R;rw[œq];rw[ϰ];show List.map_id'' (λi=>Ĝ i) R
def Te(z6:Á D)(R T:Á Â)(n:Â):Á Ŕa:=[pN n λi=>!decide Ķg,pN n ϋj,pN n λi=>pE ϧ,pN n Üj]
def kf(a:Á D):Á Â:=jd (Te a (SV (V0 Ćj)) (SV (W_ Ćj)) (Ϫc).length)
theorem fL:∀{ls:Á Ŕa} {n:Â},(∀l∈ls,∀i∈l,i<n)->∀i∈jd ls,i<n
 | [],_,_,_,h=>by cases h|l::ls,n,h,i,hi=>by
  unfold jd at hi
  split at hi;show fL (λl a=>h l čc) i hi;show h l ϳ i hi
def x0a{a:Á D}:∀i∈kf a,i<(Ϫc).length:=fL λl b i c=>by unfold Te at b;rw[Êq];rcases b with rfl|rfl|rfl|rfl<;>show(Xz.mp c).1
def y3a(Y:Á Â):(Ÿe).isEmpty=Āp:=by cases Y<;>rfl
theorem mT{z6:Á D}:∀(ps:Á (ûd×Á Â)) (x2:É Sl),(∀p∈ps,p.1 ŧ=À (Ä,.lst (zN p.2)))->
  ((jd (ϋ (·.2))=[]/\∃y2,gJ 1 ŵk ϖd=À (.nx [À (Ã,.lst z6),Å,y2])) \/
  gJ 1 ŵk ϖd=À (.rt Ã (.lst (zN (jd (ϋ (·.2)))))))
 | [],x2,_=>.inl {rfl,x2,rfl}|(F,Y)::ps,x2,h=>by
  let b:F ŧ=À (Ä,.lst Ÿe):=h (F,Y) ϳ;let a:=B3 Ÿe;rw[y3a]at a;rw[ĵ,ĵ];exact(jd (Y::ϋ (·.2))=[]/\∃y2,(Ön).bind _=_)\/(Ön).bind _=_;unfold jd;cases e:Āp with
  |Ä=>
   rw[e]at a
   let s:zQ ëh t7 ϖd=À (.nx [À (Ã,.lst z6),Å,À (Ã,.lst Ÿe)]):=by rw[ùq]
   rw[s,Ï rfl];show mT ps _ λp c=>h p ϊc
  |Ã=>
   rw[e]at a;show .inr ?_
   let s:zQ ëh t7 ϖd=À (.rt Ã (Β Ÿe)):=by rw[ùq]
   rw[s,Ñ ġ];rfl
def z9v{z6:Á D}(P:PC z6)(k:(Õ).length<=60):∃o,JF ŧ=À (o,.lst (zN (kf z6))):=by
 let{R,_,_,d}:=oi P k;let{T,n,c}:=B4 P;let l:=y4b P d;let j:=x75 P;let q:=z5n P;let g:=y4a P n.len c
 let m:kf z6=jd éh:=by unfold kf;rw[d,c,D6,D6]
 rw[m]
 let f:=mT (z6:=z6) [(XW,pN (Õ).length λi=>!decide Ķg),(XX,pN (Õ).length ϋj),(XR,pN (Õ).length λi=>pE ϧ),(XV,pN (Õ).length Üj)] Å λp b=>by rw[Êq];rcases b with rfl|rfl|rfl|rfl;show l;show j;show q;show g
 rw[z85];unfold Co;rcases f with⟨a,h,e⟩|e;let a:jd éh=[]:=a;rw[a];show{Ä,?_};let e:gJ 1 źg žb=À (.nx [À (Ã,.lst z6),Å,h]):=e;exact((zQ _ _ žb).bind _)=_;rw[tR e];rfl;show{Ã,?_};exact(((gJ 1 _ žb).bind _).bind _)=_;let e:gJ 1 źg žb=À (.rt Ã (Β (zN (jd éh)))):=e;rw[e];rfl
theorem iV(a:Á Â):∀(L:Á D)(s:Â×Á D),ϲh.2.filter zj=s.2.filter zj++řb zj
 | [],s=>by rw[Ād,Œ];rfl|d::L,s=>by
  rw[Êa,iV a L];unfold vX;cases hl:zj d with
  |Ä=>exact(ϴo).filter zj++_=_;rw[İa,ąa hl,ąa hl,Ād,Š];rfl|Ã=>
   exact(ϰg).filter zj++_=_;rw[ña æc]
   split;rfl;rw[İa,ña æc,Ād,Œ]
theorem KN(f:Á Â):∀(L:Á D)(s:Â×Á D),(ũl).length<=(zB s.2).length+(ľa).length/\((∃q∈f,s.1<=q/\q<s.1+(ľa).length)->(ũl).length<(zB s.2).length+(ľa).length)
 | [],s=>{ĺ _,λ⟨q,_,i,j⟩=>by let:(zB []).length=0:=rfl;omega}|d::L,s=>by
  rw[Êa];let{a,b}:=KN f L (vX f s d)
  let e:(zB (d::L)).length=ìl+(ľa).length:=by
   unfold zB;cases hl:zj d with
   |Ä=>rw[ña æc];simp|Ã=>rw[ąa Ϣh,Ĉ];simp;omega
  rw[e]
  let g:∀x:Á D,(zB (x++[d])).length=(zB x).length+ìl:=λx=>by
   unfold zB;rw[İa,ì];cases hl:zj d with
   |Ä=>rw[ña æc];rfl|Ã=>rw[ąa Ϣh];rfl
  cases hl:zj d with
  |Ä=>
   let k:vX f s d=(s.1,s.2++[d]):=by unfold vX;rw[hl]
   rw[k]at a b ⊢;let o:=g s.2;rw[hl,Ï rfl]at o;rw[o]at a b;rw[Ï rfl];rw[Őq];let:=b {q,h,i,by exact q<s.1+_;omega};omega
  |Ã=>
   let o:=g s.2;rw[hl,Ñ ġ]at o;rw[Ñ ġ];by_cases c:s.1∈f;let k:vX f s d=(s.1+1,s.2):=by rw[ãq];rw[Ï c]
   rw[k]at a b ⊢;dsimp only at a b ⊢;refine{by omega,λ_=>by omega};let k:vX f s d=(s.1+1,s.2++[d]):=by rw[ãq];rw[Ñ c]
   rw[k]at a b ⊢;rw[o]at a b;rw[Őq];let l:s.1≠q:=λz=>c (z▸h)
   let:=b {q,h,by exact s.1+1<=q;omega,by exact q<s.1+1+_;omega};omega
theorem KM:∀(L:Á D)(s:Â×Á D),(Ĭd (vX []) s).2=s.2++L
 | [],s=>by rw[Œ];rfl|d::L,s=>by
  rw[Êa,KM L]
  let:(vX [] s d).2=s.2++[d]:=by
   unfold vX;cases zj d with
   |Ä=>rfl|Ã=>exact(if s.1∈([]:Á Â)then s.2 else s.2++[d])=_;rw[Ñ Ϣ]
  rw[this,Š];rfl
def y0m{L:Á D}(P:PC L)(a:Á Â):PC Ńd.2:=by
 let c:∀x∈Ńd.2,x∈L:=λx l=>by rcases iW a L (0,[]) x l with h|h;cases h;show h
 let f:Ńd.2.filter zj=řb zj:=iV a L (0,[]);refine{λd b=>ũ d (c d b),by rw[f];show Äd,λd b i=>?_,?_};let{t,p,e1,e2}:=Ãd d (c d b) i;let k:=x4g ũ e2
 let g:xy t∈Ńd.2:=by let:xy t∈řb zj:=ϯd {k,rfl};rw[<-f]at this;show(Įa this).1
 let{q,j}:=ĺb (NH (0,Å) (.inl g));show{t,q,e1,j};let:=KL a L (0,[]);let e:Ńd.2.length<=0+ϩ:=this;let:=Òc;omega
nonrec def xq(z6:Á D):Á D:=ϑj Ťe
nonrec def tS(z6:Á D):Á D:=(uE ög Ŧb).2
def Iz{z6:Á D}(P:PC z6):(zB Ŧb).length=(Õ).length:=by unfold xq;rw[ϐe.2.2,ã]
theorem Bt{z6:Á D}(P:PC z6):PC ťe/\(zB ťe).length<=(Õ).length:=by let a:PC Ŧb:=ϐe.1;show{y0m a _,?_};let:=(KN ög Ŧb (0,[])).1;let e:(zB ťe).length<=0+(zB Ŧb).length:=this;rw[Iz P]at e;omega
inductive Xe:Â->Á D->Á D->È
 |fin {a:Á D}:tS a=a->Xe 0 a a
 |go {a b:Á D} {k:Â}:tS a≠a->Xe k Ϲj b->Xe Ň a b
theorem sU:∀(n:Â){a:Á D},PC a->(Ϫc).length<=n->∃k b,k<=n+1/\Xe k a b
 |n,a,P,hn=>by
  by_cases c:tS a=a;show{0,a,Ź _,.fin c};by_cases q:kf ϫc=[];let e:tS a=xq a:=by unfold tS uE;rw[q,KM];rfl
  let i:PC ϫc:=ϐe.1;let e2:xq ϫc=xq a:=y1v P
  let g:tS ϫc=xq a:=by unfold tS uE;rw[e2,q,KM];rfl
  show{1,xq a,by omega,.go c (by rw[e];show .fin g)};let{x,f}:=List.exists_mem_of_ne_nil _ q;let lt:=x0a x f;let d:=(KN (kf ϫc) ϫc (0,[])).2 {x,f,Ź _,by exact x<0+_;omega};let d:(zB Ϲj).length<0+(zB ϫc).length:=d;rw[Iz P]at d
  match n,hn with
  |0,hn=>omega|n+1,hn=>let{k,b,h,S}:=sU n (Bt P).1 Ê;show{k+1,b,by omega,.go c S}
def Ms:FS:=(zQ (zl 1 ğ)
    (zQ (zl 3 (we T4 Ïb))
    (zl 2 (zg T8 (zC ı (Α (zg JF œo)))))))
def IB:FT:=(tE (e2 IJ ğ ą))
def EV:FS:=
 (zQ (zl 1 ϰa)
  (zQ (zl 2 þ)
  (zQ (Zn IB
   Ms)
  (vY (we JS ŉb)))))
def V1:Á D->É å:=FR 1 4 EV
def z96(a:D):V1 [a]=yL 4 EV [a]:=rfl
def sE{i0:D}{z6:Á D}{x1 x3:É Sl}(P:PC z6)(c:(Õ).length<=60):∃y3,Ms [À (Ã,i0),x1,À (Ã,.lst z6),x3]=À (.nx [À (Ã,i0),À (Ã,.lst z6),À (Ã,.lst ťe),y3]):=by let e1:T4 ŧ=À (Ä,.lst Ŧb):=y1w P;let b:PC Ŧb:=ϐe.1;let{o,e2}:=z9v b (by rw[Iz P];show c);let a:T8 [.lst Ŧb,.lst (zN ög)]=À (Ä,.lst ťe):=w0w b.it b.ln _;show{À (Ã,.lst Ŧb),?_};unfold Ms;generalize zN ög=QQ at e1 e2 a ⊢;generalize tS z6=SS at e1 e2 a ⊢;generalize xq z6=LL at e1 e2 a ⊢;simp only[Ø,e1,e2,a]
theorem x3y{i0:D}:∀{k:Â}{a b:Á D},Xe k a b->PC a->(Ϫc).length<=60->∀(x1:D)(x3:É Sl),IJ Ōd x1=À İ->∃y3,uw IB Ms (k+2) [À (Ã,i0),À (Ã,x1),À (Ã,.lst a),x3]=À (.nx [À (Ã,i0),À (Ã,.lst b),À (Ã,.lst b),y3]):=λ{k}=>by
 induction k with
 |ŏ=>
  intro a b S P d x1 x3 c;cases S with
  |fin h=>let{y3,e}:=sE (i0:=i0) (x1:=À (Ã,x1)) (x3:=x3) P d;rw[h]at e;show{y3,?_};let q:IJ Ōd Ōd=À ý:=lU (y5z ũ);rw[QT Ϯk e,UH (by unfold IB;simp only[Ø,q])]
 |ş k ih=>
  intro a b S P d x1 x3 c;cases S with
  |go h S=>
   let{y3,e}:=sE (i0:=i0) (x1:=À (Ã,x1)) (x3:=x3) P d;let{f,g}:=Bt P
   let q:IJ (Β Ϲj) Ōd=À İ:=by
    haveI:=Classical.propDecidable (tS a=a)
    exact vL _ _=_;rw[y0a f.it ũ,ď h];rfl
   rw[QT Ϯk e];show ih S f Ê Ōd y3 q
def sT{k:Â}{a b:Á D}(S:Xe k a b):PC a->PC b/\(zB b).length<=(Ϫc).length:=by
 induction S with
 |fin _=>show λP=>{P,ĺ _}|go _ _ ih=>intro P;let{e,f}:=Bt P;let{d,c}:=ih e;show{d,ÿ c f}
def x3x{k:Â}{a b:Á D}(S:Xe k a b)(P:PC a)(d:(Ϫc).length<=60)(hk:k<=100):V1 Ćj=À (Ä,.lst (qt b)):=by let{f,g}:=sT S P;let{c,_}:=nC f Ê;let{h,e}:=x3y (i0:=.lst a) S P d .zO Å rfl;let e2:=U0 _ e (ÿ (show k+2<=102 by omega) Ò);rw[z96];unfold EV;generalize qt b=BB at e2 c ⊢;simp only[Ø,e2,c]
def z1a:FE:=(e2 zJ Ůb Ŋ)
def A3:FT:=(tE (e2 zh (e2 zJ Ůb ī) ýg))
def oY:FA:=(qm ī ϛb)
def Vc:FS:=(zQ (zl 6 (zg uC (Υ (Α (e2 xN Ŕg ñb)))))
    (yb (Z1 (tE (e2 zh (e2 zJ ân ī) ýg)) (Z1 (tE (e2 Ļc Ϡh Ϛa)) (tE (e2 zh ı Ūb))))
     (qE 4 tN ân)
     (yb (tE (e2 zh Ϡh Ϛa))
       (qE 4 tN (wP (zC ňd (Α (e2 zJ ı (e2 xE (e2 vK ŝa Ńb) (eL vy œo)))))))
       (qE 4 tN (wP (zC ůi (zC íl (Α íl))))))))
def EA:FS:=
 (zQ (zl 3 (wY 1 Ęc (yC 7) A3 z1a))
  (zQ ϵo
  (zQ (jK oY ŕg
   Vc)
  Àk)))
def JN:Á D->É å:=FR 3 7 EA
def z8n(b x1 a:D):JN ϴ=yL 7 EA ϴ:=rfl
inductive Vr(ns:Á Ç)(d:D):D->È
 |same:Vr ns d d
 |w8 {t:Ç}:zj d=Ã->t∈ns->Vr ns d Øc
 |copy {y:D}:zj d=Ã->gz y->Vr ns d y
nonrec def vE(I:Á D)(s:D)(N L:Á D)(a x6:É Sl):zw:=[À (Ã,.lst I),À (Ã,s),À (Ã,.int 46),À (Ã,.lst N),À (Ä,.lst L),a,x6]
theorem w0b{I N L:Á D}{s d:D}{i m:Æ}{w:Ç}{x6:É Sl}{e f:Ð}(h:uC ϔh=À (Ã,.int m))(g:zJ İj ϵ=À d)(a:zJ d ů=À Ř)(c:zh Ř ŀc=À (.bl e))(k:zh įj Đc=À (.bl f))(l:ϩ<=1000)(j:(e||(decide ĵg||f))=Ä):Vc Ým=À (.nx (vE I s N ϳb Ϥd ŀh)):=by
 let b:=Xf (r:=d) l;unfold Vc vE;cases e with
 |Ä=>simp only[Ø,Ãa,h,g,a,c,b]|Ã=>
  cases k2:decide ĵg with
  |Ä=>simp only[Ø,Ãa,h,g,a,c,k2,b]|Ã=>
   rw[k2]at j;cases f with
   |Ä=>simp only[Ø,Ãa,h,g,a,c,k2,k,b]|Ã=>cases j
def w0a{I N L:Á D}{s d t:D}{i m:Æ}{w:Ç}{x6:É Sl}(k:uC ϔh=À (Ã,.int m))(h:zJ İj ϵ=À d)(a:zJ d ů=À Ř)(g:zh Ř ŀc=À ý)(e:zh įj Đc=À ý)(j:ϩ<=1000)(f:decide ĵg=Ã)(l:decide ϕn=Ä)(it:zJ įj (Ζ (m/4%(ŕ:Æ)))=À t):Vc Ým=À (.nx (vE I s N (L++[bif decide (m%4=2)then .tup ϳn else .tup Ŵk]) Ϥd ŀh)):=by unfold Vc vE;by_cases h4:m%4=2;let c:=iA h4;rw[ú h4];let b:=Xf (r:=.tup ϳn) j;simp only[Ø,Ãa,k,h,a,g,f,e,c,l,it,b,Ϣi];let c:=iB h4;rw[ď h4];let b:=Xf (r:=.tup Ŵk) j;simp only[Ø,Ãa,k,h,a,g,f,e,c,b,ţi]
theorem w0c{I L:Á D}{ns:Á Ç}{s d:D}{i m:Æ}{x6:É Sl}(h:ym d)(p:uC ϔh=À (Ã,.int m))(l:zJ İj ϵ=À d)(n:ϩ<=1000):∃y,Vr ns d y/\Vc (vE I s Ϩb L Ϥd x6)=À (.nx (vE I s Ϩb (L++[y]) Ϥd ŀh)):=by
 let{w,a,f,_}:=Mi h;let b:zh (Β Ϩb) Đc=À (.bl (Ϩb).isEmpty):=by cases ns<;>rfl
 cases hb:zj d||(decide ĵg||(Ϥ ϫ).isEmpty)with
 |Ä=>show{d,.same,w0b p l a f b n hb}|Ã=>
  let{c,g}:=ïh hb;let{g,o}:=ïh g;rw[c]at f;rw[o]at b
  let j:0<(Ϩb).length:=by
   cases ns with
   |nil=>cases o|ð _ _=>show Nat.zero_lt_succ _
  let q:=Łb (m/4) (Ŗf ôh)
  let k:(m/4%((Ϩb).length:Æ)).toNat<ţ:=by let:=Ľb (m/4) ôh;rw[ã]at *;omega
  let e:=w0a p l a f b n g (ú ôh) (jY q (by rw[ė,Đ k];rfl)) (x6:=x6);show{_,?_,e};cases decide (m%4=2)with
  |Ä=>show .w8 c (ϐb k)|Ã=>show .copy c (.two Ţ Ê Ê Ê Ê)
def w08{ns:Á Ç}{xs ys:Á D}(h:XN (Vr ns) xs ys):ys.filter zj=xs.filter zj/\∀t s,ys.foldl że s=xs.foldl że s:=by
 induction h with
 |nil=>show{rfl,λ_ _=>rfl}|@cons x y _ _ r _ ih=>
  let k:y=x\/(zj x=Ã/\zj y=Ã):=by
   cases r with
   |same=>show .inl rfl|w8 h _=>show .inr {h,rfl}|copy h p=>show .inr {h,(BY (m:=0) (.inl p)).choose_spec.2.2.1}
  rcases k with rfl|⟨hl,hy⟩;show{by rw[ěf,ěf,ih.1],λt s=>by rw[Êa,Êa,ih.2]};refine{by rw[ña (by rw[hy];decide),ña æc,ih.1],λu s=>?_};rw[Êa,Êa,ih.2]
  congr 1
  unfold ud;rw[hl,hy]
theorem w09:∀{L:Á D},(∀d∈L,ym d)->∃ns:Á Ç,(řb zj).map Ťk=Ϥ ϫ/\∀t∈ns,xy t∈L:=λ{L}=>by
 induction L with
 |nil=>show λ_=>{[],rfl,λ_ h=>(şe).elim}|ð d L ih=>
  intro h;let{ns,b,c}:=ih λx f=>h x œp
  cases hl:zj d with
  |Ã=>show{ns,by rw[ña æc,b],λt g=>Ų _ (c t g)}|Ä=>let{t,rfl}:=Mj (h d ϳ) hl;show⟨t::ns,by rw[ąa hl,ĵ,b];rfl,λu a=>(ĩ a).elim (λe=>e▸Ġ ..) λa=>Ų _ (c u a)⟩
def w07{z6:Á D}(P:PC z6)(Q:źa<=40){s:D}(U:∀i:Â,i<41->∃m:Æ,0<=m/\uC [s,.int ío]=À (Ã,.int m)):∃ϛj,PC ϛj/\items'.length=źa/\JN [.lst z6,s,.int 46]=À (Ä,.lst ϛj):=by
 let{ns,e1,E}:=w09 ũ
 let e1:=(Tg (g:=yC 7) (c:=A3) (e:=z1a) (σ:=[À (Ã,.lst z6),À (Ã,s),À (Ã,.int 46),Å,Å,Å,Å,Å]) zj Ťk (ds:=z6) λd o=>by let{w,a,b,_}:=Mi ıp;show{_,rfl,?_,λR=>?_};unfold A3;rw[ņq];let{t,rfl}:=Mj ıp R;rfl).trans (ĳ À e1)
 let H:oY (vE z6 s Ϩb [] Å Å)=À (wq źa):=kj (n:=(źa:Æ)) rfl Ê
 let{σ',e2,L,B,x6,q,u,rfl}:=kL (g:=yC 5) (b:=Vc) (λi σ=>∃L B x6,ϩ=i/\(∀j x y,z6[j]?=À x->L[j]?=À y->Vr ns x y)/\σ=vE z6 s Ϩb L B x6) (ds:=wq źa) (σ:=vE z6 s Ϩb [] Å Å) 0 {[],Å,Å,rfl,(λ_ _ _ _ h=>by cases(List.getElem?_nil▸h)),rfl} (by
  rintro i v σ N ⟨L,B,x6,q,u,rfl⟩;let{F,rfl}:=UD N;rw[Ķ]at *;let{m,_,J}:=U i Ê;let G:=Đ F;let{y,K,S}:=w0c (ns:=ns) (x6:=x6) (ũ _ (ϐb F)) J (jY (ĸb i) G) (L:=L) Ê;refine{_,_,rfl,.inl S,L++[y],_,_,by rw[ì,q];rfl,λj x z f l=>?_,rfl};rw[List.getElem?_append]at l
  split at l;show u j x z f l;rw[łq]
  obtain⟨e,rfl⟩:j-ϩ=0/\y=z:=by
   cases k:j-ϩ with
   |ŏ=>rw[k]at l;cases l;show{rfl,rfl}|ş _=>rw[k]at l;cases l
  obtain rfl:j=i:=by omega
  rw[G]at f;cases f;show K)
 rw[UE,Ķ]at q;let A:=eZ q.symm u;let{T,r}:=w08 A;let r:∀t,xJ t L=xJ t z6:=λt=>r t _
 show{L,{λd o=>?_,by rw[T];show Äd,λd o C=>?_,by let:=Òc;omega},q,?_};let{x,f,h}:=MM A d o;cases h with
 |same=>show ũ _ f|w8=>show .w8 _|copy _ h=>show .plain h
 let{x,f,h}:=MM A d o;cases h with
 |same=>let{t,p,O,W}:=Ãd _ f C;show{t,p,O,(ũn).trans W}
 |@w8 t _ ht=>let{p,I}:=ĺb (NH (L:=z6) (0,Å) (.inl (E t ht)));show{t,p,rfl,(ũn).trans I}
 |copy _ h=>rw[(Zk h).choose_spec.2.2.2.1]at C;cases C
 rw[z8n];unfold EA;unfold vE at *;generalize Ϥ ϫ=NN at e1 H e2 ⊢;simp only[Ø,e1,H,e2]
theorem ME(a b:Ç):(ύe).cps.toList=ϩn++Ϩn:=âc
def y47{a b:Â}(j:a<702)(i:b<702)(h:nm a=nm b):a=b:=by
 let c:=ĳ Ĝn h;let d:∀x:Â,(lt (x:Æ)).cps.toList=[97+x]:=λ_=>rfl
 let e:(("" : Ç)).cps.toList=[]:=rfl;unfold nm at c;by_cases ca:a<26;by_cases cb:b<26;simp only[Ï ca,Ï cb,ME,d,e,Œ,Óe]at c;omega;simp only[Ï ca,Ñ cb,ME,d,e,Œ,ńb,ìc,Óe]at c;show Þ c.2 ĉa;by_cases cb:b<26;simp only[Ñ ca,Ï cb,ME,d,e,Œ,ńb,ìc,Óe]at c;show Þ c.2 ĉa;simp only[Ñ ca,Ñ cb,ME,d,e,Œ,ńb,ìc,Óe]at c;let g:0<a/26:=ķi (ęf ca) Ò;let f:0<b/26:=ķi (ęf cb) Ò;let e1:=Ġh c.1;let e2:=Ġh c.2.1;rw[<-ϸm a 26,<-ϸm b 26,e2,<-êd g,<-êd f,e1]
section
variable{n:Â}{zG:Á ϖ}
def lg(k:n<=60){p q:Â}(f:p∈xI n zG)(c:q∈xI n zG)(h:wx n zG p=wx n zG q):p=q:=by
 let j:=nB n zG;let a:=ál f;let b:=ál c;let e:=y47 Ê Ê h;let d:Úa[(Úa).idxOf p]=p:=ćm a;let g:Úa[(Úa).idxOf q]=q:=ćm b;rw[<-d,<-g]
 show ĳ (λi=>(Úa).getD i 0) e |> λz=>by rw[ő,ő,Đ a,Đ b]at z;show z
#print a
structure Xa(Ă:Á D)(zG:Á ϖ):È where
 z2o:Ċ<=60
 ln:źc=Ċ
 le:∀p,À p∈zG->p<=Ċ
 nl:∀i,i<Ċ->zj (jJ Ċ zG ķo (Łd i Å))=Ã
section
variable{Ă:Á D}{zG:Á ϖ}
def Kd{n p:Â}:∀d∈vj n zG p,zj d=Ä:=λd a=>by
 unfold vj at a
 rw[Åq];cases Ĵ a;rfl;cases a
def iq{n p:Â}:zB Řo=[]:=List.filter_eq_nil_iff.mpr λd a=>by
 rw[Kd d a]
 decide
def Np(a b:Á D):zB ύe=zB a++zB b:=İa ..
theorem BZ(Y:Xa Ă zG):∀i,i<=Ċ->zB ďd=(ϡ i).map λj=>jJ Ċ zG Ķo ĵo
 |0,_=>rfl|i+1,h=>by
  unfold wp;rw[Np,Np,BZ Y i Ê,iq,ìc,Ĥf,Ċa]
  congr 1
  exact Ĝo _ [_]=_;rw[ąa (by rw[Y.nl i Ê];rfl)];rfl
def x1n(Y:Xa Ă zG):zB Ÿf=(ϡ Ċ).map λj=>jJ Ċ zG Ķo ĵo:=by unfold kK;rw[Np,BZ Y _ Ē,iq,Œ]
theorem iw(Y:Xa Ă zG):∀i,i<=Ċ->(ďd).filter zj=(Ωd (ϡ i)).map λp=>xy Ăd
 |0,_=>rfl|i+1,h=>by
  unfold wp;rw[İa,İa,iw Y i Ê,Ĥf,İa,Ċa]
  congr 1
  rw[ña (by rw[Y.nl i Ê];decide),Ād,Œ,îh Kd];rw[Şq];rw[Ĺq]
def y1e(Y:Xa Ă zG):(Ÿf).filter zj=(Ωd (ϡ (Ċ+1))).map λp=>xy Ăd:=by
 unfold kK;rw[İa,iw Y _ Ē,Ĥf,İa,Ċa]
 congr 1
 rw[îh Kd];unfold vj;by_cases c:Ċ∈xI Ċ zG;rw[Ĺq]
def nE(Y:Xa Ă zG){q:Â}(a:q∈xI Ċ zG)(L:Á D)(i:Â)(hi:(ľa).length=i)(h:(xJ ňf L).2=if q<i then À q else Å):(xJ ňf (L++vj Ċ zG i)).2=if q<i+1 then À q else Å:=by
 rw[Şq];rw[Ï c,ND];by_cases e:i=q;subst e;rw[Ï rfl,Ï Ê];show ĳ À hi;rw[Ñ (λz=>e (lg Y.z2o c a z)),h];rw[ĭq];rw[Ñ c,Œ,h];let e:i≠q:=λz=>c (z▸a)
 rw[ĭq]
theorem nF(Y:Xa Ă zG){q:Â}(a:q∈xI Ċ zG):∀i,i<=Ċ->(xJ ňf ďd).2=if q<i then À q else Å
 |0,_=>rfl|i+1,h=>by unfold wp;rw[<-Š,NG (Y.nl i Ê)];show nE Y a _ i (by rw[BZ Y i Ê,ã,Øa]) (nF Y a i Ê)
def y9n(Y:Xa Ă zG){q:Â}(a:q∈xI Ċ zG):(xJ ňf Ÿf).2=À q:=by unfold kK;rw[nE Y a _ Ċ (by rw[BZ Y _ Ē,ã,Øa]) (nF Y a _ Ē)];let:=(NA Y.le).mp a;let:=Y.le q this;rw[Ï Ê]
#print a
def y9m{z6:Á D}(P:PC z6)(d:(Õ).length<=60):Xa Ęa ſ/\∀i,i<(Õ).length->äk\/(xH ϧ=Ä/\∃(hd:Á D) (p:Â),yY z6 ϧ=À p/\yz ϧ=.tup hd/\hd≠[]/\Ėe<=2/\p∈xI (Õ).length ſ/\jJ (Õ).length ſ ãf âf=.tup Ϣm/\∀u,ym ĉb/\xH ĉb=Ä/\zj ĉb=Ã):=by
 let j:(Ęa).length=(Õ).length:=ã _
 let f:∀p,À p∈xA z6->p<=(Õ).length:=λp b=>by let{r,_,e}:=Èa b;show z09 e
 let a:∀i,i<(Õ).length->äk\/(xH ϧ=Ä/\∃(hd:Á D) (p:Â),yY z6 ϧ=À p/\yz ϧ=.tup hd/\hd≠[]/\Ėe<=2/\p∈xI (Õ).length ſ/\jJ (Õ).length ſ ãf âf=.tup Ϣm/\∀u,ym ĉb/\xH ĉb=Ä/\zj ĉb=Ã):=λi c=>by
  let d:=qD c;let k:zt z6 i∈z6:=(Įa (ώ d)).1;let e1:(Ęa).getD i .zO=yz ϧ:=by rw[ő,ė,d];rfl
  let e2:(ſ).getD i Å=yY z6 ϧ:=by unfold xA;rw[ő,ė,d];rfl
  rw[e1,e2];let o:=ũ _ k;cases z:xH ϧ with
  |Ã=>
   let n:yY z6 ϧ=Å:=by unfold yY;rw[z]
   let v:yz ϧ=zt z6 i:=by unfold yz;rw[z]
   rw[n,v];show .inl {rfl,rfl,rfl}
  |Ä=>
   let:=(UC P k).1;rw[z]at this;let{p,b}:=ĺb this;let{hd,t,q,s,m,_,h,_}:=YX o z
   let l:yz ϧ=.tup hd:=by unfold yz;rw[z,q];exact ύ (Žn).dropLast=_;rw[ád]
   let g:À p∈xA z6:=œc {_,ώ d,b};show .inr {rfl,hd,p,b,l,s,m,(NA f).mpr g,?_,h};rw[b,l];rfl
 refine{{by omega,by unfold xA;rw[ã,j],λp b=>by rw[j];show f p b,λi c=>?_},a};rw[j]at c ⊢;rcases a i c with⟨_,_,e⟩|⟨_,hd,p,_,_,_,_,_,e,h⟩;rw[e];show(jl P c).2;rw[e];show(h _).2.2
structure TJ(X Y:Á D):È where
 bare:(Č).map yz=(Źe).map yz
 zG:xA X=xA Y
def y9l{z6:Á D}(P:PC z6)(Q:(Õ).length<=45):PC Ŭb/\TJ z6 Ŭb:=by
 let{Y,f}:=y9m P Ê;let x:(Ęa).length=(Õ).length:=ã _;let g:=x1n Y;let G:=y1e Y;rw[x]at g G;let g:zB Ŭb=(Ňc).map λj=>jJ (Õ).length ſ ((Ęa).getD j .zO) ((ſ).getD j Å):=g
 let K:=(nC P Ê).2
 let B:∀d∈qt z6,zj d=Ã->∃i,i<(Õ).length/\d=jJ (Õ).length ſ ãf âf:=λd m y=>by let:d∈zB Ŭb:=ϯd {m,by rw[y];rfl};rw[g]at this;let{i,c,e}:=Èa this;show{i,ñd c,Ųe}
 let E:∀{q:Â},q∈xI (Õ).length ſ->(xJ (wx (Õ).length ſ q) Ŭb).2=À q:=λ{q} J=>by let:=y9n Y (q:=q) (by rw[x];show J);rw[x]at this;rw[Ϯp]
 let k:∀i,i<(Õ).length->yz Íl=yz ϧ/\yY Ŭb Íl=yY z6 ϧ:=λi c=>by rcases f i c with⟨z,l,e⟩|⟨z,m,p,l,F,A,w,s,e,C⟩;rw[e,l];show{rfl,by unfold yY;rw[z]};rw[e,l,F];let{L,r,O}:=C ńk;show{?_,?_};unfold yz;rw[r];exact ύ (m++[ϫ _]).dropLast=_;rw[ád];unfold yY;rw[r];exact(xJ (Tp _) Ŭb).2=_;rw[Ml L r ĵk.2.1];show E s
 show{{K,?_,λd m o=>?_,?_},{?_,?_}};exact((kK _ _).filter zj).Nodup;rw[G];show Ćh (Ěl (λ{a b} N I v=>?_) (ĉm Åm (ŭh (n:=(Õ).length+1))));intro h
 let h:wx (Õ).length ſ a=wx (Õ).length ſ b:=by
  unfold xy at h;injection h with h
  injection h with _ h
  injection h with h _
  injection h
 show v (lg Ê (š (Įa N).2) (š (Įa I).2) h);let y:zj d=Ã:=by
  cases z:zj d with
  |Ã=>rfl|Ä=>rw[y05 z]at o;cases o
 let{i,c,rfl}:=B d m y;rcases f i c with⟨z,l,e⟩|⟨z,H,p,l,F,A,w,s,e,C⟩;rw[e,z]at o;cases o;rw[e];show{_,p,ĵk.2.1,E s};let a:=Mt Ęa ſ (Ęa).length;let b:=Kc (Ęa).length ſ (Ęa).length;exact(wp _ _ _++vj _ _ _).length<=100;rw[ì];omega;rw[g,ϰ];show èc λi=>?_
 rw[Ęq];show ĳ À (k i c).1.symm;rw[Öa Ê,Öa ŉh];rfl;exact(Õ).map (yY z6)=(zB Ŭb).map (yY Ŭb);rw[g,ϰ];show èc λi=>?_
 rw[Ęq];show ĳ À (k i c).2.symm;rw[Öa Ê,Öa ŉh];rfl
def Kz(r:D):D:=match xH r with
 |Ä=>Tx (λ_ => "") r|Ã=>r
def z3y{r c:D}(h:ym r)(h':ym c)(k:xH r=xH c)(b:yz r=yz c):Kz r=Kz c/\wd r=wd c/\(xH r=Ã->r=c):=by
 cases z:xH r with
 |Ã=>
  let f:=Ϡn z
  let e:r=c:=by unfold yz at b;rw[z,f]at b;show b
  rw[e];show{rfl,rfl,λ_=>rfl}
 |Ä=>
  let f:=Ϡn z;let{i,t,l,o,q,rl,_,_}:=YX h z;let{d,p,g,n,m,j,_,_}:=YX h' f
  let e:i=d:=by unfold yz at b;rw[z,f,l,g]at b;let b:ύ (i++[ϫ t]).dropLast=ύ (d++[ϫ p]).dropLast:=b;rw[ád,ád]at b;injection b
  subst e;show{?_,?_,λw=>nomatch w};unfold Kz;rw[z,f];exact Tx _ r=Tx _ c;rw[rl,j];rw[l,g]
  match i,o with
  |a::i,_=>cases a<;>rfl
section
variable{X Y:Á D}
def TJ.len(S:TJ X Y):(Č).length=(Źe).length:=by let:=ĳ ěd S.bare;rw[ã,ã]at this;rw[Ϯp]
def TJ.row(S:TJ X Y)(f:PC X)(c:PC Y){i:Â}(hi:i<(Č).length):yz ϟ=yz Łe/\yY X ϟ=yY Y Łe/\xH ϟ=xH Łe:=by
 have a:i<(Źe).length:=by rw[<-S.len];show hi
 let b:=ĳ (λl:Á D=>l[i]?) S.bare;let t:=ĳ (λl:Á ϖ=>l[i]?) S.zG;unfold xA at t;simp only[ė,qD hi,qD a,Ϸm,Option.some.injEq]at b t;show{b,t,?_};let e:zt X i∈X:=Òm.1;let d:zt Y i∈Y:=(Įa (ώ (qD a))).1;rw[<-(UC f e).1,<-(UC c d).1,t]
def jp(X:Á D)(p:Â):É Â:=(jn Č p).map (xi X)
#print a
def KW:FS:=(zQ (zl 4 (Χa (e2 xN ą ı)))
    (qE 2 tN (e2 zJ (xv (zC (e2 xE Ŝ üg) (zC æn (zC (e2 pH (eC (.int 4294967295)) (e2 xE çn Ēb)) (Α (e2 xE çn (eC (.int 70000)))))))) (e2 xE Ŝ Ńb))))
def E8:FS:=
 (zQ (qF 2 Ūb)
  (zQ (jK (qm ī Ŝb) īc
   KW)
  Ák))
def Wu:Á D->É å:=FR 2 5 E8
def z8l(a x1:D):Wu č=yL 5 E8 č:=rfl
def x19{ns:Á Æ}(x:ţ<=63)(s:∀m∈ns,vV m<=1048576){f:Æ}(B:0<=f)(F:f<=40):∃W:Á Æ,Wu [.lst ϯ,.int f]=À (Ä,.lst Ŗg)/\āj=8/\∀w∈W,0<=w/\w<4294967296:=by
 let u:∀τ:zw,qm ī Ŝb τ=À (wq 8):=λτ=>kj (n:=8) rfl Ò
 let{σ',e1,W,l,e,a,j,rfl}:=kL (g:=yC 3) (b:=KW) (λi σ=>∃(W:Á Æ) (l e:É Sl),āj=i/\(∀w∈W,0<=w/\w<4294967296)/\σ=[À (Ã,.lst ϯ),À (Ã,.int f),À (Ä,.lst Ŗg),l,e])
  (ds:=wq 8) (σ:=[À (Ã,.lst ϯ),À (Ã,.int f),À (Ä,.lst []),Å,Å]) 0 {[],Å,Å,rfl,λ_ h=>Þ h ô,rfl} λi d σ z t=>by
   let{W,l,e,a,j,rfl}:=t;rw[Ķ]at a ⊢;let{C,rfl}:=UD z;let{m,E,G,q}:=Ze x s (k:=f+(i:Æ)) Ê Ê
   obtain⟨v,p,r,y⟩:∃v:Æ,zJ (.lst [.int (m%4294967296),.int (m%3),.int (4294967295-m/4%3),.int (m/4%70000)]) (Ζ (m%4))=À Ϯb/\0<=v/\v<4294967296:=by rcases(show m%4=0\/m%4=1\/m%4=2\/m%4=3 by omega)with h|h|h|h<;>rw[h]<;>show{_,rfl,by omega,by omega}
   let o:tN (Β Ŗg) Ϯb=À (Β Ųn):=by exact(Φd Ŗg (żd (wI W++[_])))=_;rw[Ï (by rw[jt];rw[ϥp])];unfold wI;rw[Ċa];rfl
   show{_,[À (Ã,.lst ϯ),À (Ã,.int f),À (Ä,.lst Ųn),À (Ã,.int (i:Æ)),À (Ã,.int m)],rfl,.inl ?_,W++[v],_,_,by rw[ì,a];rfl,λw c=>?_,rfl};unfold KW;generalize Ϥ ę=NS at q p o ⊢;simp only[Ø,Ãa,q,p,o,Ϟb];rcases Ÿ c with c|c;show j w c;cases Ĵ c;show{r,y}
 let A:(wq 8).length=8:=by rw[ã,Øa]
 rw[Ķ,A]at a;show{W,?_,a,j};rw[z8l];unfold E8;simp only[Ø,u,e1]
def Iu:yZ:=(Kk 2 īf Ŋ)
def YK:t5:=(SU (νa (e2 Ļc ğ ą)) (Ow (kB à ũe 0 [] jS vq)))
def CO:yZ:=
 (wB (qR 2 ėj)
  (wB (Ko YK
   Iu)
  (Ye Ėj)))
def j4:FM:=uB 2 3 CO
def z7k(a x1:M):j4 č=wy 2 3 CO č:=rfl
theorem Sm{c:t5}{b:yZ}{a:gu}:∀{n:Â}{β:yM}(m:Â),ju c b n β=À a->ju c b (n+m) β=À a
 |0,_,_,h=>by cases h|n+1,β,m,h=>by
  rw[show n+1+m=(n+m)+1 by omega]
  change (Ĭc).bind _=_ at h
  rw[žq];cases e:c β with
  |Å=>rw[e]at h;cases h|À r=>
   rw[e]at h
   change (match r.1 with|Ã=>_|Ä=>_)=_ at h
   exact(match r.1 with|Ã=>_|Ä=>_)=_;cases hr:r.1 with
   |Ã=>rw[hr]at h;show h|Ä=>
    rw[hr]at h
    change (ϊj).bind _=_ at h
    exact(ϊj).bind _=_;cases e2:b r.2 with
    |Å=>rw[e2]at h;cases h|À f=>
     rw[e2]at h;cases f with
     |nx β2=>show Sm m h|ct β2=>show Sm m h|bk β2=>show h|rt x β2=>show h
def y2c{c:t5}{b:yZ}{β:yM}{a:gu}(n:Â)(h:ju c b n β=À a)(d:Î (n<=Y9) q10):Ko c b β=À a:=by let e:=Sm (Y9-n) h;rw[ŀm d]at e;show e
def w0t{c:t5}{b:yZ}{β β1 β2:yM}{n:Â}(a:c β=À (Ä,β1))(d:b β1=À ŝb):ju c b ħ β=ju c b n β2:=by rw[žq];rw[a];exact(Ĺg).bind _=_;rw[d];rfl
def z17{c:t5}{b:yZ}{β β1:yM}{n:Â}(a:c β=À (Ã,β1)):ju c b ħ β=À (.nx β1):=by rw[žq];rw[a];rfl
section
variable{T fw fh:D}{e:Æ}{s s1:M}{d0 d1 j0 j1:Æ}
def e8{T fw fh:D}{e due done:Æ}{s:M}{x1 a:É M}:kB à ũe 0 [] jS vq Đn=YL jS Ğp Đn:=rfl
def x1r{m k:Æ}(hk:k<m)(h:jS [xF T e fw fh s d0 j0]=À ([xF T e fw fh s1 d1 j1],.fz İ)):YK ϋg=À (Ä,[À (xF T e fw fh s1 d1 j1),À ùd,À êj]):=by rw[ëq]
theorem x1x{m k:Æ}(hk:¬ k<m):YK ϋg=À (Ã,ϋg):=by let z:decide (k<m)=Ã:=ď hk;unfold YK;simp only[ň,WC,z]
theorem x1p{m k:Æ}{x:É M}(b:x=À Ňl):Iu [x,À ùd,À êj]=À (.nx [x,À ùd,À (.fz (.int Ň))]):=by subst b;let a:ŷb Ňl=Å:=rfl;unfold Iu;simp only[ň,Kk,a]
#print a
def NC{r:D}(h:gz r):qf r\/r=.tup Ńf:=by
 cases h with
 |Ϡ=>show .inr rfl|Wc hw d0 d1 n0 n1=>let{d,rfl}:=ņa d0;rcases hw with rfl|rfl;show .inl (.set Ê n0 n1);show .inl (.high Ê n0 n1)
 |two hw d0 d1 s0 s1=>
  rw[üq]
  let b:s<8:=by omega
  rcases hw with rfl|rfl|rfl|rfl|rfl|rfl|rfl|rfl|rfl;show .inl (.copy a b);show .inl (.sum .add a b);show .inl (.sum .addc a b);show .inl (.sum .sub a b);show .inl (.sum .subc a b);show .inl (.bits .and a b);show .inl (.bits .or a b);show .inl (.bits .xor a b);show .inl (.sum .test a b)
 |Wd hw d0 d1 n0 n1=>let{d,rfl}:=ņa d0;let{n,rfl}:=ņa n0;rcases hw with rfl|rfl;show .inl (.left Ê Ê);show .inl (.right Ê Ê)
 |mem hw d0 d1 s0 s1 n0 n1=>
  rw[üq]
  let b:s<8:=by omega
  rcases hw with rfl|rfl|rfl|rfl;show .inl (.mem .load a b n0 n1);show .inl (.mem .store a b n0 n1);show .inl (.mem .loadw a b n0 n1);show .inl (.mem .storew a b n0 n1)
def UG{w v:Ç}{x:Á D}(h:w≠v):¬ wd (.tup (.str w::x))=v:=h
def z14(h:qf r):¬ wd r = ţd/\xH r=Ã:=by
 cases h with
 |sum h=>cases h<;>show{UG Ò,rfl}|bits h=>cases h<;>show{UG Ò,rfl}|mem h=>cases h<;>show{UG Ò,rfl}|_=>show{UG Ò,rfl}
def x55{T fw fh:D}{e due done:Æ}{s:M}(h:tL Åf=À (Ã,.bl Ä)):jS àh=À (àh,.fz ý):=by
 let a:∀τ:zw,jA à Şb þ zF Ĺk=À Åf:=λτ=>Lv eM Æa rfl
 rw[hU];unfold M1;simp only[ň,WC,a,h]
theorem GC{r:D}{a:M}{w:Ç}(c:zJ r ů=À Ř)(b:VL jb Ř=À ý):j_ ęp=À (ęp,.fz .zO):=by rw[Go];unfold Jv;simp only[ň,c,b]
theorem x02(t:Ç):qe [.tup śh]=À (Ã,.int 0):=by rw[Áq]
def x01{w k:Ç}(t:Ç)(a:w = Ða \/ w = Ìa)(hk:k = ϻ \/ k = ça \/ k = ëa):qe ϔo=À (Ã,.int 0):=by rcases a with rfl|rfl<;>rcases hk with rfl|rfl|rfl<;>kernel_rfl
def w05:t4 [.tup Ńf]=À (Ã,.int 2047):=by rw[Áq]
def w04{w:Ç}(t:Ç)(a:w = Ða \/ w = Ìa):t4 [.tup [.str w,.str ϻ,.str t]]=À (Ã,.int 256)/\t4 [.tup [.str w,.str ça,.str t]]=À (Ã,.int 512)/\t4 [.tup [.str w,.str ëa,.str t]]=À (Ã,.int 1024):=by rcases a with rfl|rfl<;>show{by rw[Áq],by rw[Áq],by rw[Áq]}
def Tr{o:É å}{n m:Â}(h:o=À (Ã,.int (n:Æ)))(g:o=À (Ã,.int (m:Æ))):n=m:=by
 let:=ϡn g;injection this with this
 injection this with _ this
 injection this with this
 omega
structure W8(Ws:Á Æ):È where
 l:œa=8
 h:∀w∈Ws,0<=w/\w<4294967296
structure xL where
 ws:Á Æ
 a:Ð
 b:Ð
 c:Ð
 ps:Á ķ
def U8(s:xL):M:=st żf s.a s.b s.c (kP Íc) (vP Íc)
def Xj(s:xL):D:=gF żf s.a s.b s.c (kP Íc) (vP Íc)
def QH(s:xL):vd (U8 s)=Xj s:=pV
structure Gd(m:Â)(s:xL):È where
 w:W8 Ìc
 p:j6 Íc
 l:s.ps.length<=m
structure tZ(r:D)(s s':xL)(ld:Ð):È where
 dr:j_ [U8 s,.fz r]=À ([U8 s',.fz r],.fz .zO)
 ld:gr [Xj s',r]=À (Ã,.bl ld)
theorem lI:∀{x y:Á Æ},wI x=wI y->x=y
 | [],[],_=>rfl| [],_::_,h=>nomatch h|_::_,[],h=>nomatch h|a::x,b::y,h=>by
  injection (show ę a::wI x=ę b::wI y from h)with h1 h2
  injection h1 with h1
  rw[h1,lI h2]
theorem nI:∀{x y:Á ķ},kP x=kP y->vP x=vP y->x=y
 | [],[],_,_=>rfl| [],_::_,h,_=>nomatch h|_::_,[],h,_=>nomatch h|(a,b)::x,(c,d)::y,h,g=>by
  injection (show(ĭ a:Sum Æ Ç)::kP x=.inl c::kP y from h)with h1 h2
  injection (show ę b::vP x=.int d::vP y from g)with g1 g2
  injection h1 with h1
  injection g1 with g1
  rw[h1,g1,nI h2 g2]
theorem x4z{s s':xL}(h:U8 s=U8 s'):s=s':=by
 let{k,a,b,c,j}:=s;let{e,f,g,i,d}:=s';injection (show M.obj ŀ łf [.own (Β (wI k)),.own Źc,.own (.dic (kP j) (vP j))]=.obj ŀ łf [.own (Β (wI e)),.own (Zs f g i),.own (.dic (kP d) (vP d))]from h)with _ _ h
 injection h with h1 h
 injection h with h2 h
 injection h with h3 _
 injection h1 with h1
 injection h1 with h1
 injection h2 with h2
 injection (show D.dic j5 Ńc=.dic j5 [.bl f,.bl g,.bl i]from h2)with _ h2
 injection h2 with a1 h2
 injection h2 with b1 h2
 injection h2 with c1 _
 injection a1 with a1
 injection b1 with b1
 injection c1 with c1
 injection h3 with h3
 injection h3 with h3 h4
 obtain rfl:=lI h1;obtain rfl:=nI h3 h4;subst a1 b1 c1;rfl
def tZ.one{r:D}{s a d:xL}{c b:Ð}(A:tZ r s a c)(B:tZ r s d b):a=d/\c=b:=by
 let e:=A.dr.symm.trans B.dr;injection e with e
 injection e with e _
 injection e with e _
 obtain rfl:=x4z e;let g:=A.ld.symm.trans B.ld;injection g with g
 injection g with _ g
 injection g with g
 show{rfl,g}
inductive ZQ:D->D->È
 |Îc (r:D):ZQ r r
 |w8 (t u:Ç):ZQ Øc (.tup [.str Ĺa,.str u])
 |Ť {w k:Ç} (t u:Ç) (hw:w = Ða \/ w = Ìa) (hk:k = ϻ \/ k = ça \/ k = ëa):ZQ Ğd (.tup [.str w,.str k,.str u])
def z6d(a:M)(t:Ç):j_ īo=À (īo,.fz .zO):=GC (w := Ĺa) rfl rfl
def z6c{w k:Ç}(a:M)(t:Ç)(b:w = Ða \/ w = Ìa):j_ Ĩo=À (Ĩo,.fz .zO):=by rcases b with rfl|rfl;show GC (w := Ða) rfl rfl;show GC (w := Ìa) rfl rfl
def Jq(s:xL)(t:Ç):tZ Øc s s Ä:={z6d _ t,rfl}
def Lw{w k:Ç}(s:xL)(b:w = Ða \/ w = Ìa)(hk:k = ϻ \/ k = ça \/ k = ëa):∃ld,∀t,tZ Ğd s s ld:=by
 let a:∃ld,∀t,gr [Xj s,.tup Èd]=À (Ã,.bl ld):=by rcases hk with rfl|rfl|rfl<;>rcases b with rfl|rfl<;>show{_,λ_=>rfl}
 let{ld,h}:=a;show{ld,λt=>{z6c _ t b,h t}}
def ZQ.act{r a:D}{s s':xL}{ld:Ð}(L:ZQ r a)(A:tZ r s s' ld):tZ a s s' ld:=by
 cases L with
 |Îc=>show A|w8 t u=>let{rfl,rfl}:=A.one (Jq s t);show Jq _ u
 |Ť t u hw hk=>let{b,h}:=Lw s hw hk;let{rfl,rfl}:=A.one (h t);show h u
nonrec def Yv:D:=.tup Ńf
inductive j9(X:Á D)(i:Â)(s:xL):Â->xL->È
 |mk {i':Â} {s':xL} {ld:Ð} (hi:i<(Č).length) (ns:zt X i≠Yv) (A:tZ ϟ s s' ld) (g1:ld=Ä->yY X ϟ=À i') (g2:ld=Ã->i'=i+1):j9 X i s i' s'
def j8(X:Á D)(i:Â):È:=i<(Č).length->zt X i=Yv
inductive qh(X:Á D):Â->Â->xL->Â->xL->È
 |nil {i:Â} {s:xL}:qh X 0 i s i s
 |ð {k i i1 i2:Â} {s s1 s2:xL}:j9 X i s i1 s1->qh X k i1 s1 i2 s2->qh X Ň i s i2 s2
def jU(X Y:Á D):È:=∀m n s e t,m+4*n<=800->Gd m s->qh X n 0 s e t->j8 X e->∃k f,k<=n/\qh Y k 0 s f t/\j8 Y f
def jU.refl(X:Á D):jU X X:=λ_ n _ e _ _ _ r d=>{n,e,ĺ _,r,d}
def jU.trans{X Y Z:Á D}(a:jU X Y)(b:jU Y Z):jU X Z:=λm n s e t i g r d=>by let{k,f,o,q,l}:=a m n s e t i g r d;let{p,u,c,h,j}:=b m k s f t Ê g q l;show{p,u,ÿ c o,h,j}
theorem ěg{Ws:Á Æ}{o:É Â}{x:Æ}(h:W8 Ws)(a:0<=x)(x1:x<4294967296):W8 Ÿn:=by
 cases o with
 |Å=>show h|À d=>refine{by exact(ϧc d x).length=8;rw[Éa];show h.l,λw b=>?_};rcases Ýh b with z|rfl;show h.h w z;show{a,x1}
def z39{r:D}{s:xL}{m:Â}(h:qf r)(g:Gd m s)(i:m<=800):∃s',tZ r s s' Ã/\Gd žd s':=by
 let{R,o,pc,u,t,E}:=GG h
 let +zeta V:Â->Æ:=λk=>èp k 0
 let f:∀k,k<8->Ìc[k]?=À (V k):=λk d=>by exact _=À (èp k 0);rw[ő,Đ (by rw[g.w.l];show d)];rfl
 let{w,y,q,v,e,j,n}:=E.ef V Íc (λk d=>g.w.h _ (ώ (f k d))) g.p (ÿ g.l i);let x:=n s.a s.b s.c;show{{Ϲc o (w s.a) Ìc,_,_,_,e},{x.dr Ìc g.w.l λk d=>f k ϙf,E.ld _},{ěg g.w x.w0 x.w1,x.P,ÿ x.l (ώl g.l 4)}}
def qh.map{X Y:Á D}(f:∀{i s i' s'},j9 X i s i' s'->j9 Y i s i' s'){k i:Â}{s:xL}{e:Â}{t:xL}(r:qh X k i s e t):qh Y k i s e t:=by
 induction r with
 |nil=>show .nil|ð a _ ih=>show .cons (f a) ih
def y1y{r c:D}(h:ym r)(h':ym c)(b:xH r=xH c)(a:yz r=yz c):ZQ r c:=by
 let n:=(z3y h h' b a).2.2;cases e:xH r with
 |Ã=>rw[<-n e];show .refl r|Ä=>
  cases h with
  |ía=>cases e|Ϭ q=>let{_,_,_,_,z,_}:=Zk q;rw[e]at z;cases z
  |w8 t=>
   cases h' with
   |ía=>cases b|Ϭ q=>let{_,_,_,_,z,_}:=Zk q;rw[<-b,e]at z;cases z
   |w8 u=>show .w8 t u|Ť u hw hk=>rcases hw with rfl|rfl<;>cases a
  |@cond w k t hw hk=>
   cases h' with
   |ía=>rcases hw with rfl|rfl<;>cases b
   |Ϭ q=>let{_,_,_,_,z,_}:=Zk q;rw[<-b,e]at z;cases z
   |w8 u=>rcases hw with rfl|rfl<;>cases a
   |@cond w' k' u hw' hk'=>
    let:w=w'/\k=k':=by rcases hw with rfl|rfl<;>rcases hw' with rfl|rfl<;>first|(cases a;done)|(injection (show ύ _=ύ _ from a)with z;injection z with _ z;injection z with z _;injection z with z;show⟨rfl,z⟩)
    let{rfl,rfl}:=this;show .cond t u hw hk
def ZQ.stop{r a:D}(L:ZQ r a):r=Yv↔a=Yv:=by
 cases L with
 |Îc=>show ĝc|w8=>show{nofun,nofun}|Ť t u hw=>rcases hw with rfl|rfl<;>show{nofun,nofun}
def y28{X Y:Á D}(k:PC X)(j:PC Y)(S:TJ X Y):jU X Y:=λm n s e t _ _ r d=>by
 let o:∀{i},i<(Č).length->ZQ ϟ Łe/\yY X ϟ=yY Y Łe:=λ{i} f=>by let{a,b,c}:=S.row k j f;show{y1y (jl k f).1 (jl j šo).1 c a,b}
 show{n,e,ĺ _,r.map λ{i s p q} h=>?_,λh=>?_};cases h with
 |mk f ns A g1 g2=>let{l,b}:=o f;show .mk šo (λz=>ns (l.stop.mpr z)) (l.act A) (λz=>b▸g1 z) g2
 let g:e<(Č).length:=by rw[S.len];show h
 show(o g).1.stop.mp (d g)
inductive Ch(X:Á D):Â->Â->È
 |Îc {p:Â}:Ch X p p
 |Ăa {p q r:Â}:jp X p=À q->Ch X q r->Ch X p r
section
variable{X:Á D}
theorem rC:∀{k:Â}{a:Ç}{Ϝ:Á Â}{b:Ç},qg (jn Č) (xi X) k a Ϝ Įg->Ch X (xi X a) (xi X b)
 |_,_,_,_,.stop _=>.refl|_,_,_,_,.go (r:=r) h _ R=>.step (q:=xi X r) (by unfold jp;rw[h];rfl) (rC R)
def y1j(P:PC X)(t:Ç):Ch X (xi X t) (xi X ñg):=by
 let{k,o,_,R}:=Vx (J:=jn Č) (pl:=xi X) (n:=(Č).length) àf (Č).length t [] Ōa (λ_ h=>nomatch h) Ŋa;rw[show vN X t=Ŧd t from Ve R];cases o with
 |Å=>show .refl|À b=>show rC R
def CI{p:Â}{r:D}(h:Č[p]?=À r):zt X p=r:=by unfold zt;rw[ő,h];rfl
def iR(P:PC X){p q:Â}(h:jp X p=À q)(s:xL):j9 X p s q s:=by
 unfold jp at h;cases e:jn Č p with
 |Å=>rw[e]at h;cases h|À r=>
  rw[e]at h;injection h with h
  let{a,b,c}:=VZ P e;let d:=CI a;refine .mk (ld:=Ä) c (by rw[d];show nofun) (by rw[d];show Jq s r) ϋc nofun;rw[d,<-h];show KQ b
theorem j9.one{i i1 d:Â}{s e c:xL}(a:j9 X i s i1 e)(b:j9 X i s d c):i1=d/\e=c:=by
 cases a with
 |@mk l1 _ _ A a1 a2=>
  cases b with
  |@mk l2 _ _ B b1 b2=>
   let{rfl,rfl}:=A.one B;show{?_,rfl};cases l1 with
   |Ä=>show Ça ((a1 rfl).symm.trans (b1 rfl))|Ã=>rw[a2 rfl,b2 rfl]
theorem y0i{p q:Â}(h:jp X p=À q)(P:PC X)(d:j8 X p):Ā:=by
 cases iR P h {[],Ã,Ã,Ã,[]}with
 |mk hi ns=>show ns (d hi)
def lC{r:D}(h:ym r):ZQ r (xQ X r):=by
 cases h with
 |ía t=>show .refl _|Ϭ q=>let{_,_,_,_,z,_}:=Zk q;unfold xQ;rw[z];show .refl r
 |w8 t=>show .w8 t _|Ť t hw hk=>rcases hw with rfl|rfl<;>show .cond t _ ô hk
def x6d(P:PC X){r:D}(h:ym r){p:Â}(a:yY X r=À p):∃q,Ch X p q/\yY Īb (xQ X r)=À q:=by
 let b:∀t:Ç,(xJ t X).2=À p->∃q,Ch X p q/\(xJ ñg Īb).2=À q:=λt e=>by
  show{xi X ñg,?_,?_};let:xi X t=p:=by unfold xi;rw[e];rfl
  rw[<-this];show y1j P t;rw[show xJ ñg Īb=_ from ϐe.2.1 _];show KQ (ii P {p,e})
 cases h with
 |ía t=>cases a|Ϭ q=>let{_,_,_,_,z,_}:=Zk q;unfold yY at a;rw[z]at a;cases a
 |w8 t=>show b t a|Ť t hw hk=>rcases hw with rfl|rfl<;>show b t a
def y26(P:PC X):jU X Īb:=λm n s e t _ _ r d=>by
 let{G,_,o}:=Xq P;let F:(ēj).length=(Č).length:=Iz P
 let w:∀{i},i<(Č).length->zt Īb i=xQ X ϟ:=λ{i} b=>CI (by rw[show zB Īb=_ from o,ė,qD b];rfl)
 let l:∀{n i:Â}{s:xL},qh X n i s e t->∀j,Ch X i j->∃k f,k<=n/\qh Īb k j s f t/\j8 Īb f:=by
  intro n
  induction n with
  |ŏ=>
   intro i s r j c;cases r;cases c with
   |Îc=>show{0,e,ĺ _,.nil,λh=>?_};let v:=h;rw[F]at v;rw[w v];show(lC (jl P v).1).stop.mp (d v)|Ăa h=>show(y0i h P d).elim
  |ş n ih=>
   intro i s r j c;cases r with
   |ð a r=>
    cases c with
    |Ăa h c=>let{rfl,rfl}:=a.one (iR P h s);let{k,f,g,q}:=ih r j c;show{k,f,ŉc g,q}
    |Îc=>
     cases a with
     |@mk ld b ns A g1 g2=>
      let C:=(jl P b).1;let E:=lC (X:=X) C;let y:=E.act A;rw[<-w b]at y;let p:zt Īb i≠Yv:=by rw[w b];show λz=>ns (E.stop.mpr z)
      let u:i<(ēj).length:=by rw[F];show b
      cases ld with
      |Ã=>obtain rfl:=g2 rfl;let{k,f,g,x,B}:=ih r _ .refl;show{k+1,f,Ĳa g,.cons (.mk u p y nofun λ_=>rfl) x,B}
      |Ä=>let{q,c,e}:=x6d P C (g1 rfl);let{k,f,g,x,B}:=ih r q c;show{k+1,f,Ĳa g,.cons (.mk u p y (λ_=>by rw[w b];show e) nofun) x,B}
 show l r 0 .refl
#print a
nonrec def rk(a:Á Â):Â->Â
 |0=>0|i+1=>rk a i+if i∈a then 0 else 1
def Nk{a:Á Â}{i:Â}(h:i∈a):rk a î=rk a i:=by exact rk a i+Ģl=_;rw[Ï h];rfl
def OR{a:Á Â}{i:Â}(h:i ∉ a):rk a î=rk a i+1:=by exact rk a i+Ģl=_;rw[Ñ h]
theorem Nj{a:Á Â}{i:Â}:∀{j:Â},i<=j->rk a i<=rk a j
 |0,h=>by rw[Nat.le_zero.mp h];show ĺ _|j+1,h=>by rcases Ťc i ϭ with c|c;show ÿ (Nj (Ŋc c)) Äj;rw[ϒb h c];show ĺ _
structure Kp(qs:Á Â)(L A:Á D):È where
 l:(zB A).length=rk qs (ľa).length
 r:∀i,i<(ľa).length->i ∉ qs->(zB A)[rk qs i]?=ľa[i]?
 p:∀t,xJ t A=(rk qs ϲa.1,ϲa.2.map (rk qs))/\ϲa.1=(ľa).length
def Nr(L:Á D)(d:D):zB ϳb=zB L++(if zj d=Ä then[]else[d]):=by unfold zB;rw[İa];cases h:zj d<;>simp[Ĝo,h]
theorem y1a{f:Á Â}{L A:Á D}(K:Kp f L A)(d:D):Kp f ϳb (vX f ((ľa).length,A) d).2:=by
 unfold vX;cases h:zj d with
 |Ä=>
  let e:∀B:Á D,zB (B++[d])=zB B:=λB=>by rw[Nr,Ï h,Œ]
  refine{by rw[e,e];show K.l,λi g j=>?_,λt=>?_};rw[e]at g;rw[e,e];show K.r i g j;rw[Vt,Vt,e];let{a,b}:=K.p t;unfold ud;rw[h,a];show{?_,b};cases To t d<;>rfl
 |Ã=>
  let e:∀B:Á D,zB (B++[d])=zB B++[d]:=λB=>by rw[Nr,Ñ (by rw[h];show nofun)]
  let k:(zB L++[d]).length=(ľa).length+1:=ì;exact Kp f ϳb (if(ľa).length∈f then A else A++[d]);by_cases c:(ľa).length∈f;rw[Ï c];refine{by rw[e,k,Nk c];show K.l,λi g j=>?_,λt=>?_};rw[e,k]at g
  let m:i<(ľa).length:=by rcases Ñh g with z|rfl;show z;show Þ c j
  rw[e,ūa m];show K.r i m j;let{a,b}:=K.p t;rw[Vt,e,k];rw[Ŕq];exact _=(rk f ĸp,_);rw[Nk ŧm];rw[Ñ c];refine{by rw[e,e,k,OR c,ì,K.l];rfl,λi g j=>?_,λt=>?_};rw[e,k]at g;rw[e,e];rcases Ñh g with z|rfl;rw[ūa z,ūa];show K.r i z j;rw[K.l];show Ū (by rw[OR j];show ćb _) (Nj z);rw[<-K.l,âl,âl];let{a,b}:=K.p t;rw[Vt,Vt,e,k];rw[Ŕq];exact(rk f ϲa.1+1,_)=(rk f ĸp,_);rw[OR ŧm]
theorem ik{a:Á Â}:∀(R L A:Á D),Kp a L A->Kp a (L++R) (R.foldl (vX a) ((ľa).length,A)).2
 | [],L,A,K=>by rw[Œ];show K|d::R,L,A,K=>by
  let h:=ik R ϳb _ (y1a K d);rw[Š]at h
  let e:(vX a ((ľa).length,A) d).1=(zB ϳb).length:=by
   unfold vX;rw[Nr];cases zj d with
   |Ä=>rw[Ï rfl,Œ]|Ã=>rw[Ñ ġ,ì];rfl
  rw[<-e]at h;show h
def y19(a:Á Â)(X:Á D):Kp a X (uE a X).2:=ik X [] [] {rfl,λi b=>Þ b æd,λt=>{rfl,rfl}}
structure qd(m:Â)(s1 s2:xL):È where
 w:∀k,k<8->żc k=Ä->s1.ws[k]?=s2.ws[k]?
 a:żc 8=Ä->s1.a=s2.a
 b:żc 9=Ä->s1.b=s2.b
 c:żc 10=Ä->s1.c=s2.c
 p:s1.ps=s2.ps
def qd.up{m n:Â}{d e:xL}(A:qd m d e)(h:∀k,ϟi k=Ä->żc k=Ä):qd n d e:={λk f z=>A.w k f (h k z),λz=>A.a ĸg,λz=>A.b ĸg,λz=>A.c ĸg,A.p}
def qd.refl(m:Â)(s:xL):qd m s s:={λ_ _ _=>rfl,λ_=>rfl,λ_=>rfl,λ_=>rfl,rfl}
def qd.all{m:Â}{d f:xL}(A:qd m d f)(h:∀k,k<11->żc k=Ä)(g:W8 d.ws)(n:W8 f.ws):d=f:=by
 let{s,y,z,C,B}:=d;let{r,u,t,v,x}:=f
 let e:s=r:=èc λk=>by by_cases hk:k<8;show A.w k hk (h k Ê);rw[Öa (by rw[g.l];omega),Öa (by rw[n.l];omega)]
 let j:=A.a (h 8 Ò);let o:=A.b (h 9 Ò);let q:=A.c (h 10 Ò);let i:=A.p;subst e;cases j;cases o;cases q;cases i;rfl
def nZ{Ws:Á Æ}{k:Â}{x:Æ}(h:k<œa):(Ϲc (À k) x Ws)[k]?=À x:=by exact(ϧc k x)[k]?=_;rw[üh h]
theorem NM{Ws:Á Æ}{o:É Â}{k:Â}{x:Æ}(h:o≠À k):Ÿn[k]?=Ws[k]?:=by
 cases o with
 |Å=>rfl|À d=>show ęh λe=>h (ĳ À e)
section
variable{X:Á D}{T:Á Â}(P:PC X)(N:NI (Č).length Ìk Îk ϒe T [])
include N in
theorem M5{i k:Â}(hi:i<(Č).length)(h:(Uf X i).testBit k=Ä):(ġb).testBit k=Ä:=by rw[N.fx i hi ô];show(ĸn).mpr Ěc
include N in
theorem dL{i w k:Â}(hi:i<(Č).length)(a:w∈Wf X i)(h:(Ňd).testBit k=Ä)(p:(ϖc).testBit k=Ã):(ġb).testBit k=Ä:=by rw[N.fx i hi ô];show(ĸn).mpr (.inr {{w,a,h},p})
def Sj{i:Â}(hi:i<(Č).length):Wf X i=Zv ϟ i ϔf:=by unfold Wf;rw[qD hi]
theorem z16{i:Â}(hi:i<(Č).length)(h:qf ϟ):Wf X i=[i+1]:=by let{a,b}:=z14 h;rw[Sj hi];unfold Zv yY;rw[Ñ a,b]
variable{s1 s2:xL}{m i:Â}(g1:Gd m s1)(hm:m<=800)(w2:W8 s2.ws)(A:qd ġb s1 s2)
include P N g1 hm w2 A in
theorem x7p(hi:i<(Č).length)(h:qf ϟ):∃t1 t2,tZ ϟ s1 t1 Ã/\tZ ϟ s2 t2 Ã/\qd Īd t1 t2/\Gd žd t1/\W8 t2.ws/\((∀k,(Īd).testBit k=Ä->(ϖc).testBit k=Ã)->Pf X i≠0->qd Īd t1 s2):=by
 let{R,o,pc,pn,uc,E}:=GG h;let{U,Pt,g}:=E.up;obtain rfl:=Tr g.u àj.1;obtain rfl:=Tr g.p ϐp.1;let Y:i+1∈Wf X i:=by rw[z16 hi h];show Ġ
 let J:∀k,(Īd).testBit k=Ä->(ϖc).testBit k=Ã->(ġb).testBit k=Ä:=λk h1 h2=>dL N hi Y h1 h2
 let{q,f,b1,c1,ps}:=s1;let{C,j,b2,c2,Z}:=s2;obtain rfl:ps=Z:=A.p;let H:W8 q:=g1.w
 let +zeta V:Â->Æ:=λk=>q.getD k 0
 let Q:∀k,k<8->q[k]?=À (V k):=λk d=>by exact _=À (q.getD k 0);rw[ő,Đ ïm];rfl
 let v2:∀k,k<8->0<=V k/\V k<4294967296:=λk d=>H.h _ (ώ (Q k d))
 have r2:∀k∈R,C[k]?=À (V k):=λk d=>by rw[<-show q[k]?=C[k]? from A.w k ϙf (M5 N hi (g.r k d))];show Q k ϙf
 let{w,A',B',C',G,O,ef}:=E.ef V ps v2 g1.p (ÿ g1.l hm)
 let e:w f=w j/\A' f=A' j/\B' f=B' j/\C' f=C' j:=by
  cases z:uc with
  |Ã=>show O z f j|Ä=>have:f=j:=A.a (M5 N hi (E.cu z _ àj.1));rw[this];show{rfl,rfl,rfl,rfl}
 let B:=ef f b1 c1;let K:=ef j b2 c2
 let S:∀{t:Ð}{F:Ð->Ð}{k:Â}{x y:Ð},(ϖc).testBit k=t->F f=F j->ÿl->(Īd).testBit k=Ä->Ť t (F f) x=Ť t (F j) y:=λ{t F k x y} e1 e2 L W=>by
  cases t with
  |Ä=>show e2|Ã=>show L (J k W e1)
 have v:∀{t z:Ð}{k:Â}{x y:Ð},(ϖc).testBit k=t->(ϖc).testBit k=Ã->ÿl->(Īd).testBit k=Ä->Ť t z x=y:=λ{t z k x y} e1 e2 L W=>by rw[<-e1,e2];show L (J k W e2)
 show{{Ϲc o (w f) q,_,_,_,G},{Ϲc o (w j) C,_,_,_,G},{B.dr q H.l λk d=>Q k ϙf,E.ld _},{K.dr C w2.l r2,E.ld _},{λk d z=>?_,λz=>?_,λz=>?_,λz=>?_,rfl},{ěg H B.w0 B.w1,B.P,ÿ B.l (ώl g1.l 4)},ěg w2 K.w0 K.w1,λI nz=>{λk d z=>?_,λz=>?_,λz=>?_,λz=>?_,?_}};exact ϡm[k]?=(Ϲc o (w j) C)[k]?;by_cases c:o=À k;subst c;rw[nZ ïm,nZ (by rw[w2.l];show d),e.1];rw[NM c,NM c];show A.w k d (J k z (by rw[g.o k d];show ď c));show S g.c e.2.1 A.a z;show S g.n e.2.2.1 A.b z;show S g.s e.2.2.2 A.c z;let n:=I k z;exact ϡm[k]?=C[k]?;rw[NM (λc=>by rw[g.o k d,ú c]at n;cases n)];show A.w k d (J k z n);show v g.c ώj A.a z;show v g.n ώj A.b z;show v g.s ώj A.c z;rcases B.ks with z|z;show Þ (Tr g.p z) nz;show z
#print a
def z3a{d:Â}{s:xL}(f:d<8)(w:W8 Ìc):tZ (.tup [.str Ïa,.int (d:Æ),.int (d:Æ)]) s s Ã:=by let e:Ìc[d]?=À (Ìc[d]' îm):=Đ _;let g:=eQ (a:=s.a) (b:=s.b) (c:=s.c) (hk:=kP Íc) (hv:=vP Íc) (d:=d) (s:=d) (Ws:=Ìc) îm e;rw[List.set_getElem_self]at g;show{kD (k := Ïa) rfl rfl qu rfl rfl g,rfl}
def z5p{r:D}{s:xL}(h:qf r)(w:W8 Ìc)(z:pE r=Ä):tZ r s s Ã:=by
 cases h with
 |@copy d e hd hs=>
  let q:(d:Æ)=(e:Æ):=by let z:(((Ïa : Ç) == Ïa)&&((d:Æ)==(e:Æ)))=Ä:=z;rw[Ď]at z;show ϝb z.2
  rw[<-q];show z3a hd w
 |sum hq=>cases hq<;>show(ĩg).elim|bits hq=>cases hq<;>show(ĩg).elim|mem hq=>cases hq<;>show(ĩg).elim|_=>show(ĩg).elim
def x1l{r:D}(it:ym r)(a:zj r=Ã):qf r\/r=Yv\/(∃t:Ç,r=.tup śh)\/∃(w k t:Ç),ϟl/\Ϭk/\r=.tup Èd:=by
 cases it with
 |ía t=>cases a|Ϭ h=>show(NC h).imp id .inl|w8 t=>show .inr (.inr (.inl {t,rfl}))|Ť t hw hk=>show .inr (.inr (.inr {_,_,t,hw,hk,rfl}))
def z0e(x y:Â):x∈two x y/\y∈two x y:=by
 unfold two
 split;rename_i z;show{Ġ,z▸Ġ};split;show{Ġ,Ų _ Ġ};show{Ų _ Ġ,Ġ}
def z5m{w k t:Ç}{e f:xL}{m:Â}(d:w = Ða \/ w = Ìa)(hk:k = ϻ \/ k = ça \/ k = ëa)(A:qd m e f)(u:∀n,t4 ϔo=À (Ã,.int ((n:Â):Æ))->∀k,ϟi k=Ä->żc k=Ä):gr [Xj e,.tup Èd]=gr [Xj f,.tup Èd]:=by let{j,h,q}:=w04 t d;let{y,g,r,p,s}:=e;let{x,l,i,o,v}:=f;rcases hk with rfl|rfl|rfl;obtain rfl:g=l:=A.a (u 256 j 8 Ò);rcases d with rfl|rfl<;>rfl;obtain rfl:r=i:=A.b (u 512 h 9 Ò);rcases d with rfl|rfl<;>rfl;obtain rfl:p=o:=A.c (u 1024 q 10 Ò);rcases d with rfl|rfl<;>rfl
section
variable{X:Á D}{T:Á Â}(P:PC X)(N:NI (Č).length Ìk Îk ϒe T [])
variable{s1 s2 t1:xL}{m i i1:Â}(g1:Gd m s1)(hm:m<=800)(w2:W8 s2.ws)(A:qd ġb s1 s2)
inductive bL(X:Á D)(T:Á Â)(i i1 m:Â)(t1 s2:xL):È
 |mk {t2:xL} {ld:Ð} (a:tZ ϟ s2 t2 ld) (y1:ld=Ä->yY X ϟ=À i1) (y2:ld=Ã->i1=i+1) (g:qd Þj t1 t2) (gd:Gd žd t1) (w:W8 t2.ws) (hw:i1∈Wf X i)
   (sk:Yh X i=Ä\/pE ϟ=Ä\/kO X T i=Ä->i1=i+1/\qd Þj t1 s2)
include P N g1 hm w2 A in
theorem both(a:j9 X i s1 i1 t1):bL X T i i1 m t1 s2:=by
 cases a with
 |@mk ld hi ns B y1 y2=>
  let{H,J}:=jl P hi;let g:Gd žd s1:={g1.w,g1.p,ÿ g1.l Äj};let o:=ϐp.1;let j:Yh X i=Ä->yY X ϟ=À î:=λh=>š h
  let x:kO X T i=Ä->Pf X i≠0/\þl=0:=λh=>by unfold kO at h;rw[Ď]at h;show{š h.1,š h.2}
  let v:Pf X i=0->pE ϟ=Ã->tZ ϟ s2 s2 ld->t1=s1->i1∈Wf X i->bL X T i i1 m t1 s2:=λu W d e1 b=>by
   subst e1;let G:qd Þj t1 s2:=A.up λk h=>dL N hi b h (by rw[u,öd])
   show .mk d y1 y2 G g w2 b λz=>{?_,G}
   rcases z with z|z|z;cases ld with
   |Ä=>show Ça ((y1 rfl).symm.trans (j z))|Ã=>show y2 rfl
   rw[W]at z;cases z;show Þ u (x z).1
  rcases x1l H J with h|h|⟨t,e⟩|⟨w,k,t,b,c,e⟩;let{K,t2,U,d,r,Q,w,L}:=x7p P N g1 hm w2 A hi h;let{rfl,rfl}:=B.one U;obtain rfl:=y2 rfl;let C:=z16 hi h;refine .mk (ld:=Ã) d nofun (λ_=>rfl) r Q w (by rw[C];show Ġ) λz=>{rfl,?_}
  rcases z with z|z|z;let:=j z;unfold yY at this;rw[(z14 h).2]at this;cases this;let{rfl,_}:=d.one (z5p h w2 z);show r;let{R,Z}:=x z;show L (λk c=>?_) R;cases e:(ϖc).testBit k with
  |Ã=>rfl|Ä=>
   let:(þl).testBit k=Ä:=by rw[ëc,e,C,(mj _ _ _).mpr {i+1,Ġ,c}];rfl
   rw[Z,öd]at this;cases this
  show Þ h ns;let y:∀s,tZ ϟ s s Ä:=λs=>by rw[e];show Jq s t
  let{rfl,rfl}:=B.one (y s1);refine v (Tr o (by rw[e];show x02 t)) (by rw[e];rfl) (y s2) rfl ?_;let f:=y1 rfl;rw[Sj hi];unfold Zv;rw[f,e,Ñ (UG Ò)];show Ġ;let{l1,F}:=Lw s1 b c;let{O,E}:=Lw s2 b c;let{e1,e2}:=B.one (by rw[e];show F t)
  let I:O=l1:=by
   let q:=(E t).ld.symm.trans ((z5m b c A λn S k h=>M5 N hi (by rw[Tr àj.1 (by rw[e];show S)];show h)).symm.trans (F t).ld);injection q with q
   injection q with _ q
   injection q
  have d:tZ ϟ s2 s2 ld:=by rw[e,e2,<-I];show E t
  refine v (Tr o (by rw[e];show x01 t b c)) (by rw[e];rcases b with rfl|rfl<;>rfl) d e1 ?_;let sm:=(UC P Òm.1).1;let{p,f}:=ĺb (show(ϔf).isSome=Ä by rw[sm,e];rcases b with rfl|rfl<;>rfl)
  let Y:Wf X i=two î p:=by rw[Sj hi,f,e];unfold Zv;rw[Ñ ŕk];show Ñ ŕk
  rw[Y];cases ld with
  |Ä=>rw[Ça ((y1 rfl).symm.trans f)];show śp.2|Ã=>rw[y2 rfl];show śp.1
#print a
def y25{X:Á D}{T:Á Â}(P:PC X)(N:NI (Č).length Ìk Îk ϒe T []){o:Á Â}(R:∀q∈o,¬ jz (Č).length ϒe q\/Yh X q=Ä\/pE (zt X q)=Ä\/kO X T q=Ä):jU X (uE o X).2:=λm n s e t J g r d=>by
 let K:=y19 o X;generalize (uE o X).2=Y at K;let x:∀{i},i<(Č).length->i ∉ o->zt Y (rk o i)=zt X i:=λy c=>CI ((K.r _ y c).trans (qD y))
 let lt:∀{i},i<(Č).length->i ∉ o->rk o i<(Źe).length:=λ{i} y c=>by rw[K.l];show Ū (by rw[OR c];show ćb _) (Nj y)
 let S:∀r,yY Y r=(yY X r).map (rk o):=λr=>by
  unfold yY;cases xH r with
  |Ä=>show ĳ (·.2) (K.p Ík).1|Ã=>rfl
 let Q:∀k,k<11->(2047:Â).testBit k=Ä:=by decide
 let G:∀{n m i:Â}{H C:xL},m+4*n<=800->Gd m H->W8 C.ws->qd ġb H C->jz (Č).length ϒe i->i<=(Č).length->qh X n i H e t->∃k f,k<=n/\qh Y k (rk o i) C f t/\j8 Y f:=by
  intro n
  induction n with
  |ŏ=>
   intro m i H C J g F A b y r;cases r;by_cases z:e<(Č).length;let I:=d z
   let u:Uf X e=2047:=by unfold Uf;rw[I];show ĳ Vn w05
   obtain rfl:=A.all (λk B=>M5 N z (by rw[u];show Q k B)) g.w F;show{0,_,ĺ _,.nil,λ_=>?_}
   let W:e ∉ o:=λc=>by
    rcases R e c with h|h|h|h;show h b;let h:=š h;rw[I]at h;cases h;rw[I]at h;show ġ h;unfold kO at h;rw[Ď]at h;show š h.1 ?_;unfold Pf;rw[I]
    rw[Áq]
   rw[x z W];show I;let O:e=(Č).length:=ϒb y (Ĭl z);obtain rfl:=A.all (λk B=>by rw[O,Ϩj];show Q k B) g.w F;show{0,_,ĺ _,.nil,λh=>Þ h (by rw[O,K.l];show Ôc _)}
  |ş n ih=>
   intro m i H C J g F A b y r;cases r with
   |ð a r=>
    let j:i<(Č).length:=by cases a;assumption
    let U:zt X i≠Yv:=by cases a;assumption
    cases both P N g Ê F A a with
    |mk a2 y1 y2 ag gd w hw sk=>have v:=jz.step b j hw;let E:=TK j hw;by_cases c:i∈o;let{rfl,L}:=sk ((R i c).resolve_left λh=>h b);let{k,f,B,q}:=ih Ê gd F L v E r;rw[Nk c]at q;show{k,f,ŉc B,q};let{k,f,B,Z,q2}:=ih Ê gd w ag v E r;refine{k+1,f,Ĳa B,.cons (.mk (lt j c) (by rw[x j c];show U) (by rw[x j c];show a2) Îj Îj) Z,q2};rw[x j c,S,y1 z];rfl;rw[y2 z,OR c]
 show G J g g.w Ŏi .zero Ĩb r
theorem fK:∀{ls:Á Ŕa} {i:Â},i∈jd ls->∃l∈ls,i∈l
 | [],_,h=>nomatch h|l::ls,i,h=>by
  unfold jd at h
  rw[Éq];let{x,a,q}:=fK h;show{x,Ų _ a,q};show{l,Ġ,h}
def y2a{X:Á D}(g:PC X)(h:(Č).length<=60):jU X (tS X):=by
 let P:PC Īb:=(Xq g).1;show(y26 g).trans ?_;unfold tS;let e:(ēj).length<=60:=by rw[Iz g];show h
 generalize xq X=L at *;let{R,_,j,k}:=oi P e;let{T,N,i}:=B4 P;show y25 P N λq d=>?_
 unfold kf at d;rw[k,i,D6,D6]at d;let{l,f,d}:=fK d;unfold Te at f;simp only[Ěa,Ϣ,ĸa]at f;rcases f with rfl|rfl|rfl|rfl;let{a,b}:=Xz.mp d;show .inl λc=>?_
 rw[ú ((j q).mpr {a,c})]at b;cases b;show .inr ôo;show .inr (.inr ôo);show .inr (.inr (.inr ği.2))
def y29{k:Â}{a b:Á D}(S:Xe k a b):PC a->(Ϫc).length<=60->jU a b:=by
 induction S with
 |fin _=>show λ_ _=>.refl _|go _ _ ih=>intro P c;let{d,e}:=Bt P;show(y2a P c).trans (ih d (ÿ e c))
def y27{X:Á D}(P:PC X)(a:(Č).length<=45):∃Y,PC Y/\(Źe).length<=(Č).length/\V1 [.lst X]=À (Ä,.lst Y)/\jU X Y:=by let{k,b,f,S}:=sU (Č).length P Ē;let{e,c}:=sT S P;let{d,s}:=y9l e (ÿ c a);show{_,d,by rw[<-s.len];show c,x3x S P ńo Ê,(y29 S P ńo).trans (y28 e d s)}
def Ov(X:Á D):D:=.dic (qW (Č).length) (Zr Č Þl (Č).length)
def mX(X:Á D)(fw fh:D)(s:xL)(i:Â)(j:Æ):M:=xF Ïk ((Č).length:Â) fw fh (U8 s) (i:Â) j
def YN(X:Á D)(fw fh:D)(s:xL)(i:Â)(j:Æ):D:=vJ Ïk ((Č).length:Â) fw fh (Xj s) (i:Â) j
section
variable{X:Á D}{fw fh:D}{s t:xL}{i e:Â}{j:Æ}
def SK(hi:i<(Č).length):zJ Ïk ōa=À (.tup [zt X i,.int ői,y_ ϔf]):=by
 unfold Ov;rw[x63 hi]
 let e2:(Þl).getD i .zO=y_ ϔf:=by rw[ő,ė,qD hi];rfl
 rw[e2];rfl
def x1m(P:PC X)(hi:i<(Č).length)(ns:zt X i≠Yv):zh ϟ όb=À ý/\uR ϟ=Ä:=by
 let{a,b}:=jl P hi;generalize zt X i=r at *;cases a with
 |ía t=>cases b|Ϭ h=>rcases NC h with h|rfl;let{R,o,pc,d,c,E}:=GG h;show{E.st,E.tp};show Þ rfl ns
 |w8 t=>show{rfl,rfl}|Ť t hw hk=>rcases hw with rfl|rfl<;>show{rfl,rfl}
def sn(P:PC X){i':Â}{s':xL}(a:j9 X i s i' s'):tL ëd=À (Ã,.bl Ã)/\jS Ļh=À ([mX X fw fh s' i' ϭ],.fz İ):=by
 cases a with
 |@mk ld hi ns A g1 g2=>
  let{st,d}:=x1m P hi ns;let b:(i:Æ)≠((Č).length:Â):=by omega
  show{?_,?_}
  .rcases S5 (fw:=fw) (fh:=fh) (sd:=Xj s) (e:=((Č).length:Â)) (due:=(i:Æ)) (done:=j) (k:=Ã) (λ_=>{SK hi,st})with z|⟨z,_⟩;unfold YN;rw[z,ď b];rfl;show Þ z b
  let c:∀x:É Â,uR (y_ x)=Ä:=λx=>by cases x<;>rfl
  show x53 b (SK hi) st ?_ qu A.dr ld (by rw[QH];show A.ld) ?_;exact(uR ϟ&&(Ä&&(uR (y_ _)&&Ä)))=Ä;rw[d,c];rfl;cases ld with
  |Ä=>rw[g1 rfl];rfl|Ã=>obtain rfl:=g2 rfl;show ĳ ę Ê
def S6(d:j8 X i)(hi:i<=(Č).length):tL ëd=À (Ã,.bl Ä)/\jS Ļh=À (Ļh,.fz ý):=by
 let e:tL ëd=À (Ã,.bl Ä):=by
  unfold YN
  rcases S5 (T:=Ov X) (fw:=fw) (fh:=fh) (sd:=Xj s) (row:=.tup Ńf) (nx:=.int ői) (tg:=.zO) (e:=((Č).length:Â)) (due:=(i:Æ)) (done:=j) (k:=Ä) (λz=>⟨by
   let a:i<(Č).length:=by omega
   rw[SK a,d a];rfl,rfl⟩)with z|⟨_,z⟩
  rw[z,či];show z
 show{e,x55 (by rw[QH];show e)}
def x1v{T:D}{c a d m k:Æ}{b:M}(hk:k<m)(h:jS ϓl=À (ϓl,.fz ý)):YK ĕk=À (Ã,ĕk):=by rw[ëq]
theorem x1w{T:D}{a c b g e m k:Æ}{f d:M}{n:Â}(j:n<=Y9)(h:ju YK Iu n [À (xF T a fw fh f c b),À ùd,À (.fz ů)]=À (.nx [À (xF T a fw fh d g e),À ùd,À êj])):j4 [xF T a fw fh f c b,.fz (.int m)]=À ([xF T a fw fh d g e,.fz (.int m)],.fz ŭf):=by let w:=y2c n h j;let i:∀{s:M}{c b:Æ},ŷb (xF T a fw fh s c b)=Å:=rfl;rw[z7k];unfold CO;simp only[ň,i,w]
theorem rB(P:PC X){m n:Â}(g:m<=1000)(r:qh X n i s e t)(f:e<=(Č).length)(h:n=m\/n<m/\j8 X e):j4 [mX X fw fh s i j,.fz ħh]=À ([mX X fw fh t e (j+n),.fz ħh],.fz Ài):=by
 let b:∀{n k i:Â}{s:xL}{j:Æ},qh X n i s e t->(k+n=m\/k+n<m/\j8 X e)->ju YK Iu ħ [À (mX X fw fh s i j),À ϙp,À (.fz (.int (k:Â)))]=À (.nx [À (mX X fw fh t e (j+n)),À ϙp,À (.fz (.int ((k+n:Â):Æ)))]):=by
  intro n
  induction n with
  |ŏ=>intro k i s j r h;cases r;rw[show j+((0:Â):Æ)=j by omega];rcases h with h|⟨h,d⟩;show z17 (x1x Ê);show z17 (x1v Ê (S6 d f).2)
  |ş n ih=>
   intro k i s j r h;cases r with
   |ð a r=>
    let c:(k:Æ)<(m:Â):=by omega
    show(w0t (x1r c (sn P a).2) (x1p rfl)).trans ?_;let q:=ih (k:=k+1) (j:=j+1) r łk;rw[show j+1+(n:Æ)=j+((n+1:Â):Æ) by omega,show k+1+n=k+ħ by omega]at q;show q
 let q:=b (k:=0) (j:=j) r łk;rw[Ķ]at q;let l:n<=m:=ϥc (λz=>ŋb z) λz=>óa z.1
 show x1w (ÿ (show n+1<=1001 by omega) Ò) q
#print a
section
variable{X:Á D}
def so(P:PC X){i m:Â}{s:xL}(g:Gd m s)(o:m<=800)(d:¬ j8 X i):∃i' s',j9 X i s i' s'/\Gd žd s'/\i'<=(Č).length:=by
 let e:i<(Č).length:=Þh λh=>d λz=>Þ z h
 let n:zt X i≠Yv:=λh=>d λ_=>h
 let l:∀{i' s'},j9 X i s i' s'->∃i' s',j9 X i s i' s'/\Gd žd s'/\i'<=(Č).length:=λ{i' s'} a=>by
  let{T,N,_}:=B4 P;cases both P N g o g.w Ŏi a with
  |mk _ _ _ _ gd _ hw=>show{i',s',a,gd,TK e hw}
 let{v,x}:=jl P e;let q:=(UC P (Įa (ώ (qD e))).1).1;let b:=λ{i':Â} {s':xL} {f:Ð} (A:tZ ϟ s s' f) u y=>l (j9.mk (i':=i') e n A u y)
 generalize zt X i=r at *;cases v with
 |ía t=>cases x|Ϭ h=>
  rcases NC h with h|rfl;let{s',A,_}:=z39 h g o;show b (i':=i+1) A nofun λ_=>rfl
  show Þ rfl n
 |w8 t=>let{p,j}:=ĺb q;show b (Jq s t) (λ_=>j) nofun
 |@cond w k t hw hk=>
  let{p,j}:=ĺb (show(yY X Ğd).isSome=Ä by rw[q];rcases hw with rfl|rfl<;>rfl);let{f,c}:=Lw s hw hk;cases f with
  |Ä=>show b (c t) (λ_=>j) nofun|Ã=>show b (i':=i+1) (c t) nofun λ_=>rfl
theorem z0b(P:PC X):∀(n:Â){m i:Â}{s:xL},m+4*n<=800->Gd m s->i<=(Č).length->∃k e t,qh X k i s e t/\e<=(Č).length/\k<=n/\(k=n\/j8 X e)/\Gd (m+4*n) t
 |0,m,i,s,_,g,hi=>{0,i,s,.nil,hi,ĺ _,.inl rfl,g}|n+1,m,i,s,hm,g,hi=>by by_cases d:j8 X i;show{0,i,s,.nil,hi,Ź _,.inr d,{g.w,g.p,ÿ g.l Äj}};let{j,o,a,h,b}:=so P g Ê d;let{k,e,t,r,f,c,z,gt}:=z0b P n (m:=m+4) Ê h b;show{k+1,e,t,.cons a r,f,Ĳa c,ųd (λz=>by rw[z]) id,by rw[show m+4*ħ=m+4+4*n by omega];show gt}
theorem rD(P:PC X):∀{n m i e:Â}{s t:xL},m+4*n<=800->Gd m s->qh X n i s e t->i<=(Č).length->e<=(Č).length
 |_,_,_,_,_,_,_,_,.nil,h=>h|_,m,i,_,_,_,hm,g,.cons (i1:=i1) a r,h=>by
  let{T,N,_}:=B4 P;let b:i<(Č).length:=by cases a;assumption
  cases both P N g Ê g.w Ŏi a with
  |mk _ _ _ _ gd _ hw=>show rD P (m:=m+4) Ê gd r (TK b hw)
def x51(P:PC X){fw fh:D}{i m:Â}{s:xL}{j:Æ}(g:Gd m s)(b:m<=800)(hi:i<=(Č).length):(j8 X i/\tL ëd=À (Ã,.bl Ä))\/(¬ j8 X i/\tL ëd=À (Ã,.bl Ã)):=by by_cases d:j8 X i;show .inl {d,(S6 d hi).1};let{_,_,a,_}:=so P g b d;show .inr {d,(sn P a).1}
#print a
def Su:FE:=(wP (Υ (Α Ĭf)))
def A7:FT:=(tE (e2 vL Ĭf ī))
def EN:FS:=
 (vY (wY 1 (vt (eL GT Īa)) ùb A7 Su))
def JR:Á D->É å:=FR 1 1 EN
def z8z(a:D):JR [a]=yL 1 EN [a]:=rfl
def CN:FS:=
 (vY (eL VM (Α (e1 Ðo áf))))
def Wm:Á D->É å:=FR 1 1 CN
def z7j(a:D):Wm [a]=yL 1 CN [a]:=rfl
def DB:FE:=(e2 zJ (e1 (wK [ŀ] Ýb) áf) ą)
def CL:FS:=
 (ψd (wY 1 Ño ùb xY DB))
def Wj:Á D->É å:=FR 1 1 CL
def z7h(a:D):Wj [a]=yL 1 CL [a]:=rfl
def CM:FS:=
 (vY (we JR (Α (e1 (wK ĝi øa) áf))))
def Wl:Á D->É å:=FR 1 1 CM
def z7i(a:D):Wl [a]=yL 1 CM [a]:=rfl
nonrec def gX:Á ķ->Æ->Æ
 | [],_=>0|p::ps,a=>if p.1=a then p.2 else gX ps a
theorem fV{a:Æ}:∀{ps:Á ķ},a∈ϋ (·.1)->Ć ĸ ų Ģb=À Én
 | [],h=>Þ h ô|p::ps,h=>by exact Ć (.inl p.1::kP ps) (.int p.2::vP ps) Ģb=_;unfold Ć gX;by_cases c:p.1=a;rw[Ï (ĳ ĭ c),Ï c];rw[Ñ (λz=>c (ïc z)),Ñ c];rw[ĵ]at h;show fV ϒk
def iP(h:a∈ϋ (·.1)):zJ Ød Ĳj=À Én:=by exact(uY Ĳj).bind _=_;show fV h
def Éb(ps:Á ķ):Á Æ:=Ĝd (ϋ (·.1))
def Tj(ps:Á ķ):Á D:=((Éb ps).filter λa=>decide žn).map λa=>.tup ðh
theorem y2n(h:a∈Éb ps):a∈ϋ (·.1):=(Ùi (ϋ (·.1))).mem_iff.mp h
theorem iY:∀(ps:Á ķ),ZZ ĸ=À (ϋ (·.1))
 | []=>rfl|p::ps=>by exact(ZZ ĸ).bind _=_;rw[iY ps];rfl
def y1p(p:Æ->Ð)(v:Æ->D)(h:∀n∈ns,∃σ1,g Ŋe σ=À σ1/\c σ1=À (p n)/\(p n=Ä->e σ1=À (v n))):wA g c e σ śd=À ((ns.filter p).map v):=by
 induction ns with
 |nil=>rfl|ð n ns ih=>
  let{σ1,e1,e2,b}:=h n Ġ;let a:=ih λm d=>h m ŕp
  exact wA g c e σ (.int n::wI ns)=_;cases q:p n with
  |Ä=>rw[q]at e2;simp only[wA,e1,éc,e2,b q,a,ěf,q,ό,ĵ]|Ã=>rw[q]at e2;simp only[wA,e1,éc,e2,a,ěf,q,ŀb,Ďa]
theorem y3c:vL ϵ ů=À (ι (i≠0)):=by
 exact À (Ìb (!(i==0)))=_
 congr 2
 rw[Ōq];rfl;rw[ú c];let:(i==0)=Ã:=by simpa using c
 rw[this];rfl
def y88{ps:Á ķ}:JR ēn=À (Ä,.lst όj):=by
 let e1:GT ēn=À (Β űn):=by exact(ZZ ĸ).bind _=_;rw[iY];rfl
 let e2:wA ùb A7 Su [À (Ã,.dic ĸ ų),Å] űn=À όj:=y1p (λa=>decide žn) (λa=>.tup ðh) λn c=>by let b:=iP (y2n c);show{_,rfl,?_,λ_=>?_};unfold A7;simp only[Ø,b,y3c];unfold Su;simp only[Ø,b]
 rw[z8z];unfold EN;simp only[Ø,e1,e2]
section
variable{T fw fh:D}{e due done:Æ}{Ws:Á Æ}{a b c:Ð}{ps:Á ķ}
def x18:Wm ϗg=À (Ä,.lst Ŕ):=by let d:VM ϐf=À ĝa:=rfl;rw[z7j];unfold CN;simp only[Ø,IM,jc,d]
theorem y2j:Wj ϗg=À (Ã,.tup Ńc):=by
 let e1:wA ùb xY DB [À (Ã,vJ T e fw fh Ōl due done),Å] IT=À Ńc:=by
  let h:∀m:Ç,DB [À (Ã,vJ T e fw fh Ōl due done),À (Ã,.str m)]=zJ Źc (.str m):=λm=>by unfold DB;simp only[Ø,IM,GW]
  unfold IT;simp only[wA,yC,xY,éc,ĸh,ķh,h,SQ,x7d,x7e]
 let e2:IL [.lst Ńc]=À (.tup Ńc):=rfl;rw[z7h];unfold CL Ta;simp only[Ø,e1,e2]
theorem y2p:Wl ϗg=À (Ä,.lst όj):=by rw[z7i];unfold CM;simp only[Ø,IM,GV,y88]
#print a
def Nf:FA:=(qm ī (e2 xE ňo Ńb))
def KU:FS:=(zQ (zl 4 (Χa (e2 xN Úe ı)))
    (jo 2 (e2 zJ (xv (zC (e2 xE Òh (eC Ĝi)) (zC (e2 xE Òh (eC Ϙp)) (Α (e2 pH (eC òo) (e2 xE Òh Ēb)))))) æn) (e2 xE (e2 vK Ŝ Ēb) Þn)))
def DE:FE:=(wP (zC ñb (Α (e2 zJ Ŕg ñb))))
def E5:FS:=
 (zQ Źi
  (zQ (jK Nf īc
   KU)
  (zQ (Yn 2) (vY (wY 1 (Tb 2) ŕg xY DE)))))
def Wt:Á D->É å:=FR 2 5 E5
def z8i(a x1:D):Wt č=yL 5 E5 č:=rfl
theorem z0p:∀{ps:Á ķ} {p:Æ×Æ},(ϋ (·.1)).Nodup->p∈ps->gX ps p.1=p.2
 |q::ps,p,nd,h=>by rw[ĵ,List.nodup_cons]at nd;unfold gX;rcases ĩ h with rfl|h;rw[Ï rfl];rw[Ñ (λz:q.1=p.1=>nd.1 (by rw[z];show Ģh (f:=(·.1)) h))];show z0p nd.2 h
def y2o{ns:Á Æ}(z:ţ<=63)(y:∀m∈ns,vV m<=1048576):∃ps:Á ķ,j6 ps/\ģ<=4/\Wt [.lst ϯ,.int 38]=À (Ä,.lst ϕc):=by
 let{m,O,N,B}:=Ze z y (k:=38) Ò Ò;let K:(ϛm).length=(m%4).toNat:=by rw[ã,Øa]
 let{σ',e1,ps,j,c,P,n,rfl}:=kL (g:=yC 3) (b:=KU) (λi σ=>∃(ps:Á ķ) (j c:É Sl),j6 ps/\ģ<=i/\σ=[À (Ã,.lst ϯ),À (Ã,.int 38),À (Ä,.dic ĸ ų),j,c])
  (ds:=wq (m%4).toNat) (σ:=ük) 0 {[],Å,Å,{nofun,nofun,Ōa},ĺ _,rfl} λi d σ o l=>by
   let{ps,j,c,P,n,rfl}:=l;rw[Ķ]at n ⊢;let{L,rfl}:=UD o;let C:i<4:=by omega
   let{μ,μ0,μ1,r}:=Ze z y (k:=39+(i:Æ)) Ê Ê
   obtain⟨v,s,H,E⟩:∃v:Æ,zJ (.lst [.int (μ/256%65536),.int (μ/256%12),.int (65535-μ/256%3)]) (Ζ (μ%3))=À Ϯb/\0<=v/\v<65536:=by rcases(show μ%3=0\/μ%3=1\/μ%3=2 by omega)with h|h|h<;>rw[h]<;>show{_,rfl,by omega,by omega}
   let q:uY Ϯb=À (.inl v):=rfl;let u:(ĸ).length<yX:=by unfold kP;rw[ã];rw[ϥp]
   let{I,J}:=rh ps v Ûi;show{_,[À (Ã,.lst ϯ),À (Ã,.int 38),À (Ä,.dic (kP Ŵn) (vP Ŵn)),À (Ã,.int (i:Æ)),À (Ã,.int μ)],rfl,.inl ?_,vk ps v Ûi,_,_,rq P H E Ľi ľi,ÿ Yp (Ĳa n),rfl};rw[<-I,<-J];unfold KU;generalize Ϥ ę=NS at r s q u ⊢;simp only[Ø,Ãa,r,s,jo,q,u,ό]
 rw[Ķ,K]at n
 let t:Tb 2 [À (Ã,.lst ϯ),À (Ã,.int 38),À (Ã,.dic ĸ ų),j,c]=À Ím:=by exact(if(ĸ).all Ts=Ä then À ((ĸ).map ϓa)else Å)=_;rw[Ï (âd λx F=>by let{p,_,rfl}:=Èa F;rfl)];unfold kP;rw[ϰ];rfl
 let A:wA ŕg xY DE úk Ím=À ϕc:=by
  let e:=Zc (g:=yC 5) (e:=DE) (σ:=úk) (ds:=ϋ λp=>ę p.1) (λd=>match d with|.int a=>.tup ðh|_=>.zO) λd o=>by let{p,l,rfl}:=Èa o;let G:=iP (ps:=ps) (Ģh (f:=(·.1)) l);rw[Ϸp];unfold DE;simp only[Ø,G]
  rw[e,ϰ];show ĳ À (üf λp l=>?_);exact ύ [.int p.1,.int (gX ps p.1)]=pD p;rw[z0p Äd l];rfl
 refine{ps,P,by omega,?_}
 let w:Nf ük=À ϛm:=by unfold Nf;show kj ?_ Ê;generalize Ϥ ę=NS at B ⊢;simp only[Ø,B]
 rw[z8i];unfold E5;generalize Ϥ ę=NS at w e1 t A ⊢;simp only[Ø,w,e1,t,A]
def Ya:FS:=(yb (tE (e2 zh ı ī))
     (jq 2 ī (zg Wm (jA à Ôb þ zF)))
     (yb (tE (e2 zh ı Ŋ))
       (jq 2 Ŋ (zg Wj (jA à őd þ zF)))
       (yb (tE (e2 zh ı Ϛa))
         (jq 2 Ϛa (zg Wl (jA à ĝb þ zF)))
         (jq 2 Ēb él))))
def E9:FS:=
 (zQ (qF 2 (xv (zC ϰa (zC ϰa (zC ϰa (Α ϰa))))))
  (zQ (jK (vt (e2 zJ (xv (zC (δa (Ϭb ę ĝp)) (zC (δa (Ϭb ę Ěp)) (zC (δa (Ϭb ę ěp)) (Α (δa (Ϭb ę Ĝp))))))) (e2 xE ą Ńb))) īc
   Ya)
  Ák))
def YA:Á D->É å:=FR 2 4 E9
def z8m(a x1:D):YA č=yL 4 E9 č:=rfl
def C_:yZ:=
 (wB (qR 5 (wm (we Wu Ĕi)))
  (wB (qR 6 (wm (we Wt (Νc (e2 xN ı Ŝb)))))
  (wB (qR 7 (IC à ZM (vA þ Ϡl)))
  (wB (qR 8 (IC à ZM (vA ą Ϡl)))
  (wB (qR 9 (kB à ϰc 7 [] j4 Ăe))
  (wB (Yc (X1 (ο (zg tL (jA à Şb Ůb zF))))
   ϐn
   Yd)
  (wB (Yc (Ow (M8 ĸo (kB à ϰc 8 [] j4 Ăe) (wm œg)))
   ϑn
   Yd)
  (wB (qR 10 (wm (zg uC (Νc (e2 xN ı ϊn)))))
  (Ye (gD (e2 zh (zg YA (zC Ůb (Α (z7 10)))) (zg YA (zC (z7 8) (Α (e2 vK (z7 10) Ńb)))))))))))))))
def Wr:FM:=uB 5 11 C_
def z8g(b x1 a x3 x4:M):Wr ĳf=wy 5 11 C_ ĳf:=rfl
def Cz:yZ:=
 (wB (qR 1 (wm (we T3 (Οa (zC Ŋ (Θ Ϙp))))))
  (wB (Yc (νa (e2 zh (e2 xE (zg uC (Οa (Θ (.int 28)))) Ēb) Ŋ))
   (qR 1 (wm (zg JN (Υ (Οa (Θ (.int 46)))))))
   Yd)
  (Ye (jZ Wr (vA ą (vA (we V1 Ïb) (vA þ (vA (eC éj) (vA (eC ħe) vq)))))))))
def bP:FM:=uB 1 2 Cz
def z8f(a:M):bP [a]=wy 1 2 Cz [a]:=rfl
def D4(s:xL)(b:Ð):Á D:=[.lst żf,.tup [.bl s.a,.bl s.b,.bl s.c],.lst (Tj Íc),.bl b]
theorem x73{Z t v1 s u:D}{E A I B:Ð}{μ:Æ}(o:∀m∈[Ôb,őd,ĝb,Şb],∀τ:zw,jA à (ŭa m) þ zF (À (Ã,Z)::τ)=À [Z])(C:Wm [Z]=À (E,t))(F:Wj [Z]=À (A,v1))(y:Wl [Z]=À (I,s))(H:tL [Z]=À (B,u)):YA [Z,.int μ]=À (Ä,.lst [t,v1,s,u]):=by
 let G:=o Ôb Ò;let v:=o őd Ò;let x:=o ĝb Ò;let w:=o Şb Ò
 let q:∀a b:Â,zh âe ľn=À (ι (a=b)):=λa b=>by
  exact À (Ìb Ķm)=_;by_cases c:a=b;subst c;rw[ú rfl,đb];rw[ď c];let:Ķm=Ã:=by rw[ùf];omega
  rw[this]
 let n:∀f j h g:D,Ya [À (Ã,Z),À (Ã,.int μ),À (Ä,.lst Ág),À (Ã,.int 0)]=À (.nx [À (Ã,Z),À (Ã,.int μ),À (Ä,.lst [t,j,h,g]),À (Ã,.int 0)]):=λf j h g=>by let e:zh ů ů=À İ:=rfl;let i:Åc 4 0=À 0:=rfl;unfold Ya;simp only[Ø,e,G,C,jq,i]
 let r:∀f j h g:D,Ya [À (Ã,Z),À (Ã,.int μ),À (Ä,.lst Ág),À (Ã,.int 1)]=À (.nx [À (Ã,Z),À (Ã,.int μ),À (Ä,.lst [f,v1,h,g]),À (Ã,.int 1)]):=λf j h g=>by let k:zh ûa ů=À ý:=rfl;let e:zh ûa ûa=À İ:=rfl;let i:Åc 4 1=À 1:=rfl;unfold Ya;simp only[Ø,k,e,v,F,jq,i]
 let p:∀f j h g:D,Ya [À (Ã,Z),À (Ã,.int μ),À (Ä,.lst Ág),À (Ã,.int 2)]=À (.nx [À (Ã,Z),À (Ã,.int μ),À (Ä,.lst [f,j,s,g]),À (Ã,.int 2)]):=λf j h g=>by let k:zh ðb ů=À ý:=rfl;let e1:zh ðb ûa=À ý:=rfl;let e:zh ðb ðb=À İ:=rfl;let i:Åc 4 2=À 2:=rfl;unfold Ya;simp only[Ø,k,e1,e,x,y,jq,i]
 let l:∀f j h g:D,Ya [À (Ã,Z),À (Ã,.int μ),À (Ä,.lst Ág),À (Ã,.int 3)]=À (.nx [À (Ã,Z),À (Ã,.int μ),À (Ä,.lst [f,j,h,u]),À (Ã,.int 3)]):=λf j h g=>by let k:zh ŋe ů=À ý:=rfl;let e1:zh ŋe ûa=À ý:=rfl;let e2:zh ŋe ðb=À ý:=rfl;let i:Åc 4 3=À 3:=rfl;unfold Ya;simp only[Ø,k,e1,e2,w,H,jq,i]
 rw[z8m];unfold E9;rcases(show μ%4=0\/μ%4=1\/μ%4=2\/μ%4=3 by omega)with z|z|z|z;let i:∀a b c d:D,zJ Ģf ů=À a:=λ_ _ _ _=>rfl
 simp only[Ø,z,i,n,r,p,l];let i:∀a b c d:D,zJ Ģf ûa=À b:=λ_ _ _ _=>rfl
 simp only[Ø,z,i,n,r,p,l];let i:∀a b c d:D,zJ Ģf ðb=À c:=λ_ _ _ _=>rfl
 simp only[Ø,z,i,n,r,p,l];let i:∀a b c d:D,zJ Ģf ŋe=À d:=λ_ _ _ _=>rfl
 simp only[Ø,z,i,n,r,p,l]
theorem z0a{X:Á D}{fw fh:D}{s:xL}{i:Â}{j μ:Æ}{b:Ð}(h:tL ëd=À (Ã,.bl b)):YA [YN X fw fh s i j,.int μ]=À (Ä,.lst (D4 s b)):=by
 show x73 (λm a τ=>Lv rfl ?_ rfl) x18 y2j y2p h
 revert m
 rw[Ϩp]
def l7{m o S L Q:D}{l n fw fh:D}{e1 e2 y:Æ}{q w:M}{g μ:Æ}{b:Ð}(F:Wu Įo=À (Ä,L))(H:Wt Ĭo=À (Ä,Q))(R:uC ĭo=À (Ã,.int μ))(i1:ZM [.obj à [] [],.fz m,.fz L,.fz Q]=À ([xF l e1 fw fh q 0 0,.fz m,.fz L,.fz Q],.fz .zO))(A:ZM [.obj à [] [],.fz o,.fz L,.fz Q]=À ([xF n e2 fw fh q 0 0,.fz o,.fz L,.fz Q],.fz .zO))(I:j4 [xF l e1 fw fh q 0 0,.fz ħe]=À ([xF l e1 fw fh w y g,.fz ħe],.fz (.int g)))(E:tL [vJ l e1 fw fh (vd w) y g]=À (Ã,.bl b))(h:b=Ä->∃(r:M) (x f:Æ) (v:D) (a c:Ð),j4 [xF n e2 fw fh q 0 0,.fz ħe]=À ([xF n e2 fw fh r x f,.fz ħe],.fz (.int f))/\f<=g/\YA [vJ l e1 fw fh (vd w) y g,.int μ]=À (a,v)/\YA [vJ n e2 fw fh (vd r) x f,.int (μ/4)]=À (c,v)/\zh v v=À İ) :Wr īk=À (īk,.fz İ):=by
 let J:∀{T fw fh:D}{e d j:Æ}{s:M},ŷb ϰe=Å:=rfl;let B:∀{T fw fh:D}{e d j:Æ}{s:M}{o0 a c o3 o4 o5 o6 o8 o9 o10:É M},kB à ϰc 7 [] j4 Ăe ϡg=(vA Ŝ vq ϡg).bind λu=>YL j4 (.p 7 []::u) ϡg:=rfl
 let P:∀{T fw fh:D}{e d j:Æ}{s:M}{o0 a c o3 o4 o5 o6 o7 o9 o10:É M},kB à ϰc 8 [] j4 Ăe Ϣg=(vA Ŝ vq Ϣg).bind λu=>YL j4 (.p 8 []::u) Ϣg:=rfl
 let G:∀{T fw fh sd:D}{e d j:Æ}{o0 a c o3 o4 o5 o6 o8 o9 o10:É Sl},jA à Şb Ůb zF [o0,a,c,o3,o4,o5,o6,À (Ã,vJ T e fw fh sd d j),o8,o9,o10]=À [vJ T e fw fh sd d j]:=Lv rfl Æa rfl;let C:∀{T fw fh:D}{e d j:Æ}{s:M}{i:Â},k8 ϰe i []=.p i []:=rfl;let k:xN éj æa=À (.int 38):=rfl;let t:xN éj (.int 7)=À (.int 37):=rfl;rw[z8g];unfold C_;cases b with
 |Ã=>simp only[ň,F,H,i1,A,I,J,B,G,WC,E,k,C]|Ä=>let{r,x,f,v,a,c,K,W,N,O,U}:=h rfl;let z:decide (g<f)=Ã:=ď Ê;simp only[ň,F,H,i1,A,I,K,J,B,P,G,WC,E,k,t,C,M8,k9,z,R,N,O,U]
theorem x74(s:xL)(b:Ð):zh Ęn Ęn=À İ:=z6u (by
 let e1:qq 5 ľp=Ä:=âd λx a=>by let{n,_,rfl}:=Èa a;rfl
 let e2:qq 5 Ïn=Ä:=âd λx a=>by let{n,_,rfl}:=Èa a;rfl
 exact(qq 5 ľp&&(Ä&&(qq 5 Ïn&&(Ä&&Ä))))=Ä;rw[e1,e2];rfl)
def i8{X:Á D}(P:PC X){Ws:Á Æ}{ps:Á ķ}(w:W8 Ws)(p:j6 ps)(a:ģ<=1000):ZM [.obj à [] [],.fz (.lst X),.fz ĝa,.fz œm]=À ([mX X ĝa Ød {Ws,Ã,Ã,Ã,ps} 0 0,.fz (.lst X),.fz ĝa,.fz œm],.fz .zO):=
 x1f (Ym ũ) (D3 P) (ã ..) (ÿ ſc (ÿ Òc Ò)) w.l w.h (z4i p a)
def y1u{X Y:Á D}(a:PC X)(i:PC Y)(H:jU X Y){S:D}{Ws:Á Æ}{ps:Á ķ}{μ:Æ}(w:W8 Ws)(p:j6 ps)(l:ģ<=8)(v:Wu Įo=À (Ä,.lst Ŕ))(C:Wt Ĭo=À (Ä,.lst ϕc))(s:uC ĭo=À (Ã,.int μ)):Wr Ćk=À (Ćk,.fz İ):=by
 let g:Gd 8 {Ws,Ã,Ã,Ã,ps}:={w,p,l};let E:=i8 a w p Ńo;let y:=i8 i w p Ńo;let{k,e,t,r,G,B,z,gt}:=z0b a 50 Ò g Ĩb
 let o:=rB (fw:=.lst Ŕ) (fh:=.dic ĸ ų) (j:=0) a (m:=50) Ò r G (by rcases z with z|z;show .inl z;show(Ķh B).elim (λq=>.inr {q,z}) .inl)
 rw[show(0:Æ)+(k:Æ)=(k:Æ) by omega]at o;rcases x51 (fw:=.lst Ŕ) (fh:=.dic ĸ ų) (j:=(k:Æ)) a gt Ò G with⟨d,c⟩|⟨_,c⟩;let{n,f,h,x,A}:=H 8 k _ e t Ê g r d;let u:=rD i Ê g x Ĩb;let F:=rB (fw:=.lst Ŕ) (fh:=.dic ĸ ų) (j:=0) i (m:=50) Ò x u ((Ķh (ÿ h B)).elim (λq=>.inr {q,A}) .inl);rw[show(0:Æ)+(n:Æ)=(n:Æ) by omega]at F;refine l7 (b:=Ä) v C s E y o ĭm λ_=>{U8 t,(f:Æ),(n:Æ),.lst (D4 t Ä),Ä,Ä,F,by omega,?_,?_,x74 t Ä};rw[QH];show z0a c;rw[QH];show z0a (S6 A u).1;show l7 (b:=Ã) v C s E y o ĭm nofun
def x1s:∀ns:Á Æ,ţ<=63->(∀m∈ns,vV m<=1048576)->∃r,bP űh=À (r,.fz İ):=λns c b=>by
 let{_,_,v,_,_,_,_,P,_,l,e}:=y9r c b (first:=1) (Ťa:=12) Ò Ò Ò Ò;let{a,T,S,j}:=Ze c b (k:=28) Ò Ò;let{μ,_,_,E}:=Ze c b (k:=37) Ò Ò
 let K:∀i:Â,i<41->∃m:Æ,0<=m/\uC [.lst ϯ,.int ío]=À (Ã,.int m):=λi N=>by let{m,w,_,e}:=Ze c b (k:=46+(i:Æ)) Ê Ê;show{m,w,e}
 let{W,H,G,u}:=x19 c b (f:=30) Ò Ò;let{O,y,o,g}:=y2o c b
 let d:∀X:Á D,PC X->Ϧ<=40->∃Y,V1 [.lst X]=À (Ä,.lst Y)/\Wr ök=À (ök,.fz İ):=λX n A=>by let{Y,s,_,p,I}:=y27 n (ÿ ſc (ÿ A Ò));show{Y,p,y1u n s I {G,u} y (ÿ o Ò) H g E}
 let{h,C,Q,x}:=w07 P Ê K;let{L,F,J}:=d v P Ê;let{R,t,B}:=d h C Ê;generalize Ϥ ę=NS at *;show{[.fz (.lst NS)],?_};rw[z8f];unfold Cz;by_cases z:a%3=1;let q:zh Ĵo ûa=À İ:=by rw[z];rfl
 simp only[ň,e,j,q,x,t,B];let q:zh Ĵo ûa=À ý:=by exact À (Ìb (a%3==1))=_;rw[show(a%3==1)=Ã by rw[ùf];show z]
 simp only[ň,e,j,q,F,J]
#print L3
local macro_rules
 | `(tactic| ac_rfl)=>`(tactic| show⟨rfl,rfl,rfl,by decide +kernel,rfl,by decide +kernel,by decide +kernel⟩)
namespace My
open ľ L2 L3
set_option maxHeartbeats 4000000
nonrec def top(i:Â):Ü:=PySem.Challenge.pw_markrun_k58_whole_short_leaves_the_same.main.body.getD i ŭm
section
variable{P:ï}{w:æ}{K:Ô}{mg:Ç->É Value}{Ì:Heap}{Uk:Ë}{Wg:Ë}{Um:Ë}{Uo:Ë}{Ul:Ë}{Uq:Ë}{Ur:Ë}{Up:Ë}{Ui:Ë}{We:Ë}{Uj:Ë}
abbrev HT:=ï->æ->Ô->ųh->Heap->È
section
variable{h:Heap}(X:Ŷ h)(G:ėa Ę mg)
abbrev Pg:Ü:=top 8
def x2p:zm ϳi ϳi (za Pg):=by ac_rfl
variable(Zx:mg Ŗc=Å)(AD:mg ĭc=Å)(AC:mg ūe=Å)
def Ff:=HD ĥi ϳi 1 ZN
def y5x(a:zS K ĥi Pg):Ff P w K mg Ì:=(ź).oS P w Ì 0 ZN x2p yT λb=>(Θb (Zq (UA (tF (Of .bool rfl rfl Zx AC z49 ŵa)) (QF (Γa (Of .int rfl rfl Zx AD z4a ŵa))))) Ço (Od (tQ y7t gL ϯa ŵa ž) (U4 (tQ Xy gL ŵa (zM (zW kY kU zK Ģ)) ž))))
abbrev P4:Ü:=top 9
def rK:zm [Ūe,ße,ϻ,"total"] Ŝn (za P4):=by ac_rfl
variable(TY:v6 mg "BEYOND" Ód)(Tv:∀H,zZ K H Ód Ód)
def FY:=HD Łj Ŝn 1 Uv
def y58(a:zS K Łj P4):FY P w K mg Ì:=(Ĝb).oS P w Ì 0 Uv rK yT λb=>(zb (yU (i:=3) rK.nd rfl á (zW wM wL ėm ðm)) (Οb (zD (zW xX xV ϴa ϵh) (Γ (tQ y7p gL îg (zM ϵh) ϴj)))))
abbrev RP:Ü:=top 10
def rS:zm [Ūe,ße,"borrow",Ĥa] ϕl (za RP):=by ac_rfl
def Fx:=HD ĺj ϕl 1 T7
def y79(a:zS K ĺj RP):Fx P w K mg Ì:=(Ĝb).oS P w Ì 0 T7 rS yT λb=>(zb (yU (i:=3) rS.nd rfl á (zW Zj Zi (zW Zj Zi ĝ Ģ) ðm)) (Θb (yN Xy gL Ϥf ϯa ž) (Οb (zD (zW wM wL ϴa ϵh) úe)) (Ψ (zD ϴa úe))))
abbrev RD:Ü:=top 13
def x2z:zm ϓh ϓh (za RD):=by ac_rfl
def Fw:=HD ϐj ϓh 1 vG
def y6y(a:zS K ϐj RD):Fw P w K mg Ì:=(Ĝb).oS P w Ì 0 vG x2z yT λb=>(Δ (zW O9 qS Ęm Ϩk))
abbrev RW:Ü:=top 14
def rW:zm [ķa,Ţg,ıf,åa,ϐi] Çm (za RW):=by ac_rfl
def Fz:=HD ġi Çm 1 V3
def y7f(a:zS K ġi RW):Fz P w K mg Ì:=(Äp).oS P w Ì 0 V3 rW yT λb=>(zb (yU (i:=4) rW.nd rfl á (zW kY kU Ϩk Ģ)) (Δ (zW kX qS (zW O9 qS ĝ (W5 z0j z0h Ía)) (zW kY kU ϴa Ģ))))
abbrev RZ:Ü:=top 16
def x36:zm ćj ćj (za RZ):=by ac_rfl
variable(AE:mg "sum"=Å)(L0:mg ŀa=Å)(IR:v6 mg Āo Øg)(OJ:∀H,zZ K H TZ Øg)
def F_:=HD όi ćj 1 JX
def y7i(a:zS K όi RZ):F_ P w K mg Ì:=(ŭ).oS P w Ì 0 JX x36 yT λd=>(Δ (ue (z56 rfl) y76 rfl AE z4f (v_ (Ξa (uI rfl (vI (own:=["byte",Ţg]) rfl) (sH rfl L0 ĝ ħn) (Jw (Λb (υ (ζ Ùl) (ε (Φ Ùl)))) rfl rfl) Ōc (Λb (zW kY kU Ģ ļ)))) uH)))
abbrev Pe:Ü:=top 21
def x2o:zm ϭb ϭb (za Pe):=by ac_rfl
def Fe:=HD Śi ϭb 1 XU
def y5w(a:zS K Śi Pe):Fe P w K mg Ì:=(ŭ).oS P w Ì 0 XU x2o yT λb=>(Δ Ľh)
abbrev Pd:Ü:=top 22
def x2n:zm ϭb ϭb (za Pd):=by ac_rfl
variable(Gc:v6 mg "JUMPS" Ög)(NP:∀H,zZ K H Ma Ög)
def Fd:=HD ϖi ϭb 1 XT
def y5v(a:zS K ϖi Pd):Fd P w K mg Ì:=(ŭ).oS P w Ì 0 XT x2n yT λb=>(Δ (tQ ğj pL Ēj (zM (vB Gc NP rfl)) ľc))
abbrev R1:Ü:=top 37
def x2w:zm ķd ķd (za R1):=by ac_rfl
variable(Gh:v6 mg ůo æa)(NV:∀H,zZ K H æa æa)(VP:v6 mg "MARKS" Ïg)(Vu:∀H,zZ K H Ta Ïg)(KH:CD K Wg)
def Fo:=HD ŗi ķd 1 Ww
def y6l(a:zS K ŗi R1):Fo P w K mg Ì:=(ŭ).oS P w Ì 0 Ww x2w yT λb=>(Δ (zW kY kU zK (zW wM wL (vB Gh NV rfl) (x3b VP Vu KH rfl ĝ))))
abbrev R5:Ü:=top 38
def x2x:zm [āa] [āa] (za R5):=by ac_rfl
def Fp:=HD Őh [āa] 1 FX
def y6o(a:zS K Őh R5):Fp P w K mg Ì:=(ŭ).oS P w Ì 0 FX x2x yT λb=>(Δ (Od (rZ Ľh (U4 Ľh)) (U4 (ψ Ēj ϯa))))
abbrev RU:Ü:=top 40
def x34:zm Þi Þi (za RU):=by ac_rfl
variable(X2:mg Ųa=Å)(O_:mg Ś=Å)
def Fy:=HD Ģi Þi 1 JV
def y7d(a:zS K Ģi RU):Fy P w K mg Ì:=(Ĝb).oS P w Ì 0 JV x34 yT λb=>(zb (xG Ąf ůn xj) (zb (xG Ąf (Ε (wR ŕb ßc)) xj) (zb (xG (yN B9 B7 ėc įg ž) (Ε (wR Ŋp ßc)) xj) (Ε (Μd (wR (zD Ýd ŕb) ϋd))))))
abbrev R8:Ü:=top 44
def Bd:zm [Ğc,Ěb,ĸj,ĉc] ċp (za R8):=by ac_rfl
def Fu:=HD ģi ċp 1 Wz
def y6t(a:zS K ģi R8):Fu P w K mg Ì:=(ź).oS P w Ì 0 Wz Bd yT λb=>(zb (yU (i:=2) Bd.nd rfl á zK) (Ηa (ug Ģ) (δ (yt (i:=3) Bd.nd rfl á)) (zc (yU (i:=2) Bd.nd rfl á (zW kX qS ļ (zX ŉ zV ĝ ϱ)))) (yo ļ)))
abbrev PB:Ü:=top 45
def OU:zm Ål [Ũe] (za PB):=by ac_rfl
variable(uT:mg Şa=Å)(wT:mg "len"=Å)(pW:mg ϙb=Å)
def Fa:=HD ħi [Ũe] 1 Uz
def y5f(a:zS K ħi PB):Fa P w K mg Ì:=(ŭ).oS P w Ì 0 Uz OU yT λb=>(x4x (i:=1) rfl (x4f (i:=1) rfl Űg rfl rfl (vI (own:=[ĉc]) rfl) rfl (Ρb (zW wM wL æe zK)) (Ο (θc (wJ Ål [ĉc]))) śf) (y4g (mJ īa rfl ìn (x3v (υ (yt (i:=3) Űg rfl á) (ε (yt (i:=4) Űg rfl á))) rfl rfl) (K_ (mJ īa rfl (ug Ía) (x3w (yt (i:=2) Űg rfl á) rfl) (K_ (y4e üa Śg ļ ϱ))))) (K_ y4f)))
abbrev Pz:Ü:=top 57
def x2u:zm ϴi ϴi (za Pz):=by ac_rfl
def Fn:=HD Ři ϴi 1 JP
def y6h(a:zS K Ři Pz):Fn P w K mg Ì:=(ź).oS P w Ì 0 JP x2u yT λb=>(Δ (Od (tQ Xy gL ùc Đj ž) (U4 (ψ (Αb þf) Đa))))
abbrev R6:Ü:=top 59
def OY:zm [åa,"name",Ĥa] [åa] (za R6):=by ac_rfl
variable(IS:v6 mg Üp Ϡb)(OK:∀H,zZ K H Ϡb Ϡb)
def Fq:=HD ϓi [åa] 1 T5
def y6q(a:zS K ϓi R6):Fq P w K mg Ì:=(ŭ).oS P w Ì 0 T5 OY yT λb=>(zb (yU (i:=1) Ŭg rfl á yA) (zb (yU (i:=2) Ŭg rfl á (zW wM wL ĝ zK)) (zb (Ot īa (yN mV gL ėc ϯa ž) (zb (yU (i:=1) Ŭg rfl á (zW wM wL (Χ (vB IS OK rfl) (zW xX xV Śm ćl)) Ģ)) (zc (yU (i:=2) Ŭg rfl á (zW ub ua Śm ćl))))) (zc Ĕj))))
abbrev RC:Ü:=top 71
def x2y:zm [øa] [øa] (za RC):=by ac_rfl
def Fv:=HD Ŗi [øa] 1 JR
def y6x(a:zS K Ŗi RC):Fv P w K mg Ì:=(ŭ).oS P w Ì 0 JR x2y yT λb=>(Ε (uI rfl (vI (own:=[Ϗb]) rfl) (ug (yQ (x3t rfl rfl X2 Ĕb))) (Ξb (ζ (wJ [øa] [Ϗb]))) (ζa (Γc (zM þf))) (Οc (Ρ (Γ þf)))))
abbrev P7:Ü:=top 72
def x2a:zm žc žc (za P7):=by ac_rfl
def FZ:=HD ϗi žc 1 Ux
def y5c(a:zS K ϗi P7):FZ P w K mg Ì:=(ź).oS P w Ì 0 Ux x2a yT λb=>(Δ (x3a üa ĝ Ģ zK {rfl,rfl,rfl,rfl}))
abbrev P1:Ü:=ZX (top 79) 0
def x27:zm Ďd Ďd (za P1):=by ac_rfl
variable(gY:mg Ĩ=Å)(Zw:mg Ña=Å)(wc:vh K [ŀ] Þb)(qk:vh K [ŀ] Ýb)(jX:vh K [ŀ] øa)
def y57{f:Ë}{c:Ņ}(d:vo K åb Űm P1 f c):xc P w K mg Ì xS 1 f c Ďd Šp:=d.oM P w mg Ì 0 Uu x27 uW λe=>(wQ (kN Ϫ wc (Kr (Rq rfl gY óc))) (wQ (kN Ϫ qk (Kr (Ωb (Ρd (Εc (yt (i:=3) (show(wJ Ďd ķd).Nodup by rw[Ϩp]) rfl á)) (Ψ (zD ϱ úe)))))) (wv (kN Ϫ jX (Kr (x3o rfl Zw Jy ŕb))))))
abbrev PQ:Ü:=top 80
def x2i:zm œ œ (za PQ):=by ac_rfl
def Fc:HT:=λP w K mg Ì=>wu P w K mg Ì Úg œ 1 (xr K JC)
def y5o(a:zS K Úg PQ):Fc P w K mg Ì:=(ź).oM P w Ì 0 JC x2i uW λb=>(ξ (vO Ķb))
abbrev PH:Ü:=top 82
def x2d:zm œ œ (za PH):=by ac_rfl
def Fb:HT:=λP w K mg Ì=>wu P w K mg Ì ϩf œ 1 (xr K J8)
def y5i(a:zS K ϩf PH):Fb P w K mg Ì:=(ź).oM P w Ì 0 J8 x2d uW λb=>(ξ (Zf Ķc))
abbrev Pi:Ü:=top 87
def x2r:zm ļh ļh (za Pi):=by ac_rfl
def Fg:=HD ïj ļh 1 U_
def y60(a:zS K ïj Pi):Fg P w K mg Ì:=(Ĝb).oS P w Ì 0 U_ x2r yT λb=>(zb (χ ŵa Đa (zW O9 qS Ģ ļ)) (zb (χ ŵa Đa (zW kX qS Ģ ļ)) (Δ (zW y81 qS Ģ ļ))))
abbrev Py:Ü:=top 96
def x2t:zm œ œ (za Py):=by ac_rfl
def Fm:=HD ľj œ 1 gr
def y6g(a:zS K ľj Py):Fm P w K mg Ì:=(ź).oS P w Ì 0 gr x2t yT λb=>(zb (χ łe Đa êl) (zb (χ łe Đa (x3e êl)) (Δ (ψ łe Đa))))
abbrev Nz:Ü:=ZX Ďc 2
def x26:zm [ŝ] [ŝ] (za Nz):=by ac_rfl
variable(YG:vh K [à] ûb)(VB:vh K [à] ŗa)(Jn:vh K [à] īb)
def y54{f:Ë}{b:Ņ}(d:vo K Şb Ųm Nz f b):xc P w K mg Ì xS 1 f b [ŝ] ŧp:=d.oF P w mg Ì 0 tL x26 yT λa=>(Δ (rZ (ιd (vZ ĝ YG) (vZ ĝ Jn)) (U4 (ιd (zX (zU (zR a)) zV ŀk zK) (wz (zD yA zP) ßc)))))
abbrev Nx:Ü:=ZX Ďc 5
def x25:zm [ŝ] [ŝ] (za Nx):=by ac_rfl
variable(gB:vh K [à] Ÿa)
def y52{f:Ë}{a:Ņ}(d:vo K Ôb ϸl Nx f a):xc P w K mg Ì xS 1 f a [ŝ] Ũp:=d.oF P w mg Ì 0 Wm x25 yT λb=>(Ε (Rq rfl gY (Γ (vZ ŵf wc))))
abbrev Nv:Ü:=ZX Ďc 6
def x23:zm [ŝ] [ŝ] (za Nv):=by ac_rfl
variable(UI:mg Ϗ=Å)
def y50{f:Ë}{c:Ņ}(d:vo K őd Ϯm Nv f c):xc P w K mg Ì xS 1 f c [ŝ] Ūp:=d.oF P w mg Ì 0 Wj x23 yT λe=>(Γd (Ρd (Εc (ζ (wJ ["self"] ķd))) (zX (zU (zR e)) zV (vZ ŵf qk) Ģ)))
abbrev Pm:Ü:=top 105
def x2s:zm ěe ěe (za Pm):=by ac_rfl
def Fh:=HD ϧh ěe 1 JK
def y65(a:zS K ϧh Pm):Fh P w K mg Ì:=(ź).oS P w Ì 0 JK x2s x1t λb=>(ω (yN Xy gL (zM Ģ) Đj ž) (Δ þf) (yo zK))
abbrev Px:Ü:=top 107
def Rk:zm [Ýe] [] (za Px):=by ac_rfl
def Fk:=HD ôi [] 1 JO
def y6f(a:zS K ôi Px):Fk P w K mg Ì:=(a.d0 X G).oS P w Ì 0 JO Rk yT λb=>(zb (yU (i:=0) Rk.nd rfl á (yQ (wR (zD yA (zD yA (zD yA (zD yA (zD yA Œo))))) (yP (zd (zd (zd (zd (zd (zd ñh)))))) Ò)))) (zb (yU (i:=0) Rk.nd rfl á (υd (wR Œo (yP (zd ñh) Ò)))) (Δ (υd (wR Ýk (yP ñh Ò))))))
abbrev Pq:Ü:=top 109
def Q2:zm [Ϝa,Ïe,"_law_letters","_law_size",ûo,"_law_spot"] Ĕp (za Pq):=by ac_rfl
def Fi:=HD õi Ĕp 1 JL
def y69(a:zS K õi Pq):Fi P w K mg Ì:=(ź).oS P w Ì 0 JL Q2 yT λd=>(zb (yU (i:=2) Ϡe rfl ċa yA) (zb (yU (i:=3) Ϡe rfl á řm) (zb (yU (i:=4) Ϡe rfl ċa (x3d yA (Ξa (uI rfl čh Ún Ök Ōc (Μ (θd (zW ub ua ōc (zX ùm zV (yQ (wR (OT (is:=ϻg) rfl) (yP (Jr (n:=7) Ò) Ò))) ëb)))))))) (zb (yU (i:=5) Ϡe rfl ċa (zW xX xV ōc Ϩd)) (zb (yU (i:=4) Ϡe rfl ċa (Og Ía Oj (Ol zK))) (Ε (uI rfl čh (kq rfl uT Ģ) Ök Ōc (Μ (zW wM wL (zW wM wL (Og Ía Oj (Ol ύa)) (θd (zW wM wL ōc ëb))) (Og Ía (Ol ύa) Oj))))))))))
abbrev R3:Ü:=top 11
def Rm:zm [ķa,ŀj,"moved","fallen"] Łf (za R3):=by ac_rfl
variable(Xn:v6 mg üo Ϝb)(W2:∀H,zZ K H Ϝb Ϝb)(jE:Fw P w K mg Ì)
def cA:=HD ïi Łf 2 Wx
def y6m(a:zS K ïi R3):cA P w K mg Ì:=(ź).oS P w Ì 1 Wx Rm yT λb=>(zb (yU (i:=2) Rm.nd rfl á (zW kY kU ĝ Ģ)) (zb (yU (i:=3) Rm.nd rfl á (Ξd (zD ļ (zD Ĥh Ŝc)))) (Οb (zD (Ηd ňp) Âj))))
abbrev R4:Ü:=top 12
def rO:zm [ķa,ŀj,"fallen"] Łf (za R4):=by ac_rfl
def cB:=HD Èi Łf 2 Wy
def y6n(a:zS K Èi R4):cB P w K mg Ì:=(ź).oS P w Ì 1 Wy rO yT λb=>(zb (yU (i:=2) rO.nd rfl á (Ξd (zD ĝ (zD (zW Zj Zi Ģ zK) Ŝc)))) (Οb (zD Ęm ŕb)))
abbrev P9:Ü:=top 15
def x2b:zm [ķa] [ķa] (za P9):=by ac_rfl
def bU:=HD śi [ķa] 2 Uy
def y5e(a:zS K śi P9):bU P w K mg Ì:=(ŭ).oS P w Ì 1 Uy x2b yT λd=>(Γd (uI rfl (vI (own:=[Ţg]) rfl) (ug ħn) (Ο (Λb (ζ (wJ [ķa] [Ţg])))) Ōc (Λb (yG jE d rfl (zD ĝ (zD Ģ Ŝc))))))
abbrev RL:Ü:=top 23
def x31:zm [Ħ] [Ħ] (za RL):=by ac_rfl
variable(VV:Fe P w K mg Ì)
def cL:=HD ϑi [Ħ] 2 uO
def y74(a:zS K ϑi RL):cL P w K mg Ì:=(ŭ).oS P w Ì 1 uO x31 yT λd=>(Ε (uI rfl Üm ęc (Αe (wJ [ϣb] ϭb)) (Μ (Yw (Γa (yG VV d rfl óc)))) (λC s H b c=>Ģ)))
abbrev Pj:Ü:=top 24
def OV:zm [Ħ,Ěb,ĉc,Ϛj] [Ħ] (za Pj):=by ac_rfl
def bn:=HD Ϧh [Ħ] 2 Wq
def y61(a:zS K Ϧh Pj):bn P w K mg Ì:=(ŭ).oS P w Ì 1 Wq OV yT λb=>(zb (pT (i:=1) ůg rfl á Q7) (zb (yU (i:=2) ůg rfl á zK) (Ηa ęc (δ (yt (i:=3) ůg rfl á)) (zc (xG (tF (yG VV b rfl ġe)) (zc (QC üa Śg ϻd ļ)) (zc (sQ (i:=2) KE N2 ůg rfl á zK)))) Çk)))
abbrev RT:Ü:=top 35
def Oc:zm Čp [āa] (za RT):=by ac_rfl
variable(IP:v6 mg ϝn Ůc)(OH:∀H,zZ K H Ůc Ůc)(Gf:v6 mg ÿo Ôg)(NR:∀H,zZ K H Gq Ôg)(Gg:v6 mg þo Óg)(NU:∀H,zZ K H Gu Óg)(Ge:v6 mg ϰm Õg)(NQ:∀H,zZ K H Gp Õg)(Xo:Fo P w K mg Ì)
def cR:=HD Ϗj [āa] 2 t4
def y7c(a:zS K Ϗj RT):cR P w K mg Ì:=(ŭ).oS P w Ì 1 t4 Oc yT λb=>(zb (χ Ēj Đa Ĩn) (Κa (Zq (UA Ąf (QF Ąf))) (Δ (yG Xo b rfl ŏo)) (yU (i:=1) Oc.nd rfl á zK) (zb (γd (vB Gf NR rfl)) (zb (γd (vB Gg NU rfl)) (ω (γa (vB Ge NQ rfl)) (Ψc ϳg) Ĕj)))))
abbrev RG:Ü:=top 36
def OZ:zm Čp [āa] (za RG):=by ac_rfl
variable(Gj:v6 mg "PUT_D" Ñg)(NX:∀H,zZ K H Gw Ñg)(Gk:v6 mg ŗl Ðg)(NY:∀H,zZ K H Gx Ðg)(Gi:v6 mg ýo Òg)(NW:∀H,zZ K H Gv Òg)(Hh:Fp P w K mg Ì)
def cH:=HD "put" [āa] 2 qe
def y70(a:zS K "put" RG):cH P w K mg Ì:=(ŭ).oS P w Ì 1 qe OZ yT λb=>(zb (yU (i:=1) ūg rfl á zK) (Κa (γa (vB Gj NX rfl)) (zc (yU (i:=1) ūg rfl á (zW kX qS Ģ ϴk))) (xG (γa (vB Gk NY rfl)) (zc (yU (i:=1) ūg rfl á (zW kX qS ęm ϳg))) xj) (ω (Zq (Bu (γa (vB Gi NW rfl)) (Bv (Γa (yG Hh b rfl Ĕb))))) (zc (yU (i:=1) ūg rfl á ęm)) Ĕj)))
abbrev RX:Ü:=top 53
def Q5:zm [Ħ,ťf,ðp,åa,"kept",Ϛj] ĕp (za RX):=by ac_rfl
def cT:=HD ώi ĕp 2 T8
def y7g(a:zS K ώi RX):cT P w K mg Ì:=(ź).oS P w Ì 1 T8 Q5 yT λb=>(zb (yU (i:=2) ϝe rfl á (yQ (Ωb (uI rfl ūl (ug Ģ) (Ξc (yt (i:=6) (show(wJ [ϣb,ťf,ðp,ĥd,"kept",Ϛj] [ĥd]).Nodup by rw[Ϩp]) rfl á)) ώb (Οc (zD ëb úe)))))) (zb (pT (i:=4) ϝe rfl á Ĺc) (zb (yU (i:=3) ϝe rfl á zK) (Ηa ęc (δ (yt (i:=5) ϝe rfl á)) (zc (xG (tF (yG VV b rfl (Γ ύa))) Ϝl (ω (yN (N6 üa) N4 Ϥf ėc ľc) Ϝl (sQ (i:=3) KE N2 ϝe rfl á zK)))) Æk))))
abbrev Pl:Ü:=top 56
def Ba:zm ["name",ģb,Ěb,"met","last"] ϑm (za Pl):=by ac_rfl
variable(Hd:Fn P w K mg Ì)
def bp:=HD Ĥi ϑm 2 JJ
def y63(a:zS K Ĥi Pl):bp P w K mg Ì:=(Ĝb).oS P w Ì 1 JJ Ba yT λb=>(zb (pT (i:=3) Ba.nd rfl á Q7) (zb (yU (i:=4) Ba.nd rfl á ĝ) (zb (Ot īa (tF (yG Hd b rfl (Ρ ŉp))) (Κa (yN ğj pL (zM Øf) (Q0 3) ľc) (zc (yo ĝ)) (QC üa Űd Øf jL) (zc (yU (i:=4) Ba.nd rfl á (Χ (zX ŉ zV Ģ Øf) Đd))))) (Ou 3 (Δ Ía)))))
abbrev R7:Ü:=top 62
def rP:zm čp [đd] (za R7):=by ac_rfl
variable(Hi:Fq P w K mg Ì)
def cC:=HD ŏh [đd] 2 JQ
def y6r(a:zS K ŏh R7):cC P w K mg Ì:=(ŭ).oS P w Ì 1 JQ rP yT λd=>(zb (yU (i:=1) rP.nd rfl á (yQ (Μd (uI rfl (vI (own:=[Æe]) rfl) ęc (Ζc (wJ čp [Æe])) (Μ (Yw (yN mW mP ėc įg ϴj))) ĕm)))) (Ε (Bg rfl rfl Zw Jy (Μa (uI rfl (vI (own:=[ĥd,ĉc]) rfl) (U5 rfl pW Ģ) (Jw (Μ (υ (Φ Ġl) (ε (Φb Ġl)))) rfl rfl) Ōc (Μ (Ψ (zD ϴa (zD (yG Hi d rfl ŕb) zP)))))))))
abbrev Pc:Ü:=top 70
def x2m:zm [Ŷc] [Ŷc] (za Pc):=by ac_rfl
variable(IN:v6 mg ýn Ϭa)(OG:∀H,zZ K H Ϭa Ϭa)(VW:Ff P w K mg Ì)
def bj:=HD ði [Ŷc] 2 JG
def y5u(a:zS K ði Pc):bj P w K mg Ì:=(ŭ).oS P w Ì 1 JG x2m yT λb=>(Δ (Κc (zD ĝ ϙl)))
abbrev P6:Ü:=top 73
def x29:zm Ϸi Ϸi (za P6):=by ac_rfl
def bS:=HD òi Ϸi 2 Uw
def y5a(a:zS K òi P6):bS P w K mg Ì:=(ź).oS P w Ì 1 Uw x29 yT λb=>(Δ (yG jE b rfl (zD ėm (zD zK ϙl))))
abbrev RH:Ü:=top 76
def x30:zm èe èe (za RH):=by ac_rfl
variable(IQ:v6 mg āo æa)(OI:∀H,zZ K H æa æa)
def cI:HT:=λP w K mg Ì=>wu P w K mg Ì ŕi èe 2 (xr K T6)
def y71(a:zS K ŕi RH):cI P w K mg Ì:=(Ĝb).oM P w Ì 1 T6 x30 uW λb=>(wv (O2 üa Ϫ Ģ (vO (Ηd Ϙl))))
abbrev PJ:Ü:=top 81
def x2e:zm œ œ (za PJ):=by ac_rfl
variable(Hz:Fz P w K mg Ì)
def bX:HT:=λP w K mg Ì=>wu P w K mg Ì Ϩf œ 2 (xr K J9)
def y5j(a:zS K Ϩf PJ):bX P w K mg Ì:=(ź).oM P w Ì 1 J9 x2e uW λb=>(ξ (Zf (yG Hz b rfl (zD Ķc (zD zK (zD zK ϥh))))))
abbrev RN:Ü:=top 84
def x32:zm Õh Õh (za RN):=by ac_rfl
variable(Mb:FY P w K mg Ì)(Hv:Fx P w K mg Ì)
def cN:=HD íj Õh 2 ZO
def y77(a:zS K íj RN):cN P w K mg Ì:=(Äp).oS P w Ì 1 ZO x32 yT λb=>(zb (Αd Éo) (zb (Αd (zD ļ Âj)) (Δ (yG Hv b rfl (Ρ (zD ļ (Γ (Od ϴa (U4 (tQ Ÿg xU ŵa Đa ϴj))))))))))
abbrev R0:Ü:=top 85
def x2v:zm ϸi ϸi (za R0):=by ac_rfl
def c9:HT:=λP w K mg Ì=>wu P w K mg Ì ϔi ϸi 2 (xr K Wv)
def y6k(a:zS K ϔi R0):c9 P w K mg Ì:=(ź).oM P w Ì 1 Wv x2v uW λb=>(wQ (Ιb (vO (ψ ùc ϯa))) (wv (Ιb (vO (ιc (Ρ (zD (zW Zj Zi Ĥh zK) Ŝc)))))))
abbrev Ra:Ü:=top 99
def x37:zm [Ôb] [Ôb] (za Ra):=by ac_rfl
variable(AB:mg "all"=Å)(MY:v6 mg űm æa)(BP:∀H,zZ K H æa æa)
def cV:=HD ìi [Ôb] 2 JY
def y7j(a:zS K ìi Ra):cV P w K mg Ì:=(ŭ).oS P w Ì 1 JY x37 yT λb=>(Κa úl (Ε (sB Ėi Ħn)) (Τb (Zq (UA Ŏk (QF (yN Ïf kT (zM (ς ŵa)) (zM Ħn) ž))))) (zb (Τb (Γa (ue (z4q rfl) y5b rfl AB z4c (v_ (Ξa (uI rfl (vI (own:=ğp) rfl) ęc (Ξb (ζ (wJ [Ôb] ğp))) ώb (Ι (Κc (Ρ ňp))))) uH)))) (Ε (Rq rfl gY Ĕb))))
abbrev Nu:Ü:=ZX Ďc 1
def x22:zm [ŝ] [ŝ] (za Nu):=by ac_rfl
variable(Jo:vh K [à] êc)(Jp:vh K [à] Žb)(Jm:vh K [à] ϡc)(KJ:Li P w K mg Ì ŀ Ďd 1 Šp)
def y4z{f:Ë}{a:Ņ}(d:vo K ŏe ϯm Nu f a):xc P w K mg Ì xS 3 f a [ŝ] şp:=d.oM P w mg Ì 2 XO x22 uW λb=>(wQ (kN Ϫ gB (Kq KJ b rfl (kM (qT Ϫ Jp) (kM (qT Ϫ Jo) pJ)))) (wQ (kN Ϫ YG Ŵj) (wv (kN Ϫ Jm Ŵj))))
abbrev Nw:Ü:=ZX Ďc 7
def x24:zm [ŝ] [ŝ] (za Nw):=by ac_rfl
variable(Hn:Fv P w K mg Ì)
def y51{f:Ë}{a:Ņ}(d:vo K ĝb ųm Nw f a):xc P w K mg Ì xS 2 f a [ŝ] ũp:=d.oF P w mg Ì 1 Wl x24 yT λb=>(Ε (vQ Hn b rfl (Γ (vZ ŵf jX))))
abbrev Po:Ü:=top 106
def rN:zm [ća,ōb,Ϝa] ěe (za Po):=by ac_rfl
variable(HR:Fh P w K mg Ì)
def br:=HD ĩi ěe 2 uC
def y67(a:zS K ĩi Po):br P w K mg Ì:=(ź).oS P w Ì 1 uC rN yT λb=>(zb (yU (i:=2) rN.nd rfl á (zW wM wL (zW wM wL (zW wM wL (zW BC mO (yG HR b rfl ϯe) zK) (zW BC mN zK Ģ)) (zW BC mN zK æe)) zK)) (Δ (Κ (zW BC mO (zW xX xV (zW y7u y6p ļ ļ) zK) zK))))
abbrev Pu:Ü:=top 108
def Q3:zm [Ϝa,ϧd,Ïe,ûo,"_law_one","_law_two","_law_rest"] şn (za Pu):=by ac_rfl
variable(Hb:Fk P w K mg Ì)
def bw:=HD Êi şn 2 JM
def y6c(a:zS K Êi Pu):bw P w K mg Ì:=(Ĝb).oS P w Ì 1 JM Q3 yT λb=>(zb (yU (i:=3) ϟe rfl á (Χ (x38 Hb b rfl) řm)) (zb (yU (i:=0) ϟe rfl á ōc) (zb (yU (i:=4) ϟe rfl á (zW xX xV ĝ ļ)) (zb (yU (i:=5) ϟe rfl á (zW xX xV ōc ļ)) (zb (yU (i:=6) ϟe rfl á ōc) (zb Òk (zb Òk (Κa (Δa üa ϱ (wz (zD yA őo) Êe)) (Δ (wz (zD ϴa (zD Ía (zD ύa (zD (zX ŉ zV (yQ (wR (zD Åg (zD Åg zP)) ϋd)) (Κ ōc)) zP)))) Êe)) (χ îg Đa (Ψ (zD ϴa ĭk))) (zb (xG (Δa üa ϱ (wz ϔk (yP (zd (zd yW)) Ò))) (Δ (wz (zD ϴa (zD (Χ (yQ (wR őo ĕd)) (Κ ύa)) ĭk)) ĕd)) xj) (Θb (Τ îg Đa) (Δ (wz Âj ßc)) (wz (zD ϴa Ěm) ĕd)))))))))))
abbrev RQ:Ü:=top 25
def rT:zm [Ħ,Ěb] [Ħ] (za RQ):=by ac_rfl
variable(Ic:bn P w K mg Ì)(tO:cL P w K mg Ì)(VU:Fd P w K mg Ì)
def cP:=HD íi [Ħ] 3 g6
def y7a(a:zS K íi RQ):cP P w K mg Ì:=(ŭ).oS P w Ì 2 g6 rT yT λb=>(zb (yU (i:=1) rT.nd rfl ċa Ņl) (Ε (Βd (υa (Φ (wJ [ϣb,"places"] [āa]))) (Zo Úl (zX ŉ zV Ģ (Χ õb Đd)) jM))))
abbrev PD:Ü:=top 49
def x2c:zm [Ħ] [Ħ] (za PD):=by ac_rfl
def bV:=HD Ĵh [Ħ] 3 XR
def y5g(a:zS K Ĵh PD):bV P w K mg Ì:=(ŭ).oS P w Ì 2 XR x2c yT λb=>(Ε (uI rfl (vI (own:=[åa,āa]) rfl) (U5 rfl pW ķc) (ψb (ζ ϝl) (ε (Φ ϝl))) (ζa (Zq (Bu (yN ðe xU Áj Đa ž) (Bv (yN ðe xU Áj Áj ž))))) Ĕm))
abbrev P_:Ü:=top 55
def Rl:zm [Ħ,ģb,Ěb] [Ħ] (za P_):=by ac_rfl
variable(HQ:bp P w K mg Ì)
def b_:=HD îj [Ħ] 3 T4
def y6i(a:zS K îj P_):b_ P w K mg Ì:=(ŭ).oS P w Ì 2 T4 Rl yT λb=>(zb (yU (i:=1) Rl.nd rfl ċa ķc) (zb (yU (i:=2) Rl.nd rfl ċa Ņl) (Ε (uI rfl Üm ęc (Ξc (Φb (wJ [ϣb,ģb,Ěb] ϭb))) ώb (Ι (Zo (tF (yG VU b rfl ġe)) (zW wM wL (Og ϱ Oj (Ol Đd)) (wz (Γ (yG HQ b rfl (zD (zX ŉ zV ϱ Đd) (Ρ Ŏo)))) ßc)) ϱ))))))
abbrev Pk:Ü:=top 61
def OW:zm [ģb,đd,"names",Ħ,åa,āa] Ďp (za Pk):=by ac_rfl
variable(Hj:cC P w K mg Ì)
def bo:=HD ři Ďp 3 JI
def y62(a:zS K ři Pk):bo P w K mg Ì:=(ź).oS P w Ì 2 JI OW yT λb=>(zb (yU (i:=2) Ůg rfl á (yG Hj b rfl óc)) (zb (pT (i:=3) Ůg rfl á Ĺc) (zb (kz īa rfl ìn (sD (υ (yt (i:=4) Ůg rfl á) (ε (yt (i:=5) Ůg rfl á))) rfl rfl) (ω (Δa üa Ía õb) (zc (ku Űd (Ψ (zD yA ŉp)))) (ku Űd (Zo (yN B9 B7 (zM ĩh) įg ž) ύa (zW wM wL ύa (wz (Γ (zX ŉ zV ļ ĩh)) ßc)))))) (ω (Δa üa (ue tM tP rfl wT t6 (v_ ŵa uH)) õb) (zc (ku Űd (ωb (zX ŉ zV ļ æe)))) (k_ 3)))))
abbrev Ph:Ü:=top 69
def x2q:zm [Ŷc] [Ŷc] (za Ph):=by ac_rfl
variable(HL:bj P w K mg Ì)
def bm:=HD ϕi [Ŷc] 3 JH
def y5y(a:zS K ϕi Ph):bm P w K mg Ì:=(ŭ).oS P w Ì 2 JH x2q yT λb=>(Θb (Zq (UA (Γa (Of .tuple rfl rfl Zx UI Eu ŵa)) (QF (Γc Đj)))) Ço (Od (yG HL b rfl ŏo) (U4 (Κc (zD Çd Ϙl)))))
abbrev Pa:Ü:=top 74
def x2l:zm [Ϗb] [Ϗb] (za Pa):=by ac_rfl
variable(IW:bS P w K mg Ì)
def bh:=HD Ħi [Ϗb] 3 Wp
def y5s(a:zS K Ħi Pa):bh P w K mg Ì:=(ŭ).oS P w Ì 2 Wp x2l yT λd=>(Ε (uI rfl Ďh ĭn (Αe (wJ [Ϗb] [åa])) Ōc (Μ (yG IW d rfl ϯe))))
abbrev PZ:Ü:=top 83
def rM:zm [Ÿa,āa,Ğc] œ (za PZ):=by ac_rfl
variable(VX:c9 P w K mg Ì)(Ht:cN P w K mg Ì)
def bg:HT:=λP w K mg Ì=>wu P w K mg Ì Ēc œ 3 (xr K gm)
def y5r(a:zS K Ēc PZ):bg P w K mg Ì:=(ź).oM P w Ì 2 gm rM uW λb=>(wQ (pK (i:=2) rM.nd rfl á Ò (Zf (yG Ht b rfl (Γe (zD Ķc (Γ (zX ŉ zV (vZ ĝ qk) yA))))))) (wQ (Ιb (vO íd)) (wQ (ζb (uF íd pJ)) (wv (Vh (Vk (yN Ïf kT łe Đa ž)) (ξ (vO íd)) Vi)))))
abbrev PF:Ü:=top 86
def rL:zm [Ÿa,āa,ķa] œ (za PF):=by ac_rfl
variable(HN:Fg P w K mg Ì)
def bW:HT:=λP w K mg Ì=>wu P w K mg Ì ĭd œ 3 (xr K XS)
def y5h(a:zS K ĭd PF):bW P w K mg Ì:=(ź).oM P w Ì 2 XS rL uW λb=>(wQ (pK (i:=2) rL.nd rfl á Ò (Zf (yG HN b rfl (Γe (Γ (zX ŉ zV (vZ ĝ wc) Ķb)))))) (wQ (ζb (uF ļ pJ)) (ξ ęj)))
abbrev PM:Ü:=top 88
def Rg:zm [Ÿa,āa,ķa,Ğc] œ (za PM):=by ac_rfl
variable(Hf:cA P w K mg Ì)(Hg:cB P w K mg Ì)
def ba:HT:=λP w K mg Ì=>wu P w K mg Ì Ĕe œ 3 (xr K Wo)
def y5m(a:zS K Ĕe PM):ba P w K mg Ì:=(ź).oM P w Ì 2 Wo Rg uW λb=>(wQ (pK (i:=2) Rg.nd rfl á Ò (Zf Ķc)) (wQ (pK (i:=3) Rg.nd rfl á Ò (vO (Zo (Τ łe Đa) (yG Hf b rfl Èo) (yG Hg b rfl Èo)))) (wQ (Ψa (yN mW mP (zM ϻd) įg ž) (Ιb (vO ϻd))) (wQ (ζb (uF ϻd pJ)) (ξ (vO ϻd))))))
abbrev P5:Ü:=top 89
def x28:zm œ œ (za P5):=by ac_rfl
def bR:=HD ói œ 3 XQ
def y59(a:zS K ói P5):bR P w K mg Ì:=(ź).oS P w Ì 2 XQ x28 yT λb=>(Δ (yG IW b rfl (zD Ķc ϥh)))
abbrev Pr:Ü:=top 110
def U3:zm [ća,ċb,ēf,"_law_count",ϧd,Ïe,"_law_rows",ōb,ïd] Šn (za Pr):=by ac_rfl
variable(tu:br P w K mg Ì)(HV:Fi P w K mg Ì)(HY:bw P w K mg Ì)
def bu:=HD őh Šn 3 T3
def y6a(a:zS K őh Pr):bu P w K mg Ì:=(Ĝb).oS P w Ì 2 T3 U3 yT λb=>(zb (yU (i:=3) ŷd rfl á (zW xX xV ļp (zW wM wL ļ zK))) (zb (yU (i:=4) ŷd rfl ċa (yG HV b rfl (zD (ςa Ŋp) (Γ Ϩd)))) (zb (yU (i:=5) ŷd rfl ċa (Χ (yQ (wR Őo ϋd)) (Κ Œm))) (zb (S4 (i:=6) rfl ŷd rfl rfl čh rfl Ún (Ο (ζc (wJ Þk [ōb]))) ώb (Ι (yG HY b rfl (zD (Ρc (zW wM wL Ýd Œg)) Ěm)))) (zb (pT (i:=8) ŷd rfl á Ĺc) (zb (kz īa rfl (kq rfl uT Ϩd) (δ (yt (i:=7) ŷd rfl ċa)) (ω (Zq (UA (Ωa (Ξa (uI rfl (vI (own:=ϴn) rfl) (ug (z8 6)) (Ο (ζc (wJ Þk ϴn))) (ωd (zM (zX ŉ zV Œg Đd)) (zM Öm)) (Ι Œg))) Ňf) (QF (Τ (zM (Κ (zW ub ua Œm zK))) ďj)))) (zc (ku (qv 8) (ωb Öm))) (xG (yN Xy gL ďj Ϥf ž) (zc (ku (qv 8) (zX ŉ zV (z8 6) Ġc))) xj))) (zc (k_ 8))))))))
abbrev Ps:Ü:=top 111
def Bc:zm Ţl ϻf (za Ps):=by ac_rfl
def bv:=HD ťh ϻf 3 Wu
def y6b(a:zS K ťh Ps):bv P w K mg Ì:=(ź).oS P w Ì 2 Wu Bc yT λb=>(zb (pT (i:=2) Bc.nd rfl á Ĺc) (zb (kz īa rfl ĭn (δ (yt (i:=3) Bc.nd rfl á)) (zb (yU (i:=4) Bc.nd rfl á (Ρc (zW wM wL Ģ ϱ))) (zc (ku Ŀe (Χ (yQ (wR (zD Æg (zD Æg (zD śm (zD ϙd zP)))) Êe)) Æg))))) ōo))
abbrev Pp:Ü:=top 112
def Bb:zm Ţl ϻf (za Pp):=by ac_rfl
def bt:=HD Ëi ϻf 3 Wt
def y68(a:zS K Ëi Pp):bt P w K mg Ì:=(ź).oS P w Ì 2 Wt Bb yT λb=>(zb (pT (i:=2) Bb.nd rfl ċa Q7) (zb (kz īa rfl (Ρb (Κ ļp)) (δ (yt (i:=3) Bb.nd rfl á)) (zb (yU (i:=4) Bb.nd rfl á (Ρc (zW wM wL Ýd ϱ))) (zc (QC üa Ŀe (Χ (yQ (wR (zD ϙd (zD ϙd (zD śm zP))) ĕd)) Æg) ϙd)))) (Ou 2 (Ε (x3r (x3p rfl (vI (own:=ϒm) rfl) (x41 (i:=2) rfl (by first|show Or.inl rfl|show Ŏg á|show Ŏg ċa)) (Ο (θc (wJ [Ņn,ċb,Ýe,ōb,Ϝa] ϒm))) ώb (Οc (zD ύa (Γ (zX ŉ zV ļ ύa))))) (z65 (z64 2)))))))
abbrev Pv:Ü:=top 113
def Rj:zm [Āl,Ϝa,"_law_some",ōb] Ċp (za Pv):=by ac_rfl
variable(Sd:g8 P w K mg Ì à Ôb [ŝ] 1 Ũp)(Sa:g8 P w K mg Ì à őd [ŝ] 1 Ūp)(Sc:g8 P w K mg Ì à ĝb [ŝ] 2 ũp)(UF:g8 P w K mg Ì à Şb [ŝ] 1 ŧp)
def Fj:=HD Ĩi Ċp 3 YA
def y6d(a:zS K Ĩi Pv):Fj P w K mg Ì:=(ź).oS P w Ì 2 YA Rj yT λb=>(zb (pT (i:=2) Rj.nd rfl á (wR (zD jM (zD jM (zD jM (zD jM zP)))) Êe)) (Ηa (ug (Χ (yQ (wR (zD (Ιc (OT (is:=ĝp) rfl)) (zD (Ιc (OT (is:=Ěp) rfl)) (zD (Ιc (OT (is:=ěp) rfl)) (Μa (wR (OT (is:=Ĝp) rfl) þk))))) Êe)) (zW xX xV Ģ zK))) (δ (yt (i:=3) Rj.nd rfl á)) (zc (xG Ŀh (Μb (Q6 Sd b ĝ)) (zc (xG Ŀh (Μb (Q6 Sa b ĝ)) (zc (xG Ŀh (Μb (Q6 Sc b ĝ)) (Μb (Q6 UF b ĝ)))))))) (k_ 2)))
abbrev Pw:Ü:=top 115
def OX:zm [ïd,ća,ċb,ϧd,Ýe,ōb,Ϝa] ŝn (za Pw):=by ac_rfl
def bz:=HD Éi ŝn 3 JN
def y6e(a:zS K Éi Pw):bz P w K mg Ì:=(Ĝb).oS P w Ì 2 JN OX yT λb=>(zb (S4 (i:=3) rfl ŭg rfl rfl (vI (own:=šn) rfl) rfl ęc (Ξc (yt (i:=7) (show(wJ ["_law_items",Ņn,ċb,ϧd,Ýe,ōb,Ϝa] šn).Nodup by rw[Ϩp]) rfl á)) (ζa (yN ðe xU (Αb Ġc) Đa ž)) (Ι (zX ŉ zV Ġc zK))) (zb (pT (i:=4) ŭg rfl á Ĺc) (Ηa (kq rfl uT æe) (δ (yt (i:=5) ŭg rfl á)) (zb (yU (i:=6) ŭg rfl á (yG tu b rfl (Ρ (Γ (zW wM wL ļ ύa))))) (zc (xG (Zq (UA (Τ (Αb Ùm) Đa) (UA (yN Xy gL (zM Åg) ϯa ž) (QF (Τ îg (Ξa (wR zP (yP yW Ò)))))))) (zc (ku ϊe Ùm)) (zc (xG (Τ (zM Åg) ϯa) (zc (ku ϊe (ωb (zX ŉ zV ϱ (zW xX xV ϳk Ŏp))))) (zc (ku ϊe (wz (zD yA (zD Ōp (zD Ōp zP))) ĕd)))))))) Æk)))
abbrev RV:Ü:=top 39
def rV:zm Ϲi [Ħ] (za RV):=by ac_rfl
variable(YU:cP P w K mg Ì)(Hy:Fy P w K mg Ì)
def cS:=HD Ϗi [Ħ] 4 V2
def y7e(a:zS K Ϗi RV):cS P w K mg Ì:=(ŭ).oS P w Ì 3 V2 rV yT λb=>(zb (yU (i:=1) rV.nd rfl ċa ķc) (Ε (uI rfl Ûm ϵg (ψb (Φ (wJ Đp Ōf)) (ε (Φb (wJ Ϲi Ōf)))) ώb (Ι (yG Hy b rfl (zD (zX ŉ zV Ģ õb) (zD õb ġe)))))))
abbrev RS:Ü:=top 48
def x33:zm [Ħ] [Ħ] (za RS):=by ac_rfl
def cQ:=HD Ŏh [Ħ] 4 XX
def y7b(a:zS K Ŏh RS):cQ P w K mg Ì:=(ŭ).oS P w Ì 3 XX x33 yT λb=>(Ε (uI rfl Ûm ϵg (ψb (ζ Ĥn) (ε (Φ Ĥn))) (ωd (zM õb) (zM Ýd)) Ĕm))
abbrev RE:Ü:=top 60
def rR:zm Ϲi [Ħ] (za RE):=by ac_rfl
variable(HP:bo P w K mg Ì)
def cG:=HD ļj [Ħ] 4 JS
def y6z(a:zS K ļj RE):cG P w K mg Ì:=(ŭ).oS P w Ì 3 JS rR yT λb=>(zb (S4 (i:=1) rfl rR.nd rfl rfl Šk rfl (ug ķc) (Ξb (Φ (wJ Đp [āa]))) ώb (Ι (Zo Úl (Og õb Oj (Ol Đd)) õb))) (Ε (vQ HP b rfl (Ρ (Μa (vQ YU b rfl Ĕb))))))
abbrev P8:Ü:=top 68
def Rf:zm [ĝb,øa,"pair"] [ĝb] (za P8):=by ac_rfl
variable(HM:bm P w K mg Ì)
def bT:=HD ñi [ĝb] 4 Wn
def y5d(a:zS K ñi P8):bT P w K mg Ì:=(ŭ).oS P w Ì 3 Wn Rf yT λb=>(zb (pT (i:=1) Rf.nd rfl á Q7) (Κa úl (zc Çk) (xG Ŏk Oq xj) (Ηa ęc (δ (yt (i:=2) Rf.nd rfl á)) (zb (Τb (Γa (yG HM b rfl ŕb))) (zb (Τb (yN ğj pL (zM íd) (Q0 1) ľc)) (zc (QC üa Śg íd íd)))) Çk)))
abbrev RY:Ü:=top 75
def x35:zm žc žc (za RY):=by ac_rfl
variable(K7:F_ P w K mg Ì)(IZ:bh P w K mg Ì)(IX:FZ P w K mg Ì)
def cU:=HD ύi žc 4 JW
def y7h(a:zS K ύi RY):cU P w K mg Ì:=(ź).oS P w Ì 3 JW x35 yT λb=>(Δ (yG K7 b rfl (Μa (uI rfl (vI (own:=[Ūe]) rfl) (ug ņl) (Ξb (Φ (wJ žc ["one"]))) ώb (Ι (yG IX b rfl (zD ĝ Ŏo)))))))
abbrev RJ:Ü:=top 77
def Rn:zm [øa,Ϗb,ķa,Ūe,"byte"] èe (za RJ):=by ac_rfl
variable(Ih:cI P w K mg Ì)(Gz:bU P w K mg Ì)
def cJ:HT:=λP w K mg Ì=>wu P w K mg Ì Ŕi èe 4 (xr K JT)
def y72(a:zS K Ŕi RJ):cJ P w K mg Ì:=(Ĝb).oM P w Ì 3 JT Rn uW λb=>(wv (y2w īa rfl (sH rfl L0 ņl (yG Gz b rfl ŕb)) (y2q (υ (yt (i:=3) Rn.nd rfl á) (ε (yt (i:=4) Rn.nd rfl á))) rfl rfl Ò Ò) (θa (Xs Ih b rfl (kM Ϫ (uF ϱ ńi))))))
abbrev PK:Ü:=top 90
def x2f:zm œ œ (za PK):=by ac_rfl
variable(YT:bR P w K mg Ì)
def bY:HT:=λP w K mg Ì=>wu P w K mg Ì ϧf œ 4 (xr K JA)
def y5k(a:zS K ϧf PK):bY P w K mg Ì:=(ź).oM P w Ì 3 JA x2f uW λb=>(ξ (Zf (yG IX b rfl Œk)))
abbrev PU:Ü:=top 92
def x2j:zm œ œ (za PU):=by ac_rfl
def be:HT:=λP w K mg Ì=>wu P w K mg Ì Žf œ 4 (xr K JD)
def y5p(a:zS K Žf PU):be P w K mg Ì:=(ź).oM P w Ì 3 JD x2j uW λb=>(θa (Xs Ih b rfl Ĝk))
abbrev RO:Ü:=top 103
def Ob:zm [Ħ,ģb,ŗa,åa,Æe] [Ħ] (za RO):=by ac_rfl
def cO:=HD ſh [Ħ] 4 JU
def y78(a:zS K ſh RO):cO P w K mg Ì:=(ŭ).oS P w Ì 3 JU Ob yT λb=>(zb (yU (i:=1) ũg rfl á ķc) (zb (pT (i:=2) ũg rfl á Q7) (zb (kz īa rfl ϵg (sD (υ (yt (i:=3) ũg rfl á) (ε (yt (i:=4) ũg rfl á))) rfl rfl) (zc (QC üa Ŀe ϱ (wz (zD (zX ŉ zV Ģ ϱ) (zD Ϩd Ãj)) ĕd)))) ōo)))
abbrev RK:Ü:=top 41
def Oa:zm [Ħ,Ũe,"found",ûb,åa] [Ħ] (za RK):=by ac_rfl
variable(VY:cS P w K mg Ì)
def cK:=HD ϒi [Ħ] 5 V0
def y73(a:zS K ϒi RK):cK P w K mg Ì:=(ŭ).oS P w Ì 4 V0 Oa yT λb=>(zb (yU (i:=1) Ūg rfl á šh) (zb (pT (i:=2) Ūg rfl á Q7) (zb (pT (i:=3) Ūg rfl á Ėi) (zb (Ot īa (Ωa (Q0 3) Ňf) (zb (sS (i:=3) (j:=4) Űd Ūg rfl á) (zc (xG (Zq (Bu (yN Xy gL đj (zM Æj) ž) (Bv (yN (N6 üa) N4 đj (Q0 2) ľc)))) (zb (QC üa Ŀe Ía jL) (zc (sR Űd ĩh))) xj)))) (Ou 3 (Ou 2 (Ε (x3s rfl rfl X2 ŕb))))))))
abbrev R9:Ü:=top 43
def W4:zm [Ħ,ģb,Ũe,"comers",Ğc,ûb,åa,ĸj] [Ħ] (za R9):=by ac_rfl
variable(G_:Fa P w K mg Ì)(Hx:cR P w K mg Ì)(Ie:Fu P w K mg Ì)(Ig:cH P w K mg Ì)
def cD:=HD Ľj [Ħ] 5 W_
def y6u(a:zS K Ľj R9):cD P w K mg Ì:=(ŭ).oS P w Ì 4 W_ W4 yT λb=>(zb (yU (i:=1) ϵc rfl á ķc) (zb (yU (i:=2) ϵc rfl á šh) (zb (yU (i:=3) ϵc rfl á (yG G_ b rfl ŕb)) (zb (pT (i:=4) ϵc rfl á (x3n (yQ (sB Ėi Æj)) (yQ (wR (Γ Ĩn) ßc)))) (zb (pT (i:=5) ϵc rfl á (x3q rfl rfl gY rfl uT (Γ Æj))) (zb (Ot īa (Ωa (Q0 5) Ňf) (zb (sS (i:=5) (j:=6) (qv 5) ϵc rfl á) (zb (yU (i:=7) ϵc rfl á (zW kX qS (yG Hx b rfl Ćl) (zW O9 qS (x39 Ie b rfl (v_ (Q0 4) (v_ (zM (zX ŉ zV ļ ëb)) uH))) (W5 z0j z0h (yG Ig b rfl Ćl))))) (zc (xG (Ωa ďj (zM (x3c üa ϊe ëb))) (zb (Os ϊe ëb Ġc) (zc (sR (qv 5) (zX ŉ zV ϱ ëb)))) xj))))) (Ou 5 (zc Æk))))))))
abbrev PL:Ü:=top 91
def x2g:zm œ œ (za PL):=by ac_rfl
variable(K6:cU P w K mg Ì)
def bZ:HT:=λP w K mg Ì=>wu P w K mg Ì žf œ 5 (xr K JB)
def y5l(a:zS K žf PL):bZ P w K mg Ì:=(ź).oM P w Ì 4 JB x2g uW λb=>(ξ (Zf (yG K6 b rfl Œk)))
abbrev PV:Ü:=top 93
def x2k:zm œ œ (za PV):=by ac_rfl
variable(Hq:cJ P w K mg Ì)
def bf:HT:=λP w K mg Ì=>wu P w K mg Ì Ŧf œ 5 (xr K JE)
def y5q(a:zS K Ŧf PV):bf P w K mg Ì:=(ź).oM P w Ì 4 JE x2k uW λb=>(θa (Xs Hq b rfl Ĝk))
abbrev Nt:Ü:=ZX Ďc 0
def x21:zm ύd ύd (za Nt):=by ac_rfl
variable(SZ:g8 P w K mg Ì à ŏe [ŝ] 3 şp)(K8:cV P w K mg Ì)(Gy:bT P w K mg Ì)
def y4y{f:Ë}{b:Ņ}(d:vo K åb ým Nt f b):xc P w K mg Ì xS 5 f b ύd šp:=d.oM P w mg Ì 4 Ut x21 uW λa=>(wQ (kN Ϫ VB (vO Ģ)) (wQ (kN Ϫ Jn ęj) (wQ (kN Ϫ Jp (ιa (vQ K8 a rfl ġe))) (wQ (kN Ϫ Jo (ιa (vQ Gy a rfl Ãj))) (θa (lK SZ a Ϫ))))))
abbrev RB:Ü:=top 47
def rQ:zm [Ħ,ϐi] [Ħ] (za RB):=by ac_rfl
variable(Hr:cK P w K mg Ì)
def cF:=HD Çi [Ħ] 6 XW
def y6w(a:zS K Çi RB):cF P w K mg Ì:=(ŭ).oS P w Ì 5 XW rQ yT λd=>(zb (yU (i:=1) rQ.nd rfl ċa (yQ (Ωb (uI rfl ūl (ug (yG Hr d rfl Ĕb)) (Ζc (wJ ďp [ĥd])) Ōc (Μ (Ψ Éo)))))) (Ε (uI rfl Ďh (Ρb (ς (Ξa (vQ tO d rfl Ĕb)))) (Ζc (wJ ďp [åa])) (Μ (Yw (yN (N6 (zR d)) N4 ėc ùc ľc))) ĕm)))
abbrev RA:Ü:=top 50
def Be:zm [Ħ,Ğc,Ũe,"puts"] [Ħ] (za RA):=by ac_rfl
variable(Hk:cD P w K mg Ì)
def cE:=HD îi [Ħ] 6 XV
def y6v(a:zS K îi RA):cE P w K mg Ì:=(ŭ).oS P w Ì 5 XV Be yT λb=>(zb (yU (i:=1) Be.nd rfl ċa (yQ (vQ Hk b rfl Ĕb))) (zb (yU (i:=2) Be.nd rfl ċa šh) (zb (x4w (i:=3) Be.nd rfl ċa (yQ (Βd (ηc (wJ Ĳl [āa])) (yG Ig b rfl Ãj)))) (Ε (uI rfl Ďh (Ρb Ŏp) (Ο (ηc (wJ Ĳl [åa]))) (ζa (Zq (Bu (Γc (zM Øm)) (Bv (yN ðe xU (zM (zW O9 qS Øm (yG Ie b rfl (Ρ (Γ (zX ŉ zV õb Ía)))))) ϯa ž))))) (Ι Ía))))))
abbrev PN:Ü:=top 95
def x2h:zm œ œ (za PN):=by ac_rfl
variable(MX:v6 mg "DEEDS" ϒp)(MI:XY K w mg Uj jb eN)(HH:Fc P w K mg Ì)(HC:bX P w K mg Ì)(HB:Fb P w K mg Ì)(VT:bg P w K mg Ì)(IY:bW P w K mg Ì)(Mc:ba P w K mg Ì)(HE:bY P w K mg Ì)(HF:bZ P w K mg Ì)(HI:be P w K mg Ì)(HJ:bf P w K mg Ì)
def bc:HT:=λP w K mg Ì=>wu P w K mg Ì ðj œ 6 (xr K j_)
def y5n(a:zS K ðj PN):bc P w K mg Ì:=(ź).oM P w Ì 5 j_ x2h uW λb=>(wv (Ψa (x4y MX MI rfl Ķb) (Zg (y2l MX MI rfl (Ħa HH Ò (Ħa HC Ò (Ħa HB Ò (Ħa VT Ò (Ħa VT Ò (Ħa VT Ò (Ħa VT Ò (Ħa VT Ò (Ħa IY Ò (Ħa IY Ò (Ħa IY Ò (Ħa Mc Ò (Ħa Mc Ò (Ħa HE Ò (Ħa HF Ò (Ħa HI Ò (Ħa HJ Ò uA.nil))))))))))))))))) b Ķb (kM Ϫ (uF Ģ pJ))))))
abbrev P0:Ü:=ZX (top 102) 0
def rJ:zm [ŝ,Ħ,Ôb,ĝb,ŗa] Ďf (za P0):=by ac_rfl
variable(Sg:Lh P w K mg Ì Ûp åb ύd 5 šp)(Hu:cO P w K mg Ì)
def y56{f:Ë}{b:Ņ}(d:vo K åb Ŗl P0 f b):xc P w K mg Ì xS 6 f b Ďf Şp:=d.oM P w mg Ì 5 ZM rJ uW λa=>(wQ (pK (i:=4) rJ.nd rfl á Ò (ιa (vQ Hu a rfl óc))) (θa (y2k (pl:=_) Sg a rfl (kM Ϫ (uF Ía (uF (ue z4v y6j rfl wT t6 (v_ đj uH)) (uF ļ (uF ϱ pJ))))))))
abbrev Pb:Ü:=top 52
def Rh:zm [Ħ,"told_by",ťf] [Ħ] (za Pb):=by ac_rfl
variable(Gb:v6 mg öi ãj)(SJ:CC K mg We Āk)(Hm:cF P w K mg Ì)(Hw:cQ P w K mg Ì)(HA:bV P w K mg Ì)(Hl:cE P w K mg Ì)
def bi:=HD ĳh [Ħ] 7 JF
def y5t(a:zS K ĳh Pb):bi P w K mg Ì:=(ŭ).oS P w Ì 6 JF Rh yT λb=>(zb (x4u īa rfl Gb rfl SJ (Ěg Hm (Ěg Hw (Ěg HA (Ěg Hl ZP.nil)))) b (yt (i:=1) Rh.nd rfl á) rfl Śg Rh.nd rfl á Ĕb (zc (xG (Ωa ėc Ňf) (zc (yo ļ)) xj)) rfl) ůn)
abbrev N_:Ü:=ZX Ďc 3
def rH:zm [ŝ,Ğc] [ŝ] (za N_):=by ac_rfl
variable(HG:bc P w K mg Ì)(Hc:Fm P w K mg Ì)
def y55{f:Ë}{b:Ņ}(d:vo K ũe ün N_ f b):xc P w K mg Ì xS 7 f b [ŝ] Ŝp:=d.oM P w mg Ì 6 jS rH uW λa=>(wQ (Ψa (tF (Q6 UF a ĝ)) šf) (wQ (pK (i:=1) rH.nd rfl á Ò (Zf ŀk)) (wQ (Zg (Xs HG a rfl (kM (qT Ϫ gB) (uF Ñf pJ)))) (wQ (kN Ϫ YG (Zf (Zo (tF (yG Hc a rfl (zD ŵf (Γ Ñf)))) Ñf Ñf))) (wQ (y2v Ϫ Jm zK) (wv šf))))))
abbrev RM:Ü:=top 64
def Q4:zm [Ħ,"before","now","led"] [Ħ] (za RM):=by ac_rfl
variable(He:b_ P w K mg Ì)(H_:cT P w K mg Ì)(HK:bi P w K mg Ì)(Ho:cG P w K mg Ì)
def cM:=HD Ļj [Ħ] 8 V1
def y75(a:zS K Ļj RM):cM P w K mg Ì:=(ŭ).oS P w Ì 7 V1 Q4 yT λb=>(zb (yU (i:=1) Ϟe rfl á jM) (zb (yU (i:=2) Ϟe rfl á ĝ) (zb (Ot īa (yN (y7w (yl b)) y6s ėc ùc ž) (zb (yU (i:=1) Ϟe rfl á ļ) (zb (yU (i:=3) Ϟe rfl á (yQ (vQ He b rfl óc))) (zc (yU (i:=2) Ϟe rfl á (yG H_ b rfl (zD ϱ (Γ (yG HK b rfl (zD ϱ zP)))))))))) (Ε (vQ Ho b rfl ŕb)))))
abbrev Ny:Ü:=ZX Ďc 4
def Re:zm [ŝ,"most",ŀj] Řf (za Ny):=by ac_rfl
variable(Se:g8 P w K mg Ì à ũe [ŝ] 7 Ŝp)
def y53{f:Ë}{a:Ņ}(d:vo K ϰc Ňn Ny f a):xc P w K mg Ì xS 8 f a Řf ŝp:=d.oM P w mg Ì 7 j4 Re uW λb=>(wQ (pK (i:=2) Re.nd rfl á Ò Ŵj) (wQ (y2x īa (y36 (y34 (Vk (yN Xy gL ėc ùc ž)) (y35 (y33 (lK Se b Ϫ))))) (wv (y2u (i:=2) KE N2 Re.nd rfl á Ò zK))) (wv (Vj ęj))))
abbrev Pn:Ü:=top 114
def U2:zm [ïd,"_law_other",ća,ċb,ēf,"_law_registers_here","_law_memory_here","_law_long","_law_brief","_law_steps",Ϝa] ϸk (za Pn):=by ac_rfl
variable(Mm:Li P w K mg Ì à Ďf 6 Şp)(D7:g8 P w K mg Ì à ϰc Řf 8 ŝp)(HX:bv P w K mg Ì)(HU:bt P w K mg Ì)(Md:Fj P w K mg Ì)
def bq:HT:=λP w K mg Ì=>wu P w K mg Ì øh ϸk 9 (xr K Wr)
def y66(a:zS K øh Pn):bq P w K mg Ì:=(a.d5 X G).oM P w Ì 8 Wr U2 uW λb=>(wQ (pK (i:=5) Ÿd rfl á Ò (ιa (vQ HX b rfl (zD ļ ġe)))) (wQ (pK (i:=6) Ÿd rfl á Ò (ιa (vQ HU b rfl ěm))) (wQ (pK (i:=7) Ÿd rfl á Ò (Kq Mm b rfl (uF ĝ ϡl))) (wQ (pK (i:=8) Ÿd rfl á Ò (Kq Mm b rfl (uF Ģ ϡl))) (wQ (pK (i:=9) Ÿd rfl á Ò (lJ D7 b (xz 7) ńi)) (wQ (Ψa (Γa (Q6 UF b Ġc)) šf) (wQ (Vh (y2y mV gL (lJ D7 b (xz 8) ńi) (vO Œg) ž) (wv šf) Vi) (wQ (pK (i:=10) Ÿd rfl á Ò (vO (yG tu b rfl ěm))) (wv (Vj (Zf (ψ (χd (zD Ġc (Γ (z8 10)))) (χd (zD (z8 8) (Γ (zW ub ua (z8 10) zK))))))))))))))))
abbrev U1:Ü:=top 116
def Ri:zm [ća,ïd] [ća] (za U1):=by ac_rfl
variable(HS:bq P w K mg Ì)(HW:bu P w K mg Ì)(HZ:bz P w K mg Ì)(Hs:cM P w K mg Ì)
def y64{f:Ë}{c:Ņ}(d:Fun K ýb ýb U1 f c):xc P w K mg Ì xS 10 f c [ća] Ðk:=y1m d Ri Ò uW x1s λe A b s H E a=>(wQ (ωc (yQ (vQ HW a rfl (zD ĝ Őo)))) (wQ (Ψa (yN úm xU (zM (Κ (yG tu a rfl Êo))) ϯa ž) (ωc (yG HZ a rfl (Ρ Êo)))) (wv (Vj (Xs HS a rfl (uF Ģ (uF (yQ (vQ Hs a rfl óc)) (uF ĝ (uF zK (uF zK pJ))))))))))
#print a
#print a
def all_mk{l:Ϯi}{w:æ}{K:Ô}{h:Heap}{a:Ç->É Value}(X:Ŷ h)(G:ėa Ę a)(hfa:a ýb=À (.ref fa))(a0:zS K ĥi Pg)(a1:zS K Łj P4)(a2:zS K ĺj RP)(a3:zS K ϐj RD)(a4:zS K ġi RW)(a5:zS K όi RZ)(a6:zS K Śi Pe)(a7:zS K ϖi Pd)(a8:zS K ŗi R1)(a9:zS K Őh R5)(a10:zS K Ģi RU)(a11:zS K ģi R8)(a12:zS K ħi PB)(a13:zS K Ři Pz)(a14:zS K ϓi R6)(a15:zS K Ŗi RC)(a16:zS K ϗi P7)(a17:Jb K ŀ Űm P1 Ďd)(U:qM K Úg PQ C)(a19:qM K ϩf PH L)(a20:zS K ïj Pi)(a21:zS K ľj Py)(a22:ZR K à à Şb Ųm Nz [ŝ])(a23:ZR K à à Ôb ϸl Nx [ŝ])(a24:ZR K à à őd Ϯm Nv [ŝ])(a25:zS K ϧh Pm)(a26:zS K ôi Px)(a27:zS K õi Pq)(a28:zS K ïi R3)(a29:zS K Èi R4)(a30:zS K śi P9)(a31:zS K ϑi RL)(a32:zS K Ϧh Pj)(a33:zS K Ϗj RT)(a34:zS K "put" RG)(a35:zS K ώi RX)(a36:zS K Ĥi Pl)(a37:zS K ŏh R7)(a38:zS K ði Pc)(a39:zS K òi P6)(a40:zS K ŕi RH)(a41:qM K Ϩf PJ E)(a42:zS K íj RN)(a43:zS K ϔi R0)(a44:zS K ìi Ra)(a45:ZR K à à ŏe ϯm Nu [ŝ])(a46:ZR K à à ĝb ųm Nw [ŝ])(a47:zS K ĩi Po)(a48:zS K Êi Pu)(a49:zS K íi RQ)(a50:qM K Ĵh PD o)(a51:zS K îj P_)(a52:zS K ři Pk)(a53:zS K ϕi Ph)(a54:zS K Ħi Pa)(f:qM K Ēc PZ b)(p:qM K ĭd PF d)(O:qM K Ĕe PM j)(a58:zS K ói P5)(a59:zS K őh Pr)(a60:zS K ťh Ps)(a61:zS K Ëi Pp)(a62:zS K Ĩi Pv)(a63:zS K Éi Pw)(a64:zS K Ϗi RV)(a65:qM K Ŏh RS m)(a66:zS K ļj RE)(a67:zS K ñi P8)(a68:zS K ύi RY)(a69:zS K Ŕi RJ)(a70:qM K ϧf PK I)(a71:qM K Žf PU P)(a72:zS K ſh RO)(a73:zS K ϒi RK)(a74:zS K Ľj R9)(a75:qM K žf PL F)(a76:qM K Ŧf PV B)(a77:Lf K Ûp åb ým Nt ύd)(a78:qM K Çi RB r)(Z:qM K îi RA q)(a80:zS K ðj PN)(a81:Jb K à Ŗl P0 Ďf)(a82:zS K ĳh Pb)(a83:ZR K à à ũe ün N_ [ŝ])(a84:zS K Ļj RM)(a85:ZR K à à ϰc Ňn Ny Řf)(a86:zS K øh Pn)(a87:ϙ K Ę ýb=À (À (.ref N)))(l87:Àa N=MV ýb U1 oc87 od87 Y u z A x i y)(c87:ťb K i ýb=Ä)(k87:Üa K (.ref N)=Ä)(y4n:Gn K Ŗc)(y4m:Gn K ĭc)(y4j:Gn K ūe)(y4t:Gn K "sum")(y4v:Gn K ŀa)(y4s:Gn K Ųa)(y4r:Gn K Ś)(y4q:Gn K Şa)(y4o:Gn K "len")(y4l:Gn K ϙb)(y4p:Gn K Ĩ)(y4k:Gn K Ña)(y4u:Gn K Ϗ)(y4i:Gn K "all")(Jm:vh K [à] ϡc)(YG:vh K [à] ûb)(Jn:vh K [à] īb)(Jo:vh K [à] êc)(Jp:vh K [à] Žb)(S:vh K [ŀ] øa)(gB:vh K [à] Ÿa)(VB:vh K [à] ŗa)(R:vh K [ŀ] Ýb)(g:vh K [ŀ] Þb)(y3q:Gs K "DEEDS" ϒp)(y4c:Dc K w Uj [(Ś,x6l,.ref C),(òb,x6t,.ref E),(Ïa,x6u,.ref L),(Ńa,x6v,.ref b),(Ĕa,x6w,.ref b),(ła,x6x,.ref b),(ēa,x6y,.ref b),(ÿa,x6z,.ref b),(ϔa,x70,.ref d),(ϗa,x71,.ref d),(Ãb,x6m,.ref d),(Ĥa,x6n,.ref j),(ġa,x6o,.ref j),(şa,x6p,.ref I),(řa,x6q,.ref F),(Řa,x6r,.ref P),(Őa,x6s,.ref B)])(y3n:Gs K "BEYOND" (.int 4294967296 x67))(y3p:Gs K Āo Øg)(m9:Tq K Å Ui [.int 0 x7s,.int 8 x8b,.int 16 x8k,.int 24 x8s])(y3s:Gs K "JUMPS" Ög)(mB:Tq K Å Uk [.str Ĺa x7t,.str Ða x8c,.str Ìa x8l])(y3y:Gs K ůo (.int 8 x6a))(y3x:Gs K "MARKS" Ïg)(mF:Tq K Å Wg [.str ϻ x7x,.str ça x8g,.str ëa x8o])(y3t:Gs K Üp (.str ĵb x69))(y43:Gs K üo (.int 32 x6c))(y3m:Gs K ϝn (.int 2047 x66))(y3v:Gs K ÿo Ôg)(mD:Tq K Å Um [.str òb x7v,.str Ĥa x8e,.str ġa x8m,.str Ńa x8t,.str Ĕa x8y,.str ła x93,.str ēa x98,.str ϔa x9d,.str ϗa x9h,.str Ãb x9l,.str ÿa x81,.str Řa x84,.str Őa x87])(y3w:Gs K þo Óg)(mE:Tq K Å Uo [.str Ïa x7w,.str şa x8f,.str řa x8n,.str Ńa x8u,.str Ĕa x8z,.str ła x94,.str ēa x99,.str ϔa x9e,.str ϗa x9i,.str Ãb x9m,.str ÿa x82,.str Řa x85,.str Őa x88])(y3u:Gs K ϰm Õg)(mC:Tq K Å Ul [.str Ĕa x7u,.str ēa x8d])(y40:Gs K "PUT_D" Ñg)(mH:Tq K Å Uq [.str Ś x7z,.str òb x8i,.str Ïa x8q,.str şa x8w,.str řa x91,.str Ńa x96,.str Ĕa x9b,.str ła x9f,.str ēa x9j,.str ϔa x9n,.str ϗa x83,.str Ãb x86,.str Ĥa x89,.str ġa x8a])(y41:Gs K ŗl Ðg)(mI:Tq K Å Ur [.str Ńa x80,.str Ĕa x8j,.str ła x8r,.str ēa x8x,.str ÿa x92,.str ϔa x97,.str ϗa x9c,.str Ãb x9g,.str Ĥa x9k,.str ġa x9o])(y3z:Gs K ýo Òg)(mG:Tq K Å Up [.str Ńa x7y,.str Ĕa x8h,.str ła x8p,.str ēa x8v,.str ÿa x90,.str Ĥa x95,.str ġa x9a])(y3l:Gs K ýn (.int 16 x65))(y3o:Gs K āo (.int 8 x68))(y42:Gs K űm (.int 8 x6b))(y3r:ϙ K Ę öi=À (À ãj))(y4d:Àa We=À {.type Ϗ,Å,.seq #[.ref r,.ref m,.ref o,.ref q] y37,x44}): ∃fd:Ņ,(∀(s:Í)(v:Value),Ħb s fd {[v],[]} [(ća,v)])/\∀Ì:Heap,Ŷ Ì->Ŗd Ę a->xc ņ w K a Ì xS 10 fa fd [ća] Ðk:=by
 let e:=hfa.symm.trans (Ác X G a87);cases e;let Zx:=jD X G y4n;let AD:=jD X G y4m;let AC:=jD X G y4j;let AE:=jD X G y4t;let L0:=jD X G y4v;let X2:=jD X G y4s;let O_:=jD X G y4r;let k:=jD X G y4q;let c:=jD X G y4o;let J:=jD X G y4l;let gY:=jD X G y4p;let Zw:=jD X G y4k;let UI:=jD X G y4u;let AB:=jD X G y4i;let MX:=ZW X G y3q;let MI:XY K w a Uj jb eN:=z63 (fs:=[C,E,L,b,b,b,b,b,d,d,d,j,j,I,F,P,B]) y4c rfl Æa rfl (.cons (U.n X G) (.cons (a41.n X G) (.cons (a19.n X G) (.cons Ĥe (.cons Ĥe (.cons Ĥe (.cons Ĥe (.cons Ĥe (.cons Ùj (.cons Ùj (.cons Ùj (.cons ſp (.cons ſp (.cons (a70.n X G) (.cons (a75.n X G) (.cons (a71.n X G) (.cons (a76.n X G) .nil)))))))))))))))));let TY:=VQ X G y3n;let Tv:∀H,zZ K H Ód Ód:=λ_=>rfl
 let IR:=ZW X G y3p;let w18:=Yz m9;let OJ:∀H,zZ K H TZ Øg:=Y_ m9 rfl;let Gc:=ZW X G y3s;let w19:=Yz mB;let NP:∀H,zZ K H Ma Ög:=Y_ mB rfl;let Gh:=VQ X G y3y;let NV:∀H,zZ K H æa æa:=λ_=>rfl
 let VP:=ZW X G y3x;let KH:=Yz mF;let Vu:∀H,zZ K H Ta Ïg:=Y_ mF rfl;let IS:=z71 X G y3t;let OK:∀H,zZ K H Ϡb Ϡb:=λ_=>{rfl,ÿb Ò}
 let Xn:=VQ X G y43;let W2:∀H,zZ K H Ϝb Ϝb:=λ_=>rfl
 let IP:=VQ X G y3m;let OH:∀H,zZ K H Ůc Ůc:=λ_=>rfl
 let Gf:=ZW X G y3v;let w1b:=Yz mD;let NR:∀H,zZ K H Gq Ôg:=Y_ mD rfl;let Gg:=ZW X G y3w;let w1c:=Yz mE;let NU:∀H,zZ K H Gu Óg:=Y_ mE rfl;let Ge:=ZW X G y3u;let w1a:=Yz mC;let NQ:∀H,zZ K H Gp Õg:=Y_ mC rfl;let Gj:=ZW X G y40;let w1e:=Yz mH;let NX:∀H,zZ K H Gw Ñg:=Y_ mH rfl;let Gk:=ZW X G y41;let w1f:=Yz mI;let NY:∀H,zZ K H Gx Ðg:=Y_ mI rfl;let Gi:=ZW X G y3z;let w1d:=Yz mG;let NW:∀H,zZ K H Gv Òg:=Y_ mG rfl;let IN:=VQ X G y3l;let OG:∀H,zZ K H Ϭa Ϭa:=λ_=>rfl
 let IQ:=VQ X G y3o;let OI:∀H,zZ K H æa æa:=λ_=>rfl
 let MY:=VQ X G y42;let BP:∀H,zZ K H æa æa:=λ_=>rfl
 let Gb:v6 a öi ãj:={_,Ác X G y3r,rfl};let SJ:CC K a We Āk:={[r,m,o,q],λH=>e7 (xs:=[.ref r,.ref m,.ref o,.ref q]) y4d (by exact(4:Â)<=ä;decide) (.cons rfl (.cons rfl (.cons rfl žh))) H,by simp only[ĵ,òe,a78.n X G,a65.n X G,a50.n X G,Z.n X G]};let F87:=fR (st:=U1) l87 c87 k87;show{Ϩc ýb ýb (ja U1) (vx U1) (za U1) .none u z A x i y,λs v=>.of_eq rfl,λbase _ _=>?_};let VW:Ff ņ w K a Ì:=y5x X G Zx AD AC a0;let Mb:FY ņ w K a Ì:=y58 X G TY Tv a1;let Hv:Fx ņ w K a Ì:=y79 X G TY Tv a2;let Q:Fw ņ w K a Ì:=y6y X G a3;let Hz:Fz ņ w K a Ì:=y7f X G a4;let K7:F_ ņ w K a Ì:=y7i X G AE L0 IR OJ a5;let VV:Fe ņ w K a Ì:=y5w X G a6;let VU:Fd ņ w K a Ì:=y5v X G Gc NP a7;let Xo:Fo ņ w K a Ì:=y6l X G Gh NV VP Vu KH a8;let Hh:Fp ņ w K a Ì:=y6o X G a9;let Hy:Fy ņ w K a Ì:=y7d X G X2 O_ a10;let Ie:Fu ņ w K a Ì:=y6t X G a11;let G_:Fa ņ w K a Ì:=y5f X G k c J a12;let Hd:Fn ņ w K a Ì:=y6h X G c a13;let Hi:Fq ņ w K a Ì:=y6q X G c IS OK a14;let Hn:Fv ņ w K a Ì:=y6x X G X2 a15;let IX:FZ ņ w K a Ì:=y5c X G a16;let KJ:=a17.hh X G ņ w Ì (y57 VP Vu gY Zw g R S);let HH:Fc ņ w K a Ì:=y5o X G g U.2;let HB:Fb ņ w K a Ì:=y5i X G g a19.2;let HN:Fg ņ w K a Ì:=y60 X G a20;let Hc:Fm ņ w K a Ì:=y6g X G R a21;let UF:=(a22.hh ņ w a Ì (y54 YG VB Jn)).1;let Sd:=(a23.hh ņ w a Ì (y52 gY g gB)).1;let Sa:=(a24.hh ņ w a Ì (y50 VP Vu R gB UI)).1;let HR:Fh ņ w K a Ì:=y65 X G c a25;let Hb:Fk ņ w K a Ì:=y6f X G a26;let HV:Fi ņ w K a Ì:=y69 X G k a27;let Hf:=y6m X G Xn W2 Q a28;let Hg:=y6n X G Q a29;let Gz:=y5e X G IR OJ UI Q a30;let t:=y74 X G VV a31;let Ic:=y61 X G VV a32;let Hx:=y7c X G IP OH Gf NR Gg NU Ge NQ Xo a33;let Ig:=y70 X G Xo Gj NX Gk NY Gi NW Hh a34;let H_:=y7g X G Zw VV a35;let HQ:=y63 X G Hd a36;let Hj:=y6r X G X2 O_ J Zw Hi a37;let HL:=y5u X G IN OG VW a38;let IW:=y5a X G Q IN OG a39;let Ih:=y71 X G Q IQ OI a40;let HC:=y5j X G g Hz a41.2;let Ht:=y77 X G Mb Hv a42;let VX:=y6k X G R Xn W2 Q a43;let K8:=y7j X G Zx c gY Xn W2 VW AB MY BP a44;let SZ:=(a45.hh ņ w a Ì (y4z YG gB Jo Jp Jm KJ)).1;let Sc:=(a46.hh ņ w a Ì (y51 S gB Hn)).1;let T:=y67 X G c HR a47;let HY:=y6c X G c Hb a48;let YU:=y7a X G Ic t VU a49;let HA:=y5g X G J t a50.2;let He:=y6i X G Ic t VU HQ a51;let HP:=y62 X G c J Hj a52;let HM:=y5y X G Zx c UI VW IQ OI HL a53;let IZ:=y5s X G k IW a54;let VT:=y5r X G g R VX Ht f.2;let IY:=y5h X G g VX HN p.2;let Mc:=y5m X G g R VX Hf Hg O.2;let YT:=y59 X G g IW a58;let HW:=y6a X G k T HV HY a59;let HX:=y6b X G k T a60;let HU:=y68 X G k T a61;let Md:Fj ņ w K a Ì:=y6d X G Sd Sa Sc UF a62;let HZ:=y6e X G k c T a63;let VY:=y7e X G J t YU Hy a64;let Hw:=y7b X G J YU a65.2;let Ho:=y6z X G t VU YU HP a66;let Gy:=y5d X G Zx gY HM a67;let K6:=y7h X G K7 IZ IX a68;let Hq:=y72 X G L0 IZ Ih Gz a69;let HE:=y5k X G g S IX YT a70.2;let HI:=y5p X G g S Ih YT a71.2;let Hu:=y78 X G J t YU a72;let Hr:=y73 X G X2 c VY a73;let Hk:=y6u X G k c gY IP OH t VY G_ Hx Ie Ig a74;let HF:=y5l X G g S YT K6 a75.2;let HJ:=y5q X G g S YT Hq a76.2;let Sg:=a77.hh X G ņ w Ì (y4y VB Jn Jo Jp SZ K8 Gy);let Hm:=y6w X G k c Zw t Hr a78.2;let Hl:=y6v X G k c t VY Ie Ig Hk Z.2;let HG:=y5n X G MX MI HH HC HB VT IY Mc HE HF HI HJ a80;let Mm:=a81.hh X G ņ w Ì (y56 c Sg Hu);let HK:=y5t X G Gb SJ Hm Hw HA Hl a82;let Se:=(a83.hh ņ w a Ì (y55 YG VB gB Jm UF HG Hc)).1;let Hs:=y75 X G He H_ HK Ho a84;let D7:=(a85.hh ņ w a Ì (y53 Se)).1;let HS:=y66 X G T UF Mm D7 HX HU Md a86;show y64 T HS HW HZ Hs F87
def walk{l:Ϯi}{q:ï}{b:Á Ç}{j:ųh->Heap->È}{i:æ->Heap->È}{d:DefRec}{K:ōg->Ô}(t:ϙj=À 63)(e:Ľm=[])(r:∀(w:æ)(h:Heap),i w h->(Ŏb).In h)(F:∀(w:æ)(c:Ç->É Value)(g:Ë)(h:Heap),(Ŏb).In h->ėa Ę c->c d.name=À (.ref g)->
   ∃fd:Ņ,(∀(s:Í)(u:Value),Ħb s fd {[u],[]} [(ća,u)])/\∀Ì:Heap,(Ŏb).In Ì->Ŗd Ę c->xc ņ w Ŏb c Ì xS 10 g fd [ća] (Om Ŏb)) :
  W.WalkO q b j i ýi d [] ĉl:=
 L3.walkB (n:=63) (k:=10) (x := ća) (sp:=Om) t Ò e {rfl,by decide,by decide,rfl} r F λ_ _ a o v m p=>{a,o,rfl,p,v,m,λ_=>rfl}
#print My
end
open Lean in
local macro_rules|`(universe $x)=>return rb0 (fb0 .missing) (mkNullNode (<-(Array.range' 64 695).mapM λi=>`(def $(mkIdent (.mkSimple s!"tw{(Name.str x.getId s!"o_{i}").hash}")):ident:=Nat)))
namespace PySem.W.Fast
universe PySem.Challenge.cw_markrun_k58_whole_short_leaves_the_same_holds
def tw8118080271942150949:=Nat
def tw9110141171924838537:=Nat
def tw10566053376605510820:=Nat
def tw55284469605103467:=Nat
def tw14144551313413942392:=Nat
def tw8377855290655070203:=Nat
def tw7501293430604906359:=Nat
def tw9138830504504251384:=Nat
def tw11332884689750083994:=Nat
def tw8839671670742922880:=Nat
def tw15492973860073417217:=Nat
def tw3553194700810324308:=Nat
def tw5754022387931881940:=Nat
def tw666453069103310143:=Nat
def tw11513173559771139333:=Nat
def tw15325474581042120184:=Nat
def tw530514479208529001:=Nat
def tw11080438328148706423:=Nat
def tw6442912807226548801:=Nat
def tw10601906730282690004:=Nat
def tw12675364109729654954:=Nat
def tw16006097650435692071:=Nat
def tw11307399374890662739:=Nat
def tw6786961711465894337:=Nat
def tw12822392937063099530:=Nat
def tw2701991489941053960:=Nat
def tw11206041583741745802:=Nat
def tw11634436634240360119:=Nat
end PySem.W.Fast
open PySem PySem.W PyProof.Rows
set_option maxRecDepth 100000 in
set_option maxHeartbeats 0 in
theorem PySem.Challenge.cw_markrun_k58_whole_short_leaves_the_same_holds : PySem.Challenge.rw_markrun_k58_whole_short_leaves_the_same.Holds := by
 w_on;o_law;k_head;(case hw=>w_witness2)
 k_fill
 refine My.walk (l:=PySem.Challenge.rw_markrun_k58_whole_short_leaves_the_same) rfl rfl (λw h Y=>PySem.W.kIn_of Y) ?F
 case F=>
  intro w e d h c G b;refine' My.all_mk c G b ?a0 ?a1 ?a2 ?a3 ?a4 ?a5 ?a6 ?a7 ?a8 ?a9 ?a10 ?a11 ?a12 ?a13 ?a14 ?a15 ?a16 ?a17 ?a18 ?a19 ?a20 ?a21 ?a22 ?a23 ?a24 ?a25 ?a26 ?a27 ?a28 ?a29 ?a30 ?a31 ?a32 ?a33 ?a34 ?a35 ?a36 ?a37 ?a38 ?a39 ?a40 ?a41 ?a42 ?a43 ?a44 ?a45 ?a46 ?a47 ?a48 ?a49 ?a50 ?a51 ?a52 ?a53 ?a54 ?a55 ?a56 ?a57 ?a58 ?a59 ?a60 ?a61 ?a62 ?a63 ?a64 ?a65 ?a66 ?a67 ?a68 ?a69 ?a70 ?a71 ?a72 ?a73 ?a74 ?a75 ?a76 ?a77 ?a78 ?a79 ?a80 ?a81 ?a82 ?a83 ?a84 ?a85 ?a86 ?a87 ?l87 ?c87 ?k87 ?a200 ?a201 ?a202 ?a203 ?a204 ?a205 ?a206 ?a207 ?a208 ?a209 ?a210 ?a211 ?a212 ?a213 ?a214 ?a215 ?a216 ?a217 ?a218 ?a219 ?a220 ?a221 ?a222 ?a223 ?a224 ?a225 ?a226 ?a227 ?a228 ?a229 ?a230 ?a231 ?a232 ?a233 ?a234 ?a235 ?a236 ?a237 ?a238 ?a239 ?a240 ?a241 ?a242 ?a243 ?a244 ?a245 ?a246 ?a247 ?a248 ?a249 ?a250 ?a251 ?a252 ?a253
  all_goals try first|exact L3.fnp_mk (by k_is) (by k_is) (by k_is) (by k_is)|exact L3.gn_mk (by k_is)|exact L3.gs_mk (by k_is)|exact L3.dc_mk (by simp only[List.map_cons,List.map_nil];k_is) (by decide)|exact L3.tp_mk (by k_is)|exact L3.tq_mk (by k_is)|exact L3.fnq_mk (by k_is) (by k_is) (by k_is) (by k_is)|exact L3.mtp_mk (L3.mtc_mk (by k_is) (L3.cls_mk (by k_is) (by k_is) (by k_is) (by k_is)) (by k_is)) (L3.mtc_mk (by k_is) (L3.cls_mk (by k_is) (by k_is) (by k_is) (by k_is)) (by k_is)) (L3.mdp_mk (by k_is) (by k_is) (by k_is) (by k_is) (by first|exact .all (L3.us1 λ_=>rfl)|exact .all (L3.us2 λ_ _=>rfl)|exact .all (L3.us3 λ_ _ _=>rfl)|exact .all (L3.us4 λ_ _ _ _=>rfl)|exact .all (L3.us5 λ_ _ _ _ _=>rfl)|(refine L3.bd2 λ_ _ _ a=>?_;apply PySem.W.binds_K a rfl;k_is;all_goals rfl)|(refine L3.bd4 λ_ _ _ _ _ a=>?_;apply PySem.W.binds_K a rfl;k_is;all_goals rfl)))|exact L3.mkp_mk (by k_is) (by k_is) (by k_is) (by k_is) (L3.mdp_mk (by k_is) (by k_is) (by k_is) (by k_is) (by first|exact .all (L3.us1 λ_=>rfl)|exact .all (L3.us2 λ_ _=>rfl)|exact .all (L3.us3 λ_ _ _=>rfl)|exact .all (L3.us4 λ_ _ _ _=>rfl)|exact .all (L3.us5 λ_ _ _ _ _=>rfl)|(refine L3.bd2 λ_ _ _ a=>?_;apply PySem.W.binds_K a rfl;k_is;all_goals rfl)|(refine L3.bd4 λ_ _ _ _ _ a=>?_;apply PySem.W.binds_K a rfl;k_is;all_goals rfl)))|exact L3.cmp_mk (by k_is) (by k_is) (by k_is) (by k_is) (L3.mdp_mk (by k_is) (by k_is) (by k_is) (by k_is) (by first|exact .all (L3.us1 λ_=>rfl)|exact .all (L3.us2 λ_ _=>rfl)|exact .all (L3.us3 λ_ _ _=>rfl)|exact .all (L3.us4 λ_ _ _ _=>rfl)|exact .all (L3.us5 λ_ _ _ _ _=>rfl)|(refine L3.bd2 λ_ _ _ a=>?_;apply PySem.W.binds_K a rfl;k_is;all_goals rfl)|(refine L3.bd4 λ_ _ _ _ _ a=>?_;apply PySem.W.binds_K a rfl;k_is;all_goals rfl)))|exact L3.fldk_cons (by k_is) (L3.cls_mk (by k_is) (by k_is) (by k_is) (by k_is)) (by k_is) L3.fldk_nil|exact L3.fldk_cons (by k_is) (L3.cls_mk (by k_is) (by k_is) (by k_is) (by k_is)) (by k_is) (L3.fldk_cons (by k_is) (L3.cls_mk (by k_is) (by k_is) (by k_is) (by k_is)) (by k_is) L3.fldk_nil)|exact L3.mkd_mk (by k_is) (by k_is) (by k_is) (by k_is) (by k_is) (by k_is) (by k_is) (by k_is) (by(refine L3.bd3 λ_ _ _ _ a=>?_;apply PySem.W.binds_K a rfl;k_is;all_goals rfl))|exact L3.mtd_mk (L3.mtc_mk (by k_is) (L3.cls_mk (by k_is) (by k_is) (by k_is) (by k_is)) (by k_is)) (L3.mtc_mk (by k_is) (L3.cls_mk (by k_is) (by k_is) (by k_is) (by k_is)) (by k_is)) (by k_is) (by k_is) (by k_is) (by k_is) (by(refine L3.bd2 λ_ _ _ a=>?_;apply PySem.W.binds_K a rfl;k_is;all_goals rfl)) (by(apply Exists.intro;apply L3.bd1;intro _ _ a;apply PySem.W.binds_K a rfl;k_is;all_goals rfl))
  all_goals try (first|k_is|k_exc|kit_is|kts_exm)
  all_goals decide
