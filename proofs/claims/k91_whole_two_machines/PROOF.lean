import PyProof.Rows.All
import Wide.All
import OpenK.AllK
import Wide.FinOn
import Lean
import PyProof.EqAt
import PyProof.EqKinds
import PyProof.TupleCall
import PySem.Challenge.RW_markrun_k91_whole_two_machines
set_option Elab.async false
set_option linter.all false
set_option maxRecDepth 100000
set_option genSizeOf false
set_option genInjectivity false
set_option compiler.extract_closed false
set_option bootstrap.genMatcherCode false
section
open Lean
def rb0(f:Syntax→Syntax)(s:Syntax):Syntax:=s.rewriteBottomUp f
def ix0(b w:Nat)(s:Syntax):Nat:=match s with
 |.ident _ _ (.str .anonymous x) _=>
  let n:=x.front.toNat
  let n:=if b=192&&970≤n then n-586 else n
  if n<b||b+w≤n||2<x.length then 99999 else 2*(if x.length=1 then n-b else n-b+w*(x.back.toNat-96))
 |_=>99999
def wr0(k:Name)(x:Array Syntax):Syntax:=.node .none ``Parser.Tactic.rcasesPatLo #[.node .none ``Parser.Tactic.rcasesPatMed #[mkNullNode #[.node .none k x]],mkNullNode]
def pt0(s:Syntax):Syntax:=rb0 (λs=>if s.isIdent then wr0 ``Parser.Tactic.rcasesPat.one #[s]else if s.isOfKind ``Parser.Term.hole then wr0 ``Parser.Tactic.rcasesPat.ignore #[s[0]]else if s.isOfKind ``Parser.Term.anonymousCtor then wr0 ``Parser.Tactic.rcasesPat.tuple s.getArgs else s) s
def hs0:Nat→Syntax→Bool
 |0,_=>false
 |n+1,s=>!s.isOfKind ``Parser.Term.byTactic&&(s.isOfKind ``Parser.Term.syntheticHole||s.getArgs.any (hs0 n))
def fs0(s:Syntax):Syntax:=match s with
 |.node _ k a=>if k==`«term{_}» then .node .none ``Parser.Term.anonymousCtor #[mkAtom "⟨",a[1]!,mkAtom "⟩"]
  else if k==choiceKind then (a.find? (·.isOfKind ``Parser.Term.anonymousCtor)).getD s
  else if k==``Parser.Tactic.tacticLet__ then
   let p:=s[2][0][0]
   if p.isOfKind ``Parser.Term.anonymousCtor then .node .none ``Parser.Tactic.obtain #[mkAtom "obtain",mkNullNode #[(pt0 p)[0]],mkNullNode,mkNullNode #[mkAtom ":=",mkNullNode #[s[2][0][4]]]]
   else if s[1][0].getNumArgs=0 then .node .none ``Parser.Tactic.tacticHave__ (a.set! 0 (mkAtom "have"))
   else s.setArg 1 (.node .none ``Parser.Term.letConfig #[mkNullNode])
  else if k==``Parser.Tactic.show then if hs0 99 s then .node .none ``Parser.Tactic.refine #[mkAtom "refine",s[1]]else .node .none ``Parser.Tactic.exact #[mkAtom "exact",s[1]]
  else if k==``Parser.Tactic.exact then .node .none ``Parser.Tactic.show #[mkAtom "show",s[1]]
  else if k==``Parser.Command.declModifiers then if s[6][0].isOfKind ``Parser.Command.nonrec then (s.setArg 4 (mkNullNode #[.node .none ``Parser.Command.noncomputable #[mkAtom "noncomputable"]])).setArg 6 mkNullNode else s
  else s
 |_=>s
def tq0(s:Syntax):Bool:=s.isOfKind ``Parser.Tactic.rwSeq&&s[2][1][0][1].isOfKind ``Parser.Term.paren&&s[2][1][0][1][1].isOfKind ``Parser.Term.byTactic
def fb0(t s:Syntax):Syntax:=match s with
 |.atom _ v=>.atom .none v
 |.ident ..=>let u:=t[1][0][1][ix0 192 242 s]
  if u.isMissing||u.isOfKind numLitKind then s.setInfo .none else u
 |.node _ k a=>if k==``Parser.Term.app then
   let u:=t[1][2][0][1][ix0 913 57 s[0]]
   if u.isMissing||u.isOfKind numLitKind then s else rb0 (λx=>let y:=s[1][ix0 7936 8 x/2]
    if y.isMissing then x else y) u
  else if k==nullKind then
   let l:=s[0][2][1][1][0][0][0][4][1]
   if l.isMissing then (if a.any tq0 then mkNullNode (a.flatMap λc=>if tq0 c then c[2][1][0][1][1][1][0][0].getArgs else #[c]) else s) else mkNullNode (l.getArgs++a.extract 1 a.size)
  else if k==``Parser.Command.print then .node .none ``Parser.Command.end #[mkAtom "end",mkNullNode (if s[1].getId==`a then #[]else #[s[1],mkNullNode])]else .node .none k a
 |_=>s
def cs0(u w s:Syntax):Syntax:=if s.isOfKind ``Parser.Tactic.cases&&s[1].getNumArgs=1&&s[1][0][0].getNumArgs+s[2].getNumArgs+s[3].getNumArgs=0&&!s[1][0][1][1].isOfKind ``Parser.Term.paren then
  let h:=s[1][0][1]
  rb0 (λx=>if x.getId==`ἀ then h else x) (if h.isIdent then u else w)
 else s
def oc0(t s:Syntax):Syntax:=
 let v:Nat→Syntax:=λi=>t[1][2][2][1][i][1][1][0][0][0]
 if s.isOfKind ``Parser.Tactic.omega then (if s[1][0].getNumArgs=0 then v 0 else s)
 else if s.isOfKind ``Parser.Tactic.cases then
  let f:Nat→Syntax:=λi=>rb0 (cs0 (v 6) s) (v i)
  cs0 (f 2) (f 4) s
 else s
end
open Lean in
local macro_rules(kind:=Lean.Parser.Command.mutual)|s=>do
 let c:=s[1][0]
 unless c.isOfKind ``Parser.Command.check do Macro.throwUnsupported
 let g:Syntax→Syntax:=λt=>rb0 (fb0 t) t
 let t:=g (g (g (g (g (g c[1])))))
 return rb0 (oc0 t) (rb0 fs0 (rb0 (fb0 t) (s[1].setArg 0 mkNullNode)))
mutual
#check([some,List,false,Nat,true,Int,none,Str,Prop,(by omega),Option,base,Addr,(by decide),autoParam,Shared,Bool,W.Frag,(by simp only[_root_.L3.yC,_root_.L3.zQ,_root_.L3.yB,_root_.L3.tL,_root_.L3.zm,_root_.L3.ut,_root_.L3.pK,_root_.L3.yP,_root_.L3.yY,_root_.L3.Yz,_root_.L3.s_,_root_.L3.pI,_root_.L3.ur,_root_.L3.p9,_root_.L3.e1,_root_.L3.e2,_root_.L3.eL,_root_.L3.eC,_root_.L3.z6,_root_.L3.Vd,_root_.L3.zA,_root_.L3.zF,_root_.L3.tE,_root_.L3.Xo,_root_.L3.kW,_root_.L3.qK,_root_.L3.pL,_root_.L3.YQ,_root_.L3.Iq,_root_.L3.BH,_root_.L3.u7,_root_.L3.wO,_root_.L3.wA,_root_.L3.kD,_root_.L3.OU,_root_.L3.kZ,_root_.L3.qb.sel,_root_.L3.fI,_root_.L3.pj,_root_.L3.uJ,_root_.L3.Xx,_root_.L3.Iy,_root_.L3.xD,_root_.L3.wY,_root_.L3.lL,_root_.L3.um,_root_.L3.Tv,_root_.L3.jP,_root_.L3.YU,_root_.L3.vF,_root_.L3.lK,_root_.L3.gA,_root_.L3.ZU,_root_.L3.Vr,_root_.L3.zu,_root_.L3.wm,_root_.L3.vY,_root_.L3.zU,_root_.L3.uW,_root_.L3.xm,Option.bind_some,Option.bind_none,List.getElem?_cons_zero,List.getElem?_cons_succ,List.set_cons_zero,List.set_cons_succ,List.map,List.cons_append,List.nil_append,List.length_cons,List.length_nil,List.replicate_zero,List.replicate_succ,Bool.not_true,Bool.not_false,decide_true,decide_false,Bool.and_self,Bool.and_true,Bool.true_and,Nat.reduceAdd,Nat.reduceSub,Int.reduceLT,Int.reduceLE,Int.reducePow,Int.reduceToNat,Int.reduceAdd,Int.reduceSub,Int.reduceMul,Int.reduceNeg]),if_pos,if_neg,Expr,rows,0,PySem.wpAny_bind,X.env,Stmt,Keyed,Array,wpAny,s.heap.objs.size,absurd,(Or.inl rfl),(.bl Â),sizeLine,(Bool×D),s.heap,Reps,xs.length,List.length_map,World,And.intro,(by simp),[x0],heap,PyProof.Rows.wpS_bind,List.length_append,Program,(model prog w),(i+1),decide_eq_true,cons,(Ì×Obj),X.mg,(z6 0),0,ds.length,a.size,X.prog,[x0,x1],z.length,D.int,PyProof.Rows.wpS_pure,False,(z6 1),Around,(z7 0),SortSt,(model X.prog X.w),List.length_cons,vs.length,X.N.length,ks.length,outer,getK,data,(.bl Ä),HT.sIx,s.toks,"RowMachine",(Nat.le_refl _),Nat.le_trans,s.heap.get?,"WordMachine",rows.length,(.str w),eval,Value.ref,decide_eq_false,ps.length,toks,Bool.and_eq_true,(Å×Å),I.zi,(kP ps),List.getElem?_eq_getElem,(z7 1),List.map_cons,mainGlobals,PySem,PySem.wpAny_pure,List.size_toArray,(wI Ws),(z6 2),(zl zE),h'.get?,prog,(eC (.int 0)),PyProof.Rows,(.inl rfl),(z6 3),["self"],l.prog,X.xe,Heap.get?_push_of_some,List.mem_cons_self,Heap.lt_size,(e::es),kvs.length,(œp=Â),"list",h.get?,PySem.Spec,D.str,(eC (.int 1)),(Sum Å Ç),(zp _),(vP ps),(rows.getD i .zD),List.append_assoc,[ď,ē],(.ref f),(.int 0),name,(z7 2),(a.d1 X G),List.mem_cons.mp,(a.d2 X G),(n+1),congrArg,FuncData,Int.toNat_natCast,"words","State",(by decide +kernel),of_decide_eq_true,["state","row"],(.dK kvs),(zX st),scope,List.replicate,(z6 4),StateT,Bool.false_ne_true,List.getElem?_map,l.map,(by simp only[_root_.L3.yC,_root_.L3.zQ,_root_.L3.yB,_root_.L3.tL,_root_.L3.zm,_root_.L3.ut,_root_.L3.pK,_root_.L3.yP,_root_.L3.yY,_root_.L3.Yz,_root_.L3.s_,_root_.L3.pI,_root_.L3.ur,_root_.L3.p9,_root_.L3.e1,_root_.L3.e2,_root_.L3.eL,_root_.L3.eC,_root_.L3.z6,_root_.L3.Vd,_root_.L3.zA,_root_.L3.zF,_root_.L3.tE,_root_.L3.Xo,_root_.L3.kW,_root_.L3.qK,_root_.L3.pL,_root_.L3.YQ,_root_.L3.Iq,_root_.L3.BH,_root_.L3.u7,_root_.L3.wO,_root_.L3.wA,_root_.L3.kD,_root_.L3.OU,_root_.L3.kZ,_root_.L3.qb.sel,_root_.L3.fI,_root_.L3.pj,_root_.L3.uJ,_root_.L3.Xx,_root_.L3.Iy,_root_.L3.xD,_root_.L3.wY,_root_.L3.lL,_root_.L3.um,_root_.L3.Tv,_root_.L3.jP,_root_.L3.YU,_root_.L3.vF,_root_.L3.lK,_root_.L3.gA,_root_.L3.ZU,_root_.L3.Vr,_root_.L3.zu,_root_.L3.wm,_root_.L3.vY,_root_.L3.zU,_root_.L3.uW,_root_.L3.xm,Option.bind_some,Option.bind_none,List.getElem?_cons_zero,List.getElem?_cons_succ,List.set_cons_zero,List.set_cons_succ,List.map,List.cons_append,List.nil_append,List.length_cons,List.length_nil,List.replicate_zero,List.replicate_succ,Bool.not_true,Bool.not_false,decide_true,decide_false,Bool.and_self,Bool.and_true,Bool.true_and,Nat.reduceAdd,Nat.reduceSub,Int.reduceLT,Int.reduceLE,Int.reducePow,Int.reduceToNat,Int.reduceAdd,Int.reduceSub,Int.reduceMul,Int.reduceNeg,_root_.L3.xq,_root_.L3.kJ,_root_.L3.kK,_root_.L3.kL,_root_.L3.pq,_root_.L3.qE,_root_.L3.wx,_root_.L3.qx,_root_.L3.Il,_root_.L3.Zx,_root_.L3.As,_root_.L3.B0,_root_.L3.YJ,_root_.L3.kQ,_root_.L3.putAt,_root_.L3.z5f,_root_.L3.x2k,_root_.L3.Zb,_root_.L3.hide,_root_.L3.qM,_root_.L3.x8y,_root_.L3.x8z,_root_.L3.x90,_root_.L3.x91,_root_.L3.x92,_root_.L3.x93,_root_.L3.w1i,_root_.L3.w1j,_root_.L3.w1k,_root_.L3.w1l,_root_.L3.w1m,_root_.L3.w1n,_root_.L3.w1o,_root_.L3.Zh,_root_.L3.Vw,_root_.L3.py,_root_.L3.Bz,_root_.L3.y3f,_root_.L3.y3g,_root_.L3.u4,_root_.L3.Te,_root_.L3.uH,_root_.L3.pW,_root_.L3.z5c,_root_.L3.Qs,_root_.L3.B6,_root_.L3.jT,_root_.L3.ZQ,_root_.L3.jM,_root_.L3.Im,_root_.L3.HA,_root_.L3.YH,_root_.L3.HP,_root_.L3.vH,_root_.L3.lg,_root_.L3.QC,_root_.L3.QB,Option.map_some,Option.map_none,List.take_succ_cons,List.take_zero]),(.ref C),N.length,"word",stop,Nat.zero_add,W.kitOne,K.In,I.xz,(ze (zS b)),PySem.sizeLine_eq,(zZ×V),X.base,Heap.get?_push_size,Array.length_toList,List.append_nil,(.int i),(.ref a),if_true,D.bl,apos,List.getElem?_eq_some_iff.mp,List.mem_map.mp,List.all_cons,bootBuiltins,ns.length,"items","tuple",us.length,b.length,E.l2,E.l1,(.yO o (.dK kvs)),(z7 3),(.ref p),r.length,o.push,OwnMs,iter,Nat.lt_of_lt_of_le,"unless","when","dict",PyProof,b.size,cLine,A.in1,(k+1),List.mem_singleton.mp,List.mem_append.mp,Nat.le_refl,[x0,x1,x2],L.length,k.toNat,X.calm,W.nsIn,I.list,I.tok,cpos,(ns.map D.int),(eC .zD),(.int 8),X.length,"jump",(z7 4),L2.cutS,K.lookup,(xw 0),ps.map,t.length,Sum.inl,I.tuple,z.elim,args,Nat.le_add_right,Nat.ne_of_lt,(.str "mark"),X.env.locals,(xJ e=Ä),(.int 1),0,add_int,(u q),(a σ),plain,(j+1),E.go,getA,cond,(Nat.lt_irrefl _),(λz=>nomatch z),(wl I q ê),its.toArray,x.length,a.length,"table",(À v),F.dj,(vN X scope cl own C s H fp pn),List.range,(.Name x p),List.length_take,X.env.scope,"carry",ys.length,"sign",(v_ st),(úa s),(zu 1),0,zero,succ,List.getD_eq_getElem?_getD,(zA Ā zF),Nat.le_of_lt,"number",List.map_map,"held",K.ext.gh,if_false,g.length,r.mono,String,"row",List.mem_cons_of_mem,(.tup [.str "stop"]),(λ_ z=>nomatch z),attributeBase,(a==sysModules),(.Name x pos),Int.le_of_lt,(.lst Ħ),w.length,W.keepIn,[.ref a],"thing",(.str t),I.ok.hd,x.size,Scope,K.go,0,List.all_eq_true.mp,(zG Ă),zW.refl,s.heap.push,t.cps.toList,Nat.zero_le,Nat.min_self,"nought","kind",ms.length,l.length,d.length,P.length,(.inr u),W.toNat,(.str k),"mark",(À 1),D.tup,elem',keep,((apos.endLine==cpos.line)=Ä),(zB Ġ zL),PySem.wpAny_mono,List.length_drop,List.length_zip,z.cps.toList,(ns.map V.int),compareOp,(ks.zip vs),Int.le_refl,E.ext.gh,(.type ĸ),False.elim,(.lst xs),(À ŝ),f.length,(xZ A n),(z6 5),u3.cons,(Þ+1),F.at_,h.Ns,(zg ť zf Ġ zH),(by with_unfolding_all rfl),List.mem_append_right,List.take_append_drop,X.env.cells.lookup,a.heap.objs.size,"registers",List.not_mem_nil,(.Name x xp),Option.some.inj,(Or.inr rfl),(.str "n"),(.int 16),(zG Ġ),(.inr z),fs.length,(xN P w),I.turned,"store",(by rfl),A.units,o.data,IsPair,"set","zip",I.loc,pos',F.ok,Unit,(zA ö zF),((ĵ).all xJ=Ä),PySem.wpAny_field,(.str "label"),"address",Nat.min_eq_left,List.length_set,(.int (i:Å)),(.type "str"),True.intro,(eL vF ŀa),(zZ×Value),vs.toArray,"state",ws.length,Value.str,"storew","stands",j.length,(.tup xs),c.length,W.findIn,List.map,(zS b),[.str w],(z7 5),"range","loadw",X.stack,d.toNat,"left",Sum.inr,(κ×V),(z6 6),"test",(wB n),I.laid,I.cell,(zu 5),I.pin,X.fs,(eC (.int 2)),"_law_script",List.mem_of_getElem?,List.zip_cons_cons,(by simpa using h),List.map_append,(Ã×Ã×Ã),(wE A b tg n),(zB Ă zL),List.mem_cons,(.str "d"),(.type "int"),numbered,(xN prog w),(.type ŷ),"memory","field",X.N.Nodup,X.A.units,Ws.length,(zG ņ),or_false,R.length,"right",n.toNat,"load","told","high","code",ns.map,zW.qT,small,N.map,E.own,item,D.nx,(by rcases hw with rfl|rfl<;>rfl),(.Call Îa ĵ [] pos),List.filter_append,(by simpa using e),a.toList.drop,(eq_of_beq c),(.type "bool"),(.int (n:Å)),binaryOp,"__init__",W.kia_one,"place",(g i j),(.str z),(yR zE),[.int x],(.int 5),yN.refl,(zp _),(ű h),(À f),(.bl b),intsOf,"item",y.Perm,I.free,I.bare,(qD x),(lo+i),"max",yt.tr,0,"add",r.get,IsZip,(j-1),x.gh,most,call,W.at,E.ow,E.lp,(xO (wI Ws) a b c (kP ps) (vP ps)),((x==("__classdict__" : Ç))=Â),"_law_mark_here",(zg ť zf Ă zH),PySem.wpAny_seqItems,(x ≠ "__name__"),List.getElem_mem,(eC (.int 3)),List.zipWith,Nat.le_of_eq,(Ĺc z y),h.objs.size,ForInStep,"truths",(.str "s"),(.ref it),b.extract,(Ê Value),0,(.inr rfl),(Ç×Ì),(Ç×Ã),(λ_=>Æ),(a.d3 X G),(Ĥ ?_),(eC ϣ),b.toArray,(Á Ã),(À Ń),ts.map,envOfC,y.toList,i.length,Reps.imp,"steps",(zG xr),(zm Ϣ),(.int n),codeAny,"copy",(À m),"name","addc",X.H₀,"end","xor",(A n),"sub","law","and",0,value,o.cls,IsTup,(x+1),"or",its',P.jp,"abcdefghijklmnopqrstuvwxyz",(X.fn x=Ä\/X.env.scope.names.lookup x=À .local),(.ListComp elt [{tg,iter,ifs,0}] scope pos),[yd C T e fw fh sd due done],List.getElem?_append_right,List.getElem?_append_left,starEach,Array.getElem?_toList,List.take_of_length_le,List.length_replicate,List.getElem?_eq_none,PySem.wpAny_holding,(e2 zK Ā ī),Nat.lt_of_le_of_lt,a.toList.take,List.length_range,(.str w::ds),Option.bind_some,(Nat.sub_le _ _),(.str "stop"),(.str "name"),I.zi.fresh,b.toArray.size,Bool.false_and,(.ins C dx fs),(Α (z6 2)),Nat.ne_of_gt,(À (k:Å)),(σ++[À v]),Heap.SameBut,A.deeper,(zG zr),its.length,SeqAt.EqAt,(.ref Þ),L.filter,I.ok.kind,DictEntry,(.type T),(.inl a),m.length,[.str k],[.lst a],(ĳ ..),(wm 3 4),(.str x),(.str u),Ne.symm,starts,e.trans,zW.lay,"subc",c.toks,IsPart,tplDs,forIn,"str","int",yu.of,I.len,E.pin,step,self,putF,E.fr,E.ap,PySem.PassesOwn.never,List.drop_eq_getElem_cons,Int.eq_ofNat_of_zero_le,List.zipWith_cons_cons,Builtin.Str.glued,List.mem_append_left,own.length,List.mem_filter.mp,Bool.false_eq_true,foldedSetIterable,List.mem_range.mp,Builtin.bitAnd,c.heap.objs.size,beq_self_eq_true,PySem.call_meets,List.cons_append,(("r" : Ç)++x),Txt.split,Heap.size_push,(eC (.int 4)),(EP X z8 σ Q),(zT (zn xr)),(wv Ö R i),a.extract,(.builtin id),(Ç×Value),(K w.params),(Ė o Ù),(N.map Ļ),(.str ϥ),(.int x),(Á zZ×V),(tK (yX b)),(model P w),(Α Į),"sorted",(zG zH),a.toArray,A.handled,(zG Ž),(úa ėa),(.nx β2),(.int v),s.TypeIs,q.toList,o.length,W.codeIn,(Ç×V),(v7 t L),(.ref A),i.toNat,fs.map,Ze.getD,IntsAre,zE.map,(zu 3),(lo+k),a.map,V.str,xK.of,hide,cont,True,K.lp,I.jC,[it],(.tup [(.str "d"),(.str "s")]),List.pairwise_append.mp,beq_eq_false_iff_ne.mpr,List.filter_cons_of_pos,List.all_eq_true.mpr,Int.emod_nonneg,List.replicate_succ,(zg ť zf Ž zH),"distance",(Ĺc row {#[59]}),"first_words",(λC s H c b=>uM),(Β (z7 3)),List.mem_map.mpr,b.toList.take,List.length_nil,a.names.lookup,(.dic hk hv),behindInMarks,"enumerate",Sum.inl.inj,Str.ofString,Nat.sub_self,Int.ediv_one,(yZ x p f g),(xN ú X.w),d.trans,decide_true,DecidableEq,(Χ (x+3)),(Ιb (i<j)),(.str Āa),(.str Óa),(.str ÿa),(.str ÿb),rows.getD,(Ĺc w y),(æa _ a),(.dT kvs),kvs.map,i.natAbs,0,ks.map,(ű hi),(vY ö),(top 69),(.ref z),(.int 2),(.inr t),(c b a),nextOf,valueAt,K.ext.g,BindsTo,(ϟ _),(ø+1),(Á D),(wA zF),"stop",(z7 6),"done",xs.map,keyOf,assign,(A i),(k<=j),(f β),putAt,isort,Zp.nd,0,W.set,D.lst,many,dEqs,X.pn,(yW (zb (zb yg)) Í),((n:Å)*134217728+d*16777216+s*2097152+m),X.s₀.heap.objs.size,(e2 zK ö ī),Builtin.Str.occurrences,PyProof.Rows.wpS_forRange,Int.emod_lt_of_pos,Nat.lt_succ_self,(Λ (zY vq vp Ġ zH)),(.tup [.int 27,.int 5]),List.length_zipWith,Array.toList_append,(st ws a b c hk hv),List.mem_range.mpr,(zA ö Ûa),Nat.succ_le_succ,List.flatten_cons,List.take_length,"first_held",(.str "test"),(zB Ă Ďa),(yZ a0 p0 f0 g),s.heap.IsTuple,y.length,c.trans,b.toList.drop,0,(Χ (x+n)),(À (Ä,d)),(.str "subc"),(.str Ña),swapsWith,(Β (z7 2)),(λ_ _=>ÿ),eq_of_beq,fs.lookup,(Χ (x+2)),(Χ (x+1)),(Χ (x+0)),(ps.zip us),(ks.zip us),(.type ϐ),(.tup ŵj),"self",sep.length,isort_perm,Str.length,SortSt.mk',HT.sIx_nat,(Δ (-1)),(λ_=>rfl),(thaws ms),(pE ŗa),(Ü Û),[.ref p],(uB Ă),(Ĵ e),"do_sum",x.toList,NameKind,(ôc==0),(Ía 32),Rd.mono,l.toNat,W.mg_of,Nat.ble,(Ϝj s),(Ía n),(z7 7),(qv 1),"step",wV.one,stored,q.size,eq_int,backTo,(zu 2),(zl R),(qe i),(a++b),(0<=i),V.ref,whole,field,bindL,bindC,E.ext,[x,y],hv.h,hi.h,body,I.os,Txt.partition,Int.natCast_nonneg,(e2 zK Ā ļ),(zg ť zf (vJ Ă wX) ģa),(backToKw pos (keywordEach [] Ù)),(.tup [.str w,.str k,.str t]),((n:Å)*134217728+d*16777216+m),(.tup [.str "set",.str "high"]),(wS zL (yW yg Í)),PySem.wpAny_newObj_type,[.int w,.int 31,.int 1],(ns.map WData.int),PySem.wpAny_call_entry,List.drop_eq_nil_of_le,Nat.add_sub_cancel',(λC s H d c=>uM),PySem.wpAny_passesOwn,List.zipWith_nil_left,(.str k::R),(a.filter λd=>!yS d),List.mem_of_mem_take,(Á zZ×Ì×Value),Nat.add_le_add_left,List.mem_filter.mpr,[.bl a,.bl b,.bl c],(.str "0123456789"),decide_eq_true_iff,[.int 24,.int 3],Builtin.bitNot,(by simpa using c),Nat.lt_of_succ_lt,(zY vq vp Ă zH),[.at [ŏ] ßa],Int.not_lt.mp,F.heap.objs.size,(À (Â,d)),(yW (zb yg) Í),(wy as vs ks us),(zG (Φ ùa)),"isinstance",X.env.kindOf,Nat.le_antisymm,Bool.eq_iff_iff,(τ++Ŗ k Æ),(.str "add"),(.str "addc"),beq_iff_eq.mpr,a.toArray.size,(yZ y q Æ g),(.tup [x,y,z]),(.inl (n:Å)),"_law_items",(fs.map Ļ),"width",List.sum_cons,Builtin.bitOr,[x0,x1,x2,x3],(xs.map .inr),(.lst ys),x.cps.toList,(λd=>!yS d),(zT (zn uu)),(start N vs),(failedOf s),(F.ok i q z),List.map_id,List.lookup,List.length,Int.one_mul,env.kindOf,(zd H p o),(xt X.K F),(xJ a=Ä),(kindOf s),(.inl z),Value.int,OwnMs.imp,pos.line,l.extBut,(Ĕa .In),(Ê Ã),(start _),(arrOf s),(.rt o d),(.lst ws),(.lst []),(.int 15),j.toNat,argBest,xs.Nodup,j.natAbs,callWith,b.toList,Y.length,(z6 2),[.int c],["text"],(zm ϖg),(g d σ),(.ref l),(.int j),(.int 3),(Üa c),"marks","label",s'.heap,getItem,add_str,N.Nodup,Iff.rfl,I.fresh,(e σ1),(.bl t),ys.all,(z7 3),0,(18+c),z.symm,xs.all,modify,l.take,W.fnOf,Result,Paired,(z6 7),(u8 x),(tG n),(lo+m),(e σ),(c σ),"due",z.cps,x.new,thaws,V.int,(i+k),maxI,e.gh,P.it,(starEach ĵ Ù=(Â,eval e Ù)::starEach es Ù),((n:Å)*134217728+d*16777216+s*2097152),(by rw[h];rfl),(.Call (.Attribute o m apos) [] [] pos),((Ía Ĕ).filter λi=>!zl zE i),0,PyProof.Rows.subscriptTail_builtinR,[yd ē U (A n) fw fh Åb (A i) j],(.tup [.str "left",.str "right"]),List.take_succ_eq_append_getElem,(γ (zG Ă) (zG zr)),PySem.wpAny_callSpecial?_slot,Array.getElem?_eq_some_iff.mp,(.tup [.str w,.str k,.int p]),PySem.Calls.callWith_builtin,(yd C T e fw fh sd due done),PySem.typeIs_str,[yd ď T n fw fh Åb i j],(.int 4294967296),PySem.wpAny_setField_rec,PySem.wpAny_Call_Name_kw,PySem.wpAny_truthy_bool,PySem.wpAny_pyIter_list,List.filter_cons_of_neg,(eC (.int 32)),(.dic Ğ Ŀ),PySem.F.plain_max_loop,(e2 zK Ā ũa),(by exact 1<30;decide),PySem.codeAny_builtin,List.getElem?_toArray,PySem.wpAny_tryCatch,Array.getElem_toList,PySem.plainId_quiet,List.map_congr_left,(yW ϋe Í),PySem.wpAny_typeOf,0,(zg ť zf ņ zH),(.type "NoneType"),Nat.lt_succ_of_lt,Nat.le_of_lt_succ,(e2 zK Į ļ),(ûa W.emptyDict),(σ++Ŗ Ňb Æ),Nat.min_eq_right,(Ĺc x {#[c]}),(yR (gF Ö zE)),(.builtin "len"),Nat.succ.inj,i.natAbs.log2,WData.weightAll,List.nil_append,List.foldl_cons,List.find?_cons,Value.none,I.base.free,"_law_k",(.int (p:Å)),Nat.lt_irrefl,List.any_cons,many.toNat,(Ė e Ù),(ũ _ rfl),Nat.le_total,Nat.add_comm,List.map_nil,Int.le_trans,"other",(u0 Ö R i),(jd L k n r),(.tup [x,y]),(.str "and"),scope.names,c.heap.get?,OwnMs.focus,OwnMs.cells,Option.bind,[Ŷ,"far"],(κ×Value),(uV (vm f)),(.str "or"),List.foldl,(âb Ļ),(ϟa .Add),(zB uu zL),(Wg a b c),(.tup ŋc),"do_bits",zC.length,ts.length,toString,seqObj,PassesOwn,[ßa,ńa],(Ψ Êa),(Ĕb Đ),(æa _ d),(æa _ b),(À ŭ),(c.val k),"again",(us++ds),(ϊ p),(.fz d),s.length,r.extBut,r.append,p.extBut,h.length,h.DictOf,b.typeIs,L.extBut,(Ϫ pD),(xZ A i),(u++[l]),(tu Ĕ),(lo+m-1),(eC įa),(.str f),(.ref x),(.ref t),(.ref e),(.own x),(.int m),(.inl h),(w%256),x.trans,g.trans,callerA,base.Ns,X.outer,AllBare,(i==j),(Àa e),(ϧb c),(õc b),(wI ns),(jO st),(f::fs),(G b d),(.bl k),"one",y.size,o.elim,ks.all,isTrue,e.symm,a.toks,I.kept,(z7 2),(yR R),(vP f),(v1 k),(m/10),(kP f),(b σ),(a::r),(Qn i),slots,label,binds,UB.nd,(w=0),(n+k),(j-i),(j+2),(g=1),["table","end","first_words","first_held"],(xS (yX b)),(.tup [.str "load",.str "store",.str "loadw",.str "storew"]),(À (Â,yd C T e fw fh sd due done)::τ),(.Subscript a (.Constant (.int i) ck cp) pos),(min (if i<0 then i+(n:Å)else i) (n:Å)),PyProof.Rows.wpS_mono,["self","table","end",ĩa,"memory"],(zY xV xU Ġ zH),(j.filter λd=>!yS d),(λa b=>if a<b then b else a),PyProof.Rows.callWith_type1,(by simp only[ĥ]<;>omega),(Λ (zY vq vp Ϧ zH)),PySem.Around.under_plainId,List.extract_eq_take_drop,X.env.scope.names.lookup,PySem.Calls.spliced_cons,(ųg λc=>kI {#[c]}),(.tup [.str ϥ,.str t]),[.str w,.str k],List.length_pos_iff.mpr,(assignEach es Ù),[À (Â,.int x),Æ],[1,26,676,17576,3,5,7],List.pairwise_cons.mp,z.cps.toList.drop,List.mem_of_mem_drop,Array.toList_extract,(zB zH zL),(by rw[E.l1];show c),(X.drop k++Y.take e),((u q).mpr (.inl z)),List.Perm.refl,List.mem_reverse.mp,Builtin.Int.intBits,[.int i,.bl Ä],[.int 21,.int 3],[.at [ď,ē] ōa],(λ_ h=>by cases h),(getMethod ov m pl),(ps.take i),PySem.call_meetsIn,Nat.sub_add_cancel,ForInStep.yield,(by rw[Ū];omega),(e2 yp Ā ļ),((ϸ).mpr ıa),(yW (zb ϋe) Í),(wI (Ws.set d w)),0,(tt qz pG rfl zr),(relabel ŕ Ù),"default",(.fz (.int w)),List.lookup_cons,[.int 24,.int 2],(Qx b e ä a d),("r" ++ wB n),"_law_many","StopIteration",sliceBounds,g.objs.size,Nat.zero_lt_one,Int.min_eq_left,(Œb R {#[32]}),(À (V.ref p)),(tupleKind ĳa),(X.N[i]?=À x),PySem.intText?,Nat.not_lt.mpr,Bool.and_false,(wD ks vs k v),(vK gB gL rfl),(.int (k:Å)),(.int (a:Å)),a.toArray.any,Nat.add_assoc,Bool.true_and,0,[Ĉc,Ŏ,ßa],[ßa,ńa,ş],[p0,p1,p2,p3],(γ İa Ğb),(À (Ä,e)),(β++[À m]),(Yf c.heap H),(ϣe w y z),(.str "\n"),Nat.sub_zero,Int.pow_zero,I.base.there,Around.under,assignEach,(Ĕa .NotIn),(Ιb (j<=i)),(zd H a œ),(zd G a ż),(Vy (vO uu)),(.str "sub"),(À (-1)),(.str Şa),(.str ":"),"_law_item",c.heap.push,apos.atName,a.heap.push,X.base.get?,Int.mul_one,I.base.slot,(âd _ _ _),0,(Δ (A p)),(À (b,d)),(zU qr ŀa),zC.filter,L2.start,(Α Ğa),(Zm fs f),(.tup ys),(.fz şb),tF.some_of,its.toList,W.plainGet,Obj.mapSeq,[.str Ĉa],(zd H a o),(pV Ða x),(QM e=Ä),(.tup Ÿg),"do_move",y.testBit,x.testBit,x.extract,Reps.ints,I.base.qV,I.base.qA,I.base.pR,(.ret v),[åa,ϕb],[Ūa,ċd],[.lst ws],(Λb Áf),(ϗe _ _),(úa àa),(Ε ņ),(Ía āa),(wC ks k),(vs++dvs),(g.n X G),(.yO o u),(.tup ds),(.tbl ps),(.ref i1),(.int 32),Y.take,y.extBut,xs.foldl,p.toList,oneType',n.length,i.extBut,g.isList,d.typeIs,c.typeIs,a.toList,ZipApart,W.length,T.length,OwnMs.pS,Operator,M.length,C.extBut,B.extBut,(ώe ?_),(zm ħ),(zG Ϧ),(vQ K F),(qi ŀ),(kP ϭd),(X.ZG E),(TE×TE),(I.Uj e),(2 ^ 62),(.own a),(.inr k),(.fz d0),(QJ ps),a.take,X.drop,"slice",tU.with,p.toNat,Un.kept,rawInt,L.take,(õc z),(Ϝj d),(čb i),(äc _),(ĺc _),(Ĵ q),(ű q),(ű f),(ű e),(eC jV),(21+c),"bool",u.keep,sIx_le,pyIter,preSum,o.dict,j.mono,d.getD,c.heap,Ws.set,W.isFn,T.keep,B.kind,(zu 6),(z7 9),(z6 9),(xH t),(x++y),(wq k),(tC v),(pK 1),(o::v),(kU 1),(ZJ a),(X++M),(Tg x),"far",start,st.at,atKey,T.obj,Qd.nd,Qc.nd,Qa.nd,QZ.nd,QX.nd,Model,[a,b],(n-1),(m%8),(i-1),(h a),(zb (zb (zb yg))),(wy [] [] (zE.map λi:Ã=>Sum.inl (i:Å)) (zE.map λ_=>D.bl Ä)),(e2 zK (e1 (w6 [ŏ] Ŏ) ö) Ļc),PyProof.Rows.wpS_get,[yk ē U (A n) fw fh (st Ħ a b c Ğ Ŀ) (A i) j],(.Call (.Attribute (.Name c p) m apos) ĵ [] pos),[yk ď T n fw fh (st Ħ a b c Ğ Ŀ) i j],[.int g0,.int g1,.int g2,.int g3],(by rcases hw with rfl|rfl|rfl|rfl<;>rfl),(λw d=>QK f g r c w (by simpa using d)),(st (wI Ws') a' b' c' (kP ps') (vP ps')),(if 2*(x%32)<32 then x%32 else x%32-32),Nat.min_le_right,(Q0 X.K 2 (ZV (qe i) (ZV (qe j) T_))),Builtin.SmallTypes.ownedTupleIsFree,(eC (.dic [] [])),(c*48271+104729*k+7919*(ŵ:Å)+1),(yk C T e fw fh s due done),(mirror x lo (lo+m) ((lo+m-lo)/2)),(X6 Ws a b c ps k),PySem.F.slot_tuple_iterator_next,[g0,g1*256,g2*65536,g3*16777216],PySem.wpAny_letGo,PyProof.Rows.slot_tuple_getitem,Txt.replace,(λa b h z=>h (Sum.inr.inj z)),(.Assign [.Name x pos'] e pos),[.Subscript īa k pos'],(zg ť zf Ă Ġ),[yd C T e fw fh Åb due done],(ý (1*2 ^ ((w:Å)).toNat)),(λc=>∃r,c.1=À r/\ub t r),(x.extract (d+Ϥ) (d+Ϥ+e)),(by exact _<=16777216;omega),(if k'=k then À v else _),[.Subscript o k pos'],(wv Ö zE Ĕ),((u p).mpr ĭ),List.length_eq_zero_iff.mp,(zg (ze (zS a)) zf Ġ zH),Builtin.Slice.slicePlaces,PySem.wpAny_rule,(x.extract (d+k) (d+Ϥ)),0,PySem.mem_of_lookup,PySem.tupleKind_room_in1,PySem.F.slot_dict_values,List.pairwise_append.mpr,Builtin.Tuple.tupleExact,Builtin.List.listTooLong,(ąb es Ù),strSliceIndices,PySem.F.plainAttrs_dict,Nat.add_sub_cancel_left,(v4 Ö (zl R)),(eC (.int 256)),(e2 zK ö Ā),PySem.F.slot_str_split,PySem.F.plainAttrs_str,PySem.wpAny_execs_nil,PySem.F.slot_zip_next,List.getElem?_zipWith,Heap.get?_update_self,(vK gC gM rfl),[.int x,.int (n:Å)],(λ_=>Ř ă Sem β),(g.filter λd=>!yS d),(by simp only[Ò,p]),(by rw[E.l1];show hi),(by exact 2<=3;omega),(.UnaryOp .Not a pos),(.Return (À e) pos),0,Nat.sub_succ_lt_self,(λx y=>D.tup [x,y]),(ys.any λy=>xC y x),(if b then 1 else 0),(Nat.lt_of_not_le c),(.tup [ųa,Ób,Įa]),(.Attribute e f pos),z.cps.toList.length,letOwnedTupleGo,PySem.wpAny_standAt,List.getElem_of_mem,Int.toNat_of_nonneg,(Λb (ąb ĵ Ù)),(xm Ňb fs fg ft f),(by simpa using h1),(by rw[e];show ŉa),(Nat.not_lt_zero _),PySem.codeAny_mono,Txt.startswith,(λb u e=>Ĳ _ e),(λ_ _ q=>Ĳ _ q),(zg ť zf Ă zH),(b∈X.ex\/ßc<=b),(by simpa using f),s2.heap.objs.size,W.instObj,Nat.le_succ_of_le,List.ext_getElem?,List.Pairwise.map,Int.emod_eq_of_lt,[Ĉc,Ŷ,ĩa,Ÿa],0,[Ĉc,Ŏ,ĩa,Ÿa],[.lst a,.lst ϥa],(Ç×Tok×Value),(by rw[Bd];omega),(.yO o (.dK ĕa)),(.str (t ++ ":")),((p,w)::P.zip vs),s.heap.IsSliceOf,s.heap.FunFrames,PySem.wpAny_call,List.map_fst_zip,Int.max_eq_right,(ze (zS d)),[.lst ws,.int a],(Ģb λd=>!yS d),(λi=>K x (b+i)),(w/16777216%256),(o++Řb i (i+k)),(Oh n x (c x a)),(.tup [ųa,Įa]),(.tup [x,y,z,w]),Txt.endswith,List.take_left',List.range_succ,List.filter_map,(σ++Ŗ k Æ),(λc=>f c.symm),(yZ a0 p0 f0 u),(kT (zE++g zE)),(e2 zK ħ ī),(e2 yp Į ļ),(I.ok.bs b o e),(zs.map Ļ),i.toArray.size,Nat.add_le_add,List.nodup_nil,List.drop_zero,Nat.le_succ,I.base.keep,(λz:Ç=>Ēa),(zB (z7 2) zL),(eC (.str "")),(X4 a b o i j),(X2 a b o i j),(.type "type"),(.builtin Ťb),(zB ģa zL),(f (qM β)),s.heap.update,s.heap.IsList,e.gh.free,beq_iff_eq.mp,[ş,"count"],(Ιd (b::yG)),(Θd (b::yG)),(ϧ z lo hi),(zG (ya Łc)),(yK.near x z),(putF f v fs),(lo+k-(lo+l)),(kL (wx ϖg)),(UE Qq Qp zH),(.str {#[c]}),((u:Å)%4=3),"0123456789",own.contains,decide_false,W.callWith_K,P2.objs.size,Nat.toDigits,Int.ne_of_gt,Int.add_zero,(.lst įb),[(D,uX a k)],(λ_ _=>rfl),(zd H p žj),(zd H a ż),(xs.set i x),(v4 Ö Ĩ),(kQ β i π),(e2 F fa fb),(bs.map ů),(LN r ta tb),(F.ok j q z),((v7 t a).2),"do_storew",W.hasDictIn,I.ok.mod.Ui,(.dK []),(ñf C Þ),(ιa (ϯe)),(Δ (i+j)),(ϒb _ Í),(ãc _ Í),(zU jt ŀa),(zB Ϧ zL),(y b o e a),(x-x/p%r*p),(vv ps a b),(vQ X.K FF),(vJ Ă g7),(qi Ö[i]),(o rfl rfl),(ns.take k),(l+(r-l)/2),(e1 YU ļ),(21+cJ ŀ),(18+cJ ŀ),(.rt x β2),(.rt x β'),(.bool Ä),((n:Å)=0),(Β řa),(Α ŗ),(æa _ z),"do_store","do_loadw","__next__",ws.toArray,pre.length,b.drop,Value.bool,rows.map,ns.getD,[y,.int d],[.lst Ħ],[(Ϲd,dv)],(ę<=Ş),(λ_ q=>q),(xM Ĩ i),(ud kvs k),(tL 1 Ϛe),(Yl j rfl),(.tup ϐg),(.tup ďb),(.str ţa),(.str "r"),(.str "0"),(.str " "),(.own ëd),(.int p.1),(.int i t),(.int due),(.dic K V),(Zb β),"replace","do_load","do_high","do_copy",zx.append,pc.isList,l.swap.hd,h'.DictOf,cl.lookup,c.gh.free,__do_lift,W.makesIn,PySem.Str,Paired.CN,Int.toNat,[Ýa,Ůc],[Ūa,Ýk],(Ãc Ôb),(Ϸb Ïc),(Ιd Òk),(Θd Òk),(ŵa ϟg),(Δ Ñc),(Δ ób),(Λ Ϧ),(Α Þb),(Φ ùa),(ć+Ňb),(Ĳ _ e),(Ê Õ),(Á Å),(σ++[v]),(λ_=>?_),(β++[m]),(xs++[x]),0,(h p ϰe),(.ref i2),(.ref V8),(.ref Ur),(.ref Uo),(.nx σ2),(.lst vs),(.int 24),"do_set",xf.focus,v.extBut,q.extBut,p.isList,mergeAt',h.isList,f.typeIs,c.h.free,bindArgs,X.take,W.lookIn,Str.join,Reps.set,Reps.one,(ϒj nd),(Ñb WV),(ŵa xs),(σ++ρ),(zG řa),0,(xt K F),(xM Ĩ),(vk Ğa),(uQ g _),(gF Ö),(eC äd),(Yf h H),(YJ r.1),(Dx r t),(2 ^ 64),(.ref c),(.nx σ),(.lst a),(.lst L),(.int w),(.int e),(.int a),(.inr x),(.fz d4),(.fz d3),(.fz d2),(.fz d1),(yX d),xs.drop,wV.snoc,wV.mono,uy.swap,uy.move,unaryOp,u.there,pyNext,0,propext,h.trans,ds.set,ds.drop,cut_len,c.symm,Keyword,I.write,I.ok.ZD,E.ext.h,C.trans,Builtin,A.depth,(ģe e),(Àa u),(Ϗg q),(îa+1),(ϊ q),(ýa _),(ϛa i),(ĺc k),(ϱ c),(ù-1),(ğ c),(Ê V),(À d),(x::xs),(wt 25),(v::vs),(qM β),(q::qs),(j q B),(hi-lo),(d::ds),(b β1),(B7 ..),(A ñ),zs.map,ws.map,vs.map,values,u.slot,u.free,s.gens,p.size,o.getD,not_or,ks.zip,kindOf,ds.map,b.toks,argsOk,R.take,Params,L.drop,J.stop,InLong,I.base,A.get?,(yX a),(y::r),(wI g),(wI W),(vD r),(v2 k),(tu n),(q/64),(g==k),(a β),(Xo x),(V×V),(MN z),(Iv l),(Dk _),(A i'),"low",there,o.map,o.loc,names,l.fin,h.Ns1,g.get,d.all,c.map,a.any,W.one,M.ind,L8.nd,L7.nd,L6.nd,L5.nd,L4.nd,D.ind,D.i2z,D.i1z,D.TOz,CmpOp,Call_,[À (.fz d0),À (.fz d1),À (.fz d2),À (.fz d3),À (.fz d4),À (.fz (.lst starts)),À (yk ď T n fw fh (st (wI g) r p B (kP d) (vP d)) (o:Å) (h:Å)),À (yk ē U (A n) fw fh (st (wI g) r p B (kP d) (vP d)) (A o) (h:Å)),À (.fz (.int (u:Å))),À (.fz (.int m))],[À (.fz d0),À (.fz d1),À (.fz d2),À (.fz d3),À (.fz d4),À (.fz (.lst starts)),À (yk ď T n fw fh (st Ħ a b c (kP f) (vP f)) (i:Å) (j:Å)),À (yk ē U (A n) fw fh (st Ħ a b c (kP f) (vP f)) (A i) (j:Å)),À (.fz (.int (u:Å))),I],[À (.fz d0),À (.fz d1),À (.fz d2),À (.fz d3),À (.fz d4),À (.fz (.lst starts)),À (yk ď T n fw fh (st (wI e) Â Â Â (kP ps) (vP ps)) 0 0),À (yk ē U (A n) fw fh (st (wI e) Â Â Â (kP ps) (vP ps)) 0 0),Æ,Æ],[À (Â,s),À (Â,.int first),À (Â,.int most),À (Â,.int l),À (Â,.lst (N.map D.str)),À (Â,.int A),À (Â,.lst R),À (Â,.int (i:Å)),À (Ä,.lst L)],[À (Â,s),À (Â,.int first),À (Â,.int most),À (Â,.int l),À (Â,.lst (N.map D.str)),À (Â,.int A),À (Â,.lst R),Æ,À (Ä,.lst [])],(((sIx ù 0 lo:Ã):Å)==0&&(1:Å)==1&&(sIx ù ù hi-sIx ù 0 lo)==ù),[À (Â,.lst a),À (Â,.lst (yR zE)),À (Â,.dic K V),Æ,À (Ä,.lst []),À (Â,.int 0)],(λr f=>match r with|.ok (.ret v)=>EP X m σ Q v f|.ok _=>False|.error e=>X.xe e f),[Ūa,"_law_first","_law_most","_law_count","_law_names_here","_law_many","_law_rows","_law_k","_law_items"],((wB n).cps.toList.map λc=>Ļ {#[c]}),(ûa { cls:=.type "range",data:=.fields #[.int lo t,.int hi u,.int 1 v] }),(if 2*y<4294967296 then y else y-4294967296),(by rcases hw with rfl|rfl|rfl|rfl|rfl|rfl|rfl|rfl|rfl<;>rfl),((ϛa (sIx ù 0 lo)).take (sIx ù ù hi-sIx ù 0 lo)),[Ŷ,"far","distances","chosen","near"],(by first|show Or.inl rfl|show Or.inr à|show Or.inr ĭa),[À (Â,dm),x,À (Ä,.lst L),À (Â,.int (i:Å))],(by rcases hw with rfl|rfl<;>show{by decide,by decide}),(A.under (.builtin "type.__call__" {.ref C::us,a})),(.tup [.str k,.int (d:Å),.int n]),(éa Îa "values" Ù (eval Îa Ù)=eval Îa Ù),[À (Â,.lst a),À (Â,.dic b c),À (Â,r)],[rows.getD k .zD,.int ((k:Å)+1),tgs.getD k .zD],(if i<0 then(i+(n:Å)).toNat else min i.toNat n),t.cps.toList.map,[À (Â,.str T),À (Ä,.lst []),Æ,Æ,Æ],[.int (i:Å),tgt Ö[i]],(x+(n-x/2 ^ l.toNat%2 ^ d.toNat)*2 ^ l.toNat),(f.2 b (ϱ (ύ (Ĵ e) (I.ok.Ug x c F l)))),[.int 0,.int 5],[Ūa,"_law_first","_law_found","_law_k",Çb],(λ_ _ _ _=>by rcases hw with rfl|rfl<;>rfl),(Íb (λk' x=>if k'=k then v else x) ks vs),(if k=f then(k,v)::r else(k,x)::putF f v r),(by rcases hw with rfl|rfl<;>show{rfl,rfl}),(by exact c*134217728/16777216%8=0;omega),(À (.builtin "type.__getattribute__")),(qC L P w K G g N c a f d A ĉ s H E),(f.2 b (ϱ (ύ (Ĵ e) I.ok.above))),(À (.builtin "object.__setattr__")),(by rcases hw with rfl|rfl<;>decide),(.Call (.Name "zip" p) [a,b] [] pos),Int.ofNat_le.mpr,[.int (i:Å),x],(Ϫ λp=>if p.1=a then(a,b)else p),(e2 zK (e1 (w6 [ŏ] Ŏ) ö) íd),Array.mem_toList_iff.mpr,((Ía n).map λi=>A ñ),((18+c)*134217728+m*16777216+d%32),(eC á),(zA Ğa (Α (e2 zK (z6 2) ŗ))),(.int ((a.map Ļ).length+1:Ã)),(y.toList.drop lo),PySem.F.slot_dict_getitem.lookup,Nat.eq_zero_of_not_pos,(ąb [a] Ù=[(Â,Ė a Ù)]),(e1 (xg uO uP) (eC (.str ϕb))),Array.mem_of_getElem?,(rows.map tgt),(ϊ q++(Õb m (j-1)).reverse),(yu X.K H p ys\/xK X.K H p ys),(by rw[e];show λz=>nomatch z),(PySem.F.args_str_split_2 _ _),(0<=x/\0<=l/\l<64/\0<=d/\d<64),((c==("__debug__" : Ç))=Â),PySem.wpAny_Call_method0_late,Array.perm_iff_toList_perm.mp,(č ü ü hi-č ü 0 lo),(.builtin "object.__class__"),(Ξ (w6 ł "due")),(uY ņ (uY Ž jY)),(uH ħ (uH Į u4)),(Μ (.obj C źd [a,b,c,d])),(vN X ŕ cl own C s H l pn),(st Ħ Â Â Â Ğ Ŀ),[yk C T e fw fh s due done],(λq=>(L q/\¬ L1 q)\/L2 q),(.type "method_descriptor"),(.str w::a.map Ļ),PySem.wpAny_updateSeq_pair,PySem.Calls.evalArgs_plain,0,List.takeWhile_cons_of_pos,(zG (z7 3)),(.tup [.str Ϗ,.str ώ]),(.For tg iter body [] pos),List.pairwise_reverse.mpr,Builtin.Slice.sliceAdjust,(ĝb (ãb x Ŕ Þ f c)),(rI JY λi j=>.int (i*j)),(p (Yq d0 d1) (Yq z0 z1)),(f (.int i t) (.int j u)),(((1:Å)*2 ^ w-1)*2 ^ l),PySem.wpAny_pyIter_tuple,PySem.Calls.Constant_str,List.mem_iff_getElem?.mp,(by exact 2<=â;decide),(PySem.evalArgs_none ?_),(.tup [.str w,.str k,a]),(.int ((ø+1:Ã):Å)),(eC (.str "set")),PySem.F.entry_str_split,PySem.Calls.spliced_nil,Nat.testBit_mul_two_pow,[.tup ŋc,.int (n:Å)],[.int a,.int (gW ps a)],(ϣe P1 {#[9]} {#[32]}),(zj p6 b rfl (δ όd)),(zb (zb (zb (zb ϋe)))),(x/2 ^ l.toNat%2 ^ Ća),0,(k K c λv m n x r=>?_),(by rw[ç];show e.len),(.ins C dx (fs.zip vs)),PySem.wpAny_getItem_of,List.Perm.append_right,Array.getElem?_eq_none,(À (Â,.dic ks ds)),(zG (zY U1 Og zH Ă)),(o++(Řb k i).reverse),(if x<z then z else x),(if f n then 2 else 1),(.inl {b,k,e,rfl,rfl}),PySem.wpAny_updateSeq,PySem.SeqAt.EqAt.same,PySem.F.slot_dict_get,List.set_append_right,List.Perm.append_left,[.int x,.int y,.bl p],(Χ ((x+n)%65536+3)),(Χ ((x+n)%65536+2)),(Χ ((x+n)%65536+1)),(Χ ((x+n)%65536+0)),(λz=>a (by simp[z])),(λi=>a.getD i .none),(wj (own:=[Ýa]) rfl),(by dsimp only;omega),[.int l,.int W],PySem.gives_joinTail,(Α (eC (.bl Ä))),(tO 10 T.cps.toList),(.tup [kV f[i].1,u]),0,(.Subscript o i pos),((m/512+(j:Å))%26),s₂.heap.objs.size,PySem.wpAny_newList,PySem.wpAny_attempt,List.reverse_append,List.mem_map_of_mem,List.getElem?_range,List.filterMap_cons,[ů a,.bl b,.bl c],[Āa,"one",Ėd,Ña],(xO ws a b c hk hv),(by simpa using hv),(by simpa using hi),(Nat.not_lt.mp hlt),((i:Å)+(m:Å)*1),"__getattribute__",(Λb (ąb [] Ù)),(γ (zG ģa) Ğb),(by simpa using a),(by rw[ÿc e];rfl),(.tup [row,nx,tg]),(tZ xs lo hi),"_law_program_by",Option.isSome_map,Nat.sub_pos_of_lt,Nat.lt_trichotomy,List.reverse_perm,List.getElem?_set,List.Pairwise.nil,Array.toList_push,[.str w,.str Ĉa],[.str w,.str "d"],[.str k,.str "d"],[.lst ϡ,.int k],(Åe lo hi Æ n),(ãb b a Þ f d),(Âf lo hi 1 ü),(λh=>by cases h),(λC s H d b=>uM),(zj Ye b rfl űa),(zY xV xU Ž zH),(zY Yu Ys zH Ġ),(by rw[c];decide),(Qv o É É ?_),(Nat.log2_lt É),(.tup (k.map kV)),(.str Ϗ),(.str ώ),"fields_in_word","_law_registers","_law_item_text",w.heap.objs.size,f.heap.objs.size,env.cells.lookup,X.s₀.heap.get?,X.env.scope.kind,Nat.max_eq_right,List.zipIdx_cons,List.range'_succ,List.any_eq_true,Int.toNat_eq_max,Int.min_eq_right,[.fz (.lst ϡ)],(Ç->Ê Value),(wy as ds ks es),(wy [] [] ks es),(uZ kvs p.1 p.2),(q/64%(Ş:Å)),(kX Ö tgs Ĕ),(d.zi.fresh Đ),(d b _ q λz=>z),(W8 (ς (d 0))),(P8 (s.ok _ ht)),(EH K t1 t2 a b),"table_of_rows","place_in_word",strValues,a.setIfInBounds,Nat.testBit_and,List.of_mem_zip,List.forIn_cons,List.drop_left',Int.ediv_nonneg,[Āa,"one",Ėd],[ş,"low",Ůc],(Įd ĸ #[] 0),(Ċd b o e n a),(σ++Ŗ n Æ),(xs.getD j .zD),(jP λi j=>i+j),(e2 wY ŗ Æf),(e2 gA ö Ϣ),(e2 Xx ũa ö),(by rw[q];simp),(.tup [kV k,u]),(.dK (j.zip m)),(xS (yX a)),(U ++ "\n"),"not_reaching","label_places","kind_of_code","is_near_code","distances_of","_law_cell_at",d.toArray.size,d.names.lookup,c.toArray.size,Nat.le_min.mpr,List.take_zero,List.take_take,List.drop_drop,Int.ofNat_zero,Builtin.bitXor,[kV kv.1,kv.2],[.int w,.bl u],[.int (n:Å)],[.int (c:Å)],(âb λt=>üa),(Ĥ (Ø ?_)),(vK Q1 QU rfl),(eC (.int 25)),(by rw[î,I]),(by rw[m];rfl),(by rw[G];rfl),(Zq rfl ue zH),(TP X z8 σ Q),(.obj x fs ms),(.builtin Šc),((ϙg).take m),sysModules,Array.getD,"word_of_row","with_number","number_told","moved_right","least_fault","is_far_code","dict_values","_law_spread","_law_row_by","_law_memory","__setattr__","__getitem__",swapsWithSole,swappedStores,s.heap.DictAt,p.toList.take,p.toList.drop,c.heap.DictOf,X.env.globals,W.plainGet_of,Paired.length,L2.isort_perm,Bool.or_false,Bool.and_true,(μ/3%256),[ş,Ϣa,Ýa],[Ŏ,Òb,ßa],[Ŏ,ńa,åa],(Ė īa Ù),(γ ϸg ťb),(γ ϸg Ğb),(zd H5 D ųc),(yZ a p fl g),(yJ.near x z),(w/65536%256),(u0 Ö zE i),(c*134217728),(Wh a ż H0),(.mk e1 e2 d),(.Expr e pos),((ϫ:Å)<1),(v7 t g),"words_from","word_fault","targets_of","moved_left","is_address","first_word",0,"field_told","bytes_from","address_of","address_in","_law_words","_law_shown","_law_names",seqIndex_neg,s2.heap.get?,l.row.toRowW,its'.toArray,h.IsListIter,concat_meets,WData.weight,SeqAt.RcNeAt,PySem.Within,PySem.W.Frag,Nat.zero_max,Nat.succ_pos,Nat.succ_mul,Nat.lt_trans,Nat.lt_or_ge,E.ext.h.free,Code.isFrame,(Ιb (i<=j)),(zB Ă ϡd),(uZ kvs k v),(pairsOf vs),0,(pF J π m2),(gallopOf s),(dJ Ö R i),(atKey xs k),(I.jC x c e),(21+(c:Å)),(.inl {c,w}),(.inl (A p)),(.Name x p2),(ϡe Ýb),(Η ņ),(À ž),(h w ĳ),(Zf N[i]),"with_part","told_rows","number_at","near_word","item_told","is_number","four_from","far_words","assembled","addresses","_law_told","_law_mark",seqIndex_of,a.names.all,W.specialIn,W.plainOver,W.kitx_list,0,W.emptyDict,Value.float,Reps.length,List.range',Int.pow_pos,D.TOi2.symm,Builtin.Str,(ιa (ŗb)),(ϟa .Mult),(ĥa _ ĳ),(λx=>!x.1),(zU Xe ţb),(zA ϡc zF),(zA ϖg zF),(zA ŗ zF),(zA ī zF),(zA ļ zF),(w/256%256),(uW VG Ûa),(f b o a e),(by show L),(L++[xH t]),(.str w::_),(.rt m β2),(.list ńc),(.Name c p),"words_in","unsigned","table_of","row_told","put_word","put_byte","pairs_of","max.loop","is_label","far_rows","bytes_of","_law_row","__name__",z.cps.size,wpAny_Name,typeIs_int,tgs.length,scope.kind,ps'.length,f.zi.fresh,es.toArray,builtinsNs,X.Pairwise,Walks.list,Value.type,Subscript_,SeqAt.RcAt,OwnMs.snoc,OwnMs.join,I.ok.above,D.i1z.symm,D.TOz.symm,[.tup ďb],[.str ţa],[.str ϥ],[.lst ϡ],(üe N vs),(Ç×Tok),(Á M×M),(λ_=>ÿ),(zd H x o),(zB zH zL),(xJ b=Ä),(xC d1 d2),(eL FL fs),(by rw[h]),(acc++its),(U4 k=Ä),(.yO ob v),(.val Ń),(.tup ϱj),(.tup Ϙd),(.tup ŵg),(.tup ϐj),(.str òb),(.str ϕb),(.str Ña),(.int Òa),(.bl (!k)),((k,x)::r),"written","word_of","word_at","told_at","rows_of","look_at","is_pair","is_near","is_name","is_jump","is_item","held_in","code_in","byte_at",ps.take,o.reverse,o.g.trans,inplaceOp,glued_len,g.gh.free,f.toArray,cellsFrom,c.toArray,c.heap.Ns,as.length,a.size_eq,a.g.trans,WData.int,W.takerIn,W.readsIn,W.findCls,W.OpenLaw,Str.empty,PySem.Fin,P1.length,IsTup.new,E.ext.new,Decidable,[Źa,ş],[ña,Ůc],[ōa,ş],[Āa,Źa],[ş,Ϣa],[ş,Ýa],[3,2,1,0],[2,0,3,1],[1,3,0,2],[0,1,2,3],[.p 0 []],(Űf ñ),(ϛc q j),(ψ Őf),(Ŵb Įc),(ů ŗd),(Γ Åf),(Β ϧe),(Β Ϧ),(ϱ ĕc),(ϰ _ _),(Ía ďd),(Α Çf),(Α àc),(æa _ c),(λc=>?_),(yh ks k),(xt K qp),(xt K jE),(x-y-q<0),(x b u e),(x ^^^ y),(x &&& y),(vQ K we),(vQ K pT),(vQ K YD),(vQ K YC),(vQ K YB),(vQ K XX),(n*2 ^ l),(f _ _ e),(b i q z),(Qm te t),(.nx σ'),(.nx β'),(.lst ds),(.int 12),(.bool b),(vm l),"walked","target","summed","signed","row_in","places","number",0,"joined","far_at","do_row","behind",u.length,tgs.getD,pick_run,o.toList,n.natAbs,its.size,h.DictAt,g.h.free,f.toList,f.extBut,e.isList,Reps.rep,OwnMs.cA,I.ok.mod,E.length,[.str z],["four"],(öa x3),(ğk%26),(Ñb Qh),(σ++τ),(xs++ys),(wm 2 3),(vY Ā),0,(uB Ġ),(qF q c),(m∈qt),(lo+y-1),(kv.1=k),(kT Ğk),(jS Ŝa),(jP Ōb),(g d β),(eC Ĩh),(eC ħh),(eC Şb),(eC ðc),(eC Ēb),(eC ϲ),(eC Č),(F4 h H),(EF K a),(ED K a),(E9 K a),(.ref r),(.ref D),(.own d),(.num m),(.inl x),(.inl i),(.inl e),(.inl d),(.bl d'),(-16<=x),f.mono,0,"taken","leads","added",tU.near,str_int,setItem,s.trans,h1.get?,getAttr,f.trans,e.pairs,a.names,W.frame,Reps.cM,PySem.W,L3.getA,(Íg k),(Ņe k),(ϯh.2),(Űf i),(öa j),(Ņh l),(Ďk _),(ϭa r),(Ñk-1),(Āc f),(Ϩa _),(ăd h),(ϥd _),(ϧb b),(ś f),(Śc c),(ŕc i),(ϒj h),(ϛb j),(ĺc n),(š _),(Ĵ g),(Ô g),(Ê M),(À r),(À c),(À 7),(x-y-q),(s q z),(n::ns),(n+ø),(n+i+1),(lo σ),(j+1+m),(i q w),(hi σ),(g b a),(f ϒf),(f x a),(f v u),(eC Q4),(b σ1),(Zs zH),(Yh xs),(W Ĳk),(EA ks),(C q c),"read","part","fits",uy.fin,typeOf,r.drop,o.mono,o.bind,ns.sum,l.most,l.mono,"word",i.mono,h.push,h.elim,g.get?,frames,d.kept,c.getD,bubble,bs.map,b.Perm,Y.drop,W.item,O.heap,N.keep,L2.ixN,J.get?,I.step,I.look,I.keep,F.get?,E.back,D.l2TO,B.cell,A.cond,(yR b),(xH u),(wt n),(w::a),(w++l),(vA m),(v::r),(tP d),(r β),(qv 3),(qv 2),(pK 2),(mA f),(lt k),(lo+y),(lo+j),(kV k),(kU 2),(kT l),(k'=k),(k σ),(i::a),(Yz 1),(QC 8),(Ls i),(LF K),[.str k,.int (d:Å),.int (s:Å)],(yV (zy (pE (zS b)) pB (zG Ž) (zG (wz (zB zr (zB zr zL)) Ýc)) Ĥa) (zT (zn (wz (zB Ž (zB (z7 4) (Β (zg ť zf (ya (wS (zB (Λ (z7 6)) (zB (Λ (z7 6)) zL)) Ýc)) (Λ (zY vq vp Ă zH)))))) (yW ϋe Í)))) yl),[.tup [.int ((x+0)%65536),.int (w%256)],.tup [.int ((x+1)%65536),.int (w/256%256)],.tup [.int ((x+2)%65536),.int (w/65536%256)],.tup [.int ((x+3)%65536),.int (w/16777216%256)]],(qx (YQ (e2 za (zU gv (zA (z6 6) (Α (z6 9)))) (zU gv (zA (z6 7) (Α (z6 9))))) (e2 za (zU pT (wN ď "steps" (z6 6) zF)) (zU pT (wN ē "steps" (z6 7) zF))))),[À (Â,s),À (Â,.int first),À (Â,.int most),À (Â,.int l),À (Â,.lst (N.map Ļ)),À (Â,.int A),À (Â,.lst R),À (Â,.int (i:Å)),À (Ä,.lst w)],(vX (Η (ye (i:=6) (show(xj [Çb,"_law_many","_law_letters","_law_size","_law_word","_law_spot"] ["_law_k"]).Nodup by decide +kernel) rfl à)) rfl),(zA ļ (zA ļ (zA ļ (zA ļ (zA ī (zA ī (zA ī (zA ī zF)))))))),(qK (tE (e2 xP (xm 1 (vY (z6 6)) (zu 9) FV aO) (wA zF))) (tE (e2 za (e2 xD (e2 wY (zU t9 (Υ (e2 yp Ā ũa))) ũa) (eC (.int 5))) (z6 7)))),[À (Â,.int m),À (Â,.int many),À (Â,.str ÿb),À (Â,.int (m%8)),À (Â,.str W),À (Â,.int f),À (Â,.int (i:Å))],(.ins C dx (putF f w (fs.zip vs))),((p.setIfInBounds i (d,Ϥ+Y.length,K)).eraseIdxIfInBounds ñ),Heap.get?_update_other,[À (Â,.lst a),À (Â,.lst (yR zE)),À (Â,.lst (v4 Ö Ĩ)),À (Â,.dic K V),À (Â,.lst (yR Öd)),Æ],(zB zr (zB zr (zB zr (zB zr (zB zr (zB zr (zB zr zL))))))),(λxs H Q=>(∃i,xs=[.int i]/\i.natAbs.log2<1920/\Q (.str (toString i)) H)\/∃z,xs=[.str z]/\Q (.str z) H),[À (Â,.lst j),À (Â,.lst (yR R)),À (Â,.lst (v4 Ö (zl R))),À (Ä,.lst []),Æ,Æ],[À (Â,.lst a),À (Â,.lst (yR zE)),À (Â,.lst (v4 Ö Ĩ)),À (Â,.dic K V),Æ,Æ],[.str k,.int (d:Å),.int (n:Å)],(λd=>match d with|.int j=>Ļ (ϧ W Æ (À f)++lt ((m/512+j)%26)++ϧ W (À f) Æ)|d=>d),List.nodup_cons.mp,["set","high","left","right",ϥ,Ϗ,ώ,"stop"],(vX (Η (Θb (xj ["code","found"] [Āa]))) rfl),[À (Â,.lst a),À (Â,.lst (yR zE)),À (Â,.lst (v4 Ö Ĩ)),À (Â,.dic K V),Æ],[.tup [.int g0,.int 0],.tup [.int g1,.int 8],.tup [.int g2,.int 16],.tup [.int g3,.int 24]],[À (Â,.int m),À (Â,.int many),À (Â,.str ÿb),À (Â,.int (m%8)),Æ,Æ,Æ],(λr s'=>r=.ok (.ret (.bool Ä))/\OldK c.heap s'.heap/\s'.os=c.os/\AllBare s'.gens),[À (Â,yd C T e fw fh Åb due done),x,À (Ä,.lst L),À (Â,.int (i:Å))],[À (Â,.lst a),À (Â,.lst (yR zE)),À (Â,.lst (v4 Ö Ĩ)),Æ,Æ,Æ],[.str k,.int (d:Å),.int (s:Å),.int n],pendingOf,((match decide (C=x)&&!(decide (m∈qt))with|Ä=>À Ăb|Â=>Æ).bind _),(s.heap.update a (Obj.mapSeq λ_=>#[])),(λc=>c.1=Æ/\∃y q g,st=yZ y q Æ g/\uC 0 q.toList y.toList/\y.Perm x),[.tup [.str Ña,.bl Â],.tup [.str ÿa,.bl Â],.tup [.str Óa,.bl Â]],[.int (x%256),.int (x/256%256),.int (x/65536%256),.int (x/16777216%256)],(by let:=Int.add_le_add_right (ìa h) (n:Å);rwa [Int.zero_add]at this),(λq z=>h q (ζa (s q z))),[À (Â,.int x),À (Â,.int (n:Å)),À (Â,.str k),Æ,Æ,Æ],[À (Â,.lst ϡ),À (Â,.int 38),À (Â,.dic Ğ Ŀ),j,c,Æ],[.fz T,.fz (.int e),.fz ía,.fz Ϟb],[À (Â,.lst ϡ),À (Â,.int 38),À (Ä,.dic [] []),Æ,Æ],(uA (xS (yX a)) xQ (zG (uv LR a (z7 6))) (zG (uv LQ a (z7 7))) ľ),[À (Â,.lst a),À (Â,.lst Ö),À (Ä,.dic [] []),Æ,Æ],(x0::x1::x2::x3::x4::x5::a::À (yk ē T e fw fh s due done)::yG),(λr=>pure (.done (À r,e.2.1,e.2.2.1,e.2.2.2.1,e.2.2.2.2.1))),(x0::x1::x2::x3::x4::x5::À (yk ď T e fw fh s due done)::yG),(Ĥ ⟨_,rfl,Ĥ h⟩),(ś λp=>{PyData.keyHash w.params p.1,.str p.1 p.2.1,p.2.2}),(λxs H Q=>∃a kvs,xs=[V.ref a]/\Rd H a œ/\Q (.int Ķ) H),(kC (zU we (wN ď őa ö zF)) (zU we (wN ē őa ö zF))),[.str w,.int d,.int n],[À (Â,.int x),À (Â,N),À (Â,.str k),Æ,Æ,Æ],(occurrences x y 0 Ça (Ça+1)),[.int g0,.int (g1*256),.int (g2*65536),.int (g3*16777216)],(qI ϩ wX),0,[À (Â,.lst a),À (Â,.lst ϥa),Æ,Æ,Æ,Æ,Æ],(zB (vJ Ă jL) (Β (zj Yb b rfl (zB Ă (zB Ġ zL))))),(.tup [.str k,d,s,n]),(.done (À (X2 a b (ϊ q) i (j+1)),ϊ q,i,j+1,g,k,u)),(.dic (xZ (xM Ĩ) Ĕ) (wE (xM Ĩ) (Xq b) (X7 b) Ĕ)),[.str w,.int d,.int s,.int n],(Β (zg ť zf Ġ (zY xT xR (z7 6) (Φ (zG Ġ))))),(z0n iR oO rfl Wn Mz (wn (zG (zg ť zf Ă Ž)) wp)),((Z.cps.toList.map λc=>Ļ {#[c]}).map λ_=>D.bl Ä),(λr=>pure (.done (À r,d.2.1,d.2.2.1,d.2.2.2.1,g))),(pI 8 pf (wO (zA (eC Ńa) (Α (e2 zK ŗ (z6 7)))))),(if t then Xf [.int x,.int n]else Xg [.int x,.int n]),(.tup [.str "load",.int (d:Å),.int (s:Å),.int n]),((18+cJ ŀ)*134217728+mJ ŀ*16777216+dJ Ö R i%32),(Γ ((isort ns).map V.int)),(yQ (i:=3) Qb.nd rfl à (zj Bc b rfl (δ (z7 2)))),(yB 3 (e2 zK (zU Jy zF) (e2 xD ö (eC (.int 28))))),(by exact(c*134217728+d*16777216)/2097152%8=0;omega),(.yield (Æ,e.2.1,e.2.2.1,e.2.2.2.1,e.2.2.2.2.1+1)),(gJ (qI ϩ jL) (D0 (zj Yb b rfl ñc) (D0 ļc jY))),(.inr {z,rfl,f,q _ _ _ n {rfl,đ (cut_len ..) f}}),(.tup [.str k,d,s]),(((ø+1:Ã):Å)),(a::b::yG),(if v<0 then max (v+(n:Å)) 0 else min v (n:Å)),(.tup [.str śa,.int (d:Å),.int (s:Å),.int n]),(.tup [.str ĵa,.int (d:Å),.int (s:Å),.int n]),(.tup [.str Őa,.int (d:Å),.int (s:Å),.int n]),0,(.XN (Pb (f := "name") ĭ É (Nt g e)) rfl .nil),(ąb [a,b] Ù=[(Â,Ė a Ù),(Â,Ė b Ù)]),(if v<0 then(v+(n:Å)).toNat else min v.toNat n),(.Call (.Attribute Îa "values" apos) [] [] cpos),(if zl zE i then 2 else 1),"_law_first",(W.fnOf x a (jO st) Ôa Ŕ .none kV d h g b ct),((Ϟe).getD i .zD),(Q (.bl k) H->(Yy K Â u v H Q\/Ox K u v H Q)),(εa (yX b) (Φ ùa) (zY xV xU (Φ Ža) zH)),(λi=>decide (0<=i)&&decide (i<1099511627776)),(zA (Ξ (w6 [ŏ] "held")) (Α (zU XY ëc))),(.tup [.str "copy",.int (d:Å),.int (s:Å)]),[À (Â,.dic Ğ Ŀ),À (Â,.int x),Æ],[.str Ïb.1 d,.str Ïb.2.1 tb,.str Ïb.2.2 c],(l (E.go d) c λv u w o g=>q v _ _ (ϧb o) g),(kvs.map λkv=>if kv.1=k then(kv.1,y)else kv),(by rw[I.ok.glob];show I.mod.glob.keeps I.bk),(.tup [.str Ïb.1,.str Ïb.2.1,.str Ïb.2.2]),(assign (.Name x j) Ù),(λq=>(t q/\¬ A q)\/((A q/\¬ L1 q)\/L2 q)),(qC xY P w K mg Ë N c Ŕ f g A ĉ s H E),(qC xY P w K mg Ë N a Ŕ f b A ĉ s H E),(ds.map (λd=>À (Â,d))++Ŗ (n-ø) Æ),(W.fnOf x a (jO st) Ôa Ŕ h kV d i g b ct),(W.fnOf m q (jO st) Ôa Ŕ g kV c h d a ct),(éa Îa Ŷ Ù (Ė Îa Ù)=Ė Îa Ù),(zg (ze (zS a)) zf (vJ Ă VX) (vJ Ă k8)),(yQ (i:=2) L0.nd rfl à (zj Ba b rfl ñc)),(xj ["words","kind","fields"] [Źa,"word"]),(Builtin.Tuple.tupleItemsOf (.ref t) >>= _),0,(.tup [.str Ţa,.int (d:Å),.int (s:Å)]),(.Call (.Attribute o Ņ apos) ĵ [] cpos),(qC xY P w K mg a N x Ŕ f c A ĉ s H E),(qC xY P w K mg a N q Ŕ f c A ĉ s H E),(if([]:Á Keyword).isEmpty then 0 else 1),(gU (v8 (WS .tuple rfl rfl pM ji Tk ùa))),(by rw[î];exact pre.length+1+_<=_;omega),(by rw[q];show List.mem_singleton.mpr rfl),(Νb (λi j=>vi i+vi j<=134217728) (i*j)),(Α (e2 zK Ā (e2 xD ša (eL vF Ûa)))),(λ_=>þ {_,rfl,WZ.go {f,d,h,by omega}}),(gU (v8 (WS .list rfl rfl pM j7 Mx ùa))),(by rw[î,î];exact _+1<=_+(_+1);omega),(by rw[show n+ñ=n+1+i by omega];show k),(by exact c*134217728/16777216%4=0;omega),[.str w,.int d,.int s],(m pos g s σ H _ I h),(xj ["items","far","at"] [Ýa,"target"]),(xO (wI Ws') a' b' c' (kP ps') (vP ps')),(tE (e2 xP Ŋa (e2 yp (eL vF Ęb) ļ))),(Builtin.«zip.__next__» {[.ref z],[]}),(.dic (kP (Yw ps x w)) (vP (Yw ps x w))),Array.Perm.refl,[.int (Δc (21+c)),.int (d%4294967296)],(ûa { cls:=.type ϐ,ċ:=.dict #[] }),(zt (o pos d s σ H _ I h) λm k c=>?_),(zt (h pos i s σ H _ I g) λk a c=>?_),(xj [ña,"kind","fields"] [Źa,"held"]),(vN X ŕ cl own C s2 H2 fp (X.pn++z8)),(pW 0 řc (Te (zU XY ëc) (Te ύe u4))),(W.fnOf Ņ c h i a dV kV z pm an d ct),(.Tuple [.Name x p1,.Name y p2] kk pos),(.Call (.Subscript Îa k z) ĵ [] pos),(.Attribute (.Name x p2) "values" apos),(wj (own:=[Āa]) rfl),(by cases y<;>show c),PyProof.Rows.slot_tuple_getitem.lookup,[.int l,.int d],(zE++gF Ö zE),(m/512+(i:Å)),(λq a b=>dj q ((ϸ).mpr (.inr a)) b),(zj Q5 a rfl (zB (z7 6) (Β (z7 9)))),(zd (zd m i (.own y)) y (.ins C i [])),(qC R P w K J l N g d f I A ĉ s H E),(j.pin (b,o) (ĥa _ (ĥa _ (D5 l e)))),(if x∈cs then getA fs ms f else Æ),(Z.pin (b,o) (ĥa _ (ĥa _ (D5 d e)))),(PySem.F.args_tuple_iterator_next_1 _),[st Ħ a b c Ğ Ŀ,.fz (.tup Ϙd)],(zB řa (Β (zg ť zf (z7 2) Ϧ))),(if k'=k then À v else Ċ ks vs k),(i (E.go d) c λr s m=>q _ _ (ϧb m)),(.tup [.str ĺa,.int (d:Å),.int n]),(.tup [.str ώa,.int (d:Å),.int n]),(!decide (8<(ϫ:Å))&&(ϖd).all id),["text",ύa,"wrong"],(λ_ _ z=>nomatch z),((ϸ).mpr (.inr w)),row.cps.toList,Builtin.SmallTypes.ownedTupleHandOut,[yd C T e fw fh Åb due done,.int m],(tryCatch (pyNext (.ref I)) _ >>= _),(if ns=[]then z else .int (maxI ns)),(backToKw cpos (keywordEach [] Ù)),(.Tuple [.Name x c,.Name y e] f pos),((ň h).resolve_left λz=>c z.symm),ne_true_of_eq_false,(ώb (show uy _ _ _ _ _ from h).sx),(θ (gR t a b y) (Qi t a b (x+1))),(zt (n e s σ H _ I h) λd k f=>?_),(zt (m b s σ H _ I h) λu g a=>?_),(zt (l g s σ H _ I h) λv k e=>?_),(zt (j i s σ H _ I h) λc m d=>?_),(zt (b d s σ H Q I h) λc g e=>?_),(B_ ((Nv F (k:=Â) ?_).trans rfl)),(Νb (λ_ j=>0<j/\j<2 ^ 64) (i/j)),(šc y=À .cell\/šc y=À .free),(yB 5 (e2 xD (e2 wY ö Þb) ħ)),(c*134217728+d*16777216+s*2097152),(.Call (.Name Śa p) [a,b] [] pos),PySem.F.entry_tuple_iterator_next,(λq z=>(ϸ).mpr (.inr (s q z))),(λq z w=>y q ϳd λB=>w (j q B)),(λb p=>b++("" : Ç).cps++p.cps),(L2.isort (ś λi:Ã=>(i:Å))),(zB zr (zB zr zL)),PySem.Calls.Name_function_global,[yd C T e fw fh (vA s) due done],[.tup R,.int (a+2),.int (a+Ŧg)],(ε (Η (Κb (xj ũg [Ýa])))),(λm t i j s o=>f m t i j ϣj o),(λm i c f s o=>a m i c f ϣj o),(if(i==0)=Ä then 0 else Ąd+1),(g0+g1*256+g2*65536+g3*16777216),(e2 zK (Ξ (w6 [ŏ] Òb)) Ļc),(.ListComp d [{tg,b,f,0}] a pos),"_law_names_here",[.own ëd,.fz şb,.fz (.int w)],(Νb (λ_ j=>0<=j) (i/2 ^ Ϛc)),(ąb [b] Ù=[(Â,Ė b Ù)]),(θ (gT t a b y) (Qj t a b x)),(λp=>if p.1=a then(a,b)else p),(zY Zj Zi (zY Yu Ys zH ņ) zH),(rI CU λi j=>.int (i*2 ^ Ϛc)),(kvs.any λkv=>decide (kv.1=k)),(gQ left (wq k) λi=>K x (b+i)),(PySem.F.args_dict_get_3 _ _ _),(Nat.le_of_sub_eq_zero (ϛg c)),(.tup [.str w,.str k,.str q.1]),(.Assign [.Name x px] āb spos),((σ++Ŗ 2 Æ).set i (À b)),[.str (t ++ ":")],PySem.wpAny_comprehension_free,Array.perm_iff_toList_perm.mpr,[st Ħ a b c Ğ Ŀ,.fz ľc],[b i,.int (A ñ),tA A (tg i)],(Μ (.obj ď źd [a,b,c,d])),(λq z w=>y q (ζa (i q z)) w),(λq z w=>o q z (ζa (i q w))),(zU pT (wN ē çb (z6 7) zF)),(e2 zK (Ξ (w6 ł Éa)) Ϫg),(X.take k++r.toList++Y.drop e),(PySem.F.args_tuple_add_2 _ _),(PySem.F.args_dict_values_1 _),(ė t==ĉd),[.lst (ŷb λi:Ã=>Ċa Ϩd)],(Ξd (.bl (!decide (x=.zD)))),(č æ æ hi-č æ 0 lo),(éa o Ņ Ù Ŝb=Ė o Ù),(γ (zG (Φ (zG Ă))) ťb),(ý (x/2 ^ ((l:Å)).toNat)),(ý (g*2 ^ ((n:Å)).toNat)),(λq=>(t i q/\¬ L1 q)\/L2 q),(tm ϡc (tH ö (vk ļ) vj)),(eL Tx (Α (e2 zK ö Į))),(Di rfl XA (zj OP b rfl űa)),(.tup [.int (i:Å),tgt ŀ]),[.int (i:Å),v],List.takeWhile_append_of_pos,List.pairwise_iff_getElem.mp,[À (Â,.lst ϒe),Æ,Æ],[À (Â,.dic ĝa Űa),Æ],[st Ħ a b c Ğ Ŀ,.fz r],[st Ħ a b c hk hv,.fz ćc],[st Ħ a b c hk hv,.fz Ůg],[.str ϥ,.str Ϗ,.str ώ],[.str k,.int x,.int y,.bl a],[.str "d",.str "s",.str "n"],(üc e Æ ϐc Ù=pure Â),(λc f k e=>j a d m c f k e),(xj ["four"] ["byte","low"]),(if g=f then À u else k g),(0+({#[c]}:Ç).length<=ü),((Ϟj).push (Įd ŷ Ōa 0)),(!(ác j i 0 Œa 1).isEmpty),Option.isSome_iff_exists.mp,Builtin.Builtins.bindParams,[Éa,ñb,ϗb,ïc,ōa,"due"],(éa e f Ù Đd=Ė e Ù),(À (yh K (.inl (i:Å)))),(λq=>(t q/\¬ L1 q)\/L2 q),(λd1 d2 v=>BL I n d1 d2 v),(zg ť zf (vJ Ă qd) ģa),(zU pT (wN ď çb ša zF)),(e2 pj (e2 um ļ ħ) ļ),(call (.builtin a) (v::us)),(.own (.dic (kP c) (vP c))),(Θc (.int 64)),(eC (.str ĵa)),(e2 um ļ Ā),"dict_reverseitemiterator",Int.fdiv_eq_ediv_of_nonneg,Builtin.Slice.sliceApplied,Array.toList_setIfInBounds,[À (Â,TT),Æ,Æ,Æ],(λb p=>b++sep.cps++p.cps),(yB 2 (e1 (xg qf Vl) Ā)),(wj (own:=["number"]) rfl),(seqItems? (.ref S) >>= _),(if Šg=Ä then _ else _),0,(if p.1=a then(a,b)else p),(by rw[mirror_size];omega),(W.methodObj Ń (.ref y)),(List.map_eq_nil_iff.mp z),(.tup [.str ϥ,.str q.1]),"_law_machine",slot_tuple_getitem.lookup,PySem.F.entry_dict_values,(νa íe (eC (.str ϊa))),(ĝb (ãb q Ŕ Þ f c)),(ĝb (ãb c Ŕ Þ f g)),(ĝb (ãb a Ŕ Þ f b)),(Α (zU qr (zA ö zF))),(τ.set i (À (Ä,d'))),(λf vs=>PySem.call f vs),(rule "list.sort.gallop"),(mU ĝ (λb a=>Âc.1) k),(X.N.map (hide own)++own),(Nat.le_of_ble_eq_true z),(.nx (Ψ (À (Ä,a)))),(.ins C dx (putF f y fs)),(.call (.ref O) {ða,[]}),(.Compare a [op] [b] pos),((d.endLine==f.line)=Ä),slot_list_getitem.lookup,PySem.F.type_dict_values,PySem.F.slot_tuple_index,[.int x,.tup ĝk,.int n],0,[.int x,.tup Ÿg,.int 0],(Ξ (w6 [ď,ē] ōa)),(Νb (λ_ j=>0<j) (i%j)),(ϧ (t ++ ":") Æ ìe),(ϊ q++Õb ϻ (j+1+m)),(zU F (wN ď m ö zF)),(zU F (wN ē m ö zF)),(yk ď T n fw fh s i j),(yk ē U m fw fh s k j),(yk C T e fw fh s d0 j0),(yB 3 (zU ju (Υ ϡc))),(xs.drop (č æ 0 lo)),(partsBetween x ϳj ôc),(lj b f É É É É),(jg (z1k YY Yx rfl Ġ)),(if _<=yb then _ else _),(e1 (xg uO uP) (eC Ϭb)),(c*134217728+m*16777216),(by unfold zA;rw[N];rfl),(by rw[c];simpa using l),(by exact 3<=â;decide),(args_tuple_getitem _ _),(a _ (DL _ rfl P.it e2)),(Option.map (λx=>!x) y),(.tup [.str ϥ,.int p]),(.Attribute o "get" Ű),((Ťg).map λ_=>ů Ä),"itertools.zip_longest",PySem.F.slot_dict_items,PySem.F.plainAttrs_list,PySem.F.entry_tuple_add,0,Nat.testBit_mod_two_pow,Nat.testBit_div_two_pow,List.mem_iff_getElem.mp,List.getElem?_replicate,List.getElem?_cons_succ,Builtin.Dict.updateFrom,(Ρc (d.lst i (ÿc c))),(λx l r Q c T O I=>?_),(λd=>.tup [d,.bl Ä]),(by rw[jW,jW,By];omega),(by exact 1+_<=_;omega),(ZR ď ķd 0 [] jE u4),(ZR ē ķd 0 [] jE u4),(U6 i A n hv {C} l a B),(Tr (w := ϥ) rfl rfl),(List.take_sublist _ _),(({#[c]}:Ç)++Ād.2.2),"WordMachine.__init__",x.cps.toList.dropWhile,wpAny_pyNext_list_item,wpAny_pyNext_dict_item,wpAny_Call_method_late,PySem.F.slot_tuple_add,PySem.F.entry_max_loop,PySem.F.entry_dict_get,PyProof.Rows.bitAnd_pp,List.pairwise_cons.mpr,List.getElem?_set_self,[.str w,.str k,.str t],(λv l=>v=.ref a/\l=H),(λq z=>(ϸ).mpr ύc),(λc=>Du x (z+1) c st),(λb o j e=>R b o j e),(zy WJ WI Ža èb ľ),(zy WJ WI ùa èb ľ),(zy QR QP Ũb èb ľ),(yB 4 (e2 xD ö ħ)),(yB 0 (Θc (.int 28))),(w6 ["State"] "words"),(v8 (zj W6 b rfl ϙb)),(rI C λi j=>.int ϣa),(n.trans (ıb e.gh k)),(n.trans (ıb e.gh i)),(n pos b g σ f _ l d),(by rw[ua É];show w),(by rw[c];show{_,m,q}),(b.trans (ϑa b.gh c)),(Dr a b (ϊ q) i Ϻa),(.Subscript īa k Ľa),(.BoolOp .And [a] pos),"RowMachine.__init__",wpAny_pyNext_list_end,wpAny_pyNext_dict_end,X.s₀.heap.FunFrames,StrLaws.partition_sum,StrLaws.occ_length_le,StrLaws.glued_eq_join,Std.Legacy.Range.size,PyProof.Rows.wpS_lift,Nat.add_lt_of_lt_sub',List.singleton_append,List.pairwise_map.mpr,List.nodup_append.mpr,List.filter_replicate,List.eq_nil_or_concat,List.concat_eq_append,List.Pairwise.sublist,Int.mul_ediv_add_emod,[Éa,ñb,ϗb,ïc,ōa],[Ūa,Ýk,"_law_most"],[.ref I,.none,.ref S],[.dic Ğ Ŀ,.int x],(Įd ĸ d.toArray 0),(Α (e2 zK ϡc Ğa)),(x.above y c (Ϸe h)),(wj (own:=[ċd]) rfl),(wj (own:=[Ĉa]) rfl),(wj (own:=[Źa]) rfl),(wj (own:=[Óa]) rfl),(u7 (tE ħ) ļ ī),(qF (u.qA b c v q) d),(lH I m j hf d e i g),(f.trans (j.trans n)),(by simpa using this),(by rw[<-Ćb];show b),(by let:=i q h;omega),(F.args_zip_next_1 _),(Dv D.l2i2 G.toArray),(Dv D.l1i1 J.toArray),(.Slice lo hi Æ p2),(.Constant Ŭ ck cp),(.Call Îa [] [] pos),(.BoolOp .Or [a] pos),(.Attribute o f tpos),"str_ascii_iterator","itertools.pairwise",wpAny_pyIter_keyiter,wpAny_loadName_local,codeAny_call_builtin,Nat.pow_le_pow_right,Nat.eq_of_testBit_eq,Nat.add_le_of_le_sub,List.pairwise_map.mp,List.getElem?_set_ne,Array.toList_reverse,Array.toArray_toList,[.Attribute o f Ľa],["one",Ėd,"borrow"],(Ϟd (č ü 0 lo)),(Β (vK O3 Oq rfl)),(λz=>e (a.trans z)),(λq z=>i q (j q z)),(λq z=>h q (s q z)),(λL i=>L.set i ßk),(zt Ĉk λB z c=>?_),(xC x y&&dEqs xs ys),(tE (e2 gA ħ Ϣ)),(if a then 1 else 0),(e2 za àc (eC Ńa)),(e2 Vg ö (eC àe)),(by rw[ĥ]<;>omega),(by rw[yH z];show c),(by exact m<4;omega),(X4 a b Ĺd (i-1) j),(WC I u l hv ?_ j a),(Nat.le_add_left ..),(.inr (i q (j q z))),(.Subscript o k Ľa),(.Subscript a b pos),(.Call c ĵ [] pos),(.BoolOp op [a] pos),(.Attribute o f Ľa),((Ťg).map λ_=>Ä),((d q).mpr (.inl c)),(((k+1:Ã):Å)<=m),"dict_itemiterator","Machine.registers",wpAny_loadName_cell,length_partsBetween,entry_tuple_getitem,beq_eq_false_iff_ne,Nat.sub_le_sub_left,List.isEmpty_iff.mp,Heap.SameBut.update,Bool.eq_iff_iff.mpr,[ş,"low",Ůc,Ýa],[.str "d",.str "s"],[.str "d",.str "n"],[.at [ď,ē] ïc],[.at [ď,ē] ϗb],(γd (.Name Śa p)),(γd (.Name Ϡb p)),(Ξd (Ηa (x=.zD))),(Ξb (.Name Ťb p)),(Ξb (.Name ϐ p)),(Ϫ λp=>.int p.1),(Γ (ιa (Õc a))),(Δ ((Ĉ:Å)+1)),(Ía (min æ Ĝa)),(Ĳ _ (Ĳ _ đd)),(À (Ä,.lst ds)),(λx l r Q c q=>?_),(λt h=>by cases h),(λ_ _ _ _=>by rfl),(zg ť zf Ϧ ġc),(zg ť zf ņ Ϧ),(wN x m ö zF Žd),(vv ps øc (v%256)),(tM (v8 ņ) zH zH),(storeName Ù x u),(qF (u.qV b e q) d),(pH λi j=>.bl ϣa),(intBits_le_64 a b),(f x y&&jN f xs ys),(e1 (xg uO uP) Ā),(by simpa using hj),(by simpa using h2),(by simpa using e2),(by simpa using e1),(by rw[Ū];show b),0,(by rw[ç];show c),(by rw[ç];show N),(by rw[z21];decide),(by rw[k,j];show n),(Y_ Ă (Zs zH) Zr),(.tup (p.1.map kV)),(.str (Ņb sep ts)),(.ret (.int j Ď)),(.Tuple elts kk tp),(.Assign Ϯe v pos),(.Assign Ϧe v pos),(("r" : Ç)++wB n),(ς (d 1)),(xS (yX b)),"internal:collect","dict.update.loop","Machine.__init__",wpAny_Constant_int,s.heap.IsTupleIter,of_decide_eq_false,getattributeRaised,SeqAt.EqAt.str_int,SeqAt.EqAt.of_refs,SeqAt.EqAt.int_str,Obj.data_mapFields,Nat.lt_of_le_of_ne,List.zip_nil_right,List.set_cons_zero,0,List.set_cons_succ,List.getElem?_take,Int.mul_emod_right,[.lst ws,.int Ñc],(Ξ (w6 ł ōa)),(õc (ϑa c.gh f)),(õc (ϑa c.gh e)),(ś λi=>Ϭ Ñc),(Λb (ąb es env)),(À (.Name x px)),(λv _=>v=.bl Ä),(λb u q=>Ĳ _ q),(λ_ h=>ß h ê),(λC s H c b=>Ġ),(zg Ąf zf Ġ zH),(zg ť zf Ϧ zH),(zY xV xU Ă Ġ),(zY oR oN Ă Ġ),(yB 2 (zU Xh ëc)),(yB 2 (zU T1 ëc)),(xj įk [Ýa,Ϯa]),(wy [] [] p.1 p.2),(tt qz pG rfl Ġ),(tt YY Yx rfl Ġ),(tt O5 Ow rfl Ă),(by simpa using t),(by simpa using i),(by simpa using R),(by simpa using F),(by rw[ų,w];rfl),(by rw[ų,s];rfl),0,(by rw[ų,k];rfl),(by rw[ų,C];rfl),(by rw[ĥ];omega),(by rw[ą,ą,l]),(by rw[î];omega),(by rw[î,a];rfl),(YH (β.take ę)),(L.foldl (Zl t) s),(FY t1 t2 h l1 l2),(FX t1 t2 h l1 l2),(Dm a b Ĺd ñ j),(.Tuple es x1 pos),(.IfExp c a b pos),((a:Å)==(n:Å)),"_law_words_here",wpAny_sequenceKey,wpAny_pyIter_enum,wpAny_pyIter_dict,wpAny_assign_Name,meets_dict_values,decide_eq_true_eq,d.params.defaults,Value.isInt_shape,StrLaws.subAt_one,List.nodup_append,List.getElem_take,List.getElem_drop,List.any_eq_false,Heap.get?_push_ne,Builtin.Str.subAt,Array.size_append,[Ýa,Ůc,"power"],[.zD,.zD,.zD,.zD],[.str w,.str "s"],[.str w,.str "n"],[.str k,.str "s"],[.str k,.str "n"],(ľa i q (p q z)),(ľa i q (I q z)),(Ğf b o e n C t),(ãb g d Þ f I),(Ηd (o q z ık)),(τ++Ŗ Ňb Æ),(λx=>x.1.isSome),(λi=>c.getD i 0),(λC s H d c=>uM),(λC s H b a=>uM),(zj p6 b rfl ñc),(zj OR b rfl űa),(zd a p (.lst c)),(zY xT xR Ă zH),(zY Zj Zi zH ϑd),(yq g yc e σ ys),(y.toList.map wq),(x.toList.map wq),(uQ (s.free r) _),(uQ (c.free m) _),(i<1099511627776),(eC (.int 65536)),(by rw[z];show a),(by rw[i];show u),(by rw[i];show T),(by rw[h];decide),(by rw[f_];omega),(List.cons.inj a),(.tbl (ps++more)),(.dK (jZ [] kvs)),(.Tuple es k pos),(.Pass {0,0,0,0}),(.Dict [] [] pos),(.int 512),"odict_iterator","State.__init__","REGISTER_COUNT","Machine.stands","Machine.memory",z.cps.toList.map,wpAny_pyIter_zip,wpAny_execs_cons,noFill_tuple_add,d.heap.objs.size,b.heap.objs.size,W.cellsFrom_some,SeqAt.in_tupleAt,P.lb.mem_iff.mpr,Option.getD_none,Nat.zero_testBit,Nat.succ_lt_succ,List.filter_cons,List.drop_length,List.all_eq_true,Heap.size_update,F.entry_zip_next,[{À Ϲd,e,kp}],[x0,x1,x2,x3,x4],[.int 27,.int 5],[.int (i:Å),d],["_law_address"],(ûe λd=>!yS d),(Ξ (xg O6 O9)),(λz=>ß rfl z),(λz=>h (ϡb z)),(λq=>nomatch q),(yZ x ſj Æ g),(wy [] [] ks us),(wt (m%8).toNat),(wt (m%4).toNat),(pX Ĩ (Ĕ+1)),(e1 (Tt qf) Ā),(by simp[Żh,b]),(a.symm.trans e),(YH (β.take b)),(.tup [ϲ,ēb]),(.obj C źd Ϧj),(.done (Æ,())),(.cons rfl .nil),(.builtin "sum"),(.builtin "all"),(.bl (a.all id)),((Ϛd).length=n),((W Ēa).map sD),"type.__call__","list_iterator","NUMBER_WIDTHS","Machine.steps","Machine.place","Machine.marks","Machine.again",sc.names.lookup,g.isList.typeIs,W.methodCall_KW,Option.map_some,List.zipIdx_nil,List.nodup_cons,List.filter_nil,Heap.DictOf.new,F.slot_int_rmul,Bool.or_eq_true,[y,À (Â,d)],[.int 0,.int W],[.int 0,.int 8],[.at [ŏ] Òb],[.at [ŏ] Ŏ],(υa (À ĺd)),(Įd ĸ #[] c),(Ρ (Α íd)),(Τb (.int 64)),(Ηc (ńe ñ)),(Œb T {#[10]}),(ìc (ϰ x z)),(Îb (Ňc ϩc)),(Γ (xs++[y])),(Δ (i+b2i k)),(Δ (gW ps a)),(ąb [e,f] Ù),(σ++Ŗ 1 Æ),(β++[À ĺd]),(wN x m ö zF),(wE A b tg ñ),(uw ks ms k m2),(q _ _ _ d rfl),(mw λi j=>i+j),(kD .tuple ö),(h.swap.pa e c),(f x (Æ,l,r)),(eC (.str ώa)),(eC (.str Őa)),(e2 zK Į ī),(e2 zK ħ ŗ),(e2 zK ħ ļ),(e2 zK ö ļ),(e2 yp Ā ũa),(e2 yp ö Ā),(e2 xD ŗ Ìb),(e2 wY ŗ Ŕb),(e2 ZU Į Ϣ),(e2 Tv ö Ā),(e.2.2.2.2.1+1),(by simp;omega),(by kernel_rfl),0,(Zt (qv 4) řa),(Zq rfl ue Ž),(Rd.tw t İk q),(Ob I u j ?_ a),(K.ext.trans x),(I.ok.Uk b o e),(I C s H fp pn),(Dy sp [] E0 t),(2*n<1*2 ^ Ća),(.yO o (.dK m)),(.tup (Ϸb kV)),(.nx (Ψ Ŝc)),((äi).ok 10 q),((ϸ).mpr Ħb),((u p).mpr rfl),"str_iterator","NAME_LONGEST","Machine.step","FIGURES_MOST","ADDRESS_BITS",wpAny_setField,wpAny_notIn_of,wpAny_newTuple,sliceRange_one,slicePart_none,recursionLimit,firstArgMember,env.scope.kind,0,c.resolve_left,Value.type.inj,PyData.keyHash,List.forIn_nil,J.toArray.size,G.toArray.size,[.dic Ğ Ŀ],(Ķb [:n] c f),(àf tg Ôb u),(θa (eC Įa)),(ϰd (Æ,())),(Œb x {#[c]}),(ė Ġa::ĸd),(Ô (ĺk h1)),(Á V×Á D),(τ.set i Ŝc),(λi=>ųf i 0),(λ_=>.bl Ä),(β'++[À m]),(yZ x p Æ g),(xo x&&ϴc xo),(xM Ĩ i+Ük),(x/16777216%4),(x-y-pC Â<0),(wv Ö R ñ),(wD ks ds x y),(w::(pre++ds)),(vd d&&ĵb ds),(vK O4 Os rfl),(vK O2 Op rfl),(vK BP DQ rfl),0,(uQ (Īf k) _),(uQ (Īf i) _),(pre_splitW b),(l.lst hl Ϝa),(kX Ö tgs n),(kD .list ö),(j2 fs vs f w),(j2 fs ms f e),(iw ä I.big),(glued sep ts),(d2 q (C▸f)),(cutS z lo hi),(by size_fits),(by rw[l,Œa]),(by rw[c];rfl),(b.getD j .zD),(a.getD i Â),(R.filter åi),(G _ _ É ?_),(AP X z8 σ Q),(.str (ĭd i)),(.int ϣa Ď),(.int (w:Å)),(.int (n:Ã)),(.int (j:Å)),(.int (h:Å)),(.ins C dx []),(.fz (.int u)),(.builtin ϴa),(.List es pos),((ħf).bind _),"list.append",x.toList.drop,tupleItemsOf_,subscriptTail,seq_tuple_add,s.heap.IsCell,r.length.symm,listUpdate_at,h.IsTupleIter,getItem_tuple,evalPart_none,call_list_seq,WData.layable,W.callWith_K0,Value.isStrOf,Nat.reduceSub,Nat.reduceAdd,NameKind.free,NameKind.cell,Int.mul_assoc,Int.add_assoc,E.ext.gh.free,[Šd,Ėd,Ña],[Éa,ñb,ϗb],[Āa,Źa,ña],[ϥ,Ϗ,ώ],[ş,Āa,Źa],[Çb,Řk,Ãe],[z,TI,TO,B,r],[D1,.tup ŵj],(ωa (Įb d)),(υa (À a)),(åe ĵ Ù),(ϑc _ _ n x),(Ηc (ńe i)),(ϓg (Ϟg a)),(Ė ëa Ù),(Ĕb (ĝf _)),(Δ (2 ^ w)),(σ++[À b]),(λo j=>o++j),(zd H' a œ),(zd H' D ųc),(zd G' a œ),(zT (zn Ġ)),(xx.size-1+1),(wv Ö zE i),(wI (W++[v])),(wE A b tg i),(vv ps x Őd),(vv ps v Ϟh),(ps++[(a,b)]),(pI 4 pf Ğa),(kQ r.2 i π),(jZ kvs more),(i p (j p w)),(gW ps a≠0),(dJ Ö zE i),(b.gh.free c),(Yw ps øc v),(Xs xs lo hi),(UM (K:=K) e),(St->Hp->È),(L.set i ßk),(G _ _ lo ?_),(EP X c σ Q),(.str s t::r),(.str (i++j)),(.Name ϴa p),(.Name ĸ p),(.Name x Ľa),((n:Å)*8+d),"startswith","dict_items","NUMBER_LOW","NEAR_CODES",w.cps.toList,e2.length_eq,c.toList.any,c.symm.trans,b.cps.toList,a.cps.toList,W.kitx_tuple,OwnMs.length,Nat.mul_comm,Nat.lt_asymm,List.any_map,K.ext.h.free,Int.zero_add,Int.sub_zero,Int.max_comm,Int.add_comm,Bool.or_true,Array.toList,(Ųf (qL g)),(ηb (Hm _)),(Γ (x::r)),(Ĕa .NotEq),(Ŗ ϛ xs),(λz=>h Ūf),(λx v h=>h),(λi v h=>h),(λc=>l ýg),(λb v h=>h),(zd H l ÿe),(zd H l Ék),(zd H l ųc),(zB Ϧ Ũf),(zB ņ Ħf),(zB ņ ϙb),(zA ŗ ýe),(zA Į ũf),(zA ħ ţb),(yZ y p f g),(xo n&&xo o),(x.rebase y),(wI (D4 ps)),(ur fs fg g),(uZ kvs k y),(tj ī Į),(tC (.ty T)),(pF m π m2),(okb.JT b d),(newList []),(m.append o),(lq Í Í),(loop _ rfl),(is.map ý),(i+1+1==ù),(by cases h),(b.h.free c),(Q0 X.K n t),(I.V5 x c e),(FW t1 h l1),(EG a o kvs),(EC a o kvs),(EB a o kvs),(DL n a b h),(C.bs b o e),(BF ϓj Żj),(18+(c:Å)),(.type T.nm),(.tup [ēb]),(.tup [v,u]),(.tup [u,v]),(.tab ks ms),(.ret .none),(.inr {e,g}),(.inl {z,w}),0,(.inl {e,g}),(.dic ks ds),(.bl (kI z)),"partition","looked_at","_law_word","WORD_BITS","NEAR_BACK","FAR_CODES","BYTE_LOWS","BYTE_BITS",wpAny_of_eq,wpAny_in_of,unsupported,subscripted,seqEpoch_at,o.ExactDict,mirror_perm,l.takeWhile,keywordEach,keys.length,interactive,i.objs.size,h.IsKeyIter,c.objs.size,binarySort',acc.toArray,W.kitx_dict,0,Value.isInt,Value.bytes,Sum.inr.inj,Shared.heap,Reps.append,Paired.snoc,OwnMs.split,Option.none,Nat.sub_sub,Nat.pow_pos,IsRangeIter,I.ok.jD.mem,I.ok.frames,Heap.ExtBut,F.heap.get?,E.ext.trans,D.TOi1.symm,Code.guards,Code.frames,[d0,.int k],[a,.fz Ðk],[a,.fz Ϲj],[S,.fz Ðk],[S,.fz Ϲj],[.Name x p],["key",Ϲd],(ľa n q z),(ľa n q c),(ιa (ϔg)),(ς (d 2)),(Ηa (i=j)),0,(Ρa (i-j)),(Õb m Ϻa),(Ė e env),(Ė a Ù),(ϗe k ü),(Δ (m%4)),(łc ϭj b),(Ņb "" ts),(Ιb (j<i)),(ύ ĕc f),(đ j Í),(Ŗ ϋa r),(Ŗ k its),(À (_,d)),(ze (zS a)),(zd H' D o),(zd H x o'),(zd H a u'),(zU t9 ëc),(zU TM ŀa),(zU T0 Ęb),(zB Îf zL),(zB Ġ zL),(zB zr ōk),(zB zr όj),(zB zH ϡd),(zA êd zF),(y j q l z),(wl I q ?_),(wC ks ąa),(vJ Ă k8),(uV (vm s)),(uV (vm g)),(n=0->v=dv),(n d v c r),(j.ok _ ht),(j.cut l h),(ixN ø j),(i.cut l h),(fs.zip vs),(by show y),(by show t),(by show A),(as.zip vs),(W.sub _ h),(W.len Đ),(SP X z8 D),(Nq rfl ?_),(NZ f y fs),(B.trans a),(8*2097152),(.yO o Ěa),(.type Ļa),(.rt Ä d),(.ok .next),(.int done),(.Name x j),((j:Å)+1),((i:Å)<l),((i:Å)+1),"endswith","_law_one",wpAny_load,us.toArray,typeLookup,tF.none_of,size_push',pushGuards,out.toList,m.zi.fresh,l.swap.fin,isTrue_and,g.zi.fresh,closureFor,call_gives,boot_range,b.Pairwise,WShape.has,W.handedIn,PlainAttrs,OwnMs.putF,D.i2z.symm,D.i12.symm,[t ++ ":"],[p0,p1,p2],[.str Ëc],[.str îb],[.lst ŧk],(źb V.bl),(ñf C dx),(Ĳa<1000),(ęb this),(Ŗ k xs),(æ==Ĝa),(Ä==Ä),(Þ==źh),(λv h=>h),(λt=>üa),(λ_=>#[]),(zd H a c),(zd H T o),(zd H D o),(zd G p u),(zd G p o),(zE++g zE),(zB xr zL),(yB 6 ϩk),(yB 2 ϫk),(yB 2 ī),(yB 1 àc),(xg kF kG),(xg Ya Za),(xg YZ ZZ),(xZ A ñ),(w.wd q i),(vv c u v),(v4 Ö f),(uZ d k v),(uX its k),(uI Ēa i),(truthy v),(tL 2 Ϛe),(rZ Y c h),(q b ob e),(m/4096%8),(j+1==ϒ),(iQ P É),(hb _ _ d),(by rw[c]),(arrOf st),(a.d4 X G),(Yv ks ds),(Y.pl q h),(V5 y c e),(U4 b=Ä),(Tz w Øb),(P.zip vs),(OY ĝ p),(Nr O _ _),(2 ^ 63-1),(.tup ϋk),(.tup Ďh),(.tup òh),(.tup ĝk),(.tup ćk),(.tup Àk),(.tup ŭc),(.tup ϩd),(.tup ϛj),(.tup Ŕc),(.str Śh),(.str ße),(.str Âe),(.str śa),(.str x t),(.str sep),(.str ";"),(.ref Æe),(.ref Ĩa),(.int ü),(.int æ),(.inr Óa),(.inr ÿa),(.inr Ña),(.inl Ñc),(.inl p.1),(!yh ks k),"twofold","address","NEAR_ON","Machine","LETTERS","FIGURES",zs.length,zE.length,z.sameBut,spos.line,sortRuns',slicePick,sh.extBut,0,sg.extBut,s.heap.Ns,qs.length,pu.isList,ok.frames,maxI_uniq,l.swap.sa,kvs.foldl,j.g.trans,isTrue_or,i.toArray,h.swap.ca,h.IsTuple,h.DictOfH,getMethod,g.isEmpty,es.length,countRun',cond_true,Reps.take,Reps.getK,Reps.getA,Reps.drop,I.zi.kept,Arguments,[Àl,Çb],[Ïc k,d],[åa,Ϗa],0,[Ŭc,Çb],[Éa,ñb],[Çb,Ãe],[Ŏ,Òb],[Ŏ,ńa],[x,y,z,u],[w,x,y,z],[v,ov,iv],[a,.fz r],[.lst zC],["d","n"],["State"],(öj d.g),(úg n y),(Ŝi ñ),(ög Ôb),(ŋe ŝa),(Ŋe Æe),(ųf i 0),(źb Ļ),(Ŵk=Ä),(ěc s h),(čf z y),(Ŵb ė),(Ϸb Żb),(ıb s r),(Λc Ŵk),(Τb ľm),(âb Żb),(Ρa ϣa),(Δc Ŗe),0,(Δc Ϸc),(Œb z y),(Œb x y),(ŵa Ęf),(ŵa ύd),(Ψ ãi),(Γ Ńe),(Γ ĥd),(Γ ϳg),(Γ ŝb),(Δ ϣa),(Μ Ϝe),(Ĕa .Eq),(Β ϵc),(Β Îf),(Β Èb),(Λ Ìc),(Η řa),(Ε Ž),(Ía Ðb),(Α êd),(Α Ϣ),(æa _ u),(æa _ m),(Ĥ ϭj),(Ĥ Ýb),(Ĳ _ g),(Ø ái),(À ëk),(zl zE i),(zA f fs),(z1n m s),(ys++[y]),(xt K VC),(xt K Ux),(xt K Uw),(xt K Uv),(x/2 ^ l),(x a o e),(wC ks x),(uX [] 0),(u e1 e2),(st::sts),(r.app h),(q _ _ d),(o++x++y),(k K b z),(jZ [] b),(jM F fa),(j _ _ e),(h r g f),(h p ĳ),(h d ĳ),(gO E.V3),(g _ _ e),(d+k+x.2),(cut H L),(c E z q),(b.val k),(b _ _ e),(a[ϛ]?),(a++[yv]),(W.l▸e),(Io ns k),(II lo n),(Hp->È),(F b o e),(C q ύc),(C q ıa),(A.n X G),(2 ^ w-1),(.v d::a),(.tup []),(.str P1),(.str ""),(.ref XU),(.ref XT),(.ref XS),(.ref Ut),(.ref Us),(.ref Uq),(.ref Up),(.ok Ēe),(.int g0),(.int 21),(.int 14),(.fz ŀf),(.fz ūb),(.fz Č),(.dK ĕa),((i:Å)),(x==("__debug__" : Str)),(UG (δa (ye (i:=2) UC.nd rfl à) (vt (ye (i:=3) UC.nd rfl à) jb)) rfl rfl),(yW (IY (n:=4) Í) Í),[.Constant (.str y) ck1 p1,.Constant Ϥa ck2 p2],(e2 zK ö ī),(qI ϩ qd),(zA (e2 xD ša Ìb) zF),(str_int (DB z0 É)),(uV (vm o)),(eC (.str όa)),(eC (.int 26)),(by show øg {?_,?_};rintro(⟨z,w⟩|⟨z,w⟩|z);show .inl {z,λB=>w ėg};show .inl {i q z,w};show .inr z;rintro(⟨z,w⟩|z)),(by subst e;let{o,e,c,d}:=st;show{o,e,λv z=>by rw[d]at z;cases z}),(by exact _<16777216;omega),(by omega;rintro _ g (⟨f⟩|⟨l⟩);show þ {g,rfl,_,rfl,f}),(by rw[Vj];unfold YN;show U8 ϔc ?_),(by decide +kernel),(by let{G3,d,x3,u,rd}:=j.uh i G H x f Åc àa hlt y;rw[łb hlt]at a;rw[ğ hlt]at u;cases u;let{τ1,h1,a}:=zJ (show(c _ τ).bind _=_ from a)),(by let{c,z,rfl,g,f,t}:=r2;cases(show u=ė a from rx);cases(show v=ė c from ry);by_cases hac:a=c;subst hac;rw[BL I Ŋ _ _ _ m p q]),(by rw[show Ôe ϲa=ōg ϲa by simp,Ic r c];show q),(by intro l s σ H x y v u Q I i g h;let{n,o,k,d,e,f,q}:=h;by_cases hf:ϓn=Ä;let c:=hf;rw[ě]at c;let{a,b}:=z0m f c.1 c.2 d e),(by show this),(by intro d s σ H x vs v e Q I b a h;let{z,y,rfl,rfl,q}:=h;let{t,rfl}:=(show ∃t,v=ŏa z t from b);let{u,rfl,c,rfl}:=uD a),(by intro X U N L p i z8 s σ H E I J st B;subst U N L;let{ok,ov,g}:=st;let{_,f,j,Q}:=YX ĝ B.1 d;let r:Ĝa=Ķ:=p8 j),(by by_cases c:A q;show .inr Þi;show .inl {z,c};show .inr ıa),(by intro X B y x Q i R s σ H E I t st N;subst B y x;let{vs,f,A}:=g ú ä Ť;let n:Ć=Ĉ:=by rw[p8 f,đa,O,þa]),(by let{O,A,e1,Y,i,T}:=ĝd r a;let{v1,L1,R,P,j,S}:=Äg Z Y ee),(by let{t,p,k}:=h.h;show{{t,p,λE a q=>?_}};let{d,i,a}:=zJ a),(by cases g;rw[d]at a;cases a;rw[l]at b;cases b;show Ĥc r c),(by show{_,rfl,?_,λ_=>rfl}),(by let{σ1,e1,e2}:=h r y x;exact(g y σ).bind _=_;rw[e1];exact(ϲc).bind _=_;rw[e2];exact(Ĭm).bind _=_),(by let{a,B,rfl,e,l,r}:=m;let{c,z,rfl,g,f,q}:=n;cases(show u=ė a from p);cases(show v=ė c from o)),(by intro X C A y O i Q s σ H E I t st p;subst C A y;let{_,g,f,B}:=YX ĝ p.1 d;let m:âa=Ķ:=p8 f),(by intro X B y x L i N s σ H E I r st n;subst B y x;let{_,g,f,A}:=YX ĝ n.1 d;let m:âa=Ķ:=p8 f),(by by_cases c:k'=k;rw[Ó c]at e;cases e),(by let c:=Na (n:=n) É;rw[hk]at c;let a:=Oe (n:=n) É),(by by_cases hb:b=a;subst hb),(by obtain⟨⟨n,g⟩,q⟩:=g;subst ex),(by rw[<-(Ķd).V7,<-l];show h _ Çc;subst d;cases(show u=ė b from m);let{z,f,t,c,j}:=Ts ĝ e),(by simpa using this),(by rw[Ô c]at b;cases b),(by rw[Ó c]at b;cases b),(by intro g s σ H Q I h),(by split at a;rename_i b c e;show{b,c,e};cases a),(by obtain⟨⟨m,β1⟩,hy,a⟩:=zJ a;let{y,ey,a}:=zJ a;cases Th ey;let{nd,hn,a}:=zJ a),(by split at a),(by intro e s σ H x y v u Q I c b h;let{i,j,rfl,rfl,q}:=h;let{t,rfl}:=c;let{d,rfl}:=b),(by intro c s σ H x y v u Q I b a h;let{i,j,rfl,rfl,q}:=h;let{t,rfl}:=b;let{d,rfl}:=a),(by intro X hP hw hK d i z8 s σ H E I Z st hg;subst hP hw hK;let{f,j,{u,v,m},p,n}:=st),(by intro X T L J b i z8 s σ H E I C st hg;subst T L J;obtain⟨⟨old,g⟩,j⟩:=st),(by show x.h _ _ l;cases e;rw[ź]at c;subst c;show{_,gO Ż,?_};simp only[čd,áa,Ů]),(by dsimp only;rw[Ô É];refine í Ċn;cases e2:B Šf;show þ (I e2);show þ (O e2)),(by split at h;rename_i e),(by show{όe.1,όe.2,?_,λn=>?_};exact(WA _).bind _=_;rw[NY];rfl;rw[NC ê,ND];rfl),(by intro X Q N L S i T s σ H E I F st J;subst Q N L;let{G,C,f2,y,p,q}:=F it ê),(by generalize ϧ _ _ _=C at e;obtain⟨⟨m⟩⟩:=C;cases(show m=l from e);rfl),(by intro X m l j q i A s σ H E I f st y;subst m l j;let{x,u,G,r,g,p}:=f it ê),(by simp only[c,Ϩb,Ů];show þ (z c);simp only[c,ĺf,ŉb,áa];show þ (v c)),(by let{l,d,f,r,z,q}:=c;refine{by rw[<-ſ];show z,?_};let j:d Ĩa=Æ:=ĥi Đ),(by rename_i lo y q g L R;let H:=ŧi;have ll:šd=lo+ſa:=by rw[<-Ū,i,î,p]),(by exact _<=16777216;omega),(by intro b w;exact b<(ûa _).objs.size;rw[œb];simp only[Ųa,Īa,ža]at w),(by by_cases hj:j=i;subst hj;rw[hi]at e1;cases e1;rw[ēl G]at e2;cases e2),(by show{Ĭe,λb q=>?_,f};cases q;let{ob,_,_,i,g,_}:=c;show{ob,i,g.2.1}),(by cases(show _=[]from r)),(by cases a;show{_,_,c,b,q _ _ _ Õa rfl}),(by rw[Ł,Ł]at b;show{y,?_};rw[ą,ĳh,ġ];show(ħo).trans b;unfold Bo),(by intro i s σ H x y v u Q I d c h;let{a,b,k,rfl,rfl,e,q}:=h;cases c),(by show äc _;show úd c;rw[<-m];show z1u B;intro E y t' k;rw[<-m,e]),(by rw[şl (Įb hj)]at e2;let{U,T,q}:=hl j y v' e1 e2 e3;show{U,T,?_}),(by let{p,a,w,e,c,l,r}:=h;let{g,b,d}:=ðg r;show{g,{p,a,w,e,c,l,b},d}),(by let{L,e1,C}:=g x t;let{N,e2,J}:=g o w;show Q j L N _ _ e1 e2 C J),(by intro k s σ H x y v u Q I f i h;let{p,l,rfl,b,g,c,q}:=h;cases i),(by cases f;rename_i g h;let{a,n,rfl,B,m,_}:=A;let{b,t,rfl,C,o,_}:=w),(by let{t,C,o}:=r.h;show{{_,(ąl).h,λE b q=>?_}};let{g,k,b}:=zJ b),(by split<;>omega),(by rw[Vi];unfold YM),(by rename_i p i;let{a,m,rfl,g,k,_}:=j;cases h;let{w,f,b}:=Py k e),(by intro j s σ H x y v u Q I i f h;let{rfl,k,rfl,q}:=h;cases f),(by change (match xo x&&ϴc xo with|Ä=>À Úf|Â=>Æ)=À k at b),(by intro d s σ H Q I h),(by split at d),(by rw[Ż];show ύ Ϫa.1 Äb),(by let{k,e,a}:=zJ a;cases a),(by rw[show n+1+i+1=n+ñ+1 by omega]),(by intro c s σ H x y v u Q I a b h),(by unfold u0;rw[hj,hF];rfl),(by rw[î,ç,Ĉb];omega),(by rintro g f v ⟨b,c,e,q,r,l⟩;show{b,c,e,?_,æb f r,l}),0,(by omega;rintro⟨q,c⟩ g ⟨r,e,f⟩;cases e;show þ Īp),(by let{v,r,rfl,b,a}:=h),(by let m:ăa=Ũc:=by let:=Ăa;rw[ç]at this;rw[ĥ];rw[Ũp]),(by cases a<;>rfl),(by rw[show(Ìa).N.length=ć+Ňb from iD X own]at q;show q),(by rintro i m σ H ⟨rfl,U,τ,G,K,a⟩;by_cases hlt:i<Ź),(by let{p,i,w,rfl,d,l,r}:=h;let{j,e,m,g,a,b,c}:=h';rw[ůp]),(by let{a,z}:=u.pR b f q;show{a,by rw[yH (qF z d)];show z}),(by let{x,f,i,j,d}:=e;let{c,rfl,d}:=d;cases j;show çd ?_),(by obtain⟨⟨l⟩⟩:=z),(by let{u,rfl,t,rfl}:=uD r),(by let q:=(Ķd).V7;rw[Đh]at q;rw[<-q,<-l];show h _ Çc),(by let S:zK Ŝj ϵ=À ĭb:=rfl;let Y:u8 ĭb=À ąa:=rfl),(by cases(show _=[]from h)),(by cases f;let k:(g++h).length<=â:=by rw[Ŧ,î];show c),(by show{{o,e,d.1},λa e2=>?_};cases e2;show{o,e,d.2.1}),(by rw[ϩp];simp only[Ò,e,f,kH,g,tm,YS,vk,vj,a,jc,Ŋc]),(by let{a,j,rfl,b,f,_}:=r1;let{o,i,e,d,c,_}:=r2;cases e),(by let c:(Îc şa:Á zZ).length=Ÿ:=by rw[ç,e.len,ſ]),(by exact Ý _ _ òp _ _ s;rw[Ô (show ¬ ìp from ř)]),(by by_cases c:k'=k;rw[Ó c,Ó c]),(by let{t,h,q}:=c b A ĉ s H vs Q E n e;show{t,h.qU,q}),(by by_cases z:n=0;let a:decide ŧf=Ä:=ò É;rw[Ó z]),(by let{a,b,c}:=ľa i q z),(by intro X y r q N i O s σ H E I m st L;subst y r q),(by intro X A t r N i O s σ H E I n st L;subst A t r),(by cases a;show q _ _ _ ũb rfl),(by exact(match qj 1 (w:Å)with|Ä=>À ϩe|Â=>Æ)=_),0,(by exact À ύi=_;rw[show ŗd=decide (i=j)from rfl]),(by unfold Yv at b;rw[çc,<-Ăa]at b;rw[đa];show b),(by let{t,p,k}:=h.h),(by exact ğd Øi _=_;rw[U];rfl),(by show q _ _ _ Õa rfl),(by let{_,_,_,_,o,_,_,e,d,_}:=ĝ p _ b;show{o,e,d}),(by let o:(ŭo).length<=â:=by let:=No d k v;omega),(by intro j s σ H Q I h),(by intro c s σ H Q I h),(by rintro x _ J ⟨l,o,rfl,t,p,u,v⟩;dsimp only),(by let{q,i,n,f,w}:=c;show g d k σ i q m Q n f w),(by let:ϔd x=À .free:=a;rw[k]at this;cases this),(by let:b=Þ:=by simpa using z),(by exact(ϥc).bind _=_;rw[e1]),(by cases(show v=_ from r);rfl),(by let e:x[b+i]?=À x[b+i]:=getElem?_pos _ _ É),(by intro e s σ H x y v u Q I d a h;let{c,q}:=h),(by simpa using e),(by simp only[Ò,e1,e2]),(by simp only[Ò,a,n,b,i];rfl),(by show .inr z),(by rw[î];exact _+1<=_;omega),(by let{t,rfl}:=d),(by let e:vi i=Ąd+1:=by exact Ŕk=_;rw[Ô Ŗc]),(by let e1:=įl x y 0 Ça (Ça+1);rw[όl];omega),(by exact(Èd).bind _=_),(by let{J,ru,pu}:=I.Um hx;let{G,t,pw}:=I.Um hy),(by by_cases c:L q),(by subst e;show d.ZE Đ ľh),(by rw[ua É]at this;rw[Ũp]),(by obtain⟨⟨m,β1⟩,b,a⟩:=zJ a;cases a),0,(by let{d,b,a}:=zJ a;cases a),(by let{a,B,rfl,e,l,w}:=r1;rw[ťp];show åh _),(by let e:Űf i=[]:=ņc Ćh;rw[e]at a;cases a),(by split at z),(by split at h),(by split at f;rw[Ϯp]),(by rw[ϰp];show{_,rfl,λq=>{x,y,k,c,b,e,q}}),(by let{o,e,c,d}:=id j),(by intro w pre ws x3 k m a q j s;rw[ą]at j),(by simp only[ą,Ϝb];omega),(by show{a,by simp,rfl};show{b,by simp,rfl}),(by show .inl z;show .inr ϵn;show .inr ıa),(by rw[ņa];show ź),(by unfold Bp;exact zQ _ _ Şg=_;rw[kS el]),(by let{tk,pk,kk}:=hk.h;let{tv,pv,kv}:=ĵc),(by let{e,h,_,_}:=Śj (α:=Ã);let b:=A.ix),(by let{L,J,U,G,u,F}:=t it ê;rw[<-n]at st),(by simp only[Ò]),(by show{rfl,rfl}),(by show Ėa _),(by show Ø ?_;simp only[Ĳh,żm,ŉh,Ûn]),(by rintro _ ⟨l,_,_,z⟩),(by dsimp only;rw[Ó c];show þ q;rw[ϐp]),(by cases a;show{_,λ_=>rfl,λq=>{_,r,q}}),(by by_cases z:b=a;subst z),(by by_cases c:i=0;subst c),(by show{L++[xH N[i]],?_,ll,B};unfold xH),(by rw[üq];rename_i c;show{c,h};cases h),(by rintro _ _ ⟨rfl,y,q,g,rfl,d,a,u⟩),(by rintro _ _ ⟨rfl,l,o,rfl,t,p,u,v⟩),(by let:x≠n:=by rintro rfl;show h v ĳ),(by split;rw[ç];omega;rw[î];show Ϙ _),(by rw[ϰp];show{_,rfl,λq=>mZ c b e q}),(by let j:d<ża:=œe.1;rw[mI];unfold Mh),(by constructor),(by by_cases e:p.1=k;let a:q.1=k:=Ŧn e),(by subst this),(by split at b),(by show Ø (m:=ϙe ϻb) ?_;unfold ϙe),(by show .inl {(ϸ).mpr ıa,w};rw[ìq]),(by rw[eL]at F;let{f3,f4}:=X n u ŧl o),(by rw[BS];unfold Ti),(by let e1:=QT (i:=1) (j:=W) e d Í Í),(by subst h;exact(Ėn).bind _=_;rw[e]),(by rw[ą,show n+Èc=n+1+ø by omega]),(by rw[ç]at b;rw[đa,<-j,þa];show b),(by rw[t.ne b hb];show h),(by let{z,r,c}:=zJ c;let{k,i,c}:=zJ c),(by let{z,b,c}:=zJ c;let{y,o,b}:=zJ b),(by let{w,l,_}:=Źc.2.2;rw[l];rw[Ϗp]),(by let{p,q}:=Ăj (P:=P)),(by let:c=b:=by simpa using ŋ Ŵn d1),(by let o:xg uO uP Ϭb=À æc:=by rfl),(by let i:xg uO uP ŉi=À ĉe:=by rfl),(by let e:xg uO uP Ϭb=À æc:=by rfl),(by let e:=ſ;simp only[Ū]at e;omega),(by let a:xg uO uP Ϭb=À æc:=by rfl),(by intro g s σ H D I h),(by rw[e]at this),(by obtain⟨⟨j,m'⟩,l,c⟩:=zJ c),(by let{x,f,p}:=m.h;let{tb,j,l}:=n.h),(by let{us,G,pu,_}:=Ϟ B;let pl:=Ϻo),(by let{t,e,n}:=j.h;let{tb,g,i}:=l.h),(by let h:k9 ύf 0 řc=.p 0 řc:=rfl),(by by_cases h:p.1=a;rw[Ó Ŀi,Ó h]),(by subst d;let{z,f,r,c,j}:=ZT ĝ e),(by simpa using h),(by simp only[Ů]),(by simp at h1 h2;subst h1;subst h2),(by show .inr {_,àa _ _ e,λo=>?_}),(by show .inl z;rintro(z|z);rw[ìq]),(by rw[ϑp];cases e),(by rw[e]at h;let b:y=n:=by rw[éq]),(by rintro(⟨z,w⟩|z)),(by obtain⟨⟨o,d⟩,c,a⟩:=zJ a),(by exact(Ϩl).bind _=_;exact ϝj=_),(by cases h<;>rfl)],[(zA ἀ zF),(zB ἀ zL),(.lst ἀ),(.int ἀ),(zT (zn ἀ)),(zT (zn ἀ)),(λC s H c b=>ἀ),(zV (yV ἀ ἁ yl) (zV ἂ ἃ)),(zT (qJ ἀ)),(yB 2 ἀ),(zY xT xR ἀ zH),(À ἀ::yG),(λC s H d c=>ἀ),(e1 ἀ ö),(.nx (Μ ἀ)),0,(zA ħ ἀ),0,0,(yV ἀ ἁ yl),(zA ö (Α ἀ)),(vI u5 u9 rfl xW vz (wn ἀ wp)),(ἀ%65536),(σ.set i ἀ),(zA Ā ἀ),0,0,0,0,0,0,0,0,0,(zy Żd xQ ἀ ἁ ľ),(zB Ă (Β ἀ)),(vX ἀ rfl),(pL (tE ἀ)),(zA ö ἀ),(λr st=>∃g,st=yZ a0 p0 f0 g/\je ἀ ἁ r),(Zh 0 [.at [ŏ] Ŏ] Ļc ἀ),0,0,0,(.Call ἀ [e] [] cpos),(zV (j3 Łb rfl ἀ ἁ ἂ) (zT ἃ)),(tE (e2 za ö ἀ)),0,0,((ἀ).trans Ôd),0,0,(λC s H d c=>ἀ),0,(zg ť zf ἀ ἁ),(zd H p ἀ),(gU (v8 ἀ)),(zB Ġ ἀ),(wz ἀ Ýc),(zB Ă ἀ),(vX (λC s H c b=>(Ξa ἀ)) rfl),(PyProof.Rows.wpS_modify ἀ),(zV (yV ἀ ἁ yl) (Ε ἂ)),(.bl (decide ἀ)),(WE (Vz ἀ) (v6 ἁ) WF),(v6 (WG ϵj ģa ἀ)),(xy ἀ λc=>?_),(yV ἀ Wa yl),(zm (wO ἀ)),(vt ἀ jb),(ye (i:=1) (show (ἀ).Nodup by decide +kernel) rfl à),(zm (wO (zA Į ἀ))),0,(pH λi j=>.int ἀ),0,0,(Ζ (wz ἀ Ýc)),(kW (tE ἀ) (tE ἁ)),(Ĥ (Ø ἀ)),(vO (ya ἀ)),(tQ (jf ἀ ἁ)),(WT ἀ rfl),0,0,0,0,0,0,0,0,0,(PyProof.Rows.wpS_lift (PySem.wpAny_rule {rfl,í ἀ})),(ja (n:=2) rfl (vt ἀ ἁ)),(zy (tK ἀ) tJ (zG ἁ) (zG ἂ) ľ),((u q).mpr (.inr ἀ)),(Ø (PySem.wpAny_onRaise ἀ)),(tE (e2 za Ā ἀ)),((ἀ).map ý),0,0,0,(zA (eC ἀ) (Α ἁ)),(wA (λ_=>À ἀ)),(λC s H d b=>ἀ),0,0,(zU t9 (Υ ἀ)),0,0,(β.set i ἀ),0,(Ik ἀ rfl rfl),(ψ (Γ ἀ)),(ϊj _ _ ἀ),(v6 (kN ἀ)),(zG (ya ἀ)),(ϊd ἀ ?_),(zT (Zt ἀ ἁ)),(zB ņ ἀ),(zA ī ἀ),(wA (zA ἀ ἁ)),(ye (i:=2) (show (ἀ).Nodup by decide +kernel) rfl à),(uJ λi j=>decide ἀ),(ye (i:=5) (show (ἀ).Nodup by decide +kernel) rfl à),(backTo pos ἀ),(Vw 0 [.at [ŏ] Òb] (eC ἀ) (wx ἁ)),(rI ἀ λi j=>.int ἁ),(.Call ἀ [e] [] pos),(λc=>þ {g,rfl,gT.fin ἀ}),0,(pH λi j=>.bl (decide ἀ)),0,0,(e2 wY Ā (eC ἀ)),(zT (Dw (qv 2) zH (LB ἀ ἁ))),(tE (e2 xI Į (wO ἀ))),(λC s H fp pn=>Mv ἀ),(λC s H fp pn=>Mu ἀ),(λC s H fp pn=>(ἀ).h),0,0,0,0,0,0,0,0,0,(UG (δa ἀ ἁ) rfl rfl),(Qt ἀ ἁ {l} ?_ ?_ ?_),(Γ ((ἀ).map Ļ)),(Od ŗa Řp zr ἀ),(.cons ἀ .nil),(λC s H c b=>ἀ),(λC s H b a=>ἀ),0,0,0,(qK (ζ ἀ) (tE ἁ)),(ya (wS ἀ ŕp)),(eL Xu (Α ἀ)),0,0,(qK (tE ἀ) (tE ἁ)),0,0,(.nx (Ξf ἀ)),0,(ε (Ν ἀ)),(Η (Zu ἀ)),(uB (ya ἀ)),(Zx (tE ἀ)),(ye (i:=3) (show (ἀ).Nodup by decide +kernel) rfl à),(vI (B4 rfl) DC rfl X9 M_ (wn (zG ἀ) wp)),(ἀ*134217728+m*16777216),(swapsWith v (À ἀ) pos.line Ù=pure Â),(Dh B5 DE rfl ji Tk (Β ἀ)),((ἀ).filter λd=>!yS d),(e2 wY ö (eC ἀ)),(.cons (Tz w ĭ) (.cons ἀ .nil)),(ja (n:=2) rfl (vt (Βc ἀ) (Ζd ἁ))),(if ἀ=Ä then _ else _),(AN rfl rfl Wm Mw (Β (ya ἀ))),(kN (Vx Vn b rfl (gJ ϩ ἀ))),(λc=>þ {g,rfl,gR.fin ἀ}),(tE (e2 za (e1 ἀ ħ) ö)),0,(λc=>þ (h _ _ ἀ)),0,0,(pq (jM VI (pW 0 [] ἀ))),(.XO ĭ d0 d1 ἀ),(zU uj (Υ (e1 ἀ ŗp))),(zj Yc b rfl (δ ἀ)),(zA ŗ (Α ἀ)),(zm (eL YW (Α ἀ))),0,0,0,0,0,0,0,0,0,(zm (e2 ἀ Ā ħ)),(tE (e2 za ċb ἀ)),(tE (e2 za Į ἀ)),(Η (Νf îg ἀ)),(rU λi=>.int ἀ),(((ἀ).take ἁ).toArray),(Μf Ϯi śp ἀ),0,0,0,(zj Vo b rfl ἀ),(ya (wS ἀ õd)),(ya (wS ἀ Ýc)),0,0,(eL Xv (Α ἀ)),0,0,(zj Yd b rfl ἀ),0,(uN d (í ἀ)),(We (v8 ἀ) (Ql ἁ)),(ἀ%4294967296),(ϴe (Ø ἀ)),(ώe (í ἀ)),(yV ἀ Ŗb yl),(qE 4 (wx ἀ)),(w_lt rfl ἀ ἁ ?_),(vt (ye (i:=4) (show (ἀ).Nodup by decide +kernel) rfl à) jb),(λq z w=>by rcases z with⟨z,_⟩|z;show z;show j q ἀ),(.BoolOp .And ἀ pos),(.BoolOp .Or ἀ pos),(λxs H Q=>(∃p ys,xs=[.ref p]/\ἀ/\Q ἁ H)\/∃z,xs=[.str z]/\ü<=â/\Q (.int ü) H),(uA Żd xQ (zG (zj qg b rfl ἀ)) (zG zH) ľ),(e2 zK (wA (zA ἀ ἁ)) (e2 xD (e2 wY ö êd) ũa)),(DW I É ἀ l f h λd1 d2 x y u v j b k d i=>BK I n A.in1 d1 d2 x y u v ἁ j b k d i),(λx y H Q=>y=.zD/\Q ἀ H),(λx vs H Q=>∃z y:Ç,x=.str z/\vs=[.str y]/\Q (.bl ἀ) H),0,(Ν (ye (i:=9) (show (ἀ).Nodup by decide +kernel) rfl à)),0,0,(λx y H Q=>∃i j,x=.str i/\y=.str j/\Q (.bl ἀ) H),(u7 (tE (e2 za Ā ī)) Ϣ (e2 za (zU vC ἀ) ļ)),(yk ē U (A n) fw fh (st Ħ a b c ἀ ἁ) (A i) (j:Å)),(wz (zB ņ (zB όd ἀ)) õd),(λx y H Q=>y=.ref A/\∃k,x=kV k/\Q (.bl ἀ) H),(yk ď T n fw fh (st Ħ a b c ἀ ἁ) (i:Å) (j:Å)),0,0,0,0,0,0,0,0,0,(.Call ἀ [a] [] pos),(yQ (i:=2) QY.nd rfl à (zj W7 b rfl ἀ)),(.done (À ἀ,i,m,ϊ q++(ἁ).reverse,g,k,j-1-m)),(λd=>match d with|.int j=>.int ἀ|d=>d),(Β (zY xV xU Ġ ἀ)),(zA (eC (.str ìb)) (zA (eC ťc) (zA ἀ ἁ))),(zj p6 b rfl (δ (zY xV xU όd ἀ))),0,0,0,(Κa (λc=>þ {_,rfl,WZ.fin ἀ})),(Κa (λc=>þ {_,rfl,WX.fin ἀ})),(.done (À ἀ,i,j-1,ϊ q,g,k,u)),0,0,(Ζ (uA đc pB ùa (zG ἀ) Ĥa)),0,0,(zj qg b rfl (zB ņ (zB zH ἀ))),0,(PJ G H ἀ y u v d Q s f e ěk q),(.done (À ἀ,o++Řb i ἁ,i+k,j,g,k,u)),(zg Ąf zf ņ (zY xT xR ἀ zH)),(Q w H->rU (λi=>.int ἀ) u H Q),(zj Q5 a rfl (zB ġc (Β ἀ))),(jg (zy oP uq şc (zG ἀ) ľ)),(λxs H Q=>∃p ys,xs=ēc/\ἀ),(tM (γ İa ťb) xr (Λd ἀ)),(if (ἀ).all p_=Ä then À ἁ else Æ),(.nx [À ἀ,À Āe,À Ϻd,À ἁ,À ἂ]),(yB 5 (e2 zK (wA ἀ) (e2 xD ἁ ũa))),(Ôc β i π (.obj x þe ἀ)),(λq z=>yH λc=>z ((ἀ).mpr c)),(j3 Łb rfl (Zq rfl ue ἀ) (WT ἁ rfl) (zV ἂ ἃ)),(Θ Üd (Ε ἀ) (yV Üd ἁ yl) (Ε ἂ)),(Β (zj OQ b rfl (Αa ἀ))),(Α (e2 yp Ā (zU Xi ἀ))),(λc=>þ {_,rfl,gR.fin ἀ}),0,(λc=>þ (G λp j q f=>ϵa ἀ ἁ)),0,0,(by rw[Ł,<-Ł ἀ,Ħa,ex]),(Ag Ģc (vZ rfl Ěk ἀ ϔj ἁ âi)),(Χd (ηd (zj OO b rfl ἀ))),(zy đc pB Ũb (zG ἀ) Ĥa),(Ζc (zY xV xU (ya ἀ) (ya ἁ))),(Οa (Ψc (Μd ἀ řp))),0,0,0,0,0,0,0,0,0,(λq z=>.inl ((ἀ).mpr z)),(zm (e2 xI ö (eC ἀ))),(uA řh xQ (zG ἀ) (zG ἁ) ϩa),(ms.map À++Ŗ ἀ Æ),(e2 zK ħ (e2 xD ἀ ŝp)),(Ôc r.2 i π (.own ἀ)),(Αb (Οf (uY ἀ ϫg))),0,0,0,(Μa (Ρ (zA ϲd ἀ))),(Υc (.XN ἀ Śp .nil)),(λb o l e=>(ἀ).trans e),0,0,(j3 Łb rfl Ĕc Ŕp ἀ),0,0,((W8 Çm).trans ((ἀ).trans ἁ)),0,(Α (zU TK (Ω ἀ))),(zY xV xU Ă (ya ἀ)),(updateSeq S ἀ >>= _),(uA Èm xQ ἀ Ğb ϩa),(yW (zb (zb ἀ)) Í),(pq (jM VC (Ρf ἀ))),(.Subscript a ἀ pos),(.Call ἀ Ŗp [] Ϡ),(zt ἀ λr s4 a=>?_),(zB ģa (zB ļc ἀ)),(zA ċb (zA ύe ἀ)),(py 0 [] ł Éd ἀ),(.Expr (ν ἀ) pos),(zA Ŝp (zA Ϫk ἀ)),((uV (vm g)).trans ((uV ἀ).trans ((ἁ).trans ἂ))),(Zu (zy (xS ἀ) xQ (zG ἁ) ùa (zp _))),(Ψ (À (Ä,.lst ἀ))),(nX (pl:=_) LS a rfl (gJ ϩ (uY Ϧ ἀ))),0,(pW 0 [] (uH ŗ (uH ἀ Ϭg)))],[(by first|(with_reducible first|exact Nat.le_of_not_lt ‹_›|exact Nat.lt_of_lt_of_le ‹_› (Nat.min_le_right _ _)|exact Nat.lt_of_lt_of_le ‹_› (Nat.min_le_left _ _)|exact Nat.le_trans (Nat.sub_le _ _) ‹_›|exact Nat.add_sub_cancel' ‹_›|exact (Int.toNat_lt ‹_›).mpr ‹_›|exact Nat.lt_of_sub_pos ‹_›|exact Nat.le_of_sub_eq_zero ‹_›)|((with_reducible refine Int.emod_nonneg _ ?_)<;>decide)|((with_reducible refine Int.emod_lt_of_pos _ ?_)<;>decide)|((with_reducible refine Int.lt_of_lt_of_le (Int.emod_lt_of_pos _ ?_) ?_)<;>decide)|lia|omega+splitNatSub),(by first|subst ἀ|(injection ἀ;done)|cases ((ἀ))),(by first|(have q:=ἀ;first|subst q|(injection q;done))|cases ((ἀ))),(by first|subst ἀ|(injection ἀ;done)|cases ((ἀ)))])
def q0 (h_0:0=0:=by first|show .inl rfl|show .inr rfl|assumption)(h_1:0=0:=by decide)(h_2:0=0:=by intro _;rfl)(h_3:0=0:=by rfl)(h_4:0=0:=by first|show Or.inl rfl|show Or.inr à|show Or.inr ĭa)(h_5:0=0:=by first|show ŉa|show⟨rfl,ŉa⟩|show⟨rfl,rfl,ŉa⟩|show⟨rfl,rfl,rfl,ŉa⟩|show⟨rfl,rfl,rfl,rfl,ŉa⟩)(h_6:0=0:=by with_unfolding_all rfl)(h_7:0=0:=by show λz=>nomatch z)(h_8:0=0:=by intros;show λ_ _ _ _ _ _=>rfl):ſb:=⟨⟩
def q7:=q0._auto_1
def q10:=q0._auto_2
def q11:=q0._auto_3
def q12:=q0._auto_4
def q13:=q0._auto_5
def q14:=q0._auto_6
def q15:=q0._auto_7
def q16:=q0._auto_8
def q17:=q0._auto_9
noncomputable section
namespace L2
open ģ ĺ Ĭ
abbrev zZ:=Sum Å Ç
nonrec def W9:zZ->Value->Ð
 |.inl k,v=>Øo k v|.inr x,v=>ĥn x v
nonrec def y2e(w:è):zZ->Å
 |.inl k=>hashInt k|.inr x=>hashStr w x
def Zc:∀{k:zZ}{v:Value},W9 k v=Ä->(∃i t,k=Ϭ i/\v=ώc i t)\/(∃x t,k=şa x/\v=ŏa x t)
 |.inl i,v,h=>by let{t,e}:=Ďm (k:=i) (v:=v) h;show .inl {i,t,rfl,e}
 |.inr x,v,h=>by let{t,e}:=Value.isStrOf_shape (x:=x) (v:=v) h;show .inr {x,t,rfl,e}
def y2f(i:Å)(t:Tok):W9 ñj Ϗf=Ä:=by simp[W9,Øo]
theorem y2g(x:Ç)(t:Tok):W9 ég Ϝo=Ä:=by simp[W9,ĥn]
theorem y2h(a b:Å):decide ((Ϭ a:zZ)=Ϭ b)=(a==b):=by
 by_cases e:a=b;subst e;simp;let h:¬ (Ϭ a:zZ)=Ϭ b:=λq=>e (ϡb q)
 rw[Ę h];show(Ϗb e).symm
def y2k(a b:Ç):decide ((şa a:zZ)=şa b)=decide (a=b):=by
 by_cases e:a=b;subst e;simp;let h:¬ (şa a:zZ)=şa b:=λq=>e (Úo q)
 rw[Ę h,Ę e]
theorem y2i(a:Å)(b:Ç):decide ((Ϭ a:zZ)=şa b)=Â:=Ę Şm
def y2j(a:Ç)(b:Å):decide ((şa a:zZ)=Ϭ b)=Â:=Ę Şm
def xN(Ī:ï)(w:è):PySem.KeyKind Ī w zZ where
 is:=W9
 hash:=y2e w
 inj:=λv a b f d=>by
  rcases Zc f with⟨i,t,rfl,rfl⟩|⟨x,t,rfl,rfl⟩;rcases Zc d with⟨j,u,rfl,e⟩|⟨y,u,rfl,e⟩;injection e with e1 _;rw[e1];show nomatch e
  rcases Zc d with⟨j,u,rfl,e⟩|⟨y,u,rfl,e⟩;show nomatch e
  injection e with e1 _;rw[e1]
 byValue:=λk v h=>by rcases Zc h with⟨i,t,rfl,rfl⟩|⟨x,t,rfl,rfl⟩<;>rfl
 pyHash:=λc h=>by rcases Zc c with⟨i,t,rfl,rfl⟩|⟨x,t,rfl,rfl⟩;show wpAny_pyHash_int h;show wpAny_pyHash_str h
 eqBool:=λg c h=>by rcases Zc g with⟨i,t,rfl,rfl⟩|⟨x,t,rfl,rfl⟩;rcases Zc c with⟨j,u,rfl,rfl⟩|⟨y,u,rfl,rfl⟩;rw[y2h]at h;show wpAny_eqBool_int h;rw[y2i]at h;show Òm i t y u _ _ _ _ h;rcases Zc c with⟨j,u,rfl,rfl⟩|⟨y,u,rfl,rfl⟩;rw[y2j]at h;show Ðm x t j u _ _ _ _ h;rw[y2k]at h;show wpAny_eqBool_str h
 «strs»:=λk x t v h=>by
  rcases Zc h with⟨i,u,rfl,e⟩|⟨y,u,rfl,e⟩;show nomatch e
  injection e with e1 _
  subst e1;cases v<;>rfl
def y43(Ī:ï)(w:è)(i:Å)(t:Tok):(Ŷa).is ñj Ϗf=Ä:=y2f i t
def Nz(Ī:ï)(w:è)(x:Ç)(t:Tok):(Ŷa).is ég Ϝo=Ä:=y2g x t
set_option genInjectivity true
inductive V where
 |zD|bl (b:Ð)|int (i:Å)|str (x:Ç)|byt (b:Ü UInt8)|V6 (b:UInt64)|ref (a:Ì)|ty (n:äa)
 deriving ϩb
set_option genInjectivity false
def yF:V->Value->È
 |.zD,u=>u=ĉd|.bl b,u=>u=űf b|.int i,u=>∃t,u=ώc i t|.str x,u=>∃t,u=ŏa x t|.byt b,u=>∃t,u=Ùo b t|.V6 b,u=>∃t,u=ùi b t|.ref a,u=>u=ė a|.ty n,u=>u=Īi n
abbrev zx:Á V->Á Value->È:=Âd yF
theorem zx.length{xs:Á V}{us:Á Value}(r:zx xs us):æ=Ÿ:=Ϛh r
theorem zx.get:∀{xs:Á V}{us:Á Value}{i:Ã}{x:V},zx xs us->xs[i]?=À x->∃u,us[i]?=À u/\yF x u
 |_,_,_,_,.nil,e=>by simp at e|_,_,0,_,.cons r _,e=>by simp at e;subst e;show{_,rfl,r}|_,_,i+1,x,.cons _ t,e=>by let{u,a,b}:=zx.get (i:=i) (x:=x) t Ϛa;show{u,by simpa using a,b}
theorem zx.set{x:V}{u:Value}(r:yF x u):∀{xs:Á V}{us:Á Value}(i:Ã),zx xs us->zx Ņf (us.set i u)
 |_,_,_,.nil=>.nil|_,_,0,.cons _ t=>.cons r t|_,_,i+1,.cons q t=>.cons q (zx.set r i t)
theorem ϗf:∀{xs ys:Á V}{us ws:Á Value},zx xs us->zx ys ws->zx Ôj (us++ws)
 |_,_,_,_,.nil,s=>s|_,_,_,_,.cons r t,s=>.cons r (ϗf t s)
theorem zx.take:∀{xs:Á V}{us:Á Value}(n:Ã),zx xs us->zx (xs.take n) (us.take n)
 |_,_,0,_=>.nil|_,_,_+1,.nil=>.nil|_,_,n+1,.cons r t=>.cons r (zx.take n t)
theorem zx.drop:∀{xs:Á V}{us:Á Value}(n:Ã),zx xs us->zx (ïg n) (us.drop n)
 |_,_,0,r=>r|_,_,_+1,.nil=>.nil|_,_,n+1,.cons _ t=>zx.drop n t
def tF:Ê V->Ê Value->È
 |À v,À u=>yF v u|Æ,Æ=>ſb|_,_=>ÿ
def KV{κ:Type}:Á Ša->Á ġd->È:=Âd λ(p:κ×V) (q:κ×Value)=>p.1=q.1/\yF p.2 q.2
nonrec def kV:zZ->V
 |.inl i=>.int i|.inr x=>.str x
inductive HO where
  |lst (xs:Á V)
  |tup (xs:Á V)
  |dK (kvs:Á ŧ)|dT (kvs:Á Šb)
  |set (S:Å->Ð) (n:Ã)
  |ins (C dx:Ì) (fs:Á Űb)
  |own (x:Ì)
  |xd (fs:Á Űb)
  |met (f x:Ì)
  |rng (lo hi:Å)
  |yO (o:Obj) (u:HO)
  |tbl (ps:Ü Value)
  |ext (φ:Heap->È)
abbrev Hp:=Ì->Ê HO
nonrec def zd(H:Hp)(a:Ì)(o:HO):Hp:=λb=>if b=a then À o else H b
def yo{H:Hp}{a:Ì}{o:HO}:zd H a o a=À o:=by unfold zd;rw[Ó rfl]
theorem yH{H:Hp}{a b:Ì}{o:HO}(h:b≠a):zd H a o b=H b:=by unfold zd;rw[Ô h]
theorem y4m{H:Hp}{a b:Ì}{o u:HO}(h:H a=À o)(h':H b=À u)(d:o≠u):a≠b:=by intro e;subst e;rw[h]at h';show d (Ĭa h')
def qF{H:Hp}{a b:Ì}{o:HO}(h:H a=À o)(h':H b=Æ):a≠b:=by intro e;subst e;rw[h]at h';cases h'
section
variable(P:ï)(w:è)
def xc(H:Hp)(h:Heap)(a:Ì):HO->È
 |.lst xs=>æ<=â/\∃(its:Á Value) (n:Ã),zx xs its/\Ĺ a=À { cls:=.type ĸ,ċ:=.seq Æa n }|.tup xs=>æ<=â/\∃its:Á Value,zx xs its/\úb h a Æa|.dK kvs=>Ķ<=â/\êa=Â/\∃vs,KV kvs vs/\ŀd ĳa a vs|.dT kvs=>Ķ<=â/\êa=Â/\∃xs:Á Ŏc,
   Âd (λ(p:Á zZ×V) (q:Á zZ×Ì×Value)=>p.1=q.1/\H q.2.1=À Àm/\yF p.2 q.2.2) kvs xs/\
   ∃o es ep,Ĺ a=À o/\Ëo/\ĸa=.dict es ep/\es.toList=Îc (entryOfKey Ëe)/\(Îc (·.1)).Nodup
 |.set S n=>h.SetOf (intKind P w) a S n|.ins C dx fs=>H dx=À ŀe/\Ĳa<=1000/\dx≠a/\Ĺ a=À őo/\
   ∃mA,ŉg dx mA/\(∀f,tF đj ŧj)/\Êi mA (Ŵb (·.1))
 |.own _=>∃o,Ĺ a=À o|.xd fs=>∃mA,ŉg a mA/\∀f,tF đj ŧj|.rng lo hi=>∃t u v,Ĺ a=À { cls:=.type Śa,ċ:=.fields #[.int lo t,.int hi u,.int 1 v] }|.yO o u=>Ĺ a=À o/\xc H h a u|.tbl ps=>Ĺ a=À { cls:=.none,ċ:=.fields ps }|.met f x=>Ĺ a=À (W.methodObj Ń Ŋd)|.ext φ=>φ h/\(∃o,Ĺ a=À o)/\∀h1 h2:Heap,φ h1->(∀o,ÿj a=À o->h2.get? a=À o)->φ h2
def wR(H:Hp)(h:Heap):È:=∀a o,H a=À o->xc P w H h a o
#print a
section
variable{P:ï}{w:è}{H H':Hp}{h h':Heap}{a:Ì}{o:HO}
theorem xc.lt(x:xc P w H h a o):a<Ðb:=by
 cases o with
 |lst xs=>let{_,_,_,_,e}:=x;show Ĵ e
 |tup xs=>let{_,_,_,p}:=x;show p.lt
 |dK kvs=>let{_,_,_,_,o,_,_,e,_}:=x;show Ĵ e
 |dT kvs=>let{_,_,_,_,o,_,_,e,_}:=x;show Ĵ e
 |set S n=>let{o,_,_,_,e,_}:=x;show Ĵ e
 |ins C dx fs=>let{_,_,_,e,_}:=x;show Ĵ e
 |own y=>let{_,e}:=x;show Ĵ e
 |xd fs=>let{_,{_,_,_,e,_},_}:=x;show Ĵ e
 |rng lo hi=>let{_,_,_,e}:=x;show Ĵ e
 |yO ob u=>let{e,_}:=x;show Ĵ e
 |tbl ps=>show Ĵ (show Ĺ a=À _ from x)|met f y=>show Ĵ (show Ĺ a=À _ from x)|ext φ=>let{_,{_,e},_}:=x;show Ĵ e
theorem Ϡf{α β:Type}{F G:α->β->È}:∀{l₁:Á α}{l₂:Á β},Âd F l₁ l₂->(∀a b,F a b->G a b)->Âd G l₁ l₂
 |_,_,.nil,_=>.nil|_,_,.cons r t,f=>.cons (f _ _ r) (Ϡf t f)
def xc.XQ(x:xc P w H h a o)(k:∀b u,(b=a\/H b=À ŀe)->Ĺ b=À u->ĩ b=À u)(E:∀b,H b=À ŀe->H' b=À ŀe)(A:∀b xs,H b=À œa->H' b=À œa):xc P w H' h' a o:=by
 induction o with
 |lst xs=>let{z,l,n,r,e}:=x;show{z,l,n,r,k _ _ ĭ e}
 |tup xs=>let{z,l,r,g,e,c}:=x;show{z,l,r,g,k _ _ ĭ e,c}
 |dK kvs=>let{z,y,F,r,g,i,j,e,c}:=x;show{z,y,F,r,g,i,j,k _ _ ĭ e,c}
 |dT kvs=>let{z,y,xs,r,g,i,j,e,c}:=x;show{z,y,xs,Ϡf r λp q z=>{z.1,A _ _ z.2.1,z.2.2},g,i,j,k _ _ ĭ e,c}
 |set S n=>let{g,i,j,t,e,c}:=x;show{g,i,j,t,k _ _ ĭ e,c}
 |ins C dx fs=>let{d,z,B,e,s,{m,i,j,e2,c},r}:=x;show{E _ d,z,B,k _ _ ĭ e,s,{m,i,j,k _ _ (.inr d) e2,c},r}
 |own y=>let{g,e}:=x;show{g,k _ _ ĭ e}
 |xd fs=>let{s,{m,i,j,e,c},r}:=x;show{s,{m,i,j,k _ _ ĭ e,c},r}
 |rng lo hi=>let{t,u,v,e}:=x;show{t,u,v,k _ _ ĭ e}
 |yO g u ih=>let{e,q}:=x;show{k _ _ ĭ e,ih q}
 |tbl ps=>have e:Ĺ a=À { cls:=.none,ċ:=.fields ps }:=x;exact ĩ a=À { cls:=.none,ċ:=.fields ps };show k a _ ĭ e|met f y=>have e:Ĺ a=À Ϲk:=x;exact ĩ a=À Ϲk;show k a _ ĭ e|ext φ=>let{p,{o,e},st}:=x;show{st _ _ p λo q=>k _ _ ĭ q,{o,k _ _ ĭ e},st}
theorem wR.lt(x:wR P w H h)(e:H a=À o):a<Ðb:=(Ğp).lt
def wR.fresh(x:wR P w H h)(e:Ðb<=a):H a=Æ:=by
 cases q:H a with
 |Æ=>rfl|À u=>show ß (ύ (x.lt q) e) Ãa
def wR.kept(x:wR P w H h)(k:∀b u,Ĺ b=À u->ĩ b=À u):wR P w H h':=λa o e=>
 (Ğp).XQ (λb u _ q=>k b u q) Ÿf λ_ _ q=>q
def wR.laid(x:wR P w H h)(k:∀b u,Ĺ b=À u->ĩ b=À u)(g:Ðb<=a)(d:xc P w Će h' a o):wR P w Će h':=λb u e=>by let f:=x.fresh g;rw[ŷp];rw[yo]at e;cases e;show d;rw[yH hb]at e;show(Ϝi).XQ (λc v _ q=>k c v q) (λc q=>by rw[yH (qF q f)];show q) λc i q=>by rw[yH (qF q f)];show q
#print a
def Rd(H:Hp)(a:Ì)(u:HO):È:=H a=À u\/∃o,H a=À Ğe
def Rd.ok{P:ï}{w:è}{H:Hp}{h:Heap}{a:Ì}{u:HO}(r:Rd H a u)(x:wR P w H h):xc P w H h a u:=by rcases r with r|⟨o,r⟩;show x a u r;let{_,q}:=x a _ r;show q
def IL:Ê HO->È
 |À (.lst _)=>ſb|À (.dK _)=>ſb|À (.dT _)=>ſb|À (.set _ _)=>ſb|À (.ins _ _ _)=>ſb|À (.ext _)=>ſb|_=>ÿ
section
variable{P:ï}{w:è}{H:Hp}{h h':Heap}{x e:Ì}{o':HO}
def wR.write(ok:wR P w H h)(g:IL (H x))(m:e=x\/H e=À ōd)(k:∀b u,b≠e->Ĺ b=À u->ĩ b=À u)(j:∃u,ĩ e=À u)(l:xc P w Ĉo h' x o'):wR P w Ĉo h':=λb u q=>by
 let a:∀c y,H c=À (.own y)->c≠x:=λc y r z=>by subst z;rw[r]at g;show g
 let d:∀c i,H c=À (.tup i)->c≠x:=λc i r z=>by subst z;rw[r]at g;show g
 by_cases hb:b=x;subst hb;rw[yo]at q;cases q;show l;rw[yH hb]at q;by_cases hbe:b=e;let n:H b=À ōd:=by rcases m with z|z;show ß (hbe.trans z) hb;rw[hbe];show z
 rw[q]at n;cases n;let{v,o}:=j;show{v,by rw[hbe];show o};show(ok b u q).XQ (λc v f r=>k c v ?_ r) (λc r=>by rw[yH (a c b r)];show r) λc i r=>by rw[yH (d c i r)];show r
 rcases f with rfl|f;show hbe;rintro rfl;rcases m with z|z;show a c b f z;rw[f]at z;cases z;show hb rfl
#print a
structure Un(fs ex:Á Ì)(H H':Hp)(h h':Heap):È where
 Ča:∀b o,Ĺ b=À o->H b=Æ->b ∉ fs->b ∉ ex->ĩ b=À o
 slot:∀b o,Ĺ b=À o->H b=Æ->b∈fs->b ∉ ex->∃sl,ĩ b=À { o with űd:=sl }
 free:∀b o,Ĺ b=À o->H b=Æ->b ∉ ex->H' b=Æ
 ńg:∀b o,Ĺ b=À o->b ∉ ex->∃o',ĩ b=À o'
 qV:∀b xs,H b=À œa->H' b=À œa
 qA:∀b o u,H b=À Ğe->H' b=À Ğe
 pR:∀b ps,H b=À Ġe->∃more,H' b=À Ĺm
section
variable{fs ex:Á Ì}{H H1:Hp}{h h1 h':Heap}{a x e:Ì}{o:HO}
def Un.any(u:Un fs ex H H1 h h1){b:Ì}{a:Obj}(q:Ĺ b=À a)(n:H b=Æ)(c:b ∉ ex):∃sl,ÿj b=À { a with űd:=sl }:=by by_cases hb:b∈fs;show ġg b a q n hb c;show{a.slots,Ře b a q n hb c}
def ŉe(k:∀b u,Ĺ b=À u->ĩ b=À u):Un fs ex H H h h':=
 {λb a q _ _ _=>k b a q,λb a q _ _ _=>{a.slots,k b a q},λ_ _ _ n _=>n,λb a q _=>{a,k b a q},λ_ _ q=>q,λ_ _ _ q=>q,λ_ c q=>{#[],by rw[q];simp}}
def Un.refl:Un fs ex H H h h:=ŉe λ_ _ q=>q
def Un.laid(k:∀b u,Ĺ b=À u->ĩ b=À u)(d:Ðb<=a)(c:H a=Æ):Un fs ex H Će h h' where
 Ča:=λb u q _ _ _=>k b u q
 slot:=λb u q _ _ _=>{u.slots,k b u q}
 free:=λb u q n _=>by rw[yH (ϱ (ύ őe d))];show n
 ńg:=λb u q _=>{u,k b u q}
 qV:=λb e q=>by rw[yH Ùj];show q
 qA:=λb u e q=>by rw[yH Ùj];show q
 pR:=λb f q=>{#[],by rw[yH Ùj,q];simp}
def Un.write(a:IL (H x))(j:e=x\/H e=À ōd)(k:∀b u,b≠e->Ĺ b=À u->ĩ b=À u)(c:∃u,ĩ e=À u):Un fs ex H ĺi h h':=by
 let g:∀b,H b=Æ->b≠x:=λb n z=>by subst z;rw[n]at a;show a
 let f:∀b,H b=Æ->b≠e:=λb n z=>by subst z;rcases j with r|r;show g b n r;rw[n]at r;cases r
 let d:∀b u,H b=À u->¬ IL (À u)->b≠x:=λb u q nm z=>by subst z;rw[q]at a;show nm a
 refine⟨λb u q n _ _=>k b u (f b n) q,λb u q n _ _=>{u.slots,k b u (f b n) q},λb u q n _=>by rw[yH (g b n)];show n,λb u q _=>?_,
  λb i q=>by rw[yH Ŀh];show q,λb u i q=>by rw[yH Ŀh];show q,λb l q=>{#[],by rw[yH Ŀh,q];simp}⟩
 by_cases hbe:b=e;subst hbe;show c;show{u,k b u hbe q}
#print a
nonrec def F4(h:Heap)(H:Hp):Á Ì:=(ċp).filter λa=>(H a).isSome
def Yf(h:Heap)(H:Hp):Heap:=W.hideAll h èj
def y1d(h:Heap)(H:Hp):(Þg).objs.size=Ðb:=W.hideAll_size _ _
def y1c{h:Heap}{H:Hp}{b:Ì}{o:Obj}(e:Ĺ b=À o)(n:H b=Æ):(Þg).get? b=À o:=
 W.hideAll_get _ e λa=>by let q:(H b).isSome=Ä:=(ňb a).2;rw[n]at q;simp at q
def y6p{h:Heap}{H:Hp}{b:Ì}{o:Obj}(e:(Þg).get? b=À o):Ĺ b=À o/\H b=Æ:=by
 let a:Ĺ b=À o:=W.of_hideAll èj e;show{a,?_};cases q:H b with
 |Æ=>rfl|À x=>have c:b∈F4 h H:=Őc {êc (Ĵ a),by simp[q]};let z:(Þg).get? b=Æ:=W.hideAll_none èj c;rw[z]at e;cases e
nonrec def z57(g h:Heap)(L:Ì):Á ô:=(ċp).filterMap λa=>if a=L\/(ņj a).isSome=Ä then Æ else(Ĺ a).map λo=>(a,o)
def yG(g h:Heap)(L d:Ì):Á ô:=(z57 g h L).filter λp=>decide (p.1≠d)
structure Mod(K:Ñ)(mg:Ç->Ê Value)(Ë:Heap):È where
 Ui:ţ Ë
 glob:Ŕd Ģ mg
 blt:∃mb,Ŕd ħi mb/\∀x:Ç,x ≠ Ği->mb x=Ŵ x
 nolimit:base.NoLimit
structure Cx where
 Ī:ï
 w:è
 K:Ñ
 mg:Ç->Ê Value
 Ë:Heap
 A:ā
 N:Á Ç
 s₀:Ï
 H₀:Hp
 env:Env
 ĉ:Á Env
 stack:Á Env
 ex:Á Ì
 fn:Ç->Ð
 calm:Ð
 pn:Á ô
 xe:Value->Ï->È
nonrec def jS(l:Á Env):Á Ì:=l.filterMap (·.frame)
abbrev Cx.fs(X:Cx):Á Ì:=jS ŕd
def pV(a:õa)(x:Ç):È:=ϝb x=À .local\/ϝb x=À .cell\/ϝb x=À .free
def gw(a:õa)(x:Ç):È:=ϝb x=À .local\/ϝb x=À .cell
def z4u(env:Env)(h:Heap)(m:Ç->Ê Value)(x:Ç)(u:Value):È:=
 (žc x=À .local/\m x=À u)\/((žc x=À .cell\/žc x=À .free)/\∃c,Įh x=À c/\h.IsCell c (À u))
structure Cx.Ok(X:Cx):È where
 mod:Mod X.K õ Ũ
 kind:İh=.function
 glob:Ϙh=Ģ
 blt:X.env.builtins=ħi
 above:ßc<=ϳ
 inj:∀x y c,ħa x=À c->ħa y=À c->x=y
 has:∀x,(šc x=À .cell\/šc x=À .free)->∃c,ħa x=À c
 Ug:∀x c,X.fn x=Ä->ħa x=À c->ßc<=c
 hd:Ϝ=Ä->X.A.handled=Æ
 Ňj:X.A.frames=À Ŝa
 JW:Ŝa=ŕd\/(Ŝa=Ù::ŕd/\X.env.frame=À ϳ)
 JT:∀b∈X.ex,b≠ϳ/\∀x c,ħa x=À c->c≠b
 bs:∀b o,óe b=À o->įh b=À o/\ðb b=Æ
 ZD:X.base.objs.size<=ßc
 Uk:∀b o,óe b=À o->b ∉ X.ex
 Uh:∀b∈X.ex,b ∉ Ũa
 jD:ĭl Ũ ŕd
 XM:∀b∈Ũa,ðb b=Æ
structure zI(X:Cx)(z8:Á ô)(σ:Á Đg)(H:Hp)(s:Ï):È where
 ok:X.Ok
 os:s.os=X.s₀.os
 bare:Ŗd ģg
 Ë:Un Ũa X.ex ðb H X.s₀.heap ä
 loc:∃m,ϸo ϳ m/\∀(i:Ã)(x:Ç)(v:V),X.N[i]?=À x->σ[i]?=À Êa->pV Ða x->∃u,yF v u/\z4u Ù ä m x u
 cell:∀x c,ħa x=À c->∃v,Ĝn c v
 free:H ϳ=Æ
 jC:∀x c,ħa x=À c->H c=Æ
 pin:∀p∈Üc++z8,Ē p.1=À p.2/\H p.1=Æ/\p.1≠ϳ/\p.1 ∉ Ũa/\∀v,p.2.data≠.cell v
 zi:wR ú X.w H ä
 len:σ.length=ć
section
variable{X:Cx}{z8:Á ô}{σ:Á Đg}{H H':Hp}{s:Ï}{h':Heap}
def Cx.Ok.z4k(ok:X.Ok){b:Ì}{o:Obj}(e:óe b=À o):b ∉ Ũa:=λa=>by let:=(ok.jD.mem a).1;rw[Ĳq];cases this
theorem zI.bs(I:zI X z8 σ H s):∀b o,óe b=À o->Ē b=À o/\H b=Æ:=λb o e=>
 {Ğf b o ėf.1 ėf.2 (I.ok.z4k e) Àn,Ċd b o ėf.1 ėf.2 Àn}
def zI.bk(I:zI X z8 σ H s):∀b o,óe b=À o->Ē b=À o:=λb o e=>(I.bs b o e).1
theorem zI.mod(I:zI X z8 σ H s):Mod X.K õ Ũ:=Ìj
def zI.xz(I:zI X z8 σ H s):X.K.In ä:=I.ok.mod.Ui.keeps I.bk
theorem zI.lt(I:zI X z8 σ H s):ϳ<Þ:=let ⟨_,hn,_⟩:=ļa;hn.lt
def zI.sz(I:zI X z8 σ H s):ßc<=Þ:=đ įi (Üa I.lt)
def zI.cE(I:zI X z8 σ H s){a:Ì}(h:Þ<=a):a ∉ Ũa:=λb=>by let{_,o,c,_}:=ão b;show ß (ύ (Ĵ c) (đ I.sz h)) Ãa
def zI.V5(I:zI X z8 σ H s):∀x c,ħa x=À c->c≠ϳ:=λx c e z=>by let{v,o,f,d}:=ťa x c e;let{m,{g,i,h,b,a,_},_}:=ļa;rw[z,b]at f;cases f;rw[a]at d;cases d
theorem zI.jD(I:zI X z8 σ H s):Āf Ũ ŕd:=by
 let a:∀(l:Á Env),(∀b∈jS l,b∈Ũa)->ĭl Ũ l->Āf Ũ l:=by
  intro l
  induction l with
  |nil=>intro _ _;trivial|ó env r ih=>
   intro g m;let{j,{L,o,c,i,k,h},n}:=m;let f:L∈Ũa:=g L (by unfold jS;rw[Āh,c];show ĳ);let{p,e}:=õe L o k (I.ok.XM L f) f λz=>I.ok.Uh L z f
   show{j,{L,_,c,i,e,h},ih (λb d=>g b (by unfold jS;rw[Āh,c];show æa _ d)) n}
 show a ŕd (λ_ d=>d) I.ok.jD
theorem zI.stack(I:zI X z8 σ H s):Āf Ũ Ŝa:=by rcases I.ok.JW with e|⟨e,hf⟩;rw[e];show I.jD;rw[e];let{m,a,_}:=ļa;refine .cons (by rw[ģb];decide) hf a ?_ I.jD;show Heap.get?_none_of_le (đ Āg įi)
def zI.JX(I:zI X z8 σ H s):∀b∈jS Ŝa,b∈ϳ::Ũa:=λb a=>by rcases I.ok.JW with e|⟨e,hf⟩;rw[e]at a;show æa _ a;rw[e]at a;unfold jS at a;rw[Āh,hf]at a;show a
def zI.cK(I:zI X z8 σ H s):∀b∈jS Ŝa,H b=Æ:=λb a=>by rcases ň (I.JX b a)with e|a;rw[e];show ϰa;let{_,o,c,_}:=ão a;show Ċd b o c (I.ok.XM b a) λz=>I.ok.Uh b z a
def zI.step{g':Ü GenState}{t':Ã}{d':Drawn}{ch:Á Ì}(I:zI X z8 σ H s)(t:∀b∈ch,îf/\b≠ϳ/\(∀x c,ħa x=À c->c≠b)/\∀p∈Üc++z8,p.1≠b)(g:∀b o,b≠ϳ->b ∉ Ũa->b ∉ ch->Ē b=À o->H b=Æ->ĩ b=À o)(A:∀b o,b≠ϳ->b∈Ũa->b ∉ ch->Ē b=À o->H b=Æ->∃sl,ĩ b=À { o with űd:=sl })(f:∀b o,b ∉ ch->Ē b=À o->H b=Æ->H' b=Æ)(B:∀b o,b ∉ ch->Ē b=À o->∃o',ĩ b=À o')(S:∀b xs,H b=À œa->H' b=À œa)(O:∀b o u,H b=À Ğe->H' b=À Ğe)(T:∀b ps,H b=À Ġe->∃more,H' b=À Ĺm)(ns:∀m,ϸo ϳ m->h'.Ns ϳ m)(R:wR ú X.w H' h')(hg:Ŗd g') :zI X z8 σ H' { s with ì:=h',gens:=g',drawn:=d',Ě:=t' }:=by
 let F:∀b o,įh b=À o->b≠ϳ:=λb o e=>ϱ (ύ ĕc įi)
 let y:∀b o,įh b=À o->b ∉ X.ex->b ∉ ch:=λb o e a C=>by rcases(t b C).1 with z|z;show a z;show ß (ύ ĕc z) Ãa
 let h:∀x c,ħa x=À c->∀v,Ĝn c v->h'.IsCell c v:=λx c e v ⟨o,E,G⟩=>by
  let j:c ∉ ch:=λz=>(t c z).2.2.1 x c e rfl
  by_cases hc:c∈Ũa;let{sl,q}:=A c o ϥn hc j E Üi;show{_,q,G};show{o,g c o ϥn hc j E Üi,G}
 show{I.ok,ĸc,hg,{λb o e n C a=>?_,λb o e n C a=>?_,λb o e n a=>?_,λb o e a=>?_,λb xs e=>S b xs (ďe b xs e),λb o xs e=>O b o xs (Đe b o xs e),λb ps e=>?_},?_,λx c e=>?_,?_,λx c e=>?_,λp L=>?_,R,ĺb};show g b o ĺp C Řf (Ğf b o e n C a) ŏh;let{sl,e1}:=õe b o e n C a;let{J,e2}:=A b _ ĺp C Řf e1 ŏh;show{J,e2};let{o',e1}:=ãe b o e a;show f b o' Řf e1 ŏh;let{o',e1}:=ãe b o e a;show B b o' Řf e1;let{Z,e1}:=đe b ps e;let{Y,e2}:=T b _ e1;show{Z++Y,by rw[e2,Array.append_assoc]};let{m,P,Q}:=ļa;show{m,ns m P,λi x v e1 e2 U=>?_};let{u,r,l}:=Q i x v e1 e2 U;show{u,r,?_};rcases l with l|⟨k,c,e,z⟩;show .inl l;show .inr {k,c,e,h x c e _ z};let{v,z}:=ťa x c e;show{v,h x c e v z};let{m,{o,_,_,E,_},_}:=ļa;show f _ o (λz=>(t _ z).2.1 rfl) E ϰa;let{v,o,E,G}:=ťa x c e;show f c o (λz=>(t c z).2.2.1 x c e rfl) E Üi;let{e,n,N,K,d}:=ŧa p L;let j:p.1 ∉ ch:=λz=>(t p.1 z).2.2.2 p L rfl
 show{g p.1 p.2 N K j e n,f p.1 p.2 j e n,N,K,d}
def zI.un{t':Ã}(I:zI X z8 σ H s)(u:Un Ũa [] H H' ä h')(j:wR ú X.w H' h'):zI X z8 σ H' { s with ì:=h',Ě:=t' }:=by
 let{m,{o,l,t,g,r},_}:=id ļa;let{p,k}:=u.any g ϰa ê
 show œj (g':=ģg) (d':=s.drawn) (ch:=[]) èa (λb o _ f _ e n=>Ře b o e n f ê) (λb o _ f _ e n=>ġg b o e n f ê) (λb o _ e n=>Ģg b o e n ê) (λb o _ e=>õg b o e ê) u.qV u.qA u.pR (λv i=>by let{q,d,c,a,h}:=i;rw[g]at a;cases a;show{_,d,c,k,h}) j ϱa
def zI.call{g':Ü GenState}{t':Ã}{d':Drawn}{ch:Á Ì}(I:zI X z8 σ H s)(u:Un Þj ch H H' ä h')(v:wR ú X.w H' h')(t:Ŗd g')(d:∀b∈ch,îf/\b≠ϳ/\(∀x c,ħa x=À c->c≠b)/\∀p∈Üc++z8,p.1≠b) :zI X z8 σ H' { s with ì:=h',gens:=g',drawn:=d',Ě:=t' }:=by
 let{m,{o,y,C,j,r},_}:=id ļa;let{A,i}:=u.any j ϰa λz=>(d _ z).2.1 rfl
 show œj (ch:=ch) d (λb o i q a e n=>Ře b o e n (λz=>(ň (I.JX b z)).elim i q) a) (λb o _ _ a e n=>u.any e n a) (λb o a e n=>Ģg b o e n a) (λb o a e=>õg b o e a) u.qV u.qA u.pR (λE l=>by let{B,h,g,f,k}:=l;rw[j]at f;cases f;show{_,h,g,i,k}) v t
def zI.turned{t':Ã}{it:Ì}(I:zI X z8 σ H s)(k:∀b o,b≠it->Ē b=À o->ĩ b=À o)(h:H it=Æ)(f:it≠ϳ)(l:it∈X.ex\/ßc<=it)(i:∀x c,ħa x=À c->c≠it)(g:∀p∈Üc++z8,p.1≠it):zI X z8 σ H { s with ì:=h',Ě:=t' }:=by
 let d:∀b u,H b=À u->b≠it:=λb u e z=>by rw[z,h]at e;cases e
 show œj (g':=ģg) (d':=s.drawn) (ch:=όb) (λb y=>?_) (λb o _ _ a e _=>k b o îh e) (λb o _ _ a e _=>{o.slots,k b o îh e}) (λ_ _ _ _ n=>n)
  (λb o a e=>{o,k b o îh e}) (λ_ _ e=>e) (λ_ _ _ e=>e) (λb B e=>{#[],by rw[e];simp}) (λm j=>?_) (λb u e=>?_) ϱa
 let e:b=it:=by simpa using y
 subst e;show{l,f,i,g};let{o,w,A,t,r}:=j;show{o,w,A,k _ o (Įb f) t,r};show(ĝ b u e).XQ (λc v a q=>k c v ?_ q) Ÿf λ_ _ q=>q
 rcases a with z|z;rw[z];show d b u e;show d c _ z
def zI.tok(I:zI X z8 σ H s)(t:Ã):zI X z8 σ H { s with Ě:=t }:=I.un (h':=ä) (t':=t) Un.refl ĝ
theorem zI.kept{t':Ã}(I:zI X z8 σ H s)(k:∀b u,Ē b=À u->ĩ b=À u):zI X z8 σ H { s with ì:=h',Ě:=t' }:=I.un (ŉe k) (Òp k)
theorem zI.laid{a:Ì}{o:HO}{t':Ã}(I:zI X z8 σ H s)(k:∀b u,Ē b=À u->ĩ b=À u)(d:Þ<=a)(c:xc ú X.w Će h' a o) :zI X z8 σ Će { s with ì:=h',Ě:=t' }:=I.un (Un.laid k d (Ĕb d)) (I.zi.laid k d c)
theorem zI.write{x e:Ì}{o:HO}{t':Ã}(I:zI X z8 σ H s)(f:IL (H x))(d:e=x\/H e=À ōd)(k:∀b u,b≠e->Ē b=À u->ĩ b=À u)(a:∃u,ĩ e=À u)(c:xc ú X.w ĺi h' x o):zI X z8 σ ĺi { s with ì:=h',Ě:=t' }:=I.un (Un.write f d k a) (I.zi.write f d k a c)
def zI.weak{σ':Á Đg}(I:zI X z8 σ H s)(b:σ'.length=σ.length)(w:∀(i:Ã) v,σ'[i]?=À Êa->σ[i]?=À Êa):zI X z8 σ' H s:=
 {I.ok,ĸc,ϱa,ıg,let ⟨m,hn,hl'⟩:=ļa;{m,hn,λi x v e1 e2 a=>hl' i x v e1 (w i v e2) a},ťa,ϰa,ϋb,ŧa,ĝ,b.trans ĺb}
def zI.JV{a:Á ô}(I:zI X z8 σ H s)(h:∀p∈a,Ē p.1=À p.2/\H p.1=Æ/\p.1≠ϳ/\p.1 ∉ Ũa/\∀v,p.2.data≠.cell v):zI X a σ H s:=
 {I.ok,ĸc,ϱa,ıg,ļa,ťa,ϰa,ϋb,λp b=>(ϗ b).elim (λz=>ŧa p (ņb _ z)) (h p),ĝ,ĺb}
def o8{N:Á Ç}(c:ϯc){i j:Ã}{x:Ç}(a:N[i]?=À x)(b:N[j]?=À x):i=j:=by let{e,e1}:=ű a;let{d,e2}:=ű b;show(List.getElem_inj c).mp (e1.trans e2.symm)
def z1q{M:Że}{A:ā}{E:Value->Ï->È}{i:Ã}{x:Ç}{v:V}{u:Value}{Q:Ŀa->Ï->È}(I:zI X z8 σ H s)(hN:źa)(hi:X.N[i]?=À x)(t:gw Ða x)(r:yF v u)(h:∀s',zI X z8 ıd H s'->(∃a,Ĝb a ä Ϭc/\(a=ϳ\/ħa x=À a))->Q () s')(hf:Î Āb q7):Ý M A ϫl Q E s:=by
 let{m,Z,hl}:=id ļa;let O:(İh == .class||(İh == .module&&ϳ != Ϙh))=Â:=by rw[ģb];rfl
 let G:i<σ.length:=by rw[ĺb];show ϸb.1
 let V5:=I.V5
 let g:∀{a:Ì}{h':Heap},(∃o,Ē a=À o/\H a=Æ)->Ĝb a ä h'->wR ú X.w H h':=λ{a h'} ha f b ob e=>by
  let{_,_,B}:=ha;show(ĝ b ob e).XQ (λc S l q=>(f.2 c ?_).trans q) Ÿf λ_ _ q=>q
  rintro rfl;rcases l with rfl|l;rw[B]at e;cases e;rw[B]at l;cases l
 rcases t with hk|hk;show wpAny_storeName_local hk Z (λh' hn' f=>?_) O;let{oL,_,_,hoL,_}:=id Z;show h _ {I.ok,ĸc,ϱa,{λb o e n C t=>?_,λb o e n C t=>?_,Ċd,λb o e t=>?_,ďe,Đe,đe},{_,hn',λj y v' e1 e2 e3=>?_},λy c e=>?_,ϰa,ϋb,λp hp=>?_,g {oL,hoL,ϰa} f,by simpa using ĺb} {_,f,.inl rfl};show(ϋg).trans ğm;let{sl,e1}:=õe b o e n C t;show{sl,(ϋg).trans e1};let{o',e1}:=ãe b o e t;show{o',(ϋg).trans e1};rw[ϛp];show{u,r,.inl {hk,by simp}};rw[Ϣp];rcases q with⟨k,e⟩|⟨k,c,e,z⟩;show .inl {k,?_};let:y≠x:=λe=>hj (o8 hN e1 (e▸hi))
 simp[this,e];show .inr {k,c,e,ϱo f Žo};let{S,z}:=ťa y c e;show{S,ϱo f Žo};let{e,n,P,Y,d}:=ŧa p hp;show{(f.2 p.1 P).trans e,n,P,Y,d};let F:X.fn x=Ä:=by rcases hf with z|z;show z;rw[z]at hk;cases hk
 let{c,l}:=I.ok.has x (.inl hk);let{S,z}:=ťa x c l;show wpAny_storeName_cell ģb hk l z (λh' J f=>?_);let{oc,K,L}:=id z;show h { s with ì:=h' } {I.ok,ĸc,ϱa,{λb o e n C t=>?_,λb o e n C t=>?_,Ċd,λb o e t=>?_,ďe,Đe,đe},{m,Z.sameBut f (Įb (V5 x c l)),λj y v' e1 e2 e3=>?_},λy R e=>?_,ϰa,ϋb,λp hp=>?_,g {oc,K,ϋb x c l} f,by simpa using ĺb} {c,f,.inr l};show(ŷg).trans ğm;let{sl,e1}:=õe b o e n C t;show{sl,(ŷg).trans e1};let{o',e1}:=ãe b o e t;show{o',(ŷg).trans e1};rw[ϛp];show{u,r,.inr {.inl hk,c,l,J}};rw[Ϣp];rcases q with q|⟨k,R,e,z'⟩;show .inl q;show .inr {k,R,e,z'.sameBut f ?_};rintro rfl;show hj (o8 hN e1 (I.ok.inj _ _ _ e l▸hi));by_cases hcc:R=c;subst hcc;show{_,J};let{w2,z2}:=ťa y R e;show{w2,z2.sameBut f hcc};let{e,n,P,Y,d}:=ŧa p hp;show{(f.2 p.1 ?_).trans e,n,P,Y,d};intro q;rw[q,K]at e;let q':oc=p.2:=Ĭa e;show d S (by rw[<-q'];show L)
def Ah{M:Że}{A:ā}{E:Value->Ï->È}{i:Ã}{x:Ç}{v:V}{u:Value}{Q:Ŀa->Ï->È}(I:zI X z8 σ H s)(a:źa)(hi:X.N[i]?=À x)(c:gw Ða x)(r:yF v u)(h:∀s',zI X z8 ıd H s'->Q () s')(d:Î Āb q7):Ý M A ϫl Q E s:=
 z1q I a hi c r (λs' b _=>h s' b) d
def zI.CK{s':Ï}{ch:Á Ì}(I:zI X z8 σ H s)(h:s'.os=s.os)(u:Un Þj ch H H' ä Ϭc)(d:wR ú X.w H' Ϭc)(g:Ŗd s'.gens)(a:∀b∈ch,îf/\b≠ϳ/\(∀x c,ħa x=À c->c≠b)/\∀p∈Üc++z8,p.1≠b):zI X z8 σ H' s':=by let{h',g',d',t',f}:=s';let e:f=s.os:=h;subst e;show I.call (g':=g') (t':=t') (d':=d') u d g a
#print a
abbrev XK:=Value->Ê Ì->Hp->È
abbrev St:=Á Đg
abbrev VK:=V->Hp->È
abbrev TE:=St->Hp->VK->È
abbrev TT:=St->Hp->(Ð->Hp->È)->È
abbrev TA:=St->Hp->(Á V->Hp->È)->È
structure ui where
 nx:St->Hp->È
 rt:VK
 bk:St->Hp->È:=λ_ _=>ÿ
 ct:St->Hp->È:=λ_ _=>ÿ
abbrev TS:=ui->St->Hp->È
def EP(X:Cx)(a:Á ô)(σ:St)(Q:VK)(u:Value)(s':Ï):È:=∃v H',zI X a σ H' s'/\yF v u/\Q v H'
def TP(X:Cx)(a:Á ô)(σ:St)(Q:Ð->Hp->È)(b:Ð)(s':Ï):È:=∃H',zI X a σ H' s'/\Q b H'
def AP(X:Cx)(a:Á ô)(σ:St)(Q:Á V->Hp->È)(us:Á Value)(s':Ï):È:=∃vs H',zI X a σ H' s'/\zx vs us/\Q vs H'
def SP(X:Cx)(a:Á ô)(D:ui)(f:Flow)(s':Ï):È:=
 match f with
 |.next=>∃σ' H',zI X a σ' H' s'/\ϖa σ' H'|.brk=>∃σ' H',zI X a σ' H' s'/\D.bk σ' H'|.cont=>∃σ' H',zI X a σ' H' s'/\D.ct σ' H'|.ret u=>∃v σ' H',zI X a σ' H' s'/\yF v u/\D.rt v H'
def PE(X:Cx)(e:Õ)(t:TE):È:=
 ∀(z8:Á ô) (s:Ï) (σ:St) (H:Hp) (Q:VK),zI X z8 σ H s->t σ H Q->Ý Ą X.A Đd ŕb ı s
def PT(X:Cx)(e:Õ)(t:TT):È:=
 ∀(z8:Á ô) (s:Ï) (σ:St) (H:Hp) (Q:Ð->Hp->È),zI X z8 σ H s->t σ H Q->Ý Ą X.A (Ťd e Ù Đd) Ŷh ı s
def PW(X:Cx)(e:Õ)(t:TT):È:=
 ∀(įc:Sem Value)(z8:Á ô) (s:Ï) (σ:St) (H:Hp) (Q:Ð->Hp->È),zI X z8 σ H s->t σ H Q->Ý Ą X.A (Ťd e Ù įc) Ŷh ı s
def PW.pt{X:Cx}{e:Õ}{t:TT}(h:PW X e t):PT X e t:=h _
def PA(X:Cx)(es:Á Õ)(t:TA):È:=
 ∀(pos:Pos)(z8:Á ô) (s:Ï) (σ:St) (H:Hp) (Q:Á V->Hp->È),zI X z8 σ H s->t σ H Q->Ý Ą X.A (spliced Ėe) ċn ı s
def PS(X:Cx)(st:Ú)(t:TS):È:=
 ∀(z8:Á ô) (s:Ï) (σ:St) (H:Hp) (D:ui),zI X z8 σ H s->t D σ H->Ý Ą X.A (exec st Ù) Ħo ı s
def tV(X:Cx)(st:Á Ú)(t:TS):È:=
 ∀(z8:Á ô) (s:Ï) (σ:St) (H:Hp) (D:ui),zI X z8 σ H s->t D σ H->Ý Ą X.A (execs st Ù) Ħo ı s
def zt{α:Type}{t:Sem α}{Q b:α->Ï->È}{M:Że}{A:ā}{E:Value->Ï->È}{s:Ï}(h:Ý M A t Q E s)(c:∀a s,Q a s->b a s):Ý M A t b E s:=ďa h c λ_ _ x=>x
section
variable{X:Cx}
nonrec def Qn(i:Ã):TE:=λσ H Q=>∃v,σ[i]?=À Êa/\Q v H
nonrec def tC(v:V):TE:=λ_ H Q=>Q v H
def WM{i:Ã}{x:Ç}{pos:Pos}(q:X.N[i]?=À x)(hv:pV Ða x)(f:Î ķ q10)(g:Î Æb q10):PE X ëa Űd:=by intro k s σ H Q I h;let{v,e,h}:=h;let{m,n,p}:=ļa;let{u,r,l}:=p i x v q e hv;let b:EP X k σ Q u s:={v,H,I,r,h};rcases l with⟨d,o⟩|⟨d,c,j,a⟩;show Ġi (řl ģb d n o b) f;rcases d with d|d;show Ġi (ϋl ģb d j a b) f;show Ġi (wpAny_loadName_free ģb d j a b g) f
def oi{i j pos}:PE X (.Constant Ŭ j pos) (tC Ŭ):=λ_ _ _ H _ I h=>Ìm {.int i,H,ϟ _,{_,rfl},h}
def x0g{b j pos}:PE X (.Constant ϭi j pos) (tC Ϭa):=λ_ _ _ H _ I h=>Constant_bool {.bl b,H,I,rfl,h}
def x0z{j pos}:PE X (.Constant .none j pos) (tC .zD):=λ_ _ _ H _ I h=>Constant_none {.zD,H,I,rfl,h}
def oz{x j pos}:PE X (.Constant Ĭb j pos) (tC Ĭb):=λ_ _ _ H _ I h=>Çh {.str x,H,ϟ _,{_,rfl},h}
def Gl(X:Cx)(x:Ç):È:=šc x=À .globalImplicit
def Ob{E:Value->Ï->È}{c:Á ô}{s:Ï}{σ:St}{H:Hp}{x:Ç}{u:Value}{pos:Pos}{Q:Value->Ï->È}(I:zI X c σ H s)(a:Gl X x)(b:õ x=À u)(h:Q u s)(d:Î ķ q10):Ý Ą X.A Ļn Q E s:=
 Ŏk ģb a (Calls.loadGlobal_global ék b h) d
def WC{E:Value->Ï->È}{a:Á ô}{s:Ï}{σ:St}{H:Hp}{x:Ç}{u:Value}{pos:Pos}{Q:Value->Ï->È}(I:zI X a σ H s)(e:Gl X x)(f:õ x=Æ)(hv:Ŵ x=À u)(h:Q u s)(c:Î Êb q10)(b:Î ķ q10):Ý Ą X.A Ļn Q E s:=by let{i,g,d}:=I.mod.blt;show Ŏk ģb e (Calls.loadGlobal_builtin ék f (by rw[I.ok.blt];show g.keeps I.bk) ((d x c).trans hv) h) b
def x0u{x:Ç}{v:V}{u:Value}{pos:Pos}(a:Gl X x)(b:õ x=À u)(r:yF v u)(c:Î ķ q10):PE X ëa Ūe:=
 λ_ _ _ H _ I h=>Ob I a b {v,H,I,r,h} c
def x0h{x:Ç}{v:V}{u:Value}{pos:Pos}(c:Gl X x)(d:õ x=Æ)(hv:Ŵ x=À u)(r:yF v u)(b:Î Êb q10)(a:Î ķ q10):PE X ëa Ūe:=
 λ_ _ _ H _ I h=>WC I c d hv {v,H,I,r,h} b a
variable{a b:Õ}{ta tb:TE}{pos:Pos}
nonrec def tB(t:TE):TT:=λσ H Q=>t σ H λx a=>∃c,x=.bl c/\Q c a
def x2f{e:Õ}{t:TE}(h:PE X e t)(j:Î (∀įc,Ťd e Ù įc=(do let v <-įc;standAt e.pos;holding [v] Űo)) q11):PT X e (tB t):=by intro g s σ H Q I f;show isTrue_plain (zt (h g s σ H _ I f) λv l a=>?_) (j _);let{x,c,i,b,k}:=a;let{d,rfl,q}:=k;cases b;show çd {c,i,q}
variable{tA tB':TT}{yG:Á Õ}
nonrec def x7f(t u:TT):TT:=λσ H Q=>t σ H λc a=>if c=Ä then u σ a Q else Q Â a
nonrec def x7z(t u:TT):TT:=λσ H Q=>t σ H λc a=>if c=Ä then Q Ä a else u σ a Q
nonrec def x7x(t:TT):TT:=λσ H Q=>t σ H λc a=>Q (!c) a
def x2q(b:PT X a tA):PW X ĩl tA:=by
 intro f d s σ H Q I h;show Ŀo Łk;cases c with
 |Ä=>show isTrue_and_nil e|Â=>show e
def x2t(b:PT X a tA):PW X Ŕl tA:=by
 intro f d s σ H Q I h;show Äp Łk;cases c with
 |Â=>show isTrue_or_nil e|Ä=>show e
def x2p(j:PT X a tA)(k:PW X Įf tB'):PW X ϧf (x7f tA tB'):=by
 intro l i s σ H Q I h;show Ŀo ŀk;let{g,e,f}:=d;cases c with
 |Ä=>show k l i m σ g Q e f|Â=>show{g,e,f}
def x2s(j:PT X a tA)(k:PW X ĭf tB'):PW X Ϧf (x7z tA tB'):=by
 intro l i s σ H Q I h;show Äp ŀk;let{g,e,f}:=d;cases c with
 |Ä=>show{g,e,f}|Â=>show k l i m σ g Q e f
def x2e(b:PT X a tA):PT X Õf (x7x tA):=by intro e s σ H Q I h;show isTrue_not (b e s σ H (λc d=>Q (!c) d) I h)
nonrec def x7g(ta tb:TE):TE:=λσ H Q=>ta σ H λx a=>∃c,x=.bl c/\if c=Ä then tb σ a Q else Q á a
nonrec def x80(ta tb:TE):TE:=λσ H Q=>ta σ H λx a=>∃c,x=.bl c/\if c=Ä then Q Č a else tb σ a Q
nonrec def x7y(ta:TE):TE:=λσ H Q=>ta σ H λx a=>∃c,x=.bl c/\Q (.bl (!c)) a
def x11{op}{t:TE}(h:PE X a t):PE X źl t:=λc s σ H Q I b=>BoolOp_one (h c s σ H Q I b)
def x0f(l:PE X a ta)(m:PE X Įf tb):PE X ϧf (x7g ta tb):=by
 rw[Žp];show BoolOp_and Ŀk;rw[Ãq];cases c with
 |Ä=>show m g k σ f Q i d|Â=>show{.bl Â,f,i,rfl,d}
def x13(l:PE X a ta)(m:PE X ĭf tb):PE X Ϧf (x80 ta tb):=by
 rw[Žp];show BoolOp_or Ŀk;rw[Ãq];cases c with
 |Â=>show m g k σ f Q i d|Ä=>show{.bl Ä,f,i,rfl,d}
def x10(j:PE X a ta):PE X Õf (x7y ta):=by rw[Žp];show UnaryOp_ (zt (j g s σ H _ I h) λv k b=>?_);let{x,f,i,e,d}:=b;let{c,rfl,d}:=d;cases e;show not_of (çd {.bl (!c),f,i,rfl,d})
nonrec def x7o(t:TT)(ta tb:TE):TE:=λσ H Q=>t σ H λc a=>if c=Ä then ta σ a Q else tb σ a Q
def x0v{c:Õ}(n:PT X c tA)(m:PE X a ta)(l:PE X b tb):PE X Ąm (x7o tA ta tb):=by
 intro e s σ H Q I h;show wpAny_IfExp Ľk;let{j,g,i}:=f;cases d with
 |Ä=>show m e k σ j Q g i|Â=>show l e k σ j Q g i
#print a
def yu(K:Ñ)(H:Hp)(a:Ì)(xs:Á V):È:=
 Rd H a Ěa \/
  ∃(o:Obj) (its:Ü Value) (n:Ã),Ϩ a=À o/\ùb=.type ĸ/\Ŝe=Æ/\ĸa=.seq its n/\Äj<=â/\zx xs Ăe
def xK(K:Ñ)(H:Hp)(a:Ì)(xs:Á V):È:=
 Rd H a œa \/
  ∃(o:Obj) (its:Ü Value) (n:Ã),Ϩ a=À o/\ùb=.type ŷ/\ĸa=.seq its n/\Äj<=â/\zx xs Ăe
nonrec def z52:Value->Ê V
 |.none=>À .zD|.bool b=>À Ϭa|.int i _=>À Ŭ|.str x _=>À Ĭb|.bytes b _=>À (.byt b)|.float b _=>À (.V6 b)|.ref a=>À ŭ|.type n=>À (.ty n)|_=>Æ
def yF.abs{x:V}{u:Value}(r:yF x u):z52 u=À x:=by
 cases x with
 |zD=>cases r;rfl|bl _=>cases r;rfl|int _=>let{t,rfl}:=r;rfl
 |str _=>let{t,rfl}:=r;rfl
 |byt _=>let{t,rfl}:=r;rfl
 |V6 _=>let{t,rfl}:=r;rfl
 |ref _=>cases r;rfl|ty _=>cases r;rfl
def yF.inj{x y:V}{u:Value}(r:yF x u)(q:yF y u):x=y:=Ĭa (r.abs.symm.trans q.abs)
theorem zx.inj{xs a:Á V}{us:Á Value}(h:zx xs us)(g:zx a us):xs=a:=by
 induction h generalizing a with
 |nil=>cases g;rfl|ó r _ ih=>cases g with|ó r' t'=>rw[r.inj r',ih t']
section
variable{X:Cx}{z8:Á ô}{σ:St}{H:Hp}{s:Ï}{a:Ì}{xs ys:Á V}
def Ĺb{K:Ñ}(h:H a=À Ěa):yu K H a xs:=.inl ŏd
def żb{K:Ñ}(h:H a=À œa):xK K H a xs:=.inl ŏd
def zI.list(I:zI X z8 σ H s)(h:yu X.K H a xs):∃its:Á Value,zx xs its/\PlainL ä a Æa/\æ<=â:=by rcases h with h|⟨o,its,n,hk,hc,hd,hs,hz,r⟩;let{z,its,n,r,e}:=h.ok ĝ;show{its,r,{_,n,e,rfl,rfl,rfl},z};refine{Ăe,r,{o,n,Ť a o hk,hc,hd,by simpa using hs},?_};rw[įq]
def zI.tuple(I:zI X z8 σ H s)(h:xK X.K H a xs):∃its:Á Value,zx xs its/\úb ä a Æa/\æ<=â:=by rcases h with h|⟨o,its,n,hk,hc,hs,hz,r⟩;let{z,its,r,p}:=h.ok ĝ;show{its,r,p,z};refine{Ăe,r,{o,Ť a o hk,hc,n,by simpa using hs},?_};rw[įq]
def zI.MF(I:zI X z8 σ H s)(h:yu X.K H a xs)(h':yu X.K H a ys):xs=ys:=by
 let{c,r,{o,n,e,_,_,d},_}:=Ϟ h;let{b,i,{j,k,g,_,_,f},_}:=Ϟ h';rw[e]at g;cases g;rw[d]at f;injection f with d1 _
 rw[īq]
 rw[Ĝq];show r.inj i
def zI.CS(I:zI X z8 σ H s)(h:xK X.K H a xs)(h':xK X.K H a ys):xs=ys:=by
 let{c,r,{o,e,_,n,d},_}:=ϭ h;let{b,i,{j,g,_,k,f},_}:=ϭ h';rw[e]at g;cases g;rw[d]at f;injection f with d1 _
 rw[īq]
 rw[Ĝq];show r.inj i
#print a
abbrev Cx.ZG(X:Cx)(E:Value->Ï->È):Cx:={ X with xe:=E }
abbrev Cx.qU(X:Cx):Cx:=X.ZG λ_ _=>ÿ
theorem Cx.Ok.ZG{X:Cx}(ok:X.Ok)(E:Value->Ï->È):(ļe).Ok:=
 {ok.mod,ok.kind,ok.glob,ok.blt,ok.above,ok.inj,ok.has,ok.Ug,ok.hd,ϻo,ok.JW,ok.JT,ok.bs,ok.ZD,ok.Uk,ok.Uh,ok.jD,ok.XM}
def Cx.Ok.XR{X:Cx}{E:Value->Ï->È}(ok:(ļe).Ok):X.Ok:=
 {ok.mod,ok.kind,ok.glob,ok.blt,ok.above,ok.inj,ok.has,ok.Ug,ok.hd,ϻo,ok.JW,ok.JT,ok.bs,ok.ZD,ok.Uk,ok.Uh,ok.jD,ok.XM}
section
variable{X:Cx}{z8:Á ô}{σ:St}{H:Hp}{s:Ï}{E:Value->Ï->È}
theorem zI.ZG(I:zI X z8 σ H s)(E:Value->Ï->È):zI ļe z8 σ H s:={I.ok.ZG E,ĸc,ϱa,ıg,ļa,ťa,ϰa,ϋb,ŧa,ĝ,ĺb}
theorem zI.XR(I:zI ļe z8 σ H s):zI X z8 σ H s:={I.ok.XR,ĸc,ϱa,ıg,ļa,ťa,ϰa,ϋb,ŧa,ĝ,ĺb}
theorem SP.XR{D:ui}{f:Flow}{s':Ï}(h:SP ļe z8 D f s'):SP X z8 D f s':=by
 cases f with
 |next=>let{σ',a,I,q}:=h;show{σ',a,I.XR,q}
 |brk=>let{σ',a,I,q}:=h;show{σ',a,I.XR,q}
 |žb=>let{σ',a,I,q}:=h;show{σ',a,I.XR,q}
 |ret u=>let{v,σ',a,I,r,q}:=h;show{v,σ',a,I.XR,r,q}
theorem tV.qU{st:Á Ú}{t:TS}(h:tV X.qU st t):tV X st t:=λz8 s σ H D I a=>
 ďa (h z8 s σ H D (I.ZG _) a) (λ_ _ q=>q.XR) λ_ _ z=>ęa z
#print a
section
variable{X:Cx}{st:Ú}{yG:Á Ú}{t u:TS}{e:Õ}{te:TE}{pos:Pos}
nonrec def x7v:TS:=λD σ H=>ϖa σ H
nonrec def x85(t u:TS):TS:=λD σ H=>t { D with nx:=u D } σ H
def rN:tV X [] x7v:=λ_ _ σ H _ I h=>Êf {σ,H,I,h}
def rM(g:PS X st t)(d:tV X yG u):tV X (st::yG) (x85 t u):=by
 intro a s σ H D I h;show ņm (zt (g a s σ H { D with nx:=u D } I h) λf e q=>?_);cases f with
 |next=>let{σ',b,c,q}:=q;show d a e σ' b D c q
 |ret v=>show q|brk=>show q|žb=>show q
def rO(b:PS X st t):tV X [st] t:=by
 intro a s σ H D I h;show ņm (zt (b a s σ H D I h) λf c q=>?_);cases f with
 |next=>show Êf q|ret v=>show q|brk=>show q|žb=>show q
def zI.quiet{a:Á ô}{σ:St}{H:Hp}{s:Ï}(I:zI X a σ H s):Ðo Ù=Â:=by simp[Ðo,ģb]
nonrec def z1y(te:TE):TS:=λD σ H=>te σ H λ_ a=>ϖa σ a
def rJ(i:PE X e te)(g:Î ϖk q12):PS X ϭh (z1y te):=by intro f s σ H D I h;show wpAny_Expr_any (zt (i f s σ H _ I h) λv k a=>?_) I.quiet g;let{x,d,b,j,c}:=a;show{σ,d,b,c}
nonrec def x83(te:TE):TS:=λD σ H=>te σ H D.rt
def DM(i:PE X e te):PS X Öf (x83 te):=by rw[ıq];show wpAny_Return_some (zt (i g s σ H _ I h) λv j a=>?_);let{x,f,c,b,d}:=a;show{x,σ,f,c,b,d}
nonrec def x7p(c:TT)(t u:TS):TS:=λD σ H=>c σ H λb a=>if b=Ä then t D σ a else u D σ a
def rK{c:Õ}{a b:Á Ú}{l:TT}(n:PT X c l)(m:tV X a t)(o:tV X b u):PS X (.If c a b pos) (x7p l t u):=by
 intro e s σ H D I h;show wpAny_If Ľk;let{j,g,i}:=f;cases d with
 |Ä=>show m e k σ j D g i|Â=>show o e k σ j D g i
nonrec def x7u:TS:=λ_ _ _=>ÿ
def x2d{a:Á Ú}:tV X a x7u:=λ_ _ _ _ _ _ h=>Ņj
#print a
abbrev TG:=V->St->Hp->ŕn->È
abbrev ZO:=Á V->St->Hp->ŕn->È
def PG(X:Cx)(a:Õ)(t:TG):È:=
 ∀(z8:Á ô) (s:Ï) (σ:St) (H:Hp) (v:V) (u:Value) (Q:St->Hp->È),zI X z8 σ H s->yF v u->t v σ H Q->
  Ý Ą X.A (Ðc a Ù u) (λ_ b=>∃σ' H',zI X z8 σ' H' b/\Q σ' H') ı s
def IN(X:Cx)(ts:Á Õ)(t:ZO):È:=
 ∀(z8:Á ô) (s:Ï) (σ:St) (H:Hp) (vs:Á V) (us:Á Value) (Q:St->Hp->È),zI X z8 σ H s->zx vs us->t vs σ H Q->
  Ý Ą X.A (assignInOrder ((åe ts Ù).map (·.2)) us) (λ_ a=>∃σ' H',zI X z8 σ' H' a/\Q σ' H') ı s
abbrev MW:=V->V->V->Hp->Ĺp->È
def EM(X:Cx)(t:MW):È:=
 ∀(z8:Á ô) (s:Ï) (σ:St) (H:Hp) (o i v:V) (ov iv u:Value) (Q:Hp->È),zI X z8 σ H s->yF o ov->yF i iv->yF v u->t o i v H Q->
  Ý Ą X.A (ýj ov iv u) (λ_ a=>∃H',zI X z8 σ H' a/\Q H') ı s
abbrev MV:=V->V->Hp->VK->È
def EL(X:Cx)(a:Ĳe)(t:MV):È:=
 ∀(z8:Á ô) (s:Ï) (σ:St) (H:Hp) (x y:V) (v u:Value) (Q:VK),zI X z8 σ H s->yF x v->yF y u->t x y H Q->
  Ý Ą X.A (şi a v u) ŕb ı s
section
variable{X:Cx}{pos:Pos}
nonrec def qe(i:Ã):TG:=λv σ H Q=>Q ıd H
def x1a{i:Ã}{x:Ç}(a:źa)(hi:X.N[i]?=À x)(c:gw Ða x)(d:Î Āb q7):PG X ëa īc:=by intro f s σ H v u Q I r h;show Ċm (Ah I a hi c r (λe b=>{_,H,b,h}) d)
nonrec def T_:ZO:=λa σ H Q=>a=[]/\Q σ H
nonrec def ZV(t:TG)(u:ZO):ZO:=λb σ H Q=>∃v r,b=v::r/\t v σ H λσ' a=>u r σ' a Q
def x1e:IN X [] T_:=by intro b s σ H c a Q I r h;let{e,h}:=h;subst e;cases r;show assignInOrder_nil {σ,H,I,h}
def x1d{e:Õ}{es:Á Õ}{t:TG}{u:ZO}(i:PG X e t)(f:IN X es u)(d:Î ((ķn).map (·.2)=Ðc e Ù::(Ϛd).map (·.2)) q12):IN X ĵ (ZV t u):=by
 intro b s σ H n m Q I r h;let{v,l,e1,h}:=h;subst e1;cases r with
 |ó r rr=>rw[d];show assignInOrder_cons (zt (i b s σ H _ _ _ I r h) λ_ g a=>?_);let{σ1,c,j,k}:=a;show f b g σ1 c _ _ Q j rr k
nonrec def Q0(K:Ñ)(n:Ã)(t:ZO):TG:=λv σ H Q=>∃a xs,v=.ref a/\xK K H a xs/\æ=n/\t xs σ H Q
def x1c{es:Á Õ}{k:Ã}{t:ZO}{n:Ã}(j:Ϝ=Ä)(h:IN X es t)(m:Î ům q12)(c:Î ((Ϛd).findIdx? (·.1)=Æ) q12):PG X Ļm Ϥn:=by
 intro f s σ H v u Q I r d;let{a,z,e1,i,w,d}:=d;subst e1;cases r;let{p,g,l,A}:=ϭ i;refine assign_Tuple_tuple (óa j) l (by simp[m,<-w,âa]) c λy q=>?_
 let x:zI X f σ H { s with ì:=y }:=ŧd (t':=Ď) λb o e=>q b o ϑi e
 show h f _ σ H z _ Q x (by simpa using g) d
nonrec def ly(d c:TE)(t:MW):TG:=λv σ H Q=>d σ H λo b=>c σ b λi e=>t o i v e λa=>Q σ a
def x1b{o i:Õ}{c d:TE}{t:MW}(q:PE X o c)(hi:PE X i d)(k:EM X t)(B:∀v,Ðc øh Ù v=(do
   let ov <-holding [v] Ŝb
   let iv <-holding [v,ov] (Ė i Ù)
   standAt pos
   holding ßp (ýj ov iv v)
   release ßp []):=by intro _;rfl):PG X øh (ly c d t):=by
 intro b s σ H v u Q I r h;rw[B];show Ø (Ċb (zt (q b s σ H _ I h) λov l a=>?_));let{x,g,z,e,j}:=a;show Ø (Ċb (zt (hi b l σ g _ z j) λiv A a=>?_));let{y,p,E,m,n}:=a;show Ø (áf (Ø (Ċb (zt (k b A σ p x y v ov iv u _ E e m r n) λ_ F a=>?_))));let{w,f,C}:=a;show wpAny_release {σ,w,f,C}
nonrec def Aj(a:TE)(g:TG):TS:=λD σ H=>a σ H λx b=>g x σ b ϖa
def rG{tg e:Õ}{c:TE}{g:TG}(o:PE X e c)(m:PG X tg g)(n:Î (ϒh [tg] e ϐc Ù=pure Â) q12)(i:Î (ϓh [tg] e Ù=pure Æ) q12)(k:Î ((åe [tg] Ù).map (·.2)=[Ðc tg Ù]) q12):PS X (.Assign [tg] e pos) (Aj c g):=by intro b s σ H D I h;show wpAny_Assign_stores (zt (o b s σ H _ I h) λv j a=>?_) n i;let{x,f,l,d,p}:=a;rw[k];show zt (m b j σ f x v _ l d p) λ_ r q=>q
def x2b{i:Ã}{x:Ç}{e:Õ}{c:TE}{a:Pos}(l:źa)(hi:X.N[i]?=À x)(j:gw Ða x)(o:PE X e c)(n:Î (üc e (À (.Name x a)) ϐc Ù=pure Â) q12)(k:Î Āb q7) :PS X (.Assign [.Name x a] e pos) (Aj c īc):=by rw[ıq];show wpAny_Assign_Name (zt (o g s σ H _ I h) λv r b=>?_) n;let{y,f,m,d,q}:=b;show Ah m l hi j d (λt p=>{_,f,p,q}) k
nonrec def x7h(i:Ã)(d:TE)(b:MV):TS:=λD σ H=>∃x,σ[i]?=À (À x)/\d σ H λy c=>b x y c λz a=>ϖa (Ψ (À z)) a
def x27{i:Ã}{x:Ç}{e:Õ}{t:TE}{g:Ĳe}{q:MV}{f:Pos}(Z:źa)(hi:X.N[i]?=À x)(o:gw Ða x)(he:PE X e t)(U:EL X g q)(Y:Î Āb q7) :PS X (.AugAssign (.Name x f) g e pos) (x7h i t q):=by
 intro n s σ H D I h;let{v,e1,h}:=h;let{m,E,J}:=ļa;let j:pV Ða x:=by rcases o with k|k;show .inl k;show .inr (.inl k)
 let{u,r,l}:=J i x v hi e1 j;show wpAny_AugAssign_Name ?_
 let p:Ý Ą X.A Đd (λw K=>Ý Ą X.A (şi g u w) (λr Q=>Ý Ą X.A (storeName Ù x r) (λ_=>SP X n D .next) ı Q) ı K) ı s:=by
  show zt (he n s σ H _ I h) λw F d=>?_
  let{y,C,I1,B,q1}:=d;show zt (U n F σ C v y u w _ I1 r B q1) λz s2 d=>?_
  let{zv,T,L,R,G}:=d;show Ah L Z hi o R (λs3 P=>{_,T,P,G}) Y
 rcases l with⟨a,S⟩|⟨a,c,O,b⟩;show řl ģb a E S p;rcases a with a|a;show ϋl ģb a O b p;rcases o with k|k;rw[ãq];rw[ãq]
nonrec def mw(f:Å->Å->Å):MV:=λx y H Q=>∃i j,x=.int i/\y=.int j/\Q (Δ (f i j)) H
def mx:EL X .Add ϣm:=by rw[ϲp];let{i,j,e1,e2,q}:=h;subst e1;subst e2;let{t,rfl}:=a;let{d,rfl}:=b;show iadd_int {.int _,H,ϟ _,{_,rfl},q}
#print a
section
variable{X:Cx}{pos:Pos}
nonrec def x8b(c:TT)(tb:TS):TS:=λD σ H=>∃W:Ã->St->Hp->È,(∃m,W m σ H)/\∀m σ H,W m σ H->
 c σ H λb a=>if b=Ä then ∃N:St->Hp->È,(∀σ' H',N σ' H'->∃m',m'<m/\W m' σ' H')/\tb { D with nx:=N,ct:=N,bk:=ϖa } σ a else ϖa σ a
def x2c{c:Õ}{a:Á Ú}{y:TT}{tb:TS}(t:įd Ą X.A Ù ı)(J:PT X c y)(O:tV X a tb):PS X (.While c a [] pos) (x8b y tb):=by
 intro m s σ H D I h;let{W,{B,E},d}:=h;show wpAny_While (codeAny_whileLoop (λn G=>∃σ' H',zI X m σ' H' G/\W n σ' H') ?_ B {σ,H,I,E});rintro n C ⟨σ1,r,L,K⟩;show ŉc t (zt (J m C σ1 r _ L (d n σ1 r K)) λb F q=>?_);let{x,u,g}:=q;cases b with
 |Ä=>
  let{N,z,g}:=g;rw[Ó rfl];show ŉc t (zt (O m F σ1 x _ u g) λf P i=>?_);cases f with
  |next=>let{σ3,e,k,j}:=i;let{p,o,l}:=z σ3 e j;show{p,o,σ3,e,k,l}
  |žb=>let{σ3,e,k,j}:=i;let{p,o,l}:=z σ3 e j;show{p,o,σ3,e,k,l}
  |brk=>show i|ret v=>show i
 |Â=>rw[Ô ř];show Êf {σ1,x,u,g}
#print a
structure It where
 go:Ã->Hp->È
 uh:Ã->Hp->V->Hp->È
 Š:Ã->Hp->È
def jw(X:Cx)(a:Á ô)(H:Hp)(b:Ì):È:=
 H b=Æ/\b≠ϳ/\b ∉ Ũa/\îf/\(∀x c,ħa x=À c->c≠b)/\∀p∈Üc++a,p.1≠b
def zI.ZE{X:Cx}{d:Á ô}{σ:St}{H H':Hp}{s:Ï}{b:Ì}(I:zI X d σ H s)(a:Þ<=b)(g:H' b=Æ):jw X d H' b:=by show{g,ęb (ύ I.lt a),I.cE a,.inr (đ I.sz a),λx c e z=>?_,λp f z=>?_};let{v,q}:=ťa x c e;show ß (ύ q.lt ĳm) Ãa;show ß (ύ (Ĵ (ŧa p f).1) ĳm) Ãa
structure j_(P:ï)(w:è)(K:Ñ)(tg:Õ)(J:It)(fp:Á Ì)(it:Ì)(tn:Ã->Heap->È):È where
 mem:it∈fp
 obj:∀i h,tn i h->∀b∈fp,∃o,Ĺ b=À o/\∀v,ĸa≠.cell v
 Ča:∀i h h',tn i h->(∀b∈fp,∀o,Ĺ b=À o->ĩ b=À o)->tn i h'
 ϕa:∀(X:Cx),ú=P->X.w=w->X.K=K->Ϝ=Ä->∀(i:Ã)(z8:Á ô) (s:Ï) (σ:St) (H:Hp) (E:Value->Ï->È),zI X z8 σ H s->(∀b∈fp,jw X z8 H b)->tn i ä->J.go i H->
  Ý Ţb X.A çp (λr s1=>∃u,r=À u/\
   Ý Ţb X.A àn (λ_ s2=>∃x H',zI X z8 σ H' s2/\yF x u/\J.uh i H x H'/\tn ñ s2.heap/\∀b∈fp,H' b=Æ) E s1) E s
 done:∀(X:Cx),ú=P->X.w=w->X.K=K->Ϝ=Ä->∀(i:Ã)(z8:Á ô) (s:Ï) (σ:St) (H:Hp) (E:Value->Ï->È),zI X z8 σ H s->(∀b∈fp,jw X z8 H b)->tn i ä->įg i H->
  Ý Ţb X.A çp (λr s1=>r=Æ/\zI X z8 σ H s1) E s
 Ľb:∀(A:ā)(i:Ã)(s:Ï)(Q:Value->Ï->È)(E:Value->Ï->È),tn i ä->Q Ôb s->Ý Ţb A (Śe Ôb) Q E s
abbrev TI:=St->Hp->(It->Hp->È)->È
def EK(X:Cx)(c:Á ô)(σ:St)(tg:Õ)(R:It->Hp->È)(a:Value)(d:Ï):È:=
 ∃(it:Ì) (fp:Á Ì) (tn:Ã->Heap->È) (J:It) (H':Hp),a=.ref it/\zI X c σ H' d/\j_ ú X.w X.K tg J fp it tn/\tn 0 d.heap/\(∀b∈fp,jw X c H' b)/\R J H'
def PI(X:Cx)(tg a:Õ)(c:TI):È:=
 ∀(z8:Á ô) (s:Ï) (σ:St) (H:Hp) (R:It->Hp->È),zI X z8 σ H s->c σ H R->
  Ý Ą X.A ûo (λv b=>Ý Ą X.A (Śe v) (EK X z8 σ tg R) ı b) ı s
def Vk{M:Że}{A:ā}{E:Value→Ï→È}{s:Ï}{tg:Õ}{it:Ì}{u:Value}{o:Obj}{n:äa}{vs:Ü Value}{Q:Ŀa→Ï→È}(c:Ē it=À o)(b:ùb=.type n)(d:ĸa=.fields vs)(e:[Ϡb,Ļa,ſl,Ϭk,Ŀm,ól,ŗl].contains n=Â)(a:Q () s):Ý M A àn Q E s:=by
  unfold àf
  cases tg<;>first
    |show Ĥ a
    | (cases u<;>first
        |show Ĥ a
        | (show Ø (Ķo c ?_)
           rw[b,d];exact Ý M A (Λc ([Ϡb,Ļa,ſl,Ϭk,Ŀm,ól,ŗl].contains n&&vs[0]?==À (Ŋe _))) Q E s;rw[Ô (by intro h;rw[e,Ėb]at h;cases h)];show Ĥ a))
nonrec def ED(K:Ñ)(a:Ì):It:=
 {λi H=>∃xs x,yu K H a xs/\xs[i]?=À x,λi H x b=>b=H/\∀xs,yu K H a xs->xs[i]?=À x,λi H=>∃xs,yu K H a xs/\æ<=i}
nonrec def EF(K:Ñ)(a:Ì):It:=
 {λi H=>∃xs x,xK K H a xs/\xs[i]?=À x,λi H x b=>b=H/\∀xs,xK K H a xs->xs[i]?=À x,λi H=>∃xs,xK K H a xs/\æ<=i}
nonrec def II(lo:Å)(n:Ã):It:={λi _=>i<n,λi H x a=>a=H/\x=.int ϳa,λi _=>n<=i}
def w20{P:ï}{w:è}{K:Ñ}{tg:Õ}(a it:Ì):j_ P w K tg êj όb it (λi h=>Æi it a i) where
 mem:=by simp
 obj:=λi h st b f=>by
  let e:b=it:=by simpa using f
  rw[şp]
 Ča:=λi h l st k=>ųe λo e=>k it ê o e
 ϕa:=by
  rw[Óq];let{Z,x,j,G}:=L;let{C,t,p,hz}:=Ϟ j;let{u,R,Q}:=t.get G;let{J,F,S,B,n,A}:=m it ê;refine ċl st Çg (x:=u) óm λl g sb=>?_
  let U:zI X O σ H { s with ì:=l }:=Ĵa (t':=Ď) (λb o f e=>(sb.2 b f).trans e) J F B n A;let{o,e,c,d}:=id g;show{u,rfl,Vk (s:={ s with ì:=l }) e c d Í {x,H,U,Q,{rfl,λys Y=>by rw[I.MF Y j];show G},g,λb f=>(m b f).1}}
 done:=by rw[Óq];let{Z,j,G}:=L;let{C,t,p,hz}:=Ϟ j;let{J,F,S,B,n,A}:=m it ê;let hl:=ϫ;show īl (óa N) st Çg ϴm λl T=>{rfl,Ĵa (t':=Ď) (λb o f e=>T b o f e) J F B n A}
 Ľb:=λ_ _ _ _ _ st h=>wpAny_pyIter_listiter st h
def w23{P:ï}{w:è}{K:Ñ}{tg:Õ}(a it:Ì):j_ P w K tg éj όb it (λi h=>ğn it a i) where
 mem:=by simp
 obj:=λi h st b g=>by
  let e:b=it:=by simpa using g
  rw[şp]
 Ča:=λi h m st k=>ųe λo e=>k it ê o e
 ϕa:=by
  rw[Ôq];let{Z,x,l,G}:=L;let{f,y,p,hz}:=ϭ l;let{u,R,Q}:=y.get G;let{J,F,S,C,q,B}:=n it ê;refine wpAny_pyNext_tuple_item st (show óc a Ţi from p) (x:=u) óm λm j sb=>?_
  let U:zI X O σ H { s with ì:=m }:=Ĵa (t':=Ď) (λb o g e=>(sb.2 b g).trans e) J F C q B;rw[ÿq];show{u,rfl,Vk (s:={ s with ì:=m }) e c d Í {x,H,U,Q,{rfl,λys Y=>by rw[I.CS Y l];show G},j,λb g=>(n b g).1}}
 done:=by rw[Ôq];let{Z,l,G}:=L;let{f,y,p,hz}:=ϭ l;let{J,F,S,C,q,B}:=n it ê;let hl:=ôc;show wpAny_pyNext_tuple_end (óa N) st (show óc a Ţi from p) ϴm λm T=>{rfl,Ĵa (t':=Ď) (λb o g e=>T b o g e) J F C q B}
 Ľb:=λ_ _ _ _ _ st h=>wpAny_pyIter_tupleiter st h
def w21{P:ï}{w:è}{K:Ëi}{tg:Õ}(it:Ì)(lo:Å)(n:Ã):j_ P w K tg ĸp όb it (λi h=>âo h it (lo+(i:Ã)*1) ((n:Å)-(i:Ã)) 1) where
 mem:=by simp
 obj:=λi h st b a=>by
  let e:b=it:=by simpa using a
  subst e
  show{_,st,λv z=>by let L:Data.fields _=Data.cell v:=z;cases L}
 Ča:=λi h d st k=>k it ê _ st
 ϕa:=by
  rw[ϕp];let W:=Walks.range (Ī:=ú) (w:=X.w) (óa q) it lo 1 n;show Ŏj i s _ _ y st λv d B C c F=>?_
  let{t,rfl}:=C;let N:zI X A σ H { s with ì:=d,Ě:=B }:=Ĵa (λb o a e=>F b o ċh e) x u r g p;refine{_,rfl,Vk (s:={ s with ì:=d,Ě:=B }) (n := "range_iterator") c rfl rfl Í {.int ϳa,H,N,{t,?_},{rfl,rfl},c,λb a=>(f b a).1}};rw[ôe]
 done:=by rw[ϕp];show wpAny_pyNext_range_end (óa q) st (by let:n<=i:=y;omega) λd J=>{rfl,Ĵa (t':=Ď) (λb o a e=>J b o a e) x u r g p}
 Ľb:=λ_ _ _ _ _ st h=>wpAny_pyIter_rangeiter st h
section
variable{X:Cx}{tg:Õ}
def y1k(K:Ñ)(c:TE):TI:=λσ H R=>c σ H λx b=>∃a,x=.ref a/\(∃xs,yu K b a xs)/\R êj b
def y1o(K:Ñ)(c:TE):TI:=λσ H R=>c σ H λx b=>∃a,x=.ref a/\(∃xs,xK K b a xs)/\R éj b
def x1k{l:Õ}{g:TE}(t:PE X l g):PI X tg l (y1k X.K g):=by
 intro n s σ H R I h;show zt (t n s σ H _ I h) λv c f=>?_
 let{x,m,d,j,k}:=f;let{a,e,{y,i},q}:=k;subst e;cases j;let{r,w,p,z}:=d.list i;show èd Çg ?_;show{ōb,[ōb],_,_,m,rfl,ňj (t':=ĳb) λb o e=>Ĳ _ e,w20 a _,{_,ũ _ rfl,rfl,rfl},λb u=>?_,q};let e:b=ōb:=by simpa using u
 rw[ôq]
def x1o{l:Õ}{i:TE}(t:PE X l i):PI X tg l (y1o X.K i):=by
 intro r s σ H R I h;show zt (t r s σ H _ I h) λv c g=>?_
 let{x,n,d,k,m}:=g;let{a,e,{y,j},q}:=m;subst e;cases k;let{f,w,p,z}:=d.tuple j;show Æh (show c.heap.IsTuple a Ţi from p) ?_;show{ōb,[ōb],_,_,n,rfl,ňj (t':=ĳb) λb o e=>Ĳ _ e,w23 a _,{_,ũ _ rfl,rfl,rfl},λb u=>?_,q};let e:b=ōb:=by simpa using u
 rw[ôq]
def sT{c:Á ô}{σ:St}{H:Hp}{s:Ï}{R:It->Hp->È}{E:Value->Ï->È}{lo hi:Å}{t u v:Tok}{tk:Ã}(I:zI X c σ H s)(i : -Ŀe<=lo)(h:lo<2 ^ 62)(f : -Ŀe<=hi)(g:hi<2 ^ 62)(q:R (II lo (Ęg).toNat) H):Ý Ą X.A (Śe ġb) (EK X c σ tg R) E { s with ì:=ûa { cls:=.type Śa,ċ:=.fields #[.int lo t,.int hi u,.int 1 v] },Ě:=tk }:=by
 show wpAny_pyIter_range (IsRange.new ..) (small_one i h f g) ?_;let a:zI X c σ H { s with ì:=ûa { cls:=.type Śa,ċ:=.fields #[.int lo t,.int hi u,.int 1 v] },Ě:=tk }:=ŧd λb o e=>Ĳ _ e
 refine⟨(ťg).objs.size,[(ťg).objs.size],_,_,H,rfl,
  a.kept (t':=tk) λb o e=>Ĳ _ e,w21 _ lo (Ęg).toNat,?_,λb d=>?_,q⟩
 let e1:lo+((0:Ã):Å)*1=lo:=by simp
 let e2:(((Ęg).toNat:Ã):Å)-((0:Ã):Å)=Builtin.Range.rangeSize lo hi 1:=by rw[rangeSize_one];rw[Ϩp]
 exact âo _ _ (lo+((0:Ã):Å)*1) ((((Ęg).toNat:Ã):Å)-((0:Ã):Å)) 1;rw[e1,e2];show ũ _ rfl;let e:b=(ťg).objs.size:=by simpa using d
 subst e;show a.ZE Đ (a.zi.fresh Đ)
def y1l(a:TA):TI:=λσ H R=>a σ H λc b=>∃j:Å,c=[.int j] /\ -Ŀe<=j/\j<2 ^ 62/\R (II 0 Ϛc) b
def y1m(a:TA):TI:=λσ H R=>a σ H λc b=>∃i j:Å,c=[.int i,.int j]/\(-Ŀe<=i/\i<2 ^ 62 /\ -Ŀe<=j/\j<2 ^ 62)/\R (II i (ŷd).toNat) b
def x1l{a:Õ}{d:TA}{p pos:Pos}(n:Gl X Śa)(i:õ Śa=Æ)(m:PA X [a] d)(o:Î Ϝg q12):PI X tg Ϙl (y1l d):=by
 intro g s σ H R I h;show Śg (WC I n i Ńo (Ϗd (zt Ĉk λw v c=>?_) o rfl));let{x,u,l,f,b}:=c;let{j,e,b,k,q}:=b;subst e;cases f with
 |ó r rr=>cases rr;let{t,rfl}:=r;show call_range_1 (sT l É É b k (by simpa using q))
def x1m{a b:Õ}{g:TA}{p pos:Pos}(x:Gl X Śa)(n:õ Śa=Æ)(v:PA X że g)(m:Î Ùk q12)(c:Î śk q12) :PI X tg Ňk (y1m g):=by
 intro l s σ H R I h;show Śg (WC I x n Ńo (Ϗd (zt (v pos l s σ H _ I h) λB A f=>?_) (by rw[m,c]) Ćn));let{C,z,u,k,d}:=f;let{i,j,e,{d,o,y,w},q}:=d;subst e;cases k with
 |ó r rr=>
  cases rr with
  |ó r' rr=>cases rr;let{t,rfl}:=r;let{E,rfl}:=r';show call_range_2 (sT u d o y w q)
nonrec def x7n(c:TI)(g:TG)(tb:TS):TS:=λD σ H=>c σ H λJ b=>∃W:Ã->Ã->St->Hp->È,(∃m,W 0 m σ b)/\∀i m σ H,W i m σ H->
 (įg i H/\ϖa σ H)\/(J.go i H/\∃N:St->Hp->È,(∀σ' H',N σ' H'->∃m',m'<m/\W ñ m' σ' H')/\∀x H',J.uh i H x H'->g x σ H' λσ2 a=>tb { D with nx:=N,ct:=N,bk:=ϖa } σ2 a)
nonrec def On(a:Á Ì)(h:Heap):Á ô:=a.filterMap λb=>(Ĺ b).map λo=>(b,o)
def D5{a:Á Ì}{h:Heap}{b:Ì}{o:Obj}(c:b∈a)(e:Ĺ b=À o):(b,o)∈On a h:=List.mem_filterMap.mpr {b,c,by rw[e];rfl}
def y6q{a:Á Ì}{h:Heap}{p:Ì×Obj}(f:p∈On a h):p.1∈a/\Ĺ p.1=À p.2:=by
 let{b,d,e}:=List.mem_filterMap.mp f;cases q:Ĺ b with
 |Æ=>rw[q]at e;cases e|À o=>rw[q]at e;let c:(b,o)=p:=Ĭa e;subst c;show{d,q}
def zI.pinned{a:Á ô}{σ:St}{H:Hp}{s:Ï}{c:Á Ì}(I:zI X a σ H s)(m:∀b∈c,jw X a H b)(l:∀b∈c,∃o,Ē b=À o/\∀v,ĸa≠.cell v):zI X (a++On c ä) σ H s:=
 I.JV λp h=>(ϗ h).elim (λz=>ŧa p (ĥa _ z)) λz=>by let{f,e}:=y6q z;let{i,j,k,_}:=m p.1 f;let{o,g,d}:=l p.1 f;rw[e]at g;cases g;show{e,i,j,k,d}
def zI.CT{a pl:Á ô}{σ:St}{H:Hp}{s:Ï}(I:zI X (a++pl) σ H s):zI X a σ H s:=I.JV λp b=>ŧa p (ĥa _ (ņb _ b))
def Pd{q:Õ}{y:Á Ú}{wi:TI}{g:TG}{tb:TS}{pos:Pos}(K:įd Ą X.A Ù ı)(hc:Ϝ=Ä)(hi:PI X tg q wi)(hg:PG X tg g)(l:tV X y tb)(hs:Î (∀x,Ŋb q Ù x=pure x) q11):PS X (.For tg q y [] pos) (x7n wi g tb):=by
 intro B s σ H D I h;show wpAny_For (zt (hi B s σ H _ I h) λv s1 h1=>zt h1 λitv s2 h2=>?_) hs;let{it,P,tn,J,H2,e,I2,T,R,f2,W,{m0,w0},E}:=h2;subst e;let c:∀{H':Hp},(∀b∈P,H' b=Æ)->∀b∈P,jw X B H' b:=λhn b l=>{hn b l,(f2 b l).2}
 show codeAny_forLoop_any (λn s'=>∃i σ' H',zI X B σ' H' s'/\tn i Ϭc/\(∀b∈P,H' b=Æ)/\W i n σ' H') ?_ m0 {0,σ,H2,I2,R,λb l=>(f2 b l).1,w0};rintro n s3 ⟨i,σ3,Q,I3,G,C,w3⟩;rcases E i n σ3 Q w3 with⟨F,qn⟩|⟨go,N,hN,O⟩;show ŉc K (Ζf (T.done X rfl rfl rfl hc i B s3 σ3 Q ı I3 (c C) G F));let{Y,I4}:=a;subst Y;show Êf {σ3,Q,I4,qn}
 .show ŉc K (Ζf (T.item X rfl rfl rfl hc i B s3 σ3 Q ı I3 (c C) G go));let{u,Y,h4}:=a;subst Y;show ŉc K (zt h4 λ_ s5 a=>?_);let{x,H5,I5,r5,y5,z,S}:=a;let U:=I5.pinned (c S) (ŵe _ _ z);show ŉc K (zt (hg _ s5 σ3 H5 x u _ U r5 (O x H5 y5)) λ_ s6 a=>?_);let{σ6,H6,I6,q6}:=a;show ŉc K (zt (l _ s6 σ6 H6 _ I6 q6) λf Z t=>?_)
  let k:∀{σ7:St}{p:Hp},zI X (B++On P s5.heap) σ7 p Z->N σ7 p->∃m,m<n/\∃i σ' H',zI X B σ' H' Z/\tn i Z.heap/\(∀b∈P,H' b=Æ)/\W i m σ' H':=λ{σ7 p} j L=>by let{m',hm,w7}:=hN σ7 p L;show{m',hm,i+1,σ7,p,j.CT,Ţe _ _ _ z λb l o e=>Ĥk.1,λb l=>?_,w7};let{o,e,d}:=ŵe _ _ z b l;show Ĥk.2.1
  cases f with
  |next=>let{σ7,p,j,L}:=t;show k j L
  |žb=>let{σ7,p,j,L}:=t;show k j L
  |brk=>let{σ7,p,j,t}:=t;show{σ7,p,j.CT,t}
  |ret v=>let{x7,σ7,p,j,r7,t}:=t;show{x7,σ7,p,j.CT,r7,t}
#print a
abbrev R2:=V->V->Hp->VK->È
def xF(X:Cx)(f:Value->Value->Sem Value)(r:R2):È:=
 ∀(z8:Á ô) (s:Ï) (σ:St) (H:Hp) (x y:V) (v u:Value) (Q:VK),zI X z8 σ H s->yF x v->yF y u->r x y H Q->
  Ý Ą X.A įj ŕb ı s
def IS(X:Cx)(f:Value->Sem Value)(r:V->Hp->VK->È):È:=
 ∀(z8:Á ô) (s:Ï) (σ:St) (H:Hp) (x:V) (v:Value) (Q:VK),zI X z8 σ H s->yF x v->r x H Q->
  Ý Ą X.A (f v) ŕb ı s
def vV(X:Cx)(f:Value)(r:Á V->Hp->VK->È):È:=
 ∀(z8:Á ô) (s:Ï) (σ:St) (H:Hp) (xs:Á V) (us:Á Value) (Q:VK),zI X z8 σ H s->zx xs us->r xs H Q->
  Ý Ą X.A (Áb f us) ŕb ı s
nonrec def LN(r:R2)(a tb:TE):TE:=λσ H Q=>a σ H λx b=>tb σ b λy c=>r x y c Q
nonrec def x8a(r:V->Hp->VK->È)(a:TE):TE:=λσ H Q=>a σ H λx b=>r x b Q
nonrec def rI(C:Å->Å->È)(g:Å->Å->V):R2:=λx y H Q=>∃i j,x=.int i/\y=.int j/\C i j/\Q ϣa H
nonrec def pH(g:Å->Å->V):R2:=λx y H Q=>∃i j,x=.int i/\y=.int j/\Q ϣa H
def rU(g:Å->V):V->Hp->VK->È:=λx H Q=>∃i,x=.int i/\Q (g i) H
section
variable{X:Cx}{a b c:Õ}{ta tb:TE}{pos:Pos}
def Gy(m:PE X a ta)(n:PE X b tb){d:Á ô}{s:Ï}{σ:St}{H:Hp}{R:V->V->Hp->È}(I:zI X d σ H s)(h:ta σ H λx H1=>tb σ H1 λy H2=>R x y H2){Q:Value->Ï->È}{f:Value->Value->Sem Value}(k:∀v u s2 x y H2,zI X d σ H2 s2->yF x v->yF y u->R x y H2->Ý Ą X.A įj Q ı s2) :Ý Ą X.A ûo (λv s₁=>Ý Ą X.A (Ė b Ù) (λu s₂=>Ý Ą X.A įj Q ı s₂) ı s₁) ı s:=by
 show zt (m d s σ H _ I h) λv g c=>?_
 let{x,H1,l,e,p}:=c;show zt (n d g σ H1 _ l p) λu s2 c=>?_
 let{y,H2,o,i,j}:=c;show k v u s2 x y H2 o e i j
def ox{c:Ĳe}{r:R2}(f:xF X (ϟa c) r)(j:PE X a ta)(l:PE X b tb):PE X (.BinOp a c b pos) Ŋf:=by rw[ϭp];show wpAny_BinOp (Gy j l I h λv u k x y e m i g q=>f d k σ e x y v u Q m i g q)
def x17{d:UnaryOp}{r:V->Hp->VK->È}(l:IS X (ôg d) r)(i:PE X a ta):PE X (.UnaryOp d a pos) (x8a r ta):=by rw[àq];show UnaryOp_ (zt (i c s σ H _ I h) λv k b=>?_);let{x,j,f,e,g}:=b;show l c k σ j x v Q f e g
def QQ{f:Value->Value->Sem Value}{C:Å->Å->È}{g:Å->Å->Å}(a:∀(i j:Å)(t u:Tok)(s:Ï)(Q:Value->Ï->È)(E:Value->Ï->È),C i j->Q čn { s with Ě:=Ď+1 }->Ý Ą X.A Äh Q E s) :xF X f Ġl:=by intro k s σ H x y v u Q I d c h;let{i,j,rfl,rfl,b,q}:=h;rw[îq];let{e,rfl}:=c;show a i j t e s _ _ b {.int ϣa,H,ϟ _,{_,rfl},q}
def Oi{f:Value->Value->Sem Value}{g:Å->Å->Å}(a:∀(i j:Å)(t u:Tok)(s:Ï)(Q:Value->Ï->È)(E:Value->Ï->È),Q čn { s with Ě:=Ď+1 }->Ý Ą X.A Äh Q E s) :xF X f õp:=by rw[ϋp];show a i j t d s _ _ {.int ϣa,H,ϟ _,{_,rfl},q}
def DF{f:Value->Value->Sem Value}{g:Å->Å->Ð}(a:∀(i j:Å)(t u:Tok)(s:Ï)(Q:Value->Ï->È)(E:Value->Ï->È),Q (.bool ϣa) s->Ý Ą X.A Äh Q E s) :xF X f ϭl:=by rw[ϋp];show a i j t d s _ _ {.bl ϣa,H,I,rfl,q}
def CU(i j:Å):È:=0<=j/\j<=1000000/\ϵb<2 ^ 64
def JY(i j:Å):È:=(-ág<i/\i<2 ^ 64)\/(-ág<j/\j<2 ^ 64)
def JY.ok{i j:Å}(h:JY i j):IntMulOk i j:=by rcases h with⟨a,b⟩|⟨a,b⟩;show .of_left Ϯl;show .of_right Ϯl
def w33(k:Ã):(0:Å)<=2 ^ k:=by rw[two_pow_cast];show ĺc _
def y9u:xF X Ħd (Ρa (i+j)):=Oi λ_ _ _ _ _ _ _ q=>Ϸ q
def Zj:xF X (ϟa .Sub) øo:=Oi λ_ _ _ _ _ _ _ q=>sub_int q
def U1:xF X Āi Âh:=QQ λ_ _ _ _ _ _ _ a q=>mul_int q a.ok
def xT:xF X (ϟa .Mod) Úl:=QQ λi j _ _ _ _ _ a q=>by let b:(0:Å)<j:=a;show mod_int' É (by rw[Int.fmod_eq_emod_of_nonneg i É];show q)
def Yu:xF X (ϟa .LShift) şk:=QQ λ_ _ _ _ _ _ _ a q=>lshift_int_small a.1 a.2.1 a.2.2 q
def oR:xF X (ϟa .RShift) Śk:=QQ λi j _ _ _ _ _ a q=>
 rshift_int a (by rw[ϭk i (w33 _)];show q)
def PM:xF X (ϟa .BitAnd) (Ρa (Ōb i j)):=Oi λ_ _ _ _ _ _ _ q=>and_int q
def oQ:xF X (ϟa .BitOr) (Ρa (Űc i j)):=Oi λ_ _ _ _ _ _ _ q=>or_int q
def x0b:xF X (ϟa .BitXor) (Ρa (ũh i j)):=Oi λ_ _ _ _ _ _ _ q=>xor_int q
def z28{f:Value->Sem Value}{g:Å->Å}(a:∀(i:Å)(t:Tok)(s:Ï)(Q:Value->Ï->È)(E:Value->Ï->È),Q (.int (g i) Ď) { s with Ě:=Ď+1 }->Ý Ą X.A (f Ϗf) Q E s) :IS X f (ηc (g i)):=by intro c s σ H x v Q I b h;let{i,rfl,q}:=h;let{t,rfl}:=b;show a i t s _ _ {.int (g i),H,ϟ _,{_,rfl},q}
def Qq:IS X (ôg .USub) (ηc (-i)):=z28 λ_ _ _ _ _ q=>neg_int q
def w3g:IS X (ôg .Invert) (ηc Ęj):=z28 λ_ _ _ _ _ q=>invert_int q
def y9v:xF X Ħd (λx y H Q=>∃i k,x=.int i/\y=.bl k/\Q Ϛm H):=by intro c s σ H x y v u Q I b a h;let{i,k,rfl,rfl,q}:=h;let{t,rfl}:=b;cases a;show add_int_bool {.int (i+b2i k),H,ϟ _,{_,rfl},q}
#print a
nonrec def AI:V->V->Ð
 |.zD,.zD=>Ä|.zD,.int _=>Ä|.int _,.zD=>Ä|.zD,.bl _=>Ä|.bl _,.zD=>Ä|.zD,.str _=>Ä|.str _,.zD=>Ä|.int _,.int _=>Ä|.bl _,.bl _=>Ä|.str _,.str _=>Ä|.byt _,.byt _=>Ä|.int _,.str _=>Ä|.str _,.int _=>Ä|.bl _,.str _=>Ä|.str _,.bl _=>Ä|_,_=>Â
def x35:R2:=λx y H Q=>AI x y=Ä/\Q (Ηa (x=y)) H
def x3a:R2:=λx y H Q=>AI x y=Ä/\Q (.bl (!decide (x=y))) H
def HJ{i j:Å}:decide (Íd i=Íd j)=ŗd:=by rw[ţc];simp
def HI{i j:Ð}:decide (V.bl i=V.bl j)=ŗd:=by rw[ţc];simp
def HK{i j:Ç}:decide (Żb i=Żb j)=ŗd:=by rw[ţc];simp
def il{i j:Ü UInt8}:decide (V.byt i=V.byt j)=(i.toList==j.toList):=by rw[ţc];cases i;cases j;simp
section
variable{X:Cx}{a b c:Õ}{ta tb:TE}{pos:Pos}
def wl{a:Á ô}{σ:St}{H:Hp}{s:Ï}{Q:VK}{k k':Ð}(I:zI X a σ H s)(q:Q şd H)(e:k=k'):EP X a σ Q (.bool k') s:=by subst e;show{.bl k,H,I,rfl,q}
def y9z:xF X Ąp x35:=by
 rw[èq];cases x with
 |zD=>
  cases d;cases y with
  |zD=>cases a;show PySem.EqNone.eq_none_none Åa|bl j=>cases a;show PySem.EqNone.eq_none_bool Åa|int j=>let{b,rfl}:=a;show PySem.EqNone.eq_none_int Åa
  |str j=>let{b,rfl}:=a;show PySem.EqNone.eq_none_str Åa
  |_=>show ß (show Â=Ä from c) ř
 |bl i=>
  cases d;cases y with
  |zD=>cases a;show PySem.EqNone.eq_bool_none Åa|bl j=>cases a;show eq_bool (wl I q HI)|str j=>let{b,rfl}:=a;show PySem.EqMixed.eq_bool_str Åa
  |_=>show ß (show Â=Ä from c) ř
 |int i=>
  rw[îq];cases y with
  |zD=>cases a;show PySem.EqNone.eq_int_none Åa|int j=>let{b,rfl}:=a;show ħc (wl I q HJ)
  |str j=>let{b,rfl}:=a;show PySem.EqMixed.eq_int_str Åa
  |_=>show ß (show Â=Ä from c) ř
 |str i=>
  rw[îq];cases y with
  |zD=>cases a;show PySem.EqNone.eq_str_none Åa|bl j=>cases a;show PySem.EqMixed.eq_str_bool Åa|int j=>let{b,rfl}:=a;show PySem.EqMixed.eq_str_int Åa
  |str j=>let{b,rfl}:=a;show eq_str (wl I q HK)
  |_=>show ß (show Â=Ä from c) ř
 |byt i=>
  rw[îq];cases y with
  |byt j=>let{b,rfl}:=a;show W.eq_bytes (wl I q il)
  |_=>show ß (show Â=Ä from c) ř
 |_=>cases y<;>show ß (show Â=Ä from c) ř
def x06:xF X Ÿn x3a:=by
 rw[èq];cases x with
 |zD=>
  cases d;cases y with
  |zD=>cases a;show PySem.EqNone.ne_none_none Åa|bl j=>cases a;show PySem.EqNone.ne_none_bool Åa|int j=>let{b,rfl}:=a;show PySem.EqNone.ne_none_int Åa
  |str j=>let{b,rfl}:=a;show PySem.EqNone.ne_none_str Åa
  |_=>show ß (show Â=Ä from c) ř
 |bl i=>
  cases d;cases y with
  |zD=>cases a;show PySem.EqNone.ne_bool_none Åa|bl j=>cases a;show ne_bool (wl I q (ŋ not HI))|str j=>let{b,rfl}:=a;show PySem.EqMixed.ne_bool_str Åa
  |_=>show ß (show Â=Ä from c) ř
 |int i=>
  rw[îq];cases y with
  |zD=>cases a;show PySem.EqNone.ne_int_none Åa|int j=>let{b,rfl}:=a;show ne_int (wl I q (ŋ not HJ))
  |str j=>let{b,rfl}:=a;show PySem.EqMixed.ne_int_str Åa
  |_=>show ß (show Â=Ä from c) ř
 |str i=>
  rw[îq];cases y with
  |zD=>cases a;show PySem.EqNone.ne_str_none Åa|bl j=>cases a;show PySem.EqMixed.ne_str_bool Åa|int j=>let{b,rfl}:=a;show PySem.EqMixed.ne_str_int Åa
  |str j=>let{b,rfl}:=a;show ne_str (wl I q (ŋ not HK))
  |_=>show ß (show Â=Ä from c) ř
 |byt i=>
  rw[îq];cases y with
  |byt j=>let{b,rfl}:=a;show W.ne_bytes (wl I q (ŋ not il))
  |_=>show ß (show Â=Ä from c) ř
 |_=>cases y<;>show ß (show Â=Ä from c) ř
def Yt:xF X (Ĕa .Lt) (Ρb (i<j)):=DF λ_ _ _ _ _ _ _ q=>lt_int q
def DG:xF X (Ĕa .LtE) (Ρb (i<=j)):=DF λ_ _ _ _ _ _ _ q=>le_int q
def oP:xF X (Ĕa .Gt) (Ρb (j<i)):=DF λ_ _ _ _ _ _ _ q=>gt_int q
def Oj:xF X (Ĕa .GtE) (Ρb (j<=i)):=DF λ_ _ _ _ _ _ _ q=>ge_int q
def x04:xF X ϒc (Τd Ϝk):=by rw[όp];show in_str (wl I q rfl)
def WJ:xF X (Ĕa .Is) Ϛl:=by
 rw[ϲp];let{rfl,q}:=h;cases b;show is_none_gen Ĕo
 cases x<;>first
  |(cases a;rfl)
  |(let{t,rfl}:=a;rfl)
def QR:xF X (Ĕa .IsNot) Ŷk:=by
 rw[ϲp];let{rfl,q}:=h;cases b;show isnot_none_gen Ĕo
 cases x<;>first
  |(cases a;rfl)
  |(let{t,rfl}:=a;rfl)
def xF.or{f:Value->Value->Sem Value}{r a:R2}(h:xF X f r)(h':xF X f a):xF X f (λx y H Q=>r x y H Q\/a x y H Q):=by intro d s σ H x y v u Q I c b q;rcases q with q|q;show h d s σ H x y v u Q I c b q;show h' d s σ H x y v u Q I c b q
def zp(b:Õ){a:řg}(h:Î (a≠.In) q10)(c:Î (a≠.NotIn) q10):ϟb a b=Â:=by
 let e1:(a==CmpOp.In)=Â:=by cases a<;>first|rfl|show ß rfl h
 let e2:(a==CmpOp.NotIn)=Â:=by cases a<;>first|rfl|show ß rfl c
 cases b<;>simp[ϟb,e1,e2]
theorem x0q{c:řg}{r:R2}(g:xF X (Ĕa c) r)(k:PE X a ta)(m:PE X b tb)(e:ϟb c b=Â):PE X (.Compare a [c] [b] pos) Ŋf:=by rw[ϭp];show wpAny_Compare1 (Gy k m I h λv u l x y f n j i q=>g d l σ f x y v u Q n j i q) e
nonrec def x88(t:TE):TT:=λσ H Q=>t σ H λx a=>∃k,x=.bl k/\Q k a
def DN{d:řg}{r:R2}(G:xF X (Ĕa d) r)(t:PE X a ta)(K:PE X b tb)(E:ϟb d b=Â):PT X (.Compare a [d] [b] pos) (x88 Ŋf):=by
 rw[Žp];show wpAny_isTrue_Compare1 (zt (t g s σ H _ I h) λv n j=>?_) E;let{x,m,J,l,N}:=j;show zt (K g n σ m _ J N) λu w i=>?_
 let{y,F,A,C,o}:=i;show zt (G g w σ F x y v u _ A l C o) λc O f=>?_
 let{z,q,B,p,k,e,L}:=f;subst e;cases p;show çd {q,B,L}
def Vu:(â:Ã)<2 ^ 63:=by rw[Ŧ];decide
def y9w:xF X Ħd (λx y H Q=>∃i j,x=.str i/\y=.str j/\åb+Œa<=â/\Q Śn H):=by intro e s σ H x y v u Q I b a h;let{i,j,rfl,rfl,d,q}:=h;let{t,rfl}:=b;let{c,rfl}:=a;show Ϯc (λc f=>{.str (i++j),H,ϟ _,{_,rfl},q}) d
def uD{x:V}{us:Á Value}(r:zx [x] us):∃u,us=[u]/\yF x u:=by
 cases r with
 |ó r1 r2=>cases r2;show{_,rfl,r1}
def aG{x y:V}{us:Á Value}(r:zx Ĵc us):∃u w',us=[u,w']/\yF x u/\yF y w':=by
 cases r with
 |ó r1 r2=>
  cases r2 with
  |ó r3 r4=>cases r4;show{_,_,rfl,r1,r3}
def z6j:vV X ňa (λxs H Q=>∃i,xs=[.int i]/\Ąd<1920/\Q Čn H):=by intro c s σ H xs b Q I r h;let{i,rfl,a,q}:=h;rw[Åq];show PySem.P.str_of_int a {.str _,H,ϟ _,{_,rfl},q}
#print a
structure VO(h:Heap)(x dx C:Ì)(mA:Ç->Ê Value):È where
 obj:Ĺ x=À őo
 ns:ŉg dx mA
 ne:dx≠x
def y3e{h:Heap}{d:Ì}{f:Ç->Ê Value}(n:ŉg d f):∃od,Ĺ d=À od/\∀Ņ,Îg Ņ od=À (f Ņ):=by
 let{o,c,p,k,g,j,_,i}:=n;show{o,k,λname=>?_};let e:=i Ņ;unfold nsFind findBy at e;rw[<-Array.find?_toList]at e;unfold Îg;rw[g];dsimp only
 split;rename_i y q;rw[q]at e;show ŋ À e;rename_i q;rw[q]at e
 let a:ťn (·.refKey)=Â:=by rw[ēm];intro y l;let{z,t,b}:=j y (Array.mem_toList_iff.mp l);simp[DictEntry.refKey,b]
 let m:¬ ťn (·.refKey)=Ä:=by rw[a];show ř
 rw[Ô m];show ŋ À e
def VO.look{h:Heap}{x b C:Ì}{a:Ç->Ê Value}(I:VO h x b C a):∃od,W.InstAt h x (ñf C b) C (À od)/\∀Ņ,Îg Ņ od=À (a Ņ):=
 let ⟨od,ho,hl⟩:=y3e I.ns
 {od,{I.obj,rfl,rfl,ho},hl}
section
variable{Ī:ï}{w:è}{A:ā}{E:Value->Ï->È}{s:Ï}{K:Ñ}{x dx C f:Ì}{mA:Ç->Ê Value}{Ņ:Ç}{v:Value}
def z8t{a:Ð}{Q:Value->Ï->È}(X:ţ ä)(I:VO ä x dx C mA)(e:ăe K C Ņ=Ä)(d:Ŏf K C=Ä)(c:ŕa K ŝ Ņ=À Æ)(hv:mA Ņ=À v)(b:ņo v=Ä)(h:Q v { s with Ě:=Ď+1 }) :Ý ð A (Āj Ŋd Ņ a) Q E s:=by let{g,J,f}:=Ŕj;show W.get_value X J (ϙh e).1 (W.findObj_own d c rfl (by rw[f,hv])) b h
def z8u{pl:Sem Ð}{Q:Value×Á Value->Ï->È}(X:ţ ä)(I:VO ä x dx C mA)(a:ăe K C Ņ=Ä)(e:ŕa K ŝ Ņ=À áb)(c:še K Ń=Ä)(hv:mA Ņ=Æ)(h:Q (.ref f,[.ref x]) s) :Ý ð A (Ép Ŋd Ņ pl) Q E s:=by let{b,J,d}:=Ŕj;show W.method_fn X J (ϙh a).1 (ϙh a).2 e (īf c) (by exact(Îg Ņ b).map (·.isSome)=À Â;rw[d,hv];rfl) h
def x65{ns:Á Ç}{Q:Ŀa->Ï->È}(X:ţ ä)(I:VO ä x dx C mA)(t:ŕa K ŝ ϐh=À όg)(m:õi K C=Ä)(l:Ūi K C Ņ=À Æ)(q:Ŏf K C=Ä)(k:Êi mA ns)(hsz:ŵ<=â)(h:∀h',VO h' x dx C (λy=>if y=Ņ then À v else mA y)->Ĝb dx ä h'->Q () { s with ì:=h',Ě:=Ď+2 }) :Ý ð A (setAttr Ŋd Ņ v) Q E s:=by
 let{F,J,u}:=Ŕj;show W.set_plain X J t (W.osa_open (s:={ s with Ě:=Ď+1 }) (r:=Æ) X J m l λb=>?_);let{z,j,g}:=W.any_some q;let o:Ē x=À {.ref C,À dx,.plain,#[]}:=I.obj;show Ø (Φa (Ø (wpAny_loadPart o (Ø (W.Looks.here (s:={ s with Ě:=Ď+1 }) (W.looks_clsIn X j) ?_)))));rw[g];show Ĥ (a:=À dx) (Ø ůh);show wpAny_nsSet1 (s:={ s with Ě:=Ď+1 }) I.ns λh' c d=>?_
 let{B,n,p,i,f,e}:=c.count (PySem.Within.cons Ņ v k);refine Ø (wpAny_lookBehind i (by rw[f];show pastItsLine_dict (đ e (by rw[ą];omega))) ?_);show Ĥ (h _ {(d.2 _ (Įb I.ne)).trans I.obj,c,I.ne} d)
def y3o{R:Ád->Ï->È}{vs:Á Value}{b:Á Śb}(X:ţ ä)(c:Ϟf K C=Ä)(hi:ŕa K ŝ Ϡa=À áb)(e:W.typeIn K Ń=À (.type "function"))(h:ëb ð (A.under (.builtin űm {.ref C::vs,b})) (.call Ń {.ref Ġa::vs,b}) (W.InitBack Ġa R)
   { s with ì:=(ýd).push őf }) :
  ëb ð A (.call ŝ {vs,b}) R s:=by
 let{j,g,d,t,i}:=s;show W.make_core (W.makes_of X c) (W.looks_findIn X hi) (λa=>W.bind_fn X a e) ĭ h
#print a
nonrec def ľb(f:Ç)(v:V):Á Űb->Á Űb
 | []=>[(f,v)]|(g,x)::r=>if g=f then(g,v)::r else(g,x)::ľb f v r
theorem nP(f g:Ç)(v:V):∀fs:Á Űb,(Ĳf).lookup g=if g=f then À v else Āc g
 | []=>by exact Żc g [(f,v)]=_;by_cases h:g=f;let a:(g==f)=Ä:=ŧc h;simp only[Żc,a,Ó h];let a:(g==f)=Â:=Ϗb h;simp only[Żc,a,Ô h]|(k,x)::r=>by let b:=nP f g v r;rw[show ľb f v ōi=żg from rfl];by_cases hk:k=f;rw[Ó hk];by_cases h:g=k;let a:Ļg=Ä:=ŧc h;simp only[Żc,a,Ó (ùg hk)];let a:Ļg=Â:=Ϗb h;simp only[Żc,a,Ô (λe:g=f=>h (İb hk.symm))];rw[Ô hk];by_cases h:g=k;let a:Ļg=Ä:=ŧc h;simp only[Żc,a,Ô (λe:g=f=>hk (h.symm.trans e))];let a:Ļg=Â:=Ϗb h;simp only[Żc,a];show b
theorem NZ(f:Ç)(v:V):∀fs:Á Űb,f∈(Ĳf).map (·.1)/\∀g,g∈Ŵb (·.1)->g∈(Ĳf).map (·.1)
 | []=>{by simp[ľb],λg h=>by simp at h}|(k,x)::r=>by let{a,b}:=NZ f v r;rw[show ľb f v ōi=żg from rfl];by_cases hk:k=f;rw[Ó hk];subst hk;show{by simp,λg h=>by rw[ĺq]};rw[Ô hk];show{?_,λg h=>?_};rw[ġ];show æa _ a;rw[ġ]at h ⊢;rcases ň h with e|e;show List.mem_cons.mpr òj;show æa _ (b g e)
theorem nN(f:Ç)(v:V):∀fs:Á Űb,(Ĳf).length<=Ĳa+1
 | []=>by simp[ľb]|(k,x)::r=>by let a:=nN f v r;rw[show ľb f v ōi=żg from rfl];by_cases hk:k=f;rw[Ó hk,ą,ą];omega;rw[Ô hk,ą,ą];omega
def āe{v:V}{o:Ê Value}(r:tF Êa o):∃u,o=À u/\yF v u:=by
 cases o with
 |Æ=>show(show ÿ from r).elim|À u=>show{u,rfl,r}
def Ĺo{o:Ê Value}(r:tF Æ o):o=Æ:=by
 cases o with
 |Æ=>rfl|À u=>show(show ÿ from r).elim
def y19{v:V}{u:Value}(r:yF v u):ņo u=Ä:=by
 cases v with
 |zD=>cases(show u=ĉd from r);rfl|bl b=>cases(show u=űf b from r);rfl|int i=>let{t,e}:=(show ∃t,u=ώc i t from r);cases e;rfl
 |str x=>let{t,e}:=(show ∃t,u=ŏa x t from r);cases e;rfl
 |byt b=>let{t,e}:=(show ∃t,u=Ùo b t from r);cases e;rfl
 |V6 b=>let{t,e}:=(show ∃t,u=ùi b t from r);cases e;rfl
 |ref a=>cases(show u=ė a from r);rfl|ty n=>cases(show u=Īi n from r);rfl
section
variable{P:ï}{w:è}{H:Hp}{h:Heap}{a C dx:Ì}{fs:Á Űb}
def Bf(g:wR P w H h)(e:H a=À ėb):∃mA,VO h a dx C mA/\(∀f,tF đj ŧj)/\Êi mA (Ŵb (·.1))/\Ĳa<=1000/\H dx=À ŀe:=by let{d,z,c,b,mA,n,r,q}:=(show xc P w H h a ėb from g a _ e);show{mA,{b,n,c},r,q,z,d}
#print a
structure qW(K:Ñ)(C:Ì):È where
 pg:ăe K C Ůi=Ä
 hd:Ŏf K C=Ä
 po:õi K C=Ä
 sa:ŕa K ŝ ϐh=À όg
def qW.get{K:Ñ}{C:Ì}(c:qW K C)(f:Ç):ăe K C f=Ä:=c.pg
def Xn(K:Ñ)(C:Ì)(f:Ç):È:=ŕa K ŝ f=À Æ
def Xn.z4p{K:Ñ}{C:Ì}{f:Ç}(n:Xn K C f):Ūi K C f=À Æ:=by unfold Ūi;rw[show ŕa K ŝ f=À Æ from n];rfl
structure EJ(K:Ñ)(C:Ì)(m:Ç)(f:Ì):È where
 at_:ŕa K ŝ m=À áb
 fn:še K Ń=Ä
 kp:ïa K Ń=Ä
section
variable{X:Cx}{z8:Á ô}{σ:St}{H:Hp}{s:Ï}{a C dx:Ì}{fs:Á Űb}{f:Ç}{v:V}{A:ā}{E:Value->Ï->È}
def mE{b:Ð}{Q:Value->Ï->È}(I:zI X z8 σ H s)(e:H a=À ėb)(c:qW X.K C)(n:Xn X.K C f)(l:Āc f=À v)(h:∀u s',zI X z8 σ H s'->yF v u->Q u s'):Ý Ą A (Āj ŭ f b) Q E s:=by let{g,O,r,_,_,_}:=Bf ĝ e;let{u,i,d}:=āe (v:=v) (o:=g f) (by rw[<-l];show r f);show z8t Ť O (c.get f) c.hd n i (y19 d) (h u _ Çc d)
def z8w{m:Ç}{g:Ì}{pl:Sem Ð}{Q:Value×Á Value->Ï->È}(I:zI X z8 σ H s)(e:H a=À ėb)(c:qW X.K C)(k:EJ X.K C m g)(l:Āc m=Æ)(h:Q (.ref g,ða) s):Ý Ą A (Ép ŭ m pl) Q E s:=by let{b,O,r,_,_,_}:=Bf ĝ e;have d:b m=Æ:=Ĺo (by rw[<-l];show r m);show z8u Ť O (c.get m) k.at_ k.fn d h
def z0x{y:V}{u:Value}{Q:Ŀa->Ï->È}(I:zI X z8 σ H s)(e:H a=À ėb)(c:qW X.K C)(n:Xn X.K C f)(G:Ĳa<1000)(m:yF y u)(h:∀s',zI X z8 σ (zd H a Ïl) s'->Q () s'):Ý Ą A (setAttr ŭ f u) Q E s:=by
 let{k,O,r,i,_,j}:=Bf ĝ e;let F:(Ŵb (·.1)).length<=â:=by rw[ç,Ŧ];omega
 show x65 Ť O c.sa c.po n.z4p c.hd i F λt d v=>h _ ?_
 let l:∃o,t.get? dx=À o:=let ⟨o,_,_,e',_⟩:=d.ns;{o,e'};refine ÿg (x:=a) (e:=dx) çf (.inr j) (λb q p z=>(v.2 b p).trans z) l ?_;refine{by rw[yH O.ne];show j,?_,O.ne,d.obj,_,d.ns,λg=>?_,λg B=>?_};let:=nN f y fs;omega;exact tF ((ľb f y fs).lookup g) ϙk;rw[nP];by_cases q:g=f;rw[Ó q,Ó q];show m;rw[Ô q,Ô q];show r g;by_cases q:g=f;rw[q];show Ĩo.1;show Ĩo.2 g (i g λz=>B ?_);exact ϙk=Æ;rw[Ô q];show z
def zI.made(I:zI X z8 σ H s):zI X z8 σ (zd (zd H Þ (.own Ġa)) Ġa (.ins C Þ [])) { s with ì:=(ýd).push őf }:=by
 let e1:(ýd).get? Þ=À øi:=ũ ä rfl
 let e2:((ýd).push őf).get? (Þ+1)=À őf:=by
  let:=ũ ýd (o:=ñf C Þ) rfl
  rwa [œb]at this
 let h:(ýd).Ns Þ Ûb:={øi,#[],_,e1,rfl,(λe g=>ß g ê),λ_=>rfl};let d:=Ťa (a:=Þ) (o:=.own Ġa) (h':=ûa øi) (t':=Ď) ãm Đ {_,e1};show d.laid (a:=Þ+1) (o:=.ins C Þ []) (t':=Ď) ãm (Îb (œb _ _)) ?_;let c:Þ≠Þ+1:=ϱ ŏe;refine{by rw[yH c,yo],ýa _,c,e2,λ_=>Æ,(Heap.Ns1.of_empty h).at λo q=>Ĳ _ q,λ_=>ŉa,λy f=>ß rfl f}
def z5g{Ī:ï}{w:è}{env:Env}{e:Õ}{f:Ç}{pos:Pos}{s:Ï}{Q:Value->Ï->È}(a:éa e f env úo=Ė e env)(h:Ý ð A úo (λo s₁=>Ý ð A (Āj o f Ä) Q E s₁) E s):Ý ð A (Ė Þf env) Q E s:=
 Attribute_any_ h (by rw[arm_eval_Attribute,a])
#print a
nonrec def x7m(K:Ñ)(c:TE)(f:Ç):TE:=λσ H Q=>c σ H λx b=>∃a C dx fs v,x=.ref a/\b a=À ėb/\qW K C/\Xn K C f/\Āc f=À v/\Q v b
def x42(K:Ñ)(c e:TE)(f:Ç):TS:=λD σ H=>e σ H λy d=>c σ d λx b=>∃a C dx fs,x=.ref a/\b a=À ėb/\qW K C/\Xn K C f/\Ĳa<1000/\
 ϖa σ (zd b a Ïl)
def fF(X:Cx)(b:Ĳe)(a:V->V->Hp->VK->È):È:=
 ∀(z8:Á ô) (s:Ï) (σ:St) (H:Hp) (x y:V) (u v:Value) (Q:VK),zI X z8 σ H s->yF x u->yF y v->a x y H Q->Ý Ą X.A (şi b u v) ŕb ı s
def x43(K:Ñ)(g d:TE)(e:V->V->Hp->VK->È)(f:Ç):TS:=λD σ H=>g σ H λx c=>∃a C dx fs v,x=.ref a/\c a=À ėb/\qW K C/\Xn K C f/\Āc f=À v/\
 d σ c λy h=>e v y h λz b=>∃dx' fs',b a=À (.ins C dx' fs')/\fs'.length<1000/\ϖa σ (zd b a (.ins C dx' (ľb f z fs')))
section
variable{X:Cx}{o e øb:Õ}{f:Ç}{pos Ľa tpos:Pos}{ta tv:TE}
def oh(r:PE X e ta)(p:éa e f Ù Đd=Ė e Ù):PE X Þf (x7m X.K ta f):=by rw[ßq];show z5g p (zt (r j s σ H _ I h) λu y b=>?_);let{x,g,o,m,a,C,B,z,v,i,k,c,n,l,q}:=b;subst i;obtain rfl:u=ė a:=m;show mE o k c n l λw A t d=>{v,g,t,d,q}
def x28(m:PE X o ta)(hv:PE X øb tv)(p:üc øb (À Żl) ϐc Ù=pure Â):PS X (.Assign Ţl øb pos) (x42 X.K ta tv f):=by
 intro e s σ H D I h;show plainObj_wpAny_Assign_Attribute (zt (hv e s σ H _ I h) λu i d=>?_) p;let{y,g,A,w,q}:=d;show zt (m e i σ g _ A q) λB F b=>?_
 let{x,J,r,z,a,C,L,G,t,j,c,n,l,k}:=b;subst t;obtain rfl:B=ė a:=z;show z0x r j c n l w λE v=>{σ,_,v,k}
def x29{j:Ĳe}{k:V->V->Hp->VK->È}(B:PE X o ta)(hv:PE X øb tv)(e:fF X j k):PS X (.AugAssign ŕl j øb pos) (x43 X.K ta tv k f):=by
 rw[ıq];show wpAny_AugAssign_AttributeAny (zt (B g s σ H _ I h) λov s1 b=>?_);let{x,r,U,T,a,C,dx,fs,v,J,w,c,n,l,q}:=b;subst J;obtain rfl:ov=ė a:=T;show mE U w c n l λu E F p=>zt (hv g E σ r _ F q) λO A b=>?_
 let{y,R,N,S,Z}:=b;show zt (e g A σ R v y u O _ N p S Z) λw4 s4 i=>?_
 let{z,H3,Q,m,L,t,d,G,Y}:=i;show z0x Q d c n G m λs5 P=>{σ,_,P,Y}
def x32:V->V->Hp->VK->È:=λx y H Q=>∃i j,x=.int i/\y=.int j/\Q œf H
def y1p:fF X .Add x32:=by rintro d s σ H x y u v Q I c b ⟨i,j,rfl,rfl,q⟩;let{t,rfl}:=(show ∃t,u=ώc i t from c);let{a,rfl}:=(show ∃a,v=ώc j a from b);show PyProof.Rows.iadd_int {.int (i+j),H,ϟ _,{_,rfl},q}
#print a
section
variable{X:Cx}{z8:Á ô}{σ:St}{H:Hp}{s:Ï}{A:ā}{E:Value->Ï->È}{Q:Value->Ï->È}{c:Value}{b:Ð}
inductive g6(K:Ëi)(H:Hp):V->Value->È where
 |zD:g6 K H .zD ùd
 |bl (x:Ð):g6 K H (.bl x) ϝa
 |int (i:Å):g6 K H Ŭ Ŵa
 |str (x:Ç):g6 K H Ĭb ňa
 |V6 (x:UInt64):g6 K H (.V6 x) (.type "float")
 |lst {a:Ì} {xs:Á V} (e:H a=À Ěa):g6 K H ŭ Ęa
 |yO {a:Ì} {o:Obj} {xs:Á V} (e:H a=À īo):g6 K H ŭ Ęa
 |tup {a:Ì} {xs:Á V} (e:H a=À œa):g6 K H ŭ ŷa
 |dK {a:Ì} {kvs:Á ŧ} (e:H a=À œ):g6 K H ŭ Ćc
 |dT {a:Ì} {kvs:Á Šb} (e:H a=À ϳb):g6 K H ŭ Ćc
 |ins {a C dx:Ì} {fs:Á Űb} (e:H a=À ėb) (cl:qW K C) (ha:PySem.W.findIn K ŝ "__class__"=À (À ϩg))
   (hn:PySem.W.specialIn K ϩg "__get__"=À (À (.builtin "getset_descriptor.__get__"))) (htk:PySem.W.takesIn K ϩg=À Ä)
   (hm:PySem.W.mroIn K C (.type "object")=À Ä):g6 K H ŭ ŝ
def Bg{x:V}{u t:Value}(I:zI X z8 σ H s)(d:yF x u)(k:g6 X.K H x t)(e:Ţ X.K t c=À b)(h:∀tk,Q ϭi { s with Ě:=tk }) :Ý Ą A (Áb Ÿh [u,c]) Q E s:=by
 cases k with
 |zD=>cases(show u=ĉd from d);show ϡa W.kitx_none Ť ŉa e Äa h|bl y=>cases(show u=űf y from d);show ϡa W.kitx_bool Ť ŉa e Äa h|int i=>let{t,q}:=(show ∃t,u=ώc i t from d);cases q;show ϡa W.kitx_int Ť ŉa e Äa h
 |str y=>let{t,q}:=(show ∃t,u=ŏa y t from d);cases q;show ϡa W.kitx_str Ť ŉa e Äa h
 |V6 y=>let{t,q}:=(show ∃t,u=ùi y t from d);cases q;show ϡa W.kitx_float Ť ŉa e Äa h
 |@lst a g ea=>cases(show u=ė a from d);let{_,_,n,_,f}:=(show xc ú X.w H ä a (.lst g)from ĝ a _ ea);show ϡa öi Ť {_,f,rfl} e Äa h
 |@yO a ob g ea=>cases(show u=ė a from d);let{_,_,_,n,_,f}:=(show xc ú X.w H ä a (.yO ob (.lst g))from ĝ a _ ea);show ϡa öi Ť {_,f,rfl} e Äa h
 |@tup a g ea=>cases(show u=ė a from d);let{_,_,_,p}:=(show xc ú X.w H ä a (.tup g)from ĝ a _ ea);let{o,f,j,_}:=p;show ϡa ũn Ť {o,f,j} e Äa h
 |@dK a kvs ea=>cases(show u=ė a from d);let{_,_,r,_,p}:=(show xc ú X.w H ä a œ from ĝ a _ ea);let{o,l,m,f,j,_}:=p;show ϡa Öo Ť {o,f,j.1} e Äa h
 |@dT a kvs ea=>cases(show u=ė a from d);let{_,_,g,_,o,l,m,f,j,_}:=(show xc ú X.w H ä a ϳb from ĝ a _ ea);show ϡa Öo Ť {o,f,j.1} e Äa h
 |@ins a C dx fs ea cl ha hn htk hm=>cases(show u=ė a from d);let{B,O,_}:=Bf ĝ ea;let{v,J,_}:=O.look;show ϡa (W.kitx_own (cl.get _) cl.hd ha hn htk hm) Ť J e Äa h
#print a
structure xL(k:Ã)(A:ā):È where
 hd:ŧb=Æ
 dp:Ąg+3*k+5<Ôn
 un:ķa+16*k+200<ϓ
 gd:A.guards=À []
theorem xL.mono{j k:Ã}{A:ā}(r:xL k A)(h:j<=k):xL j A:={r.hd,by let:=r.dp;omega,by let:=r.un;omega,r.gd}
theorem xL.deeper{k:Ã}{A:ā}(r:xL ϕ A)(env:Env):xL k (ĝb env):=
 {r.hd,by let:=r.dp;exact Ąg+1+3*k+5<_;omega,by let:=r.un;exact ķa+3+16*k+200<_;omega,by first|show r.gd|simp[äe,éo,Ļo,r.gd]}
def y3n{A:ā}{C:Ì}{us:Á Value}{a:Á Śb}:(ŭg).depth=Ąg+1:=by first|rfl|simp[äe,Code.weight,Code.isCreation,Code.isGuard,Code.isCaller,êo,Òi,guardIds]
theorem y3p{A:ā}{C:Ì}{us:Á Value}{a:Á Śb}:(ŭg).units=ķa+1:=by first|rfl|simp[äe,Code.cUnits,êo,Òi]
theorem xL.make{k:Ã}{A:ā}(r:xL ϕ A)(C:Ì)(us:Á Value)(a:Á Śb):xL k ŭg:=
 {r.hd,by let:=r.dp;rw[y3n];omega,by let:=r.un;rw[y3p];omega,by first|show r.gd|simp[äe,éo,Ļo,r.gd]}
theorem xL.depth{k:Ã}{A:ā}(r:xL k A):Ąg<Ôn:=by let:=r.dp;omega
theorem xL.units{k:Ã}{A:ā}(r:xL k A):ķa+64<ϓ:=by let:=r.un;omega
nonrec def X5:TA:=λ_ H Q=>Q [] H
nonrec def Qm(b:TE)(a:TA):TA:=λσ H Q=>b σ H λx d=>a σ d λc e=>Q (x::c) e
section
variable{X:Cx}{e:Õ}{es:Á Õ}{te:TE}{t:TA}{pos:Pos}
def U2:PA X [] X5:=λ_ _ _ _ H Q I h=>Ïh {[],H,I,.nil,h}
def oV(m:PE X e te)(n:PA X es t)(p:Î Òd q12):PA X ĵ Ϩi:=by
 intro pos b s σ H Q I h;rw[p];exact Ý _ _ (spliced ((Â,Ė e Ù)::Ĩc pos Áf)) _ _ s;show ϕd ľk;let{x,f,l,c,d}:=a;show zt ģl λr v a=>?_
 let{o,k,q,i,j}:=a;show⟨x::o,k,q,.cons c i,j⟩
def x89(t:TA):TE:=λσ H Q=>t σ H λb a=>Ź<=â/\∀p,a p=Æ->Q ž (zd a p (.tup b))
def x7r(t:TA):TE:=λσ H Q=>t σ H λb a=>Ź<=â/\∀p,a p=Æ->Q ž (zd a p (.lst b))
def x16{x1}(h:PA X es t):PE X ăm (x89 t):=by intro i s σ H Q I g;show wpAny_Tuple_spliced Ēk;rw[ϗp];show{.ref Ĩa,zd d Ĩa (.tup l),f.laid (t':=Ŧd) ëf Đ ?_,rfl,q _ j};show{z,k,r,{_,ũ _ rfl,rfl,_,rfl}}
def x0w(h:PA X es t):PE X ĕn (x7r t):=by intro i s σ H Q I g;show wpAny_List_spliced Ēk;rw[ϗp];show{.ref Ĩa,zd d Ĩa (.lst l),f.laid (t':=Ŧd) ëf Đ ?_,rfl,q _ j};show{z,k,0,r,ũ _ rfl}
#print a
abbrev Sp:=Á V->Hp->VK->XK->È
abbrev gm:=Á Env->Hp->Ï->XK->Value->Ï->È
structure VA(P:ï)(w:è)(K:Ñ)(mg:Ç->Ê Value)(Ë:Heap)(A:ā)(ĉ:Á Env)(s:Ï)(H:Hp):È where
 Ňj:A.frames=À ĉ
 mod:Mod K mg Ë
 bs:∀b o,base.get? b=À o->Ē b=À o/\H b=Æ
 ZD:base.objs.size<=Þ
 jD:Āf Ë ĉ
 XM:∀b∈jS ĉ,H b=Æ
 zi:wR P w H ä
 bare:Ŗd ģg
def CE(ĉ:Á Env)(P:ï)(w:è)(H:Hp)(s:Ï)(Q:VK)(u:Value)(s':Ï):È:=
 ∃v H',s'.os=s.os/\Ŗd s'.gens/\Un (jS ĉ) [] H H' ä Ϭc/\wR P w H' Ϭc/\yF v u/\Q v H'
def CR(a:gm)(ĉ:Á Env)(P:ï)(w:è)(H:Hp)(s:Ï)(Q:VK)(E:XK)(r:Ád)(s':Ï):È:=
 match r with
 |.ok (.ret u)=>CE ĉ P w H s Q u s'|.ok _=>ÿ|.error e=>a ĉ H s E e s'
structure xi(P:ï)(w:è)(K:Ñ)(mg:Ç->Ê Value)(Ë:Heap)(CX:gm)(k:Ã)(f:Ì)(fd:Ō)(ps:Á Ç)(sp:Sp):È where
 len:∀vs H Q E,sp vs H Q E->Ć=ę
 run:∀(A:ā)(ĉ:Á Env)(s:Ï)(H:Hp)(ϯ:Args)(us:Á Value)(vs:Á V)(Q:VK)(E:XK),xL k A->VA P w K mg Ë A ĉ s H->Æc s fd ϯ Ąc->zx vs us->sp vs H Q E->
  ëb Ţb A (.call Ń ϯ) (CR CX ĉ P w H s Q E) s
def xi.imp{P:ï}{w:è}{K:Ñ}{e:Ç->Ê Value}{a:Heap}{g:gm}{k:Ã}{f:Ì}{i:Ō}{ps:Á Ç}{sp d:Sp}(F:xi P w K e a g k f i ps sp)(h:∀vs H Q E,d vs H Q E->sp vs H Q E):xi P w K e a g k f i ps d:=
 {λvs H Q E q=>F.len vs H Q E (h _ _ _ _ q),λA b s H c l vs Q E n p m j o=>F.run A b s H c l vs Q E n p m j (h _ _ _ _ o)}
def VA.make{P:ï}{w:è}{K:Ñ}{b:Ç->Ê Value}{a:Heap}{A:ā}{ĉ:Á Env}{s:Ï}{H:Hp}(e:VA P w K b a A ĉ s H)(C:Ì)(us:Á Value)(c:Á Śb) :VA P w K b a (A.under (.builtin űm {.ref C::us,c})) ĉ s H:={by first|show e.frames|(simpa [äe,Code.envs,Òi,pushEnvs]using e.frames),e.mod,e.bs,e.ZD,e.jD,e.XM,e.zi,e.bare}
section
variable{X:Cx}{z8:Á ô}{σ:St}{H:Hp}{s s':Ï}
def zI.c9(I:zI X z8 σ H s):VA ú X.w X.K õ Ũ X.A Ŝa s H:=
 {äo,Ìj,I.bs,đ Āg I.sz,I.stack,I.cK,ĝ,ϱa}
def zI.after{Q:VK}{u:Value}(I:zI X z8 σ H s)(h:CE Ŝa ú X.w H s Q u s'):EP X z8 σ Q u s':=by let{v,i,f,a,e,k,r,q}:=h;let{j,g,d,t,c}:=s';obtain rfl:c=s.os:=f;show{v,i,I.call (h':=j) (g':=g) (d':=d) (t':=t) (ch:=[]) e k a (λb z=>ß z ê),r,q}
#print a
nonrec def Dy(sp:Sp)(a:Á V)(E:XK)(t:TA):TE:=λσ H Q=>t σ H λc b=>sp (c++a) b Q E
nonrec def Ak(C:Ì)(m:Ç)(sp:Sp)(b:Á V)(E:XK)(e:TE)(t:TA):TE:=λσ H Q=>e σ H λx c=>∃a dx fs,x=.ref a/\c a=À ėb/\Āc m=Æ/\
 t σ c λd f=>sp (x::(d++b)) f Q E
def x7s(C:Ì)(sp:Sp)(a:Á V)(E:XK)(t:TA):TE:=λσ H Q=>t σ H λd b=>∀x dx,b x=Æ->b dx=Æ->dx≠x->
 sp (.ref x::(d++a)) (zd (zd b dx ōd) x Ēn) (λv c=>v=.zD/\Q Ŋd c) E
def t7(K:Ñ)(a:Ō)(ps:Á Ç)(ds:Á Value):È:=
 ∀(s:Ï)(us:Á Value),ţ ä->(ĸd).length=ę->Æc s a {us,[]} (ps.zip ĸd)
def t7.all{K:Ñ}{b:Ō}{ps:Á Ç}(h:∀us:Á Value,Ÿ=ę->Ìg b {us,[]}=pure Ąc):t7 K b ps []:=λs us _ a=>by rw[ū]at a ⊢;show .of_eq (h us a)
def VR(a:gm)(X:Cx)(E:XK):È:=∀(z8:Á ô) (σ:St) (H:Hp) (s:Ï) (e:Value) (s':Ï),zI X z8 σ H s->a Ŝa H s E e s'->ı e s'
section
variable{X:Cx}{CX:gm}{k:Ã}{f C:Ì}{fd:Ō}{ps:Á Ç}{sp:Sp}{dvs:Á V}{ds:Á Value}{E:XK}{x m:Ç}{p pos Ű:Pos}{e o:Õ}{es:Á Õ}{ta:TE}{t:TA}
def Oz{b:Á ô}{σ:St}{H:Hp}{s:Ï}{Q:VK}{us:Á Value}{vs:Á V}(F:xi ú X.w X.K õ Ũ CX k f fd ps sp)(g:xL k X.A)(d:t7 X.K fd ps ds)(j:zx dvs ds)(l:VR CX X E)(I:zI X b σ H s)(r:zx vs us)(h:sp Ĝe H Q E):Ý Ą X.A (Áb Ń us) (EP X b σ Q) ı s:=by
 let c:zx Ĝe ĸd:=Ľd j;have m:(ĸd).length=ę:=by rw[<-Ŕa];show F.len _ _ _ _ h
 show āf (éf (F.run X.A Ŝa s H {us,[]} ĸd Ĝe Q E g I.c9 (d s us Ť m) c h) λr i a=>?_);cases r with
 |error e=>show l b σ H s e i I a|ok fl=>
  cases fl with
  |ret u=>show I.after a|next=>show ęa a|brk=>show ęa a|žb=>show ęa a
def x0k(F:xi ú X.w X.K õ Ũ CX k f fd ps sp)(o:xL k X.A)(u:Gl X x)(j:õ x=À Ń)(hk:ïa X.K Ń=Ä)(n:t7 X.K fd ps ds)(i:zx dvs ds)(l:VR CX X E)(m:PA X ĵ t)(a:Î ķ q10)(v:Î Òd q12)(b:Î ((Ėe).any (·.1)=Â) q12) :PE X Ϙa (Dy sp dvs E t):=by rw[Žp];show æd Ϻm;show Ļf (h₀:=Ũ) ŏf hk Ūl v b;let{C,y,d,r,q}:=c;show{d.xz,?_};show Oz F o n i l d r q
def x0l(F:xi ú X.w X.K õ Ũ CX k f fd ps sp)(c:xL k X.A)(e:Gl X x)(g:õ x=À Ń)(hk:ïa X.K Ń=Ä)(b:t7 X.K fd ps ds)(d:zx dvs ds)(i:VR CX X E)(a:Î ķ q10):PE X œl (Dy sp dvs E X5):=by rw[ßq];show æd (Ob I e g ?_ a);show Ĥn Ť hk (Oz (us:=[]) F c b d i I .nil h)
def ot{pl:Sem Ð}(z:PE X o ta)(c:qW X.K C)(e:EJ X.K C m f)(F:xi ú X.w X.K õ Ũ CX k f fd ps sp)(y:xL k X.A)(v:t7 X.K fd ps ds)(j:zx dvs ds)(r:VR CX X E)(n:Ė Õd Ù=(do
   let ov <-Ė o Ù
   standAt ñe
   let (f,first) <-holding [ov] Ϭd
   Ϟc pos f first ĉh Ľc):=by rfl) :
  PE X Õd (Ak C m sp dvs E ta X5):=by
 intro i s σ H Q I h;show źm (pl:=pl) (zt (z i s σ H _ I h) λu G d=>?_) n;let{x,B,b,t,a,L,J,g,p,l,q}:=d;subst g;obtain rfl:u=ė a:=t;show z8w b p c e l ?_;show Ĥn (first:=ða) b.xz e.kp (Oz (us:=ða) (vs:=ða) F y v j r b ūm q)
structure Mk(K:Ñ)(C f:Ì):È where
 makes:Ϟf K C=Ä
 init:ŕa K ŝ Ϡa=À áb
 fn:še K Ń=Ä
 kp:ïa K ŝ=Ä
def x3z{c:Á ô}{σ:St}{H:Hp}{s:Ï}{Q:VK}{us:Á Value}{vs:Á V}(M:Mk X.K C f)(F:xi ú X.w X.K õ Ũ CX k f fd ps sp)(q:xL ϕ X.A)(o:t7 X.K fd ps ds)(j:zx dvs ds)(m:VR CX X E)(I:zI X c σ H s)(r:zx vs us)(h:∀x dx,H x=Æ->H dx=Æ->dx≠x->sp (.ref x::Ĝe) (zd (zd H dx ōd) x Ēn) (λv H2=>v=.zD/\Q Ŋd H2) E) :Ý Ą X.A (Áb ŝ us) Řn ı s:=by
 let d:=h Ġa Þ ļn Ĳd (ϱ ŏe);let b:=zI.made (C:=C) I;let g:zx (Įc Ġa::Ĝe) än:=.cons rfl (Ľd j)
 let n:(ė Ġa::us++ds).length=ę:=by let e:=âa;rw[F.len _ _ _ _ d]at e;show ťd
 refine āf (y3o (f:=f) Ť M.makes M.init (īf M.fn) (éf (F.run _ Ŝa _ _ {ė Ġa::us,[]} än _ _ E (q.make C us [])
  (b.c9.make C us []) (o _ (ė Ġa::us) b.xz n) g d) λr t a=>?_))
 cases r with
 |error e=>show m c σ _ _ e t b a|ok fl=>
  cases fl with
  |ret u=>let{v,p,i,l,y,z}:=b.after a;subst y;show{l,{Įc Ġa,p,i,rfl,z}}
  |next=>show ęa a|brk=>show ęa a|žb=>show ęa a
def x0x(M:Mk X.K C f)(F:xi ú X.w X.K õ Ũ CX k f fd ps sp)(o:xL ϕ X.A)(u:Gl X x)(j:õ x=À ŝ)(n:t7 X.K fd ps ds)(i:zx dvs ds)(l:VR CX X E)(m:PA X ĵ t)(a:Î ķ q10)(v:Î Òd q12)(b:Î ((Ėe).any (·.1)=Â) q12) :PE X Ϙa (x7s C sp dvs E t):=by rw[Žp];show æd Ϻm;show Ļf (h₀:=Ũ) ŏf M.kp Ūl v b;let{G,y,d,r,q}:=c;show{d.xz,?_};show x3z M F o n i l d r q
#print a
def PK(X:Cx)(a:Á þg)(t:TA):È:=
 ∀(pos:Pos)(z8:Á ô) (s:Ï) (σ:St) (H:Hp) (Q:Á V->Hp->È),zI X z8 σ H s->t σ H Q->Ý Ą X.A (evalAll ((backToKw pos (Îo a Ù)).map (·.2))) ċn ı s
section
variable{X:Cx}{k:Ã}{f:Ì}{x m:Ç}{p pos kpos:Pos}{e o:Õ}{kws:Á þg}{te:TE}{t:TA}{nm:Ê Ç}
def x1v:PK X [] X5:=λ_ _ _ _ H Q I h=>wpAny_evalAll_nil {[],H,I,.nil,h}
def x1t(m:PE X e te)(n:PK X kws t):PK X ({nm,e,kpos}::kws) Ϩi:=by
 intro pos b s σ H Q I h;exact Ý _ _ (evalAll ((do let v <-Ė e Ù;standAt pos;pure v)::(backToKw pos (Îo kws Ù)).map (·.2))) _ _ s;show wpAny_evalAll_cons (Ø ľk);let{x,f,l,c,d}:=a;show Ø (áf Ýb);show zt ģl λq r a=>?_
 let{o,k,p,i,j}:=a;show⟨x::o,k,p,.cons c i,j⟩
#print a
structure zk(N P:Á Ç)(sc:õa):È where
 kind:sc.kind=.function
 co:sc.isCoroutine=Â
 gen:sc.isGenerator=Â
 nd:ϯc
 pre:N.take Ąa=P
 par:∀x∈P,Ÿm x=À .local\/Ÿm x=À .cell
 z4l:∀y∈sc.names,y.2≠.free
theorem iB{a:Ç->Ê Ęc}{x:Ç}:∀{ųd:Á Śb} {m:Ç->Ê Value},(∀v,(x,v) ∉ ųd)->ıc a ųd m x=m x
 | [],_,_=>rfl|(n,v)::r,m,h=>by
  unfold ıc;rw[iB λw b=>h w Ĵd]
  split;rw[Ėq]
  simp[this];rfl
theorem i9{a:Ç->Ê Ęc}{x:Ç}:∀{ųd:Á Śb} {m:Ç->Ê Value},(∀v,(x,v) ∉ ųd)->Ĳc a ųd m x=m x
 | [],_,_=>rfl|(n,v)::r,m,h=>by
  unfold Ĳc;rw[i9 λw b=>h w Ĵd]
  split;rfl;rw[Ėq]
  simp[this]
theorem iA{a:Ç->Ê Ęc}{x:Ç}{v:Value}:∀{P:Á Ç}{vs:Á Value}{i:Ã}{m:Ç->Ê Value},P.Nodup->P[i]?=À x->vs[i]?=À v->a x=À .local->
  ıc a ϊo m x=À v
 | [],_,_,_,_,h,_,_=>by simp at h|_::_,[],_,_,_,_,h,_=>by simp at h|p::P,w::vs,0,m,nd,h1,h2,hk=>by rw[ļq];exact ıc a þf m p=_;unfold ıc;rw[iB λv b=>Òg.1 (ňh b).1,Ó hk];simp|p::P,w::vs,i+1,m,nd,h1,h2,hk=>by exact ıc a þf m x=_;unfold ıc;show iA (i:=i) Òg.2 æf ϲl hk
theorem i8{a:Ç->Ê Ęc}{x:Ç}{v:Value}:∀{P:Á Ç}{vs:Á Value}{i:Ã}{m:Ç->Ê Value},P.Nodup->P[i]?=À x->vs[i]?=À v->a x≠À .local->
  Ĳc a ϊo m x=À v
 | [],_,_,_,_,h,_,_=>by simp at h|_::_,[],_,_,_,_,h,_=>by simp at h|p::P,w::vs,0,m,nd,h1,h2,hk=>by rw[ļq];exact Ĳc a þf m p=_;unfold Ĳc;rw[i9 λv b=>Òg.1 (ňh b).1,Ô hk];simp|p::P,w::vs,i+1,m,nd,h1,h2,hk=>by exact Ĳc a þf m x=_;unfold Ĳc;show i8 (i:=i) Òg.2 æf ϲl hk
nonrec def Ųe(N:Á Ç)(vs:Á V):St:=ğg À++Ŗ (Ş-Ć) Æ
nonrec def qC(g:gm)(P:ï)(w:è)(K:Ñ)(mg:Ç->Ê Value)(Ë:Heap)(N:Á Ç)(b:Ç)(a:õa)(f:Ì)(d:Value)(A:ā)(ĉ:Á Env)(s:Ï)(H:Hp)(E:XK):Cx where
 Ī:=P
 w:=w
 K:=K
 mg:=mg
 Ë:=Ë
 A:=ĝb Ĝh
 N:=N
 s₀:=s
 H₀:=H
 env:=ãb b a Þ f d
 ĉ:=ĉ
 stack:=ãb b a Þ f d::ĉ
 ex:=[]
 calm:=Ä
 fn:=λ_=>Ä
 pn:=[]
 xe:=λe h=>Ý Ţb (ĝb Ĝh) (leaving Ĝh e) (λ_ c=>g ĉ H s E e c) (λi c=>g ĉ H s E i c) h
def iT{a:õa}{n:Ã}{x:Ç}(h:ϝb x=À .cell):∃c,(ţi n ăj []).lookup x=À c:=by let q:=Ŋm ăj n [] ŏd;show ϝk q
def y1x{R:gm}{P:ï}{w:è}{K:Ñ}{J:Ç->Ê Value}{l:Heap}{N ps:Á Ç}{g:Ç}{d:õa}{f:Ì}{I:Value}{A:ā}{ĉ:Á Env}{s L:Ï}{H:Hp}{E:XK}{us:Á Value}{vs:Á V}(S:zk N ps d)(X:ŧb=Æ)(m:VA P w K J l A ĉ s H)(Z:Ć=ę)(r:zx vs us)(x:InCallC s Þ (ıc (Ġm).kindOf Ąc λ_=>Æ) (ţi Ġa d.names []) (Ĳc (Ġm).kindOf Ąc λ_=>Æ) L) :zI ģk [] ŷc H L:=by
 let Y:ę<=Ş:=by let:=ŋ żc S.pre;rw[Ïa]at this;omega
 let{G,tk,rfl,O}:=x.done;let o:∀b:Ì,b ∉ (ģk).ex:=λb z=>ß (show b∈([]:Á Ì)from z) ê
 show⟨{m.mod,S.kind,rfl,rfl,Ϙ _,λy z c G j=>?_,λy t=>?_,λy c _ h=>?_,λ_=>X,Around.frames_deeper m.frames,.inr {rfl,rfl},λb z=>ß z (o b),m.bs,m.ZD,λb _ _=>o b,λb z=>ß z (o b),m.jD,m.XM},
  rfl,m.bare,ŉe O,{_,x.toInCall.ns,λi y v G j h3=>?_},λy c h=>{_,x.cell y c h},Ľo Đ,λy c h=>?_,λp B=>ß (show p∈([]:Á ô)from B) ê,m.zi.kept O,?_⟩
 show name_of_addr x.apart (Ϸe G) (Ϸe j);let t:Ţh y=À .cell\/Ţh y=À .free:=t;rcases t with t|t;show iT t;show ß rfl (S.z4l _ (Ϸe t));show Üa łl;let F:i<Ć:=by
  unfold Ųe at j;by_cases F:i<Ć;show F;rw[ăb ôm]at j;rw[ûl]at j
  split at j<;>cases j
 let U:vs[i]?=À v:=by
  unfold Ųe at j;rw[Ąb ôm,Ś]at j;cases e:vs[i]? with
  |Æ=>rw[e]at j;cases j|À a=>rw[e]at j;cases j<;>rfl
 let{u,Q,T}:=ϸa U
 have B:ps[i]?=À y:=by rw[<-S.pre,List.getElem?_take_of_lt É];show G
 have C:ps.Nodup:=by rw[<-S.pre];show S.nd.sublist ćl
 show{u,T,?_};rcases S.par y (ūa B)with k|k;show .inl {k,iA C B Q k};let{c,e}:=iT (n:=Þ+1) k;show .inr {.inl k,c,e,?_};let q:=x.cell y c e;rw[i8 C B Q (by exact Ţh y≠_;rw[k];decide)]at q;show q;show Ľo (Üa łl);unfold Ųe;exact _=Ş;rw[ϴp]
def lR{L:gm}{P:ï}{w:è}{K:Ñ}{G:Ç->Ê Value}{g:Heap}{k:Ã}{f:Ì}{Ņ c:Ç}{h:Óp}{i:Á Ú}{a:õa}{dV kV z pm d ct oc:Value}{an od:Ê Ì}{R:Ü Öb}{N ps:Á Ç}{sp:Sp}(lk:Ϩ f=À {oc,od,.func Ėk,R})(Y:ůb K d c=Ä)(S:zk N ps a)(p:∀vs H Q E,sp vs H Q E->Ć=ę)(j:∀(A:ā)(ĉ:Á Env)(s:Ï)(H:Hp)(vs:Á V)(Q:VK)(E:XK),xL k (ĝb (ãb c a Þ f d))->sp vs H Q E->
   ∃t,tV ϊg i t/\t { nx:=λ_ H'=>Q .zD H',rt:=Q } ŷc H) :
  xi P w K G g L ϕ f Ėk ps sp:=by
 show{p,λA ĉ s H ϯ us vs Q E T C hb r B=>?_};let hl:=p _ _ _ _ B;let KX:ţ ä:=C.mod.Ui.keeps λb o e=>ϫn.1
 let X:s.heap.NoLimit:=C.mod.nolimit.keeps λb o e=>ϫn.1
 let l:∀y∈ps.zip us,ϝb y.1=À .local\/(ϝb y.1=À .cell/\((ţi Ġa ăj []).lookup y.1).isSome=Ä):=λ⟨n,v⟩ hy=>by rcases S.par n (ňh hy).1 with q|q;show .inl q;show .inr {q,Ŋm _ _ _ (.inl q)}
 show codeAny_call_function T.depth (KX _ _ lk) rfl S.co S.gen rfl (W.codeRec_of KX Y) (hb _ _ _ _ ?_);show wpAny_newFunctionEnv_cells S.kind l λenv he Z x=>?_
 subst he;show{X.keeps x.toInCall.keep,codeAny_func ?_};let{t,ht,hq}:=j A ĉ s H vs Q E (T.deeper _) B;let I:zI ϊg [] ŷc H Z:=y1x S T.hd C hl r x;show ďa (ht [] Z ŷc H _ I hq) (λfl U m=>?_) λe U m=>m
 let F:∀{σ':St}{H':Hp}{v:V}{u:Value},zI ϊg [] σ' H' U->yF v u->Q v H'->CE ĉ P w H s Q u U:=
  λ{σ' H' v u} J O q=>{v,H',J.os,J.bare,J.base,J.zi,O,q}
 cases fl with
 |ret u=>
  let{v,σ',H',J,O,q}:=m;show F J O q
 |next=>
  let{σ',H',J,q}:=m;show F (v:=V.zD) (u:=ĉd) J rfl q
 |brk=>
  let{_,_,_,q}:=m;show ęa q
 |žb=>
  let{_,_,_,q}:=m;show ęa q
section
variable{X:Cx}{x:Ç}{p pos:Pos}{e:Õ}{es:Á Õ}{t:TA}{id T:äa}{r:Á V->Hp->VK->È}
nonrec def Dx(r:Á V->Hp->VK->È)(t:TA):TE:=λσ H Q=>t σ H λb a=>r b a Q
def x0m(g:vV X řb r)(u:Gl X x)(l:õ x=Æ)(hv:Ŵ x=À řb)(o:PA X ĵ t)(j:Î Êb q10)(a:Î ķ q10)(v:Î Òd q12)(b:Î ((Ėe).any (·.1)=Â) q12):PE X Ϙa àg:=by rw[ϭp];show æd Ŵl;show PyProof.Rows.callWith_builtin1 đk v b;rw[âq]
def x0o(g:vV X ĥb r)(u:Gl X x)(l:õ x=Æ)(hv:Ŵ x=À ĥb)(o:PA X ĵ t)(j:Î Êb q10)(a:Î ķ q10)(v:Î Òd q12)(b:Î ((Ėe).any (·.1)=Â) q12):PE X Ϙa àg:=by rw[ϭp];show æd Ŵl;show Ϗd đk v b;rw[âq]
#print a
#print L2
namespace HT
open ģ Ĭ
section
variable{Ī:ï}{w:è}{A:ā}{E:Value->Ï->È}{s:Ï}
def cat_tup{t b:Ì}{vs ws:Á Value}{Q:Value->Ï->È}(q:úb ä t Ōa)(v:úb ä b Ůf)(hv:vs≠[])(u:ws=[]->Q ŋd s)(r:ws≠[]->Q ġb { s with ì:=ûa { cls:=.type ŷ,ċ:=.seq (vs++ws).toArray } })(hsz:Ć+Ŏa<=â):Ý ð A (ϟa .Add ŋd (.ref b)) Q E s:=by
 obtain⟨⟨cls,o,ċ,p⟩,h,j,n,l⟩:=id q;obtain⟨⟨m,c,i,g⟩,a,d,k,f⟩:=id v;simp only at j l d f;subst j l d f;let e:Ōa++Ůf=(vs++ws).toArray:=by simp
 by_cases hw:ws=[];show Çi {_,h,rfl} {_,a,rfl} Ňm ěn Ďl öl Ųk
  (tuple_addW1 t b Ōa Ůf n k o c p g Ąh (by simp[hw])) {h,a,u hw}
 refine Çi {_,h,rfl} {_,a,rfl} Ňm ěn Ďl öl Ųk
  (tuple_addW2 t b Ōa Ůf n k o c p g Ąh (by simpa using hw) (by rw[ĥ,ĥ];show hsz)) {h,a,?_}
 rw[e];show r hw
nonrec def sIx(n d:Ã):Ê Å->Ã
 |Æ=>d|À v=>if v<0 then(v+(n:Å)).toNat else min v.toNat n
def sIx_nat(n d k:Ã):sIx n d Ěb=min k n:=by exact(if(k:Å)<0 then((k:Å)+(n:Å)).toNat else min (k:Å).toNat n)=min k n;rw[Ô É,ō]
theorem ře(n d:Ã)(a:d<=n)(o:Ê Å):sIx n d o<=n:=by
 cases o with
 |Æ=>show a|À v=>exact Úk<=n;by_cases hv:v<0;rw[Ó hv];omega;rw[Ô hv];show ϗe _ _
def iU(v:Å)(n d:Ã):Ók=((sIx n d Êa:Ã):Å):=by exact Ók=((Úk:Ã):Å);by_cases hv:v<0;simp only[Ó hv];show(ĵh _).symm;simp only[Ô hv];let{k,rfl}:=Ńb (Śc hv);rcases Ēd k n with h|h;rw[ō,Ņa h,Èe (Ϗg h)];rw[ō,ÿd h,Ķh (Ϗg h)]
theorem z55(lo hi:Ê Å)(n:Ã):Àh lo hi 1 (n:Å)=(((sIx n 0 lo:Ã):Å),((sIx n n hi:Ã):Å)):=by
 let a:¬ ((1:Å)<0):=by omega
 unfold Àh;simp only[a,áa];show Prod.ext ?_ ?_;cases lo with
 |Æ=>rfl|À v=>show iU v n 0
 cases hi with
 |Æ=>rfl|À v=>show iU v n n
def x1x(i j:Ã):ϳe (i:Å) (j:Å) 1=j-i:=by
 unfold ϳe;let a:(1:Å)>0:=by omega
 simp only[a,Ů,Ϥb]
 rw[Ϩp]
def z17{v:Value}{o:Ê Å}{Q:Ê Å->Ï->È}(p:Ĵb v o)(h:Q o s):Ý ð A (Builtin.Slice.slicePartIndex v) Q E s:=by
 cases p with
 |Æ=>show Ón h|int i t=>show slicePart_int h
def z16{e:Ì}{d c:Value}{lo hi:Ê Å}{n:Ã}{Q:Å×Å×Ã->Ï->È}(f:ÿf e d c .none)(pl:Ĵb d lo)(i:Ĵb c hi)(h:Q (((sIx n 0 lo:Ã):Å),1,sIx n n hi-sIx n 0 lo) s):Ý ð A (Ϯk Ōd (pure (n:Å))) Q E s:=by let{j,b,g,a}:=id f;unfold Ϯk Builtin.Slice.sliceFields;show Ø (Ø (ła b a (x:=d) rfl (Ø (ła b a (x:=c) rfl (Ø (ła b a (x:=.none) rfl Ýb))))));show Ø (Ón ?_);exact Ý _ _ (Λc ((1:Å)==0)) _ _ s;rw[Ô Í];show Ø (z17 pl (Ø (z17 i (Ø Ýb))));exact Ý _ _ (match Àh lo hi 1 (n:Å)with|(lo,hi)=>pure (lo,(1:Å),ϳe lo hi 1)) _ _ s;rw[z55 lo hi n];exact Ý _ _ (pure (((sIx n 0 lo:Ã):Å),(1:Å),ϳe ((sIx n 0 lo:Ã):Å) ((sIx n n hi:Ã):Å) 1)) _ _ s;rw[x1x];show Ĥ h
def x1s(xs:Ü Value)(i k:Ã):((Ía k).filterMap λ(m:Ã)=>xs[(ćh).toNat]?).toArray=((xs.toList.drop i).take k).toArray:=by
 let e:(λ(m:Ã)=>xs[(ćh).toNat]?)=λm=>xs[i+m]?:=by
  funext m
  let:(ćh).toNat=i+m:=by omega
  rw[this]
 rw[e];let:=Áj xs i k;rw[List.filterMap_map]at this;let e2:((λx=>xs[x]?)∘λx=>i+x)=λm=>xs[i+m]?:=rfl
 rw[e2]at this;rw[this]
theorem getItem_tuple_cut{t e:Ì}{a:Ü Value}{k j:Value}{lo hi:Ê Å}{Q:Value->Ï->È}(c:úb ä t a)(l:ÿf e k j .none)(pl:Ĵb k lo)(r:Ĵb j hi)(n:¬ (sIx ù 0 lo=0/\sIx ù ù hi=ù))(h:Q ġb { s with ì:=ûa { cls:=.type ŷ,ċ:=.seq (Ũg).toArray } })(hsz:ù<=â):Ý ð A (ϭc ŋd Ōd) Q E s:=by
 let b:sizeOk (.seq (Ũg).toArray):=by exact(Ũg).toArray.size<=â;rw[ĥ,Ïa,Đa,Ū];show đ ėe (đ đb hsz)
 let o:sIx ù ù hi<=ù:=ře _ _ Đ hi;let{u,g,i,v}:=id l;let f:Ŭb Ōd ņe:={u,g,i};unfold ϭc
 try with_reducible show Ċb ?_
 first|show Ø Ýb|skip
 refine Ø (ćm Ĭe Í ?_)
 show Ø (Ýd (Ņ:=Ϣb ϑh) Ĭe Ϣe
  (Ņc Ϣe Ĭe ύl ?_ íl))
 exact Ý _ _ ök _ _ s;show Ø (ęn c ?_);show Ø (öd f ?_);rw[Ó Í];show Ø (z16 l pl r ?_)
 let d:¬ (Šg=Ä):=by intro q;rw[ě,ě]at q;let x:((sIx ù 0 lo:Ã):Å)=0:=ÿc q.1.1;let p:sIx ù ù hi-sIx ù 0 lo=ù:=ÿc q.2;show n {Int.ofNat_eq_zero.mp x,Ţc o (đ (Îb p.symm) đb)}
 exact Ý _ _ ϵk _ _ s;rw[Ô d,x1s]
 first
  |show Ø (m:=ϻe _) þo
  |show Ø (m:=ϻe _) (łc (Ø Đp) b)
  |show Ø (Ø (m:=ϻe _) (łc Đp b))
  |show Ø (Ø (m:=ϻe _) þo)
#print a
#print HT
namespace L2
open ģ ĺ Ĭ
abbrev TO:=St->Hp->(Ê Å->Hp->È)->È
def PO(X:Cx)(e:Ê Õ)(t:TO):È:=
 ∀(z8:Á ô) (s:Ï) (σ:St) (H:Hp) (Q:Ê Å->Hp->È),zI X z8 σ H s->t σ H Q->
  Ý Ą X.A (evalPart e Ù) (λu a=>∃o H',zI X z8 σ H' a/\Ĵb u o/\Q o H') ı s
nonrec def x7w:TO:=λ_ H Q=>Q Æ H
nonrec def x81(t:TE):TO:=λσ H Q=>t σ H λx a=>∃i,x=.int i/\Q (À i) a
section
variable{X:Cx}{e:Õ}{te:TE}{lo hi:Ê Õ}{tl th:TO}{pos p2:Pos}
def x20:PO X Æ x7w:=by intro a s σ H Q I h;rw[ġn];show Ĥ {Æ,H,I,.none,h}
def x21(h:PE X e te):PO X (À e) (x81 te):=by
 intro f s σ H Q I d;rw[evalPart_some];show zt (h f s σ H _ I d) λu k a=>?_
 let{x,c,g,b,j}:=a;let{i,rfl,q}:=j;let{t,rfl}:=b;show{À i,c,g,.int i t,q}
def ZN(X:Cx)(r:V->Ê Å->Ê Å->Hp->VK->È):È:=
 ∀(z8:Á ô) (s:Ï) (σ:St) (H:Hp) (x:V) (v vl vu:Value) (lo hi:Ê Å) (sl:Ì) (Q:VK),zI X z8 σ H s->yF x v->ÿf sl vl vu .none->Ĵb vl lo->Ĵb vu hi->r x lo hi H Q->
  ∃T id,ĸo ĥb ϑh=pure (À řb)/\Ŭb v T/\Ý Ą X.A (ϭc v (.ref sl)) ŕb ı s
def ZN.or{r a:V->Ê Å->Ê Å->Hp->VK->È}(h:ZN X r)(h':ZN X a):ZN X (λx lo hi H Q=>r x lo hi H Q\/a x lo hi H Q):=by intro d s σ H x v c b lo hi i Q I g j f e q;rcases q with q|q;show h d s σ H x v c b lo hi i Q I g j f e q;show h' d s σ H x v c b lo hi i Q I g j f e q
nonrec def x87(r:V->Ê Å->Ê Å->Hp->VK->È)(te:TE)(tl th:TO):TE:=λσ H Q=>te σ H λx b=>tl σ b λl c=>th σ c λu a=>r x l u a Q
def oy{r:V->Ê Å->Ê Å->Hp->VK->È}(B:ZN X r)(R:PE X e te)(p:PO X lo tl)(z:PO X hi th):PE X (.Subscript e ől pos) (x87 r te tl th):=by
 rw[ϭp];show īi (zt (R d s σ H _ I h) λv n c=>?_);let{x,m,N,k,S}:=c;show wpAny_Slice (zt (p d n σ m _ N S) λg y c=>?_);let{l,J,C,L,o}:=c;show zt (z d y σ J _ C o) λf a i=>?_
 let{u,j,E,K,P}:=i;rw[ġn];show Ĥ ?_;let G:zI X d σ j { a with ì:=òe { cls:=.type ņe,ċ:=.fields #[g,f,.none] } }:=E.kept (t':=Ŧd) λb U q=>Ĳ _ q
 let{T,Y,t,F,O}:=B d { a with ì:=òe { cls:=.type ņe,ċ:=.fields #[g,f,.none] } } σ j x v g f l u Ĩa Q G k (Heap.IsSliceOf.new ..) L K P;exact Ý Ą X.A (Ěn e ől v Ϡo) (EP X d σ Q) ı { a with ì:=òe { cls:=.type ņe,ċ:=.fields #[g,f,.none] } };show tail_any (ops:=[.ref Ĩa,v]) F t O Ĥa
def Xs(xs:Á V)(lo hi:Ê Å):Á V:=(ãl).take ŷk
def ib(xs:Á V)(lo hi:Ê Å):(œn).length<=æ:=by unfold Xs;rw[Ïa,Đa];show đ ėe đb
def sK(K:Ñ):V->Ê Å->Ê Å->Hp->VK->È:=λx lo hi H Q=>∃a xs,x=.ref a/\xK K H a xs/\
 ¬ (č æ 0 lo=0/\č æ æ hi=æ)/\∀p,H p=Æ->Q ž (ψ (.tup œn))
def x6i:ZN X (sK X.K):=by
 intro u s σ H x v t p lo hi w Q I m n l k h;let{a,d,rfl,j,i,q}:=h;cases m;let{e,r,f,g}:=ϭ j;let c:e.toArray.size=ăa:=by rw[ĥ];show ĝn
 show{ŷ,_,Ĝk,Êg,?_};refine HT.getItem_tuple_cut f n l k (by rw[c];show i) ?_ (by rw[c];show g);rw[c];show{.ref Þ,_,Ťa (t':=Ď) (o:=.tup (Xs d lo hi)) (λb y q=>Ĳ _ q) Đ ?_,rfl,q _ Ĳd};show{đ (ib d lo hi) g,_,(ļj (č ăa 0 lo)).take (č ăa ăa hi-č ăa 0 lo),űi _ _}
def sC(K:Ñ):R2:=λx y H Q=>∃a b xs ys,x=.ref a/\y=.ref b/\xK K H a xs/\xK K H b ys/\xs≠[]/\æ+Òa<=â/\
 (ys=[]->Q ŭ H)/\(ys≠[]->∀p,H p=Æ->Q ž (ψ (.tup Ôj)))
def zx.CO{xs:Á V}{us:Á Value}(r:zx xs us):us=[]↔xs=[]:=by
 cases r with
 |nil=>simp|ó _ _=>simp
def y9y:xF X Ħd (sC X.K):=by intro C s σ H x y v u Q I p n h;let{a,b,t,j,rfl,rfl,i,r,m,f,A,g}:=h;cases p;cases n;let{k,d,l,_}:=ϭ i;let{e,c,p2,_}:=ϭ r;show HT.cat_tup l p2 (λz=>m (d.CO.mp z)) (λz=>{.ref a,H,I,rfl,A (c.CO.mp z)}) (λz=>?_) (by rw[<-ăa,<-Ŕa];show f);show{.ref Þ,_,Ťa (t':=Ď) (o:=.tup (t++j)) (λb B q=>Ĳ _ q) Đ ?_,rfl,g (λw=>z (c.CO.mpr w)) _ Ĳd};show{by rw[î];show f,_,d.append c,űi _ _}
#print a
nonrec def ixN(n:Ã)(i:Å):Ê Ã:=if 0<=i then(if i<n then À ųb else Æ)else if -(n:Å)<=i then À (i+n).toNat else Æ
def g8{α:Type}(xs:Á α)(i:Å):Ê α:=(ixN æ i).bind λj=>xs[j]?
def m_{n:Ã}{i:Å}{j:Ã}(h:ixN n i=À j):seqIndex? i n=À j/\j<n /\ -(n:Å)<=i/\i<n:=by unfold ixN at h;by_cases h0:0<=i;rw[Ó h0]at h;by_cases h1:i<n;rw[Ó h1]at h;let e:ųb=j:=Ĭa h;show{by rw[òi h0 h1,e],by omega,by omega,h1};rw[Ô h1]at h;cases h;rw[Ô h0]at h;by_cases h1 : -(n:Å)<=i;rw[Ó h1]at h;let e:(i+n).toNat=j:=Ĭa h;show{by rw[Âi É h1,e],by omega,h1,by omega};rw[Ô h1]at h;cases h
def Me{α:Type}{xs:Á α}{i:Å}{v:α}(h:g8 xs i=À v):∃j,seqIndex? i æ=À j/\xs[j]?=À v/\j<æ /\ -(æ:Å)<=i/\i<æ:=by
 unfold g8 at h;cases e:ixN æ i with
 |Æ=>rw[e]at h;cases h|À j=>rw[e]at h;let{c,a,b,d}:=m_ e;show{j,c,h,a,b,d}
def MR(b:Õ):È:=∀o i,Éo b Â o i=operate [o,i] (ϭc o i)
def pU(X:Cx)(r:R2):È:=
 ∀(øb slice:Õ)(z8:Á ô) (s:Ï) (σ:St) (H:Hp) (x y:V) (v u:Value) (Q:VK),zI X z8 σ H s->yF x v->yF y u->r x y H Q->
  Éo slice Â v u=operate [v,u] (ϭc v u)->Ý Ą X.A (Ěn øb slice v u) ŕb ı s
def YG(X:Cx)(a:äa)(r:V->Á V->Hp->VK->È):È:=
 ∀(z8:Á ô) (s:Ï) (σ:St) (H:Hp) (x:V) (xs:Á V) (v:Value) (us:Á Value) (Q:VK),zI X z8 σ H s->yF x v->zx xs us->r x xs H Q->
  Ý Ą X.A ϧk ŕb ı s
section
variable{X:Cx}{a b:Õ}{ta tb:TE}{pos:Pos}
def pU.or{r c:R2}(h:pU X r)(h':pU X c):pU X (λx y H Q=>r x y H Q\/c x y H Q):=by intro a b f s σ H x y v u Q I e d q g;rcases q with q|q;show h a b f s σ H x y v u Q I e d q g;show h' a b f s σ H x y v u Q I e d q g
def PR{r:R2}(k:pU X r)(g:PE X a ta)(j:PE X b tb)(l:MR b):PE X Ÿl Ŋf:=by rw[àq];show īi (Gy g j I h λv u i x y d m f e q=>k a b c i σ d x y v u Q m f e q (l _ _))
def sG(K:Ñ):R2:=λx y H Q=>∃p xs i v,x=.ref p/\y=.int i/\yu K H p xs/\g8 xs i=À v/\Q v H
def DU(K:Ñ):R2:=λx y H Q=>∃p xs i v,x=.ref p/\y=.int i/\xK K H p xs/\g8 xs i=À v/\Q v H
def sH:R2:=λx y H Q=>∃z i c,x=.str z/\y=.int i/\ü<=â/\g8 Ēa i=À c/\Q Ķf H
def y25:pU X (sG X.K):=by
 intro d k n s σ H x y v u Q I J G h m;let{p,P,i,z,rfl,rfl,o,L,q}:=h;cases J;let{t,rfl}:=G;let{f,r,g,R}:=Ϟ o;let{j,b,A,O,E,F}:=Me L;let{w,l,e}:=ϸa A;let B:=ſ;let N:=Vu;let a:EP X n σ Q w s:={z,H,I,e,q};by_cases h0:0<=i;let c:ųb=j:=by rw[òi h0 F]at b;show Ĭa b
 show item_listR Īe h0 É ël a m;let c:(i+(f.toArray.size:Å)).toNat=j:=by rw[Âi É E]at b;rw[ĥ,<-B];show Ĭa b
 show Ød (x:=w) Źm Ól
  (wpAny_getItem_list_neg (Q:=λr C=>r=w/\EP X n σ Q r C) Īe É Űl É ël {rfl,a}) m
def y28:pU X (DU X.K):=by
 intro a d e s σ H x y v u Q I E C h o;let{p,O,i,z,rfl,rfl,g,F,q}:=h;cases E;let{t,rfl}:=C;let{A,r,f,P}:=ϭ g;let{j,B,k,J,L,N}:=Me F;let{w,l,b}:=ϸa k;let m:=ſ;let G:=Vu;let c:EP X e σ Q w s:={z,H,I,b,q}
 show Ød (x:=w) Êg Ál
  (Ġn (j:=j) (Q:=λr n=>r=w/\EP X e σ Q r n) f É É (by rw[ĥ,<-m];show B) (by simpa using l) {rfl,c}) o
def y27:pU X sH:=by
 intro a b A s σ H x y v u Q I n m h g;let{z,i,c,rfl,rfl,B,o,q}:=h;let{t,rfl}:=n;let{r,rfl}:=m;let{j,d,e,w,k,l}:=Me o;let f:ßf=ü:=by simp[ċc]
 rw[f]at d k l;let p:=Vu
 show tail_any (âd s z t) slot_str_getitem.lookup (getItem_str (c:=c) (by let e1:decide (i < -(2 ^ 63:Å))=Â:=Ę É;let e2:decide (i≥2 ^ 63)=Â:=Ę É;rw[e1,e2,Ϝh]) (by rw[d];rw[éq]) {.str {#[c]},H,ϟ _,{_,rfl},q}) g
def Ps(K:Ñ):R2:=λx y H Q=>sG K x y H Q\/DU K x y H Q\/sH x y H Q
def y26:pU X (Ps X.K):=y25.or (y28.or y27)
def y3q(its:Á Value)(n j:Ã)(u:Value):Ąe (·.setIfInBounds j u) { cls:=.type ĸ,ċ:=.seq Æa n }={ cls:=.type ĸ,ċ:=.seq (its.set j u).toArray n }:=by simp[Ąe]
theorem zI.lst{a:Á ô}{σ:St}{H:Hp}{s:Ï}{p:Ì}{xs:Á V}(I:zI X a σ H s)(h:H p=À Ěa) :∃(its:Á Value) (n:Ã),zx xs its/\Ē p=À { cls:=.type ĸ,ċ:=.seq Æa n }/\æ<=â:=by let{z,its,n,r,e}:=ĝ p _ h;show{its,n,r,e,z}
def zI.z4j{d:Á ô}{σ:St}{H:Hp}{s:Ï}{p:Ì}{xs c:Á V}{its ýb:Á Value}{n a:Ã}{f:Obj->Obj}(I:zI X d σ H s)(h:H p=À Ěa)(i:Ē p=À { cls:=.type ĸ,ċ:=.seq Æa n })(g:f { cls:=.type ĸ,ċ:=.seq Æa n }={ cls:=.type ĸ,ċ:=.seq Åi a })(r:zx c ýb)(k:Ŕa<=â)(t:Ã) :zI X d σ (ψ (.lst c)) { s with ì:=Ĩf p f,Ě:=t }:=by
 let e:(Ĩf p f).get? p=À { cls:=.type ĸ,ċ:=.seq Åi a }:=by rw[Íf f i (by rw[g]<;>rfl),g]
 refine ÿg (x:=p) (e:=p) (by rw[h];trivial) ĭ (λb u j q=>(ωa (Įb j)).trans q) {_,e} ?_;show{k,ýb,a,r,e}
def x3c:V->V->V->Hp->Ĺp->È:=λo i v H Q=>∃p xs k j,o=.ref p/\i=.int k/\H p=À Ěa/\ixN æ k=À j/\Q (ψa (xs.set j v))
def z0v:EM X x3c:=by
 intro A s σ H o i v J G u Q I z y x h;let{p,B,k,j,rfl,rfl,f,w,q}:=h;cases z;let{t,rfl}:=y;let{a,n,r,e,C}:=I.lst f;let{b,F,g,l}:=m_ w;let d:=ſ;let E:=Vu
 let m:zI X A σ (ψa (B.set j v)) { s with ì:=Ĩf p (Ąe (·.setIfInBounds j u)) }:=
  I.z4j f e (y3q a n j u) (r.set x j) (by rw[ņa];show C) Ď
 by_cases h0:0<=k;let c:ϛ=j:=by rw[òi h0 l]at b;show Ĭa b
 show W.ki_setAt e h0 É (by rw[ĥ,<-d];show l) ĥl;let c:(k+(Ũc:Å)).toNat=j:=by rw[Âi É g]at b;rw[ĥ,<-d];show Ĭa b
 show W.ki_setBack e É (by rw[ĥ,<-d];show g) É ĥl
def x6l(lo hi:Ê Å)(n:Ã):ěh.1=((č n 0 lo:Ã):Å)/\ěh.2.1=((č n n hi:Ã):Å)/\ěh.2.2=1:=by
 show{?_,?_,rfl};cases lo with
 |Æ=>simp[Åe,č]|À i=>simp only[Åe,č,ōm,show(1:Å)>0 by decide,Ů];by_cases h:i<0;simp only[h,Ů];rw[Èe Ϣj,űn,<-ĵh];simp only[h,áa];let{k,rfl}:=Ńb (Śc h);rcases Ēd k n with q|q;rw[ō,Ņa q,Èe ćg];show ăf Čg;rw[ō,ÿd q,Ķh ćg];show ăf ěj
 cases hi with
 |Æ=>simp[Åe,č]|À i=>simp only[Åe,č,ōm,show(1:Å)>0 by decide,Ů];by_cases h:i<0;simp only[h,Ů];rw[Èe Ϣj,űn,<-ĵh];simp only[h,áa];let{k,rfl}:=Ńb (Śc h);rcases Ēd k n with q|q;rw[ō,Ņa q,Èe ćg];show ăf Čg;rw[ō,ÿd q,Ķh ćg];show ăf ěj
def x6k(its:Á Value)(lo hi:Ê Å):ϴo Æa lo hi Æ=((its.drop (č ğb 0 lo)).take (č ğb ğb hi-č ğb 0 lo)).toArray:=by let{b,c,a}:=x6l lo hi its.toArray.size;unfold ϴo;rw[b,c,a];simp only[Òn,Áj,ĥ]<;>rfl
def sI(K:Ñ):V->Ê Å->Ê Å->Hp->VK->È:=λx c b H Q=>∃a xs,x=.ref a/\yu K H a xs/\∀p,H p=Æ->Q ž (ψa (Xs xs c b))
def x6g:ZN X (sI X.K):=by intro w s σ H x v u t e f y Q I m n l k h;let{a,c,rfl,j,q}:=h;cases m;let{i,r,g,p}:=Ϟ j;let d:=ſ;show{ĸ,_,Ól,Źm,?_};refine wpAny_getItem_list_slice Īe n l k .none ê ?_ Űl;rw[x6k,<-d];show{.ref Þ,_,Ťa (t':=Ď) (o:=.lst (Xs c e f)) (λb z q=>Ĳ _ q) Đ ?_,rfl,q _ Ĳd};show{đ (ib c e f) p,_,0,(ļj (č Ŕa 0 e)).take (č Ŕa Ŕa f-č Ŕa 0 e),ũ _ rfl}
nonrec def jR:V->Ð
 |.zD=>Ä|.bl _=>Ä|.int _=>Ä|.str _=>Ä|_=>Â
nonrec def pZ:V->V->Ð
 |.zD,.zD=>Ä|.bl a,.bl b=>a==b|.bl a,.int b=>ŭl==b|.int a,.bl b=>a==Ûf|.int a,.int b=>a==b|.str a,.str b=>a==b|_,_=>Â
def lF{A:ā}{s:Ï}{y x:V}{u v:Value}(f:yF y u)(c:yF x v)(g:jR y=Ä)(e:jR x=Ä):Ġb A s u v (pZ y x):=by
 cases y with
 |zD=>
  cases f;cases x with
  |zD=>cases c;show åh _|bl b=>cases c;show SeqAt.EqAt.none_bool b|int b=>let{t,rfl}:=c;show SeqAt.EqAt.none_int b t
  |str b=>let{t,rfl}:=c;show SeqAt.EqAt.none_str b t
  |_=>show ß (show Â=Ä from e) ř
 |bl a=>
  cases f;cases x with
  |zD=>cases c;show SeqAt.EqAt.bool_none a|bl b=>cases c;show SeqAt.EqAt.bool_bool a b|int b=>let{t,rfl}:=c;show SeqAt.EqAt.bool_int a b t
  |str b=>let{t,rfl}:=c;show SeqAt.EqAt.bool_str a b t
  |_=>show ß (show Â=Ä from e) ř
 |int a=>
  let{d,rfl}:=f;cases x with
  |zD=>cases c;show SeqAt.EqAt.int_none a d|bl b=>cases c;show SeqAt.EqAt.int_bool a d b|int b=>let{t,rfl}:=c;show SeqAt.EqAt.int_int a d b t
  |str b=>let{t,rfl}:=c;show Òm a d b t
  |_=>show ß (show Â=Ä from e) ř
 |str a=>
  let{d,rfl}:=f;cases x with
  |zD=>cases c;show SeqAt.EqAt.str_none a d|bl b=>cases c;show SeqAt.EqAt.str_bool a d b|int b=>let{t,rfl}:=c;show Ðm a d b t
  |str b=>let{t,rfl}:=c;show SeqAt.EqAt.str_str a d b t
  |_=>show ß (show Â=Ä from e) ř
 |_=>show ß (show Â=Ä from g) ř
def qD(x:V)(u:Value):Ð:=match u with
 |.none=>pZ .zD x|.bool b=>pZ Ϭa x|.int i _=>pZ Ŭ x|.str z _=>pZ Ϥa x|_=>Â
def HQ{x y:V}{u:Value}(r:yF y u)(f:jR y=Ä):qD x u=pZ y x:=by
 cases y with
 |zD=>cases r;rfl|bl b=>cases r;rfl|int i=>let{t,rfl}:=r;rfl
 |str z=>let{t,rfl}:=r;rfl
 |_=>show ß (show Â=Ä from f) ř
theorem Ic{x:V}:∀{xs:Á V}{us:Á Value},zx xs us->Ϲc jR=Ä->us.any ϲa=xs.any λy=>pZ y x
 |_,_,.nil,_=>rfl|y::xs,u::us,.cons r t,f=>by rw[ų,ě]at f;rw[Ďd,Ďd,HQ r f.1,Ic t f.2]
theorem QK{A:ā}{s:Ï}{x:V}{v:Value}(c:yF x v)(b:jR x=Ä):∀{xs:Á V}{us:Á Value},zx xs us->Ϲc jR=Ä->∀u∈us,Ġb A s u v (qD x u)
 |_,_,.nil,_=>λu a=>by cases a|y::xs,u::us,.cons r t,f=>λd a=>by rw[ų,ě]at f;rcases ň a with rfl|a;rw[HQ r f.1];show lF r c f.1 b;show QK c b t f.2 d a
def Be(x:V)(xs:Á V):Ð:=xs.any λy=>pZ y x
def Pp(K:Ñ)(a:Ð):R2:=λx y H Q=>∃p xs,y=.ref p/\(yu K H p xs\/xK K H p xs)/\jR x=Ä/\Ϲc jR=Ä/\Q (.bl (if a then !Be x xs else Be x xs)) H
def x03:xF X ϒc (Pp X.K Â):=by rw[ϥp];rcases b with b|b;let{a,r,e,j}:=Ϟ b;refine SeqAt.in_listAt ϲa Éj ϔe {.bl _,H,I,rfl,?_};rw[Ŧp];let{a,r,e,j}:=ϭ b;refine ŋm ϲa e ϔe {.bl _,H,I,rfl,?_};rw[Ŧp]
def x08:xF X æe (Pp X.K Ä):=by rw[ϥp];rcases b with b|b;let{a,r,e,j}:=Ϟ b;refine SeqAt.notIn_listAt ϲa Éj ϔe {.bl _,H,I,rfl,?_};rw[Ŧp];let{a,r,e,j}:=ϭ b;refine SeqAt.notIn_tupleAt ϲa e ϔe {.bl _,H,I,rfl,?_};rw[Ŧp]
def x09:xF X æe (Τd (!(!(ác j i 0 Œa 1).isEmpty))):=by rw[όp];show notIn_str {.bl _,H,I,rfl,q}
def z6c:vV X Ăd (λxs H Q=>∃p ys,xs=ēc/\ϡg/\Q ŋi H):=by intro i s σ H xs k Q I r h;let{p,ys,rfl,b,q}:=h;let{u,rfl,f}:=uD r;cases f;let j:=Vu;rcases b with b|b;let{d,c,e,g}:=Ϟ b;let a:=Ŕa;show Calls.call_len_list Éj ϐd {.int Òa,H,ϟ _,{Ď+1,by rw[ĥ,a]},q};let{d,c,e,g}:=ϭ b;let a:=Ŕa;show len_tuple e ϐd {.int Òa,H,ϟ _,{Ď+1,by rw[ĥ,a]},q}
def z6d:vV X Ăd (λxs H Q=>∃z,xs=Îj/\ü<=â/\Q ϡo H):=by intro a s σ H xs c Q I r h;let{z,rfl,d,q}:=h;rw[Åq];let b:=Vu;show len_str É {.int ü,H,ϟ _,{_,rfl},q}
def vV.or{f:Value}{r b:Á V->Hp->VK->È}(h:vV X f r)(h':vV X f b):vV X f (λxs H Q=>r xs H Q\/b xs H Q):=by intro c s σ H xs a Q I d q;rcases q with q|q;show h c s σ H xs a Q I d q;show h' c s σ H xs a Q I d q
def z6f:vV X Ęa (λxs H Q=>∃p ys,xs=ēc/\ϡg/\∀l,H l=Æ->Q Ϧc ϋn):=by
 intro z s σ H xs B Q I r h;let{p,ys,rfl,g,q}:=h;let{u,rfl,A}:=uD r;cases A
 have j:∀(a:Á Value),zx ys a->Òa<=â->∀(c:Heap)(f:Ã),(∀b o',Ē b=À o'->c.get? b=À o')->
   c.get? Þ=À { cls:=.type ĸ,dict:=Æ,ċ:=.seq Ŧb f,űd:=#[] }->EP X z σ Q ġb { s with ì:=c }:=λa d m c f k e=>
  {.ref Þ,_,Ťa (t':=Ď) k Đ (show xc ú X.w _ c _ ųc from{m,a,f,d,e}),rfl,q _ Ĳd}
 rcases g with g|g;let{a,d,y,m}:=Ϟ g;let i:=ăa;let{o,x,t,n,v}:=y.isList;show Ģn p ĭ x t v ϗk ϐd;let{a,d,y,m}:=ϭ g;let i:=ăa;let{o,x,t,n,v}:=y;show Ģn p Øb x t v ϗk ϐd
def B5:vV X ŷa (Δe ((yu X.K H p ys/\∀l,H l=Æ->Q Ϧc ſn)\/(xK X.K H p ys/\Q ž H))):=by
 intro j s σ H xs x Q I r h;let{p,ys,rfl,h}:=h;let{u,rfl,n}:=uD r;cases n;rcases h with⟨d,q⟩|⟨d,q⟩;let{a,f,g,m}:=Ϟ d;let i:=Ĝa;show call_tuple_list Īe (λc t=>?_) ϐd;let k:zI X j σ H { s with ì:=c }:=ŧd (t':=Ď) t
 let v:zI X j σ (zd H Óo ÿe) { s with ì:=c.push { cls:=.type ŷ,ċ:=.seq Ŧb } }:=
  k.laid (t':=Ď) (λb o e=>Ĳ _ e) Đ (show xc ú X.w _ _ _ ÿe from{m,a,f,űi _ _})
 show{.ref Óo,_,v,rfl,q _ (k.zi.fresh Đ)};let{a,f,g,m}:=ϭ d;show call_tuple_same g {.ref p,H,I,rfl,q}
def z26(K:Ñ)(T:äa)(x:V)(H:Hp):È:=match x with
 |.str _=>T = ķb|.int _=>T = ĸb|.ref p=>(T = ĸ/\∃xs,yu K H p xs)\/(T = ŷ/\∃o,Ϩ p=À o/\ùb=.type ŷ/\Ŝe=Æ) \/
   (T = ϐ/\((∃kvs,H p=À œ)\/∃kvs,H p=À ϳb))\/(T = ĺa/\∃S n,H p=À (.set S n))
 |_=>ÿ
def z27{m:Á ô}{σ:St}{H:Hp}{s:Ï}{T:äa}{x:V}{v:Value}(I:zI X m σ H s)(r:yF x v)(f:z26 X.K T x H) :Ŭb v T/\∀a,v=.ref a->∃ob,Ē a=À ob/\ob.dict=Æ:=by
 cases x with
 |str z=>let{t,rfl}:=r;cases(show T = ķb from f);show{âd s z t,λ_ e=>nomatch e}
 |int i=>let{t,rfl}:=r;cases(show T = ĸb from f);show{ġi s i t,λ_ e=>nomatch e}
 |ref p=>
  cases r;rcases f with⟨rfl,u,k⟩|⟨rfl,o,b,l,g⟩|⟨rfl,b⟩|⟨rfl,S,n,b⟩;let{q,_,j,_}:=Ϟ k;show{j.isList.typeIs,λa e=>?_};cases e;let{o,n,e,c,g,_}:=j;show{o,e,g};show{{o,Ť p o b,l},λa e=>?_};cases e;show{o,Ť _ o b,g};let z:∃o,Ē p=À o/\Ëo:=by rcases b with⟨h,b⟩|⟨h,b⟩;rw[Ýq];rw[Ýq]
  let{o,e,d}:=z;rw[Êq];let{o,_,_,_,e,d,_}:=ĝ p _ b;rw[Êq]
 |_=>show ęa f
nonrec def z1x(K:Ñ)(T:äa)(r:V->Á V->Hp->VK->È)(c:TE)(t:TA):TE:=λσ H Q=>c σ H λx a=>z26 K T x a/\t σ a λb d=>r x b d Q
variable{o e:Õ}{es:Á Õ}{to:TE}{t:TA}{Ņ:Ç}{Ű Ϡ:Pos}{T id:äa}{r:V->Á V->Hp->VK->È}
def x0i(z:Ňo T)(g:Slot T Ņ id)(i:Ļj řb=pure ϲg)(E:YG X id r)(F:PE X o to)(J:PA X ĵ t)(b:Î Ÿk q12)(f:((Ĩc Ϡ (ąb ĵ Ù)).all Ăi&&(ķk).all ģm
   && decide ((ĵ).length+([]:Á þg).length+ük<30))=Ä:=by rfl)
  (c:Î ča q12)(O:Î Òd q12)(a:Î ((Ĩc Ϡ Áf).any (·.1)=Â) q12) :
  PE X ùk (z1x X.K T r to t):=by
 rw[ßq];show čl b f c rfl (zt (F j s σ H _ I h) λv w d=>?_);let{x,q,m,l,p,n}:=d;let{A,u}:=z27 m l p;show{T,id,z,g,i,A,u,?_};let k:=J Ϡ j w σ q _ m n;rw[O]at k ⊢;refine àd (by exact(Â||(Ĩc Ϡ Áf).any (·.1))=Â;rw[a]<;>rfl) (ϵg ?_);show zt k λG L d=>?_
 let{N,C,P,y,B}:=d;show E j L σ C x N v G Q P l y B
#print a
def fK(X:Cx)(a:äa)(r:V->Á V->Hp->VK->È):È:=
 ∀(z8:Á ô) (s:Ï) (σ:St) (H:Hp) (x:V) (xs:Á V) (v:Value) (us:Á Value) (Q:VK),zI X z8 σ H s->yF x v->zx xs us->r x xs H Q->
  Ý Ą X.A ϧk ŕb ı s
def zx.one{x:V}{us:Á Value}(h:zx [x] us):∃u,us=[u]/\yF x u:=by cases h with|ó r t=>cases t;show{_,rfl,r}
theorem zx.rep{xs:Á V}{us:Á Value}(h:zx xs us):∀k:Ã,zx (Ŕo).flatten (Ŗ k us).flatten
 |0=>.nil|k+1=>by rw[ϓb,ϓb,íc,íc];show ϗf h (zx.rep h k)
theorem lT(its:Á Value):∀(k:Ã)(acc:Á Value),
  Ĥd (λx1 x2=>x1++x2) Õo (Ŗ k Æa)=(acc++(Ąo).flatten).toArray
 |0,acc=>by simp|k+1,acc=>by
  let e:Õo++Æa=(ŀi).toArray:=by simp
  let e2:ŀi++(Ąo).flatten=acc++(Ŗ ϕ its).flatten:=by rw[ϓb,íc,Ł]
  rw[<-e2,<-lT its k ŀi,<-e,ϓb,ćd]
section
variable{X:Cx}{z8:Á ô}{σ:St}{H:Hp}{s:Ï}{l b:Ì}{xs ys:Á V}
def zI.cC{its ýb:Á Value}{n:Ã}{f:Ü Value->Ü Value}{t':Ã}(I:zI X z8 σ H s)(a:H l=À Ěa)(e:Ē l=À { cls:=.type ĸ,ċ:=.seq Æa n })(g:f Æa=Åi)(hv:zx ys ýb)(c:Òa<=â) :zI X z8 σ ϋn { s with ì:=Ĩf l (Ąe f),Ě:=t' }:=by let q:=PySem.IsL.update e f;rw[g]at q;refine ÿg (x:=l) (e:=l) (by rw[a];show trivial) ĭ (λh u d b=>(ϊj ä (Ąe f) (Įb d)).trans b) {_,q} ?_;show{c,ýb,_,hv,q}
def zI.cB{its:Á Value}{t':Ã}(I:zI X z8 σ H s)(hv:zx ys its)(a:Òa<=â) :zI X z8 σ (zd H Þ ųc) { s with ì:=ûa { cls:=.type ĸ,ċ:=.seq Æa },Ě:=t' }:=
 Ťa ìf Đ {a,its,0,hv,ũ _ rfl}
theorem zI.fresh(I:zI X z8 σ H s):H Þ=Æ:=Ĕb Đ
def zI.MH(I:zI X z8 σ H s)(a:H l=À Ěa):æ<=â/\∃(its:Á Value) (n:Ã),zx xs its/\æ=ğb/\Ē l=À { cls:=.type ĸ,ċ:=.seq Æa n }:=by let{z,its,n,r,e}:=ĝ l _ a;show{z,its,n,r,ſ,e}
def oA{n:Ã}(h:n<=â):Àf n=Â:=by unfold Àf;show Ę É
#print a
section
variable{X:Cx}
def x33:V->Á V->Hp->VK->È:=λx a H Q=>∃l xs y,x=.ref l/\a=[y]/\H l=À Ěa/\æ<â/\Q .zD (zd H l ϙm)
def y46:fK X ėn x33:=by intro g s σ H x k v j Q I f d h;let{l,m,y,rfl,rfl,b,o,q}:=h;cases f;let{u,rfl,c}:=d.one;let{z,a,n,r,i,e}:=I.MH b;refine ŏb F.slot_list_append {_,e,rfl} F.entry_list_append (F.args_list_append_2 _ _) (PySem.list_append l Ŧb n u úm) {e,?_};refine{.zD,_,I.cC (ýb:=a++[u]) b e ê (Ľd (.cons c .nil)) ?_,rfl,q};rw[î,List.length_singleton];omega
def x36:V->Á V->Hp->VK->È:=λx a H Q=>∃l b xs zs,x=.ref l/\a=[.ref b]/\H l=À Ěa/\H b=À (.lst zs)/\æ+ϯo<=â/\Q .zD (zd H l (Γ (xs++zs)))
def y49:fK X "list.extend" x36:=by
 intro A s σ H x C v B Q I t j h;let{l,b,E,w,rfl,rfl,g,m,G,q}:=h;cases t;let{u,rfl,i}:=j.one;cases i;let{z,c,n,r,y,e}:=I.MH g;let{J,a,o,p,k,e2}:=I.MH m;let f:ţh+Ũc<=â:=by rw[ĥ,ĥ];omega
 let d:¬ (!c.toArray.isEmpty&&Àf (ţh+Ũc))=Ä:=by rw[oA f,Ïe];show ř
 refine ŏb F.slot_list_extend {_,e,rfl} F.entry_list_extend (F.args_list_extend_2 _ _)
  (AutoSeq1.list_extend_list_list_0 l Ťi n b Ŧb o d úm É) {e,e2,?_}
 refine{.zD,_,I.cC (ýb:=c++a) g e ê (Ľd p) ?_,rfl,q};rw[î];omega
def x3b:R2:=λx y H Q=>∃l k xs,x=.ref l/\y=.int k/\H l=À Ěa /\ -(2 ^ 63)<=k/\k<2 ^ 63/\æ*ϛ<=â/\
 ∀p,H p=Æ->Q ž (ψ (.lst (Źn).flatten))
def nM{α:Type}(xs:Á α)(k:Ã):(Ŕo).flatten.length=k*æ:=by
 induction k with
 |Øa=>simp|Ùa k ih=>rw[ϓb,íc,î,ih,Îi,ēd]
theorem x0a:xF X Āi x3b:=by
 intro L s σ H x y v u Q I J G h;let{l,k,N,rfl,rfl,C,E,w,p,q}:=h;cases J;let{t,rfl}:=G;let{z,b,n,r,A,e}:=I.MH C;have f:ĕb*ϛ<=â:=by rw[ĥ,<-A];show p
 let d:¬ ĕb*ϛ>ύo/8:=by
  let:(â:Ã)<=ύo/8:=by decide
  omega
 let i:¬ (!Builtin.List.listFitsIndex k)=Ä:=by rw[fitsIndex_both E w];show ř
 let c:¬ Àf (ĕb*ϛ)=Ä:=by rw[oA f];show ř
 let g:Ĥd Ŀn #[] (Ŗ (if b.toArray.isEmpty=Ä then 0 else ϛ) ßb)=(Ŗ ϛ b).flatten.toArray:=by
  let K:∀m:Ã,Ĥd Ŀn #[] (Ŗ m ßb)=(Ŗ m b).flatten.toArray:=λm=>by let:=lT b m [];rw[Ćd]at this;rw[Ũp]
  rw[K];cases b with
  |nil=>simp|ó a r'=>rw[Ô ê]
 refine wpAny_binaryOp_repeat_ref (T := ĸ) (U := ĸb) Í {_,e,rfl} (λB=>ġi B k t) noFill_list_mul F.fills_int_mul ϊm repeat_list F.slot_int_index.lookup
  (ŏb ϊm (ġi s k t) F.entry_int_rmul (F.args_int_rmul_2 _ _) (int___rmul___int_list k t l ßb n)
   {e,rfl,{_,e,rfl},ŏb F.slot_list_mul {_,e,rfl} F.entry_list_mul (F.args_list_mul_2 _ _) (AutoListH.list___mul___list_int_3 l ßb n k t i d c) {e,?_}})
 rw[g];show{.ref _,_,I.cB (t':=Ď) (r.rep ϛ) (by rw[nM,ūn];show p),rfl,q _ ϱc}
#print a
#print L2
namespace Att
open ģ Ćj PySem.Calls Ĭ
def y1v{P:ĭg}{h:Heap}:∀(ns:Á Å)(vs:Á Value),WellAll P h vs ńc->Ŷb vs ns:=by
 intro ns
 induction ns with
 |nil=>intro vs w;rw[Ĕd]at w;cases w;show .nil|ó n ns ih=>
  intro vs w;rw[ġ]at w;cases w with
  |ó a b=>cases a;show .cons _ _ (ih _ b)
def script_of{l:OpenLaw}{n:Ã}(p:ŀj=À n){P:ĭg}{h:Heap}{ϯ:Á WData}{c:Á Value}(b:l.row.toRowW.claim.pre ϯ=Ä)(j:WellAll P h c ϯ) :∃a vs ns,c=[ė a]/\ϯ=[WData.list ńc]/\Ĺ a=À { cls:=.type ĸ,ċ:=.seq Ōa }/\Ŷb vs ns/\ŵ<=n:=by
 let i:WShape.hasAll [] ϯ [.list .int]=Ä:=ún.1;let k:l.pre.holds [] { ϯ:=ϯ }=Ä:=ún.2;let{d,r,rfl,t,s}:=hasAllW_cons i;obtain rfl:=hasAllW_nil s;let{u,rfl,m}:=hasW_list t;let{ns,rfl}:=items_int m
 let e:ŵ<=n:=by
  unfold OpenLaw.pre at k
  let f:(WTm.not (.lt (.lit Ϟa) (.len (.arg 0)))).holds [] { ϯ:=[.list (ϐa .int)] }=Ä:=by let f:=(holds_andW k).1;rw[p]at f;show f
  let g:=condW_of f (w_not (w_lt w_lit (w_len_list (w_arg rfl))));rw[ç]at g;show Nat.le_of_not_lt λq=>?_
  let o:(n:Å)<((ŵ:Ã):Å):=by omega
  first
   |(rw[ò o]at g;show ß g Í)
   |(simp at g;omega)
 cases j with
 |ó w1 w2=>
  cases w2;cases w1 with
  |list ho hall=>show{_,_,ns,rfl,rfl,ho,y1v ns _ hall,e}
def post_true(l:OpenLaw)(ϯ:Á WData):l.row.toRowW.claim.post ϯ Ŧf ϯ=Ä:=
 postW_of (r:=Äi) (X:=Ŗo)
  (show Ņo [] Ŧf .bool=Ä by first|rfl|decide|simp[Ņo,WShape.arms,WShape.armsAll])
  (show(WTm.eq .res (.lit Ŧf)).value [] { ϯ:=ϯ,res:=À Ŧf,after:=ϯ }=À (.bool Ŗo)from w_eq_bool (w_res rfl) w_lit) rfl
#print Att
namespace L2
open ģ ĺ Ĭ
theorem z2i:∀{vs:Á Value}{ns:Á Å},Ŷb vs ns->zx ēa vs
 |_,_,.nil=>.nil|_,_,.cons n t h=>.cons {t,rfl} (z2i h)
def fN(H:Hp):È:=∀b,H b=Æ\/∃o xs,H b=À īo
def y34{P:ï}{w:è}{K:Ñ}{G R:Ç->Ê Value}{CX:gm}{k:Ã}{O a:Ì}{fd:Ō}{x:Ç}{sp:Sp}{c:Ï}{vs:Á Value}{ns:Á Å}(Z:ţ şe)(t:ťi Ģ G)(g:ťi ħi R)(Q:∀x:Ç,x ≠ Ği->R x=Ŵ x)(y:c.heap.NoLimit)(hg:c.gens=#[])(L:Ĝd a=À { cls:=.type ĸ,ċ:=.seq Ōa })(hi:Ŷb vs ns)(Y:ŵ<=â)(hr:xL k œd)(F:∀Ë:Heap,ţ Ë->Ŕd Ģ G->xi P w K G Ë CX k O fd [x] sp)(l:∀(s:Ï)(u:Value),Æc s fd {[u],[]} [(x,u)])(N:∀H:Hp,fN H->yu K H a ēa->sp ða H âm λ_ _ _=>ÿ)(U:∀H e s',CX [] H c (λ_ _ _=>ÿ) e s'->ÿ) :ëb Ţb œd Ðl Ϙj c:=by
 let X:=z2i hi;let E:=hi.length
 have j:∀H:Hp,fN H->yu K H a ēa->wR P w H şe->(∀b,H b≠Æ->b=a)->(H a≠Æ->Ϩ a=Æ)->
   ëb Ţb œd Ðl Ϙj c:=by
  intro H hO hS zi hA hK;let f:∀{b:Ì}{o:Obj},Ĝd b=À o->H b=Æ->(Þe).get? b=À o:=λe n=>y1c e n
  let T:∀{b:Ì}{o:Obj}{I:Ü Ĥb}{A:Ã},Ĝd b=À o->ĸa=.dict I A->H b=Æ:=λ{b o I A} e d=>by
   cases q:H b with
   |Æ=>rfl|À u=>have S:b=a:=hA b Ŗh;subst S;rw[L]at e;cases e;let d':Data.seq Ōa _=Data.dict I A:=d;cases d'
  let i:∀{b:Ì}{m:Ç->Ê Value},ťi b m->(Þe).Ns b m:=λ{b m} ⟨o,I,A,e,d,r⟩=>{o,I,A,f e (T e d),d,r}
  let p:ţ Þe:=λb o e=>f (Z b o e) (by
   cases q:H b with
   |Æ=>rfl|À u=>have S:b=a:=hA b Ŗh;subst S;rw[hK Ŗh]at e;cases e)
  let hM:Mod K G Þe:={p,i t,{R,i g,Q},let ⟨mc,h1,h2⟩:=y;{mc,i h1,h2}};let e0:VA P w K G Þe œd [] c H:={rfl,hM,λb o e=>y6p e,Îb (y1d _ _),trivial,λb g=>ß (show b∈([]:Á Ì)from g) ê,zi,.of_eq hg};show éf ((F _ p (i t)).run œd [] c H {ða,[]} ða ða _ _ hr e0 (l c ŭ) ūm (N H hO hS)) λr s' h=>?_
  cases r with
  |error e=>show(U H e s' h).elim|ok fl=>
   cases fl with
   |next=>show ęa h|brk=>show ęa h|žb=>show ęa h|ret u=>
    let{v,H',os,J,un,B,r',q}:=h;let q':v=.bl Ä:=q;subst q';obtain rfl:u=űf Ä:=r';show{rfl,OldK.of_keep λb o e=>?_,os,J};cases q:H b with
    |Æ=>show un.keep b o e q (by intro z;show ß (show b∈([]:Á Ì)from z) ê) ê|À u=>
     rcases hO b with z|⟨ob,xs,z⟩
     .rw[q]at z;cases z
     .let z2:=un.qA b ob _ z;let{e1,_}:=zi b _ z;let{e2,_}:=B b _ z2;rw[e]at e1;cases e1;show e2
 cases hk:Ϩ a with
 |À o=>have e:=Z a o hk;rw[L]at e;cases e;refine j Ûb (λ_=>.inl rfl) (.inr {_,Ōa,_,hk,rfl,rfl,rfl,by rw[ĥ,E];show Y,by simpa using X}) (λb u z=>by let C:(Æ:Ê HO)=À u:=z;cases C) (λb z=>ß rfl z) λz=>ß rfl z|Æ=>show j (λb=>if b=a then À (.yO { cls:=.type ĸ,ċ:=.seq Ōa } (.lst ēa))else Æ) (λb=>?_) (.inl (.inr {{ cls:=.type ĸ,ċ:=.seq Ōa },Ó rfl})) (λb u z=>?_) (λb z=>?_) λ_=>hk;by_cases g:b=a;show .inr {_,_,Ó g};show .inl Ğj;by_cases g:b=a;let C:=(Ó g).symm.trans z;cases C;subst g;show{L,by rw[ç];show Y,vs,_,X,L};let C:=(Ğj).symm.trans z;cases C;by_cases g:b=a;show g;show ß Ğj z
nonrec def gD(s:Ú)(j:Ã):Ú:=match s with
 |.ClassDef _ _ _ ķc _ _ _ _ _ _ _=>body.getD j ļm|_=>.Pass {0,0,0,0}
nonrec def jO(s:Ú):Óp:=match s with
 |.FunctionDef _ a _ _ _ _ _ _ _ _=>a|_=>{ posonlyargs:=[],ϯ:=[],vararg:=Æ,kwonlyargs:=[],kw_defaults:=[],kwarg:=Æ,defaults:=[] }
nonrec def v_(s:Ú):Á Ú:=match s with
 |.FunctionDef _ _ b _ _ _ _ _ _ _=>b|_=>[]
nonrec def zX(s:Ú):õa:=match s with
 |.FunctionDef _ _ _ _ _ _ sc _ _ _=>sc|_=>{ kind:=.function,Ňg:=[],isGenerator:=Â,isCoroutine:=Â }
abbrev xY:gm:=λ_ _ _ _ _ _=>ÿ
abbrev E0:XK:=λ_ _ _=>ÿ
def U3{X:Cx}:VR xY X E0:=λ_ _ _ _ _ _ _ h=>Ņj
structure Fun(K:Ñ)(x qual:Ç)(st:Ú)(f:Ì)(fd:Ō):È where
 ex:∃(oc:Value) (od:Ê Ì) (kV doc pm:Value) (an:Ê Ì) (cdv ct:Value) (osl:Ü Öb),
  fd=Àd x qual Ŝd Ôa Ŕ .none kV doc pm an cdv ct/\Ϩ f=À {oc,od,.func fd,osl}/\ůb K cdv qual=Ä
 kp:ïa K Ń=Ä
section
variable{P:ï}{w:è}{K:Ñ}{mg:Ç->Ê Value}{Ë:Heap}
def Fun.ok{x a:Ç}{st:Ú}{f:Ì}{i:Ō}{N ps:Á Ç}{k:Ã}{sp:Sp}(F:Fun K x a st f i)(S:zk N ps Ŕ)(d:∀vs H Q E,sp vs H Q E->Ć=ę)(c:∀(b:Value)(A:ā)(ĉ:Á Env)(s:Ï)(H:Hp)(vs:Á V)(Q:VK)(E:XK),xL k Æl->sp vs H Q E->
   ∃t,tV (îk).qU Ôa t/\t { nx:=λ_ H'=>Q .zD H',rt:=Q } ŷc H):xi P w K mg Ë xY ϕ f i ps sp:=by
 let{v,r,kV,l,o,p,b,u,m,rfl,j,g}:=F.ex;show lR j g S d λA ĉ s H vs Q E n e=>?_
 rw[Ðq]
def Fun.binds{x a:Ç}{st:Ú}{f:Ì}{g:Ō}{ps:Á Ç}(F:Fun K x a st f g)(h:∀(kV b e:Value)(d:Ê Ì)(c ct:Value)(us:Á Value),Ÿ=ę->Ìg (Àd x a Ŝd Ôa Ŕ .none kV b e d c ct) {us,[]}=pure Ąc):t7 K g ps []:=by let{l,m,kV,b,e,d,c,ct,i,rfl,k,j}:=F.ex;show .all (h kV b e d c ct)
def lh{x a:Ç}{st:Ú}{f:Ì}{i:Value}{j g:Ê Ì}{e:Ü Öb}{kV d h b ct:Value}(l:Ϩ f=À {i,j,.func Þk,e})(c:ůb K b a=Ä)(k:ïa K Ń=Ä):Fun K x a st f Þk:={{i,j,kV,d,h,g,b,ct,e,rfl,l,c},k}
#print a
def zS{A:ā}{k:Ã}(a:xL k A):ķa+1<ϓ:=Čb (ŏc (by decide:1<=64) _) a.units
def x6m{n:Ã}(h:n<=1000):n<â:=Čb h Í
def Yi{A B:È}(h:B):if Â=Ä then A else B:=by rw[Ô ř];show h
def Yj{A B:È}(h:A):if Ä=Ä then A else B:=by rw[Ó rfl];show h
def yN(H H':Hp):È:=∀b o,H b=À o->H' b=À o
def Ϩa(H:Hp):yN H H:=λ_ _ h=>h
def yN.trans{H e d:Hp}(a:yN H e)(b:yN e d):yN H d:=λc o h=>b c o (a c o h)
def yN.free{H H':Hp}(e:yN H H'){l:Ì}(h:H' l=ßo):H l=ßo:=by
 cases q:H l with
 |Æ=>rfl|À o=>rw[e l o q]at h;cases h
#print L2
set_option linter.all false
set_option maxRecDepth 100000
set_option maxHeartbeats 4000000
namespace L2
open ģ ĺ Ĭ
def Def(K:Ñ)(a:Ç->Ê Value)(x:Ç)(st:Ú)(ps:Á Ç):È:=
 ∃(f:Ì) (fd:Ō),Fun K x x st f fd/\a x=À Ń/\t7 K fd ps []
def vg(P:ï)(w:è)(K:Ñ)(b:Ç->Ê Value)(a:Heap)(x:Ç)(ps:Á Ç)(k:Ã)(sp:Sp):È:=
 ∃(f:Ì) (fd:Ō),b x=À Ń/\ïa K Ń=Ä/\t7 K fd ps []/\xi P w K b a xY k f fd ps sp
def wH(a:Ç->Ê Value)(x:Ç)(v:V):È:=∃u,a x=À u/\yF v u
section
variable{P:ï}{w:è}{K:Ñ}{mg:Ç->Ê Value}{Ë:Heap}
theorem Def.ok{x:Ç}{st:Ú}{N ps:Á Ç}{k:Ã}{sp:Sp}(d:Def K mg x st ps)(S:zk N ps Ŕ)(c:∀vs H Q E,sp vs H Q E->Ć=ę)(a:∀(f:Ì)(b:Value)(A:ā)(ĉ:Á Env)(s:Ï)(H:Hp)(vs:Á V)(Q:VK)(E:XK),xL k (ĝb (ãb x Ŕ Þ f b))->sp vs H Q E->
   ∃t,tV (qC xY P w K mg Ë N x Ŕ f b A ĉ s H E).qU Ôa t/\t { nx:=λ_ H'=>Q .zD H',rt:=Q } ŷc H):vg P w K mg Ë x ps ϕ sp:=by
 let{f,g,F,h,e}:=d;show{f,g,h,F.kp,e,ľa S c (a f)}
#print a
section
variable{X:Cx}{x:Ç}{p pos:Pos}{e:Õ}{es:Á Õ}{t:TA}{ps:Á Ç}{j k:Ã}{sp:Sp}{v:V}{T:äa}
nonrec def xJ:Õ->Ð
 |.Starred ..=>Â|_=>Ä
def tP{e:Õ}{es:Á Õ}{env:Env}(h:xJ e=Ä):ąb ĵ env=(Â,Ė e env)::ąb es env:=by cases e<;>first|rfl|cases h
theorem Wb{env:Env}{pos:Pos}:∀{es:Á Õ},es.all xJ=Ä->(àm).any (·.1)=Â
 | [],_=>rfl|e::es,h=>by rw[ų,ě]at h;rw[tP h.1];let a:=Wb (env:=env) (pos:=pos) h.2;unfold Ĩc at a ⊢;rw[ġ,Ďd,a];rfl
def WK{a:TE}(c:PE X e a)(b:PA X es t)(h:Î ϴ q12):PA X ĵ (Qm a t):=oV c b (tP h)
nonrec def Md:Õ->Ê Å
 |.Constant Ŭ _ _=>À i|_=>Æ
def z5d{e:Õ}{i:Å}(h:Md e=À i):∃k p,e=.Constant Ŭ k p:=by
 cases e<;>first|(cases h;done)|skip
 rename_i c k p;cases c<;>first|(cases h;done)|skip
 cases h;show{k,p,rfl}
def ϭa:Á Õ->Ê ϱf
 | []=>À []|e::r=>(Md e).bind λi=>(ďj).map (i::·)
theorem oW:∀{es:Á Õ}{is:Á Å},ϭa es=À is->PA X es (λ_ H Q=>Q (is.map Íd) H)
 | [],is,h=>by cases(show À []=À is from h);show U2|e::r,is,h=>by
  let q:((Md e).bind λi=>(ďj).map (i::·))=À is:=h;cases e1:Md e with
  |Æ=>rw[e1]at q;cases q|À i=>
   rw[e1]at q;let{k,p,rfl}:=z5d e1;cases e2:ϭa r with
   |Æ=>rw[e2]at q;cases q|À js=>rw[e2]at q;cases(show À (i::js)=À is from q);show WK oi (oW e2)
def PU(h:vg ú X.w X.K õ Ũ x ps k sp)(i:xL j X.A)(l:Gl X x)(d:PA X ĵ t)(hk:Î Òc q10)(c:Î ķ q10)(a:Î Ła q12):PE X Ϙa Ân:=by let{f,n,m,g,b,F}:=h;rw[ų,ě]at a;show x0k F (Ńj hk) l m g b .nil U3 d c (tP a.1) (Wb a.2)
def WL(h:wH õ x v)(a:Gl X x)(c:Î ķ q10):PE X ëa Ūe:=by let{u,b,r}:=h;show x0u a b r c
def x0j(b:Gl X x)(d:õ x=Æ)(hv:Ŵ x=À ĥb)(a:Î Êb q10)(c:Î ķ q10):PE X ëa ϙn:=
 x0h b d hv rfl a c
#print a
section
variable{X:Cx}
def vq:xF X (ϟa .FloorDiv) Ńk:=QQ λi j _ _ _ _ _ a q=>by let d:(0:Å)<j:=a.1;let c:j<2 ^ 64:=a.2;let b:j.natAbs.log2<64:=(ĥh).mpr É;show PyProof.Rows.floordiv_int É (by rw[ϭk i É];show q) (.inl (PyProof.noPylong_of_log2 É))
#print a
def vz:Ŵ "len"=À Ăd:=by rw[ţp]
def z61:Ŵ Šc=À Ÿh:=by rw[ţp]
def z63:Ŵ "sum"=À Ŭm:=by rw[ţp]
def M_:Ŵ "all"=À ŭm:=by rw[ţp]
def z62:Ŵ ϴa=À Ĕn:=by rw[ţp]
def iL:Ŵ ĸb=À Ŵa:=by rw[ţp]
def z5z:Ŵ ŗe=À ϝa:=by rw[ţp]
def Mz:Ŵ ķb=À ňa:=by rw[ţp]
def Mx:Ŵ ĸ=À Ęa:=by rw[ţp]
def Tk:Ŵ ŷ=À ŷa:=by rw[ţp]
def y2p{K:Ñ}:Ţ K Ŵa Ŵa=À Ä:=by rfl
def y2n{K:Ñ}:Ţ K ϝa Ŵa=À Ä:=by kernel_rfl
def y2o{K:Ñ}:Ţ K Ŵa ϝa=À Â:=by kernel_rfl
def y2m{K:Ñ}:Ţ K ϝa ϝa=À Ä:=by rfl
def y2r{K:Ñ}:Ţ K ùd Ŵa=À Â:=by kernel_rfl
def y2q{K:Ñ}:Ţ K ùd ϝa=À Â:=by kernel_rfl
def y2t{K:Ñ}:Ţ K ŷa ŷa=À Ä:=by rfl
def y2s{K:Ñ}:Ţ K ňa ňa=À Ä:=by rfl
def uQ{H:Hp}{p:Ì}(h:H p=Æ)(o:HO):yN H ſc:=λb u q=>by rw[yH (qF q h)];show q
def ϒa{n:Ã}(h:n<=1000):n<=â:=Üa (x6m h)
def XW(env:Env):Á Ùb->È
 | []=>ſb|p::r=>Įh p.1=À p.2/\XW env r
theorem XW.get{env:Env}:∀{cl:Á Ùb} {y:Ç} {c:Ì},XW env cl->ϛf y=À c->Įh y=À c
 | [],_,_,_,h=>by cases h|(n,a)::r,y,c,hc,h=>by
  rw[ϻd]at h;cases e:y==n with
  |Ä=>
   rw[e]at h;let d:y=n:=by rw[éq]
   subst d;let b:a=c:=by rw[ĺq]
   subst b;show hc.1
  |Â=>rw[e]at h;show XW.get hc.2 ŭa
nonrec def Tj(a:õa)(env:Env)(b:Á Ùb)(own:Á Ç):Ð:=
 ói λp=>p.1 != ("." : Ç)&&((p.2 == .local&&(Ĺf p.1||p.1==(".0" : Ç)))||p.2 == .globalImplicit||p.2 == .globalExplicit ||
  (p.2 == .free&&(žc p.1==À .cell||žc p.1==À .free)&&(b.lookup p.1).isSome))
nonrec def Žb(own:Á Ç)(y:Ç):Ç:=if Ĺf y||y==(".0" : Ç)then "." else y
def xj(N own:Á Ç):Á Ç:=ϓa (Žb own)++own
theorem Pw{env:Env}:∀{Ňg:Á (Ç×Ęc)} {y:Ç} {k:Ęc},
  (names.map λ(n,k)=>if(k==Ĩn&&Ön == .function&&žc n==À .cell)then(n,ĩn)else(n,k)).lookup y=À k->∃k0,(y,k0)∈Ňg/\(k=k0\/(k0=.free/\k=.cell))
 | [],_,_,h=>by simp at h|(n,k')::r,y,k,h=>by
  rw[ġ]at h;by_cases hc:(k'==Ĩn&&Ön == .function&&žc n==À .cell)=Ä;dsimp only at h;rw[Ó hc,ϻd]at h;cases e:y==n with
  |Ä=>
   rw[ŀq]
   subst b;let a:ĩn=k:=by rw[ĺq]
   let c:k'=.free:=by rw[ě,ě]at hc;simpa using hc.1.1
   show{k',ĳ,.inr {c,a.symm}}
  |Â=>rw[e]at h;let{k0,m,z}:=Pw (env:=env) ŭa;show{k0,æa _ m,z}
  dsimp only at h;rw[Ô hc,ϻd]at h;cases e:y==n with
  |Ä=>
   rw[ŀq]
   subst b;let a:k'=k:=by rw[ĺq]
   show{k',ĳ,.inl a.symm}
  |Â=>rw[e]at h;let{k0,m,z}:=Pw (env:=env) ŭa;show{k0,æa _ m,z}
def vN(X:Cx)(a:õa)(b:Á Ùb)(own:Á Ç)(C:Ì)(c:Ï)(d:Hp)(e:Á Ì)(pn:Á ô):Cx:=
 { X with N:=xj X.N own,s₀:=c,H₀:=d,env:=compEnvC a b C Ù,ĉ:=Ŝa,stack:=Ŝa,ex:=e,fn:=λ_=>Â,pn:=pn,xe:=λ_ _=>ÿ }
section
variable{X:Cx}{z8:Á ô}{σ:St}{H2:Hp}{s2:Ï}{ŕ:õa}{cl:Á Ùb}{own:Á Ç}{C D:Ì}{fp:Á Ì}
def iE(f:Tj ŕ Ù cl own=Ä){y:Ç}{k:Ęc}(h:(ϸd).names.lookup y=À k) :y ≠ "."/\((k=.local->Ĺf y=Ä\/y = ".0")/\((k=.cell\/k=.free)->(∃k0,(y,k0)∈ěd/\k0=.cell)\/(ńk/\∃c,ϛf y=À c))):=by
 let{k0,m,z}:=Pw h;let q:=øa f _ m;rw[ě]at q;let{g,e}:=q;refine{by simpa using g,λa=>?_,λa=>?_};rcases z with z|⟨_,z⟩;subst z;subst a;rw[éq];rw[z]at a;cases a;let b:k0=.free\/k0=.cell:=by rcases z with z|⟨z,_⟩;subst z;rcases a with a|a;show .inr a;show .inl a;show .inl z
 rcases b with b|b;subst b
 right
 let d:((šc y==À .cell||šc y==À .free)&&(ϛf y).isSome)=Ä:=by rw[éq]
 rw[ě]at d;show{?_,ϝk d.2};let:=d.1;rw[ϋm]at this;rcases this with t|t;show .inl ñm;show .inr ñm;show .inl {k0,m,b}
def Gz(b:Tj ŕ Ù cl own=Ä)(a:∀y∈ěd,y.2≠.cell){y:Ç}{k:Ęc}(h:(ϸd).names.lookup y=À k)(hk:k=.cell\/k=.free) :ńk/\∃c,ϛf y=À c:=by rcases(iE b h).2.2 hk with⟨d,m,e⟩|q;show ß e (a _ m);show q
def iF(I:zI X z8 σ H2 s2)(hk:ģi=.function)(f:∀y∈ěd,y.2≠.cell)(d:XW Ù cl)(j:Tj ŕ Ù cl own=Ä)(k:ðf<=C)(g:∀b∈fp,jw X z8 H2 b)(i:∀b∈fp,∃o,Ãi b=À o):(Ĕk).Ok where
 mod:=Ìj
 kind:=hk
 glob:=I.ok.glob
 blt:=I.ok.blt
 above:=k
 inj:=λx y c m l=>I.ok.inj x y c (d.get m) (d.get l)
 has:=λx a=>by rcases a with a|a;show(Gz j f (show(ϸd).names.lookup x=_ from a) ĭ).2;show(Gz j f (show(ϸd).names.lookup x=_ from a) Øb).2
 Ug:=λx c h=>by cases h
 hd:=óa
 Ňj:=äo
 JW:=.inl rfl
 JT:=λb a=>{by let{o,e}:=i b a;show ϱ (ύ ĕc k),λx c h=>Ĭj.2.2.2.2.1 x c (d.get h)}
 bs:=I.bs
 ZD:=đ Āg I.sz
 Uk:=λb o e a=>by rcases(g b a).2.2.2.1 with z|z;show I.ok.Uk b o e z;show ß (ύ ĕc (đ Āg z)) Ãa
 Uh:=λb a n=>by rcases ň (I.JX b n)with z|z;show Ĭj.2.1 z;show Ĭj.2.2.1 z
 jD:=I.stack
 XM:=I.cK
def BR{α:Type}{σ:Á (Ê α)}{n i:Ã}{v:α}(h:Őh[i]?=À Êa):σ[i]?=À Êa:=by
 by_cases hi:i<σ.length;rw[Ąb hi]at h;show h;rw[ăb É,ûl]at h
 split at h<;>cases h
def z5w{J:Heap}{m0:Ç->Ê Value}{j:Obj}{tk:Ã}(I:zI X z8 σ H2 s2)(hk:ģi=.function)(s:∀y∈ěd,y.2≠.cell)(g:XW Ù cl)(U:Tj ŕ Ù cl own=Ä)(Z:ðf<=C)(hD:ðf<=D)(R:D≠C)(L:∀b∈fp,jw X z8 H2 b)(K:∀b∈fp,∃o,Ãi b=À o)(f:∀b o,Ãi b=À o->Œj b=À o)(ns:J.Ns C m0)(hd:Œj D=À j)(Q:∀v,j.data≠.cell v) :zI Ĕk [(D,j)] þd H2 { s2 with ì:=J,Ě:=tk }:=by
 let S:∀a,ðf<=a->a ∉ jS Ŝa:=λa ha O=>by rcases ň (I.JX a O)with z|z;show ß (ύ I.lt ha) (by rw[z];show čd _);show I.cE ha z
 show{iF I hk s g U Z L K,rfl,ϱa,ŉe f,{m0,ns,λi y v e1 e2 e3=>?_},λx c h=>?_,Ĕb Z,λx c h=>ϋb x c (Ŋg h),λp hp=>?_,Òp f,?_};let A:σ[i]?=À Êa:=BR e2
 let hi:i<ć:=by let:=(ű A).1;rw[ĺb]at this;rw[Ũp]
 let q:Ìl[i]?=À y:=e1;rw[Ąb ąh,Ś]at q;cases en:X.N[i]? with
 |Æ=>rw[en]at q;cases q|À n=>
  rw[en]at q;let G:Žb own n=y:=Ĭa q
  let P:∃k,(ϸd).names.lookup y=À k/\(k=.local\/k=.cell\/k=.free):=by rcases e3 with z|z|z;show{_,z,.inl rfl};show{_,z,.inr ĭ};show{_,z,.inr Øb}
  let{k,H,kk}:=P;let{nd,T,_}:=iE U H;unfold Žb at G;by_cases E:(Ĺf n||n==(".0" : Ç))=Ä;rw[Ó E]at G;show ß G.symm nd;rw[Ô E]at G;subst G
  let F:k=.cell\/k=.free:=by
   rcases kk with z|z;exfalso
   apply E;rcases T z with t|t;rw[t];rfl;subst t;simp;show z
  let{ok,c,hc}:=Gz U s H F;let{m,hn,hl}:=ļa;let{u,r,l}:=hl i n v en A (.inr ok);show{u,r,.inr {?_,c,hc,?_}};rcases F with z|z;subst z;show .inl H;subst z;show .inr H;rcases l with⟨z,_⟩|⟨_,c',B,z⟩;rcases ok with t|t<;>(rw[t]at z;cases z);rw[Ŋg hc]at B;cases B;let{o,Y,w}:=z;show{o,f _ _ Y,w}
 let{v,o,E,w}:=ťa x c (Ŋg h);show{v,o,f _ _ E,w};rcases ϗ hp with z|z;let{e,n,ne,nf,d}:=ŧa p z;show{f _ _ e,n,ϱ (ύ ĕc Z),λO=>?_,d};rcases ň (I.JX p.1 O)with t|t;show ne t;show nf t;let e:p=(D,j):=by simpa using z
 subst e;show{hd,Ĕb hD,R,S D hD,Q};exact(þd).length=(Ìl).length;rw[î,î,Ĉb,ç,ĺb]
#print a
def VQ(X:Cx)(a:Á Õ)(b:TT):È:=
 ∀(z8:Á ô) (s:Ï) (σ:St) (H:Hp) (Q:Ð->Hp->È),zI X z8 σ H s->b σ H Q->
  Ý Ą X.A (Ķb a Ä λc r=>if r=Ä then do let ok <-Ťd c Ù (Ė c Ù);pure (ϰd ok)else pure (ϰd r)) Ŷh ı s
nonrec def x8c:TT:=λ_ H Q=>Q Ä H
def x2g{X:Cx}:VQ X [] x8c:=λ_ _ _ H _ I h=>wpAny_tests_nil {H,I,h}
def x2h{X:Cx}{c:Õ}{t:TT}(h:PT X c t):VQ X [c] t:=λa s σ H Q I q=>wpAny_tests_one (h a s σ H Q I q)
section
variable{Ī:ï}{w:è}{A:ā}{R:Ád->Ï->È}{s:Ï}
def y38{d tg b:Õ}{f:Á Õ}{a:õa}{pos:Pos}{it g:Value}{env:Env}(J:Ã->Ï->È)(j:∀n s,J n s->Ý ð A (ög it) (λr s₁=>match r with
   |Æ=>R Įo s₁|À v=>Ý ð A (àf tg it v) (λ_ z=>Ý ð A (Ðc tg env v) (λ_ s₂=>
    Ý ð A (Ķb f Ä λc r=>if r=Ä then do let ok <-Ťd c env (Ė c env);pure (ϰd ok)else pure (ϰd r)) (λok s₃=>
     if ok=Ä then Ý ð A (Ė d env) (λx s₄=>Ý ð A (Áb (.builtin ėn) [g,x]) (λ_ s₅=>∃m,m<n/\J m s₅) þc s₄) þc s₃
     else ∃m,m<n/\J m s₃) þc s₂) þc z) þc s₁) þc s)
  (n:Ã)(h:J n s):ëb ð A (.compLoop ŗk 0 it g env) R s:=by
 let i:∀{P:Value->Ï->È},∀e s',(λ_ _=>ÿ:Value->Ï->È) e s'->P e s':=λ_ _ z=>Ϯ
 show codeAny_loop rfl J (λn s t=>?_) n h;exact Ý _ A (Sem.onRaise (compTurn ŗk 0 it g env) (λx=>do noteFrame x env;theTreesLotGoes x)) _ _ s;show wpAny_noted ?_;rw[compTurn_list];show Ø (áf (Ø (ďa (j n s t) (λr s₁ l=>?_) i)));cases r with
 |Æ=>show Ĥ l|À v=>
  show Ø (ďa l (λ_ z u=>?_) i);show Ø (ďa u (λ_ s₂ q=>?_) i);show Ø (ďa q (λok s₃ k=>?_) i);cases ok with
  |Â=>show Ĥ {rfl,k}|Ä=>
   show Ø (Ø (ďa k (λx s₄ p=>?_) i));show Ø (ďa p (λ_ s₅ o=>Ĥ (Ĥ {rfl,o})) i)
#print a
abbrev uX(its:Á Value)(k:Ã):Obj:={ cls:=.type ĸ,ċ:=.seq Æa k }
def nO{its:Á Value}{k:Ã}:∀v,(Ůo).data≠.cell v:=λ_ z=>nomatch z
section
variable{X:Cx}{σ:St}{H:Hp}{s:Ï}{D:Ì}
def y1w{pl:Á ô}{its ýb:Á Value}{k k' tk:Ã}{h':Heap}(I:zI X ((D,uX its k)::pl) σ H s)(y:ßc<=D)(f:∀p∈Üc,p.1≠D)(w:Ĝb D ä h')(l:ĩ D=À (uX ýb k')):zI X [(D,uX ýb k')] σ H { s with ì:=h',Ě:=tk }:=by
 let{e,n,g,j,d}:=ŧa (D,uX its k) āi;let r:zI X [] σ H s:=I.JV λp a=>ß a ê
 let t:zI X [] σ H { s with ì:=h',Ě:=tk }:=r.turned (it:=D) (λb o u q=>(w.2 b u).trans q) n g (.inr y) (λx c i z=>by subst z;let{v,o,h,m}:=ťa x c i;rw[show Ē c=À Ůo from e]at h;cases h;show d v m) (λp a=>f p ċh)
 show t.JV λp a=>by
  let q:p=(D,uX ýb k'):=by simpa using a
  subst q;show{l,n,g,j,nO}
#print a
section
variable{X:Cx}{tg ό elt:Õ}{ifs:Á Õ}{ŕ:õa}{cl:Á Ùb}{own:Á Ç}{pos:Pos}{te:TE}{tc:TT}{g:TG}{wi:TI}
def w3h{fs ex:Á Ì}{H H':Hp}{h h':Heap}{D:Ì}{o:HO}(u:Un fs ex H H' h h')(g:Ðb<=D)(d:H' D=Æ):Un fs ex H ćo h h' where
 Ča:=Ře
 slot:=ġg
 free:=λb c q n i=>by rw[yH (λz=>by subst z;show ß (ύ őe g) Ãa)];show Ģg b c q n i
 ńg:=õg
 qV:=λb e q=>by rw[yH Ϭl];show u.qV b e q
 qA:=λb c v q=>by rw[yH ňl];show u.qA b c v q
 pR:=λb f q=>by rw[Âq]
def mV{P:ï}{w:è}{H:Hp}{h:Heap}{D:Ì}{o:HO}(x:wR P w H h)(d:H D=Æ)(a:xc P w ŝo h D o):wR P w ŝo h:=λb u e=>by by_cases hb:b=D;subst hb;rw[yo]at e;cases e;show a;rw[yH hb]at e;show(Ϝi).XQ (λc v _ q=>q) (λc q=>?_) (λc f q=>?_);rw[yH (qF q d)];show q;rw[yH (qF q d)];show q
structure XV(X:Cx)(ŕ:õa)(cl:Á Ùb)(own:Á Ç):È where
 kind:ģi=.function
 cell:∀y∈ěd,y.2≠.cell
 M8:XW Ù cl
 ok:Tj ŕ Ù cl own=Ä
 M9:Ło ŕ Ù=pure cl
 Ňg:∀y∈ěd,y.2=.local->scope.names.lookup y.1=À .local
structure MQ(X:Cx)(z8:Á ô)(H:Hp)(s:Ï)(C:Ì):È where
 free:H C=Æ
 ne:C≠ϳ
 old:ßc<=C
 cell:∀x c,ħa x=À c->c≠C
 pin:∀p∈Üc++z8,p.1≠C
def Bu(σ:St)(n:Ã)(J:It)(g:TG)(tc:TT)(te:TE)(W:Ã->Ã->Á V->Hp->È)(a:Á V->Hp->È):È:=
 ∀i m ys H,W i m ys H->(įg i H/\a ys H)\/(J.go i H/\Òa<â/\∃N:Á V->Hp->È,(∀ys' H',N ys' H'->∃m',m'<m/\W ñ m' ys' H')/\
  ∀x H',J.uh i H x H'->g x Őh H' λσ2 d=>(∃τ,σ2=σ++τ)/\tc σ2 d λc b=>if c=Ä then te σ2 b λy e=>N Ęp e else N ys b)
def iH{z8:Á ô}{σ:St}{H2:Hp}{F:Ï}{l:Á Ì}{it:Ì}{tn:Ã->Heap->È}{J:It}{W:Ã->Ã->Á V->Hp->È}{Fin:Á V->Hp->È}{m0:Ã}{RR:Value->Ì->Ád->Ï->È}(S:Ϝ=Ä)(B:XV X ŕ cl own)(I:zI X z8 σ H2 F)(T:j_ ú X.w X.K tg J l it tn)(t0:tn 0 F.heap)(G:∀b∈l,jw X z8 H2 b)(hg:∀C s H l pn,PG Ϯg tg g)(hc:∀C s H l pn,VQ Ϯg ifs tc)(he:∀C s H l pn,PE Ϯg elt te)(W0:W 0 m0 [] H2)(turn:Bu σ Ňb J g tc te W Fin)(hRR:∀D C s' H' ys m',zI X z8 σ Łn s'->H' D=Æ->Fin ys H'->s'.heap.Ns C m'->MQ X z8 Łn s' C->RR íj C Įo s'){E:Value->Ï->È} :Ý Ą X.A Ϝn (λacc s3=>Ý Ą X.A (newFunctionEnv ŕ Ϙh cl [] X.env.qual Æ .none (À Ù)) (λcenv s4=>
   ëb Ą X.A (.compStart āb 0 Ôb acc { cenv with ŕ:=relabel ŕ Ù }) (RR acc cenv.locals) s4) E s3) E F:=by
 refine łc (wpAny_newFunctionEnv řj (by intro y hy;simp at hy) (λh4 hns P=>?_) ţe);dsimp only at hns P ⊢;generalize hP:F.heap.push Ġp=P2 at hns P ⊢;have hC:ļf=śc+1:=by rw[<-hP,œb]
 let Q:śc≠ļf:=by rw[hC];show ϱ ŏe
 let f:śc<=ļf:=by rw[hC];show ĝf _
 let R:∀b o,æo b=À o->h4.get? b=À o:=λb o e=>
  P.extBut b o (ϱ āo) (Ĳ _ (hP▸Ĳ _ e))
 let hd4:h4.get? śc=À Ġp:=P.extBut _ _ Q (Ĳ _ (hP▸ũ _ rfl));let hfo:∀b∈l,∃o,æo b=À o:=λb d=>let ⟨o,e,_⟩:=ŵe 0 _ t0 b d;{o,e}
 let lt:∀b∈l,b<śc:=λb d=>let ⟨o,e⟩:=hfo b d;Ĵ e
 generalize hDD:śc=D at Q hd4 ⊢;generalize hCC:ļf=C at Q hns P f ⊢;let t:śc<=D:=Îb hDD
 let +zeta X':=vN X ŕ cl own C F H2 l (Üc++z8)
 let hpn:∀p∈X'.pn,p.1≠D:=λp hp z=>by let{e,_}:=ŧa p hp;rw[z]at e;show ß (ύ ĕc t) Ãa
 let okb:=iF I ţe řj B.M8 B.ok f G hfo
 let U:∀{k:Ã}{a:Á Value}{H':Hp},(∀b∈l,H' b=Æ)->∀b∈l,jw X' Łf H' b:=λ{k a H'} hn b d=>
  ⟨hn b d,ϛn.1,okb.Uh b d,.inl d,ϛn.2,λp hp=>by
   rcases ϗ hp with z|z;show Şd.2.2.2.2.2 p z;let q:p=(D,uX a k):=by simpa using z
   subst q;show λz=>ß (lt b d) (by rw[<-z];show Îe t)⟩
 have loop:∀s4:Ï,s4={ F with ì:=h4,Ě:=F.toks+([]:Á Śb).length }->
   ëb Ą X.A (.compLoop āb 0 Ôb íj (compEnvC ŕ cl C Ù)) (RR íj C) s4:=by
  rintro s4 rfl
  show y38 (λn s'=>∃(i:Ã) (ys:Á V) (a:Á Value) (k:Ã) (H':Hp),zI X' Łf þd H' s'/\zx ys a/\tn i Ϭc/\(∀b∈l,H' b=Æ)/\W i n ys H'/\Òa<=â) ?_ m0
   {0,[],[],0,H2,z5w I ţe řj B.M8 B.ok f t Q G hfo R hns hd4 nO,.nil,Ţe _ _ _ t0 λb _ o e=>R b o e,λb d=>Şd.1,W0,ýa _}
  rintro n s5 ⟨i,ys,a,k,H5,I5,v5,st5,fr5,w5,z5⟩;rcases turn i n ys H5 w5 with⟨Š,fin⟩|⟨go,room,N,hN,ļb⟩
  .show ďa (T.done X' rfl rfl rfl S i _ s5 _ H5 þc I5 (U fr5) st5 Š) (λr s6 ⟨hr,I6⟩=>?_) λ_ _ z=>z
   subst hr;let{e6,n6,ne6,nf6,d6}:=I6.pin (D,uX a k) āi;let{m6,ns6,_}:=I6.loc;let u6:Un Þj l H2 ϥh F.heap s6.heap:=w3h I6.base t n6;let new6:xc ú X.w ϥh s6.heap D ųc:={z5,a,k,v5,e6};let I7:zI X z8 σ ϥh s6:=I.CK I6.os u6 (mV I6.zi n6 new6) I6.bare (λb d=>{Şd.2.2.2.1,Şd.2.1,Şd.2.2.2.2.1,Şd.2.2.2.2.2});show hRR D C s6 H5 ys m6 I7 n6 fin ns6 {?_,?_,?_,λx c hcx z=>?_,λp hp z=>?_}
   .rw[yH (Įb Q)];show I6.free
   .show λz=>ß I.lt (by rw[<-z];show Îe f)
   .show đ I.sz f
   .subst z;let{v,o,ho,_}:=ťa x c hcx;show ß (ύ (Ĵ ho) f) Ãa
   .let{e,_}:=ŧa p hp;rw[z]at e;show ß āo Ãa
  .show ďa (T.item X' rfl rfl rfl S i _ s5 _ H5 þc I5 (U fr5) st5 go) (λr s6 ⟨u,hr,h6⟩=>?_) λ_ _ z=>z
   subst hr;show ďa h6 (λ_ s7 ⟨x,H7,I7,r7,y7,st7,fr7⟩=>?_) λ_ _ z=>z
   let I7':=I7.pinned (U fr7) (ŵe _ _ st7);show ďa (hg C F H2 l _ _ s7 _ H7 x u _ I7' r7 (ļb x H7 y7)) (λ_ s8 ⟨σ8,H8,I8,⟨τ,hτ⟩,q8⟩=>?_) λ_ _ z=>z
   subst hτ
   have back:∀{n':Ã}{Y:Á V}{m:Á Value}{k':Ã}{L:Hp}{O:Ï}{pl:Á ô},zI X' ((D,uX m k')::pl) Ój L O->zx Y m->tn ñ ŏj->(∀b∈l,L b=Æ)->W ñ n' Y L->Ϡc<=â->
     ∃(i:Ã) (ys:Á V) (a:Á Value) (k:Ã) (H':Hp),zI X' Łf þd H' O/\zx ys a/\tn i ŏj/\(∀b∈l,H' b=Æ)/\W i n' ys H'/\Òa<=â:=λ{n' Y m k' L O pl} Z v9 st9 fr9 w9 z9=>by
    let I9':zI X' [(D,uX m k')] Ój L O:=Z.JV λp hp=>Z.pin p (ĥa _ (by
     let q:p=(D,uX m k'):=by simpa using hp
     subst q;show ĳ))
    show{i+1,Y,m,k',L,I9'.weak ?_ (λj v e=>?_),v9,st9,fr9,w9,z9}
    .rw[I9'.len,<-I5.len]
    .let e':=BR e;rw[Ąb (ű e').1];show e'
   let h:∀{σ9:St}{L:Hp}{O:Ï},zI X' (Łf++On l s7.heap) σ9 L O->tn ñ ŏj/\∀b∈l,L b=Æ:=λ{σ9 L O} Z=>
    {Ţe _ _ _ st7 λb d o e=>Ħk.1,λb d=>by let{o,e,_}:=ŵe _ _ st7 b d;show Ħk.2.1}
   show ďa (hc C F H2 l _ _ s8 _ H8 _ I8 q8) (λc O ⟨L,Z,q9⟩=>?_) λ_ _ z=>z
   cases c with
   |Â=>
    rw[Ô ř]at q9 ⊢;let{m',hm,w9}:=hN _ _ q9;show{m',hm,back Z v5 (h Z).1 (h Z).2 w9 z5}
   |Ä=>
    rw[Ó rfl]at q9 ⊢;show ďa (he C F H2 l _ _ O _ L _ Z q9) (λyv sa ⟨y,Ha,Ia,ra,qa⟩=>?_) λ_ _ z=>z
    let{m',hm,wa}:=hN _ _ qa;let{ea,na,_}:=Ia.pin (D,uX a k) (ĥa _ (ņb _ ĳ))
    let szi:Ũc<=â:=by let:=v5.length;simp only[ĥ];omega
    show wpAny_list_append_plain (hsz:=szi) {k,ea} λd hlb hsb'=>?_
    let{kb,eb}:=hlb;let eb':d.get? D=À (uX ĵp kb):=by rw[eb];simp
    let Ib:zI X' [(D,uX ĵp kb)] Ój Ha { sa with ì:=d,Ě:=sa.toks }:=y1w (tk:=sa.toks) Ia t hpn hsb' eb';let stb:tn ñ d:=Ţe _ _ _ (h Ia).1 λb hbf o e=>(hsb'.2 b (λz=>ß (lt b hbf) (by rw[z];show Îe t))).trans e
    show{m',hm,back Ib (ϗf v5 (.cons ra .nil)) stb (h Ia).2 wa (by rw[î];show room)}
 show codeAny_compStart_list ϟn (T.self X.A 0 _ _ _ (Ţe _ _ _ t0 λb _ o e=>R b o e) ϟn)
def x7q(n:Ã)(wi:TI)(g:TG)(tc:TT)(te:TE):TE:=λσ H Q=>wi σ H λJ b=>∃W:Ã->Ã->Á V->Hp->È,(∃m,W 0 m [] b)/\
 Bu σ n J g tc te W λc a=>∀p,a p=Æ->Q ž ĩm
def MQ.inv{a:Á ô}{σ:St}{H:Hp}{s:Ï}{C:Ì}{h':Heap}(o:MQ X a H s C)(I:zI X a σ H s)(d:Ĝb C ä h'):zI X a σ H { s with ì:=h' }:=
 Ĵa (it:=C) (t':=Ď) (λb u c q=>(d.2 b c).trans q) o.free o.ne (.inr o.old) o.cell o.pin
def oj(a:Ϝ=Ä)(B:XV X ŕ cl own)(hi:PI X tg ό wi)(K:∀C s H fp pn,PG Ìa tg g)(y:∀C s H fp pn,VQ Ìa ifs tc)(L:∀C s H fp pn,PE Ìa elt te)(r:Î (∀x,Ŋb ό Ù x=pure x) q11) :PE X āb (x7q Ňb wi g tc te):=by intro l s σ H Q I h;rw[eval_ListComp];show Ũk (use:=Æ) rfl r B.M9 ţe B.names (zt (hi l s σ H _ I h) λv O z=>zt z λm P n=>?_);let{U,fp,Z,J,Y,e,t,T,d,q,W,{N,o},b}:=n;subst e;show iH (RR:=λc C=>compPost Ą X.A ı Æ (EP X l σ Q) c C) a B t T d q K y L o b ?_;intro D C R p u G E F j f k;show{G,f,λS i=>{.ref D,zd p D (.lst u),k.inv E i,rfl,j D F}}
def x86(i n:Ã)(wi:TI)(g:TG)(tc:TT)(te:TE):TS:=λD σ H=>wi σ H λJ b=>∃W:Ã->Ã->Á V->Hp->È,(∃m,W 0 m [] b)/\
 Bu σ n J g tc te W λc a=>∀p,a p=Æ->ϖa ýp ĩm
def rL{i:Ã}{x:Ç}{j c:Pos}(d:Ϝ=Ä)(hN:źa)(p:X.N[i]?=À x)(F:ϔd x=À .local)(B:XV X ŕ cl own)(t:üc āb (À İo) c.line Ù=pure Ä)(hi:PI X tg ό wi)(hg:∀C s H fp pn,PG Ìa tg g)(hc:∀C s H fp pn,VQ Ìa ifs tc)(he:∀C s H fp pn,PE Ìa elt te)(Y:Î (∀x,Ŋb ό Ù x=pure x) q11) :PS X (.Assign [.Name x j] āb c) (x86 i Ňb wi g tc te):=by
 intro r s σ H D I h;rw[exec_Assign_Name_used _ _ _ _ t];show Ø (áf (Ø ?_));exact Ý _ X.A (do let _ <-comprehension āb ŕ Ù _ Ϝn Â (Ė ό Ù) Ĕp) _ _ s
 refine Ø (zt (Ũk (use:=À ëk) (Q:=λ_ f=>SP X r D .next f) rfl Y B.M9 ţe B.names
  (zt (hi r s σ H _ I h) λv s1 h1=>zt h1 λK s2 O=>?_)) λ_ f G=>Ĥ (Ĥ G))
 let{it,fp,tn,J,H2,e,Z,T,n,U,W,{m0,P},k}:=O;subst e;show iH (RR:=λm C=>compPost Ą X.A ı Ĕp (λ_ f=>SP X r D .next f) m C) d B Z T n U hg hc he P k ?_;intro L C f S ys m' I' n' u o b;exact Ý _ X.A (Ðc İo Ù (.ref L)) _ _ f;show Ċm (z1q I' hN p (.inl F) (v:=.ref L) rfl (λs3 I3 q3=>?_) (.inr F));let{a,l,R}:=q3
 let E:C≠a:=by rcases R with z|z;rw[z];show b.ne;show λy=>b.cell x a z y.symm
 show{m',o.sameBut l E,λh' q=>?_};show{_,_,MQ.inv (H:=zd S L ųc) {b.free,b.ne,b.old,b.cell,b.pin} I3 q,u L n'}
#print a
structure QE(X:Cx)(e:Õ)(t:TE):È where
 h:PE X e t
structure QA(X:Cx)(es:Á Õ)(t:TA):È where
 h:PA X es t
structure QS(X:Cx)(st:Ú)(t:TS):È where
 h:PS X st t
structure QG(X:Cx)(e:Õ)(t:TG):È where
 h:PG X e t
structure MU(X:Cx)(es:Á Õ)(t:ZO):È where
 h:IN X es t
structure QI(X:Cx)(tg e:Õ)(t:TI):È where
 h:PI X tg e t
section
variable{X:Cx}{x:Ç}{p pos Ľa Ű Ϡ:Pos}{e a b c o:Õ}{es:Á Õ}{te to:TE}{t:TA}{r:R2}{v:V}{T id:äa}{j k i:Ã}
def qv(i:Ã){x:Ç}{pos:Pos}(c:Î Ìe q12)(hv:Î će q13)(b:Î ķ q10)(a:Î Æb q10):QE X ëa Űd:={WM c hv b a}
def x2x(h:wH õ x v)(a:Gl X x)(b:Î ķ q10):QE X ëa Ūe:={WL h a b}
def x2w(b:Gl X x)(d:õ x=Æ)(hv:Ŵ x=À ĥb)(a:Î Êb q10)(c:Î ķ q10):QE X ëa ϙn:={x0j b d hv a c}
nonrec def rC:Õ->Ð
 |.Name ..=>Ä|.Call ..=>Ä|.Subscript ..=>Ä|.Attribute ..=>Ä|.Constant ..=>Ä|.List ..=>Ä|.Tuple ..=>Ä|.BinOp ..=>Ä|_=>Â
def x1y{e:Õ}{env:Env}(h:rC e=Ä):∀įc,Ťd e env įc=(do let v <-įc;standAt e.pos;holding [v] Űo):=by cases e<;>first|(intro _;rfl)|cases h
def rh:QA X [] X5:={U2}
def Pn(b:QE X e te)(a:QA X es t)(h:Î ϴ q12):QA X ĵ Ϩi:={WK b.h a.h h}
nonrec def U4:Õ->Ð
 |.Name ..=>Ä|.Constant ..=>Ä|.BinOp ..=>Ä|.Call ..=>Ä|.UnaryOp ..=>Ä|.Subscript ..=>Ä|.Attribute ..=>Ä|_=>Â
def DJ{b:Õ}(h:U4 b=Ä):MR b:=by cases b<;>first|(intro _ _;rfl)|cases h
def DR{r:Á V->Hp->VK->È}(f:vV X řb r)(c:Gl X x)(g:õ x=Æ)(hv:Ŵ x=À řb)(d:QA X ĵ t)(i:Î Êb q10)(a:Î ķ q10)(b:Î Ła q12):QE X Ϙa àg:=by rw[ų,ě]at b;show{x0m f c g hv d.h i a (tP b.1) (Wb b.2)}
def U6{r:Á V->Hp->VK->È}(f:vV X ĥb r)(c:Gl X x)(g:õ x=Æ)(hv:Ŵ x=À ĥb)(d:QA X ĵ t)(i:Î Êb q10)(a:Î ķ q10)(b:Î Ła q12):QE X Ϙa àg:=by rw[ų,ě]at b;show{x0o f c g hv d.h i a (tP b.1) (Wb b.2)}
variable{g:TG}
nonrec def QM:Õ->Ð
 |.ListComp ..=>Â|.SetComp ..=>Â|.DictComp ..=>Â|_=>Ä
def o6{e:Õ}{tgt:Ê Õ}{n:Ã}{env:Env}(h:QM e=Ä):üc e tgt n env=pure Â:=by cases e<;>first|rfl|cases h
def rn(a:QE X e te)(b:Î Ĉe q12):QS X ϭh (z1y te):={rJ a.h (o6 b)}
def Po{i:Ã}{x:Ç}{Ľa:Pos}(a:źa)(hi:X.N[i]?=À x)(d:gw Ða x)(c:QE X e te)(b:Î Ĉe q12)(f:Î Āb q7) :QS X ϥe (Aj te īc):={x2b a hi d c.h (o6 b) f}
def ye{i:Ã}{x:Ç}(b:źa)(hi:X.N[i]?=À x)(a:gw Ða x)(c:Î Āb q7):QG X ëa īc:={x1a b hi a c}
def rj{o i:Õ}{to a:TE}{t:MW}(b:QE X o to)(hi:QE X i a)(c:EM X t)(d:Î (U4 i=Ä) q12):QG X øh (ly to a t):=by show{x1b b.h Ķc c ?_};cases i<;>first|(intro _;rfl)|cases d
def jb:MU X [] T_:={x1e}
def vt{t:TG}{u:ZO}(b:QG X e t)(a:MU X es u)(c:Î ((ķn).map (·.2)=Ðc e Ù::(Ϛd).map (·.2)) q12):MU X ĵ (ZV t u):={x1d b.h a.h c}
def ja{k:Ã}{t:ZO}{n:Ã}(c:Ϝ=Ä)(h:MU X es t)(b:Î ům q12)(a:Î ((Ϛd).findIdx? (·.1)=Æ) q12):QG X Ļm Ϥn:={x1c c h.h b a}
variable{Ņ:Ç}{rm:V->Á V->Hp->VK->È}
theorem z1l{env:Env}{pos:Pos}:∀{es:Á Õ},es.all xJ=Ä->(àm).all Ăi=Ä
 | [],_=>rfl|e::es,h=>by rw[ų,ě]at h;rw[tP h.1];let a:=z1l (env:=env) (pos:=pos) h.2;unfold Ĩc at a ⊢;rw[ġ,ų,a];rfl
def QV(j:Ňo T)(c:Slot T Ņ id)(g:Ļj řb=pure ϲg)(k:YG X id rm)(l:QE X o to)(i:QA X ĵ t)(a:Î Ÿk q12)(b:Î ča q12)(d:Î Ła q12)(m:Î ((ĵ).length<30) q10) :QE X ùk (z1x X.K T rm to t):={by let f:=z1l (env:=Ù) (pos:=Ϡ) d;rw[ų,ě]at d;show x0i j c g k l.h i.h a ?_ b (tP d.1) (Wb d.2);rw[f];exact(Ä&&Ä&&decide ((ĵ).length+0+0<30))=Ä;rw[ò (show(ĵ).length+0+0<30 from m)];rfl}
#print a
def SqB(K:Ñ)(H:Hp)(a c:Ì)(xs b:Á V):È:=(xK K H a xs/\xK K H c b)\/(yu K H a xs/\yu K H c b)
section
variable{X:Cx}{z8:Á ô}{σ:St}{H:Hp}{s:Ï}
def x3j{A:ā}{a c:Ì}{xs f:Á V}{e:Ã->Ð}(I:zI X z8 σ H s)(k:ķa<ϓ)(R:SqB X.K H a c xs f)(Q:∀(j:Ã) x' y' u v,xs[j]?=À x'->f[j]?=À y'->yF x' u->yF y' v->Ġb ϔ s u v (e j)) :Ĭi A s ŭ âg ((Ϡl).all e&&æ==Ĝa)/\Éi A s ŭ âg (!((Ϡl).all e&&æ==Ĝa)):=by
 let g:∀{y:Á V}{b:Á Value}{j:Ã}(O:j<ĕb),zx y b->∃z,y[j]?=À z/\yF z ßb[j]:=λ{y b j} O r=>by
  let E:=ſ
  let l:j<ôc:=by rw[ĥ]at O;omega
  let{u,n,S}:=ϸa (ğ l);show{_,ğ l,?_}
  let:ßb[j]=u:=by let B:b[j]?=À b[j]:=ğ É;rw[B]at n;simpa using n
  rw[this];show S
 rcases R with⟨F,G⟩|⟨F,G⟩;let{b,t,h,_}:=ϭ F;let{i,w,pc,_}:=ϭ G;let P:=ϫ;let B:=îa
 let d:∀j (x:j<ĕb) (o:j<ęf),Ġb ϔ s ßb[j] Åp[j] (e j):=λj x o=>by rw[Ϥp]
 let p:=SeqAt.RcAt.tuples (e:=e) h pc k d;let q:=SeqAt.RcNeAt.tuples (e:=e) h pc k d;rw[ĥ,ĥ,<-P,<-B]at p q;show{p,q};let{b,t,h,_}:=Ϟ F;let{i,w,pc,_}:=Ϟ G;let P:=ϫ;let B:=îa
 let d:∀j (x:j<ĕb) (o:j<ęf),Ġb ϔ s ßb[j] Åp[j] (e j):=λj x o=>by rw[Ϥp]
 by_cases E:æ=Ĝa;let m:ĕb=ęf:=by rw[ĥ,ĥ];omega
 let p:=SeqAt.RcAt.lists (e:=e) Ég Ϙf m k d;let q:=SeqAt.RcNeAt.lists (e:=e) Ég Ϙf m k d;let e1:min æ Ĝa=ĕb:=by rw[ĥ];omega
 let e2:ŕo=Ä:=by simp[E]
 rw[e1,e2,ϝh];show{p,q};let m:(ĕb != ęf)=Ä:=by rw[ĥ,ĥ];simp;omega
 let e2:ŕo=Â:=by simp[E]
 rw[e2,Ïe];show{SeqAt.RcAt.lists_lengths Ég Ϙf m k,SeqAt.RcNeAt.lists_lengths Ég Ϙf m k}
def Bd(A:ā):A.in1.units=ķa+1:=rfl
#print a
def z85{x:V}(h:jR x=Ä):pZ x x=Ä:=by cases x<;>first|rfl|show Ŏb _|cases h
open Ćj (hideAll)
#print L2
namespace L2
open ģ ĺ Ĭ
section
variable{H H':Hp}{a C:Ì}
def z4r(a C:Ì)(h:Heap):È:=∃o vs,Ĺ a=À o/\ùb=.ref C/\ĸa=.fields vs
def w3i{fs ex:Á Ì}{H H':Hp}{h h':Heap}{D:Ì}{o:HO}(u:Un fs ex H H' h h')(g:Ĺ D=Æ)(d:H' D=Æ):Un fs ex H ćo h h' where
 Ča:=Ře
 slot:=ġg
 free:=λb c q n i=>by rw[yH (λz=>by subst z;rw[g]at q;cases q)];show Ģg b c q n i
 ńg:=õg
 qV:=λb e q=>by rw[yH Ϭl];show u.qV b e q
 qA:=λb c v q=>by rw[yH ňl];show u.qA b c v q
 pR:=λb f q=>by rw[Âq]
#print a
section
variable{e:Õ}
def y1s{a:Å}(h:a.natAbs.log2<1920):(Ϣb (ĭd a)).length<=1921:=by let e:=int_text_length_le (k:=1920) Í h;rw[PySem.ofString_length];show e
def w18{a:Ç}{m:Ã}(h:Èa<=m)(b:Î (m<=16777216) q10):Èa<=â:=đ h (by rw[Ŧ];show b)
#print a
section
variable{X:Cx}
def F9{ns:Á Å}{its:Á Value}(r:zx ēa its){i:Ã}{v:Value}(h:Æa[i]?=À v):∃t,v=.int êp t:=by
 let d:i<ğb:=by rw[ðd]at h;show Ϫa.1
 let e:ŵ=ğb:=by let:=ſ;rw[ç]at this;rw[Ũp]
 let c:ēa[i]?=À (Δ êp):=by rw[Ś,Úa,ğ É];rfl
 let{u,a,b}:=ϸa c;rw[ðd,a]at h;cases h;show b
theorem Pc{ns:Á Å}:∀(k:Ã),k<=ŵ->śe èn k=(şf).sum
 |0,_=>by simp[śe]|k+1,h=>by rw[śe,Pc k É,Ûd É,List.sum_append,Úa,ğ É];exact _+ns[k]=_+(ns[k]+0);rw[Ŀf]
def fS(ns:Á Å):È:=(∀n∈ns,İg n)/\∀k,k<=ŵ->İg (şf).sum
def sL(K:Ñ):Á V->Hp->VK->È:=λa H Q=>∃(p:Ì) (ns:Á Å),a=ēc/\(yu K H p ēa\/xK K H p ēa)/\fS ns/\Q (.int Ŀj) H
def z1u{ns:Á Å}(h:fS ns):∀j,j<ŵ->İg (ųf j 0)/\İg (śe èn ϻ):=λj a=>by show{h.1 _ ?_,?_};rw[Úa,ğ a];show Ëb a;rw[Pc _ É];show h.2 _ É
def z6k(F:Ϝ=Ä):vV X Ŭm (sL X.K):=by
 intro J s σ H N L Q I r h;let{p,d,rfl,j,B,q}:=h;let{u,rfl,G}:=uD r;cases G;let A:=óa F;let e:śe (λi=>Şe i 0) ăa=d.sum:=by rw[Pc _ Đ,îc]
 show call_sum_walk ?_;rcases j with j|j;let{a,l,t,C}:=Ϟ j;rw[Ϲp]
 let c:p<Þ:=by let{o,n,e,_}:=t;show Ĵ e
 show èd t.isList ?_;refine{_,_,_,_,_,_,λi=>Şe i 0,rfl,ĩi Ģo Þ p čg Ŧb,{{_,ũ _ rfl,rfl,rfl},t.isList.push _},?_,λi v x=>F9 l x,?_,?_};rw[Ϛp];rcases w with rfl|rfl;rw[ϡp]
 show⟨.int d.sum,H,ŧd (t':=y) λb o g=>k b o (λz=>by
  rw[äq]
  rw[this]at g;show ß ĝj Ãa) Ēp,{_,rfl},q⟩
 let{a,l,t,C}:=ϭ j;rw[Ϲp]
 let f:óc p Ŧb:=t;let c:p<Þ:=by let{o,e,_}:=f;show Ĵ e
 show Æh f ?_;refine{_,_,_,_,_,_,λi=>Şe i 0,rfl,Walks.tuple Ģo Þ p čg Ŧb,{{_,ũ _ rfl,rfl,rfl},f.push _},?_,λi v x=>F9 l x,?_,?_};rw[Ϛp];rcases w with rfl|rfl;rw[ϡp]
 show⟨.int d.sum,H,ŧd (t':=y) λb o g=>k b o (λz=>by
  rw[äq]
  rw[this]at g;show ß ĝj Ãa) Ēp,{_,rfl},q⟩
def w3k{a:Á Ð}{its:Á Value}(r:zx Őo its){i:Ã}{v:Value}(h:Æa[i]?=À v):v=.bool Ĉn:=by
 let e:i<ğb:=by rw[ðd]at h;show Ϫa.1
 let f:Èa=ğb:=by let:=ſ;rw[ç]at this;rw[Ũp]
 let d:Őo[i]?=À (.bl Ĉn):=by rw[Ś,Úa,ğ É];rfl
 let{u,b,c}:=ϸa d;rw[ðd,b]at h;cases h;show c
def x3i{d:Á Ð}:(Ía ăa).all (λi=>Şe i Â)=ŋg id:=by
 rw[ţc,Œm,Œm]
 rw[Ěq];intro h b e;let{i,c,rfl}:=úl e;let:=h i (êc c)
 rwa [Úa,ğ c]at this;intro h i c;let a:=ŋb c;rw[Úa,ğ a];show h _ (Ëb a)
def sA(K:Ñ):Á V->Hp->VK->È:=λa H Q=>∃(p:Ì) (bs:Á Ð),a=ēc/\yu K H p (ŋj V.bl)/\Q (.bl (bs.all id)) H
def B4(x:Ϝ=Ä):vV X ŭm (sA X.K):=by
 intro F s σ H L J Q I r h;let{p,d,rfl,m,q}:=h;let{u,rfl,B}:=uD r;cases B;let y:=óa x;show call_all_walk ?_;let{a,j,g,N}:=Ϟ m;let w:ăa=Ũc:=by let:=Œa;rw[ç]at this;rw[ĥ];rw[Ũp]
 let c:p<Þ:=by let{o,n,e,_}:=g;show Ĵ e
 show èd Īe ?_;refine{_,_,_,_,_,_,λi=>Şe i Â,rfl,ĩi Ġo Þ p čg Ŧb,{{_,ũ _ rfl,rfl,rfl},g.isList.push _},?_,?_};intro i v G E C t l;rw[w3k j t];show Ĥ l;intro l A k;rw[<-w,x3i]
 show⟨.bl (ŋg id),H,ŧd (t':=A) λb o f=>k b o (λz=>by
  rw[äq]
  rw[this]at f;show ß (Ĵ f) Ãa) (Ĳ _ f),rfl,q⟩
#print a
open Builtin.SmallTypes (Ãc)
structure VT(P:ï)(w:è)(it l:Ì)(st:Ã->Heap->È)(n:Ã)(val:Ã->Value):È where
 Ča:∀i h h',st i h->(∀b o,(b=it\/b=l)->Ĺ b=À o->ĩ b=À o)->st i h'
 ϕa:∀{A:ā}{Q:Value->Ï->È}{E:Value->Ï->È}{s:Ï}(i:Ã),st i ä->i<n->(∀h',st ñ h'->Ĝb it ä h'->Q (val i) { s with ì:=h' })->Ý Ţb A Ϥf Q E s
 done:∀{A:ā}{Q:Value->Ï->È}{E:Value->Ï->È}{s:Ï}(i:Ã),ŧb=Æ->st i ä->n<=i->
  (∀h' e,åo it ä h'->(∃o,ĩ e=À o/\ùb=.type Äe)->E Ōd { s with ì:=h' })->Ý Ţb A Ϥf Q E s
section
variable{Ī:ï}{w:è}{A:ā}{E:Value->Ï->È}{s:Ï}
def y4q{it t:Ì}{i:Ã}{zC}{x:Value}{Q:Value->Ï->È}(a:Ím it t i)(h:óc t zC)(j:zC[i]?=À x)(f:∀h',h'.IsTupleIter it t ñ->Ĝb it ä h'->Q x { s with ì:=h' }):Ý ð A Ϥf Q E s:=by
 let{o,c,g,b}:=id a;let{l,e,_,k,d}:=h;unfold Ãc
 show Ø (Ýd (Ņ:=Ϣb ŭf) a.typeIs ϟe
  (Ņc ϟe a.typeIs ňk ?_ ħk))
 show Ø (m:=İc Ôb 0) (ła c b (x:=.ref t) rfl ?_);rw[Îq];show Ø (m:=İc Ôb 1) (ła c b (x:=.int i 0) rfl ?_);show Ø (m:=seqItems? (.ref t)) (Éb e d ?_);simp only[ō,j];refine Ø (Ïn c b ê (Ĥ {x,rfl,Ĥ (f _ ?_ (ϑl ..))}))
 show{_,Íf _ c (Obj.isFreed_of_fields (Óm b _)),(Obj.cls_mapFields ..).trans g,by rw[Óm b];simp[Ŋe]}
def y4p{it t:Ì}{i:Ã}{zC}{Q:Value->Ï->È}(h:ŧb=Æ)(b:Ím it t i)(j:óc t zC)(k:zC[i]?=Æ)(l:∀h' e,åo it ä h'->(∃o,ĩ e=À o/\ùb=.type Äe)->E Ōd { s with ì:=h' }):Ý ð A Ϥf Q E s:=by
 let{o,g,p,d}:=id b;let{q,f,_,n,c}:=j;unfold Ãc
 show Ø (Ýd (Ņ:=Ϣb ŭf) Łd ϟe
  (Ņc ϟe Łd ňk ?_ ħk))
 show Ø (m:=İc Ôb 0) (ła g d (x:=.ref t) rfl ?_);rw[Îq];show Ø (m:=İc Ôb 1) (ła g d (x:=.int i 0) rfl ?_);show Ø (m:=seqItems? (.ref t)) (Éb f c ?_);simp only[ō,k];refine Ø (Αd (Ïn g d ê ?_));show Ø (m:=newExc (.type Äe) []) ?_;simp only[newExc,newTuple];show Ø (łc ?_ Ąn);refine Ø (m:=Õn _ _) (Æo (a:=ĉd) (by first|rfl|(simp only[Õn];rfl)) ?_);show łc ?_ Ąn;simp only[raiseNew];show Ø (wpAny_handled ?_)
 first|rw[show A.in1.handled=Æ from h]|rw[h]
 show Ø (Ĥ (wpAny_throw ?_));show l _ _ (((ϑl ..).extBut.push _).push _) {_,ũ _ rfl,rfl}
def x70{it l:Ì}(d:l≠it)(a:Ü Value):VT Ī w it l (λi h=>Æi it l i/\h.IsList l a) ù ïh where
 Ča:=λi h f st k=>{st.1.at λo e=>k it o ĭ e,st.2.at λo e=>k l o Øb e}
 ϕa:=λi st b j=>wpAny_nextOf_list_item st.1 st.2 (x:=a.getD i .none) ťm λf c g=>j f {c,st.2.extBut g.extBut d} g
 done:=λi m st b n=>wpAny_nextOf_list_end m st.1 st.2 (Ýh b) n
def x71{it l:Ì}(d:l≠it)(a:Ü Value):VT Ī w it l (λi h=>ğn it l i/\Çp l a) ù ïh where
 Ča:=λi h f st k=>{st.1.at λo e=>k it o ĭ e,st.2.at λo e=>k l o Øb e}
 ϕa:=λi st b j=>y4q st.1 st.2 (x:=a.getD i .none) ťm λf c g=>j f {c,st.2.extBut g.extBut d} g
 done:=λi m st b n=>y4p m st.1 st.2 (Ýh b) n
variable{z TI TO i1 i2 l1 l2:Ì}{st1 st2:Ã->Heap->È}{n1 n2:Ã}{v1 v2:Ã->Value}{a b:Value}{k:Ã}
def w62{Q:Value->Ï->È}(D:Įe z TI TO i1 i2 l1 l2)(N:VT Ī w i1 l1 st1 n1 v1)(I:VT Ī w i2 l2 st2 n2 v2)(H:Ϲa ä z TI TO .none)(X:Ĺa ä TI ġe ϸf)(S:Ĺa ä TO a b)(h1:st1 k ä)(h2:st2 k ä)(k1:k<n1)(k2:k<n2)(hi1:i1<Þ)(hi2:i2<Þ)(hl1:l1<Þ)(hl2:l2<Þ)(hQ:∀h',Ϲa h' z TI TO (Ŋe Þ)->Ĺa h' TO ūd ĸg->st1 ϕ h'->st2 ϕ h'->Ĺa h' Þ ūd ĸg->
   (∀c o,c≠z->c≠TO->c≠i1->c≠i2->Ē c=À o->ĩ c=À o)->Q ġb { s with ì:=h' }) :
  Ý ð A Čk (λfin s'=>∃v,fin=.done Ēe/\Q v s') E s:=by
 show Ø (m:=İc ϻb 2) (ła H rfl (x:=.bool Â) rfl ?_);show Ø (m:=İc ϻb 3) (ła H rfl (x:=.ref TI) rfl ?_);show Ø (Éb X rfl ?_);rw[Ğq];show Ø (ła H rfl (x:=.none) rfl Ýb);rw[Ļq];show Ø (Αd (ła H rfl (x:=.ref TO) rfl ?_));refine Ø (åd H ê λha u y=>?_)
 replace u:Ϲa ha z TI TO .ellipsis:=u
 rw[Čq];let h1a:st1 k ha:=Őj k _ _ h1 λc o K e=>Ĥe c o (by rcases K with rfl|rfl;show ŗg;show D.l1z) e
 show Ø (ηa (Ø (m:=Ãc ġe) (N.item k h1a k1 λhb h1b C=>Ĥ ?_)));let l:Ĺa hb TO a b:=Ĵe _ _ D.TOi1 (Ĥe _ _ Řg S);show Ø (Éb l rfl (Ø (ϴg l λK h p=>?_)))
 replace h:Ĺa K TO ūd b:=h
 show Ø ái
 let h2c:st2 k K:=ŕj k _ _ h2 λc o d e=>by rcases d with rfl|rfl;show ľd _ _ ýi (Ĵe _ _ Ŋo (Ĥe _ _ Ŗg e));show ľd _ _ Řj (Ĵe _ _ D.l2i1 (Ĥe _ _ D.l2z e))
 show Ø (ηa (Ø (m:=Ãc ϸf) (I.item k h2c k2 λhd P B=>Ĥ ?_)));let n:Ĺa hd TO ūd b:=ĵe _ _ D.TOi2 h;show Ø (Éb n rfl (Ø (ϴg n λg f r=>?_)))
 replace f:Ĺa g TO ūd ĸg:=f
 show Ø (ϡe đp);show Ø (Éb f rfl (Ø (Ñn ?_)));let F:Æe=Þ:=by rw[r.1,B.1,p.1,C.1,y.1]
 let G:Ϲa g z TI TO .ellipsis:=ļd _ _ ıi (ĵe _ _ ŉo (ľd _ _ ıi (Ĵe _ _ İi u)))
 let R:∀c o,c≠z->c≠TO->c≠i1->c≠i2->Ē c=À o->ņj c=À o:=λc o t L T c4 e=>
  ļd _ _ L (ĵe _ _ c4 (ľd _ _ L (Ĵe _ _ T (Ĥe _ _ t e))))
 let Y:st1 ϕ g:=Őj _ _ _ h1b λc o d e=>by rcases d with rfl|rfl;show ļd _ _ èo (ĵe _ _ D.i12 (ľd _ _ èo e));show ļd _ _ D.l1TO (ĵe _ _ D.l1i2 (ľd _ _ D.l1TO e))
 let U:st2 ϕ g:=ŕj _ _ _ P λc o d e=>by rcases d with rfl|rfl;show ļd _ _ ýi e;show ļd _ _ Řj e
 let j:z<Æe:=Ĵ G;show Ø (m:=ĳk ϻb ϟo) ?_;unfold ĳk;let Z:Ϲa (g.push { cls:=.type ŷ,ċ:=.seq #[v1 k,v2 k] }) z TI TO .ellipsis:=Ĳ _ G;refine Ø (åd Z ê λhg q sg=>?_)
 replace q:Ϲa hg z TI TO ép:=q
 refine åd q ê λJ i sh=>?_
 replace i:Ϲa J z TI TO ép:=i
 let O:∀c o,c≠z->ņj c=À o->Œj c=À o:=λc o t e=>ϵo _ _ t (Ϸo _ _ t ϯf)
 let hT:Ĺa J Æe ūd ĸg:=ϵo _ _ (ęb j) (Ϸo _ _ (ęb j) đd);rw[F]at i hT;show Ĥ {_,rfl,?_};exact Q ϟo _;rw[F];show hQ J i (O _ _ Řg f) (Őj _ _ _ Y λc o d e=>O c o ?_ e) (ŕj _ _ _ U λc o d e=>O c o ?_ e) hT λc o t L T c4 e=>O c o t (R c o t L T c4 e)
 .rcases d with rfl|rfl
  .show ŗg
  .show D.l1z
 .rcases d with rfl|rfl
  .show Ŗg
  .show D.l2z
def w61{Q:Fin->Ï->È}(S:ŧb=Æ)(D:Įe z TI TO i1 i2 l1 l2)(J:VT Ī w i1 l1 st1 n1 v1)(P:VT Ī w i2 l2 st2 n2 v2)(u:Ϲa ä z TI TO .none)(G:Ĺa ä TI ġe ϸf)(y:Ĺa ä TO a b)(h1:st1 k ä)(Y:st2 k ä)(O:n1<=k\/n2<=k)(T:∀h' e,(∀c o,c≠z->c≠TO->c≠i1->c≠i2->Ē c=À o->ĩ c=À o)->(∃o,ĩ e=À o/\ùb=.type Äe)->E Ōd { s with ì:=h' }) :Ý ð A Čk Q E s:=by
 show Ø (m:=İc ϻb 2) (ła u rfl (x:=.bool Â) rfl ?_);show Ø (m:=İc ϻb 3) (ła u rfl (x:=.ref TI) rfl ?_);show Ø (Éb G rfl ?_);rw[Ğq];show Ø (ła u rfl (x:=.none) rfl Ýb);rw[Ļq];show Ø (Αd (ła u rfl (x:=.ref TO) rfl ?_));refine Ø (åd u ê λR g l=>?_)
 replace g:Ϲa R z TI TO .ellipsis:=g
 rw[Čq];let t:st1 k R:=J.keep k _ _ h1 λc o H e=>ϑc c o (by rcases H with rfl|rfl;show ŗg;show D.l1z) e
 by_cases k1:k<n1;let k2:n2<=k:=by omega
 show Ø (ηa (Ø (m:=Ãc ġe) (J.item k t k1 λK h1b i=>Ĥ ?_)));let h:Ĺa K TO a b:=ĩe _ _ D.TOi1 (ϑc _ _ Řg y);show Ø (Éb h rfl (Ø (ϴg h λH U v=>?_)));show Ø ái
 let L:st2 k H:=P.keep k _ _ Y λc o F e=>by rcases F with rfl|rfl;show Åg _ _ ýi (ĩe _ _ Ŋo (ϑc _ _ Ŗg e));show Åg _ _ Řj (ĩe _ _ D.l2i1 (ϑc _ _ D.l2z e))
 show Ø (ηa (Ø (m:=Ãc ϸf) (P.done k S L k2 λhd e X N=>?_)));let{B,d,f}:=N;let r:Ϲa hd z TI TO .ellipsis:=X _ _ ŉo (Åg _ _ ıi (ĩe _ _ İi g));let j:e≠z:=λx=>by subst x;rw[r]at d;cases d;simp at f
 show åd r ê λI _ q=>T I e (λc o n c2 C Z x=>Æg _ _ n (X _ _ Z (Åg _ _ c2 (ĩe _ _ C ĸn)))) {B,Æg _ _ j d,f};refine Ø (ηa (Ø (m:=Ãc ġe) (J.done k S t É λK e i N=>?_)));let{B,d,f}:=N;let p:Ϲa K z TI TO .ellipsis:=i _ _ İi g;let j:e≠z:=λx=>by subst x;rw[p]at d;cases d;simp at f
 show åd p ê λI _ q=>T I e (λc o n _ C _ x=>Æg _ _ n (i _ _ C ĸn)) {B,Æg _ _ j d,f}
#print a
#print L2
namespace L2
open ģ ĺ Ĭ
def qZ(K:Ñ)(b:Ð)(H:Hp)(a:Ì)(xs:Á V):È:=match b with
 |Ä=>xK K H a xs|Â=>yu K H a xs
nonrec def OV(a:Ð):äa:=match a with
 |Ä => "tuple_iterator"|Â => Ųm
def qu(b:Ð)(h:Heap)(a:Ì)(its:Ü Value):È:=match b with
 |Ä=>Çp a its|Â=>h.IsList a its
def Xl(a:Ð)(h:Heap)(it l:Ì)(i:Ã):È:=∃o,Ĺ it=À o/\ùb=.type (OV a)/\ĸa=.fields #[.ref l,.int i 0]
theorem Xl.at{a:Ð}{h h':Heap}{it l:Ì}{i:Ã}(x:Xl a h it l i)(e:∀o,Ĺ it=À o->ĩ it=À o):Xl a h' it l i:=let ⟨o,ho,r⟩:=x;{o,e _ ho,r}
theorem qu.push{b:Ð}{h:Heap}{a:Ì}{its:Ü Value}(x:qu b h a its)(o:Obj):qu b (ńj o) a its:=by cases b;show Heap.IsList.push x o;show Heap.IsTuple.push x o
def qu.lt{b:Ð}{h:Heap}{a:Ì}{its:Ü Value}(x:qu b h a its):a<Ðb:=by cases b;let{o,e,_}:=x;show Ĵ e;let{o,e,_}:=x;show Ĵ e
section
variable{Ī:ï}{w:è}{A:ā}{E:Value->Ï->È}{s:Ï}
def Dv{c:Ð}{it l:Ì}(b:l≠it)(a:Ü Value):VT Ī w it l (λi h=>Xl c h it l i/\qu c h l a) ù ïh:=by cases c;show x70 b a;show x71 b a
def rY{a:Ð}{l:Ì}{b:Ü Value}{Q:Value->Ï->È}(h:qu a ä l b)(c:Q ġb { s with ì:=ûa { cls:=.type (OV a),ċ:=.fields #[.ref l,.int 0 0] } }):Ý ð A (Śe Ϧc) Q E s:=by cases a;show èd (show ĩf l b from h) c;show Æh (show óc l b from h) c
abbrev FW(t1:Ð)(h:Heap)(l1:Ì):Heap:=ńj { cls:=.type (OV t1),ċ:=.fields #[.ref l1,.int 0 0] }
abbrev FX(t1 t2:Ð)(h:Heap)(l1 l2:Ì):Heap:=(Ϧn).push { cls:=.type (OV t2),ċ:=.fields #[.ref l2,.int 0 0] }
abbrev FY(t1 t2:Ð)(h:Heap)(l1 l2:Ì):Heap:=(ām).push { cls:=.type ŷ,ċ:=.seq #[.ref Ðb,.ref (Ϧn).objs.size] }
abbrev FZ(t1 t2:Ð)(h:Heap)(l1 l2:Ì):Heap:=(Ām).push { cls:=.type ŷ,ċ:=.seq #[.none,.none] }
abbrev Qx(t1 t2:Ð)(h:Heap)(l1 l2:Ì):Heap:=(FZ t1 t2 h l1 l2).push { cls:=.type Ļa,ċ:=.fields #[.none,.bool Â,.bool Â,.ref (ām).objs.size,.ref (Ām).objs.size] }
def w66(b e:Ð)(a c:Ì)(xs p:Ü Value) :Meets (Builtin.«zip.__new__» {[.type Ļa,.ref a,.ref c],[]}) (λ_ R s=>qu b ä a xs/\qu e ä c p/\R (.ok (.ret (.ref (FZ b e ä a c).objs.size))) { s with ì:=Qx b e ä a c }):=
 .of_wp λprog w A R s h=>by
  let{l,g,d,m,n}:=s;let{k,j,h}:=h;let o:=sub_zip;let i:qu b (Ûo {l,g,d,m,n}) a xs:=k;let f:qu e (Ûo {l.push { cls:=.type (OV b),ċ:=.fields #[.ref a,.int 0 0] },g,d,m,n}) c p:=qu.push j _
  wp_walk using rY i,rY f
  show{_,rfl,h}
def z6l{b e:Ð}{a d:Ì}{xs t:Ü Value}{Q:Value->Ï->È}(l:qu b ä a xs)(k:qu e ä d t)(h:∀h',Ϲa h' (Þ+4) (Þ+2) (Þ+3) .none->Ĺa h' (Þ+2) ġb (.ref Ġa)->
   Ĺa h' (Þ+3) .none .none->Xl b h' Þ a 0->Xl e h' Ġa d 0->
   (∀c o,Ē c=À o->ĩ c=À o)->Q (.ref (Þ+4)) { s with ì:=h' }) :
  Ý ð A (Áb Ĭo [.ref a,.ref d]) Q E s:=by
 refine callType_new F.called_zip Í (F.typeCall_zip_2 _ _) (F.newCall_zip_2 _ _) (λi=>F.args_object_init_3 i _ _) F.entry_zip_new (w66 b e a d xs t) {l,k,?_};let j:(FW b ä a).objs.size=Þ+1:=œb ..;let m:(FX b e ä a d).objs.size=Þ+2:=by rw[œb,j]
 let f:(FY b e ä a d).objs.size=Þ+3:=by rw[œb,m]
 let p:(FZ b e ä a d).objs.size=Þ+4:=by rw[œb,f]
 let g:(Áe).get? (FZ b e ä a d).objs.size=À _:=ũ _ rfl;let r:(Áe).get? (FY b e ä a d).objs.size=À _:=Ĳ _ đd;let q:(Áe).get? (FX b e ä a d).objs.size=À _:=Ĳ _ (Ĳ _ đd);let n:(Áe).get? (FW b ä a).objs.size=À _:=Ĳ _ ϡl;let u:(Áe).get? Þ=À _:=Ĳ _ (Ĳ _ ϡl);exact _/\_;rw[m,f,p]at g;rw[j,m]at q;rw[f]at r;rw[j]at n;rw[p]
 show⟨{_,g,rfl},h _ g q r {_,u,rfl,rfl} {_,n,rfl,rfl} λc o x=>
  Ĳ _ (Ĳ _ (Ĳ _ (Ĳ _ (Ĳ _ x))))⟩
#print a
section
variable{X:Cx}{z8:Á ô}{σ:St}{H:Hp}{s:Ï}
def zI.Um{b:Ð}{a:Ì}{xs:Á V}(I:zI X z8 σ H s)(h:qZ X.K b H a xs):∃its:Á Value,zx xs its/\qu b ä a Æa:=by cases b;let{its,r,p,_}:=Ϟ h;show{its,r,Çg};let{its,r,p,_}:=ϭ h;show{its,r,p}
def zI.cG{b:Ð}{a:Ì}{xs c:Á V}(I:zI X z8 σ H s)(h:qZ X.K b H a xs)(h':qZ X.K b H a c):xs=c:=by cases b;show I.MF h h';show I.CS h h'
def z29{fs ch:Á Ì}{h h':Heap}(k:∀b o,b ∉ ch->Ĺ b=À o->ĩ b=À o):Un fs ch H H h h':=
 {λb o e _ _ a=>k b o a e,λb o e _ _ a=>{o.slots,k b o a e},λ_ _ _ n _=>n,λb o e a=>{o,k b o a e},λ_ _ z=>z,λ_ _ _ z=>z,λb c e=>{#[],by rw[e];simp}}
def mU{P:ï}{w:è}{ch:Á Ì}{h h':Heap}(x:wR P w H h)(f:∀b∈ch,H b=Æ)(k:∀b o,b ∉ ch->Ĺ b=À o->ĩ b=À o):wR P w H h':=λb u e=>by
 let a:∀c v,H c=À v->c ∉ ch:=λc v e z=>by rw[f c z]at e;cases e
 show(Ϝi).XQ (λc v d q=>k c v ?_ q) Ÿf λ_ _ q=>q
 rcases d with z|z;rw[z];show a b u e;show a c _ z
def zI.but{ch:Á Ì}{h':Heap}{tk:Ã}(I:zI X z8 σ H s)(c:∀b∈ch,jw X z8 H b)(k:∀b o,b ∉ ch->Ē b=À o->ĩ b=À o):zI X z8 σ H { s with ì:=h',Ě:=tk }:=
 I.CK (s':={ s with ì:=h',Ě:=tk }) rfl (z29 k) Ël ϱa λb a=>{Âc.2.2.2.1,Âc.2.1,Âc.2.2.2.2.1,Âc.2.2.2.2.2}
def zI.CL{ch:Á Ì}{h':Heap}{tk:Ã}{T:Ì}{o:HO}(I:zI X z8 σ H s)(c:∀b∈ch,jw X z8 H b)(k:∀b o,b ∉ ch->Ē b=À o->ĩ b=À o)(f:Ē T=Æ)(e:H T=Æ)(d:xc ú X.w Ŝo h' T o):zI X z8 σ Ŝo { s with ì:=h',Ě:=tk }:=
 I.CK (s':={ s with ì:=h',Ě:=tk }) rfl (w3i (z29 k) f e) (mV Ël e d) ϱa λb a=>{Âc.2.2.2.1,Âc.2.1,Âc.2.2.2.2.1,Âc.2.2.2.2.2}
#print a
def EH(K:Ñ)(d c:Ð)(a b:Ì):It:=
  ⟨λi H=>∃xs ys x y,qZ K d H a xs/\qZ K c H b ys/\xs[i]?=À x/\ys[i]?=À y,
   λi H v e=>∃p,H p=Æ/\v=.ref p/\∀xs ys,qZ K d H a xs->qZ K c H b ys->∃x y,xs[i]?=À x/\ys[i]?=À y/\e=zd H p ęd,
   λi H=>∃xs ys,qZ K d H a xs/\qZ K c H b ys/\(æ<=i\/Òa<=i)⟩
def w25{P:ï}{w:è}{K:Ñ}{U:Á Õ}{S:Ã}{pos:Pos}(t1 t2:Ð)(a b z TI TO B r:Ì)(D:Įe z TI TO B r a b) :j_ P w K (.Tuple U S pos) łh ĳn z (λi h=>Ϲa h z TI TO .none/\Ĺa h TI (.ref B) ìj/\(∃u v,Ĺa h TO u v)/\Xl t1 h B a i/\Xl t2 h r b i) where
 mem:=by simp
 obj:=λi h st c d=>by let{f,j,{u,v,m},{o4,p,_,d4},{o5,n,_,d5}}:=st;simp only[Ųa,Īa,ža]at d;rcases d with rfl|rfl|rfl|rfl|rfl;show{_,f,λv q=>nomatch q};show{_,j,λv q=>nomatch q};show{_,m,λv q=>nomatch q};show{_,p,λv q=>by rw[d4]at q;cases q};show{_,n,λv q=>by rw[d5]at q;cases q}
 Ča:=λi h h' st k=>by let{f,j,{u,v,m},p,n}:=st;show{k z ê _ f,k TI ê _ j,{u,v,k TO ê _ m},p.at λo e=>k B ê o e,n.at λo e=>k r ê o e}
 ϕa:=by
  rw[ύp];let{xs,ys,x,y,hx,hy,ex,ey}:=hg;rw[òq];let{xu,N,rxu}:=ru.get ex;let{yw,Y,ryw}:=t.get ey;let k1:i<Ün:=by rw[ĥ];show(ű N).1
  let k2:i<Ýn:=by rw[ĥ];show(ű Y).1
  let e1:J.toArray.getD i .none=xu:=by let:=ű N;let{l,e}:=this;simp[Żh,l,e]
  let e2:G.toArray.getD i .none=yw:=by let:=ű Y;let{l,e}:=this;simp[Żh,l,e]
  let O:Ŭb ϻb Ļa:={_,f,rfl};let q4:B<Þ:=by let{o,e,_}:=p;show Ĵ e
  let q5:r<Þ:=by let{o,e,_}:=n;show Ĵ e
  unfold ög
  show Ø (üh (Ýd (Ņ:=Ϣb ŭf) O Ëf (Ņc Ëf O Ŕm
   (w62 D Ől ŏl f j m {p,pu} {n,pw} k1 k2 q4 q5 pu.lt pw.lt λh' a1 a2 a3 a4 a5 a6=>Ĥ ?_) Ŏl)))
  rw[e1,e2]at a2 a5;show{_,rfl,wpAny_letOwnedTupleGo_zip (s:={ s with ì:=h' }) a1 λA b1 L=>?_}
  let hTs:Ē Þ=Æ:=by
   cases q:Ē Þ with
   |Æ=>rfl|À o=>show ß őe Ãa
  let Q:H Þ=Æ:=Ĕb Đ;let hTz:Þ≠z:=ęb (Ĵ f);let tup:Ĳg Þ=À { cls:=.type ŷ,ċ:=.seq #[xu,yw] }:=łd _ _ hTz a5
  let S:∀c o,c ∉ ĳn->Ē c=À o->Ĳg c=À o:=λc o d e=>by simp only[Ųa,Īa,ža,Ħg]at d;show łd _ _ d.1 (a6 c o d.1 d.2.2.1 d.2.2.2.1 d.2.2.2.2 e)
  let new:xc ú X.w (zd H Þ ęd) A Þ ęd:={Éh,[xu,yw],.cons rxu (.cons ryw .nil),{_,tup,rfl,_,rfl}};show{.ref Þ,zd H Þ ęd,I.CL (tk:=Ď) Z S hTs Q new,rfl,{Þ,Q,rfl,λxs' ys' hx' hy'=>?_},{b1,?_,{_,_,łd _ _ Řg a2},a3.1.at λo e=>łd _ _ ŗg e,a4.1.at λo e=>łd _ _ Ŗg e},λc d=>?_};rw[I.cG hx' hx,I.cG hy' hy];show{x,y,ex,ey,rfl};show łd _ _ D.TIz (a6 _ _ D.TIz D.TITO D.TIi1 D.TIi2 j);rw[yH];show(Z c d).1;intro q
  let R:c<Þ:=by simp only[Ųa,Īa,ža]at d;rcases d with rfl|rfl|rfl|rfl|rfl;show Ĵ f;show Ĵ j;show Ĵ m;show q4;show q5
  rw[q]at R;show ß R Ãa
 done:=by
  rw[ύp];let{xs,ys,hx,hy,hend}:=hg;rw[òq]
  let C:Ün<=i\/Ýn<=i:=by let l1:=ru.length;let l2:=ϫ;rw[ĥ,ĥ];omega
  let O:Ŭb ϻb Ļa:={_,f,rfl};unfold ög
  show Ø (üh (Ýd (Ņ:=Ϣb ŭf) O Ëf (Ņc Ëf O Ŕm
   (w61 (by show óa d) D Ől ŏl f j m {p,pu} {n,pw} C λh' e S he=>?_) Ŏl)))
  let{o,ho,hcl}:=he;show Ø (wpAny_isInstance (T := Äe) (b:=Ä) {o,ho,hcl} isSubtype_stop ?_);show Ĥ {rfl,I.but (tk:=Ď) Z λc ob g eb=>?_};simp only[Ųa,Īa,ža,Ħg]at g;show S c ob g.1 g.2.2.1 g.2.2.2.1 g.2.2.2.2 eb
 Ľb:=λ_ _ _ _ _ st h=>Ņm st.1 h
def vG{a b:Ã}(h:a≠b):@Ne Ì a b:=h
def w63{n b a:Ã}(d:b<n)(c:a<n):Įe (n+4) (n+2) (n+3) n Ŋ b a:=
 {vG É,vG É,vG É,vG É,vG É,vG É,vG É,vG É,vG É,vG É,vG É,vG É,vG É,vG É,vG É,vG É,vG É,vG É}
def z60:Ŵ Ļa=À Ĭo:=by rw[ţp]
section
variable{X:Cx}
def mW(K:Ñ)(d:TA):TI:=λσ H R=>d σ H λe c=>∃a b xs ys t1 t2,e=[.ref a,.ref b]/\qZ K t1 c a xs/\qZ K t2 c b ys/\R łh c
def x1p{a b:Õ}{F:TA}{p pos:Pos}{f:Á Õ}{P:Ã}{tp:Pos}(hg:Gl X Ļa)(U:õ Ļa=Æ)(O:PA X że F)(S:Î Ùk q12)(i:Î śk q12):PI X (.Tuple f P tp) ώg (mW X.K F):=by
 intro y s σ H R I h;show Śg (WC I hg U z60 (Ϗd (zt (O pos y s σ H _ I h) λZ d ⟨vs,m,g,G,q1⟩=>?_) (by rw[S,i]) (by rw[i];rfl)));let{l,k,xs,ys,L,Q,rfl,Y,hy,q}:=q1;let{u,v,rfl,J,N}:=aG G;cases(show u=ė l from J);cases(show v=ė k from N);let{Z,_,B}:=g.Um Y;let{ws,_,w}:=g.Um hy;let A:=B.lt;let C:=w.lt;show z6l B w λr j E z o t kp=>?_
 let T:zI X y σ m { d with ì:=r }:=g.kept (t':=d.toks) kp;show Ņm (s:={ d with ì:=r }) j ?_;generalize hn:ňm=n at j E z o t A C
 let D:Įe (n+4) (n+2) (n+3) n Ŋ l k:=by show w63 A C
 show{n+4,[n+4,n+2,n+3,n,n+1],_,_,m,rfl,T,w25 L Q l k (n+4) (n+2) (n+3) n Ŋ D,{j,E,{_,_,z},o,t},λc x=>?_,q}
 let e:ňm<=c:=by rw[hn];simp only[Ųa,Īa,ža]at x;rcases x with rfl|rfl|rfl|rfl|rfl;show ϰ _ _;show ϰ _ _;show ϰ _ _;show Ϙ _;show ϰ _ _
 show g.ZE e (ŀo e)
def x2y{a b:Õ}{e:TA}{p pos:Pos}{c:Á Õ}{g:Ã}{l:Pos}(i:Gl X Ļa)(k:õ Ļa=Æ)(f:QA X że e)(j:Î ϋc q12)(d:Î ļi q12) :QI X (.Tuple c g l) ώg (mW X.K e):={x1p i k f.h (by rw[tP j,tP d];rfl) Ţj}
#print a
def iC(a:õa)(env:Env)(b:Á Ùb)(own:Á Ç):Ð:=
 a.kind == .function&&ói (λy=>y.2 != .cell)&&Tj a env b own&&ói (λy=>y.2 != .local||ϝb y.1==À .local)
def wj{X:Cx}{a:õa}{b:Á Ùb}{own:Á Ç}(i:Ło a Ù=pure b)(d:Î (XW Ù b) q14)(ok:Î (iC a Ù b own=Ä) q12):XV X a b own:=by unfold iC at ok;simp only[ě]at ok;obtain⟨⟨⟨j,h⟩,f⟩,g⟩:=ok;show{īf j,λy c e=>?_,d,f,i,λy c e=>?_};let:=øa h y c;rw[Ĳq];cases this;let:=øa g y c;rw[Ĳq];rw[źp]
section
variable{X:Cx}(K:Ñ)(hK:X.K=K)
include hK
#print a
def z4q(K:Ñ)(a:Ì)(xs:Á V):È:=∀H,xK K H a xs
def z6w{K:Ñ}{a:Ì}{xs:Á V}{d:Ê Ì}{its:Ü Value}{n:Ã}{c:Ü Öb}(h:Ϩ a=À {.type ŷ,d,.seq its n,c})(b:Äj<=â)(r:zx xs Ăe):z4q K a xs:=
 λ_=>.inr {_,its,n,h,rfl,rfl,b,r}
open ăg þi
section
variable{X:Cx}
theorem z2l:∀{ts:Á Ç}{its:Á Value},zx ôp its->∃l:Á ķi,its=Ņh l/\ś (·.1)=ts
 | [],_,.nil=>{[],rfl,rfl}|t::ts,_,.cons r rr=>by let{k,e}:=(show ∃k,_=ŏa t k from r);let{l,e1,e2}:=z2l rr;subst e e1;show{(t,k)::l,rfl,by rw[ġ,e2]}
def x38(K:Ñ):V->Á V->Hp->VK->È:=λx a H Q=>∃(sep:Ç) (p:Ì) (ts:Á Ç),x=.str sep/\a=ēc/\yu K H p ôp/\(âb (·.length)).sum+Ĭd*ĉc<=â/\Q (.str ān) H
def Ši(sep:Ç):∀ts:Á Ç,(ān).length<=(âb (·.length)).sum+Ĭd*ĉc
 | []=>by exact(ċc _)<=_;simp[glued,ċc,Ůi]|t::ts=>by
  let h:∀(c:Á Ç)(a:Ü Ã),(c.foldl ϱk a).size=ù+(Ōg (·.length)).sum+Ŕa*ĉc:=λc=>by
   induction c with
   |nil=>intro a;simp|ó u c ih=>intro a;rw[ćd,ih];simp only[Ėm,ġ,ůc,ą,Îi,ċc];omega
  exact(ts.foldl ϱk t.cps).size<=_;rw[h];simp only[ġ,ůc,ą,Îi,ċc];omega
def y4b:YG X "str.join" (x38 X.K):=by
 intro m s σ H x S v R Q I N C h;let{d,p,y,rfl,rfl,A,O,q}:=h;let{t,rfl}:=(show ∃t,v=ŏa d t from N);let{u,rfl,B}:=uD C;cases(show u=ė p from B);let{J,r,z,_}:=Ϟ A;let{l,rfl,j}:=z2l r;let E:Ŭb ž ĸ:=z.isList.typeIs;let{o,L,P,n,G}:=z.isList
 let g:tooLong ((ś (·.1)).toArray.foldl (·+·.length+ăa) 0)=Â:=by rw[j,StrLaws.joinTotal];unfold tooLong;show Ę É
 let i:(glued d y).length<=â:=đ (Ši d y) O;show āf (Śl F.slot_str_join.plain F.entry_str_join (F.slot_str_join.check _ _ _ _ _ _ _ _ öe (F.args_str_join_2 _ _) ?_));let{k,e}:=join_tree d t p;rw[e];show Ø (öd E ?_);rw[Ó Í];show Ø (Éb L G ?_);exact Ý _ _ (joinTail d čj) _ _ _;rcases l with _|⟨a,_|⟨b,c⟩⟩;subst j;show óh d [] g ú X.w _ Ţg s {i,.str _,H,ϟ _,{_,rfl},q};subst j;show óh d [a] g ú X.w _ Ţg s {.str _,H,I,{_,rfl},q};subst j;show óh d (a::b::c) g ú X.w _ Ţg s {i,.str _,H,ϟ _,{_,rfl},q}
#print a
nonrec def MN(z:Ç):It:={λi _=>i<ü,λi H x a=>a=H/\∃c,Êd[i]?=À c/\x=.str {#[c]},λi _=>ü<=i}
section
variable{X:Cx}{tg:Õ}
def y1n(b:TE):TI:=λσ H R=>b σ H λx a=>∃z,x=.str z/\R Ŀg a
def w22{P:ï}{w:è}{K:Ñ}{it:Ì}{z:Ç}{t:Tok}{m:äa}(g:m = Ŗl \/ m = Ên):j_ P w K tg Ŀg όb it (λi h=>h.IsStrIter it m z t i/\i<=ü) where
 mem:=by simp
 obj:=λi h st b j=>by
  let e:b=it:=by simpa using j
  subst e;obtain⟨⟨o,e,c,d⟩,_⟩:=st;show{o,e,λv z=>by rw[d]at z;cases z}
 Ča:=λi h a st k=>{let ⟨o,ho,r⟩:=st.1;{o,k it ê o ho,r},st.2}
 ϕa:=by
  rw[ϓp];let O:i<ği:=J;let l:Êd[i]?=À Êd[i]:=by simp[O]
  have Y:∀a B (u:Value),(∃t',u=ŏa {#[Êd[i]]} t')->a.IsStrIter it m z t ñ->Ĝb it ä a->∃v,À u=À v/\
    Ý Ą X.A (àf tg Ôb v) (λ_ U=>∃x H',zI X T σ H' U/\yF x v/\(Ŀg).uh i H x H'/\(U.heap.IsStrIter it m z t ñ/\i+1<=ü)/\∀b∈[it],H' b=Æ) E { s with ì:=a,Ě:=B }:=λa B u Z f n=>by
   let{t',rfl}:=Z;let I1:zI X T σ H { s with ì:=a,Ě:=B }:=Ĵa (λb o j e=>(n.2 b j).trans e) G C y p q;let{o,e,c,d}:=id f;show{_,rfl,Vk (s:={ s with ì:=a,Ě:=B }) e c d (by rcases g with rfl|rfl<;>decide) {.str {#[Êd[i]]},H,I1,{t',rfl},{rfl,_,l,rfl},{f,J},λb j=>(F b j).1}}
  rcases g with rfl|rfl;show wpAny_pyNext_ascii_item st.1 l λa f n=>Y a _ _ {_,rfl} f n;show wpAny_pyNext_wide_item st.1 l λa f n=>Y a _ _ {_,rfl} f n
 done:=by rw[ϓp];let l:Êd[i]?=Æ:=Ýh J;rcases g with rfl|rfl;show wpAny_pyNext_ascii_end (óa S) st.1 l λa R=>{rfl,Ĵa (t':=Ď) Ęl G C y p q};show wpAny_pyNext_wide_end (óa S) st.1 l λa R=>{rfl,Ĵa (t':=Ď) Ęl G C y p q}
 Ľb:=λ_ _ _ _ _ st h=>by rcases g with rfl|rfl;show wpAny_pyIter_striter_ascii st.1 h;show wpAny_pyIter_striter_wide st.1 h
def x1n{e:Õ}{j:TE}(p:PE X e j):PI X tg e (y1n j):=by
 intro i s σ H R I h;show zt (p i s σ H _ I h) λv a ⟨x,m,g,k,l⟩=>?_
 let{z,rfl,q}:=l;let{t,rfl}:=(show ∃t,v=ŏa z t from k)
 let c:∀(d:äa),(d = Ŗl \/ d = Ên)->∀o:Obj,(òe o).IsStrIter Ĩa d z t 0->EK X i σ tg R Ϡo { a with ì:=òe o }:=λd f o st=>
  ⟨Ĩa,[Ĩa],_,_,m,rfl,g.kept (t':=Ŧd) λb o e=>Ĳ _ e,w22 f,{st,ýa _},λb n=>by
   let e:b=Ĩa:=by simpa using n
   subst e;show g.ZE Đ (ŀo Đ),q⟩
 cases ha:z.cps.all (·<128);show wpAny_pyIter_wide ha (c _ Øb _ {_,ũ _ rfl,rfl,rfl});show wpAny_pyIter_ascii ha (c _ ĭ _ {_,ũ _ rfl,rfl,rfl})
#print a
def cutS(z:Ç)(lo hi:Ê Å):Ç:={((Ťl).take Ϩg).toArray}
def z6q(n:Ã)(lo:Ê Å):(match lo with|Æ=>(0:Å)|À i=>max 0 ſd)=((č n 0 lo:Ã):Å)\/∃i,lo=À i/\i<0/\(n:Å)<i+n:=by
 cases lo with
 |Æ=>left;rfl|À i=>
  left
  exact max 0 ſd=((Ųg:Ã):Å);by_cases h:i<0;simp only[h,Ů];omega;simp only[h,áa];omega
def z6p(n:Ã)(hi:Ê Å):(match hi with|Æ=>(n:Å)|À i=>max 0 ſd)=((č n n hi:Ã):Å):=by
 cases hi with
 |Æ=>rfl|À i=>exact max 0 ſd=((Ųg:Ã):Å);by_cases h:i<0;simp only[h,Ů];omega;simp only[h,áa];omega
def z6r(n:Ã)(lo:Ê Å):(match lo with|Æ=>(0:Å)|À i=>max 0 ſd)=((č n 0 lo:Ã):Å):=by rcases z6q n lo with h|⟨i,_,h1,h2⟩;show h;omega
def o_(z:Ç)(lo hi:Ê Å):ĝh=(Ía Ϩg).map (č ü 0 lo+·):=by let a:=z6r ü lo;let b:=z6p ü hi;rw[<-Òn,<-a,<-b];unfold Âf;simp only[show(1:Å)>0 by decide,Ů];cases lo<;>cases hi<;>rfl
def z72(z:Ç)(lo hi:Ê Å):({((ĝh).filterMap (Êd[·]?)).toArray}:Ç)=cutS z lo hi:=by rw[o_,Áj];rfl
def ře(n d:Ã)(a:d<=n)(v:Ê Å):č n d v<=n:=by
 cases v with
 |Æ=>show a|À i=>exact Ųg<=n;by_cases h:i<0;simp only[h,Ů];omega;simp only[h,áa];omega
def z76(z:Ç)(lo hi:Ê Å)(h:(ĝh).length=ü):cutS z lo hi=z:=by
 rw[o_,ç,Ďb]at h;let a:=ře ü 0 Ċg lo;let b:=ře ü ü Đ hi;unfold cutS;rw[h];let d:č ü 0 lo=0\/ü=0:=by omega
 let f:ßf=ü:=by simp[ċc]
 rcases d with q|q;rw[q,Ĝf,<-f,îc];let e:Ēa=[]:=List.eq_nil_of_length_eq_zero É;rw[e];simp;cases z with
 |mk c=>simp[ċc]at q;simp[q]
theorem üg(z:Ç)(lo hi:Ê Å):(ăn).length<=ü:=by exact(List.toArray _).size<=ği;rw[ĥ,Ïa,Đa,Ū];show đ ėe đb
section
variable{X:Cx}
def oZ{v:Value}{lo:Ê Å}(h:Ĵb v lo):∃l:Ê (Å×Tok),v=partValue l/\ś (·.1)=lo:=by
 cases h with
 |Æ=>show{Æ,rfl,rfl}|int i t=>show{À (i,t),rfl,rfl}
def sJ:V->Ê Å->Ê Å->Hp->VK->È:=λx b a H Q=>∃z:Ç,x=.str z/\ü<=â/\Q (.str (cutS z b a)) H
def x6h:ZN X sJ:=by
 intro m s σ H x v k j p o n Q I f g d c h;let{z,rfl,i,q}:=h;let{t,rfl}:=(show ∃t,v=ŏa z t from f);let{l,rfl,rfl}:=oZ d;let{u,rfl,rfl}:=oZ c;show{ķb,_,F.slot_str_getitem.lookup,âd _ _ _,?_};show wpAny_getItem_str_slice (l:=l) (u:=u) (st:=Æ) g rfl ?_;unfold sliceMade;let b:slicePicked z l u Æ=Âf (ś (·.1)) (u.map (·.1)) 1 ü:=rfl;rw[b]
 split;rename_i a
 let e:(Âf (ś (·.1)) (u.map (·.1)) 1 ü).length=ü:=by rw[ě]at a;show īf a.2
 rw[z76 z _ _ e]at q;show{.str z,H,I,{_,rfl},q};rw[z72];show{đ (üg z _ _) i,.str _,H,ϟ _,{_,rfl},q}
#print a
#print L2
namespace L2
open ģ ĺ Ĭ
section
variable{κ:Type}[ϩb κ]
nonrec def ud(kvs:Á Ša)(k:κ):Ê V:=(kvs.find? λa=>decide (a.1=k)).map (·.2)
nonrec def uZ(kvs:Á Ša)(k:κ)(v:V):Á Ša:=
 if(kvs.any λa=>decide (a.1=k))=Ä then ϴb (λa=>if a.1=k then(a.1,v)else a)else kvs++[(k,v)]
theorem Wj{p:κ×V}{r:Á Ša}{k:κ}(e:p.1=k):ud (p::r) k=À p.2:=by simp[ud,Ĉd,e]
theorem Wi{p:κ×V}{r:Á Ša}{k:κ}(e:¬ p.1=k):ud (p::r) k=ud r k:=by simp[ud,Ĉd,e]
theorem aF(k:κ):∀kvs:Á Ša,Šk=(źf).isSome
 | []=>rfl|p::r=>by rw[Ďd];by_cases e:p.1=k;simp only[Wj e,ò e,Bool.true_or,Option.isSome_some];rw[Wi e,Ę e,Bool.false_or];show aF k r
theorem z2g(k j:κ)(y:V):∀kvs:Á Ša,ud kvs k=Æ->ud (kvs++[(k,y)]) j=if j=k then À y else ud kvs j
 | [],_=>by by_cases e:k=j;rw[Ó ťd];show Wj (p:=(k,y)) e;rw[Ô (λz=>e ϸc)];show Wi (p:=(k,y)) e|p::r,hn=>by
  rw[Őb];let a:¬ p.1=k:=λz=>by rw[Wj z]at hn;cases hn
  rw[Wi a]at hn;let b:=z2g k j y r hn;by_cases e:p.1=j;rw[Wj e,Wj e,Ô (λz=>a (İb z))];rw[Wi e,Wi e,b]
theorem No(kvs:Á Ša)(k:κ)(v:V):(Õi).length<=Ķ+1:=by
 unfold uZ
 split;rw[ç];omega;rw[î,ą,Ϝb];omega
def x2j{kvs:Á Ša}{k:κ}(v:V)(h:ud kvs k=Æ):uZ kvs k v=kvs++[(k,v)]:=by unfold uZ;rw[aF,h];show Ô Í
def tF.V7{o:Ê V}{u:Ê Value}(r:tF o u):o.isSome=u.isSome:=by
 cases o with
 |Æ=>cases u with
  |Æ=>rfl|À _=>show(show ÿ from r).elim
 |À _=>cases u with
  |Æ=>show(show ÿ from r).elim|À _=>rfl
theorem tF.getD{o:Ê V}{u:Ê Value}{d:V}{d':Value}(r:tF o u)(a:yF d d'):yF (ĥg d) (u.getD d'):=by
 cases o with
 |Æ=>cases u with
  |Æ=>show a|À _=>show(show ÿ from r).elim
 |À _=>cases u with
  |Æ=>show(show ÿ from r).elim|À _=>show r
def KV.val{kvs:Á Ša}{vs:Á ġd}(r:KV kvs vs)(k:κ):tF źf (Äc vs k):=by
 unfold KV at r
 induction r with
 |nil=>show ŉa|@cons p q ps qs h t ih=>
  let{c,d}:=h;rw[ěq];let b:Äc Ėg k=À q.2:=by simp[Äc,Ĉd,a]
  rw[Wj e,b];show d;let a:¬ q.1=k:=λz=>e Ōe
  let b:Äc Ėg k=Äc qs k:=by simp[Äc,Ĉd,a]
  rw[Wi e,b];show ih
theorem KV.any{kvs:Á Ša}{vs:Á ġd}(r:KV kvs vs)(k:κ):Šk=vs.any λkv=>decide Üj:=by
 unfold KV at r
 induction r with
 |nil=>rfl|ó h t ih=>rw[Ďd,Ďd,ih,h.1]
theorem KV.CP{kvs:Á Ša}{vs:Á ġd}(r:KV kvs vs)(k:κ){y:V}{u:Value}(c:yF y u) :KV èk (ğg λkv=>if kv.1=k then(kv.1,u)else kv):=by
 unfold KV at r ⊢
 induction r with
 |nil=>show .nil|@cons p q ps qs h t ih=>rw[ġ,ġ];show .cons ?_ ih;let{a,b}:=h;by_cases e:p.1=k;rw[Ó e,Ó Ŧm];show{a,c};rw[Ô e,Ô Ŧl];show{a,b}
def KV.put{kvs:Á Ša}{vs:Á ġd}(r:KV kvs vs)(k:κ){y:V}{u:Value}(a:yF y u):KV ϗn (ĥc vs k u):=by unfold uZ ĥc;rw[r.any k];by_cases e:(vs.any λb=>decide (b.1=k))=Ä;rw[Ó e,Ó e];show r.CP k a;rw[Ô e,Ô e];show Ýo r {rfl,a}
theorem KV.length{kvs:Á Ša}{vs:Á ġd}(r:KV kvs vs):Ķ=Ć:=Ϛh r
#print a
def gH{P:ï}{w:è}{k:zZ}{u:Value}(r:yF ūj u):(ĳa).is k u=Ä:=by
 cases k with
 |inl i=>let{t,e}:=(show ∃t,u=ώc i t from r);subst e;show y43 P w i t
 |inr x=>let{t,e}:=(show ∃t,u=ŏa x t from r);subst e;show Nz P w x t
theorem mz{P:ï}{w:è}:∀{ks:Á zZ}{us:Á Value},zx (Ϸb kV) us->ItemsAre ĳa ks us
 | [],_,r=>by rw[Ĕd]at r;cases r;show .nil|k::ks,_,r=>by
  rw[ġ]at r;cases r with
  |ó h t=>show .cons (gH h) (mz t)
abbrev KT(H:Hp):Á Šb->Á Ŏc->È:=Âd λp q=>p.1=q.1/\H q.2.1=À Àm/\yF p.2 q.2.2
def KT.val{H:Hp}{kvs:Á Šb}{xs:Á Ŏc}(r:KT H kvs xs)(k:Á zZ):tF źf ((Ûi).map (·.2)):=by
 induction r with
 |nil=>show ŉa|@cons p q ps qs h t ih=>
  let{c,_,d}:=h;rw[ěq];let b:Ŵe Ėg k=À q.2:=by simp[Ŵe,Ĉd,a]
  rw[Wj e,b];show d;let a:¬ q.1=k:=λz=>e Ōe
  let b:Ŵe Ėg k=Ŵe qs k:=by simp[Ŵe,Ĉd,a]
  rw[Wi e,b];show ih
def KT.CP{H:Hp}{kvs:Á Šb}{xs:Á Ŏc}(r:KT H kvs xs)(k:Á zZ){y:V}{u:Value}(c:yF y u) :KT H èk (Îc (Ôc k u)):=by
 induction r with
 |nil=>show .nil|@cons p q ps qs h t ih=>rw[ġ,ġ];show .cons ?_ ih;let{a,b,d}:=h;unfold Ôc;by_cases e:p.1=k;rw[Ó e,Ó Ŧm];show{a,b,c};rw[Ô e,Ô Ŧl];show{a,b,d}
def KT.put{H:Hp}{kvs:Á Šb}{xs:Á Ŏc}(r:KT H kvs xs)(k:Á zZ){b:Ì}{y:V}{u:Value}(d:H b=À Ħh)(a:yF y u) :KT H ϗn (storedH xs k b u):=by
 let e:(kvs.any λc=>decide (c.1=k))=(Ûi).isSome:=by rw[aF,(r.val k).V7,Đh]
 unfold uZ storedH;rw[e];by_cases q:(Ûi).isSome=Ä;rw[Ó q,Ó q];show r.CP k a;rw[Ô q,Ô q];show Ýo r {rfl,d,a}
def KT.keeps{H H':Hp}{kvs:Á Šb}{xs:Á Ŏc}(r:KT H kvs xs)(a:∀b ys,H b=À ÿe->H' b=À ÿe):KT H' kvs xs:=
 Ϡf r λ_ _ z=>{z.1,a _ _ z.2.1,z.2.2}
section
variable{P:ï}{w:è}{H:Hp}{h:Heap}{a:Ì}
def sU{u:HO}(ok:wR P w H h)(e:Rd H a u):xc P w H h a u:=e.ok ok
def ZT{kvs:Á ŧ}(ok:wR P w H h)(e:Rd H a œ):Ķ<=â/\êa=Â/\∃vs,KV kvs vs/\ŀd ĳa a vs:=
 show xc P w H h a œ from sU ok e
def iy{kvs:Á ŧ}(ok:wR P w H h)(e:H a=À œ):Ķ<=â/\êa=Â/\∃vs,KV kvs vs/\ŀd ĳa a vs:=ZT ok òj
def OY{ks:Á zZ}(ok:wR P w H h)(e:H a=À Ån):(Ëe).is h ks a:=by let{_,b,r,o,f,d,n,c}:=(show xc P w H h a Ån from ok a _ e);show{o,ßb,n,f,d,c,by simpa using mz r}
def Ts{kvs:Á Šb}(ok:wR P w H h)(e:Rd H a ϳb):Ķ<=â/\êa=Â/\
  ∃xs,KT H kvs xs/\Èp Ëe a xs:=by
 let{z,y,xs,r,o,k,n,j,g,d,f,i}:=(show xc P w H h a ϳb from sU ok e);show{z,y,xs,r,o,k,n,j,g,d,f,λx b=>?_,i}
 let c:∀{l:Á Šb} {m:Á Ŏc},KT H l m->∀x∈m,(Ëe).is h x.1 x.2.1:=by
  intro l m q
  induction q with
  |nil=>intro x b;show nomatch b|@cons p q ps qs hq t ih=>intro x b;rcases ň b with e|b;subst e;show OY ok (by rw[<-hq.1];show hq.2.1);show ih x b
 show c r x b
def z81{kvs:Á Šb}(ok:wR P w H h)(e:H a=À ϳb):Ķ<=â/\êa=Â/\
  ∃xs,KT H kvs xs/\Èp Ëe a xs:=Ts ok òj
#print a
def JZ(H:Hp)(a:Ì)(y:V)(r:Ê V):È:=
 (∃kvs k,Rd H a œ/\y=kV k/\r=ud kvs k)\/∃kvs k b,Rd H a ϳb/\y=.ref b/\H b=À Ħh/\r=ud kvs k
def dA(H:Hp)(a:Ì)(y v:V)(H':Hp):È:=
 (∃kvs k,H a=À œ/\y=kV k/\Ķ<â/\H'=zd H a (.dK Õi)) \/
 ∃kvs k b,H a=À ϳb/\y=.ref b/\H b=À Ħh/\Ķ<â/\H'=zd H a (.dT Õi)
section
variable{X:Cx}{z8:Á ô}{σ:St}{H:Hp}{s:Ï}{a:Ì}{y v:V}{u r:Value}{o:Ê V}{A:ā}{E:Value->Ï->È}
def zI.big(I:zI X z8 σ H s):źh<Þ:=by let h:Ģ<Þ:=(I.mod.glob.keeps I.bk).lt;show Ïi Í h
def z78{Q:Value->Ï->È}(n:ķa+1<ϓ)(I:zI X z8 σ H s)(g:JZ H a y o)(m:yF y u)(h:∀s',zI X z8 σ H s'->Q (.bool o.isSome) s') :Ý Ą A (Ĕa .In u ŭ) Q E s:=by rcases g with⟨i,k,e,d,l⟩|⟨i,k,b,e,d,p,l⟩;rw[Ĺq];show Ço (gH m) f j.mapOf ?_;rw[Źp];show wpAny_in_heap (ϸe n) ϋo f j ?_;rw[Æq]
def z7a{Q:Value->Ï->È}(n:ķa+1<ϓ)(I:zI X z8 σ H s)(g:JZ H a y o)(m:yF y u)(h:∀s',zI X z8 σ H s'->Q (.bool (!o.isSome)) s') :Ý Ą A (Ĕa .NotIn u ŭ) Q E s:=by rcases g with⟨i,k,e,d,l⟩|⟨i,k,b,e,d,p,l⟩;rw[Ĺq];show Ðn (gH m) f j.mapOf ?_;rw[Źp];show wpAny_notIn_heap (ϸe n) ϋo f j ?_;rw[Æq]
def HF{h':Heap}{t':Ã}{c:HO}(I:zI X z8 σ H s)(f:IL (H a))(h:Ĝb a ä h')(i:∃q,ĩ a=À q)(d:xc ú X.w śo h' a c) :zI X z8 σ śo { s with ì:=h',Ě:=t' }:=
 ÿg (x:=a) (e:=a) f ĭ (λb q g z=>(h.2 b g).trans z) i d
def BD{P:ï}{w:è}{H':Hp}{h':Heap}{kvs:Á ŧ}{vs:Á ŋa}(z:Ķ<=â)(d:êa=Â)(b:KV kvs vs)(c:Ϛf ĳa a vs) :xc P w H' h' a œ:={z,d,vs,b,c}
def z7b{H':Hp}{Q:Ŀa->Ï->È}(N:ķa+1<ϓ)(I:zI X z8 σ H s)(g:dA H a y v H')(K:yF y u)(C:yF v r)(h:∀s',zI X z8 σ H' s'->Q () s') :Ý Ą A (ýj ŭ u r) Q E s:=by
 rcases g with⟨d,k,e,x,l,m⟩|⟨d,k,b,e,x,G,l,m⟩;subst x m;let{z,t,U,f,n}:=iy ĝ e;have B:U.length<=â:=by rw[<-Ĝa];show z
 rw[Þq]
 show wpAny_setItem_pairs (hsz:=B) (gH K) n λF i p=>h _ ?_
 let Z:∃q,Ŗj a=À q:=let ⟨q,_,_,j,_⟩:=i;{q,j};show HF I çf p Z (BD o t (f.put k C) i);subst x m;cases(show u=ė b from K);let{z,t,Y,f,n}:=z81 ĝ e;have B:Ϡc<=â:=by rw[<-Ϛh f];show z
 rw[Þq]
 show wpAny_setItem_heap (hsz:=B) (ϸe N) (OY ĝ G) n λF i p=>h _ ?_
 let{q,T,O,j,L,P,R,_,S}:=i;refine HF I çf p {q,j} {o,t,_,(f.put k G C).keeps λc ys J=>?_,q,T,O,j,L,P,R,S};rw[yH (y4m J e Äa)];show J
#print a
section
variable{X:Cx}{z8:Á ô}{σ:St}{H:Hp}{s:Ï}{a:Ì}{kvs:Á ŧ}{A:ā}{E:Value->Ï->È}
def z79{Q:Value->Ï->È}(I:zI X z8 σ H s)(e:Rd H a œ)(h:∀t s',zI X z8 σ H s'->Q (.int Ķ t) s'):Ý Ą A (Áb Ăd ða) Q E s:=by let{z,d,f,b,c}:=ZT ĝ e;refine call_len_dict d c (by rw[<-Ź];rw[Ŧ]at z;omega) ?_;rw[<-Ź];show h _ _ Çc
#print a
def z7l{X:Cx}{f:Á ô}{σ:St}{H:Hp}{s:Ï}{a:Ì}{y:V}{o:Ê V}(I:zI X f σ H s)(g:JZ H a y o):Ŭb ŭ ϐ:=by rcases g with⟨c,k,e,_,_⟩|⟨c,k,b,e,_,_,_⟩;let{_,_,h,_,d}:=ZT ĝ e;show īe;let{_,_,i,_,d}:=Ts ĝ e;show īe
nonrec def x41(f c e:TE):TS:=λD σ H=>e σ H λv d=>f σ d λx g=>c σ g λy b=>∃a H4,x=.ref a/\dA b a y v H4/\ϖa σ H4
section
variable{X:Cx}{o i e øb:Õ}{pos Ľa:Pos}{td ty tv:TE}
def rH(k:Ża+1<ϓ)(z:PE X o td)(hi:PE X i ty)(hv:PE X øb tv)(l:üc øb (À (.Subscript o i Ľa)) ϐc Ù=pure Â) :PS X (.Assign [.Subscript o i Ľa] øb pos) (x41 td ty tv):=by intro b s σ H D I h;show wpAny_Assign_Subscript (zt (hv b s σ H _ I h) λr e ⟨v,c,E,d,G⟩=>zt (z b e σ c _ E G) λu j ⟨x,w,m,C,f⟩=>zt (hi b j σ w _ m f) λN J ⟨y,K,p,B,a,q,n,g,F⟩=>?_) l;subst n;obtain rfl:u=ė a:=C;show z7b k p g B d λL t=>{σ,q,t,F}
#print a
def iw{P:ï}{w:è}{H:Hp}(h:Heap)(a:źh<Ðb):xc P w H (ńj { cls:=.type ϐ,ċ:=.dict #[] }) Ðb Őf:=
 {ýa _,Ϗb (Įb (ϱ a)),[],.nil,ſm h}
def x7k:TE:=λ_ H Q=>∀p,H p=Æ->Q ž ϋi
section
variable{X:Cx}{pos:Pos}
def x0t:PE X Ľm x7k:=λb s σ H Q I h=>
 wpAny_Dict_empty {.ref Þ,_,Ťa (a:=Þ) (o:=.dK []) (t':=Ď) ìf Đ Ān,rfl,h _ Ĳd}
#print a
def Dz:Á Ľe->St->Hp->(Á ľg->Hp->È)->È
 | [],_,H,Q=>Q [] H|(tk,tv)::r,σ,H,Q=>tk σ H λx b=>tv σ b λy c=>Dz r σ c λd a=>Q ((x,y)::d) a
abbrev VV:Á ľg->Á (Value×Value)->È:=Âd λp q=>yF p.1 q.1/\yF p.2 q.2
def IP(X:Cx)(pos:Pos)(b:Á ϰf)(a:Á Õ)(c:Á Ľe):È:=
 ∀(z8:Á ô) (s:Ï) (σ:St) (H:Hp) (Q:Á ľg->Hp->È),zI X z8 σ H s->Dz c σ H Q->
  Ý Ą X.A (evalPairs (pairTrees b a Ù pos)) (λe d=>∃ps H',zI X z8 σ H' d/\VV ps e/\Q ps H') ı s
def x24{X:Cx}{pos:Pos}:IP X pos [] [] []:=λa s σ H Q I h=>pairTrees_nil_walk {[],H,I,.nil,h}
def x23{X:Cx}{pos:Pos}{k v:Õ}{ks:Á ϰf}{vs:Á Õ}{tk d:TE}{a:Á Ľe}(hk:PE X k tk)(hv:PE X v d)(r:IP X pos ks vs a) :IP X pos (À k::ks) Ĕg ((tk,d)::a):=λb s σ H Q I h=>
 pairTrees_cons_walk (zt (hk b s σ H _ I h) λu i ⟨x,f,q,o,g⟩=>zt (hv b i σ f _ q g) λC p ⟨y,l,w,m,j⟩=>
  zt (r b p σ l _ w j) λB A ⟨z,n,e,c,t⟩=>{(x,y)::z,n,e,.cons {o,m} c,t})
def jZ(kvs a:Á ŧ):Á ŧ:=a.foldl (λb c=>uZ b c.1 c.2) kvs
def KV.merge:∀{more:Á ŧ} {rs:Á ŋa} {kvs:Á ŧ} {vs:Á ŋa},KV more rs->KV kvs vs->KV ōn (merged vs rs):=by
 intro more rs kvs vs r;unfold KV at r
 induction r generalizing kvs vs with
 |nil=>intro q;show q|@cons p q ps qs h t ih=>
  intro a
  let e:KV Ļh (ĥc vs q.1 q.2):=by let:=a.put p.1 h.2;rw[<-h.1];rw[Ũp]
  show ih e
theorem Nn:∀(more kvs:Á ŧ),(ōn).length<=Ķ+more.length
 | [],kvs=>by exact Ķ<=Ķ+0;omega|p::r,kvs=>by let a:=Nn r Ļh;let b:=No kvs p.1 p.2;exact(jZ Ļh r).length<=_;rw[ą];omega
theorem iS{P:ï}{w:è}:∀{kvs:Á ŧ} {ws:Á (Value×Value)},VV (ϴb λkv=>(kV kv.1,kv.2)) ws->∃rs,Carries ĳa ws rs/\KV kvs rs
 | [],_,r=>by rw[Ĕd]at r;cases r;show{[],ŉa,.nil}|p::kvs,_,r=>by
  rw[ġ]at r;cases r with
  |@cons a b as bs h t=>let{rs,c,q}:=iS (P:=P) (w:=w) t;let{e,d}:=b;show{(p.1,d)::rs,{gH h.1,rfl,c},.cons {rfl,h.2} q}
def x7l(a:Á Ľe):TE:=λσ H Q=>∀p,H p=Æ->Dz a σ ϋi λd b=>b p=À Őf/\∃kvs:Á ŧ,d=ϴb (λc=>(kV c.1,c.2))/\Ķ<=15/\Q ž (zd b p ĺm)
def x0s{X:Cx}{pos:Pos}{b:Á ϰf}{d:Á Õ}{f:Á Ľe}(h:IP X pos b d f)(i:b.all (·.isSome)=Ä)(x:Ź=ăa)(p:b≠[])(l:Ź<=15):PE X (.Dict b d pos) (x7l f):=by
 intro C s σ H Q I q;let r:=Ĕb (Ϙ Þ);let J:=Ťa (a:=Þ) (o:=.dK []) (h':=ûa { cls:=.type ϐ,ċ:=.dict #[] }) (t':=Ď) ìf Đ Ān;show wpAny_Dict_walk (knd:=xN ú X.w) i x p l (zt (h C _ σ _ _ J (q _ r)) λN O ⟨R,T,m,k,e,g,y,S,v⟩=>?_);subst y;let{t,c,A}:=iS (P:=ú) (w:=X.w) k;let{z,E,F,n,u}:=iy m.zi e;cases n;show{t,c,u,λh' j B=>{.ref Þ,_,?_,rfl,v}}
 let L:(jZ [] g).length<=â:=by let G:=Nn g [];rw[Ϝb]at G;rw[Ŧ];omega
 let K:∃q,ĩ Þ=À q:=let ⟨q,_,_,hq,_⟩:=j;{q,hq};show HF m çf B K (BD L E (A.merge .nil) j)
structure M2(X:Cx)(o:Õ)(m:Ç)(Ű:Pos)(e f:Õ)(Ϡ:Pos):È where
 Ë:éa o m Ù Ŝb=Ė o Ù
 MB:((Ĩc Ϡ Ϝm).all Ăi&&(ķk).all ģm
  && decide (([e,f]:Á Õ).length+([]:Á þg).length+ük<30))=Ä
 line:(apos.endLine==cpos.line)=Ä
 trees:Ĩc Ϡ Ϝm=[(Â,Ė e Ù),(Â,Ė f Ù)]
def fG(H:Hp)(a:Ì):È:=(∃kvs,Rd H a œ)\/∃kvs,Rd H a ϳb
def y1y{X:Cx}{j:Á ô}{σ:St}{H:Hp}{s:Ï}{a:Ì}(I:zI X j σ H s)(d:fG H a) :Ŭb ŭ ϐ/\(∀b,ė a=.ref b->∃ob,Ē b=À ob/\ob.dict=Æ)/\êa=Â:=by rcases d with⟨h,e⟩|⟨h,e⟩;let{_,f,k,_,c}:=ZT ĝ e;rw[Ϝp];let{_,f,l,_,c}:=Ts ĝ e;rw[Ϝp]
section
variable{X:Cx}{z8:Á ô}{σ:St}{H:Hp}{s:Ï}{a:Ì}{y d:V}{u r:Value}{o:Ê V}{A:ā}{E:Value->Ï->È}
def z77{Q:Value->Ï->È}(q:ķa+1<ϓ)(I:zI X z8 σ H s)(g:JZ H a y o)(n:yF y u)(p:yF d r)(h:∀w' s',zI X z8 σ H s'->yF (ĥg d) w'->Q w' s') :Ý Ą A (Áb (.builtin "dict.get") [.ref a,u,r]) Q E s:=by rcases g with⟨m,k,e,i,l⟩|⟨m,k,b,e,i,v,l⟩;subst i;let{z,j,x,c,f}:=ZT ĝ e;show Ϯd æh Êg Đl Ţk (meets_dict_get_default Ϧb a (gH n) j r) {_,f.mapOf,h _ _ Çc ?_};rw[l];show(Ķd).getD p;subst i;cases(show u=ė b from n);let{z,j,t,c,f}:=Ts ĝ e;show Ϯd æh Êg Đl Ţk (meetsH_dict_get_default (tupleKind Ϧb) a b j r) {ϸe q,k,t,OY ĝ v,f,h _ _ Çc ?_};rw[l];show(Ķd).getD p
#print a
nonrec def x7j(f e d:TE):TE:=λσ H Q=>f σ H λx c=>∃a,x=.ref a/\fG c a/\e σ c λy g=>d σ g λz b=>∃o,JZ b a y o/\Q (ĥg z) b
section
variable{X:Cx}{o e f:Õ}{Ű Ϡ:Pos}{td ty tx:TE}
def x0r(v:Ża+1<ϓ)(K:PE X o td)(j:PE X e ty)(L:PE X f tx)(m:M2 X o "get" Ű e f Ϡ):PE X (.Call ñl [e,f] [] Ϡ) (x7j td ty tx):=by
 rw[àq];show wpAny_Call_method m.base m.MB m.line Ãf æh PySem.F.type_dict_get (zt (K c s σ H _ I h) λu p ⟨x,l,i,O,a,C,d,R⟩=>?_);subst C;obtain rfl:u=ė a:=O;let{n,w,_}:=y1y i d;show{n,w,?_};rw[m.trees]
 refine àd rfl (ϵg (ϕd (zt (j c p σ l _ i R) λZ t ⟨y,J,B,N,q⟩=>
  ϕd (zt (L c t σ J _ B q) λS T ⟨z,r,E,k,ov,g,P⟩=>Ïh ?_))))
 show z77 v E g N k λY U G b=>{_,r,G,b,P}
#print a
#print L2
namespace L3
open ģ
set_option genInjectivity true
inductive D where
 |zD|bl (b:Ð)|int (i:Å)|str (x:Ç)|tup (xs:Á D)|lst (xs:Á D)|dic (ks:Á Ľ) (vs:Á D)|exc (x:Ç)|obj (x:Ç) (fs:Á Ç) (vs:Á D)
set_option genInjectivity false
def ŕg{P:D->È}(q:P .zD)(p:∀b,P Ϭa)(m:∀i,P Ŭ)(f:∀x,P Ĭb)(j:∀xs,(∀d∈xs,P d)->P œa)(c:∀xs,(∀d∈xs,P d)->P Ěa)(a:∀ks xs,(∀d∈xs,P d)->P (.dic ks xs))(l:∀x,P (.exc x))(g:∀x fs xs,(∀d∈xs,P d)->P (.obj x fs xs))(d:D):P d:=
 D.rec (motive_1:=P) (motive_2:=λn=>∀d∈n,P d) q p m f (λxs h=>j xs h) (λxs h=>c xs h) (λks xs h=>a ks xs h) l (λx fs xs h=>g x fs xs h) äm
  (λd n o k e r=>by rcases ň r with z|z;show z▸o;show k e z) d
mutual
nonrec def xC:D->D->Ð
 |.zD,.zD=>Ä|.bl a,.bl b=>a==b|.bl a,.int b=>ŭl==b|.int a,.bl b=>a==Ûf|.int a,.int b=>a==b|.str a,.str b=>a==b|.tup xs,.tup ys=>Ûc xs ys|.lst xs,.lst ys=>Ûc xs ys|_,_=>Â
nonrec def Ûc:Á D->Á D->Ð
 | [],[]=>Ä|x::xs,y::ys=>xC x y&&Ûc xs ys|_,_=>Â
end
abbrev Sl:=Ð×D
abbrev yD:=Á (Ê Sl)
abbrev FE:=yD->Ê D
abbrev FT:=yD->Ê Ð
abbrev FA:=yD->Ê Éc
abbrev FG:=D->yD->Ê yD
inductive Fl where
 |nx (σ:yD)|rt (o:Ð) (d:D)|bk (σ:yD)|ct (σ:yD)
abbrev FS:=yD->Ê Fl
abbrev yb:Ã:=16777216
nonrec def z6(i:Ã):FE:=λσ=>match σ[i]? with
 |À Ŝc=>À d|_=>Æ
nonrec def Vd(i:Ã):FE:=λσ=>match σ[i]? with
 |À ąo=>À d|_=>Æ
nonrec def eC(d:D):FE:=λ_=>À d
nonrec def e1(F:D->Ê D)(a:FE):FE:=λσ=>(Ϲ).bind F
nonrec def e2(F:D->D->Ê D)(a b:FE):FE:=λσ=>(Ϲ).bind λx=>(Ůd).bind λy=>F x y
nonrec def eL(F:Á D->Ê D)(a:FA):FE:=λσ=>(Ϲ).bind F
nonrec def zF:FA:=λ_=>À []
nonrec def zA(a:FE)(r:FA):FA:=λσ=>(Ϲ).bind λx=>(r σ).bind λb=>À (x::b)
nonrec def Xo:D->Ê Ð
 |.bl b=>À b|_=>Æ
def tE(a:FE):FT:=λσ=>(Ϲ).bind Xo
nonrec def kW(a b:FT):FT:=λσ=>(Ϲ).bind λk=>match k with
 |Ä=>b σ|Â=>À Â
nonrec def qK(a b:FT):FT:=λσ=>(Ϲ).bind λk=>match k with
 |Ä=>À Ä|Â=>b σ
nonrec def pL(a:FT):FT:=λσ=>(Ϲ).bind λk=>À (!k)
def YQ(a b:FE):FE:=λσ=>(Ϲ).bind λx=>(Ľg).bind λk=>match k with
 |Ä=>b σ|Â=>À á
def Iq(a b:FE):FE:=λσ=>(Ϲ).bind λx=>(Ľg).bind λk=>match k with
 |Ä=>À Č|Â=>b σ
def BH(a:FE):FE:=λσ=>(Ϲ).bind λx=>(Ľg).bind λk=>À Ōi
nonrec def u7(c:FT)(a b:FE):FE:=λσ=>(Èd).bind λk=>match k with
 |Ä=>a σ|Â=>b σ
nonrec def wO(a:FA):FE:=λσ=>(Ϲ).bind λb=>À (.tup b)
nonrec def wA(a:FA):FE:=λσ=>(Ϲ).bind λb=>À (.lst b)
nonrec def yp:D->D->Ê D
 |.int i,.int j=>À œf|.int i,.bl b=>À (Δ (i+Ûf))|.str x,.str y=>if Ça+ôc<=yb then À (.str Ũe)else Æ|.lst x,.lst y=>if Ça+ôc<=yb then À (Γ Ũe)else Æ|.tup x,.tup y=>if x.isEmpty=Â/\Ça+ôc<=yb then À (.tup Ũe)else Æ|_,_=>Æ
nonrec def fI(C:Å->Å->Ð)(g:Å->Å->Å):D->D->Ê D
 |.int i,.int j=>match C i j with
  |Ä=>À Ăp|Â=>Æ
 |_,_=>Æ
nonrec def pj:D->D->Ê D
 |.int i,.int j=>À (Δ (i-j))|_,_=>Æ
nonrec def Zg(i:Å):Ð:=decide (-ág<i)&&decide (i<2 ^ 64)
def Xx:D->D->Ê D:=fI (λi _=>Zg i) (·*·)
def Iy:D->D->Ê D:=fI (λ_ j=>Zg j) (·*·)
def xD:D->D->Ê D:=fI (λ_ j=>decide (0<j)) (· % ·)
def wY:D->D->Ê D:=fI (λ_ j=>decide (0<j)&&decide (j<2 ^ 64)) (· / ·)
nonrec def qj(i j:Å):Ð:=decide (0<=j)&&(decide (j<=1000000)&&decide (ϵb<2 ^ 64))
def lL:D->D->Ê D:=fI qj λi j=>i ^ Ϛc
def um:D->D->Ê D:=fI qj λi j=>i*2 ^ Ϛc
def Tv:D->D->Ê D:=fI (λ_ j=>decide (0<=j)) λi j=>i/2 ^ Ϛc
nonrec def jP(g:Å->Å->Å):D->D->Ê D
 |.int i,.int j=>À Ăp|_,_=>Æ
nonrec def YU:D->Ê D
 |.int i=>À (Δ (-i))|_=>Æ
nonrec def HW:D->Ê D
 |.int i=>À (Δ Ęj)|_=>Æ
nonrec def uJ(g:Å->Å->Ð):D->D->Ê D
 |.int i,.int j=>À (.bl ϣa)|_,_=>Æ
nonrec def Vr:D->Ð
 |.zD=>Ä|_=>Â
def gA:D->D->Ê D
 |x,.zD=>À (.bl (Vr x))|_,_=>Æ
def ZU:D->D->Ê D
 |x,.zD=>À (.bl (!Vr x))|_,_=>Æ
nonrec def xo:D->Ð
 |.zD=>Ä|.bl _=>Ä|.int _=>Ä|.str _=>Ä|_=>Â
nonrec def jN(f:D->D->Ð):Á D->Á D->Ð
 |x::xs,y::ys=>f x y&&jN f xs ys|_,_=>Ä
def tG:Ã->D->D->Ð
 |0,_,_=>Â|n+1,x,y=>match x,y with
  |.tup xs,.tup ys=>jN Åd xs ys|.lst xs,.lst ys=>jN Åd xs ys|x,y=>xo x&&xo y
def kE:D->D->Ê Ð
 |.int _,.bl _=>Æ|.bl _,.int _=>Æ|x,y=>match tG 6 x y with
  |Ä=>À (xC x y)|Â=>Æ
def za(x y:D):Ê D:=(kE x y).bind λk=>À şd
def xP(x y:D):Ê D:=(kE x y).bind λk=>À Ōi
nonrec def u8:D->Ê Ľ
 |.int i=>À ñj|.str x=>À ég|_=>Æ
nonrec def Ċ{α:Type}:Á Ľ->Á α->Sum Å Ç->Ê α
 |k'::ks,v::vs,k=>if k'=k then À v else Ċ ks vs k|_,_,_=>Æ
nonrec def yh(ks:Á Ľ)(k:Sum Å Ç):Ð:=ks.any λj=>decide (j=k)
def wC(ks:Á Ľ)(k:Sum Å Ç):Á Ľ:=if yh ks k=Ä then ks else ks++[k]
def wD(ks:Á Ľ)(vs:Á α)(k:Sum Å Ç)(v:α):Á α:=if yh ks k=Ä then Íb (λa x=>if a=k then v else x) ks vs else vs++[v]
def Ix(x:D):D->Ê Ð
 |.lst ys=>match xo x&&ϴc xo with
  |Ä=>À Úf|Â=>Æ
 |.tup ys=>match xo x&&ϴc xo with
  |Ä=>À Úf|Â=>Æ
 |.str j=>match x with
  |.str i=>À Ϝk|_=>Æ
 |.dic ks _=>(Äd).bind λk=>À Ϙi|_=>Æ
def xI(x y:D):Ê D:=(Ix x y).bind λk=>À şd
def Xy(x y:D):Ê D:=(Ix x y).bind λk=>À Ōi
nonrec def uI(xs:Á α)(i:Å):Ê α:=if 0<=i then xs[ųb]? else if -(æ:Å)<=i then xs[(i+æ).toNat]? else Æ
def zK:D->D->Ê D
 |.lst xs,.int i=>uI xs i|.tup xs,.int i=>uI xs i|.str z,.int i=>(ůo).bind λc=>À Ķf|.dic ks vs,k=>(u8 k).bind λk=>Ċ ks vs k|_,_=>Æ
nonrec def vF:Á D->Ê D
 | [.lst xs]=>À Ϣo| [.tup xs]=>À Ϣo| [.str z]=>À ϡo|_=>Æ
nonrec def lK:Á D->Ê D
 | [.int i]=>À Ŭ| [.bl k]=>À (Δ (if k then 1 else 0))|_=>Æ
inductive qb where
 |int|bool|str|list|tuple
nonrec def qb.nm:qb->äa
 |.int => ĸb|.bool => ŗe|.str => ķb|.list => ĸ|.tuple => ŷ
nonrec def kZ:D->Ê (Ð×Ð×Ð×Ð×Ð)
 |.zD=>À (Â,Â,Â,Â,Â)|.bl _=>À (Ä,Ä,Â,Â,Â)|.int _=>À (Ä,Â,Â,Â,Â)|.str _=>À (Â,Â,Ä,Â,Â)|.tup _=>À (Â,Â,Â,Â,Ä)|.lst _=>À (Â,Â,Â,Ä,Â)|.dic _ _=>Æ|.exc _=>Æ|.obj _ _ _=>Æ
nonrec def qb.sel:qb->Ð×Ð×Ð×Ð×Ð->Ð
 |.int,k=>k.1|.bool,k=>k.2.1|.str,k=>k.2.2.1|.list,k=>k.2.2.2.1|.tuple,k=>k.2.2.2.2
def OU(T:qb)(d:D):Ê Ð:=(kZ d).bind λk=>À (T.sel k)
def kD(T:qb)(a:FE):FE:=λτ=>(a τ).bind λd=>(OU T d).bind λb=>À Ϭa
nonrec def vY(a:FE):FA:=λσ=>(Ϲ).bind λd=>match d with
 |.lst xs=>À xs|.tup xs=>À xs|.str z=>À (ńm λc=>.str {#[c]})|_=>Æ
nonrec def tj(lo hi:FE):FA:=λσ=>(Ĩj).bind λx=>(īj).bind λy=>match x,y with
 |.int i,.int j=>if ϵb<=yb/\ϝc<=yb/\(ŷd).toNat<=yb then À ((Ía (ŷd).toNat).map λk:Ã=>.int Îd)else Æ|_,_=>Æ
nonrec def zu(i:Ã):FG:=λd σ=>À (Ψ Ŝc)
nonrec def wm(i j:Ã):FG:=λd σ=>match d with
 |.tup Ĵc=>À ((Ψ (À (Â,x))).set j (À (Â,y)))|_=>Æ
nonrec def yY:FS:=λσ=>À ãg
nonrec def zQ(a b:FS):FS:=λσ=>(Ϲ).bind λf=>match f with
 |.nx σ'=>b σ'|f=>À f
nonrec def yB(i:Ã)(e:FE):FS:=λσ=>(Çd).bind λd=>À Æn
nonrec def tL(i:Ã)(e:FE):FS:=λσ=>(Çd).bind λd=>À (.nx (Ψ ùc))
nonrec def zm(e:FE):FS:=λσ=>(Çd).bind λd=>À (.rt Â d)
nonrec def ut(e:FE):FS:=λσ=>(Çd).bind λd=>À ĭo
nonrec def pK(i:Ã):FS:=λσ=>match σ[i]? with
 |À ùc=>À ĭo|_=>Æ
nonrec def yP(c:FT)(a b:FS):FS:=λσ=>(Èd).bind λk=>match k with
 |Ä=>a σ|Â=>b σ
nonrec def p9(g:FG)(b:FS):Á D->yD->Ê Fl
 | [],σ=>À ãg|d::r,σ=>(ϥc).bind λσ1=>(ıj).bind λf=>match f with
  |.nx σ2=>p9 g b r σ2|.ct σ2=>p9 g b r σ2|.bk σ2=>À Àg|.rt o d=>À ϖc
def ur(it:FA)(g:FG)(b:FS):FS:=λσ=>(it σ).bind λa=>p9 g b a σ
nonrec def j6(c:FT)(b:FS):Ã->yD->Ê Fl
 |0,_=>Æ|n+1,σ=>(Èd).bind λk=>match k with
  |Â=>À ãg|Ä=>(Ůd).bind λf=>match f with
   |.nx σ2=>j6 c b n σ2|.ct σ2=>j6 c b n σ2|.bk σ2=>À Àg|.rt o d=>À ϖc
nonrec def ML:Ã:=100000000
def DZ(c:FT)(b:FS):FS:=λσ=>j6 c b ML σ
nonrec def Yz(i:Ã):FS:=λσ=>match σ[i]? with
 |À ąo=>À Æn|_=>Æ
nonrec def s_(i:Ã)(F:D->Ê D):FS:=λσ=>match σ[i]? with
 |À ùc=>(F d).bind λa=>À Îl|_=>Æ
nonrec def pI(i:Ã)(F:D->D->Ê D)(e:FE):FS:=λσ=>match σ[i]? with
 |À ùc=>(Çd).bind λx=>(F d x).bind λa=>À Îl|_=>Æ
nonrec def pf:D->D->Ê D
 |.lst xs,y=>if æ<yb then À ϙm else Æ|_,_=>Æ
def pJ(i:Ã)(k v:FE):FS:=λσ=>(v σ).bind λy=>match σ[i]? with
 |À (À (Ä,.dic ks ds))=>(ůj).bind λx=>(Äd).bind λx=>if Ĉ<yb then À (.nx (Ψ (À (Ä,.dic ğp ñn))))else Æ|_=>Æ
def xg(ks:Á Ľ)(ds:Á D)(x:D):Ê D:=(Äd).bind λk=>Ċ ks ds k
def Xw(ks:Á Ľ)(x:D):Ê D:=(Äd).bind λk=>À (.bl Ϙi)
def Tt(ks:Á Ľ)(x:D):Ê D:=(Äd).bind λk=>À (.bl Ϩo)
def YR(d k e:FE):FE:=λσ=>(d σ).bind λx=>match x with
 |.dic ks ds=>(ůj).bind λy=>(Çd).bind λz=>(u8 y).bind λy=>À ((Ċ ks ds y).getD z)|_=>Æ
nonrec def BF(ks:Á Ç)(vs:FA):FE:=λσ=>(vs σ).bind λa=>if Ĉ=Èa then À (.dic (Ϸb .inr) a)else Æ
nonrec def yq(g:FG)(c:FT)(e:FE)(σ:yD):Á D->Ê Éc
 | []=>À []|d::r=>(ϥc).bind λσ1=>(c σ1).bind λk=>match k with
  |Ä=>(ϲc).bind λx=>(yq g c e σ r).bind λa=>À (x::a)|Â=>yq g c e σ r
nonrec def yc:FT:=λ_=>À Ä
def xm(n:Ã)(it:FA)(g:FG)(c:FT)(e:FE):FE:=λσ=>(it σ).bind λb=>(yq g c e Őh b).bind λa=>À äg
nonrec def yC(n:Ã)(b:FS)(ds:Á D):Ê ã:=(b ïk).bind λf=>match f with
 |.rt o d=>À (o,d)|.nx _=>À (Â,.zD)|_=>Æ
nonrec def zU(F:Á D->Ê ã)(a:FA):FE:=λσ=>(Ϲ).bind λb=>(F b).bind λr=>À r.2
nonrec def uW(F:Á D->Ê ã)(a:FA):FE:=λσ=>(Ϲ).bind λb=>(F b).bind λr=>match r with
 |(Ä,d)=>À d|_=>Æ
open ĺ Ĭ L2
abbrev St:=L2.St
def z4y(_:Ñ)(H:Hp)(a:Ì)(kvs:Á ŧ):È:=Rd H a œ
mutual
def zh(K:Ñ)(H:Hp):D->V->È
 |.zD,v=>v=.zD|.bl b,v=>v=.bl b|.int i,v=>v=.int i|.str x,v=>v=.str x/\Ça<=â|.tup ds,v=>∃a vs,v=.ref a/\xK K H a vs/\å K H ds vs/\ø<=â|.lst ds,v=>∃a vs,v=.ref a/\yu K H a vs/\å K H ds vs/\ø<=â|.dic ks ds,v=>∃a vs,v=.ref a/\z4y K H a ĕa/\Ĉ=Ć/\å K H ds vs/\ø<=â|.exc x,v=>∃a C,v=.ref a/\ϝ K Ģ x=À ěa/\H a=À (.ext (z4r a C))|.obj x fs ds,v=>∃a C dx vs,v=.ref a/\ϝ K Ģ x=À ěa/\H a=À Úh/\Ĳa=Ć/\å K H ds vs
def å(K:Ñ)(H:Hp):Á D->Á V->È
 | [],vs=>vs=[]|d::ds,vs=>∃v r,vs=v::r/\zh K H d v/\å K H ds r
end
section
variable{K:Ñ}{H H':Hp}
def ěc{a:Ì}{u:HO}(s:yN H H')(h:Rd H a u):Rd H' a u:=by rcases h with h|⟨o,h⟩;show .inl (s _ _ h);show .inr {o,s _ _ h}
def uR(s:yN H H')(h:xK K H a xs):xK K H' a xs:=by rcases h with h|h;show .inl íp;show .inr h
def ux(s:yN H H')(h:yu K H a xs):yu K H' a xs:=by rcases h with h|h;show .inl íp;show .inr h
theorem æb:∀{ds:Á D}{vs:Á V},(∀d∈ds,∀v,zh K H d v->zh K H' d v)->å K H ds vs->å K H' ds vs
 | [],_,_,h=>h|d::ds,vs,f,h=>by let{v,r,rfl,b,c}:=h;show{v,r,rfl,f d ĳ v b,æb (λa m=>f a ďp) c}
theorem zh.mono(s:yN H H'):∀{d:D}{v:V},zh K H d v->zh K H' d v:=λ{d}=>by show ŕg (P:=λd=>∀v,zh K H d v->zh K H' d v) Řo žn żn Żn ?_ ?_ ?_ ?_ ?_ d _;rintro g f v ⟨a,c,e,q,r,l⟩;show{a,c,e,uR s q,æb f r,l};rintro g f v ⟨a,c,e,q,r,l⟩;show{a,c,e,ux s q,æb f r,l};rintro m g f v ⟨a,c,e,q,z,r,l⟩;show{a,c,e,ěc s q,z,æb f r,l};rintro x v ⟨a,C,e,n,h⟩;show{a,C,e,n,s _ _ h};rintro x k g f v ⟨a,C,j,c,e,n,h,l,r⟩;show{a,C,j,c,e,n,s _ _ h,l,æb f r}
theorem Reps.mono(s:yN H H'){ds:Á D}{vs:Á V}(h:å K H ds vs):å K H' ds vs:=æb (λ_ _ _=>zh.mono s) h
theorem úi:∀{ds:Á D}{vs:Á V},å K H ds vs->Ć=ø
 | [],_,h=>by rw[Èq];rfl|d::ds,_,h=>by let{v,r,rfl,_,a}:=h;rw[ą,ą,úi a]
theorem Reps.get:∀{ds:Á D}{vs:Á V}{i:Ã}{d:D},å K H ds vs->ds[i]?=À d->∃v,vs[i]?=À v/\zh K H d v
 | [],_,_,_,_,e=>by cases e|d::ds,_,0,_,h,e=>by rw[ϸp];cases e;show{v,rfl,b}
 |d::ds,_,i+1,d',h,e=>by rw[ϸp];show Reps.get (i:=i) a Ϛa
theorem Reps.at{ds:Á D}{vs:Á V}{i:Ã}{v:V}(h:å K H ds vs)(e:vs[i]?=À v):∃d,ds[i]?=À d/\zh K H d v:=by
 let l:=Ŀd;have a:i<ø:=by rw[<-l];show Ŕe.1
 let{c,b,r}:=h.get (ğ a);rw[e]at b;cases b;show{_,ğ a,r}
theorem Üo:∀{ds es:Á D}{vs us:Á V},å K H ds vs->å K H es us->å K H (ds++es) (vs++us)
 | [],_,_,_,h,g=>by rw[Èq];show g|d::ds,_,_,_,h,g=>by rw[ϸp];show{v,_,rfl,b,Üo a g}
def Ñg(h:zh K H d v):å K H [d] [v]:={v,[],rfl,h,rfl}
theorem Îp:∀{ds:Á D}{vs:Á V}(n:Ã),å K H ds vs->å K H (ds.take n) (vs.take n)
 |_,_,0,_=>by rw[ťh,ťh];rfl| [],_,n+1,h=>by rw[Èq];rfl|d::ds,_,n+1,h=>by rw[ϸp];show{v,_,rfl,b,Îp n a}
theorem Ñp:∀{ds:Á D}{vs:Á V}(n:Ã),å K H ds vs->å K H (ûg n) (vs.drop n)
 |_,_,0,h=>h| [],_,n+1,h=>by rw[Èq];rfl|d::ds,_,n+1,h=>by rw[ϸp];show Ñp n a
theorem Ďe:∀{ns:Á Å},å K H ϡ ēa
 | []=>rfl|n::ns=>{_,_,rfl,rfl,Ďe}
#print a
structure zW(G H G' H':Hp):È where
 g:yN G G'
 h:yN H H'
 gh:yN G' H'
 new:∀p,G' p≠Æ->G p≠Æ\/H p=Æ
section
variable{G H G0 H0 G1 H1 G2 H2:Hp}{p:Ì}{o:HO}
theorem úa(s:yN G H):zW G H G H:={Ϩa _,Ϩa _,s,λ_ h=>.inl h}
theorem zW.trans(a:zW G H G1 H1)(b:zW G1 H1 G2 H2):zW G H G2 H2:={Ũi b.g,a.h.trans b.h,b.gh,λp h=>by rcases b.new p h with z|z;show a.new p z;show .inr (a.h.free z)}
def zW.rebase(a:zW G0 H0 G1 H1)(b:zW G1 H0 G2 H2):zW G0 H0 G2 H2:={Ũi b.g,b.h,b.gh,λp h=>by rcases b.new p h with z|z;show a.new p z;rw[ìq]}
def zW.zE(a:zW G0 H0 G1 H1):zW G1 H0 G1 H1:={Ϩa _,a.h,a.gh,λ_ h=>.inl h}
def z2d(h:zd H p o q≠Æ):q=p\/H q≠Æ:=by by_cases e:q=p;show .inl e;rw[yH e]at h;show .inr h
def Da(s:yN G H):yN şo ſc:=λb u e=>by by_cases hb:b=p;subst hb;rw[yo]at e ⊢;show e;rw[yH hb]at e ⊢;show s _ _ e
def ıb(s:yN G H)(h:H p=Æ):zW G H şo ſc:={uQ (s.free h) o,uQ h o,Da s,λq z=>by rcases z2d z with e|e;show .inr (e▸h);show .inl e}
def ϑa(s:yN G H)(h:H p=Æ):zW G H G ſc:={Ϩa _,uQ h o,þj (uQ h o),λ_ z=>.inl z}
def zW.yO(a:zW G H G1 H1)(h:H p=Æ)(g:G1 p=Æ)(e:H1 p=À o):zW G H (zd G1 p o) H1:=⟨Ũi (uQ g o),a.h,λb u q=>by
 by_cases hb:b=p;subst hb;rw[yo]at q;cases q;show e;rw[yH hb]at q;show a.gh _ _ q,λq z=>by
 rcases z2d z with w|w;show .inr (w▸h);show a.new q w⟩
#print a
def vh(K:Ñ)(G H:Hp)(d:D)(p:Ì):È:=match d with
 |.lst ds=>∃vs,H p=À Ág/\å K G ds vs/\ø<=â|.dic ks ds=>∃vs,H p=À őp/\Ĉ=Ć/\å K G ds vs/\ø<=â|_=>ÿ
section
variable{K:Ñ}{G H G' H':Hp}{d:D}{p:Ì}
def vh.some(h:vh K G H d p):H p≠Æ:=by
 cases d with
 |lst ds=>let{a,e,_}:=h;rw[e];show λz=>nomatch z
 |dic ks ds=>let{a,e,_}:=h;rw[e];show λz=>nomatch z
 |_=>show Ņj
theorem vh.mono(g:yN G G')(h:yN H H')(o:vh K G H d p):vh K G' H' d p:=by
 cases d with
 |lst ds=>let{a,e,r,l}:=o;show{a,h _ _ e,ãa g,l}
 |dic ks ds=>let{a,e,z,r,l}:=o;show{a,h _ _ e,z,ãa g,l}
 |_=>show Ţd
def vh.rep(s:yN G H)(o:vh K G H d p):zh K H d ž:=by
 cases d with
 |lst ds=>let{a,e,r,l}:=o;show{p,a,rfl,Ĺb e,ãa s,l}
 |dic ks ds=>let{a,e,z,r,l}:=o;show{p,a,rfl,.inl e,z,ãa s,l}
 |_=>show Ţd
def vh.yO(o:vh K G H d p)(g:G p=Æ):∃u,H p=Option.some u/\zh K Şo d ž:=by
 cases d with
 |lst ds=>let{a,e,r,l}:=o;show{_,e,p,a,rfl,Ĺb yo,ãa Ûg,l}
 |dic ks ds=>let{a,e,z,r,l}:=o;show{_,e,p,a,rfl,.inl yo,z,ãa Ûg,l}
 |_=>show Ţd
#print a
structure yJ(K:Ñ)(n:Ã)(G0 H0 G H:Hp)(τ:yD)(σ:St):È where
 ext:zW G0 H0 G H
 l1:σ.length=n
 l2:τ.length=n
 fr:∀(i:Ã)(d:D),τ[i]?=À Ŝc->∃v,σ[i]?=À Êa/\zh K G d v
 ow:∀(i:Ã)(d:D),τ[i]?=À ùc->∃p,σ[i]?=À Êe/\G p=Æ/\H0 p=Æ/\vh K G H d p
 ap:∀(i j:Ã)(d e:D)(p:Ì),i≠j->τ[i]?=À ùc->τ[j]?=À Üe->σ[i]?=À Êe->σ[j]?=À Êe->ÿ
section
variable{K:Ñ}{n:Ã}{G0 H0 G H G' H':Hp}{τ:yD}{σ:St}
def yJ.go(E:yJ K n G0 H0 G H τ σ)(x:zW G H G' H'):yJ K n G0 H0 G' H' τ σ:=⟨ço x,Ż,ź,λi d h=>by
 let{v,e,r}:=Ŀb i d h;show{v,e,ãa x.g},λi d h=>by
 let{p,e,g,z,o}:=Ãb i d h;show{p,e,?_,z,Ľj x.g x.h};cases q:G' p with
 |Æ=>rfl|À u=>rcases Ëd p (by rw[q];show λz=>nomatch z)with w|w;show ß g w;show ß w o.some,ŀb⟩
theorem yJ.zE(E:yJ K n G0 H0 G H τ σ):yJ K n G H0 G H τ σ:={E.ext.zE,Ż,ź,Ŀb,Ãb,ŀb}
def yJ.near(a:zW G0 H0 Ga Ha)(E:yJ K n Ga H0 G H τ σ):yJ K n G0 H0 G H τ σ:={a.rebase ĳc,Ż,ź,Ŀb,Ãb,ŀb}
def yJ.lt{i:Ã}{s:Ê Sl}(E:yJ K n G0 H0 G H τ σ)(h:τ[i]?=À s):i<n:=by rw[<-ź];show Ϫa.1
def tN{α:Type}{xs:Á α}{i j:Ã}{x y:α}(h:Ņf[j]?=À y):(j=i/\y=x)\/(j≠i/\xs[j]?=À y):=by
 rw[Ĕh]at h;by_cases e:i=j;subst e;rw[Ó rfl]at h
 rw[üq];cases h;show .inl {rfl,rfl};cases h;rw[Ô e]at h;show .inr {λz=>e ϸc,h}
def Q3{α:Type}{xs:Á α}{i:Ã}{x:α}(h:i<æ):Ņf[i]?=À x:=by rw[Ĕh,Ó rfl,Ó h]
theorem jU{α:Type}{xs:Á α}{i j:Ã}{x:α}(h:j≠i):Ņf[j]?=xs[j]?:=by rw[Ĕh,Ô (λz=>h ϸc)]
theorem yJ.set{i:Ã}{d:D}{v:V}(E:yJ K n G0 H0 G H τ σ)(hi:i<n)(r:zh K G d v):yJ K n G0 H0 G H çn ıd:=⟨ĳc,by rw[ņa];show Ż,by rw[Ąq],λj e h=>by
 rcases tN h with⟨rfl,z⟩|⟨a,z⟩;cases z;show{v,Q3 Óf,r};rw[jU a];show Ŀb j e z,λj e h=>by
 rcases tN h with⟨rfl,z⟩|⟨a,z⟩;cases z;rw[jU a];show Ãb j e z,λj k e f p c m l=>by
 rcases tN m with⟨rfl,z⟩|⟨a,z⟩;cases z;rcases tN l with⟨rfl,b⟩|⟨g,b⟩;cases b;rw[jU a,jU g];show ŀb j k e f p c z b⟩
def yJ.cI{i:Ã}{d:D}{p:Ì}(E:yJ K n G0 H0 G H τ σ)(hi:i<n)(v:G p=Æ)(t:H0 p=Æ)(o:vh K G H d p)(r:∀(j:Ã)(e:D),j≠i->τ[j]?=À Üe->σ[j]?=À Êe->ÿ) :yJ K n G0 H0 G H (τ.set i ùc) ýp:=⟨ĳc,by rw[ņa];show Ż,by rw[Ąq],λj e h=>by
 rcases tN h with⟨rfl,z⟩|⟨b,z⟩;cases z;rw[jU b];show Ŀb j e z,λj e h=>by
 rcases tN h with⟨rfl,z⟩|⟨b,z⟩;cases z;show{p,Q3 Óf,v,t,o};rw[jU b];show Ãb j e z,λj k e f q m u s c g=>by
 rcases tN u with⟨rfl,z⟩|⟨b,z⟩;rcases tN s with⟨rfl,l⟩|⟨a,l⟩;show m rfl;rw[Q3 Óf]at c;rw[jU a]at g;cases c;show r k f a l g;rcases tN s with⟨rfl,l⟩|⟨a,l⟩;rw[Q3 Óf]at g;rw[jU b]at c;cases g;show r j e b z c;rw[jU b]at c;rw[jU a]at g;show ŀb j k e f q m z l c g⟩
def yJ.cD(E:yJ K n G0 H0 G H τ σ)(a:H p=Æ):∀(j:Ã)(e:D),j≠i->τ[j]?=À Üe->σ[j]?=À Êe->ÿ:=λj e _ c b=>by let{q,e1,_,_,o}:=Ãb j e c;rw[b]at e1;cases e1;show o.some a
def yJ.freeze{i:Ã}{b:Ð}{d:D}(E:yJ K n G0 H0 G H τ σ)(hi:τ[i]?=À ùe):∃G',yJ K n G0 H0 G' H çn σ/\yN G G':=by
 let s:=E.lt hi;cases b with
 |Â=>
  show{G,?_,Ϩa _}
  let e:τ.set i Ŝc=τ:=by apply óf;intro j;by_cases hj:j=i;subst hj;rw[Q3 (by rw[ź];show s),hi];rw[jU hj]
  rw[e];show E
 |Ä=>let{p,e,g,z,o}:=Ãb i d hi;let{u,F,r}:=o.yO g;let x:zW G0 H0 Şo H:=E.ext.yO z g F;refine{zd G p u,{x,Ż,by rw[Ąq],λj a h=>?_,λj a h=>?_,λj k e1 f q t N C=>?_},uQ g _};rcases tN h with⟨rfl,w⟩|⟨m,w⟩;cases w;show{_,e,r};let{v,l,A}:=Ŀb j a w;show{v,l,A.mono Ûg};rcases tN h with⟨rfl,w⟩|⟨m,w⟩;cases w;let{q,l,L,J,I}:=Ãb j a w;show{q,l,?_,J,I.mono Ûg Ēj};rw[yH ϗi];show L;subst c;show ŀb i j d a q (λc=>m ýg) hi w e l;rcases tN N with⟨rfl,w⟩|⟨m,w⟩;cases w;rcases tN C with⟨rfl,y⟩|⟨B,y⟩;cases y;show ŀb j k e1 f q t w y
#print a
section
variable(X:Cx)
structure SE(e:Õ)(f:FE):È where
 h:∃t,PE X e t/\∀{G0 H0 G H:Hp}{τ:yD}{σ:St}{d:D}{Q:VK},yJ X.K ć G0 H0 G H τ σ->f τ=À d->(∀v G' H',zW G H G' H'->zh X.K G' d v->Q v H')->t σ H Q
structure SB(e:Õ)(f:FE):È where
 h:∃t,PE X e t/\∀{G0 H0 G H:Hp}{τ:yD}{σ:St}{d:D}{Q:VK},yJ X.K ć G0 H0 G H τ σ->f τ=À d->(∀v G' H',zW G H G' H'->zh X.K H' d v->Q v H')->t σ H Q
structure SF(e:Õ)(f:FE):È where
 h:∃t,PE X e t/\∀{G0 H0 G H:Hp}{τ:yD}{σ:St}{d:D}{Q:VK},yJ X.K ć G0 H0 G H τ σ->f τ=À d->(∀p G' H',zW G H G' H'->H p=Æ->G' p=Æ->vh X.K G' H' d p->Q ž H')->t σ H Q
structure ST(e:Õ)(f:FT):È where
 h:∃t,PT X e t/\∀{G0 H0 G H:Hp}{τ:yD}{σ:St}{d:Ð}{Q:Ð->Hp->È},yJ X.K ć G0 H0 G H τ σ->f τ=À d->(∀G' H',zW G H G' H'->Q d H')->t σ H Q
structure SW(e:Õ)(f:FT):È where
 h:∃t,PW X e t/\∀{G0 H0 G H:Hp}{τ:yD}{σ:St}{d:Ð}{Q:Ð->Hp->È},yJ X.K ć G0 H0 G H τ σ->f τ=À d->(∀G' H',zW G H G' H'->Q d H')->t σ H Q
structure SA(es:Á Õ)(f:FA):È where
 h:∃t,PA X es t/\∀{G0 H0 G H:Hp}{τ:yD}{σ:St}{ds:Á D}{Q:Á V->Hp->È},yJ X.K ć G0 H0 G H τ σ->f τ=À ds->(∀vs G' H',zW G H G' H'->å X.K G' ds vs->Q vs H')->t σ H Q
structure IQ(es:Á Õ)(f:FA):È where
 h:∃t,PA X es t/\∀{G0 H0 G H:Hp}{τ:yD}{σ:St}{ds:Á D}{Q:Á V->Hp->È},yJ X.K ć G0 H0 G H τ σ->f τ=À ds->(∀vs G' H',zW G H G' H'->å X.K H' ds vs->Q vs H')->t σ H Q
#print a
def tU(K:Ñ)(n:Ã)(b a:Hp)(E:ui):Fl->È
 |.nx τ=>∀σ G H,yJ K n b a G H τ σ->E.nx σ H|.bk τ=>∀σ G H,yJ K n b a G H τ σ->E.bk σ H|.ct τ=>∀σ G H,yJ K n b a G H τ σ->E.ct σ H|.rt Â d=>∀v G H,zW b a G H->zh K G d v->E.rt v H|.rt Ä d=>∀p G H,zW b a G H->a p=Æ->G p=Æ->vh K G H d p->E.rt ž H
section
variable(X:Cx)
structure SS(st:Ú)(f:FS):È where
 h:∃t,PS X st t/\∀{G0 H0 G H:Hp}{τ:yD}{σ:St}{fl:Fl}{E:ui},yJ X.K ć G0 H0 G H τ σ->f τ=À fl->tU X.K ć G0 H0 E fl->t E σ H
structure qY(st:Á Ú)(f:FS):È where
 h:∃t,tV X st t/\∀{G0 H0 G H:Hp}{τ:yD}{σ:St}{fl:Fl}{E:ui},yJ X.K ć G0 H0 G H τ σ->f τ=À fl->tU X.K ć G0 H0 E fl->t E σ H
#print a
structure jK(K:Ñ)(J:It)(G:Hp)(ds:Á D):È where
 go:∀i G2 H,yN G G2->yN G2 H->i<ø->J.go i H
 uh:∀i G2 H x H',yN G G2->yN G2 H->i<ø->J.uh i H x H'->∃G3 d,zW G2 H G3 H'/\ds[i]?=À d/\zh K G3 d x
 Š:∀i G2 H,yN G G2->yN G2 H->ø<=i->įg i H
structure SI(X:Cx)(tg ό:Õ)(f:FA):È where
 h:∃wi,PI X tg ό wi/\∀{G0 H0 G H:Hp}{τ:yD}{σ:St}{ds:Á D}{R:It->Hp->È},yJ X.K ć G0 H0 G H τ σ->f τ=À ds->(∀J G' H',zW G H G' H'->ø<=â->jK X.K J G' ds->R J H')->wi σ H R
nonrec def vQ(K:Ñ)(F:Á D->Ê ã):Sp:=λa H Q _=>∃G ds o d,yN G H/\å K G ds a/\F ds=À (o,d)/\
 match o with
 |Â=>∀v G' H',zW G H G' H'->zh K G' d v->Q v H'|Ä=>∀p G' H',zW G H G' H'->H p=Æ->G' p=Æ->vh K G' H' d p->Q ž H'
def zJ{α β:Type}{o:Ê α}{f:α->Ê β}{b:β}(h:ľj f=À b):∃a,o=À a/\f a=À b:=by
 cases o with
 |Æ=>cases h|À a=>show{a,rfl,h}
def i_(h:z6 i τ=À d):τ[i]?=À Ŝc:=by
 unfold z6 at h
 rw[ϑp];cases h;show e;cases h
def z83(h:Vd i τ=À d):∃b,τ[i]?=À ùe:=by
 unfold Vd at h
 rw[üq];rename_i b a e;cases h;show{_,e};cases h
section
variable{X:Cx}{x:Ç}{p pos:Pos}{e a b c o:Õ}{es yG:Á Õ}{f fa fb:FE}{ft fu:FT}{fs:FA}{F:D->D->Ê D}{r:R2}
def SE.sb(h:SE X e f):SB X e f:={let ⟨t,p,k⟩:=h.h;{t,p,λE c q=>k E c λv a b x r=>q v a b x (ãa ϻa)}}
def SF.se(h:SF X e f):SE X e f:={let ⟨t,p,k⟩:=h.h;{t,p,λE d q=>k E d λp g i x c a o=>by let{u,b,r}:=o.yO a;show q _ _ _ (x.yO c a b) r}}
def zG(h:SE X e f):SB X e f:=h.sb
def ya(h:SF X e f):SE X e f:=h.se
def z7(i:Ã)(b:Î Ìe q12)(hv:Î će q13)(c:Î ķ q10)(a:Î Æb q10):SE X ëa (z6 i):={{_,WM b hv c a,λE d q=>by let{v,e,r}:=Ŀb _ _ (i_ d);show{v,e,q v _ _ ũb r}}}
def z01(i:Ã)(d:Î Ìe q12)(hv:Î će q13)(f:Î ķ q10)(a:Î Æb q10):SB X ëa (Vd i):=⟨⟨_,WM d hv f a,λE g q=>by
 let{b,c}:=z83 g;cases b with
 |Â=>let{v,e,r}:=Ŀb _ _ c;show{v,e,q v _ _ ũb (ãa ėa)}
 |Ä=>let{p,e,_,_,o}:=Ãb _ _ c;show{_,e,q _ _ _ ũb (o.rep ėa)}⟩⟩
def LA(h:PE X e Ūe)(r:∀H,zh X.K H d v):SE X e (eC d):={{_,h,λE a q=>by cases a;show q v _ _ ũb (r _)}}
def zH{i k pos}:SE X (.Constant Ŭ k pos) (eC Ŭ):=LA oi λ_=>rfl
def uu{i k pos}:SE X (.Constant (.bool i) k pos) (eC (.bl i)):=LA x0g λ_=>rfl
def xr{k pos}:SE X (.Constant .none k pos) Ϣ:=LA x0z λ_=>rfl
def zr{x k pos}(h:Î (Ça<=1000) q10):SE X (.Constant Ĭb k pos) (eC Ĭb):=LA oz λ_=>{rfl,ϒa h}
def vK(h:wH õ x v)(r:∀H,zh X.K H d v)(b:Gl X x)(a:Î ķ q10):SE X ëa (eC d):=LA (WL h b a) r
def qB(K:Ñ)(r:R2)(F:D->D->Ê D):È:=∀G H x y u v d (Q:VK),yN G H->zh K G x u->zh K G y v->F x y=À d->(∀w G' H',zW G H G' H'->zh K G' d w->Q w H')->r u v H Q
def g_(K:Ñ)(r:R2)(F:D->D->Ê D):È:=∀H x y u v d (Q:VK),zh K H x u->zh K H y v->F x y=À d->∃k,d=.bl k/\(Q şd H->r u v H Q)
def zY(o:xF X (ϟa op) r)(G:qB X.K r F)(z:SE X a fa)(H:SE X b fb):SE X (.BinOp a op b pos) ňf:=by
 let{N,j,I}:=z.h;let{tb,p,s}:=H.h;show{{_,ox o j p,λE c q=>?_}};let{x,n,c}:=zJ c;let{y,A,c}:=zJ c;show I E n λv J L e f=>?_
 show s Řd A λu i m d k=>?_
 show G i m x y v u _ _ d.gh äp k c λw B C l t=>q w B C (İb (ϧb l)) t
def zg(I:pU X r)(G:qB X.K r F)(z:SE X a fa)(H:SE X b fb)(i:Î žo q12):SE X Ÿl ňf:=by
 let{O,k,J}:=z.h;let{tb,p,s}:=H.h;show{{_,PR I k p (DJ i),λE c q=>?_}};let{x,o,c}:=zJ c;let{y,A,c}:=zJ c;show J E o λv L N e f=>?_
 show s Řd A λu j n d l=>?_
 show G j n x y v u _ _ d.gh äp l c λw B C m t=>q w B C (İb (ϧb m)) t
def uA(n:xF X (Ĕa op) r)(A:g_ X.K r F)(s:SB X a fa)(w:SB X b fb)(j:ϟb op b=Â):SE X Ñl ňf:=by
 let{I,g,B}:=s.h;let{tb,o,p}:=w.h;show{{_,x0q n g o j,λE c q=>?_}};let{x,m,c}:=zJ c;let{y,t,c}:=zJ c;show B E m λv C G d f=>?_
 show p (Àa d) t λu H l e i=>?_
 let{k,rfl,z}:=A l x y v u _ _ (öj e.h) i c;show z (q _ _ _ (ϧb e) rfl)
def zy(o:xF X (Ĕa op) r)(B:g_ X.K r F)(t:SB X a fa)(A:SB X b fb)(l:ϟb op b=Â):ST X Ñl (tE ňf):=by
 let{J,i,C}:=t.h;let{tb,p,s}:=A.h;show{{_,DN o i p l,λE d q=>?_}};let{z,c,d}:=zJ d;let{x,n,c}:=zJ c;let{y,w,c}:=zJ c;show C E n λv G H e g=>?_
 show s Řd w λu I m f j=>?_
 let{k,rfl,z}:=B m x y v u _ _ (g.mono f.h) j c;cases d;show z {_,rfl,q _ _ (İb f)}
def v8(h:SE X e f)(b:Î (rC e=Ä) q12):ST X e (tE f):=by
 rw[Úq];show{{_,x2f p (x1y b),λE a q=>?_}};let{z,c,a}:=zJ a;show k E c λv d g x r=>?_
 cases z<;>first|cases a|skip
 cases r;show{_,rfl,q _ _ x}
def Ql(h:ST X a ft):SW X ĩl ft:={let ⟨t,p,k⟩:=h.h;{t,x2q p,k}}
def jg(h:ST X a ft):SW X Ŕl ft:={let ⟨t,p,k⟩:=h.h;{t,x2t p,k}}
def We(j:ST X a ft)(l:SW X Įf fu):SW X ϧf (kW ft fu):=by
 rw[Ķq];show{{_,x2p e g,λE c q=>?_}};let{k,f,c}:=zJ c;show n E f λo p d=>?_
 cases k with
 |Ä=>show Yj īk|Â=>cases c;show Yi Ĥp
def jf(j:ST X a ft)(l:SW X ĭf fu):SW X Ϧf (qK ft fu):=by
 rw[Ķq];show{{_,x2s e g,λE c q=>?_}};let{k,f,c}:=zJ c;show n E f λo p d=>?_
 cases k with
 |Â=>show Yi īk|Ä=>cases c;show Yj Ĥp
def tQ(h:SW X e ft):ST X e ft:={let ⟨t,p,k⟩:=h.h;{t,p.pt,k}}
def gU(h:ST X a ft):ST X Õf (pL ft):=by let{j,d,e}:=h.h;show{{_,x2e d,λE b q=>?_}};let{k,f,b}:=zJ b;cases b;show e E f λg i c=>q _ _ c
def UD{op}(h:SE X a f):SE X źl f:={let ⟨t,p,k⟩:=h.h;{t,x11 p,k}}
def Px{K:Ñ}{G:Hp}{z:D}{v:V}{k:Ð}(r:zh K G z v)(h:Xo z=À k):v=.bl k:=by
 cases z<;>first|cases h|skip
 show r
def L9(m:SE X a fa)(n:SE X Įf fb):SE X ϧf (YQ fa fb):=by
 rw[Ĵq];show{{_,x0f f j,λE c q=>?_}};rw[ħq];show p E r λv s t d e=>{k,Px e i,?_}
 cases k with
 |Ä=>show Yj çk|Â=>cases c;show Yi Ϣm
def z0p(m:SE X a fa)(n:SE X ĭf fb):SE X Ϧf (Iq fa fb):=by
 rw[Ĵq];show{{_,x13 f j,λE c q=>?_}};rw[ħq];show p E r λv s t d e=>{k,Px e i,?_}
 cases k with
 |Â=>show Yi çk|Ä=>cases c;show Yj Ϣm
def x5w(d:SE X a fa):SE X Õf (BH fa):=by let{n,g,i}:=d.h;show{{_,x10 g,λE b q=>?_}};let{z,j,b}:=zJ b;let{k,e,b}:=zJ b;cases b;show i E j λv l m f c=>{k,Px c e,q _ _ _ f rfl}
def tM(i:ST X c ft)(o:SE X a fa)(r:SE X b fb):SE X Ąm (u7 ft fa fb):=by
 let{y,pc,t}:=i.h;let{z,j,u}:=o.h;let{tb,m,n}:=r.h;show{{_,x0v pc j m,λE d q=>?_}};let{k,l,d}:=zJ d;show t E l λw x e=>?_
 cases k with
 |Ä=>show Yj (u Řd d λv p s g f=>q v _ _ (İb g) f)|Â=>show Yi (n Řd d λv p s g f=>q v _ _ (İb g) f)
def zL:SA X [] zF:={{_,U2,λE a q=>by rw[Õq]}}
def zB(o:SE X e f)(p:SA X es fs)(h:Î ϴ q12):SA X ĵ Ėp:=by
 let{z,j,s}:=o.h;let{tb,m,n}:=p.h;show{{_,WK j m h,λE a q=>?_}};let{x,l,a}:=zJ a;let{A,b,a}:=zJ a;cases a;show s E l λv t u c i=>n (Àa c) b λr w y d k=>?_
 show q _ _ _ (õc d) {v,r,rfl,Ńj d.g,k}
def wp:IQ X [] zF:={{_,U2,λE a q=>by rw[Õq]}}
def wn(n:SB X e f)(o:IQ X es fs)(h:Î ϴ q12):IQ X ĵ Ėp:=by
 let{y,i,r}:=n.h;let{tb,l,m}:=o.h;show{{_,WK i l h,λE a q=>?_}};let{x,k,a}:=zJ a;let{z,b,a}:=zJ a;cases a;show r E k λv s t c g=>m (Àa c) b λp u w d j=>?_
 show q _ _ _ (õc d) {v,p,rfl,g.mono d.h,j}
def O_(h:ϭa es=À is):SA X es (λ_=>À Ϡn):={{_,oW h,λE a q=>by cases a;show q _ _ _ ũb Ďe}}
def wz{x1}(h:SA X es fs)(e:∀τ ds,fs τ=À ds->ø<=1000):SE X ăm (wO fs):=by
 let{t,i,k}:=h.h;show{{_,x16 i,λE a q=>?_}};let{g,d,a}:=zJ a;cases a;let l:âa<=â:=ϒa (e _ _ d);refine k E d λf j m x1 b=>{by rw[Ź];show l,λp c=>?_}
 show q _ _ _ (x1.trans (ıb x1.gh c)) {p,f,rfl,żb yo,b.mono (uQ (x1.gh.free c) _),l}
def wS(h:SA X es fs)(f:∀τ ds,fs τ=À ds->ø<=1000):SF X ĕn (wA fs):=by
 let{t,j,k}:=h.h;show{{_,x0w j,λE c q=>?_}};let{i,e,c}:=zJ c;cases c;let l:åb<=â:=ϒa Ϧi;refine k E e λg m n a d=>{by rw[ăa];show l,λp b=>?_}
 show q _ _ _ (a.trans (ϑa a.gh b)) (a.h.free b) (a.gh.free b) {g,yo,d,l}
def yg:∀(τ:yD) ds,zF τ=À ds->ø<=0:=λ_ _ h=>by cases h;show Ϙ _
def zb(h:∀τ ds,fs τ=À ds->ø<=n):∀τ ds,zA f fs τ=À ds->ø<=n+1:=λτ ds e=>by let{x,_,e}:=zJ e;let{b,a,e}:=zJ e;cases e;show ìc (h _ _ a)
def IY{is:Á Å}{n:Ã}(h:is.length<=n):∀(τ:yD) ds,(À Ϡn)=À ds->ø<=n:=λ_ _ e=>by cases e;rw[ç];show h
def yW(h:∀τ ds,fs τ=À ds->ø<=m)(a:m<=n):∀τ ds,fs τ=À ds->ø<=n:=λτ ds e=>đ (h τ ds e) a
variable{ps:Á Ç}{j k:Ã}{FF:Á D->Ê ã}{FL:Á D->Ê D}{id T:äa}
def qk(h:vg ú X.w X.K õ Ũ x ps k śf)(c:xL j X.A)(z:Gl X x)(s:SA X ĵ fs)(hk:Î Òc q10)(b:Î ķ q10)(B:Î Ła q12):SF X Ϙa (uW FF fs):=by
 let{t,C,r}:=s.h;show{{_,PU h c z C hk b B,λE a q=>?_}};let{l,m,a}:=zJ a;rw[łq];cases o with
 |Â=>cases a|Ä=>
  cases a;refine r E m λH g G f i=>{g,l,Ä,_,f.gh,by rw[ū];show i,c,λp u v y n F o=>?_}
  show q p u v (āj y) (f.h.free n) F o
def zj(h:vg ú X.w X.K õ Ũ x ps k śf)(c:xL j X.A)(H:Gl X x)(F:SA X ĵ fs)(hk:Î Òc q10)(b:Î ķ q10)(I:Î Ła q12):SE X Ϙa (zU FF fs):=by
 let{t,J,C}:=F.h;show{{_,PU h c H J hk b I,λE a q=>?_}};let{y,z,a}:=zJ a;rw[łq];cases a;refine C E z λN n L f s=>{n,y,o,d,f.gh,by rw[ū];show s,c,?_}
 cases o with
 |Â=>show λv i l g r=>q v i l (āj g) r|Ä=>intro p i l g B m o;let{u,G,r}:=o.yO m;show q _ _ _ (āj (g.yO B m G)) r
def VP(K:Ñ)(r:Á V->Hp->VK->È)(F:Á D->Ê D):È:=∀G H ds vs d (Q:VK),yN G H->å K H ds vs->F ds=À d->(∀w G' H',zW G H G' H'->zh K G' d w->Q w H')->r vs H Q
def fM(K:Ñ)(r:Á V->Hp->VK->È)(F:Á D->Ê D):È:=∀G H ds vs d (Q:VK),yN G H->å K G ds vs->F ds=À d->(∀w G' H',zW G H G' H'->zh K G' d w->Q w H')->r vs H Q
def vI(i:vV X řb rc)(v:VP X.K rc FL)(A:Gl X x)(n:õ x=Æ)(hv:Ŵ x=À řb)(r:IQ X ĵ fs)(l:Î Êb q10)(a:Î ķ q10)(B:Î Ła q12):SE X Ϙa ľi:=by let{t,C,o}:=r.h;show{{_,(DR i A n hv {C} l a B).h,λE b q=>?_}};let{g,k,b}:=zJ b;show o E k λy d j c f=>v d j g y _ _ c.gh f b λw s u z m=>q w s u Ōe m
def z0n(i:vV X ĥb rc)(v:VP X.K rc FL)(A:Gl X x)(n:õ x=Æ)(hv:Ŵ x=À ĥb)(r:IQ X ĵ fs)(l:Î Êb q10)(a:Î ķ q10)(B:Î Ła q12):SE X Ϙa ľi:=by rw[ϧp];show o E k λy d j c f=>v d j g y _ _ c.gh f b λw s u z m=>q w s u Ōe m
def Dh(i:vV X ĥb rc)(v:fM X.K rc FL)(A:Gl X x)(n:õ x=Æ)(hv:Ŵ x=À ĥb)(r:SA X ĵ fs)(l:Î Êb q10)(a:Î ķ q10)(B:Î Ła q12):SE X Ϙa ľi:=by rw[ϧp];show o E k λy d j c f=>v d j g y _ _ c.gh f b λw s u z m=>q w s u Ōe m
def UE(i:IS X (ôg op) ru)(m:∀(G H:Hp) x u d (Q:VK),zh X.K G x u->F1 x=À d->∃w,(∀G,zh X.K G d w)/\(Q w H->ru u H Q))(l:SE X a fa):SE X (.UnaryOp op a pos) (e1 F1 fa):=by
 let{t,o,k}:=l.h;show{{_,x17 i o,λE c q=>?_}};let{x,j,c}:=zJ c;show k E j λv e g n f=>?_
 let{w,b,z}:=m e g x v _ _ f c;show z (q w _ _ n (b _))
#print a
section
variable{X:Cx}{x:Ç}{p pos Ľa:Pos}{e a b c tg ό:Õ}{f fa fb:FE}{ft:FT}{fs:FA}{st:Ú}{sts ķc:Á Ú}{g g':FS}
def yl:qY X [] yY:={{_,rN,λ{_ _ G H τ σ b E} K a q=>by cases a;show q σ G H K}}
theorem Ňe{K:Ñ}{n:Ã}{c b:Hp}{E e:ui}{a:Fl}(h:tU K n c b E a)(l:∀τ,a=.nx τ->tU K n c b e (.nx τ))(j:∀τ,a=.bk τ->tU K n c b e (.bk τ))(k:∀τ,a=.ct τ->tU K n c b e (.ct τ))(f:e.rt=E.rt):tU K n c b e a:=by
 cases a with
 |nx τ=>show l τ rfl|bk τ=>show j τ rfl|ct τ=>show k τ rfl|rt o d=>
  cases o with
  |Â=>intro v G H x r;rw[f];show h v G H x r|Ä=>intro v G H x i m g;rw[f];show h v G H x i m g
def zV(b:SS X st g)(e:qY X sts g'):qY X Ģp (zQ g g'):=by
 let{t,p,k}:=b.h;let{u,c,j}:=e.h;show{{_,rM p c,λ{m l G H τ σ n E} K a q=>?_}};let{f,b,a}:=zJ a;show k K b ?_;cases f with
 |nx τ'=>show λσ' r s i=>j i a q|bk τ'=>cases a;show q|ct τ'=>cases a;show q|rt o d=>cases a;show Ňe q èa èa èa rfl
def zT(a:SS X st g):qY X [st] g:={let ⟨t,p,k⟩:=a.h;{t,rO p,k}}
def LJ(i:Ã)(h:qY X sts g):qY X sts (zQ (Yz i) g):=by
 rw[Úq];show{{t,p,λ{j f G H τ σ n E} K b q=>?_}};let{l,a,b}:=zJ b;unfold Yz at a
 rw[ϊp];rename_i m d c;cases a;let{o,e,_}:=K.freeze c;show k e b q;cases a
def yQ(g:źa)(hi:X.N[i]?=À x)(c:gw Ða x)(l:SE X e f)(j:Î Ĉe q12)(a:Î Āb q7) :SS X ϥe (yB i f):=by let{t,p,k}:=l.h;show{{_,(Po g hi c {p} j a).h,λ{n m G H τ σ o E} K a q=>?_}};rw[øq];show k K b λv s u x r=>q _ _ _ ((öa x).set ϸb.1 r)
def j4(j:źa)(hi:X.N[i]?=À x)(g:gw Ða x)(m:SF X e f)(l:Î Ĉe q12)(a:Î Āb q7) :SS X ϥe (tL i f):=by
 let{t,p,k}:=m.h;show{{_,(Po j hi g {p} l a).h,λ{s r G H τ σ u E} K a q=>?_}};let{d,c,a}:=zJ a;cases a;show k K c λp v w x b n o=>q _ _ _ ((öa x).cI ϸb.1 n (Ůn b) o ?_)
 show K.cD b
def zn(c:SE X e f):SS X Öf (zm f):=by let{t,p,k}:=c.h;show{{_,DM p,λ{i g G H τ σ j E} K a q=>?_}};rw[øq];show k K b λv l m x r=>q v _ _ ϻm r
def qJ(g:SF X e f):SS X Öf (ut f):=by let{t,p,k}:=g.h;show{{_,DM p,λ{l j G H τ σ m E} K a q=>?_}};rw[øq];show k K b λp n r x c i o=>q p _ _ ϻm (Ůn c) i o
def kU(i:Ã)(f:Î Ìe q12)(hv:Î će q13)(c:Î ķ q10)(b:Î Æb q10):SS X (.Return (À ŝn) pos) (pK i):=by
 show{{_,DM (WM f hv c b),λ{k j G H τ σ l E} K a q=>?_}};unfold pK at a
 rw[ϊp];rename_i d h;cases a;let{p,e,g,z,o}:=K.ow _ _ h;show{_,e,q p _ _ K.ext z g o};cases a
def yV(d:ST X c ft)(l:qY X sa g)(m:qY X sb g'):SS X (.If c sa sb pos) (yP ft g g'):=by
 let{u,pc,n}:=d.h;let{w,e,o}:=l.h;let{tb,i,j}:=m.h;show{{_,rK pc e i,λ{s p G H τ σ v E} K a q=>?_}};let{k,f,a}:=zJ a;show n K f λr t b=>?_
 cases k with
 |Ä=>show Yj (o (öa b) a q)|Â=>show Yi (j (öa b) a q)
def Wa:qY X sts Ûb:={{_,x2d,λ_ a=>by cases a}}
def z1j{ft:FT}(s:įd Ą X.A Ù ı)(r:ST X c ft)(C:qY X ķc g):SS X (.While c ķc [] pos) (DZ ft g):=by
 let{L,pc,F}:=r.h;let{tb,y,B}:=C.h;show{{_,x2c s pc y,λ{i f G H τ σ j E} K a q=>?_}};show{λm σ H=>∃τ G,yJ X.K ć i f G H τ σ/\j6 ft g m τ=À j,{ML,τ,G,K,a},?_};rintro m σ H ⟨τ,G,K,a⟩;cases m with
 |Øa=>cases a|Ùa n=>
  let{k,u,a}:=zJ (show(ft τ).bind _=_ from a);show F K u λI J p=>?_
  cases k with
  |Â=>cases a;show Yi (q _ _ _ (öa p))|Ä=>
   let{t,v,a}:=zJ (show(g τ).bind _=_ from a);show Yj {λσ' l=>∃τ G,yJ X.K ć i f G l τ σ'/\j6 ft g n τ=À j,λσ' l z=>{n,äc n,z},B (öa p) v ?_};cases t with
   |nx τ2=>show λσ2 b x e=>{τ2,b,e,a}|ct τ2=>show λσ2 b x e=>{τ2,b,e,a}|bk τ2=>cases a;show q|rt o d=>cases a;show Ňe q èa èa èa rfl
theorem ûj{K:Ñ}{n:Ã}{c a e j:Hp}{E:ui}{b:Fl}(x:zW c a e j)(h:tU K n c a E b):tU K n e a E b:=by
 cases b with
 |nx τ=>show λσ G H z=>h σ G H ϧh|bk τ=>show λσ G H z=>h σ G H ϧh|ct τ=>show λσ G H z=>h σ G H ϧh|rt o d=>
  cases o with
  |Â=>show λv G H y r=>h v G H ϔn r|Ä=>show λp G H y i f g=>h p G H ϔn i f g
structure SG(X:Cx)(tg:Õ)(fg:FG):È where
 h:∃t,PG X tg t/\∀{G0 H0 G H:Hp}{τ τ':yD}{σ:St}{d:D}{v:V}{Q:St->Hp->È},yJ X.K ć G0 H0 G H τ σ->zh X.K G d v->fg d τ=À τ'->(∀σ',yJ X.K ć G0 H0 G H τ' σ'->Q σ' H)->t v σ H Q
def WT(h:QG X ëa īc)(hi:X.N[i]?=À x):SG X ëa (zu i):={{_,h.h,λK r a q=>by cases a;show q _ (K.set ϸb.1 r)}}
def UG(h:QG X ėk Ϙe)(hi:X.N[i]?=À x)(f:X.N[j]?=À y):SG X ėk (wm i j):=⟨⟨_,h.h,λ{s o G H τ τ' σ d v Q} K r b q=>by
 unfold wm at b
 rw[ĝq];rename_i u w;cases b;let{a,t,rfl,c,{l,p,rfl,m,{n,k,rfl,g,e}},_}:=r;cases(show k=[]from e);show{a,_,rfl,uR àa c,rfl,l,_,rfl,n,_,rfl,rfl,?_};show q _ ((K.set ϸb.1 m).set œe.1 g);cases b⟩⟩
def j3{c:FG}(v:įd Ą X.A Ù ı)(S:Ϝ=Ä)(hi:SI X tg ό fs)(hg:SG X tg c)(hb:qY X ķc g)(Q:Î (∀x,Ŋb ό Ù x=pure x) q11):SS X Ϻg (ur fs c g):=by
 let{ti,pi,O}:=Ķc;let{C,R,P}:=hg.h;let{tb,F,I}:=hb.h;show{{_,Pd v S pi R F Q,λ{G0 r G H τ σ s E} K a q=>?_}};let{b,T,a}:=zJ a;show O K T λJ n Ha L _ j=>?_
 let t:=öa L;let k:=ûj t.ext q;show{λi m σ H=>m=Ź-i/\i<=Ź/\∃τ G,yJ X.K ć n r G H τ σ/\p9 c g ċj τ=À s,{Ź,rfl,ýa _,τ,n,t.zE,a},?_};rw[Àq];show .inr {j.go i G H Åc àa hlt,λσ' f=>∃τ G,yJ X.K ć n r G f τ σ'/\p9 c g ſi τ=À s,λσ' f z=>{Ź-ñ,Øf _ _ hlt,rfl,hlt,z},λx f y=>?_};rw[Ťp];let{Y,B,a}:=zJ a;show P Ðj rd h1 λσ1 Z=>I Z B ?_
 cases Y with
 |nx τ2=>show λσ2 p H2 l=>{τ2,p,l,a}|ct τ2=>show λσ2 p H2 l=>{τ2,p,l,a}|bk τ2=>cases a;show k|rt o d=>cases a;show Ňe k èa èa èa rfl
 rw[úq];show .inl {j.stop i G H Åc àa É,k _ _ _ K}
def mv{K:Ñ}{G:Hp}{lo:Å}{n:Ã}:jK K ĸp G ((Ġc).map λk:Ã=>ý Źb) where
 go:=λi b H _ _ a=>by exact i<n;simpa using a
 uh:=λi b H x d _ c a y=>by let{rfl,rfl}:=y;show{b,.int ϳa,úa c,by simp at a;simp[a],rfl}
 Š:=λi b H _ _ a=>by exact n<=i;simpa using a
def Zq(u:Gl X Śa)(g:õ Śa=Æ)(m:SE X a fa)(d:Î ϋc q12):SI X tg Ϙl (tj ī fa):=by
 let{t,w,k}:=(zB m zL d).h;show{{_,x1l u g w Ţj,λ{B z G H τ σ ds R} K b q=>?_}};let{x,l,b}:=zJ b;cases l;let{y,n,b}:=zJ b;refine k K (ds:=[y]) (by unfold zA;rw[n];rfl) λI A C s f=>?_
 cases y<;>first|cases b|skip
 rename_i j;let{v,r,rfl,i,o}:=f;cases(show r=[]from o);cases(show v=.int j from i)
 change (if(0:Å).natAbs<=yb/\ϝc<=yb/\(j-0).toNat<=yb then _ else _)=_ at b
 by_cases c:(0:Å).natAbs<=yb/\ϝc<=yb/\(j-0).toNat<=yb;rw[żp];let E:ϝc<=16777216:=c.2.1;let F:(j-0).toNat<=16777216:=c.2.2;refine{j,rfl,by omega,by omega,q _ _ _ s ?_ ?_};rw[ç,Ďb,Ŧ];omega;let e:(j-0).toNat=Ϛc:=by omega
 rw[e];show mv;rw[Żp]
def x6f(F:Gl X Śa)(z:õ Śa=Æ)(n:SE X a fa)(C:SE X b fb)(g:Î ϋc q12)(e:Î ļi q12):SI X tg Ňk (tj fa fb):=by
 let{t,u,k}:=(zB n (zB C zL e) g).h;refine{{_,x1m F z u (by rw[tP g,tP e];rfl) (tP e),λ{N J G H τ σ ds R} K d q=>?_}};let{x,A,d}:=zJ d;let{y,B,d}:=zJ d;refine k K (ds:=Ĵc) (by unfold zA;rw[A,B];rfl) λS L O E l=>?_
 cases x with
 |int i=>
  cases y with
  |int j=>
   let{v,r,rfl,m,{I,w,rfl,f,o}}:=l;cases(show w=[]from o);cases(show v=.int i from m);cases(show I=.int j from f)
   change (if ϵb<=yb/\ϝc<=yb/\(ŷd).toNat<=yb then _ else _)=_ at d
   by_cases c:ϵb<=yb/\ϝc<=yb/\(ŷd).toNat<=yb;rw[Ó c]at d;let P:ϵb<=16777216:=c.1;let Q:ϝc<=16777216:=c.2.1;let s:(ŷd).toNat<=16777216:=c.2.2;cases d;refine{i,j,rfl,{by omega,by omega,by omega,by omega},q _ _ _ E ?_ mv};rw[ç,Ďb,Ŧ];show s;rw[Ô c]at d;cases d
  |_=>cases d
 |_=>cases d
def y3d{K:Ñ}{G:Hp}{a:Ì}{vs:Á V}{ds:Á D}(g:yu K G a vs)(r:å K G ds vs):jK K êj G ds where
 go:=λi h H c b f=>by let{v,e,_}:=ϸa (ğ f);show{vs,v,ux Śd g,e}
 uh:=λi h H x l c b f y=>by let{rfl,y}:=y;let e:=y vs (ux Śd g);let{d,j,k}:=r.at e;show{h,d,úa b,j,k.mono c}
 Š:=λi h H c b f=>{vs,ux Śd g,by rw[ſ];show f}
def w1s{K:Ñ}{G:Hp}{a:Ì}{vs:Á V}{ds:Á D}(g:xK K G a vs)(r:å K G ds vs):jK K éj G ds where
 go:=λi h H c b f=>by let{v,e,_}:=ϸa (ğ f);show{vs,v,uR Śd g,e}
 uh:=λi h H x l c b f y=>by let{rfl,y}:=y;let e:=y vs (uR Śd g);let{d,j,k}:=r.at e;show{h,d,úa b,j,k.mono c}
 Š:=λi h H c b f=>{vs,uR Śd g,by rw[ſ];show f}
def x7d{K:Ñ}{G:Hp}{z:Ç}:jK K Ŀg G (ńm λc=>Ļ {#[c]}) where
 go:=λi b H _ _ a=>by rw[ç,Ū]at a;show a
 uh:=λi b H x f _ e a y=>by let{rfl,c,d,rfl}:=y;show{b,.str {#[c]},úa e,?_,rfl,ϒa (n:=1) Í};rw[Ś,Ćb,d];rfl
 Š:=λi b H _ _ a=>by rw[ç,Ū]at a;show a
def PI.or(c:PI X tg e w1)(b:PI X tg e w2):PI X tg e (λσ H R=>w1 σ H R\/w2 σ H R):=λa s σ H R I q=>by rcases q with q|q;show c a s σ H R I q;show b a s σ H R I q
def uB(h:SE X e f):SI X tg e (vY f):=by
 rw[Úq];show{{_,PI.or (x1k p) (PI.or (x1o p) (x1n p)),λ{u o G H τ σ s R} K i q=>?_}};let{d,c,i}:=zJ i;cases d<;>first|cases i|skip
 rename_i z;show .inr (.inr Øh);let{rfl,l}:=r;show{z,rfl,q _ _ _ x (by rw[ç,Ū];show l) x7d};show .inr (.inl Øh);let{a,j,rfl,b,g,l}:=r;show{a,rfl,{j,uR ϻa b},q _ _ _ x l (w1s b g)};show .inl Øh;let{a,j,rfl,b,g,l}:=r;show{a,rfl,{j,ux ϻa b},q _ _ _ x l (y3d b g)}
#print a
nonrec def Al(K:Ñ)(n:Ã)(f:FE):TE:=λσ H Q=>∃G0 H0 G τ d,yJ K n G0 H0 G H τ σ/\f τ=À d/\∀v G' H',zW G H G' H'->zh K G' d v->Q v H'
nonrec def D_(K:Ñ)(n:Ã)(f:FT):TT:=λσ H Q=>∃G0 H0 G τ d,yJ K n G0 H0 G H τ σ/\f τ=À d/\∀G' H',zW G H G' H'->Q d H'
structure VS(X:Cx)(es:Á Õ)(f:FT):È where
 h:VQ X es (D_ X.K ć f)
section
variable{X:Cx}{e c:Õ}{f:FE}{ft:FT}
def SE.pe(h:SE X e f):PE X e (Al X.K ć f):=λa s σ H Q I q=>by rw[Úq];let{g,c,G,τ,d,K,b,z}:=q;show p a s σ H Q I Ħp
def ST.pt(h:ST X e ft):PT X e (D_ X.K ć ft):=λa s σ H Q I q=>by rw[Úq];let{f,c,G,τ,d,K,b,z}:=q;show p a s σ H Q I Ħp
def uM:VS X [] yc:={λa s σ H Q I q=>by let{e,c,G,τ,d,K,b,z}:=q;cases b;show x2g a s σ H Q I (z _ _ Ęe)}
def Zu(h:ST X c ft):VS X [c] ft:={x2h h.pt}
#print a
def yJ.more{K:Ñ}{n:Ã}{m l G H:Hp}{τ:yD}{σ:St}(k:Ã)(E:yJ K n m l G H τ σ):yJ K Ŷd m l G H Ťc đf:=by
 let a:∀{i:Ã}{s:Sl},Ťc[i]?=À (À s)->τ[i]?=À (À s)/\đf[i]?=σ[i]?:=λ{i s} h=>by let b:=BR h;let u:i<n:=E.lt b;show{b,Ąb (by rw[Ż];show u)}
 refine{ĳc,by rw[î,Ĉb,Ż],by rw[î,Ĉb,ź],λi d h=>?_,λi d h=>?_,λi j d e p g t r o q=>?_};let{b,e}:=a h;rw[e];show Ŀb i d b;let{b,e}:=a h;rw[e];show Ãb i d b;let{c,e1}:=a t;let{f,e2}:=a r;rw[e1]at o;rw[e2]at q;show ŀb i j d e p g c f o q
def Bv{K:Ëi}{n k:Ã}{w t b h:Hp}{τ:yD}{σ:St}{J:It}{ds out:Á D}{g:TG}{c:FG}{q:FT}{f:FE}{p:Á V->Hp->È}(A:jK K J b ds)(hl:ø<=â)(I:yJ K n w t b h τ σ)(a:yq c q f Ťc ds=À out)(X:∀G H d v τ' (Q:St->Hp->È),yJ K Ŷd w t G H Ťc đf->zh K G d v->c d Ťc=À τ'->(∀ρ,yJ K Ŷd w t G H τ' Õg->Q Õg H)->g v đf H Q)(E:∀ys G H,zW b h G H->å K G out ys->out.length<=â->p ys H) :∃W:Ã->Ã->Á V->Hp->È,(∃m,W 0 m [] h)/\Bu σ k J g (D_ K Ŷd q) (Al K Ŷd f) W p:=by
 show{λi m ys H=>m=ø-i/\i<=ø/\Òa<=i/\∃G done yG,zW b h G H/\å K G done ys/\yq c q f Ťc (ûg i)=À yG/\done++yG=out,{ø,rfl,ýa _,Ϙ _,b,[],out,úa I.ext.gh,rfl,a,rfl},?_};rintro i m ys H ⟨rfl,Z,C,G,done,yG,x,s,a,r⟩;by_cases hlt:i<ø
 .refine .inr {A.go i G H x.g ϻa hlt,by omega,λys H=>Òa<=i+1/\∃G done yG,zW b h G H/\å K G done ys/\yq c q f Ťc (ûg ñ)=À yG/\done++yG=out,λys' B z=>{ø-ñ,Øf _ _ hlt,rfl,hlt,z.1,z.2},λv B y=>?_};let{Y,d,o,O,R}:=A.uh i G H v B x.g ϻa hlt y;rw[łb hlt]at a;rw[ğ hlt]at O;cases O;let{τ1,h1,a}:=zJ (show(c _ _).bind _=_ from a);let{L,P,a}:=zJ a;let S:=((I.go x).go o).more k;show X Y B _ v τ1 _ S R h1 λρ F=>{{ρ,rfl},_,_,_,_,L,F,P,λG5 H5 j=>?_}
  cases L with
  |Â=>show Yi {by omega,G5,done,yG,őd (o.trans j),s.mono (Şi j.g),a,r}|Ä=>let{z,hz,a}:=zJ (show(f _).bind _=_ from a);let{l,hm,a}:=zJ a;cases a;refine Yj {_,_,_,_,z,F.go j,hz,λu T H6 N U=>{by rw[î];show ìc C,T,done++[z],l,őd (o.trans (j.trans N)),(s.mono (Şi (Ãp N.g))).append (Ñg U),hm,?_}};rw[Ł];show r
 let e:ûg i=[]:=ņc Ćh;rw[e]at a;cases a;rw[ū]at r;subst r;refine .inl {A.stop i G H x.g ϻa É,E ys G H x s ?_};rw[<-Ļd];omega
section
variable{X:Cx}{tg ό elt:Õ}{ifs:Á Õ}{ŕ:õa}{cl:Á Ùb}{own:Á Ç}{pos:Pos}{fs:FA}{fg:FG}{ft:FT}{f:FE}{g:TG}
def AM(xs:Á α)(y:α)(a:Á α)(h:n=æ)(z:α):(xs++y::a).set n z=xs++z::a:=by subst h;rw[çh _ _ Đ,ϣb];rfl
structure BG(X:Cx)(ŕ:õa)(cl:Á Ùb)(own:Á Ç)(tg:Õ)(g:TG)(fg:FG):È where
 q:∀C s H fp pn,QG Ìa tg g
 k:∀{G0 H0:Hp}{τ:yD}{σ:St},τ.length=ć->σ.length=ć->∀G H d v τ' (Q:St->Hp->È),yJ X.K Ϯf G0 H0 G H Ģm þd->zh X.K G d v->fg d Ģm=À τ'->
  (∀ρ,yJ X.K Ϯf G0 H0 G H τ' Õg->Q Õg H)->g v þd H Q
def vX(q:∀C s H fp pn,QG (vN X ŕ cl [x] C s H fp pn) tg īc)(hi:i=ć):BG X ŕ cl [x] tg īc (zu i):={q,λ{g f τ σ} h c G H d v τ' Q E r b k=>by cases b;let e:=E.set (i:=i) (v:=v) (by rw[hi];show äc _) r;let a:(ϝm).set i Êa=σ++[À v]:=AM σ Æ [] (hi.trans ýg) Êa;exact Q ((ϝm).set i Êa) H;rw[a];show k [À v] ?_;rw[<-a];show e}
def Ik(q:∀C s H fp pn,QG (vN X ŕ cl Ĵc C s H fp pn) tg Ϙe)(hi:i=ć)(g:j=ć+1):BG X ŕ cl Ĵc tg Ϙe (wm i j):=⟨q,λ{z u τ σ} A f G H d v τ' Q E r e k=>by
 unfold wm at e
 split at e;rename_i F I;cases e;let{a,B,rfl,l,{b,w,rfl,t,{c,p,rfl,o,m}},_}:=r;cases(show p=[]from m);let n:=(E.set (i:=i) (v:=b) (by rw[hi];show Nat.lt_add_of_pos_right (Íi _)) t).set (i:=j) (v:=c) (by rw[g];show äc _) o
 let h:(Ŧk).set j ġj=σ++[À b,À c]:=by
  let e1:(σ++Ŗ 2 Æ).set i (À b)=σ++[À b,Æ]:=AM σ Æ [Æ] (hi.trans f.symm) (À b);rw[e1];let e2:σ++[À b,Æ]=ľn++[Æ]:=by simp
  rw[e2,AM ľn Æ [] (by rw[î,g,f];rfl) ġj];simp
 show{a,_,rfl,uR ėa l,rfl,b,_,rfl,c,_,rfl,rfl,?_};exact Q ((Ŧk).set j ġj) H;rw[h];show k [À b,À c] ?_;rw[<-h];show n;cases e⟩
def iD(X:Cx)(own:Á Ç):(xj X.N own).length=ć+Ňb:=by unfold xj;rw[î,ç]
theorem Mu(h:SE Ìa elt f):PE Ìa elt (Al X.K Ϯf f):=by let q:=h.pe;rw[ϻp]
def Mv(h:VS Ìa ifs ft):VQ Ìa ifs (D_ X.K Ϯf ft):=by let q:=h.h;rw[ϻp]
def vZ(a:Ϝ=Ä)(B:XV X ŕ cl own)(hi:SI X tg ό fs)(j:BG X ŕ cl own tg g fg)(v:∀C s H fp pn,VS Ìa ifs ft)(E:∀C s H fp pn,SE Ìa elt f)(t:Î (∀x,Ŋb ό Ù x=pure x) q11) :SF X āb åf:=by
 let{S,A,o}:=Ķc;show{{_,oj a B A (Ωb (j.q C s H fp pn)) (Χb (v C s H fp pn)) (Ψb (E C s H fp pn)) t,λ{L F G H τ σ d Q} K b q=>?_}};let{R,w,b}:=zJ b;let{r,z,b}:=zJ b;cases b;show o K w λJ P O i l n=>Bv n l (öa i) z (j.k K.l2 K.l1) λu I N c m y p e=>?_
 show q p _ _ (i.trans Þm) (i.h.free (Ëg e)) (Ϝf e) {u,yo,m,y}
def x76(b:Ϝ=Ä)(S:źa)(c:X.N[i]?=À x)(R:ϔd x=À .local)(B:XV X ŕ cl own)(j:üc āb ám ϲo Ù=pure Ä)(hi:SI X tg ό fs)(v:BG X ŕ cl own tg g fg)(L:∀C s H fp pn,VS Ìa ifs ft)(U:∀C s H fp pn,SE Ìa elt f)(I:Î (∀x,Ŋb ό Ù x=pure x) q11) :SS X ťk (tL i åf):=by
 let{ti,T,A}:=Ķc;show{{_,rL b S c R B j T (Ωb (v.q C s H fp pn)) (Χb (L C s H fp pn)) (Ψb (U C s H fp pn)) I,λ{G0 Y G H τ σ fl E} K n q=>?_}};let{d,a,n}:=zJ n;cases n;let{ds,O,a}:=zJ a;let{F,Q,a}:=zJ a;cases a;show A K O λJ Ga Ha t l y=>Bv y l (öa t) Q (v.k K.l2 K.l1) λu Z H1 r w P p e=>?_
 let m:=(öa t).go r;let z:=m.go (ϑa (o:=.lst u) r.gh e);show q _ _ _ (z.cI (ű c).1 (r.gh.free e) (m.ext.h.free e) {u,yo,w,P} (m.cD e))
def z1i(b:Ϝ=Ä)(R:źa)(c:X.N[i]?=À x)(Q:ϔd x=À .local)(B:XV X ŕ cl own)(e:üc āb ám ϲo Ù=pure Ä)(hi:SI X tg ό fs)(u:BG X ŕ cl own tg g fg)(I:∀C s H fp pn,VS Ìa ifs ft)(T:∀C s H fp pn,SE Ìa elt f)(F:Î (∀x,Ŋb ό Ù x=pure x) q11) :SS X ťk (yB i åf):=by
 let{ti,S,z}:=Ķc;show{{_,rL b R c Q B e S (Ωb (u.q C s H fp pn)) (Χb Án) (Ψb (T C s H fp pn)) F,λ{Z U G H τ σ fl E} K j q=>?_}};let{d,a,j}:=zJ j;cases j;let{ds,L,a}:=zJ a;let{A,P,a}:=zJ a;cases a;show z K L λJ Ga Ha r l w=>Bv w l (öa r) P (u.k K.l2 K.l1) λt Y H1 m v O p n=>?_
 let y:=((öa r).go m).go (ıb (o:=.lst t) m.gh n);show q _ _ _ (y.set (ű c).1 {p,t,rfl,Ĺb yo,v.mono (uQ (m.gh.free n) _),O})
#print a
section
variable{K:Ñ}{n:Ã}{G0 H0 G H:Hp}{τ:yD}{σ:St}
def yJ.MI(E:yJ K n G0 H0 G H τ σ)(hi:τ[i]?=À ùc)(v:σ[i]?=À ãi)(x:vh K G ſc d' p):yJ K n G0 H0 G ſc Èl σ:=by
 let{S,e,g,z,_}:=Ãb i d hi;rw[v]at e;cases e
 let l:∀{m:Hp},m p=Æ->yN m H->yN m ſc:=λ{m} h s b u q=>by rw[yH (qF q h)];show s _ _ q
 refine{{E.ext.g,l z āg,l g ėa,Ųi},Ż,by rw[Ąq],λj e h=>?_,λj e h=>?_,λj k e f q a O I J L=>?_};rcases tN h with⟨rfl,w⟩|⟨C,w⟩;cases w;show Ŀb j e w;rcases tN h with⟨rfl,w⟩|⟨C,w⟩;cases w;show{p,v,g,z,x};let{q,F,R,P,A}:=Ãb j e w;show{q,F,R,P,?_}
 let a:q≠p:=λc=>by subst c;show ŀb i j d e q (λc=>C ýg) hi w v F
 cases e with
 |lst ds=>let{B,y,r}:=A;show{B,by rw[yH a];show y,r}
 |dic ks ds=>let{B,y,r}:=A;show{B,by rw[yH a];show y,r}
 |_=>show A.elim
 let t:∀{j:Ã}{e:D},Èl[j]?=À Üe->∃e,τ[j]?=À Üe:=λ{j e} h=>by rcases tN h with⟨rfl,_⟩|⟨_,w⟩;show{_,hi};show{_,w}
 let{e1,N}:=t O;let{e2,Q}:=t I;show ŀb j k e1 e2 q a N Q J L
#print a
section
variable{X:Cx}{x:Ç}{xp pos Ű Ϡ:Pos}{e:Õ}{f:FE}
def Zt(P:QE X īa Űd)(R:SE X e f)(m:Î (éa īa "append" Ù Ϣh=Ė īa Ù) q12)(n:Î ča q12)(C:Î ϴ q12) :SS X (Κf (.Attribute īa "append" Ű)) (pI i pf f):=by
 let{t,p,k}:=(zB R zL C).h;refine{{_,(rn (QV õl PySem.F.slot_list_append PySem.F.type_list_append y46 P {p} m n ùm îd) rfl).h,λ{U S G H τ σ Z E} K j q=>?_}};unfold pI at j
 split at j;rename_i d I;let{y,Q,j}:=zJ j;let{L,b,j}:=zJ j;cases j;let{a,A,g,z,o}:=K.ow _ _ I;cases d with
 |lst ds=>
  let{s,B,w,l}:=o;refine{_,A,.inl {rfl,s,Ĺb B},k K (ds:=[y]) (by unfold zA;rw[Q];rfl) λus T Y v J=>?_};let{u,r,rfl,N,O}:=J;cases(show r=[]from O)
  change (if ø<yb then À (Ùc (ds++[y]))else Æ)=À L at b
  by_cases c:ø<yb;rw[żp];refine{a,s,u,rfl,rfl,v.h _ _ B,by rw[îa,Ŧ];show c,?_};show q _ _ _ ((öa v).MI I A {s++[u],yo,(w.mono v.g).append (Ñg N),?_});rw[î,Ŧ];show c;rw[Żp]
 |_=>cases b
 cases j
#print a
section
variable{P:ï}{w:è}{K:Ñ}{mg:Ç->Ê Value}{Ë:Heap}
def D2{α β:Type}{ds:Á α}{k i:Ã}{h:α->Ê β}{y:β}(e:(ĩg h++Ŗ k Æ)[i]?=À (À y)):∃d,ds[i]?=À d/\h d=À y:=by
 let a:=BR e;rw[Ś]at a;cases q:ds[i]? with
 |Æ=>rw[q]at a;cases a|À d=>rw[q]at a;show{d,rfl,Ĭa a}
def lE{N:Á Ç}{G H:Hp}{ds:Á D}{vs:Á V}(s:yN G H)(r:å K G ds vs)(g:ø<=Ş):yJ K Ş G H G H (ĩg (λd=>À (Â,d))++Ŗ (Ş-ø) Æ) Ķi:=by let l:=ſ;show{úa s,?_,?_,λi d h=>?_,λi d h=>?_,λi j d e p _ f=>?_};unfold üe;rw[ϴp];rw[ϴp];let{b,e,z}:=D2 h;cases z;let{v,a,c}:=ϸa e;show{v,?_,c};unfold üe;rw[Ąb (by rw[ç];show(ű a).1),Ś,a];rfl;let{b,e,z}:=D2 h;cases z;let{b,e,z}:=D2 f;cases z
def Def.z4n{x:Ç}{st:Ú}{N ps:Á Ç}{k:Ã}{F:Á D->Ê ã}{b:FS}(d:Def K mg x st ps)(S:zk N ps Ŕ)(J:ę<=Ş)(i:∀ds r,F ds=À r->ø=ę/\yC Ş b ds=À r)(v:∀(f:Ì)(c:Value)(A:ā)(ĉ:Á Env)(s:Ï)(H:Hp)(E:XK),xL k Áh->qY (qC xY P w K mg Ë N x Ŕ f c A ĉ s H E).qU Ôa b):vg P w K mg Ë x ps ϕ Ĺe:=by
 show d.ok S (λI H Q E h=>?_) λf c A ĉ s H I Q E B h=>?_;let{G,ds,o,j,_,r,e,_}:=h;rw[ſ,(i _ _ e).1];let{G,ds,o,j,C,r,e,q}:=h;let{l,a}:=i _ _ e;let{t,p,n}:=(v f c A ĉ s H E B).h;let{m,g,a}:=zJ a;refine{t,p,n (lE (N:=N) C r É) g ?_};cases m with
 |nx τ=>cases a;show λσ u y z=>q .zD u y z.ext rfl|rt o' d'=>
  cases o' with
  |Â=>cases a<;>show q|Ä=>cases a<;>show q
 |_=>cases a
#print a
section
variable{X:Cx}{K:Ñ}
def U0(h:∀i j,Cb i j=Ä->C i j):qB K Ġl (fI Cb g):=λG H x y u v d Q s e b a q=>by
 cases x<;>first|(cases a;done)|skip
 cases y<;>first|(cases a;done)|skip
 rename_i i j
 change (match Cb i j with|Ä=>À (ý ϣa)|Â=>Æ)=À d at a
 cases c:Cb i j with
 |Â=>rw[c]at a;cases a|Ä=>rw[c]at a;cases a;show{i,j,e,b,h i j c,q _ _ _ Õa rfl}
def QO:qB K õp (jP g):=λG H x y u v d Q s c b a q=>by
 cases x<;>first|(cases a;done)|skip
 cases y<;>first|(cases a;done)|skip
 rw[Ϟp]
def Zi:qB K øo pj:=λG H x y u v d Q s c b a q=>by
 cases x<;>first|(cases a;done)|skip
 cases y<;>first|(cases a;done)|skip
 rw[Ϟp]
def nT(h:Zg i=Ä) : -ág<i/\i<2 ^ 64:=by unfold Zg at h;rw[ě]at h;show{ő h.1,ő h.2}
def Og:qB K Âh Xx:=U0 λ_ _ h=>.inl (nT h)
def oK:qB K Âh Iy:=U0 λ_ _ h=>.inr (nT h)
def xR:qB K Úl xD:=U0 λ_ _ h=>ő h
def vp:qB K Ńk wY:=U0 λ_ _ h=>by rw[ě]at h;show{ő h.1,ő h.2}
def x22(h:qj i j=Ä):CU i j:=by unfold qj at h;rw[ě,ě]at h;show{ő h.1,ő h.2.1,ő h.2.2}
def Ys:qB K şk um:=U0 λ_ _ h=>x22 h
def oN:qB K Śk Tv:=U0 λ_ _ h=>ő h
def uq:g_ K ϭl (uJ g):=λH x y u v d Q c b a=>by
 cases x<;>first|(cases a;done)|skip
 cases y<;>first|(cases a;done)|skip
 cases a;show{_,rfl,λq=>{_,_,c,b,q}}
def my(r:zh K H x u):Vr x=decide (u=.zD):=by
 cases x with
 |zD=>cases r;rfl|bl b=>cases r;rfl|int b=>cases r;rfl|str b=>let{rfl,_}:=r;rfl
 |tup b=>let{a,d,rfl,_}:=r;rfl
 |lst b=>let{a,d,rfl,_}:=r;rfl
 |dic b c=>let{a,d,rfl,_}:=r;rfl
 |exc b=>let{a,C,rfl,_}:=r;rfl
 |obj b c e=>let{a,C,f,d,rfl,_}:=r;rfl
def WI:g_ K Ϛl gA:=λH x y u v d Q c b a=>by
 cases y<;>first|(cases a;done)|skip
 let e:=my c;show{Vr x,(Ĭa a).symm,λq=>{b,?_}};rw[<-e];show q
def QP:g_ K Ŷk ZU:=λH x y u v d Q c b a=>by
 cases y<;>first|(cases a;done)|skip
 let e:=my c;show{!Vr x,(Ĭa a).symm,λq=>{b,?_}};rw[<-e];show q
def Qp:∀(G H:Hp) x u d (Q:VK),zh K G x u->YU x=À d->∃w,(∀G,zh K G d w)/\(Αe (-i)):=λG H x u d Q r a=>by
 cases x<;>first|(cases a;done)|skip
 rw[ďq]
def w3f:∀(G H:Hp) x u d (Q:VK),zh K G x u->HW x=À d->∃w,(∀G,zh K G d w)/\(Αe Ęj):=λG H x u d Q r a=>by
 cases x<;>first|(cases a;done)|skip
 rw[ďq]
def sB(K:Ñ):R2:=λx y H Q=>∃l b xs zs,x=.ref l/\y=.ref b/\yu K H l xs/\yu K H b zs/\æ+ϯo<=â/\∀p,H p=Æ->Q ž (ψa (xs++zs))
def y9x:xF X Ħd (sB X.K):=by
 intro T s σ H x y v u Q I E C h;let{l,b,Y,O,rfl,rfl,r,J,p,q}:=h;cases E;cases C;let{c,n,A,_}:=Ϟ r;let{a,o,B,_}:=Ϟ J;obtain⟨⟨S,t,P,m⟩,z,f,d,N,i⟩:=A;obtain⟨⟨U,L,R,k⟩,w,e,g,G,j⟩:=B;simp only at d i g j;subst d i g j
 refine Çi {_,f,rfl} {_,e,rfl} noFill_list_add seq_list_add PySem.F.slot_list_add PySem.F.entry_list_add (PySem.F.args_list_add_2 _ _)
  (list_addW l b Ťi Ŧb z w t L m k (by rw[ĥ,ĥ,<-Ĩe,<-Ůb];show p)) {f,e,?_}
 rw[show Ťi++Ŧb=(c++a).toArray by simp];show{.ref _,_,I.cB (t':=Ď) (n.append o) (by rw[î];show p),rfl,q _ ϱc}
def rq(K:Ñ):R2:=λx y H Q=>pH (λi j=>.int (i+j)) x y H Q\/(∃i k,x=.int i/\y=.bl k/\Q Ϛm H)\/(∃i j,x=.str i/\y=.str j/\åb+Œa<=â/\Q Śn H)\/sB K x y H Q\/sC K x y H Q
def xV:xF X Ħd (rq X.K):=y9u.or (y9v.or (y9w.or (y9x.or y9y)))
def xU:qB K (rq K) yp:=λG H x y u v d Q s A w f q=>by
 cases x<;>first|(cases f;done)|skip
 all_goals (cases y<;>first|(cases f;done)|skip)
 rename_i i b;cases A;cases w;cases f;show .inr (.inl {i,b,rfl,rfl,?_});let e:i+b2i b=i+Ûf:=by cases b<;>rfl
 rw[e];rw[Üq];cases f;show .inl {_,_,A,w,q _ _ _ Õa rfl};rename_i i j;let{rfl,I}:=A;let{rfl,F}:=w
 change (if åb+Œa<=yb then _ else _)=_ at f
 by_cases c:åb+Œa<=yb;rw[Ó c]at f;cases f;let k:åb+Œa<=â:=by rw[Ŧ];show c
 show .inr (.inr (.inl {i,j,rfl,rfl,k,q _ _ _ Õa {rfl,by rw[strLen_append];show k}}));rw[Ô c]at f;rw[Ϧp]
 change (if Êp=Â/\âa+Ŀd<=yb then _ else _)=_ at f
 by_cases c0:Êp=Â/\âa+Ŀd<=yb;rw[Ó c0]at f;let c:=c0.2;rw[Éq]
 let E:n≠[]:=λe=>by
  let l:=ħb;rw[e]at l;cases g with
  |nil=>cases c0.1|ó=>cases l
 refine .inr (.inr (.inr (.inr {a,b,n,t,rfl,rfl,uR s B,uR s C,E,by rw[ħb,Ůb,Ŧ];show c,λe=>?_,λe p r=>?_})));subst e
 let e2:h=[]:=by
  cases h with
  |nil=>rfl|ó=>let{_,_,z,_}:=o;cases z
 subst e2;show q _ _ _ Õa {a,n,rfl,B,by rw[ū];show m,k};show q _ _ _ ñp {p,n++t,rfl,żb yo,(ϝn).mono įm,k};rw[Ô c0]at f;rw[Ϧp]
 change (if âa+Ŀd<=yb then _ else _)=_ at f
 by_cases c:âa+Ŀd<=yb;rw[Ó c]at f;rw[Éq]
 refine .inr (.inr (.inr (.inl {a,b,n,t,rfl,rfl,ux s B,ux s C,by rw[ħb,Ůb,Ŧ];show c,λp r=>?_})));show q _ _ _ ñp {p,n++t,rfl,Ĺb yo,(ϝn).mono įm,k};rw[Ô c]at f;cases f
def z5e(h:g8 xs i=À x):∃j:Ã,xs[j]?=À x/\∀{β:Type}(ys:Á β),Òa=æ->g8 ys i=ys[j]?:=by
 unfold g8 at h;cases e:ixN æ i with
 |Æ=>rw[e]at h;cases h|À j=>rw[e]at h;show{j,h,λys l=>by unfold g8;rw[l,e];rfl}
def hX(xs:Á α)(i:Å):g8 xs i=uI xs i:=by
 unfold g8 uI ixN;by_cases h:0<=i;rw[Ó h,Ó h];by_cases h2:i<æ;rw[Ó h2];rfl;rw[Ô h2];show(ĉb É).symm;rw[Ô h,Ô h]
 split<;>rfl
def Py(r:å K H ds vs)(h:uI ds i=À d):∃v,g8 vs i=À v/\zh K H d v:=by rw[<-hX]at h;let{j,e,k}:=z5e h;let{v,b,a}:=ϸa e;show{v,by rw[k vs ſ];show b,a}
def z89:D->D->Ê D
 |.lst xs,.int i=>uI xs i|.tup xs,.int i=>uI xs i|.str z,.int i=>(ůo).bind λc=>À Ķf|_,_=>Æ
def PJ:qB K (Ps K) z89:=λG H x y u v d Q s j h e q=>by
 cases x<;>first|(cases e;done)|skip
 all_goals (cases y<;>first|(cases e;done)|skip)
 rename_i z i;let{rfl,l}:=j;cases h;let{c,o,e}:=zJ e;cases e;rw[<-hX]at o;show .inr (.inr {z,i,c,rfl,rfl,l,o,q _ _ _ Õa {rfl,ϒa (n:=1) Í}});rw[Ϫp];show .inr (.inl {a,m,i,w,rfl,rfl,uR s g,f,q _ _ _ Õa b});rw[Ϫp];show .inl {a,m,i,w,rfl,rfl,ux s g,f,q _ _ _ Õa b}
def u5:vV X Ăd (Κd ϡg ŋi):=z6c.or z6d
def u9:VP K (Κd (yu K H p ys\/xK K H p ys) ŋi) vF:=λG H i j d Q s r b q=>by
 match i,b with
 | [.lst xs],b=>cases b;let{v,c,rfl,{a,h,rfl,f,g,_},e}:=r;cases(show c=[]from e);show .inl {a,h,rfl,.inl f,by rw[âa];rw[Üq]}
 | [.tup xs],b=>cases b;let{v,c,rfl,{a,h,rfl,f,g,_},e}:=r;cases(show c=[]from e);show .inl {a,h,rfl,.inr f,by rw[âa];rw[Üq]}
 | [.str z],b=>cases b;let{v,c,rfl,{rfl,l},e}:=r;cases(show c=[]from e);show .inr {z,rfl,l,q _ _ _ Õa rfl}
#print a
theorem ii:∀xs ys:Á D,(((Ía (min æ Òa)).all λj=>xC őh (ys.getD j .zD))&&æ==Òa)=Ûc xs ys
 | [],[]=>rfl| [],_::_=>rfl|_::_,[]=>rfl|x::xs,y::ys=>by
  let a:=ii xs ys;exact _=ūl;rw[<-a,ą,ą,Nat.succ_min_succ,List.range_succ_eq_map,ų,List.all_map,Bool.and_assoc]
  congr 1
  congr 1
  rw[ţc];simp
theorem iV:∀{xs ys:Á D},jN f xs ys=Ä->∀(j:Ã) x y,xs[j]?=À x->ys[j]?=À y->f x y=Ä
 | [],_,_,j,x,y,e,_=>by cases e|x::xs,[],_,j,_,y,_,e=>by cases e|x::xs,y::ys,h,0,_,_,e1,e2=>by cases e1;cases e2;let c:ϯl=Ä:=h;rw[ě]at c;show c.1|x::xs,y::ys,h,j+1,a,b,e1,e2=>by let c:ϯl=Ä:=h;rw[ě]at c;show iV c.2 j a b ϴl ϳl
section
variable{X:Cx}{z8:Á ô}{σ:St}{H:Hp}{s:Ï}{K:Ñ}
theorem HR(d:∀d1 d2 v,tG n d1 d2=Ä->zh K H d1 v->zh K H d2 v->xC d1 d2=Ä):∀{xs ys:Á D}{vs:Á V},jN Åd xs ys=Ä->å K H xs vs->å K H ys vs->Ûc xs ys=Ä
 | [],[],_,_,_,_=>rfl| [],_::_,_,_,r1,r2=>by cases(show _=[]from r1);let{_,_,e,_}:=r2;cases e
 |_::_,[],_,_,r1,r2=>by cases(show _=[]from r2);let{_,_,e,_}:=r1;cases e
 |x::xs,y::ys,_,h,r1,r2=>by let{v,r,rfl,a,b}:=r1;let{j,i,e,g,f}:=r2;cases e;let c:(tG n x y&&jN Åd xs ys)=Ä:=h;rw[ě]at c;exact ūl=Ä;rw[d x y v c.1 a g,HR d c.2 b f];rfl
def HC(h:tG Ŋ x y=Ä):(∃xs ys,x=.tup xs/\y=.tup ys/\jN Åd xs ys=Ä)\/(∃xs ys,x=.lst xs/\y=.lst ys/\jN Åd xs ys=Ä)\/(xo x=Ä/\xo y=Ä):=by
 unfold tG at h
 rw[üq];show .inl {_,_,rfl,rfl,h};show .inr (.inl {_,_,rfl,rfl,h});rw[ě]at h;show .inr (.inr h)
def U7(h:xo d=Ä)(r:zh K H d v):jR v=Ä:=by
 cases d<;>first|show ß h ř|skip
 rw[æq];rw[æq];rw[æq];cases(show v=_/\_ from r).1;rfl
def Oy(c:xo d1=Ä)(d:xo d2=Ä)(a:zh K H d1 x)(b:zh K H d2 y):pZ x y=xC d1 d2:=by
 cases d1<;>first|show ß c ř|skip
 all_goals (cases d2<;>first|show ß d ř|skip)
 all_goals first
  |(cases(show x=_ from a);cases(show y=_ from b);rfl)
  |(cases(show x=_ from a);cases(show y=_/\_ from b).1;rfl)
  |(cases(show x=_/\_ from a).1;cases(show y=_ from b);rfl)
  |(cases(show x=_/\_ from a).1;cases(show y=_/\_ from b).1;rfl)
theorem BL(I:zI X z8 σ H s):∀(n:Ã)(d1 d2:D)(v:V),tG n d1 d2=Ä->zh X.K H d1 v->zh X.K H d2 v->xC d1 d2=Ä
 |0,_,_,_,h,_,_=>by cases h|n+1,d1,d2,v,h,r1,r2=>by rcases HC h with⟨k,m,rfl,rfl,h⟩|⟨k,m,rfl,rfl,h⟩|⟨g,l⟩;rw[Ìq];cases I.CS b d;show HR ϣk h f c;rw[Ìq];cases I.MF b d;show HR ϣk h f c;rw[<-Oy g l r1 r2];show z85 (U7 g r1)
def m7{α:Type}{xs:Á α}{j:Ã}{x d:α}(h:xs[j]?=À x):xs.getD j d=x:=by rw[Úa,h];rfl
def DW{A:ā}{n:Ã}{a c:Ì}{xs b:Á D}{vs us:Á V}(I:zI X z8 σ H s)(t:ķa<ϓ)(m:SqB X.K H a c vs us)(l:å X.K H xs vs)(i:å X.K H b us)(h:jN Åd xs b=Ä)(B:∀(d1 d2:D)(x y:V)(u v:Value),tG n d1 d2=Ä->zh X.K H d1 x->zh X.K H d2 y->yF x u->yF y v->Ġb ϔ s u v Ľi):Ĭi A s ŭ âg (Ûc xs b)/\Éi A s ŭ âg (!dEqs xs b):=by
 let z:=x3j (A:=A) (e:=λj=>xC őh ćn) I t m λj C p d f e1 e2 q r=>by let{d1,k,o}:=l.at e1;let{d2,g,w}:=i.at e2;exact Ġb ϔ s d f (xC őh ćn);rw[m7 k,m7 g];show B d1 d2 C p d f (iV h j d1 d2 k g) o w q r
 rw[Ăa,åb,ii]at z;show z
theorem BK(I:zI X z8 σ H s):∀(n:Ã)(A:ā)(d1 d2:D)(x y:V)(u v:Value),ķa+n<ϓ->tG n d1 d2=Ä->zh X.K H d1 x->zh X.K H d2 y->yF x u->yF y v->Ġb A s u v Ľi
 |0,_,_,_,_,_,_,_,_,h,_,_,_,_=>by cases h|n+1,A,d1,d2,x,y,u,v,hu,h,r1,r2,rx,ry=>by let m:=h;let p:=r1;let q:=r2;rcases HC h with⟨C,E,rfl,rfl,h⟩|⟨C,E,rfl,rfl,h⟩|⟨o,r⟩;rw[ùq];show Ñm hac (Νd Ϸn ûf).1;rw[ùq];show Ñm hac (Νd ϴn ûf).1;rw[<-Oy o r r1 r2];show lF rx ry (U7 o r1) (U7 r r2)
#print a
def DT(K:Ñ)(a:Ð):R2:=λx y H Q=>∃d1 d2 k,zh K H d1 x/\zh K H d2 y/\kE d1 d2=À k/\Q (.bl (if a then !k else k)) H
def yX(a:xL k A):ķa+7<ϓ:=Čb (ŏc (by decide:7<=64) _) a.units
section
variable{X:Cx}{K:Ñ}
def HS(h:kE d1 d2=À k):tG 6 d1 d2=Ä/\k=xC d1 d2:=by
 unfold kE at h
 rw[üq];cases h;cases h;rw[ϑp];cases h;show{e,rfl};cases h
def z0m(h:kE d1 d2=À k)(d:xo d1=Ä)(c:xo d2=Ä)(a:zh K H d1 x)(b:zh K H d2 y):AI x y=Ä/\decide (x=y)=k:=by
 let{_,e}:=HS h;subst e;cases d1<;>first|show ß d ř|skip
 all_goals (cases d2<;>first|show ß c ř|(cases h;done)|skip)
 all_goals first
  |(cases(show x=_ from a);cases(show y=_ from b);show⟨rfl,by first|rfl|show HJ|show HI⟩)
  |(cases(show x=_ from a);cases(show y=_/\_ from b).1;show⟨rfl,rfl⟩)
  |(cases(show x=_/\_ from a).1;cases(show y=_ from b);show⟨rfl,rfl⟩)
  |(cases(show x=_/\_ from a).1;cases(show y=_/\_ from b).1;show⟨rfl,HK⟩)
def lH(I:zI X z8 σ H s)(G:ķa+7<ϓ)(h:tG 6 d1 d2=Ä)(w:¬ (xo d1&&xo d2)=Ä)(m:zh X.K H d1 x)(n:zh X.K H d2 y)(p:yF x u)(o:yF y v) :Ĭi A s u v Ľi/\Éi A s u v (!xC d1 d2):=by rcases HC h with⟨C,F,rfl,rfl,h⟩|⟨C,F,rfl,rfl,h⟩|⟨t,E⟩;rw[Ųp];show DW I É Ϸn l f h λd1 d2 x y u v j b k d i=>BK I 5 ϔ d1 d2 x y u v ûf j b k d i;rw[Ųp];show DW I É ϴn l f h λd1 d2 x y u v j b k d i=>BK I 5 ϔ d1 d2 x y u v ûf j b k d i;show ß (by rw[t,E];rfl) w
def xS(m:Ża+7<ϓ):xF X Ąp (DT X.K Â):=by rw[ŧp];show y9z l s σ H x y v u Q I i g {a,by rw[b];show q};let{j,rfl}:=HS f;show ŉl.1 _ _ _ _ {.bl _,H,I,rfl,q}
def tK(m:Ża+7<ϓ):xF X Ÿn (DT X.K Ä):=by rw[ŧp];show x06 l s σ H x y v u Q I i g {a,by rw[b];show q};let{j,rfl}:=HS f;show ŉl.2 _ _ _ _ {.bl _,H,I,rfl,q}
def xQ:g_ K (DT K Â) za:=λH x y u v d Q c b a=>by rw[þq]
def tJ:g_ K (DT K Ä) xP:=λH x y u v d Q c b a=>by rw[þq]
#print a
def y2u{K:Ñ}:Ţ K ùd ňa=À Â/\Ţ K ùd Ęa=À Â/\Ţ K ùd ŷa=À Â/\
  Ţ K ϝa ňa=À Â/\Ţ K ϝa Ęa=À Â/\Ţ K ϝa ŷa=À Â/\
  Ţ K Ŵa ňa=À Â/\Ţ K Ŵa Ęa=À Â/\Ţ K Ŵa ŷa=À Â:=by show{?_,?_,?_,?_,?_,?_,?_,?_,?_}<;>kernel_rfl
def y2v{K:Ñ}:Ţ K ňa Ŵa=À Â/\Ţ K ňa ϝa=À Â/\Ţ K ňa Ęa=À Â/\Ţ K ňa ŷa=À Â/\
  Ţ K Ęa Ŵa=À Â/\Ţ K Ęa ϝa=À Â/\Ţ K Ęa ňa=À Â/\Ţ K Ęa ŷa=À Â/\Ţ K Ęa Ęa=À Ä:=by show{?_,?_,?_,?_,?_,?_,?_,?_,?_}<;>first|kernel_rfl|rfl
def y2w{K:Ñ}:Ţ K ŷa Ŵa=À Â/\Ţ K ŷa ϝa=À Â/\Ţ K ŷa Ęa=À Â/\Ţ K ŷa ňa=À Â:=by show{?_,?_,?_,?_}<;>kernel_rfl
nonrec def w34:D->äa
 |.zD => "NoneType"|.bl _ => ŗe|.int _ => ĸb|.str _ => ķb|.tup _ => ŷ|.lst _ => ĸ|.dic _ _ => ϐ|.exc _ => "x"|.obj _ _ _ => "x"
def QF{K:Ñ}{T:qb}{d:D}{b:Ð}(h:OU T d=À b):Ţ K (.type (w34 d)) Ϯn=À b:=by
 let{s,t,k,i,m,a,f,w,c}:=y2u (K:=K);let{n,j,p,y,v,q,g,r,o}:=y2v (K:=K);let{u,x,e,l}:=y2w (K:=K);cases T<;>cases d<;>cases h
 all_goals first|show y2p|show y2n|show y2o|show y2m|show y2r|show y2q|show y2t|show y2s|assumption
def x37(K:Ñ)(T:qb):Á V->Hp->VK->È:=λa H Q=>∃x d b,a=[x,.ty T.nm]/\zh K H d x/\OU T d=À b/\Q Ϭa H
def z6a(T:qb):vV X Ÿh (x37 X.K T):=by
 intro t s σ H B A Q I r h;let{x,d,b,rfl,g,e,q}:=h;let{u,c,rfl,i,w}:=aG r;cases(show c=Īi T.nm from w);let f:∀l,EP X t σ Q ϭi { s with Ě:=l }:=λl=>{.bl b,H,ϟ l,rfl,q}
 cases d with
 |zD=>cases(show x=_ from g);show Bg I i .zD (QF (d:=.zD) e) f|bl y=>cases(show x=_ from g);show Bg I i (.bl _) (QF (d:=.bl y) e) f|int y=>cases(show x=_ from g);show Bg I i (.int _) (QF (d:=.int y) e) f|str y=>cases(show x=_/\_ from g).1;show Bg I i (.str _) (QF (d:=.str y) e) f|tup ds=>let{a,v,rfl,j,_}:=g;cases(show u=ė a from i);let{m,_,{o,p,k,_},_}:=ϭ j;show ϡa ũn Ť {o,p,k} (QF (d:=.tup ds) e) Äa f
 |lst ds=>let{a,v,rfl,j,_}:=g;cases(show u=ė a from i);let{m,_,{o,n,p,k,_},_}:=Ϟ j;show ϡa öi Ť {o,p,k} (QF (d:=.lst ds) e) Äa f
 |dic ks ds=>cases T<;>cases e|exc _=>cases T<;>cases e|obj _ _ _=>cases T<;>cases e
def WS(T:qb)(u:Gl X Šc)(g:Gl X x)(n:õ Šc=Æ)(e:õ x=Æ)(hv:Ŵ x=À Ϯn)(o:SB X a f)(i:Î ϋc q12)(l:Î Êb q10)(j:Î ķ q10):SE X (.Call (.Name Šc p) [a,.Name x p1] [] pos) (kD T f):=by let{t,w,k}:=o.h;refine{{_,(DR (z6a T) u n z61 (Pn {w} (Pn (x2w g e hv l j) rh rfl) i) Í Í (by rw[ų,i];rfl)).h,λ{A y G H τ σ d Q} E c q=>?_}};let{z,m,c}:=zJ c;let{b,s,c}:=zJ c;cases c;show k E m λv B C x r=>{v,z,b,rfl,r,s,q _ _ _ x rfl}
#print L3
namespace L3
open ģ
theorem aH{c:FT}{b:FS}:∀{n:Ã}{σ:yD}{fl:Fl}(k:Ã),j6 c b n σ=À fl->j6 c b Ŷd σ=À fl
 |0,_,_,_,h=>by cases h|n+1,σ,fl,k,h=>by
  rw[Nat.succ_add];unfold j6 at h ⊢;cases hc:c σ with
  |Æ=>rw[hc]at h;cases h|À kk=>
   rw[hc]at h;cases kk with
   |Â=>show h|Ä=>
    change (Ůd).bind _=_ at h
    exact(Ůd).bind _=_;cases hb:b σ with
    |Æ=>rw[hb]at h;cases h|À f=>
     rw[hb]at h;cases f with
     |nx τ=>show aH k h|ct τ=>show aH k h|bk τ=>show h|rt o d=>show h
def z00(n:Ã)(h:j6 c b n σ=À fl)(a:Î (n<=ML) q10):DZ c b σ=À fl:=by let e:=aH (ML-n) h;rw[Nat.add_sub_of_le a]at e;show e
def z31(d:c σ=À Ä)(a:b σ=À ϩi):j6 c b Ŋ σ=j6 c b n σ':=by rw[ñq];rw[d];exact(Ůd).bind _=_;rw[a];rfl
def z30(a:c σ=À Â):j6 c b Ŋ σ=À ãg:=by rw[ñq];rw[a];rfl
theorem jX(P:Ã->yD->È):∀{ds:Á D}{σ:yD}(n:Ã),P n σ->(∀i d σ,ds[i]?=À d->P (n+i) σ->∃σ1 σ2,g d σ=À σ1/\(b σ1=À Àg\/b σ1=À (.ct σ2))/\P ħj σ2)->
  ∃σ',p9 g b ds σ=À ϩi/\P Ħj σ'
 | [],σ,n,h,_=>{σ,rfl,h}|d::ds,σ,n,h,ļb=>by
  let{σ1,σ2,e1,e2,l}:=ļb 0 d σ rfl h
  let{σ',c,o}:=jX P (ds:=ds) (σ:=σ2) Ŋ l λi p τ f k=>by let{a,q,e,m,j}:=ļb ñ p τ ïf ąk;show{a,q,e,m,by rw[ϱp];show j}
  show{σ',?_,by rw[Ĥq];show o};rw[åq];exact(ıj).bind _=_;rcases e2 with e2|e2;rw[e2];show c;rw[e2];show c
def kS(h:a σ=À ϩi):zQ a b σ=b σ':=by exact(Ϲ).bind _=_;rw[h];rfl
def x62(h:a σ=À ϖc):zQ a b σ=À ϖc:=by exact(Ϲ).bind _=_;rw[h];rfl
def OT(h:c σ=À Ä):yP c a b σ=a σ:=by rw[ñq];rw[h];rfl
def W8(h:c σ=À Â):yP c a b σ=b σ:=by rw[ñq];rw[h];rfl
abbrev wt(j:Ã):Á D:=(Ía j).map λk:Ã=>ý k
def Zo(h:f τ=À êb)(a:Ãj<=1000000):tj ī f τ=À (wt ϋa):=by unfold tj;rw[h];exact(if(0:Å).natAbs<=yb/\Ãj<=yb/\(n-0).toNat<=yb then _ else _)=_;rw[Ó {by decide,by rw[ϙp],by rw[ϙp]},Űn];simp only[ůn]
#print L3
namespace L3
def shx:=
 é yC.eq_1<|é zQ.eq_1<|é yB.eq_1<|é tL.eq_1<|é zm.eq_1<|é ut.eq_1<|é pK.eq_1<|é yP.eq_1<|é yY.eq_1<|é Yz.eq_1 <|
 é s_.eq_1<|é pI.eq_1<|é ur.eq_1<|é p9.eq_1<|é p9.eq_2<|é e1.eq_1<|é e2.eq_1<|é eL.eq_1<|é eC.eq_1<|é z6.eq_1<|é Vd.eq_1 <|
 é zA.eq_1<|é zF.eq_1<|é tE.eq_1<|é Xo.eq_def<|é kW.eq_1<|é qK.eq_1<|é pL.eq_1<|é YQ.eq_1<|é Iq.eq_1<|é BH.eq_1<|é u7.eq_1 <|
 é wO.eq_1<|é wA.eq_1<|é kD.eq_1<|é OU.eq_1<|é kZ.eq_1<|é kZ.eq_2<|é kZ.eq_3<|é kZ.eq_4<|é kZ.eq_5<|é kZ.eq_6<|é kZ.eq_7<|é kZ.eq_8<|é kZ.eq_9<|é qb.sel.eq_1<|é qb.sel.eq_2<|é qb.sel.eq_3<|é qb.sel.eq_4<|é qb.sel.eq_5<|é fI.eq_def<|é pj.eq_def<|é uJ.eq_def<|é Xx.eq_1<|é Iy.eq_1<|é xD.eq_1<|é wY.eq_1 <|
 é lL.eq_1<|é um.eq_1<|é Tv.eq_1<|é jP.eq_def<|é YU.eq_def<|é vF.eq_def<|é lK.eq_def<|é gA.eq_def<|é ZU.eq_def<|é Vr.eq_def <|
 é zu.eq_1<|é wm.eq_1<|é vY.eq_1<|é zU.eq_1<|é uW.eq_1<|é xm.eq_1 <|
 é @Option.bind_some.{0,0} <| é @Option.bind_none.{0,0} <| é @List.getElem?_cons_zero.{0} <| é @List.getElem?_cons_succ.{0} <| é @List.set_cons_zero.{0} <| é @List.set_cons_succ.{0} <| é @List.map_cons.{0,0} <| é @List.map_nil.{0,0} <|
 é @List.cons_append.{0} <| é @List.nil_append.{0} <| é @List.length_cons.{0} <| é @List.length_nil.{0} <| é @List.replicate_zero.{0} <| é @List.replicate_succ.{0} <| é Bool.not_true<|é Bool.not_false <|
 é @decide_true<|é @decide_false<|é Bool.and_self<|é ϝh Öe
open ģ ĺ Ĭ L2
section
variable{α:Type}
theorem z39:∀{ks:Á zZ}{vs:Á α}(k:zZ),Ĉ=Ć->((ĕa).any λkv=>decide Üj)=yh ks k
 | [],[],_,_=>rfl|k'::ks,v::vs,k,h=>by let a:=z39 (ks:=ks) (vs:=vs) k ŭa;exact(decide Ůj||((ĕa).any λkv=>decide Üj))=(decide Ůj||yh ks k);rw[a]
theorem Wo(k:zZ):∀{ks:Á zZ}{vs:Á V},Ĉ=Ć->ud ĕa k=Ċ ks vs k:=by
 intro ks
 induction ks with
 |nil=>intro vs _;cases vs<;>rfl|ó k' ks ih=>
  intro vs h;cases vs with
  |nil=>cases h|ó v vs=>by_cases e:k'=k;rw[Ŭa,Wj (p:=(k',v)) e];exact _=ϭe;rw[Ó e];rw[Ŭa,Wi (p:=(k',v)) e,ih ēj];exact _=ϭe;rw[Ô e]
theorem w64(k:zZ)(v:V):∀(ks:Á zZ)(vs:Á V),((ĕa).map λkv=>if kv.1=k then(kv.1,v)else kv)=ħg Żg:=by
 intro ks
 induction ks with
 |nil=>intro vs;rfl|ó k' ks ih=>
  intro vs;cases vs with
  |nil=>rfl|ó u vs=>rw[Ŭa,ġ,ih,ńb,Ŭa];by_cases e:k'=k;rw[Ó e,Ó e];rw[Ô e,Ô e]
theorem af(h:Ĉ=Ć):uZ ĕa k v=(ěe).zip Ðe:=by unfold uZ wC wD;rw[z39 k h];by_cases c:yh ks k=Ä;rw[Ó c,Ó c,Ó c,w64 k v];rw[Ô c,Ô c,Ô c,List.zip_append h];rfl
def WP(h:Ĉ=Ć):(ěe).length=(Ðe).length:=by
 unfold wC wD
 split;rw[çc,h,þa];rw[î,î,h];rfl
def Pe(h:Ĉ=Ć):(Ðe).length<=Ć+1:=by
 unfold wD
 split;rw[çc,h,þa];show ĝf _;rw[î];show Ϙ _
#print a
section
variable{K:Ñ}{H:Hp}
theorem Ïp:∀{ks:Á zZ}{ds:Á D}{vs:Á V}{k:zZ}{d:D},å K H ds vs->Ċ ks ds k=À d->∃v,Ċ ks vs k=À v/\zh K H d v
 | [],_,_,_,_,_,e=>by cases e|_::_,[],_,_,_,_,e=>by cases e|k'::ks,d'::ds,_,k,d,r,e=>by
  let{v,h,rfl,g,f}:=r
  change (if k'=k then À d' else L3.getK ks ds k)=À d at e
  rw[ŵp];show{v,by exact ϭe=_;rw[Ó c],g};rw[Ô c]at e;let{u,a,b}:=Ïp f e;show{u,by exact ϭe=_;rw[Ô c];show a,b}
theorem mB{α β:Type}:∀{ks:Á zZ}{ds:Á α}{vs:Á β}{k:zZ},ø=Ć->Ċ ks ds k=Æ->Ċ ks vs k=Æ
 | [],_,_,_,_,_=>by unfold Ċ;rfl|_::_,[],[],_,_,_=>rfl|k'::ks,d'::ds,v::vs,k,h,e=>by
  change (if k'=k then À d' else Ċ ks ds k)=Æ at e
  exact Īk=Æ;rw[ŵp];rw[Ô c]at e;rw[Ô c];show mB ŭa e
theorem BQ:∀{ks:Á zZ}{vs:Á α}(k:zZ),Ĉ=Ć->(Ċ ks vs k).isSome=yh ks k
 | [],[],_,_=>rfl|k'::ks,v::vs,k,h=>by let a:=BQ (ks:=ks) (vs:=vs) k ŭa;exact(Īk).isSome=(decide Ůj||_);by_cases c:k'=k;rw[Ó c,ò c];rfl;rw[Ô c,Ę c,a];rfl
theorem ąj(hv:zh K H d v):∀{ks:Á zZ}{ds:Á D}{vs:Á V},å K H ds vs->å K H (Íb (λk' x=>if k'=k then d else x) ks ds) Żg
 | [],_,_,_=>rfl|_::_,[],_,r=>by rw[ϝp];rfl|k'::ks,d'::ds,_,r=>by let{u,e,rfl,a,b}:=r;show{_,_,rfl,?_,ąj hv b};exact zh K H (if k'=k then d else d') (if k'=k then v else u);rw[Ïq];show hv;rw[Ô c,Ô c];show a
def Reps.put(r:å K H ds vs)(hv:zh K H d v):å K H (wD ks ds k d) Ðe:=by
 unfold wD
 split;show ąj hv r;show Ľd (Ñg hv)
def Zd(h:u8 x=À k)(r:zh K H x u):u=kV k:=by
 cases x<;>first|(cases h;done)|skip
 cases h;show r;cases h;show(show u=_/\_ from r).1
#print a
section
variable{X:Cx}{K:Ñ}
def sF:R2:=λx y H Q=>∃a kvs k v,x=.ref a/\y=kV k/\Rd H a œ/\ud kvs k=À v/\Q v H
def y24:pU X sF:=by
 intro c g t s σ H x y v u Q I A w h p;let{a,b,k,z,rfl,rfl,e,l,q}:=h;cases A;let{_,_,B,f,m}:=ZT ĝ e;let{i,j,d}:=āe (v:=z) (o:=Äc B k) (by rw[<-l];show f.val k)
 show Ød (x:=i) (z7l I ãh) Ϛg
  (Ûh (Q:=λr n=>r=i/\EP X t σ Q r n) (gH w) m.mapOf j {rfl,z,H,ϟ _,d,q}) p
def sE(K:Ñ):R2:=λx y H Q=>Ps K x y H Q\/sF x y H Q
def ze(_:Ża+1<ϓ):pU X (sE X.K):=y26.or y24
def zf:qB K (sE K) zK:=λG H x y u v d Q s f e c q=>by
 cases x with
 |dic ks ds=>let{a,n,rfl,g,l,i,_}:=f;let{k,m,c}:=zJ c;let{z,j,h}:=i.getK c;show .inr {a,_,k,z,rfl,Zd m e,ěc s g,by rw[Wo k l];show j,q _ _ _ Õa h}
 |zD=>cases c|bl b=>cases c|int b=>cases c|str z=>show .inl (PJ G H Ϥa y u v d Q s f e ěk q)|tup z=>show .inl (χd (.tup z))|lst z=>show .inl (χd (.lst z))|exc z=>cases c|obj z _ _=>cases c
def Pr(b:Ð):R2:=λx y H Q=>∃a kvs k,y=.ref a/\x=kV k/\Rd H a œ/\Q (.bl (if b then !(ud kvs k).isSome else(źf).isSome)) H
def x00(f:Ża+1<ϓ):xF X ϒc (Pr Â):=by rw[Ϡp];show z78 f I ãh d λj g=>{.bl _,H,g,rfl,q}
def x07(f:Ża+1<ϓ):xF X æe (Pr Ä):=by rw[Ϡp];show z7a f I ãh d λj g=>{.bl _,H,g,rfl,q}
def Yy(K:Ñ)(a:Ð):R2:=λx y H Q=>Pp K a x y H Q\/(∃i j,x=.str i/\y=.str j/\Q (.bl (if a then !(!(ác j i 0 Œa 1).isEmpty)else !(ác j i 0 Œa 1).isEmpty)) H)\/Pr a x y H Q
def pE(a:Ża+1<ϓ):xF X ϒc (Yy X.K Â):=x03.or (x04.or (x00 a))
def PN(a:Ża+1<ϓ):xF X æe (Yy X.K Ä):=x08.or (x09.or (x07 a))
theorem DX(d:xo x=Ä)(c:zh K H x u):∀{ys:Á D}{vs:Á V},å K H ys vs->ϴc xo=Ä->vs.all jR=Ä/\Be u vs=ys.any λy=>xC y x
 | [],_,r,_=>by rw[ϝp];show{rfl,rfl}|y::ys,_,r,h=>by let{v,f,rfl,e,g}:=r;rw[ų,ě]at h;let{a,b}:=DX d c g h.2;refine{by rw[ų,U7 h.1 e,a];rfl,?_};exact(pZ v u||Be u f)=(xC y x||_);rw[Oy h.1 d e c,b]
theorem mZ(d:zh K H x u)(f:zh K H y v)(b:Ix x y=À k)(q:Q (.bl (if neg then !k else k)) H):Yy K neg u v H Q:=by
 cases y with
 |lst ys=>
  let{a,g,rfl,e,h,_}:=f
  rw[Ϭp]
  cases c:ìn with
  |Â=>rw[c]at b;cases b|Ä=>rw[c]at b;cases b;rw[ě]at c;let{m,o}:=DX c.1 d h c.2;show .inl {a,g,rfl,.inl e,U7 c.1 d,m,by rw[o];show q}
 |tup ys=>
  let{a,g,rfl,e,h,_}:=f
  rw[Ϭp]
  cases c:ìn with
  |Â=>rw[c]at b;cases b|Ä=>rw[c]at b;cases b;rw[ě]at c;let{m,o}:=DX c.1 d h c.2;show .inl {a,g,rfl,.inr e,U7 c.1 d,m,by rw[o];show q}
 |str j=>
  cases x<;>first|(cases b;done)|skip
  rename_i i;cases b;show .inr (.inl {i,j,(show u=_/\_ from d).1,(show v=_/\_ from f).1,q})
 |dic ks ds=>let{n,p,b}:=zJ b;cases b;let{a,g,rfl,e,l,h,_}:=f;show .inr (.inr {a,_,n,rfl,Zd p d,e,?_});rw[Wo n l,BQ n l];show q
 |_=>cases b
def pB:g_ K (Yy K Â) xI:=λH x y u v d Q c b a=>by rw[Ęq]
def PL:g_ K (Yy K Ä) Xy:=λH x y u v d Q c b a=>by rw[Ęq]
def UF:SF X Ľm Ϛe:={{_,x0t,λ{e c G H τ σ d Q} E b q p a=>by cases b;show q p G _ (ϑa ėa a) a (Ĭn a) {[],yo,rfl,rfl,ýa _}}}
def UK(s:Ża+1<ϓ)(N:QE X īa Űd)(hk:SE X k fk)(hv:SE X v fv)(F:Î (Εc Ĩl) q12) :SS X Åm (pJ i fk fv):=by
 let{tk,Q,t}:=hk.h;let{tv,C,I}:=ĵc;show{{_,rH s N.h Q C F,λ{T R G H τ σ fl E} K b q=>?_}};let{y,O,b}:=zJ b;show I K O λw S U P r=>?_
 rw[ĝq];rename_i ks o p;let{xk,L,b}:=zJ b;let{d,e,b}:=zJ b;by_cases c:Ĉ<yb;rw[żp];let m:=öa P;let{a,n,g,z,vs,B,l,j,Z}:=m.ow _ _ p;show{_,n,t m L λu G2 H2 f J=>{a,_,rfl,.inl {_,d,f.h _ _ B,Zd e J,?_,rfl},?_}};rw[đa,l,þa,Ŧ,<-l];show c;show q _ _ _ ((m.go f).MI p n {wD ks vs d w,?_,WP l,(ŝe f.g).put (ãa f.g),?_});rw[yo,af l];let h1:=Pe (ks:=ks) (vs:=o) (k:=d) (v:=y) ąn;have Y:Ůb<16777216:=by rw[<-Œa,<-l];show c
 rw[Ŧ];omega;rw[Żp];cases b
def tD(K:Ñ)(w:è)(a:Ì)(ks:Á zZ)(ds:Á D):È:=
 ∃us:Á V,Ĉ=Ÿ/\êa=Â/\(∀H,å K H ds us)/\∀(P:ï)(h:Heap),ţ h->∃vs,KV ąc vs/\ŀd ĳa a vs
inductive gs(w:è):Á Ĥb->Á Ç->Á Value->È
 |nil:gs w [] [] []
 |ó {x:Ç} {t:Tok} {v:Value} {es:Á Ĥb} {xs:Á Ç} {vs:Á Value} (r:gs w es xs vs):gs w (⟨Ún w.params x,.str x t,v⟩::es) Ēg Ĕg
def gs.pairs:∀{es:Á Ĥb}{xs:Á Ç}{vs:Á Value},gs w es xs vs->Pairs ĳa es ((Îc şa).zip vs)/\(∀e∈es,∃k,(ĳa).is k e.key=Ä/\e.hash=(ĳa).hash k):=λ{es xs vs} h=>by
 induction h with
 |nil=>show{.nil,λ_ h=>(Īa h).elim}|@cons x t _ _ _ _ r ih=>let{a,b}:=ih;show{.cons (Nz P w x t) rfl a,λe h=>?_};rcases ň h with rfl|h;show{.inr x,Nz P w x t,rfl};show b e h
def gs.len{w:è}{es:Á Ĥb}{xs:Á Ç}{vs:Á Value}(h:gs w es xs vs):æ=Ć:=by
 induction h with
 |nil=>rfl|ó _ ih=>rw[ą,ą,ih]
theorem Nc(r:zx us vs):∀{ks:Á zZ},Ĉ=Ÿ->KV ąc ĕa:=by
 induction r with
 |nil=>intro ks _;rw[Õm,Õm];show .nil|ó r _ ih=>
  intro ks h;cases ks with
  |nil=>show .nil|ó k ks=>show .cons {rfl,r} (ih ēj)
theorem Fa:∀{ks:Á zZ}{vs:Á Value},Ĉ=Ć->(ĕa).map (·.1)=ks
 | [],[],_=>rfl|k::ks,v::vs,h=>by rw[Ŭa,ġ,Fa ŭa]
theorem m4(l:Ϩ a=À { cls:=.type ϐ,ċ:=.dict Ħi n })(e:gs w es xs vs)(f:Ϝc)(g:êa=Â)(r:zx us vs)(j:∀H,å K H ds us) :tD K w a Ųc ds:=by
 rw[Íq]
 show{us,c,g,j,λP h d=>{_,Nc r c,?_}};rw[Īq];refine{_,_,_,d _ _ l,{rfl,rfl,rfl},rfl,λe i=>q e òm,p,?_};rw[Fa Ùh];show ôf _ Ϥe f
def z8n(g:tD X.K X.w A ks ds):pU X (λx y H Q=>x=.ref A/\∃k,y=kV k/\∃d,Ċ ks ds k=À d/\∀v,(∀H,∃H',yN H H'/\ſb)->(∀H,zh X.K H d v)->Q v H):=by
 intro b f N s σ H x y v u Q I P O h L;let{rfl,k,rfl,d,l,q}:=h;cases P;let{T,G,j,m,E}:=g;let{R,e,i}:=E ú ä Ť;let{z,p,_}:=(m H).getK l
 let B:∀H,zh X.K H d z:=λH'=>by let{S,a,t}:=(m H').getK l;rw[p]at a;cases a;show t
 let{n,C,c}:=āe (v:=z) (o:=Äc R k) (by rw[<-p,<-Wo k G];show e.val k)
 show Ød (x:=n) i.typeIs Ϛg
  (Ûh (Q:=λr J=>r=n/\EP X N σ Q r J) (gH O) i.mapOf C {rfl,z,H,ϟ _,c,q z (λH=>{H,Ϩa H,trivial}) B}) L
def tt(h:wH õ x Ųb)(g:tD X.K X.w A ks ds)(r:Gl X x)(n:SE X b fb)(s:Î žo q12)(c:Î ķ q10) :SE X (.Subscript Îa b pos) (e1 (xg ks ds) fb):=by let{tb,j,l}:=n.h;show{{_,PR (z8n g) (WL h r c) j (DJ s),λ{z t G H τ σ d Q} E a q=>?_}};let{y,m,a}:=zJ a;let{k,i,a}:=zJ a;show l E m λu B C o f=>{rfl,k,Zd i f,d,a,λv _ e=>q v _ _ o (e _)}
def z8o(g:tD X.K X.w A ks ds):xF X æe (Ψd Ϩo):=by rw[ϫp];let{m,c,a,l,d}:=g;let{n,b,e}:=d ú ä Ť;show Ðn (gH i) a e.mapOf ?_;rw[<-(Ĳp).V7,Wo k c,BQ k c];show{.bl _,H,ϟ _,rfl,q}
#print a
nonrec def jc:D->Ê Éc
 |.lst xs=>À xs|.tup xs=>À xs|_=>Æ
def tm(a b:FE):FA:=λσ=>(Ϲ).bind λx=>(Ůd).bind λy=>(jc x).bind λc=>(jc y).bind λd=>À (Íb Ùf c d)
section
variable{K:Ñ}{G H:Hp}
def z0s(h:jc x=À xs)(r:zh K G x u):∃t a vs,u=.ref a/\qZ K t G a vs/\å K G xs vs/\æ<=â:=by
 cases x<;>first|(cases h;done)|skip
 cases h;let{a,vs,rfl,b,c,l}:=r;show{Ä,a,vs,rfl,b,c,l};cases h;let{a,vs,rfl,b,c,l}:=r;show{Â,a,vs,rfl,b,c,l}
def WU(s:yN H H')(h:qZ K t H a vs):qZ K t H' a vs:=by cases t;show ux s h;show uR s h
def w65(j:qZ K t1 G a vs)(l:qZ K t2 G b us)(g:å K G xs vs)(h:å K G ys us):jK K łh G (Íb Ùf xs ys) where
 go:=λi e H d c f=>by rw[çc]at f;let{v,e1,_}:=Ŋg (ğ (show i<æ by omega));let{u,e2,_}:=h.get (ğ (show i<Òa by omega));show{vs,us,v,u,WU řd j,WU řd l,e1,e2}
 uh:=λi e H x A d c f y=>by let{p,m,rfl,k}:=y;let{v,u,e1,e2,rfl}:=k vs us (WU řd j) (WU řd l);let{s,q,z}:=g.at e1;let{t,w,r}:=h.at e2;refine{zd e p ϰn,.tup [s,t],ıb c m,by rw[Ìf,q,w],?_};let o:yN G (zd e p ϰn):=ϧb İm;show{p,[v,u],rfl,żb yo,{v,_,rfl,z.mono o,{u,_,rfl,ãa o,rfl}},ϒa (n:=2) Í}
 Š:=λi e H d c f=>by rw[çc]at f;show{vs,us,WU řd j,WU řd l,?_};rw[âa,Ŀd];omega
#print a
section
variable{X:Cx}{a b e o:Õ}{fa fb f:FE}{p pos:Pos}
def LD(Q:Gl X Ļa)(J:õ Ļa=Æ)(A:SE X a fa)(P:SE X b fb)(o:Î ϋc q12)(d:Î ļi q12):SI X Ãm ώg (tm fa fb):=by
 let{t,F,k}:=(zB A (zB P zL d) o).h;show{{_,(x2y Q J {F} o d).h,λ{Y T G H τ σ ds R} K c q=>?_}};let{x,L,c}:=zJ c;let{y,N,c}:=zJ c;let{xs,f,c}:=zJ c;let{ys,g,c}:=zJ c;cases c;refine k K (ds:=Ĵc) (by unfold zA;rw[L,N];rfl) λvs U Z i s=>?_
 let{v,r,rfl,w,{v2,I,rfl,j,B}}:=s;cases(show I=[]from B);let{u,E,l,rfl,m,S,l1}:=z0s f w;let{C,O,e,rfl,n,z,l2}:=z0s g j;show{E,O,l,e,u,C,rfl,WU i.gh m,WU i.gh n,q _ _ _ i ?_ (w65 m n S z)};rw[çc];omega
abbrev FO:=yD->Ê (Ê Å)
nonrec def vj:FO:=λ_=>À Æ
nonrec def vk(f:FE):FO:=λσ=>(f σ).bind λd=>match d with
 |.int i=>À (À i)|_=>Æ
def tZ(xs:Á α)(lo hi:Ê Å):Á α:=(ãl).take ŷk
def YV(d:D)(lo hi:Ê Å):Ê D:=match d with
 |.lst xs=>À (Γ Ďh)|.tup xs=>if č æ 0 lo=0/\č æ æ hi=æ then Æ else À Ϗo|.str z=>À (.str ăn)|_=>Æ
def tH(a:FE)(lo hi:FO):FE:=λσ=>(Ϲ).bind λd=>(Ĩj).bind λl=>(īj).bind λh=>YV d l h
structure SO(X:Cx)(e:Ê Õ)(f:FO):È where
 h:∃t,PO X e t/\∀{G0 H0 G H:Hp}{τ:yD}{σ:St}{d:Ê Å}{Q:Ê Å->Hp->È},yJ X.K ć G0 H0 G H τ σ->f τ=À d->(∀G' H',zW G H G' H'->Q d H')->t σ H Q
def Zr:SO X Æ vj:={{_,x20,λE a q=>by cases a;show q _ _ ũb}}
def Zs(h:SE X e f):SO X (À e) (vk f):=by
 let{t,c,k}:=h.h;show{{_,x21 c,λ{i g G H τ σ d Q} E a q=>?_}};let{x,b,a}:=zJ a;cases x<;>first|(cases a;done)|skip
 cases a;show k E b λv j l x r=>{_,r,q _ _ x}
def Reps.cut{K:Ñ}{G:Hp}{ds:Á D}{vs:Á V}(r:å K G ds vs)(lo hi:Ê Å):å K G (tZ ds lo hi) (Xs vs lo hi):=by unfold tZ Xs;rw[ſ];show(ļj _).take _
def B7(xs:Á α)(lo hi:Ê Å):(Ďh).length<=æ:=by unfold tZ;rw[Ïa,Đa];show đ ėe đb
def x3d(K:Ñ):V->Ê Å->Ê Å->Hp->VK->È:=λx b a H Q=>sI K x b a H Q\/sK K x b a H Q\/sJ x b a H Q
def z15:ZN X (x3d X.K):=x6g.or (x6i.or x6h)
def Y_{lo hi:Ê Õ}{w fh:FO}{I:Pos}(B:SE X a fa)(m:SO X lo w)(r:SO X hi fh):SE X (Δf (.Slice lo hi Æ I)) (tH fa w fh):=by
 let{ta,C,L}:=B.h;let{tl,J,A}:=m.h;let{U,N,K}:=r.h;show{{_,oy z15 C J N,λ{R O G H τ σ d Q} E b q=>?_}};let{x,F,b}:=zJ b;let{l,m,b}:=zJ b;let{h,r,b}:=zJ b;show L E F λv P S u y=>A Ćg m λY H2 s=>K ((Ćg).go s) r λZ T e=>?_
 let n:=u.trans (þj e);let o:=y.mono (s.g.trans e.g);cases x with
 |lst xs=>cases b;let{a,t,rfl,k,j,f}:=o;refine .inl {a,t,rfl,ux Ðd k,λp i=>q _ _ _ Ģl {p,_,rfl,Ĺb yo,(Ĝo).mono ùn,đ ěg f}}
 |tup xs=>
  change (if č æ 0 l=0/\č æ æ h=æ then Æ else À (Ċa (tZ xs l h)))=À d at b
  by_cases c:č æ 0 l=0/\č æ æ h=æ;rw[żp];rw[Żp];let{a,t,rfl,k,j,f}:=o;refine .inr (.inl {a,t,rfl,uR Ðd k,by rw[Œa];show c,λp i=>?_});show q _ _ _ Ģl {p,_,rfl,żb yo,(Ĝo).mono ùn,đ ěg f}
 |str z=>cases b;let{rfl,f}:=o;show .inr Ïk
 |_=>cases b
nonrec def Vf:Á D->Ê D
 | [.lst xs]=>À Ěa| [.tup xs]=>À Ěa|_=>Æ
nonrec def YW:Á D->Ê D
 | [.lst xs]=>À œa| [.tup xs]=>À œa|_=>Æ
def qH{K:Ñ}{G:Hp}{d:D}{vs:Á V}(r:å K G [d] vs):∃v,vs=[v]/\zh K G d v:=by let{v,a,rfl,c,b}:=r;cases(show a=[]from b);show{v,rfl,c}
def AO{fs:FA}(u:Gl X ĸ)(r:õ ĸ=Æ)(s:SA X [e] fs)(w:Î ϴ q12):SF X (Ξb Ŝn) (eL Vf fs):=by
 let{t,x,k}:=s.h;refine{{_,(U6 z6f u r Mx {x} Í Í õm).h,λ{A y G H τ σ d Q} E f q=>?_}};let{n,o,f}:=zJ f;show k E o λC z B b m=>?_
 match n,f with
 | [.lst xs],f=>cases f;let{v,rfl,a,g,rfl,i,j,l}:=qH m;show{a,g,rfl,.inl (ux b.gh i),λp c=>q p _ _ Ħl ϣn őn {g,yo,j,l}}
 | [.tup xs],f=>cases f;let{v,rfl,a,g,rfl,i,j,l}:=qH m;show{a,g,rfl,.inr (uR b.gh i),λp c=>q p _ _ Ħl ϣn őn {g,yo,j,l}}
def DE{K:Ñ}:fM K (Δe ((yu K H p ys/\∀l,H l=Æ->Q Ϧc ſn)\/(xK K H p ys/\Q ž H))) YW:=λG H h i d Q s r b q=>by
 match h,b with
 | [.lst xs],b=>cases b;let{v,rfl,a,c,rfl,e,f,l}:=qH r;show{a,c,rfl,.inl {ux s e,λp g=>q _ _ _ (ıb s g) {p,c,rfl,żb yo,öj (uQ (s.free g) _),l}}}
 | [.tup xs],b=>cases b;let{v,rfl,a,c,rfl,e,f,l}:=qH r;show{a,c,rfl,.inr {uR s e,q _ _ _ Õa {a,c,rfl,e,f,l}}}
def OX(x:D):Á D->Ã->Ê Ã
 | [],_=>Æ|y::ys,n=>match xC y x with
  |Ä=>À n|Â=>OX x ys Ŋ
def z88:D->D->Ê D
 |.lst ys,x=>match xo x&&ϴc xo with
  |Ä=>(OX x ys 0).bind λn=>À êb|Â=>Æ
 |_,_=>Æ
theorem n8:∀{ys:Á D}{n m:Ã},OX x ys n=À m->∃j y,m=n+j/\ys[j]?=À y/\xC y x=Ä/\∀i z,i<j->ys[i]?=À z->xC z x=Â
 | [],_,_,h=>by cases h|y::ys,n,m,h=>by
  change (match xC y x with|Ä=>À n|Â=>OX x ys Ŋ)=À m at h
  cases c:xC y x with
  |Ä=>rw[c]at h;cases h;show{0,y,rfl,rfl,c,λi z b=>ß b èf}|Â=>
   rw[c]at h;let{j,d,e1,e2,f,e}:=n8 h;refine{j+1,d,by omega,by simpa using e2,f,λi z b a=>?_};cases i with
   |Øa=>cases a;show c|Ùa i=>show e i z É ċh
def z1h(r:EL X op ti)(A:qB X.K ti F)(s:źa)(hi:X.N[i]?=À x)(c:gw Ða x)(I:SE X e f)(b:Î Āb q7) :SS X (.AugAssign ŝn op e pos) (yB i (e2 F (z6 i) f)):=by let{t,J,k}:=I.h;show{{_,x27 s hi c J r b,λ{O L G H τ σ R E} K b q=>?_}};let{d,a,b}:=zJ b;cases b;let{x,c,a}:=zJ a;let{y,z,a}:=zJ a;let{v,B,o}:=K.fr _ _ (i_ c);show{v,B,k K z λu l n j m=>A l n x y v u d _ j.gh (Ľj j.g) m a λw P Q C p=>?_};show q _ _ _ (((Čj).go C).set ϸb.1 p)
def oJ{K:Ñ}:qB K ϣm Œh:=λG H x y u v d Q s c b a q=>by
 cases x<;>first|(cases a;done)|skip
 cases y<;>first|(cases a;done)|skip
 rw[Ϟp]
def z1k(h:wH õ x Ųb)(g:tD X.K X.w A ks ds)(s:Gl X x)(n:SE X a fa)(i:Î (ϟb .NotIn Îa=Â) q15)(e:Î ķ q10) :ST X (.Compare a [.NotIn] ðo pos) (tE (e1 (Tt ks) fa)):=by let{tb,l,m}:=n.h;show{{_,DN (z8o g) l (WL h s e) i,λ{v t G H τ σ d Q} E c q=>?_}};rw[Ĩq];let{k,j,b}:=zJ b;cases b;cases c;show m E o λu B C r f=>{rfl,k,Zd j f,_,rfl,q _ _ r}
variable{x:Ç}{ps:Á Ç}{j k:Ã}{FF:Á D->Ê ã}
def x5r(h:vg ú X.w X.K õ Ũ x ps k śf)(e:xL j X.A)(B:Gl X x)(hk:Î Òc q10)(c:Î ķ q10):SE X œl (zU FF zF):=by
 let{f,L,t,z,b,F}:=h;show{{_,x0l F (e.mono hk) B t z b .nil U3 c,λ{J C G H τ σ d Q} E a q=>?_}};let{I,n,a}:=zJ a;cases n;obtain⟨⟨o,d⟩,e,a⟩:=zJ a;cases a;show{G,[],o,d,ėa,rfl,e,?_};cases o with
 |Â=>show λv i l g r=>q v i l g r|Ä=>intro p i l g s m o;let{u,y,r}:=o.yO m;show q _ _ _ (g.yO s m y) r
#print a
def FR(n N:Ã)(b:FS)(ds:Á D):Ê ã:=if ø=n then yC N b ds else Æ
def yE:∀ds r,FR n N b ds=À r->ø=n/\yC N b ds=À r:=λds r h=>by
 unfold FR at h
 rw[ēq]
theorem z25{M:Że}{A:ā}{E:Value->Ï->È}{a:Ü Value}{x:Value}{e:Value->Ð}{j:Ã}(k:∃Ī w,M=model Ī w)(l:j<ù)(b:e a[j]=Ä)(f:∀m (n:m<ù),m<j->e a[m]=Â){s:Ï}(g:∀y∈a,Ġb A s y x (e y)){Q:Ê ůi×Ŀa->Ï->È}(h:Q (À (.done Âm),()) { s with Ě:=Ď+1 }):∀m i:Ã,i+m=ù->i<=j->
  Ý M A (Ķb (ûi i m) ((Æ,()):Ê ůi×Ŀa) λ(i:Ã) (_:Ê ůi×Ŀa)=>match a[i]? with
   |À y=>do
    let ϝf <-eqBool y x
    if ϝf=Ä then do
      let ϝf <-retInt (i:Å)
      pure (ForInStep.done (À ϝf,()))
     else pure ân
   |_=>pure ân) Q E s
 |0,i,h1,h2=>by omega|m+1,i,h1,h2=>by
  let{Ī,w,rfl}:=k;let d:i<ù:=by omega
  rw[ĳh,ŉh];show Ø ?_;rw[Array.getElem?_eq_getElem d];show Ø (g _ (Array.getElem_mem d) Ī w E _ ?_);by_cases c:i=j;subst c;rw[b,Ó rfl]
  wp_walk
  show h;rw[f i d É,Ô Í];show Ĥ ?_;show z25 {Ī,w,rfl} l b f g h m ñ É É
def w1t(t:Ì)(a:Ü Value)(x:Value)(e:Value->Ð)(j:Ã)(i:j<ù)(c:e a[j]=Ä)(k:∀m (v:m<ù),m<j->e a[m]=Â) :Meets (Builtin.«tuple.index» {[.ref t,x],[]}) (λA R s=>úb ä t a/\(∀y∈a,Ġb ϔ s y x (e y))/\R (.ok Âm) { s with Ě:=Ď+1 }):=by
 intro b w A R s h;let{r,g,d,u,B}:=s;obtain⟨⟨o,z,q,n,f⟩,p,h⟩:=h;unfold Builtin.«tuple.index»
 wp_walk
 skip
 rw[f];show Ĥ Ýb;exact Ý _ _ (pure 0 >>= _) _ _ _;show Ø (Φa ůh);rw[Std.Legacy.Range.forIn_eq_forIn_range'];let l:ıl [0:min ù ù]=ù:=by simp[ıl]
 rw[l];show z25 {b,w,rfl} i c k p ?_ ù 0 É É;show Ĥ h
section
variable{X:Cx}{e o k v:Õ}{f fo fk fv:FE}{x:Ç}{xp p pos Ű Ϡ:Pos}
def y4a:YG X "tuple.index" (λx vs H Q=>∃(a:Ì) (us:Á V) (y:V) (j:Ã) (u:V),x=.ref a/\vs=[y]/\xK X.K H a us/\jR y=Ä/\us.all jR=Ä/\us[j]?=À u/\pZ u y=Ä/\(∀i z,i<j->us[i]?=À z->pZ z y=Â)/\Q Đn H):=by
 intro Z s σ H x xs v R Q I U L h;let{a,us,y,j,u,rfl,rfl,G,S,C,p,g,O,q}:=h;cases U;let{w,rfl,T}:=uD L;let{b,r,B,hz}:=ϭ G;let o:=ſ;let J:j<Ÿ:=(ű p).1
 let d:∀(i:Ã)(z:V)(l:i<ĕb),us[i]?=À z->qD y ßb[i]=pZ z y:=λi z l E=>by
  let{t,A,Y}:=ϸa E
  let e:ßb[i]=t:=by let N:b[i]?=À b[i]:=ğ (by rw[ĥ]at l;show l);rw[N]at A;simpa using A
  rw[e];show HQ Y (øa C z (ūa E))
 have f:j<ĕb:=by rw[ĥ,<-o];show J
 refine ŏb Õl B.typeIs PySem.F.entry_tuple_index (PySem.F.args_tuple_index_2 _ _) (w1t a ßb w (qD y) j f (by rw[d j u f p];show g) λm n k=>?_) {B,λt P=>?_,{.int j,H,ϟ _,{_,rfl},q}};have c:m<Ÿ:=by rw[ĥ,<-o]at n;show n
 rw[d m us[m] n ďg];show O m _ k ďg;show QK T S r C t (by simpa using P)
def EO(K:Ñ)(A:Ì):È:=∃o,Ϩ A=À o/\ùb=.type ŷ/\Ŝe=Æ
def I_(ds:Á D)(y:D):Ê D:=z88 ϫi y
def x5t(h:wH õ x Ųb)(r:∀H,zh X.K H ğe Ųb)(kt:EO X.K A)(hg:Gl X x)(I:SE X e f)(S:Î ķ q10)(k:Î (éa īa "index" Ù Ϣh=Ė īa Ù) q12)(l:Î ča q12)(t:Î ϴ q12) :SE X (ν (.Attribute īa "index" Ű)) (e1 (I_ ds) f):=by
 let{te,Z,ke}:=(zB I zL t).h;refine{{_,(QV PySem.F.plainAttrs_tuple Õl PySem.F.type_tuple_index y4a (x2x h hg S) {Z} k l (by rw[ų,t];rfl) îd).h,λ{G0 H0 G H τ σ d Q} E g q=>?_}};let{y,hy,g}:=zJ g;refine{.inr (.inl {rfl,kt}),ke E (ds:=[y]) (by unfold zA;rw[hy];rfl) λws U H2 s Y=>?_};let{w,rfl,b}:=qH Y;let{a,us,L,B,m,_}:=r U;cases L
 change (match xo y&&ds.all xo with|Ä=>(OX y ds 0).bind λn=>À (ý n)|Â=>Æ)=À d at g
 cases c:(xo y&&ds.all xo)with
 |Â=>rw[c]at g;cases g|Ä=>
  rw[c]at g;let{n,J,g}:=zJ g;cases g;rw[ě]at c;let{j,z,e1,e2,R,O}:=n8 J;rw[š]at e1;subst e1;let{u,N,C}:=m.get e2;let p:∀{i:Ã}{z:D},ds[i]?=À z->xo z=Ä:=λ{i z} o=>øa c.2 z (ūa o)
  refine{A,us,w,n,u,rfl,rfl,uR s.gh B,U7 c.1 b,(DX c.1 b m c.2).1,N,by rw[Oy (p e2) c.1 C b];show R,λi z P o=>?_,q _ _ _ s rfl};let{T,v,rd}:=m.at o;rw[Oy (p v) c.1 rd b];show O i T P v
structure SD(X:Cx)(pos:Pos)(keys:Á ϰf)(Ġg:Á Õ)(ks:Á Ç)(fs:FA):È where
 h:∃trs,IP X pos keys Ġg trs/\∀{G0 H0 G H:Hp}{τ:yD}{σ:St}{ds:Á D}{Q:Á ľg->Hp->È},yJ X.K ć G0 H0 G H τ σ->fs τ=À ds->(∀vs G' H',zW G H G' H'->å X.K G' ds vs->Ć=Ĉ->Q ((ðp).zip vs) H')->Dz trs σ H Q
def x5q:SD X pos [] [] [] zF:={{_,x24,λE a q=>by cases a;show q [] _ _ ũb rfl rfl}}
def WR(hv:SE X v fv)(o:SD X pos ks vs xs fs):SD X pos (À (.Constant Ĭb j xp)::ks) Ĕg Ēg (zA fv fs):=by
 let{I,r,s}:=ĵc;let{J,p,k}:=o.h;show{{_,x23 oz r p,λ{z t G H τ σ y Q} E a q=>?_}};let{d,m,a}:=zJ a;let{F,b,a}:=zJ a;cases a;show s E m λu w A e i=>k Řd b λc B C f n l=>?_
 show q (u::c) _ _ (İb f) {u,c,rfl,Ńj f.g,n} ûm
theorem nc:∀(kvs acc:Á ŧ),(ϴb (·.1)).Nodup->(∀kv∈kvs,ud acc kv.1=Æ)->jZ acc kvs=acc++kvs
 | [],acc,_,_=>by rw[ū];rfl|kv::r,acc,nd,hn=>by rw[ġ,Žm]at nd;let b:=hn kv ĳ;exact jZ (uZ acc kv.1 kv.2) r=_;rw[x2j kv.2 b,nc r _ nd.2 (λa m=>?_)];rw[Ł];rfl;rw[z2g kv.1 a.1 kv.2 acc b,Ô (λe=>nd.1 (by rw[<-e];show þh m))];show hn a ďp
theorem z3d:∀{ks:Á Ç}{vs:Á V},(ðp).zip vs=(((Ϸb şa:Á zZ).zip vs).map λkv=>(kV kv.1,kv.2))
 | [],_=>rfl|_::_,[]=>rfl|k::ks,v::vs=>by rw[ġ,ġ,Ŭa,Ŭa,ġ,z3d];rfl
theorem z3c:∀{ks:Á zZ}{vs:Á V},Ĉ=Ć->(ĕa).map (·.1)=ks
 | [],[],_=>rfl|k::ks,v::vs,h=>by rw[Ŭa,ġ,z3c ŭa]
theorem x67(h:SD X pos keys Ġg ks fs)(K:ks.Nodup)(s:Ĉ<=15)(i:Î (keys.all (·.isSome)=Ä) q12)(F:Î (Ïo=values.length) q12)(B:Î (keys≠[]) q16)(f:Î (Ïo<=15) q10) :SF X (.Dict keys Ġg pos) (BF ks fs):=by
 let{x,L,A}:=h.h;show{{_,x0s L i F B f,λ{O N G H τ σ d Q} E e q p j=>?_}};let{I,o,e}:=zJ e;let t:zW G H G ϋi:=ϑa ėa j;show A (Àa t) o λm r w k J l=>?_
 let e2:w p=À Őf:=k.h _ _ yo
 let v:r p=Æ:=by
  cases c:r p with
  |Æ=>rfl|À u=>rcases k.new p (by rw[c];show λz=>nomatch z)with z|z;show ß (Ĭn j) z;rw[yo]at z;cases z
 let n:(Ϸb şa:Á zZ).length=ħb:=by rw[ç,l]
 by_cases c:Ĉ=I.length;rw[Ó c]at e;cases e;refine{e2,(Ϸb şa:Á zZ).zip m,z3d,by rw[đa,n,þa,l];show s,?_};rw[nc _ [] (by rw[z3c n];show ôf _ Ϥe K) łf,Ćd]
 let C:zW G H r (zd w p (.dK ((Ϸb şa:Á zZ).zip m))):=by let y:=t.trans k;show{y.g,λb u z=>?_,λb u z=>?_,y.new};rw[yH (qF z j)];show y.h _ _ z;rw[yH (qF z v)];show k.gh _ _ z
 show q p _ _ C j v {m,yo,n,J,by rw[<-c];show ϒa É};rw[Ô c]at e;cases e
def z0o(I:Ża+1<ϓ)(S:SE X o fo)(hk:SE X k fk)(hv:SE X v fv)(m:M2 X o "get" Ű k v Ϡ):SE X (.Call ñl [k,v] [] Ϡ) (YR fo fk fv):=by
 let{to,N,P}:=S.h;let{tk,Z,J}:=hk.h;let{tv,K,L}:=ĵc;show{{_,x0r I N Z K m,λ{G0 H0 G H τ σ d Q} E b q=>?_}};let{x,R,b}:=zJ b;show P E R λw G1 H1 f C=>?_
 cases x with
 |dic ks ds=>
  let{y,T,b}:=zJ b;let{z,Y,b}:=zJ b;let{e,i,b}:=zJ b;cases b;let{a,U,rfl,t,l,B,_}:=C;show{a,rfl,.inl {_,ěc f.gh t},J (Àa f) T λu G2 H2 j O=>L ((Àa f).go j) Y λw' G3 H3 n F=>?_};show{ud (ħg U) e,.inl {_,e,ěc (f.gh.trans (j.h.trans n.h)) t,Zd i O,rfl},?_};rw[Wo e l];let r:=B.mono (Ãp n.g);cases c:Ċ ks ds e with
  |Æ=>rw[c]at q;rw[mB (by rw[B.length]) c];show q _ _ _ Ŋl F|À d'=>rw[c]at q;let{z',s,p}:=r.getK c;rw[s];show q _ _ _ Ŋl p
 |_=>cases b
nonrec def vi(i:Å):Ã:=ϧd i
def HZ:D->D->Ê D:=fI (λi j=>decide (vi i+vi j<=134217728)) (·*·)
def x05:xF X Āi Āk:=QQ λi j _ _ _ _ _ a q=>mul_int q (by unfold IntMulOk;intro h;rw[ě]at h;let b:decide (((ϧd i+ϧd j:Ã):Å)>(134217728:Ã))=Ä:=h.2;let c:=ő b;let d:ϧd i+ϧd j<=134217728:=a;omega)
def y8w{K:Ñ}:qB K Āk HZ:=U0 λ_ _ h=>ő h
#print a
open Ćj
theorem z2z:∀{ns:Á Å}{m:Å},m∈ns->vi m<=ąd ńc
 | [],_,h=>by cases h|n::ns,m,h=>by
  let e:ąd ((ĥj).map ũi)=vi n+1+ąd ńc:=by exact ąd (ũi n::ϐa ũi)=_;rw[ąd];rfl
  rw[e];rcases ň h with rfl|h;omega;let:=z2z h;omega
def y36{ns:Á Å}(h:WData.layableAll [.list ńc]=Ä):∀m∈ns,vi m<=1048576:=λm b=>by
 let a:ģn Đi=Ä:=øa h _ (List.mem_singleton.mpr rfl);unfold ģn at a;rw[ě]at a;let d:Èi Đi<=2 ^ 20:=ő a.2;let e:=z2z b;let c:Èi Đi=ąd ńc:=by rw[Èi]
 omega
section
variable{K:Ñ}
def LF(K:Ñ):Sp:=λb H Q _=>∃(a:Ì) (ns:Á Å),b=ða/\yu K H a ēa/\ŵ<=63/\(∀m∈ns,vi m<=1048576)/\∀H',Q Č H'
#print a
def walkB{l:ŭi}{n k:Ã}{q:ï}{e:Á Ç}{U:ĸh->Heap->È}{O:è->Heap->È}{d:DefRec}{K:ĭg->Ñ}{sp:Ñ->Sp}{x:Ç}(X:ŀj=À n)(E:n<=â)(I:čm=[])(hr:xL k œd)(hY:∀(w:è)(h:Heap),O w h->(śb).In h)(F:∀(w:è)(j:Ç->Ê Value)(C:Ì)(h:Heap),(śb).In h->Ģa Ģ j->j d.name=À ŝ->
   ∃fd:Ō,(∀(s:Ï)(u:Value),Æc s fd {[u],[]} [(x,u)])/\∀Ë:Heap,(śb).In Ë->Ŕd Ģ j->xi İ w śb j Ë xY k C fd [x] (sp śb))
  (G:∀(K:Ñ)(H:Hp)(a:Ì)(ns:Á Å),ŵ<=n->(∀m∈ns,vi m<=1048576)->yu K H a ēa->sp K ða H âm λ_ _ _=>ÿ) :
  W.WalkO q e U O Äi d [] Él:=by
 intro w s0 s1 j mb A Y C o pm cd Z dV kV ho hd hcd P L hg R N as p y hrd J hlo;let e1:dV=.none:=Dflts.none P I;let e2:kV=.none:=Dflts.noKw P;subst e1 e2;let{a,vs,ns,rfl,rfl,t,i,c}:=Att.script_of X p J;let Q:=hY w _ Y;let{fd,hb,hF}:=F w j C _ Q A.T.g L;let B:=y34 Q A.T.g A.T.b A.T.builtins A.T.nolimit hg t i (đ c E) hr hF hb (λH _ hS=>G _ H a ns c (y36 y) hS) (λ_ _ _ z=>z);show enter_call (éf B λr s' S=>?_);let{rfl,h2,h3,h4}:=S;show{.inl {.bool Ä,.bool Ä,[],rfl,λ_=>rfl,.bool Ä,Att.post_true l _,λ_=>?_},h2,h3,h4};show{ĕh,λ_ hm=>nomatch hm}
#print L3
namespace L3
open ģ ĺ Ĭ L2
def z8q{Ī:ï}{w:è}{A:ā}{E:Value->Ï->È}{s:Ï}{a:Ì}{o:Obj}{xs:Ü Value}{k:Ã}{Ņ:Ç}{Q:Ê Value->Ï->È}(q:Ē a=À o)(n:ùb=.type ĸ)(f:ĸa=.seq xs k)(p:Ŝe=Æ)(j:ĸo Ęa Ņ=pure Æ)(i:(["__module__",Ği,"__qualname__","__doc__","__annotations__"]:Á Ç).contains Ņ=Â)(t:ŧb=Æ)(h:∀h' tk,(∀b ob,Ē b=À ob->ĩ b=À ob)->Q Æ { s with ì:=h',Ě:=tk })(hsz:name.length+100<=â) :Ý ð A (getAttr? (.ref a) Ņ) Q E s:=by
 let{c,v,z,y}:=o;simp only at n f p;subst n f p;let{u,g,d,tk,x}:=s;let r:∀m,({u,g,d,m,x}:Ï).TypeIs ŭ ĸ:=λ_=>{_,q,rfl}
 let H:=sub_AttributeError;let G:=PySem.F.slot_list_getattribute.lookup;let C:=PySem.F.slot_list_getattribute.bind ŭ;let K:=am_list_getattr_none;unfold getAttr? getAttrBy? getAttrBy
 repeat (any_goals (first|assumption|show r _|((with_reducible exact Ý _ _ (Áb (Value.builtin "list.__getattribute__") _ _) _ _ _);show ŏb PySem.F.slot_list_getattribute (r _) am_entry_list_getattribute (F.args_list_getattribute_2 _ _) (meets_getattribute_miss_list a xs k y Ņ _ j i hsz) ⟨q,t,λh' m e l=>?_⟩)|wp_step))
 let{I,B,J}:=l.there;exact Ý _ _ (Ïm _ _ _ _ _ _ _) _ _ _;unfold Ïm
 repeat (any_goals (first|assumption|wp_step))
 show h _ _ l.keeps
def DK:plainId Êm=Ä:=by rw[ţp]
def lC:entryFor table Êm=À Builtin.«dict.update.loop»:=entryFor_of_fast ϵm
def _root_.PySem.Heap.DictOf.CM{Ī:ï}{w:è}{h h':Heap}{a:Ì}{kvs:Á ŋa}(b:ŀd Ŷa a kvs)(k:∀o,Ĺ a=À o->ĩ a=À o):Ϛf Ŷa a kvs:=
 let ⟨o',es,ep,ho,r⟩:=b;{o',es,ep,k _ ho,r}
def x7b(kvs:Á ŋa)(k:zZ)(v:Value):(ĥc kvs k v).length<=Ķ+1:=by
 unfold ĥc
 rw[ėq]
def EN(h:Heap)(v:Value)(k:zZ)(x:Value):È:=∃b key,v=.ref b/\W9 k key=Ä/\úb h b #[key,x]
theorem z2c{Ī:ï}{w:è}{A:ā}{R:Ád->Ï->È}{d it l:Ì}{its:Á Value}(hA:ŧb=Æ)(G:d≠l)(q:d≠it)(K:l≠it) :∀(kvs:Á ŋa) (i:Ã) (acc:Á ŋa) (s:Ï),s.heap.IsListIter it l i->ĩf l Æa->i+Ķ=ğb->(∀j kv,kvs[j]?=À kv->∃v,its[i+j]?=À v/\EN ä v kv.1 kv.2)->
   s.heap.DictOf Ŷa d acc->acc.length+Ķ<=â->(∀h' tk,Ϛf Ŷa d (Âp (λa kv=>ĥc a kv.1 kv.2) acc)->(∀b o,b≠d->b≠it->Ē b=À o->ĩ b=À o)->R (.ok ϳn) { s with ì:=h',Ě:=tk })->
   Ý ð ϔ (Builtin.«dict.update.loop» {[.ref d,.ref it,Ŋe i,.none],[]}) (λfin s'=>match fin with|.done f=>R (.ok f) s'|.again c'=>c'.quiet=Ä/\ëb ð A c' R s') (λe s'=>R (.error e) s') s
 | [],i,acc,s,st,hl,hn,hp,hd,hz,h=>by unfold Builtin.«dict.update.loop»;refine Ø (īl (by show hA) st hl (by simp at hn ⊢;omega) λh' eb=>?_);exact Ý _ _ (Builtin.Dict.addKeywords d [] >>= _) _ _ _;show Ø đp;show h h' Ď (hd.CM λo e=>eb d o q e) (λb o _ hb e=>eb b o hb e)|kv::kvs,i,acc,s,st,hl,hn,hp,hd,hz,h=>by
  let{v,hv,b,key,rfl,hk,ht}:=hp 0 kv rfl;unfold Builtin.«dict.update.loop»;refine Ø (ċl st hl (x:=.ref b) Ąh λh1 Q sb=>?_);let g:∀c o,c≠it->Ē c=À o->ÿj c=À o:=λc o L e=>(sb.2 c L).trans e
  let p:∀{c:Ì}{B:Ü Value},úb ä c B->c≠it:=λ{c B} t e=>by subst e;let{o,e1,S,_}:=t;let{o',e2,N,_}:=st;rw[e1]at e2;cases e2;rw[S]at N;show ß (Ùn N) Í
  let H:∀{c:Ì}{B:Ü Value},úb ä c B->c≠d:=λ{c B} t e=>by subst e;let{o,e1,S,_}:=t;let{o',es,ep,e2,N,_}:=hd;rw[e1]at e2;cases e2;let c3:=N.1;rw[S]at c3;show ß (Ùn c3) Í
  let{o,ho,L,n,C}:=ht;let I:=g b o (p {o,ho,L,n,C}) ho;let Z:h1.DictOf Ŷa d acc:=hd.CM λo e=>g d o q e
  show Ø (Ċb (Ø (ñd ?_)));unfold Builtin.Dict.pairItems;show Ø (öd (T := ŷ) {o,I,L} ?_);rw[Ó Ķa];show Ø (Éb I C Ýb);show Ċb (wpAny_dictSet_pairs (knd:=xN Ī w) (k:=kv.1) hk Z (λh2 X J=>?_) É);show Ĥ {ód DK _,ïd lC ?_};rw[ϒd DK _];let m:∀c o,c≠d->c≠it->Ē c=À o->h2.get? c=À o:=λc o y u e=>(J.2 c y).trans (g c o u e)
  let F:∀{c:Ì}{B:Ü Value},úb ä c B->úb h2 c B:=λ{c B} t=>by let a1:=H t;let a2:=p t;let{o,e1,r}:=t;show{o,m c o a1 a2 e1,r}
  show z2c (its:=its) hA G q K kvs ñ (ĥc acc kv.1 kv.2) _ ?_ ?_ (by rw[ą]at hn;omega) (λj kv' e=>?_) X ?_ λh' tk Y kp=>?_;show Q.at λo e=>(J.2 it (λz=>q ϸc)).trans e;let{o,e,r}:=hl;show{o,m l o (λz=>G ϸc) K e,r};let{v',U,b',E,rfl,P,O}:=hp ϻ kv' Ϛa;show{_,by rw[show i+1+j=i+ϻ by omega];show U,b',E,rfl,P,F O};let:=x7b acc kv.1 kv.2;rw[ą]at hz;omega;show h h' tk Y λc o y u e=>kp c o y u (m c o y u e)
def z68{Ī:ï}{w:è}{A:ā}{E:Value->Ï->È}{s:Ï}{l:Ì}{o:Obj}{its:Á Value}{n:Ã}{kvs:Á ŋa}{Q:Value->Ï->È}(L:ŧb=Æ)(I:Ē l=À o)(x:ùb=.type ĸ)(G:Ŝe=Æ)(f:ĸa=.seq Æa n)(P:Ķ=ğb)(R:∀(j:Ã)(g:zZ×Value),kvs[j]?=À g->∃v,its[j]?=À v/\EN ä v g.1 g.2)(Y:Ķ<=â)(h:∀h' tk,Ϛf Ŷa Þ (Âp (λa g=>ĥc a g.1 g.2) [])->(∀b o,Ē b=À o->ĩ b=À o)->Q ġb { s with ì:=h',Ě:=tk }) :Ý ð A (Áb Ćc [.ref l]) Q E s:=by
 show callType_codes (Q₁:=λq N=>q=.ref Þ/\N={ s with ì:=ûa { cls:=.type ϐ,ċ:=.dict #[] } }) F.kt_called_dict (F.kt_typeCall_dict_1 _) F.entry_dict_init (kt_code_dict_new _ {rfl,rfl}) ?_;rintro q N ⟨rfl,rfl⟩;let d:(Đk).DictOf Ŷa Þ []:=ſm ä;show{īe,F.args_dict_init_2 _ _,?_};unfold Builtin.«dict.__init__»;show Ø ?_;unfold Builtin.Dict.selfAndRest;show Ø (wpAny_notOrdered_dict īe ?_);exact Ý _ _ (pure (Þ,[ė l])) _ _ _;show Ĥ ?_;exact Ý _ _ (ýl "dict.__init__" Þ Ϧc [] .none) _ _ _;unfold ýl;let t:=Ĵ I;let m:(Đk).get? l=À o:=Ĳ _ I;show Ø (öd (T := ĸ) {o,m,x} ?_);rw[Ó Ķa];refine Ø (z8q (o:=o) m x f G (am_miss_of_fast ϵm) Í Či (λp z k=>?_) Í);rw[Ó Ķa];let u:p.DictOf Ŷa Þ []:=d.CM λo e=>k _ _ e
 let y:p.get? l=À o:=k _ _ m;let K:p.IsList l Æa:={o,y,x,n,f}
 let c:Þ<p.objs.size:=by let{B,_,_,e,_}:=u;show Ĵ e
 exact Ý _ _ (pure () >>= _) _ _ _;show Ø ůh;show èd (s:={ s with ì:=p,Ě:=z }) K ?_;show Ĥ {ód DK _,ïd lC ?_};rw[ϒd DK _];let H:∀b i,Ē b=À i->(p.push { cls:=.type Ųm,ċ:=.fields #[.ref l,.int 0 0] }).get? b=À i:=λb i e=>Ĳ _ (k b i ϯf)
 refine z2c (l:=l) (its:=its) (A:=ϔ) Či (vG (ęb t)) (vG čg) (vG (ϱ (Ïi t c))) kvs 0 [] _ {_,ũ _ rfl,rfl,rfl} {o,H l o I,x,n,f} (by rw[š];show P) (λj g e=>?_) (u.push _) (by simpa using Y) λh' tk J X=>?_;let{v,S,b,C,rfl,U,B,e1,r}:=R j g e;show{_,by rw[š];show S,b,C,rfl,U,B,H b B e1,r};show{rfl,h h' tk J λb i e=>?_};let O:=Ĵ e;show X b i (vG (ϱ O)) (vG (ϱ (Ïi O c))) (H b i e)
section
variable{X:Cx}
theorem oX{i:Á ô}{σ:St}{H:Hp}{s:Ï}(I:zI X i σ H s):∀{kvs:Á ŧ} {vs:Á V} {its:Á Value},zx vs its->Ķ=Ć->(∀(j:Ã)(kv:zZ×V),kvs[j]?=À kv->∃b,vs[j]?=À (Įc b)/\xK X.K H b Ūh)->
  ∃ws:Á ŋa,KV kvs ws/\∀(j:Ã)(kw:zZ×Value),ws[j]?=À kw->∃v,its[j]?=À v/\EN ä v kw.1 kw.2
 | [],_,_,_,_,_=>{[],.nil,λj kw e=>by cases e}|kv::kvs,[],_,_,h,_=>by cases h|kv::kvs,_::vs,_::its,.cons r t,h,hp=>by
  let{ws,m,g}:=oX I t ŭa λj d e=>by let{b,e1,q}:=hp ϻ d Ϛa;show{b,by simpa using e1,q}
  let{b,e1,f}:=hp 0 kv rfl;cases e1;let{o,k,n,_}:=ϭ f;let{c,x,rfl,a,l}:=aG k;show{(kv.1,x)::ws,.cons {rfl,l} m,λj kw e=>?_};cases j with
  |Øa=>cases e;show{_,rfl,b,c,r,gH (P:=ú) (w:=X.w) a,n}|Ùa j=>let{v,e2,q}:=g j kw Ϛa;show{v,by simpa using e2,q}
def x34(K:Ñ):Á V->Hp->VK->È:=λc H Q=>∃a vs kvs,c=ða/\yu K H a vs/\Ķ=Ć/\(∀(j:Ã)(kv:zZ×V),kvs[j]?=À kv->∃b,vs[j]?=À (.ref b)/\xK K H b Ūh)/\∀p,H p=Æ->Q ž (ψ ĺm)
def z67(c:Ϝ=Ä):vV X Ćc (x34 X.K):=by
 intro J s σ H O L Q I r h;let{a,N,b,rfl,m,k,v,q}:=h;let{u,rfl,p}:=uD r;cases(show u=ė a from p);let{i,f,{o,n,B,y,g,d},F}:=Ϟ m;let{x,l,t}:=oX I f k v;have e:Ça=åb:=by rw[<-Ăa,k,Ĝa]
 refine z68 (óa c) B y g d e t (by rw[e,<-Ĝa];show F) λG z w E=>?_
 let j:(ħp).length<=â:=by let A:=Nn b [];rw[Ϝb]at A;omega
 let C:ŗo=Â:=by let:=I.big;rw[ώl];show vG œo
 show{.ref Þ,_,Ťa (a:=Þ) (o:=.dK ħp) (t':=z) E Đ (BD j C (l.merge .nil) w),rfl,q _ ϱc}
#print a
def WA:Á D->Ê (Á Ľ×Á D)
 | []=>À ([],[])|.tup [k,v]::r=>(u8 k).bind λk=>(WA r).bind λp=>À (k::p.1,v::p.2)|_=>Æ
def wy{α:Type}:Á Ľ->Á α->Á Ľ->Á α->Á Ľ×Á α
 |ks,ds,k::r,v::q=>wy ěe (wD ks ds k v) r q|ks,ds,_,_=>(ks,ds)
def Xv:Á D->Ê D
 | [.lst xs]=>(WA xs).bind λp=>À (.dic ím.1 ím.2)|_=>Æ
theorem rR:∀{ks:Á zZ}{us:Á V}{as:Á zZ}{vs:Á V},Ĉ=Ÿ->Ŧi=Ć->jZ ģo ąc=Şc.1.zip Şc.2/\Şc.1.length=Şc.2.length
 | [],[],as,vs,_,h=>{rfl,h}|k::ks,u::us,as,vs,h1,h2=>by let a:=rR (ks:=ks) (us:=us) (as:=wC as k) (vs:=wD as vs k u) æf (WP h2);show{?_,a.2};exact jZ (uZ ģo k u) ąc=_;rw[af h2];show a.1
theorem rQ{K:Ñ}{G:Hp}:∀{ks:Á zZ}{es:Á D}{us:Á V}{as:Á zZ}{ds:Á D}{vs:Á V},å K G es us->å K G ds vs->Ĉ=Ÿ->Ŧi=Ć->å K G Ĺh.2 Şc.2/\Ĺh.1=Şc.1
 | [],es,us,as,ds,vs,r1,r2,h1,h2=>by
  let e1:wy as ds [] es=(as,ds):=by unfold wy;rfl
  let e2:wy as vs [] us=(as,vs):=by unfold wy;rfl
  rw[e1,e2];show{r2,rfl}
 |k::ks,es,[],as,ds,vs,r1,r2,h1,h2=>by cases h1|k::ks,[],u::us,as,ds,vs,r1,r2,h1,h2=>by cases(show _=[]from r1)|k::ks,e::es,_::_,as,ds,vs,r1,r2,h1,h2=>by let{v,r,c,b,a}:=r1;cases c;show rQ (ks:=ks) (es:=es) (as:=wC as k) a (r2.put b) æf (WP h2)
theorem rP{α:Type}:∀{ks:Á zZ}{es:Á α}{as:Á zZ}{ds:Á α},Ŧi=ø->Ĺh.2.length<=ø+Ëp
 | [],es,as,ds,_=>by
  let e:wy as ds [] es=(as,ds):=by unfold wy;rfl
  rw[e];show ϰ _ _
 |_::_,[],as,ds,_=>by
  let e:∀k ks,wy as ds (k::ks) ([]:Á α)=(as,ds):=λ_ _=>by unfold wy;rfl
  rw[e];show ϰ _ _
 |k::ks,e::es,as,ds,h=>by let a:=rP (ks:=ks) (es:=es) (as:=wC as k) (ds:=wD as ds k e) (WP h);let:=Pe (ks:=as) (vs:=ds) (k:=k) (v:=e) h;exact(wy (wC as k) (wD as ds k e) ks es).2.length<=_;rw[ą];omega
theorem nF{K:Ñ}{G:Hp}:∀{xs:Á D}{vs:Á V}{ks:Á zZ}{ds:Á D},WA xs=À (ks,ds)->å K G xs vs->∃us,å K G ds us/\Ĉ=Ÿ/\Ĉ=Ć/\∀(j:Ã)(kv:zZ×V),ąc[j]?=À kv->∃b,vs[j]?=À (Įc b)/\xK K G b Ūh
 | [],_,_,_,h,r=>by cases h;rw[ϝp];show{[],rfl,rfl,rfl,λj kv e=>by cases e}|x::xs,_,ks,ds,h,r=>by
  let{v,A,rfl,m,o}:=r;unfold WA at h
  rw[Ŀq];rename_i k y E e;cases e;let{p,l,h}:=zJ h;obtain⟨⟨q,w⟩,g,h⟩:=zJ h;cases h;let{us,z,n,t,s}:=nF g o;let{b,C,rfl,f,{B,_,rfl,c,{d,_,rfl,a,u}},_}:=m;cases(show _=[]from u);refine⟨d::us,{d,us,rfl,a,z},by rw[ą,ą,n],by rw[ą,ą,t],λj kv e=>?_⟩;cases j with
  |Øa=>cases e;show{b,rfl,?_};rw[<-Zd l c];show f|Ùa j=>let{i,e1,e2}:=s j kv Ϛa;show{i,by simpa using e1,e2}
  cases h
def AN{X:Cx}{e:Õ}{fs:FA}{p pos:Pos}(f:Ϝ=Ä)(P:Gl X ϐ)(L:õ ϐ=Æ)(hv:Ŵ ϐ=À Ćc)(B:SA X [e] fs)(C:Î ϴ q12):SF X Ϝl (eL Xv fs):=by
 let{t,F,k}:=B.h;refine{{_,(U6 (z67 f) P L hv {F} Í Í ùm).h,λ{U S G H τ σ d Q} E c q=>?_}};let{ds,K,c}:=zJ c;show k E K λvs T z g y=>?_
 unfold Xv at c
 split at c;rename_i Y;obtain⟨⟨ks,es⟩,A,c⟩:=zJ c;cases c;let{v,rfl,a,r,rfl,w,n,l}:=qH y;let{us,u,i,s,N}:=nF A n;let{O,R}:=rR (ks:=ks) (us:=us) (as:=[]) (vs:=[]) i rfl;let{J,o}:=rQ (ks:=ks) (as:=[]) (ds:=[]) (vs:=[]) u rfl i rfl;refine{a,r,ħg us,rfl,ux g.gh w,by rw[đa,i,þa,<-i,s],λj I e=>?_,λp m=>?_};let{b,e1,e2}:=N j I e;show{b,e1,uR g.gh e2};show q p _ _ (Œd (ϑa g.gh m)) (Æj m) (ši m) {Šm.2,?_,?_,J,?_};exact zd z p (.dK (jZ [] ąc)) p=À (.dK (ĺh.1.zip Šm.2));rw[yo,o];show ŋ (λx=>À (HO.dK x)) O;exact ĺh.1.length=_;rw[o];show R;let:=rP (ks:=ks) (es:=es) (as:=[]) (ds:=[]) rfl;have e1:Ëp=ſ:=by rw[<-ϻi,<-i,s]
 rw[Ĩe]at e1;exact ĺh.2.length<=â;simp only[Ϝb,š]at this;omega;cases c
open ϑ ăg þi
section
variable{X:Cx}{e o a b c:Õ}{f fo:FE}{x:Ç}{xp p pos Ű Ϡ:Pos}
nonrec def Wc:Á D->Ê (Á Ç)
 | []=>À []|.str z::r=>(Wc r).bind λa=>À (z::a)|_=>Æ
def Ve:D->D->Ê D
 |.str sep,.lst xs=>(Wc xs).bind λa=>if(źb (·.length)).sum+Èa*ĉc<=yb then À (.str (glued sep a))else Æ|_,_=>Æ
theorem z1s{K:Ñ}{G:Hp}:∀{xs:Á D}{vs:Á V}{ts:Á Ç},Wc xs=À ts->å K G xs vs->vs=âb Żb
 | [],_,_,h,r=>by cases h;show r|x::xs,_,ts,h,r=>by
  let{v,f,rfl,d,a}:=r;unfold Wc at h
  rw[Ŀq];rename_i z g e;cases e;let{b,c,h}:=zJ h;cases h;rw[ġ,(show v=_/\_ from d).1,z1s c a];cases h
def AJ(J:SE X o fo)(N:SB X e f)(b:Î (éa o "join" Ù Ŝb=Ė o Ù) q12)(c:Î ča q12)(k:Î ϴ q12) :SE X (ν (.Attribute o "join" Ű)) (e2 Ve fo f):=by
 let{T,z,I}:=J.h;let{te,A,L}:=(wn N wp k).h;refine{{_,(QV Éf PySem.F.slot_str_join PySem.F.type_str_join y4b {z} {A} b c øm îd).h,λ{R O G H τ σ d Q} E a q=>?_}};let{x,C,a}:=zJ a;let{y,K,a}:=zJ a;show I E C λv P S m p=>?_
 cases x with
 |str sep=>
  let{rfl,Y}:=p;refine{rfl,L (Àa m) (ds:=[y]) (by unfold zA;rw[K];rfl) λU Z H2 t B=>?_};let{w,rfl,j}:=qH B;cases y with
  |lst xs=>
   let{g,i,a}:=zJ a;let{u,vs,rfl,n,r,_}:=j;let s:=z1s i r;subst s;by_cases cc:(g.map (·.length)).sum+âa*ĉc<=yb;rw[Ó cc]at a;cases a;let l:(g.map (·.length)).sum+âa*ĉc<=â:=by rw[Ŧ];show cc
   show{sep,u,g,rfl,rfl,n,l,q _ _ _ (m.trans t) {rfl,đ (Ši sep g) l}};rw[Ô cc]at a;cases a
  |_=>cases a
 |_=>cases a
nonrec def Of(i:Å):Ð:=decide (Ąd<1920)
def Tx:Á D->Ê D
 | [.int i]=>match Of i with
  |Ä=>À Čn|Â=>Æ
 | [.str z]=>À Ϥa|_=>Æ
def iR:vV X ňa ύj:=z6j.or (by intro b s σ H xs a Q I r h;let{z,rfl,q}:=h;rw[Åq];show PySem.P.str_of_str {.str z,H,I,{_,rfl},q})
def x7c{i:Å}(h:Ąd<1920):(Ϣb (ĭd i)).length<=â:=w18 (y1s h)
def oO{K:Ñ}:VP K ύj Tx:=λG H e f d Q s r a q=>by
 unfold Tx at a
 rw[ϊp];rename_i i;let{v,rfl,b}:=qH r;cases c:Of i with
 |Â=>rw[c]at a;cases a|Ä=>rw[c]at a;cases a;cases(show v=_ from b);let h:=ő c;show .inl {i,rfl,h,q _ _ _ Õa {rfl,x7c h}}
 rename_i z;cases a;let{v,rfl,b}:=qH r;let{rfl,l}:=b;show .inr {z,rfl,q _ _ _ Õa {rfl,l}};cases a
def Mw:Ŵ ϐ=À Ćc:=by rw[ţp]
def WQ(i:Ã)(k v:FE):FS:=λσ=>(v σ).bind λy=>match σ[i]? with
 |À Ϣl=>(ůj).bind λx=>match x with
  |.int j=>(ĝo).bind λn=>À (υb åp)|_=>Æ
 |_=>Æ
theorem Ðg{K:Ñ}{G:Hp}{d:D}{v:V}(hv:zh K G d v):∀{ds:Á D}{vs:Á V}(n:Ã),å K G ds vs->å K G (úg n d) (vs.set n v)
 | [],_,_,r=>by rw[ϝp];rfl|d'::ds,_,0,r=>by let{u,b,rfl,c,a}:=r;show{v,b,rfl,hv,a}
 |d'::ds,_,n+1,r=>by let{u,b,rfl,c,a}:=r;show{u,_,rfl,c,Ðg hv n a}
def Dw(O:QE X īa Űd)(hk:SE X k fk)(hv:SE X v fv)(r:Î Łi q12)(B:Î (ϒh Ϧe v ϐc Ù=pure Â) q12)(o:Î (ϓh Ϧe v Ù=pure Æ) q12)(L:Î ((åe Ϧe Ù).map (·.2)=[Ðc Ĩl Ù]) q12):SS X Åm (WQ i fk fv):=by
 let{tk,S,s}:=hk.h;let{tv,A,F}:=ĵc;show{{_,rG A (rj O {S} z0v r).h B o L,λ{Y T G H τ σ fl E} K a q=>?_}};let{y,P,a}:=zJ a;show F K P λw U Z R m=>?_
 rw[ϊp];rename_i ds f;let{I,N,a}:=zJ a;cases I with
 |int j=>let{n,p,a}:=zJ a;cases a;let c:=öa R;let{C,e,g,z,Q,t,d,l}:=c.ow _ _ f;show{_,e,s c N λu G2 H2 b J=>?_};cases(show u=_ from J);refine{C,Q,j,n,rfl,rfl,b.h _ _ t,by rw[ăa];show p,?_};show q _ _ _ ((c.go b).MI f e {_,yo,Ðg (m.mono b.g) n (d.mono b.g),by rw[ņa];show l})
 |_=>cases a
 cases a
#print a
#print L3
namespace L2
open ģ ĺ Ĭ
def E9(K:Ñ)(a:Ì):It:=
  ⟨λi H=>∃xs x,yu K H a xs/\xs[i]?=À x,
   λi H v b=>∃p,H p=Æ/\v=.ref p/\∀xs,yu K H a xs->∃x,xs[i]?=À x/\b=zd H p Žf,
   λi H=>∃xs,yu K H a xs/\æ<=i⟩
def w1x{P:ï}{w:è}{K:Ñ}{u:Á Õ}{R:Ã}{pos:Pos}(a e it:Ì)(l:e≠it) :j_ P w K (.Tuple u R pos) ëj [e,it] e (λi h=>(∃old,IsEnum h e it (i:Å) old)/\Æi it a i) where
 mem:=by simp
 obj:=λi h st c b=>by obtain⟨⟨old,g⟩,⟨o2,j,_,d2⟩⟩:=st;simp only[Ųa,Īa,ža]at b;rcases b with rfl|rfl;show{_,g,λv q=>nomatch q};show{_,j,λv q=>by rw[d2]at q;cases q}
 Ča:=λi h h' st k=>by obtain⟨⟨old,g⟩,j⟩:=st;show{{old,k e ê _ g},j.at λo x=>k it ê o x}
 ϕa:=by
  rw[ώp];let{xs,x,B,ex}:=hg;rw[ĵq];let{y,O,U}:=G.get ex;let d:ķo[i]?=À y:=by rw[ðd];show O
  let r:e<Þ:=Ĵ g;let Q:it<Þ:=by let{o,z,_}:=j;show Ĵ z
  show wpAny_pyNext_enum_item g j pl d l λZ F m ht1 hz1 Y=>?_
  show{_,rfl,wpAny_letOwnedTupleGo_enum (s:={ s with ì:=Z,Ě:=Ď+1 }) F λA he2 f=>?_}
  replace f:Ĝb e Z A:=f
  let hTs:Ē Þ=Æ:=by
   cases q:Ē Þ with
   |Æ=>rfl|À o=>show ß őe Ãa
  let t:H Þ=Æ:=Ĕb Đ;let tup:Ĳg Þ=À { cls:=.type ŷ,ċ:=.seq #[.int i Ď,y] }:=Èj _ _ (ęb r) ht1
  let R:∀c o,c ∉ [e,it]->Ē c=À o->Ĳg c=À o:=λc o b z=>by simp only[Ųa,Īa,ža,Ħg]at b;show Èj _ _ b.1 (Y c o b.1 b.2 z)
  let N:xc ú X.w (zd H Þ Žf) A Þ Žf:={Éh,[.int i Ď,y],.cons {_,rfl} (.cons U .nil),{_,tup,rfl,_,rfl}};show{.ref Þ,zd H Þ Žf,I.CL (tk:=Ď+1) C R hTs t N,rfl,{Þ,t,rfl,λxs' d=>?_},{{y,?_},m.at λo z=>Èj _ _ l.symm z},λc b=>?_};rw[I.MF d B];show{x,ex,rfl};rw[show((i+1:Ã):Å)=(i:Å)+1 from rfl];show he2;rw[yH];show(C c b).1;intro q
  let n:c<Þ:=by simp only[Ųa,Īa,ža]at b;rcases b with rfl|rfl;show r;show Q
  rw[q]at n;show ß n Ãa
 done:=by
  rw[ώp];let{xs,B,hend}:=hg;rw[ĵq]
  let d:ķo[i]?=Æ:=by rw[ðd];show ĉb (by let:=G.length;omega)
  refine wpAny_pyNext_enum_end (by show óa b) g j pl d λZ S=>?_
  show{rfl,I.but (tk:=Ď) C λc ob p eb=>?_};simp only[Ųa,Īa,ža,Ħg]at p;show S c ob p.2 eb
 Ľb:=λ_ _ _ _ _ st h=>by obtain⟨⟨old,g⟩,_⟩:=st;show Ĉm g h
section
variable{X:Cx}
def y1i(K:Ñ)(c:TA):TI:=λσ H R=>c σ H λd b=>∃a xs,d=ða/\yu K b a xs/\R ëj b
def x1i{a:Õ}{r:TA}{p pos:Pos}{e:Á Õ}{x:Ã}{L:Pos}(G:Gl X Ϡb)(A:õ Ϡb=Æ)(w:PA X [a] r)(y:Î Ϝg q12) :PI X (.Tuple e x L) ϙl (y1i X.K r):=by
 intro l s σ H R I h;show Śg (WC I G A boot_enumerate (Ϗd (zt (w pos l s σ H _ I h) λE b ⟨O,i,f,t,N⟩=>?_) (by rw[y];rfl) rfl));let{m,P,rfl,B,q}:=N;let{u,rfl,v}:=uD t;cases(show u=ė m from v);let{E,_,C,_}:=f.list B;show call_enumerate_list C.isList λj g o J F=>?_
 let z:zI X l σ i { b with ì:=j }:=f.kept (t':=Īg) F;show Ĉm (s:={ b with ì:=j }) g ?_;generalize hn:ŉm=n at g o J;refine{n+1,[n+1,n],_,_,i,rfl,z,w1x m Ŋ n (vG É),{{_,g},o},λc k=>?_,q}
 let d:ŉm<=c:=by rw[hn];simp only[Ųa,Īa,ža]at k;rcases k with rfl|rfl;show ϰ _ _;show Ϙ _
 show f.ZE d (ĥi d)
#print a
#print L2
namespace L3
open ģ ĺ Ĭ L2
nonrec def ŵa(xs:Á D):Á D:=Íb (λ(i:Ã) x=>Ċa ϐg) (Ía æ) xs
def pp(a:FE):FA:=λσ=>(Ϲ).bind λd=>match d with
 |.lst xs=>À Ôg|_=>Æ
def Yr(xs:Á D):(Ôg).length=æ:=by simp[ŵa]
theorem QN(xs:Á D)(i:Ã):Ôg[i]?=(xs[i]?).map λx=>Ċa ϐg:=by unfold ŵa;rw[Ìf];by_cases h:i<æ;rw[ÿh h,ğ h];rfl;rw[ĉb ŭa,ĉb É];rfl
section
variable{K:Ñ}{G H:Hp}
def z84(g:yu K G a vs)(f:å K G xs vs):jK K ëj G Ôg where
 go:=λi e H d b c=>by rw[Yr]at c;let{v,e1,_}:=f.get ďg;show{vs,v,ux ĕj g,e1}
 uh:=λi e H x q d b c y=>by let{p,h,rfl,k}:=y;let{v,e1,rfl}:=k vs (ux ĕj g);let{m,l,o}:=f.at e1;refine{zd e p ώo,.tup [.int (i:Å),m],ıb b h,by rw[QN,l];rfl,?_};let j:yN G (zd e p ώo):=ϧb (uQ (b.free h) _);show{p,ϋk,rfl,żb yo,{_,_,rfl,rfl,{v,_,rfl,Ľj j,rfl}},ϒa (n:=2) Í}
 Š:=λi e H d b c=>by rw[Yr]at c;show{vs,ux ĕj g,by rw[Ĝa];show c}
#print a
def Di(w:Gl X Ϡb)(j:õ Ϡb=Æ)(n:SE X a fa)(d:Î ϋc q12):SI X Ãm ϙl (pp fa):=by
 let{t,y,k}:=(zB n zL d).h;show{{_,x1i w j y Ţj,λ{C A G H τ σ ds R} K b q=>?_}};let{x,m,b}:=zJ b;cases x<;>first|(cases b;done)|skip
 cases b;rename_i u;refine k K (ds:=[.lst u]) (by unfold zA;rw[m];rfl) λF B E f g=>?_
 let{v,r,rfl,l,o}:=g;cases(show r=[]from o);let{s,c,rfl,e,z,i}:=l;show{s,c,rfl,ux f.gh e,q _ _ _ f (by rw[Yr];show i) (z84 e z)}
#print L3
namespace L2
open ģ ĺ ϑ Ĭ
nonrec def Vq(a:Å):Á Å->Á Å
 | []=>[a]|b::r=>if a<=b then a::b::r else b::Vq a r
def Õc:Á Å->Á Å
 | []=>[]|a::r=>Vq a (Õc r)
theorem NH(a:Å):∀l:Á Å,(Vq a l).Perm (a::l)
 | []=>ϥd _|b::r=>by
  unfold Vq
  split;show ϥd _;show((NH a r).cons b).trans (List.Perm.swap a b r)
theorem Ċc:∀l:Á Å,(Õc l).Perm l
 | []=>ϥd _|a::r=>(NH a _).trans ((Ċc r).cons a)
theorem mh(a:Å):∀{l:Á Å},l.Pairwise (·<=·)->(Vq a l).Pairwise (·<=·)
 | [],_=>by simp[Vq]|b::r,h=>by
  let{e,f}:=ϝd h;unfold Vq
  split;rename_i d
  show Ēl {λx c=>by rcases ň c with rfl|c;show d;show ĕd d (e x c),h};rename_i d;show Ēl {λx c=>?_,mh a f};rcases ň ((NH a r).mem_iff.mp c)with rfl|c;omega;show e x c
theorem NM:∀l:Á Å,(Õc l).Pairwise (·<=·)
 | []=>ĕh|a::r=>mh a (NM r)
theorem AS:∀{a b:Á Å},a.Perm b->a.Pairwise (·<=·)->ńo (·<=·)->a=b
 | [],b,p,_,_=>(List.nil_perm.mp p).symm|x::a,[],p,_,_=>by cases p.length_eq|x::a,y::b,p,ha,hb=>by
  let{i,f}:=ϝd ha;let{h,g}:=ϝd hb
  let e:x=y:=by let d:x∈y::b:=p.mem_iff.mp Īb;let c:y∈x::a:=p.mem_iff.mpr Īb;rcases ň d with rfl|d;rfl;rcases ň c with e|c;show ťd;show Int.le_antisymm (i y c) (h x d)
  subst e;rw[AS (List.perm_cons x |>.mp p) f g]
theorem z2j:∀{ns:Á Å}{its:Á Value},zx ēa its->Ŷb its ns
 | [],_,.nil=>.nil|n::ns,_,.cons r rr=>by let{t,rfl}:=r;show .cons _ _ (z2j rr)
def mj{ns:Á Å}{its:Á Value}(h:Ŷb its ns):zx ēa its:=by
 induction h with
 |nil=>show .nil|ó _ _ _ ih=>show .cons {_,rfl} ih
section
variable{X:Cx}
def z6i:vV X ĥf (λxs H Q=>∃p ns,xs=ēc/\yu X.K H p ēa/\ŵ<64/\∀l,H l=Æ->Q Ϧc ϊn):=by
 intro z s σ H xs A Q I r h;let{p,ns,rfl,k,y,q}:=h;let{u,rfl,v}:=uD r;cases v;let{d,i,t,j}:=Ϟ k;let b:=åb;rw[ç]at b;refine sorted_ints t.isList (z2j i) É λa f m x o=>?_
 let e:f=Õc ns:=AS (őd (Ċc ns).symm) o (NM ns);subst e;let{c,n}:=sortedAll_at ä d a;let g:(Õc ns).length=ŵ:=(Ċc ns).length_eq;show{.ref Ġa,_,Ťa (t':=Ď) (h':=sortedAll ä d a) (λ_ _=>sortedAll_old) (ĝf _) (show xc ú X.w _ _ _ Ék from{?_,ĭe,c,mj m,?_}),rfl,q _ ļn};rw[ç,g];exact _<=â;rw[ç]at j;show j;rw[šl];show n
#print a
#print L2
namespace L3
open ģ ĺ Ĭ L2
def iO:Ŵ Ťb=À ĥf:=by rw[ţp]
nonrec def ϭa:Á D->Ê ϱf
 | []=>À []|.int i::r=>(ďj).bind λa=>À Űj|_=>Æ
theorem mq:∀ns:Á Å,ϭa ϡ=À ns
 | []=>rfl|n::ns=>by exact(ϭa ϡ).bind _=_;rw[mq ns];rfl
theorem mo:∀{ds:Á D}{ns:Á Å},ϭa ds=À ns->ds=ϐa ý
 | [],_,h=>by cases h;rfl|d::ds,ns,h=>by
  unfold ϭa at h
  rw[Ŀq];rename_i i r e;cases e;let{b,a,h}:=zJ h;cases h;rw[mo a];rfl;cases h
theorem sV{K:Ñ}{G:Hp}:∀{ns:Á Å}{vs:Á V},å K G ϡ vs->vs=ϐa Íd
 | [],_,r=>r|n::ns,_,r=>by let{v,c,rfl,b,a}:=r;rw[sV a,show v=Íd n from b];rfl
theorem mi{K:Ñ}{G:Hp}:∀ns:Á Å,å K G ϡ ēa
 | []=>rfl|n::ns=>{.int n,_,rfl,rfl,mi ns}
def Hf:Á D->Ê D
 | [.lst xs]=>(ϭa xs).bind λa=>if Èa<64 then À Ϟl else Æ|_=>Æ
def x69(A:Gl X Ťb)(y:õ Ťb=Æ)(r:SA X [e] fs)(s:Î ϴ q12):SF X ϛl (eL Hf fs):=by
 let{t,u,k}:=r.h;refine{{_,(DR z6i A y iO {u} Í Í öm).h,λ{F B G H τ σ d Q} E b q=>?_}};let{w,x,b}:=zJ b;show k E x λK C I c n=>?_
 rcases w with _|⟨x_,r_⟩;cases b
 cases x_<;>first|(cases b;done)|skip
 cases r_<;>first|(cases b;done)|skip
 rename_i z;let{m,o,b}:=zJ (show(ϭa z).bind _=À d from b)
 rw[ĝq];rename_i g;cases b;let{v,rfl,a,J,rfl,i,j,l}:=qH n;rw[mo o]at j l;rw[sV j]at i;show{a,m,rfl,ux c.gh i,g,λp f=>q p _ _ Ým (Ëg f) (Ϝf f) {_,yo,mi _,?_}};rw[ç,(Ċc m).length_eq];rw[ç]at l;show l;cases b
nonrec def U9(i:Ã)(e:FE):FS:=λσ=>match σ[i]? with
 |À (À (Ä,.lst xs))=>(Çd).bind λy=>match y with
  |.lst ys=>if æ+Òa<=yb then À (υb Ôj)else Æ|_=>Æ
 |_=>Æ
nonrec def Tu:D->D->Ê D
 |.lst x,.int k=>if 0<=k/\k<=1000000/\Ça*ϛ<=yb then À (.lst (Ŗ ϛ x).flatten)else Æ|_,_=>Æ
def z8a(h:Tu x y=À d):∃xs k,x=.lst xs/\y=.int k/\(0<=k/\k<=1000000/\æ*ϛ<=yb)/\d=.lst (Źn).flatten:=by
 unfold Tu at h
 rw[üq];rename_i xs k;by_cases c:0<=k/\k<=1000000/\æ*ϛ<=yb;rw[Ó c]at h;cases h;show{_,_,rfl,rfl,c,rfl};rw[Ô c]at h;cases h;cases h
theorem Êj{K:Ñ}{G:Hp}{ds:Á D}{vs:Á V}(r:å K G ds vs):∀k:Ã,å K G (Ŗ k ds).flatten (Ŗ k vs).flatten
 |0=>rfl|k+1=>by rw[ϓb,íc,ϓb,íc];show Ľd (Êj r k)
section
variable{X:Cx}{a b:Õ}{f fa fb:FE}{x:Ç}{xp pos Ű Ϡ:Pos}{e:Õ}
def x45(j:SF X e f)(i:Î ϴ q12):∃t,PA X [e] t/\∀{G0 H0 G H:Hp}{τ:yD}{σ:St}{d:D}{Q:Á V->Hp->È},yJ X.K ć G0 H0 G H τ σ->f τ=À d->(∀p G' H',zW G H G' H'->H p=Æ->G' p=Æ->vh X.K G' H' d p->Q ēc H')->t σ H Q:=by let{t,p,k}:=j.h;show{_,WK p U2 i,λE m q=>k E m λp a b c g l o=>?_};show q p a b c g l o
def Ag(J:QE X īa Űd)(O:SF X e f)(b:Î (éa īa "extend" Ù Ϣh=Ė īa Ù) q12)(d:Î ča q12)(v:Î ϴ q12) :SS X (Κf (.Attribute īa "extend" Ű)) (U9 i f):=by
 let{t,p,k}:=x45 O v;refine{{_,(rn (QV õl PySem.F.slot_list_extend PySem.F.type_list_extend y49 J {p} b d (by rw[ų,v];rfl) îd) rfl).h,λ{R P G H τ σ B E} K a q=>?_}};unfold U9 at a
 rw[ϊp];rename_i m w;let{y,N,a}:=zJ a;cases y with
 |lst ys=>
  change (if ħb+Òa<=yb then À (Fl.nx (τ.set i (À (Ä,.lst (m++ys)))))else Æ)=À B at a
  by_cases c:ħb+Òa<=yb;rw[Ó c]at a;cases a;let{I,s,g,z,A,u,r,l}:=K.ow _ _ w;show{_,s,.inl {rfl,A,Ĺb u},k K N λp Q S j T U o=>?_};let{L,C,n,_}:=o;refine{I,p,A,L,rfl,rfl,j.h _ _ u,C,by rw[ſ,Ĩe,Ŧ];show c,?_};show q _ _ _ ((Čj).MI w s {_,yo,(ãa j.g).append n,?_});rw[Ŧ,î];show c;rw[Ô c]at a;cases a
 |_=>cases a
 cases a
def z10(t:SF X a fa)(C:SE X b fb):SF X (.BinOp a .Mult b pos) (e2 Tu fa fb):=by
 let{T,w,I}:=t.h;let{tb,r,s}:=C.h;show{{_,ox x0a w r,λ{L J G H τ σ d Q} E i q=>?_}};let{x,A,i}:=zJ i;let{y,B,i}:=zJ i;show I E A λp K N m O P o=>?_
 show s (Àa m) B λu R S j z=>?_
 let{U,k,rfl,rfl,c,rfl}:=z8a i;let{F,v,l,_}:=o;cases(show u=.int k from z);let e:=m.trans j;refine{p,k,F,rfl,rfl,j.h _ _ v,by omega,by omega,by rw[Ăa,Ŧ];show c.2.2,λn f=>?_};show q n _ _ (İb (ϑa Ðd f)) (e.h.free f) (Īf f) {_,yo,Êj (Łj j.g) _,?_};rw[Ŧ,nM,ūn];show c.2.2
#print a
nonrec def y5d(τ:yD):Ð:=τ.all λs=>match s with
 |À (Ä,_)=>Â|_=>Ä
#print L3
namespace L2
open ģ ĺ ϑ Ĭ
section
variable{X:Cx}
nonrec def NJ:V->Ð
 |.str _=>Ä|_=>Â
def Ox(K:Ñ):R2:=λx y H Q=>∃p xs r ys,x=.ref r/\(yu K H r ys\/xK K H r ys)/\y=.ref p/\xK K H p xs/\Ϲc NJ=Ä/\Q á H
theorem z1r(d:(∃its,ĩf r its)\/∃its,óc r its)(b:ķa<ϓ):∀{xs:Á V}{us:Á Value},zx xs us->Ϲc NJ=Ä->∀u∈us,Ġb A s u ìj Â
 |_,_,.nil,_=>λu b=>by cases b|y::xs,u::us,.cons h t,f=>λg a=>by
  rw[ų,ě]at f;rcases ň a with rfl|a;cases y with
  |str z=>let{e,rfl}:=h;rcases d with⟨its,c⟩|⟨its,c⟩;show SeqAt.EqAt.str_list z e c b;show SeqAt.EqAt.str_tuple z e c b
  |_=>show ß f.1 ř
  show z1r d b t f.2 g a
def x02(l:Ża+1<ϓ):xF X ϒc (Ox X.K):=by
 intro o s σ H x y v u Q I k j h;let{p,t,r,B,rfl,c,rfl,g,n,q}:=h;cases k;cases j;let{a,e,i,z}:=ϭ g
 let m:(∃a,ĩf r a)\/∃a,óc r a:=by rcases c with c|c;let{d,_,b,_}:=Ϟ c;show .inl {_,b.isList};let{d,_,b,_}:=ϭ c;show .inr {_,b}
 refine ŋm (λ_=>Â) i (λw f=>z1r m l e n w ïf) {.bl _,H,I,rfl,?_};rw[show(Ôe λ_=>Â)=Â by simp];show q
#print a
#print L2
namespace L3
open ģ ĺ Ĭ L2
nonrec def LM(a:Á D):Ð:=a.all λy=>match y with
 |.str _=>Ä|_=>Â
def NG:D->Ê D
 |.tup ys=>if LM ys=Ä then À á else Æ|_=>Æ
def HU(x y:D):Ê D:=match x with
 |.lst _=>NG y|.tup _=>NG y|x=>xI x y
section
variable{X:Cx}{K:Ñ}
theorem si:∀{ys:Á D}{vs:Á V},å K H ys vs->LM ys=Ä->vs.all NJ=Ä
 | [],_,r,_=>by rw[ϝp];rfl|y::ys,_,r,h=>by
  let{v,c,rfl,b,a}:=r;unfold LM at h;rw[ų,ě]at h;rw[ų,si a h.2,ϝh];cases y with
  |str z=>rw[(show v=.str z/\_ from b).1];rfl|_=>show ß h.1 ř
def x01(a:Ża+1<ϓ):xF X ϒc (λx y H Q=>Yy X.K Â x y H Q\/Ox X.K x y H Q):=(pE a).or (x02 a)
def y7y:g_ K (λx y H Q=>Yy K Â x y H Q\/Ox K x y H Q) HU:=λH x y u v d Q m o f=>by
 let g:∀(r:Ì)(i:Á V),u=.ref r->(yu K H r i\/xK K H r i)->NG y=À d->∃k,d=.bl k/\àk:=λr i s p f=>by
  cases y with
  |tup zs=>have f:(if LM zs=Ä then À (ů Â)else Æ)=À d:=f;by_cases c:LM zs=Ä;rw[Ó c]at f;cases f;let{b,h,rfl,w,t,_}:=o;show{Â,rfl,λq=>.inr {b,h,r,i,s,p,rfl,w,si t c,q}};rw[Ô c]at f;cases f
  |_=>cases f
 let n:xI x y=À d->∃k,d=.bl k/\àk:=λf=>by let{k,e,z}:=pB H x y u v d Q m o f;show{k,e,λq=>.inl (z q)}
 cases x with
 |lst xs=>let{a,h,l,j,_,_}:=m;show g a h l (.inl j) f
 |tup xs=>let{a,h,l,j,_,_}:=m;show g a h l (.inr j) f
 |_=>show n f
#print a
nonrec def Xr:Á D->Ê (Á Ð)
 | []=>À []|.bl b::r=>(Xr r).bind λa=>À (b::a)|_=>Æ
theorem iK:∀bs:Á Ð,Xr ŉf=À bs
 | []=>rfl|b::bs=>by exact(Xr ŉf).bind _=_;rw[iK bs];rfl
theorem iJ:∀{ds:Á D}{bs:Á Ð},Xr ds=À bs->ds=ŋj ů
 | [],_,h=>by cases h;rfl|d::ds,bs,h=>by
  unfold Xr at h
  rw[Ŀq];rename_i b r e;cases e;let{a,c,h}:=zJ h;cases h;rw[iJ c];rfl;cases h
theorem sZ{K:Ñ}{G:Hp}:∀{bs:Á Ð}{vs:Á V},å K G ŉf vs->vs=ŋj V.bl
 | [],_,r=>r|b::bs,_,r=>by let{v,d,rfl,c,a}:=r;rw[sZ a,show v=V.bl b from c];rfl
def Xu:Á D->Ê D
 | [.lst xs]=>(Xr xs).bind λa=>À Ům|_=>Æ
def DC{K:Ñ}:VP K (sA K) Xu:=λG H f k d Q s r b q=>by
 rcases f with _|⟨x_,r_⟩;cases b
 cases x_<;>first|(cases b;done)|skip
 cases r_<;>first|(cases b;done)|skip
 rename_i i;let{h,g,b}:=zJ (show(Xr i).bind _=À d from b);cases b;let{v,rfl,a,j,rfl,c,e,l}:=qH r;rw[iJ g]at e;rw[sZ e]at c;show{a,h,rfl,c,q _ _ _ Õa rfl}
#print L3
namespace L2
open ģ ĺ ϑ Ĭ
nonrec def Ïc:Value->zZ
 |.int i _=>.inl i|.str x _=>.inr x|_=>.inl 0
#print L2
namespace L3
open ģ ĺ Ĭ L2
structure z4x(K:Ñ)(H0 G H:Hp)(p:Ì)(qs:Á Ì)(nds:Á Éc):È where
 hp:H p=À (Γ (qs.map Įc))
 p0:H0 p=Æ
 pg:G p=Æ
 np:p ∉ qs
 nd:qs.Nodup
 ln:nds.length=Ϲo
 el:∀(j:Ã)(q:Ì),qs[j]?=À q->∃ds vs,nds[j]?=À ds/\H q=À Ág/\H0 q=Æ/\G q=Æ/\å K G ds vs/\ø<=â
structure fL(K:Ñ)(n:Ã)(G0 H0 G H:Hp)(τ:yD)(σ:St)(i:Ã)(nds:Á Éc):È where
 env:yJ K n G0 H0 G H τ σ
 no:y5d τ=Ä
 w67:∃p qs,σ[i]?=À ãi/\z4x K H0 G H p qs nds
inductive NF where
 |nx (nds:Á Éc) (τ:yD)
 |rt (d:D)
abbrev z4v:=Á Éc->yD->Ê NF
def z4w(K:Ñ)(n:Ã)(b a:Hp)(E:ui)(i:Ã):NF->È
 |.nx nds τ=>∀σ G H,fL K n b a G H τ σ i nds->E.nx σ H|.rt d=>∀v G H,zW b a G H->zh K G d v->E.rt v H
structure NS(X:Cx)(i:Ã)(st:Ú)(f:z4v):È where
 h:∃t,PS X st t/\∀{G0 H0 G H:Hp}{τ:yD}{σ:St}{nds:Á Éc} {fl:NF} {E:ui},fL X.K ć G0 H0 G H τ σ i nds->f nds τ=À fl->z4w X.K ć G0 H0 E i fl->t E σ H
#print L3
namespace L2
open ģ ĺ ϑ Ĭ
section
variable{Ī:ï}{w:è}{A:ā}{E:Value->Ï->È}
def z6s{s:Ï}{a:Ì}{kvs:Á ŋa}{ep:Ã}{Q:Á Value->Ï->È}(t:ŧb=Æ)(lo:êa=Â)(m:ϔh Ŷa a kvs ep)(q:Ķ<=â)(h:∀h' tk vs,Ć=Ķ->(∀(j:Ã)(v:Value),vs[j]?=À v->∃k x,kvs[j]?=À (k,x)/\(Ŷa).is k v=Ä)->Þ<h'.objs.size->(∀b ob,Ē b=À ob->ĩ b=À ob)->Q vs { s with ì:=h',Ě:=tk }):Ý ð A (collect ŭ) Q E s:=by
 unfold collect;show Ø (wpAny_runValue (ïd (entry_proto_collect') ?_));exact Ý _ _ (newList [] >>= λl=>again (.builtin "list.__iadd__" {[l,.ref a],[]})) _ _ s;refine Ø (ûh (Ĥ {Code.quiet_builtin _ Ő,ïd (entry_list_iadd') ?_}));let i:a<Þ:=m.lt_size;let f:Þ≠a:=vG (ęb i);rw[ϒd Ő]
 refine W.kdl_extend (R:=λr n=>match r with
  |.ok Ēe=>Ý ð A (match v with
   |ė a=>(do
    let o <-load a
    match ĸa with
    |.seq xs _=>pure xs.toList|_=>Èo Ém)
   |_=>Èo Ém) Q E n
  |.ok _=>ÿ|.error e=>E e n) (s:={ s with ì:=ûa Ŏh }) (W.kdl_dict (knd:=xN Ī w) (kvs:=kvs) (ep:=ep) lo) ġo (m.push _) Þ f f ġb 0 đd (λh' tk c u p g d=>?_) q
 show Ø (Ķo g ?_);exact Ý _ _ (pure c.toList) _ _ _;refine Ĥ (h h' tk c.toList (by rw[Ū];show d.1) (λj v e=>d.2 j v (by rw[<-Ćb];show e)) ĝj λb ob e=>?_);show p b ob (vG ϑi) ϯf
def y1u(vs:Á Value)(kvs:Á ŋa)(ns:Á Å)(b:Ć=Ķ)(a:ϴb (·.1)=ϐa Ϭ)(c:∀(j:Ã)(v:Value),vs[j]?=À v->∃k x,kvs[j]?=À (k,x)/\(Ŷa).is k v=Ä):Ŷb vs ns:=by
 revert kvs ns
 induction vs with
 |nil=>
  intro kvs ns b a _;cases kvs with
  |nil=>
   cases ns with
   |nil=>show .nil|ó n ns=>cases a
  |ó _ _=>cases b
 |ó v vs ih=>
  intro kvs ns b a c;cases kvs with
  |nil=>cases b|ó kx kvs=>
   cases ns with
   |nil=>cases a|ó n ns=>let{k,x,e,z}:=c 0 v rfl;cases e;let d:k=Ϭ n:=ĸm.1;subst d;let{t,rfl}:=Ďm (k:=n) (v:=v) z;show .cons _ _ (ih kvs ns (by simpa using b) ĸm.2 λj u f=>by simpa using c ϻ u ïf)
#print a
section
theorem Nb:∀{kvs:Á ŧ} {vs:Á ŋa},KV kvs vs->ğg (·.1)=ϴb (·.1)
 |_,_,.nil=>rfl|_,_,.cons r t=>by rw[ġ,ġ,Nb t,r.1]
#print a
#print L2
namespace L3
open ģ ĺ Ĭ L2
nonrec def QD:Á Ľ->Ê ϱf
 | []=>À []|.inl i::r=>(QD r).bind λa=>À Űj|.inr _::_=>Æ
theorem NX:∀{ks:Á Ľ} {ns:Á Å},QD ks=À ns->ks=ϐa Ϭ
 | [],_,h=>by cases h;rfl|.inl i::r,_,h=>by let{ns,a,h}:=zJ h;cases h;rw[NX a];rfl
 |.inr _::_,_,h=>by cases h
section
variable{α:Type}{P:Á α->È}
def z2e(h:P []):∀us:Á α,Ÿ=0->P us
 | [],_=>h
def LP{n:Ã}(h:∀a (r:Á α),ſ=n->P ůd):∀us:Á α,Ÿ=n+1->P us
 |a::r,e=>h a r (ăd e)
def us1(h:∀a,P [a]):∀us:Á α,Ÿ=1->P us:=LP λa=>z2e (P:=λr=>P ůd) ϊe
def us2(h:∀a b,P że):∀us:Á α,Ÿ=2->P us:=LP λa=>us1 (P:=λr=>P ůd) ϊe
def us3(h:∀a b c,P [a,b,c]):∀us:Á α,Ÿ=3->P us:=LP λa=>us2 (P:=λr=>P ůd) ϊe
def us4(h:∀a b c d,P [a,b,c,d]):∀us:Á α,Ÿ=4->P us:=LP λa=>us3 (P:=λr=>P ůd) ϊe
def us5(h:∀a b c d e,P [a,b,c,d,e]):∀us:Á α,Ÿ=5->P us:=LP λa=>us4 (P:=λr=>P ůd) ϊe
#print a
abbrev BN(x:Ç)(st:Ú)(oc:Value)(od:Ê Ì)(sl:Ü Öb)(kV dc pm:Value)(an:Ê Ì)(cd ct:Value):Ê Obj:=À {oc,od,.func (Àd x x Ŝd Ôa Ŕ .none kV dc pm an cd ct),sl}
#print L3
namespace L2
open ģ ĺ ϑ Ĭ
def jJ(K:Ñ)(w:è)(a:Ì)(ks:Á zZ)(us:Á V):È:=
 êa=Â/\Ĉ=Ÿ/\∃ep,∀(P:ï)(h:Heap),ţ h->∃vs,KV ąc vs/\Åj ĳa a vs ep
def NV{k:zZ}{v:Value}(h:W9 k v=Ä):yF ūj v:=by rcases Zc h with⟨i,t,rfl,rfl⟩|⟨x,t,rfl,rfl⟩;show{t,rfl};show{t,rfl}
def EA(ks:Á zZ):It:={λi _=>i<Ĉ,λi H v a=>a=H/\∃k,ks[i]?=À k/\v=kV k,λi _=>Ĉ<=i}
theorem p8:∀{kvs:Á ŧ} {vs:Á ŋa},KV kvs vs->Ć=Ķ
 |_,_,.nil=>rfl|_,_,.cons _ t=>by rw[ą,ą,p8 t]
theorem w1y{P:ï}{w:è}{K:Ñ}{tg:Õ}{ks:Á zZ}{us:Á V}{ep:Ã}(a it:Ì)(O:Ĉ=Ÿ)(g:∀(P:ï)(h:Heap),ţ h->∃vs,KV ąc vs/\Åj ĳa a vs ep) :j_ P w K tg ĵj όb it (λi h=>Òo it a i Ĉ ep) where
 mem:=by simp
 obj:=λi h st b m=>by
  let e:b=it:=by simpa using m
  rw[şp]
 Ča:=λi h q st k=>ųe λo e=>k it ê o e
 ϕa:=by
  rw[Ŭp]
  let T:i<Ć:=by rw[n];show N
  let r:vs[i]?=À (vs[i].1,vs[i].2):=ğ T
  let S:ks[i]?=À vs[i].1:=by let e:=ŋ (λl:Á zZ=>l[i]?) (Nb f);simp only[Ś,r,Żm,Ăf (show Ĉ<=Ÿ by omega)]at e;show ťd
  rw[Ĉq];show Čl st A r λC q p j sb=>?_
  rw[n]at j;let Z:zI X R σ H { s with ì:=q }:=Ĵa (t':=Ď) (λb o m e=>(sb.2 b m).trans e) L J G u F;rw[ÿq];show{C,rfl,Vk (s:={ s with ì:=q }) e c d Í {kV vs[i].1,H,Z,NV p,{rfl,_,S,rfl},j,λb m=>(t b m).1}}
 done:=by
  rw[Ŭp]
  let r:vs[i]?=Æ:=ĉb (by rw[n];show N);rw[Ĉq];show Ĭl (óa Q) st A r λq Y=>{rfl,Ĵa (t':=Ď) (λb o m e=>Y b o m e) L J G u F}
 Ľb:=λ_ _ _ _ _ st h=>Řl st h
def y1j(ks:Á zZ):TI:=λ_ H R=>R ĵj H
def x1j{X:Cx}{tg:Õ}{x:Ç}{p:Pos}{A:Ì}{ks:Á zZ}{us:Á V}(h:wH õ x Ųb)(g:jJ X.K X.w A ks us)(z:Gl X x)(q:Î ķ q10):PI X tg Îa (y1j ks):=by
 intro n s σ H R I l;let{c,k,C,j}:=g;show zt (WL (pos:=p) h z q n s σ H (λv f=>v=.ref A/\f=H) I {rfl,rfl}) λv a ⟨y,f,d,m,e1,e2⟩=>?_
 subst e1 e2;cases(show v=ė A from m);let{u,i,r}:=j ú a.heap d.xz;let B:ϻi=Ĉ:=by rw[p8 i,đa,k,þa]
 show ĉm c r ?_;rw[B];show{Ĩa,[Ĩa],_,_,f,rfl,ňj (t':=Ŧd) λb o e=>Ĳ _ e,w1y A _ k j,{_,ũ _ rfl,rfl,rfl},λb t=>?_,l};let e:b=Ĩa:=by simpa using t
 rw[ôq]
#print L2
namespace L3
open ģ ĺ ϑ Ĭ L2
nonrec def Ïc:zZ->D
 |.inl i=>.int i|.inr x=>.str x
nonrec def p_:zZ->Ð
 |.inl _=>Ä|.inr x=>decide (Ça<=yb)
def iG(ks:Á zZ):FA:=λ_=>À ϥf
def NW{K:Ñ}{G:Hp}{k:zZ}(h:p_ k=Ä):zh K G (Ïc k) ūj:=by
 cases k with
 |inl i=>rfl|inr x=>show{rfl,by rw[Ŧ];show ő h}
def z90{K:Ñ}{G:Hp}{ks:Á zZ}(h:ţd p_=Ä):jK K ĵj G ϥf where
 go:=λi b H _ _ a=>by rw[ç]at a;show a
 uh:=λi b H x e f d a y=>by let{rfl,k,c,rfl}:=y;show{b,Ïc k,úa d,by rw[Ś,c];rfl,NW (øa h k (ūa c))}
 Š:=λi b H _ _ a=>by rw[ç]at a;show a
def AR(h:wH õ x Ųb)(g:jJ X.K X.w A ks us)(c:Gl X x)(hk:ţd p_=Ä)(b:Ĉ<=1000)(a:Î ķ q10):SI X tg Îa (iG ks):=
 {{_,x1j h g c a,λ{i e G H τ σ f R} K d q=>by cases d;show q _ _ _ Ęe (by rw[ç,Ŧ];show đ b Í) (z90 hk)}}
def z8p{K:Ñ}{w:è}{a:Ì}{es:Á Ĥb}{n:Ã}{xs:Á Ç}{vs:Á Value}{us:Á V}(l:Ϩ a=À { cls:=.type ϐ,ċ:=.dict Ħi n })(e:gs w es xs vs)(f:Ϝc)(g:êa=Â)(r:zx us vs) :jJ K w a Ųc us:=by
 rw[Íq]
 show{g,c,n,λP h d=>{_,Nc r c,?_}};rw[Īq];refine{_,_,d _ _ l,{rfl,rfl,rfl},rfl,λe i=>q e òm,p,?_};rw[Fa Ùh];show ôf _ Ϥe f
#print L3
namespace L2
open ģ ĺ ϑ Ĭ
def fV(r d:Ì)(h:Heap):È:=h.IsValuesView r d
abbrev IU(r d:Ì):HO:=.ext (fV r d)
section
variable{X:Cx}{A:Ì}{ks:Á zZ}{us:Á V}{x:Ç}{p Ű Ϡ:Pos}
def z1z(A:Ì):TE:=λ_ H Q=>∀r,H r=Æ->Q ìj (zd H r (IU r A))
def x18(h:wH õ x Ųb)(g:jJ X.K X.w A ks us)(R:Gl X x)(O:Î ķ q10)(d:Î ůg q12)(f:Î ča q12) :PE X Ûk (z1z A):=by
 intro N s σ H Q I L;let{i,S,T,E}:=g;show Ϧg d f (zt (WL (pos:=p) h R O N s σ H (λv n=>v=.ref A/\n=H) I {rfl,rfl}) λv c ⟨y,n,m,C,e1,e2⟩=>?_);subst e1 e2;cases(show v=ė A from C);let{B,P,G}:=E ú şe m.xz;let l:ϗh Ϧb A B:=G.dictOf
 let J:∀b,ė A=.ref b->∃j,Ĝd b=À j/\j.dict=Æ:=λb q=>by cases q;let{j,_,_,u,r,_}:=l;show{j,u,r.2.1}
 show{ϐ,_,Ãf,Ϲe,Ôl,l.typeIs,J,àd rfl Êh};show Ϯd Ϲe l.typeIs Âl ųk (ċm Ϧb A i) {{B,l},?_};let t:fV ōb A (ðe { cls:=.type όh,ċ:=.fields #[.ref A] }):={_,ũ _ rfl,rfl,rfl};show{.ref ōb,_,m.laid (a:=ōb) (o:=IU ōb A) (t':=ĳb) ìf Đ {t,?_,λu r z k=>?_},rfl,L _ m.fresh};let{o,e,_}:=t;show{o,e};let{o,e,z}:=z;show{o,k _ e,z}
def x39(A:Ì)(us:Á V):Á V->Hp->VK->È:=λa H Q=>∃r,a=[.ref r]/\H r=À (IU r A)/\∀p,H p=Æ->Q ž (ψ (.lst us))
theorem nH:∀{kvs:Á ŧ} {vs:Á ŋa},KV kvs vs->zx (ϴb (·.2)) (ğg (·.2))
 |_,_,.nil=>.nil|_,_,.cons r t=>.cons r.2 (nH t)
def z6e(c:Ϝ=Ä)(g:jJ X.K X.w A ks us)(p:Ÿ<=1000):vV X Ęa (x39 A us):=by
 intro S s σ H T P Q I r h;let{a,rfl,C,q}:=h;let{u,rfl,x}:=uD r;cases(show u=ė a from x);let{t,F,ep,y}:=g;let{n,i,B}:=y ú ä Ť;let O:Ĩe=Ÿ:=by rw[p8 i,đa,F,þa]
 let{E,_}:=(show xc ú X.w H ä a (IU a A)from ĝ a _ C);refine W.kdl_call (W.kdl_values (knd:=xN ú X.w) (d:=A) (r:=a) (kvs:=n) (ep:=ep)) (óa c) {E,B} (by rw[O,Ŧ];show đ p Í) λR L b J N G f=>?_
 let{m,l}:=f
 let e:ϟc=n.map (·.2):=by
  show óf λj=>?_
  cases hj:ϟc[j]? with
  |Æ=>have:=List.getElem?_eq_none_iff.mp hj;rw[Ū,m]at this;rw[Ś,ĉb this];rfl|À v=>let{k,e}:=l j v (by rw[<-Ćb];show hj);rw[Ś,e];rfl
 let z:zx us ϟc:=by rw[e];let:=nH i;rw[List.map_snd_zip (show Ÿ<=Ĉ by omega)]at this;rw[Ũp]
 show{.ref Þ,_,Ťa (a:=Þ) (o:=.lst us) (t':=L) N Đ {?_,ϟc,J,z,?_},rfl,q _ ϱc};rw[Ŧ];show đ p Í;rw[G]
#print a
#print L2
namespace L3
open ģ ĺ ϑ Ĭ L2
def z0y(c:Ϝ=Ä)(j:Gl X ĸ)(f:õ ĸ=Æ)(h:wH õ x Ųb)(g:jJ X.K X.w A ks us)(y:Gl X x)(m:∀H,å X.K H ds us)(k:ø<=1000)(n:Î ķ q10)(a:Î (éa ài "values" Ù (Ė ài Ù)=Ė ài Ù) q12)(b:Î ča q12) :SF X (.Call Ŝn [.Call ęk [] [] Ϡ] [] pos) (eC ϫi):=by
 let t:Ÿ<=1000:=by rw[(m Ûb).length];show k
 let z:QE X (.Call ęk [] [] Ϡ) (z1z A):={x18 h g y n a b};refine{{_,(U6 (p:=p) (pos:=pos) (z6e c g t) j f Mx (Pn z rh) Í Í).h,λ{C B G H τ σ d Q} E s q=>?_}};cases s;intro r u;show{r,rfl,yo,λl i=>?_};let e:=ϑa (o:=IU r A) ėa u;let v:=İb (ϑa (o:=.lst us) Ðd i);show q l _ _ v (e.h.free i) (Īf i) {us,yo,m _,by rw[Ŧ];show đ k Í}
#print L3
namespace L2
open ģ ĺ ϑ Ĭ
section
variable{Ī:ï}{w:è}{A:ā}{E:Value->Ï->È}{s:Ï}
open HT in
def z8r{t d:Ì}{a:Ü Value}{j i:Value}{lo hi:Ê Å}{Q:Value->Ï->È}(b:úb ä t a)(l:ÿf d j i .none)(pl:Ĵb j lo)(m:Ĵb i hi)(k:sIx ù 0 lo=0/\sIx ù ù hi=ù)(h:Q ŋd s):Ý ð A (ϭc ŋd (.ref d)) Q E s:=by
 let{o,f,g,p}:=id l;let e:Ŭb (.ref d) ņe:={o,f,g};unfold ϭc
 try with_reducible show Ċb ?_
 first|show Ø Ýb|skip
 refine Ø (ćm Łd Í ?_)
 show Ø (Ýd (Ņ:=Ϣb ϑh) Łd Ϣe
  (Ņc Ϣe Łd ύl ?_ íl))
 exact Ý _ _ ök _ _ s;show Ø (ęn b ?_);show Ø (öd e ?_);rw[Ó Í];show Ø (z16 l pl m ?_)
 let c:Šg=Ä:=by rw[k.1,k.2,áe];simp
 exact Ý _ _ ϵk _ _ s;rw[Ó c];let n:Ŭb ŋd ŷ:=Łd;unfold Builtin.Tuple.tupleIsExact;show Ø (Ø (öd n (Φa (ϴe (Ĥ {_,rfl,Ĥ h})))))
#print a
def x3e(K:Ñ):V->Ê Å->Ê Å->Hp->VK->È:=λx c b H Q=>∃a xs,x=.ref a/\xK K H a xs/\
 (č æ 0 c=0/\č æ æ b=æ)/\Q ŭ H
def x6j:ZN X (x3e X.K):=by
 intro o s σ H x v n m u t p Q I j l i g h;let{a,k,rfl,f,e,q}:=h;cases j;let{c,r,d,w}:=ϭ f;let b:ţh=k.length:=by rw[ĥ];show ĝn
 show{ŷ,_,Ĝk,īe,?_};show z8r d l i g (by rw[b];show e) {.ref a,H,I,rfl,q}
#print L2
namespace L3
open ģ ĺ ϑ Ĭ L2
def Xz(d:D)(lo hi:Ê Å):Ê D:=match d with
 |.tup xs=>À Ϗo|d=>YV d lo hi
def YS(a:FE)(lo hi:FO):FE:=λσ=>(Ϲ).bind λd=>(Ĩj).bind λl=>(īj).bind λh=>Xz d l h
def z71{α:Type}{xs:Á α}{lo hi:Ê Å}(c:č æ 0 lo=0/\č æ æ hi=æ):tZ xs lo hi=xs:=by unfold tZ;rw[c.1,c.2,áe,Ĝf,îc]
theorem x5z{X:Cx}{a:Õ}{w:FE}{pos:Pos}{lo hi:Ê Õ}{y fh:FO}{J:Pos}(C:SE X a w)(o:SO X lo y)(s:SO X hi fh):SE X (Δf (.Slice lo hi Æ J)) (YS w y fh):=by
 let{ta,F,N}:=C.h;let{tl,K,B}:=o.h;let{Y,O,L}:=s.h;show{{_,oy (z15.or x6j) F K O,λ{S P G H τ σ d Q} E b q=>?_}};let{x,I,b}:=zJ b;let{l,o,b}:=zJ b;let{h,s,b}:=zJ b;show N E I λv R T u A=>B Ćg o λZ H2 t=>L ((Ćg).go t) s λG3 U e=>?_
 let n:=u.trans (t.trans e);let r:=A.mono (t.g.trans e.g);cases x with
 |lst xs=>cases b;let{a,m,rfl,j,i,f}:=r;refine .inl (.inl {a,m,rfl,ux Ðd j,λp k=>q _ _ _ ġl {p,_,rfl,Ĺb yo,(Ğo).mono øn,đ ěg f}})
 |tup xs=>cases b;let{a,m,rfl,j,i,f}:=r;by_cases c:č æ 0 l=0/\č æ æ h=æ;refine .inr {a,m,rfl,uR Ðd j,by rw[åb];show c,?_};rw[z71 c]at q;show q _ _ _ n {a,m,rfl,j,i,f};refine .inl (.inr (.inl {a,m,rfl,uR Ðd j,by rw[åb];show c,λp k=>?_}));show q _ _ _ ġl {p,_,rfl,żb yo,(Ğo).mono øn,đ ěg f}
 |str z=>cases b;let{rfl,f}:=r;show .inl (.inr Ïk)
 |_=>cases b
#print L3
namespace L2
open ģ ĺ ϑ Ĭ
section
variable{X:Cx}{z8:Á ô}{σ:St}{H:Hp}{s:Ï}{a:Ì}{o:Obj}{kvs:Á ŧ}
def zI.swap(I:zI X z8 σ H s)(e:H a=À u)(A:∀x,u≠.own x)(t:∀xs,u≠.tup xs)(B:∀ps,ðb a≠À Ġe)(l:∀ob v,ðb a≠À łi)(m:∀xs,ðb a≠À œa)(h:xc ú X.w ĉo ä a u'):zI X z8 σ ĉo s:=by
 let f:∀b,H b=Æ->b≠a:=λb d z=>by subst z;rw[e]at d;cases d
 show{I.ok,ĸc,ϱa,{Ğf,õe,λb ob q n r=>?_,ãe,λb xs q=>?_,λb ob v q=>?_,λb ps q=>?_},ļa,ťa,?_,λx c q=>?_,λp k=>?_,λb v q=>?_,ĺb};let:=Ċd b ob q n r;rw[yH (f b this)];rw[Ũp];let d:b≠a:=λz=>by subst z;show m xs q
 rw[yH d];show ďe b xs q;let d:b≠a:=λz=>by subst z;show l ob v q
 rw[yH d];show Đe b ob v q;let d:b≠a:=λz=>by subst z;show B ps q
 rw[yH d];show đe b ps q;rw[yH (f _ ϰa)];show ϰa;rw[yH (f _ (ϋb x c q))];show ϋb x c q;let{o,i,j}:=ŧa p k;show{o,by rw[yH (f _ i)];show i,j};by_cases d:b=a;subst d;rw[yo]at q;cases q;show h;rw[yH d]at q;show(ĝ b v q).XQ (λc w _ z=>z) (λc z=>?_) λc xs z=>?_;let g:c≠a:=λy=>by subst y;rw[e]at z;cases z;show A _ rfl
 rw[yH g];show z;let g:c≠a:=λy=>by subst y;rw[e]at z;cases z;show t _ rfl
 rw[yH g];show z
def zI.Uj(I:zI X z8 σ H s)(e:H a=À œ):(∀ps,ðb a≠À Ġe)/\(∀ob v,ðb a≠À łi)/\∀xs,ðb a≠À œa:=by show{λps z=>?_,λob v z=>?_,λxs z=>?_};let{_,q}:=đe a ps z;rw[e]at q;cases q;let q:=Đe a ob v z;rw[e]at q;cases q;let q:=ďe a xs z;rw[e]at q;cases q
def zI.up(I:zI X z8 σ H s)(e:H a=À œ):∃o,zI X z8 σ ńf s:=by let{i,f,d}:=I.Uj e;let{z,y,h,r,b,k,j,g,c}:=(show xc ú X.w H ä a œ from ĝ a _ e);show{b,I.swap e èa èa i f d {g,z,y,h,r,b,k,j,g,c}}
def zI.dn(I:zI X z8 σ H s)(e:H a=À ż)(n:(∀ps,ðb a≠À Ġe)/\(∀ob v,ðb a≠À łi)/\∀xs,ðb a≠À œa):zI X z8 σ èe s:=by let{h,d,b}:=n;let{_,z,y,f,r,ob,j,i,g,c}:=(show xc ú X.w H ä a ż from ĝ a _ e);show I.swap e èa èa h d b {z,y,f,r,ob,j,i,g,c}
#print a
def ui.dn(D:ui)(a:Ì)(o:Obj)(kvs:Á ŧ):ui:=
 {λσ H=>H a=À ż/\ϖa σ èe,λv H=>H a=À ż/\D.rt v èe,λσ H=>H a=À ż/\D.bk σ èe,λσ H=>H a=À ż/\D.ct σ èe}
def x44(i:Ã)(t:TS):TS:=λD σ H=>∃a,σ[i]?=À ĵd/\((∃o kvs,H a=À ż/\t D σ H)\/∃kvs,H a=À œ/\∀o,t (D.dn a o kvs) σ ńf)
def x2a{X:Cx}{st:Ú}{t:TS}{i:Ã}(h:PS X st t):PS X st (x44 i t):=by
 intro k s σ H D I d;obtain⟨a,n,⟨_,_,_,d⟩|⟨l,e,d⟩⟩:=d;show h k s σ H D I d
 .let{o,m}:=I.up e;show zt (h k s σ _ _ m (d o)) λf p g=>?_
  cases f with
  |next=>let{σ',j,c,b,q}:=g;show{σ',_,c.dn b ľe,q}
  |brk=>let{σ',j,c,b,q}:=g;show{σ',_,c.dn b ľe,q}
  |žb=>let{σ',j,c,b,q}:=g;show{σ',_,c.dn b ľe,q}
  |ret u=>let{v,σ',j,c,r,b,q}:=g;show{v,σ',_,c.dn b ľe,r,q}
def x84(i:Ã)(t:TE):TE:=λσ H Q=>∃a,σ[i]?=À ĵd/\((∃o kvs,H a=À ż/\t σ H Q)\/∃kvs,H a=À œ/\∀o,t σ ńf λv b=>b a=À ż/\Q v (zd b a œ))
def x15(h:PE X e t):PE X e (x84 i t):=by intro c s σ H Q I b;obtain⟨a,k,⟨_,_,_,b⟩|⟨d,e,b⟩⟩:=b;show h c s σ H Q I b;let{o,g}:=I.up e;show zt (h c s σ _ _ g (b o)) λu m ⟨v,l,j,r,f,q⟩=>{v,_,j.dn f ľe,r,q}
def EC(a:Ì)(o:Obj)(kvs:Á ŧ):It:={λi H=>H a=À ż/\i<Ķ,λi H v b=>b=H/\∃k u,kvs[i]?=À (k,u)/\v=kV k,λi H=>H a=À ż/\Ķ<=i}
def YX(ok:wR P w H h)(e:H a=À ż)(d:ĸa=.dict es ep):êa=Â/\∃vs,KV kvs vs/\Åj ĳa a vs ep:=by let{g,z,y,vs,r,j,b,i,f,c}:=(show xc P w H h a ż from ok a _ e);rw[g]at f;cases f;show{y,vs,r,o,b,g,c.1,?_,c.2.2};let e1:=c.2.1;rw[d]at e1;cases e1;show d
theorem Bm:∀{kvs:Á ŧ} {vs:Á ŋa} {i:Ã} {k:zZ} {x:Value},KV kvs vs->vs[i]?=À (k,x)->∃u,kvs[i]?=À (k,u)/\yF u x
 |_,_,_,_,_,.nil,e=>by cases e|_,_,0,_,_,.cons r t,e=>by cases e;let{a,b}:=r;show{_,ŋ À (Prod.ext a rfl),b}
 |_,_,i+1,_,_,.cons _ t,e=>Bm (i:=i) t Ϛa
def w1v{P:ï}{w:è}{K:Ñ}{tg:Õ}{kvs:Á ŧ}{o:Obj}{es:Ü Ĥb}{ep:Ã}(a it:Ì)(d:ĸa=.dict es ep) :j_ P w K tg Ϩn όb it (λi h=>Òo it a i Ķ ep) where
 mem:=by simp
 obj:=λi h st b l=>by
  let e:b=it:=by simpa using l
  rw[şp]
 Ča:=λi h q st k=>ųe λo e=>k it ê o e
 ϕa:=by
  rw[ųp];let S:i<âa:=by rw[m];show p.2
  let r:g[i]?=À (g[i].1,g[i].2):=ğ S;let{u,R,_}:=Bm f r;let{N,L,T,J,x,G}:=t it ê;rw[<-m]at st;show Čl st B r λF q n j Z=>?_
  rw[m]at j;let Y:zI X Q σ H { s with ì:=q }:=Ĵa (t':=Ď) (οe (Z.2 b l)) N L J x G;rw[ÿq];show{F,rfl,Vk (s:={ s with ì:=q }) e c d Í {kV g[i].1,H,Y,NV n,{rfl,_,_,R,rfl},j,λb l=>(t b l).1}}
 done:=by rw[ųp];let r:g[i]?=Æ:=ĉb (by rw[m];show p.2);let{N,L,T,J,x,G}:=t it ê;rw[<-m]at st;show Ĭl (óa O) st B r λq U=>{rfl,Ĵa (t':=Ď) (λb o l e=>U b o l e) N L J x G}
 Ľb:=λ_ _ _ _ _ st h=>Řl st h
def y1g(i:Ã):TI:=λσ H R=>∃a o kvs,σ[i]?=À ĵd/\H a=À ż/\R Ϩn H
def x1g{X:Cx}{tg:Õ}{x:Ç}{p:Pos}{i:Ã}(B:X.N[i]?=À x)(hv:pV Ða x)(A:Î ķ q10)(m:Î Æb q10):PI X tg Îa (y1g i):=by
 intro z s σ H R I k;let{a,o,d,t,e,k}:=k;show zt (WM (pos:=p) B hv A m z s σ H (λv j=>v=.ref a/\j=H) I {_,t,rfl,rfl}) λv f ⟨y,j,h,q,e1,e2⟩=>?_
 subst e1 e2;cases(show v=ė a from q);let{g,_,_,_,_,G,K,J,n,_,c,_}:=(show xc ú X.w j f.heap a (.yO o (.dK d))from h.zi a _ e);rw[g]at n;cases n;let{u,E,l,r}:=YX h.zi e c;let F:Íj=ăa:=p8 l;show ĉm u r ?_;rw[F];show{ĭh,[ĭh],_,_,j,rfl,h.kept (t':=f.toks) λb o e=>Ĳ _ e,w1v a _ c,{_,ũ _ rfl,rfl,rfl},λb C=>?_,k};let e:b=ĭh:=by simpa using C
 subst e;show h.ZE Đ (h.zi.fresh Đ)
#print L2
namespace L3
open ģ ĺ ϑ Ĭ L2
structure Tw(a:Ì)(kvs:Á ŧ)(G G':Hp):È where
 ne:∀b,b≠a->G' b=G b
 l:Rd G a œ
 r:Rd G' a œ
section
variable{K:Ñ}{a:Ì}{o:Obj}{kvs:Á ŧ}{G G' H H' G0 H0:Hp}
def Rd.tw(t:Tw a kvs G G')(c:∀ob v,u≠.yO ob v)(h:Rd G b u):Rd G' b u:=by
 rw[ŷp]
 let e:u=.dK kvs:=by rcases h with h|⟨ob,h⟩<;>rcases t.l with l|⟨oc,l⟩<;>rw[l]at h;cases h;rfl;cases h;show ß rfl (c oc _);cases h;cases h;rfl
 rw[e];show t.r;rcases h with h|⟨ob,h⟩;show .inl (by rw[Ħq]);show .inr {ob,by rw[Ħq]}
theorem Tw.at{b:Ì}{u:HO}(t:Tw a kvs G G')(h:G b=À u)(d:u≠.dK kvs)(c:∀o,u≠.yO o œ):G' b=À u:=by rw[ŷp];rcases t.l with l|⟨oc,l⟩<;>rw[l]at h;cases h;show ß rfl d;cases h;show ß rfl (c oc);rw[Ħq]
theorem zh.tw(t:Tw a kvs G G'):∀{d:D}{v:V},zh K G d v->zh K G' d v:=λ{d}=>by show ŕg (P:=λd=>∀v,zh K G d v->zh K G' d v) Řo žn żn Żn ?_ ?_ ?_ ?_ ?_ d _;rw[ϵp];rcases q with q|q;show .inl Ϲm;show .inr q;rw[ϵp];rcases q with q|q;show .inl Ϲm;show .inr q;rintro m g f v ⟨b,c,e,q,z,r,l⟩;show{b,c,e,Rd.tw t İk q,z,æb f r,l};rintro x v ⟨b,C,e,n,h⟩;show{b,C,e,n,t.at h Äa èa};rintro x k g f v ⟨b,C,j,c,e,n,h,l,r⟩;show{b,C,j,c,e,n,t.at h Äa èa,l,æb f r}
theorem Reps.tw(t:Tw a kvs G G')(h:å K G ds vs):å K G' ds vs:=æb (λ_ _ _=>zh.tw t) h
theorem vh.tw(t:Tw a kvs G G')(f:H' p=H p)(c:vh K G H d p):vh K G' H' d p:=by
 cases d with
 |lst ds=>let{b,e,r,l}:=c;show{b,by rw[f];show e,r.tw t,l}
 |dic ks ds=>let{b,e,z,r,l}:=c;show{b,by rw[f];show e,z,r.tw t,l}
 |_=>show c.elim
def Ar(e:G a=À œ):Tw a kvs G ée:={λb c=>yH c,.inl e,.inr {o,yo}}
def F5(e:G a=À ż):Tw a kvs G (zd G a œ):={λb c=>yH c,.inr {o,e},.inl yo}
nonrec def Wh(a:Ì)(f:HO)(H0:Hp):Hp:=λb=>if b=a then(H0 a).bind λ_=>À f else H0 b
def z2b(h:b≠a):Wh a f H0 b=H0 b:=Ô h
def F6:Wh a f H0 b=Æ↔H0 b=Æ:=by
 unfold Wh;by_cases h:b=a;subst h;rw[Ó rfl];cases H0 b with
 |Æ=>show{λ_=>rfl,λ_=>rfl}|À u=>show{λz=>(nomatch z),λz=>(nomatch z)}
 rw[Ô h]
theorem w3j(h:Wh a f H0 a=À u):u=f:=by
 unfold Wh at h;rw[Ó rfl]at h;cases e:H0 a with
 |Æ=>rw[e]at h;cases h|À w=>rw[e]at h;cases h;rfl
def yJ.up(E:yJ K n G0 H0 G H τ σ)(e:G a=À œ):yJ K n ée ϫh ée ńf τ σ:=by
 let t:=Ar (o:=o) e;show{{Ϩa _,λb u h=>?_,Da ėa,λ_ h=>.inl h},Ż,ź,λi d h=>?_,λi d h=>?_,ŀb};rw[ŷp];rw[yo,w3j h];rw[z2b hb]at h;rw[yH hb];show āg _ _ h;let{v,c,r}:=Ŀb i d h;show{v,c,r.tw t};let{p,c,g,z,j}:=Ãb i d h;let f:p≠a:=λz=>by subst z;rw[e]at g;cases g
 show{p,c,by rw[yH f];show g,F6.mpr z,j.tw t (yH f)}
def zW.V4(x0:zW G0 H0 G H)(e:G a=À œ)(x:zW ée ϫh G' H'):G' a=À ż/\H' a=À ż/\zW G0 H0 łn ŀn:=by let c:G' a=À ż:=x.g _ _ yo;show{c,ϻa _ _ c,x0.rebase {λb u h=>?_,λb u h=>?_,Da ϻa,λp h=>?_}};rw[ŷp];rw[e]at h;cases h;show yo;rw[yH hb];show x.g _ _ (by rw[yH hb];show h);rw[ŷp];let:=x0.h _ _ h;rw[x0.gh _ _ e]at this;cases this;show yo;rw[yH hb];show x.h _ _ (by rw[z2b hb];show h);by_cases hb:p=a;subst hb;show .inl Ϣg;rw[yH hb]at h;rcases Ëd p h with z|z;rw[yH hb]at z;show .inl z;show .inr (F6.mp z)
theorem yJ.V4(E:yJ K n G0 H0 G H τ σ)(e:G a=À œ)(b:yJ K n ée ϫh G' H' τ' σ'):H' a=À ż/\yJ K n G0 H0 łn ŀn τ' σ':=by
 let{j,k,x}:=E.ext.V4 e b.ext;let t:=F5 j;show{k,x,b.l1,b.l2,λi d h=>?_,λi d h=>?_,b.ap};let{v,c,r}:=b.fr i d h;show{v,c,r.tw t};let{p,c,g,z,l}:=b.ow i d h;let f:p≠a:=λz=>by subst z;rw[j]at g;cases g
 show{p,c,by rw[yH f];show g,F6.mp z,l.tw t (yH f)}
#print a
def Kn(K:Ñ)(i:Ã)(τ:yD)(σ:St)(G:Hp):È:=∃a o ks ds vs,τ[i]?=À Þh/\σ[i]?=À ĵd/\G a=À üf/\Ĉ=Ć/\å K G ds vs/\ø<=â
structure fQ(X:Cx)(i:Ã)(st:Ú)(f:FS):È where
 h:∃t,PS X st t/\∀{G0 H0 G H:Hp}{τ:yD}{σ:St}{fl:Fl}{E:ui},yJ X.K ć G0 H0 G H τ σ->Kn X.K i τ σ G->f τ=À fl->tU X.K ć G0 H0 E fl->t E σ H
structure fP(X:Cx)(i:Ã)(e:Õ)(f:FE):È where
 h:∃t,PE X e t/\∀{G0 H0 G H:Hp}{τ:yD}{σ:St}{d:D}{Q:VK},yJ X.K ć G0 H0 G H τ σ->Kn X.K i τ σ G->f τ=À d->(∀p G' H',zW G H G' H'->H p=Æ->G' p=Æ->vh X.K G' H' d p->Q ž H')->t σ H Q
structure IR(X:Cx)(i:Ã)(tg ό:Õ)(f:FA):È where
 h:∃wi,PI X tg ό wi/\∀{G0 H0 G H:Hp}{τ:yD}{σ:St}{ds:Á D}{R:It->Hp->È},yJ X.K ć G0 H0 G H τ σ->Kn X.K i τ σ G->f τ=À ds->(∀J G' H',zW G H G' H'->ø<=â->jK X.K J G' ds->R J H')->wi σ H R
def YA(i:Ã)(f:yD->Ê α):È:=∀τ x,f τ=À x->∃ks ds,τ[i]?=À Þh
def x77{X:Cx}{i:Ã}{st:Ú}{f:FS}(h:fQ X i st f)(hk:YA i f):SS X st f:=by
 let{t,O,k}:=h.h;show{{_,x2a (i:=i) O,λ{S R G H τ σ N E} K s q=>?_}};let{C,I,n}:=hk _ _ s;let{v,j,a,J,rfl,Q,B,y,F}:=K.fr i _ n;show{a,j,?_};rcases Q with e|⟨o,e⟩;rw[Ľq];let P:=K.up (o:=o) e;show k P {a,o,C,I,J,n,j,yo,B,y.tw (Ar e),F} s ?_;cases N with
 |nx τ'=>show λσ' g b z=>let ⟨h1,h2⟩:=K.V4 e z;{h1,q σ' _ _ h2}|bk τ'=>show λσ' g b z=>let ⟨h1,h2⟩:=K.V4 e z;{h1,q σ' _ _ h2}|ct τ'=>show λσ' g b z=>let ⟨h1,h2⟩:=K.V4 e z;{h1,q σ' _ _ h2}|rt w d=>
  cases w with
  |Â=>intro v g b x r;let{c,l,u}:=K.ext.V4 e x;show{l,q v _ _ u (r.tw (F5 c))}
  |Ä=>
   intro p g b x L m w;let{c,l,u}:=K.ext.V4 e x;let A:p≠a:=λz=>by subst z;rw[c]at m;cases m
   show{l,q p _ _ u (F6.mp L) (by rw[yH A];show m) (w.tw (F5 c) (yH A))}
 show .inl {o,_,àa _ _ e,k K {a,o,C,I,J,n,j,e,B,y,F} s q}
def z11(h:fP X i e f)(hk:YA i f):SF X e f:=by
 let{t,P,k}:=h.h;show{{_,x15 (i:=i) P,λ{Y U G H τ σ d Q} K A q=>?_}};let{j,J,y}:=hk _ _ A;let{v,r,a,m,rfl,S,F,B,I}:=K.fr i _ y;show{a,r,?_};rcases S with e|⟨o,e⟩;rw[Ľq];let R:=K.up (o:=o) e;show k R {a,o,j,J,m,y,r,yo,F,B.tw (Ar e),I} A λp L N x C l T=>?_
 let O:H a=À _:=àa _ _ e;let n:L a=À (.yO o Řh):=x.g _ _ yo
 let s:H p=Æ:=by by_cases z:p=a;subst z;rw[n]at l;cases l;rw[yH z]at C;show C
 let E:p≠a:=λz=>by subst z;rw[n]at l;cases l
 show{ϻa _ _ n,q p (zd L a Řh) (zd N a Řh) {λb u c=>?_,λb u c=>?_,Da ϻa,λb c=>?_} s (by rw[yH E];show l) (T.tw (F5 n) (yH E))};rw[Đq];rw[e]at c;cases c;show yo;rw[yH z];show x.g _ _ űl;rw[Đq];rw[O]at c;cases c;show yo;rw[yH z];show x.h _ _ űl;rw[Đq];show .inl Ϣg;rw[yH z]at c;rcases Ëd b c with w|w;rw[yH z]at w;show .inl w;rw[yH z]at w;show .inr w;show .inl {o,_,àa _ _ e,k K {a,o,j,J,m,y,r,e,F,B,I} A q}
def x75(u:įd Ą X.A Ù ı)(S:Ϝ=Ä)(hi:IR X i tg ό fs)(hg:SG X tg fg)(hb:qY X ķc g)(Q:Î (∀x,Ŋb ό Ù x=pure x) q11):fQ X i Ϻg ϖn:=by
 let{ti,pi,L}:=Ķc;let{B,R,P}:=hg.h;let{tb,C,F}:=hb.h;show{{_,Pd u S pi R C Q,λ{G0 p G H τ σ r E} K O a q=>?_}};let{b,T,a}:=zJ a;show L K O T λJ l Ha I _ f=>?_
 let s:=öa I;let j:=ûj s.ext q;show{λi m σ H=>m=Ź-i/\i<=Ź/\∃τ G,yJ X.K ć l p G H τ σ/\p9 fg g ċj τ=À r,{Ź,rfl,ýa _,τ,l,s.zE,a},?_};rw[Àq];show .inr {f.go i G H Åc àa hlt,λσ' c=>∃τ G,yJ X.K ć l p G c τ σ'/\p9 fg g ſi τ=À r,λσ' c z=>{Ź-ñ,Øf _ _ hlt,rfl,hlt,z},λx c y=>?_};let{G3,d,x3,t,rd}:=f.uh i G H x c Åc àa hlt y;rw[łb hlt]at a;rw[ğ hlt]at t;cases t;let{τ1,h1,a}:=zJ (show(fg _ τ).bind _=_ from a);let{Y,v,a}:=zJ a;show P Ðj rd h1 λσ1 Z=>F Z v ?_
 cases Y with
 |nx τ2=>show λσ2 n H2 k=>{τ2,n,k,a}|ct τ2=>show λσ2 n H2 k=>{τ2,n,k,a}|bk τ2=>cases a;show j|rt o d=>cases a;show Ňe j èa èa èa rfl
 rw[úq];show .inl {f.stop i G H Åc àa É,j _ _ _ K}
def Q7(i:Ã):FA:=λτ=>match τ[i]? with
 |À (À (Â,.dic ks _))=>if ţd p_=Ä then À ϥf else Æ|_=>Æ
def z7h(h:YA i fs):YA i ϖn:=λτ x b=>by let{a,c,_}:=zJ b;show h τ a c
def z7j(i:Ã):YA i (Q7 i):=λτ x a=>by
 unfold Q7 at a
 rw[žp]
def z7n{K:Ñ}{G:Hp}{a:Ì}{o:Obj}{ks:Á zZ}{vs:Á V}(j:Ĉ=Ć)(e:G a=À üf)(h:ţd p_=Ä):jK K (EC a o ĕa) G ϥf where
 go:=λi g H f c b=>{c _ _ Ϧi,by rw[ĥq]}
 uh:=λi g H x m f c b y=>by
  let{rfl,k,u,l,rfl}:=y
  let d:ks[i]?=À k:=by let:=ŋ (Option.map Prod.fst) l;rw[<-Ś,Ăf É]at this;rw[Ũp]
  show{g,Ïc k,úa c,by rw[Ś,d];rfl,NW (øa h k (ūa d))}
 Š:=λi g H f c b=>{c _ _ Ϧi,by rw[ĥq]}
def x6d{X:Cx}{tg:Õ}{x:Ç}{p:Pos}{i:Ã}(m:X.N[i]?=À x)(hv:pV Ða x)(j:Î ķ q10)(f:Î Æb q10):IR X i tg Îa (Q7 i):=by
 show{{_,x1g m hv j f,λ{v u G H τ σ h R} K s b q=>?_}};let{a,o,d,n,w,k,t,e,g,l,r}:=s;unfold Q7 at b;rw[k]at b
 change (if ŋg p_=Ä then À (d.map Ïc)else Æ)=À h at b
 by_cases c:ŋg p_=Ä;rw[żp];show{a,o,_,t,àa _ _ e,q _ _ _ Ęe ?_ (z7n g e c)};rw[ç,g,Ăa];show r;rw[Żp]
#print L3
namespace L2
open ģ ĺ ϑ Ĭ
nonrec def EG(a:Ì)(o:Obj)(kvs:Á ŧ):It:={λi H=>H a=À ż/\i<Ķ,λi H v b=>b=H/\∃k,kvs[i]?=À (k,v),λi H=>H a=À ż/\Ķ<=i}
def w1w{P:ï}{w:è}{K:Ñ}{tg:Õ}{kvs:Á ŧ}{o:Obj}{es:Ü Ĥb}{ep:Ã}(a it:Ì)(d:ĸa=.dict es ep) :j_ P w K tg ϧn όb it (λi h=>h.IsValIter it a i Ķ ep) where
 mem:=by simp
 obj:=λi h st b l=>by
  let e:b=it:=by simpa using l
  rw[şp]
 Ča:=λi h p st k=>ųe λo e=>k it ê o e
 ϕa:=by
  rw[Ŵp];let R:i<âa:=by rw[m];show n.2
  let q:g[i]?=À (g[i].1,g[i].2):=ğ R;let{u,Q,O}:=Bm f q;let{J,G,S,F,t,C}:=r it ê;rw[<-m]at st;show wpAny_pyNext_values_item st A q λp j Y=>?_
  rw[m]at j;let U:zI X N σ H { s with ì:=p }:=Ĵa (t':=Ď) (οe (Y.2 b l)) J G F t C;rw[ÿq];show{g[i].2,rfl,Vk (s:={ s with ì:=p }) e c d Í {u,H,U,O,{rfl,_,Q},j,λb l=>(r b l).1}}
 done:=by rw[Ŵp];let q:g[i]?=Æ:=ĉb (by rw[m];show n.2);let{J,G,S,F,t,C}:=r it ê;rw[<-m]at st;show wpAny_pyNext_values_end (óa L) st A q λp T=>{rfl,Ĵa (t':=Ď) (λb o l e=>T b o l e) J G F t C}
 Ľb:=λ_ _ _ _ _ st h=>wpAny_pyIter_valiter st h
def y1h(i:Ã):TI:=λσ H R=>∃a o kvs,σ[i]?=À ĵd/\H a=À ż/\R ϧn H
def x1h{X:Cx}{tg:Õ}{x:Ç}{p d f:Pos}{i:Ã}(U:X.N[i]?=À x)(hv:pV Ða x)(S:Î ķ q10)(C:Î Æb q10)(j:Î ůg q12)(k:Î Òl q12) :PI X tg (.Call (.Attribute Îa "values" d) [] [] f) (y1h i):=by
 intro G s σ H R I u;let{a,o,m,O,e,u}:=u;show Ϧg j k (zt (WM (pos:=p) U hv S C G s σ H ĕl I {_,O,rfl,rfl}) λv c ⟨y,l,A,K,e1,e2⟩=>?_);subst e1 e2;cases(show v=ė a from K);let{g,_,_,_,_,o',es,ep,J,_,h,_}:=(show xc ú X.w l şe a Än from A.zi a _ e);rw[g]at J;cases J;let{Q,B,z,E}:=YX A.zi e h;let Z:B.length=ħb:=p8 z;let r:ϗh Ϧb a B:=E.dictOf
 let P:∀b,ė a=.ref b->∃n,Ĝd b=À n/\n.dict=Æ:=λb q=>by cases q;let{n,_,_,T,L,_}:=r;show{n,T,L.2.1}
 show{ϐ,_,Ãf,Ϲe,Ôl,r.typeIs,P,àd rfl Êh};show Ϯd Ϲe r.typeIs Âl ųk (ċm Ϧb a Q) {{B,r},?_};let t:zI X G σ l { c with ì:=ðe { cls:=.type όh,ċ:=.fields #[.ref a] } }:=A.kept (t':=ĳb) λb o e=>Ĳ _ e
 show wpAny_pyIter_values (knd:=xN ú X.w) (s:={ c with ì:=ðe { cls:=.type όh,ċ:=.fields #[.ref a] } }) {_,ũ _ rfl,rfl,rfl} (E.push _) ?_;rw[Z];show{_,[_],_,_,l,rfl,t.kept (t':=ĳb) λb o e=>Ĳ _ e,w1w a _ h,{_,ũ _ rfl,rfl,rfl},λb Y=>?_,u};let e:=ϖ Y;subst e;show t.ZE Đ (t.zi.fresh Đ)
#print L2
namespace L3
open ģ ĺ ϑ Ĭ L2
nonrec def Q8(i:Ã):FA:=λτ=>match τ[i]? with
 |À (À (Â,.dic _ ds))=>À ds|_=>Æ
def z7k(i:Ã):YA i (Q8 i):=λτ x a=>by
 unfold Q8 at a
 rw[žp]
def z3a{ks:Á zZ}{vs:Á V}{i:Ã}{k:zZ}{v:V}(h:ĕa[i]?=À (k,v)):ks[i]?=À k/\vs[i]?=À v:=by rw[List.getElem?_zip_eq_some]at h;show h
def z82{K:Ñ}{G:Hp}{a:Ì}{o:Obj}{ks:Á zZ}{ds:Á D}{vs:Á V}(j:Ĉ=Ć)(e:G a=À üf)(g:å K G ds vs):jK K (EG a o ĕa) G ds where
 go:=λi h H b c f=>{c _ _ ĳp,by rw[đa,j,þa,âa];show f}
 uh:=λi h H x p b c f y=>by let{rfl,k,m}:=y;let{d,n,l}:=g.at (z3a m).2;show{h,d,úa c,n,Łj b}
 Š:=λi h H b c f=>{c _ _ ĳp,by rw[đa,j,þa,âa];show f}
def x6e(l:X.N[i]?=À x)(hv:pV Ða x)(g:Î ķ q10)(f:Î Æb q10)(b:Î ůg q12)(c:Î ča q12):IR X i tg Ûk (Q8 i):=by show{{_,x1h l hv g f b c,λ{v t G H τ σ u R} K r d q=>?_}};let{a,o,w,m,y,h,s,e,k,j,n}:=r;unfold Q8 at d;rw[h]at d;cases d;show{a,o,_,s,àa _ _ e,q _ _ _ Ęe n (z82 k e j)}
def ip(h:YA i fs):YA i (xm n fs fg ft f):=λτ x b=>by let{a,c,_}:=zJ b;show h τ a c
section
variable{X:Cx}{i:Ã}{tg ό elt:Õ}{ifs:Á Õ}{ŕ:õa}{cl:Á Ùb}{own:Á Ç}{pos:Pos}{fs:FA}{fg:FG}{ft:FT}{f:FE}{g:TG}
def z0z(a:Ϝ=Ä)(B:XV X ŕ cl own)(hi:IR X i tg ό fs)(m:BG X ŕ cl own tg g fg)(y:∀C s H fp pn,VS Ìa ifs ft)(I:∀C s H fp pn,SE Ìa elt f)(v:Î (∀x,Ŋb ό Ù x=pure x) q11) :fP X i āb åf:=by
 let{U,F,r}:=Ķc;show{{_,oj a B F (Ωb (m.q C s H fp pn)) (Χb (y C s H fp pn)) (Ψb Án) v,λ{O L G H τ σ d Q} K t b q=>?_}};let{T,z,b}:=zJ b;let{u,E,b}:=zJ b;cases b;show r K t z λJ S R j l o=>Bv o l Čj E (m.k K.l2 K.l1) λw N P c n A p e=>?_
 show q p _ _ (j.trans Þm) (j.h.free (Ëg e)) (Ϝf e) {w,yo,n,A}
#print a
#print L3
namespace L2
open ģ ĺ ϑ Ĭ
def EB(a:Ì)(o:Obj)(kvs:Á ŧ):It:={λi H=>H a=À ż/\i<Ķ,λi H v b=>∃p k u,H p=Æ/\v=.ref p/\kvs[i]?=À (k,u)/\b=zd H p ŗh,λi H=>H a=À ż/\Ķ<=i}
def w1u{P:ï}{w:è}{K:Ñ}{A:Á Õ}{S:Ã}{pos:Pos}{kvs:Á ŧ}{o:Obj}{es:Ü Ĥb}{ep:Ã}(a it:Ì)(d:ĸa=.dict es ep) :j_ P w K (.Tuple A S pos) ϩn όb it (λi h=>∃ok ov,IsItemIter h it a i Ķ ep ok ov) where
 mem:=by simp
 obj:=λi h st b hb=>by
  let e:b=it:=by simpa using hb
  subst e;let{ok,ov,g}:=st;show{_,g,λv q=>nomatch q}
 Ča:=λi h h' st k=>by let{ok,ov,g}:=st;show{ok,ov,k it ê _ g}
 ϕa:=by
  rw[Ūp];let hi:i<Ĝa:=by rw[r];show B.2
  let G:f[i]?=À (f[i].1,f[i].2):=ğ hi;let{u,hk,ru}:=Bm j G;let n:it<Þ:=Ĵ g;rw[<-r]at g;show wpAny_pyNext_items_item g Q G λm Z t ho ht hz Y=>?_
  show{_,rfl,wpAny_letOwnedTupleGo_items (s:={ s with ì:=Z }) ho λF C l=>?_}
  replace l:Ĝb it Z F:=l
  let hTs:Ē Þ=Æ:=by
   cases q:Ē Þ with
   |Æ=>rfl|À o=>show ß őe Ãa
  let y:H Þ=Æ:=Ĕb Đ;let tup:Ŗj Þ=À { cls:=.type ŷ,ċ:=.seq #[m,f[i].2] }:=ϑc _ _ (ęb n) ht
  let S:∀c o,c ∉ όb->Ē c=À o->Ŗj c=À o:=λc o p z=>by
   let x:c≠it:=λq=>p ÿk
   show ϑc _ _ x (Y c o x z)
  let O:xc ú X.w (zd H Þ öh) F Þ öh:={Éh,[m,f[i].2],.cons (NV t) (.cons ru .nil),{_,tup,rfl,_,rfl}};rw[r]at C;show{.ref Þ,zd H Þ öh,I.CL (tk:=Ď) J S hTs y O,rfl,{Þ,_,u,y,rfl,hk,rfl},{m,_,C},λc p=>?_};rw[yH];show(J c p).1;intro q;let e:c=it:=by simpa using p
  rw[e]at q;rw[q]at n;show ß n Ãa
 done:=by rw[Ūp];let G:f[i]?=Æ:=ĉb (by rw[r];show B.2);rw[<-r]at g;show wpAny_pyNext_items_end (óa p) g Q G λZ R=>{rfl,I.but (tk:=Ď) J λc ob T eb=>R c ob (λq=>T ÿk) eb}
 Ľb:=λ_ _ _ _ _ st h=>by let{ok,ov,g}:=st;show W.kcp_self g h
def y1f(i:Ã):TI:=λσ H R=>∃a o kvs,σ[i]?=À ĵd/\H a=À ż/\R ϩn H
def x1f{X:Cx}{r:Á Õ}{S:Ã}{n:Pos}{x:Ç}{p d f:Pos}{i:Ã}(hN:X.N[i]?=À x)(hv:pV Ða x)(Y:Î ķ q10)(G:Î Æb q10)(j:Î òk q12)(k:Î Òl q12) :PI X (.Tuple r S n) (.Call (.Attribute Îa Ŷ d) [] [] f) (y1f i):=by
 intro K s σ H R I A;let{a,o,m,Q,e,A}:=A;show Ϧg j k (zt (WM (pos:=p) hN hv Y G K s σ H ĕl I {_,Q,rfl,rfl}) λv c ⟨y,l,C,O,e1,e2⟩=>?_);subst e1 e2;cases(show v=ė a from O);let{g,_,_,_,_,o',es,ep,L,_,h,_}:=(show xc ú X.w l şe a Än from C.zi a _ e);rw[g]at L;cases L;let{U,E,B,J}:=YX C.zi e h;let ln:Íj=ħb:=p8 B;let u:ϗh Ϧb a E:=J.dictOf
 let T:∀b,ė a=.ref b->∃t,Ĝd b=À t/\t.dict=Æ:=λb q=>by cases q;let{t,_,_,Z,P,_}:=u;show{t,Z,P.2.1}
 show{ϐ,_,Ãf,ôl,PySem.F.type_dict_items,u.typeIs,T,àd rfl Êh};show Ϯd ôl u.typeIs PySem.F.entry_dict_items (PySem.F.args_dict_items_1 _) (meets_dict_items Ϧb a U) {{E,u},?_};let z:zI X K σ l { c with ì:=ðe { cls:=.type Šn,ċ:=.fields #[.ref a] } }:=C.kept (t':=ĳb) λb o e=>Ĳ _ e
 show wpAny_pyIter_items (knd:=xN ú X.w) (s:={ c with ì:=ðe { cls:=.type Šn,ċ:=.fields #[.ref a] } }) {_,ũ _ rfl,rfl,rfl} (J.push _) ?_;rw[ln];show{_,[_],_,_,l,rfl,z.kept (t':=ĳb) λb o e=>Ĳ _ e,w1u a _ h,{_,_,ũ _ rfl},λb hb=>?_,A};let e:=ϖ hb;subst e;show z.ZE Đ (z.zi.fresh Đ)
#print L2
namespace L3
open ģ ĺ ϑ Ĭ L2
def Yv(ks:Á zZ)(ds:Á D):Á D:=Íb (λk d=>Ċa Õp) ks ds
def Q6(i:Ã):FA:=λτ=>match τ[i]? with
 |À Þh=>if ţd p_=Ä then À Żo else Æ|_=>Æ
def z7i(i:Ã):YA i (Q6 i):=λτ x a=>by
 unfold Q6 at a
 rw[žp]
def z7g{K:Ñ}{G:Hp}{a:Ì}{o:Obj}{ks:Á zZ}{ds:Á D}{vs:Á V}(w:Ĉ=Ć)(e:G a=À üf)(l:å K G ds vs)(h:ţd p_=Ä):jK K (EB a o ĕa) G Żo where
 go:=λi j H g c b=>{c _ _ Įp,by rw[Ùq]}
 uh:=λi j H x z g c b y=>by let{p,k,u,m,rfl,s,rfl}:=y;let{f,v}:=z3a s;let{d,r,t}:=l.at v;show{zd j p ŗh,.tup Õp,ıb c m,?_,?_};unfold Yv;rw[Ìf,f,r];let q:yN G (zd j p ŗh):=Œd İm;show{p,[kV k,u],rfl,żb yo,{_,_,rfl,NW (øa h k (ūa f)),{u,_,rfl,t.mono q,rfl}},L2.small (n:=2) Í}
 Š:=λi j H g c b=>{c _ _ Įp,by rw[Ùq]}
def x6c(s:X.N[i]?=À x)(hv:pV Ða x)(l:Î ķ q10)(j:Î Æb q10)(b:Î òk q12)(d:Î ča q12):IR X i (.Tuple elts kk tpos) (.Call (.Attribute Îa Ŷ Ű) [] [] Ϡ) (Q6 i):=by
 show{{_,x1f s hv l j b d,λ{y w G H τ σ k R} K u f q=>?_}};let{a,o,g,h,z,m,v,e,r,n,t}:=u;unfold Q6 at f;rw[m]at f
 change (if g.all p_=Ä then À (Yv g h)else Æ)=À k at f
 by_cases c:g.all p_=Ä;rw[Ó c]at f;cases f;show{a,o,_,v,àa _ _ e,q _ _ _ Ęe ?_ (z7g r e n c)};unfold Yv;rw[çc];show đ ėe t;rw[Ô c]at f;cases f
#print L3
namespace L2
open ģ ĺ ϑ Ĭ
def y4f(a d:Value):īg ϴa {[a],[(Ϲd,d)]}:=by unfold īg;kernel_rfl
section
variable{Ī:ï}{w:è}{A:ā}{R:Ád->Ï->È}{I:Ì}{fp wr:Á Ì}{n:Ã}{P:Ã->Value->È}{St:Ã->Heap->È}{kw:Á Śb}
def D6:(ĭd ϴa ++ ĭd ".loop" : äa) = ęi:=by decide
theorem P4(W:Walks Ī w ϔ I fp wr n P St)(q:Ã->Ã->Ð)(m:CmpOf Ī w ϔ .Gt P q)(S:Ì)(p:S ∉ fp):∀(k j:Ã)(s:Ï)(vb:Value)(c:Ã),n-ϻ=k->j+1<=n->St ϻ ä->P ϊi vb->
  Ē S=À { cls:=.type ĸ,dict:=Æ,ċ:=.seq #[vb,vb] c,űd:=#[] }->(∀v h' tk,P (ϛc q Že) v->(∀b o,b ∉ wr->b≠S->Ē b=À o->ĩ b=À o)->R Ŋp { s with ì:=h',Ě:=tk })->
  ëb ð A (.builtin ęi {ľl,kw}) R s
 |k,j,s,vb,c,hk,hj,hst,hPb,hS,hR=>by
  let z:S ∉ wr:=λh=>p Ĥo
  show ïd ďl ?_;rw[ϒd ìd _]
  change Ý _ ϔ ϴk _ _ s
  show Ø (Éb hS rfl ?_)
  change Ý _ ϔ ĵk _ _ s
  match k,hk with
  |0,hk=>
   let y:j+1=n:=by omega
   show Ø (ñd (W.done s _ _ (y▸hst) λh' tk f=>?_));let i:=f S _ z hS
   change Ý _ ϔ (ωe Śo) _ _ _
   show Ø (äh i rfl ēp);show hR vb _ tk (by rw[<-y];show hPb) λb o a d e=>(ĵn).trans ċi
  |k+1,hk=>
   let x:j+1<n:=by omega
   show Ø (ñd (Ŏj ϻ s _ _ x hst λv h' tk E r f=>?_));let i:=f S _ z hS
   change Ý _ ϔ (tryCatch (holding [v,v] (richCompare .Gt v vb >>= _)) _ >>= _) _ _ _
   show Ø (ñd (Ċb (Ø (m ϻ ϊi v vb _ _ _ E hPb (Ø (Ċb (çd ēp)))))));cases hb:q ϻ ϊi with
   |Ä=>simp only[Ů];show Ø (äh i rfl (Ø (ϡe ?_)));rw[D6];refine Ĥ {ód ìd _,P4 W q m S p k ϻ _ v _ É x (Ąj _ _ _ r λb C o e=>?_) (by simp only[ϛc,hb,Ů];show E) (Íf _ i rfl) λB u l t g=>?_};show(ωa (λh:S=b=>p (by rw[h];show C))).trans e;show hR B u l t λb o a d e=>g b o a d ((ĵn).trans ċi)|Â=>simp only[ŉb,áa];show Ø (ϡe ?_);rw[D6];refine Ĥ {ód ìd _,P4 W q m S p k ϻ _ vb c É x r (by simp only[ϛc,hb,ŉb,áa];show hPb) i λB u l t g=>?_};show hR B u l t λb o a d e=>g b o a d ċi
def y4g(W:Walks Ī w ϔ I fp wr n P St)(y:Ã->Ã->Ð)(j:CmpOf Ī w ϔ .Gt P y)(S:Ì)(f:S ∉ fp)(i:St 0 ä)(C:Ē S=À { cls:=.type ĸ,dict:=Æ,ċ:=.seq #[] c,űd:=#[] })(B:∀v h' tk,ęo->(0<n->P (ϛc y Že) v)->(∀b o,b ∉ wr->b≠S->Ē b=À o->ĩ b=À o)->R Ŋp { s with ì:=h',Ě:=tk }) :ëb ð A (.builtin ęi {ľl,Ŷf}) R s:=by
 let x:S ∉ wr:=λh=>f Ĥo
 show ïd ďl ?_;rw[ϒd ìd _]
 change Ý _ ϔ ϴk _ _ s
 show Ø (Éb C rfl ?_)
 change Ý _ ϔ ĵk _ _ s
 by_cases hn:n=0;subst hn;show Ø (ñd (W.done s _ _ i λh' tk a=>?_))
 change Ý _ ϔ (rule _ >>= _) _ _ _
 show Ø (ϴe Ýb);show B dv _ tk ďc (λz=>ß z Ãa) λb o d g e=>a b o d e;let p:0<n:=by omega
 show Ø (ñd (Ŏj 0 s _ _ p i λv h' tk G q a=>?_));let l:=a S _ x C
 change Ý _ ϔ (ωe (λ_=>#[v,v])) _ _ _
 show Ø (äh l rfl ?_);rw[D6];show Ĥ {ód ìd _,P4 W y j S f _ 0 _ v _ rfl p (Ąj _ _ _ q λb t o e=>?_) G (Íf _ l rfl) λE u m r k=>?_};show(ωa (λh:S=b=>f (by rw[h];show t))).trans e;show B E u m (λz=>ß z hn) (λ_=>r) λb o d g e=>k b o d g ((ωa (Įb g)).trans (a b o d e))
#print a
section
variable{Ī:ï}{w:è}{A:ā}{E:Value->Ï->È}{s:Ï}
def w1r{a:äa}{b:ăg}{ϯ:Á Value}{c:Á Śb}{Q:Value->Ï->È}(hk:builtinKind a=Æ)(j:plainId a=Ä)(i:entryFor table a=À b)(h:īg a {ϯ,c})(g:Ý ð ϔ (b {ϯ,c}) (λfin s'=>match fin with
   |.done f=>(match(Except.ok f:Ád)with|.ok Ēe=>Q v s'|.ok _=>ÿ|.error e=>E e s')
   |.again c'=>c'.quiet=Ä/\ëb ð A c' (λr s'=>match r with|.ok Ēe=>Q v s'|.ok _=>ÿ|.error e=>E e s') s') E s):Ý ð A (Áb (.builtin a) ϯ c) Q E s:=by
 show āf (Śl j i ?_);simp only[checkBuiltinCall,hk];cases hsig:Manifest.signature? a with
 |Æ=>show Ĥ g|À sig=>
  let d:Bind.checkArgs a sig {ϯ,c}=pure ():=by simpa only [īg,hsig]using h
  simp only[d];show Ĥ g
def z6g
  (h:Ý ð ϔ (Śe x) (λit s₂=>∃I fp wr n P St bt,it=.ref I/\Walks Ī w ϔ I fp wr n P St/\St 0 s₂.heap/\(∀b∈fp,b<úh)/\CmpOf Ī w ϔ .Gt P bt/\
   ∀v h' tk,ęo->(0<n->P (ϛc bt Že) v)->(∀b o,b ∉ wr->s₂.heap.get? b=À o->ĩ b=À o)->Q v { s₂ with ì:=h',Ě:=tk }) E s) :
  Ý ð A (Áb Ĕn [x] Ŷf) Q E s:=by
 show w1r PySem.F.kind_max PySem.F.plain_max PySem.F.entry_max (y4f _ _) ?_
 change Ý _ ϔ (Ϟk ϴa ño 0 {[],Ŷf} >>= _) _ _ s
 show Ø (Æo (show Ϟk ϴa ño 0 {[],Ŷf}=pure [Æ,À dv]from rfl) ?_);show Ø (Φa (ďa h (λit s₂ p=>?_) λ_ _ e=>e));let{I,fp,wr,n,P,St,bt,rfl,W,d,f,a,i}:=p;show Ø (łc ?_);let c:úh ∉ fp:=λk=>čd _ (f _ k)
 rw[D6];show Ĥ {ód ìd _,y4g W bt a úh c (Ąj _ _ _ d λb _ o e=>Ĳ _ e) đd λv h' tk j m l=>?_};show i v h' tk j m λb o g e=>l b o g ϑi ϯf
#print a
section
variable{X:Cx}
nonrec def Ïd:Á Å->Å
 | []=>0|x::xs=>ĥe ώd x
theorem nW:∀(xs:Á Å)(x:Å),(ĥe ώd x=x\/ĥe ώd x∈xs)/\x<=ĥe ώd x/\∀y∈xs,y<=ĥe ώd x
 | [],x=>{.inl rfl,Ėa _,λy h=>ß h ê}|z::xs,x=>by
  let{a,b,c}:=nW xs áh;let f:x<=if x<z then z else x:=by rw[Ϩp]
  let e:z<=if x<z then z else x:=by rw[Ϩp]
  show{?_,ĕd f b,λy d=>?_};rcases a with a|a;by_cases q:x<z;rw[Ó q]at a
  right
  exact Ĥd _ áh xs∈z::xs;rw[Ó q,a];show ĳ;left
  rw[Ô q]at a;exact Ĥd _ áh xs=x;rw[Ô q,a];show .inr ϲb;rcases ň d with rfl|d;show ĕd e b;show c y d
def y3u(h:xs≠[]):Ïd xs∈xs/\∀y∈xs,y<=Ïd xs:=by
 cases xs with
 |nil=>show ß rfl h|ó x xs=>let{a,b,c}:=nW xs x;show{?_,λy d=>?_};rcases a with a|a;exact Ĥd _ x xs∈_;rw[a];show ĳ;show æa _ a;rcases ň d with rfl|d;show b;show c y d
def Àp(h:m∈xs)(c:∀y∈xs,y<=m):m=Ïd xs:=by let{a,b}:=y3u (xs:=xs) (λz=>by rw[z]at h;show ß h ê);let:=b m h;let:=c _ a;omega
def x7t(K:Ñ)(b c:TE):TE:=λσ H Q=>b σ H λx d=>c σ d λz a=>∃(p:Ì) (ns:Á Å),x=.ref p/\yu K a p ēa/\Q Ķk a
def rf(K:Ñ)(x:V)(Q:VK):Á V->Hp->È:=λb a=>match b with
 | [z]=>∃(p:Ì) (ns:Á Å),x=.ref p/\yu K a p ēa/\Q Ķk a|_=>ÿ
def x2v(K:Ñ)(a:TE)(σ:St)(Q:VK):Á V->Hp->È:=λd b=>match d with
 | [x]=>a σ b λz c=>rf K x Q [z] c|_=>ÿ
def x0y(f:Ϝ=Ä)(hg:Gl X ϴa)(hm:õ ϴa=Æ)(ha:PE X a ta)(hd:PE X e td)(G:Î Ϝg q12) :PE X (.Call śn [a] ŕm pos) (x7t X.K ta td):=by
 intro S s σ H Q I h;let pa:PA X [a] (Qm ta X5):=oV ha U2 G;let pk:PK X ŕm (Qm td X5):=x1t hd x1v;show æd (WC I hg hm z62 ?_);show PyProof.Rows.callWith_kw (zt (pa pos S s σ H (x2v X.K td σ Q) I h) λus s1 ⟨vs,H1,I1,N,R⟩=>?_) Ŵh Ŵh
 match vs,N,R with
 | [x],N,R=>
  let{u,rfl,ru}:=uD N;show zt (pk pos S s1 σ H1 (rf X.K x Q) I1 R) λws w ⟨zs,Z,B,C,F⟩=>?_
  match zs,C,F with
  | [z],C,F=>
   let{dv,rfl,rd}:=uD C;let{l,c,rfl,hq,q}:=F;cases(show u=ė l from ru);let L:=B.ok.hd f;let{d,E,P,hz}:=B.list hq;let U:Ŕa=šh:=by let:=Íj;rw[ç]at this;rw[ĥ];rw[Ũp]
   let A:l<Ĭh:=by let{o,n,e,_}:=P;show Ĵ e
   show z6g ?_;show èd P.isList ?_;refine{_,_,_,_,_,_,_,rfl,ĩi Či Ĭh l (ϱ A) d.toArray,{{_,ũ _ rfl,rfl,rfl},P.isList.push _},?_,CmpOf.ints_gt Ĥm (λi v hv=>F9 E hv),?_};intro b T;exact b<(w.heap.push _).objs.size;rw[œb];simp only[Ųa,Īa,ža]at T;rcases T with rfl|rfl;show äc _;show úd A;intro v h' Y h0 hP k
   let kp:∀b o,w.heap.get? b=À o->ĩ b=À o:=λb o O=>k b o (λz=>by
    let:b=Ĭh:=by simpa using z
    rw[this]at O;show ß (Ĵ O) Ãa) (Ĳ _ O)
   by_cases e0:c=[];rw[Ó e0]at q;have:v=dv:=h0 (by rw[<-U,e0];rfl);rw[Ĝq];show{z,Z,B.kept (t':=Y) kp,rd,q};rw[Ô e0]at q;let g:0<Ŕa:=ϙd e0;have J:=hP (by rw[<-U];show g);let{t,rfl}:=F9 E J;let{b1,b2}:=argBest_gt Ĥm (šh-1);generalize ϛc (λi j=>decide (ŉj i 0>ŉj j 0)) (šh-1)=m at *;let r:m<Ŕa:=by omega
   let em:ŉj m 0=Ïd c:=by
    show Àp ?_ λy hy=>?_;rw[Úa,ğ r];show Ëb r;let{j,hj,rfl}:=úl hy;let:=b2 j É
    rwa [Úa,ğ hj]at this
   show{.int (Ïd c),Z,B.kept (t':=Y) kp,{t,by rw[<-em]},q}
#print a
#print L2
namespace L3
open ģ ĺ ϑ Ĭ L2
nonrec def Yh:Á D->Ê ϱf
 | []=>À []|.int i::r=>(Yh r).bind λa=>À Űj|_::_=>Æ
theorem NI{K:Ñ}{G:Hp}:∀{xs:Á D}{ns:Á Å}{vs:Á V},Yh xs=À ns->å K G xs vs->vs=ϐa Íd
 | [],ns,vs,h,r=>by cases h;show(show vs=[]from r)|.int i::xs,ns,vs,h,r=>by let{e,b,h}:=zJ (show(ĳj).bind _=_ from h);cases h;let{v,d,rfl,c,a}:=r;cases(show v=.int i from c);rw[NI b a];rfl
 |.zD::_,_,_,h,_=>by cases h|.bl _::_,_,_,h,_=>by cases h|.str _::_,_,_,h,_=>by cases h|.tup _::_,_,_,h,_=>by cases h|.lst _::_,_,_,h,_=>by cases h|.dic _ _::_,_,_,h,_=>by cases h|.exc _::_,_,_,h,_=>by cases h|.obj _ _ _::_,_,_,h,_=>by cases h
theorem ml:∀ns:Á Å,Yh ϡ=À ns
 | []=>rfl|n::ns=>by exact(Yh ϡ).bind _=_;rw[ml ns];rfl
def HY:D->D->Ê D
 |.lst xs,z=>(ĳj).bind λa=>À (if a=[]then z else .int (Ïd a))|_,_=>Æ
def x5v{X:Cx}{a e:Õ}{j k:FE}{p L pos:Pos}(f:Ϝ=Ä)(O:Gl X ϴa)(I:õ ϴa=Æ)(y:SE X a j)(B:SE X e k)(A:Î ϋc q12):SE X (.Call śn [a] [{À Ϲd,e,L}] pos) (e2 HY j k):=by
 let{ta,C,P}:=y.h;let{Z,K,N}:=B.h;show{{_,x0y f O I C K (tP A),λ{U S G H τ σ d Q} E b q=>?_}};let{x,J,b}:=zJ b;let{z,R,b}:=zJ b;show P E J λv T Y g s=>?_
 show N (Àa g) R λu m n i F=>?_
 cases x with
 |lst xs=>let{o,t,b}:=zJ b;cases b;let{l,vs,rfl,r,w,_}:=s;let e:=NI t w;subst e;show{l,o,rfl,ux (g.gh.trans i.h) r,?_};by_cases c:o=[];rw[Ó c];rw[Ó c]at q;show q u m n (Œd i) F;rw[Ô c];rw[Ô c]at q;show q _ m n (Œd i) rfl
 |_=>cases b
nonrec def HX:Á D->Ê D
 | [.dic ks _]=>À (.int Ĉ)|_=>Æ
def z6b:vV X Ăd ϯj:=by intro e s σ H xs f Q I r h;let{a,kvs,rfl,c,q}:=h;let{u,rfl,b}:=uD r;cases b;show z79 I c λt g d=>{.int Ķ,H,d,{t,rfl},q}
def y8s{K:Ñ}:VP K ϯj HX:=λG H f j d Q s r b q=>by
 rcases f with _|⟨x_,r_⟩;cases b
 cases x_<;>first|(cases b;done)|skip
 cases r_<;>first|(cases b;done)|skip
 rename_i l xs;cases b;let{v,c,rfl,g,i}:=r;cases(show c=[]from i);let{a,j,rfl,e,h,k,_}:=g;show{a,_,rfl,e,?_};rw[đa,<-h,þa];rw[Üq]
#print L3
namespace L2
open ģ ĺ ϑ Ĭ
open ăg þi
section
variable{X:Cx}
def y4e:YG X "str.startswith" (Οd (Txt.startswith z y)):=by rw[ũp];show ło F.slot_str_startswith (âd _ _ _) F.entry_str_startswith (F.args_str_startswith_2 _ _) (gives_str_startswith z y t c) {.bl _,H,I,rfl,q}
def y48:YG X "str.endswith" (Οd îp):=by rw[ũp];show ło F.slot_str_endswith (âd _ _ _) F.entry_str_endswith (F.args_str_endswith_2 _ _) (gives_str_endswith z y t c) {.bl _,H,I,rfl,q}
def y4c:YG X "str.partition" (λx vs H Q=>∃z y:Ç,x=.str z/\vs=[.str y]/\ęc=Â/\ü<=â/\∀p,H p=Æ->Q ž (zd H p êk)):=by
 intro f s σ H x vs v w Q I l g h;let{z,y,rfl,rfl,m,n,q}:=h;let{t,rfl}:=(show ∃t,v=ŏa z t from l);let{u,rfl,t',rfl}:=uD g;show ŏb F.slot_str_partition öe F.entry_str_partition (F.args_str_partition_2 _ _) (meets_str_partition z y t t' m n) ?_
 let a:∀(d tb c:Tok)(k:Ã),EP X f σ Q ġb { s with Ě:=k,ì:=ûa { cls:=.type ŷ,ċ:=.seq (æk).toArray } }:=λd tb c k=>by let j:zx [Żb Ïb.1,.str Ïb.2.1,.str Ïb.2.2] æk:=.cons {_,rfl} (.cons {_,rfl} (.cons {_,rfl} .nil));show{.ref Þ,_,Ťa (o:=.tup _) (t':=k) ëf Đ {ìl,_,j,{_,ũ _ rfl,rfl,_,rfl}},rfl,q _ ϱc}
 unfold Ĺc at a
 revert a
 cases occurrences z y 0 ü 1 with
 |nil=>intro a;show a _ _ _ _|ó i r=>intro a;show a _ _ _ _
theorem z1t:∀l:Á ķi,zx ((ś (·.1)).map Żb) čj
 | []=>.nil|p::r=>.cons {p.2,rfl} (z1t r)
def z19(x y:Ç)(h:Ça+2<=â):(úp).length<=â:=by
 let a:[x].length<=â:=by exact 1<=â;decide
 unfold Œb
 split;show a;split;show a;rw[ðq]
def y4d:YG X "str.split" (λx vs H Q=>∃z y:Ç,x=.str z/\vs=[.str y]/\ęc=Â/\ü+2<=â/\∀p,H p=Æ->Q ž (ψa ((ùp).map Żb))):=by
 intro c s σ H r vs v n Q I i g h;let{x,y,rfl,rfl,d,j,q}:=h;let{t,rfl}:=(show ∃t,v=ŏa x t from i);let{m,rfl,u,rfl}:=uD g
 let a:∀(l:Á ķi) (k:Ã),ś (·.1)=Œb x y->EP X c σ Q ġb { s with Ě:=k,ì:=ûa { cls:=.type ĸ,ċ:=.seq (čj).toArray } }:=λl k e=>by show{.ref Þ,_,Ťa (o:=.lst ((úp).map Żb)) (t':=k) ëf Đ {?_,Ņh l,0,?_,ũ _ rfl},rfl,q _ ϱc};rw[ç];show z19 x y j;rw[<-e];show z1t l
 let f:(äl).length<=â:=by rw[ðq]
 cases h1:(decide (Ça<ôc)||decide (strKind x<strKind y));cases hf:(ϳj).isEmpty;refine ŏb Èf öe Îh ϣg (meets_str_split_sep x y t u h1 d hf É f) ?_;exact wants Řn ı _ { s with Ě:=_,ì:=ûa { cls:=.type ĸ,ċ:=.seq (strsFrom Ď äl).toArray } };rw[strsFrom_eq];show a (PySem.numbered Ď _) _ ((numbered_texts _ _).trans ((ån).trans (Ô (ĺk hf))).symm);show ŏb Èf öe Îh ϣg (meets_str_split_not_found x y t u h1 d hf)
  (a [(x,t)] Ď ((ån).trans (Ó hf)).symm)
 show ŏb Èf öe Îh ϣg (meets_str_split_cannot_occur x y t u h1)
  (a [(x,t)] Ď (Ó h1).symm)
def fO(X:Cx)(e:Õ)(t:TE):È:=∀(z8:Á ô) (s:Ï) (σ:St) (H:Hp) (Q:VK),zI X z8 σ H s->t σ H Q->Ý Ą X.A Đd (λv a=>EP X z8 σ Q v a/\0<Ŧd) ı s
variable{a o:Õ}{ta to:TE}{i:Å}{ck ck1 ck2:Ã}{cp pos Ű Ϡ p1 p2:Pos}{y z:Ç}
def x19(z:PE X a ta)(A:MR Œl):fO X žd (LN (DU X.K) ta (tC Ŭ)):=by
 rw[àq];show īi (zt (z c s σ H _ I h) λv b ⟨x,d,F,o,J⟩=>Ìm ?_);let{p,R,T,B,rfl,e,n,G,q}:=(show DU X.K x Ŭ d Q from J);cases e;cases o;let l:zI X c σ d { b with Ě:=Īg+1 }:=F.tok _;let{C,r,m,S}:=l.tuple n;let{j,E,t,N,O,P}:=Me G;let{w,u,f}:=ϸa t;let y:=ſ;let L:=Vu;let g:EP X c σ Q w { b with Ě:=Īg+1 }/\0<Īg+1:={{B,d,l,f,q},Íi _}
 show Ød (x:=w) m.typeIs Ál
  (Ġn (j:=j) (Q:=λr k=>r=w/\(EP X c σ Q r k/\0<k.toks)) m É É (by rw[ĥ,<-y];show E) (by simpa using u) {rfl,g}) (A _ _)
nonrec def x82(y z:Ç)(to:TE):TE:=λσ H Q=>to σ H λx a=>∃w:Ç,x=.str w/\îa+Ĉg*ü<=16777216/\Q ϙo a
def x14(n:fO X o to)(d:(y==z)=Â)(a:Î (éa o ϓf Ù Ŝb=Ė o Ù) q12)(b:Î ča q12) :PE X (Εf (.Attribute o ϓf Ű)) (x82 y z to):=by rw[ßq];show čl a rfl b rfl (zt (n j s σ H _ I h) λv c ⟨⟨x,i,f,e,w,p,q,g⟩,r⟩=>?_);subst p;let{m,l}:=z27 (T := ķb) f e rfl;show{ķb,"str.replace",Éf,PySem.F.slot_str_replace,PySem.F.type_str_replace,m,l,?_};let{t,rfl}:=(show ∃t,v=ŏa w t from e);show àd rfl (ϵg ?_);show ϕd (Çh (k:=ck1) (pos:=p1) ?_);show ϕd (Çh (k:=ck2) (pos:=p2) ?_);show Ïh ?_;show SC.replace (by exact ĳb≠0;omega) (by exact ĳb+1≠0;omega) (by exact ĳb≠ĳb+1;omega) d q λu k=>{.str _,i,f.tok _,{_,rfl},g}
#print a
#print L2
namespace L3
open ģ ĺ ϑ Ĭ L2
nonrec def Iz:D->D->Ê D
 |.str z,.str y=>À (.bl (êf z y))|_,_=>Æ
nonrec def Iw:D->D->Ê D
 |.str z,.str y=>À (.bl îp)|_,_=>Æ
nonrec def Hb:D->D->Ê D
 |.str z,.str y=>if ęc=Â/\Ïb.1.length<=16777216/\Ïb.2.1.length<=16777216/\Ïb.2.2.length<=16777216 then À êk else Æ|_,_=>Æ
nonrec def Vg:D->D->Ê D
 |.str z,.str y=>if ęc=Â/\ü+2<=16777216 then À (εb ùp)else Æ|_,_=>Æ
def Hh(i:Å):D->Ê D
 |.tup xs=>uI xs i|_=>Æ
nonrec def Hc(y z:Ç):D->Ê D
 |.str w=>if îa+Ĉg*ü<=16777216/\(ße).length<=16777216 then À ϙo else Æ|_=>Æ
section
variable{X:Cx}{o e a:Õ}{fo f fa:FE}{Ű Ϡ p1 p2 cp pos:Pos}{nm:Ç}{id:äa}{rm:V->Á V->Hp->VK->È}{F:D->D->Ê D}{ck ck1 ck2:Ã}{i:Å}{y z:Ç}
def AK(g:Slot ķb nm id)(i:Ļj řb=pure ϲg)(J:YG X id rm)(O:∀{x y d:D},F x y=À d->∃w,x=.str w)(s:∀{w:Ç}{y d:D}{v:V}{G H:Hp}{Q:VK},yN G H->îa<=â->F ĕ y=À d->zh X.K G y v->(∀u G' H',zW G H G' H'->zh X.K G' d u->Q u H')->rm ĕ [v] H Q)(L:SE X o fo)(R:SE X e f)(a:Î (éa o nm Ù Ŝb=Ė o Ù) q12)(b:Î ča q12)(k:Î ϴ q12) :SE X (ν (.Attribute o nm Ű)) (e2 F fo f):=by
 let{Z,r,I}:=L.h;let{te,z,P}:=(zB R zL k).h;refine{{_,(QV Éf g i J {r} {z} a b øm îd).h,λ{U S G H τ σ d Q} E c q=>?_}};let{x,C,c}:=zJ c;let{y,N,c}:=zJ c;let{w,rfl}:=O c;show I E C λv T Y l m=>?_
 let{rfl,t}:=m;refine{rfl,P (Àa l) (ds:=[y]) êl λws G2 H2 j A=>?_};let{u,rfl,n}:=qH A;show s j.gh t c n λu G' H' B p=>q u G' H' ((l.trans j).trans B) p
def z0q(c:SE X o fo)(j:SE X e f)(a:Î (éa o şn Ù Ŝb=Ė o Ù) q12)(b:Î ča q12)(i:Î ϴ q12) :SE X (ν (.Attribute o şn Ű)) (e2 Iz fo f):=
 AK PySem.F.slot_str_startswith PySem.F.type_str_startswith y4e (λ{x y d} h=>by
  cases x with
  |str w=>show{w,rfl}|_=>cases h) (λ{w y d v G H Q} g l h r q=>by
  cases y with
  |str y=>cases h;let{rfl,_}:=r;show{w,y,rfl,rfl,q _ G H (úa g) rfl}
  |_=>cases h) c j a b i
def x5s(c:SE X o fo)(j:SE X e f)(a:Î (éa o Ĵo Ù Ŝb=Ė o Ù) q12)(b:Î ča q12)(i:Î ϴ q12) :SE X (ν (.Attribute o Ĵo Ű)) (e2 Iw fo f):=
 AK PySem.F.slot_str_endswith PySem.F.type_str_endswith y48 (λ{x y d} h=>by
  cases x with
  |str w=>show{w,rfl}|_=>cases h) (λ{w y d v G H Q} g l h r q=>by
  cases y with
  |str y=>cases h;let{rfl,_}:=r;show{w,y,rfl,rfl,q _ G H (úa g) rfl}
  |_=>cases h) c j a b i
def x5x(n:SE X o fo)(u:SE X e f)(a:Î (éa o Ϻn Ù Ŝb=Ė o Ù) q12)(b:Î ča q12)(t:Î ϴ q12) :SE X (ν (.Attribute o Ϻn Ű)) (e2 Hb fo f):=
 AK PySem.F.slot_str_partition PySem.F.type_str_partition y4c (λ{x y d} h=>by
  cases x with
  |str w=>show{w,rfl}|_=>cases h) (λ{w y d v G H Q} g l h r q=>by
  cases y with
  |str y=>
   change (if ęc=Â/\ϱb.1.length<=16777216/\ϱb.2.1.length<=16777216/\ϱb.2.2.length<=16777216 then À (Ċa [.str ϱb.1,.str ϱb.2.1,.str ϱb.2.2])else Æ)=À d at h
   by_cases c:ęc=Â/\ϱb.1.length<=16777216/\ϱb.2.1.length<=16777216/\ϱb.2.2.length<=16777216;rw[Ó c]at h;cases h;let{rfl,_}:=r;let{s,i,j,k}:=c;rw[<-Ŧ]at i j k;show{w,y,rfl,rfl,s,l,λp m=>q _ _ _ (ıb g m) {p,_,rfl,żb yo,{_,_,rfl,{rfl,i},_,_,rfl,{rfl,j},_,_,rfl,{rfl,k},rfl},ìl}};rw[Ô c]at h;cases h
  |_=>cases h) n u a b t
theorem sW{K:Ñ}{G:Hp}:∀{l:Á Ç},(∀a∈l,Èa<=â)->å K G (ś Ļ) (ś Żb)
 | [],_=>rfl|a::l,h=>{_,_,rfl,{rfl,h a Īb},sW λb c=>h b ϖi}
def z12(L:SE X o fo)(P:SE X e f)(i:Î (éa o "split" Ù Ŝb=Ė o Ù) q12)(j:Î ča q12)(l:Î ϴ q12) :SF X (ν (.Attribute o "split" Ű)) (e2 Vg fo f):=by
 let{Y,A,K}:=L.h;let{te,C,O}:=(zB P zL l).h;refine{{_,(QV Éf Èf PySem.F.type_str_split y4d {A} {C} i j (by rw[ų,l];rfl) îd).h,λ{T R G H τ σ d Q} E b q=>?_}};let{x,J,b}:=zJ b;let{y,N,b}:=zJ b;show K E J λv S U n r=>?_
 cases x with
 |str w=>
  let{rfl,B}:=r;refine{rfl,O (Àa n) (ds:=[y]) êl λZ G2 H2 z I=>?_};let{u,rfl,s}:=qH I;cases y with
  |str y=>
   change (if ęc=Â/\îa+2<=16777216 then À (Ùc ((Œb w y).map Ļ))else Æ)=À d at b
   by_cases c:ęc=Â/\îa+2<=16777216;rw[żp];let{rfl,_}:=s;let m:îa+2<=â:=by rw[Ŧ];show c.2
   let g:=n.trans z;show{w,y,rfl,rfl,c.1,m,λp k=>q p _ _ (Œd (ϑa g.gh k)) (Æj k) (ši k) {_,yo,sW λa t=>đ (part_short t) B,?_}};rw[ç];show z19 w y m;rw[Żp]
  |_=>cases b
 |_=>cases b
def x5y(B:SE X a fa)(s:MR Œl)(j:(y==z)=Â)(f:Î (éa žd ϓf Ù (Ė žd Ù)=Ė žd Ù) q12)(e:Î ča q12) :SE X (Εf (.Attribute žd ϓf Ű)) (e1 (Hc y z) (e1 (Hh i) fa)):=by
 let{O,t,I}:=B.h;show{{_,x14 (x19 t s) j f e,λ{L J G H τ σ d Q} E b q=>?_}};let{w,g,b}:=zJ b;let{x,A,g}:=zJ g;show I E A λv K N k n=>?_
 cases x with
 |tup xs=>
  let g:uI xs i=À w:=g;let{p,F,rfl,m,r,l}:=n;let{u,C,o}:=Py r g;show{p,F,i,u,rfl,rfl,uR k.gh m,C,?_};cases w with
  |str w=>
   change (if îa+Ĉg*ü<=16777216/\(ße).length<=16777216 then À (Ļ ße)else Æ)=À d at b
   by_cases c:îa+Ĉg*ü<=16777216/\(ße).length<=16777216;rw[żp];let{rfl,_}:=o;show{w,rfl,c.1,q _ _ _ k {rfl,by rw[Ŧ];show c.2}};rw[Żp]
  |_=>cases b
 |_=>cases g
#print a
#print L3
namespace L2
open ģ ĺ ϑ Ĭ
def z69{X:Cx}:vV X Ŵa (λxs H Q=>∃(z:Ç) (n:Å),xs=Îj/\ü<=640/\Íe z=À n/\Q êb H):=by intro c s σ H xs d Q I r h;let{z,n,rfl,b,a,q}:=h;rw[Åq];show W.KIN.call_text a b {.int n,H,ϟ _,{_,rfl},q}
#print L2
namespace L3
open ģ ĺ ϑ Ĭ L2
nonrec def HV:Á D->Ê D
 | [.str z]=>if ü<=640 then(Íe z).bind λn=>À êb else Æ|_=>Æ
def x5u{X:Cx}{e:Õ}{fs:FA}{p pos:Pos}(r:Gl X ĸb)(l:õ ĸb=Æ)(m:SA X [e] fs)(s:Î ϴ q12):SE X (Ξb (.Name ĸb p)) (eL HV fs):=by
 let{t,u,k}:=m.h;refine{{_,(U6 (p:=p) (pos:=pos) z69 r l iL {u} Í Í öm).h,λ{y w G H τ σ d Q} E a q=>?_}};let{f,g,a}:=zJ a;show k E g λB x A o b=>?_
 match f,a with
 | [.str z],a=>
  change (if ü<=640 then(Íe z).bind λn=>À (ý n)else Æ)=À d at a
  by_cases c:ü<=640;rw[Ó c]at a;let{n,i,a}:=zJ a;cases a;let{v,rfl,j}:=qH b;let{rfl,_}:=j;show{z,n,rfl,c,i,q _ _ _ o rfl};rw[Ô c]at a;cases a
#print L3
namespace L3
open ģ ĺ Ĭ L2
inductive M where
 |fz (d:D)|own (d:D)|obj (x:Ç) (fs:Á Ç) (ms:Á M)|tab (ks:Á Ľ) (ms:Á M)|tp (b:Ð) (ms:Á M)
nonrec def x6z(b:Ð)(ds:Á D):D:=match b with
 |Ä=>.lst ds|Â=>.tup ds
mutual
nonrec def vA:M->D
 |.fz d=>d|.own d=>d|.obj x fs ms=>.obj x fs Đc|.tab ks ms=>.dic ks Đc|.tp b ms=>x6z b Đc
nonrec def Ìd:Á M->Á D
 | []=>[]|m::ms=>vA m::Ìd ms
end
nonrec def Áa{κ α:Type}[ϩb κ]:Á κ->Á α->κ->Ê α
 |k'::ks,v::vs,k=>if k'=k then À v else Áa ks vs k|_,_,_=>Æ
nonrec def uw{κ α:Type}[ϩb κ]:Á κ->Á α->κ->α->Á α
 |k'::ks,v::vs,k,y=>if k'=k then y::vs else v::uw ks vs k y|_,vs,_,_=>vs
def AL{κ α:Type}[ϩb κ]{k:κ}{y:α}:∀{ks:Á κ}{ms:Á α},(uw ks ms k y).length=āa:=λ{ks}=>by
 induction ks with
 |nil=>intro ms;rfl|ó k' ks ih=>
  intro ms;cases ms with
  |nil=>rfl|ó y ms=>
   unfold uw
   split;rfl;rw[ą,ą,ih]
inductive wM where
 |at(cs:Á Ç) (f:Ç)|ky (k:Sum Å Ç)|ix (k:Ã)
def z1n:M->wM->Ê M
 |.obj x fs ms,.at cs f=>if x∈cs then Áa fs ms f else Æ|.tab ks ms,.ky k=>Áa ks ms k|.tp Ä ms,.ix k=>Áa Ěe ms k|_,_=>Æ
def x63:M->wM->M->M
 |.obj x fs ms,.at _ f,m=>.obj x fs (uw fs ms f m)|.tab ks ms,.ky k,m=>.tab ks (uw ks ms k m)|.tp b ms,.ix k,m=>.tp b (uw Ěe ms k m)|m,_,_=>m
def pY:M->Á wM->Ê M
 |m,[]=>À m|m,s::π=>(ėp).bind λa=>pY a π
def pF:M->Á wM->M->Ê M
 |_,[],m'=>À m'|m,s::π,m'=>(ėp).bind λa=>(pF a π m').bind λb=>À (x63 m s b)
abbrev Ft:=Ì->È
def SqB(K:Ñ)(G:Hp)(b:Ð)(p:Ì)(vs:Á V):È:=match b with
 |Ä=>G p=À Ág|Â=>xK K G p vs
def x6y{K:Ñ}{G a:Hp}{b:Ð}{p:Ì}{vs:Á V}(g:yN G a)(h:SqB K G b p vs):SqB K a b p vs:=match b with
 |Ä=>g _ _ h|Â=>uR g h
mutual
def xf(K:Ñ)(G H:Hp):M->V->Ft->È
 |.fz d,v,L=>zh K G d v/\∀q,¬ L q|.own d,v,L=>∃p,v=.ref p/\vh K G H d p/\∀q,L q↔q=p|.obj x fs ms,v,L=>∃p C dx vs L',v=.ref p/\ϝ K Ģ x=À ěa/\H p=À Úh/\Ĳa=Ć/\ϋ K G H ms vs L'/\¬ L' p/\∀q,L q↔q=p\/L' q|.tab ks ms,v,L=>∃p vs L',v=.ref p/\H p=À őp/\Ĉ=Ć/\ϋ K G H ms vs L'/\āa<=â/\¬ L' p/\∀q,L q↔q=p\/L' q|.tp b ms,v,L=>∃p vs,v=.ref p/\SqB K G b p vs/\ϋ K G H ms vs L/\āa<=â
def ϋ(K:Ñ)(G H:Hp):Á M->Á V->Ft->È
 | [],vs,L=>vs=[]/\∀q,¬ L q|m::ms,vs,L=>∃v r L1 L2,vs=v::r/\xf K G H m v L1/\ϋ K G H ms r L2/\(∀q,L1 q->L2 q->ÿ)/\∀q,L q↔L1 q\/L2 q
end
def ŏg{P:M->È}(g:∀d,P ĺd)(own:∀d,P îj)(a:∀x fs ms,(∀m∈ms,P m)->P ŷh)(c:∀ks ms,(∀m∈ms,P m)->P ϲn)(k:∀b ms,(∀m∈ms,P m)->P (.tp b ms))(m:M):P m:=
 M.rec (motive_1:=P) (motive_2:=λms=>∀m∈ms,P m) g own (λx fs ms h=>a x fs ms h) (λks ms h=>c ks ms h) (λb ms h=>k b ms h) äm
  (λd l i f e j=>by rcases ň j with z|z;show z▸i;show f e z) m
nonrec def iN:HO->Ð
 |.lst _=>Ä|.dK _=>Ä|.ins _ _ _=>Ä|_=>Â
def Bx(H:Hp)(q:Ì):È:=∃u,H q=À u/\iN u=Ä
def Bx.some{H:Hp}{q:Ì}(b:Bx H q):H q≠Æ:=by let{u,e,_}:=b;rw[e];show λz=>nomatch z
section
variable{K:Ñ}{G H G' H':Hp}
def vh.loc{d:D}{p:Ì}(g:yN G G')(h:H' p=H p)(o:vh K G H d p):vh K G' H' d p:=by
 cases d with
 |lst ds=>let{a,e,r,l}:=o;show{a,ùg e,ãa g,l}
 |dic ks ds=>let{a,e,z,r,l}:=o;show{a,ùg e,z,ãa g,l}
 |_=>show Ţd
theorem Ϗc:∀{ms:Á M}{vs:Á V}{L:Ft},(∀m∈ms,∀v L1,(∀q,L1 q->L q)->xf K G H m v L1->xf K G' H' m v L1)->ϋ K G H ms vs L->ϋ K G' H' ms vs L
 | [],_,_,_,h=>h|m::ms,vs,L,f,h=>by let{v,r,L1,a,e,c,d,j,u}:=h;show{v,r,L1,a,e,f m ĳ v L1 Ėl c,Ϗc (λi g b k s o=>f i (æa _ g) b k ŉk o) d,j,u}
theorem xf.loc(g:yN G G')(m:M):∀(v:V)(L:Ft),(∀q,L q->H' q=H q)->xf K G H m v L->xf K G' H' m v L:=by show ŏg (P:=λm=>∀v L,(∀q,L q->H' q=H q)->xf K G H m v L->xf K G' H' m v L) ?_ ?_ ?_ ?_ ?_ m;rintro d v L h ⟨r,n⟩;show{ãa g,n};rintro d v L h ⟨p,e,o,u⟩;show{p,e,ņg g (h p Én),u};rintro x I w a v L h ⟨p,C,E,j,t,e,B,k,l,r,n,u⟩;show{p,C,E,j,t,e,B,(Ϸf).trans k,l,Ϗc œk r,n,u};rintro F w a v L h ⟨p,j,t,e,k,l,r,A,n,u⟩;show{p,j,t,e,(Ϸf).trans k,l,Ϗc œk r,A,n,u};rintro b w a v L h ⟨p,j,e,y,r,l⟩;show{p,j,e,x6y g y,Ϗc (λm i c f s o=>a m i c f Ũl o) r,l}
theorem Ūn:∀{ms:Á M}{vs:Á V}{L:Ft},ϋ K G H ms vs L->Ć=āa
 | [],_,_,h=>by let{rfl,_}:=h;rfl
 |m::ms,_,_,h=>by let{v,r,c,b,rfl,_,a,_}:=h;rw[ą,ą,Ūn a]
theorem vh.bx{d:D}{p:Ì}(o:vh K G H d p):Bx H p:=by
 cases d with
 |lst ds=>let{a,e,_}:=o;show{_,e,rfl}
 |dic ks ds=>let{a,e,_}:=o;show{_,e,rfl}
 |_=>show Ţd
theorem Ğd:∀{ms:Á M}{vs:Á V}{L:Ft},(∀m∈ms,∀v L1,xf K G H m v L1->∀q,L1 q->Bx H q)->ϋ K G H ms vs L->∀q,L q->Bx H q
 | [],_,_,_,h,q,z=>ß z (h.2 q)|m::ms,vs,L,f,h,q,z=>by let{v,r,L1,g,e,d,a,i,u}:=h;rcases(u q).mp z with z|z;show f m ĳ v L1 d q z;show Ğd (λc b=>f c Ĵd) a q z
theorem xf.cells(m:M):∀(v:V)(L:Ft),xf K G H m v L->∀q,L q->Bx H q:=by show ŏg (P:=λm=>∀v L,xf K G H m v L->∀q,L q->Bx H q) ?_ ?_ ?_ ?_ ?_ m;rintro d v L ⟨r,n⟩ q z;show ß z (n q);rintro d v L ⟨p,e,o,u⟩ q z;cases(u q).mp z;show o.bx;rintro x k f a v L ⟨p,C,w,g,h,e,s,c,l,r,n,u⟩ q z;rcases(u q).mp z with rfl|z;show{_,c,rfl};show Ğd a r q z;rintro t f a v L ⟨p,g,h,e,c,l,r,j,n,u⟩ q z;rcases(u q).mp z with rfl|z;show{_,c,rfl};show Ğd a r q z;rintro b f a v L ⟨p,g,e,i,r,l⟩ q z;show Ğd a r q z
theorem F0:∀(ms:Á M),(Đc).length=āa
 | []=>rfl|m::ms=>by exact(Đc).length+1=_;rw[F0 ms];rfl
theorem ıe:∀{ms:Á M}{vs:Á V}{L:Ft},(∀m∈ms,∀v L1,(∀q,L1 q->L q)->xf K G H m v L1->zh K G' Šj v)->ϋ K G H ms vs L->å K G' Đc vs
 | [],_,_,_,h=>h.1|m::ms,vs,L,f,h=>by let{v,r,L1,j,e,b,c,k,u}:=h;show{v,r,e,f m ĳ v L1 Ėl b,ıe (λg d a i s o=>f g ĳd a i ŉk o) c}
theorem xf.pS(g:yN G G')(m:M):∀(v:V)(L:Ft),(∀q,L q->G' q=H q)->xf K G H m v L->zh K G' Šj v:=by
 show ŏg (P:=λm=>∀v L,(∀q,L q->G' q=H q)->xf K G H m v L->zh K G' Šj v) ?_ ?_ ?_ ?_ ?_ m;rintro d v L h ⟨r,n⟩;show ãa g;rintro d v L h ⟨p,rfl,o,u⟩;let c:=h p Én;cases d with
 |lst ds=>let{a,e,r,l}:=o;show{p,a,rfl,Ĺb (õc e),ãa g,l}
 |dic A ds=>let{a,e,z,r,l}:=o;show{p,a,rfl,.inl (õc e),z,ãa g,l}
 |_=>show Ţd
 rintro x J y f v L h ⟨p,C,F,a,I,e,E,c,l,r,n,u⟩;show{p,C,F,a,e,E,(Ϸf).trans c,l,ıe Œk r};rintro A y f v L h ⟨p,a,I,e,c,l,r,B,n,u⟩;show{p,a,e,.inl ((Ϸf).trans c),l,ıe Œk r,by rw[F0];show B};rintro b y f v L h ⟨p,a,e,w,r,l⟩;let k:=ıe (λm t i j s o=>f m t i j Ũl o) r;cases b with
 |Ä=>show{p,a,e,Ĺb (g _ _ w),k,by rw[F0];show l}|Â=>show{p,a,e,uR g w,k,by rw[F0];show l}
theorem ĝd{κ:Type}[ϩb κ]{k:κ}{A:M}:∀{ks:Á κ}{ms:Á M}{vs:Á V}{L:Ft},ϋ K G H ms vs L->Áa ks ms k=À A->
  ∃v1 L1,Áa ks vs k=À v1/\xf K G H A v1 L1/\(∀q,L1 q->L q)/\∀{G' H':Hp}{m2:M}{L2:Ft},yN G G'->(∀q,L q->¬ L1 q->H' q=H q)->xf K G' H' m2 v1 L2->(∀q,L2 q->L q->L1 q)->ϋ K G' H' ϡm vs ϱg
 | [],_,_,_,_,e=>by cases e|_::_,[],_,_,_,e=>by cases e|k'::ks,m::ms,vs,L,h,e=>by
  let{v,r,p,y,rfl,t,x,b,u}:=h;unfold Áa at e;rw[ŵp];refine{v,p,by unfold Áa;rw[Ó c],t,λq z=>(ϸ).mpr ύc,λ{G' H' m2 L2} g j n l=>?_};unfold uw;rw[Ó c];show{v,r,L2,y,rfl,n,?_,λq d a=>b q (l q d ((ϸ).mpr (.inr a))) a,λq=>?_};show Ϗc (λE _ B F s o=>ņg g E B F λq z=>j q (ζa Ĥj) λw=>b q w Ĥj) x;rw[Ěq];rw[Łq];rcases(u q).mp z with z|z;show ß z w;rw[ìq];rw[ľq];show .inl {(ϸ).mpr ıa,λw=>b q w z};rw[Ô c]at e;let{v1,L1,e1,C,i,f}:=ĝd x e;refine{v1,L1,by unfold Áa;rw[Ô c];show e1,C,λq z=>(ϸ).mpr (.inr (i q z)),λ{G' H' m2 L2} g j n l=>?_};unfold uw;rw[Ô c];show{v,r,p,λq=>(y q/\¬ L1 q)\/L2 q,rfl,?_,f g (λq z w=>j q ϳd w) n (λq z w=>l q z ık),λq d a=>?_,λq=>?_}
  show t.loc g m v p λq z=>j q Ϥd λw=>b q z Īj;rcases a with⟨a,_⟩|a;show b q d a;show b q d (i q (l q a ((ϸ).mpr ój)));rw[Ěq];rw[Łq];rcases(u q).mp z with z|z;rw[ăq];rintro(z|⟨z,w⟩|z);show .inl {(ϸ).mpr ύc,λw=>b q z Īj};rw[ğq]
#print a
def wV(K:Ñ)(H:Hp):V->Á wM->V->È
 |v,[],u=>u=v|v,.at cs f::π,u=>∃p x C dx fs w,v=.ref p/\x∈cs/\ϝ K Ģ x=À ěa/\H p=À ėb/\Āc f=À w/\wV K H w π u|v,.ky k::π,u=>∃p kvs w,v=.ref p/\H p=À œ/\ud kvs k=À w/\wV K H w π u|v,.ix k::π,u=>∃p vs w,v=.ref p/\H p=À Ág/\Áa (Ía Ć) vs k=À w/\wV K H w π u
theorem Bw{κ α:Type}[ϩb κ][BEq κ][LawfulBEq κ]{k:κ}:∀{ks:Á κ}{vs:Á α},(ĕa).lookup k=Áa ks vs k
 | [],_=>rfl|_::_,[]=>rfl|k'::ks,v::vs=>by
  rw[Ŭa,ϻd];unfold Áa;by_cases c:k'=k;subst c;rw[Ó rfl];simp;rw[Ô c];let:(k==k')=Â:=by simpa using λz=>c ϸc
  rw[this];show Bw
theorem m5{α:Type}{k:Sum Å Ç}:∀{ks:Á Ľ} {vs:Á α},Áa ks vs k=Ċ ks vs k
 | [],_=>by unfold Áa Ċ;rfl|_::_,[]=>by unfold Áa Ċ;rfl|k'::ks,v::vs=>by unfold Áa Ċ;rw[Ïq];rw[Ô c,Ô c];show m5
section
variable{K:Ñ}{G H G' H':Hp}
theorem ñg(s:yN H H'):∀{π:Á wM}{v u:V},wV K H v π u->wV K H' v π u
 | [],_,_,h=>h|.at cs f::π,_,_,h=>by let{p,x,C,c,j,w,e,g,i,a,l,r}:=h;show{p,x,C,c,j,w,e,g,i,s _ _ a,l,ñg s r}
 |.ky k::π,_,_,h=>by let{p,b,w,e,a,l,r}:=h;show{p,b,w,e,s _ _ a,l,ñg s r}
 |.ix k::π,_,_,h=>by let{p,d,w,e,a,l,r}:=h;show{p,d,w,e,s _ _ a,l,ñg s r}
theorem Ĥc:∀{π:Á wM}{v u u':V},wV K H v π u->wV K H v π u'->u=u'
 | [],_,_,_,h,h'=>ùg h'.symm|.at cs f::π,_,_,_,h,h'=>by let{p,x,C,z,E,w,rfl,t,y,d,l,r}:=h;let{j,A,B,n,o,m,g,q,s,a,b,c}:=h';rw[ůp]
 |.ky k::π,_,_,_,h,h'=>by rw[Áq]
 |.ix k::π,_,_,_,h,h'=>by rw[Áq]
theorem ðg:∀{π:Á wM}{s:wM}{v u:V},wV K H v (π++[s]) u->∃w,wV K H v π w/\wV K H w [s] u
 | [],_,v,_,h=>{v,rfl,h}|.at cs f::π,_,_,_,h=>by let{p,x,C,n,i,w,e,j,m,c,l,r}:=h;let{g,b,d}:=ðg r;show{g,{p,x,C,n,i,w,e,j,m,c,l,b},d}
 |.ky k::π,_,_,_,h=>by rw[ϣp]
 |.ix k::π,_,_,_,h=>by rw[ϣp]
theorem Äg{m1:M}(Z:yN G H):∀{π:Á wM}{m:M}{v:V}{L:Ft},xf K G H m v L->pY m π=À m1->
  ∃v1 L1,wV K H v π v1/\xf K G H m1 v1 L1/\(∀q,L1 q->L q)/\∀{G' H':Hp}{m2:M}{L2:Ft},yN G G'->(∀q,L q->¬ L1 q->H' q=H q)->xf K G' H' m2 v1 L2->(∀q,L2 q->L q->L1 q)->
   ∃m',pF m π m2=À m'/\xf K G' H' m' v ϱg
 | [],m,v,L,h,e=>by
  cases e;show{v,L,rfl,h,λ_ z=>z,λ{G' H' m2 L2} g y I o=>{m2,rfl,?_}}
  let e:(λq=>(L q/\¬ L q)\/L2 q)=L2:=by
   funext q
   show øg {λz=>Ϯ (λw=>ß w.1 w.2) id,.inr}
  rw[e];show I
 |s::π,m,v,L,h,e=>by
  let{J,a,ee}:=zJ e
  let X:∀{p:Ì}{t L1 L2:Ft},¬ t p->(∀q,L q↔q=p\/t q)->(∀q,L1 q->t q)->(∀q,L2 q->L q->L1 q)->(¬ ((t p/\¬ L1 p)\/L2 p))/\∀q,((L q/\¬ L1 q)\/L2 q)↔q=p\/((t q/\¬ L1 q)\/L2 q):=λ{p t L1 L2} n u s o=>by show{?_,λq=>{?_,?_}};rintro(⟨z,_⟩|z);show n z;show n (s p (o p z ϰe));rw[Łq];rcases(u q).mp z with z|z;rw[ăq];rintro(rfl|⟨z,w⟩|z);show .inl {(ϸ).mpr ĭ,λw=>n (s q w)};rw[ğq]
  cases m with
  |fz d=>cases a|own d=>cases a|obj x fs ms=>
   cases s with
   |ky k=>cases a|ix k=>cases a| «at» cs f=>
    change ĥk=À J at a
    by_cases hx:x∈cs;rw[Ó hx]at a;let{p,C,dx,N,t,rfl,ns,E,l,r,n,u}:=h;rw[ŭp];refine{v1,L1,{p,x,C,dx,_,O,rfl,hx,ns,E,by rw[Bw];show e1,R},P,λq z=>(ϸ).mpr Ŷl,λ{G' H' m2 L2} g y I o=>?_};let{m',U,Q}:=S g ŭk I Ůk
    let F:=T g Ŋk Q ġm
    let eL:ìk=Ϣk:=by
     funext q
     rw[Şp];rw[ūp]
    rw[Ġq];refine{.obj x fs (uw fs ms f m'),by exact(ğd ĥk _)=_;rw[Ó hx,a];rw[Ûq],p,C,dx,N,_,rfl,ns,?_,l,F,f3,f4};rw[y p ϰe λw=>n Ŏn];show E;rw[Ô hx]at a;cases a
  |tab ks ms=>
   cases s with
   | «at» cs f=>cases a|ix k=>cases a|ky k=>
    change Áa ks ms k=À J at a
    let{p,N,t,rfl,E,l,r,l2,n,u}:=h;rw[ŭp];refine{v1,L1,{p,_,O,rfl,E,by rw[Wo _ l,<-m5];show e1,R},P,λq z=>(ϸ).mpr Ŷl,λ{G' H' m2 L2} g y I o=>?_};let{m',U,Q}:=S g ŭk I Ůk
    let F:=T g Ŋk Q ġm
    let eL:ìk=Ϣk:=by
     funext q
     rw[Şp];rw[ūp]
    rw[Ġq];refine{.tab ks (uw ks ms k m'),by exact(ğd (Áa ks ms k) _)=_;rw[a];rw[Ûq],p,N,_,rfl,?_,l,F,?_,f3,f4};rw[y p ϰe λw=>n Ŏn];show E;rw[AL];show l2
  |tp b ms=>
   cases s with
   | «at» cs f=>cases b<;>cases a|ky k=>cases b<;>cases a|ix k=>
    cases b with
    |Â=>cases a|Ä=>
    change Áa Ěe ms k=À J at a
    let{p,N,rfl,E,r,l}:=h;rw[ŭp];refine{v1,L1,{p,N,O,rfl,Z _ _ E,by rw[ſ];show e1,R},P,λq z=>i q (j q z),λ{G' H' m2 L2} g y I o=>?_};let{m',U,Q}:=S g (λq z w=>y q (i q z) w) I (λq z w=>o q z Īj)
    let F:=T g (λq z w=>y q z λB=>w ėg) Q (Ηd (o q z w))
    let eL:(λq=>(L q/\¬ A q)\/((A q/\¬ L1 q)\/L2 q))=ϱg:=by
     funext q
     rw[Şp];rw[ūp]
    rw[eL]at F;show{.tp Ä (uw Ěe ms k m'),by exact(ğd (Áa Ěe ms k) _)=_;rw[a];rw[Ûq],p,N,rfl,g _ _ E,F,by rw[AL];show l}
#print a
abbrev yU:=Á ğj
nonrec def Žb:M->Ê Sl
 |.fz d=>À (Â,d)|_=>Æ
def Zb(β:yU):yD:=β.map λo=>ľj Žb
def qM(β:yU):yD:=β.map λo=>Ņg λm=>(Â,vA m)
mutual
nonrec def vd:D->Ð
 |.zD=>Ä|.bl _=>Ä|.int _=>Ä|.str _=>Ä|.tup ds=>ĵb ds|_=>Â
nonrec def ĵb:Á D->Ð
 | []=>Ä|d::ds=>vd d&&ĵb ds
end
structure dC(K:Ñ)(H0 G H:Hp)(β:yU)(σ:St)(Ls:Ã->Ft):È where
 at_:∀(i:Ã)(m:M),β[i]?=À íb->∃v,σ[i]?=À Êa/\xf K G H m v ųj
 dj:∀(i j:Ã)(q:Ì),i≠j->Ls i q->Ls j q->ÿ
 ok:∀(i:Ã)(q:Ì),Ls i q->G q=Æ/\H0 q=Æ/\Bx H q
structure yK(K:Ñ)(n:Ã)(P:Á V)(G0 H0 G H:Hp)(β:yU)(σ:St):È where
 ext:zW G0 H0 G H
 l1:σ.length=n
 l2:β.length=n
 lp:Ąa<=n
 pin:∀(i:Ã)(v:V),P[i]?=À v->σ[i]?=À Êa
 own:∃Ls,dC K H0 G H β σ Ls
section
variable{K:Ñ}{n:Ã}{P:Á V}{G0 H0 G H G' H':Hp}{β:yU}{σ:St}
def G_{q:Ì}(x:zW G H G' H')(g:G q=Æ)(b:Bx H q):G' q=Æ/\Bx H' q:=by
 let{u,e,c}:=b;show{?_,u,x.h _ _ e,c};cases z:G' q with
 |Æ=>rfl|À o=>rcases Ëd q (by rw[z];show λw=>nomatch w)with w|w;show ß g w;rw[e]at w;cases w
def yK.go(E:yK K n P G0 H0 G H β σ)(x:zW G H G' H'):yK K n P G0 H0 G' H' β σ:=by let{j,F}:=ϔa;show{ço x,Ż,ź,Äb,Ļb,j,λi m h=>?_,Ëa,λi q z=>?_};let{v,e,o}:=ġa i m h;show{v,e,ņg x.g m v _ λq z=>?_};let{u,d,_}:=Źc.2.2;rw[d];show x.h _ _ d;rw[Òq];let{k,f}:=G_ x a c;show{k,b,f}
def y1e{i:Ã}{b:Ð}{d:D}(h:ϒf[i]?=À ùe):b=Â/\β[i]?=À (À ĺd):=by
 unfold Zb at h;rw[Ś]at h;cases e:β[i]? with
 |Æ=>rw[e]at h;cases h|À o=>
  rw[e]at h;cases o with
  |Æ=>cases h|À m=>
   cases m with
   |fz d'=>cases h;show{rfl,rfl}|_=>cases h
def x8x{i:Ã}{b:Ð}{d:D}(h:ĕg[i]?=À ùe):b=Â/\∃m,β[i]?=À íb/\d=vA m:=by
 unfold qM at h;rw[Ś]at h;cases e:β[i]? with
 |Æ=>rw[e]at h;cases h|À o=>
  rw[e]at h;cases o with
  |Æ=>cases h|À m=>cases h;show{rfl,m,rfl,rfl}
def lD{τ:yD}(s:yN G H)(c:σ.length=n)(a:τ.length=n)(h:∀(i:Ã)(b:Ð)(d:D),τ[i]?=À ùe->b=Â/\∃v,σ[i]?=À Êa/\zh K G d v):yJ K n G H G H τ σ:=
 {úa s,c,a,λi d e=>(h i Â d e).2,λi d e=>(by cases(h i Ä d e).1),λi j d e p _ f=>(by cases(h i Ä d f).1)}
def yK.MD(E:yK K n P G0 H0 G H β σ):yJ K n G H G H ϒf σ:=by
 let{c,F}:=ϔa;refine lD ėa Ż (by unfold Zb;rw[ç];show ź) λi b d h=>?_
 let{rfl,a}:=y1e h;let{v,e,r,_}:=ġa i _ a;show{rfl,v,e,r}
def z74{b c:Hp}{L:Ft}(j:∀q,¬ L q->c q=b q)(i:∀q,L q->Bx b q){a:Ì}{vs:Á V}(h:xK K b a vs):xK K c a vs:=by
 let k:∀{u:HO},iN u=Â->b a=À u->c a=À u:=λ{u} g e=>by rw[j a λz=>?_];show e;let{w,f,d}:=i a z;rw[e]at f;cases f;rw[g]at d;cases d
 rcases h with h|h;rcases h with h|⟨o,h⟩;show .inl (.inl (k rfl h));show .inl (.inr {o,k rfl h});show .inr h
def ie{g j:Hp}{L:Ft}(p:∀q,¬ L q->j q=g q)(w:∀q,L q->Bx g q)(d:D):∀(v:V),vd d=Ä->zh K g d v->zh K j d v:=by
 show ŕg (P:=λd=>∀v,vd d=Ä->zh K g d v->zh K j d v) (λv _ h=>h) (λb v _ h=>h) (λi v _ h=>h) (λx v _ h=>h) ?_ (λc f v t=>by cases t) (λB c f v t=>by cases t) (λx v t=>by cases t) (λx A c f v t=>by cases t) d;rintro c f v t ⟨a,n,e,q,r,l⟩;show{a,n,e,z74 p w q,?_,l};let z:ĵb c=Ä:=t;clear t q l
 induction c generalizing n with
 |nil=>show r|ó x c ih2=>let{u,m,rfl,s,y}:=r;let k:(vd x&&ĵb c)=Ä:=z;rw[ě]at k;show{u,m,rfl,f x ĳ u k.1 s,ih2 (λd o=>f d (æa _ o)) m y k.2}
theorem ig{a e:Hp}{L:Ft}(f:∀q,¬ L q->e q=a q)(c:∀q,L q->Bx a q):∀{ds:Á D}{vs:Á V},ĵb ds=Ä->å K a ds vs->å K e ds vs
 | [],_,_,r=>r|d::ds,_,t,r=>by let{u,g,rfl,h,i}:=r;let b:ón=Ä:=t;rw[ě]at b;show{u,g,rfl,ie f c d u b.1 h,ig f c b.2 i}
theorem yK.pS(E:yK K n P G0 H0 G H β σ):∃G1,yJ K n G1 H G1 H ĕg σ/\∀G2 H2,zW G1 H G2 H2->∃G3,zW G H G3 H2/\yK K n P G0 H0 G3 H2 β σ/\(∀d v,vd d=Ä->zh K G2 d v->zh K G3 d v)/\(∀ds vs,ĵb ds=Ä->å K G2 ds vs->å K G3 ds vs)/\∀q,G2 q=Æ->G3 q=Æ:=by
 classical
 let{C,F}:=ϔa
 let +zeta L:Ft:=λq=>∃i,C i q
 let p:∀q,L q->G q=Æ:=λq ⟨i,z⟩=>Źc.1
 let B:∀q,L q->Bx H q:=λq ⟨i,z⟩=>Źc.2.2
 let +zeta G1:Hp:=λq=>if L q then H q else G q
 let e1:∀q,L q->G1 q=H q:=λq z=>Ó z
 let e2:∀q,¬ L q->G1 q=G q:=λq z=>Ô z
 let j:yN G G1:=λq o e=>by rw[e2 q λz=>by rw[p q z]at e;cases e];show e
 let s:yN G1 H:=λq o e=>by rw[óq];rw[e1 q c]at e;show e;rw[e2 q c]at e;show ėa _ _ e
 refine{G1,lD s Ż (by unfold qM;rw[ç];show ź) λi b d h=>?_,λG2 H2 x=>?_};let{rfl,m,A,rfl}:=x8x h;let{v,e,o}:=ġa i m A;show{rfl,v,e,o.pS j m v _ λq z=>e1 q {i,z}};let +zeta G3:Hp:=λq=>if L q then Æ else G2 q
 let a:∀q,¬ L q->G3 q=G2 q:=λq z=>Ô z
 let f:∀q,L q->G3 q=Æ:=λq z=>Ó z
 let k:∀q,L q->Bx G2 q:=λq z=>by let{u,y,c}:=B q z;show{u,x.g _ _ ((e1 q z).trans y),c}
 let l:zW G H G3 H2:=by
  show{λq o e=>?_,x.h,λq o e=>?_,λq z=>?_};let c:¬ L q:=λz=>by rw[p q z]at e;cases e
  rw[a q c];show x.g _ _ ĩp;rw[óq];rw[f q c]at e;cases e;rw[a q c]at e;show ϻa _ _ e;rw[óq];rw[f q c]at z;show ß rfl z;rw[a q c]at z;rcases Ëd q z with w|w;rw[e2 q c]at w;show .inl w;show .inr w
 show{G3,l,Àa l,λd v t r=>ie a k d v t r,λds vs t r=>ig a k t r,λq z=>?_};rw[óq];show f q c;rw[a q c];show z
def Dj{α:Type}{xs:Á α}{x y:α}{i:Ã}(h:ϵf[i]?=À y):(i<æ/\xs[i]?=À y)\/(i=æ/\y=x):=by
 rcases Ði i æ with c|c;rw[Ąb c]at h;show .inl {c,h};rw[ăb c]at h;cases z:i-æ with
 |Øa=>rw[z]at h;cases h;show .inr {by omega,rfl}|Ùa k=>rw[z]at h;cases h
def gO{α:Type}{xs:Á α}{x:α}{n:Ã}(h:æ=n):ϵf[n]?=À x:=by subst h;rw[ăb Đ,ϣb];rfl
def ua{α:Type}{xs:Á α}{x:α}{i:Ã}(h:i<æ):ϵf[i]?=xs[i]?:=Ąb h
def yK.push{m:M}{v:V}{L:Ft}(E:yK K n P G0 H0 G H β σ)(o:xf K G H m v L)(k:∀Ls,dC K H0 G H β σ Ls->∀i q,Ls i q->L q->ÿ)(ok:∀q,L q->G q=Æ/\H0 q=Æ/\Bx H q):yK K Ŋ P G0 H0 G H Ýe ěb:=by
 let{Ls,F}:=ϔa;let d:=k Ls F;refine{ĳc,by rw[î,Ż];rfl,by rw[î,ź];rfl,by let:=Äb;omega,λi u h=>?_,λj=>if j<n then Ls j else if j=n then L else λ_=>ÿ,λi r h=>?_,λi j q f b a=>?_,λi q z=>?_};let p:i<σ.length:=by rw[ϯp]
 rw[ua p];show Ļb i u h;rcases Dj h with⟨c,e⟩|⟨c,e⟩;rw[ź]at c;let{u,l,g}:=ġa i r e;refine{u,by rw[ua Ϣd];show l,?_};simp only[Ó c];show g;cases e;rw[ź]at c;subst c;show{v,gO Ż,?_};simp only[čd,áa,Ů];show o;skip
 rw[ĝq];rw[ϊp];show Ëa i j q f b a;rw[ϊp];show d i q b a;show a;rw[ĝq];rw[ϊp];show d j q a b;rw[ϊp];show f É;show a;show b;skip
 rw[ûq];show ľa i q z;rw[ûq];show ok q z;show Ϯ
def yK.Ul{d:D}{v:V}(E:yK K n P G0 H0 G H β σ)(r:zh K G d v):yK K Ŋ P G0 H0 G H Ϟm ěb:=
 E.push (L:=λ_=>ÿ) {r,λ_ z=>z} (λ_ _ _ _ _ z=>z) λ_ z=>Ϯ
def yK.z4o{d:D}{p:Ì}(E:yK K n P G0 H0 G H β σ)(x:zW G H G' H')(m:H p=Æ)(C:G' p=Æ)(o:vh K G' H' d p):yK K Ŋ P G0 H0 G' H' (β++[À îj]) (σ++[À ž]):=by
 let{s,F}:=ϔa;let B:=Àa x;show{?_,?_,?_,?_,?_,?_}<;>try first|show B.ext|show(by rw[î,Ż];rfl)|show(by rw[î,ź];rfl)
 let:=Äb;omega;intro i u h
 let J:i<σ.length:=by rw[ϯp]
 rw[ua J];show Ļb i u h;let v:∀i q,s i q->q≠p:=λi q z c=>by subst c;show Źc.2.2.some m
 show{λj=>if j<n then s j else if j=n then(λq=>q=p)else λ_=>ÿ,λi t h=>?_,λi j q r k f=>?_,λi q z=>?_};rcases Dj h with⟨c,e⟩|⟨c,e⟩;rw[ź]at c;let{u,I,A}:=ġa i t e;refine{u,by rw[ua Ϣd];show I,?_};simp only[Ó c];show A.loc x.g t u _ λq z=>?_
 rw[ĩq];show{p,rfl,o,λq=>ϰc};skip
 split at k;split at f;show Ëa i j q r k f;split at f;show v i q k f;show f;split at k;split at f;show v j q f k;split at f;show r É;show f;show k;skip
 rw[ûq];rw[Òq];let{L,y}:=G_ x a c;show{L,b,y};rw[ûq];subst z;show{C,Ñi m,o.bx};show Ϯ
def yK.cH{m:M}{v:V}{i:Ã}(hi:i<n)(r:Ąa<=i)(f:σ.length=n)(b:β.length=n)(E:yK K Ŋ P G0 H0 G H Ýe ěb):yK K n P G0 H0 G H (β.set i íb) ıd:=by
 let{o,F}:=ϔa;refine{ĳc,by rw[ņa];show f,by rw[ņa];show b,by omega,λj u h=>?_,λj=>if j=i then o n else if j<n then o j else λ_=>ÿ,λj p h=>?_,λj k q d c a=>?_,λj q z=>?_};let l:j<Ąa:=Ϫa.1;rw[jU É];let:=Ļb j u h;rw[õq];rcases tN h with⟨rfl,w⟩|⟨d,w⟩;cases w;let{u,e,g}:=ġa n _ (gO b);rw[gO f]at e;cases e;rw[Ļq];show{v,Q3 É,g};have l:j<n:=by rw[<-b];show(ű w).1
 let{u,e,g}:=ġa j p Ĥl;rw[ua É]at e;simp only[Ô d,Ó l];show{u,by rw[jU d];show e,g};skip
 split at c;rw[ϊp];show d É;rw[ϊp];show Ëa n k q É c a;show a;split at c;rw[ϊp];show Ëa j n q É c a;rw[ϊp];show Ëa j k q d c a;show a;show c;skip
 rw[ûq];show ľa n q z;rw[ûq];show ľa j q z;show Ϯ
def yK.pop{m:Ê M}{v:Ê V}(b:σ.length=n)(a:β.length=n)(g:Ąa<=n)(E:yK K Ŋ P G0 H0 G H ϴf ϲf):yK K n P G0 H0 G H β σ:=by
 let{d,F}:=ϔa;show{ĳc,b,a,g,λj u h=>?_,d,λj i h=>?_,Ëa,ľa};let f:j<Ąa:=Ϫa.1;let:=Ļb j u h;rw[õq];have f:j<n:=by rw[<-a];show Ϫa.1
 let{u,c,e}:=ġa j i (by rw[ua É];show h);rw[ua É]at c;show{u,c,e}
#print a
inductive gx where
 |nx (β:yU)|rt (m:M) (β:yU)|bk (β:yU)|ct (β:yU)
abbrev xB:=yU->Ê gx
abbrev uG:=yU->Ê (M×yU)
abbrev TX:=yU->Ê (Ð×yU)
def TW(K:Ñ)(n:Ã)(P:Á V)(b a:Hp)(E:ui):gx->È
 |.nx β=>∀σ G H,yK K n P b a G H β σ->E.nx σ H|.bk β=>∀σ G H,yK K n P b a G H β σ->E.bk σ H|.ct β=>∀σ G H,yK K n P b a G H β σ->E.ct σ H|.rt m β=>∀σ v G H,yK K Ŋ P b a G H Ýe ěb->E.rt v H
section
variable(X:Cx)
structure MC(e:Õ)(f:uG):È where
 h:∃t,PE X e t/\∀{P:Á V}{G0 H0 G H:Hp}{β β':yU}{σ:St}{m:M}{Q:VK},yK X.K ć P G0 H0 G H β σ->f β=À (m,β')->(∀v G' H',yN G G'->yK X.K (ć+1) P G0 H0 G' H' ên ěb->Q v H')->t σ H Q
structure MT(e:Õ)(f:TX):È where
 h:∃t,PT X e t/\∀{P:Á V}{G0 H0 G H:Hp}{β β':yU}{σ:St}{b:Ð}{Q:Ð->Hp->È},yK X.K ć P G0 H0 G H β σ->f β=À (b,β')->(∀G' H',yN G G'->yK X.K ć P G0 H0 G' H' β' σ->Q b H')->t σ H Q
structure MS(np:Ã)(st:Ú)(f:xB):È where
 h:∃t,PS X st t/\∀{P:Á V}{G0 H0 G H:Hp}{β:yU}{σ:St}{fl:gx}{E:ui},Ąa=np->yK X.K ć P G0 H0 G H β σ->f β=À fl->TW X.K ć P G0 H0 E fl->t E σ H
structure jy(np:Ã)(st:Á Ú)(f:xB):È where
 h:∃t,tV X st t/\∀{P:Á V}{G0 H0 G H:Hp}{β:yU}{σ:St}{fl:gx}{E:ui},Ąa=np->yK X.K ć P G0 H0 G H β σ->f β=À fl->TW X.K ć P G0 H0 E fl->t E σ H
#print a
section
variable{K:Ñ}{n:Ã}{P:Á V}{G0 H0 G H:Hp}{β:yU}{σ:St}{m:M}{v:V}{d:D}
def yK.JS{m:Ê M}{v:Ê V}(E:yK K Ŋ P G0 H0 G H ϴf ϲf):σ.length=n:=by let:=Ż;rw[î]at this;show ăd this
def yK.V3{m:Ê M}{v:Ê V}(E:yK K Ŋ P G0 H0 G H ϴf ϲf):β.length=n:=by let:=ź;rw[î]at this;show ăd this
def yK.ME(E:yK K Ŋ P G0 H0 G H Ϟm ěb):zh K G d v:=by let{b,F}:=ϔa;let{u,a,r,_}:=ġa n _ ĭp;rw[gO E.JS]at a;cases a;show r
def yK.CQ{i:Ã}(E:yK K n P G0 H0 G H β σ)(hi:i<n)(a:Ąa<=i)(r:zh K G d v):yK K n P G0 H0 G H ϑm ıd:=(E.Ul r).cH hi a Ż ź
theorem yK.zE(E:yK K n P G0 H0 G H β σ):yK K n P G H0 G H β σ:={E.ext.zE,Ż,ź,Äb,Ļb,ϔa}
def yK.near{b c:Hp}(a:zW G0 H0 b c)(E:yK K n P b H0 G H β σ):yK K n P G0 H0 G H β σ:={a.rebase ĳc,Ż,ź,Äb,Ļb,ϔa}
theorem TW.near{b c:Hp}{E:ui}{a:gx}(x:zW G0 H0 b c)(h:TW K n P G0 H0 E a):TW K n P b H0 E a:=by
 cases a with
 |nx τ=>show λσ G H z=>h σ G H ıf|bk τ=>show λσ G H z=>h σ G H ıf|ct τ=>show λσ G H z=>h σ G H ıf|rt m β=>show λσ v G H z=>h σ v G H ıf
#print a
def wx(f:FE):uG:=λβ=>(ĭj).bind λd=>À (.fz d,β)
def qx(f:FE):uG:=λβ=>(ħf).bind λd=>match vd d with
 |Ä=>À (.fz d,β)|Â=>Æ
def Il(f:FE):uG:=λβ=>(ĭj).bind λd=>À (.own d,β)
def Zx(f:FT):TX:=λβ=>(ħf).bind λb=>À (b,β)
nonrec def YJ:M->Ê D
 |.fz d=>À d|_=>Æ
def B0(F:D->D->Ê D)(f g:uG):uG:=λβ=>(Óc).bind λr=>(ßg).bind λx=>(g r.2).bind λa=>(YJ a.1).bind λy=>(F x y).bind λz=>À (.fz z,a.2)
def As(f:uG):TX:=λβ=>(Óc).bind λr=>(ßg).bind λx=>(Ľg).bind λb=>À (b,r.2)
def Th{m:M}{d:D}(h:YJ m=À d):m=.fz d:=by
 cases m with
 |fz d'=>cases h;rfl|_=>cases h
section
variable{X:Cx}{x:Ç}{p pos:Pos}{e a b:Õ}{f:FE}{ft:FT}{F:D->D->Ê D}{r:R2}{g g':uG}{u:TX}
def vO(h:SE X e f):MC X e (wx f):=by rw[Ůp];cases a;show k E.MD i λv b c x r=>q v b c x.g ((Àa x).Ul r)
def kM(h:SE X e f):MC X e (qx f):=by
 rw[Ůp];cases c:vd d with
 |Â=>rw[c]at a;cases a|Ä=>
  rw[c]at a;cases a;let{u,m,b}:=E.pS;show k m i λv w o x r=>?_
  let{j,l,s,n,_}:=b _ _ x;show q v j o l.g (s.Ul Ěo)
def Ny(h:SF X e f):MC X e (Il f):=by rw[Ůp];cases a;show k E.MD i λp b c x j l o=>q _ b c x.g (E.z4o x j l o)
def Vz(h:ST X e ft):MT X e (Zx ft):=by
 rw[Úq];show{{t,p,λE c q=>?_}};let{b,j,c}:=zJ c;cases c;let{n,i,a}:=E.pS;show k i j λo l x=>?_
 let{d,f,m,_}:=a _ _ x;show q d l f.g m
def yK.down{K:Ñ}{n:Ã}{P:Á V}{b a G H:Hp}{β:yU}{σ:St}{m:Ê M}{v:Ê V}(c:Ąa<=n)(E:yK K Ŋ P b a G H ϴf ϲf):yK K n P b a G H β σ:=E.pop E.JS E.V3 c
def y47{e:řg}(J:xF X (Ĕa e) r)(N:g_ X.K r F)(w:MC X a g)(L:MC X b g')(G:ϟb e b=Â):MT X (.Compare a [e] [b] pos) (As (B0 F g g')):=by
 let{ta,B,P}:=w.h;let{tb,u,v}:=L.h;show{{_,DN J B u G,λE d q=>?_}};obtain⟨⟨U,β3⟩,c,d⟩:=zJ d;let{d3,R,d}:=zJ d;cases Th R;let{Y,f,d}:=zJ d;cases d;obtain⟨⟨m1,β1⟩,H,c⟩:=zJ c;let{x,e1,c}:=zJ c;cases Th e1;obtain⟨⟨Z,β2⟩,o,c⟩:=zJ c;let{O,e2,c}:=zJ c;cases Th e2;let{z,p,c}:=zJ c;cases c;show P E H λt S T s l=>?_
 let n:=l.ME;show v (l.down Äb) o λQ A I j m=>?_
 let C:=m.ME;let i:=m.down Äb;let{k,rfl,y}:=N I x O t Q _ _ ((n.mono j).mono i.ext.gh) (C.mono i.ext.gh) p;cases f;show y {_,rfl,q A _ (þj j) i}
#print a
nonrec def kK:xB:=λβ=>À (.nx β)
nonrec def xq(a b:xB):xB:=λβ=>(ļg).bind λf=>match f with
 |.nx β'=>b β'|f=>À f
nonrec def kJ(c:TX)(a b:xB):xB:=λβ=>(c β).bind λr=>match r.1 with
 |Ä=>a r.2|Â=>b r.2
nonrec def kL(f:uG):xB:=λβ=>(Óc).bind λr=>À (.rt r.1 r.2)
nonrec def pq(f:uG):xB:=λβ=>(Óc).bind λr=>À (.nx r.2)
nonrec def qE(i:Ã)(f:uG):xB:=λβ=>(Óc).bind λr=>À (.nx (r.2.set i (À r.1)))
abbrev MG:=D->yU->Ê yU
nonrec def QC(i:Ã):MG:=λd β=>À ϑm
nonrec def QB(i j:Ã):MG:=λd β=>match d with
 |.tup Ĵc=>À ((υa (À (.fz x))).set j (À (.fz y)))|_=>Æ
nonrec def tI(g:MG)(b:xB):Á D->yU->Ê gx
 | [],β=>À (.nx β)|d::r,β=>(àj).bind λβ1=>(Ěg).bind λf=>match f with
  |.nx β2=>tI g b r β2|.ct β2=>tI g b r β2|.bk β2=>À Ūb|.rt m β2=>À ďi
def Bz(it:FA)(g:MG)(b:xB):xB:=λβ=>(it ϒf).bind λa=>tI g b a β
section
variable{X:Cx}{np:Ã}{x:Ç}{p pos Ľa:Pos}{e c tg ό:Õ}{st:Ú}{sts ķc:Á Ú}{f g:xB}{h:uG}{u:TX}{fs:FA}
def WF:jy X np [] kK:={{_,rN,λ{P d b G H β σ c E} _ K a q=>by cases a;show q σ G H K}}
def wJ(b:MS X np st f)(i:jy X np sts g):jy X np Ģp (xq f g):=by
 let{t,p,k}:=b.h;let{w,e,m}:=i.h;show{{_,rM p e,λ{P r n G H β σ s E} c K a q=>?_}};let{j,b,a}:=zJ a;show k c K b ?_;cases j with
 |nx τ'=>show λσ' u v l=>m c l a q|bk τ'=>cases a;show q|ct τ'=>cases a;show q|rt o d=>cases a;show q
def v6(a:MS X np st f):jy X np [st] f:={let ⟨t,p,k⟩:=a.h;{t,rO p,k}}
def WE{b i:Á Ú}(j:MT X c u)(p:jy X np b f)(r:jy X np i g):MS X np (.If c b i pos) (kJ u f g):=by
 let{z,pc,s}:=j.h;let{B,l,t}:=p.h;let{tb,n,o}:=r.h;show{{_,rK pc l n,λ{P x v G H β σ A E} e K a q=>?_}};obtain⟨⟨k,β1⟩,m,a⟩:=zJ a;show s K m λw y _ d=>?_
 cases k with
 |Ä=>show Yj (t e d a q)|Â=>show Yi (o e d a q)
def Vy(d:MC X e h):MS X np Öf (kL h):=by let{t,p,k}:=d.h;show{{_,DM p,λ{P g f G H β σ i E} n K a q=>?_}};rw[öq];show k K b λv j l _ c=>q _ v _ _ c
def kN(f:MC X e h)(d:Î ϖk q12):MS X np ϭh (pq h):=by let{t,p,k}:=f.h;show{{_,rJ p d,λ{P i g G H β σ j E} o K a q=>?_}};rw[öq];show k K b λv l n _ c=>q _ _ _ (c.down ϊb)
def pA{i:Ã}{x:Ç}{Ľa:Pos}(f:źa)(hi:X.N[i]?=À x)(d:gw Ða x)(o:np<=i)(j:MC X e h)(g:Î Ĉe q12)(a:Î Āb q7) :MS X np ϥe (qE i h):=by let{t,p,k}:=j.h;show{{_,(Po f hi d {p} g a).h,λ{P n l G H β σ r E} w K a q=>?_}};obtain⟨⟨m,β1⟩,c,a⟩:=zJ a;cases a;show k K c λv s u _ b=>q _ _ _ (b.cH ϸb.1 É b.JS b.V3)
structure EI(X:Cx)(np:Ã)(tg:Õ)(fg:MG):È where
 h:∃t,PG X tg t/\∀{P:Á V}{G0 H0 G H:Hp}{β β':yU}{σ:St}{d:D}{v:V}{Q:St->Hp->È},Ąa=np->yK X.K ć P G0 H0 G H β σ->zh X.K G d v->fg d β=À β'->(∀σ',yK X.K ć P G0 H0 G H β' σ'->Q σ' H)->t v σ H Q
def y41{i:Ã}{x:Ç}(h:QG X ëa īc)(hi:X.N[i]?=À x)(b:np<=i):EI X np ëa (QC i):={{_,h.h,λc K r a q=>by cases a;show q _ (K.CQ ϸb.1 É r)}}
def y40{i j:Ã}{x y:Ç}{c e:Pos}{f:Ã}(h:QG X ĸk Ϙe)(hi:X.N[i]?=À x)(l:X.N[j]?=À y)(z:np<=i)(A:np<=j):EI X np ĸk (QB i j):=⟨⟨_,h.h,λ{P w t G H β β' σ d v Q} E K r b q=>by
 unfold QB at b
 rw[ĝq];rename_i C F;cases b;let{a,B,rfl,g,{o,u,rfl,p,{s,n,rfl,m,k}},_}:=r;cases(show n=[]from k);show{a,_,rfl,uR àa g,rfl,o,_,rfl,s,_,rfl,rfl,?_};show q _ ((K.CQ ϸb.1 É p).CQ (ű l).1 É m);cases b⟩⟩
def nk{c:MG}(v:įd Ą X.A Ù ı)(T:Ϝ=Ä)(hi:SI X tg ό fs)(hg:EI X np tg c)(hb:jy X np ķc g)(R:Î (∀x,Ŋb ό Ù x=pure x) q11):MS X np Ϻg (Bz fs c g):=by
 let{ti,pi,O}:=Ķc;let{C,S,Q}:=hg.h;let{tb,F,I}:=hb.h;show{{_,Pd v T pi S F R,λ{P G0 p G H τ σ r E} t K a q=>?_}};let{b,U,a}:=zJ a;show O K.MD U λJ n Ha L _ j=>?_
 let s:=öa L;let k:=TW.near s.ext q;show{λi m σ H=>m=Ź-i/\i<=Ź/\∃τ G,yK X.K ć P n p G H τ σ/\tI c g ċj τ=À r,{Ź,rfl,ýa _,τ,n,s.zE,a},?_};rintro i m σ H ⟨rfl,Y,τ,G,K,a⟩;by_cases hlt:i<Ź;show .inr {j.go i G H Åc àa hlt,λσ' f=>∃τ G,yK X.K ć P n p G f τ σ'/\tI c g ſi τ=À r,λσ' f z=>{Ź-ñ,Øf _ _ hlt,rfl,hlt,z},λx f y=>?_};rw[Ťp];let{Z,B,a}:=zJ a;show Q t Ðj rd h1 λσ1 K1=>I t K1 B ?_
 cases Z with
 |nx τ2=>show λσ2 o H2 l=>{τ2,o,l,a}|ct τ2=>show λσ2 o H2 l=>{τ2,o,l,a}|bk τ2=>cases a;show k|rt m β=>cases a;show k
 let e:i=Ź:=by omega
 subst e;rw[őm]at a;cases a;show .inl {j.stop _ G H Åc àa Đ,k _ _ _ K}
#print a
def kQ(β:yU)(i:Ã)(π:Á wM):Ê M:=match β[i]? with
 |À íb=>pY m π|_=>Æ
def Ôc(β:yU)(i:Ã)(π:Á wM)(m2:M):Ê yU:=match β[i]? with
 |À íb=>(Ϛn).bind λa=>À Ķn|_=>Æ
def V_{β:yU}{i:Ã}{π:Á wM}{a:M}(h:kQ β i π=À a):∃m,β[i]?=À íb/\pY m π=À a:=by
 unfold kQ at h
 rw[üq];rename_i m e;show{m,e,h};cases h
def DO{β:yU}{i:Ã}{π:Á wM}{m a m2:M}(h:β[i]?=À íb)(e:pF m π m2=À a):Ôc β i π m2=À Ķn:=by unfold Ôc;rw[h];exact(Ϛn).bind _=_;rw[e];rfl
def vf(K:Ñ)(a:Á Ç)(f:Ç):È:=∀x∈a,∀C,ϝ K Ģ x=À ěa->qW K C/\Xn K C f
structure SP(X:Cx)(e:Õ)(i:Ã)(π:Á wM):È where
 h:∃t,PE X e t/\∀{σ:St}{H:Hp}{v u:V}{Q:VK},σ[i]?=À Êa->wV X.K H v π u->Q u H->t σ H Q
section
variable{X:Cx}{x f:Ç}{p pos:Pos}{e:Õ}{i:Ã}{π:Á wM}{cs:Á Ç}
def xw(i:Ã){x:Ç}{pos:Pos}(c:Î Ìe q12)(hv:Î će q13)(d:Î ķ q10)(b:Î Æb q10):SP X ëa i []:={{_,WM c hv d b,λe a q=>by cases(show _=_ from a);show{_,e,q}}}
def qI(h:SP X e i π)(k:vf X.K cs f)(s:Î Ϡk q12):SP X Þf i (π++[.at cs f]):=by let{t,p,m}:=h.h;show{{_,oh p s,λe a q=>?_}};let{w,u,o}:=a.snoc;let{p,x,C,r,d,v,rfl,g,j,b,l,rfl}:=o;let{c,n}:=k x g C j;show m e u {p,C,r,d,_,rfl,b,c,n,l,q}
#print a
section
variable{K:Ñ}{n:Ã}{P:Á V}{G0 H0 G H:Hp}{β:yU}{σ:St}
def yK.write{m Y I:M}{U:V}{i:Ã}{π:Á wM}(E:yK K Ŋ P G0 H0 G H (β++[À I]) (σ++[À U]))(hP:Ąa<=n)(X:β[i]?=À íb)(ha:pY m π=À Y) :∃r v1 L1 Lr,σ[i]?=À Ġj/\wV K H r π v1/\xf K G H Y v1 L1/\xf K G H I U Lr/\(∀q,L1 q->Lr q->ÿ)/\
   ∀{H':Hp}{m2:M}{L2:Ft},(∀q,¬ L1 q->H' q=H q)->xf K G H' m2 v1 L2->(∀q,L2 q->L1 q\/Lr q)->∃m',pF m π m2=À m'/\yK K n P G0 H0 G H' (υa (À m')) σ:=by
 let{t,F}:=ϔa;let y:=E.JS;let l:=E.V3;have hi:i<n:=by rw[<-l];show(ű X).1
 let{r,N,om}:=ġa i m (by rw[ua É];show X);rw[ua É]at N;let{u,v,R}:=ġa n I (gO l);rw[gO y]at v;cases v;let{v1,L1,Z,o1,p,re}:=om.focus ėa ha;let O:∀q,L1 q->t n q->ÿ:=λq a b=>Ëa i n q É (p q a) b
 show{r,v1,L1,t n,N,Z,o1,R,O,λ{H' m2 L2} s T B=>?_}
 let{m',e',o'}:=re (Ϩa G) (λq _ z=>s q z) T (λq z w=>by rcases B q z with c|c;show c;show ß c λc=>Ëa i n q É w c)
 let C:∀q,L1 q->G q=Æ/\H0 q=Æ:=λq z=>{ĝm.1,ĝm.2.1}
 show{m',e',{E.ext.g,λq o z=>?_,λq o z=>?_,Ųi},y,by rw[ņa];show l,hP,λj w h=>?_,λj=>if j=i then żk else if j<n then t j else λ_=>ÿ,λj S h=>?_,λj k q f e d=>?_,λj q z=>?_}
 .rw[s q λw=>by rw[(C q w).2]at z;cases z];show āg _ _ z
 .rw[s q λw=>by rw[(C q w).1]at z;cases z];show ėa _ _ z
 .let A:j<Ąa:=Ϫa.1;let:=Ļb j w h;rw[õq]
 .rcases tN h with⟨rfl,w⟩|⟨f,w⟩
  .cases w;rw[Ļq];show{r,N,o'}
  .have A:j<n:=by rw[<-l];show(ű w).1
   let{u,v,ou}:=ġa j S Ĥl;rw[ua É]at v;simp only[Ô f,Ó A];show{u,v,ou.loc (Ϩa G) S u _ λq z=>s q λQ=>Ëa i j q Ēf (p q Q) z}
 .let x:∀j,j≠i->j<n->∀q,(t i q/\¬ L1 q)\/L2 q->t j q->ÿ:=λj f A q e d=>by
   rcases e with⟨e,_⟩|e;show Ëa i j q Ēf e d;rcases B q e with c|c;show Ëa i j q Ēf (p q c) d;show Ëa n j q É c d
  split at e
  .rw[Ϯp];show f É;rw[Ϯp];show x k É É q e d;show d
  .split at e;rw[Ϯp];show x j É É q d e;rw[Ϯp];show Ëa j k q f e d;show d;show e
 .split at z
  .rcases z with⟨z,w⟩|z
   .rw[Òq];let{u,L,J}:=c;show{a,b,u,(s q w).trans L,J}
   .show{?_,?_,T.cells m2 _ _ q z}
    .rcases B q z with c|c
     .show Ķj.1
     .show óo.1
    .rcases B q z with c|c
     .show Ķj.2
     .show óo.2.1
  .split at z
   .rename_i f A;let{a,b,c}:=ľa j q z;let{u,L,J}:=c;show{a,b,u,(s q λQ=>Ëa i j q Ēf (p q Q) z).trans L,J}
   .show Ϯ
#print a
def Zh(i:Ã)(π:Á wM)(c:FE)(a:uG):xB:=λβ=>(ļg).bind λr=>(ßg).bind λy=>(Ōn).bind λb=>match b with
 |.own ϫi=>(c (qM r.2)).bind λx=>match x with
  |.int j=>(ĝo).bind λn=>(θe (Γ åp)).bind λβ2=>À Ūb|_=>Æ
 |_=>Æ
def Vw(i:Ã)(π:Á wM)(b:FE)(a:uG):xB:=λβ=>(ļg).bind λr=>(ßg).bind λy=>(Ōn).bind λc=>match c with
 |.own ϸn=>(b (qM r.2)).bind λx=>(Äd).bind λx=>match decide (Ĉ<yb)with
  |Ä=>(θe (.dic ğp ñn)).bind λβ2=>À Ūb|Â=>Æ
 |_=>Æ
section
variable{X:Cx}{np:Ã}{o k v:Õ}{i:Ã}{π:Á wM}{fk:FE}{fv:uG}{pos Ľa:Pos}
def WG(ho:SP X o i π)(hk:SE X k fk)(hv:MC X v fv)(hp:Î Łi q12)(T:Î (ϒh Ϯe v ϐc Ù=pure Â) q12)(Q:Î (ϓh Ϯe v Ù=pure Æ) q12)(h1:Î ((åe Ϯe Ù).map (·.2)=[Ðc ŷl Ù]) q12):MS X np Äm (Zh i π fk fv):=by
 rw[Ćq];let{to,Y,ko}:=ho.h;show{{_,rG pv (rj {Y} {pk} z0v hp).h T Q h1,λ{P G0 H0 G H β σ fl E} hP K a q=>?_}};rw[ſp]
 rw[ϊp];rename_i ds;let{Z,hx,a}:=zJ a;cases Z with
 |int j=>
  let{e,g,a}:=zJ a;let{β2,L,a}:=zJ a;cases a;let{mm,t,N}:=V_ hn;show kv K hy λw G1 H1 s1 f=>?_
  let{r,v1,L1,Lr,B,F,_}:=f.write ϊb t N;show ko B F ?_;let{Ga,Ea,b}:=(f.down ϊb).pS;show kk Ea hx λu G2 H2 S r2=>?_
  cases(show u=_ from r2);let{G3,C,_,_}:=b _ _ S;let A:=f.go C;let{r',v1',U,Lr',d,x,n,or',dj',s}:=A.write ϊb t N;rw[B]at d;cases d;cases Ĥc (F.mono C.h) x;let{p,rfl,{O,R,I,l},J}:=n;let{m',e',K5}:=s (H':=zd H2 p (Γ (O.set e w))) (m2:=.own (Γ (úg e y))) (L2:=λq=>q=p) (Κe (J q)) {p,rfl,{_,yo,Ðg A.ME e I,by rw[ņa];show l},λ_=>ϰc} (γe (J q));rw[DO t e']at L;cases L;show{p,O,j,e,rfl,rfl,R,by rw[I.length];show g,q _ _ _ K5}
 |_=>cases a
 cases a
def Od(hu:Ża+1<ϓ)(Y:SP X o i π)(hk:SE X k fk)(hv:MC X v fv)(S:Î (Εc ŷl) q12):MS X np Äm (Vw i π fk fv):=by
 rw[Ćq];let{to,U,ko}:=Y.h;show{{_,rH hu U pk pv S,λ{P G0 H0 G H β σ fl E} hP K a q=>?_}};rw[ſp]
 rw[ϊp];rename_i ks s;let{xk,hx,a}:=zJ a;let{b,e,a}:=zJ a
 rw[ϊp];rename_i c;let c:=ő c;let{β2,N,a}:=zJ a;cases a;let{mm,x,O}:=V_ hn;show kv K hy λw G1 H1 s1 g=>?_
 let{r,v1,L1,Lr,F,J,_}:=g.write ϊb x O;show ko F J ?_;let{Ga,Ea,d}:=(g.down ϊb).pS;show kk Ea hx λu G2 H2 R r2=>?_
 let{G3,I,_,_}:=d _ _ R;let C:=g.go I;let{r',Z,T,Lr',f,B,n,or',dj',t}:=C.write ϊb x O;rw[F]at f;cases f;cases Ĥc (J.mono I.h) B;let{p,rfl,{vs,Q,l,j,hl},L}:=n
 let{m',e',K5}:=t (H':=zd H2 p (.dK (uZ ĕa b w))) (m2:=.own (.dic (wC ks b) (wD ks s b y))) (L2:=λq=>q=p) (Κe (L q))
  ⟨p,rfl,⟨wD ks vs b w,by rw[yo,af l],WP l,j.put C.ME,by
   let h1:=Pe (ks:=ks) (vs:=s) (k:=b) (v:=y) ąn;have h2:Ļd<16777216:=by rw[<-Œa,<-l];show c
   rw[Ŧ];omega⟩,λ_=>ϰc⟩ (γe (L q))
 rw[DO x e']at N;cases N;show{p,_,rfl,.inl {_,b,Q,Zd e r2,by rw[đa,l,þa,Ŧ,<-l];show c,rfl},q _ _ _ K5};cases a;cases a
#print a
nonrec def Zm(fs:Á Ç)(f:Ç):Á Ç:=if f∈fs then fs else fs++[f]
def j2{α:Type}(fs:Á Ç)(ms:Á α)(f:Ç)(m:α):Á α:=if f∈fs then uw fs ms f m else ms++[m]
theorem rS{f:Ç}{w:V}:∀{fs:Á Ç}{vs:Á V},Ĳa=Ć->ľb f w ğo=(þe).zip þn
 | [],[],_=>by unfold Zm j2;rw[Ô ê,Ô ê];rfl| [],_::_,h=>by cases h|_::_,[],h=>by cases h|g::fs,v::vs,h=>by
  let b:=rS (f:=f) (w:=w) (fs:=fs) (vs:=vs) ēj;rw[Ŭa];unfold ľb;by_cases c:g=f;subst c;unfold Zm j2;rw[Ó rfl,Ó ĳ,Ó ĳ];unfold uw;rw[Ó rfl,Ŭa];rw[Ô c,b];unfold Zm j2;by_cases z:f∈fs;rw[Ó z,Ó z,Ó Ūf,Ó Ūf]
  conv=>rhs;unfold uw
  rw[Ô c,Ŭa];let a:f ∉ g::fs:=λw=>by rcases ň w with w|w;show c w.symm;show z w
  rw[Ô z,Ô z,Ô a,Ô a,Őb,Őb,Ŭa]
theorem x2i{α:Type}{f:Ç}{w:α}{fs:Á Ç}{vs:Á α}(h:Ĳa=Ć):(þe).length=(þn).length:=by
 unfold Zm j2
 split;rw[AL];show h;rw[î,î,h];rfl
section
variable{K:Ñ}{G H:Hp}
theorem Ëj{κ:Type}[ϩb κ]{k:κ}{m2:M}{e:V}{L2:Ft}(l:xf K G H m2 e L2):∀{ks:Á κ}{ms:Á M}{vs:Á V}{L:Ft},ϋ K G H ms vs L->(∀q,L q->L2 q->ÿ)->∃L',ϋ K G H ϡm (uw ks vs k e) L'/\∀q,L' q->L q\/L2 q
 | [],ms,vs,L,h,_=>{L,by unfold uw;show h,λq z=>.inl z}|_::_,[],vs,L,h,_=>by let{rfl,n}:=h;show{L,by unfold uw;show{rfl,n},λq z=>.inl z}
 |k'::ks,m::ms,vs,L,h,dj=>by let{v,r,f,g,rfl,o,i,d,u}:=h;unfold uw;rw[Ïq];show{λq=>L2 q\/g q,{e,r,L2,g,rfl,l,i,λq a b=>dj q ((ϸ).mpr (.inr b)) a,λq=>ϰc},λq z=>?_};rcases z with z|z;rw[ìq];show .inl ϳd;rw[Ô c,Ô c];let{L',p,j}:=Ëj (k:=k) l (ks:=ks) i Ġk;show{λq=>f q\/L' q,{v,_,f,L',rfl,o,p,λq a b=>?_,λq=>ϰc},λq z=>?_};rcases j q b with b|b;show d q a b;show dj q Èn b;rcases z with z|z;show .inl Ϥd;rcases j q z with z|z;show .inl ϳd;rw[ìq]
theorem ĭi{m2:M}{c:V}{L2:Ft}(e:xf K G H m2 c L2):∀{ms:Á M}{vs:Á V}{L:Ft},ϋ K G H ms vs L->(∀q,L q->L2 q->ÿ)->ϋ K G H (ms++[m2]) (vs++[c]) (λq=>L q\/L2 q)
 | [],vs,L,h,_=>by let{rfl,n}:=h;show{c,[],L2,λ_=>ÿ,rfl,e,{rfl,λ_ z=>z},λ_ _ z=>z,λq=>{?_,?_}};rintro(z|z);show ß z (n q);rw[ľq];show Ϯ
 |m::ms,vs,L,h,dj=>by let{v,r,g,j,rfl,i,f,d,u}:=h;show{v,_,g,λq=>j q\/L2 q,rfl,i,ĭi e f Ġk,λq a b=>?_,λq=>{?_,?_}};rcases b with b|b;show d q a b;show dj q Èn b;rintro(z|z);rcases(u q).mp z with z|z;show .inl z;show .inr ύc;show .inr ıa;rintro(z|z|z);show .inl Ϥd;show .inl ϳd;rw[ìq]
def ňo{f:Ç}{m2:M}{d:V}{L2 L:Ft}{fs:Á Ç}{ms:Á M}{vs:Á V}(a:xf K G H m2 d L2)(h:ϋ K G H ms vs L)(b:∀q,L q->L2 q->ÿ):∃L',ϋ K G H (j2 fs ms f m2) (j2 fs vs f d) L'/\∀q,L' q->L q\/L2 q:=by unfold j2;by_cases c:f∈fs;rw[Ó c,Ó c];show Ëj a h b;rw[Ô c,Ô c];show{_,ĭi a h b,λq z=>z}
#print a
def gK(m:M)(β:yU)(i:Ã)(π:Á wM)(a:Á Ç)(f:Ç):Ê gx:=(Ňf).bind λb=>match b with
 |.obj x fs ms=>match decide (x∈a)&&decide Œo with
  |Ä=>(Ιe (j2 fs ms f m)).bind λβ2=>À Ūb|Â=>Æ
 |_=>Æ
def py(i:Ã)(π:Á wM)(b:Á Ç)(f:Ç)(a:uG):xB:=λβ=>(ļg).bind λr=>gK r.1 r.2 i π b f
def Nu(i:Ã)(π:Á wM)(g:Á Ç)(f:Ç)(d:FE):xB:=λβ=>(Ňf).bind λe=>match e with
 |.obj x fs ms=>match decide (x∈g)&&decide Œo with
  |Ä=>(Áa fs ms f).bind λc=>(YJ c).bind λc=>match c with
   |.int a=>(d ĕg).bind λy=>match y with
    |.int b=>(Ιe (j2 fs ms f (.fz (Δ (a+b))))).bind λβ2=>À Ūb|_=>Æ
   |_=>Æ
  |Â=>Æ
 |_=>Æ
section
variable{X:Cx}{np:Ã}{o v:Õ}{i:Ã}{π:Á wM}{cs:Á Ç}{f:Ç}{fv:uG}{fe:FE}{pos Ľa tpos:Pos}
def yK.cL{K:Ñ}{n:Ã}{P:Á V}{y v G H:Hp}{β β2:yU}{σ:St}{x f:Ç}{fs:Á Ç}{ms:Á M}{m e:M}{w:V}{i:Ã}{π:Á wM}(E:yK K Ŋ P y v G H (β++[À e]) (σ++[À w]))(T:Ąa<=n)(F:β[i]?=À íb)(S:pY m π=À ŷh)(A:Ôc β i π (.obj x þe ÿn)=À β2) :∃r p C dx vs,σ[i]?=À Ġj/\wV K H r π ž/\ϝ K Ģ x=À ěa/\H p=À Úh/\Ĳa=Ć/\yK K n P y v G Ńf β2 σ:=by
 let{r,v1,L1,I,U,O,o1,j,t,wr}:=E.write T F S;let{p,C,dx,vs,L',rfl,J,Q,l,R,L,d}:=o1;let u:∀q,q≠p->Ńf q=H q:=λq z=>yH z
 let k:ϋ K G Ńf ms vs L':=Ϗc (λN _ X g s o=>ņg Ēj N X g λq z=>u q λc=>L (c▸s q z)) R;let h:xf K G Ńf e w I:=j.loc Ēj e w I λq z=>u q λc=>t q Žl z
 let{g,o3,B}:=ňo (f:=f) (fs:=fs) h k (λq a b=>t q ((d q).mpr (.inr a)) b)
 let{N,Z,Y}:=wr (H':=zd H p žj) (m2:=.obj x þe ÿn) (L2:=λq=>q=p\/g q) (λq z=>u q λc=>z Žl)
  ⟨p,C,dx,j2 fs vs f w,g,rfl,J,by rw[yo,rS l],x2i l,o3,λz=>by
   rcases B p z with z|z;show L z;show t p ((d p).mpr ĭ) z,λq=>ϰc⟩ (λq z=>by
   rcases z with rfl|z;show .inl ((d q).mpr ĭ);rcases B q z with z|z;show .inl ((d q).mpr ıa);rw[ìq])
 rw[DO F Z]at A;cases A;show{r,p,C,dx,vs,U,O,J,Q,l,Y}
def kO(L:SP X o i π)(k:vf X.K cs f)(hv:MC X v fv)(z:Î (Εc Żl) q12):MS X np (.Assign Ţl v pos) (py i π cs f fv):=by
 let{tv,u,A}:=ĵc;let{to,B,N}:=L.h;show{{_,x28 B u z,λ{P U S G H β σ fl E} hP K a q=>?_}};obtain⟨⟨m,β1⟩,Q,a⟩:=zJ a;let{nd,d,a}:=zJ (show(kQ β1 i π).bind _=_ from a)
 rw[ϊp];rename_i x fs ms
 rw[ϊp];rename_i c;rw[ě]at c;let g:=ő c.2;let{β2,j,a}:=zJ a;cases a;let{mm,I,n}:=V_ d;show A K Q λw T Y Z J=>?_
 let{r,p,C,R,vs,t,b,O,e,l,F}:=J.cL ϊb I n j;let{y,s}:=k x (ő c.1) C O;show N t b {p,C,R,_,rfl,e,y,s,by rw[đa,l,þa,<-l];show g,q _ _ _ F};cases a;cases a
def y45(U:SP X o i π)(k:vf X.K cs f)(hv:SE X v fe):MS X np (.AugAssign ŕl .Add v pos) (Nu i π cs f fe):=by
 let{tv,pv,kv}:=ĵc;let{to,S,ko}:=U.h;show{{_,x29 S pv y1p,λ{P G0 H0 G H β σ fl E} hP K e q=>?_}};let{nd,hn,e}:=zJ e
 split at e;rename_i x fs ms
 split at e;rename_i c;rw[ě]at c;let hx:=ő c.1;let hl:=ő c.2;let{ch,z,e}:=zJ e;let{dc,s,A}:=zJ e;cases Th s
 split at A;rename_i a;let{y,hy,e}:=zJ A
 split at e;rename_i b;let{β2,hβ,e}:=zJ e;cases e;let{mm,N,L}:=V_ hn;let K0:=K.Ul (d:=.zD) (v:=.zD) rfl;let{r,v1,L1,Lr,B,J,Z,_}:=K0.write ϊb N L;let{p,C,dx,vs,L',rfl,I,hp,l,rs,nL,uL}:=Z;let{cl,Q}:=k x hx C I;let{vc,Lc,ec,{rc,_},_}:=ĝd rs z;cases(show vc=_ from rc);refine ko B J {p,C,dx,_,_,rfl,hp,cl,Q,by rw[Bw];show ec,?_};let{Ga,Ea,g}:=K.pS;show kv Ea hy λu G2 H2 R r2=>?_
 cases(show u=_ from r2);let{G3,T,O,_}:=g _ _ R;let{r',p',Y,t,vs',j,w,m,n,F,K5}:=(O.Ul (d:=.int (a+b)) (v:=.int (a+b)) rfl).cL ϊb N L hβ;rw[B]at j;cases j;cases Ĥc (J.mono T.h) w;let eC:Y=C:=by rw[I]at m;cases m;rfl
 subst eC;show{_,_,rfl,rfl,t,_,n,by rw[đa,F,þa,<-F];show hl,q _ _ _ K5};cases e;cases A;cases e;cases e
#print a
open Classical in
nonrec def cut(H:Hp)(L:Ft):Hp:=λq=>if L q then Æ else H q
def iY{H:Hp}{L:Ft}{q:Ì}(h:L q):cut H L q=Æ:=by unfold cut;rw[Ó h]
theorem YO{H:Hp}{L:Ft}{q:Ì}(h:¬ L q):cut H L q=H q:=by unfold cut;rw[Ô h]
theorem iZ{H:Hp}{L:Ft}{q:Ì}(h:cut H L q=Æ):L q\/H q=Æ:=by rw[óq];show .inl c;rw[YO c]at h;show .inr h
abbrev FM:=Á M->Ê ĸi
def xt(K:Ñ)(F:FM):Sp:=λa H Q _=>∃G ms L ms' m',yN G H/\ϋ K G H ms a L/\(∀q,L q->G q=Æ)/\F ms=À (ms',m')/\
 ∀v G' H' L',zW G İp G' H'->ϋ K G' H' (m'::ms') (v::a) L'->(∀q,L' q->G' q=Æ/\cut H L q=Æ)->Q v H'
section
variable{K:Ñ}{n:Ã}{P:Á V}{G0 H0 G H G' H':Hp}{β:yU}{σ:St}
def yK.cF{m:M}{v:V}{L:Ft}(E:yK K n P G0 H0 G H β σ)(x:zW G H G' H')(o:xf K G' H' m v L)(k:∀q,L q->G' q=Æ/\H q=Æ):yK K Ŋ P G0 H0 G' H' Ýe ěb:=by
 let{r,F}:=ϔa;let B:=Àa x;let t:∀i q,r i q->L q->ÿ:=λi q z c=>Źc.2.2.some (k q c).2
 refine{B.ext,by rw[î,Ż];rfl,by rw[î,ź];rfl,by let:=Äb;omega,λi u h=>?_,λj=>if j<n then r j else if j=n then L else λ_=>ÿ,λi s h=>?_,λi j q p f d=>?_,λi q z=>?_};let I:i<σ.length:=by rw[ϯp]
 rw[ua I];show Ļb i u h;rcases Dj h with⟨c,e⟩|⟨c,e⟩;rw[ź]at c;let{u,C,A}:=ġa i s e;refine{u,by rw[ua Ϣd];show C,?_};simp only[Ó c];show A.loc x.g s u _ λq z=>?_
 rw[ĩq];show o;rw[ýq];show Ëa i j q p f d;rw[Ϯp];show t i q f d;show d;rw[ýq];show t j q d f;rw[Ϯp];show p É;show d;show f;rw[ûq];rw[Òq];let{J,y}:=G_ x a c;show{J,b,y};rw[ûq];show{(k q z).1,Ñi (k q z).2,o.cells m v _ q z};show Ϯ
def yK.back{m S:M}{i:Ã}{π:Á wM}(E:yK K n P G0 H0 G H β σ)(T:β[i]?=À íb)(ha:pY m π=À S) :∃r v1 L1,σ[i]?=À Ġj/\wV K H r π v1/\xf K G H S v1 L1/\(∀q,L1 q->G q=Æ)/\
   ∀{G' H':Hp}{m' nd':M}{v:V}{Lr L2:Ft},zW G (cut H L1) G' H'->xf K G' H' m' v Lr->xf K G' H' nd' v1 L2->(∀q,Lr q->L2 q->ÿ)->(∀q,Lr q\/L2 q->G' q=Æ/\cut H L1 q=Æ)->
    ∃mm,pF m π nd'=À mm/\yK K Ŋ P G0 H0 G' H' (β.set i (À mm)++[À m']) ěb:=by
 let{t,F}:=ϔa;have hi:i<n:=by rw[<-ź];show(ű T).1
 let{r,O,om}:=ġa i m T;let{v1,L1,Z,o1,I,re}:=om.focus ėa ha;show{r,v1,L1,O,Z,o1,λq z=>Ğm.1,λ{G' H' m' nd' v Lr L2} x Y N dj C=>?_}
 let s:∀j q,t j q->¬ L1 q->H' q=H q:=λj q z w=>by let{u,B,_}:=ŋf.2.2;rw[B];show x.h _ _ ((YO w).trans B)
 let A:∀j q,t j q->¬ L1 q->(Lr q\/L2 q)->ÿ:=λj q z w c=>by let e:=Ķj.2;rw[YO w]at e;show ŋf.2.2.some e
 let{mm,e',o'}:=re x.g (λq z w=>s i q z w) N (λq z w=>by by_cases c:L1 q;show c;show(A i q w c ıa).elim)
 let y:∀j q,j≠i->t j q->¬ L1 q:=λj q l z w=>Ëa i j q Žn (I q w) z
 let J:∀q,cut H L1 q=Æ->H0 q=Æ:=λq z=>by rcases iZ z with z|z;show Ğm.2.1;show Ñi z
 let p:(υa (À mm)).length=n:=by rw[Ąq]
 show{mm,e',{E.ext.g.trans x.g,λq o z=>x.h _ _ ?_,ϻa,λq z=>?_},by rw[î,Ż];rfl,by rw[î,p];rfl,by let:=Äb;omega,λj u h=>?_,λj=>if j=i then żk else if j<n then t j else if j=n then Lr else λ_=>ÿ,λj L h=>?_,λj k q l f d=>?_,λj q z=>?_}
 .rw[YO λw=>by rw[(ľa i q (I q w)).2.1]at z;cases z];show āg _ _ z
 .rcases Ëd q z with w|w
  .show Ųi q w
  .show .inr (J q w)
 .let hj:j<σ.length:=by
   rw[ϯp]
  rw[ua hj];show Ļb j u h
 .rcases Dj h with⟨c,e⟩|⟨c,e⟩
  .rw[p]at c;rcases tN e with⟨rfl,w⟩|⟨l,w⟩
   .cases w;rw[Ļq];show{r,by rw[ua Ϣd];show O,o'}
   .let{u,eu,ou}:=ġa j L w;simp only[Ô l,Ó c];show{u,by rw[ua Ϣd];show eu,ou.loc x.g L u _ λq z=>s j q z ēo}
  .cases e;rw[p]at c;subst c;show{_,gO Ż,?_};simp only[Ô (ęb hi),čd,áa,Ů];show Y
 .let Q:∀j,j≠i->∀q,(t i q/\¬ L1 q)\/L2 q->t j q->ÿ:=λj l q f d=>by
   rcases f with⟨f,_⟩|f;show Ëa i j q Žn f d;show A j q d (y j q l d) (.inr f)
  let U:∀q,(t i q/\¬ L1 q)\/L2 q->Lr q->ÿ:=λq f d=>by rcases f with⟨f,w⟩|f;show A i q f w ój;show dj q d f
  let R:∀j,j≠i->∀q,t j q->Lr q->ÿ:=λj l q f d=>A j q f (y j q l f) ój
  split at f
  .rw[Ϯp];show l É;rw[Ϯp];show Q k É q f d;rw[Ϯp];show U q f d;show d
  .rw[ýq];show Q j É q d f;rw[Ϯp];show Ëa j k q l f d;rw[Ϯp];show R j É q f d;show d;rw[ýq];show U q d f;rw[Ϯp];show R k É q d f;rw[Ϯp];show l É;show d;show f
 .let X:∀q,t j q->¬ L1 q->G' q=Æ/\H0 q=Æ/\Bx H' q:=λq z w=>by
   let{a,b,u,B,cu}:=ľa j q z;show{?_,b,u,(s j q z w).trans B,cu};cases e:G' q with
   |Æ=>rfl|À o=>rcases Ëd q Ϣg with c|c;show ß a c;rw[YO w,B]at c;cases c
  rw[ûq]
  .rename_i ej;subst ej;rcases z with⟨z,w⟩|z;show X q z w;show{ļp.1,J q ļp.2,N.cells nd' _ _ q z}
  .rename_i l
   rw[ûq];show X q z ēo;rw[ûq];show{Ļp.1,J q Ļp.2,Y.cells m' _ _ q z};show Ϯ
#print a
inductive AV where
 |v (d:D)|p (i:Ã) (π:Á wM)
abbrev qX:=yU->Ê (Á AV)
def V9(K:Ñ)(G H:Hp)(σ:St):Á AV->Á V->È
 | [],vs=>vs=[]|.v d::as,vs=>∃v r,vs=v::r/\zh K G d v/\V9 K G H σ as r|.p i π::as,vs=>∃v r w,vs=v::r/\σ[i]?=À (À w)/\wV K H w π v/\V9 K G H σ as r
structure MA(X:Cx)(es:Á Õ)(f:qX):È where
 h:∃t,PA X es t/\∀{P:Á V}{G0 H0 G H:Hp}{β:yU}{σ:St}{as:Á AV}{Q:Á V->Hp->È},yK X.K ć P G0 H0 G H β σ->f β=À as->(∀vs G' H',zW G H G' H'->V9 X.K G' H' σ as vs->Q vs H')->t σ H Q
nonrec def u4:qX:=λ_=>À []
def Te(f:FE)(r:qX):qX:=λβ=>(ħf).bind λd=>match vd d with
 |Ä=>(ţj).bind λa=>À Ŀp|Â=>Æ
def uH(f:FE)(r:qX):qX:=λβ=>(ĭj).bind λd=>(ţj).bind λa=>À Ŀp
nonrec def k9:M->Ã->Á wM->AV
 |.fz d,_,_=>.v d|_,i,π=>.p i π
def pW(i:Ã)(π:Á wM)(r:qX):qX:=λβ=>(Ňf).bind λb=>(ţj).bind λa=>À (k9 b i π::a)
section
variable{X:Cx}{e:Õ}{es:Á Õ}{f:FE}{r:qX}{i:Ã}{π:Á wM}
def jY:MA X [] u4:={{_,U2,λE a q=>by rw[Õq]}}
def D0(B:SE X e f)(o:MA X es r)(h:Î ϴ q12):MA X ĵ (Te f r):=by
 let{t,p,k}:=B.h;let{H,l,s}:=o.h;show{{_,WK p l h,λE a q=>?_}};let{d,w,a}:=zJ a
 rw[ϊp];rename_i c;let{G,i,a}:=zJ a;cases a;let{C,z,b}:=E.pS;show k z w λv I K x r=>?_
 let{J,y,u,n,_}:=b _ _ x;refine s u i λA L F j m=>q _ _ _ (y.trans j) {v,A,rfl,(Ěo).mono j.g,m};cases a
def uY(l:SE X e f)(n:MA X es r)(h:Î ϴ q12):MA X ĵ (uH f r):=by
 let{t,p,k}:=l.h;let{B,i,s}:=n.h;show{{_,WK p i h,λE a q=>?_}};let{d,m,a}:=zJ a;let{A,b,a}:=zJ a;cases a;show k E.MD m λv u w x r=>?_
 show s (Àa x) b λo y z c j=>q _ _ _ (őd c) {v,o,rfl,ãa c.g,j}
def gJ(C:SP X e i π)(A:MA X es r)(h:Î ϴ q12):MA X ĵ (pW i π r):=by
 let{t,p,k}:=C.h;let{L,s,F}:=A.h;show{{_,WK p s h,λE a q=>?_}};let{v,u,a}:=zJ a;let{K,o,a}:=zJ a;let{H,y,z}:=V_ u;let{w,l,G,n,j,B,_}:=ŗj y z;show k n j (F E o λm I J c f=>q _ _ _ c ?_);cases v with
 |fz d=>cases a;show{l,m,rfl,B.1.mono c.g,f}|own d=>cases a;show{l,m,w,rfl,n,ŝe c.h,f}|obj x fs ms=>cases a;show{l,m,w,rfl,n,ŝe c.h,f}|tab ks ms=>cases a;show{l,m,w,rfl,n,ŝe c.h,f}|tp b ms=>cases a;show{l,m,w,rfl,n,ŝe c.h,f}
#print a
nonrec def Qs:Á AV->Ê Éc
 | []=>À []|.v d::as=>(Qs as).bind λa=>À (d::a)|.p _ _::_=>Æ
def B6:Á AV->Ê (Á D×Ã×Á wM×Á D)
 | []=>Æ|.v d::as=>(B6 as).bind λr=>À (d::r.1,r.2)|.p i π::as=>(Qs as).bind λb=>À ([],i,π,b)
nonrec def jT(ds:Á D):Á M:=ĩg .fz
def ZQ(F:FM)(as:Á AV)(β:yU):Ê (M×yU):=match Qs as with
 |À ds=>(F (jT ds)).bind λr=>À (r.2,β)|Æ=>(B6 as).bind λc=>(kQ β c.2.1 c.2.2.1).bind λb=>(F (jT c.1++b::jT c.2.2.2)).bind λr=>(r.1[c.1.length]?).bind λa=>(Ôc β c.2.1 c.2.2.1 a).bind λβ'=>À (r.2,β')
def jM(F:FM)(f:qX):uG:=λβ=>(Óc).bind λa=>ZQ F a β
section
variable{K:Ñ}{n:Ã}{P:Á V}{G0 H0 G H G' H':Hp}{β:yU}{σ:St}
theorem Ol:∀{ds:Á D}{vs:Á V},å K G ds vs->ϋ K G H (jT ds) vs Ĺi
 | [],_,r=>{r,λ_ z=>z}|d::ds,_,r=>by let{v,r,rfl,b,a}:=r;show{v,r,λ_=>ÿ,λ_=>ÿ,rfl,{b,λ_ z=>z},Ol a,λ_ z=>Ϯ,λq=>{λz=>Ϯ,λz=>Ϯ id id}}
theorem oU{g:M}{v1:V}{c:Ft}(o:xf K G H g v1 c){b:Á D}{e:Á V}(f:å K G b e):∀{a:Á D}{va:Á V},å K G a va->ϋ K G H (jT a++g::jT b) (va++v1::e) c
 | [],va,r=>by cases(show va=[]from r);show{v1,e,c,λ_=>ÿ,rfl,o,Ol f,λ_ _ z=>z,λq=>{.inl,λz=>Ϯ id ęa}}|d::ds,_,r=>by let{v,r,rfl,i,h}:=r;show{v,_,λ_=>ÿ,c,rfl,{i,λ_ z=>z},oU o f h,λ_ z=>Ϯ,λq=>{.inr,λz=>Ϯ ęa id}}
theorem Mc:∀{as:Á AV}{ds:Á D}{vs:Á V},Qs as=À ds->V9 K G H σ as vs->å K G ds vs
 | [],ds,vs,e,r=>by cases e;show r|.v d::as,ds,vs,e,r=>by let{f,c,e}:=zJ e;cases e;let{v,r,rfl,a,b}:=r;show{v,r,rfl,a,Mc c b}
 |.p i π::as,ds,vs,e,r=>by cases e
theorem hV:∀{as:Á AV}{a b:Á D}{i:Ã}{π:Á wM}{vs:Á V},B6 as=À (a,i,π,b)->V9 K G H σ as vs->∃va v1 vb w,vs=va++v1::vb/\å K G a va/\å K G b vb/\σ[i]?=À (À w)/\wV K H w π v1
 | [],a,b,i,π,vs,e,r=>by cases e|.v d::as,a,b,i,π,vs,e,r=>by obtain⟨⟨q,o,π',k⟩,c,e⟩:=zJ e;cases e;let{v,r,rfl,l,h}:=r;let{va,v1,vb,w,rfl,m,n,g,f}:=hV c h;show⟨v::va,v1,vb,w,rfl,{v,va,rfl,l,m},n,g,f⟩
 |.p j ρ::as,a,b,i,π,vs,e,r=>by let{k,c,e}:=zJ e;cases e;let{v,r,w,rfl,g,va,h}:=r;show{[],v,r,w,rfl,rfl,Mc c h,g,va}
theorem PQ{v1:V}{c:M}:∀{ms:Á M}{vs:Á V}{L:Ft}{k:Ã},ϋ K G H ms vs L->ms[k]?=À c->vs[k]?=À v1->∃L2,xf K G H c v1 L2/\∀q,L2 q->L q
 | [],_,_,_,_,e,_=>by cases e|m::ms,_,L,0,h,e1,e2=>by let{v,r,b,g,rfl,f,a,d,u}:=h;cases e1;cases e2;show{b,f,λq z=>(ϸ).mpr ύc}
 |m::ms,_,L,k+1,h,e1,e2=>by let{v,r,b,g,rfl,f,a,d,u}:=h;let{L2,o,s}:=PQ (k:=k) a ϴl ϳl;show{L2,o,λq z=>(ϸ).mpr (.inr Ĥj)}
def yK.call{F:FM}{as:Á AV}{vs:Á V}{m:M}{β':yU}{Q:VK}{E0:XK}(E:yK K n P G0 H0 G H β σ)(C:V9 K G H σ as vs)(c:ZQ F as β=À (m,β'))(q:∀v G' H',yN G G'->yK K Ŋ P G0 H0 G' H' ên ěb->Q v H'):xt K F vs H Q E0:=by
 unfold ZQ at c
 split at c;rename_i ds e;rw[ĳq];cases c;show{G,_,_,_,_,ėa,Ol (Mc e C),λ_ z=>Ϯ,l,λv G' H' L' x o f=>?_}
 let A:cut H Ĺi=H:=by
  funext q
  show YO (λz=>z)
 rw[A]at x;let{v',J,La,Lb,e2,p,y,I,u}:=o;cases e2
 show q v G' H' x.g (E.cF x p λq z=>by let{a,b}:=f q Ϥd;rw[A]at b;show{a,b});obtain⟨⟨a,i,π,b⟩,hc,c⟩:=zJ c;let{nd,N,c}:=zJ c;rw[ĳq];let{Z,k,c}:=zJ c;let{β2,s,c}:=zJ c;cases c;let{mm,B,S}:=V_ N;let{w,v1,L1,Y,L,p,g1,X}:=ŗj B S;let{xa,O,xb,w',rfl,r,r2,d,h}:=hV hc C;rw[Y]at d;cases d;cases Ĥc L h;show{G,_,L1,_,_,ėa,oU p r2 r,g1,l,λv G' H' L' x o f=>?_};let{v',J,La,Lb,e2,T,U,I,u}:=o;cases e2
 let{L2,y,t}:=PQ (v1:=v1) U k (by rw[<-ſ,ăb Đ,ϣb];rfl)
 let{m3,e3,R}:=X x T y (λq z w=>I q z (t q w)) (λq z=>by rcases z with z|z;show f q Ϥd;show f q ((ϸ).mpr (.inr (t q z))))
 rw[DO B e3]at s;cases s;show q v G' H' x.g R
#print a
section
variable{X:Cx}{x m c:Ç}{ps:Á Ç}{j k:Ã}{F:FM}{e o:Õ}{es:Á Õ}{fa:qX}{p pos Ű:Pos}{i:Ã}{π:Á wM}
def Vx(h:vg ú X.w X.K õ Ũ x ps k ϊc)(u:xL j X.A)(y:Gl X x)(n:MA X ĵ fa)(hk:Î Òc q10)(a:Î ķ q10)(f:Î Ła q12):MC X Ϙa Ĩp:=by
 let{t,i,z}:=n.h;show{{_,PU h u y i hk a f,λE b q=>?_}};let{G,c,b}:=zJ b;show z E c λH B C d l=>?_
 rw[ū];show(Àa d).call l b λv m o s r=>q v m o (d.g.trans s) r
def uk(P:ï)(w:è)(K:Ñ)(b:Ç->Ê Value)(a:Heap)(c m:Ç)(ps:Á Ç)(k:Ã)(sp:Sp):È:=
 ∃(C f:Ì) (fd:Ō),ϝ K Ģ c=À ěa/\qW K C/\EJ K C m f/\t7 K fd ps []/\xi P w K b a xY k f fd ps sp
def ZR(c m:Ç)(i:Ã)(π:Á wM)(F:FM)(f:qX):uG:=λβ=>(Ňf).bind λb=>match b with
 |.obj x fs _=>match decide (x=c)&&!(decide (m∈fs))with
  |Ä=>(Óc).bind λa=>ZQ F (.p i π::a) β|Â=>Æ
 |_=>Æ
theorem Np{f:Ç}:∀{fs:Á Ç}{vs:Á V},f ∉ fs->(ğo).lookup f=Æ
 | [],_,_=>rfl|_::_,[],_=>rfl|g::fs,v::vs,h=>by
  rw[Ŭa,ϻd]
  let c:(f==g)=Â:=by
   let:f≠g:=λz=>h (z▸ĳ)
   rw[źp]
  rw[c];show Np λz=>h Ūf
def z65{P:Á V}{d b G H:Hp}{β β':yU}{σ:St}{y:M}{Q:VK}{C:Ì}{t:TA}{z:TE}{E0:XK}(k:ϝ X.K Ģ c=À ěa)(S:∀{σ:St}{H:Hp}{v u:V}{Q:VK},σ[i]?=À Êa->wV X.K H v π u->Q u H->z σ H Q)(O:∀{P:Á V}{d b G H:Hp}{β:yU}{σ:St}{as:Á AV}{Q:Á V->Hp->È},yK X.K ć P d b G H β σ->fa β=À as->(∀vs G' H',zW G H G' H'->V9 X.K G' H' σ as vs->Q vs H')->t σ H Q)(E:yK X.K ć P d b G H β σ)(j:ZR c m i π F fa β=À (y,β'))(q:∀v G' H',yN G G'->yK X.K (ć+1) P d b G' H' (β'++[À y]) ěb->Q v H'):Ak C m ϊc [] E0 z t σ H Q:=by
 let{nd,I,a}:=zJ j
 rw[ϊp];rename_i x fs ms
 rw[ϊp];rename_i n;rw[ě]at n;cases ő n.1
 let R:m ∉ fs:=by let:=n.2;rw[źp]
 let{as,e,j}:=zJ a;let{mm,f,L}:=V_ I;let{w,v1,L1,A,r,Z,_}:=ŗj f L;let{p,C',U,vs,L',rfl,B,J,l,rs,nL,uL}:=Z;rw[k]at B;cases B;show S A r {p,U,_,rfl,J,Np R,?_};show O E e λvs G1 H1 o T=>?_
 rw[ū];show(Àa o).call (as:=.p i π::as) {_,vs,w,rfl,A,ãa o.h,T} j λv G' H' s Y=>q v G' H' (Şi s) Y;cases a;cases a
def D3{pl:Sem Ð}(h:uk ú X.w X.K õ Ũ c m ps k ϊc)(u:xL j X.A)(l:SP X o i π)(hk:Î Òc q10)(g:Ė Õd Ù=(do
   let ov <-Ė o Ù
   standAt ñe
   let (f,first) <-holding [ov] Ϭd
   Ϟc pos f first ĉh Ľc):=by rfl):MC X Õd (ZR c m i π F u4):=by
 let{C,f,L,r,v,p,b,a}:=h;let{I,y,n}:=l.h;show{{_,ot y v p a (u.mono hk) b .nil U3 g,λE s q=>z65 (t:=X5) r n (λ{P B z G H β σ J Q} d e x=>by cases e;show x _ _ _ (úa d.ext.gh) rfl) E s q}}
def IH(P:ï)(w:è)(K:Ñ)(b:Ç->Ê Value)(a:Heap)(c:Ç)(ps:Á Ç)(k:Ã)(sp:Sp):È:=
 ∃(C f:Ì) (fd:Ō),ϝ K Ģ c=À ěa/\b c=À ŝ/\Mk K C f/\t7 K fd ps []/\xi P w K b a xY k f fd ps sp
def Im(c:Ç)(F:FM)(f:qX):uG:=λβ=>(Óc).bind λa=>(Qs a).bind λb=>(F (.obj c [] []::jT b)).bind λr=>match r.2 with
 |.fz .zD=>(r.1[0]?).bind λm=>À (m,β)|_=>Æ
def Nw(h:IH ú X.w X.K õ Ũ c ps k ϊc)(hr:xL j X.A)(hg:Gl X c)(ha:MA X ĵ fa)(hk:Î (k+1<=j) q10)(O:Î ϥg q10)(T:Î Ła q12) :MC X (.Call đi ĵ [] pos) (Im c F fa):=by
 let{C,f,fd,ns,S,mk,b,FF}:=h;let{t,pa,ka}:=ha.h;rw[ų,ě]at T;show{{_,x0x mk FF (hr.mono hk) hg S b .nil U3 pa O (tP T.1) (Wb T.2),λ{P G0 H0 G H β β' σ mr Q} E d q=>?_}};let{as,N,d}:=zJ d;let{ds,J,d}:=zJ d;obtain⟨⟨Z,m'⟩,hF,d⟩:=zJ d;show ka E N λvs x m x1 ra y i r l ne=>?_
 rw[ū];let R:=Àa x1;let rd:=Mc J ra
 rw[Ϯp];rename_i em
 change m'=.fz .zD at em
 subst em;let{m0,h0,d}:=zJ d;cases d;let U:∀q,q≠y->q≠i->zd (zd m i (.own y)) y (.ins C i []) q=m q:=λq z w=>by rw[yH z,yH w]
 let gy:x y=Æ:=R.ext.gh.free r
 let s2:yN x Ģk:=λq o z=>by let s:=R.ext.gh _ _ z;rw[U q (λc=>by subst c;rw[r]at s;cases s) (λc=>by subst c;rw[l]at s;cases s)];show s
 show{x,.obj c [] []::jT ds,λq=>q=y,Z,.fz .zD,s2,{_,vs,λq=>q=y,λ_=>ÿ,rfl,{y,C,i,[],λ_=>ÿ,rfl,ns,yo,rfl,{rfl,λ_ z=>z},λz=>z,λq=>{.inl,λz=>Ϯ id ęa}},Ol rd,λ_ _ z=>z,λq=>{.inl,λz=>Ϯ id ęa}},λq z=>z▸gy,hF,λv G' H' L' B o hN=>?_};let{v',r',La,Lb,e2,oa,ob,dj,u}:=o;cases e2;show{oa.1,?_};let{L2,o2,Y}:=PQ (v1:=.ref y) ob h0 rfl
 let cn:∀q,cut Ģk (λq=>q=y) q=Æ->m q=Æ:=λq z=>by rcases iZ z with z|z;show z▸r;by_cases n:q=y;show n▸r;by_cases I:q=i;show I▸l;rw[U q n I]at z;show z
 let x3:zW x m G' H':=⟨B.g,λq o z=>B.h _ _ (by
  let n:q≠y:=λc=>by subst c;rw[r]at z;cases z
  let I:q≠i:=λc=>by subst c;rw[l]at z;cases z
  rw[YO (L:=λq=>q=y) n,U q n I];show z),B.gh,λq z=>by
  rcases B.new q z with w|w;show .inl w;show .inr (cn q w)⟩
 show q _ G' H' (x1.g.trans x3.g) (R.cF x3 o2 λq z=>by let{a,b}:=hN q (ζa (Y q z));show{a,cn q b});cases d
#print a
section
variable{K:Ñ}{G H:Hp}
theorem Þo:∀{ms:Á M}{vs:Á V}{L:Ft},ϋ K G H ms vs L->∃Ls:Ã->Ft,(∀(i:Ã)(m:M),ms[i]?=À m->∃v,vs[i]?=À v/\xf K G H m v ųj)/\(∀(i j:Ã)(q:Ì),i≠j->Ls i q->Ls j q->ÿ)/\∀i q,Ls i q->L q
 | [],_,_,_=>{λ_ _=>ÿ,{λi m h=>Ϣn,{λ_ _ _ _ z=>Ϯ,λ_ _ z=>Ϯ}}}|m::ms,_,L,h=>by
  let{v,r,k,t,rfl,o,p,d,u}:=h;let{Ls,n,l,a}:=Þo p;show{λi=>match i with|0=>k|j+1=>Ls j,λi s e=>?_,λi j q g b f=>?_,λi q z=>?_};cases i with
  |Øa=>cases e;show{v,rfl,o}|Ùa j=>show n j s Ϛa
  cases i with
  |Øa=>
   cases j with
   |Øa=>show g rfl|Ùa j=>show d q b (a j q f)
  |Ùa i=>
   cases j with
   |Øa=>show d q f (a i q b)|Ùa j=>show l i j q (λc=>g Ÿo) b f
  cases i with
  |Øa=>show(ϸ).mpr ύc|Ùa j=>show(ϸ).mpr (.inr (a j q z))
theorem Įi:∀{ms:Á M}{vs:Á V}{Ls:Ã->Ft},(∀(i:Ã)(m:M),ms[i]?=À m->∃v,vs[i]?=À v/\xf K G H m v ųj)->(∀(i j:Ã)(q:Ì),i≠j->Ls i q->Ls j q->ÿ)->Ć=āa->∃L,ϋ K G H ms vs L/\∀q,L q->∃i,i<āa/\Ls i q
 | [],vs,Ls,_,_,l=>by
  cases vs with
  |nil=>show{λ_=>ÿ,{rfl,λ_ z=>z},λ_ z=>Ϯ}|ó v r=>cases l
 |m::ms,[],Ls,_,_,l=>by cases l|m::ms,v::vs,Ls,h,d,l=>by
  let{L,o,c}:=Įi (ms:=ms) (vs:=vs) (Ls:=λi=>Ls ñ) (λi g e=>by let{u,b,a}:=h ñ g Ϛa;show{u,by simpa using b,a}) (λi j q p=>d ñ ϻ q É) (ăd l)
  let{u,b,a}:=h 0 m rfl;cases b;show{λq=>Ls 0 q\/L q,{v,vs,Ls 0,L,rfl,a,o,λq k n=>?_,λq=>ϰc},λq z=>?_};let{i,_,z}:=c q n;show d 0 ñ q É k z;rcases z with z|z;show{0,Íi _,z};let{i,f,z}:=c q z;show{i+1,ŏm f,z}
#print a
nonrec def YH:Á ğj->Ê (Á M)
 | []=>À []|o::r=>ľj λm=>(YH r).bind λa=>À (m::a)
def HP(b:Ã):gx->Ê ĸi
 |.rt m β=>(ŧm).bind λa=>À (a,m)|.nx β=>(ŧm).bind λa=>À (a,.fz .zD)|_=>Æ
def vH(a n:Ã)(b:xB)(ms:Á M):Ê ĸi:=(b (ζe (n-āa))).bind (HP a)
def uE(c n:Ã)(b:xB):FM:=λa=>if Èa=c then vH c n b a else Æ
def uT{a n:Ã}{b:xB}:∀ms r,uE a n b ms=À r->āa=a/\vH a n b ms=À r:=λms r h=>by
 unfold uE at h
 rw[ēq]
theorem hG:∀{os:Á ğj} {ms:Á M},YH os=À ms->āa=os.length/\∀(i:Ã)(m:M),ms[i]?=À m->os[i]?=À íb
 | [],ms,h=>by cases h;show{rfl,λi m e=>by cases e}|o::r,ms,h=>by
  let{d,a,h}:=zJ h;let{c,b,h}:=zJ h;cases h;subst a;let{l,g}:=hG b;refine{by rw[ą,ą,l],λi m e=>?_};cases i with
  |Øa=>cases e;rfl|Ùa j=>show g j m Ϛa
section
variable{K:Ñ}
def y3k{N:Á Ç}{G H:Hp}{ms:Á M}{vs:Á V}{L:Ft}(s:yN G H)(o:ϋ K G H ms vs L)(t:∀q,L q->G q=Æ)(u:āa<=Ş):yK K Ş vs G İp G H (ζe (Ş-āa)) Ķi:=by
 let l:=Ůb;let{k,j,g,b}:=o.split;let d:∀q,L q->Bx H q:=Ğd (λm _ v f n=>n.cells m v f) o
 let a:∀(i:Ã)(v:V),vs[i]?=À v->Ķi[i]?=À Êa:=λi v e=>by unfold üe;rw[Ąb (by rw[ç];show Ŕe.1),Ś,e];rfl
 show{{Ϩa _,λq o e=>?_,s,λq z=>.inl z},?_,?_,by omega,a,k,λi m h=>?_,g,λi q z=>{t q ϧi,iY ϧi,d q ϧi}};rw[óq];rw[iY c]at e;cases e;rw[YO c]at e;show e;unfold üe;rw[ϴp];rw[ϴp];let{w,e,z}:=D2 h;cases z;let{v,p,r}:=j i _ e;show{v,a i v p,r}
def nU{n:Ã}{s f G H:Hp}{vs:Á V}{β:yU}{σ:St}{m:M}{v:V}{ms:Á M}(E:yK K Ŋ vs s f G H Ýe ěb)(x:Ć<=n)(h:YH (β.take Ć)=À ms) :∃L,ϋ K G H (m::ms) Ĕg L/\∀q,L q->G q=Æ/\f q=Æ:=by
 let{Ls,F}:=ϔa;let{l,g}:=hG h;rw[Ïa,E.V3,Ņa x]at l;let{u,p,t}:=ġa n m ĭp;rw[gO E.JS]at p;cases p
 let{L,o,C}:=Įi (K:=K) (G:=G) (H:=H) (ms:=m::ms) (vs:=v::vs) (Ls:=λi=>match i with|0=>Ls n|j+1=>if j<n then Ls j else λ_=>ÿ) (λi d e=>by
  cases i with
  |Øa=>cases e;show{v,rfl,t}|Ùa j=>
   let k:ms[j]?=À d:=by rw[éq]
   have c:j<Ć:=by rw[<-l];show(ű k).1
   let e2:=g j d k;rw[Ùm]at e2;rw[Ó c]at e2;let{w,A,B}:=ġa j d (by rw[ua (by rw[E.V3];omega)];show e2);let r:=Ļb j (vs[j]) ďg;rw[A]at r;cases r;refine{vs[j],by simp[c],?_};simp only[Ó (show j<n by omega)];show B) (λi j q y a b=>by
  cases i with
  |Øa=>
   cases j with
   |Øa=>show y rfl|Ùa j=>
    dsimp only at a b
    rw[ĝq];show Ëa n j q É a b;show b
  |Ùa i=>
   cases j with
   |Øa=>
    dsimp only at a b
    rw[ϊp];show Ëa n i q É b a;show a
   |Ùa j=>
    dsimp only at a b
    rw[ϊp];rw[ĝq];show Ëa i j q É a b;show b;show a) ûm
 show{L,o,λq z=>?_};let{i,_,z}:=C q z;cases i with
 |Øa=>show{òo.1,òo.2.1}|Ùa j=>
  dsimp only at z
  rw[ûq];show{ŋf.1,ŋf.2.1};show Ϯ
#print a
structure vW(K:Ñ)(x qual:Ç)(st:Ú)(f:Ì)(fd:Ō):È where
 ex:∃(oc:Value) (od:Ê Ì) (dV kV doc pm:Value) (an:Ê Ì) (cdv ct:Value) (osl:Ü Öb),
  fd=Àd x qual Ŝd Ôa Ŕ dV kV doc pm an cdv ct/\Ϩ f=À {oc,od,.func fd,osl}/\ůb K cdv qual=Ä
 kp:ïa K Ń=Ä
def _root_.L2.Fun.v{K:Ñ}{x a:Ç}{st:Ú}{f:Ì}{h:Ō}(F:Fun K x a st f h):vW K x a st f h:=by let{n,k,kV,d,j,l,g,m,b,e,i,c}:=F.ex;show{{n,k,.none,kV,d,j,l,g,m,b,e,i,c},F.kp}
section
variable{P:ï}{w:è}{K:Ñ}{mg:Ç->Ê Value}{Ë:Heap}
def z8j{x a:Ç}{st:Ú}{f:Ì}{j:Value}{m g:Ê Ì}{e:Ü Öb}{h kV d i b ct:Value}(l:Ϩ f=À {j,m,.func ðk,e})(c:ůb K b a=Ä)(k:ïa K Ń=Ä):vW K x a st f ðk:={{j,m,h,kV,d,i,g,b,ct,e,rfl,l,c},k}
def vW.ok{x a:Ç}{st:Ú}{f:Ì}{i:Ō}{N ps:Á Ç}{k:Ã}{sp:Sp}(F:vW K x a st f i)(S:zk N ps Ŕ)(d:∀vs H Q E,sp vs H Q E->Ć=ę)(c:∀(b:Value)(A:ā)(ĉ:Á Env)(s:Ï)(H:Hp)(vs:Á V)(Q:VK)(E:XK),xL k Æl->sp vs H Q E->
   ∃t,tV (îk).qU Ôa t/\t { nx:=λ_ H'=>Q .zD H',rt:=Q } ŷc H):xi P w K mg Ë xY ϕ f i ps sp:=by
 let{y,r,v,kV,l,o,p,b,u,m,rfl,j,g}:=F.ex;show lR j g S d λA ĉ s H vs Q E n e=>?_
 rw[Ðq]
def vW.JU{x c:Ç}{st:Ú}{f:Ì}{R:Ō}{N ps:Á Ç}{k:Ã}{F:FM}{b:xB}(d:vW K x c st f R)(S:zk N ps Ŕ)(T:ę<=Ş)(U:∀ms r,F ms=À r->āa=ę/\vH ę Ş b ms=À r)(hb:∀(g:Value)(A:ā)(ĉ:Á Env)(s:Ï)(H:Hp)(E:XK),xL k Ål->jy (ík).qU ę Ôa b):xi P w K mg Ë xY ϕ f R ps Øg:=by
 show d.ok S (λX H Q E h=>?_) λg A ĉ s H X Q E Z h=>?_;let{G,ms,L,I,m',_,o,_,e,_}:=h;rw[Ůb,(U _ _ e).1];let{G,ms,L,I,m',s',o,hL,e,q}:=h;let{l,a}:=U _ _ e;let{t,p,kt}:=(hb g A ĉ s H E Z).h;let{Y,O,a}:=zJ a;let i:Ϥ=ę:=by rw[Ůb,l]
 refine{t,p,kt i (y3k (N:=N) s' o hL É) O ?_};cases Y with
 |nx β=>let{B,u,a}:=zJ (show(þm).bind _=_ from a);cases a;intro σ J y j;let{C,z,n}:=nU (j.Ul (d:=.zD) (v:=.zD) rfl) ĵm Ĵm;show q .zD J y C j.ext z n
 |rt m β=>let{B,u,a}:=zJ (show(þm).bind _=_ from a);cases a;intro σ v J y j;let{C,z,n}:=nU j ĵm Ĵm;show q v J y C j.ext z n
 |_=>cases a
def vW.z4m{x c:Ç}{st:Ú}{f:Ì}{m:Ō}{N ps:Á Ç}{k:Ã}{F:Á D->Ê ã}{b:FS}(d:vW K x c st f m)(S:zk N ps Ŕ)(O:ę<=Ş)(j:∀ds r,F ds=À r->ø=ę/\yC Ş b ds=À r)(B:∀(g:Value)(A:ā)(ĉ:Á Env)(s:Ï)(H:Hp)(E:XK),xL k Ål->qY (ík).qU Ôa b):xi P w K mg Ë xY ϕ f m ps Ĺe:=by
 show d.ok S (λL H Q E h=>?_) λg A ĉ s H L Q E I h=>?_;let{G,ds,o,n,_,r,e,_}:=h;rw[ſ,ĩp.1];let{G,ds,o,n,J,r,e,q}:=h;let{l,a}:=j _ _ e;let{t,p,v}:=(B g A ĉ s H E I).h;let{u,i,a}:=zJ a;refine{t,p,v (lE (N:=N) J r É) i ?_};cases u with
 |nx τ=>cases a;show λσ y C z=>q .zD y C z.ext rfl|rt o' d'=>
  cases o' with
  |Â=>cases a<;>show q|Ä=>cases a<;>show q
 |_=>cases a
theorem Def.JU{x:Ç}{st:Ú}{N ps:Á Ç}{k:Ã}{F:FM}{b:xB}(d:Def K mg x st ps)(S:zk N ps Ŕ)(g:ę<=Ş)(i:∀ms r,F ms=À r->āa=ę/\vH ę Ş b ms=À r)(h:∀(f:Ì)(a:Value)(A:ā)(ĉ:Á Env)(s:Ï)(H:Hp)(E:XK),xL k (ĝb (ãb x Ŕ Þ f a))->jy (qC xY P w K mg Ë N x Ŕ f a A ĉ s H E).qU ę Ôa b):vg P w K mg Ë x ps ϕ Øg:=by let{f,j,e,l,c}:=d;show{f,j,l,e.kp,c,e.v.JU S g i (h f)}
def lg(F:FM):Á D->Ê ã:=λa=>(F (jT a)).bind λr=>match r.2 with
 |.fz d=>À (Â,d)|.own d=>À (Ä,d)|_=>Æ
def x6r{F:FM}{vs:Á V}{H:Hp}{Q:VK}{E:XK}(h:vQ K (lg F) vs H Q E):xt K F vs H Q E:=by
 let{G,t,o,d,s,r,e,q}:=h;obtain⟨⟨c,k⟩,y,e⟩:=zJ e
 let i:cut H Ĺi=H:=by
  funext q
  show YO (λz=>z)
 show{G,jT t,λ_=>ÿ,c,k,s,Ol r,λ_ z=>Ϯ,y,λv j g N x n w=>?_};rw[i]at x;let{C,A,I,J,e2,f,B,L,u}:=n;cases e2;cases k with
 |fz d'=>cases e;show q v j g x f.1|own d'=>cases e;let{p,rfl,l,m}:=f;let{a,b}:=w p ((u p).mpr (.inl ((m p).mpr rfl)));rw[i]at b;show q p j g x b a l
 |_=>cases e
#print a
structure MM(P:ï)(w:è)(K:Ñ)(mg:Ç->Ê Value)(Ë:Heap)(c m:Ç)(ps:Á Ç)(k:Ã)(sp:Sp):È where
 ex:∃(C f:Ì) (fd:Ō) (mc:Value),mg c=À ŝ/\ôi K ŝ Ĉh=À ſg/\ūi K C mc=Ä/\Ŭi K ŝ mc m=À Ńi/\ïa K Ń=Ä/\t7 K fd ps []/\xi P w K mg Ë xY k f fd ps sp
section
variable{X:Cx}{c m:Ç}{ps:Á Ç}{j k:Ã}{F:FM}{e:Õ}{es:Á Õ}{fa:qX}{p pos Ű:Pos}{sp:Sp}{t:TA}
def x0p{pl:Sem Ð}(h:MM ú X.w X.K õ Ũ c m ps k sp)(E:xL j X.A)(F:Gl X c)(z:PA X ĵ t)(hk:Î Òc q10)(i:Î ϥg q10)(d:Î Ła q12)(x:Ė ϐe Ù=(do
   let ov <-Ė đi Ù
   standAt ñe
   let (f,first) <-holding [ov] Ϭd
   Ϟc pos f first äf Ľc):=by rfl):PE X ϐe Ân:=by
 let{C,f,P,L,y,g,l,a,B,b,u}:=h.ex;rw[ų,ě]at d;intro v s σ H Q I o;show źm (pl:=pl) ?_ x;show Ob I F y ?_ i;show W.method_cls Ť g (W.cls_value Ť l a rfl ?_);show Ļf (h₀:=Ũ) ŏf B (zt (z pos v _ σ H _ Çc o) λN J ⟨O,G,n,r,q⟩=>{n.xz,Oz u (E.mono hk) b .nil U3 n r q}) (tP d.1) (Wb d.2)
def nX{pl:Sem Ð}(h:MM ú X.w X.K õ Ũ c m ps k ϊc)(B:xL j X.A)(C:Gl X c)(x:MA X ĵ fa)(hk:Î Òc q10)(a:Î ϥg q10)(l:Î Ła q12)(n:Ė ϐe Ù=(do
   let ov <-Ė đi Ù
   standAt ñe
   let (f,first) <-holding [ov] Ϭd
   Ϟc pos f first äf Ľc):=by rfl):MC X ϐe Ĩp:=by
 let{t,o,G}:=x.h;show{{_,x0p h B C o hk a l n,λE b q=>?_}};let{J,d,b}:=zJ b;show G E d λL H I i r=>?_
 rw[ū];show(Àa i).call r b λv u y s z=>q v u y (i.g.trans s) z
#print a
#print L3
namespace L2
open ģ ĺ ϑ Ĭ
section
variable{X:Cx}{c e:Õ}{es:Á Õ}{t:TA}{tc:TE}{pos:Pos}{j:Ã}
nonrec def x7i(X:Cx)(j:Ã)(tc:TE)(t:TA):TE:=λσ H Q=>tc σ H λv a=>∃(f:Ì) (fd:Ō) (ps:Á Ç) (k:Ã) (sp:Sp),v=.ref f/\k<=j/\ïa X.K Ń=Ä/\t7 X.K fd ps []/\xi ú X.w X.K õ Ũ xY k f fd ps sp/\t σ a λc b=>sp (c++[]) b Q E0
def x0n(y:xL j X.A)(m:PE X c tc)(w:PA X ĵ t)(a:Î Ła q12)(d:Î (Ė Źl Ù=(do Ϟc pos (<-Ė c Ù) [] äf Ľc)) q12):PE X Źl (x7i X j tc t):=by rw[Žp];rw[ų,ě]at a;rw[d];show Ø (zt (m g s σ H _ I h) λu n ⟨v,C,p,l,f,K,N,k,B,z,o,x,b,F,q⟩=>?_);subst z;cases l;show Ļf (h₀:=Ũ) ŏf x (zt (w pos g n σ _ _ p q) λG J ⟨L,E,i,r,q⟩=>{i.xz,?_}) (tP a.1) (Wb a.2);show Oz F (y.mono o) b .nil U3 i r q
#print a
#print L2
namespace L3
open ģ ĺ Ĭ L2
def Xj(K:Ñ)(w:è)(b:Ç->Ê Value)(a:Ì)(ks:Á zZ)(ns:Á Ç):È:=
 ∃fs:Á Ì,êa=Â/\Ĉ=Ĳa/\(∀(i:Ã)(n:Ç),ns[i]?=À n->∃f,fs[i]?=À f/\b n=À Ń)/\ŵ=Ĳa/\∀(P:ï)(h:Heap),ţ h->∃vs,KV (ħg όi) vs/\ŀd ĳa a vs
inductive VN(mg:Ç->Ê Value):Á Ç->Á Ì->È
 |nil:VN mg [] []
 |ó {n:Ç} {f:Ì} {ns:Á Ç} {fs:Á Ì} (h:mg n=À Ń) (r:VN mg ns fs):VN mg ĥj ŝd
theorem VN.at_{c:Ç->Ê Value}:∀{ns:Á Ç}{fs:Á Ì},VN c ns fs->(∀(i:Ã)(n:Ç),ns[i]?=À n->∃f,fs[i]?=À f/\c n=À Ń)/\ŵ=Ĳa
 |_,_,.nil=>{λi n h=>Ϣn,rfl}|_,_,.cons h r=>by
  let{a,b}:=r.at_;show{λi n e=>?_,by rw[ą,ą,b]};cases i with
  |Øa=>cases e;show{_,rfl,h}|Ùa i=>show a i n Ϛa
theorem z2k:∀{fs:Á Ì},zx όi ïp
 | []=>.nil|_::_=>.cons rfl z2k
def z8z{K:Ñ}{c:Ç->Ê Value}{w:è}{a:Ì}{es:Á Ĥb}{n:Ã}{xs ns:Á Ç}{fs:Á Ì}(l:Ϩ a=À { cls:=.type ϐ,ċ:=.dict Ħi n })(e:gs w es xs ïp)(j:Ϝc)(k:êa=Â)(m:VN c ns fs) :Xj K w c a Ųc ns:=by
 let d:(Îc şa:Á zZ).length=(όi).length:=by rw[ç,e.len,ç,ç]
 let{f,i}:=m.at_;refine{fs,k,by rw[d,ç],f,i,λP h g=>{_,Nc z2k d,?_}};rw[Īq];refine{_,_,_,g _ _ l,{rfl,rfl,rfl},rfl,λe o=>q e (by simpa using o),p,?_};rw[Fa Ùh];show ôf _ Ϥe j
section
variable{X:Cx}
def z8x{A:Ì}{ks:Á zZ}{ns:Á Ç}(g:Xj X.K X.w õ A ks ns):xF X ϒc (Ψd Ϙi):=by rw[ϫp];let{l,a,c,_,_,d}:=g;let{m,b,e}:=d ú ä Ť;show Ço (gH i) a e.mapOf ?_;rw[<-(Ĳp).V7,Wo k Ϸl,BQ k Ϸl];show{.bl _,H,ϟ _,rfl,q}
def x78{A:Ì}{ks:Á zZ}{ns:Á Ç}{x:Ç}{p pos:Pos}{a:Õ}{e:FE}(h:wH õ x Ųb)(g:Xj X.K X.w õ A ks ns)(t:Gl X x)(n:SE X a e)(f:Î ķ q10)(l:Î (ϟb .In Îa=Â) q12) :ST X (.Compare a [.In] ðo pos) (tE (e1 (Xw ks) e)):=by let{I,i,s}:=n.h;show{{_,DN (z8x g) i (WL h t f) l,λ{B v G H τ σ d Q} E c q=>?_}};rw[Ĩq];let{k,m,b}:=zJ b;cases b;cases c;show s E o λu C F r j=>{rfl,k,Zd m j,_,rfl,q _ _ r}
def z8y{A:Ì}{ks:Á zZ}{ns:Á Ç}(g:Xj X.K X.w õ A ks ns):pU X (λx y H Q=>x=.ref A/\∃k n,y=kV k/\Ċ ks ns k=À n/\∀f,õ n=À Ń->Q Ń H):=by
 intro d p T s σ H x y v u Q I Z Y h P;let{rfl,k,n,rfl,J,q}:=h;cases Z;let{a,z,N,b,R,L}:=g;let{vs,m,t}:=L ú ä Ť
 let l:∀{ks:Á zZ}{ns:Á Ç}{a:Á Ì},(∀(i:Ã)(n:Ç),ns[i]?=À n->∃f,a[i]?=À f/\õ n=À Ń)->Ċ ks ns k=À n->∃f,Ċ ks (źb Įc) k=À Ń/\õ n=À Ń:=λ{ks}=>by
  induction ks with
  |nil=>intro ns a _ e;cases e|ó k' ks ih=>
   intro ns a b e;cases ns with
   |nil=>cases e|ó n' ns=>
    let{f0,B,E}:=b 0 n' rfl;cases a with
    |nil=>cases B|ó f1 a=>cases B;unfold Ċ at e;rw[ġ];unfold Ċ;by_cases c:k'=k;rw[Ó c]at e ⊢;cases e;show{_,rfl,E};rw[Ô c]at e ⊢;show ih (λi n h=>b ñ n ŭa) e
 let{f,U,S}:=l b J;let{C,G,j}:=āe (v:=Įc f) (o:=Äc vs k) (by rw[<-U,<-Wo k ϸl];show m.val k)
 show Ød (x:=C) t.typeIs Ϛg
  (Ûh (Q:=λr O=>r=C/\EP X T σ Q r O) (gH Y) t.mapOf G {rfl,_,H,ϟ _,j,q f S}) P
inductive u3(X:Cx)(j:Ã):Á Ç->Á FM->È
 |nil:u3 X j [] []
 |ó {n:Ç} {ps:Á Ç} {k:Ã} {F:FM} {ns:Á Ç} {Fs:Á FM} (h:vg ú X.w X.K õ Ũ n ps k ϊc) (hk:k<=j) (r:u3 X j ns Fs):u3 X j ĥj (F::Fs)
theorem u3.get{X:Cx}{j:Ã}{k:zZ}{F:FM}:∀{ks:Á zZ}{ns:Á Ç}{Fs:Á FM},u3 X j ns Fs->Ċ ks Fs k=À F->∃n ps i,Ċ ks ns k=À n/\i<=j/\vg ú X.w X.K õ Ũ n ps i ϊc
 | [],_,_,_,e=>by cases e|_::_,_,_,.nil,e=>by cases e|k'::ks,_,_,.cons (n:=n) (ps:=ps) (k:=i) h hk r,e=>by unfold Ċ at e;rw[ŵp];show{n,ps,i,by unfold Ċ;rw[Ó c],hk,h};rw[Ô c]at e;let{g,a,d,f,b}:=ϸa e;show{g,a,d,by unfold Ċ;rw[Ô c];show f,b}
def HA(ks:Á zZ)(b:Á FM)(a:FE)(c:qX):uG:=λβ=>(a ĕg).bind λx=>(Äd).bind λk=>(Ċ ks b k).bind λF=>jM F c β
def y3v{A:Ì}{ks:Á zZ}{ns:Á Ç}{B:Á FM}{x:Ç}{p z pos:Pos}{k e:Õ}{es:Á Õ}{I:FE}{C:qX}{j:Ã}(h:wH õ x Ųb)(g:Xj X.K X.w õ A ks ns)(hg:Gl X x)(D:u3 X j ns B)(U:xL j X.A)(hk:SE X k I)(R:MA X ĵ C)(hs:Î Łi q12)(hd:Î ķ q10)(he:Î Ła q12)(t:Î (Ė Ęk Ù=(do Ϟc pos (<-Ė (.Subscript Îa k z) Ù) [] äf Ľc)) q12):MC X Ęk (HA ks B I C):=by
 let{tk,pk,T}:=hk.h;let{ta,pa,ka}:=R.h;show{{_,x0n U (PR (z8y g) (WL h hg hd) pk (DJ hs)) pa he t,λ{P G0 H0 G H β β' σ m Q} E a q=>?_}};let{y,hy,a}:=zJ a;let{o,d,a}:=zJ a;let{F,hF,a}:=zJ a;let{as,r,a}:=zJ a;let{n,ps,i,O,Z,{f,Y,hm,kp,b,N}}:=D.get hF;let{G1,E1,l}:=E.pS;show T E1 hy λu G2 H2 x2 r2=>?_
 let{G3,x3,J,_}:=l _ _ x2;show{rfl,o,n,Zd d r2,O,λf' c=>?_};rw[hm]at c;cases c;show{f,Y,ps,i,_,rfl,Z,kp,b,N,ka J r λvs G4 H4 L ra=>?_};rw[ū];show(J.go L).call ra a λv G' S s K'=>q v G' S (x3.g.trans (L.g.trans s)) K'
#print a
def w6(a:Á Ç)(f:Ç):D->Ê D
 |.obj x fs vs=>if x∈a then Áa fs vs f else Æ|_=>Æ
theorem Ðp{K:Ñ}{G:Hp}{κ:Type}[ϩb κ]{k:κ}{d:D}:∀{ks:Á κ}{ds:Á D}{vs:Á V},å K G ds vs->ćj ks ds k=À d->∃v,ćj ks vs k=À v/\zh K G d v
 | [],_,_,_,e=>by cases e|_::_,[],_,_,e=>by cases e|k'::ks,d'::ds,vs,r,e=>by let{v,f,rfl,b,a}:=r;unfold ćj at e ⊢;by_cases c:k'=k;rw[Ó c]at e ⊢;cases e;show{v,rfl,b};rw[Ô c]at e ⊢;show Ðp a e
nonrec def wN(c m:Ç)(b:FE)(fs:FA):FA:=λτ=>(b τ).bind λo=>match o with
 |.obj x fl _=>match decide (x=c)&&!(decide (m∈fl))with
  |Ä=>(fs τ).bind λa=>À (o::a)|Â=>Æ
 |_=>Æ
section
variable{X:Cx}{e o:Õ}{f m c:Ç}{cs:Á Ç}{fe fo:FE}{pos Ű:Pos}{ps:Á Ç}{j k:Ã}{FF:Á D->Ê ã}
def vJ(h:SE X e fe)(k:vf X.K cs f)(B:Î Ϡk q12):SE X Þf (e1 (w6 cs f) fe):=by
 let{t,p,w}:=h.h;show{{_,oh p B,λ{J F G H τ σ d Q} E b q=>?_}};let{y,z,b}:=zJ b;show w E z λv I L c g=>?_
 unfold w6 at b
 rw[ĝq];rename_i x N P;by_cases hx:x∈cs;rw[Ó hx]at b;let{a,C,A,O,rfl,s,m,l,j}:=g;let{u,n,i}:=j.getA b;let{r,o}:=k x hx C s;show{a,C,A,_,u,rfl,c.gh _ _ m,r,o,by rw[Bw];show n,q _ _ _ c i};rw[Ô hx]at b;cases b;cases b
def x61{e b G H:Hp}{τ:yD}{σ:St}{ds:Á D}{Q:VK}{C:Ì}{t:TA}{o:TE}{sp:Sp}{fs:FA}(i:ϝ X.K Ģ c=À ěa)(z:∀{e b G H:Hp}{τ:yD}{σ:St}{d:D}{Q:VK},yJ X.K ć e b G H τ σ->fo τ=À d->(∀v G' H',zW G H G' H'->zh X.K G' d v->Q v H')->o σ H Q)(B:∀{e b G H:Hp}{τ:yD}{σ:St}{ds:Á D}{Q:Á V->Hp->È},yJ X.K ć e b G H τ σ->fs τ=À ds->(∀vs G' H',zW G H G' H'->å X.K G' ds vs->Q vs H')->t σ H Q)(E:yJ X.K ć e b G H τ σ)(h:wN c m fo fs τ=À ds)(q:∀vs G' H',zW G H G' H'->å X.K G' ds vs->sp vs H' Q E0):Ak C m sp [] E0 o t σ H Q:=by
 let{y,I,f}:=zJ h
 split at f;rename_i x A vs
 split at f;rename_i j;rw[ě]at j;cases ő j.1
 let u:m ∉ A:=by let:=j.2;rw[źp]
 let{L,s,h}:=zJ f;cases h;show z E I λv O P k n=>?_
 let{a,Y,J,U,rfl,p,F,l,R}:=id n;rw[i]at p;cases p;show{a,J,_,rfl,k.gh _ _ F,Np u,B (Àa k) s λvs S T r w=>?_};rw[ū];show q _ _ _ (k.trans r) {_,vs,rfl,n.mono r.g,w};cases f;cases f
def x6s{G H:Hp}{ds:Á D}{vs:Á V}{Q:VK}{b a:Hp}{d:D}{o:Ð}{E:XK}(x:zW b a G H)(r:å X.K G ds vs)(g:FF ds=À (o,d))(q:∀v G' H',zW b a G' H'->zh X.K G' d v->Q v H'):vQ X.K FF vs H Q E:=by
 show{G,ds,o,d,ϻa,r,g,?_};cases o with
 |Â=>show λv G' H' c r=>q v G' H' (őd c) r|Ä=>intro p G' H' c h e o;let{u,f,r}:=o.yO e;show q _ _ _ (őd (c.yO h e f)) r
def uv{pl:Sem Ð}(h:uk ú X.w X.K õ Ũ c m ps k śf)(l:xL j X.A)(B:SE X o fo)(hk:Î Òc q10)(z:Ė Õd Ù=(do
   let ov <-Ė o Ù
   standAt ñe
   let (f,first) <-holding [ov] Ϭd
   Ϟc pos f first ĉh Ľc):=by rfl):SE X Õd (zU FF (wN c m fo zF)):=by
 let{C,f,T,L,n,J,b,F}:=h;let{P,s,I}:=B.h;show{{_,ot s n J F (Łj hk) b .nil U3 z,λ{i g G H τ σ d Q} E a q=>?_}};let{u,y,a}:=zJ a;obtain⟨⟨R,O⟩,N,a⟩:=zJ a;cases a;show x61 (t:=X5) L I (λ{i g G H τ σ u Q} v e p=>by cases e;show p _ _ _ (úa v.ext.gh) rfl) E y λY U S x r=>x6s x r N q
#print a
open ϑ
def z66{X:Cx}:vV X Ćc (λxs H Q=>∃a kvs,xs=ða/\Rd H a œ/\∀p,H p=Æ->Q ž (zd H p œ)):=by
 intro y s σ H xs z Q I r h;let{a,kvs,rfl,e,q}:=h;let{u,rfl,l}:=uD r;cases(show u=ė a from l);let{j,d,v,c,n}:=ZT ĝ e;let f:v.length=Ķ:=p8 c;refine kt_call_dict d n (by rw[f];show j) λw m x=>?_
 let g:ŗo=Â:=by let:=I.big;rw[ώl];show vG œo
 let t:∀b o,Ē b=À o->w.get? b=À o:=λb o k=>by let i:=Ĵ k;show(x.2 b (vG (ϱ i))).trans (Ĳ _ k)
 show{.ref Þ,_,Ťa (a:=Þ) (o:=.dK kvs) (t':=Ď) t Đ (BD j g c m),rfl,q _ ϱc}
nonrec def BM:Á D->Ê D
 | [.dic ks ds]=>À ϸn|_=>Æ
def x66{X:Cx}{e:Õ}{fs:FA}{p pos:Pos}(u:Gl X ϐ)(n:õ ϐ=Æ)(hv:Ŵ ϐ=À Ćc)(s:SA X [e] fs)(w:Î ϴ q12):SF X Ϝl (eL BM fs):=by
 let{t,x,k}:=s.h;refine{{_,(U6 z66 u n hv {x} Í Í õm).h,λ{A y G H τ σ d Q} E b q=>?_}};let{B,j,b}:=zJ b;show k E j λJ z C c i=>?_
 unfold BM at b
 rw[ĝq];rename_i I F;cases b;let{v,rfl,a,r,rfl,g,o,m,l}:=qH i;show{a,_,rfl,ěc c.gh g,λp f=>?_};show q p _ _ Ým (Ëg f) (Ϝf f) {r,yo,o,m,l};cases b
#print L3
namespace L3
def w1i:vd .zD=Ä:=rfl
def w1j(b:Ð):vd Ϭa=Ä:=rfl
def w1k(i:Å):vd Ŭ=Ä:=rfl
def w1l(x:ϟf):vd Ĭb=Ä:=rfl
def w1m(ds:Á D):vd ğe=ĵb ds:=rfl
def w1n:ĵb []=Ä:=rfl
def w1o(d:D)(ds:Á D):ĵb ęg=ón:=rfl
def z5c(i:Ã)(π:Á wM)(d:D):k9 ĺd i π=.v d:=rfl
def x8y(d:D):vA ĺd=d:=rfl
def x8z(d:D):vA îj=d:=rfl
def x90(x:ϟf)(fs:Á ϟf)(ms:Á M):vA ŷh=.obj x fs Đc:=rfl
def x91(ks:Á (Sum Å ϟf))(ms:Á M):vA ϲn=.dic ks Đc:=rfl
def x92:Ìd []=[]:=rfl
def x93(m:M)(ms:Á M):Ìd (m::ms)=vA m::Ìd ms:=rfl
def z5f(x:M):pY x []=À x:=rfl
def x2k(x y:M):pF x [] y=À y:=rfl
def y3f(g:MG)(b:xB)(x:yU):tI g b [] x=À (.nx x):=rfl
def y3g(g:MG)(b:xB)(x:yU)(d:D)(r:Á D):type_of% (tI.eq_2 g b x d r):=rfl
open ģ ĺ Ĭ L2
def fldk_nil{K:Ñ}{f:Ç}:vf K [] f:=λx a=>ß a ê
def fldk_cons{K:Ñ}{f c:Ç}{C:Ì}{d:Á Ç}(ns:ϝ K Ģ c=À ěa)(e:qW K C)(h:ŕa K ŝ f=À Æ)(r:vf K d f):vf K (c::d) f:=λx b g a=>by rcases ň b with rfl|b;rw[ns]at a;cases a;show{e,h};show r x b g a
def Hg:Á D->Ê D
 | [.lst xs]=>(ĳj).bind λa=>match a.all âk&&decide (Èa<=1000)with
  |Ä=>À (.int a.sum)|Â=>Æ
 |_=>Æ
theorem z1w:∀{ns:Á Å},(∀n∈ns,0<=n/\n<1099511627776)->0<=Ŀj/\Ŀj<=1099511627776*(ŵ:Å)
 | [],_=>{Ėa _,by decide}|n::ns,h=>by
  let{a,b}:=z1w λm e=>h m (æa _ e)
  let{c,d}:=h n ĳ;rw[ůc,ą]
  rw[Ěq];omega;push_cast
  omega
def y9b{K:Ñ}:VP K (sL K) Hg:=λG H h y d Q s r b q=>by
 rcases h with _|⟨x_,r_⟩;cases b
 cases x_<;>first|(cases b;done)|skip
 cases r_<;>first|(cases b;done)|skip
 rename_i p;let{ns,m,b}:=zJ (show(Yh p).bind _=À d from b);cases c:(ns.all âk&&decide (ŵ<=1000))with
 |Â=>rw[c]at b;cases b|Ä=>
  rw[c]at b;cases b;rw[ě]at c;let w:=ő c.2
  let g:∀n∈ns,0<=n/\n<1099511627776:=λn e=>by let:=øa c.1 n e;rw[ě]at this;show{ő this.1,ő this.2}
  let{v,rfl,a,x,rfl,f,o,l}:=qH r;rw[NI m o]at f;show{a,ns,rfl,.inl f,{λn e=>?_,λk u=>?_},q _ _ _ Õa rfl};let:=g n e
  constructor<;>omega;let:=z1w (ns:=ns.take k) λn e=>g n (ōc e)
  let j:(şf).length<=1000:=by rw[Ïa];omega
  let t:((şf).length:Å)<=1000:=by exact_mod_cast j
  constructor<;>omega
open ϑ
section
variable{P:ï}{w:è}{K:Ñ}{mg:Ç->Ê Value}{Ë:Heap}
def y35{x:Ç}{st:Ú}{N:Á Ç}{k:Ã}{F:FM}{b:xB}{f:Ì}{i:Ō}(d:Fun K õb õb st f i)(S:zk N [x] Ŕ)(o:1<=Ş)(y:∀ms r,F ms=À r->āa=1/\vH 1 Ş b ms=À r)(g:∀ns:Á Å,ŵ<=63->(∀m∈ns,vi m<=1048576)->∃r,F ķh=À (r,.fz Č))(p:∀(e:Value)(A:ā)(ĉ:Á Env)(s:Ï)(H:Hp)(E:XK),xL k (ĝb (ãb õb Ŕ Þ f e))->jy (qC xY P w K mg Ë N õb Ŕ f e A ĉ s H E).qU 1 Ôa b):xi P w K mg Ë xY ϕ f i [x] Ŵj:=
 (d.v.JU (F:=F) S o y p).imp λC H Q E h=>by let{a,ns,rfl,j,l,c,q}:=h;let{r,u}:=g ns l c;let n:å K H ĵi ða:={_,_,rfl,{a,_,rfl,j,Ďe,by rw[ç];show ϒa É},rfl};show x6r {H,_,Â,.bl Ä,Ϩa H,n,?_,λv B t _ z=>?_};exact(F (jT ĵi)).bind _=_;rw[show jT ĵi=ķh from rfl,u];rfl;cases(show v=.bl Ä from z);show q t
#print a
#print L3
namespace L3
open ģ ĺ Ĭ L2
def zP(K:Ñ)(x:Ç)(st:Ú):È:=
 ∃(f:Ì) (od an:Ê Ì) (sl:Ü Öb) (oc kV dc pm cd ct:Value),ϝ K Ģ x=À áb/\Ϩ f=BN x st oc od sl kV dc pm an cd ct/\ůb K cd x=Ä/\ïa K Ń=Ä
section
variable{K:Ñ}{mg:Ç->Ê Value}{h:Heap}{x p0 p1 p2 p3:Ç}{st:Ú}{ps:Á Ç}
def fnp_mk{f:Ì}{h i:Ê Ì}{d:Ü Öb}{j kV e g b ct:Value}(a:ϝ K Ģ x=À áb)(l:Ϩ f=BN x st j h d kV e g i b ct)(c:ůb K b x=Ä)(k:ïa K Ń=Ä):zP K x st:={_,_,_,_,_,_,_,_,_,_,a,l,c,k}
def zP.d(a:zP K x st)(X:ţ h)(G:Ģa Ģ mg)(b:∀(kV e j:Value)(i:Ê Ì)(g ct:Value)(us:Á Value),Ÿ=ę->Ìg (Àd x x Ŝd Ôa Ŕ .none kV e j i g ct) {us,[]}=pure Ąc):Def K mg x st ps:=by let{f,q,i,o,m,kV,p,j,n,ct,a,l,c,k}:=a;let F:=lh (st:=st) l c k;show{_,_,F,ĝc X G a,F.binds b}
abbrev BA(x:Ç)(st:Ú)(us:Á Value)(ps:Á Ç):È:=∀(kV doc pm:Value)(an:Ê Ì)(cdv ct:Value),Ìg (Àd x x Ŝd Ôa Ŕ .none kV doc pm an cdv ct) {us,[]}=pure Ąc
def zP.d0(a:zP K x st)(X:ţ h)(G:Ģa Ģ mg)(b:Î (BA x st [] []) q17):Def K mg x st []:=a.d X G λ_ _ _ _ _ _=>z2e (b _ _ _ _ _ _)
def zP.d1(a:zP K x st)(X:ţ h)(G:Ģa Ģ mg)(b:Î (∀u,BA x st [u] [p0]) q17):Def K mg x st [p0]:=a.d X G λ_ _ _ _ _ _=>us1 λu=>b u _ _ _ _ _ _
def zP.d2(a:zP K x st)(X:ţ h)(G:Ģa Ģ mg)(b:Î (∀u v,BA x st [u,v] [p0,p1]) q17):Def K mg x st [p0,p1]:=a.d X G λ_ _ _ _ _ _=>us2 λu v=>b u v _ _ _ _ _ _
def zP.d3(a:zP K x st)(X:ţ h)(G:Ģa Ģ mg)(b:Î (∀u v y,BA x st [u,v,y] Ōo) q17):Def K mg x st Ōo:=a.d X G λ_ _ _ _ _ _=>us3 λu v y=>b u v y _ _ _ _ _ _
def zP.d4(a:zP K x st)(X:ţ h)(G:Ģa Ģ mg)(b:Î (∀u v y z,BA x st [u,v,y,z] Úe) q17):Def K mg x st Úe:=a.d X G λ_ _ _ _ _ _=>us4 λu v y z=>b u v y z _ _ _ _ _ _
def _root_.L2.Def.oS(d:Def K mg x st ps)(P:ï)(w:è)(a:Heap)(k:Ã)(F:Á D->Ê ã)(S:zk N ps Ŕ)(i:∀ds r,F ds=À r->ø=ę/\yC Ş b ds=À r)(g:∀{f:Ì}{c:Value}{A:ā}{ĉ:Á Env}{s:Ï}{H:Hp}{E:XK},xL k Áh->qY (úk).qU Ôa b)(e:Î ŷf q10):vg P w K mg a x ps ϕ Ĺe:=Def.z4n d S e i λ_ _ _ _ _ _ _ h=>g h
def _root_.L2.Def.oM(d:Def K mg x st ps)(P:ï)(w:è)(a:Heap)(k:Ã)(F:FM)(S:zk N ps Ŕ)(i:∀ms r,F ms=À r->āa=ę/\vH ę Ş b ms=À r)(g:∀{f:Ì}{c:Value}{A:ā}{ĉ:Á Env}{s:Ï}{H:Hp}{E:XK},xL k Áh->jy (úk).qU ę Ôa b)(e:Î ŷf q10):vg P w K mg a x ps ϕ Øg:=Def.JU d S e i λ_ _ _ _ _ _ _ h=>g h
def vW.oM(d:vW K x q st f fd)(P:ï)(w:è)(mg:Ç->Ê Value)(a:Heap)(k:Ã)(F:FM)(S:zk N ps Ŕ)(i:∀ms r,F ms=À r->āa=ę/\vH ę Ş b ms=À r)(g:∀{c:Value}{A:ā}{ĉ:Á Env}{s:Ï}{H:Hp}{E:XK},xL k Äl->jy (ûk).qU ę Ôa b)(e:Î ŷf q10):xi P w K mg a xY ϕ f fd ps Øg:=d.JU S e i λ_ _ _ _ _ _ h=>g h
def vW.oF(d:vW K x q st f fd)(P:ï)(w:è)(mg:Ç->Ê Value)(a:Heap)(k:Ã)(F:Á D->Ê ã)(S:zk N ps Ŕ)(i:∀ds r,F ds=À r->ø=ę/\yC Ş b ds=À r)(g:∀{c:Value}{A:ā}{ĉ:Á Env}{s:Ï}{H:Hp}{E:XK},xL k Äl->qY (ûk).qU Ôa b)(e:Î ŷf q10):xi P w K mg a xY ϕ f fd ps Ĺe:=d.z4m S e i λ_ _ _ _ _ _ h=>g h
#print a
#print L3
namespace L2
open ģ ĺ ϑ Ĭ
nonrec def wq(p:Û):Å:=numOf p.1
def yt(p q:Û):È:=wq p<=wq q
def UI(p:Û):È:=∃n t,p.1=.int n t
def uK(x:Ü Û):È:=∀(i:Ã) p,x[i]?=À p->UI p
nonrec def Vh:Ð->Û->Ü Û->Ã->Ã->Ã->Ř ă Sem ϓc:=sortPriv% PySem.Builtin.gallop
nonrec def nZ:Ü Û->Ü Û->Ř ă Sem Ēc:=sortPriv% PySem.Builtin.mergeLo
nonrec def nY:Ü Û->Ü Û->Ř ă Sem Ēc:=sortPriv% PySem.Builtin.mergeHi
section
variable{Ī:ï}{w:è}{A:ā}{E:Value->Ï->È}{s:Ï}
def uN{x:Ü Û}{i:Ã}{p:Û}{st:ă}{Q}(h:x[i]?=À p)(q:Q p st):wpS ð A E s (ċa x i) Q st:=by rw[elem'_eq,h];show þ q
def w_lt{p q:Û}{st:ă}{Q:Ê Ð->ă->È}(hk:Ĩg st=ħe)(d:UI p)(c:UI q)(h:Q (À (decide (wq p<wq q))) st):wpS ð A E s (lt' p q) Q st:=by obtain⟨⟨a,t,e⟩,⟨b,u,f⟩⟩:=é d c;rw[lt'_eq];show í Ķe;unfold wq at h;rw[hk,keyLt'_oneType,e,f];rw[e,f]at h;show í (Ĳl (üh (oneLt_int {rfl,þ h})))
def AW(B:Ã->Ð)(n hi:Ã):È:=hi<=n/\(∀i,i<hi->B i=Ä)/\∀i,hi<=i->i<n->B i=Â
nonrec def gQ(left:Ð)(k:Å)(f:Ã->Å)(i:Ã):Ð:=if left then decide (f i<k)else !decide (k<f i)
def w54{left:Ð}{a x:Û}{st:ă}{Q:Ê Ð->ă->È}(hk:Ĩg st=ħe)(c:UI a)(b:UI x)(h:Q (À (gQ left (wq a) (λ_=>wq x) 0)) st) :wpS ð A E s (if left=Ä then lt' x a else do let y <-lt' a x;pure ïl) Q st:=by
 cases left with
 |Ä=>show w_lt hk b c h|Â=>show í (w_lt hk c b (þ h))
def FB{β:Type}{n:Ã}{c:β}{f:Ã->β->Ř ă Sem (Ñb β)}{st:ă}{Q R:β->ă->È}(I:Ã->β->È)(h:I 0 c)(d:∀i c,i<n->I i c->wpS ð A E s (f i c) (λr st'=>match r with|.done c'=>Q c' st'|.yield c'=>st'=st/\I ñ c') st)(e:∀c,I n c->Q c st)(a:∀c st',Q c st'->R c st'):wpS ð A E s ßn R st:=by show ϊd (âc (I:=λi c st'=>st'=st/\I i c) (Q:=Q) ?_ ?_ {rfl,h}) a;rintro i c _ _ b ⟨rfl,h⟩;show d i c b h;rintro c _ ⟨rfl,h⟩;rw[Ìi]at h;show e c h
def z2n{B:Ã->Ð}{n lo hi:Ã}{st:ă}{f:Ã->Ê ϓc×Ã×Ã->Ř ă Sem (Ñb (Ê ϓc×Ã×Ã))}{R:Ê ϓc×Ã×Ã->ă->È}(a:∀i j,i<=j->j<n->B j=Ä->B i=Ä)(F:lo<=hi)(u:hi<=n)(y:∀i,i<lo->B i=Ä)(z:∀i,hi<=i->i<n->B i=Â)(C:∀x l r Q,r<=l->Q (.done (Æ,l,r)) st->wpS ð A E s Ϧm Q st)(I:∀x l r Q,l<r->r<=n->(B Šf=Ä->Q (.yield (Æ,l+(r-l)/2+1,r)) st)->(B Šf=Â->Q (.yield (Æ,l,l+(r-l)/2)) st)->wpS ð A E s Ϧm Q st)(q:∀m,AW B n m->R (Æ,m,m) st):wpS ð A E s (Ķb [:n] (Æ,lo,hi) f) R st:=by show FB (Q:=λc p=>p=st/\∃m,c=(Æ,m,m)/\AW B n m) (λx c=>∃l r,c=(Æ,l,r)/\l<=r/\r<=n/\r+x<=n+l/\(∀i,i<l->B i=Ä)/\∀i,r<=i->i<n->B i=Â) {lo,hi,rfl,F,u,Ěf u Ċg,y,z} ?_ ?_ ?_;rintro x _ J ⟨l,r,rfl,t,b,G,h,d⟩;by_cases c:r<=l;cases Ţc t c;show C _ _ _ _ c {rfl,l,rfl,b,h,d};let v:=ϰ l ((r-l)/2);let k:=ĳl (Nat.div_lt_self (đh Üf) (äc 1));show I _ _ _ _ Üf b ?_ ?_<;>(generalize l+(r-l)/2=m at v k ⊢;intro e);show{rfl,_,r,rfl,k,b,by omega,λi o=>a i m (ûd o) (ύ k b) e,d};refine{rfl,l,_,rfl,v,by omega,by omega,h,λi o H=>?_};cases e2:B i;rfl;rw[a _ i o H e2]at e;cases e;rintro _ ⟨l,r,rfl,t,b,G,h,d⟩;cases Ţc t É;show{rfl,l,rfl,b,h,d};rintro _ _ ⟨rfl,m,rfl,g⟩;show q m g
def w57{left:Ð}{k:Û}{x:Ü Û}{b n d:Ã}{st:ă}{Q:Ê Ã->ă->È}(hk:Ĩg st=ħe)(P:UI k)(J:uK x)(X:b+n<=ôa)(H:d<n)(S:∀i j,i<=j->j<n->K x (b+i)<=K x (b+j))(h:∀hi,AW šk n hi->Q (À hi) st) :wpS ð A E s (Vh left k x b n d) Q st:=by
 have G:∀i Q,i<n->Q (À (gQ left ũe ćf i)) st->wpS ð A E s (ċa x (b+i) >>= λx=>if left=Ä then lt' x k else do let y <-lt' k x;pure ïl) Q st:=by
  intro i Q hi q;rw[çq];show í (uN e (w54 hk P (J _ _ e) ?_));let e2:K x (b+i)=wq x[b+i]:=by unfold K;rw[e];rfl
  let N:gQ left ũe (λ_=>wq x[b+i]) 0=gQ left ũe ćf i:=by unfold gQ;simp only[e2]
  rw[N];show q
 let f:∀i j,i<=j->j<n->gQ left ũe ćf j=Ä->gQ left ũe ćf i=Ä:=by intro i j U R;let:=S i j U R;unfold gQ;cases left;simp only[ŉb,áa,Bool.not_eq_true',decide_eq_false_iff_not];omega;simp only[Ů,Čm];omega
 generalize šk=B at h G f;unfold Vh;show í (G d _ H ?_);cases e:B d;show í (FB (Q:=λc F=>F=st/\∃l o,c=(Æ,l,o)/\l<=d/\B (d-l)=Â/\l<o/\∀i,i+o<=d->B i=Ä) (λx c=>∃l o,c=(Æ,l,o)/\l<=d/\B (d-l)=Â/\l<o/\x<o) {0,1,rfl,ýa _,e,Çe,Çe} ?_ ?_ ?_);rw[áq]
 split;show þ {rfl,l,o,rfl,t,p,u,λi _=>by omega};let lo:=Čb (Nat.sub_le d o) H;show í ŗn;cases e2:B (d-o);show þ {rfl,o,_,rfl,by omega,e2,by omega,by omega};show þ {rfl,l,o,rfl,t,p,u,λi C=>f i _ (Nat.le_sub_of_add_le C) lo e2};rintro _ ⟨l,o,rfl,t,p,u,v⟩;show{rfl,l,o,rfl,t,p,u,λi _=>by omega};rw[ĕq];refine í (z2n (B:=B) (lo:=d+1-min o (d+1)) (hi:=d-l) f (đ (Ϗl (Ťh {u,ìc t}) _) (Îb (Nat.add_sub_add_right ..))) (Üa (Čb đb H)) (λi a=>v i (by let:=Nat.add_lt_of_lt_sub a;omega)) (λi C L=>?_) ϣl ÿl λm g=>þ (h m g));cases e2:B i;rfl;rw[f _ i C L e2]at p;cases p;rw[Ďq];show í (FB (Q:=λc F=>F=st/\∃l o,c=(Æ,l,o)/\d+l<n/\B (d+l)=Ä/\l<o/\∀i,d+o<=i->i<n->B i=Â) (λx c=>∃l o,c=(Æ,l,o)/\d+l<n/\B (d+l)=Ä/\l<o/\x<o) {0,1,rfl,H,e,Çe,Çe} ?_ ?_ ?_);rw[áq]
 split;rename_i c
 replace c:=Nat.le_add_of_sub_le c
 show þ {rfl,l,o,rfl,t,p,u,λi _ _=>by omega};rename_i c;let lo:=ĳl Üf;show í ŗn;cases e2:B (d+o);show þ {rfl,l,o,rfl,t,p,u,λi C L=>by cases N:B i;rfl;rw[f _ i C L N]at e2;cases e2};show þ {rfl,o,_,rfl,lo,e2,by omega,by omega};rintro _ ⟨l,o,rfl,t,p,u,v⟩;show{rfl,l,o,rfl,t,p,u,λi _ _=>by omega};rw[ĕq];show í (z2n (B:=B) (lo:=d+l+1) (hi:=d+min o (n-d)) f (Nat.add_lt_add_left (Nat.lt_min.mpr {u,Nat.lt_sub_of_add_lt (ēd .. ▸ t)}) _) (đ (ŏc (ϗe ..) _) (Îb (Ňc (Üa H)))) (λi C=>f i (d+l) (ûd C) t p) (λi a b=>?_) ϣl ÿl λm g=>þ (h m g));rcases Ēd o (n-d)with z|z;rw[Ņa z]at a;show v i a b;rw[ÿd z,Ňc (Üa H)]at a;show ß b (Îe a);rw[Ďq]
#print a
structure uy(R:Û->Û->È)(t o x y:Á Û):È where
 p:(o++Ũe).Perm t
 sx:(o++x).Pairwise R
 sy:(o++y).Pairwise R
section
variable{R:Û->Û->È}{t o m x y:Á Û}
def òg(h:uy R t o x y):uy R t o y x:={(èh o List.perm_append_comm).trans h.p,h.sy,h.sx}
def óg(h:uy R t o (m++x) y)(c:∀p∈m,∀q∈y,R p q):uy R t (o++m) x y:=by let{p,a,b}:=h;show{?_,?_,?_};rw[Ł]at p ⊢;show p;rw[Ł];show a;rw[List.pairwise_append]at a b ⊢;show{?_,b.2.1,λp e q d=>?_};show Ϻe {a.1,(ώb a.2.1).1,λp e q d=>a.2.2 p e q (ņb _ d)};rcases ϗ e with z|z;show b.2.2 p z q d;show c p z q d
def ĺj(h:uy R t o x y)(c:∀p∈x,∀q∈y,R p q):(ĥp).Perm t/\(ĥp).Pairwise R:=by let:=(óg (m:=x) (x:=[]) (by rw[ū];show h) c);show{by rw[Ł];show h.p,this.sy}
#print a
def ϵa{p q r:Û}(a:yt p q)(b:yt q r):yt p r:=ĕd a b
section
variable{Ī:ï}{w:è}{A:ā}{E:Value->Ï->È}{s:Ï}
def Qu{left:Ð}{a:Û}{x:Ü Û}{b n d:Ã}{st:ă}{Q:Ê Ã->ă->È}(hk:Ĩg st=ħe)(f:UI a)(o:uK x)(q:b+n<=ôa)(r:d<n){z:Á Û}(m:(Ęn b).take n=z)(t:z.Pairwise yt)(h:∀k,k<=n->(∀p∈z.take k,if left then wq p<wq a else yt p a)->(∀p∈z.drop k,if left then yt a p else wq a<wq p)->Q (À k) st) :wpS ð A E s (Vh left a x b n d) Q st:=by
 have y:ü=n:=by rw[<-m,Ïa,Đa,Ū];omega
 let g:∀i (l:i<ü),K x (b+i)=wq z[i]:=by intro i l;subst m;rw[çq];unfold K;rw[e,đm,Ēm,òd];rfl
 show w57 hk f o q r (λi j v u=>?_) λk c=>h k c.1 (λp f=>?_) λp f=>?_;rw[g i É,g j É];by_cases e:i=j;subst e;rw[ċq];show ύk t i j _ _ É;let{i,l,rfl}:=List.mem_take_iff_getElem.mp f;let:=c.2.1 i É;simp only[gQ,g i (show i<ü by omega)]at this;cases left;show Śc ŋl;rw[źp];let{i,l,rfl}:=List.mem_drop_iff_getElem.mp f;let:=c.2.2 (k+i) É É;simp only[gQ,g (k+i) É]at this;simp only[ēd k i]at this ⊢;cases left;rw[źp];show Śc ŋl
def je{β:Type}(Q I:β->È):Ñb β->È
 |.done c=>Q c|.yield c=>I c
abbrev yZ(a:Ü Û)(p:Ü ůa)(f:Ê Value)(g:Ã):ă:=Čc ħe a p g f
def Qt{β:Type}{n:Ã}{c:β}{f:Ã->β->Ř ă Sem (Ñb β)}{a p fl g}{R:β->ă->È}(I:Ã->β->È)(Q:β->È)(h:I 0 c)(d:∀i c g,i<n->I i c->wpS ð A E s (f i c) (λr st'=>∃g',st'=yZ a p fl g'/\je Q (I ñ) r) Ϧh)(j:∀c,I n c->Q c)(b:∀c g,Q c->R c Ϧh):wpS ð A E s ßn R Ϧh:=by show ϊd (âc (I:=λi c st'=>∃g,st'=yZ a p fl g/\I i c) (Q:=λc st'=>∃g,st'=yZ a p fl g/\Q c) ?_ ?_ {g,rfl,h}) ?_;rintro i c _ _ e ⟨g,rfl,h⟩;show ϊd (d i c g e h) ?_;rintro r _ ⟨g,rfl,h⟩;cases r<;>show{g,rfl,h};rintro c _ ⟨g,rfl,h⟩;rw[Ìi]at h;show{g,rfl,j c h};rintro c _ ⟨g,rfl,h⟩;show b c g h
#print a
def wP(t:Á Û)(a b o:Ü Û)(i j:Ã):È:=uy yt t Âj ċg (öc j)
def ub(t:Á Û)(r:Ü Û):È:=r.toList.Perm t/\r.toList.Pairwise yt
section
variable{t:Á Û}{a b o:Ü Û}{i j k:Ã}{p:Û}
def HL(h:a[i]?=À p):ϛa i=p::ϛa ñ:=by let{b,rfl}:=Þd h;rw[łb ϵl,òd]
theorem wP.swap(h:wP t a b o i j):wP t b a o j i:=òg h
def wP.pa(h:wP t a b o i j)(e:a[i]?=À p)(c:∀q∈öc j,yt p q):wP t a b Ĺd ñ j:=by unfold wP at h ⊢;rw[HL e]at h;rw[Ėh];show óg (m:=[p]) h λq d=>ϖ d▸c
def wP.pb(h:wP t a b o i j)(e:b[j]?=À p)(c:∀q∈ϛa i,yt p q):wP t a b Ĺd i ϻ:=(ϥm).swap
def wP.ca(h:wP t a b o i j)(c:∀p∈(ċg).take k,∀q∈öc j,yt p q):wP t a b ĉf Îd j:=by unfold wP at h ⊢;rw[<-Ħa k ċg,ŧh]at h;rw[èc,Ϡd,ϓd,Äf];show h.move c
def wP.cb(h:wP t a b o i j)(c:∀p∈(öc j).take k,∀q∈ϛa i,yt p q):wP t a b (o++Õb j (j+k)) i (j+k):=(Æp c).swap
theorem wP.fin(h:wP t a b o i j)(c:∀p∈ϛa i,∀q∈öc j,yt p q):ub t (o++Řb i ù++Õb j ϒ):=by
 let e:∀(x:Ü Û) k,(če k ôa).toList=Ęn k:=λx k=>by rw[Ϡd,ϓd];show ćb (by rw[Đa,Ū];show Ϙ _)
 unfold ub;rw[èc,èc,e,e];show ĺj h c
def wP.hd(h:wP t a b o i j)(e:a[i]?=À p):∀q∈ϛa i,yt p q:=by unfold wP at h;let:=(ώb h.sx).2.1;rw[HL e]at this ⊢;intro q c;rcases ň c with rfl|c;rw[ċq];show(ϝd this).1 q c
def wP.sa(h:wP t a b o i j):(ċg).Pairwise yt:=Ļk.2.1
def o9(h:i=ù){P:Û->È}:∀p∈ϛa i,P p:=by rw[ņc ϱd];intro p b;cases b
def hU(h:ϒ-i=k):(öc i).take k=öc i:=ćb (by rw[Đa,Ū];omega)
#print a
abbrev z1a:=Ê Ēc×Ü Û×Ã×Ã×Ã
abbrev Dn:=Ê Ēc×Ü Û×Ã×Ã×Ã×Ã
abbrev WV:=Ê Ēc×Ü Û×Ã×Ã×Ã×Ã×Ã
structure UJ(t:Á Û)(a b:Ü Û)(x:Ã)(o:Ü Û)(i j:Ã):È where
 l:wP t a b o i j
 p:i+1<ù
 q:j<ϒ
 s:x<i+j
section
variable(t:Á Û)(a b:Ü Û)(x:Ã)
inductive Ds:z1a->È
 |mk {o i j m}:UJ t a b x o i j->Ds (Æ,o,i,j,m)
inductive LH:Dn->È
 |mk {o i j m n}:UJ t a b x o i j->LH (Æ,o,i,j,m,n)
inductive WX:Dn->È
 |fin {r c}:ub t r->WX (À r,c)
 |go {o i j m n}:UJ t a b x o i j->WX (Æ,o,i,j,m,n)
inductive Qi:WV->È
 |mk {o i j m n q}:UJ t a b x o i j->Qi (Æ,o,i,j,m,n,q)
inductive gR:WV->È
 |fin {r c}:ub t r->gR (À r,c)
 |go {o i j m n q}:UJ t a b x o i j->gR (Æ,o,i,j,m,n,q)
#print a
def Yp{a b:Ã}(h:a<=b)(c:¬(a==b)=Ä):a<b:=Ôm h λe=>c (ŧc e)
def WH{a:Ã}(c:¬(a==0)=Ä):∃n,a=n+1:=Nat.exists_eq_succ_of_ne_zero λe=>c (ŧc e)
nonrec def Dq(r:Ê Ã)(f:Ã->Ř ă Sem β)(g:Ř ă Sem β):Ř ă Sem β:=(sortPriv% PySem.Builtin.mergeLo.match_1) Ðf r f λ_=>g
section
variable(a b:Ü Û)
nonrec def X2(o:Ü Û)(i j:Ã):Ü Û:=o++Řb i ù++Õb j ϒ
nonrec def Dm(o:Ü Û)(i j:Ã):Ü Û:=o++Õb j ϒ++Řb i ù
def Af(o:Ü Û)(i j g k m:Ã):Ř ă Sem Óg:=do
 let p <-ċa a i
 if ϡn=Ä then pure (.done (À Ăm,ϊ p,i+1,j,g,k,m))
 else if(decide (k<7)&&decide (m<7))=Ä then pure (.done (Æ,ϊ p,i+1,j,g,k,m))else pure (.yield (Æ,ϊ p,i+1,j,g,k,m))
def Ae(o:Ü Û)(i j g k u:Ã):Ř ă Sem Óg:=do
 let q <-ċa b j
 if ŵo=Ä then pure Ϻj
 else do
  let p <-ċa a i
  let r <-Vh Ä p b ϻ (ϒ-ϻ) 0
  Dq r (λm=>
   if m>0 then
    if(j+1+m==ϒ)=Ä then pure (.done (À (X2 a b Ül i ĩj),ϊ q++Õb ϻ ĩj,i,j+1+m,g,k,m))
    else Af a b Ül i ĩj g k m
   else Af a b ĉg i ϻ g k m) (pure Ϻj)
def Ad(o:Ü Û)(i j n u g:Ã):Ř ă Sem Óg:=do
 Ϻc λs=>Čc όc ϕc ğc g Ÿc
 let q <-ċa b j
 let r <-Vh Â q a i (ù-i) 0
 Dq r (λk=>
  if k>0 then
   if(i+k+1==ù)=Ä then pure (ψd (Dm a b ĉf Îd j) Îd)
   else if(i+k==ù)=Ä then pure (ψd (X2 a b ĉf Îd j) Îd)
   else Ae a b ĉf Îd j g k u
  else Ae a b o i j g k u) (pure (.done (À ģf,o,i,j,g,n,u)))
nonrec def LG(r:Ê α)(f:α->Ř ă Sem β)(g:Ř ă Sem β):Ř ă Sem β:=Break.runK.match_1 Ðf r f λ_=>g
nonrec def z1d(r:Ê Ð)(f:Ð->Ř ă Sem β)(g:Ř ă Sem β):Ř ă Sem β:=(sortPriv% PySem.Builtin.countRun.match_1) Ðf r f λ_=>g
def z1g(o:Ü Û)(i j g m n:Ã):Ř ă Sem (Ñb Dn):=do
 let q <-ċa b j
 let p <-ċa a i
 let r <-lt' q p
 z1d r (λt=>
  if t=Ä then do
   let q <-ċa b j
   if ŵo=Ä then pure (.done (À (X2 a b ĉg i ϻ),ϊ q,i,j+1,0,n+1))
   else if n+1≥g then pure (.done (Æ,ϊ q,i,j+1,0,n+1))else pure (.yield (Æ,ϊ q,i,j+1,0,n+1))
  else do
   let p <-ċa a i
   if ϡn=Ä then pure (.done (À Ăm,ϊ p,i+1,j,m+1,0))
   else if m+1≥g then pure (.done (Æ,ϊ p,i+1,j,m+1,0))else pure (.yield (Æ,ϊ p,i+1,j,m+1,0))) (pure (.done (À ģf,o,i,j,m,n)))
def x73(x:WV):Ř ă Sem Óg:=if x.2.2.2.2.1>1 then Ad a b x.2.1 x.2.2.1 x.2.2.2.1 x.2.2.2.2.2.1 x.2.2.2.2.2.2 (x.2.2.2.2.1-1)else Ad a b x.2.1 x.2.2.1 x.2.2.2.1 x.2.2.2.2.2.1 x.2.2.2.2.2.2 x.2.2.2.2.1
def x74(o:Ü Û)(i j g:Ã):Ř ă Sem (Ñb z1a):=do
 let d <-Ķb [:ù+ϒ] ((Æ,o,i,j,0,0):Dn) λ_ d=>z1g a b d.2.1 d.2.2.1 d.2.2.2.1 g d.2.2.2.2.1 d.2.2.2.2.2
 LG d.1 Äk do
  liftM Êl
  let e <-Ķb [:ù+ϒ] ((Æ,d.2.1,d.2.2.1,d.2.2.2.1,g+1,d.2.2.2.2.1,d.2.2.2.2.2):WV) λ_ e=>x73 a b e
  LG e.1 ϫj do
   Ϻc λs=>Čc όc ϕc ğc ϳm Ÿc
   pure Ík
#print a
def Xp(x:Ü Û)(i:Ã)(h:i<ôa):∃p,x[i]?=À p:={_,getElem?_pos x i h}
section
variable{t:Á Û}{a b:Ü Û}(hl:∀q∈ϟc,∀p∈ϛa Ďg,yt q p)
include hl in
theorem wP.lst{o i j}(l:wP t a b o i j)(e:i+1=ù):ub t (Dm a b o i j):=ľo λq c p d=>hl q (List.drop_subset _ _ c) p (by rw[show ù-1=i by omega];show d)
def wP.da{o i j}(l:wP t a b o i j)(e:i=ù):ub t ģf:=ňg (o9 e)
def wP.db{o i j}(l:wP t a b o i j)(e:j=ϒ):ub t ģf:=ňg λp c=>o9 e
#print a
section
variable{Ī:ï}{w:è}{A:ā}{E:Value->Ï->È}{s:Ï}
def xy{α:Type}{c:È}[ųi c]{m n:Ř ă Sem α}{Q:α->ă->È}{st:ă}(b:c->wpS ð A E s m Q st)(a:¬c->wpS ð A E s n Q st):wpS ð A E s (if c then m else n) Q st:=by by_cases h:c;rw[Ó h];show b h;rw[Ô h];show a h
section
variable{t:Á Û}{a b:Ü Û}(ha:uK a)(hb:uK b)(hl:∀q∈ϟc,∀p∈ϛa Ďg,yt q p){a0:Ü Û}{p0:Ü ůa}{f0:Ê Value}{x y g m k u:Ã}{o:Ü Û}{i j:Ã}{p q:Û}
include hl in
theorem z2t(l:wP t a b o i j)(ep:a[i]?=À p)(c:∀r∈öc j,yt p r)(e:i+1<ù)(d:j<ϒ)(h:x<=i+j)(f:y<=x):wpS ð A E s (Af a b o i j g k m) (θ (gR t a b y) (Qi t a b x)) òc:=by
 replace l:=l.pa ep c
 show í (uN ep (Κa (Ξc ûn)))
 replace c:=Yp e c
 show xy (λ_=>þ {g,rfl,gR.go {l,c,d,by omega}}) λ_=>þ {g,rfl,Qi.mk {l,c,d,by omega}}
include ha hb hl in
theorem z2s(l:wP t a b o i j)(f:b[j]?=À q)(c:∀r∈ϛa i,yt q r)(n:i+1<ù)(z:x<i+j+1)(e:y<=x):wpS ð A E s (Ae a b o i j g k u) ļk òc:=by
 let F:=(Þd f).1
 replace l:=l.pb f c
 show í (uN f (Κa (Ξc (l.db Ϝa))))
 replace c:=Yp F c
 replace e:=òf e
 let{p,d}:=Xp a i (ŗc n);show í (χc (Qu rfl (ha _ _ d) hb Ϙm (đh c) (hU rfl) Áp λm h e1 e2=>?_));rw[ŧh]at e2
 replace h:j+1+m<=ϒ:=ēd .. ▸ ŝl ϩc h
 show xy ϳf λG=>?_;let v:=l.cb λp C r B=>ϵa (ìa (e1 p C)) (l.hd d r B)
 refine xy (Ξc (v.db Ϝa)) λc=>z2t hl v d e2 n (Yp h c) É e;cases ϛg G;show z2t hl l d e2 n c z e
include ha hb hl in
theorem z2r(l:wP t a b o i j)(z:i+1<ù)(H:j<ϒ)(F:x<i+j)(B:y<=x){n C:Ã}:wpS ð A E s (Ad a b o i j n u g) ļk (yZ a0 p0 f0 C):=by
 let{q,d}:=Xp b j H;let f:=ŗc z;show í (Εa (í (χc (Qu rfl ŷo ha (Îb (Ňc (Üa f))) (đh f) (hU rfl) l.sa λk v K e=>?_))));rw[ŧh]at e
 replace e:=λp m=>ìa (e p m)
 replace v:i+k<=ù:=ēd .. ▸ ŝl (Üa f) v
 show xy ϳf λc=>?_;let h:=l.ca λp m r J=>ϵa (K p m) (ϙf d r J)
 refine xy (Οe (h.lst hl Ϝa)) λG=>xy (Οe (h.da Ϝa)) λI=>z2s ha hb hl h d e (Yp (Yp v I) G) É B;cases ϛg c;show z2s ha hb hl l d e z (úd F) B
include ha hb hl in
theorem w5a(l:UJ t a b x o i j)(B:y<=x+1){n:Ã}:wpS ð A E s (z1g a b o i j g m n) (θ (WX t a b y) (LH t a b ûb)) ēf:=by
 let{l,k,h,z}:=l;let{p,f}:=Xp a i (ŗc k);let{q,e}:=Xp b j h;show í (uN e (í (uN f (í (Εd (hb _ _ e) (ha _ _ f))))));by_cases c:wq q<wq p;rw[ò c];let d:=l.pb e λr v=>ϵa (ìa c) (l.hd f r v)
 show í (uN e (ξd (d.db Ϝa)))
 replace c:=Yp h c
 show xy (λ_=>þ {_,rfl,WX.go {d,k,c,by omega}}) λ_=>þ {_,rfl,LH.mk {d,k,c,ŏm z}};rw[Ę c];let d:=l.pa f λr v=>ϵa ėj (ϙf e r v)
 show í (uN f (ξd (d.lst hl Ϝa)))
 replace c:=Yp k c
 show xy (λ_=>þ {_,rfl,WX.go {d,c,h,by omega}}) λ_=>þ {_,rfl,LH.mk {d,c,h,by omega}}
include ha hb hl in
theorem w5b(l:UJ t a b x o i j):wpS ð A E s (x74 a b o i j g) (θ Ϫe (Ds t a b ûb)) ēf:=by show í (δb (λz=>LH t a b (x+z)) (WX t a b ûb));rintro z _ g m ⟨l⟩;show w5a ha hb hl l ϗm;rintro _ ⟨_,h,e,d⟩;rw[šp];show í (γa (δb (λz=>Qi t a b (x+1+z)) (gR t a b ûb)));rintro z _ g m ⟨l,h,e,d⟩;let k:=ϰ ûb z;show xy (λ_=>z2r ha hb hl l h e d k) λ_=>z2r ha hb hl l h e d k;rintro _ ⟨_,h,e,d⟩;rw[šp];show í (Εa (þ {_,rfl,Ds.mk l}))
#print a
def w5e{a b:Ü Û}{a0 p0 f0 g}{t:Á Û}{Q:Ü Û->ă->È}(n:uK a)(o:uK b)(u:0<ù){y:Û}(j:b[0]?=À y)(d:wP t a b #[y] 0 1)(i:∀q∈ϟc,∀p∈ϛa Ďg,yt q p)(h:∀r g,ub t r->Q r òc):wpS ð A E s (nZ a b) Q òc:=by let v:0<ϒ:=(Þd j).1;unfold nZ;show í (γa (uN j (xy (Ρc (d.db (ÿc c))) λk=>xy þl λm=>?_)));show í (Βd (Qt (λx=>Ds t a b x) Ϫe {d,Yp u m,Yp v k,Nat.one_pos} ?_ ?_ ?_));rintro x _ g F ⟨l⟩;show w5b n o i l;rintro _ ⟨_,C,B,z⟩;rw[Ϸp]
#print a
def wT(t:Á Û)(a b o:Ü Û)(i j:Ã):È:=uy (λp q=>yt q p) t Âj (Ŏe).reverse (Ěj).reverse
section
variable{t:Á Û}{a b o:Ü Û}{i j k:Ã}{p:Û}
def Am(h:a[i]?=À p):čb ñ=čb i++[p]:=by let{b,rfl}:=Þd h;rw[Ûd ϵl,òd]
theorem wT.swap(h:wT t a b o i j):wT t b a o j i:=òg h
def wT.pa(h:wT t a b o ñ j)(e:a[i]?=À p)(c:∀q∈ϛb j,yt q p):wT t a b Ĺd i j:=by unfold wT at h ⊢;rw[Am e,ýh]at h;rw[Ėh];show óg (m:=[p]) h λq d r f=>ϖ d▸c r (Ϧd f)
def wT.pb(h:wT t a b o i ϻ)(e:b[j]?=À p)(c:∀q∈čb i,yt q p):wT t a b Ĺd i j:=(ϥm).swap
def wT.ca(h:wT t a b o i j)(hk:k<=i)(c:∀p∈(Ŏe).drop k,∀q∈ϛb j,yt q p):wT t a b àh k j:=by unfold wT at h ⊢;rw[<-Ħa k Ŏe,ýh,Ŧh,Ņa hk]at h;rw[èc,Šl,Ϡd,ϓd,<-List.drop_take];show h.move λp e r d=>c p (Ϧd e) r (Ϧd d)
def wT.cb(h:wT t a b o i j)(hk:k<=j)(c:∀p∈(Ěj).drop k,∀q∈čb i,yt q p):wT t a b (o++(Õb k j).reverse) i k:=(Æp hk c).swap
theorem wT.fin(h:wT t a b o i j)(c:∀p∈čb i,∀q∈ϛb j,yt p q):ub t (Řb 0 i++Õb 0 j++ŝi):=by
 let e:∀(x:Ü Û) k,(če 0 k).toList=x.toList.take k:=λx k=>by rw[Ϡd,ϓd];rfl
 let:=ĺj (òg h) λq d p g=>c p (Ϧd g) q (Ϧd d)
 unfold ub;rw[èc,èc,e,e,Šl]
 let f:(Âj++(Ěj).reverse++(Ŏe).reverse).reverse=čb i++ϛb j++o.toList.reverse:=by simp only[ýh,List.reverse_reverse,Ł]
 rw[<-f];show{(ēh _).trans this.1,ϻg this.2}
def wT.sa(h:wT t a b o i j):(Ŏe).Pairwise yt:=List.pairwise_reverse.mp Ļk.2.1
def wT.hd(h:wT t a b o ñ j)(e:a[i]?=À p):∀q∈čb ñ,yt q p:=by let:=h.sa;rw[Am e]at this ⊢;intro q c;rcases ϗ c with c|c;show(ώb this).2.2 q c p ĳ;rw[ϖ c];rw[ċq]
def n_(h:i=0){P:Û->È}:∀p∈čb i,P p:=by subst h;intro p b;cases b
#print a
abbrev Qh:=Ê Ēc×Ã×Ã×Ü Û×Ã×Ã×Ã
abbrev z1b:=Ê Ēc×Ã×Ã×Ü Û×Ã
abbrev Do:=Ê Ēc×Ã×Ã×Ü Û×Ã×Ã
structure WY(t:Á Û)(a b:Ü Û)(x:Ã)(o:Ü Û)(i j:Ã):È where
 l:wT t a b o ñ Ÿd
 p:i<ù
 q:j+1<ϒ
 s:x+i+j+3<ù+ϒ
section
variable(t:Á Û)(a b:Ü Û)(x:Ã)
inductive Dt:z1b->È
 |mk {o i j m}:WY t a b x o i j->Dt (Æ,i+1,j+2,o,m)
inductive LI:Do->È
 |mk {o i j m n}:WY t a b x o i j->LI (Æ,i+1,j+2,o,m,n)
inductive WZ:Do->È
 |fin {r c}:ub t r->WZ (À r,c)
 |go {o i j m n}:WY t a b x o i j->WZ (Æ,i+1,j+2,o,m,n)
inductive Qj:Qh->È
 |mk {o i j m n q}:WY t a b x o i j->Qj (Æ,i+1,j+2,o,m,n,q)
inductive gT:Qh->È
 |fin {r c}:ub t r->gT (À r,c)
 |go {o i j m n q}:WY t a b x o i j->gT (Æ,i+1,j+2,o,m,n,q)
#print a
section
variable(a b:Ü Û)
nonrec def X4(o:Ü Û)(i j:Ã):Ü Û:=Řb 0 i++Õb 0 j++ŝi
nonrec def Dr(o:Ü Û)(i j:Ã):Ü Û:=Õb 0 j++Řb 0 i++ŝi
def Ac(o:Ü Û)(i j g k m:Ã):Ř ă Sem Òj:=do
 let p <-ċa a ſe
 if(i-1==0)=Ä then pure (.done (À ųl,i-1,j,ϊ p,g,k,m))
 else if(decide (k<7)&&decide (m<7))=Ä then pure (.done (Æ,i-1,j,ϊ p,g,k,m))else pure (.yield (Æ,i-1,j,ϊ p,g,k,m))
def Ab(o:Ü Û)(i j g k u:Ã):Ř ă Sem Òj:=do
 let q <-ċa b Ϻa
 if(j-1==1)=Ä then pure (οd ħl)
 else do
  let p <-ċa a ſe
  let r <-Vh Ä p b 0 Ϻa (j-1-1)
  Dq r (λm=>
   if j-1-m>0 then
    if(m==1)=Ä then pure (εd (Dr a b Ϡg i m) ùo)
    else if(m==0)=Ä then pure (εd (X4 a b Ϡg i m) ùo)
    else Ac a b Ϡg i m g k (j-1-m)
   else Ac a b ĉg i Ϻa g k (j-1-m)) (pure (οd (X4 a b ĉg i Ϻa)))
def Aa(o:Ü Û)(i j n u g:Ã):Ř ă Sem Òj:=do
 Ϻc λs=>Čc όc ϕc ğc g Ÿc
 let q <-ċa b Ϻa
 let r <-Vh Â q a 0 i ſe
 Dq r (λk=>
  if i-k>0 then
   if(k==0)=Ä then pure (.done (À (X4 a b àh k j),k,j,o++(Řb k i).reverse,g,i-k,u))
   else Ab a b àh k j g (i-k) u
  else Ab a b o i j g (i-k) u) (pure (.done (À Ģf,i,j,o,g,n,u)))
def z1f(o:Ü Û)(i j g m n:Ã):Ř ă Sem (Ñb Do):=do
 let q <-ċa b Ϻa
 let p <-ċa a ſe
 let r <-lt' q p
 z1d r (λt=>
  if t=Ä then do
   let p <-ċa a ſe
   if(i-1==0)=Ä then pure (.done (À ųl,i-1,j,ϊ p,m+1,0))
   else if m+1≥g then pure (.done (Æ,i-1,j,ϊ p,m+1,0))else pure (.yield (Æ,i-1,j,ϊ p,m+1,0))
  else do
   let q <-ċa b Ϻa
   if(j-1==1)=Ä then pure (.done (À ħl,i,j-1,ϊ q,0,n+1))
   else if n+1≥g then pure (.done (Æ,i,j-1,ϊ q,0,n+1))else pure (.yield (Æ,i,j-1,ϊ q,0,n+1))) (pure (.done (À Ģf,i,j,o,m,n)))
def x72(o:Ü Û)(i j g:Ã):Ř ă Sem (Ñb z1b):=do
 let d <-Ķb [:ù+ϒ] ((Æ,i,j,o,0,0):Do) λ_ d=>z1f a b d.2.2.2.1 d.2.1 d.2.2.1 g d.2.2.2.2.1 d.2.2.2.2.2
 LG d.1 Äk do
  liftM Êl
  let e <-Ķb [:ù+ϒ] ((Æ,d.2.1,d.2.2.1,d.2.2.2.1,g+1,d.2.2.2.2.1,d.2.2.2.2.2):Qh) λ_ e=>if e.2.2.2.2.1>1 then Aa a b e.2.2.2.1 e.2.1 e.2.2.1 e.2.2.2.2.2.1 e.2.2.2.2.2.2 (e.2.2.2.2.1-1)else Aa a b e.2.2.2.1 e.2.1 e.2.2.1 e.2.2.2.2.2.1 e.2.2.2.2.2.2 e.2.2.2.2.1
  LG e.1 ϫj do
   Ϻc λs=>Čc όc ϕc ğc ϳm Ÿc
   pure Ík
#print a
section
variable{Ī:ï}{w:è}{A:ā}{E:Value->Ï->È}{s:Ï}
section
variable{t:Á Û}{a b:Ü Û}(ha:uK a)(hb:uK b)(hl:∀q∈ĭe,∀p∈ϛb 1,yt p q){a0:Ü Û}{p0:Ü ůa}{f0:Ê Value}{x y g m k u:Ã}{o:Ü Û}{i j:Ã}{p:Û}
include hl in
theorem wT.lst(l:wT t a b o i j)(e:j=1):ub t (Dr a b o i j):=ľo λq c p d=>hl p (List.take_subset _ _ d) q (e▸c)
def wT.da(l:wT t a b o i j)(e:i=0):ub t Ģf:=ňg (n_ e)
def wT.db(l:wT t a b o i j)(e:j=0):ub t Ģf:=ňg λp c=>n_ e
def z2q(l:wT t a b o ñ j)(ep:a[i]?=À p)(c:∀r∈ϛb j,yt r p)(f:2<=j)(e:j<=ϒ)(q:x+i+j<ù+ϒ)(h:y<=x):wpS ð A E s (Ac a b o ñ j g k m) Ŝk òc:=by
 let d:=(Þd ep).1
 replace l:=l.pa ep c
 show í (uN ep (Κa (Οb (l.da Ϝa))));let{i,rfl}:=WH c;obtain⟨j,rfl⟩:∃n,j=n+2:={j-2,(ϯd f).symm};show xy (λ_=>þ {g,rfl,gT.go {l,ŗc d,e,by omega}}) λ_=>þ {g,rfl,Qj.mk {l,ŗc d,e,by omega}}
include ha hb hl in
theorem z2p(l:wT t a b o ñ Ÿd)(B:b[j+1]?=À q)(c:∀r∈čb ñ,yt r q)(F:i<ù)(J:x+i+j+1<ù+ϒ)(C:y<=x):wpS ð A E s (Ab a b o ñ Ÿd g k u) Ŝk òc:=by
 let f:=(Þd B).1
 replace l:=l.pb B c
 show í (uN B (Κa (Οb ûn)));let{j,rfl}:=WH (a:=j) λe=>c Čh
 let{p,h}:=Xp a i F
 replace f:=Üa f
 show í (uN h (í (Qu rfl (ha _ _ h) hb (show 0+(j+1+1)<=ϒ from(Ĝj).symm▸f) ŏe (z:=ϛb (j+1+1)) rfl Áp λm d e1 e2=>?_)))
 replace d:m<=j+1+1:=d
 rw[Ŧh,Ņa d]at e1
 replace e1:=λp v=>ìa (e1 p v)
 show xy ϳf λc=>?_;let n:=l.cb d λp v r G=>ϵa (l.hd h r G) (e2 p v)
 show xy (Οb (n.lst hl Ϝa)) λH=>xy (Οb (n.db Ϝa)) λI=>by
  let{m,rfl}:=WH I;let{m,rfl}:=WH (a:=m) λe=>H Čh
  show z2q n h e1 ŵl (đ d f) É C
 cases Ţc d ţk;show z2q l h e1 ŵl f É C
include ha hb hl in
theorem z2o(l:WY t a b x o i j)(f:y<=x){n B:Ã}:wpS ð A E s (Aa a b o ñ Ÿd n u g) (θ (gT t a b y) (Qj t a b ûb)) (yZ a0 p0 f0 B):=by
 let{l,h,F,I}:=l;let{q,d}:=Xp b ϻ F
 replace f:=òf f
 show í (PyProof.Rows.wpS_modify (í (χc (Qu rfl ŷo ha (show 0+ñ<=ù from(Ĝj).symm▸h) ŏe (z:=čb ñ) rfl l.sa λk e m H=>?_))));rw[Ŧh,Ņa e]at m;show xy ϳf λc=>?_;let v:=l.ca e λp C r G=>ϵa (ϙf d r G) (ìa (H p C))
 show xy (λc=>þ {_,rfl,gT.fin (v.da Ϝa)}) λc=>?_
 let{k,rfl}:=WH c;show z2p ha hb hl v d m (đ e h) É f;cases Ţc e ţk;show z2p ha hb hl l d m h É f
include ha hb hl in
theorem w58(l:WY t a b x o i j)(B:y<=x+1){n:Ã}:wpS ð A E s (z1f a b o ñ Ÿd g m n) (θ (WZ t a b y) (LI t a b ûb)) ēf:=by
 let{l,d,h,C}:=l;let{p,v}:=Xp a i d;let{q,k}:=Xp b ϻ h;show í (uN k (í (uN v (í (Εd (hb _ _ k) (ha _ _ v))))));by_cases c:wq q<wq p;rw[ò c];let f:=l.pa v λr z=>ϵa (ϙf k r z) (ìa c)
 show í (uN v (νd (f.da Ϝa)));let{i,rfl}:=WH c
 replace d:=ŗc d
 show xy Ăk λ_=>þ {_,rfl,LI.mk {f,d,h,by omega}};rw[Ę c];let f:=l.pb k λr z=>ϵa (l.hd v r z) ėj
 show í (uN k (νd (f.lst hl Ϝa)));let{j,rfl}:=WH (a:=j) λe=>c Čh
 replace h:=ŗc h
 show xy Ăk λ_=>þ {_,rfl,LI.mk {f,d,h,by omega}}
include ha hb hl in
theorem w59(l:WY t a b x o i j):wpS ð A E s (x72 a b o ñ Ÿd g) (θ Ϫe (Dt t a b ûb)) ēf:=by show í (δb (λz=>LI t a b (x+z)) (WZ t a b ûb));rintro z _ g e ⟨l⟩;show w58 ha hb hl l ϗm;rw[čq];rw[šp];show í (γa (δb (λz=>Qj t a b (x+1+z)) (gT t a b ûb)));rintro z _ g e ⟨l⟩;let d:=ϰ ûb z;show xy (λ_=>z2o ha hb hl l d) λ_=>z2o ha hb hl l d;rw[čq];rw[šp];show í (Εa (þ {_,rfl,Dt.mk l}))
#print a
def w5d{a b:Ü Û}{a0 p0 f0 g}{t:Á Û}{Q:Ü Û->ă->È}(m:uK a)(o:uK b)(v:0<ϒ){y:Û}(u:a[ù-1]?=À y)(d:wT t a b #[y] Ďg ϒ)(i:∀q∈ĭe,∀p∈ϛb 1,yt p q)(h:∀r g,ub t r->Q r òc):wpS ð A E s (nY a b) Q òc:=by
 unfold nY;show í (γa (uN u (xy (Ρc (d.da (ÿc c))) λj=>xy þl λk=>?_)));let{n,e1}:=WH j;obtain⟨B,e2⟩:∃n,ϒ=n+2:={ϒ-2,(ϯd (Ôm v λe=>k (ŧc ťd))).symm};let F:ù=n+2:=by omega
 rw[e1,e2]at d;refine í (Βd (Qt (λx=>Dt t a b x) Ϫe (by rw[e1,e2];show{d,by omega,by omega,by omega}) ?_ ?_ ?_));rintro x _ g C ⟨l⟩;show w59 m o i l;rw[čq];rw[Ϸp]
#print a
def gS(x:Ü Û)(l n:Ã):È:=∀i j,i<=j->j<n->K x (l+i)<=K x (l+j)
def z1c(x:Ü Û):È:=∀i j,i<ôa->j<ôa->K x i=K x j->i=j
def x6a(h:gS x l n)(c:n=0\/K x (l+n-1)<=K x (l+n)):gS x l Ŋ:=by
 intro i j a b;by_cases e:j<n;show h i j a e;obtain rfl:j=n:=by omega
 by_cases e2:i=j;rw[e2];rw[ċq];let:=h i Ϻa É É;rw[show l+Ϻa=l+j-1 by omega]at this;show ĕd this (Øn É)
section
variable{Ī:ï}{w:è}{A:ā}{E:Value->Ï->È}{s:Ï}
def Qv{i j p f g}(c:uK x)(hi:i<ôa)(d:j<ôa)(h:Q (À (decide (K x i<K x j))) ϥb):wpS ð A E s (ltAt' i j) Q ϥb:=by let b:x[i]?=À x[i]:=getElem?_pos x i hi;let a:x[j]?=À x[j]:=getElem?_pos x j d;rw[ltAt'_eq];show í (Βd (uN b (í (uN a (Εd (c _ _ b) (c _ _ a))))));unfold K at h;rw[b,a]at h;show h
def z2m{x:Ü Û}{a lo n p f g}{F:Ã->Ê ϓc×Ã->Ř ă Sem (Ñb (Ê ϓc×Ã))}{R:Ê ϓc×Ã->ă->È}(l:1<=a)(b:a<=n)(i:gS x lo a)(k:∀y m Q,1<=m->m<n->(K x Æd<K x Ňd->Q (.done (Æ,m)) ϥb)->(¬ K x Æd<K x Ňd->Q (.yield (Æ,m+1)) ϥb)->wpS ð A E s (F y (Æ,m)) Q ϥb)(h:∀m,a<=m->m<=n->gS x lo m->(m=n\/K x Æd<K x Ňd)->R (Æ,m) ϥb):wpS ð A E s (Ķb [a:n] (Æ,a) F) R ϥb:=by show âc (I:=λy c st=>st=yZ x p f g/\c=(Æ,y)/\gS x lo y) ?_ ?_ {rfl,rfl,i};rintro y _ _ j e ⟨rfl,rfl,d⟩;show k _ _ _ É e (λc=>h y j É d (.inr c)) λc=>{rfl,rfl,x6a d (.inr ėj)};rintro _ _ ⟨rfl,rfl,d⟩;rw[ıh b]at d ⊢;show h n b Đ d ĭ
def nj{lo m j:Ã}(h:j<m):lo+Æd-1-Ūj=lo+(m-1-j):=by rw[ào,ào,Nat.add_left_comm 1,Nat.add_sub_add_left,Nat.add_sub_assoc (by rw[ēd];show h)]
theorem w56{x:Ü Û}{lo n p f g}{Q:Ê Ã->ă->È}(o:uK x)(F:z1c x)(O:lo+n=ôa)(L:1<=n)(h:∀m y,ϯa x->(∀k,k<lo->y[k]?=x[k]?)->1<=m->m<=n->gS y lo m->Q íb ϒn):wpS ð A E s (Ìp lo n) Q ϥb:=by
 unfold Ìp;refine í (z2m (lo:=lo) (Ϙ 1) L (λi j a b=>by rw[show i=j by omega];rw[ċq]) ?_ ?_);intro y m Q a b z v;refine í Ĥh;by_cases c:K x Æd<K x Ňd;rw[ϖp];intro m a b r c;show xy (λe=>þ (h m x Ďj łf a b r)) λe=>?_
 replace c:=Øn Ϛa
 replace b:m<n:=by simp at e;omega
 show xy (λe=>?_) λe=>?_;refine í Ĥh
 let:K x lo<K x Ňd:=by let u:=r 0 (m-1) É (by dsimp only at e;omega);rw[show lo+(m-1)=lo+m-1 by omega,Nat.add_zero]at u;let B:=F lo Ňd É É;dsimp only at e;omega
 simp only[this,Ϩb,Ů];show þ (h m x Ďj łf a É r);obtain rfl:m=1:=by dsimp only at e;omega
 show í (Ĳl (ϴe {rfl,?_}));show í (Γb (âc (I:=λy c st=>st=yZ x p f g/\c=(Æ,y,0)/\∀i j,i<=j->j<y->K x Ūj<=K x ϳa) (Q:=λc st=>st=yZ x p f g/\∃m,c=(Æ,m,0)/\2<=m/\m<=n/\∀i j,i<=j->j<m->K x Ūj<=K x ϳa) ?_ ?_ {rfl,rfl,?_}));rintro y _ _ B C ⟨rfl,rfl,d⟩;refine í (Qv o ñh ñh ?_);by_cases c:K x ũj<K x Ûj;simp only[c,Ϩb,Ů];show þ {rfl,rfl,λi j q l=>?_};by_cases e:j<y;show d i j q e;obtain rfl:j=y:=by omega
 by_cases e2:i=j;rw[e2];rw[ċq];let:=d i Ϻa É É;rw[show lo+Ϻa=lo+j-1 by omega]at this;omega;simp only[c,ĺf,ŉb,áa];refine í Ĥh
 let:K x Ûj<K x ũj:=by let R:=F Ûj ũj É É;omega
 simp only[this,Ϩb,Ů];show þ {rfl,y,rfl,by omega,by omega,d};rintro _ _ ⟨rfl,rfl,d⟩;rw[ıh É]at d ⊢;show{rfl,n,rfl,by omega,by omega,d};intro i j q l;by_cases e2:i=j;rw[e2];show Ėa _;rw[show i=0 by omega,show j=1 by omega];show ìa c;rintro _ _ ⟨rfl,m,rfl,B,C,d⟩;let G:∀k,K ϝe k=_:=λk=>K_mirror É k
 refine í (wpS_reverse (í (z2m (x:=mirror x lo Æd ((lo+m-lo)/2)) (lo:=lo) ñh C ?_ ?_ ?_)));intro i j q l;dsimp only at l;rw[G,G,Ó É,Ó É];let:=d (m-1-j) (m-1-i) (Ϗl q _) (Čb đb (Nat.sub_lt (Čb Ċg l) Çe));rw[nj (Čb q l),nj l];rw[Ũp];intro y t Q a b z v;let N:(ϝe).Perm x:=Ìo _ _ _ _;show í (Qv ?_ ϸk ϸk ?_);intro i p H;let{J,u}:=Èh ((ϧg N).mem_iff.mp (ϓg (Ϟg H)));show o J p (by rw[<-Ćb];show u);by_cases c:K ϝe (lo+t)<K ϝe (lo+t-1);rw[ϖp];intro t a b r _;show þ (h t _ (Ìo _ _ _ _) (λk P=>?_) (by dsimp only at a;omega) b r);rw[getElem?_mirror_all É,Ô É]
#print a
def IZ{x y:Ü Û}(h:uK x)(p:ϯa x):uK y:=by intro i q a;let{c,b}:=Èh ((ϧg p).mem_iff.mp ĺn);show h c q Ōl
section
variable{Ī:ï}{w:è}{A:ā}{E:Value->Ï->È}{s:Ï}
def y42{l r:Ã}(h:l<r):l<=(l+r)/2/\(l+r)/2<r:=by omega
def w55{x:Ü Û}{lo n ok p f g}{Q:Ð->ă->È}(hx:uK x)(hn:lo+n<=ôa)(zi:ok<=n)(d:gS x lo ok)(h:∀y,ϯa x->(∀k,k<lo->y[k]?=x[k]?)->gS y lo n->Q Ä ϒn):wpS ð A E s (Ôo lo n ok) Q ϥb:=by
 unfold Ôo;show í (Γb (âc (I:=λk c st=>c=(Æ,())/\∃y,st=yZ y p f g/\ϯa x/\(∀k,k<lo->y[k]?=x[k]?)/\(k<=n->gS y lo k)) (Q:=λc st=>c=(Æ,())/\∃y,st=yZ y p f g/\ϯa x/\(∀k,k<lo->y[k]?=x[k]?)/\gS y lo n) ?_ ?_ {rfl,x,rfl,Ďk _,λ_ _=>rfl,λ_ i j a b=>?_}));rintro k _ _ hk T ⟨rfl,y,rfl,v,F,d⟩
 replace d:=d (Üa T)
 let hy:=IZ hx v;let L:lo+k<šd:=by let:=v.size_eq;omega
 let sj:∀j,j<=k->lo+j<šd:=λj hj=>Čb (ŏc hj lo) L
 show í (FB (Q:=λc st=>st=yZ y p f g/\∃l r,c=(Æ,l,r)/\l<=k/\(∀i,i<l->K y ϳa<=K y Źb)/\∀i,l<=i->i<k->K y Źb<K y ϳa) (λz c=>∃l r,c=(Æ,l,r)/\l<=r/\r<=k/\r+z<=k+l/\(∀i,i<l->K y ϳa<=K y Źb)/\∀i,r<=i->i<k->K y Źb<K y ϳa) {0,k,rfl,ýa _,Ϙ _,Ϙ _,λi N=>ß N èf,λi a b=>ß b (Îe a)} ?_ ?_ ?_);rintro z _ hz ⟨l,r,rfl,S,q,g3,C,B⟩;show xy ϗi λc=>?_;cases Ţc S c;show þ {rfl,l,l,rfl,q,C,B};let{X,P}:=y42 Üf;dsimp only;generalize (l+r)/2=m at X P ⊢;let O:=ύ P q;show í (Qv hy L (sj m (Üa O)) ?_);by_cases c2:K y Źb<K y Æd;simp only[c2,Ϩb,Ů];show þ {rfl,l,_,rfl,X,Üa O,by omega,C,λi o R=>Int.lt_of_lt_of_le c2 (d _ _ o R)};simp only[c2,ĺf,ŉb,áa];show þ {rfl,_,r,rfl,P,q,by omega,λi o=>ĕd (d i m (ûd o) O) (Śc c2),B};rintro _ ⟨l,r,rfl,S,q,g3,C,B⟩;cases Ţc S É;show{rfl,l,l,rfl,q,C,B};rintro _ _ ⟨rfl,l,r,rfl,q,C,B⟩;let e:lo+k-ĳf=lo+l:=Nat.sub_sub_self (ŏc q lo);show í (Εa (þ {rfl,Ŋj y Źb ĳf,rfl,(bubble_perm _ _ _).trans v,λi N=>?_,λ_=>?_}));let z:=ύ N (ϰ lo l);rw[<-F i N,getElem?_bubble L _ đb,e,Ô (ϱ z),Ô λc=>Ŭn z c.1];let H:∀i,K (Ŋj y Źb ĳf) i=_:=K_bubble L đb;generalize Ŋj y Źb ĳf=b at H;rw[e]at H;let J:∀i,i<l->K b ϳa=K y ϳa:=λi a=>by rw[H,Ô λc=>ϱ a (Nat.add_left_cancel c),Ô λc=>Ŭn a (Nat.lt_of_add_lt_add_left c.1)]
 let Y:K b (lo+l)=K y Źb:=by rw[H,Ó rfl]
 let U:∀i,l<=i->i<k->K b (lo+ñ)=K y ϳa:=λi a c=>by rw[H,Ô É,Ó É];rfl
 intro i j o R;rcases Ēh j l with z|rfl|z;rw[J i (Čb o z),J j z];show d i j o (ύ z q);rcases Nat.lt_or_eq_of_le o with z|rfl;rw[J i z,Y];show C i z;show Ėa _;obtain⟨j,rfl⟩:∃t,j=t+1:={j-1,by omega};let G:=Nat.lt_of_succ_lt_succ R;rw[U j (ûd z) G];rcases Ēh i l with u|rfl|u;rw[J i u];show d i j É G;rw[Y];show ìa (B j (ûd z) G);obtain⟨i,rfl⟩:∃t,i=t+1:={i-1,by omega};let Z:=Nat.le_of_succ_le_succ o;rw[U i (ûd u) (Čb Z G)];show d i j Z G;rintro _ _ ⟨rfl,y,rfl,v,F,d⟩;show{rfl,y,rfl,v,F,?_};by_cases e:n=0;intro i j a b;omega;rw[ıh É]at d;show d Đ;by_cases e:ok=0;rw[show i=j by omega];show Ėa _;show d i j a É;rintro _ _ ⟨rfl,y,rfl,v,F,d⟩;show þ (h y v F d)
#print a
theorem z0u{F:Ü Û->Û×Ã->Ü Û}{s:Ã}(b:∀a p j,F a (p,j)=ņh (s+j) p){R:Á Û}:∀(l Z P:Á Û)(n:Ã)(x:Ü Û),ėc=P++(Z++R)->Ąa=s+n->Z.length=Ăa->((l.zipIdx n).foldl F x).toList=P++(l++R)
 | [],Z,P,n,x,h,_,hz=>by rw[ϱe hz]at h;show h|p::l,z::Z,P,n,x,h,hp,hz=>by
  rw[Ĳh,ćd,b]
  let:=z0u b (R:=R) l Z (P++[p]) Ŋ (x.setIfInBounds (s+n) p) (by rw[ϯk,h,çh _ _ É,hp,ϣb,Ł];rfl) (by rw[î,hp];rfl) (ăd hz)
  rw[this,Ł];rfl
def lJ{x:Ü Û}{P X R:Á Û}{a b:Ã}(h:ėc=P++(X++R))(c:Ąa=a)(d:a+Ϥ=b):(če a b).toList=X:=by rw[Ϡd,ϓd,h,Ŋh c,Ďf É]
theorem Mf{x:Ü Û}{P R:Á Û}{p:Û}{a:Ã}(h:ėc=P++p::R)(b:Ąa=a):x[a]?=À p:=by rw[<-Ćb,h,ăb É,b,ϣb];rfl
def h9{x y:Ü Û}(h:uK x)(c:∀p∈äb,p∈ėc):uK y:=by intro i q a;let{d,b}:=Èh (c q ĺn);show h d q Ōl
section
variable{Ī:ï}{w:è}{A:ā}{E:Value->Ï->È}{s:Ï}
def w5f{a st:ă}{Q:PUnit->ă->È}(h:Q ⟨⟩ a):wpS ð A E s (set a:Ř ă Sem PUnit) Q st:=by unfold wpS;rw[StateT.run_set];show Ĥ {rfl,h}
def w5c{x:Ü Û}{p:Ü ůa}{g i d K U:Ã}{p1 p2:Á ůa}{P u v R:Á Û}{l o:Û}{Q:Ð->ă->È}(S:uK x)(ep:Ħe=p1++(d,(Ņd).length,K)::(d+(Ņd).length,(Ŭe).length,U)::p2)(hi:p1.length=i)(ex:ėc=P++(Ņd++(Ŭe++R)))(I:Ąa=d)(O:(Ņd).Pairwise yt)(H:(Ŭe).Pairwise yt)(h:∀y q g Z,äb=P++(Z++R)->Z.Perm (Ņd++Ŭe)->Z.Pairwise yt->ŭb=p1++(d,(Ņd).length+(Ŭe).length,K)::p2->Q Ä ũc):wpS ð A E s (Èg i) Q ën:=by
 generalize eX:u++[l]=X at ep ex O h;generalize eY:o::v=Y at ep ex H h
 have e1:p[i]?=À (d,Ϥ,K):=by rw[<-Ćb,ep,ăb É,hi,ϣb];rfl
 have e2:p[i+1]?=À (d+Ϥ,Ϡc,U):=by rw[<-Ćb,ep,ăb É,hi,Äf];rfl
 let e3:(ſj).toList=p1++(d,Ϥ+Ϡc,K)::p2:=by rw[Array.toList_eraseIdxIfInBounds,ϯk,ep,çh _ _ É,hi,ϣb,List.eraseIdx_append_of_length_le É,hi,Äf];rfl
 let xl_:∀q∈X,yt q l:=by intro q f;rw[<-eX]at f O;rcases ϗ f with z|z;show(ώb O).2.2 q z l ĳ;rw[ϖ z];rw[ċq]
 let J:∀q∈Y,yt o q:=by intro q f;rw[<-eY]at f H;rcases ň f with z|z;rw[z];rw[ċq];show(ϝd H).1 q z
 let mX:l∈X:=eX▸ĥa _ ĳ;let mY:o∈Y:=eY▸ĳ;have lX:Ϥ=ϻi+1:=by rw[<-eX,î];rfl
 have lY:Ϡc=v.length+1:=by rw[<-eY];rfl
 have szx:ôa=d+(Ϥ+(Ϡc+ſa)):=by rw[<-Ū,ex,î,î,î,I]
 have ay:x[d+Ϥ]?=À o:=Mf (P:=P++X) (R:=v++R) (by rw[ex,Ł,<-eY];rfl) Ųh;have ax:x[d+Ϥ-1]?=À l:=Mf (P:=P++u) (R:=Y++R) (by rw[ex,<-eX,Ł,Ł];rfl) üm;let G:(∀p∈X,∀q∈Y,yt p q)->Q Ä şm:=λc=>h x _ g (X++Y) (by rw[ex,Ł]) Ĕj (Ϻe {O,H,c}) e3
 unfold Èg;show í Ķe;exact wpS _ _ _ _ (match(p[i]?,p[i+1]?)with|_=>_) _ _;rw[e1,e2];refine í (w5f (í (uN ay (í (Qu (z:=X) (x:=x) (b:=d) (n:=Ϥ) rfl (S _ _ ay) S É É (by rw[ex,Ŋh I,Ďf rfl]) O λk hk d1 d2=>?_)))));show xy (Ρe (d1 p ?_) (J q f)) λc=>?_;rw[ćb (by simp at c;omega)];show j
 replace c:k<Ϥ:=by simp at c;omega
 let ax2:x[d+k+(Ϥ-k)-1]?=À l:=by rw[Õe,Ňc ϩc];show ax
 refine í (uN ax2 (í (Qu (z:=Y) (x:=x) (b:=d+Ϥ) (n:=Ϡc) rfl (S _ _ ax) S É É (by rw[ex,<-Ł,Ŋh Ųh,Ďf rfl]) H λe hk2 f1 f2=>?_)));show xy (Ρe (xl_ p j) (f2 q ?_)) λc2=>?_;rw[ÿc c];show f
 replace c2:0<e:=by simp at c2;omega
 have C:(ϵe).toList=Ņe k:=lJ (P:=P++Íg k) (R:=Y++R) (Τe Ĉj) (by rw[î,Ïa,I,Ņa ϩc]) (by rw[Đa,Õe,Ňc ϩc]);have B:(ϫe).toList=ģe e:=lJ (P:=P++X) (R:=ōj e++R) (Τe ąg) Ųh (by rw[Ïa,Ņa hk2])
 have fin:∀r g,ub ϣd r->wpS ð A E s (do Ϻc λs=>Čc όc (r.toList.zipIdx.foldl (λa x=>ņh įp x.1) ϕc) ğc Ùi Ÿc;return (failedOf (<-get)).isNone) Q şm:=by
  rintro r g ⟨r1,r2⟩;show í (Εa (í (ώe (þ (h _ _ _ űk ?_ ?_ ?_ e3)))));have:=z0u (F:=λa x=>ņh įp x.1) (s:=d+k) (λ_ _ _=>rfl) (R:=ōj e++R) r.toList ϣd (P++Íg k) 0 x (by rw[ex];simp only[Ł];rw[<-Ł ąg,Ħa,<-Ł Ĉj,Ħa]) (by rw[î,Ïa,I,Ņa ϩc];rfl) r1.length_eq.symm
  rw[this];simp only[Ł];let a:(űk).Perm (Íg k++ϣd++ōj e):=Üh _ (èh _ r1);rw[<-Ł Ĉj ĉj,Ħa,Ł X,Ħa]at a;show a;let m:∀q∈r.toList,q∈Ņe k\/q∈ģe e:=λq f=>ϗ (r1.mem_iff.mp f)
  let tX:=Ħa k X;let tY:=Ħa e Y;let L:=O;let N:=H;rw[<-tX]at L;rw[<-tY]at N;show Ϻe {Ϻe {(ώb L).1,r2,λp j q f=>?_},(ώb N).2.1,λp j q f=>?_};rcases m q f with z|z;show(ώb L).2.2 p j q z;show ϵa (d1 p j) (J q (ōc z));rcases ϗ j with j|j;show ϵa (d1 p j) (J q (ϟd f));rcases m p j with z|z;show ϵa (xl_ p (ϟd z)) (f2 q f);show(ώb N).2.2 p z q f
 let A1:uK ϵe:=h9 S λp j=>by rw[C]at j;rw[ex];show ĥa _ (ņb _ (ϟd j))
 let A2:uK ϫe:=h9 S λp j=>by rw[B]at j;rw[ex];show ĥa _ (ĥa _ (ņb _ (ōc j)))
 have z1:(ϵe).size=Ϥ-k:=by rw[<-Ū,C,Đa]
 have z2:(ϫe).size=e:=by rw[<-Ū,B,Ïa,Ņa hk2]
 let sX':(ĉj).Pairwise yt:=ĺl (List.drop_sublist _ _) O;let T:(ąg).Pairwise yt:=ĺl ćl H;have b0:ϫe[0]?=À o:=Mf (P:=[]) (R:=v.take (e-1)) (by rw[B,<-eY];obtain⟨n,rfl⟩:∃n,e=n+1:={e-1,by omega};rfl) rfl;have al:ϵe[Ϥ-k-1]?=À l:=Mf (P:=u.drop k) (R:=[]) (by rw[C,<-eX,List.drop_append_of_le_length É]) (by rw[Đa];omega);generalize če (d+k) (d+Ϥ)=xx at *;generalize če (d+Ϥ) (d+Ϥ+e)=yy at *;refine xy (λ_=>í (w5e (t:=Ņe k++ģe e) A1 A2 É b0 ?_ ?_ λr g hr=>fin r g hr)) λ_=>í (w5d (t:=Ņe k++ģe e) A1 A2 É (y:=l) ?_ ?_ ?_ λr g hr=>fin r g hr);have a0:wP ϣd xx yy #[] 0 0:={by rw[<-C,<-B];show ϥd _,C▸sX',B▸T};show a0.pb b0 λq f=>ìa Ăn;intro q f p j;rw[z1,HL al,ņc ϱd]at j;rw[ϖ j];show ìa (f1 q (B▸f));rw[z1];show al;let a0:wT ϣd xx yy #[] ńn yy.size:=by let t1:xx.toList.take ńn=xx.toList:=ćb ϱd;let t2:yy.toList.take yy.size=yy.toList:=ćb (by rw[Ū];show Ϙ _);unfold wT;rw[t1,t2,C,B];let pz:=List.Perm.append (ēh ĉj) (ēh ąg);show{pz,ϻg sX',ϻg T}
 show a0.pa (by rw[z1];show al) λq f=>ìa (f1 q (B▸ōc f));intro q f p j;rw[Am b0]at j;rw[ϖ j];show ìa Ăn
#print a
def uC:Ã->Á ůa->Á Û->È
 |_,[],L=>L=[]|n,r::p,L=>r.1=n/\∃X M,L=X++M/\Ϥ=r.2.1/\X≠[]/\Ĩi yt/\uC (n+r.2.1) p M
theorem sn:∀{p q:Á ůa} {n:Ã} {L:Á Û},uC n (p++q) L->∃M N,L=M++N/\uC n p M/\uC (n+ĳe) q N
 | [],q,n,L,h=>{[],L,rfl,rfl,h}|r::p,q,n,L,h=>by let{f,X,M,rfl,c,d,e,g}:=h;let{M,N,rfl,a,b}:=sn g;show{X++M,N,(Ł ..).symm,{f,X,M,rfl,c,d,e,a},by rw[î,c,<-Õe];show b}
theorem P_:∀{p q:Á ůa} {n:Ã} {M N:Á Û},uC n p M->uC (n+ĳe) q N->uC n (p++q) (M++N)
 | [],q,n,M,N,h,h2=>by rw[show M=[]from h]at h2 ⊢;show h2|r::p,q,n,M,N,h,h2=>by let{d,X,M,rfl,a,b,c,e}:=h;show{d,X,M++N,Ł ..,a,b,c,P_ e (by rw[î,a,<-Õe]at h2;show h2)}
theorem so:∀{p:Á ůa} {n:Ã} {L:Á Û},uC n p L->p.length<=Ϛ
 | [],n,L,h=>ýa _|r::p,n,L,h=>by let{e,X,M,rfl,c,a,d,b}:=h;let:=so b;let:=ϙd a;rw[î,ą];omega
theorem sr{F:Ã×Ã×Ã->Ã×Ã×Ã}(a:∀r,(F r).1=r.1/\(F r).2.1=r.2.1):∀{p:Á ůa} {k n:Ã} {L:Á Û},uC n p L->uC n (p.modify k F) L
 | [],0,n,L,h=>h| [],_+1,n,L,h=>h|r::p,0,n,L,h=>by let{e,X,M,rfl,b,c,d,f}:=h;show{(a r).1.trans e,X,M,rfl,b.trans (a r).2.symm,c,d,(a r).2▸f}
 |r::p,k+1,n,L,h=>by let{e,X,M,rfl,b,c,d,f}:=h;show{e,X,M,rfl,b,c,d,sr a f}
def x60{x y:Ü Û}{L R:Á Û}{lo m:Ã}(ex:ėc=L++R)(n:Ϛ=lo)(c:∀k,k<lo->y[k]?=x[k]?)(h:gS y lo m)(o:lo+m<=šd):∃X M,äb=L++ůe/\Ϥ=m/\Ĩi yt:=by
 let e:y.toList.take lo=L:=by
  show óf λk=>?_
  rw[Ùm]
  split;rename_i l;rw[Ćb,c k l,<-Ćb,ex,Ąb É];rw[ĉb É]
 let d:(Źh).length=m:=by rw[Ïa,Đa,Ū];omega
 show{(ϙg).take m,(ϙg).drop m,?_,d,List.pairwise_iff_getElem.mpr λi j b f a=>?_};rw[Ħa,<-e,Ħa];let g:∀i (b:i<(Źh).length),K y ϳa=wq Źh[i]:=by intro i b;let e:y[lo+i]?=À y[lo+i]:=getElem?_pos _ _ É;unfold K;rw[e,đm,Ēm,òd];rfl
 let:=h i j (Üa a) É;rw[g i b,g j f]at this;rw[Ũp]
def z80{x y:Ü Û}(h:(Įm).Nodup)(p:ϯa x):z1c y:=by
 let n:(ĭm).Nodup:=((ϧg p).map wq).nodup_iff.mpr h;intro i j a b e
 let g:∀i (a:i<šd),ĭm[i]?=À (K y i):=by intro i a;let e:y[i]?=À y[i]:=getElem?_pos y i a;rw[Ś,Ćb];unfold K;rw[e];rfl
 show(List.getElem?_inj (by rw[ç,Ū];show a) n).mp (by rw[g i a,g j b,e])
section
variable{Ī:ï}{w:è}{A:ā}{E:Value->Ï->È}{s:Ï}
def z2u{x:Ü Û}{p:Ü ůa}{g i:Ã}{L R:Á Û}{Q:Ð->ă->È}(F:uK x)(ex:ėc=L++R)(l:uC 0 Ħe L)(hi:i+1<Ĥg)(h:∀y q g M,äb=M++R->M.Perm L->uC 0 ŭb M->Ħc+1=Ĥg->Q Ä ũc):wpS ð A E s (Èg i) Q ën:=by
 let H:p.toList.length=Ĥg:=Ū;obtain⟨⟨O,T,pw⟩,⟨sb,U,z⟩,b⟩:∃r1 r2,Ħe=ϕh i++r1::r2::ϖh (i+2):={Ħe[i],Ħe[i+1],by rw[<-łb,<-łb,Ħa]};let f:(ϕh i).length=i:=by rw[Ïa];omega
 let k:(ϖh (i+2)).length=Ĥg-(i+2):=by rw[Đa,H]
 generalize ϕh i=p1 at b f;generalize ϖh (i+2)=p2 at b k;rw[b]at l;let{P,N,rfl,v,G}:=sn l;let{d,X,N,rfl,n,r,B,j,Y,N,rfl,o,t,I,a}:=G;dsimp only at d n j o a;let{X0,J,rfl}:=(ĸl X).resolve_left r;rw[Ĺl]at *;let{S,K,rfl}:=List.exists_cons_of_ne_nil t;subst n o;rw[š]at d j;subst d;subst j;refine w5c F b f (P:=P) (R:=N++R) (by rw[ex];simp only[Ł]) rfl B I λy q g Z C c u m=>h y q g (P++(Z++N)) (by rw[C];simp only[Ł]) ?_ ?_ ?_;show èh _ ((Üh N c).trans ?_);rw[Ł];rw[m];show P_ v {(Ĝj).symm,Z,N,rfl,c.length_eq.trans (î ..),?_,u,?_};intro e;rw[e]at c;let:=c.length_eq;rw[î,ą]at this;cases this;rw[š]at a ⊢;rw[Õe]at a;show a;let:=ŋ żc m;rw[Ū,î,ą,f,k]at this;omega
abbrev AY:=Ñb (Ê Ŀa×Ã)
nonrec def AX(lo n:Ã):Ř ă Sem AY:=do
 Ϻc λs=>Čc όc ϕc ((ğc).push (lo,n,0)) Ùi Ÿc
 pure (.yield (Æ,lo+n))
nonrec def Dp{β:Type}(r:Ê ůa)(f:Ã->Ã->Ã->Ř ă Sem β)(g:Ř ă Sem β):Ř ă Sem β:=(sortPriv% PySem.Builtin.sortRuns.match_1) Ðf r f λ_=>g
def z1e(N lo n:Ã)(e:Ã->Ã->Ã):Ř ă Sem AY:=do
 let d <-get
 Dp (ōe).back? (λg f _=>do
  let r <-Ķb [:N] ((Æ,()):Ê Ŀa×Ŀa) λ_ _=>do
   let d <-get
   Dp (if(ōe).size>1 then ōe[(ōe).size-2]? else Æ) (λ_ _ a=>
    if a<=e g f then pure Ūm else do
     let b <-Èg ((ōe).size-2)
     if(!b)=Ä then pure (.done (À (),()))else pure (.yield (Æ,()))) (pure Ūm)
  LG r.1 (λr=>pure (.done (À r,lo))) do
   let _ <-Ϻc λs=>Čc όc ϕc ((ğc).modify ((ğc).size-1) λx=>(sortPriv% PySem.Builtin.sortRuns.match_3) (λ_=>Ã×Ã×Ã) x λst c _=>(st,c,e g f)) Ùi Ÿc
   AX lo n) (AX lo n)
inductive AZ(X M L:Á Û):Ê Ŀa×Ŀa->ă->È
 |mk {y q g N}:äb=N++ůe->N.Perm L->uC 0 ŭb N->AZ X M L (Æ,()) ũc
def w5h{x y:Ü Û}{q:Ü ůa}{g k lo N:Ã}{L X M:Á Û}{v:Ã->Ã->Ã}{Q:AY->ă->È}(F:uK x)(B:ϯa x)(t:uC 0 ŭb L)(o:Ϛ=lo)(n:äb=L++ůe)(l:Ϥ=k)(G:Ĩi yt)(hk:1<=k)(h:∀y q g L,äb=L++M->Ϛ=lo+k->uC 0 ŭb L->ϯa x->Q (.yield (Æ,lo+k)) ũc):wpS ð A E s (z1e N lo k v) Q ũc:=by
 let u:∀{f:Ü Û}{b},Çj=b++ůe->Ōj L->f.Perm x:=λe1 e2=>Array.Perm.trans (ũk (by rw[e1,n];show Üh _ e2)) B
 let j:∀{f:Ü Û}{a:Ü ůa} {m b},Çj=b++ůe->Ōj L->uC 0 ĭe b->wpS ð A E s (AX lo k) Q (yZ f a Æ m):=by intro f a m b e1 e2 d;refine í (Εa (þ (h _ _ _ (b++X) (by rw[Ł];show e1) (by rw[î,Ťn,o,l]) ?_ ġp)));exact uC 0 (a.push (lo,k,0)).toList _;rw[Ėh];show P_ d {by rw[š,Ťn,o],X,[],(ū _).symm,l,λe=>ęb hk (l▸ŋ żc e),G,rfl}
 show í Ķe;exact wpS _ _ _ _ (Dp q.back? _ _) _ _;cases q.back? with
 |Æ=>show j n Ĕj t|À r=>
  show í (Γb (âc (I:=λ_=>AZ X M L) (Q:=AZ X M L) ?_ (λ_ _ h=>h) (.mk n Ĕj t)));rintro _ _ _ _ _ ⟨e1,e2,d⟩;rename_i f a m b;show í Ķe;exact wpS _ _ _ _ (Dp (if ù>1 then a[ù-2]? else Æ) _ _) _ _;by_cases c:ù>1;rw[Ó c];cases a[ù-2]? with
  |Æ=>show þ Ϭh|À r=>show xy (λ_=>þ Ϭh) λ_=>í (z2u (p:=a) (i:=ù-2) (IZ F ġp) e1 d É λK O J M2 z C H P=>þ (.mk z (Ăg e2) H))
  rw[Ô c];show þ Ϭh;rintro _ _ ⟨e1,e2,d⟩;show í (Εa (j e1 e2 ?_));exact uC 0 (Array.modify _ _ _).toList _;rw[Array.toList_modify];show sr ?_ d;show λ⟨_,_,_⟩=>{rfl,rfl}
inductive Du(x:Ü Û)(z:Ã):Ê Ŀa×Ã->ă->È
 |mk {lo y q g L R}:äb=L++R->Ϛ=lo->uC 0 ŭb L->ϯa x->z<=lo->Du x z (Æ,lo) ũc
def w5g{x:Ü Û}{g:Ã}{Q:Ŀa->ă->È}(F:uK x)(hd:(Įm).Nodup)(h:∀y q g,ϯa x->y.toList.Pairwise yt->Q () ũc):wpS ð A E s ϳo Q (yZ x #[] Æ g):=by
 unfold ϳo;show í Ķe;show í (Γb (âc (I:=λz=>Du x z) (Q:=λc st=>c.1=Æ/\∃y q g,st=yZ y q Æ g/\uC 0 ŭb äb/\ϯa x) ?_ ?_ (.mk (L:=[]) (R:=ėc) rfl rfl rfl Ďj Đ)));rintro z _ _ _ hz ⟨i,p,d,a,l⟩;rw[Ϙp]
 show xy ϗi λc=>?_;let:R=[]:=ϱe (by dsimp only at c;omega);rw[Ĝq];rw[ū]at i;show þ {rfl,y,q,g,rfl,i▸d,a};replace c:lo<ôa:=by dsimp only at c;omega
 refine í (w56 (lo:=lo) (n:=ôa-lo) (IZ F a) (z80 hd a) É É λm y1 B U K v N=>?_);let A1:=IZ F ĩo;let z1:=(ĩo).size_eq
 let T:∀{k f P},1<=k->lo+k<=ôa->f.Perm y->(∀j,j<lo->f[j]?=y[j]?)->gS f lo k->wpS ð A E s (z1e ôa lo k P) (λr st=>je ϟj ėl r) (yZ f q Æ g):=by intro k f P S h4 C o G;let{X,M,eY,Y,sX}:=x60 (m:=k) i p o G (by rw[(Ăg a).size_eq];show h4);show w5h F (Ăg a) d p eY Y sX S λy q g L e1 e2 e3 e4=>.mk e1 e2 e3 e4 (Ěf l S)
 show ϊd (Q:=λr st=>je ϟj ėl r) ?_ λr st h=>by cases r<;>show h
 show xy (λt=>í (γa (w55 (lo:=lo) (n:=min (ôa-lo) (minRun' ôa ôa 0)) (ok:=m) A1 ?_ ?_ N λf C o G=>xy (λc=>nomatch c) λ_=>T ?_ ?_ (Ăg B) (λk O=>(o k O).trans (U k O)) G))) λt=>T K É B U N;omega;show Ťh {v,Üa t};show Ťh {đ K v,đ K (Üa t)};show đ (ŏc (Nat.min_le_left ..) _) Ϙm;rintro _ _ ⟨i,p,d,a,l⟩;rw[Ϙp]
 let:R=[]:=ϱe (by dsimp only at l;omega);rw[Ĝq];rw[ū]at i;show{rfl,y,q,g,rfl,i▸d,a};rintro⟨_,lo⟩ _ ⟨rfl,y,q,g,rfl,d,a⟩;show í (Γb (âc (I:=λz c st=>c=(Æ,())/\∃y q g,st=yZ y q Æ g/\uC 0 ŭb äb/\ϯa x/\(Ħc<=1\/Ħc+z<=ôa)) (Q:=λc st=>c=(Æ,())/\∃y q g,st=yZ y q Æ g/\uC 0 ŭb äb/\ϯa x/\Ħc<=1) ?_ ?_ {rfl,y,q,g,rfl,d,a,.inr ?_}));rintro z _ _ _ hz ⟨rfl,y,q,g,rfl,d,a,u⟩;show í (ώe (Κa (λc=>þ {rfl,y,q,g,rfl,d,a,c})))
 replace c:¬ Ħc<=1:=c
 show í (z2u (IZ F a) (ū _).symm d ?_ λf o g2 M J t Z c4=>?_);let:∀(b:È) [ųi b],(if b then Ħc-2-1 else Ħc-2)+1<Ħc:=λb _=>by rw[Ϩp]
 show this _;rw[ū]at J;refine þ {rfl,f,o,g2,rfl,J▸Z,(ũk (J▸t)).trans a,.inr É};rw[Ĕq];show{rfl,y,q,g,rfl,d,a,by rw[Ìi]at u;dsimp only at u;omega};let:=so d;rw[Ū,Ū,ŧi]at this;rw[Ũp];rw[Ĕq];show þ (h y q g a ?_)
 match e:ŭb,d,(Ū (xs:=q))with
 | [],d,_=>rw[show äb=[]from d];show ĕh| [r],d,_=>let{_,X,M,e,_,_,h5,h6}:=d;rw[e,show M=[]from h6,ū];show h5
 |_::_::_,_,v=>simp only[ą]at v;omega
def x6o(l:Ē a=À (Įd ĸ Ōa n))(o:Ŷb vs ns)(J:ns.Nodup)(t:Ć<=â)(h:∀(out:Ü Value)(b:Á Å),Ŷb ļo b->Ōj ns->ńo (·<=·)->P (.done ϳn) { s with ì:=sortedHeap ä a vs out }):Ý ð A (Builtin.«list.sort» {ða,[]}) P E s:=by
 by_cases h64:Ć<64;show list_sort_tree l o h64 h
 obtain⟨k,m,r,rfl⟩:∃k m r,vs=k::m::r:=by
  match vs,h64 with
  | [],h=>show ß Í h| [_],h=>show ß (show 1<64 by decide) h|k::m::r,_=>show{k,m,r,rfl}
 generalize e:k::m::r=vs at *;let f:¬ vs.toArray.size<2:=by rw[ĥ];omega
 let C:a<Þ:=Ĵ l;obtain⟨c,v⟩:∃c,(Ϟj).get? a=À ϒm:={_,get?_update_seq l Śo}
 let B:((ϛk).push Ŏh).get? a=À ϒm:=by rw[Ĕm _ _ _ (by rw[ĺo,œm];show ϱ (úd C)),Ĕm _ _ _ (by rw[œm];show ϱ C)];show v
 rw[list_sort_plain];refine Ø (listItems_at l rfl (Ø (Ğn l rfl (hsz:=by rw[ĥ];show t) ?_)));show Ø (Êo v rfl (Ø (Ñn ?_ ġo)));show Ø (ûh (Ċb ?_));exact Ý ð A _ P E { s with ì:=(ϛk).push Ŏh };rw[Ô f,Ô f,<-e,keyKind_ints (e▸o),e];show Ø (Φa (ďa (w5g (x:=pairsOf vs) (g:=7) (Q:=λ_ st=>(Źo).Perm Öi/\failedOf st=Æ/\SortedTo Źo (Öi).size) ?_ ?_ ?_) ?_ λ_ _ e=>e));intro i p d;show o.intKeys p (ϓg (Ϟg d));have:(Öi).toList.map wq=ns:=by rw[pairsOf_toList,show wq=numOf∘Prod.fst from rfl,<-Þa,Ăf Đ,o.nums]
 rw[this];show J;intro y q g d u;show{d,rfl,λi j R O=>?_};let z:=d.size_eq;let L:y[i]?=À y[i]:=getElem?_pos y i É;let N:y[j]?=À y[j]:=getElem?_pos y j É;unfold K;rw[L,N];by_cases c:i=j;subst c;rw[ċq];let:=ύk u i j ϱd ϱd É;rw[òd,òd]at this;rw[Ũp];rintro⟨⟨⟩,st⟩ _ ⟨rfl,d,I,u⟩;dsimp only;show Ø (Êo B rfl (Ø (Ğn B rfl ?_ (hsz2:=by refine đ (Îb ((Array.size_map ..).trans (d.size_eq.trans (pairsOf_size _)))) (òf t)))));rw[I];simp only[bne_self_eq_false,ŉb,áa];let{b,F,H,G}:=sorted_out o d u;show Ĥ (h _ b F H G)
def x6p(y:ŧb=Æ)(lo:êa=Â)(o:ϔh Ŷa a kvs ep)(hk:ϴb (·.1)=ϐa Ϭ)(n:ŵ<=â)(h:∀h' tk p out c ns',Þ<=p->ĩ p=À (Įd ĸ out c)->Ŷb ļo ns'->ns'.Perm ns->ns'.Pairwise (·<=·)->(∀b ob,Ē b=À ob->ĩ b=À ob)->Q ž { s with ì:=h',Ě:=tk }) :Ý ð A (Áb ĥf ða) Q E s:=by
 let j:Ķ=ŵ:=by
  let:=ŋ żc hk
  rwa [ç,ç]at this
 let v:ns.Nodup:=by let:=o.nodup;rw[hk]at this;show(Şl this).imp λh z=>h (ŋ _ z)
 show Calls.call_function_entry kind_sorted plain_sorted entry_sorted (args_sorted1 _) ?_;unfold Builtin.«sorted»;refine Ø (m:=checkCount Ťb 1 1 _) (Φa (z6s Ġo lo o (j▸n) λi tk d k u g q=>Ø (ûh ?_ Ϻl)));let C:=y1u d kvs ns k hk u;let l:(i.push ŀl).get? Ño=À ŀl:=ũ _ rfl;refine Ø (Ċb (Ņc slot_list_sort {_,l,rfl} entry_list_sort (x6o l C v Ϻl λout ns' B x t=>{_,rfl,?_}) (args_list_sort _)));let{c,r}:=sortedHeap_at (vs:=d) (out:=out) l;show Ĥ {_,rfl,h _ tk Ño out c ns' (Üa g) r B x t λb ob e=>?_};let f:=Ĵ ųo;rw[sortedHeap_old (vG (ϱ f)) (by rw[ĺo];show úd f)];show Ĳ _ ųo
#print a
section
variable{X:Cx}
def x3f:Á V->Hp->VK->È:=λb H Q=>∃(a:Ì) (kvs:Á ŧ) (ns:Á Å),b=ða/\Rd H a œ/\ϴb (·.1)=ϐa Ϭ/\ŵ<=â/\∀l,H l=Æ->Q Ϧc ϊn
def z6h(b:Ϝ=Ä):vV X ĥf x3f:=by
 intro R s σ H T S Q I r h;let{a,l,d,rfl,n,m,j,q}:=h;let{u,rfl,k}:=uD r;cases(show u=ė a from k);let{_,x,N,g,o,G,t,E,F,z,P,J,O}:=ZT ĝ n;let C:ϔh Ϧb a N t:={o,G,E,F,z,P,J,O};show x6p (óa b) x C ((Nb g).trans m) j λh' A p f c e i y v K B L=>?_
 obtain rfl:e=Õc d:=AS (K.trans (Ċc d).symm) B (NM d);show{.ref p,_,Ťa (t':=A) (h':=h') L i (show xc ú X.w _ _ _ (Γ ((Õc d).map Íd))from{?_,Çj,c,mj v,?_}),rfl,q _ (Ĕb i)};rw[ç,(Ċc d).length_eq];show j;rw[šl];show y
#print a
#print L2
namespace L3
open ģ ĺ Ĭ L2
def He:Á D->Ê D
 | [.dic ks _]=>(QD ks).bind λa=>À Ϟl|_=>Æ
def x68(f:Ϝ=Ä)(I:Gl X Ťb)(C:õ Ťb=Æ)(x:SA X [e] fs)(y:Î ϴ q12) :SF X ϛl (eL He fs):=by
 let{t,z,k}:=x.h;refine{{_,(DR (p:=p) (pos:=pos) (z6h f) I C iO {z} Í Í (by rw[ų,y];rfl)).h,λ{L J G H τ σ d Q} E b q=>?_}};let{A,B,b}:=zJ b;show k E B λO K N g r=>?_
 rcases A with _|⟨x_,r_⟩;cases b
 cases x_<;>first|(cases b;done)|skip
 cases r_<;>first|(cases b;done)|skip
 rename_i w P;let{i,j,b}:=zJ b;cases b;let{v,rfl,a,F,rfl,o,u,s,l}:=qH r
 let m:åb<=â:=by let:=úi s;rw[NX j,ç]at u;omega
 show{a,w.zip F,i,rfl,ěc g.gh o,?_,m,λn c=>?_};rw[<-NX j];show Ăf É;show q n _ _ (Œd (ϑa g.gh c)) (Æj c) (ši c) {_,yo,Ďe,?_};rw[ç,(Ċc i).length_eq];show m
def Gn(K:Ñ)(x:Ç):È:=ϝ K Ģ x=À Æ
def Gs(K:Ñ)(x:Ç)(v:Value):È:=ϝ K Ģ x=À Êa
def Tq(K:Ñ)(d:Ê Ì)(a:Ì)(vs:Á Value):È:=∃n sl,Ϩ a=À {.type ŷ,d,.seq Ōa n,sl}
def Tp(K:Ñ)(a:Ì)(vs:Á Value):È:=∃d,Tq K d a vs
def Dc(K:Ñ)(w:è)(a:Ì)(l:Á úf):È:=(∃n,Ϩ a=À { cls:=.type ϐ,ċ:=.dict (Ϯj).toArray n })/\êa=Â
nonrec def vD:Á Value->Ê æn
 | []=>À ([],[])|.int i _::r=>(ķg).bind λp=>À (.int i::p.1,.int i::p.2)|.str s _::r=>match Ğc Ļd 1000 with
  |Ä=>(ķg).bind λp=>À (.str s::p.1,.str s::p.2)|Â=>Æ
 |_=>Æ
def vT(vs:Á Value):Ê æn:=match Ğc Ć 1000 with
 |Ä=>vD vs|Â=>Æ
nonrec def vU:Á Value->Ê (Á V)
 | []=>À []|.ref a::r=>(vU r).bind λp=>À (.ref a::p)|_=>Æ
section
variable{K:Ñ}{w:è}{h:Heap}{mg:Ç->Ê Value}{a:Ì}{x:Ç}{v:Value}{d:Ê Ì}{n:Ã}{i:Å}{t:Tok}{s:Ç}{sl:Ü Öb}{xs:Á Ç}{vs:Á Value}{us:Á V}{ds:Á D}{l:Á úf}
def gn_mk(h:ϝ K Ģ x=À Æ):Gn K x:=h
def gs_mk(h:ϝ K Ģ x=À Êa):Gs K x v:=h
def tq_mk(h:Ϩ a=À {.type ŷ,d,.seq Ōa n,sl}):Tq K d a vs:={_,_,h}
def tp_mk(h:Ϩ a=À {.type ŷ,d,.seq Ōa n,sl}):Tp K a vs:={_,_,_,h}
def dc_mk(h:Ϩ a=À { cls:=.type ϐ,ċ:=.dict (Ϯj).toArray n })(q:êa=Â):Dc K w a l:={{n,h},q}
def q_(X:ţ h)(G:Ģa Ģ mg)(g:Gn K x):mg x=Æ:=W.mg_none_of X G g
def ZY(X:ţ h)(G:Ģa Ģ mg)(g:Gs K x ŭ):wH mg x ŭ:={_,ĝc X G g,rfl}
def ZX(X:ţ h)(G:Ģa Ģ mg)(g:Gs K x Ϗf):wH mg x Ŭ:={_,ĝc X G g,{_,rfl}}
def lz(X:ţ h)(G:Ģa Ģ mg)(g:Gs K x (.str s t)):wH mg x (.str s):={_,ĝc X G g,{_,rfl}}
theorem UM:∀{vs:Á Value}{us:Á V}{ds:Á D},vD vs=À (us,ds)->zx us vs/\∀H,å K H ds us
 | [],_,_,e=>by cases e;show{.nil,λ_=>rfl}|.int i t::r,_,_,e=>by let{p,e1,e}:=zJ (show(ķg).bind _=_ from e);cases e;let{b,c}:=UM e1;show{.cons {_,rfl} b,λH=>{_,_,rfl,rfl,c H}}
 |.str s t::r,_,_,e=>by
  cases z:Ğc Ļd 1000 with
  |Â=>rw[show vD řn=match Ğc Ļd 1000 with|Ä=>_|Â=>Æ from rfl,z]at e;cases e
  |Ä=>rw[show vD řn=match Ğc Ļd 1000 with|Ä=>_|Â=>Æ from rfl,z]at e;let{p,e1,e}:=zJ (show(ķg).bind _=_ from e);cases e;let{b,c}:=UM e1;show{.cons {_,rfl} b,λH=>{_,_,rfl,{rfl,ϒa Íl},c H}}
theorem z2f:∀{vs:Á Value}{us:Á V},vU vs=À us->zx us vs
 | [],_,e=>by cases e;show .nil|.ref a::r,_,e=>by let{p,e1,e}:=zJ (show(vU r).bind _=_ from e);cases e;show .cons rfl (z2f e1)
def F3(g:Tq K d a vs)(e:vT vs=À (us,ds))(H:Hp):zh K H ğe ŭ:=by
 let{n,sl,g}:=g;cases z:Ğc Ć 1000 with
 |Â=>rw[show vT vs=match Ğc Ć 1000 with|Ä=>_|Â=>Æ from rfl,z]at e;cases e
 |Ä=>rw[show vT vs=match Ğc Ć 1000 with|Ä=>_|Â=>Æ from rfl,z]at e;let{b,c}:=UM (K:=K) e;let q:=ϒa Íl;show{a,us,rfl,z6w g q b H,c H,by rw[<-(c H).length,Ź];show q}
def vn(g:Tp K a vs)(e:vT vs=À (us,ds))(H:Hp):zh K H ğe ŭ:=let ⟨_,g⟩:=g;F3 g e H
def Ap(g:Tq K Æ a vs):EO K a:=let ⟨_,_,g⟩:=g;{_,g,rfl,rfl}
theorem Iv:∀l:Á úf,gs w (ś λp=>({Ún w.params p.1,.str p.1 p.2.1,p.2.2}:Ĥb)) (ś (·.1)) (ś (·.2.2))
 | []=>.nil|_::l=>.cons ŀg
def ik(g:Dc K w a l)(e:vU (ś (·.2.2))=À us)(b:Ϝc)(ex:ś (·.1)=xs)(c:∀H,å K H ds us):tD K w a Ųc ds:=by rw[Ÿp];show m4 g ŀg b q (z2f e) c
def B9(g:Dc K w a l)(e:vD (ś (·.2.2))=À (us,ds))(b:Ϝc)(ex:ś (·.1)=xs):tD K w a Ųc ds:=by rw[Ÿp];show m4 g ŀg b q Ŕn.1 (UM e).2
def HG(g:Dc K w a l)(e:vD (ś (·.2.2))=À (us,ds))(b:Ϝc)(ex:ś (·.1)=xs):jJ K w a Ųc us:=by rw[Ÿp];show z8p g ŀg b q Ŕn.1
def HH(_:Dc K w a l)(e:vD (ś (·.2.2))=À (us,ds)):∀H,å K H ds us:=(UM e).2
#print a
abbrev HD(x:Ç)(ps:Á Ç)(k:Ã)(F:Á D->Ê ã)(P:ï)(w:è)(K:Ñ)(mg:Ç->Ê Value)(Ë:Heap):È:=vg P w K mg Ë x ps k Ĺe
section
variable{X:Cx}{e:Õ}
def og(a:PE X e s)(b:PE X e t):PE X e (λσ H Q=>s σ H Q\/t σ H Q):=λc z σ H Q I h=>by rcases h with h|h;show a c z σ H Q I h;show b c z σ H Q I h
nonrec def kC(f g:FE):FE:=λτ=>match f τ with
 |À d=>À d|Æ=>g τ
def LB(a:SE X e f)(b:SE X e g):SE X e (kC f g):=by
 let{s,k,c}:=a.h;let{t,j,i}:=b.h;show{{_,og k j,λ{m l G H τ σ d Q} E h q=>?_}};unfold kC at h;cases z:f τ with
 |À x=>rw[z]at h;cases h;show .inl ıp|Æ=>rw[z]at h;show .inr (i E h q)
nonrec def B1(f g:uG):uG:=λβ=>match f β with
 |À d=>À d|Æ=>g β
def y3w(a:MC X e f)(b:MC X e g):MC X e (B1 f g):=by
 let{s,j,c}:=a.h;let{t,i,d}:=b.h;show{{_,og j i,λ{P l k G H β β' σ m Q} E h q=>?_}};unfold B1 at h;cases z:f β with
 |À x=>rw[z]at h;cases h;show .inl ıp|Æ=>rw[z]at h;show .inr (d E h q)
#print a
def VM(K:Ñ)(m q:Ç)(st:Ú)(ps:Á Ç)(f:Ì):È:=še K Ń=Ä/\ïa K Ń=Ä/\∃fd,vW K m q st f fd/\t7 K fd ps []
def IK(K:Ñ)(m:Ç)(f:Ì)(c:Ç):È:=∃C,ϝ K Ģ c=À ěa/\qW K C/\ŕa K ŝ m=À áb
def gz(K:Ñ)(c d m q:Ç)(st:Ú)(ps:Á Ç):È:=∃f,IK K m f c/\IK K m f d/\VM K m q st ps f
def TY(K:Ñ)(c q:Ç)(st:Ú)(ps:Á Ç):È:=∃C f,ϝ K Ģ c=À ěa/\Ϟf K C=Ä/\ŕa K ŝ Ϡa=À áb/\ïa K ŝ=Ä/\VM K Ϡa q st ps f
def MJ(K:Ñ)(c m q:Ç)(st:Ú)(ps:Á Ç):È:=∃C f,ϝ K Ģ c=À ěa/\ôi K ŝ Ĉh=À ſg/\ūi K C Ĥf=Ä/\Ŭi K ŝ Ĥf m=À Ńi/\VM K m q st ps f
def jI(K:Ñ)(x:Ç)(st:Ú)(f:Ì):È:=ϝ K Ģ x=À áb/\zP K x st
section
variable{K:Ñ}{w:è}{mg:Ç->Ê Value}{h:Heap}{c d m q x:Ç}{st:Ú}{ps xs ns:Á Ç}{f a:Ì}{C D:Ì}{sp:Sp}{k:Ã}{l:Á úf}{fs:Á Ì}
def cls_mk(a:ăe K C Ůi=Ä)(b:Ŏf K C=Ä)(d:õi K C=Ä)(c:ŕa K ŝ ϐh=À όg):qW K C:={a,b,d,c}
def mdp_mk{n:Value}{o d:Ê Ì}{j:Ü Öb}{g kV c h a ct:Value}(i:še K Ń=Ä)(l:Ϩ f=À {n,o,.func ñk,j})(e:ůb K a q=Ä)(k:ïa K Ń=Ä)(b:t7 K ñk ps []):VM K m q st ps f:={i,k,_,z8j l e k,b}
def mtc_mk(n:ϝ K Ģ c=À ěa)(a:qW K C)(g:ŕa K ŝ m=À áb):IK K m f c:={C,n,a,g}
def mtp_mk(a:IK K m f c)(b:IK K m f d)(e:VM K m q st ps f):gz K c d m q st ps:={f,a,b,e}
def mkp_mk(n:ϝ K Ģ c=À ěa)(a:Ϟf K C=Ä)(g:ŕa K ŝ Ϡa=À áb)(b:ïa K ŝ=Ä)(e:VM K Ϡa q st ps f):TY K c q st ps:={C,f,n,a,g,b,e}
def cmp_mk(n:ϝ K Ģ c=À ěa)(b:ôi K ŝ Ĉh=À ſg)(a:ūi K C Ĥf=Ä)(g:Ŭi K ŝ Ĥf m=À Ńi)(e:VM K m q st ps f):MJ K c m q st ps:={C,f,n,b,a,g,e}
def fnq_mk{h i:Ê Ì}{d:Ü Öb}{j kV e g b ct:Value}(a:ϝ K Ģ x=À áb)(l:Ϩ f=BN x st j h d kV e g i b ct)(c:ůb K b x=Ä)(k:ïa K Ń=Ä):jI K x st f:={a,fnp_mk a l c k}
def z5p(b:∀s us,ţ ä->Ÿ=ę->Æc s fd {us,[]} Ąc):t7 K fd ps []:=λs us c a=>by rw[ū]at a ⊢;show b s us c a
def gz.hh(a:gz K c d m q st ps)(P:ï)(w:è)(mg:Ç->Ê Value)(e:Heap)(ok:∀{f fd},vW K m q st f fd->xi P w K mg e xY k f fd ps sp):uk P w K mg e c m ps k sp/\uk P w K mg e d m ps k sp:=by let{f,{C,n,l,o},{D,h,j,p},i,g,fd,F,b}:=a;show{{C,f,fd,n,l,{o,i,g},b,ok F},{D,f,fd,h,j,{p,i,g},b,ok F}}
def TY.hh(a:TY K c q st ps)(X:ţ h)(G:Ģa Ģ mg)(P:ï)(w:è)(d:Heap)(ok:∀{f fd},vW K Ϡa q st f fd->xi P w K mg d xY k f fd ps sp):IH P w K mg d c ps k sp:=by let{C,f,n,e,g,j,i,l,fd,F,b}:=a;show{C,f,fd,n,ĝc X G n,{e,g,i,j},b,ok F}
def MJ.hh(a:MJ K c m q st ps)(X:ţ h)(G:Ģa Ģ mg)(P:ï)(w:è)(d:Heap)(ok:∀{f fd},vW K m q st f fd->xi P w K mg d xY k f fd ps sp):MM P w K mg d c m ps k sp:=by let{C,f,n,j,l,g,i,e,fd,F,b}:=a;show{{C,f,fd,_,ĝc X G n,j,l,g,e,b,ok F}}
def jI.n(a:jI K x st f)(X:ţ h)(G:Ģa Ģ mg):mg x=À Ń:=ĝc X G a.1
def z7c(g:Dc K w a l)(e:ś (·.2.2)=Ŵb ė)(b:Ϝc)(ex:ś (·.1)=xs)(m:VN mg ns fs):Xj K w mg a Ųc ns:=by rw[Ÿp];show z8z g (e▸Iv l) b q m
#print a
section
variable{K:Ñ}{fd:Ō}{p0 p1 p2 p3:Ç}
def bd4(b:∀s x y z u,ţ ä->Æc s fd {Ýp,[]} ((Úe).zip Ýp)):t7 K fd Úe []:=z5p λs a c d=>us4 (P:=λa=>Æc s fd {a,[]} ((Úe).zip a)) (λx y z u=>b s x y z u c) a d
#print a
#print L3
namespace L3
open ģ
nonrec def mF:Á D:=[ń,ϣ,įa,Âg]
def Q4:D:=.tup mF
nonrec def W5:Á D:=[ûc,Ϯb,ϭb]
def jV:D:=.tup W5
nonrec def z91:Á D:=[Şb,ħh,Ĩh]
def BU:D:=.tup z91
nonrec def qf:Á Ľ:=Ŗa .inr [ϫc,ĺa,ώa,ìb,Ϸa,ïb,ôb,Ĳb,öb,üb,òb,Ţa,Şa,ϊa,όa,ĵa,śa,Őa,ϥ,Ϗ,ώ,Ëc]
nonrec def Vl:Á D:=[ϯn,ċf,ċf,ύb,ύb,ύb,ύb,ύb,ύb,ύb,ύb,ύb,ċf,ċf,Ýf,Ýf,Ýf,Ýf,ϯn,Ũm,Ũm,ŀp]
nonrec def O6:Á Ľ:=Ŗa .inr [ĺa,ώa,Şa,ϊa,όa,ĵa,śa,Őa]
nonrec def O9:Á D:=[įa,įa,ϧa,ϧa,ϣ,ϣ,ϣ,ϣ]
nonrec def uO:Á Ľ:=Ŗa .inr [Āa,"d","s",Ĉa,ϕb]
nonrec def uP:Á D:=[(.tup [(.int 27),ϧa]),(.tup [Âg,Ϩc]),(.tup [Ōp,Ϩc]),(.tup [Âg,Àc]),(.tup [ń,ϧa])]
nonrec def kF:Á Ľ:=Ŗa .inr [Ëc,ĺa,ώa,ìb,Ϸa,ïb,ôb,Ĳb,öb,üb,òb,Ţa,Şa,ϊa,όa,ĵa,śa,Őa]
nonrec def kG:Á D:=[ń,ϵ,Àc,Ϩc,(.int 4),ϧa,(.int 6),(.int 7),ϣ,(.int 9),(.int 10),(.int 11),Ϭi,(.int 13),ōp,ϙc,įa,(.int 17)]
nonrec def BV:Á L2.V:=[.int 0,.int 1,.int 2,.int 3,.int 4,.int 5,.int 6,.int 7,.int 8,.int 9,.int 10,.int 11,.int 12,.int 13,.int 14,.int 15,.int 16,.int 17]
nonrec def Ya:Á Ľ:=Ŗa .inr İn
nonrec def Za:Á D:=[(.int 18),(.int 19),(.int 20)]
nonrec def BX:Á L2.V:=[.int 18,.int 19,.int 20]
nonrec def YZ:Á Ľ:=Ŗa .inr İn
nonrec def ZZ:Á D:=[Ōp,(.int 22),(.int 23)]
nonrec def BW:Á L2.V:=[.int 21,.int 22,.int 23]
theorem Vt{g:FG}{c:FT}{e:FE}{σ:yD}(p:D->Ð)(v:D->D):∀{ds:Á D},(∀d∈ds,∃σ1,g d σ=À σ1/\c σ1=À (p d)/\(p d=Ä->e σ1=À (v d)))->yq g c e σ ds=À ((ds.filter p).map v)
 | [],_=>rfl|d::ds,h=>by
  let{σ1,e1,e2,b}:=h d Īb;let a:=Vt p v (ds:=ds) λx f=>h x (æa _ f)
  rw[åq];exact(c σ1).bind _=_;rw[e2];cases hp:p d with
  |Â=>rw[éd (by rw[hp];decide)];show a|Ä=>rw[ϐb hp];exact(ϲc).bind _=_;rw[b hp];exact(yq g c e σ ds).bind _=_;rw[a];rfl
def gI(v:D->D)(h:∀d∈ds,∃σ1,g d σ=À σ1/\e σ1=À (v d)):yq g yc e σ ds=À (ĩg v):=by
 let:=Vt (g:=g) (c:=yc) (e:=e) (σ:=σ) (λ_=>Ä) v (ds:=ds) λd f=>by let{σ1,a,b}:=h d f;show{σ1,a,rfl,λ_=>b}
 rw[this,List.filter_eq_self.mpr łf]
inductive vy(R:D->D->È):Á D->Á D->È
 |nil:vy R [] []
 |ó {x y:D} {xs ys:Á D}:R x y->vy R xs ys->vy R Ēg (y::ys)
theorem Nm{g:FG}{e:FE}{σ:yD}(R:D->D->È):∀{ds:Á D},(∀d∈ds,∃σ1 x,g d σ=À σ1/\e σ1=À x/\R d x)->∃xs,yq g yc e σ ds=À xs/\vy R ds xs
 | [],_=>{[],rfl,.nil}|d::ds,h=>by
  let{σ1,x,e1,e2,r}:=h d Īb;let{xs,b,a}:=Nm R (ds:=ds) λx c=>h x ϖi
  show⟨x::xs,?_,.cons r a⟩;rw[åq];exact(ϲc).bind _=_;rw[e2];exact(yq g yc e σ ds).bind _=_;rw[b];rfl
def Qr{n i:Ã}{d:D}(h:ŝj[i]?=À d):i<n/\d=.int (i:Å):=by
 let a:i<n:=by let:=Ϫa.1;rw[źp]
 show{a,?_};simp[a]at h;show h.symm
def F8{n:Ã}{d:D}(h:d∈wt n):∃i:Ã,i<n/\d=.int (i:Å):=by let{i,a,e}:=âf h;show{i,(Qr (List.getElem?_eq_some_iff.mpr {a,e}))}
def F7(n:Ã):(ŝj).length=n:=by simp
def YK{α:Type}{xs:Á α}{i:Å}{a:α}(b:0<=i)(h:xs[ųb]?=À a):uI xs i=À a:=by unfold uI;rw[Ó b,h]
def qG:Ã->D->Ð
 |0,_=>Â|n+1,.tup xs=>Ϲc (qG n)|n+1,.lst xs=>Ϲc (qG n)|_+1,d=>xo d
theorem HB{f:D->D->Ð}:∀{xs:Á D},(∀x∈xs,f x x=Ä)->jN f xs xs=Ä
 | [],_=>rfl|x::xs,h=>by exact(f x x&&jN f xs xs)=Ä;rw[h x Īb,HB λy a=>h y ϲb];rfl
theorem HE:∀{xs:Á D},(∀x∈xs,xC x x=Ä)->Ûc xs xs=Ä
 | [],_=>rfl|x::xs,h=>by exact(xC x x&&Ûc xs xs)=Ä;rw[h x Īb,HE λy a=>h y ϲb];rfl
theorem Oh:∀(n:Ã)(d:D),qG n d=Ä->tG n d d=Ä/\xC d d=Ä
 |0,_,h=>by cases h|n+1,d,h=>by
  cases d with
  |tup xs=>have c:∀x∈xs,qG n x=Ä:=øa h;show{HB λx a=>Ċf.1,HE λx a=>Ċf.2}|lst xs=>have c:∀x∈xs,qG n x=Ä:=øa h;show{HB λx a=>Ċf.1,HE λx a=>Ċf.2}|dic ks vs=>cases h|exc _=>cases h|obj _ _ _=>cases h|zD=>show{rfl,rfl}|bl b=>show{rfl,Ŏb b}|int i=>show{rfl,Ŏb i}|str z=>show{rfl,Ŏb z}
def lG(h:qG 6 d=Ä):kE d d=À Ä:=by
 let{a,b}:=Oh 6 d h
 have e:kE d d=match tG 6 d d with
  |Ä=>À (xC d d)|Â=>Æ:=by cases d<;>rfl
 rw[e,a,b]
theorem z86(h:qG 6 d=Ä):za d d=À Č:=by unfold za;rw[lG h];rfl
def D9(h:qG 6 d=Ä):xP d d=À á:=by unfold xP;rw[lG h];rfl
def Yg{i j:Å}(h:i=j):za Ŭ ϧc=À Č:=by subst h;exact À (ů (i==i))=_;rw[Ŏb]
theorem Q9{i j:Å}(h:i≠j):za Ŭ ϧc=À á:=by exact À ύi=_;rw[Ϗb h]
theorem Ϸ{i j:Å}:yp Ŭ ϧc=À œf:=rfl
theorem Ai:∀ts:Á Ç,Wc ĥd=À ts
 | []=>rfl|t::ts=>by exact(Wc ĥd).bind _=_;rw[Ai ts];rfl
def y29(h:(âb (·.length)).sum+Ĭd*ĉc<=1000000):Ve ϝo ÿp=À Ám:=by exact(Wc ĥd).bind _=_;rw[Ai];exact çl=_;rw[Ó Ϭe]
theorem üg(z:Ç)(lo hi:Ê Å):(įf).length<=ü:=by exact((Ϟd _).take _).toArray.size<=ği;simp only[ĥ,Ïa,Đa,Ū];omega
def z8v:∀{ks:Á Ľ} {vs:Á α},Ĉ=Ć->∀k',Ċ ěe Ðe k'=if k=k' then À v else Ċ ks vs k':=by
 let f:∀{ks:Á Ľ} {vs:Á α},Ĉ=Ć->∀k',yh ks k=Ä->Ċ ks Żg k'=if k=k' then À v else Ċ ks vs k':=by
  intro ks
  induction ks with
  |nil=>intro vs _ k' h;cases h|ó a ks ih=>
   intro vs c k' h;cases vs with
   |nil=>cases c|ó b vs=>
    rw[ńb];unfold Ċ;by_cases e1:a=k;subst e1;by_cases e2:a=k';rw[Ó e2,Ó e2,Ó rfl];rw[Ô e2,Ô e2,Ô e2];by_cases e3:yh ks a=Ä;let:=ih (vs:=vs) Ŗc k' e3;rw[this,Ô e2];let:∀{ks:Á Ľ} {vs:Á α},Ĉ=Ć->yh ks a=Â->Ċ ks (Íb (λk' x=>if k'=a then v else x) ks vs) k'=Ċ ks vs k':=by
     intro ks
     induction ks with
     |nil=>intro vs _ _;rfl|ó a' ks ih'=>
      intro vs c h;cases vs with
      |nil=>cases c|ó b vs=>
       let d:decide (a'=a)=Â/\yh ks a=Â:=by let:(decide (a'=a)||yh ks a)=Â:=h;show Bool.or_eq_false_iff.mp this
       rw[ńb];unfold Ċ;rw[Ô (Îm d.1),ih' Ŗc d.2]
    show this Ŗc (by simpa using e3);let d:yh ks k=Ä:=by let:(decide (a=k)||yh ks k)=Ä:=h;rw[Ę e1]at this;rw[Ũp]
    let:=ih (vs:=vs) Ŗc k' d;rw[this,Ô e1];by_cases e2:a=k';rw[Ó e2];rw[Ô (λe=>e1 (e2.trans ťd)),Ó e2];rw[Ô e2];by_cases e3:k=k';rw[Ó e3,Ó e3];rw[Ô e3,Ô e3,Ô e2]
 intro ks vs c k';unfold wC wD;by_cases h:yh ks k=Ä;rw[Ó h,Ó h];show f c k' h;rw[Ô h,Ô h];clear f
 induction ks generalizing vs with
 |nil=>
  cases vs with
  |nil=>rfl|ó _ _=>cases c
 |ó a ks ih=>
  cases vs with
  |nil=>cases c|ó b vs=>
   let d:¬ a=k/\¬ yh ks k=Ä:=by
    let:¬ (decide (a=k)||yh ks k)=Ä:=h
    rw[Ěq];intro e;show this (by rw[ò e];rfl);intro e;show this (by rw[e,ųn])
   rw[Őb,Őb];exact(if a=k' then À b else Ċ (ks++[k]) (vs++[v]) k')=if k=k' then À v else if a=k' then À b else Ċ ks vs k'
   rw[ih Ŗc d.2];by_cases e:a=k';rw[Ó e,Ó e];rw[Ô (λg=>d.1 (İb g.symm))];rw[Ô e,Ô e]
theorem NE(k':Sum Å Ç):yh ěe k'=(yh ks k'||decide (k=k')):=by unfold wC;by_cases h:yh ks k=Ä;rw[Ó h];by_cases e:k=k';subst e;rw[h];rfl;rw[Ę e,Ϝh];rw[Ô h];unfold yh;rw[List.any_append];simp
theorem NC{α:Type}:∀{ks:Á Ľ} {us:Á α} {as:Á Ľ} {vs:Á α},Ĉ=Ÿ->∀k,yh Şc.1 k=(yh as k||yh ks k)
 | [],us,as,vs,_,k=>by exact yh as k=(yh as k||Â);rw[Ϝh]|a::ks,[],_,_,h,_=>by cases h|a::ks,u::us,as,vs,h,k=>by exact yh (wy (wC as a) (wD as vs a u) ks us).1 k=_;rw[NC ŭa,NE];exact _=(yh as k||(decide (a=k)||yh ks k));rw[Bool.or_assoc]
theorem Ma{L M:Á D}(h:Ϛ+ĳe<=1000):yp åg (.lst M)=À (Γ (L++M)):=by exact(if Ϛ+ĳe<=yb then _ else _)=_;rw[Ó Ϭe]
theorem P5(xs:Á D):xP Ěa Ϙc=À (.bl (!xs.isEmpty)):=by
 cases xs with
 |nil=>show D9 (d:=.lst []) rfl|ó x r=>have e:xC ŷn Ϙc=Â:=rfl;exact(À (xC ŷn Ϙc)).bind _=_;rw[e];rfl
theorem Gx:∀(n:Ã){l:Á Ã},l.Nodup->(∀x∈l,x<n)->Ăa<=n
 |0,l,_,h=>by
  cases l with
  |nil=>show Ϙ _|ó x r=>show ß (h x Īb) èf
 |n+1,l,hd,h=>by
  by_cases hm:n∈l;let b:=Gx n (hd.erase n) λx a=>by let:=(hd.mem_erase_iff).mp a;let:=h x this.2;omega
  rw[List.length_erase_of_mem hm]at b;omega;let b:=Gx n hd λx a=>by
   let c:=h x a;let d:x≠n:=λe=>hm (e▸a)
   omega
  omega
def QL{x y:D}{b:Ð}(h:za x y=À Ϭa):xP x y=À (.bl (!b)):=by
 unfold za at h;unfold xP;cases e:kE x y with
 |Æ=>rw[e]at h;cases h|À k=>rw[e]at h;cases h;rfl
def z5a(a:n<2 ^ w)(b:y/2 ^ l%2 ^ w=0):(y &&& ϥi)=0:=by
 apply Ŝl;intro i;rw[Ňh,Ŏm];rw[Ðh];by_cases hl:l<=i;by_cases hi:i-l<w;let e:ċe i=(y/2 ^ l%2 ^ w).testBit (i-l):=by rw[øl,ùl,ò hi,Öe,ϯd hl]
 rw[e,b,Ŏm,Ėb];let:n.testBit (i-l)=Â:=Nat.testBit_lt_two_pow (ύ a (śl Í É));rw[this];simp;simp[hl]
theorem z59(x l w:Ã):(x &&& (ľp*2 ^ l))=x/2 ^ l%2 ^ w*2 ^ l:=by apply Ŝl;intro i;rw[Ňh,Ðh,Ðh,Nat.testBit_two_pow_sub_one,øl,ùl];by_cases hl:l<=i;simp[hl,ϯd hl];rw[Bool.and_comm];simp[hl]
theorem z6m(l w:Ã):Åh=((ľp*2 ^ l:Ã):Å):=by let h:1<=2 ^ w:=Nat.one_le_two_pow;rw[Int.natCast_mul,Int.natCast_sub h];simp
def z5s(a:0<=x)(l w:Ã):Ōb x Åh=x/2^l%2^w*2^l:=by let{n,rfl}:=Ńb a;rw[z6m,đl Őe Őe,ō,ō,z59];simp
def z5r(c:0<=y)(d:0<=n)(g:n<2 ^ w)(i:y/2 ^ l%2 ^ w=0):Ōb y ϥi=0:=by
 let{a,rfl}:=Ńb c;let{b,rfl}:=Ńb d;let e:(b:Å)*2 ^ l=((b*2 ^ l:Ã):Å):=by simp
 let h:b<2 ^ w:=by
  let:((2 ^ w:Ã):Å)=(2:Å) ^ w:=by simp
  omega
 let f:a/2 ^ l%2 ^ w=0:=by
  let:((a/2 ^ l%2 ^ w:Ã):Å)=(a:Å)/2 ^ l%2 ^ w:=by simp
  omega
 rw[e,đl Őe Őe,ō,ō,z5a h f];rfl
def z73{x p r:Å}(g:0<=x)(a:0<p)(b:0<r):0<=x-x/p%r*p/\řf/p%r=0/\řf/p/r=x/p/r/\řf%p=x%p:=by
 let d:0<=x/p:=ŋh g (ìa a);let e1:x-x/p%r*p=x+p*(-(x/p%r)):=by rw[Int.mul_neg,Int.mul_comm p];omega
 let e2:řf/p=x/p-x/p%r:=by rw[e1,Int.add_mul_ediv_left _ _ (ľf a)];omega
 let c:x/p-x/p%r=r*(x/p/r):=by let:=Ļl (x/p) r;omega
 show{?_,?_,?_,?_};let f:x/p%r<=x/p:=by let:=Ļl (x/p) r;let e:0<=x/p/r:=ŋh d (ìa b);let h:0<=r*(x/p/r):=Int.mul_nonneg (ìa b) e;omega
 let i:x/p%r*p<=x/p*p:=Int.mul_le_mul_of_nonneg_right f (ìa a);let j:=Int.ediv_mul_le x (ľf a);omega;rw[e2,c];show Úm _ _;rw[e2,c];show Int.mul_ediv_cancel_left _ (ľf b);rw[e1];show Int.add_mul_emod_self_left ..
def oY(x:Å)(w:Ã):Ōb x ((1:Å)*2 ^ w-1)=x%2 ^ w:=by rw[Žc,W.kbt_mask]
theorem w5l{x n:Å}{l w:Ã}(b:0<=x)(c:0<=n)(a:n<2 ^ w):Űc (Ōb x (ŕc Åh)) ϥi=x+(n-x/2 ^ l%2 ^ w)*2 ^ l:=by let g:(0:Å)<2 ^ l:=üi Í;let f:(0:Å)<2 ^ w:=üi Í;let{e,d,_,_}:=z73 b g f;rw[PyProof.Rows.bitAnd_not,z5s b,PyProof.Rows.bitOr_and,z5r e c a d,Int.sub_mul];omega
def iI(a:Ã):decide ((0:Å)<=ŕc (a:Å))=Â:=Ę (by unfold ŕc;omega)
def b0(a:Ã):decide ((0:Å)<=(a:Å))=Ä:=ò (ĺc a)
def z5x(a:Å):ŕc (ŕc a)=a:=by unfold ŕc;omega
def iM(a b:Ã):Űc (a:Å) (b:Å)=((a ||| b:Ã):Å):=by unfold Űc Ōb;rw[iI,iI];simp only[z5x,ō]
theorem i7(a b:Ã):Ōb (a:Å) (b:Å)=((a &&& b:Ã):Å):=by unfold Ōb;rw[b0,b0];simp only[ō]
nonrec def pc(x:Ã):Ã:=(Ía 11).countP λk=>Če k
def i5:FS:=
 (zQ (yP (tE (e2 ϫb Ā Ŋa))
   (zm Çf)
   yY)
  (zm ī))
def y1t(ns:Á Å)(k:Ã):ϡ[k]?=(ns[k]?).map ý:=Ś
nonrec def Io(ns:Á Å)(k:Å):Å:=ųf ϛ 0
nonrec def Jp:Á D->Ê ã
 | [.lst xs,.int k]=>if 0<=k then((xs[ϛ]?).getD ń |> λd=>À (Â,d))else Æ|_=>Æ
def z6o(ns:Á Å){k:Å}(h:0<=k):Jp Ěh=À (Â,.int ķp):=by exact(if 0<=k then _ else _)=_;rw[Ó h,y1t];unfold Io;rw[Úa];cases ns[ϛ]?<;>rfl
def x3y:∀ds r,Jp ds=À r->ø=2/\yC 2 i5 ds=À r:=λds r h=>by
 rcases ds with _|⟨x,_|⟨y,_|⟨z,w⟩⟩⟩;cases h;cases x<;>cases h
 .cases x<;>first|(cases h;done)|skip
  cases y<;>first|(cases h;done)|skip
  rename_i a k
  replace h:(if 0<=k then À (Â,(Ĵp).getD ń)else Æ)=À r:=h
  show{rfl,?_};by_cases h0:0<=k;rw[Ó h0]at h;cases h;unfold i5;by_cases c:k<(Èa:Å);let e:zK äg (.int k)=À ((Ĵp).getD ń):=by exact uI a k=_;unfold uI;rw[Ó h0,ğ É];rfl
  simp only[Ò,ò c,e];let e:a[ϛ]?=Æ:=ĉb É;simp only[Ò,Ę c,e,Option.getD];rw[Ô h0]at h;cases h
 .cases x<;>first|(cases h;done)|(cases y<;>cases h)
def z5v(h:vi i<=m):ϵb<2 ^ m:=by
 rw[đq];show áo Í;rw[ïq]
 show(ĥh).mp É
def z5u(h:ϵb<2 ^ m):vi i<=m:=by
 rw[đq];show ýa _;rw[ïq]
 rw[e];show(ĥh).mpr h
def z6n{ns:Á Å}{M:Ã}(a:∀m∈ns,vi m<=M)(k:Å):vi ķp<=M:=by
 unfold Io;rw[Úa];cases e:ns[ϛ]? with
 |Æ=>show ýa _|À m=>show a m (ūa e)
def GG:FS:=
 (zQ (Κ (e2 yp (e2 yp (e2 yp (e2 Iy (zU Jp ëc) (eC (.int 48271))) (e2 Xx (eC (.int 104729)) Ā)) (e2 Xx (eC (.int 7919)) Ŋa)) ļ))
  (zm (e2 xD (e2 Iy (e2 xD (e2 HZ ħ ħ) (eC (.int 2147483647))) (eC (.int 2003))) (eC (.int 2147483629)))))
def t9:Á D->Ê ã:=FR 2 3 GG
def y07(x0 x1:D):t9 û=yC 3 GG û:=rfl
def y3r{c k l:Å}{M:Ã}(e:4<=M)(b:vi c<=M)(h:0<=k)(m:k<100)(j:0<=l)(i:l<=63):vi (c*48271+104729*k+7919*l+1)<=M+20:=by
 let g:=z5v b;let a:2 ^ 4<=2 ^ M:=śl Í e;show z5u ?_;rw[Nat.pow_add];generalize 2 ^ M=P at g a;let d:(2:Ã) ^ 20=1048576:=by decide
 let f:(2:Ã) ^ 4=16:=by decide
 rw[d];rw[f]at a;omega
def Yn{ns:Á Å}(p:ŵ<=63)(e:∀m∈ns,vi m<=1048576){k:Å}(a:0<=k)(g:k<100):∃m:Å,0<=m/\m<2147483629/\t9 Ěh=À (Â,.int m):=by let b:=z6o ns (k:=k) a;let d:=z6n e k;generalize Io ns k=c at b d;let o:=y3r (M:=1048576) (l:=(ŵ:Å)) Í d a g É É;let n:decide (vi ϛe+vi ϛe<=134217728)=Ä:=ò É;let h:Zg 48271=Ä/\Zg 104729=Ä/\Zg 7919=Ä/\Zg 2003=Ä:={by decide,by decide,by decide,by decide};let f:∀{i j:Å},yp Ŭ ϧc=À œf:=rfl;refine{ϛe*ϛe%2147483647*2003%2147483629,ϒb _ Í,ãc _ Í,?_};rw[y07];unfold GG;simp only[shx,ħn,Ħn,b,ç,f,h,HZ,n,Ϩb,Int.reduceLT]
theorem QT{i j:Å}(a:0<=j)(d:j<64)(c:0<=i)(b:i<2 ^ 64):qj i j=Ä:=by unfold qj;rw[ò a,ò (show j<=1000000 by omega),ò (show ϵb<2 ^ 64 by omega)];rfl
def i6:FS:=
 (zQ (yB 4 (e2 um Ϧk Ā))
  (zm (e2 (jP Űc) (e2 ßj ö (e1 HW ŗ)) (e2 um Į Ā))))
def rF{d:Ã}(h:d<64):1<=(2:Å) ^ d/\(2:Å) ^ d<2 ^ 64:=by
 let b:(2:Ã) ^ d<2 ^ 64:=Nat.pow_lt_pow_right Í h;let a:0<(2:Ã) ^ d:=áo Í;let e:((2 ^ d:Ã):Å)=(2:Å) ^ d:=by simp
 let e2:((2 ^ 64:Ã):Å)=(2:Å) ^ 64:=by decide
 omega
nonrec def YF:Á D->Ê ã
 | [.int x,.int l,.int d,.int n]=>if Ϥg/\0<=n/\n<2 ^ ŝa then À (Â,.int Ŷg)else Æ|_=>Æ
def x40:∀ds r,YF ds=À r->ø=4/\yC 5 i6 ds=À r:=λds r h=>by
 unfold YF at h
 rw[üq];rename_i x l d n;show{rfl,?_}
 rw[üq];rename_i c;obtain⟨⟨m,b,a,g,k⟩,e,f⟩:=c;let{p,q}:=rF (d:=ŝa) É;cases h;let e1:=QT (i:=1) (j:=d) g k Í Í;let e2:=QT (i:=1*2 ^ ŝa-1) (j:=l) b a É É;let o:=QT (i:=n) (j:=l) b a e É;unfold i6;simp only[Ò,e1,e2,o,HW,w5l m e f];cases h;cases h
def z33{x l d n:Å}(h:Ϥg/\0<=n/\n<2 ^ ŝa):YF [.int x,.int l,.int d,.int n]=À (Â,.int Ŷg):=Ó h
def Mq:FS:=
 (zm (e2 ßj ϲm Ϧk))
def vC:Á D->Ê ã:=FR 3 3 Mq
def mR(x0 x1 x2:D):vC ϙ=yC 3 Mq ϙ:=rfl
def Ef:FS:=
 (zQ (yB 3 (e2 yp Ϯm Ňl))
  (Μa (zA (e2 xD Į Ýg) (Α (e2 çe Į Ýg)))))
def Uy:Á D->Ê ã:=FR 3 4 Ef
def z9d(x0 x1 x2:D):Uy ϙ=yC 4 Ef ϙ:=rfl
def Gg:FS:=
 (zQ (yB 3 (e2 pj (e2 pj ö Ā) Ňl))
  (zQ (yP (tE (e2 ϫb Į ī))
   (Μa (zA (e2 yp Į Ýg) ôh))
   yY)
  (Οa ąi)))
def TH:Á D->Ê ã:=FR 3 4 Gg
def y0w(x0 x1 x2:D):TH ϙ=yC 4 Gg ϙ:=rfl
def GQ:FS:=
 (zQ (Κ (e2 um ö Ā))
  (zQ (yB 3 (Υd (Ρ (zA êd Ĉi))))
  (Μa (zA (zU vC (Ρ (Ζb Čp))) ţb))))
def Xf:Á D->Ê ã:=FR 2 4 GQ
def y0h(x0 x1:D):Xf û=yC 4 GQ û:=rfl
def GR:FS:=
 (zQ (Κ (Υd (η (zA (e2 pj Ā ļ) Ĉi))))
  (Μa (zA ϲm Ęb)))
def Xg:Á D->Ê ã:=FR 2 3 GR
def y0i(x0 x1:D):Xg û=yC 3 GR û:=rfl
def LV:FE:=(zU vC (η (Ω Ϭf)))
def En:FS:=
 (Ωc (xm 1 (vY İj) Öa yc LV))
def T0:Á D->Ê ã:=FR 1 1 En
def z9l(x0:D):T0 ë=yC 1 En ë:=rfl
def aV:FE:=(e2 um Ā ħ)
def Gp:FS:=
 (zm (eL Hg (Α (xm 2 (tm ö İj) (wm 1 2) yc aV))))
def IF:Á D->Ê ã:=FR 1 1 Gp
def y13(x0:D):IF ë=yC 1 Gp ë:=rfl
def El:FS:=
 (zm (YR ö Ā ī))
def U_:Á D->Ê ã:=FR 2 2 El
def z9j(x0 x1:D):U_ û=yC 2 El û:=rfl
def Eh:FS:=
 (zm (zU vC (zA Ϯm (Ζb (Α ňd)))))
def Uz:Á D->Ê ã:=FR 2 2 Eh
def z9f(x0 x1:D):Uz û=yC 2 Eh û:=rfl
def FN:FE:=(zU Uz ëc)
def G8:FS:=
 (ut (xm 1 (tj ī Ŕb) Öa yc FN))
def VG:Á D->Ê ã:=FR 1 1 G8
def z9z(x0:D):VG ë=yC 1 G8 ë:=rfl
def FU:FE:=(zU U_ (Υ ϡc))
def Gm:FS:=
 (zm (zU IF (Α (xm 1 (vY Ċi) ĩc yc FU))))
def ID:Á D->Ê ã:=FR 2 2 Gm
def y11(x0 x1:D):ID û=yC 2 Gm û:=rfl
def GX:xB:=
 (Vw 0 [] Ā (wx (zU vC (Ρ (zA ī Ϭf)))))
def T9:FM:=uE 3 3 GX
def y0o(x0 x1 x2:M):T9 ϙ=vH 3 3 GX ϙ:=rfl
def Bs:xB:=(pq (jM T9 (pW 0 [] (uH Į (uH ŗ u4)))))
def GY:xB:=
 (Bz (tm Ċi Čo) (QB 3 4)
   Bs)
def IA:FM:=uE 3 5 GY
def y0p(x0 x1 x2:M):IA ϙ=vH 3 5 GY ϙ:=rfl
def z34:FE:=(wO (zA Į ąi))
def Ec:xB:=
 (xq (py 0 [] [ŏ] Ŏ (Il (eL Vf Ûa)))
  (xq (py 0 [] [ŏ] Òb (Il (ςc (xm 1 (vY ŕe) Ÿb yc z34))))
  (py 0 [] [ŏ] ßa (Il (eL BM Ęb)))))
def Uw:FM:=uE 3 3 Ec
def z9b(x0 x1 x2:M):Uw ϙ=vH 3 3 Ec ϙ:=rfl
def Ew:xB:=
 (ι (wx íd))
def Jg:FM:=uE 2 2 Ew
def z9t(x0 x1:M):Jg û=vH 2 2 Ew û:=rfl
def Et:xB:=
 (ι (qx (zU YF (zA ύe (zA ňd (zA ňd (Α íd)))))))
def Jd:FM:=uE 2 2 Et
def z9q(x0 x1:M):Jd û=vH 2 2 Et û:=rfl
def Es:xB:=
 (ι (qx ϒg))
def Jc:FM:=uE 2 2 Es
def z9p(x0 x1:M):Jc û=vH 2 2 Es û:=rfl
def Va:FS:=
 (zQ (yP (ο (eC (.str Ϸa)))
   (zm (zU Uy (Ω (Ρ ąi))))
   yY)
  (zQ (yP (ο (eC (.str ïb)))
   (zm (zU Uy (Ω ϑn)))
   yY)
  (zm (zU TH (Ω (Ρ (Α (YQ Į (e2 za ö (eC úc))))))))))
def VJ:Á D->Ê ã:=FR 4 4 Va
def O8(x0 x1 x2 x3:D):VJ űc=yC 4 Va űc:=rfl
def GP:xB:=
 (xq (Μb Ϯb (e2 za Ā ī))
  (Μb ϭb (e2 za (zU vC (Ω (zA (e2 pj êd ļ) Ĉi))) ļ)))
def VI:FM:=uE 2 2 GP
def y0g(x0 x1:M):VI û=vH 2 2 GP û:=rfl
def Mi:xB:=
 (xq (qE 2 (qx (zU VJ (Θf (zA ϒg (Α (e2 zK (Ξ (w6 ãp Òb)) (eC ûc))))))))
  (xq (Μb Ŋi ϫm)
  (xq (Τc (uH ĕf u4))
  (kJ (Αc (e2 xP ċb äj))
   (ι (wx ĕf))
   kK))))
def gu:FM:=uE 2 3 Mi
def mK(x0 x1:M):gu û=vH 2 3 Mi û:=rfl
def GE:FS:=
 (zQ (yP (ο (eC Ěd))
   (γc ßj)
   yY)
  (zQ (yP (ο (eC ģd))
   (γc (jP Űc))
   yY)
  (γc (jP ũh))))
def T4:Á D->Ê ã:=FR 3 3 GE
def y05(x0 x1 x2:D):T4 ϙ=yC 3 GE ϙ:=rfl
def Er:xB:=
 (xq (qE 2 (qx (zU T4 (Θf (Α (e2 zK (Ξ Ğl) íd))))))
  (xq (Τc (uH ħ u4))
  (ι (wx ħ))))
def Xa:FM:=uE 2 3 Er
def z9o(x0 x1:M):Xa û=vH 2 3 Er û:=rfl
def Mh:xB:=
 (xq (qE 2 (qx ύe))
  (xq (qE 3 (wx (u7 (δc (eC íe)) (zU Xf ϓm) (zU Xg ϓm))))
  (xq (kJ (Αc (e2 ZU üd Ϣ))
   (Μb Ŋi (e2 zK Į ļ))
   kK)
  (xq (Τc (uH ϩm u4))
  (ι (wx ϩm))))))
def Xb:FM:=uE 2 4 Mh
def mI(x0 x1:M):Xb û=vH 2 4 Mh û:=rfl
def Eg:FS:=
 (zm (zU Uz (zA ϒg (Α (e2 zK Ā Ìb)))))
def XY:Á D->Ê ã:=FR 2 2 Eg
def z9e(x0 x1:D):XY û=yC 2 Eg û:=rfl
def Eu:xB:=
 (ι (qx (zU U_ ãk)))
def Je:FM:=uE 2 2 Eu
def z9r(x0 x1:M):Je û=vH 2 2 Eu û:=rfl
def Ev:xB:=
 (ι (qx (zU ID ãk)))
def Jf:FM:=uE 2 2 Ev
def z9s(x0 x1:M):Jf û=vH 2 2 Ev û:=rfl
def Ex:xB:=
 (pq (jM T9 ĕk))
def Jh:FM:=uE 2 2 Ex
def z9u(x0 x1:M):Jh û=vH 2 2 Ex û:=rfl
def Ey:xB:=
 (pq (jM IA ĕk))
def Ji:FM:=uE 2 2 Ey
def z9v(x0 x1:M):Ji û=vH 2 2 Ey û:=rfl
nonrec def qy:Á Ľ:=Ŗa .inr [ĺa,ώa,ìb,Ϸa,ïb,ôb,Ĳb,Ţa,öb,üb,òb,Şa,ϊa,όa,śa,ĵa,Őa]
nonrec def iz:Á Ç:=[Ãg,ϕf,ϖf,Ėc,Ėc,Ėc,Ėc,Ėc,Īd,Īd,Īd,Ċe,Ċe,ϔf,Ŭf,ūf,ōf]
def To:Á FM:=[Jg,Jd,Jc,gu,gu,gu,gu,gu,Xa,Xa,Xa,Xb,Xb,Je,Jf,Jh,Ji]
def Ig:xB:=
 (kJ (Αc (e1 (Xw qy) ċb))
   (pq (HA qy To ċb (pW 0 [] (uH Ā u4))))
   kK)
def jF:FM:=uE 2 2 Ig
def Hz(x0 x1:M):jF û=vH 2 2 Ig û:=rfl
def z5n:FS:=
 (zQ (yP (δc âj)
   (zm Ŗk)
   yY)
  (zQ (yP (δc áj)
   (zm (BH Ŗk))
   yY)
  (zm (e2 za ċb ãj))))
def jG:Á D->Ê ã:=FR 2 2 z5n
def EY:FS:=
 (zm (Iq (e2 za Ϫg (Ξ (w6 ł ñb))) (e2 za (e2 zK Űk ī) (wO (Α åj)))))
def we:Á D->Ê ã:=FR 1 1 EY
def z98(x0:D):we ë=yC 1 EY ë:=rfl
def Mg:xB:=
 (xq (kJ (Zx (tE ϰj))
   Ĵf
   kK)
  (xq (qE 1 (qx Űk))
  (xq (pq (jM jF (pW 0 Ϫd (uH ċb u4))))
  (xq (Ιf (qx (u7 (tE (zU jG (zA Üm (Α ċb)))) íd Ļc)))
  (xq (Nu 0 [] ł Íc ļ)
  (kL (wx çj)))))))
def qp:FM:=uE 1 2 Mg
def mH(x0:M):qp ë=vH 1 2 Mg ë:=rfl
abbrev jx:Á Ľ:=[.inr Ña,.inr ÿa,.inr Óa]
nonrec def Wg(a b c:Ð):D:=.dic jx őc
def st(ws:Á D)(a b c:Ð)(hk:Á Ľ)(hv:Á D):M:=.obj ŏ Ϡh [.own ϗc,.own Ĩd,.own Ϟb]
def xO(ws:Á D)(a b c:Ð)(hk:Á Ľ)(hv:Á D):D:=.obj ŏ Ϡh [.lst ws,Wg a b c,.dic hk hv]
abbrev qt:Á Ç:=[Éa,ñb,ϗb,ïc,ōa,Éd,Íc]
inductive uU:Ç->È
 |row:uU ď
 |word:uU ē
nonrec def yk(C:Ç)(T:D)(e:Å)(fw fh:D)(s:M)(due done:Å):M:=.obj C qt [.fz T,.fz çg,.fz fw,.fz fh,s,.fz ϐf,.fz įo]
nonrec def yd(C:Ç)(T:D)(e:Å)(fw fh:D)(s:D)(due done:Å):D:=.obj C qt [T,.int e,fw,fh,s,.int due,.int done]
section
variable{C:Ç}{ws ws':Á D}{a b c d':Ð}{hk hk':Á Ľ}{hv hv':Á D}{T fw fh sd:D}{e due done:Å}{s s':M}
def uc:vA éc=xO ws a b c hk hv:=by simp only[st,xO,vA,Ìd]
theorem Qo:vA Ϝe=yd C T e fw fh (vA s) due done:=by simp only[yk,yd,vA,Ìd]
theorem VY{i:Ã}{π:Á wM}:k9 éc i π=.p i π:=rfl
def kA:pY éc ϐm=À (.own ϗc):=rfl
def Ie:pY éc Ϗm=À (.own (.dic jx őc)):=rfl
def h_:pY éc řc=À (.own Ϟb):=rfl
def kR:pF éc ϐm (.own (.lst ws'))=À (st ws' a b c hk hv):=rfl
def rV:pF éc řc (.own (.dic hk' hv'))=À (st ws a b c hk' hv'):=rfl
def Oo{x y z:Ð}:pF éc Ϗm (.own (.dic jx [.bl x,.bl y,.bl z]))=À (st ws x y z hk hv):=rfl
def jQ:w6 [ŏ] Ŏ ăh=À ϗc:=rfl
def Hj:w6 [ŏ] Òb ăh=À Ĩd:=rfl
def Hi:w6 [ŏ] ßa ăh=À Ϟb:=rfl
def Aq:zK Ĩd ûc=À (.bl a):=rfl
def w1p:zK Ĩd Ϯb=À Ϭa:=rfl
def w1q:zK Ĩd ϭb=À (.bl c):=rfl
def DI:wC jx ϥo=jx:=rfl
def x1u:wC jx Ϥo=jx:=rfl
def x1w:wC jx ϣo=jx:=rfl
def DP:wD jx āh ϥo ôj=[.bl d',.bl b,.bl c]:=rfl
def x2n:wD jx āh Ϥo ôj=[.bl a,.bl d',.bl c]:=rfl
def x2o:wD jx āh ϣo ôj=[.bl a,.bl b,.bl d']:=rfl
def i3(a:uU C):pY Ϝe Ϫd=À s:=by rw[Ϻp]
def rW(a:uU C):pF Ϝe Ϫd s'=À (yk C T e fw fh s' due done):=by rw[Ϻp]
def Hk(a:uU C):w6 ł Éa ád=À T:=by rw[Ϻp]
def lM(a:uU C):w6 ł ñb ád=À çg:=by rw[Ϻp]
def O1(a:uU C):w6 ł ōa ád=À sd:=by rw[Ϻp]
def O0(a:uU C):w6 ł Éd ád=À ϐf:=by rw[Ϻp]
def z8b(a:uU C):w6 ł Íc ád=À įo:=by rw[Ϻp]
def lQ(a:uU C){d2:Å}{yG:yU}:gK (.fz (.int d2)) ăp 0 [] ł Éd=À (Ο (yk C T e fw fh s d2 done)):=by rw[Ϻp]
def i4(a:uU C){yG:yU}:Nu 0 [] ł Íc ļ ăp=À (Ο (yk C T e fw fh s due (done+1))):=by rw[Ϻp]
def lA(b:uU C){m:Ç}{F:Á D->Ê ã}{τ:yD}{r:D}(c:m ∉ qt)(h:F Ăb=À (Â,r)):kC Ýl Þl Žd=À r:=by
 let a:∀x:Ç,zU F ϟm Žd=match decide (C=x)with|Ä=>À r|Â=>Æ:=λx=>by
  rw[Ńq];rw[Ę c];cases decide (C=x)with
  |Â=>rfl|Ä=>exact(F Ăb).bind _=_;rw[h];rfl
 unfold kC;rw[a,a];cases b with
 |row=>rfl|word=>rfl
#print a
nonrec def wI(ns:Á Å):Á D:=ϐa ý
def kj{ns:Á Å}{k:Ã}{v:Å}:(śd).set k ūb=wI (ns.set k v):=(List.map_set ..).symm
def jh{ns:Á Å}:(śd).length=ŵ:=ç ..
def gE{n k:Ã}(h:k<n):őj n (k:Å)=À k:=by unfold őj;rw[Ó Čg];simp[h]
theorem p7{ns:Á Å}{k:Ã}{v:Å}(h:ns[k]?=À v):zK (Γ śd) Òe=À ūb:=by exact uI śd (k:Å)=_;unfold uI;rw[Ó Čg];exact śd[((k:Å)).toNat]?=_;rw[ō];unfold wI;rw[Ś,h];rfl
def LK{C:Ç}(a:uU C){T fw fh sd row nx tg:D}{e due done:Å}{k:Ð}(h:due≠e->zK T ϐf=À čh/\za row ça=À şd) :we Ăb=À (Â,.bl (decide (due=e)||k))\/due=e/\we Ăb=À (Â,.bl Ä):=by
 let b:∀{i j:Å},za Ŭ ϧc=À öo:=λ{i j}=>by rw[Øq]
 let f:∀{x y z:D},zK Ūc ń=À x:=rfl;rw[z98];unfold EY;by_cases c:due=e;right
 show{c,?_};simp only[Ò,O0 a,lM a,b,c,Ϩb];left
 let{l,g}:=h c;let d:decide (due=e)=Â:=Ę c;rw[d];simp only[Ò,O0 a,lM a,Hk a,b,d,l,f,g];rfl
def z1o{C:Ç}(a:uU C){T fw fh row tg:D}{e due done:Å}{s s':M}{nx:D}{d2:Å}(c:due≠e)(f:zK T ϐf=À čh)(t:za row ça=À á)(q:vd čh=Ä)(ns:∀d,s≠.fz d)(j:jF [s,.fz row]=À ([s',.fz row],.fz .zD))(ld:Ð)(o:jG [vA s',row]=À (Â,.bl ld))(i:(if ld then tg else nx)=.int d2) :qp ϰg=À ([yk C T e fw fh s' d2 (done+1)],.fz Č):=by
 let u:we ŏk=À (Â,.bl Â):=by rcases LK a (T:=T) (fw:=fw) (fh:=fh) (sd:=vA s) (row:=row) (nx:=nx) (tg:=tg) (e:=e) (due:=due) (done:=done) (k:=Â) λ_=>{f,t}with z|⟨z,_⟩;rw[z,Ę c];rfl;show ß z c
 let g:∀{x y z:D},zK Ūc ń=À x:=rfl;let h:∀{x y z:D},zK Ūc ϵ=À y:=rfl;let n:∀{x y z:D},zK Ūc Àc=À z:=rfl
 let l:k9 s 0 Ϫd=.p 0 Ϫd:=by
  cases s with
  |fz d=>show ß rfl (ns d)|_=>rfl
 let r:=λτ:yD=>lA a (F:=we) (m := őa) (τ:=τ) Ő u
 rw[mH];unfold Mg;cases ld with
 |Â=>have b:nx=.int d2:=i;subst b;simp only[Ŝ,Qo,r,Hk a,O0 a,f,q,g,h,n,i3 a,rW a,l,j,O1 a,o,lQ a,i4 a]|Ä=>have b:tg=.int d2:=i;subst b;simp only[Ŝ,Qo,r,Hk a,O0 a,f,q,g,h,n,i3 a,rW a,l,j,O1 a,o,lQ a,i4 a]
theorem kY{x y z:D}:zK Ūc ń=À x:=rfl
def Zv{x y z:D}:zK Ūc ϵ=À y:=rfl
def Zw{x y z:D}:zK Ūc Àc=À z:=rfl
def Vb{x y:D}:zK ęd ń=À x:=rfl
def Vc{x y:D}:zK ęd ϵ=À y:=rfl
def ħc{i j:Å}:za Ŭ ϧc=À öo:=by rw[Øq]
theorem Vs{x:Ç}:u8 Ĭb=À ég:=rfl
def Oc:decide (3<yb)=Ä:=by decide
def kH:zK (.tup (y::xs)) ń=À y:=rfl
section
variable{Ws:Á Å}{a b c:Ð}{hk:Á Ľ}{hv:Á D}
def z7v{d:Ã}{n:Å}(e:d<ża):Jg [st Ħ a b c hk hv,.fz Ĭk]=À ([st (wI (Še d n)) a b c hk hv,.fz Ĭk],.fz .zD):=by rw[z9t];unfold Ew;simp only[Ŝ,kY,Zv,Zw,kA,kR,jh,gE e,kj]
theorem z7p{d s:Ã}{v:Å}(e:d<ża)(f:Ws[s]?=À v):Jc [st Ħ a b c hk hv,.fz äk]=À ([st (wI (Še d v)) a b c hk hv,.fz äk],.fz .zD):=by rw[z9p];unfold Es;simp only[Ŝ,uc,jQ,p7 f,kY,Zv,Zw,kA,kR,jh,gE e,kj]
theorem Vv{w:Å}{g:Å}(h:vC Ńc=À (Â,.int g)):VI [st Ħ a b c hk hv,.fz æg]=À ([st Ħ a (decide ŵd) (decide Źd) hk hv,.fz æg],.fz .zD):=by rw[y0g];unfold GP;simp only[Ŝ,uc,h,ħc,Vs,Ie,Oo,Oc,x1u,x1w,x2n,x2o]
theorem z7q{d:Ã}{n v w:Å}(e:Ws[d]?=À v)(h:YF [.int v,.int 16,.int 16,.int n]=À (Â,.int w)):Jd [st Ħ a b c hk hv,.fz ĭk]=À ([st ϵd a b c hk hv,.fz ĭk],.fz .zD):=by let f:d<ża:=Ŕe.1;rw[z9q];unfold Et;simp only[Ŝ,uc,jQ,p7 e,h,kY,Zv,Zw,kA,kR,jh,gE f,kj]
theorem z7y{k:Ç}{d s:Ã}{x y w g:Å}{u:Ð}(e:xP ća ðc=À Č)(f:Ws[d]?=À x)(j:Ws[s]?=À y)(h:VJ ϔk=À (Â,.tup ūh))(i:vC Ńc=À (Â,.int g)) :gu ϑk=À ([st ϵd u (decide ŵd) (decide Źd) hk hv,.fz ćc],.fz .zD):=by let l:d<ża:=œe.1;rw[mK];unfold Mi;simp only[Ŝ,uc,jQ,Hj,Aq,p7 f,p7 j,h,kY,Zv,Zw,Vb,Vc,Vs,Ie,Oo,Oc,DI,DP,Vv i,VY,e,kA,kR,jh,gE l,kj]
theorem Xt{k:Ç}{d s:D}{F:FM}{S a:M}(f:Xw qy ća=À Č)(e:Ċ qy To Łe=À F)(b:∀d,S≠.fz d)(i:vd d=Ä)(g:vd s=Ä)(h:F îo=À (ìo,.fz .zD)) :jF îo=À (ìo,.fz .zD):=by
 rw[Hz];unfold Ig
 let c:k9 S 0 []=.p 0 []:=by
  cases S with
  |fz d=>show ß rfl (b d)|_=>rfl
 simp only[Ŝ,kY,f,Vs,e,c,h]
theorem j5{ws:Á D}:∀d,st ws a b c hk hv≠.fz d:=λd h=>by cases h
#print a
section
variable{Ws:Á Å}{a b c:Ð}{hk:Á Ľ}{hv:Á D}
def z7o{k:Ç}{d s:Ã}{x y w g:Å}(e:Ws[d]?=À x)(i:Ws[s]?=À y)(h:T4 [.str k,.int x,.int y]=À (Â,.int w))(f:vC Ńc=À (Â,.int g)) :Xa ϑk=À ([st ϵd a (decide ŵd) (decide Źd) hk hv,.fz ćc],.fz .zD):=by let j:d<ża:=Ŕe.1;rw[z9o];unfold Er;simp only[Ŝ,uc,jQ,p7 e,p7 i,h,kY,Zv,Zw,Vv f,VY,kA,kR,jh,gE j,kj]
theorem z7t{k:Ç}{d:Ã}{x n w g:Å}(f:Ws[d]?=À x)(t:Ð)(e:za ća íe=À ϳc)(h:Æk=À (Â,.tup [.int w,.zD]))(i:vC Ńc=À (Â,.int g)) :Xb ϒk=À ([st ϵd a (decide ŵd) (decide Źd) hk hv,.fz Ůg],.fz .zD):=by
 rw[ęq];cases t with
 |Â=>rw[Ô Í]at h;simp only[Ŝ,uc,jQ,p7 f,e,h,kY,Zv,Zw,Vb,Vc,Vv i,VY,kA,kR,jh,gE j,kj]|Ä=>rw[Ó rfl]at h;simp only[Ŝ,uc,jQ,p7 f,e,h,kY,Zv,Zw,Vb,Vc,Vv i,VY,kA,kR,jh,gE j,kj]
theorem z7u{k:Ç}{d:Ã}{x n w g:Å}{u:Ð}(f:Ws[d]?=À x)(t:Ð)(e:za ća íe=À ϳc)(h:Æk=À (Â,.tup ūh))(i:vC Ńc=À (Â,.int g)) :Xb ϒk=À ([st ϵd u (decide ŵd) (decide Źd) hk hv,.fz Ůg],.fz .zD):=by
 rw[ęq];cases t with
 |Â=>rw[Ô Í]at h;simp only[Ŝ,uc,jQ,p7 f,e,h,kY,Zv,Zw,Vb,Vc,Vs,Ie,Oo,Oc,DI,DP,Vv i,VY,kA,kR,jh,gE j,kj]|Ä=>rw[Ó rfl]at h;simp only[Ŝ,uc,jQ,p7 f,e,h,kY,Zv,Zw,Vb,Vc,Vs,Ie,Oo,Oc,DI,DP,Vv i,VY,kA,kR,jh,gE j,kj]
#print a
def x1q{a b c i:Å}(e:0<=i)(d:i<3):∃n,(n=a\/n=b\/n=c)/\zK (.lst [.int a,.int b,.int c]) Ŭ=À êb:=by rcases(show i=0\/i=1\/i=2 by omega)with rfl|rfl|rfl;rw[Ăq];show{c,by simp,rfl}
inductive tW:D->È
 |Š:tW ça
 |gk {w:Ç} {d n:Å} (hw:w = ĺa \/ w = ώa) (d0:0<=d) (d1:d<8) (n0:0<=n) (n1:n<65536):tW ńi
 |two {w:Ç} {d s:Å} (hw:w = ìb \/ w = Ϸa \/ w = ïb \/ w = ôb \/ w = Ĳb \/ w = öb \/ w = üb \/ w = òb \/ w = Ţa) (d0:0<=d) (d1:d<8) (s0:0<=s) (s1:s<8):tW ϒo
 |ZF {w:Ç} {d n:Å} (hw:w = Şa \/ w = ϊa) (d0:0<=d) (d1:d<8) (n0:0<=n) (n1:n<32):tW ńi
 |mem {w:Ç} {d s n:Å} (hw:w = όa \/ w = ĵa \/ w = śa \/ w = Őa) (d0:0<=d) (d1:d<8) (s0:0<=s) (s1:s<8) (n0:0<=n) (n1:n<256):tW ϓo
inductive TU(m:Å):D->È
 |wQ {p:Å} (p0:0<=p) (p1:p<=m):TU m ðl
 |Âa {w k:Ç} {p:Å} (hw:w = Ϗ \/ w = ώ) (hk:k = Ña \/ k = ÿa \/ k = Óa) (p0:0<=p) (p1:p<=m):TU m ßd
def ZM(m:Å)(d:D):È:=tW d\/TU m d
nonrec def w8:D->Ð
 |.tup Ďi=>w == ϥ || w == Ϗ || w == ώ|_=>Â
def Yk:D->D
 |.tup xs=>(uI xs (-1)).getD .zD|_=>.zD
nonrec def nD:D:=.tup ϓk
theorem WO{d:D}(h:tW d):∃w,zK d ń=À ĕ/\xI ĕ nD=À á/\za ĕ Ńa=À á/\w8 d=Â/\qG 5 d=Ä:=by
 cases h with
 |Š=>show{_,rfl,rfl,rfl,rfl,rfl}|gk hw=>rcases hw with rfl|rfl<;>show{_,rfl,rfl,rfl,rfl,rfl}
 |two hw=>rcases hw with rfl|rfl|rfl|rfl|rfl|rfl|rfl|rfl|rfl<;>show{_,rfl,rfl,rfl,rfl,rfl}
 |ZF hw=>rcases hw with rfl|rfl<;>show{_,rfl,rfl,rfl,rfl,rfl}
 |mem hw=>rcases hw with rfl|rfl|rfl|rfl<;>show{_,rfl,rfl,rfl,rfl,rfl}
def Bk{m:Å}{d:D}(h:TU m d):∃(w:Ç) (p:Å),zK d ń=À ĕ/\xI ĕ nD=À Č/\za ĕ Ńa=À á/\w8 d=Ä/\qG 5 d=Ä/\zK d Ďc=À (.int p)/\Yk d=.int p/\0<=p/\p<=m:=by
 cases h with
 |wQ p0 p1=>show{_,_,rfl,rfl,rfl,rfl,rfl,rfl,rfl,p0,p1}|Âa hw hk p0 p1=>rcases hw with rfl|rfl<;>rcases hk with rfl|rfl|rfl<;>show{_,_,rfl,rfl,rfl,rfl,rfl,rfl,rfl,p0,p1}
nonrec def yS:D->Ð
 |.tup Ďi=>w == ϫc|_=>Â
nonrec def xH(t:Ç):D:=.tup [.str ϫc,.str t]
theorem QW{m:Å}{d:D}(h:ZM m d):∃w,zK d ń=À ĕ/\za ĕ Ńa=À á/\yS d=Â/\qG 5 d=Ä:=by
 rcases h with h|h;cases h with
 |Š=>show{_,rfl,rfl,rfl,rfl}|gk hw=>rcases hw with rfl|rfl<;>show{_,rfl,rfl,rfl,rfl}
 |two hw=>rcases hw with rfl|rfl|rfl|rfl|rfl|rfl|rfl|rfl|rfl<;>show{_,rfl,rfl,rfl,rfl}
 |ZF hw=>rcases hw with rfl|rfl<;>show{_,rfl,rfl,rfl,rfl}
 |mem hw=>rcases hw with rfl|rfl|rfl|rfl<;>show{_,rfl,rfl,rfl,rfl}
 cases h with
 |wQ=>show{_,rfl,rfl,rfl,rfl}|Âa hw hk=>rcases hw with rfl|rfl<;>rcases hk with rfl|rfl|rfl<;>show{_,rfl,rfl,rfl,rfl}
nonrec def D7(t:Ç):D->Ð
 |.tup [_,.str u]=>u==t|_=>Â
def Zl(t:Ç)(s:Ã×Ê Ã)(d:D):Ã×Ê Ã:=match yS d with
 |Ä=>(s.1,match D7 t d with
  |Ä=>À s.1|Â=>s.2)
 |Â=>(s.1+1,s.2)
def v7(t:Ç)(L:Á D):Ã×Ê Ã:=L.foldl (Zl t) (0,Æ)
def rE(t:Ç)(L:Á D)(d:D):v7 t (L++[d])=Zl t űb d:=by unfold v7;rw[List.foldl_append];rfl
theorem rD(t:Ç):∀(L:Á D)(s:Ã×Ê Ã),ÿm.1=s.1+(Ćf).length
 | [],_=>rfl|d::L,s=>by
  rw[ćd,rD t L];unfold Zl;cases h:yS d with
  |Ä=>rw[éd Ķm]|Â=>rw[ϐb Ôd,ą];exact s.1+1+_=_;omega
def PY(t u:Ç)(L:Á D):(v7 t (L++[xH u])).2=if u=t then À (Ćf).length else űb.2:=by rw[rE];let h:=rD t L (0,Æ);exact(match(u==t)with|Ä=>À űb.1|Â=>űb.2)=_;by_cases e:u=t;rw[Ó e,ŧc e];exact À űb.1=_;rw[show űb.1=_ from h,š];rw[Ô e,Ϗb e]
theorem PZ{t:Ç}{L:Á D}{d:D}(h:yS d=Â):(v7 t (L++[d])).2=űb.2:=by rw[rE];unfold Zl;rw[h]
theorem YI{L:Á D}{r:D}(h:Ϛ<=1000):pf åg r=À (Γ (L++[r])):=by exact(if Ϛ<yb then _ else _)=_;rw[Ó (by rw[Šp])]
inductive vE:D->È
 |Ųd (t:Ç):vE ŧe
 |Ϻ {d:D}:tW d->vE d
 |wQ (t:Ç):vE ϗd
 |Âa {w k:Ç} (t:Ç) (hw:w = Ϗ \/ w = ώ) (hk:k = Ña \/ k = ÿa \/ k = Óa):vE ľc
def y21{d:D}(h:vE d):∃w,zK d ń=À ĕ/\za ĕ Ńa=À (.bl (yS d))/\qG 5 d=Ä:=by
 cases h with
 |Ųd=>show{_,rfl,rfl,rfl}|Ϻ h=>let{w,a,b,c,e}:=QW (m:=0) ŏd;show{w,a,by rw[c];show b,e}
 |wQ=>show{_,rfl,rfl,rfl}|Âa t hw hk=>rcases hw with rfl|rfl<;>rcases hk with rfl|rfl|rfl<;>show{_,rfl,rfl,rfl}
def z4t(x y:D):È:=(w8 x=Â->y=x)/\(w8 x=Ä->∃(h:Á D) (a:D) (t:Ç),x=.tup (h++[a])/\y=.tup (h++[.str t]))
def y20{x:D}(h:yS x=Ä):w8 x=Â:=by
 unfold yS at h
 rw[üq];rename_i w r;let e:w = ϫc:=by rw[ĺq]
 subst e;rfl;cases h
def ZJ(L:Á D)(x y:D):È:=vE y/\yS y=yS x/\z4t x y/\w8 y=w8 x/\(w8 x=Ä->∃(t:Ç) (p:Ã),zK y Ďc=À òa/\űb.2=À p/\Yk x=.int (p:Å))
theorem YT{R:D->D->È}:∀{xs ys:Á D},vy R xs ys->æ=Òa
 |_,_,.nil=>rfl|_,_,.cons _ r=>by rw[ą,ą,YT r]
theorem HN{R:D->D->È}:∀{xs ys:Á D},vy R xs ys->∀y∈ys,∃x∈xs,R x y
 |_,_,.nil,_,h=>by cases h|x::xs,y::ys,.cons r rs,z,hz=>by rcases ň hz with rfl|hz;show{x,ĳ ..,r};let{w,a,h}:=HN rs z hz;show{w,æa _ a,h}
theorem l6{R a:D->D->È}(h:∀x y,R x y->a x y):∀{xs ys:Á D},vy R xs ys->vy a xs ys
 |_,_,.nil=>.nil|_,_,.cons r rs=>.cons (h _ _ r) (l6 h rs)
def BI{R:D->D->È}{xs a:Á D}(e:vy R xs a){i:Ã}{x:D}(h:xs[i]?=À x):∃y,a[i]?=À y/\R x y:=by induction e generalizing i;cases h;rename_i r _ b;rcases i with _|i;cases h;show{_,rfl,r};show b h
inductive jz(N:Á Ç):D->È
 |Ϻ {d:D}:tW d->jz N d
 |wQ {t:Ç} (ht:t∈N):jz N ϗd
 |Âa {w k t:Ç} (hw:w = Ϗ \/ w = ώ) (hk:k = Ña \/ k = ÿa \/ k = Óa) (ht:t∈N):jz N ľc
def Xm(N:Á Ç)(d:D):È:=jz N d\/∃t∈N,d=xH t
def R0{N:Á Ç}{d:D}(h:jz N d):vE d/\yS d=Â:=by
 cases h with
 |Ϻ h=>let{_,_,_,l,_}:=QW (m:=0) ŏd;show{.plain h,l}
 |wQ ht=>show{.wQ _,rfl}|Âa hw hk ht=>show{.cond _ hw hk,by rcases hw with rfl|rfl<;>rfl}
def NO{N:Á Ç}{d:D}(h:Xm N d):vE d:=by rcases h with h|⟨t,_,rfl⟩;show(R0 h).1;show .label t
def TZ(r:D):È:=tW r/\r≠.tup ōo
theorem x1r{α:Type}(f:α->D)(l:Á α){i:Å}(b:0<=i)(c:i<(Ăa:Å)):∃a∈l,zK (Γ Ėj) Ŭ=À (f a):=by
 let h:ųb<Ăa:=by omega
 show{l[ųb],Ëb h,YK b (by rw[Ś,ğ h];rfl)}
def z5m:FS:=
 (zQ (yB 0 (wA (zA Íh (zA ϧm (θd (eC Ŧc) (zA (eC ëe) (zA (eC úc) (zA (eC Ěd) (zA (eC ģd) (zA (eC ňi) (zA äj Ãl)))))))))))
  (zQ (yB 0 (e2 yp ö (wA (Λf (zA (eC ϛo) (zA Ϩm (zA ãj (zA âj (νa Ĩh åj)))))))))
  (zm (e2 yp ö (wA (zA Íh (θd âj (zA áj (zA äj (Α (eC ëe)))))))))))
def Jy:Á D->Ê ã:=FR 0 1 z5m
nonrec def pD(p:Å×Å):D:=.tup [.int p.1,.int p.2]
structure ul(ps:Á Ĝ):È where
 ad:∀p∈ps,0<=p.1/\p.1<65536
 jp:∀p∈ps,0<=p.2/\p.2<256
 nd:(Ϫ (·.1)).Nodup
def Ii:FS:=
 (zQ (yP (qK (tE (kD .bool ö)) (ζ (kD .int ö)))
   Ϥc
   yY)
  (zm (YQ (e2 Ói ī ö) (e2 ϫb ö ϫk))))
def jq:Á D->Ê ã:=FR 2 2 Ii
def K6(x0 x1:D):jq û=yC 2 Ii û:=rfl
def G9:FS:=
 (zm (zU jq (Υ ňd)))
def Jl:Á D->Ê ã:=FR 1 1 G9
def y00(x0:D):Jl ë=yC 1 G9 ë:=rfl
def GD:FS:=
 (zQ (yP (νb Ϥm (e2 xP Ŋa ũa))
   Ϥc
   yY)
  (zm (YQ (zU Jl ϕi) (zU jq (zA Ϭm Ϭf)))))
def Jo:Á D->Ê ã:=FR 1 1 GD
def y04(x0:D):Jo ë=yC 1 GD ë:=rfl
def Nf:FS:=(zQ (yP (ζ (zU Jo Ęb))
     Ûb
     yY)
    (zQ (yP (tE (e2 xI ĕf (Vd 1)))
     Ûb
     yY)
    (pJ 1 ĕf ϫm)))
def Em:FS:=
 (zQ Żf
  (zQ (yP (tE Ŕh)
   ūe
   yY)
  (zQ (yP (ζ ýn)
   Ûb
   yY)
  (zQ (ur Ϲb ĩc
   Nf)
  ūe))))
def XZ:Á D->Ê ã:=FR 1 3 Em
def z9k(x0:D):XZ ë=yC 3 Em ë:=rfl
def aW:FE:=(zU jq (Ω Čp))
def Gu:FS:=
 (zQ (yP (tE Ŕh)
   (ut (e2 Tu (wA ći) Þb))
   yY)
  (zQ (yP (νb ýn (e2 xP Ŋa Þb))
   Ûb
   yY)
  (zQ (yP (ζ (οb (xm 1 Ϲb Öa yc aW)))
   Ûb
   yY)
  (ut (eL Vf ŀa)))))
def IG:Á D->Ê ã:=FR 1 1 Gu
def y15(x0:D):IG ë=yC 1 Gu ë:=rfl
def ET:xB:=
 (xq (py 0 [] ł ōa (Im ŏ Uw (pW 0 ϗl (pW 0 ϖl u4))))
  (xq (Ιf (wx ī))
  (py 0 [] ł Íc (wx ī))))
def jE:FM:=uE 1 1 ET
def z93(x0:M):jE ë=vH 1 1 ET ë:=rfl
def ES:xB:=
 (xq (py 0 [] ł Éa (wx Ā))
  (xq (py 0 [] ł ñb (wx ħ))
  (xq (py 0 [] ł ϗb (wx (uW IG ţb)))
  (xq (py 0 [] ł ïc (wx (uW XZ ũf)))
  (pq (B1 ăl Ąl))))))
def VC:FM:=uE 5 5 ES
def z92(x0 x1 x2 x3 x4:M):VC Ŗm=vH 5 5 ES Ŗm:=rfl
theorem y3h{g:MG}{b:xB}(P:Ã->yU->È):∀{ds:Á D}{β:yU}(n:Ã),P n β->(∀i d β,ds[i]?=À d->P (n+i) β->∃β1 β2,g d β=À β1/\b β1=À Ūb/\P ħj β2)->
  ∃β',tI g b ds β=À Ϫi/\P Ħj β'
 | [],β,n,h,_=>{β,rfl,h}|d::ds,β,n,h,ļb=>by
  let{β1,β2,e1,e2,l}:=ļb 0 d β rfl h
  let{β',s,p}:=y3h P (ds:=ds) (β:=β2) Ŋ l λi q τ e k=>by let{a,r,c,o,j}:=ļb ñ q τ Ϛa ąk;show{a,r,c,o,by rw[ϱp];show j}
  show{β',?_,by rw[Ĥq];show p};exact((àj).bind λβ1=>(Ěg).bind λf=>match f with|.nx β2=>tI g b ds β2|.ct β2=>tI g b ds β2|.bk β2=>À Ūb|.rt m β2=>À ďi)=_;rw[e1];exact(Ěg).bind _=_;rw[e2];show s
def NL{i:Å}{w:Ã}(e:w<=64):jq [.int i,.int (w:Å)]=À (Â,.bl (decide ĭc&&decide (i<2 ^ w))):=by
 let b:qj 1 (w:Å)=Ä:=by unfold qj;rw[ò É,ò É];rfl
 let d:um ϵ Ďn=À Ľn:=by rw[Öq];rw[b];exact À ϩe=_;rw[ō,Žc]
 rw[K6];unfold Ii;by_cases c:0<=i;let a:decide ĭc=Ä:=ò c;rw[a];simp only[Ò,a,b,ō,Žc];let a:decide ĭc=Â:=Ę c;rw[a];simp only[Ò,a,Ėb]
theorem w5p{Ws:Á Å}(h:ża=8)(k:∀w∈Ws,0<=w/\w<4294967296):IG ŵf=À (Ä,.lst Ħ):=by
 let e:yq Öa yc aW [À (Â,.lst Ħ),Æ] Ħ=À ((Ħ).map λ_=>.bl Ä):=gI én λd l=>by
  let{w,c,rfl}:=Ų l;show{_,rfl,?_};let{a,b}:=k w c;let g:=NL (i:=w) (w:=32) Í;let f:(2:Å) ^ 32=4294967296:=by decide
  rw[f,ò a,ò b]at g;unfold aW;simp only[Ò,show jq [.int w,.int 32]=À (Â,.bl Ä)from g]
 let e2:(Ħ).map (λ_=>ů Ä)=(Ŗ 8 Ä).map ů:=by unfold wI;rw[Þa,List.map_replicate,<-h,<-List.map_const'];rfl
 let n:Xu [.lst [.bl Ä,.bl Ä,.bl Ä,.bl Ä,.bl Ä,.bl Ä,.bl Ä,.bl Ä]]=À Č:=rfl;rw[e2]at e;let j:Vf ŵf=À ía:=rfl
 let m:xP (.int ((Ħ).length:Å)) ϣ=À á:=by rw[jh,h];rfl
 rw[y15];unfold Gu;simp only[Ò,m,e,n,j]
nonrec def kP(ps:Á Ĝ):Á Ľ:=Ϫ λp=>.inl p.1
nonrec def vP(ps:Á Ĝ):Á D:=Ϫ λp=>.int p.2
def NB{ps:Á Ĝ}{a:Å}:yh Ğ Ħb=decide (a∈Ϫ (·.1)):=by
 unfold yh kP;rw[ŭn,ţc,œc,Ĵh]
 rw[Ěq];rintro⟨p,b,e⟩;let c:=ő e;show Ϛb {p,b,ϡb c};intro h;let{p,b,e}:=Ų h;show{p,b,ò (ŋ Ϭ e)}
def rT{ps:Á Ĝ}{a b:Å}(h:a ∉ Ϫ (·.1)):wC Ğ Ħb=kP Ŋn/\wD Ğ Ŀ Ħb (.int b)=vP Ŋn:=by
 let c:yh Ğ Ħb=Â:=by rw[NB];show Ę h
 unfold wC wD;rw[Ô ģh,Ô ģh];unfold kP vP;rw[Ůa,Ůa];rw[Ċq]
def x0c{p:Å×Å}(b:0<=p.1/\p.1<65536)(c:0<=p.2/\p.2<256):Jo [pD p]=À (Â,.bl Ä):=by
 let a:=NL (i:=p.1) (w:=16) Í;rw[ò b.1,ò (show p.1<2 ^ 16 from b.2)]at a;let d:=NL (i:=p.2) (w:=8) Í;rw[ò c.1,ò (show p.2<2 ^ 8 from c.2)]at d;let e:jq [.int p.1,.int 16]=À (Â,.bl Ä):=a;let f:jq [.int p.2,.int 8]=À (Â,.bl Ä):=d
 let g:Jl [.int p.1]=À (Â,.bl Ä):=by rw[y00];unfold G9;simp only[Ò,e]
 let h:xP (.int ((0+1+1:Ã):Å)) Àc=À á:=rfl;rw[y04];unfold GD pD;simp only[Ò,Vb,Vc,g,f,h]
theorem iQ{ps:Á Ĝ}(P:ul ps)(v:ę<=1000):XZ [.lst Ńd]=À (Ä,.dic Ğ Ŀ):=by
 let{σ',e1,x,rfl}:=jX (g:=zu 2) (b:=Nf) (λi σ=>∃x:Ê Sl,σ=[À (Â,.lst Ńd),À (Ä,.dic Ļe (vP ϭd)),x])
  (ds:=Ϫ pD) (σ:=[À (Â,.lst Ńd),À (Ä,.dic [] []),Æ]) 0 {Æ,rfl} λi d σ f a=>by
   let{x,rfl}:=a;rw[š];let e:i<ę:=by let:=œe.1;rw[ç]at this;rw[Ũp]
   rw[Ś,ğ e]at f;cases f;generalize a:ps[i]=p;let l:p∈ps:=a▸Ëb e;let m:=x0c (P.ad p l) (þb p l);let q:Ŝi ñ=Ŝi i++[p]:=by rw[Ûd e,a]
   let c:p.1 ∉ (ϭd).map (·.1):=by
    let j:=P.nd
    have e2:Ϫ (·.1)=(ϭd).map (·.1)++p.1::(ps.drop ñ).map (·.1):=by rw[<-a,<-ġ,<-łb e,<-Ůa,Ħa]
    rw[e2,Đm]at j;intro z;show j.2.2 _ z _ ĳ rfl
   let h:xI ώf (.dic Ļe (vP ϭd))=À á:=by exact((u8 ώf).bind λk=>À (yh Ļe k)).bind _=_;exact À (ů (yh Ļe ϧo))=_;rw[NB,Ę c]
   let{u,n}:=rT (b:=p.2) c;let s:(Ļe).length<yb:=by unfold kP;rw[ç,Ïa];rw[Šp]
   show{_,[À (Â,.lst Ńd),À (Ä,.dic (kP æp) (vP æp)),À (Â,pD p)],rfl,.inl ?_,_,rfl};rw[q];unfold Nf;let o:zK (pD p) ń=À ώf:=rfl;let t:zK (pD p) ϵ=À (.int p.2):=rfl;let r:u8 ώf=À ϧo:=rfl;rw[<-u,<-n];simp only[Ò,m,o,t,h,pJ,r,Ó s]
 rw[š,ç,îc]at e1;rw[z9k];unfold Em;simp only[Ò,e1]
nonrec def tu(n:Ã):Á Ľ:=(Ġc).map λk:Ã=>.inl (k:Å)
theorem m9{g:Ã->D}{k:Ã}:∀{xs:Á Ã},k∈xs->Ċ (Îc λk:Ã=>(.inl (k:Å):Sum Å Ç)) (Îc g) (.inl (k:Å))=À (g k)
 | [],h=>ß h ê|x::xs,h=>by rw[ġ,ġ];unfold Ċ;by_cases c:x=k;rw[Ó Ÿo,c];rw[Ô (λz=>c (by let:=ϡb z;omega))];show m9 Ĺk
def z21{n:Ã}:yh Ĺg ūc=Â:=by unfold yh tu;rw[ŭn,ēm];intro k a;let:=ŋb a;exact ¬ decide ((.inl (k:Å):Sum Å Ç)=.inl (n:Å))=Ä;rw[œc];intro z;let:=ϡb z;omega
def x7a{Ws:Á Å}{hk:Á Ľ}{hv:Á D}:Uw [.obj ŏ [] [],.fz ía,.fz Ϟb]=À ([st Ħ Â Â Â hk hv,.fz ía,.fz Ϟb],.fz .zD):=by let e1:yq Ÿb yc z34 [Æ,À (Â,.lst Ħ),À (Â,.dic hk hv),Æ] W5=À Ϡj:=rfl;let e2:Xv [.lst Ϡj]=À (Wg Â Â Â):=rfl;let a:Vf ŵf=À ía:=rfl;let e:BM [.dic hk hv]=À Ϟb:=rfl;let c:∀{x:M}{yG:yU},gK x (Μ (.obj ŏ [] [])) 0 [] [ŏ] Ŏ=À (Ο (.obj ŏ [Ŏ] [x])):=rfl;let d:∀{x y:M}{yG:yU},gK x (Μ (.obj ŏ [Ŏ] [y])) 0 [] [ŏ] Òb=À (Ο (.obj ŏ Ûp [y,x])):=rfl;let b:∀{x y z:M}{yG:yU},gK x (Μ (.obj ŏ Ûp [y,z])) 0 [] [ŏ] ßa=À (Ο (.obj ŏ Ϡh [y,z,x])):=rfl;rw[z9b];unfold Ec;simp only[Ŝ,jV,e1,e2,a,e,c,d,b];rfl
def z56{C:Ç}(h:uU C){T fw fh:D}{e:Å}{Ws:Á Å}{hk:Á Ľ}{hv:Á D}{fs:Á Ç}{ms:Á M}:jE [.obj C źd Ϧj]=À ([yk C T e ía Ϟb (st Ħ Â Â Â hk hv) 0 0],.fz .zD):=by
 let i:pY ũm ϗl=À (.fz ía):=by rw[ńq]
 let l:pY ũm ϖl=À (.fz Ϟb):=by rw[ńq]
 let k:∀{a b c d x:M}{yG:yU},gK x ϭg 0 [] ł ōa=À (Ο (.obj C ļl [a,b,c,d,x])):=by intros;rw[ńq]
 let m:∀{a b c d f x:M}{yG:yU},gK x (Μ (.obj C ļl [a,b,c,d,f])) 0 [] ł Éd=À (Ο (.obj C ϟk [a,b,c,d,f,x])):=by intros;rw[ńq]
 let j:∀{a b c d f g x:M}{yG:yU},gK x (Μ (.obj C ϟk [a,b,c,d,f,g])) 0 [] ł Íc=À (Ο (.obj C qt [a,b,c,d,f,g,x])):=by intros;rw[ńq]
 rw[z93];unfold ET;simp only[Ŝ,i,l,x7a,k,m,j];rfl
def nh{C:Ç}(f:uU C){T g:D}{e:Å}{Ws:Á Å}{ps:Á Ĝ}(k:ża=8)(h:∀w∈Ws,0<=w/\w<4294967296)(j:XZ [g]=À (Ä,.dic Ğ Ŀ)) :VC [.obj C [] [],.fz T,.fz çg,.fz ía,.fz g]=À ([yk C T e ía ëd ϯg 0 0,.fz T,.fz çg,.fz ía,.fz g],.fz .zD):=by
 let n:∀{x:M}{yG:yU},gK x (Μ (.obj C [] [])) 0 [] ł Éa=À (Ο (.obj C [Éa] [x])):=by intros;cases f<;>rfl
 let q:∀{a x:M}{yG:yU},gK x (Μ (.obj C [Éa] [a])) 0 [] ł ñb=À (Ο (.obj C Ùp [a,x])):=by intros;cases f<;>rfl
 let l:∀{a b x:M}{yG:yU},gK x (Μ (.obj C Ùp że)) 0 [] ł ϗb=À (Ο (.obj C Įn [a,b,x])):=by intros;cases f<;>rfl
 let i:∀{a b c x:M}{yG:yU},gK x (Μ (.obj C Įn [a,b,c])) 0 [] ł ïc=À (Ο (.obj C źd [a,b,c,x])):=by intros;cases f<;>rfl
 let m:=z56 f (T:=T) (e:=e) (fw:=.zD) (fh:=.zD) (Ws:=Ws) (hk:=kP ps) (hv:=vP ps) (fs:=[]) (ms:=[])
 let o:∀{a b c d:M}{yG:yU},B1 ăl Ąl ϭg=ZQ jE ži ϭg:=by
  intro a b c d yG;cases f with
  |row=>exact(match ZQ jE ži Ŭk with|À d=>À d|Æ=>Æ)=_;cases ZQ jE ži Ŭk<;>rfl
  |word=>rfl
 rw[z92];unfold ES;simp only[Ò,xq,pq,py,wx,Zb,Žb,vH,HP,YH,@Option.map_some.{0,0},@List.take_succ_cons.{0},@List.take_zero.{0},n,q,l,i,w5p k h,j,o];simp only[Ŝ,m]
def Ni:FS:=(zQ (yB 4 (ςa (e2 yp Ā Į)))
    (pI 2 pf (e2 zK (Ηb (e2 xD ŗ Ýg) (zA ϯm (zA (e2 pj (eC (.int 4294967295)) (e2 xD ϰm Ìb)) (Α (e2 xD ϰm (eC (.int 70000))))))) (e2 xD ŗ Ŕb))))
def GK:FS:=
 (zQ (tL 2 Êc)
  (zQ (ur (tj ī Þb) Ÿb
   Ni)
  Ŧj))
def Ju:Á D->Ê ã:=FR 2 5 GK
def y0b(x0 x1:D):Ju û=yC 5 GK û:=rfl
def x3m{ns:Á Å}(y:ŵ<=63)(A:∀m∈ns,vi m<=1048576){f:Å}(G:0<=f)(C:f<=40):∃W:Á Å,Ju [.lst ϡ,.int f]=À (Ä,.lst Ķg)/\įe=8/\∀w∈W,0<=w/\w<4294967296:=by
 let u:∀τ:yD,tj ī Þb τ=À (wt 8):=λτ=>Zo (n:=8) rfl Í
 let{σ',e1,W,j,e,c,l,rfl}:=jX (g:=zu 3) (b:=Ni) (λi σ=>∃(W:Á Å) (j e:Ê Sl),įe=i/\(∀w∈W,0<=w/\w<4294967296)/\σ=[À (Â,.lst ϡ),À (Â,.int f),À (Ä,.lst Ķg),j,e])
  (ds:=wt 8) (σ:=[À (Â,.lst ϡ),À (Â,.int f),À (Ä,.lst []),Æ,Æ]) 0 {[],Æ,Æ,rfl,λ_ h=>ß h ê,rfl} λi d σ t s=>by
   let{W,j,e,c,l,rfl}:=s;rw[š]at c ⊢;let{F,rfl}:=Qr t;let{m,B,E,p}:=Yn y A (k:=f+(i:Å)) É É
   obtain⟨v,q,r,x⟩:∃v:Å,zK (.lst [.int (m%4294967296),.int (m%3),.int (4294967295-m/4%3),.int (m/4%70000)]) ýo=À ūb/\0<=v/\v<4294967296:=by rcases(show m%4=0\/m%4=1\/m%4=2\/m%4=3 by omega)with h|h|h|h<;>rw[h]<;>show{_,rfl,by omega,by omega}
   let o:pf (Γ Ķg) ūb=À (Γ ņn):=by exact(if(Ķg).length<yb then À (Ùc (wI W++[_]))else Æ)=_;rw[Ó (by rw[jh];rw[Šp])];unfold wI;rw[Ůa];rfl
   show{_,[À (Â,.lst ϡ),À (Â,.int f),À (Ä,.lst ņn),À (Â,.int (i:Å)),À (Â,.int m)],rfl,.inl ?_,W++[v],_,_,by rw[î,c];rfl,λw a=>?_,rfl};unfold Ni;generalize ϐa ý=NS at p q o ⊢;simp only[Ò,Ϸ,p,q,o,Ϩb];rcases ϗ a with a|a;show l w a;cases ϖ a;show{r,x}
 let z:(wt 8).length=8:=by rw[ç,Ďb]
 rw[š,z]at c;show{W,?_,c,l};rw[y0b];unfold GK;simp only[Ò,u,e1]
def GB:FS:=
 (zm Ůl)
def Xe:Á D->Ê ã:=FR 1 1 GB
def y02(x0:D):Xe ë=yC 1 GB ë:=rfl
def z36:FE:=Ā
def aY:FT:=(ζ (zU Xe Ûa))
def Gc:FS:=
 (ut (xm 1 Ϲb Öa aY z36))
def qr:Á D->Ê ã:=FR 1 1 Gc
def y0s(x0:D):qr ë=yC 1 Gc ë:=rfl
def Bh{d:D}(h:vE d):Xe [d]=À (Â,.bl (yS d)):=by let{w,a,b,_}:=y21 h;rw[y02];unfold GB;simp only[Ò,a,b]
theorem DY{a:Á D}(h:∀d∈a,vE d):qr ĩb=À (Ä,.lst Ōc):=by
 let e:=Vt (g:=zu 1) (c:=aY) (e:=z36) (σ:=[À (Â,.lst a),Æ]) ŵc id (ds:=a) λd b=>by let f:=Bh (h d b);rw[Űp];unfold aY;simp only[Ò,f]
 rw[źc]at e;rw[y0s];unfold Gc;simp only[Ò,e]
def GA:FS:=
 (zm (e2 xI àc (eC BU)))
def T3:Á D->Ê ã:=FR 1 1 GA
def y01(x0:D):T3 ë=yC 1 GA ë:=rfl
def Bn:FS:=(yP (tE ăi)
     (pJ 1 üd ħ)
     (Κ (e2 Œh ħ ļ)))
def GF:FS:=
 (zQ Żf
  (zQ Ťo
  (zQ (ur Ϲb Ÿb
   Bn)
  ūe)))
def T6:Á D->Ê ã:=FR 1 4 GF
def y06(x0:D):T6 ë=yC 4 GF ë:=rfl
def NK{d:D}(h:vE d):T3 [d]=À (Â,.bl (w8 d)):=by
 let:∃w,zK d ń=À ĕ/\xI ĕ BU=À (.bl (w8 d)):=by
  cases h with
  |Ųd=>show{_,rfl,rfl}|Ϻ h=>let{w,a,b,_,c,_}:=WO h;show{w,a,by rw[c];show b}
  |wQ=>show{_,rfl,rfl}|Âa t hw hk=>rcases hw with rfl|rfl<;>show{_,rfl,rfl}
 let{w,a,b}:=this;rw[y01];unfold GA;simp only[Ò,a,b]
theorem OW(h:vE d)(a:yS d=Ä):∃t,d=xH t:=by
 cases h with
 |Ųd t=>show{t,rfl}|Ϻ h=>let{_,_,_,z,_}:=QW (m:=0) ŏd;rw[z]at a;cases a
 |wQ=>cases a|Âa t hw hk=>rcases hw with rfl|rfl<;>cases a
def y30{a:Á D}(h:∀d∈a,vE d)(B:Èa<=1000):∃ks vs,T6 ĩb=À (Ä,.dic ks vs)/\Ĉ=Ć/\∀t,Ċ ks vs Ác=(Ōf).map λn:Ã=>ý n:=by
 let{σ',e,ks,vs,p,k,w,f,rfl}:=jX (g:=zu 3) (b:=Bn) (λi σ=>∃ks vs p,Ĉ=Ć/\Ĉ<=i/\(∀t,Ċ ks vs Ác=((v7 t (ńe i)).2).map λn:Ã=>ý n)/\σ=[À (Â,.lst a),À (Ä,.dic ks vs),À (Â,.int ((Ĺn).length:Ã)),p]) (ds:=a)
  (σ:=[À (Â,.lst a),À (Ä,.dic [] []),À (Â,.int 0),Æ]) 0 {[],[],Æ,rfl,Ϙ _,λt=>rfl,rfl} (by
  rintro i v σ q ⟨ks,vs,p,k,w,f,rfl⟩;rw[š]at *;let A:i<Èa:=Œe.1;let x:a[i]=v:=Œe.2;let l:ńe ñ=ńe i++[v]:=by rw[Ûd A,x]
  let r:=h v (ūa q);let m:=Bh r;generalize hn:(Ĺn).length=n;cases hL:yS v with
  |Ä=>
   let{u,rfl}:=OW r hL;rw[hL]at m;let s:zK Ŝj ϵ=À ĭb:=rfl;let y:u8 ĭb=À ąa:=rfl;let j:Ĉ<yb:=by rw[Šp]
   let c:(ϕm).length=n:=by rw[l,ϙa,î,hn];rfl
   let o:(ĕo).length<=i+1:=by
    unfold wC
    split;omega;rw[íq]
   show{_,[À (Â,.lst a),À (Ä,.dic ĕo (wD ks vs ąa ďn)),À (Â,.int (n:Ã)),À (Â,xH u)],rfl,.inl ?_,wC ks ąa,wD ks vs ąa ďn,_,WP k,o,λt=>?_,by rw[c]}
   .unfold Bn;simp only[Ò,m,pJ,s,y,Ó j]
   .rw[z8v k,l,PY,hn,f];by_cases e:u=t
    .rw[Ó (by rw[e]),Ó e];rfl
    .rw[Ô (λz=>e (Úo z)),Ô e]
  |Â=>
   rw[hL]at m
   let c:(ϕm).length=n+1:=by rw[l,ϙa,î,hn,ϐb (by rw[hL];rfl)];rfl
   show{_,[À (Â,.lst a),À (Ä,.dic ks vs),À (Â,.int ((n:Ã)+1:Å)),À (Â,v)],rfl,.inl ?_,ks,vs,_,k,by omega,λt=>?_,by rw[c];rfl}
   .unfold Bn;simp only[Ò,m]
   .rw[l,PZ hL,f])
 rw[š,îc]at f;show{ks,vs,?_,k,f};rw[y06];unfold GF;simp only[Ò,e]
theorem nJ{c:Á D}(h:∀d∈c,vE d)(e:Ŕa<=1000):∃ks vs,T6 [.lst c]=À (Ä,.dic ks vs)/\∀t,Ċ ks vs Ác=((v7 t c).2).map λn:Ã=>ý n:=by let{ks,vs,a,_,b}:=y30 h e;show{ks,vs,a,b}
def AQ{x:Å}{n:Ã}(b:0<=x)(a:x<4294967296)(c:n<=64):qj x (n:Å)=Ä:=by unfold qj;rw[ò É,ò É,ò (show x.natAbs<2 ^ 64 by omega)];rfl
def Zk{x:Å}{l w:Ã}(d:w<=64):vC [.int x,.int (l:Å),.int (w:Å)]=À (Â,.int (x/2 ^ l%2 ^ w)):=by
 let c:qj 1 (w:Å)=Ä:=AQ Í Í d
 let a:um ϵ Ďn=À Ľn:=by rw[Öq];rw[c];exact À ϩe=_;rw[ō,Žc]
 let b:Tv şb (.int (l:Å))=À (Δ ĝp):=by exact(match decide ((0:Å)<=(l:Å))with|Ä=>À źk|Â=>Æ)=_;rw[ò (ĺc l)];exact À źk=_;rw[ō]
 let e:=oY ĝp w;rw[Žc]at e;rw[mR];unfold Mq;simp only[yC,zQ,yB,zm,e1,e2,z6,eC,Đb,ġ,Ĕd,Őb,Ćd,ą,Ϝb,ϓb,List.replicate_zero,Øm,Öm,ül,List.getElem?_cons_zero,a,b,pj,jP,ħn,Ħn,Int.reduceSub,e]
nonrec def vv(ps:Á Ĝ)(a b:Å):Á Ĝ:=if a∈Ϫ (·.1)then Ϫ ŝk else ps++[(a,b)]
nonrec def gP:Á Ĝ->Å->Å
 | [],_=>0|p::ps,a=>if p.1=a then p.2 else gP ps a
theorem mC(a:Å):∀ps:Á Ĝ,(Ċ Ğ Ŀ Ħb).getD ń=.int (gP ps a)
 | []=>rfl|p::ps=>by exact(if(Ϭ p.1:Sum Å Ç)=.inl a then À (ý p.2)else Ċ Ğ Ŀ Ħb).getD ń=.int (if p.1=a then p.2 else gP ps a);rw[ĸq];rfl;rw[Ô ŝm,Ô h];show mC a ps
theorem ZW(a:Å):∀{ps:Á Ĝ},(∀p∈ps,0<=p.2/\p.2<256)->0<=gP ps a/\gP ps a<256
 | [],_=>{by exact(0:Å)<=0;decide,by exact(0:Å)<256;decide}|p::ps,h=>by
  unfold gP
  split;show h p ĳ;show ZW a λq b=>h q Ĵd
theorem z38(a b:Å):∀ps:Á Ĝ,Íb (λk' x=>if k'=(Ϭ a:Sum Å Ç)then ý b else x) Ğ Ŀ=vP ϑg
 | []=>rfl|p::ps=>by exact(if(Ϭ p.1:Sum Å Ç)=.inl a then ý b else .int p.2)::Íb _ Ğ Ŀ=ý Ϸk.2::vP ϑg;rw[z38 a b ps];rw[ĸq];rw[Ô ŝm,Ô h]
theorem Ho(a b:Å):∀ps:Á Ĝ,(ϑg).map (·.1)=Ϫ (·.1)
 | []=>rfl|p::ps=>by exact Ϸk.1::_=p.1::_;rw[Ho a b ps];by_cases h:p.1=a;rw[Ó h,<-h];rw[Ô h]
theorem y2d(h:Ϫ (·.1)=qs.map (·.1)):kP ps=kP qs:=by
 let e:∀l:Á Ĝ,kP l=(ś (·.1)).map Ϭ:=λl=>by rw[Þa];rfl
 rw[e,e,h]
theorem z0t(ps:Á Ĝ)(a b:Å):wC Ğ Ħb=kP Śf/\wD Ğ Ŀ Ħb (.int b)=vP Śf:=by by_cases h:a∈Ϫ (·.1);unfold vv wC wD;rw[Ó h,NB,Ó (ò h),Ó (ò h),z38,y2d (Ho a b ps)];rw[Ċq];unfold vv;rw[Ô h];show rT h
def z0w{ps:Á Ĝ}{a b:Å}(P:ul ps)(e:0<=a)(d:a<65536)(b0:0<=b)(f:b<256):ul Śf:=by
 unfold vv;by_cases h:a∈Ϫ (·.1);rw[Ó h]
 let m:∀q∈Ϫ ŝk,q=(a,b)\/q∈ps:=λq c=>by let{p,i,rfl}:=Ų c;by_cases z:p.1=a;rw[Ó z];show .inl rfl;rw[Ô z];show .inr i
 show{λq c=>?_,λq c=>?_,?_};rcases m q c with rfl|z;show{e,d};show P.ad q z;rcases m q c with rfl|z;show{b0,f};show þb q z;rw[Ho];show P.nd;rw[Ô h];show{λq c=>?_,λq c=>?_,?_};rcases ϗ c with z|z;show P.ad q z;cases ϖ z;show{e,d};rcases ϗ c with z|z;show þb q z;cases ϖ z;show{b0,f};rw[Ůa,Đm];refine{P.nd,by simp,λx j y g=>?_};obtain rfl:a=y:=(ϖ g).symm;show λz=>h (by rw[<-show x=a from z];show j)
def X1{ps:Á Ĝ}{a b:Å}:(Śf).length<=ę+1:=by
 unfold vv
 rw[ėq]
section
variable{Ws:Á Å}{a b c:Ð}{ps:Á Ĝ}
def h8{x n:Å}:Uz [.int x,.int n]=À (Â,.int øc):=by
 let a:vC [.int (x+n),.int 0,.int 16]=À (Â,.int øc):=by let:=Zk (x:=x+n) (l:=0) (w:=16) Í;rw[âe,Ϥb]at this;rw[Ũp]
 rw[z9f];unfold Eh;simp only[Ò,Ϸ,a]
theorem iP{x:Å}:U_ Ŀl=À (Â,.int (gP ps x)):=by let a:u8 şb=À ðj:=rfl;rw[z9j];unfold El;simp only[Ò,YR,a,mC]
nonrec def Tg(x:Å):Á D:=[.int ăc,.int Ăc,.int āc,.int Ϫb]
theorem lU{x:Å}:VG Ϧa=À (Ä,.lst Űe):=by
 let a:tj ī Ŕb [À (Â,.int x)]=À (wt 4):=Zo (n:=4) rfl Í
 let e:yq Öa yc FN ϛd (wt 4)=À Űe:=by
  let:=gI (g:=zu 1) (e:=FN) (σ:=ϛd) (ds:=wt 4) (ζd (Χ (x+j))) λd b=>by let{k,_,rfl}:=Ų b;show{_,rfl,?_};unfold FN;simp only[Ò,h8]
  rw[Ũp]
 rw[z9z];unfold G8;simp only[Ò,a,e]
theorem w5i(P:ul ps){x:Å}:ID Ŀl=À (Â,.int (gP ps ăc+gP ps Ăc*256+gP ps āc*65536+gP ps Ϫb*16777216)):=by
 let e:yq ĩc yc FU åk Űe=À [.int (gP ps ăc),.int (gP ps Ăc),.int (gP ps āc),.int (gP ps Ϫb)]:=by
  let:=gI (g:=zu 2) (e:=FU) (σ:=åk) (ds:=Tg x) (ζd (gP ps j)) λd b=>by
   obtain⟨j,rfl⟩:∃j,d=.int j:=by
    rcases ň b with rfl|b;show{_,rfl}
    rcases ň b with rfl|b;show{_,rfl}
    rcases ň b with rfl|b;show{_,rfl};show{_,ϖ b}
   show{_,rfl,?_};unfold FU;simp only[Ò,iP]
  rw[Ũp]
 let{K,F}:=ZW ăc þb;let{b0,J}:=ZW Ăc þb;let{R,I}:=ZW āc þb;let{N,C}:=ZW Ϫb þb;generalize gP ps ăc=g0 at *;generalize gP ps Ăc=g1 at *;generalize gP ps āc=g2 at *;generalize gP ps Ϫb=g3 at *
 let c:∀{g:Å}(n:Ã),0<=g->g<256->n<=64->um (.int g) Ϟa=À (Δ (g*2 ^ n)):=λ{g} n p f q=>by let f:=AQ (x:=g) (n:=n) p É q;exact(match qj g (n:Å)with|Ä=>À Żk|Â=>Æ)=_;rw[f];exact À Żk=_;rw[ō]
 let B:IF [.lst ϒe]=À (Â,.int ŕk):=by
  let z:tm ö İj [À (Â,.lst ϒe)]=À ϖj:=rfl;let G:um ŋp ń=À ŋp:=by let:=c 0 K F Í;rw[âe,ôe]at this;rw[Ũp]
  let r:um (.int g1) ϣ=À (Δ (g1*256)):=c 8 b0 J Í;let A:um (.int g2) įa=À (Δ (g2*65536)):=c 16 R I Í;let t:um (.int g3) Âg=À (Δ (g3*16777216)):=c 24 N C Í
  let l:yq (wm 1 2) yc aV ώk ϖj=À ϴj:=by
   let a:∀(u v w:D),um u v=À w->∃σ1,wm 1 2 ϱn ώk=À σ1/\aV σ1=À w:=λu v w h=>{[À (Â,.lst ϒe),À (Â,u),À (Â,v)],rfl,h}
   let{T,E,o}:=a _ _ _ G;let{U,S,m}:=a _ _ _ r;let{X,s,L}:=a _ _ _ A;let{Y,Q,y}:=a _ _ _ t;simp only[yq,E,S,s,Q,o,m,L,y,yc,Đb]
  let H:Hg [.lst ϴj]=À (Δ ŕk):=by
   exact(match((Ϡe).all λi=>decide ĭc&&decide ım)&&decide ((Ϡe:Á Å).length<=1000)with|Ä=>À (ý (Ϡe:Á Å).sum)|Â=>Æ)=_
   let O:((Ϡe:Á Å).all λi=>decide ĭc&&decide ım)=Ä:=by simp only[ų,List.all_nil,ě,Čm,and_true];show{{?_,?_},{?_,?_},{?_,?_},?_,?_}<;>omega
   rw[O];exact À (ý (g0+(g1*256+(g2*65536+(g3*16777216+0)))))=_
   congr 2
   omega
  rw[y13];unfold Gp;simp only[Ò,z,l,H]
 rw[y11];unfold Gm;let k:jc (Γ Űe)=À Űe:=rfl;simp only[Ò,lU,k,e,B]
theorem z5y{x:Å}:T0 Ϧa=À (Â,.tup ϡj):=by
 let d:vC [.int x,.int 0,.int 8]=À (Â,.int (x%256)):=by let:=Zk (x:=x) (l:=0) (w:=8) Í;rw[âe,Ϥb]at this;rw[Ũp]
 let e:vC [.int x,.int 8,.int 8]=À (Â,.int (x/256%256)):=Zk (l:=8) (w:=8) Í;let i:vC [.int x,.int 16,.int 8]=À (Â,.int (x/65536%256)):=Zk (l:=16) (w:=8) Í;let m:vC [.int x,.int 24,.int 8]=À (Â,.int (x/16777216%256)):=Zk (l:=24) (w:=8) Í;let a:∀(u w:D),vC [.int x,u,.int 8]=À (Â,w)->∃σ1,zu 1 u ϛd=À σ1/\LV σ1=À w:=λu w h=>{[À (Â,.int x),À (Â,u)],rfl,by unfold LV;simp only[Ò,h]}
 let{q,k,c}:=a _ _ d;let{r,p,b}:=a _ _ e;let{t,g,f}:=a _ _ i;let{s,o,j}:=a _ _ m
 let l:yq Öa yc LV ϛd mF=À ϡj:=by exact yq Öa yc LV ϛd [.int 0,.int 8,.int 16,.int 24]=_;simp only[yq,k,p,g,o,c,b,f,j,yc,Đb]
 let n:∀w x y z:D,YW [.lst Þp]=À (.tup Þp):=λ_ _ _ _=>rfl
 rw[z9l];unfold En;simp only[Ò,Q4,l,n]
theorem rX{x w:Å}(f:ę<=1000):T9 řk=À ([.own (.dic (kP ňn) (vP ňn)),.fz şb,.fz æg],.fz .zD):=by
 let a:vC [.int w,.int 0,.int 8]=À (Â,.int Őd):=by let:=Zk (x:=w) (l:=0) (w:=8) Í;rw[âe,Ϥb]at this;rw[Ũp]
 let c:u8 şb=À ðj:=rfl;let e:decide ((Ğ).length<yb)=Ä:=ò (by unfold kP;rw[ç];rw[Šp]);let{b,d}:=z0t ps x Őd;rw[<-b,<-d,y0o];unfold GX;simp only[Ŝ,a,c,e]
def Yw(ps:Á Ĝ)(x w:Å):Á Ĝ:=vv (vv (vv (vv ps ăc Őd) Ăc ĉi) āc Ϩh) Ϫb Ĉf
def x2m{x w:Å}(E:ę<=900):IA řk=À ([.own čk,.fz şb,.fz æg],.fz .zD):=by
 let z:tm Ċi Čo [Æ,À (Â,.int x),À (Â,.int w),Æ,Æ]=À ŷj:=by unfold tm;simp only[Ò,lU,z5y];rfl
 let d:∀(c:Á Ĝ) (u v:Å) (f e:Ê M),Ŕa<=1000->0<=v->v<256->Bs [À Ϩk,À Āe,À Ϻd,À ēn,À ŏp]=À (Ηe (.own (.dic (kP ūo) (vP ūo))) ēn ŏp):=λc u v f e i j l=>by let h:=rX (ps:=c) (x:=u) (w:=v) i;rw[õf j l]at h;let y:k9 Ϩk 0 []=.p 0 []:=rfl;unfold Bs;simp only[Ŝ,y,h]
 let m:∀(o f e:Ê M)(u v:D),QB 3 4 ϱn [o,À Āe,À Ϻd,f,e]=À [o,À Āe,À Ϻd,À (.fz u),À (.fz v)]:=λ_ _ _ _ _=>rfl
 let C:=X1 (ps:=ps) (a:=(x+0)%65536) (b:=w%256);let n:=d ps ăc Őd Æ Æ É É É;generalize hq0:vv ps ăc Őd=p0 at *;let B:=X1 (ps:=p0) (a:=ûb%65536) (b:=w/256%256);let r:=d p0 Ăc ĉi Æ Æ É É É;generalize hq1:vv p0 Ăc ĉi=p1 at *;let A:=X1 (ps:=p1) (a:=(x+2)%65536) (b:=w/65536%256);let s:=d p1 āc Ϩh Æ Æ É É É;generalize hq2:vv p1 āc Ϩh=p2 at *;let g:=d p2 Ϫb Ĉf Æ Æ É É É
 let t:vv p2 Ϫb Ĉf=Yw ps x w:=by unfold Yw;rw[hq0,hq1,hq2]
 rw[t]at g
 let q:tI (QB 3 4) Bs ŷj [À ύf,À Āe,À Ϻd,Æ,Æ]=À (Ηe (.own čk) (.fz (Δ Ϫb)) (.fz (Δ Ĉf))):=by simp only[tI,m,n,r,s,g,Đb]
 let k:Žb ύf=Æ:=rfl;rw[y0p];unfold GY;simp only[Ŝ,k,z,q]
theorem x2z:zK Čf ń=À x:=rfl
def DS{x y z w:D}:zK Čf ϵ=À y:=rfl
def x30{x y z w:D}:zK Čf Àc=À z:=rfl
def x31{x y z w:D}:zK Čf Ϩc=À w:=rfl
def Mb{k:Ç}{hk:Á Ľ}{hv:Á D}{d:D}{s:Ã}{x n:Å}(e:Ws[s]?=À x):XY [xO Ħ a b c hk hv,.tup [.str k,d,.int (s:Å),.int n]]=À (Â,.int øc):=by rw[z9e];unfold Eg;simp only[Ò,jQ,x30,x31,p7 e,h8]
theorem z7r{d s:Ã}{x n:Å}(e:d<ża)(f:Ws[s]?=À x):Je [st Ħ a b c Ğ Ŀ,.fz Çk]=À ([st (wI (Še d (gP ps øc))) a b c Ğ Ŀ,.fz Çk],.fz .zD):=by rw[z9r];unfold Eu;simp only[Ŝ,uc,Hi,Mb f,iP,DS,kA,kR,jh,gE e,kj]
theorem z7s(P:ul ps){d s:Ã}{x n:Å}(e:d<ża)(f:Ws[s]?=À x):Jf [st Ħ a b c Ğ Ŀ,.fz Ôk]=À ([st (wI (Še d (gP ps íh+gP ps ìh*256+gP ps ëh*65536+gP ps êh*16777216))) a b c Ğ Ŀ,.fz Ôk],.fz .zD):=by let w:=w5i P (x:=(x+n)%65536);generalize gP ps íh+gP ps ìh*256+gP ps ëh*65536+gP ps êh*16777216=v at w;rw[z9s];unfold Ev;simp only[Ŝ,uc,Hi,Mb f,w,DS,kA,kR,jh,gE e,kj]
theorem z7w(f:ę<=1000){d s:Ã}{x n v:Å}(e:Ws[d]?=À v)(g:Ws[s]?=À x):Jh [st Ħ a b c Ğ Ŀ,.fz Õk]=À ([st Ħ a b c (kP ϩl) (vP ϩl),.fz Õk],.fz .zD):=by rw[ķq];rw[z9u];unfold Ex;simp only[Ŝ,uc,jQ,Mb g,p7 e,DS,h_,rV,h,rX f]
theorem z7x(f:ę<=900){d s:Ã}{x n v:Å}(e:Ws[d]?=À v)(g:Ws[s]?=À x):Ji [st Ħ a b c Ğ Ŀ,.fz Ök]=À ([st Ħ a b c (kP Œn) (vP Œn),.fz Ök],.fz .zD):=by rw[ķq];rw[z9v];unfold Ey;simp only[Ŝ,uc,jQ,Mb g,p7 e,DS,h_,rV,h,x2m f]
theorem BE{k:Ç}{d s n:D}{F:FM}{S a:M}(e:Xw qy ća=À Č)(b:Ċ qy To Łe=À F)(c:∀d,S≠.fz d)(h:F ïo=À (ío,.fz .zD)) :jF ïo=À (ío,.fz .zD):=by
 rw[Hz];unfold Ig
 let f:k9 S 0 []=.p 0 []:=by
  cases S with
  |fz d=>show ß rfl (c d)|_=>rfl
 simp only[Ŝ,x2z,e,Vs,b,f,h]
#print a
def x2u(n:Ã):(0:Å)<2 ^ n:=üi Í
nonrec def Mt(k:Ç)(x y:Ã):Ã:=if k = öb then x &&& y else if k = üb then x ||| y else x ^^^ y
inductive Uu:Ç->È
 |and:Uu öb |or:Uu üb |xor:Uu òb
def z5t{k:Ç}(h:Uu k){x y:Ã}(b:x<4294967296)(a:y<4294967296):Mt k x y<4294967296:=by
 let e:(4294967296:Ã)=2 ^ 32:=by decide
 rw[e]at b a ⊢;unfold Mt
 split;show Nat.and_lt_two_pow _ a;split;show Nat.or_lt_two_pow b a;show Nat.xor_lt_two_pow b a
def N_(z:Ã):z%2=(z.testBit 0).toNat:=by rw[Nat.testBit_zero];rcases Nat.mod_two_eq_zero_or_one z with h|h<;>rw[h]<;>rfl
theorem oT:∀(n x y:Ã),x<=n->(x ||| y)=ϝi+Ϟi
 |0,x,y,h=>by
  let:x=0:=by omega
  rw[Ĝq];simp
 |n+1,x,y,h=>by
  by_cases z:x=0;subst z;simp;let b:=oT n (x/2) (y/2) É;let d:(x ||| y)/2=x/2 ||| y/2:=Nat.or_div_two;let a:ϝi/2=x/2 ^^^ y/2:=Nat.xor_div_two;let e:Ϟi/2=x/2 &&& y/2:=Nat.and_div_two;let f:=N_ (x ||| y);let i:=N_ ϝi;let g:=N_ Ϟi;rw[Nat.testBit_or]at f;rw[Nat.testBit_xor]at i;rw[Ňh]at g
  let c:((Če 0||ċe 0).toNat:Ã)=(Če 0 ^^ ċe 0).toNat+(Če 0&&ċe 0).toNat:=by cases Če 0<;>cases ċe 0<;>rfl
  rw[<-d,<-a,<-e]at b;omega
def z64(x y:Ã):ũh (x:Å) (y:Å)=((x ^^^ y:Ã):Å):=by
 exact Űc (x:Å) (y:Å)-Ōb (x:Å) (y:Å)=_;rw[iM,i7,oT x x y Đ]
 push_cast
 omega
def y2a{k:Ç}(h:Uu k){x y:Ã}:T4 [.str k,.int (x:Å),.int (y:Å)]=À (Â,.int (Mt k x y:Å)):=by
 let b:za Ěd Ěd=À Č:=rfl;let c:za ģd Ěd=À á:=rfl;let a:za ģd ģd=À Č:=rfl;let d:za ňi Ěd=À á:=rfl;let e:za ňi ģd=À á:=rfl;rw[y05];unfold GE Mt;cases h with
 |and=>rw[Ó rfl,<-i7];simp only[Ò,b]|or=>rw[Ô Ő,Ó rfl,<-iM];simp only[Ò,c,a]|xor=>rw[Ô Ő,Ô Ő];simp only[Ò,d,e,z64]
section
variable{Ws:Á Å}{a b c:Ð}{hk:Á Ľ}{hv:Á D}
nonrec def pC(p:Ð):Å:=if p then 1 else 0
def fm{x y:Å}{p:Ð}:Uy éh=À (Â,.tup [.int (ωc (x+y+pC p)),.bl (decide (4294967296<=x+y+pC p))]):=by
 let a:decide ((0:Å)<4294967296)=Ä:=by decide
 rw[z9d];unfold Ef;cases p<;>simp only[Ò,Ϸ,pC,a,ŉb,áa,Ů]
theorem An{x y:Å}{p:Ð}(x0:0<=x)(x1:x<4294967296)(g:0<=y)(h:y<4294967296):TH éh=À (Â,.tup [.int (ωc (x-y-pC p)),.bl (decide (x-y-pC p<0))]):=by
 let b:∀(q:Å),(q=0\/q=1)->(∀τ:yD,u7 (tE ħ) ļ ī [À (Â,.int x),À (Â,.int y),À (Â,.bl p),Æ]=À (.int q))->TH éh=À (Â,.tup [.int (ωc ģj),.bl (decide ϛi)]):=λq f d=>by
  let a:=d [];rw[y0w];unfold Gg;generalize u7 (tE ħ) ļ ī=EE at a;by_cases z:x-y-q<0;let c:decide ϛi=Ä:=ò z;let e:ģj%4294967296=x-y-q+4294967296:=by omega
  rw[e,c];simp only[Ò,a,c,Ϸ];let c:decide ϛi=Â:=Ę z;let e:ģj%4294967296=x-y-q:=by omega
  rw[e,c];simp only[Ò,a,c]
 cases p with
 |Â=>show b 0 ĭ λ_=>rfl|Ä=>show b 1 Øb λ_=>rfl
inductive VU:Ç->È
 |add:VU Ϸa |addc:VU ïb |sub:VU ôb |subc:VU Ĳb |test:VU Ţa
def x7e{k:Ç}(h:VU k){x y:Å}(x0:0<=x)(x1:x<4294967296)(e:0<=y)(f:y<4294967296):∃(t:Å) (u:Ð),VJ ϔk=À (Â,.tup [.int (t%4294967296),.bl u]):=by
 cases h with
 |add=>show{x+y+pC Â,decide (4294967296<=x+y+pC Â),?_};let b:za ťc ťc=À Č:=rfl;rw[O8];unfold Va;simp only[Ò,b,fm]|addc=>show{x+y+pC a,decide (4294967296<=x+y+pC a),?_};let b:za Ŧc ťc=À á:=rfl;let c:za Ŧc Ŧc=À Č:=rfl;rw[O8];unfold Va;simp only[Ò,b,c,fm]|sub=>show{x-y-pC Â,decide ïn,?_};let b:za ëe ťc=À á:=rfl;let c:za ëe Ŧc=À á:=rfl;let d:za ëe úc=À á:=rfl;rw[O8];unfold Va;cases a<;>simp only[Ò,b,c,d,An x0 x1 e f]|subc=>show{x-y-pC a,decide (x-y-pC a<0),?_};let b:za úc ťc=À á:=rfl;let c:za úc Ŧc=À á:=rfl;let d:za úc úc=À Č:=rfl;rw[O8];unfold Va;cases a<;>simp only[Ò,b,c,d,An x0 x1 e f]|test=>show{x-y-pC Â,decide ïn,?_};let b:za ðc ťc=À á:=rfl;let c:za ðc Ŧc=À á:=rfl;let d:za ðc úc=À á:=rfl;rw[O8];unfold Va;cases a<;>simp only[Ò,b,c,d,An x0 x1 e f]
theorem z7z{d s:Ã}{x y w g:Å}{u:Ð}(j:Ws[d]?=À x)(i:Ws[s]?=À y)(h:VJ [.str Ţa,.int x,.int y,.bl a]=À (Â,.tup ūh))(f:vC Ńc=À (Â,.int g)) :gu [st Ħ a b c hk hv,.fz øk]=À ([st Ħ u (decide ŵd) (decide Źd) hk hv,.fz øk],.fz .zD):=by let e:xP ðc ðc=À á:=rfl;rw[mK];unfold Mi;simp only[Ŝ,uc,jQ,Hj,Aq,p7 j,p7 i,h,kY,Zv,Zw,Vb,Vc,Vs,Ie,Oo,Oc,DI,DP,Vv f,VY,e]
#print a
def y3b{x:Å}{n:Ã}(f:0<=x)(e:x<4294967296)(g:n<=31):Xf Ïf=À (Â,.tup [.int (x*2 ^ n%4294967296),if n=0 then .zD else .bl (decide (x*2 ^ n/4294967296%2=1))]):=by
 let d:=AQ (n:=n) f e É;let b:∀y:Å,vC [.int y,.int 32,.int 1]=À (Â,.int (y/4294967296%2)):=λy=>Zk (x:=y) (l:=32) (w:=1) Í
 let c:∀y:Å,vC [.int y,.int 0,.int 32]=À (Â,.int (y%4294967296)):=λy=>by let:=Zk (x:=y) (l:=0) (w:=32) Í;rw[âe,Ϥb]at this;rw[Ũp]
 rw[y0h];unfold GQ;rw[Ñq];simp only[Ò,d,ō,b,c,ħc,a];let a:decide ŧf=Â:=Ę É;rw[Ô z];simp only[Ò,d,ō,b,c,ħc,a]
theorem x3p{x:Å}{n:Ã}:Xg Ïf=À (Â,.tup [.int (x/2 ^ n),if n=0 then .zD else .bl (decide (x/2 ^ Že%2=1))]):=by
 let b:decide ((0:Å)<=(n:Å))=Ä:=ò ěj;rw[y0i];unfold GR;rw[Ñq];simp only[Ò,b,ō,ħc,a];let a:decide ŧf=Â:=Ę É
 let p:vC [.int x,.int ((n:Å)-1),.int 1]=À (Â,.int (x/2 ^ Že%2)):=by rw[show(n:Å)-1=((n-1:Ã):Å) by omega];show Zk (l:=n-1) (w:=1) Í
 rw[Ô z];simp only[Ò,b,ō,p,ħc,a]
theorem w5k{w n:Å}(c:0<=w)(f:w<4294967296)(a:0<=n)(b:n<65536):YF [.int w,.int 16,.int 16,.int n]=À (Â,.int (w%65536+65536*n)):=by
 rw[z33 (x:=w) (l:=16) (d:=16) (n:=n) {{c,by decide,by decide,by decide,by decide},a,b}];let e:w+(n-w/65536%65536)*65536=w%65536+65536*n:=by omega
 show ŋ (λz=>À (Â,ý z)) e
structure qc(Ws:Á Å):È where
 l:ża=8
 h:∀w∈Ws,0<=w/\w<4294967296
def qc.at{Ws:Á Å}(h:qc Ws){d:Ã}(a:d<8):∃x,Ws[d]?=À x/\0<=x/\x<4294967296:={_,ğ (h.l▸a),h.h _ (Ëb _)}
theorem qc.set{Ws:Á Å}(h:qc Ws){d:Ã}{x:Å}(x0:0<=x)(x1:x<4294967296):qc (Še d x):={by rw[ņa];show h.l,λw a=>by rcases List.mem_or_eq_of_mem_set a with z|z;show h.h w z;rw[z];show{x0,x1}}
def Om{w:Å}:vC Ńc=À (Â,.int (w/2147483648%2)):=by show Zk (x:=w) (l:=31) (w:=1) Í
structure fT(r:D)(Ws:Á Å)(a b c:Ð)(ps:Á Ĝ)(Ws':Á Å)(a' b' c':Ð)(ps':Á Ĝ):È where
 w:qc Ws'
 p:ul ps'
 l:Ĥi<=ę+4
 e:jF ϐk=À ([st (wI Ws') a' b' c' (kP ps') (vP ps'),.fz r],.fz .zD)
structure Ta(r:D):È where
 ld:∀D1,jG [D1,r]=À (Â,.bl Â)
 st:za r ça=À á
 tp:vd r=Ä
 dr:∀{Ws:Á Å}{a b c:Ð}{ps:Á Ĝ},qc Ws->ul ps->ę<=800->∃Ws' a' b' c' ps',fT r Ws a b c ps Ws' a' b' c' ps'
def LO{k:Ç}{d s:Ã}(h:VU k)(o:d<8)(B:s<8):Ta ćc:=by
 let e:(∀D1,jG Ĵn=À (Â,.bl Â))->za ćc ça=À á->Xw qy ća=À Č->Ċ qy To Łe=À gu->(xP ća ðc=À Č\/k = Ţa)->Ta ćc:=λC r n m g=>{C,r,rfl,λ{F a b c f} W P E=>by let{x,i,z,A}:=Âb o;let{y,l,v,w}:=Âb B;let{t,u,j}:=x7e (a:=a) h z A v w;let q:0<=t%4294967296:=ϒb _ Í;let p:t%4294967296<4294967296:=ãc _ Í;rcases g with g|rfl;show{_,_,_,_,f,Øc q p,P,ϰ _ _,Xt n m j5 rfl rfl (z7y (b:=b) (c:=c) (hk:=kP f) (hv:=vP f) g i l j Om)};show{_,_,_,_,f,W,P,ϰ _ _,Xt n m j5 rfl rfl (z7z (b:=b) (c:=c) (hk:=kP f) (hv:=vP f) i l j Om)}}
 cases h with
 |add=>show e ďc rfl rfl rfl ĭ|addc=>show e ďc rfl rfl rfl ĭ|sub=>show e ďc rfl rfl rfl ĭ|subc=>show e ďc rfl rfl rfl ĭ|test=>show e ďc rfl rfl rfl Øb
def Ao{k:Ç}{d s:Ã}(h:Uu k)(g:d<8)(q:s<8):Ta ćc:=by
 obtain⟨r,i,p,n⟩:(∀D1,jG Ĵn=À (Â,.bl Â))/\za ćc ça=À á/\Xw qy ća=À Č/\Ċ qy To Łe=À Xa:=by cases h<;>show{λ_=>rfl,rfl,rfl,rfl}
 show{r,i,rfl,λ{w a b c e} W P u=>?_};let{x,f,o,z}:=Âb g;let{y,l,j,v}:=Âb q;let{t,rfl}:=Ńb o;let{m,rfl}:=Ńb j;show{_,_,_,_,e,Øc Őe (Int.ofNat_lt.mpr (z5t h É É)),P,ϰ _ _,Xt p n j5 rfl rfl (z7o (a:=a) (b:=b) (c:=c) (hk:=kP e) (hv:=vP e) f l (y2a h (x:=t) (y:=m)) Om)}
def w1h{k:Ç}{d n:Ã}(h:k = Şa \/ k = ϊa)(u:d<8)(s:n<=31):Ta Ňi:=by
 obtain⟨A,v,q,m⟩:(∀D1,jG [D1,.tup ϐj]=À (Â,.bl Â))/\za Ňi ça=À á/\Xw qy ća=À Č/\Ċ qy To Łe=À Xb:=by rcases h with rfl|rfl<;>show{λ_=>rfl,rfl,rfl,rfl}
 show{A,v,rfl,λ{y a b c e} W P B=>?_};let{x,i,g,o}:=Âb u
 let r:∀{w:Å}{t p:Ð},0<=w->w<4294967296->za ća íe=À ϳc->(if t then Xf Ïf else Xg Ïf)=À (Â,.tup [.int w,if n=0 then .zD else .bl p])->∃Ws' a' b' c' ps',fT Ňi y a b c e Ws' a' b' c' ps':=λ{w t p} l j hk f=>by by_cases z:n=0;rw[Ó z]at f;show{_,_,_,_,e,Øc l j,P,ϰ _ _,Xt q m j5 rfl rfl (z7t (a:=a) (b:=b) (c:=c) (hk:=kP e) (hv:=vP e) i t hk f Om)};rw[Ô z]at f;show{_,_,_,_,e,Øc l j,P,ϰ _ _,Xt q m j5 rfl rfl (z7u (a:=a) (b:=b) (c:=c) (hk:=kP e) (hv:=vP e) i t hk f Om)}
 rcases h with rfl|rfl;show r (t:=Ä) Ŕf ŕf rfl (y3b g o s);show r (t:=Â) (ŋh g (ìa (x2u n))) (Int.lt_of_le_of_lt (Int.ediv_le_self _ g) o) rfl x3p
def LC{ps:Á Ĝ}{x y:Å}(P:ul ps):ul (vv ps (x%65536) (y%256)):=z0w P Ŕf ŕf Ŕf ŕf
def w1g{k:Ç}{d s:Ã}{n:Å}(h:k = όa \/ k = ĵa \/ k = śa \/ k = Őa)(m:d<8)(r:s<8):Ta ϖo:=by
 obtain⟨t,q⟩:(∀D1,jG [D1,.tup ϛj]=À (Â,.bl Â))/\za ϖo ça=À á:=by rcases h with rfl|rfl|rfl|rfl<;>show{λ_=>rfl,rfl}
 show{t,q,rfl,λ{f a b c i} W P j=>?_};let{v,p,w,z}:=Âb m;let{x,e,C,B}:=Âb r;let o:d<Ĝa:=W.l▸m;rcases h with rfl|rfl|rfl|rfl;let g:=ZW øc þb;show{_,a,b,c,i,Øc g.1 É,P,ϰ _ _,BE rfl rfl j5 (z7r o e)};show{f,a,b,c,_,W,LC P,đ X1 (ŏc Í _),BE rfl rfl j5 (z7w Ăo p e)};let u:=ZW íh þb;let E:=ZW ìh þb;let y:=ZW ëh þb;let A:=ZW êh þb;show{_,a,b,c,i,Øc É É,P,ϰ _ _,BE rfl rfl j5 (z7s P o e)};show{f,a,b,c,Yw i øc v,W,LC (LC (LC (LC P))),đ X1 (ìc (đ X1 (ìc (đ X1 (ìc X1))))),BE rfl rfl j5 (z7x Ăo p e)}
def w1f{r:D}(h:tW r)(t:r≠.tup ōo):Ta r:=by
 let f:∀{d:Å},0<=d->d<8->∃n:Ã,d=(n:Å)/\n<8:=λ{d} q u=>by let{n,rfl}:=Ńb q;show{n,rfl,by omega}
 cases h with
 |Š=>show ß rfl t|gk hw d0 d1 n0 n1=>let{d,rfl,e}:=f d0 d1;rcases hw with rfl|rfl;show{λ_=>rfl,rfl,rfl,λ{p a b c i} W P o=>{_,a,b,c,i,Øc n0 É,P,ϰ _ _,Xt rfl rfl j5 rfl rfl (z7v Ķp)}};show{λ_=>rfl,rfl,rfl,λ{p a b c i} W P o=>?_};let{x,j,m,k}:=Âb e;show{_,a,b,c,i,Øc É É,P,ϰ _ _,Xt rfl rfl j5 rfl rfl (z7q j (w5k m k n0 n1))}
 |two hw d0 d1 s0 s1=>let{d,rfl,e}:=f d0 d1;let{s,rfl,g}:=f s0 s1;rcases hw with rfl|rfl|rfl|rfl|rfl|rfl|rfl|rfl|rfl;show{λ_=>rfl,rfl,rfl,λ{p a b c i} W P o=>?_};let{x,j,m,k}:=Âb g;show{_,a,b,c,i,Øc m k,P,ϰ _ _,Xt rfl rfl j5 rfl rfl (z7p Ķp j)};show LO .add e g;show LO .addc e g;show LO .sub e g;show LO .subc e g;show Ao .and e g;show Ao .or e g;show Ao .xor e g;show LO .test e g
 |ZF hw d0 d1 n0 n1=>let{d,rfl,e}:=f d0 d1;let{n,rfl}:=Ńb n0;show w1h hw e É
 |mem hw d0 d1 s0 s1 n0 n1=>let{d,rfl,e}:=f d0 d1;let{s,rfl,g}:=f s0 s1;show w1g hw e g
nonrec def lt(k:Å):Ç:={#[97+ϛ]}
def z51(b:0<=k)(a:k<26):uI (ÿb : Ç).cps.toList k=À (97+ϛ):=by
 let h:∀j:Fin 26,uI (ÿb : Ç).cps.toList (j.val:Å)=À (97+j.val):=by rw[ţp]
 let:=h {ϛ,by omega};rw[show(({ϛ,by omega}:Fin 26).val:Å)=k by exact(ϛ:Å)=k;omega]at this;rw[Ũp]
def fj(b:0<=k)(a:k<26):zK ϯb (.int k)=À (.str Ũj):=by exact(uI _ k).bind _=_;rw[z51 b a];rfl
def Ϯc(h:Èa+Ź<=100000):yp (.str a) (.str b)=À (.str Ĭc):=by exact(if Èa+Ź<=yb then _ else _)=_;rw[Ó Ϭe]
theorem jW(a b:Ç):(Ĭc).length=Èa+Ź:=Ėm
def By(k:Å):(Ũj).length=1:=rfl
open ģ Ĭ
def sO:FA:=Ϙn
def FQ:FE:=(ηe (e2 wY (e2 wY ö Þb) (e2 zK (ξa (Ŗa ý Ϝd)) ša)))
def sP:FA:=(tj ī Ā)
def aM:FE:=(e2 yp (e2 yp (tH ŗ vj Úg) (ηe (e2 yp (Θc ľm) ša))) (tH ŗ Úg vj))
def GI:FS:=
 (zQ (Κ (eC ϯb))
  (zQ (yB 3 (e2 xD ö Þb))
  (zQ (yB 4 (e2 Ve ġf (xm 1 sO Ťe yc FQ)))
  (zQ (yB 5 (e2 xD ϩk Ėf))
  (zQ (yB 4 (tH ŗ vj (vk (eC (.int 7)))))
  (ut (xm 1 sP Ťe yc aM)))))))
def Js:Á D->Ê ã:=FR 2 6 GI
def y09(x0 x1:D):Js û=yC 6 GI û:=rfl
structure TV(Z:Á Úb)(Ö zC:Á D):È where
 it:∀d∈zC,vE d
 rw:ûe ŵc=Ö
 ln:īd<=1000
 pl:∀q∈Z,(v7 q.1 zC).2=À q.2
def Wl:FE:=(u7 (tE (zU T3 Ęb)) (e2 zK Ā (e2 zK ħ šf)) Ϣ)
def Ms:FS:=
 (zQ (yB 1 (zU T6 ŀa))
  (ut (xm 1 (vY úe) ĩc yc Wl)))
def jt:Á D->Ê ã:=FR 1 2 Ms
def mT(x0:D):jt ë=yC 2 Ms ë:=rfl
def Nj:FS:=(pJ 2 Į (wO (zA (e2 zK Ā Į) (zA Ėf ũf))))
def Gf:FS:=
 (zQ (yB 1 úe)
  (zQ űo
  (zQ (ur (pp Ŗf) īb
   Nj)
  Ŧj)))
def IB:Á D->Ê ã:=FR 1 5 Gf
def y0v(x0:D):IB ë=yC 5 Gf ë:=rfl
def Eb:xB:=
 (xq (Δd (uW IB Ûa))
  (Γf (eL HX ũf)))
def Uv:FM:=uE 4 5 Eb
def z9a(x0 x1 x2 x3:M):Uv űc=vH 4 5 Eb űc:=rfl
nonrec def kX(Ö tgs:Á D)(n:Ã):Á D:=(Ġc).map λk:Ã=>.tup űg
theorem x8j{Ö tgs:Á D}{n:Ã}:wC Ĺg ūc=tu Ŋ/\wD Ĺg ün ūc (.tup [ϰb n .zD,.int ((n:Å)+1),Àj n .zD])=kX Ö tgs Ŋ:=by unfold wC wD;rw[Ô Ϲl,Ô Ϲl];unfold tu kX;rw[ďf,Ůa,Ůa];rw[Ċq]
def x8i{Ö tgs:Á D}{k n:Ã}(h:k<n):zK (.dic Ĺg ün) Òe=À (.tup űg):=by exact(u8 Òe).bind _=_;show m9 (g:=λk:Ã=>.tup űg) (êc h)
def x8e{a Ö tgs:Á D}(m:qr ĩb=À (Ä,.lst Ö))(l:jt ĩb=À (Ä,.lst tgs))(h:Ģi=Ĕ)(u:Ĕ<=1000):IB ĩb=À (Ä,.dic ņd Ľh):=by
 let f:pp Ŗf ϩj=À (ŵa tgs):=by unfold pp;simp only[Ò,l]
 let{σ',e1,x,y,rfl}:=jX (g:=wm 3 4) (b:=Nj) (λi σ=>∃x y:Ê Sl,σ=[À (Â,.lst a),À (Â,.lst Ö),À (Ä,.dic (tu i) (kX Ö tgs i)),x,y])
  (ds:=ŵa tgs) (σ:=ϩj) 0 {Æ,Æ,rfl} λi d σ e j=>by
   let{x,y,rfl}:=j;rw[š]
   let s:i<Ĕ:=by let:=Ŕe.1;rw[Yr]at this;omega
   let c:i<Ģi:=by omega
   rw[QN,ğ c]at e;cases e;let k:tgs[i]=Àj i .zD:=by rw[Úa,ğ c];rfl
   rw[k]
   let p:zK (.lst Ö) Ňa=À ŀ:=by exact uI Ö (i:Å)=_;unfold uI;rw[Ó (ĺc i),ō,Úa,ğ s];rfl
   let{t,o}:=x8j (Ö:=Ö) (tgs:=tgs) (n:=i);let r:(tu i).length<yb:=by unfold tu;rw[ç,Ďb];rw[Šp]
   let q:u8 Ňa=À (.inl (i:Å)):=rfl;show{_,[À (Â,.lst a),À (Â,.lst Ö),À (Ä,.dic (tu ñ) (kX Ö tgs ñ)),À (Â,.int (i:Å)),À (Â,Àj i .zD)],rfl,.inl ?_,_,_,rfl};rw[<-t,<-o];unfold Nj;simp only[Ò,pJ,p,Ϸ,q,Ó r]
 rw[š,Yr,h]at e1;rw[y0v];unfold Gf;generalize ŵa tgs=NN at f e1;simp only[Ò,m,f,e1]
theorem x3q{a Ö tgs:Á D}{c:D}{Ws:Á Å}{ps:Á Ĝ}(i:qr ĩb=À (Ä,.lst Ö))(g:jt ĩb=À (Ä,.lst tgs))(e:Ģi=Ĕ)(b:Ĕ<=1000)(k:ża=8)(f:∀w∈Ws,0<=w/\w<4294967296)(j:XZ [c]=À (Ä,.dic Ğ Ŀ)) :Uv [.obj ď [] [],.fz äg,.fz ía,.fz c]=À ([yk ď (.dic ņd Ľh) Ĕ ía ëd ϯg 0 0,.fz äg,.fz ía,.fz c],.fz .zD):=by
 let h:k9 (.obj ď [] []) 0 []=.p 0 []:=rfl
 let d:HX [.dic ņd Ľh]=À (.int Ĕ):=by exact À (ý ((ņd).length:Å))=_;unfold tu;rw[ç,Ďb]
 rw[z9a];unfold Eb;simp only[Ŝ,x8e i g e b,d,h,nh .row k f j]
def qL(a:Á D)(r:D):D:=match w8 r with
 |Ä=>match Yk r with
  |.str t=>((Ōf).map λn:Ã=>ý n).getD .zD|_=>.zD
 |Â=>.zD
inductive RJ(Z:Á Úb)(RK:D->È):D->È
 |Ϻ {r:D} (h:RK r):RJ Z RK r
 |Š:RJ Z RK ça
 |wQ {q:Ç×Ã} (h:q∈Z):RJ Z RK ϻk
 |Âa {w k:Ç} {q:Ç×Ã} (hw:w = Ϗ \/ w = ώ) (hk:k = Ña \/ k = ÿa \/ k = Óa) (h:q∈Z):RJ Z RK Ťk
structure Hd(r:D):È where
 pr:tW r
 w:∃w,zK r ń=À ĕ/\za ĕ Ēb=À á/\Xy ĕ (.lst ϓk)=À Č
def x3r{Z:Á Úb}{a:D->È}(b:∀r,a r->Hd r){r:D}(h:RJ Z a r):vE r/\yS r=Â:=by
 cases h with
 |Ϻ h=>show{.plain (b r h).pr,(QW (m:=0) (.inl (b r h).pr)).choose_spec.2.2.1}|Š=>show{.plain .stop,rfl}|wQ h=>show{.wQ _,rfl}|Âa hw hk h=>show{.cond _ hw hk,by rcases hw with rfl|rfl<;>rfl}
def x8h{Z:Á Úb}{m:D->È}{Ö a:Á D}(o:∀r,m r->Hd r)(v:∀r∈Ö,RJ Z m r)(Y:TV Z Ö a):qr ĩb=À (Ä,.lst Ö)/\jt ĩb=À (Ä,.lst (Ųf (qL a))):=by
 let{b,c,B,C}:=nJ Y.it Y.ln;let j:=DY Y.it;rw[Y.rw]at j;show{j,?_}
 let A:=gI (g:=zu 2) (e:=Wl) (σ:=[À (Â,.lst a),À (Â,.dic b c),Æ]) (ds:=Ö) (qL a) λr s=>by
  let f:=NK (x3r o (v r s)).1;show{Űg,rfl,?_}
  let d:∀(t:Ç)(p:Ã),w8 r=Ä->zK r Ďc=À òa->Yk r=.str t->(v7 t a).2=À p->Wl Űg=À (qL a r):=λt p z y x l=>by
   let E:zK (.dic b c) òa=À Čd:=by exact Ċ b c Ác=_;rw[C,l];rfl
   let i:qL a r=.int (p:Å):=by unfold qL;rw[z,x];exact((Ōf).map λn:Ã=>ý n).getD .zD=_;rw[l];rfl
   rw[z]at f;rw[i];unfold Wl;simp only[Ò,f,y,E]
  let u:w8 r=Â->Wl Űg=À (qL a r):=λz=>by
   let i:qL a r=.zD:=by unfold qL;rw[z]
   rw[z]at f;rw[i];unfold Wl;simp only[Ò,f]
  cases v r s with
  |Ϻ h=>show u (WO (o r h).pr).choose_spec.2.2.2.1|Š=>show u rfl|@wQ q h=>show d q.1 q.2 rfl rfl rfl żo|@cond w k q hw hk' h=>show d q.1 q.2 ϗa rfl rfl żo
 rw[mT];unfold Ms;simp only[Ò,B,j,A]
def aJ:FE:=(wO (zA ša ôh))
def sM:FA:=(tj ī (eL vF Çl))
def Nd:FS:=(zQ ŋn
    (yB 5 (e2 Œh Ğa (u7 (tE (e2 xI Į ħ)) ũa ļ))))
def Ei:FS:=
 (zQ (Κ (ςc (xm 1 Öj Ťe yc aJ)))
  (zQ (tL 4 Êc)
  (zQ (yB 5 ī)
  (zQ (ur sM Ÿb
   Nd)
  (zQ ŋn
  (pK 4))))))
def VD:Á D->Ê ã:=FR 2 6 Ei
def z9g(x0 x1:D):VD û=yC 6 Ei û:=rfl
nonrec def xM(f:Ã->Ð):Ã->Å
 |0=>0|n+1=>xM f n+âh
def pX(f:Ã->Ð)(n:Ã):Á D:=(Ġc).map λi=>ý (xM f i)
def h7(f:Ã->Ð)(n:Ã):pX f Ŋ=pX f n++[.int (xM f n)]:=by unfold pX;rw[ďf,Ůa];rfl
def f_(f:Ã->Ð)(n:Ã):(pX f n).length=n:=by simp[pX]
nonrec def yR(zE:Á Ã):Á D:=ŷb λi:Ã=>ý i
def zl(zE:Á Ã)(n:Ã):Ð:=(ϥa).any λy=>xC y Ϟa
theorem NY:∀zE:Á Ã,WA (ŷb λi:Ã=>Ċa Ϩd)=À (ŷb λi:Ã=>Ϭ (i:Å),ŷb λ_=>ů Ä)
 | []=>rfl|a::zE=>by exact(u8 Óe).bind _=_;exact(WA (ŷb λi:Ã=>Ċa Ϩd)).bind _=_;rw[NY zE];rfl
theorem ND(n:Ã):∀zE:Á Ã,yh (ŷb λi:Ã=>Ϭ (i:Å)) ūc=zl zE n
 | []=>rfl|a::zE=>by
  exact(decide ((Ϭ (a:Å):Sum Å Ç)=.inl (n:Å))||yh (ŷb λi:Ã=>Ϭ (i:Å)) ūc)=(xC Óe Ϟa||zl zE n);rw[ND n zE];let:xC Óe Ϟa=ąm:=rfl;rw[this]
  congr 1
  by_cases h:(a:Å)=(n:Å);rw[ò Ŀi,h,Ŏb];rw[Ę (λe=>h (ϡb e)),Ϗb h]
theorem fq{a:Á D}(h:∀d∈a,vE d){zE:Á Ã}{n:Ã}(o:(Ōc).length=n)(u:n<=900):VD ùf=À (Ä,.lst (pX Ĩ Ŋ)):=by
 let q:=DY h
 let e1:yq Ťe yc aJ Ϸj ϥa=À (ŷb λi:Ã=>Ċa Ϩd):=by
  let:=gI (g:=zu 6) (e:=aJ) (σ:=Ϸj) Āl (ds:=yR zE) λd t=>{_,rfl,rfl}
  rw[this];unfold yR;rw[Þa];rfl
 obtain⟨K,V,e2,m⟩:∃K V,Xv ŵk=À ϑf/\∀n:Ã,yh K ūc=zl zE n:=by rw[ϒp]
 let s:sM šg=À ŝj:=by let:=Zo (f:=eL vF Çl) (τ:=šg) (n:=(n:Å)) (by simp only[Ò,q,o]) É;rw[Ũp]
 let{σ',l,k,rfl}:=jX (g:=zu 3) (b:=Nd) (λi σ=>∃k,σ=[À (Â,.lst a),À (Â,.lst ϥa),À (Â,.dic K V),k,À (Ä,.lst (pX Ĩ i)),À (Â,.int Źf)]) (ds:=wt n)
  (σ:=šg) 0 {Æ,rfl} (by
  rintro i v σ p ⟨k,rfl⟩;let{w,rfl}:=Qr p;rw[š]at *;let c:=YI (L:=pX Ĩ i) (r:=.int Źf) ķm
  let j:xI Ňa ϑf=À (.bl ĕp):=by exact(ϡk).bind _=_;rw[m];rfl
  show{_,[À (Â,.lst a),À (Â,.lst ϥa),À (Â,.dic K V),À (Â,.int (i:Å)),À (Ä,.lst (pX Ĩ ñ)),À (Â,.int (xM Ĩ ñ))],rfl,.inl ?_,_,rfl};rw[h7];exact _=À (Fl.nx [_,_,_,_,_,À (Â,.int ín)]);unfold Nd;cases hf:zl zE i<;>rw[hf]at j<;>simp only[Ò,c,j]<;>rfl)
 rw[F7,š]at l;let c:=YI (L:=pX Ĩ n) (r:=.int (xM Ĩ n)) ķm;rw[h7];rw[z9g];unfold Ei;simp only[Ò,e1,e2,s,l,c]
def GC:FS:=
 (zm (Iq Ŕh (YQ (e2 Ói (e1 YU ňd) ö) (e2 Ói ö (eC ϙc)))))
def Jn:Á D->Ê ã:=FR 1 1 GC
def y03(x0:D):Jn ë=yC 1 GC ë:=rfl
def FJ:FE:=(u7 (tE (e2 gA ŗ Ϣ)) Ϣ (e2 pj Ϫm (e2 zK ħ Į)))
def Ep:FS:=
 (zQ (Κ (uW VD ëc))
  (ut (xm 2 (pp Ŗf) īb yc FJ)))
def T1:Á D->Ê ã:=FR 2 3 Ep
def z9n(x0 x1:D):T1 û=yC 3 Ep û:=rfl
def aP:FE:=(wO (zA Ğa ôh))
def sS:FA:=(tj ī (eL vF Ęb))
def aQ:FE:=Ğa
def LX:FT:=(tE (e2 Xy Ğa Į))
def aR:FE:=Ğa
def LY:FT:=(ζ (zU Jn Łl))
def GT:FS:=
 (zQ ëm
  (zQ (yB 3 (ςc (xm 1 Öj Ŧa yc aP)))
  (zQ (yB 4 (xm 1 sS Ŧa LX aQ))
  (ut (xm 1 (vY ŗ) Ŧa LY aR)))))
def Xh:Á D->Ê ã:=FR 2 5 GT
def y0k(x0 x1:D):Xh û=yC 5 GT û:=rfl
def tgt(r:D):D:=match w8 r with
 |Ä=>Yk r|Â=>.zD
theorem l7{R:D->D->È}{g:FG}{e:FE}{σ:yD}(v:D->D)(h:∀r y,R r y->∃σ1,g y σ=À σ1/\e σ1=À (v r)):∀{rs ys:Á D},vy R rs ys->yq g yc e σ ys=À (rs.map v)
 |_,_,.nil=>rfl|r::rs,y::ys,.cons x xs=>by rw[űp];rw[l7 v h xs];rfl
def x8g{Ö a:Á D}(h:∀d∈a,vE d)(n:Èa<=1000)(q:vy Ůe Ö Ōc):jt ĩb=À (Ä,.lst ϟg):=by
 let{f,i,e1,m}:=nJ h n;let e2:=DY h
 let s:=l7 (g:=zu 2) (e:=Wl) (σ:=[À (Â,.lst a),À (Â,.dic f i),Æ]) tgt (λr y c=>by
  let b:=NK c.1;rw[c.2.2.2.1]at b;show{_,rfl,?_};unfold Wl tgt;cases z:w8 r with
  |Ä=>
   rw[z]at b;let{t,p,j,l,k}:=c.2.2.2.2 z
   let o:zK (.dic f i) òa=À Čd:=by exact Ċ f i Ác=_;rw[m,l];rfl
   simp only[Ò,b,j,o,k]
  |Â=>rw[z]at b;simp only[Ò,b]) q
 rw[mT];unfold Ms;simp only[Ò,e1,e2,s]
theorem x8w{m:Å}{r:D}(h:ZM m r):(w8 r=Â/\tgt r=.zD)\/(w8 r=Ä/\∃p:Ã,(p:Å)<=m/\tgt r=.int (p:Å)/\Yk r=.int (p:Å)/\zK r Ďc=À Čd):=by
 rcases h with h|h;let{_,_,_,_,c,_}:=WO h;show .inl {c,?_};unfold tgt;rw[c];let{w,p,_,_,_,c,_,d,b,e,f}:=Bk h;let a:((ňe:Ã):Å)=p:=by omega
 refine .inr {c,ňe,by omega,?_,by rw[a,b],by rw[a,d]};unfold tgt;rw[c,a];show b
def dv(f:Ã->Ð)(d:D):D:=match d with
 |.tup [.int i,.int p]=>.int (xM f ňe-xM f ųb)|_=>.zD
def EQ{f:Ã->Ð}{n p:Ã}(h:p<n):zK (Γ (pX f n)) Čd=À (Δ (xM f p)):=by refine YK É ?_;rw[ō];unfold pX;rw[Ś,ÿh h];rfl
def v4(Ö:Á D)(f:Ã->Ð):Á D:=(Ϩf).map (dv f)
def ir{Ö:Á D}{f:Ã->Ð}{i:Ã}(h:i<Ĕ):Ŭo[i]?=À (dv f ņi):=by unfold v4;rw[Ś,QN,Ś,ğ h];rfl
def iu(Ö:Á D)(f:Ã->Ð):(Ŭo).length=Ĕ:=by unfold v4;rw[ç,Yr,ç]
theorem iq{Ö a:Á D}(h:∀d∈a,vE d)(t:Èa<=1000)(j:vy Ůe Ö Ōc)(u:∀r∈Ö,ZM (Ĕ:Å) r)(o:Ĕ<=900){zE:Á Ã} :T1 ùf=À (Ä,.lst ņf):=by
 let e1:=fq h (zE:=zE) (YT j).symm o;let e2:=x8g h t j
 let w:yq īb yc FJ [À (Â,.lst a),À (Â,.lst ϥa),À (Â,.lst ţm),Æ,Æ] Ϩf=À ņf:=by
  show gI (dv Ĩ) λd l=>?_
  let{i,e,s}:=âf l;let b:i<Ĕ:=by rw[Yr,ç]at e;show e
  let c:Ϩf[i]?=À d:=by rw[ğ e,s]
  rw[QN,Ś,ğ b]at c
  let g:d=.tup ŵg:=by
   injection c with z
   show ϸc
  subst g;let m:=EQ (f:=zl zE) (n:=Ĕ+1) (p:=i) É;show{_,rfl,?_};rcases x8w (u _ (Ëb b))with⟨_,z⟩|⟨_,p,x,z,_⟩;rw[z];unfold FJ;rw[ĉq];rfl;rw[z];let k:=EQ (f:=zl zE) (n:=Ĕ+1) (p:=p) É;unfold FJ;simp only[Ò,k,m];rfl
 let v:∀σ:yD,zU jt ŀa σ=À (Γ ϟg)->pp Ŗf σ=À Ϩf:=λσ z=>by unfold pp;rw[z];rfl
 let q:=v [À (Â,.lst a),À (Â,.lst ϥa),À (Â,.lst ţm)] (by simp only[Ò,e2]);rw[z9n];unfold Ep;simp only[Ò,e1,q,w]
nonrec def P6:D->Ð
 |.zD=>Ä|.int x=>decide õj&&decide (x<=15)|_=>Â
def y4n{f:Ã->Ð}{d:D}:Jn [dv f d]=À (Â,.bl (P6 (dv f d))):=by
 let:dv f d=.zD\/∃x,dv f d=.int x:=by
  unfold dv
  split;show .inr {_,rfl};show .inl rfl
 rcases this with z|⟨x,z⟩<;>rw[z,y03]<;>unfold GC;rw[ĉq];rfl;exact _=À (Â,ů (decide õj&&decide (x<=15)));cases h1:decide õj<;>simp only[Ò,h1,Ėb]
def YL(Ö:Á D)(zE:Á Ã)(i:Ã):Ð:=!P6 (dv Ĩ ϊk)
def gF(Ö:Á D)(zE:Á Ã):Á Ã:=(Öd).filter (YL Ö zE)
def lN(l:Á Ã):yR l=ś λi:Ã=>ý i:=rfl
def y5e{Ö a:Á D}(h:∀d∈a,vE d)(w:Èa<=1000)(A:vy Ůe Ö Ōc)(y:∀r∈Ö,ZM (Ĕ:Å) r)(v:Ĕ<=900){zE:Á Ã} :Xh ùf=À (Ä,.lst ād):=by
 let j:=iq h w A y v (zE:=zE)
 let e1:yq Ŧa yc aP Ϛj ϥa=À (ŷb λi:Ã=>Ċa Ϩd):=by
  let:=gI (g:=zu 5) (e:=aP) (σ:=Ϛj) Āl (ds:=yR zE) λd k=>{_,rfl,rfl}
  rw[this,lN,Þa];rfl
 obtain⟨K,V,e2,u⟩:∃K V,Xv ŵk=À ϑf/\∀n:Ã,yh K ūc=zl zE n:=by rw[ϒp]
 let o:sS ϕj=À (wt Ĕ):=by let:=Zo (f:=eL vF Ęb) (τ:=ϕj) (n:=((ņf).length:Å)) rfl (by rw[iu];omega);rw[iu,ō]at this;rw[Ũp]
 let m:yq Ŧa LX aQ Ϗj (wt Ĕ)=À (yR Öd):=by
  let:=Vt (g:=zu 5) (c:=LX) (e:=aQ) (σ:=Ϗj) (λd=>match d with|.int i=>!zl zE ųb|_=>Â) id (ds:=wt Ĕ) λd k=>by
   let{i,t,rfl}:=F8 k
   let p:Xy Ňa ϑf=À (.bl (!zl zE i)):=by exact(ϡk).bind _=_;rw[u];rfl
   rw[Űp];exact LX _=À (!zl zE (Œp).toNat);rw[ō];unfold LX;simp only[Ò,p]
  rw[this,źc,Đf];rfl
 let l:yq Ŧa LY aR ϋj (yR Öd)=À ād:=by
  let:=Vt (g:=zu 5) (c:=LY) (e:=aR) (σ:=ϋj) (λd=>match d with|.int i=>YL Ö zE ųb|_=>Â) id (ds:=yR Öd) λd k=>by
   let{i,t,rfl}:=Ų k;let b:i<Ĕ:=ŋb (ňb t).1;let x:ϰb i .zD=Ö[i]:=by rw[Úa,ğ b];rfl
   let q:zK (Γ ņf) Ňa=À (dv Ĩ ņi):=YK É (by rw[ō];show ir b);let s:=y4n (f:=zl zE) (d:=.tup ŵg);rw[Űp];exact LY _=À (YL Ö zE (Œp).toNat);rw[ō];unfold LY YL;rw[x];generalize dv Ĩ ņi=z at q s;simp only[Ò,q,s]
  rw[this,źc,lN,Đf];rfl
 rw[y0k];unfold GT;generalize yR zE=FF at j e1 e2 o m l ⊢;generalize v4 Ö Ĩ=DD at j e1 e2 o m l ⊢;generalize yR Öd=NN at j e1 e2 o m l ⊢;simp only[Ò,j,e1,e2,o,m,l]
def kT(l:Á Ã):Á Ã:=(Ōk).map ϡf
def x6n(l:Á Ã):yR ŭj=(Ōk).map ý:=by
 unfold yR kT;rw[Þa];show ôd λx a=>?_
 let{i,_,rfl}:=Ų ((ϛh _).mem_iff.mp a);rfl
def Dk(l:Á Ã):(ŭj).Perm l:=by
 let h:=(ϛh (ś λi:Ã=>(i:Å))).map ϡf;rw[Þa]at h
 let e:ś (ϡf∘λi:Ã=>(i:Å))=l:=by rw[show(ϡf∘λi:Ã=>(i:Å))=id from funext λi=>ō i,źc]
 rw[e]at h;show h
inductive k7(g:Á Ã->Á Ã):Á Ã->Á Ã->Ã->È
 |Š {zE:Á Ã}:g zE=[]->k7 g zE zE 0
 |go {zE R:Á Ã} {k:Ã}:g zE≠[]->(Šo).length<64->k7 g Ĕf R k->k7 g zE R ϕ
def Xk(n:Ã)(l:Á Ã):È:=l.Nodup/\∀x∈l,x<n
theorem sv{g:Á Ã->Á Ã}{n:Ã}(f:n<64)(b:∀zE,Xk n zE->Xk n Šo):∀(m:Ã)(zE:Á Ã),Xk n zE->n-ϰo<=m->∃R k,k7 g zE R k/\k<=m/\Xk n R
 |m,zE,gf,hm=>by
  by_cases e:g zE=[];show{zE,0,.stop e,ýa _,gf};let a:=b zE gf;let d:=Gx n a.1 a.2;let o:0<(g zE).length:=ϙd e;rw[î]at d;let j:Xk n Ĕf:={(Łg).nodup_iff.mpr a.1,λx i=>a.2 x ((Łg).mem_iff.mp i)};let l:(Ĕf).length=ϰo+(g zE).length:=by rw[(Łg).length_eq,î]
  match m,hm with
  |0,hm=>omega|m+1,hm=>let{R,k,h,p,c}:=sv f b m Ĕf j É;show{R,k+1,.go e üm h,by omega,c}
def x6q{l:Á Ã}(h:Ăa<64):Hf [.lst (yR l)]=À (Γ (yR ŭj)):=by
 let e:yR l=(ś λi:Ã=>(i:Å)).map ý:=by unfold yR;rw[Þa];rfl
 rw[x6n,e];exact(ϭa _).bind _=_;rw[mq];exact(if(ś λi:Ã=>(i:Å)).length<64 then _ else _)=_;rw[Ó (by rw[ç];show h)]
theorem z53{a b:Á Ã}(h:(Ĭc).length<64):yp (Γ (yR a)) (Γ śj)=À (Γ (yR Ĭc)):=by exact(if(yR a).length+(śj).length<=yb then _ else _)=_;rw[î]at h;unfold yR;rw[Ó (by rw[ç,ç];rw[ϙp]),Ůa]
theorem z8d(l:Á Ã):(!(yR l).isEmpty)=decide (l≠[]):=by cases l<;>rfl
def y18{Ö:Á D}{zE:Á Ã}(h:Xk Ĕ zE):Xk Ĕ Ğk:=by
 let d:∀x∈gF Ö zE,x<Ĕ/\zl zE x=Â:=λx c=>by let g:=ňb (ňb c).1;show{ŋb g.1,by simpa using g.2}
 show{Ķl {h.1,(List.nodup_range.filter _).filter _,λa i b j e=>?_},λx c=>?_};subst e;let f:=(d a j).2;let:zl zE a=Ä:=List.any_eq_true.mpr {.int (a:Å),Ϛb {a,i,rfl},Ŏb _};rw[this]at f;cases f;rcases ϗ c with c|c;show h.2 x c;show(d x c).1
def y1q(zE:Á Ã)(n:Ã):Ix Ϟa (Γ ϥa)=À (zl zE n):=by
 let a:(ϥa).all xo=Ä:=ϑb λy b=>by let{p,_,rfl}:=Ų b;rfl
 exact(match xo Ϟa&&(ϥa).all xo with|Ä=>_|Â=>_)=_;rw[a];rfl
def z5h{Ö:Á D}{zE:Á Ã}{i:Ã}(h:w8 ŀ=Â):YL Ö zE i=Â:=by unfold YL tgt;rw[h];rfl
def Ng:FS:=(zQ (yB 1 (eL Hf (Α (e2 yp Ā ϡc))))
    êm)
def B2:FT:=(tE (e2 xP ħ Êc))
def E_:FS:=
 (zQ (yB 1 Êc)
  (zQ êm
  (zQ (DZ B2
   Ng)
  (zm Ā))))
def VE:Á D->Ê ã:=FR 1 3 E_
def z9x(x0:D):VE ë=yC 3 E_ ë:=rfl
def z8e{Ö a:Á D}(g:∀zE,Xh ùf=À (Ä,.lst ād)){zE R:Á Ã}{k:Ã}(r:k7 Üg zE R k) :j6 B2 Ng ϕ [À (Â,.lst a),À (Â,.lst ϥa),À (Â,.lst ād)]=À (.nx [À (Â,.lst a),À (Â,.lst ũd),À (Â,.lst (yR []))]):=by induction r;rename_i zE e;rw[z30];rw[e];let h:=P5 ād;rw[e]at h ⊢;unfold B2;simp only[Ò,h];rfl;rename_i zE _ _ e h _ c;rw[z31 (σ':=[À (Â,.lst a),À (Â,.lst (yR Ýj)),À (Â,.lst (yR (gF Ö Ýj)))]) ?_ ?_];show c;let h:=P5 ād;rw[z8d,ò e]at h;unfold B2;simp only[Ò,h];let f:=z53 h;let d:=x6q h;let b:=g Ýj;unfold Ng;simp only[Ò,f,d,b]
theorem lP{Ö a:Á D}(h:∀d∈a,vE d)(l:Èa<=1000)(n:vy Ůe Ö Ōc)(m:∀r∈Ö,ZM (Ĕ:Å) r)(j:Ĕ<64) :∃R k,k7 Üg [] R k/\k<=64/\Xk Ĕ R/\VE ĩb=À (Â,.lst ũd):=by
 let{R,k,c,o,i}:=sv j (λb=>y18 (Ö:=Ö)) Ĕ [] {ěf,λ_ h=>by cases h} đb;let e:∀b,Xh [.lst a,.lst śj]=À (Ä,.lst (yR (gF Ö b))):=λb=>y5e h l n m É
 let e1:=z8e e c;let e2:=z00 _ e1 (đ (show k+1<=65 by omega) Í);let f:=e [];let g:yR []=[]:=rfl;rw[g]at e2 f;refine{R,k,c,by omega,i,?_};rw[z9x];unfold E_;simp only[Ò,f,e2]
def z5o:FS:=
 (zQ (yP án
   (Μa (Ζb (Α śm)))
   yY)
  (zm ϰl))
def uF:Á D->Ê ã:=FR 2 2 z5o
def Gk:FS:=
 (zm (zU YF (η (zA ċb (zA Ļc Ęb)))))
def jv:Á D->Ê ã:=FR 3 3 Gk
def y10(x0 x1 x2:D):jv ϙ=yC 3 Gk ϙ:=rfl
def aI{x l d n:Å}(h:Ϥg/\0<=n/\n<2 ^ ŝa):jv Öl=À (Â,.int Ŷg):=by let b:zK ϑo ń=À (.int l):=rfl;let a:zK ϑo ϵ=À (.int d):=rfl;rw[y10];unfold Gk;simp only[Ò,b,a,z33 h]
def w5s:FE:=Ā
def w5w:FT:=(tE (e2 xP Ā (eC ēb)))
def z5i:FS:=
 (ut (xm 1 (vY (Ξ (xg qf Vl))) Öa w5w w5s))
def t8:Á D->Ê ã:=FR 1 1 z5i
def QH:FS:=(zQ (yB 5 (u7 (εc æj) (e1 (I_ W5) ŗ) ŗ))
    (Κ (zU jv (Ρ (zA (zU uF (zA àc ţb)) ýe)))))
def YM:FS:=
 (zQ (Κ (zU jv (Ζb (zA èl Ûa))))
  (zQ (ur (tm (uW t8 ϕi) (YS ö (vk ļ) vj)) īb
   QH)
  ķe))
def uj:Á D->Ê ã:=FR 2 6 YM
def Vi(x0 x1:D):uj û=yC 6 YM û:=rfl
def U5{c:Å}(b:0<=c)(a:c<32):jv [.int 0,.tup ŗm,.int c]=À (Â,.int Ϫh):=by rw[aI (x:=0) (l:=27) (d:=5) (n:=c) {by decide,b,a}];simp
def Zn{x l d n m:Å}(b:0<=l/\l<64)(a:0<=d/\d<64)(x0:0<=x)(c:0<=n)(e:n<2 ^ ŝa)(g:x/2 ^ l.toNat%2 ^ ŝa=0)(f:m=2 ^ Ĝc):jv Öl=À (Â,.int (x+n*m)):=by rw[aI {{x0,b.1,b.2,a.1,a.2},c,e},g,f,Űn]
theorem Hq{c:Å}(b:0<=c)(d:c<32){w:Ç}(g:t8 Řa=À (Ä,.lst [])):uj [.tup Řa,.int c]=À (Â,.int Ϫh):=by
 rw[Įq]
 let f:=U5 b d;let a:Xz (.tup Řa) ĉa Æ=À ŀp:=by rfl
 rw[Ëq]
theorem z8k{w:Ç}{c W d n:Å}(v:t8 Řa=À (Ä,.lst ϕl))(h:uF Ęh=À (Â,.tup Ŕc))(i:uF Ěm=À (Â,.tup ύm))(f:0<=c)(g:c<32)(t:0<=W)(y:W<=16)(d0:0<=d)(d1:d<8)(p:0<=n)(s:n<2 ^ Ća)(j:(2:Å) ^ Ća ∣ 16777216) :uj [.tup ϱj,.int c]=À (Â,.int (c*134217728+d*16777216+n)):=by
 rw[İq]
 let u:=U5 f g;let q:=Zn (x:=c*134217728) (l:=24) (d:=3) (n:=d) (m:=16777216) Í Í É d0 d1 žg Í
 have r:=Zn (x:=c*134217728+d*16777216) (l:=0) (d:=W) (n:=n) (m:=1) Í {t,by omega} É p s (by exact(c*134217728+d*16777216)/1%2 ^ Ća=0;rw[Ϥb];let{k,a}:=j;rw[show c*134217728+d*16777216=2 ^ Ća*(k*(8*c+d)) by rw[<-Īn,<-a];omega];show Úm _ _) Í
 let b:za ųa ϲ=À á:=by rfl
 let o:za Įa ϲ=À á:=by rfl
 let e:Xz ńi ĉa Æ=À (.tup [.int d,.int n]):=by rfl
 rw[ϩp];simp only[Ò,a,u,kH,v,tm,YS,vk,vj,e,jc,ńb,Ŋc,QH,b,o,h,q,i,r,ôe]
theorem z8l{w:Ç}{c d s:Å}(t:t8 Řa=À (Ä,.lst ϔl))(g:uF Ęh=À (Â,.tup Ŕc))(p:uF ęm=À (Â,.tup ϩd))(e:0<=c)(f:c<32)(d0:0<=d)(d1:d<8)(i:0<=s)(o:s<8) :uj [.tup ćk,.int c]=À (Â,.int ņk):=by
 let q:xg uO uP Ϭb=À æc:=by rfl
 let r:=U5 e f;let j:=Zn (x:=c*134217728) (l:=24) (d:=3) (n:=d) (m:=16777216) Í Í É d0 d1 žg Í;let k:=Zn (x:=c*134217728+d*16777216) (l:=21) (d:=3) (n:=s) (m:=2097152) Í Í É i o Ìk Í;let a:za ųa ϲ=À á:=by rfl
 let h:za Ób ϲ=À á:=by rfl
 let b:Xz ϒo ĉa Æ=À (.tup [.int d,.int s]):=by rfl
 rw[ϩp];simp only[Ò,q,r,kH,t,tm,YS,vk,vj,b,jc,ńb,Ŋc,QH,a,h,g,j,p,k]
theorem z8m{w:Ç}{c d s n:Å}(p:t8 Řa=À (Ä,.lst ϕk))(b:uF Ęh=À (Â,.tup Ŕc))(y:uF ęm=À (Â,.tup ϩd))(e:uF Ěm=À (Â,.tup ώm))(z:0<=c)(a:c<32)(d0:0<=d)(d1:d<8)(u:0<=s)(j:s<8)(h:0<=n)(i:n<256) :uj [.tup Àk,.int c]=À (Â,.int (c*134217728+d*16777216+s*2097152+n)):=by
 rw[Ĭq]
 let A:=U5 z a;let k:=Zn (x:=c*134217728) (l:=24) (d:=3) (n:=d) (m:=16777216) Í Í É d0 d1 žg Í;let v:=Zn (x:=c*134217728+d*16777216) (l:=21) (d:=3) (n:=s) (m:=2097152) Í Í É u j Ìk Í;let t:=Zn (x:=c*134217728+d*16777216+s*2097152) (l:=0) (d:=8) (n:=n) (m:=1) Í Í É h i (by exact ņk/1%256=0;omega) Í;let q:za ųa ϲ=À á:=by rfl
 let g:za Ób ϲ=À á:=by rfl
 let f:za Įa ϲ=À á:=by rfl
 let r:Xz ϓo ĉa Æ=À (.tup [.int d,.int s,.int n]):=by rfl
 rw[ϩp];simp only[Ò,o,A,kH,p,tm,YS,vk,vj,r,jc,ńb,Ŋc,QH,q,g,f,b,k,y,v,e,t,ôe]
theorem lr{c m:Å}{w k:Ç}(p:t8 Řa=À (Ä,.lst ąe))(g:uF ėh=À (Â,.tup Àe))(i:I_ W5 ća=À Ŏd)(a:0<=m)(q:m<3)(e:0<=c)(f:c<32):uj [.tup Ϙd,.int c]=À (Â,.int él):=by
 let j:xg uO uP Ϭb=À æc:=by rfl
 let o:=U5 e f;let h:=Zn (x:=c*134217728) (l:=24) (d:=2) (n:=m) (m:=16777216) Í Í É a Ųl Ćk Í;let e1:za ϲ ϲ=À Č:=by rfl
 let b:Xz Ņi ĉa Æ=À (.tup Ĩb):=by rfl
 rw[ϩp];simp only[Ò,j,o,kH,p,tm,YS,vk,vj,b,jc,ńb,Ŋc,QH,e1,i,g,h]
def GU:FS:=
 (zm (zU vC (η (zA ċb (Α Ļc)))))
def ZI:Á D->Ê ã:=FR 2 2 GU
def y0l(x0 x1:D):ZI û=yC 2 GU û:=rfl
def Eo:FS:=
 (zm (zU ZI (Υ èl)))
def ZH:Á D->Ê ã:=FR 1 1 Eo
def z9m(x0:D):ZH ë=yC 1 Eo ë:=rfl
def w5t:FE:=ħ
def w5x:FT:=(Οc Ŧo)
def w5u:FE:=ħ
def w5y:FT:=(Οc ŧo)
def w5v:FE:=ħ
def w5z:FT:=(Οc Ũo)
def z5l:FS:=
 (zQ (tL 1 (xm 1 (iG kF) ĩc w5x w5t))
  (zQ (U9 1 (xm 1 (iG Ya) ĩc w5y w5u))
  (zQ (U9 1 (xm 1 (iG YZ) ĩc w5z w5v))
  (zQ űj (zm (u7 (θa Êc) Ϣ ċb))))))
def T5:Á D->Ê ã:=FR 1 2 z5l
def z5k:FS:=
 (δe (.lst Za))
def YE:Á D->Ê ã:=FR 1 1 z5k
def z5j:FS:=
 (δe (.lst ZZ))
def Xc:Á D->Ê ã:=FR 1 1 z5j
def Mj:FS:=
 (zQ (yB 3 (zU ZI (Υ (zU uF (Ω Ąi)))))
  (zQ (yP (tE (e2 xP ħ æj))
   (zm Į)
   yY)
  (zm (u7 (tE (e2 ϫb Į (eL vF (Α ŕe)))) (e2 zK ŕe Į) Ϣ))))
def qq:Á D->Ê ã:=FR 3 4 Mj
def mL(x0 x1 x2:D):qq ϙ=yC 4 Mj ϙ:=rfl
def Wk:FE:=(zU qq (η (Ρ ýe)))
def Gb:FS:=
 (zQ (yB 1 (zU ZH ŀa))
  (zQ (Κ (zU T5 Ûa))
  (zQ (yP Ŭl
   éb
   yY)
  (zQ (yB 3 (eL YW (Α (e2 yp (wA Ąi) (xm 1 (vY (uW t8 Ąi)) Ŧa yc Wk)))))
  (zQ (yP (tE (e2 xI Ϣ Į))
   éb
   yY)
  (zQ (yB 4 (u7 (tE (zU YE Ûa)) (zU jv (η (zA ϝg ći))) ö))
  (zm (u7 (tE (e2 za (zU uj (zA Į Ûa)) ŗ)) Į Ϣ))))))))
def jH:Á D->Ê ã:=FR 1 5 Gb
def y0r(x0:D):jH ë=yC 5 Gb ë:=rfl
def Gd:FS:=
 (zQ ţo
  (zm (u7 (tE (e2 ϫb ŕh ħ)) ö (e2 pj ö ħ))))
def Xi:Á D->Ê ã:=FR 2 3 Gd
def y0t(x0 x1:D):Xi û=yC 3 Gd û:=rfl
def Ez:FS:=
 (zQ (yP (tE (e2 çe ϲd Ŋa))
   éb
   yY)
  (Μa (Ρ (zA ϭm (Ξe (zA (e2 zK ö ϲd) Ēo))))))
def Jj:Á D->Ê ã:=FR 3 3 Ez
def z9w(x0 x1 x2:D):Jj ϙ=yC 3 Ez ϙ:=rfl
def Ti:FS:=
 (zQ (yP (ςb (e2 ϫb Ā ī) (e2 çe Ā Ŋa))
   éb
   yY)
  (zQ (Κ (zU jH ϔi))
  (zQ (yP Ŭl
   éb
   yY)
  (zQ (yB 3 (zU ZH ϔi))
  (zQ (yP (tE (zU Xc ţb))
   (zm (zU Jj (η (zA Ā Ęb))))
   yY)
  (zQ (yP (tE (zU YE ţb))
   (zQ (yB 4 ϝg)
    (νe (Ξe (zA (zU ZI (zA Çf Ći)) (zA (e2 zK ŗ ļ) zF)))))
   yY)
  (νe čp)))))))
def ju:Á D->Ê ã:=FR 2 5 Ti
def BS(x0 x1:D):ju û=yC 5 Ti û:=rfl
def DA{x l W:Å}(a:0<=l)(e:0<=W)(d:W<64):ZI [.int x,.tup òh]=À (Â,.int Öh):=by
 let c:zK ϐo ń=À (.int l):=rfl;let b:zK ϐo ϵ=À (.int W):=rfl;rw[Ģq]
 let p:vC [.int x,.int l,.int W]=À (Â,.int Öh):=by rw[mR];unfold Mq;simp only[Ò,e1,ò a,oY]
 rw[y0l];unfold GU;simp only[Ò,c,b,p]
theorem Tn{x:Å}(c:0<=x)(b:x<4294967296):ZH Ϧa=À (Â,.int (x/134217728)):=by
 rw[İq]
 let n:ZI [.int x,.tup ŗm]=À (Â,.int (x/134217728%32)):=DA Í Í Í;rw[show x/134217728%32=x/134217728 by omega]at n;rw[z9m];unfold Eo;simp only[Ò,a,n]
nonrec def Ze:Á D:=[.str Ëc,.str ĺa,.str ώa,.str ìb,.str Ϸa,.str ïb,.str ôb,.str Ĳb,.str öb,.str üb,.str òb,.str Ţa,.str Şa,.str ϊa,.str όa,.str ĵa,.str śa,.str Őa,.str ϥ,.str Ϗ,.str ώ,.str ϥ,.str Ϗ,.str ώ]
theorem y2l:(Ěc).map (λc:Ã=>T5 ŭh)=(Ěc).map λc=>À (Â,ŵb c .zD):=by kernel_rfl
def y4o:(Ěc).map (λc:Ã=>YE ŭh)=(Ěc).map λc=>À (Â,.bl (decide (18<=c)&&decide (c<=20))):=by kernel_rfl
def z8c:(Ěc).map (λc:Ã=>Xc ŭh)=(Ěc).map λc=>À (Â,.bl (decide (21<=c)&&decide (c<=23))):=by kernel_rfl
def PH{f g:Ã->Ê ã}(h:(Ěc).map f=(Ěc).map g){n:Ã}(a:n<32):f n=g n:=by let e:=ŋ (λl=>l[n]?) h;simp only[Ś,ÿh a,Żm]at e;show Ĭa e
def Na{n:Ã}(h:n<32):T5 Ŭh=À (Â,ŵb n .zD):=PH y2l h
def Oe{n:Ã}(h:n<32):YE Ŭh=À (Â,.bl (decide (18<=n)&&decide (n<=20))):=PH y4o h
def Hl{n:Ã}(h:n<32):Xc Ŭh=À (Â,.bl (decide (21<=n)&&decide (n<=23))):=PH z8c h
def Vp{x l W:Å}{k f:Ç}(e:uF [.str k,.str f]=À (Â,.tup òh))(c:xP ŉd ϲ=À Č)(a:0<=l)(d:0<=W)(b:W<64):qq [.int x,.str k,.str f]=À (Â,.int Öh):=by let n:=DA (x:=x) a d b;rw[mL];unfold Mj;simp only[Ò,e,n,c]
nonrec def nV:Á D:=[.str Ña,.str ÿa,.str Óa,.zD]
theorem y1b{x:Å}{k:Ç}(a:uF [.str k,.str Ĉa]=À (Â,.tup Àe)):qq [.int x,.str k,.str Ĉa]=À (Â,nV.getD (în).toNat .zD):=by
 let n:ZI [.int x,.tup Àe]=À (Â,.int în):=DA Í Í Í;let b:xP ϲ ϲ=À á:=by rfl
 rw[mL];unfold Mj;rcases(show x/16777216%4=0\/x/16777216%4=1\/x/16777216%4=2\/x/16777216%4=3 by omega)with e|e|e|e<;>rw[e]at n ⊢;let i:zK jV ń=À ûc:=rfl;rw[ëq];let i:zK jV ϵ=À Ϯb:=rfl;rw[ëq];let i:zK jV Àc=À ϭb:=rfl;rw[ëq];simp only[Ò,a,n,b];rfl
def R1{x c Z a:Å}{b:Ð}{k:Ç}{fs R:Á D}(g:ZH Ϧa=À (Â,.int c))(hk:T5 Ϣc=À (Â,.str k))(n:t8 Ĩb=À (Ä,.lst fs))(m:yq Ŧa yc Wk [À (Â,.int x),À (Â,.int c),À (Â,.str k),Æ,Æ,Æ] fs=À R)(l:xI .zD ĩd=À á)(r:ſa<=3)(d:YE Ϣc=À (Â,.bl b))(h:b=Ä->jv Øl=À (Â,.int a))(q:b=Â->a=x)(p:uj [.tup ŋc,.int c]=À (Â,.int Z)) :jH Ϧa=À (Â,if Z=a then .tup ŋc else .zD):=by
 let o:yp (.lst Ĩb) (.lst R)=À (Γ (.str k::R)):=by rw[Ma (by rw[āq])];rfl
 let j:YW [.lst ŋc]=À ĩd:=rfl;rw[ĭq]
 let f:za (.int Z) èg=À (Ηa (Z=a)):=by by_cases e:Z=a;rw[Yg e,ò e];rw[Q9 e,Ę e]
 rw[y0r];unfold Gb;cases b with
 |Ä=>have h:=h rfl;by_cases e:Z=a;rw[Ó e];rw[ò e]at f;simp only[Ò,g,hk,n,m,o,j,l,d,i,h,p,f];rw[Ô e];rw[Ę e]at f;simp only[Ò,g,hk,n,m,o,j,l,d,i,h,p,f]|Â=>obtain rfl:x=a:=(q rfl).symm;by_cases e:Z=x;rw[Ó e];rw[ò e]at f;simp only[Ò,g,hk,n,m,o,j,l,d,i,p,f];rw[Ô e];rw[Ę e]at f;simp only[Ò,g,hk,n,m,o,j,l,d,i,p,f]
theorem z14{n W:Å}(e:0<=W)(d:W<64):Xi [.int n,.int W]=À (Â,.int (if 2*n<2 ^ Ća then n else n-2 ^ Ća)):=by
 rw[Ģq];let b:Zg 2=Ä:=by decide
 rw[y0t];unfold Gd;by_cases c:2*n<2 ^ Ća;rw[Ó c];let a:decide Ãn=Ä:=ò É;simp only[Ò,e1,b,a];rw[Ô c];let a:decide Ãn=Â:=Ę É;simp only[Ò,e1,b,a,Ę c,Žc]
theorem w1c{ws:Á D}{a:Å}(h:a<0\/(Ŏa:Å)<=a):ju ąf=À (Â,.zD):=by
 rw[ġq];by_cases c:a<0;simp only[Ò,ò c];let d:(Ŏa:Å)<=a:=by omega
 simp only[Ò,Ę c,ò d]
structure At(ws:Á D)(a x:Å):È where
 a0:0<=a
 a1:a<(Ŏa:Å)
 ix:zK ϗc èg=À şb
 x0:0<=x
 x1:x<4294967296
section
variable{ws:Á D}{a x:Å}(A:At ws a x)
include A
theorem At.cond{α:Type}:decide (a<0)=Â/\decide ((Ŏa:Å)<=a)=Â/\decide (0<=a)=Ä/\decide (a<(Ŏa:Å))=Ä:=by let{c,b,_,_,_}:=A;show{Ę É,Ę É,ò c,ò b}
theorem w1d{c:Å}{R:Á D}(d:ZH Ϧa=À (Â,.int c))(i:Xc Ϣc=À (Â,.bl Â))(g:YE Ϣc=À (Â,.bl Â))(f:jH Ϧa=À (Â,.tup R)) :ju ąf=À (Â,.tup [.tup R,.int (a+1),.zD]):=by rw[ćq];rw[ġq];simp only[Ò,e,h,b,f,d,i,g,Ϸ]
theorem w1a{c:Å}{R:Á D}(d:ZH Ϧa=À (Â,.int c))(k:Xc Ϣc=À (Â,.bl Â))(g:YE Ϣc=À (Â,.bl Ä))(f:jH Ϧa=À (Â,.tup R)) :ju ąf=À (Â,.tup [.tup R,.int (a+1),.int (a+ϖe)]):=by
 rw[ćq];rw[ĭq]
 let n:ZI [.int x,.tup Ÿg]=À (Â,.int (x/1%32)):=DA Í Í Í;rw[Ϥb]at n;let s:Xi [.int (x%32),.int 5]=À (Â,.int ϖe):=z14 Í Í;let j:zK ĉe ϵ=À ϧa:=rfl;rw[ġq];generalize ϖe=S at s ⊢;simp only[Ò,e,h,b,f,d,k,g,i,n,j,s,Ϸ]
theorem w19{c:Å}{R:Á D}(g:ZH Ϧa=À (Â,.int c))(k:Xc Ϣc=À (Â,.bl Ä))(i:jH Ϧa=À (Â,.tup R)){y:Å}(f:zK ϗc (Δ (a+1))=À (.int y))(l:a+1<(Ŏa:Å)) :ju ąf=À (Â,.tup Ők):=by
 let{h,j,_,_}:=Śj (α:=Ã);let b:=A.ix;let s:Xi [.int y,.int 32]=À (Â,.int Ŧg):=z14 Í Í;let d:decide ((Ŏa:Å)<=a+1)=Â:=Ę É
 let e:Jj [.lst ws,.int a,.tup R]=À (Â,.tup Ők):=by rw[z9w];unfold Ez;generalize Ŧg=S at s ⊢;simp only[Ò,Ϸ,d,f,s]
 rw[ġq];simp only[Ò,h,j,b,i,g,k,e]
#print a
def Gi:FS:=
 (zQ ţo
  (zQ (yP (ςb (e2 ϫb ŕh (e1 YU ħ)) (e2 çe ŕh ħ))
   Ûb
   yY)
  (zm (u7 (tE (e2 çe ö ī)) ö (e2 yp ö ħ)))))
def TK:Á D->Ê ã:=FR 2 3 Gi
def y0y(x0 x1:D):TK û=yC 3 Gi û:=rfl
def Gq:FS:=
 (zm (Φc Ŧo))
def TN:Á D->Ê ã:=FR 1 1 Gq
def y14(x0:D):TN ë=yC 1 Gq ë:=rfl
def GS:FS:=
 (zQ (yB 2 ϝg)
  (zm (zU jv (zA (Φc ŧo) (Ρ (χe (zA (e2 zK ϡc ļ) zF)))))))
def T7:Á D->Ê ã:=FR 2 3 GS
def y0j(x0 x1:D):T7 û=yC 3 GS û:=rfl
def G7:FS:=
 (ut (Ηb (Φc Ũo) (χe Ēo)))
def VF:Á D->Ê ã:=FR 2 2 G7
def z9y(x0 x1:D):VF û=yC 2 G7 û:=rfl
def Oa:FS:=(yP (tE (e2 gA Ϫm Ϣ))
     (pI 3 pf (zU TN ýe))
     (yP (tE (e2 xI ŗ Ā))
       (U9 3 (uW VF ϗg))
       (pI 3 pf (zU T7 ϗg))))
def Gw:FS:=
 (zQ (yB 1 (zU VE ŀa))
  (zQ ëm
  (zQ (tL 3 Êc)
  (zQ (ur (pp úe) (wm 4 5)
   Oa)
  (pK 3)))))
def TR:Á D->Ê ã:=FR 1 6 Gw
def y17(x0:D):TR ë=yC 6 Gw ë:=rfl
def z2a{d W:Å}(q:0<=W)(n:W<64)(k : -(2 ^ Ća)<=2*d)(p:2*d<2 ^ Ća):TK [.int d,.int W]=À (Â,.int (d%2 ^ Ća)):=by
 let e1:=QT (i:=1) (j:=W) q n Í Í;let{l,o}:=rF (d:=Ća) É;let g:Zg 2=Ä:=by decide
 rw[y0y];unfold Gi;obtain⟨P,e⟩:∃P:Å,P=2 ^ Ća:={_,rfl};rw[<-e]at k p l o ⊢;let f:decide (2*d < -(1*P))=Â:=Ę É;let h:decide (1*P<=2*d)=Â:=Ę É;cases c:decide (0<=d)with
 |Ä=>have c:=ő c;let m:d%P=d:=õf c É;simp only[Ò,e1,g,<-e,f,h,ò c,m]|Â=>
  let r:=Îm c
  have m:d%P=d+P:=by rw[<-Int.add_emod_right (a:=d) (b:=P)];show õf É É
  simp only[Ò,e1,g,<-e,f,h,c,Ϸ,m];rw[Žc]
theorem y39{g:FG}{c:FT}{e:FE}{σ σ1:yD}{d x:D}{r xs:Á D}(b:g d σ=À σ1)(h:c σ1=À Ä)(a:e σ1=À x)(f:yq g c e σ r=À xs):yq g c e σ (d::r)=À Ēg:=by rw[yq,b,Đb,h,Đb];exact(ϲc).bind _=_;rw[a,f];rfl
def Yl{x:Å}{N r:D}{k:Ç}{f:D}{fs R:Á D}(h:qq [.int x,.str k,f]=À (Â,r))(a:yq Ŧa yc Wk ϲj fs=À R):yq Ŧa yc Wk ϲj ŝd=À (r::R):=
 y39 (σ1:=[À (Â,.int x),À (Â,N),À (Â,.str k),Æ,Æ,À (Â,f)]) rfl rfl (by simp only[Ò,Wk,h]) a
def Ip{q d B r b:Å}(h:0<B)(d0:0<=d)(d1:d<b)(c:0<=r)(a:r<B):(q*(b*B)+d*B+r)/B%b=d:=by rw[<-Īn,<-Int.add_mul,Ųn,Int.add_mul_ediv_right _ _ (ľf h),Int.ediv_eq_zero_of_lt c a,ůn,Ųn,Int.add_mul_emod_self_right,õf d0 d1]
structure Td(r:D)(v:Å):È where
 v0:0<=v
 v1:v<4294967296
 c:∃n:Ã,n<=17/\v/134217728=(n:Å)
 w:TN [r]=À (Â,.int v)
 r:jH [.int v]=À (Â,r)
def FH{k:Ç}{n:Ã}{v:Å}{R fs:Á D}(e:0<=v)(v1:v<4294967296)(d:n<=17)(hv:v/134217728=(n:Å))(hk:ŵb n .zD=.str k)(i:xg kF kG ća=À Ϟa)(m:t8 Ĩb=À (Ä,.lst fs))(l:yq Ŧa yc Wk [À (Â,.int v),À (Â,.int (n:Å)),À (Â,.str k),Æ,Æ,Æ] fs=À R)(j:xI .zD ĩd=À á)(g:ſa<=3)(f:uj Ñh=À (Â,.int v)):Td ĩd v:=by show{e,v1,{n,d,hv},?_,?_};rw[y14];unfold Gq;simp only[Ò,kH,i,f];let b:=Tn e v1;rw[hv]at b;rw[Ŷp];rw[Ę (show ¬ 18<=n by omega),Ėb]at a;let:=R1 b c m l j g a Ğh ďc f;rw[this,Ó rfl]
theorem FD{n:Ã}{k:Ç}{W P d m:Å}(f:n<=17)(hk:ŵb n .zD=.str k)(r:xg kF kG ća=À Ϟa)(p:t8 Ĩb=À (Ä,.lst ϕl))(h:uF ęh=À (Â,.tup Ŕc))(i:uF Ĝm=À (Â,.tup ύm))(o:0<=W)(s:W<=16)(q:(2:Å) ^ Ća=P)(e:(2:Å) ^ Ća ∣ 16777216)(d0:0<=d)(d1:d<8)(g:0<=m)(u:m<P)(v:P<=65536)(t:Ŀc%P=m):Td (.tup [.str k,.int d,.int m]) Ŀc:=by
 let a:=z8k (c:=(n:Å)) (d:=d) (n:=m) p h i É É o s d0 d1 g (by rw[q];show u) e;let l:qq [.int Ŀc,.str k,.str "d"]=À (Â,.int (Ŀc/16777216%8)):=Vp h Ķa Í Í Í;have j:qq [.int Ŀc,.str k,.str "n"]=À (Â,.int (Ŀc/1%P)):=by rw[<-q];show Vp i Ķa Í o É
 rw[Ϥb,t]at j;rw[show Ŀc/16777216%8=d from Ip (B:=16777216) (b:=8) Í d0 d1 g É]at l;show FH É É f É hk r p (Yl l żf) rfl ê a
def X8{n:Ã}{k:Ç}{d s:Å}(p:n<=13)(hk:ŵb n .zD=.str k)(o:xg kF kG ća=À Ϟa)(f:t8 Ĩb=À (Ä,.lst ϔl))(g:uF ęh=À (Â,.tup Ŕc))(h:uF ěm=À (Â,.tup ϩd))(d0:0<=d)(d1:d<8)(j:0<=s)(l:s<8):Td (.tup [.str k,.int d,.int s]) Ód:=by let e:=z8l (c:=(n:Å)) (d:=d) (s:=s) f g h É É d0 d1 j l;let m:qq [.int Ód,.str k,.str "d"]=À (Â,.int (Ód/16777216%8)):=Vp g Ķa Í Í Í;let i:qq [.int Ód,.str k,.str "s"]=À (Â,.int (Ód/2097152%8)):=Vp h Ķa Í Í Í;rw[show Ód/16777216%8=d from Ip (B:=16777216) (b:=8) Í d0 d1 É É]at m;let a:=Ip (q:=(n:Å)*8+d) (B:=2097152) (b:=8) (r:=0) Í j l Í Í;rw[show Şn*Īo+s*2097152+0=(n:Å)*134217728+d*16777216+s*2097152 by omega]at a;rw[a]at i;show FH É É É É hk o f (Yl m (Yl i rfl)) rfl ê e
def FC{n:Ã}{k:Ç}{d s m:Å}(f:n<=17)(hk:ŵb n .zD=.str k)(x:xg kF kG ća=À Ϟa)(i:t8 Ĩb=À (Ä,.lst ϕk))(l:uF ęh=À (Â,.tup Ŕc))(o:uF ěm=À (Â,.tup ϩd))(a:uF Ĝm=À (Â,.tup ώm))(d0:0<=d)(d1:d<8)(t:0<=s)(u:s<8)(h:0<=m)(w:m<256):Td (.tup [.str k,.int d,.int s,.int m]) Þc:=by let g:=z8m (c:=(n:Å)) (d:=d) (s:=s) (n:=m) i l o a É É d0 d1 t u h w;let v:qq [.int Þc,.str k,.str "d"]=À (Â,.int (Þc/16777216%8)):=Vp l Ķa Í Í Í;let p:qq [.int Þc,.str k,.str "s"]=À (Â,.int (Þc/2097152%8)):=Vp o Ķa Í Í Í;let j:qq [.int Þc,.str k,.str "n"]=À (Â,.int (Þc/1%256)):=Vp a Ķa Í Í Í;rw[īn,show((n:Å)*134217728+d*16777216+(s*2097152+m))/16777216%8=d from Ip (B:=16777216) (b:=8) Í d0 d1 É É,<-īn]at v;let e:=Ip (q:=(n:Å)*8+d) (B:=2097152) (b:=8) (r:=m) Í t u h É;rw[show Şn*Īo+s*2097152+m=(n:Å)*134217728+d*16777216+s*2097152+m by omega]at e;rw[e]at p;rw[show Þc/1%256=m by omega]at j;show FH É É f É hk x i (Yl v (Yl p żf)) rfl ê g
def x1z{r:D}(h:tW r):∃v:Å,Td r v:=by
 cases h with
 |Š=>show{0,FH (n:=0) (fs:=[]) Í Í Í Í rfl rfl rfl rfl rfl ê (Hq (c:=0) Í Í rfl)}|gk hw d0 d1 n0 n1=>rcases hw with rfl|rfl;show{_,FD (n:=1) (W:=16) (P:=65536) Í rfl rfl rfl rfl rfl Í Í Í Í d0 d1 n0 n1 Í É};show{_,FD (n:=2) (W:=16) (P:=65536) Í rfl rfl rfl rfl rfl Í Í Í Í d0 d1 n0 n1 Í É}
 |two hw d0 d1 s0 s1=>rcases hw with rfl|rfl|rfl|rfl|rfl|rfl|rfl|rfl|rfl;show{_,X8 (n:=3) Í rfl rfl rfl rfl rfl d0 d1 s0 s1};show{_,X8 (n:=4) Í rfl rfl rfl rfl rfl d0 d1 s0 s1};show{_,X8 (n:=5) Í rfl rfl rfl rfl rfl d0 d1 s0 s1};show{_,X8 (n:=6) Í rfl rfl rfl rfl rfl d0 d1 s0 s1};show{_,X8 (n:=7) Í rfl rfl rfl rfl rfl d0 d1 s0 s1};show{_,X8 (n:=8) Í rfl rfl rfl rfl rfl d0 d1 s0 s1};show{_,X8 (n:=9) Í rfl rfl rfl rfl rfl d0 d1 s0 s1};show{_,X8 (n:=10) Í rfl rfl rfl rfl rfl d0 d1 s0 s1};show{_,X8 (n:=11) Í rfl rfl rfl rfl rfl d0 d1 s0 s1}
 |ZF hw d0 d1 n0 n1=>rcases hw with rfl|rfl;show{_,FD (n:=12) (W:=5) (P:=32) Í rfl rfl rfl rfl rfl Í Í Í Í d0 d1 n0 n1 Í É};show{_,FD (n:=13) (W:=5) (P:=32) Í rfl rfl rfl rfl rfl Í Í Í Í d0 d1 n0 n1 Í É}
 |mem hw d0 d1 s0 s1 n0 n1=>rcases hw with rfl|rfl|rfl|rfl;show{_,FC (n:=14) Í rfl rfl rfl rfl rfl rfl d0 d1 s0 s1 n0 n1};show{_,FC (n:=15) Í rfl rfl rfl rfl rfl rfl d0 d1 s0 s1 n0 n1};show{_,FC (n:=16) Í rfl rfl rfl rfl rfl rfl d0 d1 s0 s1 n0 n1};show{_,FC (n:=17) Í rfl rfl rfl rfl rfl rfl d0 d1 s0 s1 n0 n1}
nonrec def Ij:D->D
 |.tup xs=>.tup xs.dropLast|d=>d
nonrec def cJ:D->Å
 |.tup Ďi=>if w = Ϗ then 1 else if w = ώ then 2 else 0|_=>0
nonrec def mJ:D->Å
 |.tup [_,.str k,_]=>if k = ÿa then 1 else if k = Óa then 2 else 0|_=>0
structure MX(r y:D)(c m:Å):È where
 c0:0<=c
 c1:c<3
 m0:0<=m
 m1:m<3
 nw:∀d:Å,-16<=d->d<=15->T7 Ŵf=À (Â,.int ϕg)
 fw:∀d:Å,-1000<=d->d<=1000->VF Ŵf=À (Ä,.lst ďk)
 nr:∀d:Å,jH [.int ϕg]=À (Â,Ij r)
 fr:jH [.int öp]=À (Â,Ij r)
 hd:∃R,Ij r=.tup R/\R≠[]/\ſa<=2/\R.all xo=Ä
def lq{c:Å}{t:Ç}(b:0<=c)(d:c<32):uj [.tup [.str ϥ,.str t],.int c]=À (Â,.int Ϫh):=by
 rw[Įq]
 let g:t8 Ĵi=À (Ä,.lst []):=by rfl
 let f:=U5 b d;let a:Xz ϗd ĉa Æ=À (.tup [.str t]):=by rfl
 rw[Ëq]
theorem lj{c m:Å}{w k t:Ç}(a:w = Ϗ \/ w = ώ)(j:I_ W5 ća=À Ŏd)(b:0<=m)(r:m<3)(f:0<=c)(g:c<32):uj [.tup Ĕl,.int c]=À (Â,.int él):=by
 rw[Ĭq]
 let q:t8 Řa=À (Ä,.lst ąe):=by rcases a with rfl|rfl<;>rfl
 let h:uF ėh=À (Â,.tup Àe):=by rcases a with rfl|rfl<;>rfl
 let p:=U5 f g;let i:=Zn (x:=c*134217728) (l:=24) (d:=2) (n:=m) (m:=16777216) Í Í É b Ųl Ćk Í;let e1:za ϲ ϲ=À Č:=by rfl
 let e:Xz ľc ĉa Æ=À (.tup [.str k,.str t]):=by rfl
 rw[ϩp];simp only[Ò,o,p,kH,q,tm,YS,vk,vj,e,jc,ńb,Ŋc,QH,e1,j,h,i]
theorem nu{y:D}{w:Ç}{c m d:Å}(b:zK y ń=À ĕ)(e:xg Ya Za ĕ=À (Δ Ϸc))(k:0<=c)(o:c<3)(j:0<=m)(i:m<3)(f:uj [y,.int Ϸc]=À (Â,.int øp))(d0 : -16<=d)(d1:d<=15) :T7 Ŵf=À (Â,.int ϕg):=by
 let g:xg uO uP ŉi=À ĉe:=by rfl
 let h:zK ĉe ϵ=À ϧa:=rfl;let u:=z2a (d:=d) (W:=5) Í Í (by exact(-32:Å)<=_;omega) (by exact _<(32:Å);omega);let a:d%2 ^ (5:Å).toNat=d%32:=rfl;rw[a]at u;let q:=Zn (x:=Ϸc*134217728+m*16777216) (l:=0) (d:=5) (n:=d%32) (m:=1) Í Í É É (by exact d%32<32;omega) (by exact øp/1%32=0;omega) Í;rw[y0j];unfold GS;generalize Ϸc*134217728+m*16777216=Z at g h b e f u q ⊢;simp only[Ò,g,h,b,e,f,u,q,ôe]
theorem lO{y:D}{w:Ç}{c m d:Å}(e:zK y ń=À ĕ)(b:xg YZ ZZ ĕ=À (Δ Ŗe))(f:uj [y,.int Ŗe]=À (Â,.int öp))(d0 : -1000<=d)(d1:d<=1000) :VF Ŵf=À (Ä,.lst ďk):=by let u:=z2a (d:=d) (W:=32) Í Í (by exact(-4294967296:Å)<=_;omega) (by exact _<(4294967296:Å);omega);let a:d%2 ^ (32:Å).toNat=d%4294967296:=rfl;rw[a]at u;rw[z9y];unfold G7;simp only[Ò,e,b,f,u]
theorem oG{x Z:Å}{n:Ã}{k:Ç}{fs R:Á D}(x0:0<=x)(x1:x<4294967296)(m:x/134217728=(n:Å))(i:18<=n)(j:n<=20)(hk:ŵb n .zD=.str k)(p:t8 Ĩb=À (Ä,.lst fs))(o:yq Ŧa yc Wk Ϥj fs=À R)(f:xI .zD ĩd=À á)(e:ſa<=3)(l:uj Ñh=À (Â,.int Z))(g:Z=x+(0-x%32)*1):jH Ϧa=À (Â,.tup ŋc):=by let b:=Tn x0 x1;rw[m]at b;rw[Ŷp];rw[ò i,ò j,Öe]at a;let d:jv Øl=À (Â,.int (x+(0-x/1%32)*1)):=aI {{x0,by decide,by decide,by decide,by decide},by decide,by decide};rw[Ϥb]at d;let:=R1 b c p o f e a (λ_=>d) Ğh l;rw[this,Ó g]
theorem lZ{x:Å}{n:Ã}{k:Ç}{fs R:Á D}(x0:0<=x)(x1:x<4294967296)(g:x/134217728=(n:Å))(l:21<=n)(m:n<=23)(hk:ŵb n .zD=.str k)(j:t8 Ĩb=À (Ä,.lst fs))(i:yq Ŧa yc Wk Ϥj fs=À R)(e:xI .zD ĩd=À á)(d:ſa<=3)(f:uj Ñh=À (Â,.int x)):jH Ϧa=À (Â,.tup ŋc):=by let b:=Tn x0 x1;rw[g]at b;rw[Ŷp];rw[Ę (show ¬ n<=20 by omega),Ïe]at a;let:=R1 b c j i e d a Ğh ďc f;rw[this,Ó rfl]
theorem y2c{p:Å}{t:Ç}:MX ðl ϗd 0 0:=by refine{by decide,by decide,by decide,by decide,λd b a=>?_,λd b a=>?_,λd=>?_,?_,{_,rfl,by simp,by simp,rfl}};show nu (w := ϥ) (c:=0) (m:=0) rfl rfl Í Í Í Í Ϟn b a;show lO (w := ϥ) (c:=0) (m:=0) rfl rfl Ϟn b a;refine oG (n:=18) (k := ϥ) (fs:=[]) (R:=[]) (Z:=18*134217728) É É É Í Í rfl rfl rfl rfl ê (Hq (c:=18) Í Í rfl) É;show lZ (n:=21) (k := ϥ) (fs:=[]) (R:=[]) É É É Í Í rfl rfl rfl rfl ê (Hq (c:=21) Í Í rfl)
def z6v{w k:Ç}{p:Å}{t:Ç}(b:w = Ϗ \/ w = ώ)(hk:k = Ña \/ k = ÿa \/ k = Óa):MX ßd ľc (cJ ßd) (mJ ßd):=by
 obtain⟨c,q,C,A,r,e,z,y⟩:∃c:Ã,cJ ßd=(c:Å)/\1<=c/\c<=2/\xg Ya Za ĕ=À (Δ ϭn)/\xg YZ ZZ ĕ=À (Δ Ýi)/\ŵb Ϸc .zD=.str w/\ŵb Ŗe .zD=.str w:=by rcases b with rfl|rfl;show{1,by rfl,by decide,by decide,by rfl,by rfl,rfl,rfl};show{2,by rfl,by decide,by decide,by rfl,by rfl,rfl,rfl}
 obtain⟨m,u,B,f,s⟩:∃m:Ã,mJ ßd=(m:Å)/\m<3/\I_ W5 ća=À (.int (m:Å))/\nV.getD m .zD=.str k:=by rcases hk with rfl|rfl|rfl;show{0,by rfl,by decide,by rfl,rfl};show{1,by rfl,by decide,by rfl,rfl};show{2,by rfl,by decide,by rfl,rfl}
 rw[q,u];let g:t8 Řa=À (Ä,.lst ąe):=by rcases b with rfl|rfl<;>rfl
 let h:uF ėh=À (Â,.tup Àe):=by rcases b with rfl|rfl<;>rfl
 let a:∀x:Å,x/16777216%4=(m:Å)->qq [.int x,.str w,.str Ĉa]=À (Â,.str k):=λx v=>by let:=y1b (x:=x) h;rw[v,ō,s]at this;rw[Ũp]
 refine{by omega,by omega,by omega,by omega,λd i l=>?_,λd i l=>?_,λd=>?_,?_,{_,rfl,by simp,by simp,rfl}};show nu rfl r É É É É ål i l;show lO rfl e ål i l;let j:=a (ϭn*134217728+(m:Å)*16777216+d%32) É;show oG (n:=18+c) (k:=w) (fs:=ąe) (R:=Ĩb) (Z:=((18+c:Ã):Å)*134217728+(m:Å)*16777216) É É É É É z g żf rfl ê (lr g h f É É É É) É;let j:=a (Ýi*134217728+(m:Å)*16777216) É;let o:=lr (c:=((21+c:Ã):Å)) g h f É É É É;rw[show((21+c:Ã):Å)*134217728+(m:Å)*16777216=Ýi*134217728+(m:Å)*16777216 by omega]at o;show lZ (n:=21+c) (k:=w) (fs:=ąe) (R:=Ĩb) É É É É É y g żf rfl ê o
def y2b{n:Å}{L:Á D}{r y:D}(h:TU n r)(e:ZJ L r y):MX r y (cJ r) (mJ r):=by
 let{d,a,t,b,c}:=e.2.2.1.2 (by let{_,_,_,_,_,z,_}:=Bk h;show z);cases h with
 |wQ p0 p1=>
  match d,b,c with
  | [q],b,c=>cases b;subst c;show y2c| [],b,_=>cases b|_::_::_,b,_=>simp at b
 |Âa hw hk p0 p1=>
  match d,b,c with
  | [q,q2],b,c=>cases b;subst c;show z6v hw hk| [],b,_=>cases b| [_],b,_=>cases b|_::_::_::_,b,_=>simp at b
nonrec def w6a:Ê Ã->D
 |Æ=>.zD|À p=>.int (p:Å)
def Nk:FS:=(zQ (pJ 1 ħ Į)
    (zQ (yB 2 üd)
    âl))
def B3:FT:=(tE ϱm)
def Gj:FS:=
 (zQ Żf
  (zQ Ťo
  (zQ âl
  (zQ (DZ B3
   Nk)
  ūe))))
def TM:Á D->Ê ã:=FR 1 4 Gj
def y0z(x0:D):TM ë=yC 4 Gj ë:=rfl
def aK:FE:=Ļc
def Ek:FS:=
 (zm (e2 HY (xm 1 (Q8 0) Öa yc aK) ī))
def Jb:Á D->Ê ã:=FR 1 1 Ek
def z9i(x0:D):Jb ë=yC 1 Ek ë:=rfl
def Nl:FS:=(zQ (yB 5 (e2 zK ŗ ũa))
    (yP (kW (tE (e2 ZU Ğa Ϣ)) (Υa (e2 xP Ğa ħ) (e2 Xy Ğa Ā)))
     (zm Į)
     yY))
def Go:FS:=
 (zQ (yB 1 ċo)
  (zQ (Κ (zU Jb Ûa))
  (zQ (yP (tE (e2 xP ħ Ŋa))
   ķe
   yY)
  (zQ (ur (Q6 1) īb
   Nl)
  éb))))
def IE:Á D->Ê ã:=FR 1 6 Go
def y12(x0:D):IE ë=yC 6 Go ë:=rfl
def Ge:FS:=
 (zQ (yB 1 (zU IE ŀa))
  (zQ (yP (tE (e2 ZU Ā Ϣ))
   Ûb
   yY)
  (zm ċo)))
def VL:Á D->Ê ã:=FR 1 2 Ge
def y0u(x0:D):VL ë=yC 2 Ge ë:=rfl
nonrec def tA(A:Ã->Å):Ê Ã->D
 |Æ=>.zD|À p=>.int (A p)
structure Tb(ws:Á D)(n:Ã)(A:Ã->Å)(b:Ã->D)(tg:Ã->Ê Ã):È where
 up:∀i,i<n->A i<A ñ
 z:A 0=0
 e:A n=(Ŏa:Å)
 told:∀i,i<n->ju Ûm=À (Â,.tup ūk)
 fin:ju [.lst ws,.int ób]=À (Â,.zD)
 le:∀i p,i<n->tg i=À p->p<=n
 MB:n<=400
def tR(A:Ã->Å)(b:Ã->D)(tg:Ã->Ê Ã)(i:Ã):D:=.tup ūk
nonrec def xZ(A:Ã->Å)(n:Ã):Á Ľ:=(Ġc).map λi=>.inl Ñc
def wE(A:Ã->Å)(b:Ã->D)(tg:Ã->Ê Ã)(n:Ã):Á D:=(Ġc).map (tR A b tg)
def x2l{ks:Á Ľ}{vs:Á D}{k:Sum Å Ç}{v:D}(h:yh ks k=Â):wC ks k=ks++[k]/\wD ks vs k v=vs++[v]:=by unfold wC wD;rw[h];rw[Ċq]
def y2z(A:Ã->Å)(n:Ã):xZ A Ŋ=xZ A n++[.inl ób]:=by unfold xZ;rw[ďf,Ůa];rfl
def w3l(A:Ã->Å)(b:Ã->D)(tg:Ã->Ê Ã)(n:Ã):wE A b tg Ŋ=wE A b tg n++[tR A b tg n]:=by unfold wE;rw[ďf,Ůa];rfl
def y2y(A:Ã->Å)(n:Ã):(ĝa).length=n:=by unfold xZ;rw[ç,Ďb]
theorem nG{A:Ã->Å}{n:Ã}{x:Å}:yh ĝa ðj=Ä↔∃i,i<n/\A i=x:=by
 unfold yh xZ;rw[Ĵh]
 rw[Ěq];rintro⟨k,b,e⟩;let{i,a,rfl}:=Ų b;show{i,ŋb a,ϡb (ő e)};rintro⟨i,a,rfl⟩;show{_,Ϛb {i,êc a,rfl},ò rfl}
theorem mD{n:Ã}{A:Ã->Å}(b:∀i j,i<=n->j<=n->A i=A j->i=j){p:Ã}(c:p<n)(f:Ã->D):∀(l:Á Ã),p∈l->(∀i∈l,i<=n)->Ċ ßm Ėj ßi=À (f p)
 | [],h,_=>by cases h|a::l,h,hl=>by exact(if(Ϭ (A a):Sum Å Ç)=.inl (A p)then À (f a)else Ċ ßm Ėj ßi)=_;by_cases e:A a=A p;let:=b a p (hl a ĳ) ϩc e;rw[Ĝq];rw[Ó rfl];rw[Ô (λz=>e (ϡb z))];rcases ň h with rfl|h;show ß rfl e;show mD b c f l h λi d=>hl i ĳd
section
variable{ws:Á D}{n:Ã}{A:Ã->Å}{b:Ã->D}{tg:Ã->Ê Ã}(T:Tb ws n A b tg)
include T
theorem Tb.lt{i j:Ã}(h:i<j)(a:j<=n):A i<A j:=by
 induction j with
 |Øa=>omega|Ùa j ih=>have u:=T.up j É;by_cases e:i=j;rw[e];show u;let:=ih É É;omega
theorem Tb.inj{i j:Ã}(hi:i<=n)(a:j<=n)(e:A i=A j):i=j:=by rcases Ēh i j with h|h|h;let:=T.lt h a;omega;show h;let:=T.lt h hi;omega
theorem Tb.new{i:Ã}(hi:i<=n):yh ńd Ϧo=Â:=by
 cases c:yh ńd Ϧo with
 |Â=>rfl|Ä=>let{j,a,e}:=nG.mp c;let:=T.inj É hi e;omega
def Wf(n:Ã)(A:Ã->Å)(b:Ã->D)(tg:Ã->Ê Ã)(i:Ã):D:=if i<n then tR A b tg i else .zD
theorem Tb.tell{i:Ã}(hi:i<=n):ju Ûm=À (Â,Wf n A b tg i):=by
 unfold Wf;by_cases h:i<n;rw[Ó h];show T.told i h;let e:i=n:=by omega
 rw[Ô h,e];show T.fin
theorem z2v:∀(k i:Ã),i+k=n->j6 B3 Nk ϕ [À (Â,.lst ws),À (Ä,.dic ńd Ňn),À (Â,.int Ñc),À (Â,Wf n A b tg i)]=À (.nx [À (Â,.lst ws),À (Ä,.dic ĝa Űa),À (Â,.int ób),À (Â,.zD)])
 |0,i,h=>by
  let e:i=n:=by omega
  subst e;let f:Wf i A b tg i=.zD:=Ô Ãa;rw[f];show z30 ?_;unfold B3;rw[ĉq]
 |k+1,i,h=>by
  let g:i<n:=by omega
  let f:Wf n A b tg i=tR A b tg i:=Ó g;rw[f,z31 (σ':=[À (Â,.lst ws),À (Ä,.dic ũo Ϡm),À (Â,.int Ĝg),À (Â,Wf n A b tg ñ)])];show z2v k ñ É;unfold B3 tR;rw[ĉq];let{j,l}:=x2l (vs:=wE A b tg i) (v:=tR A b tg i) (T.new (Üa g));let a:=T.tell (i:=i+1) g;let m:(ńd).length<yb:=by rw[y2y];let:=T.MB;exact i<16777216;omega
  let d:zK (tR A b tg i) ϵ=À (Δ Ĝg):=rfl
  have c:pJ 1 ħ Į [À (Â,.lst ws),À (Ä,.dic ńd Ňn),À (Â,.int Ñc),À (Â,tR A b tg i)]=À (.nx [À (Â,.lst ws),À (Ä,.dic ũo Ϡm),À (Â,.int Ñc),À (Â,tR A b tg i)]):=by rw[y2z,w3l,<-j,<-l];exact(if(ńd).length<yb then _ else _)=_;rw[Ó m];rfl
  unfold Nk;generalize xZ A ñ=K1 at c d a ⊢;generalize wE A b tg ñ=V1 at c d a ⊢;generalize xZ A i=K0 at c d a ⊢;generalize wE A b tg i=V0 at c d a ⊢;generalize tR A b tg i=TD at c d a ⊢;generalize Wf n A b tg ñ=TL at c d a ⊢;simp only[Ò,c,d,a]
theorem z2w:TM ĕe=À (Ä,.dic ĝa Űa):=by let c:=T.tell (i:=0) Ċg;rw[T.z]at c;let a:=z00 Ŋ (z2v T n 0 (š n)) (by let:=T.MB;exact n+1<=100000000;omega);rw[T.z]at a;let e:xZ A 0=[]:=rfl;let d:wE A b tg 0=[]:=rfl;rw[e,d]at a;rw[y0z];unfold Gj;generalize Wf n A b tg 0=TL at c a ⊢;generalize xZ A n=KK at c a ⊢;generalize wE A b tg n=VV at c a ⊢;simp only[Ò,c,a]
theorem z5q:Jb [.dic ĝa Űa]=À (Â,.int ób):=by
 let e1:yq Öa yc aK Ϗk Űa=À ôo:=by
  let:=gI (g:=zu 1) (e:=aK) (σ:=Ϗk) (λd=>match d with|.tup [_,x,_]=>x|_=>.zD) (ds:=wE A b tg n) λd k=>by let{i,_,rfl}:=Ų k;show{_,rfl,rfl}
  rw[this];unfold wE;rw[Þa,Þa];rfl
 let e2:HY (Γ ôo) ń=À Ϫf:=by
  exact(Yh _).bind _=_;rw[ml];exact À (if(Ġc).map (λi=>A ñ)=[]then _ else _)=_;by_cases c:n=0;subst c;exact À (ý 0)=À (ý (A 0));rw[T.z];rw[Ô (by intro h;let:=ŋ żc h;rw[ç,Ďb]at this;show c this)]
  let:A n=L2.maxI ϔg:=by show L2.maxI_uniq ?_ λy j=>?_;show Ϛb {n-1,êc É,by rw[ϯd É]};let{i,f,rfl}:=Ų j;let f:=ŋb f;by_cases e:i+1=n;rw[e];rw[ċq];show ìa (T.lt É Đ)
  rw[<-this]
 rw[z9i];unfold Ek;generalize (ϔg).map ý=LL at *;let a:Q8 0 [À (Â,.dic ĝa Űa)]=À Űa:=rfl;generalize xZ A n=KK at a e1 e2 ⊢;generalize wE A b tg n=VV at a e1 e2 ⊢;simp only[Ò,a,e1,e2]
def Bi(A:Ã->Å)(b:Ã->D)(tg:Ã->Ê Ã)(n:Ã):Á D:=(Ġc).map λi=>Ċa [.int Ñc,tR A b tg i]
omit T in
theorem y23{x2 x3 x4 x5:Ê Sl}:Q6 1 [À (Â,.lst ws),À (Â,.dic ĝa Űa),x2,x3,x4,x5]=À (Bi A b tg n):=by
 let h:(ĝa).all p_=Ä:=ϑb λk a=>by let{i,_,rfl}:=Ų a;rfl
 exact(Ζe (ĝa) (Yv ĝa Űa))=_;rw[Ó h];unfold Yv xZ wE Bi;show ŋ À (óf λi=>?_);rw[Ìf,Ś,Ś,Ś];cases(Ía n)[i]? with
 |Æ=>rfl|À j=>rfl
theorem z8f:IE ĕe=À (Â,.zD):=by
 let e1:=z2w T;let e2:=z5q T;let d:xP Ϫf (.int (Ŏa:Å))=À á:=by rw[T.e];show QL (Yg rfl)
 let{σ',k,x3,x4,x5,rfl}:=jX (g:=wm 3 4) (b:=Nl) (λi σ=>∃x3 x4 x5,σ=[À (Â,.lst ws),À (Â,.dic ĝa Űa),À (Â,.int ób),x3,x4,x5]) (ds:=Bi A b tg n)
  (σ:=[À (Â,.lst ws),À (Â,.dic ĝa Űa),À (Â,.int ób),Æ,Æ,Æ]) 0 {Æ,Æ,Æ,rfl} (by
  rintro i v σ o ⟨x3,x4,x5,rfl⟩;let{j,m,rfl}:=Ų (ūa o);let m:=ŋb m;show{_,[À (Â,.lst ws),À (Â,.dic ĝa Űa),À (Â,.int ób),À (Â,.int (A j)),À (Â,tR A b tg j),À (Â,tA A (tg j))],rfl,.inl ?_,_,_,_,rfl};let a:zK (tR A b tg j) Àc=À (tA A (tg j)):=rfl;unfold Nl;cases h:tg j with
  |Æ=>
   rw[h]at a;let l:tA A Æ=.zD:=rfl;rw[l]at a ⊢;generalize tR A b tg j=TD at a ⊢;generalize xZ A n=KK at a ⊢;generalize wE A b tg n=VV at a ⊢;simp only[Ò,a]
  |À p=>
   rw[h]at a;let l:tA A (À p)=.int (A p):=rfl;rw[l]at a ⊢;let r:=T.le j p m h;by_cases e:p=n
   .let q:xP øe Ϫf=À á:=by rw[e];show QL (Yg rfl)
    generalize tR A b tg j=TD at a q ⊢;generalize xZ A n=KK at a q ⊢;generalize wE A b tg n=VV at a q ⊢;simp only[Ò,a,q]
   .let q:xP øe Ϫf=À Č:=QL (Q9 (by let:=T.lt (i:=p) (j:=n) É Đ;omega))
    let c:Xy øe (.dic ĝa Űa)=À á:=by exact(À (yh ĝa ßi)).bind _=_;rw[nG.mpr {p,by omega,rfl}];rfl
    generalize tR A b tg j=TD at a q c ⊢;generalize xZ A n=KK at a q c ⊢;generalize wE A b tg n=VV at a q c ⊢;simp only[Ò,a,q,c])
 let f:=y23 (ws:=ws) (A:=A) (b:=b) (tg:=tg) (n:=n) (x2:=À (Â,.int ób)) (x3:=Æ) (x4:=Æ) (x5:=Æ);rw[y12];unfold Go;generalize Bi A b tg n=IT at e1 e2 d f k ⊢;generalize xZ A n=KK at e1 e2 d f k ⊢;generalize wE A b tg n=VV at e1 e2 d f k ⊢;simp only[Ò,e1,e2,d,f,k]
theorem x8d:VL ĕe=À (Â,.dic ĝa Űa):=by let e1:=z8f T;let e2:=z2w T;rw[y0u];unfold Ge;generalize xZ A n=KK at e1 e2 ⊢;generalize wE A b tg n=VV at e1 e2 ⊢;rw[êq]
#print a
def qi(r:D):Ã:=match Yk r with
 |.int p=>ňe|_=>0
nonrec def z32(c m d:Å)(zE:Ð):Á Å:=bif zE then[Ŗe*134217728+m*16777216,d%4294967296]else[Ϸc*134217728+m*16777216+d%32]
def WN(r:D):Å:=match TN [r]with
 |À (_,.int v)=>v|_=>0
def dJ(Ö:Á D)(zE:Á Ã)(i:Ã):Å:=xM Ĩ ĺe-xM Ĩ i
def u0(Ö:Á D)(zE:Á Ã)(i:Ã):Á Å:=bif w8 ŀ then z32 (cJ ŀ) (mJ ŀ) Őn ĕp else[WN ŀ]
def wv(Ö:Á D)(zE:Á Ã):Ã->Á Å
 |0=>[]|n+1=>wv Ö zE n++u0 Ö zE n
def Xq(Ö:Á D)(i:Ã):D:=bif w8 ŀ then Ij ŀ else ϰb i .zD
def X7(Ö:Á D)(i:Ã):Ê Ã:=bif w8 ŀ then À ĺe else Æ
structure Wr(Ö zC:Á D)(zE:Á Ã):È where
 it:∀d∈zC,vE d
 li:īd<=1000
 he:vy (ZJ zC) Ö Śm
 hr:∀r∈Ö,ZM (Ĕ:Å) r
 hn:Ĕ<64
 hg:gF Ö zE=[]
 hj:∀i,zl zE i=Ä->w8 ŀ=Ä
structure W1(Ö zC:Á D)(zE:Á Ã)(i:Ã)(y:D):È where
 yi:Śm[i]?=À y
 pl:w8 ŀ=Â->y=ϰb i .zD/\Td y (WN y)/\zl zE i=Â/\tgt ŀ=.zD
 jm:w8 ŀ=Ä->MX ŀ y (cJ ŀ) (mJ ŀ)/\qi ŀ<=Ĕ/\tgt ŀ=.int (qi ŀ:Ã)/\(zl zE i=Â -> -16<=dJ Ö zE i/\dJ Ö zE i<=15) /\ -200<=dJ Ö zE i/\dJ Ö zE i<=200
theorem Tf(f:Ã->Ð):∀n:Ã,0<=xM f n/\xM f n<=2*n
 |0=>{Ėa _,Ėa _}|n+1=>by
  let{a,b}:=Tf f n;exact 0<=xM f n+âh/\xM f n+âh<=_
  rw[Ϩp]
section
variable{Ö zC:Á D}{zE:Á Ã}(W:Wr Ö zC zE)
include W
theorem Wr.one{i:Ã}(hi:i<Ĕ):∃y,W1 Ö zC zE i y:=by
 let{y,r,j}:=BI W.he (ğ hi);let b:ϰb i .zD=Ö[i]:=by rw[Úa,ğ hi];rfl
 let f:=W.hr _ (Ëb hi);show{y,r,λa=>?_,λa=>?_};rw[b]at a ⊢
 let t:tW Ö[i]:=by rcases f with h|h;show h;let{_,_,_,_,_,z,_}:=Bk h;rw[z]at a;cases a
 let g:y=Ö[i]:=j.2.2.1.1 a;let{v,w}:=x1z t;show{g,?_,?_,?_};rw[g];let:WN Ö[i]=v:=by unfold WN;rw[w.w]
 rw[this];show w;cases c:zl zE i with
 |Â=>rfl|Ä=>have:=W.hj i c;rw[b,a]at this;cases this
 unfold tgt;rw[a];rw[b]at a ⊢
 let l:TU (Ĕ:Å) Ö[i]:=by rcases f with h|h;let{_,_,_,_,z,_}:=WO h;rw[z]at a;cases a;show h
 let{_,p,_,_,_,_,_,_,k,x,A}:=Bk l;let n:qi Ö[i]=ňe:=by unfold qi;rw[k]
 let q:(qi Ö[i]:Å)=p:=by rw[n];omega
 let m:tgt Ö[i]=.int (qi Ö[i]:Ã):=by unfold tgt;rw[a,q];show k
 let C:=Tf Ĩ ŝf;let B:=Tf Ĩ i;let u:=W.hn;let o:dJ Ö zE i=xM Ĩ ŝf-xM Ĩ i:=by unfold dJ;rw[b]
 refine{y2b l j,by omega,m,λs=>?_,by omega,by omega}
 let e:YL Ö zE i=Â:=by
  cases z:YL Ö zE i with
  |Â=>rfl|Ä=>have:i∈gF Ö zE:=Őc {Őc {êc hi,by rw[s];rfl},z};rw[W.hg]at this;cases this
 unfold YL at e;rw[b,m]at e;let d:(decide (-16<=xM Ĩ ŝf-xM Ĩ i)&&decide (xM Ĩ ŝf-xM Ĩ i<=15))=Ä:=by simpa [P6,dv]using e
 rw[ě]at d;rw[o];show{ő d.1,ő d.2}
theorem Wr.z4i{i:Ã}(hi:i<Ĕ):((ϩh).length:Å)=if zl zE i then 2 else 1:=by
 let{y,h}:=Ŏg hi;unfold u0;cases hj:w8 ŀ with
 |Â=>rw[(h.pl hj).2.2.1];rfl|Ä=>unfold z32;cases zl zE i<;>rfl
theorem Wr.len:∀{n:Ã},n<=Ĕ->((wv Ö zE n).length:Å)=xM Ĩ n
 |0,_=>rfl|n+1,h=>by let a:=Wr.len (n:=n) É;let b:=W.z4i (i:=n) É;exact((wv Ö zE n++u0 Ö zE n).length:Å)=xM Ĩ n+(if zl zE n then 2 else 1);rw[î];omega
omit W in
theorem z58:∀{i n:Ã},i<=n->∃r,wv Ö zE n=wv Ö zE i++r
 |i,n,h=>by
  induction n with
  |Øa=>show{[],by rw[show i=0 by omega];rfl}|Ùa n ih=>by_cases e:i=n+1;show{[],by rw[e,ū]};let{r,q}:=ih É;show{r++u0 Ö zE n,by exact wv Ö zE n++u0 Ö zE n=_;rw[q,Ł]}
theorem Wr.at{i k:Ã}{v:Å}(hi:i<Ĕ)(hk:ϩh[k]?=À v):zK (Γ Œf) (Δ (xM Ĩ i+k))=À ūb/\xM Ĩ i+k<((ϯe).length:Å):=by
 let{r,e}:=z58 (Ö:=Ö) (zE:=zE) (i:=i+1) (n:=Ĕ) hi;let l:=W.len (n:=i) É;let a:k<(ϩh).length:=(ű hk).1;let e2:wv Ö zE ñ=wv Ö zE i++u0 Ö zE i:=rfl
 let g:ϯe[(Ņn).length+k]?=À v:=by rw[e,e2,Ł,ăb É,Äf,Ąb a];show hk
 let lt:=(ű g).1;refine{YK É ?_,by omega};rw[show(xM Ĩ i+(k:Å)).toNat=(Ņn).length+k by omega,Ś,g];rfl
theorem Wr.tb:Tb Œf Ĕ Ùg (Xq Ö) (X7 Ö):=by
 show{λi f=>?_,rfl,?_,λi f=>?_,?_,λi p f h=>?_,by let:=W.hn;omega};exact xM Ĩ i<xM Ĩ i+Ük
 rw[Ϩp];rw[ç];show(ĥo).symm;let{y,h}:=Ŏg f;let t:=Tf Ĩ i;let o:((Œf).length:Å)=((ϯe).length:Å):=by rw[ç]
 unfold Xq X7;exact _=À (Â,Ċa [_,.int ín,_]);cases hj:w8 ŀ with
 |Â=>
  let{G,w,C,_}:=h.pl hj;rw[G]at w;let g:=Âb (k:=0) (v:=WN ŀ) f (by unfold u0;rw[hj];rfl);rw[Ũh,Ŀf]at g;let{n,H,F}:=w.c;let e:=Tn w.v0 w.v1;rw[F]at e;let d:=Oe (n:=n) É;rw[Ę (show ¬ 18<=n by omega),Ėb]at d;let b:=Hl (n:=n) É;rw[Ę (show ¬ 21<=n by omega),Ėb]at b
  obtain⟨R,j⟩:∃R,ϰb i .zD=.tup R:=by
   let:=W.hr _ (Ëb f);let E:ϰb i .zD=Ö[i]:=by rw[Úa,ğ f];rfl
   rw[E];generalize Ö[i]=rr at this;rcases this with q|q<;>cases q<;>show{_,rfl}
  let B:=w.r;rw[j]at B g;have:=w1d {t.1,by rw[o];show g.2,g.1,by rw[<-j];show w.v0,by rw[<-j];show w.v1} (by rw[<-j];show e) b d B;rw[this,C,j];rfl
 |Ä=>
  let{w,P,U,I,Q,K}:=h.jm hj;let{R,j,_,_,_}:=w.hd;let T:=w.c0;let L:=w.c1;let J:=w.m0;let S:=w.m1;let A:xM Ĩ i+dJ Ö zE i=xM Ĩ ĺe:=by unfold dJ;omega
  cases hF:zl zE i with
  |Ä=>
   let m:u0 Ö zE i=[Ţf*134217728+mJ ŀ*16777216,dJ Ö zE i%4294967296]:=by rw[ϳp]
   let g:=Âb (k:=0) f ųh;rw[Ũh,Ŀf]at g;let z:=Âb (k:=1) f ųh;rw[show((1:Ã):Å)=1 from rfl]at z;let l:=w.fr;rw[j]at l;obtain⟨x,u⟩:∃x,x=Ţf*134217728+mJ ŀ*16777216:={_,rfl};obtain⟨n,s⟩:∃n:Ã,(n:Å)=21+cJ ŀ:={(Ţf).toNat,by omega};rw[<-u]at g l;let e:=Tn (x:=x) É É;rw[show x/134217728=(n:Å) by omega]at e;let b:=Hl (n:=n) É;rw[ò (show 21<=n by omega),ò (show n<=23 by omega),Öe]at b;let:=w19 (a:=xM Ĩ i) {t.1,by rw[o];show g.2,g.1,by omega,by omega} e b l z.1 (by rw[o];show z.2);rw[this,show xM Ĩ i+(if 2*(dJ Ö zE i%4294967296)<4294967296 then dJ Ö zE i%4294967296 else dJ Ö zE i%4294967296-4294967296)=xM Ĩ ĺe by rw[<-A];rw[Ϩp]];simp only[Íp,j];rfl
  |Â=>
   let m:u0 Ö zE i=[ţf*134217728+mJ ŀ*16777216+dJ Ö zE i%32]:=by rw[ϳp]
   let{N,O}:=I hF;let g:=Âb (k:=0) f ųh;rw[Ũh,Ŀf]at g;let l:=w.nr Őn;rw[j]at l;obtain⟨x,u⟩:∃x,x=ţf*134217728+mJ ŀ*16777216+dJ Ö zE i%32:={_,rfl};obtain⟨n,s⟩:∃n:Ã,(n:Å)=18+cJ ŀ:={(ţf).toNat,by omega};rw[<-u]at g l;let e:=Tn (x:=x) É É;rw[show x/134217728=(n:Å) by omega]at e;let b:=Hl (n:=n) É;rw[Ę (show ¬ 21<=n by omega),Ėb]at b;let d:=Oe (n:=n) É;rw[ò (show 18<=n by omega),ò (show n<=20 by omega),Öe]at d;let:=w1a (a:=xM Ĩ i) {t.1,by rw[o];show g.2,g.1,by omega,by omega} e b d l;rw[this,show xM Ĩ i+ϖe=xM Ĩ ĺe by rw[<-A];rw[Ϩp]];simp only[Íp,j];rfl
 show w1c (.inr ?_);rw[ç];show Int.le_of_eq ĥo;let{y,w}:=Ŏg f;unfold X7 at h;cases hj:w8 ŀ with
 |Â=>rw[hj]at h;cases h|Ä=>rw[hj]at h;cases h;show(w.jm hj).2.1
#print a
def y1z{zE:Á Ã}{n:Ã}:zl zE n=Ä↔n∈zE:=by
 unfold zl yR;rw[Ĵh]
 let e:∀a:Ã,xC Óe Ϟa=Ä↔a=n:=λa=>by let:xC Óe Ϟa=ąm:=rfl;rw[this,beq_iff_eq];omega
 rw[Ěq];rintro⟨x,c,h⟩;let{a,b,rfl}:=Ų c;show(e a).mp h▸b;show λh=>{_,Ϛb {n,h,rfl},(e n).mpr rfl}
def x3t{g:Á Ã->Á Ã}{zE R:Á Ã}{k:Ã}(h:k7 g zE R k):g R=[]:=by induction h<;>assumption
def x3s{Ö:Á D}{zE R:Á Ã}{k:Ã}(r:k7 Üg zE R k)(h:∀i∈zE,w8 ŀ=Ä):∀i∈R,w8 ŀ=Ä:=by
 induction r;show h;rename_i zE _ _ _ _ _ b;show b λi a=>?_
 let a:i∈zE++gF Ö zE:=(Łg).mem_iff.mp a;rcases ϗ a with a|a;show h i a;cases c:w8 ŀ with
 |Ä=>rfl|Â=>have:=(ňb a).2;rw[z5h c]at this;cases this
def z87{i:Ã}{e:FE}{σ:yD}{L W:Á D}(b:σ[i]?=À (À (Ä,.lst L)))(a:e σ=À (.lst W))(d:Ϛ<=1000)(c:įe<=2):U9 i e σ=À (υb (L++W)):=by unfold U9;rw[b,a];exact(if Ϛ+įe<=yb then _ else _)=_;rw[Ó Ϭe]
theorem w5r{Ö j:Á D}(h:∀d∈j,vE d)(A:Œa<=1000)(t:vy (ZJ j) Ö ύd)(F:∀r∈Ö,ZM (Ĕ:Å) r)(N:Ĕ<64) :∃zE k,k7 Üg [] zE k/\Wr Ö j zE/\TR [.lst j]=À (Ä,.lst Œf):=by
 let{R,T,G,_,_,B}:=lP h A t F N;let W:Wr Ö j R:={h,A,t,F,N,x3t G,λi p=>x3s G ϫd i (y1z.mp p)};show{R,T,G,W,?_};let I:=iq h A t F É (zE:=R);let S:=DY h;let K:=YT t
 let E:pp úe ώj=À üp:=by
  let Q:∀σ:yD,zU qr ŀa σ=À (Γ (j.filter λd=>!yS d))->pp úe σ=À üp:=λσ z=>by unfold pp;rw[z];rfl
  show Q _ (by simp only[Ò,S])
 let{σ',u,J,C,rfl}:=jX (g:=wm 4 5) (b:=Oa) (λi σ=>∃J C,σ=[À (Â,.lst j),À (Â,.lst ũd),À (Â,.lst Åf),À (Ä,.lst ÿi),J,C]) (ds:=ŵa ύd)
  (σ:=ώj) 0 {Æ,Æ,rfl} (by
  rintro i v σ o ⟨J,C,rfl⟩;rw[š]at *;rw[QN]at o
  let p:i<Ĕ:=by
   rw[K];cases z:ύd[i]? with
   |Æ=>rw[z]at o;cases o|À y=>show(ű z).1
  let{y,H}:=Ŏg p;rw[H.yi]at o;cases o
  let al:(ÿi).length<=900:=by let:=W.len (n:=i) É;let:=Tf Īc i;rw[ç];omega
  let P:ϰb i .zD=Ö[i]:=by rw[Úa,ğ p];rfl
  let a:zK ώi Ňa=À (dv Īc ϊk):=YK É (by rw[ō,P];show ir p)
  let f:xI Ňa (Γ ũd)=À (.bl (zl R i)):=by exact(Ix _ _).bind _=_;rw[y1q];rfl
  let O:(ðn).map ý=(ŗb).map ý++(ėd).map ý:=by exact(wv Ö R i++u0 Ö R i).map ý=_;rw[Ůa]
  show{_,[À (Â,.lst j),À (Â,.lst ũd),À (Â,.lst Åf),À (Ä,.lst (ιa ðn)),À (Â,.int (i:Å)),À (Â,y)],rfl,.inl ?_,_,_,rfl};rw[O];cases hj:w8 ŀ with
  |Â=>
   let{Y,w,nf,tn}:=H.pl hj;let l:u0 Ö R i=[WN y]:=by unfold u0;rw[hj,Y];rfl
   let c:=YI (L:=(ŗb).map ý) (r:=.int (WN y)) É;rw[tn]at a;let a:zK ώi Ňa=À .zD:=a;let q:=w.w;rw[l];unfold Oa;generalize (ŗb).map ý=LL at a q c ⊢;generalize v4 Ö Īc=DD at a q c ⊢;generalize WN y=PV at a q c ⊢;simp only[Ò,a,q,c]
  |Ä=>
   let{w,p1,tp,nr,d0,d1}:=H.jm hj;rw[tp]at a;let a:zK ώi Ňa=À (Δ Úi):=a;cases hF:zl R i with
   |Ä=>
    let m:=w.fw Úi É É
    let l:(ėd).map ý=[.int (Ţf*134217728+mJ ŀ*16777216),.int (dJ Ö R i%4294967296)]:=by rw[ϳp]
    rw[<-l]at m;rw[hF]at f;let x:((ėd).map ý).length<=2:=by rw[l];simp
    let Z:=z87 (i:=3) (e:=uW VF ϗg) (σ:=[À (Â,.lst j),À (Â,.lst ũd),À (Â,.lst Åf),À (Ä,.lst ÿi),À (Â,.int (i:Å)),À (Â,y)]) (L:=(ŗb).map ý) (W:=(ėd).map ý) rfl (by generalize (ŗb).map ý=LL at a m ⊢;generalize (ėd).map ý=WW at a m ⊢;generalize v4 Ö Īc=DD at a m ⊢;simp only[Ò,a,m]) É x
    unfold Oa
    rw[W8 (by
     generalize (ŗb).map ý=LL at a ⊢;generalize v4 Ö Īc=DD at a ⊢;simp only[Ò,a]),OT (by
     generalize (ŗb).map ý=LL at f ⊢;generalize v4 Ö Īc=DD at f ⊢;simp only[Ò,f])]
    show Z
   |Â=>
    let{U,X}:=nr hF;let s:=w.nw Úi U X
    let l:(ėd).map ý=[.int Èk]:=by rw[ϳp]
    rw[l];rw[hF]at f;let c:=YI (L:=(ŗb).map ý) (r:=.int Èk) É;unfold Oa;generalize ţf*134217728+mJ ŀ*16777216+dJ Ö R i%32=VV at a f s c ⊢;generalize (ŗb).map ý=LL at a f s c ⊢;generalize v4 Ö Īc=DD at a f s c ⊢;simp only[Ò,a,f,s,c])
 rw[Yr,š,<-K]at u;rw[y17];unfold Gw;generalize ŵa ύd=NN at B I E u ⊢;generalize v4 Ö Īc=DD at B I E u ⊢;simp only[Ò,B,I,E,u]
theorem Tr{r:D}{a:M}{w:Ç}(c:zK r ń=À ĕ)(b:Xw qy ĕ=À á):jF àp=À (àp,.fz .zD):=by rw[Hz];unfold Ig;simp only[Ŝ,c,b]
theorem z1p{C:Ç}(a:uU C){T fw fh:D}{e due done:Å}{s:M}(h:we ŏk=À (Â,.bl Ä)):qp ϰg=À (ϰg,.fz á):=by
 let b:=λτ:yD=>lA a (F:=we) (m := őa) (τ:=τ) Ő h
 rw[mH];unfold Mg;simp only[Ŝ,Qo,b]
section
variable{C:Ç}(hC:uU C)
include hC in
#print a
inductive IJ(n:Ã)(A:Ã->Å):D->D->D->D->È
 |Š {x y:D}:IJ n A ça ça x y
 |Ϻ {r x y:D} (h:TZ r):IJ n A r r x y
 |wQ {t:Ç} {p:Ã} (hp:p<=n):IJ n A ϗd (.tup Ĵi) Čd øe
 |Âa {w k t:Ç} {p:Ã} (hw:w = Ϗ \/ w = ώ) (hk:k = Ña \/ k = ÿa \/ k = Óa) (hp:p<=n):IJ n A ľc Ņi Čd øe
structure Tc(n:Ã)(A:Ã->Å)(T U:D):È where
 inj:∀i,i<=n->(A i=A n↔i=n)
 at_:∀i,i<n->∃r b x y,IJ n A r b x y/\zK T Ňa=À (.tup [r,.int ĳo,x])/\zK U ϩf=À (.tup [b,.int Ĝg,y])/\vd x=Ä/\vd y=Ä
section
variable{n:Ã}{A:Ã->Å}{T U fw fh:D}(W:Tc n A T U)
inductive Nx(n:Ã)(A:Ã->Å)(T U fw fh:D)(Ws:Á Å)(a b c:Ð)(ps:Á Ĝ)(i j:Ã):È
 |no (h1:we ãd=À (Â,.bl Ä)) (h2:we Ùd=À (Â,.bl Ä))
   (e1:qp ϑe=À (ϑe,.fz á)) (e2:qp Ϗe=À (Ϗe,.fz á)):Nx n A T U fw fh Ws a b c ps i j
 |go {Ws':Á Å} {a' b' c':Ð} {ps':Á Ĝ} {i':Ã} (w:qc Ws') (p:ul ps') (l:Ĥi<=ę+4) (hi:i'<=n)
   (h1:we ãd=À (Â,.bl Â)) (h2:we Ùd=À (Â,.bl Â))
   (e1:qp ϑe=À ([yk ď T n fw fh ϕe i' ıo],.fz Č)) (e2:qp Ϗe=À ([yk ē U ób fw fh ϕe łg ıo],.fz Č)):Nx n A T U fw fh Ws a b c ps i j
include W in
theorem nv{Ws:Á Å}{a b c:Ð}{ps:Á Ĝ}{i j:Ã}(L:qc Ws)(P:ul ps)(hp:ę<=800)(hi:i<=n):Nx n A T U fw fh Ws a b c ps i j:=by
 let J:we ãd=À (Â,.bl Ä)->we Ùd=À (Â,.bl Ä)->Nx n A T U fw fh Ws a b c ps i j:=λC B=>.no C B (z1p .row (by rw[uc];show C)) (z1p .word (by rw[uc];show B))
 by_cases z:i=n
 .subst z;show J ?_ ?_
  .rcases LK .row (T:=T) (fw:=fw) (fh:=fh) (sd:=xO Ħ a b c Ğ Ŀ) (row:=.zD) (nx:=.zD) (tg:=.zD) (e:=(i:Å)) (due:=(i:Å)) (done:=(j:Å)) (k:=Ä) Ŝm with z|⟨_,z⟩;rw[z,ò rfl];rfl;show z
  .rcases LK .word (T:=U) (fw:=fw) (fh:=fh) (sd:=xO Ħ a b c Ğ Ŀ) (row:=.zD) (nx:=.zD) (tg:=.zD) (e:=A i) (due:=A i) (done:=(j:Å)) (k:=Ä) Ŝm with z|⟨_,z⟩;rw[z,ò rfl];rfl;show z
 .let E:(i:Å)≠n:=by omega
  let o:A i≠A n:=λe=>z ((W.inj i hi).mp e)
  let{r,q,x,y,K,R,S,tx,ty}:=W.at_ i É
  let sd:∀{v:Ð},za r ça=À (.bl v)->za q ça=À (.bl v)->we ãd=À (Â,.bl v)/\we Ùd=À (Â,.bl v):=λ{v} N O=>by
   show{?_,?_}
   .rcases LK .row (fw:=fw) (fh:=fh) (sd:=xO Ħ a b c Ğ Ŀ) (e:=(n:Å)) (due:=(i:Å)) (done:=(j:Å)) (k:=v) (λ_=>{R,N})with z|⟨z,_⟩;rw[z,Ę E];rfl;show ß z E
   .rcases LK .word (fw:=fw) (fh:=fh) (sd:=xO Ħ a b c Ğ Ŀ) (e:=A n) (due:=A i) (done:=(j:Å)) (k:=v) (λ_=>{S,O})with z|⟨z,_⟩;rw[z,Ę o];rfl;show ß z o
  let Z:∀{u v:D}{k:Å},vd u=Ä->vd v=Ä->vd (.tup [u,.int k,v])=Ä:=λ{u v k} C B=>by exact(vd u&&(Ä&&(vd v&&Ä)))=Ä;rw[C,B];rfl
  let m:∀{g:Á Å}{G F I:Ð}{f:Á Ĝ} {ld:Ð} {i':Ã},qc g->ul f->Ĝa<=ę+4->i'<=n->za r ça=À á->za q ça=À á->vd r=Ä->vd q=Ä->jF ϐk=À ([st ĵg G F I ŭd Ūd,.fz r],.fz .zD)->jF [st Ħ a b c Ğ Ŀ,.fz q]=À ([st ĵg G F I ŭd Ūd,.fz q],.fz .zD)->jG [xO ĵg G F I ŭd Ūd,r]=À (Â,.bl ld)->jG [xO ĵg G F I ŭd Ūd,q]=À (Â,.bl ld)->(if ld then x else .int ĳo)=.int (i':Å)->(if ld then y else .int Ĝg)=.int łg->Nx n A T U fw fh Ws a b c ps i j:=λ{g G F I f ld i'} w p l Q N O p1 p2 d1 d2 l1 l2 g1 g2=>by let{C,B}:=sd N O;show .go w p l Q C B (z1o .row E R N (Z p1 tx) j5 d1 ld (by rw[uc];show l1) g1) (z1o .word o S O (Z p2 ty) j5 d2 ld (by rw[uc];show l2) g2)
  cases K with
  |Š=>let{C,B}:=sd (v:=Ä) rfl rfl;show J C B
  |Ϻ h=>have t:=w1f h.1 h.2;let{g,G,F,I,f,H}:=t.dr (a:=a) (b:=b) (c:=c) L P hp;show m (ld:=Â) (i':=i+1) H.w H.p H.l É t.st t.st t.tp t.tp H.e H.e (t.ld _) (t.ld _) rfl rfl
  |@wQ t p hp'=>show m (ld:=Ä) (i':=p) L P É hp' rfl rfl rfl rfl Ćl Ćl rfl rfl rfl rfl|@cond w k t p hw' hk hp'=>
   obtain⟨ld,Y,X⟩:∃ld:Ð,jG [xO Ħ a b c Ğ Ŀ,.tup Ĕl]=À (Â,.bl ld)/\jG [xO Ħ a b c Ğ Ŀ,.tup Ϙd]=À (Â,.bl ld):=by rcases hw' with rfl|rfl<;>rcases hk with rfl|rfl|rfl<;>show{_,rfl,rfl}
   let d:jF Ūk=À (Ūk,.fz .zD)/\jF Ĩk=À (Ĩk,.fz .zD):=by rcases hw' with rfl|rfl;show{Tr (w := Ϗ) rfl rfl,Tr (w := Ϗ) rfl rfl};show{Tr (w := ώ) rfl rfl,Tr (w := ώ) rfl rfl}
   let s:za ľc ça=À á/\za Ņi ça=À á:=by rcases hw' with rfl|rfl<;>show{rfl,rfl}
   cases ld with
   |Ä=>show m (ld:=Ä) (i':=p) L P É hp' s.1 s.2 rfl rfl d.1 d.2 Y X rfl rfl|Â=>show m (ld:=Â) (i':=i+1) L P É É s.1 s.2 rfl rfl d.1 d.2 Y X rfl rfl
include W in
#print a
def Ee:xB:=
 (xq (Δd (zU VL Ûa))
  (Γf (eL vF Ûa)))
def Ux:FM:=uE 4 5 Ee
def z9c(x0 x1 x2 x3:M):Ux űc=vH 4 5 Ee űc:=rfl
def x3u{g:Á Ã->Á Ã}{f R c:Á Ã}{k k':Ã}(a:k7 g f R k)(b:k7 g f c k'):R=c:=by induction a generalizing k';rename_i e;cases b;rfl;rename_i n _ _;show ß e n;rename_i n _ _ d;cases b;rename_i e;show ß e n;rename_i b;show d b
inductive Pz(Z:Á Úb):D->D->È
 |Š:Pz Z ça ça
 |Ϻ {r:D} (h:TZ r):Pz Z r r
 |wQ {q:Ç×Ã} (h:q∈Z):Pz Z (.tup [.str ϥ,.int (q.2:Å)]) ϻk
 |Âa {w k:Ç} {q:Ç×Ã} (hw:w = Ϗ \/ w = ώ) (hk:k = Ña \/ k = ÿa \/ k = Óa) (h:q∈Z):Pz Z (.tup [.str w,.str k,.int (q.2:Å)]) Ťk
theorem rB{Z:Á Úb}:∀{Ö:Á D},(∀r∈Ö,RJ Z TZ r)->∃rs,vy (Pz Z) rs Ö
 | [],_=>{[],.nil}|r::Ö,h=>by
  let{rs,e}:=rB λr a=>h r ϲb
  cases h r ĳ with
  |Ϻ z=>show{_,.cons (.plain z) e}|Š=>show{_,.cons .stop e}|wQ z=>show{_,.cons (.wQ z) e}|Âa hw hk z=>show{_,.cons (.cond hw hk z) e}
def rZ{Z:Á Úb}{Ö e:Á D}{n:Ã}(Y:TV Z Ö e)(i:∀q∈Z,q.2<=n){x y:D}(h:Pz Z x y):ZJ e x y/\ZM (n:Å) x:=by
 let d:∀{b:Ð}{p:È},b=Â->b=Ä->p:=λm g=>by rw[m]at g;cases g
 let f:∀{r:D},tW r->ZJ e r r/\ZM (n:Å) r:=λ{r} h=>by let{_,_,_,_,c,_}:=WO h;show{{.plain h,rfl,{λ_=>rfl,d c},rfl,d c},.inl h}
 cases h with
 |Š=>show f .stop|Ϻ h=>show f h.1|@wQ q h=>show{{.wQ _,rfl,{λz=>d z rfl,λ_=>{Ĵi,_,q.1,rfl,rfl}},rfl,λ_=>{q.1,q.2,rfl,Y.pl q h,rfl}},.inr (.wQ É ōl)}|@cond w k q hw hk h=>
  let j:∀a:D,w8 Ëh=Ä:=λa=>by rcases hw with rfl|rfl<;>rfl
  let l:∀a:D,yS Ëh=Â:=λa=>by rcases hw with rfl|rfl<;>rfl
  show{{.cond _ hw hk,by rw[l,l],{λz=>d z (j _),λ_=>{Ϙd,_,q.1,rfl,rfl}},by rw[j,j],λ_=>{q.1,q.2,rfl,Y.pl q h,rfl}},.inr (.cond hw hk É ōl)}
def z22{Z:Á Úb}{Ö a:Á D}(Y:TV Z Ö a){q:Ç×Ã}(h:q∈Z){r:D}(c:w8 r=Ä)(b:Yk r=.str q.1):qL a r=.int (q.2:Å):=by unfold qL;rw[c,b];exact(((v7 q.1 a).2).map λn:Ã=>ý n).getD .zD=_;rw[Y.pl q h];rfl
def w32{Z:Á Úb}{Ö g b:Á D}{zE:Á Ã}(Y:TV Z Ö g)(E:vy (Pz Z) b Ö)(s:∀q∈Z,q.2<=Ĕ)(W:Wr b g zE):Tc Ĕ Ùg (.dic ņd (kX Ö ŵn Ĕ)) ϻj:=by
 let u:=YT E;let T:=W.tb;rw[u]at T;refine{λi l=>{λe=>T.inj l Đ e,λe=>by rw[e]},λi l=>?_};let m:i<Ź:=by omega
 let{y,r,K}:=BI E (ğ m);let p:b.getD i .zD=b[i]:=by rw[Úa,ğ m];rfl
 let o:ϰb i .zD=y:=by rw[Úa,r];rfl
 let t:(ŵn).getD i .zD=qL g y:=by rw[Úa,Ś,r];rfl
 let f:=x8i (Ö:=Ö) (tgs:=Ųf (qL g)) l;rw[o,t]at f
 let d:zK ϻj (Δ Źf)=À (tR Ùg (Xq b) (X7 b) i):=by exact Ċ _ _ (.inl Źf)=_;show mD (λi j l n h=>T.inj l n h) l (tR Ùg (Xq b) (X7 b)) (Ía Ĕ) (êc l) λj n=>Üa (ŋb n)
 let A:Xq b i=bif w8 b[i]then Ij b[i]else b[i]:=by unfold Xq;rw[p]
 let v:X7 b i=bif w8 b[i]then À (qi b[i])else Æ:=by unfold X7;rw[p]
 unfold tR at d;rw[A,v]at d;generalize b[i]=x at K d;cases K with
 |Š=>show{_,_,_,_,.stop,f,d,rfl,rfl}|Ϻ h=>
  let{_,_,_,_,c,_}:=WO h.1;let z:qL g y=.zD:=by unfold qL;rw[c]
  rw[c]at d;rw[z]at f;show{_,_,_,_,.plain h,f,d,rfl,rfl}
 |@wQ q h=>rw[z22 Y h rfl rfl]at f;show{_,_,_,_,.wQ (s q h),f,d,rfl,rfl}|@cond w k q hw hk h=>
  let j:∀a:D,w8 Ëh=Ä:=λa=>by rcases hw with rfl|rfl<;>rfl
  rw[z22 Y h (j _) rfl]at f;rw[j]at d;show{_,_,_,_,.cond hw hk (s q h),f,d,rfl,rfl}
def w5j{ws:Á D}{b a:D}{Ws:Á Å}{ps:Á Ĝ}(g:VL ĕe=À (Â,b))(c:ża=8)(f:∀w∈Ws,0<=w/\w<4294967296)(e:XZ [a]=À (Ä,.dic Ğ Ŀ)) :Ux [.obj ē [] [],.fz ϗc,.fz ía,.fz a]=À ([yk ē b Ŏa ía ëd ϯg 0 0,.fz ϗc,.fz ía,.fz a],.fz .zD):=by let d:k9 (.obj ē [] []) 0 []=.p 0 []:=rfl;rw[z9c];unfold Ee;simp only[Ŝ,g,d,nh .word c f e]
inductive fJ(Z:Á Úb)(Ö zC:Á D):È
 |mk {T U:D} {A:Ã->Å} {ws įb:Á D} {zE:D} (W:Tc Ĕ A T U) (hA:A 0=0) (he:A Ĕ=Ŏa) (hs:∀i,i<=Ĕ->zK ŀf Ňa=À ϩf)
   (e1:TR áp=À (Ä,.lst ws)) (e2:VE áp=À (Â,zE)) (e3:VD [.lst zC,zE]=À (Ä,.lst įb)) (e4:VL ĕe=À (Â,U)) (hT:T=.dic ņd (kX Ö (Ųf (qL zC)) Ĕ)) (hb:∀i:Ã,0<=A i/\A i<=2*i):fJ Z Ö zC
def y3m{Z:Á Úb}{Ö a:Á D}(Y:TV Z Ö a)(w:∀r∈Ö,RJ Z TZ r)(c:∀q∈Z,q.2<=Ĕ)(z:Ĕ<=60):fJ Z Ö a:=by
 let{b,E}:=rB w;let l:=YT E
 let f:vy Ůe b Ōc:=by rw[Y.rw];show l6 (λx y h=>Ųo.1) E
 let p:∀r∈b,ZM (Ź:Å) r:=λr s=>by rw[l];let{i,o,rfl}:=âf s;let{y,_,h}:=BI E (ğ o);show Ųo.2
 let{zE,k,R,W,m}:=w5r Y.it Y.ln f p É;let{g,A,t,_,_,u}:=lP Y.it Y.ln f p É;cases x3u R t;let T:=W.tb;let n:=x8d T;let j:=fq Y.it (zE:=zE) (YT f).symm É;let v:=w32 Y E c W;rw[l]at T n j m;show .mk v rfl T.e (λi o=>EQ É) m u j n rfl (Tf _)
def aT:FE:=(wO (Ω ϔi))
def aX:FT:=(tE (e2 xP Çf ī))
def GW:FS:=
 (ut (xm 1 (vY (eL He ŀa)) Öa aX aT))
def J_:Á D->Ê ã:=FR 1 1 GW
def y0n(x0:D):J_ ë=yC 1 GW ë:=rfl
def EX:FS:=
 (ut (eL Vf (Α (e1 Ğl Ùl))))
def YD:Á D->Ê ã:=FR 1 1 EX
def z97(x0:D):YD ë=yC 1 EX ë:=rfl
def FI:FE:=(e2 zK (e1 (w6 [ŏ] Òb) Üm) Ā)
def EU:FS:=
 (Ωc (xm 1 (vY ŕe) Öa yc FI))
def YB:Á D->Ê ã:=FR 1 1 EU
def z94(x0:D):YB ë=yC 1 EU ë:=rfl
def EV:FS:=
 (ut (uW J_ (Α (e1 (w6 ãp ßa) Ùl))))
def YC:Á D->Ê ã:=FR 1 1 EV
def z95(x0:D):YC ë=yC 1 EV ë:=rfl
def EW:FS:=
 (zm Ϫg)
def XX:Á D->Ê ã:=FR 1 1 EW
def z96(x0:D):XX ë=yC 1 EW ë:=rfl
def EZ:FS:=
 (zm (Ξ (w6 ł Íc)))
def pT:Á D->Ê ã:=FR 1 1 EZ
def z99(x0:D):pT ë=yC 1 EZ ë:=rfl
nonrec def gW:Á Ĝ->Å->Å
 | [],_=>0|p::ps,a=>if p.1=a then p.2 else gW ps a
theorem m8{a:Å}:∀{ps:Á Ĝ},a∈Ϫ (·.1)->Ċ Ğ Ŀ Ħb=À ϛm
 | [],h=>ß h ê|p::ps,h=>by exact Ċ (.inl p.1::kP ps) (.int p.2::vP ps) Ħb=_;unfold Ċ gW;by_cases c:p.1=a;rw[Ó (ŋ Ϭ c),Ó c];rw[Ô (λz=>c (ϡb z)),Ô c];rw[ġ]at h;show m8 Ĺk
def n9{ps:Á Ĝ}{a:Å}(h:a∈Ϫ (·.1)):zK ëd èg=À ϛm:=by exact(u8 èg).bind _=_;show m8 h
def D4(ps:Á Ĝ):Á Å:=L2.isort (Ϫ (·.1))
def QJ(ps:Á Ĝ):Á D:=((D4 ps).filter λa=>decide ŏn).map λa=>.tup Òh
theorem y3x{ps:Á Ĝ}{a:Å}(h:a∈D4 ps):a∈Ϫ (·.1):=(ϛh (Ϫ (·.1))).mem_iff.mp h
theorem nE:∀(ps:Á Ĝ),QD Ğ=À (Ϫ (·.1))
 | []=>rfl|p::ps=>by exact(QD Ğ).bind _=_;rw[nE ps];rfl
def y37{g:FG}{c:FT}{e:FE}{σ:yD}(p:Å->Ð)(v:Å->D){ns:Á Å}(h:∀n∈ns,∃σ1,g êb σ=À σ1/\c σ1=À (p n)/\(p n=Ä->e σ1=À (v n))):yq g c e σ śd=À ((ns.filter p).map v):=by
 induction ns with
 |nil=>rfl|ó n ns ih=>
  let{σ1,e1,e2,b}:=h n ĳ;let a:=ih λm d=>h m ĳd
  exact yq g c e σ (.int n::wI ns)=_;cases q:p n with
  |Ä=>rw[q]at e2;simp only[yq,e1,Đb,e2,b q,a,Őm,q,Ů,ġ]|Â=>rw[q]at e2;simp only[yq,e1,Đb,e2,a,Őm,q,ŉb,áa]
theorem y4k{i:Å}:xP Ŭ ń=À (Ηa (i≠0)):=by
 exact À (ů (!(i==0)))=_
 congr 2
 rw[đq];rfl;rw[ò c];let:(i==0)=Â:=by simpa using c
 rw[this];rfl
def x0d{ps:Á Ĝ}:J_ Þn=À (Ä,.lst Ńe):=by
 let e1:He Þn=À (Γ ϕn):=by exact(QD Ğ).bind _=_;rw[nE];rfl
 let e2:yq Öa aX aT [À (Â,.dic Ğ Ŀ),Æ] ϕn=À Ńe:=y37 (λa=>decide ŏn) (λa=>.tup Òh) λn c=>by let b:=n9 (y3x c);show{_,rfl,?_,λ_=>?_};unfold aX;simp only[Ò,b,y4k];unfold aT;simp only[Ò,b]
 rw[y0n];unfold GW;rw[êq]
section
variable{C:Ç}(hC:uU C){T fw fh:D}{e due done:Å}{Ws:Á Å}{a b c:Ð}{ps:Á Ĝ}
include hC
theorem x3l:YD Ϩe=À (Ä,.lst Ħ):=by let d:Vf ŵf=À ía:=rfl;rw[z97];unfold EX;simp only[Ò,O1 hC,jQ,d]
theorem y3t:YB Ϩe=À (Â,.tup őc):=by
 let e1:yq Öa yc FI [À (Â,yd C T e fw fh Åb due done),Æ] W5=À őc:=by
  let h:∀m:Ç,FI [À (Â,yd C T e fw fh Åb due done),À (Â,.str m)]=zK Ĩd (.str m):=λm=>by unfold FI;simp only[Ò,O1 hC,Hj]
  unfold W5;simp only[yq,zu,yc,Đb,Øm,Öm,h,Aq,w1p,w1q]
 let e2:YW [.lst őc]=À (.tup őc):=rfl;rw[z94];unfold EU jV;rw[êq]
theorem y3z:YC Ϩe=À (Ä,.lst Ńe):=by rw[z95];unfold EV;simp only[Ò,O1 hC,Hi,x0d]
theorem r9{sd:D}:XX Ăb=À (Â,.int due):=by rw[z96];unfold EW;simp only[Ò,O0 hC]
theorem Qk{sd:D}:pT Ăb=À (Â,.int done):=by rw[z99];unfold EZ;simp only[Ò,z8b hC]
#print a
def z0r{C m:Ç}{T fw fh sd:D}{e due done:Å}(b:m ∉ qt){τ:yD}{a:FE}(h:a τ=À ád):wN C m a zF τ=À Ăb:=by unfold wN;rw[h];exact(match decide (C=C)&&!(decide Új)with|Ä=>À Ăb|Â=>Æ)=_;rw[ò rfl,Ę b];rfl
def Pv:FA:=(tj ī (e2 xD Ċo Ŕb))
def Nh:FS:=(zQ (yB 4 (ςa (e2 yp ϲd Į)))
    (pJ 2 (e2 zK (Ηb (e2 xD œh Ĳm) (zA (e2 xD œh (eC Ϭi)) (Α (e2 pj (eC (.int 65535)) (e2 xD œh Ìb))))) ϯm) (e2 xD (e2 wY ŗ Ìb) Æf)))
def FP:FE:=(wO (zA Ğa Łl))
def GH:FS:=
 (zQ űo
  (zQ (ur Pv Ÿb
   Nh)
  (zQ (Yz 2) (ut (xm 1 (Q7 2) Ŧa yc FP)))))
def Jr:Á D->Ê ã:=FR 2 5 GH
def y08(x0 x1:D):Jr û=yC 5 GH û:=rfl
theorem z2h:∀{ps:Á Ĝ} {p:Å×Å},(Ϫ (·.1)).Nodup->p∈ps->gW ps p.1=p.2
 |q::ps,p,nd,h=>by rw[ġ,Žm]at nd;unfold gW;rcases ň h with rfl|h;rw[Ó rfl];rw[Ô (λz:q.1=p.1=>nd.1 (by rw[z];show þh (f:=(·.1)) h))];show z2h nd.2 h
def y3y{ns:Á Å}(s:ŵ<=63)(B:∀m∈ns,vi m<=1048576):∃ps:Á Ĝ,ul ps/\ę<=4/\Jr [.lst ϡ,.int 38]=À (Ä,.lst Ńd):=by
 let{m,L,O,q}:=Yn s B (k:=38) Í Í;let J:(Ţm).length=(m%4).toNat:=by rw[ç,Ďb]
 let{σ',e1,ps,j,c,P,n,rfl}:=jX (g:=zu 3) (b:=Nh) (λi σ=>∃(ps:Á Ĝ) (j c:Ê Sl),ul ps/\ę<=i/\σ=[À (Â,.lst ϡ),À (Â,.int 38),À (Ä,.dic Ğ Ŀ),j,c])
  (ds:=wt (m%4).toNat) (σ:=ϧj) 0 {[],Æ,Æ,{nofun,nofun,ěf},Ϙ _,rfl} λi d σ o l=>by
   let{ps,j,c,P,n,rfl}:=l;rw[š]at n ⊢;let{N,rfl}:=Qr o;let H:i<4:=by omega
   let{μ,μ0,μ1,t}:=Yn s B (k:=39+(i:Å)) É É
   obtain⟨v,w,C,E⟩:∃v:Å,zK (.lst [.int (μ/256%65536),.int (μ/256%12),.int (65535-μ/256%3)]) (Δ (μ%3))=À ūb/\0<=v/\v<65536:=by rcases(show μ%3=0\/μ%3=1\/μ%3=2 by omega)with h|h|h<;>rw[h]<;>show{_,rfl,by omega,by omega}
   let u:u8 ūb=À (.inl v):=rfl;let y:(Ğ).length<yb:=by unfold kP;rw[ç];rw[Šp]
   let{K,F}:=z0t ps v Ϟh;show{_,[À (Â,.lst ϡ),À (Â,.int 38),À (Ä,.dic (kP ŉn) (vP ŉn)),À (Â,.int (i:Å)),À (Â,.int μ)],rfl,.inl ?_,vv ps v Ϟh,_,_,z0w P C E Ŕf ŕf,đ X1 (ìc n),rfl};rw[<-K,<-F];unfold Nh;generalize ϐa ý=NS at t w u y ⊢;simp only[Ò,Ϸ,t,w,pJ,u,y,Ů]
 rw[š,J]at n
 let r:Q7 2 [À (Â,.lst ϡ),À (Â,.int 38),À (Â,.dic Ğ Ŀ),j,c]=À ϝl:=by exact(Ζe (Ğ) ((Ğ).map Ïc))=_;rw[Ó (ϑb λx I=>by let{p,_,rfl}:=Ų I;rfl)];unfold kP;rw[Þa];rfl
 let A:yq Ŧa yc FP ϥj ϝl=À Ńd:=by
  let e:=gI (g:=zu 5) (e:=FP) (σ:=ϥj) (ds:=Ϫ λp=>ý p.1) (λd=>match d with|.int a=>.tup Òh|_=>.zD) λd o=>by let{p,l,rfl}:=Ų o;let G:=n9 (ps:=ps) (þh (f:=(·.1)) l);show{_,rfl,?_};unfold FP;simp only[Ò,G]
  rw[e,Þa];show ŋ À (ôd λp l=>?_);exact Ċa [.int p.1,.int (gW ps p.1)]=pD p;rw[z2h P.nd l];rfl
 refine{ps,P,by omega,?_}
 let z:Pv ϧj=À Ţm:=by unfold Pv;show Zo ?_ É;generalize ϐa ý=NS at q ⊢;simp only[Ò,q]
 rw[y08];unfold GH;generalize ϐa ý=NS at z e1 r A ⊢;simp only[Ò,z,e1,r,A]
nonrec def tq(z:Ç):Ð:=z.cps.toList.all λc=>decide (97<=c)&&decide (c<=122)
def Yo(z:Ç):Ð:=decide (1<=ü)&&(decide (ü<=8)&&tq z)
def iW(a b:Ç):(Ĭc).cps.toList=Ũn++ŧn:=èc
def nR{a b:Ç}(c:tq a=Ä)(d:tq b=Ä):tq Ĭc=Ä:=by unfold tq;rw[iW,List.all_append,ě];show{c,d}
def nS{k:Å}(b:0<=k)(a:k<26):tq Ũj=Ä:=by exact((decide (97<=97+ϛ)&&decide (97+ϛ<=122))&&Ä)=Ä;rw[ò É,ò É];rfl
def Nr{z:Ç}(h:tq z=Ä)(lo hi:Ê Å):tq įf=Ä:=
 ϑb λc a=>øa h c (ϟd (ōc (by let e:(įf).cps.toList=(Ťl).take Ϩg:=rfl;rw[e]at a;show a)))
def mG:∀(ts:Á Ç),(ÿo).cps.toList=(Ůh).flatten
 | []=>rfl|t::ts=>by
  let h:∀(c:Á Ç)(a:Ü Ã),(c.foldl ŋk a).toList=ĭe++(Ōg λt=>üa).flatten:=λc=>by
   induction c with
   |nil=>intro a;simp|ó u c ih=>intro a;rw[ćd,ih];let e:("" : Ç).cps=#[]:=rfl;rw[e];simp
  exact(ts.foldl ŋk t.cps).toList=_;rw[h];rfl
structure MP(N:Á Ç):È where
 nd:ϯc
 ok:∀t∈N,Yo t=Ä
def D8{t:Ç}(h:Yo t=Ä):1<=ϫ/\ϫ<=8/\tq t=Ä:=by unfold Yo at h;rw[ě,ě]at h;show{ő h.1,ő h.2.1,h.2.2}
def y4i{t:Ç}(b:1<=ϫ)(a:ϫ<=8)(h:tq t=Ä):Yo t=Ä:=by unfold Yo;rw[ò b,ò a,h];rfl
def YN:FS:=
 (zQ Ëk
  (zQ ĝl
  (zQ Ĝl
  (zQ Ņk
  (zQ Ţo
  (zQ (yP (Φb (νa (.str "set") ϧm))
   (Ωe (e2 xD ša Ĳm))
   yY)
  (zQ (yP (Φb Ãl)
   (Ωe (e2 xD ša êd))
   yY)
  (zQ (yP (Φb (Λf (νa ϛo Ϩm)))
   (Οa (zA ŗ (zA Ğa (Α (Μd (e2 xD ša Æf) (zA (e2 xD ša Ŕb) zF))))))
   yY)
  (zQ (yP (εc ãj)
   (Οa āk)
   yY)
  (zQ (yP (Φb (νa ħh áj))
   (Οa (zA (e2 zK (Ηb (eC Ŋi) (zA (eC Ϯb) (Α (eC ϭb)))) (e2 xD Ğa Ìb)) āk))
   yY)
  (zQ (yP (εc åj)
   (zm (wO ţb))
   yY)
  (Οa Ϗn))))))))))))
def Jv:Á D->Ê ã:=FR 3 7 YN
def Vj(x0 x1 x2:D):Jv ϙ=yC 7 YN ϙ:=rfl
def sQ:FA:=Ϙn
def aN:FE:=(zU Jv (zA (ςa (e2 yp (e2 yp Ā Ìb) Ŧe)) Ϗn))
def sR:FA:=(tj ī Ėf)
def aO:FE:=Ŧe
def FV:FT:=(tE (e2 za (e2 zK Ŧe šf) (e2 zK ŗ Ãd)))
def Bp:FS:=(zQ (yP żj
     Åk
     yY)
    (yP (tE (e2 ϫb Ãd Į))
     (pI 8 pf (e2 zK ša Ãd))
     yY))
def GJ:FS:=
 (zQ (yB 3 (e2 xD Ċo (e2 yp ħ ļ)))
  (zQ (yB 4 (zU Js (zA (zU t9 (Υ ϲd)) (Α Ėf))))
  (zQ (Θe (zA Ìb Ϭf) (ςa ϭm))
  (zQ (yB 6 (xm 1 sQ (zu 9) yc aN))
  (zQ (tL 8 Êc)
  (zQ (ur sR (zu 7)
   Bp)
  (pK 8)))))))
def Jt:Á D->Ê ã:=FR 3 9 GJ
def y0a(x0 x1 x2:D):Jt ϙ=yC 9 GJ ϙ:=rfl
def ic(z:Ç)(lo hi:Ê Å):(įf).length<=ü:=üg z lo hi
def z6z(z:Ç):(ϧ z Æ Ģj).length<=7:=by exact(θc (Ϟd 0) (č ü ü (À ((7:Ã):Å))-0)).size<=7;rw[čc,ĥ,Ïa];omega
def z75(z:Ç)(k:Ã):(ϧ z Æ Ěb).length+(ϧ z Ěb Æ).length=ü:=by exact(θc (Ϟd 0) (č ü ü Ěb-0)).size+(θc (Ϟd (č ü 0 Ěb)) (ü-č ü 0 Ěb)).size=_;let e:ßf=ü:=Ū;rw[čc,čc,ĥ,ĥ,Ĝf,áe,Ïa,Ïa,Đa,e,þa,Ņa üo];show Ňc üo
def y4j{m:Å}(m0:0<=m){Úc:Å}(n0:0<=Úc)(n1:Úc<=20):∃N:Á Ç,Ş=ďd/\ϯc/\(∀t∈N,Yo t=Ä)/\Js [.int m,.int Úc]=À (Ä,.lst ŝb):=by
 let E:sO [À (Â,.int m),À (Â,.int Úc),À (Â,.str ÿb),À (Â,.int že),Æ,Æ]=À šm:=Zo (n:=m%8) rfl É
 obtain⟨ts,e1,w⟩:∃ts:Á Ç,yq Ťe yc FQ ϗj šm=À ĥd/\∀t∈ts,ϫ=1/\tq t=Ä:=by
  let{q,R,K}:=Nm (g:=zu 6) (e:=FQ) (σ:=ϗj) (λ_ y=>∃t:Ç,y=.str t/\ϫ=1/\tq t=Ä) (ds:=wt (že).toNat) λd G=>by let{i,hi,rfl}:=F8 G;let{p,hp,Q}:=x1r ý Ϝd (i:=(i:Å)) É (show _<(7:Å) by omega);let{p0,p1}:=(show ∀p∈(Ϝd:Á Å),0<p/\p<20000 by rw[ţp]) p hp;let a:=fj (k:=m/8/p%26) É É;let v:decide (0<p)=Ä:=ò p0;let X:decide (p<18446744073709551616)=Ä:=ò É;show{_,.str (lt (m/8/p%26)),rfl,?_,_,rfl,By _,nS É É};unfold FQ;generalize Ŗa ý Ϝd=PS at Q;simp only[Ò,Q,v,X,a]
  let:∃ts:Á Ç,q=âb Ļ/\∀t∈ts,ϫ=1/\tq t=Ä:=by
   let h:∀x∈q,∃t:Ç,x=.str t/\ϫ=1/\tq t=Ä:=λx hx=>by let{_,_,r}:=HN K x hx;show r
   clear R K
   induction q with
   |nil=>show{[],rfl,λ_ h=>by cases h}|ó x q ih=>
    let{t,rfl,l}:=h x Īb;let{ts,rfl,ls}:=ih λy u=>h y Ďp
    show⟨t::ts,rfl,λy u=>by rcases ň u with rfl|u;show l;show ls y u⟩
  let{ts,rfl,h}:=this;show{ts,R,h}
 let Y:Ĭd=(že).toNat:=by
  let:=ŋ (λo=>(ĥg []).length) e1
  let h2:∀{g:FG}{e:FE}{σ:yD}{ds q:Á D},yq g yc e σ ds=À q->q.length=ø:=λ{g e σ ds}=>by
   induction ds with
   |nil=>intro q h;cases h;rfl|ó d ds ih=>intro q h;let{σ1,S,h}:=zJ (show(ϥc).bind _=À q from h);let{x,h3,h}:=zJ (show(ϲc).bind _=À q from h);let{ys,h4,h}:=zJ h;cases h;rw[ą,ą,ih h4]
  let:=h2 e1;rw[ç,F7]at this;rw[Ũp]
 let T:∀{l:Á Ç},(∀t∈l,ϫ=1)->(ś (·.length)).sum=Ăa:=λ{l}=>by
  induction l with
  |nil=>intro _;rfl|ó x l ih=>intro h;rw[ġ,ůc,ih λy u=>h y Ďp,h x Īb,ą];omega
 let e0:("" : Ç).length=0:=rfl;let jn:=y29 (sep := "") (ts:=ts) (by rw[T λt h=>(w t h).1,e0,Y];omega)
 let J:tq ÿo=Ä:=by
  unfold tq;rw[mG];show ϑb λc F=>?_
  let{l,hl,F}:=List.mem_flatten.mp F;let{t,h,rfl}:=Ų hl;show øa (w t h).2 c F
 generalize Ņb "" ts=W0 at jn J;obtain⟨W,I⟩:∃W:Ç,W=ϧ W0 Æ Ģj:={_,rfl};let lW:įe<=7:=by rw[I];show z6z W0
 let O:tq W=Ä:=by rw[I];show Nr J _ _
 let v:decide (0<m%8+1)=Ä:=ò É;obtain⟨f,s⟩:∃f:Å,f=m/64%(m%8+1):={_,rfl};let H:sP [À (Â,.int m),À (Â,.int Úc),À (Â,.str ÿb),À (Â,.int že),À (Â,.str W),À (Â,.int f)]=À (wt ďd):=Zo (n:=Úc) rfl É
 let e2:=gI (g:=zu 6) (e:=aM) (σ:=[À (Â,.int m),À (Â,.int Úc),À (Â,.str ÿb),À (Â,.int že),À (Â,.str W),À (Â,.int f),Æ]) ϑj (ds:=wt ďd) λd G=>by let{i,hi,rfl}:=F8 G;let a:=fj (k:=ğk%26) É É;let l1:=ic W Æ ϫa;let l2:=ic W ϫa Æ;let l3:=By Ñj;let s1:tH ŗ vj Úg Žj=À (.str (ϧ W Æ ϫa)):=rfl;let s2:tH ŗ Úg vj Žj=À (.str (ϧ W ϫa Æ)):=rfl;let A:=Ϯc (a:=ϧ W Æ ϫa) (b:=lt Ñj) É;let C:=Ϯc (a:=ϧ W Æ ϫa++lt Ñj) (b:=ϧ W ϫa Æ) (by rw[jW];omega);show{_,rfl,?_};unfold aM;simp only[Ò,s1,s2,Ϸ,a,A,C]
 let Z:(wt ďd).map ϑj=((ϓi).map λj:Ã=>ϧ W Æ ϫa++lt ùh++ϧ W ϫa Æ).map Ļ:=by rw[Þa,Þa];rfl
 rw[Z]at e2;refine{(ϓi).map λj:Ã=>ϧ W Æ ϫa++lt ùh++ϧ W ϫa Æ,by rw[ç,Ďb],?_,λt w=>?_,?_};show ĵl (List.Pairwise.imp_of_mem (λ{a b} P L U=>?_) (List.nodup_range (n:=ďd)));intro h;let P:=ŋb P;let L:=ŋb L;let S:=ŋ ğf h;let lc:∀x:Å,(lt x).cps.toList=[97+x.toNat]:=λ_=>rfl
 simp only[iW,lc,Ł,List.append_cancel_left_eq,Őb,Ćd,List.cons.injEq]at S;omega;let{j,_,rfl}:=Ų w;let cs:=z75 W f.toNat;rw[ãf (by rw[s];show ϒb _ É)]at cs;show y4i āl āl (nR (nR όo (nS É É)) όo);let B:YV (.str W0) Æ Ģj=À (.str W):=by rw[I];rfl
 rw[y09];unfold GI;generalize Ŗa Ļ (Ŗa (λj:Ã=>ϧ W Æ ϫa++lt ùh++ϧ W ϫa Æ) ϓi)=NN at E e1 jn v s B H e2 ⊢;generalize âb Ļ=TT at E e1 jn v s B H e2 ⊢;simp only[Ò,E,e1,jn,Ϸ,v,<-s,tH,vk,vj,B,H,e2]
abbrev LU:D:=.lst [.str ĺa,.str ώa,.str ìb,.str Ϸa,.str ïb,.str ôb,.str Ĳb,.str öb,.str üb,.str òb,.str Ţa,.str Şa,.str ϊa,.str όa,.str ĵa,.str śa,.str Őa,.str ϥ,.str Ϗ,.str ώ,.str Ëc,.str ĺa,.str ìb,.str Ϸa,.str Ϗ,.str ώ,.str Ţa,.str ôb]
theorem w5o:Jy []=À (Â,LU):=by rfl
def MZ(w:Ç):È:=(w = ĺa \/ w = ώa)\/(w = Şa \/ w = ϊa)\/(w = όa \/ w = ĵa \/ w = śa \/ w = Őa)\/(w = ìb \/ w = Ϸa \/ w = ïb \/ w = ôb \/ w = Ĳb \/ w = öb \/ w = üb \/ w = òb \/ w = Ţa)\/w = ϥ \/ (w = Ϗ \/ w = ώ)\/w = Ëc
nonrec def z2x(w:Ç):ųi (MZ w):=by unfold MZ;infer_instance
def w5m:((Ía 28).all λk:Ã=>match zK LU Òe with
  |À ĕ=>@decide (MZ w) (z2x w)|_=>Â)=Ä:=by rw[ţp]
def w5n{v:Å}(a:0<=v)(b:v<28):∃w:Ç,MZ w/\zK LU ūb=À ĕ:=by
 let h:=øa w5m v.toNat (êc É);rw[ãf a]at h;generalize zK LU ūb=o at h ⊢
 rw[üq];show{_,@of_decide_eq_true _ (z2x _) h,rfl};cases h
def DH{a b i:Å}(d:0<=i)(c:i<2):∃n,(n=a\/n=b)/\zK (.lst [.int a,.int b]) Ŭ=À êb:=by rcases(show i=0\/i=1 by omega)with rfl|rfl;rw[Ăq]
def U8{n:Ã}{b:FS}{ds:Á D}{r:Ê Fl}{o:Ð}{d:D}(h:b ïk=r)(e:r=À ϖc):yC n b ds=À (o,d):=by unfold yC;rw[h,e];rfl
def vm{f:FE}{σ:yD}{k:Ð}(h:f σ=À şd):tE f σ=À k:=by unfold tE;rw[h];rfl
def uV{c:FT}{a b:FS}{σ:yD}(h:c σ=À Â):zQ (yP c a yY) b σ=b σ:=kS ((W8 h).trans rfl)
def Tl{c:FT}{a b f:FS}{σ:yD}{o:Ð}{d:D}(h:c σ=À Ä)(e:a σ=À ϖc):zQ (yP c a f) b σ=À ϖc:=x62 ((OT h).trans e)
def x3w{N:Á Ç}(S:N≠[]){m:Å}(U:0<=m){d:Å}(hm:d=3\/d=8):∃r,jz N r/\Jv [.int m,.lst ŝb,.int d]=À (Â,r):=by
 let{w,c,E}:=w5n (v:=m%28) É É;let K:=w5o;let X:0<Ş:=ϙd S;let G:decide (0<d)=Ä:=ò É;obtain⟨q,L⟩:∃q:Å,q=m/28:={_,rfl};let u:=ϒb q (show d≠0 by omega);let T:=ãc q (show 0<d by omega);let x:=ϒb (q/8) (show d≠0 by omega);let O:=ãc (q/8) (show 0<d by omega);obtain⟨j,J⟩:∃z:Å,z=q%d:={_,rfl};obtain⟨e,B⟩:∃z:Å,z=q/8%d:={_,rfl};rw[<-J]at u T;rw[<-B]at x O
 have Ųe:∀yG:FS,zQ Ëk
  (zQ ĝl
  (zQ Ĝl
  (zQ Ņk
  (zQ Ţo yG)))) [À (Â,.int m),À (Â,.lst ŝb),À (Â,.int d),Æ,Æ,Æ,Æ]=yG [À (Â,.int q),À (Â,.lst ŝb),À (Â,.int d),À (Â,.str w),À (Â,.int j),À (Â,.int e),À (Â,.int ĺg)]:=λyG=>by
  generalize ϓa Ļ=NN at *
  rw[kS (σ':=[À (Â,.int m),À (Â,.lst NN),À (Â,.int d),À (Â,.str w),Æ,Æ,Æ]) (by generalize LU=WD at K E ⊢;simp only[Ò,K,E])]
  rw[kS (σ':=[À (Â,.int q),À (Â,.lst NN),À (Â,.int d),À (Â,.str w),Æ,Æ,Æ]) (by simp only[Ò,<-L])];rw[kS (σ':=[À (Â,.int q),À (Â,.lst NN),À (Â,.int d),À (Â,.str w),À (Â,.int j),Æ,Æ]) (by simp only[Ò,G,<-J])];rw[kS (σ':=[À (Â,.int q),À (Â,.lst NN),À (Â,.int d),À (Â,.str w),À (Â,.int j),À (Â,.int e),Æ]) (by simp only[Ò,G,<-B])];rw[kS (σ':=[À (Â,.int q),À (Â,.lst NN),À (Â,.int d),À (Â,.str w),À (Â,.int j),À (Â,.int e),À (Â,.int ĺg)]) (by rw[ĉq])]
 let nm:∃t∈N,zK āp (Δ ļh)=À òa:=by
  let R:=ϒb ĺg (show(Ş:Å)≠0 by omega);let Z:=ãc ĺg (show 0<(Ş:Å) by omega);let C:(ļh).toNat<Ş:=by omega
  show{N[(ļh).toNat],Ëb C,YK R (by rw[Ś,ğ C];rfl)}
 let{t,H,F}:=nm;let I:decide (0<(Ş:Å))=Ä:=ò É;rcases c with c|c|c|c|c|c|c;let{n,A,p}:=DH (a:=q/64%65536) (b:=q/64%3) (i:=q/32%2) É É;let f:xI ĕ ŀc=À Č:=by rcases c with rfl|rfl<;>rfl
 refine{_,.plain (.gk c u É (show 0<=n by omega) É),?_};rw[Ţp];show Tl (vm f) Òf;let{n,A,p}:=DH (a:=q/64%32) (b:=q/64%3) (i:=q/32%2) É É;let f:xI ĕ ŀc=À á:=by rcases c with rfl|rfl<;>rfl
 let g:xI ĕ Úd=À Č:=by rcases c with rfl|rfl<;>rfl
 refine{_,.plain (.ZF c u É (show 0<=n by omega) É),?_};rw[Ţp];show(Ģd).trans (Tl (vm g) Òf);let{n,A,p}:=DH (a:=q/64%256) (b:=q/64%4) (i:=q/32%2) É É;let f:xI ĕ ŀc=À á:=by rcases c with rfl|rfl|rfl|rfl<;>rfl
 let g:xI ĕ Úd=À á:=by rcases c with rfl|rfl|rfl|rfl<;>rfl
 let l:xI ĕ żd=À Č:=by rcases c with rfl|rfl|rfl|rfl<;>rfl
 refine{_,.plain (.mem c u É x É (show 0<=n by omega) É),?_};rw[Ţp];show(Ģd).trans ((Ęo).trans (Tl Ϯi Òf));let k:xI ĕ ŀc=À á/\xI ĕ Úd=À á/\xI ĕ żd=À á/\za ĕ Şb=À á/\xI ĕ Ϲg=À á/\za ĕ Ēb=À á:=by rcases c with rfl|rfl|rfl|rfl|rfl|rfl|rfl|rfl|rfl<;>show{rfl,rfl,rfl,rfl,rfl,rfl}
 let{f,g,l,o,s,y}:=k;refine{_,.plain (.two c u É x É),?_};rw[Ţp];show(Ģd).trans (ιc ((ėo).trans ((uV (vm y)).trans rfl)));subst c;let k:xI Şb ŀc=À á/\xI Şb Úd=À á/\xI Şb żd=À á/\za Şb Şb=À Č:={rfl,rfl,rfl,rfl};let{f,g,l,o}:=k;show{_,.wQ H,?_};rw[Ţp];show(Ģd).trans ((Ęo).trans ((uV Ϯi).trans (Tl (vm o) (by simp only[Ò,ç,I,F]))));let k:xI ĕ ŀc=À á/\xI ĕ Úd=À á/\xI ĕ żd=À á/\za ĕ Şb=À á/\xI ĕ Ϲg=À Č:=by rcases c with rfl|rfl<;>show{rfl,rfl,rfl,rfl,rfl}
 let{f,g,l,o,s}:=k
 obtain⟨Y,P,Q⟩:∃k:Ç,(k = Ña \/ k = ÿa \/ k = Óa)/\zK (.lst [.str Ña,.str ÿa,.str Óa]) (Δ (e%3))=À ća:=by rcases(show e%3=0\/e%3=1\/e%3=2 by omega)with h|h|h<;>rw[h];show{Ña,by simp,rfl};show{ÿa,by simp,rfl};show{Óa,by simp,rfl}
 show{_,.cond c P H,?_};rw[Ţp];show(Ģd).trans (ιc (Tl (vm s) (by simp only[Ò,ç,I,F,Q])));subst c;let k:xI Ēb ŀc=À á/\xI Ēb Úd=À á/\xI Ēb żd=À á/\za Ēb Şb=À á/\xI Ēb Ϲg=À á/\za Ēb Ēb=À Č:={rfl,rfl,rfl,rfl,rfl,rfl};let{f,g,l,o,s,y}:=k;show{_,.plain .stop,?_};rw[Ţp];show(Ģd).trans (ιc ((ėo).trans (Tl (vm y) rfl)))
structure PC(zC:Á D):È where
 it:∀d∈zC,vE d
 nd:(ûe yS).Nodup
 tg:∀d∈zC,w8 d=Ä->∃(t:Ç) (p:Ã),zK d Ďc=À òa/\(v7 t zC).2=À p
 ln:īd<=100
def Zf(t:Ç)(d:D):Ð:=xC (Yk d) òa
def y32{N:Á Ç}{d:D}(h:jz N d)(t:Ç):∃x,zK d Ďc=À x/\za x òa=À (.bl (Zf t d)):=by
 cases h with
 |Ϻ h=>cases h<;>show{_,rfl,rfl}|wQ ht=>show{_,rfl,rfl}|Âa hw hk ht=>show{_,rfl,rfl}
def x3v{N:Á Ç}{d:D}(h:jz N d)(a:w8 d=Ä):∃t∈N,zK d Ďc=À òa/\Zf t d=Ä:=by
 cases h with
 |Ϻ h=>let{_,_,_,_,c,_}:=WO h;rw[c]at a;cases a
 |wQ ht=>rename_i t;show{t,ht,rfl,Ŏb t}|Âa hw hk ht=>rename_i t;show{t,ht,rfl,Ŏb t}
structure fR(N:Á Ç)(R:Á D)(k:Ã)(L:Á D):È where
 it:∀d∈L,Xm N d
 rs:Ģb ŵc=Ĭg k
 nd:(Ģb yS).Nodup
 lb:∀d∈L,yS d=Ä->∃j,j<k/\∃t,N[j]?=À t/\d=xH t
 pl:∀j t,j<k->N[j]?=À t->(∃r∈R,Zf t r=Ä)->űb.2=À j
 ln:Ϛ<=2*k
theorem o7:∀{N:Á Ç},ϯc->∀{i j:Ã}{u:Ç},N[i]?=À u->N[j]?=À u->i=j
 | [],_,_,_,_,h,_=>by cases h|x::N,h,0,0,_,_,_=>rfl|x::N,h,0,j+1,u,hi,hj=>by cases hi;show ß (ūa ϱl) ęj.1|x::N,h,i+1,0,u,hi,hj=>by cases hj;show ß (ūa ąh) ęj.1|x::N,h,i+1,j+1,u,hi,hj=>by rw[o7 ęj.2 (i:=i) (j:=j) ąh ϱl]
theorem nI{t u:Ç}(h:xH t=xH u):t=u:=by
 unfold xH at h;injection h with h
 injection h with _ h
 injection h with h _
 injection h
def x79{N:Á Ç}(q:ϯc){R L:Á D}{k:Ã}(S:fR N R k L){t:Ç}(l:N[k]?=À t)(hk:k<=ſa) :(∀d∈L++[xH t],Xm N d)/\(či).filter ŵc=Ĭg k/\((či).filter yS).Nodup/\(∀d∈L++[xH t],yS d=Ä->∃j,j<k+1/\∃t,N[j]?=À t/\d=xH t)/\(∀j u,j<k+1->N[j]?=À u->(∃r∈R,Zf u r=Ä)->(v7 u či).2=À j):=by
 let g:∀{i j:Ã}{u:Ç},N[i]?=À u->N[j]?=À u->i=j:=λw m=>o7 q w m
 show{λd c=>?_,?_,?_,λd c o=>?_,λj u m f v=>?_};rcases ϗ c with c|c;show S.it d c;cases ϖ c;show .inr {t,ūa l,rfl};rw[ϙa,S.rs];exact Ĭg k++[]=_;rw[ū];rw[ϙa];exact(Ģb yS++[xH t]).Nodup;refine Ķl {S.nd,List.nodup_cons.mpr {by simp,ěf},λa p b s e=>?_};cases ϖ s;let{p,o}:=ňb p;let{j,m,u,f,n}:=S.lb a p o;let:=nI (n.symm.trans e);rw[Ĝq];let:=g f l;omega;rcases ϗ c with c|c;let{j,m,u,f,n}:=S.lb d c o;show{j,by omega,u,f,n};cases ϖ c;show{k,by omega,t,l,rfl};rw[PY];by_cases e:t=u;subst e;let:=g f l;rw[Ó rfl,S.rs,Ïa,this]
 congr 1
 omega;rw[Ô e];show S.pl j u ?_ f v;rcases Ði j k with h|h;show h;let:j=k:=by omega
 rw[Ĝq];rw[l]at f;cases f;show ß rfl e
def x26{ns:Á Å}(C:ŵ<=63)(hb:∀m∈ns,vi m<=1048576){first Àb:Å}(f0:0<=first)(O:first<=40)(m0:0<=Àb)(m1:Àb<=14) :∃(N:Á Ç) (R zC:Á D),ſa<=14/\Ş=ſa+1/\ϯc/\(∀r∈R,jz N r)/\PC zC/\ûe ŵc=R/\īd<=40/\Jt [.lst ϡ,.int first,.int Àb]=À (Ä,.lst zC)/\(∀t∈N,Yo t=Ä)/\∀t,xH t∈zC->t∈N:=by
 let{a,a0,a1,ea}:=Yn C hb (k:=first) f0 É;let{b,b0,b1,eb}:=Yn C hb (k:=first+1) É É;let{c,c0,c1,U}:=Yn C hb (k:=first+2) É É
 let em:∀i:Ã,i<20->∃m:Å,0<=m/\t9 [.lst ϡ,.int (first+3+(i:Å))]=À (Â,.int m):=λi hi=>by let{m,h0,_,e}:=Yn C hb (k:=first+3+(i:Å)) É É;show{m,h0,e}
 generalize Ùc ϡ=s at ea eb U em ⊢;let g0:decide (0<Àb+1)=Ä:=ò É;obtain⟨l,F⟩:∃z:Å,z=a%(Àb+1):={_,rfl};let ct0:0<=l:=by rw[F];show ϒb _ É
 let ct1:l<Àb+1:=by rw[F];show ãc _ É
 let{N,nl,nd,X,en}:=y4j b0 (Úc:=l+1) É É;let nn:N≠[]:=λz=>by rw[z]at nl;simp at nl;omega
 let{A,hmn,Y}:=DH (a:=3) (b:=8) (i:=c%2) É É;let r1:sQ [À (Â,s),À (Â,.int first),À (Â,.int Àb),À (Â,.int l),À (Â,.lst ŝb),À (Â,.int A),Æ,Æ,Æ]=À (wt Ĝc):=Zo (n:=l) rfl É
 let{R,e1,eR}:=Nm (g:=zu 9) (e:=aN) (σ:=[À (Â,s),À (Â,.int first),À (Â,.int Àb),À (Â,.int l),À (Â,.lst ŝb),À (Â,.int A),Æ,Æ,Æ,Æ]) (λ_ y=>jz N y) (ds:=wt Ĝc) λd o=>by let{i,hi,rfl}:=F8 o;let{m,h0,e}:=em i É;let{r,E,er}:=x3w nn h0 hmn;show{_,r,rfl,?_,E};unfold aN;generalize ϓa Ļ=NN at e er ⊢;simp only[Ò,Ϸ,e,er]
 have rl:ſa=Ĝc:=by rw[<-YT eR,F7]
 let hR:∀r∈R,jz N r:=λr E=>by let{_,_,h}:=HN eR r E;show h
 let r2:sR şg=À (wt (Ĝc+1)):=by let:=Zo (f:=e2 yp Į ļ) (τ:=şg) (n:=l+1) rfl É;rw[show(l+1).toNat=Ĝc+1 by omega]at this;rw[Ũp]
 let{σ',e3,L,x7,S,rfl}:=jX (g:=zu 7) (b:=Bp) (λi σ=>∃L x7,fR N R i L/\σ=[À (Â,s),À (Â,.int first),À (Â,.int Àb),À (Â,.int l),À (Â,.lst ŝb),À (Â,.int A),À (Â,.lst R),x7,À (Ä,.lst L)]) (ds:=wt (Ĝc+1))
  (σ:=şg) 0 {[],Æ,{ϫd,by rw[ťh];rfl,ěf,ϫd,(λj _ h=>ß h èf),Ϙ _},rfl} (by
  rintro i v σ hv ⟨L,x7,S,rfl⟩;let{hi,rfl}:=Qr hv;rw[š]at *;let hiN:i<Ş:=by omega
  let gN:N[i]?=À N[i]:=ğ hiN;let T:zK āp Ňa=À (.str N[i]):=YK É (by rw[ō,Ś,gN];rfl)
  let O:=Vt (g:=zu 9) (c:=FV) (e:=aO) (σ:=[À (Â,s),À (Â,.int first),À (Â,.int Àb),À (Â,.int l),À (Â,.lst ŝb),À (Â,.int A),À (Â,.lst R),À (Â,.int (i:Å)),À (Ä,.lst L),Æ]) åi id (ds:=R) λd o=>by let{x,q1,q2}:=y32 (hR d o) N[i];rw[Űp];unfold FV;generalize ϓa Ļ=NN at q1 T q2 ⊢;simp only[Ò,q1,T,q2]
  rw[źc]at O;let H:=P5 ĉn
  have lab:∃ w,yP żj
     Åk
     yY Şg=À (.nx Źj)/\
    îa<=2*i+1/\(∀d∈w,Xm N d)/\w.filter ŵc=Ĭg i/\(w.filter yS).Nodup/\(∀d∈w,yS d=Ä->∃j,j<i+1/\∃t,N[j]?=À t/\d=xH t)/\(∀j u,j<i+1->N[j]?=À u->(∃r∈R,Zf u r=Ä)->(v7 u w).2=À j):=by
   let q:=YI (L:=L) (r:=xH N[i]) (by let:=S.ln;omega);let B:=x79 nd S gN É;let ll:(L++[xH N[i]]).length<=2*i+1:=by rw[î];let:=S.ln;exact Ϛ+1<=_;omega
   unfold xH at q;cases hE:(ĉn).isEmpty with
   |Â=>
    rw[hE]at H;rw[Ēq];generalize ϓa Ļ=NN at O H T q ⊢;simp only[Ò,O,H,T,q]
   |Ä=>
    rw[hE]at H
    let I:¬ ∃r∈R,Zf N[i] r=Ä:=λ⟨r,E,h⟩=>by let:r∈R.filter åi:=Őc {E,h};rw[ϐl hE]at this;cases this
    by_cases hc:c/2%5=(i:Å)
    .let k:=Yg hc;rw[Ēq];generalize ϓa Ļ=NN at O H U k T q ⊢;simp only[Ò,O,H,Ϸ,U,k,T,q]
    .let k:=Q9 hc;show{L,?_,by let:=S.ln;omega,S.it,S.rs,S.nd,λd o C=>?_,λj u Q J E=>?_}
     .generalize ϓa Ļ=NN at *;simp only[Ò,O,H,Ϸ,U,k]
     .let{j,Q,t,Z,e}:=S.lb d o C;show{j,by omega,t,Z,e}
     .rcases Ði j i with h|h
      .show S.pl j u h J E
      .let:j=i:=by omega
       rw[Ĝq];rw[gN]at J;cases J;show ß E I
  let{w,el,ll,l1,l2,l3,l4,l5}:=lab;by_cases hir:i<Ĝc
  .let p:decide Ĳo=Ä:=ò É;let K:i<ſa:=by omega
   let P:zK (.lst R) Ňa=À R[i]:=YK É (by rw[ō];show ğ K);let q:=YI (L:=w) (r:=R[i]) É;let rA:=hR _ (Ëb K);let G:=(R0 rA).2;show{_,[À (Â,s),À (Â,.int first),À (Â,.int Àb),À (Â,.int l),À (Â,.lst ŝb),À (Â,.int A),À (Â,.lst R),À (Â,.int (i:Å)),À (Ä,.lst (w++[R[i]]))],rfl,.inl ?_,w++[R[i]],_,{?_,?_,?_,?_,?_,?_},rfl}
   .rw[ąq];generalize ϓa Ļ=NN at p P q ⊢;generalize R[i]=RI at p P q ⊢;simp only[Ò,p,P,q]
   .intro d o;rcases ϗ o with o|o
    .show l1 d o
    .cases ϖ o;show .inl rA
   .rw[ϙa,l2,ϐb Ŵh,žm,Ûd K]
   .rw[ϙa,éd (by rw[G];decide),žm,ū];show l3
   .intro d o C;rcases ϗ o with o|o
    .show l4 d o C
    .cases ϖ o;rw[G]at C;cases C
   .intro j u Q J E;rw[PZ G];show l5 j u Q J E
   .rw[î];exact îa+1<=_;omega
  .let p:decide Ĳo=Â:=Ę É;show{_,Źj,rfl,.inl ?_,w,_,{l1,?_,l3,l4,l5,by omega},rfl}
   .rw[ąq];generalize ϓa Ļ=NN at p ⊢;simp only[Ò,p]
   .rw[l2,ćb É,ćb É])
 rw[F7,š]at S;let ln:=S.ln;refine{N,R,L,by omega,by omega,nd,hR,{λd o=>NO (S.it d o),S.nd,λd o Q=>?_,by omega},by rw[S.rs,ćb É],by omega,?_,?_,λt Z=>?_};rcases S.it d o with h|⟨t,_,rfl⟩;let{t,Z,e,li}:=x3v h Q;let{j,hj2,ej}:=âf Z
 let dR:d∈R:=by
  let:d∈Ģb λd=>!yS d:=Őc {o,by rw[(R0 h).2];rfl}
  rw[S.rs]at this;show ōc this
 show{t,j,e,S.pl j t É (by rw[ğ hj2,ej]) {d,dR,li}};cases Q;rw[y0a];unfold GJ;generalize ϓa Ļ=NN at ea g0 F eb en U Y r1 e1 r2 e3 ⊢;simp only[Ò,ea,Ϸ,g0,<-F,eb,en,U,Y,r1,e1,r2,e3];show X;let{j,_,u,J,e}:=S.lb _ Z rfl;rw[nI e];show ūa J
def nm(n:Ã):Ç:=if n<26 then lt (n:Å) ++ "" else lt ((n/26-1:Ã):Å)++(lt ((n%26:Ã):Å) ++ "")
def aL:FE:=(e2 xI Ā (eC ϯb))
def Mm:FS:=
 (zQ (yP (ζ (kD .str ö))
   Ϥc
   yY)
  (zQ (yP (ςb (e2 ϫb Ŋa ļ) (e2 Āo Ŋa Þb))
   Ϥc
   yY)
  (zm (οb (xm 1 Ϲb Öa yc aL)))))
def Jm:Á D->Ê ã:=FR 1 1 Mm
def mN(x0:D):Jm ë=yC 1 Mm ë:=rfl
def VZ:FS:=
 (zQ (yP (θa (eC ēb))
   (zm (zU Jm Ęb))
   yY)
  (zQ (yP (θa æj)
   (zm (e2 HU ħ ŕe))
   yY)
  (zQ (yB 3 (u7 án śm (e2 zK ϰl ļ)))
  (zm (zU jq ϑn)))))
def T2:Á D->Ê ã:=FR 3 4 VZ
def O7(x0 x1 x2:D):T2 ϙ=yC 4 VZ ϙ:=rfl
def LW:FE:=(zU T2 (Ω ϐn))
def Ml:FS:=
 (zQ (yP (νb Ϥm (e2 za Ŋa ī))
   Ϥc
   yY)
  (zQ ťo
  (zQ (yP (νb (kD .str Ā) Ťm)
   Ϥc
   yY)
  (zQ ϲk
  (zQ (yP ċk
   Ϥc
   yY)
  (zm (οb (xm 2 Žk īb yc LW))))))))
def Xd:Á D->Ê ã:=FR 1 3 Ml
def mM(x0:D):Xd ë=yC 3 Ml ë:=rfl
inductive Kd where
 |Ņ|mark|num (m:Å)
nonrec def kI(z:Ç):Ð:=!(ác ÿb z 0 (ÿb : Ç).length 1).isEmpty
def y1r(z:Ç):xI Ϥa ϯb=À Ϲn:=rfl
def P7(t:Ç):Ð:=!decide Ϯh&&Įk
nonrec def y44(t:Ç):Ð:=(Ña : Ç)==t||((ÿa : Ç)==t||((Óa : Ç)==t||Â))
def uo:Kd->D->Ð
 |.name,.str t=>P7 t|.mark,.str t=>y44 t|.num m,.int i=>decide ĭc&&decide (i<m)|_,_=>Â
nonrec def qh:D->Ð
 |.dic _ _=>Â|.exc _=>Â|.obj _ _ _=>Â|_=>Ä
def y3c{σ:yD}{n:Ã}{e:FE}(a:∀z:Ç,∃σ1,zu n Ϥa σ=À σ1/\e σ1=À Ϲn)(t:Ç):yq (zu n) yc e σ (ųg λc=>.str {#[c]})=À ((ϖd).map ů):=by
 let:=gI (g:=zu n) (e:=e) (σ:=σ) (λd=>match d with|.str z=>.bl (kI z)|d=>d) (ds:=ųg λc=>.str {#[c]}) λd b=>by let{c,_,rfl}:=Ų b;show a _
 rw[this,Þa,Þa];rfl
def ER(a:Á Ð):Xu [.lst (źb ů)]=À Ům:=by exact(Xr _).bind _=_;rw[iK];rfl
def y4h{d:D}(h:qh d=Ä):Jm [d]=À (Â,.bl (uo .name d)):=by
 cases d with
 |str t=>
  let b:=y3c (n:=1) (e:=aL) (σ:=[À (Â,.str t),Æ]) (λz=>{_,rfl,by let:=y1r z;unfold aL;simp only[Ò,this]}) t;let a:=ER ϖd;exact _=À (Â,ů (!decide Ϯh&&Įk));rw[mN];unfold Mm;generalize ϖd=BB at *;cases h1:decide Ϯh with
  |Ä=>simp only[Ò,h1,Ėb]|Â=>
   cases h2:decide (8<(ϫ:Å))with
   |Ä=>simp only[Ò,h1,h2,Ėb,Ïe]|Â=>simp only[Ò,h1,h2,b,a]
 |dic ks ds=>cases h|exc _=>cases h|obj _ _ _=>cases h|_=>rw[mN];unfold Mm;simp only[Ò];rfl
def y3s{d:D}(h:qh d=Ä):HU d jV=À (.bl (uo .mark d)):=by
 cases d with
 |str t=>
  let e:∀u:Ç,xC ĭb òa=(u==t):=λu=>rfl
  exact À (ů (xC ûc òa||(xC Ϯb òa||(xC ϭb òa||Â))))=_;rw[e,e,e];rfl
 |dic ks ds=>cases h|exc _=>cases h|obj _ _ _=>cases h|lst xs=>rfl|tup xs=>rfl|int i=>
  let e:∀u:Ç,xC ĭb Ŭ=Â:=λu=>rfl
  exact À (ů (xC ûc Ŭ||(xC Ϯb Ŭ||(xC ϭb Ŭ||Â))))=_;rw[e,e,e];rfl
 |bl b=>
  let e:∀u:Ç,xC ĭb Ϭa=Â:=λu=>rfl
  exact À (ů (xC ûc Ϭa||(xC Ϯb Ϭa||(xC ϭb Ϭa||Â))))=_;rw[e,e,e];rfl
 |zD=>
  let e:∀u:Ç,xC ĭb .zD=Â:=λu=>rfl
  exact À (ů (xC ûc .zD||(xC Ϯb .zD||(xC ϭb .zD||Â))))=_;rw[e,e,e];rfl
def oH{d:D}(h:qh d=Ä){W m:Å}(a:qj 1 W=Ä)(b:1*2 ^ Ća=m):jq [d,.int W]=À (Â,.bl (uo ïj d)):=by
 cases d with
 |int i=>exact _=À (Â,ů (decide ĭc&&decide (i<m)));rw[K6];unfold Ii;cases h1:decide ĭc<;>simp only[Ò,h1,a,b,Ėb]|dic ks ds=>cases h|exc _=>cases h|obj _ _ _=>cases h|_=>rw[K6];unfold Ii;simp only[Ò];rfl
structure FK(w f:Ç)(k:Kd)(s:D):È where
 ft:∀d,qh d=Ä->T2 [.str w,.str f,d]=À (Â,.bl (uo k d))
 sh:(k=.name/\s=.str îb)\/(k=.mark/\s=.str Ĉa)\/∃m:Å,k=.num m/\s=.int m
def Hm(w:Ç):FK w îb .name ēb:=⟨λd h=>by
 let e:za ēb ēb=À Č:=by rfl
 let n:=y4h h;rw[O7];unfold VZ;simp only[Ò,e,n],.inl {rfl,rfl}⟩
def z8g(w:Ç):FK w Ĉa .mark ϲ:=⟨λd h=>by
 let e:za ϲ ēb=À á:=by rfl
 let e2:za ϲ ϲ=À Č:=by rfl
 let n:=y3s h;rw[O7];unfold VZ;simp only[Ò,e,e2,n],.inr (.inl {rfl,rfl})⟩
def Tz(w:Ç){f:Ç}(c:f = "d" \/ f = "s"):FK w f (.num 8) ϣ:=⟨λd h=>by
 let n:=oH h (W:=3) (m:=8) Í Í;rcases c with rfl|rfl;let e:za ųa ēb=À á:=by rfl
 let e2:za ųa ϲ=À á:=by rfl
 let a:za ųa Įa=À á:=by rfl
 let g:xg uO uP ųa=À ϗo:=by rfl
 let b:zK ϗo ϵ=À Ϩc:=rfl;rw[O7];unfold VZ;simp only[Ò,e,e2,a,g,b,n];let e:za Ób ēb=À á:=by rfl
 let e2:za Ób ϲ=À á:=by rfl
 let a:za Ób Įa=À á:=by rfl
 let g:xg uO uP Ób=À ϕo:=by rfl
 let b:zK ϕo ϵ=À Ϩc:=rfl;rw[O7];unfold VZ;simp only[Ò,e,e2,a,g,b,n],.inr (.inr {8,rfl,rfl})⟩
def Hn{w:Ç}{W m:Å}(a:xg O6 O9 ĕ=À (.int W))(b:qj 1 W=Ä)(c:1*2 ^ Ća=m):FK w "n" ïj Ŏd:=⟨λd h=>by
 let n:=oH h b c;let e:za Įa ēb=À á:=by rfl
 let e2:za Įa ϲ=À á:=by rfl
 let f:za Įa Įa=À Č:=by rfl
 rw[O7];unfold VZ;simp only[Ò,e,e2,f,a,n],.inr (.inr {m,rfl,rfl})⟩
structure fH(w:Ç)(fs:Á Ç):È where
 ni:Tt qf ĕ=À á
 gd:xg qf Vl ĕ=À ϔo
def ZP:Á Kd->Á D->Ð
 |k::ks,d::ds=>uo k d&&ZP ks ds| [],[]=>Ä|_,_=>Â
inductive VB(w:Ç):Á Ç->Á Kd->Á D->È
 |nil:VB w [] [] []
 |ó {f:Ç} {k:Kd} {s:D} {fs:Á Ç} {ks:Á Kd} {ss:Á D}:FK w f k s->VB w fs ks ss->VB w ŝd (k::ks) (s::ss)
def z8h{w:Ç}{fs:Á Ç}{ks:Á Kd}{ss:Á D}(h:VB w fs ks ss):Ĳa=Ĉ/\ss.length=Ĉ:=by induction h;rw[Ċq];rename_i a;show{ŋ (·+1) a.1,ŋ (·+1) a.2}
theorem z3b{w:Ç}{σ:yD}(a:∀f d:D,∃σ1,wm 3 4 (.tup [f,d]) σ=À σ1/\LW σ1=(T2 [.str w,f,d]).bind λr=>À r.2):∀{fs:Á Ç}{ks:Á Kd}{ss ds:Á D},VB w fs ks ss->(∀d∈ds,qh d=Ä)->ø=Ĉ->
  ∃bs:Á Ð,bs.all id=ZP ks ds/\yq īb yc LW σ (Íb Ùf ŭc ds)=À ŉf
 |_,_,_,ds,.nil,_,hl=>by
  cases ds with
  |nil=>show{[],rfl,rfl}|ó _ _=>cases hl
 |f::fs,k::ks,s::ss,ds,.cons F r,hn,hl=>by
  cases ds with
  |nil=>cases hl|ó d ds=>let{bs,b,e}:=z3b a r (ds:=ds) (λx c=>hn x ϖi) (by simpa using hl);let{σ1,e1,e2}:=a ŉd d;refine{uo k d::bs,by rw[ų,b];rfl,?_};rw[ġ,ńb];exact(wm 3 4 (.tup [.str f,d]) σ).bind _=_;rw[e1];exact(LW σ1).bind _=_;rw[e2,F.ft d (hn d Īb)];exact(yq _ _ _ _ _).bind _=_;rw[e];rfl
def y2x{w:Ç}{fs:Á Ç}{ks:Á Kd}{ss ds:Á D}(W:fH w fs)(F:VB w fs ks ss)(t:∀d∈ds,qh d=Ä)(hk:Ĉ<=5)(v:ø<=400) :Xd Ĳi=À (Â,.bl (ZP ks ds)):=by
 let{s,u}:=z8h F;let{c,e}:=W;let b:za Ìh ń=À á:=Q9 É;let l:(ŭc).length=Ĉ:=by rw[ç,s]
 let n:ø≠Ĉ->ZP ks ds=Â:=λh=>by
  let g:∀{ks:Á Kd}{ds:Á D},ø≠Ĉ->ZP ks ds=Â:=λ{ks}=>by
   induction ks with
   |nil=>
    intro ds h;cases ds with
    |nil=>show ß rfl h|ó _ _=>rfl
   |ó k ks ih=>
    intro ds h;cases ds with
    |nil=>rfl|ó d ds=>exact(uo k d&&ZP ks ds)=Â;rw[ih ŭa,Ïe]
  show g h
 by_cases hl:ø=Ĉ;let q:YV žf ĉa Æ=À ğe:=by
  exact(if č Èc 0 ĉa=0/\č Èc Èc Æ=ø+1 then Æ else À (Ċa (tZ ďb ĉa Æ)))=_
  rw[Ô (λz=>by let:=z.1;rw[show(1:Å)=((1:Ã):Å)from rfl,čc]at this;omega)]
  unfold tZ;rw[show(1:Å)=((1:Ã):Å)from rfl,čc];exact À (Ċa ((List.drop (min 1 Èc) ďb).take (ø+1-min 1 Èc)))=_;rw[show min 1 Èc=1 by omega,show ø+1-1=ø by omega];exact À (Ċa (ds.take ø))=_;rw[îc]
 let a:xP Ìh ϟl=À á:=by let:=Yg (i:=((ø+1:Ã):Å)) (j:=(Ĉ:Å)+1) É;show QL this
 let{r,p,o}:=z3b (w:=w) (σ:=[À (Â,.tup ďb),À (Â,.str w),À (Â,.tup ŭc),Æ,Æ]) (λf d=>{_,rfl,by unfold LW;rw[ĉq]}) F t hl;let m:=ER r;rw[p]at m;rw[mM];unfold Ml;generalize r.map ů=BB at b c e l a q o m ⊢;generalize hF:Ŵb Ļ=FF at b c e l a q o m ⊢;simp only[Ò,b,kH,c,e,l,Ϸ,a,tm,tH,vk,vj,q,jc,o,m];let a:xP Ìh ϟl=À Č:=by let:=Q9 (i:=((ø+1:Ã):Å)) (j:=(Ĉ:Å)+1) É;show QL this
 rw[n hl,mM];unfold Ml;generalize hF:Ŵb Ļ=FF at b c e l a ⊢;simp only[Ò,b,kH,c,e,l,Ϸ,a]
theorem y3j{c:Ã}(b:97<=c)(a:c<=122):kI {#[c]}=Ä:=by
 let h:∀j:Fin 26,kI {#[97+j.val]}=Ä:=by rw[ţp]
 let:=h {c-97,by omega};rw[show 97+({c-97,by omega}:Fin 26).val=c by exact 97+(c-97)=c;omega]at this;rw[Ũp]
def P8{t:Ç}(h:Yo t=Ä):P7 t=Ä:=by
 let{g,f,a}:=D8 h;unfold P7;rw[Ę É,Ę É];exact(ϖd).all id=Ä;show ϑb λb d=>?_
 let{c,e,rfl}:=Ų d;let:=øa a c e;rw[ě]at this;show y3j (ő this.1) (ő this.2)
def Yq{m n:Å}(b:0<=n)(a:n<m):uo ïj êb=Ä:=by exact(decide (0<=n)&&decide (n<m))=Ä;rw[ò b,ò a];rfl
def y3l{N:Á Ç}(s:MP N){d:D}(h:Xm N d):Xd [d]=À (Â,.bl Ä):=by
 let g:∀{w:Ç}{fs:Á Ç}{ks:Á Kd}{ss ds:Á D},fH w fs->VB w fs ks ss->Ĉ<=5->(∀d∈ds,qh d=Ä)->ø<=400->ZP ks ds=Ä->Xd Ĳi=À (Â,.bl Ä):=λW F a b c e=>by let:=y2x W F b a c;rw[Ĳq];rw[Ũp]
 let u:∀{k:Kd}{x:D},uo k x=Ä->ZP [k] [x]=Ä:=λ{k x} h=>by exact(uo k x&&Ä)=Ä;rw[h];rfl
 let p:∀{k l:Kd}{x y:D},uo k x=Ä->uo l y=Ä->ZP [k,l] Ĵc=Ä:=λ{k l x y} j i=>by exact(uo k x&&(uo l y&&Ä))=Ä;rw[j,i];rfl
 let v:∀{k l m:Kd}{x y z:D},uo k x=Ä->uo l y=Ä->uo m z=Ä->ZP [k,l,m] [x,y,z]=Ä:=λ{k l m x y z} j i q=>by exact(uo k x&&(uo l y&&(uo m z&&Ä)))=Ä;rw[j,i,q];rfl
 let r:∀{x:D},qh x=Ä->∀d∈[x],qh d=Ä:=λh d f=>by rw[ϖ f];show h
 let o:∀{x y:D},qh x=Ä->qh y=Ä->∀d∈[x,y],qh d=Ä:=λj i d f=>by rcases ň f with rfl|f;show j;show r i d f
 let A:∀{x y z:D},qh x=Ä->qh y=Ä->qh z=Ä->∀d∈[x,y,z],qh d=Ä:=λj i q d f=>by rcases ň f with rfl|f;show j;show o i q d f
 rcases h with h|⟨t,ht,rfl⟩;cases h with
 |Ϻ h=>
  cases h with
  |Š=>show g (ks:=[]) (ss:=[]) {rfl,rfl} .nil ê ϫd ê rfl|gk hw d0 d1 z0 z1=>rename_i w x n;show g (fs:=âp) (ks:=[.num 8,.num 65536]) (ss:=[.int 8,.int 65536]) Žg (Ιc (Hn (W:=16) ϗa Í Í)) ê Şf ê Ãh
  |ZF hw d0 d1 z0 z1=>rename_i w x n;show g (fs:=âp) (ks:=[.num 8,.num 32]) (ss:=[.int 8,.int 32]) Žg (Ιc (Hn (W:=5) ϗa Í Í)) ê Şf ê Ãh
  |two hw d0 d1 z0 z1=>rename_i w x n;show g (fs:=["d","s"]) (ks:=[.num 8,.num 8]) (ss:=[.int 8,.int 8]) (by rcases hw with rfl|rfl|rfl|rfl|rfl|rfl|rfl|rfl|rfl<;>show{rfl,rfl}) (Ιc ſo) ê Şf ê Ãh
  |mem hw d0 d1 z0 z1 y0 y1=>rename_i w x n m;show g (fs:=["d","s","n"]) (ks:=[.num 8,.num 8,.num 256]) (ss:=[.int 8,.int 8,.int 256]) (by rcases hw with rfl|rfl|rfl|rfl<;>show{rfl,rfl}) (.cons (Tz w ĭ) (.cons ſo (ηb (Hn (W:=8) ϓe Í Í)))) ê (A rfl rfl rfl) ê (v (Yq d0 d1) (Yq z0 z1) (Yq y0 y1))
 |wQ ht=>show g (fs:=[îb]) (ks:=[.name]) (ss:=Ŏo) {rfl,rfl} Ŷn ê (r rfl) ê (u Łh)|Âa hw hk ht=>rename_i w B t;show g (fs:=[Ĉa,îb]) (ks:=[.mark,.name]) (ss:=[.str Ĉa,.str îb]) Žg (.cons (z8g w) (ηb (Hm w))) ê Şf ê (p (by rcases hk with rfl|rfl|rfl<;>rfl) Łh)
 show g (fs:=[îb]) (ks:=[.name]) (ss:=Ŏo) {rfl,rfl} Ŷn ê (r rfl) ê (u Łh)
nonrec def tO(c:Ã):Á Ã->Á àb
 | []=>[[]]|a::l=>if a=c then[]::tO c l else match tO c l with
  |p::r=>(a::p)::r| []=>[[a]]
theorem UH(c a:Ã)(l:Á Ã):tO c (a::l)=if a=c then[]::tO c l else match tO c l with
  |p::r=>(a::p)::r| []=>[[a]]:=rfl
nonrec def jn(c:Ã):Á àb->Á Ã
 | []=>[]| [p]=>p|p::q::r=>p++c::jn c (q::r)
theorem AT(c:Ã):∀l,∃p r,tO c l=p::r
 | []=>{_,_,rfl}|a::l=>by
  let{p,r,e}:=AT c l;rw[UH,e]
  split;show{_,_,rfl};show{_,_,rfl}
theorem Qg{c:Ã}:∀{p:Á Ã},c ∉ p->tO c p=[p]
 | [],_=>rfl|a::p,h=>by
  let b:¬ a=c:=λe=>h (by rw[e];show ĳ)
  rw[UH,Ô b,Qg źn]
theorem Dl(c:Ã):∀(p l:Á Ã),tO c (p++c::l)=tO c p++tO c l
 | [],l=>by rw[Ćd,UH,Ó rfl];rfl|a::p,l=>by
  rw[Őb,UH,UH,Dl c p l];let{q,r,e}:=AT c p;rw[e]
  split;rfl;rfl
theorem z18{c:Ã}:∀{ps:Á àb},ps≠[]->(∀p∈ps,c ∉ p)->tO c (jn c ps)=ps
 | [],h,_=>ß rfl h| [p],_,h=>Qg īp|p::q::r,_,h=>by exact tO c (p++c::jn c (q::r))=_;rw[Dl,Qg īp,z18 (ps:=q::r) ê λz a=>h z ϲb];rfl
theorem nA(c d:Ã):∀l,jn d (tO c l)=ś λa=>if a=c then d else a
 | []=>rfl|a::l=>by let b:=nA c d l;let{p,r,e}:=AT c l;rw[UH];rw[e]at b ⊢;by_cases h:a=c;rw[Ó h,ġ,Ó h,<-b];rfl;rw[Ô h,ġ,Ô h,<-b];cases r<;>rfl
def kB(a b:Ç):(Ĭc).cps.toList=Ũn++ŧn:=èc
theorem NP(c:Ã):∀ts:Á Ç,(Ïg {#[c]} ts).cps.toList=jn c Ůh
 | []=>rfl| [x]=>rfl|x::y::r=>by exact(x++{#[c]}++Ïg {#[c]} Ĵg).cps.toList=_;rw[kB,kB,NP c Ĵg,Ł];rfl
def AU(x:Ç)(c:Ã):(ãn).map řo=tO c Ŵc:=by let a:=ŋ ğf (StrLaws.join_split x {#[c]});let a:jn c ((ãn).map λt=>üa)=Ŵc:=(NP c _).symm.trans a;rw[<-a,z18];intro z;let:=ŋ żc z;rw[ç]at this;let p:=PyProof.Rows.split_pos x {#[c]};rw[this]at p;show ß p Í;intro p d;let{t,b,rfl}:=Ų d;show StrLaws.split_free x c t b
def x3n(x:Ç)(c d:Ã):(ϣe x {#[c]} {#[d]}).cps.toList=x.cps.toList.map λa=>if a=c then d else a:=by rw[StrLaws.replace_one,NP,AU,nA]
theorem z20{c:Ã}:∀{l:Á Ã},c ∉ l->Ío (· != c)=l
 | [],_=>rfl|a::l,h=>by rw[Ϸg (by simp;show λe=>h (e▸ĳ)),z20 źn]
theorem x0e(x:Ç)(c:Ã):Ād.1.cps.toList=x.cps.toList.takeWhile (· != c):=by
 let a:=ŋ ğf (Įl x {#[c]});let a:(Ād.1++Ād.2.1++Ād.2.2).cps.toList=Ŵc:=a;cases h:(ác x {#[c]} 0 Ça 1).isEmpty with
 |Ä=>
  let e:=PyProof.Rows.empty_one x c;rw[h]at e
  let d:c ∉ Ŵc:=λz=>by rw[ò z]at e;cases e
  rw[z20 d];unfold Ĺc;rw[ϐl h]
 |Â=>
  let q:=PyProof.Rows.from_first_some (x:=x) (y:={#[c]}) (z:={#[c]}) (c:=c) rfl rfl h;let q:=ŋ ğf (ÿc q)
  let q:(Ĉl).cps.toList=Ċl (· != c):=by rw[show(Ĉl).cps.toList=({(Ċl (· != c)).toArray}:Ç).cps.toList from q]
  let b:Ād.2.1={#[c]}:=by
   unfold Ĺc;cases ho:ác x {#[c]} 0 Ça 1 with
   |nil=>rw[ho]at h;cases h|ó i r=>rfl
  rw[b,kB,kB,Ł]at a;rw[kB]at q;rw[q]at a;let t:=List.takeWhile_append_dropWhile (p:=(· != c)) (l:=Ŵc);show List.append_cancel_right (a.trans t.symm)
nonrec def tb(a:Ã):Ã:=if a=9 then 32 else a
def W(l:Á Ã):Á àb:=(tO 32 ((Ío (· != 59)).map tb)).filter λp=>!p.isEmpty
def Bl(b:Ã):È:=b=32\/b=9
structure Wd(w:Á Ã):È where
 ne:w≠[]
 ok:∀a∈w,a≠32/\a≠9/\a≠59/\a≠10
def fZ:W []=[]:=rfl
def fW{b:Ã}(h:Bl b)(l:Á Ã):W (b::l)=W l:=by unfold W;rw[Ϸg (by rcases h with rfl|rfl<;>decide),ġ,show tb b=32 by rcases h with rfl|rfl<;>rfl,UH,Ó rfl,éd Í]
theorem z2y{w:Á Ã}(h:Wd w):w.map tb=w/\32 ∉ w/\(∀a∈w,(a != 59)=Ä):=by
 show{?_,λz=>(h.ok 32 z).1 rfl,λa b=>by simpa using(h.ok a b).2.2.1};let:w.map tb=w.map id:=ôd λa b=>Ô (h.ok a b).2.1
 rw[this,źc]
theorem ff{w:Á Ã}(h:Wd w){b:Ã}(a:Bl b)(l:Á Ã):W (w++b::l)=w::W l:=by
 let{e1,e2,c}:=z2y h;unfold W
 rw[όk c,Ϸg (by rcases a with rfl|rfl<;>decide),Ůa,e1,ġ,show tb b=32 by rcases a with rfl|rfl<;>rfl,Dl,Qg e2,Ĵl,ϐb (by
  cases w with
  |nil=>show ß rfl h.ne|ó _ _=>rfl)]
theorem fY{w:Á Ã}(h:Wd w){l:Á Ã}(a:l=[]\/∃r,l=59::r):W şj=[w]:=by
 let{e1,e2,b}:=z2y h
 let:(şj).takeWhile (· != 59)=w:=by rw[όk b];rcases a with rfl|⟨r,rfl⟩;show ū _;rw[List.takeWhile_cons_of_neg Í,ū]
 unfold W
 rw[this,e1,Qg e2,ϐb (by
  cases w with
  |nil=>show ß rfl h.ne|ó _ _=>rfl)]
 rfl
def z4z{g:Á Ã}(h:∀b∈g,Bl b)(l:Á Ã):W (g++l)=W l:=by
 induction g with
 |nil=>rfl|ó b g ih=>rw[Őb,fW (h b ĳ),ih λx a=>h x ϲb]
def z4s(g:Á Ã):È:=g≠[]/\∀b∈g,Bl b
nonrec def g9(m:Ã):Á Ã:=(Ľf 10 m).map Char.toNat
def z7e:∀d:Ã,d<10->(Nat.digitChar d).toNat=48+d:=by decide
def BC{m:Ã}(h:m<10):g9 m=[48+m]:=by unfold g9;rw[Nat.toDigits_of_lt_base h,ġ,Ĕd,z7e m h]
theorem im{m:Ã}(h:10<=m):g9 m=g9 Ŭd++[48+m%10]:=by let a:m%10<10:=Nat.mod_lt m Í;let t:Ľf 10 Ŭd++Ľf 10 (m%10)=Ľf 10 (10*Ŭd+m%10):=Nat.toDigits_append_toDigits Í É a;rw[Nat.div_add_mod]at t;let e:g9 (m%10)=[48+m%10]:=BC a;unfold g9 at e ⊢;rw[<-t,Ůa,e]
theorem z7f:∀m:Ã,g9 m≠[]/\(∀c∈g9 m,48<=c/\c<=57)/\(m≠0->(g9 m).head?≠À 48):=λm=>by
 induction m using Nat.strongRecOn with
 |_ m ih=>
  by_cases h:m<10;rw[BC h];refine{by simp,λc f=>?_,λg z=>?_};rw[ϖ f];omega;let:48+m=48:=Ĭa z;omega;let{a,b,c}:=ih Ŭd É;rw[im É];refine{by simp,λx d=>?_,λ_=>?_};rcases ϗ d with d|d;show b x d;rw[ϖ d];omega;cases e:g9 Ŭd with
  |nil=>show ß e a|ó y r=>have:=c É;rw[e]at this;show this
theorem io:∀(k m:Ã),m<10 ^ ϕ->(g9 m).length<=k+1
 |0,m,h=>by rw[BC ŭa];show Ϙ _|k+1,m,h=>by by_cases c:m<10;rw[BC c];exact 1<=_;omega;rw[im É,î];let:=io k Ŭd (by rw[Nat.div_lt_iff_lt_mul Í];rw[Nat.pow_succ]at h;show h);rw[āq]
nonrec def wB(n:Å):Ç:=Ϣb (ĭd n)
def z7d{n:Å}(h:0<=n):(ţa).cps.toList=g9 ϋa:=by let:=W.KIN.signs_num ϋa;rw[show((ϋa:Ã):Å)=n by omega]at this;rw[Ũp]
def z1m(z:Ç)(c:Ã):êf z {#[c]}=decide (z.cps.toList.head?=À c):=by let s:=ďm z c 0;rw[List.head?_eq_getElem?];show ϒl ?_;rw[œc,<-s];exact(decide Ϛk&&ĕm z {#[c]} 0)=Ä↔_;rw[ě,œc]
theorem lB(z:Ç)(c:Ã)(h:1<=ü):čf z {#[c]}=decide (Ēa[ü-1]?=À c):=by let s:=ďm z c (ü-1);show ϒl ?_;rw[œc,<-s];exact(decide Ϛk&&ĕm z {#[c]} (ü-1))=Ä↔_;rw[ě,œc];let e:({#[c]}:Ç).length=1:=rfl;rw[e];show{λq=>{by omega,q.2},λq=>{by omega,q.2}}
def aS:FE:=(e2 xI Ā (eC Œc))
def GV:FS:=
 (zQ (yP (qK (ο ġf) (tE (e2 Āo Ŋa (eC ϧa))))
   éb
   yY)
  (zQ (yP (ζ (οb (xm 1 Ϲb Öa yc aS)))
   éb
   yY)
  (zQ (yP (Υa (e2 Iz ö (eC ϋf)) (e2 xP ö (eC ϋf)))
   éb
   yY)
  (zm (eL HV ŀa)))))
def T8:Á D->Ê ã:=FR 1 1 GV
def y0m(x0:D):T8 ë=yC 1 GV ë:=rfl
def Ih:FS:=
 (zQ (yP (ο (eC Įa))
   (zm (zU T8 Ûa))
   yY)
  (zQ (yP (qK (ο (eC ųa)) (ο (eC Ób)))
   (zm (u7 (tE (e2 Iz Ā (eC ϊf))) (zU T8 (Α (tH Ā (vk ļ) vj))) Ϣ))
   yY)
  (zm Ā)))
def Jk:Á D->Ê ã:=FR 2 2 Ih
def H_(x0 x1:D):Jk û=yC 2 Ih û:=rfl
def aU:FE:=(zU Jk ϐn)
def Mr:FS:=
 (zQ ťo
  (zQ (yP (qK (θa (eC Ńa)) (tE Ťm))
   éb
   yY)
  (zQ ϲk
  (zQ (yP ċk
   éb
   yY)
  (Ωc (e2 yp (wA Ûa) (xm 2 Žk īb yc aU)))))))
def TF:Á D->Ê ã:=FR 1 3 Mr
def mS(x0:D):TF ë=yC 3 Mr ë:=rfl
def Mn:FS:=
 (zQ (yB 1 (zU TF ŀa))
  (zQ (yP (Υa (e2 za Ŋa ļ) (e2 Iw àc (eC (.str ":"))))
   (yB 1 (wO (zA (eC Ńa) (Α (tH àc vj (vk šf))))))
   yY)
  (zm (u7 (tE (zU Xd Ûa)) Ā Ϣ))))
def VH:Á D->Ê ã:=FR 1 2 Mn
def mO(x0:D):VH ë=yC 2 Mn ë:=rfl
def sN:FA:=(tj ļ Ŋa)
def Bo:FS:=(yP (tE (e2 (uJ fun i j=>decide (i≤j)) Į ħ))
     (pI 1 pf (e2 yp (eC ϊf) žk))
     (pI 1 pf žk))
def Mp:FS:=
 (zQ (yP (tE Ůl)
   (zm (e2 yp Ϭm (eC îe)))
   yY)
  (zQ (tL 1 (wA ϕi))
  (zQ (Κ (YR Ϭn àc ũa))
  (zQ (ur sN Ÿb
   Bo)
  (zQ űj (zm (e2 Ve (eC όf) Ā)))))))
def Jq:Á D->Ê ã:=FR 1 4 Mp
def mQ(x0:D):Jq ë=yC 4 Mp ë:=rfl
def z7m{c:Ã}(h:48<=c/\c<=57):xI Ķf Œc=À Č:=by
 exact À (ů (!(ác (ĸf : Ç) {#[c]} 0 (ĸf : Ç).length 1).isEmpty))=_;let e:(ĸf : Ç).cps.toList=[48,49,50,51,52,53,54,55,56,57]:=by rfl
 rw[StrLaws.found_one,e,ò (show c∈[48,49,50,51,52,53,54,55,56,57] by simp only[Ųa,Īa,ža];omega)]
theorem Ym(z:Ç):ßf=ü:=Ū
def y4l{z:Ç}(h:Ēa≠[]):za Ϥa łp=À á:=by
 rw[Äq];cases l with
 |nil=>show ß rfl h|ó a r=>rfl
def w60{z:Ç}(h:Ēa=[48]):z = "0":=by rw[Äq];cases(show l=[48]from h);rfl
def PF{n:Å}(r:0<=n)(y:n<100000):T8 ĳi=À (Â,.int n)/\(ţa).length<=5/\Wd (ţa).cps.toList:=by
 let l:=z7d r;let{m,o,s}:=z7f ϋa;let q:=io 4 ϋa (by exact _<100000;omega);rw[<-l]at m o s q;rw[Ym]at q;let f:=y4l m;let h:decide ((5:Å)<((ţa).length:Å))=Â:=Ę É
 let g:yq Öa yc aS [À (Â,.str ţa),Æ] Ťg=À òl:=gI én λd k=>by let{c,u,rfl}:=Ų k;let:=z7m (o c u);show{_,rfl,?_};unfold aS;simp only[Ò,this]
 let i:Xu [.lst òl]=À Č:=by
  let:=ER żl;rw[Þa]at this
  let e:(żl).all id=Ä:=ϑb λx v=>by let{_,_,rfl}:=Ų v;rfl
  rw[Ĳq];rw[Ũp]
 let b:HV ĳi=À êb:=by exact(if(ţa).length<=640 then(Íe ţa).bind _ else Æ)=_;rw[Ó É,show Íe ţa=À n from W.KIN.num_reads r É];rfl
 show{?_,q,{m,λa w=>by let:=o a w;omega}};let j:vF ĳi=À (.int (ţa).length):=rfl
 let st:Iz ſf ϋf=À (Ηa ((ţa).cps.toList.head?=À 48)):=by exact À (ů (êf ţa {#[48]}))=_;rw[z1m]
 rw[y0m];unfold GV;by_cases hz:n=0;let t:wB n = "0":=w60 (by rw[l,hz];rfl);let p:xP ſf ϋf=À á:=by rw[t];rfl
 let k:(ţa).cps.toList.head?=À 48:=by rw[l,hz];rfl
 rw[ò k]at st;generalize wB n=Z at f j h g i st p b ⊢;generalize Ãk=ZB at f j h g i st p b ⊢;simp only[Ò,f,j,h,g,i,st,p,b];rw[Ę (s É)]at st;generalize wB n=Z at f j h g i st b ⊢;generalize Ãk=ZB at f j h g i st b ⊢;simp only[Ò,f,j,h,g,i,st,b]
theorem DB{n:Å}(b:0<=n)(a:n<100000):Of n=Ä:=ò (by
 by_cases e:Ãj=0;rw[e];decide;let p:(2:Ã) ^ 17=131072:=by decide
 let:n.natAbs.log2<17:=(Nat.log2_lt e).mpr É;omega)
def üj{n:Å}(h:Of n=Ä):Tx [.int n]=À ſf:=by exact(match Of n with|Ä=>_|Â=>_)=_;rw[h];rfl
def z54{x:Ç}(h:Ça<=2000):yp ϊf Ĭb=À (.str ("r" ++ x)):=Ϯc Ăl
def DV(x:Ç):(őb).cps.toList=114::Ŵc:=by rw[kB];rfl
def x3h(x:Ç):ϧ őb ĉa Æ=x:=by
 let e:(ϧ őb ĉa Æ).cps.toList=Ŵc:=by
  exact(((őb).cps.toList.drop (č (őb).length 0 ĉa)).take (č (őb).length (őb).length Æ-č (őb).length 0 ĉa))=_
  let e1:č (őb).length 0 ĉa=1:=by let:=čc (("r" : Ç)++x).length 0 1;rw[show(((1:Ã):Å))=1 from rfl]at this;rw[this,jW];exact min 1 (1+Ça)=1;omega
  rw[e1,DV];exact(x.cps.toList.take _)=_;show ćb ?_;rw[Ym];exact _<=(őb).length-1;rw[jW];exact _<=1+Ça-1;omega
 obtain⟨⟨l⟩⟩:=x;rw[ϔp]
structure Pq(f:Ç)(d:D)(z:Ç):È where
 ft:Jk [.str f,.str z]=À (Â,d)
 ln:ü<=20
 wd:Wd Ēa
def Pa{n:Å}(d:0<=n)(f:n<65536):Pq "n" êb ţa:=by
 let{a,b,c}:=PF d É;let e:za Įa Įa=À Č:=by rfl
 show{?_,by omega,c};rw[H_];unfold Ih;simp only[Ò,e,a]
theorem x25{f:Ç}{n:Å}(g:f = "d" \/ f = "s")(i:0<=n)(k:n<8):Pq f êb Âe:=by
 let{a,b,c}:=PF i É
 let st:Iz Ϛo ϊf=À Č:=by exact À (ů (êf Æm {#[114]}))=_;rw[z1m,DV];rfl
 let e:YV Ϛo ĉa Æ=À ſf:=by exact À (Ļ (ϧ Æm ĉa Æ))=_;rw[x3h]
 show{?_,by rw[jW];exact 1+_<=_;omega,{by rw[DV];simp,λx d=>?_}};let h:za ŉd Įa=À á:=by rcases g with rfl|rfl<;>rfl
 rw[H_];unfold Ih;generalize ("r" : Ç)++wB n=Z at *;rcases g with rfl|rfl;let e2:za ųa ųa=À Č:=by rfl
 simp only[Ò,h,e2,tH,vk,vj,st,e,a];let e2:za Ób ųa=À á:=by rfl
 let j:za Ób Ób=À Č:=by rfl
 simp only[Ò,h,e2,j,tH,vk,vj,st,e,a];rw[DV]at d;rcases ň d with rfl|d;decide;show c.ok x d
def Pb{f t:Ç}(a:f = îb \/ f = Ĉa)(d:ϫ<=20)(b:Wd üa):Pq f òa t:=by
 show{?_,d,b};let e1:za ŉd Įa=À á:=by rcases a with rfl|rfl<;>rfl
 let e2:za ŉd ųa=À á:=by rcases a with rfl|rfl<;>rfl
 let c:za ŉd Ób=À á:=by rcases a with rfl|rfl<;>rfl
 rw[H_];unfold Ih;simp only[Ò,e1,e2,c]
theorem nC{sep:Ç}{ts:Á Ç}(h:(âb (·.length)).sum+Ĭd*ĉc<=16777216):Ve ϝo ÿp=À Ám:=by exact(Wc _).bind _=_;rw[Ai];exact çl=_;rw[Ó h]
inductive ZL:Ã->Á Ç->Á D->Á Ç->È
 |nil:ZL 0 [] [] []
 |XO {c:Ã} {f:Ç} {n:Å} {fs:Á Ç} {ds:Á D} {zs:Á Ç} (hf:f = "d" \/ f = "s") (n0:0<=n) (n1:n<8):ZL c fs ds zs->ZL (c+1) ŝd (.int n::ds) (Âe::zs)
 |XN {f:Ç} {d:D} {z:Ç} {fs:Á Ç} {ds:Á D} {zs:Á Ç}:Pq f d z->Tx [d]=À Ϥa->ZL 0 fs ds zs->ZL 0 ŝd ęg (z::zs)
inductive ZK:Á Ç->Á D->Á Ç->È
 |nil:ZK [] [] []
 |ó {f:Ç} {d:D} {z:Ç} {fs:Á Ç} {ds:Á D} {zs:Á Ç}:Pq f d z->ZK fs ds zs->ZK ŝd ęg (z::zs)
def ZL.e{c:Ã}{fs:Á Ç}{ds:Á D}{a:Á Ç}(h:ZL c fs ds a):ZK fs ds a:=by
 induction h with
 |nil=>show .nil|XO hf n0 n1 _ ih=>show .cons (x25 hf n0 n1) ih|XN p _ _ ih=>show .cons p ih
def ZK.len{fs:Á Ç}{ds:Á D}{a:Á Ç}(h:ZK fs ds a):Ĳa=ø/\Èa=ø:=by
 induction h with
 |nil=>show{rfl,rfl}|ó _ _ ih=>show{ŋ (·+1) ih.1,ŋ (·+1) ih.2}
theorem ZK.ft{fs:Á Ç}{ds:Á D}{a:Á Ç}(h:ZK fs ds a){x0 x1 x2:Ê Sl}:yq īb yc aU [x0,x1,x2,Æ,Æ] (Íb Ùf ŭc ëp)=À ds:=by
 induction h with
 |nil=>rfl|ó p _ ih=>have t:=p.ft;rw[ġ,ġ,ńb];unfold yq;rw[ih];simp only[Ò,wm,yc,aU,t]
theorem z70{α:Type}(xs:Á α)(k:Ã):tZ xs Æ Ěb=xs.take k:=by unfold tZ;exact(ïg 0).take (č æ æ Ěb-0)=_;rw[čc,Ĝf,áe];rcases Ēd k æ with h|h;rw[Ņa h];rw[ÿd h,îc,ćb h]
theorem iX{α:Type}(xs:Á α)(k:Ã):tZ xs Ěb Æ=ïg k:=by unfold tZ;exact(ïg (č æ 0 Ěb)).take (æ-č æ 0 Ěb)=_;rw[čc];rcases Ēd k æ with h|h;rw[Ņa h];show ćb (by rw[Đa];show Ϙ _);rw[ÿd h,őm,List.take_nil,ņc h]
theorem x8f(a:D)(xs:Á D):YV (Γ (a::xs)) ĉa Æ=À Ěa:=ŋ (λl=>À (Ùc l)) (iX (a::xs) 1)
def Nq{g:FG}{b:FS}{d:D}{r:Á D}{σ σ1 σ2:yD}(c:g d σ=À σ1)(a:b σ1=À Àg):p9 g b (d::r) σ=p9 g b r σ2:=by exact(ϥc).bind _=_;rw[c];exact(ıj).bind _=_;rw[a];rfl
def ng{w d:D}{pre ds:Á D}{k:Ã}(h:k=ůf):zK (.tup (w::(pre++d::ds))) (.int ((k+1:Ã):Å))=À d:=YK É (by rw[ō,ül,ăb É,h,ϣb];rfl)
def ZL.z4h{c:Ã}{fs:Á Ç}{ds:Á D}{e:Á Ç}(h:ZL c fs ds e):∀{w:D}{pre:Á D}{ws:Á D}{x3:Ê Sl}{k:Ã}{m:Å},k=ůf->((c:Å)+k=m\/(c=0/\m<=k))->ůf+ø<=10->Ŏa<=10+ůf->
  ∃y3,p9 Ÿb Bo ((ûi ϕ ø).map λi:Ã=>ý (i:Å)) [À (Â,.tup òn),À (Ä,.lst ws),À (Â,.int m),x3]=À (.nx [À (Â,.tup òn),À (Ä,.lst (ws++e.map Ļ)),À (Â,.int m),y3]):=by
 induction h with
 |nil=>intro w pre ws x3 k m _ _ _ _;show{x3,by rw[Ĕd,ū,ū];rfl}|XO hf n0 n1 hr ih=>
  rename_i c f n fs ds e;rw[Āq];let o:=ng (w:=w) (d:=.int n) (ds:=ds) a;let st:=üj (DB n0 É);let t:=z54 (x:=wB n) (by let:=(PF n0 É).2.1;omega);let g:=YI (L:=ws) (r:=.str Âe) É;let l:decide žl=Ä:=ò É;let{y,b}:=ih (w:=w) (pre:=pre++[.int n]) (ws:=ws++[.str Âe]) (x3:=À (Â,.int ((k+1:Ã):Å))) (k:=k+1) (m:=m) ým É þk Ąk;rw[ϟp];simp only[Ò,l,o,st,t,g]
 |XN p hs hr ih=>
  rename_i f d z fs ds e;rw[Āq];let o:=ng (w:=w) (d:=d) (ds:=ds) a;let g:=YI (L:=ws) (r:=.str z) É;let l:decide žl=Â:=Ę É;let{y,b}:=ih (w:=w) (pre:=pre++[d]) (ws:=ws++[.str z]) (x3:=À (Â,.int ((k+1:Ã):Å))) (k:=k+1) (m:=m) ým É þk Ąk;rw[ϟp];simp only[Ò,l,o,hs,g]
theorem z8s{d k k' e:FE}{σ:yD}(h:k σ=k' σ):YR d k e σ=YR d k' e σ:=by unfold YR;rw[h]
structure MY(d:D)(ws:Á Ç):È where
 ne:ws≠[]
 l4:Ŏa<=4
 wd:∀w∈ws,Wd ţn/\îa<=20
 lw:Jq [d]=À (Â,.str (Ņb " " ws))
 td:VH [.lst (Ğg Ļ)]=À (Â,d)
theorem ZK.sum{fs:Á Ç}{ds:Á D}{a:Á Ç}(h:ZK fs ds a):(źb (·.length)).sum<=20*Èa/\∀z∈a,Wd Ēa/\ü<=20:=by
 induction h with
 |nil=>show{Ϙ _,λ_ h=>by cases h}|ó p _ ih=>have:=p.ln;refine{by rw[ġ,ůc,ą];omega,λz b=>?_};rcases ň b with rfl|b;show{p.wd,p.ln};show ih.2 z b
def UO{w:Ç}{c:Ã}{fs:Á Ç}{ds:Á D}{a:Á Ç}(h:ZL c fs ds a)(O:ø<=3)(l:za ĕ Ńa=À á)(E:îa<=20)(F:Wd ţn)(f:Tt qf ĕ=À á)(t:xg qf Vl ĕ=À ϔo)(hi:Xd Ĳi=À (Â,.bl Ä))(n:ds=[]->Iw ĕ îe=À á){m:Å}(H:∀x0 x1 x2 x3:Ê Sl,YR Ϭn (eC ĕ) ũa űc=À Ŏd)(C:(c:Å)=m\/(c=0/\m<=0)):MY žf Şj:=by
 let q:=h.e;let{K,A}:=q.len;let{N,I}:=q.sum
 let jn:Ve όf (εb Şj)=À (.str (Ņb " " Şj)):=nC (ts:=w::a) (by rw[ġ,ůc,ą];exact _+(Èa+1)*1<=_;omega)
 let p:zK žf ń=À ĕ:=kH;let s:=x8f ĕ ëp;let u:=q.ft (x0:=À (Â,.lst ϳg)) (x1:=À (Â,.str w)) (x2:=À (Â,.tup ŭc));let b:=Ma (L:=Řa) (M:=ds) Ăl;refine{by simp,by rw[ą];omega,λx o=>?_,?_,?_};rcases ň o with rfl|o;show{F,E};show I x o;let{y,B}:=h.z4h (w:=.str w) (pre:=[]) (ws:=Řa) (x3:=Æ) (k:=0) (m:=m) rfl (by simpa using C) (by exact 0+_<=_;omega) (by exact 1<=10+0;omega)
 let J:sN [À (Â,.tup ďb),À (Ä,.lst Řa),À (Â,.int m),Æ]=À ((ûi (0+1) ø).map λi:Ã=>ý (i:Å)):=by
  exact(if(1:Å).natAbs<=yb/\(Ñk).natAbs<=yb/\(Đj).toNat<=yb then À ((Ía (Đj).toNat).map λk:Ã=>ý (1+k))else Æ)=_;rw[Ó {by decide,by rw[ϙp],by rw[ϙp]},show(Đj).toNat=ø by omega,List.range'_eq_map_range,Þa];show ŋ À (ôd λk _=>?_);exact ý (1+(k:Å))=ý ((0+1+k:Ã):Å)
  congr 1
 rw[Ćd]at B;let G:=(z8s (d:=BF ϓj Żj) (e:=eC Àc) (k:=e2 zK ö ī) (k':=eC ĕ) (σ:=[À (Â,.tup ďb),À (Ä,.lst Řa),Æ,Æ]) p).trans (H _ _ _ _);rw[ġ]at jn;rw[mQ];unfold Mp;generalize hT:Ċa ďb=TT at *;generalize hZ:źb Ļ=ZS at *;exact((zQ _ _:FS) ϰk).bind _=_;rw[kS (σ':=ϰk) (by simp only[Ò,p,l])];rw[kS (σ':=[À (Â,TT),À (Ä,.lst Řa),Æ,Æ]) Òf];rw[kS (σ':=[À (Â,TT),À (Ä,.lst Řa),À (Â,.int m),Æ]) (by exact(YR _ _ _ _).bind _=_;rw[G];rfl)];simp only[Ò,J,B,jn];let j:TF [.lst ϳg]=À (Â,.tup ďb):=by let x0:zK Āp ń=À ĕ:=rfl;let r:xP Ϙg (.int (((ŭc).length:Ã)+1:Å))=À á:=QL (Yg (by rw[ç,ç];omega));let v:YW [.lst ďb]=À žf:=rfl;rw[mS];unfold Mr;generalize hM:Ŵb Ļ=FF at x0 l f t r s u b v ⊢;generalize hZ:źb Ļ=ZS at x0 l f t r s u b v ⊢;simp only[Ò,x0,l,f,t,r,Ϸ,tm,tH,vk,vj,s,jc,u,b,v]
 rw[ġ,mO];unfold Mn;let x0:zK Āp ń=À ĕ:=rfl;generalize Ċa ďb=TT at *;by_cases z:ds=[];let g:za Ϙg ϵ=À Č:=Yg (by rw[z]at A;rw[ç,A];rfl);let n:=n z;generalize hZ:źb Ļ=ZS at j g x0 n hi ⊢;simp only[Ò,j,g,x0,n,hi];let g:za Ϙg ϵ=À á:=Q9 (by let:=ϙd z;rw[ç];omega)
 generalize hZ:źb Ļ=ZS at j g hi ⊢;simp only[Ò,j,g,hi]
theorem Nt{t:Ç}(c:1<=ϫ)(h:tq t=Ä):Wd üa:=⟨λz=>by
 let:=Ym t;rw[z]at this;simp only[Ϝb]at this;omega,λa b=>by
 let q:=øa h a b;rw[ě]at q;let:=ő q.1;omega⟩
def z6t{z:Ç}(h:58∈Ēa):Tt qf Ϥa=À Č:=by
 let b:yh qf ıa=Â:=by
  cases c:yh qf ıa with
  |Â=>rfl|Ä=>
   let{j,d,e}:=List.any_eq_true.mp c;let e:=ő e;let a:(qf.all λj=>match j with|.inr s=>decide (58 ∉ s.cps.toList)|.inl _=>Â)=Ä:=by rw[ţp]
   let:=øa a j d;rw[Ĳq];show ß h (ő this)
 exact À (ů (!yh qf ıa))=_;rw[b];rfl
def z6u{z:Ç}(h:58∈Ēa):za Ϥa Ńa=À á:=by
 let a:z ≠ ϫc:=λe=>by
  rw[e]at h
  revert h
  decide
 exact(kE Ϥa Ńa).bind _=_;let:kE Ϥa Ńa=À (z == ϫc):=rfl;rw[this,Ϗb a];rfl
def z5b{t:Ç}:ϧ (t ++ ":") Æ ìe=t:=by
 let a:(t ++ ":").length=ϫ+1:=jW t ":"
 let e:(Ûl).cps.toList=üa:=by
  exact(((t ++ ":").cps.toList.drop (č (t ++ ":").length 0 Æ)).take (č (t ++ ":").length (t ++ ":").length ìe-č (t ++ ":").length 0 Æ))=_;let e1:č (t ++ ":").length 0 Æ=0:=rfl
  let e2:č (t ++ ":").length (t ++ ":").length ìe=ϫ:=by rw[a];unfold č;simp;omega
  rw[e1,e2,kB];exact(üa++[58]).take (ϫ-0)=_;rw[áe,<-Ym t,Ďf];rfl
 obtain⟨⟨l⟩⟩:=t;rw[ϔp]
def y22{N:Á Ç}(j:MP N){d:D}(h:Xm N d):∃ws:Á Ç,MY d ws:=by
 let b:=y3l j h;rcases h with h|⟨t,ht,rfl⟩;cases h with
 |Ϻ h=>
  cases h with
  |Š=>
   let H:Iw Ēb îe=À á:=by exact À (ů (čf (Ëc : Ç) {#[58]}))=_;rw[lB _ _ Í];rfl
   show{_,UO .nil (by exact 0<=3;omega) Ķa Í {by decide,by decide} Ķa Ķa b (λ_=>H) (m:=0) ϥl ĭ}
  |gk hw d0 d1 z0 z1=>show{_,UO (ξe (Pa z0 z1)) Ôf ϗa ύg Ŭg ϗa ϗa b Äa (m:=1) źg ĭ}
  |ZF hw d0 d1 z0 z1=>show{_,UO (ξe (Pa z0 É)) Ôf ϗa ύg Ŭg ϗa ϗa b Äa (m:=1) źg ĭ}
  |two hw d0 d1 z0 z1=>show{_,UO (Υc (.XO Øb z0 z1 .nil)) Ôf ŧg (by rcases hw with rfl|rfl|rfl|rfl|rfl|rfl|rfl|rfl|rfl<;>decide) (by rcases hw with rfl|rfl|rfl|rfl|rfl|rfl|rfl|rfl|rfl<;>show{by decide,by decide}) ŧg ŧg b Äa (m:=2) (λ_ _ _ _=>by rcases hw with rfl|rfl|rfl|rfl|rfl|rfl|rfl|rfl|rfl<;>rfl) ĭ}
  |mem hw d0 d1 z0 z1 y0 y1=>show{_,UO (Υc (.XO Øb z0 z1 (.XN (Pa y0 É) (üj (DB y0 É)) .nil))) (by exact 3<=3;omega) ϓe (by rcases hw with rfl|rfl|rfl|rfl<;>decide) (by rcases hw with rfl|rfl|rfl|rfl<;>show{by decide,by decide}) ϓe ϓe b Äa (m:=2) (λ_ _ _ _=>by rcases hw with rfl|rfl|rfl|rfl<;>rfl) ĭ}
 |wQ ht=>let{g,l,e}:=D8 ěo;show{_,UO Øk (by exact 1<=3;omega) Ķa Í {by decide,by decide} Ķa Ķa b Äa (m:=0) ϥl ĭ}
 |Âa hw hk ht=>rename_i w y t;let{g,l,e}:=D8 ěo;show{_,UO (.XN (Pb (f := Ĉa) (t:=y) Øb (by rcases hk with rfl|rfl|rfl<;>decide) (by rcases hk with rfl|rfl|rfl<;>show{by decide,by decide})) rfl Øk) Ôf ϗa ύg Ŭg ϗa ϗa b Äa (m:=0) źg ĭ}
 let{g,l,e}:=D8 (j.ok t ht);let v:=Nt g e;let i:(t ++ ":").cps.toList=üa++[58]:=kB t ":";let s:58∈(t ++ ":").cps.toList:=by rw[i];show ĥa _ ĳ
 let G:(t ++ ":").length=ϫ+1:=jW t ":";let n:=z6t s;let p:=z6u s
 let q:Iw ýf îe=À Č:=by exact À (ů (čf (t ++ ":") {#[58]}))=_;rw[lB _ _ É,i,G,Nat.add_sub_cancel,<-Ym t,ăb Đ,ϣb];rfl
 let r:YV ýf Æ ìe=À òa:=by exact À (Ļ Ûl)=_;rw[z5b]
 let I:yp òa îe=À ýf:=Ϯc (by exact ϫ+1<=_;omega);let F:zK ŧe ń=À Ńa:=rfl;let C:zK ŧe ϵ=À òa:=rfl;let A:za Ńa Ńa=À Č:=by rfl
 let B:Ņb " " ŋo=t ++ ":":=by rw[İl];rfl
 refine{ŋo,by simp,by simp,λx E=>?_,?_,?_};cases ϖ E;refine{{by rw[i];simp,λa c=>?_},by omega};rw[i]at c;rcases ϗ c with c|c;show v.ok a c;rw[ϖ c]
 decide;rw[B,mQ];unfold Mp;simp only[Ò,F,A,C,I];let k:zK (.lst ŧk) ń=À ýf:=rfl
 let u:TF ŏo=À (Â,.zD):=by rw[mS];unfold Mr;generalize t ++ ":"=Z at k p n ⊢;simp only[Ò,k,p,n]
 let o:za (.int ((1:Ã):Å)) ϵ=À Č:=rfl;exact VH ŏo=_;rw[mO];unfold Mn;generalize t ++ ":"=Z at u o k q r b ⊢;unfold xH at b ⊢;simp only[Ò,u,o,k,q,tH,vj,vk,r,b]
def z37:FE:=ħ
def aZ:FT:=(tE (e2 xP ħ ġf))
def Gv:FS:=
 (zQ (yB 1 (e1 (Hc "\t" " ") (e1 (Hh 0) (e2 Hb ö (eC Ϟo)))))
  (ut (xm 1 (vY (e2 Vg Ā (eC όf))) ĩc aZ z37)))
def TQ:Á D->Ê ã:=FR 1 2 Gv
def y16(x0:D):TQ ë=yC 2 Gv ë:=rfl
def Bt:FS:=(zQ (yB 4 (zU TQ ţb))
    (yP (tE (e2 xP ŗ Êc))
     (pI 1 pf (wO (Ρ (Α (zU VH Ći)))))
     yY))
def Gh:FS:=
 (zQ (tL 1 Êc)
  (zQ (ur (pp ůl) Õj
   Bt)
  ūe))
def IC:Á D->Ê ã:=FR 1 5 Gh
def y0x(x0:D):IC ë=yC 5 Gh ë:=rfl
def Br:FS:=(yP (Υa ϱm ăi)
     (pJ 1 üd çj)
     yY)
def OZ:FS:=(zQ (yP (tE (e2 gA Į Ϣ))
     ķe
     yY)
    (zQ (yP (Υa (zU T3 ţb) (e2 Xy (e2 zK Į šf) Ā))
     ķe
     yY)
    (yP (tE ăi)
     (zQ (yP (tE (e2 xI üd (Vd 4)))
       ķe
       yY)
      (pJ 4 üd çj))
     yY)))
def GO:FS:=
 (zQ Żf
  (zQ (ur Ϲb Õj
   Br)
  (zQ űj (zQ (tL 4 Ϛe)
  (zQ (ur Ϲb Õj
   OZ)
  (zQ (Yz 4) éb))))))
def Jz:Á D->Ê ã:=FR 1 5 GO
def y0f(x0:D):Jz ë=yC 5 GO ë:=rfl
def z35:FE:=ŗ
def GZ:FS:=
 (zQ (yB 1 (zU IC ŀa))
  (zQ (Κ (zU Jz Ûa))
  (zQ (yP (tE (e2 ZU ħ Ϣ))
   Ûb
   yY)
  (ut (xm 2 Öj īb yc z35)))))
def TC:Á D->Ê ã:=FR 1 3 GZ
def y0q(x0:D):TC ë=yC 3 GZ ë:=rfl
nonrec def sD(l:Á Ã):D:=.str {l.toArray}
def sw(z:Ç):sD Ēa=.str z:=by rw[Äq];rfl
def w5q{row:Ç}(h:row.length<=100000):TQ [.str row]=À (Ä,.lst ((Ĵj).map sD)):=by
 let f:=ŋ ċc (Įl row {#[59]});rw[jW,jW]at f;let j:Hb (.str row) Ϟo=À (.tup [.str ϖb.1,.str ϖb.2.1,.str ϖb.2.2]):=Ó {rfl,by exact ϖb.1.length<=_;omega,by exact ϖb.2.1.length<=_;omega,by exact ϖb.2.2.length<=_;omega};let pc:=x0e row 59;generalize ϖb.1=P1 at *;generalize ϖb.2.1=P2 at *;generalize ϖb.2.2=P3 at *;let b:Hh 0 (.tup [.str P1,.str P2,.str P3])=À Łp:=rfl;let o:=x3n P1 9 32;have s:(Óh).length=Űi:=by rw[<-Ym,o,ç,Ym]
 let k:Hc "\t" " " Łp=À (.str Óh):=Ó {by exact Űi+(Űi+1)*1<=_;omega,by exact(Óh).length<=_;omega};generalize ϣe P1 {#[9]} {#[32]}=R at *;let m:Vg (.str R) όf=À (εb (Ée)):=Ó {rfl,by omega}
 let a:=Vt (g:=zu 2) (c:=aZ) (e:=z37) (σ:=[À (Â,.str row),À (Â,.str R),Æ]) (λd=>match d with|.str z=>!z.cps.toList.isEmpty|_=>Â) id (ds:=(Ée).map Ļ) λd q=>by
  let{z,_,rfl}:=Ų q
  let n:xP Ϥa łp=À (.bl (!z.cps.toList.isEmpty)):=by rw[Äq];cases l<;>rfl
  rw[Űp];unfold aZ;simp only[Ò,n]
 let r:W Ĳk=((Ée).map λt=>üa).filter λp=>!p.isEmpty:=by unfold W;rw[AU,o,pc];rfl
 let i:(((Ée).map Ļ).filter λd=>match d with|.str z=>!z.cps.toList.isEmpty|_=>Â).map id=(Ĵj).map sD:=by rw[r,źc,Đf,Đf,Þa];refine ôd λz _=>(sw z).symm
 rw[i]at a;rw[y16];unfold Gv;generalize (Ĵj).map sD=WW at j b k m a ⊢;generalize (Ée).map Ļ=SS at j b k m a ⊢;simp only[Ò,j,b,k,m,a]
inductive qw:Á àb->Á D->È
 |nil:qw [] []
 |skip {l:Á Ã} {ps:Á àb} {zC:Á D}:W l=[]->qw ps zC->qw (l::ps) zC
 |one {l:Á Ã} {ps:Á àb} {d:D} {zC:Á D}:W l≠[]->VH [.lst ((W l).map sD)]=À (Â,d)->qw ps zC->qw (l::ps) (d::zC)
theorem qw.app:∀{a b:Á àb} {x y:Á D},qw a x->qw b y->qw Ĭc Ũe
 |_,_,_,_,.nil,h=>h|_,_,_,_,.skip e r,h=>.skip e ģp|_,_,_,_,.one e f r,h=>.one e f ģp
def IM(d r:D):È:=∃k:Ã,r=.tup [.int (k:Å),d]
theorem l9{R:D->D->È}{x y:D}(h:R x y):∀{xs ys:Á D},vy R xs ys->vy R ϵf Ęp
 |_,_,.nil=>.cons h .nil|_,_,.cons a r=>.cons a (l9 h r)
def w1e{T:Ç}(I:İe<=100000){n:Á D}(S:Ĩe<=900)(A:qw õh n):∃R:Á D,IC [.str T]=À (Ä,.lst R)/\vy IM n R:=by
 let Q:Vg (.str T) àe=À (εb ϖm):=Ó {rfl,by omega};let J:=AU T 10;let U:(ϖm).length<=İe+2:=PyProof.Rows.split_le T {#[10]};let F:∀z∈Œb T {#[10]},ü<=İe:=λz s=>PyProof.Rows.part_short s
 generalize Œb T {#[10]}=zs at *;rw[<-J]at A
 let B:pp ůl Ŵg=À ûp:=by
  unfold pp;let:e2 Vg ö (eC àe) Ŵg=À (Γ Ęf):=by simp only[Ò,Q]
  rw[this];rfl
 let{σ',e,R,c,k,u,x,w,h,p,o,G,rfl}:=jX (g:=wm 2 3) (b:=Bt) (λi σ=>∃R c k u x w,n=c++k/\vy IM c R/\qw ((ĝg λt:Ç=>üa).drop i) k/\ſa<=i/\σ=[À (Â,.str T),À (Ä,.lst R),u,x,w]) (ds:=ŵa Ęf)
  (σ:=Ŵg) 0 {[],[],n,Æ,Æ,Æ,rfl,.nil,A,Ϙ _,rfl} (by
  rintro i v σ m ⟨R,c,k,u,x,w,h,p,o,G,rfl⟩;rw[š]at *;rw[QN,Ś]at m
  obtain⟨z,s,rfl⟩:∃z,zs[i]?=À z/\v=.tup [.int (i:Å),.str z]:=by
   cases q:zs[i]? with
   |Æ=>rw[q]at m;cases m|À z=>rw[q]at m;cases m;show{z,rfl,rfl}
  let N:=(ű s).1;let P:=ūa s
  let K:(ĝg λt:Ç=>üa).drop i=Ēa::(ĝg λt:Ç=>üa).drop ñ:=by rw[łb ϸl,List.getElem_map];rw[(ű s).2]
  rw[K]at o;let j:=w5q (row:=z) (đ (F z P) I);cases o with
  |skip e r=>
   rw[e]at j;let l:xP (Γ ([].map sD)) Ϙc=À á:=rfl;show{_,[À (Â,.str T),À (Ä,.lst R),À (Â,.int (i:Å)),À (Â,.str z),À (Â,.lst [])],rfl,.inl ?_,R,c,k,_,_,_,h,p,r,by omega,rfl};let l:xP Ϙc Ϙc=À á:=rfl;let j:TQ Îj=À (Ä,.lst []):=j;unfold Bt;simp only[Ò,j,l]
  |one e f r=>
   rename_i d y
   let l:xP (Γ Űm) Ϙc=À Č:=by
    cases q:W Ēa with
    |nil=>show ß q e|ó a b=>rfl
   let E:=YI (L:=R) (r:=.tup Řm) (by let:=YT p;let:=ŋ żc h;rw[î]at this;omega)
   show{_,[À (Â,.str T),À (Ä,.lst (R++[.tup Řm])),À (Â,.int (i:Å)),À (Â,.str z),À (Â,.lst Űm)],rfl,.inl ?_,_,c++[d],y,_,_,_,by rw[h,Ł];rfl,l9 {i,rfl} p,r,by rw[î];rw[āq],rfl};unfold Bt;obtain⟨C,O⟩:∃C,C=(W Ēa).map sD:={_,rfl};rw[<-O]at j l f ⊢;simp only[Ò,j,l,f,E])
 let H:(ĝg λt:Ç=>üa).drop (0+(ûp).length)=[]:=ņc (by rw[Yr,ç,ç];omega);rw[H]at o;cases o;rw[ū]at h;subst h;show{R,?_,p};rw[y0x];unfold Gh;generalize ŵa Ęf=NN at B e ⊢;simp only[Ò,B,e]
theorem Bj{d:D}(h:vE d):∃xs,d=.tup xs:=by
 cases h with
 |Ųd t=>show{_,rfl}|Ϻ h=>cases h<;>show{_,rfl}|wQ=>show{_,rfl}|Âa=>show{_,rfl}
structure PW(N:Á Ç)(zC:Á D):È where
 nm:MP N
 it:∀d∈zC,Xm N d
 lb:(ûe yS).Perm (ϓa xH)
 ln:īd<=900
def y3a{N:Á Ç}{l:Á D}(P:PW N l){R:Á D}(E:vy IM l R):Jz [.lst R]=À (Â,.zD):=by
 let hI:∀d∈l,vE d:=λd q=>NO (Ñd d q)
 let ln:=P.ln;let el:=YT E
 let H:∀{i:Ã}{r:D},R[i]?=À r->∃d,l[i]?=À d/\d∈l/\IM d r:=λ{i r} h=>by
  let B:i<Ăa:=by rw[el];show Ϫa.1
  let{y,hy,n}:=BI E (ğ B);rw[h]at hy;cases hy;show{_,ğ B,Ëb B,n}
 let K:∀{i:Ã}{d:D},l[i]?=À d->ϻc ñ=ϻc i++[d]:=λ{i d} h=>by let{B,e}:=ű h;rw[Ûd B,e]
 let nn:∀{d:D},vE d->ZU d .zD=À Č/\gA d .zD=À á:=λ{d} h=>by let{Z,rfl}:=Bj h;rw[Ċq]
 let nd:(l.filter yS).Nodup:=P.lb.nodup_iff.mpr (ĵl (List.Pairwise.imp (λ{a b} h z=>h (by cases z;rfl)) P.nm.nd))
 let{σ',e1,m,p,C,F,T,a2,I,rfl}:=jX (g:=wm 2 3) (b:=Br) (λi σ=>∃m p C F,ħb=p.length/\ħb<=i/\(∀t,xH t∈ϻc i->yh m Ác=Ä)/\σ=[À (Â,.lst R),À (Ä,.dic m p),C,F,Æ]) (ds:=R)
  (σ:=[À (Â,.lst R),À (Ä,.dic [] []),Æ,Æ,Æ]) 0 {[],[],Æ,Æ,rfl,Ϙ _,Ϥl,rfl} (by
  rintro i v σ Q ⟨m,p,C,F,T,a2,I,rfl⟩;rw[š]at *;let{d,q,O,k,rfl}:=H Q;let j:=hI d O;let x:=Bh j;let n1:=(nn j).1;let B:i<Ăa:=Œe.1;cases hL:yS d with
  |Ä=>
   let{u,rfl}:=OW j hL;rw[hL]at x;rw[Çq];let s:ħb<yb:=by rw[Šp]
   show{_,[À (Â,.lst R),À (Ä,.dic (wC m ąa) (wD m p ąa Č)),À (Â,.int (k:Å)),À (Â,xH u),Æ],rfl,.inl ?_,wC m ąa,wD m p ąa Č,_,_,WP T,?_,λt f=>?_,rfl}
   .unfold Br;unfold xH at *;simp only[Ò,x,pJ,S,Y,Ó s]
   .unfold wC
    split
    .omega
    .rw[íq]
   .rw[NE];rw[K q]at f;rcases ϗ f with f|f
    .rw[I t f];rfl
    .cases ϖ f;rw[ò rfl,ųn]
  |Â=>
   rw[hL]at x;show{_,[À (Â,.lst R),À (Ä,.dic m p),À (Â,.int (k:Å)),À (Â,d),Æ],rfl,.inl ?_,m,p,_,_,T,by omega,λt f=>?_,rfl}
   .let{Z,rfl}:=Bj j;unfold Br;simp only[Ò,x]
   .rw[K q]at f;rcases ϗ f with f|f
    .show I t f
    .rw[<-ϖ f]at hL;cases hL)
 rw[š,<-el,îc]at I
 let G:∀t∈N,yh m Ác=Ä:=λt f=>I t (by let:xH t∈ϓa xH:=Ϛb {t,f,rfl};show(ňb (Ōm this)).1)
 let jn:∀d∈l,w8 d=Ä->∃t∈N,zK d Ďc=À òa:=λd q w=>by
  rcases Ñd d q with h|⟨t,_,rfl⟩;cases h with
  |Ϻ h=>let{_,_,_,_,z,_}:=WO h;rw[z]at w;cases w
  |wQ f=>show{_,f,rfl}|Âa hw hk f=>show{_,f,rfl}
  cases w
 let{σ',e2,o,A,y2,y3,U,b2,L,rfl}:=jX (g:=wm 2 3) (b:=OZ) (λi σ=>∃o A C F,Ůb=A.length/\Ůb<=i/\(∀t,yh o Ác=Ä->xH t∈ϻc i)/\σ=[À (Â,.lst R),À (Â,.dic m p),C,F,À (Ä,.dic o A)]) (ds:=R)
  (σ:=[À (Â,.lst R),À (Â,.dic m p),C,F,À (Ä,.dic [] [])]) 0 {[],[],C,F,rfl,Ϙ _,Ϥl,rfl} (by
  rintro i v σ Q ⟨o,A,C,F,U,b2,L,rfl⟩;rw[š]at *;let{d,q,O,k,rfl}:=H Q;let j:=hI d O;let x:=Bh j;let w:=NK j;let n1:=(nn j).2;let B:i<Ăa:=Œe.1;let J:∀t,xH t∈ϻc i->xH t∈ϻc ñ:=λt f=>by rw[K q];show ņb _ f
  cases hL:yS d with
  |Ä=>
   let{u,rfl}:=OW j hL;rw[hL]at x;rw[y20 hL]at w;rw[Çq];let s:Ůb<yb:=by rw[Šp]
   let no:yh o ąa=Â:=by
    cases c:yh o ąa with
    |Â=>rfl|Ä=>
     exfalso
     let h1:=L u c
     let e:l=ϻc i++(xH u::l.drop ñ):=by let:=Ħa i l;rw[łb B,Œe.2]at this;show this.symm
     rw[e,ϙa,ϐb hL]at nd;let:=(List.nodup_append.mp nd).2.2 _ (Őc {h1,hL}) _ ĳ;show this rfl
   let X:xI ĭb (.dic o A)=À á:=by exact À (ů (yh o ąa))=_;rw[no]
   show{_,[À (Â,.lst R),À (Â,.dic m p),À (Â,.int (k:Å)),À (Â,xH u),À (Ä,.dic (wC o ąa) (wD o A ąa Č))],rfl,.inl ?_,wC o ąa,wD o A ąa Č,_,_,WP U,?_,λt f=>?_,rfl}
   .unfold OZ;unfold xH at *;simp only[Ò,w,x,S,X,pJ,Y,Ó s]
   .unfold wC
    split
    .omega
    .rw[íq]
   .rw[NE,ϋm,œc]at f;rcases f with f|f
    .show J t (L t f)
    .cases f;rw[K q];show ĥa _ ĳ
  |Â=>
   rw[hL]at x;show{_,[À (Â,.lst R),À (Â,.dic m p),À (Â,.int (k:Å)),À (Â,d),À (Ä,.dic o A)],rfl,.inl ?_,o,A,_,_,U,by omega,λt f=>J t (L t f),rfl};cases hJ:w8 d with
   |Â=>
    rw[hJ]at w;let{Z,rfl}:=Bj j;unfold OZ;simp only[Ò,w,x]
   |Ä=>
    rw[hJ]at w;let{t,f,lx}:=jn d O hJ
    let X:Xy òa (.dic m p)=À á:=by exact À (ů (!yh m Ác))=_;rw[G t f];rfl
    let{Z,rfl}:=Bj j;unfold OZ;simp only[Ò,w,lx,X,x])
 rw[y0f];unfold GO;rw[êq]
theorem l8{R:D->D->È}{g:FG}{e:FE}{σ:yD}(h:∀r y,R r y->∃σ1,g y σ=À σ1/\e σ1=À r):∀{rs ys:Á D},vy R rs ys->yq g yc e σ ys=À rs
 |_,_,.nil=>rfl|r::rs,y::ys,.cons x xs=>by rw[űp];rw[l8 h xs];rfl
def x3k{N:Á Ç}{a:Á D}(P:PW N a){T:Ç}(c:İe<=100000)(b:qw õh a):TC [.str T]=À (Ä,.lst a):=by
 let f:=P.ln;let{R,e1,E}:=w1e c É b;let e2:=y3a P E
 let e:yq īb yc z35 [À (Â,.str T),À (Â,.lst R),À (Â,.zD),Æ,Æ] R=À a:=l8 (R:=IM) (λd r h=>by let{k,rfl}:=h;show{_,rfl,rfl}) E
 rw[y0q];unfold GZ;simp only[Ò,e1,e2,e]
def Qw:FE:=(e2 yp (zU Jq Ûa) (eC àe))
def GL:FS:=
 (zm (e2 Ve ġf (xm 1 Ϲb Öa yc Qw)))
def Jw:Á D->Ê ã:=FR 1 1 GL
def y0c(x0:D):Jw ë=yC 1 GL ë:=rfl
structure Cm(l:Á Ã):È where
 w:W l=[]
 hd:l=[]\/∃b r,l=b::r/\(b=59\/Bl b)
 fr:10 ∉ l
def z50{w l:Á Ã}(h:Wd w)(c:Cm l):W şj=[w]:=by rcases c.hd with rfl|⟨b,r,rfl,rfl|hb⟩;show fY h ĭ;show fY h (.inr {_,rfl});rw[ff h hb];let:=c.w;rw[fW hb]at this;rw[this]
theorem z1v{m:Ã}:∀{l:Á Ç},(∀w∈l,îa<=m)->(ś (·.length)).sum<=m*Ăa
 | [],_=>ýa _|a::l,h=>by
  let:=z1v λw b=>h w Ĵd
  let:=h a ĳ;simp only[ġ,ůc,ą,Nat.mul_add,Nat.mul_one];omega
def MY.tell{d:D}{ws:Á Ç}(h:MY d ws){l:Á Ã}(a:W l=Ğg řo):qw [l] [d]:=by refine .one (by rw[a];show λz=>h.ne Ϻk) ?_ .nil;rw[a,Þa,show Ğg (sD∘λt:Ç=>üa)=Ğg Ļ from ôd λz _=>sw z];show h.td
nonrec def W4(z:Á Ã):Á àb->Á Ã
 | []=>[]| [w]=>w|w::v::r=>w++z++W4 z šj
theorem nB(z:Ç):∀ts:Á Ç,(Ïg z ts).cps.toList=W4 Ēa Ůh
 | []=>rfl| [x]=>rfl|x::y::r=>by exact(x++z++Ïg z Ĵg).cps.toList=_;rw[kB,kB,nB z Ĵg];rfl
theorem fX{z l:Á Ã}(f:z4s z)(c:Cm l):∀{ws:Á àb},ws≠[]->(∀w∈ws,Wd w)->W (W4 z ws++l)=ws
 | [],h,_=>ß rfl h| [w],_,h=>z50 äi c|w::v::r,_,h=>by
  let{e,a}:=f;cases z with
  |nil=>show ß rfl e|ó b z=>exact W (w++(b::z)++W4 (b::z) šj++l)=_;rw[Ł,Ł,Őb,ff äi (a b ĳ),z4z λx d=>a x ĳd,fX {e,a} c ê λx d=>h x ĳd]
theorem lV{z:Á Ã}(a:10 ∉ z):∀{ws:Á àb},(∀w∈ws,Wd w)->10 ∉ W4 z ws
 | [],_=>by intro h;cases h| [w],h=>λq=>Çn.2.2.2 rfl|w::v::r,h=>λq=>by rcases ϗ q with q|q;rcases ϗ q with q|q;show Çn.2.2.2 rfl;show a q;show lV a (λx b=>h x Ĵd) q
theorem l_{z:Á Ã}:∀{ws:Á àb},(∀w∈ws,îa<=20)->ü<=3->(W4 z ws).length<=23*Ŏa
 | [],_,_=>Ϙ _| [w],h,_=>by let:=h w ĳ;exact îa<=23*1;omega|w::v::r,h,hz=>by let:=l_ (ws:=v::r) (λx a=>h x ϲb) hz;let:=h w ĳ;exact(w++z++W4 z šj).length<=_;rw[î,î,ą];omega
theorem z13{N:Á Ç}(m:MP N){y:Ê Sl}:∀{zC:Á D},(∀d∈zC,Xm N d)->∃ts:Á Ç,yq Öa yc Qw [y,Æ] zC=À ĥd/\Ĭd=īd/\(∀t∈ts,ϫ<=100)/\qw (tO 10 (âb λt:Ç=>üa).flatten) zC
 | [],_=>{[],rfl,rfl,ϫd,.skip fZ .nil}|d::zC,h=>by
  let{ts,e,l,b,t}:=z13 m (y:=y) λx a=>h x ϲb
  let{c,w}:=y22 m Ĭp;let r:(Ņb (" " : Ç) c).cps.toList=W4 [32] (Ōg λt:Ç=>üa):=by rw[İl];show nB " " c
  let f:∀x∈Ōg (λt:Ç=>üa),Wd x/\Ça<=20:=λx a=>by let{q,i,rfl}:=Ų a;show{Ūo.1,by rw[Ym];show Ūo.2}
  let n:=lV (z:=[32]) Í λx a=>Įj.1
  let g:=fX (z:=[32]) (l:=[]) {by simp,λx a=>.inl (ϖ a)} {fZ,.inl rfl,λh=>by cases h} (λz=>w.ne Ϻk) λx a=>Įj.1
  rw[ū]at g;let k:=l_ (z:=[32]) (λx a=>Įj.2) Í;rw[<-r]at n g k;rw[Ym,ç]at k;let v:=w.l4;let j:("\n" : Ç).length=1:=rfl;let o:=w.lw;let p:=w.tell g;generalize Ņb (" " : Ç) c=U at *;let s:yp (.str U) àe=À Ϙo:=Ϯc (by rw[j];omega);show{Śh::ts,?_,by rw[ą,ą,l],λx a=>?_,?_};let u:Qw όm=À Ϙo:=by unfold Qw;simp only[Ò,o,s]
  exact(Qw όm).bind _=_;rw[u];exact(yq Öa yc Qw [y,Æ] zC).bind _=_;rw[e];rfl;rcases ň a with rfl|a;rw[jW,j];omega;show b x a;let e1:(Śh).cps.toList=U.cps.toList++[10]:=kB U "\n";rw[ġ,íc,e1,Ł,Ĵl,Dl,Qg n];show p.app t
def x6b{N:Á Ç}{c:Á D}(P:PW N c):∃T:Ç,Jw [.lst c]=À (Â,.str T)/\İe<=100000/\qw õh c:=by let h:=P.ln;let{ts,e,l,b,t}:=z13 (y:=À (Â,.lst c)) P.nm Ñd;let g:=z1v b;let f:=L2.glued_len ("" : Ç) ts;let d:("" : Ç).length=0:=rfl;rw[d]at f;let a:=nC (sep := "") (ts:=ts) (by rw[d];omega);show{Ņb "" ts,?_,by omega,by rw[mG];show t};rw[y0c];unfold GL;generalize Ņb ("" : Ç) ts=J at e a ⊢;generalize âb Ļ=TS at e a ⊢;simp only[Ò,e,a]
theorem DL{t:Ç}{p:Ã}:∀(n:Ã){L:Á D},Ϛ=n->(∀d∈L,vE d)->űb.2=À p->xH t∈L
 |0,L,hl,_,h=>by cases ϱe hl;cases h|n+1,L,hl,hI,h=>by
  rcases ĸl L with rfl|⟨M,d,rfl⟩;cases hl;rw[Ĺl]at *
  let a:ĳe=n:=by rw[î]at hl;simpa using hl
  let b:∀x∈M,vE x:=λx c=>hI x (ņb _ c)
  cases hL:yS d with
  |Ä=>let{u,rfl}:=OW (hI d āi) hL;rw[PY]at h;by_cases e:u=t;subst e;show ĥa _ ĳ;rw[Ô e]at h;show ņb _ Ϫn
  |Â=>rw[PZ hL]at h;show ņb _ Ϫn
def GM:FS:=
 (zQ (Κ (e2 xD Ā (e2 yp Ŋa ļ)))
  (zQ (yB 3 (e2 zK (wA (Ζb (zA (e2 xD ϔm űh) (Α (e2 yp (eC ōp) (e2 xD ϔm Ŕb)))))) (e2 xD (e2 wY Ā ňd) Ìb)))
  (zQ (yB 4 (e2 xD (Τb (.int 4096)) Þb))
  (zQ (Θe (zA (wO (zA Íh (Ψc (e2 xD óp (eC (.int 9)))))) (Α (wO (zA Ϫk (zA ŗ (zA (e2 xD óp Þb) (zA (e2 xD (Τb (.int 32768)) Æf) zF))))))) (e2 wY Ā Þb))
  (zm (e2 yp (e2 yp (tH ö vj (vk ħ)) (e2 Tu (wA ýe) Į)) (tH ö (vk ħ) vj)))))))
def Jx:Á D->Ê ã:=FR 2 6 GM
def y0d(x0 x1:D):Jx û=yC 6 GM û:=rfl
def Ej:FS:=
 (ut (uW TR (Α (zU TC (zA ö zF)))))
def Ja:Á D->Ê ã:=FR 1 1 Ej
def z9h(x0:D):Ja ë=yC 1 Ej ë:=rfl
nonrec def jd(L:Á D)(k n:Ã)(r:D):Á D:=ŋe k++Ŗ n r++Įg k
def x6t{p:D->Ð}{L:Á D}{k n:Ã}{r:D}(h:p r=Â):(Ęd).filter p=Ģb p:=by unfold jd;rw[ϙa,ϙa,ķl,Ô Ķm,ū,<-ϙa,Ħa]
theorem x6w{p:D->Ð}{L:Á D}{k n:Ã}{r:D}(h:p r=Ä):((Ęd).filter p).length=(Ģb p).length+n:=by
 have e:(Ģb p).length=((ŋe k).filter p).length+((Įg k).filter p).length:=by rw[<-î,<-ϙa,Ħa]
 unfold jd;rw[ϙa,ϙa,ķl,Ó h,î,î,Ĉb];omega
def x6v{L:Á D}{k n:Ã}{r d:D}(h:d∈jd L k n r):d∈L\/d=r:=by unfold jd at h;rcases ϗ h with h|h;rcases ϗ h with h|h;show .inl (ōc h);show .inr (List.eq_of_mem_replicate h);show .inl (ϟd h)
def x6u{L:Á D}{k n:Ã}{r:D}(hk:k<=Ϛ):(Ęd).length=Ϛ+n:=by unfold jd;rw[î,î,Ïa,Ĉb,Đa];omega
def z8i(n:Ã)(r:D):(Ŗ n [r]).flatten=Ŗ n r:=by
 induction n with
 |Øa=>rfl|Ùa n ih=>rw[ϓb,íc,ih];rfl
def x6x{L:Á D}(x:Ϛ<=40){m:Å}(A:0<=m):∃(k n:Ã) (r:D),k<=Ϛ/\n<=24/\tW r/\Jx [.lst L,.int m]=À (Â,.lst Ęd):=by
 obtain⟨d,f⟩:∃z:Å,z=m%((Ϛ:Å)+1):={_,rfl};let u:0<=d:=by rw[f];show ϒb _ É
 let C:d<(Ϛ:Å)+1:=by rw[f];show ãc _ É
 let g:decide (0<(Ϛ:Å)+1)=Ä:=ò É;let{n,B,q}:=x1q (a:=0) (b:=m/64%25) (c:=14+m/64%4) (i:=m/16%3) É É;let t:0<=n/\n<=24:=by omega
 obtain⟨r,y,s⟩:∃r,tW r/\zK (.lst [.tup [.str ĺa,.int Ŵo,.int (m/512%9)],.tup [.str ĵa,.int Ŵo,.int (m/512%8),.int (m/32768%256)]]) (Δ (m/8%2))=À r:=by rcases Int.emod_two_eq (m/8)with e|e<;>rw[e];show{_,.gk ĭ É É É É,rfl};show{_,.mem (.inr ĭ) É É É É É É,rfl}
 let h:Tu (.lst [r]) êb=À (Γ ăo):=by exact(if 0<=n/\n<=1000000/\[r].length*ϋa<=yb then À (Ùc (Ŗ ϋa [r]).flatten)else Æ)=_;rw[Ó {t.1,by omega,by exact 1*_<=16777216;omega},z8i]
 let j:YV åg Æ đg=À (Γ èp):=by exact À (Ùc (tZ L Æ đg))=_;let:=z70 L ŝa;rw[ãf u]at this;rw[this]
 let p:YV åg đg Æ=À (Γ (Įg ŝa)):=by exact À (Ùc (tZ L đg Æ))=_;let:=iX L ŝa;rw[ãf u]at this;rw[this]
 let v:ϋa<=24:=Int.toNat_le.mpr t.2;let w:(èp).length+(ăo).length<=64:=Ěf (đ (List.length_take_le' _ _) x) (đ (Îb Ĉb) v);let l:=Ma (L:=ŋe ŝa) (M:=Ŗ ϋa r) (đ w Í);let o:=Ma (L:=ŋe ŝa++Ŗ ϋa r) (M:=Įg ŝa) (đ (Ěf (đ (Îb î) w) (đ (đ (Îb Đa) đb) x)) Í);refine{ŝa,ϋa,r,by omega,v,y,?_};unfold jd;rw[y0d];unfold GM;generalize hl:(Ϛ:Å)=ll at g f q s j h l p o ⊢;generalize Ŗ ϋa r=RR at g f q s j h l p o ⊢;simp only[Ò,Ϸ,hl,g,<-f,q,s,tH,vj,vk,j,h,l,p,o]
theorem nK:∀{L:Á D},(∀d∈L,vE d)->∃N:Á Ç,Ģb yS=ϓa xH
 | [],_=>{[],rfl}|d::L,h=>by
  let{N,e}:=nK λx a=>h x ϲb
  cases hl:yS d with
  |Ä=>let{t,rfl}:=OW Ĭp hl;show⟨t::N,by rw[ϐb hl,e];rfl⟩
  |Â=>show{N,by rw[éd (by rw[hl];decide),e]}
def x2r{N:Á Ç}{R L:Á D}(v:∀r∈R,jz N r)(P:PC L)(x:Ģb ŵc=R)(s:∀t∈N,Yo t=Ä)(l:∀t,xH t∈L->t∈N){k n:Ã}{r:D}(hk:k<=Ϛ)(w:n<=24)(j:Ϛ<=40)(g:tW r):∃N0,PW N0 Ęd:=by
 let{N0,c}:=nK Ñd
 let a:∀t,xH t∈L->t∈N0:=λt h=>by let:=Őc {h,(rfl:yS ŧe=Ä)};rw[c]at this;let{u,q,e}:=Ų this;cases e;show q
 let f:=P.nd;rw[c]at f;let{_,_,_,i,_}:=QW (m:=0) (.inl g);refine{N0,{(Şl f).imp λh z=>h (by rw[z]),λt o=>s t (l t ?_)},λd b=>?_,by rw[x6t i,c],by rw[x6u hk];omega};let:xH t∈Ģb yS:=by rw[c];show Ϛb {t,o,rfl}
 show(ňb this).1;rcases x6v b with b|rfl;cases Ñd d b with
 |Ųd t=>show .inr {t,a t b,rfl}|Ϻ h=>show .inl (.plain h)|wQ t=>let{u,p,e1,e2}:=P.tg _ b rfl;cases e1;show .inl (.wQ îl)
 |Âa t hw hk=>let{u,p,e1,e2}:=P.tg _ b ϗa;cases e1;show .inl (.cond hw hk îl)
 show .inl (.plain g)
def Bq:FS:=(yP (tE (e2 za Į ī))
     (WQ 2 ī (kC (zU YD (wN ď ĩa ö zF)) (zU YD (wN ē ĩa ö zF))))
     (yP (tE (e2 za Į ļ))
       (WQ 2 ļ (kC (zU YB (wN ď Ϫc ö zF)) (zU YB (wN ē Ϫc ö zF))))
       (yP (tE (e2 za Į ũa))
         (WQ 2 ũa (kC (zU YC (wN ď Ÿa ö zF)) (zU YC (wN ē Ÿa ö zF))))
         (WQ 2 Ìb ϰj))))
def GN:FS:=
 (zQ (tL 2 (wA (zA Ϣ (zA Ϣ (zA Ϣ čp)))))
  (zQ (ur (vY (e2 zK (Ηb (ξa (Ŗa ý Ži)) (zA (ξa (Ŗa ý źi)) (zA (ξa (Ŗa ý Żi)) (Α (ξa (Ŗa D.int żi)))))) (e2 xD Ā Ŕb))) Ÿb
   Bq)
  Ŧj))
def gv:Á D->Ê ã:=FR 2 4 GN
def y0e(x0 x1:D):gv û=yC 4 GN û:=rfl
def BJ{C:Ç}(c:uU C){T fw fh sd:D}{e due done:Å}{m:Ç}{F:Á D->Ê ã}{τ:yD}{r:D}{q:Ð}(b:m ∉ qt)(h:F Ăb=À (q,r)):kC Ýl Þl Žd=À r:=by
 let a:∀x:Ç,zU F ϟm Žd=match decide (C=x)with|Ä=>À r|Â=>Æ:=λx=>by
  rw[Ńq];rw[Ę b];cases decide (C=x)with
  |Â=>rfl|Ä=>exact(F Ăb).bind _=_;rw[h];rfl
 unfold kC;rw[a,a];cases c with
 |row=>rfl|word=>rfl
def x64{i k:Ã}{e:FE}{σ:yD}{ds:Á D}{y:D}(d:e σ=À y)(b:σ[i]?=À Ϣl){q:FE}(a:q σ=À Òe)(c:k<ø):WQ i q e σ=À (υb (úg k y)):=by unfold WQ;rw[d,Đb,b];exact(q σ).bind _=_;rw[a,Đb];exact(őj ø (k:Å)).bind _=_;rw[gE c];rfl
def X6(Ws:Á Å)(a b c:Ð)(ps:Á Ĝ)(k:Ð):Á D:=[.lst Ħ,.tup őc,.lst Ńe,.bl k]
section
variable{C:Ç}{T fw fh:D}{e due done:Å}{Ws:Á Å}{a b c:Ð}{ps:Á Ĝ}{k:Ð}{x:Ê Sl}(hC:uU C)(hs:we Ϩe=À (Â,.bl k))
include hC hs
theorem w1b{L:Á D}{i:Ã}(hi:i<4)(t:Ϛ=4):Bq ϙj=À (.nx [À (Â,yd C T e fw fh Åb due done),x,À (Ä,.lst Ŗn),À (Â,.int (i:Å))]):=by
 let n:=λτ:yD=>BJ hC (T:=T) (fw:=fw) (fh:=fh) (sd:=xO Ħ a b c Ğ Ŀ) (e:=e) (due:=due) (done:=done) (m := ĩa) (F:=YD) (τ:=τ) Ő (x3l hC)
 let l:=λτ:yD=>BJ hC (T:=T) (fw:=fw) (fh:=fh) (sd:=xO Ħ a b c Ğ Ŀ) (e:=e) (due:=due) (done:=done) (m := Ϫc) (F:=YB) (τ:=τ) Ő (y3t hC)
 let p:=λτ:yD=>BJ hC (T:=T) (fw:=fw) (fh:=fh) (sd:=xO Ħ a b c Ğ Ŀ) (e:=e) (due:=due) (done:=done) (m := Ÿa) (F:=YC) (τ:=τ) Ő (y3z hC)
 let o:=λτ:yD=>BJ hC (T:=T) (fw:=fw) (fh:=fh) (sd:=xO Ħ a b c Ğ Ŀ) (e:=e) (due:=due) (done:=done) (m := őa) (F:=we) (τ:=τ) Ő hs
 unfold Bq;generalize yd C T e fw fh Åb due done=dm at *;let d:∀j:Å,tE (e2 za Į (eC ϧc)) ūg=À (decide ((i:Å)=j)):=λj=>by simp only[Ò,ħc]
 let g:∀{f:FE}{v:D}{j:Ã},f ūg=À v->j<4->WQ 2 (eC Đn) f ūg=À (.nx [À (Â,dm),x,À (Ä,.lst (L.set j v)),À (Â,.int (i:Å))]):=λ{f v j} r s=>x64 r rfl rfl É
 let q:i=0\/i=1\/i=2\/i=3:=by omega
 clear hi;rcases q with h|h|h|h;show(OT (ς (d 0))).trans (ς (g (j:=0) (n _) Í));show(ŀh).trans ((OT Çm).trans (ς (g (j:=1) (l _) Í)));show(ŀh).trans (υe (OT õo) (ς (g (j:=2) (p _) Í)));show(ŀh).trans (υe (W8 õo) (ς (g (j:=3) (o _) Í)))
theorem z24:∀(o:Á Ã)(L:Á D)(y:Ê Sl),(∀i∈o,i<4)->Ϛ=4->∃z,p9 Ÿb Bq (Ņg λi:Ã=>.int (i:Å)) [À (Â,yd C T e fw fh Åb due done),x,À (Ä,.lst L),y]=À (.nx [À (Â,yd C T e fw fh Åb due done),x,À (Ä,.lst (o.foldl ũl L)),z])
 | [],_,y,_,_=>{y,rfl}|i::o,L,y,h,hL=>by let{z,f}:=z24 o Ŗn (À (Â,.int (i:Å))) (λj d=>h j ĳd) (by rw[ņa];show hL);show{z,?_};rw[ġ,Nq (σ1:=ϙj) rfl (w1b hC hs (h i ĳ) hL),f];rfl
theorem F2{m:Å}:gv Ĵk=À (Ä,.lst Ϟe):=by
 let g:∀o:Á Ã,(∀i∈o,i<4)->o.foldl ũl Ęm=X6 Ws a b c ps k->zK (.lst [.lst [.int 0,.int 1,.int 2,.int 3],.lst [.int 3,.int 2,.int 1,.int 0],.lst [.int 2,.int 0,.int 3,.int 1],.lst [.int 1,.int 3,.int 0,.int 2]]) ýo=À (.lst (Ņg λi:Ã=>.int (i:Å)))->gv Ĵk=À (Ä,.lst Ϟe):=λo lt j f=>by let{z,d}:=z24 hC hs (x:=À (Â,.int m)) o Ęm Æ lt rfl;rw[j]at d;rw[y0e];unfold GN;generalize (Ņg λi:Ã=>ý (i:Å))=O at f d;generalize yd C T e fw fh Åb due done=dm at f d ⊢;generalize X6 Ws a b c ps k=VV at f d ⊢;simp only[Ò,f,d]
 rcases(show m%4=0\/m%4=1\/m%4=2\/m%4=3 by omega)with h|h|h|h;show g Ži Í rfl Ôd;show g źi Í rfl Ôd;show g Żi Í rfl Ôd;show g żi Í rfl Ôd
#print a
theorem PX(t:Ç):∀(L:Á D)(s:Ã×Ê Ã),(xH t∈L\/∃p,s.2=À p/\p<=s.1)->∃p,ÿm.2=À p/\p<=s.1+(Ćf).length
 | [],s,h=>by let{p,a,b}:=h.resolve_left Īa;show{p,a,đ b ϒi}
 |d::L,s,h=>by
  rw[ćd];cases c:yS d with
  |Ä=>
   rw[éd ģh]
   let e:Zl t s d=(s.1,match D7 t d with|Ä=>À s.1|Â=>s.2):=by
    unfold Zl;rw[c]
    try rfl
   rw[e];show PX t L _ ?_;cases n:D7 t d with
   |Ä=>show .inr {s.1,rfl,Ϙ _}|Â=>rcases h with h|h;rcases ň h with h|h;rw[<-h]at n;let z:D7 t ŧe=Ä:=Ŏb t;rw[z]at n;cases n;show .inl h;show .inr h
  |Â=>
   rw[ϐb Ćn,ą]
   let e:Zl t s d=(s.1+1,s.2):=by unfold Zl;rw[c]
   rw[e]
   let{p,a,b}:=PX t L (s.1+1,s.2) (by rcases h with h|⟨p,a,b⟩;rcases ň h with h|h;rw[<-h]at c;cases c;show .inl h;show .inr {p,a,òf b})
   show{p,a,by let b:p<=s.1+1+(Ćf).length:=b;omega}
def zN(N:Á Ç)(a:Á D):Á Úb:=ϓa λt=>(t,(Ōf).getD 0)
def y31{N:Á Ç}{g:Á D}(P:PW N g):TV (zN N g) Ñf g/\(∀r∈g.filter λd=>!yS d,RJ (zN N g) TZ r)/\∀q∈zN N g,q.2<=(Ñf).length:=by
 let k:∀t∈N,∃p,ϯh.2=À p/\p<=(Ñf).length:=λt i=>by
  let m:xH t∈g:=(ňb (Ōm (Ϛb {t,i,rfl}))).1;let{p,a,b}:=PX t g (0,Æ) (.inl m)
  show{p,a,by let b:p<=0+(Ñf).length:=b;omega}
 let l:∀t∈N,(t,(Ċj).getD 0)∈zN N g:=λt i=>Ϛb {t,i,rfl}
 refine{{λd n=>NO (Ñd d n),rfl,by let:=P.ln;omega,λq j=>?_},λr u=>?_,λq j=>?_};let{t,i,rfl}:=Ų j;let{p,a,_}:=k t i;exact ϯh.2=À ((Ċj).getD 0);rw[a];rfl;let{o,s}:=ňb u;rcases Ñd r o with h|⟨t,_,rfl⟩;cases h with
 |Ϻ h=>
  cases h with
  |Š=>show .stop|gk hw a b c d=>show .plain {.gk hw a b c d,λz=>by cases z}|two hw a b c d=>show .plain {.two hw a b c d,λz=>by cases z}|ZF hw a b c d=>show .plain {.ZF hw a b c d,λz=>by cases z}|mem hw a b c d e f=>show .plain {.mem hw a b c d e f,λz=>by cases z}
 |wQ i=>show .wQ (l _ i)|Âa hw hk i=>show .cond hw hk (l _ i)
 cases s;let{t,i,rfl}:=Ų j;let{p,a,b}:=k t i;exact(Ċj).getD 0<=_;rw[a];show b
def WB:xB:=(xq (qE 9 (wx (ςa (e2 yp (eC (.int 42)) (z6 8)))))
    (xq (kJ (Zx (ςb (e2 xP (e2 zK Ğa (zU XX (wN ď Ϣa ša zF))) (zU XX (wN ē Ϣa Ãd zF))) (e2 xP ϥk ůk)))
     Ĵf
     kK)
    (xq (kJ (Αc (e2 xP (zU gv (zA ša (Α Ŧe))) (zU gv (zA Ãd (Α (e2 wY Ŧe Ŕb))))))
     Ĵf
     kK)
    (xq (kJ (As (B0 xP (ZR ď ģc 6 [] qp u4) (ZR ē ģc 7 [] qp u4)))
     Ĵf
     kK)
    (kJ (Zx (kW (tE (zU we (wN ď őa ša zF))) (Υa (zU we (wN ē őa Ãd zF)) (e2 za (e2 xD (z6 8) Ŕb) Ìb))))
     (kL Ÿj)
     kK)))))
def Mo:xB:=
 (xq (qE 1 (wx (zU Jw (Α (zU Jx (zA (uW Jt (η (zA ļ (zA (eC Ϭi) zF)))) (zA (zU t9 (η ći)) zF)))))))
  (xq (qE 2 (wx (uW Ju (Υ (eC (.int 30))))))
  (xq (qE 3 (wx (uW Jr (Υ (eC (.int 38))))))
  (xq (Δd (zU TC Ûa))
  (xq (qE 5 (wx (uW VD (Ψc (zU VE Ći)))))
  (xq (qE 6 (Im ď Uv (uH ŗ Ϭg)))
  (xq (qE 7 (Im ē Ux (uH (uW Ja Ûa) Ϭg)))
  (xq (Bz (tj ī űh) Ųj
   WB)
  (kL (qx (e2 za ϥk ůk)))))))))))
def dB:FM:=uE 1 10 Mo
def mP(x0:M):dB ë=vH 1 10 Mo ë:=rfl
def y1a(r:D)(h:TZ r):Hd r:=by
 let{h,a}:=h;show{h,?_};cases h with
 |Š=>show ß rfl a|gk hw=>rcases hw with rfl|rfl<;>show{_,rfl,rfl,rfl}
 |two hw=>rcases hw with rfl|rfl|rfl|rfl|rfl|rfl|rfl|rfl|rfl<;>show{_,rfl,rfl,rfl}
 |ZF hw=>rcases hw with rfl|rfl<;>show{_,rfl,rfl,rfl}
 |mem hw=>rcases hw with rfl|rfl|rfl|rfl<;>show{_,rfl,rfl,rfl}
theorem nQ{g:MG}{b:xB}(P:Ã->yU->È)(Q:gx->È):∀{ds:Á D}{β:yU}(n:Ã),P n β->(∀i d β,ds[i]?=À d->P (n+i) β->∃β1,g d β=À β1/\((∃β2,b β1=À Ūb/\P ħj β2)\/∃x β2,b β1=À Ťf/\Q Ťf))->
  (∃β',tI g b ds β=À Ϫi/\P Ħj β')\/∃x β',tI g b ds β=À ťf/\Q ťf
 | [],β,n,h,_=>.inl {β,rfl,h}|d::ds,β,n,h,ļb=>by
  let c:∀β1 r,g d β=À β1->b β1=À r->tI g b ęg β=match r with|.nx β2=>tI g b ds β2|.ct β2=>tI g b ds β2|.bk β2=>À Ūb|.rt m β2=>À ďi:=λβ1 r p k=>by exact(àj).bind _=_;rw[p];exact(Ěg).bind _=_;rw[k];rfl
  obtain⟨β1,e1,⟨β2,e2,s⟩|⟨x,β2,e2,q⟩⟩:=ļb 0 d β rfl h;let t:=nQ P Q (ds:=ds) (β:=β2) Ŋ s λi o τ f j=>by let{a,e,l}:=ļb ñ o τ ïf (by rw[show n+ñ=n+1+i by omega];show j);show{a,e,by rw[ϱp];show l}
  rw[c β1 _ e1 e2,ą,show n+Èc=n+1+ø by omega];show t;show .inr {x,β2,c β1 _ e1 e2,q}
def B_{f g:xB}{β β1:yU}(h:f β=À (.nx β1)):xq f g β=g β1:=by exact(Óc).bind _=_;rw[h];rfl
def Nv{f:FT}{a b:xB}{β:yU}{τ:yD}{k:Ð}(h:qM β=τ)(e:f τ=À k):kJ (Zx f) a b β=bif k then a β else b β:=by rw[ģq];cases k<;>rfl
def z6x{m:Ç}{F:FM}{T fw fh:D}{e due done:Å}{s:M}{x0 x1 x2 x3 x4 x5:Ê M}{yG:yU}(a:m ∉ qt):ZR ď m 6 [] F u4 Ϭj=ZQ F [.p 6 []] Ϭj:=by exact(match decide (ď=(ď : Ç))&&!(decide Új)with|Ä=>_|Â=>_)=_;rw[Ę a,ò rfl];rfl
def z6y{m:Ç}{F:FM}{T fw fh:D}{e due done:Å}{s:M}{x0 x1 x2 x3 x4 x5 a:Ê M}{yG:yU}(b:m ∉ qt):ZR ē m 7 [] F u4 Ϫj=ZQ F [.p 7 []] Ϫj:=by exact(match decide (ē=(ē : Ç))&&!(decide Új)with|Ä=>_|Â=>_)=_;rw[Ę b,ò rfl];rfl
def Qe{m:Ç}{T fw fh sd:D}{e due done:Å}{b a d f h c:Ê Sl}{τ:yD}(g:m ∉ qt):wN ď m ša zF (b::a::d::f::h::c::À (Â,yd ď T e fw fh sd due done)::τ)=À [yd ď T e fw fh sd due done]:=z0r g rfl
def Qf{m:Ç}{T fw fh sd:D}{e due done:Å}{b a h c i f d:Ê Sl}{τ:yD}(g:m ∉ qt):wN ē m Ãd zF (b::a::h::c::i::f::d::À (Â,yd ē T e fw fh sd due done)::τ)=À [yd ē T e fw fh sd due done]:=z0r g rfl
def oI{Ws:Á Å}{a b c k:Ð}{ps:Á Ĝ}:qG 6 (Γ Ϟe)=Ä:=by
 let g:qG 5 ía=Ä:=ϑb λd e=>by let{x,_,rfl}:=Ų e;rfl
 let f:qG 5 þp=Ä:=ϑb λd e=>by let{x,_,rfl}:=Ų e;rfl
 exact(qG 5 ía&&(Ä&&(qG 5 þp&&Ä)))=Ä;rw[g,f];rfl
def y33:xB:=kL Ÿj
def x3o{f:FE}{β:yU}{τ:yD}(h:qM β=τ)(e:f τ=À Č):kL (qx f) β=À (.rt Őp β):=by rw[ģq];rfl
inductive fU(n:Ã)(A:Ã->Å)(T U fw fh:D)(Ws:Á Å)(a b c:Ð)(ps:Á Ĝ)(i j:Ã):È
 |mk {Ws':Á Å} {a' b' c' t v z:Ð} {ps':Á Ĝ} {i' j':Ã} (w:qc Ws') (p:ul ps') (l:Ĥi<=ę+4) (hi:i'<=n) (hj:j'<=j+1)
   (h1:we ãd=À (Â,.bl v)) (h2:we Ùd=À (Â,.bl v))
   (g1:we [yd ď T n fw fh Ċk i' j']=À (Â,.bl z)) (g2:we [yd ē U ób fw fh Ċk łg j']=À (Â,.bl z))
   (e1:qp ϑe=À ([yk ď T n fw fh ϕe i' (j':Å)],.fz ϳc))
   (e2:qp Ϗe=À ([yk ē U ób fw fh ϕe łg (j':Å)],.fz ϳc)):fU n A T U fw fh Ws a b c ps i j
def w24{n:Ã}{A:Ã->Å}{T U fw fh:D}(W:Tc n A T U){Ws:Á Å}{a b c:Ð}{ps:Á Ĝ}{i j:Ã}(d:qc Ws)(P:ul ps)(e:ę<=700)(hi:i<=n):fU n A T U fw fh Ws a b c ps i j:=by
 let q:∀{Ws:Á Å}{a b c:Ð}{ps:Á Ĝ} {i j:Ã},qc Ws->ul ps->ę<=800->i<=n->∃v:Ð,we ãd=À (Â,.bl v)/\we Ùd=À (Â,.bl v):=λ{Ws a b c ps i j} d P e hi=>by
  cases nv W (fw:=fw) (fh:=fh) (a:=a) (b:=b) (c:=c) (j:=j) d P e hi with
  |no h1 h2 _ _=>show{_,h1,h2}|go _ _ _ _ h1 h2 _ _=>show{_,h1,h2}
 cases nv W (fw:=fw) (fh:=fh) (a:=a) (b:=b) (c:=c) (j:=j) d P É hi with
 |no h1 h2 e1 e2=>show .mk d P ϒi hi ϒi h1 h2 h1 h2 e1 e2|@go Ws' a' b' c' ps' i' w p l hi' h1 h2 e1 e2=>let{v,f,g}:=q (a:=a') (b:=b') (c:=c') (j:=j+1) w p É hi';show .mk (j':=j+1) w p l hi' Đ h1 h2 f g e1 e2
inductive MO(d0 d1 d2 d3 d4:D)(n:Ã)(A:Ã->Å)(T U fw fh:D)(įb:Á D)(u:Ã)(β:yU):È
 |mk (Ws:Á Å) (a b c:Ð) (qs:Á Ĝ) (i j:Ã) (x8 x9:Ê M) (w:qc Ws) (P:ul qs) (l:Ϲo<=6+4*u) (hi:i<=n)
  (e:β=[À łe,À íg,À ìg,À ëg,À êg,À Ŏp,À (Ωd (kP qs) (vP qs)),À (Φd (kP qs) (vP qs)),x8,x9]):MO d0 d1 d2 d3 d4 n A T U fw fh įb u β
inductive MK(d0:D):gx->È
 |mk {β:yU}:MK d0 (.rt Őp (À łe::β))
def z23{d0 d1 d2 d3 d4 d5 d8 d9 T U fw fh sd:D}{s:M}{n m i k j:Å}(h:vA s=sd):qM [À łe,À íg,À ìg,À ëg,À êg,À (.fz d5),À ßl,À àl,À (.fz d8),À (.fz d9)]=[À (Â,d0),À (Â,d1),À (Â,d2),À (Â,d3),À (Â,d4),À (Â,d5),À (Â,yd ď T n fw fh sd i j),À (Â,yd ē U m fw fh sd k j),À (Â,d8),À (Â,d9)]:=by exact[À (Â,vA łe),À (Â,vA íg),À (Â,vA ìg),À (Â,vA ëg),À (Â,vA êg),À (Â,vA (.fz d5)),À (Â,vA ßl),À (Â,vA àl),À (Â,vA (.fz d8)),À (Â,vA (.fz d9))]=_;rw[Qo,Qo,h];rfl
section
variable{d0 d1 d2 d3 d4:D}{n:Ã}{A:Ã->Å}{T U fw fh:D}{įb:Á D}
def w1z(W:Tc n A T U)(Z:∀i,i<=n->zK ŀf Ňa=À ϩf)(R:∀k:Å,0<=k->k<100->∃m:Å,t9 ëo=À (Â,.int m)){u:Ã}(hu:u<25){Ws:Á Å}{a b c:Ð}{f:Á Ĝ}{i j:Ã}{I:Ê M}(w:qc Ws)(P:ul f)(l:Ĝa<=6+4*u)(hi:i<=n) :(∃β2,WB Ŝg=À Ūb/\MO d0 d1 d2 d3 d4 n A T U fw fh įb (u+1) β2)\/∃x β2,WB Ŝg=À Ťf/\MK d0 Ťf:=by
 let{m,S}:=R (42+(u:Å)) É É;obtain @⟨g,r,p,B,t,v,z,d,o,h,w',Q',l',H,L,h1,Q,K,J,e1,e2⟩:=w24 W (fw:=fw) (fh:=fh) (a:=a) (b:=b) (c:=c) (j:=j) w P É hi;let N:=λm=>F2 (m:=m) .row h1
 let Y:=λm=>F2 (m:=m) .word Q
 let t3:=λm=>F2 (m:=m) .row K
 let t4:=λm=>F2 (m:=m) .word J
 let n1:=D9 (oI (Ws:=Ws) (a:=a) (b:=b) (c:=c) (k:=v) (ps:=f));let n2:=z86 (oI (Ws:=g) (a:=r) (b:=p) (c:=B) (k:=z) (ps:=d));let X:∀x:Å,xP şb şb=À á:=λx=>D9 rfl
 let n4:za đn đn=À Č:=Yg rfl;let O:xP ϳc ϳc=À á:=D9 rfl;let dv:wY Ŏd (.int 4)=À (Δ (m/4)):=rfl;let F:=z23 (d0:=d0) (d1:=d1) (d2:=d2) (d3:=d3) (d4:=d4) (d5:=.lst įb) (d8:=.int (u:Å)) (d9:=.int m) (T:=T) (U:=U) (fw:=fw) (fh:=fh) (n:=(n:Å)) (m:=A n) (i:=(i:Å)) (k:=A i) (j:=(j:Å)) (uc (ws:=wI Ws) (a:=a) (b:=b) (c:=c) (hk:=kP f) (hv:=vP f));let E:=z23 (d0:=d0) (d1:=d1) (d2:=d2) (d3:=d3) (d4:=d4) (d5:=.lst įb) (d8:=.int (u:Å)) (d9:=.int m) (T:=T) (U:=U) (fw:=fw) (fh:=fh) (n:=(n:Å)) (m:=A n) (i:=(o:Å)) (k:=A o) (j:=(h:Å)) (uc (ws:=wI g) (a:=r) (b:=p) (c:=B) (hk:=kP d) (hv:=vP d))
 let G:WB Ŝg=bif z&&decide ķf then y33 śg else kK śg:=by
  unfold WB;show(B_ (β1:=[À łe,À íg,À ìg,À ëg,À êg,À Ŏp,À (Ωd ŭd Ūd),À (Φd ŭd Ūd),À (.fz (.int (u:Å))),À (.fz Ŏd)]) ?_).trans ?_;let hd:∀{C:Ç}{T fw fh:D}{e:Å}{s:M}{d0 j0:Å},Žb ál=Æ:=rfl;simp only[Ŝ,hd,Ϸ,S]
  show(łk).trans ?_;let hi:=Z i hi;simp only[Ò,Qe (m := Ϣa) Ő,Qf (m := Ϣa) Ő,Qe (m := çb) Ő,Qf (m := çb) Ő,r9 .row,r9 .word,Qk .row,Qk .word,hi,X]
  show(łk).trans ?_;simp only[Ò,N,Y,dv,n1]
  show(B_ (β1:=śg) ?_).trans ?_;simp only[Ŝ,B0,YJ,z6x (m := ģc) Ő,z6y (m := ģc) Ő,e1,e2,O]
  show Nv E ?_;let q:za (Δ ((u:Å)%4)) Ϩc=À (Ηa ķf):=rfl;generalize decide ķf=y at q ⊢;cases z with
  |Â=>simp only[Ò,Qe (m := őa) Ő,Qf (m := őa) Ő,K,J,q];rfl|Ä=>simp only[Ò,Qe (m := őa) Ő,Qf (m := őa) Ő,K,J,q]
 rw[G];cases z&&decide ķf with
 |Â=>show .inl {_,rfl,.mk g r p B d o h _ _ w' Q' É H rfl}|Ä=>show .inr {_,_,x3o E ?_,.mk};simp only[Ò,t3,t4,n2,Qe (m := çb) Ő,Qf (m := çb) Ő,Qk .row,Qk .word,n4]
theorem y3i(W:Tc n A T U)(f:A 0=0)(v:∀i,i<=n->zK ŀf Ňa=À ϩf)(q:∀k:Å,0<=k->k<100->∃m:Å,t9 ëo=À (Â,.int m)){e:Á Å}(h:qc e){ps:Á Ĝ}(P:ul ps)(B:ę<=6) :(∃β',tI Ųj WB ēg ŝg=À Ϫi/\MO d0 d1 d2 d3 d4 n A T U fw fh įb 25 β')\/∃x β',tI Ųj WB ēg ŝg=À ťf/\MK d0 ťf:=by
 let:=nQ (g:=QC 8) (b:=WB) (MO d0 d1 d2 d3 d4 n A T U fw fh įb) (MK d0) (ds:=wt 25) (β:=ŝg) 0 {e,Â,Â,Â,ps,0,0,Æ,Æ,h,P,by omega,ýa _,by rw[f];rfl} λu d β o p=>by let{C,a,b,c,z,i,j,E,y,w,Q,l,t,rfl}:=p;rw[š]at l ⊢;let{s,rfl}:=Qr o;show{_,rfl,w1z W v q s w Q l t}
 let r:(ēg).length=25:=by rw[ç,Ďb]
 rw[š,r]at this;rw[Ũp]
#print a
def x3x:∀ns:Á Å,ŵ<=63->(∀m∈ns,vi m<=1048576)->∃r,dB ķh=À (r,.fz Č):=λns z y=>by
 let{m,m0,_,F}:=Yn z y (k:=0) Í Í
 let t:∀k:Å,0<=k->k<100->∃m:Å,t9 Ěh=À (Â,.int m):=λk h0 h1=>by let{m,_,_,e}:=Yn z y h0 h1;show{m,e}
 let{W0,e1,K,G}:=x3m z y (f:=30) Í Í;let{J,P,lp,e2}:=y3y z y;let{N,R,L,r1,_,_,hR,P0,fr,o,X,nb,lb}:=x26 z y (first:=1) (Àb:=12) Í Í Í Í;generalize Ùc ϡ=s at F t X e1 e2 ⊢;let{k,n,r,hk,hn,pr,es}:=x6x o m0;let{N0,E}:=x2r hR P0 fr nb lb hk hn o pr;let{_,_,_,rl,_}:=QW (m:=0) (.inl pr)
 let lI:(Ηc Ęd).length<=38:=by let:=x6w (p:=λd=>!yS d) (k:=k) (n:=n) (L:=L) (r:=r) (by rw[rl];rfl);rw[fr]at this;omega
 generalize jd L k n r=I at *;let{Y,hr,hZ}:=y31 E;generalize (I.filter λd=>!yS d)=Ö at *;generalize zN N0 I=Z at *;let{S,v,lS,tS}:=x6b E;let O:=x3k E lS tS;obtain @⟨T,U,A,ws,B,zE,W,hA,he,hs,f1,f2,f3,f4,hT,_⟩:=y3m Y hr hZ É;let{t1,t2}:=x8h y1a hr Y;let H:=x3q t1 t2 (by rw[ç]) É K G Ŷo;rw[<-hT]at H;let wi:=w5j f4 K G Ŷo;rw[<-he]at wi
 let a1:Ja [.str S]=À (Ä,.lst ws):=by rw[z9h];unfold Ej;simp only[Ò,O,f1]
 let u:∀τ:yD,tj ī űh τ=À ēg:=λτ=>Zo (n:=25) rfl Í
 let h:∀{C:Ç}{T fw fh:D}{e:Å}{s:M}{d0 j0:Å},Žb ál=Æ:=rfl;rcases y3i (d0:=s) (d1:=.str S) (d2:=.lst (wI W0)) (d3:=.lst (J.map pD)) (d4:=.lst I) (fw:=.lst (wI W0)) (fh:=.dic (kP J) (vP J)) W hA hs t {K,G} P É with⟨β',e3,Ws,a,b,c,qs,i,j,x8,x9,w,Q,l,hi,rfl⟩|⟨x,β',e3,g⟩;show{[.fz s],?_};let q:=Yg (i:=(j:Å)) rfl;rw[mP];unfold Mo;simp only[Ŝ,F,X,es,v,e1,e2,O,f2,f3,H,a1,wi,h,u,e3,Qo,uc,Qe (m := çb) Ő,Qf (m := çb) Ő,Qk .row,Qk .word,q];generalize hfl:gx.rt x β'=fl at g;cases g with
 |@mk β=>cases hfl;show{[.fz s],?_};rw[mP];unfold Mo;simp only[Ŝ,F,X,es,v,e1,e2,O,f2,f3,H,a1,wi,h,u,e3]
#print L3
local macro_rules
 | `(tactic| ac_rfl)=>`(tactic| show⟨rfl,rfl,rfl,by decide +kernel,rfl,by decide +kernel,by decide +kernel⟩)
namespace My
open ģ L2 L3
set_option maxHeartbeats 4000000
nonrec def top(i:Ã):Ú:=PySem.Challenge.pw_markrun_k91_whole_two_machines.main.body.getD i ļm
section
variable{P:ï}{w:è}{K:Ñ}{mg:Ç->Ê Value}{Ë:Heap}{Uo:Ì}{V8:Ì}{Ur:Ì}{Uq:Ì}{Us:Ì}{Ut:Ì}{XS:Ì}{XU:Ì}{XT:Ì}{Up:Ì}
abbrev HT:=ï->è->Ñ->ĸh->Heap->È
section
variable{h:Heap}(X:ţ h)(G:Ģa Ģ mg)
abbrev Rx:Ú:=top 12
def x56:zk ŵi ŵi (zX Rx):=by ac_rfl
variable(pM:mg Šc=Æ)(LZ:mg ĸb=Æ)(ab:mg ŗe=Æ)
def Cj:=HD ëi ŵi 1 jq
def y87(a:zP K ëi Rx):Cj P w K mg Ë:=(ŉ).oS P w Ë 0 jq x56 yE λb=>(Ζa (Ψa (v8 (WS .bool rfl rfl pM ab z5z ùa)) (jg (ω (WS .int rfl rfl pM LZ iL ùa)))) Ŷc (L9 (uA DG uq ťb ùa ϩa) (UD (uA Yt uq ùa (zG Ģh) ϩa))))
abbrev RF:Ú:=top 13
def z05:zk [Šd,Ėd,Ña,"total"] ĭn (zX RF):=by ac_rfl
variable(Q1:wH mg "BEYOND" äd)(QU:∀H,zh K H äd äd)
def CV:=HD új ĭn 1 Uy
def y73(a:zP K új RF):CV P w K mg Ë:=(Üb).oS P w Ë 0 Uy z05 yE λb=>(zV (yQ (i:=3) z05.nd rfl à (zY xV xU èm Ϫl)) (Τa (zB (zY xT xR Ž Űh) (Β (uA Oj uq ϸg (zG Űh) ľ)))))
abbrev Sr:Ú:=top 14
def z0h:zk [Šd,Ėd,"borrow",Şa] ţl (zX Sr):=by ac_rfl
def E4:=HD øj ţl 1 TH
def y9f(a:zP K øj Sr):E4 P w K mg Ë:=(Üb).oS P w Ë 0 TH z0h yE λb=>(zV (yQ (i:=3) z0h.nd rfl à (zY Zj Zi (zY Zj Zi Ă Ġ) Ϫl)) (zV (Τ (zy Yt uq Ũb ťb ľ) (Τa (zB (zY xV xU Ž Űh) ħd))) (Τa (zB Ž ħd))))
abbrev Sd:Ú:=top 17
def x5g:zk ōh ōh (zX Sd):=by ac_rfl
def Cy:=HD ĸj ōh 1 vC
def y92(a:zP K ĸj Sd):Cy P w K mg Ë:=(Üb).oS P w Ë 0 vC x5g yE λb=>(Ε (zY PM QO ém Şk))
abbrev Sz:Ú:=top 18
def z0k:zk [ş,Ńg,Ůc,Ýa,"there"] ϓl (zX Sz):=by ac_rfl
def E6:=HD æi ϓl 1 YF
def y9m(a:zP K æi Sz):E6 P w K mg Ë:=(źo).oS P w Ë 0 YF z0k x40 λb=>(zV (yQ (i:=4) z0k.nd rfl à (zY Yu Ys Şk Ġ)) (Ε (zY oQ QO (zY PM QO Ă (UE w3g w3f Ϧ)) (zY Yu Ys Ž Ġ))))
abbrev Sm:Ú:=top 19
def z0f:zk ėm Ϣf (zX Sm):=by ac_rfl
def C_:=HD ϲi Ϣf 1 Xi
def y9a(a:zP K ϲi Sm):C_ P w K mg Ë:=(ŉ).oS P w Ë 0 Xi z0f yE λb=>(zV (yQ (i:=2) z0f.nd rfl à Ģh) (Ε (tM (zy Yt uq ßh Ža ϩa) Ă (zY Zj Zi Ă ņ))))
abbrev Sw:Ú:=top 20
def z0j:zk ėm Ϣf (zX Sw):=by ac_rfl
def E5:=HD ēi Ϣf 1 TK
def y9j(a:zP K ēi Sw):E5 P w K mg Ë:=(ŉ).oS P w Ë 0 TK z0j yE λb=>(zV (yQ (i:=2) z0j.nd rfl à Ģh) (zV (Λa (Ψa (zy Yt uq ßh (zG (UE Qq Qp ņ)) ľ) (jg (zy Oj uq ßh Ža ľ)))) (Ε (tM (zy Oj uq ùa ťb ϩa) Ă (zY xV xU Ă ņ)))))
abbrev A3:Ú:=top 22
def x5n:zk Ïj Ïj (zX A3):=by ac_rfl
variable(ae:mg "sum"=Æ)(kq:mg Ļa=Æ)(O4:wH mg Äo ϻf)(Os:∀H,zh K H Q4 ϻf)
def E7:=HD ŏi Ïj 1 IF
def y9p(a:zP K ŏi A3):E7 P w K mg Ë:=(Ň).oS P w Ë 0 IF x5n yE λd=>(Ζ (vI (z6k rfl) y9b rfl ae z63 (wn (Βb (vZ rfl (wj (own:=["byte",Ńg]) rfl) (LD rfl kq Ă ôn) (χa (θb (δa (Ξa Ϙk) (Νa (Θb Ϙk))))) Ϙb (Η (zY Yu Ys Ġ ņ)))) wp)))
abbrev Sc:Ú:=top 40
def x5f:zk [ßa] [ßa] (zX Sc):=by ac_rfl
variable(Ld:mg Ťb=Æ)
def Cw:=HD Ęi [ßa] 1 J_
def y91(a:zP K Ęi Sc):Cw P w K mg Ë:=(Ň).oS P w Ë 0 J_ x5f yE λb=>(Ι (vZ rfl (wj (own:=[ńa]) rfl) (ωb (x68 rfl rfl Ld űa)) (χb (Ξa (xj [ßa] [Ϫo]))) (Ν (Zu (zy šb tJ (zG ϧe) (zG zH) ľ))) (Ν (wz (Αa Ϗi) Ýc))))
abbrev RO:Ú:=top 41
def x4j:zk İd İd (zX RO):=by ac_rfl
def CY:=HD śi İd 1 U_
def y79(a:zP K śi RO):CY P w K mg Ë:=(ŉ).oS P w Ë 0 U_ x4j yE λb=>(Ε (z0o ŗa Ă Ġ zH {rfl,rfl,rfl,rfl}))
abbrev RD:Ú:=gD (top 48) 0
def x4e:zk Øe Øe (zX RD):=by ac_rfl
variable(j7:mg ĸ=Æ)(Wm:mg ϐ=Æ)(gB:wH mg "MARKS" Ϲf)(gL:∀H,zh K H jV Ϲf)(wX:vf K [ŏ] Ŏ)(qd:vf K [ŏ] Òb)(jL:vf K [ŏ] ßa)
def y71{f:Ì}{c:Ō}(d:vW K Ϡa ŀm RD f c):xi P w K mg Ë xY 1 f c Øe ěp:=d.oM P w mg Ë 0 Uw x4e uT λe=>(wJ (kO ϩ wX (Ny (AO rfl j7 Ďa))) (wJ (kO ϩ qd (Ny (Μc (vZ rfl ńl (uB Ñe) (vX (ιb (Βc (xj [Ĉc,Ŏ,"held"] [Ĉa]))) rfl) Ħm (ιb (Βa (zB ϵc ħd))))))) (v6 (kO ϩ jL (Ny (x66 rfl Wm Mw ýc))))))
abbrev Rb:Ú:=top 49
def x4r:zk Œ Œ (zX Rb):=by ac_rfl
def Ca:HT:=λP w K mg Ë=>vg P w K mg Ë Ãg Œ 1 (xt K Jg)
def y7l(a:zP K Ãg Rb):Ca P w K mg Ë:=(ŉ).oM P w Ë 0 Jg x4r uT λb=>(Ιa (vO ģa))
abbrev RV:Ú:=top 51
def x4m:zk Œ Œ (zX RV):=by ac_rfl
def CZ:HT:=λP w K mg Ë=>vg P w K mg Ë ϖf Œ 1 (xt K Jc)
def y7f(a:zP K ϖf RV):CZ P w K mg Ë:=(ŉ).oM P w Ë 0 Jc x4m uT λb=>(Ιa (kM ļc))
abbrev R_:Ú:=top 56
def x58:zk Ōh Ōh (zX R_):=by ac_rfl
def Ck:=HD Ϸi Ōh 1 T4
def y8a(a:zP K Ϸi R_):Ck P w K mg Ë:=(Üb).oS P w Ë 0 T4 x58 yE λb=>(Μe (zY PM QO Ġ ņ) (Ε (zY oQ QO Ġ ņ)) (zY x0b QO Ġ ņ))
abbrev SQ:Ú:=top 65
def x5b:zk Œ Œ (zX SQ):=by ac_rfl
def Cu:=HD ùj Œ 1 jG
def y8q(a:zP K ùj SQ):Cu P w K mg Ë:=(ŉ).oS P w Ë 0 jG x5b yE λb=>(Θ Ċh (Ζ Ϥk) (yV Ċh (Ζ (x5w Ϥk)) yl) (Ζ (uA Żd xQ (zG ģa) Ğb ľ)))
abbrev R9:Ú:=gD Ϻb 2
def x4c:zk į į (zX R9):=by ac_rfl
variable(k8:vf K ł Éd)(VX:vf K ł Éa)(IV:vf K ł ñb)
def y6x{f:Ì}{b:Ō}(d:vW K őa łm R9 f b):xi P w K mg Ë xY 1 f b į ϟi:=d.oF P w mg Ë 0 we x4c yE λa=>(Ε (z0p (εe Ėo (vJ Ă IV)) (UD (εe (zg Ćo zf ók zH) (wz (zB zr zL) ŝc)))))
abbrev R8:Ú:=gD Ϻb 5
def x4b:zk į į (zX R8):=by ac_rfl
variable(g7:vf K ł ōa)
def y6w{f:Ì}{a:Ō}(d:vW K ĩa ϊl R8 f a):xi P w K mg Ë xY 1 f a į ϡi:=d.oF P w mg Ë 0 YD x4b yE λb=>(Ι (AO rfl j7 (Β (vJ Ŝf wX))))
abbrev R5:Ú:=gD Ϻb 6
def x48:zk į į (zX R5):=by ac_rfl
variable(ji:mg ŷ=Æ)
def y6t{f:Ì}{c:Ō}(d:vW K Ϫc Ŷm R5 f c):xi P w K mg Ë xY 1 f c į ϣi:=d.oF P w mg Ë 0 YB x48 yE λe=>(Ζ (Ζc (ya (vZ rfl ńl (uB Ñe) (ε (ιb (Ξa (xj [Ĉc] [Ĉa])))) Ħm (ιb (zg (ze (zS e)) zf (vJ Ŝf qd) Ġ))))))
abbrev R7:Ú:=gD Ϻb 9
def x4a:zk į į (zX R7):=by ac_rfl
def y6v{f:Ì}{a:Ō}(d:vW K Ϣa ŵm R7 f a):xi P w K mg Ë xY 1 f a į Ϥi:=d.oF P w mg Ë 0 XX x4a yE λb=>(Ε Ėo)
abbrev RB:Ú:=gD Ϻb 10
def x4d:zk į į (zX RB):=by ac_rfl
variable(VW:vf K ł Íc)
def y6z{f:Ì}{a:Ō}(d:vW K çb Ŵm RB f a):xi P w K mg Ë xY 1 f a į Ϡi:=d.oF P w mg Ë 0 pT x4d yE λb=>(Ε (vJ Ă VW))
abbrev Se:Ú:=top 71
def x5h:zk ŷi ŷi (zX Se):=by ac_rfl
variable(O5:wH mg ųm Ňp)(Ow:tD K w Us O6 O9)(Hy:wH mg šn ń)(Pm:∀H,zh K H ń ń)(qz:wH mg "PLACES" ņp)(pG:tD K w Ut uO uP)
def Cz:=HD ńh ŷi 1 uF
def y93(a:zP K ńh Se):Cz P w K mg Ë:=(ŉ).oS P w Ë 0 uF x5h yE λb=>(zV (yV Ûe (Τa (zB (vK Hy Pm rfl) (Β ðm))) yl) (Ε îm))
abbrev Rk:Ú:=top 74
def x4x:zk [Āa] [Āa] (zX Rk):=by ac_rfl
variable(YY:wH mg "FIELDS" ňp)(Yx:tD K w Uq qf Vl)
def Cc:=HD ĩh [Āa] 1 t8
def y7t(a:zP K ĩh Rk):Cc P w K mg Ë:=(Ň).oS P w Ë 0 t8 x4x yE λd=>(Ι (vZ rfl Ņl (uB (tt YY Yx rfl Ă)) (Δa (xj ["kind"] [Źa])) (ψb (zy (tK îg) tJ İa Ğb ϩa)) åm))
abbrev S0:Ú:=top 77
def z0b:zk [Ϗa,"found"] [Ϗa] (zX S0):=by ac_rfl
variable(Q2:wH mg "CODES" Ņp)(Ot:tD K w XS kF kG)(W3:wH mg Ţn Ńp)(Ov:tD K w XU Ya Za)(X_:wH mg Ão ńp)(Ou:tD K w XT YZ ZZ)(HM:jJ K w XS kF BV)(Iu:jJ K w XU Ya BX)(Pu:∀H,å K H Za BX)(Ir:jJ K w XT YZ BW)(Pt:∀H,å K H ZZ BW)
def Cn:=HD ŝh [Ϗa] 1 T5
def y8b(a:zP K ŝh S0):Cn P w K mg Ë:=(Ň).oS P w Ë 0 T5 z0b yE λd=>(zV (x76 (i:=1) rfl z0b.nd rfl rfl Ěk rfl (AR Q2 HM rfl Í Í) ϔj (ζc (tt Q2 Ot rfl ņ)) âi) (zV (Υe (AR W3 Iu rfl Í Í) (ζc (tt W3 Ov rfl ņ))) (zV (Υe (AR X_ Ir rfl Í Í) (ζc (tt X_ Ou rfl ņ))) (LJ 1 (Ε (tM (zy (xS îg) xQ İa İf ϩa) xr æm))))))
abbrev Rw:Ú:=top 78
def x55:zk [Ϗa] [Ϗa] (zX Rw):=by ac_rfl
def Ci:=HD Şh [Ϗa] 1 YE
def y86(a:zP K Şh Rw):Ci P w K mg Ë:=(Ň).oS P w Ë 0 YE x55 yE λb=>(ςd (ya (z0y rfl rfl j7 W3 Iu rfl Pu Í)))
abbrev Rq:Ú:=top 79
def x50:zk [Ϗa] [Ϗa] (zX Rq):=by ac_rfl
def Cd:=HD ϋh [Ϗa] 1 Xc
def y80(a:zP K ϋh Rq):Cd P w K mg Ë:=(Ň).oS P w Ë 0 Xc x50 yE λb=>(ςd (ya (z0y rfl rfl j7 X_ Ir rfl Pt Í)))
abbrev Ru:Ú:=top 85
def x53:zk [ña] [ña] (zX Ru):=by ac_rfl
variable(Wn:mg ķb=Æ)(xW:mg "len"=Æ)(X9:mg "all"=Æ)(Hv:wH mg Ën ϣ)(Pj:∀H,zh K H ϣ ϣ)(Hu:wH mg ϭo ϯb)(Pi:∀H,zh K H ϯb ϯb)
def Cg:=HD Ŗi [ña] 1 Jm
def y84(a:zP K Ŗi Ru):Cg P w K mg Ë:=(Ň).oS P w Ë 0 Jm x53 yE λd=>(Θ (ω (WS .str rfl rfl pM Wn Mz ùa)) Ŷc (yV (Ψa (zy Yt uq şc ťb ľ) (Γe (vK Hv Pj rfl))) Ŷc yl) (Ζ (vI (B4 rfl) DC rfl X9 M_ (wn (Βb (vZ rfl ņl Ĕc (Δa (xj [ña] [Óa])) Ϙb (θb (uA (pE (zS d)) pB (zG Ġ) (zG (vK Hu Pi rfl)) Ĥa)))) wp))))
abbrev Rt:Ú:=top 86
def x52:zk [Ϯa] [Ϯa] (zX Rt):=by ac_rfl
def Cf:=HD Ěi [Ϯa] 1 Xe
def y83(a:zP K Ěi Rt):Cf P w K mg Ë:=(Ň).oS P w Ë 0 Xe x52 yE λb=>(Ε (Αf (zG Èb)))
abbrev Rs:Ú:=top 87
def x51:zk [Ϯa] [Ϯa] (zX Rs):=by ac_rfl
variable(Ht:wH mg "JUMPS" Ϻf)(Ph:∀H,zh K H BU Ϻf)
def Ce:=HD ŗi [Ϯa] 1 T3
def y82(a:zP K ŗi Rs):Ce P w K mg Ë:=(Ň).oS P w Ë 0 T3 x51 yE λb=>(Ζ (uA đc pB (zG Èb) (zG (vK Ht Ph rfl)) Ĥa))
abbrev RN:Ú:=top 97
def x4i:zk [Éa] [Éa] (zX RN):=by ac_rfl
variable(ac:mg ϴa=Æ)
def CW:=HD Ϻi [Éa] 1 Jb
def y78(a:zP K Ϻi RN):CW P w K mg Ë:=(Ň).oS P w Ë 0 Jb x4i yE λd=>(Ζ (x5v rfl rfl ac (ya (z11 (z0z rfl (wj (own:=[ύa]) rfl) (x6e (i:=0) rfl Ūg) (Δa (xj [Éa] [ύa])) Ϙb (Η æm)) (ip (z7k 0)))) zH))
abbrev A6:Ú:=top 105
def z0l:zk [åa,ϻn] [åa] (zX A6):=by ac_rfl
def E8:=HD Ēi [åa] 1 TQ
def y9s(a:zP K Ēi A6):E8 P w K mg Ë:=(Ň).oS P w Ë 0 TQ z0l yE λd=>(zV (yQ (i:=1) z0l.nd rfl à (x5y (x5x Ă zr) (DJ rfl) Í)) (Ι (vZ rfl (wj (own:=[ş]) rfl) (ωb (z12 Ġ zr)) (ε (Η (Θb (xj ["row",ϻn] [ş])))) (ψb (zy (tK îg) tJ Ža Ğb ϩa)) âi)))
abbrev Sb:Ú:=top 109
def x5e:zk [ş] [ş] (zX Sb):=by ac_rfl
variable(Hs:wH mg Ín ϧa)(Pg:∀H,zh K H ϧa ϧa)(Hr:wH mg Ϯo Œc)(Pf:∀H,zh K H Œc Œc)
def Cv:=HD žh [ş] 1 T8
def y90(a:zP K žh Sb):Cv P w K mg Ë:=(Ň).oS P w Ë 0 T8 x5e yE λb=>(Θ (tQ (jf Üd (Γe (vK Hs Pg rfl)))) Ŗb (Γd (ω (Γc (ya (vZ rfl ņl Ĕc (ε (υ (Ξa (xj [łj] [Óa])))) ňc (υ (uA đc pB İa (zG (vK Hr Pf rfl)) Ĥa))))))) (Ζa (tQ (ψc (z0q Ă zr) (zy šb tJ ùa Ğb ľ))) Ŗb (x5u rfl LZ űa)))
abbrev Rv:Ú:=top 119
def x54:zk [ϕb] [ϕb] (zX Rv):=by ac_rfl
variable(Hx:wH mg ϫo ϙc)(Pl:∀H,zh K H ϙc ϙc)(Hw:wH mg Âo įa)(Pk:∀H,zh K H įa įa)
def Ch:=HD ŕi [ϕb] 1 Jn
def y85(a:zP K ŕi Rv):Ch P w K mg Ë:=(Ň).oS P w Ë 0 Jn x54 yE λb=>(Ε (z0p (uA WJ WI ùa èb ϩa) (UD (L9 (uA DG uq (zG (UE Qq Qp (vK Hw Pk rfl))) ùa ϩa) (UD (uA DG uq ùa (zG (vK Hx Pl rfl)) ϩa))))))
abbrev S4:Ú:=top 131
def x59:zk Ĕe Ĕe (zX S4):=by ac_rfl
def Co:=HD Šh Ĕe 1 Jp
def y8e(a:zP K Šh S4):Co P w K mg Ë:=(ŉ).oS P w Ë 0 Jp x59 x3y λb=>(zV (Τ (zy Yt uq İa şc ľ) (Ε ϧe)) (zT (zn zH)))
abbrev SN:Ú:=top 133
def AD:zk ["_law_found"] [] (zX SN):=by ac_rfl
def Ct:=HD ϻh [] 1 Jy
def y8p(a:zP K ϻh SN):Ct P w K mg Ë:=(a.d0 X G).oS P w Ë 0 Jy AD yE λb=>(zV (yQ (i:=0) AD.nd rfl à (ya (wS (zB zr (zB zr (zB zr (zB zr (zB zr Đo))))) (Βf (zb (zb (zb (zb Õh)))))))) (zV (yQ (i:=0) AD.nd rfl à (ψe (wS Đo (yW (zb Õh) Í)))) (Ε (ψe (wS όj (yW Õh Í))))))
abbrev S8:Ú:=top 135
def QZ:zk [Çb,Ãe,"_law_letters","_law_size",Ào,"_law_spot"] Úp (zX S8):=by ac_rfl
variable(ue:mg Śa=Æ)
def Cq:=HD Ái Úp 1 Js
def y8i(a:zP K Ái S8):Cq P w K mg Ë:=(ŉ).oS P w Ë 0 Js QZ yE λd=>(zV (yQ (i:=2) Źe rfl ĭa zr) (zV (yQ (i:=3) Źe rfl à Īm) (zV (yQ (i:=4) Źe rfl ĭa (AJ zr (Βb (vZ rfl Ńl ϸm źj Ϙb (Η (ωd (zY vq vp Řc (zg Ąf zf (ya (wS (O_ (is:=Ϝd) rfl) (yW (IY (n:=7) Í) Í))) Ìc)))))))) (zV (yQ (i:=5) Źe rfl ĭa (zY xT xR Řc ġh)) (zV (yQ (i:=4) Źe rfl ĭa (Y_ Ϧ Zr Ĳj)) (Ι (vZ rfl (wj (own:=["_law_k"]) rfl) (Zq rfl ue Ġ) źj Ϙb (Η (zY xV xU (zY xV xU (Y_ Ϧ Zr (Zs řa)) (ωd (zY xV xU Řc Ìc))) (Y_ Ϧ (Zs řa) Zr))))))))))
abbrev S5:Ú:=top 137
def Db:zk [ïe,Ćm,"_law_count",ċd] [ïe] (zX S5):=by ac_rfl
def Cp:=HD īh [ïe] 1 Jq
def y8f(a:zP K īh S5):Cp P w K mg Ë:=(Ň).oS P w Ë 0 Jq Db yE λb=>(Θ (γ (zG íf) Ğb) (Ε (zY xV xU íf zr)) (j4 (i:=1) Db.nd rfl à (wS (Β íf) ŝc)) (zV (yQ (i:=2) Db.nd rfl à (z0o ŗa (ya (x67 (WR zH (WR zH (WR zH (WR zH (WR zH (WR zH (WR zH (WR zH x5q)))))))) Ő Í)) íf zH {rfl,rfl,rfl,rfl})) (zV (j3 Łb rfl (x6f rfl ue zH ϭf) (Ωa (ye (i:=3) Db.nd rfl à)) (zT (yV (zy DG uq Ũb Ža ľ) (zT (Zt Ģc (zY xV xU zr Âk))) (zT (Zt Ģc Âk))))) (LJ 1 (Ε (AJ zr İa))))))
abbrev SL:Ú:=top 140
def L5:zk [Ŭc,Çb,"_law_at",Ãe,ĵo,ĝi] Øp (zX SL):=by ac_rfl
def Cr:=HD ύh Øp 1 Jx
def y8n(a:zP K ύh SL):Cr P w K mg Ë:=(ŉ).oS P w Ë 0 Jx L5 yE λb=>(zV (yQ (i:=2) œg rfl à (zY xT xR Ġ (zY xV xU ϭf zH))) (zV (yQ (i:=3) œg rfl à (zg ť zf (ξc (zB zH (zB åc (Β (zY xV xU zH åc))))) åc)) (zV (yQ (i:=4) œg rfl à åc) (zV (yQ (i:=5) œg rfl à (zg ť zf (οc (zB (wz (zB zr (zB Ϧ (Β åc))) õd) (Β (wz (zB zr (zB Ϧ (zB åc (zB åc zL)))) (Βf (zb (zb yg))))))) åc)) (Ε (zY xV xU (zY xV xU (Y_ Ă Zr (Zs ņ)) (ya (z10 (wS Ũf ŝc) Ž))) (Y_ Ă (Zs ņ) Zr)))))))
abbrev SV:Ú:=top 15
def AE:zk [ş,"count","moved","fallen"] Ĭf (zX SV):=by ac_rfl
variable(gC:wH mg Áo Ģe)(gM:∀H,zh K H Ģe Ģe)(qg:Cy P w K mg Ë)
def eJ:=HD ϳh Ĭf 2 Xf
def y8u(a:zP K ϳh SV):eJ P w K mg Ë:=(ŉ).oS P w Ë 1 Xf AE yE λb=>(zV (yQ (i:=2) AE.nd rfl à (zY Yu Ys Ă Ġ)) (zV (yQ (i:=3) AE.nd rfl à (Εe (Εb (zB Îf Ļi)))) (Τa (zB (υd Ćp) ϙb))))
abbrev SX:Ú:=top 16
def z0d:zk [ş,"count","fallen"] Ĭf (zX SX):=by ac_rfl
def eK:=HD ſh Ĭf 2 Xg
def y8v(a:zP K ſh SX):eK P w K mg Ë:=(ŉ).oS P w Ë 1 Xg z0d yE λb=>(zV (yQ (i:=2) z0d.nd rfl à (Εe (Γa (zB (zY Zj Zi Ġ zH) Ļi)))) (Τa (zB ém ýc)))
abbrev RQ:Ú:=top 21
def x4k:zk [ş] [ş] (zX RQ):=by ac_rfl
def dI:=HD Ĝi [ş] 2 T0
def y7b(a:zP K Ĝi RQ):dI P w K mg Ë:=(Ň).oS P w Ë 1 T0 x4k yE λd=>(Ζ (Ζc (ya (vZ rfl (wj (own:=[Ńg]) rfl) (uB ôn) (Δa (xj [ş] [Ńg])) Ϙb (Η (zj qg d rfl (Γa (zB Ġ ϡd))))))))
abbrev Rp:Ú:=top 39
def x4z:zk [ña] [ña] (zX Rp):=by ac_rfl
variable(O2:wH mg În įa)(Op:∀H,zh K H įa įa)(Yd:Cj P w K mg Ë)
def du:=HD ϴh [ña] 2 Jl
def y7z(a:zP K ϴh Rp):du P w K mg Ë:=(Ň).oS P w Ë 1 Jl x4z yE λb=>(Ε (υc (δ õn)))
abbrev RH:Ú:=top 42
def x4g:zk Źi Źi (zX RH):=by ac_rfl
def dE:=HD Ϲh Źi 2 Uz
def y75(a:zP K Ϲh RH):dE P w K mg Ë:=(ŉ).oS P w Ë 1 Uz x4g yE λb=>(Ε (zj qg b rfl (zB èm (zB zH (Β õn)))))
abbrev Sf:Ú:=top 45
def x5i:zk Ùe Ùe (zX Sf):=by ac_rfl
variable(O3:wH mg Åo ϣ)(Oq:∀H,zh K H ϣ ϣ)
def eP:HT:=λP w K mg Ë=>vg P w K mg Ë ėi Ùe 2 (xt K T9)
def y94(a:zP K ėi Sf):eP P w K mg Ë:=(Üb).oM P w Ë 1 T9 x5i uT λb=>(v6 (Od ŗa ϩ Ġ (vO (υd ťl))))
abbrev RW:Ú:=top 50
def x4n:zk Œ Œ (zX RW):=by ac_rfl
variable(OS:E6 P w K mg Ë)
def dP:HT:=λP w K mg Ë=>vg P w K mg Ë ϕf Œ 2 (xt K Jd)
def y7g(a:zP K ϕf RW):dP P w K mg Ë:=(ŉ).oM P w Ë 1 Jd x4n uT λb=>(Ιa (kM (zj OS b rfl (zB ļc (zB zH (zB zH Ħf))))))
abbrev Sn:Ú:=top 53
def x5k:zk Ăh Ăh (zX Sn):=by ac_rfl
variable(BY:CV P w K mg Ë)(N2:E4 P w K mg Ë)
def eW:=HD ϱi Ăh 2 VJ
def y9c(a:zP K ϱi Sn):eW P w K mg Ë:=(źo).oS P w Ë 1 VJ x5k yE λb=>(Μe (zj BY b rfl (Αa (zB ņ ħd))) (Ε (zj BY b rfl (Αa ώn))) (zj N2 b rfl (Αa (Εb (Β (L9 ϵc (UD (Αf (zG Ă)))))))))
abbrev SU:Ú:=top 54
def x5c:zk Ŷi Ŷi (zX SU):=by ac_rfl
def eI:HT:=λP w K mg Ë=>vg P w K mg Ë œi Ŷi 2 (xt K VI)
def y8t(a:zP K œi SU):eI P w K mg Ë:=(ŉ).oM P w Ë 1 VI x5c uT λb=>(wJ (ζb (vO (uA Żd xQ İa ťb ľ))) (v6 (ζb (vO (Λd (Αa (zB (zY Zj Zi Îf zH) Ļi)))))))
abbrev A5:Ú:=top 68
def x5p:zk [ĩa] [ĩa] (zX A5):=by ac_rfl
variable(BP:wH mg Łm ϣ)(DQ:∀H,zh K H ϣ ϣ)
def fD:=HD ϰh [ĩa] 2 IG
def y9r(a:zP K ϰh A5):fD P w K mg Ë:=(Ň).oS P w Ë 1 IG x5p yE λc=>(Θ Ěl (Ι (z10 (wS ϡd ŝc) ön)) (Λa (tQ (jf ăk (jg (εa (yX c) ϭf ön))))) (zV (Λa (ω (Γc (ya (vZ rfl (wj (own:=[ña]) rfl) Ĕc (ε (οa (Ξa (xj [ĩa] [ña])))) ğh (οa (zj Yd c rfl (Αa Ćp)))))))) (Ι (AO rfl j7 űa))))
abbrev R4:Ú:=gD Ϻb 1
def x47:zk į į (zX R4):=by ac_rfl
variable(IW:vf K ł ïc)(IX:vf K ł ϗb)(NT:IH P w K mg Ë ŏ Øe 1 ěp)
def y6s{f:Ì}{a:Ō}(d:vW K ķd ŷm R4 f a):xi P w K mg Ë xY 3 f a į Ϛi:=d.oM P w mg Ë 2 jE x47 uT λb=>(wJ (kO ϩ g7 (Nw NT b rfl (gJ (qI ϩ IX) (gJ (qI ϩ IW) jY)))) (wJ (kO ϩ k8 (vO zH)) (v6 (kO ϩ VW (vO zH)))))
abbrev R6:Ú:=gD Ϻb 7
def x49:zk į į (zX R6):=by ac_rfl
variable(Kv:Cw P w K mg Ë)
def y6u{f:Ì}{a:Ō}(d:vW K Ÿa Ńm R6 f a):xi P w K mg Ë xY 2 f a į Ϣi:=d.oF P w mg Ë 1 YC x49 yE λb=>(Ι (qk Kv b rfl (Β (vJ Ŝf jL))))
abbrev Sa:Ú:=top 72
def x5d:zk Ÿi Ÿi (zX Sa):=by ac_rfl
def eO:=HD èi Ÿi 2 ZI
def y8z(a:zP K èi Sa):eO P w K mg Ë:=(ŉ).oS P w Ë 1 ZI x5d yE λb=>(Ζ (zj qg b rfl (Γa (zB ģa Ħf))))
abbrev Sy:Ú:=top 73
def x5l:zk ϟh ϟh (zX Sy):=by ac_rfl
def f9:=HD Žh ϟh 2 jv
def y9l(a:zP K Žh Sy):f9 P w K mg Ë:=(Üb).oS P w Ë 1 jv x5l yE λb=>(Ζ (zj OS b rfl (Γa (zB ģa (zB ģa ýc)))))
abbrev Rm:Ú:=top 84
def z09:zk [Āa,Źa,ña,Ůc] įn (zX Rm):=by ac_rfl
variable(KU:Cg P w K mg Ë)
def dk:=HD Ĺj įn 2 T2
def y7v(a:zP K Ĺj Rm):dk P w K mg Ë:=(Üb).oS P w Ë 1 T2 z09 yE λb=>(Θ Ûe (Ε (zj KU b rfl ýc)) (yV Ûe (Ζ (uA (x01 ŗa) y7y Ža (zG Ñe) Ĥa)) yl) (zV (yQ (i:=3) z09.nd rfl à (tM Ûe ðm (zg ť zf îm zH))) (Ε (υc ώn))))
abbrev Sk:Ú:=top 88
def x5j:zk [Ŷ] [Ŷ] (zX Sk):=by ac_rfl
variable(W6:Cf P w K mg Ë)
def eV:=HD Œi [Ŷ] 2 qr
def y99(a:zP K Œi Sk):eV P w K mg Ë:=(Ň).oS P w Ë 1 qr x5j yE λd=>(Ι (vZ rfl (wj (own:=[Ϯa]) rfl) Ĕc (Δa (xj [Ŷ] [Ϯa])) (ψb (ω (zj W6 d rfl Ďa))) åm))
abbrev S3:Ú:=top 89
def L4:zk [Ŷ,ϴi,Ϣa,Ϯa] [Ŷ] (zX S3):=by ac_rfl
def e8:=HD Ŝh [Ŷ] 2 T6
def y8c(a:zP K Ŝh S3):e8 P w K mg Ë:=(Ň).oS P w Ë 1 T6 L4 yE λb=>(zV (j4 (i:=1) Ŕg rfl à UF) (zV (yQ (i:=2) Ŕg rfl à zH) (ξ Ĕc (Ωa (ye (i:=3) Ŕg rfl à)) (zT (yV (v8 (zj W6 b rfl ąp)) (zT (UK ŗa Ģc ϔb ņ)) (zT (z1h (i:=2) mx oJ Ŕg rfl à zH)))) ŭe)))
abbrev Rg:Ú:=top 93
def x4u:zk ϡh ϡh (zX Rg):=by ac_rfl
variable(OO:C_ P w K mg Ë)
def de:=HD ϸi ϡh 2 Jj
def y7p(a:zP K ϸi Rg):de P w K mg Ë:=(Üb).oS P w Ë 1 Jj x4u yE λb=>(zV (Γd (zy Oj uq (zG όd) şc ľ)) (Ε (Φe (zB (zg ť zf Ă όd) čo))))
abbrev Rj:Ú:=top 108
def x4w:zk Ŵi Ŵi (zX Rj):=by ac_rfl
variable(Bb:Cv P w K mg Ë)
def dh:=HD Ϸh Ŵi 2 Jk
def y7s(a:zP K Ϸh Rj):dh P w K mg Ë:=(ŉ).oS P w Ë 1 Jk x4w yE λb=>(Θ Üd (Ε (zj Bb b rfl Ďa)) (Τ (tQ (jf Üd (jg Üd))) (Ε (tM (v8 (z0q Ġ zr)) (zj Bb b rfl (Β (Y_ Ġ Ĳj Zr))) xr))) Ńn)
abbrev SR:Ú:=top 110
def UC:zk [ύa,"names",Ýa,Ϯa,"ahead"] [ύa] (zX SR):=by ac_rfl
variable(OJ:Ce P w K mg Ë)
def eG:=HD ϊh [ύa] 2 Jz
def y8r(a:zP K ϊh SR):eG P w K mg Ë:=(Ň).oS P w Ë 1 Jz UC yE λb=>(zV (j4 (i:=1) UC.nd rfl à UF) (zV (ςe (zT (Τ (tQ (We ěl (Ql ğl))) (zT (UK ŗa Ģc ϔb uu))))) (LJ 1 (zV (j4 (i:=4) UC.nd rfl à UF) (zV (ςe (Θ (zy WJ WI Ũb èb ľ) ęe (yV (tQ (ψc (zj OJ b rfl ϙb) (zy (PN ŗa) PL (zG (zg ť zf Ž ĵf)) İa Ĥa))) ęe yl) (zT (yV ğl (zV (yV (zy đc pB (zG ϔb) (z01 4) Ĥa) ęe yl) (zT (UK ŗa (qv 4) ϔb uu))) yl)))) (LJ 4 Ŗb))))))
abbrev S6:Ú:=top 132
def z0c:zk [Ūa,ċd,Çb] Ĕe (zX S6):=by ac_rfl
variable(Kf:Co P w K mg Ë)
def e9:=HD ñi Ĕe 2 t9
def y8g(a:zP K ñi S6):e9 P w K mg Ë:=(ŉ).oS P w Ë 1 t9 z0c yE λb=>(zV (yQ (i:=2) z0c.nd rfl à (zY xV xU (zY xV xU (zY xV xU (zY U1 oK (zj Kf b rfl ñc) zH) (zY U1 Og zH Ġ)) (zY U1 Og zH ϭf)) zH)) (Ε (zY xT xR (zY U1 oK (zY xT xR (zY x05 y8w ņ ņ) zH) zH) zH)))
abbrev SJ:Ú:=top 134
def Qa:zk [Çb,Řk,Ãe,Ào,ĵo,"_law_two","_law_rest"] Ĳn (zX SJ):=by ac_rfl
variable(Kp:Ct P w K mg Ë)
def eE:=HD ώh Ĳn 2 Jv
def y8l(a:zP K ώh SJ):eE P w K mg Ë:=(Üb).oS P w Ë 1 Jv Qa yE λb=>(zV (yQ (i:=3) Ÿe rfl à (χ (x5r Kp b rfl) Īm)) (zV (yQ (i:=0) Ÿe rfl à Řc) (zV (yQ (i:=4) Ÿe rfl à (zY xT xR Ă ņ)) (zV (yQ (i:=5) Ÿe rfl à (zY xT xR Řc ņ)) (zV (yQ (i:=6) Ÿe rfl à Řc) (zV Ŷj (zV Ŷj (Θ (Χe (wz (zB zr ďo) ϴd)) (Ζ (wz (zB Ž (zB Ϧ (zB řa (Β (χ (οc (zB Ĉp (zB Ĉp zL))) (Λ Řc)))))) ϴd)) (yV Ϥh (Ζ (Βa (zB Ž Ák))) yl) (zV (Τ (Χe (wz ōk Ýc)) (Ζ (wz (zB Ž (zB (χ (ξc ďo) (Λ řa)) Ák)) õd))) (Ζa Ϥh (Ε (wz ϙb ŝc)) (wz (zB Ž όn) õd)))))))))))
abbrev SK:Ú:=top 138
def x5a:zk [Ŭc] [Ŭc] (zX SK):=by ac_rfl
variable(Kg:Cp P w K mg Ë)
def eF:=HD Ài [Ŭc] 2 Jw
def y8m(a:zP K Ài SK):eF P w K mg Ë:=(Ň).oS P w Ë 1 Jw x5a yE λd=>(Ζ (AJ zr (Βb (vZ rfl (wj (own:=[ïe]) rfl) Ĕc (Δa (xj [Ŭc] [ïe])) Ϙb (Η (zY xV xU (zj Kg d rfl Ďa) zr))))))
abbrev Ry:Ú:=top 38
def x57:zk [ña] [ña] (zX Ry):=by ac_rfl
variable(KQ:du P w K mg Ë)
def d_:=HD Ŕi [ña] 3 Jo
def y88(a:zP K Ŕi Ry):d_ P w K mg Ë:=(Ň).oS P w Ë 2 Jo x57 yE λb=>(Ζa (tQ (jf ýk (jg (zy šb tJ şc ťb ľ)))) Ŷc (L9 (zj KQ b rfl ćp) (UD (υc (zB Èb ťl)))))
abbrev Rn:Ú:=top 43
def x4y:zk [ńa] [ńa] (zX Rn):=by ac_rfl
variable(OA:dE P w K mg Ë)
def dq:=HD ìi [ńa] 3 VG
def y7w(a:zP K ìi Rn):dq P w K mg Ë:=(Ň).oS P w Ë 2 VG x4y yE λd=>(Ι (vZ rfl ðh ŵh (Δa (xj [ńa] [Ýa])) Ϙb (Η (zj OA d rfl ñc))))
abbrev Rf:Ú:=top 52
def z08:zk [ōa,åa,ύa] Œ (zX Rf):=by ac_rfl
variable(Vn:eI P w K mg Ë)(Kz:eW P w K mg Ë)
def dZ:HT:=λP w K mg Ë=>vg P w K mg Ë Ėc Œ 3 (xt K gu)
def y7o(a:zP K Ėc Rf):dZ P w K mg Ë:=(ŉ).oM P w Ë 2 gu z08 uT λb=>(wJ (pA (i:=2) z08.nd rfl à Í (kM (zj Kz b rfl (Ηf (zB ļc (Β (zg ť zf (vJ Ă qd) zr))))))) (wJ (ζb (vO ød)) (wJ (Νc (uY ød jY)) (v6 (Θa (zy šb tJ (zG ģa) Ğb ľ) (WG ϵj ģa (vO ød)))))))
abbrev RU:Ú:=top 55
def z07:zk [ōa,åa,ş] Œ (zX RU):=by ac_rfl
variable(Kb:Ck P w K mg Ë)
def dN:HT:=λP w K mg Ë=>vg P w K mg Ë Īd Œ 3 (xt K Xa)
def y7e(a:zP K Īd RU):dN P w K mg Ë:=(ŉ).oM P w Ë 2 Xa z07 uT λb=>(wJ (pA (i:=2) z07.nd rfl à Í (kM (zj Kb b rfl (Ηf (Β (zg ť zf (vJ Ă wX) ģa)))))) (wJ (Νc (uY ņ jY)) (Ιa (vO ņ))))
abbrev RZ:Ú:=top 57
def A9:zk [ōa,åa,ş,ύa] Œ (zX RZ):=by ac_rfl
variable(Ks:eJ P w K mg Ë)(Kt:eK P w K mg Ë)
def dU:HT:=λP w K mg Ë=>vg P w K mg Ë Ċe Œ 3 (xt K Xb)
def y7j(a:zP K Ċe RZ):dU P w K mg Ë:=(ŉ).oM P w Ë 2 Xb A9 uT λb=>(wJ (pA (i:=2) A9.nd rfl à Í (kM ļc)) (wJ (pA (i:=3) A9.nd rfl à Í (vO (tM Ċh (zj Ks b rfl ύn) (zj Kt b rfl ύn)))) (wJ (Θa (zy QR QP (zG ϔb) èb ľ) (ζb (vO ϔb))) (wJ (Νc (uY ϔb jY)) (Ιa (vO ϔb))))))
abbrev RG:Ú:=top 58
def x4f:zk Œ Œ (zX RG):=by ac_rfl
def dD:=HD Ϻh Œ 3 XY
def y74(a:zP K Ϻh RG):dD P w K mg Ë:=(ŉ).oS P w Ë 2 XY x4f yE λb=>(Ζ (zj OA b rfl (zB ļc Ħf)))
abbrev Rl:Ú:=top 75
def QY:zk [åa,Ϗa,ş,Źa,ßa,Ýa] Öp (zX Rl):=by ac_rfl
variable(NQ:EO K V8)(W7:f9 P w K mg Ë)(OH:Cc P w K mg Ë)(OL:Cz P w K mg Ë)
def di:=HD ϵh Öp 3 uj
def y7u(a:zP K ϵh Rl):di P w K mg Ë:=(ŉ).oS P w Ë 2 uj QY yE λb=>(zV (δd (zB zH (zB Ϸd Ďa))) (zV (j3 Łb rfl (LD rfl kq (ya (qk OH b rfl ćp)) (x5z Ă Ĳj Zr)) (γb (ye (i:=3) QY.nd rfl à) (Νa (ye (i:=4) QY.nd rfl à))) (zV (yQ (i:=5) QY.nd rfl à (tM Ϥh (x5t gB gL NQ rfl Ϧ) Ϧ)) (zT (δd (Εb (zB (zj OL b rfl (zB Èb ϙb)) Ũf)))))) ęe))
abbrev RS:Ú:=top 76
def x4l:zk [ş] [ş] (zX RS):=by ac_rfl
variable(Vo:eO P w K mg Ë)
def dL:=HD Śi [ş] 3 ZH
def y7c(a:zP K Śi RS):dL P w K mg Ë:=(Ň).oS P w Ë 2 ZH x4l yE λb=>(Ε (νc (δ Ϸd)))
abbrev Ro:Ú:=top 81
def z0a:zk [ş,Āa,Źa,Ýa] ın (zX Ro):=by ac_rfl
def dt:=HD ři ın 3 qq
def y7x(a:zP K ři Ro):dt P w K mg Ë:=(Üb).oS P w Ë 2 qq z0a yE λb=>(zV (yQ (i:=3) z0a.nd rfl à (νc (δ (zj OL b rfl (zB Ġ Ġf))))) (zV (Τ (zy šb tJ Ža Ğb ľ) Ċp) (Ζ (tM (zy Yt uq Ũb (zG (Φ (zG Ñe))) ľ) (zg ť zf Ñe Ž) xr))))
abbrev Rr:Ú:=top 83
def AA:zk [ña,Āa,"fields"] [ña] (zX Rr):=by ac_rfl
variable(KO:dk P w K mg Ë)
def dw:=HD Ři [ña] 3 Xd
def y81(a:zP K Ři Rr):dw P w K mg Ë:=(Ň).oS P w Ë 2 Xd AA yE λb=>(zV (yV (tQ (jf ýk (jg Źk))) Ŷc yl) (zV (yQ (i:=1) AA.nd rfl ĭa Èb) (Θ (tQ (jf (ω (WS .str rfl rfl pM Wn Mz İa)) æl)) Ŷc (yQ (i:=2) AA.nd rfl à ïm) (Ζa ák Ŷc (Γc (ya (vZ rfl (wj (own:=[Źa,ßa]) rfl) (LD rfl kq ņ ϻl) (χa (υ (Κc ēk ēk))) ĥm (υ (zj KO b rfl (Αa (zB Ž ϐi)))))))))))
abbrev Ss:Ú:=top 90
def z0i:zk [Ŷ,ϴi] [Ŷ] (zX Ss):=by ac_rfl
variable(Ke:e8 P w K mg Ë)(Ye:eV P w K mg Ë)
def e_:=HD ϲh [Ŷ] 3 jt
def y9g(a:zP K ϲh Ss):e_ P w K mg Ë:=(Ň).oS P w Ë 2 jt z0i yE λb=>(zV (yQ (i:=1) z0i.nd rfl ĭa (zj Ke b rfl űa)) (zT (qJ (vZ rfl (wj (own:=[åa]) rfl) (uB Ġh) (χb (Θb (xj ["items",ϴi] [åa]))) ňc (Ν (tM (v8 (zj OJ b rfl ýc)) (zg ť zf Ġ (zg ť zf ņ ĵf)) xr))))))
abbrev Sj:Ú:=top 107
def AH:zk [Ŏ,Āa,"fields"] [Ŏ] (zX Sj):=by ac_rfl
variable(KN:dh P w K mg Ë)
def eU:=HD ĕi [Ŏ] 3 TF
def y98(a:zP K ĕi Sj):eU P w K mg Ë:=(Ň).oS P w Ë 2 TF AH yE λb=>(zV (yQ (i:=1) AH.nd rfl à Èb) (Θ (tQ (jf Ûe æl)) Ŗb (yQ (i:=2) AH.nd rfl à ïm) (Ζa ák Ŗb (Ψe (wS Ďo ŝc) (vZ rfl (wj (own:=[Źa,łj]) rfl) (LD rfl kq Ũd ϻl) (χa (υ (Κc õk õk))) ĥm (υ (zj KN b rfl (zB ϵc ŗf))))))))
abbrev RL:Ú:=top 112
def QX:zk [Ŷ,űe,ϩo,Ýa,ύa,ńa] Ġd (zX RL):=by ac_rfl
def dF:=HD ïi Ġd 3 VD
def y76(a:zP K ïi RL):dF P w K mg Ë:=(ŉ).oS P w Ë 2 VD QX yE λc=>(zV (yQ (i:=2) źe rfl à (ya (Μc (vZ rfl ϳk Øj (vX (οa (ye (i:=6) (show(xj [Ŷ,űe,ϩo,ϵi,ύa,ńa] [ϵi]).Nodup by rw[ţp]) rfl à)) rfl) ğh (οa (Βa (zB Ìc ħd))))))) (zV (j4 (i:=4) źe rfl à Łc) (zV (yQ (i:=5) źe rfl à zH) (zV (Λe (Φ (zG (zj Ye c rfl űa))) (ye (i:=3) źe rfl à) Ϸm (zT (z1h (i:=5) mx oJ źe rfl à (tM (zy (pE (zS c)) pB Ũb Ža Ĥa) zH zH)))) (zV Ϸm (zT (kU 4)))))))
abbrev S9:Ú:=top 136
def UB:zk ţg Ľl (zX S9):=by ac_rfl
variable(p6:e9 P w K mg Ë)(Ki:Cq P w K mg Ë)(Kl:eE P w K mg Ë)
def eB:=HD ďh Ľl 3 Jt
def y8j(a:zP K ďh S9):eB P w K mg Ë:=(Üb).oS P w Ë 2 Jt UB yE λb=>(zV (yQ (i:=3) Ŵd rfl à (zY xT xR ħm (zY xV xU ņ zH))) (zV (yQ (i:=4) Ŵd rfl ĭa (zj Ki b rfl (zB Ôh (Β (zY xV xU ϵc zH))))) (zV (yQ (i:=5) Ŵd rfl ĭa (zg ť zf (οc đo) (Λ Ôh))) (zV (z1i (i:=6) rfl Ŵd rfl rfl Ńl rfl ϸm (ε (Ρd (xj ţg [ċd]))) ňc (Ν (zj Kl b rfl (zB (ιd ťe) όn)))) (zV (j4 (i:=8) Ŵd rfl à Łc) (ξ (Zq rfl ue ġh) (Ωa (ye (i:=7) Ŵd rfl ĭa)) (zV (Τ (Ψa (zy šb tJ (Βb (vZ rfl (wj (own:=[ĝi]) rfl) (uB Ìc) (ε (Ρd (xj ţg [ĝi]))) (Ν (Zu (γ (zG (χ ťe ĵf)) (zG Ϧl)))) (Ν ťe))) İf ľ) (jg (zy Żd xQ (zG (Λ (zY vq vp Ôh zH))) (zG ġc) ľ))) (Δb (qv 8) (Βa (zB zr (Β Ϧl))))) (zT (Τ (zy Yt uq (zG ġc) Ũb ľ) (Δb (qv 8) (χ Ìc ġc))))) (kU 8)))))))
abbrev SH:Ú:=top 141
def De:zk Źg ϣf (zX SH):=by ac_rfl
def eD:=HD Īh ϣf 3 Ju
def y8k(a:zP K Īh SH):eD P w K mg Ë:=(ŉ).oS P w Ë 2 Ju De yE λb=>(zV (j4 (i:=2) De.nd rfl à Łc) (ξ ŵh (Ωa (ye (i:=3) De.nd rfl à)) (zV (yQ (i:=4) De.nd rfl à (zj p6 b rfl (δ (zY xV xU Ġ ϵc)))) (Δb ťj (χ (ya (wS (zB ϫf (zB ϫf (zB īm (Β ϑd)))) ϴd)) ϫf))) Ŭj))
abbrev S7:Ú:=top 142
def Dd:zk Źg ϣf (zX S7):=by ac_rfl
def eA:=HD Ϗh ϣf 3 Jr
def y8h(a:zP K Ϗh S7):eA P w K mg Ë:=(ŉ).oS P w Ë 2 Jr Dd yE λb=>(zV (j4 (i:=2) Dd.nd rfl ĭa UF) (zV (Λe (Λ ħm) (ye (i:=3) Dd.nd rfl à) (yQ (i:=4) Dd.nd rfl à (ιd ϵc)) (zT (UK ŗa ťj (χ (ξc (zB ϑd (zB ϑd (Β īm)))) ϫf) ϑd))) (LJ 2 (Ι (z11 (z0z rfl (wj (own:=řm) rfl) (x6d (i:=2) rfl Ūg) (χb (Κb (xj Źg řm))) ňc (Ν (Βa (zB řa (Β (zg ť zf Ũd řa)))))) (ip (z7j 2)))))))
abbrev SM:Ú:=top 143
def AC:zk [Àl,Çb,"_law_some",ċd] Ôp (zX SM):=by ac_rfl
variable(aD:uk P w K mg Ë ď ĩa į 1 ϡi)(aA:uk P w K mg Ë ď Ϫc į 1 ϣi)(aB:uk P w K mg Ë ď Ÿa į 2 Ϣi)(UN:uk P w K mg Ë ď őa į 1 ϟi)(Ay:uk P w K mg Ë ē ĩa į 1 ϡi)(Av:uk P w K mg Ë ē Ϫc į 1 ϣi)(Aw:uk P w K mg Ë ē Ÿa į 2 Ϣi)(UL:uk P w K mg Ë ē őa į 1 ϟi)
def Cs:=HD ði Ôp 3 gv
def y8o(a:zP K ði SM):Cs P w K mg Ë:=(ŉ).oS P w Ë 2 gv AC yE λb=>(zV (j4 (i:=2) AC.nd rfl à (wS (zB xr (zB xr (zB xr šo))) ϴd)) (ξ (uB (χ (ya (wS (zB (ξb (O_ (is:=Ži) rfl)) (zB (ξb (O_ (is:=źi) rfl)) (zB (ξb (O_ (is:=Żi) rfl)) (Β (ξb (O_ (is:=żi) rfl)))))) ϴd)) (zY xT xR Ġ zH))) (Ωa (ye (i:=3) AC.nd rfl à)) (zT (yV ϣh (Υb (uv aD b Ă) (uv Ay b Ă)) (zT (yV ϣh (Υb (uv aA b Ă) (uv Av b Ă)) (zT (yV ϣh (Υb (uv aB b Ă) (uv Aw b Ă)) (Υb (uv UN b Ă) (uv UL b Ă)))))))) Ŭj))
abbrev RP:Ú:=top 37
def A8:zk [Ÿa,ßa,"pair"] [Ÿa] (zX RP):=by ac_rfl
variable(KY:d_ P w K mg Ë)
def dH:=HD ϸh [Ÿa] 4 XZ
def y7a(a:zP K ϸh RP):dH P w K mg Ë:=(Ň).oS P w Ë 3 XZ A8 yE λb=>(zV (j4 (i:=1) A8.nd rfl à UF) (Θ Ěl (zT ŭe) (yV ăk Wa yl) (ξ Ĕc (Ωa (ye (i:=2) A8.nd rfl à)) (zV (Λa (ω (zj KY b rfl ýc))) (zV (Λa (zy đc pB (zG ød) (z01 1) Ĥa)) (zT (UK ŗa Ģc ød ød)))) ŭe)))
abbrev S_:Ú:=top 44
def x5m:zk İd İd (zX S_):=by ac_rfl
variable(N6:E7 P w K mg Ë)(OI:dq P w K mg Ë)(OC:CY P w K mg Ë)
def fA:=HD Ői İd 4 ID
def y9n(a:zP K Ői S_):fA P w K mg Ë:=(ŉ).oS P w Ë 3 ID x5m yE λb=>(Ε (zj N6 b rfl (Β (ya (vZ rfl (wj (own:=[Šd]) rfl) (ωb (qk OI b rfl Ďo)) (χb (ye (i:=2) (show(xj [ßa,Ϫo] [Šd]).Nodup by rw[ţp]) rfl à)) ňc (Ν (zj OC b rfl (zB Ă Ġf))))))))
abbrev Sg:Ú:=top 46
def AF:zk [ßa,ńa,ş,Šd,"byte"] Ùe (zX Sg):=by ac_rfl
variable(OM:eP P w K mg Ë)(KA:dI P w K mg Ë)
def eQ:HT:=λP w K mg Ë=>vg P w K mg Ë Ėi Ùe 4 (xt K IA)
def y95(a:zP K Ėi Sg):eQ P w K mg Ë:=(Üb).oM P w Ë 3 IA AF uT λb=>(v6 (nk Łb rfl (LD rfl kq (ya (qk OI b rfl Ďa)) (zj KA b rfl ýc)) (y40 (δa (ye (i:=3) AF.nd rfl à) (Νa (ye (i:=4) AF.nd rfl à))) rfl rfl Í Í) (Αb (Vx OM b rfl (gJ ϩ (uY Ž (uY Ϧ jY)))))))
abbrev RX:Ú:=top 59
def x4o:zk Œ Œ (zX RX):=by ac_rfl
variable(Yb:dD P w K mg Ë)
def dQ:HT:=λP w K mg Ë=>vg P w K mg Ë ϔf Œ 4 (xt K Je)
def y7h(a:zP K ϔf RX):dQ P w K mg Ë:=(ŉ).oM P w Ë 3 Je x4o uT λb=>(Ιa (kM (zj OC b rfl ϸj)))
abbrev Rc:Ú:=top 61
def x4s:zk Œ Œ (zX Rc):=by ac_rfl
def dX:HT:=λP w K mg Ë=>vg P w K mg Ë ūf Œ 4 (xt K Jh)
def y7m(a:zP K ūf Rc):dX P w K mg Ë:=(ŉ).oM P w Ë 3 Jh x4s uT λb=>(Αb (Vx OM b rfl Îk))
abbrev Si:Ú:=top 80
def L6:zk [ş,Ϗa,Āa,åa,"known"] [ş] (zX Si):=by ac_rfl
variable(OD:dL P w K mg Ë)(Kc:Cn P w K mg Ë)(KP:dt P w K mg Ë)(OK:Ci P w K mg Ë)(Yc:di P w K mg Ë)
def eT:=HD ϳi [ş] 4 jH
def y97(a:zP K ϳi Si):eT P w K mg Ë:=(Ň).oS P w Ë 3 jH L6 yE λb=>(zV (yQ (i:=1) Œg rfl à (zj OD b rfl űa)) (zV (yQ (i:=2) Œg rfl ĭa (zj Kc b rfl Ďa)) (Θ ęl Ŗb (yQ (i:=3) Œg rfl à (Ψe (wS Ġf ŝc) (vZ rfl Ņl (ωb (qk OH b rfl Ġf)) (ε (υ (Κb (xj [łj,Ϗa,"kind","row","known"] [Źa])))) ňc (υ (zj KP b rfl (Γa (zB Ũd (zB řa zL)))))))) (zV (Γd (zy đc pB èb Ũb Ĥa)) (zV (yQ (i:=4) Œg rfl à (tM (v8 (zj OK b rfl Ďa)) (zj W7 b rfl (Γa (zB Ϸd ϡd))) Ă)) (Ε (tM (zy Èm xQ (zG (zj Yc b rfl (zB Ž Ďa))) ĸe ϩa) Ž xr)))))))
abbrev Rz:Ú:=top 106
def AB:zk [Ŏ,Ϯa] [Ŏ] (zX Rz):=by ac_rfl
variable(Ky:eU P w K mg Ë)(KS:dw P w K mg Ë)
def e7:=HD êi [Ŏ] 4 VH
def y89(a:zP K êi Rz):e7 P w K mg Ë:=(Ň).oS P w Ë 3 VH AB yE λb=>(zV (yQ (i:=1) AB.nd rfl à (zj Ky b rfl űa)) (Ζa (tQ (We Źk (Ql (v8 (x5s Èb zr))))) (zT (yQ (i:=1) AB.nd rfl à (Βa (zB zr (Β (Y_ Èb Zr (Zs ĵf))))))) (tM (v8 (zj KS b rfl Ďa)) Ġ xr)))
abbrev RT:Ú:=top 118
def z06:zk [Ŷ,űe,"at"] Ġd (zX RT):=by ac_rfl
variable(XA:mg Ϡb=Æ)(OB:dF P w K mg Ë)(OP:e_ P w K mg Ë)
def dM:=HD şh Ġd 4 T1
def y7d(a:zP K şh RT):dM P w K mg Ë:=(ŉ).oS P w Ë 3 T1 z06 yE λb=>(zV (yQ (i:=2) z06.nd rfl ĭa (ya (qk OB b rfl ñc))) (Ι (vZ rfl (wj (own:=[Ýa,ϰi]) rfl) ſk (χa (Ν (Κc ĉk ĉk))) ňc (Ν (tM (zy WJ WI ĸe èb ľ) xr (zY Zj Zi ϧl (zg ť zf ņ Ž)))))))
abbrev A4:Ú:=top 121
def x5o:zk [åa] [åa] (zX A4):=by ac_rfl
def fC:=HD żh [åa] 4 TN
def y9q(a:zP K żh A4):fC P w K mg Ë:=(Ň).oS P w Ë 3 TN x5o yE λb=>(Ε (Χc (tt Q2 Ot rfl Èb)))
abbrev SY:Ú:=top 123
def z0e:zk [åa,ϕb,Ϣa] ēe (zX SY):=by ac_rfl
variable(OQ:E5 P w K mg Ë)
def eM:=HD éi ēe 4 T7
def y8x(a:zP K éi SY):eM P w K mg Ë:=(ŉ).oS P w Ë 3 T7 z0e yE λb=>(zV (yQ (i:=2) z0e.nd rfl à Ϸd) (Ε (zj W7 b rfl (zB (Χc (tt W3 Ov rfl Èb)) (Εb (Νe (zB (zg ť zf Ũd zH) zL)))))))
abbrev Ri:Ú:=top 124
def x4v:zk ēe ēe (zX Ri):=by ac_rfl
def dg:=HD íi ēe 4 VF
def y7r(a:zP K íi Ri):dg P w K mg Ë:=(ŉ).oS P w Ë 3 VF x4v yE λb=>(Ι (wS (zB (Χc (tt X_ Ou rfl Èb)) (Νe čo)) Ýc))
abbrev Sq:Ú:=top 129
def L7:zk [Ŷ,"rows",Éa,Ýa,ϰi] [Ŷ] (zX Sq):=by ac_rfl
def eh:=HD Ńh [Ŷ] 4 IB
def y9e(a:zP K Ńh Sq):eh P w K mg Ë:=(Ň).oS P w Ë 3 IB L7 yE λb=>(zV (yQ (i:=1) őg rfl à Ġh) (zV (j4 (i:=2) őg rfl à UF) (ξ ſk (γb (ye (i:=3) őg rfl à) (Νa (ye (i:=4) őg rfl à))) (zT (UK ŗa ťj Ž (wz (zB (zg ť zf Ġ Ž) (zB ġh ϐi)) õd))) Ŭj)))
abbrev RY:Ú:=top 60
def x4p:zk Œ Œ (zX RY):=by ac_rfl
variable(N4:fA P w K mg Ë)
def dS:HT:=λP w K mg Ë=>vg P w K mg Ë Ŭf Œ 5 (xt K Jf)
def y7i(a:zP K Ŭf RY):dS P w K mg Ë:=(ŉ).oM P w Ë 4 Jf x4p uT λb=>(Ιa (kM (zj N4 b rfl ϸj)))
abbrev Re:Ú:=top 62
def x4t:zk Œ Œ (zX Re):=by ac_rfl
variable(Kw:eQ P w K mg Ë)
def dY:HT:=λP w K mg Ë=>vg P w K mg Ë ōf Œ 5 (xt K Ji)
def y7n(a:zP K ōf Re):dY P w K mg Ë:=(ŉ).oM P w Ë 4 Ji x4t uT λb=>(Αb (Vx Kw b rfl Îk))
abbrev R3:Ú:=gD Ϻb 0
def x46:zk ϋd ϋd (zX R3):=by ac_rfl
variable(A_:uk P w K mg Ë ď ķd į 3 Ϛi)(Au:uk P w K mg Ë ē ķd į 3 Ϛi)(N8:fD P w K mg Ë)(K9:dH P w K mg Ë)
def y6r{f:Ì}{b:Ō}(d:vW K Ϡa Ëm R3 f b):xi P w K mg Ë xY 5 f b ϋd ęp:=d.oM P w mg Ë 4 VC x46 uT λa=>(wJ (kO ϩ VX (vO Ġ)) (wJ (kO ϩ IV (vO ņ)) (wJ (kO ϩ IX (Χa (qk N8 a rfl ϙb))) (wJ (kO ϩ IW (Χa (qk K9 a rfl ϐi))) (Αb (y3w (D3 A_ a ϩ) (D3 Au a ϩ)))))))
abbrev Su:Ú:=top 92
def Dg:zk [Ŏ,ńa,åa,Ϗa,Ϣa] Üp (zX Su):=by ac_rfl
variable(Kx:eT P w K mg Ë)(KR:Cd P w K mg Ë)(KL:de P w K mg Ë)
def f6:=HD ői Üp 5 ju
def y9h(a:zP K ői Su):f6 P w K mg Ë:=(ŉ).oS P w Ë 4 ju Dg yE λb=>(Θ (Ψa (zy Yt uq İa ťb ľ) (jg (zy Oj uq İa şc ľ))) Ŗb (yQ (i:=2) Dg.nd rfl à (zj Kx b rfl Ϗi)) (zV (yV ęl Ŗb yl) (zV (yQ (i:=3) Dg.nd rfl à (zj OD b rfl Ϗi)) (zV (Τ (v8 (zj KR b rfl ϙb)) (Ε (zj KL b rfl (Γa (zB Ġ ýc))))) (zV (Τ (v8 (zj OK b rfl ϙb)) (zV (yQ (i:=4) Dg.nd rfl à Ϸd) (Ε (Φe (zB (νc (zB ϧe ŗf)) (zB çm zL)))))) (Ε (Χd šo)))))))
abbrev Sv:Ú:=top 104
def L8:zk ["text",ύa,Ýa,åa,Ŏ] ϣc (zX Sv):=by ac_rfl
variable(N9:E8 P w K mg Ë)(KZ:e7 P w K mg Ë)
def f7:=HD çi ϣc 5 IC
def y9i(a:zP K çi Sv):f7 P w K mg Ë:=(Ň).oS P w Ë 4 IC L8 yE λb=>(zV (j4 (i:=1) Őg rfl à Łc) (ξ (Di rfl XA (ya (z12 Ă zr))) (γb (ye (i:=2) Őg rfl à) (Νa (ye (i:=3) Őg rfl à))) (zV (yQ (i:=4) Őg rfl à (zj N9 b rfl ąp)) (zT (Τ (zy šb tJ ĸe İf ľ) (zT (Zt Ģc (Βa (Εb (Β (zj KZ b rfl ŗf))))))))) ŭe))
abbrev SZ:Ú:=top 117
def Df:zk ũg Ġd (zX SZ):=by ac_rfl
variable(OE:dM P w K mg Ë)(KW:Ch P w K mg Ë)
def eN:=HD śh Ġd 5 Xh
def y8y(a:zP K śh SZ):eN P w K mg Ë:=(ŉ).oS P w Ë 4 Xh Df yE λd=>(zV (yQ (i:=2) Df.nd rfl ĭa (zj OE d rfl ñc)) (zV (yQ (i:=3) Df.nd rfl ĭa (ya (Μc (vZ rfl ϳk Øj (vX (Η (Κb (xj ũg [ϵi]))) rfl) Ϙb (θb (Βa (zB řa ħd))))))) (zV (z1i (i:=4) rfl Df.nd rfl rfl ðh rfl (Zq rfl ue (Φ Ža)) ők (θb (Zu (zy (PN (zS d)) PL Ög Ũb Ĥa))) ĉp) (Ι (vZ rfl ðh (uB Ϧ) ők (ψb (ω (zj KW d rfl (Β (zg Ąf zf Ũd řa))))) ĉp)))))
abbrev Ra:Ú:=top 64
def x4q:zk Œ Œ (zX Ra):=by ac_rfl
variable(BO:wH mg "DEEDS" ŉp)(B8:Xj K w mg Up qy iz)(KG:Ca P w K mg Ë)(KC:dP P w K mg Ë)(KB:CZ P w K mg Ë)(Vm:dZ P w K mg Ë)(OF:dN P w K mg Ë)(BZ:dU P w K mg Ë)(KD:dQ P w K mg Ë)(KE:dS P w K mg Ë)(KH:dX P w K mg Ë)(KJ:dY P w K mg Ë)
def dW:HT:=λP w K mg Ë=>vg P w K mg Ë Ϲi Œ 6 (xt K jF)
def y7k(a:zP K Ϲi Ra):dW P w K mg Ë:=(ŉ).oM P w Ë 5 jF x4q uT λb=>(v6 (Θa (x78 BO B8 rfl ģa) (kN (y3v BO B8 rfl (ğa KG Í (ğa KC Í (ğa KB Í (ğa Vm Í (ğa Vm Í (ğa Vm Í (ğa Vm Í (ğa Vm Í (ğa OF Í (ğa OF Í (ğa OF Í (ğa BZ Í (ğa BZ Í (ğa KD Í (ğa KE Í (ğa KH Í (ğa KJ Í u3.nil))))))))))))))))) b ģa (gJ ϩ (uY Ġ jY))))))
abbrev Sx:Ú:=top 96
def Qb:zk [Ŏ,Éa,ńa,ύa] [Ŏ] (zX Sx):=by ac_rfl
variable(Bc:f6 P w K mg Ë)
def f8:=HD ϯi [Ŏ] 6 TM
def y9k(a:zP K ϯi Sx):f8 P w K mg Ë:=(Ň).oS P w Ë 5 TM Qb yE λb=>(zV (j4 (i:=1) Qb.nd rfl à UF) (zV (yQ (i:=2) Qb.nd rfl à zH) (zV Êk (zV (z1j Łb ěl (zV (UK ŗa Ģc ņ Ž) (zV (yQ (i:=2) Qb.nd rfl à ϔb) (zT Êk)))) (zT ŭe)))))
abbrev Sh:Ú:=top 103
def AG:zk įk ϣc (zX Sh):=by ac_rfl
variable(N3:f7 P w K mg Ë)(Kr:eG P w K mg Ë)
def eS:=HD ķj ϣc 6 TC
def y96(a:zP K ķj Sh):eS P w K mg Ë:=(Ň).oS P w Ë 5 TC AG yE λc=>(zV (yQ (i:=1) AG.nd rfl à (zj N3 c rfl űa)) (zV (yQ (i:=2) AG.nd rfl à (zj Kr c rfl Ďa)) (zV (Λa (zy QR QP Ža èb ľ)) (Ι (vZ rfl (wj (own:=[Ýa,Ϯa]) rfl) Øj (χa (οa (δa (Βc ìm) (Ζd ìm)))) ğh (λC s H d b=>Ϧ))))))
abbrev Rh:Ú:=top 116
def L0:zk [Ŷ,űe,"lacking"] [Ŷ] (zX Rh):=by ac_rfl
variable(Ba:eN P w K mg Ë)
def df:=HD ěi [Ŷ] 6 VE
def y7q(a:zP K ěi Rh):df P w K mg Ë:=(Ň).oS P w Ë 5 VE L0 yE λb=>(zV (yQ (i:=1) L0.nd rfl à (ya Łc)) (zV ôk (zV (z1j Łb (zy šb tJ Ža İf ľ) (zV (yQ (i:=1) L0.nd rfl à (ya (x69 rfl Ld (ηd Ũd)))) (zT ôk))) Ńn)))
abbrev RC:Ú:=gD (top 128) 0
def z03:zk [Ĉc,Ŷ,ĩa,Ÿa,Éa] öf (zX RC):=by ac_rfl
variable(LS:MM P w K mg Ë Ϭo Ϡa ϋd 5 ęp)(N1:eh P w K mg Ë)
def y70{f:Ì}{b:Ō}(d:vW K Ϡa Īl RC f b):xi P w K mg Ë xY 6 f b öf Ĝp:=d.oM P w mg Ë 5 Uv z03 uT λa=>(wJ (pA (i:=4) z03.nd rfl à Í (Χa (qk N1 a rfl Ďa))) (ιe (vI z6b y8s rfl xW vz (wn ĸe wp))))
abbrev RA:Ú:=gD Ϻb 3
def z02:zk [Ĉc,ύa] į (zX RA):=by ac_rfl
variable(KF:dW P w K mg Ë)(Kq:Cu P w K mg Ë)
def y6y{f:Ì}{b:Ō}(d:vW K ģc Ìn RA f b):xi P w K mg Ë xY 7 f b į ϙi:=d.oM P w mg Ë 6 qp z02 uT λa=>(wJ (Θa (v8 (LB (uv UN a Ă) (uv UL a Ă))) êe) (wJ (pA (i:=1) z02.nd rfl à Í (kM ók)) (wJ (kN (Vx KF a rfl (gJ (qI ϩ g7) (uY ϲe jY)))) (wJ (kO ϩ k8 (kM (tM (v8 (zj Kq a rfl (zB Ŝf (Β ϲe)))) ϲe ϲe))) (wJ (y45 ϩ VW zH) (v6 êe))))))
abbrev A0:Ú:=top 94
def Qc:zk [Ŏ,Éa,ñb,ńa,ύa,ϰi] [Ŏ] (zX A0):=by ac_rfl
variable(OR:f8 P w K mg Ë)(K8:CW P w K mg Ë)
def fB:=HD ϱh [Ŏ] 7 IE
def y9o(a:zP K ϱh A0):fB P w K mg Ë:=(Ň).oS P w Ë 6 IE Qc yE λb=>(zV (yQ (i:=1) ŷe rfl à Ĩm) (zV (yQ (i:=2) ŷe rfl à (zj K8 b rfl Ďa)) (Θ (zy šb tJ Ža şc ľ) ęe (x77 (x75 Łb rfl (x6c (i:=1) rfl Ūg) (UG (ja (n:=2) rfl (vt (ye (i:=3) ŷe rfl à) (Νa (ye (i:=4) ŷe rfl à)))) rfl rfl) (zV (yQ (i:=5) ŷe rfl à çm) (zT (Τ (tQ (We (zy QR QP Ög èb ľ) (We (zy šb tJ Ög Ža ľ) (Ql (zy (PN ŗa) PL Ög İa Ĥa))))) Ċp)))) (z7h (z7i 1))) Ŗb)))
abbrev A7:Ú:=top 122
def Qd:zk [Ŷ,űe,"distances",Ŏ,Ýa,åa] [Ŷ] (zX A7):=by ac_rfl
variable(OG:df P w K mg Ë)(N7:fC P w K mg Ë)(KM:dg P w K mg Ë)(Ku:eM P w K mg Ë)
def fE:=HD Ŏi [Ŷ] 7 TR
def y9t(a:zP K Ŏi A7):fE P w K mg Ë:=(Ň).oS P w Ë 6 TR Qd yE λb=>(zV (yQ (i:=1) Ŷe rfl à (zj OG b rfl űa)) (zV (yQ (i:=2) Ŷe rfl à (zj OE b rfl ñc)) (zV (j4 (i:=3) Ŷe rfl à Łc) (ξ (Di rfl XA Ġh) (γb (ye (i:=4) Ŷe rfl à) (Νa (ye (i:=5) Ŷe rfl à))) (zT (yV (zy WJ WI (zG ϧl) èb ľ) (Δb Ťj (zj N7 b rfl Ũf)) (zT (yV (zy đc pB ĸe İa Ĥa) (zT (Ag Ťj (qk KM b rfl ĩk))) (Δb Ťj (zj Ku b rfl ĩk)))))) (kU 3)))))
abbrev So:Ú:=top 95
def z0g:zk [Ŏ,"wrong"] [Ŏ] (zX So):=by ac_rfl
variable(N5:fB P w K mg Ë)
def eZ:=HD Ĕi [Ŏ] 8 VL
def y9d(a:zP K Ĕi So):eZ P w K mg Ë:=(Ň).oS P w Ë 7 VL z0g yE λb=>(zV (yQ (i:=1) z0g.nd rfl à (zj N5 b rfl űa)) (zV (Λa (zy QR QP İa èb ľ)) (Ε Ĩm)))
abbrev RM:Ú:=top 126
def x4h:zk ϣc ϣc (zX RM):=by ac_rfl
variable(NA:fE P w K mg Ë)(ON:eS P w K mg Ë)
def dG:=HD îi ϣc 8 Ja
def y77(a:zP K îi RM):dG P w K mg Ë:=(Ň).oS P w Ë 7 Ja x4h yE λb=>(Ι (qk NA b rfl (Β (zj ON b rfl űa))))
abbrev RE:Ú:=gD (top 99) 0
def z04:zk [Ĉc,Ŏ,ĩa,Ÿa,Éa] øf (zX RE):=by ac_rfl
variable(K_:eZ P w K mg Ë)
def y72{f:Ì}{b:Ō}(d:vW K Ϡa ĉl RE f b):xi P w K mg Ë xY 9 f b øf Ěp:=d.oM P w mg Ë 8 Ux z04 uT λa=>(wJ (pA (i:=4) z04.nd rfl à Í (vO (zj K_ a rfl Ďa))) (ιe (Φ İa)))
abbrev UA:Ú:=top 144
def Zp:zk [Ūa,"_law_text","_law_registers_here","_law_memory_here",Ŭc,"_law_stands","_law_rows",Ćm,"_law_turn",Çb] [Ūa] (zX UA):=by ac_rfl
variable(NR:IH P w K mg Ë ď öf 6 Ĝp)(NU:IH P w K mg Ë ē øf 9 Ěp)(aE:uk P w K mg Ë ď ģc į 7 ϙi)(Az:uk P w K mg Ë ē ģc į 7 ϙi)(LR:uk P w K mg Ë ď çb į 1 Ϡi)(aC:uk P w K mg Ë ď Ϣa į 1 Ϥi)(LQ:uk P w K mg Ë ē çb į 1 Ϡi)(Ax:uk P w K mg Ë ē Ϣa į 1 Ϥi)(Km:eF P w K mg Ë)(Ko:Cr P w K mg Ë)(Kj:eB P w K mg Ë)(Kk:eD P w K mg Ë)(Kh:eA P w K mg Ë)(K7:dG P w K mg Ë)(Q5:Cs P w K mg Ë)
def y8d{f:Ì}{c:Ō}(d:Fun K õb õb UA f c):xi P w K mg Ë xY 11 f c [Ūa] Ŵj:=y35 d Zp Í uT x3x λe A b s H E a=>(wJ (pA (i:=1) Öc rfl à Í (vO (zj Km a rfl (Β (zj Ko a rfl (zB (ya (qk Kj a rfl (Γa đo))) (zB (zj p6 a rfl Ôi) zL))))))) (wJ (pA (i:=2) Öc rfl à Í (Χa (qk Kk a rfl Ôi))) (wJ (pA (i:=3) Öc rfl à Í (Χa (qk Kh a rfl Ôi))) (wJ (pA (i:=4) Öc rfl à Í (vO (zj ON a rfl Ďa))) (wJ (pA (i:=5) Öc rfl à Í (Χa (qk OB a rfl (zB Ϧ (Β (zj OG a rfl ŗf)))))) (wJ (pA (i:=6) Öc rfl à Í (Nw NR a rfl (uY Ϧ ϫg))) (wJ (pA (i:=7) Öc rfl à Í (Nw NU a rfl (uY (ya (qk K7 a rfl Ďa)) ϫg))) (wJ (nk Łb rfl ŵh (y41 (ye (i:=8) Öc rfl à) rfl Í) (wJ (pA (i:=9) Öc rfl à Í (vO (zj p6 a rfl (δ (zY xV xU zH (z7 8)))))) (wJ (Θa (Ψa (εa ĳg (zg Ćo zf řa (uv aC a Ìc)) (uv Ax a ġc)) (jg (εa ĳg (uv LR a Ìc) (uv LQ a ġc)))) êe) (wJ (Θa (εa ĳg ġk (Βe (zY vq vp ťe zH))) êe) (wJ (WE (y47 (tK ĳg) tJ (D3 aE a (xw 6)) (D3 Az a (xw 7)) ľ) (v6 êe) WF) (v6 (Θa (tQ (We (v8 (uv UN a Ìc)) (ψc (uv UL a ġc) (zy řh xQ (zG (Λ (z7 8))) (zG zH) ľ)))) (Vy (kM (L9 (uA řh xQ (zG ġk) (zG (Βe ťe)) ľ) (UD Ϩj))))))))))) (v6 (Vy (kM Ϩj)))))))))))
#print a
#print a
def all_mk{l:ŭi}{w:è}{K:Ñ}{h:Heap}{a:Ç->Ê Value}(X:ţ h)(G:Ģa Ģ a)(hfa:a õb=À (.ref fa))(a0:zP K ëi Rx)(a1:zP K új RF)(a2:zP K øj Sr)(a3:zP K ĸj Sd)(a4:zP K æi Sz)(a5:zP K ϲi Sm)(a6:zP K ēi Sw)(a7:zP K ŏi A3)(a8:zP K Ęi Sc)(a9:zP K śi RO)(a10:TY K ŏ ŀm RD Øe)(a11:jI K Ãg Rb B)(a12:jI K ϖf RV z)(a13:zP K Ϸi R_)(a14:zP K ùj SQ)(a15:gz K ď ē őa łm R9 į)(a16:gz K ď ē ĩa ϊl R8 į)(a17:gz K ď ē Ϫc Ŷm R5 į)(a18:gz K ď ē Ϣa ŵm R7 į)(a19:gz K ď ē çb Ŵm RB į)(a20:zP K ńh Se)(a21:zP K ĩh Rk)(a22:zP K ŝh S0)(a23:zP K Şh Rw)(a24:zP K ϋh Rq)(a25:zP K Ŗi Ru)(a26:zP K Ěi Rt)(a27:zP K ŗi Rs)(a28:zP K Ϻi RN)(a29:zP K Ēi A6)(a30:zP K žh Sb)(a31:zP K ŕi Rv)(a32:zP K Šh S4)(a33:zP K ϻh SN)(a34:zP K Ái S8)(a35:zP K īh S5)(a36:zP K ύh SL)(a37:zP K ϳh SV)(a38:zP K ſh SX)(a39:zP K Ĝi RQ)(a40:zP K ϴh Rp)(a41:zP K Ϲh RH)(a42:zP K ėi Sf)(a43:jI K ϕf RW L)(a44:zP K ϱi Sn)(a45:zP K œi SU)(a46:zP K ϰh A5)(a47:gz K ď ē ķd ŷm R4 į)(a48:gz K ď ē Ÿa Ńm R6 į)(a49:zP K èi Sa)(a50:zP K Žh Sy)(a51:zP K Ĺj Rm)(a52:zP K Œi Sk)(a53:zP K Ŝh S3)(a54:zP K ϸi Rg)(a55:zP K Ϸh Rj)(a56:zP K ϊh SR)(a57:zP K ñi S6)(a58:zP K ώh SJ)(a59:zP K Ài SK)(a60:zP K Ŕi Ry)(a61:zP K ìi Rn)(g:jI K Ėc Rf b)(t:jI K Īd RU d)(A:jI K Ċe RZ k)(a65:zP K Ϻh RG)(a66:zP K ϵh Rl)(a67:zP K Śi RS)(a68:zP K ři Ro)(a69:zP K Ři Rr)(a70:zP K ϲh Ss)(a71:zP K ĕi Sj)(a72:zP K ïi RL)(a73:zP K ďh S9)(a74:zP K Īh SH)(a75:zP K Ϗh S7)(a76:zP K ði SM)(a77:zP K ϸh RP)(a78:zP K Ői S_)(a79:zP K Ėi Sg)(a80:jI K ϔf RX I)(a81:jI K ūf Rc J)(a82:zP K ϳi Si)(a83:zP K êi Rz)(a84:zP K şh RT)(a85:zP K żh A4)(a86:zP K éi SY)(a87:zP K íi Ri)(a88:zP K Ńh Sq)(Z:jI K Ŭf RY x)(a90:jI K ōf Re E)(a91:MJ K Ϭo Ϡa Ëm R3 ϋd)(a92:zP K ői Su)(a93:zP K çi Sv)(a94:zP K śh SZ)(a95:zP K Ϲi Ra)(a96:zP K ϯi Sx)(a97:zP K ķj Sh)(a98:zP K ěi Rh)(a99:TY K ď Īl RC öf)(a100:gz K ď ē ģc Ìn RA į)(a101:zP K ϱh A0)(a102:zP K Ŏi A7)(a103:zP K Ĕi So)(a104:zP K îi RM)(Y:TY K ē ĉl RE øf)(a106:ϝ K Ģ õb=À (À (.ref j)))(l106:Ϩ j=BN õb UA N P C o p m r f q)(c106:ůb K f õb=Ä)(k106:ïa K (.ref j)=Ä)(y6f:Gn K Šc)(y6e:Gn K ĸb)(y6b:Gn K ŗe)(y6m:Gn K "sum")(y6o:Gn K Ļa)(y6k:Gn K Ťb)(y6h:Gn K ĸ)(y6c:Gn K ϐ)(y6n:Gn K ŷ)(y6l:Gn K ķb)(y6g:Gn K "len")(y6a:Gn K "all")(y6i:Gn K ϴa)(y6j:Gn K Śa)(y6d:Gn K Ϡb)(VW:vf K ł Íc)(k8:vf K ł Éd)(IV:vf K ł ñb)(IW:vf K ł ïc)(IX:vf K ł ϗb)(T:vf K [ŏ] ßa)(g7:vf K ł ōa)(VX:vf K ł Éa)(U:vf K [ŏ] Òb)(i:vf K [ŏ] Ŏ)(y4w:Gs K "DEEDS" ŉp)(y5f:Dc K w Up [(ĺa,x95,.ref B),(ώa,w01,.ref L),(ìb,w0a,.ref z),(Ϸa,w0h,.ref b),(ïb,w0m,.ref b),(ôb,w0r,.ref b),(Ĳb,w0v,.ref b),(Ţa,w0z,.ref b),(öb,w13,.ref d),(üb,w16,.ref d),(òb,x9c,.ref d),(Şa,x9f,.ref k),(ϊa,x9i,.ref k),(όa,x9l,.ref I),(śa,x9o,.ref x),(ĵa,x9r,.ref J),(Őa,x9u,.ref E)])(y4s:Gs K "BEYOND" (.int 4294967296 x8l))(y4u:Gs K Äo ϻf)(oB:Tq K Æ Uo [.int 0 w35,.int 8 w38,.int 16 w3b,.int 24 w3e])(y53:Gs K "MARKS" Ϲf)(oE:Tq K Æ V8 [.str Ña w37,.str ÿa w3a,.str Óa w3d])(y59:Gs K ųm Ňp)(y5h:Dc K w Us [(ĺa,x99,.int 16 w29),(ώa,w05,.int 16 w2l),(Şa,w0e,.int 5 w2p),(ϊa,w0j,.int 5 w2r),(όa,w0o,.int 8 w2t),(ĵa,w0t,.int 8 w2v),(śa,w0x,.int 8 w2x),(Őa,w11,.int 8 w2z)])(y58:Gs K šn (.int 0 x8t))(y5a:Gs K "PLACES" ņp)(y5i:Dc K w Ut [(Āa,x9a,.ref cO),("d",w06,.ref ce),("s",w0f,.ref cj),(Ĉa,w0k,.ref cq),(ϕb,w0p,.ref cv)])(y5k:Tp K cO [.int 27 w3n,.int 5 w3o])(y5w:Tp K ce [.int 24 w4d,.int 3 w4f])(y60:Tp K cj [.int 21 w4j,.int 3 w4l])(y62:Tp K cq [.int 24 w4n,.int 2 w4p])(y64:Tp K cv [.int 0 w4r,.int 5 w4t])(y4y:Gs K "FIELDS" ňp)(y5g:Dc K w Uq [(ϫc,x97,.ref cN),(ĺa,w03,.ref cZ),(ώa,w0c,.ref ci),(ìb,w0i,.ref cm),(Ϸa,w0n,.ref cr),(ïb,w0s,.ref cx),(ôb,w0w,.ref cy),(Ĳb,w10,.ref cz),(öb,w14,.ref c_),(üb,w17,.ref d7),(òb,x9d,.ref cP),(Ţa,x9g,.ref cQ),(Şa,x9j,.ref cR),(ϊa,x9m,.ref cS),(όa,x9p,.ref cT),(ĵa,x9s,.ref cU),(śa,x9v,.ref cV),(Őa,x9x,.ref cW),(ϥ,x9y,.ref cX),(Ϗ,x9z,.ref cY),(ώ,w07,.ref cf),(Ëc,w08,.ref cg)])(y5j:Tp K cN [.str îb w3m])(y5v:Tp K cZ [.str "d" w4c,.str "n" w4e])(y5z:Tp K ci [.str "d" w4i,.str "n" w4k])(y61:Tp K cm [.str "d" w4m,.str "s" w4o])(y63:Tp K cr [.str "d" w4q,.str "s" w4s])(y65:Tp K cx [.str "d" w4u,.str "s" w4v])(y66:Tp K cy [.str "d" w4w,.str "s" w4x])(y67:Tp K cz [.str "d" w4y,.str "s" w4z])(y68:Tp K c_ [.str "d" w50,.str "s" w51])(y69:Tp K d7 [.str "d" w52,.str "s" w53])(y5l:Tp K cP [.str "d" w3p,.str "s" w3q])(y5m:Tp K cQ [.str "d" w3r,.str "s" w3s])(y5n:Tp K cR [.str "d" w3t,.str "n" w3u])(y5o:Tp K cS [.str "d" w3v,.str "n" w3w])(y5p:Tp K cT [.str "d" w3x,.str "s" w3y,.str "n" w3z])(y5q:Tp K cU [.str "d" w40,.str "s" w41,.str "n" w42])(y5r:Tp K cV [.str "d" w43,.str "s" w44,.str "n" w45])(y5s:Tp K cW [.str "d" w46,.str "s" w47,.str "n" w48])(y5t:Tp K cX [.str îb w49])(y5u:Tp K cY [.str Ĉa w4a,.str îb w4b])(y5x:Tp K cf [.str Ĉa w4g,.str îb w4h])(y5y:Tp K cg [])(y4v:Gs K "CODES" Ņp)(P9:Dc K w XS [(Ëc,x94,.int 0 w26),(ĺa,w00,.int 1 w2i),(ώa,w09,.int 2 w2m),(ìb,w0g,.int 3 w2q),(Ϸa,w0l,.int 4 w2s),(ïb,w0q,.int 5 w2u),(ôb,w0u,.int 6 w2w),(Ĳb,w0y,.int 7 w2y),(öb,w12,.int 8 w30),(üb,w15,.int 9 w31),(òb,x9b,.int 10 w2a),(Ţa,x9e,.int 11 w2b),(Şa,x9h,.int 12 w2c),(ϊa,x9k,.int 13 w2d),(όa,x9n,.int 14 w2e),(ĵa,x9q,.int 15 w2f),(śa,x9t,.int 16 w2g),(Őa,x9w,.int 17 w2h)])(y56:Gs K Ţn Ńp)(PD:Dc K w XU [(ϥ,x98,.int 18 w28),(Ϗ,w04,.int 19 w2k),(ώ,w0d,.int 20 w2o)])(y4x:Gs K Ão ńp)(PB:Dc K w XT [(ϥ,x96,.int 21 w27),(Ϗ,w02,.int 22 w2j),(ώ,w0b,.int 23 w2n)])(y54:Gs K Ën (.int 8 x8q))(y52:Gs K ϭo (.str ÿb x8p))(y51:Gs K "JUMPS" Ϻf)(oC:Tq K Æ Ur [.str ϥ w36,.str Ϗ w39,.str ώ w3c])(y50:Gs K Ín (.int 5 x8o))(y4z:Gs K Ϯo (.str ĸf x8n))(y57:Gs K ϫo (.int 15 x8s))(y55:Gs K Âo (.int 16 x8r))(y5c:Gs K Áo (.int 32 x8v))(y4r:Gs K În (.int 16 x8k))(y4t:Gs K Åo (.int 8 x8m))(y5b:Gs K Łm (.int 8 x8u)): ∃fd:Ō,(∀(s:Ï)(v:Value),Æc s fd {[v],[]} [(Ūa,v)])/\∀Ë:Heap,ţ Ë->Ŕd Ģ a->xi İ w K a Ë xY 11 fa fd [Ūa] Ŵj:=by
 let e:=hfa.symm.trans (ĝc X G a106);cases e;let S:=q_ X G y6f;let LZ:=q_ X G y6e;let ab:=q_ X G y6b;let ae:=q_ X G y6m;let kq:=q_ X G y6o;let Ld:=q_ X G y6k;let R:=q_ X G y6h;let Wm:=q_ X G y6c;let Q:=q_ X G y6n;let Wn:=q_ X G y6l;let c:=q_ X G y6g;let X9:=q_ X G y6a;let ac:=q_ X G y6i;let u:=q_ X G y6j;let XA:=q_ X G y6d;let BO:=ZY X G y4w;let B8:Xj K w a Up qy iz:=z7c (fs:=[B,L,z,b,b,b,b,b,d,d,d,k,k,I,x,J,E]) y5f rfl Ő rfl (.cons (a11.n X G) (.cons (a43.n X G) (.cons (a12.n X G) (.cons ĝe (.cons ĝe (.cons ĝe (.cons ĝe (.cons ĝe (.cons (t.n X G) (.cons (t.n X G) (.cons (t.n X G) (.cons Ľp (.cons Ľp (.cons (a80.n X G) (.cons (Z.n X G) (.cons (a81.n X G) (ηb (a90.n X G))))))))))))))))));let Q1:=ZX X G y4s;let QU:∀H,zh K H äd äd:=λ_=>rfl
 let O4:=ZY X G y4u;let w68:=Ap oB;let Os:∀H,zh K H Q4 ϻf:=F3 oB rfl;let gB:=ZY X G y53;let NQ:=Ap oE;let gL:∀H,zh K H jV Ϲf:=F3 oE rfl;let O5:=ZY X G y59;let Ow:tD K w Us O6 O9:=B9 y5h rfl Ő rfl;let Hy:=ZX X G y58;let Pm:∀H,zh K H ń ń:=λ_=>rfl
 let O:=ZY X G y5a;let y:tD K w Ut uO uP:=ik y5i rfl Ő rfl λH=>{_,_,rfl,vn y5k rfl H,{_,_,rfl,vn y5w rfl H,{_,_,rfl,vn y60 rfl H,{_,_,rfl,vn y62 rfl H,{_,_,rfl,vn y64 rfl H,rfl}}}}}
 let YY:=ZY X G y4y;let Yx:tD K w Uq qf Vl:=ik y5g rfl Ő rfl λH=>{_,_,rfl,vn y5j rfl H,{_,_,rfl,vn y5v rfl H,{_,_,rfl,vn y5z rfl H,{_,_,rfl,vn y61 rfl H,{_,_,rfl,vn y63 rfl H,{_,_,rfl,vn y65 rfl H,{_,_,rfl,vn y66 rfl H,{_,_,rfl,vn y67 rfl H,{_,_,rfl,vn y68 rfl H,{_,_,rfl,vn y69 rfl H,{_,_,rfl,vn y5l rfl H,{_,_,rfl,vn y5m rfl H,{_,_,rfl,vn y5n rfl H,{_,_,rfl,vn y5o rfl H,{_,_,rfl,vn y5p rfl H,{_,_,rfl,vn y5q rfl H,{_,_,rfl,vn y5r rfl H,{_,_,rfl,vn y5s rfl H,{_,_,rfl,vn y5t rfl H,{_,_,rfl,vn y5u rfl H,{_,_,rfl,vn y5x rfl H,{_,_,rfl,vn y5y rfl H,rfl}}}}}}}}}}}}}}}}}}}}}}
 let Q2:=ZY X G y4v;let HM:jJ K w XS kF BV:=HG (ds:=kG) P9 rfl Ő rfl;let x3g:∀H,å K H kG BV:=HH P9 rfl;let Ot:tD K w XS kF kG:=B9 P9 rfl Ő rfl;let W3:=ZY X G y56;let Iu:jJ K w XU Ya BX:=HG (ds:=Za) PD rfl Ő rfl;let Pu:∀H,å K H Za BX:=HH PD rfl;let Ov:tD K w XU Ya Za:=B9 PD rfl Ő rfl;let X_:=ZY X G y4x;let Ir:jJ K w XT YZ BW:=HG (ds:=ZZ) PB rfl Ő rfl;let Pt:∀H,å K H ZZ BW:=HH PB rfl;let Ou:tD K w XT YZ ZZ:=B9 PB rfl Ő rfl;let Hv:=ZX X G y54;let Pj:∀H,zh K H ϣ ϣ:=λ_=>rfl
 let Hu:=lz X G y52;let Pi:∀H,zh K H ϯb ϯb:=λ_=>{rfl,ϒa Í}
 let Ht:=ZY X G y51;let w69:=Ap oC;let Ph:∀H,zh K H BU Ϻf:=F3 oC rfl;let Hs:=ZX X G y50;let Pg:∀H,zh K H ϧa ϧa:=λ_=>rfl
 let Hr:=lz X G y4z;let Pf:∀H,zh K H Œc Œc:=λ_=>{rfl,ϒa Í}
 let Hx:=ZX X G y57;let Pl:∀H,zh K H ϙc ϙc:=λ_=>rfl
 let Hw:=ZX X G y55;let Pk:∀H,zh K H įa įa:=λ_=>rfl
 let gC:=ZX X G y5c;let gM:∀H,zh K H Ģe Ģe:=λ_=>rfl
 let O2:=ZX X G y4r;let Op:∀H,zh K H įa įa:=λ_=>rfl
 let O3:=ZX X G y4t;let Oq:∀H,zh K H ϣ ϣ:=λ_=>rfl
 let BP:=ZX X G y5b;let DQ:∀H,zh K H ϣ ϣ:=λ_=>rfl
 let F106:=lh (st:=UA) l106 c106 k106;show{Àd õb õb (jO UA) (v_ UA) (zX UA) .none o p m r f q,λs v=>.of_eq rfl,λbase _ _=>?_};let Yd:Cj İ w K a Ë:=y87 X G S LZ ab a0;let BY:CV İ w K a Ë:=y73 X G Q1 QU a1;let N2:E4 İ w K a Ë:=y9f X G Q1 QU a2;let F:Cy İ w K a Ë:=y92 X G a3;let OS:E6 İ w K a Ë:=y9m X G a4;let OO:C_ İ w K a Ë:=y9a X G a5;let OQ:E5 İ w K a Ë:=y9j X G a6;let N6:E7 İ w K a Ë:=y9p X G ae kq O4 Os a7;let Kv:Cw İ w K a Ë:=y91 X G Ld a8;let OC:CY İ w K a Ë:=y79 X G a9;let NT:=a10.hh X G İ w Ë (y71 R Wm gB gL i U T);let KG:Ca İ w K a Ë:=y7l X G i a11.2;let KB:CZ İ w K a Ë:=y7f X G i a12.2;let Kb:Ck İ w K a Ë:=y8a X G a13;let Kq:Cu İ w K a Ë:=y8q X G U a14;let{UN,UL}:=a15.hh İ w a Ë (y6x k8 VX IV);let{aD,Ay}:=a16.hh İ w a Ë (y6w R i g7);let{aA,Av}:=a17.hh İ w a Ë (y6t gB gL U g7 Q);let{aC,Ax}:=a18.hh İ w a Ë (y6v k8);let{LR,LQ}:=a19.hh İ w a Ë (y6z VW);let OL:Cz İ w K a Ë:=y93 X G O5 Ow Hy Pm O y a20;let OH:Cc İ w K a Ë:=y7t X G YY Yx a21;let Kc:Cn İ w K a Ë:=y8b X G Q2 Ot W3 Ov X_ Ou HM Iu Ir a22;let OK:Ci İ w K a Ë:=y86 X G R W3 Iu Pu a23;let KR:Cd İ w K a Ë:=y80 X G R X_ Ir Pt a24;let KU:Cg İ w K a Ë:=y84 X G S Wn c X9 Hv Pj Hu Pi a25;let W6:Cf İ w K a Ë:=y83 X G a26;let OJ:Ce İ w K a Ë:=y82 X G Ht Ph a27;let K8:CW İ w K a Ë:=y78 X G ac a28;let N9:E8 İ w K a Ë:=y9s X G a29;let Bb:Cv İ w K a Ë:=y90 X G LZ c X9 Hs Pg Hr Pf a30;let KW:Ch İ w K a Ë:=y85 X G Hx Pl Hw Pk a31;let Kf:Co İ w K a Ë:=y8e X G c a32;let Kp:Ct İ w K a Ë:=y8p X G a33;let Ki:Cq İ w K a Ë:=y8i X G u a34;let Kg:Cp İ w K a Ë:=y8f X G Wn c u a35;let Ko:Cr İ w K a Ë:=y8n X G c a36;let Ks:=y8u X G gC gM F a37;let Kt:=y8v X G F a38;let KA:=y7b X G O4 Os Q F a39;let KQ:=y7z X G O2 Op Yd a40;let OA:=y75 X G F O2 Op a41;let OM:=y94 X G F O3 Oq a42;let KC:=y7g X G i OS a43.2;let Kz:=y9c X G BY N2 a44;let Vn:=y8t X G U gC gM F a45;let N8:=y9r X G S R c X9 gC gM Yd BP DQ a46;let{A_,Au}:=a47.hh İ w a Ë (y6s k8 g7 VW IW IX NT);let{aB,Aw}:=a48.hh İ w a Ë (y6u T g7 Kv);let Vo:=y8z X G F a49;let W7:=y9l X G OS a50;let KO:=y7v X G gB gL O5 Ow O y Yd KU a51;let Ye:=y99 X G W6 a52;let Ke:=y8c X G W6 a53;let KL:=y7p X G c gC gM OO a54;let KN:=y7s X G Bb a55;let Kr:=y8r X G W6 OJ a56;let p6:=y8g X G c Kf a57;let Kl:=y8l X G c Kp a58;let Km:=y8m X G Kg a59;let KY:=y88 X G S Q c Yd O3 Oq KQ a60;let OI:=y7w X G u OA a61;let Vm:=y7o X G i U Vn Kz g.2;let OF:=y7e X G i Vn Kb t.2;let BZ:=y7j X G i U Vn Ks Kt A.2;let Yb:=y74 X G i OA a65;let Yc:=y7u X G kq gB gL O y NQ W7 OH OL a66;let OD:=y7c X G O y Vo a67;let KP:=y7x X G gB gL c OL Vo a68;let KS:=y81 X G S kq Q YY Yx Wn c X9 KO a69;let OP:=y9g X G OJ Ke Ye a70;let Ky:=y98 X G kq Q YY Yx c KN a71;let OB:=y76 X G Wm c u Ye a72;let Kj:=y8j X G u p6 Ki Kl a73;let Kk:=y8k X G u p6 a74;let Kh:=y8h X G u p6 a75;let Q5:Cs İ w K a Ë:=y8o X G aD aA aB UN Ay Av Aw UL a76;let K9:=y7a X G S R KY a77;let N4:=y9n X G N6 OI OC a78;let Kw:=y95 X G kq OI OM KA a79;let KD:=y7h X G i T OC Yb a80.2;let KH:=y7m X G i T OM Yb a81.2;let Kx:=y97 X G Q O y W7 OH OD Kc KP OK Yc a82;let KZ:=y89 X G c Ky KS a83;let OE:=y7d X G XA OB OP a84;let N7:=y9q X G Q2 Ot Yc a85;let Ku:=y8x X G O y W3 Ov W7 Yc OQ a86;let KM:=y7r X G X_ Ou gC gM Yc OQ a87;let N1:=y9e X G Ye XA OP a88;let KE:=y7i X G i T Yb N4 Z.2;let KJ:=y7n X G i T Yb Kw a90.2;let LS:=a91.hh X G İ w Ë (y6r VX IV IW IX A_ Au N8 K9);let Bc:=y9h X G O y c OO Vo OD OK Kx KR KL a92;let N3:=y9i X G XA N9 KZ a93;let Ba:=y8y X G Wm c u OE KW a94;let KF:=y7k X G BO B8 KG KC KB Vm OF BZ KD KE KH KJ a95;let OR:=y9k X G Bc a96;let ON:=y96 X G N3 Kr a97;let OG:=y7q X G Ld Ba a98;let NR:=a99.hh X G İ w Ë (y70 c LS N1);let{aE,Az}:=a100.hh İ w a Ë (y6y k8 VX g7 VW UN UL KF Kq);let N5:=y9o X G c OR K8 a101;let NA:=y9t X G Ye XA OE OG N7 KM Ku a102;let K_:=y9d X G OR N5 a103;let K7:=y77 X G NA ON a104;let NU:=Y.hh X G İ w Ë (y72 c LS K_);show y8d u p6 UN UL OB OG ON NR NU aE Az LR aC LQ Ax Km Ko Kj Kk Kh K7 Q5 F106
def walk{l:ŭi}{q:ï}{b:Á Ç}{p:ĸh->Heap->È}{g:è->Heap->È}{d:DefRec}{K:ĭg->Ñ}(r:ŀj=À 63)(e:čm=[])(j:∀(w:è)(h:Heap),g w h->(śb).In h)(F:∀(w:è)(c:Ç->Ê Value)(i:Ì)(h:Heap),(śb).In h->Ģa Ģ c->c d.name=À (.ref i)->
   ∃fd:Ō,(∀(s:Ï)(u:Value),Æc s fd {[u],[]} [(Ūa,u)])/\∀Ë:Heap,(śb).In Ë->Ŕd Ģ c->xi İ w śb c Ë xY 11 i fd [Ūa] (LF śb)) :
  W.WalkO q b p g Äi d [] Él:=
 L3.walkB (n:=63) (k:=11) (x := Ūa) (sp:=LF) r Í e {rfl,by decide,by decide,rfl} j F λ_ _ a v t o m=>{a,v,rfl,m,t,o,λ_=>rfl}
#print My
end
open Lean in
local macro_rules|`(universe $x)=>return rb0 (fb0 .missing) (mkNullNode (<-(("tree_174 heap_997 tree_248 tree_115 sts_336 tree_572 sts_267 o_57 sts_783 tree_735 sts_910 tree_223 sts_658 tree_264 tree_100 sts_224 tree_391 tree_657 o_49 sts_988 sts_736 sts_481 sts_392 tree_333 tree_258 o_53 sts_251 tree_909 tree_858 o_58 o_51 tree_782 view_39 sts_859 o_59 sts_261 tree_478 sts_457 sts_175 o_55 o_60 sts_131 tree_70 tree_456 o_61 sts_573 tree_85 tree_996 heap_39 o_63 tree_130 o_56 tree_987 o_54".splitOn).toArray++(Array.range' 64 933).map (s!"o_{·}")).mapM λi=>`(def $(mkIdent (.mkSimple s!"tw{(Name.str x.getId i).hash}")):ident:=Nat)))
namespace PySem.W.Fast
universe PySem.Challenge.cw_markrun_k91_whole_two_machines_holds
def tw16897209075245924324:=Nat
end PySem.W.Fast
open PySem PySem.W PyProof.Rows
set_option maxRecDepth 100000 in
set_option maxHeartbeats 0 in
theorem PySem.Challenge.cw_markrun_k91_whole_two_machines_holds : PySem.Challenge.rw_markrun_k91_whole_two_machines.Holds := by
 w_on;o_law;k_head;(case hw=>w_witness2)
 k_fill
 refine My.walk (l:=PySem.Challenge.rw_markrun_k91_whole_two_machines) rfl rfl (λw h Y=>PySem.W.kIn_of Y) ?F
 case F=>
  intro w d e h c G b;refine' My.all_mk c G b ?a0 ?a1 ?a2 ?a3 ?a4 ?a5 ?a6 ?a7 ?a8 ?a9 ?a10 ?a11 ?a12 ?a13 ?a14 ?a15 ?a16 ?a17 ?a18 ?a19 ?a20 ?a21 ?a22 ?a23 ?a24 ?a25 ?a26 ?a27 ?a28 ?a29 ?a30 ?a31 ?a32 ?a33 ?a34 ?a35 ?a36 ?a37 ?a38 ?a39 ?a40 ?a41 ?a42 ?a43 ?a44 ?a45 ?a46 ?a47 ?a48 ?a49 ?a50 ?a51 ?a52 ?a53 ?a54 ?a55 ?a56 ?a57 ?a58 ?a59 ?a60 ?a61 ?a62 ?a63 ?a64 ?a65 ?a66 ?a67 ?a68 ?a69 ?a70 ?a71 ?a72 ?a73 ?a74 ?a75 ?a76 ?a77 ?a78 ?a79 ?a80 ?a81 ?a82 ?a83 ?a84 ?a85 ?a86 ?a87 ?a88 ?a89 ?a90 ?a91 ?a92 ?a93 ?a94 ?a95 ?a96 ?a97 ?a98 ?a99 ?a100 ?a101 ?a102 ?a103 ?a104 ?a105 ?a106 ?l106 ?c106 ?k106 ?a200 ?a201 ?a202 ?a203 ?a204 ?a205 ?a206 ?a207 ?a208 ?a209 ?a210 ?a211 ?a212 ?a213 ?a214 ?a215 ?a216 ?a217 ?a218 ?a219 ?a220 ?a221 ?a222 ?a223 ?a224 ?a225 ?a226 ?a227 ?a228 ?a229 ?a230 ?a231 ?a232 ?a233 ?a234 ?a235 ?a236 ?a237 ?a238 ?a239 ?a240 ?a241 ?a242 ?a243 ?a244 ?a245 ?a246 ?a247 ?a248 ?a249 ?a250 ?a251 ?a252 ?a253 ?a254 ?a255 ?a256 ?a257 ?a258 ?a259 ?a260 ?a261 ?a262 ?a263 ?a264 ?a265 ?a266 ?a267 ?a268 ?a269 ?a270 ?a271 ?a272 ?a273 ?a274 ?a275 ?a276 ?a277 ?a278 ?a279 ?a280 ?a281 ?a282 ?a283
  all_goals try first|exact L3.fnp_mk (by k_is) (by k_is) (by k_is) (by k_is)|exact L3.gn_mk (by k_is)|exact L3.gs_mk (by k_is)|exact L3.dc_mk (by simp only[List.map_cons,List.map_nil];k_is) (by decide)|exact L3.tp_mk (by k_is)|exact L3.tq_mk (by k_is)|exact L3.fnq_mk (by k_is) (by k_is) (by k_is) (by k_is)|exact L3.mtp_mk (L3.mtc_mk (by k_is) (L3.cls_mk (by k_is) (by k_is) (by k_is) (by k_is)) (by k_is)) (L3.mtc_mk (by k_is) (L3.cls_mk (by k_is) (by k_is) (by k_is) (by k_is)) (by k_is)) (L3.mdp_mk (by k_is) (by k_is) (by k_is) (by k_is) (by first|exact .all (L3.us1 λ_=>rfl)|exact .all (L3.us2 λ_ _=>rfl)|exact .all (L3.us3 λ_ _ _=>rfl)|exact .all (L3.us4 λ_ _ _ _=>rfl)|exact .all (L3.us5 λ_ _ _ _ _=>rfl)|(refine L3.bd2 λ_ _ _ a=>?_;apply PySem.W.binds_K a rfl;k_is;all_goals rfl)|(refine L3.bd4 λ_ _ _ _ _ a=>?_;apply PySem.W.binds_K a rfl;k_is;all_goals rfl)))|exact L3.mkp_mk (by k_is) (by k_is) (by k_is) (by k_is) (L3.mdp_mk (by k_is) (by k_is) (by k_is) (by k_is) (by first|exact .all (L3.us1 λ_=>rfl)|exact .all (L3.us2 λ_ _=>rfl)|exact .all (L3.us3 λ_ _ _=>rfl)|exact .all (L3.us4 λ_ _ _ _=>rfl)|exact .all (L3.us5 λ_ _ _ _ _=>rfl)|(refine L3.bd2 λ_ _ _ a=>?_;apply PySem.W.binds_K a rfl;k_is;all_goals rfl)|(refine L3.bd4 λ_ _ _ _ _ a=>?_;apply PySem.W.binds_K a rfl;k_is;all_goals rfl)))|exact L3.cmp_mk (by k_is) (by k_is) (by k_is) (by k_is) (L3.mdp_mk (by k_is) (by k_is) (by k_is) (by k_is) (by first|exact .all (L3.us1 λ_=>rfl)|exact .all (L3.us2 λ_ _=>rfl)|exact .all (L3.us3 λ_ _ _=>rfl)|exact .all (L3.us4 λ_ _ _ _=>rfl)|exact .all (L3.us5 λ_ _ _ _ _=>rfl)|(refine L3.bd2 λ_ _ _ a=>?_;apply PySem.W.binds_K a rfl;k_is;all_goals rfl)|(refine L3.bd4 λ_ _ _ _ _ a=>?_;apply PySem.W.binds_K a rfl;k_is;all_goals rfl)))|exact L3.fldk_cons (by k_is) (L3.cls_mk (by k_is) (by k_is) (by k_is) (by k_is)) (by k_is) L3.fldk_nil|exact L3.fldk_cons (by k_is) (L3.cls_mk (by k_is) (by k_is) (by k_is) (by k_is)) (by k_is) (L3.fldk_cons (by k_is) (L3.cls_mk (by k_is) (by k_is) (by k_is) (by k_is)) (by k_is) L3.fldk_nil)|exact L3.mkd_mk (by k_is) (by k_is) (by k_is) (by k_is) (by k_is) (by k_is) (by k_is) (by k_is) (by(refine L3.bd3 λ_ _ _ _ a=>?_;apply PySem.W.binds_K a rfl;k_is;all_goals rfl))|exact L3.mtd_mk (L3.mtc_mk (by k_is) (L3.cls_mk (by k_is) (by k_is) (by k_is) (by k_is)) (by k_is)) (L3.mtc_mk (by k_is) (L3.cls_mk (by k_is) (by k_is) (by k_is) (by k_is)) (by k_is)) (by k_is) (by k_is) (by k_is) (by k_is) (by(refine L3.bd2 λ_ _ _ a=>?_;apply PySem.W.binds_K a rfl;k_is;all_goals rfl)) (by(apply Exists.intro;apply L3.bd1;intro _ _ a;apply PySem.W.binds_K a rfl;k_is;all_goals rfl))
  all_goals try (first|k_is|k_exc|kit_is|kts_exm)
  all_goals decide
