import PyProof.Rows.All
import Lean
import KE.KTryDeep
import KE.IntBitsLaws
import KE.KDictList
import PySem.Challenge.RW_keynests_k55_whole_what_a_shelf_refuses
import KE.KIsAll
import KE.KRevIter
import KE.KItem
set_option autoImplicit false
open List (all_cons all_map any_cons any_eq_true any_map append_assoc append_nil countP_cons count_cons drop_eq_getElem_cons ext_getElem? filterMap_cons filter_congr filter_cons filter_sublist flatten_cons forIn_nil getD_eq_getElem?_getD getElem_mem length_append length_cons length_drop length_map length_range length_set length_singleton length_take lookup_cons lookup_nil mapM_cons map_append map_cons map_map map_nil mem_append mem_append_left mem_append_right mem_cons mem_cons_of_mem mem_cons_self mem_filter mem_map mem_of_getElem? mem_range mergeSort_perm nodup_append nodup_cons nodup_nil not_mem_nil of_mem_zip pairwise_map replicate_succ size_toArray sum_cons take_append_drop take_length take_succ)
set_option maxRecDepth 100000
set_option linter.all false
set_option Elab.async false
open PySem renaming wpAny_bind→ya,Value→yb,Addr→yd,Shared→ye,wpAny_pure→yg,FuncData→yi,starEach→yj,wpAny→yo,mainGlobals→yp,model→yx,Str→yy,Program→yB,sizeLine→yE,Expr→yF,World→yL,bootBuiltins→yQ,Around→yR,Heap→yV,wpAny_call_entry→yW,wpAny_holding→yY,wpAny_callSpecial?_slot→yZ,wpAny_mono→Yb,wpAny_newObj_type→Ye,eval→Yh,Stmt→Yi,mem_of_lookup→Yk,wpAny_field→Yn,backTo→Yo,cellsFrom→Yv,assignEach→Yw,wpAny_setField_rec→Yx,compareOp→Yy,sizeLine_eq→YA,rawInt→YF,attributeBase→YL,codeAny_mono→YM,keywordEach→YS,wpAny_loadPart_at→YT,wpAny_seqItems→YV,Obj→YY,wpAny_standAt→YZ,foldedSetIterable→xa,wpAny_setField→xb,wpAny_setState_of→xc,wpAny_ite_split→xh,codeAny_builtin→xi,NameKind→xt,excClassObj→xu,wpAny_truthy_bool→xv,Builtin→xw,wpAny_specialOf→xz,wpAny_isSubtype_exc→xB,Pos→xC,wpAny_pyIter_tuple→xF,binaryOp→xG,wpAny_Call_Name_kw→xH,SetTable→xJ,Keyword→xN,pyNext→xQ,wpAny_passesOwn→xS,holding→xT,wpAny_pyIter_list→xU,backToKw→xV,codeAny_call_builtin→xW,wpAny_attempt→xX,wpAny_setEntries_of→Xb,PyData→Xc,wpAny_isInstance→Xd,wpAny_execs_nil→Xj,swapsWith→Xl,plainId_quiet→Xm,builtinLookup_eq_fast→Xr,Scope→Xv,codeAny→Xw,wpAny_typeOf→XE
open PySem.Heap renaming get?_push_of_some→yc,lt_size→ym,get?_push_size→yn,SameBut→yN,get?_update_self→yS,size_push→Yd,get?_update_other→Yl,ExtBut→xE
open List.cons renaming inj→yf,injEq→xj
open List renaming getElem?_map→yh,getElem?_append_left→yq,getElem?_eq_getElem→yu,range→yv,replicate→yD,getElem?_set_self→yI,getElem?_append_right→yJ,getElem?_set_ne→yK,lookup→YR,getElem?_replicate→YW,getElem?_eq_none→xl,perm_ext_iff_of_nodup→xM,set_eq_take_append_cons_drop→xP,take_of_length_le→Xh,find?_cons→Xk,length_replicate→Xq,getElem?_zipIdx→XB
open Nat renaming le_refl→yk,ne_of_lt→yt,lt_of_lt_of_le→yA,le_trans→yG,ne_of_gt→yT,lt_irrefl→Yc,lt_succ_of_lt→Ys,lt_succ_self→Yu,zero_le→YB,le_of_lt→YI,lt_add_right→xm,le_succ→Xf
open Option renaming bind_some→yr,map_some→xf,getD_some→XF
open PySem.W renaming Frag→yw,findIn→Ym,nsIn→Yq,mg_none_of→xr,mg_of→xO,emptyDict→Xe,ktsIn→XD
open PySem.NameKind renaming free→yz,cell→yX
open Bool renaming false_ne_true→yC,and_eq_true→yO,false_eq_true→xI,and_self→Xo
open Ne renaming symm→yH
open PySem.Value renaming ref→yM,none→Yt,type→YK,builtin→Xn
open Sum renaming inl→yP
open PySem.Builtin.SmallTypes renaming nextOf→yU,ownedTupleIsFree→Yr,ownedTupleHandOut→YO
open PySem.Obj renaming data_mapFields→Yg,isFreed_of_fields→YH,mapFields→xq,mapSeq→Xg,cls_mapFields→Xx
open Option.some renaming inj→Yj,injEq→YQ
open PySem.PyData renaming eqv→Yp,int→xZ,eqvAll→Xp,canLayAll0→Xy
open PySem.Builtin.List renaming listExtendWith→Yz,listTooLong→xp,listLengthHint→xD,listSameRef→xY
open Classical renaming propDecidable→YC
open Int renaming toNat_natCast→YD,eq_ofNat_of_zero_le→xy,emod_lt_of_pos→Xi
open False renaming elim→YE
open PySem.Heap.SameBut renaming update→YG
open PyProof.Rows renaming callWith_type1→YJ,slot_tuple_getitem→xk
open PySem.Str renaming ofString→YN
open PySem.SetTable renaming below→YU,grown→XA
open PySem.Around renaming under_plainId→YX
open ForInStep renaming yield→xg
open PySem.Challenge renaming rw_keynests_k55_whole_what_a_shelf_refuses→xn
open PySem.Builtin.Tuple renaming tupleExact→xo
open PyProof.Rows.F renaming plain_set_update_loop→xA
open PySem.F renaming excBase_ValueError→xK,slot_tuple_iterator_next→xL,slot_enumerate_next→Xu
open PySem.Builtin.Slice renaming slicePlaces→xR
open PySem.AutoSeq1 renaming wpAny_loadPart'→Xa
open Array renaming getElem?_toList→Xs
open PySem.SetTable.below renaming go→Xz
noncomputable section
namespace M
open PySem PySem.W PyProof.Rows
def kOf(as:List yd)(h:yV):Frag:=as.filterMap λa=>(h.get? a).map λo=>(a,o)
def zSp(h:yV):Frag:=kOf (yv h.objs.size) h
def zbx(s:Yi):Arguments:=match s with
 |.FunctionDef _ a _ _ _ _ _ _ _ _=>a
 |_=>{posonlyargs:=[],args:=[],vararg:=none,kwonlyargs:=[],kw_defaults:=[],kwarg:=none,defaults:=[]}
def zKx(s:Yi):List Yi:=match s with
 |.FunctionDef _ _ b _ _ _ _ _ _ _=>b
 |_=>[]
def zqs(s:Yi):Xv:=match s with
 |.FunctionDef _ _ _ _ _ _ sc _ _ _=>sc
 |_=>{kind:=.function,names:=[],isGenerator:=false,isCoroutine:=false }
def zLB(s:Yi):xC:=match s with
 |.FunctionDef _ _ _ _ _ _ _ _ _ p=>p
 |_=>⟨0,0,0,0⟩
structure sF where
 name:yy
 qual:yy
 params:Arguments
 body:FuncBody
 scope:Xv
 globals:yd
 closure:List (yy×yd)
 defaults:yb
 builtins:yd
 code:Bool
 keep:Bool
def zme(K:Frag)(a:yd)(qual:yy):Option sF:=match K.lookup a with
 |some ⟨_,_,.func fd,_⟩=>some ⟨fd.name,fd.qualname,fd.params,fd.body,fd.scope,fd.globals,fd.closure,fd.defaults,fd.builtins,codeIn K fd.code qual,keepIn K (.ref a)⟩
 |_=>none
def zhb(K:Frag)(nm:yy):Option sF:=match nsIn K yp nm with
 |some (some (.ref a))=>zme K a nm
 |_=>none
def zKe(nm qual:yy)(st:Yi):Option sF:=some ⟨nm,qual,zbx st,.stmts (zKx st),zqs st,yp,[],.none,builtinsNs,true,true⟩
def zpb(nm:yy)(st:Yi):Option sF:=zKe nm nm st
def zgm(K:Frag)(nm:yy):Option Int:=match nsIn K yp nm with
 |some (some (.int i _))=>some i
 |_=>none
def zJq(K:Frag)(C:yd):Option (yb×String×List yb×Bool×Bool):=match K.lookup C with
 |some ⟨c,_,.cls cd,sl⟩=>(match sl.toList with | [_,_,_,_,some (.builtin n),_]=>some (c,n,cd.mro,cd.hasDict,cd.hasDel)|_=>none)
 |_=>none
def zHv{p q:yB}{loose:List yy}{α:Type}{Yf:ye->α}{y:α}{N:Nat}(h1:LeftO p q loose (λ_=>true) (λ_=>()) (λ_=>()) N)(h2:∀w,(openEnds treeTable p w N).map Yf=some y):LeftO p q loose (λ_=>true) Yf (λ_=>y) N:=λw=>by
 obtain⟨s,e,a⟩:=Option.map_eq_some_iff.mp (h1 w);obtain⟨s',e',b⟩:=Option.map_eq_some_iff.mp (h2 w);rw[e]at e';cases e';rw[e];show some (_,Yf s)=some (_,y);rw[b];exact congrArg (λz=>some (z.1,y)) a
end M
namespace Hd
open PySem PySem.Spec PyProof.Rows M
def top(i:Nat):Yi:=PySem.Challenge.pw_keynests_k55_whole_what_a_shelf_refuses.main.body.getD i (.Pass ⟨0,0,0,0⟩)
def z9k(s:Yi)(j:Nat):Yi:=match s with
 |.ClassDef _ _ _ body _ _ _ _ _ _ _=>body.getD j (.Pass ⟨0,0,0,0⟩)
 |_ =>.Pass ⟨0,0,0,0⟩
def zHt(s:Yi):Yi:=z9k s 0
def qv:yB:={PySem.Challenge.pw_keynests_k55_whole_what_a_shelf_refuses with main:={PySem.Challenge.pw_keynests_k55_whole_what_a_shelf_refuses.main with body:=[top 52]}}
def lse:List yy:=(PySem.Challenge.pw_keynests_k55_whole_what_a_shelf_refuses.main.scope.names.map (·.1)).filter λx=>!(x == "law")
def dl:DefRec:={name:="law",params:=zbx (top 52),body:=zKx (top 52),scope:=zqs (top 52),pos:=zLB (top 52)}
abbrev tA:=List (Option sF)
abbrev tB:=List (Option (Option yb))
abbrev tC:=List (Option Int)×List (Bool)×List (Option Bool)×List (Option yb)×List (Option W.CFound)×List (Option (yb×String×List yb×Bool×Bool))
def ob0(K:yw):tA:=[zhb K "_law_pen",zme K 246 "Shelf.__init__",zhb K "_law_mixed",zhb K "_law_take",zhb K "_law_rule",zme K 279 "Shelf.all_there",zhb K "_law_key",zhb K "lying",zhb K "pushes_to",zhb K "left",zhb K "row_to",zhb K "put_in",zhb K "fault",zhb K "is_push",zhb K "follows"]
def go0:tA:=[zpb "_law_pen" (top 41),zKe "__init__" "Shelf.__init__" (z9k (top 35) 0),zpb "_law_mixed" (top 42),zpb "_law_take" (top 43),zpb "_law_rule" (top 44),zKe "all_there" "Shelf.all_there" (z9k (top 35) 5),zpb "_law_key" (top 46),zpb "lying" (top 11),zpb "pushes_to" (top 16),zpb "left" (top 9),zpb "row_to" (top 17),zpb "put_in" (top 18),zpb "fault" (top 10),zpb "is_push" (top 13),zpb "follows" (top 14)]
def ob1(K:yw):tA:=[zhb K "pushed",zhb K "laid_more",zhb K "laid_at_all",zhb K "room_of",zhb K "homes_of",zhb K "is_crowd",zhb K "spare_key",zhb K "trimmed",zhb K "fitted",zhb K "held_to",zhb K "can_move",zhb K "places",zhb K "homes",zhb K "web_of",zme K 308 "Shelf.rule"]
def go1:tA:=[zpb "pushed" (top 15),zpb "laid_more" (top 19),zpb "laid_at_all" (top 20),zpb "room_of" (top 28),zpb "homes_of" (top 27),zpb "is_crowd" (top 30),zpb "spare_key" (top 31),zpb "trimmed" (top 32),zpb "fitted" (top 33),zpb "held_to" (top 37),zpb "can_move" (top 38),zpb "places" (top 39),zpb "homes" (top 23),zpb "web_of" (top 26),zKe "rule" "Shelf.rule" (z9k (top 35) 10)]
def ob2(K:yw):tA:=[zme K 272 "Shelf.where",zhb K "_law_in_places",zhb K "_law_fits",zme K 301 "Shelf.renew",zhb K "_law_renewed",zme K 265 "Shelf.has",zme K 258 "Shelf.out",zme K 289 "Shelf.laying",zme K 251 "Shelf.put",zhb K "_law_there_and_back",zhb K "_law_put",zhb K "law",zme K 110 "NoFit.__init__",zme K 72 "Full.__init__"]
def go2:tA:=[zKe "where" "Shelf.where" (z9k (top 35) 4),zpb "_law_in_places" (top 50),zpb "_law_fits" (top 47),zKe "renew" "Shelf.renew" (z9k (top 35) 9),zpb "_law_renewed" (top 49),zKe "has" "Shelf.has" (z9k (top 35) 3),zKe "out" "Shelf.out" (z9k (top 35) 2),zKe "laying" "Shelf.laying" (z9k (top 35) 7),zKe "put" "Shelf.put" (z9k (top 35) 1),zpb "_law_there_and_back" (top 51),zpb "_law_put" (top 48),zpb "law" (top 52),zKe "__init__" "NoFit.__init__" (zHt (top 7)),zKe "__init__" "Full.__init__" (zHt (top 5))]
def ob3(K:yw):tB:=[Yq K yp "Shelf",Ym K (.ref 311) "__setattr__",Ym K (.ref 311) "nest_of",Ym K (.ref 311) "kept_rule",Ym K (.ref 311) "__init__",Ym K (.ref 311) "all_there",Ym K (.ref 311) "rule",Ym K (.ref 311) "where",Ym K (.ref 311) "renew",Ym K (.ref 311) "has",Ym K (.ref 311) "out",Ym K (.ref 311) "laying",Ym K (.ref 311) "put",Yq K yp "all",Yq K yp "enumerate",Yq K yp "len",Yq K yp "list",Yq K yp "range",Yq K yp "reversed",Yq K yp "set",Yq K yp "sorted",Yq K yp "sum",Yq K yp "tuple",Yq K yp "zip",Yq K yp "NoFit",Yq K yp "NestError",Yq K yp "Full",Yq K yp "NoKey",Yq K yp "Twice",W.specialIn K (.ref 31) "__getattribute__",Ym K (.ref 113) "__init__",Ym K (.ref 113) "__setattr__",Ym K (.ref 113) "some",Ym K (.ref 75) "__init__",Ym K (.ref 75) "__setattr__",Ym K (.ref 75) "some",Ym K (.ref 75) "__getattribute__",Ym K (.ref 75) "__getattr__",Ym K (.ref 75) "__class__",W.specialIn K (.builtin "object.__class__") "__get__"]
def go3:tB:=[some (some (.ref 311)),some (some (.builtin "object.__setattr__")),some none,some none,some (some (.ref 246)),some (some (.ref 279)),some (some (.ref 308)),some (some (.ref 272)),some (some (.ref 301)),some (some (.ref 265)),some (some (.ref 258)),some (some (.ref 289)),some (some (.ref 251)),some none,some none,some none,some none,some none,some none,some none,some none,some none,some none,some none,some (some (.ref 113)),some (some (.ref 31)),some (some (.ref 75)),some (some (.ref 56)),some (some (.ref 44)),some (some (.builtin "type.__getattribute__")),some (some (.ref 110)),some (some (.builtin "object.__setattr__")),some none,some (some (.ref 72)),some (some (.builtin "object.__setattr__")),some none,some (some (.builtin "BaseException.__getattribute__")),some none,some (some (.builtin "object.__class__")),some (some (.builtin "getset_descriptor.__get__"))]
def ob4(K:yw):tC:=([zgm K "DIVISOR",zgm K "MOST_KEYS"],[W.plainGet K 311 PySem.Str.empty,W.hasDictIn K 311,W.plainOver K 311,W.isFn K (.ref 246),W.makesIn K 311,W.keepIn K (.ref 311),W.isFn K (.ref 279),W.isFn K (.ref 308),W.isFn K (.ref 272),W.isFn K (.ref 301),W.isFn K (.ref 265),W.isFn K (.ref 258),W.isFn K (.ref 289),W.isFn K (.ref 251),XD K 113 "BaseException",XD K 31 "BaseException",XD K 75 "BaseException",XD K 56 "BaseException",XD K 44 "BaseException",W.excIn K 56 [.type "ValueError",.type "Exception",.type "BaseException",.type "object"] "ValueError.__new__",W.excIn K 44 [.type "ValueError",.type "Exception",.type "BaseException",.type "object"] "ValueError.__new__",W.excIn K 31 [.type "ValueError",.type "Exception",.type "BaseException",.type "object"] "ValueError.__new__",W.readsIn K 31 (.type "type"),W.hasDictIn K 113,W.hasDictIn K 75,(W.clsIn K 75).isSome],[W.mroIn K 113 (.ref 75),W.mroIn K 75 (.ref 75),W.mroIn K 56 (.ref 75),W.mroIn K 44 (.ref 75),W.mroIn K 75 (.type "BaseException"),W.mroIn K 75 (.type "object"),W.takesIn K (.builtin "object.__class__")],[W.typeIn K (.ref 110),W.typeIn K (.ref 72)],[W.findCls K (.ref 31) (.type "type") "__init__"],[zJq K 113,zJq K 75])
def go4:tC:=([some 10007,some 30],[true,true,true,true,true,true,true,true,true,true,true,true,true,true,true,true,true,true,true,true,true,true,true,true,true,true],[some false,some true,some false,some false,some true,some true,some true],[some (.type "function"),some (.type "function")],[some (.val (.builtin "ValueError.__init__"))],[some (.type "type","ValueError.__new__",.ref 113::(.ref 31::[.type "ValueError",.type "Exception",.type "BaseException",.type "object"]),true,false),some (.type "type","ValueError.__new__",.ref 75::(.ref 31::[.type "ValueError",.type "Exception",.type "BaseException",.type "object"]),true,false)])
def zaA(a b c:tA)(d:tB)(e:tC):tA×tB×tC:=(a++b++c,d,e)
def obs(K:yw):tA×tB×tC:=zaA (ob0 K) (ob1 K) (ob2 K) (ob3 K) (ob4 K)
def good:tA×tB×tC:=zaA go0 go1 go2 go3 go4
set_option maxHeartbeats 0
def hd21:W.LeftO PySem.Challenge.rw_keynests_k55_whole_what_a_shelf_refuses.prog qv lse (λ_=>true) (λ_=>()) (λ_=>()) 60000:=λw=>by kernel_rfl
def hd220:∀w,(W.openEnds treeTable PySem.Challenge.rw_keynests_k55_whole_what_a_shelf_refuses.prog w 60000).map (λs=>ob0 (zSp s.heap))=some go0:=λw=>by kernel_rfl
def hd221:∀w,(W.openEnds treeTable PySem.Challenge.rw_keynests_k55_whole_what_a_shelf_refuses.prog w 60000).map (λs=>ob1 (zSp s.heap))=some go1:=λw=>by kernel_rfl
def hd222:∀w,(W.openEnds treeTable PySem.Challenge.rw_keynests_k55_whole_what_a_shelf_refuses.prog w 60000).map (λs=>ob2 (zSp s.heap))=some go2:=λw=>by kernel_rfl
def hd223:∀w,(W.openEnds treeTable PySem.Challenge.rw_keynests_k55_whole_what_a_shelf_refuses.prog w 60000).map (λs=>ob3 (zSp s.heap))=some go3:=λw=>by kernel_rfl
def hd224:∀w,(W.openEnds treeTable PySem.Challenge.rw_keynests_k55_whole_what_a_shelf_refuses.prog w 60000).map (λs=>ob4 (zSp s.heap))=some go4:=λw=>by kernel_rfl
def hd22:∀w,(W.openEnds treeTable PySem.Challenge.rw_keynests_k55_whole_what_a_shelf_refuses.prog w 60000).map (λs=>obs (zSp s.heap))=some good:=λw=>by
 obtain⟨s0,e0,p0⟩:=Option.map_eq_some_iff.mp (hd220 w);have p1:=hd221 w;rw[e0,xf,YQ]at p1;have p2:=hd222 w;rw[e0,xf,YQ]at p2;have p3:=hd223 w;rw[e0,xf,YQ]at p3;have p4:=hd224 w;rw[e0,xf,YQ]at p4;rw[e0];show some (zaA (ob0 (zSp s0.heap)) (ob1 (zSp s0.heap)) (ob2 (zSp s0.heap)) (ob3 (zSp s0.heap)) (ob4 (zSp s0.heap)))=some (zaA go0 go1 go2 go3 go4);rw[p0,p1,p2,p3,p4]
def hd2:W.LeftO PySem.Challenge.rw_keynests_k55_whole_what_a_shelf_refuses.prog qv lse (λ_=>true) (λs=>obs (zSp s.heap)) (λ_=>good) 60000:=zHv hd21 hd22
def hd1:PySem.Challenge.rw_keynests_k55_whole_what_a_shelf_refuses.wellSaid=true:=by kernel_rfl
def hd3:W.defOf qv PySem.Challenge.rw_keynests_k55_whole_what_a_shelf_refuses.name=some (dl,[]):=by kernel_rfl
def hd4:PySem.Challenge.rw_keynests_k55_whole_what_a_shelf_refuses.prog.theDef PySem.Challenge.rw_keynests_k55_whole_what_a_shelf_refuses.name=some (dl.params,dl.body,dl.scope):=by kernel_rfl
def hd5:W.kwWritten? dl.params.kwonlyargs dl.params.kw_defaults=some []:=by kernel_rfl
def hd6:(W.chainsOk qv&&W.opensWell PySem.Challenge.rw_keynests_k55_whole_what_a_shelf_refuses.prog&&(W.frees PySem.Challenge.rw_keynests_k55_whole_what_a_shelf_refuses.row.toRowW&&PySem.Challenge.rw_keynests_k55_whole_what_a_shelf_refuses.row.within.isEmpty))=true:=by kernel_rfl
def hd7:PySem.Challenge.rw_keynests_k55_whole_what_a_shelf_refuses.prog.bare:=⟨rfl,rfl,rfl,rfl,rfl,by decide +kernel⟩
end Hd
namespace L2
open PySem PySem.Spec PyProof.Rows
abbrev Key:=Sum Int yy
def z7o:Key->yb->Bool
 |.inl k,v=>Value.isInt k v
 |.inr x,v=>Value.isStrOf x v
def zrB(w:yL):Key->Int
 |.inl k=>hashInt k
 |.inr x=>hashStr w x
def ztb:∀{k:Key} {v:yb},z7o k v=true->(∃i t,k=yP i/\v=Value.int i t)\/(∃x t,k=Sum.inr x/\v=Value.str x t)
 |.inl i,v,h=>by
  obtain⟨t,e⟩:=Value.isInt_shape (k:=i) (v:=v) h;exact .inl ⟨i,t,rfl,e⟩
 |.inr x,v,h=>by
  obtain⟨t,e⟩:=Value.isStrOf_shape (x:=x) (v:=v) h;exact .inr ⟨x,t,rfl,e⟩
def zxt(i:Int)(t:Tok):z7o (.inl i) (.int i t)=true:=by simp[z7o,Value.isInt]
def zht(x:yy)(t:Tok):z7o (.inr x) (.str x t)=true:=by simp[z7o,Value.isStrOf]
def zvy(a b:Int):decide ((yP a:Key)=yP b)=(a==b):=by
 by_cases e:a=b
 ·subst e;simp
 ·have h:¬(yP a:Key)=yP b:=λq=>e (Sum.inl.inj q);rw[decide_eq_false h];exact(beq_eq_false_iff_ne.mpr e).symm
def zLz(a b:yy):decide ((Sum.inr a:Key)=Sum.inr b)=decide (a=b):=by
 by_cases e:a=b
 ·subst e;simp
 ·have h:¬(Sum.inr a:Key)=Sum.inr b:=λq=>e (Sum.inr.inj q);rw[decide_eq_false h,decide_eq_false e]
def zvz(a:Int)(b:yy):decide ((yP a:Key)=Sum.inr b)=false:=decide_eq_false (λq=>nomatch q)
def zTy(a:yy)(b:Int):decide ((Sum.inr a:Key)=yP b)=false:=decide_eq_false (λq=>nomatch q)
def z5b(prog:yB)(w:yL):PySem.KeyKind prog w Key where
 is:=z7o
 hash:=zrB w
 inj:=λv a b ha hb=>by
  rcases ztb ha with ⟨i,t,rfl,rfl⟩|⟨x,t,rfl,rfl⟩
  ·rcases ztb hb with ⟨j,u,rfl,e⟩|⟨y,u,rfl,e⟩
   ·injection e with e1 _;rw[e1]
   ·exact nomatch e
  ·rcases ztb hb with ⟨j,u,rfl,e⟩|⟨y,u,rfl,e⟩
   ·exact nomatch e
   ·injection e with e1 _;rw[e1]
 byValue:=λk v h=>by
  rcases ztb h with ⟨i,t,rfl,rfl⟩|⟨x,t,rfl,rfl⟩<;>rfl
 pyHash:=λhv h=>by
  rcases ztb hv with ⟨i,t,rfl,rfl⟩|⟨x,t,rfl,rfl⟩
  ·exact wpAny_pyHash_int h
  ·exact wpAny_pyHash_str h
 eqBool:=λhu hv h=>by
  rcases ztb hu with ⟨i,t,rfl,rfl⟩|⟨x,t,rfl,rfl⟩
  ·rcases ztb hv with ⟨j,u,rfl,rfl⟩|⟨y,u,rfl,rfl⟩
   ·rw[zvy]at h;exact wpAny_eqBool_int h
   ·rw[zvz]at h;exact SeqAt.EqAt.int_str i t y u _ _ _ _ h
  ·rcases ztb hv with ⟨j,u,rfl,rfl⟩|⟨y,u,rfl,rfl⟩
   ·rw[zTy]at h;exact SeqAt.EqAt.str_int x t j u _ _ _ _ h
   ·rw[zLz]at h;exact wpAny_eqBool_str h
 «strs»:=λk x t v h=>by
  rcases ztb h with ⟨i,u,rfl,e⟩|⟨y,u,rfl,e⟩
  ·exact nomatch e
  ·injection e with e1 _;subst e1;cases v<;>rfl
def zyi(prog:yB)(w:yL)(k:Key)(v:yb):(z5b prog w).is k v=z7o k v:=rfl
def zcp(prog:yB)(w:yL)(i:Int)(t:Tok):(z5b prog w).is (.inl i) (.int i t)=true:=zxt i t
def zLp(prog:yB)(w:yL)(x:yy)(t:Tok):(z5b prog w).is (.inr x) (.str x t)=true:=zht x t
inductive V where
 |non|bl (b:Bool)|int (i:Int)|str (x:yy)|byt (b:Array UInt8)|flt (b:UInt64)|ref (a:yd)|ty (n:String)
 deriving DecidableEq
def RelV:V->yb->Prop
 |.non,u=>u=Yt
 |.bl b,u=>u=Value.bool b
 |.int i,u=>∃t,u=Value.int i t
 |.str x,u=>∃t,u=Value.str x t
 |.byt b,u=>∃t,u=Value.bytes b t
 |.flt b,u=>∃t,u=Value.float b t
 |.ref a,u=>u=yM a
 |.ty n,u=>u=YK n
abbrev Vals:List V->List yb->Prop:=Paired RelV
def Vals.length{xs:List V}{us:List yb}(r:Vals xs us):xs.length=us.length:=Paired.length r
def Vals.get:∀{xs:List V} {us:List yb} {i:Nat} {x:V},Vals xs us->xs[i]?=some x->∃u,us[i]?=some u/\RelV x u
 |_,_,_,_,.nil,e=>by simp at e
 |_,_,0,_,.cons r _,e=>by simp at e;subst e;exact⟨_,rfl,r⟩
 |_,_,i+1,x,.cons _ t,e=>by
  obtain⟨u,h1,h2⟩:=Vals.get (i:=i) (x:=x) t (by simpa using e);exact⟨u,by simpa using h1,h2⟩
def Vals.set{x:V}{u:yb}(r:RelV x u):∀{xs:List V} {us:List yb} (i:Nat),Vals xs us->Vals (xs.set i x) (us.set i u)
 |_,_,_,.nil =>.nil
 |_,_,0,.cons _ t =>.cons r t
 |_,_,i+1,.cons q t =>.cons q (Vals.set r i t)
def Vals.append:∀{xs ys:List V} {us ws:List yb},Vals xs us->Vals ys ws->Vals (xs++ys) (us++ws)
 |_,_,_,_,.nil,s=>s
 |_,_,_,_,.cons r t,s =>.cons r (Vals.append t s)
def Vals.take:∀{xs:List V} {us:List yb} (n:Nat),Vals xs us->Vals (xs.take n) (us.take n)
 |_,_,0,_ =>.nil
 |_,_,_+1,.nil =>.nil
 |_,_,n+1,.cons r t =>.cons r (Vals.take n t)
def Vals.drop:∀{xs:List V} {us:List yb} (n:Nat),Vals xs us->Vals (xs.drop n) (us.drop n)
 |_,_,0,r=>r
 |_,_,_+1,.nil =>.nil
 |_,_,n+1,.cons _ t=>Vals.drop n t
def TM:Option V->Option yb->Prop
 |some v,some u=>RelV v u
 |none,none=>True
 |_,_=>False
def KV{κ:Type}:List (κ×V)->List (κ×yb)->Prop:=Paired λ(p:κ×V) (q:κ×yb)=>p.1=q.1/\RelV p.2 q.2
def kV:Key->V
 |.inl i =>.int i
 |.inr x =>.str x
inductive HO where
 |lst (xs:List V)
 |tup (xs:List V)
 |dK (kvs:List (Key×V))|dT (kvs:List (List Key×V))
 |set (S:Int->Bool) (n:Nat)
 |ins (C dx:yd) (fs:List (yy×V))
 |own (x:yd)
 |xd (fs:List (yy×V))
 |met (f x:yd)
 |rng (lo hi:Int)
 |frz (o:YY) (u:HO)
 |tbl (ps:Array yb)
 |ext (φ:yV->Prop)
abbrev Hp:=yd->Option HO
def upd(H:Hp)(a:yd)(o:HO):Hp:=λb=>if b=a then some o else H b
def zG{H:Hp}{a:yd}{o:HO}:upd H a o a=some o:=by unfold upd;rw[if_pos rfl]
def zN{H:Hp}{a b:yd}{o:HO}(h:b≠a):upd H a o b=H b:=by unfold upd;rw[if_neg h]
def zI{H:Hp}{a b:yd}{o:HO}(h:H a=some o)(h':H b=none):a≠b:=by
 intro e;subst e;rw[h]at h';cases h'
section
variable (P:yB)(w:yL)
def tG(H:Hp)(h:yV)(a:yd):HO->Prop
 |.lst xs=>xs.length<=yE/\∃(its:List yb)(n:Nat),Vals xs its/\h.get? a=some {cls:=.type "list",data:=.seq its.toArray n }
 |.tup xs=>xs.length<=yE/\∃its:List yb,Vals xs its/\IsTup h a its.toArray
 |.dK kvs=>kvs.length<=yE/\(a==sysModules)=false/\∃vs,KV kvs vs/\h.DictOf (z5b P w) a vs
 |.dT kvs=>kvs.length<=yE/\(a==sysModules)=false/\∃xs:List (List Key×yd×yb),
  Paired (λ(p:List Key×V) (q:List Key×yd×yb)=>p.1=q.1/\H q.2.1=some (.tup (p.1.map kV))/\RelV p.2 q.2.2) kvs xs /\
  ∃o es ep,h.get? a=some o/\o.ExactDict/\o.data=.dict es ep/\es.toList=xs.map (entryOfKey (tupleKind (z5b P w)))/\(xs.map (·.1)).Nodup
 |.set S n=>h.SetOf (intKind P w) a S n
 |.ins C dx fs=>H dx=some (.own a)/\fs.length<=1000/\dx≠a/\h.get? a=some (W.instObj C dx) /\
  ∃mA,h.Ns1 dx mA/\(∀f,TM (fs.lookup f) (mA f))/\PySem.Within mA (fs.map (·.1))
 |.own _=>∃o,h.get? a=some o
 |.xd fs=>∃mA,h.Ns1 a mA/\∀f,TM (fs.lookup f) (mA f)
 |.rng lo hi=>∃t u v,h.get? a=some {cls:=.type "range",data:=.fields #[.int lo t,.int hi u,.int 1 v]}
 |.frz o u=>h.get? a=some o/\tG H h a u
 |.tbl ps=>h.get? a=some {cls:=.none,data:=.fields ps }
 |.met f x=>h.get? a=some (W.methodObj (.ref f) (.ref x))
 |.ext φ=>φ h/\(∃o,h.get? a=some o)/\∀h1 h2:yV,φ h1->(∀o,h1.get? a=some o->h2.get? a=some o)->φ h2
def HOk(H:Hp)(h:yV):Prop:=∀a o,H a=some o->tG P w H h a o
end
section
variable {P:yB}{w:yL}{H H':Hp}{h h':yV}{a:yd}{o:HO}
def tG.lt(x:tG P w H h a o):a<h.objs.size:=by
 cases o with
 |lst xs=>obtain⟨_,_,_,_,e⟩:=x;exact ym e
 |tup xs=>obtain⟨_,_,_,p⟩:=x;exact p.lt
 |dK kvs=>obtain⟨_,_,_,_,o,_,_,e,_⟩:=x;exact ym e
 |dT kvs=>obtain⟨_,_,_,_,o,_,_,e,_⟩:=x;exact ym e
 |set S n=>obtain⟨o,_,_,_,e,_⟩:=x;exact ym e
 |ins C dx fs=>obtain⟨_,_,_,e,_⟩:=x;exact ym e
 |own y=>obtain⟨_,e⟩:=x;exact ym e
 |xd fs=>obtain⟨_,⟨_,_,_,e,_⟩,_⟩:=x;exact ym e
 |rng lo hi=>obtain⟨_,_,_,e⟩:=x;exact ym e
 |frz ob u=>obtain⟨e,_⟩:=x;exact ym e
 |tbl ps=>exact ym (show h.get? a=some _ from x)
 |met f y=>exact ym (show h.get? a=some _ from x)
 |ext φ=>obtain⟨_,⟨_,e⟩,_⟩:=x;exact ym e
def Paired.mapP{α β:Type}{F G:α->β->Prop}:∀{l₁:List α} {l₂:List β},Paired F l₁ l₂->(∀a b,F a b->G a b)->Paired G l₁ l₂
 |_,_,.nil,_ =>.nil
 |_,_,.cons r t,f =>.cons (f _ _ r) (Paired.mapP t f)
def tG.stay(x:tG P w H h a o)(k:∀b u,(b=a\/H b=some (.own a))->h.get? b=some u->h'.get? b=some u)
 (ho:∀b,H b=some (.own a)->H' b=some (.own a)) (ht:∀b xs,H b=some (.tup xs)->H' b=some (.tup xs)):tG P w H' h' a o:=by
 induction o with
 |lst xs=>obtain⟨z,its,n,r,e⟩:=x;exact⟨z,its,n,r,k _ _ (.inl rfl) e⟩
 |tup xs=>obtain⟨z,its,r,ob,e,c⟩:=x;exact⟨z,its,r,ob,k _ _ (.inl rfl) e,c⟩
 |dK kvs=>obtain⟨z,y,vs,r,ob,es,ep,e,c⟩:=x;exact⟨z,y,vs,r,ob,es,ep,k _ _ (.inl rfl) e,c⟩
 |dT kvs=>
  obtain⟨z,y,xs,r,ob,es,ep,e,c⟩:=x;exact⟨z,y,xs,Paired.mapP r λp q z=>⟨z.1,ht _ _ z.2.1,z.2.2⟩,ob,es,ep,k _ _ (.inl rfl) e,c⟩
 |set S n=>obtain⟨ob,es,ep,t,e,c⟩:=x;exact⟨ob,es,ep,t,k _ _ (.inl rfl) e,c⟩
 |ins C dx fs=>
  obtain⟨d,z,ne,e,mA,⟨od,es,ep,e2,c⟩,r⟩:=x;exact⟨ho _ d,z,ne,k _ _ (.inl rfl) e,mA,⟨od,es,ep,k _ _ (.inr d) e2,c⟩,r⟩
 |own y=>obtain⟨ob,e⟩:=x;exact⟨ob,k _ _ (.inl rfl) e⟩
 |xd fs=>obtain⟨mA,⟨od,es,ep,e,c⟩,r⟩:=x;exact⟨mA,⟨od,es,ep,k _ _ (.inl rfl) e,c⟩,r⟩
 |rng lo hi=>obtain⟨t,u,v,e⟩:=x;exact⟨t,u,v,k _ _ (.inl rfl) e⟩
 |frz ob u ih=>obtain⟨e,q⟩:=x;exact⟨k _ _ (.inl rfl) e,ih q⟩
 |tbl ps=>
  have e:h.get? a=some {cls:=.none,data:=.fields ps }:=x;show h'.get? a=some {cls:=.none,data:=.fields ps };exact k a _ (.inl rfl) e
 |met f y=>
  have e:h.get? a=some (W.methodObj (.ref f) (.ref y)):=x;show h'.get? a=some (W.methodObj (.ref f) (.ref y));exact k a _ (.inl rfl) e
 |ext φ=>obtain⟨p,⟨o,e⟩,st⟩:=x;exact⟨st _ _ p λo q=>k _ _ (.inl rfl) q,⟨o,k _ _ (.inl rfl) e⟩,st⟩
def HOk.lt(x:HOk P w H h)(e:H a=some o):a<h.objs.size:=(x a o e).lt
def HOk.fresh(x:HOk P w H h)(e:h.objs.size<=a):H a=none:=by
 cases q:H a with
 |none=>rfl
 |some u=>exact absurd (yA (x.lt q) e) (Yc _)
def HOk.kept(x:HOk P w H h)(k:∀b u,h.get? b=some u->h'.get? b=some u):HOk P w H h':=λa o e=>
 (x a o e).stay (λb u _ q=>k b u q) (λ_ q=>q) λ_ _ q=>q
def HOk.laid(x:HOk P w H h)(k:∀b u,h.get? b=some u->h'.get? b=some u)(hp:h.objs.size<=a)(new:tG P w (upd H a o) h' a o):HOk P w (upd H a o) h':=λb u e=>by
 have hn:=x.fresh hp
 by_cases hb:b=a
 ·subst hb;rw[zG]at e;cases e;exact new
 ·rw[zN hb]at e;exact(x b u e).stay (λc v _ q=>k c v q) (λc q=>by rw[zN (zI q hn)];exact q) λc xs q=>by rw[zN (zI q hn)];exact q
end
def Rd(H:Hp)(a:yd)(u:HO):Prop:=H a=some u\/∃o,H a=some (.frz o u)
def Rd.ok{P:yB}{w:yL}{H:Hp}{h:yV}{a:yd}{u:HO}(r:Rd H a u)(x:HOk P w H h):tG P w H h a u:=by
 rcases r with r|⟨o,r⟩
 ·exact x a u r
 ·obtain⟨_,q⟩:=x a _ r;exact q
def Mut:Option HO->Prop
 |some (.lst _)=>True
 |some (.dK _)=>True
 |some (.dT _)=>True
 |some (.set _ _)=>True
 |some (.ins _ _ _)=>True
 |some (.ext _)=>True
 |_=>False
section
variable {P:yB}{w:yL}{H:Hp}{h h':yV}{x e:yd}{o':HO}
def HOk.write(ok:HOk P w H h)(mu:Mut (H x))(he:e=x\/H e=some (.own x))(k:∀b u,b≠e->h.get? b=some u->h'.get? b=some u)(heo:∃u,h'.get? e=some u)
 (new:tG P w (upd H x o') h' x o'):HOk P w (upd H x o') h':=λb u q=>by
 have nown:∀c y,H c=some (.own y)->c≠x:=λc y r z=>by subst z;rw[r]at mu;exact mu
 have ntup:∀c xs,H c=some (.tup xs)->c≠x:=λc xs r z=>by subst z;rw[r]at mu;exact mu
 by_cases hb:b=x
 ·subst hb;rw[zG]at q;cases q;exact new
 ·rw[zN hb]at q
  by_cases hbe:b=e
  ·have q':H b=some (.own x):=by
    rcases he with z|z
    ·exact absurd (hbe.trans z) hb
    ·rw[hbe];exact z
   rw[q]at q';cases q';obtain⟨v,hv⟩:=heo;exact⟨v,by rw[hbe];exact hv⟩
  ·refine(ok b u q).stay (λc v hc r=>k c v ?_ r) (λc r=>by rw[zN (nown c b r)];exact r) λc xs r=>by rw[zN (ntup c xs r)];exact r
   rcases hc with rfl|hc
   ·exact hbe
   ·rintro rfl;rcases he with z|z
    ·exact nown c b hc z
    ·rw[hc]at z;cases z;exact hb rfl
end
structure Un(fs ex:List yd)(H H':Hp)(h h':yV):Prop where
 keep:∀b o,h.get? b=some o->H b=none->b∉fs->b∉ex->h'.get? b=some o
 slot:∀b o,h.get? b=some o->H b=none->b∈fs->b∉ex->∃sl,h'.get? b=some {o with slots:=sl }
 free:∀b o,h.get? b=some o->H b=none->b∉ex->H' b=none
 there:∀b o,h.get? b=some o->b∉ex->∃o',h'.get? b=some o'
 tups:∀b xs,H b=some (.tup xs)->H' b=some (.tup xs)
 TF:∀b o u,H b=some (.frz o u)->H' b=some (.frz o u)
 TN:∀b ps,H b=some (.tbl ps)->∃more,H' b=some (.tbl (ps++more))
section
variable {fs fs' ex ex':List yd}{H H1 H2:Hp}{h h1 h2 h':yV}{a x e:yd}{o:HO}
def Un.any(u:Un fs ex H H1 h h1){b:yd}{ob:YY}(q:h.get? b=some ob)(n:H b=none)(hx:b∉ex):∃sl,h1.get? b=some {ob with slots:=sl }:=by
 by_cases hb:b∈fs
 ·exact u.slot b ob q n hb hx
 ·exact⟨ob.slots,u.keep b ob q n hb hx⟩
def Un.trans(a:Un fs ex H H1 h h1)(b:Un fs ex H1 H2 h1 h2):Un fs ex H H2 h h2 where
 keep:=λc ob q n hc hx=>b.keep c ob (a.keep c ob q n hc hx) (a.free c ob q n hx) hc hx
 slot:=λc ob q n hc hx=>by
  obtain⟨sl,e1⟩:=a.slot c ob q n hc hx;obtain⟨sl',e2⟩:=b.slot c _ e1 (a.free c ob q n hx) hc hx;exact⟨sl',e2⟩
 free:=λc ob q n hx=>by
  obtain⟨o',e1⟩:=a.there c ob q hx;exact b.free c o' e1 (a.free c ob q n hx) hx
 there:=λc ob q hx=>by
  obtain⟨o',e1⟩:=a.there c ob q hx;exact b.there c o' e1 hx
 tups:=λc xs q=>b.tups c xs (a.tups c xs q)
 TF:=λc ob xs q=>b.TF c ob xs (a.TF c ob xs q)
 TN:=λc ps q=>by
  obtain⟨m1,e1⟩:=a.TN c ps q;obtain⟨m2,e2⟩:=b.TN c _ e1;exact⟨m1++m2,by rw[e2,Array.append_assoc]⟩
def Un.kept(k:∀b u,h.get? b=some u->h'.get? b=some u):Un fs ex H H h h' :=
 ⟨λb ob q _ _ _=>k b ob q,λb ob q _ _ _=>⟨ob.slots,k b ob q⟩,λ_ _ _ n _=>n,λb ob q _=>⟨ob,k b ob q⟩,λ_ _ q=>q,λ_ _ _ q=>q,λ_ ps q=>⟨#[],by rw[q];simp⟩⟩
def Un.refl:Un fs ex H H h h:=Un.kept λ_ _ q=>q
def Un.laid(k:∀b u,h.get? b=some u->h'.get? b=some u)(hp:h.objs.size<=a)(hn:H a=none):Un fs ex H (upd H a o) h h' where
 keep:=λb u q _ _ _=>k b u q
 slot:=λb u q _ _ _=>⟨u.slots,k b u q⟩
 free:=λb u q n _=>by rw[zN (yt (yA (ym q) hp))];exact n
 there:=λb u q _=>⟨u,k b u q⟩
 tups:=λb xs q=>by rw[zN (zI q hn)];exact q
 TF:=λb u xs q=>by rw[zN (zI q hn)];exact q
 TN:=λb ps q=>⟨#[],by rw[zN (zI q hn),q];simp⟩
def Un.write(mu:Mut (H x))(he:e=x\/H e=some (.own x))(k:∀b u,b≠e->h.get? b=some u->h'.get? b=some u)(heo:∃u,h'.get? e=some u):Un fs ex H (upd H x o) h h':=by
 have hx:∀b,H b=none->b≠x:=λb n z=>by subst z;rw[n]at mu;exact mu
 have hb:∀b,H b=none->b≠e:=λb n z=>by
  subst z;rcases he with r|r
  ·exact hx b n r
  ·rw[n]at r;cases r
 have hm:∀b u,H b=some u->¬Mut (some u)->b≠x:=λb u q nm z=>by subst z;rw[q]at mu;exact nm mu
 refine⟨λb u q n _ _=>k b u (hb b n) q,λb u q n _ _=>⟨u.slots,k b u (hb b n) q⟩,λb u q n _=>by rw[zN (hx b n)];exact n,λb u q _=>?_,
  λb xs q=>by rw[zN (hm b _ q λz=>z)];exact q,λb u xs q=>by rw[zN (hm b _ q λz=>z)];exact q,λb ps q=>⟨#[],by rw[zN (hm b _ q λz=>z),q];simp⟩⟩
 by_cases hbe:b=e
 ·subst hbe;exact heo
 ·exact⟨u,k b u hbe q⟩
end
def trk(h:yV)(H:Hp):List yd:=(yv h.objs.size).filter λa=>(H a).isSome
def zNv(h:yV)(H:Hp):yV:=W.hideAll h (trk h H)
def zzs(h:yV)(H:Hp):(zNv h H).objs.size=h.objs.size:=W.hideAll_size _ _
def zDu{h:yV}{H:Hp}{b:yd}{o:YY}(e:h.get? b=some o)(n:H b=none):(zNv h H).get? b=some o :=
 W.hideAll_get _ e λhm=>by
  have q:(H b).isSome=true:=(List.mem_filter.mp hm).2;rw[n]at q;simp at q
def z3x{h:yV}{H:Hp}{b:yd}{o:YY}(e:(zNv h H).get? b=some o):h.get? b=some o/\H b=none:=by
 have e':h.get? b=some o:=W.of_hideAll (trk h H) e;refine⟨e',?_⟩
 cases q:H b with
 |none=>rfl
 |some x=>
  have hm:b∈trk h H:=List.mem_filter.mpr ⟨List.mem_range.mpr (ym e'),by simp[q]⟩;have z:(zNv h H).get? b=none:=W.hideAll_none (trk h H) hm;rw[z]at e;cases e
def znx(g h:yV)(L:yd):List (yd×YY):=(yv h.objs.size).filterMap λa=>if a=L\/(g.get? a).isSome=true then none else(h.get? a).map λo=>(a,o)
def rest(g h:yV)(L d:yd):List (yd×YY):=(znx g h L).filter λp=>decide (p.1≠d)
structure Mod(K:yw)(mg:yy->Option yb)(base:yV):Prop where
 kin:K.In base
 glob:base.Ns yp mg
 blt:∃mb,base.Ns builtinsNs mb/\∀x:yy,x≠"__name__"->mb x=yQ x
 nolimit:base.NoLimit
structure Cx where
 prog:yB
 w:yL
 K:yw
 mg:yy->Option yb
 base:yV
 A:yR
 N:List yy
 s₀:ye
 H₀:Hp
 env:Env
 outer:List Env
 stack:List Env
 ex:List yd
 fn:yy->Bool
 calm:Bool
 pn:List (yd×YY)
 xe:yb->ye->Prop
def frs(l:List Env):List yd:=l.filterMap (·.frame)
abbrev Cx.fs(X:Cx):List yd:=frs X.outer
def Vis(sc:Xv)(x:yy):Prop:=sc.names.lookup x=some .local\/sc.names.lookup x=some .cell\/sc.names.lookup x=some .free
def Loc(sc:Xv)(x:yy):Prop:=sc.names.lookup x=some .local\/sc.names.lookup x=some .cell
def zUB(env:Env)(h:yV)(m:yy->Option yb)(x:yy)(u:yb):Prop :=
 (env.kindOf x=some .local/\m x=some u)\/((env.kindOf x=some .cell\/env.kindOf x=some .free)/\∃c,env.cells.lookup x=some c/\h.IsCell c (some u))
structure Cx.Ok(X:Cx):Prop where
 mod:Mod X.K X.mg X.base
 kind:X.env.scope.kind=.function
 glob:X.env.globals=yp
 blt:X.env.builtins=builtinsNs
 above:X.s₀.heap.objs.size<=X.env.locals
 inj:∀x y c,X.env.cells.lookup x=some c->X.env.cells.lookup y=some c->x=y
 has:∀x,(X.env.kindOf x=some .cell\/X.env.kindOf x=some .free)->∃c,X.env.cells.lookup x=some c
 cab:∀x c,X.fn x=true->X.env.cells.lookup x=some c->X.s₀.heap.objs.size<=c
 hd:X.calm=true->X.A.handled=none
 frames:X.A.frames=some X.stack
 stk:X.stack=X.outer\/(X.stack=X.env::X.outer/\X.env.frame=some X.env.locals)
 exf:∀b∈X.ex,b≠X.env.locals/\∀x c,X.env.cells.lookup x=some c->c≠b
 bs:∀b o,X.base.get? b=some o->X.s₀.heap.get? b=some o/\X.H₀ b=none
 bsz:X.base.objs.size<=X.s₀.heap.objs.size
 SJ:∀b o,X.base.get? b=some o->b∉X.ex
 SM:∀b∈X.ex,b∉X.fs
 sx:X.s₀.heap.FunFrames X.base X.outer
 frf:∀b∈X.fs,X.H₀ b=none
structure Inv(X:Cx)(pins:List (yd×YY))(σ:List (Option V))(H:Hp)(s:ye):Prop where
 ok:X.Ok
 os:s.os=X.s₀.os
 bare:AllBare s.gens
 base:Un X.fs X.ex X.H₀ H X.s₀.heap s.heap
 loc:∃m,s.heap.Ns X.env.locals m/\∀(i:Nat)(x:yy)(v:V),X.N[i]?=some x->σ[i]?=some (some v)->Vis X.env.scope x->∃u,RelV v u/\zUB X.env s.heap m x u
 cell:∀x c,X.env.cells.lookup x=some c->∃v,s.heap.IsCell c v
 free:H X.env.locals=none
 freeC:∀x c,X.env.cells.lookup x=some c->H c=none
 pin:∀p∈X.pn++pins,s.heap.get? p.1=some p.2/\H p.1=none/\p.1≠X.env.locals/\p.1∉X.fs/\∀v,p.2.data≠.cell v
 hok:HOk X.prog X.w H s.heap
 len:σ.length=X.N.length
section
variable {X:Cx}{pins:List (yd×YY)}{σ:List (Option V)}{H H':Hp}{s:ye}{h':yV}
def Cx.Ok.nofr(ok:X.Ok){b:yd}{o:YY}(e:X.base.get? b=some o):b∉X.fs:=λhb=>by
 have:=(ok.sx.mem hb).1;rw[e]at this;cases this
def Inv.bs(I:Inv X pins σ H s):∀b o,X.base.get? b=some o->s.heap.get? b=some o/\H b=none:=λb o e=>
 ⟨I.base.keep b o (I.ok.bs b o e).1 (I.ok.bs b o e).2 (I.ok.nofr e) (I.ok.SJ b o e),I.base.free b o (I.ok.bs b o e).1 (I.ok.bs b o e).2 (I.ok.SJ b o e)⟩
def Inv.bk(I:Inv X pins σ H s):∀b o,X.base.get? b=some o->s.heap.get? b=some o:=λb o e=>(I.bs b o e).1
def Inv.mod(I:Inv X pins σ H s):Mod X.K X.mg X.base:=I.ok.mod
def Inv.kIn(I:Inv X pins σ H s):X.K.In s.heap:=I.ok.mod.kin.keeps I.bk
def Inv.fr(I:Inv X pins σ H s):∃m,Fr X.base X.env.locals s.heap m :=
 let ⟨m,hn,_⟩:=I.loc
 ⟨m,hn,I.bk,yG I.ok.bsz I.ok.above⟩
def Inv.lt(I:Inv X pins σ H s):X.env.locals<s.heap.objs.size:=let ⟨_,hn,_⟩:=I.loc;hn.lt
def Inv.sz(I:Inv X pins σ H s):X.s₀.heap.objs.size<=s.heap.objs.size:=yG I.ok.above (YI I.lt)
def Inv.nofs(I:Inv X pins σ H s){a:yd}(h:s.heap.objs.size<=a):a∉X.fs:=λhb=>by
 obtain⟨_,o,ho,_⟩:=I.ok.sx.mem hb;exact absurd (yA (ym ho) (yG I.sz h)) (Yc _)
def Inv.cne(I:Inv X pins σ H s):∀x c,X.env.cells.lookup x=some c->c≠X.env.locals:=λx c e z=>by
 obtain⟨v,o,ho,hd⟩:=I.cell x c e;obtain⟨m,⟨o',es,ep,ho',hd',_⟩,_⟩:=I.loc;rw[z,ho']at ho;cases ho;rw[hd']at hd;cases hd
def Inv.sx(I:Inv X pins σ H s):s.heap.FunFrames X.base X.outer:=by
 have all:∀(l:List Env),(∀b∈frs l,b∈X.fs)->X.s₀.heap.FunFrames X.base l->s.heap.FunFrames X.base l:=by
  intro l
  induction l with
  |nil=>intro _ _;trivial
  |cons env r ih=>
   intro hs hl;obtain⟨hk,⟨L,o,hf,hn,ho,hd⟩,hr⟩:=hl;have hL:L∈X.fs:=hs L (by unfold frs;rw[filterMap_cons,hf];exact mem_cons_self);obtain⟨sl,e⟩:=I.base.slot L o ho (I.ok.frf L hL) hL λz=>I.ok.SM L z hL;exact⟨hk,⟨L,_,hf,hn,e,hd⟩,ih (λb hb=>hs b (by unfold frs;rw[filterMap_cons,hf];exact mem_cons_of_mem _ hb)) hr⟩
 exact all X.outer (λ_ hb=>hb) I.ok.sx
def Inv.stack(I:Inv X pins σ H s):s.heap.FunFrames X.base X.stack:=by
 rcases I.ok.stk with e|⟨e,hf⟩
 ·rw[e];exact I.sx
 ·rw[e];obtain⟨m,hn,_⟩:=I.loc;refine .cons (by rw[I.ok.kind];decide) hf hn ?_ I.sx;exact Heap.get?_none_of_le (yG I.ok.bsz I.ok.above)
def Inv.Sa(I:Inv X pins σ H s):∀b∈frs X.stack,b∈X.env.locals::X.fs:=λb hb=>by
 rcases I.ok.stk with e|⟨e,hf⟩
 ·rw[e]at hb;exact mem_cons_of_mem _ hb
 ·rw[e]at hb;unfold frs at hb;rw[filterMap_cons,hf]at hb;exact hb
def Inv.TH(I:Inv X pins σ H s):∀b∈frs X.stack,H b=none:=λb hb=>by
 rcases List.mem_cons.mp (I.Sa b hb) with e|hb
 ·rw[e];exact I.free
 ·obtain⟨_,o,ho,_⟩:=I.ok.sx.mem hb;exact I.base.free b o ho (I.ok.frf b hb) λz=>I.ok.SM b z hb
def Inv.step{g':Array GenState}{t':Nat}{d':Drawn}{ch:List yd}(I:Inv X pins σ H s)
 (hch:∀b∈ch,(b∈X.ex\/X.s₀.heap.objs.size<=b)/\b≠X.env.locals/\(∀x c,X.env.cells.lookup x=some c->c≠b)/\∀p∈X.pn++pins,p.1≠b)
 (keep:∀b o,b≠X.env.locals->b∉X.fs->b∉ch->s.heap.get? b=some o->H b=none->h'.get? b=some o)
 (slot:∀b o,b≠X.env.locals->b∈X.fs->b∉ch->s.heap.get? b=some o->H b=none->∃sl,h'.get? b=some {o with slots:=sl }) (free:∀b o,b∉ch->s.heap.get? b=some o->H b=none->H' b=none)
 (there:∀b o,b∉ch->s.heap.get? b=some o->∃o',h'.get? b=some o')
 (tups:∀b xs,H b=some (.tup xs)->H' b=some (.tup xs)) (TF:∀b o u,H b=some (.frz o u)->H' b=some (.frz o u)) (TN:∀b ps,H b=some (.tbl ps)->∃more,H' b=some (.tbl (ps++more)))
 (ns:∀m,s.heap.Ns X.env.locals m->h'.Ns X.env.locals m) (hok:HOk X.prog X.w H' h') (hg:AllBare g') :
 Inv X pins σ H' {s with heap:=h',gens:=g',drawn:=d',toks:=t' }:=by
 have neL:∀b o,X.s₀.heap.get? b=some o->b≠X.env.locals:=λb o e=>yt (yA (ym e) I.ok.above)
 have neC:∀b o,X.s₀.heap.get? b=some o->b∉X.ex->b∉ch:=λb o e hx hb=>by
  rcases(hch b hb).1 with z|z
  ·exact hx z
  ·exact absurd (yA (ym e) z) (Yc _)
 have cellK:∀x c,X.env.cells.lookup x=some c->∀v,s.heap.IsCell c v->h'.IsCell c v:=λx c e v ⟨o,ho,hd⟩=>by
  have nch:c∉ch:=λz=>(hch c z).2.2.1 x c e rfl
  by_cases hc:c∈X.fs
  ·obtain⟨sl,q⟩:=slot c o (I.cne x c e) hc nch ho (I.freeC x c e);exact⟨_,q,hd⟩
  ·exact⟨o,keep c o (I.cne x c e) hc nch ho (I.freeC x c e),hd⟩
 refine⟨I.ok,I.os,hg,⟨λb o e n hb hx=>?_,λb o e n hb hx=>?_,λb o e n hx=>?_,λb o e hx=>?_,λb xs e=>tups b xs (I.base.tups b xs e),λb o xs e=>TF b o xs (I.base.TF b o xs e),λb ps e=>?_⟩,?_,λx c e=>?_,?_,λx c e=>?_,λp hp=>?_,hok,I.len⟩
 ·exact keep b o (neL b o e) hb (neC b o e hx) (I.base.keep b o e n hb hx) (I.base.free b o e n hx)
 ·obtain⟨sl,e1⟩:=I.base.slot b o e n hb hx;obtain⟨sl',e2⟩:=slot b _ (neL b o e) hb (neC b o e hx) e1 (I.base.free b o e n hx);exact⟨sl',e2⟩
 ·obtain⟨o',e1⟩:=I.base.there b o e hx;exact free b o' (neC b o e hx) e1 (I.base.free b o e n hx)
 ·obtain⟨o',e1⟩:=I.base.there b o e hx;exact there b o' (neC b o e hx) e1
 ·obtain⟨m1,e1⟩:=I.base.TN b ps e;obtain⟨m2,e2⟩:=TN b _ e1;exact⟨m1++m2,by rw[e2,Array.append_assoc]⟩
 ·obtain⟨m,hn,hl⟩:=I.loc;refine⟨m,ns m hn,λi x v e1 e2 e3=>?_⟩;obtain⟨u,r,l⟩:=hl i x v e1 e2 e3;refine⟨u,r,?_⟩;rcases l with l|⟨k,c,e,z⟩
  ·exact .inl l
  ·exact .inr ⟨k,c,e,cellK x c e _ z⟩
 ·obtain⟨v,z⟩:=I.cell x c e;exact⟨v,cellK x c e v z⟩
 ·obtain⟨m,⟨o,_,_,ho,_⟩,_⟩:=I.loc;exact free _ o (λz=>(hch _ z).2.1 rfl) ho I.free
 ·obtain⟨v,o,ho,hd⟩:=I.cell x c e;exact free c o (λz=>(hch c z).2.2.1 x c e rfl) ho (I.freeC x c e)
 ·obtain⟨e,n,ne,nf,d⟩:=I.pin p hp;have nch:p.1∉ch:=λz=>(hch p.1 z).2.2.2 p hp rfl;exact⟨keep p.1 p.2 ne nf nch e n,free p.1 p.2 nch e n,ne,nf,d⟩
def Inv.un{t':Nat}(I:Inv X pins σ H s)(u:Un X.fs [] H H' s.heap h')(hok:HOk X.prog X.w H' h'):Inv X pins σ H' {s with heap:=h',toks:=t' }:=by
 obtain⟨m,⟨o,es,ep,ho,r⟩,_⟩:=id I.loc;obtain⟨sl,hL⟩:=u.any ho I.free (by simp)
 exact I.step (g':=s.gens) (d':=s.drawn) (ch:=[]) (λ_ z=>nomatch z) (λb o _ hb _ e n=>u.keep b o e n hb (by simp)) (λb o _ hb _ e n=>u.slot b o e n hb (by simp)) (λb o _ e n=>u.free b o e n (by simp)) (λb o _ e=>u.there b o e (by simp)) u.tups u.TF u.TN (λm' hm=>by
  obtain⟨o',es',ep',ho',r'⟩:=hm;rw[ho]at ho';cases ho';exact⟨_,es',ep',hL,r'⟩) hok I.bare
def Inv.call{g':Array GenState}{t':Nat}{d':Drawn}{ch:List yd}(I:Inv X pins σ H s)(u:Un (frs X.stack) ch H H' s.heap h')(hok:HOk X.prog X.w H' h')(hg:AllBare g')
 (hch:∀b∈ch,(b∈X.ex\/X.s₀.heap.objs.size<=b)/\b≠X.env.locals/\(∀x c,X.env.cells.lookup x=some c->c≠b)/\∀p∈X.pn++pins,p.1≠b) :
 Inv X pins σ H' {s with heap:=h',gens:=g',drawn:=d',toks:=t' }:=by
 obtain⟨m,⟨o,es,ep,ho,r⟩,_⟩:=id I.loc;obtain⟨sl,hL⟩:=u.any ho I.free λz=>(hch _ z).2.1 rfl
 exact I.step (ch:=ch) hch (λb o hL hb hc e n=>u.keep b o e n (λz=>(List.mem_cons.mp (I.Sa b z)).elim hL hb) hc) (λb o _ _ hc e n=>u.any e n hc) (λb o hc e n=>u.free b o e n hc) (λb o hc e=>u.there b o e hc) u.tups u.TF u.TN (λm' hm=>by
  obtain⟨o',es',ep',ho',r'⟩:=hm;rw[ho]at ho';cases ho';exact⟨_,es',ep',hL,r'⟩) hok hg
def Inv.turned{t':Nat}{it:yd}(I:Inv X pins σ H s)(k:∀b o,b≠it->s.heap.get? b=some o->h'.get? b=some o)(hn:H it=none)(hL:it≠X.env.locals)
 (h1:it∈X.ex\/X.s₀.heap.objs.size<=it) (h2:∀x c,X.env.cells.lookup x=some c->c≠it) (h3:∀p∈X.pn++pins,p.1≠it):Inv X pins σ H {s with heap:=h',toks:=t' }:=by
 have nit:∀b u,H b=some u->b≠it:=λb u e z=>by rw[z,hn]at e;cases e
 refine I.step (g':=s.gens) (d':=s.drawn) (ch:=[it]) (λb hb=>?_) (λb o _ _ hc e _=>k b o (λz=>hc (by simp[z])) e) (λb o _ _ hc e _=>⟨o.slots,k b o (λz=>hc (by simp[z])) e⟩) (λ_ _ _ _ n=>n)
  (λb o hc e=>⟨o,k b o (λz=>hc (by simp[z])) e⟩) (λ_ _ e=>e) (λ_ _ _ e=>e) (λb ps e=>⟨#[],by rw[e];simp⟩) (λm hm=>?_) (λb u e=>?_) I.bare
 ·have e:b=it:=by simpa using hb
  subst e;exact⟨h1,hL,h2,h3⟩
 ·obtain⟨o,es,ep,ho,r⟩:=hm;exact⟨o,es,ep,k _ o (yH hL) ho,r⟩
 ·refine(I.hok b u e).stay (λc v hc q=>k c v ?_ q) (λ_ q=>q) λ_ _ q=>q;rcases hc with z|z
  ·rw[z];exact nit b u e
  ·exact nit c _ z
def Inv.tok(I:Inv X pins σ H s)(t:Nat):Inv X pins σ H {s with toks:=t }:=I.un (h':=s.heap) (t':=t) Un.refl I.hok
def Inv.kept{t':Nat}(I:Inv X pins σ H s)(k:∀b u,s.heap.get? b=some u->h'.get? b=some u):Inv X pins σ H {s with heap:=h',toks:=t' }:=I.un (Un.kept k) (I.hok.kept k)
def Inv.laid{a:yd}{o:HO}{t':Nat}(I:Inv X pins σ H s)(k:∀b u,s.heap.get? b=some u->h'.get? b=some u)(hp:s.heap.objs.size<=a)(new:tG X.prog X.w (upd H a o) h' a o) :
 Inv X pins σ (upd H a o) {s with heap:=h',toks:=t' }:=I.un (Un.laid k hp (I.hok.fresh hp)) (I.hok.laid k hp new)
def Inv.write{x e:yd}{o:HO}{t':Nat}(I:Inv X pins σ H s)(mu:Mut (H x))(he:e=x\/H e=some (.own x))(k:∀b u,b≠e->s.heap.get? b=some u->h'.get? b=some u)(heo:∃u,h'.get? e=some u)
 (new:tG X.prog X.w (upd H x o) h' x o):Inv X pins σ (upd H x o) {s with heap:=h',toks:=t' }:=I.un (Un.write mu he k heo) (I.hok.write mu he k heo new)
def Inv.weak{σ':List (Option V)}(I:Inv X pins σ H s)(hl:σ'.length=σ.length)(w:∀(i:Nat) v,σ'[i]?=some (some v)->σ[i]?=some (some v)):Inv X pins σ' H s :=
 ⟨I.ok,I.os,I.bare,I.base,let ⟨m,hn,hl'⟩:=I.loc;⟨m,hn,λi x v e1 e2 e3=>hl' i x v e1 (w i v e2) e3⟩,I.cell,I.free,I.freeC,I.pin,I.hok,hl.trans I.len⟩
def Inv.Sb{pins':List (yd×YY)}(I:Inv X pins σ H s)(h:∀p∈pins',s.heap.get? p.1=some p.2/\H p.1=none/\p.1≠X.env.locals/\p.1∉X.fs/\∀v,p.2.data≠.cell v):Inv X pins' σ H s :=
 ⟨I.ok,I.os,I.bare,I.base,I.loc,I.cell,I.free,I.freeC,λp hp=>(List.mem_append.mp hp).elim (λz=>I.pin p (mem_append_left _ z)) (h p),I.hok,I.len⟩
def z0m{N:List yy}(hN:N.Nodup){i j:Nat}{x:yy}(a:N[i]?=some x)(b:N[j]?=some x):i=j:=by
 obtain⟨h1,e1⟩:=List.getElem?_eq_some_iff.mp a;obtain⟨h2,e2⟩:=List.getElem?_eq_some_iff.mp b;exact(List.getElem_inj hN).mp (e1.trans e2.symm)
def zro{M:Model}{A:yR}{E:yb->ye->Prop}{i:Nat}{x:yy}{v:V}{u:yb}{Q:Unit->ye->Prop}(I:Inv X pins σ H s)(hN:X.N.Nodup)(hi:X.N[i]?=some x)(hx:Loc X.env.scope x)(r:RelV v u)
 (h:∀s',Inv X pins (σ.set i (some v)) H s'->(∃a,yN a s.heap s'.heap/\(a=X.env.locals\/X.env.cells.lookup x=some a))->Q () s') (hf:X.fn x=true\/X.env.scope.names.lookup x=some .local:=by first|exact .inl rfl|exact .inr rfl|assumption):yo M A (storeName X.env x u) Q E s:=by
 obtain⟨m,hn,hl⟩:=id I.loc;have hcls:(X.env.scope.kind == .class||(X.env.scope.kind == .module&&X.env.locals != X.env.globals))=false:=by rw[I.ok.kind];rfl
 have hiσ:i<σ.length:=by rw[I.len];exact(List.getElem?_eq_some_iff.mp hi).1
 have cne:=I.cne
 have tracked:∀{a:yd} {h':yV},(∃o,s.heap.get? a=some o/\H a=none)->yN a s.heap h'->HOk X.prog X.w H h':=λ{a h'} ha hs b ob e=>by
  obtain⟨_,_,hfree⟩:=ha;refine(I.hok b ob e).stay (λc w' hc q=>(hs.2 c ?_).trans q) (λ_ q=>q) λ_ _ q=>q;rintro rfl;rcases hc with rfl|hc
  ·rw[hfree]at e;cases e
  ·rw[hfree]at hc;cases hc
 rcases hx with hk|hk
 ·refine wpAny_storeName_local hk hn (λh' hn' hs=>?_) hcls;obtain⟨oL,_,_,hoL,_⟩:=id hn;refine h _ ⟨I.ok,I.os,I.bare,⟨λb o e n hb hx=>?_,λb o e n hb hx=>?_,I.base.free,λb o e hx=>?_,I.base.tups,I.base.TF,I.base.TN⟩,⟨_,hn',λj y v' e1 e2 e3=>?_⟩,λy c e=>?_,I.free,I.freeC,λp hp=>?_,tracked ⟨oL,hoL,I.free⟩ hs,by simpa using I.len⟩ ⟨_,hs,.inl rfl⟩
  ·exact(hs.2 b (yt (yA (ym e) I.ok.above))).trans (I.base.keep b o e n hb hx)
  ·obtain⟨sl,e1⟩:=I.base.slot b o e n hb hx;exact⟨sl,(hs.2 b (yt (yA (ym e) I.ok.above))).trans e1⟩
  ·obtain⟨o',e1⟩:=I.base.there b o e hx;exact⟨o',(hs.2 b (yt (yA (ym e) I.ok.above))).trans e1⟩
  ·by_cases hj:j=i
   ·subst hj;rw[hi]at e1;cases e1;rw[yI hiσ]at e2;cases e2;exact⟨u,r,.inl ⟨hk,by simp⟩⟩
   ·rw[yK (yH hj)]at e2;obtain⟨u',r',q⟩:=hl j y v' e1 e2 e3;refine⟨u',r',?_⟩;rcases q with ⟨k,e⟩|⟨k,c,e,z⟩
    ·refine .inl ⟨k,?_⟩;have:y≠x:=λe=>hj (z0m hN e1 (e▸hi));simp[this,e]
    ·exact .inr ⟨k,c,e,z.sameBut hs (cne y c e)⟩
  ·obtain⟨w',z⟩:=I.cell y c e;exact⟨w',z.sameBut hs (cne y c e)⟩
  ·obtain⟨e,n,ne,nf,d⟩:=I.pin p hp;exact⟨(hs.2 p.1 ne).trans e,n,ne,nf,d⟩
 ·have hfn:X.fn x=true:=by
   rcases hf with z|z
   ·exact z
   ·rw[z]at hk;cases hk
  obtain⟨c,hc⟩:=I.ok.has x (.inl hk);obtain⟨w',z⟩:=I.cell x c hc;refine wpAny_storeName_cell I.ok.kind hk hc z (λh' hc' hs=>?_);obtain⟨oc,hoc,hocd⟩:=id z;refine h {s with heap:=h' } ⟨I.ok,I.os,I.bare,⟨λb o e n hb hx=>?_,λb o e n hb hx=>?_,I.base.free,λb o e hx=>?_,I.base.tups,I.base.TF,I.base.TN⟩,⟨m,hn.sameBut hs (yH (cne x c hc)),λj y v' e1 e2 e3=>?_⟩,λy c' e=>?_,I.free,I.freeC,λp hp=>?_,tracked ⟨oc,hoc,I.freeC x c hc⟩ hs,by simpa using I.len⟩ ⟨c,hs,.inr hc⟩
  ·exact(hs.2 b (yt (yA (ym e) (I.ok.cab x c hfn hc)))).trans (I.base.keep b o e n hb hx)
  ·obtain⟨sl,e1⟩:=I.base.slot b o e n hb hx;exact⟨sl,(hs.2 b (yt (yA (ym e) (I.ok.cab x c hfn hc)))).trans e1⟩
  ·obtain⟨o',e1⟩:=I.base.there b o e hx;exact⟨o',(hs.2 b (yt (yA (ym e) (I.ok.cab x c hfn hc)))).trans e1⟩
  ·by_cases hj:j=i
   ·subst hj;rw[hi]at e1;cases e1;rw[yI hiσ]at e2;cases e2;exact⟨u,r,.inr ⟨.inl hk,c,hc,hc'⟩⟩
   ·rw[yK (yH hj)]at e2;obtain⟨u',r',q⟩:=hl j y v' e1 e2 e3;refine⟨u',r',?_⟩;rcases q with q|⟨k,c',e,z'⟩
    ·exact .inl q
    ·refine .inr ⟨k,c',e,z'.sameBut hs ?_⟩;rintro rfl;exact hj (z0m hN e1 (I.ok.inj _ _ _ e hc▸hi))
  ·by_cases hcc:c'=c
   ·subst hcc;exact⟨_,hc'⟩
   ·obtain⟨w2,z2⟩:=I.cell y c' e;exact⟨w2,z2.sameBut hs hcc⟩
  ·obtain⟨e,n,ne,nf,d⟩:=I.pin p hp;refine⟨(hs.2 p.1 ?_).trans e,n,ne,nf,d⟩;intro q;rw[q,hoc]at e;have q':oc=p.2:=Yj e;exact d w' (by rw[<-q'];exact hocd)
def zCj{M:Model}{A:yR}{E:yb->ye->Prop}{i:Nat}{x:yy}{v:V}{u:yb}{Q:Unit->ye->Prop}(I:Inv X pins σ H s)(hN:X.N.Nodup)(hi:X.N[i]?=some x)(hx:Loc X.env.scope x)(r:RelV v u)
 (h:∀s',Inv X pins (σ.set i (some v)) H s'->Q () s') (hf:X.fn x=true\/X.env.scope.names.lookup x=some .local:=by first|exact .inl rfl|exact .inr rfl|assumption):yo M A (storeName X.env x u) Q E s :=
 zro I hN hi hx r (λs' I' _=>h s' I') hf
def Inv.SC{s':ye}{ch:List yd}(I:Inv X pins σ H s)(ho:s'.os=s.os)(u:Un (frs X.stack) ch H H' s.heap s'.heap)(hok:HOk X.prog X.w H' s'.heap)(hg:AllBare s'.gens)
 (hch:∀b∈ch,(b∈X.ex\/X.s₀.heap.objs.size<=b)/\b≠X.env.locals/\(∀x c,X.env.cells.lookup x=some c->c≠b)/\∀p∈X.pn++pins,p.1≠b):Inv X pins σ H' s':=by
 obtain⟨h',g',d',t',o'⟩:=s';have e:o'=s.os:=ho;subst e;exact I.call (g':=g') (t':=t') (d':=d') u hok hg hch
end
abbrev XK:=yb->Option yd->Hp->Prop
abbrev St:=List (Option V)
abbrev VK:=V->Hp->Prop
abbrev TE:=St->Hp->VK->Prop
abbrev TT:=St->Hp->(Bool->Hp->Prop)->Prop
abbrev TA:=St->Hp->(List V->Hp->Prop)->Prop
structure Ends where
 nx:St->Hp->Prop
 rt:VK
 bk:St->Hp->Prop:=λ_ _=>False
 ct:St->Hp->Prop:=λ_ _=>False
abbrev TS:=Ends->St->Hp->Prop
def EP(X:Cx)(pins:List (yd×YY))(σ:St)(Q:VK)(u:yb)(s':ye):Prop:=∃v H',Inv X pins σ H' s'/\RelV v u/\Q v H'
def TP(X:Cx)(pins:List (yd×YY))(σ:St)(Q:Bool->Hp->Prop)(b:Bool)(s':ye):Prop:=∃H',Inv X pins σ H' s'/\Q b H'
def AP(X:Cx)(pins:List (yd×YY))(σ:St)(Q:List V->Hp->Prop)(us:List yb)(s':ye):Prop:=∃vs H',Inv X pins σ H' s'/\Vals vs us/\Q vs H'
def SP(X:Cx)(pins:List (yd×YY))(D:Ends)(f:Flow)(s':ye):Prop :=
 match f with
 |.next=>∃σ' H',Inv X pins σ' H' s'/\D.nx σ' H'
 |.brk=>∃σ' H',Inv X pins σ' H' s'/\D.bk σ' H'
 |.cont=>∃σ' H',Inv X pins σ' H' s'/\D.ct σ' H'
 |.ret u=>∃v σ' H',Inv X pins σ' H' s'/\RelV v u/\D.rt v H'
def PE(X:Cx)(e:yF)(t:TE):Prop :=
 ∀(pins:List (yd×YY)) (s:ye) (σ:St) (H:Hp) (Q:VK),Inv X pins σ H s->t σ H Q->yo (yx X.prog X.w) X.A (Yh e X.env) (EP X pins σ Q) X.xe s
def PT(X:Cx)(e:yF)(t:TT):Prop :=
 ∀(pins:List (yd×YY)) (s:ye) (σ:St) (H:Hp) (Q:Bool->Hp->Prop),Inv X pins σ H s->t σ H Q->yo (yx X.prog X.w) X.A (isTrue e X.env (Yh e X.env)) (TP X pins σ Q) X.xe s
def PW(X:Cx)(e:yF)(t:TT):Prop :=
 ∀(whole:Sem yb)(pins:List (yd×YY)) (s:ye) (σ:St) (H:Hp) (Q:Bool->Hp->Prop),Inv X pins σ H s->t σ H Q->yo (yx X.prog X.w) X.A (isTrue e X.env whole) (TP X pins σ Q) X.xe s
def PA(X:Cx)(es:List yF)(t:TA):Prop :=
 ∀(pos:xC)(pins:List (yd×YY)) (s:ye) (σ:St) (H:Hp) (Q:List V->Hp->Prop),Inv X pins σ H s->t σ H Q->yo (yx X.prog X.w) X.A (spliced (Yo pos (yj es X.env))) (AP X pins σ Q) X.xe s
def PS(X:Cx)(st:Yi)(t:TS):Prop :=
 ∀(pins:List (yd×YY)) (s:ye) (σ:St) (H:Hp) (D:Ends),Inv X pins σ H s->t D σ H->yo (yx X.prog X.w) X.A (exec st X.env) (SP X pins D) X.xe s
def PSs(X:Cx)(st:List Yi)(t:TS):Prop :=
 ∀(pins:List (yd×YY)) (s:ye) (σ:St) (H:Hp) (D:Ends),Inv X pins σ H s->t D σ H->yo (yx X.prog X.w) X.A (execs st X.env) (SP X pins D) X.xe s
def thn{α:Type}{t:Sem α}{Q Q':α->ye->Prop}{M:Model}{A:yR}{E:yb->ye->Prop}{s:ye}(h:yo M A t Q E s)(hQ:∀a s,Q a s->Q' a s):yo M A t Q' E s:=Yb h hQ λ_ _ x=>x
section
variable {X:Cx}
def zrA(i:Nat):TE:=λσ H Q=>∃v,σ[i]?=some (some v)/\Q v H
def tC(v:V):TE:=λ_ H Q=>Q v H
def ztw{i:Nat}{x:yy}{pos:xC}(hN:X.N[i]?=some x)(hv:Vis X.env.scope x)(hd:(x==("__debug__":yy))=false:=by decide)(hcd:(x==("__classdict__":yy))=false:=by decide):PE X (.Name x pos) (zrA i):=by
 intro pins s σ H Q I h;obtain⟨v,e,h⟩:=h;obtain⟨m,hn,hl⟩:=I.loc;obtain⟨u,r,l⟩:=hl i x v hN e hv;have fin:EP X pins σ Q u s:=⟨v,H,I,r,h⟩
 rcases l with ⟨hk,hm⟩|⟨hk,c,hc,hcell⟩
 ·exact wpAny_Name (wpAny_loadName_local I.ok.kind hk hn hm fin) hd
 ·rcases hk with hk|hk
  ·exact wpAny_Name (wpAny_loadName_cell I.ok.kind hk hc hcell fin) hd
  ·exact wpAny_Name (wpAny_loadName_free I.ok.kind hk hc hcell fin hcd) hd
def zyy{i j pos}:PE X (.Constant (.int i) j pos) (tC (.int i)):=λ_ _ _ H _ I h=>wpAny_Constant_int ⟨.int i,H,I.tok _,⟨_,rfl⟩,h⟩
def zlA{b j pos}:PE X (.Constant (.bool b) j pos) (tC (.bl b)):=λ_ _ _ H _ I h=>Constant_bool ⟨.bl b,H,I,rfl,h⟩
def zGz{j pos}:PE X (.Constant .none j pos) (tC .non):=λ_ _ _ H _ I h=>Constant_none ⟨.non,H,I,rfl,h⟩
def zHz{x j pos}:PE X (.Constant (.str x) j pos) (tC (.str x)):=λ_ _ _ H _ I h=>Calls.Constant_str ⟨.str x,H,I.tok _,⟨_,rfl⟩,h⟩
def Gl(X:Cx)(x:yy):Prop:=X.env.kindOf x=some .globalImplicit
def z6f{E:yb->ye->Prop}{pins:List (yd×YY)}{s:ye}{σ:St}{H:Hp}{x:yy}{u:yb}{pos:xC}{Q:yb->ye->Prop}(I:Inv X pins σ H s)(hg:Gl X x)(hm:X.mg x=some u)(h:Q u s)
 (hd:(x==("__debug__":yy))=false:=by decide):yo (yx X.prog X.w) X.A (Yh (.Name x pos) X.env) Q E s :=
 Calls.Name_function_global I.ok.kind hg (Calls.loadGlobal_global (by rw[I.ok.glob];exact I.mod.glob.keeps I.bk) hm h) hd
def ztk{E:yb->ye->Prop}{pins:List (yd×YY)}{s:ye}{σ:St}{H:Hp}{x:yy}{u:yb}{pos:xC}{Q:yb->ye->Prop}(I:Inv X pins σ H s)(hg:Gl X x)(hm:X.mg x=none)(hv:yQ x=some u)(h:Q u s)
 (hn:x≠"__name__":=by decide) (hd:(x==("__debug__":yy))=false:=by decide):yo (yx X.prog X.w) X.A (Yh (.Name x pos) X.env) Q E s:=by
 obtain⟨mb,h1,h2⟩:=I.mod.blt;exact Calls.Name_function_global I.ok.kind hg (Calls.loadGlobal_builtin (by rw[I.ok.glob];exact I.mod.glob.keeps I.bk) hm (by rw[I.ok.blt];exact h1.keeps I.bk) ((h2 x hn).trans hv) h) hd
def zpx{x:yy}{v:V}{u:yb}{pos:xC}(hg:Gl X x)(hm:X.mg x=some u)(r:RelV v u)(hd:(x==("__debug__":yy))=false:=by decide):PE X (.Name x pos) (tC v) :=
 λ_ _ _ H _ I h=>z6f I hg hm ⟨v,H,I,r,h⟩ hd
variable {a b:yF}{ta tb:TE}{pos:xC}
def Si(b:yF){op:CmpOp}(h:op≠.In)(h2:op≠.NotIn):behindInMarks op b=false:=by
 have e1:(op==CmpOp.In)=false:=by cases op<;>first|rfl|exact absurd rfl h
 have e2:(op==CmpOp.NotIn)=false:=by cases op<;>first|rfl|exact absurd rfl h2
 cases b<;>simp[behindInMarks,e1,e2]
def tB(t:TE):TT:=λσ H Q=>t σ H λx H1=>∃c,x=.bl c/\Q c H1
def zFy{e:yF}{t:TE}(h:PE X e t)(he:∀whole,isTrue e X.env whole=(do let v <-whole;standAt e.pos;xT [v] (truthy v)):=by intro _;rfl):PT X e (tB t):=by
 intro pins s σ H Q I hw;refine isTrue_plain (thn (h pins s σ H _ I hw) λv s1 ⟨x,H1,I1,r1,q1⟩=>?_) (he _);obtain⟨d,rfl,q⟩:=q1;cases r1;exact xv ⟨H1,I1,q⟩
variable {tA tB':TT}{rest:List yF}
def ztB(t u:TT):TT:=λσ H Q=>t σ H λc H1=>if c=true then u σ H1 Q else Q false H1
def tOr(t u:TT):TT:=λσ H Q=>t σ H λc H1=>if c=true then Q true H1 else u σ H1 Q
def zQB(t:TT):TT:=λσ H Q=>t σ H λc H1=>Q (!c) H1
def zjy(ha:PT X a tA):PW X (.BoolOp .And [a] pos) tA:=by
 intro wh pins s σ H Q I h;refine isTrue_and (thn (ha pins s σ H Q I h) λc s1 e=>?_)
 cases c with
 |true=>exact isTrue_and_nil e
 |false=>exact e
def zJz(ha:PT X a tA):PW X (.BoolOp .Or [a] pos) tA:=by
 intro wh pins s σ H Q I h;refine isTrue_or (thn (ha pins s σ H Q I h) λc s1 e=>?_)
 cases c with
 |false=>exact isTrue_or_nil e
 |true=>exact e
def z1z(ha:PT X a tA)(hb:PW X (.BoolOp .And (b::rest) pos) tB'):PW X (.BoolOp .And (a::b::rest) pos) (ztB tA tB'):=by
 intro wh pins s σ H Q I h;refine isTrue_and (thn (ha pins s σ H _ I h) λc s1 ⟨H1,I1,q1⟩=>?_)
 cases c with
 |true=>exact hb wh pins s1 σ H1 Q I1 q1
 |false=>exact⟨H1,I1,q1⟩
def z7A(ha:PT X a tA)(hb:PW X (.BoolOp .Or (b::rest) pos) tB'):PW X (.BoolOp .Or (a::b::rest) pos) (tOr tA tB'):=by
 intro wh pins s σ H Q I h;refine isTrue_or (thn (ha pins s σ H _ I h) λc s1 ⟨H1,I1,q1⟩=>?_)
 cases c with
 |true=>exact⟨H1,I1,q1⟩
 |false=>exact hb wh pins s1 σ H1 Q I1 q1
def zUy(ha:PT X a tA):PT X (.UnaryOp .Not a pos) (zQB tA):=by
 intro pins s σ H Q I h;exact isTrue_not (ha pins s σ H (λc H1=>Q (!c) H1) I h)
def z4A(ta tb:TE):TE:=λσ H Q=>ta σ H λx H1=>∃c,x=.bl c/\if c=true then tb σ H1 Q else Q (.bl false) H1
def zFB(ta tb:TE):TE:=λσ H Q=>ta σ H λx H1=>∃c,x=.bl c/\if c=true then Q (.bl true) H1 else tb σ H1 Q
def zuA(ta:TE):TE:=λσ H Q=>ta σ H λx H1=>∃c,x=.bl c/\Q (.bl (!c)) H1
def z3y{op}{t:TE}(h:PE X a t):PE X (.BoolOp op [a] pos) t:=λpins s σ H Q I hw=>BoolOp_one (h pins s σ H Q I hw)
def zAy(ha:PE X a ta)(hb:PE X (.BoolOp .And (b::rest) pos) tb):PE X (.BoolOp .And (a::b::rest) pos) (z4A ta tb):=by
 intro pins s σ H Q I h;refine BoolOp_and (thn (ha pins s σ H _ I h) λv s1 ⟨x,H1,I1,r1,q1⟩=>?_);obtain⟨c,rfl,q1⟩:=q1;cases r1;refine xv ?_
 cases c with
 |true=>exact hb pins s1 σ H1 Q I1 q1
 |false=>exact⟨.bl false,H1,I1,rfl,q1⟩
def zzA(ha:PE X a ta)(hb:PE X (.BoolOp .Or (b::rest) pos) tb):PE X (.BoolOp .Or (a::b::rest) pos) (zFB ta tb):=by
 intro pins s σ H Q I h;refine BoolOp_or (thn (ha pins s σ H _ I h) λv s1 ⟨x,H1,I1,r1,q1⟩=>?_);obtain⟨c,rfl,q1⟩:=q1;cases r1;refine xv ?_
 cases c with
 |false=>exact hb pins s1 σ H1 Q I1 q1
 |true=>exact⟨.bl true,H1,I1,rfl,q1⟩
def zpz(ha:PE X a ta):PE X (.UnaryOp .Not a pos) (zuA ta):=by
 intro pins s σ H Q I h;refine UnaryOp_ (thn (ha pins s σ H _ I h) λv s1 ⟨x,H1,I1,r1,q1⟩=>?_);obtain⟨c,rfl,q1⟩:=q1;cases r1;exact not_of (xv ⟨.bl (!c),H1,I1,rfl,q1⟩)
end
def SqL(K:yw)(H:Hp)(a:yd)(xs:List V):Prop :=
 Rd H a (.lst xs) \/
  ∃(o:YY)(its:Array yb)(n:Nat),K.lookup a=some o/\o.cls=.type "list"/\o.dict=none/\o.data=.seq its n/\its.size<=yE/\Vals xs its.toList
def SqT(K:yw)(H:Hp)(a:yd)(xs:List V):Prop :=
 Rd H a (.tup xs) \/
  ∃(o:YY)(its:Array yb)(n:Nat),K.lookup a=some o/\o.cls=.type "tuple"/\o.data=.seq its n/\its.size<=yE/\Vals xs its.toList
def zDB:yb->Option V
 |.none=>some .non
 |.bool b=>some (.bl b)
 |.int i _=>some (.int i)
 |.str x _=>some (.str x)
 |.bytes b _=>some (.byt b)
 |.float b _=>some (.flt b)
 |.ref a=>some (.ref a)
 |.type n=>some (.ty n)
 |_=>none
def RelV.abs{x:V}{u:yb}(r:RelV x u):zDB u=some x:=by
 cases x with
 |non=>cases r;rfl
 |bl _=>cases r;rfl
 |int _=>obtain⟨t,rfl⟩:=r;rfl
 |str _=>obtain⟨t,rfl⟩:=r;rfl
 |byt _=>obtain⟨t,rfl⟩:=r;rfl
 |flt _=>obtain⟨t,rfl⟩:=r;rfl
 |ref _=>cases r;rfl
 |ty _=>cases r;rfl
def RelV.inj{x y:V}{u:yb}(r:RelV x u)(q:RelV y u):x=y:=Yj (r.abs.symm.trans q.abs)
def Vals.inj{xs ys:List V}{us:List yb}(h:Vals xs us):Vals ys us->xs=ys:=by
 induction h generalizing ys with
 |nil=>intro h;cases h;rfl
 |cons r _ ih=>
  intro h
  cases h with
  |cons r' t'=>rw[r.inj r',ih t']
section
variable {X:Cx}{pins:List (yd×YY)}{σ:St}{H:Hp}{s:ye}{a:yd}{xs ys:List V}
def SqL.of{K:yw}(h:H a=some (.lst xs)):SqL K H a xs:=.inl (.inl h)
def SqT.of{K:yw}(h:H a=some (.tup xs)):SqT K H a xs:=.inl (.inl h)
def Inv.list(I:Inv X pins σ H s)(h:SqL X.K H a xs):∃its:List yb,Vals xs its/\PlainL s.heap a its.toArray/\xs.length<=yE:=by
 rcases h with h|⟨o,its,n,hk,hc,hd,hs,hz,r⟩
 ·obtain⟨z,its,n,r,e⟩:=h.ok I.hok;exact⟨its,r,⟨_,n,e,rfl,rfl,rfl⟩,z⟩
 ·refine⟨its.toList,r,⟨o,n,I.kIn a o hk,hc,hd,by simpa using hs⟩,?_⟩;have e:=r.length;simp only[Array.length_toList]at e;omega
def Inv.tuple(I:Inv X pins σ H s)(h:SqT X.K H a xs):∃its:List yb,Vals xs its/\IsTup s.heap a its.toArray/\xs.length<=yE:=by
 rcases h with h|⟨o,its,n,hk,hc,hs,hz,r⟩
 ·obtain⟨z,its,r,p⟩:=h.ok I.hok;exact⟨its,r,p,z⟩
 ·refine⟨its.toList,r,⟨o,I.kIn a o hk,hc,n,by simpa using hs⟩,?_⟩;have e:=r.length;simp only[Array.length_toList]at e;omega
def Inv.sM(I:Inv X pins σ H s)(h:SqL X.K H a xs)(h':SqL X.K H a ys):xs=ys:=by
 obtain⟨its,r,⟨o,n,e,_,_,d⟩,_⟩:=I.list h;obtain⟨its',r',⟨o',n',e',_,_,d'⟩,_⟩:=I.list h';rw[e]at e';cases e';rw[d]at d';injection d' with d1 _;have:its=its':=by simpa using congrArg Array.toList d1
 subst this;exact r.inj r'
def Inv.sy(I:Inv X pins σ H s)(h:SqT X.K H a xs)(h':SqT X.K H a ys):xs=ys:=by
 obtain⟨its,r,⟨o,e,_,n,d⟩,_⟩:=I.tuple h;obtain⟨its',r',⟨o',e',_,n',d'⟩,_⟩:=I.tuple h';rw[e]at e';cases e';rw[d]at d';injection d' with d1 _;have:its=its':=by simpa using congrArg Array.toList d1
 subst this;exact r.inj r'
end
abbrev Cx.sI(X:Cx)(E:yb->ye->Prop):Cx:={X with xe:=E }
abbrev Cx.nox(X:Cx):Cx:=X.sI λ_ _=>False
def Cx.Ok.sI{X:Cx}(ok:X.Ok)(E:yb->ye->Prop):(X.sI E).Ok :=
 ⟨ok.mod,ok.kind,ok.glob,ok.blt,ok.above,ok.inj,ok.has,ok.cab,ok.hd,ok.frames,ok.stk,ok.exf,ok.bs,ok.bsz,ok.SJ,ok.SM,ok.sx,ok.frf⟩
def Cx.Ok.Tw{X:Cx}{E:yb->ye->Prop}(ok:(X.sI E).Ok):X.Ok :=
 ⟨ok.mod,ok.kind,ok.glob,ok.blt,ok.above,ok.inj,ok.has,ok.cab,ok.hd,ok.frames,ok.stk,ok.exf,ok.bs,ok.bsz,ok.SJ,ok.SM,ok.sx,ok.frf⟩
section
variable {X:Cx}{pins:List (yd×YY)}{σ:St}{H:Hp}{s:ye}{E:yb->ye->Prop}
def Inv.sI(I:Inv X pins σ H s)(E:yb->ye->Prop):Inv (X.sI E) pins σ H s:=⟨I.ok.sI E,I.os,I.bare,I.base,I.loc,I.cell,I.free,I.freeC,I.pin,I.hok,I.len⟩
def Inv.Tw(I:Inv (X.sI E) pins σ H s):Inv X pins σ H s:=⟨I.ok.Tw,I.os,I.bare,I.base,I.loc,I.cell,I.free,I.freeC,I.pin,I.hok,I.len⟩
def SP.Tw{D:Ends}{f:Flow}{s':ye}(h:SP (X.sI E) pins D f s'):SP X pins D f s':=by
 cases f with
 |next=>obtain⟨σ',H',I,q⟩:=h;exact⟨σ',H',I.Tw,q⟩
 |brk=>obtain⟨σ',H',I,q⟩:=h;exact⟨σ',H',I.Tw,q⟩
 |cont=>obtain⟨σ',H',I,q⟩:=h;exact⟨σ',H',I.Tw,q⟩
 |ret u=>obtain⟨v,σ',H',I,r,q⟩:=h;exact⟨v,σ',H',I.Tw,r,q⟩
def PSs.nox{st:List Yi}{t:TS}(h:PSs X.nox st t):PSs X st t:=λpins s σ H D I hw=>
 Yb (h pins s σ H D (I.sI _) hw) (λ_ _ q=>q.Tw) λ_ _ z=>YE z
end
section
variable {X:Cx}{st:Yi}{rest:List Yi}{t u:TS}{e:yF}{te:TE}{pos:xC}
def z8A:TS:=λD σ H=>D.nx σ H
def zuB(t u:TS):TS:=λD σ H=>t {D with nx:=u D } σ H
def z1x:PSs X [] z8A:=λ_ _ σ H _ I h=>Xj ⟨σ,H,I,h⟩
def ztm(h1:PS X st t)(h2:PSs X rest u):PSs X (st::rest) (zuB t u):=by
 intro pins s σ H D I h;refine wpAny_execs_cons (thn (h1 pins s σ H {D with nx:=u D } I h) λf s1 q=>?_)
 cases f with
 |next=>
  obtain⟨σ',H',I',q⟩:=q;exact h2 pins s1 σ' H' D I' q
 |ret v=>exact q
 |brk=>exact q
 |cont=>exact q
def zgp(h1:PS X st t):PSs X [st] t:=by
 intro pins s σ H D I h;refine wpAny_execs_cons (thn (h1 pins s σ H D I h) λf s1 q=>?_)
 cases f with
 |next=>exact Xj q
 |ret v=>exact q
 |brk=>exact q
 |cont=>exact q
def Inv.quiet{pins:List (yd×YY)}{σ:St}{H:Hp}{s:ye}(I:Inv X pins σ H s):interactive X.env=false:=by simp[interactive,I.ok.kind]
def zOA(te:TE):TS:=λD σ H=>te σ H λ_ H1=>D.nx σ H1
def zup(he:PE X e te)(hs:Xl e none pos.line X.env=pure false:=by rfl):PS X (.Expr e pos) (zOA te):=by
 intro pins s σ H D I h;exact wpAny_Expr_any (thn (he pins s σ H _ I h) λv s1 ⟨x,H1,I1,r1,q1⟩=>⟨σ,H1,I1,q1⟩) I.quiet hs
def zIB(te:TE):TS:=λD σ H=>te σ H D.rt
def z9y(he:PE X e te):PS X (.Return (some e) pos) (zIB te):=by
 intro pins s σ H D I h;exact wpAny_Return_some (thn (he pins s σ H _ I h) λv s1 ⟨x,H1,I1,r1,q1⟩=>⟨x,σ,H1,I1,r1,q1⟩)
def zTB(c:TT)(t u:TS):TS:=λD σ H=>c σ H λb H1=>if b=true then t D σ H1 else u D σ H1
def zwA{c:yF}{a b:List Yi}{tc:TT}(hc:PT X c tc)(ha:PSs X a t)(hb:PSs X b u):PS X (.If c a b pos) (zTB tc t u):=by
 intro pins s σ H D I h;refine wpAny_If (thn (hc pins s σ H _ I h) λd s1 ⟨H1,I1,q1⟩=>?_)
 cases d with
 |true=>exact ha pins s1 σ H1 D I1 q1
 |false=>exact hb pins s1 σ H1 D I1 q1
def zfz:TS:=λ_ _ _=>False
def z9u:PS X st zfz:=λ_ _ _ _ _ _ h=>h.elim
end
abbrev TG:=V->St->Hp->(St->Hp->Prop)->Prop
abbrev TGs:=List V->St->Hp->(St->Hp->Prop)->Prop
def PG(X:Cx)(target:yF)(t:TG):Prop :=
 ∀(pins:List (yd×YY)) (s:ye) (σ:St) (H:Hp) (v:V) (u:yb) (Q:St->Hp->Prop),Inv X pins σ H s->RelV v u->t v σ H Q ->
  yo (yx X.prog X.w) X.A (assign target X.env u) (λ_ s'=>∃σ' H',Inv X pins σ' H' s'/\Q σ' H') X.xe s
def PGs(X:Cx)(ts:List yF)(t:TGs):Prop :=
 ∀(pins:List (yd×YY)) (s:ye) (σ:St) (H:Hp) (vs:List V) (us:List yb) (Q:St->Hp->Prop),Inv X pins σ H s->Vals vs us->t vs σ H Q ->
  yo (yx X.prog X.w) X.A (assignInOrder ((Yw ts X.env).map (·.2)) us) (λ_ s'=>∃σ' H',Inv X pins σ' H' s'/\Q σ' H') X.xe s
abbrev zIA:=V->V->V->Hp->(Hp->Prop)->Prop
def zYA(X:Cx)(t:zIA):Prop :=
 ∀(pins:List (yd×YY)) (s:ye) (σ:St) (H:Hp) (o i v:V) (ov iv u:yb) (Q:Hp->Prop),Inv X pins σ H s->RelV o ov->RelV i iv->RelV v u->t o i v H Q ->
  yo (yx X.prog X.w) X.A (setItem ov iv u) (λ_ s'=>∃H',Inv X pins σ H' s'/\Q H') X.xe s
abbrev TIp:=V->V->Hp->VK->Prop
def PIp(X:Cx)(op:Operator)(t:TIp):Prop :=
 ∀(pins:List (yd×YY)) (s:ye) (σ:St) (H:Hp) (x y:V) (v u:yb) (Q:VK),Inv X pins σ H s->RelV x v->RelV y u->t x y H Q ->
  yo (yx X.prog X.w) X.A (inplaceOp op v u) (EP X pins σ Q) X.xe s
section
variable {X:Cx}{pos:xC}
def zDw(i:Nat):TG:=λv σ H Q=>Q (σ.set i (some v)) H
def zYt{i:Nat}{x:yy}(hN:X.N.Nodup)(hi:X.N[i]?=some x)(hx:Loc X.env.scope x)(hf:X.fn x=true\/X.env.scope.names.lookup x=some .local:=by first|exact .inl rfl|exact .inr rfl|assumption):PG X (.Name x pos) (zDw i):=by
 intro pins s σ H v u Q I r h;exact wpAny_assign_Name (zCj I hN hi hx r (λs' I'=>⟨_,H,I',h⟩) hf)
def zGB:TGs:=λvs σ H Q=>vs=[]/\Q σ H
def zUA(t:TG)(u:TGs):TGs:=λvs σ H Q=>∃v r,vs=v::r/\t v σ H λσ' H'=>u r σ' H' Q
def zus:PGs X [] zGB:=by
 intro pins s σ H vs us Q I r h;obtain⟨e,h⟩:=h;subst e;cases r;exact assignInOrder_nil ⟨σ,H,I,h⟩
def zAq{e:yF}{es:List yF}{t:TG}{u:TGs}(h1:PG X e t)(h2:PGs X es u)
 (hs:(Yw (e::es) X.env).map (·.2)=assign e X.env::(Yw es X.env).map (·.2):=by rfl):PGs X (e::es) (zUA t u):=by
 intro pins s σ H vs us Q I r h;obtain⟨v,vr,e1,h⟩:=h;subst e1
 cases r with
 |cons r rr=>
  rw[hs];refine assignInOrder_cons (thn (h1 pins s σ H _ _ _ I r h) λ_ s1 ⟨σ1,H1,I1,q1⟩=>?_);exact h2 pins s1 σ1 H1 _ _ Q I1 rr q1
def zEB(K:yw)(n:Nat)(t:TGs):TG:=λv σ H Q=>∃a xs,v=.ref a/\SqT K H a xs/\xs.length=n/\t xs σ H Q
def z5v{es:List yF}{k:Nat}{t:TGs}{n:Nat}(hc:X.calm=true)(h:PGs X es t)
 (hn:(Yw es X.env).length=n:=by rfl) (hst:(Yw es X.env).findIdx? (·.1)=none:=by rfl):PG X (.Tuple es k pos) (zEB X.K n t):=by
 intro pins s σ H v u Q I r hw;obtain⟨a,xs,e1,hq,hl,hw⟩:=hw;subst e1;cases r;obtain⟨its,rv,ht,hz⟩:=I.tuple hq;refine assign_Tuple_tuple (I.ok.hd hc) ht (by simp[hn,<-hl,rv.length]) hst λh' hx=>?_;have I1:Inv X pins σ H {s with heap:=h' }:=I.kept (t':=s.toks) λb o e=>hx b o (yt (ym e)) e;exact h pins _ σ H xs _ Q I1 (by simpa using rv) hw
def zQu(to ti:TE)(t:zIA):TG:=λv σ H Q=>to σ H λo H1=>ti σ H1 λi H2=>t o i v H2 λH3=>Q σ H3
def z2v{o i:yF}{to ti:TE}{t:zIA}(ho:PE X o to)(hi:PE X i ti)(hs:zYA X t)
 (ha:∀v,assign (.Subscript o i pos) X.env v=(do
  let ov <-xT [v] (Yh o X.env)
  let iv <-xT [v,ov] (Yh i X.env)
  standAt pos
  xT [v,ov,iv] (setItem ov iv v)
  release [v,ov,iv] []):=by intro _;rfl):PG X (.Subscript o i pos) (zQu to ti t):=by
 intro pins s σ H v u Q I r h;rw[ha];refine ya (yY (thn (ho pins s σ H _ I h) λov s1 ⟨x,H1,I1,r1,q1⟩=>?_));refine ya (yY (thn (hi pins s1 σ H1 _ I1 q1) λiv s2 ⟨y,H2,I2,r2,q2⟩=>?_));refine ya (YZ (ya (yY (thn (hs pins s2 σ H2 x y v ov iv u _ I2 r1 r2 r q2) λ_ s3 ⟨H3,I3,q3⟩=>?_))));exact wpAny_release ⟨σ,H3,I3,q3⟩
def zCA(te:TE)(g:TG):TS:=λD σ H=>te σ H λx H1=>g x σ H1 D.nx
def zPy{tg e:yF}{te:TE}{g:TG}(he:PE X e te)(hg:PG X tg g)(hs:swapsWithSole [tg] e pos.line X.env=pure false:=by rfl)(hw:swappedStores [tg] e X.env=pure none:=by rfl)
 (h1:(Yw [tg] X.env).map (·.2)=[assign tg X.env]:=by rfl):PS X (.Assign [tg] e pos) (zCA te g):=by
 intro pins s σ H D I h;refine wpAny_Assign_stores (thn (he pins s σ H _ I h) λv s1 ⟨x,H1,I1,r1,q1⟩=>?_) hs hw;rw[h1];exact thn (hg pins s1 σ H1 x v _ I1 r1 q1) λ_ s2 q=>q
def z5y{i:Nat}{x:yy}{e:yF}{te:TE}{pos':xC}(hN:X.N.Nodup)(hi:X.N[i]?=some x)(hx:Loc X.env.scope x)(he:PE X e te)(hs:Xl e (some (.Name x pos')) pos.line X.env=pure false:=by rfl)(hf:X.fn x=true\/X.env.scope.names.lookup x=some .local:=by first|exact .inl rfl|exact .inr rfl|assumption) :
 PS X (.Assign [.Name x pos'] e pos) (zCA te (zDw i)):=by
 intro pins s σ H D I h;refine wpAny_Assign_Name (thn (he pins s σ H _ I h) λv s1 ⟨y,H1,I1,r1,q1⟩=>?_) hs;exact zCj I1 hN hi hx r1 (λs2 I2=>⟨_,H1,I2,q1⟩) hf
def zAB(i:Nat)(te:TE)(ti:TIp):TS:=λD σ H=>∃x,σ[i]?=some (some x)/\te σ H λy H1=>ti x y H1 λz H2=>D.nx (σ.set i (some z)) H2
def z2z{i:Nat}{x:yy}{e:yF}{te:TE}{op:Operator}{ti:TIp}{pos':xC}(hN:X.N.Nodup)(hi:X.N[i]?=some x)(hx:Loc X.env.scope x)(he:PE X e te)(ho:PIp X op ti)(hf:X.fn x=true\/X.env.scope.names.lookup x=some .local:=by first|exact .inl rfl|exact .inr rfl|assumption) :
 PS X (.AugAssign (.Name x pos') op e pos) (zAB i te ti):=by
 intro pins s σ H D I h;obtain⟨v,e1,h⟩:=h;obtain⟨m,hn,hl⟩:=I.loc;have vis:Vis X.env.scope x:=by rcases hx with k|k;exact .inl k;exact .inr (.inl k)
 obtain⟨u,r,l⟩:=hl i x v hi e1 vis;refine wpAny_AugAssign_Name ?_
 have go:yo (yx X.prog X.w) X.A (Yh e X.env) (λw s₂=>yo (yx X.prog X.w) X.A (inplaceOp op u w) (λr s₃=>yo (yx X.prog X.w) X.A (storeName X.env x r) (λ_=>SP X pins D .next) X.xe s₃) X.xe s₂) X.xe s:=by
  refine thn (he pins s σ H _ I h) λw s1 ⟨y,H1,I1,r1,q1⟩=>?_;refine thn (ho pins s1 σ H1 v y u w _ I1 r r1 q1) λz s2 ⟨zv,H2,I2,r2,q2⟩=>?_;exact zCj I2 hN hi hx r2 (λs3 I3=>⟨_,H2,I3,q2⟩) hf
 rcases l with ⟨hk,hm⟩|⟨hk,c,hc,hcell⟩
 ·exact wpAny_loadName_local I.ok.kind hk hn hm go
 ·rcases hk with hk|hk
  ·exact wpAny_loadName_cell I.ok.kind hk hc hcell go
  ·rcases hx with k|k
   ·have:X.env.scope.names.lookup x=some .free:=hk;rw[k]at this;cases this
   ·have:X.env.scope.names.lookup x=some .free:=hk;rw[k]at this;cases this
end
section
variable {X:Cx}{pos:xC}
def zsy(c:TT)(tb:TS):TS:=λD σ H=>∃W:Nat->St->Hp->Prop,(∃m,W m σ H)/\∀m σ H,W m σ H ->
 c σ H λb H1=>if b=true then ∃N:St->Hp->Prop,(∀σ' H',N σ' H'->∃m',m'<m/\W m' σ' H')/\tb {D with nx:=N,ct:=N,bk:=D.nx } σ H1 else D.nx σ H1
def zLv{c:yF}{body:List Yi}{tc:TT}{tb:TS}(hp:PassesOwn (yx X.prog X.w) X.A X.env X.xe)(hc:PT X c tc)(hb:PSs X body tb):PS X (.While c body [] pos) (zsy tc tb):=by
 intro pins s σ H D I h;obtain⟨W,⟨m0,w0⟩,turn⟩:=h;refine wpAny_While (codeAny_whileLoop (λn s'=>∃σ' H',Inv X pins σ' H' s'/\W n σ' H') ?_ m0 ⟨σ,H,I,w0⟩);rintro n s1 ⟨σ1,H1,I1,w1⟩;refine xS hp (thn (hc pins s1 σ1 H1 _ I1 (turn n σ1 H1 w1)) λb s2 ⟨H2,I2,q2⟩=>?_)
 cases b with
 |true=>
  obtain⟨N,hN,q2⟩:=q2;rw[if_pos rfl];refine xS hp (thn (hb pins s2 σ1 H2 _ I2 q2) λf s3 q3=>?_)
  cases f with
  |next=>
   obtain⟨σ3,H3,I3,n3⟩:=q3;obtain⟨m',hm,w3⟩:=hN σ3 H3 n3;exact⟨m',hm,σ3,H3,I3,w3⟩
  |cont=>
   obtain⟨σ3,H3,I3,n3⟩:=q3;obtain⟨m',hm,w3⟩:=hN σ3 H3 n3;exact⟨m',hm,σ3,H3,I3,w3⟩
  |brk=>exact q3
  |ret v=>exact q3
 |false=>
  rw[if_neg yC];exact Xj ⟨σ1,H2,I2,q2⟩
end
structure It where
 go:Nat->Hp->Prop
 yld:Nat->Hp->V->Hp->Prop
 stop:Nat->Hp->Prop
def z4o(X:Cx)(pins:List (yd×YY))(H:Hp)(b:yd):Prop :=
 H b=none/\b≠X.env.locals/\b∉X.fs/\(b∈X.ex\/X.s₀.heap.objs.size<=b)/\(∀x c,X.env.cells.lookup x=some c->c≠b)/\∀p∈X.pn++pins,p.1≠b
def Inv.Sj{X:Cx}{pins:List (yd×YY)}{σ:St}{H H':Hp}{s:ye}{b:yd}(I:Inv X pins σ H s)(hb:s.heap.objs.size<=b)(hn:H' b=none):z4o X pins H' b:=by
 refine⟨hn,yT (yA I.lt hb),I.nofs hb,.inr (yG I.sz hb),λx c e z=>?_,λp hp z=>?_⟩
 ·obtain⟨v,q⟩:=I.cell x c e;exact absurd (yA q.lt (by rw[z];exact hb)) (Yc _)
 ·exact absurd (yA (ym (I.pin p hp).1) (by rw[z];exact hb)) (Yc _)
structure Turn(P:yB)(w:yL)(K:yw)(tg:yF)(J:It)(fp:List yd)(it:yd)(tn:Nat->yV->Prop):Prop where
 mem:it∈fp
 obj:∀i h,tn i h->∀b∈fp,∃o,h.get? b=some o/\∀v,o.data≠.cell v
 keep:∀i h h',tn i h->(∀b∈fp,∀o,h.get? b=some o->h'.get? b=some o)->tn i h'
 item:∀(X:Cx),X.prog=P->X.w=w->X.K=K->X.calm=true->∀(i:Nat)(pins:List (yd×YY)) (s:ye) (σ:St) (H:Hp) (E:yb->ye->Prop),Inv X pins σ H s->(∀b∈fp,z4o X pins H b)->tn i s.heap->J.go i H ->
  yo (yx P w) X.A (xQ (.ref it)) (λr s1=>∃u,r=some u /\
   yo (yx P w) X.A (letOwnedTupleGo tg (.ref it) u) (λ_ s2=>∃x H',Inv X pins σ H' s2/\RelV x u/\J.yld i H x H'/\tn (i+1) s2.heap/\∀b∈fp,H' b=none) E s1) E s
 done:∀(X:Cx),X.prog=P->X.w=w->X.K=K->X.calm=true->∀(i:Nat)(pins:List (yd×YY)) (s:ye) (σ:St) (H:Hp) (E:yb->ye->Prop),Inv X pins σ H s->(∀b∈fp,z4o X pins H b)->tn i s.heap->J.stop i H ->
  yo (yx P w) X.A (xQ (.ref it)) (λr s1=>r=none/\Inv X pins σ H s1) E s
 self:∀(A:yR)(i:Nat)(s:ye)(Q:yb->ye->Prop)(E:yb->ye->Prop),tn i s.heap->Q (.ref it) s->yo (yx P w) A (pyIter (.ref it)) Q E s
abbrev TI:=St->Hp->(It->Hp->Prop)->Prop
def PIE(X:Cx)(pins:List (yd×YY))(σ:St)(tg:yF)(R:It->Hp->Prop)(itv:yb)(s2:ye):Prop :=
 ∃(it:yd)(fp:List yd)(tn:Nat->yV->Prop)(J:It)(H':Hp),itv=.ref it/\Inv X pins σ H' s2/\Turn X.prog X.w X.K tg J fp it tn/\tn 0 s2.heap/\(∀b∈fp,z4o X pins H' b)/\R J H'
def PI(X:Cx)(tg iter:yF)(wi:TI):Prop :=
 ∀(pins:List (yd×YY)) (s:ye) (σ:St) (H:Hp) (R:It->Hp->Prop),Inv X pins σ H s->wi σ H R ->
  yo (yx X.prog X.w) X.A (Yh iter X.env) (λv s1=>yo (yx X.prog X.w) X.A (pyIter v) (PIE X pins σ tg R) X.xe s1) X.xe s
def z6u{M:Model}{A:yR}{E:yb->ye->Prop}{s:ye}{tg:yF}{it:yd}{u:yb}{o:YY}{n:String}{vs:Array yb}{Q:Unit->ye->Prop}(ho:s.heap.get? it=some o)(hc:o.cls=.type n)(hd:o.data=.fields vs)
 (hn:["enumerate","zip","dict_itemiterator","dict_reverseitemiterator","odict_iterator","itertools.zip_longest","itertools.pairwise"].contains n=false) (hQ:Q () s):yo M A (letOwnedTupleGo tg (.ref it) u) Q E s:=by
 unfold letOwnedTupleGo
 cases tg<;>first
  |exact yg hQ
  |(cases u<;>first
   |exact yg hQ
   | (refine ya (wpAny_load ho ?_)
      rw[hc,hd];show yo M A (if(["enumerate","zip","dict_itemiterator","dict_reverseitemiterator","odict_iterator","itertools.zip_longest","itertools.pairwise"].contains n&&vs[0]?==some (YF _))=true then _ else _) Q E s;rw[if_neg (by intro h;rw[hn,Bool.false_and]at h;cases h)];exact yg hQ))
def Itl(K:yw)(a:yd):It :=
 ⟨λi H=>∃xs x,SqL K H a xs/\xs[i]?=some x,λi H x H'=>H'=H/\∀xs,SqL K H a xs->xs[i]?=some x,λi H=>∃xs,SqL K H a xs/\xs.length<=i⟩
def Itt(K:yw)(a:yd):It :=
 ⟨λi H=>∃xs x,SqT K H a xs/\xs[i]?=some x,λi H x H'=>H'=H/\∀xs,SqT K H a xs->xs[i]?=some x,λi H=>∃xs,SqT K H a xs/\xs.length<=i⟩
def Itr(lo:Int)(n:Nat):It:=⟨λi _=>i<n,λi H x H'=>H'=H/\x=.int (lo+i),λi _=>n<=i⟩
def z0s{P:yB}{w:yL}{K:yw}{tg:yF}(a it:yd):Turn P w K tg (Itl K a) [it] it (λi h=>h.IsListIter it a i) where
 mem:=by simp
 obj:=λi h st b hb=>by
  have e:b=it:=by simpa using hb
  subst e;obtain⟨o,e,c,d⟩:=st;exact⟨o,e,λv z=>by rw[d]at z;cases z⟩
 keep:=λi h h' st k=>st.at λo e=>k it (by simp) o e
 item:=by
  intro X hP hw hK hc i pins s σ H E I hf st hg;subst hP hw hK;obtain⟨xs,x,hq,hx⟩:=hg;obtain⟨its,rv,p,hz⟩:=I.list hq;obtain⟨u,hu,ru⟩:=rv.get hx;obtain⟨f0,f1,f2,f3,f4,f5⟩:=hf it (by simp);refine wpAny_pyNext_list_item st p.isList (x:=u) (by simpa using hu) λh' st' sb=>?_;have I1:Inv X pins σ H {s with heap:=h' }:=I.turned (t':=s.toks) (λb o hb e=>(sb.2 b hb).trans e) f0 f1 f3 f4 f5;obtain⟨o,e,c,d⟩:=id st';exact⟨u,rfl,z6u (s:={s with heap:=h' }) e c d (by decide) ⟨x,H,I1,ru,⟨rfl,λys hy=>by rw[I.sM hy hq];exact hx⟩,st',λb hb=>(hf b hb).1⟩⟩
 done:=by
  intro X hP hw hK hc i pins s σ H E I hf st hg;subst hP hw hK;obtain⟨xs,hq,hx⟩:=hg;obtain⟨its,rv,p,hz⟩:=I.list hq;obtain⟨f0,f1,f2,f3,f4,f5⟩:=hf it (by simp);have hl:=rv.length;exact wpAny_pyNext_list_end (I.ok.hd hc) st p.isList (by simp;omega) λh' eb=>⟨rfl,I.turned (t':=s.toks) (λb o hb e=>eb b o hb e) f0 f1 f3 f4 f5⟩
 self:=λ_ _ _ _ _ st h=>wpAny_pyIter_listiter st h
def z0r{P:yB}{w:yL}{K:yw}{tg:yF}(a it:yd):Turn P w K tg (Itt K a) [it] it (λi h=>h.IsTupleIter it a i) where
 mem:=by simp
 obj:=λi h st b hb=>by
  have e:b=it:=by simpa using hb
  subst e;obtain⟨o,e,c,d⟩:=st;exact⟨o,e,λv z=>by rw[d]at z;cases z⟩
 keep:=λi h h' st k=>st.at λo e=>k it (by simp) o e
 item:=by
  intro X hP hw hK hc i pins s σ H E I hf st hg;subst hP hw hK;obtain⟨xs,x,hq,hx⟩:=hg;obtain⟨its,rv,p,hz⟩:=I.tuple hq;obtain⟨u,hu,ru⟩:=rv.get hx;obtain⟨f0,f1,f2,f3,f4,f5⟩:=hf it (by simp);refine wpAny_pyNext_tuple_item st (show s.heap.IsTuple a its.toArray from p) (x:=u) (by simpa using hu) λh' st' sb=>?_;have I1:Inv X pins σ H {s with heap:=h' }:=I.turned (t':=s.toks) (λb o hb e=>(sb.2 b hb).trans e) f0 f1 f3 f4 f5;obtain⟨o,e,c,d⟩:=id st';exact⟨u,rfl,z6u (s:={s with heap:=h' }) e c d (by decide) ⟨x,H,I1,ru,⟨rfl,λys hy=>by rw[I.sy hy hq];exact hx⟩,st',λb hb=>(hf b hb).1⟩⟩
 done:=by
  intro X hP hw hK hc i pins s σ H E I hf st hg;subst hP hw hK;obtain⟨xs,hq,hx⟩:=hg;obtain⟨its,rv,p,hz⟩:=I.tuple hq;obtain⟨f0,f1,f2,f3,f4,f5⟩:=hf it (by simp);have hl:=rv.length;exact wpAny_pyNext_tuple_end (I.ok.hd hc) st (show s.heap.IsTuple a its.toArray from p) (by simp;omega) λh' eb=>⟨rfl,I.turned (t':=s.toks) (λb o hb e=>eb b o hb e) f0 f1 f3 f4 f5⟩
 self:=λ_ _ _ _ _ st h=>wpAny_pyIter_tupleiter st h
def zSr{P:yB}{w:yL}{K:PySem.W.Frag}{tg:yF}(it:yd)(lo:Int)(n:Nat):Turn P w K tg (Itr lo n) [it] it (λi h=>IsRangeIter h it (lo+(i:Nat)*1) ((n:Int)-(i:Nat)) 1) where
 mem:=by simp
 obj:=λi h st b hb=>by
  have e:b=it:=by simpa using hb
  subst e
  exact⟨_,st,λv z=>by
   have z':Data.fields _=Data.cell v:=z;cases z'⟩
 keep:=λi h h' st k=>k it (by simp) _ st
 item:=by
  intro X hP hw hK hc i pins s σ H E I hf st hg;subst hP hw hK;obtain⟨f0,f1,f2,f3,f4,f5⟩:=hf it (by simp);have W:=Walks.range (prog:=X.prog) (w:=X.w) (I.ok.hd hc) it lo 1 n;refine W.item i s _ _ hg st λv h' tk hv st' kk=>?_;obtain⟨t,rfl⟩:=hv;have I1:Inv X pins σ H {s with heap:=h',toks:=tk }:=I.turned (λb o hb e=>kk b o (by simpa using hb) e) f0 f1 f3 f4 f5;refine⟨_,rfl,z6u (s:={s with heap:=h',toks:=tk }) (n:="range_iterator") st' rfl rfl (by decide) ⟨.int (lo+i),H,I1,⟨t,?_⟩,⟨rfl,rfl⟩,st',λb hb=>(hf b hb).1⟩⟩;rw[Int.mul_one]
 done:=by
  intro X hP hw hK hc i pins s σ H E I hf st hg;subst hP hw hK;obtain⟨f0,f1,f2,f3,f4,f5⟩:=hf it (by simp);exact wpAny_pyNext_range_end (I.ok.hd hc) st (by have:n<=i:=hg;omega) λh' eb=>⟨rfl,I.turned (t':=s.toks) (λb o hb e=>eb b o hb e) f0 f1 f3 f4 f5⟩
 self:=λ_ _ _ _ _ st h=>wpAny_pyIter_rangeiter st h
section
variable {X:Cx}{tg:yF}
def zbt(K:yw)(tl:TE):TI:=λσ H R=>tl σ H λx H1=>∃a,x=.ref a/\(∃xs,SqL K H1 a xs)/\R (Itl K a) H1
def zRB(K:yw)(tl:TE):TI:=λσ H R=>tl σ H λx H1=>∃a,x=.ref a/\(∃xs,SqT K H1 a xs)/\R (Itt K a) H1
def zay{l:yF}{tl:TE}(hl:PE X l tl):PI X tg l (zbt X.K tl):=by
 intro pins s σ H R I h;refine thn (hl pins s σ H _ I h) λv s1 ⟨x,H1,I1,r1,q1⟩=>?_;obtain⟨a,e,⟨xs,hq⟩,q⟩:=q1;subst e;cases r1;obtain⟨its,rv,p,hz⟩:=I1.list hq;refine xU p.isList ?_;refine⟨s1.heap.objs.size,[s1.heap.objs.size],_,_,H1,rfl,I1.kept (t':=s1.toks) λb o e=>yc _ e,z0s a _,⟨_,yn _ rfl,rfl,rfl⟩,λb hb=>?_,q⟩;have e:b=s1.heap.objs.size:=by simpa using hb
 subst e;exact I1.Sj (yk _) (I1.hok.fresh (yk _))
def zKy{l:yF}{tl:TE}(hl:PE X l tl):PI X tg l (zRB X.K tl):=by
 intro pins s σ H R I h;refine thn (hl pins s σ H _ I h) λv s1 ⟨x,H1,I1,r1,q1⟩=>?_;obtain⟨a,e,⟨xs,hq⟩,q⟩:=q1;subst e;cases r1;obtain⟨its,rv,p,hz⟩:=I1.tuple hq;refine xF (show s1.heap.IsTuple a its.toArray from p) ?_;refine⟨s1.heap.objs.size,[s1.heap.objs.size],_,_,H1,rfl,I1.kept (t':=s1.toks) λb o e=>yc _ e,z0r a _,⟨_,yn _ rfl,rfl,rfl⟩,λb hb=>?_,q⟩;have e:b=s1.heap.objs.size:=by simpa using hb
 subst e;exact I1.Sj (yk _) (I1.hok.fresh (yk _))
def z0v{pins:List (yd×YY)}{σ:St}{H:Hp}{s:ye}{R:It->Hp->Prop}{E:yb->ye->Prop}{lo hi:Int}{t u v:Tok}{tk:Nat}(I:Inv X pins σ H s)(h1:-(2^62)<=lo)(h2:lo<2^62)(h3:-(2^62)<=hi)(h4:hi<2^62)
 (q:R (Itr lo (hi-lo).toNat) H):yo (yx X.prog X.w) X.A (pyIter (.ref s.heap.objs.size)) (PIE X pins σ tg R) E {s with heap:=s.heap.push {cls:=.type "range",data:=.fields #[.int lo t,.int hi u,.int 1 v]},toks:=tk }:=by
 refine wpAny_pyIter_range (IsRange.new ..) (small_one h1 h2 h3 h4) ?_;have I1:Inv X pins σ H {s with heap:=s.heap.push {cls:=.type "range",data:=.fields #[.int lo t,.int hi u,.int 1 v]},toks:=tk }:=I.kept λb o e=>yc _ e
 refine⟨(s.heap.push {cls:=.type "range",data:=.fields #[.int lo t,.int hi u,.int 1 v]}).objs.size,[(s.heap.push {cls:=.type "range",data:=.fields #[.int lo t,.int hi u,.int 1 v]}).objs.size],_,_,H,rfl,
  I1.kept (t':=tk) λb o e=>yc _ e,zSr _ lo (hi-lo).toNat,?_,λb hb=>?_,q⟩
 ·have e1:lo+((0:Nat):Int)*1=lo:=by simp
  have e2:(((hi-lo).toNat:Nat):Int)-((0:Nat):Int)=Builtin.Range.rangeSize lo hi 1:=by rw[rangeSize_one];split<;>omega
  show IsRangeIter _ _ (lo+((0:Nat):Int)*1) ((((hi-lo).toNat:Nat):Int)-((0:Nat):Int)) 1;rw[e1,e2];exact yn _ rfl
 ·have e:b=(s.heap.push {cls:=.type "range",data:=.fields #[.int lo t,.int hi u,.int 1 v]}).objs.size:=by simpa using hb
  subst e;exact I1.Sj (yk _) (I1.hok.fresh (yk _))
def ztA(ta:TA):TI:=λσ H R=>ta σ H λvs H1=>∃j:Int,vs=[.int j]/\-(2^62)<=j/\j<2^62/\R (Itr 0 j.toNat) H1
def zNs{a:yF}{ta:TA}{p pos:xC}(hg:Gl X "range")(hm:X.mg "range"=none)(ha:PA X [a] ta)(hs:yj [a] X.env=[(false,Yh a X.env)]:=by rfl):PI X tg (.Call (.Name "range" p) [a] [] pos) (ztA ta):=by
 intro pins s σ H R I h;refine Call_ (ztk I hg hm boot_range (YJ (thn (ha pos pins s σ H _ I h) λus s1 ⟨vs,H1,I1,r1,q1⟩=>?_) hs rfl));obtain⟨j,e,q1,q2,q⟩:=q1;subst e
 cases r1 with
 |cons r rr=>
  cases rr;obtain⟨t,rfl⟩:=r;exact call_range_1 (z0v I1 (by omega) (by omega) q1 q2 (by simpa using q))
def zvB(wi:TI)(g:TG)(tb:TS):TS:=λD σ H=>wi σ H λJ H1=>∃W:Nat->Nat->St->Hp->Prop,(∃m,W 0 m σ H1)/\∀i m σ H,W i m σ H ->
 (J.stop i H/\D.nx σ H)\/(J.go i H/\∃N:St->Hp->Prop,(∀σ' H',N σ' H'->∃m',m'<m/\W (i+1) m' σ' H')/\∀x H',J.yld i H x H'->g x σ H' λσ2 H2=>tb {D with nx:=N,ct:=N,bk:=D.nx } σ2 H2)
def z3n(fp:List yd)(h:yV):List (yd×YY):=fp.filterMap λb=>(h.get? b).map λo=>(b,o)
def zOg{fp:List yd}{h:yV}{b:yd}{o:YY}(hb:b∈fp)(e:h.get? b=some o):(b,o)∈z3n fp h:=List.mem_filterMap.mpr ⟨b,hb,by rw[e];rfl⟩
def z2t{fp:List yd}{h:yV}{p:yd×YY}(hp:p∈z3n fp h):p.1∈fp/\h.get? p.1=some p.2:=by
 obtain⟨b,hb,e⟩:=List.mem_filterMap.mp hp
 cases q:h.get? b with
 |none=>rw[q]at e;cases e
 |some o=>
  rw[q]at e;have e':(b,o)=p:=Yj e;subst e';exact⟨hb,q⟩
def Inv.pinned{pins:List (yd×YY)}{σ:St}{H:Hp}{s:ye}{fp:List yd}(I:Inv X pins σ H s)(hf:∀b∈fp,z4o X pins H b)(ho:∀b∈fp,∃o,s.heap.get? b=some o/\∀v,o.data≠.cell v):Inv X (pins++z3n fp s.heap) σ H s :=
 I.Sb λp hp=>(List.mem_append.mp hp).elim (λz=>I.pin p (mem_append_right _ z)) λz=>by
  obtain⟨hb,e⟩:=z2t z;obtain⟨f0,f1,f2,_⟩:=hf p.1 hb;obtain⟨o,e',d⟩:=ho p.1 hb;rw[e]at e';cases e';exact⟨e,f0,f1,f2,d⟩
def Inv.TQ{pins pl:List (yd×YY)}{σ:St}{H:Hp}{s:ye}(I:Inv X (pins++pl) σ H s):Inv X pins σ H s:=I.Sb λp hp=>I.pin p (mem_append_right _ (mem_append_left _ hp))
def zty{iter:yF}{body:List Yi}{wi:TI}{g:TG}{tb:TS}{pos:xC}(hp:PassesOwn (yx X.prog X.w) X.A X.env X.xe)(hc:X.calm=true)(hi:PI X tg iter wi)(hg:PG X tg g)(hb:PSs X body tb)
 (hs:∀x,xa iter X.env x=pure x:=by intro _;rfl):PS X (.For tg iter body [] pos) (zvB wi g tb):=by
 intro pins s σ H D I h;refine wpAny_For (thn (hi pins s σ H _ I h) λv s1 h1=>thn h1 λitv s2 h2=>?_) hs;obtain⟨it,fp,tn,J,H2,e,I2,T,st2,f2,W,⟨m0,w0⟩,turn⟩:=h2;subst e;have stat:∀{H':Hp},(∀b∈fp,H' b=none)->∀b∈fp,z4o X pins H' b:=λhn b hb=>⟨hn b hb,(f2 b hb).2⟩
 refine codeAny_forLoop_any (λn s'=>∃i σ' H',Inv X pins σ' H' s'/\tn i s'.heap/\(∀b∈fp,H' b=none)/\W i n σ' H') ?_ m0 ⟨0,σ,H2,I2,st2,λb hb=>(f2 b hb).1,w0⟩;rintro n s3 ⟨i,σ3,H3,I3,st3,fr3,w3⟩;rcases turn i n σ3 H3 w3 with ⟨stop,qn⟩|⟨go,N,hN,step⟩
 ·refine xS hp (thn (T.done X rfl rfl rfl hc i pins s3 σ3 H3 X.xe I3 (stat fr3) st3 stop) λr s4 ⟨hr,I4⟩=>?_);subst hr;exact Xj ⟨σ3,H3,I4,qn⟩
 ·refine xS hp (thn (T.item X rfl rfl rfl hc i pins s3 σ3 H3 X.xe I3 (stat fr3) st3 go) λr s4 ⟨u,hr,h4⟩=>?_);subst hr;refine xS hp (thn h4 λ_ s5 ⟨x,H5,I5,r5,y5,st5,fr5⟩=>?_);have I5':=I5.pinned (stat fr5) (T.obj _ _ st5);refine xS hp (thn (hg _ s5 σ3 H5 x u _ I5' r5 (step x H5 y5)) λ_ s6 ⟨σ6,H6,I6,q6⟩=>?_);refine xS hp (thn (hb _ s6 σ6 H6 _ I6 q6) λf s7 q7=>?_)
  have again:∀{σ7:St} {H7:Hp},Inv X (pins++z3n fp s5.heap) σ7 H7 s7->N σ7 H7->∃m,m<n/\∃i σ' H',Inv X pins σ' H' s7/\tn i s7.heap/\(∀b∈fp,H' b=none)/\W i m σ' H':=λ{σ7 H7} I7 n7=>by
   obtain⟨m',hm,w7⟩:=hN σ7 H7 n7;refine⟨m',hm,i+1,σ7,H7,I7.TQ,T.keep _ _ _ st5 λb hb o e=>(I7.pin (b,o) (mem_append_right _ (mem_append_right _ (zOg hb e)))).1,λb hb=>?_,w7⟩;obtain⟨o,e,d⟩:=T.obj _ _ st5 b hb;exact(I7.pin (b,o) (mem_append_right _ (mem_append_right _ (zOg hb e)))).2.1
  cases f with
  |next=>obtain⟨σ7,H7,I7,n7⟩:=q7;exact again I7 n7
  |cont=>obtain⟨σ7,H7,I7,n7⟩:=q7;exact again I7 n7
  |brk=>obtain⟨σ7,H7,I7,q7⟩:=q7;exact⟨σ7,H7,I7.TQ,q7⟩
  |ret v=>obtain⟨x7,σ7,H7,I7,r7,q7⟩:=q7;exact⟨x7,σ7,H7,I7.TQ,r7,q7⟩
end
abbrev R2:=V->V->Hp->VK->Prop
def OpR(X:Cx)(f:yb->yb->Sem yb)(r:R2):Prop :=
 ∀(pins:List (yd×YY)) (s:ye) (σ:St) (H:Hp) (x y:V) (v u:yb) (Q:VK),Inv X pins σ H s->RelV x v->RelV y u->r x y H Q ->
  yo (yx X.prog X.w) X.A (f v u) (EP X pins σ Q) X.xe s
def zRj(X:Cx)(f:yb)(r:List V->Hp->VK->Prop):Prop :=
 ∀(pins:List (yd×YY)) (s:ye) (σ:St) (H:Hp) (xs:List V) (us:List yb) (Q:VK),Inv X pins σ H s->Vals xs us->r xs H Q ->
  yo (yx X.prog X.w) X.A (call f us) (EP X pins σ Q) X.xe s
def tOp(r:R2)(ta tb:TE):TE:=λσ H Q=>ta σ H λx H1=>tb σ H1 λy H2=>r x y H2 Q
def rI(C:Int->Int->Prop)(g:Int->Int->V):R2:=λx y H Q=>∃i j,x=.int i/\y=.int j/\C i j/\Q (g i j) H
def rI0(g:Int->Int->V):R2:=λx y H Q=>∃i j,x=.int i/\y=.int j/\Q (g i j) H
section
variable {X:Cx}{a b c:yF}{ta tb tc:TE}{pos:xC}
def binT(ha:PE X a ta)(hb:PE X b tb){pins:List (yd×YY)}{s:ye}{σ:St}{H:Hp}{R:V->V->Hp->Prop}(I:Inv X pins σ H s)
 (h:ta σ H λx H1=>tb σ H1 λy H2=>R x y H2) {Q:yb->ye->Prop} {f:yb->yb->Sem yb}
 (hf:∀v u s2 x y H2,Inv X pins σ H2 s2->RelV x v->RelV y u->R x y H2->yo (yx X.prog X.w) X.A (f v u) Q X.xe s2) :
 yo (yx X.prog X.w) X.A (Yh a X.env) (λv s₁=>yo (yx X.prog X.w) X.A (Yh b X.env) (λu s₂=>yo (yx X.prog X.w) X.A (f v u) Q X.xe s₂) X.xe s₁) X.xe s:=by
 refine thn (ha pins s σ H _ I h) λv s1 ⟨x,H1,I1,r1,q1⟩=>?_;refine thn (hb pins s1 σ H1 _ I1 q1) λu s2 ⟨y,H2,I2,r2,q2⟩=>?_;exact hf v u s2 x y H2 I2 r1 r2 q2
def zVA{op:Operator}{r:R2}(ho:OpR X (xG op) r)(ha:PE X a ta)(hb:PE X b tb):PE X (.BinOp a op b pos) (tOp r ta tb):=by
 intro pins s σ H Q I h;exact wpAny_BinOp (binT ha hb I h λv u s2 x y H2 I2 rx ry q=>ho pins s2 σ H2 x y v u Q I2 rx ry q)
def opI{f:yb->yb->Sem yb}{C:Int->Int->Prop}{g:Int->Int->Int}
 (rule:∀(i j:Int)(t u:Tok)(s:ye)(Q:yb->ye->Prop)(E:yb->ye->Prop),C i j->Q (.int (g i j) s.toks) {s with toks:=s.toks+1 }->yo (yx X.prog X.w) X.A (f (.int i t) (.int j u)) Q E s) :
 OpR X f (rI C λi j =>.int (g i j)):=by
 intro pins s σ H x y v u Q I rx ry h;obtain⟨i,j,rfl,rfl,hc,q⟩:=h;obtain⟨t,rfl⟩:=rx;obtain⟨t',rfl⟩:=ry;exact rule i j t t' s _ _ hc ⟨.int (g i j),H,I.tok _,⟨_,rfl⟩,q⟩
def opI0{f:yb->yb->Sem yb}{g:Int->Int->Int}
 (rule:∀(i j:Int)(t u:Tok)(s:ye)(Q:yb->ye->Prop)(E:yb->ye->Prop),Q (.int (g i j) s.toks) {s with toks:=s.toks+1 }->yo (yx X.prog X.w) X.A (f (.int i t) (.int j u)) Q E s) :
 OpR X f (rI0 λi j =>.int (g i j)):=by
 intro pins s σ H x y v u Q I rx ry h;obtain⟨i,j,rfl,rfl,q⟩:=h;obtain⟨t,rfl⟩:=rx;obtain⟨t',rfl⟩:=ry;exact rule i j t t' s _ _ ⟨.int (g i j),H,I.tok _,⟨_,rfl⟩,q⟩
def opB0{f:yb->yb->Sem yb}{g:Int->Int->Bool}
 (rule:∀(i j:Int)(t u:Tok)(s:ye)(Q:yb->ye->Prop)(E:yb->ye->Prop),Q (.bool (g i j)) s->yo (yx X.prog X.w) X.A (f (.int i t) (.int j u)) Q E s) :
 OpR X f (rI0 λi j =>.bl (g i j)):=by
 intro pins s σ H x y v u Q I rx ry h;obtain⟨i,j,rfl,rfl,q⟩:=h;obtain⟨t,rfl⟩:=rx;obtain⟨t',rfl⟩:=ry;exact rule i j t t' s _ _ ⟨.bl (g i j),H,I,rfl,q⟩
def zlz:OpR X (xG .Mod) (rI (λ_ j=>0<j) λi j =>.int (i%j)):=opI λi j _ _ _ _ _ hc q=>by
 have h1:(0:Int)<j:=hc;exact mod_int' (by omega) (by rw[Int.fmod_eq_emod_of_nonneg i (by omega)];exact q)
def zzx:OpR X (inplaceOp .Add) (rI0 λi j =>.int (i+j)):=opI0 λ_ _ _ _ _ _ _ q=>iadd_int q
end
section
variable {X:Cx}{a b c:yF}{ta tb tc:TE}{pos:xC}
def z7v{pins:List (yd×YY)}{σ:St}{H:Hp}{s:ye}{Q:VK}{k k':Bool}(I:Inv X pins σ H s)(q:Q (.bl k) H)(e:k=k'):EP X pins σ Q (.bool k') s:=by
 subst e;exact⟨.bl k,H,I,rfl,q⟩
def zyA:OpR X (Yy .Lt) (rI0 λi j =>.bl (decide (i<j))):=opB0 λ_ _ _ _ _ _ _ q=>lt_int q
def zsA:OpR X (Yy .Gt) (rI0 λi j =>.bl (decide (j<i))):=opB0 λ_ _ _ _ _ _ _ q=>gt_int q
def zjA:OpR X (Yy .GtE) (rI0 λi j =>.bl (decide (j<=i))):=opB0 λ_ _ _ _ _ _ _ q=>ge_int q
def zvl:OpR X (Yy .Is) (λx y H Q=>y=.non/\Q (.bl (decide (x=.non))) H):=by
 intro pins s σ H x y v u Q I rx ry h;obtain⟨rfl,q⟩:=h;cases ry;refine is_none_gen (z7v I q ?_)
 cases x<;>first
  |(cases rx;rfl)
  |(obtain⟨t,rfl⟩:=rx;rfl)
def zzi:OpR X (Yy .IsNot) (λx y H Q=>y=.non/\Q (.bl (!decide (x=.non))) H):=by
 intro pins s σ H x y v u Q I rx ry h;obtain⟨rfl,q⟩:=h;cases ry;refine isnot_none_gen (z7v I q ?_)
 cases x<;>first
  |(cases rx;rfl)
  |(obtain⟨t,rfl⟩:=rx;rfl)
def zcy{op:CmpOp}{r:R2}(ho:OpR X (Yy op) r)(ha:PE X a ta)(hb:PE X b tb)(hm:behindInMarks op b=false):PE X (.Compare a [op] [b] pos) (tOp r ta tb):=by
 intro pins s σ H Q I h;exact wpAny_Compare1 (binT ha hb I h λv u s2 x y H2 I2 rx ry q=>ho pins s2 σ H2 x y v u Q I2 rx ry q) hm
def zgA(t:TE):TT:=λσ H Q=>t σ H λx H'=>∃k,x=.bl k/\Q k H'
def ztx{op:CmpOp}{r:R2}(ho:OpR X (Yy op) r)(ha:PE X a ta)(hb:PE X b tb)(hm:behindInMarks op b=false):PT X (.Compare a [op] [b] pos) (zgA (tOp r ta tb)):=by
 intro pins s σ H Q I h
 refine wpAny_isTrue_Compare1 (thn (ha pins s σ H _ I h) λv s1 ⟨x,H1,I1,r1,q1⟩=>thn (hb pins s1 σ H1 _ I1 q1) λu s2 ⟨y,H2,I2,r2,q2⟩=>
  thn (ho pins s2 σ H2 x y v u _ I2 r1 r2 q2) λc s3 ⟨z,H3,I3,r3,k,e,q3⟩=>?_) hm
 subst e;cases r3;exact xv ⟨H3,I3,q3⟩
def sN:(yE:Nat)<2^63:=by rw[YA];decide
def vals1{x:V}{us:List yb}(r:Vals [x] us):∃u,us=[u]/\RelV x u:=by
 cases r with
 |cons r1 r2=>cases r2;exact⟨_,rfl,r1⟩
def vals2{x y:V}{us:List yb}(r:Vals [x,y] us):∃u w',us=[u,w']/\RelV x u/\RelV y w':=by
 cases r with
 |cons r1 r2=>
  cases r2 with
  |cons r3 r4=>cases r4;exact⟨_,_,rfl,r1,r3⟩
end
structure Sr(h:yV)(x dx C:yd)(mA:yy->Option yb):Prop where
 obj:h.get? x=some (W.instObj C dx)
 ns:h.Ns1 dx mA
 ne:dx≠x
def zFn{h:yV}{dx:yd}{mA:yy->Option yb}(n:h.Ns1 dx mA):∃od,h.get? dx=some od/\∀name,W.lookIn name od=some (mA name):=by
 obtain⟨o,es,ep,ho,hd,hk,_,hm⟩:=n;refine⟨o,ho,λname=>?_⟩;have e:=hm name;unfold nsFind findBy at e;rw[<-Array.find?_toList]at e;unfold W.lookIn;rw[hd];dsimp only
 split
 ·rename_i y q
  rw[q]at e;exact congrArg some e
 ·rename_i q
  rw[q]at e
  have a:es.toList.any (·.refKey)=false:=by
   rw[List.any_eq_false];intro y hy;obtain⟨z,t,hkey⟩:=hk y (Array.mem_toList_iff.mp hy);simp[DictEntry.refKey,hkey]
  have a':¬es.toList.any (·.refKey)=true:=by rw[a];exact yC
  rw[if_neg a'];exact congrArg some e
def Sr.look{h:yV}{x dx C:yd}{mA:yy->Option yb}(I:Sr h x dx C mA):∃od,W.InstAt h x (W.instObj C dx) C (some od)/\∀name,W.lookIn name od=some (mA name) :=
 let ⟨od,ho,hl⟩:=zFn I.ns
 ⟨od,⟨I.obj,rfl,rfl,ho⟩,hl⟩
section
variable {prog:yB}{w:yL}{A:yR}{E:yb->ye->Prop}{s:ye}{K:yw}{x dx C f:yd}{mA:yy->Option yb}{name:yy}{v:yb}
def zQw{expr:Bool}{Q:yb->ye->Prop}(X:K.In s.heap)(I:Sr s.heap x dx C mA)(hg:W.plainGet K C name=true)(hh:W.hasDictIn K C=true)
 (ha:Ym K (.ref C) name=some none) (hv:mA name=some v) (hv':W.handedIn v=true) (h:Q v {s with toks:=s.toks+1 }) :
 yo (yx prog w) A (getAttr (.ref x) name expr) Q E s:=by
 obtain⟨od,J,hl⟩:=I.look;exact W.get_value X J (W.plainGet_of hg).1 (W.findObj_own hh ha rfl (by rw[hl,hv])) hv' h
def zAv{pl:Sem Bool}{Q:yb×List yb->ye->Prop}(X:K.In s.heap)(I:Sr s.heap x dx C mA)(hg:W.plainGet K C name=true)
 (hf:Ym K (.ref C) name=some (some (.ref f))) (ht:W.isFn K (.ref f)=true) (hv:mA name=none) (h:Q (.ref f,[.ref x]) s) :
 yo (yx prog w) A (getMethod (.ref x) name pl) Q E s:=by
 obtain⟨od,J,hl⟩:=I.look;exact W.method_fn X J (W.plainGet_of hg).1 (W.plainGet_of hg).2 hf (beq_iff_eq.mp ht) (by show(W.lookIn name od).map (·.isSome)=some false;rw[hl,hv];rfl) h
def zGw{ns:List yy}{Q:Unit->ye->Prop}(X:K.In s.heap)(I:Sr s.heap x dx C mA)
 (hs:Ym K (.ref C) "__setattr__"=some (some (.builtin "object.__setattr__"))) (hp:W.plainOver K C=true) (ht:W.takerIn K C name=some none) (hh:W.hasDictIn K C=true)
 (hw:PySem.Within mA ns) (hsz:ns.length<=yE)
 (h:∀h',Sr h' x dx C (λy=>if y=name then some v else mA y)->yN dx s.heap h'->Q () {s with heap:=h',toks:=s.toks+2 }) :
 yo (yx prog w) A (setAttr (.ref x) name v) Q E s:=by
 obtain⟨od,J,hl⟩:=I.look;refine W.set_plain X J hs (W.osa_open (s:={s with toks:=s.toks+1 }) (r:=none) X J hp ht λb=>?_);obtain⟨cd,hc,hd'⟩:=W.any_some hh;have hx:s.heap.get? x=some ⟨.ref C,some dx,.plain,#[]⟩:=I.obj;refine ya (yg (ya (ya (wpAny_loadPart hx (ya (W.Looks.here (s:={s with toks:=s.toks+1 }) (W.looks_clsIn X hc) ?_))))));rw[hd'];refine yg (a:=some dx) (ya (yg (ya ?_)));refine wpAny_nsSet1 (s:={s with toks:=s.toks+1 }) I.ns λh' hn2 hs2=>?_;obtain⟨oD,esD,epD,hoD,hdD,hcD⟩:=hn2.count (PySem.Within.cons name v hw);refine ya (wpAny_lookBehind hoD (by rw[hdD];exact pastItsLine_dict (yG hcD (by rw[length_cons];omega))) ?_);exact yg (h _ ⟨(hs2.2 _ (yH I.ne)).trans I.obj,hn2,I.ne⟩ hs2)
def zbv{R:Result->ye->Prop}{vs:List yb}{kw:List (yy×yb)}(X:K.In s.heap)(hm:W.makesIn K C=true)
 (hi:Ym K (.ref C) "__init__"=some (some (.ref f))) (hf:W.typeIn K (.ref f)=some (.type "function"))
 (h:Xw (yx prog w) (A.under (.builtin "type.__call__" ⟨.ref C::vs,kw⟩)) (.call (.ref f) ⟨.ref (s.heap.objs.size+1)::vs,kw⟩) (W.InitBack (s.heap.objs.size+1) R)
  {s with heap:=(s.heap.push Xe).push (W.instObj C s.heap.objs.size)}) :
 Xw (yx prog w) A (.call (.ref C) ⟨vs,kw⟩) R s:=by
 obtain⟨hh,g,d,t,os⟩:=s;exact W.make_core (W.makes_of X hm) (W.looks_findIn X hi) (λself=>W.bind_fn X self hf) (.inl rfl) h
end
def zYk(f:yy)(v:V):List (yy×V)->List (yy×V)
 |[]=>[(f,v)]
 |(g,x)::r=>if g=f then(g,v)::r else(g,x)::zYk f v r
def zIj(f g:yy)(v:V):∀fs:List (yy×V),(zYk f v fs).lookup g=if g=f then some v else fs.lookup g
 |[]=>by
  show YR g [(f,v)]=_
  by_cases h:g=f
  ·have hb:(g==f)=true:=beq_iff_eq.mpr h;simp only[YR,hb,if_pos h]
  ·have hb:(g==f)=false:=beq_eq_false_iff_ne.mpr h;simp only[YR,hb,if_neg h]
 |(k,x)::r=>by
  have ih:=zIj f g v r;rw[show zYk f v ((k,x)::r)=(if k=f then(k,v)::r else(k,x)::zYk f v r) from rfl]
  by_cases hk:k=f
  ·rw[if_pos hk]
   by_cases h:g=k
   ·have hb:(g==k)=true:=beq_iff_eq.mpr h;simp only[YR,hb,if_pos (h.trans hk)]
   ·have hb:(g==k)=false:=beq_eq_false_iff_ne.mpr h;simp only[YR,hb,if_neg (λe:g=f=>h (e.trans hk.symm))]
  ·rw[if_neg hk]
   by_cases h:g=k
   ·have hb:(g==k)=true:=beq_iff_eq.mpr h;simp only[YR,hb,if_neg (λe:g=f=>hk (h.symm.trans e))]
   ·have hb:(g==k)=false:=beq_eq_false_iff_ne.mpr h;simp only[YR,hb];exact ih
def zXk(f:yy)(v:V):∀fs:List (yy×V),f∈(zYk f v fs).map (·.1)/\∀g,g∈fs.map (·.1)->g∈(zYk f v fs).map (·.1)
 |[]=>⟨by simp[zYk],λg h=>by simp at h⟩
 |(k,x)::r=>by
  obtain⟨i1,i2⟩:=zXk f v r;rw[show zYk f v ((k,x)::r)=(if k=f then(k,v)::r else(k,x)::zYk f v r) from rfl]
  by_cases hk:k=f
  ·rw[if_pos hk];subst hk;exact⟨by simp,λg h=>by simpa using h⟩
  ·rw[if_neg hk];refine⟨?_,λg h=>?_⟩
   ·rw[map_cons];exact mem_cons_of_mem _ i1
   ·rw[map_cons]at h ⊢;rcases List.mem_cons.mp h with e|e
    ·exact List.mem_cons.mpr (.inl e)
    ·exact mem_cons_of_mem _ (i2 g e)
def zNk(f:yy)(v:V):∀fs:List (yy×V),(zYk f v fs).length<=fs.length+1
 |[]=>by simp[zYk]
 |(k,x)::r=>by
  have ih:=zNk f v r;rw[show zYk f v ((k,x)::r)=(if k=f then(k,v)::r else(k,x)::zYk f v r) from rfl]
  by_cases hk:k=f
  ·rw[if_pos hk,length_cons,length_cons];omega
  ·rw[if_neg hk,length_cons,length_cons];omega
def TM.some_of{v:V}{o:Option yb}(r:TM (some v) o):∃u,o=some u/\RelV v u:=by
 cases o with
 |none=>exact(show False from r).elim
 |some u=>exact⟨u,rfl,r⟩
def TM.none_of{o:Option yb}(r:TM none o):o=none:=by
 cases o with
 |none=>rfl
 |some u=>exact(show False from r).elim
def z8n{v:V}{u:yb}(r:RelV v u):W.handedIn u=true:=by
 cases v with
 |non=>cases (show u=Yt from r);rfl
 |bl b=>cases (show u=Value.bool b from r);rfl
 |int i=>obtain⟨t,e⟩:=(show ∃t,u=Value.int i t from r);cases e;rfl
 |str x=>obtain⟨t,e⟩:=(show ∃t,u=Value.str x t from r);cases e;rfl
 |byt b=>obtain⟨t,e⟩:=(show ∃t,u=Value.bytes b t from r);cases e;rfl
 |flt b=>obtain⟨t,e⟩:=(show ∃t,u=Value.float b t from r);cases e;rfl
 |ref a=>cases (show u=yM a from r);rfl
 |ty n=>cases (show u=YK n from r);rfl
section
variable {P:yB}{w:yL}{H H':Hp}{h h':yV}{a C dx:yd}{fs fs':List (yy×V)}
def zop(hok:HOk P w H h)(e:H a=some (.ins C dx fs)):∃mA,Sr h a dx C mA/\(∀f,TM (fs.lookup f) (mA f))/\PySem.Within mA (fs.map (·.1))/\fs.length<=1000/\H dx=some (.own a):=by
 obtain⟨d,z,ne,ob,mA,n,r,q⟩:=(show tG P w H h a (.ins C dx fs) from hok a _ e)
 exact⟨mA,⟨ob,n,ne⟩,r,q,z,d⟩
end
structure Cls(K:yw)(C:yd):Prop where
 pg:W.plainGet K C Str.empty=true
 hd:W.hasDictIn K C=true
 po:W.plainOver K C=true
 sa:Ym K (.ref C) "__setattr__"=some (some (.builtin "object.__setattr__"))
def Cls.get{K:yw}{C:yd}(c:Cls K C)(f:yy):W.plainGet K C f=true:=c.pg
def sr(K:yw)(C:yd)(f:yy):Prop:=Ym K (.ref C) f=some none
def sr.taker{K:yw}{C:yd}{f:yy}(n:sr K C f):W.takerIn K C f=some none:=by
 unfold W.takerIn;rw[show Ym K (.ref C) f=some none from n];rfl
structure Con(K:yw)(C:yd)(f:yy)(v:V)(u:yb):Prop where
 at_:Ym K (.ref C) f=some (some u)
 rel:RelV v u
 get:W.specialIn K u "__get__"=some none
 cp:W.copiedNames.contains f=false
structure Meth(K:yw)(C:yd)(m:yy)(f:yd):Prop where
 at_:Ym K (.ref C) m=some (some (.ref f))
 fn:W.isFn K (.ref f)=true
 kp:W.keepIn K (.ref f)=true
section
variable {X:Cx}{pins:List (yd×YY)}{σ:St}{H:Hp}{s:ye}{a C dx:yd}{fs:List (yy×V)}{f:yy}{v:V}{A:yR}{E:yb->ye->Prop}
def zgr{b:Bool}{Q:yb->ye->Prop}(I:Inv X pins σ H s)(e:H a=some (.ins C dx fs))(c:Cls X.K C)(n:sr X.K C f)(l:fs.lookup f=some v)
 (h:∀u s',Inv X pins σ H s'->RelV v u->Q u s'):yo (yx X.prog X.w) A (getAttr (.ref a) f b) Q E s:=by
 obtain⟨mA,O,r,_,_,_⟩:=zop I.hok e;obtain⟨u,hu,ru⟩:=TM.some_of (v:=v) (o:=mA f) (by rw[<-l];exact r f);exact zQw I.kIn O (c.get f) c.hd n hu (z8n ru) (h u _ (I.tok _) ru)
def zAi{m:yy}{g:yd}{pl:Sem Bool}{Q:yb×List yb->ye->Prop}(I:Inv X pins σ H s)(e:H a=some (.ins C dx fs))(c:Cls X.K C)(k:Meth X.K C m g)(l:fs.lookup m=none)
 (h:Q (.ref g,[.ref a]) s):yo (yx X.prog X.w) A (getMethod (.ref a) m pl) Q E s:=by
 obtain⟨mA,O,r,_,_,_⟩:=zop I.hok e;have hn:mA m=none:=TM.none_of (by rw[<-l];exact r m);exact zAv I.kIn O (c.get m) k.at_ k.fn hn h
def zBr{y:V}{u:yb}{Q:Unit->ye->Prop}(I:Inv X pins σ H s)(e:H a=some (.ins C dx fs))(c:Cls X.K C)(n:sr X.K C f)(hl:fs.length<1000)(ry:RelV y u)
 (h:∀s',Inv X pins σ (upd H a (.ins C dx (zYk f y fs))) s'->Q () s'):yo (yx X.prog X.w) A (setAttr (.ref a) f u) Q E s:=by
 obtain⟨mA,O,r,wi,_,ho⟩:=zop I.hok e;have hz:(fs.map (·.1)).length<=yE:=by rw[length_map,YA];omega
 refine zGw I.kIn O c.sa c.po n.taker c.hd wi hz λh' O' sb=>h _ ?_;have hd:∃o,h'.get? dx=some o:=let ⟨o,_,_,e',_⟩:=O'.ns;⟨o,e'⟩;refine I.write (x:=a) (e:=dx) (by rw[e];exact True.intro) (.inr ho) (λb q hb z=>(sb.2 b hb).trans z) hd ?_;refine⟨by rw[zN O.ne];exact ho,?_,O.ne,O'.obj,_,O'.ns,λg=>?_,λg hg=>?_⟩
 ·have:=zNk f y fs;omega
 ·show TM ((zYk f y fs).lookup g) (if g=f then some u else mA g);rw[zIj]
  by_cases q:g=f
  ·rw[if_pos q,if_pos q];exact ry
  ·rw[if_neg q,if_neg q];exact r g
 ·by_cases q:g=f
  ·rw[q];exact(zXk f y fs).1
  ·refine(zXk f y fs).2 g (wi g λz=>hg ?_);show(if g=f then some u else mA g)=none;rw[if_neg q];exact z
def Inv.made(I:Inv X pins σ H s):Inv X pins σ (upd (upd H s.heap.objs.size (.own (s.heap.objs.size+1))) (s.heap.objs.size+1) (.ins C s.heap.objs.size []))
 {s with heap:=(s.heap.push Xe).push (W.instObj C s.heap.objs.size)}:=by
 have e1:(s.heap.push Xe).get? s.heap.objs.size=some Xe:=yn s.heap rfl
 have e2:((s.heap.push Xe).push (W.instObj C s.heap.objs.size)).get? (s.heap.objs.size+1)=some (W.instObj C s.heap.objs.size):=by
  have:=yn (s.heap.push Xe) (o:=W.instObj C s.heap.objs.size) rfl
  rwa [Yd]at this
 have e3:(s.heap.push Xe).Ns s.heap.objs.size (λ_=>none):=⟨Xe,#[],_,e1,rfl,(λe he=>absurd he (by simp)),λ_=>rfl⟩
 have I1:=I.laid (a:=s.heap.objs.size) (o:=.own (s.heap.objs.size+1)) (h':=s.heap.push Xe) (t':=s.toks) (λb u q=>yc _ q) (yk _) ⟨_,e1⟩;refine I1.laid (a:=s.heap.objs.size+1) (o:=.ins C s.heap.objs.size []) (t':=s.toks) (λb u q=>yc _ q) (Nat.le_of_eq (Yd _ _)) ?_;have ne:s.heap.objs.size≠s.heap.objs.size+1:=yt (Yu _);refine⟨by rw[zN ne,zG],YB _,ne,e2,λ_=>none,(Heap.Ns1.of_empty e3).at λo q=>yc _ q,λ_=>True.intro,λy hy=>absurd rfl hy⟩
def zps{prog:yB}{w:yL}{env:Env}{e:yF}{f:yy}{pos:xC}{s:ye}{Q:yb->ye->Prop}(hb:YL e f env (Yh e env)=Yh e env)
 (h:yo (yx prog w) A (Yh e env) (λo s₁=>yo (yx prog w) A (getAttr o f true) Q E s₁) E s):yo (yx prog w) A (Yh (.Attribute e f pos) env) Q E s :=
 Attribute_any_ h (by rw[arm_eval_Attribute,hb])
end
def zsB(K:yw)(ta:TE)(f:yy):TE:=λσ H Q=>ta σ H λx H1=>∃a C dx fs v,x=.ref a/\H1 a=some (.ins C dx fs)/\Cls K C/\sr K C f/\fs.lookup f=some v/\Q v H1
def zMB(K:yw)(ta tv:TE)(f:yy):TS:=λD σ H=>tv σ H λy H1=>ta σ H1 λx H2=>∃a C dx fs,x=.ref a/\H2 a=some (.ins C dx fs)/\Cls K C/\sr K C f/\fs.length<1000 /\
 D.nx σ (upd H2 a (.ins C dx (zYk f y fs)))
section
variable {X:Cx}{o e value:yF}{f:yy}{pos pos' tpos:xC}{ta tv:TE}
def zhz(he:PE X e ta)(hb:YL e f X.env (Yh e X.env)=Yh e X.env):PE X (.Attribute e f pos) (zsB X.K ta f):=by
 intro pins s σ H Q I h;refine zps hb (thn (he pins s σ H _ I h) λu s1 ⟨x,H1,I1,rx,a,C,dx,fs,v,ex,ea,c,n,l,q⟩=>?_);subst ex;obtain rfl:u=yM a:=rx;exact zgr I1 ea c n l λu' s2 I2 ru=>⟨v,H1,I2,ru,q⟩
def zVz(ha:PE X o ta)(hv:PE X value tv)(hs:Xl value (some (.Attribute o f pos')) pos.line X.env=pure false):PS X (.Assign [.Attribute o f pos'] value pos) (zMB X.K ta tv f):=by
 intro pins s σ H D I h;refine plainObj_wpAny_Assign_Attribute (thn (hv pins s σ H _ I h) λu s1 ⟨y,H1,I1,ry,q⟩=>thn (ha pins s1 σ H1 _ I1 q) λov s2 ⟨x,H2,I2,rx,a,C,dx,fs,ex,ea,c,n,l,q2⟩=>?_) hs;subst ex;obtain rfl:ov=yM a:=rx;exact zBr I2 ea c n l ry λs3 I3=>⟨σ,_,I3,q2⟩
end
section
variable {X:Cx}{pins:List (yd×YY)}{σ:St}{H:Hp}{s:ye}{A:yR}{E:yb->ye->Prop}{Q:yb->ye->Prop}{c:yb}{b:Bool}
inductive sO(K:yw)(H:Hp):V->yb->Prop where
 |non:sO K H .non (.type "NoneType")
 |bl (x:Bool):sO K H (.bl x) (.type "bool")
 |int (i:Int):sO K H (.int i) (.type "int")
 |str (x:yy):sO K H (.str x) (.type "str")
 |flt (x:UInt64):sO K H (.flt x) (.type "float")
 |lst {a:yd} {xs:List V} (e:H a=some (.lst xs)):sO K H (.ref a) (.type "list")
 |frz {a:yd} {o:YY} {xs:List V} (e:H a=some (.frz o (.lst xs))):sO K H (.ref a) (.type "list")
 |tup {a:yd} {xs:List V} (e:H a=some (.tup xs)):sO K H (.ref a) (.type "tuple")
 |dK {a:yd} {kvs:List (Key×V)} (e:H a=some (.dK kvs)):sO K H (.ref a) (.type "dict")
 |dT {a:yd} {kvs:List (List Key×V)} (e:H a=some (.dT kvs)):sO K H (.ref a) (.type "dict")
 |ins {a C dx:yd} {fs:List (yy×V)} (e:H a=some (.ins C dx fs)) (cl:Cls K C) (ha:Ym K (.ref C) "__class__"=some (some (.builtin "object.__class__")))
  (hn:W.specialIn K (.builtin "object.__class__") "__get__"=some (some (.builtin "getset_descriptor.__get__"))) (htk:W.takesIn K (.builtin "object.__class__")=some true)
  (hm:W.mroIn K C (.type "object")=some true):sO K H (.ref a) (.ref C)
end
structure tS(k:Nat)(A:yR):Prop where
 hd:A.handled=none
 dp:A.depth+3*k+5<recursionLimit
 un:A.units+16*k+200<cLine
 gd:A.guards=some []
def tS.mono{j k:Nat}{A:yR}(r:tS k A)(h:j<=k):tS j A:=⟨r.hd,by have:=r.dp;omega,by have:=r.un;omega,r.gd⟩
def tS.deeper{k:Nat}{A:yR}(r:tS (k+1) A)(env:Env):tS k (A.deeper env) :=
 ⟨r.hd,by have:=r.dp;show A.depth+1+3*k+5<_;omega,by have:=r.un;show A.units+3+16*k+200<_;omega,r.gd⟩
def zvr{A:yR}{C:yd}{us:List yb}{kw:List (yy×yb)}:(A.under (.builtin "type.__call__" ⟨.ref C::us,kw⟩)).depth=A.depth+1:=by
 first|rfl|simp[Around.under,Code.weight,Code.isCreation,Code.isGuard,Code.isCaller,Code.frames,Code.isFrame,guardIds]
def z8r{A:yR}{C:yd}{us:List yb}{kw:List (yy×yb)}:(A.under (.builtin "type.__call__" ⟨.ref C::us,kw⟩)).units=A.units+1:=by
 first|rfl|simp[Around.under,Code.cUnits,Code.frames,Code.isFrame]
def zTp{A:yR}{C:yd}{us:List yb}{kw:List (yy×yb)}:(A.under (.builtin "type.__call__" ⟨.ref C::us,kw⟩)).guards=A.guards:=by
 first|rfl|(cases h:A.guards<;>simp[Around.under,Code.guards,Code.isGuard,guardIds,h])
def tS.make{k:Nat}{A:yR}(r:tS (k+1) A)(C:yd)(us:List yb)(kw:List (yy×yb)):tS k (A.under (.builtin "type.__call__" ⟨.ref C::us,kw⟩)) :=
 ⟨r.hd,by have:=r.dp;rw[zvr];omega,by have:=r.un;rw[z8r];omega,by rw[zTp];exact r.gd⟩
def tS.depth{k:Nat}{A:yR}(r:tS k A):A.depth<recursionLimit:=by have:=r.dp;omega
def tS.units{k:Nat}{A:yR}(r:tS k A):A.units+64<cLine:=by have:=r.un;omega
def zgB:TA:=λ_ H Q=>Q [] H
def zFA(ta:TE)(tr:TA):TA:=λσ H Q=>ta σ H λx H1=>tr σ H1 λxs H2=>Q (x::xs) H2
section
variable {X:Cx}{e:yF}{es:List yF}{te:TE}{t:TA}{pos:xC}
def zmf:PA X [] zgB:=λ_ _ _ _ H Q I h=>Calls.spliced_nil ⟨[],H,I,.nil,h⟩
def zQc(ha:PE X e te)(hr:PA X es t)(hs:yj (e::es) X.env=(false,Yh e X.env)::yj es X.env:=by rfl):PA X (e::es) (zFA te t):=by
 intro pos pins s σ H Q I h;rw[hs];show yo _ _ (spliced ((false,Yh e X.env)::Yo pos (yj es X.env))) _ _ s;refine Calls.spliced_cons (thn (ha pins s σ H _ I h) λu s1 ⟨x,H1,I1,r1,q1⟩=>?_);exact thn (hr pos pins s1 σ H1 _ I1 q1) λus s2 ⟨xs,H2,I2,r2,q2⟩=>⟨x::xs,H2,I2,.cons r1 r2,q2⟩
def zWB(t:TA):TE:=λσ H Q=>t σ H λxs H1=>xs.length<=yE/\∀p,H1 p=none->Q (.ref p) (upd H1 p (.tup xs))
def zwB(t:TA):TE:=λσ H Q=>t σ H λxs H1=>xs.length<=yE/\∀p,H1 p=none->Q (.ref p) (upd H1 p (.lst xs))
def zIz{x1}(h:PA X es t):PE X (.Tuple es x1 pos) (zWB t):=by
 intro pins s σ H Q I hq;refine wpAny_Tuple_spliced (thn (h pos pins s σ H _ I hq) λus s1 ⟨xs,H1,I1,r,z,q⟩=>⟨by rw[<-r.length];exact z,?_⟩);have hf:H1 s1.heap.objs.size=none:=I1.hok.fresh (yk _);refine⟨.ref s1.heap.objs.size,upd H1 s1.heap.objs.size (.tup xs),I1.laid (t':=s1.toks) (λb u e=>yc _ e) (yk _) ?_,rfl,q _ hf⟩;exact⟨z,us,r,⟨_,yn _ rfl,rfl,_,rfl⟩⟩
def zWz(h:PA X es t):PE X (.List es pos) (zwB t):=by
 intro pins s σ H Q I hq;refine wpAny_List_spliced (thn (h pos pins s σ H _ I hq) λus s1 ⟨xs,H1,I1,r,z,q⟩=>⟨by rw[<-r.length];exact z,?_⟩);have hf:H1 s1.heap.objs.size=none:=I1.hok.fresh (yk _);refine⟨.ref s1.heap.objs.size,upd H1 s1.heap.objs.size (.lst xs),I1.laid (t':=s1.toks) (λb u e=>yc _ e) (yk _) ?_,rfl,q _ hf⟩;exact⟨z,us,0,r,yn _ rfl⟩
end
abbrev Sp:=List V->Hp->VK->XK->Prop
abbrev CXT:=List Env->Hp->ye->XK->yb->ye->Prop
structure Ss(P:yB)(w:yL)(K:yw)(mg:yy->Option yb)(base:yV)(A:yR)(outer:List Env)(s:ye)(H:Hp):Prop where
 frames:A.frames=some outer
 mod:Mod K mg base
 bs:∀b o,base.get? b=some o->s.heap.get? b=some o/\H b=none
 bsz:base.objs.size<=s.heap.objs.size
 sx:s.heap.FunFrames base outer
 frf:∀b∈frs outer,H b=none
 hok:HOk P w H s.heap
 bare:AllBare s.gens
def CE(outer:List Env)(P:yB)(w:yL)(H:Hp)(s:ye)(Q:VK)(u:yb)(s':ye):Prop :=
 ∃v H',s'.os=s.os/\AllBare s'.gens/\Un (frs outer) [] H H' s.heap s'.heap/\HOk P w H' s'.heap/\RelV v u/\Q v H'
def CR(CX:CXT)(outer:List Env)(P:yB)(w:yL)(H:Hp)(s:ye)(Q:VK)(E:XK)(r:Result)(s':ye):Prop :=
 match r with
 |.ok (.ret u)=>CE outer P w H s Q u s'
 |.ok _=>False
 |.error e=>CX outer H s E e s'
structure tq(P:yB)(w:yL)(K:yw)(mg:yy->Option yb)(base:yV)(CX:CXT)(k:Nat)(f:yd)(fd:yi)(ps:List yy)(sp:Sp):Prop where
 len:∀vs H Q E,sp vs H Q E->vs.length=ps.length
 run:∀(A:yR)(outer:List Env)(s:ye)(H:Hp)(args:Args)(us:List yb)(vs:List V)(Q:VK)(E:XK),tS k A->Ss P w K mg base A outer s H->BindsTo s fd args (ps.zip us)->Vals vs us->sp vs H Q E ->
  Xw (yx P w) A (.call (.ref f) args) (CR CX outer P w H s Q E) s
def Ss.make{P:yB}{w:yL}{K:yw}{mg:yy->Option yb}{base:yV}{A:yR}{outer:List Env}{s:ye}{H:Hp}(e:Ss P w K mg base A outer s H)(C:yd)(us:List yb)(kw:List (yy×yb)) :
 Ss P w K mg base (A.under (.builtin "type.__call__" ⟨.ref C::us,kw⟩)) outer s H:=⟨by first|exact e.frames|(simpa[Around.under,Code.envs,Code.isFrame,pushEnvs] using e.frames),e.mod,e.bs,e.bsz,e.sx,e.frf,e.hok,e.bare⟩
section
variable {X:Cx}{pins:List (yd×YY)}{σ:St}{H:Hp}{s s':ye}
def Inv.env0(I:Inv X pins σ H s):Ss X.prog X.w X.K X.mg X.base X.A X.stack s H :=
 ⟨I.ok.frames,I.ok.mod,I.bs,yG I.ok.bsz I.sz,I.stack,I.TH,I.hok,I.bare⟩
def Inv.after{Q:VK}{u:yb}(I:Inv X pins σ H s)(h:CE X.stack X.prog X.w H s Q u s'):EP X pins σ Q u s':=by
 obtain⟨v,H',os,bare,un,hok,r,q⟩:=h;obtain⟨hh,g,d,t,os'⟩:=s';obtain rfl:os'=s.os:=os;exact⟨v,H',I.call (h':=hh) (g':=g) (d':=d) (t':=t) (ch:=[]) un hok bare (λb z=>absurd z (by simp)),r,q⟩
end
def z1r(sp:Sp)(dvs:List V)(E:XK)(t:TA):TE:=λσ H Q=>t σ H λvs H1=>sp (vs++dvs) H1 Q E
def zlx(C:yd)(m:yy)(sp:Sp)(dvs:List V)(E:XK)(ta:TE)(t:TA):TE:=λσ H Q=>ta σ H λx H1=>∃a dx fs,x=.ref a/\H1 a=some (.ins C dx fs)/\fs.lookup m=none /\
 t σ H1 λvs H2=>sp (x::(vs++dvs)) H2 Q E
def z5A(C:yd)(sp:Sp)(dvs:List V)(E:XK)(t:TA):TE:=λσ H Q=>t σ H λvs H1=>∀x dx,H1 x=none->H1 dx=none->dx≠x ->
 sp (.ref x::(vs++dvs)) (upd (upd H1 dx (.own x)) x (.ins C dx [])) (λv H2=>v=.non/\Q (.ref x) H2) E
def Binds(K:yw)(fd:yi)(ps:List yy)(ds:List yb):Prop :=
 ∀(s:ye)(us:List yb),K.In s.heap->(us++ds).length=ps.length->BindsTo s fd ⟨us,[]⟩ (ps.zip (us++ds))
def Binds.all{K:yw}{fd:yi}{ps:List yy}(h:∀us:List yb,us.length=ps.length->bindArgs fd ⟨us,[]⟩=pure (ps.zip us)):Binds K fd ps []:=λs us _ hl=>by
 rw[append_nil]at hl ⊢;exact .of_eq (h us hl)
def zZg(CX:CXT)(X:Cx)(E:XK):Prop:=∀(pins:List (yd×YY)) (σ:St) (H:Hp) (s:ye) (e:yb) (s':ye),Inv X pins σ H s->CX X.stack H s E e s'->X.xe e s'
section
variable {X:Cx}{CX:CXT}{k:Nat}{f C:yd}{fd:yi}{ps:List yy}{sp:Sp}{dvs:List V}{ds:List yb}{E:XK}{x m:yy}{p pos apos:xC}{e o:yF}{es:List yF}{ta:TE}{t:TA}
def zFt{pins:List (yd×YY)}{σ:St}{H:Hp}{s:ye}{Q:VK}{us:List yb}{vs:List V}(F:tq X.prog X.w X.K X.mg X.base CX k f fd ps sp)(hr:tS k X.A)(hb:Binds X.K fd ps ds)(hd:Vals dvs ds)(hx:zZg CX X E)
 (I:Inv X pins σ H s) (r:Vals vs us) (h:sp (vs++dvs) H Q E):yo (yx X.prog X.w) X.A (call (.ref f) us) (EP X pins σ Q) X.xe s:=by
 have r2:Vals (vs++dvs) (us++ds):=r.append hd;have hl:(us++ds).length=ps.length:=by rw[<-r2.length];exact F.len _ _ _ _ h
 refine wpAny_call (YM (F.run X.A X.stack s H ⟨us,[]⟩ (us++ds) (vs++dvs) Q E hr I.env0 (hb s us I.kIn hl) r2 h) λr s' hq=>?_)
 cases r with
 |error e=>exact hx pins σ H s e s' I hq
 |ok fl=>
  cases fl with
  |ret u=>exact I.after hq
  |next=>exact YE hq
  |brk=>exact YE hq
  |cont=>exact YE hq
def zLt(F:tq X.prog X.w X.K X.mg X.base CX k f fd ps sp)(hr:tS k X.A)(hg:Gl X x)(hm:X.mg x=some (.ref f))(hk:W.keepIn X.K (.ref f)=true)(hb:Binds X.K fd ps ds)(hd:Vals dvs ds)(hx:zZg CX X E)
 (ha:PA X (e::es) t) (hdb:(x==("__debug__":yy))=false:=by decide) (he:yj (e::es) X.env=(false,Yh e X.env)::yj es X.env:=by rfl) (hpl:(Yo pos (yj es X.env)).any (·.1)=false:=by rfl) :
 PE X (.Call (.Name x p) (e::es) [] pos) (z1r sp dvs E t):=by
 intro pins s σ H Q I h;refine xH (z6f I hg hm ?_ hdb);refine W.callWith_K (h₀:=X.base) I.ok.mod.kin hk (thn (ha pos pins s σ H _ I h) λus s1 ⟨vs,H1,I1,r,q⟩=>⟨I1.kIn,?_⟩) he hpl;exact zFt F hr hb hd hx I1 r q
def zrx{pl:Sem Bool}(he:PE X o ta)(c:Cls X.K C)(hm:Meth X.K C m f)(F:tq X.prog X.w X.K X.mg X.base CX k f fd ps sp)(hr:tS k X.A)(hb:Binds X.K fd ps ds)(hd:Vals dvs ds)(hx:zZg CX X E)(ha:PA X (e::es) t)
 (hst:yj (e::es) X.env=(false,Yh e X.env)::yj es X.env:=by rfl) (hpl:(Yo pos (yj es X.env)).any (·.1)=false:=by rfl)
 (ht:Yh (.Call (.Attribute o m apos) (e::es) [] pos) X.env=(do
  let ov <-Yh o X.env
  standAt apos.atName
  let (f,first) <-xT [ov] (getMethod ov m pl)
  callWith pos f first (Yo pos (yj (e::es) X.env)) (xV pos (YS [] X.env))):=by rfl) :
 PE X (.Call (.Attribute o m apos) (e::es) [] pos) (zlx C m sp dvs E ta t):=by
 intro pins s σ H Q I h;refine W.methodCall_KW (pl:=pl) (thn (he pins s σ H _ I h) λu s1 ⟨x,H1,I1,rx,a,dx,fs,ex,ea,l,q⟩=>?_) ht;subst ex;obtain rfl:u=yM a:=rx;refine zAi I1 ea c hm l ?_;refine W.callWith_K (first:=[.ref a]) (h₀:=X.base) I.ok.mod.kin hm.kp (thn (ha pos pins s1 σ H1 _ I1 q) λus s2 ⟨vs,H2,I2,r,q2⟩=>⟨I2.kIn,?_⟩) hst hpl;exact zFt (us:=.ref a::us) (vs:=.ref a::vs) F hr hb hd hx I2 (.cons rfl r) q2
def zUu{pl:Sem Bool}(he:PE X o ta)(c:Cls X.K C)(hm:Meth X.K C m f)(F:tq X.prog X.w X.K X.mg X.base CX k f fd ps sp)(hr:tS k X.A)(hb:Binds X.K fd ps ds)(hd:Vals dvs ds)(hx:zZg CX X E)
 (ht:Yh (.Call (.Attribute o m apos) [] [] pos) X.env=(do
  let ov <-Yh o X.env
  standAt apos.atName
  let (f,first) <-xT [ov] (getMethod ov m pl)
  callWith pos f first (Yo pos (yj [] X.env)) (xV pos (YS [] X.env))):=by rfl) :
 PE X (.Call (.Attribute o m apos) [] [] pos) (zlx C m sp dvs E ta zgB):=by
 intro pins s σ H Q I h;refine W.methodCall_KW (pl:=pl) (thn (he pins s σ H _ I h) λu s1 ⟨x,H1,I1,rx,a,dx,fs,ex,ea,l,q⟩=>?_) ht;subst ex;obtain rfl:u=yM a:=rx;refine zAi I1 ea c hm l ?_;exact W.callWith_K0 (first:=[.ref a]) I1.kIn hm.kp (zFt (us:=[.ref a]) (vs:=[.ref a]) F hr hb hd hx I1 (.cons rfl .nil) q)
structure Mk(K:yw)(C f:yd):Prop where
 makes:W.makesIn K C=true
 init:Ym K (.ref C) "__init__"=some (some (.ref f))
 fn:W.isFn K (.ref f)=true
 kp:W.keepIn K (.ref C)=true
def zBv{pins:List (yd×YY)}{σ:St}{H:Hp}{s:ye}{Q:VK}{us:List yb}{vs:List V}(M:Mk X.K C f)(F:tq X.prog X.w X.K X.mg X.base CX k f fd ps sp)(hr:tS (k+1) X.A)(hb:Binds X.K fd ps ds)(hd:Vals dvs ds)
 (hx:zZg CX X E) (I:Inv X pins σ H s) (r:Vals vs us)
 (h:∀x dx,H x=none->H dx=none->dx≠x->sp (.ref x::(vs++dvs)) (upd (upd H dx (.own x)) x (.ins C dx [])) (λv H2=>v=.non/\Q (.ref x) H2) E) :
 yo (yx X.prog X.w) X.A (call (.ref C) us) (EP X pins σ Q) X.xe s:=by
 have hq:=h (s.heap.objs.size+1) s.heap.objs.size (I.hok.fresh (Xf _)) (I.hok.fresh (yk _)) (yt (Yu _));have I2:=Inv.made (C:=C) I;have r2:Vals (V.ref (s.heap.objs.size+1)::(vs++dvs)) (yM (s.heap.objs.size+1)::(us++ds)) :=.cons rfl (r.append hd)
 have hl:(yM (s.heap.objs.size+1)::us++ds).length=ps.length:=by
  have e:=r2.length;rw[F.len _ _ _ _ hq]at e;exact e.symm
 refine wpAny_call (zbv (f:=f) I.kIn M.makes M.init (beq_iff_eq.mp M.fn) (YM (F.run _ X.stack _ _ ⟨yM (s.heap.objs.size+1)::us,[]⟩ (yM (s.heap.objs.size+1)::(us++ds)) _ _ E (hr.make C us [])
  (I2.env0.make C us []) (hb _ (yM (s.heap.objs.size+1)::us) I2.kIn hl) r2 hq) λr s' hq'=>?_))
 cases r with
 |error e=>exact hx pins σ _ _ e s' I2 hq'
 |ok fl=>
  cases fl with
  |ret u=>
   obtain⟨v,H',I3,rv,ev,q3⟩:=I2.after hq';subst ev;exact⟨rv,⟨V.ref (s.heap.objs.size+1),H',I3,rfl,q3⟩⟩
  |next=>exact YE hq'
  |brk=>exact YE hq'
  |cont=>exact YE hq'
def zCw(M:Mk X.K C f)(F:tq X.prog X.w X.K X.mg X.base CX k f fd ps sp)(hr:tS (k+1) X.A)(hg:Gl X x)(hm:X.mg x=some (.ref C))(hb:Binds X.K fd ps ds)(hd:Vals dvs ds)(hx:zZg CX X E)
 (ha:PA X (e::es) t) (hdb:(x==("__debug__":yy))=false:=by decide) (he:yj (e::es) X.env=(false,Yh e X.env)::yj es X.env:=by rfl) (hpl:(Yo pos (yj es X.env)).any (·.1)=false:=by rfl) :
 PE X (.Call (.Name x p) (e::es) [] pos) (z5A C sp dvs E t):=by
 intro pins s σ H Q I h;refine xH (z6f I hg hm ?_ hdb);refine W.callWith_K (h₀:=X.base) I.ok.mod.kin M.kp (thn (ha pos pins s σ H _ I h) λus s1 ⟨vs,H1,I1,r,q⟩=>⟨I1.kIn,?_⟩) he hpl;exact zBv M F hr hb hd hx I1 r q
end
section
variable {X:Cx}{CX:CXT}{k:Nat}{f C:yd}{fd:yi}{ps ks:List yy}{sp:Sp}{E:XK}{x m:yy}{p pos apos kpos:xC}{e o:yF}{es:List yF}{kws:List xN}{te ta:TE}{t tk:TA}{nm:Option yy}
structure KBinds(K:yw)(fd:yi)(ps ks:List yy)(g:List yb->List yb->List yb)(gV:List V->List V->List V):Prop where
 to:∀(s:ye)(us ws:List yb),K.In s.heap->(g us ws).length=ps.length->BindsTo s fd ⟨us,ks.zip ws⟩ (ps.zip (g us ws))
 rel:∀{vs:List V} {us:List yb} {zs:List V} {ws:List yb},Vals vs us->Vals zs ws->Vals (gV vs zs) (g us ws)
variable {g:List yb->List yb->List yb}{gV:List V->List V->List V}
end
structure tu(N P:List yy)(sc:Xv):Prop where
 kind:sc.kind=.function
 co:sc.isCoroutine=false
 gen:sc.isGenerator=false
 nd:N.Nodup
 pre:N.take P.length=P
 par:∀x∈P,sc.names.lookup x=some .local\/sc.names.lookup x=some .cell
 nofree:∀y∈sc.names,y.2≠.free
def zvn{kindOf:yy->Option xt}{x:yy}:∀{binds:List (yy×yb)} {m:yy->Option yb},(∀v,(x,v)∉binds)->bindL kindOf binds m x=m x
 |[],_,_=>rfl
 |(n,v)::r,m,h=>by
  unfold bindL;rw[zvn λw hw=>h w (mem_cons_of_mem _ hw)]
  split
  ·have:x≠n:=by rintro rfl;exact h v mem_cons_self
   simp[this]
  ·rfl
def zqo{kindOf:yy->Option xt}{x:yy}:∀{binds:List (yy×yb)} {m:yy->Option yb},(∀v,(x,v)∉binds)->bindC kindOf binds m x=m x
 |[],_,_=>rfl
 |(n,v)::r,m,h=>by
  unfold bindC;rw[zqo λw hw=>h w (mem_cons_of_mem _ hw)]
  split
  ·rfl
  ·have:x≠n:=by rintro rfl;exact h v mem_cons_self
   simp[this]
def zho{kindOf:yy->Option xt}{x:yy}{v:yb}:∀{P:List yy} {vs:List yb} {i:Nat} {m:yy->Option yb},P.Nodup->P[i]?=some x->vs[i]?=some v->kindOf x=some .local ->
 bindL kindOf (P.zip vs) m x=some v
 |[],_,_,_,_,h,_,_=>by simp at h
 |_::_,[],_,_,_,_,h,_=>by simp at h
 |p::P,w::vs,0,m,nd,h1,h2,hk=>by
  simp at h1 h2;subst h1;subst h2;show bindL kindOf ((p,w)::P.zip vs) m p=_;unfold bindL;rw[zvn λv hv=>(List.nodup_cons.mp nd).1 (of_mem_zip hv).1,if_pos hk];simp
 |p::P,w::vs,i+1,m,nd,h1,h2,hk=>by
  show bindL kindOf ((p,w)::P.zip vs) m x=_;unfold bindL;exact zho (i:=i) (List.nodup_cons.mp nd).2 (by simpa using h1) (by simpa using h2) hk
def zno{kindOf:yy->Option xt}{x:yy}{v:yb}:∀{P:List yy} {vs:List yb} {i:Nat} {m:yy->Option yb},P.Nodup->P[i]?=some x->vs[i]?=some v->kindOf x≠some .local ->
 bindC kindOf (P.zip vs) m x=some v
 |[],_,_,_,_,h,_,_=>by simp at h
 |_::_,[],_,_,_,_,h,_=>by simp at h
 |p::P,w::vs,0,m,nd,h1,h2,hk=>by
  simp at h1 h2;subst h1;subst h2;show bindC kindOf ((p,w)::P.zip vs) m p=_;unfold bindC;rw[zqo λv hv=>(List.nodup_cons.mp nd).1 (of_mem_zip hv).1,if_neg hk];simp
 |p::P,w::vs,i+1,m,nd,h1,h2,hk=>by
  show bindC kindOf ((p,w)::P.zip vs) m x=_;unfold bindC;exact zno (i:=i) (List.nodup_cons.mp nd).2 (by simpa using h1) (by simpa using h2) hk
def start(N:List yy)(vs:List V):St:=vs.map some++yD (N.length-vs.length) none
def zms(CX:CXT)(P:yB)(w:yL)(K:yw)(mg:yy->Option yb)(base:yV)(N:List yy)(qual:yy)(scope:Xv)(f:yd)(cd:yb)(A:yR)(outer:List Env)(s:ye)(H:Hp)(E:XK):Cx where
 prog:=P
 w:=w
 K:=K
 mg:=mg
 base:=base
 A:=A.deeper (envOfC qual scope s.heap.objs.size f cd)
 N:=N
 s₀:=s
 H₀:=H
 env:=envOfC qual scope s.heap.objs.size f cd
 outer:=outer
 stack:=envOfC qual scope s.heap.objs.size f cd::outer
 ex:=[]
 calm:=true
 fn:=λ_=>true
 pn:=[]
 xe:=λe s'=>yo (yx P w) (A.deeper (envOfC qual scope s.heap.objs.size f cd)) (leaving (envOfC qual scope s.heap.objs.size f cd) e) (λ_ s''=>CX outer H s E e s'') (λe' s''=>CX outer H s E e' s'') s'
def z2p{sc:Xv}{n:Nat}{x:yy}(h:sc.names.lookup x=some .cell):∃c,(Yv n sc.names []).lookup x=some c:=by
 have q:=W.cellsFrom_some sc.names n [] (.inl h);exact Option.isSome_iff_exists.mp q
def znu{CX:CXT}{P:yB}{w:yL}{K:yw}{mg:yy->Option yb}{base:yV}{N ps:List yy}{qual:yy}{scope:Xv}{f:yd}{cd:yb}{A:yR}{outer:List Env}{s s1:ye}{H:Hp}{E:XK}{us:List yb}{vs:List V}
 (S:tu N ps scope) (hd:A.handled=none) (e0:Ss P w K mg base A outer s H) (hl:vs.length=ps.length) (r:Vals vs us)
 (x:InCallC s s.heap.objs.size (bindL (envOfC qual scope s.heap.objs.size f cd).kindOf (ps.zip us) λ_=>none) (Yv (s.heap.objs.size+1) scope.names []) (bindC (envOfC qual scope s.heap.objs.size f cd).kindOf (ps.zip us) λ_=>none) s1) :
 Inv (zms CX P w K mg base N qual scope f cd A outer s H E) [] (start N vs) H s1:=by
 have hpl:ps.length<=N.length:=by have:=congrArg List.length S.pre;rw[length_take]at this;omega
 obtain⟨h1,tk,rfl,hk⟩:=x.done;have noA:∀b:yd,b∉(zms CX P w K mg base N qual scope f cd A outer s H E).ex:=λb z=>absurd (show b∈([]:List yd) from z) (by simp)
 refine⟨⟨e0.mod,S.kind,rfl,rfl,yk _,λy z c h1 h2=>?_,λy hy=>?_,λy c _ h=>?_,λ_=>hd,Around.frames_deeper e0.frames,.inr ⟨rfl,rfl⟩,λb z=>absurd z (noA b),e0.bs,e0.bsz,λb _ _=>noA b,λb z=>absurd z (noA b),e0.sx,e0.frf⟩,
  rfl,e0.bare,Un.kept hk,⟨_,x.toInCall.ns,λi y v h1 h2 h3=>?_⟩,λy c h=>⟨_,x.cell y c h⟩,e0.hok.fresh (yk _),λy c h=>?_,λp hp=>absurd (show p∈([]:List (yd×YY)) from hp) (by simp),e0.hok.kept hk,?_⟩
 ·exact name_of_addr x.apart (Yk h1) (Yk h2)
 ·have hy:scope.names.lookup y=some .cell\/scope.names.lookup y=some .free:=hy;rcases hy with hy|hy
  ·exact z2p hy
  ·exact absurd rfl (S.nofree _ (Yk hy))
 ·exact YI (x.above y c (Yk h))
 ·have hi:i<vs.length:=by
   unfold start at h2
   by_cases hi:i<vs.length
   ·exact hi
   ·rw[yJ (by simpa using hi)]at h2;rw[YW]at h2
    split at h2<;>cases h2
  have ha:vs[i]?=some v:=by
   unfold start at h2;rw[yq (by simpa using hi),yh]at h2
   cases e:vs[i]? with
   |none=>rw[e]at h2;cases h2
   |some a=>rw[e]at h2;cases h2;rfl
  obtain⟨u,hu,rv⟩:=r.get ha
  have hp:ps[i]?=some y:=by
   rw[<-S.pre,List.getElem?_take_of_lt (by omega)];exact h1
  have ndP:ps.Nodup:=by rw[<-S.pre];exact S.nd.sublist (List.take_sublist _ _)
  refine⟨u,rv,?_⟩;rcases S.par y (mem_of_getElem? hp) with k|k
  ·exact .inl ⟨k,zho ndP hp hu k⟩
  ·obtain⟨c,e⟩:=z2p (n:=s.heap.objs.size+1) k;refine .inr ⟨.inl k,c,e,?_⟩;have q:=x.cell y c e;rw[zno ndP hp hu (by show scope.names.lookup y≠_;rw[k];decide)]at q;exact q
 ·exact e0.hok.fresh (YI (x.above y c (Yk h)))
 ·unfold start;show _=N.length;rw[length_append,length_map,Xq];omega
def zWy{CX:CXT}{P:yB}{w:yL}{K:yw}{mg:yy->Option yb}{base:yV}{k:Nat}{f:yd}{name qual:yy}{params:Arguments}{body:List Yi}{scope:Xv}{dV kV doc pm cdv ct oc:yb}{an od:Option yd}
 {osl:Array (Option yb)} {N ps:List yy} {sp:Sp} (lk:K.lookup f=some ⟨oc,od,.func (W.fnOf name qual params body scope dV kV doc pm an cdv ct),osl⟩) (hcd:W.codeIn K cdv qual=true) (S:tu N ps scope)
 (len:∀vs H Q E,sp vs H Q E->vs.length=ps.length)
 (hbody:∀(A:yR)(outer:List Env)(s:ye)(H:Hp)(vs:List V)(Q:VK)(E:XK),tS k (A.deeper (envOfC qual scope s.heap.objs.size f cdv))->sp vs H Q E ->
  ∃t,PSs (zms CX P w K mg base N qual scope f cdv A outer s H E) body t/\t {nx:=λ_ H'=>Q .non H',rt:=Q } (start N vs) H) :
 tq P w K mg base CX (k+1) f (W.fnOf name qual params body scope dV kV doc pm an cdv ct) ps sp:=by
 refine⟨len,λA outer s H args us vs Q E hr e0 hb r hsp=>?_⟩;have hl:=len _ _ _ _ hsp;have KX:K.In s.heap:=e0.mod.kin.keeps λb o e=>(e0.bs b o e).1;have lim:s.heap.NoLimit:=e0.mod.nolimit.keeps λb o e=>(e0.bs b o e).1
 have hkind:∀y∈ps.zip us,scope.names.lookup y.1=some .local\/(scope.names.lookup y.1=some .cell/\((Yv (s.heap.objs.size+1) scope.names []).lookup y.1).isSome=true):=λ⟨n,v⟩ hy=>by
  rcases S.par n (of_mem_zip hy).1 with q|q
  ·exact .inl q
  ·exact .inr ⟨q,W.cellsFrom_some _ _ _ (.inl q)⟩
 refine codeAny_call_function hr.depth (KX _ _ lk) rfl S.co S.gen rfl (W.codeRec_of KX hcd) (hb _ _ _ _ ?_);refine wpAny_newFunctionEnv_cells S.kind hkind λenv he s1 x=>?_;subst he;refine⟨lim.keeps x.toInCall.keep,codeAny_func ?_⟩;obtain⟨t,ht,hq⟩:=hbody A outer s H vs Q E (hr.deeper _) hsp;have I:Inv (zms CX P w K mg base N qual scope f cdv A outer s H E) [] (start N vs) H s1:=znu S hr.hd e0 hl r x;refine Yb (ht [] s1 (start N vs) H _ I hq) (λfl s' hs=>?_) λe s' hs=>hs
 have fin:∀{σ':St} {H':Hp} {v:V} {u:yb},Inv (zms CX P w K mg base N qual scope f cdv A outer s H E) [] σ' H' s'->RelV v u->Q v H'->CE outer P w H s Q u s' :=
  λ{σ' H' v u} J rv q=>⟨v,H',J.os,J.bare,J.base,J.hok,rv,q⟩
 cases fl with
 |ret u=>
  obtain⟨v,σ',H',J,rv,q⟩:=hs;exact fin J rv q
 |next=>
  obtain⟨σ',H',J,q⟩:=hs;exact fin (v:=V.non) (u:=Yt) J rfl q
 |brk=>
  obtain⟨_,_,_,q⟩:=hs;exact YE q
 |cont=>
  obtain⟨_,_,_,q⟩:=hs;exact YE q
section
variable {X:Cx}{x:yy}{p pos:xC}{e:yF}{es:List yF}{t:TA}{id T:String}{r:List V->Hp->VK->Prop}
def tCB(r:List V->Hp->VK->Prop)(t:TA):TE:=λσ H Q=>t σ H λvs H1=>r vs H1 Q
def zLm(hc:zRj X (.builtin id) r)(hg:Gl X x)(hm:X.mg x=none)(hv:yQ x=some (.builtin id))(ha:PA X (e::es) t)(hn:x≠"__name__":=by decide)(hdb:(x==("__debug__":yy))=false:=by decide)
 (he:yj (e::es) X.env=(false,Yh e X.env)::yj es X.env:=by rfl) (hpl:(Yo pos (yj es X.env)).any (·.1)=false:=by rfl):PE X (.Call (.Name x p) (e::es) [] pos) (tCB r t):=by
 intro pins s σ H Q I h;refine xH (ztk I hg hm hv ?_ hn hdb);exact PyProof.Rows.callWith_builtin1 (thn (ha pos pins s σ H _ I h) λus s1 ⟨vs,H1,I1,r1,q1⟩=>hc pins s1 σ H1 vs us Q I1 r1 q1) he hpl
def zxe(hc:zRj X (.type T) r)(hg:Gl X x)(hm:X.mg x=none)(hv:yQ x=some (.type T))(ha:PA X (e::es) t)(hn:x≠"__name__":=by decide)(hdb:(x==("__debug__":yy))=false:=by decide)
 (he:yj (e::es) X.env=(false,Yh e X.env)::yj es X.env:=by rfl) (hpl:(Yo pos (yj es X.env)).any (·.1)=false:=by rfl):PE X (.Call (.Name x p) (e::es) [] pos) (tCB r t):=by
 intro pins s σ H Q I h;refine xH (ztk I hg hm hv ?_ hn hdb);exact YJ (thn (ha pos pins s σ H _ I h) λus s1 ⟨vs,H1,I1,r1,q1⟩=>hc pins s1 σ H1 vs us Q I1 r1 q1) he hpl
end
end L2
namespace HT
open PySem PyProof.Rows
section
open PySem.SeqAt
open PySem.AutoSeq1 (wpAny_loadPart')
open PySem.MeetsSeq PySem.MeetsSeq2 PySem.MeetsSeq3
end
section
variable {prog:yB}{w:yL}{A:yR}{E:yb->ye->Prop}{s:ye}
def cat_tup{t b:yd}{vs ws:List yb}{Q:yb->ye->Prop}(ht:IsTup s.heap t vs.toArray)(hb:IsTup s.heap b ws.toArray)(hv:vs≠[])
 (h1:ws=[]->Q (.ref t) s) (h2:ws≠[]->Q (.ref s.heap.objs.size) {s with heap:=s.heap.push {cls:=.type "tuple",data:=.seq (vs++ws).toArray }})
 (hsz:vs.length+ws.length<=yE):yo (yx prog w) A (xG .Add (.ref t) (.ref b)) Q E s:=by
 obtain⟨⟨cls,dd,data,sl⟩,ho,hc,n,hd⟩:=id ht;obtain⟨⟨cls2,dd2,data2,sl2⟩,ho2,hc2,n2,hd2⟩:=id hb;simp only at hc hd hc2 hd2;subst hc hd hc2 hd2;have e:vs.toArray++ws.toArray=(vs++ws).toArray:=by simp
 by_cases hw:ws=[]
 ·exact concat_meets ⟨_,ho,rfl⟩ ⟨_,ho2,rfl⟩ noFill_tuple_add seq_tuple_add PySem.F.slot_tuple_add PySem.F.entry_tuple_add (PySem.F.args_tuple_add_2 _ _)
   (tuple_addW1 t b vs.toArray ws.toArray n n2 dd dd2 sl sl2 (by simpa using hv) (by simp[hw])) ⟨ho,ho2,h1 hw⟩
 ·refine concat_meets ⟨_,ho,rfl⟩ ⟨_,ho2,rfl⟩ noFill_tuple_add seq_tuple_add PySem.F.slot_tuple_add PySem.F.entry_tuple_add (PySem.F.args_tuple_add_2 _ _)
   (tuple_addW2 t b vs.toArray ws.toArray n n2 dd dd2 sl sl2 (by simpa using hv) (by simpa using hw) (by rw[size_toArray,size_toArray];exact hsz)) ⟨ho,ho2,?_⟩
  rw[e];exact h2 hw
def sIx(n d:Nat):Option Int->Nat
 |none=>d
 |some v=>if v<0 then(v+(n:Int)).toNat else min v.toNat n
def Sk(n d:Nat):sIx n d none=d:=rfl
def SD(n d k:Nat):sIx n d (some (k:Int))=min k n:=by
 show(if(k:Int)<0 then((k:Int)+(n:Int)).toNat else min (k:Int).toNat n)=min k n;rw[if_neg (by omega),YD]
def zmz(n d:Nat)(hd:d<=n)(o:Option Int):sIx n d o<=n:=by
 cases o with
 |none=>exact hd
 |some v=>
  show(if v<0 then(v+(n:Int)).toNat else min v.toNat n)<=n
  by_cases hv:v<0
  ·rw[if_pos hv];omega
  ·rw[if_neg hv];exact Nat.min_le_right _ _
def zKt(v:Int)(n d:Nat):(if v<0 then max (v+(n:Int)) 0 else min v (n:Int))=((sIx n d (some v):Nat):Int):=by
 show(if v<0 then max (v+(n:Int)) 0 else min v (n:Int))=(((if v<0 then(v+(n:Int)).toNat else min v.toNat n):Nat):Int)
 by_cases hv:v<0
 ·simp only[if_pos hv];omega
 ·simp only[if_neg hv];omega
def zur(lo hi:Option Int)(n:Nat):Builtin.Slice.sliceAdjust lo hi 1 (n:Int)=(((sIx n 0 lo:Nat):Int),((sIx n n hi:Nat):Int)):=by
 have h1:¬((1:Int)<0):=by omega
 unfold Builtin.Slice.sliceAdjust;simp only[h1,if_false];refine Prod.ext ?_ ?_
 ·cases lo with
  |none=>rfl
  |some v=>exact zKt v n 0
 ·cases hi with
  |none=>rfl
  |some v=>exact zKt v n n
def zqr(i j:Nat):xR (i:Int) (j:Int) 1=j-i:=by
 unfold xR;have h1:(1:Int)>0:=by omega
 simp only[h1,if_true,Int.ediv_one]
 split<;>omega
def zjl{v:yb}{o:Option Int}{Q:Option Int->ye->Prop}(p:IsPart v o)(h:Q o s):yo (yx prog w) A (Builtin.Slice.slicePartIndex v) Q E s:=by
 cases p with
 |none=>exact slicePart_none h
 |int i t=>exact slicePart_int h
def TB{sl:yd}{vl vu:yb}{lo hi:Option Int}{n:Nat}{Q:Int×Int×Nat->ye->Prop}(hs:s.heap.IsSliceOf sl vl vu .none)(pl:IsPart vl lo)(pu:IsPart vu hi)
 (h:Q (((sIx n 0 lo:Nat):Int),1,sIx n n hi-sIx n 0 lo) s):yo (yx prog w) A (Builtin.Slice.sliceApplied (.ref sl) (pure (n:Int))) Q E s:=by
 obtain⟨os,hos,hcs,hds⟩:=id hs;unfold Builtin.Slice.sliceApplied Builtin.Slice.sliceFields;refine ya (ya (Yn hos hds (x:=vl) rfl (ya (Yn hos hds (x:=vu) rfl (ya (Yn hos hds (x:=.none) rfl (yg ?_)))))));refine ya (slicePart_none ?_);show yo _ _ (if((1:Int)==0)=true then _ else _) _ _ s;rw[if_neg (by decide)];refine ya (zjl pl (ya (zjl pu (ya (yg ?_)))));show yo _ _ (match Builtin.Slice.sliceAdjust lo hi 1 (n:Int) with|(lo,hi)=>pure (lo,(1:Int),xR lo hi 1)) _ _ s;rw[zur lo hi n];show yo _ _ (pure (((sIx n 0 lo:Nat):Int),(1:Int),xR ((sIx n 0 lo:Nat):Int) ((sIx n n hi:Nat):Int) 1)) _ _ s;rw[zqr];exact yg h
def zEu(xs:Array yb)(i k:Nat):((yv k).filterMap λ(m:Nat)=>xs[((i:Int)+(m:Int)*1).toNat]?).toArray=((xs.toList.drop i).take k).toArray:=by
 have e:(λ(m:Nat)=>xs[((i:Int)+(m:Int)*1).toNat]?)=λm=>xs[i+m]?:=by
  funext m
  have:((i:Int)+(m:Int)*1).toNat=i+m:=by omega
  rw[this]
 rw[e];have:=pick_run xs i k;rw[List.filterMap_map]at this;have e2:((λx=>xs[x]?)∘λx=>i+x)=λm=>xs[i+m]?:=rfl;rw[e2]at this;rw[this]
def su{t sl:yd}{items:Array yb}{vl vu:yb}{lo hi:Option Int}{Q:yb->ye->Prop}(ht:IsTup s.heap t items)(hs:s.heap.IsSliceOf sl vl vu .none)(pl:IsPart vl lo)(pu:IsPart vu hi)
 (hw:¬(sIx items.size 0 lo=0/\sIx items.size items.size hi=items.size))
 (h:Q (.ref s.heap.objs.size) {s with heap:=s.heap.push {cls:=.type "tuple",data:=.seq ((items.toList.drop (sIx items.size 0 lo)).take (sIx items.size items.size hi-sIx items.size 0 lo)).toArray }})
 (hsz:items.size<=yE):yo (yx prog w) A (getItem (.ref t) (.ref sl)) Q E s:=by
 have htake:sizeOk (.seq ((items.toList.drop (sIx items.size 0 lo)).take (sIx items.size items.size hi-sIx items.size 0 lo)).toArray):=by
  show((items.toList.drop (sIx items.size 0 lo)).take (sIx items.size items.size hi-sIx items.size 0 lo)).toArray.size<=yE;rw[size_toArray,length_take,length_drop,Array.length_toList];omega
 have hj:sIx items.size items.size hi<=items.size:=zmz _ _ (yk _) hi;obtain⟨os,hos,hcs,hds⟩:=id hs;have hTs:s.TypeIs (.ref sl) "slice":=⟨os,hos,hcs⟩
 unfold getItem
 try with_reducible refine yY ?_
 first|refine ya (yg ?_)|skip
 refine ya (wpAny_sequenceKey ht.typeIs (by decide) ?_)
 refine ya (yZ (name:=YN "__getitem__") ht.typeIs xk
  (yW xk ht.typeIs entry_tuple_getitem ?_ (args_tuple_getitem _ _)))
 show yo _ _ (Builtin.Tuple.tupleItemsOf (.ref t) >>= _) _ _ s;refine ya (tupleItemsOf_ ht ?_);refine ya (XE hTs ?_);rw[if_pos (by decide)];refine ya (TB hs pl pu ?_)
 have hno:¬((((sIx items.size 0 lo:Nat):Int)==0&&(1:Int)==1&&(sIx items.size items.size hi-sIx items.size 0 lo)==items.size)=true):=by
  intro q;rw[yO,yO]at q;have q1:((sIx items.size 0 lo:Nat):Int)=0:=eq_of_beq q.1.1;have q2:sIx items.size items.size hi-sIx items.size 0 lo=items.size:=eq_of_beq q.2;exact hw ⟨by omega,by omega⟩
 show yo _ _ (if(((sIx items.size 0 lo:Nat):Int)==0&&(1:Int)==1&&(sIx items.size items.size hi-sIx items.size 0 lo)==items.size)=true then _ else _) _ _ s;rw[if_neg hno,zEu]
 first
  |exact ya (m:=xo _) (Ye (yg ⟨_,rfl,yg h⟩) htake)
  |exact ya (m:=xo _) (Ye (ya (yg (yg ⟨_,rfl,yg h⟩))) htake)
  |exact ya (ya (m:=xo _) (Ye (yg (yg ⟨_,rfl,yg h⟩)) htake))
  |exact ya (ya (m:=xo _) (Ye (yg ⟨_,rfl,yg h⟩) htake))
end
end HT
namespace L2
open PySem PySem.Spec PyProof.Rows
abbrev TO:=St->Hp->(Option Int->Hp->Prop)->Prop
def PO(X:Cx)(e:Option yF)(t:TO):Prop :=
 ∀(pins:List (yd×YY)) (s:ye) (σ:St) (H:Hp) (Q:Option Int->Hp->Prop),Inv X pins σ H s->t σ H Q ->
  yo (yx X.prog X.w) X.A (evalPart e X.env) (λu s'=>∃o H',Inv X pins σ H' s'/\IsPart u o/\Q o H') X.xe s
def zUw:TO:=λ_ H Q=>Q none H
def zXA(t:TE):TO:=λσ H Q=>t σ H λx H1=>∃i,x=.int i/\Q (some i) H1
def zlf{ns:List Int}:∀{us:List yb},Vals (ns.map V.int) us->IntsAre us ns:=by
 induction ns with
 |nil=>intro us r;rw[map_nil]at r;cases r;exact .nil
 |cons n ns ih=>
  intro us r;rw[map_cons]at r
  cases r with
  |cons r1 r2=>
   obtain⟨t,e⟩:=r1;subst e;exact .cons n t (ih r2)
section
variable {X:Cx}{e:yF}{te:TE}{lo hi:Option yF}{tl th:TO}{pos p2:xC}
def z8w:PO X none zUw:=by
 intro pins s σ H Q I h;rw[evalPart_none];exact yg ⟨none,H,I,.none,h⟩
def zzw(h:PE X e te):PO X (some e) (zXA te):=by
 intro pins s σ H Q I hw;rw[evalPart_some];refine thn (h pins s σ H _ I hw) λu s1 ⟨x,H1,I1,r1,q1⟩=>?_;obtain⟨i,rfl,q⟩:=q1;obtain⟨t,rfl⟩:=r1;exact⟨some i,H1,I1,.int i t,q⟩
def SlR(X:Cx)(r:V->Option Int->Option Int->Hp->VK->Prop):Prop :=
 ∀(pins:List (yd×YY)) (s:ye) (σ:St) (H:Hp) (x:V) (v vl vu:yb) (lo hi:Option Int) (sl:yd) (Q:VK),Inv X pins σ H s->RelV x v->s.heap.IsSliceOf sl vl vu .none->IsPart vl lo->IsPart vu hi->r x lo hi H Q ->
  ∃T id,typeLookup (.type T) "__getitem__"=pure (some (.builtin id))/\s.TypeIs v T/\yo (yx X.prog X.w) X.A (getItem v (.ref sl)) (EP X pins σ Q) X.xe s
def SlR.or{r r':V->Option Int->Option Int->Hp->VK->Prop}(h:SlR X r)(h':SlR X r'):SlR X (λx lo hi H Q=>r x lo hi H Q\/r' x lo hi H Q):=by
 intro pins s σ H x v vl vu lo hi sl Q I rx hs pl pu q;rcases q with q|q
 ·exact h pins s σ H x v vl vu lo hi sl Q I rx hs pl pu q
 ·exact h' pins s σ H x v vl vu lo hi sl Q I rx hs pl pu q
def tSl(r:V->Option Int->Option Int->Hp->VK->Prop)(te:TE)(tl th:TO):TE:=λσ H Q=>te σ H λx H1=>tl σ H1 λl H2=>th σ H2 λu H3=>r x l u H3 Q
def zsv{r:V->Option Int->Option Int->Hp->VK->Prop}(hr:SlR X r)(he:PE X e te)(hl:PO X lo tl)(hu:PO X hi th):PE X (.Subscript e (.Slice lo hi none p2) pos) (tSl r te tl th):=by
 intro pins s σ H Q I h;refine Subscript_ (thn (he pins s σ H _ I h) λv s1 ⟨x,H1,I1,r1,q1⟩=>?_);refine wpAny_Slice (thn (hl pins s1 σ H1 _ I1 q1) λvl s2 ⟨l,H2,I2,pl,q2⟩=>thn (hu pins s2 σ H2 _ I2 q2) λvu s3 ⟨u,H3,I3,pu,q3⟩=>?_);rw[evalPart_none];refine yg ?_;have I4:Inv X pins σ H3 {s3 with heap:=s3.heap.push {cls:=.type "slice",data:=.fields #[vl,vu,.none]}}:=I3.kept (t':=s3.toks) λb ob q=>yc _ q;obtain⟨T,id,hT,ht,hg⟩:=hr pins {s3 with heap:=s3.heap.push {cls:=.type "slice",data:=.fields #[vl,vu,.none]}} σ H3 x v vl vu l u s3.heap.objs.size Q I4 r1 (Heap.IsSliceOf.new ..) pl pu q3;show yo (yx X.prog X.w) X.A (subscriptTail e (.Slice lo hi none p2) v (.ref s3.heap.objs.size)) (EP X pins σ Q) X.xe {s3 with heap:=s3.heap.push {cls:=.type "slice",data:=.fields #[vl,vu,.none]}};exact tail_any (ops:=[.ref s3.heap.objs.size,v]) ht hT hg (by with_unfolding_all rfl)
def zkt(xs:List V)(lo hi:Option Int):List V:=(xs.drop (HT.sIx xs.length 0 lo)).take (HT.sIx xs.length xs.length hi-HT.sIx xs.length 0 lo)
def zKk(xs:List V)(lo hi:Option Int):(zkt xs lo hi).length<=xs.length:=by
 unfold zkt;rw[length_take,length_drop];omega
def zzB(K:yw):V->Option Int->Option Int->Hp->VK->Prop:=λx lo hi H Q=>∃a xs,x=.ref a/\SqT K H a xs /\
 ¬(HT.sIx xs.length 0 lo=0/\HT.sIx xs.length xs.length hi=xs.length)/\∀p,H p=none->Q (.ref p) (upd H p (.tup (zkt xs lo hi)))
def zbz:SlR X (zzB X.K):=by
 intro pins s σ H x v vl vu lo hi sl Q I rx hs pl pu h;obtain⟨a,xs,rfl,hx,hw,q⟩:=h;cases rx;obtain⟨its,r,ht,hz⟩:=I.tuple hx;have hlen:its.toArray.size=xs.length:=by rw[size_toArray];exact r.length.symm
 refine⟨"tuple",_,PyProof.Rows.slot_tuple_getitem.lookup,ht.typeIs,?_⟩;refine HT.su ht hs pl pu (by rw[hlen];exact hw) ?_ (by rw[hlen];exact hz);rw[hlen];refine⟨.ref s.heap.objs.size,_,I.laid (t':=s.toks) (o:=.tup (zkt xs lo hi)) (λb ob q=>yc _ q) (yk _) ?_,rfl,q _ (I.hok.fresh (yk _))⟩;exact⟨yG (zKk xs lo hi) hz,_,(r.drop (HT.sIx xs.length 0 lo)).take (HT.sIx xs.length xs.length hi-HT.sIx xs.length 0 lo),IsTup.new _ _⟩
def zqA(K:yw):R2:=λx y H Q=>∃a b xs ys,x=.ref a/\y=.ref b/\SqT K H a xs/\SqT K H b ys/\xs≠[]/\xs.length+ys.length<=yE /\
 (ys=[]->Q (.ref a) H)/\(ys≠[]->∀p,H p=none->Q (.ref p) (upd H p (.tup (xs++ys))))
def Vals.sJ{xs:List V}{us:List yb}(r:Vals xs us):us=[]↔xs=[]:=by
 cases r with
 |nil=>simp
 |cons _ _=>simp
def zCx:OpR X (xG .Add) (zqA X.K):=by
 intro pins s σ H x y v u Q I rx ry h;obtain⟨a,b,xs,ys,rfl,rfl,ha,hb,hx,hz,q1,q2⟩:=h;cases rx;cases ry;obtain⟨its,r1,p1,_⟩:=I.tuple ha;obtain⟨its2,r2,p2,_⟩:=I.tuple hb;refine HT.cat_tup p1 p2 (λz=>hx (r1.sJ.mp z)) (λz=>⟨.ref a,H,I,rfl,q1 (r2.sJ.mp z)⟩) (λz=>?_) (by rw[<-r1.length,<-r2.length];exact hz);refine⟨.ref s.heap.objs.size,_,I.laid (t':=s.toks) (o:=.tup (xs++ys)) (λb ob q=>yc _ q) (yk _) ?_,rfl,q2 (λw=>z (r2.sJ.mpr w)) _ (I.hok.fresh (yk _))⟩;exact⟨by rw[length_append];exact hz,_,r1.append r2,IsTup.new _ _⟩
end
def ixN(n:Nat)(i:Int):Option Nat:=if 0<=i then(if i<n then some i.toNat else none) else if -(n:Int)<=i then some (i+n).toNat else none
def atI{α:Type}(xs:List α)(i:Int):Option α:=(ixN xs.length i).bind λj=>xs[j]?
def zcu{n:Nat}{i:Int}{j:Nat}(h:ixN n i=some j):seqIndex? i n=some j/\j<n/\-(n:Int)<=i/\i<n:=by
 unfold ixN at h
 by_cases h0:0<=i
 ·rw[if_pos h0]at h
  by_cases h1:i<n
  ·rw[if_pos h1]at h;have e:i.toNat=j:=Yj h;exact⟨by rw[seqIndex_of h0 h1,e],by omega,by omega,h1⟩
  ·rw[if_neg h1]at h;cases h
 ·rw[if_neg h0]at h
  by_cases h1:-(n:Int)<=i
  ·rw[if_pos h1]at h;have e:(i+n).toNat=j:=Yj h;exact⟨by rw[seqIndex_neg (by omega) h1,e],by omega,h1,by omega⟩
  ·rw[if_neg h1]at h;cases h
def zVo{α:Type}{xs:List α}{i:Int}{v:α}(h:atI xs i=some v):∃j,seqIndex? i xs.length=some j/\xs[j]?=some v/\j<xs.length/\-(xs.length:Int)<=i/\i<xs.length:=by
 unfold atI at h
 cases e:ixN xs.length i with
 |none=>rw[e]at h;cases h
 |some j=>
  rw[e]at h;obtain⟨h1,h2,h3,h4⟩:=zcu e;exact⟨j,h1,h,h2,h3,h4⟩
def zmc{α:Type}{xs:List α}{j:Nat}{v:α}(h:xs[j]?=some v):atI xs (j:Int)=some v:=by
 have hj:j<xs.length:=(List.getElem?_eq_some_iff.mp h).1
 have e:ixN xs.length (j:Int)=some j:=by
  unfold ixN;rw[if_pos (by omega),if_pos (by omega)];simp
 unfold atI;rw[e];exact h
def zYo(b:yF):Prop:=∀o i,subscripted b false o i=operate [o,i] (getItem o i)
def IxR(X:Cx)(r:R2):Prop :=
 ∀(value slice:yF)(pins:List (yd×YY)) (s:ye) (σ:St) (H:Hp) (x y:V) (v u:yb) (Q:VK),Inv X pins σ H s->RelV x v->RelV y u->r x y H Q ->
  subscripted slice false v u=operate [v,u] (getItem v u)->yo (yx X.prog X.w) X.A (subscriptTail value slice v u) (EP X pins σ Q) X.xe s
def MtR(X:Cx)(id:String)(r:V->List V->Hp->VK->Prop):Prop :=
 ∀(pins:List (yd×YY)) (s:ye) (σ:St) (H:Hp) (x:V) (xs:List V) (v:yb) (us:List yb) (Q:VK),Inv X pins σ H s->RelV x v->Vals xs us->r x xs H Q ->
  yo (yx X.prog X.w) X.A (call (.builtin id) (v::us)) (EP X pins σ Q) X.xe s
section
variable {X:Cx}{a b:yF}{ta tb:TE}{pos:xC}
def IxR.or{r r':R2}(h:IxR X r)(h':IxR X r'):IxR X (λx y H Q=>r x y H Q\/r' x y H Q):=by
 intro value slice pins s σ H x y v u Q I rx ry q hs;rcases q with q|q
 ·exact h value slice pins s σ H x y v u Q I rx ry q hs
 ·exact h' value slice pins s σ H x y v u Q I rx ry q hs
def zjz{r:R2}(hr:IxR X r)(ha:PE X a ta)(hb:PE X b tb)(hs:zYo b):PE X (.Subscript a b pos) (tOp r ta tb):=by
 intro pins s σ H Q I h;exact Subscript_ (binT ha hb I h λv u s2 x y H2 I2 rx ry q=>hr a b pins s2 σ H2 x y v u Q I2 rx ry q (hs _ _))
def zaB(K:yw):R2:=λx y H Q=>∃p xs i v,x=.ref p/\y=.int i/\SqL K H p xs/\atI xs i=some v/\Q v H
def z9A(K:yw):R2:=λx y H Q=>∃p xs i v,x=.ref p/\y=.int i/\SqT K H p xs/\atI xs i=some v/\Q v H
def zcB:R2:=λx y H Q=>∃z i c,x=.str z/\y=.int i/\z.length<=yE/\atI z.cps.toList i=some c/\Q (.str ⟨#[c]⟩) H
def ix_list:IxR X (zaB X.K):=by
 intro value slice pins s σ H x y v u Q I rx ry h hs;obtain⟨p,xs,i,z,rfl,rfl,hq,he,q⟩:=h;cases rx;obtain⟨t,rfl⟩:=ry;obtain⟨its,r,pl,hz⟩:=I.list hq;obtain⟨j,h1,h2,h3,h4,h5⟩:=zVo he;obtain⟨w,ew,rw'⟩:=r.get h2;have hl:=r.length;have hn:=sN;have fin:EP X pins σ Q w s:=⟨z,H,I,rw',q⟩
 by_cases h0:0<=i
 ·have hj:i.toNat=j:=by
   rw[seqIndex_of h0 h5]at h1;exact Yj h1
  exact item_listR pl.isList h0 (by omega) (by rw[hj];simpa using ew) fin hs
 ·have hj:(i+(its.toArray.size:Int)).toNat=j:=by
   rw[seqIndex_neg (by omega) h4]at h1;rw[size_toArray,<-hl];exact Yj h1
  exact subscriptTail_builtinR (x:=w) pl.isList.typeIs slot_list_getitem.lookup
   (wpAny_getItem_list_neg (Q:=λr s'=>r=w/\EP X pins σ Q r s') pl.isList (by omega) (by rw[size_toArray]<;>omega) (by omega) (by rw[hj];simpa using ew) ⟨rfl,fin⟩) hs
def ix_tup:IxR X (z9A X.K):=by
 intro value slice pins s σ H x y v u Q I rx ry h hs;obtain⟨p,xs,i,z,rfl,rfl,hq,he,q⟩:=h;cases rx;obtain⟨t,rfl⟩:=ry;obtain⟨its,r,pl,hz⟩:=I.tuple hq;obtain⟨j,h1,h2,h3,h4,h5⟩:=zVo he;obtain⟨w,ew,rw'⟩:=r.get h2;have hl:=r.length;have hn:=sN;have fin:EP X pins σ Q w s:=⟨z,H,I,rw',q⟩
 exact subscriptTail_builtinR (x:=w) pl.typeIs slot_tuple_getitem.lookup
  (getItem_tuple (j:=j) (Q:=λr s'=>r=w/\EP X pins σ Q r s') pl (by omega) (by omega) (by rw[size_toArray,<-hl];exact h1) (by simpa using ew) ⟨rfl,fin⟩) hs
def zQz:IxR X zcB:=by
 intro value slice pins s σ H x y v u Q I rx ry h hs;obtain⟨z,i,c,rfl,rfl,hz,he,q⟩:=h;obtain⟨t,rfl⟩:=rx;obtain⟨t',rfl⟩:=ry;obtain⟨j,h1,h2,h3,h4,h5⟩:=zVo he;have hl:z.cps.toList.length=z.length:=by simp[Str.length]
 rw[hl]at h1 h4 h5;have hn:=sN
 exact tail_any (typeIs_str s z t) slot_str_getitem.lookup (getItem_str (c:=c) (by
  have e1:decide (i < -(2^63:Int))=false:=decide_eq_false (by omega);have e2:decide (i≥2^63)=false:=decide_eq_false (by omega);rw[e1,e2,Bool.or_false]) (by rw[h1];simpa using h2) ⟨.str ⟨#[c]⟩,H,I.tok _,⟨_,rfl⟩,q⟩) hs
def rIx(K:yw):R2:=λx y H Q=>zaB K x y H Q\/z9A K x y H Q\/zcB x y H Q
def zew:IxR X (rIx X.K):=ix_list.or (ix_tup.or zQz)
def zVr(its:List yb)(n j:Nat)(u:yb):Xg (·.setIfInBounds j u) {cls:=.type "list",data:=.seq its.toArray n } = {cls:=.type "list",data:=.seq (its.set j u).toArray n }:=by
 simp[Xg]
def Inv.lst{pins:List (yd×YY)}{σ:St}{H:Hp}{s:ye}{p:yd}{xs:List V}(I:Inv X pins σ H s)(h:H p=some (.lst xs)) :
 ∃(its:List yb)(n:Nat),Vals xs its/\s.heap.get? p=some {cls:=.type "list",data:=.seq its.toArray n }/\xs.length<=yE:=by
 obtain⟨z,its,n,r,e⟩:=I.hok p _ h;exact⟨its,n,r,e,z⟩
def Inv.lstUpd{pins:List (yd×YY)}{σ:St}{H:Hp}{s:ye}{p:yd}{xs ys:List V}{its its':List yb}{n n':Nat}{f:YY->YY}(I:Inv X pins σ H s)(h:H p=some (.lst xs))
 (ho:s.heap.get? p=some {cls:=.type "list",data:=.seq its.toArray n }) (hf:f {cls:=.type "list",data:=.seq its.toArray n } = {cls:=.type "list",data:=.seq its'.toArray n' }) (r:Vals ys its') (hz:ys.length<=yE) (t:Nat) :
 Inv X pins σ (upd H p (.lst ys)) {s with heap:=s.heap.update p f,toks:=t }:=by
 have e:(s.heap.update p f).get? p=some {cls:=.type "list",data:=.seq its'.toArray n' }:=by
  rw[yS f ho (by rw[hf]<;>rfl),hf]
 refine I.write (x:=p) (e:=p) (by rw[h];trivial) (.inl rfl) (λb u hb q=>(Yl _ _ (yH hb)).trans q) ⟨_,e⟩ ?_;exact⟨hz,its',n',r,e⟩
def zAA:V->V->V->Hp->(Hp->Prop)->Prop:=λo i v H Q=>∃p xs k j,o=.ref p/\i=.int k/\H p=some (.lst xs)/\ixN xs.length k=some j/\Q (upd H p (.lst (xs.set j v)))
def z8u:zYA X zAA:=by
 intro pins s σ H o i v ov iv u Q I ro ri rv h;obtain⟨p,xs,k,j,rfl,rfl,hp,hj,q⟩:=h;cases ro;obtain⟨t,rfl⟩:=ri;obtain⟨its,n,r,ho,hz⟩:=I.lst hp;obtain⟨h1,h2,h3,h4⟩:=zcu hj;have hl:=r.length;have hn:=sN
 have I':Inv X pins σ (upd H p (.lst (xs.set j v))) {s with heap:=s.heap.update p (Xg (·.setIfInBounds j u))} :=
  I.lstUpd hp ho (zVr its n j u) (r.set rv j) (by rw[length_set];exact hz) s.toks
 by_cases h0:0<=k
 ·have hk:k.toNat=j:=by
   rw[seqIndex_of h0 h4]at h1;exact Yj h1
  exact W.ki_setAt ho h0 (by omega) (by rw[size_toArray,<-hl];exact h4) (by rw[hk];exact⟨_,I',q⟩)
 ·have hk:(k+(its.toArray.size:Int)).toNat=j:=by
   rw[seqIndex_neg (by omega) h3]at h1;rw[size_toArray,<-hl];exact Yj h1
  exact W.ki_setBack ho (by omega) (by rw[size_toArray,<-hl];exact h3) (by omega) (by rw[hk];exact⟨_,I',q⟩)
def zso(lo hi:Option Int)(n:Nat):(sliceBounds lo hi none n).1=((HT.sIx n 0 lo:Nat):Int)/\(sliceBounds lo hi none n).2.1=((HT.sIx n n hi:Nat):Int)/\(sliceBounds lo hi none n).2.2=1:=by
 refine⟨?_,?_,rfl⟩
 ·cases lo with
  |none=>simp[sliceBounds,HT.sIx]
  |some i=>
   simp only[sliceBounds,HT.sIx,Option.getD_none,show(1:Int)>0 by decide,if_true]
   by_cases h:i<0
   ·simp only[h,if_true]<;>omega
   ·simp only[h,if_false]<;>omega
 ·cases hi with
  |none=>simp[sliceBounds,HT.sIx]
  |some i=>
   simp only[sliceBounds,HT.sIx,Option.getD_none,show(1:Int)>0 by decide,if_true]
   by_cases h:i<0
   ·simp only[h,if_true]<;>omega
   ·simp only[h,if_false]<;>omega
def zFm(its:List yb)(lo hi:Option Int):slicePick its.toArray lo hi none=((its.drop (HT.sIx its.length 0 lo)).take (HT.sIx its.length its.length hi-HT.sIx its.length 0 lo)).toArray:=by
 obtain⟨h1,h2,h3⟩:=zso lo hi its.toArray.size;unfold slicePick;rw[h1,h2,h3];simp only[sliceRange_one,pick_run,size_toArray]<;>rfl
def zSB(K:yw):V->Option Int->Option Int->Hp->VK->Prop:=λx lo hi H Q=>∃a xs,x=.ref a/\SqL K H a xs/\∀p,H p=none->Q (.ref p) (upd H p (.lst (zkt xs lo hi)))
def zfx:SlR X (zSB X.K):=by
 intro pins s σ H x v vl vu lo hi sl Q I rx hs pl pu h;obtain⟨a,xs,rfl,hx,q⟩:=h;cases rx;obtain⟨its,r,ht,hz⟩:=I.list hx;have hlen:=r.length;refine⟨"list",_,slot_list_getitem.lookup,ht.isList.typeIs,?_⟩;refine wpAny_getItem_list_slice ht.isList hs pl pu .none (by simp) ?_ (by rw[size_toArray]<;>omega);rw[zFm,<-hlen];refine⟨.ref s.heap.objs.size,_,I.laid (t':=s.toks) (o:=.lst (zkt xs lo hi)) (λb ob q=>yc _ q) (yk _) ?_,rfl,q _ (I.hok.fresh (yk _))⟩;exact⟨yG (zKk xs lo hi) hz,_,0,(r.drop (HT.sIx xs.length 0 lo)).take (HT.sIx xs.length xs.length hi-HT.sIx xs.length 0 lo),yn _ rfl⟩
def zxk:V->Bool
 |.non=>true
 |.bl _=>true
 |.int _=>true
 |.str _=>true
 |_=>false
def eqV:V->V->Bool
 |.non,.non=>true
 |.bl a,.bl b=>a==b
 |.bl a,.int b=>(if a then 1 else 0)==b
 |.int a,.bl b=>a==(if b then 1 else 0)
 |.int a,.int b=>a==b
 |.str a,.str b=>a==b
 |_,_=>false
def zXy{A:yR}{s:ye}{y x:V}{u v:yb}(ry:RelV y u)(rx:RelV x v)(fy:zxk y=true)(fx:zxk x=true):SeqAt.EqAt A s u v (eqV y x):=by
 cases y with
 |non=>
  cases ry
  cases x with
  |non=>cases rx;exact SeqAt.EqAt.same _
  |bl b=>cases rx;exact SeqAt.EqAt.none_bool b
  |int b=>obtain⟨t,rfl⟩:=rx;exact SeqAt.EqAt.none_int b t
  |str b=>obtain⟨t,rfl⟩:=rx;exact SeqAt.EqAt.none_str b t
  |_=>exact absurd (show false=true from fx) yC
 |bl a=>
  cases ry
  cases x with
  |non=>cases rx;exact SeqAt.EqAt.bool_none a
  |bl b=>cases rx;exact SeqAt.EqAt.bool_bool a b
  |int b=>obtain⟨t,rfl⟩:=rx;exact SeqAt.EqAt.bool_int a b t
  |str b=>obtain⟨t,rfl⟩:=rx;exact SeqAt.EqAt.bool_str a b t
  |_=>exact absurd (show false=true from fx) yC
 |int a=>
  obtain⟨t',rfl⟩:=ry
  cases x with
  |non=>cases rx;exact SeqAt.EqAt.int_none a t'
  |bl b=>cases rx;exact SeqAt.EqAt.int_bool a t' b
  |int b=>obtain⟨t,rfl⟩:=rx;exact SeqAt.EqAt.int_int a t' b t
  |str b=>obtain⟨t,rfl⟩:=rx;exact SeqAt.EqAt.int_str a t' b t
  |_=>exact absurd (show false=true from fx) yC
 |str a=>
  obtain⟨t',rfl⟩:=ry
  cases x with
  |non=>cases rx;exact SeqAt.EqAt.str_none a t'
  |bl b=>cases rx;exact SeqAt.EqAt.str_bool a t' b
  |int b=>obtain⟨t,rfl⟩:=rx;exact SeqAt.EqAt.str_int a t' b t
  |str b=>obtain⟨t,rfl⟩:=rx;exact SeqAt.EqAt.str_str a t' b t
  |_=>exact absurd (show false=true from fx) yC
 |_=>exact absurd (show false=true from fy) yC
def eqU(x:V)(u:yb):Bool:=match u with
 |.none=>eqV .non x
 |.bool b=>eqV (.bl b) x
 |.int i _=>eqV (.int i) x
 |.str z _=>eqV (.str z) x
 |_=>false
def zPt{x y:V}{u:yb}(r:RelV y u)(f:zxk y=true):eqU x u=eqV y x:=by
 cases y with
 |non=>cases r;rfl
 |bl b=>cases r;rfl
 |int i=>obtain⟨t,rfl⟩:=r;rfl
 |str z=>obtain⟨t,rfl⟩:=r;rfl
 |_=>exact absurd (show false=true from f) yC
def zAk{x:V}:∀{xs:List V} {us:List yb},Vals xs us->xs.all zxk=true->us.any (eqU x)=xs.any λy=>eqV y x
 |_,_,.nil,_=>rfl
 |y::xs,u::us,.cons r t,f=>by
  rw[all_cons,yO]at f;rw[any_cons,any_cons,zPt r f.1,zAk t f.2]
def zpg{A:yR}{s:ye}{x:V}{v:yb}(rx:RelV x v)(fx:zxk x=true):∀{xs:List V} {us:List yb},Vals xs us->xs.all zxk=true->∀u∈us,SeqAt.EqAt A s u v (eqU x u)
 |_,_,.nil,_=>λu hu=>by cases hu
 |y::xs,u::us,.cons r t,f=>λu' hu=>by
  rw[all_cons,yO]at f;rcases List.mem_cons.mp hu with rfl|hu
  ·rw[zPt r f.1];exact zXy r rx f.1 fx
  ·exact zpg rx fx t f.2 u' hu
def inV(x:V)(xs:List V):Bool:=xs.any λy=>eqV y x
def rIn(K:yw)(neg:Bool):R2:=λx y H Q=>∃p xs,y=.ref p/\(SqL K H p xs\/SqT K H p xs)/\zxk x=true/\xs.all zxk=true/\Q (.bl (if neg then !inV x xs else inV x xs)) H
def z4t:OpR X (Yy .In) (rIn X.K false):=by
 intro pins s σ H x y v u Q I rx ry h;obtain⟨p,xs,rfl,hq,fx,fs,q⟩:=h;cases ry;rcases hq with hq|hq
 ·obtain⟨its,r,pl,hz⟩:=I.list hq;refine SeqAt.in_listAt (eqU x) pl.isList (λw hw=>zpg rx fx r fs w (by simpa using hw)) ⟨.bl _,H,I,rfl,?_⟩;rw[show its.toArray.any (eqU x)=its.any (eqU x) by simp,zAk r fs];exact q
 ·obtain⟨its,r,pl,hz⟩:=I.tuple hq;refine SeqAt.in_tupleAt (eqU x) pl (λw hw=>zpg rx fx r fs w (by simpa using hw)) ⟨.bl _,H,I,rfl,?_⟩;rw[show its.toArray.any (eqU x)=its.any (eqU x) by simp,zAk r fs];exact q
def zko:OpR X (Yy .NotIn) (rIn X.K true):=by
 intro pins s σ H x y v u Q I rx ry h;obtain⟨p,xs,rfl,hq,fx,fs,q⟩:=h;cases ry;rcases hq with hq|hq
 ·obtain⟨its,r,pl,hz⟩:=I.list hq;refine SeqAt.notIn_listAt (eqU x) pl.isList (λw hw=>zpg rx fx r fs w (by simpa using hw)) ⟨.bl _,H,I,rfl,?_⟩;rw[show its.toArray.any (eqU x)=its.any (eqU x) by simp,zAk r fs];exact q
 ·obtain⟨its,r,pl,hz⟩:=I.tuple hq;refine SeqAt.notIn_tupleAt (eqU x) pl (λw hw=>zpg rx fx r fs w (by simpa using hw)) ⟨.bl _,H,I,rfl,?_⟩;rw[show its.toArray.any (eqU x)=its.any (eqU x) by simp,zAk r fs];exact q
def zdo:zRj X (.builtin "len") (λxs H Q=>∃p ys,xs=[.ref p]/\(SqL X.K H p ys\/SqT X.K H p ys)/\Q (.int ys.length) H):=by
 intro pins s σ H xs us Q I r h;obtain⟨p,ys,rfl,hq,q⟩:=h;obtain⟨u,rfl,rx⟩:=vals1 r;cases rx;have hn:=sN;rcases hq with hq|hq
 ·obtain⟨its,r',pl,hz⟩:=I.list hq;have hlen:=r'.length;exact Calls.call_len_list pl.isList (by simp only[size_toArray]<;>omega) ⟨.int ys.length,H,I.tok _,⟨s.toks+1,by rw[size_toArray,hlen]⟩,q⟩
 ·obtain⟨its,r',pl,hz⟩:=I.tuple hq;have hlen:=r'.length;exact len_tuple pl (by simp only[size_toArray]<;>omega) ⟨.int ys.length,H,I.tok _,⟨s.toks+1,by rw[size_toArray,hlen]⟩,q⟩
def zig:zRj X (.type "list") (λxs H Q=>∃p ys,xs=[.ref p]/\(SqL X.K H p ys\/SqT X.K H p ys)/\∀l,H l=none->Q (.ref l) (upd H l (.lst ys))):=by
 intro pins s σ H xs us Q I r h;obtain⟨p,ys,rfl,hq,q⟩:=h;obtain⟨u,rfl,rx⟩:=vals1 r;cases rx
 have fin:∀(its:List yb),Vals ys its->ys.length<=yE->∀(h':yV)(c':Nat),(∀b o',s.heap.get? b=some o'->h'.get? b=some o') ->
  h'.get? s.heap.objs.size=some {cls:=.type "list",dict:=none,data:=.seq its.toArray c',slots:=#[]}->EP X pins σ Q (.ref s.heap.objs.size) {s with heap:=h' }:=λits r' hz h' c' kp e=>
  ⟨.ref s.heap.objs.size,_,I.laid (t':=s.toks) kp (yk _) (show tG X.prog X.w _ h' _ (.lst ys) from⟨hz,its,c',r',e⟩),rfl,q _ (I.hok.fresh (yk _))⟩
 rcases hq with hq|hq
 ·obtain⟨its,r',pl,hz⟩:=I.list hq;have hlen:=r'.length;obtain⟨o,ho,hc,n,hd⟩:=pl.isList;exact call_list_seq p (.inl rfl) ho hc hd (λh' c' kp e=>fin its r' hz h' c' kp e) (by simp only[size_toArray]<;>omega)
 ·obtain⟨its,r',pl,hz⟩:=I.tuple hq;have hlen:=r'.length;obtain⟨o,ho,hc,n,hd⟩:=pl;exact call_list_seq p (.inr rfl) ho hc hd (λh' c' kp e=>fin its r' hz h' c' kp e) (by simp only[size_toArray]<;>omega)
def zzf:zRj X (.type "tuple") (λxs H Q=>∃p ys,xs=[.ref p]/\((SqL X.K H p ys/\∀l,H l=none->Q (.ref l) (upd H l (.tup ys)))\/(SqT X.K H p ys/\Q (.ref p) H))):=by
 intro pins s σ H xs us Q I r h;obtain⟨p,ys,rfl,h⟩:=h;obtain⟨u,rfl,rx⟩:=vals1 r;cases rx;rcases h with ⟨hq,q⟩|⟨hq,q⟩
 ·obtain⟨its,r',pl,hz⟩:=I.list hq;have hlen:=r'.length;refine call_tuple_list pl.isList (λh' kp=>?_) (by simp only[size_toArray]<;>omega);have I1:Inv X pins σ H {s with heap:=h' }:=I.kept (t':=s.toks) kp
  have I2:Inv X pins σ (upd H h'.objs.size (.tup ys)) {s with heap:=h'.push {cls:=.type "tuple",data:=.seq its.toArray }} :=
   I1.laid (t':=s.toks) (λb o e=>yc _ e) (yk _) (show tG X.prog X.w _ _ _ (.tup ys) from⟨hz,its,r',IsTup.new _ _⟩)
  exact⟨.ref h'.objs.size,_,I2,rfl,q _ (I1.hok.fresh (yk _))⟩
 ·obtain⟨its,r',pl,hz⟩:=I.tuple hq;exact call_tuple_same pl ⟨.ref p,H,I,rfl,q⟩
def tyV(K:yw)(T:String)(x:V)(H:Hp):Prop:=match x with
 |.str _=>T="str"
 |.int _=>T="int"
 |.ref p=>(T="list"/\∃xs,SqL K H p xs)\/(T="tuple"/\∃o,K.lookup p=some o/\o.cls=.type "tuple"/\o.dict=none) \/
  (T="dict"/\((∃kvs,H p=some (.dK kvs))\/∃kvs,H p=some (.dT kvs)))\/(T="set"/\∃S n,H p=some (.set S n))
 |_=>False
def zLy{pins:List (yd×YY)}{σ:St}{H:Hp}{s:ye}{T:String}{x:V}{v:yb}(I:Inv X pins σ H s)(r:RelV x v)(ty:tyV X.K T x H) :
 s.TypeIs v T/\∀a,v=.ref a->∃ob,s.heap.get? a=some ob/\ob.dict=none:=by
 cases x with
 |str z=>
  obtain⟨t,rfl⟩:=r;cases (show T="str" from ty);exact⟨typeIs_str s z t,λ_ e=>nomatch e⟩
 |int i=>
  obtain⟨t,rfl⟩:=r;cases (show T="int" from ty);exact⟨typeIs_int s i t,λ_ e=>nomatch e⟩
 |ref p=>
  cases r;rcases ty with ⟨rfl,xs,hq⟩|⟨rfl,o,hk,hc,hd⟩|⟨rfl,hk⟩|⟨rfl,S,n,hk⟩
  ·obtain⟨its,_,pl,_⟩:=I.list hq;refine⟨pl.isList.typeIs,λa e=>?_⟩;cases e;obtain⟨o,n,e,c,hd,_⟩:=pl;exact⟨o,e,hd⟩
  ·refine⟨⟨o,I.kIn p o hk,hc⟩,λa e=>?_⟩;cases e;exact⟨o,I.kIn _ o hk,hd⟩
  ·have z:∃o,s.heap.get? p=some o/\o.ExactDict:=by
    rcases hk with ⟨kvs,hk⟩|⟨kvs,hk⟩
    ·obtain⟨_,_,_,_,o,_,_,e,ex,_⟩:=I.hok p _ hk;exact⟨o,e,ex⟩
    ·obtain⟨_,_,_,_,o,_,_,e,ex,_⟩:=I.hok p _ hk;exact⟨o,e,ex⟩
   obtain⟨o,e,ex⟩:=z;refine⟨⟨o,e,ex.1⟩,λa e2=>?_⟩;cases e2;exact⟨o,e,ex.2.1⟩
  ·obtain⟨o,_,_,_,e,ex,_⟩:=I.hok p _ hk;refine⟨⟨o,e,ex.1⟩,λa e2=>?_⟩;cases e2;exact⟨o,e,ex.2.1⟩
 |_=>exact YE ty
def tBM(K:yw)(T:String)(r:V->List V->Hp->VK->Prop)(to:TE)(t:TA):TE:=λσ H Q=>to σ H λx H1=>tyV K T x H1/\t σ H1 λxs H2=>r x xs H2 Q
variable {o e:yF}{es:List yF}{to:TE}{t:TA}{name:yy}{apos cpos:xC}{T id:String}{r:V->List V->Hp->VK->Prop}
def zwz(pa:PlainAttrs T)(slot:Slot T name id)(hty:typeOf (.builtin id)=pure (.type "method_descriptor"))(hm:MtR X id r)(ho:PE X o to)(ha:PA X (e::es) t)
 (hbase:YL o name X.env (Yh o X.env)=Yh o X.env:=by rfl)
 (hfew:((Yo cpos (yj (e::es) X.env)).all (λx=>!x.1)&&(xV cpos (YS [] X.env)).all (λx=>x.1.isSome)
  && decide ((e::es).length+([]:List xN).length+(if([]:List xN).isEmpty then 0 else 1)<30))=true:=by rfl)
 (hline:(apos.endLine==cpos.line)=true:=by rfl) (hs:yj (e::es) X.env=(false,Yh e X.env)::yj es X.env:=by rfl) (hplain:(Yo cpos (yj es X.env)).any (·.1)=false:=by rfl) :
 PE X (.Call (.Attribute o name apos) (e::es) [] cpos) (tBM X.K T r to t):=by
 intro pins s σ H Q I h;refine wpAny_Call_method_late hbase hfew hline rfl (thn (ho pins s σ H _ I h) λv s1 ⟨x,H1,I1,r1,ty,q1⟩=>?_);obtain⟨h1,h2⟩:=zLy I1 r1 ty;refine⟨T,id,pa,slot,hty,h1,h2,?_⟩;have hA:=ha cpos pins s1 σ H1 _ I1 q1;rw[hs]at hA ⊢;refine Calls.callWith_builtin (by show(false||(Yo cpos (yj es X.env)).any (·.1))=false;rw[hplain]<;>rfl) (Calls.evalArgs_plain ?_);exact thn hA λus s2 ⟨vs,H2,I2,r2,q2⟩=>hm pins s2 σ H2 x vs v us Q I2 r1 r2 q2
end
def MtM(X:Cx)(id:String)(r:V->List V->Hp->VK->Prop):Prop :=
 ∀(pins:List (yd×YY)) (s:ye) (σ:St) (H:Hp) (x:V) (xs:List V) (v:yb) (us:List yb) (Q:VK),Inv X pins σ H s->RelV x v->Vals xs us->r x xs H Q ->
  yo (yx X.prog X.w) X.A (call (.builtin id) (v::us)) (EP X pins σ Q) X.xe s
def Vals.uncons{x:V}{xs:List V}{us:List yb}(h:Vals (x::xs) us):∃u ws,us=u::ws/\RelV x u/\Vals xs ws:=by
 cases h with
 |cons r t=>exact⟨_,_,rfl,r,t⟩
def Vals.unnil{us:List yb}(h:Vals [] us):us=[]:=by
 cases h;rfl
def Vals.one{x:V}{us:List yb}(h:Vals [x] us):∃u,us=[u]/\RelV x u:=by
 obtain⟨u,ws,e,r,t⟩:=h.uncons;exact⟨u,by rw[e,t.unnil],r⟩
def Vals.reverse{xs:List V}{us:List yb}(h:Vals xs us):Vals xs.reverse us.reverse:=by
 induction h with
 |nil=>exact .nil
 |cons r t ih=>rw[List.reverse_cons,List.reverse_cons];exact Vals.append ih (.cons r .nil)
def Vals.rep{xs:List V}{us:List yb}(h:Vals xs us):∀k:Nat,Vals (yD k xs).flatten (yD k us).flatten
 |0 =>.nil
 |k+1=>by
  rw[replicate_succ,replicate_succ,flatten_cons,flatten_cons];exact Vals.append h (Vals.rep h k)
def zMn(its:List yb):∀(k:Nat)(acc:List yb),
 List.foldl (λx1 x2=>x1++x2) acc.toArray (yD k its.toArray)=(acc++(yD k its).flatten).toArray
 |0,acc=>by simp
 |k+1,acc=>by
  have e:acc.toArray++its.toArray=(acc++its).toArray:=by simp
  have e2:(acc++its)++(yD k its).flatten=acc++(yD (k+1) its).flatten:=by
   rw[replicate_succ,flatten_cons,append_assoc]
  rw[<-e2,<-zMn its k (acc++its),<-e,replicate_succ,List.foldl_cons]
section
variable {X:Cx}{pins:List (yd×YY)}{σ:St}{H:Hp}{s:ye}{l b:yd}{xs ys zs:List V}
def Inv.lset{its its':List yb}{n:Nat}{f:Array yb->Array yb}{t':Nat}(I:Inv X pins σ H s)(hH:H l=some (.lst xs))
 (e:s.heap.get? l=some {cls:=.type "list",data:=.seq its.toArray n }) (hf:f its.toArray=its'.toArray) (hv:Vals ys its') (hz:ys.length<=yE) :
 Inv X pins σ (upd H l (.lst ys)) {s with heap:=s.heap.update l (Xg f),toks:=t' }:=by
 have q:=PySem.IsL.update e f;rw[hf]at q;refine I.write (x:=l) (e:=l) (by rw[hH];exact trivial) (.inl rfl) (λb' u hb hu=>(Yl s.heap (Xg f) (yH hb)).trans hu) ⟨_,q⟩ ?_;exact⟨hz,its',_,hv,q⟩
def Inv.lnew{its:List yb}{t':Nat}(I:Inv X pins σ H s)(hv:Vals ys its)(hz:ys.length<=yE) :
 Inv X pins σ (upd H s.heap.objs.size (.lst ys)) {s with heap:=s.heap.push {cls:=.type "list",data:=.seq its.toArray },toks:=t' } :=
 I.laid (λ_ _ q=>yc _ q) (yk _) ⟨hz,its,0,hv,yn _ rfl⟩
def Inv.fresh(I:Inv X pins σ H s):H s.heap.objs.size=none:=I.hok.fresh (yk _)
def Inv.Sc(I:Inv X pins σ H s)(hH:H l=some (.lst xs)):xs.length<=yE/\∃(its:List yb)(n:Nat),Vals xs its/\xs.length=its.length/\s.heap.get? l=some {cls:=.type "list",data:=.seq its.toArray n }:=by
 obtain⟨z,its,n,r,e⟩:=I.hok l _ hH;exact⟨z,its,n,r,r.length,e⟩
def sP{n:Nat}(h:n<=yE):xp n=false:=by
 unfold xp;exact decide_eq_false (by omega)
end
section
variable {X:Cx}
def z5w:V->List V->Hp->VK->Prop:=λx vs H Q=>∃l xs y,x=.ref l/\vs=[y]/\H l=some (.lst xs)/\xs.length<yE/\Q .non (upd H l (.lst (xs++[y])))
def zvt:MtM X "list.append" z5w:=by
 intro pins s σ H x vs v us Q I rx rv h;obtain⟨l,xs,y,rfl,rfl,hH,hz,q⟩:=h;cases rx;obtain⟨u,rfl,ru⟩:=rv.one;obtain⟨z,its,n,r,hl,e⟩:=I.Sc hH;refine call_meets F.slot_list_append ⟨_,e,rfl⟩ F.entry_list_append (F.args_list_append_2 _ _) (PySem.list_append l its.toArray n u (by rw[size_toArray];omega)) ⟨e,?_⟩;refine⟨.non,_,I.lset (its':=its++[u]) hH e (by simp) (r.append (.cons ru .nil)) ?_,rfl,q⟩;rw[length_append,length_singleton];omega
def z6x:V->List V->Hp->VK->Prop:=λx vs H Q=>∃l b xs zs,x=.ref l/\vs=[.ref b]/\H l=some (.lst xs)/\H b=some (.lst zs)/\xs.length+zs.length<=yE/\Q .non (upd H l (.lst (xs++zs)))
def zJt:MtM X "list.extend" z6x:=by
 intro pins s σ H x vs v us Q I rx rv h;obtain⟨l,b,xs,zs,rfl,rfl,hH,hB,hz,q⟩:=h;cases rx;obtain⟨u,rfl,ru⟩:=rv.one;cases ru;obtain⟨z,its,n,r,hl,e⟩:=I.Sc hH;obtain⟨z2,its2,n2,r2,hl2,e2⟩:=I.Sc hB;have hsz:its.toArray.size+its2.toArray.size<=yE:=by rw[size_toArray,size_toArray];omega
 have hlong:¬(!its.toArray.isEmpty&&xp (its.toArray.size+its2.toArray.size))=true:=by
  rw[sP hsz,Bool.and_false];exact yC
 refine call_meets F.slot_list_extend ⟨_,e,rfl⟩ F.entry_list_extend (F.args_list_extend_2 _ _)
  (AutoSeq1.list_extend_list_list_0 l its.toArray n b its2.toArray n2 hlong (by rw[size_toArray];omega) (by omega)) ⟨e,e2,?_⟩
 refine⟨.non,_,I.lset (its':=its++its2) hH e (by simp) (r.append r2) ?_,rfl,q⟩;rw[length_append];omega
def zCB:R2:=λx y H Q=>∃l b xs zs,x=.ref l/\y=.ref b/\H l=some (.lst xs)/\H b=some (.lst zs)/\xs.length+zs.length<=yE/\∀p,H p=none->Q (.ref p) (upd H p (.lst (xs++zs)))
def zxy:OpR X (xG .Add) zCB:=by
 intro pins s σ H x y v u Q I rx ry h;obtain⟨l,b,xs,zs,rfl,rfl,hH,hB,hz,q⟩:=h;cases rx;cases ry;obtain⟨z,its,n,r,hl,e⟩:=I.Sc hH;obtain⟨z2,its2,n2,r2,hl2,e2⟩:=I.Sc hB;refine PySem.P.add_list e e2 ?_ (by rw[size_toArray,size_toArray];omega);have ea:its.toArray++its2.toArray=(its++its2).toArray:=by simp
 rw[ea];exact⟨.ref _,_,I.lnew (t':=s.toks) (r.append r2) (by rw[length_append];omega),rfl,q _ I.fresh⟩
def zKB:R2:=λx y H Q=>∃l k xs,x=.ref l/\y=.int k/\H l=some (.lst xs)/\-(2^63)<=k/\k<2^63/\xs.length*k.toNat<=yE /\
 ∀p,H p=none->Q (.ref p) (upd H p (.lst (yD k.toNat xs).flatten))
def zIs{α:Type}(xs:List α)(k:Nat):(yD k xs).flatten.length=k*xs.length:=by
 induction k with
 |zero=>simp
 |succ k ih=>rw[replicate_succ,flatten_cons,length_append,ih,Nat.succ_mul,Nat.add_comm]
def zEy:OpR X (xG .Mult) zKB:=by
 intro pins s σ H x y v u Q I rx ry h;obtain⟨l,k,xs,rfl,rfl,hH,h1,h2,hz,q⟩:=h;cases rx;obtain⟨t,rfl⟩:=ry;obtain⟨z,its,n,r,hl,e⟩:=I.Sc hH;have hlen:its.toArray.size*k.toNat<=yE:=by rw[size_toArray,<-hl];exact hz
 have hcap:¬its.toArray.size*k.toNat>(2^63-1) / 8:=by
  have:(yE:Nat)<=(2^63-1) / 8:=by decide
  omega
 have hfit:¬(!Builtin.List.listFitsIndex k)=true:=by
  rw[fitsIndex_both h1 h2];exact yC
 have hlong:¬xp (its.toArray.size*k.toNat)=true:=by
  rw[sP hlen];exact yC
 have hnew:List.foldl (λx1 x2=>x1++x2) #[] (yD (if its.toArray.isEmpty=true then 0 else k.toNat) its.toArray)=(yD k.toNat its).flatten.toArray:=by
  have f0:∀m:Nat,List.foldl (λx1 x2=>x1++x2) #[] (yD m its.toArray)=(yD m its).flatten.toArray:=λm=>by
   have:=zMn its m [];rw[List.nil_append]at this;exact this
  rw[f0]
  cases its with
  |nil=>simp
  |cons a r'=>rw[if_neg (by simp)]
 refine wpAny_binaryOp_repeat_ref (T:="list") (U:="int") (by decide) ⟨_,e,rfl⟩ (λs'=>typeIs_int s' k t) noFill_list_mul F.fills_int_mul F.slot_int_rmul repeat_list F.slot_int_index.lookup
  (call_meets F.slot_int_rmul (typeIs_int s k t) F.entry_int_rmul (F.args_int_rmul_2 _ _) (int___rmul___int_list k t l its.toArray n)
   ⟨e,rfl,⟨_,e,rfl⟩,call_meets F.slot_list_mul ⟨_,e,rfl⟩ F.entry_list_mul (F.args_list_mul_2 _ _) (AutoListH.list___mul___list_int_3 l its.toArray n k t hfit hcap hlong) ⟨e,?_⟩⟩)
 rw[hnew];exact⟨.ref _,_,I.lnew (t':=s.toks) (r.rep k.toNat) (by rw[zIs,Nat.mul_comm];exact hz),rfl,q _ I.fresh⟩
end
section
variable {prog:yB}{w:yL}{A:yR}{E:yb->ye->Prop}{s:ye}
end
section
variable {X:Cx}
end
end L2
namespace Att
open PySem PySem.W PySem.Calls PyProof.Rows
def zSj{P:Params}{h:yV}:∀(ns:List Int)(vs:List yb),WellAll P h vs (ns.map WData.int)->IntsAre vs ns:=by
 intro ns
 induction ns with
 |nil=>
  intro vs w;rw[map_nil]at w;cases w;exact .nil
 |cons n ns ih=>
  intro vs w;rw[map_cons]at w
  cases w with
  |cons a b=>
   cases a;exact .cons _ _ (ih _ b)
def z3s{l:OpenLaw}{n:Nat}(hn:l.most=some n){P:Params}{h:yV}{args:List WData}{vals:List yb}
 (hpre:l.row.toRowW.claim.pre args=true) (hwl:WellAll P h vals args) :
 ∃a vs ns,vals=[yM a]/\args=[WData.list (ns.map WData.int)]/\h.get? a=some {cls:=.type "list",data:=.seq vs.toArray }/\IntsAre vs ns/\ns.length<=n:=by
 have hsh:WShape.hasAll [] args [.list .int]=true:=(pre_splitW hpre).1;have hc:l.pre.holds [] {args:=args } = true:=(pre_splitW hpre).2;obtain⟨d,r,rfl,h1,h2⟩:=hasAllW_cons hsh;obtain rfl:=hasAllW_nil h2;obtain⟨xs,rfl,h3⟩:=hasW_list h1;obtain⟨ns,rfl⟩:=items_int h3
 have hlen:ns.length<=n:=by
  unfold OpenLaw.pre at hc
  have h4:(WTm.not (.lt (.lit (.int (n:Int))) (.len (.arg 0)))).holds [] {args:=[.list (ns.map .int)]} = true:=by
   have h4:=(holds_andW hc).1;rw[hn]at h4;exact h4
  have h5:=condW_of h4 (w_not (w_lt w_lit (w_len_list (w_arg rfl))));rw[length_map]at h5;refine Nat.le_of_not_lt λq=>?_;have q':(n:Int)<((ns.length:Nat):Int):=by omega
  first
   |(rw[decide_eq_true q']at h5;exact absurd h5 (by decide))
   |(simp at h5;omega)
 cases hwl with
 |cons w1 w2=>
  cases w2
  cases w1 with
  |list ho hall=>exact⟨_,_,ns,rfl,rfl,ho,zSj ns _ hall,hlen⟩
def zKs(l:OpenLaw)(args:List WData):l.row.toRowW.claim.post args (.bool true) args=true :=
 postW_of (r:=l.row.toRowW) (X:=(true==true))
  (show WShape.has [] (.bool true) .bool=true by first|rfl|decide|simp[WShape.has,WShape.arms,WShape.armsAll])
  (show(WTm.eq .res (.lit (.bool true))).value [] {args:=args,res:=some (.bool true),after:=args } = some (.bool (true==true)) from w_eq_bool (w_res rfl) w_lit) rfl
def Sl{l:OpenLaw}{n:Nat}{q:yB}{loose:List yy}{XP:(yy->Option yb)->yV->Prop}{YP:yL->yV->Prop}{d:DefRec}
 (hn:l.most=some n) (hdf:d.params.defaults=[])
 (call:∀(w:yL)(s₀ s₁:ye)(mg mb:yy->Option yb)(fa:yd)(o:YY)(pm cd doc:yb)(a:yd)(vs:List yb)(ns:List Int),
  Ground q loose [] XP w s₀ mg mb s₁.heap->YP w s₁.heap ->
  s₁.heap.get? fa=some o->o.data=.func (docDef d.name d.params d.body d.scope pm cd doc)->s₁.heap.CodeRec cd d.name->mg d.name=some (.ref fa) ->
  s₁.heap.get? a=some {cls:=.type "list",data:=.seq vs.toArray }->IntsAre vs ns->ns.length<=n->s₁.gens = #[] ->
  Xw (yx l.prog w) callerA (.call (.ref fa) ⟨[.ref a],[]⟩) (λr s'=>r=.ok (.ret (.bool true))/\OldK s₁.heap s'.heap/\s'.os=s₁.os/\AllBare s'.gens) s₁) :
 WalkO q loose XP YP l.row.toRowW d [] (λf vs=>PySem.call f vs):=by
 intro w s₀ s₁ mg mb G Y fa o pm cd doc dV kV ho hd hcd hD hmg hg args vals as hpre hlay hrd hwl hlo;obtain rfl:dV=.none:=Dflts.none hD hdf;obtain rfl:kV=.none:=Dflts.noKw hD;obtain⟨a,vs,ns,rfl,rfl,hobj,hints,hlen⟩:=z3s hn hpre hwl;refine enter_call (YM (call w s₀ s₁ mg mb fa o pm cd doc a vs ns G Y ho (fd_plain hd) hcd hmg hobj hints hlen hg) λr s' hq=>?_);obtain⟨rfl,h2,h3,h4⟩:=hq;exact⟨.inl ⟨.bool true,.bool true,[],rfl,λ_=>rfl,.bool true,zKs l _,λ_=>⟨List.Pairwise.nil,λ_ hm=>(nomatch hm)⟩⟩,h2,h3,h4⟩
section
variable {prog:yB}{w:yL}{A:yR}{E:yb->ye->Prop}{s:ye}{K:Frag}
end
end Att
namespace L2
open PySem PySem.Spec PyProof.Rows
def zoo:∀{vs:List yb} {ns:List Int},IntsAre vs ns->Vals (ns.map V.int) vs
 |_,_,.nil =>.nil
 |_,_,.cons n t h =>.cons ⟨t,rfl⟩ (zoo h)
def z6z(H:Hp):Prop:=∀b,H b=none\/∃o xs,H b=some (.frz o (.lst xs))
def zRu{P:yB}{w:yL}{K:yw}{mg mb:yy->Option yb}{CX:CXT}{k:Nat}{fa a:yd}{fd:yi}{x:yy}{sp:Sp}{s₁:ye}{vs:List yb}{ns:List Int}
 (KX:K.In s₁.heap) (hns:s₁.heap.Ns yp mg) (hb:s₁.heap.Ns builtinsNs mb) (hbb:∀x:yy,x≠"__name__"->mb x=yQ x) (hlim:s₁.heap.NoLimit) (hg:s₁.gens = #[])
 (ha:s₁.heap.get? a=some {cls:=.type "list",data:=.seq vs.toArray }) (hi:IntsAre vs ns) (hl:ns.length<=yE) (hr:tS k callerA)
 (F:∀base:yV,K.In base->base.Ns yp mg->tq P w K mg base CX k fa fd [x] sp) (hbind:∀(s:ye)(u:yb),BindsTo s fd ⟨[u],[]⟩ [(x,u)])
 (hsp:∀H:Hp,z6z H->SqL K H a (ns.map V.int)->sp [.ref a] H (λv _=>v=.bl true) λ_ _ _=>False)
 (hCX:∀H e s',CX [] H s₁ (λ_ _ _=>False) e s'->False) :
 Xw (yx P w) callerA (.call (.ref fa) ⟨[.ref a],[]⟩) (λr s'=>r=.ok (.ret (.bool true))/\OldK s₁.heap s'.heap/\s'.os=s₁.os/\AllBare s'.gens) s₁:=by
 have rv:=zoo hi;have lenV:=hi.length
 have core:∀H:Hp,z6z H->SqL K H a (ns.map V.int)->HOk P w H s₁.heap->(∀b,H b≠none->b=a)->(H a≠none->K.lookup a=none) ->
  Xw (yx P w) callerA (.call (.ref fa) ⟨[.ref a],[]⟩) (λr s'=>r=.ok (.ret (.bool true))/\OldK s₁.heap s'.heap/\s'.os=s₁.os/\AllBare s'.gens) s₁:=by
  intro H hO hS hok hA hK;have base_of:∀{b:yd} {o:YY},s₁.heap.get? b=some o->H b=none->(zNv s₁.heap H).get? b=some o:=λe n=>zDu e n
  have noA:∀{b:yd} {o:YY} {es:Array DictEntry} {ep:Nat},s₁.heap.get? b=some o->o.data=.dict es ep->H b=none:=λ{b o es ep} e d=>by
   cases q:H b with
   |none=>rfl
   |some u=>
    have e':b=a:=hA b (by rw[q];simp);subst e';rw[ha]at e;cases e;have d':Data.seq vs.toArray _=Data.dict es ep:=d;cases d'
  have nsK:∀{b:yd} {m:yy->Option yb},s₁.heap.Ns b m->(zNv s₁.heap H).Ns b m:=λ{b m} ⟨o,es,ep,e,d,r⟩=>⟨o,es,ep,base_of e (noA e d),d,r⟩
  have hKb:K.In (zNv s₁.heap H):=λb o e=>base_of (KX b o e) (by
   cases q:H b with
   |none=>rfl
   |some u=>
    have e':b=a:=hA b (by rw[q];simp);subst e';rw[hK (by rw[q];simp)]at e;cases e)
  have hM:Mod K mg (zNv s₁.heap H):=⟨hKb,nsK hns,⟨mb,nsK hb,hbb⟩,let ⟨mc,h1,h2⟩:=hlim;⟨mc,nsK h1,h2⟩⟩
  have e0:Ss P w K mg (zNv s₁.heap H) callerA [] s₁ H:=⟨rfl,hM,λb o e=>z3x e,Nat.le_of_eq (zzs _ _),trivial,λb hb=>absurd (show b∈([]:List yd) from hb) (by simp),hok,.of_eq hg⟩
  refine YM ((F _ hKb (nsK hns)).run callerA [] s₁ H ⟨[.ref a],[]⟩ [.ref a] [.ref a] _ _ hr e0 (hbind s₁ (.ref a)) (.cons rfl .nil) (hsp H hO hS)) λr s' h=>?_
  cases r with
  |error e=>exact(hCX H e s' h).elim
  |ok fl=>
   cases fl with
   |next=>exact YE h
   |brk=>exact YE h
   |cont=>exact YE h
   |ret u=>
    obtain⟨v,H',os,bare,un,hok',r',q⟩:=h;have q':v=.bl true:=q;subst q';obtain rfl:u=Value.bool true:=r';refine⟨rfl,OldK.of_keep λb o e=>?_,os,bare⟩
    cases q:H b with
    |none=>exact un.keep b o e q (by intro z;exact absurd (show b∈([]:List yd) from z) (by simp)) (by simp)
    |some u=>
     rcases hO b with z|⟨ob,xs,z⟩
     ·rw[q]at z;cases z
     ·have z2:=un.TF b ob _ z;obtain⟨e1,_⟩:=hok b _ z;obtain⟨e2,_⟩:=hok' b _ z2;rw[e]at e1;cases e1;exact e2
 cases hk:K.lookup a with
 |some o=>
  have e:=KX a o hk;rw[ha]at e;cases e;refine core (λ_=>none) (λ_ =>.inl rfl) (.inr ⟨_,vs.toArray,_,hk,rfl,rfl,rfl,by rw[size_toArray,lenV];exact hl,by simpa using rv⟩) (λb u z=>by have z':(none:Option HO)=some u:=z;cases z') (λb z=>absurd rfl z) λz=>absurd rfl z
 |none=>
  refine core (λb=>if b=a then some (.frz {cls:=.type "list",data:=.seq vs.toArray } (.lst (ns.map V.int))) else none) (λb=>?_) (.inl (.inr ⟨{cls:=.type "list",data:=.seq vs.toArray },if_pos rfl⟩)) (λb u z=>?_) (λb z=>?_) λ_=>hk
  ·by_cases hb:b=a
   ·exact .inr ⟨_,_,if_pos hb⟩
   ·exact .inl (if_neg hb)
  ·by_cases hb:b=a
   ·have z':=(if_pos hb).symm.trans z;cases z';subst hb;exact⟨ha,by rw[length_map];exact hl,vs,_,rv,ha⟩
   ·have z':=(if_neg hb).symm.trans z;cases z'
  ·by_cases hb:b=a
   ·exact hb
   ·exact absurd (if_neg hb) z
def walk_of{l:W.OpenLaw}{n k:Nat}{q:yB}{loose:List yy}{XP:(yy->Option yb)->yV->Prop}{YP:yL->yV->Prop}{d:DefRec}{K:Params->yw}{CX:yL->CXT}{sp:yL->Sp}{x:yy}
 (hn:l.most=some n) (hn2:n<=yE) (hdf:d.params.defaults=[]) (hr:tS k callerA)
 (hY:∀(w:yL)(h:yV),YP w h->(K w.params).In h)
 (F:∀(w:yL)(mg:yy->Option yb)(fa:yd)(h:yV),(K w.params).In h->h.Ns yp mg->mg d.name=some (.ref fa) ->
  ∃fd:yi,(∀(s:ye)(u:yb),BindsTo s fd ⟨[u],[]⟩ [(x,u)]) /\
   ∀base:yV,(K w.params).In base->base.Ns yp mg->tq l.prog w (K w.params) mg base (CX w) k fa fd [x] (sp w))
 (hsp:∀(w:yL)(H:Hp)(a:yd)(ns:List Int),ns.length<=n->z6z H->SqL (K w.params) H a (ns.map V.int)->sp w [.ref a] H (λv _=>v=.bl true) λ_ _ _=>False)
 (hCX:∀(w:yL)(H:Hp)(s:ye)(e:yb)(s':ye),CX w [] H s (λ_ _ _=>False) e s'->False) :
 W.WalkO q loose XP YP l.row.toRowW d [] (λf vs=>PySem.call f vs):=by
 refine Att.Sl hn hdf λw s₀ s₁ mg mb fa o pm cd doc a vs ns G Y ho hd hcd hmg hobj hints hlen hg=>?_;have KX:=hY w _ Y;obtain⟨fd,hb,hF⟩:=F w mg fa _ KX G.T.g hmg;exact zRu KX G.T.g G.T.b G.T.builtins G.T.nolimit hg hobj hints (yG hlen hn2) hr hF hb (λH hO hS=>hsp w H a ns hlen hO hS) λH e s'=>hCX w H s₁ e s'
def zHf(s:Yi)(j:Nat):Yi:=match s with
 |.ClassDef _ _ _ body _ _ _ _ _ _ _=>body.getD j (.Pass ⟨0,0,0,0⟩)
 |_ =>.Pass ⟨0,0,0,0⟩
def zWd(s:Yi):Arguments:=match s with
 |.FunctionDef _ a _ _ _ _ _ _ _ _=>a
 |_=>{posonlyargs:=[],args:=[],vararg:=none,kwonlyargs:=[],kw_defaults:=[],kwarg:=none,defaults:=[]}
def zNc(s:Yi):List Yi:=match s with
 |.FunctionDef _ _ b _ _ _ _ _ _ _=>b
 |_=>[]
def zB(s:Yi):Xv:=match s with
 |.FunctionDef _ _ _ _ _ _ sc _ _ _=>sc
 |_=>{kind:=.function,names:=[],isGenerator:=false,isCoroutine:=false }
abbrev CX0:CXT:=λ_ _ _ _ _ _=>False
abbrev E0:XK:=λ_ _ _=>False
def SE{X:Cx}:zZg CX0 X E0:=λ_ _ _ _ _ _ _ h=>h.elim
structure Fun(K:yw)(x qual:yy)(st:Yi)(f:yd)(fd:yi):Prop where
 ex:∃(oc:yb)(od:Option yd)(kV doc pm:yb)(an:Option yd)(cdv ct:yb)(osl:Array (Option yb)),
  fd=W.fnOf x qual (zWd st) (zNc st) (zB st) .none kV doc pm an cdv ct/\K.lookup f=some ⟨oc,od,.func fd,osl⟩/\W.codeIn K cdv qual=true
 kp:W.keepIn K (.ref f)=true
section
variable {P:yB}{w:yL}{K:yw}{mg:yy->Option yb}{base:yV}
def Fun.ok{x qual:yy}{st:Yi}{f:yd}{fd:yi}{N ps:List yy}{k:Nat}{sp:Sp}(F:Fun K x qual st f fd)(S:tu N ps (zB st))(len:∀vs H Q E,sp vs H Q E->vs.length=ps.length)
 (hbody:∀(cdv:yb)(A:yR)(outer:List Env)(s:ye)(H:Hp)(vs:List V)(Q:VK)(E:XK),tS k (A.deeper (envOfC qual (zB st) s.heap.objs.size f cdv))->sp vs H Q E ->
  ∃t,PSs (zms CX0 P w K mg base N qual (zB st) f cdv A outer s H E).nox (zNc st) t/\t {nx:=λ_ H'=>Q .non H',rt:=Q } (start N vs) H):tq P w K mg base CX0 (k+1) f fd ps sp:=by
 obtain⟨oc,od,kV,doc,pm,an,cdv,ct,osl,rfl,lk,hcd⟩:=F.ex;refine zWy lk hcd S len λA outer s H vs Q E hr hsp=>?_;obtain⟨t,h,q⟩:=hbody cdv A outer s H vs Q E hr hsp;exact⟨t,h.nox,q⟩
def Fun.binds{x qual:yy}{st:Yi}{f:yd}{fd:yi}{ps:List yy}(F:Fun K x qual st f fd)
 (h:∀(kV doc pm:yb)(an:Option yd)(cdv ct:yb)(us:List yb),us.length=ps.length->bindArgs (W.fnOf x qual (zWd st) (zNc st) (zB st) .none kV doc pm an cdv ct) ⟨us,[]⟩=pure (ps.zip us)):Binds K fd ps []:=by
 obtain⟨oc,od,kV,doc,pm,an,cdv,ct,osl,rfl,lk,hcd⟩:=F.ex;exact .all (h kV doc pm an cdv ct)
def zze{x qual:yy}{st:Yi}{f:yd}{oc:yb}{od an:Option yd}{osl:Array (Option yb)}{kV doc pm cdv ct:yb}(l:K.lookup f=some ⟨oc,od,.func (W.fnOf x qual (zWd st) (zNc st) (zB st) .none kV doc pm an cdv ct),osl⟩)
 (c:W.codeIn K cdv qual=true) (k:W.keepIn K (.ref f)=true):Fun K x qual st f (W.fnOf x qual (zWd st) (zNc st) (zB st) .none kV doc pm an cdv ct):=⟨⟨oc,od,kV,doc,pm,an,cdv,ct,osl,rfl,l,c⟩,k⟩
end
def sA{n:Nat}(h:n<=1000):n<yE:=Nat.lt_of_le_of_lt h (by decide)
section
variable {X:Cx}
def pv(i:Nat){x:yy}{pos:xC}(hN:X.N[i]?=some x:=by rfl)(hv:Vis X.env.scope x:=by first|exact Or.inl rfl|exact Or.inr (Or.inl rfl)|exact Or.inr (Or.inr rfl))(hd:(x==("__debug__":yy))=false:=by decide)
 (hcd:(x==("__classdict__":yy))=false:=by decide):PE X (.Name x pos) (zrA i):=ztw hN hv hd hcd
end
def Su{A B:Prop}(h:B):if false=true then A else B:=by
 rw[if_neg yC];exact h
def Sv{A B:Prop}(h:A):if true=true then A else B:=by
 rw[if_pos rfl];exact h
def z3k(f:Array yb->Array yb)(o:YY):(xq f o).dict=o.dict:=by
 unfold xq
 split<;>rfl
def Trc(B h:yV)(e:yd)(x:yb):Prop:=x=.none\/∃T oT ts y,x=.ref T/\B.get? T=none/\T≠e/\h.get? T=some oT/\oT.data=.fields ts/\ts[3]?=some y
structure Fly(B:yV)(l:List Env)(e:yd)(cls:yb)(dx:Option yd)(h:yV):Prop where
 st:B.StaysIn h
 new:B.get? e=none
 ff:h.FunFrames B l
 ob:∃oe vs x,h.get? e=some oe/\oe.cls=cls/\oe.dict=dx/\oe.data=.fields vs/\vs[1]?=some x/\Trc B h e x
section
variable {M:Model}{A:yR}{E:yb->ye->Prop}{s:ye}{B:yV}{l outer:List Env}{env:Env}{e L:yd}{cls:yb}{dx:Option yd}{Q:Unit->ye->Prop}
def Fly.recW{h:yV}{T:yd}{oT:YY}{ts:Array yb}(F:Fly B l e cls dx h)(hb:B.get? T=none)(hT:h.get? T=some oT)(hd:oT.data=.fields ts)(g:Array yb->Array yb)
 (hob:∃oe vs x,(h.update T (xq g)).get? e=some oe/\oe.cls=cls/\oe.dict=dx/\oe.data=.fields vs/\vs[1]?=some x/\Trc B (h.update T (xq g)) e x) :
 Fly B l e cls dx (h.update T (xq g))/\h.UpToSlots (h.update T (xq g)):=by
 have other:∀b,b≠T->(h.update T (xq g)).get? b=h.get? b:=λb hb=>Yl _ _ (yH hb)
 have noR:∀b o,h.get? b=some o->(∀vs,o.data≠.fields vs)->b≠T:=λb o q hn z=>by
  rw[z,hT]at q;cases q;exact hn ts hd
 exact⟨⟨λb o q=>(other b λz=>by rw[z,hb]at q;cases q).trans (F.st b o q),F.new,F.ff.of_keeps λb o q hn=>⟨o,(other b (noR b o q hn)).trans q,rfl⟩,hob⟩,λb o q hn=>⟨o.slots,(other b (noR b o q hn)).trans q⟩⟩
def zCf(F:Fly B l e cls dx s.heap)(h:∀h',Fly B l e cls dx h'->s.heap.UpToSlots h'->Q () {s with heap:=h' }):yo M A (setFlight (.ref e) none) Q E s:=by
 obtain⟨oe,vs,x,he,hc,hx,hd,h1,tr⟩:=F.ob;unfold setFlight;refine ya (Yn he hd h1 ?_);rcases tr with rfl|⟨T,oT,ts,y,rfl,hb,hne,hT,hdT,h3⟩
 ·rw[if_neg (by decide)];exact yg (h _ F (.refl _))
 ·rw[if_pos (show(yM T != Yt)=true from by simp)];have h3':=(Array.getElem?_eq_some_iff.mp h3).1;refine xb hT hdT h3' ?_
  obtain⟨F',u⟩:=F.recW hb hT hdT (·.setIfInBounds 3 ((none:Option yd).elim Yt λf=>YF f))
   ⟨oe,vs,_,(Yl _ _ hne).trans he,hc,hx,hd,h1,.inr ⟨T,_,_,.none,rfl,hb,hne,yS _ hT (YH (Yg hdT _)),Yg hdT _,by simp[h3']⟩⟩
  exact h _ F' u
def zVs{head:yb}{hadNext:Bool}(hfr:A.frames=some (env::outer))(hf:env.frame=some L)(F:Fly B (env::outer) e cls dx s.heap)(h:∀h',Fly B (env::outer) e cls dx h'->s.heap.UpToSlots h'->Q () {s with heap:=h' }) :
 yo M A (do let a <-frameOf env;let pl <-entryPlaceOf L hadNext;let b <-EntryCells.newEntry head a .none (YF L) .none pl;setField (.ref e) 1 b) Q E s:=by
 obtain⟨oe,vs,x,he,hc,hx,hd,h1,tr⟩:=F.ob;have hl:=F.ff
 have hene:e∉(env::outer).filterMap (·.frame):=λhm=>by
  obtain⟨_,o,ho,hnf⟩:=hl.mem hm;rw[he]at ho;cases ho;exact hnf vs hd
 refine ya (wpAny_frameOf_fun hfr hl hf λh₁ hs=>?_);refine ya (wpAny_entryPlaceOf λpl hpl=>?_);unfold EntryCells.newEntry newFields;refine ya (Ye ?_ (hpl.sizeOk5 _ _ _ _ _));generalize hts:([head,yM L,Yt,YF L,Yt]++(if pl.isEmpty=true then yD 6 Yt else pl))=ts;have hts3:ts.toArray[3]?=some (YF L):=by rw[<-hts];simp
 have he₁:h₁.get? e=some oe:=(hs.2.1 e hene).trans he;have hn:h₁.objs.size≠e:=yT (ym he₁);have kb:B.StaysIn h₁:=λb o q=>(hs.2.1 b λhm=>by rw[(hl.mem hm).1]at q;cases q).trans (F.st b o q);have he₂:=yc (h:=h₁) {cls:=.type "traceback",dict:=none,data:=.fields ts.toArray } he₁;refine xb he₂ hd (Array.getElem?_eq_some_iff.mp h1).1 (h _ ?_ ?_)
 all_goals
  have keep:∀b o,b≠e->h₁.get? b=some o->((h₁.push {cls:=.type "traceback",dict:=none,data:=.fields ts.toArray }).update e (xq (·.setIfInBounds 1 (yM h₁.objs.size)))).get? b=some o:=λb o hbe hb=>by
   rw[Yl _ _ (yH hbe)];exact yc _ hb
  have noR:∀b o,s.heap.get? b=some o->(∀vs,o.data≠.fields vs)->b≠e:=λb o q hn z=>by
   rw[z,he]at q;cases q;exact hn vs hd
 ·refine⟨λb o q=>keep b o (λz=>by rw[z,F.new]at q;cases q) (kb b o q),F.new,hl.of_keeps λb o q hn=>?_,?_⟩
  ·obtain⟨sl,z⟩:=hs.2.2 b o q;exact⟨_,keep b _ (noR b o q hn) z,rfl⟩
  ·have hd₃:=Yg hd (·.setIfInBounds 1 (yM h₁.objs.size));refine⟨_,_,_,yS _ he₂ (YH hd₃),(Xx _ _).trans hc,(z3k _ _).trans hx,hd₃,by simp[(Array.getElem?_eq_some_iff.mp h1).1],.inr ⟨h₁.objs.size,{cls:=.type "traceback",dict:=none,data:=.fields ts.toArray },ts.toArray,YF L,rfl,kb.fresh,hn,?_,rfl,hts3⟩⟩;exact(Yl _ _ (yH hn)).trans (yn h₁ rfl)
 ·intro b o q hn;obtain⟨sl,z⟩:=hs.2.2 b o q;exact⟨sl,keep b _ (noR b o q hn) z⟩
def zBk(hfr:A.frames=some (env::outer))(hf:env.frame=some L)(F:Fly B (env::outer) e cls dx s.heap)(h:∀h',Fly B (env::outer) e cls dx h'->s.heap.UpToSlots h'->Q () {s with heap:=h' }) :
 yo M A (noteFrame (.ref e) env) Q E s:=by
 obtain⟨oe,vs,x,he,hc,hx,hd,h1,tr⟩:=F.ob;unfold noteFrame;simp only[hf];refine ya (Yn he hd h1 ?_);rcases tr with rfl|⟨T,oT,ts,y,rfl,hb,hne,hT,hdT,h3⟩
 ·rw[if_neg (by decide)];exact zVs hfr hf F h
 ·rw[if_pos (show(yM T != Yt)=true from by simp)];refine ya (Yn hT hdT h3 ?_)
  by_cases hy:(y==YF L)=true
  ·rw[if_pos hy];exact yg (h _ F (.refl _))
  ·rw[if_neg hy];have h3':=(Array.getElem?_eq_some_iff.mp h3).1;refine ya (xb hT hdT h3' ?_)
   obtain⟨F',u⟩:=F.recW hb hT hdT (·.setIfInBounds 3 Yt)
    ⟨oe,vs,_,(Yl _ _ hne).trans he,hc,hx,hd,h1,.inr ⟨T,_,_,.none,rfl,hb,hne,yS _ hT (YH (Yg hdT _)),Yg hdT _,by simp[h3']⟩⟩
   exact zVs hfr hf F' λh' F'' u'=>h h' F'' (u.trans u')
def zPs(hfr:A.frames=some (env::outer))(hf:env.frame=some L)(F:Fly B (env::outer) e cls dx s.heap)(h:∀h',Fly B outer e cls dx h'->s.heap.UpToSlots h'->Q () {s with heap:=h' }) :
 yo M A (leaving env (.ref e)) Q E s:=by
 unfold leaving;refine ya (zBk hfr hf F λh1 F1 u1=>?_);refine zCf (s:={s with heap:=h1 }) F1 λh2 F2 u2=>?_;exact h h2 ⟨F2.st,F2.new,F2.ff.2.2,F2.ob⟩ (u1.trans u2)
end
def tG.there{P:yB}{w:yL}{H:Hp}{h:yV}{a:yd}{o:HO}(x:tG P w H h a o):∃u,h.get? a=some u:=by
 cases o with
 |lst xs=>obtain⟨_,_,_,_,e⟩:=x;exact⟨_,e⟩
 |tup xs=>obtain⟨_,_,_,o,e,_⟩:=x;exact⟨_,e⟩
 |dK kvs=>obtain⟨_,_,_,_,o,_,_,e,_⟩:=x;exact⟨_,e⟩
 |dT kvs=>obtain⟨_,_,_,_,o,_,_,e,_⟩:=x;exact⟨_,e⟩
 |set S n=>obtain⟨o,_,_,_,e,_⟩:=x;exact⟨_,e⟩
 |ins C dx fs=>obtain⟨_,_,_,e,_⟩:=x;exact⟨_,e⟩
 |own y=>obtain⟨_,e⟩:=x;exact⟨_,e⟩
 |xd fs=>obtain⟨_,⟨_,_,_,e,_⟩,_⟩:=x;exact⟨_,e⟩
 |rng lo hi=>obtain⟨_,_,_,e⟩:=x;exact⟨_,e⟩
 |frz ob u=>obtain⟨e,_⟩:=x;exact⟨_,e⟩
 |tbl ps=>exact⟨_,(show h.get? a=some _ from x)⟩
 |met f y=>exact⟨_,(show h.get? a=some _ from x)⟩
 |ext φ=>obtain⟨_,⟨_,e⟩,_⟩:=x;exact⟨_,e⟩
structure Cov(outer:List Env)(H':Hp)(h B:yV):Prop where
 tr:∀b o,H' b=some o->∃u,B.get? b=some u
 old:∀b o,h.get? b=some o->b∉frs outer->∃u,B.get? b=some u
structure Sd(P:yB)(w:yL)(outer:List Env)(H:Hp)(s:ye)(C:yb)(dx:Option yd)(H':Hp)(e:yb)(s':ye):Prop where
 os:s'.os=s.os
 bare:AllBare s'.gens
 un:Un (frs outer) [] H H' s.heap s'.heap
 hok:HOk P w H' s'.heap
 fly:∃a B,e=.ref a/\Fly B outer a C dx s'.heap/\Cov outer H' s.heap B
def CXq(P:yB)(w:yL):CXT:=λouter H s E e s'=>∃C dx H',Sd P w outer H s C dx H' e s'/\E C dx H'
section
variable {P:yB}{w:yL}{outer:List Env}{H H':Hp}{h0 h h' B base:yV}
def zUp(u:Un (frs outer) [] H H' h0 h)(c:Cov outer H' h0 B)(st:B.StaysIn h)(st':B.StaysIn h')(sm:h.UpToSlots h')(ff:h0.FunFrames base outer)(frf:∀b∈frs outer,H b=none):Un (frs outer) [] H H' h0 h' where
 keep:=λb o q n hb hx=>by
  obtain⟨v,hv⟩:=c.old b o q hb;have e1:=u.keep b o q n hb hx;have e2:=st b v hv;rw[e1]at e2;cases e2;exact st' b o hv
 slot:=λb o q n hb hx=>by
  obtain⟨sl,e1⟩:=u.slot b o q n hb hx;obtain⟨_,o',ho',hd⟩:=ff.mem hb;rw[q]at ho';cases ho';obtain⟨sl',e2⟩:=sm b _ e1 hd;exact⟨sl',e2⟩
 free:=u.free
 there:=λb o q hx=>by
  by_cases hb:b∈frs outer
  ·obtain⟨sl,e1⟩:=u.slot b o q (frf b hb) hb hx;obtain⟨_,o',ho',hd⟩:=ff.mem hb;rw[q]at ho';cases ho';obtain⟨sl',e2⟩:=sm b _ e1 hd;exact⟨_,e2⟩
  ·obtain⟨v,hv⟩:=c.old b o q hb;exact⟨v,st' b v hv⟩
 tups:=u.tups
 TF:=u.TF
 TN:=u.TN
def zMm(x:HOk P w H' h)(c:Cov outer H' h0 B)(st:B.StaysIn h)(st':B.StaysIn h'):HOk P w H' h':=λa o e=>by
 refine(x a o e).stay (λb u hb q=>?_) (λ_ q=>q) λ_ _ q=>q
 have hb:∃o',H' b=some o':=by
  rcases hb with rfl|hb
  ·exact⟨_,e⟩
  ·exact⟨_,hb⟩
 obtain⟨o',hb⟩:=hb;obtain⟨v,hv⟩:=c.tr b o' hb;have e2:=st b v hv;rw[q]at e2;cases e2;exact st' b u hv
end
section
variable {X:Cx}{pins:List (yd×YY)}{σ:St}{H H':Hp}{s s':ye}{C:yb}{a:yd}{dx:Option yd}
def Inv.fly{B h':yV}(I:Inv X pins σ H s)(F:Sd X.prog X.w X.stack H s C dx H' (.ref a) s')(c:Cov X.stack H' s.heap B)(st:B.StaysIn s'.heap)(st':B.StaysIn h')(sm:s'.heap.UpToSlots h'){t':Nat}{d':Drawn} :
 Inv X pins σ H' {s' with heap:=h',toks:=t',drawn:=d' } :=
 I.SC F.os (zUp F.un c st st' sm I.stack I.TH) (zMm F.hok c st st') F.bare λb z=>absurd z (by simp)
def Inv.madeX{h':yV}{vs:List yb}(I:Inv X pins σ H s)(hm:Heap.MadeExcOf s.heap h' a C vs):Sd X.prog X.w X.stack H s C none H (.ref a) {s with heap:=h' }:=by
 have hin:∀env∈X.stack,∀b,env.frame=some b->b∈frs X.stack:=λenv he b hb=>List.mem_filterMap.mpr ⟨env,he,hb⟩;obtain⟨t,he,_,_⟩:=hm.there
 have hn:(W.hideAll s.heap (frs X.stack)).get? a=none:=by
  cases q:(W.hideAll s.heap (frs X.stack)).get? a with
  |none=>rfl
  |some o=>have:=W.of_hideAll _ q;rw[hm.new]at this;cases this
 refine⟨rfl,I.bare,Un.kept hm.keeps,I.hok.kept hm.keeps,a,W.hideAll s.heap (frs X.stack),rfl,⟨λb o q=>hm.keeps b o (W.of_hideAll _ q),hn,?_,⟨_,_,_,he,rfl,rfl,rfl,rfl,.inl rfl⟩⟩,?_⟩
 ·exact(W.funFrames_hide I.stack hin).of_keeps λb o hb _=>⟨o,hm.keeps b o hb,rfl⟩
 ·exact⟨λb o q=>by
   obtain⟨u,hu⟩:=(I.hok b o q).there;exact⟨u,W.hideAll_get _ hu λhm=>by rw[I.TH b hm]at q;cases q⟩,λb o q hb=>⟨o,W.hideAll_get _ q hb⟩⟩
end
def zXm(X:Cx)(C:yb)(dx:Option yd)(H':Hp):Prop:=∀pins σ H s e s',Inv X pins σ H s->Sd X.prog X.w X.stack H s C dx H' e s'->X.xe e s'
section
variable {P:yB}{w:yL}{K:yw}{mg:yy->Option yb}{base:yV}{N:List yy}{qual:yy}{scope:Xv}{f:yd}{cd:yb}{A:yR}{outer:List Env}{s:ye}{H H':Hp}{E:XK}{C:yb}{dx:Option yd}
def zjx{X:Cx}{pins:List (yd×YY)}{σ:St}{H1:Hp}{s1:ye}{B:yV}(I:Inv X pins σ H1 s1)(hs:X.stack=X.env::X.outer)(hf:X.env.frame=some X.env.locals)(hex:X.ex=[])(c:Cov X.stack H' s1.heap B):Cov X.outer H' X.s₀.heap B where
 tr:=c.tr
 old:=λb o q hb=>by
  obtain⟨o1,e1⟩:=I.base.there b o q (by rw[hex];simp);refine c.old b o1 e1 ?_;rw[hs];unfold frs;rw[filterMap_cons,hf];intro hm;rcases List.mem_cons.mp hm with rfl|hm
  ·exact absurd (yA (ym q) I.ok.above) (Yc _)
  ·exact hb hm
def z3r(hE:E C dx H'):zXm (zms (CXq P w) P w K mg base N qual scope f cd A outer s H E) C dx H':=by
 intro pins σ H1 s1 e s' I F;have hf:(envOfC qual scope s.heap.objs.size f cd).frame=some (envOfC qual scope s.heap.objs.size f cd).locals:=rfl;obtain⟨a,B,rfl,fl,c⟩:=F.fly;refine zPs I.ok.frames hf fl λh'' fl' sm=>?_;have J:Inv (zms (CXq P w) P w K mg base N qual scope f cd A outer s H E) pins σ H' {s' with heap:=h'' }:=I.fly F c fl.st fl'.st sm;exact⟨C,dx,H',⟨J.os,J.bare,J.base,J.hok,a,B,rfl,fl',zjx (X:=zms (CXq P w) P w K mg base N qual scope f cd A outer s H E) I rfl rfl rfl c⟩,hE⟩
end
end L2
namespace M
open PySem PySem.Spec PyProof.Rows L2
inductive D where
 |non|bl (b:Bool)|int (i:Int)|str (x:yy)|ty (n:String)
  |tup (ds:List D)
  |fz (ds:List D)
  |loc (n:Nat)
  |own (c:yy)
inductive tE where
 |lst (ds:List D)
  |dct (kvs:List (Int×D))
  |dcf (kvs:List (Int×D))
  |exc (c:yy) (fs:List (yy×D))
  |ins (c:yy) (fs:List (yy×D))
abbrev Mem:=List tE
def zMr(a C:yd)(dx:Option yd):yV->Prop:=λh=>∃o vs,h.get? a=some o/\o.cls=.ref C/\o.dict=dx/\o.data=.fields vs
abbrev Loc:=List (Option D)
section
variable (K:yw)
def FzL(H:Hp)(a:yd)(vs:List V):Prop :=
 (∃o,H a=some (.frz o (.lst vs)))\/∃(o:YY)(its:Array yb)(n:Nat),K.lookup a=some o/\o.cls=.type "list"/\o.dict=none/\o.data=.seq its n/\its.size<=yE/\Vals vs its.toList
mutual
def tx(ρ:List yd)(H:Hp):D->V->Prop
 |.non,v=>v=.non
 |.bl b,v=>v=.bl b
 |.int i,v=>v=.int i
 |.str x,v=>v=.str x
 |.ty n,v=>v=.ty n
 |.tup ds,v=>∃a vs,v=.ref a/\H a=some (.tup vs)/\tj ρ H ds vs
 |.fz ds,v=>∃a vs,v=.ref a/\FzL K H a vs/\tj ρ H ds vs
 |.loc n,v=>∃a,v=.ref a/\ρ[n]?=some a
 |.own c,v=>∃a,v=.ref a/\Yq K yp c=some (some (.ref a))
def tj(ρ:List yd)(H:Hp):List D->List V->Prop
 |[],vs=>vs=[]
 |d::ds,vs=>∃v r,vs=v::r/\tx ρ H d v/\tj ρ H ds r
end
def Sm(ρ:List yd)(H:Hp)(fs:List (yy×D))(dx:Option yd):Prop:=(fs=[]/\dx=none)\/∃p vs,dx=some p/\H p=some (.xd vs)/\vs.map (·.1)=fs.map (·.1)/\tj K ρ H (fs.map (·.2)) (vs.map (·.2))
def Sn(ρ:List yd)(H:Hp)(a:yd):tE->Prop
 |.lst ds=>∃vs,H a=some (.lst vs)/\tj K ρ H ds vs
 |.dct kvs=>∃vs,H a=some (.dK vs)/\vs.map (·.1)=kvs.map (λp=>yP p.1)/\tj K ρ H (kvs.map (·.2)) (vs.map (·.2))
 |.dcf kvs=>∃o vs,H a=some (.frz o (.dK vs))/\vs.map (·.1)=kvs.map (λp=>yP p.1)/\tj K ρ H (kvs.map (·.2)) (vs.map (·.2))
 |.exc c fs=>∃C dx,Yq K yp c=some (some (.ref C))/\H a=some (.ext (zMr a C dx))/\Sm K ρ H fs dx
 |.ins c fs=>∃C dx vs,Yq K yp c=some (some (.ref C))/\H a=some (.ins C dx vs)/\vs.map (·.1)=fs.map (·.1)/\tj K ρ H (fs.map (·.2)) (vs.map (·.2))
structure tI(ρ:List yd)(H:Hp)(μ:Mem):Prop where
 nd:ρ.Nodup
 len:ρ.length=μ.length
 at_:∀(n:Nat) a o,ρ[n]?=some a->μ[n]?=some o->Sn K ρ H a o
structure Ext(ρ:List yd)(H:Hp)(ρ':List yd)(H':Hp):Prop where
 pre:∃more,ρ'=ρ++more
 tup:∀a vs,H a=some (.tup vs)->H' a=some (.tup vs)
 frz:∀a o u,H a=some (.frz o u)->H' a=some (.frz o u)
 xd:∀a fs,H a=some (.xd fs)->H' a=some (.xd fs)
def SG(ρ:List yd)(H:Hp)(σ:L2.St)(δ:Loc):Prop:=∀(i:Nat) d,δ[i]?=some (some d)->∃v,σ[i]?=some (some v)/\tx K ρ H d v
end
section
variable {K:yw}{ρ ρ' ρ'':List yd}{H H' H'':Hp}{μ:Mem}{σ:L2.St}{δ:Loc}
def Ext.refl:Ext ρ H ρ H:=⟨⟨[],by simp⟩,λ_ _ h=>h,λ_ _ _ h=>h,λ_ _ h=>h⟩
def Ext.trans(a:Ext ρ H ρ' H')(b:Ext ρ' H' ρ'' H''):Ext ρ H ρ'' H'':=by
 obtain⟨m,e⟩:=a.pre;obtain⟨m',e'⟩:=b.pre;exact⟨⟨m++m',by rw[e',e,append_assoc]⟩,λ_ _ h=>b.tup _ _ (a.tup _ _ h),λ_ _ _ h=>b.frz _ _ _ (a.frz _ _ _ h),λ_ _ h=>b.xd _ _ (a.xd _ _ h)⟩
def Ext.get(e:Ext ρ H ρ' H'){n:Nat}{a:yd}(h:ρ[n]?=some a):ρ'[n]?=some a:=by
 obtain⟨m,e⟩:=e.pre;rw[e,yq (List.getElem?_eq_some_iff.mp h).1];exact h
def Ext.fz(e:Ext ρ H ρ' H'){a:yd}{vs:List V}(h:FzL K H a vs):FzL K H' a vs:=by
 rcases h with ⟨o,h⟩|h
 ·exact .inl ⟨o,e.frz _ _ _ h⟩
 ·exact .inr h
mutual
def tx.ext(e:Ext ρ H ρ' H'):∀{d:D} {v:V},tx K ρ H d v->tx K ρ' H' d v
 |.non,_,h=>by unfold tx at h ⊢;exact h
 |.bl _,_,h=>by unfold tx at h ⊢;exact h
 |.int _,_,h=>by unfold tx at h ⊢;exact h
 |.str _,_,h=>by unfold tx at h ⊢;exact h
 |.ty _,_,h=>by unfold tx at h ⊢;exact h
 |.tup ds,_,h=>by
  unfold tx at h ⊢;obtain⟨a,vs,e1,e2,r⟩:=h;exact⟨a,vs,e1,e.tup _ _ e2,tj.ext e r⟩
 |.fz ds,_,h=>by
  unfold tx at h ⊢;obtain⟨a,vs,e1,e2,r⟩:=h;exact⟨a,vs,e1,e.fz e2,tj.ext e r⟩
 |.loc n,_,h=>by
  unfold tx at h ⊢;obtain⟨a,e1,e2⟩:=h;exact⟨a,e1,e.get e2⟩
 |.own c,_,h=>by unfold tx at h ⊢;exact h
def tj.ext(e:Ext ρ H ρ' H'):∀{ds:List D} {vs:List V},tj K ρ H ds vs->tj K ρ' H' ds vs
 |[],_,h=>by unfold tj at h ⊢;exact h
 |d::ds,_,h=>by
  unfold tj at h ⊢;obtain⟨v,r,e1,h1,h2⟩:=h;exact⟨v,r,e1,tx.ext e h1,tj.ext e h2⟩
end
def SG.ext(e:Ext ρ H ρ' H')(h:SG K ρ H σ δ):SG K ρ' H' σ δ:=λi d q=>
 let ⟨v,e1,r⟩:=h i d q
 ⟨v,e1,r.ext e⟩
def tj.length:∀{ds:List D} {vs:List V},tj K ρ H ds vs->ds.length=vs.length
 |[],_,h=>by unfold tj at h;subst h;rfl
 |d::ds,_,h=>by
  unfold tj at h;obtain⟨v,r,e1,_,h2⟩:=h;subst e1;have:=tj.length h2;simp[this]
def tj.get:∀{ds:List D} {vs:List V} {i:Nat} {d:D},tj K ρ H ds vs->ds[i]?=some d->∃v,vs[i]?=some v/\tx K ρ H d v
 |[],_,_,_,_,q=>by simp at q
 |d::ds,_,0,d',h,q=>by
  unfold tj at h;obtain⟨v,r,e1,h1,_⟩:=h;subst e1;simp at q;subst q;exact⟨v,by simp,h1⟩
 |d::ds,_,i+1,d',h,q=>by
  unfold tj at h;obtain⟨v,r,e1,_,h2⟩:=h;subst e1;obtain⟨w,e2,h3⟩:=tj.get (i:=i) h2 (by simpa using q);exact⟨w,by simpa using e2,h3⟩
def tj.cons{d:D}{v:V}{ds:List D}{vs:List V}(h1:tx K ρ H d v)(h2:tj K ρ H ds vs):tj K ρ H (d::ds) (v::vs):=by
 unfold tj;exact⟨v,vs,rfl,h1,h2⟩
def tj.nil:tj K ρ H [] []:=by unfold tj;rfl
def tj.cons_inv{d:D}{ds:List D}{vs:List V}(h:tj K ρ H (d::ds) vs):∃v r,vs=v::r/\tx K ρ H d v/\tj K ρ H ds r:=by
 unfold tj at h;exact h
def tj.nil_inv{vs:List V}(h:tj K ρ H [] vs):vs=[]:=by unfold tj at h;exact h
def tj.append:∀{ds es:List D} {vs us:List V},tj K ρ H ds vs->tj K ρ H es us->tj K ρ H (ds++es) (vs++us)
 |[],_,_,_,h,q=>by rw[h.nil_inv];exact q
 |d::ds,_,_,_,h,q=>by
  obtain⟨v,r,rfl,h1,h2⟩:=h.cons_inv;exact .cons h1 (tj.append h2 q)
def tj.take:∀{ds:List D} {vs:List V} (n:Nat),tj K ρ H ds vs->tj K ρ H (ds.take n) (vs.take n)
 |[],_,n,h=>by rw[h.nil_inv];simp[tj.nil]
 |d::ds,_,0,h=>by simp[tj.nil]
 |d::ds,_,n+1,h=>by
  obtain⟨v,r,rfl,h1,h2⟩:=h.cons_inv;simpa using tj.cons h1 (tj.take n h2)
def tj.drop:∀{ds:List D} {vs:List V} (n:Nat),tj K ρ H ds vs->tj K ρ H (ds.drop n) (vs.drop n)
 |[],_,n,h=>by rw[h.nil_inv];simp[tj.nil]
 |d::ds,_,0,h=>by simpa using h
 |d::ds,_,n+1,h=>by
  obtain⟨v,r,rfl,h1,h2⟩:=h.cons_inv;simpa using tj.drop n h2
def tj.set:∀{ds:List D} {vs:List V} {d:D} {v:V} (n:Nat),tx K ρ H d v->tj K ρ H ds vs->tj K ρ H (ds.set n d) (vs.set n v)
 |[],_,_,_,n,_,h=>by rw[h.nil_inv];simp[tj.nil]
 |d::ds,_,_,_,0,q,h=>by
  obtain⟨v,r,rfl,h1,h2⟩:=h.cons_inv;simpa using tj.cons q h2
 |d::ds,_,_,_,n+1,q,h=>by
  obtain⟨v,r,rfl,h1,h2⟩:=h.cons_inv;simpa using tj.cons h1 (tj.set n q h2)
def tx.int_inv{i:Int}{v:V}(h:tx K ρ H (.int i) v):v=.int i:=by unfold tx at h;exact h
def tx.tN{i:Bool}{v:V}(h:tx K ρ H (.bl i) v):v=.bl i:=by unfold tx at h;exact h
def tx.tJ{v:V}(h:tx K ρ H .non v):v=.non:=by unfold tx at h;exact h
def tx.str_inv{x:yy}{v:V}(h:tx K ρ H (.str x) v):v=.str x:=by unfold tx at h;exact h
def tx.tR{ds:List D}{v:V}(h:tx K ρ H (.tup ds) v):∃a vs,v=.ref a/\H a=some (.tup vs)/\tj K ρ H ds vs:=by unfold tx at h;exact h
def tx.sB{ds:List D}{v:V}(h:tx K ρ H (.fz ds) v):∃a vs,v=.ref a/\FzL K H a vs/\tj K ρ H ds vs:=by unfold tx at h;exact h
def tx.tz{n:Nat}{v:V}(h:tx K ρ H (.loc n) v):∃a,v=.ref a/\ρ[n]?=some a:=by unfold tx at h;exact h
def tx.int{i:Int}:tx K ρ H (.int i) (.int i):=by unfold tx;rfl
def tx.bl{i:Bool}:tx K ρ H (.bl i) (.bl i):=by unfold tx;rfl
def tx.non:tx K ρ H .non .non:=by unfold tx;rfl
def tx.str{x:yy}:tx K ρ H (.str x) (.str x):=by unfold tx;rfl
def tx.tup{ds:List D}{a:yd}{vs:List V}(e:H a=some (.tup vs))(h:tj K ρ H ds vs):tx K ρ H (.tup ds) (.ref a):=by unfold tx;exact⟨a,vs,rfl,e,h⟩
def tx.fz{ds:List D}{a:yd}{vs:List V}(e:FzL K H a vs)(h:tj K ρ H ds vs):tx K ρ H (.fz ds) (.ref a):=by unfold tx;exact⟨a,vs,rfl,e,h⟩
def tx.loc{n:Nat}{a:yd}(e:ρ[n]?=some a):tx K ρ H (.loc n) (.ref a):=by unfold tx;exact⟨a,rfl,e⟩
def FzL.sq{a:yd}{vs:List V}(h:FzL K H a vs):SqL K H a vs:=by
 rcases h with h|h
 ·exact .inl (.inr h)
 ·exact .inr h
def Sn.some{a:yd}{o:tE}(h:Sn K ρ H a o):∃u,H a=some u:=by
 cases o with
 |lst ds=>obtain⟨vs,e,_⟩:=h;exact⟨_,e⟩
 |dct kvs=>obtain⟨vs,e,_⟩:=h;exact⟨_,e⟩
 |dcf kvs=>obtain⟨o,vs,e,_⟩:=h;exact⟨_,e⟩
 |exc c fs=>obtain⟨C,dx,_,e,_⟩:=h;exact⟨_,e⟩
 |ins c fs=>obtain⟨C,dx,vs,_,e,_⟩:=h;exact⟨_,e⟩
def tI.mem_some(R:tI K ρ H μ){a:yd}(h:a∈ρ):∃u,H a=some u:=by
 obtain⟨n,h1,e⟩:=List.mem_iff_getElem.mp h;have h2:n<μ.length:=by rw[<-R.len];exact h1
 exact(R.at_ n a μ[n] (by rw[yu h1,e]) (by simp[h2])).some
def Sm.ext{fs:List (yy×D)}{dx:Option yd}(e:Ext ρ H ρ' H')(h:Sm K ρ H fs dx):Sm K ρ' H' fs dx:=by
 rcases h with h|⟨p,vs,e1,e2,e3,r⟩
 ·exact .inl h
 ·exact .inr ⟨p,vs,e1,e.xd _ _ e2,e3,r.ext e⟩
def Sn.ext{a:yd}{o:tE}(e:Ext ρ H ρ' H')(h:Sn K ρ H a o)(s:H' a=H a):Sn K ρ' H' a o:=by
 cases o with
 |lst ds=>obtain⟨vs,q,r⟩:=h;exact⟨vs,s.trans q,r.ext e⟩
 |dct kvs=>obtain⟨vs,q,q2,r⟩:=h;exact⟨vs,s.trans q,q2,r.ext e⟩
 |dcf kvs=>obtain⟨o,vs,q,q2,r⟩:=h;exact⟨o,vs,s.trans q,q2,r.ext e⟩
 |exc c fs=>obtain⟨C,dx,n,q,r⟩:=h;exact⟨C,dx,n,s.trans q,r.ext e⟩
 |ins c fs=>obtain⟨C,dx,vs,n,q,q2,r⟩:=h;exact⟨C,dx,vs,n,s.trans q,q2,r.ext e⟩
def Ext.new{p:yd}{o:HO}(hp:H p=none):Ext ρ H ρ (upd H p o) :=
 ⟨⟨[],by simp⟩,λa vs e=>by rw[zN (zI e hp)];exact e,λa o u e=>by rw[zN (zI e hp)];exact e,λa fs e=>by rw[zN (zI e hp)];exact e⟩
def tI.other(R:tI K ρ H μ)(e:Ext ρ H ρ H')(s:∀a∈ρ,H' a=H a):tI K ρ H' μ :=
 ⟨R.nd,R.len,λn a o h1 h2=>(R.at_ n a o h1 h2).ext e (s a (mem_of_getElem? h1))⟩
def tI.Tp(R:tI K ρ H μ){p:yd}{o:HO}(hp:H p=none):tI K ρ (upd H p o) μ :=
 R.other (Ext.new hp) λa ha=>by
  obtain⟨u,e⟩:=R.mem_some ha;exact zN (zI e hp)
def Ext.push{p:yd}{o:HO}(hp:H p=none):Ext ρ H (ρ++[p]) (upd H p o) :=
 ⟨⟨[p],rfl⟩,(Ext.new (ρ:=ρ) hp).tup,(Ext.new (ρ:=ρ) hp).frz,(Ext.new (ρ:=ρ) hp).xd⟩
def tI.push(R:tI K ρ H μ){p:yd}{o:HO}{lo:tE}(hp:H p=none)(h:Sn K (ρ++[p]) (upd H p o) p lo):tI K (ρ++[p]) (upd H p o) (μ++[lo]):=by
 refine⟨?_,by simp[R.len],λn a u h1 h2=>?_⟩
 ·rw[nodup_append];refine⟨R.nd,by simp,λa ha b hb=>?_⟩;simp at hb;subst hb;obtain⟨u,e⟩:=R.mem_some ha;exact zI e hp
 ·by_cases hn:n<ρ.length
  ·rw[yq hn]at h1;rw[yq (by rw[<-R.len];exact hn)]at h2;have q:=R.at_ n a u h1 h2;obtain⟨z,e⟩:=q.some;exact q.ext (Ext.push hp) (zN (zI e hp))
  ·have hl:n<(ρ++[p]).length:=(List.getElem?_eq_some_iff.mp h1).1;have e:n=ρ.length:=by simp at hl;omega
   subst e;rw[yJ (yk _)]at h1;rw[R.len,yJ (yk _)]at h2;simp at h1 h2;subst h1 h2;exact h
def zFb{p:yd}(R:tI K ρ H μ):(ρ++[p])[μ.length]?=some p:=by
 rw[<-R.len];simp
def Ext.wr{p:yd}{o:HO}(hm:Mut (H p)):Ext ρ H ρ (upd H p o) :=
 ⟨⟨[],by simp⟩,λa vs e=>by rw[zN (by rintro rfl;rw[e]at hm;exact hm)];exact e,λa o u e=>by rw[zN (by rintro rfl;rw[e]at hm;exact hm)];exact e,λa fs e=>by rw[zN (by rintro rfl;rw[e]at hm;exact hm)];exact e⟩
def tI.wr(R:tI K ρ H μ){n:Nat}{p:yd}{o:HO}{lo:tE}(hm:Mut (H p))(hn:ρ[n]?=some p)(h:Sn K ρ (upd H p o) p lo):tI K ρ (upd H p o) (μ.set n lo):=by
 have hlt:=(List.getElem?_eq_some_iff.mp hn).1;refine⟨R.nd,by simp[R.len],λm a u h1 h2=>?_⟩
 by_cases hmn:m=n
 ·subst hmn;rw[hn]at h1;cases h1;rw[yI (by rw[<-R.len];exact hlt)]at h2;cases h2;exact h
 ·rw[yK (yH hmn)]at h2
  have hap:a≠p:=by
   rintro rfl;obtain⟨x1,y1⟩:=List.getElem?_eq_some_iff.mp h1;obtain⟨x2,y2⟩:=List.getElem?_eq_some_iff.mp hn;exact hmn ((List.getElem_inj R.nd).mp (y1.trans y2.symm))
  exact(R.at_ m a u h1 h2).ext (Ext.wr hm) (zN hap)
end
abbrev FE:=Loc->Mem->Option (D×Mem)
abbrev FT:=Loc->Mem->Option (Bool×Mem)
abbrev FA:=Loc->Mem->Option (List D×Mem)
inductive Out where
 |next (δ:Loc) (μ:Mem)|ret (d:D) (μ:Mem)|brk (δ:Loc) (μ:Mem)|cont (δ:Loc) (μ:Mem)
  |exc (c:yy) (fs:List (yy×D)) (μ:Mem)
abbrev FS:=Loc->Mem->Option Out
section
variable (K:yw)
structure At(ρ:List yd)(H:Hp)(σ:L2.St)(δ:Loc)(μ:Mem):Prop where
 st:SG K ρ H σ δ
 hp:tI K ρ H μ
 len:σ.length=δ.length
def tM(φ:FE):TE:=λσ H Q=>∃ρ δ μ d μ',At K ρ H σ δ μ/\φ δ μ=some (d,μ')/\∀ρ' H' v,Ext ρ H ρ' H'->tI K ρ' H' μ'->tx K ρ' H' d v->Q v H'
def tMT(φ:FT):TT:=λσ H Q=>∃ρ δ μ b μ',At K ρ H σ δ μ/\φ δ μ=some (b,μ')/\∀ρ' H',Ext ρ H ρ' H'->tI K ρ' H' μ'->Q b H'
def tMA(φ:FA):TA:=λσ H Q=>∃ρ δ μ ds μ',At K ρ H σ δ μ/\φ δ μ=some (ds,μ')/\∀ρ' H' vs,Ext ρ H ρ' H'->tI K ρ' H' μ'->tj K ρ' H' ds vs->Q vs H'
def sQ(W:XK)(ρ:List yd)(H:Hp)(E:Ends):Out->Prop
 |.next δ' μ'=>∀ρ' σ' H',Ext ρ H ρ' H'->At K ρ' H' σ' δ' μ'->E.nx σ' H'
 |.brk δ' μ'=>∀ρ' σ' H',Ext ρ H ρ' H'->At K ρ' H' σ' δ' μ'->E.bk σ' H'
 |.cont δ' μ'=>∀ρ' σ' H',Ext ρ H ρ' H'->At K ρ' H' σ' δ' μ'->E.ct σ' H'
 |.ret d μ'=>∀ρ' v H',Ext ρ H ρ' H'->tI K ρ' H' μ'->tx K ρ' H' d v->E.rt v H'
 |.exc c fs μ'=>∀ρ' H' C dx,PySem.W.nsIn K yp c=some (some (.ref C))->Ext ρ H ρ' H'->tI K ρ' H' μ'->Sm K ρ' H' fs dx->W (.ref C) dx H'
def tMS(W:XK)(ψ:FS):TS:=λE σ H=>∃ρ δ μ o,At K ρ H σ δ μ/\ψ δ μ=some o/\sQ K W ρ H E o
end
def ME(X:Cx)(e:yF)(φ:FE):Prop:=PE X e (tM X.K φ)
def MT(X:Cx)(e:yF)(φ:FT):Prop:=PT X e (tMT X.K φ)
def MW(X:Cx)(e:yF)(φ:FT):Prop:=PW X e (tMT X.K φ)
def MA(X:Cx)(es:List yF)(φ:FA):Prop:=PA X es (tMA X.K φ)
def MS(X:Cx)(st:Yi)(ψ:FS):Prop:=PS X st (tMS X.K (zXm X) ψ)
def MSs(X:Cx)(st:List Yi)(ψ:FS):Prop:=PSs X st (tMS X.K (zXm X) ψ)
abbrev FF:=List D->Mem->Option (D×Mem)
def spM(K:yw)(n:Nat)(F:FF):Sp:=λvs H Q _=>vs.length=n/\∃ρ ds μ d μ',tj K ρ H ds vs/\tI K ρ H μ/\F ds μ=some (d,μ')/\∀ρ' H' v,Ext ρ H ρ' H'->tI K ρ' H' μ'->tx K ρ' H' d v->Q v H'
def At.ext{K:yw}{ρ ρ':List yd}{H H':Hp}{σ:L2.St}{δ:Loc}{μ μ':Mem}(a:At K ρ H σ δ μ)(e:Ext ρ H ρ' H')(R:tI K ρ' H' μ'):At K ρ' H' σ δ μ':=⟨a.st.ext e,R,a.len⟩
def zjd{X:Cx}{e:yF}{t:TE}{φ:FE}(h:PE X e t)(w:∀ρ δ μ σ H d μ' Q,At X.K ρ H σ δ μ->φ δ μ=some (d,μ')->(∀ρ' H' v,Ext ρ H ρ' H'->tI X.K ρ' H' μ'->tx X.K ρ' H' d v->Q v H')->t σ H Q):ME X e φ :=
 by intro pins s σ H Q I hh;obtain⟨ρ,δ,μ,d,μ',a,e,k⟩:=hh;exact h pins s σ H Q I (w ρ δ μ σ H d μ' Q a e k)
def zKw{X:Cx}{e:yF}{t:TT}{φ:FT}(h:PT X e t)(w:∀ρ δ μ σ H b μ' Q,At X.K ρ H σ δ μ->φ δ μ=some (b,μ')->(∀ρ' H',Ext ρ H ρ' H'->tI X.K ρ' H' μ'->Q b H')->t σ H Q):MT X e φ :=
 by intro pins s σ H Q I hh;obtain⟨ρ,δ,μ,d,μ',a,e,k⟩:=hh;exact h pins s σ H Q I (w ρ δ μ σ H d μ' Q a e k)
def zez{X:Cx}{e:yF}{t:TT}{φ:FT}(h:PW X e t)(w:∀ρ δ μ σ H b μ' Q,At X.K ρ H σ δ μ->φ δ μ=some (b,μ')->(∀ρ' H',Ext ρ H ρ' H'->tI X.K ρ' H' μ'->Q b H')->t σ H Q):MW X e φ :=
 λwh pins s σ H Q I ⟨ρ,δ,μ,d,μ',a,e,k⟩=>h wh pins s σ H Q I (w ρ δ μ σ H d μ' Q a e k)
def zNy{X:Cx}{e:List yF}{t:TA}{φ:FA}(h:PA X e t)(w:∀ρ δ μ σ H ds μ' Q,At X.K ρ H σ δ μ->φ δ μ=some (ds,μ')->(∀ρ' H' vs,Ext ρ H ρ' H'->tI X.K ρ' H' μ'->tj X.K ρ' H' ds vs->Q vs H')->t σ H Q):MA X e φ :=
 λpos pins s σ H Q I ⟨ρ,δ,μ,d,μ',a,e,k⟩=>h pos pins s σ H Q I (w ρ δ μ σ H d μ' Q a e k)
def zkk{X:Cx}{e:Yi}{t:TS}{ψ:FS}(h:PS X e t)(w:∀ρ δ μ σ H o E,At X.K ρ H σ δ μ->ψ δ μ=some o->sQ X.K (zXm X) ρ H E o->t E σ H):MS X e ψ :=
 by intro pins s σ H E I hh;obtain⟨ρ,δ,μ,o,a,e,k⟩:=hh;exact h pins s σ H E I (w ρ δ μ σ H o E a e k)
def zvw{X:Cx}{e:List Yi}{t:TS}{ψ:FS}(h:PSs X e t)(w:∀ρ δ μ σ H o E,At X.K ρ H σ δ μ->ψ δ μ=some o->sQ X.K (zXm X) ρ H E o->t E σ H):MSs X e ψ :=
 by intro pins s σ H E I hh;obtain⟨ρ,δ,μ,o,a,e,k⟩:=hh;exact h pins s σ H E I (w ρ δ μ σ H o E a e k)
end M
namespace M
open PySem PySem.Spec PyProof.Rows L2
def zn{α β:Type}{o:Option α}{f:α->Option β}{b:β}(h:o.bind f=some b):∃a,o=some a/\f a=some b:=by
 cases o with
 |none=>cases h
 |some a=>exact⟨a,rfl,h⟩
section
variable {X:Cx}{a b c e:yF}{es:List yF}{φ ψ χ:FE}{pos:xC}
@[simp] def zq(i:Nat):FE:=λδ μ=>match δ[i]? with
 |some (some d)=>some (d,μ)
 |_=>none
@[simp] def fC(d:D):FE:=λ_ μ=>some (d,μ)
def zVy{i:Nat}{x:yy}(h:PE X (.Name x pos) (zrA i)):ME X (.Name x pos) (zq i) :=
 zjd h λρ δ μ σ H d μ' Q A e k=>by
  unfold zq at e
  split at e
  ·rename_i d' hd
   cases e;obtain⟨v,hv,r⟩:=A.st i _ hd;exact⟨v,hv,k ρ H v Ext.refl A.hp r⟩
  ·cases e
def zMz{v:V}{d:D}(h:PE X e (tC v))(r:∀ρ H,tx X.K ρ H d v):ME X e (fC d) :=
 zjd h λρ δ μ σ H d' μ' Q A e k=>by
  cases e;exact k ρ H v Ext.refl A.hp (r ρ H)
def zx{i j}:ME X (.Constant (.int i) j pos) (fC (.int i)):=zMz zyy λ_ _ =>.int
def z2j{i j}:ME X (.Constant (.bool i) j pos) (fC (.bl i)):=zMz zlA λ_ _ =>.bl
def zdf{j}:ME X (.Constant .none j pos) (fC .non):=zMz zGz λ_ _ =>.non
def z2e{x j}:ME X (.Constant (.str x) j pos) (fC (.str x)):=zMz zHz λ_ _ =>.str
def mv(i:Nat){x:yy}(hN:X.N[i]?=some x:=by rfl)(hv:Vis X.env.scope x:=by first|exact Or.inl rfl|exact Or.inr (Or.inl rfl)|exact Or.inr (Or.inr rfl))(hd:(x==("__debug__":yy))=false:=by decide)
 (hcd:(x==("__classdict__":yy))=false:=by decide):ME X (.Name x pos) (zq i):=zVy (ztw hN hv hd hcd)
def zdt{x:yy}{i:Int}(hm:∃t,X.mg x=some (.int i t))(hg:Gl X x:=by rfl)(hd:(x==("__debug__":yy))=false:=by decide):ME X (.Name x pos) (fC (.int i)) :=
 let ⟨t,ht⟩:=hm
 zMz (zpx (v:=V.int i) hg ht ⟨t,rfl⟩ hd) λ_ _ =>.int
abbrev G2:=D->D->Mem->Option (D×Mem)
def rM(K:yw)(g:G2):R2:=λx y H Q=>∃ρ dx dy μ d μ',tx K ρ H dx x/\tx K ρ H dy y/\tI K ρ H μ/\g dx dy μ=some (d,μ')/\∀ρ' H' v,Ext ρ H ρ' H'->tI K ρ' H' μ'->tx K ρ' H' d v->Q v H'
def OpM(X:Cx)(f:yb->yb->Sem yb)(g:G2):Prop:=OpR X f (rM X.K g)
def OpM.of{X:Cx}{f:yb->yb->Sem yb}{g:G2}(h:∀(pins:List (yd×YY)) (s:ye) (σ:L2.St) (H:Hp) (x y:V) (v u:yb) (Q:VK),Inv X pins σ H s->RelV x v->RelV y u->∀(ρ:List yd)(dx dy:D)(μ:Mem)(d:D)(μ':Mem),tx X.K ρ H dx x->tx X.K ρ H dy y->tI X.K ρ H μ->g dx dy μ=some (d,μ')->(∀ρ' H' v,Ext ρ H ρ' H'->tI X.K ρ' H' μ'->tx X.K ρ' H' d v->Q v H')->yo (yx X.prog X.w) X.A (f v u) (EP X pins σ Q) X.xe s):OpM X f g:=by
 intro pins s σ H x y v u Q I rx ry hh;obtain⟨ρ,dx,dy,μ,d,μ',r1,r2,R,e,k⟩:=hh;exact h pins s σ H x y v u Q I rx ry ρ dx dy μ d μ' r1 r2 R e k
@[simp] def zK(g:G2)(φ ψ:FE):FE:=λδ μ=>(φ δ μ).bind λp=>(ψ δ p.2).bind λq=>g p.1 q.1 q.2
def zsu{g:G2}{ρ:List yd}{δ:Loc}{μ:Mem}{σ:L2.St}{H:Hp}{d:D}{μ':Mem}{Q:VK}(A:At X.K ρ H σ δ μ)(e:zK g φ ψ δ μ=some (d,μ'))
 (k:∀ρ' H' v,Ext ρ H ρ' H'->tI X.K ρ' H' μ'->tx X.K ρ' H' d v->Q v H'):tOp (rM X.K g) (tM X.K φ) (tM X.K ψ) σ H Q:=by
 obtain⟨⟨x,μ1⟩,e1,e⟩:=zn e;obtain⟨⟨y,μ2⟩,e2,e⟩:=zn e;refine⟨ρ,δ,μ,x,μ1,A,e1,λρ1 H1 v x1 R1 r1=>?_⟩;refine⟨ρ1,δ,μ1,y,μ2,A.ext x1 R1,e2,λρ2 H2 u x2 R2 r2=>?_⟩;exact⟨ρ2,x,y,μ2,d,μ',r1.ext x2,r2,R2,e,λρ3 H3 w x3 R3 r3=>k ρ3 H3 w (x1.trans (x2.trans x3)) R3 r3⟩
def zmb{op:Operator}{g:G2}(ho:OpM X (xG op) g)(ha:ME X a φ)(hb:ME X b ψ):ME X (.BinOp a op b pos) (zK g φ ψ) :=
 zjd (zVA ho ha hb) λ_ _ _ _ _ _ _ _ A e k=>zsu A e k
def zed{op:CmpOp}{g:G2}(ho:OpM X (Yy op) g)(ha:ME X a φ)(hb:ME X b ψ)(hm:behindInMarks op b=false:=by first|exact Si _ (by decide) (by decide)|rfl|with_unfolding_all rfl):ME X (.Compare a [op] [b] pos) (zK g φ ψ) :=
 zjd (zcy ho ha hb hm) λ_ _ _ _ _ _ _ _ A e k=>zsu A e k
@[simp] def zbb(φ:FE):FT:=λδ μ=>(φ δ μ).bind λp=>match p.1 with
 |.bl b=>some (b,p.2)
 |_=>none
def zBq{δ:Loc}{μ μ':Mem}{b:Bool}(h:zbb φ δ μ=some (b,μ')):φ δ μ=some (.bl b,μ'):=by
 obtain⟨⟨x,μ1⟩,e1,e⟩:=zn h;dsimp only at e
 split at e
 ·cases e;exact e1
 ·cases e
def zeb{op:CmpOp}{g:G2}(ho:OpM X (Yy op) g)(ha:ME X a φ)(hb:ME X b ψ)(hm:behindInMarks op b=false:=by first|exact Si _ (by decide) (by decide)|rfl|with_unfolding_all rfl):MT X (.Compare a [op] [b] pos) (zbb (zK g φ ψ)) :=
 zKw (ztx ho ha hb hm) λρ δ μ σ H b μ' Q A e k=>zsu (Q:=λx H'=>∃k,x=.bl k/\Q k H') A (zBq e) λρ' H' v x R r=>⟨b,r.tN,k ρ' H' x R⟩
@[simp] def z9e:G2:=λx y μ=>match x,y with
 |.int i,.int j=>some (.int (i+j),μ)
 |.tup as,.tup bs=>bif decide (as.length+bs.length<=1000000) then some (.tup (as++bs),μ) else none
 |.loc l,.loc m=>match μ[l]?,μ[m]? with
  |some (.lst as),some (.lst bs)=>bif decide (as.length+bs.length<=1000000) then some (.loc μ.length,μ++[.lst (as++bs)]) else none
  |_,_=>none
 |_,_=>none
@[simp] def zQu:G2:=λx y μ=>match x,y with
 |.int i,.int j=>some (.int (i-j),μ)
 |_,_=>none
def zlh(i j:Int):Bool:=decide (-(2^64)<i/\i<2^64)||decide (-(2^64)<j/\j<2^64)||(decide (i.natAbs<2^1000)&&decide (j.natAbs<2^1000))
def zWv{i j:Int}(h:zlh i j=true):IntMulOk i j:=by
 unfold zlh at h;rw[Bool.or_eq_true,Bool.or_eq_true,yO]at h;rcases h with (h|h)|⟨h1,h2⟩
 ·have h:=of_decide_eq_true h;exact .of_left (intBits_le_64 h.1 h.2)
 ·have h:=of_decide_eq_true h;exact .of_right (intBits_le_64 h.1 h.2)
 ·exact .of_le (m:=1000) (n:=1000) (intBits_le (of_decide_eq_true h1)) (intBits_le (of_decide_eq_true h2)) (by decide)
def zqj:G2:=λx y μ=>match x,y with
 |.int i,.int j=>bif zlh i j then some (.int (i*j),μ) else none
 |.tup ds,.int n=>bif decide (2<=n/\n<=1000/\0<ds.length/\ds.length<=1000) then some (.tup (yD n.toNat ds).flatten,μ) else none
 |.loc l,.int n=>match μ[l]? with
  |some (.lst ds)=>bif decide (n<=1000/\-(2^62)<=n/\ds.length<=1000) then some (.loc μ.length,μ++[.lst (yD n.toNat ds).flatten]) else none
  |_=>none
 |_,_=>none
@[simp] def zCn:G2:=λx y μ=>match x,y with
 |.int i,.int j=>bif decide (0<j) then some (.int (i%j),μ) else none
 |_,_=>none
@[simp] def zZw:G2:=λx y μ=>match x,y with
 |.int i,.int j=>bif decide (0<j/\j<1606938044258990275541962092341162602522202993782792835301376) then some (.int (i / j),μ) else none
 |_,_=>none
def zny:G2:=λx y μ=>match x,y with
 |.int i,.int j=>bif decide (0<=j/\j<=100000/\i.natAbs<1606938044258990275541962092341162602522202993782792835301376) then some (.int (i^j.toNat),μ) else none
 |_,_=>none
def zY{α:Type}{c:Bool}{o:Option α}{x:α}(h:(bif c then o else none)=some x):c=true/\o=some x:=by
 cases c with
 |true=>exact⟨rfl,h⟩
 |false=>cases h
def zem{f:yb->yb->Sem yb}{g:G2}{C:Int->Int->Prop}{h:Int->Int->Int}(o:OpR X f (rI C λi j =>.int (h i j)))
 (w:∀x y μ d μ',g x y μ=some (d,μ')->∃i j,x=.int i/\y=.int j/\C i j/\d=.int (h i j)/\μ'=μ):OpM X f g:=by
 refine OpM.of λpins s σ H x y v u Q I rx ry ρ dx dy μ d μ' r1 r2 R e k=>?_;obtain⟨i,j,rfl,rfl,hc,rfl,rfl⟩:=w _ _ _ _ _ e;refine o pins s σ H x y v u Q I rx ry ⟨i,j,r1.int_inv,r2.int_inv,hc,?_⟩;exact k ρ H _ Ext.refl R .int
def zAp:OpM X (xG .Sub) zQu:=zem (C:=λ_ _=>True) (h:=λi j=>i-j) (opI λ_ _ _ _ _ _ _ _ q=>sub_int q) λx y μ d μ' e=>by
 unfold zQu at e
 split at e
 ·cases e;exact⟨_,_,rfl,rfl,trivial,rfl,rfl⟩
 ·cases e
def z8e:OpM X (xG .Mod) zCn:=zem (h:=λi j=>i%j) zlz λx y μ d μ' e=>by
 unfold zCn at e
 split at e
 ·obtain⟨h1,e⟩:=zY e;cases e;have h2:=of_decide_eq_true h1;exact⟨_,_,rfl,rfl,h2,rfl,rfl⟩
 ·cases e
def zPz(i j:Int):Prop:=0<j/\j<1606938044258990275541962092341162602522202993782792835301376
def zFu:OpR X (xG .FloorDiv) (rI zPz λi j =>.int (i / j)):=opI λi j _ _ _ _ _ hc q=>by
 have h1:(0:Int)<j:=hc.1;have h2:j<1606938044258990275541962092341162602522202993782792835301376:=hc.2;refine floordiv_int (by omega) (by rw[Int.fdiv_eq_ediv_of_nonneg i (by omega)];exact q) (.inl (PyProof.noPylong_of_log2 ?_));have:j.natAbs.log2<200:=(Nat.log2_lt (by omega)).mpr (by rw[show 2^200=1606938044258990275541962092341162602522202993782792835301376 from rfl];omega);omega
def zfp:OpM X (xG .FloorDiv) zZw:=zem (C:=zPz) (h:=λi j=>i / j) zFu λx y μ d μ' e=>by
 unfold zZw at e
 split at e
 ·obtain⟨h1,e⟩:=zY e;cases e;have h2:=of_decide_eq_true h1;exact⟨_,_,rfl,rfl,h2,rfl,rfl⟩
 ·cases e
def zBy(i j:Int):Prop:=0<=j/\j<=100000/\i.natAbs<1606938044258990275541962092341162602522202993782792835301376
def z8x:OpR X (xG .Pow) (rI zBy λi j =>.int (i^j.toNat)):=opI λi j _ _ _ _ _ hc q=>by
 refine pow_int hc.1 ?_ q;have hb:Builtin.Int.intBits i<=200:=intBits_le (by rw[show 2^200=1606938044258990275541962092341162602522202993782792835301376 from rfl];exact hc.2.2);have h2:=hc.2.1;have h1:=hc.1
 calc (Builtin.Int.intBits i:Int)*j<=200*100000:=Int.mul_le_mul (by omega) h2 h1 (by omega)
  _<=2^27:=by decide
def zSw:OpM X (xG .Pow) zny:=zem (C:=zBy) (h:=λi j=>i^j.toNat) z8x λx y μ d μ' e=>by
 unfold zny at e
 split at e
 ·obtain⟨h1,e⟩:=zY e;cases e;have h2:=of_decide_eq_true h1;exact⟨_,_,rfl,rfl,h2,rfl,rfl⟩
 ·cases e
@[simp] def zTo(p:Int->Int->Bool):G2:=λx y μ=>match x,y with
 |.int i,.int j=>some (.bl (p i j),μ)
 |_,_=>none
def ztp{f:yb->yb->Sem yb}{p:Int->Int->Bool}(o:OpR X f (rI0 λi j =>.bl (p i j))):OpM X f (zTo p):=by
 refine OpM.of λpins s σ H x y v u Q I rx ry ρ dx dy μ d μ' r1 r2 R e k=>?_;unfold zTo at e
 split at e
 ·cases e;exact o pins s σ H x y v u Q I rx ry ⟨_,_,r1.int_inv,r2.int_inv,k ρ H _ Ext.refl R .bl⟩
 ·cases e
def z7l:OpM X (Yy .Lt) (zTo λi j=>decide (i<j)):=ztp zyA
def zOs:OpM X (Yy .Gt) (zTo λi j=>decide (j<i)):=ztp zsA
def zyz:OpM X (Yy .GtE) (zTo λi j=>decide (j<=i)):=ztp zjA
@[simp] def zQy(φ ψ:FE):FE:=λδ μ=>(φ δ μ).bind λp=>match p.1 with
 |.bl true=>ψ δ p.2
 |.bl false=>some (.bl false,p.2)
 |_=>none
@[simp] def fOr(φ ψ:FE):FE:=λδ μ=>(φ δ μ).bind λp=>match p.1 with
 |.bl false=>ψ δ p.2
 |.bl true=>some (.bl true,p.2)
 |_=>none
@[simp] def zDA(φ:FE):FE:=λδ μ=>(φ δ μ).bind λp=>match p.1 with
 |.bl b=>some (.bl (!b),p.2)
 |_=>none
def zPn{op}(h:ME X a φ):ME X (.BoolOp op [a] pos) φ:=z3y h
def zgu{rest:List yF}(ha:ME X a φ)(hb:ME X (.BoolOp .And (b::rest) pos) ψ):ME X (.BoolOp .And (a::b::rest) pos) (zQy φ ψ) :=
 zjd (zAy ha hb) λρ δ μ σ H d μ' Q A e k=>by
  obtain⟨⟨x,μ1⟩,e1,e⟩:=zn e;refine⟨ρ,δ,μ,x,μ1,A,e1,λρ1 H1 v x1 R1 r1=>?_⟩;dsimp only at e
  split at e
  ·exact⟨true,r1.tN,Sv ⟨ρ1,δ,μ1,d,μ',A.ext x1 R1,e,λρ2 H2 w x2 R2 r2=>k ρ2 H2 w (x1.trans x2) R2 r2⟩⟩
  ·cases e;exact⟨false,r1.tN,Su (k ρ1 H1 _ x1 R1 .bl)⟩
  ·cases e
def zOy{rest:List yF}(ha:ME X a φ)(hb:ME X (.BoolOp .Or (b::rest) pos) ψ):ME X (.BoolOp .Or (a::b::rest) pos) (fOr φ ψ) :=
 zjd (zzA ha hb) λρ δ μ σ H d μ' Q A e k=>by
  obtain⟨⟨x,μ1⟩,e1,e⟩:=zn e;refine⟨ρ,δ,μ,x,μ1,A,e1,λρ1 H1 v x1 R1 r1=>?_⟩;dsimp only at e
  split at e
  ·exact⟨false,r1.tN,Su ⟨ρ1,δ,μ1,d,μ',A.ext x1 R1,e,λρ2 H2 w x2 R2 r2=>k ρ2 H2 w (x1.trans x2) R2 r2⟩⟩
  ·cases e;exact⟨true,r1.tN,Sv (k ρ1 H1 _ x1 R1 .bl)⟩
  ·cases e
def zgz(ha:ME X a φ):ME X (.UnaryOp .Not a pos) (zDA φ) :=
 zjd (zpz ha) λρ δ μ σ H d μ' Q A e k=>by
  obtain⟨⟨x,μ1⟩,e1,e⟩:=zn e;refine⟨ρ,δ,μ,x,μ1,A,e1,λρ1 H1 v x1 R1 r1=>?_⟩;dsimp only at e
  split at e
  ·rename_i q
   cases e;exact⟨q,r1.tN,k ρ1 H1 _ x1 R1 .bl⟩
  ·cases e
@[simp] def zNt(φ ψ:FT):FT:=λδ μ=>(φ δ μ).bind λp=>bif p.1 then ψ δ p.2 else some (false,p.2)
@[simp] def zgw(φ ψ:FT):FT:=λδ μ=>(φ δ μ).bind λp=>bif p.1 then some (true,p.2) else ψ δ p.2
@[simp] def zIk(φ:FT):FT:=λδ μ=>(φ δ μ).bind λp=>some (!p.1,p.2)
def zSe{φ:FE}(h:ME X a φ)(he:∀whole,isTrue a X.env whole=(do let v <-whole;standAt a.pos;xT [v] (truthy v)):=by intro _;rfl):MT X a (zbb φ) :=
 zKw (zFy h he) λρ δ μ σ H b μ' Q A e k=>⟨ρ,δ,μ,.bl b,μ',A,zBq e,λρ' H' v x R r=>⟨b,r.tN,k ρ' H' x R⟩⟩
def MW.mt{φ:FT}(h:MW X a φ):MT X a φ:=h _
def zqp{φ:FT}(h:MT X a φ):MW X (.BoolOp .And [a] pos) φ:=zjy h
def zzn{φ:FT}(h:MT X a φ):MW X (.BoolOp .Or [a] pos) φ:=zJz h
def zYs{φ ψ:FT}{rest:List yF}(ha:MT X a φ)(hb:MW X (.BoolOp .And (b::rest) pos) ψ):MW X (.BoolOp .And (a::b::rest) pos) (zNt φ ψ) :=
 zez (z1z ha hb) λρ δ μ σ H b μ' Q A e k=>by
  obtain⟨⟨x,μ1⟩,e1,e⟩:=zn e;refine⟨ρ,δ,μ,x,μ1,A,e1,λρ1 H1 x1 R1=>?_⟩
  cases x with
  |true=>exact Sv ⟨ρ1,δ,μ1,b,μ',A.ext x1 R1,e,λρ2 H2 x2 R2=>k ρ2 H2 (x1.trans x2) R2⟩
  |false=>
   cases e;exact Su (k ρ1 H1 x1 R1)
def zRr{φ ψ:FT}{rest:List yF}(ha:MT X a φ)(hb:MW X (.BoolOp .Or (b::rest) pos) ψ):MW X (.BoolOp .Or (a::b::rest) pos) (zgw φ ψ) :=
 zez (z7A ha hb) λρ δ μ σ H b μ' Q A e k=>by
  obtain⟨⟨x,μ1⟩,e1,e⟩:=zn e;refine⟨ρ,δ,μ,x,μ1,A,e1,λρ1 H1 x1 R1=>?_⟩
  cases x with
  |false=>exact Su ⟨ρ1,δ,μ1,b,μ',A.ext x1 R1,e,λρ2 H2 x2 R2=>k ρ2 H2 (x1.trans x2) R2⟩
  |true=>
   cases e;exact Sv (k ρ1 H1 x1 R1)
def z7i{φ:FT}(ha:MT X a φ):MT X (.UnaryOp .Not a pos) (zIk φ) :=
 zKw (zUy ha) λρ δ μ σ H b μ' Q A e k=>by
  obtain⟨⟨x,μ1⟩,e1,e⟩:=zn e;cases e;exact⟨ρ,δ,μ,x,μ1,A,e1,λρ1 H1 x1 R1=>k ρ1 H1 x1 R1⟩
structure MAn(X:Cx)(es:List yF)(φ:FA):Prop where
 ma:MA X es φ
 len:∀δ μ ds μ',φ δ μ=some (ds,μ')->ds.length=es.length
@[simp] def zO:FA:=λ_ μ=>some ([],μ)
@[simp] def zo(φ:FE)(ψ:FA):FA:=λδ μ=>(φ δ μ).bind λp=>(ψ δ p.2).bind λq=>some (p.1::q.1,q.2)
def zm:MAn X [] zO:=⟨zNy zmf λρ δ μ σ H ds μ' Q A e k=>by
 cases e;exact k ρ H [] Ext.refl A.hp .nil,λ_ _ _ _ e=>by cases e;rfl⟩
def zrz:yF->Bool
 |.Starred ..=>false
 |_=>true
def z6c{e:yF}{es:List yF}{env:Env}(h:zrz e=true):yj (e::es) env=(false,Yh e env)::yj es env:=by
 cases e<;>first|rfl|cases h
def zf{φ:FE}{ψ:FA}(ha:ME X e φ)(hr:MAn X es ψ)(hs:yj (e::es) X.env=(false,Yh e X.env)::yj es X.env:=by exact z6c rfl):MAn X (e::es) (zo φ ψ) :=
 ⟨zNy (zQc ha hr.ma hs) λρ δ μ σ H ds μ' Q A e k=>by
  obtain⟨⟨x,μ1⟩,e1,e⟩:=zn e;obtain⟨⟨y,μ2⟩,e2,e⟩:=zn e;cases e;refine⟨ρ,δ,μ,x,μ1,A,e1,λρ1 H1 v x1 R1 r1=>?_⟩;refine⟨ρ1,δ,μ1,y,μ2,A.ext x1 R1,e2,λρ2 H2 u x2 R2 r2=>?_⟩;exact k ρ2 H2 _ (x1.trans x2) R2 (.cons (r1.ext x2) r2),λδ μ ds μ' e=>by
  obtain⟨⟨x,μ1⟩,e1,e⟩:=zn e;obtain⟨⟨y,μ2⟩,e2,e⟩:=zn e;cases e;have:=hr.len _ _ _ _ e2;simp[this]⟩
@[simp] def z4l(φ:FA):FE:=λδ μ=>(φ δ μ).bind λp=>some (.tup p.1,p.2)
@[simp] def zWk(φ:FA):FE:=λδ μ=>(φ δ μ).bind λp=>some (.loc p.2.length,p.2++[.lst p.1])
def zSd{x1}{φ:FA}(h:MAn X es φ)(hn:es.length<=1000:=by decide):ME X (.Tuple es x1 pos) (z4l φ) :=
 zjd (zIz h.ma) λρ δ μ σ H d μ' Q A e k=>by
  obtain⟨⟨x,μ1⟩,e1,e⟩:=zn e;cases e;refine⟨ρ,δ,μ,x,μ1,A,e1,λρ1 H1 vs x1 R1 r1=>⟨?_,λp hp=>?_⟩⟩
  ·rw[<-r1.length,h.len _ _ _ _ e1];exact YI (sA hn)
  ·exact k ρ1 _ _ (x1.trans (Ext.new hp)) (R1.Tp hp) (.tup zG (r1.ext (Ext.new hp)))
def zKd{φ:FA}(h:MAn X es φ)(hn:es.length<=1000:=by decide):ME X (.List es pos) (zWk φ) :=
 zjd (zWz h.ma) λρ δ μ σ H d μ' Q A e k=>by
  obtain⟨⟨x,μ1⟩,e1,e⟩:=zn e;cases e;refine⟨ρ,δ,μ,x,μ1,A,e1,λρ1 H1 vs x1 R1 r1=>⟨?_,λp hp=>?_⟩⟩
  ·rw[<-r1.length,h.len _ _ _ _ e1];exact YI (sA hn)
  ·exact k _ _ _ (x1.trans (Ext.push hp)) (R1.push hp ⟨vs,zG,r1.ext (Ext.push hp)⟩) (.loc (zFb R1))
@[simp] def zH(F:FF)(φ:FA):FE:=λδ μ=>(φ δ μ).bind λp=>F p.1 p.2
def zYw{k n:Nat}{f:yd}{fd:yi}{ps:List yy}{F:FF}{x:yy}{p:xC}{φ:FA}(G:tq X.prog X.w X.K X.mg X.base CX0 k f fd ps (spM X.K n F))(hr:tS k X.A)(hm:X.mg x=some (.ref f))(hk:W.keepIn X.K (.ref f)=true)(hb:Binds X.K fd ps [])
 (ha:MAn X (e::es) φ) (hn:(e::es).length=n:=by rfl) (hg:Gl X x:=by rfl) (hdb:(x==("__debug__":yy))=false:=by decide) (he:yj (e::es) X.env=(false,Yh e X.env)::yj es X.env:=by exact z6c rfl) (hpl:(Yo pos (yj es X.env)).any (·.1)=false:=by rfl) :
 ME X (.Call (.Name x p) (e::es) [] pos) (zH F φ) :=
 zjd (zLt G hr hg hm hk hb .nil SE ha.ma hdb he hpl) λρ δ μ σ H d μ' Q A e k=>by
  obtain⟨⟨x,μ1⟩,e1,e⟩:=zn e;refine⟨ρ,δ,μ,x,μ1,A,e1,λρ1 H1 vs x1 R1 r1=>?_⟩;show spM X.K n F (vs++[]) H1 Q E0;rw[append_nil];exact⟨by rw[<-r1.length,ha.len _ _ _ _ e1];exact hn,ρ1,x,μ1,d,μ',r1,R1,e,λρ2 H2 v x2 R2 r2=>k ρ2 H2 v (x1.trans x2) R2 r2⟩
abbrev GL:=List D->Mem->Option (D×Mem)
def rCM(K:yw)(g:GL):List V->Hp->VK->Prop:=λvs H Q=>∃ρ ds μ d μ',tj K ρ H ds vs/\tI K ρ H μ/\g ds μ=some (d,μ')/\∀ρ' H' v,Ext ρ H ρ' H'->tI K ρ' H' μ'->tx K ρ' H' d v->Q v H'
def Ti(X:Cx)(f:yb)(g:GL):Prop:=zRj X f (rCM X.K g)
def Ti.of{X:Cx}{f:yb}{g:GL}(h:∀(pins:List (yd×YY)) (s:ye) (σ:L2.St) (H:Hp) (xs:List V) (us:List yb) (Q:VK),Inv X pins σ H s->Vals xs us->∀(ρ:List yd)(ds:List D)(μ:Mem)(d:D)(μ':Mem),tj X.K ρ H ds xs->tI X.K ρ H μ->g ds μ=some (d,μ')->(∀ρ' H' v,Ext ρ H ρ' H'->tI X.K ρ' H' μ'->tx X.K ρ' H' d v->Q v H')->yo (yx X.prog X.w) X.A (call f us) (EP X pins σ Q) X.xe s):Ti X f g:=by
 intro pins s σ H xs us Q I r hh;obtain⟨ρ,ds,μ,d,μ',r1,R,e,k⟩:=hh;exact h pins s σ H xs us Q I r ρ ds μ d μ' r1 R e k
def zhB{g:GL}{φ:FA}{ρ:List yd}{δ:Loc}{μ:Mem}{σ:L2.St}{H:Hp}{d:D}{μ':Mem}{Q:VK}(A:At X.K ρ H σ δ μ)(e:zH g φ δ μ=some (d,μ'))
 (k:∀ρ' H' v,Ext ρ H ρ' H'->tI X.K ρ' H' μ'->tx X.K ρ' H' d v->Q v H'):tCB (rCM X.K g) (tMA X.K φ) σ H Q:=by
 obtain⟨⟨x,μ1⟩,e1,e⟩:=zn e;exact⟨ρ,δ,μ,x,μ1,A,e1,λρ1 H1 vs x1 R1 r1=>⟨ρ1,x,μ1,d,μ',r1,R1,e,λρ2 H2 v x2 R2 r2=>k ρ2 H2 v (x1.trans x2) R2 r2⟩⟩
def zcb{g:GL}{id:String}{x:yy}{p:xC}{φ:FA}(hc:Ti X (.builtin id) g)(hm:X.mg x=none)(hv:yQ x=some (.builtin id))(ha:MAn X (e::es) φ)(hg:Gl X x:=by rfl)(hn:x≠"__name__":=by decide)(hdb:(x==("__debug__":yy))=false:=by decide)
 (he:yj (e::es) X.env=(false,Yh e X.env)::yj es X.env:=by exact z6c rfl) (hpl:(Yo pos (yj es X.env)).any (·.1)=false:=by rfl):ME X (.Call (.Name x p) (e::es) [] pos) (zH g φ) :=
 zjd (zLm hc hg hm hv ha.ma hn hdb he hpl) λ_ _ _ _ _ _ _ _ A e k=>zhB A e k
def zPf{g:GL}{T:String}{x:yy}{p:xC}{φ:FA}(hc:Ti X (.type T) g)(hm:X.mg x=none)(hv:yQ x=some (.type T))(ha:MAn X (e::es) φ)(hg:Gl X x:=by rfl)(hn:x≠"__name__":=by decide)(hdb:(x==("__debug__":yy))=false:=by decide)
 (he:yj (e::es) X.env=(false,Yh e X.env)::yj es X.env:=by exact z6c rfl) (hpl:(Yo pos (yj es X.env)).any (·.1)=false:=by rfl):ME X (.Call (.Name x p) (e::es) [] pos) (zH g φ) :=
 zjd (zxe hc hg hm hv ha.ma hn hdb he hpl) λ_ _ _ _ _ _ _ _ A e k=>zhB A e k
end
section
variable {K:yw}{ρ:List yd}{H:Hp}{μ:Mem}
@[simp] def items(μ:Mem):D->Option (List D)
 |.tup ds=>some ds
 |.fz ds=>some ds
 |.loc n=>match μ[n]? with
  |some (.lst ds)=>some ds
  |_=>none
 |_=>none
def zkg{d:D}{v:V}{ds:List D}(R:tI K ρ H μ)(r:tx K ρ H d v)(e:items μ d=some ds):∃p vs,v=.ref p/\(SqL K H p vs\/SqT K H p vs)/\tj K ρ H ds vs:=by
 unfold items at e
 split at e
 ·cases e;obtain⟨a,vs,e1,e2,q⟩:=r.tR;exact⟨a,vs,e1,.inr (SqT.of e2),q⟩
 ·cases e;obtain⟨a,vs,e1,e2,q⟩:=r.sB;exact⟨a,vs,e1,.inl e2.sq,q⟩
 ·split at e
  ·rename_i h
   cases e;obtain⟨a,e1,e2⟩:=r.tz;obtain⟨vs,e3,q⟩:=R.at_ _ _ _ e2 h;exact⟨a,vs,e1,.inl (SqL.of e3),q⟩
  ·cases e
 ·cases e
end
section
variable {X:Cx}{a b c e:yF}{es:List yF}{φ ψ χ:FE}{pos:xC}
@[simp] def gIx:G2:=λx y μ=>match y with
 |.int i=>(items μ x).bind λds=>(atI ds i).bind λd=>some (d,μ)
 |_=>none
def z0w{K:yw}{ρ:List yd}{H:Hp}{ds:List D}{vs:List V}{i:Int}{d:D}(r:tj K ρ H ds vs)(e:atI ds i=some d):∃v,atI vs i=some v/\tx K ρ H d v:=by
 unfold atI at e ⊢;rw[r.length]at e;obtain⟨j,e1,e2⟩:=zn e;obtain⟨v,e3,q⟩:=r.get e2;exact⟨v,by rw[e1];exact e3,q⟩
def ixM:IxR X (rM X.K gIx):=by
 intro value slice pins s σ H x y v u Q I rx ry ⟨ρ,dx,dy,μ,d,μ',r1,r2,R,e,k⟩ hs;unfold gIx at e
 split at e
 ·obtain⟨ds,e1,e⟩:=zn e;obtain⟨d',e2,e⟩:=zn e;cases e;obtain⟨p,vs,rfl,hq,rr⟩:=zkg R r1 e1;obtain⟨w,e3,q⟩:=z0w rr e2;rcases hq with hq|hq
  ·exact zew value slice pins s σ H _ y v u Q I rx ry (.inl ⟨p,vs,_,w,rfl,r2.int_inv,hq,e3,k ρ H w Ext.refl R q⟩) hs
  ·exact zew value slice pins s σ H _ y v u Q I rx ry (.inr (.inl ⟨p,vs,_,w,rfl,r2.int_inv,hq,e3,k ρ H w Ext.refl R q⟩)) hs
 ·cases e
def zW(ha:ME X a φ)(hb:ME X b ψ)(hs:zYo b:=by exact λ_ _=>rfl):ME X (.Subscript a b pos) (zK gIx φ ψ) :=
 zjd (zjz ixM ha hb hs) λ_ _ _ _ _ _ _ _ A e k=>zsu A e k
@[simp] def zHl:GL:=λds μ=>match ds with
 |[d]=>(items μ d).bind λxs=>some (.int xs.length,μ)
 |_=>none
def zub:Ti X (.builtin "len") zHl:=by
 refine Ti.of λpins s σ H xs us Q I r ρ ds μ d μ' r1 R e k=>?_;unfold zHl at e
 split at e
 ·obtain⟨ds,e1,e⟩:=zn e;cases e;obtain⟨v,rr,rfl,q1,q2⟩:=r1.cons_inv;have q2:=q2.nil_inv;subst q2;obtain⟨p,vs,rfl,hq,rr⟩:=zkg R q1 e1;exact zdo pins s σ H _ us Q I r ⟨p,vs,rfl,hq,k ρ H _ Ext.refl R (by rw[rr.length];exact .int)⟩
 ·cases e
@[simp] def zGs:GL:=λds μ=>match ds with
 |[d]=>(items μ d).bind λxs=>some (.loc μ.length,μ++[.lst xs])
 |_=>none
def zEl:Ti X (.type "list") zGs:=by
 refine Ti.of λpins s σ H xs us Q I r ρ ds μ d μ' r1 R e k=>?_;unfold zGs at e
 split at e
 ·obtain⟨ds,e1,e⟩:=zn e;cases e;obtain⟨v,rr,rfl,q1,q2⟩:=r1.cons_inv;have q2:=q2.nil_inv;subst q2;obtain⟨p,vs,rfl,hq,rr⟩:=zkg R q1 e1;exact zig pins s σ H _ us Q I r ⟨p,vs,rfl,hq,λl hl=>k _ _ _ (Ext.push hl) (R.push hl ⟨vs,zG,rr.ext (Ext.push hl)⟩) (.loc (zFb R))⟩
 ·cases e
@[simp] def z3g:GL:=λds μ=>match ds with
 |[.tup xs]=>some (.tup xs,μ)
 |[d]=>(items μ d).bind λxs=>some (.tup xs,μ)
 |_=>none
def zUf:Ti X (.type "tuple") z3g:=by
 refine Ti.of λpins s σ H xs us Q I r ρ ds μ d μ' r1 R e k=>?_
 have key:∃x ys,ds=[x]/\items μ x=some ys/\d=.tup ys/\μ'=μ:=by
  unfold z3g at e
  split at e
  ·cases e;exact⟨_,_,rfl,rfl,rfl,rfl⟩
  ·obtain⟨ds,e1,e⟩:=zn e;cases e;exact⟨_,_,rfl,e1,rfl,rfl⟩
  ·cases e
 obtain⟨x,ys,rfl,e1,rfl,rfl⟩:=key;obtain⟨v,rr,rfl,q1,q2⟩:=r1.cons_inv;have q2:=q2.nil_inv;subst q2
 cases x with
 |tup zs=>
  cases e1;obtain⟨a,vs,rfl,e2,q⟩:=q1.tR;exact zzf pins s σ H _ us Q I r ⟨a,vs,rfl,.inr ⟨SqT.of e2,k ρ H _ Ext.refl R q1⟩⟩
 |fz zs=>
  cases e1;obtain⟨a,vs,rfl,e2,q⟩:=q1.sB;exact zzf pins s σ H _ us Q I r ⟨a,vs,rfl,.inl ⟨e2.sq,λl hl=>k ρ _ _ (Ext.new hl) (R.Tp hl) (.tup zG (q.ext (Ext.new hl)))⟩⟩
 |loc n=>
  unfold items at e1;dsimp only at e1
  split at e1
  ·rename_i h
   cases e1;obtain⟨a,rfl,e2⟩:=q1.tz;obtain⟨vs,e3,q⟩:=R.at_ _ _ _ e2 h;exact zzf pins s σ H _ us Q I r ⟨a,vs,rfl,.inl ⟨SqL.of e3,λl hl=>k ρ _ _ (Ext.new hl) (R.Tp hl) (.tup zG (q.ext (Ext.new hl)))⟩⟩
  ·cases e1
 |_=>cases e1
end
def zBo{prog:yB}{w:yL}{A:yR}{R:Result->ye->Prop}{s:ye}{elt target iter:yF}{ifs:List yF}{scope:Xv}{pos:xC}{it acc:yb}{env:Env}(I:Nat->ye->Prop)
 (turn:∀n s,I n s->yo (yx prog w) A (xQ it) (λr s₁=>match r with
  |none=>R (.ok .next) s₁
  |some v=>yo (yx prog w) A (letOwnedTupleGo target it v) (λ_ s₁'=>yo (yx prog w) A (assign target env v) (λ_ s₂=>
   yo (yx prog w) A (forIn ifs true λc r=>if r=true then do let ok <-isTrue c env (Yh c env);pure (xg ok) else pure (xg r)) (λok s₃=>
    if ok=true then yo (yx prog w) A (Yh elt env) (λx s₄=>
     yo (yx prog w) A (call (.builtin "list.append") [acc,x]) (λ_ s₅=>∃m,m<n/\I m s₅) (λ_ _=>False) s₄) (λ_ _=>False) s₃
    else ∃m,m<n/\I m s₃) (λ_ _=>False) s₂) (λ_ _=>False) s₁') (λ_ _=>False) s₁) (λ_ _=>False) s)
 (n:Nat) (h:I n s) :
 Xw (yx prog w) A (.compLoop (.ListComp elt [⟨target,iter,ifs,0⟩] scope pos) 0 it acc env) R s:=by
 refine codeAny_loop rfl I (λn s hI=>?_) n h;show yo _ A ((compTurn (.ListComp elt [⟨target,iter,ifs,0⟩] scope pos) 0 it acc env).onRaise (λx=>do noteFrame x env;theTreesLotGoes x)) _ _ s;refine wpAny_noted ?_;rw[compTurn_list];refine ya (YZ (ya (Yb (turn n s hI) (λr s₁ h₁=>?_) λ_ _ h'=>h'.elim)))
 cases r with
 |none=>exact yg h₁
 |some v=>
  refine ya (Yb h₁ (λ_ s₁' h₁=>?_) λ_ _ h'=>h'.elim);refine ya (Yb h₁ (λ_ s₂ h₂=>ya (Yb h₂ (λok s₃ h₃=>?_) λ_ _ h'=>h'.elim)) λ_ _ h'=>h'.elim)
  cases ok with
  |false=>exact yg ⟨rfl,h₃⟩
  |true=>
   exact ya (ya (Yb h₃ (λx s₄ h₄=>ya (Yb h₄ (λ_ s₅ h₅=>yg (yg ⟨rfl,h₅⟩)) λ_ _ h'=>h'.elim)) λ_ _ h'=>h'.elim))
def zcc(cells:List (yy×yd)):List (yy×xt)->List (yy×yd)->List (yy×yd)
 |[],acc=>acc
 |(n,k)::r,acc=>zcc cells r (if k == .free then(match cells.lookup n with|some c=>(n,c)::acc|none=>acc) else acc)
def zWi{env:Env}:∀(names:List (yy×xt)) (acc:List (yy×yd)),(∀x∈names,x.2=.free->∃c,env.cells.lookup x.1=some c) ->
 (forIn names acc λ(x:yy×xt) (cs:List (yy×yd))=>(match x with|(name,kind)=>if kind == .free then do let c <-cellOf env name;pure (xg ((name,c)::cs)) else pure (xg cs):Sem (ForInStep (List (yy×yd)))))=(pure (zcc env.cells names acc):Sem (List (yy×yd)))
 |[],acc,_=>rfl
 |(n,k)::r,acc,h=>by
  have ih:=λacc'=>zWi r acc' λx hx=>h x (mem_cons_of_mem _ hx);rw[List.forIn_cons]
  by_cases hk:k=.free
  ·subst hk;obtain⟨c,hc⟩:=h (n,.free) mem_cons_self rfl;have e:cellOf env n=pure c:=by unfold cellOf;rw[hc]
   have:zcc env.cells ((n,yz)::r) acc=zcc env.cells r ((n,c)::acc):=by
    show zcc env.cells r (if(yz==yz)=true then(match env.cells.lookup n with|some c=>(n,c)::acc|none=>acc) else acc)=_;rw[hc];rfl
   rw[this,<-ih];show((do let c <-cellOf env n;pure (xg ((n,c)::acc))) >>= _:Sem _)=_;rw[e];rfl
  ·have hb:(k==yz)=false:=by simpa using hk
   have:zcc env.cells ((n,k)::r) acc=zcc env.cells r acc:=by
    show zcc env.cells r (if(k==yz)=true then _ else acc)=_;rw[hb];rfl
   rw[this,<-ih];simp only[hb,xI,if_false];rfl
def zTl{scope:Xv}{env:Env}(h:∀x∈scope.names,x.2=.free->∃c,env.cells.lookup x.1=some c):closureFor scope env=pure (zcc env.cells scope.names []):=by
 have e:=zWi (env:=env) scope.names [] h;unfold closureFor;show(forIn scope.names [] _ >>= λr=>pure r:Sem _)=_;rw[show(forIn scope.names ([]:List (yy×yd)) λ(x:yy×xt) (r:List (yy×yd))=>(match x with|(name,kind)=>if kind == .free then do let c <-cellOf env name;pure (xg ((name,c)::r)) else pure (xg r):Sem (ForInStep (List (yy×yd)))))=pure (zcc env.cells scope.names []) from e];rfl
def zbn{cells:List (yy×yd)}{x:yy}{c:yd}:∀(names:List (yy×xt)) (acc:List (yy×yd)),(zcc cells names acc).lookup x=some c->acc.lookup x=some c\/cells.lookup x=some c
 |[],_,h =>.inl h
 |(n,k)::r,acc,h=>by
  rcases zbn r _ h with q|q
  ·by_cases hk:(k==yz)=true
   ·rw[if_pos hk]at q
    cases e:cells.lookup n with
    |none=>rw[e]at q;exact .inl q
    |some a=>
     rw[e]at q;simp only[lookup_cons]at q
     by_cases hx:(x==n)=true
     ·rw[hx]at q;have hx':x=n:=by simpa using hx
      subst hx';cases q;exact .inr e
     ·have hx':(x==n)=false:=by simpa using hx
      rw[hx']at q;exact .inl q
   ·rw[if_neg hk]at q;exact .inl q
  ·exact .inr q
def zzt{cells:List (yy×yd)}{x:yy}:∀(names:List (yy×xt)) (acc:List (yy×yd)),(acc.lookup x).isSome=true->((zcc cells names acc).lookup x).isSome=true
 |[],_,h=>h
 |(n,k)::r,acc,h=>by
  refine zzt r _ ?_
  by_cases hk:(k==yz)=true
  ·rw[if_pos hk]
   cases e:cells.lookup n with
   |none=>exact h
   |some a=>
    simp only[lookup_cons]
    by_cases hx:(x==n)=true
    ·rw[hx];rfl
    ·have hx':(x==n)=false:=by simpa using hx
     rw[hx'];exact h
  ·rw[if_neg hk];exact h
def zxw{cells:List (yy×yd)}{x:yy}{c:yd}(hc:cells.lookup x=some c):∀(names:List (yy×xt)) (acc:List (yy×yd)),(x,yz)∈names->((zcc cells names acc).lookup x).isSome=true
 |[],_,h=>by cases h
 |(n,k)::r,acc,h=>by
  rcases List.mem_cons.mp h with h|h
  ·cases h;refine zzt r _ ?_;rw[if_pos (by rfl),hc];simp[lookup_cons]
  ·exact zxw hc r _ h
def cxC(X:Cx)(own:List yy)(fr:List Nat)(scope:Xv)(cl:List (yy×yd))(C:yd)(s₀:ye)(H₀:Hp)(fp:List yd):Cx :=
 {X with N:=own++fr.map λi=>X.N.getD i Str.empty,s₀:=s₀,H₀:=H₀,env:=compEnvC scope cl C X.env,outer:=X.stack,ex:=fp,fn:=λx=>scope.names.lookup x==some .cell,xe:=λ_ _=>False }
def σC(n:Nat)(fr:List Nat)(σ:L2.St):L2.St:=yD n none++fr.map λi=>(σ[i]?).getD none
def zPx(σ σ':L2.St):Prop:=σ'.length=σ.length/\∀(i:Nat) v,σ[i]?=some (some v)->σ'[i]?=some (some v)
def PF(X:Cx)(ifs:List yF)(t:TT):Prop:=∀(pins:List (yd×YY)) (s:ye) (σ:L2.St) (H:Hp) (Q:Bool->Hp->Prop),Inv X pins σ H s->t σ H Q ->
 yo (yx X.prog X.w) X.A (forIn ifs true λc r=>if r=true then do let ok <-isTrue c X.env (Yh c X.env);pure (xg ok) else pure (xg r)) (TP X pins σ Q) X.xe s
def zGy{X:Cx}:PF X [] (λσ H Q=>Q true H):=λpins s σ H Q I h=>wpAny_tests_nil ⟨H,I,h⟩
def zXz{X:Cx}{c:yF}{t:TT}(h:PT X c t):PF X [c] t:=λpins s σ H Q I hw=>wpAny_tests_one (h pins s σ H Q I hw)
def tLC(n:Nat)(fr:List Nat)(wi:TI)(g:TG)(tc:TT)(te:TE):TE:=λσ H Q=>wi σ H λJ H1=>∃W:Nat->Nat->List V->Hp->Prop,(∃m,W 0 m [] H1)/\∀i m ys H,W i m ys H ->
 (J.stop i H/\∀p,H p=none->Q (.ref p) (upd H p (.lst ys))) \/
 (J.go i H/\ys.length<yE/\∀x H',J.yld i H x H'->g x (σC n fr σ) H' λσ2 H2=>zPx (σC n fr σ) σ2/\tc σ2 H2 λb H3=>
  if b=true then te σ2 H3 λy H4=>∃m',m'<m/\W (i+1) m' (ys++[y]) H4 else ∃m',m'<m/\W (i+1) m' ys H3)
section
variable {X:Cx}{own:List yy}{fr:List Nat}{scope:Xv}{pins:List (yd×YY)}{σ:L2.St}{H:Hp}{s:ye}
def z3e{env:Env}{x:yy}{k:xt}:∀{names:List (yy×xt)},(names.map λ(n,k)=>if(k==yz&&env.scope.kind == .function&&env.kindOf n==some .cell) then(n,yX) else(n,k)).lookup x=some k ->
 (k=.cell\/k=.free)->(x,yz)∈names\/(x,yX)∈names
 |[],h,_=>by simp at h
 |(n,k')::r,h,hk=>by
  rw[map_cons]at h
  by_cases hx:x=n
  ·subst hx
   by_cases hb:(k'==yz&&env.scope.kind == .function&&env.kindOf x==some .cell)=true
   ·have:k'=.free:=by
     simp only[yO,beq_iff_eq]at hb;exact hb.1.1
    subst this;exact .inl mem_cons_self
   ·have h2:((x,k')::r.map λ(n,k)=>if(k==yz&&env.scope.kind == .function&&env.kindOf n==some .cell) then(n,yX) else(n,k)).lookup x=some k:=by
     have e:(if(k'==yz&&env.scope.kind == .function&&env.kindOf x==some .cell)=true then(x,yX) else(x,k'))=(x,k'):=if_neg hb;rw[<-e];exact h
    simp only[lookup_cons,beq_self_eq_true]at h2;cases h2;rcases hk with rfl|rfl
    ·exact .inr mem_cons_self
    ·exact .inl mem_cons_self
  ·have hx':(x==n)=false:=by simpa using hx
   have h2:(r.map λ(n,k)=>if(k==yz&&env.scope.kind == .function&&env.kindOf n==some .cell) then(n,yX) else(n,k)).lookup x=some k:=by
    by_cases hb:(k'==yz&&env.scope.kind == .function&&env.kindOf n==some .cell)=true
    ·have e:(if(k'==yz&&env.scope.kind == .function&&env.kindOf n==some .cell)=true then(n,yX) else(n,k'))=(n,yX):=if_pos hb;have h3:((n,yX)::r.map λ(n,k)=>if(k==yz&&env.scope.kind == .function&&env.kindOf n==some .cell) then(n,yX) else(n,k)).lookup x=some k:=by rw[<-e];exact h
     simpa only[lookup_cons,hx'] using h3
    ·have e:(if(k'==yz&&env.scope.kind == .function&&env.kindOf n==some .cell)=true then(n,yX) else(n,k'))=(n,k'):=if_neg hb;have h3:((n,k')::r.map λ(n,k)=>if(k==yz&&env.scope.kind == .function&&env.kindOf n==some .cell) then(n,yX) else(n,k)).lookup x=some k:=by rw[<-e];exact h
     simpa only[lookup_cons,hx'] using h3
   rcases z3e h2 hk with q|q
   ·exact .inl (mem_cons_of_mem _ q)
   ·exact .inr (mem_cons_of_mem _ q)
def z1i{env:Env}{x:yy}:∀{names:List (yy×xt)},names.lookup x=some .free ->
 (names.map λ(n,k)=>if(k==yz&&env.scope.kind == .function&&env.kindOf n==some .cell) then(n,yX) else(n,k)).lookup x=some .cell \/
 (names.map λ(n,k)=>if(k==yz&&env.scope.kind == .function&&env.kindOf n==some .cell) then(n,yX) else(n,k)).lookup x=some .free
 |[],h=>by simp at h
 |(n,k')::r,h=>by
  rw[map_cons]
  by_cases hx:x=n
  ·subst hx;simp only[lookup_cons,beq_self_eq_true]at h;cases h
   by_cases hb:(yz==yz&&env.scope.kind == .function&&env.kindOf x==some .cell)=true
   ·have e:(if(yz==yz&&env.scope.kind == .function&&env.kindOf x==some .cell)=true then(x,yX) else(x,yz))=(x,yX):=if_pos hb
    left
    show YR x ((if(yz==yz&&env.scope.kind == .function&&env.kindOf x==some .cell)=true then(x,yX) else(x,yz))::_)=_;rw[e];simp[lookup_cons]
   ·have e:(if(yz==yz&&env.scope.kind == .function&&env.kindOf x==some .cell)=true then(x,yX) else(x,yz))=(x,yz):=if_neg hb
    right
    show YR x ((if(yz==yz&&env.scope.kind == .function&&env.kindOf x==some .cell)=true then(x,yX) else(x,yz))::_)=_;rw[e];simp[lookup_cons]
  ·have hx':(x==n)=false:=by simpa using hx
   simp only[lookup_cons,hx']at h;have ih:=z1i (env:=env) h
   have step:∀k,(r.map λ(n,k)=>if(k==yz&&env.scope.kind == .function&&env.kindOf n==some .cell) then(n,yX) else(n,k)).lookup x=some k ->
    YR x ((if(k'==yz&&env.scope.kind == .function&&env.kindOf n==some .cell)=true then(n,yX) else(n,k'))::(r.map λ(n,k)=>if(k==yz&&env.scope.kind == .function&&env.kindOf n==some .cell) then(n,yX) else(n,k)))=some k:=λk hk=>by
     by_cases hb:(k'==yz&&env.scope.kind == .function&&env.kindOf n==some .cell)=true
     ·rw[if_pos hb];simpa only[lookup_cons,hx'] using hk
     ·rw[if_neg hb];simpa only[lookup_cons,hx'] using hk
   rcases ih with ih|ih
   ·exact .inl (step _ ih)
   ·exact .inr (step _ ih)
def zPp{b:yd}(I:Inv X pins σ H s)(h1:b≠X.env.locals)(h2:b∉X.fs):b∉frs X.stack:=λz=>
 (List.mem_cons.mp (I.Sa b z)).elim h1 h2
def σC_get{n:Nat}{i:Nat}{v:V}(h:(σC n fr σ)[i]?=some (some v)):n<=i/\∃j,fr[i-n]?=some j/\σ[j]?=some (some v):=by
 unfold σC at h
 by_cases hi:i<n
 ·rw[yq (by simpa using hi),YW]at h
  split at h<;>cases h
 ·have hi:n<=i:=Nat.le_of_not_lt hi;rw[yJ (by simpa using hi),Xq,yh]at h
  cases e:fr[i-n]? with
  |none=>rw[e]at h;cases h
  |some j=>
   rw[e]at h;refine⟨hi,j,rfl,?_⟩;have h':(σ[j]?).getD none=some v:=Yj h
   cases e2:σ[j]? with
   |none=>rw[e2]at h';cases h'
   |some o=>rw[e2]at h';exact congrArg some h'
def zIl:∀(names:List (yy×xt)) (n:Nat) (acc:List (yy×yd)),Yv n names acc=Yv n names []++acc
 |[],n,acc=>rfl
 |(x,k)::r,n,acc=>by
  unfold Yv
  split
  ·rw[zIl r (n+1) ((x,n)::acc),zIl r (n+1) [(x,n)]];simp
  ·exact zIl r n acc
def zSl:∀(names:List (yy×xt)) (n:Nat) (x:yy) (c:yd),(x,c)∈Yv n names []->n<=c/\(x,yX)∈names
 |[],n,x,c,h=>by cases h
 |(y,k)::r,n,x,c,h=>by
  unfold Yv at h
  split at h
  ·rename_i hk
   rw[zIl]at h;rcases List.mem_append.mp h with h|h
   ·obtain⟨h1,h2⟩:=zSl r (n+1) x c h;exact⟨Nat.le_of_succ_le h1,mem_cons_of_mem _ h2⟩
   ·have e:(x,c)=(y,n):=by simpa using h
    cases e;rw[beq_iff_eq.mp hk];exact⟨yk _,mem_cons_self⟩
  ·obtain⟨h1,h2⟩:=zSl r n x c h;exact⟨h1,mem_cons_of_mem _ h2⟩
def zyp{names:List (yy×xt)}{n:Nat}{acc:List (yy×yd)}{x:yy}{c:yd}(h:(Yv n names acc).lookup x=some c):(Yv n names []).lookup x=some c\/((Yv n names []).lookup x=none/\acc.lookup x=some c):=by
 rw[zIl,List.lookup_append]at h
 cases e:(Yv n names []).lookup x with
 |none=>rw[e]at h;exact .inr ⟨rfl,h⟩
 |some d=>rw[e]at h;exact .inl h
def zOw{names:List (yy×xt)}{n:Nat}{x:yy}(hn:∀y∈names,names.lookup y.1=some y.2)(h:(x,yz)∈names):(Yv n names []).lookup x=none:=by
 cases e:(Yv n names []).lookup x with
 |none=>rfl
 |some c=>
  have h1:=hn _ (zSl _ _ _ _ (Yk e)).2;have h2:=hn _ h;rw[h1]at h2;cases h2
def zZu{fp:List yd}{D C:yd}{lo:Nat}{h1:yV}{t:Nat}{mC:yy->Option yb}{oD:YY}(I:Inv X pins σ H s)(hf:∀b∈fp,z4o X pins H b)(hfl:∀b∈fp,b<s.heap.objs.size)
 (hk:scope.kind=.function) (hnm:∀y∈scope.names,scope.names.lookup y.1=some y.2) (hfree:∀x∈scope.names,x.2=.free->(X.env.kindOf x.1=some .cell\/X.env.kindOf x.1=some .free))
 (hfr:∀i∈fr,∃x,X.N[i]?=some x/\scope.names.lookup x=some .free) (hlo:C<lo) (hOC:CellsOk h1 lo (Yv lo scope.names []))
 (old:∀b o,s.heap.get? b=some o->h1.get? b=some o) (hD:s.heap.objs.size<=D) (hC:s.heap.objs.size<=C) (hDC:D≠C) (hDlo:D<lo) (eD:h1.get? D=some oD) (dD:∀v,oD.data≠.cell v) (nC:h1.Ns C mC) :
 Inv (cxC X own fr scope (Yv lo scope.names (zcc X.env.cells scope.names [])) C s H fp) (pins++[(D,oD)]) (σC own.length fr σ) H {s with heap:=h1,toks:=t }:=by
 have cl1:∀x c,(zcc X.env.cells scope.names []).lookup x=some c->X.env.cells.lookup x=some c:=λx c e=>by
  rcases zbn _ _ e with q|q
  ·cases q
  ·exact q
 have clH:∀x,(x,yz)∈scope.names->∃c,(Yv lo scope.names (zcc X.env.cells scope.names [])).lookup x=some c/\X.env.cells.lookup x=some c:=λx hx=>by
  obtain⟨c,hc⟩:=I.ok.has x (hfree _ hx rfl);obtain⟨c',hc'⟩:=Option.isSome_iff_exists.mp (zxw hc scope.names [] hx);exact⟨c',by rw[zIl,List.lookup_append,zOw hnm hx];exact hc',cl1 _ _ hc'⟩
 have two:∀x c,(Yv lo scope.names (zcc X.env.cells scope.names [])).lookup x=some c->((Yv lo scope.names []).lookup x=some c/\lo<=c)\/X.env.cells.lookup x=some c:=λx c e=>by
  rcases zyp e with q|⟨_,q⟩
  ·exact .inl ⟨q,(zSl _ _ _ _ (Yk q)).1⟩
  ·exact .inr (cl1 _ _ q)
 have oldc:∀x c,X.env.cells.lookup x=some c->c<s.heap.objs.size:=λx c e=>by
  obtain⟨v,o,ho,_⟩:=I.cell x c e;exact ym ho
 have hslo:s.heap.objs.size<=lo:=yG hC (YI hlo)
 refine⟨⟨I.ok.mod,hk,I.ok.glob,I.ok.blt,hC,λx y c e1 e2=>?inj,λx hx=>?_,λx c hx e=>?cab,I.ok.hd,I.ok.frames,.inl rfl,λb hb=>⟨?_,λx c e=>?exf⟩,I.bs,yG I.ok.bsz I.sz,λb o e hb=>?_,λb hb=>?_,I.stack,I.TH⟩,
  rfl,I.bare,Un.kept old,⟨mC,nC,λi x v h1 h2 h3=>?_⟩,λx c e=>?cell,I.hok.fresh hC,λx c e=>?freeC,λp hp=>?_,I.hok.kept old,?_⟩
 case inj=>
  rcases two x c e1 with ⟨q1,l1⟩|q1
  ·rcases two y c e2 with ⟨q2,_⟩|q2
   ·exact name_of_addr hOC.apart (Yk q1) (Yk q2)
   ·exact absurd (yA (oldc y c q2) (yG hslo l1)) (Yc _)
  ·rcases two y c e2 with ⟨_,l2⟩|q2
   ·exact absurd (yA (oldc x c q1) (yG hslo l2)) (Yc _)
   ·exact I.ok.inj x y c q1 q2
 case cab=>
  have hx:(scope.names.lookup x==some .cell)=true:=hx;obtain⟨d,hd⟩:=Option.isSome_iff_exists.mp (W.cellsFrom_some scope.names lo [] (.inl (beq_iff_eq.mp hx)));rcases zyp (show(Yv lo scope.names (zcc X.env.cells scope.names [])).lookup x=some c from e) with q|⟨q,_⟩
  ·exact yG hslo (zSl _ _ _ _ (Yk q)).1
  ·rw[q]at hd;cases hd
 case exf=>
  rcases two x c e with ⟨_,l⟩|q
  ·exact yT (yA (hfl b hb) (yG hslo l))
  ·exact(hf b hb).2.2.2.2.1 x c q
 case cell=>
  rcases two x c e with ⟨q,_⟩|q
  ·exact⟨none,(hOC.empty x c (Yk q)).1⟩
  ·obtain⟨v,o,ho,hd⟩:=I.cell x c q;exact⟨v,o,old _ _ ho,hd⟩
 case freeC=>
  rcases two x c e with ⟨_,l⟩|q
  ·exact I.hok.fresh (yG hslo l)
  ·exact I.freeC x c q
 ·have hx':(relabel scope X.env).names.lookup x=some .cell\/(relabel scope X.env).names.lookup x=some .free:=hx
  have hm:(x,yz)∈scope.names\/(x,yX)∈scope.names:=by
   rcases hx' with h|h
   ·exact z3e (env:=X.env) h (.inl rfl)
   ·exact z3e (env:=X.env) h (.inr rfl)
  rcases hm with hm|hm
  ·obtain⟨c,e,_⟩:=clH x hm;exact⟨c,e⟩
  ·exact Option.isSome_iff_exists.mp (W.cellsFrom_some scope.names lo _ (.inl (hnm _ hm)))
 ·exact yt (yA (hfl b hb) hC)
 ·rcases(hf b hb).2.2.2.1 with z|z
  ·exact I.ok.SJ b o e z
  ·exact absurd (yA (ym e) (yG I.ok.bsz z)) (Yc _)
 ·exact zPp I (hf b hb).2.1 (hf b hb).2.2.1
 ·obtain⟨hi,j,e1,e2⟩:=σC_get h2;have hjm:j∈fr:=mem_of_getElem? e1;obtain⟨y,ey,ly⟩:=hfr j hjm
  have hxy:x=y:=by
   have h1':(own++fr.map λi=>X.N.getD i Str.empty)[i]?=some x:=h1;rw[yJ hi,yh,e1]at h1';have h1'':X.N.getD j Str.empty=x:=Yj h1';rw[getD_eq_getElem?_getD,ey]at h1'';exact h1''.symm
  subst hxy;have hm:(x,yz)∈scope.names:=Yk ly
  have hv:Vis X.env.scope x:=by
   rcases hfree _ hm rfl with q|q
   ·exact .inr (.inl q)
   ·exact .inr (.inr q)
  obtain⟨m,hn,hl⟩:=id I.loc;obtain⟨u,ru,q⟩:=hl j x v ey e2 hv;obtain⟨c,c1,c2⟩:=clH x hm;refine⟨u,ru,.inr ⟨z1i (env:=X.env) ly,c,c1,?_⟩⟩;rcases q with ⟨k,_⟩|⟨k,c',e',z⟩
  ·rcases hfree _ hm rfl with q|q
   ·rw[show X.env.kindOf (x,yz).1=X.env.kindOf x from rfl,k]at q;cases q
   ·rw[show X.env.kindOf (x,yz).1=X.env.kindOf x from rfl,k]at q;cases q
  ·rw[c2]at e';cases e';obtain⟨o,ho,hd⟩:=z;exact⟨o,old _ _ ho,hd⟩
 ·have hp':p∈X.pn++(pins++[(D,oD)]):=hp;rw[<-append_assoc]at hp';rcases List.mem_append.mp hp' with hp'|hp'
  ·obtain⟨a1,a2,a3,a4,a5⟩:=I.pin p hp';exact⟨old _ _ a1,a2,yt (yA (ym a1) hC),zPp I a3 a4,a5⟩
  ·have:p=(D,oD):=by simpa using hp'
   subst this;refine⟨eD,I.hok.fresh hD,hDC,λz=>?_,dD⟩;rcases List.mem_cons.mp (I.Sa _ z) with z|z
   ·exact absurd (yA I.lt (z▸hD)) (Yc _)
   ·exact I.nofs hD z
 ·show(σC own.length fr σ).length=(own++fr.map λi=>X.N.getD i Str.empty).length;unfold σC;simp
end
def HOk.SN{P:yB}{w:yL}{H:Hp}{h:yV}{a:yd}{o:HO}(x:HOk P w H h)(hn:H a=none)(new:tG P w (upd H a o) h a o):HOk P w (upd H a o) h:=λb u e=>by
 by_cases hb:b=a
 ·subst hb;rw[zG]at e;cases e;exact new
 ·rw[zN hb]at e;exact(x b u e).stay (λc v _ q=>q) (λc q=>by rw[zN (zI q hn)];exact q) λc xs q=>by rw[zN (zI q hn)];exact q
def newEnvC{M:Model}{A:yR}{E:yb->ye->Prop}{s:ye}{scope:Xv}{globals:yd}{cl:List (yy×yd)}{qual:yy}{env:Env}{Q:Env->ye->Prop}
 (hQ:Q (newEnv scope s.heap.objs.size globals (Yv (s.heap.objs.size+1) scope.names cl) qual none .none (some env) builtinsNs) {s with heap:=pushCells (s.heap.push {cls:=.type "dict",data:=.dict #[]}) scope.names }) :
 yo M A (newFunctionEnv scope globals cl [] qual none .none (some env)) Q E s:=by
 simp only[newFunctionEnv,Option.isSome_some,if_true];refine ya (wpAny_alloc ?_);refine ya (wpAny_layCells _ (λname kind cells=>by cases hkc:kind==yX<;>simp[hkc]) _ _ _ _ ?_);rw[show({s with heap:=s.heap.push {cls:=.type "dict",data:=.dict #[]}}:ye).heap.objs.size=s.heap.objs.size+1 from Yd ..];refine ya ?_;rw[forIn_nil];exact yg (yg hQ)
section
variable {X:Cx}{own:List yy}{fr:List Nat}{scope:Xv}
structure Sw(X:Cx)(pins:List (yd×YY))(σ:L2.St)(H:Hp)(ys:List V)(D C:yd)(s:ye):Prop where
 inv:Inv X pins σ (upd H D (.lst ys)) s
 free:H D=none
 freeC:upd H D (.lst ys) C=none
 own:∃m,s.heap.Ns C m
 notL:C≠X.env.locals
 young:X.s₀.heap.objs.size<=C
 Se:∀x c,X.env.cells.lookup x=some c->c≠C
 SO:∀p∈X.pn++pins,p.1≠C
def zhu{elt tg iter:yF}{ifs:List yF}{pos:xC}{g:TG}{tc:TT}{te:TE}{pins:List (yd×YY)}{σ:L2.St}{s2:ye}{Qn:List V->Hp->Prop}{itv:yb}{RR:yb->yd->Result->ye->Prop}(own:List yy)(fr:List Nat)(hc:X.calm=true)
 (hg:∀cl C s₀ H₀ fp,PG (cxC X own fr scope cl C s₀ H₀ fp) tg g) (hq:∀cl C s₀ H₀ fp,PF (cxC X own fr scope cl C s₀ H₀ fp) ifs tc) (he:∀cl C s₀ H₀ fp,PE (cxC X own fr scope cl C s₀ H₀ fp) elt te)
 (hk:scope.kind=.function) (hnm:∀y∈scope.names,scope.names.lookup y.1=some y.2)
 (hfree:∀x∈scope.names,x.2=.free->(X.env.kindOf x.1=some .cell\/X.env.kindOf x.1=some .free)) (hfr:∀i∈fr,∃x,X.N[i]?=some x/\scope.names.lookup x=some .free)
 (h2:PIE X pins σ tg (λJ H1=>∃W:Nat->Nat->List V->Hp->Prop,(∃m,W 0 m [] H1)/\∀i m ys H,W i m ys H ->
  (J.stop i H/\Qn ys H)\/(J.go i H/\ys.length<yE/\∀x H',J.yld i H x H'->g x (σC own.length fr σ) H' λσ2 H2=>zPx (σC own.length fr σ) σ2/\tc σ2 H2 λb H3=>
   if b=true then te σ2 H3 λy H4=>∃m',m'<m/\W (i+1) m' (ys++[y]) H4 else ∃m',m'<m/\W (i+1) m' ys H3)) itv s2)
 (fin:∀ys H D C s4,Qn ys H->Sw X pins σ H ys D C s4->RR (.ref D) C (.ok .next) s4) :
 yo (yx X.prog X.w) X.A (newList []) (λacc s₃=>yo (yx X.prog X.w) X.A (newFunctionEnv scope X.env.globals (zcc X.env.cells scope.names []) [] X.env.qual none .none (some X.env)) (λcenv s₄=>
  Xw (yx X.prog X.w) X.A (.compStart (.ListComp elt [⟨tg,iter,ifs,0⟩] scope pos) 0 itv acc {cenv with scope:=relabel scope X.env }) (RR acc cenv.locals) s₄) X.xe s₃) X.xe s2:=by
 obtain⟨it,fp,tn,J,H2,e,I2,T,st2,f2,W,⟨m0,w0⟩,turn⟩:=h2;subst e
 have hfl:∀b∈fp,b<s2.heap.objs.size:=λb hb=>by
  obtain⟨o,e,_⟩:=T.obj _ _ st2 b hb;exact ym e
 refine Ye (newEnvC ?_);dsimp only;generalize hH2:s2.heap.push {cls:=.type "list",dict:=none,data:=.seq ([]:List yb).toArray } = G2;have hC:G2.objs.size=s2.heap.objs.size+1:=by rw[<-hH2,Yd]
 have hDC:s2.heap.objs.size≠G2.objs.size:=by rw[hC];exact yt (Yu _)
 have hCle:s2.heap.objs.size<=G2.objs.size:=by rw[hC];exact Xf _
 have below:∀b,b<s2.heap.objs.size->b≠G2.objs.size/\b≠s2.heap.objs.size:=λb hb=>⟨by rw[hC];exact yt (Ys hb),yt hb⟩
 have hns₁:(pushCells (G2.push {cls:=.type "dict",data:=.dict #[]}) scope.names).Ns G2.objs.size (λ_=>none):=(Heap.Ns.new G2 (.type "dict")).keeps λb o e=>pushCells_keeps _ _ _ _ e
 have hok₁:CellsOk (pushCells (G2.push {cls:=.type "dict",data:=.dict #[]}) scope.names) (G2.objs.size+1) (Yv (G2.objs.size+1) scope.names []):=by
  have:=cellsFrom_ok scope.names (G2.push {cls:=.type "dict",data:=.dict #[]}) (G2.objs.size+1) [] ⟨λ_ _ hm=>(nomatch hm),List.Pairwise.nil⟩ (by rw[Yd];exact yk _);rw[Yd]at this;exact this
 have hk₁:∀b o,G2.get? b=some o->(pushCells (G2.push {cls:=.type "dict",data:=.dict #[]}) scope.names).get? b=some o:=λb o e=>pushCells_keeps _ _ _ _ (yc _ e);generalize pushCells (G2.push {cls:=.type "dict",data:=.dict #[]}) scope.names=h₁ at hns₁ hok₁ hk₁ ⊢;have old:∀b o,s2.heap.get? b=some o->h₁.get? b=some o:=λb o e=>hk₁ b o (hH2▸yc _ e);have hacc:h₁.get? s2.heap.objs.size=some {cls:=.type "list",data:=.seq ([]:List yb).toArray 0 }:=hk₁ _ _ (hH2▸yn _ rfl);generalize hXC:cxC X own fr scope (Yv (G2.objs.size+1) scope.names (zcc X.env.cells scope.names [])) G2.objs.size s2 H2 fp=XC;have eenv:compEnvC scope (Yv (G2.objs.size+1) scope.names (zcc X.env.cells scope.names [])) G2.objs.size X.env=XC.env:=by rw[<-hXC];rfl
 have eprog:XC.prog=X.prog:=by rw[<-hXC];rfl
 have ew:XC.w=X.w:=by rw[<-hXC];rfl
 have eA:XC.A=X.A:=by rw[<-hXC];rfl
 have eK:XC.K=X.K:=by rw[<-hXC];rfl
 have ecalm:XC.calm=true:=by rw[<-hXC];exact hc
 have exe:XC.xe=λ_ _=>False:=by rw[<-hXC];rfl
 have eloc:XC.env.locals=G2.objs.size:=by rw[<-hXC];rfl
 have eex:XC.ex=fp:=by rw[<-hXC];rfl
 have efs:XC.fs=frs X.stack:=by rw[<-hXC];rfl
 have es0:XC.s₀=s2:=by rw[<-hXC];rfl
 have eH0:XC.H₀=H2:=by rw[<-hXC];rfl
 have epn:XC.pn=X.pn:=by rw[<-hXC];rfl
 have ecells:∀x c,XC.env.cells.lookup x=some c->X.env.cells.lookup x=some c\/G2.objs.size<c:=λx c e=>by
  rw[<-hXC]at e;rcases zyp (show(Yv (G2.objs.size+1) scope.names (zcc X.env.cells scope.names [])).lookup x=some c from e) with q|⟨_,q⟩
  ·exact .inr (zSl _ _ _ _ (Yk q)).1
  ·rcases zbn _ _ q with q|q
   ·cases q
   ·exact .inl q
 have hg':PG XC tg g:=hXC▸hg _ _ _ _ _;have hq':PF XC ifs tc:=hXC▸hq _ _ _ _ _;have he':PE XC elt te:=hXC▸he _ _ _ _ _
 have fpok:∀{H':Hp} {pl:List (yd×YY)},(∀b∈fp,H' b=none)->(∀p∈pl,p.1=s2.heap.objs.size)->∀b∈fp,z4o XC (pins++pl) H' b:=λ{H' pl} hn hpl b hb=>by
  obtain⟨_,f2,f3,f4,f5,f6⟩:=f2 b hb;refine⟨hn b hb,by rw[eloc];exact(below b (hfl b hb)).1,by rw[efs];exact zPp I2 f2 f3,.inl (by rw[eex];exact hb),λx c e=>?c5,λp hp=>?_⟩
  case c5=>
   rcases ecells x c e with q|q
   ·exact f5 x c q
   ·exact yT (yA (hfl b hb) (yG hCle (YI q)))
  rw[epn,<-append_assoc]at hp;rcases List.mem_append.mp hp with hp|hp
  ·exact f6 p hp
  ·rw[hpl p hp];exact yH (below b (hfl b hb)).2
 have loop:∀s₃:ye,s₃ = {s2 with heap:=h₁ } ->
  Xw (yx X.prog X.w) X.A (.compLoop (.ListComp elt [⟨tg,iter,ifs,0⟩] scope pos) 0 (.ref it) (.ref s2.heap.objs.size) (compEnvC scope (Yv (G2.objs.size+1) scope.names (zcc X.env.cells scope.names [])) G2.objs.size X.env))
   (RR (.ref s2.heap.objs.size) G2.objs.size) s₃:=by
  rintro s₃ rfl;have I0:=zZu (own:=own) (fr:=fr) (t:=s2.toks) (lo:=G2.objs.size+1) I2 f2 hfl hk hnm hfree hfr (Yu _) hok₁ old (yk _) hCle hDC (Nat.lt_succ_of_le hCle) hacc (by intro v z;cases z) hns₁;rw[hXC]at I0
  refine zBo (λn s'=>∃(i:Nat)(ys:List V)(its:Array yb)(k:Nat)(H':Hp),Inv XC (pins++[(s2.heap.objs.size,({cls:=.type "list",data:=.seq its k }:YY))]) (σC own.length fr σ) H' s'/\Vals ys its.toList/\ys.length<=yE/\tn i s'.heap/\(∀b∈fp,H' b=none)/\W i n ys H') ?_ m0
   ⟨0,[],#[],0,H2,I0,.nil,YB _,T.keep _ _ _ st2 (λb hb o e=>old b o e),λb hb=>(f2 b hb).1,w0⟩
  rintro n s3 ⟨i,ys,its,kk,H3,I3,rv,hz,st3,fr3,w3⟩
  have pl1:∀p∈[(s2.heap.objs.size,({cls:=.type "list",data:=.seq its kk }:YY))],p.1=s2.heap.objs.size:=λp hp=>by
   rw[List.mem_singleton.mp hp]
  rcases turn i n ys H3 w3 with ⟨stop,qn⟩|⟨go,hlt,step⟩
  ·have td:=T.done XC eprog ew eK ecalm i _ s3 _ H3 (λ_ _=>False) I3 (fpok fr3 pl1) st3 stop;rw[eA]at td;refine thn td λr s4 ⟨hr,I4⟩=>?_;subst hr;obtain⟨m,hn,_⟩:=id I4.loc;rw[eloc]at hn;obtain⟨p1,p2,p3,p4,p5⟩:=I4.pin (s2.heap.objs.size,_) (mem_append_right _ (mem_append_right _ mem_cons_self));have hnC:H3 G2.objs.size=none:=by have:=I4.free;rw[eloc]at this;exact this
   have hokf:HOk X.prog X.w (upd H3 s2.heap.objs.size (.lst ys)) s4.heap:=by
    refine HOk.SN (by have:=I4.hok;rw[eprog,ew]at this;exact this) p2 ⟨hz,its.toList,kk,rv,by simpa using p1⟩
   have u0:Un (frs X.stack) fp H2 H3 s2.heap s4.heap:=by
    have:=I4.base;rw[efs,eex,es0,eH0]at this;exact this
   have u1:Un (frs X.stack) fp H2 (upd H3 s2.heap.objs.size (.lst ys)) s2.heap s4.heap:=by
    have bd:∀b o,s2.heap.get? b=some o->b≠s2.heap.objs.size:=λb o e=>(below b (ym e)).2;refine⟨u0.keep,u0.slot,λb o e n hx=>by rw[zN (bd b o e)];exact u0.free b o e n hx,u0.there,λb xs e=>?_,λb o u e=>?_,λb ps e=>?_⟩
    ·have q:=u0.tups b xs e;rw[zN (zI q p2)];exact q
    ·have q:=u0.TF b o u e;rw[zN (zI q p2)];exact q
    ·obtain⟨more,q⟩:=u0.TN b ps e;exact⟨more,by rw[zN (zI q p2)];exact q⟩
   have os4:s4.os=s2.os:=by have:=I4.os;rw[es0]at this;exact this
   have IF:Inv X pins σ (upd H3 s2.heap.objs.size (.lst ys)) {s2 with heap:=s4.heap,gens:=s4.gens,drawn:=s4.drawn,toks:=s4.toks } :=
    I2.call (h':=s4.heap) (ch:=fp) u1 hokf I4.bare λb hb=>by
     obtain⟨_,f2,f3,f4,f5,f6⟩:=f2 b hb;exact⟨f4,f2,f5,f6⟩
   have es:s4 = {s2 with heap:=s4.heap,gens:=s4.gens,drawn:=s4.drawn,toks:=s4.toks }:=by
    obtain⟨a1,a2,a3,a4,a5⟩:=s4;have:a5=s2.os:=os4;subst this;rfl
   rw[<-es]at IF;refine fin ys H3 _ _ s4 qn ⟨IF,p2,by rw[zN (yH hDC)];exact hnC,⟨m,hn⟩,yH (below _ I2.lt).1,yG I2.sz hCle,λx c e=>?_,λp hp=>?_⟩
   ·obtain⟨v,o,ho,_⟩:=I2.cell x c e;exact(below c (ym ho)).1
   ·exact(below p.1 (ym (I2.pin p hp).1)).1
  ·have td:=T.item XC eprog ew eK ecalm i _ s3 _ H3 (λ_ _=>False) I3 (fpok fr3 pl1) st3 go;rw[eA]at td;refine thn td λr s4 ⟨u,hr,h4⟩=>?_;subst hr;refine thn h4 λ_ s5 ⟨x,H5,I5,r5,y5,st5,fr5⟩=>?_;have I5':=I5.pinned (fpok fr5 pl1) (T.obj _ _ st5);have hgw:=hg' _ s5 _ H5 x u _ I5' r5 (step x H5 y5);rw[exe,eprog,ew,eA]at hgw;rw[eenv];refine thn hgw λ_ s6 ⟨σ6,H6,I6,⟨hsl,hsub⟩,q6⟩=>?_;have hqw:=hq' _ s6 σ6 H6 _ I6 q6;rw[exe,eprog,ew,eA]at hqw;refine thn hqw λok s7 ⟨H7,I7,q7⟩=>?_
   have back:∀{H8:Hp} {s8:ye},Inv XC (pins++[(s2.heap.objs.size,({cls:=.type "list",data:=.seq its kk }:YY))]++z3n fp s5.heap) σ6 H8 s8 ->
    Inv XC (pins++[(s2.heap.objs.size,({cls:=.type "list",data:=.seq its kk }:YY))]) (σC own.length fr σ) H8 s8/\tn (i+1) s8.heap/\∀b∈fp,H8 b=none:=λ{H8 s8} I8=>by
    refine⟨I8.TQ.weak hsl.symm hsub,T.keep _ _ _ st5 λb hb o e=>(I8.pin (b,o) (mem_append_right _ (mem_append_right _ (zOg hb e)))).1,λb hb=>?_⟩;obtain⟨o,e,d⟩:=T.obj _ _ st5 b hb;exact(I8.pin (b,o) (mem_append_right _ (mem_append_right _ (zOg hb e)))).2.1
   cases ok with
   |false=>
    have q7':∃m',m'<n/\W (i+1) m' ys H7:=by simpa using q7
    rw[if_neg yC];obtain⟨m',hm,w7⟩:=q7';obtain⟨J1,J2,J3⟩:=back I7;exact⟨m',hm,i+1,ys,its,kk,H7,J1,rv,hz,J2,J3,w7⟩
   |true=>
    rw[if_pos rfl]at q7 ⊢;have hew:=he' _ s7 σ6 H7 _ I7 q7;rw[exe,eprog,ew,eA]at hew;refine thn hew λy s8 ⟨vy,H8,I8,r8,m',hm,w8⟩=>?_;obtain⟨J1,J2,J3⟩:=back I8;obtain⟨p1,p2,p3,p4,p5⟩:=J1.pin (s2.heap.objs.size,_) (mem_append_right _ (mem_append_right _ mem_cons_self));have hil:its.size=ys.length:=by rw[rv.length];simp
    refine append_at (hsz:=by rw[hil];exact hz) p1 λh9 sb9 e9=>?_;have Df:s2.heap.objs.size∉fp:=λz=>absurd (hfl _ z) (Yc _);have J0:Inv XC pins (σC own.length fr σ) H8 s8:=J1.TQ
    have J9:Inv XC pins (σC own.length fr σ) H8 {s8 with heap:=h9 }:=by
     refine J0.turned (t':=s8.toks) (it:=s2.heap.objs.size) (λb o hb e=>(sb9.2 b hb).trans e) p2 p3 (.inr (by rw[es0];exact yk _)) (λx c e z=>?_) (λp hp z=>?_)
     ·rcases ecells x c e with q|q
      ·obtain⟨v,o,ho,_⟩:=I2.cell x c q;exact(below c (ym ho)).2 z
      ·exact yT (Nat.lt_of_le_of_lt hCle q) z
     ·rw[epn]at hp;exact(below p.1 (ym (I2.pin p hp).1)).2 z
    refine⟨m',hm,i+1,ys++[vy],its.push y,kk+1,H8,J9.Sb λp hp=>?_,?_,by simp;exact hlt,T.keep _ _ _ J2 (λb hb o e=>(sb9.2 b (λz=>Df (z▸hb))).trans e),J3,w8⟩
    ·rcases List.mem_append.mp hp with hp|hp
     ·exact J9.pin p (mem_append_right _ hp)
     ·have e:=List.mem_singleton.mp hp;subst e;exact⟨e9,p2,p3,p4,by intro v z;cases z⟩
    ·rw[Array.toList_push];exact rv.append (.cons r8 .nil)
 exact codeAny_compStart_list (loop _ rfl) (T.self X.A 0 _ _ _ (T.keep _ _ _ st2 λb hb o e=>old b o e) (loop _ rfl))
def Sw.gone{pins:List (yd×YY)}{σ:L2.St}{H:Hp}{ys:List V}{D C:yd}{s:ye}(w:Sw X pins σ H ys D C s){h':yV}(sb:yN C s.heap h'):Inv X pins σ (upd H D (.lst ys)) {s with heap:=h' } :=
 w.inv.turned (t':=s.toks) (λb o hb e=>(sb.2 b hb).trans e) w.freeC (yH (yH w.notL)) (.inr w.young) w.Se w.SO
def z2A{elt tg iter:yF}{ifs:List yF}{pos:xC}{wi:TI}{g:TG}{tc:TT}{te:TE}(own:List yy)(fr:List Nat)(hc:X.calm=true)(hi:PI X tg iter wi)
 (hg:∀cl C s₀ H₀ fp,PG (cxC X own fr scope cl C s₀ H₀ fp) tg g) (hq:∀cl C s₀ H₀ fp,PF (cxC X own fr scope cl C s₀ H₀ fp) ifs tc) (he:∀cl C s₀ H₀ fp,PE (cxC X own fr scope cl C s₀ H₀ fp) elt te)
 (hk:scope.kind=.function) (hnm:∀y∈scope.names,scope.names.lookup y.1=some y.2)
 (hfree:∀x∈scope.names,x.2=.free->(X.env.kindOf x.1=some .cell\/X.env.kindOf x.1=some .free)) (hfr:∀i∈fr,∃x,X.N[i]?=some x/\scope.names.lookup x=some .free)
 (hs:∀x,xa iter X.env x=pure x:=by intro _;rfl):PE X (.ListComp elt [⟨tg,iter,ifs,0⟩] scope pos) (tLC own.length fr wi g tc te):=by
 intro pins s σ H Q I h;rw[eval_ListComp];have hclos:closureFor scope X.env=pure (zcc X.env.cells scope.names []):=zTl λx hx e=>I.ok.has x.1 (hfree x hx e);refine wpAny_comprehension_free (use:=none) rfl hs hclos hk (λx hx e=>by rw[hnm x hx,e]) ?_;show yo _ _ (Yh iter X.env) _ _ s;refine thn (hi pins s σ H _ I h) λv s1 h1=>thn h1 λitv s2 h2=>?_;refine zhu (RR:=λacc C=>compPost (yx X.prog X.w) X.A X.xe none (EP X pins σ Q) acc C) own fr hc hg hq he hk hnm hfree hfr h2 λys H3 D C s4 q w=>?_;obtain⟨m,hn⟩:=w.own;exact⟨m,hn,λh' sb=>⟨.ref D,_,w.gone sb,rfl,q D w.free⟩⟩
def zkv{elt tg iter:yF}{ifs:List yF}{pos spos py:xC}{wi:TI}{g:TG}{tc:TT}{te:TE}{y:yy}{i:Nat}(own:List yy)(fr:List Nat)(hN:X.N.Nodup)(hiN:X.N[i]?=some y)(hy:X.env.scope.names.lookup y=some .local)(hc:X.calm=true)(hi:PI X tg iter wi)
 (hsw:Xl (.ListComp elt [⟨tg,iter,ifs,0⟩] scope pos) (some (.Name y py)) spos.line X.env=pure true)
 (hg:∀cl C s₀ H₀ fp,PG (cxC X own fr scope cl C s₀ H₀ fp) tg g) (hq:∀cl C s₀ H₀ fp,PF (cxC X own fr scope cl C s₀ H₀ fp) ifs tc) (he:∀cl C s₀ H₀ fp,PE (cxC X own fr scope cl C s₀ H₀ fp) elt te)
 (hk:scope.kind=.function) (hnm:∀y∈scope.names,scope.names.lookup y.1=some y.2)
 (hfree:∀x∈scope.names,x.2=.free->(X.env.kindOf x.1=some .cell\/X.env.kindOf x.1=some .free)) (hfr:∀i∈fr,∃x,X.N[i]?=some x/\scope.names.lookup x=some .free)
 (hs:∀x,xa iter X.env x=pure x:=by intro _;rfl):PS X (.Assign [.Name y py] (.ListComp elt [⟨tg,iter,ifs,0⟩] scope pos) spos) (zCA (tLC own.length fr wi g tc te) (zDw i)):=by
 intro pins s σ H E I h;rw[exec_Assign_Name_used _ _ _ _ hsw];refine ya (YZ (ya ?_));have hclos:closureFor scope X.env=pure (zcc X.env.cells scope.names []):=zTl λx hx e=>I.ok.has x.1 (hfree x hx e);show yo _ X.A (do let _ <-comprehension (.ListComp elt [⟨tg,iter,ifs,0⟩] scope pos) scope X.env _ (newList []) false (Yh iter X.env) (some (assign (.Name y py) X.env))) _ _ s;refine ya (Yb (wpAny_comprehension_free (use:=some (assign (.Name y py) X.env)) (Q:=λ_ s'=>SP X pins E .next s') rfl hs hclos hk (λx hx e=>by rw[hnm x hx,e]) ?_) (λ_ s' hq=>yg (yg hq)) λ_ _ e=>e);show yo _ _ (Yh iter X.env) _ _ s;refine thn (hi pins s σ H _ I h) λv s1 h1=>thn h1 λitv s2 h2=>?_;refine zhu (RR:=λacc C=>compPost (yx X.prog X.w) X.A X.xe (some (assign (.Name y py) X.env)) (λ_ s'=>SP X pins E .next s') acc C) own fr hc hg hq he hk hnm hfree hfr h2 λys H3 D C s4 q w=>?_;show yo _ X.A (assign (.Name y py) X.env (.ref D)) _ _ s4;obtain⟨m,hn⟩:=w.own;refine wpAny_assign_Name (zro (v:=V.ref D) w.inv hN hiN (.inl hy) rfl (λs5 I5 ⟨a,sb,ha⟩=>?_) (.inr hy))
 have haC:C≠a:=by
  rcases ha with e|e
  ·rw[e];exact w.notL
  ·exact yH (w.Se y a e)
 refine⟨m,hn.sameBut sb haC,λh' sb'=>?_⟩;refine⟨_,_,I5.turned (t':=s5.toks) (λb o hb e=>(sb'.2 b hb).trans e) w.freeC w.notL (.inr w.young) w.Se w.SO,q D w.free⟩
end
section
variable {K:yw}{ρ ρ1:List yd}{H H1:Hp}
def sQ.ext{W:XK}{E:Ends}{o:Out}(h:sQ K W ρ H E o)(x:Ext ρ H ρ1 H1):sQ K W ρ1 H1 E o:=by
 cases o with
 |next δ μ=>exact λρ' σ' H' x' A=>h ρ' σ' H' (x.trans x') A
 |brk δ μ=>exact λρ' σ' H' x' A=>h ρ' σ' H' (x.trans x') A
 |cont δ μ=>exact λρ' σ' H' x' A=>h ρ' σ' H' (x.trans x') A
 |ret d μ=>exact λρ' v H' x' R r=>h ρ' v H' (x.trans x') R r
 |exc c fs μ=>exact λρ' H' C dx hc x' R r=>h ρ' H' C dx hc (x.trans x') R r
def At.set{σ:L2.St}{δ:Loc}{μ:Mem}{d:D}{v:V}(A:At K ρ H σ δ μ)(r:tx K ρ H d v)(i:Nat):At K ρ H (σ.set i (some v)) (δ.set i (some d)) μ:=by
 refine⟨λj d' e=>?_,A.hp,by simp[A.len]⟩
 by_cases hj:j=i
 ·subst hj
  have hl:j<δ.length:=by
   have:=(List.getElem?_eq_some_iff.mp e).1;simpa using this
  rw[yI hl]at e;cases e;exact⟨v,by rw[yI (by rw[A.len];exact hl)],r⟩
 ·rw[yK (yH hj)]at e;obtain⟨u,e1,q⟩:=A.st j d' e;exact⟨u,by rw[yK (yH hj)];exact e1,q⟩
end
section
variable {X:Cx}{a b c e:yF}{es:List yF}{φ ψ χ:FE}{pos:xC}{st:Yi}{rest:List Yi}
@[simp] def zfc:FS:=λδ μ=>some (.next δ μ)
@[simp] def zdb(p q:FS):FS:=λδ μ=>match p δ μ with
 |some (.next δ' μ')=>q δ' μ'
 |o=>o
def z9:MSs X [] zfc:=zvw z1x λρ δ μ σ H o E A e k=>by
 cases e;exact k ρ σ H Ext.refl A
def zu{p:FS}(h:MS X st p):MSs X [st] p:=zgp h
def zp{p q:FS}(h1:MS X st p)(h2:MSs X rest q):MSs X (st::rest) (zdb p q) :=
 zvw (ztm h1 h2) λρ δ μ σ H o E A e k=>by
  unfold zdb at e;show tMS X.K (zXm X) p {E with nx:=tMS X.K (zXm X) q E } σ H
  cases ep:p δ μ with
  |none=>rw[ep]at e;cases e
  |some op=>
   rw[ep]at e;refine⟨ρ,δ,μ,op,A,ep,?_⟩
   cases op with
   |next δ' μ'=>exact λρ' σ' H' x' A'=>⟨ρ',δ',μ',o,A',e,k.ext x'⟩
   |brk δ' μ'=>cases e;exact k
   |cont δ' μ'=>cases e;exact k
   |ret d μ'=>cases e;exact k
   |exc C fs μ'=>cases e;exact k
@[simp] def zuc(φ:FE):FS:=λδ μ=>(φ δ μ).bind λp=>some (.ret p.1 p.2)
def zT(h:ME X e φ):MS X (.Return (some e) pos) (zuc φ):=zkk (z9y h) λρ δ μ σ H o E A e k=>by
 obtain⟨⟨x,μ1⟩,e1,e⟩:=zn e;cases e;exact⟨ρ,δ,μ,x,μ1,A,e1,λρ' H' v x' R r=>k ρ' v H' x' R r⟩
@[simp] def zHj(φ:FE):FS:=λδ μ=>(φ δ μ).bind λp=>some (.next δ p.2)
def zdg(h:ME X e φ)(hs:Xl e none pos.line X.env=pure false:=by rfl):MS X (.Expr e pos) (zHj φ):=zkk (zup h hs) λρ δ μ σ H o E A e k=>by
 obtain⟨⟨x,μ1⟩,e1,e⟩:=zn e;cases e;exact⟨ρ,δ,μ,x,μ1,A,e1,λρ' H' v x' R r=>k ρ' σ H' x' (A.ext x' R)⟩
@[simp] def zyc(i:Nat)(φ:FE):FS:=λδ μ=>(φ δ μ).bind λp=>some (.next (δ.set i (some p.1)) p.2)
def zV{x:yy}{pos':xC}(i:Nat)(he:ME X e φ)(hN:X.N.Nodup:=by first|assumption|decide)(hi:X.N[i]?=some x:=by rfl)(hx:L2.Loc X.env.scope x:=by first|exact Or.inl rfl|exact Or.inr rfl)(hs:Xl e (some (.Name x pos')) pos.line X.env=pure false:=by rfl)
 (hf:X.fn x=true\/X.env.scope.names.lookup x=some .local:=by first|exact .inl rfl|exact .inr rfl|assumption):MS X (.Assign [.Name x pos'] e pos) (zyc i φ):=zkk (z5y hN hi hx he hs hf) λρ δ μ σ H o E A e k=>by
 obtain⟨⟨x,μ1⟩,e1,e⟩:=zn e;cases e;exact⟨ρ,δ,μ,x,μ1,A,e1,λρ' H' v x' R r=>k ρ' _ H' x' ((A.ext x' R).set r i)⟩
@[simp] def sIf(c:FT)(p q:FS):FS:=λδ μ=>(c δ μ).bind λt=>bif t.1 then p δ t.2 else q δ t.2
def zpc{s1 s2:List Yi}{t:FT}{p q:FS}(hc:MT X c t)(h1:MSs X s1 p)(h2:MSs X s2 q):MS X (.If c s1 s2 pos) (sIf t p q):=zkk (zwA hc h1 h2) λρ δ μ σ H o E A e k=>by
 obtain⟨⟨x,μ1⟩,e1,e⟩:=zn e;refine⟨ρ,δ,μ,x,μ1,A,e1,λρ' H' x' R=>?_⟩
 cases x with
 |true=>exact Sv ⟨ρ',δ,μ1,o,A.ext x' R,e,k.ext x'⟩
 |false=>exact Su ⟨ρ',δ,μ1,o,A.ext x' R,e,k.ext x'⟩
def zBt:FS:=λ_ _=>none
def ziq:MS X st zBt:=zkk z9u λ_ _ _ _ _ _ _ _ e _=>by cases e
abbrev FG:=D->Loc->Mem->Option (Loc×Mem)
abbrev FGs:=List D->Loc->Mem->Option (Loc×Mem)
def tMG(K:yw)(g:FG):TG:=λv σ H Q=>∃ρ δ μ d δ' μ',At K ρ H σ δ μ/\tx K ρ H d v/\g d δ μ=some (δ',μ')/\∀ρ' σ' H',Ext ρ H ρ' H'->At K ρ' H' σ' δ' μ'->Q σ' H'
def zxB(K:yw)(g:FGs):TGs:=λvs σ H Q=>∃ρ δ μ ds δ' μ',At K ρ H σ δ μ/\tj K ρ H ds vs/\g ds δ μ=some (δ',μ')/\∀ρ' σ' H',Ext ρ H ρ' H'->At K ρ' H' σ' δ' μ'->Q σ' H'
def MG(X:Cx)(t:yF)(g:FG):Prop:=PG X t (tMG X.K g)
def MGs(X:Cx)(t:List yF)(g:FGs):Prop:=PGs X t (zxB X.K g)
def mg_of{t:yF}{tt:TG}{g:FG}(h:PG X t tt)(w:∀ρ δ μ d δ' μ' v σ H Q,At X.K ρ H σ δ μ->tx X.K ρ H d v->g d δ μ=some (δ',μ')->(∀ρ' σ' H',Ext ρ H ρ' H'->At X.K ρ' H' σ' δ' μ'->Q σ' H')->tt v σ H Q):MG X t g :=
 by intro pins s σ H v u Q I r hh;obtain⟨ρ,δ,μ,d,δ',μ',A,q,e,k⟩:=hh;exact h pins s σ H v u Q I r (w ρ δ μ d δ' μ' v σ H Q A q e k)
def zlw{t:List yF}{tt:TGs}{g:FGs}(h:PGs X t tt)(w:∀ρ δ μ d δ' μ' v σ H Q,At X.K ρ H σ δ μ->tj X.K ρ H d v->g d δ μ=some (δ',μ')->(∀ρ' σ' H',Ext ρ H ρ' H'->At X.K ρ' H' σ' δ' μ'->Q σ' H')->tt v σ H Q):MGs X t g :=
 by intro pins s σ H v u Q I r hh;obtain⟨ρ,δ,μ,d,δ',μ',A,q,e,k⟩:=hh;exact h pins s σ H v u Q I r (w ρ δ μ d δ' μ' v σ H Q A q e k)
@[simp] def gN(i:Nat):FG:=λd δ μ=>some (δ.set i (some d),μ)
def zEb{x:yy}(i:Nat)(hN:X.N.Nodup:=by first|assumption|decide)(hi:X.N[i]?=some x:=by rfl)(hx:L2.Loc X.env.scope x:=by first|exact Or.inl rfl|exact Or.inr rfl)(hf:X.fn x=true\/X.env.scope.names.lookup x=some .local:=by first|exact .inl rfl|exact .inr rfl|assumption):MG X (.Name x pos) (gN i) :=
 mg_of (zYt hN hi hx hf) λρ δ μ d δ' μ' v σ H Q A q e k=>by
  cases e;exact k ρ _ H Ext.refl (A.set q i)
@[simp] def zbh:FGs:=λds δ μ=>match ds with
 |[]=>some (δ,μ)
 |_=>none
@[simp] def zYb(g:FG)(gs:FGs):FGs:=λds δ μ=>match ds with
 |d::r=>(g d δ μ).bind λp=>gs r p.1 p.2
 |_=>none
def zHi:MGs X [] zbh:=zlw zus λρ δ μ ds δ' μ' vs σ H Q A q e k=>by
 unfold zbh at e
 split at e
 ·cases e;exact⟨q.nil_inv,k ρ σ H Ext.refl A⟩
 ·cases e
def zhc{g:FG}{gs:FGs}(h1:MG X e g)(h2:MGs X es gs)(hs:(Yw (e::es) X.env).map (·.2)=assign e X.env::(Yw es X.env).map (·.2):=by rfl):MGs X (e::es) (zYb g gs) :=
 zlw (zAq h1 h2 hs) λρ δ μ ds δ' μ' vs σ H Q A q e k=>by
  unfold zYb at e
  split at e
  ·obtain⟨⟨δ1,μ1⟩,e1,e⟩:=zn e;obtain⟨v,r,rfl,q1,q2⟩:=q.cons_inv;refine⟨v,r,rfl,ρ,δ,μ,_,δ1,μ1,A,q1,e1,λρ1 σ1 H1 x1 A1=>?_⟩;exact⟨ρ1,δ1,μ1,_,δ',μ',A1,q2.ext x1,e,λρ2 σ2 H2 x2 A2=>k ρ2 σ2 H2 (x1.trans x2) A2⟩
  ·cases e
@[simp] def gT(n:Nat)(gs:FGs):FG:=λd δ μ=>match d with
 |.tup ds=>bif ds.length==n then gs ds δ μ else none
 |_=>none
def zeo{k n:Nat}{gs:FGs}(h:MGs X es gs)(hc:X.calm=true:=by rfl)(hn:(Yw es X.env).length=n:=by rfl)(hst:(Yw es X.env).findIdx? (·.1)=none:=by rfl):MG X (.Tuple es k pos) (gT n gs) :=
 mg_of (z5v hc h hn hst) λρ δ μ d δ' μ' v σ H Q A q e k=>by
  unfold gT at e
  split at e
  ·obtain⟨h1,e⟩:=zY e;obtain⟨a,vs,rfl,e2,q2⟩:=q.tR;exact⟨a,vs,rfl,SqT.of e2,by rw[<-q2.length];exact beq_iff_eq.mp h1,ρ,δ,μ,_,δ',μ',A,q2,e,k⟩
  ·cases e
@[simp] def gAt(φ ψ:FE):FG:=λd δ μ=>(φ δ μ).bind λp=>(ψ δ p.2).bind λq=>match p.1,q.1 with
 |.loc n,.int i=>match q.2[n]? with
  |some (.lst ds)=>(ixN ds.length i).bind λj=>some (δ,q.2.set n (.lst (ds.set j d)))
  |_=>none
 |_,_=>none
def zYx{o i:yF}(ho:ME X o φ)(hi:ME X i ψ)(ha:∀v,assign (.Subscript o i pos) X.env v=(do
 let ov <-xT [v] (Yh o X.env)
 let iv <-xT [v,ov] (Yh i X.env)
 standAt pos
 xT [v,ov,iv] (setItem ov iv v)
 release [v,ov,iv] []):=by intro _;rfl):MG X (.Subscript o i pos) (gAt φ ψ) :=
 mg_of (z2v ho hi z8u ha) λρ δ μ d δ' μ' v σ H Q A q e k=>by
  obtain⟨⟨x,μ1⟩,e1,e⟩:=zn e;obtain⟨⟨y,μ2⟩,e2,e⟩:=zn e;refine⟨ρ,δ,μ,x,μ1,A,e1,λρ1 H1 v1 x1 R1 r1=>?_⟩;refine⟨ρ1,δ,μ1,y,μ2,A.ext x1 R1,e2,λρ2 H2 v2 x2 R2 r2=>?_⟩;dsimp only at e
  split at e
  ·split at e
   ·rename_i hm
    obtain⟨j,e3,e⟩:=zn e;cases e;obtain⟨ad,rfl,hr⟩:=(r1.ext x2).tz;obtain⟨vs,hv,q3⟩:=R2.at_ _ _ _ hr hm;have hmu:Mut (H2 ad):=by rw[hv];trivial
    refine⟨ad,vs,_,j,rfl,r2.int_inv,hv,by rw[<-q3.length];exact e3,?_⟩;have xx:=x1.trans x2;have R3:=R2.wr (o:=.lst (vs.set j v)) (lo:=.lst _) hmu hr ⟨_,zG,tj.ext (Ext.wr hmu) (q3.set j (q.ext xx))⟩;exact k ρ2 σ _ (xx.trans (Ext.wr hmu)) (A.ext (xx.trans (Ext.wr hmu)) R3)
   ·cases e
  ·cases e
@[simp] def zks(φ:FE)(g:FG):FS:=λδ μ=>(φ δ μ).bind λp=>(g p.1 δ p.2).bind λq=>some (.next q.1 q.2)
def z4i{tg:yF}{g:FG}(he:ME X e φ)(hg:MG X tg g)(hs:swapsWithSole [tg] e pos.line X.env=pure false:=by rfl)(hw:swappedStores [tg] e X.env=pure none:=by rfl)
 (h1:(Yw [tg] X.env).map (·.2)=[assign tg X.env]:=by rfl):MS X (.Assign [tg] e pos) (zks φ g):=zkk (zPy he hg hs hw h1) λρ δ μ σ H o E A e k=>by
 obtain⟨⟨x,μ1⟩,e1,e⟩:=zn e;obtain⟨⟨δ1,μ2⟩,e2,e⟩:=zn e;cases e;refine⟨ρ,δ,μ,x,μ1,A,e1,λρ1 H1 v1 x1 R1 r1=>?_⟩;exact⟨ρ1,δ,μ1,x,δ1,μ2,A.ext x1 R1,r1,e2,λρ2 σ2 H2 x2 A2=>k ρ2 σ2 H2 (x1.trans x2) A2⟩
abbrev FI:=Loc->Mem->Option (List D×(Mem->Bool)×Mem)
structure sR(K:yw)(J:It)(ρ:List yd)(H:Hp)(ds:List D)(ok:Mem->Bool):Prop where
 go:∀ρ' H' μ' (i:Nat),Ext ρ H ρ' H'->tI K ρ' H' μ'->ok μ'=true->i<ds.length->J.go i H'
 yld:∀ρ' H' μ' (i:Nat) x H'' d,Ext ρ H ρ' H'->tI K ρ' H' μ'->ok μ'=true->ds[i]?=some d->J.yld i H' x H''->Ext ρ' H' ρ' H''/\tI K ρ' H'' μ'/\tx K ρ' H'' d x
 stop:∀ρ' H' μ',Ext ρ H ρ' H'->tI K ρ' H' μ'->ok μ'=true->J.stop ds.length H'
def tMI(K:yw)(φ:FI):TI:=λσ H R=>∃ρ δ μ ds ok μ',At K ρ H σ δ μ/\φ δ μ=some (ds,ok,μ')/\∀ρ' H' J,Ext ρ H ρ' H'->tI K ρ' H' μ'->sR K J ρ' H' ds ok->R J H'
def MI(X:Cx)(tg iter:yF)(φ:FI):Prop:=PI X tg iter (tMI X.K φ)
def zmr{tg it:yF}{t:TI}{φ:FI}(h:PI X tg it t)(w:∀ρ δ μ σ H ds ok μ' R,At X.K ρ H σ δ μ->φ δ μ=some (ds,ok,μ')->(∀ρ' H' J,Ext ρ H ρ' H'->tI X.K ρ' H' μ'->sR X.K J ρ' H' ds ok->R J H')->t σ H R):MI X tg it φ :=
 by intro pins s σ H R I hh;obtain⟨ρ,δ,μ,ds,ok,μ',A,e,k⟩:=hh;exact h pins s σ H R I (w ρ δ μ σ H ds ok μ' R A e k)
@[simp] def yes:Mem->Bool:=λ_=>true
@[simp] def zZi(φ:FA):FI:=λδ μ=>(φ δ μ).bind λp=>match p.1 with
 |[.int j]=>bif decide (-(2^62)<=j/\j<2^62) then some ((yv j.toNat).map λ(k:Nat) =>.int k,yes,p.2) else none
 |_=>none
def zdm{tg:yF}{p:xC}{φ:FA}(hm:X.mg "range"=none)(ha:MAn X [a] φ)(hg:Gl X "range":=by rfl)(hs:yj [a] X.env=[(false,Yh a X.env)]:=by rfl):MI X tg (.Call (.Name "range" p) [a] [] pos) (zZi φ) :=
 zmr (zNs hg hm ha.ma hs) λρ δ μ σ H ds ok μ' R A e k=>by
  obtain⟨⟨x,μ1⟩,e1,e⟩:=zn e;refine⟨ρ,δ,μ,x,μ1,A,e1,λρ1 H1 v1 x1 R1 r1=>?_⟩;dsimp only at e
  split at e
  ·rename_i j
   obtain⟨h1,e⟩:=zY e;have h2:=of_decide_eq_true h1;cases e;obtain⟨w,r,rfl,q1,q2⟩:=r1.cons_inv;refine⟨j,by rw[q1.int_inv,q2.nil_inv],h2.1,h2.2,k ρ1 H1 _ x1 R1 ⟨λρ' H' μ' i _ _ _ h=>by rw[length_map,length_range]at h;exact h,λρ' H' μ' i x H'' d _ RR _ e ⟨y1,y2⟩=>⟨y1▸Ext.refl,y1▸RR,?_⟩,λρ' H' μ' _ _ _=>by show j.toNat<=_;simp⟩⟩;rw[yh]at e
   cases e3:(yv j.toNat)[i]? with
   |none=>rw[e3]at e;cases e
   |some m=>
    rw[e3]at e
    have hmi:m=i:=by
     obtain⟨w1,w2⟩:=List.getElem?_eq_some_iff.mp e3;simpa using w2.symm
    subst hmi;have e':D.int (m:Nat)=d:=Yj e;subst e';rw[y2,show(0:Int)+(m:Nat)=(m:Int) by omega];exact .int
  ·cases e
def zpu{K:yw}{ρ:List yd}{H:Hp}{a:yd}{vs:List V}{ds:List D}(h:H a=some (.tup vs))(r:tj K ρ H ds vs):sR K (Itt K a) ρ H ds yes:=by
 refine⟨λρ' H' μ' i x R _ hi=>?_,λρ' H' μ' i x H'' d x' R _ e ⟨y1,y2⟩=>⟨y1▸Ext.refl,y1▸R,y1▸?_⟩,λρ' H' μ' x R _=>⟨vs,SqT.of (x.tup _ _ h),by rw[r.length];exact yk _⟩⟩
 ·have hi':i<vs.length:=by rw[<-r.length];exact hi
  exact⟨vs,vs[i],SqT.of (x.tup _ _ h),by simp[hi']⟩
 ·have q:=y2 vs (SqT.of (x'.tup _ _ h));obtain⟨w,e1,rr⟩:=(r.ext x').get e;rw[q]at e1;cases e1;exact rr
@[simp] def z4v(φ:FE):FI:=λδ μ=>(φ δ μ).bind λp=>match p.1 with
 |.tup ds=>some (ds,yes,p.2)
 |_=>none
def zNz{tg:yF}(h:ME X a φ):MI X tg a (z4v φ) :=
 zmr (zKy h) λρ δ μ σ H ds ok μ' R A e k=>by
  obtain⟨⟨x,μ1⟩,e1,e⟩:=zn e;refine⟨ρ,δ,μ,x,μ1,A,e1,λρ1 H1 v1 x1 R1 r1=>?_⟩;dsimp only at e
  split at e
  ·cases e;obtain⟨a,vs,rfl,e2,q2⟩:=r1.tR;exact⟨a,rfl,⟨vs,SqT.of e2⟩,k ρ1 H1 _ x1 R1 (zpu e2 q2)⟩
  ·cases e
def z4j(n:Nat)(ds:List D):Mem->Bool:=λμ=>@decide (μ[n]?=some (.lst ds)) (YC _)
def Tt{n:Nat}{ds:List D}{μ:Mem}:z4j n ds μ=true↔μ[n]?=some (.lst ds):=by
 unfold z4j;exact @decide_eq_true_iff _ (YC _)
def zbt(φ:FE):FI:=λδ μ=>(φ δ μ).bind λp=>match p.1 with
 |.fz ds=>some (ds,yes,p.2)
 |.loc n=>match p.2[n]? with
  |some (.lst ds)=>some (ds,z4j n ds,p.2)
  |_=>none
 |_=>none
def zhl{K:yw}{ρ:List yd}{H:Hp}{a:yd}{ds:List D}{ok:Mem->Bool}(h:∀ρ' H' μ',Ext ρ H ρ' H'->tI K ρ' H' μ'->ok μ'=true->∃vs,SqL K H' a vs/\tj K ρ' H' ds vs):sR K (Itl K a) ρ H ds ok:=by
 refine⟨λρ' H' μ' i x R o hi=>?_,λρ' H' μ' i x H'' d x' R o e ⟨y1,y2⟩=>⟨y1▸Ext.refl,y1▸R,y1▸?_⟩,λρ' H' μ' x R o=>?_⟩
 ·obtain⟨vs,s,r⟩:=h ρ' H' μ' x R o;have hi':i<vs.length:=by rw[<-r.length];exact hi
  exact⟨vs,vs[i],s,by simp[hi']⟩
 ·obtain⟨vs,s,r⟩:=h ρ' H' μ' x' R o;have q:=y2 vs s;obtain⟨w,e1,rr⟩:=r.get e;rw[q]at e1;cases e1;exact rr
 ·obtain⟨vs,s,r⟩:=h ρ' H' μ' x R o;exact⟨vs,s,by rw[r.length];exact yk _⟩
def zZs{tg:yF}(h:ME X a φ):MI X tg a (zbt φ) :=
 zmr (zay h) λρ δ μ σ H ds ok μ' R A e k=>by
  obtain⟨⟨x,μ1⟩,e1,e⟩:=zn e;refine⟨ρ,δ,μ,x,μ1,A,e1,λρ1 H1 v1 x1 R1 r1=>?_⟩;dsimp only at e
  split at e
  ·cases e;obtain⟨a,vs,rfl,e2,q2⟩:=r1.sB;exact⟨a,rfl,⟨vs,e2.sq⟩,k ρ1 H1 _ x1 R1 (zhl λρ' H' μ' x _ _=>⟨vs,(x.fz e2).sq,q2.ext x⟩)⟩
  ·split at e
   ·rename_i hm
    cases e;obtain⟨a,rfl,e2⟩:=r1.tz;obtain⟨vs,e3,q3⟩:=R1.at_ _ _ _ e2 hm;refine⟨a,rfl,⟨vs,SqL.of e3⟩,k ρ1 H1 _ x1 R1 (zhl λρ' H' μ'' x R' o=>?_)⟩;obtain⟨vs',e4,q4⟩:=R'.at_ _ _ _ (x.get e2) (Tt.mp o);exact⟨vs',SqL.of e4,q4⟩
   ·cases e
  ·cases e
def zJi(g:FG)(body:FS)(ok:Mem->Bool):List D->FS
 |[],δ,μ=>bif ok μ then some (.next δ μ) else none
 |x::xs,δ,μ=>bif ok μ then(g x δ μ).bind λp=>match body p.1 p.2 with
  |some (.next δ' μ')=>zJi g body ok xs δ' μ'
  |some (.cont δ' μ')=>zJi g body ok xs δ' μ'
  |some (.brk δ' μ')=>some (.next δ' μ')
  |some (.ret d μ')=>some (.ret d μ')
  |some (.exc C fs μ')=>some (.exc C fs μ')
  |none=>none
  else none
@[simp] def zHm(i:FI)(g:FG)(body:FS):FS:=λδ μ=>(i δ μ).bind λp=>zJi g body p.2.1 p.1 δ p.2.2
def zOe{tg iter:yF}{body:List Yi}{i:FI}{g:FG}{p:FS}(hi:MI X tg iter i)(hg:MG X tg g)(hb:MSs X body p)(hx:PassesOwn (yx X.prog X.w) X.A X.env X.xe:=by first|exact PassesOwn.never|exact PassesOwn.leaving)(hc:X.calm=true:=by rfl)
 (hs:∀x,xa iter X.env x=pure x:=by intro _;rfl):MS X (.For tg iter body [] pos) (zHm i g p) :=
 zkk (zty hx hc hi hg hb hs) λρ δ μ σ H o E A e k=>by
  obtain⟨⟨ds,ok,μ1⟩,e1,e⟩:=zn e;refine⟨ρ,δ,μ,ds,ok,μ1,A,e1,λρ1 H1 J x1 R1 II=>?_⟩;refine⟨λi m σ' H'=>∃ρ' δ' μ',Ext ρ1 H1 ρ' H'/\At X.K ρ' H' σ' δ' μ'/\i<=ds.length/\m=ds.length-i/\zJi g p ok (ds.drop i) δ' μ'=some o,⟨_,ρ1,δ,μ1,Ext.refl,A.ext x1 R1,YB _,rfl,e⟩,?_⟩;rintro i m σ' H' ⟨ρ',δ',μ',x',A',hi,rfl,ef⟩
  by_cases hlt:i<ds.length
  ·right
   have hd:ds.drop i=ds[i]::ds.drop (i+1):=drop_eq_getElem_cons hlt;rw[hd]at ef;unfold zJi at ef;obtain⟨hok,ef⟩:=zY ef;obtain⟨⟨δ2,μ2⟩,e2,ef⟩:=zn ef;refine⟨II.go ρ' H' μ' i x' A'.hp hok hlt,λσ3 H3=>∃ρ3 δ3 μ3,Ext ρ1 H1 ρ3 H3/\At X.K ρ3 H3 σ3 δ3 μ3/\zJi g p ok (ds.drop (i+1)) δ3 μ3=some o,λσ3 H3 ⟨ρ3,δ3,μ3,x3,A3,e3⟩=>⟨ds.length-(i+1),by omega,ρ3,δ3,μ3,x3,A3,hlt,rfl,e3⟩,λx H'' y=>?_⟩;obtain⟨xe,Re,rx⟩:=II.yld ρ' H' μ' i x H'' ds[i] x' A'.hp hok (by simp[hlt]) y;have x':=x'.trans xe;refine⟨ρ',δ',μ',ds[i],δ2,μ2,A'.ext xe Re,rx,e2,λρ4 σ4 H4 x4 A4=>?_⟩
   cases eb:p δ2 μ2 with
   |none=>rw[eb]at ef;cases ef
   |some ob=>
    rw[eb]at ef;refine⟨ρ4,δ2,μ2,ob,A4,eb,?_⟩;have x5:=x'.trans x4
    cases ob with
    |next δ6 μ6=>exact λρ6 σ6 H6 x6 A6=>⟨ρ6,δ6,μ6,x5.trans x6,A6,ef⟩
    |cont δ6 μ6=>exact λρ6 σ6 H6 x6 A6=>⟨ρ6,δ6,μ6,x5.trans x6,A6,ef⟩
    |brk δ6 μ6=>cases ef;exact(k.ext x1).ext x5
    |ret d μ6=>cases ef;exact(k.ext x1).ext x5
    |exc C fs μ6=>cases ef;exact(k.ext x1).ext x5
  ·left
   have e0:i=ds.length:=by omega
   subst e0;rw[List.drop_length]at ef;unfold zJi at ef;obtain⟨hok,ef⟩:=zY ef;cases ef;exact⟨II.stop ρ' H' μ' x' A'.hp hok,k ρ' σ' H' (x1.trans x') A'⟩
end
def zCu(g:FG)(c:FT)(φ:FE)(ok:Mem->Bool)(δ:Loc):List D->List D->Mem->Option (D×Mem)
 |[],ys,μ=>bif ok μ then some (.loc μ.length,μ++[.lst ys]) else none
 |x::xs,ys,μ=>bif ok μ then(g x δ μ).bind λp=>(c p.1 p.2).bind λt=>bif t.1 then(φ p.1 t.2).bind λq=>zCu g c φ ok δ xs (ys++[q.1]) q.2 else zCu g c φ ok δ xs ys t.2 else none
@[simp] def δC(n:Nat)(fr:List Nat)(δ:Loc):Loc:=yD n none++fr.map λi=>(δ[i]?).getD none
@[simp] def few(ds:List D):Bool:=decide (ds.length<=1000000)
@[simp] def fLC(n:Nat)(fr:List Nat)(i:FI)(g:FG)(c:FT)(φ:FE):FE:=λδ μ=>(i δ μ).bind λp=>bif few p.1 then zCu g c φ p.2.1 (δC n fr δ) p.1 [] p.2.2 else none
def MF(X:Cx)(ifs:List yF)(c:FT):Prop:=PF X ifs (tMT X.K c)
@[simp] def zqk:FT:=λ_ μ=>some (true,μ)
def zbf{X:Cx}:MF X [] zqk:=by intro pins s σ H Q I hh;obtain⟨ρ,δ,μ,b,μ',A,e,k⟩:=hh;exact zGy pins s σ H Q I (by cases e;exact k ρ H Ext.refl A.hp)
def zuq{X:Cx}{e:yF}{c:FT}(h:MT X e c):MF X [e] c:=zXz h
def At.δC{K:yw}{ρ:List yd}{H:Hp}{σ:L2.St}{δ:Loc}{μ:Mem}(A:At K ρ H σ δ μ)(n:Nat)(fr:List Nat):At K ρ H (σC n fr σ) (M.δC n fr δ) μ:=by
 refine⟨λi d e=>?_,A.hp,by unfold σC M.δC;simp⟩;unfold M.δC at e;unfold σC
 by_cases hi:i<n
 ·rw[yq (by simpa using hi),YW]at e
  split at e<;>cases e
 ·have hi:n<=i:=Nat.le_of_not_lt hi;rw[yJ (by simpa using hi),Xq,yh]at e;rw[yJ (by simpa using hi),Xq,yh]
  cases e1:fr[i-n]? with
  |none=>rw[e1]at e;cases e
  |some j=>
   rw[e1]at e;have e2:(δ[j]?).getD none=some d:=Yj e
   have e3:δ[j]?=some (some d):=by
    cases q:δ[j]? with
    |none=>rw[q]at e2;cases e2
    |some z=>rw[q]at e2;exact congrArg some e2
   obtain⟨v,hv,r⟩:=A.st j d e3;exact⟨v,by rw[xf,hv];rfl,r⟩
def sj(n:Nat)(σ σ':L2.St):Prop:=σ'.length=σ.length/\∀(i:Nat),n<=i->σ'[i]?=σ[i]?
def sj.refl{n:Nat}{σ:L2.St}:sj n σ σ:=⟨rfl,λ_ _=>rfl⟩
def sj.trans{n:Nat}{σ σ1 σ2:L2.St}(a:sj n σ σ1)(b:sj n σ1 σ2):sj n σ σ2:=⟨b.1.trans a.1,λi h=>(b.2 i h).trans (a.2 i h)⟩
def tGc(K:yw)(n:Nat)(g:FG):TG:=λv σ H Q=>∃ρ δ μ d δ' μ',At K ρ H σ δ μ/\tx K ρ H d v/\g d δ μ=some (δ',μ')/\∀ρ' σ' H',Ext ρ H ρ' H'->At K ρ' H' σ' δ' μ'->sj n σ σ'->Q σ' H'
def zJB(K:yw)(n:Nat)(g:FGs):TGs:=λvs σ H Q=>∃ρ δ μ ds δ' μ',At K ρ H σ δ μ/\tj K ρ H ds vs/\g ds δ μ=some (δ',μ')/\∀ρ' σ' H',Ext ρ H ρ' H'->At K ρ' H' σ' δ' μ'->sj n σ σ'->Q σ' H'
def MGc(X:Cx)(n:Nat)(t:yF)(g:FG):Prop:=PG X t (tGc X.K n g)
def z8z(X:Cx)(n:Nat)(t:List yF)(g:FGs):Prop:=PGs X t (zJB X.K n g)
section
variable {X:Cx}{e:yF}{es:List yF}{pos:xC}{n:Nat}
def zjb{x:yy}(i:Nat)(hin:i<n:=by decide)(hN:X.N.Nodup:=by first|assumption|decide)(hi:X.N[i]?=some x:=by rfl)(hx:L2.Loc X.env.scope x:=by first|exact Or.inl rfl|exact Or.inr rfl)(hf:X.fn x=true\/X.env.scope.names.lookup x=some .local:=by first|exact .inl rfl|exact .inr rfl|assumption):MGc X n (.Name x pos) (gN i) :=
 by intro pins s σ H v u Q I r hh;obtain⟨ρ,δ,μ,d,δ',μ',A,q,e,k⟩:=hh;exact zYt hN hi hx hf pins s σ H v u Q I r (by
  cases e;exact k ρ _ H Ext.refl (A.set q i) ⟨by simp,λj hj=>yK (by omega)⟩)
def ztj:z8z X n [] zbh:=by intro pins s σ H v u Q I r hh;obtain⟨ρ,δ,μ,d,δ',μ',A,q,e,k⟩:=hh;exact zus pins s σ H v u Q I r (by
 unfold zbh at e
 split at e
 ·cases e;exact⟨q.nil_inv,k ρ σ H Ext.refl A sj.refl⟩
 ·cases e)
def zTd{g:FG}{gs:FGs}(h1:MGc X n e g)(h2:z8z X n es gs)(hs:(Yw (e::es) X.env).map (·.2)=assign e X.env::(Yw es X.env).map (·.2):=by rfl):z8z X n (e::es) (zYb g gs) :=
 by intro pins s σ H vs us Q I r hh;obtain⟨ρ,δ,μ,ds,δ',μ',A,q,e,k⟩:=hh;exact zAq h1 h2 hs pins s σ H vs us Q I r (by
  unfold zYb at e
  split at e
  ·obtain⟨⟨δ1,μ1⟩,e1,e⟩:=zn e;obtain⟨v,vr,rfl,q1,q2⟩:=q.cons_inv;refine⟨v,vr,rfl,ρ,δ,μ,_,δ1,μ1,A,q1,e1,λρ1 σ1 H1 x1 A1 f1=>?_⟩;exact⟨ρ1,δ1,μ1,_,δ',μ',A1,q2.ext x1,e,λρ2 σ2 H2 x2 A2 f2=>k ρ2 σ2 H2 (x1.trans x2) A2 (f1.trans f2)⟩
  ·cases e)
def zjm{k m:Nat}{gs:FGs}(h:z8z X n es gs)(hc:X.calm=true:=by rfl)(hn:(Yw es X.env).length=m:=by rfl)(hst:(Yw es X.env).findIdx? (·.1)=none:=by rfl):MGc X n (.Tuple es k pos) (gT m gs) :=
 by intro pins s σ H v u Q I r hh;obtain⟨ρ,δ,μ,d,δ',μ',A,q,e,k⟩:=hh;exact z5v hc h hn hst pins s σ H v u Q I r (by
  unfold gT at e
  split at e
  ·obtain⟨h1,e⟩:=zY e;obtain⟨a,vs,rfl,e2,q2⟩:=q.tR;exact⟨a,vs,rfl,SqT.of e2,by rw[<-q2.length];exact beq_iff_eq.mp h1,ρ,δ,μ,_,δ',μ',A,q2,e,k⟩
  ·cases e)
end
def zXs{n:Nat}{fr:List Nat}{σ σ':L2.St}(f:sj n (σC n fr σ) σ'):zPx (σC n fr σ) σ':=by
 refine⟨f.1,λi v e=>?_⟩;obtain⟨hi,_⟩:=σC_get e;rw[f.2 i hi];exact e
def Ts:1000000<yE:=by rw[YA];decide
def zqB{K:yw}{n:Nat}{fr:List Nat}{i:FI}{g:FG}{c:FT}{φ:FE}{ρ:List yd}{δ:Loc}{μ:Mem}{σ:L2.St}{H:Hp}{d:D}{μ':Mem}{Q:VK}(A:At K ρ H σ δ μ)(e:fLC n fr i g c φ δ μ=some (d,μ'))
 (k:∀ρ' H' v,Ext ρ H ρ' H'->tI K ρ' H' μ'->tx K ρ' H' d v->Q v H'):tLC n fr (tMI K i) (tGc K n g) (tMT K c) (tM K φ) σ H Q:=by
 obtain⟨⟨ds,ok,μ1⟩,e1,e⟩:=zn e;obtain⟨hfew,e⟩:=zY e;have hfew:ds.length<=1000000:=of_decide_eq_true hfew;refine⟨ρ,δ,μ,ds,ok,μ1,A,e1,λρ1 H1 J x1 R1 II=>?_⟩;refine⟨λi m ys H'=>∃ρ' es μ2,Ext ρ1 H1 ρ' H'/\tI K ρ' H' μ2/\tj K ρ' H' es ys/\es.length<=i/\i<=ds.length/\m=ds.length-i/\zCu g c φ ok (δC n fr δ) (ds.drop i) es μ2=some (d,μ'),⟨_,ρ1,[],μ1,Ext.refl,R1,.nil,YB _,YB _,rfl,e⟩,?_⟩;rintro i m ys H' ⟨ρ',es,μ2,x',R',re,hel,hi,rfl,ef⟩
 by_cases hlt:i<ds.length
 ·right
  have hd:ds.drop i=ds[i]::ds.drop (i+1):=drop_eq_getElem_cons hlt;rw[hd]at ef;unfold zCu at ef;obtain⟨hok,ef⟩:=zY ef;obtain⟨⟨δ2,μ3⟩,e2,ef⟩:=zn ef;obtain⟨⟨b,μ4⟩,e3,ef⟩:=zn ef;refine⟨II.go ρ' H' μ2 i x' R' hok hlt,?_,λx H'' y=>?_⟩
  ·rw[<-re.length];exact Nat.lt_of_le_of_lt (yG hel (yG hi hfew)) Ts
  ·obtain⟨xe,Re,rx⟩:=II.yld ρ' H' μ2 i x H'' ds[i] x' R' hok (by simp[hlt]) y;have x':=x'.trans xe;have re:=re.ext xe;have A':At K ρ' H'' (σC n fr σ) (δC n fr δ) μ2:=((A.ext x1 R1).ext x' Re).δC n fr;refine⟨ρ',_,μ2,ds[i],δ2,μ3,A',rx,e2,λρ4 σ4 H4 x4 A4 f4=>⟨zXs f4,?_⟩⟩;refine⟨ρ4,δ2,μ3,b,μ4,A4,e3,λρ5 H5 x5 R5=>?_⟩
   cases b with
   |false=>exact Su ⟨ds.length-(i+1),by omega,ρ5,es,μ4,x'.trans (x4.trans x5),R5,re.ext (x4.trans x5),by omega,hlt,rfl,ef⟩
   |true=>
    obtain⟨⟨y,μ6⟩,e4,ef⟩:=zn ef;refine Sv ⟨ρ5,δ2,μ4,y,μ6,A4.ext x5 R5,e4,λρ6 H6 v x6 R6 r6=>?_⟩;exact⟨ds.length-(i+1),by omega,ρ6,es++[y],μ6,x'.trans (x4.trans (x5.trans x6)),R6,(re.ext (x4.trans (x5.trans x6))).append (.cons r6 .nil),by simp;exact hel,hlt,rfl,ef⟩
 ·left
  have e0:i=ds.length:=by omega
  subst e0;rw[List.drop_length]at ef;unfold zCu at ef;obtain⟨hok,ef⟩:=zY ef;cases ef;refine⟨II.stop ρ' H' μ2 x' R' hok,λp hp=>?_⟩;exact k _ _ _ (x1.trans (x'.trans (Ext.push hp))) (R'.push hp ⟨ys,zG,re.ext (Ext.push hp)⟩) (.loc (zFb R'))
def zMA{X:Cx}{scope:Xv}{elt tg iter:yF}{ifs:List yF}{pos:xC}{i:FI}{g:FG}{c:FT}{φ:FE}(own:List yy)(fr:List Nat)(hi:MI X tg iter i)
 (hg:∀cl C s₀ H₀ fp,MGc (cxC X own fr scope cl C s₀ H₀ fp) own.length tg g) (hq:∀cl C s₀ H₀ fp,MF (cxC X own fr scope cl C s₀ H₀ fp) ifs c) (he:∀cl C s₀ H₀ fp,ME (cxC X own fr scope cl C s₀ H₀ fp) elt φ)
 (hc:X.calm=true:=by rfl) (hk:scope.kind=.function:=by rfl) (hnm:∀y∈scope.names,scope.names.lookup y.1=some y.2:=by decide)
 (hfree:∀x∈scope.names,x.2=.free->(X.env.kindOf x.1=some .cell\/X.env.kindOf x.1=some .free):=by decide) (hfr:∀i∈fr,∃x,X.N[i]?=some x/\scope.names.lookup x=some .free)
 (hs:∀x,xa iter X.env x=pure x:=by intro _;rfl):ME X (.ListComp elt [⟨tg,iter,ifs,0⟩] scope pos) (fLC own.length fr i g c φ) :=
 zjd (z2A (wi:=tMI X.K i) (g:=tGc X.K own.length g) (tc:=tMT X.K c) (te:=tM X.K φ) own fr hc hi (λcl C s₀ H₀ fp=>hg cl C s₀ H₀ fp) (λcl C s₀ H₀ fp=>hq cl C s₀ H₀ fp) (λcl C s₀ H₀ fp=>he cl C s₀ H₀ fp) hk hnm hfree hfr hs) λρ δ μ σ H d μ' Q A e k=>zqB A e k
def toP(μ:Mem):Nat->D->Option Xc
 |0,_=>none
 |n+1,d=>match d with
  |.non=>some .none
  |.bl b=>some (.bool b)
  |.int i=>some (.int i)
  |.str x=>bif PyData.strOk x then some (.str x) else none
  |.ty _=>none
  |.own _=>none
  |.tup ds=>(ds.mapM (toP μ n)).bind λps=>some (.tuple ps)
  |.fz ds=>(ds.mapM (toP μ n)).bind λps=>some (.list ps)
  |.loc k=>match μ[k]? with
   |some (.lst ds)=>(ds.mapM (toP μ n)).bind λps=>some (.list ps)
   |_=>none
def z3i{f:D->Option Xc}{ps:List Xc}(h:([]:List D).mapM f=some ps):ps=[]:=by
 simp at h;exact h
def zWh{f:D->Option Xc}{d:D}{ds:List D}{ps:List Xc}(h:(d::ds).mapM f=some ps):∃p r,f d=some p/\ds.mapM f=some r/\ps=p::r:=by
 rw[mapM_cons]at h;obtain⟨p,e1,h⟩:=zn h;obtain⟨r,e2,h⟩:=zn h;cases h;exact⟨p,r,e1,e2,rfl⟩
def zpl{f:D->Option Xc}{m:Nat}(hf:∀d p,f d=some p->p.canLay0=true/\p.depth<=m):∀{ds:List D} {ps:List Xc},ds.mapM f=some ps->Xy ps=true/\PyData.depthAll ps<=m
 |[],ps,h=>by rw[z3i h];exact⟨rfl,YB _⟩
 |d::ds,ps,h=>by
  obtain⟨p,r,e1,e2,rfl⟩:=zWh h;obtain⟨h1,h2⟩:=hf d p e1;obtain⟨h3,h4⟩:=zpl hf e2;refine⟨?_,?_⟩
  ·simp only[Xy,h1,h3,Bool.and_true]
  ·simp only[PyData.depthAll];omega
def zMj{μ:Mem}:∀(n:Nat)(d:D)(p:Xc),toP μ n d=some p->p.canLay0=true/\p.depth<=n
 |0,d,p,h=>by cases h
 |n+1,d,p,h=>by
  have seq:∀{ds:List D} {c:List Xc->Xc},(∀ps,(c ps).canLay0=Xy ps)->(∀ps,(c ps).depth=PyData.depthAll ps+1)->((ds.mapM (toP μ n)).bind λps=>some (c ps))=some p->p.canLay0=true/\p.depth<=n+1:=λ{ds c} h1 h2 h=>by
   obtain⟨ps,e1,e2⟩:=zn h;cases e2;obtain⟨q1,q2⟩:=zpl (zMj n) e1;exact⟨by rw[h1];exact q1,by rw[h2];omega⟩
  unfold toP at h
  cases d with
  |non=>cases h;exact⟨rfl,YB _⟩
  |bl b=>cases h;exact⟨rfl,YB _⟩
  |int b=>cases h;exact⟨rfl,YB _⟩
  |str x=>
   obtain⟨h1,h2⟩:=zY h;cases h2;exact⟨h1,YB _⟩
  |ty _=>cases h
  |own _=>cases h
  |tup ds=>exact seq (λ_=>rfl) (λ_=>rfl) h
  |fz ds=>exact seq (λ_=>rfl) (λ_=>rfl) h
  |loc k=>
   dsimp only at h
   split at h
   ·exact seq (λ_=>rfl) (λ_=>rfl) h
   ·cases h
section
variable {X:Cx}{pins:List (yd×YY)}{σ:L2.St}{H:Hp}{s:ye}{ρ:List yd}{μ:Mem}
def z4h{f:D->Option Xc}(hf:∀d p v u,f d=some p->tx X.K ρ H d v->RelV v u->∃as,Reads s.heap u p as):∀{ds:List D} {ps:List Xc} {vs:List V} {us:List yb},ds.mapM f=some ps->tj X.K ρ H ds vs->Vals vs us->∃as,ReadsAll s.heap us ps as
 |[],ps,vs,us,h,r,q=>by
  rw[z3i h];rw[r.nil_inv]at q;cases q;exact⟨[],.nil⟩
 |d::ds,ps,vs,us,h,r,q=>by
  obtain⟨p,pr,e1,e2,rfl⟩:=zWh h;obtain⟨v,vr,rfl,r1,r2⟩:=r.cons_inv
  cases q with
  |cons q1 q2=>
   obtain⟨a1,h1⟩:=hf _ _ _ _ e1 r1 q1;obtain⟨a2,h2⟩:=z4h hf e2 r2 q2;exact⟨_,.cons h1 h2⟩
def zOf(I:Inv X pins σ H s)(R:tI X.K ρ H μ):∀(n:Nat)(d:D)(p:Xc)(v:V)(u:yb),toP μ n d=some p->tx X.K ρ H d v->RelV v u->∃as,Reads s.heap u p as
 |0,d,p,v,u,h,_,_=>by cases h
 |n+1,d,p,v,u,h,r,q=>by
  unfold toP at h
  cases d with
  |non=>cases h;rw[r.tJ]at q;cases q;exact⟨_,.none⟩
  |bl b=>cases h;rw[r.tN]at q;cases q;exact⟨_,.bool b⟩
  |int b=>cases h;rw[r.int_inv]at q;obtain⟨t,rfl⟩:=q;exact⟨_,.int b t⟩
  |str x=>
   obtain⟨h1,h2⟩:=zY h;cases h2;rw[r.str_inv]at q;obtain⟨t,rfl⟩:=q;exact⟨_,.str x t⟩
  |ty _=>cases h
  |own _=>cases h
  |tup ds=>
   obtain⟨ps,e1,e2⟩:=zn h;cases e2;obtain⟨a,vs,rfl,e3,rr⟩:=r.tR;cases q;obtain⟨its,rv,⟨o,ho,hc,k,hd⟩,_⟩:=I.tuple (SqT.of e3);obtain⟨as,ha⟩:=z4h (zOf I R n) e1 rr rv;exact⟨_,reads_tuple_at ho hc hd (by simpa using ha)⟩
  |fz ds=>
   obtain⟨ps,e1,e2⟩:=zn h;cases e2;obtain⟨a,vs,rfl,e3,rr⟩:=r.sB;cases q;obtain⟨its,rv,⟨o,k,ho,hc,_,hd⟩,_⟩:=I.list e3.sq;obtain⟨as,ha⟩:=z4h (zOf I R n) e1 rr rv;exact⟨_,reads_list_at ho hc hd (by simpa using ha)⟩
  |loc k=>
   dsimp only at h
   split at h
   ·rename_i hm
    obtain⟨ps,e1,e2⟩:=zn h;cases e2;obtain⟨a,rfl,e2⟩:=r.tz;obtain⟨vs,e3,rr⟩:=R.at_ _ _ _ e2 hm;cases q;obtain⟨its,rv,⟨o,k,ho,hc,_,hd⟩,_⟩:=I.list (SqL.of (K:=X.K) e3);obtain⟨as,ha⟩:=z4h (zOf I R n) e1 rr rv;exact⟨_,reads_list_at ho hc hd (by simpa using ha)⟩
   ·cases h
end
def gEq:G2:=λx y μ=>(toP μ 8 x).bind λp=>(toP μ 8 y).bind λq=>some (.bl (Yp p q),μ)
def gNe:G2:=λx y μ=>(toP μ 8 x).bind λp=>(toP μ 8 y).bind λq=>some (.bl (!PyData.eqv p q),μ)
def z1h{μ:Mem}{d:D}{p:Xc}(h:toP μ 8 d=some p):SeqAt.shaped p=true:=by
 obtain⟨h1,h2⟩:=zMj 8 d p h;unfold SeqAt.shaped;rw[h1,decide_eq_true (by omega)];rfl
section
variable {X:Cx}{a b c e:yF}{es:List yF}{φ ψ χ:FE}{pos:xC}
def zXb(hu:X.A.units+64<cLine):OpM X (Yy .Eq) gEq:=by
 refine OpM.of λpins s σ H x y v u Q I rx ry ρ dx dy μ d μ' r1 r2 R e k=>?_;obtain⟨p,e1,e⟩:=zn e;obtain⟨q,e2,e⟩:=zn e;cases e;obtain⟨as,h1⟩:=zOf I R 8 dx p x v e1 r1 rx;obtain⟨bs,h2⟩:=zOf I R 8 dy q y u e2 r2 ry;exact eq_dataH h1 h2 (z1h e1) (z1h e2) hu ⟨.bl _,H,I,rfl,k ρ H _ Ext.refl R .bl⟩
def z6s(hu:X.A.units+64<cLine):OpM X (Yy .NotEq) gNe:=by
 refine OpM.of λpins s σ H x y v u Q I rx ry ρ dx dy μ d μ' r1 r2 R e k=>?_;obtain⟨p,e1,e⟩:=zn e;obtain⟨q,e2,e⟩:=zn e;cases e;obtain⟨as,h1⟩:=zOf I R 8 dx p x v e1 r1 rx;obtain⟨bs,h2⟩:=zOf I R 8 dy q y u e2 r2 ry;exact ne_dataH h1 h2 (z1h e1) (z1h e2) hu ⟨.bl _,H,I,rfl,k ρ H _ Ext.refl R .bl⟩
@[simp] def gIs:G2:=λx y μ=>match x,y with
 |.bl i,.bl j=>some (.bl (i==j),μ)
 |.non,.non=>some (.bl true,μ)
 |.bl _,.non=>some (.bl false,μ)
 |.int _,.non=>some (.bl false,μ)
 |.str _,.non=>some (.bl false,μ)
 |.tup _,.non=>some (.bl false,μ)
 |.loc _,.non=>some (.bl false,μ)
 |_,_=>none
@[simp] def zSi:G2:=λx y μ=>match x,y with
 |.bl i,.bl j=>some (.bl (i != j),μ)
 |.non,.non=>some (.bl false,μ)
 |.bl _,.non=>some (.bl true,μ)
 |.int _,.non=>some (.bl true,μ)
 |.str _,.non=>some (.bl true,μ)
 |.tup _,.non=>some (.bl true,μ)
 |.loc _,.non=>some (.bl true,μ)
 |_,_=>none
def zjw:OpM X (Yy .Is) gIs:=by
 refine OpM.of λpins s σ H x y v u Q I rx ry ρ dx dy μ d μ' r1 r2 R e k=>?_;unfold gIs at e
 split at e<;>cases e
 ·rw[r1.tN]at rx;rw[r2.tN]at ry;cases rx;cases ry;exact is_bool ⟨.bl _,H,I,rfl,k ρ H _ Ext.refl R .bl⟩
 ·exact zvl pins s σ H x y v u Q I rx ry ⟨r2.tJ,by rw[r1.tJ];exact k ρ H _ Ext.refl R .bl⟩
 ·exact zvl pins s σ H x y v u Q I rx ry ⟨r2.tJ,by rw[r1.tN];exact k ρ H _ Ext.refl R .bl⟩
 ·exact zvl pins s σ H x y v u Q I rx ry ⟨r2.tJ,by rw[r1.int_inv];exact k ρ H _ Ext.refl R .bl⟩
 ·exact zvl pins s σ H x y v u Q I rx ry ⟨r2.tJ,by rw[r1.str_inv];exact k ρ H _ Ext.refl R .bl⟩
 ·exact zvl pins s σ H x y v u Q I rx ry ⟨r2.tJ,by obtain⟨a,vs,rfl,_⟩:=r1.tR;exact k ρ H _ Ext.refl R .bl⟩
 ·exact zvl pins s σ H x y v u Q I rx ry ⟨r2.tJ,by obtain⟨a,rfl,_⟩:=r1.tz;exact k ρ H _ Ext.refl R .bl⟩
def zVh:OpM X (Yy .IsNot) zSi:=by
 refine OpM.of λpins s σ H x y v u Q I rx ry ρ dx dy μ d μ' r1 r2 R e k=>?_;unfold zSi at e
 split at e<;>cases e
 ·rw[r1.tN]at rx;rw[r2.tN]at ry;cases rx;cases ry;exact isnot_bool ⟨.bl _,H,I,rfl,k ρ H _ Ext.refl R .bl⟩
 ·exact zzi pins s σ H x y v u Q I rx ry ⟨r2.tJ,by rw[r1.tJ];exact k ρ H _ Ext.refl R .bl⟩
 ·exact zzi pins s σ H x y v u Q I rx ry ⟨r2.tJ,by rw[r1.tN];exact k ρ H _ Ext.refl R .bl⟩
 ·exact zzi pins s σ H x y v u Q I rx ry ⟨r2.tJ,by rw[r1.int_inv];exact k ρ H _ Ext.refl R .bl⟩
 ·exact zzi pins s σ H x y v u Q I rx ry ⟨r2.tJ,by rw[r1.str_inv];exact k ρ H _ Ext.refl R .bl⟩
 ·exact zzi pins s σ H x y v u Q I rx ry ⟨r2.tJ,by obtain⟨a,vs,rfl,_⟩:=r1.tR;exact k ρ H _ Ext.refl R .bl⟩
 ·exact zzi pins s σ H x y v u Q I rx ry ⟨r2.tJ,by obtain⟨a,rfl,_⟩:=r1.tz;exact k ρ H _ Ext.refl R .bl⟩
inductive Ty where
 |non|bl|int|str|tup|lst|dict
 deriving DecidableEq
@[simp] def Ty.name:Ty->String
 |.non=>"NoneType" | .bl=>"bool" | .int=>"int" | .str=>"str" | .tup=>"tuple" | .lst=>"list" | .dict=>"dict"
@[simp] def zPB:D->Bool
 |.bl _=>true
 |_=>false
@[simp] def blB:D->Bool
 |.bl b=>b
 |_=>false
@[simp] def z8y:GL:=λds μ=>match ds with
 |[.loc n]=>match μ[n]? with
  |some (.lst xs)=>bif xs.all zPB then some (.bl (xs.all blB),μ) else none
  |_=>none
 |_=>none
def zjo(hc:X.calm=true):Ti X (.builtin "all") z8y:=by
 refine Ti.of λpins s σ H xs us Q I r ρ ds μ d μ' r1 R e k=>?_;unfold z8y at e
 split at e
 ·split at e
  ·rename_i n _ ys hm
   obtain⟨hb,e⟩:=zY e;cases e;obtain⟨v,rr,rfl,q1,q2⟩:=r1.cons_inv;obtain⟨a,rfl,e2⟩:=q1.tz;obtain⟨vs,e3,q3⟩:=R.at_ _ _ _ e2 hm;rw[q2.nil_inv]at r;obtain⟨u,rfl,ru⟩:=vals1 r;cases ru;obtain⟨its,rv,pl,hz⟩:=I.list (SqL.of (K:=X.K) e3);have hlt:a<s.heap.objs.size:=by obtain⟨_,_,e,_⟩:=pl;exact ym e
   refine call_all_walk (xU pl.isList ?_);refine⟨_,_,_,_,_,_,λi=>blB (ys.getD i .non),rfl,Walks.list (A:=X.A.in1) (I.ok.hd hc) s.heap.objs.size a (yt hlt) its.toArray,⟨⟨_,yn _ rfl,rfl,rfl⟩,pl.isList.push _⟩,?_,λh' tk hk=>?_⟩
   ·intro i w s' Q' E' hP hQ;have hi:its[i]?=some w:=by simpa using hP
    have hil:i<ys.length:=by
     have h1:=(List.getElem?_eq_some_iff.mp hi).1;rw[q3.length,rv.length];exact h1
    have hyi:ys[i]?=some ys[i]:=by simp[hil]
    obtain⟨vv,ev,rvv⟩:=q3.get hyi;obtain⟨ww,ew,rww⟩:=rv.get ev;rw[hi]at ew;cases ew;have hall:=List.all_eq_true.mp hb ys[i] (getElem_mem hil)
    have hQ':Q' (blB ys[i]) s':=by
     have e:ys.getD i .non=ys[i]:=by rw[getD_eq_getElem?_getD,hyi];rfl
     rw[<-e];exact hQ
    cases hyb:ys[i] with
    |bl b=>
     rw[hyb]at rvv hQ';rw[rvv.tN]at rww;cases rww;exact xv hQ'
    |_=>rw[hyb]at hall;cases hall
   ·have hsz:its.toArray.size=ys.length:=by rw[q3.length,rv.length];simp
    have eall:((yv its.toArray.size).all λi=>blB (ys.getD i .non))=ys.all blB:=by
     rw[hsz,Bool.eq_iff_iff,List.all_eq_true,List.all_eq_true];constructor
     ·intro h y hy;obtain⟨i,hi,rfl⟩:=List.mem_iff_getElem.mp hy;have:=h i (by simpa using hi);rw[getD_eq_getElem?_getD,show ys[i]?=some ys[i] by simp[hi]]at this;exact this
     ·intro h i hi;have hi':i<ys.length:=by simpa using hi
      rw[getD_eq_getElem?_getD,show ys[i]?=some ys[i] by simp[hi']];exact h ys[i] (getElem_mem hi')
    rw[eall];have I1:Inv X pins σ H {s with heap:=s.heap.push {cls:=.type "list_iterator",data:=.fields #[.ref a,.int 0 0]}}:=I.kept (t':=s.toks) λb o e=>yc _ e;have hfr:=I1.hok;refine⟨.bl _,H,I.kept (h':=h') (t':=tk) λb o e=>hk b o (by simpa using yt (ym e)) (yc _ e),rfl,k ρ H _ Ext.refl R .bl⟩
  ·cases e
 ·cases e
def zJu{scope:Xv}{elt tg iter:yF}{ifs:List yF}{spos py:xC}{y:yy}{fi:FI}{g:FG}{ct:FT}(i:Nat)(own:List yy)(fr:List Nat)(hi:MI X tg iter fi)
 (hg:∀cl C s₀ H₀ fp,MGc (cxC X own fr scope cl C s₀ H₀ fp) own.length tg g) (hq:∀cl C s₀ H₀ fp,MF (cxC X own fr scope cl C s₀ H₀ fp) ifs ct) (he:∀cl C s₀ H₀ fp,ME (cxC X own fr scope cl C s₀ H₀ fp) elt φ)
 (hfr:∀i∈fr,∃x,X.N[i]?=some x/\scope.names.lookup x=some .free)
 (hN:X.N.Nodup:=by first|assumption|decide) (hiN:X.N[i]?=some y:=by rfl) (hy:X.env.scope.names.lookup y=some .local:=by rfl)
 (hsw:Xl (.ListComp elt [⟨tg,iter,ifs,0⟩] scope pos) (some (.Name y py)) spos.line X.env=pure true:=by rfl)
 (hc:X.calm=true:=by rfl) (hk:scope.kind=.function:=by rfl) (hnm:∀y∈scope.names,scope.names.lookup y.1=some y.2:=by decide)
 (hfree:∀x∈scope.names,x.2=.free->(X.env.kindOf x.1=some .cell\/X.env.kindOf x.1=some .free):=by decide)
 (hs:∀x,xa iter X.env x=pure x:=by intro _;rfl):MS X (.Assign [.Name y py] (.ListComp elt [⟨tg,iter,ifs,0⟩] scope pos) spos) (zyc i (fLC own.length fr fi g ct φ)) :=
 zkk (zkv (wi:=tMI X.K fi) (g:=tGc X.K own.length g) (tc:=tMT X.K ct) (te:=tM X.K φ) own fr hN hiN hy hc hi hsw (λcl C s₀ H₀ fp=>hg cl C s₀ H₀ fp) (λcl C s₀ H₀ fp=>hq cl C s₀ H₀ fp) (λcl C s₀ H₀ fp=>he cl C s₀ H₀ fp) hk hnm hfree hfr hs) λρ δ μ σ H o E A e k=>by
  obtain⟨⟨x,μ1⟩,e1,e⟩:=zn e;cases e;exact zqB A e1 λρ' H' v x' R r=>k ρ' _ H' x' ((A.ext x' R).set r i)
end
@[simp] def z0b:Option Out->Option (D×Mem)
 |some (.ret d μ)=>some (d,μ)
 |some (.next _ μ)=>some (.non,μ)
 |_=>none
@[simp] def zU(N:List yy)(ds:List D):Loc:=ds.map some++yD (N.length-ds.length) none
def zlq{K:yw}{ρ:List yd}{H:Hp}{μ:Mem}{N:List yy}{ds:List D}{vs:List V}(r:tj K ρ H ds vs)(R:tI K ρ H μ):At K ρ H (L2.start N vs) (zU N ds) μ:=by
 refine⟨λi d e=>?_,R,by unfold L2.start zU;simp[r.length]⟩;unfold zU at e;unfold L2.start
 by_cases hi:i<ds.length
 ·rw[yq (by simpa using hi),yh]at e
  cases e1:ds[i]? with
  |none=>rw[e1]at e;cases e
  |some d'=>
   rw[e1]at e;cases e;obtain⟨v,e2,q⟩:=r.get e1;refine⟨v,?_,q⟩;rw[yq (by simpa[<-r.length] using hi),yh,e2];rfl
 ·rw[yJ (by simpa using hi),YW]at e
  split at e<;>cases e
def fnM{P:yB}{w:yL}{K:yw}{mg:yy->Option yb}{base:yV}{x qual:yy}{st:Yi}{f:yd}{fd:yi}{N ps:List yy}{k n:Nat}{F:FF}(G:Fun K x qual st f fd)(S:tu N ps (zB st))(hn:ps.length=n)
 (hbody:∀(cdv:yb)(A:yR)(outer:List Env)(s:ye)(H:Hp)(E:XK),tS k (A.deeper (envOfC qual (zB st) s.heap.objs.size f cdv)) ->
  ∃p,MSs (zms CX0 P w K mg base N qual (zB st) f cdv A outer s H E).nox (zNc st) p/\∀ds μ d μ',ds.length=n->F ds μ=some (d,μ')->z0b (p (zU N ds) μ)=some (d,μ')) :
 tq P w K mg base CX0 (k+1) f fd ps (spM K n F):=by
 refine G.ok S (λvs H Q E h=>by rw[hn];exact h.1) (λcdv A outer s H vs Q E hr h=>?_);obtain⟨p,hp,hF⟩:=hbody cdv A outer s H E hr;refine⟨_,hp,?_⟩;obtain⟨hl,ρ,ds,μ,d,μ',r,R,e,k⟩:=h;have e':=hF ds μ d μ' (by rw[r.length];exact hl) e
 cases eo:p (zU N ds) μ with
 |none=>rw[eo]at e';cases e'
 |some o=>
  rw[eo]at e';refine⟨ρ,zU N ds,μ,o,zlq r R,eo,?_⟩
  cases o with
  |ret d2 μ2=>cases e';exact λρ' v H' x' R' r'=>k ρ' H' v x' R' r'
  |next δ2 μ2=>cases e';exact λρ' σ' H' x' A'=>k ρ' H' .non x' A'.hp .non
  |brk _ _=>cases e'
  |cont _ _=>cases e'
  |exc _ _ _=>cases e'
def zkw(sc inner:Xv):Bool:=(inner.kind == .function)&&inner.names.all (λy=>inner.names.lookup y.1==some y.2) &&
 inner.names.all λx=>x.2 != .free||sc.names.lookup x.1==some .cell||sc.names.lookup x.1==some .free
def zwn{sc inner:Xv}(h:zkw sc inner=true):inner.kind=.function:=by
 unfold zkw at h;simp only[yO,beq_iff_eq]at h;exact h.1.1
def zUs{sc inner:Xv}(h:zkw sc inner=true):∀y∈inner.names,inner.names.lookup y.1=some y.2:=by
 unfold zkw at h;simp only[yO]at h;intro y hy;exact beq_iff_eq.mp (List.all_eq_true.mp h.1.2 y hy)
def zPo{sc inner:Xv}(h:zkw sc inner=true):∀x∈inner.names,x.2=.free->(sc.names.lookup x.1=some .cell\/sc.names.lookup x.1=some .free):=by
 unfold zkw at h;simp only[yO]at h;intro y hy e;have:=List.all_eq_true.mp h.2 y hy;simpa[e] using this
def zib{N:List yy}(h:decide N.Nodup=true):N.Nodup:=of_decide_eq_true h
def zJd{P:Nat->Prop}:∀i∈([]:List Nat),P i:=λi h=>nomatch h
def zDb{P:Nat->Prop}{i:Nat}{l:List Nat}(h:P i)(r:∀j∈l,P j):∀j∈i::l,P j:=λj hj=>by
 rcases List.mem_cons.mp hj with rfl|hj
 ·exact h
 ·exact r j hj
section
variable {X:Cx}{a b c e:yF}{es:List yF}{φ ψ χ:FE}{pos:xC}
def mlc{scope:Xv}{elt tg iter:yF}{ifs:List yF}{i:FI}{g:FG}{ct:FT}(own:List yy)(fr:List Nat)(hi:MI X tg iter i)
 (hg:∀cl C s₀ H₀ fp,MGc (cxC X own fr scope cl C s₀ H₀ fp) own.length tg g) (hq:∀cl C s₀ H₀ fp,MF (cxC X own fr scope cl C s₀ H₀ fp) ifs ct) (he:∀cl C s₀ H₀ fp,ME (cxC X own fr scope cl C s₀ H₀ fp) elt φ)
 (hfr:∀i∈fr,∃x,X.N[i]?=some x/\scope.names.lookup x=some .free) (hok:zkw X.env.scope scope=true:=by rfl) (hc:X.calm=true:=by rfl) (hs:∀x,xa iter X.env x=pure x:=by intro _;rfl) :
 ME X (.ListComp elt [⟨tg,iter,ifs,0⟩] scope pos) (fLC own.length fr i g ct φ) :=
 zMA own fr hi hg hq he hc (zwn hok) (zUs hok) (zPo hok) hfr hs
def mslc{scope:Xv}{elt tg iter:yF}{ifs:List yF}{spos py:xC}{y:yy}{fi:FI}{g:FG}{ct:FT}(i:Nat)(own:List yy)(fr:List Nat)(hi:MI X tg iter fi)
 (hg:∀cl C s₀ H₀ fp,MGc (cxC X own fr scope cl C s₀ H₀ fp) own.length tg g) (hq:∀cl C s₀ H₀ fp,MF (cxC X own fr scope cl C s₀ H₀ fp) ifs ct) (he:∀cl C s₀ H₀ fp,ME (cxC X own fr scope cl C s₀ H₀ fp) elt φ)
 (hfr:∀i∈fr,∃x,X.N[i]?=some x/\scope.names.lookup x=some .free) (hN:X.N.Nodup) (hiN:X.N[i]?=some y:=by rfl) (hy:X.env.scope.names.lookup y=some .local:=by rfl)
 (hsw:Xl (.ListComp elt [⟨tg,iter,ifs,0⟩] scope pos) (some (.Name y py)) spos.line X.env=pure true:=by rfl) (hok:zkw X.env.scope scope=true:=by rfl) (hc:X.calm=true:=by rfl) (hs:∀x,xa iter X.env x=pure x:=by intro _;rfl) :
 MS X (.Assign [.Name y py] (.ListComp elt [⟨tg,iter,ifs,0⟩] scope pos) spos) (zyc i (fLC own.length fr fi g ct φ)) :=
 zJu i own fr hi hg hq he hfr hN hiN hy hsw hc (zwn hok) (zUs hok) (zPo hok) hs
structure FnAt(K:yw)(mg:yy->Option yb)(x:yy)(st:Yi)(ps:List yy)(f:yd)(fd:yi):Prop where
 fn:Fun K x x st f fd
 at_:mg x=some (.ref f)
 bd:Binds K fd ps []
def tD{k j n:Nat}{st:Yi}{f:yd}{fd:yi}{ps:List yy}{F:FF}{x:yy}{p:xC}{φ:FA}(B:FnAt X.K X.mg x st ps f fd)(G:tq X.prog X.w X.K X.mg X.base CX0 j f fd ps (spM X.K n F))(hr:tS k X.A)
 (ha:MAn X (e::es) φ) (hj:j<=k:=by decide) (hn:(e::es).length=n:=by rfl) (hg:Gl X x:=by rfl) (hdb:(x==("__debug__":yy))=false:=by decide) (he:yj (e::es) X.env=(false,Yh e X.env)::yj es X.env:=by exact z6c rfl) (hpl:(Yo pos (yj es X.env)).any (·.1)=false:=by rfl) :
 ME X (.Call (.Name x p) (e::es) [] pos) (zH F φ):=zYw G (hr.mono hj) B.at_ B.fn.kp B.bd ha hn hg hdb he hpl
end
section
variable {X:Cx}{a b c e:yF}{es:List yF}{φ ψ χ:FE}{pos:xC}
def cat0{prog:yB}{w:yL}{A:yR}{E:yb->ye->Prop}{s:ye}{t b:yd}{vs ws:List yb}{Q:yb->ye->Prop}(ht:IsTup s.heap t vs.toArray)(hb:IsTup s.heap b ws.toArray)(hv:vs=[])(h:Q (.ref b) s) :
 yo (yx prog w) A (xG .Add (.ref t) (.ref b)) Q E s:=by
 obtain⟨⟨cls,dd,data,sl⟩,ho,hc,n,hd⟩:=id ht;obtain⟨⟨cls2,dd2,data2,sl2⟩,ho2,hc2,n2,hd2⟩:=id hb;simp only at hc hd hc2 hd2;subst hc hd hc2 hd2;refine concat_meets ⟨_,ho,rfl⟩ ⟨_,ho2,rfl⟩ noFill_tuple_add seq_tuple_add PySem.F.slot_tuple_add PySem.F.entry_tuple_add (PySem.F.args_tuple_add_2 _ _) (tuple_addW0 t b vs.toArray ws.toArray n n2 dd dd2 sl sl2 (by rw[hv];rfl)) ⟨ho,ho2,h⟩
def zfb:OpM X (xG .Add) z9e:=by
 refine OpM.of λpins s σ H x y v u Q I rx ry ρ dx dy μ d μ' r1 r2 R e k=>?_;unfold z9e at e
 split at e
 ·cases e;rw[r1.int_inv]at rx;rw[r2.int_inv]at ry;obtain⟨t,rfl⟩:=rx;obtain⟨t',rfl⟩:=ry;exact add_int ⟨.int _,H,I.tok _,⟨_,rfl⟩,k ρ H _ Ext.refl R .int⟩
 ·rename_i as bs
  obtain⟨h1,e⟩:=zY e;have h1:=of_decide_eq_true h1;cases e;obtain⟨a1,vs,rfl,e1,q1⟩:=r1.tR;obtain⟨a2,ws,rfl,e2,q2⟩:=r2.tR;have hm:=Ts;have hl1:=q1.length;have hl2:=q2.length
  by_cases hv:vs=[]
  ·cases rx;cases ry;obtain⟨its,rv,p1,_⟩:=I.tuple (SqT.of (K:=X.K) e1);obtain⟨its2,rv2,p2,_⟩:=I.tuple (SqT.of (K:=X.K) e2);refine cat0 p1 p2 (rv.sJ.mpr hv) ⟨.ref a2,H,I,rfl,k ρ H _ Ext.refl R ?_⟩;have ha:as=[]:=by rw[hv]at hl1;exact List.length_eq_zero_iff.mp hl1
   rw[ha,List.nil_append];exact r2
  ·refine zCx pins s σ H _ _ v u Q I rx ry ⟨a1,a2,vs,ws,rfl,rfl,SqT.of e1,SqT.of e2,hv,by omega,λhw=>?_,λ_ p hp=>?_⟩
   ·have hb:bs=[]:=by rw[hw]at hl2;exact List.length_eq_zero_iff.mp hl2
    rw[hb,append_nil]at k;exact k ρ H _ Ext.refl R r1
   ·exact k ρ _ _ (Ext.new hp) (R.Tp hp) (.tup zG ((q1.append q2).ext (Ext.new hp)))
 ·split at e
  ·rename_i hm1 hm2
   obtain⟨h1,e⟩:=zY e;have h1:=of_decide_eq_true h1;cases e;obtain⟨a1,rfl,e1⟩:=r1.tz;obtain⟨a2,rfl,e2⟩:=r2.tz;obtain⟨vs,e3,q1⟩:=R.at_ _ _ _ e1 hm1;obtain⟨ws,e4,q2⟩:=R.at_ _ _ _ e2 hm2;have hm:=Ts;have hl1:=q1.length;have hl2:=q2.length;exact zxy pins s σ H _ _ v u Q I rx ry ⟨a1,a2,vs,ws,rfl,rfl,e3,e4,by omega,λp hp=>k _ _ _ (Ext.push hp) (R.push hp ⟨_,zG,(q1.append q2).ext (Ext.push hp)⟩) (.loc (zFb R))⟩
  ·cases e
 ·cases e
def z8k:fillsNumberSlot (.type "tuple") "mul"=pure false :=
 PyProof.Rows.fillsNumberSlot_seq (id:="tuple.__mul__") (r:=some (.builtin "tuple.__rmul__")) PySem.F.slot_tuple_mul.lookup (by decide +kernel) PySem.F.slot_tuple_rmul.lookup (by decide +kernel)
def zor:seqRepeat? (.type "tuple")=pure (some (.builtin "tuple.__mul__")):=by
 unfold seqRepeat?;rw[PyProof.Rows.seqSlot_of (T:="tuple") (name:="__mul__") (id:="tuple.__mul__") PySem.F.slot_tuple_mul.lookup (by decide +kernel),PyProof.Rows.seqSlot_of (T:="tuple") (name:="__rmul__") (id:="tuple.__rmul__") PySem.F.slot_tuple_rmul.lookup (by decide +kernel)];rfl
def zBi(i:Int)(t:Tok)(l:yd)(items:Array yb)(n:Nat)(dd:Option yd)(sl:Array (Option yb)) :
 Meets (xw.«int.__rmul__» ⟨[.int i t,.ref l],[]⟩) (λ_ R s=>s.heap.get? l=some {cls:=.type "tuple",dict:=dd,data:=.seq items n,slots:=sl }/\R (.ok (.ret Value.notImplemented)) s) :=
 .of_wp λprog w A R s h=>by
  obtain⟨hp,g,d,tk,os⟩:=s;obtain⟨hl,h⟩:=h
  wp_walk
  exact⟨_,rfl,h⟩
def zhm(l:yd)(items:Array yb)(n:Nat)(dd:Option yd)(sl:Array (Option yb))(i:Int)(t:Tok)(h2:2<=i)(h3:i<=1000)(h4:items.isEmpty=false)(h5:items.size<=1000)
 (hsz:((yD i.toNat items).foldl (λx1 x2=>x1++x2) #[]).size<=yE) :
 Meets (xw.«tuple.__mul__» ⟨[.ref l,.int i t],[]⟩) (λ_ R s=>s.heap.get? l=some {cls:=.type "tuple",dict:=dd,data:=.seq items n,slots:=sl } /\
  R (.ok (.ret (yM s.heap.objs.size))) {s with heap:=s.heap.push {cls:=YK "tuple",data:=Data.seq ((yD i.toNat items).foldl (λx1 x2=>x1++x2) #[])},toks:=s.toks }) :=
 .of_wp λprog w A R s h=>by
  obtain⟨hp,g,d,tk,os⟩:=s;obtain⟨hl,h⟩:=h;have f1:=AutoSeq1.idx_int
  have c1:¬((decide (i < -(2^63))||decide (i≥2^63))=true):=by
   rw[decide_eq_false (by omega),decide_eq_false (by omega)];exact yC
  have c2:¬((items.isEmpty||i==1)=true):=by
   rw[h4,show(i==1)=false by simp;omega];exact yC
  have c3:¬((decide (i<=0)||items.isEmpty)=true):=by
   rw[h4,decide_eq_false (by omega)];exact yC
  have c4:¬((items.size:Int)*i>(2^63-1) / 8):=by
   have h6:(items.size:Int)*i<=1000*1000:=Int.mul_le_mul (by omega) h3 (by omega) (by omega);omega
  have c5:¬(Builtin.Tuple.tupleTooMany ((items.size:Int)*i)=true):=by
   have h6:(items.size:Int)*i<=1000*1000:=Int.mul_le_mul (by omega) h3 (by omega) (by omega);have hz:(yE:Int)=16777216:=by rw[YA];rfl
   unfold Builtin.Tuple.tupleTooMany;rw[decide_eq_false (by omega)];exact yC
  wp_walk using wpAny_loadPart' hl
  rw[if_neg c1]
  wp_walk using wpAny_loadPart' hl
  rw[if_neg c2];dsimp only;rw[if_neg c3,if_neg c4,if_neg c5];refine ya (m:=xo _) (Ye (yg ⟨_,rfl,h⟩) hsz)
def zml(its:List yb):∀(n:Nat)(acc:List yb),List.foldl (λx1 x2=>x1++x2) acc.toArray (yD n its.toArray)=(acc++(yD n its).flatten).toArray
 |0,acc=>by simp
 |n+1,acc=>by
  rw[replicate_succ,List.foldl_cons,List.append_toArray,zml its n,replicate_succ,flatten_cons,append_assoc]
def zsp{K:yw}{ρ:List yd}{H:Hp}{ds:List D}{vs:List V}(r:tj K ρ H ds vs):∀n:Nat,tj K ρ H (yD n ds).flatten (yD n vs).flatten
 |0 =>.nil
 |n+1=>by
  rw[replicate_succ,replicate_succ,flatten_cons,flatten_cons];exact r.append (zsp r n)
def zdn{vs:List V}{us:List yb}(r:Vals vs us):∀n:Nat,Vals (yD n vs).flatten (yD n us).flatten
 |0 =>.nil
 |n+1=>by
  rw[replicate_succ,replicate_succ,flatten_cons,flatten_cons];exact r.append (zdn r n)
def z7e:OpM X (xG .Mult) zqj:=by
 refine OpM.of λpins s σ H x y v u Q I rx ry ρ dx dy μ d μ' r1 r2 R e k=>?_;unfold zqj at e
 split at e
 ·obtain⟨h1,e⟩:=zY e;cases e;rw[r1.int_inv]at rx;rw[r2.int_inv]at ry;obtain⟨t,rfl⟩:=rx;obtain⟨t',rfl⟩:=ry;exact mul_int ⟨.int _,H,I.tok _,⟨_,rfl⟩,k ρ H _ Ext.refl R .int⟩ (zWv h1)
 ·rename_i ds i
  obtain⟨h1,e⟩:=zY e;have h1:=of_decide_eq_true h1;obtain⟨h2,h3,h4,h5⟩:=h1;cases e;obtain⟨a1,vs,rfl,e1,q1⟩:=r1.tR;rw[r2.int_inv]at ry;cases rx;obtain⟨t,rfl⟩:=ry;obtain⟨its,rv,⟨⟨cls,dd,data,sl⟩,ho,hc,n,hd⟩,hz⟩:=I.tuple (SqT.of (K:=X.K) e1);simp only at hc hd;subst hc hd;have hl:its.length=ds.length:=by rw[q1.length,rv.length]
  have hlen:((yD i.toNat vs).flatten).length<=yE:=by
   rw[zIs];have hm:=Ts;have h6:i.toNat*vs.length<=1000*1000:=Nat.mul_le_mul (by omega) (by rw[<-q1.length];exact h5);omega
  have e2:=zml its i.toNat [];rw[List.nil_append]at e2
  have hsz:((yD i.toNat its.toArray).foldl (λx1 x2=>x1++x2) #[]).size<=yE:=by
   rw[show(#[]:Array yb)=([]:List yb).toArray from rfl,e2,size_toArray,<-(zdn rv i.toNat).length];exact hlen
  refine wpAny_binaryOp_repeat_ref (T:="tuple") (U:="int") (by decide) ⟨_,ho,rfl⟩ (λs'=>typeIs_int s' i t) z8k PySem.F.fills_int_mul PySem.F.slot_int_rmul zor PySem.F.slot_int_index.lookup
   (call_meets PySem.F.slot_int_rmul (typeIs_int s i t) PySem.F.entry_int_rmul (PySem.F.args_int_rmul_2 _ _) (zBi i t a1 its.toArray n dd sl)
    ⟨ho,rfl,⟨_,ho,rfl⟩,call_meets PySem.F.slot_tuple_mul ⟨_,ho,rfl⟩ PySem.F.entry_tuple_mul (PySem.F.args_tuple_mul_2 _ _) (zhm a1 its.toArray n dd sl i t h2 h3 (by rw[List.isEmpty_toArray,List.isEmpty_eq_false_iff_exists_mem];exact⟨_,getElem_mem (by omega:0<its.length)⟩) (by rw[size_toArray,hl];exact h5) hsz) ⟨ho,?_⟩⟩)
  rw[show(#[]:Array yb)=([]:List yb).toArray from rfl,e2];have hf:=I.hok.fresh (yk s.heap.objs.size);refine⟨.ref s.heap.objs.size,_,I.laid (t':=s.toks) (o:=.tup (yD i.toNat vs).flatten) (λb ob q=>yc _ q) (yk _) ?_,rfl,k ρ _ _ (Ext.new hf) (R.Tp hf) (.tup zG ((zsp q1 i.toNat).ext (Ext.new hf)))⟩;exact⟨hlen,_,zdn rv i.toNat,IsTup.new _ _⟩
 ·rename_i l n
  split at e
  ·rename_i ds hm
   obtain⟨h1,e⟩:=zY e;have h1:=of_decide_eq_true h1;obtain⟨h2,h3,h4⟩:=h1;cases e;obtain⟨a1,rfl,ea⟩:=r1.tz;obtain⟨vs,e3,q3⟩:=R.at_ _ _ _ ea hm;refine zEy pins s σ H _ _ v u Q I rx ry ⟨a1,n,vs,rfl,r2.int_inv,e3,by omega,by omega,?_,λp hp=>k _ _ _ (Ext.push hp) (R.push hp ⟨_,zG,(zsp q3 n.toNat).ext (Ext.push hp)⟩) (.loc (zFb R))⟩;have hmi:=Ts;have h6:vs.length*n.toNat<=1000*1000:=Nat.mul_le_mul (by rw[<-q3.length];exact h4) (by omega);omega
  ·cases e
 ·cases e
abbrev FO:=Loc->Mem->Option (Option Int×Mem)
def tMO(K:yw)(φ:FO):TO:=λσ H Q=>∃ρ δ μ o μ',At K ρ H σ δ μ/\φ δ μ=some (o,μ')/\∀ρ' H',Ext ρ H ρ' H'->tI K ρ' H' μ'->Q o H'
def MO(X:Cx)(e:Option yF)(φ:FO):Prop:=PO X e (tMO X.K φ)
@[simp] def pNo:FO:=λ_ μ=>some (none,μ)
@[simp] def zRw(φ:FE):FO:=λδ μ=>(φ δ μ).bind λp=>match p.1 with
 |.int i=>some (some i,p.2)
 |_=>none
def cutD(xs:List D)(lo hi:Option Int):List D:=(xs.drop (HT.sIx xs.length 0 lo)).take (HT.sIx xs.length xs.length hi-HT.sIx xs.length 0 lo)
@[simp] def fSl(φ:FE)(lo hi:FO):FE:=λδ μ=>(φ δ μ).bind λp=>(lo δ p.2).bind λl=>(hi δ l.2).bind λh=>match p.1 with
 |.tup ds=>some (.tup (cutD ds l.1 h.1),h.2)
 |.loc n=>match h.2[n]? with
  |some (.lst ds)=>some (.loc h.2.length,h.2++[.lst (cutD ds l.1 h.1)])
  |_=>none
 |_=>none
end
def zGt{prog:yB}{w:yL}{A:yR}{E:yb->ye->Prop}{s:ye}{t sl:yd}{items:Array yb}{vl vu:yb}{lo hi:Option Int}{Q:yb->ye->Prop}(ht:IsTup s.heap t items)(hs:s.heap.IsSliceOf sl vl vu .none)(pl:IsPart vl lo)(pu:IsPart vu hi)
 (hw:HT.sIx items.size 0 lo=0/\HT.sIx items.size items.size hi=items.size) (h:Q (.ref t) s):yo (yx prog w) A (getItem (.ref t) (.ref sl)) Q E s:=by
 obtain⟨os,hos,hcs,hds⟩:=id hs;have hTs:s.TypeIs (.ref sl) "slice":=⟨os,hos,hcs⟩
 unfold getItem
 try with_reducible refine yY ?_
 first|refine ya (yg ?_)|skip
 refine ya (wpAny_sequenceKey ht.typeIs (by decide) ?_)
 refine ya (yZ (name:=YN "__getitem__") ht.typeIs xk
  (yW xk ht.typeIs entry_tuple_getitem ?_ (args_tuple_getitem _ _)))
 show yo _ _ (Builtin.Tuple.tupleItemsOf (.ref t) >>= _) _ _ s;refine ya (tupleItemsOf_ ht ?_);refine ya (XE hTs ?_);rw[if_pos (by decide)];refine ya (HT.TB hs pl pu ?_)
 have hyes:(((HT.sIx items.size 0 lo:Nat):Int)==0&&(1:Int)==1&&(HT.sIx items.size items.size hi-HT.sIx items.size 0 lo)==items.size)=true:=by
  rw[hw.1,hw.2];simp
 show yo _ _ (if(((HT.sIx items.size 0 lo:Nat):Int)==0&&(1:Int)==1&&(HT.sIx items.size items.size hi-HT.sIx items.size 0 lo)==items.size)=true then _ else _) _ _ s;rw[if_pos hyes];refine ya (m:=Builtin.Tuple.tupleIsExact _) ?_;unfold Builtin.Tuple.tupleIsExact;refine ya (XE ht.typeIs (yg ?_));rw[if_pos (by decide)];exact ya (wpAny_rule (yg ⟨_,rfl,yg h⟩))
section
variable {X:Cx}{a b c e:yF}{es:List yF}{φ ψ χ:FE}{pos p2:xC}{lo hi:Option yF}
def rSl(K:yw):V->Option Int->Option Int->Hp->VK->Prop:=λx lo hi H Q=>∃a xs,x=.ref a/\H a=some (.tup xs) /\
 ((HT.sIx xs.length 0 lo=0/\HT.sIx xs.length xs.length hi=xs.length)->Q (.ref a) H)/\∀p,H p=none->Q (.ref p) (upd H p (.tup (zkt xs lo hi)))
def zxz:SlR X (rSl X.K):=by
 intro pins s σ H x v vl vu lo hi sl Q I rx hs pl pu h;obtain⟨a,xs,rfl,hx,h1,h2⟩:=h
 by_cases hw:HT.sIx xs.length 0 lo=0/\HT.sIx xs.length xs.length hi=xs.length
 ·cases rx;obtain⟨its,r,ht,hz⟩:=I.tuple (SqT.of (K:=X.K) hx);have hlen:its.toArray.size=xs.length:=by rw[size_toArray];exact r.length.symm
  exact⟨"tuple",_,PyProof.Rows.slot_tuple_getitem.lookup,ht.typeIs,zGt ht hs pl pu (by rw[hlen];exact hw) ⟨.ref a,H,I,rfl,h1 hw⟩⟩
 ·exact zbz pins s σ H _ v vl vu lo hi sl Q I rx hs pl pu ⟨a,xs,rfl,SqT.of hx,hw,h2⟩
def zMt:MO X none pNo:=by intro pins s σ H Q I hh;obtain⟨ρ,δ,μ,o,μ',A,e,k⟩:=hh;exact z8w pins s σ H Q I (by cases e;exact k ρ H Ext.refl A.hp)
def zFo(h:ME X e φ):MO X (some e) (zRw φ):=by intro pins s σ H Q I hh;obtain⟨ρ,δ,μ,o,μ',A,e,k⟩:=hh;exact zzw h pins s σ H Q I (by
 obtain⟨⟨x,μ1⟩,e1,e⟩:=zn e;refine⟨ρ,δ,μ,x,μ1,A,e1,λρ1 H1 v x1 R1 r1=>?_⟩;dsimp only at e
 split at e
 ·cases e;exact⟨_,r1.int_inv,k ρ1 H1 x1 R1⟩
 ·cases e)
def zkp{K:yw}{ρ:List yd}{H:Hp}{ds:List D}{vs:List V}{lo hi:Option Int}(r:tj K ρ H ds vs):tj K ρ H (cutD ds lo hi) (zkt vs lo hi):=by
 unfold cutD zkt;rw[r.length];exact(r.drop _).take _
def z3t{l h:FO}(he:ME X e φ)(hl:MO X lo l)(hu:MO X hi h):ME X (.Subscript e (.Slice lo hi none p2) pos) (fSl φ l h) :=
 zjd (zsv (SlR.or zxz zfx) he hl hu) λρ δ μ σ H d μ' Q A e k=>by
  obtain⟨⟨x,μ1⟩,e1,e⟩:=zn e;obtain⟨⟨o1,μ2⟩,e2,e⟩:=zn e;obtain⟨⟨o2,μ3⟩,e3,e⟩:=zn e;refine⟨ρ,δ,μ,x,μ1,A,e1,λρ1 H1 v x1 R1 r1=>?_⟩;refine⟨ρ1,δ,μ1,o1,μ2,A.ext x1 R1,e2,λρ2 H2 x2 R2=>?_⟩;refine⟨ρ2,δ,μ2,o2,μ3,A.ext (x1.trans x2) R2,e3,λρ3 H3 x3 R3=>?_⟩;dsimp only at e
  split at e
  ·cases e;obtain⟨a,vs,rfl,ea,q⟩:=(r1.ext (x2.trans x3)).tR;have xx:=x1.trans (x2.trans x3);refine .inl ⟨a,vs,rfl,ea,λhw=>k ρ3 H3 _ xx R3 (.tup ea ?_),λp hp=>k ρ3 _ _ (xx.trans (Ext.new hp)) (R3.Tp hp) (.tup zG ((zkp q).ext (Ext.new hp)))⟩
   have e4:zkt vs o1 o2=vs:=by
    unfold zkt;rw[hw.1,hw.2,Nat.sub_zero,List.drop_zero,take_length]
   have:=zkp (lo:=o1) (hi:=o2) q;rw[e4]at this;exact this
  ·split at e
   ·rename_i hm
    cases e;obtain⟨a,rfl,ea⟩:=(r1.ext (x2.trans x3)).tz;obtain⟨vs,ev,q⟩:=R3.at_ _ _ _ ea hm;have xx:=x1.trans (x2.trans x3);exact .inr ⟨a,vs,rfl,SqL.of ev,λp hp=>k _ _ _ (xx.trans (Ext.push hp)) (R3.push hp ⟨_,zG,(zkp q).ext (Ext.push hp)⟩) (.loc (zFb R3))⟩
   ·cases e
  ·cases e
@[simp] def zNB(φ:FE):FE:=λδ μ=>(φ δ μ).bind λp=>match p.1 with
 |.int i=>some (.int (-i),p.2)
 |_=>none
def big{pins:List (yd×YY)}{σ:L2.St}{H:Hp}{s:ye}(I:Inv X pins σ H s):sysModules<s.heap.objs.size:=by
 have h:yp<s.heap.objs.size:=(I.mod.glob.keeps I.bk).lt;exact Nat.lt_trans (by decide) h
@[simp] def zcA:FE:=λ_ μ=>some (.loc μ.length,μ++[.dct []])
def zpw:ME X (.Dict [] [] pos) zcA:=by
 intro pins s σ H Q I hh;obtain⟨ρ,δ,μ,d,μ',A,e,k⟩:=hh;cases e;have hf:=I.hok.fresh (yk s.heap.objs.size);refine wpAny_Dict_empty ⟨.ref s.heap.objs.size,_,I.laid (a:=s.heap.objs.size) (o:=.dK []) (t':=s.toks) (λ_ _ q=>yc _ q) (yk _) ?_,rfl,k _ _ _ (Ext.push hf) (A.hp.push hf ⟨[],zG,rfl,.nil⟩) (.loc (zFb A.hp))⟩;exact⟨YB _,beq_eq_false_iff_ne.mpr (yH (yt (big I))),[],.nil,Heap.DictOf.new _⟩
def zdd:D->Bool
 |.non | .bl _ | .int _ | .str _=>true
 |_=>false
def eqF:D->D->Bool
 |.non,.non=>true
 |.bl a,.bl b=>a==b
 |.bl a,.int b=>(if a then 1 else 0)==b
 |.int a,.bl b=>a==(if b then 1 else 0)
 |.int a,.int b=>a==b
 |.str a,.str b=>a==b
 |_,_=>false
def gIn:G2:=λx y μ=>(items μ y).bind λds=>bif zdd x&&ds.all zdd then some (.bl (ds.any λd=>eqF d x),μ) else none
def zek:G2:=λx y μ=>(items μ y).bind λds=>bif zdd x&&ds.all zdd then some (.bl (!ds.any λd=>eqF d x),μ) else none
def zdj{K:yw}{ρ:List yd}{H:Hp}{d:D}{v:V}(r:tx K ρ H d v)(f:zdd d=true):zxk v=true:=by
 cases d with
 |non=>rw[r.tJ];rfl
 |bl b=>rw[r.tN];rfl
 |int b=>rw[r.int_inv];rfl
 |str b=>rw[r.str_inv];rfl
 |_=>cases f
def zRs{K:yw}{ρ:List yd}{H:Hp}{d d':D}{v v':V}(r:tx K ρ H d v)(r':tx K ρ H d' v')(f:zdd d=true)(f':zdd d'=true):eqV v v'=eqF d d':=by
 cases d with
 |non=>rw[r.tJ];cases d' with
  |non=>rw[r'.tJ];rfl
  |bl b=>rw[r'.tN];rfl
  |int b=>rw[r'.int_inv];rfl
  |str b=>rw[r'.str_inv];rfl
  |_=>cases f'
 |bl b=>rw[r.tN];cases d' with
  |non=>rw[r'.tJ];rfl
  |bl b=>rw[r'.tN];rfl
  |int b=>rw[r'.int_inv];rfl
  |str b=>rw[r'.str_inv];rfl
  |_=>cases f'
 |int b=>rw[r.int_inv];cases d' with
  |non=>rw[r'.tJ];rfl
  |bl b=>rw[r'.tN];rfl
  |int b=>rw[r'.int_inv];rfl
  |str b=>rw[r'.str_inv];rfl
  |_=>cases f'
 |str b=>rw[r.str_inv];cases d' with
  |non=>rw[r'.tJ];rfl
  |bl b=>rw[r'.tN];rfl
  |int b=>rw[r'.int_inv];rfl
  |str b=>rw[r'.str_inv];rfl
  |_=>cases f'
 |_=>cases f
def zIq{K:yw}{ρ:List yd}{H:Hp}{x:D}{v:V}(rx:tx K ρ H x v)(fx:zdd x=true):∀{ds:List D} {vs:List V},tj K ρ H ds vs->ds.all zdd=true->vs.all zxk=true/\inV v vs=ds.any λd=>eqF d x
 |[],_,r,_=>by rw[r.nil_inv];exact⟨rfl,rfl⟩
 |d::ds,_,r,f=>by
  obtain⟨w,ws,rfl,r1,r2⟩:=r.cons_inv;rw[all_cons,yO]at f;obtain⟨h1,h2⟩:=zIq rx fx r2 f.2;refine⟨by rw[all_cons,zdj r1 f.1,h1];rfl,?_⟩;unfold inV at h2 ⊢;rw[any_cons,any_cons,h2,zRs r1 rx f.1 fx]
def zat:OpM X (Yy .In) gIn:=by
 refine OpM.of λpins s σ H x y v u Q I rx ry ρ dx dy μ d μ' r1 r2 R e k=>?_;obtain⟨ds,e1,e⟩:=zn e;obtain⟨h1,e⟩:=zY e;rw[yO]at h1;cases e;obtain⟨p,vs,rfl,hq,rr⟩:=zkg R r2 e1;obtain⟨h3,h4⟩:=zIq r1 h1.1 rr h1.2;exact z4t pins s σ H x _ v u Q I rx ry ⟨p,vs,rfl,hq,zdj r1 h1.1,h3,by rw[if_neg yC,h4];exact k ρ H _ Ext.refl R .bl⟩
def zOj:OpM X (Yy .NotIn) zek:=by
 refine OpM.of λpins s σ H x y v u Q I rx ry ρ dx dy μ d μ' r1 r2 R e k=>?_;obtain⟨ds,e1,e⟩:=zn e;obtain⟨h1,e⟩:=zY e;rw[yO]at h1;cases e;obtain⟨p,vs,rfl,hq,rr⟩:=zkg R r2 e1;obtain⟨h3,h4⟩:=zIq r1 h1.1 rr h1.2;exact zko pins s σ H x _ v u Q I rx ry ⟨p,vs,rfl,hq,zdj r1 h1.1,h3,by rw[if_pos rfl,h4];exact k ρ H _ Ext.refl R .bl⟩
abbrev GM:=D->List D->Mem->Option (D×Mem)
@[simp] def zFi(g:GM)(φ:FE)(ψ:FA):FE:=λδ μ=>(φ δ μ).bind λp=>match p.1 with
 |.loc n=>match p.2[n]? with
  |some (.lst _)=>(ψ δ p.2).bind λq=>g (.loc n) q.1 q.2
  |_=>none
 |_=>none
@[simp] def zkh:GM:=λx ds μ=>match x,ds with
 |.loc n,[d]=>match μ[n]? with
  |some (.lst xs)=>bif decide (xs.length<=1000000) then some (.non,μ.set n (.lst (xs++[d]))) else none
  |_=>none
 |_,_=>none
def MtG(X:Cx)(id:String)(g:GM):Prop:=MtR X id λx xs H Q=>∃ρ dx ds μ d μ',tx X.K ρ H dx x/\tj X.K ρ H ds xs/\tI X.K ρ H μ/\g dx ds μ=some (d,μ')/\∀ρ' H' v,Ext ρ H ρ' H'->tI X.K ρ' H' μ'->tx X.K ρ' H' d v->Q v H'
def MtG.of{X:Cx}{id:String}{g:GM}(h:∀(pins:List (yd×YY)) (s:ye) (σ:L2.St) (H:Hp) (x:V) (xs:List V) (v:yb) (us:List yb) (Q:VK),Inv X pins σ H s->RelV x v->Vals xs us->∀(ρ:List yd)(dx:D)(ds:List D)(μ:Mem)(d:D)(μ':Mem),tx X.K ρ H dx x->tj X.K ρ H ds xs->tI X.K ρ H μ->g dx ds μ=some (d,μ')->(∀ρ' H' v,Ext ρ H ρ' H'->tI X.K ρ' H' μ'->tx X.K ρ' H' d v->Q v H')->yo (yx X.prog X.w) X.A (call (.builtin id) (v::us)) (EP X pins σ Q) X.xe s):MtG X id g:=by
 intro pins s σ H x xs v us Q I rx rs hh;obtain⟨ρ,dx,ds,μ,d,μ',r1,r2,R,e,k⟩:=hh;exact h pins s σ H x xs v us Q I rx rs ρ dx ds μ d μ' r1 r2 R e k
def zmn{o:yF}{ψ:FA}{name:yy}{id:String}{g:GM}{apos:xC}(slot:Slot "list" name id)(hty:typeOf (.builtin id)=pure (.type "method_descriptor"))(hm:MtG X id g)(ho:ME X o φ)(ha:MAn X (e::es) ψ)
 (hbase:YL o name X.env (Yh o X.env)=Yh o X.env:=by rfl)
 (hfew:((Yo pos (yj (e::es) X.env)).all (λx=>!x.1)&&(xV pos (YS [] X.env)).all (λx=>x.1.isSome)
  && decide ((e::es).length+([]:List xN).length+(if([]:List xN).isEmpty then 0 else 1)<30))=true:=by rfl)
 (hline:(apos.endLine==pos.line)=true:=by rfl) (hs:yj (e::es) X.env=(false,Yh e X.env)::yj es X.env:=by rfl) (hplain:(Yo pos (yj es X.env)).any (·.1)=false:=by rfl) :
 ME X (.Call (.Attribute o name apos) (e::es) [] pos) (zFi g φ ψ) :=
 zjd (zwz PySem.F.plainAttrs_list slot hty hm ho ha.ma hbase hfew hline hs hplain) λρ δ μ σ H d μ' Q A e k=>by
  obtain⟨⟨x,μ1⟩,e1,e⟩:=zn e;refine⟨ρ,δ,μ,x,μ1,A,e1,λρ1 H1 v x1 R1 r1=>?_⟩;dsimp only at e
  split at e
  ·split at e
   ·rename_i hm'
    obtain⟨⟨ds,μ2⟩,e2,e⟩:=zn e;obtain⟨a,rfl,ea⟩:=r1.tz;obtain⟨vs,e3,q3⟩:=R1.at_ _ _ _ ea hm';refine⟨.inl ⟨rfl,vs,SqL.of e3⟩,ρ1,δ,μ1,ds,μ2,A.ext x1 R1,e2,λρ2 H2 vs2 x2 R2 r2=>?_⟩;exact⟨ρ2,_,ds,μ2,d,μ',r1.ext x2,r2,R2,e,λρ3 H3 v3 x3 R3 r3=>k ρ3 H3 v3 (x1.trans (x2.trans x3)) R3 r3⟩
   ·cases e
  ·cases e
def zdr:MtG X "list.append" zkh:=by
 refine MtG.of λpins s σ H x xs v us Q I rx rs ρ dx ds μ d μ' r1 r2 R e k=>?_;unfold zkh at e
 split at e
 ·split at e
  ·rename_i hm
   obtain⟨h1,e⟩:=zY e;have h1:=of_decide_eq_true h1;cases e;obtain⟨a,rfl,ea⟩:=r1.tz;obtain⟨vs,e3,q3⟩:=R.at_ _ _ _ ea hm;obtain⟨w,r,rfl,q1,q2⟩:=r2.cons_inv;rw[q2.nil_inv]at rs;have hl:=q3.length;have hmi:=Ts;have hmu:Mut (H a):=by rw[e3];trivial
   refine zvt pins s σ H _ _ v us Q I rx rs ⟨a,vs,w,rfl,rfl,e3,by omega,?_⟩;exact k ρ _ _ (Ext.wr hmu) (R.wr hmu ea ⟨_,zG,tj.ext (Ext.wr hmu) (q3.append (.cons q1 .nil))⟩) .non
  ·cases e
 ·cases e
def zTj{o:yF}{ψ:FA}{apos:xC}(ho:ME X o φ)(ha:MAn X (e::es) ψ)
 (hbase:YL o "append" X.env (Yh o X.env)=Yh o X.env:=by rfl)
 (hfew:((Yo pos (yj (e::es) X.env)).all (λx=>!x.1)&&(xV pos (YS [] X.env)).all (λx=>x.1.isSome)
  && decide ((e::es).length+([]:List xN).length+(if([]:List xN).isEmpty then 0 else 1)<30))=true:=by rfl)
 (hline:(apos.endLine==pos.line)=true:=by rfl) (hs:yj (e::es) X.env=(false,Yh e X.env)::yj es X.env:=by rfl) (hplain:(Yo pos (yj es X.env)).any (·.1)=false:=by rfl) :
 ME X (.Call (.Attribute o "append" apos) (e::es) [] pos) (zFi zkh φ ψ):=zmn PySem.F.slot_list_append PySem.F.type_list_append zdr ho ha hbase hfew hline hs hplain
end
end M
namespace M
open PySem
def RS(xs:Array Nat):Prop:=xs.toList.Pairwise (· < ·)
def zfm(xs:Array Nat)(j:Nat)(h:RS xs):∀(fuel lo hi:Nat),lo<=hi->hi<=xs.size->hi-lo<=fuel->(∀i (hi':i<xs.size),i<lo->xs[i]<j)->(∀i (hi':i<xs.size),hi<=i->j<=xs[i]) ->
 Xz xs j fuel lo hi<=xs.size/\(∀i (hi':i<xs.size),i<Xz xs j fuel lo hi->xs[i]<j)/\∀i (hi':i<xs.size),Xz xs j fuel lo hi<=i->j<=xs[i]
 |0,lo,hi,h1,h2,h3,h4,h5=>by
  have:lo=hi:=by omega
  subst this;unfold Xz;exact⟨h2,h4,h5⟩
 |fuel+1,lo,hi,h1,h2,h3,h4,h5=>by
  have hp:∀i k (hi:i<xs.size) (hk:k<xs.size),i<k->xs[i]<xs[k]:=λi k hi hk hik=>by
   have:=List.pairwise_iff_getElem.mp h i k (by simpa using hi) (by simpa using hk) hik;simpa using this
  unfold Xz
  by_cases hlt:lo<hi
  ·rw[if_pos hlt];dsimp only;have hm:(lo+hi) / 2<xs.size:=by omega
   have hg:xs.getD ((lo+hi) / 2) j=xs[(lo+hi) / 2]:=by simp[Array.getD,hm]
   rw[hg]
   by_cases hc:xs[(lo+hi) / 2]<j
   ·rw[if_pos hc];refine zfm xs j h fuel _ hi (by omega) h2 (by omega) (λi hi' hil=>?_) h5
    by_cases e:i=(lo+hi) / 2
    ·subst e;exact hc
    ·exact Nat.lt_trans (hp i _ hi' hm (by omega)) hc
   ·rw[if_neg hc];refine zfm xs j h fuel lo _ (by omega) (by omega) (by omega) h4 (λi hi' hil=>?_)
    by_cases e:i=(lo+hi) / 2
    ·subst e;omega
    ·exact yG (by omega) (YI (hp _ i hm hi' (by omega)))
  ·rw[if_neg hlt];have:lo=hi:=by omega
   subst this;exact⟨h2,h4,h5⟩
def zVl(xs:Array Nat)(j:Nat)(h:RS xs):YU xs j<=xs.size/\(∀i (hi:i<xs.size),i<YU xs j->xs[i]<j)/\∀i (hi':i<xs.size),YU xs j<=i->j<=xs[i] :=
 zfm xs j h xs.size 0 xs.size (YB _) (yk _) (by omega) (λi _ h=>by omega) (λi h1 h2=>by omega)
def zgn{α:Type}(xs:Array α)(p:Nat)(x:α):(SetTable.insertAt xs p x).toList=xs.toList.take p++x::xs.toList.drop p:=by
 unfold SetTable.insertAt;simp;rw[Xh (by simp)]
def zzz{xs:Array Nat}{j:Nat}(h:RS xs)(hn:xs[YU xs j]?≠some j):RS (SetTable.insertAt xs (YU xs j) j):=by
 obtain⟨h0,h1,h2⟩:=zVl xs j h;unfold RS at h ⊢;rw[zgn];generalize YU xs j=r at *
 have hd:∀y∈xs.toList.drop r,j<y:=λy hy=>by
  obtain⟨i,hi,rfl⟩:=List.mem_iff_getElem.mp hy;simp at hi;have hi':r+i<xs.size:=by omega
  have h3:=h2 (r+i) hi' (by omega);have e:(xs.toList.drop r)[i]'(by simp;omega)=xs[r+i]:=by simp
  rw[e]
  by_cases hz:i=0
  ·subst hz;have:xs[r]?=some xs[r]:=by simp
   simp only[Nat.add_zero]at h3 ⊢;rw[this]at hn;have:xs[r]≠j:=λe=>hn (by rw[e]);omega
  ·have hp:=List.pairwise_iff_getElem.mp h r (r+i) (by simp;omega) (by simpa using hi') (by omega);simp at hp;have:=h2 r (by omega) (yk _);omega
 have ht:∀y∈xs.toList.take r,y<j:=λy hy=>by
  obtain⟨i,hi,rfl⟩:=List.mem_iff_getElem.mp hy;simp at hi;have e:(xs.toList.take r)[i]'(by simp;omega)=xs[i]:=by simp
  rw[e];exact h1 i (by omega) (by omega)
 rw[List.pairwise_append];refine⟨h.sublist (List.take_sublist _ _),List.pairwise_cons.mpr ⟨hd,h.sublist (List.drop_sublist _ _)⟩,λa ha b hb=>?_⟩;rcases List.mem_cons.mp hb with rfl|hb
 ·exact ht a ha
 ·exact Nat.lt_trans (ht a ha) (hd b hb)
structure TOk(L:Bool)(t:xJ):Prop where
 rs:RS t.place
 nd:t.dummies = #[]
 led:t.led=L
def zgq{j:Nat}:SetTable.has #[] j=false:=by
 unfold SetTable.has;simp
def zYq{t:xJ}(hn:t.dummies = #[]){ha:Nat->Int}{h:Int}:∀(fuel:Nat)(p:SetTable.Probe)(j:Nat)(d:Option Nat),p.dummy=none->SetTable.probe.go t ha h fuel p=some (.empty j d)->t.slot j=.empty/\d=none
 |0,p,j,d,_,e=>by unfold SetTable.probe.go at e;cases e
 |fuel+1,p,j,d,hd,e=>by
  unfold SetTable.probe.go at e
  have hadv:(t.advance p).dummy=none:=by
   unfold SetTable.advance
   split
   ·exact hd
   ·exact hd
  split at e
  ·rename_i hs
   cases e;exact⟨hs,hd⟩
  ·rename_i hs
   unfold SetTable.slot at hs;dsimp only at hs;rw[hn,zgq]at hs
   split at hs<;>simp at hs
  ·split at e
   ·cases e
   ·exact zYq hn fuel _ j d hadv e
def z5m{t:xJ}(hn:t.dummies = #[]){h:Int}{j:Nat}{b:Bool}(e:t.freeSlot h=some (j,b)):t.place[YU t.place j]?≠some j:=by
 unfold SetTable.freeSlot at e
 split at e
 ·rename_i j' d hp
  obtain⟨h1,rfl⟩:=zYq hn _ _ _ _ rfl hp;cases e;unfold SetTable.slot at h1;dsimp only at h1;intro q;simp only[Option.getD_none]at q;rw[q]at h1;simp at h1
 ·cases e
def TOk.standIn{L:Bool}{t:xJ}(h:TOk L t)(n:Nat):TOk L (t.standIn n):=by
 refine⟨?_,rfl,h.led⟩;unfold RS SetTable.standIn;rw[Array.toList_range];exact List.pairwise_lt_range
def TOk.layNew{L:Bool}{t:xJ}(h:TOk L t)(es:Array (Int×yb))(hs:Int)(x:yb):TOk L (layNew t es hs x).2.1:=by
 unfold PySem.layNew
 split
 ·rename_i slot wd e
  have hne:=z5m h.nd e
  have h1:TOk L (t.put slot).1:=⟨zzz h.rs hne,by
   unfold SetTable.put;dsimp only;rw[h.nd,zgq];rfl,h.led⟩
  show TOk L ((t.put slot).1.orStandIn _);unfold SetTable.orStandIn
  split
  ·exact h1
  ·exact h1.standIn _
 ·exact h.standIn _
def TOk.relay{L:Bool}{t:xJ}(h:TOk L t)(es:Array (Int×yb))(wanted:Nat):TOk L (relayAll t es wanted).2.1:=by
 unfold relayAll
 split
 ·rename_i t' order e
  dsimp only
  split
  ·unfold SetTable.relaid SetTable.laid at e;obtain⟨ow,_,e⟩:=Option.bind_eq_some_iff.mp e;cases e;refine⟨?_,rfl,h.led⟩;unfold RS;dsimp only;rw[pairwise_map];refine List.Pairwise.filterMap _ (λa a' hlt b hb b' hb'=>?_) List.pairwise_lt_range;simp at hb hb';obtain⟨_,_,rfl⟩:=hb;obtain⟨_,_,rfl⟩:=hb';exact hlt
  ·exact h.standIn _
 ·exact h.standIn _
def TOk.fresh(L:Bool):TOk L (.fresh 0 0 L):=⟨List.Pairwise.nil,rfl,rfl⟩
def zQj(e:Int×yb):Int:=match e.2 with
 |.int i _=>i
 |_=>0
def TL(prog:yB)(w:yL)(h:yV)(a:yd)(ks:List Int):Prop :=
 ∃o es ep t,h.get? a=some o/\o.ExactSet/\o.data=.set es ep t/\t.fits es.size=true/\TOk (!w.params.followText "set-order") t/\ElemsOf (intKind prog w) es.toList/\(es.toList.map zQj).Perm ks
section
variable {prog:yB}{w:yL}{A:yR}{E:yb->ye->Prop}{s:ye}
def z2s{es:List (Int×yb)}{e:Int×yb}{k:Int}(h:ElemsOf (intKind prog w) es)(he:e∈es):(intKind prog w).is k e.2=true↔zQj e=k:=by
 obtain⟨⟨j,hj,_⟩,_⟩:=h e he;obtain⟨t,ht⟩:=Value.isInt_shape (show Value.isInt j e.2=true from hj);unfold zQj;rw[ht];constructor
 ·intro q;obtain⟨u,hu⟩:=Value.isInt_shape (show Value.isInt k (.int j t)=true from q);cases hu;rfl
 ·intro q;have q:j=k:=q;rw[q];exact intKind_is prog w k t
def TL.at'{h h':yV}{a:yd}{ks:List Int}(x:TL prog w h a ks)(k:∀o,h.get? a=some o->h'.get? a=some o):TL prog w h' a ks:=by
 obtain⟨o,es,ep,t,h1,h2⟩:=x;exact⟨o,es,ep,t,k o h1,h2⟩
def zvq(b:Bool){Q:Unit->ye->Prop}(h:Q () s):yo (yx prog w) A (match b with|true=>rule "set.scan.the-table-gave-way" | false=>pure ()) Q E s:=by
 cases b
 ·exact yg h
 ·exact wpAny_rule h
def stored{o:YY}{h:yV}{a:yd}{es:Array (Int×yb)}{ep:Nat}{t:xJ}(ho:h.get? a=some o)(hd:o.data=.set es ep t)(es1:Array (Int×yb))(t1:xJ) :
 (h.update a (Obj.putSet es1 t1)).get? a=some {o with data:=.set es1 (ep+1) t1 }:=by
 have e:=putSet_of es1 t1 hd;have q:=yS (Obj.putSet es1 t1) ho (by rw[e];rfl);rw[e]at q;exact q
def zax{a:yd}{ks:List Int}{k:Int}{tk:Tok}{Q:Bool->ye->Prop}(hS:TL prog w s.heap a ks)(hroom:ks.length+1<scanBound)
 (h:∀b h',yN a s.heap h'->TL prog w h' a (if k∈ks then ks else ks++[k])->Q b {s with heap:=h' }):yo (yx prog w) A (setAddHashed a (.int k tk) (hashInt k)) Q E s:=by
 obtain⟨o,es,ep,t,ho,hex,hd,hf,hT,hel,hp⟩:=hS
 have hsz:es.size=ks.length:=by
  have:=hp.length_eq;simpa using this
 have hmem:k∈ks↔∃e∈es.toList,zQj e=k:=by
  rw[<-hp.mem_iff,mem_map]
 unfold setAddHashed setAddHashedIn;refine yY (ya (xc ho hd hf ?_));dsimp only;rw[byScan_of (knd:=intKind prog w) (x:=.int k tk) rfl (by omega) hel];simp only[↓reduceIte];unfold setAddByScan;refine ya (ya (wpAny_rule (ya (wpAny_setScan_of (knd:=intKind prog w) (k:=k) (intKind_is prog w k tk) ho hd hf hel ?_))))
 cases hr:List.findIdx? (λe=>(intKind prog w).is k e.2) es.toList with
 |some j=>
  dsimp only;obtain⟨hj,hpj,_⟩:=List.findIdx?_eq_some_iff_getElem.mp hr;have hk:k∈ks:=hmem.mpr ⟨es.toList[j],getElem_mem hj,(z2s hel (getElem_mem hj)).mp hpj⟩;have q:=h false s.heap (Heap.SameBut.refl a s.heap) ⟨o,es,ep,t,ho,hex,hd,hf,hT,hel,by rw[if_pos hk];exact hp⟩;exact yg (yg q)
 |none=>
  dsimp only
  have hk:k∉ks:=λhk=>by
   obtain⟨e,he,q⟩:=hmem.mp hk;have:=List.findIdx?_eq_none_iff.mp hr e he;rw[(z2s hel he).mpr q]at this;cases this
  rw[if_neg hk]at h;have p1:=layNew_perm t es (hashInt k) (.int k tk);have f1:=layNew_fits t es (hashInt k) (.int k tk);have T1:=hT.layNew es (hashInt k) (.int k tk);show yo _ _ (_ >>= _) _ _ _;generalize layNew t es (hashInt k) (.int k tk)=L1 at p1 f1 T1 ⊢;obtain⟨es1,t1,wd,gv⟩:=L1;dsimp only at p1 f1 T1 ⊢;rw[Array.toList_push]at p1;have el1:ElemsOf (intKind prog w) es1.toList:=(hel.push (intKind_is prog w k tk) rfl).perm p1
  have pk1:(es1.toList.map zQj).Perm (ks++[k]):=by
   refine(p1.map zQj).trans ?_;rw[map_append];exact hp.append_right _
  have z1:es1.size=ks.length+1:=by
   have:=pk1.length_eq;simpa using this
  refine ya (zvq gv ?_)
  have fin:yo (yx prog w) A (do
   storeSet a es1 t1
   if (!wd && t1.tooFull)=true then
    match relayAll t1 es1 (XA es1.size) with
    |(es2,t2,gv2)=>do
     (match gv2 with|true=>rule "set.scan.the-table-gave-way" | false=>pure ())
     storeSet a es2 t2
     pure (some true)
   else pure (some true)) (λr s'=>∃h',s' = {s with heap:=h' }/\r=some true/\yN a s.heap h'/\TL prog w h' a (ks++[k])) E s:=by
   refine ya (wpAny_storeSet_of ho hd ?_ (fits_of_scanBound (by omega)));have s1:=stored ho hd es1 t1;have b1:=YG s.heap a (Obj.putSet es1 t1)
   split
   ·have p2:=relayAll_perm t1 es1 (XA es1.size);have f2:=relayAll_fits t1 es1 (XA es1.size);have T2:=T1.relay es1 (XA es1.size);generalize relayAll t1 es1 (XA es1.size)=L2 at p2 f2 T2 ⊢;obtain⟨es2,t2,gv2⟩:=L2;dsimp only at p2 f2 T2 ⊢
    have z2:es2.size=es1.size:=by
     have:=p2.length_eq;simpa using this
    refine ya (zvq gv2 (ya (wpAny_storeSet_of s1 rfl ?_ (fits_of_scanBound (by omega)))));exact yg ⟨_,rfl,rfl,b1.trans (YG _ a _),_,es2,_,t2,stored s1 rfl es2 t2,hex,rfl,f2,T2,el1.perm p2,(p2.map zQj).trans pk1⟩
   ·exact yg ⟨_,rfl,rfl,b1,_,es1,_,t1,s1,hex,rfl,f1,T1,el1,pk1⟩
  have goal2:yo (yx prog w) A (do
   storeSet a es1 t1
   if (!wd && t1.tooFull)=true then
    match relayAll t1 es1 (XA es1.size) with
    |(es2,t2,gv2)=>do
     (match gv2 with|true=>rule "set.scan.the-table-gave-way" | false=>pure ())
     storeSet a es2 t2
     pure (some true)
   else pure (some true)) (λr s'=>yo (yx prog w) A (match r with|some added=>pure added|none=>setAddHashedIn a (.int k tk) (hashInt k) 99999) Q E s') E s:=by
   refine Yb fin (λr s' ⟨h',e1,e2,b,x⟩=>?_) λ_ _ z=>z;subst e1 e2;exact yg (h true h' b x)
  split
  ·refine ya ?_;rw[hashByValue_scannable 8 (x:=.int k tk) rfl];exact yg goal2
  ·exact ya (yg goal2)
end
def zxi{α:Type}:∀(l:List α)(i:Nat)(h:i<l.length),(l[i]::l.eraseIdx i).Perm l
 |[],i,h=>by simp at h
 |y::ys,0,h=>by simp
 |y::ys,i+1,h=>by
  have h':i<ys.length:=by simpa using h
  show(ys[i]::y::ys.eraseIdx i).Perm (y::ys);exact(List.Perm.swap y ys[i] _).trans ((zxi ys i h').cons y)
def zJs{α:Type}(next:Nat->Nat):∀(fuel k:Nat)(rest:List α)(out:Array α),rest.length<=fuel->(pickOrder.go next fuel k rest out).toList.Perm (out.toList++rest)
 |0,k,rest,out,h=>by
  have:rest=[]:=List.length_eq_zero_iff.mp (Nat.le_zero.mp h);subst this;unfold pickOrder.go;simp
 |fuel+1,k,rest,out,h=>by
  unfold pickOrder.go
  cases rest with
  |nil=>simp
  |cons y ys=>
   have hlt:next k%(y::ys).length<(y::ys).length:=Nat.mod_lt _ (by simp);rw[yu hlt];dsimp only;refine(zJs next fuel (k+1) _ _ (by rw[List.length_eraseIdx_of_lt hlt];simp at h ⊢;omega)).trans ?_;rw[Array.toList_push,append_assoc];exact List.Perm.append_left _ (zxi _ _ hlt)
def zCk{α:Type}(next:Nat->Nat)(xs:Array α):(pickOrder next xs).toList.Perm xs.toList:=by
 unfold pickOrder;exact(zJs next xs.size 0 xs.toList #[] (by simp)).trans (by simp)
def tK:Slot "set_iterator" "__next__" "set_iterator.__next__" :=
 .of (owner:="set_iterator") (n:="__next__") (by rw[typeLookup_type,Xr];kernel_rfl) (by decide +kernel) (by decide +kernel) (by decide +kernel) (by first|exact .inl (by decide +kernel)|exact .inr (by decide +kernel)) (by rw[isSubtype_type];kernel_rfl)
def z5i:Slot "set_iterator" "__iter__" "set_iterator.__iter__" :=
 .of (owner:="set_iterator") (n:="__iter__") (by rw[typeLookup_type,Xr];kernel_rfl) (by decide +kernel) (by decide +kernel) (by decide +kernel) (by first|exact .inl (by decide +kernel)|exact .inr (by decide +kernel)) (by rw[isSubtype_type];kernel_rfl)
def z5d:entryFor table "set_iterator.__next__"=some xw.«set_iterator.__next__»:=entryFor_of_tree (by kernel_rfl)
def z7m:entryFor table "set_iterator.__iter__"=some xw.«dict_keyiterator.__iter__»:=entryFor_alias (id':="dict_keyiterator.__iter__") (by kernel_rfl) rfl (by decide +kernel) (by kernel_rfl)
def zJe(a:yb):argsOk "set_iterator.__next__" ⟨[a],[]⟩:=by unfold argsOk;kernel_rfl
def zWn(a:yb):argsOk "set_iterator.__iter__" ⟨[a],[]⟩:=by unfold argsOk;kernel_rfl
def zpn:entryFor table "set.__iter__"=some xw.«frozenset.__iter__»:=entryFor_alias (id':="frozenset.__iter__") (by kernel_rfl) rfl (by decide +kernel) (by kernel_rfl)
def SIt(h:yV)(it a:yd)(first:yb)(i n ep:Nat):Prop:=∃o,h.get? it=some o/\o.cls=.type "set_iterator"/\o.data=.fields #[first,.int i 0,.ref a,.int n 0,.int ep 0]
def SOb(h:yV)(a:yd)(es:Array (Int×yb))(ep:Nat)(t:xJ):Prop:=∃o,h.get? a=some o/\o.cls=.type "set"/\o.data=.set es ep t/\t.fits es.size=true
section
variable {prog:yB}{w:yL}{A:yR}{E:yb->ye->Prop}{s:ye}
def SIt.typeIs{it a:yd}{first:yb}{i n ep:Nat}(x:SIt s.heap it a first i n ep):s.TypeIs (.ref it) "set_iterator":=let ⟨o,ho,hc,_⟩:=x;⟨o,ho,hc⟩
def SIt.at'{h h':yV}{it a:yd}{first:yb}{i n ep:Nat}(x:SIt h it a first i n ep)(k:∀o,h.get? it=some o->h'.get? it=some o):SIt h' it a first i n ep:=let ⟨o,ho,r⟩:=x;⟨o,k o ho,r⟩
def SOb.at'{h h':yV}{a:yd}{es:Array (Int×yb)}{ep:Nat}{t:xJ}(x:SOb h a es ep t)(k:∀o,h.get? a=some o->h'.get? a=some o):SOb h' a es ep t:=let ⟨o,ho,r⟩:=x;⟨o,k o ho,r⟩
def zlu{it:yd}{o:YY}{vs:Array yb}{Q:Option yb->ye->Prop}(hh:A.handled=none)(ho:s.heap.get? it=some o)(hd:o.data=.fields vs)(h2:2<vs.size)
 (hQ:∀h',xE it s.heap h'->Q none {s with heap:=h' }) :
 yo (yx prog w) A.in1 (do setField (.ref it) 2 .none;raiseNew (<-newExc (.type "StopIteration") []):Sem Fin)
  (λ_ _=>False) (λe s'=>yo (yx prog w) A (do if <-isInstance e (.type "StopIteration") then pure none else throw e) Q E s') s:=by
 refine ya (xb ho hd h2 ?_);refine ya ?_;simp only[newExc,newTuple];refine ya (Ye ?_ (by size_fits));refine ya (m:=firstArgMember _ _) (wpAny_of_eq (a:=Yt) (by first|rfl|(simp only[firstArgMember];rfl)) ?_);refine Ye ?_ (by size_fits);simp only[raiseNew];refine ya (wpAny_handled ?_);have e:A.in1.handled=none:=hh;rw[e];refine ya (yg (wpAny_throw ?_));refine ya (Xd (T:="StopIteration") (b:=true) ⟨_,yn _ rfl,rfl⟩ isSubtype_stop ?_);exact yg (hQ _ (((YG s.heap it _).extBut.push _).push _))
end
section
variable {prog:yB}{w:yL}{A:yR}{E:yb->ye->Prop}{s:ye}{it a:yd}{es:Array (Int×yb)}{ep i:Nat}{t:xJ}{Q:Option yb->ye->Prop}
def zpm(n:Nat):¬(((n:Int) != (n:Int))=true):=by simp
def zEk{slot nx:Nat}{x:yb}(hI:SIt s.heap it a (.int slot 0) i es.size ep)(hO:SOb s.heap a es ep t)
 (hn:∀(Q':Option (yb×Nat)->ye->Prop) (E':yb->ye->Prop),Q' (some (x,nx)) s->yo (yx prog w) A.in1 (setNext a slot i ep) Q' E' s)
 (hQ:∀h',SIt h' it a (.int nx 0) (i+1) es.size ep->yN it s.heap h'->Q (some x) {s with heap:=h' }):yo (yx prog w) A (xQ (.ref it)) Q E s:=by
 obtain⟨o,ho,hc,hd⟩:=id hI;obtain⟨oa,hoa,_,hda,hfa⟩:=hO;unfold xQ;refine ya (xX (yZ (name:=YN "__next__") hI.typeIs tK (yW tK hI.typeIs z5d ?_ (zJe _))));unfold xw.«set_iterator.__next__»;refine ya (m:=slotArgs "__next__" 0 ⟨[yM it],[]⟩) (yg ?_);refine ya (wpAny_fieldsOf ho hd ?_);dsimp only;refine ya (Xb hoa hda hfa ?_);rw[if_neg (zpm es.size)];refine ya (hn _ _ ?_);dsimp only;refine ya (xb ho hd (by simp) ?_);have ho1:=yS (xq (·.setIfInBounds 0 (YF nx))) ho (YH (Yg hd _));have hd1:=Yg hd (·.setIfInBounds 0 (YF nx));refine ya (xb ho1 hd1 (by simp) (yg ⟨x,rfl,yg (hQ _ ?_ ((YG s.heap it _).trans (YG _ it _)))⟩));refine⟨_,yS _ ho1 (YH (Yg hd1 _)),(Xx ..).trans ((Xx ..).trans hc),?_⟩;rw[Yg hd1];simp[YF]
def zRl{slot:Nat}(hh:A.handled=none)(hI:SIt s.heap it a (.int slot 0) i es.size ep)(hO:SOb s.heap a es ep t)
 (hn:∀(Q':Option (yb×Nat)->ye->Prop) (E':yb->ye->Prop),Q' none s->yo (yx prog w) A.in1 (setNext a slot i ep) Q' E' s)
 (hQ:∀h',xE it s.heap h'->Q none {s with heap:=h' }):yo (yx prog w) A (xQ (.ref it)) Q E s:=by
 obtain⟨o,ho,hc,hd⟩:=id hI;obtain⟨oa,hoa,_,hda,hfa⟩:=hO;unfold xQ;refine ya (xX (yZ (name:=YN "__next__") hI.typeIs tK (yW tK hI.typeIs z5d ?_ (zJe _))));unfold xw.«set_iterator.__next__»;refine ya (m:=slotArgs "__next__" 0 ⟨[yM it],[]⟩) (yg ?_);refine ya (wpAny_fieldsOf ho hd ?_);dsimp only;refine ya (Xb hoa hda hfa ?_);rw[if_neg (zpm es.size)];refine ya (hn _ _ ?_);dsimp only;exact Yb (zlu (Q:=Q) (E:=E) hh ho hd (by simp) hQ) (λ_ _ z=>z.elim) λ_ _ z=>z
def z6o{tup:yd}{ot:YY}{items:Array yb}{nt place:Nat}{x:yb}{hx:Int}(hI:SIt s.heap it a (.ref tup) i es.size ep)(hO:SOb s.heap a es ep t)(hot:s.heap.get? tup=some ot)(hdt:ot.data=.seq items nt)
 (hp:items[i]?=some (.int place 0)) (he:es[place]?=some (hx,x))
 (hQ:∀h',SIt h' it a (.ref tup) (i+1) es.size ep->yN it s.heap h'->Q (some x) {s with heap:=h' }):yo (yx prog w) A (xQ (.ref it)) Q E s:=by
 obtain⟨o,ho,hc,hd⟩:=id hI;obtain⟨oa,hoa,_,hda,hfa⟩:=hO;unfold xQ;refine ya (xX (yZ (name:=YN "__next__") hI.typeIs tK (yW tK hI.typeIs z5d ?_ (zJe _))));unfold xw.«set_iterator.__next__»;refine ya (m:=slotArgs "__next__" 0 ⟨[yM it],[]⟩) (yg ?_);refine ya (wpAny_fieldsOf ho hd ?_);dsimp only;refine ya (Xb hoa hda hfa ?_);rw[if_neg (zpm es.size)];refine ya (YV hot hdt ?_);dsimp only;simp only[YD,hp];unfold setNextDrawn;refine ya (ya (xc hoa hda hfa ?_));dsimp only;rw[if_neg (by simp),he];dsimp only;refine yg ?_;refine ya (xb ho hd (by simp) (yg ⟨x,rfl,yg (hQ _ ?_ (YG s.heap it _))⟩));refine⟨_,yS _ ho (YH (Yg hd _)),(Xx ..).trans hc,?_⟩;rw[Yg hd];simp[YF]
def zKr{tup:yd}{ot:YY}{items:Array yb}{nt:Nat}(hh:A.handled=none)(hI:SIt s.heap it a (.ref tup) i es.size ep)(hO:SOb s.heap a es ep t)(hot:s.heap.get? tup=some ot)(hdt:ot.data=.seq items nt)
 (hp:items[i]?=none) (hQ:∀h',xE it s.heap h'->Q none {s with heap:=h' }):yo (yx prog w) A (xQ (.ref it)) Q E s:=by
 obtain⟨o,ho,hc,hd⟩:=id hI;obtain⟨oa,hoa,_,hda,hfa⟩:=hO;unfold xQ;refine ya (xX (yZ (name:=YN "__next__") hI.typeIs tK (yW tK hI.typeIs z5d ?_ (zJe _))));unfold xw.«set_iterator.__next__»;refine ya (m:=slotArgs "__next__" 0 ⟨[yM it],[]⟩) (yg ?_);refine ya (wpAny_fieldsOf ho hd ?_);dsimp only;refine ya (Xb hoa hda hfa ?_);rw[if_neg (zpm es.size)];refine ya (YV hot hdt ?_);dsimp only;simp only[YD,hp];refine ya (xb ho hd (by simp) ?_);have ho1:=yS (xq (·.setIfInBounds 0 (YF 0))) ho (YH (Yg hd _));have hd1:=Yg hd (·.setIfInBounds 0 (YF 0));exact Yb (zlu (Q:=Q) (E:=E) hh ho1 hd1 (by simp) λh' x=>hQ h' λb o' hb e=>x b o' hb ((YG s.heap it _).extBut b o' hb e)) (λ_ _ z=>z.elim) λ_ _ z=>z
end
section
variable {prog:yB}{w:yL}{A:yR}{E:yb->ye->Prop}{s:ye}{it a:yd}{es:Array (Int×yb)}{ep i:Nat}{t:xJ}
def zZh{Q:Bool->ye->Prop}(h:Q (w.params.followText "set-order") s):yo (yx prog w) A setsByText Q E s:=by
 unfold setsByText;exact ya (wpAny_askSetting (yg h))
def zxn{slot:Nat}(hw:w.params.followText "set-order"=true)(hO:SOb s.heap a es ep t){Q:Option (yb×Nat)->ye->Prop}(h:Q (((pickOrder (w.params.setOrder a ep) es)[i]?).map λe=>(e.2,slot)) s) :
 yo (yx prog w) A (setNext a slot i ep) Q E s:=by
 obtain⟨oa,hoa,_,hda,hfa⟩:=hO;unfold setNext;refine ya (xc hoa hda hfa ?_);dsimp only;refine ya (zZh ?_);rw[hw,if_pos rfl,if_neg (by simp)];unfold setWalk;refine ya (ya (xc hoa hda hfa ?_));dsimp only;refine ya (zZh ?_);rw[hw,if_pos rfl];exact ya (wpAny_askSetting (yg (yg h)))
def zof(t:xJ)(i:Nat):Nat:=if i=0 then 0 else t.place.getD (i-1) 0+1
def zfs(h:RS t.place)(hi:i<=t.place.size):YU t.place (zof t i)=i:=by
 obtain⟨h0,h1,h2⟩:=zVl t.place (zof t i) h
 have hp:∀i k (hi:i<t.place.size) (hk:k<t.place.size),i<k->t.place[i]<t.place[k]:=λi k hi hk hik=>by
  have:=List.pairwise_iff_getElem.mp h i k (by simpa using hi) (by simpa using hk) hik;simpa using this
 generalize hr:YU t.place (zof t i)=r at *;unfold zof at h1 h2
 by_cases hz:i=0
 ·subst hz;rw[if_pos rfl]at h1
  by_cases hr0:0<r
  ·have:=h1 0 (by omega) hr0;omega
  ·omega
 ·rw[if_neg hz]at h1 h2;have hl:i-1<t.place.size:=by omega
  have hg:t.place.getD (i-1) 0=t.place[i-1]:=by simp[Array.getD,hl]
  rw[hg]at h1 h2;rcases Nat.lt_trichotomy r i with hlt|he|hgt
  ·have h3:=h2 (i-1) hl (by omega);omega
  ·exact he
  ·have h3:=h1 i (by omega) hgt;have h4:=hp (i-1) i hl (by omega) (by omega);omega
def zzl(hw:w.params.followText "set-order"=false)(hd:(!t.plain&&decide (es.size>1))=false)(hT:TOk true t)(hi:i<=es.size)(hO:SOb s.heap a es ep t){Q:Option (yb×Nat)->ye->Prop}(h:Q ((es[i]?).map λe=>(e.2,zof t (i+1))) s) :
 yo (yx prog w) A (setNext a (zof t i) i ep) Q E s:=by
 obtain⟨oa,hoa,_,hda,hfa⟩:=hO
 have hsz:t.place.size=es.size:=by
  unfold SetTable.fits at hfa;rw[yO]at hfa;exact beq_iff_eq.mp hfa.1
 unfold setNext;refine ya (xc hoa hda hfa ?_);dsimp only;refine ya (zZh ?_);rw[hw,if_neg yC];refine xh (λhab=>?_) λ_=>?_
 ·have hab:(!t.plain&&decide (es.size>1))=true:=hab;rw[hd]at hab;cases hab
 ·refine ya ?_
  have led:yo (yx prog w) A (if(!t.led && !es.isEmpty)=true then unsupported "set:maker-not-led" else pure ()) (λ_ s'=>yo (yx prog w) A (pure (match es[YU t.place (zof t i)]?,t.place[YU t.place (zof t i)]? with
   |some (_,x),some j=>some (x,j+1)
   |_,_=>none):Sem (Option (yb×Nat))) Q E s') E s:=by
   rw[hT.led,if_neg (by simp)];refine yg (yg ?_);rw[zfs hT.rs (by omega)]
   by_cases hlt:i<es.size
   ·have e1:es[i]?=some es[i]:=by simp[hlt]
    have e2:t.place[i]?=some (t.place[i]'(by omega)):=by simp[show i<t.place.size by omega]
    rw[e1]at h;rw[e1,e2]
    have e3:zof t (i+1)=t.place[i]'(by omega)+1:=by
     unfold zof;rw[if_neg (by omega)];simp[Array.getD,show i<t.place.size by omega]
    rw[e3]at h;exact h
   ·have e1:es[i]?=none:=by simp;omega
    rw[e1]at h;rw[e1];exact h
  exact led
def zMl{α:Type}:∀(n:Nat)(xs:List α)(s:ye)(Q:List α->ye->Prop),n=xs.length->(∀ys d,ys.Perm xs->Q ys {s with drawn:=d })->yo (yx prog w) A (drawOrder n xs) Q E s
 |0,xs,s,Q,hn,h=>by
  have:xs=[]:=List.length_eq_zero_iff.mp hn.symm;subst this;exact yg (h [] s.drawn .nil)
 |n+1,[],s,Q,hn,h=>by simp at hn
 |n+1,x::xs,s,Q,hn,h=>by
  unfold drawOrder;refine ya ?_;intro Γ p hΓ;unfold choose;rw[Sem.wp_choose];refine⟨by simp,?_⟩;have hlt:(yx prog w).w.draws .order (s.drawn.get .order)%(x::xs).length<(x::xs).length:=Nat.mod_lt _ (by simp);generalize (yx prog w).w.draws .order (s.drawn.get .order)%(x::xs).length=j at hlt ⊢;generalize s.drawn.bump .order=d1
  have main:yo (yx prog w) A (match(x::xs)[j]? with
   |some y=>do return y::(<-drawOrder n ((x::xs).eraseIdx j))
   |none=>unsupported "internal:drawOrder") Q E {s with drawn:=d1 }:=by
   rw[yu hlt];dsimp only;refine ya (zMl n _ _ _ (by rw[List.length_eraseIdx_of_lt hlt];simp at hn ⊢;omega) λys d hp=>yg (h _ d ?_));exact(hp.cons _).trans (zxi _ _ hlt)
  simp only[Sem.wp_pure];exact main
end
section
variable {prog:yB}{w:yL}{A:yR}{E:yb->ye->Prop}{s:ye}{I a:yd}{es:Array (Int×yb)}{ep i:Nat}{t:xJ}
def zRp{first:yb}{n:Nat}{Q:yb->ye->Prop}(hI:SIt s.heap I a first i n ep)(h:Q (.ref I) s):yo (yx prog w) A (pyIter (.ref I)) Q E s:=by
 refine wpAny_pyIter_slot hI.typeIs z5i (yW z5i hI.typeIs z7m ?_ (zWn _));unfold xw.«dict_keyiterator.__iter__»;refine ya (m:=slotArgs "__iter__" 0 ⟨[yM I],[]⟩) (yg ?_);exact yg ⟨_,rfl,"set_iterator",_,hI.typeIs,tK.lookup,h⟩
abbrev zky(ent:List (Int×yb))(i:Nat)(v:yb):Prop:=∃k,ent[i]?=some (k,v)
def zWt(hh:A.handled=none)(hne:a≠I)(hw:w.params.followText "set-order"=true) :
 Walks prog w A I [I,a] [I] es.size (zky (pickOrder (w.params.setOrder a ep) es).toList) (λi h=>SIt h I a (.int ((0:Nat):Int) 0) i es.size ep/\SOb h a es ep t) where
 sub:=λb hb=>by simp at hb;simp[hb]
 frame:=λ_ _ _ st hk=>⟨st.1.at' λo e=>hk I (by simp) o e,st.2.at' λo e=>hk a (by simp) o e⟩
 item:=λi s Q E hi st hQ=>by
  have hl:(pickOrder (w.params.setOrder a ep) es).size=es.size:=by
   have:=(zCk (w.params.setOrder a ep) es).length_eq;simpa using this
  have hi':i<(pickOrder (w.params.setOrder a ep) es).size:=by omega
  have e1:(pickOrder (w.params.setOrder a ep) es)[i]?=some (pickOrder (w.params.setOrder a ep) es)[i]:=by simp[hi']
  refine zEk (nx:=0) (x:=(pickOrder (w.params.setOrder a ep) es)[i].2) st.1 st.2 (λQ' E' hq=>zxn hw st.2 (by rw[e1];exact hq)) λh' x sb=>?_;refine hQ _ h' s.toks ⟨_,by rw[Xs,e1]⟩ ⟨x,st.2.at' λo e=>sb.extBut a o hne e⟩ λb o hb e=>sb.extBut b o (λh=>hb (by simp[h])) e
 done:=λs Q E st hQ=>by
  have hl:(pickOrder (w.params.setOrder a ep) es).size=es.size:=by
   have:=(zCk (w.params.setOrder a ep) es).length_eq;simpa using this
  refine zRl hh st.1 st.2 (λQ' E' hq=>zxn hw st.2 (by rw[show(pickOrder (w.params.setOrder a ep) es)[es.size]?=none by simp;omega];exact hq)) λh' x=>hQ h' s.toks λb o hb e=>x b o (λh=>hb (by simp[h])) e
 self:=λ_ _ _ _ st hQ=>zRp st.1 hQ
def zUr(hh:A.handled=none)(hne:a≠I)(hw:w.params.followText "set-order"=false)(hd:(!t.plain&&decide (es.size>1))=false)(hT:TOk true t) :
 Walks prog w A I [I,a] [I] es.size (zky es.toList) (λi h=>SIt h I a (.int (zof t i:Nat) 0) i es.size ep/\SOb h a es ep t) where
 sub:=λb hb=>by simp at hb;simp[hb]
 frame:=λ_ _ _ st hk=>⟨st.1.at' λo e=>hk I (by simp) o e,st.2.at' λo e=>hk a (by simp) o e⟩
 item:=λi s Q E hi st hQ=>by
  have e1:es[i]?=some es[i]:=by simp[hi]
  refine zEk (nx:=zof t (i+1)) (x:=es[i].2) st.1 st.2 (λQ' E' hq=>zzl hw hd hT (by omega) st.2 (by rw[e1];exact hq)) λh' x sb=>?_;refine hQ _ h' s.toks ⟨_,by rw[Xs,e1]⟩ ⟨x,st.2.at' λo e=>sb.extBut a o hne e⟩ λb o hb e=>sb.extBut b o (λh=>hb (by simp[h])) e
 done:=λs Q E st hQ=>by
  refine zRl hh st.1 st.2 (λQ' E' hq=>zzl hw hd hT (by omega) st.2 (by rw[show es[es.size]?=none by simp];exact hq)) λh' x=>hQ h' s.toks λb o hb e=>x b o (λh=>hb (by simp[h])) e
 self:=λ_ _ _ _ st hQ=>zRp st.1 hQ
def zPr{tup:yd}{ord:List Nat}{nt:Nat}(hh:A.handled=none)(hne:a≠I)(hne2:tup≠I)(hp:ord.Perm (yv es.size)) :
 Walks prog w A I [I,a,tup] [I] es.size (zky (ord.map λj=>es.getD j (0,.none))) (λi h=>SIt h I a (.ref tup) i es.size ep/\SOb h a es ep t/\∃ot,h.get? tup=some ot/\ot.data=.seq (ord.map λ(j:Nat)=>YF j).toArray nt) where
 sub:=λb hb=>by simp at hb;simp[hb]
 frame:=λ_ _ _ st hk=>⟨st.1.at' λo e=>hk I (by simp) o e,st.2.1.at' λo e=>hk a (by simp) o e,let ⟨ot,h1,h2⟩:=st.2.2;⟨ot,hk tup (by simp) ot h1,h2⟩⟩
 item:=λi s Q E hi st hQ=>by
  obtain⟨st1,st2,ot,h1,h2⟩:=st
  have hl:ord.length=es.size:=by
   have:=hp.length_eq;simpa using this
  have hi':i<ord.length:=by omega
  have hj:ord[i]<es.size:=by
   have:=hp.mem_iff.mp (getElem_mem hi');simpa using this
  have e1:es[ord[i]]?=some es[ord[i]]:=by simp[hj]
  refine z6o (x:=es[ord[i]].2) (place:=ord[i]) (hx:=es[ord[i]].1) st1 st2 h1 h2 (by simp[hi',YF]) e1 λh' x sb=>?_;refine hQ _ h' s.toks ⟨es[ord[i]].1,by simp[hi',Array.getD,hj]⟩ ⟨x,st2.at' λo e=>sb.extBut a o hne e,ot,sb.extBut tup ot hne2 h1,h2⟩ λb o hb e=>sb.extBut b o (λh=>hb (by simp[h])) e
 done:=λs Q E st hQ=>by
  obtain⟨st1,st2,ot,h1,h2⟩:=st
  have hl:ord.length=es.size:=by
   have:=hp.length_eq;simpa using this
  refine zKr hh st1 st2 h1 h2 (by simp;omega) λh' x=>hQ h' s.toks λb o hb e=>x b o (λh=>hb (by simp[h])) e
 self:=λ_ _ _ _ st hQ=>zRp st.1 hQ
def zuv{ord:List Nat}(hp:ord.Perm (yv es.size)):(ord.map λj=>es.getD j (0,.none)).Perm es.toList:=by
 refine(hp.map _).trans ?_
 have:(yv es.size).map (λj=>es.getD j (0,Yt))=es.toList:=by
  apply List.ext_getElem
  ·simp
  ·intro n h1 h2;simp at h1 h2;simp[Array.getD,h1]
 rw[this]
end
section
variable {prog:yB}{w:yL}{A:yR}{E:yb->ye->Prop}{s:ye}{a:yd}{es:Array (Int×yb)}{ep:Nat}{t:xJ}
def zLA(prog:yB)(w:yL)(A:yR)(s:ye)(es:Array (Int×yb))(a:yd)(I:yd)(s':ye):Prop :=
 ∃fp ent St,Walks prog w A I fp [I] es.size (zky ent) St/\St 0 s'.heap/\ent.Perm es.toList/\s.heap.objs.size<=I/\(∀b∈fp,s.heap.objs.size<=b\/b=a)/\(∀b∈fp,b<s'.heap.objs.size)/\(∀b o,s.heap.get? b=some o->s'.heap.get? b=some o)/\∃d,s' = {s with heap:=s'.heap,drawn:=d }
def zDv{Q:yb->ye->Prop}(hh:A.handled=none)(hT:TOk (!w.params.followText "set-order") t)(hO:SOb s.heap a es ep t)(hsz:es.size<=yE)
 (h:∀I s',zLA prog w A s es a I s'->Q (.ref I) s'):yo (yx prog w) A (pyIter (.ref a)) Q E s:=by
 obtain⟨oa,hoa,hca,hda,hfa⟩:=id hO;have hTy:s.TypeIs (.ref a) "set":=⟨oa,hoa,hca⟩
 have hlt:a<s.heap.objs.size:=ym hoa;refine wpAny_pyIter_slot hTy F.slot_set_iter (yW F.slot_set_iter hTy zpn ?_ (F.args_set_iter_1 _));unfold xw.«frozenset.__iter__»;refine ya (m:=Builtin.Frozenset.slot0 "__iter__" ⟨[yM a],[]⟩) (yg ?_);unfold Builtin.Frozenset.sizeOf;refine ya (ya (Xb hoa hda hfa (yg ?_)));unfold setDrawn;refine ya (ya (xc hoa hda hfa ?_));dsimp only;refine ya (zZh (yg ?_));refine xh (λhab=>?_) λhab=>?_
 ·have hab:(!w.params.followText "set-order" && (!t.plain&&decide (es.size>1)))=true:=hab;refine ya (zMl es.size _ _ _ (by simp) λord d hp=>?_)
  have hol:ord.length=es.size:=by
   have:=hp.length_eq;simpa using this
  unfold newTuple;refine ya (Ye ?_ (by show(List.map (λ(i:Nat)=>YF i) ord).toArray.size<=yE;simp;omega));have hg:(s.heap.push {cls:=.type "tuple",data:=.seq (ord.map λ(i:Nat)=>YF i).toArray }).get? a=some oa:=yc _ hoa;refine ya ?_;unfold setEpoch;refine ya (xc (s:={s with heap:=_,drawn:=d }) hg hda hfa (yg ?_));unfold newFields;refine ya (Ye (yg ⟨_,rfl,"set_iterator",_,⟨_,yn _ rfl,rfl⟩,tK.lookup,?_⟩));have hs1:(s.heap.push {cls:=.type "tuple",data:=.seq (ord.map λ(i:Nat)=>YF i).toArray }).objs.size=s.heap.objs.size+1:=by rw[Yd]
  refine h _ _ ⟨[(s.heap.push {cls:=.type "tuple",data:=.seq (ord.map λ(i:Nat)=>YF i).toArray }).objs.size,a,s.heap.objs.size],ord.map λj=>es.getD j (0,.none),_,
   zPr (t:=t) (ep:=ep) (nt:=0) hh (by rw[hs1];exact yt (Ys hlt)) (by rw[hs1];exact yt (Yu _)) hp,⟨⟨_,yn _ rfl,rfl,by simp[YF]⟩,⟨oa,yc _ hg,hca,hda,hfa⟩,_,yc _ (yn _ rfl),rfl⟩,
   zuv hp,by rw[hs1];exact Xf _,?_,?_,λb o e=>yc _ (yc _ e),d,rfl⟩
  ·intro b hb;rw[hs1]at hb;simp at hb;rcases hb with rfl|rfl|rfl
   ·exact .inl (Xf _)
   ·exact .inr rfl
   ·exact .inl (yk _)
  ·intro b hb;show b<((s.heap.push _).push _).objs.size;rw[Yd,hs1];rw[hs1]at hb;simp at hb;rcases hb with rfl|rfl|rfl
   ·exact Yu _
   ·exact Ys (Ys hlt)
   ·exact Ys (Yu _)
 ·have hab:¬(!w.params.followText "set-order" && (!t.plain&&decide (es.size>1)))=true:=hab;refine ya (yg ?_);refine ya ?_;unfold setEpoch;refine ya (xc hoa hda hfa (yg ?_));unfold newFields;refine ya (Ye (yg ⟨_,rfl,"set_iterator",_,⟨_,yn _ rfl,rfl⟩,tK.lookup,?_⟩))
  have pre:∀(ent:List (Int×yb)) (St:Nat->yV->Prop),Walks prog w A s.heap.objs.size [s.heap.objs.size,a] [s.heap.objs.size] es.size (zky ent) St->St 0 (s.heap.push {cls:=.type "set_iterator",data:=.fields #[YF 0,YF 0,.ref a,YF es.size,YF ep]})->ent.Perm es.toList ->
   Q (.ref s.heap.objs.size) {s with heap:=s.heap.push {cls:=.type "set_iterator",data:=.fields #[YF 0,YF 0,.ref a,YF es.size,YF ep]}}:=λent St W st hp=>
   h _ _ ⟨_,ent,St,W,st,hp,yk _,λb hb=>by simp at hb;rcases hb with rfl|rfl;exact .inl (yk _);exact .inr rfl,λb hb=>by
    show b<(s.heap.push _).objs.size;rw[Yd];simp at hb;rcases hb with rfl|rfl
    ·exact Yu _
    ·exact Ys hlt,λb o e=>yc _ e,s.drawn,rfl⟩
  cases hw:w.params.followText "set-order" with
  |true=>exact pre _ _ (zWt (t:=t) (ep:=ep) hh (yt hlt) hw) ⟨⟨_,yn _ rfl,rfl,by simp[YF]⟩,⟨oa,yc _ hoa,hca,hda,hfa⟩⟩ (zCk _ _)
  |false=>
   rw[hw]at hab hT;exact pre _ _ (zUr (t:=t) (ep:=ep) hh (yt hlt) hw (by simpa using hab) hT) ⟨⟨_,yn _ rfl,rfl,by simp[YF,zof]⟩,⟨oa,yc _ hoa,hca,hda,hfa⟩⟩ (.refl _)
end
section
variable {prog:yB}{w:yL}{A:yR}{E:yb->ye->Prop}{s:ye}{a:yd}{es:Array (Int×yb)}{ep:Nat}{t:xJ}
def zov{Q:Bool->ye->Prop}(hT:s.TypeIs (.ref a) "set")(hq:Q false s):yo (yx prog w) A (xD (.ref a)) Q E s:=by
 unfold xD;refine ya (xz hT F.slot_set_len.lookup ?_);generalize hn:("set.__len__":String)=nm
 wp_delta
 rw[show splitId nm=some ("set","__len__") from by subst hn;decide +kernel];subst hn;refine ya (Xd (T:="set") (b:=true) hT (by rw[isSubtype_type];kernel_rfl) ?_);refine xh (λno=>absurd no (by decide)) λ_=>?_;refine xh (λ_=>?_) λno=>absurd (by decide +kernel) no;exact ya (XE hT (yg hq))
def zeB(s:ye)(es:Array (Int×yb))(vs:List yb)(s':ye):Prop :=
 (∃ent:List (Int×yb),ent.Perm es.toList/\vs=ent.map (·.2))/\(∀b o,s.heap.get? b=some o->s'.heap.get? b=some o)/\s'.os=s.os/\s'.gens=s.gens/\s.heap.objs.size<=s'.heap.objs.size
def zSu{ent:List (Int×yb)}{acc:Array yb}{n:Nat}(hl:ent.length=n)(h:ItemsOf (zky ent) acc n):acc.toList=ent.map (·.2):=by
 apply List.ext_getElem
 ·simp[h.1,hl]
 ·intro j h1 h2;have h1':j<acc.size:=by simpa using h1
  obtain⟨k,e⟩:=h.2 j acc[j] (by simp[h1']);have h3:j<ent.length:=by simpa using h2
  rw[yu h3]at e;simp only[YQ]at e;simp[e]
def zVp{Q:List yb->ye->Prop}(hh:A.handled=none)(hT:TOk (!w.params.followText "set-order") t)(hO:SOb s.heap a es ep t)(hsz:es.size<=yE)(h:∀vs s',zeB s es vs s'->Q vs s') :
 yo (yx prog w) A (collect (.ref a)) Q E s:=by
 obtain⟨oa,hoa,hca,hda,hfa⟩:=id hO;have hlt:a<s.heap.objs.size:=ym hoa;unfold collect;refine ya (wpAny_runValue (xi F.entry_proto_collect ?_));rw[YX F.plain_proto_collect _];show yo _ A.in1 (newList [] >>= λl=>again (.builtin "list.__iadd__" ⟨[l,.ref a],[]⟩)) _ _ s;refine ya (Ye ?_);refine yg ⟨Xm F.plain_list_iadd _,xi F.entry_list_iadd ?_⟩;rw[YX F.plain_list_iadd _];obtain⟨S,hSe⟩:∃S,S=s.heap.objs.size:=⟨_,rfl⟩
 have hL:(s.heap.push {cls:=.type "list",data:=.seq ([]:List yb).toArray }).get? S=some {cls:=.type "list",data:=.seq #[]}:=by rw[hSe];exact yn _ rfl
 have hk0:∀b o,s.heap.get? b=some o->(s.heap.push {cls:=.type "list",data:=.seq ([]:List yb).toArray }).get? b=some o:=λb o e=>yc _ e;have hz0:(s.heap.push {cls:=.type "list",data:=.seq ([]:List yb).toArray }).objs.size=S+1:=by rw[hSe,Yd]
 show yo _ A.in1 (Yz (.ref s.heap.objs.size) (.ref a) (.ref s.heap.objs.size)) _ _ _;rw[<-hSe];generalize s.heap.push {cls:=.type "list",data:=.seq ([]:List yb).toArray } = h0 at hL hk0 hz0 ⊢;have hO0:SOb h0 a es ep t:=hO.at' λo e=>hk0 _ o e;have hSa:S≠a:=by rw[hSe];exact yT hlt
 have hTy:Shared.TypeIs {s with heap:=h0 } (.ref a) "set":=⟨oa,hk0 _ _ hoa,hca⟩
 unfold Yz;refine ya (XE hTy ?_);have g1:xY (.ref S) (.ref a)=false:=by simp[xY,hSa]
 have g2:(YK "set" == YK "list")=false:=by decide
 have g3:(YK "set" == YK "tuple")=false:=by decide
 simp only[g1,g2,g3,Bool.or_false,xI,if_false];refine ya (zDv (s:={s with heap:=h0 }) hh hT hO0 hsz λI s1 hI=>?_);obtain⟨fp,ent,St,W,st,hp,hIs,hf1,hf2,hk1,d,hs1⟩:=hI;have hL1:s1.heap.get? S=some {cls:=.type "list",data:=.seq #[]}:=hk1 _ _ hL;have hIs:S+1<=I:=by rw[<-hz0];exact hIs
 have hSf:S∉fp:=λhm=>by
  rcases hf1 S hm with q|q
  ·have q:h0.objs.size<=S:=q;rw[hz0]at q;exact Yc _ q
  ·exact hSa q
 have hTy1:s1.TypeIs (.ref a) "set":=⟨oa,hk1 _ _ (hk0 _ _ hoa),hca⟩
 refine ya (yY (zov hTy1 ?_))
 have loop:∀(h2:yV)(c:Nat),(∀b o,b≠S->s1.heap.get? b=some o->h2.get? b=some o)->h2.get? S=some {cls:=.type "list",data:=.seq #[] c } ->
  Xw (yx prog w) A (.builtin "list.extend.loop" ⟨[.ref S,.ref I,.ref S],[]⟩) (λr s'=>∃acc c',r=.ok (.ret (.ref S))/\s'.heap.get? S=some {cls:=.type "list",dict:=none,data:=.seq acc c',slots:=#[]}/\zeB s es acc.toList s') {s1 with heap:=h2 }:=by
  intro h2 c hk2 hL2;refine codeAny_extend_loopS W.toS hsz S hSf (.ref S) es.size 0 _ #[] c rfl (YB _) (W.frame 0 _ _ st λb hb o e=>hk2 b o (λq=>hSf (q▸hb)) e) hL2 (ItemsOf.nil _) λs' acc c' hm hS' hacc=>?_;refine⟨acc,c',rfl,hS',⟨ent,hp,zSu (by simpa using hp.length_eq) hacc⟩,λb o e=>?_,?_,?_,by rw[<-hSe];exact YI (ym hS')⟩
  ·have hb:b<s.heap.objs.size:=ym e;rw[<-hSe]at hb;refine hm.heap b o (λhmem=>?_) (hk2 b o (yt hb) (hk1 _ _ (hk0 _ _ e)));rcases List.mem_cons.mp hmem with q|q
   ·exact absurd hb (by rw[q];exact Yc _)
   ·rw[List.mem_singleton.mp q]at hb;exact Yc _ (Nat.lt_trans hb (yA (Yu _) hIs))
  ·have:=hm.os;rw[this];show s1.os=s.os;rw[hs1]
  ·have:s'.gens=s1.gens:=hm.gens;rw[this,hs1]
 have fin:∀(h2:yV)(c:Nat),(∀b o,b≠S->s1.heap.get? b=some o->h2.get? b=some o)->h2.get? S=some {cls:=.type "list",data:=.seq #[] c } ->
  Xw (yx prog w) A (.builtin "list.extend.loop" ⟨[.ref S,.ref I,.ref S],[]⟩) (λr s'=>match r with
   |.ok (.ret v)=>yo (yx prog w) A (match v with
    |.ref b=>do
     let o <-load b
     match o.data with
     |.seq xs _=>pure xs.toList
     |_=>unsupported "internal:collect"
    |_=>unsupported "internal:collect") Q E s'
   |_=>False) {s1 with heap:=h2 }:=λh2 c hk2 hL2=>YM (loop h2 c hk2 hL2) λr s' ⟨acc,c',e,hS',hc⟩=>by
  subst e;dsimp only;refine ya (wpAny_load hS' ?_);exact yg (h _ _ hc)
 refine xh (λ_=>?_) λ_=>?_
 ·refine ya (wpAny_rule ?_);refine ya ?_;show yo _ _ (updateSeq S (·.push .none) >>= λ_=>updateSeq S (·.pop)) _ _ _;refine ya (wpAny_updateSeq hL1 rfl ?_);have hL2:=yS (Xg (·.push Yt)) hL1 rfl;refine wpAny_updateSeq (hz:=by seq_fits) hL2 rfl ?_;have hL3:=yS (Xg (·.pop)) hL2 rfl;refine yg ⟨Xm F.plain_extend_loop _,YM (fin _ _ (λb o hb e=>?_) hL3) λr s' z=>?_⟩
  ·exact(Yl _ _ (yH hb)).trans ((Yl _ _ (yH hb)).trans e)
  ·cases r with
   |error e=>exact z.elim
   |ok f=>cases f<;>exact z
 ·refine yg ⟨Xm F.plain_extend_loop _,YM (fin _ _ (λb o hb e=>e) hL1) λr s' z=>?_⟩
  cases r with
  |error e=>exact z.elim
  |ok f=>cases f<;>exact z
end
end M
namespace M
open PySem PyProof.Rows
section
variable {prog:yB}{w:yL}{A:yR}{E:yb->ye->Prop}{s:ye}{a:yd}
def zMh:∀(ent:List (Int×yb)),ElemsOf (intKind prog w) ent->IntsAre (ent.map (·.2)) (ent.map zQj)
 |[],_ =>.nil
 |e::ent,h=>by
  obtain⟨⟨k,hk,_⟩,_⟩:=h e mem_cons_self;obtain⟨t,ht⟩:=Value.isInt_shape (show Value.isInt k e.2=true from hk);have:zQj e=k:=by unfold zQj;rw[ht]
  rw[map_cons,map_cons,ht,this];exact .cons k t (zMh ent λx hx=>h x (mem_cons_of_mem _ hx))
def zfw(s:ye)(ks:List Int)(p:yd)(s':ye):Prop :=
 ∃(out:Array yb)(ns:List Int)(e:Nat),s'.heap.get? p=some {cls:=.type "list",data:=.seq out e }/\IntsAre out.toList ns/\ns.Perm ks/\ns.Pairwise (·<=·)/\s.heap.objs.size<=p/\(∀b o,s.heap.get? b=some o->s'.heap.get? b=some o)/\s'.os=s.os/\s'.gens=s.gens
def zFr{ks:List Int}{Q:yb->ye->Prop}(hh:A.handled=none)(hS:TL prog w s.heap a ks)(h64:ks.length<64)(h:∀p s',zfw s ks p s'->Q (.ref p) s') :
 yo (yx prog w) A (call (.builtin "sorted") [.ref a]) Q E s:=by
 obtain⟨o,es,ep,t,ho,hex,hd,hf,hT,hel,hpk⟩:=hS
 have hlen:es.size=ks.length:=by
  have:=hpk.length_eq;simpa using this
 have hO:SOb s.heap a es ep t:=⟨o,ho,hex.1,hd,hf⟩
 refine Calls.call_function_entry kind_sorted plain_sorted entry_sorted (args_sorted1 _) ?_;unfold xw.«sorted»;refine ya (m:=checkCount "sorted" 1 1 _) (yg ?_);refine ya (zVp (A:=A.in1) hh hT hO (yG (YI (by omega:es.size<64)) (by rw[YA];decide)) λvs s1 hc=>?_);obtain⟨⟨ent,hp,rfl⟩,hk,hos,hgn,hsz⟩:=hc;have hel2:ElemsOf (intKind prog w) ent:=hel.perm hp;have hI:=zMh ent hel2
 have hl:ent.length=ks.length:=by
  rw[hp.length_eq];simpa using hlen
 refine ya (wpAny_newList ?_ (by simp;rw[YA];omega));have hnew:(s1.heap.push (seqObj "list" (ent.map (·.2)).toArray 0)).get? s1.heap.objs.size=some (seqObj "list" (ent.map (·.2)).toArray 0):=yn _ rfl;refine ya (yY (yW slot_list_sort ⟨_,hnew,rfl⟩ entry_list_sort (list_sort_tree hnew hI (by simp;omega) λout ns q1 q2 q3=>⟨_,rfl,?_⟩) (args_list_sort _)));obtain⟨e,he⟩:=sortedHeap_at (out:=out) hnew;refine yg ⟨_,rfl,h _ _ ⟨out,ns,e,he,q1,q2.trans ((hp.map zQj).trans hpk),q3,hsz,λb ob eb=>?_,hos,hgn⟩⟩;have hb1:=hk _ _ eb;have hlt1:b<s1.heap.objs.size:=ym hb1;show(sortedHeap (s1.heap.push (seqObj "list" (ent.map (·.2)).toArray 0)) s1.heap.objs.size (ent.map (·.2)) out).get? b=some ob;rw[sortedHeap_old (yt hlt1) (by rw[size_push'];exact Ys hlt1)];exact yc _ hb1
end
def zbA(ks:List Int)(k:Int):List Int:=if k∈ks then ks else ks++[k]
def uqN(val:Nat->Int):Nat->List Int
 |0=>[]
 |i+1=>zbA (uqN val i) (val i)
def zJp(val:Nat->Int):∀i,(uqN val i).length<=i
 |0=>yk _
 |i+1=>by
  have:=zJp val i;unfold uqN zbA
  split
  ·omega
  ·simp;omega
def zxu(val:Nat->Int)(k:Int):∀i,k∈uqN val i↔∃j,j<i/\val j=k
 |0=>by simp[uqN]
 |i+1=>by
  have ih:=zxu val k i;unfold uqN zbA;constructor
  ·intro h
   split at h
   ·obtain⟨j,h1,h2⟩:=ih.mp h;exact⟨j,by omega,h2⟩
   ·rcases List.mem_append.mp h with h|h
    ·obtain⟨j,h1,h2⟩:=ih.mp h;exact⟨j,by omega,h2⟩
    ·exact⟨i,by omega,by simpa using(List.mem_singleton.mp h).symm⟩
  ·rintro⟨j,h1,h2⟩
   by_cases e:j=i
   ·subst e
    split
    ·rename_i hm
     rw[<-h2];exact hm
    ·simp[h2]
   ·have:=ih.mpr ⟨j,by omega,h2⟩
    split
    ·exact this
    ·exact mem_append_left _ this
def z5n(val:Nat->Int):∀i,(uqN val i).Nodup
 |0=>nodup_nil
 |i+1=>by
  have ih:=z5n val i;unfold uqN zbA
  split
  ·exact ih
  ·rename_i hm
   rw[nodup_append];exact⟨ih,by simp,λa ha b hb e=>by simp at hb;subst hb;exact hm (e▸ha)⟩
section
variable {prog:yB}{w:yL}{A:yR}{R:Result->ye->Prop}{I:yd}{fp wr:List yd}{n:Nat}{P:Nat->yb->Prop}{St:Nat->yV->Prop}
def zPq(W:Walks prog w A.in1 I fp wr n P St)(S:yd)(hSf:S∉fp)(val:Nat->Int)(hval:∀i v,P i v->∃t,v=.int (val i) t)(hb:n+1<scanBound):∀(k i:Nat)(s:ye),n-i=k->i<=n->St i s.heap->TL prog w s.heap S (uqN val i) ->
 (∀h' tk,(∀b o,b∉S::wr->s.heap.get? b=some o->h'.get? b=some o)->TL prog w h' S (uqN val n)->R (.ok (.ret .none)) {s with heap:=h',toks:=tk })->Xw (yx prog w) A (.builtin "set.update.loop" ⟨[.ref S,.ref I],[]⟩) R s:=by
 have hSw:S∉wr:=λq=>hSf (W.sub _ q);intro k
 induction k with
 |zero=>
  intro i s hk hi st hS hR;have e:i=n:=by omega
  subst e;refine xi PyProof.Rows.F.entry_set_update_loop ?_;rw[YX xA _];show yo _ A.in1 (xQ (.ref I) >>= _) _ _ s;refine ya (W.done s _ _ st λh' tk hk'=>?_);exact yg (hR h' tk (λb o hb e=>hk' b o (λq=>hb (mem_cons_of_mem _ q)) e) (hS.at' λo e=>hk' S o hSw e))
 |succ k ih=>
  intro i s hk hi st hS hR;have hlt:i<n:=by omega
  refine xi PyProof.Rows.F.entry_set_update_loop ?_;rw[YX xA _];show yo _ A.in1 (xQ (.ref I) >>= _) _ _ s;refine ya (W.item i s _ _ hlt st λv h1 tk hP st1 hk1=>?_);obtain⟨t,rfl⟩:=hval i v hP;show yo _ A.in1 (xT [Value.int (val i) t] (setAdd S (.int (val i) t)) >>= _) _ _ _;refine ya (yY ?_);unfold setAdd;refine yY ?_;refine ya (wpAny_pyHash_int ?_);have hS1:TL prog w h1 S (uqN val i):=hS.at' λo e=>hk1 S o hSw e;refine zax (s:={s with heap:=h1,toks:=tk+1 }) hS1 (by have:=zJp val i;omega) λb h2 sb hS2=>?_;refine yg ⟨Xm xA _,ih (i+1) _ (by omega) hlt (W.frame _ _ _ st1 λc hc o e=>?_) hS2 λh3 tk3 hk3 hS3=>?_⟩
  ·exact sb.extBut c o (λq=>hSf (q▸hc)) e
  ·exact hR h3 tk3 (λc o hc e=>hk3 c o hc (sb.extBut c o (λq=>hc (by rw[q];exact mem_cons_self)) (hk1 c o (λq=>hc (mem_cons_of_mem _ q)) e))) hS3
end
section
variable {prog:yB}{w:yL}{A:yR}{E:yb->ye->Prop}{s:ye}
abbrev zTb(w:yL):YY:={cls:=.type "set",dict:=none,data:=.set #[] 0 (.fresh 0 0 (!w.params.followText "set-order"))}
def zau(a:yb){Q:yb->ye->Prop}(h:Q (.ref s.heap.objs.size) {s with heap:=s.heap.push (zTb w)}) :
 Xw (yx prog w) A (.call (.builtin "set.__new__") ⟨[.type "set",a],[]⟩) (wants Q E) s:=by
 refine codeAny_of_tree ?_;show yo _ A.in1 (do checkBuiltinCall "set.__new__" ⟨[.type "set",a],[]⟩;again (.builtin "set.__new__" ⟨[.type "set",a],[]⟩)) _ _ s;refine ya (wpAny_of_eq (PySem.F.newCall_set_1 a) (yg ⟨Xm PySem.F.plain_set_new _,xi PySem.F.entry_set_new ?_⟩));rw[YX PySem.F.plain_set_new _];unfold xw.«set.__new__» Builtin.Frozenset.newClass;have hsub:=PySem.sub_set_self;obtain⟨hp,g,d,tk,os⟩:=s;dsimp only
 wp_walk
 refine wpAny_askSetting (yg ?_);dsimp only;simp only[newObj];refine ya (wpAny_alloc (yg ?_));exact yg h
end
section
variable {prog:yB}{w:yL}{A:yR}{E:yb->ye->Prop}{s:ye}
def zGm(prog:yB)(w:yL)(s:ye)(ks:List Int)(s':ye):Prop :=
 TL prog w s'.heap s.heap.objs.size ks/\(∀b o,s.heap.get? b=some o->s'.heap.get? b=some o)/\∃h' tk,s' = {s with heap:=h',toks:=tk }
set_option maxHeartbeats 3200000 in
def z5o{l:yd}{its:Array yb}{ns:List Int}{Q:yb->ye->Prop}(hh:A.handled=none)(hl:s.heap.IsList l its)(hi:IntsAre its.toList ns)(hb:its.size+1<scanBound)
 (h:∀s',zGm prog w s (uqN (λi=>ns.getD i 0) its.size) s'->Q (.ref s.heap.objs.size) s'):yo (yx prog w) A (call (.type "set") [.ref l]) Q E s:=by
 obtain⟨c,tl,hmro⟩:=PySem.F.called_set.mro;have hmade:=PySem.F.called_set.made;have hsub:=PySem.F.called_set.sub;refine wpAny_call (codeAny_of_tree ?_);show yo _ _ (callAny (.type "set") _) _ _ _;refine yg ⟨Code.quiet_builtin _ (by decide +kernel),xi PySem.F.entry_type_call ?_⟩;rw[Around.under_plain (weight_type_call_type "set" [.ref l] []) rfl];have t1:=PySem.F.called_set.notType;have t2:=PySem.F.called_set.canCreate;have t3:=PySem.F.typeCall_set_1 (.ref l)
 repeat (any_goals (first|assumption|wp_step))
 refine YM (zau (w:=w) (.ref l) (E:=E) (Q:=λob s1=>ob=.ref s.heap.objs.size/\s1 = {s with heap:=s.heap.push (zTb w)}) ⟨rfl,rfl⟩) λr s1 hr=>?_
 cases r with
 |error e=>exact hr
 |ok fl=>
  cases fl with
  |ret ob=>
   obtain⟨rfl,rfl⟩:=hr;have hS:(s.heap.push (zTb w)).get? s.heap.objs.size=some (zTb w):=yn _ rfl;have hT:Shared.TypeIs {s with heap:=s.heap.push (zTb w)} (.ref s.heap.objs.size) "set":=⟨_,hS,rfl⟩
   have i1:=PySem.F.called_set.init.lookup;have i2:=PySem.F.called_set.init.bind (.ref s.heap.objs.size)
   repeat (any_goals (first|assumption|wp_step))
   refine YM (xW (R:=wants (λr s2=>r=.none/\zGm prog w s (uqN (λi=>ns.getD i 0) its.size) s2) E) PySem.F.called_set.init.plain PySem.F.entry_set_init (check_set_init_1 hT ?_)) λr2 s2 hr2=>?_
   ·obtain⟨ol,hol,hcl,nl,hdl⟩:=hl;obtain⟨ocls,odict,odata,oslots⟩:=ol;simp only at hcl hdl;subst hcl;subst hdl;have hlS:l<s.heap.objs.size:=ym hol;have hol1:(s.heap.push (zTb w)).get? l=some {cls:=.type "list",dict:=odict,data:=.seq its nl,slots:=oslots }:=yc _ hol;have n1:=PySem.F.sub_list_set;have n2:=PySem.F.sub_list_frozenset;have n3:(YK "list" == YK "dict")=false:=by decide
    have hl1:(s.heap.push (zTb w)).IsList l its:=⟨_,hol1,rfl,nl,rfl⟩
    unfold xw.«set.__init__» noKeywords Builtin.Frozenset.updateFrom;generalize hPI:pyIter=PI
    wp_walk
    subst hPI;refine xU hl1 ?_;refine ya (wpAny_runValue ?_);have hz:(s.heap.push (zTb w)).objs.size=s.heap.objs.size+1:=by rw[Yd]
    have hne:l≠(s.heap.push (zTb w)).objs.size:=by rw[hz];exact yt (Ys hlS)
    have hSf:s.heap.objs.size∉[(s.heap.push (zTb w)).objs.size,l]:=by
     rw[hz];simp only[mem_cons,not_mem_nil,or_false,not_or];exact⟨yt (Yu _),yT hlS⟩
    have hval:∀(i:Nat)(v:yb),its[i]?=some v->∃t,v=.int ((λi=>ns.getD i 0) i) t:=λi v hv=>IntsAre.int_at hi i v (by rw[Xs];exact hv);refine zPq (Walks.list (by simp[hh]) _ l hne its) s.heap.objs.size hSf (λi=>ns.getD i 0) hval hb (its.size-0) 0 _ (by omega) (YB _) ⟨⟨_,yn _ rfl,rfl,rfl⟩,hl1.push _⟩ ?s0 ?r0
    case s0=>
     exact⟨zTb w,#[],0,_,yc _ hS,⟨rfl,rfl,rfl⟩,rfl,rfl,.fresh _,λe he=>by simp at he,by simp[uqN]⟩
    case r0=>
     intro h' tk hk hS';refine yg ?_;show yo _ _ (ret Yt) _ _ _;refine yg ⟨rfl,hS',λb o e=>?_,h',tk,rfl⟩;have hlt:b<s.heap.objs.size:=ym e;refine hk b o ?_ (yc _ (yc _ e));rw[hz];simp only[mem_cons,not_mem_nil,or_false,not_or];exact⟨yt hlt,yt (Ys hlt)⟩
   ·cases r2 with
    |error e=>exact hr2
    |ok fl2=>
     cases fl2 with
     |ret r=>
      obtain⟨rfl,hm⟩:=hr2
      repeat (any_goals (first|assumption|wp_step))
      exact h _ hm
     |_=>exact hr2.elim
  |_=>exact hr.elim
end
end M
namespace M
open PySem PySem.Spec PyProof.Rows L2
section
variable {X:Cx}{pins:List (yd×YY)}{σ:L2.St}{H:Hp}{s s':ye}
def zzv(I:Inv X pins σ H s)(ho:s'.os=s.os)(hg:s'.gens=s.gens)(k:∀b u,s.heap.get? b=some u->s'.heap.get? b=some u):Inv X pins σ H s' :=
 I.SC (ch:=[]) ho (Un.kept k) (I.hok.kept k) (by rw[hg];exact I.bare) λb z=>nomatch z
def zfq{p:yd}{o:HO}(I:Inv X pins σ H s)(ho:s'.os=s.os)(hg:s'.gens=s.gens)(k:∀b u,s.heap.get? b=some u->s'.heap.get? b=some u)(hp:s.heap.objs.size<=p)(new:tG X.prog X.w (upd H p o) s'.heap p o):Inv X pins σ (upd H p o) s' :=
 I.SC (ch:=[]) ho (Un.laid k hp (I.hok.fresh hp)) (I.hok.laid k hp new) (by rw[hg];exact I.bare) λb z=>nomatch z
def zQe:∀{us:List yb} {ns:List Int},IntsAre us ns->Vals (ns.map V.int) us
 |_,_,.nil =>.nil
 |_,_,.cons n t r =>.cons ⟨t,rfl⟩ (zQe r)
def zOp(X:Cx)(p:yd)(ks:List Int):HO:=.ext λh=>TL X.prog X.w h p ks
def z5s(hc:X.calm=true):zRj X (.type "set") (λxs H Q=>∃(a:yd)(ns:List Int),xs=[.ref a]/\SqL X.K H a (ns.map V.int)/\ns.length+1<scanBound/\∀p,H p=none->Q (.ref p) (upd H p (zOp X p (uqN (λi=>ns.getD i 0) ns.length)))):=by
 intro pins s σ H xs us Q I r ⟨a,ns,e,hq,hb,k⟩;subst e;obtain⟨u,rfl,rx⟩:=vals1 r;cases rx;obtain⟨its,rv,pl,hz⟩:=I.list hq;have hl:its.length=ns.length:=by rw[<-rv.length];simp
 refine z5o (I.ok.hd hc) pl.isList (its:=its.toArray) (ns:=ns) (by simpa using zlf rv) (by simp;omega) λs' ⟨hS,hk,h',tk,e⟩=>?_;subst e;rw[show its.toArray.size=ns.length by simp;exact hl]at hS;refine⟨.ref s.heap.objs.size,_,I.laid (t':=tk) hk (yk _) (show tG X.prog X.w _ h' _ (zOp X _ _) from⟨hS,?_,λh1 h2 x y=>x.at' y⟩),rfl,k _ I.fresh⟩;obtain⟨o,_,_,_,ho,_⟩:=hS;exact⟨o,ho⟩
def zul(hc:X.calm=true):zRj X (.builtin "sorted") (λxs H Q=>∃(a:yd)(ks:List Int),xs=[.ref a]/\H a=some (zOp X a ks)/\ks.length<64/\∀(p:yd)(ns:List Int),H p=none->ns.Perm ks->ns.Pairwise (·<=·)->Q (.ref p) (upd H p (.lst (ns.map V.int)))):=by
 intro pins s σ H xs us Q I r ⟨a,ks,e,hq,h64,k⟩;subst e;obtain⟨u,rfl,rx⟩:=vals1 r;cases rx;obtain⟨hS,_,_⟩:=I.hok a _ hq;refine zFr (I.ok.hd hc) hS h64 λp s' ⟨out,ns,e,h1,h2,h3,h4,h5,h6,h7,h8⟩=>?_;have hl:ns.length=ks.length:=h3.length_eq;refine⟨.ref p,_,zfq I h7 h8 h6 h5 (show tG X.prog X.w _ s'.heap _ (.lst (ns.map V.int)) from⟨by simp;rw[YA];omega,out.toList,e,zQe h2,by simpa using h1⟩),rfl,k p ns (I.hok.fresh h5) h3 h4⟩
end
def zyB:D->Option Int
 |.int i=>some i
 |_=>none
def zBh(ds:List D):Option (List Int):=ds.mapM zyB
@[simp] theorem zDh:∀ns:List Int,zBh (ns.map D.int)=some ns
 |[]=>rfl
 |i::ns=>by
  have:=zDh ns;unfold zBh at this ⊢;rw[map_cons,mapM_cons,this];rfl
def zqe:∀{ds:List D} {ns:List Int},zBh ds=some ns->ds=ns.map D.int
 |[],ns,h=>by
  unfold zBh at h;simp at h;subst h;rfl
 |d::ds,ns,h=>by
  unfold zBh at h;rw[mapM_cons]at h;obtain⟨i,e1,h⟩:=zn h;obtain⟨r,e2,h⟩:=zn h;cases h
  cases d with
  |int j=>cases e1;rw[zqe (show zBh ds=some r from e2)];rfl
  |_=>cases e1
def zJg{K:yw}{ρ:List yd}{H:Hp}:∀{ns:List Int} {vs:List V},tj K ρ H (ns.map D.int) vs->vs=ns.map V.int
 |[],vs,r=>r.nil_inv
 |i::ns,vs,r=>by
  obtain⟨v,q,rfl,h1,h2⟩:=r.cons_inv;rw[h1.int_inv,zJg h2];rfl
def zUe{K:yw}{ρ:List yd}{H:Hp}:∀{ns:List Int},tj K ρ H (ns.map D.int) (ns.map V.int)
 |[] =>.nil
 |i::ns =>.cons .int zUe
def uqL(ns:List Int):List Int:=uqN (λi=>ns.getD i 0) ns.length
def zNp(ns:List Int):List Int:=(uqL ns).mergeSort λa b=>decide (a<=b)
def zPc{a b:List Int}(p:a.Perm b)(ha:a.Pairwise (·<=·))(hb:b.Pairwise (·<=·)):a=b:=p.eq_of_pairwise (λ_ _ _ _ h1 h2=>Int.le_antisymm h1 h2) ha hb
def zjh(ns:List Int):(ns.mergeSort λa b=>decide (a<=b)).Pairwise (·<=·):=by
 have:=List.pairwise_mergeSort (le:=λa b:Int=>decide (a<=b)) (λa b c h1 h2=>by simp at h1 h2 ⊢;omega) (λa b=>by simp;omega) ns;exact this.imp λh=>by simpa using h
def ztr(φ:FE):FE:=λδ μ=>(φ δ μ).bind λp=>match p.1 with
 |.loc n=>match p.2[n]? with
  |some (.lst ds)=>(zBh ds).bind λns=>bif decide (ns.length<=4000/\(uqL ns).length<64) then some (.loc p.2.length,p.2++[.lst ((zNp ns).map .int)]) else none
  |_=>none
 |_=>none
section
variable {X:Cx}{a b c e:yF}{es:List yF}{φ ψ χ:FE}{pos pos2 p1 p2:xC}
def zts(hm1:X.mg "sorted"=none)(hv1:yQ "sorted"=some (.builtin "sorted"))(hm2:X.mg "set"=none)(hv2:yQ "set"=some (.type "set"))(h:ME X e φ)(hc:X.calm=true:=by rfl)(hg1:Gl X "sorted":=by rfl)(hg2:Gl X "set":=by rfl)
 (he:yj [e] X.env=(false,Yh e X.env)::yj [] X.env:=by rfl) (he2:yj [.Call (.Name "set" p2) [e] [] pos2] X.env=(false,Yh (.Call (.Name "set" p2) [e] [] pos2) X.env)::yj [] X.env:=by rfl) :
 ME X (.Call (.Name "sorted" p1) [.Call (.Name "set" p2) [e] [] pos2] [] pos) (ztr φ) :=
 zjd (zLm (zul hc) hg1 hm1 hv1 (zQc (zxe (z5s hc) hg2 hm2 hv2 (zQc h zmf he) (by decide) (by decide) he rfl) zmf he2) (by decide) (by decide) he2 rfl) λρ δ μ σ H d μ' Q A e k=>by
  obtain⟨⟨x,μ1⟩,e1,e⟩:=zn e;refine⟨ρ,δ,μ,x,μ1,A,e1,λρ1 H1 v x1 R1 r1=>?_⟩;dsimp only at e
  split at e
  ·split at e
   ·rename_i hm
    obtain⟨ns,e2,e⟩:=zn e;obtain⟨hb,e⟩:=zY e;have hb:=of_decide_eq_true hb;cases e;rw[zqe e2]at hm;obtain⟨p,rfl,ep⟩:=r1.tz;obtain⟨vs,e3,q⟩:=R1.at_ _ _ _ ep hm;rw[zJg q]at e3;refine⟨p,ns,rfl,SqL.of e3,by unfold scanBound;omega,λp1 hp1=>?_⟩;refine⟨p1,uqL ns,rfl,zG,hb.2,λp2 ms hp2 hpm hpw=>?_⟩;have hms:ms=zNp ns:=zPc (hpm.trans (mergeSort_perm _ _).symm) hpw (zjh _);subst hms;have R2:=R1.Tp (o:=zOp X p1 (uqL ns)) hp1;exact k _ _ _ (x1.trans ((Ext.new hp1).trans (Ext.push hp2))) (R2.push hp2 ⟨_,zG,zUe⟩) (.loc (zFb R2))
   ·cases e
  ·cases e
end
section
variable {prog:yB}{w:yL}{A:yR}{E:yb->ye->Prop}{s:ye}
def zHr{l b:yd}{its its2:List yb}{n:Nat}{Q:yb->ye->Prop}(hl:s.heap.get? l=some {cls:=.type "list",data:=.seq its.toArray n })(hb:IsTup s.heap b its2.toArray)(hz:its.length+its2.length<=yE)
 (h:Q .none {s with heap:=s.heap.update l (Xg (· ++ its2.toArray))}):yo (yx prog w) A (call (.builtin "list.extend") [.ref l,.ref b]) Q E s:=by
 obtain⟨o,ho,hc,m,hd⟩:=hb
 have hlong:¬(!its.toArray.isEmpty&&xp (its.toArray.size+its2.toArray.size))=true:=by
  rw[sP (by rw[size_toArray,size_toArray];exact hz),Bool.and_false];exact yC
 refine yW PySem.F.slot_list_extend ⟨_,hl,rfl⟩ PySem.F.entry_list_extend ?_ (PySem.F.args_list_extend_2 _ _);unfold xw.«list.extend»;refine ya (m:=selfAndOne "list.extend" ⟨[.ref l,.ref b],[]⟩) (yg ?_);dsimp only;unfold Yz;refine ya (XE (T:="tuple") ⟨o,ho,hc⟩ ?_);have ht:(YK "tuple" == YK "tuple")=true:=by rfl
 rw[if_pos (by rw[ht];simp)];refine ya (listItems_at ho hd ?_);refine ya (listItems_at hl rfl ?_);rw[if_neg hlong];refine ya (listUpdate_at hl rfl ?_ (by rw[size_toArray];omega) (by rw[Array.size_append,size_toArray,size_toArray];omega));exact yg ⟨_,rfl,h⟩
end
section
variable {X:Cx}{a b c e:yF}{es:List yF}{φ ψ χ:FE}{pos:xC}
@[simp] def z5x:GM:=λx ds μ=>match x,ds with
 |.loc n,[.tup ys]=>match μ[n]? with
  |some (.lst xs)=>bif decide (xs.length+ys.length<=1000000) then some (.non,μ.set n (.lst (xs++ys))) else none
  |_=>none
 |.loc n,[.loc m]=>match μ[n]?,μ[m]? with
  |some (.lst xs),some (.lst ys)=>bif decide (xs.length+ys.length<=1000000) then some (.non,μ.set n (.lst (xs++ys))) else none
  |_,_=>none
 |_,_=>none
def zlr:MtG X "list.extend" z5x:=by
 refine MtG.of λpins s σ H x xs v us Q I rx rs ρ dx ds μ d μ' r1 r2 R e k=>?_;have hmi:=Ts;unfold z5x at e
 split at e
 ·split at e
  ·rename_i hm
   obtain⟨h1,e⟩:=zY e;have h1:=of_decide_eq_true h1;cases e;obtain⟨l,rfl,ea⟩:=r1.tz;obtain⟨vs,e3,q3⟩:=R.at_ _ _ _ ea hm;obtain⟨w,r,rfl,q1,q2⟩:=r2.cons_inv;rw[q2.nil_inv]at rs;obtain⟨b,ws,rfl,eb,qb⟩:=q1.tR;obtain⟨u,rfl,ru⟩:=vals1 rs;cases ru;cases rx;obtain⟨z,its,n,rv,hl,el⟩:=I.Sc e3;obtain⟨its2,rv2,pt,_⟩:=I.tuple (SqT.of (K:=X.K) eb);have hl1:=q3.length;have hl2:=qb.length;have hl3:=rv2.length;have hmu:Mut (H l):=by rw[e3];trivial
   refine zHr el pt (by omega) ?_;refine⟨.non,_,I.lset (t':=s.toks) (ys:=vs++ws) (its':=its++its2) e3 el (by simp) (rv.append rv2) (by rw[length_append];omega),rfl,?_⟩;exact k ρ _ _ (Ext.wr hmu) (R.wr hmu ea ⟨_,zG,tj.ext (Ext.wr hmu) (q3.append qb)⟩) .non
  ·cases e
 ·split at e
  ·rename_i hm1 hm2
   obtain⟨h1,e⟩:=zY e;have h1:=of_decide_eq_true h1;cases e;obtain⟨l,rfl,ea⟩:=r1.tz;obtain⟨vs,e3,q3⟩:=R.at_ _ _ _ ea hm1;obtain⟨w,r,rfl,q1,q2⟩:=r2.cons_inv;rw[q2.nil_inv]at rs;obtain⟨b,rfl,eb⟩:=q1.tz;obtain⟨ws,e4,q4⟩:=R.at_ _ _ _ eb hm2;have hl1:=q3.length;have hl2:=q4.length;have hmu:Mut (H l):=by rw[e3];trivial
   refine zJt pins s σ H _ _ v us Q I rx rs ⟨l,b,vs,ws,rfl,rfl,e3,e4,by omega,?_⟩;exact k ρ _ _ (Ext.wr hmu) (R.wr hmu ea ⟨_,zG,tj.ext (Ext.wr hmu) (q3.append q4)⟩) .non
  ·cases e
 ·cases e
def z1n{o:yF}{ψ:FA}{apos:xC}(ho:ME X o φ)(ha:MAn X (e::es) ψ)
 (hbase:YL o "extend" X.env (Yh o X.env)=Yh o X.env:=by rfl)
 (hfew:((Yo pos (yj (e::es) X.env)).all (λx=>!x.1)&&(xV pos (YS [] X.env)).all (λx=>x.1.isSome)
  && decide ((e::es).length+([]:List xN).length+(if([]:List xN).isEmpty then 0 else 1)<30))=true:=by rfl)
 (hline:(apos.endLine==pos.line)=true:=by rfl) (hs:yj (e::es) X.env=(false,Yh e X.env)::yj es X.env:=by rfl) (hplain:(Yo pos (yj es X.env)).any (·.1)=false:=by rfl) :
 ME X (.Call (.Attribute o "extend" apos) (e::es) [] pos) (zFi z5x φ ψ):=zmn PySem.F.slot_list_extend PySem.F.type_list_extend zlr ho ha hbase hfew hline hs hplain
@[simp] def zzy:GL:=λds μ=>match ds with
 |[.loc n]=>match μ[n]? with
  |some (.lst xs)=>(zBh xs).bind λns=>some (.int ns.sum,μ)
  |_=>none
 |_=>none
def zRo(ns:List Int):∀i,i<=ns.length->preSum (λj=>ns.getD j 0) i=(ns.take i).sum
 |0,_=>by simp[preSum]
 |i+1,h=>by
  have ih:=zRo ns i (by omega);unfold preSum;have hi:i<ns.length:=by omega
  have e:ns.take (i+1)=ns.take i++[ns[i]]:=by simp
  rw[ih,e,List.sum_append];simp[hi]
def zou(hc:X.calm=true):Ti X (.builtin "sum") zzy:=by
 refine Ti.of λpins s σ H xs us Q I r ρ ds μ d μ' r1 R e k=>?_;unfold zzy at e
 split at e
 ·split at e
  ·rename_i hm
   obtain⟨ns,e2,e⟩:=zn e;cases e;rw[zqe e2]at hm;obtain⟨v,rr,rfl,q1,q2⟩:=r1.cons_inv;obtain⟨a,rfl,ea⟩:=q1.tz;obtain⟨vs,e3,q3⟩:=R.at_ _ _ _ ea hm;rw[zJg q3]at e3;rw[q2.nil_inv]at r;obtain⟨u,rfl,ru⟩:=vals1 r;cases ru;obtain⟨its,rv,pl,hz⟩:=I.list (SqL.of (K:=X.K) e3);have hlt:a<s.heap.objs.size:=by obtain⟨_,_,e,_⟩:=pl;exact ym e
   have hI:=zlf rv;have hl:its.length=ns.length:=by rw[<-rv.length];simp
   refine call_sum_walkAnyS (xU pl.isList ?_);refine⟨_,_,_,_,_,_,_,λj=>ns.getD j 0,rfl,(Walks.list (A:=X.A.in1) (I.ok.hd hc) s.heap.objs.size a (yt hlt) its.toArray).toS,⟨⟨_,yn _ rfl,rfl,rfl⟩,pl.isList.push _⟩,λb hb=>?_,λi v hv=>IntsAre.int_at hI i v (by simpa using hv),λs' t' hmv=>?_⟩
   ·show b<(s.heap.push _).objs.size;rw[Yd];simp at hb;rcases hb with rfl|rfl
    ·exact Yu _
    ·exact Ys hlt
   ·refine⟨.int _,H,zzv I hmv.os hmv.gens λb o e=>hmv.heap b o (by simpa using yt (ym e)) (yc _ e),⟨t',rfl⟩,?_⟩;rw[size_toArray,hl,zRo ns _ (yk _),take_length];exact k ρ H _ Ext.refl R .int
  ·cases e
 ·cases e
@[simp] def zmh(φ:FE):FI:=λδ μ=>(φ δ μ).bind λp=>match p.1 with
 |.tup ds=>some (ds,yes,p.2)
 |.fz ds=>some (ds,yes,p.2)
 |.loc n=>match p.2[n]? with
  |some (.lst ds)=>some (ds,z4j n ds,p.2)
  |_=>none
 |_=>none
def zhd{tg:yF}(h:ME X a φ):MI X tg a (zmh φ):=by
 intro pins s σ H R I hh;obtain⟨ρ,δ,μ,ds,ok,μ',A,e,k⟩:=hh
 cases e1:φ δ μ with
 |none=>unfold zmh at e;rw[e1]at e;cases e
 |some p=>
  obtain⟨x,μ1⟩:=p
  cases x with
  |tup zs=>exact zNz h pins s σ H R I ⟨ρ,δ,μ,ds,ok,μ',A,by unfold zmh at e;unfold z4v;rw[e1]at e ⊢;exact e,k⟩
  |fz zs=>exact zZs h pins s σ H R I ⟨ρ,δ,μ,ds,ok,μ',A,by unfold zmh at e;unfold zbt;rw[e1]at e ⊢;exact e,k⟩
  |loc n=>exact zZs h pins s σ H R I ⟨ρ,δ,μ,ds,ok,μ',A,by unfold zmh at e;unfold zbt;rw[e1]at e ⊢;exact e,k⟩
  |_=>unfold zmh at e;rw[e1]at e;cases e
end
def zbo{K:yw}{h:yV}{C:yd}{bmB:List yb}{newId:String}(X:K.In h)(q:W.excIn K C bmB newId=true) :
 ∃bm N nm qn bs hdct sn sub ab col dd k0 k1 k2 k3 k5 mN,h.get? C=some (xu nm qn C N bs bm hdct sn sub ab col dd k0 k1 k2 k3 k5 newId)/\h.Ns N mN/\mN "__init__"=none/\OwnTail h bmB bm:=by
 unfold W.excIn at q
 split at q
 ·rename_i dd cd sl ho
  split at q
  ·rename_i C' bm k0 k1 k2 k3 n k5 hm hs
   simp only[yO,beq_iff_eq,Bool.not_eq_true']at q;obtain⟨⟨⟨⟨⟨rfl,rfl⟩,hdel⟩,ht⟩,hok⟩,hni⟩:=q;obtain⟨nm,bs,mro,ns,qn,hd,sn,sub,ab,col,del⟩:=cd;dsimp only at hm hdel hok hni;subst hm hdel
   have hsl:sl = #[k0,k1,k2,k3,some (.builtin n),k5]:=by
    obtain⟨l⟩:=sl;simp only at hs;rw[hs]
   subst hsl;exact⟨bm,ns,nm,qn,bs,hd,sn,sub,ab,col,dd,k0,k1,k2,k3,k5,_,X _ _ ho,.of_isNs (W.isNs_of_in X hok),W.nsMap_none_of_in X hok hni,W.tail_of_in X ht⟩
  ·cases q
 ·cases q
section
variable {X:Cx}{e:yF}{es:List yF}{pos np cpos:xC}{x:yy}{C:yd}{B newId initId:String}{bmB:List yb}
@[simp] def zQo(c:yy)(φ:FA):FS:=λδ μ=>(φ δ μ).bind λp=>some (.exc c [] p.2)
def zcr{φ:FA}(hn:Yq X.K yp x=some (some (.ref C)))(q:W.excIn X.K C bmB newId=true)(FB:ExcBaseFacts B newId initId bmB)(ha:MAn X (e::es) φ)(hl:(e::es).length<=1000:=by decide)(hh:X.calm=true:=by rfl)(hg:Gl X x:=by rfl)
 (he:yj (e::es) X.env=(false,Yh e X.env)::yj es X.env:=by exact z6c rfl) (hpl:(Yo cpos (yj es X.env)).any (·.1)=false:=by rfl) (hdb:(x==("__debug__":yy))=false:=by decide) :
 MS X (.Raise (some (.Call (.Name x np) (e::es) [] cpos)) none pos) (zQo x φ):=by
 intro pins s σ H D I ⟨ρ,δ,μ,o,A,eo,k⟩;obtain⟨⟨ds,μ1⟩,e1,eo⟩:=zn eo;cases eo;obtain⟨bm,N,nm,qn,bs,hdct,sn,sub,ab,col,dd,k0,k1,k2,k3,k5,mN,hC,hN,hni,T⟩:=zbo I.mod.kin q
 have hpl':(Yo cpos (yj (e::es) X.env)).any (·.1)=false:=by
  rw[he];show(false||(Yo cpos (yj es X.env)).any (·.1))=false;rw[hpl];rfl
 refine wpAny_Raise_call_subT (C:=C) (nm:=nm) (q:=qn) (N:=N) (bs:=bs) (bm:=bm) (hdct:=hdct) (sn:=sn) (sub:=sub) (ab:=ab) (col:=col) (dd:=dd) (k0:=k0) (k1:=k1) (k2:=k2) (k3:=k3) (k5:=k5)
  FB (mN:=mN) (T.hasType FB.hasBase) (I.ok.hd hh) hpl' hni (z6f I hg (xO I.mod.kin I.mod.glob hn) ⟨rfl,?_⟩ hdb)
 have h:=ha.ma cpos pins s σ H (λvs H'=>vs.length<=yE/\zXm X (.ref C) none H') I ⟨ρ,δ,μ,ds,μ1,A,e1,λρ' H' vs x' R r=>⟨by
  rw[<-r.length,ha.len _ _ _ _ e1];exact YI (sA hl),k ρ' H' C none hn x' R (.inl ⟨rfl,rfl⟩)⟩⟩
 rw[he]at h ⊢;refine Calls.evalArgs_plain (Yb h (λus s2 h2=>?_) λ_ _ y=>y);obtain⟨vs,H',I',r,hl,hw⟩:=h2;exact⟨rfl,by rw[<-r.length];exact hl,I'.bk _ _ hC,hN.keeps I'.bk,T.keeps I'.bk,λh' a hm=>hw pins σ H' s2 (.ref a) _ I' (I'.madeX hm)⟩
end
inductive RO where
 |ok (d:D) (μ:Mem)
 |exc (c:yy) (fs:List (yy×D)) (μ:Mem)
abbrev FX:=List D->Mem->Option RO
def ROk(K:yw)(ρ:List yd)(H:Hp)(Q:VK)(E:XK):RO->Prop
 |.ok d μ'=>∀ρ' H' v,Ext ρ H ρ' H'->tI K ρ' H' μ'->tx K ρ' H' d v->Q v H'
 |.exc c fs μ'=>∀ρ' H' C dx,Yq K yp c=some (some (.ref C))->Ext ρ H ρ' H'->tI K ρ' H' μ'->Sm K ρ' H' fs dx->E (.ref C) dx H'
def ROk.ext{K:yw}{ρ ρ1:List yd}{H H1:Hp}{Q:VK}{E:XK}{r:RO}(h:ROk K ρ H Q E r)(x:Ext ρ H ρ1 H1):ROk K ρ1 H1 Q E r:=by
 cases r with
 |ok d μ=>exact λρ' H' v x' R r=>h ρ' H' v (x.trans x') R r
 |exc c fs μ=>exact λρ' H' C dx hc x' R r=>h ρ' H' C dx hc (x.trans x') R r
def spX(K:yw)(n:Nat)(F:FX):Sp:=λvs H Q E=>vs.length=n/\∃ρ ds μ r,tj K ρ H ds vs/\tI K ρ H μ/\F ds μ=some r/\ROk K ρ H Q E r
@[simp] def zoy:Option Out->Option RO
 |some (.ret d μ)=>some (.ok d μ)
 |some (.next _ μ)=>some (.ok .non μ)
 |some (.exc c fs μ)=>some (.exc c fs μ)
 |_=>none
def fnX{P:yB}{w:yL}{K:yw}{mg:yy->Option yb}{base:yV}{x qual:yy}{st:Yi}{f:yd}{fd:yi}{N ps:List yy}{k n:Nat}{F:FX}(G:Fun K x qual st f fd)(S:tu N ps (zB st))(hn:ps.length=n)
 (hbody:∀(cdv:yb)(A:yR)(outer:List Env)(s:ye)(H:Hp)(E:XK),tS k (A.deeper (envOfC qual (zB st) s.heap.objs.size f cdv)) ->
  ∃p,MSs (zms (CXq P w) P w K mg base N qual (zB st) f cdv A outer s H E) (zNc st) p/\∀ds μ r,ds.length=n->F ds μ=some r->zoy (p (zU N ds) μ)=some r) :
 tq P w K mg base (CXq P w) (k+1) f fd ps (spX K n F):=by
 obtain⟨oc,od,kV,doc,pm,an,cdv,ct,osl,rfl,lk,hcd⟩:=G.ex;refine zWy lk hcd S (λvs H Q E h=>by rw[hn];exact h.1) λA outer s H vs Q E hr h=>?_;obtain⟨p,hp,hF⟩:=hbody cdv A outer s H E hr;refine⟨_,hp,?_⟩;obtain⟨hl,ρ,ds,μ,r,rv,R,e,hk⟩:=h;have e':=hF ds μ r (by rw[rv.length];exact hl) e
 cases eo:p (zU N ds) μ with
 |none=>rw[eo]at e';cases e'
 |some o=>
  rw[eo]at e';refine⟨ρ,zU N ds,μ,o,zlq rv R,eo,?_⟩
  cases o with
  |ret d2 μ2=>cases e';exact λρ' v H' x' R' r'=>hk ρ' H' v x' R' r'
  |next δ2 μ2=>cases e';exact λρ' σ' H' x' A'=>hk ρ' H' .non x' A'.hp .non
  |exc c fs μ2=>cases e';exact λρ' H' C dx hc x' R' r'=>z3r (hk ρ' H' C dx hc x' R' r')
  |brk _ _=>cases e'
  |cont _ _=>cases e'
section
variable {X:Cx}{e:yF}{es:List yF}{pos p spos:xC}{x:yy}{k j n:Nat}{st:Yi}{f:yd}{fd:yi}{ps:List yy}{F:FX}{φ:FA}
def passF{P:yB}{w:yL}:zZg (CXq P w) X E0:=λ_ _ _ _ _ _ _ ⟨_,_,_,_,q⟩=>q.elim
@[simp] def ziB:Option RO->Option (D×Mem)
 |some (.ok d μ)=>some (d,μ)
 |_=>none
def z5q{r:Option RO}{d:D}{μ:Mem}(h:ziB r=some (d,μ)):r=some (.ok d μ):=by
 cases r with
 |none=>cases h
 |some r=>cases r<;>cases h;rfl
@[simp] def z0i(F:FX)(φ:FA):FE:=λδ μ=>(φ δ μ).bind λp=>ziB (F p.1 p.2)
def mcallX(B:FnAt X.K X.mg x st ps f fd)(G:tq X.prog X.w X.K X.mg X.base (CXq X.prog X.w) j f fd ps (spX X.K n F))(hr:tS k X.A)
 (ha:MAn X (e::es) φ) (hj:j<=k:=by decide) (hn:(e::es).length=n:=by rfl) (hg:Gl X x:=by rfl) (hdb:(x==("__debug__":yy))=false:=by decide) (he:yj (e::es) X.env=(false,Yh e X.env)::yj es X.env:=by exact z6c rfl) (hpl:(Yo pos (yj es X.env)).any (·.1)=false:=by rfl) :
 ME X (.Call (.Name x p) (e::es) [] pos) (z0i F φ) :=
 zjd (zLt G (hr.mono hj) hg B.at_ B.fn.kp B.bd .nil passF ha.ma hdb he hpl) λρ δ μ σ H d μ' Q A eo kk=>by
  obtain⟨⟨ds,μ1⟩,e1,eo⟩:=zn eo;refine⟨ρ,δ,μ,ds,μ1,A,e1,λρ1 H1 vs x1 R1 r1=>?_⟩;show spX X.K n F (vs++[]) H1 Q E0;rw[append_nil];exact⟨by rw[<-r1.length,ha.len _ _ _ _ e1];exact hn,ρ1,ds,μ1,.ok d μ',r1,R1,z5q eo,λρ2 H2 v x2 R2 r2=>kk ρ2 H2 v (x1.trans x2) R2 r2⟩
def tCX(K:PySem.W.Frag)(W:XK)(n:Nat)(F:FX)(φ:FA):TE:=z1r (spX K n F) [] W (tMA K φ)
def zTz{K:PySem.W.Frag}{W:XK}{ρ:List yd}{δ:Loc}{μ:Mem}{σ:L2.St}{H:Hp}{Q:VK}{ds:List D}{μ1:Mem}{r:RO}(A:At K ρ H σ δ μ)(e1:φ δ μ=some (ds,μ1))(hl:ds.length=n)(e2:F ds μ1=some r)(h:ROk K ρ H Q W r):tCX K W n F φ σ H Q :=
 ⟨ρ,δ,μ,ds,μ1,A,e1,λρ1 H1 vs x1 R1 r1=>by
  show spX K n F (vs++[]) H1 Q W;rw[append_nil];exact⟨by rw[<-r1.length];exact hl,ρ1,ds,μ1,r,r1,R1,e2,h.ext x1⟩⟩
@[simp] def zmB(F:FX)(φ:FA)(g:D->Loc->Mem->Out):FS:=λδ μ=>(φ δ μ).bind λp=>match F p.1 p.2 with
 |some (.ok d μ')=>some (g d δ μ')
 |some (.exc c fs μ')=>some (.exc c fs μ')
 |none=>none
def zNu{g:D->Loc->Mem->Out}{δ:Loc}{μ:Mem}{o:Out}(h:zmB F φ g δ μ=some o):∃ds μ1 r,φ δ μ=some (ds,μ1)/\F ds μ1=some r/\o=match r with
 |.ok d μ'=>g d δ μ'
 |.exc c fs μ' =>.exc c fs μ':=by
 obtain⟨⟨ds,μ1⟩,e1,h⟩:=zn h;refine⟨ds,μ1,?_⟩
 cases e2:F ds μ1 with
 |none=>rw[e2]at h;cases h
 |some r=>
  rw[e2]at h
  cases r with
  |ok d μ'=>cases h;exact⟨_,e1,rfl,rfl⟩
  |exc c fs μ'=>cases h;exact⟨_,e1,rfl,rfl⟩
@[simp] def zSq(F:FX)(φ:FA):FS:=zmB F φ λ_ δ μ =>.next δ μ
end
end M
namespace L2
open PySem PySem.Spec PyProof.Rows
section
variable {X:Cx}{pins:List (yd×YY)}{σ:St}{H:Hp}{s:ye}
def zxm{M:Model}{A:yR}{E:yb->ye->Prop}{i:Nat}{x:yy}{pos:xC}{Q:Unit->ye->Prop}(I:Inv X pins σ H s)(hN:X.N.Nodup)(hi:X.N[i]?=some x)(hk:X.env.scope.names.lookup x=some .local)
 (h:∀s',Inv X pins (σ.set i none) H s'->Q () s'):yo M A (do bindName X.env x .none;unbindBehindTheSuite X.env x pos) Q E s:=by
 obtain⟨m,hn,hl⟩:=id I.loc;have hcls:(X.env.scope.kind == .class||(X.env.scope.kind == .module&&X.env.locals != X.env.globals))=false:=by rw[I.ok.kind];rfl
 have hiσ:i<σ.length:=by rw[I.len];exact(List.getElem?_eq_some_iff.mp hi).1
 refine wpAny_nameGoes_keeps hk hn hcls λh' v hn' hs=>?_;have old:∀b o,X.s₀.heap.get? b=some o->b≠X.env.locals:=λb o e=>yt (yA (ym e) I.ok.above)
 have hok:HOk X.prog X.w H h':=λb ob e=>by
  refine(I.hok b ob e).stay (λc w' hc q=>(hs.2 c ?_).trans q) (λ_ q=>q) λ_ _ q=>q;rintro rfl;rcases hc with rfl|hc
  ·rw[I.free]at e;cases e
  ·rw[I.free]at hc;cases hc
 refine h _ ⟨I.ok,I.os,I.bare,⟨λb o e n hb hx=>(hs.2 b (old b o e)).trans (I.base.keep b o e n hb hx),λb o e n hb hx=>?_,I.base.free,λb o e hx=>?_,I.base.tups,I.base.TF,I.base.TN⟩,⟨_,hn',λj y v' e1 e2 e3=>?_⟩,λy c e=>?_,I.free,I.freeC,λp hp=>?_,hok,by simpa using I.len⟩
 ·obtain⟨sl,e1⟩:=I.base.slot b o e n hb hx;exact⟨sl,(hs.2 b (old b o e)).trans e1⟩
 ·obtain⟨o',e1⟩:=I.base.there b o e hx;exact⟨o',(hs.2 b (old b o e)).trans e1⟩
 ·by_cases hj:j=i
  ·subst hj;rw[yI hiσ]at e2;cases e2
  ·rw[yK (yH hj)]at e2;obtain⟨u',r',q⟩:=hl j y v' e1 e2 e3;refine⟨u',r',?_⟩;rcases q with ⟨k,e⟩|⟨k,c,e,z⟩
   ·refine .inl ⟨k,?_⟩;have:y≠x:=λe=>hj (z0m hN e1 (e▸hi));simp[this,e]
   ·exact .inr ⟨k,c,e,z.sameBut hs (I.cne y c e)⟩
 ·obtain⟨w',z⟩:=I.cell y c e;exact⟨w',z.sameBut hs (I.cne y c e)⟩
 ·obtain⟨p1,p2,p3,p4,p5⟩:=I.pin p hp;exact⟨(hs.2 p.1 p3).trans p1,p2,p3,p4,p5⟩
abbrev Cx.suite(X:Cx)(v:yb):Cx:={X with A:=X.A.mark (some v),calm:=false,xe:=λ_ _=>False }
def Inv.suite(I:Inv X pins σ H s)(v:yb):Inv (X.suite v) pins σ H s :=
 ⟨⟨I.ok.mod,I.ok.kind,I.ok.glob,I.ok.blt,I.ok.above,I.ok.inj,I.ok.has,I.ok.cab,λz=>absurd z (by simp),I.ok.frames,I.ok.stk,I.ok.exf,I.ok.bs,I.ok.bsz,I.ok.SJ,I.ok.SM,I.ok.sx,I.ok.frf⟩,
  I.os,I.bare,I.base,I.loc,I.cell,I.free,I.freeC,I.pin,I.hok,I.len⟩
def Inv.Tv{v:yb}(ok:X.Ok)(I:Inv (X.suite v) pins σ H s):Inv X pins σ H s :=
 ⟨ok,I.os,I.bare,I.base,I.loc,I.cell,I.free,I.freeC,I.pin,I.hok,I.len⟩
def HOk.SN{P:yB}{w:yL}{h:yV}{a:yd}{o:HO}(x:HOk P w H h)(hn:H a=none)(new:tG P w (upd H a o) h a o):HOk P w (upd H a o) h:=λb u e=>by
 by_cases hb:b=a
 ·subst hb;rw[zG]at e;cases e;exact new
 ·rw[zN hb]at e;exact(x b u e).stay (λc v _ q=>q) (λc q=>by rw[zN (zI q hn)];exact q) λc xs q=>by rw[zN (zI q hn)];exact q
end
section
variable {M:Model}{A:yR}{E:yb->ye->Prop}{h:yV}{g:Array GenState}{d:Drawn}{t:Nat}{os:OsState}
def z1g{nm q:yy}{C N:yd}{bs bm:List yb}{hdct:Bool}{sn:List yy}{sub:List yb}{ab:Bool}{col:Option Bool}{dd:Option yd}{k0 k1 k2 k3 k5:Option yb}{newId:String}
 {nm' q':yy} {C' N':yd} {bs' bm':List yb} {SQ:Bool} {sn':List yy} {sub':List yb} {ab':Bool} {col':Option Bool} {dd':Option yd} {k0' k1' k2' k3' k5':Option yb} {newId':String} {e:yd} {oe:YY} {b:Bool} {Q:Bool->ye->Prop}
 (hC:h.get? C=some (xu nm q C N bs bm hdct sn sub ab col dd k0 k1 k2 k3 k5 newId)) (hC':h.get? C'=some (xu nm' q' C' N' bs' bm' SQ sn' sub' ab' col' dd' k0' k1' k2' k3' k5' newId'))
 (he:h.get? e=some oe) (hcls:oe.cls=.ref C) (hbase:bm'.contains (.type "BaseException")=true) (hb:(yM C::bm).contains (.ref C')=b) (hq:Q b ⟨h,g,d,t,os⟩):yo M A (excMatches (.ref e) (.ref C')) Q E ⟨h,g,d,t,os⟩:=by
 have hcB:(yM C'::bm').contains (.type "BaseException")=true:=by rw[List.contains_cons,hbase,Bool.or_true]
 have f:=tc_notTuple;unfold excMatches
 cases b with
 |true=>
  repeat (first|(with_reducible refine YT he ?_;rw[hcls])|with_reducible refine YT hC' ?_|(with_reducible refine xB hC' ?_;rw[hcB])|(with_reducible refine xB hC ?_;rw[hb])|wp_step)
  exact hq
 |false=>
  repeat (first|(with_reducible refine YT he ?_;rw[hcls])|with_reducible refine YT hC' ?_|(with_reducible refine xB hC' ?_;rw[hcB])|(with_reducible refine xB hC ?_;rw[hb])|wp_step)
  exact hq
end
def zDs{K:yw}{h:yV}{C:yd}{v:yb}{b:Bool}{nm q:yy}{N:yd}{bs bm:List yb}{hdct:Bool}{sn:List yy}{sub:List yb}{ab:Bool}{col:Option Bool}{dd:Option yd}{k0 k1 k2 k3 k5:Option yb}{newId:String}(X:K.In h)(e:W.mroIn K C v=some b)
 (hC:h.get? C=some (xu nm q C N bs bm hdct sn sub ab col dd k0 k1 k2 k3 k5 newId)):(yM C::bm).contains v=b:=by
 obtain⟨cd,a,z⟩:=Option.bind_eq_some_iff.mp e;unfold W.clsIn at a
 split at a
 ·rename_i ho
  cases a;have:=X _ _ ho;rw[hC]at this;cases this
  split at z
  ·cases z
  ·cases z;rfl
 ·cases a
end L2
namespace M
open PySem PySem.Spec PyProof.Rows L2
def XP(X:Cx)(pins:List (yd×YY))(σ:L2.St)(W:XK)(e:yb)(s':ye):Prop:=∃H1 s1 C dx H',Inv X pins σ H1 s1/\Sd X.prog X.w X.stack H1 s1 C dx H' e s'/\W C dx H'
def PX1(X:Cx)(st:Yi)(ψ:FS):Prop:=∀(pins:List (yd×YY)) (s:ye) (σ:L2.St) (H:Hp) (D:Ends) (W:XK),Inv X pins σ H s->tMS X.K W ψ D σ H->yo (yx X.prog X.w) X.A (exec st X.env) (SP X pins D) (XP X pins σ W) s
def PX(X:Cx)(sts:List Yi)(ψ:FS):Prop:=∀(pins:List (yd×YY)) (s:ye) (σ:L2.St) (H:Hp) (D:Ends) (W:XK),Inv X pins σ H s->tMS X.K W ψ D σ H->yo (yx X.prog X.w) X.A (execs sts X.env) (SP X pins D) (XP X pins σ W) s
section
variable {X:Cx}{c e:yF}{es:List yF}{pos p spos:xC}{x:yy}{k j n:Nat}{st:Yi}{f:yd}{fd:yi}{ps:List yy}{F:FX}{φ:FA}
def zhw{ψ:FS}(h:PX1 X st ψ):PX X [st] ψ:=by
 intro pins s σ H D W I q;refine wpAny_execs_cons (thn (h pins s σ H D W I q) λf s1 q=>?_)
 cases f with
 |next=>exact Xj q
 |ret v=>exact q
 |brk=>exact q
 |cont=>exact q
end
abbrev FH:=yy->List (yy×D)->FS
def Cau(X:Cx)(pins:List (yd×YY))(σ:L2.St)(C:yb)(dx:Option yd)(H':Hp)(a:yd)(s':ye):Prop:=∃H1 s1,Inv X pins σ H1 s1/\Sd X.prog X.w X.stack H1 s1 C dx H' (.ref a) s'
def zru{P:yB}{w:yL}{outer:List Env}{H H':Hp}{s s':ye}{C:yb}{dx:Option yd}{a:yd}{B base h2:yV}(F:Sd P w outer H s C dx H' (.ref a) s')(c:Cov outer H' s.heap B)(st:B.StaysIn s'.heap)(fl:Fly B outer a C dx h2)(sm:s'.heap.UpToSlots h2)
 (ff:s.heap.FunFrames base outer) (frf:∀b∈frs outer,H b=none):Sd P w outer H s C dx H' (.ref a) {s' with heap:=h2 } :=
 ⟨F.os,F.bare,zUp F.un c st fl.st sm ff frf,zMm F.hok c st fl.st,a,B,rfl,fl,c⟩
def MH(X:Cx)(hs:List ExceptHandler)(η:FH):Prop :=
 ∀pins σ C c fs dx H' a s' ρ δ μ o D,Cau X pins σ (.ref C) dx H' a s'->Yq X.K yp c=some (some (.ref C))->Sm X.K ρ H' fs dx->At X.K ρ H' σ δ μ->η c fs δ μ=some o->sQ X.K (zXm X) ρ H' D o ->
  yo (yx X.prog X.w) X.A (handleBy (.ref a) X.env hs) (SP X pins D) X.xe s'
@[simp] def zVx:FH:=λ_ _ _ _=>none
def zss{X:Cx}{hs:List ExceptHandler}:MH X hs zVx:=λ_ _ _ _ _ _ _ _ _ _ _ _ _ _ _ _ _ _ e _=>by cases e
@[simp] def zSo(p:FS)(η:FH):FS:=λδ μ=>match p δ μ with
 |some (.exc c fs μ')=>η c fs δ μ'
 |o=>o
def z6v{X:Cx}{body:List Yi}{h0:ExceptHandler}{hs:List ExceptHandler}{pos:xC}{p:FS}{η:FH}(hb:PX X body p)(hh:MH X (h0::hs) η)(hst:X.stack=X.env::X.outer:=by rfl)(hfm:X.env.frame=some X.env.locals:=by rfl):MS X (.Try body (h0::hs) [] [] pos) (zSo p η):=by
 intro pins s σ H D I ⟨ρ,δ,μ,o,A,eo,kk⟩
 have calm:∀o',p δ μ=some o'->(∀c fs μ',o'≠.exc c fs μ')->yo (yx X.prog X.w) X.A (exec (.Try body (h0::hs) [] [] pos) X.env) (SP X pins D) X.xe s:=λo' ep hne=>by
  have eo':o'=o:=by
   unfold zSo at eo;rw[ep]at eo
   cases o' with
   |exc c fs μ'=>exact absurd rfl (hne c fs μ')
   |next _ _=>cases eo;rfl
   |ret _ _=>cases eo;rfl
   |brk _ _=>cases eo;rfl
   |cont _ _=>cases eo;rfl
  subst eo';refine wpAny_Try_except (Yb (hb pins s σ H D E0 I ⟨ρ,δ,μ,o',A,ep,?_⟩) (λfl s1 q=>?_) λe s1 ⟨_,_,_,_,_,_,_,z⟩=>z.elim)
  ·cases o' with
   |exc c fs μ'=>exact absurd rfl (hne c fs μ')
   |next _ _=>exact kk
   |ret _ _=>exact kk
   |brk _ _=>exact kk
   |cont _ _=>exact kk
  ·cases fl with
   |next=>exact Xj q
   |ret v=>exact q
   |brk=>exact q
   |cont=>exact q
 cases ep:p δ μ with
 |none=>unfold zSo at eo;rw[ep]at eo;cases eo
 |some o'=>
  cases o' with
  |next _ _=>exact calm _ ep (by intros;simp)
  |ret _ _=>exact calm _ ep (by intros;simp)
  |brk _ _=>exact calm _ ep (by intros;simp)
  |cont _ _=>exact calm _ ep (by intros;simp)
  |exc c fs μ'=>
   have eo:η c fs δ μ'=some o:=by unfold zSo at eo;rw[ep]at eo;exact eo
   refine wpAny_Try_except (Yb (hb pins s σ H {nx:=λ_ _=>False,rt:=λ_ _=>False } (λCv dx H'=>∃C ρ',Cv=.ref C/\Yq X.K yp c=some (some (.ref C))/\Ext ρ H ρ' H'/\tI X.K ρ' H' μ'/\Sm X.K ρ' H' fs dx) I
    ⟨ρ,δ,μ,_,A,ep,λρ' H' C dx hc x' R r=>⟨C,ρ',rfl,hc,x',R,r⟩⟩) (λfl s1 q=>?_) λe s1 q=>?_)
   ·cases fl with
    |next=>obtain⟨_,_,_,z⟩:=q;exact z.elim
    |ret v=>obtain⟨_,_,_,_,_,z⟩:=q;exact z.elim
    |brk=>obtain⟨_,_,_,z⟩:=q;exact z.elim
    |cont=>obtain⟨_,_,_,z⟩:=q;exact z.elim
   ·obtain⟨H1,s2,Cv,dx,H',I1,F,C,ρ',rfl,hc,x',R,rX⟩:=q;obtain⟨a,B,rfl,fl,cov⟩:=F.fly;have fl':Fly B (X.env::X.outer) a (.ref C) dx s1.heap:=by rw[<-hst];exact fl
    have hfr:X.A.frames=some (X.env::X.outer):=by rw[<-hst];exact I.ok.frames
    refine zBk hfr hfm fl' λh2 fl2 sm2=>zCf (s:={s1 with heap:=h2 }) fl2 λh3 fl3 sm3=>?_;rw[<-hst]at fl3;exact hh pins σ C c fs dx H' a {s1 with heap:=h3 } ρ' δ μ' o D ⟨H1,s2,I1,zru (h2:=h3) F cov fl.st fl3 (sm2.trans sm3) I1.stack I1.TH⟩ hc rX (A.ext x' R) eo (kk.ext x')
@[simp] def behind(i:Nat):Option Out->Option Out
 |some (.next δ μ)=>some (.next (δ.set i none) μ)
 |some (.ret d μ)=>some (.ret d μ)
 |some (.brk δ μ)=>some (.brk (δ.set i none) μ)
 |some (.cont δ μ)=>some (.cont (δ.set i none) μ)
 |_=>none
@[simp] def hAs(i:Nat)(tb:List (yy×Bool))(q:FS)(η:FH):FH:=λc fs δ μ=>match tb.lookup c with
 |some true=>behind i (q (δ.set i (some (.loc μ.length))) (μ++[.exc c fs]))
 |some false=>η c fs δ μ
 |none=>none
def sC(K:yw)(D0:yd)(tb:List (yy×Bool)):Prop:=∀c b,tb.lookup c=some b->∀C,Yq K yp c=some (some (.ref C))->XD K C "BaseException"=true/\W.mroIn K C (.ref D0)=some b
def At.unset{K:yw}{ρ:List yd}{H:Hp}{σ:L2.St}{δ:Loc}{μ:Mem}(A:At K ρ H σ δ μ)(i:Nat):At K ρ H (σ.set i none) (δ.set i none) μ:=by
 refine⟨λj d' e=>?_,A.hp,by simp[A.len]⟩
 by_cases hj:j=i
 ·subst hj
  have hl:j<δ.length:=by
   have:=(List.getElem?_eq_some_iff.mp e).1;simpa using this
  rw[yI hl]at e;cases e
 ·rw[yK (yH hj)]at e;obtain⟨u,e1,q⟩:=A.st j d' e;exact⟨u,by rw[yK (yH hj)];exact e1,q⟩
def zBA{X:Cx}{d n:yy}{D0:yd}{b0:Yi}{suite:List Yi}{pos np:xC}{rest:List ExceptHandler}{q:FS}{η:FH}(i:Nat)(tb:List (yy×Bool))(hd:Yq X.K yp d=some (some (.ref D0)))(hk:XD X.K D0 "BaseException"=true)(ht:sC X.K D0 tb)
 (hq:∀v,MSs (X.suite v) (b0::suite) q) (hr:MH X rest η) (hg:Gl X d:=by rfl) (hN:X.N.Nodup:=by first|assumption|decide) (hi:X.N[i]?=some n:=by rfl) (hl:X.env.scope.names.lookup n=some .local:=by rfl) (hdb:(d==("__debug__":yy))=false:=by decide) :
 MH X (.ExceptHandler (some (.Name d np)) (some n) (b0::suite) pos::rest) (hAs i tb q η):=by
 intro pins σ C c fs dx H' a s' ρ δ μ o D hcau hc hX A eo kk;obtain⟨H1,s1,I1,F⟩:=hcau;obtain⟨a',B,ea,fl,cov⟩:=F.fly;cases ea;have J:Inv X pins σ H' s':=I1.fly F cov fl.st fl.st (.refl _);obtain⟨oe,vs,y,he,hcl,hdx,hfd,h1,tr⟩:=fl.ob
 cases hb:tb.lookup c with
 |none=>unfold hAs at eo;rw[hb]at eo;cases eo
 |some b=>
  obtain⟨kC,mC⟩:=ht c b hb C hc;obtain⟨nm,qn,N,bs,bm,hdct,sn,sub,ab,col,dd,k0,k1,k2,k3,k5,newId,hC,_,_⟩:=W.kts_cls J.kIn kC;obtain⟨nm',qn',N',bs',bm',SQ,sn',sub',ab',col',dd',k0',k1',k2',k3',k5',newId',hC',hbase',_⟩:=W.kts_cls J.kIn hk;refine wpAny_handleBy_cons (codeAny_handlers_test (z6f (X:=X.suite (.ref a)) (J.suite (.ref a)) hg (xO J.mod.kin J.mod.glob hd) ?_ hdb)) (by intro z;cases z);obtain⟨hh,g,dr,tk,os⟩:=s';refine z1g hC hC' he hcl hbase' (zDs J.kIn mC hC) ?_
  cases b with
  |false=>
   unfold hAs at eo;rw[hb]at eo;exact hr pins σ C c fs dx H' a _ ρ δ μ o D ⟨H1,s1,I1,F⟩ hc hX A eo kk
  |true=>
   unfold hAs at eo;rw[hb]at eo;refine codeAny_handlers_suite_as (zCf (s:=⟨hh,g,dr,tk,os⟩) fl λh2 fl2 sm2=>?_)
   have hna:H' a=none:=by
    cases z:H' a with
    |none=>rfl
    |some u=>obtain⟨w,hw⟩:=cov.tr a u z;rw[fl.new]at hw;cases hw
   have hold:∀b o,s1.heap.get? b=some o->b≠a:=λb o ho z=>by
    subst z
    by_cases hm:b∈frs X.stack
    ·obtain⟨_,o',ho',hnf⟩:=fl.ff.mem hm;rw[he]at ho';cases ho';exact hnf _ hfd
    ·obtain⟨w,hw⟩:=cov.old b o ho hm;rw[fl.new]at hw;cases hw
   have u2:=zUp F.un cov fl.st fl2.st sm2 I1.stack I1.TH;have ok2:=zMm F.hok cov fl.st fl2.st;obtain⟨oe2,vs2,y2,he2,hcl2,hdx2,hfd2,_,_⟩:=fl2.ob
   have J3:Inv X pins σ (upd H' a (.ext (zMr a C dx))) ⟨h2,g,dr,tk,os⟩:=by
    refine I1.SC (s':=⟨h2,g,dr,tk,os⟩) (ch:=[]) F.os ⟨u2.keep,u2.slot,λb o e1 e2 e3=>?_,u2.there,λb xs z=>?_,λb ob u z=>?_,λb ps z=>?_⟩ (ok2.SN hna ⟨⟨oe2,vs2,he2,hcl2,hdx2,hfd2⟩,⟨_,he2⟩,λx1 x2 z1 z2=>?_⟩) F.bare λb z=>absurd z (by simp)
    ·rw[zN (hold b o e1)];exact u2.free b o e1 e2 e3
    ·have:=u2.tups b xs z;rw[zN (zI this hna)];exact this
    ·have:=u2.TF b ob u z;rw[zN (zI this hna)];exact this
    ·obtain⟨m,this⟩:=u2.TN b ps z;exact⟨m,by rw[zN (zI this hna)];exact this⟩
    ·obtain⟨o1,v1,w1,w2⟩:=z1;exact⟨o1,v1,z2 _ w1,w2⟩
   refine zCj (X:=X.suite (.ref a)) (v:=.ref a) (u:=.ref a) (J3.suite (.ref a)) hN hi (.inl hl) rfl (λs3 I3=>?_) (.inr hl)
   have A3:At X.K (ρ++[a]) (upd H' a (.ext (zMr a C dx))) (σ.set i (some (.ref a))) (δ.set i (some (.loc μ.length))) (μ++[.exc c fs]) :=
    (A.ext (Ext.push hna) (A.hp.push (o:=.ext (zMr a C dx)) (lo:=.exc c fs) hna ⟨C,dx,hc,zG,hX.ext (Ext.push hna)⟩)).set (.loc (zFb A.hp)) i
   cases eq:q (δ.set i (some (.loc μ.length))) (μ++[.exc c fs]) with
   |none=>rw[eq]at eo;cases eo
   |some o'=>
    rw[eq]at eo;have kk':=kk.ext (Ext.push (o:=.ext (zMr a C dx)) hna);refine Yb (hq (.ref a) pins s3 _ _ {nx:=λσ' H2=>D.nx (σ'.set i none) H2,rt:=D.rt,bk:=λσ' H2=>D.bk (σ'.set i none) H2,ct:=λσ' H2=>D.ct (σ'.set i none) H2 } I3 ⟨_,_,_,o',A3,eq,?_⟩) (λf4 s4 hs4=>?_) λ_ _ z=>z.elim
    ·cases o' with
     |next δ' μ'=>cases eo;exact λρ' σ' H2 x2 A2=>kk' ρ' _ H2 x2 (A2.unset i)
     |brk δ' μ'=>cases eo;exact λρ' σ' H2 x2 A2=>kk' ρ' _ H2 x2 (A2.unset i)
     |cont δ' μ'=>cases eo;exact λρ' σ' H2 x2 A2=>kk' ρ' _ H2 x2 (A2.unset i)
     |ret d' μ'=>cases eo;exact kk'
     |exc _ _ _=>cases eo
    ·cases f4 with
     |next=>obtain⟨σ4,H4,I4,z⟩:=hs4;exact zxm (I4.Tv J.ok) hN hi hl λs5 I5=>⟨_,H4,I5,z⟩
     |brk=>obtain⟨σ4,H4,I4,z⟩:=hs4;exact zxm (I4.Tv J.ok) hN hi hl λs5 I5=>⟨_,H4,I5,z⟩
     |cont=>obtain⟨σ4,H4,I4,z⟩:=hs4;exact zxm (I4.Tv J.ok) hN hi hl λs5 I5=>⟨_,H4,I5,z⟩
     |ret u=>obtain⟨v4,σ4,H4,I4,r4,z⟩:=hs4;exact zxm (I4.Tv J.ok) hN hi hl λs5 I5=>⟨v4,_,H4,I5,r4,z⟩
@[simp] def zIn(tb:List (yy×Bool))(q:FS)(η:FH):FH:=λc fs δ μ=>match tb.lookup c with
 |some true=>(match q δ μ with
  |some (.exc _ _ _)=>none
  |o=>o)
 |some false=>η c fs δ μ
 |none=>none
def zgy{X:Cx}{d:yy}{D0:yd}{b0:Yi}{suite:List Yi}{pos np:xC}{rest:List ExceptHandler}{q:FS}{η:FH}(tb:List (yy×Bool))(hd:Yq X.K yp d=some (some (.ref D0)))(hk:XD X.K D0 "BaseException"=true)(ht:sC X.K D0 tb)
 (hq:∀v,MSs (X.suite v) (b0::suite) q) (hr:MH X rest η) (hg:Gl X d:=by rfl) (hdb:(d==("__debug__":yy))=false:=by decide) :
 MH X (.ExceptHandler (some (.Name d np)) none (b0::suite) pos::rest) (zIn tb q η):=by
 intro pins σ C c fs dx H' a s' ρ δ μ o D hcau hc hX A eo kk;obtain⟨H1,s1,I1,F⟩:=hcau;obtain⟨a',B,ea,fl,cov⟩:=F.fly;cases ea;have J:Inv X pins σ H' s':=I1.fly F cov fl.st fl.st (.refl _);obtain⟨oe,vs,y,he,hcl,hdx,hfd,h1,tr⟩:=fl.ob
 cases hb:tb.lookup c with
 |none=>unfold zIn at eo;rw[hb]at eo;cases eo
 |some b=>
  obtain⟨kC,mC⟩:=ht c b hb C hc;obtain⟨nm,qn,N,bs,bm,hdct,sn,sub,ab,col,dd,k0,k1,k2,k3,k5,newId,hC,_,_⟩:=W.kts_cls J.kIn kC;obtain⟨nm',qn',N',bs',bm',SQ,sn',sub',ab',col',dd',k0',k1',k2',k3',k5',newId',hC',hbase',_⟩:=W.kts_cls J.kIn hk;refine wpAny_handleBy_cons (codeAny_handlers_test (z6f (X:=X.suite (.ref a)) (J.suite (.ref a)) hg (xO J.mod.kin J.mod.glob hd) ?_ hdb)) (by intro z;cases z);obtain⟨hh,g,dr,tk,os⟩:=s';refine z1g hC hC' he hcl hbase' (zDs J.kIn mC hC) ?_
  cases b with
  |false=>
   unfold zIn at eo;rw[hb]at eo;exact hr pins σ C c fs dx H' a _ ρ δ μ o D ⟨H1,s1,I1,F⟩ hc hX A eo kk
  |true=>
   unfold zIn at eo;rw[hb]at eo;refine codeAny_handlers_suite (zCf (s:=⟨hh,g,dr,tk,os⟩) fl λh2 fl2 sm2=>?_);have J2:Inv X pins σ H' ⟨h2,g,dr,tk,os⟩:=I1.fly F cov fl.st fl2.st sm2
   cases eq:q δ μ with
   |none=>rw[eq]at eo;cases eo
   |some o'=>
    rw[eq]at eo;refine Yb (hq (.ref a) pins _ σ H' D (J2.suite _) ⟨ρ,δ,μ,o',A,eq,?_⟩) (λf4 s4 hs4=>?_) λ_ _ z=>z.elim
    ·cases o' with
     |next δ' μ'=>cases eo;exact kk
     |brk δ' μ'=>cases eo;exact kk
     |cont δ' μ'=>cases eo;exact kk
     |ret d' μ'=>cases eo;exact kk
     |exc _ _ _=>cases eo
    ·cases f4 with
     |next=>obtain⟨σ4,H4,I4,z⟩:=hs4;exact⟨σ4,H4,I4.Tv J.ok,z⟩
     |brk=>obtain⟨σ4,H4,I4,z⟩:=hs4;exact⟨σ4,H4,I4.Tv J.ok,z⟩
     |cont=>obtain⟨σ4,H4,I4,z⟩:=hs4;exact⟨σ4,H4,I4.Tv J.ok,z⟩
     |ret u=>obtain⟨v4,σ4,H4,I4,r4,z⟩:=hs4;exact⟨v4,σ4,H4,I4.Tv J.ok,r4,z⟩
end M
namespace PySem.W
open PySem PySem.Spec PySem.Calls PyProof.Rows
structure AskC(K:Frag)(C:yd):Prop where
 cl:(clsIn K C).isSome=true
 ga:findIn K (.ref C) "__getattribute__"=some (some (.builtin "BaseException.__getattribute__"))
 gk:findIn K (.ref C) "__getattr__"=some none
 be:mroIn K C (.type "BaseException")=some true
 ha:findIn K (.ref C) "__class__"=some (some (.builtin "object.__class__"))
 hn:specialIn K (.builtin "object.__class__") "__get__"=some (some (.builtin "getset_descriptor.__get__"))
 tk:takesIn K (.builtin "object.__class__")=some true
 hm:mroIn K C (.type "object")=some true
section
variable {prog:yB}{w:yL}{A:yR}{E:yb->ye->Prop}{s:ye}{K:Frag}{x D:yd}{ox:YY}{odo:Option YY}
def zqt{M:Model}{nameV:yb}{Q:Unit->ye->Prop}(X:K.In s.heap)(I:InstAt s.heap x ox D odo)(c:AskC K D)(hq:Q () s):yo M A (checkBuiltinCall "BaseException.__getattribute__" ⟨[.ref x,nameV],[]⟩) Q E s:=by
 have hk:builtinKind "BaseException.__getattribute__"=some .slot:=by decide +kernel
 have hsplit:splitId "BaseException.__getattribute__"=some ("BaseException","__getattribute__"):=by decide +kernel
 have ha:=F.args_bexc_ga (.ref x) nameV;have L0:=I.type (M:=M);have L1:=looks_mroIn (M:=M) X c.be;obtain⟨hh,g,d,t,os⟩:=s;simp only[checkBuiltinCall,hk,hsplit];refine ya ?_
 ·unfold isInstance
  repeat (first|with_reducible refine L0.at ?_|with_reducible refine L1.at ?_|wp_step)
  exact hq
end
end PySem.W
namespace M
open PySem PySem.Spec PyProof.Rows L2
section
variable {X:Cx}
inductive CN where
 |own (c:yy)
 |ty (n:String)
 deriving DecidableEq
abbrev Kit:=List ((Option yy×CN)×Bool)
def zlB(K:yw):CN->yb->Prop
 |.own d,v=>∃a,Yq K yp d=some (some (.ref a))/\v=.ref a
 |.ty n,v=>v=.type n
structure KitOk(K:yw)(tb:Kit):Prop where
 non:∀d b v,tb.lookup (none,d)=some b->zlB K d v->W.kitOne K (.type "NoneType") v=some b
 ask:∀c d b,tb.lookup (some c,d)=some b->∀C,Yq K yp c=some (some (.ref C))->W.AskC K C
 exc:∀c d b v,tb.lookup (some c,d)=some b->zlB K d v->∀C,Yq K yp c=some (some (.ref C))->W.kitOne K (.ref C) v=some b
end
section
variable {K:yw}{D0:yd}{tb:List (yy×Bool)}{kt:Kit}
def sC.nil:sC K D0 []:=λc b h=>by cases h
def sC.cons{c:yy}{C:yd}{b:Bool}(hc:Yq K yp c=some (some (.ref C)))(k:XD K C "BaseException"=true)(m:W.mroIn K C (.ref D0)=some b)(r:sC K D0 tb):sC K D0 ((c,b)::tb):=λc' b' h C' hC'=>by
 unfold YR at h
 split at h
 ·rename_i e
  cases h;rw[beq_iff_eq.mp e,hc]at hC';cases hC';exact⟨k,m⟩
 ·exact r c' b' h C' hC'
end
structure MSsl(X:Cx)(sts:List Yi)(ψ:FS):Prop where
 h:MSs X sts ψ
end M
namespace PySem
open Sem (wp)
section
variable {prog:yB}{w:yL}{A:yR}{E:yb->ye->Prop}{h:yV}{g:Array GenState}{d:Drawn}{t:Nat}{os:OsState}
variable {nm q:yy}{C N fI:yd}{bs bm bmB:List yb}{hdct:Bool}{sn:List yy}{sub:List yb}{ab:Bool}{col:Option Bool}{dd:Option yd}{k0 k1 k2 k3 k5:Option yb}{B newId initId:String}
abbrev z5g(h:yV)(C:yd)(rest:List yb):yV:=(h.push {cls:=.type "tuple",data:=.seq rest.toArray }).push {cls:=.ref C,data:=.fields #[.ref h.objs.size,.none,.none,.none,.bool false,.none]}
def zii(F:ExcBaseFacts B newId initId bmB)(T:OwnTail h bmB bm){rest:List yb}{Q:Fin->ye->Prop}
 (hC:h.get? C=some (xu nm q C N bs bm hdct sn sub ab col dd k0 k1 k2 k3 k5 newId)) (L:W.Looks (yx prog w) h (typeLookup (.ref C) "__init__") (some (.ref fI))) (LB:∀self,W.Looks (yx prog w) h (bindSpecial (.ref fI) self) (.ref fI,[self]))
 (hq:yo (yx prog w) A (call (.ref fI) (.ref (h.objs.size+1)::rest)) (λv s'=>v=.none/\Q (.done (.ret (.ref (h.objs.size+1)))) s') E ⟨z5g h C rest,g,d,t,os⟩) (hrest:rest.length<=yE:=by size_fits) :
 yo (yx prog w) A (xw.«type.__call__» ⟨.ref C::rest,[]⟩) Q E ⟨h,g,d,t,os⟩:=by
 repeat (first|with_reducible refine YT hC ?_|with_reducible refine wpAny_madeBy_exc hC ?_|wp_step)
 refine codeAny_call_builtin_code (Code.quiet_builtin _ F.quiet) (wpAny_check_new_subT F T hC ?_);refine codeAny_exc_new_subT F T hC ?_ hrest;show yo _ _ _ _ _ _;have k:∀b o,h.get? b=some o->(z5g h C rest).get? b=some o:=λb o e=>yc _ (yc _ e);have hC₁:=k _ _ hC;have hget:(z5g h C rest).get? (h.objs.size+1)=some {cls:=.ref C,data:=.fields #[.ref h.objs.size,.none,.none,.none,.bool false,.none]}:=by heap_get
 have hcC:(yM C::bm).contains (.ref C)=true:=by simp
 have T₁:=T.keeps k;unfold isInstance
 repeat (first|with_reducible refine YT hget ?_|(with_reducible refine xB hC₁ ?_;rw[hcC])|wp_step)
 show yo _ _ (typeLookup (.ref C) _) _ _ _;refine L _ _ _ _ k ?_;refine yY (ya (LB _ _ _ _ _ k ?_));refine ya (Yb hq (λv s' hv=>?_) λ_ _ x=>x);obtain⟨rfl,hv⟩:=hv
 repeat wp_step
 exact hv
def zen(F:ExcBaseFacts B newId initId bmB)(T:OwnTail h bmB bm){rest:List yb}{Q:yb->ye->Prop}
 (hC:h.get? C=some (xu nm q C N bs bm hdct sn sub ab col dd k0 k1 k2 k3 k5 newId)) (L:W.Looks (yx prog w) h (typeLookup (.ref C) "__init__") (some (.ref fI))) (LB:∀self,W.Looks (yx prog w) h (bindSpecial (.ref fI) self) (.ref fI,[self]))
 (hq:yo (yx prog w) (A.under (.builtin "type.__call__" ⟨.ref C::rest,[]⟩)) (call (.ref fI) (.ref (h.objs.size+1)::rest)) (λv s'=>v=.none/\Q (.ref (h.objs.size+1)) s') E ⟨z5g h C rest,g,d,t,os⟩) (hrest:rest.length<=yE:=by size_fits) :
 yo (yx prog w) A (call (.ref C) rest) Q E ⟨h,g,d,t,os⟩:=by
 have f1:=tc_lookup;have f2:=tc_bind (.ref C);have hT:(⟨h,g,d,t,os⟩:ye).TypeIs (.ref C) "type":=⟨_,hC,rfl⟩
 refine wpAny_call (codeAny_of_tree ?_);show yo _ _ (callAny (.ref C) _) _ _ _
 repeat (any_goals (first|assumption|with_reducible refine YT hC ?_|wp_step))
 refine⟨rfl,?_⟩;refine codeAny_call_builtin_at (Code.quiet_builtin _ (by decide +kernel)) entry_typeCall (wpAny_check_type_call_sub hC (zii (hrest:=hrest) F T hC L LB ?_));exact hq
def zLf{M:Model}{s:ye}{env:Env}{x:Sem yb}{Q:Flow->ye->Prop}(hbase:bm.contains (.type "BaseException")=true)(hh:A.handled=none)
 (h:yo M A x (λv s₁=>∃e de te,v=.ref e/\s₁.heap.get? C=some (xu nm q C N bs bm hdct sn sub ab col dd k0 k1 k2 k3 k5 newId)/\s₁.heap.get? e=some {cls:=.ref C,dict:=de,data:=.fields #[.ref te,.none,.none,.none,.bool false,.none]}/\E (.ref e) s₁) E s) :
 yo M A (raiseStmt env (some x) none) Q E s:=by
 have hcB:(yM C::bm).contains (.type "BaseException")=true:=by rw[List.contains_cons,hbase,Bool.or_true]
 unfold raiseStmt;refine ya (Yb h (λv s₁ h₁=>?_) λ_ _ x=>x);obtain⟨e,de,te,rfl,hC,he,hE⟩:=h₁;obtain⟨hp,g,d,tk,os⟩:=s₁
 repeat (first|with_reducible refine YT he ?_|with_reducible refine YT hC ?_|(with_reducible refine xB hC ?_;rw[hcB])|wp_step)
 exact wpAny_raiseNew_none hh hE
end
section
variable {prog:yB}{w:yL}{A:yR}{E:yb->ye->Prop}{s:ye}{env:Env}
variable {nm q:yy}{C N fI:yd}{bs bm bmB:List yb}{hdct:Bool}{sn:List yy}{sub:List yb}{ab:Bool}{col:Option Bool}{dd:Option yd}{k0 k1 k2 k3 k5:Option yb}{B newId initId:String}
def zrk(F:ExcBaseFacts B newId initId bmB){x:yy}{np cpos pos:xC}{args:List yF}{Q:Flow->ye->Prop}
 (hbase:bm.contains (.type "BaseException")=true) (hh:A.handled=none) (hplain:(Yo cpos (yj args env)).any (·.1)=false)
 (h:yo (yx prog w) A (Yh (.Name x np) env) (λf s₁=>f=.ref C/\yo (yx prog w) A (evalArgs (.ref C) true (Yo cpos (yj args env)) [])
  (λa s₂=>a.kw=[]/\a.pos.length<=yE/\s₂.heap.get? C=some (xu nm q C N bs bm hdct sn sub ab col dd k0 k1 k2 k3 k5 newId)/\W.Looks (yx prog w) s₂.heap (typeLookup (.ref C) "__init__") (some (.ref fI))/\OwnTail s₂.heap bmB bm/\(∀self,W.Looks (yx prog w) s₂.heap (bindSpecial (.ref fI) self) (.ref fI,[self])) /\
   yo (yx prog w) (A.under (.builtin "type.__call__" ⟨.ref C::a.pos,[]⟩)) (call (.ref fI) (.ref (s₂.heap.objs.size+1)::a.pos)) (λv s₃=>v=.none/\s₃.heap.get? C=some (xu nm q C N bs bm hdct sn sub ab col dd k0 k1 k2 k3 k5 newId) /\
    (∃de te,s₃.heap.get? (s₂.heap.objs.size+1)=some {cls:=.ref C,dict:=de,data:=.fields #[.ref te,.none,.none,.none,.bool false,.none]})/\E (.ref (s₂.heap.objs.size+1)) s₃) E {s₂ with heap:=z5g s₂.heap C a.pos }) E s₁) E s) :
 yo (yx prog w) A (exec (.Raise (some (.Call (.Name x np) args [] cpos)) none pos) env) Q E s:=by
 rw[arm_exec_Raise]
 first
  |refine ya (YZ (zLf (C:=C) (nm:=nm) (q:=q) (N:=N) (bs:=bs) (bm:=bm) (hdct:=hdct) (sn:=sn) (sub:=sub) (ab:=ab) (col:=col) (dd:=dd) (k0:=k0) (k1:=k1) (k2:=k2) (k3:=k3) (k5:=k5) (newId:=newId) hbase hh (ya (Yb (wpAny_Call_ofName (Yb h (λf s₁ h₁=>?_) λ_ _ x=>x)) (λv s₃ h₃=>ya (YZ (yg h₃))) λ_ _ x=>x))))
  |(simp only[evalOpt,Option.map];refine ya (YZ (zLf (C:=C) (nm:=nm) (q:=q) (N:=N) (bs:=bs) (bm:=bm) (hdct:=hdct) (sn:=sn) (sub:=sub) (ab:=ab) (col:=col) (dd:=dd) (k0:=k0) (k1:=k1) (k2:=k2) (k3:=k3) (k5:=k5) (newId:=newId) hbase hh (ya (Yb (wpAny_Call_ofName (Yb h (λf s₁ h₁=>?_) λ_ _ x=>x)) (λv s₃ h₃=>ya (YZ (yg h₃))) λ_ _ x=>x)))))
  |(refine ya (YZ (zLf (C:=C) (nm:=nm) (q:=q) (N:=N) (bs:=bs) (bm:=bm) (hdct:=hdct) (sn:=sn) (sub:=sub) (ab:=ab) (col:=col) (dd:=dd) (k0:=k0) (k1:=k1) (k2:=k2) (k3:=k3) (k5:=k5) (newId:=newId) hbase hh ?_));refine ya (Yb (wpAny_Call_ofName (Yb h (λf s₁ h₁=>?_) λ_ _ x=>x)) (λv s₃ h₃=>ya (YZ (yg h₃))) λ_ _ x=>x))
 obtain⟨rfl,h₁⟩:=h₁;unfold callWith;refine ya (yY (Yb h₁ (λa s₂ h₂=>ya (YZ ?_)) λ_ _ x=>x));obtain⟨apos,akw⟩:=a;obtain⟨hkw,hlen,hC,L,T,LB,h₂⟩:=h₂;obtain rfl:akw=[]:=hkw;obtain⟨hp,g,d,tk,os⟩:=s₂;simp only[hplain];refine ya (wpAny_keeperOf_exc hC ?_);refine ya (zen (hrest:=hlen) F T hC L LB ?_);refine Yb h₂ (λv s₃ h₃=>?_) λ_ _ x=>x;obtain⟨rfl,hC3,⟨de,te,he⟩,hE⟩:=h₃;exact⟨rfl,ya (yY (wpAny_point (yg ⟨_,de,te,rfl,hC3,he,hE⟩)))⟩
end
end PySem
namespace PySem
open Sem (wp)
section
variable {prog:yB}{w:yL}{A:yR}{E:yb->ye->Prop}{h:yV}{g:Array GenState}{d:Drawn}{t:Nat}{os:OsState}
variable {nm q:yy}{C N:yd}{bs bm bmB:List yb}{hdct:Bool}{sn:List yy}{sub:List yb}{ab:Bool}{col:Option Bool}{dd:Option yd}{k0 k1 k2 k3 k5:Option yb}{B newId initId:String}
def zvs(F:ExcBaseFacts B newId initId bmB)(T:OwnTail h bmB bm){e te:yd}{de:Option yd}{rest:List yb}{Q:yb->ye->Prop}
 (hC:h.get? C=some (xu nm q C N bs bm hdct sn sub ab col dd k0 k1 k2 k3 k5 newId)) (he:h.get? e=some {cls:=.ref C,dict:=de,data:=.fields #[.ref te,.none,.none,.none,.bool false,.none]})
 (hq:∀h',(∀b o,b≠e->h.get? b=some o->h'.get? b=some o)->h'.get? e=some {cls:=.ref C,dict:=de,data:=.fields #[.ref h.objs.size,.none,.none,.none,.bool false,.none]}->h.objs.size<=h'.objs.size->Q .none ⟨h',g,d,t,os⟩) (hrest:rest.length<=yE:=by size_fits) :
 yo (yx prog w) A (call (.builtin initId) (.ref e::rest)) Q E ⟨h,g,d,t,os⟩:=by
 refine wpAny_call (xW F.init.plain F.initEntry (wpAny_check_init_subT F T hC he rfl ?_))
 wp_walk
 refine hq _ (λb o hb eb=>?_) ?_ ?_
 ·rw[Yl _ _ (yH hb)];exact yc _ eb
 ·rw[yS _ (yc _ he) rfl];rfl
 ·simp
end
end PySem
namespace PySem.W
open PySem PySem.Spec PySem.Calls PyProof.Rows
open Builtin Builtin.ObjectAttr
abbrev bmV:List yb:=[.type "ValueError",.type "Exception",.type "BaseException",.type "object"]
def Tq:List yb->List yb
 |.ref _::r=>Tq r
 |l=>l
def zos{v:yb}{r:List yb}(q:¬∃c,v=.ref c):Tq (v::r)=v::r:=by
 unfold Tq
 split
 ·rename_i z;cases z;exact absurd ⟨_,rfl⟩ q
 ·rfl
def ztl(self:yb):∀{l:List yb},Tq l=bmV->refuseLoop self "__setattr__" l=pure ()
 |[],h=>by cases h
 |v::r,h=>by
  by_cases q:∃c,v=.ref c
  ·obtain⟨c,rfl⟩:=q;rw[refuseLoop_ref];exact ztl self (l:=r) h
  ·rw[zos q]at h;rw[h];exact PySem.F.store_ValueError.passes self
def zCq:∀{l:List yb},Tq l=bmV->l.contains (.type "object")=true/\l.isEmpty=false
 |[],h=>by cases h
 |v::r,h=>by
  refine⟨?_,rfl⟩
  by_cases q:∃c,v=.ref c
  ·obtain⟨c,rfl⟩:=q;rw[List.contains_cons,(zCq (l:=r) h).1,Bool.or_true]
  ·rw[zos q]at h;rw[h];decide
section
variable {prog:yB}{w:yL}{A:yR}{E:yb->ye->Prop}{s:ye}{K:Frag}{x C:yd}{ox:YY}{name:yy}{v:yb}{cd:ClassData}
def zdx{R:Result->ye->Prop}{od:Option YY}{tk:Tok}(X:K.In s.heap)(I:InstAt s.heap x ox C od)(hc:clsIn K C=some cd)(ho:Tq cd.mro=bmV)(ha:findIn K (.ref C) name=some none)
 (h:yo (yx prog w) A.in1 (storeInOwnDict (.ref x) (.ref C) (.str name tk) name v false)
  (λfin s'=>match fin with | .done f=>R (.ok f) s' | .again c'=>c'.quiet=true/\Xw (yx prog w) A c' R s') (λe s'=>R (.error e) s') s) :
 Xw (yx prog w) A (.call (.builtin "object.__setattr__") ⟨[.ref x,.str name tk,v],[]⟩) R s:=by
 have SF:=PySem.F.store_object;obtain⟨h1,h2⟩:=zCq ho;have sub:Looks (yx prog w) s.heap (isInstance (.ref x) (.type "object")) true:=I.type.andThen (looks_mroIn X (by unfold mroIn;rw[hc,yr,if_neg (by rw[h2];decide),h1]));refine xW SF.slot.plain SF.entry (@check_slot (yx prog w) _ _ s "object.__setattr__" "object" "__setattr__" (.ref x) [.str name tk,v] [] _ SF.kind SF.split sub (SF.args (.ref x) (.str name tk) v) ?_);have hm:Looks (yx prog w) s.heap (mroOf (.ref C)) cd.mro:=(looks_clsIn X hc).andThen .now;rw[osa_eq,refuse_eq];refine ya (ya (I.type.here (ya (hm.here ?_))));rw[ztl _ ho];refine yg (ya (I.type.here (ya ((looks_findIn X ha).here (ya (yg (a:=none) ?_))))));exact h
def set_exc{Q:Unit->ye->Prop}{vs:Array yb}(X:K.In s.heap)(I:InstAt s.heap x ox C none)(hdt:ox.data=.fields vs)
 (hs:findIn K (.ref C) "__setattr__"=some (some (.builtin "object.__setattr__"))) (hc:clsIn K C=some cd) (ho:Tq cd.mro=bmV) (hd:cd.hasDict=true) (ha:findIn K (.ref C) name=some none)
 (h:∀(h':yV)(p:yd)(tk:Nat),h'.get? x=some {ox with dict:=some p }->h'.Ns1 p (λy=>if y=name then some v else none)->s.heap.objs.size<=p->(∀b o,b≠x->s.heap.get? b=some o->h'.get? b=some o)->Q () {s with heap:=h',toks:=tk }) :
 yo (yx prog w) A (setAttr (.ref x) name v) Q E s:=by
 obtain⟨hx,hcl,hno,hdd⟩:=id I;obtain⟨oc,odi,oda,osl⟩:=ox;dsimp only at hcl hdt;subst hcl hdt
 cases odi with
 |some dx=>exact hdd.elim
 |none=>
  refine set_plain X I hs (zdx (s:={s with toks:=s.toks+1 }) X I hc ho ha ?_);refine ya (yg (ya (ya (wpAny_loadPart hx (ya (Looks.here (s:={s with toks:=s.toks+1 }) (looks_clsIn X hc) ?_))))));rw[hd];have hx₁:(s.heap.push {cls:=.type "dict",data:=.dict #[]}).get? x=some ⟨.ref C,none,.fields vs,osl⟩:=yc _ hx;have hxs:x≠s.heap.objs.size:=yt (ym hx);refine ya (wpAny_alloc' ?_);refine ya (wpAny_update' hx₁ ?_);refine yg (a:=some s.heap.objs.size) ?_
  have hgd:((s.heap.push {cls:=.type "dict",data:=.dict #[]}).update x λo=>{cls:=o.cls,dict:=some s.heap.objs.size,data:=o.data,slots:=o.slots }).get? s.heap.objs.size
   = some {cls:=.type "dict",data:=.dict #[]} :=
   (Heap.get?_update_ne _ _ _ _ hxs.symm).trans (Heap.get?_push_at rfl rfl)
  have hnd:((s.heap.push {cls:=.type "dict",data:=.dict #[]}).update x λo=>{cls:=o.cls,dict:=some s.heap.objs.size,data:=o.data,slots:=o.slots }).Ns s.heap.objs.size (λ_=>none) :=
   ⟨_,#[],_,hgd,rfl,λe he=>absurd he (by simp),λ_=>rfl⟩
  show yo _ _ (storeInDict s.heap.objs.size (.str name _) name v) _ _ _;unfold storeInDict newKeyGuard;refine ya (yg (ya (wpAny_nsSet1 (Heap.Ns1.of_empty hnd) λh' hn' hs'=>?_)));obtain⟨oD,esD,epD,hoD,hdD,hcD⟩:=hn'.count (Within.cons name v Within.nil);refine ya (wpAny_lookBehind hoD (by rw[hdD];exact pastItsLine_dict (yG hcD (by rw[length_cons,List.length_nil,YA];omega))) ?_);refine yg ?_;refine h h' s.heap.objs.size _ ?_ hn' (yk _) (λb o hb q=>?_)
  ·exact(hs'.2 x hxs).trans (yS _ hx₁ rfl)
  ·exact(hs'.2 b (yt (ym q))).trans ((Heap.get?_update_ne _ _ _ _ hb).trans (yc _ q))
variable {D:yd}{odo:Option YY}
def zEr{tk:Tok}{Q:Fin->ye->Prop}(X:K.In s.heap)(I:InstAt s.heap x ox D odo)(e:findObj K D odo name=some (.value v))(hq:Q (.done (.ret v)) s):yo (yx prog w) A (xw.«object.__getattribute__» ⟨[.ref x,.str name tk],[]⟩) Q E s:=by
 have L0:=I.type (M:=yx prog w);have L1:=looks_find (M:=yx prog w) X I e;obtain⟨hh,g,d,t,os⟩:=s
 repeat (any_goals (first|assumption|with_reducible refine L0.at ?_|with_reducible refine L1.at ?_|wp_step))
def SR{expr:Bool}{Q:yb->ye->Prop}(X:K.In s.heap)(I:InstAt s.heap x ox D odo)(c:AskC K D)(e:findObj K D odo name=some (.value v))(hv:handedIn v=true)(h:Q v {s with toks:=s.toks+1 }):yo (yx prog w) A (getAttr (.ref x) name expr) Q E s:=by
 have L0:=I.type (M:=yx prog w);have L1:=looks_findIn (M:=yx prog w) X c.ga;have L2:=looks_findIn (M:=yx prog w) X c.gk;have f3:=F.excAttr_ValueError.ga.bind (.ref x);have hx2:(Xn "BaseException.__getattribute__" == Xn "object.__getattribute__")=false:=by decide +kernel
 have hx1:(onTheHeap (yM D)&&Xn "BaseException.__getattribute__" == Xn "object.__getattribute__")=false:=by rw[hx2];rfl
 obtain⟨hh,g,d,t,os⟩:=s;unfold getAttr getAttrBy
 repeat (any_goals (first|assumption|with_reducible refine L0.at ?_|with_reducible refine L1.at ?_|with_reducible refine L2.at ?_|wp_step))
 rw[show(expr&&onTheHeap (Xn "BaseException.__getattribute__"))=false from Bool.and_false _,if_neg (by decide)];unfold boundAndCalled
 repeat (any_goals (first|assumption|with_reducible refine L0.at ?_|with_reducible refine L1.at ?_|with_reducible refine L2.at ?_|wp_step))
 refine xW F.excAttr_ValueError.ga.plain F.entry_bexc_ga (zqt (s:=⟨hh,g,d,t+1,os⟩) X I c (zEr (s:=⟨hh,g,d,t+1,os⟩) X I e ?_))
 repeat (any_goals (first|assumption|wp_step))
 show yo _ _ (handedOut v) _ _ _;rw[handedOut_of hv];exact yg h
end
end PySem.W
namespace L2
open PySem PySem.Spec PyProof.Rows
def ziz{H:Hp}{a:yd}{o:HO}(h:H a=some o):upd H a o=H:=by
 funext b
 unfold upd
 split
 ·rename_i e
  rw[e,h]
 ·rfl
def era(H:Hp)(e:yd):Hp:=λb=>if b=e then none else H b
def zci{H:Hp}{e b:yd}(h:b≠e):era H e b=H b:=by unfold era;rw[if_neg h]
def zwj{H:Hp}{e:yd}:era H e e=none:=by unfold era;rw[if_pos rfl]
section
variable {P:yB}{w:yL}{fs ex:List yd}{H H':Hp}{h h':yV}{e:yd}{φ:yV->Prop}
def Un.era(u:Un fs ex H H' h h')(he:H e=none):Un fs ex H (era H' e) h h' where
 keep:=u.keep
 slot:=u.slot
 free:=λb o q n hx=>by
  by_cases z:b=e
  ·rw[z];exact zwj
  ·rw[zci z];exact u.free b o q n hx
 there:=u.there
 tups:=λb xs q=>by rw[zci (zI q he)];exact u.tups b xs q
 TF:=λb o v q=>by rw[zci (zI q he)];exact u.TF b o v q
 TN:=λb ps q=>by rw[zci (zI q he)];exact u.TN b ps q
def HOk.era(k:HOk P w H h)(he:H e=some (.ext φ)):HOk P w (era H e) h:=λb o q=>by
 by_cases z:b=e
 ·rw[z,zwj]at q;cases q
 ·rw[zci z]at q;refine(k b o q).stay (λ_ _ _ r=>r) (λc r=>?_) λc xs r=>?_
  ·rw[zci λy=>by rw[y,he]at r;cases r];exact r
  ·rw[zci λy=>by rw[y,he]at r;cases r];exact r
end
end L2
namespace M
open PySem PySem.Spec PyProof.Rows L2
def zQn(a C:yd)(dx:Option yd):yV->Prop:=λh=>∃te,h.get? a=some {cls:=.ref C,dict:=dx,data:=.fields #[.ref te,.none,.none,.none,.bool false,.none]}
def zGp{P:yB}{w:yL}{H:Hp}{h:yV}{a C:yd}{dx:Option yd}(x:zQn a C dx h):tG P w H h a (.ext (zQn a C dx)):=by
 obtain⟨te,e⟩:=x;exact⟨⟨te,e⟩,⟨_,e⟩,λh1 h2 ⟨t,q⟩ k=>⟨t,k _ q⟩⟩
structure SK(K:yw)(C NE fI:yd)(f:yy):Prop where
 ob:∃nm q N bs sn sub ab col dd k0 k1 k2 k3 k5,K.lookup C=some (xu nm q C N bs (.ref NE::W.bmV) true sn sub ab col dd k0 k1 k2 k3 k5 "ValueError.__new__")
 ini:Ym K (.ref C) "__init__"=some (some (.ref fI))
 fn:W.typeIn K (.ref fI)=some (.type "function")
 ne:W.excIn K NE W.bmV "ValueError.__new__"=true
 sa:Ym K (.ref C) "__setattr__"=some (some (.builtin "object.__setattr__"))
 at_:Ym K (.ref C) f=some none
 gt:W.specialIn K (.ref NE) "__getattribute__"=some (some (.builtin "type.__getattribute__"))
 rd:W.readsIn K NE (.type "type")=true
 fc:W.findCls K (.ref NE) (.type "type") "__init__"=some (.val (.builtin "ValueError.__init__"))
def SK.tail{K:yw}{C NE fI:yd}{f:yy}(Z:SK K C NE fI f){h:yV}(X:K.In h):OwnTail h W.bmV (.ref NE::W.bmV):=by
 obtain⟨bm,N,nm,qn,bs,hdct,sn,sub,ab,col,dd,k0,k1,k2,k3,k5,mN,hC,hN,hni,T⟩:=zbo X Z.ne;exact .own hC hN hni .base
section
variable {X:Cx}{v o value:yF}{e:yF}{es:List yF}{tv ta:TE}{t:TA}{C NE fI:yd}{f:yy}{np apos pos pos' p1 p2 p3 p4:xC}{x1 x2:yy}{j1 j2:Nat}
def zXt(Z:SK X.K C NE fI f)(hm:X.mg "NestError"=some (.ref NE))(ha:PA X (e::es) t){pl:Sem Bool}(hg:Gl X "NestError":=by rfl)
 (hst:yj (e::es) X.env=(false,Yh e X.env)::yj es X.env:=by rfl) (hpl:(Yo pos (yj es X.env)).any (·.1)=false:=by rfl)
 (ht:Yh (.Call (.Attribute (.Name "NestError" np) "__init__" apos) (e::es) [] pos) X.env=(do
  let ov <-Yh (.Name "NestError" np) X.env
  standAt apos.atName
  let (f,first) <-xT [ov] (getMethod ov "__init__" pl)
  callWith pos f first (Yo pos (yj (e::es) X.env)) (xV pos (YS [] X.env))):=by rfl) :
 PE X (.Call (.Attribute (.Name "NestError" np) "__init__" apos) (e::es) [] pos) (λσ H Q=>t σ H λvs H1=>∃a x,vs=[.ref a,x]/\H1 a=some (.ext (zQn a C none))/\Q .non H1):=by
 intro pins s σ H Q I h;refine W.methodCall_KW (pl:=pl) (z6f I hg hm ?_ (by decide)) ht;refine W.method_cls I.kIn Z.gt (W.cls_value I.kIn Z.rd Z.fc (by decide +kernel) ?_);refine PyProof.Rows.callWith_builtin1 (thn (ha pos pins _ σ H _ (I.tok _) h) λus s1 ⟨vs,H1,I1,r1,a,x,ev,ea,q⟩=>?_) hst hpl;subst ev;obtain⟨u1,u2,rfl,ra,rx⟩:=vals2 r1;obtain rfl:u1=yM a:=ra;obtain⟨⟨te,ho⟩,_,_⟩:=(show tG X.prog X.w H1 s1.heap a (.ext (zQn a C none)) from I1.hok a _ ea)
 obtain⟨nm,qn,N,bs,sn,sub,ab,col,dd,k0,k1,k2,k3,k5,lk⟩:=Z.ob;have T:=Z.tail I1.kIn;have hC:=I1.kIn _ _ lk;obtain⟨hp,g,d,tk,os⟩:=s1;refine zvs xK T hC ho (λh' keep he hsz=>?_) (show 1<=yE by rw[YA];decide);refine⟨.non,H1,?_,rfl,q⟩;have J:=I1.write (x:=a) (e:=a) (o:=.ext (zQn a C none)) (h':=h') (t':=tk) (by rw[ea];trivial) (.inl rfl) keep ⟨_,he⟩ (zGp ⟨_,he⟩)
 rwa [ziz ea]at J
def zwo(Z:SK X.K C NE fI f)(ho:PE X o ta)(hv:PE X value tv)(hs:Xl value (some (.Attribute o f pos')) pos.line X.env=pure false:=by rfl) :
 PS X (.Assign [.Attribute o f pos'] value pos) (λD σ H=>tv σ H λy H1=>ta σ H1 λx H2=>∃a,x=.ref a/\H2 a=some (.ext (zQn a C none))/\∀p,H2 p=none->p≠a->D.nx σ (upd (upd H2 p (.xd [(f,y)])) a (.ext (zQn a C (some p))))):=by
 intro pins s σ H D I h;refine plainObj_wpAny_Assign_Attribute (thn (hv pins s σ H _ I h) λu s1 ⟨y,H1,I1,ry,q⟩=>thn (ho pins s1 σ H1 _ I1 q) λov s2 ⟨x,H2,I2,rx,a,ex,ea,q2⟩=>?_) hs;subst ex;obtain rfl:ov=yM a:=rx;obtain⟨⟨te,hob⟩,_,_⟩:=(show tG X.prog X.w H2 s2.heap a (.ext (zQn a C none)) from I2.hok a _ ea)
 obtain⟨nm,qn,N,bs,sn,sub,ab,col,dd,k0,k1,k2,k3,k5,lk⟩:=Z.ob
 obtain⟨cd,hc,hmro,hhd⟩:∃cd,W.clsIn X.K C=some cd/\W.Tq cd.mro=W.bmV/\cd.hasDict=true:=by
  unfold W.clsIn;rw[lk];exact⟨_,rfl,rfl,rfl⟩
 refine W.set_exc I2.kIn ⟨hob,rfl,rfl,trivial⟩ rfl Z.sa hc hmro hhd Z.at_ λh' p tk he hn hp keep=>⟨σ,_,?_,q2 p (I2.hok.fresh hp) ?_⟩
 ·have hpn:H2 p=none:=I2.hok.fresh hp;have hpa:p≠a:=λz=>absurd (yA (ym hob) (z▸hp)) (Yc _);have hpg:∀b ob,s2.heap.get? b=some ob->b≠p:=λb ob r z=>absurd (yA (ym r) (z▸hp)) (Yc _);have hup:∀b,b≠a->b≠p->upd (upd H2 p (.xd [(f,y)])) a (.ext (zQn a C (some p))) b=H2 b:=λb n1 n2=>by rw[zN n1,zN n2]
  have ne_a:∀b ob,H2 b=some ob->(∀φ,ob≠.ext φ)->b≠a:=λb ob r n z=>by rw[z,ea]at r;cases r;exact n _ rfl
  have ne_p:∀b ob,H2 b=some ob->b≠p:=λb ob r=>zI r hpn;refine I2.un (t':=tk) ⟨?_,?_,?_,?_,?_,?_,?_⟩ ?_
  ·exact λb ob r n _ _=>keep b ob (λz=>by rw[z,ea]at n;cases n) r
  ·exact λb ob r n _ _=>⟨ob.slots,keep b ob (λz=>by rw[z,ea]at n;cases n) r⟩
  ·exact λb ob r n _=>by rw[hup b (λz=>by rw[z,ea]at n;cases n) (hpg b ob r)];exact n
  ·exact λb ob r _=>by
    by_cases z:b=a
    ·exact⟨_,by rw[z];exact he⟩
    ·exact⟨_,keep b ob z r⟩
  ·exact λb xs r=>by rw[hup b (ne_a b _ r λ_ z=>by cases z) (ne_p b _ r)];exact r
  ·exact λb ob w r=>by rw[hup b (ne_a b _ r λ_ z=>by cases z) (ne_p b _ r)];exact r
  ·exact λb ps r=>⟨#[],by rw[hup b (ne_a b _ r λ_ z=>by cases z) (ne_p b _ r),Array.append_empty];exact r⟩
  ·intro b ob r
   by_cases z:b=a
   ·subst z;rw[zG]at r;cases r;exact zGp ⟨te,he⟩
   ·by_cases z2:b=p
    ·subst z2;rw[zN z,zG]at r;cases r;refine⟨_,hn,λg=>?_⟩
     by_cases zg:g=f
     ·have hb:(g==f)=true:=beq_iff_eq.mpr zg;simp only[YR,hb,if_pos zg];exact ry
     ·have hb:(g==f)=false:=beq_eq_false_iff_ne.mpr zg;simp only[YR,hb,if_neg zg];trivial
    ·rw[hup b z z2]at r;refine(I2.hok b ob r).stay (λc w hc r'=>keep c w (λz3=>?_) r') (λc r'=>?_) λc xs r'=>?_
     ·subst z3;rcases hc with hc|hc
      ·exact z hc.symm
      ·rw[ea]at hc;cases hc
     ·rw[hup c (ne_a c _ r' λ_ z=>by cases z) (ne_p c _ r')];exact r'
     ·rw[hup c (ne_a c _ r' λ_ z=>by cases z) (ne_p c _ r')];exact r'
 ·exact λz=>absurd (yA (ym hob) (z▸hp)) (Yc _)
end
section
variable {X:Cx}{x:yy}{e:yF}{np cpos pos:xC}{C NE fI:yd}{f:yy}{k:Nat}{fd:yi}{ps:List yy}{φ:FA}
def flyI{pins:List (yd×YY)}{σ:L2.St}{H H2:Hp}{s s':ye}{a p te:yd}(I:Inv X pins σ H s)(I3:Inv X pins σ H2 s')(hos:s'.os=s.os)(un:Un (frs X.stack) [] H H2 s.heap s'.heap)(ha:s.heap.objs.size<=a)(h2:∃φ,H2 a=some (.ext φ))
 (he:s'.heap.get? a=some {cls:=.ref C,dict:=some p,data:=.fields #[.ref te,.none,.none,.none,.bool false,.none]}):Sd X.prog X.w X.stack H s (.ref C) (some p) (era H2 a) (.ref a) s':=by
 have hn:H a=none:=I.hok.fresh ha;obtain⟨φ,h2⟩:=h2;have hin:∀env∈X.stack,∀b,env.frame=some b->b∈a::frs X.stack:=λenv he b hb=>mem_cons_of_mem _ (List.mem_filterMap.mpr ⟨env,he,hb⟩);refine⟨hos,I3.bare,un.era hn,I3.hok.era h2,a,W.hideAll s'.heap (a::frs X.stack),rfl,⟨λb o q=>W.of_hideAll _ q,W.hideAll_none _ mem_cons_self,W.funFrames_hide I3.stack hin,⟨_,_,_,he,rfl,rfl,rfl,rfl,.inl rfl⟩⟩,?_⟩;refine⟨λb o q=>?_,λb o q hb=>?_⟩
 ·by_cases z:b=a
  ·rw[z,zwj]at q;cases q
  ·rw[zci z]at q;obtain⟨u,hu⟩:=(I3.hok b o q).there;refine⟨u,W.hideAll_get _ hu λhm=>?_⟩;rcases List.mem_cons.mp hm with hm|hm
   ·exact z hm
   ·rw[I3.TH b hm]at q;cases q
 ·obtain⟨u,hu⟩:=un.there b o q (by simp);refine⟨u,W.hideAll_get _ hu λhm=>?_⟩;rcases List.mem_cons.mp hm with hm|hm
  ·exact absurd (yA (ym q) (hm▸ha)) (Yc _)
  ·exact hb hm
end
structure AtC(K:yw)(c f:yy):Prop where
 ok:∀C,Yq K yp c=some (some (.ref C))->W.AskC K C/\Ym K (.ref C) f=some none/\W.hasDictIn K C=true
@[simp] def fAt(c f:yy)(φ:FE):FE:=λδ μ=>(φ δ μ).bind λp=>match p.1 with
 |.loc n=>match p.2[n]? with
  |some (.exc c' fs)=>if c'=c then(fs.lookup f).bind λd=>some (d,p.2) else none
  |_=>none
 |_=>none
def zql{K:yw}{ρ:List yd}{H:Hp}{f:yy}{d:D}:∀{fs:List (yy×D)} {vs:List (yy×V)},vs.map (·.1)=fs.map (·.1)->tj K ρ H (fs.map (·.2)) (vs.map (·.2))->fs.lookup f=some d->∃v,vs.lookup f=some v/\tx K ρ H d v
 |[],_,_,_,h=>by cases h
 |(g,d0)::fs,[],e,_,_=>by cases e
 |(g,d0)::fs,(g',v0)::vs,e,r,h=>by
  simp only[map_cons,xj]at e;obtain⟨rfl,e⟩:=e;obtain⟨v,rr,e2,q1,q2⟩:=r.cons_inv;simp only[map_cons,xj]at e2;obtain⟨rfl,rfl⟩:=e2;unfold YR at h ⊢
  split at h
  ·cases h;exact⟨_,rfl,q1⟩
  ·exact zql e q2 h
def zEw{c f:yy}{φ:FE}{δ:Loc}{μ μ':Mem}{d:D}(h:fAt c f φ δ μ=some (d,μ')):∃n fs,φ δ μ=some (.loc n,μ')/\μ'[n]?=some (.exc c fs)/\fs.lookup f=some d:=by
 obtain⟨⟨d1,μ1⟩,e1,h2⟩:=zn h;clear h
 cases d1 with
 |loc n=>
  replace h2:(match μ1[n]? with
   |some (.exc c' fs)=>if c'=c then(fs.lookup f).bind λd=>some (d,μ1) else none
   |_=>none)=some (d,μ'):=h2
  cases hm:μ1[n]? with
  |none=>rw[hm]at h2;cases h2
  |some o=>
   rw[hm]at h2
   cases o with
   |exc c' fs=>
    by_cases hc:c'=c
    ·subst hc;simp only[if_true]at h2;obtain⟨d2,e2,h3⟩:=zn h2;cases h3;exact⟨n,fs,e1,hm,e2⟩
    ·simp only[if_neg hc]at h2;cases h2
   |lst _=>cases h2
   |dct _=>cases h2
   |dcf _=>cases h2
   |ins _ _=>cases h2
 |_=>cases h2
def zxA{X:Cx}{o:yF}{pos:xC}{c f:yy}{φ:FE}(Z:AtC X.K c f)(ho:ME X o φ)(hb:YL o f X.env (Yh o X.env)=Yh o X.env:=by rfl):ME X (.Attribute o f pos) (fAt c f φ):=by
 intro pins s σ H Q I ⟨ρ,δ,μ,d,μ1,A,eo,kk⟩;obtain⟨n,fs,e1,hm,e2⟩:=zEw eo
 refine zps hb (thn (ho pins s σ H (λv H1=>∃a ρ1,v=.ref a/\ρ1[n]?=some a/\Ext ρ H ρ1 H1/\tI X.K ρ1 H1 μ1) I ⟨ρ,δ,μ,.loc n,μ1,A,e1,λρ1 H1 v x1 R1 r1=>by
  obtain⟨a,rfl,e3⟩:=r1.tz;exact⟨a,ρ1,rfl,e3,x1,R1⟩⟩) λu s1 ⟨v,H1,I1,r1,a,ρ1,ev,e3,x1,R1⟩=>?_)
 subst ev;obtain rfl:u=yM a:=r1;obtain⟨C,dx,hn,hH,hX⟩:=R1.at_ _ _ _ e3 hm;obtain⟨⟨ob,vs,h1,h2,h3,h4⟩,_,_⟩:=(show tG X.prog X.w H1 s1.heap a (.ext (zMr a C dx)) from I1.hok a _ hH)
 obtain⟨Zc,Zf,Zd⟩:=Z.ok C hn;rcases hX with ⟨hfs,_⟩|⟨p,ws,rfl,hp,hk,hr⟩
 ·rw[hfs]at e2;cases e2
 ·obtain⟨w1,l1,rw1⟩:=zql hk hr e2;obtain⟨mA,hns,hro⟩:=(show tG X.prog X.w H1 s1.heap p (.xd ws) from I1.hok p _ hp)
  obtain⟨u1,hu1,ru1⟩:=TM.some_of (v:=w1) (o:=mA f) (by rw[<-l1];exact hro f);obtain⟨od,hod,hl⟩:=zFn hns;have J:W.InstAt s1.heap a ob C (some od):=⟨h1,h2,by unfold W.notCls;rw[h4],by rw[h3];exact hod⟩
  exact W.SR I1.kIn J Zc (W.findObj_own Zd Zf rfl (by rw[hl,hu1])) (z8n ru1) ⟨w1,H1,I1.tok _,ru1,kk ρ1 H1 w1 x1 R1 rw1⟩
def zHt(s:Yi):Yi:=match s with
 |.ClassDef _ _ _ b _ _ _ _ _ _ _=>b.getD 0 (.Pass ⟨0,0,0,0⟩)
 |_ =>.Pass ⟨0,0,0,0⟩
structure sS(K:yw)(mg:yy->Option yb)(c f qual:yy)(st:Yi)(ps:List yy)(C NE fI:yd)(fd:yi):Prop where
 nm:Yq K yp c=some (some (.ref C))
 ne:mg "NestError"=some (.ref NE)
 ex:SK K C NE fI f
 fn:Fun K "__init__" qual st fI fd
 bd:Binds K fd ps []
def z7g(ns:List Int):Prop:=ns.length<=100/\∀n∈ns,n.natAbs<1606938044258990275541962092341162602522202993782792835301376
def z2l:∀ns:List Int,(∀n∈ns,n.natAbs<1606938044258990275541962092341162602522202993782792835301376)->PyData.showableAll (ns.map xZ)=true/\PyData.hasDictAll (ns.map xZ)=false/\PyData.depthAll (ns.map xZ)=0/\PyData.leavesShortAll 230 (ns.map xZ)=true/\PyData.bulkAll (ns.map xZ)=ns.length
 |[],_=>⟨rfl,rfl,rfl,rfl,rfl⟩
 |n::ns,h=>by
  obtain⟨h1,h2,h3,h4,h5⟩:=z2l ns λm hm=>h m (mem_cons_of_mem _ hm)
  have hl2:n.natAbs.log2<200:=by
   by_cases z:n.natAbs=0
   ·rw[z];decide
   ·exact(Nat.log2_lt z).mpr (yA (h n mem_cons_self) (by decide))
  have hl:n.natAbs.log2<1920:=Nat.lt_trans hl2 (by decide);have ht:=int_text_length_le (k:=200) (by decide) hl2
  have hs:(PyData.shown (.int n)).length<=230:=by
   simp only[PyData.shown];rw[PySem.ofString_length];omega
  refine⟨?_,?_,?_,?_,?_⟩
  ·simp only[map_cons,PyData.showableAll,PyData.showable,decide_eq_true hl,h1,Xo]
  ·simp only[map_cons,PyData.hasDictAll,PyData.hasDict,h2,Bool.or_self]
  ·simp only[map_cons,PyData.depthAll,PyData.depth,h3,Nat.max_self]
  ·simp only[map_cons,PyData.leavesShortAll,PyData.leavesShort,decide_eq_true hs,h4,Xo]
  ·simp only[map_cons,PyData.bulkAll,PyData.bulk,h5,length_cons];omega
def zGl{h:yV}:∀{ns:List Int} {its:List yb},Vals (ns.map V.int) its->ReadsAll h its (ns.map xZ) []
 |[],_,r=>by cases r;exact .nil
 |n::ns,_,r=>by
  cases r with
  |cons r1 r2=>
   obtain⟨t,rfl⟩:=(show ∃t,_=Value.int n t from r1)
   exact .cons (as:=[]) (bs:=[]) (.int n t) (zGl r2)
section
variable {X:Cx}{v:yF}{tv:TE}{p1 p2 p4:xC}{x1:yy}{j1:Nat}
def zWq(hv:PE X v tv)(hg:X.A.guards=some [])(hu:X.A.units+64<cLine)(h1:x1.length<=1000:=by decide) :
 PE X (.JoinedStr [.Constant (.str x1) j1 p1,.FormattedValue v 114 none p2] p4) (λσ H Q=>tv σ H λx H1=>∃a ns,x=.ref a/\H1 a=some (.lst (ns.map V.int))/\z7g ns/\∀y,Q (.str y) H1):=by
 intro pins s σ H Q I h;have z0:(Str.empty:yy).length=0:=rfl;refine wpAny_JoinedStr ?_;show Joins _ _ _ [Yh (.Constant (.str x1) j1 p1) X.env,Yh (.FormattedValue v 114 none p2) X.env] _ _ _;refine Calls.Constant_str ⟨x1,_,rfl,by rw[strLen_append,z0,YA];omega,?_⟩;refine wpAny_FormattedValue_repr (thn (hv pins _ σ H _ (I.tok _) h) λu s1 ⟨x,H1,I1,r1,a,ns,ex,ea,hs,q⟩=>?_);subst ex;obtain rfl:u=yM a:=r1;obtain⟨_,its,n,rv,ho⟩:=(show tG X.prog X.w H1 s1.heap a (.lst (ns.map V.int)) from I1.hok a _ ea)
 obtain⟨s1',s2',s3',s4',s5'⟩:=z2l ns hs.2;have rd:Reads s1.heap (.ref a) (.list (ns.map xZ)) [a] :=.list (as:=[]) ho rfl rfl (by rw[List.toList_toArray];exact zGl rv)
 have hz:(PyData.shown (.list (ns.map xZ))).length<=33000:=by
  have:=PyData.shown_le_bulk 230 (by decide) (.list (ns.map xZ)) (by simp only[PyData.leavesShort];exact s4');simp only[PyData.bulk,s5']at this;have:=hs.1;omega
 refine pyReprObj_of_reads rd (by simp only[PyData.showable];exact s1') (PyData.noDict_hsm (by simp only[PyData.hasDict];exact s2')) hg (by simp only[PyData.depth,s3'];omega) (λ_ _ e=>e) (λh' u tk keep=>?_) (by rw[YA];omega);have I2:Inv X pins σ H1 {s1 with heap:=h',toks:=tk }:=I1.kept keep
 have last:∀t s2,Inv X pins σ H1 s2->∃y t',Value.str (PyData.shown (.list (ns.map xZ))) t=.str y t'/\((Str.empty++x1)++y).length<=yE /\
  Joins (yx X.prog X.w) X.A X.xe [] ((Str.empty++x1)++y) (λout s₁=>out.length<=yE/\EP X pins σ Q (.str out s₁.toks) {s₁ with toks:=s₁.toks+1 }) s2:=λt s2 J=>by
  have hl:((Str.empty++x1)++PyData.shown (.list (ns.map xZ))).length<=yE:=by rw[strLen_append,strLen_append,z0,YA];omega
  exact⟨_,t,rfl,hl,hl,⟨.str _,H1,J.tok _,⟨_,rfl⟩,q _⟩⟩
 exact wpAny_formatField_str (last _ _ I2) (last _ _ (I2.tok _)) (by rw[YA];omega)
end
def spL(C:yd)(f:yy):Sp:=λvs H Q _=>∃e a ns,vs=[.ref e,.ref a]/\z7g ns/\H a=some (.lst (ns.map V.int))/\H e=some (.ext (zQn e C none)) /\
 ∀l p,H l=none->l≠e->H p=none->p≠e->p≠l->Q .non (upd (upd (upd H l (.lst (ns.map V.int))) p (.xd [(f,.ref l)])) e (.ext (zQn e C (some p))))
instance smallDec(ns:List Int):Decidable (z7g ns):=by unfold z7g;exact inferInstance
@[simp] def zFe(c f:yy)(φ:FA):FS:=λδ μ=>(φ δ μ).bind λp=>match p.1 with
 |[.loc n]=>match p.2[n]? with
  |some (.lst ds)=>(zBh ds).bind λns=>bif decide (z7g ns) then some (.exc c [(f,.loc p.2.length)] (p.2++[.lst ds])) else none
  |_=>none
 |_=>none
def zdp{c f:yy}{φ:FA}{δ:Loc}{μ:Mem}{o:Out}(h:zFe c f φ δ μ=some o):∃n ns μ1,φ δ μ=some ([.loc n],μ1)/\μ1[n]?=some (.lst (ns.map D.int))/\z7g ns/\o=.exc c [(f,.loc μ1.length)] (μ1++[.lst (ns.map D.int)]):=by
 obtain⟨⟨ds,μ1⟩,e1,h2⟩:=zn h;clear h;rcases ds with _|⟨d,ds⟩
 ·cases h2
 ·rcases ds with _|⟨d2,ds⟩
  ·cases d with
   |loc n=>
    replace h2:(match μ1[n]? with
     |some (.lst ds)=>(zBh ds).bind λns=>bif decide (z7g ns) then some (.exc c [(f,.loc μ1.length)] (μ1++[.lst ds])) else none
     |_=>none)=some o:=h2
    cases hm:μ1[n]? with
    |none=>rw[hm]at h2;cases h2
    |some ob=>
     rw[hm]at h2
     cases ob with
     |lst ds=>
      replace h2:((zBh ds).bind λns=>bif decide (z7g ns) then some (.exc c [(f,.loc μ1.length)] (μ1++[.lst ds])) else none)=some o:=h2;obtain⟨ns,e2,h3⟩:=zn h2;have e3:=zqe e2;subst e3
      by_cases hs:z7g ns
      ·rw[decide_eq_true hs]at h3;cases h3;exact⟨n,ns,μ1,e1,hm,hs,rfl⟩
      ·rw[decide_eq_false hs]at h3;cases h3
     |dct _=>cases h2
     |dcf _=>cases h2
     |exc _ _=>cases h2
     |ins _ _=>cases h2
   |_=>cases h2
  ·cases d<;>cases h2
def zVn{K:yw}{ρ:List yd}{H:Hp}:∀{ns:List Int} {vs:List V},tj K ρ H (ns.map D.int) vs->vs=ns.map V.int
 |[],_,r=>r.nil_inv
 |n::ns,_,r=>by
  obtain⟨v,rr,rfl,q1,q2⟩:=r.cons_inv;rw[q1.int_inv,zVn q2];rfl
def zCt{H:Hp}{a l p:yd}{o o' u1 u2:HO}(ha:H a=none)(hl:l≠a)(hp:p≠a):era (upd (upd (upd (upd H a o) l u1) p u2) a o') a=upd (upd H l u1) p u2:=by
 funext b
 by_cases z:b=a
 ·rw[z,zwj,zN (yH hp),zN (yH hl),ha]
 ·rw[zci z,zN z]
  by_cases z2:b=p
  ·rw[z2,zG,zG]
  ·rw[zN z2,zN z2]
   by_cases z3:b=l
   ·rw[z3,zG,zG]
   ·rw[zN z3,zN z,zN z3]
section
variable {X:Cx}{x:yy}{e:yF}{np cpos pos:xC}{C NE fI:yd}{f:yy}{k:Nat}{fd:yi}{ps:List yy}{φ:FA}
set_option maxHeartbeats 800000 in
def zXh(hn:Yq X.K yp x=some (some (.ref C)))(Z:SK X.K C NE fI f)(G:tq X.prog X.w X.K X.mg X.base CX0 1 fI fd ps (spL C f))(hb:Binds X.K fd ps [])(hr:tS k X.A)(ha:MAn X [e] φ)(hk:2<=k:=by decide)(hh:X.calm=true:=by rfl)(hg:Gl X x:=by rfl)
 (he:yj [e] X.env=(false,Yh e X.env)::yj [] X.env:=by exact z6c rfl) (hdb:(x==("__debug__":yy))=false:=by decide) :
 MS X (.Raise (some (.Call (.Name x np) [e] [] cpos)) none pos) (zFe x f φ):=by
 intro pins s σ H Dn I ⟨ρ,δ,μ,o,A,eo,kk⟩;obtain⟨n,ns,μ1,e1,hm,hsm,rfl⟩:=zdp eo;clear eo;obtain⟨nm,qn,N,bs,sn,sub,ab,col,dd,k0,k1,k2,k3,k5,lk⟩:=Z.ob
 have hpl':(Yo cpos (yj [e] X.env)).any (·.1)=false:=by
  rw[he];rfl
 refine zrk (C:=C) (fI:=fI) (nm:=nm) (q:=qn) (N:=N) (bs:=bs) (bm:=.ref NE::W.bmV) (hdct:=true) (sn:=sn) (sub:=sub) (ab:=ab) (col:=col) (dd:=dd) (k0:=k0) (k1:=k1) (k2:=k2) (k3:=k3) (k5:=k5) (newId:="ValueError.__new__")
  xK ((Z.tail I.kIn).hasType PySem.F.excBase_ValueError.hasBase) (I.ok.hd hh) hpl' (z6f I hg (xO I.mod.kin I.mod.glob hn) ⟨rfl,?_⟩ hdb)
 have h:=ha.ma cpos pins s σ H (λvs H'=>∃a ρ',vs=[.ref a]/\ρ'[n]?=some a/\Ext ρ H ρ' H'/\tI X.K ρ' H' μ1) I ⟨ρ,δ,μ,[.loc n],μ1,A,e1,λρ' H' vs x' R r=>by
  obtain⟨v,rr,rfl,q1,q2⟩:=r.cons_inv;obtain⟨a,rfl,e3⟩:=q1.tz;exact⟨a,ρ',by rw[q2.nil_inv],e3,x',R⟩⟩
 rw[he]at h ⊢;refine Calls.evalArgs_plain (Yb h (λus s2 h2=>?_) λ_ _ y=>y);obtain⟨vs,H',I',r,a,ρ',rfl,e3,x',R⟩:=h2;obtain⟨u,rfl,ru⟩:=vals1 r;obtain rfl:u=yM a:=ru;obtain⟨ws,hHa,rws⟩:=R.at_ _ _ _ e3 hm;obtain rfl:=zVn rws;have hz:(z5g s2.heap C [.ref a]).get? (s2.heap.objs.size+1)=some {cls:=.ref C,dict:=none,data:=.fields #[.ref s2.heap.objs.size,.none,.none,.none,.bool false,.none]}:=by heap_get
 have kp:∀b o,s2.heap.get? b=some o->(z5g s2.heap C [.ref a]).get? b=some o:=λb o q=>yc _ (yc _ q);have hsz:s2.heap.objs.size<=s2.heap.objs.size+1:=Xf _;have hfr:H' (s2.heap.objs.size+1)=none:=I'.hok.fresh hsz
 have I2:Inv X pins σ (upd H' (s2.heap.objs.size+1) (.ext (zQn (s2.heap.objs.size+1) C none))) {s2 with heap:=z5g s2.heap C [.ref a]} :=
  I'.laid (a:=s2.heap.objs.size+1) (t':=s2.toks) kp hsz (zGp ⟨_,hz⟩)
 have sp:spL C f [.ref (s2.heap.objs.size+1),.ref a] (upd H' (s2.heap.objs.size+1) (.ext (zQn (s2.heap.objs.size+1) C none))) (λv H2=>v=.non/\∃l p,H' l=none/\l≠s2.heap.objs.size+1/\H' p=none/\p≠s2.heap.objs.size+1/\p≠l /\
  H2=upd (upd (upd (upd H' (s2.heap.objs.size+1) (.ext (zQn (s2.heap.objs.size+1) C none))) l (.lst (ns.map V.int))) p (.xd [(f,.ref l)])) (s2.heap.objs.size+1) (.ext (zQn (s2.heap.objs.size+1) C (some p)))) E0 :=
  ⟨_,a,ns,rfl,hsm,by rw[zN (zI hHa hfr)];exact hHa,zG,λl p hl hle hp hpe hpl=>⟨rfl,l,p,by rwa [zN hle]at hl,hle,by rwa [zN hpe]at hp,hpe,hpl,rfl⟩⟩
 have hl:([yM (s2.heap.objs.size+1),.ref a]++[]).length=ps.length:=G.len _ _ _ _ sp;refine⟨rfl,(show 1<=yE by rw[YA];decide),I'.kIn _ _ lk,W.looks_findIn I'.kIn Z.ini,Z.tail I'.kIn,λself=>W.bind_fn I'.kIn self Z.fn,?_⟩;have hroom:tS 1 (X.A.under (.builtin "type.__call__" ⟨.ref C::[.ref a],[]⟩)):=tS.make (k:=1) (hr.mono hk) C [.ref a] [];have henv:=I2.env0.make C [.ref a] [];have hbind:=hb {s2 with heap:=z5g s2.heap C [.ref a]} [.ref (s2.heap.objs.size+1),.ref a] I2.kIn hl;have hvals:Vals [V.ref (s2.heap.objs.size+1),.ref a] ([yM (s2.heap.objs.size+1),.ref a]++[]) :=.cons rfl (.cons rfl .nil);have run:=G.run _ X.stack _ _ _ _ _ _ E0 hroom henv hbind hvals sp;show yo (yx X.prog X.w) (X.A.under (.builtin "type.__call__" ⟨.ref C::[.ref a],[]⟩)) (call (.ref fI) [.ref (s2.heap.objs.size+1),.ref a]) _ _ {s2 with heap:=z5g s2.heap C [.ref a]};refine wpAny_call (YM run λrr s' hq=>?_)
 cases rr with
 |error ex=>exact YE hq
 |ok fl=>
  cases fl with
  |next=>exact YE hq
  |brk=>exact YE hq
  |cont=>exact YE hq
  |ret uu=>
   obtain⟨v,H2,hos,hbare,un,hok,rv,ev,l,p,hl0,hle,hp0,hpe,hpl,e2⟩:=hq;subst ev;obtain rfl:uu=Yt:=rv;obtain⟨_,H3,I3,_,_,e4⟩:=I2.after (Q:=λv' H''=>v'=V.non/\H''=H2) ⟨V.non,H2,hos,hbare,un,hok,rfl,rfl,rfl⟩;rw[e4]at I3;have h3:H2 (s2.heap.objs.size+1)=some (.ext (zQn (s2.heap.objs.size+1) C (some p))):=by rw[e2];exact zG
   obtain⟨⟨te,he3⟩,_,_⟩:=(show tG X.prog X.w H2 s'.heap (s2.heap.objs.size+1) (.ext (zQn (s2.heap.objs.size+1) C (some p))) from I3.hok _ _ h3)
   refine⟨rfl,I3.kIn _ _ lk,⟨_,te,he3⟩,?_⟩;have F:=flyI (C:=C) (te:=te) I' I3 hos ((Un.laid kp hsz hfr).trans un) hsz ⟨_,h3⟩ he3;rw[e2,zCt hfr hle hpe]at F;have R1:tI X.K (ρ'++[l]) (upd H' l (.lst (ns.map V.int))) (μ1++[.lst (ns.map D.int)]):=R.push hl0 ⟨_,zG,rws.ext (Ext.push hl0)⟩;have hp1:upd H' l (.lst (ns.map V.int)) p=none:=by rw[zN hpl];exact hp0
   refine kk (ρ'++[l]) (upd (upd H' l (.lst (ns.map V.int))) p (.xd [(f,.ref l)])) C (some p) hn ((x'.trans (Ext.push hl0)).trans (Ext.new hp1)) (R1.Tp hp1) (.inr ⟨p,[(f,.ref l)],rfl,zG,rfl,?_⟩) pins σ H' s2 (.ref (s2.heap.objs.size+1)) s' I' F;have hpg:=zFb (p:=l) R;simp[tj,tx,hpg]
end
section
variable {X:Cx}{a b c e:yF}{es:List yF}{φ ψ χ:FE}{pos pos2 p1 p2:xC}
def zpv(p:yd)(j:Int):HO:=.ext λh=>∃t u v,IsRange h p 0 j 1 t u v
def zFp:zRj X (.type "range") (λxs H Q=>∃j:Int,xs=[.int j]/\∀p,H p=none->Q (.ref p) (upd H p (zpv p j))):=by
 intro pins s σ H xs us Q I r ⟨j,e,k⟩;subst e;obtain⟨u,rfl,ru⟩:=vals1 r;obtain⟨t,rfl⟩:=ru;refine call_range_1 ?_;refine⟨.ref s.heap.objs.size,_,I.laid (t':=s.toks+1+1) (λb o e=>yc _ e) (yk _) (show tG X.prog X.w _ _ _ (zpv _ j) from⟨⟨_,_,_,IsRange.new _ _ _ _ _ _ _⟩,⟨_,yn _ rfl⟩,λh1 h2 ⟨t,u,v,x⟩ y=>⟨t,u,v,y _ x⟩⟩),rfl,k _ I.fresh⟩
def zGr{its:Array yb}{n:Nat}(h:ItemsOf (λi v=>∃t,v=.int (0+i*1) t) its n):Vals ((yv n).map λ(k:Nat)=>V.int k) its.toList:=by
 obtain⟨h1,h2⟩:=h
 have key:∀(l:List yb)(m:Nat),(∀i (hi:i<l.length),∃t,l[i]=.int ((m+i:Nat):Int) t)->Vals ((List.range' m l.length).map λ(k:Nat)=>V.int k) l:=by
  intro l
  induction l with
  |nil=>intro m _;exact .nil
  |cons x xs ih=>
   intro m h;obtain⟨t,e⟩:=h 0 (by simp);refine .cons ⟨t,by simpa using e⟩ (ih (m+1) λi hi=>?_);obtain⟨t,e⟩:=h (i+1) (by simpa using hi);exact⟨t,by rw[show m+1+i=m+(i+1) by omega];simpa using e⟩
 have:=key its.toList 0 λi hi=>?_
 ·rw[List.range_eq_range',<-h1];simpa using this
 ·have hi':i<its.size:=by simpa using hi
  obtain⟨t,e⟩:=h2 i its[i] (by simp[hi']);exact⟨t,by simpa using e⟩
def zck(φ:FE):FE:=λδ μ=>(φ δ μ).bind λp=>match p.1 with
 |.int j=>bif decide (-(2^62)<=j/\j<=1000000) then some (.loc p.2.length,p.2++[.lst ((yv j.toNat).map λ(k:Nat) =>.int k)]) else none
 |_=>none
def zir(hc:X.calm=true):zRj X (.type "list") (λxs H Q=>∃p j,xs=[.ref p]/\H p=some (zpv p j)/\-(2^62)<=j/\j<=1000000/\∀l,H l=none->Q (.ref l) (upd H l (.lst ((yv j.toNat).map λ(k:Nat)=>V.int k)))):=by
 intro pins s σ H xs us Q I r ⟨p,j,e,hq,h1,h2,k⟩;subst e;obtain⟨u,rfl,ru⟩:=vals1 r;cases ru;obtain⟨⟨t,u,v,hr⟩,_,_⟩:=I.hok p _ hq;have hn:Builtin.Range.rangeSize 0 j 1=(j.toNat:Nat):=by rw[rangeSize_one];split<;>omega
 refine call_list_range (n:=j.toNat) (I.ok.hd hc) hr (small_one (by decide) (by decide) h1 (by omega)) hn (by omega) λh' tk acc' c' kp e hi=>?_;have hm:=Ts;have hv:=zGr hi;refine⟨.ref s.heap.objs.size,_,I.laid (t':=tk) kp (yk _) (show tG X.prog X.w _ h' _ (.lst _) from⟨by simp;omega,acc'.toList,c',hv,by simpa using e⟩),rfl,k _ I.fresh⟩
def zvo(hm1:X.mg "list"=none)(hv1:yQ "list"=some (.type "list"))(hm2:X.mg "range"=none)(h:ME X e φ)(hc:X.calm=true:=by rfl)(hg1:Gl X "list":=by rfl)(hg2:Gl X "range":=by rfl)
 (he:yj [e] X.env=(false,Yh e X.env)::yj [] X.env:=by rfl) (he2:yj [.Call (.Name "range" p2) [e] [] pos2] X.env=(false,Yh (.Call (.Name "range" p2) [e] [] pos2) X.env)::yj [] X.env:=by rfl) :
 ME X (.Call (.Name "list" p1) [.Call (.Name "range" p2) [e] [] pos2] [] pos) (zck φ) :=
 zjd (zxe (zir hc) hg1 hm1 hv1 (zQc (zxe zFp hg2 hm2 boot_range (zQc h zmf he) (by decide) (by decide) he rfl) zmf he2) (by decide) (by decide) he2 rfl) λρ δ μ σ H d μ' Q A e k=>by
  obtain⟨⟨x,μ1⟩,e1,e⟩:=zn e;refine⟨ρ,δ,μ,x,μ1,A,e1,λρ1 H1 v x1 R1 r1=>?_⟩;dsimp only at e
  split at e
  ·rename_i j
   obtain⟨hb,e⟩:=zY e;have hb:=of_decide_eq_true hb;cases e;refine⟨j,by rw[r1.int_inv],λp1 hp1=>⟨p1,j,rfl,zG,hb.1,hb.2,λl hl=>?_⟩⟩;have R2:=R1.Tp (o:=zpv p1 j) hp1;refine k _ _ _ (x1.trans ((Ext.new hp1).trans (Ext.push hl))) (R2.push hl ⟨_,zG,?_⟩) (.loc (zFb R2));have hr:=λρ H=>@zUe X.K ρ H ((yv j.toNat).map λ(k:Nat)=>(k:Int));simp only[map_map]at hr;exact hr _ _
  ·cases e
@[simp] def znB:GL:=λds μ=>match ds with
 |[.int i]=>some (.int i,μ)
 |[.bl b]=>some (.int (if b then 1 else 0),μ)
 |_=>none
@[simp] def zkA:GL:=λds μ=>match ds with
 |[.int i,.int j]=>some (.int (if j<i then j else i),μ)
 |_=>none
@[simp] def zSA:GL:=λds μ=>match ds with
 |[.int i,.int j]=>some (.int (if j>i then j else i),μ)
 |_=>none
@[simp] def fIf(c:FT)(φ ψ:FE):FE:=λδ μ=>(c δ μ).bind λp=>bif p.1 then φ δ p.2 else ψ δ p.2
end
section
variable {prog:yB}{w:yL}{A:yR}{E:yb->ye->Prop}{s:ye}
def nextT{it t:yd}{i:Nat}{items:Array yb}{x:yb}{Q:yb->ye->Prop}(hit:s.heap.IsTupleIter it t i)(ht:s.heap.IsTuple t items)(hx:items[i]?=some x)
 (hQ:∀h',h'.IsTupleIter it t (i+1)->yN it s.heap h'->Q x {s with heap:=h' }):yo (yx prog w) A (yU (.ref it)) Q E s:=by
 obtain⟨ob,hob,hcl,hfs⟩:=id hit;obtain⟨ot,hot,_,m,hits⟩:=ht;unfold yU;refine ya (yZ (name:=YN "__next__") hit.typeIs xL (yW xL hit.typeIs F.entry_tuple_iterator_next ?_ (F.args_tuple_iterator_next_1 _)));show yo _ _ (field (.ref it) 0 >>= _) _ _ s;refine ya (Yn hob hfs (x:=.ref t) rfl ?_);show yo _ _ (if(yM t==Yt)=true then _ else field (.ref it) 1 >>= _) _ _ s;rw[if_neg (show ¬(yM t==Yt)=true from yC)];refine ya (Yn hob hfs (x:=.int i 0) rfl ?_);show yo _ _ (seqItems? (.ref t) >>= _) _ _ s;refine ya (YV hot hits ?_);simp only[YD,hx];refine ya (xb hob hfs (by simp) (yg ⟨x,rfl,yg (hQ _ ?_ (YG ..))⟩));refine⟨_,yS _ hob (YH (Yg hfs _)),(Xx ..).trans hcl,?_⟩;rw[Yg hfs];simp[YF]
def zLo{it t:yd}{i:Nat}{items:Array yb}{Q:yb->ye->Prop}(hh:A.handled=none)(hit:s.heap.IsTupleIter it t i)(ht:s.heap.IsTuple t items)(hx:items[i]?=none)
 (hE:∀h' e,xE it s.heap h'->(∃o,h'.get? e=some o/\o.cls=.type "StopIteration")->E (.ref e) {s with heap:=h' }):yo (yx prog w) A (yU (.ref it)) Q E s:=by
 obtain⟨ob,hob,hcl,hfs⟩:=id hit;obtain⟨ot,hot,_,m,hits⟩:=ht;unfold yU;refine ya (yZ (name:=YN "__next__") hit.typeIs xL (yW xL hit.typeIs F.entry_tuple_iterator_next ?_ (F.args_tuple_iterator_next_1 _)));show yo _ _ (field (.ref it) 0 >>= _) _ _ s;refine ya (Yn hob hfs (x:=.ref t) rfl ?_);show yo _ _ (if(yM t==Yt)=true then _ else field (.ref it) 1 >>= _) _ _ s;rw[if_neg (show ¬(yM t==Yt)=true from yC)];refine ya (Yn hob hfs (x:=.int i 0) rfl ?_);show yo _ _ (seqItems? (.ref t) >>= _) _ _ s;refine ya (YV hot hits ?_);simp only[YD,hx];refine ya (wpAny_rule (ya (xb hob hfs (by simp) ?_)));show yo _ _ (newExc (.type "StopIteration") [] >>= _) _ _ _;refine ya ?_;simp only[newExc,newTuple];refine ya (Ye ?_ (by size_fits));refine ya (m:=firstArgMember _ _) (wpAny_of_eq (a:=Yt) (by first|rfl|(simp only[firstArgMember];rfl)) ?_);refine Ye ?_ (by size_fits);simp only[raiseNew];refine ya (wpAny_handled ?_)
 first|rw[show A.in1.handled=none from hh]|rw[hh]
 exact ya (yg (wpAny_throw (hE _ _ (((YG ..).extBut.push _).push _) ⟨_,yn _ rfl,rfl⟩)))
def zEo{e it:yd}{i:Int}{x old:yb}{N:yV->Prop}{Q:Option yb->ye->Prop}(he:IsEnum s.heap e it i old)(hne:e≠it)
 (nx:∀(A':yR)(Q':yb->ye->Prop)(E':yb->ye->Prop),(∀h1,N h1->yN it s.heap h1->Q' x {s with heap:=h1 })->yo (yx prog w) A' (yU (.ref it)) Q' E' s)
 (hN:∀h h',N h->(∀o,h.get? it=some o->h'.get? it=some o)->N h')
 (hQ:∀h',IsEnumOut h' e it (i+1) x s.heap.objs.size->N h'->h'.get? s.heap.objs.size=some {cls:=.type "tuple",data:=.seq #[.int i s.toks,x]}->h'.objs.size=s.heap.objs.size+1 ->
  (∀b o,b≠e->b≠it->s.heap.get? b=some o->h'.get? b=some o)->Q (some (.ref s.heap.objs.size)) {s with heap:=h',toks:=s.toks+1 }):yo (yx prog w) A (xQ (.ref e)) Q E s:=by
 obtain⟨hp,g,d,tk,os⟩:=s;have hT:Shared.TypeIs ⟨hp,g,d,tk,os⟩ (.ref e) "enumerate":=⟨_,he,rfl⟩
 unfold xQ;refine ya (xX (yZ (name:=YN "__next__") hT Xu (yW Xu hT F.entry_enumerate_next ?_ (F.args_enumerate_next_1 _))));show yo _ _ (field (.ref e) 2 >>= _) _ _ _;refine ya (Yn he rfl (x:=.ref it) rfl (ya (nx _ _ _ λh1 n1 sb1=>?_)));replace sb1:yN it hp h1:=sb1;have e1:IsEnum h1 e it i old:=(sb1.2 e hne).trans he;show yo _ _ (field (.ref e) 3 >>= _) _ _ ⟨h1,g,d,tk,os⟩;refine ya (Yn e1 rfl (x:=YF i) rfl ?_);show yo _ _ (field (.ref e) 4 >>= _) _ _ ⟨h1,g,d,tk,os⟩;refine ya (Yn e1 rfl (x:=.none) rfl ?_);show yo _ _ (mkInt i >>= _) _ _ ⟨h1,g,d,tk,os⟩;refine ya (wpAny_mkInt ?_);show yo _ _ (setField (.ref e) 3 (YF (i+1)) >>= _) _ _ ⟨h1,g,d,tk+1,os⟩;refine ya (Yx e1 (by simp) λh2 e2 sb2=>?_);replace sb2:yN e h1 h2:=sb2;replace e2:IsEnum h2 e it (i+1) old:=e2;show yo _ _ (setField (.ref e) 4 .none >>= _) _ _ ⟨h2,g,d,tk+1,os⟩;refine ya (Yx e2 (by simp) λh3 e3 sb3=>?_);replace sb3:yN e h2 h3:=sb3;replace e3:IsEnum h3 e it (i+1) old:=e3;show yo _ _ (newTuple [.int i tk,x] >>= _) _ _ ⟨h3,g,d,tk+1,os⟩;refine ya (wpAny_newTuple ?_);have z3:h3.objs.size=hp.objs.size:=by rw[sb3.1,sb2.1,sb1.1]
 have el:e<hp.objs.size:=ym he;have ne4:hp.objs.size≠e:=yT el;obtain⟨h4,hh4⟩:∃h4,h4=h3.push {cls:=.type "tuple",data:=.seq #[.int i tk,x]}:=⟨_,rfl⟩
 have e4:IsEnum h4 e it (i+1) old:=by rw[hh4];exact yc _ e3
 have t4:h4.get? hp.objs.size=some {cls:=.type "tuple",data:=.seq #[.int i tk,x]}:=by rw[hh4,<-z3];exact yn _ rfl
 have z4:h4.objs.size=hp.objs.size+1:=by rw[hh4,Yd,z3]
 have up:∀b o,b≠e->h1.get? b=some o->h4.get? b=some o:=λb o hb q=>by
  rw[hh4];exact yc _ ((sb3.2 b hb).trans ((sb2.2 b hb).trans q))
 show yo _ _ (Yr (.ref e) >>= _) _ _ ⟨h3.push {cls:=.type "tuple",data:=.seq #[.int i tk,x]},g,d,tk+1,os⟩;rw[<-hh4,z3];refine ya ?_;unfold Yr;refine ya (Yn e4 rfl (x:=.none) rfl (yg ?_));simp only[if_true];refine ya (wpAny_rule (ya (Yn e4 rfl (x:=old) rfl (ya (Yx e4 (by simp) λh5 e5 sb5=>?_)))));replace sb5:yN e h4 h5:=sb5;replace e5:IsEnum h5 e it (i+1) x:=e5;show yo _ _ (YO (.ref e) (.ref hp.objs.size) >>= _) _ _ ⟨h5,g,d,tk+1,os⟩;refine ya ?_;unfold YO;refine ya (Yx e5 (by simp) λh6 e6 sb6=>?_);replace sb6:yN e h5 h6:=sb6;replace e6:IsEnumOut h6 e it (i+1) x hp.objs.size:=e6;refine Yx e6 (by simp) λh7 e7 sb7=>?_;replace sb7:yN e h6 h7:=sb7;replace e7:IsEnumOut h7 e it (i+1) x hp.objs.size:=e7;have up7:∀b o,b≠e->h4.get? b=some o->h7.get? b=some o:=λb o hb q=>(sb7.2 b hb).trans ((sb6.2 b hb).trans ((sb5.2 b hb).trans q));refine ya (wpAny_letGo (yg ⟨_,rfl,yg (hQ h7 e7 (hN _ _ n1 λo q=>up7 _ _ (yH hne) (up _ _ (yH hne) q)) (up7 _ _ ne4 t4) ?_ λb o h1 h2 q=>up7 _ _ h1 (up _ _ h1 ((sb1.2 b h2).trans q)))⟩));show h7.objs.size=hp.objs.size+1;rw[sb7.1,sb6.1,sb5.1,z4]
def z0p{e it:yd}{i:Int}{old:yb}{Q:Option yb->ye->Prop}(he:IsEnum s.heap e it i old)
 (nx:∀(A':yR)(Q':yb->ye->Prop)(E':yb->ye->Prop),A'.handled=A.handled->(∀h' x,xE it s.heap h'->(∃o,h'.get? x=some o/\o.cls=.type "StopIteration")->E' (.ref x) {s with heap:=h' })->yo (yx prog w) A' (yU (.ref it)) Q' E' s)
 (hQ:∀h',xE it s.heap h'->Q none {s with heap:=h' }):yo (yx prog w) A (xQ (.ref e)) Q E s:=by
 have hT:s.TypeIs (.ref e) "enumerate":=⟨_,he,rfl⟩
 unfold xQ;refine ya (xX (yZ (name:=YN "__next__") hT Xu (yW Xu hT F.entry_enumerate_next ?_ (F.args_enumerate_next_1 _))));show yo _ _ (field (.ref e) 2 >>= _) _ _ _;refine ya (Yn he rfl (x:=.ref it) rfl (ya (nx _ _ _ rfl λh' x eb ⟨o,ho,hc⟩=>?_)));exact ya (Xd (T:="StopIteration") (b:=true) ⟨o,ho,hc⟩ isSubtype_stop (yg (hQ _ eb)))
end
section
variable {X:Cx}{pins:List (yd×YY)}{σ:L2.St}{H:Hp}{s:ye}
def zsm{fp:List yd}(hf:∀b∈fp,z4o X pins H b){b:yd}{u:HO}(e:H b=some u):b∉fp:=λz=>by rw[(hf b z).1]at e;cases e
def z1y{fp:List yd}(hf:∀b∈fp,z4o X pins H b):∀b∈fp,(b∈X.ex\/X.s₀.heap.objs.size<=b)/\b≠X.env.locals/\(∀x c,X.env.cells.lookup x=some c->c≠b)/\∀p∈X.pn++pins,p.1≠b:=λb hb=>by
 obtain⟨_,f1,_,f3,f4,f5⟩:=hf b hb;exact⟨f3,f1,f4,f5⟩
def zEi{fp:List yd}{h':yV}{t':Nat}(I:Inv X pins σ H s)(hf:∀b∈fp,z4o X pins H b)(k:∀b o,b∉fp->s.heap.get? b=some o->h'.get? b=some o):Inv X pins σ H {s with heap:=h',toks:=t' }:=by
 refine I.call (g':=s.gens) (t':=t') (d':=s.drawn) (ch:=fp) ⟨λb o e _ _ hx=>k b o hx e,λb o e _ _ hx=>⟨o.slots,k b o hx e⟩,λ_ _ _ n _=>n,λb o e hx=>⟨o,k b o hx e⟩,λ_ _ e=>e,λ_ _ _ e=>e,λ_ ps e=>⟨#[],by rw[e];simp⟩⟩ (λa o e=>?_) I.bare (z1y hf);refine(I.hok a o e).stay (λb u hb q=>k b u ?_ q) (λ_ q=>q) λ_ _ q=>q;rcases hb with rfl|hb
 ·exact zsm hf e
 ·exact zsm hf hb
def zFd{fp:List yd}{h':yV}{t':Nat}{p:yd}{o:HO}(I:Inv X pins σ H s)(hf:∀b∈fp,z4o X pins H b)(k:∀b o,b∉fp->s.heap.get? b=some o->h'.get? b=some o)(hp:s.heap.objs.size<=p)
 (new:tG X.prog X.w (upd H p o) h' p o):Inv X pins σ (upd H p o) {s with heap:=h',toks:=t' }:=by
 have hn:=I.hok.fresh hp;have hlt:∀b ob,s.heap.get? b=some ob->b≠p:=λb ob e=>yt (yA (ym e) hp)
 refine I.call (g':=s.gens) (t':=t') (d':=s.drawn) (ch:=fp) ⟨λb o e _ _ hx=>k b o hx e,λb o e _ _ hx=>⟨o.slots,k b o hx e⟩,λb ob e n _=>by rw[zN (hlt b ob e)];exact n,λb o e hx=>⟨o,k b o hx e⟩,
  λ_ _ e=>by rw[zN (zI e hn)];exact e,λ_ _ _ e=>by rw[zN (zI e hn)];exact e,λ_ ps e=>⟨#[],by rw[zN (zI e hn),e];simp⟩⟩ (λa u e=>?_) I.bare (z1y hf)
 by_cases ha:a=p
 ·subst ha;rw[zG]at e;cases e;exact new
 ·rw[zN ha]at e;refine(I.hok a u e).stay (λb u hb q=>k b u ?_ q) (λb q=>by rw[zN (zI q hn)];exact q) λb xs q=>by rw[zN (zI q hn)];exact q
  rcases hb with rfl|hb
  ·exact zsm hf e
  ·exact zsm hf hb
def Ien(J:It):It:=⟨J.go,λi H x H'=>∃p y,x=.ref p/\H p=none/\H'=upd H p (.tup [.int i,y])/\J.yld i H y H,J.stop⟩
def zjp{P:yB}{w:yL}{H:Hp}{h:yV}{p:yd}{x y:V}{u v:yb}(e:h.get? p=some {cls:=.type "tuple",data:=.seq #[u,v]})(rx:RelV x u)(ry:RelV y v):tG P w H h p (.tup [x,y]) :=
 ⟨by rw[YA];simp,[u,v],.cons rx (.cons ry .nil),⟨_,e,rfl,_,rfl⟩⟩
def zYr{P:yB}{w:yL}{K:yw}{elts:List yF}{x1}{pos:xC}(a e it:yd)(hne:e≠it):Turn P w K (.Tuple elts x1 pos) (Ien (Itl K a)) [e,it] e (λi h=>(∃old,IsEnum h e it i old)/\h.IsListIter it a i) where
 mem:=by simp
 obj:=λi h ⟨⟨old,he⟩,st⟩ b hb=>by
  have hb:b=e\/b=it:=by simpa using hb
  rcases hb with rfl|rfl
  ·exact⟨_,he,λv z=>by have z':Data.fields _=Data.cell v:=z;cases z'⟩
  ·obtain⟨o,q,c,d⟩:=st;exact⟨o,q,λv z=>by rw[d]at z;cases z⟩
 keep:=λi h h' ⟨⟨old,he⟩,st⟩ k=>⟨⟨old,k e (by simp) _ he⟩,st.at λo q=>k it (by simp) o q⟩
 item:=by
  intro X hP hw hK hc i pins s σ H E I hf ⟨⟨old,he⟩,st⟩ hg;subst hP hw hK;obtain⟨xs,x,hq,hx⟩:=hg;obtain⟨its,rv,p,hz⟩:=I.list hq;obtain⟨u,hu,ru⟩:=rv.get hx;refine zEo (N:=λh=>h.IsListIter it a (i+1)) he hne (λA' Q' E' hQ=>wpAny_nextOf_list_item st p.isList (x:=u) (by simpa using hu) λh' st' sb=>hQ h' st' sb) (λh h' n k=>n.at λo q=>k o q) λh' eo n' t' z' kk=>?_;refine⟨_,rfl,wpAny_letOwnedTupleGo_enum eo λh2 e2 sb2=>?_⟩;replace sb2:yN e h' h2:=sb2;have hlt:e<s.heap.objs.size:=ym he;have t2:=(sb2.2 s.heap.objs.size (yT hlt)).trans t';have hfr:=I.hok.fresh (yk s.heap.objs.size)
  have I2:Inv X pins σ (upd H s.heap.objs.size (.tup [.int i,x])) {s with heap:=h2,toks:=s.toks+1 }:=by
   refine zFd I hf (λb o hb q=>?_) (yk _) (zjp t2 ⟨_,rfl⟩ ru);simp only[mem_cons,not_mem_nil,or_false,not_or]at hb;exact(sb2.2 b hb.1).trans (kk b o hb.1 hb.2 q)
  refine⟨.ref s.heap.objs.size,_,I2,rfl,⟨_,x,rfl,hfr,rfl,rfl,λys hy=>by rw[I.sM hy hq];exact hx⟩,⟨⟨u,by simpa using e2⟩,n'.at λo q=>(sb2.2 it (yH hne)).trans q⟩,λb hb=>?_⟩
  ·rw[zN]
   ·exact(hf b hb).1
   ·rintro rfl;have hb:s.heap.objs.size=e\/s.heap.objs.size=it:=by simpa using hb
    rcases hb with q|q
    ·exact absurd hlt (by rw[q];exact Yc _)
    ·obtain⟨o,qo,_⟩:=st;exact absurd (ym qo) (by rw[q];exact Yc _)
 done:=by
  intro X hP hw hK hc i pins s σ H E I hf ⟨⟨old,he⟩,st⟩ hg;subst hP hw hK;obtain⟨xs,hq,hx⟩:=hg;obtain⟨its,rv,p,hz⟩:=I.list hq;have hl:=rv.length;refine z0p he (λA' Q' E' hA hE=>wpAny_nextOf_list_end (hA.trans (I.ok.hd hc)) st p.isList (by simp;omega) hE) λh' eb=>⟨rfl,zEi (t':=s.toks) I hf λb o hb q=>eb b o (λz=>hb (by simp[z])) q⟩
 self:=λ_ _ _ _ _ ⟨⟨old,he⟩,_⟩ h=>wpAny_pyIter_enum he h
def zjr{P:yB}{w:yL}{K:yw}{elts:List yF}{x1}{pos:xC}(a e it:yd)(hne:e≠it):Turn P w K (.Tuple elts x1 pos) (Ien (Itt K a)) [e,it] e (λi h=>(∃old,IsEnum h e it i old)/\h.IsTupleIter it a i) where
 mem:=by simp
 obj:=λi h ⟨⟨old,he⟩,st⟩ b hb=>by
  have hb:b=e\/b=it:=by simpa using hb
  rcases hb with rfl|rfl
  ·exact⟨_,he,λv z=>by have z':Data.fields _=Data.cell v:=z;cases z'⟩
  ·obtain⟨o,q,c,d⟩:=st;exact⟨o,q,λv z=>by rw[d]at z;cases z⟩
 keep:=λi h h' ⟨⟨old,he⟩,st⟩ k=>⟨⟨old,k e (by simp) _ he⟩,st.at λo q=>k it (by simp) o q⟩
 item:=by
  intro X hP hw hK hc i pins s σ H E I hf ⟨⟨old,he⟩,st⟩ hg;subst hP hw hK;obtain⟨xs,x,hq,hx⟩:=hg;obtain⟨its,rv,p,hz⟩:=I.tuple hq;obtain⟨u,hu,ru⟩:=rv.get hx;refine zEo (N:=λh=>h.IsTupleIter it a (i+1)) he hne (λA' Q' E' hQ=>nextT st (show s.heap.IsTuple a its.toArray from p) (x:=u) (by simpa using hu) λh' st' sb=>hQ h' st' sb) (λh h' n k=>n.at λo q=>k o q) λh' eo n' t' z' kk=>?_;refine⟨_,rfl,wpAny_letOwnedTupleGo_enum eo λh2 e2 sb2=>?_⟩;replace sb2:yN e h' h2:=sb2;have hlt:e<s.heap.objs.size:=ym he;have t2:=(sb2.2 s.heap.objs.size (yT hlt)).trans t';have hfr:=I.hok.fresh (yk s.heap.objs.size)
  have I2:Inv X pins σ (upd H s.heap.objs.size (.tup [.int i,x])) {s with heap:=h2,toks:=s.toks+1 }:=by
   refine zFd I hf (λb o hb q=>?_) (yk _) (zjp t2 ⟨_,rfl⟩ ru);simp only[mem_cons,not_mem_nil,or_false,not_or]at hb;exact(sb2.2 b hb.1).trans (kk b o hb.1 hb.2 q)
  refine⟨.ref s.heap.objs.size,_,I2,rfl,⟨_,x,rfl,hfr,rfl,rfl,λys hy=>by rw[I.sy hy hq];exact hx⟩,⟨⟨u,by simpa using e2⟩,n'.at λo q=>(sb2.2 it (yH hne)).trans q⟩,λb hb=>?_⟩
  ·rw[zN]
   ·exact(hf b hb).1
   ·rintro rfl;have hb:s.heap.objs.size=e\/s.heap.objs.size=it:=by simpa using hb
    rcases hb with q|q
    ·exact absurd hlt (by rw[q];exact Yc _)
    ·obtain⟨o,qo,_⟩:=st;exact absurd (ym qo) (by rw[q];exact Yc _)
 done:=by
  intro X hP hw hK hc i pins s σ H E I hf ⟨⟨old,he⟩,st⟩ hg;subst hP hw hK;obtain⟨xs,hq,hx⟩:=hg;obtain⟨its,rv,p,hz⟩:=I.tuple hq;have hl:=rv.length;refine z0p he (λA' Q' E' hA hE=>zLo (hA.trans (I.ok.hd hc)) st (show s.heap.IsTuple a its.toArray from p) (by simp;omega) hE) λh' eb=>⟨rfl,zEi (t':=s.toks) I hf λb o hb q=>eb b o (λz=>hb (by simp[z])) q⟩
 self:=λ_ _ _ _ _ ⟨⟨old,he⟩,_⟩ h=>wpAny_pyIter_enum he h
def ztt(l:yd)(items:Array yb)(n:Nat)(dct:Option yd)(sl:Array (Option yb)) :
 Meets (xw.«enumerate.__new__» ⟨[.type "enumerate",.ref l],[]⟩) (λ_ R s=>s.heap.get? l=some {cls:=.type "tuple",dict:=dct,data:=.seq items n,slots:=sl } /\
  R (.ok (.ret (.ref (s.heap.push {cls:=.type "tuple_iterator",data:=.fields #[.ref l,.int 0 0]}).objs.size)))
   {s with heap:=(s.heap.push {cls:=.type "tuple_iterator",data:=.fields #[.ref l,.int 0 0]}).push {cls:=.type "enumerate",data:=.fields #[.none,.bool false,.ref s.heap.objs.size,YF 0,.none,.none]}}) :=
 .of_wp λprog w A R s h=>by
  obtain⟨hp,g,d,tk,os⟩:=s;obtain⟨hl,h⟩:=h;have hsub:=sub_enumerate;have hL:Heap.IsTuple (Shared.heap ⟨hp,g,d,tk,os⟩) l items:=⟨_,hl,rfl,n,rfl⟩
  wp_walk using Xa hl
  refine wpAny_stack_any λst=>yg ?_
  split
  ·rename_i c _ _ _ _ _
   cases (c==YK "enumerate")
   ·wp_walk using Xa hl,xF hL
    exact⟨_,rfl,h⟩
   ·wp_walk using Xa hl,xF hL
    exact⟨_,rfl,h⟩
  ·wp_walk using Xa hl,xF hL
   exact⟨_,rfl,h⟩
def zXr{prog:yB}{w:yL}{A:yR}{E:yb->ye->Prop}{l:yd}{items:Array yb}{Q:yb->ye->Prop}(hL:s.heap.IsTuple l items)
 (h:∀h',IsEnum h' (s.heap.objs.size+1) s.heap.objs.size 0 .none->h'.IsTupleIter s.heap.objs.size l 0->h'.objs.size=s.heap.objs.size+2 ->
  (∀b o,s.heap.get? b=some o->h'.get? b=some o)->Q (.ref (s.heap.objs.size+1)) {s with heap:=h' }):yo (yx prog w) A (call (.type "enumerate") [.ref l]) Q E s:=by
 obtain⟨⟨c,dct,dt,sl⟩,hl,hc,n,hd⟩:=hL;replace hc:c=.type "tuple":=hc;replace hd:dt=.seq items n:=hd;subst hc hd;refine callType_new F.called_enumerate (by decide) (F.typeCall_enumerate_1 _) (F.newCall_enumerate_1 _) (λobj=>F.args_object_init_2 obj _) F.entry_enumerate_new (ztt l items n dct sl) ⟨hl,?_⟩;have hz:(s.heap.push {cls:=.type "tuple_iterator",data:=.fields #[.ref l,.int 0 0]}).objs.size=s.heap.objs.size+1:=Yd ..
 have he:IsEnum ((s.heap.push {cls:=.type "tuple_iterator",data:=.fields #[.ref l,.int 0 0]}).push {cls:=.type "enumerate",data:=.fields #[.none,.bool false,.ref s.heap.objs.size,YF 0,.none,.none]}) (s.heap.objs.size+1) s.heap.objs.size 0 .none:=by
  have:=yn (s.heap.push {cls:=.type "tuple_iterator",data:=.fields #[.ref l,.int 0 0]}) (o:={cls:=.type "enumerate",data:=.fields #[.none,.bool false,.ref s.heap.objs.size,YF 0,.none,.none]}) rfl;rw[hz]at this;exact this
 show _/\_;rw[hz];exact⟨⟨_,he,rfl⟩,h _ he ⟨_,yc _ (yn _ rfl),rfl,rfl⟩ (by rw[Yd,hz]) λb o x=>yc _ (yc _ x)⟩
def zVB(K:yw)(tl:TE):TI:=λσ H R=>tl σ H λx H1=>∃a,x=.ref a/\((∃xs,SqL K H1 a xs)/\R (Ien (Itl K a)) H1\/(∃xs,SqT K H1 a xs)/\R (Ien (Itt K a)) H1)
def zyx{l:yF}{tl:TE}{elts:List yF}{x1}{tp p pos:xC}(hg:Gl X "enumerate")(hm:X.mg "enumerate"=none)(hv:yQ "enumerate"=some (.type "enumerate"))(hl:PE X l tl)(hs:yj [l] X.env=[(false,Yh l X.env)]:=by rfl) :
 PI X (.Tuple elts x1 tp) (.Call (.Name "enumerate" p) [l] [] pos) (zVB X.K tl):=by
 intro pins s σ H R I h
 refine Call_ (ztk I hg hm hv (YJ (thn (zQc hl zmf hs pos pins s σ H (λvs H1=>match vs with
  |[x]=>∃a,x=.ref a/\((∃xs,SqL X.K H1 a xs)/\R (Ien (Itl X.K a)) H1\/(∃xs,SqT X.K H1 a xs)/\R (Ien (Itt X.K a)) H1)
  |_=>False) I h) λus s1 ⟨vs,H1,I1,r1,q1⟩=>?_) hs rfl))
 dsimp only at q1
 split at q1
 case h_2=>exact q1.elim
 obtain⟨a,e,q⟩:=q1;subst e
 cases r1 with
 |cons r rr=>
  cases rr;cases r
  have fin:∀h':yV,(∀b o,s1.heap.get? b=some o->h'.get? b=some o)->∀b∈[s1.heap.objs.size+1,s1.heap.objs.size],z4o X pins H1 b:=λh' kp b hb=>by
   have hb:b=s1.heap.objs.size+1\/b=s1.heap.objs.size:=by simpa using hb
   rcases hb with rfl|rfl
   ·exact I1.Sj (Xf _) (I1.hok.fresh (Xf _))
   ·exact I1.Sj (yk _) (I1.hok.fresh (yk _))
  have hne:s1.heap.objs.size+1≠s1.heap.objs.size:=Nat.succ_ne_self _;rcases q with ⟨⟨xs,hq⟩,q⟩|⟨⟨xs,hq⟩,q⟩
  ·obtain⟨its,rv,pl,hz⟩:=I1.list hq;refine call_enumerate_list pl.isList λh' e1 i1 z1 kp=>?_;refine wpAny_pyIter_enum (s:={s1 with heap:=h' }) e1 ?_;exact⟨_,[s1.heap.objs.size+1,s1.heap.objs.size],_,_,H1,rfl,I1.kept (t':=s1.toks) kp,zYr a _ _ hne,⟨⟨_,e1⟩,i1⟩,fin h' kp,q⟩
  ·obtain⟨its,rv,pl,hz⟩:=I1.tuple hq;refine zXr (show s1.heap.IsTuple a its.toArray from pl) λh' e1 i1 z1 kp=>?_;refine wpAny_pyIter_enum (s:={s1 with heap:=h' }) e1 ?_;exact⟨_,[s1.heap.objs.size+1,s1.heap.objs.size],_,_,H1,rfl,I1.kept (t':=s1.toks) kp,zjr a _ _ hne,⟨⟨_,e1⟩,i1⟩,fin h' kp,q⟩
def zjg(ds:List D):List D:=ds.zipIdx.map λp =>.tup [.int (p.2:Nat),p.1]
def z4c(ds:List D):(zjg ds).length=ds.length:=by simp[zjg]
def zln{ds:List D}{i:Nat}{d:D}(h:(zjg ds)[i]?=some d):∃y,ds[i]?=some y/\d=.tup [.int i,y]:=by
 unfold zjg at h;rw[yh,XB]at h
 cases e:ds[i]? with
 |none=>rw[e]at h;cases h
 |some y=>
  rw[e]at h;refine⟨y,rfl,?_⟩;have:=Yj h;rw[<-this];simp
@[simp] def z1k(φ:FE):FI:=λδ μ=>(φ δ μ).bind λp=>match p.1 with
 |.tup ds=>some (zjg ds,yes,p.2)
 |.fz ds=>some (zjg ds,yes,p.2)
 |.loc n=>match p.2[n]? with
  |some (.lst ds)=>some (zjg ds,z4j n ds,p.2)
  |_=>none
 |_=>none
def zZo{K:yw}{J:It}{ρ:List yd}{H:Hp}{ds:List D}{ok:Mem->Bool}(h:sR K J ρ H ds ok):sR K (Ien J) ρ H (zjg ds) ok:=by
 refine⟨λρ' H' μ' i x R o hi=>h.go ρ' H' μ' i x R o (by rw[z4c]at hi;exact hi),λρ' H' μ' i x H'' d x' R o e ⟨p,y,e1,hp,e2,yl⟩=>?_,λρ' H' μ' x R o=>by rw[z4c];exact h.stop ρ' H' μ' x R o⟩;obtain⟨z,ez,rfl⟩:=zln e;obtain⟨_,_,rz⟩:=h.yld ρ' H' μ' i y H' z x' R o ez yl;subst e1 e2;exact⟨Ext.new hp,R.Tp hp,.tup zG (.cons .int (.cons (rz.ext (Ext.new hp)) .nil))⟩
def zgg{a:yF}{φ:FE}{elts:List yF}{x1}{tp p pos:xC}(hm:X.mg "enumerate"=none)(hv:yQ "enumerate"=some (.type "enumerate"))(h:ME X a φ)(hg:Gl X "enumerate":=by rfl)(hs:yj [a] X.env=[(false,Yh a X.env)]:=by rfl) :
 MI X (.Tuple elts x1 tp) (.Call (.Name "enumerate" p) [a] [] pos) (z1k φ) :=
 zmr (zyx hg hm hv h hs) λρ δ μ σ H ds ok μ' R A e k=>by
  obtain⟨⟨x,μ1⟩,e1,e⟩:=zn e;refine⟨ρ,δ,μ,x,μ1,A,e1,λρ1 H1 v1 x1 R1 r1=>?_⟩;dsimp only at e
  split at e
  ·cases e;obtain⟨a,vs,rfl,e2,q2⟩:=r1.tR;exact⟨a,rfl,.inr ⟨⟨vs,SqT.of e2⟩,k ρ1 H1 _ x1 R1 (zZo (zpu e2 q2))⟩⟩
  ·cases e;obtain⟨a,vs,rfl,e2,q2⟩:=r1.sB;exact⟨a,rfl,.inl ⟨⟨vs,e2.sq⟩,k ρ1 H1 _ x1 R1 (zZo (zhl λρ' H' μ' x _ _=>⟨vs,(x.fz e2).sq,q2.ext x⟩))⟩⟩
  ·split at e
   ·rename_i hm
    cases e;obtain⟨a,rfl,e2⟩:=r1.tz;obtain⟨vs,e3,q3⟩:=R1.at_ _ _ _ e2 hm;refine⟨a,rfl,.inl ⟨⟨vs,SqL.of e3⟩,k ρ1 H1 _ x1 R1 (zZo (zhl λρ' H' μ'' x R' o=>?_))⟩⟩;obtain⟨vs',e4,q4⟩:=R'.at_ _ _ _ (x.get e2) (Tt.mp o);exact⟨vs',SqL.of e4,q4⟩
   ·cases e
  ·cases e
end
section
variable {X:Cx}{a b c e:yF}{es:List yF}{φ ψ χ:FE}{pos:xC}
@[simp] def zRk:GM:=λx ds μ=>match x,ds with
 |.loc n,[d]=>match μ[n]? with
  |some (.lst xs)=>bif zdd d&&xs.all zdd then some (.int (xs.countP λy=>eqF y d:Nat),μ) else none
  |_=>none
 |_,_=>none
def z6n{x:V}:∀{xs:List V} {us:List yb},Vals xs us->xs.all zxk=true->us.countP (eqU x)=xs.countP λy=>eqV y x
 |_,_,.nil,_=>rfl
 |y::xs,u::us,.cons r t,f=>by
  rw[all_cons,yO]at f;rw[countP_cons,countP_cons,zPt r f.1,z6n t f.2]
def z7n{K:yw}{ρ:List yd}{H:Hp}{x:D}{v:V}(rx:tx K ρ H x v)(fx:zdd x=true):∀{ds:List D} {vs:List V},tj K ρ H ds vs->ds.all zdd=true->(vs.countP λy=>eqV y v)=ds.countP λd=>eqF d x
 |[],_,r,_=>by rw[r.nil_inv];rfl
 |d::ds,_,r,f=>by
  obtain⟨w,ws,rfl,r1,r2⟩:=r.cons_inv;rw[all_cons,yO]at f;rw[countP_cons,countP_cons,z7n rx fx r2 f.2,zRs r1 rx f.1 fx]
def z0t:MtG X "list.count" zRk:=by
 refine MtG.of λpins s σ H x xs v us Q I rx rs ρ dx ds μ d μ' r1 r2 R e k=>?_;unfold zRk at e
 split at e
 ·split at e
  ·rename_i hm
   obtain⟨h1,e⟩:=zY e;rw[yO]at h1;cases e;obtain⟨a,rfl,ea⟩:=r1.tz;obtain⟨vs,e3,q3⟩:=R.at_ _ _ _ ea hm;obtain⟨w,r,rfl,q1,q2⟩:=r2.cons_inv;rw[q2.nil_inv]at rs;obtain⟨u,rfl,ru⟩:=vals1 rs;cases rx;obtain⟨z,its,n,rv,hl,el⟩:=I.Sc e3;obtain⟨fv,_⟩:=zIq q1 h1.1 q3 h1.2;refine call_meets PySem.F.slot_list_count ⟨_,el,rfl⟩ PySem.F.entry_list_count (PySem.F.args_list_count_2 _ _) (SeqAt.list_countAt a its.toArray n _ _ u (eqU w)) ⟨el,λy hy=>zpg ru (zdj q1 h1.1) rv fv y (by simpa using hy),?_⟩;refine⟨.int _,H,I.tok _,⟨_,rfl⟩,?_⟩;rw[show its.toArray.toList=its by simp,z6n rv fv,z7n q1 h1.1 q3 h1.2];exact k ρ H _ Ext.refl R .int
  ·cases e
 ·cases e
def zmv{o:yF}{ψ:FA}{apos:xC}(ho:ME X o φ)(ha:MAn X (e::es) ψ)
 (hbase:YL o "count" X.env (Yh o X.env)=Yh o X.env:=by rfl)
 (hfew:((Yo pos (yj (e::es) X.env)).all (λx=>!x.1)&&(xV pos (YS [] X.env)).all (λx=>x.1.isSome)
  && decide ((e::es).length+([]:List xN).length+(if([]:List xN).isEmpty then 0 else 1)<30))=true:=by rfl)
 (hline:(apos.endLine==pos.line)=true:=by rfl) (hs:yj (e::es) X.env=(false,Yh e X.env)::yj es X.env:=by rfl) (hplain:(Yo pos (yj es X.env)).any (·.1)=false:=by rfl) :
 ME X (.Call (.Attribute o "count" apos) (e::es) [] pos) (zFi zRk φ ψ):=zmn PySem.F.slot_list_count PySem.F.type_list_count z0t ho ha hbase hfew hline hs hplain
@[simp] def zvi:GM:=λx ds μ=>match x,ds with
 |.loc n,[.int i]=>match μ[n]? with
  |some (.lst xs)=>(zBh xs).bind λns=>bif ns.contains i then some (.non,μ.set n (.lst ((ns.erase i).map .int))) else none
  |_=>none
 |_,_=>none
def znq{i:Int}:∀{ns:List Int},i∈ns->∃j,∃hj:j<ns.length,ns[j]=i/\(∀m (hm:m<ns.length),m<j->ns[m]≠i)/\ns.erase i=ns.eraseIdx j
 |[],h=>by cases h
 |n::ns,h=>by
  by_cases hn:n=i
  ·exact⟨0,by simp,hn,λm _ hm=>absurd hm (Nat.not_lt_zero _),by simp[hn]⟩
  ·have h':i∈ns:=by
    rcases List.mem_cons.mp h with h|h
    ·exact absurd h.symm hn
    ·exact h
   obtain⟨j,hj,e1,e2,e3⟩:=znq h';refine⟨j+1,by simpa using hj,by simpa using e1,λm hm hmj=>?_,?_⟩
   ·cases m with
    |zero=>simpa using hn
    |succ m=>simpa using e2 m (by simpa using hm) (by omega)
   ·rw[List.erase_cons_tail (by simpa using hn),e3,List.eraseIdx_cons_succ]
def zio{α β:Type}(f:α->β):∀(l:List α)(j:Nat),(l.eraseIdx j).map f=(l.map f).eraseIdx j
 |[],j=>by simp
 |x::l,0=>by simp
 |x::l,j+1=>by simp[zio f l j]
def z6l:∀{vs:List V} {us:List yb} (j:Nat),Vals vs us->Vals (vs.eraseIdx j) (us.eraseIdx j)
 |_,_,_,.nil=>by simp;exact .nil
 |_,_,0,.cons r t=>by simpa using t
 |_,_,j+1,.cons r t=>by rw[List.eraseIdx_cons_succ,List.eraseIdx_cons_succ];exact .cons r (z6l j t)
def zzr:MtG X "list.remove" zvi:=by
 refine MtG.of λpins s σ H x xs v us Q I rx rs ρ dx ds μ d μ' r1 r2 R e k=>?_;unfold zvi at e
 split at e
 ·rename_i l i
  split at e
  ·rename_i hm
   obtain⟨ns,e2,e⟩:=zn e;obtain⟨h1,e⟩:=zY e;cases e;rw[zqe e2]at hm;obtain⟨a,rfl,ea⟩:=r1.tz;obtain⟨vs,e3,q3⟩:=R.at_ _ _ _ ea hm;rw[zJg q3]at e3;obtain⟨w,r,rfl,q1,q2⟩:=r2.cons_inv;rw[q2.nil_inv,q1.int_inv]at rs;obtain⟨u,rfl,ru⟩:=vals1 rs;obtain⟨t,rfl⟩:=ru;cases rx;obtain⟨z,its,n,rv,hl,el⟩:=I.Sc e3;obtain⟨j,hj,hit,hno,her⟩:=znq (show i∈ns by simpa using h1);have hlen:its.length=ns.length:=by rw[<-rv.length];simp
   have at_:∀m (hm:m<its.length),∃t,its[m]=.int (ns[m]'(by omega)) t:=λm hm=>by
    have hg:(ns.map V.int)[m]?=some (.int (ns[m]'(by omega))):=by simp[show m<ns.length by omega]
    obtain⟨u,hu,t,ru⟩:=rv.get hg;exact⟨t,by rw[<-ru];exact(List.getElem?_eq_some_iff.mp hu).2⟩
   let f:yb->Bool:=λy=>match y with | .int z _=>z==i|_=>false
   have hz':its.length<=yE:=by rw[<-rv.length];exact z
   refine call_meets PySem.F.slot_list_remove ⟨_,el,rfl⟩ PySem.F.entry_list_remove (PySem.F.args_list_remove_2 _ _)
    (MeetsSeq.list_remove a its.toArray n (.int i t) f (λy hy=>?_) j (by simp;omega) ?_ (λm hm hmj=>?_) (by simpa using hz')) ⟨el,?_⟩
   ·obtain⟨m,hm,rfl⟩:=List.mem_iff_getElem.mp (show y∈its by simpa using hy);obtain⟨t',e'⟩:=at_ m hm;rw[e'];exact MeetsSeq.EqGives.int _ _ _ _
   ·obtain⟨t',e'⟩:=at_ j (by omega);show f its[j]=true;rw[e'];simp[f,hit]
   ·have hm':m<its.length:=by simpa using hm
    obtain⟨t',e'⟩:=at_ m hm';show f its[m]=false;rw[e'];simpa[f] using hno m (by omega) hmj
   ·have hmu:Mut (H a):=by rw[e3];trivial
    refine⟨.non,_,I.lset (t':=s.toks) (ys:=(ns.erase i).map V.int) (its':=its.eraseIdx j) e3 el ?_ ?_ ?_,rfl,k ρ _ _ (Ext.wr hmu) (R.wr hmu ea ⟨_,zG,zUe⟩) .non⟩
    ·simp[Array.eraseIdxIfInBounds,show j<its.length by omega]
    ·rw[her,zio];exact z6l j rv
    ·have:(ns.erase i).length<=ns.length:=by rw[her];exact List.length_eraseIdx_le _ _
     rw[length_map]at z ⊢;omega
  ·cases e
 ·cases e
def zQs{o:yF}{ψ:FA}{apos:xC}(ho:ME X o φ)(ha:MAn X (e::es) ψ)
 (hbase:YL o "remove" X.env (Yh o X.env)=Yh o X.env:=by rfl)
 (hfew:((Yo pos (yj (e::es) X.env)).all (λx=>!x.1)&&(xV pos (YS [] X.env)).all (λx=>x.1.isSome)
  && decide ((e::es).length+([]:List xN).length+(if([]:List xN).isEmpty then 0 else 1)<30))=true:=by rfl)
 (hline:(apos.endLine==pos.line)=true:=by rfl) (hs:yj (e::es) X.env=(false,Yh e X.env)::yj es X.env:=by rfl) (hplain:(Yo pos (yj es X.env)).any (·.1)=false:=by rfl) :
 ME X (.Call (.Attribute o "remove" apos) (e::es) [] pos) (zFi zvi φ ψ):=zmn PySem.F.slot_list_remove PySem.F.type_list_remove zzr ho ha hbase hfew hline hs hplain
@[simp] def zDz(i:Nat)(g:G2)(φ:FE):FS:=λδ μ=>match δ[i]? with
 |some (some x)=>(φ δ μ).bind λp=>(g x p.1 p.2).bind λq=>some (.next (δ.set i (some q.1)) q.2)
 |_=>none
def zyv:G2:=λx y μ=>match x,y with
 |.int i,.int j=>some (.int (i+j),μ)
 |_,_=>none
def zHw:OpM X (inplaceOp .Add) zyv:=by
 refine OpM.of λpins s σ H x y v u Q I rx ry ρ dx dy μ d μ' r1 r2 R e k=>?_;unfold zyv at e
 split at e
 ·cases e;exact zzx pins s σ H x y v u Q I rx ry ⟨_,_,r1.int_inv,r2.int_inv,k ρ H _ Ext.refl R .int⟩
 ·cases e
def zAz{x:yy}{op:Operator}{g:G2}{pos':xC}(i:Nat)(ho:OpM X (inplaceOp op) g)(he:ME X e φ)(hN:X.N.Nodup:=by assumption)(hi:X.N[i]?=some x:=by rfl)(hx:L2.Loc X.env.scope x:=by first|exact Or.inl rfl|exact Or.inr rfl)
 (hf:X.fn x=true\/X.env.scope.names.lookup x=some .local:=by first|exact .inl rfl|exact .inr rfl|assumption):MS X (.AugAssign (.Name x pos') op e pos) (zDz i g φ) :=
 zkk (z2z (ti:=rM X.K g) hN hi hx he (λpins s σ H x y v u Q I rx ry q=>ho pins s σ H x y v u Q I rx ry q) hf) λρ δ μ σ H o E A e k=>by
  unfold zDz at e
  split at e
  ·rename_i d hd
   obtain⟨v,hv,rv⟩:=A.st i _ hd;obtain⟨⟨y,μ1⟩,e1,e⟩:=zn e;obtain⟨⟨z,μ2⟩,e2,e⟩:=zn e;cases e;refine⟨v,hv,ρ,δ,μ,y,μ1,A,e1,λρ1 H1 w x1 R1 r1=>?_⟩;refine⟨ρ1,d,y,μ1,z,μ2,rv.ext x1,r1,R1,e2,λρ2 H2 w2 x2 R2 r2=>?_⟩;exact k ρ2 _ H2 (x1.trans x2) ((A.ext (x1.trans x2) R2).set r2 i)
  ·cases e
def znc(c:FT)(body:FS):Nat->FS
 |0,_,_=>none
 |n+1,δ,μ=>(c δ μ).bind λp=>bif p.1 then(match body δ p.2 with
  |some (.next δ' μ')=>znc c body n δ' μ'
  |some (.cont δ' μ')=>znc c body n δ' μ'
  |some (.brk δ' μ')=>some (.next δ' μ')
  |some (.ret d μ')=>some (.ret d μ')
  |some (.exc C fs μ')=>some (.exc C fs μ')
  |none=>none) else some (.next δ p.2)
def zyo(n:Nat)(c:FT)(body:FS):FS:=znc c body n
def zzm{body:List Yi}{t:FT}{p:FS}(n:Nat)(hc:MT X c t)(hb:MSs X body p)(hx:PassesOwn (yx X.prog X.w) X.A X.env X.xe:=by first|exact PassesOwn.never|exact PassesOwn.leaving):MS X (.While c body [] pos) (zyo n t p) :=
 zkk (zLv hx hc hb) λρ δ μ σ H o E A e k=>by
  refine⟨λm σ' H'=>∃ρ' δ' μ',Ext ρ H ρ' H'/\At X.K ρ' H' σ' δ' μ'/\znc t p m δ' μ'=some o,⟨n,ρ,δ,μ,Ext.refl,A,e⟩,?_⟩;rintro m σ' H' ⟨ρ',δ',μ',x',A',ew⟩
  cases m with
  |zero=>cases ew
  |succ m=>
   unfold znc at ew;obtain⟨⟨b,μ1⟩,e1,ew⟩:=zn ew;refine⟨ρ',δ',μ',b,μ1,A',e1,λρ1 H1 x1 R1=>?_⟩;have xx:=x'.trans x1
   cases b with
   |false=>
    cases ew;exact Su (k ρ1 σ' H1 xx (A'.ext x1 R1))
   |true=>
    refine Sv ⟨λσ3 H3=>∃ρ3 δ3 μ3,Ext ρ H ρ3 H3/\At X.K ρ3 H3 σ3 δ3 μ3/\znc t p m δ3 μ3=some o,λσ3 H3 q=>⟨m,Yu _,q⟩,?_⟩;dsimp only[cond_true]at ew
    cases eb:p δ' μ1 with
    |none=>rw[eb]at ew;cases ew
    |some ob=>
     rw[eb]at ew;refine⟨ρ1,δ',μ1,ob,A'.ext x1 R1,eb,?_⟩
     cases ob with
     |next δ6 μ6=>exact λρ6 σ6 H6 x6 A6=>⟨ρ6,δ6,μ6,xx.trans x6,A6,ew⟩
     |cont δ6 μ6=>exact λρ6 σ6 H6 x6 A6=>⟨ρ6,δ6,μ6,xx.trans x6,A6,ew⟩
     |brk δ6 μ6=>cases ew;exact k.ext xx
     |ret d μ6=>cases ew;exact k.ext xx
     |exc C fs μ6=>cases ew;exact k.ext xx
end
section
variable {X:Cx}{a b c e:yF}{es:List yF}{φ ψ χ:FE}{pos:xC}
end
end M
namespace L2
open PySem PySem.Spec PyProof.Rows
section
variable {κ:Type}[DecidableEq κ]
def z1p(kvs:List (κ×V))(k:κ):Option V:=(kvs.find? λkv=>decide (kv.1=k)).map (·.2)
def zVd(kvs:List (κ×V))(k:κ)(v:V):List (κ×V) :=
 if(kvs.any λkv=>decide (kv.1=k))=true then kvs.map (λkv=>if kv.1=k then(kv.1,v) else kv) else kvs++[(k,v)]
def zMq{p:κ×V}{r:List (κ×V)}{k:κ}(e:p.1=k):z1p (p::r) k=some p.2:=by simp[z1p,Xk,e]
def zar{p:κ×V}{r:List (κ×V)}{k:κ}(e:¬p.1=k):z1p (p::r) k=z1p r k:=by simp[z1p,Xk,e]
def z8o(kvs:List (κ×V))(k:κ)(v:V):(zVd kvs k v).length<=kvs.length+1:=by
 unfold zVd
 split
 ·rw[length_map];omega
 ·rw[length_append,length_cons,List.length_nil];omega
def TM.sY{o:Option V}{u:Option yb}(r:TM o u):o.isSome=u.isSome:=by
 cases o with
 |none=>cases u with
  |none=>rfl
  |some _=>exact(show False from r).elim
 |some _=>cases u with
  |none=>exact(show False from r).elim
  |some _=>rfl
def KV.val{kvs:List (κ×V)}{vs:List (κ×yb)}(r:KV kvs vs)(k:κ):TM (z1p kvs k) (valueAt vs k):=by
 unfold KV at r
 induction r with
 |nil=>exact True.intro
 |@cons p q ps qs h t ih=>
  obtain⟨h1,h2⟩:=h
  by_cases e:p.1=k
  ·have e':q.1=k:=h1.symm.trans e;have b:valueAt (q::qs) k=some q.2:=by simp[valueAt,Xk,e']
   rw[zMq e,b];exact h2
  ·have e':¬q.1=k:=λz=>e (h1.trans z);have b:valueAt (q::qs) k=valueAt qs k:=by simp[valueAt,Xk,e']
   rw[zar e,b];exact ih
def KV.any{kvs:List (κ×V)}{vs:List (κ×yb)}(r:KV kvs vs)(k:κ):(kvs.any λkv=>decide (kv.1=k))=vs.any λkv=>decide (kv.1=k):=by
 unfold KV at r
 induction r with
 |nil=>rfl
 |cons h t ih=>rw[any_cons,any_cons,ih,h.1]
def KV.repl{kvs:List (κ×V)}{vs:List (κ×yb)}(r:KV kvs vs)(k:κ){y:V}{u:yb}(ry:RelV y u) :
 KV (kvs.map λkv=>if kv.1=k then(kv.1,y) else kv) (vs.map λkv=>if kv.1=k then(kv.1,u) else kv):=by
 unfold KV at r ⊢
 induction r with
 |nil=>exact .nil
 |@cons p q ps qs h t ih=>
  rw[map_cons,map_cons];refine .cons ?_ ih;obtain⟨h1,h2⟩:=h
  by_cases e:p.1=k
  ·rw[if_pos e,if_pos (h1.symm.trans e)];exact⟨h1,ry⟩
  ·rw[if_neg e,if_neg (λz=>e (h1.trans z))];exact⟨h1,h2⟩
def KV.put{kvs:List (κ×V)}{vs:List (κ×yb)}(r:KV kvs vs)(k:κ){y:V}{u:yb}(ry:RelV y u):KV (zVd kvs k y) (stored vs k u):=by
 unfold zVd stored;rw[r.any k]
 by_cases e:(vs.any λkv=>decide (kv.1=k))=true
 ·rw[if_pos e,if_pos e];exact r.repl k ry
 ·rw[if_neg e,if_neg e];exact Paired.snoc r ⟨rfl,ry⟩
def KV.keys{kvs:List (κ×V)}{vs:List (κ×yb)}(r:KV kvs vs):kvs.map (·.1)=vs.map (·.1):=by
 unfold KV at r
 induction r with
 |nil=>rfl
 |cons h t ih=>rw[map_cons,map_cons,ih,h.1]
def KV.length{kvs:List (κ×V)}{vs:List (κ×yb)}(r:KV kvs vs):kvs.length=vs.length:=Paired.length r
end
def z4r{P:yB}{w:yL}{k:Key}{u:yb}(r:RelV (kV k) u):(z5b P w).is k u=true:=by
 cases k with
 |inl i=>obtain⟨t,e⟩:=(show ∃t,u=Value.int i t from r);subst e;exact zcp P w i t
 |inr x=>obtain⟨t,e⟩:=(show ∃t,u=Value.str x t from r);subst e;exact zLp P w x t
def zix{P:yB}{w:yL}{H:Hp}{h:yV}{a:yd}{kvs:List (Key×V)}(ok:HOk P w H h)(e:H a=some (.dK kvs)):kvs.length<=yE/\(a==sysModules)=false/\∃vs,KV kvs vs/\h.DictOf (z5b P w) a vs :=
 show tG P w H h a (.dK kvs) from ok a _ e
end L2
namespace M
open PySem PySem.Spec PyProof.Rows L2
def z3c(kvs:List (Int×D))(i:Int):Option D:=(kvs.find? λp=>decide (p.1=i)).map (·.2)
def zTr(kvs:List (Int×D))(i:Int)(d:D):List (Int×D):=if(kvs.any λp=>decide (p.1=i))=true then kvs.map (λp=>if p.1=i then(p.1,d) else p) else kvs++[(i,d)]
@[simp] def zxc(μ:Mem):D->Option (List (Int×D))
 |.loc n=>match μ[n]? with
  |some (.dct kvs)=>some kvs
  |some (.dcf kvs)=>some kvs
  |_=>none
 |_=>none
def RdK(H:Hp)(a:yd)(vs:List (Key×V)):Prop:=H a=some (.dK vs)\/∃o,H a=some (.frz o (.dK vs))
def zCh{P:yB}{w:yL}{H:Hp}{h:yV}{a:yd}{kvs:List (Key×V)}(ok:HOk P w H h)(e:RdK H a kvs):kvs.length<=yE/\(a==sysModules)=false/\∃vs,KV kvs vs/\h.DictOf (z5b P w) a vs:=by
 rcases e with e|⟨o,e⟩
 ·exact zix ok e
 ·exact(show tG P w H h a (.frz o (.dK kvs)) from ok a _ e).2
section
variable {K:yw}{ρ:List yd}{H:Hp}{μ:Mem}
def zvf{d:D}{v:V}{kvs:List (Int×D)}(R:tI K ρ H μ)(r:tx K ρ H d v)(e:zxc μ d=some kvs):∃p vs,v=.ref p/\RdK H p vs/\vs.map (·.1)=kvs.map (λp=>yP p.1)/\tj K ρ H (kvs.map (·.2)) (vs.map (·.2)):=by
 unfold zxc at e
 split at e
 ·split at e
  ·rename_i hm
   cases e;obtain⟨a,e1,e2⟩:=r.tz;obtain⟨vs,e3,q1,q2⟩:=R.at_ _ _ _ e2 hm;exact⟨a,vs,e1,.inl e3,q1,q2⟩
  ·rename_i hm
   cases e;obtain⟨a,e1,e2⟩:=r.tz;obtain⟨o,vs,e3,q1,q2⟩:=R.at_ _ _ _ e2 hm;exact⟨a,vs,e1,.inr ⟨o,e3⟩,q1,q2⟩
  ·cases e
 ·cases e
def zwg:∀{kvs:List (Int×D)} {vs:List (Key×V)} (i:Int),vs.map (·.1)=kvs.map (λp=>yP p.1)->tj K ρ H (kvs.map (·.2)) (vs.map (·.2)) ->
 (∀d,z3c kvs i=some d->∃v,z1p vs (yP i)=some v/\tx K ρ H d v)/\(z3c kvs i=none->z1p vs (yP i)=none)
 |[],vs,i,h1,h2=>by
  have:vs=[]:=by simpa using h1
  subst this;exact⟨λd h=>(by cases h),λ_=>rfl⟩
 |(j,d)::kvs,vs,i,h1,h2=>by
  cases vs with
  |nil=>simp at h1
  |cons q vs=>
   obtain⟨k,v⟩:=q;rw[map_cons,map_cons,xj]at h1;obtain⟨hk,h1⟩:=h1;have hk:k=yP j:=hk;subst hk;obtain⟨v',r,e,q1,q2⟩:=h2.cons_inv;rw[map_cons,xj]at e;obtain⟨e1,e2⟩:=e;subst e2;have e1:v=v':=e1;subst e1;obtain⟨ih1,ih2⟩:=zwg i h1 q2
   by_cases hj:j=i
   ·subst hj;have a1:z3c ((j,d)::kvs) j=some d:=by simp[z3c]
    have a2:z1p ((yP j,v)::vs) (yP j)=some v:=zMq rfl;rw[a1,a2];exact⟨λd' h=>(by cases h;exact⟨v,rfl,q1⟩),λh=>(by cases h)⟩
   ·have a1:z3c ((j,d)::kvs) i=z3c kvs i:=by simp[z3c,hj]
    have a2:z1p ((yP j,v)::vs) (yP i)=z1p vs (yP i):=zar (λz=>hj (by simpa using z));rw[a1,a2];exact⟨ih1,ih2⟩
def zLh(kvs:List (Int×D))(vs:List (Key×V))(i:Int)(d:D)(v:V)(h:vs.map (·.1)=kvs.map (λp=>yP p.1)):(zVd vs (yP i) v).map (·.1)=(zTr kvs i d).map (λp=>yP p.1):=by
 have hany:(vs.any λkv=>decide (kv.1=yP i))=kvs.any λp=>decide (p.1=i):=by
  have e1:(vs.any λkv=>decide (kv.1=yP i))=(vs.map (·.1)).any λk=>decide (k=yP i):=by rw[any_map];rfl
  rw[e1,h,any_map]
  congr 1
  funext p
  simp
 unfold zVd zTr;rw[hany]
 split
 ·rw[map_map,map_map]
  have e1:(λx:Key×V=>x.1)∘(λkv=>if kv.1=yP i then(kv.1,v) else kv)=λx=>x.1:=by
   funext x;simp only[Function.comp];split<;>rfl
  have e2:(λp:Int×D=>(yP p.1:Key))∘(λp=>if p.1=i then(p.1,d) else p)=λp=>yP p.1:=by
   funext x;simp only[Function.comp];split<;>rfl
  rw[e1,e2];exact h
 ·simp[h]
def z7p:∀(kvs:List (Int×D)) (vs:List (Key×V)) (i:Int) {d:D} {v:V},tx K ρ H d v->vs.map (·.1)=kvs.map (λp=>yP p.1)->tj K ρ H (kvs.map (·.2)) (vs.map (·.2)) ->
 tj K ρ H ((kvs.map λp=>if p.1=i then(p.1,d) else p).map (·.2)) ((vs.map λkv=>if kv.1=yP i then(kv.1,v) else kv).map (·.2))
 |[],vs,i,d,v,r,h1,h2=>by
  have:vs=[]:=by simpa using h1
  subst this;exact .nil
 |(j,e)::kvs,vs,i,d,v,r,h1,h2=>by
  cases vs with
  |nil=>simp at h1
  |cons q vs=>
   obtain⟨k,u⟩:=q;rw[map_cons,map_cons,xj]at h1;obtain⟨hk,h1⟩:=h1;have hk:k=yP j:=hk;subst hk;obtain⟨v',r',e',q1,q2⟩:=h2.cons_inv;rw[map_cons,xj]at e';obtain⟨e1,e2⟩:=e';subst e2;have e1:u=v':=e1;subst e1;have ih:=z7p kvs vs i r h1 q2;simp only[map_cons]
   by_cases hj:j=i
   ·subst hj;rw[if_pos rfl,if_pos rfl];exact .cons r ih
   ·rw[if_neg hj,if_neg (λz=>hj (by simpa using z))];exact .cons q1 ih
def z2w{kvs:List (Int×D)}{vs:List (Key×V)}{i:Int}{d:D}{v:V}(r:tx K ρ H d v)(h1:vs.map (·.1)=kvs.map (λp=>yP p.1))(h2:tj K ρ H (kvs.map (·.2)) (vs.map (·.2))) :
 tj K ρ H ((zTr kvs i d).map (·.2)) ((zVd vs (yP i) v).map (·.2)):=by
 have hany:(vs.any λkv=>decide (kv.1=yP i))=kvs.any λp=>decide (p.1=i):=by
  have e1:(vs.any λkv=>decide (kv.1=yP i))=(vs.map (·.1)).any λk=>decide (k=yP i):=by rw[any_map];rfl
  rw[e1,h1,any_map]
  congr 1
  funext p
  simp
 unfold zVd zTr;rw[hany]
 split
 ·exact z7p kvs vs i r h1 h2
 ·simp only[map_append,map_cons,map_nil];exact h2.append (.cons r .nil)
end
section
variable {X:Cx}{a b c e:yF}{es:List yF}{φ ψ χ:FE}{pos:xC}
@[simp] def z8v:G2:=λx y μ=>match y with
 |.int i=>(zxc μ x).bind λkvs=>(z3c kvs i).bind λd=>some (d,μ)
 |_=>none
def zXw{pins:List (yd×YY)}{s:ye}{σ:L2.St}{H:Hp}{p:yd}{vs:List (Key×V)}{k:Key}{v:V}{u:yb}{A:yR}{E:yb->ye->Prop}{Q:yb->ye->Prop}(I:Inv X pins σ H s)(e:RdK H p vs)(l:z1p vs k=some v)(ry:RelV (kV k) u)
 (h:∀w' s',Inv X pins σ H s'->RelV v w'->Q w' s'):yo (yx X.prog X.w) A (getItem (.ref p) u) Q E s:=by
 obtain⟨z,hd,us,rel,dd⟩:=zCh I.hok e;obtain⟨w',hw,rw'⟩:=TM.some_of (v:=v) (o:=valueAt us k) (by rw[<-l];exact rel.val k);exact wpAny_getItem_of (z4r ry) dd.mapOf hw (h w' _ (I.tok _) rw')
def ixD:IxR X (rM X.K z8v):=by
 intro value slice pins s σ H x y v u Q I rx ry ⟨ρ,dx,dy,μ,d,μ',r1,r2,R,e,k⟩ hs;unfold z8v at e
 split at e
 ·rename_i i
  obtain⟨kvs,e1,e⟩:=zn e;obtain⟨d',e2,e⟩:=zn e;cases e;obtain⟨p,vs,rfl,hq,q1,q2⟩:=zvf R r1 e1;obtain⟨w',e3,rw'⟩:=(zwg i q1 q2).1 _ e2;cases rx;rw[r2.int_inv]at ry
  have hT:s.TypeIs (.ref p) "dict":=by
   obtain⟨_,_,us,_,dd⟩:=zCh I.hok hq;exact dd.typeIs
  unfold subscriptTail;refine ya ?_;rw[getitemInPython_of_ne hT.not_modules];refine ya (xz hT PySem.F.slot_dict_getitem.lookup ?_)
  have fin:yo (yx X.prog X.w) X.A (subscripted slice false (.ref p) u) (λr s₃=>yo (yx X.prog X.w) X.A (letTemporaryGo value (.ref p) r >>= λ_=>pure r) (EP X pins σ Q) X.xe s₃) X.xe s:=by
   rw[hs];exact wpAny_operating (zXw I hq e3 ry λw2 s2 I2 r2=>ya (wpAny_letTemporaryGo (yg ⟨_,H,I2,r2,k ρ H _ Ext.refl R rw'⟩)))
  first
   |exact yg (ya fin)
   |exact ya (yg (ya fin))
   |exact ya fin
 ·cases e
def zSs(ha:ME X a φ)(hb:ME X b ψ)(hs:zYo b:=by intro _ _;rfl):ME X (.Subscript a b pos) (zK z8v φ ψ) :=
 zjd (zjz ixD ha hb hs) λ_ _ _ _ _ _ _ _ A e k=>zsu A e k
@[simp] def zbB:G2:=λx y μ=>match x with
 |.int i=>(zxc μ y).bind λkvs=>some (.bl (z3c kvs i).isSome,μ)
 |_=>none
@[simp] def z3j:G2:=λx y μ=>match x with
 |.int i=>(zxc μ y).bind λkvs=>some (.bl (!(z3c kvs i).isSome),μ)
 |_=>none
def ztz{pins:List (yd×YY)}{s:ye}{σ:L2.St}{H:Hp}{p:yd}{vs:List (Key×V)}{k:Key}{u:yb}{A:yR}{E:yb->ye->Prop}{Q:yb->ye->Prop}(I:Inv X pins σ H s)(e:RdK H p vs)(ry:RelV (kV k) u)
 (h:∀s',Inv X pins σ H s'->Q (.bool (z1p vs k).isSome) s'):yo (yx X.prog X.w) A (Yy .In u (.ref p)) Q E s:=by
 obtain⟨z,hd,us,rel,dd⟩:=zCh I.hok e;refine wpAny_in_of (z4r ry) hd dd.mapOf ?_;rw[<-(rel.val k).sY];exact h _ (I.tok _)
def zLq{K:yw}{ρ:List yd}{H:Hp}{kvs:List (Int×D)}{vs:List (Key×V)}(i:Int)(q1:vs.map (·.1)=kvs.map (λp=>yP p.1))(q2:tj K ρ H (kvs.map (·.2)) (vs.map (·.2))):(z1p vs (yP i)).isSome=(z3c kvs i).isSome:=by
 obtain⟨h1,h2⟩:=zwg i q1 q2
 cases e:z3c kvs i with
 |none=>rw[h2 e];rfl
 |some d=>
  obtain⟨v,ev,_⟩:=h1 d e;rw[ev];rfl
def zMw:OpM X (Yy .In) zbB:=by
 refine OpM.of λpins s σ H x y v u Q I rx ry ρ dx dy μ d μ' r1 r2 R e k=>?_;unfold zbB at e
 split at e
 ·rename_i i
  obtain⟨kvs,e1,e⟩:=zn e;cases e;obtain⟨p,vs,rfl,hq,q1,q2⟩:=zvf R r2 e1;cases ry;rw[r1.int_inv]at rx;refine ztz (k:=yP i) I hq rx λs' I'=>⟨.bl _,H,I',rfl,?_⟩
  rw[zLq i q1 q2];exact k ρ H _ Ext.refl R .bl
 ·cases e
def zhr:OpM X (Yy .NotIn) z3j:=by
 refine OpM.of λpins s σ H x y v u Q I rx ry ρ dx dy μ d μ' r1 r2 R e k=>?_;unfold z3j at e
 split at e
 ·rename_i i
  obtain⟨kvs,e1,e⟩:=zn e;cases e;obtain⟨p,vs,rfl,hq,q1,q2⟩:=zvf R r2 e1;cases ry;rw[r1.int_inv]at rx;obtain⟨z,hd,us,rel,dd⟩:=zCh I.hok hq;refine wpAny_notIn_of (z4r (k:=yP i) rx) hd dd.mapOf ⟨.bl _,H,I.tok _,rfl,?_⟩;rw[<-(rel.val (yP i)).sY,zLq i q1 q2];exact k ρ H _ Ext.refl R .bl
 ·cases e
end
section
variable {X:Cx}{a b c e:yF}{es:List yF}{φ ψ χ:FE}{pos:xC}
@[simp] def zmy(φ ψ:FE):FG:=λd δ μ=>(φ δ μ).bind λp=>(ψ δ p.2).bind λq=>match p.1,q.1 with
 |.loc n,.int i=>match q.2[n]? with
  |some (.dct kvs)=>bif decide (kvs.length<=1000000) then some (δ,q.2.set n (.dct (zTr kvs i d))) else none
  |_=>none
 |_,_=>none
def zZv:zYA X (λo i v H Q=>∃p vs k,o=.ref p/\i=kV k/\H p=some (.dK vs)/\vs.length<yE/\Q (upd H p (.dK (zVd vs k v)))):=by
 intro pins s σ H o i v ov iv u Q I ro ri rv ⟨p,vs,k,e1,e2,e3,hl,q⟩;subst e1 e2;cases ro;obtain⟨z,hd,us,rel,dd⟩:=zix I.hok e3;have hz:us.length<=yE:=by rw[<-rel.length];exact z
 have hl':(zVd vs k v).length<=yE:=by have:=z8o vs k v;omega
 refine wpAny_setItem_pairs (hsz:=hz) (z4r ri) dd λh' dd' hs=>⟨_,I.write (x:=p) (e:=p) (by rw[e3];exact True.intro) (.inl rfl) (λb q hb z=>(hs.2 b hb).trans z) ?_ (show tG X.prog X.w _ h' p (.dK (zVd vs k v)) from⟨hl',hd,_,rel.put k rv,dd'⟩),q⟩
 obtain⟨q,_,_,hq,_⟩:=dd';exact⟨q,hq⟩
def zXp{o i:yF}(ho:ME X o φ)(hi:ME X i ψ)(ha:∀v,assign (.Subscript o i pos) X.env v=(do
 let ov <-xT [v] (Yh o X.env)
 let iv <-xT [v,ov] (Yh i X.env)
 standAt pos
 xT [v,ov,iv] (setItem ov iv v)
 release [v,ov,iv] []):=by intro _;rfl):MG X (.Subscript o i pos) (zmy φ ψ) :=
 mg_of (z2v ho hi zZv ha) λρ δ μ d δ' μ' v σ H Q A q e k=>by
  obtain⟨⟨x,μ1⟩,e1,e⟩:=zn e;obtain⟨⟨y,μ2⟩,e2,e⟩:=zn e;refine⟨ρ,δ,μ,x,μ1,A,e1,λρ1 H1 v1 x1 R1 r1=>?_⟩;refine⟨ρ1,δ,μ1,y,μ2,A.ext x1 R1,e2,λρ2 H2 v2 x2 R2 r2=>?_⟩;dsimp only at e
  split at e
  ·rename_i n j _
   split at e
   ·rename_i kvs hm
    obtain⟨h1,e⟩:=zY e;have h1:=of_decide_eq_true h1;cases e;obtain⟨ad,rfl,hr⟩:=(r1.ext x2).tz;obtain⟨vs,hv,q1,q2⟩:=R2.at_ _ _ _ hr hm;have hmu:Mut (H2 ad):=by rw[hv];trivial
    have hlen:vs.length=kvs.length:=by
     have:=congrArg List.length q1;simpa using this
    have hmi:=Ts;refine⟨ad,vs,yP j,rfl,r2.int_inv,hv,by omega,?_⟩;have xx:=x1.trans x2;have R3:=R2.wr (o:=.dK (zVd vs (yP j) v)) (lo:=.dct (zTr kvs j d)) hmu hr ⟨_,zG,zLh kvs vs j d v q1,tj.ext (Ext.wr hmu) (z2w (q.ext xx) q1 q2)⟩;exact k ρ2 σ _ (xx.trans (Ext.wr hmu)) (A.ext (xx.trans (Ext.wr hmu)) R3)
   ·cases e
  ·cases e
def zXj(kvs:List (Int×D)):List D:=kvs.map λp =>.int p.1
@[simp] def zlo:GL:=λds μ=>match ds with
 |[x]=>(zxc μ x).bind λkvs=>some (.loc μ.length,μ++[.lst (zXj kvs)])
 |_=>none
def zuu{P:yB}{w:yL}{H:Hp}{h:yV}{p:yd}{vs:List (Key×V)}(ok:HOk P w H h)(e:RdK H p vs):∃us ep,KV vs us/\h.DictAt (z5b P w) p us ep:=by
 obtain⟨_,_,us,rel,o,es,ep,h1,h2,h3,h4⟩:=zCh ok e;exact⟨us,ep,rel,o,es,h1,h2,h3,h4⟩
def z0j{P:yB}{w:yL}:∀{vs:List (Key×V)} {us:List (Key×yb)} {its:List yb},KV vs us->its.length=us.length->(∀(j:Nat)(v:yb),its[j]?=some v->∃(k:Key)(x:yb),us[j]?=some (k,x)/\(z5b P w).is k v=true)->Vals (vs.map λp=>kV p.1) its
 |[],us,its,r,hl,h=>by
  cases r;have:its=[]:=List.length_eq_zero_iff.mp (by simpa using hl);subst this;exact .nil
 |p::vs,us,its,r,hl,h=>by
  cases r with
  |@cons _ q _ qs hq t=>
   cases its with
   |nil=>simp at hl
   |cons i its=>
    refine .cons ?_ (z0j t (by simpa using hl) λj v e=>by
     obtain⟨k,x,h1,h2⟩:=h (j+1) v (by simpa using e);exact⟨k,x,by simpa using h1,h2⟩)
    obtain⟨k,x,h1,h2⟩:=h 0 i rfl;have e:q=(k,x):=by simpa using h1
    have ek:p.1=k:=by rw[hq.1,e]
    show RelV (kV p.1) i;rw[ek]
    cases k with
    |inl n=>
     rcases ztb ((zyi P w _ _).symm.trans h2) with ⟨j,t,e1,e2⟩|⟨j,t,e1,e2⟩
     ·cases e1;exact⟨t,e2⟩
     ·cases e1
    |inr n=>
     rcases ztb ((zyi P w _ _).symm.trans h2) with ⟨j,t,e1,e2⟩|⟨j,t,e1,e2⟩
     ·cases e1
     ·cases e1;exact⟨t,e2⟩
def zlp(hc:X.calm=true):Ti X (.type "list") zlo:=by
 refine Ti.of λpins s σ H xs us Q I r ρ ds μ d μ' r1 R e k=>?_;unfold zlo at e
 split at e
 ·obtain⟨kvs,e1,e⟩:=zn e;cases e;obtain⟨v,rr,rfl,q1,q2⟩:=r1.cons_inv;rw[q2.nil_inv]at r;obtain⟨p,vs,rfl,hq,w1,w2⟩:=zvf R q1 e1;obtain⟨u,rfl,ru⟩:=vals1 r;cases ru;obtain⟨hz,hd,_⟩:=zCh I.hok hq;obtain⟨us',ep,rel,da⟩:=zuu I.hok hq;have hl:=rel.length;refine W.kdl_call (W.kdl_dict hd) (I.ok.hd hc) da (by omega) λh' tk acc' c' kp e2 hi=>?_;obtain⟨hi1,hi2⟩:=hi;have hv:=z0j (P:=X.prog) (w:=X.w) (its:=acc'.toList) rel (by simpa using hi1) λj v e=>hi2 j v (by simpa using e)
  have hkv:(vs.map λp=>kV p.1)=(kvs.map λp=>V.int p.1):=by
   have:(vs.map (·.1)).map kV=(kvs.map λp=>(yP p.1:Key)).map kV:=by rw[w1]
   rw[map_map,map_map]at this;exact this
  rw[hkv]at hv
  have hlk:kvs.length=vs.length:=by
   have:=congrArg List.length w1;simpa using this.symm
  have hf:=I.fresh;refine⟨.ref s.heap.objs.size,_,I.laid (t':=tk) kp (yk _) (show tG X.prog X.w _ h' _ (.lst _) from⟨by simp;omega,acc'.toList,c',hv,by simpa using e2⟩),rfl,k _ _ _ (Ext.push hf) (R.push hf ⟨_,zG,?_⟩) (.loc (zFb R))⟩;have hr:=λρ H=>@zUe X.K ρ H (kvs.map (·.1));simp only[map_map]at hr;exact hr _ _
 ·cases e
end
def Itd(a:yd)(o:YY)(vs:List (Key×V)):It:=⟨λi H=>H a=some (.frz o (.dK vs))/\i<vs.length,λi H x H'=>H'=H/\∃p,vs[i]?=some p/\x=kV p.1,λi H=>H a=some (.frz o (.dK vs))/\vs.length<=i⟩
def z4q{P:yB}{w:yL}{H:Hp}{h:yV}{a:yd}{o:YY}{vs:List (Key×V)}{es:Array DictEntry}{ep:Nat}(ok:HOk P w H h)(e:H a=some (.frz o (.dK vs)))(hd:o.data=.dict es ep):∃us,KV vs us/\h.DictAt (z5b P w) a us ep:=by
 obtain⟨h0,_,_,us,rel,o',es',ep',h1,h2,h3,h4⟩:=(show tG P w H h a (.frz o (.dK vs)) from ok a _ e)
 rw[h0]at h1;cases h1;rw[hd]at h3;cases h3;exact⟨us,rel,o,es,h0,h2,hd,h4⟩
def z5t{P:yB}{w:yL}{K:yw}{tg:yF}(a it:yd)(o:YY)(vs:List (Key×V))(es:Array DictEntry)(ep:Nat)(hd:o.data=.dict es ep):Turn P w K tg (Itd a o vs) [it] it (λi h=>h.IsKeyIter it a i vs.length ep) where
 mem:=by simp
 obj:=λi h st b hb=>by
  have e:b=it:=by simpa using hb
  subst e;obtain⟨o,e,c,d⟩:=st;exact⟨o,e,λv z=>by rw[d]at z;cases z⟩
 keep:=λi h h' st k=>st.at λo e=>k it (by simp) o e
 item:=by
  intro X hP hw hK hc i pins s σ H E I hf st hg;subst hP hw hK;obtain⟨hq,hi⟩:=hg;obtain⟨us,rel,da⟩:=z4q I.hok hq hd;have hl:=rel.length;obtain⟨f0,f1,f2,f3,f4,f5⟩:=hf it (by simp);have hx:us[i]?=some ((us[i]'(by omega)).1,(us[i]'(by omega)).2):=by simp[show i<us.length by omega]
  rw[hl]at st ⊢;refine wpAny_pyNext_dict_item st da hx λkey h' hkey st' sb=>?_;have I1:Inv X pins σ H {s with heap:=h' }:=I.turned (t':=s.toks) (λb o hb e=>(sb.2 b hb).trans e) f0 f1 f3 f4 f5;obtain⟨o',e',c',d'⟩:=id st';have hk:vs[i]?=some vs[i]:=by simp[hi]
  have hkk:(vs[i]).1=(us[i]'(by omega)).1:=by
   have h1:(vs.map (·.1))[i]?=(us.map (·.1))[i]?:=by rw[rel.keys]
   simp only[yh,hk,yu (show i<us.length by omega),xf,YQ]at h1;exact h1
  have rk:RelV (kV (vs[i]).1) key:=by
   rw[hkk];rcases ztb ((zyi X.prog X.w _ _).symm.trans hkey) with ⟨j,t,e1,e2⟩|⟨j,t,e1,e2⟩
   ·rw[e1];exact⟨t,e2⟩
   ·rw[e1];exact⟨t,e2⟩
  exact⟨key,rfl,z6u (s:={s with heap:=h' }) e' c' d' (by decide) ⟨kV (vs[i]).1,H,I1,rk,⟨rfl,_,hk,rfl⟩,st',λb hb=>(hf b hb).1⟩⟩
 done:=by
  intro X hP hw hK hc i pins s σ H E I hf st hg;subst hP hw hK;obtain⟨hq,hi⟩:=hg;obtain⟨us,rel,da⟩:=z4q I.hok hq hd;have hl:=rel.length;obtain⟨f0,f1,f2,f3,f4,f5⟩:=hf it (by simp);rw[hl]at st;exact wpAny_pyNext_dict_end (I.ok.hd hc) st da (by simp;omega) λh' eb=>⟨rfl,I.turned (t':=s.toks) (λb o hb e=>eb b o hb e) f0 f1 f3 f4 f5⟩
 self:=λ_ _ _ _ _ st h=>wpAny_pyIter_keyiter st h
section
variable {X:Cx}{a b c e:yF}{es:List yF}{φ ψ χ:FE}{pos:xC}{tg:yF}
def zOB(tl:TE):TI:=λσ H R=>tl σ H λx H1=>∃p vs,x=.ref p/\((H1 p=some (.dK vs)/\∀o,R (Itd p o vs) (upd H1 p (.frz o (.dK vs))))\/∃o,H1 p=some (.frz o (.dK vs))/\R (Itd p o vs) H1)
def zLw{l:yF}{tl:TE}(hl:PE X l tl):PI X tg l (zOB tl):=by
 intro pins s σ H R I h;refine thn (hl pins s σ H _ I h) λv s1 ⟨x,H1,I1,r1,q1⟩=>?_;obtain⟨p,vs,e,q⟩:=q1;subst e;cases r1
 have fin:∀(H2:Hp)(o:YY),Inv X pins σ H2 s1->H2 p=some (.frz o (.dK vs))->R (Itd p o vs) H2->yo (yx X.prog X.w) X.A (pyIter (.ref p)) (PIE X pins σ tg R) X.xe s1:=λH2 o I2 e2 q2=>by
  obtain⟨h0,hz,hd,us,rel,o',es,ep,h1,h2,h3,h4⟩:=(show tG X.prog X.w H2 s1.heap p (.frz o (.dK vs)) from I2.hok p _ e2)
  rw[h0]at h1;cases h1;have da:s1.heap.DictAt (z5b X.prog X.w) p us ep:=⟨o,es,h0,h2,h3,h4⟩
  refine wpAny_pyIter_dict hd da ?_;refine⟨s1.heap.objs.size,[s1.heap.objs.size],_,_,H2,rfl,I2.kept (t':=s1.toks) λb o e=>yc _ e,z5t p _ o vs es ep h3,⟨_,yn _ rfl,rfl,by rw[rel.length];rfl⟩,λb hb=>?_,q2⟩;have e:b=s1.heap.objs.size:=by simpa using hb
  subst e;exact I2.Sj (yk _) (I2.hok.fresh (yk _))
 rcases q with ⟨e1,q⟩|⟨o,e1,q⟩
 ·have hok:=I1.hok p _ e1;obtain⟨hz,hd,us,rel,o,es,ep,h1,h2⟩:=(show tG X.prog X.w H1 s1.heap p (.dK vs) from hok)
  have I2:Inv X pins σ (upd H1 p (.frz o (.dK vs))) {s1 with heap:=s1.heap,toks:=s1.toks }:=by
   refine I1.write (x:=p) (e:=p) (by rw[e1];exact True.intro) (.inl rfl) (λb u _ e=>e) ⟨o,h1⟩ ?_;exact⟨h1,hz,hd,us,rel,o,es,ep,h1,h2⟩
  exact fin _ o I2 zG (q o)
 ·exact fin H1 o I1 e1 q
@[simp] def zey(φ:FE):FI:=λδ μ=>(φ δ μ).bind λp=>match p.1 with
 |.loc n=>match p.2[n]? with
  |some (.dct kvs)=>some (zXj kvs,yes,p.2.set n (.dcf kvs))
  |some (.dcf kvs)=>some (zXj kvs,yes,p.2)
  |_=>none
 |_=>none
def zrw{K:yw}{ρ:List yd}{H:Hp}{p:yd}{o:YY}{vs:List (Key×V)}{kvs:List (Int×D)}(h:H p=some (.frz o (.dK vs)))(q1:vs.map (·.1)=kvs.map (λp=>yP p.1)):sR K (Itd p o vs) ρ H (zXj kvs) yes:=by
 have hlen:vs.length=kvs.length:=by
  have:=congrArg List.length q1;simpa using this
 have hkl:(zXj kvs).length=kvs.length:=by simp[zXj]
 refine⟨λρ' H' μ' i x R _ hi=>⟨x.frz _ _ _ h,by rw[hkl]at hi;omega⟩,λρ' H' μ' i x H'' d x' R _ e ⟨y1,q,y2,y3⟩=>⟨y1▸Ext.refl,y1▸R,y1▸?_⟩,λρ' H' μ' x R _=>⟨x.frz _ _ _ h,by rw[hkl];omega⟩⟩;have h1:(vs.map (·.1))[i]?=(kvs.map (λp=>(yP p.1:Key)))[i]?:=by rw[q1]
 rw[yh,yh,y2]at h1;unfold zXj at e;rw[yh]at e
 cases hk:kvs[i]? with
 |none=>rw[hk]at e;cases e
 |some z=>
  rw[hk]at e h1;cases e;have h1:q.1=yP z.1:=by simpa using h1
  rw[y3,h1];exact .int
def z9w(h:ME X a φ):MI X tg a (zey φ) :=
 zmr (zLw h) λρ δ μ σ H ds ok μ' R A e k=>by
  obtain⟨⟨x,μ1⟩,e1,e⟩:=zn e;refine⟨ρ,δ,μ,x,μ1,A,e1,λρ1 H1 v1 x1 R1 r1=>?_⟩;dsimp only at e
  split at e
  ·split at e
   ·rename_i hm
    cases e;obtain⟨p,rfl,ep⟩:=r1.tz;obtain⟨vs,e3,q1,q2⟩:=R1.at_ _ _ _ ep hm;have hmu:Mut (H1 p):=by rw[e3];trivial
    refine⟨p,vs,rfl,.inl ⟨e3,λo=>?_⟩⟩;exact k ρ1 _ _ (x1.trans (Ext.wr hmu)) (R1.wr hmu ep ⟨o,vs,zG,q1,tj.ext (Ext.wr hmu) q2⟩) (zrw zG q1)
   ·rename_i hm
    cases e;obtain⟨p,rfl,ep⟩:=r1.tz;obtain⟨o,vs,e3,q1,q2⟩:=R1.at_ _ _ _ ep hm;exact⟨p,vs,rfl,.inr ⟨o,e3,k ρ1 _ _ x1 R1 (zrw e3 q1)⟩⟩
   ·cases e
  ·cases e
def zEt{prog:yB}{w:yL}{A:yR}{E:yb->ye->Prop}{s:ye}{Q:Int->ye->Prop}(h:Q 0xFCA86420 {s with toks:=s.toks+1 }):yo (yx prog w) A (pyHash .none) Q E s:=by
 unfold pyHash;have hv:[Yt].any Value.onHeap=false:=rfl;refine ya ?_;rw[cRoomFor,if_neg (by rw[hv];exact yC)];refine yg ?_;refine ya (xz (typeIs_none s) PySem.F.slot_NoneType_hash.lookup ?_);show yo _ _ (if(some (Xn "NoneType.__hash__")==some Yt)=true then _ else _) Q E s;rw[if_neg (by rw[beq_builtin_none];exact yC)];refine ya (xz (typeIs_none s) PySem.F.slot_NoneType_hash.lookup ?_);show yo _ _ (callSpecialIfBoundUnlessNone? .none "__hash__" _ >>= _) Q E s;refine ya (wpAny_callSpecialIfBoundUnlessNone?_slot (typeIs_none s) PySem.F.slot_NoneType_hash (yW PySem.F.slot_NoneType_hash (typeIs_none s) PySem.F.entry_NoneType_hash ?_ (PySem.F.args_NoneType_hash_1 _)));show yo _ _ (do ret (<-mkInt 0xFCA86420)) _ _ s;refine wpAny_ret_mkInt ?_;show yo _ _ (if(decide (-(2:Int)^63<=0xFCA86420)&&decide ((0xFCA86420:Int)<2^63))=true then _ else _) Q E _;rw[if_pos (by decide)];exact yg h
def zyr{i:Int}(h0:0<=i)(h1:i<1000):hashInt i=i:=by
 have e:(i.natAbs%(2^61-1):Nat)=i.natAbs:=Nat.mod_eq_of_lt (by omega)
 have hr:rawHash i=i:=by
  unfold rawHash;dsimp only;rw[if_neg (by omega:¬i<0)];have:((i.natAbs%(2^61-1:Nat):Nat):Int)=i:=by rw[e];omega
  rw[show((i.natAbs:Int)%((2^61-1:Nat):Int))=i by rw[<-Int.natCast_emod];exact this];rw[if_neg (by simp;omega)]
 unfold hashInt;rw[hr,if_neg (by simp;omega)]
def zEn:Key->Bool
 |.inl i=>decide (0<=i/\i<1000)
 |.inr _=>false
def zjk{P:yB}{w:yL}:∀{es:List DictEntry} {us:List (Key×yb)},Pairs (z5b P w) es us->(∀e∈es,∃k,(z5b P w).is k e.key=true/\e.hash=(z5b P w).hash k)->(us.all λq=>zEn q.1)=true->∀e∈es,(e.hash==0xFCA86420)=false
 |_,_,.nil,_,_=>λe he=>by cases he
 |_,_,.cons (kv:=kv) hk hv t,hh,hs=>λe he=>by
  rw[all_cons,yO]at hs;rcases List.mem_cons.mp he with rfl|he
  ·obtain⟨k',h1,h2⟩:=hh e mem_cons_self;have ek:=(z5b P w).inj _ _ _ hk h1;rw[h2,<-ek];have hsm:zEn kv.1=true:=hs.1
   cases hkv:kv.1 with
   |inl i=>
    rw[hkv]at hsm;have hi:=of_decide_eq_true (show decide (0<=i/\i<1000)=true from hsm);show(hashInt i==0xFCA86420)=false;rw[zyr hi.1 hi.2];simp;omega
   |inr x=>rw[hkv]at hsm;cases hsm
  ·exact zjk t (λe he=>hh e (mem_cons_of_mem _ he)) hs.2 e he
def zFw{prog:yB}{w:yL}{A:yR}{E:yb->ye->Prop}{s:ye}{p:yd}{us:List (Key×yb)}{Q:yb->ye->Prop}(hd:(p==sysModules)=false)(dd:s.heap.DictOf (z5b prog w) p us)(hs:(us.all λq=>zEn q.1)=true)
 (h:Q (.bool false) {s with toks:=s.toks+1 }):yo (yx prog w) A (Yy .In .none (.ref p)) Q E s:=by
 obtain⟨o,es,ep,ho,hx,hdat,hk,hp,hn⟩:=id dd;have hno:=zjk hp (λe he=>hk e (by simpa using he)) hs
 have hpl:placesWithHash es.size (λi=>es[i]?.map (·.hash)) 0xFCA86420=[]:=by
  unfold placesWithHash;rw[List.filter_eq_nil_iff];intro i hi;have hi:i<es.size:=by simpa using hi
  dsimp only;rw[Array.getElem?_eq_getElem hi];have:=hno es[i] (by simp);simpa using this
 show yo _ _ (do return .bool (<-contains (.ref p) .none)) Q E s;refine ya ?_;unfold contains
 try with_reducible refine yY ?_
 refine ya (xz dd.typeIs slot_dict_contains.lookup ?_);show yo _ _ (if(some (Xn "dict.__contains__")==some Yt)=true then _ else _) _ E s;rw[if_neg (by rw[beq_builtin_none];exact yC)];refine ya (wpAny_callSpecialUnlessNone?_slot (name:=YN "__contains__") dd.typeIs slot_dict_contains (yW slot_dict_contains dd.typeIs entry_dict_contains ?_ (args_dict_contains _ _)));show yo _ _ (dictGet p .none >>= _) _ _ s;refine ya ?_;unfold dictGet
 try with_reducible refine yY ?_
 refine ya (zEt (ya ?_));unfold dictFind
 try with_reducible refine yY ?_
 refine ya (wpAny_dictEntries (s:={s with toks:=s.toks+1 }) ho hdat ?_);dsimp only;rw[hpl];rw[if_pos (by rfl)];unfold dictWalkPlain;refine ya ?_;rw[forIn_nil];refine yg ?_;refine yg (yg ?_);show yo _ _ (Builtin.Dict.pendingKey? p .none >>= _) _ _ _;exact ya (wpAny_pendingKey_other hd (yg ⟨_,rfl,xv (yg h)⟩))
@[simp] def zMo:G2:=λx y μ=>match x with
 |.int i=>(zxc μ y).bind λkvs=>some (.bl (z3c kvs i).isSome,μ)
 |.non=>(zxc μ y).bind λkvs=>bif kvs.all (λp=>decide (0<=p.1/\p.1<1000)) then some (.bl false,μ) else none
 |_=>none
def z0q:OpM X (Yy .In) zMo:=by
 refine OpM.of λpins s σ H x y v u Q I rx ry ρ dx dy μ d μ' r1 r2 R e k=>?_;unfold zMo at e
 split at e
 ·rename_i i
  exact zMw pins s σ H x y v u Q I rx ry ⟨ρ,.int i,dy,μ,d,μ',r1,r2,R,e,k⟩
 ·obtain⟨kvs,e1,e⟩:=zn e;obtain⟨hsm,e⟩:=zY e;cases e;obtain⟨p,vs,rfl,hq,q1,q2⟩:=zvf R r2 e1;cases ry;rw[r1.tJ]at rx;cases rx;obtain⟨z,hd,us,rel,dd⟩:=zCh I.hok hq;refine zFw hd dd ?_ ⟨.bl false,H,I.tok _,rfl,k ρ H _ Ext.refl R .bl⟩;have e1:(us.all λq=>zEn q.1)=(us.map (·.1)).all zEn:=by rw[all_map];rfl
  rw[e1,<-rel.keys,q1,all_map];exact hsm
 ·cases e
end
section
variable {prog:yB}{w:yL}{A:yR}{E:yb->ye->Prop}{s:ye}
def z2r:typeLookup (.type "list_reverseiterator") "__len__"=pure none:=by rw[typeLookup_type,Xr];kernel_rfl
def zRv:typeLookup (.type "list_reverseiterator") "__length_hint__"=pure (some (.builtin "list_reverseiterator.__length_hint__")):=by rw[typeLookup_type,Xr];kernel_rfl
def zgv{r:yd}{Q:Bool->ye->Prop}(hT:s.TypeIs (.ref r) "list_reverseiterator")(h:Q false s):yo (yx prog w) A (xD (.ref r)) Q E s:=by
 unfold xD;refine ya (xz hT z2r ?_);show yo _ _ (specialOf (yM r) (YN "__length_hint__") >>= _) _ _ _;refine ya (xz hT zRv ?_);generalize hid:("list_reverseiterator.__length_hint__":String)=id0
 wp_delta
 rw[show splitId id0=some ("list_reverseiterator","__length_hint__") from by subst hid;decide +kernel];subst hid;refine ya (Xd (T:="list_reverseiterator") (b:=true) hT (by rw[isSubtype_type];kernel_rfl) ?_);refine xh (λhab=>absurd hab (by decide)) (λ_=>?_);refine xh (λ_=>?_) (λhab=>absurd (by decide +kernel) hab);refine xh (λhab=>absurd hab (by decide +kernel)) (λ_=>?_);exact yg h
def ztv{I l:yd}{items:Array yb}{Q:yb->ye->Prop}(hh:A.handled=none)(hne:l≠I)(hI:s.heap.IsRevIter I l ((items.size:Int)-1))(hl:s.heap.IsList l items)(hn:items.size<=yE)
 (hQ:∀h' tk acc' c',(∀b o,b≠I->s.heap.get? b=some o->h'.get? b=some o)->h'.get? s.heap.objs.size=some {cls:=.type "list",dict:=none,data:=.seq acc' c',slots:=#[]}->ItemsOf (λi v=>items[items.size-1-i]?=some v) acc' items.size->Q (.ref s.heap.objs.size) {s with heap:=h',toks:=tk }) :
 yo (yx prog w) A (call (.type "list") [.ref I]) Q E s:=by
 have hIlt:I<s.heap.objs.size:=by obtain⟨o,ho,_⟩:=hI;exact ym ho
 have hllt:l<s.heap.objs.size:=by obtain⟨o,ho,_⟩:=hl;exact ym ho
 refine callType_codes (Q₁:=λobj s₁=>obj=.ref s.heap.objs.size/\s₁ = {s with heap:=s.heap.push {cls:=.type "list",data:=.seq #[]}}) PySem.F.called_list (PySem.F.typeCall_list_1 _) PySem.F.entry_list_init (code_list_new _ ⟨rfl,rfl⟩) λobj s₁ h₁=>?_;obtain⟨rfl,rfl⟩:=h₁;generalize hS0:s.heap.objs.size=S;have hSI:S≠I:=by rw[<-hS0];exact yT hIlt
 have hSl:S≠l:=by rw[<-hS0];exact yT hllt
 have hS:(s.heap.push {cls:=.type "list",data:=.seq #[]}).get? S=some {cls:=.type "list",data:=.seq #[]}:=by rw[<-hS0];exact yn _ rfl
 refine⟨⟨_,hS,rfl⟩,PySem.F.args_list_init_2 _ _,?_⟩;have oldS:∀b o,s.heap.get? b=some o->b≠S:=λb o e=>by rw[<-hS0];exact yt (ym e)
 have W:=(Walks.listRev (prog:=prog) (w:=w) (A:=A.in1.in1) hh I l hne items).toS;show yo _ _ (do let old <-Builtin.List.listItems (.ref S);Builtin.List.listUpdate (.ref S) (λ_=>#[]);letGo old.toList.reverse;Yz (.ref S) (.ref I) .none) _ _ _;refine ya ?_;unfold Builtin.List.listItems;refine ya (YV hS rfl (yg ?_));show yo _ _ (updateSeq S (λ_=>#[]) >>= λ_=>letGo (#[]:Array yb).toList.reverse >>= λ_=>Yz (.ref S) (.ref I) .none) _ _ _;refine ya (wpAny_updateSeq hS rfl ?_);have hS2:=yS (Xg (λ_=>(#[]:Array yb))) hS rfl;generalize hh2:(s.heap.push {cls:=.type "list",data:=.seq #[]}).update S (Xg (λ_=>(#[]:Array yb)))=h2 at hS2 ⊢
 have k2:∀b o,s.heap.get? b=some o->h2.get? b=some o:=λb o e=>by
  rw[<-hh2];exact(Yl _ _ (yH (oldS b o e))).trans (yc _ e)
 refine ya (wpAny_letGo ?_);have hI2:h2.IsRevIter I l ((items.size:Int)-1):=hI.at λo e=>k2 _ _ e;have hl2:h2.IsList l items:=hl.at λo e=>k2 _ _ e;unfold Yz;refine ya (XE (T:="list_reverseiterator") (Heap.IsRevIter.typeIs (s:={s with heap:=h2 }) hI2) ?_);have h1:xY (.ref S) (.ref I)=false:=by simp[xY,hSI]
 have h2':(YK "list_reverseiterator" == YK "list")=false:=by decide
 have h3':(YK "list_reverseiterator" == YK "tuple")=false:=by decide
 simp only[h1,h2',h3',Bool.or_false,xI,if_false];refine ya (wpAny_pyIter_revIter (s:={s with heap:=h2 }) hI2 ?_);refine ya (yY (zgv (Heap.IsRevIter.typeIs (s:={s with heap:=h2 }) hI2) ?_));refine xh (λhab=>absurd hab (by decide)) (λ_=>?_)
 have hSf:S∉[I,l]:=by
  simp only[mem_cons,not_mem_nil,or_false,not_or];exact⟨hSI,hSl⟩
 refine yg ⟨Xm PySem.F.plain_extend_loop _,codeAny_extend_loopS W hn S hSf _ items.size 0 _ #[] _ rfl (YB _) ⟨YB _,by simpa using hI2,hl2⟩ hS2 (ItemsOf.nil _) λs' acc' c' hm hS' hacc=>?_⟩;rw[Moved.eq_with hm];refine⟨rfl,?_⟩;rw[<-hS0]at hS' ⊢;refine hQ s'.heap s'.toks acc' c' (λb o hb e=>hm.heap b o (λhmem=>?_) (k2 b o e)) hS' hacc;rcases List.mem_cons.mp hmem with e'|hmem
 ·exact oldS b o e e'
 ·exact hb (List.mem_singleton.mp hmem)
end
section
variable {X:Cx}{a b c e:yF}{es:List yF}{φ ψ χ:FE}{pos pos2 p1 p2:xC}
def zfv(φ:FE):FE:=λδ μ=>(φ δ μ).bind λp=>match p.1 with
 |.loc n=>match p.2[n]? with
  |some (.lst ds)=>some (.loc p.2.length,p.2++[.lst ds.reverse])
  |_=>none
 |_=>none
def zEv{items:List yb}{vs:List V}{its:List yb}(rv:Vals vs items)(hl:its.length=items.length)(h:∀(j:Nat)(v:yb),its[j]?=some v->items[items.length-1-j]?=some v):Vals vs.reverse its:=by
 have e:its=items.reverse:=by
  refine ext_getElem? λj=>?_
  by_cases hj:j<its.length
  ·have h1:its[j]?=some its[j]:=by simp[hj]
   rw[List.getElem?_reverse (by omega),h j _ h1,h1]
  ·rw[xl (by omega),xl (by simp;omega)]
 rw[e];exact rv.reverse
def zTt{K:yw}{ρ:List yd}{H:Hp}:∀{ds:List D} {vs:List V},tj K ρ H ds vs->tj K ρ H ds.reverse vs.reverse
 |[],vs,r=>by rw[r.nil_inv];exact .nil
 |d::ds,vs,r=>by
  obtain⟨v,q,rfl,h1,h2⟩:=r.cons_inv;rw[List.reverse_cons,List.reverse_cons];exact(zTt h2).append (.cons h1 .nil)
def zhA(X:Cx)(tl:TE):TE:=λσ H Q=>tl σ H λx H1=>∃a ys,x=.ref a/\SqL X.K H1 a ys/\∀q,H1 q=none->Q (.ref q) (upd H1 q (.lst ys.reverse))
def zNx{l:yF}{tl:TE}(hm1:X.mg "list"=none)(hv1:yQ "list"=some (.type "list"))(hm2:X.mg "reversed"=none)(hv2:yQ "reversed"=some (.type "reversed"))(hl:PE X l tl)(hc:X.calm=true)(hg1:Gl X "list")(hg2:Gl X "reversed")
 (he:yj [l] X.env=(false,Yh l X.env)::yj [] X.env) (he2:yj [.Call (.Name "reversed" p2) [l] [] pos2] X.env=(false,Yh (.Call (.Name "reversed" p2) [l] [] pos2) X.env)::yj [] X.env) :
 PE X (.Call (.Name "list" p1) [.Call (.Name "reversed" p2) [l] [] pos2] [] pos) (zhA X tl):=by
 intro pins s σ H Q I h;refine xH (ztk I hg1 hm1 hv1 ?_ (by decide) (by decide));refine YJ ?_ he2 rfl;rw[he2];show yo _ _ (spliced ((false,Yh (.Call (.Name "reversed" p2) [l] [] pos2) X.env)::Yo pos (yj [] X.env))) _ _ s;refine Calls.spliced_cons ?_;refine xH (ztk I hg2 hm2 hv2 ?_ (by decide) (by decide))
 refine YJ (thn (zQc hl zmf he pos2 pins s σ H (λvs H1=>match vs with
  |[x]=>∃a ys,x=.ref a/\SqL X.K H1 a ys/\∀q,H1 q=none->Q (.ref q) (upd H1 q (.lst ys.reverse))
  |_=>False) I h) λus s1 ⟨vs,H1,I1,r1,q1⟩=>?_) he rfl
 dsimp only at q1
 split at q1
 case h_2=>exact q1.elim
 obtain⟨a,ys,e,hq,q⟩:=q1;subst e
 cases r1 with
 |cons r rr=>
  cases rr;cases r;obtain⟨its,rv,pl,hz⟩:=I1.list hq;have hlen:=rv.length;refine call_reversed_list pl.isList ?_;refine Calls.spliced_nil ?_;have I2:Inv X pins σ H1 {s1 with heap:=s1.heap.push (revObj a ((its.toArray.size:Int)-1))}:=I1.kept (t':=s1.toks) λb o e=>yc _ e;have halt:a<s1.heap.objs.size:=by obtain⟨_,_,e,_⟩:=pl;exact ym e
  have hf:∀b∈[s1.heap.objs.size],z4o X pins H1 b:=λb hb=>by
   have e:b=s1.heap.objs.size:=by simpa using hb
   subst e;exact I1.Sj (yk _) (I1.hok.fresh (yk _))
  refine ztv (s:={s1 with heap:=s1.heap.push (revObj a ((its.toArray.size:Int)-1))}) (I.ok.hd hc) (yt halt) ⟨_,yn _ rfl,rfl,rfl⟩ (pl.isList.push _) (by simp;omega) λh' tk acc' c' kp e hi=>?_;obtain⟨hi1,hi2⟩:=hi;have hv:=zEv (its:=acc'.toList) rv (by simpa using hi1) λj v e=>by simpa using hi2 j v (by simpa using e)
  refine⟨.ref _,_,zFd (t':=tk) I2 hf (λb o hb e=>kp b o (by simpa using hb) e) (yk _) (show tG X.prog X.w _ h' _ (.lst ys.reverse) from⟨by simp;omega,acc'.toList,c',hv,by simpa using e⟩),rfl,q _ (I2.hok.fresh (yk _))⟩
def zUx(hm1:X.mg "list"=none)(hv1:yQ "list"=some (.type "list"))(hm2:X.mg "reversed"=none)(hv2:yQ "reversed"=some (.type "reversed"))(h:ME X e φ)(hc:X.calm=true:=by rfl)(hg1:Gl X "list":=by rfl)(hg2:Gl X "reversed":=by rfl)
 (he:yj [e] X.env=(false,Yh e X.env)::yj [] X.env:=by rfl) (he2:yj [.Call (.Name "reversed" p2) [e] [] pos2] X.env=(false,Yh (.Call (.Name "reversed" p2) [e] [] pos2) X.env)::yj [] X.env:=by rfl) :
 ME X (.Call (.Name "list" p1) [.Call (.Name "reversed" p2) [e] [] pos2] [] pos) (zfv φ) :=
 zjd (zNx hm1 hv1 hm2 hv2 h hc hg1 hg2 he he2) λρ δ μ σ H d μ' Q A e k=>by
  obtain⟨⟨x,μ1⟩,e1,e⟩:=zn e;refine⟨ρ,δ,μ,x,μ1,A,e1,λρ1 H1 v x1 R1 r1=>?_⟩;dsimp only at e
  split at e
  ·split at e
   ·rename_i hm
    cases e;obtain⟨p,rfl,ep⟩:=r1.tz;obtain⟨vs,e3,q⟩:=R1.at_ _ _ _ ep hm;exact⟨p,vs,rfl,SqL.of e3,λq' hq'=>k _ _ _ (x1.trans (Ext.push hq')) (R1.push hq' ⟨_,zG,(zTt q).ext (Ext.push hq')⟩) (.loc (zFb R1))⟩
   ·cases e
  ·cases e
end
section
variable {X:Cx}
end
section
variable {prog:yB}{w:yL}{A:yR}{E:yb->ye->Prop}{s:ye}
end
section
variable {X:Cx}{e:yF}{te:TE}{φ:FE}{stp:yF}{ts:TO}{pos p2:xC}
end
section
variable {prog:yB}{w:yL}{A:yR}{E:yb->ye->Prop}{s:ye}
end
section
variable {X:Cx}
end
section
variable {X:Cx}
def z7k(ns:List Int):List Int:=ns.mergeSort λa b=>decide (a<=b)
def zrh:GL:=λds μ=>match ds with
 |[.loc n]=>match μ[n]? with
  |some (.lst xs)=>(zBh xs).bind λns=>bif decide (ns.length<64) then some (.loc μ.length,μ++[.lst ((z7k ns).map .int)]) else none
  |_=>none
 |_=>none
def z9g(hc:X.calm=true):Ti X (.builtin "sorted") zrh:=by
 refine Ti.of λpins s σ H xs us Q I r ρ ds μ d μ' r1 R e k=>?_;unfold zrh at e
 split at e
 ·split at e
  ·rename_i hm
   obtain⟨ns,e2,e⟩:=zn e;obtain⟨hp,e⟩:=zY e;have hp:=of_decide_eq_true hp;cases e;rw[zqe e2]at hm;obtain⟨v,rr,rfl,q1,q2⟩:=r1.cons_inv;obtain⟨a,rfl,ea⟩:=q1.tz;obtain⟨vs,e3,q3⟩:=R.at_ _ _ _ ea hm;rw[zJg q3]at e3;rw[q2.nil_inv]at r;obtain⟨u,rfl,ru⟩:=vals1 r;cases ru;obtain⟨its,rv,pl,hz⟩:=I.list (SqL.of (K:=X.K) e3);have hl:its.length=ns.length:=by rw[<-rv.length];simp
   refine sorted_ints pl.isList (zlf rv) (by omega) λout ns' a1 a2 a3=>?_;have hms:ns'=z7k ns:=zPc (a2.trans (mergeSort_perm _ _).symm) a3 (zjh _);subst hms;obtain⟨e0,he⟩:=sortedAll_at s.heap its out;have hf:=I.hok.fresh (Xf s.heap.objs.size);have hlen:(z7k ns).length=ns.length:=a2.length_eq;refine⟨.ref (s.heap.objs.size+1),_,I.laid (t':=s.toks) (o:=.lst ((z7k ns).map V.int)) (λ_ _=>sortedAll_old) (Xf _) ?_,rfl,k _ _ _ (Ext.push hf) (R.push hf ⟨_,zG,zUe⟩) (.loc (zFb R))⟩;exact⟨by simp;rw[YA];omega,out.toList,e0,zQe a1,by simpa using he⟩
  ·cases e
 ·cases e
end
section
variable {X:Cx}{a b c e:yF}{es:List yF}{φ ψ χ:FE}{pos p2:xC}
end
section
variable {prog:yB}{w:yL}{A:yR}{E:yb->ye->Prop}{s:ye}
def zPl{it t:yd}{items:Array yb}(hne:t≠it):∀(n i:Nat)(s:ye)(Q:List yb->ye->Prop),s.heap.IsListIter it t i->s.heap.IsList t items->i+n<=items.size ->
 (∀h',h'.IsListIter it t (i+n)->yN it s.heap h'->Q ((items.toList.drop i).take n) {s with heap:=h' })->yo (yx prog w) A (draw (.ref it) n) Q E s
 |0,i,s,Q,hit,_,_,hQ=>by
  show yo _ _ (pure []) Q E s;exact yg (by simpa using hQ s.heap hit (Heap.SameBut.refl ..))
 |n+1,i,s,Q,hit,ht,hle,hQ=>by
  have hlt:i<items.size:=by omega
  show yo _ _ (xQ (.ref it) >>= _) Q E s;refine ya (wpAny_pyNext_list_item hit ht (x:=items[i]) (by simp[hlt]) λh₁ hit₁ hs₁=>?_);refine ya (yY (zPl hne n (i+1) _ _ hit₁ (ht.extBut hs₁.extBut hne) (by omega) λh₂ hit₂ hs₂=>yg ?_));have hd:items.toList.drop i=items[i]::items.toList.drop (i+1):=by simp[drop_eq_getElem_cons,hlt]
  have:=hQ h₂ (by rw[show i+(n+1)=i+1+n by omega];exact hit₂) (hs₁.trans hs₂);rw[hd,List.take_succ_cons]at this;exact this
def zui{t:yd}{items:Array yb}{Q:List yb->ye->Prop}(hh:A.handled=none)(ht:s.heap.IsList t items)
 (hQ:∀h',xE s.heap.objs.size s.heap h'->Q items.toList {s with heap:=h' }):yo (yx prog w) A (unpackItems (.ref t) items.size none) Q E s:=by
 have hlt:t≠s.heap.objs.size:=by obtain⟨o,ho,_⟩:=ht;exact yt (ym ho)
 unfold unpackItems;refine ya ?_
 ·unfold notIterableAtAll;refine ya (xz ht.typeIs PySem.slot_list_iter.lookup ?_);refine yg ?_;simp only[xI,if_false];refine ya (yY (xU ht ?_));refine ya (yY (zPl hlt items.size 0 _ _ ⟨_,yn _ rfl,rfl,rfl⟩ (ht.push _) (by omega) λh₁ hit₁ hs₁=>?_))
  have hall:List.take items.size (List.drop 0 items.toList)=items.toList:=by
   rw[List.drop_zero];exact Xh (by simp)
  rw[hall];rw[if_neg (by simp)];have ht₁:h₁.IsList t items:=(ht.push _).extBut hs₁.extBut hlt;refine ya (yY (wpAny_pyNext_list_end hh hit₁ ht₁ (by simp) λh₂ he₂=>?_));simp only[Option.isSome_none,xI,if_false];refine yg (hQ h₂ λb o hb e=>he₂ b o hb (hs₁.extBut b o hb (yc _ e)))
def zKi{env:Env}{elts:List yF}{x1}{pos:xC}{t:yd}{items:Array yb}{Q:Unit->ye->Prop}(hh:A.handled=none)(ht:s.heap.IsList t items)
 (hn:(Yw elts env).length=items.size) (hstar:(Yw elts env).findIdx? (·.1)=none)
 (h:∀h',xE s.heap.objs.size s.heap h'->yo (yx prog w) A (assignInOrder ((Yw elts env).map (·.2)) items.toList) Q E {s with heap:=h' }) :
 yo (yx prog w) A (assign (.Tuple elts x1 pos) env (.ref t)) Q E s:=by
 rw[assign_Tuple];refine ya (YZ ?_);unfold unpack;rw[hn,hstar];exact ya (yY (zui hh ht h))
end
section
variable {X:Cx}{pos:xC}
def z6A(K:yw)(n:Nat)(t:TGs):TG:=λv σ H Q=>∃a xs,v=.ref a/\SqL K H a xs/\xs.length=n/\t xs σ H Q
def zhx{es:List yF}{k:Nat}{t:TGs}{n:Nat}(hc:X.calm=true)(h:PGs X es t)
 (hn:(Yw es X.env).length=n:=by rfl) (hst:(Yw es X.env).findIdx? (·.1)=none:=by rfl):PG X (.Tuple es k pos) (z6A X.K n t):=by
 intro pins s σ H v u Q I r hw;obtain⟨a,xs,e1,hq,hl,hw⟩:=hw;subst e1;cases r;obtain⟨its,rv,pl,hz⟩:=I.list hq;refine zKi (I.ok.hd hc) pl.isList (by simp[hn,<-hl,rv.length]) hst λh' hx=>?_;have I1:Inv X pins σ H {s with heap:=h' }:=I.kept (t':=s.toks) λb o e=>hx b o (yt (ym e)) e;exact h pins _ σ H xs _ Q I1 (by simpa using rv) hw
def gTL(n:Nat)(gs:FGs):FG:=λd δ μ=>match d with
 |.loc l=>match μ[l]? with
  |some (.lst ds)=>bif ds.length==n then gs ds δ μ else none
  |_=>none
 |_=>none
def zJx{es:List yF}{k n:Nat}{gs:FGs}(h:MGs X es gs)(hc:X.calm=true:=by rfl)(hn:(Yw es X.env).length=n:=by rfl)(hst:(Yw es X.env).findIdx? (·.1)=none:=by rfl):MG X (.Tuple es k pos) (gTL n gs) :=
 mg_of (zhx hc h hn hst) λρ δ μ d δ' μ' v σ H Q A q e k=>by
  unfold gTL at e
  split at e
  ·split at e
   ·rename_i hm
    obtain⟨h1,e⟩:=zY e;obtain⟨a,rfl,ea⟩:=q.tz;obtain⟨vs,e3,q2⟩:=A.hp.at_ _ _ _ ea hm;exact⟨a,vs,rfl,SqL.of e3,by rw[<-q2.length];exact beq_iff_eq.mp h1,ρ,δ,μ,_,δ',μ',A,q2,e,k⟩
   ·cases e
  ·cases e
end
inductive Kd
 |l
 |t
def Kd.nm:Kd->String
 |.l=>"list_iterator"
 |.t=>"tuple_iterator"
def TJ:Kd->yV->yd->Array yb->Prop
 |.l,h,a,xs=>h.IsList a xs
 |.t,h,a,xs=>h.IsTuple a xs
def sW(k:Kd)(h:yV)(it a:yd)(i:Nat):Prop:=∃o,h.get? it=some o/\o.cls=.type k.nm/\o.data=.fields #[.ref a,.int i 0]
def sW.at{k:Kd}{h h':yV}{it a:yd}{i:Nat}(x:sW k h it a i)(e:∀o,h.get? it=some o->h'.get? it=some o):sW k h' it a i:=by
 obtain⟨o,h1,h2⟩:=x;exact⟨o,e o h1,h2⟩
def TJ.at{k:Kd}{h h':yV}{a:yd}{xs:Array yb}(x:TJ k h a xs)(e:∀o,h.get? a=some o->h'.get? a=some o):TJ k h' a xs:=by
 cases k<;>(obtain⟨o,h1,h2⟩:=x;exact⟨o,e o h1,h2⟩)
def JK(K:yw):Kd->yd->It
 |.l,a=>Itl K a
 |.t,a=>Itt K a
section
variable {prog:yB}{w:yL}{A:yR}{E:yb->ye->Prop}{s:ye}
def nextK{k:Kd}{it a:yd}{i:Nat}{xs:Array yb}{x:yb}{Q:yb->ye->Prop}(hit:sW k s.heap it a i)(ha:TJ k s.heap a xs)(hx:xs[i]?=some x)
 (hQ:∀h',sW k h' it a (i+1)->yN it s.heap h'->Q x {s with heap:=h' }):yo (yx prog w) A (yU (.ref it)) Q E s:=by
 cases k
 ·exact wpAny_nextOf_list_item (l:=a) hit ha hx hQ
 ·exact nextT (t:=a) hit ha hx hQ
def zxo{k:Kd}{it a:yd}{i:Nat}{xs:Array yb}{Q:yb->ye->Prop}(hh:A.handled=none)(hit:sW k s.heap it a i)(ha:TJ k s.heap a xs)(hx:xs[i]?=none)
 (hE:∀h' e,xE it s.heap h'->(∃o,h'.get? e=some o/\o.cls=.type "StopIteration")->E (.ref e) {s with heap:=h' }):yo (yx prog w) A (yU (.ref it)) Q E s:=by
 cases k
 ·exact wpAny_nextOf_list_end (l:=a) hh hit ha hx hE
 ·exact zLo (t:=a) hh hit ha hx hE
def iterK{k:Kd}{a:yd}{xs:Array yb}{Q:yb->ye->Prop}(ha:TJ k s.heap a xs)(hQ:Q (.ref s.heap.objs.size) {s with heap:=s.heap.push {cls:=.type k.nm,data:=.fields #[.ref a,.int 0 0]}}):yo (yx prog w) A (pyIter (.ref a)) Q E s:=by
 cases k
 ·exact xU ha hQ
 ·exact xF ha hQ
end
structure Zp(z t o i1 i2 a1 a2:yd):Prop where
 nd:[z,t,o,i1,i2].Nodup
 n1:a1∉[z,t,o,i1,i2]
 n2:a2∉[z,t,o,i1,i2]
structure Zs(k1 k2:Kd)(z t o i1 i2 a1 a2:yd)(f:yb)(m1 m2:Nat)(h:yV):Prop where
 hz:IsZip h z t o f
 ht:IsPair h t (.ref i1) (.ref i2)
 ho:∃p q,IsPair h o p q
 h1:sW k1 h i1 a1 m1
 h2:sW k2 h i2 a2 m2
section
variable {prog:yB}{w:yL}{A:yR}{E:yb->ye->Prop}{s:ye}{k1 k2:Kd}{z t o i1 i2 a1 a2:yd}
def z4u{i:Nat}{xs ys:Array yb}{x y:yb}{Q:Option yb->ye->Prop}(d:Zp z t o i1 i2 a1 a2)(st:Zs k1 k2 z t o i1 i2 a1 a2 .none i i s.heap)(l1:TJ k1 s.heap a1 xs)(l2:TJ k2 s.heap a2 ys)(hx:xs[i]?=some x)(hy:ys[i]?=some y)
 (hQ:∀h',Zs k1 k2 z t o i1 i2 a1 a2 (YF s.heap.objs.size) (i+1) (i+1) h'->h'.get? s.heap.objs.size=some {cls:=.type "tuple",data:=.seq #[x,y]}->(∀b u,b∉[z,t,o,i1,i2]->s.heap.get? b=some u->h'.get? b=some u)->Q (some (.ref s.heap.objs.size)) {s with heap:=h' }) :
 yo (yx prog w) A (xQ (.ref z)) Q E s:=by
 obtain⟨hp,g,dr,tk,os⟩:=s;obtain⟨hz,ht,⟨p,q,ho⟩,h1,h2⟩:=st;obtain⟨nd,n1,n2⟩:=d;simp only[nodup_cons,mem_cons,not_mem_nil,or_false,not_or,not_false_eq_true,nodup_nil,and_true]at nd n1 n2;obtain⟨⟨dzt,dzo,dz1,dz2⟩,⟨dto,dt1,dt2⟩,⟨do1,do2⟩,d12⟩:=nd;obtain⟨nz,nt,no,n11,n12⟩:=n1;obtain⟨mz,mt,mo,m11,m12⟩:=n2;have hT:Shared.TypeIs ⟨hp,g,dr,tk,os⟩ (.ref z) "zip":=⟨_,hz,rfl⟩
 unfold xQ;refine ya (xX (yZ (name:=YN "__next__") hT F.slot_zip_next (yW F.slot_zip_next hT F.entry_zip_next ?_ (F.args_zip_next_1 _))));show yo _ _ (field (.ref z) 2 >>= _) _ _ _;refine ya (Yn hz rfl (x:=.bool false) rfl ?_);show yo _ _ (field (.ref z) 3 >>= _) _ _ _;refine ya (Yn hz rfl (x:=.ref t) rfl (ya (YV ht rfl ?_)));show yo _ _ (Yr (.ref z) >>= _) _ _ _;unfold Yr;refine ya (ya (Yn hz rfl (x:=.none) rfl (yg ?_)));simp only[if_true];refine ya (wpAny_rule (ya (Yn hz rfl (x:=.ref o) rfl (ya (Yx hz (by simp) λha za sa=>?_)))));replace za:IsZip ha z t o .ellipsis:=za;replace sa:yN z hp ha:=sa;simp only[List.zipIdx_cons,List.zipIdx_nil,List.forIn_cons,forIn_nil];refine ya (ya (ya (wpAny_onRaise ?_)));show yo _ _ (yU (.ref i1) >>= _) _ _ ⟨ha,g,dr,tk,os⟩;have ka:∀b u,b≠z->hp.get? b=some u->ha.get? b=some u:=λb u hb e=>(sa.2 b hb).trans e;refine ya (nextK (h1.at λu e=>ka _ u (yH dz1) e) (l1.at λu e=>ka _ u nz e) hx λhb ib sb=>yg ?_);replace sb:yN i1 ha hb:=sb;have kb:∀b u,b≠z->b≠i1->hp.get? b=some u->hb.get? b=some u:=λb u e1 e2 e=>(sb.2 b e2).trans (ka b u e1 e);have ob:IsPair hb o p q:=kb o _ (yH dzo) do1 ho;refine ya (YV (s:=⟨hb,g,dr,tk,os⟩) ob rfl (ya (wpAny_updateSeq_pair ob λhc oc sc=>ya (wpAny_letGo (yg ?_)))));replace oc:IsPair hc o x q:=oc;replace sc:yN o hb hc:=sc;have kc:∀b u,b≠z->b≠i1->b≠o->hp.get? b=some u->hc.get? b=some u:=λb u e1 e2 e3 e=>(sc.2 b e3).trans (kb b u e1 e2 e);refine ya (ya (wpAny_onRaise ?_));show yo _ _ (yU (.ref i2) >>= _) _ _ ⟨hc,g,dr,tk,os⟩;refine ya (nextK (h2.at λu e=>kc _ u (yH dz2) (yH d12) (yH do2) e) (l2.at λu e=>kc _ u mz m11 mo e) hy λhd id' sd=>yg ?_);replace sd:yN i2 hc hd:=sd;have od:IsPair hd o x q:=(sd.2 o do2).trans oc;refine ya (YV (s:=⟨hd,g,dr,tk,os⟩) od rfl (ya (wpAny_updateSeq_pair od λhe oe se=>ya (wpAny_letGo (yg (yg ?_))))));replace oe:IsPair he o x y:=oe;replace se:yN o hd he:=se;have ke:∀b u,b≠z->b≠i1->b≠o->b≠i2->hp.get? b=some u->he.get? b=some u:=λb u e1 e2 e3 e4 e=>(se.2 b e3).trans ((sd.2 b e4).trans (kc b u e1 e2 e3 e));refine ya (YV (s:=⟨he,g,dr,tk,os⟩) oe rfl (ya (wpAny_newTuple ?_)));have zs:he.objs.size=hp.objs.size:=by rw[se.1,sd.1,sc.1,sb.1,sa.1]
 have ze:IsZip he z t o .ellipsis:=(se.2 z dzo).trans ((sd.2 z dz2).trans ((sc.2 z dzo).trans ((sb.2 z dz1).trans za)));have i1e:sW k1 he i1 a1 (i+1):=ib.at λu e=>(se.2 i1 (yH do1)).trans ((sd.2 i1 d12).trans ((sc.2 i1 (yH do1)).trans e));have i2e:sW k2 he i2 a2 (i+1):=id'.at λu e=>(se.2 i2 (yH do2)).trans e;have lz:z<hp.objs.size:=ym hz;have nz4:hp.objs.size≠z:=yT lz;obtain⟨hf,ehf⟩:∃hf,hf=he.push {cls:=.type "tuple",data:=.seq #[x,y]}:=⟨_,rfl⟩
 have pf:∀b u,he.get? b=some u->hf.get? b=some u:=λb u e=>by rw[ehf];exact yc _ e
 have tf:hf.get? hp.objs.size=some {cls:=.type "tuple",data:=.seq #[x,y]}:=by rw[ehf,<-zs];exact yn _ rfl
 show yo _ _ (YO (.ref z) (.ref he.objs.size) >>= _) _ _ ⟨he.push {cls:=.type "tuple",data:=.seq #[x,y]},g,dr,tk,os⟩;rw[<-ehf,zs];unfold YO;refine ya (ya (Yx (pf _ _ ze) (by simp) λhg' zg sg=>?_));replace zg:IsZip hg' z t o (YF hp.objs.size):=zg;replace sg:yN z hf hg':=sg;refine Yx zg (by simp) λhi zi si=>yg ⟨_,rfl,?_⟩;replace zi:IsZip hi z t o (YF hp.objs.size):=zi;replace si:yN z hg' hi:=si;have ki:∀b u,b≠z->he.get? b=some u->hi.get? b=some u:=λb u e1 e=>(si.2 b e1).trans ((sg.2 b e1).trans (pf b u e));refine yg (hQ hi ⟨zi,ki _ _ (yH dzt) (ke _ _ (yH dzt) dt1 dto dt2 ht),⟨x,y,ki _ _ (yH dzo) oe⟩,i1e.at λu e=>ki _ u (yH dz1) e,i2e.at λu e=>ki _ u (yH dz2) e⟩ ?_ λb u hb e=>?_)
 ·exact(si.2 _ nz4).trans ((sg.2 _ nz4).trans tf)
 ·simp only[mem_cons,not_mem_nil,or_false,not_or]at hb;exact ki b u hb.1 (ke b u hb.1 hb.2.2.2.1 hb.2.2.1 hb.2.2.2.2 e)
def zQx{i:Nat}{xs ys:Array yb}{Q:Option yb->ye->Prop}(hh:A.handled=none)(d:Zp z t o i1 i2 a1 a2)(st:Zs k1 k2 z t o i1 i2 a1 a2 .none i i s.heap)(l1:TJ k1 s.heap a1 xs)(l2:TJ k2 s.heap a2 ys)(hend:xs[i]?=none\/ys[i]?=none)
 (hQ:∀h',(∀b u,b∉[z,t,o,i1,i2]->s.heap.get? b=some u->h'.get? b=some u)->Q none {s with heap:=h' }):yo (yx prog w) A (xQ (.ref z)) Q E s:=by
 obtain⟨hp,g,dr,tk,os⟩:=s;obtain⟨hz,ht,⟨p,q,ho⟩,h1,h2⟩:=st;obtain⟨nd,n1,n2⟩:=d;simp only[nodup_cons,mem_cons,not_mem_nil,or_false,not_or,not_false_eq_true,nodup_nil,and_true]at nd n1 n2;obtain⟨⟨dzt,dzo,dz1,dz2⟩,⟨dto,dt1,dt2⟩,⟨do1,do2⟩,d12⟩:=nd;obtain⟨nz,nt,no,n11,n12⟩:=n1;obtain⟨mz,mt,mo,m11,m12⟩:=n2;have hT:Shared.TypeIs ⟨hp,g,dr,tk,os⟩ (.ref z) "zip":=⟨_,hz,rfl⟩
 unfold xQ;refine ya (xX (yZ (name:=YN "__next__") hT F.slot_zip_next (yW F.slot_zip_next hT F.entry_zip_next ?_ (F.args_zip_next_1 _))));show yo _ _ (field (.ref z) 2 >>= _) _ _ _;refine ya (Yn hz rfl (x:=.bool false) rfl ?_);show yo _ _ (field (.ref z) 3 >>= _) _ _ _;refine ya (Yn hz rfl (x:=.ref t) rfl (ya (YV ht rfl ?_)));show yo _ _ (Yr (.ref z) >>= _) _ _ _;unfold Yr;refine ya (ya (Yn hz rfl (x:=.none) rfl (yg ?_)));simp only[if_true];refine ya (wpAny_rule (ya (Yn hz rfl (x:=.ref o) rfl (ya (Yx hz (by simp) λha za sa=>?_)))));replace za:IsZip ha z t o .ellipsis:=za;replace sa:yN z hp ha:=sa;simp only[List.zipIdx_cons,List.zipIdx_nil,List.forIn_cons,forIn_nil];refine ya (ya (ya (wpAny_onRaise ?_)));show yo _ _ (yU (.ref i1) >>= _) _ _ ⟨ha,g,dr,tk,os⟩;have ka:∀b u,b≠z->hp.get? b=some u->ha.get? b=some u:=λb u hb e=>(sa.2 b hb).trans e;have l1a:=l1.at λu e=>ka _ u nz e;have h1a:=h1.at λu e=>ka _ u (yH dz1) e
 cases hx:xs[i]? with
 |none=>
  refine ya (zxo hh h1a l1a hx λhb e sb hs=>?_);replace sb:xE i1 ha hb:=sb;obtain⟨u,hu,hc⟩:=hs;have zb:IsZip hb z t o .ellipsis:=sb _ _ dz1 za
  have ez:e≠z:=by
   rintro rfl;rw[zb]at hu;cases hu;simp at hc
  refine Yx zb (by simp) λhc' zc sc=>ya (Xd (T:="StopIteration") (b:=true) ⟨u,(sc.2 e ez).trans hu,hc⟩ isSubtype_stop (yg (hQ _ λb u hb e=>?_)));simp only[mem_cons,not_mem_nil,or_false,not_or]at hb;exact(sc.2 b hb.1).trans (sb b u hb.2.2.2.1 (ka b u hb.1 e))
 |some x=>
  have hy:ys[i]?=none:=by
   rcases hend with h|h
   ·rw[hx]at h;cases h
   ·exact h
  refine ya (nextK h1a l1a hx λhb ib sb=>yg ?_);replace sb:yN i1 ha hb:=sb;have kb:∀b u,b≠z->b≠i1->hp.get? b=some u->hb.get? b=some u:=λb u e1 e2 e=>(sb.2 b e2).trans (ka b u e1 e);have ob:IsPair hb o p q:=kb o _ (yH dzo) do1 ho;refine ya (YV (s:=⟨hb,g,dr,tk,os⟩) ob rfl (ya (wpAny_updateSeq_pair ob λhc oc sc=>ya (wpAny_letGo (yg ?_)))));replace sc:yN o hb hc:=sc;have kc:∀b u,b≠z->b≠i1->b≠o->hp.get? b=some u->hc.get? b=some u:=λb u e1 e2 e3 e=>(sc.2 b e3).trans (kb b u e1 e2 e);refine ya (ya (wpAny_onRaise ?_));show yo _ _ (yU (.ref i2) >>= _) _ _ ⟨hc,g,dr,tk,os⟩;refine ya (zxo hh (h2.at λu e=>kc _ u (yH dz2) (yH d12) (yH do2) e) (l2.at λu e=>kc _ u mz m11 mo e) hy λhd e sd hs=>?_);replace sd:xE i2 hc hd:=sd;obtain⟨u,hu,hcl⟩:=hs;have zd:IsZip hd z t o .ellipsis:=sd _ _ dz2 ((sc.2 z dzo).trans ((sb.2 z dz1).trans za))
  have ez:e≠z:=by
   rintro rfl;rw[zd]at hu;cases hu;simp at hcl
  refine Yx zd (by simp) λhe ze se=>ya (Xd (T:="StopIteration") (b:=true) ⟨u,(se.2 e ez).trans hu,hcl⟩ isSubtype_stop (yg (hQ _ λb u hb e=>?_)));simp only[mem_cons,not_mem_nil,or_false,not_or]at hb;exact(se.2 b hb.1).trans (sd b u hb.2.2.2.2 (kc b u hb.1 hb.2.2.2.1 hb.2.2.1 e))
end
abbrev zpA(k:Kd)(a:yd):YY:={cls:=.type k.nm,data:=.fields #[.ref a,.int 0 0]}
abbrev zpB(h:yV)(k1 k2:Kd)(a1 a2:yd):yV:=(h.push (zpA k1 a1)).push (zpA k2 a2)
abbrev zpC(h:yV)(k1 k2:Kd)(a1 a2:yd):yV:=(zpB h k1 k2 a1 a2).push {cls:=.type "tuple",data:=.seq #[.ref h.objs.size,.ref (h.push (zpA k1 a1)).objs.size]}
abbrev zpD(h:yV)(k1 k2:Kd)(a1 a2:yd):yV:=(zpC h k1 k2 a1 a2).push {cls:=.type "tuple",data:=.seq #[.none,.none]}
abbrev zpE(h:yV)(k1 k2:Kd)(a1 a2:yd):yV:=(zpD h k1 k2 a1 a2).push {cls:=.type "zip",data:=.fields #[.none,.bool false,.bool false,.ref (zpB h k1 k2 a1 a2).objs.size,.ref (zpC h k1 k2 a1 a2).objs.size]}
def zCv(k1 k2:Kd)(a1 a2:yd)(xs ys:Array yb):Meets (xw.«zip.__new__» ⟨[.type "zip",.ref a1,.ref a2],[]⟩) (λ_ R s=>TJ k1 s.heap a1 xs/\TJ k2 s.heap a2 ys/\R (.ok (.ret (.ref (zpD s.heap k1 k2 a1 a2).objs.size))) {s with heap:=zpE s.heap k1 k2 a1 a2 }) :=
 .of_wp λprog w A R s h=>by
  obtain⟨hp,g,d,tk,os⟩:=s;obtain⟨l1,l2,h⟩:=h;have hsub:=sub_zip;have q1:TJ k1 (Shared.heap ⟨hp,g,d,tk,os⟩) a1 xs:=l1;have q2:TJ k2 (Shared.heap ⟨hp.push (zpA k1 a1),g,d,tk,os⟩) a2 ys:=l2.at λu e=>yc _ e
  wp_walk using iterK q1,iterK q2
  exact⟨_,rfl,h⟩
section
variable {prog:yB}{w:yL}{A:yR}{E:yb->ye->Prop}{s:ye}{k1 k2:Kd}{a1 a2:yd}
def zns{xs ys:Array yb}{Q:yb->ye->Prop}(l1:TJ k1 s.heap a1 xs)(l2:TJ k2 s.heap a2 ys)
 (h:∀h',Zs k1 k2 (s.heap.objs.size+4) (s.heap.objs.size+2) (s.heap.objs.size+3) s.heap.objs.size (s.heap.objs.size+1) a1 a2 .none 0 0 h'->(∀b u,s.heap.get? b=some u->h'.get? b=some u)->Q (.ref (s.heap.objs.size+4)) {s with heap:=h' }) :
 yo (yx prog w) A (call (.type "zip") [.ref a1,.ref a2]) Q E s:=by
 refine callType_new F.called_zip (by decide) (F.typeCall_zip_2 _ _) (F.newCall_zip_2 _ _) (λobj=>F.args_object_init_3 obj _ _) F.entry_zip_new (zCv k1 k2 a1 a2 xs ys) ⟨l1,l2,?_⟩;have z1:(s.heap.push (zpA k1 a1)).objs.size=s.heap.objs.size+1:=Yd ..;have z2:(zpB s.heap k1 k2 a1 a2).objs.size=s.heap.objs.size+2:=by rw[Yd,z1]
 have z3:(zpC s.heap k1 k2 a1 a2).objs.size=s.heap.objs.size+3:=by rw[Yd,z2]
 have z4:(zpD s.heap k1 k2 a1 a2).objs.size=s.heap.objs.size+4:=by rw[Yd,z3]
 obtain⟨hE,eE⟩:∃hE,hE=zpE s.heap k1 k2 a1 a2:=⟨_,rfl⟩
 have up:∀b u,(zpC s.heap k1 k2 a1 a2).get? b=some u->hE.get? b=some u:=λb u e=>by rw[eE];exact yc _ (yc _ e)
 have e5:hE.get? (zpD s.heap k1 k2 a1 a2).objs.size=some {cls:=.type "zip",data:=.fields #[.none,.bool false,.bool false,.ref (zpB s.heap k1 k2 a1 a2).objs.size,.ref (zpC s.heap k1 k2 a1 a2).objs.size]}:=by rw[eE];exact yn _ rfl
 have e4:hE.get? (zpC s.heap k1 k2 a1 a2).objs.size=some {cls:=.type "tuple",data:=.seq #[.none,.none]}:=by rw[eE];exact yc _ (yn _ rfl)
 have e3:hE.get? (zpB s.heap k1 k2 a1 a2).objs.size=some {cls:=.type "tuple",data:=.seq #[.ref s.heap.objs.size,.ref (s.heap.push (zpA k1 a1)).objs.size]}:=up _ _ (yn _ rfl);have e2:hE.get? (s.heap.push (zpA k1 a1)).objs.size=some (zpA k2 a2):=up _ _ (yc _ (yn _ rfl));have e1:hE.get? s.heap.objs.size=some (zpA k1 a1):=up _ _ (yc _ (yc _ (yn _ rfl)));rw[z2,z3,z4]at e5;rw[z3]at e4;rw[z1,z2]at e3;rw[z1]at e2;show _/\_;rw[<-eE,z4];exact⟨⟨_,e5,rfl⟩,h _ ⟨e5,e3,⟨_,_,e4⟩,⟨_,e1,rfl,rfl⟩,⟨_,e2,rfl,rfl⟩⟩ λb u e=>up b u (yc _ (yc _ (yc _ e)))⟩
end
def Izp(J1 J2:It):It:=⟨λi H=>J1.go i H/\J2.go i H,λi H x H'=>∃p y1 y2,x=.ref p/\H p=none/\H'=upd H p (.tup [y1,y2])/\J1.yld i H y1 H/\J2.yld i H y2 H,λi H=>(J1.stop i H/\(J2.go i H\/J2.stop i H))\/(J1.go i H/\J2.stop i H)⟩
def SqK(K:yw):Kd->Hp->yd->List V->Prop
 |.l=>SqL K
 |.t=>SqT K
section
variable {X:Cx}{pins:List (yd×YY)}{σ:L2.St}{H:Hp}{s:ye}
def zkl{k:Kd}{a:yd}{xs:List V}(I:Inv X pins σ H s)(hq:SqK X.K k H a xs):∃its:List yb,Vals xs its/\TJ k s.heap a its.toArray:=by
 cases k
 ·obtain⟨its,rv,p,_⟩:=I.list hq;exact⟨its,rv,p.isList⟩
 ·obtain⟨its,rv,p,_⟩:=I.tuple hq;exact⟨its,rv,p⟩
def zAu{k:Kd}{a:yd}{xs ys:List V}(I:Inv X pins σ H s)(h1:SqK X.K k H a xs)(h2:SqK X.K k H a ys):xs=ys:=by
 cases k
 ·exact I.sM h1 h2
 ·exact I.sy h1 h2
def SH{K:yw}{k:Kd}{a:yd}{i:Nat}:(JK K k a).go i H↔∃xs x,SqK K k H a xs/\xs[i]?=some x:=by
 cases k<;>exact Iff.rfl
def SS{K:yw}{k:Kd}{a:yd}{i:Nat}{x:V}{H':Hp}:(JK K k a).yld i H x H'↔H'=H/\∀xs,SqK K k H a xs->xs[i]?=some x:=by
 cases k<;>exact Iff.rfl
def Sf{K:yw}{k:Kd}{a:yd}{i:Nat}:(JK K k a).stop i H↔∃xs,SqK K k H a xs/\xs.length<=i:=by
 cases k<;>exact Iff.rfl
def zJv{P:yB}{w:yL}{K:yw}{elts:List yF}{x1}{pos:xC}{k1 k2:Kd}{z t o i1 i2 a1 a2:yd}(d:Zp z t o i1 i2 a1 a2) :
 Turn P w K (.Tuple elts x1 pos) (Izp (JK K k1 a1) (JK K k2 a2)) [z,t,o,i1,i2] z (λi h=>Zs k1 k2 z t o i1 i2 a1 a2 .none i i h) where
 mem:=by simp
 obj:=λi h st b hb=>by
  obtain⟨hz,ht,⟨p,q,ho⟩,⟨u1,q1,_,d1⟩,⟨u2,q2,_,d2⟩⟩:=st;simp only[mem_cons,not_mem_nil,or_false]at hb;rcases hb with rfl|rfl|rfl|rfl|rfl
  ·exact⟨_,hz,λv e=>by have e':Data.fields _=Data.cell v:=e;cases e'⟩
  ·exact⟨_,ht,λv e=>by have e':Data.seq _ _=Data.cell v:=e;cases e'⟩
  ·exact⟨_,ho,λv e=>by have e':Data.seq _ _=Data.cell v:=e;cases e'⟩
  ·exact⟨u1,q1,λv e=>by rw[d1]at e;cases e⟩
  ·exact⟨u2,q2,λv e=>by rw[d2]at e;cases e⟩
 keep:=λi h h' st k=>by
  obtain⟨hz,ht,⟨p,q,ho⟩,h1,h2⟩:=st;exact⟨k z (by simp) _ hz,k t (by simp) _ ht,⟨p,q,k o (by simp) _ ho⟩,h1.at λu e=>k i1 (by simp) u e,h2.at λu e=>k i2 (by simp) u e⟩
 item:=by
  intro X hP hw hK hc i pins s σ H E I hf st hg;subst hP hw hK;obtain⟨g1,g2⟩:=hg;obtain⟨xs,x,hq1,hx⟩:=SH.mp g1;obtain⟨ys,y,hq2,hy⟩:=SH.mp g2;obtain⟨its1,rv1,p1⟩:=zkl I hq1;obtain⟨its2,rv2,p2⟩:=zkl I hq2;obtain⟨u1,hu1,ru1⟩:=rv1.get hx;obtain⟨u2,hu2,ru2⟩:=rv2.get hy;refine z4u d st p1 p2 (x:=u1) (y:=u2) (by simpa using hu1) (by simpa using hu2) λh' st' t' kk=>?_;obtain⟨hz',ht',⟨p,q,ho'⟩,h1',h2'⟩:=st';refine⟨_,rfl,wpAny_letOwnedTupleGo_zip hz' λh2 z2 sb2=>?_⟩;replace sb2:yN z h' h2:=sb2;have nd:=d.nd;simp only[nodup_cons,mem_cons,not_mem_nil,or_false,not_or,not_false_eq_true,nodup_nil,and_true]at nd;obtain⟨⟨dzt,dzo,dz1,dz2⟩,_⟩:=nd;have hlt:z<s.heap.objs.size:=ym st.hz;have t2:=(sb2.2 s.heap.objs.size (yT hlt)).trans t';have hfr:=I.hok.fresh (yk s.heap.objs.size)
  have I2:Inv X pins σ (upd H s.heap.objs.size (.tup [x,y])) {s with heap:=h2,toks:=s.toks }:=by
   refine zFd I hf (λb u hb e=>?_) (yk _) (zjp t2 ru1 ru2);exact(sb2.2 b λe=>hb (by simp[e])).trans (kk b u hb e)
  refine⟨.ref s.heap.objs.size,_,I2,rfl,⟨_,x,y,rfl,hfr,rfl,SS.mpr ⟨rfl,λzs hz=>by rw[zAu I hz hq1];exact hx⟩,SS.mpr ⟨rfl,λzs hz=>by rw[zAu I hz hq2];exact hy⟩⟩,
   ⟨z2,(sb2.2 t (yH dzt)).trans ht',⟨p,q,(sb2.2 o (yH dzo)).trans ho'⟩,h1'.at λu e=>(sb2.2 i1 (yH dz1)).trans e,h2'.at λu e=>(sb2.2 i2 (yH dz2)).trans e⟩,λb hb=>?_⟩
  rw[zN]
  ·exact(hf b hb).1
  ·rintro rfl;have fr:∀{c:yd} {u:YY},s.heap.get? c=some u->s.heap.objs.size≠c:=λe=>yT (ym e);obtain⟨hz,ht,⟨p,q,ho⟩,⟨u1,q1,_⟩,⟨u2,q2,_⟩⟩:=st;simp only[mem_cons,not_mem_nil,or_false]at hb;rcases hb with e|e|e|e|e
   ·exact fr hz e
   ·exact fr ht e
   ·exact fr ho e
   ·exact fr q1 e
   ·exact fr q2 e
 done:=by
  intro X hP hw hK hc i pins s σ H E I hf st hg;subst hP hw hK
  have fin:∀{xs ys:List V},SqK X.K k1 H a1 xs->SqK X.K k2 H a2 ys->(xs.length<=i\/ys.length<=i)->yo (yx X.prog X.w) X.A (xQ (.ref z)) (λr s1=>r=none/\Inv X pins σ H s1) E s:=λ{xs ys} hq1 hq2 hl=>by
   obtain⟨its1,rv1,p1⟩:=zkl I hq1;obtain⟨its2,rv2,p2⟩:=zkl I hq2;have e1:=rv1.length;have e2:=rv2.length;refine zQx (I.ok.hd hc) d st p1 p2 ?_ λh' kk=>⟨rfl,zEi (t':=s.toks) I hf λb u hb e=>kk b u hb e⟩
   rcases hl with hl|hl
   ·exact .inl (by simp;omega)
   ·exact .inr (by simp;omega)
  rcases hg with ⟨g1,g2⟩|⟨g1,g2⟩
  ·obtain⟨xs,hq1,hl⟩:=Sf.mp g1;rcases g2 with g2|g2
   ·obtain⟨ys,y,hq2,_⟩:=SH.mp g2;exact fin hq1 hq2 (.inl hl)
   ·obtain⟨ys,hq2,_⟩:=Sf.mp g2;exact fin hq1 hq2 (.inl hl)
  ·obtain⟨xs,x,hq1,_⟩:=SH.mp g1;obtain⟨ys,hq2,hl⟩:=Sf.mp g2;exact fin hq1 hq2 (.inr hl)
 self:=λ_ _ _ _ _ st h=>wpAny_pyIter_zip st.hz h
def iZp(K:yw)(ta:TA):TI:=λσ H R=>ta σ H λvs H1=>∃a1 a2 k1 k2 xs ys,vs=[.ref a1,.ref a2]/\SqK K k1 H1 a1 xs/\SqK K k2 H1 a2 ys/\R (Izp (JK K k1 a1) (JK K k2 a2)) H1
def TJ.lt{k:Kd}{h:yV}{a:yd}{xs:Array yb}(q:TJ k h a xs):a<h.objs.size:=by
 cases k<;>(obtain⟨o,e,_⟩:=q;exact ym e)
def zKz{a b:yF}{ta:TA}{elts:List yF}{x1}{tp p pos:xC}(hg:Gl X "zip")(hm:X.mg "zip"=none)(hv:yQ "zip"=some (.type "zip"))(ha:PA X [a,b] ta)(hs:yj [a,b] X.env=[(false,Yh a X.env),(false,Yh b X.env)]:=by rfl)(hs2:yj [b] X.env=[(false,Yh b X.env)]:=by rfl) :
 PI X (.Tuple elts x1 tp) (.Call (.Name "zip" p) [a,b] [] pos) (iZp X.K ta):=by
 intro pins s σ H R I h;refine Call_ (ztk I hg hm hv (YJ (thn (ha pos pins s σ H _ I h) λus s1 ⟨vs,H1,I1,r1,q1⟩=>?_) (by rw[hs,hs2]) (by rw[hs2];rfl)));obtain⟨a1,a2,k1,k2,xs,ys,e,hq1,hq2,q⟩:=q1;subst e
 cases r1 with
 |cons r rr=>
  cases rr with
  |cons r' rr=>
   cases rr;cases r;cases r';obtain⟨its1,rv1,p1⟩:=zkl I1 hq1;obtain⟨its2,rv2,p2⟩:=zkl I1 hq2;have l1:=p1.lt;have l2:=p2.lt;refine zns p1 p2 λh' st kp=>?_;refine wpAny_pyIter_zip (s:={s1 with heap:=h' }) st.hz ?_;have fp:∀b,s1.heap.objs.size<=b->z4o X pins H1 b:=λb hb=>I1.Sj hb (I1.hok.fresh hb);generalize s1.heap.objs.size=n at l1 l2 st fp;refine⟨_,[n+4,n+2,n+3,n,n+1],_,_,H1,rfl,I1.kept (t':=s1.toks) kp,zJv ⟨?_,?_,?_⟩,st,λb hb=>?_,q⟩
   ·simp
   ·simp only[mem_cons,not_mem_nil,or_false,not_or];exact⟨yt (xm 4 l1),yt (xm 2 l1),yt (xm 3 l1),yt l1,yt (xm 1 l1)⟩
   ·simp only[mem_cons,not_mem_nil,or_false,not_or];exact⟨yt (xm 4 l2),yt (xm 2 l2),yt (xm 3 l2),yt l2,yt (xm 1 l2)⟩
   ·simp only[mem_cons,not_mem_nil,or_false]at hb;rcases hb with rfl|rfl|rfl|rfl|rfl
    ·exact fp _ (Nat.le_add_right _ _)
    ·exact fp _ (Nat.le_add_right _ _)
    ·exact fp _ (Nat.le_add_right _ _)
    ·exact fp _ (yk _)
    ·exact fp _ (Nat.le_add_right _ _)
@[simp] def zww(μ:Mem):D->Option (List D×(Mem->Bool))
 |.tup ds=>some (ds,yes)
 |.fz ds=>some (ds,yes)
 |.loc n=>match μ[n]? with
  |some (.lst ds)=>some (ds,z4j n ds)
  |_=>none
 |_=>none
def z9v{K:yw}{ρ:List yd}{H:Hp}{μ:Mem}{d:D}{v:V}{ds:List D}{ok:Mem->Bool}(R:tI K ρ H μ)(r:tx K ρ H d v)(e:zww μ d=some (ds,ok)):∃a k xs,v=.ref a/\SqK K k H a xs/\sR K (JK K k a) ρ H ds ok:=by
 unfold zww at e
 split at e
 ·cases e;obtain⟨a,vs,rfl,e2,q2⟩:=r.tR;exact⟨a,.t,vs,rfl,SqT.of e2,zpu e2 q2⟩
 ·cases e;obtain⟨a,vs,rfl,e2,q2⟩:=r.sB;exact⟨a,.l,vs,rfl,e2.sq,zhl λρ' H' μ' x _ _=>⟨vs,(x.fz e2).sq,q2.ext x⟩⟩
 ·split at e
  ·rename_i hm
   cases e;obtain⟨a,rfl,e2⟩:=r.tz;obtain⟨vs,e3,q3⟩:=R.at_ _ _ _ e2 hm;refine⟨a,.l,vs,rfl,SqL.of e3,zhl λρ' H' μ'' x R' o=>?_⟩;obtain⟨vs',e4,q4⟩:=R'.at_ _ _ _ (x.get e2) (Tt.mp o);exact⟨vs',SqL.of e4,q4⟩
  ·cases e
 ·cases e
def zjv(xs ys:List D):List D:=List.zipWith (λx y=>D.tup [x,y]) xs ys
def zox{xs ys:List D}{i:Nat}{d:D}(h:(zjv xs ys)[i]?=some d):∃x y,xs[i]?=some x/\ys[i]?=some y/\d=.tup [x,y]:=by
 unfold zjv at h;rw[List.getElem?_zipWith]at h
 cases e1:xs[i]? with
 |none=>rw[e1]at h;cases h
 |some x=>
  cases e2:ys[i]? with
  |none=>rw[e1,e2]at h;cases h
  |some y=>
   rw[e1,e2]at h;exact⟨x,y,rfl,rfl,(Yj h).symm⟩
def zcz{K:yw}{J1 J2:It}{ρ:List yd}{H:Hp}{xs ys:List D}{ok1 ok2:Mem->Bool}(h1:sR K J1 ρ H xs ok1)(h2:sR K J2 ρ H ys ok2):sR K (Izp J1 J2) ρ H (zjv xs ys) (λm=>ok1 m&&ok2 m):=by
 have hl:(zjv xs ys).length=min xs.length ys.length:=by simp[zjv]
 refine⟨λρ' H' μ' i x R o hi=>?_,λρ' H' μ' i x H'' d x' R o e ⟨p,y1,y2,e1,hp,e2,yl1,yl2⟩=>?_,λρ' H' μ' x R o=>?_⟩
 ·have o':=Bool.and_eq_true_iff.mp o;rw[hl]at hi;exact⟨h1.go ρ' H' μ' i x R o'.1 (by omega),h2.go ρ' H' μ' i x R o'.2 (by omega)⟩
 ·have o':=Bool.and_eq_true_iff.mp o;obtain⟨z1,z2,ez1,ez2,rfl⟩:=zox e;obtain⟨_,_,rz1⟩:=h1.yld ρ' H' μ' i y1 H' z1 x' R o'.1 ez1 yl1;obtain⟨_,_,rz2⟩:=h2.yld ρ' H' μ' i y2 H' z2 x' R o'.2 ez2 yl2;subst e1 e2;exact⟨Ext.new hp,R.Tp hp,.tup zG (.cons (rz1.ext (Ext.new hp)) (.cons (rz2.ext (Ext.new hp)) .nil))⟩
 ·have o':=Bool.and_eq_true_iff.mp o;rw[hl];rcases Nat.lt_trichotomy xs.length ys.length with h|h|h
  ·rw[Nat.min_eq_left (YI h)];exact .inl ⟨h1.stop ρ' H' μ' x R o'.1,.inl (h2.go ρ' H' μ' _ x R o'.2 h)⟩
  ·rw[Nat.min_eq_left (Nat.le_of_eq h)];refine .inl ⟨h1.stop ρ' H' μ' x R o'.1,.inr ?_⟩;rw[h];exact h2.stop ρ' H' μ' x R o'.2
  ·rw[Nat.min_eq_right (YI h)];exact .inr ⟨h1.go ρ' H' μ' _ x R o'.1 h,h2.stop ρ' H' μ' x R o'.2⟩
@[simp] def z7z(φ:FA):FI:=λδ μ=>(φ δ μ).bind λp=>match p.1 with
 |[x,y]=>(zww p.2 x).bind λu=>(zww p.2 y).bind λv=>some (zjv u.1 v.1,(λm=>u.2 m&&v.2 m),p.2)
 |_=>none
def zRz{a b:yF}{φ:FA}{elts:List yF}{x1}{tp p pos:xC}(hm:X.mg "zip"=none)(hv:yQ "zip"=some (.type "zip"))(ha:MAn X [a,b] φ)(hg:Gl X "zip":=by rfl)(hs:yj [a,b] X.env=[(false,Yh a X.env),(false,Yh b X.env)]:=by rfl)(hs2:yj [b] X.env=[(false,Yh b X.env)]:=by rfl) :
 MI X (.Tuple elts x1 tp) (.Call (.Name "zip" p) [a,b] [] pos) (z7z φ) :=
 zmr (zKz hg hm hv ha.ma hs hs2) λρ δ μ σ H ds ok μ' R A e k=>by
  obtain⟨⟨x,μ1⟩,e1,e⟩:=zn e;refine⟨ρ,δ,μ,x,μ1,A,e1,λρ1 H1 v1 x1 R1 r1=>?_⟩;dsimp only at e
  split at e
  ·obtain⟨⟨us,o1⟩,e2,e⟩:=zn e;obtain⟨⟨vs,o2⟩,e3,e⟩:=zn e;cases e;obtain⟨v,r,rfl,q1,q2⟩:=r1.cons_inv;obtain⟨v',r',rfl,q3,q4⟩:=q2.cons_inv;obtain⟨a1,k1,xs,rfl,s1,t1⟩:=z9v R1 q1 e2;obtain⟨a2,k2,ys,rfl,s2,t2⟩:=z9v R1 q3 e3;rw[q4.nil_inv];exact⟨a1,a2,k1,k2,xs,ys,rfl,s1,s2,k ρ1 H1 _ x1 R1 (zcz t1 t2)⟩
  ·cases e
end
section
variable {X:Cx}{a b c e:yF}{φ ψ χ:FE}{pos:xC}
end
section
variable {X:Cx}{e:yF}{te:TE}{φ:FE}{stp:yF}{ts:TO}{pos p2:xC}
end
section
variable {X:Cx}{a b c e:yF}{es:List yF}{φ ψ χ:FE}{pos:xC}
end
end M
namespace M
open PySem PyProof.Rows
section
variable {prog:yB}{w:yL}{A:yR}{E:yb->ye->Prop}{s:ye}
set_option maxHeartbeats 3200000 in
def zXn{l:yd}{its:Array yb}{ns:List Int}{Q:yb->ye->Prop}(hh:A.handled=none)(hl:s.heap.IsTuple l its)(hi:IntsAre its.toList ns)(hb:its.size+1<scanBound)
 (h:∀s',zGm prog w s (uqN (λi=>ns.getD i 0) its.size) s'->Q (.ref s.heap.objs.size) s'):yo (yx prog w) A (call (.type "set") [.ref l]) Q E s:=by
 obtain⟨c,tl,hmro⟩:=PySem.F.called_set.mro;have hmade:=PySem.F.called_set.made;have hsub:=PySem.F.called_set.sub;refine wpAny_call (codeAny_of_tree ?_);show yo _ _ (callAny (.type "set") _) _ _ _;refine yg ⟨Code.quiet_builtin _ (by decide +kernel),xi PySem.F.entry_type_call ?_⟩;rw[Around.under_plain (weight_type_call_type "set" [.ref l] []) rfl];have t1:=PySem.F.called_set.notType;have t2:=PySem.F.called_set.canCreate;have t3:=PySem.F.typeCall_set_1 (.ref l)
 repeat (any_goals (first|assumption|wp_step))
 refine YM (zau (w:=w) (.ref l) (E:=E) (Q:=λob s1=>ob=.ref s.heap.objs.size/\s1 = {s with heap:=s.heap.push (zTb w)}) ⟨rfl,rfl⟩) λr s1 hr=>?_
 cases r with
 |error e=>exact hr
 |ok fl=>
  cases fl with
  |ret ob=>
   obtain⟨rfl,rfl⟩:=hr;have hS:(s.heap.push (zTb w)).get? s.heap.objs.size=some (zTb w):=yn _ rfl;have hT:Shared.TypeIs {s with heap:=s.heap.push (zTb w)} (.ref s.heap.objs.size) "set":=⟨_,hS,rfl⟩
   have i1:=PySem.F.called_set.init.lookup;have i2:=PySem.F.called_set.init.bind (.ref s.heap.objs.size)
   repeat (any_goals (first|assumption|wp_step))
   refine YM (xW (R:=wants (λr s2=>r=.none/\zGm prog w s (uqN (λi=>ns.getD i 0) its.size) s2) E) PySem.F.called_set.init.plain PySem.F.entry_set_init (check_set_init_1 hT ?_)) λr2 s2 hr2=>?_
   ·obtain⟨ol,hol,hcl,nl,hdl⟩:=hl;obtain⟨ocls,odict,odata,oslots⟩:=ol;simp only at hcl hdl;subst hcl;subst hdl;have hlS:l<s.heap.objs.size:=ym hol;have hol1:(s.heap.push (zTb w)).get? l=some {cls:=.type "tuple",dict:=odict,data:=.seq its nl,slots:=oslots }:=yc _ hol;have n1:=PySem.F.sub_tuple_set;have n2:=PySem.F.sub_tuple_frozenset;have n3:(YK "tuple" == YK "dict")=false:=by decide
    have hl1:(s.heap.push (zTb w)).IsTuple l its:=⟨_,hol1,rfl,nl,rfl⟩
    unfold xw.«set.__init__» noKeywords Builtin.Frozenset.updateFrom;generalize hPI:pyIter=PI
    wp_walk
    subst hPI;refine xF hl1 ?_;refine ya (wpAny_runValue ?_);have hz:(s.heap.push (zTb w)).objs.size=s.heap.objs.size+1:=by rw[Yd]
    have hne:l≠(s.heap.push (zTb w)).objs.size:=by rw[hz];exact yt (Ys hlS)
    have hSf:s.heap.objs.size∉[(s.heap.push (zTb w)).objs.size,l]:=by
     rw[hz];simp only[mem_cons,not_mem_nil,or_false,not_or];exact⟨yt (Yu _),yT hlS⟩
    have hval:∀(i:Nat)(v:yb),its[i]?=some v->∃t,v=.int ((λi=>ns.getD i 0) i) t:=λi v hv=>IntsAre.int_at hi i v (by rw[Xs];exact hv);refine zPq (Walks.tuple (by simp[hh]) _ l hne its) s.heap.objs.size hSf (λi=>ns.getD i 0) hval hb (its.size-0) 0 _ (by omega) (YB _) ⟨⟨_,yn _ rfl,rfl,rfl⟩,hl1.push _⟩ ?s0 ?r0
    case s0=>
     exact⟨zTb w,#[],0,_,yc _ hS,⟨rfl,rfl,rfl⟩,rfl,rfl,.fresh _,λe he=>by simp at he,by simp[uqN]⟩
    case r0=>
     intro h' tk hk hS';refine yg ?_;show yo _ _ (ret Yt) _ _ _;refine yg ⟨rfl,hS',λb o e=>?_,h',tk,rfl⟩;have hlt:b<s.heap.objs.size:=ym e;refine hk b o ?_ (yc _ (yc _ e));rw[hz];simp only[mem_cons,not_mem_nil,or_false,not_or];exact⟨yt hlt,yt (Ys hlt)⟩
   ·cases r2 with
    |error e=>exact hr2
    |ok fl2=>
     cases fl2 with
     |ret r=>
      obtain⟨rfl,hm⟩:=hr2
      repeat (any_goals (first|assumption|wp_step))
      exact h _ hm
     |_=>exact hr2.elim
  |_=>exact hr.elim
end
end M
namespace M
open PySem PySem.Spec PyProof.Rows L2
section
variable {X:Cx}{pins:List (yd×YY)}{σ:L2.St}{H:Hp}{s s':ye}
def zAs(hc:X.calm=true):zRj X (.type "set") (λxs H Q=>∃(a:yd)(ns:List Int),xs=[.ref a]/\SqT X.K H a (ns.map V.int)/\ns.length+1<scanBound/\∀p,H p=none->Q (.ref p) (upd H p (zOp X p (uqN (λi=>ns.getD i 0) ns.length)))):=by
 intro pins s σ H xs us Q I r ⟨a,ns,e,hq,hb,k⟩;subst e;obtain⟨u,rfl,rx⟩:=vals1 r;cases rx;obtain⟨its,rv,pl,hz⟩:=I.tuple hq;have hl:its.length=ns.length:=by rw[<-rv.length];simp
 refine zXn (I.ok.hd hc) pl (its:=its.toArray) (ns:=ns) (by simpa using zlf rv) (by simp;omega) λs' ⟨hS,hk,h',tk,e⟩=>?_;subst e;rw[show its.toArray.size=ns.length by simp;exact hl]at hS;refine⟨.ref s.heap.objs.size,_,I.laid (t':=tk) hk (yk _) (show tG X.prog X.w _ h' _ (zOp X _ _) from⟨hS,?_,λh1 h2 x y=>x.at' y⟩),rfl,k _ I.fresh⟩;obtain⟨o,_,_,_,ho,_⟩:=hS;exact⟨o,ho⟩
end
def zDo(φ:FE):FE:=λδ μ=>(φ δ μ).bind λp=>match p.1 with
 |.tup ds=>(zBh ds).bind λns=>bif decide (ns.length<=4000/\(uqL ns).length<64) then some (.loc p.2.length,p.2++[.lst ((zNp ns).map .int)]) else none
 |_=>none
section
variable {X:Cx}{a b c e:yF}{es:List yF}{φ ψ χ:FE}{pos pos2 p1 p2:xC}
def zIv(hm1:X.mg "sorted"=none)(hv1:yQ "sorted"=some (.builtin "sorted"))(hm2:X.mg "set"=none)(hv2:yQ "set"=some (.type "set"))(h:ME X e φ)(hc:X.calm=true:=by rfl)(hg1:Gl X "sorted":=by rfl)(hg2:Gl X "set":=by rfl)
 (he:yj [e] X.env=(false,Yh e X.env)::yj [] X.env:=by rfl) (he2:yj [.Call (.Name "set" p2) [e] [] pos2] X.env=(false,Yh (.Call (.Name "set" p2) [e] [] pos2) X.env)::yj [] X.env:=by rfl) :
 ME X (.Call (.Name "sorted" p1) [.Call (.Name "set" p2) [e] [] pos2] [] pos) (zDo φ) :=
 zjd (zLm (zul hc) hg1 hm1 hv1 (zQc (zxe (zAs hc) hg2 hm2 hv2 (zQc h zmf he) (by decide) (by decide) he rfl) zmf he2) (by decide) (by decide) he2 rfl) λρ δ μ σ H d μ' Q A e k=>by
  obtain⟨⟨x,μ1⟩,e1,e⟩:=zn e;refine⟨ρ,δ,μ,x,μ1,A,e1,λρ1 H1 v x1 R1 r1=>?_⟩;dsimp only at e
  split at e
  ·obtain⟨ns,e2,e⟩:=zn e;obtain⟨hb,e⟩:=zY e;have hb:=of_decide_eq_true hb;cases e;have hm:=zqe e2;subst hm;obtain⟨p,vs,rfl,ep,q⟩:=r1.tR;rw[zJg q]at ep;refine⟨p,ns,rfl,SqT.of ep,by unfold scanBound;omega,λp1 hp1=>?_⟩;refine⟨p1,uqL ns,rfl,zG,hb.2,λp2 ms hp2 hpm hpw=>?_⟩;have hms:ms=zNp ns:=zPc (hpm.trans (mergeSort_perm _ _).symm) hpw (zjh _);subst hms;have R2:=R1.Tp (o:=zOp X p1 (uqL ns)) hp1;exact k _ _ _ (x1.trans ((Ext.new hp1).trans (Ext.push hp2))) (R2.push hp2 ⟨_,zG,zUe⟩) (.loc (zFb R2))
  ·cases e
end
section
variable {prog:yB}{w:yL}{A:yR}{E:yb->ye->Prop}{s:ye}{T:String}{r d:yd}{n:Nat}{P:Nat->yb->Prop}{OK:yV->Prop}
def zdB(s:ye)(P:Nat->yb->Prop)(n:Nat):Result->ye->Prop:=λrr s'=>∃h' tk acc' c',rr=.ok (.ret (.ref s.heap.objs.size))/\s' = {s with heap:=h',toks:=tk }/\(∀b o,s.heap.get? b=some o->h'.get? b=some o)/\h'.get? s.heap.objs.size=some {cls:=.type "list",dict:=none,data:=.seq acc' c',slots:=#[]}/\ItemsOf P acc' n
def zXo{Q:List yb->ye->Prop}(K:W.KdlSrc prog w T r d n P OK)(hh:A.handled=none)(hok:OK s.heap)(hn:n<=yE)
 (h:∀h' tk acc',(∀b o,s.heap.get? b=some o->h'.get? b=some o)->s.heap.objs.size<=h'.objs.size->ItemsOf P acc' n->Q acc'.toList {s with heap:=h',toks:=tk }) :
 yo (yx prog w) A (collect (.ref r)) Q E s:=by
 have hlt:=K.there _ hok;unfold collect;refine ya (wpAny_runValue (xi F.entry_proto_collect ?_));rw[YX F.plain_proto_collect _];show yo _ A.in1 (newList [] >>= λl=>again (.builtin "list.__iadd__" ⟨[l,.ref r],[]⟩)) _ _ s;refine ya (Ye ?_);have hS:(s.heap.push {cls:=.type "list",data:=.seq ([]:List yb).toArray }).get? s.heap.objs.size=some {cls:=.type "list",data:=.seq #[]}:=yn _ rfl;refine yg ⟨Xm F.plain_list_iadd _,YM (xi (R:=zdB s P n) F.entry_list_iadd ?_) λrr s' ⟨h',tk,acc',c',e1,e2,hk,hS',hacc⟩=>?_⟩
 ·rw[YX F.plain_list_iadd _];show yo _ A.in1 (Yz (.ref s.heap.objs.size) (.ref r) (.ref s.heap.objs.size)) _ _ _;exact W.kdl_extend (R:=zdB s P n) (A:=A) (s:={s with heap:=s.heap.push {cls:=.type "list",data:=.seq ([]:List yb).toArray }}) K hh (K.keep _ _ hok λb _ o e=>yc _ e) _ (yT hlt.1) (yT hlt.2) _ _ hS (λh' tk acc' c' hk hS' hacc=>⟨h',tk,acc',c',rfl,rfl,λb o e=>hk b o (yt (ym e)) (yc _ e),hS',hacc⟩) hn
 ·subst e1 e2;dsimp only;refine ya (wpAny_load hS' ?_);exact yg (h h' tk acc' hk (YI (ym hS')) hacc)
def z7r{ks:List Int}{Q:yb->ye->Prop}(K:W.KdlSrc prog w T r d n P OK)(hh:A.handled=none)(hok:OK s.heap)(h64:n<64)(hint:∀acc:Array yb,ItemsOf P acc n->IntsAre acc.toList ks)(h:∀p s',zfw s ks p s'->Q (.ref p) s') :
 yo (yx prog w) A (call (.builtin "sorted") [.ref r]) Q E s:=by
 refine Calls.call_function_entry kind_sorted plain_sorted entry_sorted (args_sorted1 _) ?_;unfold xw.«sorted»;refine ya (m:=checkCount "sorted" 1 1 _) (yg ?_);refine ya (zXo (A:=A.in1) K hh hok (yG (YI h64) (by rw[YA];decide)) λh1 tk acc hk hsz hacc=>?_);have hI:=hint acc hacc
 have hl:acc.toList.length<64:=by
  have:=hacc.1;simp only[Array.length_toList];omega
 refine ya (wpAny_newList ?_ (by rw[YA];omega));have hnew:(h1.push (seqObj "list" acc.toList.toArray 0)).get? h1.objs.size=some (seqObj "list" acc.toList.toArray 0):=yn _ rfl;refine ya (yY (yW slot_list_sort ⟨_,hnew,rfl⟩ entry_list_sort (list_sort_tree hnew hI (by simp at hl ⊢;omega) λout ns q1 q2 q3=>⟨_,rfl,?_⟩) (args_list_sort _)));obtain⟨e,he⟩:=sortedHeap_at (out:=out) hnew;refine yg ⟨_,rfl,h _ _ ⟨out,ns,e,he,q1,q2,q3,hsz,λb ob eb=>?_,rfl,rfl⟩⟩;have hb1:=hk _ _ eb;have hlt1:b<h1.objs.size:=ym hb1;show(sortedHeap (h1.push (seqObj "list" acc.toList.toArray 0)) h1.objs.size acc.toList out).get? b=some ob;rw[sortedHeap_old (yt hlt1) (by rw[size_push'];exact Ys hlt1)];exact yc _ hb1
end
section
variable {X:Cx}
def zTq:GL:=λds μ=>match ds with
 |[x]=>(zxc μ x).bind λkvs=>bif decide (kvs.length<64) then some (.loc μ.length,μ++[.lst ((z7k (kvs.map (·.1))).map .int)]) else none
 |_=>none
def zbp(hc:X.calm=true):Ti X (.builtin "sorted") zTq:=by
 refine Ti.of λpins s σ H xs us Q I r ρ ds μ d μ' r1 R e k=>?_;unfold zTq at e
 split at e
 ·obtain⟨kvs,e1,e⟩:=zn e;obtain⟨h64,e⟩:=zY e;have h64:=of_decide_eq_true h64;cases e;obtain⟨v,rr,rfl,q1,q2⟩:=r1.cons_inv;rw[q2.nil_inv]at r;obtain⟨p,vs,rfl,hq,w1,w2⟩:=zvf R q1 e1;obtain⟨u,rfl,ru⟩:=vals1 r;cases ru;obtain⟨hz,hd,_⟩:=zCh I.hok hq;obtain⟨us',ep,rel,da⟩:=zuu I.hok hq;have hl:=rel.length
  have hkv:(vs.map λp=>kV p.1)=((kvs.map (·.1)).map V.int):=by
   have:(vs.map (·.1)).map kV=(kvs.map λp=>(yP p.1:Key)).map kV:=by rw[w1]
   rw[map_map,map_map]at this;rw[map_map];exact this
  have hlk:kvs.length=vs.length:=by
   have:=congrArg List.length w1;simpa using this.symm
  refine z7r (ks:=kvs.map (·.1)) (W.kdl_dict hd) (I.ok.hd hc) da (by omega) (λacc hi=>?_) λq s' ⟨out,ns,e',h1,h2,h3,h4,h5,h6,h7,h8⟩=>?_
  ·obtain⟨hi1,hi2⟩:=hi;have hv:=z0j (P:=X.prog) (w:=X.w) (its:=acc.toList) rel (by simpa using hi1) λj v e=>hi2 j v (by simpa using e);rw[hkv]at hv;exact zlf hv
  ·have hms:ns=z7k (kvs.map (·.1)):=zPc (h3.trans (mergeSort_perm _ _).symm) h4 (zjh _);subst hms;have hlen:(z7k (kvs.map (·.1))).length=(kvs.map (·.1)).length:=h3.length_eq;rw[length_map]at hlen;have hf:=I.hok.fresh h5;refine⟨.ref q,_,zfq I h7 h8 h6 h5 (show tG X.prog X.w _ s'.heap _ (.lst ((z7k (kvs.map (·.1))).map V.int)) from⟨by simp;rw[YA];omega,out.toList,e',zQe h2,by simpa using h1⟩),rfl,k _ _ _ (Ext.push hf) (R.push hf ⟨_,zG,zUe⟩) (.loc (zFb R))⟩
 ·cases e
end
def zZr(K:yw)(c f:yy):Prop:=∀C,Yq K yp c=some (some (.ref C))->Cls K C/\sr K C f
def zcq{K:yw}{ρ:List yd}{H:Hp}{f:yy}{d:D}:∀{fs:List (yy×D)} {vs:List (yy×V)},vs.map (·.1)=fs.map (·.1)->tj K ρ H (fs.map (·.2)) (vs.map (·.2))->fs.lookup f=some d->∃v,vs.lookup f=some v/\tx K ρ H d v
 |[],_,_,_,e=>by cases e
 |(g,x)::fs,[],h,_,_=>by cases h
 |(g,x)::fs,(g',y)::vs,h,r,e=>by
  obtain⟨h1,h2⟩:=yf h;have h1:g'=g:=h1;subst h1;obtain⟨v,q,e1,r1,r2⟩:=r.cons_inv;obtain⟨e2,e3⟩:=yf e1;subst e2 e3;rw[lookup_cons]at e ⊢
  cases hb:f==g' with
  |true=>rw[hb]at e;cases e;exact⟨_,rfl,r1⟩
  |false=>rw[hb]at e;exact zcq h2 r2 e
def zdq{f:yy}:∀{fs:List (yy×D)} {vs:List (yy×V)},vs.map (·.1)=fs.map (·.1)->fs.lookup f=none->vs.lookup f=none
 |[],[],_,_=>rfl
 |[],_::_,h,_=>by cases h
 |_::_,[],h,_=>by cases h
 |(g,x)::fs,(g',y)::vs,h,e=>by
  obtain⟨h1,h2⟩:=yf h;have h1:g'=g:=h1;subst h1;rw[lookup_cons]at e ⊢
  cases hb:f==g' with
  |true=>rw[hb]at e;cases e
  |false=>rw[hb]at e;exact zdq h2 e
def zNi(f:yy)(d:D):List (yy×D)->List (yy×D)
 |[]=>[(f,d)]
 |(g,x)::r=>if g=f then(g,d)::r else(g,x)::zNi f d r
def zct{K:yw}{ρ:List yd}{H:Hp}{f:yy}{d:D}{v:V}(rd:tx K ρ H d v):∀{fs:List (yy×D)} {vs:List (yy×V)},vs.map (·.1)=fs.map (·.1)->tj K ρ H (fs.map (·.2)) (vs.map (·.2)) ->
 (zYk f v vs).map (·.1)=(zNi f d fs).map (·.1)/\tj K ρ H ((zNi f d fs).map (·.2)) ((zYk f v vs).map (·.2))
 |[],[],_,_=>⟨rfl,.cons rd .nil⟩
 |[],_::_,h,_=>by cases h
 |_::_,[],h,_=>by cases h
 |(g,x)::fs,(g',y)::vs,h,r=>by
  obtain⟨h1,h2⟩:=yf h;have h1:g'=g:=h1;subst h1;obtain⟨v',q,e1,r1,r2⟩:=r.cons_inv;obtain⟨e2,e3⟩:=yf e1;subst e2 e3;unfold zYk zNi
  by_cases hg:g'=f
  ·rw[if_pos hg,if_pos hg];exact⟨h,.cons rd r2⟩
  ·rw[if_neg hg,if_neg hg];obtain⟨k1,k2⟩:=zct rd h2 r2;exact⟨by show g'::_=g'::_;rw[k1],.cons r1 k2⟩
section
variable {X:Cx}{a o e:yF}{es:List yF}{φ:FE}{ψ:FA}{pos apos:xC}{c f m:yy}
@[simp] def zas(c f:yy)(φ:FE):FE:=λδ μ=>(φ δ μ).bind λp=>match p.1 with
 |.loc n=>match p.2[n]? with
  |some (.ins c' fs)=>bif c'==c then(fs.lookup f).bind λd=>some (d,p.2) else none
  |_=>none
 |_=>none
def zei(T:zZr X.K c f)(h:ME X a φ)(hb:YL a f X.env (Yh a X.env)=Yh a X.env:=by rfl):ME X (.Attribute a f pos) (zas c f φ) :=
 zjd (zhz h hb) λρ δ μ σ H d μ' Q A e k=>by
  obtain⟨⟨x,μ1⟩,e1,e⟩:=zn e;refine⟨ρ,δ,μ,x,μ1,A,e1,λρ1 H1 v x1 R1 r1=>?_⟩;dsimp only at e
  split at e
  ·split at e
   ·rename_i hm
    obtain⟨hc,e3⟩:=zY e;clear e;have hc:=eq_of_beq hc;subst hc;obtain⟨d',e2,e4⟩:=zn e3;cases e4;obtain⟨a,rfl,ea⟩:=r1.tz;obtain⟨C,dx,vs,hn,hH,hk,hv⟩:=R1.at_ _ _ _ ea hm;obtain⟨cl,na⟩:=T C hn;obtain⟨v,hl,rv⟩:=zcq hk hv e2;exact⟨a,C,dx,vs,v,rfl,hH,cl,na,hl,k ρ1 H1 v x1 R1 rv⟩
   ·cases e
  ·cases e
@[simp] def zds(c f:yy)(φ ψ:FE):FS:=λδ μ=>(ψ δ μ).bind λy=>(φ δ y.2).bind λp=>match p.1 with
 |.loc n=>match p.2[n]? with
  |some (.ins c' fs)=>bif (c'==c)&&decide (fs.length<1000) then some (.next δ (p.2.set n (.ins c (zNi f y.1 fs)))) else none
  |_=>none
 |_=>none
def zCs{value:yF}{χ:FE}{pos':xC}(T:zZr X.K c f)(ha:ME X o φ)(hv:ME X value χ)(hs:Xl value (some (.Attribute o f pos')) pos.line X.env=pure false:=by rfl):MS X (.Assign [.Attribute o f pos'] value pos) (zds c f φ χ) :=
 zkk (zVz ha hv hs) λρ δ μ σ H o E A e k=>by
  obtain⟨⟨y,μ1⟩,e1,e⟩:=zn e;refine⟨ρ,δ,μ,y,μ1,A,e1,λρ1 H1 vy x1 R1 r1=>?_⟩;obtain⟨⟨x,μ2⟩,e2,e⟩:=zn e;refine⟨ρ1,δ,μ1,x,μ2,A.ext x1 R1,e2,λρ2 H2 v x2 R2 r2=>?_⟩;dsimp only at e
  split at e
  ·split at e
   ·rename_i n c' fs hm
    obtain⟨hc,e3⟩:=zY e;clear e;rw[yO]at hc;have hl:=of_decide_eq_true hc.2;have hc:=eq_of_beq hc.1;subst hc;cases e3;obtain⟨a,rfl,ea⟩:=r2.tz;obtain⟨C,dx,vs,hn,hH,hk,hvs⟩:=R2.at_ _ _ _ ea hm;obtain⟨cl,na⟩:=T C hn
    have hlen:vs.length<1000:=by
     have:=congrArg List.length hk;rw[length_map,length_map]at this;omega
    refine⟨a,C,dx,vs,rfl,hH,cl,na,hlen,?_⟩;have hmu:Mut (H2 a):=by rw[hH];trivial
    obtain⟨k1,k2⟩:=zct (f:=f) (r1.ext (x2.trans (Ext.wr (o:=.ins C dx (zYk f vy vs)) hmu))) hk (hvs.ext (Ext.wr (o:=.ins C dx (zYk f vy vs)) hmu));have R3:=R2.wr (lo:=.ins c' (zNi f y fs)) hmu ea ⟨C,dx,zYk f vy vs,hn,zG,k1,k2⟩;exact k ρ2 σ _ (x1.trans (x2.trans (Ext.wr hmu))) ((A.ext x1 R1).ext (x2.trans (Ext.wr hmu)) R3)
   ·cases e
  ·cases e
@[simp] def z6b(c m:yy)(φ:FE)(ψ:FA):FA:=λδ μ=>(φ δ μ).bind λp=>match p.1 with
 |.loc n=>match p.2[n]? with
  |some (.ins c' fs)=>bif (c'==c)&&(fs.lookup m).isNone then(ψ δ p.2).bind λq=>some (.loc n::q.1,q.2) else none
  |_=>none
 |_=>none
def zYp{δ:Loc}{μ μ':Mem}{ds:List D}(h:z6b c m φ ψ δ μ=some (ds,μ')):∃n fs μ1 as,φ δ μ=some (.loc n,μ1)/\μ1[n]?=some (.ins c fs)/\fs.lookup m=none/\ψ δ μ1=some (as,μ')/\ds=.loc n::as:=by
 obtain⟨⟨x,μ1⟩,e1,h⟩:=zn h;dsimp only at h
 split at h
 ·split at h
  ·rename_i n c' fs hm
   obtain⟨hc,h3⟩:=zY h;clear h;rw[yO]at hc;have h1:=eq_of_beq hc.1;have h2:=Option.isNone_iff_eq_none.mp hc.2;subst h1;obtain⟨⟨as,μ2⟩,e2,h4⟩:=zn h3;cases h4;exact⟨_,fs,μ1,as,e1,hm,h2,e2,rfl⟩
  ·cases h
 ·cases h
structure MethAt(K:yw)(c m qual:yy)(st:Yi)(ps:List yy)(C f:yd)(fd:yi):Prop where
 nm:Yq K yp c=some (some (.ref C))
 cl:Cls K C
 me:Meth K C m f
 fn:Fun K m qual st f fd
 bd:Binds K fd ps []
variable {C g:yd}{fd:yi}{ps:List yy}{qual:yy}{st:Yi}{CX:CXT}{sp:Sp}{E:XK}{j k n:Nat}{F:FF}{FXm:FX}
def zOt{t:TA}{ρ:List yd}{δ:Loc}{μ:Mem}{σ:L2.St}{H:Hp}{Q:VK}{ds:List D}{μ1:Mem}(B:MethAt X.K c m qual st ps C g fd)(A:At X.K ρ H σ δ μ)(e1:z6b c m φ ψ δ μ=some (ds,μ1))(ht:∀σ H R,tMA X.K ψ σ H R->t σ H R)
 (kk:∀ρ' H' vs,Ext ρ H ρ' H'->tI X.K ρ' H' μ1->tj X.K ρ' H' ds vs->sp (vs++[]) H' Q E):zlx C m sp [] E (tM X.K φ) t σ H Q:=by
 obtain⟨n,fs,μo,as,ea,hm,hlk,eψ,rfl⟩:=zYp e1;refine⟨ρ,δ,μ,.loc n,μo,A,ea,λρ1 H1 v x1 R1 r1=>?_⟩;obtain⟨a,rfl,ea'⟩:=r1.tz;obtain⟨C',dx,vs,hn',hH,hk,hv⟩:=R1.at_ _ _ _ ea' hm;have hC:=B.nm;rw[hn']at hC;cases hC;refine⟨a,dx,vs,rfl,hH,zdq hk hlk,ht _ _ _ ⟨ρ1,δ,μo,as,μ1,A.ext x1 R1,eψ,λρ2 H2 vs2 x2 R2 r2=>?_⟩⟩;exact kk ρ2 H2 (.ref a::vs2) (x1.trans x2) R2 (.cons (r1.ext x2) r2)
def zet{pl:Sem Bool}(B:MethAt X.K c m qual st ps C g fd)(G:tq X.prog X.w X.K X.mg X.base CX j g fd ps sp)(hr:tS k X.A)(hx:zZg CX X E)(ho:ME X o φ)(ha:MAn X (e::es) ψ)(hj:j<=k)
 (hst:yj (e::es) X.env=(false,Yh e X.env)::yj es X.env:=by exact z6c rfl) (hpl:(Yo pos (yj es X.env)).any (·.1)=false:=by rfl)
 (ht:Yh (.Call (.Attribute o m apos) (e::es) [] pos) X.env=(do
  let ov <-Yh o X.env
  standAt apos.atName
  let (f,first) <-xT [ov] (getMethod ov m pl)
  callWith pos f first (Yo pos (yj (e::es) X.env)) (xV pos (YS [] X.env))):=by rfl) :
 PE X (.Call (.Attribute o m apos) (e::es) [] pos) (z1r sp [] E (tMA X.K (z6b c m φ ψ))):=by
 intro pins s σ H Q I h;obtain⟨ρ,δ,μ,ds,μ1,A,e1,kk⟩:=h;exact zrx ho B.cl B.me G (hr.mono hj) B.bd .nil hx ha.ma hst hpl ht pins s σ H Q I (zOt B A e1 (λ_ _ _ h=>h) kk)
def zxv{pl:Sem Bool}(B:MethAt X.K c m qual st ps C g fd)(G:tq X.prog X.w X.K X.mg X.base CX j g fd ps sp)(hr:tS k X.A)(hx:zZg CX X E)(ho:ME X o φ)(hj:j<=k)
 (ht:Yh (.Call (.Attribute o m apos) [] [] pos) X.env=(do
  let ov <-Yh o X.env
  standAt apos.atName
  let (f,first) <-xT [ov] (getMethod ov m pl)
  callWith pos f first (Yo pos (yj [] X.env)) (xV pos (YS [] X.env))):=by rfl) :
 PE X (.Call (.Attribute o m apos) [] [] pos) (z1r sp [] E (tMA X.K (z6b c m φ zO))):=by
 intro pins s σ H Q I h;obtain⟨ρ,δ,μ,ds,μ1,A,e1,kk⟩:=h
 exact zUu ho B.cl B.me G (hr.mono hj) B.bd .nil hx ht pins s σ H Q I (zOt B A e1 (λσ H R h=>by
  obtain⟨ρ,δ,μ,ds,μ',A,e,k⟩:=h;cases e;exact k ρ H [] Ext.refl A.hp .nil) kk)
def zEj{δ:Loc}{μ μ':Mem}{ds:List D}(ha:∀δ μ ds μ',ψ δ μ=some (ds,μ')->ds.length+1=n)(h:z6b c m φ ψ δ μ=some (ds,μ')):ds.length=n:=by
 obtain⟨_,_,_,as,_,_,_,e,rfl⟩:=zYp h;exact ha _ _ _ _ e
def zuw(h:PE X a (z1r (spM X.K n F) [] E0 (tMA X.K ψ)))(hl:∀δ μ ds μ',ψ δ μ=some (ds,μ')->ds.length=n):ME X a (zH F ψ) :=
 zjd h λρ δ μ σ H d μ' Q A eo kk=>by
  obtain⟨⟨ds,μ1⟩,e1,eo⟩:=zn eo;refine⟨ρ,δ,μ,ds,μ1,A,e1,λρ1 H1 vs x1 R1 r1=>?_⟩;show spM X.K n F (vs++[]) H1 Q E0;rw[append_nil];exact⟨by rw[<-r1.length];exact hl _ _ _ _ e1,ρ1,ds,μ1,d,μ',r1,R1,eo,λρ2 H2 v x2 R2 r2=>kk ρ2 H2 v (x1.trans x2) R2 r2⟩
def zCz(h:PE X a (z1r (spX X.K n FXm) [] E0 (tMA X.K ψ)))(hl:∀δ μ ds μ',ψ δ μ=some (ds,μ')->ds.length=n):ME X a (z0i FXm ψ) :=
 zjd h λρ δ μ σ H d μ' Q A eo kk=>by
  obtain⟨⟨ds,μ1⟩,e1,eo⟩:=zn eo;refine⟨ρ,δ,μ,ds,μ1,A,e1,λρ1 H1 vs x1 R1 r1=>?_⟩;show spX X.K n FXm (vs++[]) H1 Q E0;rw[append_nil];exact⟨by rw[<-r1.length];exact hl _ _ _ _ e1,ρ1,ds,μ1,.ok d μ',r1,R1,z5q eo,λρ2 H2 v x2 R2 r2=>kk ρ2 H2 v (x1.trans x2) R2 r2⟩
abbrev z0n(X:Cx)(o:yF)(m:yy)(es:List yF)(apos pos:xC)(pl:Sem Bool):Prop:=Yh (.Call (.Attribute o m apos) es [] pos) X.env=(do
 let ov <-Yh o X.env
 standAt apos.atName
 let (f,first) <-xT [ov] (getMethod ov m pl)
 callWith pos f first (Yo pos (yj es X.env)) (xV pos (YS [] X.env)))
def SI{pl:Sem Bool}(B:MethAt X.K c m qual st ps C g fd)(G:tq X.prog X.w X.K X.mg X.base CX0 j g fd ps (spM X.K n F))(hr:tS k X.A)(ho:ME X o φ)(ha:MAn X (e::es) ψ)(hj:j<=k:=by decide)(hn:(e::es).length+1=n:=by rfl)
 (hst:yj (e::es) X.env=(false,Yh e X.env)::yj es X.env:=by exact z6c rfl) (hpl:(Yo pos (yj es X.env)).any (·.1)=false:=by rfl) (ht:z0n X o m (e::es) apos pos pl:=by rfl) :
 ME X (.Call (.Attribute o m apos) (e::es) [] pos) (zH F (z6b c m φ ψ)) :=
 zuw (zet B G hr SE ho ha hj hst hpl ht) λ_ _ _ _ h=>zEj (λ_ _ _ _ h=>by rw[ha.len _ _ _ _ h];exact hn) h
def Ta{pl:Sem Bool}(B:MethAt X.K c m qual st ps C g fd)(G:tq X.prog X.w X.K X.mg X.base CX0 j g fd ps (spM X.K 1 F))(hr:tS k X.A)(ho:ME X o φ)(hj:j<=k:=by decide)(ht:z0n X o m [] apos pos pl:=by rfl) :
 ME X (.Call (.Attribute o m apos) [] [] pos) (zH F (z6b c m φ zO)) :=
 zuw (zxv B G hr SE ho hj ht) λ_ _ _ _ h=>zEj (λ_ _ _ _ h=>by cases h;rfl) h
def Sx{pl:Sem Bool}(B:MethAt X.K c m qual st ps C g fd)(G:tq X.prog X.w X.K X.mg X.base (CXq X.prog X.w) j g fd ps (spX X.K n FXm))(hr:tS k X.A)(ho:ME X o φ)(ha:MAn X (e::es) ψ)(hj:j<=k:=by decide)(hn:(e::es).length+1=n:=by rfl)
 (hst:yj (e::es) X.env=(false,Yh e X.env)::yj es X.env:=by exact z6c rfl) (hpl:(Yo pos (yj es X.env)).any (·.1)=false:=by rfl) (ht:z0n X o m (e::es) apos pos pl:=by rfl) :
 ME X (.Call (.Attribute o m apos) (e::es) [] pos) (z0i FXm (z6b c m φ ψ)) :=
 zCz (zet B G hr passF ho ha hj hst hpl ht) λ_ _ _ _ h=>zEj (λ_ _ _ _ h=>by rw[ha.len _ _ _ _ h];exact hn) h
def zJA{pl:Sem Bool}(B:MethAt X.K c m qual st ps C g fd)(G:tq X.prog X.w X.K X.mg X.base (CXq X.prog X.w) j g fd ps (spX X.K n FXm))(hr:tS k X.A)(ho:ME X.nox o φ)(ha:MAn X.nox (e::es) ψ)(hj:j<=k)
 (hst:yj (e::es) X.env=(false,Yh e X.env)::yj es X.env) (hpl:(Yo pos (yj es X.env)).any (·.1)=false) (ht:z0n X o m (e::es) apos pos pl)
 {pins:List (yd×YY)} {s:ye} {σ:L2.St} {H:Hp} {Q:VK} {W:XK} (I:Inv X pins σ H s) (h:tCX X.K W n FXm (z6b c m φ ψ) σ H Q):yo (yx X.prog X.w) X.A (Yh (.Call (.Attribute o m apos) (e::es) [] pos) X.env) (EP X pins σ Q) (XP X pins σ W) s:=by
 obtain⟨ρ,δ,μ,ds,μ1,A,e1,kk⟩:=h;refine PySem.W.methodCall_KW (pl:=pl) (Yb (ho pins s σ H _ (I.sI _) (zOt (sp:=spX X.K n FXm) (E:=W) (Q:=Q) (t:=tMA X.K ψ) B A e1 (λ_ _ _ h=>h) kk)) (λu s1 h1=>?_) λ_ _ z=>z.elim) ht;obtain⟨x,H1,I1,rx,a,dx,fs,ex,ea,l,q⟩:=h1;have I1:=I1.Tw;subst ex;obtain rfl:u=yM a:=rx;refine zAi I1 ea B.cl B.me l ?_;refine PySem.W.callWith_K (first:=[.ref a]) (h₀:=X.base) I.ok.mod.kin B.me.kp (Yb (ha.ma pos pins s1 σ H1 _ (I1.sI _) q) (λus s2 h2=>?_) λ_ _ z=>z.elim) hst hpl;obtain⟨vs,H2,I2,r,q2⟩:=h2;have I2:=I2.Tw;refine⟨I2.kIn,?_⟩;have r2:Vals (.ref a::(vs++[])) (yM a::us++[]) :=.cons rfl (r.append .nil);have hl:(yM a::us++[]).length=ps.length:=by rw[<-r2.length];exact G.len _ _ _ _ q2
 refine wpAny_call (YM (G.run X.A X.stack s2 H2 ⟨.ref a::us,[]⟩ (.ref a::us++[]) (.ref a::(vs++[])) Q W (hr.mono hj) I2.env0 (B.bd s2 (.ref a::us) I2.kIn hl) r2 q2) λrr s' hq=>?_)
 cases rr with
 |error ex=>
  obtain⟨C,dx,H',Fl,hw⟩:=hq;exact⟨H2,s2,C,dx,H',I2,Fl,hw⟩
 |ok fl=>
  cases fl with
  |ret u=>exact I2.after hq
  |next=>exact YE hq
  |brk=>exact YE hq
  |cont=>exact YE hq
def z8p{pl:Sem Bool}{spos:xC}(B:MethAt X.K c m qual st ps C g fd)(G:tq X.prog X.w X.K X.mg X.base (CXq X.prog X.w) j g fd ps (spX X.K n FXm))(hr:tS k X.A)(ho:ME X.nox o φ)(ha:MAn X.nox (e::es) ψ)(hj:j<=k:=by decide)(hn:(e::es).length+1=n:=by rfl)
 (hst:yj (e::es) X.env=(false,Yh e X.env)::yj es X.env:=by exact z6c rfl) (hpl:(Yo pos (yj es X.env)).any (·.1)=false:=by rfl) (ht:z0n X o m (e::es) apos pos pl:=by rfl)
 (hs:Xl (.Call (.Attribute o m apos) (e::es) [] pos) none spos.line X.env=pure false:=by rfl):PX1 X (.Expr (.Call (.Attribute o m apos) (e::es) [] pos) spos) (zSq FXm (z6b c m φ ψ)):=by
 intro pins s σ H D W I ⟨ρ,δ,μ,o,A,eo,kk⟩;obtain⟨ds,μ1,r,e1,e2,rfl⟩:=zNu eo;refine wpAny_Expr_any (thn (zJA B G hr ho ha hj hst hpl ht I (Q:=λ_ H'=>D.nx σ H') (zTz A e1 (zEj (λ_ _ _ _ h=>by rw[ha.len _ _ _ _ h];exact hn) e1) e2 ?_)) λv s1 ⟨y,H1,I1,r1,q1⟩=>⟨σ,H1,I1,q1⟩) I.quiet hs
 cases r with
 |ok d μ'=>exact λρ' H' v x' R r=>kk ρ' σ H' x' (A.ext x' R)
 |exc c fs μ'=>exact kk
@[simp] def zDr(c:yy)(F:FF)(ψ:FA):FE:=λδ μ=>(ψ δ μ).bind λq=>(F (.loc q.2.length::q.1) (q.2++[.ins c []])).bind λr=>match r.1 with
 |.non=>some (.loc q.2.length,r.2)
 |_=>none
def mmake{p:xC}(mk:Mk X.K C g)(hc:Yq X.K yp c=some (some (.ref C)))(hm:X.mg c=some (.ref C))(bd:Binds X.K fd ps [])(G:tq X.prog X.w X.K X.mg X.base CX0 j g fd ps (spM X.K n F))(hr:tS k X.A)(ha:MAn X (e::es) ψ)
 (hj:j+1<=k:=by decide) (hn:(e::es).length+1=n:=by rfl) (hg:Gl X c:=by rfl) (hdb:(c==("__debug__":yy))=false:=by decide) (he:yj (e::es) X.env=(false,Yh e X.env)::yj es X.env:=by exact z6c rfl) (hpl:(Yo pos (yj es X.env)).any (·.1)=false:=by rfl) :
 ME X (.Call (.Name c p) (e::es) [] pos) (zDr c F ψ) :=
 zjd (zCw mk G (hr.mono hj) hg hm bd .nil SE ha.ma hdb he hpl) λρ δ μ σ H d μ' Q A eo kk=>by
  obtain⟨⟨ds,μ1⟩,e1,eo⟩:=zn eo;refine⟨ρ,δ,μ,ds,μ1,A,e1,λρ1 H1 vs x1 R1 r1 x dx nx ndx nex=>?_⟩;obtain⟨⟨r,μ2⟩,e2,eo⟩:=zn eo;dsimp only at eo
  split at eo
  ·cases eo;have nx2:(upd H1 dx (.own x)) x=none:=by rw[zN (yH nex)];exact nx
   have R2:tI X.K ρ1 (upd H1 dx (.own x)) μ1:=R1.Tp ndx;have R3:=R2.push (lo:=.ins c []) nx2 ⟨C,dx,[],hc,zG,rfl,.nil⟩;have X3:=(Ext.new (ρ:=ρ1) (o:=.own x) ndx).trans (Ext.push (o:=.ins C dx []) nx2);rw[append_nil];refine⟨by rw[length_cons,<-r1.length,ha.len _ _ _ _ e1];exact hn,ρ1++[x],.loc μ1.length::ds,μ1++[.ins c []],.non,_,.cons (.loc (zFb R2)) (r1.ext X3),R3,e2,λρ4 H4 v x4 R4 r4=>⟨r4.tJ,kk ρ4 H4 (.ref x) (x1.trans (X3.trans x4)) R4 (.loc (x4.get (zFb R2)))⟩⟩
  ·cases eo
end
section
variable {X:Cx}{e:yF}{es:List yF}{φ:FE}{pos:xC}
@[simp] def zik(g:GM)(φ:FE)(ψ:FA):FE:=λδ μ=>(φ δ μ).bind λp=>match p.1 with
 |.loc n=>match p.2[n]? with
  |some (.dct _)=>(ψ δ p.2).bind λq=>g (.loc n) q.1 q.2
  |_=>none
 |_=>none
def zUq{o:yF}{ψ:FA}{name:yy}{id:String}{g:GM}{apos:xC}(slot:Slot "dict" name id)(hty:typeOf (.builtin id)=pure (.type "method_descriptor"))(hm:MtG X id g)(ho:ME X o φ)(ha:MAn X (e::es) ψ)
 (hbase:YL o name X.env (Yh o X.env)=Yh o X.env:=by rfl)
 (hfew:((Yo pos (yj (e::es) X.env)).all (λx=>!x.1)&&(xV pos (YS [] X.env)).all (λx=>x.1.isSome)
  && decide ((e::es).length+([]:List xN).length+(if([]:List xN).isEmpty then 0 else 1)<30))=true:=by rfl)
 (hline:(apos.endLine==pos.line)=true:=by rfl) (hs:yj (e::es) X.env=(false,Yh e X.env)::yj es X.env:=by rfl) (hplain:(Yo pos (yj es X.env)).any (·.1)=false:=by rfl) :
 ME X (.Call (.Attribute o name apos) (e::es) [] pos) (zik g φ ψ) :=
 zjd (zwz PySem.F.plainAttrs_dict slot hty hm ho ha.ma hbase hfew hline hs hplain) λρ δ μ σ H d μ' Q A e k=>by
  obtain⟨⟨x,μ1⟩,e1,e⟩:=zn e;refine⟨ρ,δ,μ,x,μ1,A,e1,λρ1 H1 v x1 R1 r1=>?_⟩;dsimp only at e
  split at e
  ·split at e
   ·rename_i hm'
    obtain⟨⟨ds,μ2⟩,e2,e⟩:=zn e;obtain⟨a,rfl,ea⟩:=r1.tz;obtain⟨vs,e3,q3⟩:=R1.at_ _ _ _ ea hm';refine⟨.inr (.inr (.inl ⟨rfl,.inl ⟨vs,e3⟩⟩)),ρ1,δ,μ1,ds,μ2,A.ext x1 R1,e2,λρ2 H2 vs2 x2 R2 r2=>?_⟩;exact⟨ρ2,_,ds,μ2,d,μ',r1.ext x2,r2,R2,e,λρ3 H3 v3 x3 R3 r3=>k ρ3 H3 v3 (x1.trans (x2.trans x3)) R3 r3⟩
   ·cases e
  ·cases e
@[simp] def zhs:GM:=λx ds μ=>match ds with
 |[.int i]=>(zxc μ x).bind λkvs=>some ((z3c kvs i).getD .non,μ)
 |_=>none
def zOv:MtG X "dict.get" zhs:=by
 refine MtG.of λpins s σ H x xs v us Q I rx rs ρ dx ds μ d μ' r1 r2 R e k=>?_;unfold zhs at e
 split at e
 ·rename_i i
  obtain⟨kvs,e1,e⟩:=zn e;cases e;obtain⟨p,vs,rfl,hq,q1,q2⟩:=zvf R r1 e1;obtain⟨w,r,rfl,q3,q4⟩:=r2.cons_inv;rw[q4.nil_inv,q3.int_inv]at rs;obtain⟨u,rfl,ru⟩:=vals1 rs;cases rx;obtain⟨z,hd,us,rel,dd⟩:=zCh I.hok hq;refine call_meetsIn PySem.F.slot_dict_get dd.typeIs PySem.F.entry_dict_get (PySem.F.args_dict_get_2 _ _) (meets_dict_get (z5b X.prog X.w) p (z4r (k:=yP i) ru) hd) ⟨_,dd.mapOf,?_⟩;have rv:=rel.val (yP i)
  cases e3:z3c kvs i with
  |none=>
   rw[(zwg i q1 q2).2 e3]at rv;rw[TM.none_of rv];exact⟨.non,H,I.tok _,rfl,by have:=k ρ H .non Ext.refl R;rw[e3]at this;exact this .non⟩
  |some d'=>
   obtain⟨v',ev,r'⟩:=(zwg i q1 q2).1 d' e3;rw[ev]at rv;obtain⟨u',eu,ru'⟩:=TM.some_of rv;rw[eu];exact⟨v',H,I.tok _,ru',by have:=k ρ H v' Ext.refl R;rw[e3]at this;exact this r'⟩
 ·cases e
def z7x{o:yF}{ψ:FA}{apos:xC}(ho:ME X o φ)(ha:MAn X (e::es) ψ)
 (hbase:YL o "get" X.env (Yh o X.env)=Yh o X.env:=by rfl)
 (hfew:((Yo pos (yj (e::es) X.env)).all (λx=>!x.1)&&(xV pos (YS [] X.env)).all (λx=>x.1.isSome)
  && decide ((e::es).length+([]:List xN).length+(if([]:List xN).isEmpty then 0 else 1)<30))=true:=by rfl)
 (hline:(apos.endLine==pos.line)=true:=by rfl) (hs:yj (e::es) X.env=(false,Yh e X.env)::yj es X.env:=by rfl) (hplain:(Yo pos (yj es X.env)).any (·.1)=false:=by rfl) :
 ME X (.Call (.Attribute o "get" apos) (e::es) [] pos) (zik zhs φ ψ):=zUq PySem.F.slot_dict_get PySem.F.type_dict_get zOv ho ha hbase hfew hline hs hplain
def zWu(vs:List (Key×V))(k:Key):List (Key×V):=vs.filter λp=>decide (p.1≠k)
def zSx(kvs:List (Int×D))(i:Int):List (Int×D):=kvs.filter λp=>decide (p.1≠i)
def zSy{vs:List (Key×V)}{us:List (Key×yb)}(r:KV vs us)(k:Key):KV (zWu vs k) (without us k):=by
 unfold KV at r ⊢
 induction r with
 |nil=>exact .nil
 |@cons p q ps qs h t ih=>
  unfold zWu without at ih ⊢;rw[filter_cons,filter_cons,h.1]
  split
  ·exact .cons h ih
  ·exact ih
def zEs{K:yw}{ρ:List yd}{H:Hp}:∀{kvs:List (Int×D)} {vs:List (Key×V)} (i:Int),vs.map (·.1)=kvs.map (λp=>yP p.1)->tj K ρ H (kvs.map (·.2)) (vs.map (·.2)) ->
 (zWu vs (yP i)).map (·.1)=(zSx kvs i).map (λp=>yP p.1)/\tj K ρ H ((zSx kvs i).map (·.2)) ((zWu vs (yP i)).map (·.2))
 |[],vs,i,h1,h2=>by
  have:vs=[]:=by simpa using h1
  subst this;exact⟨rfl,.nil⟩
 |(j,d)::kvs,[],i,h1,h2=>by simp at h1
 |(j,d)::kvs,(k,u)::vs,i,h1,h2=>by
  rw[map_cons,map_cons,xj]at h1;obtain⟨hk,h1⟩:=h1;have hk:k=yP j:=hk;subst hk;obtain⟨v',r',e',q1,q2⟩:=h2.cons_inv;rw[map_cons,xj]at e';obtain⟨e1,e2⟩:=e';subst e2;have e1:u=v':=e1;subst e1;obtain⟨i1,i2⟩:=zEs (K:=K) (ρ:=ρ) (H:=H) i h1 q2;unfold zWu zSx at i1 i2 ⊢
  by_cases hj:j=i
  ·subst hj;rw[List.filter_cons_of_neg (by simp),List.filter_cons_of_neg (by simp)];exact⟨i1,i2⟩
  ·rw[List.filter_cons_of_pos (by simp[hj]),List.filter_cons_of_pos (by simp[hj])];exact⟨by rw[map_cons,map_cons,i1],.cons q1 i2⟩
@[simp] def zfr:GM:=λx ds μ=>match x,ds with
 |.loc n,[.int i]=>match μ[n]? with
  |some (.dct kvs)=>(z3c kvs i).bind λd=>some (d,μ.set n (.dct (zSx kvs i)))
  |_=>none
 |_,_=>none
def zVu:MtG X "dict.pop" zfr:=by
 refine MtG.of λpins s σ H x xs v us Q I rx rs ρ dx ds μ d μ' r1 r2 R e k=>?_;unfold zfr at e
 split at e
 ·rename_i n i
  split at e
  ·rename_i kvs hm
   obtain⟨d',e1,e⟩:=zn e;cases e;obtain⟨p,rfl,ea⟩:=r1.tz;obtain⟨vs,hH,q1,q2⟩:=R.at_ _ _ _ ea hm;obtain⟨w,r,rfl,q3,q4⟩:=r2.cons_inv;rw[q4.nil_inv,q3.int_inv]at rs;obtain⟨u,rfl,ru⟩:=vals1 rs;cases rx;obtain⟨z,hd,us,rel,dd⟩:=zix I.hok hH;obtain⟨v',ev,r'⟩:=(zwg _ q1 q2).1 _ e1;have rv:=rel.val (yP i);rw[ev]at rv;obtain⟨u',eu,ru'⟩:=TM.some_of rv;have hz:us.length<=yE:=by rw[<-rel.length];exact z
   have hmu:Mut (H p):=by rw[hH];trivial
   have hpart:(keyPart u).isSome=true:=by obtain⟨t,rfl⟩:=ru;rfl
   refine call_meetsIn PySem.F.slot_dict_pop dd.typeIs PySem.F.entry_dict_pop (PySem.F.args_dict_pop_2 _ _) (meets_dict_pop_there (z5b X.prog X.w) p (z4r (k:=yP i) ru) [] (.inl rfl) hpart) ⟨us,u',dd,hz,eu,λh' dd' hs=>?_⟩;have hl':(zWu vs (yP i)).length<=yE:=yG (List.length_filter_le _ _) z;have I1:Inv X pins σ (upd H p (.dK (zWu vs (yP i)))) {s with heap:=h',toks:=s.toks+1 }:=I.write (x:=p) (e:=p) hmu (.inl rfl) (λb q hb z=>(hs.2 b hb).trans z) (by obtain⟨q,_,_,hq,_⟩:=dd';exact⟨q,hq⟩) (show tG X.prog X.w _ h' p (.dK (zWu vs (yP i))) from⟨hl',hd,_,zSy rel _,dd'⟩);obtain⟨p1,p2⟩:=zEs i q1 (q2.ext (Ext.wr (o:=.dK (zWu vs (yP i))) hmu));exact⟨v',_,I1,ru',k ρ _ _ (Ext.wr hmu) (R.wr hmu ea ⟨_,zG,p1,p2⟩) (r'.ext (Ext.wr hmu))⟩
  ·cases e
 ·cases e
def zTw{o:yF}{ψ:FA}{apos:xC}(ho:ME X o φ)(ha:MAn X (e::es) ψ)
 (hbase:YL o "pop" X.env (Yh o X.env)=Yh o X.env:=by rfl)
 (hfew:((Yo pos (yj (e::es) X.env)).all (λx=>!x.1)&&(xV pos (YS [] X.env)).all (λx=>x.1.isSome)
  && decide ((e::es).length+([]:List xN).length+(if([]:List xN).isEmpty then 0 else 1)<30))=true:=by rfl)
 (hline:(apos.endLine==pos.line)=true:=by rfl) (hs:yj (e::es) X.env=(false,Yh e X.env)::yj es X.env:=by rfl) (hplain:(Yo pos (yj es X.env)).any (·.1)=false:=by rfl) :
 ME X (.Call (.Attribute o "pop" apos) (e::es) [] pos) (zik zfr φ ψ):=zUq PySem.F.slot_dict_pop PySem.F.type_dict_pop zVu ho ha hbase hfew hline hs hplain
end
structure Sg(K:yw)(mg:yy->Option yb)(c:yy)(st:Yi)(ps:List yy)(C f:yd)(fd:yi):Prop where
 nm:Yq K yp c=some (some (.ref C))
 mgc:mg c=some (.ref C)
 mkc:Mk K C f
 fn:Fun K "__init__" (c ++ ".__init__") st f fd
 bd:Binds K fd ps []
section
variable {X:Cx}{e:yF}{es:List yF}{ψ:FA}{pos p:xC}{c:yy}{C g:yd}{fd:yi}{ps:List yy}{st:Yi}{j k n:Nat}{F:FF}
def mmakeA(B:Sg X.K X.mg c st ps C g fd)(G:tq X.prog X.w X.K X.mg X.base CX0 j g fd ps (spM X.K n F))(hr:tS k X.A)(ha:MAn X (e::es) ψ)
 (hj:j+1<=k:=by decide) (hn:(e::es).length+1=n:=by rfl) (hg:Gl X c:=by rfl) (hdb:(c==("__debug__":yy))=false:=by decide) (he:yj (e::es) X.env=(false,Yh e X.env)::yj es X.env:=by exact z6c rfl) (hpl:(Yo pos (yj es X.env)).any (·.1)=false:=by rfl) :
 ME X (.Call (.Name c p) (e::es) [] pos) (zDr c F ψ):=mmake B.mkc B.nm B.mgc B.bd G hr ha hj hn hg hdb he hpl
end
@[simp] theorem zWA{i j:Int}(h1:-18446744073709551616<j)(h2:j<18446744073709551616):zlh i j=true:=by
 unfold zlh;rw[decide_eq_true (p:=-(2^64)<j/\j<2^64) ⟨by omega,by omega⟩];simp
@[simp] theorem zOx{i j:Int}(h1:-18446744073709551616<i)(h2:i<18446744073709551616):zlh i j=true:=by
 unfold zlh;rw[decide_eq_true (p:=-(2^64)<i/\i<2^64) ⟨by omega,by omega⟩];simp
@[simp] theorem zoB{α:Type}(l:List α):(l.all λ_=>true)=true:=by simp
def zdy{μ g:Mem}{n:Nat}(h:n<μ.length):(μ++g)[n]?=μ[n]?:=yq h
def zlb{μ g:Mem}{n:Nat}{o:tE}(h:μ[n]?=some o):(μ++g)[n]?=some o:=by
 rw[zdy (List.getElem?_eq_some_iff.mp h).1];exact h
mutual
def zZq:∀p:Xc,p.canLay0=true->Yp p p=true
 |.none,_=>rfl
 |.bool b,_=>by simp[Yp]
 |.int b,_=>by simp[Yp]
 |.str b,_=>by simp[Yp]
 |.list xs,h=>by
  unfold Yp;exact eqvAll_refl xs (by simpa[PyData.canLay0] using h)
 |.tuple xs,h=>by
  unfold Yp;exact eqvAll_refl xs (by simpa[PyData.canLay0] using h)
 |.dict _,h=>by simp[PyData.canLay0]at h
def eqvAll_refl:∀ps:List Xc,Xy ps=true->Xp ps ps=true
 |[],_=>rfl
 |p::ps,h=>by
  simp only[Xy,yO]at h;unfold Xp;rw[zZq p h.1,eqvAll_refl ps h.2];rfl
end
def zhv{x y:D}{μ:Mem}{p:Xc}(h1:toP μ 8 x=some p)(h2:toP μ 8 y=some p):gEq x y μ=some (.bl true,μ):=by
 unfold gEq;rw[h1,h2];simp[zZq p (zMj 8 x p h1).1]
def zpy{K:yw}{F:FF}{H:Hp}{a:yd}{ns:List Int}(hF:∃μ',F [.fz (ns.map D.int)] []=some (.bl true,μ'))(hO:z6z H)(hS:SqL K H a (ns.map V.int)):spM K 1 F [.ref a] H (λv _=>v=.bl true) λ_ _ _=>False:=by
 obtain⟨μ',e⟩:=hF
 have fz:FzL K H a (ns.map V.int):=by
  rcases hS with (h|⟨o,h⟩)|h
  ·rcases hO a with z|⟨o,xs,z⟩
   ·rw[h]at z;cases z
   ·rw[h]at z;cases z
  ·exact .inl ⟨o,h⟩
  ·exact .inr h
 have hints:∀ns:List Int,tj K [] H (ns.map D.int) (ns.map V.int):=λns=>by
  induction ns with
  |nil=>exact .nil
  |cons i r ih=>exact .cons .int ih
 exact⟨rfl,[],[.fz (ns.map D.int)],[],.bl true,μ',.cons (.fz fz (hints ns)) .nil,⟨nodup_nil,rfl,λn a o h1 _=>by simp at h1⟩,e,λρ' H' v _ _ r=>r.tN⟩
structure WE(φ:FE)(δ:Loc)(μ:Mem)(Q:D->Mem->Prop):Prop where
 ex:∃d μ',φ δ μ=some (d,μ')/\Q d μ'
structure WT(φ:FT)(δ:Loc)(μ:Mem)(Q:Bool->Mem->Prop):Prop where
 ex:∃d μ',φ δ μ=some (d,μ')/\Q d μ'
structure WA(φ:FA)(δ:Loc)(μ:Mem)(Q:List D->Mem->Prop):Prop where
 ex:∃d μ',φ δ μ=some (d,μ')/\Q d μ'
structure WO(φ:FO)(δ:Loc)(μ:Mem)(Q:Option Int->Mem->Prop):Prop where
 ex:∃d μ',φ δ μ=some (d,μ')/\Q d μ'
structure W2(g:G2)(x y:D)(μ:Mem)(Q:D->Mem->Prop):Prop where
 ex:∃d μ',g x y μ=some (d,μ')/\Q d μ'
structure WF(F:FF)(ds:List D)(μ:Mem)(Q:D->Mem->Prop):Prop where
 ex:∃d μ',F ds μ=some (d,μ')/\Q d μ'
structure WM(g:GM)(x:D)(ds:List D)(μ:Mem)(Q:D->Mem->Prop):Prop where
 ex:∃d μ',g x ds μ=some (d,μ')/\Q d μ'
structure WI(i:FI)(δ:Loc)(μ:Mem)(Q:List D->(Mem->Bool)->Mem->Prop):Prop where
 ex:∃ds ok μ',i δ μ=some (ds,ok,μ')/\Q ds ok μ'
structure WG(g:FG)(d:D)(δ:Loc)(μ:Mem)(Q:Loc->Mem->Prop):Prop where
 ex:∃δ' μ',g d δ μ=some (δ',μ')/\Q δ' μ'
structure WGs(g:FGs)(ds:List D)(δ:Loc)(μ:Mem)(Q:Loc->Mem->Prop):Prop where
 ex:∃δ' μ',g ds δ μ=some (δ',μ')/\Q δ' μ'
structure WL(g:FG)(c:FT)(φ:FE)(ok:Mem->Bool)(δ:Loc)(xs ys:List D)(μ:Mem)(Q:D->Mem->Prop):Prop where
 ex:∃d μ',zCu g c φ ok δ xs ys μ=some (d,μ')/\Q d μ'
def Ek(nx:Loc->Mem->Prop)(rt:D->Mem->Prop)(bk ct:Loc->Mem->Prop):Out->Prop
 |.next δ μ=>nx δ μ
 |.ret d μ=>rt d μ
 |.brk δ μ=>bk δ μ
 |.cont δ μ=>ct δ μ
 |.exc _ _ _=>False
structure WS(ψ:FS)(δ:Loc)(μ:Mem)(nx:Loc->Mem->Prop)(rt:D->Mem->Prop)(bk ct:Loc->Mem->Prop):Prop where
 ex:∃o,ψ δ μ=some o/\Ek nx rt bk ct o
structure WFor(g:FG)(body:FS)(ok:Mem->Bool)(xs:List D)(δ:Loc)(μ:Mem)(nx:Loc->Mem->Prop)(rt:D->Mem->Prop):Prop where
 ex:∃o,zJi g body ok xs δ μ=some o/\Ek nx rt (λ_ _=>False) (λ_ _=>False) o
def tm(μ μ':Mem):Prop:=∀(n:Nat)(o:tE),μ[n]?=some o->μ'[n]?=some o
def tm.refl{μ:Mem}:tm μ μ:=λ_ _ h=>h
def tm.trans{μ μ1 μ2:Mem}(a:tm μ μ1)(b:tm μ1 μ2):tm μ μ2:=λn o h=>b n o (a n o h)
def tm.app{μ g:Mem}:tm μ (μ++g):=λ_ _ h=>zlb h
def tm.to{μ μ1 g:Mem}(a:tm μ μ1):tm μ (μ1++g):=a.trans .app
def tm.len{μ μ':Mem}(a:tm μ μ'):μ.length<=μ'.length:=by
 rcases Nat.lt_or_ge μ'.length μ.length with h|h
 ·have:=a μ'.length μ[μ'.length] (by simp[h]);simp at this
 ·exact h
def zE{μ:Mem}{o:tE}:(μ++[o])[μ.length]?=some o:=by simp
def zQ{μ:Mem}{n:Nat}{o:tE}(h:μ[n]?=some o):n<μ.length:=(List.getElem?_eq_some_iff.mp h).1
def z7{μ:Mem}{n m:Nat}{o o':tE}(h:μ[n]?=some o)(hne:m≠n):(μ.set m o')[n]?=some o:=by
 rw[yK hne];exact h
def zsb{μ:Mem}{n:Nat}{o o':tE}(h:μ[n]?=some o):(μ.set n o')[n]?=some o':=by
 rw[yI (zQ h)]
def zL{μ:Mem}{n:Nat}{ds:List D}(h:μ[n]?=some (.lst ds)):items μ (.loc n)=some ds:=by simp[h]
section
variable {φ ψ χ:FE}{g g2:G2}{δ:Loc}{μ:Mem}{Q:D->Mem->Prop}{i j:Int}{d x y:D}{ds xs:List D}
def WE.mono{Q':D->Mem->Prop}(h:WE φ δ μ Q)(k:∀d μ',Q d μ'->Q' d μ'):WE φ δ μ Q':=let ⟨d,μ',e,q⟩:=h;⟨d,μ',e,k d μ' q⟩
def zh{n:Nat}(h:δ[n]?=some (some d))(q:Q d μ):WE (zq n) δ μ Q:=⟨d,μ,by simp[h],q⟩
def w_c(q:Q d μ):WE (fC d) δ μ Q:=⟨d,μ,rfl,q⟩
def zy(h:WE φ δ μ λx μ1=>WE ψ δ μ1 λy μ2=>W2 g x y μ2 Q):WE (zK g φ ψ) δ μ Q:=by
 obtain⟨x,μ1,e1,y,μ2,e2,d,μ3,e3,q⟩:=h;exact⟨d,μ3,by simp[e1,e2,e3],q⟩
def zbu(h:WE φ δ μ λx μ1=>∃b,x=.bl b/\(b=true->WE ψ δ μ1 Q)/\(b=false->Q (.bl false) μ1)):WE (zQy φ ψ) δ μ Q:=by
 obtain⟨x,μ1,e1,b,rfl,h1,h2⟩:=h
 cases b with
 |true=>obtain⟨d,μ2,e2,q⟩:=h1 rfl;exact⟨d,μ2,by simp[e1,e2],q⟩
 |false=>exact⟨_,μ1,by simp[e1],h2 rfl⟩
def z9z(h:WE φ δ μ λx μ1=>∃b,x=.bl b/\(b=false->WE ψ δ μ1 Q)/\(b=true->Q (.bl true) μ1)):WE (fOr φ ψ) δ μ Q:=by
 obtain⟨x,μ1,e1,b,rfl,h1,h2⟩:=h
 cases b with
 |false=>obtain⟨d,μ2,e2,q⟩:=h1 rfl;exact⟨d,μ2,by simp[e1,e2],q⟩
 |true=>exact⟨_,μ1,by simp[e1],h2 rfl⟩
def w_not(h:WE φ δ μ λx μ1=>∃b,x=.bl b/\Q (.bl (!b)) μ1):WE (zDA φ) δ μ Q:=by
 obtain⟨x,μ1,e1,b,rfl,q⟩:=h;exact⟨_,μ1,by simp[e1],q⟩
def z0A(h:WE φ δ μ λx μ1=>∃i,x=.int i/\Q (.int (-i)) μ1):WE (zNB φ) δ μ Q:=by
 obtain⟨x,μ1,e1,b,rfl,q⟩:=h;exact⟨_,μ1,by simp[e1],q⟩
def zfh{α:FA}(h:WA α δ μ λds μ1=>Q (.tup ds) μ1):WE (z4l α) δ μ Q:=by
 obtain⟨x,μ1,e1,q⟩:=h;exact⟨_,μ1,by simp[e1],q⟩
def zHh{α:FA}(h:WA α δ μ λds μ1=>Q (.loc μ1.length) (μ1++[.lst ds])):WE (zWk α) δ μ Q:=by
 obtain⟨x,μ1,e1,q⟩:=h;exact⟨_,_,by simp[e1]<;>rfl,q⟩
def zUz(h:Q (.loc μ.length) (μ++[.dct []])):WE zcA δ μ Q:=⟨_,_,rfl,h⟩
def zjB{lo hi:FO}(h:WE φ δ μ λx μ1=>WO lo δ μ1 λl μ2=>WO hi δ μ2 λu μ3=>∃ds,x=.tup ds/\Q (.tup (cutD ds l u)) μ3):WE (fSl φ lo hi) δ μ Q:=by
 obtain⟨x,μ1,e1,l,μ2,e2,u,μ3,e3,ds,rfl,q⟩:=h;exact⟨_,_,by simp[e1,e2,e3]<;>rfl,q⟩
def znr{R:Option Int->Mem->Prop}(q:R none μ):WO pNo δ μ R:=⟨_,_,rfl,q⟩
def zAl{R:Option Int->Mem->Prop}(h:WE φ δ μ λx μ1=>∃i,x=.int i/\R (some i) μ1):WO (zRw φ) δ μ R:=by
 obtain⟨x,μ1,e1,i,rfl,q⟩:=h;exact⟨_,_,by simp[e1]<;>rfl,q⟩
def zD{F:FF}{α:FA}(h:WA α δ μ λds μ1=>WF F ds μ1 Q):WE (zH F α) δ μ Q:=by
 obtain⟨ds,μ1,e1,d,μ2,e2,q⟩:=h;exact⟨d,μ2,by simp[e1,e2],q⟩
def zJl{m:GM}{α:FA}(h:WE φ δ μ λx μ1=>∃n xs,x=.loc n/\μ1[n]?=some (.lst xs)/\WA α δ μ1 λds μ2=>WM m (.loc n) ds μ2 Q):WE (zFi m φ α) δ μ Q:=by
 obtain⟨x,μ1,e1,n,xs,rfl,e2,ds,μ2,e3,d,μ3,e4,q⟩:=h;exact⟨d,μ3,by simp[e1,e2,e3,e4],q⟩
def zCr{n:Nat}{fr:List Nat}{it:FI}{tg:FG}{c:FT}(h:WI it δ μ λds ok μ1=>few ds=true/\WL tg c φ ok (δC n fr δ) ds [] μ1 Q):WE (fLC n fr it tg c φ) δ μ Q:=by
 obtain⟨ds,ok,μ1,e1,hf,d,μ2,e2,q⟩:=h;exact⟨d,μ2,by unfold fLC;simp only[e1,yr,hf,cond_true];exact e2,q⟩
def z3v(h:WE φ δ μ λx μ1=>∃n ns,x=.loc n/\μ1[n]?=some (.lst (ns.map .int))/\ns.length<=4000/\(uqL ns).length<64/\Q (.loc μ1.length) (μ1++[.lst ((zNp ns).map .int)])):WE (ztr φ) δ μ Q:=by
 obtain⟨x,μ1,e1,n,ns,rfl,e2,h1,h2,q⟩:=h;exact⟨_,_,by simp[ztr,e1,e2,h1,h2]<;>rfl,q⟩
def zX{R:Bool->Mem->Prop}(h:WE φ δ μ λx μ1=>∃b,x=.bl b/\R b μ1):WT (zbb φ) δ μ R:=by
 obtain⟨x,μ1,e1,b,rfl,q⟩:=h;exact⟨_,_,by simp[e1]<;>rfl,q⟩
def zgt{c e:FT}{R:Bool->Mem->Prop}(h:WT c δ μ λb μ1=>(b=true->WT e δ μ1 R)/\(b=false->R false μ1)):WT (zNt c e) δ μ R:=by
 obtain⟨b,μ1,e1,h1,h2⟩:=h
 cases b with
 |true=>obtain⟨d,μ2,e2,q⟩:=h1 rfl;exact⟨d,μ2,by simp[e1,e2],q⟩
 |false=>exact⟨_,μ1,by simp[e1],h2 rfl⟩
def z3o{c e:FT}{R:Bool->Mem->Prop}(h:WT c δ μ λb μ1=>(b=false->WT e δ μ1 R)/\(b=true->R true μ1)):WT (zgw c e) δ μ R:=by
 obtain⟨b,μ1,e1,h1,h2⟩:=h
 cases b with
 |false=>obtain⟨d,μ2,e2,q⟩:=h1 rfl;exact⟨d,μ2,by simp[e1,e2],q⟩
 |true=>exact⟨_,μ1,by simp[e1],h2 rfl⟩
def zni{c:FT}{R:Bool->Mem->Prop}(h:WT c δ μ λb μ1=>R (!b) μ1):WT (zIk c) δ μ R:=by
 obtain⟨b,μ1,e1,q⟩:=h;exact⟨_,_,by simp[e1]<;>rfl,q⟩
def zAx{R:Bool->Mem->Prop}(q:R true μ):WT zqk δ μ R:=⟨_,_,rfl,q⟩
def zC{R:List D->Mem->Prop}(q:R [] μ):WA zO δ μ R:=⟨_,_,rfl,q⟩
def zj{α:FA}{R:List D->Mem->Prop}(h:WE φ δ μ λx μ1=>WA α δ μ1 λxs μ2=>R (x::xs) μ2):WA (zo φ α) δ μ R:=by
 obtain⟨x,μ1,e1,xs,μ2,e2,q⟩:=h;exact⟨_,_,by simp[e1,e2]<;>rfl,q⟩
def zmg(q:Q (.int (i+j)) μ):W2 z9e (.int i) (.int j) μ Q:=⟨_,_,rfl,q⟩
def zdw{as bs:List D}(h:as.length+bs.length<=1000000)(q:Q (.tup (as++bs)) μ):W2 z9e (.tup as) (.tup bs) μ Q:=⟨_,_,by simp[h]<;>rfl,q⟩
def zGo{l m:Nat}{as bs:List D}(h1:μ[l]?=some (.lst as))(h2:μ[m]?=some (.lst bs))(h:as.length+bs.length<=1000000)(q:Q (.loc μ.length) (μ++[.lst (as++bs)])):W2 z9e (.loc l) (.loc m) μ Q:=⟨_,_,by simp[h1,h2,h]<;>rfl,q⟩
def zex(q:Q (.int (i-j)) μ):W2 zQu (.int i) (.int j) μ Q:=⟨_,_,rfl,q⟩
def zfn(h:zlh i j=true)(q:Q (.int (i*j)) μ):W2 zqj (.int i) (.int j) μ Q:=⟨_,_,by simp[zqj,h]<;>rfl,q⟩
def z2k(h:0<j)(q:Q (.int (i%j)) μ):W2 zCn (.int i) (.int j) μ Q:=⟨_,_,by simp[h]<;>rfl,q⟩
def z5u(h:0<j)(h':j<1606938044258990275541962092341162602522202993782792835301376)(q:Q (.int (i / j)) μ):W2 zZw (.int i) (.int j) μ Q:=⟨_,_,by simp[h,h']<;>rfl,q⟩
def zoz(h:0<=j)(h1:j<=100000)(h2:i.natAbs<1606938044258990275541962092341162602522202993782792835301376)(q:Q (.int (i^j.toNat)) μ):W2 zny (.int i) (.int j) μ Q:=⟨_,_,by simp only[zny];rw[decide_eq_true ⟨h,h1,h2⟩];rfl,q⟩
def zrm{r:Int->Int->Bool}(q:Q (.bl (r i j)) μ):W2 (zTo r) (.int i) (.int j) μ Q:=⟨_,_,rfl,q⟩
def zwc(h:items μ x=some xs)(h2:atI xs i=some d)(q:Q d μ):W2 gIx x (.int i) μ Q:=⟨_,_,by show((items μ x).bind λds=>(atI ds i).bind λd=>some (d,μ))=_;rw[h,yr,h2,yr],q⟩
def zKh(q:Q (.bl (i==j)) μ):W2 gEq (.int i) (.int j) μ Q:=⟨_,_,by simp[gEq,toP,Yp]<;>rfl,q⟩
def zPA(q:Q (.bl (!(i==j))) μ):W2 gNe (.int i) (.int j) μ Q:=⟨_,_,by simp[gNe,toP,Yp]<;>rfl,q⟩
def znA{p:Xc}(h1:toP μ 8 x=some p)(h2:toP μ 8 y=some p)(q:Q (.bl true) μ):W2 gEq x y μ Q:=⟨_,_,zhv h1 h2,q⟩
def zdA{p p':Xc}(h1:toP μ 8 x=some p)(h2:toP μ 8 y=some p')(q:Q (.bl (Yp p p')) μ):W2 gEq x y μ Q:=⟨_,_,by simp[gEq,h1,h2]<;>rfl,q⟩
def zHB{p p':Xc}(h1:toP μ 8 x=some p)(h2:toP μ 8 y=some p')(q:Q (.bl (!PyData.eqv p p')) μ):W2 gNe x y μ Q:=⟨_,_,by simp[gNe,h1,h2]<;>rfl,q⟩
def z1A{a b:Bool}(q:Q (.bl (a==b)) μ):W2 gIs (.bl a) (.bl b) μ Q:=⟨_,_,rfl,q⟩
def zMv{a b:Bool}(q:Q (.bl (a != b)) μ):W2 zSi (.bl a) (.bl b) μ Q:=⟨_,_,rfl,q⟩
def zBB(h:items μ y=some xs)(h1:zdd x=true)(h2:xs.all zdd=true)(q:Q (.bl (xs.any λd=>eqF d x)) μ):W2 gIn x y μ Q:=⟨_,_,by simp only[gIn,h,yr,h1,h2,Xo,cond_true],q⟩
def zBs(h:items μ y=some xs)(h1:zdd x=true)(h2:xs.all zdd=true)(q:Q (.bl (!xs.any λd=>eqF d x)) μ):W2 zek x y μ Q:=⟨_,_,by simp only[zek,h,yr,h1,h2,Xo,cond_true],q⟩
def zWg(h:items μ x=some xs)(q:Q (.int xs.length) μ):WF zHl [x] μ Q:=⟨_,_,by show((items μ x).bind λxs=>some (D.int xs.length,μ))=_;rw[h,yr],q⟩
def zdu(h:items μ x=some xs)(q:Q (.loc μ.length) (μ++[.lst xs])):WF zGs [x] μ Q:=⟨_,_,by show((items μ x).bind λxs=>some (D.loc μ.length,μ++[tE.lst xs]))=_;rw[h,yr],q⟩
def zJj(h:items μ x=some xs)(q:Q (.tup xs) μ):WF z3g [x] μ Q:=by
 refine⟨_,_,?_,q⟩;cases x<;>first|(cases h;rfl)|(simp only[z3g,h];rfl)
def zvA{n:Nat}{ns:List Int}(h:μ[n]?=some (.lst (ns.map .int)))(q:Q (.int ns.sum) μ):WF zzy [.loc n] μ Q:=⟨_,_,by simp[h]<;>rfl,q⟩
def zZz{n:Nat}{bs:List Bool}(h:μ[n]?=some (.lst (bs.map .bl)))(q:Q (.bl (bs.all λb=>b)) μ):WF z8y [.loc n] μ Q:=⟨_,_,by simp[h,all_map,Function.comp_def],q⟩
def zjn{n:Nat}(h:μ[n]?=some (.lst xs))(hl:xs.length<=1000000)(q:Q .non (μ.set n (.lst (xs++[d])))):WM zkh (.loc n) [d] μ Q:=⟨_,_,by simp[h,hl]<;>rfl,q⟩
def zZy{n:Nat}(h:μ[n]?=some (.lst xs))(hl:xs.length+ds.length<=1000000)(q:Q .non (μ.set n (.lst (xs++ds)))):WM z5x (.loc n) [.tup ds] μ Q:=⟨_,_,by simp[h,hl]<;>rfl,q⟩
def z7b{F:FF}{N:List yy}{p:FS}(hF:F=λds μ=>z0b (p (zU N ds) μ))(h:WS p (zU N ds) μ (λ_ μ'=>Q .non μ') Q (λ_ _=>False) λ_ _=>False):WF F ds μ Q:=by
 subst hF;obtain⟨o,e,k⟩:=h
 cases o with
 |next δ' μ'=>exact⟨_,_,by rw[e];rfl,k⟩
 |ret d μ'=>exact⟨_,_,by rw[e];rfl,k⟩
 |brk _ _=>exact k.elim
 |cont _ _=>exact k.elim
 |exc _ _ _=>exact k.elim
def zym{α:FA}{R:List D->(Mem->Bool)->Mem->Prop}(h:WA α δ μ λds μ1=>∃j:Int,ds=[.int j]/\-(2^62)<=j/\j<2^62/\R ((yv j.toNat).map λ(k:Nat) =>.int k) yes μ1):WI (zZi α) δ μ R:=by
 obtain⟨ds,μ1,e1,j,rfl,h1,h2,q⟩:=h;refine⟨_,_,_,?_,q⟩;unfold zZi;simp only[e1,yr];rw[decide_eq_true ⟨h1,h2⟩];rfl
def z4f{R:List D->(Mem->Bool)->Mem->Prop}(h:WE φ δ μ λx μ1=>(∃ds,x=.tup ds/\R ds yes μ1)\/(∃ds,x=.fz ds/\R ds yes μ1)\/∃n ds,x=.loc n/\μ1[n]?=some (.lst ds)/\R ds (z4j n ds) μ1):WI (zmh φ) δ μ R:=by
 obtain⟨x,μ1,e1,⟨ds,rfl,q⟩|⟨ds,rfl,q⟩|⟨n,ds,rfl,e2,q⟩⟩:=h
 ·exact⟨_,_,_,by simp[e1]<;>rfl,q⟩
 ·exact⟨_,_,_,by simp[e1]<;>rfl,q⟩
 ·exact⟨_,_,_,by simp[e1,e2]<;>rfl,q⟩
def zTg{n:Nat}{R:Loc->Mem->Prop}(q:R (δ.set n (some d)) μ):WG (gN n) d δ μ R:=⟨_,_,rfl,q⟩
def zfB{n:Nat}{gs:FGs}{R:Loc->Mem->Prop}(hl:ds.length=n)(h:WGs gs ds δ μ R):WG (gT n gs) (.tup ds) δ μ R:=by
 obtain⟨δ',μ',e,q⟩:=h;exact⟨δ',μ',by simp[hl,e],q⟩
def zWr{gs:FGs}{R:Loc->Mem->Prop}{a b:D}(h:WGs gs [a,b] δ μ R):WG (gT 2 gs) (.tup [a,b]) δ μ R:=zfB rfl h
def zQA{gs:FGs}{R:Loc->Mem->Prop}{a b c:D}(h:WGs gs [a,b,c] δ μ R):WG (gT 3 gs) (.tup [a,b,c]) δ μ R:=zfB rfl h
def zep{R:Loc->Mem->Prop}(q:R δ μ):WGs zbh [] δ μ R:=⟨_,_,rfl,q⟩
def zih{t:FG}{gs:FGs}{R:Loc->Mem->Prop}(h:WG t d δ μ λδ1 μ1=>WGs gs ds δ1 μ1 R):WGs (zYb t gs) (d::ds) δ μ R:=by
 obtain⟨δ1,μ1,e1,δ2,μ2,e2,q⟩:=h;exact⟨δ2,μ2,by simp[e1,e2],q⟩
end
section
variable {φ ψ:FE}{δ:Loc}{μ:Mem}{nx:Loc->Mem->Prop}{rt:D->Mem->Prop}{bk ct:Loc->Mem->Prop}{p q:FS}
def zBb(h:nx δ μ):WS zfc δ μ nx rt bk ct:=⟨.next δ μ,rfl,h⟩
def zJ(h:WS p δ μ (λδ' μ'=>WS q δ' μ' nx rt bk ct) rt bk ct):WS (zdb p q) δ μ nx rt bk ct:=by
 obtain⟨o,e,k⟩:=h
 cases o with
 |next δ' μ'=>obtain⟨o2,e2,k2⟩:=k;exact⟨o2,by simp[e,e2],k2⟩
 |ret d μ'=>exact⟨.ret d μ',by simp only[zdb,e],k⟩
 |brk d μ'=>exact⟨.brk d μ',by simp only[zdb,e],k⟩
 |cont d μ'=>exact⟨.cont d μ',by simp only[zdb,e],k⟩
 |exc _ _ _=>exact k.elim
def zob{n:Nat}(h:WE φ δ μ λd μ'=>nx (δ.set n (some d)) μ'):WS (zyc n φ) δ μ nx rt bk ct:=by
 obtain⟨d,μ',e,k⟩:=h;exact⟨.next _ _,by simp only[zyc,e,yr],k⟩
def zKm{g:FG}(h:WE φ δ μ λd μ1=>WG g d δ μ1 nx):WS (zks φ g) δ μ nx rt bk ct:=by
 obtain⟨d,μ1,e,δ',μ2,e2,k⟩:=h;exact⟨.next _ _,by simp only[zks,e,yr,e2],k⟩
def zUi(h:WE φ δ μ λ_ μ'=>nx δ μ'):WS (zHj φ) δ μ nx rt bk ct:=by
 obtain⟨d,μ',e,k⟩:=h;exact⟨.next _ _,by simp only[zHj,e,yr],k⟩
def zLb(h:WE φ δ μ rt):WS (zuc φ) δ μ nx rt bk ct:=by
 obtain⟨d,μ',e,k⟩:=h;exact⟨.ret _ _,by simp only[zuc,e,yr],k⟩
def zoh{c:FT}(h:WT c δ μ λb μ1=>(b=true->WS p δ μ1 nx rt bk ct)/\(b=false->WS q δ μ1 nx rt bk ct)):WS (sIf c p q) δ μ nx rt bk ct:=by
 obtain⟨b,μ1,e,h1,h2⟩:=h
 cases b with
 |true=>obtain⟨o,e2,k⟩:=h1 rfl;exact⟨o,by simp[e,e2],k⟩
 |false=>obtain⟨o,e2,k⟩:=h2 rfl;exact⟨o,by simp[e,e2],k⟩
def z7h{it:FI}{g:FG}{body:FS}(h:WI it δ μ λds ok μ1=>WFor g body ok ds δ μ1 nx rt):WS (zHm it g body) δ μ nx rt bk ct:=by
 obtain⟨ds,ok,μ1,e,o,e2,k⟩:=h;refine⟨o,by simp only[zHm,e,yr];exact e2,?_⟩
 cases o with
 |next _ _=>exact k
 |ret _ _=>exact k
 |brk _ _=>exact k.elim
 |cont _ _=>exact k.elim
 |exc _ _ _=>exact k.elim
def z8s{g:FG}{body:FS}{ok:Mem->Bool}{nx:Loc->Mem->Prop}{rt:D->Mem->Prop}(I:Nat->Loc->Mem->Prop):∀{xs:List D} {n:Nat} {δ:Loc} {μ:Mem},I n δ μ->(∀m δ μ,I m δ μ->ok μ=true) ->
 (∀(m:Nat)(x:D)(δ:Loc)(μ:Mem),xs[m]?=some x->I (n+m) δ μ->WG g x δ μ λδ1 μ1=>WS body δ1 μ1 (I (n+m+1)) rt nx (I (n+m+1)))->(∀δ μ,I (n+xs.length) δ μ->nx δ μ)->WFor g body ok xs δ μ nx rt
 |[],n,δ,μ,h0,hok,_,hend=>⟨.next δ μ,by simp only[zJi,hok _ _ _ h0,cond_true],hend δ μ h0⟩
 |x::xs,n,δ,μ,h0,hok,hs,hend=>by
  obtain⟨δ1,μ1,e1,o,e2,k⟩:=hs 0 x δ μ rfl h0
  cases o with
  |next δ2 μ2=>
   obtain⟨o3,e3,k3⟩:=z8s I (xs:=xs) (n:=n+1) (δ:=δ2) (μ:=μ2) k hok (λm y δ μ hy hI=>by
    have:=hs (m+1) y δ μ (by simpa using hy) (by rw[show n+(m+1)=n+1+m by omega];exact hI);rw[show n+(m+1)=n+1+m by omega]at this;exact this) (λδ μ hI=>hend δ μ (by rw[length_cons,show n+(xs.length+1)=n+1+xs.length by omega];exact hI))
   exact⟨o3,by simp only[zJi,hok _ _ _ h0,cond_true,e1,yr,e2];exact e3,k3⟩
  |cont δ2 μ2=>
   obtain⟨o3,e3,k3⟩:=z8s I (xs:=xs) (n:=n+1) (δ:=δ2) (μ:=μ2) k hok (λm y δ μ hy hI=>by
    have:=hs (m+1) y δ μ (by simpa using hy) (by rw[show n+(m+1)=n+1+m by omega];exact hI);rw[show n+(m+1)=n+1+m by omega]at this;exact this) (λδ μ hI=>hend δ μ (by rw[length_cons,show n+(xs.length+1)=n+1+xs.length by omega];exact hI))
   exact⟨o3,by simp only[zJi,hok _ _ _ h0,cond_true,e1,yr,e2];exact e3,k3⟩
  |brk δ2 μ2=>exact⟨.next δ2 μ2,by simp only[zJi,hok _ _ _ h0,cond_true,e1,yr,e2],k⟩
  |ret d μ2=>exact⟨.ret d μ2,by simp only[zJi,hok _ _ _ h0,cond_true,e1,yr,e2],k⟩
  |exc _ _ _=>exact k.elim
end
def zaw{g:FG}{c:FT}{φ:FE}{ok:Mem->Bool}{δ:Loc}{Q:D->Mem->Prop}(I:Nat->List D->Mem->Prop):∀{xs ys:List D} {n:Nat} {μ:Mem},I n ys μ->(∀m ys μ,I m ys μ->ok μ=true) ->
 (∀(m:Nat)(x:D)(ys:List D)(μ:Mem),xs[m]?=some x->I (n+m) ys μ->WG g x δ μ λδ1 μ1=>WT c δ1 μ1 λb μ2=>(b=true->WE φ δ1 μ2 λd μ3=>I (n+m+1) (ys++[d]) μ3)/\(b=false->I (n+m+1) ys μ2)) ->
 (∀ys μ,I (n+xs.length) ys μ->Q (.loc μ.length) (μ++[.lst ys]))->WL g c φ ok δ xs ys μ Q
 |[],ys,n,μ,h0,hok,_,hend=>⟨_,_,by simp only[zCu,hok _ _ _ h0,cond_true],hend ys μ h0⟩
 |x::xs,ys,n,μ,h0,hok,hs,hend=>by
  obtain⟨δ1,μ1,e1,b,μ2,e2,ht,hf⟩:=hs 0 x ys μ rfl h0
  have step:∀ys2 μ3,I (n+1) ys2 μ3->WL g c φ ok δ xs ys2 μ3 Q:=λys2 μ3 h=>zaw I (n:=n+1) h hok (λm y ys μ hy hI=>by
   have:=hs (m+1) y ys μ (by simpa using hy) (by rw[show n+(m+1)=n+1+m by omega];exact hI);rw[show n+(m+1)=n+1+m by omega]at this;exact this) (λys μ hI=>hend ys μ (by rw[length_cons,show n+(xs.length+1)=n+1+xs.length by omega];exact hI))
  cases b with
  |true=>
   obtain⟨d,μ3,e3,h3⟩:=ht rfl;obtain⟨d',μ4,e4,q⟩:=step _ _ h3;exact⟨d',μ4,by simp only[zCu,hok _ _ _ h0,cond_true,e1,yr,e2,e3];exact e4,q⟩
  |false=>
   obtain⟨d',μ4,e4,q⟩:=step _ _ (hf rfl);exact⟨d',μ4,by simp only[zCu,hok _ _ _ h0,cond_true,e1,yr,e2,cond_false];exact e4,q⟩
def z7c{g:FG}{body:FS}{ok:Mem->Bool}{nx:Loc->Mem->Prop}{rt:D->Mem->Prop}{xs:List D}{δ:Loc}{μ:Mem}(I:Nat->Loc->Mem->Prop)(h0:I 0 δ μ)(hok:∀m δ μ,I m δ μ->ok μ=true)
 (hs:∀(m:Nat)(x:D)(δ:Loc)(μ:Mem),xs[m]?=some x->I m δ μ->WG g x δ μ λδ1 μ1=>WS body δ1 μ1 (I (m+1)) rt nx (I (m+1))) (hend:∀δ μ,I xs.length δ μ->nx δ μ):WFor g body ok xs δ μ nx rt :=
 z8s I (n:=0) h0 hok (λm x δ μ hx h=>by
  rw[Nat.zero_add]at h ⊢;exact hs m x δ μ hx h) (λδ μ h=>hend δ μ (by rw[Nat.zero_add]at h;exact h))
def zhp{g:FG}{c:FT}{φ:FE}{ok:Mem->Bool}{δ:Loc}{Q:D->Mem->Prop}{xs:List D}{μ:Mem}(I:Nat->List D->Mem->Prop)(h0:I 0 [] μ)(hok:∀m ys μ,I m ys μ->ok μ=true)
 (hs:∀(m:Nat)(x:D)(ys:List D)(μ:Mem),xs[m]?=some x->I m ys μ->WG g x δ μ λδ1 μ1=>WT c δ1 μ1 λb μ2=>(b=true->WE φ δ1 μ2 λd μ3=>I (m+1) (ys++[d]) μ3)/\(b=false->I (m+1) ys μ2))
 (hend:∀ys μ,I xs.length ys μ->Q (.loc μ.length) (μ++[.lst ys])):WL g c φ ok δ xs [] μ Q :=
 zaw I (n:=0) h0 hok (λm x ys μ hx h=>by
  rw[Nat.zero_add]at h ⊢;exact hs m x ys μ hx h) (λys μ h=>hend ys μ (by rw[Nat.zero_add]at h;exact h))
def zbm{j m:Nat}{x:D}(h:((yv j).map λ(k:Nat)=>D.int k)[m]?=some x):m<j/\x=.int m:=by
 have h1:=(List.getElem?_eq_some_iff.mp h).1;simp at h1;refine⟨h1,?_⟩;simp[h1]at h;exact h.symm
def znk{α:Type}{g:FG}{c:FT}{φ:FE}{ok:Mem->Bool}{δ:Loc}{Q:D->Mem->Prop}{μ:Mem}(e:α->D)(l:List α)(f:α->D)(p:α->Bool)(hok:∀μ',tm μ μ'->ok μ'=true)
 (hs:∀x∈l,∀μ',tm μ μ'->WG g (e x) δ μ' λδ1 μ1=>WT c δ1 μ1 λb μ2=>b=p x/\tm μ μ2/\(b=true->WE φ δ1 μ2 λd μ3=>d=f x/\tm μ μ3))
 (hq:∀μ',tm μ μ'->Q (.loc μ'.length) (μ'++[.lst ((l.filter p).map f)])):WL g c φ ok δ (l.map e) [] μ Q:=by
 refine zhp (λm ys μ'=>tm μ μ'/\ys=((l.take m).filter p).map f) ⟨.refl,by simp⟩ (λm ys μ' h=>hok μ' h.1) (λm x ys μ' hx h=>?_) (λys μ' h=>?_)
 ·rw[yh]at hx
  cases hy:l[m]? with
  |none=>rw[hy]at hx;cases hx
  |some y=>
   rw[hy]at hx;cases hx;obtain⟨δ1,μ1,e1,b,μ2,e2,hb,k2,h3⟩:=hs y (mem_of_getElem? hy) μ' h.1
   have ht:l.take (m+1)=l.take m++[y]:=by
    rw[take_succ,hy];rfl
   refine⟨δ1,μ1,e1,b,μ2,e2,λhb1=>?_,λhb1=>⟨k2,?_⟩⟩
   ·obtain⟨d,μ3,e3,rfl,k3⟩:=h3 hb1;refine⟨_,_,e3,k3,?_⟩;rw[ht,List.filter_append,map_append,<-h.2,List.filter_cons_of_pos (by rw[<-hb,hb1])];rfl
   ·rw[ht,List.filter_append,map_append,<-h.2,List.filter_cons_of_neg (by rw[<-hb,hb1];exact yC)];simp
 ·rw[length_map,take_length]at h;rw[h.2];exact hq μ' h.1
def z0f{α:Type}{g:FG}{φ:FE}{ok:Mem->Bool}{δ:Loc}{Q:D->Mem->Prop}{μ:Mem}(e:α->D)(l:List α)(f:α->D)(hok:∀μ',tm μ μ'->ok μ'=true)
 (hs:∀x∈l,∀μ',tm μ μ'->WG g (e x) δ μ' λδ1 μ1=>WE φ δ1 μ1 λd μ3=>d=f x/\tm μ μ3/\tm μ μ1)
 (hq:∀μ',tm μ μ'->Q (.loc μ'.length) (μ'++[.lst (l.map f)])):WL g zqk φ ok δ (l.map e) [] μ Q :=
 znk e l f (λ_=>true) hok (λx hx μ' k=>by
  obtain⟨δ1,μ1,e1,d,μ3,e3,h1,h2,h3⟩:=hs x hx μ' k;exact⟨δ1,μ1,e1,true,μ1,rfl,rfl,h3,λ_=>⟨d,μ3,e3,h1,h2⟩⟩) (λμ' k=>by rw[List.filter_eq_self.mpr (λ_ _=>rfl)];exact hq μ' k)
def zgd{ds:List D}(h:ds.length<=1000000):few ds=true:=decide_eq_true h
def znb{n:Nat}{ds:List D}{μ μ':Mem}(h:μ[n]?=some (.lst ds))(k:tm μ μ'):z4j n ds μ'=true:=Tt.mpr (k n _ h)
def zBw{ns:List Int}{k:Int}:k∈uqL ns↔k∈ns:=by
 unfold uqL;rw[zxu,List.mem_iff_getElem];constructor
 ·rintro⟨j,hj,h⟩;exact⟨j,hj,by simpa[hj] using h⟩
 ·rintro⟨j,hj,h⟩;exact⟨j,hj,by simpa[hj] using h⟩
def znn{ns l:List Int}(h1:∀k,k∈l↔k∈ns)(h2:l.Pairwise (· < ·)):(uqL ns).Perm l:=by
 refine(xM (z5n _ _) (h2.imp λh=>Int.ne_of_lt h)).mpr λk=>?_;rw[h1];exact zBw
def zWm{ns l:List Int}(h1:∀k,k∈l↔k∈ns)(h2:l.Pairwise (· < ·)):zNp ns=l :=
 zPc ((mergeSort_perm _ _).trans (znn h1 h2)) (zjh _) (h2.imp λh=>Int.le_of_lt h)
end M
namespace M
open PySem PySem.Spec PyProof.Rows L2
structure KB(L:List Nat)(μ μ':Mem):Prop where
 len:μ.length<=μ'.length
 at_:∀(n:Nat)(o:tE),n∉L->μ[n]?=some o->μ'[n]?=some o
section
variable {L:List Nat}{μ μ1 μ2 μ':Mem}{n:Nat}{o:tE}
def KB.refl:KB L μ μ:=⟨yk _,λ_ _ _ h=>h⟩
def KB.trans(a:KB L μ μ1)(b:KB L μ1 μ2):KB L μ μ2:=⟨yG a.len b.len,λn o h e=>b.at_ n o h (a.at_ n o h e)⟩
def KB.app{g:Mem}(a:KB L μ μ1):KB L μ (μ1++g):=⟨by simp;have:=a.len;omega,λn o h e=>zlb (a.at_ n o h e)⟩
def KB.set{m:Nat}(a:KB L μ μ1)(h:m∈L\/μ.length<=m):KB L μ (μ1.set m o):=⟨by simp;exact a.len,λn o' hn e=>by
 rw[yK]
 ·exact a.at_ n o' hn e
 ·rintro rfl;rcases h with h|h
  ·exact hn h
  ·exact absurd (zQ e) (by omega)⟩
def KB.of_keep(a:tm μ μ'):KB L μ μ':=⟨a.len,λn o _ e=>a n o e⟩
end
section
variable {φ ψ χ:FE}{g g2:G2}{δ:Loc}{μ:Mem}{Q:D->Mem->Prop}{i j:Int}{d x y:D}{ds xs:List D}
def zom(h:WE φ δ μ λx μ1=>∃j:Int,x=.int j/\(-(2^62)<=j/\j<=1000000)/\Q (.loc μ1.length) (μ1++[.lst ((yv j.toNat).map λ(k:Nat) =>.int k)])):WE (zck φ) δ μ Q:=by
 obtain⟨x,μ1,e1,j,rfl,h1,q⟩:=h;exact⟨_,_,by simp only[zck,e1,yr];rw[decide_eq_true h1];rfl,q⟩
def z2y(q:Q (.int i) μ):WF znB [.int i] μ Q:=⟨_,_,rfl,q⟩
def zDy{b:Bool}(q:Q (.int (if b then 1 else 0)) μ):WF znB [.bl b] μ Q:=⟨_,_,rfl,q⟩
def zdz(q:Q (.int (if j<i then j else i)) μ):WF zkA [.int i,.int j] μ Q:=⟨_,_,rfl,q⟩
def zEz(q:Q (.int (if j>i then j else i)) μ):WF zSA [.int i,.int j] μ Q:=⟨_,_,rfl,q⟩
def zRA{c:FT}(h:WT c δ μ λb μ1=>(b=true->WE φ δ μ1 Q)/\(b=false->WE ψ δ μ1 Q)):WE (fIf c φ ψ) δ μ Q:=by
 obtain⟨b,μ1,e,h1,h2⟩:=h
 cases b with
 |true=>obtain⟨d,μ2,e2,k⟩:=h1 rfl;exact⟨d,μ2,by simp[e,e2],k⟩
 |false=>obtain⟨d,μ2,e2,k⟩:=h2 rfl;exact⟨d,μ2,by simp[e,e2],k⟩
def z6y{l:Nat}{n:Int}(h:μ[l]?=some (.lst xs))(h1:n<=1000)(h2:-(2^62)<=n)(h3:xs.length<=1000)(q:Q (.loc μ.length) (μ++[.lst (yD n.toNat xs).flatten])):W2 zqj (.loc l) (.int n) μ Q :=
 ⟨_,_,by simp only[zqj,h];rw[decide_eq_true ⟨h1,h2,h3⟩];rfl,q⟩
def zfy{lo hi:FO}(h:WE φ δ μ λx μ1=>WO lo δ μ1 λl μ2=>WO hi δ μ2 λu μ3=>∃n ds,x=.loc n/\μ3[n]?=some (.lst ds)/\Q (.loc μ3.length) (μ3++[.lst (cutD ds l u)])):WE (fSl φ lo hi) δ μ Q:=by
 obtain⟨x,μ1,e1,l,μ2,e2,u,μ3,e3,n,ds,rfl,e4,q⟩:=h;exact⟨_,_,by simp[e1,e2,e3,e4]<;>rfl,q⟩
def zEx{R:Loc->Mem->Prop}(h:WE φ δ μ λx μ1=>WE ψ δ μ1 λy μ2=>∃(n:Nat)(i:Int)(zs:List D),x=.loc n/\y=.int i/\μ2[n]?=some (.lst zs)/\(0<=i/\i<zs.length)/\R δ (μ2.set n (.lst (zs.set i.toNat d)))):WG (gAt φ ψ) d δ μ R:=by
 obtain⟨x,μ1,e1,y,μ2,e2,n,i,zs,rfl,rfl,e3,hi,q⟩:=h;have e4:ixN zs.length i=some i.toNat:=by unfold ixN;rw[if_pos hi.1,if_pos hi.2]
 exact⟨_,_,by simp[e1,e2,e3,e4]<;>rfl,q⟩
end
abbrev nat(S:List Nat):List D:=S.map λ(k:Nat)=>D.int k
def zSg(a b:List Nat):nat (a++b)=nat a++nat b:=map_append
def zGi{α:Type}(f:α->Nat)(l:List α):nat (l.map f)=l.map λa=>D.int (f a:Nat):=map_map
class Enc(α:Type) where
 d:α->D
 p:α->Xc
 dep:Nat
 rd:∀(μ:Mem)(n:Nat)(a:α),toP μ (n+dep) (d a)=some (p a)
 eq:∀a b:α,Yp (p a) (p b)=true↔a=b
instance:Enc Int:=⟨.int,.int,1,λ_ _ _=>rfl,λa b=>by simp[Yp]⟩
instance:Enc Nat:=⟨λ(k:Nat) =>.int k,λ(k:Nat) =>.int k,1,λ_ _ _=>rfl,λa b=>by simp[Yp];omega⟩
instance:Enc Bool:=⟨.bl,.bool,1,λ_ _ _=>rfl,λa b=>by simp[Yp]⟩
abbrev onD:Option Nat->D
 |none =>.non
 |some k =>.int k
instance:Enc (Option Nat):=⟨onD,fun|none =>.none|some k =>.int k,1,λ_ _ a=>by cases a<;>rfl,λa b=>by cases a<;>cases b<;>simp[Yp];omega⟩
def zLg{α:Type}[Enc α]:∀xs ys:List α,Xp (xs.map Enc.p) (ys.map Enc.p)=true↔xs=ys
 |[],[]=>by simp[Xp]
 |[],y::ys=>by simp[Xp]
 |x::xs,[]=>by simp[Xp]
 |x::xs,y::ys=>by
  rw[map_cons,map_cons,Xp,yO,Enc.eq,zLg xs ys,xj]
def ST{α:Type}[Enc α](μ:Mem)(n:Nat):∀xs:List α,(xs.map Enc.d).mapM (toP μ (n+Enc.dep α))=some (xs.map Enc.p)
 |[]=>rfl
 |x::xs=>by rw[map_cons,mapM_cons,ST μ n xs,Enc.rd];rfl
instance instEncList{α:Type}[Enc α]:Enc (List α):=⟨λxs =>.tup (xs.map Enc.d),λxs =>.tuple (xs.map Enc.p),Enc.dep α+1,λμ n xs=>by
 show((xs.map Enc.d).mapM (toP μ (n+Enc.dep α))).bind (λps=>some (PyData.tuple ps))=_;rw[ST];rfl,λa b=>by rw[Yp];exact zLg a b⟩
def z5p{μ:Mem}{α:Type}[Enc α](a:α)(h:Enc.dep α<=8):toP μ 8 (Enc.d a)=some (Enc.p a):=by
 have:=Enc.rd μ (8-Enc.dep α) a;rw[Nat.sub_add_cancel h]at this;exact this
def zwh{b:Bool}{p:Prop}[Decidable p](h:b=true↔p):b=decide p:=by
 cases b<;>simp_all
section
variable {φ ψ χ:FE}{g g2:G2}{δ:Loc}{μ:Mem}{Q:D->Mem->Prop}{i j:Int}{d x y:D}{ds xs:List D}{α:Type}[Enc α][DecidableEq α]
def zAt(a b:α)(q:Q (.bl (decide (a=b))) μ)(hx:x=Enc.d a:=by rfl)(hy:y=Enc.d b:=by rfl)(h:Enc.dep α<=8:=by decide):W2 gEq x y μ Q:=by
 subst hx hy;exact zdA (z5p a h) (z5p b h) (by rw[zwh (Enc.eq a b)];exact q)
def zxj{n:Nat}(as:List α)(e:μ[n]?=some (.lst (as.map Enc.d)))(h:Enc.dep α<=7):toP μ 8 (.loc n)=some (.list (as.map Enc.p)):=by
 show(match μ[n]? with
  |some (.lst ds)=>(ds.mapM (toP μ 7)).bind λps=>some (PyData.list ps)
  |_=>none)=_
 rw[e];show((as.map Enc.d).mapM (toP μ 7)).bind (λps=>some (PyData.list ps))=_;have:=ST μ (7-Enc.dep α) as;rw[Nat.sub_add_cancel h]at this;rw[this];rfl
def zZx(as bs:List α){m n:Nat}(e1:μ[m]?=some (.lst (as.map Enc.d)))(e2:μ[n]?=some (.lst (bs.map Enc.d)))(q:Q (.bl (decide (as=bs))) μ)(h:Enc.dep α<=7:=by decide):W2 gEq (.loc m) (.loc n) μ Q :=
 zdA (zxj as e1 h) (zxj bs e2 h) (by rw[Yp,zwh (zLg as bs)];exact q)
def zwy(as bs:List α){m n:Nat}(e1:μ[m]?=some (.lst (as.map Enc.d)))(e2:μ[n]?=some (.lst (bs.map Enc.d)))(q:Q (.bl (!decide (as=bs))) μ)(h:Enc.dep α<=7:=by decide):W2 gNe (.loc m) (.loc n) μ Q :=
 zHB (zxj as e1 h) (zxj bs e2 h) (by rw[Yp,zwh (zLg as bs)];exact q)
def zOm(S:List Nat):(nat S).all zdd=true:=List.all_eq_true.mpr λx hx=>by
 obtain⟨k,_,rfl⟩:=List.mem_map.mp hx;rfl
def znp(k:Nat):∀S:List Nat,((nat S).any λd=>eqF d (.int k))=decide (k∈S):=λS=>by
 refine zwh ?_;rw[any_eq_true];constructor
 ·rintro⟨x,hx,e⟩;obtain⟨j,hj,rfl⟩:=List.mem_map.mp hx;have h1:(j:Int)=k:=beq_iff_eq.mp (show((j:Int)==(k:Int))=true from e);have h2:j=k:=by omega
  exact h2▸hj
 ·intro h;exact⟨.int k,List.mem_map.mpr ⟨k,h,rfl⟩,(show((k:Int)==(k:Int))=true from beq_self_eq_true _)⟩
def zkx{k:Nat}{S:List Nat}(h:items μ y=some (nat S))(q:Q (.bl (decide (k∈S))) μ):W2 gIn (.int k) y μ Q:=zBB h rfl (zOm S) (by rw[znp];exact q)
def zyq{k:Nat}{S:List Nat}(h:items μ y=some (nat S))(q:Q (.bl (!decide (k∈S))) μ):W2 zek (.int k) y μ Q:=zBs h rfl (zOm S) (by rw[znp];exact q)
def z1t(S:List (Option Nat)):(S.map onD).all zdd=true:=List.all_eq_true.mpr λx hx=>by
 obtain⟨k,_,rfl⟩:=List.mem_map.mp hx;cases k<;>rfl
def zMy(a b:Option Nat):eqF (onD a) (onD b)=decide (a=b):=by
 cases a<;>cases b<;>try rfl
 rename_i a b
 show(((a:Nat):Int)==(b:Nat))=decide (some a=some b);rw[Bool.eq_iff_iff,beq_iff_eq,decide_eq_true_iff,YQ,Int.natCast_inj]
def zsz{n:Nat}{S:List Nat}(h:μ[n]?=some (.lst (nat S)))(q:Q (.int (S.sum:Nat)) μ):WF zzy [.loc n] μ Q:=by
 refine zvA (ns:=S.map λ(k:Nat)=>(k:Int)) (by rw[h];simp) ?_
 have:(S.map λ(k:Nat)=>(k:Int)).sum=((S.sum:Nat):Int):=by
  clear h q
  induction S with
  |nil=>rfl
  |cons a S ih=>rw[map_cons,sum_cons,sum_cons,ih];omega
 rw[this];exact q
def zFh{S:List Nat}{i:Nat}(h:i<S.length):atI (nat S) (i:Int)=some (.int (S.getD i 0:Nat)):=zmc (by simp[h])
end
section
variable {φ ψ χ:FE}{g g2:G2}{δ:Loc}{μ:Mem}{Q:D->Mem->Prop}{i j:Int}{d x y:D}{ds xs:List D}
def zAh{R:List D->(Mem->Bool)->Mem->Prop}(h:WE φ δ μ λx μ1=>(∃ds,x=.tup ds/\R (zjg ds) yes μ1)\/(∃ds,x=.fz ds/\R (zjg ds) yes μ1)\/∃n ds,x=.loc n/\μ1[n]?=some (.lst ds)/\R (zjg ds) (z4j n ds) μ1):WI (z1k φ) δ μ R:=by
 obtain⟨x,μ1,e1,⟨ds,rfl,q⟩|⟨ds,rfl,q⟩|⟨n,ds,rfl,e2,q⟩⟩:=h
 ·exact⟨_,_,_,by simp[e1]<;>rfl,q⟩
 ·exact⟨_,_,_,by simp[e1]<;>rfl,q⟩
 ·exact⟨_,_,_,by simp[e1,e2]<;>rfl,q⟩
def zys{α:Type}(f:α->D)(xs:List α):zjg (xs.map f)=xs.zipIdx.map λp =>.tup [.int (p.2:Nat),f p.1]:=by
 refine ext_getElem? λi=>?_;unfold zjg;simp only[yh,XB];cases xs[i]?<;>rfl
def zCl{α:Type}{f:α->D}{xs:List α}{m:Nat}{x:D}(h:(zjg (xs.map f))[m]?=some x):∃y,xs[m]?=some y/\x=.tup [.int m,f y]:=by
 obtain⟨z,hz,rfl⟩:=zln h;rw[yh]at hz
 cases e:xs[m]? with
 |none=>rw[e]at hz;cases hz
 |some y=>rw[e]at hz;cases hz;exact⟨y,rfl,rfl⟩
def ztu{n:Nat}(h:μ[n]?=some (.lst xs))(h1:zdd d=true)(h2:xs.all zdd=true)(q:Q (.int (xs.countP λy=>eqF y d:Nat)) μ):WM zRk (.loc n) [d] μ Q:=⟨_,_,by simp only[zRk,h,h1,h2,Xo,cond_true],q⟩
def zst{n k:Nat}{S:List Nat}(h:μ[n]?=some (.lst (nat S)))(hk:k∈S)(q:Q .non (μ.set n (.lst (nat (S.erase k))))):WM zvi (.loc n) [.int k] μ Q:=by
 have e1:nat S=(S.map λ(k:Nat)=>(k:Int)).map D.int:=by simp
 have e2:∀T:List Nat,(T.map λ(k:Nat)=>(k:Int)).erase (k:Int)=(T.erase k).map λ(k:Nat)=>(k:Int):=λT=>by
  induction T with
  |nil=>rfl
  |cons t T ih=>
   rw[map_cons]
   by_cases ht:t=k
   ·subst ht;simp
   ·rw[List.erase_cons_tail (by simp;omega),List.erase_cons_tail (by simpa using ht),ih];rfl
 have e3:(S.map λ(k:Nat)=>(k:Int)).contains (k:Int)=true:=by
  rw[List.contains_iff_mem];exact List.mem_map.mpr ⟨k,hk,rfl⟩
 refine⟨.non,_,?_,q⟩;simp only[zvi,h];rw[e1,zDh];simp only[yr,e3,cond_true,e2];rw[map_map];rfl
end
section
variable {φ ψ:FE}{δ:Loc}{μ:Mem}{nx:Loc->Mem->Prop}{rt:D->Mem->Prop}{bk ct:Loc->Mem->Prop}{p q:FS}
def ziA{i:Nat}{g:G2}{x:D}(hx:δ[i]?=some (some x))(h:WE φ δ μ λy μ1=>W2 g x y μ1 λd μ2=>nx (δ.set i (some d)) μ2):WS (zDz i g φ) δ μ nx rt bk ct:=by
 obtain⟨y,μ1,e1,d,μ2,e2,k⟩:=h;exact⟨.next _ _,by simp only[zDz,hx,e1,yr,e2],k⟩
def zaz{i j:Int}{Q:D->Mem->Prop}(q:Q (.int (i+j)) μ):W2 zyv (.int i) (.int j) μ Q:=⟨_,_,rfl,q⟩
def zBm{c:FT}{body:FS}(I:Nat->Loc->Mem->Prop):∀{n m:Nat} {δ:Loc} {μ:Mem},m<n->I m δ μ ->
 (∀m δ μ,I m δ μ->WT c δ μ λb μ1=>(b=true->WS body δ μ1 (λδ' μ'=>∃m',m'<m/\I m' δ' μ') rt nx (λδ' μ'=>∃m',m'<m/\I m' δ' μ'))/\(b=false->nx δ μ1))->WS (zyo n c body) δ μ nx rt bk ct
 |0,m,δ,μ,h,_,_=>absurd h (Nat.not_lt_zero _)
 |n+1,m,δ,μ,h,h0,hs=>by
  obtain⟨b,μ1,e1,ht,hf⟩:=hs m δ μ h0
  cases b with
  |false=>exact⟨.next δ μ1,by show znc c body (n+1) δ μ=_;simp only[znc,e1,yr,cond_false],hf rfl⟩
  |true=>
   obtain⟨o,e2,k⟩:=ht rfl
   have step:∀δ' μ',(∃m',m'<m/\I m' δ' μ')->∃o,znc c body n δ' μ'=some o/\Ek nx rt bk ct o:=λδ' μ' ⟨m',hm',hI⟩=>by
    obtain⟨o,e,k⟩:=zBm I (n:=n) (m:=m') (by omega) hI hs;exact⟨o,e,k⟩
   cases o with
   |next δ' μ'=>obtain⟨o,e3,k3⟩:=step δ' μ' k;exact⟨o,by show znc c body (n+1) δ μ=_;simp only[znc,e1,yr,cond_true,e2];exact e3,k3⟩
   |cont δ' μ'=>obtain⟨o,e3,k3⟩:=step δ' μ' k;exact⟨o,by show znc c body (n+1) δ μ=_;simp only[znc,e1,yr,cond_true,e2];exact e3,k3⟩
   |brk δ' μ'=>exact⟨.next δ' μ',by show znc c body (n+1) δ μ=_;simp only[znc,e1,yr,cond_true,e2],k⟩
   |ret d μ'=>exact⟨.ret d μ',by show znc c body (n+1) δ μ=_;simp only[znc,e1,yr,cond_true,e2],k⟩
   |exc _ _ _=>exact k.elim
end
def zBe{α:Type}(f:α->D)(xs:List α)(d:α):zjg (xs.map f)=(yv xs.length).map λ(k:Nat) =>.tup [.int k,f (xs.getD k d)]:=by
 refine ext_getElem? λi=>?_;unfold zjg;simp only[yh,XB]
 by_cases h:i<xs.length
 ·simp[h]
 ·simp[h]
abbrev oiD:Option Int->D
 |none =>.non
 |some k =>.int k
instance:Enc (Option Int):=⟨oiD,fun|none =>.none|some k =>.int k,1,λ_ _ a=>by cases a<;>rfl,λa b=>by cases a<;>cases b<;>simp[Yp]⟩
def zxx:D->Bool
 |.non=>true
 |_=>false
def zTA{d:D}{μ:Mem}{Q:D->Mem->Prop}(h:zdd d=true)(q:Q (.bl (zxx d)) μ):W2 gIs d .non μ Q:=by
 cases d<;>first|exact⟨_,_,rfl,q⟩|cases h
def zmj{d:D}{μ:Mem}{Q:D->Mem->Prop}(h:zdd d=true)(q:Q (.bl (!zxx d)) μ):W2 zSi d .non μ Q:=by
 cases d<;>first|exact⟨_,_,rfl,q⟩|cases h
def zpq(a:Option Nat):zdd (onD a)=true:=by cases a<;>rfl
def zvx(ds:List D)(h:Nat):Nat:=ds.countP λy=>eqF y (.int h)
def zyu(lay:List (Option Nat))(h:Nat):zvx (lay.map onD) h=lay.count (some h):=by
 unfold zvx List.count;rw[List.countP_map]
 congr 1
 funext a
 have:=zMy a (some h);show eqF (onD a) (onD (some h))=_;rw[this];exact(Bool.beq_eq_decide_eq a (some h)).symm
def zMs{n:Nat}{lay:List (Option Nat)}{h:Nat}{μ:Mem}{Q:D->Mem->Prop}(e:μ[n]?=some (.lst (lay.map onD)))(q:Q (.int (lay.count (some h):Nat)) μ):WM zRk (.loc n) [.int h] μ Q :=
 ztu e rfl (z1t lay) (by rw[show(lay.map onD).countP (λy=>eqF y (.int h))=lay.count (some h) from zyu lay h];exact q)
def zFl{n m:Nat}{p:Nat->Bool}(h:p m=true)(hlt:m<n)(hb:∀j<m,p j=false):(yv n).find? p=some m:=by
 rw[List.find?_eq_some_iff_append];refine⟨h,yv m,(List.range' (m+1) (n-m-1)),?_,λa ha=>by simp[hb a (by simpa using ha)]⟩
 have:yv n=yv m++List.range' m (n-m):=by
  have e:n=m+(n-m):=by omega
  have:=List.range'_append_1 (s:=0) (m:=m) (n:=n-m);rw[<-e]at this;rw[List.range_eq_range',List.range_eq_range',<-this];simp
 rw[this,show n-m=(n-m-1)+1 by omega,List.range'_succ];simp
def zeg{n:Nat}{p:Nat->Bool}(h:∀j<n,p j=false):(yv n).find? p=none:=by
 rw[List.find?_eq_none];intro x hx;rw[h x (by simpa using hx)];exact yC
section
variable {φ ψ χ:FE}{g g2:G2}{δ:Loc}{μ:Mem}{Q:D->Mem->Prop}{i j:Int}{d x y:D}{ds xs:List D}{kvs:List (Int×D)}{n:Nat}
def zhe(h:μ[n]?=some (.dct kvs)):zxc μ (.loc n)=some kvs:=by simp[h]
def zIi(h:μ[n]?=some (.dcf kvs)):zxc μ (.loc n)=some kvs:=by simp[h]
def zux(h:zxc μ x=some kvs)(h2:z3c kvs i=some d)(q:Q d μ):W2 z8v x (.int i) μ Q:=⟨_,_,by simp only[z8v,h,yr,h2],q⟩
def znw(h:zxc μ y=some kvs)(q:Q (.bl (z3c kvs i).isSome) μ):W2 zMo (.int i) y μ Q:=⟨_,_,by simp only[zMo,h,yr],q⟩
def zkz(h:zxc μ y=some kvs)(h2:kvs.all (λp=>decide (0<=p.1/\p.1<1000))=true)(q:Q (.bl false) μ):W2 zMo .non y μ Q:=⟨_,_,by simp only[zMo,h,yr,h2,cond_true],q⟩
def zqv(h:zxc μ y=some kvs)(q:Q (.bl (!(z3c kvs i).isSome)) μ):W2 z3j (.int i) y μ Q:=⟨_,_,by simp only[z3j,h,yr],q⟩
def zbr{R:Loc->Mem->Prop}(h:WE φ δ μ λx μ1=>WE ψ δ μ1 λy μ2=>∃(n:Nat)(i:Int)(kvs:List (Int×D)),x=.loc n/\y=.int i/\μ2[n]?=some (.dct kvs)/\kvs.length<=1000000/\R δ (μ2.set n (.dct (zTr kvs i d)))):WG (zmy φ ψ) d δ μ R:=by
 obtain⟨x,μ1,e1,y,μ2,e2,n,i,kvs,rfl,rfl,e3,hi,q⟩:=h;exact⟨_,_,by simp[e1,e2,e3,hi]<;>rfl,q⟩
def zmx(h:zxc μ x=some kvs)(q:Q (.loc μ.length) (μ++[.lst (zXj kvs)])):WF zlo [x] μ Q:=⟨_,_,by simp only[zlo,h,yr],q⟩
def zFx{R:List D->(Mem->Bool)->Mem->Prop}(h:WE φ δ μ λx μ1=>∃n kvs,x=.loc n/\μ1[n]?=some (.dct kvs)/\R (zXj kvs) yes (μ1.set n (.dcf kvs))):WI (zey φ) δ μ R:=by
 obtain⟨x,μ1,e1,n,kvs,rfl,e2,q⟩:=h;exact⟨_,_,_,by simp[e1,e2]<;>rfl,q⟩
def zOz(h:WE φ δ μ λx μ1=>∃n ds,x=.loc n/\μ1[n]?=some (.lst ds)/\Q (.loc μ1.length) (μ1++[.lst ds.reverse])):WE (zfv φ) δ μ Q:=by
 obtain⟨x,μ1,e1,n,ds,rfl,e2,q⟩:=h;exact⟨_,_,by simp[zfv,e1,e2]<;>rfl,q⟩
end
section
variable {φ χ:FE}{ψ:FA}{δ:Loc}{μ:Mem}{Q:D->Mem->Prop}{c f m:yy}
def z8m(h:WE φ δ μ λx μ1=>∃n fs d,x=.loc n/\μ1[n]?=some (.ins c fs)/\fs.lookup f=some d/\Q d μ1):WE (zas c f φ) δ μ Q:=by
 obtain⟨x,μ1,e,n,fs,d,rfl,h1,h2,q⟩:=h;exact⟨d,μ1,by simp only[zas,e,yr,h1,beq_self_eq_true,cond_true,h2],q⟩
def zfu{nx:Loc->Mem->Prop}{rt:D->Mem->Prop}{bk ct:Loc->Mem->Prop}(h:WE χ δ μ λy μ1=>WE φ δ μ1 λx μ2=>∃n fs,x=.loc n/\μ2[n]?=some (.ins c fs)/\fs.length<1000/\nx δ (μ2.set n (.ins c (zNi f y fs)))):WS (zds c f φ χ) δ μ nx rt bk ct:=by
 obtain⟨y,μ1,e1,x,μ2,e2,n,fs,rfl,h1,h2,q⟩:=h;exact⟨.next δ _,by simp only[zds,e1,e2,yr,h1,beq_self_eq_true,decide_eq_true h2,Xo,cond_true],q⟩
def zVb{R:List D->Mem->Prop}(h:WE φ δ μ λx μ1=>∃n fs,x=.loc n/\μ1[n]?=some (.ins c fs)/\fs.lookup m=none/\WA ψ δ μ1 λds μ2=>R (.loc n::ds) μ2):WA (z6b c m φ ψ) δ μ R:=by
 obtain⟨x,μ1,e,n,fs,rfl,h1,h2,ds,μ2,e2,q⟩:=h;exact⟨_,μ2,by simp only[z6b,e,yr,h1,h2,beq_self_eq_true,Option.isNone_none,Xo,cond_true,e2],q⟩
def z4y{F:FF}(h:WA ψ δ μ λds μ1=>WF F (.loc μ1.length::ds) (μ1++[.ins c []]) λd μ2=>d=.non/\Q (.loc μ1.length) μ2):WE (zDr c F ψ) δ μ Q:=by
 obtain⟨ds,μ1,e,d,μ2,e2,rfl,q⟩:=h;exact⟨_,μ2,by simp only[zDr,e,yr,e2],q⟩
def zSt{g:GM}(h:WE φ δ μ λx μ1=>∃n kvs,x=.loc n/\μ1[n]?=some (.dct kvs)/\WA ψ δ μ1 λds μ2=>WM g (.loc n) ds μ2 Q):WE (zik g φ ψ) δ μ Q:=by
 obtain⟨x,μ1,e,n,kvs,rfl,h1,ds,μ2,e2,d,μ3,e3,q⟩:=h;exact⟨d,μ3,by simp only[zik,e,yr,h1,e2,e3],q⟩
def z3z{x:D}{i:Int}{kvs:List (Int×D)}(h:zxc μ x=some kvs)(q:Q ((z3c kvs i).getD .non) μ):WM zhs x [.int i] μ Q:=⟨_,_,by simp only[zhs,h,yr],q⟩
def zFz{n:Nat}{i:Int}{kvs:List (Int×D)}{d:D}(h:μ[n]?=some (.dct kvs))(h2:z3c kvs i=some d)(q:Q d (μ.set n (.dct (zSx kvs i)))):WM zfr (.loc n) [.int i] μ Q:=⟨_,_,by simp only[zfr,h,h2,yr],q⟩
end
end M
namespace M
open PySem PySem.W PyProof.Rows L2
def zvp{h:yV}:∀{as:List yd} {a:yd} {o:YY},(kOf as h).lookup a=some o->h.get? a=some o
 |[],a,o,e=>by cases e
 |b::as,a,o,e=>by
  unfold kOf at e;rw[filterMap_cons]at e
  cases hb:h.get? b with
  |none=>rw[hb]at e;exact zvp (as:=as) e
  |some u=>
   rw[hb]at e
   change YR a ((b,u)::kOf as h)=some o at e
   rw[lookup_cons]at e
   by_cases q:a==b
   ·rw[q]at e;cases e;rw[eq_of_beq q];exact hb
   ·rw[Bool.not_eq_true]at q;rw[q]at e;exact zvp (as:=as) e
def zBx{h:yV}:(zSp h).In h:=λ_ _ e=>zvp e
def zLu(s:Yi):zbx s=zWd s:=by cases s<;>rfl
def zlv(s:Yi):zKx s=zNc s:=by cases s<;>rfl
def znt(s:Yi):zqs s=zB s:=by cases s<;>rfl
def zEc{K:Frag}{a:yd}{nm qual:yy}{st:Yi}(e:zme K a qual=zKe nm qual st):∃(oc:yb)(od:Option yd)(sl:Array (Option yb)) (kV dc pm:yb) (an:Option yd) (cd ct:yb),
 K.lookup a=some ⟨oc,od,.func (fnOf nm qual (zWd st) (zNc st) (zB st) .none kV dc pm an cd ct),sl⟩/\codeIn K cd qual=true/\keepIn K (.ref a)=true:=by
 rw[<-zLu,<-zlv,<-znt];unfold zme at e
 split at e
 ·rename_i oc od fd sl hl
  obtain⟨x1,x2,x3,x4,x5,x6,x7,x8,x9,x10,x11,x12,x13,x14,x15⟩:=fd;have e:=Yj e;simp only[sF.mk.injEq]at e;obtain⟨rfl,rfl,rfl,rfl,rfl,rfl,rfl,rfl,rfl,h1,h2⟩:=e;exact⟨_,_,_,_,_,_,_,_,_,hl,h1,h2⟩
 ·cases e
def fnl{K:Frag}{nm:yy}{st:Yi}{l l':List (Option sF)}(e:zhb K nm::l=zpb nm st::l'):(∃(f:yd)(oc:yb)(od:Option yd)(sl:Array (Option yb)) (kV dc pm:yb) (an:Option yd) (cd ct:yb),
 nsIn K yp nm=some (some (.ref f))/\K.lookup f=some ⟨oc,od,.func (fnOf nm nm (zWd st) (zNc st) (zB st) .none kV dc pm an cd ct),sl⟩/\codeIn K cd nm=true/\keepIn K (.ref f)=true)/\l=l':=by
 obtain⟨h1,h2⟩:=yf e;refine⟨?_,h2⟩;unfold zhb at h1
 split at h1
 ·rename_i a ha
  obtain⟨oc,od,sl,kV,dc,pm,an,cd,ct,q⟩:=zEc (show zme K a nm=zKe nm nm st from h1);exact⟨a,oc,od,sl,kV,dc,pm,an,cd,ct,ha,q⟩
 ·cases h1
def fnc{K:Frag}{nm:yy}{st:Yi}{l l':List (Option sF)}(e:zhb K nm::l=zpb nm st::l'):(∃(f:yd)(fd:yi),nsIn K yp nm=some (some (.ref f))/\Fun K nm nm st f fd)/\l=l':=by
 obtain⟨⟨f,oc,od,sl,kV,dc,pm,an,cd,ct,a,l,c,k⟩,e⟩:=fnl e;exact⟨⟨f,_,a,zze l c k⟩,e⟩
def zJn{K:Frag}{nm:yy}{i:Int}(e:zgm K nm=some i):∃t,nsIn K yp nm=some (some (.int i t)):=by
 unfold zgm at e
 split at e
 ·rename_i h
  cases e;exact⟨_,h⟩
 ·cases e
def SU{l:OpenLaw}{q:yB}{loose:List yy}{d:DefRec}{α:Type}{obs:Frag->α}{good:α}{N:Nat}(said:l.wellSaid=true)
 (left:LeftO l.prog q loose (λ_=>true) (λs=>obs (zSp s.heap)) (λ_=>good) N) (hdef:defOf q l.name=some (d,[])) (hp:l.prog.theDef l.name=some (d.params,d.body,d.scope))
 (hk:kwWritten? d.params.kwonlyargs d.params.kw_defaults=some []) (ok:(chainsOk q&&opensWell l.prog&&(frees l.row.toRowW&&l.row.within.isEmpty))=true) (hb:l.prog.bare) (hw:l.row.toRowW.promised)
 (walk:∀K:Frag,obs K=good->WalkO q loose (λ_ _=>True) (λ_ h=>K.In h) l.row.toRowW d [] λf vs=>PySem.call f vs):l.Holds:=by
 refine holds_law said λsaid=>?_
 refine holds_open (r:=l.row) (q:=q) (loose:=loose) (Xt:=λ_=>true) (XP:=λ_ _=>True) (Yf:=λs=>obs (zSp s.heap)) (Ya:=λ_=>good) (YP:=λ_ h=>∃K:Frag,obs K=good/\K.In h) (N:=N) left
  (λw s e=>⟨_,e,zBx⟩) (λw h h' ⟨K,e,k⟩ x=>⟨K,e,k.keeps x⟩) (λ_ _=>trivial) (λ_ _ _ _ _=>trivial) hdef hp hk (λs _=>?_) ?_ said ok hb hw (λw s₀ s₁ mg mb G Y=>?_)
 ·exact(show RecFacts [] s.heap from⟨λx h=>(nomatch h),λx h=>(nomatch h),λc c' a hc=>(nomatch hc),λc fs hf=>(nomatch hf)⟩)
 ·show(!l.row.writes||true)=true;exact Bool.or_true _
 ·obtain⟨K,e,k⟩:=Y;exact walk K e w s₀ s₁ mg mb G k
end M
namespace M
open PySem PySem.W PyProof.Rows L2
def zaq{K:Frag}{C:yd}{n:String}{bm:List yb}(e:zJq K C=some (.type "type",n,.ref C::bm,true,false)) :
 ∃(nm q:yy)(N:yd)(bs:List yb)(sn:List yy)(sub:List yb)(ab:Bool)(col:Option Bool)(dd:Option yd)(k0 k1 k2 k3 k5:Option yb),K.lookup C=some (xu nm q C N bs bm true sn sub ab col dd k0 k1 k2 k3 k5 n):=by
 unfold zJq at e
 split at e
 ·rename_i c dd cd sl hl
  split at e
  ·rename_i k0 k1 k2 k3 m k5 hs
   obtain⟨x1,x2,x3,x4,x5,x6,x7,x8,x9,x10,x11⟩:=cd;have e:=Yj e;simp only[Prod.mk.injEq]at e;obtain⟨rfl,rfl,rfl,rfl,rfl⟩:=e;have:sl = #[k0,k1,k2,k3,some (.builtin m),k5]:=Array.toList_inj.mp hs;subst this;exact⟨_,_,_,_,_,_,_,_,_,_,_,_,_,_,hl⟩
  ·cases e
 ·cases e
def zpt{K:Frag}{C:yd}(e:(clsIn K C).isSome=true):∃cd,clsIn K C=some cd:=Option.isSome_iff_exists.mp e
end M
namespace P
local macro_rules | `(tactic| walk_at "s") => `(tactic| exact ⟨rfl, rfl, rfl, by decide +kernel, rfl, by decide +kernel, by decide +kernel⟩)
open PySem PySem.Spec PyProof.Rows L2 M
def top(i:Nat):Yi:=PySem.Challenge.pw_keynests_k55_whole_what_a_shelf_refuses.main.body.getD i (.Pass ⟨0,0,0,0⟩)
def zil:List yy:=["_law_script"]
def zGg:FS:=(zuc (zWk (zo (zq 0) (zo (fOr (zK gEq (zH zHl (zo (zq 0) zO)) (fC (.int 0))) (zK gEq (zK zCn (zK gIx (zq 0) (fC (.int 0))) (fC (.int 2))) (fC (.int 0)))) (zo (fC (.int 0)) (zo (fC (.int 0)) zO))))))
def zHg:FF:=λds μ=>z0b (zGg (zU zil ds) μ)
def z1f:List yy:=["self","rule"]
def zJc:FS:=(zdb (zds "Shelf" "kept_rule" (zq 0) (zq 1)) (zds "Shelf" "nest_of" (zq 0) zcA))
def z9b:FF:=λds μ=>z0b (zJc (zU z1f ds) μ)
def zXi:List yy:=["_law_script","_law_k","_law_cell","_law_one","_law_two"]
def zXe:FS:=(zdb (zyc 2 (fC (.int 29))) (zdb (sIf (zbb (zK (zTo λi j=>decide (j<i)) (zH zHl (zo (zq 0) zO)) (fC (.int 0)))) (zyc 2 (zK gIx (zq 0) (zK zCn (zq 1) (zH zHl (zo (zq 0) zO))))) zfc) (zdb (zyc 3 (zK zCn (zK z9e (zK zqj (zK z9e (zK z9e (zq 2) (zK zqj (fC (.int 40503)) (zq 1))) (fC (.int 1))) (fC (.int 48271))) (zK zqj (zq 1) (zq 1))) (fC (.int 2147483647)))) (zdb (zyc 4 (zK zCn (zK z9e (zK z9e (zK zqj (zq 3) (zq 3)) (zK zqj (fC (.int 69621)) (zq 3))) (zK zqj (fC (.int 31)) (zq 1))) (fC (.int 2147483629)))) (zuc (zK zCn (zK z9e (zK z9e (zK zqj (zq 4) (zq 4)) (zK zqj (fC (.int 16807)) (zq 4))) (zq 1)) (fC (.int 1073741789))))))))
def zMe:FF:=λds μ=>z0b (zXe (zU zXi ds) μ)
def z6j:List yy:=["_law_pen_here","_law_many","_law_script","_law_is_mixed","_law_k","_law_rest"]
def zJf:FS:=(zdb (zks (zq 0) (gTL 4 (zYb (gN 2) (zYb (gN 3) (zYb (gN 4) (zYb (gN 5) zbh)))))) (zdb (zks (zK z9e (zq 4) (fC (.int 1))) (gAt (zq 0) (fC (.int 2)))) (zdb (sIf (zbb (zq 3)) (zuc (zK zCn (zH zMe (zo (zq 2) (zo (zq 4) zO))) (zq 1))) zfc) (zdb (sIf (zbb (zK gEq (zK zCn (zq 4) (fC (.int 60))) (fC (.int 0)))) (zdb (zyc 5 (fC (.int 0))) (sIf (zbb (zK (zTo λi j=>decide (i<j)) (zK z9e (zK zZw (zq 4) (fC (.int 60))) (fC (.int 1))) (zH zHl (zo (zq 2) zO)))) (zyc 5 (zK gIx (zq 2) (zK z9e (zK zZw (zq 4) (fC (.int 60))) (fC (.int 1))))) zfc)) zfc) (zdb (zks (zK zZw (zq 5) (zq 1)) (gAt (zq 0) (fC (.int 3)))) (zuc (zK zCn (zq 5) (zq 1))))))))
def zM:FF:=λds μ=>z0b (zJf (zU z6j ds) μ)
def zTf:FE:=(z4l (zo (zH zM (zo (zq 1) (zo (zq 2) zO))) (zo (zH zM (zo (zq 1) (zo (zq 2) zO))) zO)))
def zwf:FE:=(zH zM (zo (zq 1) (zo (zq 2) zO)))
def zdk:List yy:=["_law_pen_here","_law_nests","_law_wide","_law_rooms","_law_far"]
def zEf:FS:=(zdb (zyc 1 (zK z9e (fC (.int 1)) (zH zM (zo (zq 0) (zo (fC (.int 6)) zO))))) (zdb (sIf (zbb (zK gEq (zH zM (zo (zq 0) (zo (fC (.int 8)) zO))) (fC (.int 5)))) (zyc 1 (zK z9e (fC (.int 5)) (zH zM (zo (zq 0) (zo (fC (.int 6)) zO))))) zfc) (zdb (zyc 2 (zK gIx (zWk (zo (fC (.int 2)) (zo (fC (.int 3)) (zo (fC (.int 3)) (zo (fC (.int 10)) zO))))) (zH zM (zo (zq 0) (zo (fC (.int 4)) zO))))) (zdb (zyc 3 (zH z3g (zo (fLC 1 [0,2] (zZi (zo (zq 1) zO)) (gN 0) zqk zwf) zO))) (zdb (zyc 4 (zK gIx (zWk (zo (fC (.int 10007)) (zo (fC (.int 10007)) (zo (fC (.int 12)) zO)))) (zH zM (zo (zq 0) (zo (fC (.int 3)) zO))))) (zuc (z4l (zo (zq 3) (zo (zH z3g (zo (fLC 1 [0,4] (zZi (zo (zK z9e (fC (.int 2)) (zH zM (zo (zq 0) (zo (fC (.int 2)) zO)))) zO)) (gN 0) zqk zTf) zO)) zO)))))))))
def zne:FF:=λds μ=>z0b (zEf (zU zdk ds) μ)
def zhf:List yy:=["self"]
def zvc:FS:=(zuc (zH zTq (zo (zas "Shelf" "nest_of" (zq 0)) zO)))
def zF:FF:=λds μ=>z0b (zvc (zU zhf ds) μ)
def z3l:List yy:=["_law_pen_here","_law_keys","_law_way"]
def zrg:FS:=(zdb (zyc 2 (zH zM (zo (zq 0) (zo (fC (.int 8)) zO)))) (zdb (sIf (zNt (zbb (zK (zTo λi j=>decide (i<j)) (zq 2) (fC (.int 3)))) (zbb (zK gNe (zq 1) (zWk zO)))) (zuc (zK gIx (zq 1) (zH zM (zo (zq 0) (zo (zH zHl (zo (zq 1) zO)) zO))))) zfc) (zdb (sIf (zbb (zK gEq (zq 2) (fC (.int 3)))) (zuc (zH zM (zo (zq 0) (zo (zK zny (fC (.int 10)) (fC (.int 59))) zO)))) zfc) (zuc (zH zM (zo (zq 0) (zo (fC (.int 40)) zO)))))))
def zCg:FF:=λds μ=>z0b (zrg (zU z3l ds) μ)
def zUn:FE:=(zq 0)
def zWs:FT:=(zbb (zK gEq (zq 1) (zq 2)))
def zVt:List yy:=["laying","nest"]
def zlm:FS:=(zuc (fLC 2 [1] (z1k (zq 0)) (gT 2 (zYb (gN 0) (zYb (gN 1) zbh))) zWs zUn))
def z1m:FF:=λds μ=>z0b (zlm (zU zVt ds) μ)
def zTh:FS:=(sIf (zbb (zK z3j (zq 4) (zq 3))) (zdb (zks (z4l (zo (zq 7) (zo (zK gIx (zq 5) (zq 6)) zO))) (zmy (zq 3) (zq 4))) (zHj (zFi zkh (zq 5) (zo (zq 4) zO)))) zfc)
def zKf:FS:=(zHm (zmh (zK gIx (zK gIx (zq 0) (fC (.int 1))) (zq 7))) (gN 4) zTh)
def zpi:FS:=(zdb (zHm (zmh (zH z1m (zo (zq 1) (zo (zK gIx (zq 5) (zq 6)) zO)))) (gN 7) zKf) (zDz 6 zyv (fC (.int 1))))
def zsi:FS:=(zks (z4l (zo (zq 2) (zo (fC .non) zO))) (zmy (zq 3) (zq 4)))
def zFk:List yy:=["web","laying","key","pushes","nest","nests","at","other"]
def zMf:FS:=(zdb (zyc 3 zcA) (zdb (zHm (zmh (zK gIx (zK gIx (zq 0) (fC (.int 1))) (zq 2))) (gN 4) zsi) (zdb (zyc 5 (zH zlo (zo (zq 3) zO))) (zdb (zyc 6 (fC (.int 0))) (zdb (zyo 100000 (zbb (zK (zTo λi j=>decide (i<j)) (zq 6) (zH zHl (zo (zq 5) zO)))) zpi) (zuc (zq 3)))))))
def zuf:FF:=λds μ=>z0b (zMf (zU zFk ds) μ)
def zTv:FE:=(zK zQu (zq 1) (zFi zRk (zq 2) (zo (zq 0) zO)))
def zsw:List yy:=["web","laying"]
def zKl:FS:=(zuc (fLC 2 [1] (z1k (zK gIx (zq 0) (fC (.int 0)))) (gT 2 (zYb (gN 0) (zYb (gN 1) zbh))) zqk zTv))
def zsk:FF:=λds μ=>z0b (zKl (zU zsw ds) μ)
def zWl:FS:=(zdb (zHj (zFi zkh (zq 2) (zo (z4l (zo (zK gIx (zK z8v (zq 0) (zq 1)) (fC (.int 0))) (zo (zq 1) zO))) zO))) (zyc 1 (zK gIx (zK z8v (zq 0) (zq 1)) (fC (.int 1)))))
def zkq:List yy:=["pushes","nest","row"]
def zjj:FS:=(zdb (zyc 2 (zWk zO)) (zdb (zyo 100000 (zbb (zK zSi (zq 1) (fC .non))) zWl) (zuc (zfv (zq 2)))))
def zij:FF:=λds μ=>z0b (zjj (zU zkq ds) μ)
def zrl:FE:=(zq 0)
def z1l:FT:=(zgw (zbb (zK gEq (zq 0) (zq 2))) (zbb (zK zMo (zq 1) (zq 3))))
def zsl:FS:=(sIf (zbb (zK (zTo λi j=>decide (j<i)) (zK gIx (zq 4) (zq 5)) (fC (.int 0)))) (zuc (z4l (zo (fC (.str "put")) (zo (zH zij (zo (zq 3) (zo (zq 5) zO))) zO)))) zfc)
def ztq:List yy:=["web","laying","key","pushes","room","nest"]
def zhj:FS:=(zdb (zyc 3 (zH zuf (zo (zq 0) (zo (zq 1) (zo (zq 2) zO))))) (zdb (zyc 4 (zH zsk (zo (zq 0) (zo (zq 1) zO)))) (zdb (zHm (zey (zq 3)) (gN 5) zsl) (zuc (z4l (zo (fC (.str "full")) (zo (fLC 2 [2,3] (z1k (zq 1)) (gT 2 (zYb (gN 0) (zYb (gN 1) zbh))) z1l zrl) zO)))))))
def zde:FF:=λds μ=>z0b (zhj (zU ztq ds) μ)
def zut:FS:=(sIf (zbb (zK (zTo λi j=>decide (i<j)) (zq 4) (fC (.int 0)))) (zuc (z4l (zo (fC (.str "room")) (zo (zq 3) zO)))) zfc)
def zot:FS:=(sIf (zNt (zbb (zK zSi (zq 3) (fC .non))) (zbb (zK zek (zq 3) (zK gIx (zK gIx (zq 0) (fC (.int 1))) (zq 2))))) (zuc (z4l (zo (fC (.str "home")) (zo (zq 2) zO)))) zfc)
def z9s:List yy:=["web","laying","key","nest","room"]
def zNm:FS:=(zdb (zHm (z1k (zq 1)) (gT 2 (zYb (gN 2) (zYb (gN 3) zbh))) zot) (zdb (zHm (z1k (zH zsk (zo (zq 0) (zo (zq 1) zO)))) (gT 2 (zYb (gN 3) (zYb (gN 4) zbh))) zut) (zuc (fC .non))))
def zSm:FF:=λds μ=>z0b (zNm (zU z9s ds) μ)
def zKj:FE:=(zK gIx (zq 0) (fC (.int 0)))
def zao:List yy:=["web","laying","row","at","key"]
def z2h:FS:=(zdb (zyc 4 (zK gIx (zK gIx (zq 2) (zq 3)) (fC (.int 0)))) (zdb (sIf (zgw (zbb (zK (zTo λi j=>decide (i<j)) (zq 4) (fC (.int 0)))) (zbb (zK (zTo λi j=>decide (j<=i)) (zq 4) (zH zHl (zo (zq 1) zO))))) (zuc (fC (.bl false))) zfc) (zdb (sIf (zgw (zbb (zK zek (zK gIx (zK gIx (zq 2) (zq 3)) (fC (.int 1))) (zK gIx (zK gIx (zq 0) (fC (.int 1))) (zq 4)))) (zbb (zK gEq (zK gIx (zK gIx (zq 2) (zq 3)) (fC (.int 1))) (zK gIx (zq 1) (zq 4))))) (zuc (fC (.bl false))) zfc) (zuc (zK zek (zq 4) (fLC 1 [] (zmh (fSl (zq 2) pNo (zRw (zq 3)))) (gN 0) zqk zKj))))))
def z5h:FF:=λds μ=>z0b (z2h (zU zao ds) μ)
def zgo:List yy:=["laying","key","row","at"]
def zfi:FS:=(zdb (sIf (zbb (zK gEq (zq 3) (fC (.int 0)))) (zuc (zK gEq (zK gIx (zK gIx (zq 2) (fC (.int 0))) (fC (.int 0))) (zq 1))) zfc) (zuc (zK gEq (zK gIx (zq 0) (zK gIx (zK gIx (zq 2) (zq 3)) (fC (.int 0)))) (zK gIx (zK gIx (zq 2) (zK zQu (zq 3) (fC (.int 1)))) (fC (.int 1))))))
def z8h:FF:=λds μ=>z0b (zfi (zU zgo ds) μ)
def zZl:FS:=(zdb (sIf (zIk (zNt (zbb (zH z5h (zo (zq 0) (zo (zq 1) (zo (zq 3) (zo (zq 5) zO)))))) (zbb (zH z8h (zo (zq 1) (zo (zq 2) (zo (zq 3) (zo (zq 5) zO)))))))) zBt zfc) (zks (zK gIx (zq 6) (fC (.int 1))) (gAt (zq 4) (zK gIx (zq 6) (fC (.int 0))))))
def zzq:List yy:=["web","laying","key","row","behind","at","push"]
def zvj:FS:=(zdb (zyc 4 (zH zGs (zo (zq 1) zO))) (zdb (zHm (z1k (zq 3)) (gT 2 (zYb (gN 5) (zYb (gN 6) zbh))) zZl) (zdb (sIf (zgw (zbb (zK gEq (zH zHl (zo (zq 3) zO)) (fC (.int 0)))) (zbb (zK zSi (zH zSm (zo (zq 0) (zo (zq 4) zO))) (fC .non)))) zBt zfc) (zuc (zq 4)))))
def zgj:FF:=λds μ=>z0b (zvj (zU zzq ds) μ)
def zri:FS:=(zdb (zyc 5 (zH zde (zo (zq 0) (zo (zq 1) (zo (zq 4) zO))))) (sIf (zbb (zK gEq (zK gIx (zq 5) (fC (.int 0))) (fC (.str "put")))) (zyc 1 (zH zgj (zo (zq 0) (zo (zq 1) (zo (zq 4) (zo (zK gIx (zq 5) (fC (.int 1))) zO)))))) (zHj (zFi z5x (zq 3) (zo (zK gIx (zq 5) (fC (.int 1))) zO)))))
def zGj:List yy:=["web","laying","keys","crowded","key","told"]
def zBf:FS:=(zdb (zyc 3 (zWk zO)) (zdb (zHm (zmh (zq 2)) (gN 4) zri) (zuc (z4l (zo (zq 1) (zo (ztr (zq 3)) zO))))))
def zQf:FF:=λds μ=>z0b (zBf (zU zGj ds) μ)
def zRh:List yy:=["web"]
def z4d:FS:=(zuc (zH zQf (zo (zq 0) (zo (zK zqj (zWk (zo (fC .non) zO)) (zH zHl (zo (zK gIx (zq 0) (fC (.int 1))) zO))) (zo (zck (zH zHl (zo (zK gIx (zq 0) (fC (.int 1))) zO))) zO)))))
def z9d:FF:=λds μ=>z0b (z4d (zU zRh ds) μ)
def zVk:FE:=(zK gIx (zK gIx (zq 1) (fC (.int 0))) (zq 0))
def zYn:List yy:=["web","nests"]
def zji:FS:=(zuc (zH zzy (zo (fLC 1 [0] (zmh (zq 1)) (gN 0) zqk zVk) zO)))
def zff:FF:=λds μ=>z0b (zji (zU zYn ds) μ)
def zVi:FS:=(zHj (zFi z5x (zq 2) (zo (zK gIx (zK gIx (zq 0) (fC (.int 1))) (zq 3)) zO)))
def zNl:List yy:=["web","some","found","key"]
def zMg:FS:=(zdb (zyc 2 (zWk zO)) (zdb (zHm (zmh (zq 1)) (gN 3) zVi) (zuc (ztr (zq 2)))))
def zke:FF:=λds μ=>z0b (zMg (zU zNl ds) μ)
def zLl:List yy:=["web","some"]
def zng:FS:=(zuc (zK (zTo λi j=>decide (i<j)) (zH zff (zo (zq 0) (zo (zH zke (zo (zq 0) (zo (zq 1) zO))) zO))) (zH zHl (zo (zq 1) zO))))
def zxg:FF:=λds μ=>z0b (zng (zU zLl ds) μ)
def zzh:FE:=(zq 0)
def zqm:FT:=(zbb (zK gNe (zq 0) (zq 1)))
def z3h:FS:=(sIf (zbb (zH zxg (zo (zq 0) (zo (fLC 1 [2] (zmh (zq 1)) (gN 0) zqm zzh) zO)))) (zuc (zq 2)) zfc)
def zvk:List yy:=["web","some","key"]
def zVf:FS:=(zdb (zHm (zmh (zq 1)) (gN 2) z3h) (zuc (fC .non)))
def zre:FF:=λds μ=>z0b (zVf (zU zvk ds) μ)
def zSk:FS:=(zdb (zHj (zFi zvi (zq 2) (zo (zq 3) zO))) (zyc 3 (zH zre (zo (zq 0) (zo (zq 2) zO)))))
def zTn:List yy:=["web","some","rest","spare"]
def zph:FS:=(zdb (zyc 2 (zH zGs (zo (zq 1) zO))) (zdb (zyc 3 (zH zre (zo (zq 0) (zo (zq 2) zO)))) (zdb (zyo 100000 (zbb (zK zSi (zq 3) (fC .non))) zSk) (zuc (zq 2)))))
def zyh:FF:=λds μ=>z0b (zph (zU zTn ds) μ)
def zGq:List yy:=["web","told"]
def zlj:FS:=(zdb (zyc 1 (zH z9d (zo (zq 0) zO))) (zdb (sIf (zbb (zK gEq (zK gIx (zq 1) (fC (.int 1))) (zWk zO))) (zuc (z4l (zo (fC (.str "fits")) (zo (zK gIx (zq 1) (fC (.int 0))) zO)))) zfc) (zuc (z4l (zo (fC (.str "crowd")) (zo (zH zyh (zo (zq 0) (zo (zK gIx (zq 1) (fC (.int 1))) zO))) zO))))))
def z7d:FF:=λds μ=>z0b (zlj (zU zGq ds) μ)
def zfo:List yy:=["web","key","nest"]
def zGh:FS:=(zuc (z4l (zo (zK gIx (zq 0) (fC (.int 0))) (zo (zK z9e (zK z9e (fSl (zK gIx (zq 0) (fC (.int 1))) pNo (zRw (zq 1))) (z4l (zo (z4l (zo (zq 2) (zo (zq 2) zO))) zO))) (fSl (zK gIx (zq 0) (fC (.int 1))) (zRw (zK z9e (zq 1) (fC (.int 1)))) pNo)) zO))))
def zIh:FF:=λds μ=>z0b (zGh (zU zfo ds) μ)
def zQl:List yy:=["web","laying","key","nest","others"]
def zNg:FS:=(zdb (zyc 4 (zK z9e (zK z9e (fSl (zq 1) pNo (zRw (zq 2))) (zWk (zo (fC .non) zO))) (fSl (zq 1) (zRw (zK z9e (zq 2) (fC (.int 1)))) pNo))) (zuc (zK gEq (zK gIx (zH zde (zo (zH zIh (zo (zq 0) (zo (zq 2) (zo (zq 3) zO)))) (zo (zq 4) (zo (zq 2) zO)))) (fC (.int 0))) (fC (.str "put")))))
def zPg:FF:=λds μ=>z0b (zNg (zU zQl ds) μ)
def zgl:FE:=(zq 0)
def zdl:FT:=(zbb (zH zPg (zo (zq 1) (zo (zK gIx (zq 2) (fC (.int 1))) (zo (zq 3) (zo (zq 0) zO))))))
def zfl:FS:=(zHj (zFi zkh (zq 2) (zo (fLC 1 [0,1,3] (zmh (zDo (zq 4))) (gN 0) zdl zgl) zO)))
def zbq:List yy:=["web","told","found","key","homes"]
def zsj:FS:=(zdb (zyc 1 (zH z7d (zo (zq 0) zO))) (zdb (sIf (zbb (zK gEq (zK gIx (zq 1) (fC (.int 0))) (fC (.str "crowd")))) (zFe "NoFit" "some" (zo (zK gIx (zq 1) (fC (.int 1))) zO)) zfc) (zdb (zyc 2 (zWk zO)) (zdb (zHm (z1k (zK gIx (zq 0) (fC (.int 1)))) (gT 2 (zYb (gN 3) (zYb (gN 4) zbh))) zfl) (zuc (zq 2))))))
def zBj:FX:=λds μ=>zoy (zsj (zU zbq ds) μ)
def zrn:FE:=(zK zCn (zK zCn (zK z9e (zK zqj (zK gIx (zq 0) (fC (.int 0))) (zq 1)) (zK gIx (zq 0) (fC (.int 1)))) (fC (.int (10007)))) (zq 2))
def z7t:List yy:=["rule","key","nests"]
def z9m:FS:=(zdb (zyc 2 (zH zHl (zo (zK gIx (zq 0) (fC (.int 0))) zO))) (zuc (zH z3g (zo (fLC 1 [1,2] (zmh (zK gIx (zq 0) (fC (.int 1)))) (gN 0) zqk zrn) zO))))
def zYm:FF:=λds μ=>z0b (z9m (zU z7t ds) μ)
def zcl:FE:=(zH zYm (zo (zq 1) (zo (zq 0) zO)))
def zKq:List yy:=["rule","keys"]
def zAj:FS:=(zuc (z4l (zo (zK gIx (zq 0) (fC (.int 0))) (zo (zH z3g (zo (fLC 1 [0] (zmh (zq 1)) (gN 0) zqk zcl) zO)) zO))))
def zic:FF:=λds μ=>z0b (zAj (zU zKq ds) μ)
def z8i:List yy:=["self"]
def zLe:FS:=(zuc (zas "Shelf" "kept_rule" (zq 0)))
def zrb:FF:=λds μ=>z0b (zLe (zU z8i ds) μ)
def zhi:List yy:=["self","key"]
def z2d:FS:=(zuc (zik zhs (zas "Shelf" "nest_of" (zq 0)) (zo (zq 1) zO)))
def zrc:FF:=λds μ=>z0b (z2d (zU zhi ds) μ)
def zYe:FE:=(zK gIn (zH zrc (z6b "Shelf" "where" (zq 2) (zo (zq 0) zO))) (zq 1))
def z3f:List yy:=["_law_shelf","_law_keys","_law_heard"]
def zFc:FS:=(zdb (zyc 1 (zH zF (z6b "Shelf" "all_there" (zq 0) zO))) (zdb (zyc 2 (z0i zBj (zo (zH zic (zo (zH zrb (z6b "Shelf" "rule" (zq 0) zO)) (zo (zq 1) zO))) zO))) (zuc (zH z8y (zo (fLC 2 [0] (z7z (zo (zq 1) (zo (zq 2) zO))) (gT 2 (zYb (gN 0) (zYb (gN 1) zbh))) zqk zYe) zO)))))
def zac:FF:=λds μ=>z0b (zFc (zU z3f ds) μ)
def zgk:List yy:=["_law_rule_here","_law_keys"]
def zRf:FS:=(zuc (zK gEq (zK gIx (zH z7d (zo (zH zic (zo (zq 0) (zo (zq 1) zO))) zO)) (fC (.int 0))) (fC (.str "fits"))))
def zqc:FF:=λds μ=>z0b (zRf (zU zgk ds) μ)
def zcg:FS:=(zks (zK gIx (zK gIx (zq 3) (fC (.int 1))) (zq 4)) (zmy (zas "Shelf" "nest_of" (zq 0)) (zq 5)))
def zlg:FE:=(zK gIx (zq 1) (zq 0))
def zgi:List yy:=["self","rule","keys","told","place","key"]
def z1d:FS:=(zdb (zyc 2 (zH zF (z6b "Shelf" "all_there" (zq 0) zO))) (zdb (zyc 3 (zH z7d (zo (zH zic (zo (zq 1) (zo (zq 2) zO))) zO))) (zdb (sIf (zbb (zK gEq (zK gIx (zq 3) (fC (.int 0))) (fC (.str "crowd")))) (zFe "Full" "some" (zo (fLC 1 [2] (zmh (zK gIx (zq 3) (fC (.int 1)))) (gN 0) zqk zlg) zO)) zfc) (zdb (zds "Shelf" "kept_rule" (zq 0) (zq 1)) (zHm (z1k (zq 2)) (gT 2 (zYb (gN 4) (zYb (gN 5) zbh))) zcg)))))
def z6d:FX:=λds μ=>zoy (z1d (zU zgi ds) μ)
def z0g:List yy:=["_law_shelf","_law_other","_law_fits_here","_law_taken"]
def zHd:FS:=(zdb (zyc 2 (zH zqc (zo (zq 1) (zo (zH zF (z6b "Shelf" "all_there" (zq 0) zO)) zO)))) (zdb (zyc 3 (fC (.bl true))) (zdb (zSo (zSq z6d (z6b "Shelf" "renew" (zq 0) (zo (zq 1) zO))) (zIn [("NoFit",false),("Full",true),("NoKey",false),("Twice",false)] (zyc 3 (fC (.bl false))) zVx)) (zuc (zQy (zK gEq (zq 3) (zq 2)) (fOr (zK gEq (zH zrb (z6b "Shelf" "rule" (zq 0) zO)) (zq 1)) (zDA (zq 3))))))))
def zId:FF:=λds μ=>z0b (zHd (zU z0g ds) μ)
def zVj:List yy:=["self","key"]
def zSf:FS:=(zuc (zK zMo (zq 1) (zas "Shelf" "nest_of" (zq 0))))
def ztd:FF:=λds μ=>z0b (zSf (zU zVj ds) μ)
def zZj:List yy:=["self","key"]
def zGf:FS:=(zdb (sIf (zIk (zbb (zH ztd (z6b "Shelf" "has" (zq 0) (zo (zq 1) zO))))) (zQo "NoKey" (zo (fC (.str "the key isn't there")) zO)) zfc) (zuc (zik zfr (zas "Shelf" "nest_of" (zq 0)) (zo (zq 1) zO))))
def zid:FX:=λds μ=>zoy (zGf (zU zZj ds) μ)
def z2f:FE:=(zK z8v (zas "Shelf" "nest_of" (zq 1)) (zq 0))
def z4g:List yy:=["self"]
def zGd:FS:=(zuc (fLC 1 [0] (zmh (zH zF (z6b "Shelf" "all_there" (zq 0) zO))) (gN 0) zqk z2f))
def zBc:FF:=λds μ=>z0b (zGd (zU z4g ds) μ)
def z3d:FS:=(zks (zK gIx (zq 5) (fC (.int 1))) (zmy (zas "Shelf" "nest_of" (zq 0)) (zK gIx (zq 5) (fC (.int 0)))))
def zbe:FE:=(z4l (zo (zK gIx (zq 1) (zK gIx (zq 0) (fC (.int 0)))) (zo (zK gIx (zq 0) (fC (.int 1))) zO)))
def zce:FE:=(zK gIx (zq 1) (zq 0))
def zlk:List yy:=["self","key","keys","told","row","push"]
def zFf:FS:=(zdb (sIf (zbb (zH ztd (z6b "Shelf" "has" (zq 0) (zo (zq 1) zO)))) (zQo "Twice" (zo (fC (.str "the key is there already")) zO)) zfc) (zdb (zyc 2 (zK z9e (zH zF (z6b "Shelf" "all_there" (zq 0) zO)) (zWk (zo (zq 1) zO)))) (zdb (sIf (zbb (zK (zTo λi j=>decide (j<i)) (zH zHl (zo (zq 2) zO)) (fC (.int (30))))) (zFe "Full" "some" (zo (zH zrh (zo (zq 2) zO)) zO)) zfc) (zdb (zyc 3 (zH zde (zo (zH zic (zo (zas "Shelf" "kept_rule" (zq 0)) (zo (zq 2) zO))) (zo (zK z9e (zH zBc (z6b "Shelf" "laying" (zq 0) zO)) (zWk (zo (fC .non) zO))) (zo (zK zQu (zH zHl (zo (zq 2) zO)) (fC (.int 1))) zO))))) (zdb (sIf (zbb (zK gEq (zK gIx (zq 3) (fC (.int 0))) (fC (.str "full")))) (zFe "Full" "some" (zo (zH zrh (zo (fLC 1 [2] (zmh (zK gIx (zq 3) (fC (.int 1)))) (gN 0) zqk zce) zO)) zO)) zfc) (zdb (zyc 4 (fLC 1 [2] (zmh (zK gIx (zq 3) (fC (.int 1)))) (gN 0) zqk zbe)) (zdb (zHm (zmh (zq 4)) (gN 5) z3d) (zuc (zq 4)))))))))
def zRc:FX:=λds μ=>zoy (zFf (zU zlk ds) μ)
def zUd:List yy:=["_law_shelf","_law_key_here","_law_keys","_law_nest"]
def zNb:FS:=(zdb (zyc 2 (zH zF (z6b "Shelf" "all_there" (zq 0) zO))) (zdb (sIf (zIk (zbb (zH zqc (zo (zH zrb (z6b "Shelf" "rule" (zq 0) zO)) (zo (zK z9e (zq 2) (zWk (zo (zq 1) zO))) zO))))) (zuc (fC (.bl true))) zfc) (zdb (zHj (z0i zRc (z6b "Shelf" "put" (zq 0) (zo (zq 1) zO)))) (zdb (zyc 3 (zH zrc (z6b "Shelf" "where" (zq 0) (zo (zq 1) zO)))) (zuc (zQy (zK gEq (z0i zid (z6b "Shelf" "out" (zq 0) (zo (zq 1) zO))) (zq 3)) (zK gEq (zH zF (z6b "Shelf" "all_there" (zq 0) zO)) (zq 2))))))))
def zKb:FF:=λds μ=>z0b (zNb (zU zUd ds) μ)
def zYi:FE:=(zK gIn (zq 0) (zK z9e (zq 1) (zWk (zo (zq 2) zO))))
def zXl:List yy:=["_law_shelf","_law_key_here","_law_keys","_law_some","e","_law_web"]
def zQg:FS:=(zdb (zyc 2 (zH zF (z6b "Shelf" "all_there" (zq 0) zO))) (zdb (zyc 3 (fC .non)) (zdb (zSo (zSq zRc (z6b "Shelf" "put" (zq 0) (zo (zq 1) zO))) (hAs 4 [("NoFit",false),("Full",true),("NoKey",false),("Twice",false)] (zyc 3 (fAt "Full" "some" (zq 4))) zVx)) (zdb (sIf (zbb (zH zqc (zo (zH zrb (z6b "Shelf" "rule" (zq 0) zO)) (zo (zK z9e (zq 2) (zWk (zo (zq 1) zO))) zO)))) (zuc (zQy (zK gIs (zq 3) (fC .non)) (zK gEq (zH zF (z6b "Shelf" "all_there" (zq 0) zO)) (zH zrh (zo (zK z9e (zq 2) (zWk (zo (zq 1) zO))) zO))))) zfc) (zdb (sIf (zgw (zbb (zK gIs (zq 3) (fC .non))) (zgw (zbb (zK gNe (zH zF (z6b "Shelf" "all_there" (zq 0) zO)) (zq 2))) (zIk (zbb (zH z8y (zo (fLC 1 [2,1] (zmh (zq 3)) (gN 0) zqk zYi) zO)))))) (zuc (fC (.bl false))) zfc) (zdb (zyc 5 (zH zic (zo (zH zrb (z6b "Shelf" "rule" (zq 0) zO)) (zo (zq 3) zO)))) (zuc (zK gEq (zH zHl (zo (zq 3) zO)) (zK z9e (zH zff (zo (zq 5) (zo (zH zke (zo (zq 5) (zo (zck (zH zHl (zo (zq 3) zO))) zO))) zO))) (fC (.int 1)))))))))))
def zVg:FF:=λds μ=>z0b (zQg (zU zXl ds) μ)
def z1o:FS:=(zdb (zyc 4 (zH zM (zo (zq 1) (zo (fC (.int 8)) zO)))) (zdb (zyc 5 (zH zF (z6b "Shelf" "all_there" (zq 2) zO))) (zdb (zyc 6 (zH zCg (zo (zq 1) (zo (zq 5) zO)))) (zdb (sIf (zbb (zK gEq (zq 4) (fC (.int 7)))) (sIf (zIk (zbb (zH zId (zo (zq 2) (zo (zH zne (zo (zq 1) zO)) zO))))) (zuc (fC (.bl false))) zfc) (sIf (zbb (zK gIn (zq 6) (zq 5))) (zHj (z0i zid (z6b "Shelf" "out" (zq 2) (zo (zq 6) zO)))) (sIf (zbb (zK gEq (zq 4) (fC (.int 6)))) (sIf (zIk (zbb (zH zKb (zo (zq 2) (zo (zq 6) zO))))) (zuc (fC (.bl false))) zfc) (sIf (zIk (zbb (zH zVg (zo (zq 2) (zo (zq 6) zO))))) (zuc (fC (.bl false))) zfc)))) (sIf (zIk (zbb (zH zac (zo (zq 2) zO)))) (zuc (fC (.bl false))) zfc)))))
def zqz:List yy:=["_law_script","_law_pen_here","_law_shelf","_law_k","_law_way","_law_keys","_law_key_here"]
def zKu:FS:=(zdb (zyc 1 (zH zHg (zo (zq 0) zO))) (zdb (zyc 2 (zDr "Shelf" z9b (zo (zH zne (zo (zq 1) zO)) zO))) (zdb (zHm (zZi (zo (zH zM (zo (zq 1) (zo (fC (.int 21)) zO))) zO)) (gN 3) z1o) (zuc (fC (.bl true))))))
def zxr:FF:=λds μ=>z0b (zKu (zU zqz ds) μ)
structure Txt(K:yw)(mg:yy->Option yb):Prop where
 x_NoFit:∃C,Yq K yp "NoFit"=some (some (.ref C))/\mg "NoFit"=some (.ref C)/\XD K C "BaseException"=true
 x_NestError:∃C,Yq K yp "NestError"=some (some (.ref C))/\mg "NestError"=some (.ref C)/\XD K C "BaseException"=true
 SV:∃C,Yq K yp "Full"=some (some (.ref C))/\mg "Full"=some (.ref C)/\XD K C "BaseException"=true
 x_NoKey:∃C,Yq K yp "NoKey"=some (some (.ref C))/\mg "NoKey"=some (.ref C)/\XD K C "BaseException"=true
 x_Twice:∃C,Yq K yp "Twice"=some (some (.ref C))/\mg "Twice"=some (.ref C)/\XD K C "BaseException"=true
 e_NoKey:∀C,Yq K yp "NoKey"=some (some (.ref C))->W.excIn K C [.type "ValueError",.type "Exception",.type "BaseException",.type "object"] "ValueError.__new__"=true
 e_Twice:∀C,Yq K yp "Twice"=some (some (.ref C))->W.excIn K C [.type "ValueError",.type "Exception",.type "BaseException",.type "object"] "ValueError.__new__"=true
 SW:∀C,Yq K yp "Full"=some (some (.ref C))->sC K C [("NoFit",false),("Full",true),("NoKey",false),("Twice",false)]
 tF:zZr K "Shelf" "nest_of"
 tL:zZr K "Shelf" "kept_rule"
 a_Full:AtC K "Full" "some"
 n_all:mg "all"=none
 tT:mg "enumerate"=none
 Tr:mg "len"=none
 TR:mg "list"=none
 sv:mg "range"=none
 Sy:mg "reversed"=none
 SX:mg "set"=none
 Tu:mg "sorted"=none
 n_sum:mg "sum"=none
 sK:mg "tuple"=none
 n_zip:mg "zip"=none
 SL:∃t,mg "DIVISOR"=some (.int 10007 t)
 So:∃t,mg "MOST_KEYS"=some (.int 30 t)
def zow:yQ "all"=some (.builtin "all"):=by decide +kernel
def z2b:yQ "enumerate"=some (.type "enumerate"):=by decide +kernel
def zYd:yQ "len"=some (.builtin "len"):=by decide +kernel
def z8f:yQ "list"=some (.type "list"):=by decide +kernel
def zWo:yQ "reversed"=some (.type "reversed"):=by decide +kernel
def zmu:yQ "set"=some (.type "set"):=by decide +kernel
def zve:yQ "sorted"=some (.builtin "sorted"):=by decide +kernel
def z4z:yQ "sum"=some (.builtin "sum"):=by decide +kernel
def zfj:yQ "tuple"=some (.type "tuple"):=by decide +kernel
def zHy:yQ "zip"=some (.type "zip"):=by decide +kernel
section
variable {P:yB}{w:yL}{K:yw}{mg:yy->Option yb}{base:yV}
set_option maxHeartbeats 4000000
abbrev zUc:Yi:=zHt (top 7)
abbrev zQb:List yy:=["self","some"]
def zan:tu zQb zQb (zB zUc):=by walk_at "s"
def zal(T:Txt K mg){C NE fI:yd}{fd:yi}(B:sS K mg "NoFit" "some" "NoFit.__init__" zUc zQb C NE fI fd):tq P w K mg base CX0 1 fI fd zQb (spL C "some"):=by
 refine B.fn.ok (k:=0) zan (λvs H Q E ⟨e,a,ns,h,_⟩=>by rw[h];rfl) (λcdv A outer s H vs Q E hr ⟨e,a,ns,hv,hsm,ha,he,hq⟩=>⟨_,ztm (zup (zXt B.ex B.ne (zQc (pv 0) (zQc (zWq (pv 1) hr.gd hr.units) zmf)))) (zgp (zwo B.ex (pv 0) (zxe zig rfl T.TR z8f (zQc (pv 1) zmf)))),?_⟩);subst hv
 exact⟨_,rfl,_,rfl,a,ns,rfl,ha,hsm,λy=>⟨e,_,rfl,he,_,rfl,a,_,rfl,.inl (SqL.of ha),λl hl=>⟨_,rfl,e,rfl,by rw[zN (zI he hl)];exact he,λp hp hpe=>by
  have hpl:p≠l:=λz=>by rw[z,zG]at hp;cases hp
  exact hq l p hl (yH (zI he hl)) (by rwa [zN hpl]at hp) hpe hpl⟩⟩⟩
abbrev zOc:Yi:=zHt (top 5)
abbrev zvb:List yy:=["self","some"]
def zNo:tu zvb zvb (zB zOc):=by walk_at "s"
def zCm(T:Txt K mg){C NE fI:yd}{fd:yi}(B:sS K mg "Full" "some" "Full.__init__" zOc zvb C NE fI fd):tq P w K mg base CX0 1 fI fd zvb (spL C "some"):=by
 refine B.fn.ok (k:=0) zNo (λvs H Q E ⟨e,a,ns,h,_⟩=>by rw[h];rfl) (λcdv A outer s H vs Q E hr ⟨e,a,ns,hv,hsm,ha,he,hq⟩=>⟨_,ztm (zup (zXt B.ex B.ne (zQc (pv 0) (zQc (zWq (pv 1) hr.gd hr.units) zmf)))) (zgp (zwo B.ex (pv 0) (zxe zig rfl T.TR z8f (zQc (pv 1) zmf)))),?_⟩);subst hv
 exact⟨_,rfl,_,rfl,a,ns,rfl,ha,hsm,λy=>⟨e,_,rfl,he,_,rfl,a,_,rfl,.inl (SqL.of ha),λl hl=>⟨_,rfl,e,rfl,by rw[zN (zI he hl)];exact he,λp hp hpe=>by
  have hpl:p≠l:=λz=>by rw[z,zG]at hp;cases hp
  exact hq l p hl (yH (zI he hl)) (by rwa [zN hpl]at hp) hpe hpl⟩⟩⟩
abbrev zRg:Yi:=top 41
abbrev zsd:List yy:=["_law_script"]
def zIp:tu zil zsd (zB zRg):=by walk_at "s"
def zun(T:Txt K mg){f:yd}{fd:yi}(B:FnAt K mg "_law_pen" zRg zsd f fd):tq P w K mg base CX0 1 f fd zsd (spM K 1 zHg):=by
 refine fnM B.fn zIp rfl (λcdv A outer s H E hr=>⟨zGg,?_,λ_ _ _ _ _ e=>e⟩);have hu:=hr.units;exact(zu (zT (zKd (zf (mv 0) (zf (zOy (zed (zXb hu) (zcb zub T.Tr zYd (zf (mv 0) zm)) zx) (zPn (zed (zXb hu) (zmb z8e (zW (mv 0) zx) zx) zx))) (zf zx (zf zx zm)))))))
abbrev zbc:Yi:=zHf (top 35) 0
abbrev zgb:List yy:=["self","rule"]
def zti:tu z1f zgb (zB zbc):=by walk_at "s"
def z0h(T:Txt K mg){C:yd}{f:yd}{fd:yi}(B:Sg K mg "Shelf" zbc zgb C f fd):tq P w K mg base CX0 1 f fd zgb (spM K 2 z9b):=by
 refine fnM B.fn zti rfl (λcdv A outer s H E hr=>⟨zJc,?_,λ_ _ _ _ _ e=>e⟩);have hu:=hr.units;exact(zp (zCs T.tL (mv 0) (mv 1)) (zu (zCs T.tF (mv 0) zpw)))
abbrev zWe:Yi:=top 42
abbrev zsc:List yy:=["_law_script","_law_k"]
def Tg:tu zXi zsc (zB zWe):=by walk_at "s"
def z5k(T:Txt K mg){f:yd}{fd:yi}(B:FnAt K mg "_law_mixed" zWe zsc f fd):tq P w K mg base CX0 1 f fd zsc (spM K 2 zMe):=by
 refine fnM B.fn Tg rfl (λcdv A outer s H E hr=>⟨zXe,?_,λ_ _ _ _ _ e=>e⟩);have hu:=hr.units;exact(zp (zV 2 zx (hN:=Tg.nd)) (zp (zpc (zeb zOs (zcb zub T.Tr zYd (zf (mv 0) zm)) zx) (zu (zV 2 (zW (mv 0) (zmb z8e (mv 1) (zcb zub T.Tr zYd (zf (mv 0) zm)))) (hN:=Tg.nd))) z9) (zp (zV 3 (zmb z8e (zmb zfb (zmb z7e (zmb zfb (zmb zfb (mv 2) (zmb z7e zx (mv 1))) zx) zx) (zmb z7e (mv 1) (mv 1))) zx) (hN:=Tg.nd)) (zp (zV 4 (zmb z8e (zmb zfb (zmb zfb (zmb z7e (mv 3) (mv 3)) (zmb z7e zx (mv 3))) (zmb z7e zx (mv 1))) zx) (hN:=Tg.nd)) (zu (zT (zmb z8e (zmb zfb (zmb zfb (zmb z7e (mv 4) (mv 4)) (zmb z7e zx (mv 4))) (mv 1)) zx)))))))
abbrev zyd:Yi:=top 43
abbrev zxb:List yy:=["_law_pen_here","_law_many"]
def tU:tu z6j zxb (zB zyd):=by walk_at "s"
def zQm(T:Txt K mg){zRi:yd}{zOh:yi}(zPe:FnAt K mg "_law_mixed" zWe zsc zRi zOh)(zxf:tq P w K mg base CX0 1 zRi zOh zsc (spM K 2 zMe)){f:yd}{fd:yi}(B:FnAt K mg "_law_take" zyd zxb f fd):tq P w K mg base CX0 2 f fd zxb (spM K 2 zM):=by
 refine fnM B.fn tU rfl (λcdv A outer s H E hr=>⟨zJf,?_,λ_ _ _ _ _ e=>e⟩);have hu:=hr.units;exact(zp (z4i (mv 0) (zJx (zhc (zEb 2 (hN:=tU.nd)) (zhc (zEb 3 (hN:=tU.nd)) (zhc (zEb 4 (hN:=tU.nd)) (zhc (zEb 5 (hN:=tU.nd)) zHi)))))) (zp (z4i (zmb zfb (mv 4) zx) (zYx (mv 0) zx)) (zp (zpc (zSe (mv 3)) (zu (zT (zmb z8e (tD zPe zxf hr (zf (mv 2) (zf (mv 4) zm))) (mv 1)))) z9) (zp (zpc (zeb (zXb hu) (zmb z8e (mv 4) zx) zx) (zp (zV 5 zx (hN:=tU.nd)) (zu (zpc (zeb z7l (zmb zfb (zmb zfp (mv 4) zx) zx) (zcb zub T.Tr zYd (zf (mv 2) zm))) (zu (zV 5 (zW (mv 2) (zmb zfb (zmb zfp (mv 4) zx) zx)) (hN:=tU.nd))) z9))) z9) (zp (z4i (zmb zfp (mv 5) (mv 1)) (zYx (mv 0) zx)) (zu (zT (zmb z8e (mv 5) (mv 1)))))))))
abbrev ztf:Yi:=top 44
abbrev zVc:List yy:=["_law_pen_here"]
def Tc:tu zdk zVc (zB ztf):=by walk_at "s"
def zhn(T:Txt K mg){zoc:yd}{z1b:yi}(zR:FnAt K mg "_law_take" zyd zxb zoc z1b)(zP:tq P w K mg base CX0 2 zoc z1b zxb (spM K 2 zM)){f:yd}{fd:yi}(B:FnAt K mg "_law_rule" ztf zVc f fd):tq P w K mg base CX0 3 f fd zVc (spM K 1 zne):=by
 refine fnM B.fn Tc rfl (λcdv A outer s H E hr=>⟨zEf,?_,λ_ _ _ _ _ e=>e⟩);have hu:=hr.units;exact(zp (zV 1 (zmb zfb zx (tD zR zP hr (zf (mv 0) (zf zx zm)))) (hN:=Tc.nd)) (zp (zpc (zeb (zXb hu) (tD zR zP hr (zf (mv 0) (zf zx zm))) zx) (zu (zV 1 (zmb zfb zx (tD zR zP hr (zf (mv 0) (zf zx zm)))) (hN:=Tc.nd))) z9) (zp (zV 2 (zW (zKd (zf zx (zf zx (zf zx (zf zx zm))))) (tD zR zP hr (zf (mv 0) (zf zx zm)))) (hN:=Tc.nd)) (zp (zV 3 (zPf zUf T.sK zfj (zf (mlc ["_law_nest"] [0,2] (zdm T.sv (zf (mv 1) zm)) (λ_ _ _ _ _=>(zjb 0 (hN:=zib (by rfl)))) (λ_ _ _ _ _=>zbf) (λ_ _ _ _ _=>(tD zR zP hr (zf (mv 1) (zf (mv 2) zm)))) (zDb ⟨_,rfl,rfl⟩ (zDb ⟨_,rfl,rfl⟩ zJd))) zm)) (hN:=Tc.nd)) (zp (zV 4 (zW (zKd (zf zx (zf zx (zf zx zm)))) (tD zR zP hr (zf (mv 0) (zf zx zm)))) (hN:=Tc.nd)) (zu (zT (zSd (zf (mv 3) (zf (zPf zUf T.sK zfj (zf (mlc ["_law_k"] [0,4] (zdm T.sv (zf (zmb zfb zx (tD zR zP hr (zf (mv 0) (zf zx zm)))) zm)) (λ_ _ _ _ _=>(zjb 0 (hN:=zib (by rfl)))) (λ_ _ _ _ _=>zbf) (λ_ _ _ _ _=>(zSd (zf (tD zR zP hr (zf (mv 1) (zf (mv 2) zm))) (zf (tD zR zP hr (zf (mv 1) (zf (mv 2) zm))) zm)))) (zDb ⟨_,rfl,rfl⟩ (zDb ⟨_,rfl,rfl⟩ zJd))) zm)) zm))))))))))
abbrev zS:Yi:=zHf (top 35) 5
abbrev zA:List yy:=["self"]
def zai:tu zhf zA (zB zS):=by walk_at "s"
def zeh(T:Txt K mg){C:yd}{f:yd}{fd:yi}(B:MethAt K "Shelf" "all_there" "Shelf.all_there" zS zA C f fd):tq P w K mg base CX0 1 f fd zA (spM K 1 zF):=by
 refine fnM B.fn zai rfl (λcdv A outer s H E hr=>⟨zvc,?_,λ_ _ _ _ _ e=>e⟩);have hu:=hr.units;exact(zu (zT (zcb (zbp rfl) T.Tu zve (zf (zei T.tF (mv 0)) zm))))
abbrev zqg:Yi:=top 46
abbrev zvd:List yy:=["_law_pen_here","_law_keys"]
def sG:tu z3l zvd (zB zqg):=by walk_at "s"
def ztn(T:Txt K mg){zoc:yd}{z1b:yi}(zR:FnAt K mg "_law_take" zyd zxb zoc z1b)(zP:tq P w K mg base CX0 2 zoc z1b zxb (spM K 2 zM)){f:yd}{fd:yi}(B:FnAt K mg "_law_key" zqg zvd f fd):tq P w K mg base CX0 3 f fd zvd (spM K 2 zCg):=by
 refine fnM B.fn sG rfl (λcdv A outer s H E hr=>⟨zrg,?_,λ_ _ _ _ _ e=>e⟩);have hu:=hr.units;exact(zp (zV 2 (tD zR zP hr (zf (mv 0) (zf zx zm))) (hN:=sG.nd)) (zp (zpc (MW.mt (zYs (zeb z7l (mv 2) zx) (zqp (zeb (z6s hu) (mv 1) (zKd zm))))) (zu (zT (zW (mv 1) (tD zR zP hr (zf (mv 0) (zf (zcb zub T.Tr zYd (zf (mv 1) zm)) zm)))))) z9) (zp (zpc (zeb (zXb hu) (mv 2) zx) (zu (zT (tD zR zP hr (zf (mv 0) (zf (zmb zSw zx zx) zm))))) z9) (zu (zT (tD zR zP hr (zf (mv 0) (zf zx zm))))))))
abbrev zDm:Yi:=top 11
abbrev zFg:List yy:=["laying","nest"]
def znv:tu zVt zFg (zB zDm):=by walk_at "s"
def zjt(T:Txt K mg){f:yd}{fd:yi}(B:FnAt K mg "lying" zDm zFg f fd):tq P w K mg base CX0 1 f fd zFg (spM K 2 z1m):=by
 refine fnM B.fn znv rfl (λcdv A outer s H E hr=>⟨zlm,?_,λ_ _ _ _ _ e=>e⟩);have hu:=hr.units;exact(zu (zT (mlc ["key","place"] [1] (zgg T.tT z2b (mv 0)) (λ_ _ _ _ _=>(zjm (zTd (zjb 0 (hN:=zib (by rfl))) (zTd (zjb 1 (hN:=zib (by rfl))) ztj)))) (λ_ _ _ _ _=>(zuq (zeb (zXb hu) (mv 1) (mv 2)))) (λ_ _ _ _ _=>(mv 0)) (zDb ⟨_,rfl,rfl⟩ zJd))))
abbrev zDf:Yi:=top 16
abbrev zWc:List yy:=["web","laying","key"]
def tO:tu zFk zWc (zB zDf):=by walk_at "s"
def zcn(T:Txt K mg){z8t:yd}{zhq:yi}(zim:FnAt K mg "lying" zDm zFg z8t zhq)(zcm:tq P w K mg base CX0 1 z8t zhq zFg (spM K 2 z1m)){f:yd}{fd:yi}(B:FnAt K mg "pushes_to" zDf zWc f fd):tq P w K mg base CX0 2 f fd zWc (spM K 3 zuf):=by
 refine fnM B.fn tO rfl (λcdv A outer s H E hr=>⟨zMf,?_,λ_ _ _ _ _ e=>e⟩);have hu:=hr.units;exact(zp (zV 3 zpw (hN:=tO.nd)) (zp (zOe (zhd (zW (zW (mv 0) zx) (mv 2))) (zEb 4 (hN:=tO.nd)) (zu (z4i (zSd (zf (mv 2) (zf zdf zm))) (zXp (mv 3) (mv 4))))) (zp (zV 5 (zPf (zlp rfl) T.TR z8f (zf (mv 3) zm)) (hN:=tO.nd)) (zp (zV 6 zx (hN:=tO.nd)) (zp (zzm 100000 (zeb z7l (mv 6) (zcb zub T.Tr zYd (zf (mv 5) zm))) (zp (zOe (zhd (tD zim zcm hr (zf (mv 1) (zf (zW (mv 5) (mv 6)) zm)))) (zEb 7 (hN:=tO.nd)) (zu (zOe (zhd (zW (zW (mv 0) zx) (mv 7))) (zEb 4 (hN:=tO.nd)) (zu (zpc (zeb zhr (mv 4) (mv 3)) (zp (z4i (zSd (zf (mv 7) (zf (zW (mv 5) (mv 6)) zm))) (zXp (mv 3) (mv 4))) (zu (zdg (zTj (mv 5) (zf (mv 4) zm))))) z9))))) (zu (zAz 6 zHw zx (hN:=tO.nd))))) (zu (zT (mv 3))))))))
abbrev zsn:Yi:=top 9
abbrev z9f:List yy:=["web","laying"]
def zIw:tu zsw z9f (zB zsn):=by walk_at "s"
def z0u(T:Txt K mg){f:yd}{fd:yi}(B:FnAt K mg "left" zsn z9f f fd):tq P w K mg base CX0 1 f fd z9f (spM K 2 zsk):=by
 refine fnM B.fn zIw rfl (λcdv A outer s H E hr=>⟨zKl,?_,λ_ _ _ _ _ e=>e⟩);have hu:=hr.units;exact(zu (zT (mlc ["nest","room"] [1] (zgg T.tT z2b (zW (mv 0) zx)) (λ_ _ _ _ _=>(zjm (zTd (zjb 0 (hN:=zib (by rfl))) (zTd (zjb 1 (hN:=zib (by rfl))) ztj)))) (λ_ _ _ _ _=>zbf) (λ_ _ _ _ _=>(zmb zAp (mv 1) (zmv (mv 2) (zf (mv 0) zm)))) (zDb ⟨_,rfl,rfl⟩ zJd))))
abbrev zpj:Yi:=top 17
abbrev zgf:List yy:=["pushes","nest"]
def sD:tu zkq zgf (zB zpj):=by walk_at "s"
def zOr(T:Txt K mg){f:yd}{fd:yi}(B:FnAt K mg "row_to" zpj zgf f fd):tq P w K mg base CX0 1 f fd zgf (spM K 2 zij):=by
 refine fnM B.fn sD rfl (λcdv A outer s H E hr=>⟨zjj,?_,λ_ _ _ _ _ e=>e⟩);have hu:=hr.units;exact(zp (zV 2 (zKd zm) (hN:=sD.nd)) (zp (zzm 100000 (zeb zVh (mv 1) zdf) (zp (zdg (zTj (mv 2) (zf (zSd (zf (zW (zSs (mv 0) (mv 1)) zx) (zf (mv 1) zm))) zm))) (zu (zV 1 (zW (zSs (mv 0) (mv 1)) zx) (hN:=sD.nd))))) (zu (zT (zUx T.TR z8f T.Sy zWo (mv 2))))))
abbrev zAg:Yi:=top 18
abbrev zAc:List yy:=["web","laying","key"]
def TZ:tu ztq zAc (zB zAg):=by walk_at "s"
def zer(T:Txt K mg){zak:yd}{z2i:yi}(zAf:FnAt K mg "pushes_to" zDf zWc zak z2i)(z5f:tq P w K mg base CX0 2 zak z2i zWc (spM K 3 zuf)){zAo:yd}{zUk:yi}(zLj:FnAt K mg "left" zsn z9f zAo zUk)(zwi:tq P w K mg base CX0 1 zAo zUk z9f (spM K 2 zsk)){zjq:yd}{zyn:yi}(znj:FnAt K mg "row_to" zpj zgf zjq zyn)(zwk:tq P w K mg base CX0 1 zjq zyn zgf (spM K 2 zij)){f:yd}{fd:yi}(B:FnAt K mg "put_in" zAg zAc f fd):tq P w K mg base CX0 3 f fd zAc (spM K 3 zde):=by
 refine fnM B.fn TZ rfl (λcdv A outer s H E hr=>⟨zhj,?_,λ_ _ _ _ _ e=>e⟩);have hu:=hr.units;exact(zp (zV 3 (tD zAf z5f hr (zf (mv 0) (zf (mv 1) (zf (mv 2) zm)))) (hN:=TZ.nd)) (zp (zV 4 (tD zLj zwi hr (zf (mv 0) (zf (mv 1) zm))) (hN:=TZ.nd)) (zp (zOe (z9w (mv 3)) (zEb 5 (hN:=TZ.nd)) (zu (zpc (zeb zOs (zW (mv 4) (mv 5)) zx) (zu (zT (zSd (zf z2e (zf (tD znj zwk hr (zf (mv 3) (zf (mv 5) zm))) zm))))) z9))) (zu (zT (zSd (zf z2e (zf (mlc ["other","nest"] [2,3] (zgg T.tT z2b (mv 1)) (λ_ _ _ _ _=>(zjm (zTd (zjb 0 (hN:=zib (by rfl))) (zTd (zjb 1 (hN:=zib (by rfl))) ztj)))) (λ_ _ _ _ _=>(zuq (MW.mt (zRr (zeb (zXb hu) (mv 0) (mv 2)) (zzn (zeb z0q (mv 1) (mv 3))))))) (λ_ _ _ _ _=>(mv 0)) (zDb ⟨_,rfl,rfl⟩ (zDb ⟨_,rfl,rfl⟩ zJd))) zm))))))))
abbrev zmm:Yi:=top 10
abbrev zKg:List yy:=["web","laying"]
def TU:tu z9s zKg (zB zmm):=by walk_at "s"
def zFs(T:Txt K mg){zAo:yd}{zUk:yi}(zLj:FnAt K mg "left" zsn z9f zAo zUk)(zwi:tq P w K mg base CX0 1 zAo zUk z9f (spM K 2 zsk)){f:yd}{fd:yi}(B:FnAt K mg "fault" zmm zKg f fd):tq P w K mg base CX0 2 f fd zKg (spM K 2 zSm):=by
 refine fnM B.fn TU rfl (λcdv A outer s H E hr=>⟨zNm,?_,λ_ _ _ _ _ e=>e⟩);have hu:=hr.units;exact(zp (zOe (zgg T.tT z2b (mv 1)) (zeo (zhc (zEb 2 (hN:=TU.nd)) (zhc (zEb 3 (hN:=TU.nd)) zHi))) (zu (zpc (MW.mt (zYs (zeb zVh (mv 3) zdf) (zqp (zeb zOj (mv 3) (zW (zW (mv 0) zx) (mv 2)))))) (zu (zT (zSd (zf z2e (zf (mv 2) zm))))) z9))) (zp (zOe (zgg T.tT z2b (tD zLj zwi hr (zf (mv 0) (zf (mv 1) zm)))) (zeo (zhc (zEb 3 (hN:=TU.nd)) (zhc (zEb 4 (hN:=TU.nd)) zHi))) (zu (zpc (zeb z7l (mv 4) zx) (zu (zT (zSd (zf z2e (zf (mv 3) zm))))) z9))) (zu (zT zdf))))
abbrev zqi:Yi:=top 13
abbrev zfe:List yy:=["web","laying","row","at"]
def sT:tu zao zfe (zB zqi):=by walk_at "s"
def z2o(T:Txt K mg){f:yd}{fd:yi}(B:FnAt K mg "is_push" zqi zfe f fd):tq P w K mg base CX0 1 f fd zfe (spM K 4 z5h):=by
 refine fnM B.fn sT rfl (λcdv A outer s H E hr=>⟨z2h,?_,λ_ _ _ _ _ e=>e⟩);have hu:=hr.units;exact(zp (zV 4 (zW (zW (mv 2) (mv 3)) zx) (hN:=sT.nd)) (zp (zpc (MW.mt (zRr (zeb z7l (mv 4) zx) (zzn (zeb zyz (mv 4) (zcb zub T.Tr zYd (zf (mv 1) zm)))))) (zu (zT z2j)) z9) (zp (zpc (MW.mt (zRr (zeb zOj (zW (zW (mv 2) (mv 3)) zx) (zW (zW (mv 0) zx) (mv 4))) (zzn (zeb (zXb hu) (zW (zW (mv 2) (mv 3)) zx) (zW (mv 1) (mv 4)))))) (zu (zT z2j)) z9) (zu (zT (zed zOj (mv 4) (mlc ["push"] [] (zhd (z3t (mv 2) zMt (zFo (mv 3)))) (λ_ _ _ _ _=>(zjb 0 (hN:=zib (by rfl)))) (λ_ _ _ _ _=>zbf) (λ_ _ _ _ _=>(zW (mv 0) zx)) zJd)))))))
abbrev zth:Yi:=top 14
abbrev zje:List yy:=["laying","key","row","at"]
def zwr:tu zgo zje (zB zth):=by walk_at "s"
def zDp(T:Txt K mg){f:yd}{fd:yi}(B:FnAt K mg "follows" zth zje f fd):tq P w K mg base CX0 1 f fd zje (spM K 4 z8h):=by
 refine fnM B.fn zwr rfl (λcdv A outer s H E hr=>⟨zfi,?_,λ_ _ _ _ _ e=>e⟩);have hu:=hr.units;exact(zp (zpc (zeb (zXb hu) (mv 3) zx) (zu (zT (zed (zXb hu) (zW (zW (mv 2) zx) zx) (mv 1)))) z9) (zu (zT (zed (zXb hu) (zW (mv 0) (zW (zW (mv 2) (mv 3)) zx)) (zW (zW (mv 2) (zmb zAp (mv 3) zx)) zx)))))
abbrev zoj:Yi:=top 15
abbrev zkf:List yy:=["web","laying","key","row"]
def sf:tu zzq zkf (zB zoj):=by walk_at "s"
def zgs(T:Txt K mg){zUt:yd}{z4p:yi}(z6m:FnAt K mg "fault" zmm zKg zUt z4p)(z3m:tq P w K mg base CX0 2 zUt z4p zKg (spM K 2 zSm)){zqn:yd}{zUl:yi}(zPh:FnAt K mg "is_push" zqi zfe zqn zUl)(zOi:tq P w K mg base CX0 1 zqn zUl zfe (spM K 4 z5h)){zKn:yd}{zDl:yi}(zsh:FnAt K mg "follows" zth zje zKn zDl)(zCi:tq P w K mg base CX0 1 zKn zDl zje (spM K 4 z8h)){f:yd}{fd:yi}(B:FnAt K mg "pushed" zoj zkf f fd):tq P w K mg base CX0 3 f fd zkf (spM K 4 zgj):=by
 refine fnM B.fn sf rfl (λcdv A outer s H E hr=>⟨zvj,?_,λ_ _ _ _ _ e=>e⟩);have hu:=hr.units;exact(zp (zV 4 (zPf zEl T.TR z8f (zf (mv 1) zm)) (hN:=sf.nd)) (zp (zOe (zgg T.tT z2b (mv 3)) (zeo (zhc (zEb 5 (hN:=sf.nd)) (zhc (zEb 6 (hN:=sf.nd)) zHi))) (zp (zpc (z7i (MW.mt (zYs (zSe (tD zPh zOi hr (zf (mv 0) (zf (mv 1) (zf (mv 3) (zf (mv 5) zm)))))) (zqp (zSe (tD zsh zCi hr (zf (mv 1) (zf (mv 2) (zf (mv 3) (zf (mv 5) zm)))))))))) (zu ziq) z9) (zu (z4i (zW (mv 6) zx) (zYx (mv 4) (zW (mv 6) zx)))))) (zp (zpc (MW.mt (zRr (zeb (zXb hu) (zcb zub T.Tr zYd (zf (mv 3) zm)) zx) (zzn (zeb zVh (tD z6m z3m hr (zf (mv 0) (zf (mv 4) zm))) zdf)))) (zu ziq) z9) (zu (zT (mv 4))))))
abbrev zIf:Yi:=top 19
abbrev zXc:List yy:=["web","laying","keys"]
def Tk:tu zGj zXc (zB zIf):=by walk_at "s"
def z2m(T:Txt K mg){zZe:yd}{zRd:yi}(zCd:FnAt K mg "put_in" zAg zAc zZe zRd)(zad:tq P w K mg base CX0 3 zZe zRd zAc (spM K 3 zde)){z1q:yd}{zNn:yi}(zuj:FnAt K mg "pushed" zoj zkf z1q zNn)(zzk:tq P w K mg base CX0 3 z1q zNn zkf (spM K 4 zgj)){f:yd}{fd:yi}(B:FnAt K mg "laid_more" zIf zXc f fd):tq P w K mg base CX0 4 f fd zXc (spM K 3 zQf):=by
 refine fnM B.fn Tk rfl (λcdv A outer s H E hr=>⟨zBf,?_,λ_ _ _ _ _ e=>e⟩);have hu:=hr.units;exact(zp (zV 3 (zKd zm) (hN:=Tk.nd)) (zp (zOe (zhd (mv 2)) (zEb 4 (hN:=Tk.nd)) (zp (zV 5 (tD zCd zad hr (zf (mv 0) (zf (mv 1) (zf (mv 4) zm)))) (hN:=Tk.nd)) (zu (zpc (zeb (zXb hu) (zW (mv 5) zx) z2e) (zu (zV 1 (tD zuj zzk hr (zf (mv 0) (zf (mv 1) (zf (mv 4) (zf (zW (mv 5) zx) zm))))) (hN:=Tk.nd))) (zu (zdg (z1n (mv 3) (zf (zW (mv 5) zx) zm)))))))) (zu (zT (zSd (zf (mv 1) (zf (zts T.Tu zve T.SX zmu (mv 3)) zm)))))))
abbrev zZd:Yi:=top 20
abbrev zdc:List yy:=["web"]
def z0k:tu zRh zdc (zB zZd):=by walk_at "s"
def zWj(T:Txt K mg){zuk:yd}{zQi:yi}(zrf:FnAt K mg "laid_more" zIf zXc zuk zQi)(zbg:tq P w K mg base CX0 4 zuk zQi zXc (spM K 3 zQf)){f:yd}{fd:yi}(B:FnAt K mg "laid_at_all" zZd zdc f fd):tq P w K mg base CX0 5 f fd zdc (spM K 1 z9d):=by
 refine fnM B.fn z0k rfl (λcdv A outer s H E hr=>⟨z4d,?_,λ_ _ _ _ _ e=>e⟩);have hu:=hr.units;exact(zu (zT (tD zrf zbg hr (zf (mv 0) (zf (zmb z7e (zKd (zf zdf zm)) (zcb zub T.Tr zYd (zf (zW (mv 0) zx) zm))) (zf (zvo T.TR z8f T.sv (zcb zub T.Tr zYd (zf (zW (mv 0) zx) zm))) zm))))))
abbrev z7f:Yi:=top 28
abbrev z1c:List yy:=["web","nests"]
def zes:tu zYn z1c (zB z7f):=by walk_at "s"
def zrp(T:Txt K mg){f:yd}{fd:yi}(B:FnAt K mg "room_of" z7f z1c f fd):tq P w K mg base CX0 1 f fd z1c (spM K 2 zff):=by
 refine fnM B.fn zes rfl (λcdv A outer s H E hr=>⟨zji,?_,λ_ _ _ _ _ e=>e⟩);have hu:=hr.units;exact(zu (zT (zcb (zou rfl) T.n_sum z4z (zf (mlc ["nest"] [0] (zhd (mv 1)) (λ_ _ _ _ _=>(zjb 0 (hN:=zib (by rfl)))) (λ_ _ _ _ _=>zbf) (λ_ _ _ _ _=>(zW (zW (mv 1) zx) (mv 0))) (zDb ⟨_,rfl,rfl⟩ zJd)) zm))))
abbrev zif:Yi:=top 27
abbrev zlc:List yy:=["web","some"]
def TV:tu zNl zlc (zB zif):=by walk_at "s"
def zCo(T:Txt K mg){f:yd}{fd:yi}(B:FnAt K mg "homes_of" zif zlc f fd):tq P w K mg base CX0 1 f fd zlc (spM K 2 zke):=by
 refine fnM B.fn TV rfl (λcdv A outer s H E hr=>⟨zMg,?_,λ_ _ _ _ _ e=>e⟩);have hu:=hr.units;exact(zp (zV 2 (zKd zm) (hN:=TV.nd)) (zp (zOe (zhd (mv 1)) (zEb 3 (hN:=TV.nd)) (zu (zdg (z1n (mv 2) (zf (zW (zW (mv 0) zx) (mv 3)) zm))))) (zu (zT (zts T.Tu zve T.SX zmu (mv 2))))))
abbrev zvg:Yi:=top 30
abbrev zpd:List yy:=["web","some"]
def zCp:tu zLl zpd (zB zvg):=by walk_at "s"
def zzo(T:Txt K mg){zag:yd}{zpf:yi}(zAe:FnAt K mg "room_of" z7f z1c zag zpf)(zee:tq P w K mg base CX0 1 zag zpf z1c (spM K 2 zff)){zqf:yd}{zoe:yi}(zzd:FnAt K mg "homes_of" zif zlc zqf zoe)(zxd:tq P w K mg base CX0 1 zqf zoe zlc (spM K 2 zke)){f:yd}{fd:yi}(B:FnAt K mg "is_crowd" zvg zpd f fd):tq P w K mg base CX0 2 f fd zpd (spM K 2 zxg):=by
 refine fnM B.fn zCp rfl (λcdv A outer s H E hr=>⟨zng,?_,λ_ _ _ _ _ e=>e⟩);have hu:=hr.units;exact(zu (zT (zed z7l (tD zAe zee hr (zf (mv 0) (zf (tD zzd zxd hr (zf (mv 0) (zf (mv 1) zm))) zm))) (zcb zub T.Tr zYd (zf (mv 1) zm)))))
abbrev zyf:Yi:=top 31
abbrev z0c:List yy:=["web","some"]
def sw:tu zvk z0c (zB zyf):=by walk_at "s"
def zPm(T:Txt K mg){z0l:yd}{z8j:yi}(ztg:FnAt K mg "is_crowd" zvg zpd z0l z8j)(zgh:tq P w K mg base CX0 2 z0l z8j zpd (spM K 2 zxg)){f:yd}{fd:yi}(B:FnAt K mg "spare_key" zyf z0c f fd):tq P w K mg base CX0 3 f fd z0c (spM K 2 zre):=by
 refine fnM B.fn sw rfl (λcdv A outer s H E hr=>⟨zVf,?_,λ_ _ _ _ _ e=>e⟩);have hu:=hr.units;exact(zp (zOe (zhd (mv 1)) (zEb 2 (hN:=sw.nd)) (zu (zpc (zSe (tD ztg zgh hr (zf (mv 0) (zf (mlc ["other"] [2] (zhd (mv 1)) (λ_ _ _ _ _=>(zjb 0 (hN:=zib (by rfl)))) (λ_ _ _ _ _=>(zuq (zeb (z6s hu) (mv 0) (mv 1)))) (λ_ _ _ _ _=>(mv 0)) (zDb ⟨_,rfl,rfl⟩ zJd)) zm)))) (zu (zT (mv 2))) z9))) (zu (zT zdf)))
abbrev zQh:Yi:=top 32
abbrev zge:List yy:=["web","some"]
def TK:tu zTn zge (zB zQh):=by walk_at "s"
def zBp(T:Txt K mg){zok:yd}{zTi:yi}(zGe:FnAt K mg "spare_key" zyf z0c zok zTi)(zTe:tq P w K mg base CX0 3 zok zTi z0c (spM K 2 zre)){f:yd}{fd:yi}(B:FnAt K mg "trimmed" zQh zge f fd):tq P w K mg base CX0 4 f fd zge (spM K 2 zyh):=by
 refine fnM B.fn TK rfl (λcdv A outer s H E hr=>⟨zph,?_,λ_ _ _ _ _ e=>e⟩);have hu:=hr.units;exact(zp (zV 2 (zPf zEl T.TR z8f (zf (mv 1) zm)) (hN:=TK.nd)) (zp (zV 3 (tD zGe zTe hr (zf (mv 0) (zf (mv 2) zm))) (hN:=TK.nd)) (zp (zzm 100000 (zeb zVh (mv 3) zdf) (zp (zdg (zQs (mv 2) (zf (mv 3) zm))) (zu (zV 3 (tD zGe zTe hr (zf (mv 0) (zf (mv 2) zm))) (hN:=TK.nd))))) (zu (zT (mv 2))))))
abbrev zyg:Yi:=top 33
abbrev zzc:List yy:=["web"]
def sZ:tu zGq zzc (zB zyg):=by walk_at "s"
def zkr(T:Txt K mg){zbi:yd}{z8g:yi}(z0d:FnAt K mg "laid_at_all" zZd zdc zbi z8g)(z4e:tq P w K mg base CX0 5 zbi z8g zdc (spM K 1 z9d)){zZn:yd}{znl:yi}(zxh:FnAt K mg "trimmed" zQh zge zZn znl)(zMi:tq P w K mg base CX0 4 zZn znl zge (spM K 2 zyh)){f:yd}{fd:yi}(B:FnAt K mg "fitted" zyg zzc f fd):tq P w K mg base CX0 6 f fd zzc (spM K 1 z7d):=by
 refine fnM B.fn sZ rfl (λcdv A outer s H E hr=>⟨zlj,?_,λ_ _ _ _ _ e=>e⟩);have hu:=hr.units;exact(zp (zV 1 (tD z0d z4e hr (zf (mv 0) zm)) (hN:=sZ.nd)) (zp (zpc (zeb (zXb hu) (zW (mv 1) zx) (zKd zm)) (zu (zT (zSd (zf z2e (zf (zW (mv 1) zx) zm))))) z9) (zu (zT (zSd (zf z2e (zf (tD zxh zMi hr (zf (mv 0) (zf (zW (mv 1) zx) zm))) zm)))))))
abbrev zmi:Yi:=top 37
abbrev zie:List yy:=["web","key","nest"]
def zAr:tu zfo zie (zB zmi):=by walk_at "s"
def zmp(T:Txt K mg){f:yd}{fd:yi}(B:FnAt K mg "held_to" zmi zie f fd):tq P w K mg base CX0 1 f fd zie (spM K 3 zIh):=by
 refine fnM B.fn zAr rfl (λcdv A outer s H E hr=>⟨zGh,?_,λ_ _ _ _ _ e=>e⟩);have hu:=hr.units;exact(zu (zT (zSd (zf (zW (mv 0) zx) (zf (zmb zfb (zmb zfb (z3t (zW (mv 0) zx) zMt (zFo (mv 1))) (zSd (zf (zSd (zf (mv 2) (zf (mv 2) zm))) zm))) (z3t (zW (mv 0) zx) (zFo (zmb zfb (mv 1) zx)) zMt)) zm)))))
abbrev zUg:Yi:=top 38
abbrev znd:List yy:=["web","laying","key","nest"]
def sH:tu zQl znd (zB zUg):=by walk_at "s"
def zHo(T:Txt K mg){zZe:yd}{zRd:yi}(zCd:FnAt K mg "put_in" zAg zAc zZe zRd)(zad:tq P w K mg base CX0 3 zZe zRd zAc (spM K 3 zde)){zHn:yd}{z9l:yi}(zvh:FnAt K mg "held_to" zmi zie zHn z9l)(zPi:tq P w K mg base CX0 1 zHn z9l zie (spM K 3 zIh)){f:yd}{fd:yi}(B:FnAt K mg "can_move" zUg znd f fd):tq P w K mg base CX0 4 f fd znd (spM K 4 zPg):=by
 refine fnM B.fn sH rfl (λcdv A outer s H E hr=>⟨zNg,?_,λ_ _ _ _ _ e=>e⟩);have hu:=hr.units;exact(zp (zV 4 (zmb zfb (zmb zfb (z3t (mv 1) zMt (zFo (mv 2))) (zKd (zf zdf zm))) (z3t (mv 1) (zFo (zmb zfb (mv 2) zx)) zMt)) (hN:=sH.nd)) (zu (zT (zed (zXb hu) (zW (tD zCd zad hr (zf (tD zvh zPi hr (zf (mv 0) (zf (mv 2) (zf (mv 3) zm)))) (zf (mv 4) (zf (mv 2) zm)))) zx) z2e))))
abbrev zcj:Yi:=top 39
abbrev znf:List yy:=["web"]
def TC:tu zbq znf (zB zcj):=by walk_at "s"
def z6r(T:Txt K mg){zVe:yd}{zMd:yi}(zAd:FnAt K mg "fitted" zyg zzc zVe zMd)(z8c:tq P w K mg base CX0 6 zVe zMd zzc (spM K 1 z7d)){zll:yd}{zNj:yi}(zog:FnAt K mg "can_move" zUg znd zll zNj)(zhh:tq P w K mg base CX0 4 zll zNj znd (spM K 4 zPg)){zDt zPu z3q:yd}{sk:yi}(Td:sS K mg "NoFit" "some" "NoFit.__init__" zUc zQb zDt zPu z3q sk)(Tx:tq P w K mg base CX0 1 z3q sk zQb (spL zDt "some")){f:yd}{fd:yi}(B:FnAt K mg "places" zcj znf f fd):tq P w K mg base (CXq P w) 7 f fd znf (spX K 1 zBj):=by
 refine fnX B.fn TC rfl (λcdv A outer s H E hr=>⟨zsj,?_,λ_ _ _ _ e=>e⟩);have hu:=hr.units;exact(zp (zV 1 (tD zAd z8c hr (zf (mv 0) zm)) (hN:=TC.nd)) (zp (zpc (zeb (zXb hu) (zW (mv 1) zx) z2e) (zu (zXh Td.nm Td.ex Tx Td.bd hr (zf (zW (mv 1) zx) zm))) z9) (zp (zV 2 (zKd zm) (hN:=TC.nd)) (zp (zOe (zgg T.tT z2b (zW (mv 0) zx)) (zeo (zhc (zEb 3 (hN:=TC.nd)) (zhc (zEb 4 (hN:=TC.nd)) zHi))) (zu (zdg (zTj (mv 2) (zf (mlc ["nest"] [0,1,3] (zhd (zIv T.Tu zve T.SX zmu (mv 4))) (λ_ _ _ _ _=>(zjb 0 (hN:=zib (by rfl)))) (λ_ _ _ _ _=>(zuq (zSe (tD zog zhh hr (zf (mv 1) (zf (zW (mv 2) zx) (zf (mv 3) (zf (mv 0) zm)))))))) (λ_ _ _ _ _=>(mv 0)) (zDb ⟨_,rfl,rfl⟩ (zDb ⟨_,rfl,rfl⟩ (zDb ⟨_,rfl,rfl⟩ zJd)))) zm))))) (zu (zT (mv 2)))))))
abbrev znm:Yi:=top 23
abbrev zEg:List yy:=["rule","key"]
def Sq:tu z7t zEg (zB znm):=by walk_at "s"
def zku(T:Txt K mg){f:yd}{fd:yi}(B:FnAt K mg "homes" znm zEg f fd):tq P w K mg base CX0 1 f fd zEg (spM K 2 zYm):=by
 refine fnM B.fn Sq rfl (λcdv A outer s H E hr=>⟨z9m,?_,λ_ _ _ _ _ e=>e⟩);have hu:=hr.units;exact(zp (zV 2 (zcb zub T.Tr zYd (zf (zW (mv 0) zx) zm)) (hN:=Sq.nd)) (zu (zT (zPf zUf T.sK zfj (zf (mlc ["way"] [1,2] (zhd (zW (mv 0) zx)) (λ_ _ _ _ _=>(zjb 0 (hN:=zib (by rfl)))) (λ_ _ _ _ _=>zbf) (λ_ _ _ _ _=>(zmb z8e (zmb z8e (zmb zfb (zmb z7e (zW (mv 0) zx) (mv 1)) (zW (mv 0) zx)) (zdt T.SL)) (mv 2))) (zDb ⟨_,rfl,rfl⟩ (zDb ⟨_,rfl,rfl⟩ zJd))) zm)))))
abbrev zRe:Yi:=top 26
abbrev zGb:List yy:=["rule","keys"]
def z6t:tu zKq zGb (zB zRe):=by walk_at "s"
def zLr(T:Txt K mg){zrt:yd}{z9p:yi}(zEm:FnAt K mg "homes" znm zEg zrt z9p)(zIm:tq P w K mg base CX0 1 zrt z9p zEg (spM K 2 zYm)){f:yd}{fd:yi}(B:FnAt K mg "web_of" zRe zGb f fd):tq P w K mg base CX0 2 f fd zGb (spM K 2 zic):=by
 refine fnM B.fn z6t rfl (λcdv A outer s H E hr=>⟨zAj,?_,λ_ _ _ _ _ e=>e⟩);have hu:=hr.units;exact(zu (zT (zSd (zf (zW (mv 0) zx) (zf (zPf zUf T.sK zfj (zf (mlc ["key"] [0] (zhd (mv 1)) (λ_ _ _ _ _=>(zjb 0 (hN:=zib (by rfl)))) (λ_ _ _ _ _=>zbf) (λ_ _ _ _ _=>(tD zEm zIm hr (zf (mv 1) (zf (mv 0) zm)))) (zDb ⟨_,rfl,rfl⟩ zJd)) zm)) zm)))))
abbrev z3b:Yi:=zHf (top 35) 10
abbrev z5:List yy:=["self"]
def zTm:tu z8i z5 (zB z3b):=by walk_at "s"
def z6k(T:Txt K mg){C:yd}{f:yd}{fd:yi}(B:MethAt K "Shelf" "rule" "Shelf.rule" z3b z5 C f fd):tq P w K mg base CX0 1 f fd z5 (spM K 1 zrb):=by
 refine fnM B.fn zTm rfl (λcdv A outer s H E hr=>⟨zLe,?_,λ_ _ _ _ _ e=>e⟩);have hu:=hr.units;exact(zu (zT (zei T.tL (mv 0))))
abbrev ztc:Yi:=zHf (top 35) 4
abbrev zkb:List yy:=["self","key"]
def zbl:tu zhi zkb (zB ztc):=by walk_at "s"
def zLk(T:Txt K mg){C:yd}{f:yd}{fd:yi}(B:MethAt K "Shelf" "where" "Shelf.where" ztc zkb C f fd):tq P w K mg base CX0 1 f fd zkb (spM K 2 zrc):=by
 refine fnM B.fn zbl rfl (λcdv A outer s H E hr=>⟨z2d,?_,λ_ _ _ _ _ e=>e⟩);have hu:=hr.units;exact(zu (zT (z7x (zei T.tF (mv 0)) (zf (mv 1) zm))))
abbrev zHc:Yi:=top 50
abbrev zyb:List yy:=["_law_shelf"]
def Tl:tu z3f zyb (zB zHc):=by walk_at "s"
def zqh(T:Txt K mg){tw:yd}{zz:yd}{zw:yi}(zt:MethAt K "Shelf" "all_there" "Shelf.all_there" zS zA tw zz zw)(zr:tq P w K mg base CX0 1 zz zw zA (spM K 1 zF)){z8q:yd}{zco:yi}(zFj:FnAt K mg "places" zcj znf z8q zco)(zQk:tq P w K mg base (CXq P w) 7 z8q zco znf (spX K 1 zBj)){zjc:yd}{zRb:yi}(zWb:FnAt K mg "web_of" zRe zGb zjc zRb)(zCb:tq P w K mg base CX0 2 zjc zRb zGb (spM K 2 zic)){tW:yd}{zqb:yd}{zab:yi}(z6:MethAt K "Shelf" "rule" "Shelf.rule" z3b z5 tW zqb zab)(zZ:tq P w K mg base CX0 1 zqb zab z5 (spM K 1 zrb)){Tz:yd}{z5c:yd}{zDc:yi}(z8b:MethAt K "Shelf" "where" "Shelf.where" ztc zkb Tz z5c zDc)(zec:tq P w K mg base CX0 1 z5c zDc zkb (spM K 2 zrc)){f:yd}{fd:yi}(B:FnAt K mg "_law_in_places" zHc zyb f fd):tq P w K mg base CX0 8 f fd zyb (spM K 1 zac):=by
 refine fnM B.fn Tl rfl (λcdv A outer s H E hr=>⟨zFc,?_,λ_ _ _ _ _ e=>e⟩);have hu:=hr.units;exact(zp (zV 1 (Ta zt zr hr (mv 0)) (hN:=Tl.nd)) (zp (zV 2 (mcallX zFj zQk hr (zf (tD zWb zCb hr (zf (Ta z6 zZ hr (mv 0)) (zf (mv 1) zm))) zm)) (hN:=Tl.nd)) (zu (zT (zcb (zjo rfl) T.n_all zow (zf (mlc ["_law_key_here","_law_own"] [0] (zRz T.n_zip zHy (zf (mv 1) (zf (mv 2) zm))) (λ_ _ _ _ _=>(zjm (zTd (zjb 0 (hN:=zib (by rfl))) (zTd (zjb 1 (hN:=zib (by rfl))) ztj)))) (λ_ _ _ _ _=>zbf) (λ_ _ _ _ _=>(zed zat (SI z8b zec hr (mv 2) (zf (mv 0) zm)) (mv 1))) (zDb ⟨_,rfl,rfl⟩ zJd)) zm))))))
abbrev zkd:Yi:=top 47
abbrev zwb:List yy:=["_law_rule_here","_law_keys"]
def zIo:tu zgk zwb (zB zkd):=by walk_at "s"
def zum(T:Txt K mg){zVe:yd}{zMd:yi}(zAd:FnAt K mg "fitted" zyg zzc zVe zMd)(z8c:tq P w K mg base CX0 6 zVe zMd zzc (spM K 1 z7d)){zjc:yd}{zRb:yi}(zWb:FnAt K mg "web_of" zRe zGb zjc zRb)(zCb:tq P w K mg base CX0 2 zjc zRb zGb (spM K 2 zic)){f:yd}{fd:yi}(B:FnAt K mg "_law_fits" zkd zwb f fd):tq P w K mg base CX0 7 f fd zwb (spM K 2 zqc):=by
 refine fnM B.fn zIo rfl (λcdv A outer s H E hr=>⟨zRf,?_,λ_ _ _ _ _ e=>e⟩);have hu:=hr.units;exact(zu (zT (zed (zXb hu) (zW (tD zAd z8c hr (zf (tD zWb zCb hr (zf (mv 0) (zf (mv 1) zm))) zm)) zx) z2e)))
abbrev zbd:Yi:=zHf (top 35) 9
abbrev zUb:List yy:=["self","rule"]
def Tb:tu zgi zUb (zB zbd):=by walk_at "s"
def zOk(T:Txt K mg){tw:yd}{zz:yd}{zw:yi}(zt:MethAt K "Shelf" "all_there" "Shelf.all_there" zS zA tw zz zw)(zr:tq P w K mg base CX0 1 zz zw zA (spM K 1 zF)){zVe:yd}{zMd:yi}(zAd:FnAt K mg "fitted" zyg zzc zVe zMd)(z8c:tq P w K mg base CX0 6 zVe zMd zzc (spM K 1 z7d)){zjc:yd}{zRb:yi}(zWb:FnAt K mg "web_of" zRe zGb zjc zRb)(zCb:tq P w K mg base CX0 2 zjc zRb zGb (spM K 2 zic)){zuh z0o z9j:yd}{Tm:yi}(tH:sS K mg "Full" "some" "Full.__init__" zOc zvb zuh z0o z9j Tm)(tX:tq P w K mg base CX0 1 z9j Tm zvb (spL zuh "some")){C:yd}{f:yd}{fd:yi}(B:MethAt K "Shelf" "renew" "Shelf.renew" zbd zUb C f fd):tq P w K mg base (CXq P w) 7 f fd zUb (spX K 2 z6d):=by
 refine fnX B.fn Tb rfl (λcdv A outer s H E hr=>⟨z1d,?_,λ_ _ _ _ e=>e⟩);have hu:=hr.units;exact(zp (zV 2 (Ta zt zr hr (mv 0)) (hN:=Tb.nd)) (zp (zV 3 (tD zAd z8c hr (zf (tD zWb zCb hr (zf (mv 1) (zf (mv 2) zm))) zm)) (hN:=Tb.nd)) (zp (zpc (zeb (zXb hu) (zW (mv 3) zx) z2e) (zu (zXh tH.nm tH.ex tX tH.bd hr (zf (mlc ["place"] [2] (zhd (zW (mv 3) zx)) (λ_ _ _ _ _=>(zjb 0 (hN:=zib (by rfl)))) (λ_ _ _ _ _=>zbf) (λ_ _ _ _ _=>(zW (mv 1) (mv 0))) (zDb ⟨_,rfl,rfl⟩ zJd)) zm))) z9) (zp (zCs T.tL (mv 0) (mv 1)) (zu (zOe (zgg T.tT z2b (mv 2)) (zeo (zhc (zEb 4 (hN:=Tb.nd)) (zhc (zEb 5 (hN:=Tb.nd)) zHi))) (zu (z4i (zW (zW (mv 3) zx) (mv 4)) (zXp (zei T.tF (mv 0)) (mv 5))))))))))
abbrev zBd:Yi:=top 49
abbrev zZb:List yy:=["_law_shelf","_law_other"]
def Th:tu z0g zZb (zB zBd):=by walk_at "s"
def zbj(T:Txt K mg){zkc:yd}{z4b:yi}(zSb:FnAt K mg "_law_fits" zkd zwb zkc z4b)(zMb:tq P w K mg base CX0 7 zkc z4b zwb (spM K 2 zqc)){tw:yd}{zz:yd}{zw:yi}(zt:MethAt K "Shelf" "all_there" "Shelf.all_there" zS zA tw zz zw)(zr:tq P w K mg base CX0 1 zz zw zA (spM K 1 zF)){sX:yd}{zJh:yd}{zYg:yi}(zae:MethAt K "Shelf" "renew" "Shelf.renew" zbd zUb sX zJh zYg)(z5e:tq P w K mg base (CXq P w) 7 zJh zYg zUb (spX K 2 z6d)){tW:yd}{zqb:yd}{zab:yi}(z6:MethAt K "Shelf" "rule" "Shelf.rule" z3b z5 tW zqb zab)(zZ:tq P w K mg base CX0 1 zqb zab z5 (spM K 1 zrb)){f:yd}{fd:yi}(B:FnAt K mg "_law_renewed" zBd zZb f fd):tq P w K mg base CX0 8 f fd zZb (spM K 2 zId):=by
 obtain⟨zuh,n_Full,m_Full,k_Full⟩:=T.SV;refine fnM B.fn Th rfl (λcdv A outer s H E hr=>⟨zHd,?_,λ_ _ _ _ _ e=>e⟩);have hu:=hr.units;exact(zp (zV 2 (tD zSb zMb hr (zf (mv 1) (zf (Ta zt zr hr (mv 0)) zm))) (hN:=Th.nd)) (zp (zV 3 z2j (hN:=Th.nd)) (zp (z6v (zhw (z8p zae z5e hr (mv 0) (zf (mv 1) zm))) (zgy [("NoFit",false),("Full",true),("NoKey",false),("Twice",false)] n_Full k_Full (T.SW zuh n_Full) (λ_=>(zu (zV 3 z2j (hN:=Th.nd)))) zss)) (zu (zT (zgu (zed (zXb hu) (mv 3) (mv 2)) (zPn (zOy (zed (zXb hu) (Ta z6 zZ hr (mv 0)) (mv 1)) (zPn (zgz (mv 3)))))))))))
abbrev zrd:Yi:=zHf (top 35) 3
abbrev zPb:List yy:=["self","key"]
def zSn:tu zVj zPb (zB zrd):=by walk_at "s"
def zVm(T:Txt K mg){C:yd}{f:yd}{fd:yi}(B:MethAt K "Shelf" "has" "Shelf.has" zrd zPb C f fd):tq P w K mg base CX0 1 f fd zPb (spM K 2 ztd):=by
 refine fnM B.fn zSn rfl (λcdv A outer s H E hr=>⟨zSf,?_,λ_ _ _ _ _ e=>e⟩);have hu:=hr.units;exact(zu (zT (zed z0q (mv 1) (zei T.tF (mv 0)))))
abbrev zld:Yi:=zHf (top 35) 2
abbrev zOb:List yy:=["self","key"]
def zOo:tu zZj zOb (zB zld):=by walk_at "s"
def zAm(T:Txt K mg){TW:yd}{zue:yd}{zLd:yi}(zLc:MethAt K "Shelf" "has" "Shelf.has" zrd zPb TW zue zLd)(zZc:tq P w K mg base CX0 1 zue zLd zPb (spM K 2 ztd)){C:yd}{f:yd}{fd:yi}(B:MethAt K "Shelf" "out" "Shelf.out" zld zOb C f fd):tq P w K mg base (CXq P w) 2 f fd zOb (spX K 2 zid):=by
 obtain⟨zwx,n_NoKey,m_NoKey,k_NoKey⟩:=T.x_NoKey;refine fnX B.fn zOo rfl (λcdv A outer s H E hr=>⟨zGf,?_,λ_ _ _ _ e=>e⟩);have hu:=hr.units;exact(zp (zpc (z7i (zSe (SI zLc zZc hr (mv 0) (zf (mv 1) zm)))) (zu (zcr n_NoKey (T.e_NoKey zwx n_NoKey) xK (zf z2e zm))) z9) (zu (zT (zTw (zei T.tF (mv 0)) (zf (mv 1) zm)))))
abbrev zCc:Yi:=zHf (top 35) 7
abbrev zzb:List yy:=["self"]
def zMk:tu z4g zzb (zB zCc):=by walk_at "s"
def zaj(T:Txt K mg){tw:yd}{zz:yd}{zw:yi}(zt:MethAt K "Shelf" "all_there" "Shelf.all_there" zS zA tw zz zw)(zr:tq P w K mg base CX0 1 zz zw zA (spM K 1 zF)){C:yd}{f:yd}{fd:yi}(B:MethAt K "Shelf" "laying" "Shelf.laying" zCc zzb C f fd):tq P w K mg base CX0 2 f fd zzb (spM K 1 zBc):=by
 refine fnM B.fn zMk rfl (λcdv A outer s H E hr=>⟨zGd,?_,λ_ _ _ _ _ e=>e⟩);have hu:=hr.units;exact(zu (zT (mlc ["key"] [0] (zhd (Ta zt zr hr (mv 0))) (λ_ _ _ _ _=>(zjb 0 (hN:=zib (by rfl)))) (λ_ _ _ _ _=>zbf) (λ_ _ _ _ _=>(zSs (zei T.tF (mv 1)) (mv 0))) (zDb ⟨_,rfl,rfl⟩ zJd))))
abbrev zud:Yi:=zHf (top 35) 1
abbrev zHb:List yy:=["self","key"]
def Tn:tu zlk zHb (zB zud):=by walk_at "s"
def zam(T:Txt K mg){TW:yd}{zue:yd}{zLd:yi}(zLc:MethAt K "Shelf" "has" "Shelf.has" zrd zPb TW zue zLd)(zZc:tq P w K mg base CX0 1 zue zLd zPb (spM K 2 ztd)){zZe:yd}{zRd:yi}(zCd:FnAt K mg "put_in" zAg zAc zZe zRd)(zad:tq P w K mg base CX0 3 zZe zRd zAc (spM K 3 zde)){tw:yd}{zz:yd}{zw:yi}(zt:MethAt K "Shelf" "all_there" "Shelf.all_there" zS zA tw zz zw)(zr:tq P w K mg base CX0 1 zz zw zA (spM K 1 zF)){zjc:yd}{zRb:yi}(zWb:FnAt K mg "web_of" zRe zGb zjc zRb)(zCb:tq P w K mg base CX0 2 zjc zRb zGb (spM K 2 zic)){sU:yd}{zXg:yd}{zhg:yi}(zEd:MethAt K "Shelf" "laying" "Shelf.laying" zCc zzb sU zXg zhg)(zwe:tq P w K mg base CX0 2 zXg zhg zzb (spM K 1 zBc)){zuh z0o z9j:yd}{Tm:yi}(tH:sS K mg "Full" "some" "Full.__init__" zOc zvb zuh z0o z9j Tm)(tX:tq P w K mg base CX0 1 z9j Tm zvb (spL zuh "some")){C:yd}{f:yd}{fd:yi}(B:MethAt K "Shelf" "put" "Shelf.put" zud zHb C f fd):tq P w K mg base (CXq P w) 4 f fd zHb (spX K 2 zRc):=by
 obtain⟨zgx,n_Twice,m_Twice,k_Twice⟩:=T.x_Twice;refine fnX B.fn Tn rfl (λcdv A outer s H E hr=>⟨zFf,?_,λ_ _ _ _ e=>e⟩);have hu:=hr.units;exact(zp (zpc (zSe (SI zLc zZc hr (mv 0) (zf (mv 1) zm))) (zu (zcr n_Twice (T.e_Twice zgx n_Twice) xK (zf z2e zm))) z9) (zp (zV 2 (zmb zfb (Ta zt zr hr (mv 0)) (zKd (zf (mv 1) zm))) (hN:=Tn.nd)) (zp (zpc (zeb zOs (zcb zub T.Tr zYd (zf (mv 2) zm)) (zdt T.So)) (zu (zXh tH.nm tH.ex tX tH.bd hr (zf (zcb (z9g rfl) T.Tu zve (zf (mv 2) zm)) zm))) z9) (zp (zV 3 (tD zCd zad hr (zf (tD zWb zCb hr (zf (zei T.tL (mv 0)) (zf (mv 2) zm))) (zf (zmb zfb (Ta zEd zwe hr (mv 0)) (zKd (zf zdf zm))) (zf (zmb zAp (zcb zub T.Tr zYd (zf (mv 2) zm)) zx) zm)))) (hN:=Tn.nd)) (zp (zpc (zeb (zXb hu) (zW (mv 3) zx) z2e) (zu (zXh tH.nm tH.ex tX tH.bd hr (zf (zcb (z9g rfl) T.Tu zve (zf (mlc ["place"] [2] (zhd (zW (mv 3) zx)) (λ_ _ _ _ _=>(zjb 0 (hN:=zib (by rfl)))) (λ_ _ _ _ _=>zbf) (λ_ _ _ _ _=>(zW (mv 1) (mv 0))) (zDb ⟨_,rfl,rfl⟩ zJd)) zm)) zm))) z9) (zp (mslc 4 ["push"] [2] (zhd (zW (mv 3) zx)) (λ_ _ _ _ _=>(zjb 0 (hN:=zib (by rfl)))) (λ_ _ _ _ _=>zbf) (λ_ _ _ _ _=>(zSd (zf (zW (mv 1) (zW (mv 0) zx)) (zf (zW (mv 0) zx) zm)))) (zDb ⟨_,rfl,rfl⟩ zJd) Tn.nd) (zp (zOe (zhd (mv 4)) (zEb 5 (hN:=Tn.nd)) (zu (z4i (zW (mv 5) zx) (zXp (zei T.tF (mv 0)) (zW (mv 5) zx))))) (zu (zT (mv 4))))))))))
abbrev zJb:Yi:=top 51
abbrev z8:List yy:=["_law_shelf","_law_key_here"]
def tY:tu zUd z8 (zB zJb):=by walk_at "s"
def zsf(T:Txt K mg){tw:yd}{zz:yd}{zw:yi}(zt:MethAt K "Shelf" "all_there" "Shelf.all_there" zS zA tw zz zw)(zr:tq P w K mg base CX0 1 zz zw zA (spM K 1 zF)){TX:yd}{zse:yd}{zOd:yi}(zSc:MethAt K "Shelf" "put" "Shelf.put" zud zHb TX zse zOd)(z2c:tq P w K mg base (CXq P w) 4 zse zOd zHb (spX K 2 zRc)){Tz:yd}{z5c:yd}{zDc:yi}(z8b:MethAt K "Shelf" "where" "Shelf.where" ztc zkb Tz z5c zDc)(zec:tq P w K mg base CX0 1 z5c zDc zkb (spM K 2 zrc)){zkc:yd}{z4b:yi}(zSb:FnAt K mg "_law_fits" zkd zwb zkc z4b)(zMb:tq P w K mg base CX0 7 zkc z4b zwb (spM K 2 zqc)){tW:yd}{zqb:yd}{zab:yi}(z6:MethAt K "Shelf" "rule" "Shelf.rule" z3b z5 tW zqb zab)(zZ:tq P w K mg base CX0 1 zqb zab z5 (spM K 1 zrb)){TY:yd}{zpe:yd}{zNd:yi}(zMc:MethAt K "Shelf" "out" "Shelf.out" zld zOb TY zpe zNd)(zYc:tq P w K mg base (CXq P w) 2 zpe zNd zOb (spX K 2 zid)){f:yd}{fd:yi}(B:FnAt K mg "_law_there_and_back" zJb z8 f fd):tq P w K mg base CX0 8 f fd z8 (spM K 2 zKb):=by
 refine fnM B.fn tY rfl (λcdv A outer s H E hr=>⟨zNb,?_,λ_ _ _ _ _ e=>e⟩);have hu:=hr.units;exact(zp (zV 2 (Ta zt zr hr (mv 0)) (hN:=tY.nd)) (zp (zpc (z7i (zSe (tD zSb zMb hr (zf (Ta z6 zZ hr (mv 0)) (zf (zmb zfb (mv 2) (zKd (zf (mv 1) zm))) zm))))) (zu (zT z2j)) z9) (zp (zdg (Sx zSc z2c hr (mv 0) (zf (mv 1) zm))) (zp (zV 3 (SI z8b zec hr (mv 0) (zf (mv 1) zm)) (hN:=tY.nd)) (zu (zT (zgu (zed (zXb hu) (Sx zMc zYc hr (mv 0) (zf (mv 1) zm)) (mv 3)) (zPn (zed (zXb hu) (Ta zt zr hr (mv 0)) (mv 2))))))))))
abbrev zDg:Yi:=top 48
abbrev zqd:List yy:=["_law_shelf","_law_key_here"]
def Tj:tu zXl zqd (zB zDg):=by walk_at "s"
def zJo(T:Txt K mg){tw:yd}{zz:yd}{zw:yi}(zt:MethAt K "Shelf" "all_there" "Shelf.all_there" zS zA tw zz zw)(zr:tq P w K mg base CX0 1 zz zw zA (spM K 1 zF)){zkc:yd}{z4b:yi}(zSb:FnAt K mg "_law_fits" zkd zwb zkc z4b)(zMb:tq P w K mg base CX0 7 zkc z4b zwb (spM K 2 zqc)){zjc:yd}{zRb:yi}(zWb:FnAt K mg "web_of" zRe zGb zjc zRb)(zCb:tq P w K mg base CX0 2 zjc zRb zGb (spM K 2 zic)){TX:yd}{zse:yd}{zOd:yi}(zSc:MethAt K "Shelf" "put" "Shelf.put" zud zHb TX zse zOd)(z2c:tq P w K mg base (CXq P w) 4 zse zOd zHb (spX K 2 zRc)){tW:yd}{zqb:yd}{zab:yi}(z6:MethAt K "Shelf" "rule" "Shelf.rule" z3b z5 tW zqb zab)(zZ:tq P w K mg base CX0 1 zqb zab z5 (spM K 1 zrb)){zag:yd}{zpf:yi}(zAe:FnAt K mg "room_of" z7f z1c zag zpf)(zee:tq P w K mg base CX0 1 zag zpf z1c (spM K 2 zff)){zqf:yd}{zoe:yi}(zzd:FnAt K mg "homes_of" zif zlc zqf zoe)(zxd:tq P w K mg base CX0 1 zqf zoe zlc (spM K 2 zke)){f:yd}{fd:yi}(B:FnAt K mg "_law_put" zDg zqd f fd):tq P w K mg base CX0 8 f fd zqd (spM K 2 zVg):=by
 obtain⟨zuh,n_Full,m_Full,k_Full⟩:=T.SV;refine fnM B.fn Tj rfl (λcdv A outer s H E hr=>⟨zQg,?_,λ_ _ _ _ _ e=>e⟩);have hu:=hr.units;exact(zp (zV 2 (Ta zt zr hr (mv 0)) (hN:=Tj.nd)) (zp (zV 3 zdf (hN:=Tj.nd)) (zp (z6v (zhw (z8p zSc z2c hr (mv 0) (zf (mv 1) zm))) (zBA 4 [("NoFit",false),("Full",true),("NoKey",false),("Twice",false)] n_Full k_Full (T.SW zuh n_Full) (λ_=>(zu (zV 3 (zxA T.a_Full (mv 4)) (hN:=Tj.nd)))) zss (hN:=Tj.nd))) (zp (zpc (zSe (tD zSb zMb hr (zf (Ta z6 zZ hr (mv 0)) (zf (zmb zfb (mv 2) (zKd (zf (mv 1) zm))) zm)))) (zu (zT (zgu (zed zjw (mv 3) zdf) (zPn (zed (zXb hu) (Ta zt zr hr (mv 0)) (zcb (z9g rfl) T.Tu zve (zf (zmb zfb (mv 2) (zKd (zf (mv 1) zm))) zm))))))) z9) (zp (zpc (MW.mt (zRr (zeb zjw (mv 3) zdf) (zRr (zeb (z6s hu) (Ta zt zr hr (mv 0)) (mv 2)) (zzn (z7i (zSe (zcb (zjo rfl) T.n_all zow (zf (mlc ["_law_one"] [2,1] (zhd (mv 3)) (λ_ _ _ _ _=>(zjb 0 (hN:=zib (by rfl)))) (λ_ _ _ _ _=>zbf) (λ_ _ _ _ _=>(zed zat (mv 0) (zmb zfb (mv 1) (zKd (zf (mv 2) zm))))) (zDb ⟨_,rfl,rfl⟩ (zDb ⟨_,rfl,rfl⟩ zJd))) zm)))))))) (zu (zT z2j)) z9) (zp (zV 5 (tD zWb zCb hr (zf (Ta z6 zZ hr (mv 0)) (zf (mv 3) zm))) (hN:=Tj.nd)) (zu (zT (zed (zXb hu) (zcb zub T.Tr zYd (zf (mv 3) zm)) (zmb zfb (tD zAe zee hr (zf (mv 5) (zf (tD zzd zxd hr (zf (mv 5) (zf (zvo T.TR z8f T.sv (zcb zub T.Tr zYd (zf (mv 3) zm))) zm))) zm))) zx))))))))))
abbrev zEp:Yi:=top 52
abbrev zZp:List yy:=["_law_script"]
def ss:tu zqz zZp (zB zEp):=by walk_at "s"
def z6w(T:Txt K mg){zyl:yd}{zpk:yi}(zzg:FnAt K mg "_law_pen" zRg zsd zyl zpk)(znh:tq P w K mg base CX0 1 zyl zpk zsd (spM K 1 zHg)){sE:yd}{zZf:yd}{zef:yi}(zGc:Sg K mg "Shelf" zbc zgb sE zZf zef)(zod:tq P w K mg base CX0 1 zZf zef zgb (spM K 2 z9b)){z7j:yd}{z6i:yi}(zEe:FnAt K mg "_law_rule" ztf zVc z7j z6i)(z0e:tq P w K mg base CX0 3 z7j z6i zVc (spM K 1 zne)){zoc:yd}{z1b:yi}(zR:FnAt K mg "_law_take" zyd zxb zoc z1b)(zP:tq P w K mg base CX0 2 zoc z1b zxb (spM K 2 zM)){tw:yd}{zz:yd}{zw:yi}(zt:MethAt K "Shelf" "all_there" "Shelf.all_there" zS zA tw zz zw)(zr:tq P w K mg base CX0 1 zz zw zA (spM K 1 zF)){zwl:yd}{zGk:yi}(zsg:FnAt K mg "_law_key" zqg zvd zwl zGk)(zch:tq P w K mg base CX0 3 zwl zGk zvd (spM K 2 zCg)){zYf:yd}{zjf:yi}(zIc:FnAt K mg "_law_in_places" zHc zyb zYf zjf)(zmd:tq P w K mg base CX0 8 zYf zjf zyb (spM K 1 zac)){z6g:yd}{zfg:yi}(zDd:FnAt K mg "_law_renewed" zBd zZb z6g zfg)(zte:tq P w K mg base CX0 8 z6g zfg zZb (spM K 2 zId)){TY:yd}{zpe:yd}{zNd:yi}(zMc:MethAt K "Shelf" "out" "Shelf.out" zld zOb TY zpe zNd)(zYc:tq P w K mg base (CXq P w) 2 zpe zNd zOb (spX K 2 zid)){zQd:yd}{zfd:yi}(zIb:FnAt K mg "_law_there_and_back" zJb z8 zQd zfd)(zgc:tq P w K mg base CX0 8 zQd zfd z8 (spM K 2 zKb)){zel:yd}{zJk:yi}(zBg:FnAt K mg "_law_put" zDg zqd zel zJk)(zah:tq P w K mg base CX0 8 zel zJk zqd (spM K 2 zVg)){f:yd}{fd:yi}(B:FnAt K mg "law" zEp zZp f fd):tq P w K mg base CX0 9 f fd zZp (spM K 1 zxr):=by
 refine fnM B.fn ss rfl (λcdv A outer s H E hr=>⟨zKu,?_,λ_ _ _ _ _ e=>e⟩);have hu:=hr.units;exact(zp (zV 1 (tD zzg znh hr (zf (mv 0) zm)) (hN:=ss.nd)) (zp (zV 2 (mmakeA zGc zod hr (zf (tD zEe z0e hr (zf (mv 1) zm)) zm)) (hN:=ss.nd)) (zp (zOe (zdm T.sv (zf (tD zR zP hr (zf (mv 1) (zf zx zm))) zm)) (zEb 3 (hN:=ss.nd)) (zp (zV 4 (tD zR zP hr (zf (mv 1) (zf zx zm))) (hN:=ss.nd)) (zp (zV 5 (Ta zt zr hr (mv 2)) (hN:=ss.nd)) (zp (zV 6 (tD zsg zch hr (zf (mv 1) (zf (mv 5) zm))) (hN:=ss.nd)) (zp (zpc (zeb (zXb hu) (mv 4) zx) (zu (zpc (z7i (zSe (tD zDd zte hr (zf (mv 2) (zf (tD zEe z0e hr (zf (mv 1) zm)) zm))))) (zu (zT z2j)) z9)) (zu (zpc (zeb zat (mv 6) (mv 5)) (zu (zdg (Sx zMc zYc hr (mv 2) (zf (mv 6) zm)))) (zu (zpc (zeb (zXb hu) (mv 4) zx) (zu (zpc (z7i (zSe (tD zIb zgc hr (zf (mv 2) (zf (mv 6) zm))))) (zu (zT z2j)) z9)) (zu (zpc (z7i (zSe (tD zBg zah hr (zf (mv 2) (zf (mv 6) zm))))) (zu (zT z2j)) z9))))))) (zu (zpc (z7i (zSe (tD zIc zmd hr (zf (mv 2) zm)))) (zu (zT z2j)) z9))))))) (zu (zT z2j)))))
end
end P
namespace P
open PySem PySem.Spec PyProof.Rows L2 M
set_option maxHeartbeats 4000000
variable {R:List Nat}{K:List (List Nat)}{μ:Mem}{Q:D->Mem->Prop}{l i L B k m n h nest:Nat}{xs ds:List D}{μ':Mem}{δ:M.Loc}{φ:FA}{S T C ks A X:List Nat}{row kvs ts ts':List (Nat×Nat)}{nx:M.Loc->Mem->Prop}{rt:D->Mem->Prop}{r:D}{lay0:List (Option Nat)}
def z4w{o o':tE}(h:μ[l]?=some o):(μ.set l o')[l]?=some o':=by
 rw[yI (List.getElem?_eq_some_iff.mp h).1]
def zJm:M.cutD xs none (some (i:Int))=xs.take i:=by
 unfold M.cutD;rw[HT.Sk,HT.SD,List.drop_zero,Nat.sub_zero];rcases Nat.le_total i xs.length with h|h
 ·rw[Nat.min_eq_left h]
 ·rw[Nat.min_eq_right h,take_length,Xh h]
def zXq:M.cutD xs (some (i:Int)) none=xs.drop i:=by
 unfold M.cutD;rw[HT.Sk,HT.SD];rcases Nat.le_total i xs.length with h|h
 ·rw[Nat.min_eq_left h,Xh (by simp)]
 ·rw[Nat.min_eq_right h,Nat.sub_self,List.take_zero,List.drop_eq_nil_of_le h]
local macro_rules | `(tactic| walk_at "w") => `(tactic| first
  | refine zJ ?_ | refine zob ?_ | refine zKm ?_ | refine zLb ?_ | refine zUi ?_ | refine zoh ?_ | refine zBb ?_ | refine z7h ?_
  | refine zh rfl ?_ | refine w_c ?_ | refine zy ?_ | refine zD ?_ | refine zj ?_ | refine zC ?_ | refine zfh ?_ | refine zHh ?_ | refine zUz ?_ | refine znr ?_ | refine zAl ?_ | refine zbu ?_ | refine z9z ?_ | refine w_not ?_ | refine z0A ?_ | refine zJl ?_ | refine zCr ?_ | refine zom ?_ | refine zRA ?_
  | refine zX ?_ | refine zgt ?_ | refine z3o ?_ | refine zni ?_ | refine zAx ?_ | refine zym ?_ | refine zTg ?_ | refine zWr ?_ | refine zQA ?_ | refine zih ?_ | refine zep ?_
  | refine zmg ?_ | refine zex ?_ | refine z2k (by first | decide | omega) ?_ | refine z5u (by first | decide | omega) (by first | decide | omega) ?_ | refine zrm ?_ | refine zKh ?_ | refine zPA ?_ | refine z1A ?_ | refine zMv ?_ | refine zoz (by decide) (by decide) (by decide) ?_ | refine z2y ?_ | refine zDy ?_ | refine zdz ?_ | refine zEz ?_
  | refine zWg rfl ?_ | refine zdu rfl ?_ | refine zJj rfl ?_ | with_reducible refine ⟨_,rfl,?_⟩)
local macro_rules | `(tactic| walk_at "om") => `(tactic| first | omega | (simp only [length_map, length_range, Int.toNat_natCast, length_append, length_cons, List.length_nil] at *; omega) | (simp <;> omega))
structure WebA(L:Int)(rooms:List Int)(ks:List (List Int)):Prop where
 rl:1<=rooms.length/\rooms.length<=10
 rn:∀r∈rooms,0<=r
 kl:ks.length<=L
 kn:∀k∈ks,(2<=k.length/\k.length<=3)/\∀i∈k,0<=i/\i<rooms.length
def zmw{i:Int}(h0:0<=i)(h1:i<ds.length):∃d,d∈ds/\ds[i.toNat]?=some d/\atI ds i=some d:=by
 have hi:i.toNat<ds.length:=by omega
 refine⟨ds[i.toNat],getElem_mem hi,by simp[hi],?_⟩;have:=zmc (xs:=ds) (j:=i.toNat) (v:=ds[i.toNat]) (by simp[hi]);rw[Int.toNat_of_nonneg h0]at this;exact this
def Te(ns:List Int)(μ:Mem)(l B:Nat):Prop:=∃(b:Bool)(k:Nat)(r:Int),k<=B/\μ[l]?=some (.lst [.fz (ns.map .int),.bl b,.int (k:Nat),.int r])
section
variable {ns:List Int}
def Te.kb{μ:Mem}{L:List Nat}(h:Te ns μ l B)(k:KB L μ μ')(hl:l∉L):Te ns μ' l B:=by
 obtain⟨b,j,r,hj,e⟩:=h;exact⟨b,j,r,hj,k.at_ _ _ hl e⟩
def Te.app{μ g:Mem}(h:Te ns μ l B):Te ns (μ++g) l B:=h.kb (L:=[]) (KB.refl.app) (by simp)
def Te.keep{μ:Mem}(h:Te ns μ l B)(k:tm μ μ'):Te ns μ' l B:=h.kb (L:=[]) (KB.of_keep k) (by simp)
def Te.lt(h:Te ns μ l B):l<μ.length:=by
 obtain⟨b,j,r,hj,e⟩:=h;exact zQ e
def Te.up{B':Nat}(h:Te ns μ l B)(hb:B<=B'):Te ns μ l B':=by
 obtain⟨b,j,r,hj,e⟩:=h;exact⟨b,j,r,by omega,e⟩
def zRx(q:∀μ',tm μ μ'->Te ns μ' μ.length 0->μ'.length=μ.length+1->Q (.loc μ.length) μ'):WF zHg [.fz (ns.map .int)] μ Q:=by
 refine z7b rfl ?_;show WS zGg [some (.fz (ns.map .int))] μ _ _ _ _;unfold zGg;refine zLb (zHh (zj (zh rfl (zj (z9z (zy (zD (zj (zh rfl (zC (zWg rfl (w_c (zKh ⟨_,rfl,λh=>?_,λh=>?_⟩)))))))))))))
 ·have h0:ns≠[]:=by
   rintro rfl;simp at h
  obtain⟨n,ns',rfl⟩:=List.exists_cons_of_ne_nil h0;refine zy (zy (zy (zh rfl (w_c (zwc rfl (zmc (j:=0) (v:=D.int n) rfl) (w_c (z2k (by omega) (w_c (zKh ?_)))))))));exact zj (w_c (zj (w_c (zC (q _ .app ⟨_,0,0,yk _,zE⟩ (by simp))))))
 ·exact zj (w_c (zj (w_c (zC (q _ .app ⟨_,0,0,yk _,zE⟩ (by simp))))))
def zft(hk:k<=1000000)(q:∀v:Int,Q (.int v) μ):WF zMe [.fz (ns.map .int),.int (k:Nat)] μ Q:=by
 refine z7b rfl ?_;show WS zXe [some (.fz (ns.map .int)),some (.int (k:Nat)),none,none,none] μ _ _ _ _;unfold zXe
 have mk:∀{i:Int},zlh i (k:Nat)=true:=λ{i}=>by
  unfold zlh;rw[decide_eq_true (show -(2^64)<((k:Nat):Int)/\((k:Nat):Int)<2^64 by omega)];simp
 have rest:∀c:Int,WS (zdb (zyc 3 (zK zCn (zK z9e (zK zqj (zK z9e (zK z9e (zq 2) (zK zqj (fC (.int 40503)) (zq 1))) (fC (.int 1))) (fC (.int 48271))) (zK zqj (zq 1) (zq 1))) (fC (.int 2147483647)))) (zdb (zyc 4 (zK zCn (zK z9e (zK z9e (zK zqj (zq 3) (zq 3)) (zK zqj (fC (.int 69621)) (zq 3))) (zK zqj (fC (.int 31)) (zq 1))) (fC (.int 2147483629)))) (zuc (zK zCn (zK z9e (zK z9e (zK zqj (zq 4) (zq 4)) (zK zqj (fC (.int 16807)) (zq 4))) (zq 1)) (fC (.int 1073741789)))))) [some (.fz (ns.map .int)),some (.int (k:Nat)),some (.int c),none,none] μ (λ_ μ'=>Q .non μ') Q (λ_ _=>False) (λ_ _=>False):=λc=>by
  refine zJ (zob (zy (zy (zy (zy (zy (zh rfl (zy (w_c (zh rfl (zfn mk (zmg (w_c (zmg (w_c (zfn (by unfold zlh;simp) (zy (zh rfl (zh rfl (zfn mk (zmg (w_c (z2k (by omega) ?_)))))))))))))))))))))));have h1:∀x:Int,0<=x%2147483647/\x%2147483647<2147483647:=λx=>⟨Int.emod_nonneg _ (by omega),Xi _ (by omega)⟩
  obtain⟨a1,b1⟩:=h1 ((c+40503*(k:Nat)+1)*48271+(k:Nat)*(k:Nat));generalize ((c+40503*((k:Nat):Int)+1)*48271+((k:Nat):Int)*((k:Nat):Int))%2147483647=x at a1 b1
  have mx:∀{i:Int},zlh i x=true:=λ{i}=>by
   unfold zlh;rw[decide_eq_true (show -(2^64)<x/\x<2^64 by omega)];simp
  refine zJ (zob (zy (zy (zy (zy (zh rfl (zh rfl (zfn mx (zy (w_c (zh rfl (zfn mx (zmg (zy (w_c (zh rfl (zfn mk (zmg (w_c (z2k (by omega) ?_))))))))))))))))))));have h2:∀y:Int,0<=y%2147483629/\y%2147483629<2147483629:=λy=>⟨Int.emod_nonneg _ (by omega),Xi _ (by omega)⟩
  obtain⟨a2,b2⟩:=h2 (x*x+69621*x+31*(k:Nat));generalize (x*x+69621*x+31*((k:Nat):Int))%2147483629=y at a2 b2
  have my:∀{i:Int},zlh i y=true:=λ{i}=>by
   unfold zlh;rw[decide_eq_true (show -(2^64)<y/\y<2^64 by omega)];simp
  exact zLb (zy (zy (zy (zy (zh rfl (zh rfl (zfn my (zy (w_c (zh rfl (zfn my (zmg (zh rfl (zmg (w_c (z2k (by omega) (q _)))))))))))))))))
 refine zJ (zob (w_c ?_));refine zJ (zoh (zX (zy (zD (zj (zh rfl (zC (zWg rfl (w_c (zrm ⟨_,rfl,λh2=>?_,λh2=>zBb (rest _)⟩))))))))));have h2:=of_decide_eq_true h2;obtain⟨d,hm,_,ha⟩:=zmw (ds:=ns.map .int) (i:=(k:Nat)%((ns.map D.int).length:Int)) (Int.emod_nonneg _ (by omega)) (Xi _ h2);obtain⟨v,_,rfl⟩:=List.mem_map.mp hm;exact zob (zy (zh rfl (zy (zh rfl (zD (zj (zh rfl (zC (zWg rfl (z2k h2 (zwc rfl ha (rest _))))))))))))
def z5z{gs:FGs}{P:M.Loc->Mem->Prop}{a b c d:D}(e:μ[l]?=some (.lst [a,b,c,d]))(h:WGs gs [a,b,c,d] δ μ P):WG (gTL 4 gs) (.loc l) δ μ P:=by
 obtain⟨δ1,μ1,e1,q⟩:=h;refine⟨δ1,μ1,?_,q⟩;unfold gTL;dsimp only;rw[e];exact e1
def zyj{s:Int}(h:Te ns μ l B)(hB:B<=1000000)(h0:0<s)(h1:s<1606938044258990275541962092341162602522202993782792835301376)
 (q:∀v μ',0<=v->v<s->KB [l] μ μ'->μ'.length=μ.length->Te ns μ' l (B+1)->Q (.int v) μ'):WF zM [.loc l,.int s] μ Q:=by
 obtain⟨b,k,r,hk,e⟩:=h;have hlt:=zQ e;refine z7b rfl ?_;show WS zJf [some (.loc l),some (.int s),none,none,none,none] μ _ _ _ _;unfold zJf;refine zJ (zKm (zh rfl (z5z e (zih (zTg (zih (zTg (zih (zTg (zih (zTg (zep ?_))))))))))));refine zJ (zKm (zy (zh rfl (w_c (zmg ?_)))));refine zEx (zh rfl (w_c ⟨_,_,_,rfl,rfl,e,⟨by omega,by simp⟩,?_⟩));show WS _ _ (μ.set l (.lst [.fz (ns.map .int),.bl b,.int (((k:Nat):Int)+1),.int r])) _ _ _ _;have e2:(μ.set l (tE.lst [.fz (ns.map .int),.bl b,.int (((k:Nat):Int)+1),.int r]))[l]?=some (.lst [.fz (ns.map .int),.bl b,.int ((k+1:Nat):Int),.int r]):=zsb e;have k2:KB [l] μ (μ.set l (tE.lst [.fz (ns.map .int),.bl b,.int (((k:Nat):Int)+1),.int r])):=KB.refl.set (.inl (by simp));have l2:(μ.set l (tE.lst [.fz (ns.map .int),.bl b,.int (((k:Nat):Int)+1),.int r])).length=μ.length:=by simp
 generalize μ.set l (tE.lst [.fz (ns.map .int),.bl b,.int (((k:Nat):Int)+1),.int r])=μ2 at e2 k2 l2;refine zJ (zoh (zX (zh rfl ⟨_,rfl,λhb=>?_,λhb=>zBb ?_⟩)))
 ·refine zLb (zy (zD (zj (zh rfl (zj (zh rfl (zC ?_))))))) ;refine zft (by omega) λv=>zh rfl (z2k h0 ?_);exact q _ _ (Int.emod_nonneg _ (by omega)) (Xi _ h0) k2 l2 ⟨b,k+1,r,by omega,e2⟩
 ·have last:∀r':Int,WS (zdb (zks (zK zZw (zq 5) (zq 1)) (gAt (zq 0) (fC (.int 3)))) (zuc (zK zCn (zq 5) (zq 1)))) [some (.loc l),some (.int s),some (.fz (ns.map .int)),some (.bl b),some (.int (k:Nat)),some (.int r')] μ2 (λ_ μ'=>Q .non μ') Q (λ_ _=>False) (λ_ _=>False):=λr'=>by
   refine zJ (zKm (zy (zh rfl (zh rfl (z5u h0 h1 ?_)))));refine zEx (zh rfl (w_c ⟨_,_,_,rfl,rfl,e2,⟨by omega,by simp⟩,?_⟩));show WS _ _ (μ2.set l (.lst [.fz (ns.map .int),.bl b,.int ((k+1:Nat):Int),.int (r' / s)])) _ _ _ _;refine zLb (zy (zh rfl (zh rfl (z2k h0 ?_))));exact q _ _ (Int.emod_nonneg _ (by omega)) (Xi _ h0) (k2.trans (KB.refl.set (.inl (by simp)))) (by simp[l2]) ⟨b,k+1,r' / s,by omega,zsb e2⟩
  refine zJ (zoh (zX (zy (zy (zh rfl (w_c (z2k (by omega) (w_c (zKh ⟨_,rfl,λhz=>?_,λhz=>zBb (last r)⟩)))))))));refine zJ (zob (w_c ?_));refine zoh (zX (zy (zy (zy (zh rfl (w_c (z5u (by omega) (by omega) (w_c (zmg (zD (zj (zh rfl (zC (zWg rfl (zrm ⟨_,rfl,λh2=>?_,λh2=>zBb (last 0)⟩)))))))))))))));have h2:=of_decide_eq_true h2;obtain⟨d,hm,_,ha⟩:=zmw (ds:=ns.map .int) (i:=((k:Nat):Int) / 60+1) (by omega) h2;obtain⟨v,_,rfl⟩:=List.mem_map.mp hm;exact zob (zy (zh rfl (zy (zy (zh rfl (w_c (z5u (by omega) (by omega) (w_c (zmg (zwc rfl ha (last v)))))))))))
def zvv{s:Nat}{φ:FE}(hp:Te ns μ l B)
 (he:∀(k:Nat)(μ':Mem)(Q':D->Mem->Prop),k<m->Te ns μ' l (B+k)->KB [l] μ μ'->(∀v μ'',0<=v->v<(s:Int)->KB [l] μ' μ''->Te ns μ'' l (B+k+1)->Q' (.int v) μ'')->WE φ (δ.set 0 (some (.int k))) μ' Q')
 (q:∀(S:List Nat)(μ':Mem),S.length=m->(∀h∈S,h<s)->KB [l] μ μ'->Te ns μ' l (B+m)->Q (.loc μ'.length) (μ'++[.lst (nat S)])) :
 WL (gN 0) zqk φ yes δ ((yv m).map λ(k:Nat) =>.int k) [] μ Q:=by
 refine zhp (λi ys μ'=>∃S:List Nat,ys=nat S/\S.length=i/\(∀h∈S,h<s)/\KB [l] μ μ'/\Te ns μ' l (B+i)) ⟨[],rfl,rfl,by simp,.refl,hp⟩ (λ_ _ _ _=>rfl) ?_ ?_
 ·rintro i x ys μ' hx ⟨S,rfl,hl,hS,k,p⟩;obtain⟨hi,rfl⟩:=zbm hx;refine zTg (zAx ⟨λ_=>?_,λhf=>(by cases hf)⟩);refine he i μ' _ hi p k λv μ'' a b k' p'=>?_;obtain⟨v,rfl⟩:=xy a;refine⟨S++[v],by rw[zSg];rfl,by simp[hl],λh hh=>?_,k.trans k',p'⟩;rcases List.mem_append.mp hh with hh|hh
  ·exact hS h hh
  ·rw[List.mem_singleton.mp hh];omega
 ·rintro ys μ' ⟨S,rfl,hl,hS,k,p⟩;simp only[length_map,length_range]at hl p;exact q S μ' hl hS k p
end
def zKc{ns:List Int}{s:Nat}(h:Te ns μ l B)(hB:B<=1000000)(h0:0<s)(h1:s<=1000)(q:∀(v:Nat)(μ':Mem),v<s->KB [l] μ μ'->Te ns μ' l (B+1)->Q (.int (v:Nat)) μ'):WF zM [.loc l,.int (s:Nat)] μ Q :=
 zyj h hB (by omega) (by omega) λv μ' a b k _ p=>by
  obtain⟨v,rfl⟩:=xy a;exact q v μ' (by omega) k p
def Sz{a:Nat}(h:l≠a):a∉[l]:=λhm=>h (List.mem_singleton.mp hm).symm
abbrev tn(ns:List Nat):D:=.tup (nat ns)
abbrev wn(R:List Nat)(K:List (List Nat)):D:=.tup [tn R,.tup (K.map tn)]
structure Wb(L:Nat)(R:List Nat)(K:List (List Nat)):Prop where
 rl:1<=R.length/\R.length<=10
 kl:K.length<=L
 kn:∀k∈K,(2<=k.length/\k.length<=3)/\∀h∈k,h<R.length
def Wb.key(w:Wb L R K){k:Nat}(h:k<K.length):(2<=(K.getD k []).length/\(K.getD k []).length<=3)/\∀x∈K.getD k [],x<R.length:=by
 have:K.getD k []=K[k]:=by simp[h]
 rw[this];exact w.kn _ (getElem_mem h)
def zwm(q:Q (tn R) μ):W2 gIx (wn R K) (.int 0) μ Q:=zwc rfl (show atI [tn R,.tup (K.map tn)] 0=some (tn R) from rfl) q
def z2g(q:Q (.tup (K.map tn)) μ):W2 gIx (wn R K) (.int 1) μ Q:=zwc rfl (show atI [tn R,.tup (K.map tn)] 1=some (.tup (K.map tn)) from rfl) q
def zIt(h:k<K.length)(q:Q (tn (K.getD k [])) μ):W2 gIx (.tup (K.map tn)) (.int k) μ Q :=
 zwc rfl (zmc (v:=tn (K.getD k [])) (by simp[h])) q
def zIy(h:k<R.length)(q:Q (.int (R.getD k 0:Nat)) μ):W2 gIx (tn R) (.int k) μ Q:=zwc rfl (zFh h) q
structure tQ(R:List Nat)(K:List (List Nat))(lay:List (Option Nat)):Prop where
 len:lay.length=K.length
 home:∀k h,lay[k]?=some (some h)->h∈K.getD k []
 room:∀h,lay.count (some h)<=R.getD h 0
def zZk(K:List (List Nat))(S:List Nat):List Nat:=S.flatMap λk=>K.getD k []
def zcd(n:Nat)(K:List (List Nat))(S:List Nat):List Nat:=(yv n).filter λh=>decide (∃k∈S,h∈K.getD k [])
def zLn(R:List Nat)(N:List Nat):Nat:=(N.map λh=>R.getD h 0).sum
def zcf(w:Wb L R K)(h:Nat):h∈zcd R.length K S↔∃k∈S,h∈K.getD k []:=by
 unfold zcd;rw[mem_filter,mem_range,decide_eq_true_iff];constructor
 ·exact λq=>q.2
 ·rintro⟨k,hk,hh⟩;refine⟨?_,k,hk,hh⟩;rw[getD_eq_getElem?_getD]at hh
  cases e:K[k]? with
  |none=>rw[e]at hh;simp at hh
  |some x=>rw[e]at hh;exact(w.kn x (mem_of_getElem? e)).2 h hh
def zWp :∀h∈zcd n K S,h<n:=λh hh=>by
 have:=(List.mem_filter.mp hh).1;simpa using this
def zcv(n:Nat)(K:List (List Nat))(S:List Nat):(zcd n K S).Pairwise (· < ·):=List.pairwise_lt_range.filter _
def zPj(n:Nat)(K:List (List Nat))(S:List Nat):(zcd n K S).length<=n:=by
 unfold zcd;refine yG (List.length_filter_le _ _) ?_;simp
def zUj{L:Nat}{R:List Nat}{K:List (List Nat)}(w:Wb L R K):∀S:List Nat,(zZk K S).length<=3*S.length
 |[]=>by simp[zZk]
 |k::S=>by
  have ih:=zUj w S
  have h1:(K.getD k []).length<=3:=by
   rw[getD_eq_getElem?_getD]
   cases e:K[k]? with
   |none=>simp
   |some x=>exact(w.kn x (mem_of_getElem? e)).1.2
  unfold zZk at ih ⊢;rw[List.flatMap_cons,length_append,length_cons];omega
def zNe(R:List Nat)(K:List (List Nat))(S:List Nat):Bool:=decide (zLn R (zcd R.length K S)<S.length)
def zol(w:Wb L R K)(hn:μ[n]?=some (.lst (nat S)))(hS:∀k∈S,k<K.length)(hl:S.length<=1000)
 (q:∀(l:Nat)(μ':Mem),tm μ μ'->μ.length<=l->μ'[l]?=some (.lst (nat (zcd R.length K S)))->Q (.loc l) μ'):WF zke [wn R K,.loc n] μ Q:=by
 refine z7b rfl ?_;show WS zMg [some (wn R K),some (.loc n),none,none] μ _ _ _ _;unfold zMg
 repeat walk_at "w"
 have hnl:=zQ hn;refine z4f (zh rfl (.inr (.inr ⟨n,_,rfl,zlb hn,?_⟩)));refine z7c (λm δ μ'=>∃a:Option D,δ=[some (wn R K),some (.loc n),some (.loc μ.length),a]/\tm μ μ'/\μ'[μ.length]?=some (.lst (nat (zZk K (S.take m))))) ⟨none,rfl,.app,by simp[zZk]⟩ (λm δ μ' ⟨a,_,k,_⟩=>znb hn k) ?_ ?_
 ·rintro m x δ μ1 hx ⟨a,rfl,k,hg⟩;rw[yh]at hx
  cases hy:S[m]? with
  |none=>rw[hy]at hx;cases hx
  |some kk=>
   rw[hy]at hx;cases hx;have hkk:=hS kk (mem_of_getElem? hy)
   walk_at "w"
   unfold zVi
   repeat walk_at "w"
   refine⟨μ.length,_,rfl,hg,?_⟩
   repeat walk_at "w"
   refine z2g ?_
   repeat walk_at "w"
   refine zIt hkk ?_
   repeat walk_at "w"
   have hfl:=zUj w (S.take m);have hks:=(w.key hkk).1;have htl:(S.take m).length<=1000:=yG (by simp;omega) hl;refine zZy hg (by simp only[length_map];omega) ?_;refine⟨_,rfl,λi o e=>z7 (k i o e) (yT (zQ e)),?_⟩;rw[zsb hg];have ht:S.take (m+1)=S.take m++[kk]:=by rw[take_succ,hy];rfl
   have e2:zZk K (S.take (m+1))=zZk K (S.take m)++K.getD kk []:=by
    unfold zZk;rw[ht,List.flatMap_append];simp
   rw[e2,zSg]
 ·rintro δ μ1 ⟨a,rfl,k,hg⟩;rw[length_map,take_length]at hg
  have hmem:∀i:Int,i∈(zcd R.length K S).map (λ(k:Nat)=>(k:Int))↔i∈(zZk K S).map (λ(k:Nat)=>(k:Int)):=λi=>by
   simp only[mem_map];constructor
   ·rintro⟨h,hh,rfl⟩;obtain⟨k,hk,hh⟩:=(zcf w h).mp hh;exact⟨h,List.mem_flatMap.mpr ⟨k,hk,hh⟩,rfl⟩
   ·rintro⟨h,hh,rfl⟩;obtain⟨k,hk,hh⟩:=List.mem_flatMap.mp hh;exact⟨h,(zcf w h).mpr ⟨k,hk,hh⟩,rfl⟩
  have hpw:((zcd R.length K S).map (λ(k:Nat)=>(k:Int))).Pairwise (· < ·):=by
   rw[pairwise_map];exact(zcv R.length K S).imp λh=>by omega
  have hp:=znn hmem hpw;have hsort:=zWm hmem hpw;have hfl:=zUj w S;have hrl:=w.rl;have hnl2:=zPj R.length K S;refine zLb (z3v (zh rfl ⟨_,(zZk K S).map (λ(k:Nat)=>(k:Int)),rfl,by rw[hg,map_map];rfl,by rw[length_map];omega,by rw[hp.length_eq,length_map];omega,?_⟩));rw[hsort,map_map];exact q _ _ k.to k.len zE
def zto(hn:μ[n]?=some (.lst (nat S)))(hS:∀k∈S,k<R.length)(hl:S.length<=1000)
 (q:∀(μ':Mem),tm μ μ'->Q (.int (zLn R S:Nat)) μ'):WF zff [wn R K,.loc n] μ Q:=by
 refine z7b rfl ?_;show WS zji [some (wn R K),some (.loc n)] μ _ _ _ _;unfold zji
 repeat walk_at "w"
 refine z4f (zh rfl (.inr (.inr ⟨n,_,rfl,hn,zgd (by simp;omega),?_⟩)));refine z0f (λ(k:Nat)=>D.int k) S (λk =>.int (R.getD k 0:Nat)) (λμ' k=>znb hn k) (λk hk μ' kp=>?_) (λμ' kp=>?_)
 ·have hkk:=hS k hk
  walk_at "w"
  unfold zVk
  repeat walk_at "w"
  refine zwm ?_
  repeat walk_at "w"
  exact zIy hkk ⟨rfl,kp,kp⟩
 ·repeat walk_at "w"
  refine zsz (S:=S.map λk=>R.getD k 0) (by rw[zE,zGi]) ?_;exact q _ kp.to
def zpr(w:Wb L R K)(hn:μ[n]?=some (.lst (nat S)))(hS:∀k∈S,k<K.length)(hl:S.length<=1000)
 (q:∀μ',tm μ μ'->Q (.bl (zNe R K S)) μ'):WF zxg [wn R K,.loc n] μ Q:=by
 refine z7b rfl ?_;show WS zng [some (wn R K),some (.loc n)] μ _ _ _ _;unfold zng
 repeat walk_at "w"
 refine zol w hn hS hl λl μ1 k1 hl1 g1=>?_
 repeat walk_at "w"
 have hnl:=zPj R.length K S;have hrl:=w.rl;refine zto g1 zWp (by omega) λμ2 k2=>?_
 repeat walk_at "w"
 refine zWg (zL (k2 _ _ (k1 _ _ hn))) ?_
 repeat walk_at "w"
 have:=q μ2 (k1.trans k2);unfold zNe at this;simp only[length_map,Int.ofNat_lt];exact this
def zap(lay:List (Option Nat))(a:Option Nat):lay.count a=((yv lay.length).filter λk=>decide (lay.getD k none=a)).length:=by
 have e:lay=(yv lay.length).map λk=>lay.getD k none:=by
  refine ext_getElem? λi=>?_
  by_cases h:i<lay.length
  ·simp[h]
  ·simp[h]
 conv=>lhs;rw[e]
 rw[List.count,List.countP_map,List.countP_eq_length_filter]
 congr 1
 refine filter_congr λk _=>?_;simp only[Function.comp];exact Bool.beq_eq_decide_eq _ _
def lyN(lay:List (Option Nat))(N:List Nat):List Nat:=(yv lay.length).filter λk=>decide (∃h∈N,lay.getD k none=some h)
def sL{lay:List (Option Nat)}{N:List Nat}:k∈lyN lay N↔∃h∈N,lay.getD k none=some h:=by
 unfold lyN;rw[mem_filter,mem_range,decide_eq_true_iff];constructor
 ·exact λq=>q.2
 ·rintro⟨h,hh,e⟩;refine⟨?_,h,hh,e⟩;refine Nat.lt_of_not_le λhle=>?_;rw[getD_eq_getElem?_getD,xl hle]at e;cases e
def zYy(lay:List (Option Nat))(N:List Nat):(lyN lay N).Nodup:=List.nodup_range.sublist filter_sublist
def zoi{α:Type}(p q:α->Bool)(h:∀x,p x=true->q x=false):∀l:List α,(l.filter λx=>p x||q x).length=(l.filter p).length+(l.filter q).length
 |[]=>rfl
 |x::l=>by
  have ih:=zoi p q h l
  cases hp:p x with
  |true=>simp[filter_cons,hp,h x hp,ih];omega
  |false=>
   cases hq:q x with
   |true=>simp[filter_cons,hp,hq,ih];omega
   |false=>simp[filter_cons,hp,hq,ih]
def zZm{lay:List (Option Nat)}:∀{N:List Nat},N.Nodup->(lyN lay N).length=(N.map λh=>lay.count (some h)).sum
 |[],_=>by simp[lyN]
 |h::N,nd=>by
  obtain⟨h1,h2⟩:=List.nodup_cons.mp nd;rw[map_cons,sum_cons,<-zZm h2,zap]
  have:=zoi (λk=>decide (lay.getD k none=some h)) (λk=>decide (∃g∈N,lay.getD k none=some g)) (λk hk=>by
   have hk:=of_decide_eq_true hk;refine decide_eq_false ?_;rintro⟨g,hg,e⟩;rw[hk]at e;cases e;exact h1 hg) (yv lay.length)
  rw[show lyN lay N=(yv lay.length).filter λk=>decide (∃g∈N,lay.getD k none=some g) from rfl,<-this];unfold lyN
  congr 1
  refine filter_congr λk _=>?_;rw[<-Bool.decide_or];refine decide_eq_decide.mpr ?_;simp only[mem_cons];constructor
  ·rintro⟨g,rfl|hg,e⟩
   ·exact .inl e
   ·exact .inr ⟨g,hg,e⟩
  ·rintro(e|⟨g,hg,e⟩)
   ·exact⟨h,.inl rfl,e⟩
   ·exact⟨g,.inr hg,e⟩
def z6p{α:Type}{f g:α->Nat}:∀{l:List α},(∀x∈l,f x<=g x)->(l.map f).sum<=(l.map g).sum
 |[],_=>yk _
 |x::l,h=>by
  rw[map_cons,map_cons,sum_cons,sum_cons];have h1:=h x mem_cons_self;have h2:=z6p (l:=l) λy hy=>h y (mem_cons_of_mem _ hy);omega
def zwd{α:Type}[DecidableEq α]:∀{l m:List α},l.Nodup->(∀x∈l,x∈m)->l.length<=m.length
 |[],_,_,_=>YB _
 |x::l,m,nd,h=>by
  obtain⟨h1,h2⟩:=List.nodup_cons.mp nd;have hx:=h x mem_cons_self;have ih:=zwd (l:=l) (m:=m.erase x) h2 λy hy=>(List.mem_erase_of_ne (by rintro rfl;exact h1 hy)).mpr (h y (mem_cons_of_mem _ hy));rw[List.length_erase_of_mem hx]at ih;have:=List.length_pos_of_mem hx;rw[length_cons];omega
def zTs{lay:List (Option Nat)}(w:Wb L R K)(r:tQ R K lay)(hd:T.Nodup)(hT:∀k∈T,k<K.length)(hall:∀k∈T,(lay.getD k none).isSome=true):zNe R K T=false:=by
 refine decide_eq_false ?_;have hN:(zcd R.length K T).Nodup:=List.nodup_range.sublist filter_sublist
 have h1:T.length<=(lyN lay (zcd R.length K T)).length:=zwd hd λk hk=>by
  rw[sL];have hs:=hall k hk
  cases e:lay.getD k none with
  |none=>rw[e]at hs;cases hs
  |some h=>
   refine⟨h,?_,rfl⟩;rw[zcf w];refine⟨k,hk,r.home k h ?_⟩;have hkl:k<lay.length:=by rw[r.len];exact hT k hk
   simp[hkl]at e;simp[hkl,e]
 rw[zZm hN]at h1;have h2:((zcd R.length K T).map λh=>lay.count (some h)).sum<=zLn R (zcd R.length K T):=z6p λh _=>r.room h;omega
structure TD(R:List Nat)(K:List (List Nat))(lay:List (Option Nat))(C:List Nat):Prop where
 keys:∀k∈C,k<K.length
 full:∀k∈C,∀h∈K.getD k [],R.getD h 0<=lay.count (some h)
 lies:∀k∈C,∀h∈K.getD k [],∀o,lay.getD o none=some h->o∈C
def TD.nil{lay:List (Option Nat)}:TD R K lay []:=⟨by simp,by simp,by simp⟩
def TD.app{lay:List (Option Nat)}{E:List Nat}(a:TD R K lay C)(b:TD R K lay E):TD R K lay (C++E):=by
 refine⟨λk hk=>?_,λk hk=>?_,λk hk h hh o e=>?_⟩
 ·rcases List.mem_append.mp hk with hk|hk
  ·exact a.keys k hk
  ·exact b.keys k hk
 ·rcases List.mem_append.mp hk with hk|hk
  ·exact a.full k hk
  ·exact b.full k hk
 ·rcases List.mem_append.mp hk with hk|hk
  ·exact mem_append_left _ (a.lies k hk h hh o e)
  ·exact mem_append_right _ (b.lies k hk h hh o e)
def TD.congr{lay:List (Option Nat)}{E:List Nat}(a:TD R K lay C)(h:∀k,k∈E↔k∈C):TD R K lay E :=
 ⟨λk hk=>a.keys k ((h k).mp hk),λk hk=>a.full k ((h k).mp hk),λk hk g hg o e=>(h o).mpr (a.lies k ((h k).mp hk) g hg o e)⟩
def zIg{lay:List (Option Nat)}(w:Wb L R K)(s:TD R K lay C)(hl:lay.length=K.length){k0:Nat}(hk0:k0∈C)(hn:lay.getD k0 none=none):zNe R K C=true:=by
 refine decide_eq_true ?_;have hN:(zcd R.length K C).Nodup:=List.nodup_range.sublist filter_sublist
 have h1:zLn R (zcd R.length K C)<=((zcd R.length K C).map λh=>lay.count (some h)).sum:=z6p λh hh=>by
  obtain⟨k,hk,hm⟩:=(zcf w h).mp hh;exact s.full k hk h hm
 rw[<-zZm hN]at h1
 have h2:(k0::lyN lay (zcd R.length K C)).length<=C.length:=zwd (List.nodup_cons.mpr ⟨λhm=>(by
  obtain⟨h,_,e⟩:=sL.mp hm;rw[hn]at e;cases e),zYy _ _⟩) λx hx=>by
  rcases List.mem_cons.mp hx with rfl|hx
  ·exact hk0
  ·obtain⟨h,hh,e⟩:=sL.mp hx;obtain⟨k,hk,hm⟩:=(zcf w h).mp hh;exact s.lies k hk h hm x e
 rw[length_cons]at h2;omega
structure To(K:List (List Nat))(lay:List (Option Nat))(key:Nat)(row:List (Nat×Nat)):Prop where
 first:∃h r,row=(key,h)::r
 mem:∀p∈row,p.1<K.length/\p.2∈K.getD p.1 []/\lay.getD p.1 none≠some p.2
 link:∀i p q,row[i]?=some p->row[i+1]?=some q->lay.getD q.1 none=some p.2
 nd:(row.map (·.1)).Nodup
def zye(lay:List (Option Nat))(row:List (Nat×Nat)):List (Option Nat):=row.foldl (λl p=>l.set p.1 (some p.2)) lay
def zNh(row:List (Nat×Nat)):∀lay:List (Option Nat),(zye lay row).length=lay.length:=by
 induction row with
 |nil=>intro lay;rfl
 |cons p row ih=>intro lay;show(zye (lay.set p.1 (some p.2)) row).length=_;rw[ih];simp
def zBl(lay:List (Option Nat))(row:List (Nat×Nat))(p:Nat×Nat):zye lay (row++[p])=(zye lay row).set p.1 (some p.2):=by
 unfold zye;rw[List.foldl_append];rfl
def zCe :∀{lay:List (Option Nat)} {k:Nat},k∉row.map (·.1)->(zye lay row).getD k none=lay.getD k none:=by
 induction row with
 |nil=>intro lay k _;rfl
 |cons p row ih=>
  intro lay k hk;rw[map_cons,mem_cons,not_or]at hk;show(zye (lay.set p.1 (some p.2)) row).getD k none=_;rw[ih hk.2];simp only[getD_eq_getElem?_getD];rw[yK (yH hk.1)]
def zzj(nd:(row.map (·.1)).Nodup):∀{lay:List (Option Nat)} {p:Nat×Nat},p∈row->p.1<lay.length->(zye lay row).getD p.1 none=some p.2:=by
 induction row with
 |nil=>intro lay p hp;cases hp
 |cons q row ih=>
  intro lay p hp hl;rw[map_cons,nodup_cons]at nd;show(zye (lay.set q.1 (some q.2)) row).getD p.1 none=_;rcases List.mem_cons.mp hp with rfl|hp
  ·rw[zCe nd.1];simp[hl]
  ·exact ih nd.2 hp (by simpa using hl)
def count_set{lay:List (Option Nat)}{a b:Option Nat}(hk:k<lay.length)(ha:lay.getD k none=a)(x:Option Nat):(lay.set k b).count x+(if a=x then 1 else 0)=lay.count x+(if b=x then 1 else 0):=by
 have e1:lay=lay.take k++a::lay.drop (k+1):=by
  have:lay[k]=a:=by simpa[hk] using ha
  rw[<-this,List.getElem_cons_drop,take_append_drop]
 have e2:lay.set k b=lay.take k++b::lay.drop (k+1):=by rw[xP,if_pos hk]
 rw[e2]
 conv=>rhs;rw[e1]
 rw[List.count_append,List.count_append,count_cons,count_cons];simp only[beq_iff_eq]
 split<;>split<;>omega
def zfk{lay:List (Option Nat)}{key:Nat}(r:To K lay key row)(hl:lay.length=K.length)(hkey:lay.getD key none=none):∀i,i<row.length->∀h:Nat,(zye lay (row.take (i+1))).count (some h)=lay.count (some h)+(if(row.getD i (0,0)).2=h then 1 else 0):=by
 intro i
 induction i with
 |zero=>
  intro hi h;obtain⟨h0,r0,e⟩:=r.first
  have hm:=r.mem (key,h0) (by rw[e];simp);subst e;have:=count_set (lay:=lay) (k:=key) (b:=some h0) (by rw[hl];exact hm.1) hkey (some h);show(lay.set key (some h0)).count (some h)=_;simpa using this
 |succ i ih=>
  intro hi h;have ih:=ih (by omega) h;have hp:row[i]?=some row[i]:=by simp[show i<row.length by omega]
  have hq:row[i+1]?=some row[i+1]:=by simp[hi]
  have hlink:=r.link i _ _ hp hq;have hm:=r.mem row[i+1] (getElem_mem hi);have et:row.take (i+1+1)=row.take (i+1)++[row[i+1]]:=by simp
  have hnot:(row[i+1]).1∉(row.take (i+1)).map (·.1):=by
   intro hmem;have nd:=r.nd;rw[<-take_append_drop (i+1) row,map_append,nodup_append]at nd;refine nd.2.2 _ hmem _ ?_ rfl;refine List.mem_map.mpr ⟨row[i+1],?_,rfl⟩;rw[drop_eq_getElem_cons hi];exact mem_cons_self
  have hcur:(zye lay (row.take (i+1))).getD (row[i+1]).1 none=some (row[i]).2:=by rw[zCe hnot];exact hlink
  rw[et,zBl];have:=count_set (lay:=zye lay (row.take (i+1))) (k:=(row[i+1]).1) (b:=some (row[i+1]).2) (by rw[zNh,hl];exact hm.1) hcur (some h);have e1:row.getD i (0,0)=row[i]:=by simp[show i<row.length by omega]
  have e2:row.getD (i+1) (0,0)=row[i+1]:=by simp[hi]
  rw[e1]at ih;rw[e2];simp only[YQ]at this;omega
def zXf{lay:List (Option Nat)}{key:Nat}(rt:tQ R K lay)(r:To K lay key row)(hkey:lay.getD key none=none)(hroom:lay.count (some (row.getD (row.length-1) (0,0)).2)<R.getD (row.getD (row.length-1) (0,0)).2 0):tQ R K (zye lay row):=by
 have hpos:0<row.length:=by
  obtain⟨h,q,e⟩:=r.first
  rw[e];simp
 refine⟨by rw[zNh];exact rt.len,λk h e=>?_,λh=>?_⟩
 ·have e':(zye lay row).getD k none=some h:=by rw[getD_eq_getElem?_getD,e];rfl
  by_cases hk:k∈row.map (·.1)
  ·obtain⟨p,hp,rfl⟩:=List.mem_map.mp hk;have hm:=r.mem p hp;rw[zzj r.nd hp (by rw[rt.len];exact hm.1)]at e';cases e';exact hm.2.1
  ·rw[zCe hk]at e';refine rt.home k h ?_;rw[getD_eq_getElem?_getD]at e'
   cases q:lay[k]? with
   |none=>rw[q]at e';cases e'
   |some z=>rw[q]at e';exact congrArg some e'
 ·have:=zfk r rt.len hkey (row.length-1) (by omega) h;rw[show row.length-1+1=row.length by omega,take_length]at this;rw[this];have hr:=rt.room h
  split
  ·rename_i e
   rw[e]at hroom;omega
  ·omega
def zLx{lay:List (Option Nat)}{key:Nat}(s:TD R K lay C)(r:To K lay key row)(hroom:lay.count (some (row.getD (row.length-1) (0,0)).2)<R.getD (row.getD (row.length-1) (0,0)).2 0) :
 ∀p∈row,∀k∈C,p.2∉K.getD k []:=by
 have key1:∀(j i:Nat),i+j+1=row.length->∀k∈C,(row.getD i (0,0)).2∉K.getD k []:=by
  intro j
  induction j with
  |zero=>
   intro i hi k hk hm;have:=s.full k hk _ hm;rw[show row.length-1=i by omega]at hroom;omega
  |succ j ih=>
   intro i hi k hk hm;have hp:row[i]?=some row[i]:=by simp[show i<row.length by omega]
   have hq:row[i+1]?=some row[i+1]:=by simp[show i+1<row.length by omega]
   have e1:row.getD i (0,0)=row[i]:=by simp[show i<row.length by omega]
   have e2:row.getD (i+1) (0,0)=row[i+1]:=by simp[show i+1<row.length by omega]
   rw[e1]at hm;have hin:=s.lies k hk _ hm _ (r.link i _ _ hp hq);refine ih (i+1) (by omega) _ hin ?_;rw[e2];exact(r.mem _ (getElem_mem _)).2.1
 intro p hp k hk;obtain⟨i,hi,rfl⟩:=List.mem_iff_getElem.mp hp;have:=key1 (row.length-1-i) i (by omega) k hk
 rwa [show row.getD i (0,0)=row[i] by simp[hi]]at this
def TD.push{lay:List (Option Nat)}{key:Nat}(s:TD R K lay C)(rt:tQ R K lay)(r:To K lay key row)(hkey:lay.getD key none=none)
 (hroom:lay.count (some (row.getD (row.length-1) (0,0)).2)<R.getD (row.getD (row.length-1) (0,0)).2 0):TD R K (zye lay row) C:=by
 have hpos:0<row.length:=by
  obtain⟨h,q,e⟩:=r.first
  rw[e];simp
 have hout:=zLx s r hroom;refine⟨s.keys,λk hk h hh=>?_,λk hk h hh o e=>?_⟩
 ·have:=zfk r rt.len hkey (row.length-1) (by omega) h;rw[show row.length-1+1=row.length by omega,take_length]at this;have h1:=s.full k hk h hh;omega
 ·by_cases ho:o∈row.map (·.1)
  ·obtain⟨p,hp,rfl⟩:=List.mem_map.mp ho;rw[zzj r.nd hp (by rw[rt.len];exact(r.mem p hp).1)]at e;cases e;exact absurd hh (hout p hp k hk)
  ·rw[zCe ho]at e;exact s.lies k hk h hh o e
def z5l(lay:List (Option Nat))(h:Nat):List Nat:=(yv lay.length).filter λk=>decide (lay.getD k none=some h)
def zWx(R:List Nat)(lay:List (Option Nat)):List Int:=(yv R.length).map λh=>(R.getD h 0:Int)-(lay.count (some h):Nat)
def zTu{lay:List (Option Nat)}(hn:μ[n]?=some (.lst (lay.map onD)))(hl:lay.length<=1000)(q:∀(l:Nat)(μ':Mem),tm μ μ'->μ.length<=l->μ'[l]?=some (.lst (nat (z5l lay h)))->Q (.loc l) μ'):WF z1m [.loc n,.int h] μ Q:=by
 refine z7b rfl ?_;show WS zlm [some (.loc n),some (.int h)] μ _ _ _ _;unfold zlm
 repeat walk_at "w"
 refine zAh (zh rfl (.inr (.inr ⟨n,_,rfl,hn,zgd (by rw[z4c,length_map];omega),?_⟩)));rw[zBe onD lay none];refine znk (λ(k:Nat) =>.tup [.int k,onD (lay.getD k none)]) (yv lay.length) (λ(k:Nat)=>D.int k) (λk=>decide (lay.getD k none=some h)) (λμ' k=>znb hn k) (λk hk μ' kp=>?_) (λμ' kp=>?_)
 ·repeat walk_at "w"
  refine zAt (α:=Option Nat) (lay.getD k none) (some h) ?_
  repeat walk_at "w"
  refine⟨rfl,kp,λ_=>?_⟩;unfold zUn;exact zh rfl ⟨rfl,kp⟩
 ·exact q _ _ kp.to kp.len zE
def zJw{lay:List (Option Nat)}(w:Wb L R K)(hn:μ[n]?=some (.lst (lay.map onD)))(q:∀(l:Nat)(μ':Mem),tm μ μ'->μ.length<=l->μ'[l]?=some (.lst ((zWx R lay).map .int))->Q (.loc l) μ'):WF zsk [wn R K,.loc n] μ Q:=by
 have hrl:=w.rl;refine z7b rfl ?_;show WS zKl [some (wn R K),some (.loc n)] μ _ _ _ _;unfold zKl
 repeat walk_at "w"
 refine zAh ?_
 repeat walk_at "w"
 refine zwm (.inl ⟨_,rfl,zgd (by rw[z4c,length_map];omega),?_⟩);rw[zBe (λ(k:Nat)=>D.int k) R 0];refine z0f (λ(k:Nat) =>.tup [.int k,.int (R.getD k 0:Nat)]) (yv R.length) (λ(k:Nat)=>D.int ((R.getD k 0:Int)-(lay.count (some k):Nat))) (λ_ _=>rfl) (λk hk μ' kp=>?_) (λμ' kp=>?_)
 ·repeat walk_at "w"
  refine⟨_,_,rfl,kp _ _ hn,?_⟩
  repeat walk_at "w"
  refine zMs (kp _ _ hn) ?_
  repeat walk_at "w"
  exact⟨rfl,kp,kp⟩
 ·refine q _ _ kp.to kp.len ?_;rw[zE];unfold zWx;rw[map_map];rfl
def zkn(K:List (List Nat))(ds:List D)(k:Nat):Bool:=!zxx (ds.getD k .non) && !((nat (K.getD k [])).any λy=>eqF y (ds.getD k .non))
def zws(R:List Nat)(ds:List D)(h:Nat):Bool:=decide ((R.getD h 0:Nat)<(zvx ds h:Int))
def zYl(R:List Nat)(K:List (List Nat))(ds:List D):D:=match(yv K.length).find? (zkn K ds) with
 |some k =>.tup [.str "home",.int k]
 |none=>match(yv R.length).find? (zws R ds) with
  |some h =>.tup [.str "room",.int h]
  |none =>.non
def zwv(w:Wb L R K)(hf:ds.all zdd=true)(hn:μ[n]?=some (.lst ds))(q:∀(l:Nat)(μ':Mem),tm μ μ'->μ.length<=l->μ'[l]?=some (.lst (((yv R.length).map λh=>(R.getD h 0:Int)-(zvx ds h:Nat)).map .int))->Q (.loc l) μ'):WF zsk [wn R K,.loc n] μ Q:=by
 have hrl:=w.rl;refine z7b rfl ?_;show WS zKl [some (wn R K),some (.loc n)] μ _ _ _ _;unfold zKl
 repeat walk_at "w"
 refine zAh ?_
 repeat walk_at "w"
 refine zwm (.inl ⟨_,rfl,zgd (by rw[z4c,length_map];omega),?_⟩);rw[zBe (λ(k:Nat)=>D.int k) R 0];refine z0f (λ(k:Nat) =>.tup [.int k,.int (R.getD k 0:Nat)]) (yv R.length) (λ(k:Nat)=>D.int ((R.getD k 0:Int)-(zvx ds k:Nat))) (λ_ _=>rfl) (λk hk μ' kp=>?_) (λμ' kp=>?_)
 ·repeat walk_at "w"
  refine⟨_,_,rfl,kp _ _ hn,?_⟩
  repeat walk_at "w"
  refine ztu (kp _ _ hn) rfl hf ?_
  repeat walk_at "w"
  exact⟨rfl,kp,kp⟩
 ·refine q _ _ kp.to kp.len ?_;rw[zE,map_map];rfl
def zYv(hf:ds.all zdd=true){k:Nat}{d:D}(h:ds[k]?=some d):zdd d=true:=List.all_eq_true.mp hf d (mem_of_getElem? h)
def ziv(w:Wb L R K)(hf:ds.all zdd=true)(hl:ds.length=K.length)(hn:μ[n]?=some (.lst ds))(q:∀(μ':Mem),tm μ μ'->Q (zYl R K ds) μ'):WF zSm [wn R K,.loc n] μ Q:=by
 have hrl:=w.rl;refine z7b rfl ?_;show WS zNm [some (wn R K),some (.loc n),none,none,none] μ _ _ _ _;unfold zNm;refine zJ (z7h (zAh (zh rfl (.inr (.inr ⟨n,_,rfl,hn,?_⟩)))));refine z7c (λm δ μ'=>∃a b:Option D,δ=[some (wn R K),some (.loc n),a,b,none]/\μ'=μ/\∀j<m,zkn K ds j=false) ⟨_,_,rfl,rfl,by simp⟩ (λm δ μ' h=>by obtain⟨_,_,_,rfl,_⟩:=h;exact znb hn .refl) ?_ ?_
 ·rintro m x δ μ' hx ⟨a,b,rfl,rfl,hb⟩;obtain⟨y,hy,rfl⟩:=zln hx;have hm:m<ds.length:=(List.getElem?_eq_some_iff.mp hy).1;have hfy:=zYv hf hy;have hgy:ds.getD m .non=y:=by rw[getD_eq_getElem?_getD,hy];rfl
  have hgo:zkn K ds m=false->∀j<m+1,zkn K ds j=false:=λh j hj=>by
   by_cases e:j=m
   ·subst e;exact h
   ·exact hb j (by omega)
  repeat walk_at "w"
  refine zmj hfy ?_
  repeat walk_at "w"
  refine⟨λh1=>?_,λh1=>⟨λhc=>(by cases hc),λ_=>?_⟩⟩
  ·repeat walk_at "w"
   refine z2g ?_
   repeat walk_at "w"
   refine zIt (by omega) ?_;refine zBs rfl hfy (zOm _) ?_
   repeat walk_at "w"
   refine⟨λh2=>?_,λh2=>?_⟩
   ·repeat walk_at "w"
    have hh:zkn K ds m=true:=by
     unfold zkn;rw[hgy,h1,h2];rfl
    have:=q μ' .refl;unfold zYl at this;rw[zFl hh (by omega) hb]at this;exact this
   ·repeat walk_at "w"
    refine⟨_,_,rfl,rfl,hgo ?_⟩;unfold zkn;rw[hgy,h2,Bool.and_false]
  ·repeat walk_at "w"
   refine⟨_,_,rfl,rfl,hgo ?_⟩;unfold zkn;rw[hgy,h1,Bool.false_and]
 ·rintro δ μ' ⟨a,b,rfl,rfl,hb⟩;rw[z4c,hl]at hb;refine zJ (z7h (zAh (zD (zj (zh rfl (zj (zh rfl (zC ?_))))))));refine zwv w hf hn λl μ1 k1 hl1 g1 =>.inr (.inr ⟨l,_,rfl,g1,?_⟩);rw[zBe D.int _ 0];refine z7c (λm δ μ'=>∃a b c:Option D,δ=[some (wn R K),some (.loc n),a,b,c]/\μ'=μ1/\∀j<m,zws R ds j=false) ⟨_,_,_,rfl,rfl,by simp⟩ (λm δ μ' h=>by obtain⟨_,_,_,_,rfl,_⟩:=h;exact znb g1 .refl) ?_ ?_
  ·rintro m x δ μ2 hx ⟨a,b,c,rfl,rfl,hr⟩
   have hm:m<R.length:=by
    have:=(List.getElem?_eq_some_iff.mp hx).1;simpa using this
   have ex:x=.tup [.int m,.int ((R.getD m 0:Int)-(zvx ds m:Nat))]:=by
    rw[yh]at hx;simp[hm]at hx;rw[<-hx];simp[hm]
   subst ex
   repeat walk_at "w"
   have hdec:decide ((R.getD m 0:Int)-(zvx ds m:Nat)<0)=zws R ds m:=by
    unfold zws;exact decide_eq_decide.mpr (by omega)
   rw[hdec];refine⟨λh1=>?_,λh1=>?_⟩
   ·repeat walk_at "w"
    have:=q μ2 k1;unfold zYl at this;rw[zeg hb,zFl h1 hm hr]at this;exact this
   ·repeat walk_at "w"
    refine⟨_,_,_,rfl,rfl,λj hj=>?_⟩
    by_cases e:j=m
    ·subst e;exact h1
    ·exact hr j (by omega)
  ·rintro δ μ2 ⟨a,b,c,rfl,rfl,hr⟩;simp only[length_map,length_range]at hr
   repeat walk_at "w"
   have:=q μ2 k1;unfold zYl at this;rw[zeg hb,zeg hr]at this;exact this
abbrev PT:=List (Nat×Nat×Option Nat)
def dkP(P:PT):List (Int×D):=P.map λp=>((p.1:Int),.tup [.int (p.2.1:Nat),onD p.2.2])
def z9q(P:PT):zXj (dkP P)=nat (P.map (·.1)):=by
 unfold zXj dkP;rw[map_map,zGi];rfl
def zzp(P:PT)(h:Nat):((dkP P).any λp=>decide (p.1=(h:Int)))=decide (h∈P.map (·.1)):=by
 refine zwh ?_;unfold dkP;rw[any_map,any_eq_true];simp only[Function.comp,decide_eq_true_iff,mem_map];constructor
 ·rintro⟨p,hp,e⟩;exact⟨p,hp,by omega⟩
 ·rintro⟨p,hp,e⟩;exact⟨p,hp,by omega⟩
def zPk{P:PT}:(z3c (dkP P) (h:Int)).isSome=decide (h∈P.map (·.1)):=by
 rw[<-zzp,Bool.eq_iff_iff];unfold z3c;rw[Option.isSome_map,List.find?_isSome,any_eq_true]
def zPw{P:PT}(nd:(P.map (·.1)).Nodup){p:Nat×Nat×Option Nat}(hp:p∈P):z3c (dkP P) (p.1:Int)=some (.tup [.int (p.2.1:Nat),onD p.2.2]):=by
 induction P with
 |nil=>cases hp
 |cons q P ih=>
  rw[map_cons,nodup_cons]at nd
  have e:z3c (dkP (q::P)) (p.1:Int)=if(q.1:Int)=p.1 then some (.tup [.int (q.2.1:Nat),onD q.2.2]) else z3c (dkP P) (p.1:Int):=by
   unfold z3c dkP;rw[map_cons,Xk]
   by_cases h:(q.1:Int)=p.1
   ·simp[h]
   ·simp[h]
  rw[e];rcases List.mem_cons.mp hp with rfl|hp
  ·rw[if_pos rfl]
  ·rw[if_neg,ih nd.2 hp];intro h;refine nd.1 (List.mem_map.mpr ⟨p,hp,by omega⟩)
def zZt{P:PT}{f:Option Nat}(hn:h∉P.map (·.1)):zTr (dkP P) (h:Int) (.tup [.int k,onD f])=dkP (P++[(h,k,f)]):=by
 unfold zTr;rw[zzp,decide_eq_false hn,if_neg yC];simp[dkP]
def zcx{P:PT}{f:Option Nat}(hn:h∈P.map (·.1))(ha:∀p∈P,p.2=(k,f)):zTr (dkP P) (h:Int) (.tup [.int k,onD f])=dkP P:=by
 unfold zTr;rw[zzp,decide_eq_true hn,if_pos rfl];unfold dkP;rw[map_map];refine List.map_congr_left λp hp=>?_;simp only[Function.comp]
 split
 ·rw[ha p hp]
 ·rfl
structure Tree(R:List Nat)(K:List (List Nat))(lay:List (Option Nat))(key:Nat)(P:PT):Prop where
 nd:(P.map (·.1)).Nodup
 lt:∀p∈P,p.1<R.length
 ok:∀(i:Nat) p,P[i]?=some p->p.2.1<K.length/\p.1∈K.getD p.2.1 []/\((p.2.2=none/\p.2.1=key)\/∃(j:Nat)(q:Nat×Nat×Option Nat),j<i/\P[j]?=some q/\p.2.2=some q.1/\lay.getD p.2.1 none=some q.1)
def Tree.len{lay:List (Option Nat)}{key:Nat}{P:PT}(t:Tree R K lay key P):P.length<=R.length:=by
 have:=zwd t.nd (m:=yv R.length) λx hx=>by
  obtain⟨p,hp,rfl⟩:=List.mem_map.mp hx;simpa using t.lt p hp
 simpa using this
def Tree.add{lay:List (Option Nat)}{key:Nat}{P:PT}(t:Tree R K lay key P){h k:Nat}{f:Option Nat}(hn:h∉P.map (·.1))(hr:h<R.length)(hk:k<K.length)(hm:h∈K.getD k [])
 (hf:(f=none/\k=key)\/∃(j:Nat)(q:Nat×Nat×Option Nat),P[j]?=some q/\f=some q.1/\lay.getD k none=some q.1):Tree R K lay key (P++[(h,k,f)]):=by
 refine⟨?_,λp hp=>?_,λi p e=>?_⟩
 ·rw[map_append,nodup_append];refine⟨t.nd,by simp,λa ha b hb=>?_⟩;simp at hb;subst hb;exact λe=>hn (e▸ha)
 ·rcases List.mem_append.mp hp with hp|hp
  ·exact t.lt p hp
  ·rw[List.mem_singleton.mp hp];exact hr
 ·by_cases hi:i<P.length
  ·rw[yq hi]at e;obtain⟨h1,h2,h3⟩:=t.ok i p e;refine⟨h1,h2,?_⟩;rcases h3 with h3|⟨j,q,hj,eq,h4⟩
   ·exact .inl h3
   ·exact .inr ⟨j,q,hj,by rw[yq (by omega)];exact eq,h4⟩
  ·rw[yJ (by omega)]at e
   have hi0:i-P.length=0:=by
    have:=(List.getElem?_eq_some_iff.mp e).1;simp at this;omega
   rw[hi0]at e;have e:(h,k,f)=p:=by simpa using e
   subst e;refine⟨hk,hm,?_⟩;rcases hf with hf|⟨j,q,eq,h4⟩
   ·exact .inl hf
   ·have hj:=(List.getElem?_eq_some_iff.mp eq).1;exact .inr ⟨j,q,by omega,by rw[yq hj];exact eq,h4⟩
def zwt(d l:Nat)(μ ν:Mem):Prop:=∀i o,i≠d->i≠l->μ[i]?=some o->ν[i]?=some o
abbrev JPa(R:List Nat)(K:List (List Nat))(lay:List (Option Nat))(key n d l2 at_ o:Nat)(P0:PT)(ν:Mem):Nat->M.Loc->Mem->Prop:=λm δ ν'=>∃(P:PT)(x:Option D),δ=[some (wn R K),some (.loc n),some (.int key),some (.loc d),x,some (.loc l2),some (.int at_),some (.int o)]/\(∃E,P=P0++E)/\Tree R K lay key P/\(∀h∈(K.getD o []).take m,h∈P.map (·.1))/\zwt d l2 ν ν'/\ν'[d]?=some (.dct (dkP P))/\ν'[l2]?=some (.lst (nat (P.map (·.1))))
def z1u{lay:List (Option Nat)}{key d l2 at_ o:Nat}{P0:PT}{q:Nat×Nat×Option Nat}{x4:Option D}{ν:Mem}{bk ct:M.Loc->Mem->Prop}(w:Wb L R K)(t:Tree R K lay key P0)(ho:o<K.length)(hq:P0[at_]?=some q)(hlo:lay.getD o none=some q.1)
 (hl2:d<l2) (gd:ν[d]?=some (.dct (dkP P0))) (gl:ν[l2]?=some (.lst (nat (P0.map (·.1)))))
 (k:∀(P:PT)(x:Option D)(ν':Mem),(∃E,P=P0++E)->Tree R K lay key P->(∀h∈K.getD o [],h∈P.map (·.1))->zwt d l2 ν ν'->ν'[d]?=some (.dct (dkP P))->ν'[l2]?=some (.lst (nat (P.map (·.1))))->nx [some (wn R K),some (.loc n),some (.int key),some (.loc d),x,some (.loc l2),some (.int at_),some (.int o)] ν') :
 WS zKf [some (wn R K),some (.loc n),some (.int key),some (.loc d),x4,some (.loc l2),some (.int at_),some (.int o)] ν nx rt bk ct:=by
 unfold zKf;refine z7h (z4f (zy (zy (zh rfl (w_c (z2g (zh rfl (zIt ho (.inl ⟨_,rfl,?_⟩)))))))));refine z7c (JPa R K lay key n d l2 at_ o P0 ν) ⟨P0,_,rfl,⟨[],by simp⟩,t,by simp,λ_ _ _ _ e=>e,gd,gl⟩ (λ_ _ _ _=>rfl) ?_ ?_
 ·rintro m x δ ν1 hx ⟨P,y,rfl,⟨E,hE⟩,tP,hm,k1,g1,g2⟩;rw[yh]at hx
  cases hy:(K.getD o [])[m]? with
  |none=>rw[hy]at hx;cases hx
  |some h=>
   rw[hy]at hx;cases hx;have hmem:=mem_of_getElem? hy;have htk:(K.getD o []).take (m+1)=(K.getD o []).take m++[h]:=by rw[take_succ,hy];rfl
   have hpl:=tP.len;have hrl:=w.rl
   have hat:(P.map (·.1))[at_]?=some q.1:=by
    have hlt:=(List.getElem?_eq_some_iff.mp hq).1;rw[hE,map_append,yq (by simpa using hlt),yh,hq];rfl
   refine zTg ?_;unfold zTh;refine zoh (zX (zy (zh rfl (zh rfl (zqv (zhe g1) ⟨_,rfl,λhb=>?_,λhb=>zBb ?_⟩)))))
   ·have hnew:h∉P.map (·.1):=by
     rw[zPk]at hb;simpa using hb
    refine zJ (zKm (zfh (zj (zh rfl (zj (zy (zh rfl (zh rfl (zwc (zL g2) (zmc (v:=.int (q.1:Nat)) (by rw[yh,hat];rfl)) (zC ?_))))))))));refine zbr (zh rfl (zh rfl ⟨_,_,_,rfl,rfl,g1,by simp[dkP];omega,?_⟩));rw[show(D.tup [.int (o:Nat),.int (q.1:Nat)])=.tup [.int (o:Nat),onD (some q.1)] from rfl,zZt hnew];have g1':=zsb (o':=tE.dct (dkP (P++[(h,o,some q.1)]))) g1;have g2':=z7 (o':=tE.dct (dkP (P++[(h,o,some q.1)]))) g2 (by omega:d≠l2);refine zUi (zJl (zh rfl ⟨_,_,rfl,g2',?_⟩));refine zj (zh rfl (zC ?_));refine zjn g2' (by rw[length_map,length_map];omega) ?_
    have hatP:P[at_]?=some q:=by
     have hlt:=(List.getElem?_eq_some_iff.mp hq).1;rw[hE,yq hlt];exact hq
    refine⟨P++[(h,o,some q.1)],_,rfl,⟨E++[(h,o,some q.1)],by rw[hE];simp⟩,tP.add hnew ((w.key ho).2 h hmem) ho hmem (.inr ⟨at_,q,hatP,rfl,hlo⟩),λg hg=>?_,λi o' hi1 hi2 e'=>z7 (z7 (k1 i o' hi1 hi2 e') (yH hi1)) (yH hi2),z7 g1' (by omega),?_⟩
    ·rw[htk]at hg;rw[map_append,mem_append];rcases List.mem_append.mp hg with hg|hg
     ·exact .inl (hm g hg)
     ·rw[List.mem_singleton.mp hg];exact .inr (by simp)
    ·rw[zsb g2',map_append,zSg];rfl
   ·have hold:h∈P.map (·.1):=by
     rw[zPk]at hb;simpa using hb
    refine⟨P,_,rfl,⟨E,hE⟩,tP,λg hg=>?_,k1,g1,g2⟩;rw[htk]at hg;rcases List.mem_append.mp hg with hg|hg
    ·exact hm g hg
    ·rw[List.mem_singleton.mp hg];exact hold
 ·rintro δ ν1 ⟨P,y,rfl,hE,tP,hm,k1,g1,g2⟩;rw[length_map,take_length]at hm;exact k P y ν1 hE tP hm k1 g1 g2
abbrev JPb(R:List Nat)(K:List (List Nat))(lay:List (Option Nat))(key n:Nat)(μ:Mem):Nat->M.Loc->Mem->Prop:=λm δ ν=>∃(P:PT)(x:Option D),δ=[some (wn R K),some (.loc n),some (.int key),some (.loc μ.length),x,none,none,none]/\Tree R K lay key P/\(∀p∈P,p.2=(key,none))/\(∀h∈(K.getD key []).take m,h∈P.map (·.1))/\tm μ ν/\ν[μ.length]?=some (.dct (dkP P))
abbrev JPc(R:List Nat)(K:List (List Nat))(lay:List (Option Nat))(key n:Nat)(μ ν1:Mem):Nat->M.Loc->Mem->Prop:=λm δ ν=>∃(P:PT)(at_:Nat)(x y:Option D),m=R.length-at_/\at_<=P.length/\δ=[some (wn R K),some (.loc n),some (.int key),some (.loc μ.length),x,some (.loc ν1.length),some (.int at_),y]/\Tree R K lay key P/\(∀h∈K.getD key [],h∈P.map (·.1))/\(∀(i:Nat) p,i<at_->P[i]?=some p->∀o,lay.getD o none=some p.1->∀h∈K.getD o [],h∈P.map (·.1))/\tm μ ν/\ν[μ.length]?=some (.dct (dkP P))/\ν[ν1.length]?=some (.lst (nat (P.map (·.1))))
abbrev JPd(R:List Nat)(K:List (List Nat))(lay:List (Option Nat))(key n:Nat)(μ ν1:Mem)(at_:Nat)(P:PT)(q0:Nat×Nat×Option Nat)(l4:Nat):Nat->M.Loc->Mem->Prop:=λj δ ν=>∃(P':PT)(x y:Option D),δ=[some (wn R K),some (.loc n),some (.int key),some (.loc μ.length),x,some (.loc ν1.length),some (.int at_),y]/\(∃E,P'=P++E)/\Tree R K lay key P'/\(∀o∈(z5l lay q0.1).take j,∀h∈K.getD o [],h∈P'.map (·.1))/\tm μ ν/\ν[μ.length]?=some (.dct (dkP P'))/\ν[ν1.length]?=some (.lst (nat (P'.map (·.1))))/\ν[l4]?=some (.lst (nat (z5l lay q0.1)))
def zMp{lay:List (Option Nat)}{key:Nat}(w:Wb L R K)(hlen:lay.length=K.length)(hL:L<=1000)(hn:μ[n]?=some (.lst (lay.map onD)))(hk:key<K.length)
 (q:∀(P:PT)(d:Nat)(μ':Mem),Tree R K lay key P->(∀h∈K.getD key [],h∈P.map (·.1))->(∀p∈P,∀o,lay.getD o none=some p.1->∀h∈K.getD o [],h∈P.map (·.1))->tm μ μ'->μ.length<=d->μ'[d]?=some (.dct (dkP P))->Q (.loc d) μ'):WF zuf [wn R K,.loc n,.int key] μ Q:=by
 have hrl:=w.rl;have hkl:=w.kl;refine z7b rfl ?_;show WS zMf [some (wn R K),some (.loc n),some (.int key),none,none,none,none,none] μ _ _ _ _;unfold zMf;refine zJ (zob (zUz (zJ (z7h (z4f (zy (zy (zh rfl (w_c (z2g (zh rfl (zIt hk (.inl ⟨_,rfl,?_⟩))))))))))))) ;refine z7c (JPb R K lay key n μ) ⟨[],_,rfl,⟨by simp,by simp,λi p e=>by simp at e⟩,by simp,by simp,.app,zE⟩ (λ_ _ _ _=>rfl) ?_ ?_
 ·rintro m x δ ν1 hx ⟨P,y,rfl,tP,ha,hm,k1,g1⟩;rw[yh]at hx
  cases hy:(K.getD key [])[m]? with
  |none=>rw[hy]at hx;cases hx
  |some h=>
   rw[hy]at hx;cases hx;have hmem:=mem_of_getElem? hy;have htk:(K.getD key []).take (m+1)=(K.getD key []).take m++[h]:=by rw[take_succ,hy];rfl
   have hpl:=tP.len;refine zTg ?_;unfold zsi;refine zKm (zfh (zj (zh rfl (zj (w_c (zC ?_))))));refine zbr (zh rfl (zh rfl ⟨_,_,_,rfl,rfl,g1,by simp[dkP];omega,?_⟩));rw[show(D.tup [.int (key:Nat),.non])=.tup [.int (key:Nat),onD none] from rfl];have kk:∀o':tE,tm μ (ν1.set μ.length o'):=λo' i o e=>z7 (k1 i o e) (yT (zQ e))
   by_cases hin:h∈P.map (·.1)
   ·rw[zcx hin ha];refine⟨P,_,rfl,tP,ha,λg hg=>?_,kk _,zsb g1⟩;rw[htk]at hg;rcases List.mem_append.mp hg with hg|hg
    ·exact hm g hg
    ·rw[List.mem_singleton.mp hg];exact hin
   ·rw[zZt hin];refine⟨P++[(h,key,none)],_,rfl,tP.add hin ((w.key hk).2 h hmem) hk hmem (.inl ⟨rfl,rfl⟩),λp hp=>?_,λg hg=>?_,kk _,zsb g1⟩
    ·rcases List.mem_append.mp hp with hp|hp
     ·exact ha p hp
     ·rw[List.mem_singleton.mp hp]
    ·rw[htk]at hg;rw[map_append,mem_append];rcases List.mem_append.mp hg with hg|hg
     ·exact .inl (hm g hg)
     ·rw[List.mem_singleton.mp hg];exact .inr (by simp)
 ·rintro δ ν1 ⟨P0,y,rfl,tP0,_,hm0,k1,g1⟩;rw[length_map,take_length]at hm0;refine zJ (zob (zD (zj (zh rfl (zC (zmx (zhe g1) ?_))))));rw[z9q];have hl2:μ.length<ν1.length:=zQ g1;refine zJ (zob (w_c (zJ ?_)));refine zBm (JPc R K lay key n μ ν1) (m:=R.length) (by omega) ⟨P0,0,_,_,by simp,by simp,rfl,tP0,hm0,by simp,k1.to,zlb g1,zE⟩ ?_;rintro m δ ν2 ⟨P,at_,x,y,rfl,hat,rfl,tP,hkey,hcl,k2,g2,g3⟩;have hpl:=tP.len
  repeat walk_at "w"
  refine zWg (zL g3) ?_;refine zrm ⟨_,rfl,λh1=>?_,λh1=>?_⟩
  ·have h1:at_<P.length:=by
    have:=of_decide_eq_true h1;simp only[length_map]at this;omega
   have hq:P[at_]?=some P[at_]:=by simp[h1]
   generalize P[at_]=q0 at hq;have hat':(P.map (·.1))[at_]?=some q0.1:=by rw[yh,hq];rfl
   unfold zpi;refine zJ (z7h (z4f (zD (zj (zh rfl (zj (zy (zh rfl (zh rfl (zwc (zL g3) (zmc (v:=.int (q0.1:Nat)) (by rw[yh,hat'];rfl)) (zC ?_)))))))))));refine zTu (h:=q0.1) (k2 _ _ hn) (by omega) λl4 ν4 k4 hl4 g4 =>.inr (.inr ⟨l4,_,rfl,g4,?_⟩);have hν2:=zQ g3;refine z7c (JPd R K lay key n μ ν1 at_ P q0 l4) ⟨P,_,_,rfl,⟨[],by simp⟩,tP,by simp,k2.trans k4,k4 _ _ g2,k4 _ _ g3,g4⟩ (λj δ ν ⟨_,_,_,_,_,_,_,_,_,_,h⟩=>znb h .refl) ?_ ?_
   ·rintro j z δ ν5 hz ⟨P',x',y',rfl,⟨E,hE⟩,tP',hdone,k5,g5,g6,g7⟩;rw[yh]at hz
    cases ho:(z5l lay q0.1)[j]? with
    |none=>rw[ho]at hz;cases hz
    |some o=>
     rw[ho]at hz;cases hz;have hom:=mem_of_getElem? ho;have hom':=List.mem_filter.mp hom;have hol:o<K.length:=by rw[<-hlen];simpa using hom'.1
     have hlo:=of_decide_eq_true hom'.2;have htk:(z5l lay q0.1).take (j+1)=(z5l lay q0.1).take j++[o]:=by rw[take_succ,ho];rfl
     have hq':P'[at_]?=some q0:=by rw[hE,yq h1];exact hq
     refine zTg ?_;have hl5:=zQ g6;refine z1u w tP' hol hq' hlo hl2 g5 g6 λP'' x'' ν6 ⟨E',hE'⟩ tP'' hall k6 g8 g9=>⟨P'',_,_,rfl,⟨E++E',by rw[hE',hE,append_assoc]⟩,tP'',λo' ho' h hh=>?_,λi o' e'=>k6 i o' (yt (zQ e')) (by have:=zQ e';omega) (k5 i o' e'),g8,g9,k6 l4 _ (by omega) (by omega) g7⟩
     rw[htk]at ho';rcases List.mem_append.mp ho' with ho'|ho'
     ·rw[hE',map_append,mem_append];exact .inl (hdone o' ho' h hh)
     ·rw[List.mem_singleton.mp ho']at hh;exact hall h hh
   ·rintro δ ν5 ⟨P',x',y',rfl,⟨E,hE⟩,tP',hdone,k5,g5,g6,g7⟩;rw[nat,length_map,take_length]at hdone;have hpl':=tP'.len;refine ziA rfl (w_c (zaz ?_));refine⟨R.length-(at_+1),by omega,P',at_+1,_,_,rfl,by rw[hE];simp;omega,rfl,tP',λh hh=>?_,λi p hi e o ho h hh=>?_,k5,g5,g6⟩
    ·rw[hE,map_append,mem_append];exact .inl (hkey h hh)
    ·by_cases hia:i<at_
     ·rw[hE,yq (by omega)]at e;rw[hE,map_append,mem_append];exact .inl (hcl i p hia e o ho h hh)
     ·have:i=at_:=by omega
      subst this;rw[hE,yq h1,hq]at e;cases e;refine hdone o ?_ h hh;refine List.mem_filter.mpr ⟨?_,decide_eq_true ho⟩;rw[mem_range];refine Nat.lt_of_not_le λhle=>?_;rw[getD_eq_getElem?_getD,xl hle]at ho;cases ho
  ·refine zLb (zh rfl ?_)
   have h1:at_=P.length:=by
    have:=of_decide_eq_false h1;simp only[length_map]at this;omega
   refine q P _ ν2 tP hkey (λp hp o e h hh=>?_) k2 (yk _) g2;obtain⟨i,hi,rfl⟩:=List.mem_iff_getElem.mp hp;exact hcl i P[i] (by omega) (by simp[hi]) o e h hh
abbrev pD(p:Nat×Nat):D:=.tup [.int (p.1:Nat),.int (p.2:Nat)]
inductive Path(P:PT)(lay:List (Option Nat)):Nat->List (Nat×Nat)->Prop
 |one {i:Nat} {p:Nat×Nat×Option Nat} (e:P[i]?=some p):Path P lay i [(p.2.1,p.1)]
 |up {i j:Nat} {p q:Nat×Nat×Option Nat} {row:List (Nat×Nat)} (h:Path P lay i row) (e:P[i]?=some p) (eq:P[j]?=some q) (hj:j<i) (hf:p.2.2=some q.1) (hl:lay.getD p.2.1 none=some q.1):Path P lay j ((q.2.1,q.1)::row)
def Path.head{P:PT}{lay:List (Option Nat)}(h:Path P lay i row):∃p r,P[i]?=some p/\row=(p.2.1,p.1)::r:=by
 cases h with
 |one e=>exact⟨_,_,e,rfl⟩
 |up h e eq hj hf hl=>exact⟨_,_,eq,rfl⟩
def Path.idx{P:PT}{lay:List (Option Nat)}(h:Path P lay i row):∀x∈row,∃j p,i<=j/\P[j]?=some p/\x=(p.2.1,p.1):=by
 induction h with
 |one e=>intro x hx;rw[List.mem_singleton.mp hx];exact⟨_,_,yk _,e,rfl⟩
 |up h e eq hj hf hl ih=>
  intro x hx;rcases List.mem_cons.mp hx with rfl|hx
  ·exact⟨_,_,yk _,eq,rfl⟩
  ·obtain⟨m,p,hm,e',r⟩:=ih x hx;exact⟨m,p,by omega,e',r⟩
def Path.tail{P:PT}{lay:List (Option Nat)}(h:Path P lay i row):∀x∈row.tail,∃j p,i<=j/\P[j]?=some p/\lay.getD x.1 none=some p.1:=by
 induction h with
 |one e=>intro x hx;cases hx
 |up h e eq hj hf hl ih=>
  intro x hx;obtain⟨p',r,e',er⟩:=h.head;rw[e]at e';cases e';rw[List.tail_cons,er]at hx;rcases List.mem_cons.mp hx with rfl|hx
  ·exact⟨_,_,yk _,eq,hl⟩
  ·obtain⟨m,p,hm,e',r⟩:=ih x (by rw[er];exact hx);exact⟨m,p,by omega,e',r⟩
def Path.link{P:PT}{lay:List (Option Nat)}(h:Path P lay i row):∀n p q,row[n]?=some p->row[n+1]?=some q->lay.getD q.1 none=some p.2:=by
 induction h with
 |one e=>intro n p q _ e2;simp at e2
 |up h e eq hj hf hl ih=>
  intro n p q e1 e2
  cases n with
  |zero=>
   obtain⟨p',r,e',er⟩:=h.head;rw[e]at e';cases e';rw[er]at e2;simp at e1 e2;subst e1 e2;exact hl
  |succ n=>exact ih n p q (by simpa using e1) (by simpa using e2)
def zry{P:PT}(nd:(P.map (·.1)).Nodup){i j:Nat}{p q:Nat×Nat×Option Nat}(e1:P[i]?=some p)(e2:P[j]?=some q)(h:p.1=q.1):i=j:=by
 have h1:(P.map (·.1))[i]?=some p.1:=by rw[yh,e1];rfl
 have h2:(P.map (·.1))[j]?=some p.1:=by rw[yh,e2,h];rfl
 obtain⟨a,h1⟩:=List.getElem?_eq_some_iff.mp h1;obtain⟨b,h2⟩:=List.getElem?_eq_some_iff.mp h2;have pw:=List.pairwise_iff_getElem.mp nd;rcases Nat.lt_trichotomy i j with h|h|h
 ·exact absurd (h1.trans h2.symm) (pw i j a b h)
 ·exact h
 ·exact absurd (h2.trans h1.symm) (pw j i b a h)
def Path.ndk{P:PT}{lay:List (Option Nat)}{key:Nat}(t:Tree R K lay key P)(hkey:lay.getD key none=none)(h:Path P lay i row):(row.map (·.1)).Nodup:=by
 induction h with
 |one e=>simp
 |@up i j p q row h e eq hj hf hl ih=>
  rw[map_cons,nodup_cons];refine⟨λhm=>?_,ih⟩;obtain⟨x,hx,ex⟩:=List.mem_map.mp hm;have ht:=(Path.up h e eq hj hf hl).tail x hx;obtain⟨m,p',hm',e',el⟩:=ht;rw[ex]at el;obtain⟨_,_,h3⟩:=t.ok j q eq;rcases h3 with ⟨_,h3⟩|⟨j',q',hj',eq',_,h4⟩
  ·simp only at el;rw[h3,hkey]at el;cases el
  ·simp only at el;rw[h4]at el;have:=zry t.nd eq' e' (by injection el);omega
def Path.ok{P:PT}{lay:List (Option Nat)}{key:Nat}{p:Nat×Nat×Option Nat}(t:Tree R K lay key P)(hkey:lay.getD key none=none)(h:Path P lay i row)(e:P[i]?=some p)(hp:p.2.2=none):To K lay key row:=by
 refine⟨?_,λx hx=>?_,h.link,h.ndk t hkey⟩
 ·obtain⟨p',r,e',er⟩:=h.head;rw[e]at e';cases e';rcases(t.ok i p e).2.2 with ⟨_,h3⟩|⟨_,_,_,_,h3,_⟩
  ·exact⟨p.1,r,by rw[er,h3]⟩
  ·rw[hp]at h3;cases h3
 ·obtain⟨j,q,_,eq,rfl⟩:=h.idx x hx;obtain⟨h1,h2,h3⟩:=t.ok j q eq;refine⟨h1,h2,?_⟩;rcases h3 with ⟨_,h3⟩|⟨j',q',hj',eq',_,h4⟩
  ·simp only;rw[h3,hkey];exact λh=>by cases h
  ·simp only;rw[h4];intro h;have:=zry t.nd eq' eq (by injection h);omega
abbrev JRo(P:PT)(lay:List (Option Nat))(p0:Nat×Nat×Option Nat)(d:Nat)(μ:Mem):Nat->M.Loc->Mem->Prop:=λm δ ν=>∃(acc:List (Nat×Nat)) (f:Option Nat),δ=[some (.loc d),some (onD f),some (.loc μ.length)]/\tm μ ν/\ν[μ.length]?=some (.lst (acc.map pD))/\acc.length+m<=P.length /\
 ((f=none∧(∃ k,acc[0]?=some (k,p0.1))∧∃ i p,Path P lay i acc.reverse∧P[i]?=some p∧p.2.2=none) ∨
  (∃i p,m=i+1/\P[i]?=some p/\f=some p.1/\((acc=[]/\p=p0)\/((∃k,acc[0]?=some (k,p0.1))/\∃i' p',i<i'/\Path P lay i' acc.reverse/\P[i']?=some p'/\p'.2.2=some p.1/\lay.getD p'.2.1 none=some p.1))))
def zGv{lay:List (Option Nat)}{key d i0:Nat}{p0:Nat×Nat×Option Nat}{P:PT}(t:Tree R K lay key P)(hR:R.length<=10)(hkey:lay.getD key none=none)(hd:zxc μ (.loc d)=some (dkP P))(hp0:P[i0]?=some p0)
 (q:∀(row:List (Nat×Nat)) (l:Nat) (μ':Mem),To K lay key row->(row.getD (row.length-1) (0,0)).2=p0.1->row.length<=P.length->tm μ μ'->μ.length<=l->μ'[l]?=some (.lst (row.map pD))->Q (.loc l) μ'):WF zij [.loc d,.int p0.1] μ Q:=by
 have hpl:=t.len;refine z7b rfl ?_;show WS zjj [some (.loc d),some (.int p0.1),none] μ _ _ _ _;unfold zjj;refine zJ (zob (zHh (zC (zJ ?_))));have hi0:=(List.getElem?_eq_some_iff.mp hp0).1
 have hdk:∀{μ':Mem},tm μ μ'->zxc μ' (.loc d)=some (dkP P):=λ{μ'} kp=>by
  cases e:μ[d]? with
  |none=>simp[e]at hd
  |some o=>
   have e':=kp _ _ e;simp only[zxc,e]at hd;simp only[zxc,e'];exact hd
 refine zBm (JRo P lay p0 d μ) (m:=i0+1) (by omega)
  ⟨[],some p0.1,rfl,.app,zE,by simp;omega,.inr ⟨i0,p0,rfl,hp0,rfl,.inl ⟨rfl,rfl⟩⟩⟩ ?_
 rintro m δ ν ⟨acc,f,rfl,kp,g,hlen,h⟩;refine zX (zy (zh rfl (w_c (zmj (zpq _) ⟨_,rfl,λh1=>?_,λh1=>?_⟩))))
 ·rcases h with ⟨rfl,_⟩|⟨i,p,rfl,ep,rfl,h⟩
  ·cases h1
  ·have hlook:=zPw t.nd (mem_of_getElem? ep)
   have hnew:Path P lay i ((p.2.1,p.1)::acc.reverse):=by
    rcases h with ⟨rfl,rfl⟩|⟨_,i',p',hi',hpa,ep',hf,hl⟩
    ·exact .one ep
    ·exact .up hpa ep' ep hi' hf hl
   have hac:∃k,(acc++[(p.2.1,p.1)])[0]?=some (k,p0.1):=by
    rcases h with ⟨rfl,rfl⟩|⟨⟨k,hk⟩,_⟩
    ·exact⟨p.2.1,rfl⟩
    ·refine⟨k,?_⟩;rw[yq (List.getElem?_eq_some_iff.mp hk).1];exact hk
   unfold zWl;refine zJ (zUi (zJl (zh rfl ⟨_,_,rfl,g,?_⟩)));refine zj (zfh (zj (zy (zy (zh rfl (zh rfl (zux (hdk kp) hlook (w_c (zwc rfl rfl (zj (zh rfl (zC (zC ?_)))))))))))));refine zjn g (by rw[length_map];omega) ?_;have kp2:tm μ (ν.set μ.length (.lst (acc.map pD++[pD (p.2.1,p.1)]))):=λa o e=>z7 (kp a o e) (yT (zQ e));refine zob (zy (zy (zh rfl (zh rfl (zux (hdk kp2) hlook (w_c (zwc rfl rfl ?_)))))));obtain⟨_,_,h3⟩:=t.ok i p ep;rcases h3 with ⟨h3,_⟩|⟨j,q',hj,eq',h3,h4⟩
   ·refine⟨0,by omega,acc++[(p.2.1,p.1)],none,?_,kp2,?_,by rw[length_append];simp;omega,.inl ⟨rfl,hac,i,p,?_,ep,h3⟩⟩
    ·rw[h3];rfl
    ·rw[zsb g,map_append];rfl
    ·rw[List.reverse_append];exact hnew
   ·refine⟨j+1,by omega,acc++[(p.2.1,p.1)],some q'.1,?_,kp2,?_,by rw[length_append];simp;omega,.inr ⟨j,q',rfl,eq',rfl,.inr ⟨hac,i,p,hj,?_,ep,h3,h4⟩⟩⟩
    ·rw[h3];rfl
    ·rw[zsb g,map_append];rfl
    ·rw[List.reverse_append];exact hnew
 ·rcases h with ⟨rfl,⟨k,hk⟩,i,p,hpa,ep,hn⟩|⟨i,p,rfl,ep,rfl,h⟩
  ·refine zLb (zOz (zh rfl ⟨_,_,rfl,g,?_⟩));refine q acc.reverse _ _ (hpa.ok t hkey ep hn) ?_ (by rw[List.length_reverse];omega) kp.to kp.len ?_
   ·have h0:=(List.getElem?_eq_some_iff.mp hk).1
    have:acc.reverse[acc.reverse.length-1]?=some (k,p0.1):=by
     rw[List.length_reverse,List.getElem?_reverse (by omega),show acc.length-1-(acc.length-1)=0 by omega];exact hk
    rw[getD_eq_getElem?_getD,this];rfl
   ·rw[zE,List.map_reverse]
  ·cases h1
def zBz(P:PT)(lay:List (Option Nat))(key:Nat):List Nat:=(yv lay.length).filter λo=>decide (o=key)||decide (∃p∈P,lay.getD o none=some p.1)
def zkm{lay:List (Option Nat)}{key:Nat}(w:Wb L R K)(hlen:lay.length=K.length)(hL:L<=1000)(hn:μ[n]?=some (.lst (lay.map onD)))(hk:key<K.length)(hkey:lay.getD key none=none)
 (q1:∀(row:List (Nat×Nat)) (l:Nat) (μ':Mem),To K lay key row->lay.count (some (row.getD (row.length-1) (0,0)).2)<R.getD (row.getD (row.length-1) (0,0)).2 0->row.length<=10->tm μ μ'->μ.length<=l->μ'[l]?=some (.lst (row.map pD))->Q (.tup [.str "put",.loc l]) μ')
 (q2:∀(S:List Nat)(l:Nat)(μ':Mem),S.Sublist (yv K.length)->key∈S->TD R K lay S->tm μ μ'->μ.length<=l->μ'[l]?=some (.lst (nat S))->Q (.tup [.str "full",.loc l]) μ'):WF zde [wn R K,.loc n,.int key] μ Q:=by
 have hrl:=w.rl;have hkl:=w.kl;refine z7b rfl ?_;show WS zhj [some (wn R K),some (.loc n),some (.int key),none,none,none] μ _ _ _ _;unfold zhj;refine zJ (zob (zD (zj (zh rfl (zj (zh rfl (zj (zh rfl (zC ?_)))))))));refine zMp w hlen hL hn hk λP d μ1 t hhome hcl k1 hd g1=>?_;refine zJ (zob (zD (zj (zh rfl (zj (zh rfl (zC ?_)))))));refine zJw w (k1 _ _ hn) λl2 μ2 k2 hl2 g2=>?_;have g1':=k2 _ _ g1;have hpl:=t.len;refine zJ (z7h (zFx (zh rfl ⟨_,_,rfl,g1',?_⟩)));have hd1:d<μ1.length:=zQ g1;have kf:tm μ (μ2.set d (.dcf (dkP P))):=λi o e=>z7 ((k1.trans k2) i o e) (by have:=zQ e;omega);have gd:=zsb (o':=tE.dcf (dkP P)) g1';have gl:=z7 (o':=tE.dcf (dkP P)) g2 (by omega:d≠l2);generalize μ2.set d (.dcf (dkP P))=μ3 at kf gd gl;rw[z9q];refine z7c (λm δ ν=>∃x:Option D,δ=[some (wn R K),some (.loc n),some (.int key),some (.loc d),some (.loc l2),x]/\ν=μ3/\∀(i:Nat) p,i<m->P[i]?=some p->R.getD p.1 0<=lay.count (some p.1)) ⟨_,rfl,rfl,by simp⟩ (λ_ _ _ _=>rfl) ?_ ?_
 ·rintro m x δ ν hx ⟨y,rfl,rfl,hb⟩;rw[yh,yh]at hx
  cases ep:P[m]? with
  |none=>rw[ep]at hx;cases hx
  |some p=>
   rw[ep]at hx;cases hx;have hlt:=t.lt p (mem_of_getElem? ep);refine zTg ?_;unfold zsl;refine zoh (zX (zy (zy (zh rfl (zh rfl (zwc (zL gl) (zmc (v:=.int ((R.getD p.1 0:Int)-(lay.count (some p.1):Nat))) (by unfold zWx;simp[hlt])) (w_c (zrm ⟨_,rfl,λh1=>?_,λh1=>?_⟩))))))))
   ·have h1:=of_decide_eq_true h1;refine zLb (zfh (zj (w_c (zj (zD (zj (zh rfl (zj (zh rfl (zC ?_))))))))));refine zGv t hrl.2 hkey (zIi gd) ep λrow l μ4 hrow hlast hrl4 k4 hl4 g4=>zC ?_;refine q1 row l μ4 hrow ?_ (by omega) (kf.trans k4) (by have:=kf.len;omega) g4;rw[hlast];omega
   ·have h1:=of_decide_eq_false h1;refine zBb ⟨_,rfl,rfl,λi p' hi e'=>?_⟩
    by_cases hm:i=m
    ·subst hm;rw[ep]at e';cases e';omega
    ·exact hb i p' (by omega) e'
 ·rintro δ ν ⟨y,rfl,rfl,hb⟩;rw[nat,length_map,length_map]at hb
  have hfull:∀p∈P,R.getD p.1 0<=lay.count (some p.1):=λp hp=>by
   obtain⟨i,hi,rfl⟩:=List.mem_iff_getElem.mp hp;exact hb i P[i] hi (by simp[hi])
  refine zLb (zfh (zj (w_c (zj (zCr ?_)))));refine zAh (zh rfl (.inr (.inr ⟨n,_,rfl,kf _ _ hn,zgd (by rw[z4c,length_map];omega),?_⟩)));rw[zBe onD lay none];refine znk (λ(k:Nat) =>.tup [.int k,onD (lay.getD k none)]) (yv lay.length) (λ(k:Nat)=>D.int k) (λo=>decide (o=key)||decide (∃p∈P,lay.getD o none=some p.1)) (λμ' k'=>znb (kf _ _ hn) k') (λk hk' μ' kp=>?_) (λμ' kp=>?_)
  ·have gd':=kp _ _ gd;refine zWr (zih (zTg (zih (zTg (zep ?_)))));unfold z1l zrl;refine z3o (zX (zy (zh rfl (zh rfl (zKh ⟨_,rfl,λh1=>?_,λh1=>?_⟩)))))
   ·have h1:k≠key:=by
     intro e;rw[e]at h1;simp at h1
    rw[decide_eq_false h1,Bool.false_or]
    cases e:lay.getD k none with
    |none=>
     refine zX (zy (zh rfl (zh rfl (zkz (zIi gd') ?_ ⟨_,rfl,?_,kp,λhb=>(by cases hb)⟩))))
     ·rw[List.all_eq_true];intro x hx;obtain⟨p,hp,rfl⟩:=List.mem_map.mp hx;have:=t.lt p hp;exact decide_eq_true (by simp only;omega)
     ·symm
      refine decide_eq_false ?_;rintro⟨p,_,e⟩;cases e
    |some h=>
     refine zX (zy (zh rfl (zh rfl (znw (zIi gd') ⟨_,rfl,?_,kp,λhb=>zh rfl ⟨rfl,kp⟩⟩))));rw[zPk];refine decide_eq_decide.mpr ?_;rw[mem_map];constructor
     ·rintro⟨p,hp,rfl⟩;exact⟨p,hp,rfl⟩
     ·rintro⟨p,hp,e⟩;cases e;exact⟨p,hp,rfl⟩
   ·have h1:k=key:=by
     have:=beq_iff_eq.mp h1;omega
    rw[decide_eq_true h1,Bool.true_or];exact⟨rfl,kp,λ_=>zh rfl ⟨rfl,kp⟩⟩
  ·refine zC (q2 (zBz P lay key) _ _ ?_ ?_ ?_ (kf.trans kp.to) (kf.trans kp).len zE)
   ·rw[<-hlen];exact filter_sublist
   ·exact List.mem_filter.mpr ⟨by simpa[hlen] using hk,by simp⟩
   ·have hin:∀k∈zBz P lay key,∀h∈K.getD k [],∃p∈P,p.1=h:=λk hkm h hh=>by
     have hm:=(List.mem_filter.mp hkm).2;rw[Bool.or_eq_true,decide_eq_true_iff,decide_eq_true_iff]at hm;rcases hm with rfl|⟨p,hp,e⟩
     ·obtain⟨p,hp,e⟩:=List.mem_map.mp (hhome h hh);exact⟨p,hp,e⟩
     ·obtain⟨p',hp',e'⟩:=List.mem_map.mp (hcl p hp k e h hh);exact⟨p',hp',e'⟩
    refine⟨λk hkm=>?_,λk hkm h hh=>?_,λk hkm h hh o e=>?_⟩
    ·have:=(List.mem_filter.mp hkm).1;rw[<-hlen];simpa using this
    ·obtain⟨p,hp,rfl⟩:=hin k hkm h hh;exact hfull p hp
    ·obtain⟨p,hp,rfl⟩:=hin k hkm h hh;refine List.mem_filter.mpr ⟨?_,?_⟩
     ·rw[mem_range];refine Nat.lt_of_not_le λhle=>?_;rw[getD_eq_getElem?_getD,xl hle]at e;cases e
     ·rw[Bool.or_eq_true];exact .inr (decide_eq_true ⟨p,hp,e⟩)
def zJy{ys:List D}(h:μ[n]?=some (.lst xs))(h2:μ[m]?=some (.lst ys))(hl:xs.length+ys.length<=1000000)(q:Q .non (μ.set n (.lst (xs++ys)))):WM z5x (.loc n) [.loc m] μ Q:=⟨_,_,by simp[h,h2,hl]<;>rfl,q⟩
def z0z{lay:List (Option Nat)}(h:k<lay.length):atI (lay.map onD) (k:Int)=some (onD (lay.getD k none)):=zmc (by simp[h])
def zbs{p:Nat×Nat}(e:row[i]?=some p):atI (row.map pD) (i:Int)=some (pD p):=zmc (by rw[yh,e];rfl)
def z7s{lay:List (Option Nat)}{key r:Nat}{p:Nat×Nat}(w:Wb L R K)(hlen:lay.length=K.length)(hn:μ[n]?=some (.lst (lay.map onD)))(hr:μ[r]?=some (.lst (row.map pD)))(hrl:row.length<=1000)(ok:To K lay key row)(e:row[i]?=some p)
 (q:∀μ',tm μ μ'->Q (.bl true) μ'):WF z5h [wn R K,.loc n,.loc r,.int i] μ Q:=by
 have hm:=ok.mem p (mem_of_getElem? e);have hi:=(List.getElem?_eq_some_iff.mp e).1;refine z7b rfl ?_;show WS z2h [some (wn R K),some (.loc n),some (.loc r),some (.int i),none] μ _ _ _ _;unfold z2h;refine zJ (zob (zy (zy (zh rfl (zh rfl (zwc (zL hr) (zbs e) (w_c (zwc rfl rfl ?_))))))));refine zJ (zoh (z3o (zX (zy (zh rfl (w_c (zrm ⟨_,rfl,λh1=>?_,λh1=>?_⟩)))))))
 case refine_2=>have:=of_decide_eq_true h1;omega
 refine zX (zy (zh rfl (zD (zj (zh rfl (zC (zWg (zL hn) (zrm ⟨_,rfl,λh2=>?_,λh2=>zBb ?_⟩))))))))
 ·have:=of_decide_eq_true h2;rw[length_map]at this;omega
 refine zJ (zoh (z3o (zX (zy (zy (zy (zh rfl (zh rfl (zwc (zL hr) (zbs e) (w_c (zwc rfl rfl (zy (zy (zh rfl (w_c (z2g (zh rfl (zIt hm.1 (zyq rfl ⟨_,rfl,λh3=>?_,λh3=>?_⟩)))))))))))))))))))
 case refine_2=>rw[decide_eq_true hm.2.1]at h3;cases h3
 refine zX (zy (zy (zy (zh rfl (zh rfl (zwc (zL hr) (zbs e) (w_c (zwc rfl rfl (zy (zh rfl (zh rfl (zwc (zL hn) (z0z (by omega)) (zAt (α:=Option Nat) (some p.2) (lay.getD p.1 none) ⟨_,rfl,λh4=>?_,λh4=>zBb ?_⟩)))))))))))))
 ·exact absurd (of_decide_eq_true h4).symm hm.2.2
 refine zLb (zy (zh rfl (zCr (z4f (zfy (zh rfl (znr (zAl (zh rfl ⟨_,rfl,_,_,rfl,hr,.inr (.inr ⟨_,_,rfl,zE,?_,?_⟩)⟩)))))))))
 ·rw[zJm];exact zgd (by rw[length_take,length_map];omega)
 rw[zJm,<-List.map_take];refine z0f pD (row.take i) (λx =>.int (x.1:Nat)) (λμ' k=>znb zE k) (λx hx μ' kp=>?_) (λμ' kp=>?_)
 ·unfold zKj;exact zTg (zy (zh rfl (w_c (zwc rfl rfl ⟨rfl,kp,kp⟩))))
 ·have e2:((row.take i).map λx=>D.int (x.1:Nat))=nat ((row.take i).map (·.1)):=(zGi _ _).symm;rw[e2];refine zyq (zL zE) ?_
  have hnot:p.1∉(row.take i).map (·.1):=by
   intro hmem;have nd:=ok.nd;rw[<-take_append_drop i row,map_append,nodup_append]at nd;refine nd.2.2 _ hmem _ ?_ rfl;refine List.mem_map.mpr ⟨p,?_,rfl⟩;rw[drop_eq_getElem_cons hi,(List.getElem?_eq_some_iff.mp e).2];exact mem_cons_self
  rw[decide_eq_false hnot];exact q _ (tm.app.trans (kp.to))
def zis{lay:List (Option Nat)}{key r:Nat}{p:Nat×Nat}(hlen:lay.length=K.length)(hn:μ[n]?=some (.lst (lay.map onD)))(hr:μ[r]?=some (.lst (row.map pD)))(ok:To K lay key row)(e:row[i]?=some p)
 (q:Q (.bl true) μ):WF z8h [.loc n,.int key,.loc r,.int i] μ Q:=by
 refine z7b rfl ?_;show WS zfi [some (.loc n),some (.int key),some (.loc r),some (.int i)] μ _ _ _ _;unfold zfi;refine zJ (zoh (zX (zy (zh rfl (w_c (zKh ⟨_,rfl,λh1=>?_,λh1=>zBb ?_⟩))))))
 ·obtain⟨h,r0,e0⟩:=ok.first
  refine zLb (zy (zy (zy (zh rfl (w_c (zwc (zL hr) (zbs (i:=0) (p:=(key,h)) (by rw[e0];rfl)) (w_c (zwc rfl rfl (zh rfl (zKh ?_))))))))));rw[beq_self_eq_true];exact q
 ·cases i with
  |zero=>exact absurd h1 (by decide)
  |succ j=>
   have hj:j<row.length:=by
    have:=(List.getElem?_eq_some_iff.mp e).1;omega
   have ej:row[j]?=some row[j]:=by simp[hj]
   have hl:=ok.link j _ _ ej e;have hm:=ok.mem p (mem_of_getElem? e);refine zLb (zy (zy (zh rfl (zy (zy (zh rfl (zh rfl (zwc (zL hr) (zbs e) (w_c (zwc rfl rfl (zwc (zL hn) (z0z (by omega)) (zy (zy (zh rfl (zy (zh rfl (w_c (zex ?_))))))))))))))))));rw[show((j+1:Nat):Int)-1=(j:Int) by omega];refine zwc (zL hr) (zbs ej) (w_c (zwc rfl rfl (zAt (α:=Option Nat) (lay.getD p.1 none) (some (row[j]).2) ?_)));rw[decide_eq_true hl];exact q
def z9o{lay:List (Option Nat)}(r:tQ R K lay):zYl R K (lay.map onD)=.non:=by
 unfold zYl;rw[zeg λk hk=>?_,zeg λh hh=>?_]
 ·unfold zws;rw[zyu];have:=r.room h;exact decide_eq_false (by omega)
 ·unfold zkn
  have e:(lay.map onD).getD k .non=onD (lay.getD k none):=by
   have hk':k<lay.length:=by rw[r.len];exact hk
   simp[hk']
  rw[e]
  cases e2:lay.getD k none with
  |none=>rfl
  |some h=>
   have hm:h∈K.getD k []:=r.home k h (by
    have hk':k<lay.length:=by rw[r.len];exact hk
    simp[hk']at e2;simp[hk',e2])
   show(_ && !((nat (K.getD k [])).any λy=>eqF y (.int h)))=false;rw[znp,decide_eq_true hm,Bool.not_true,Bool.and_false]
def z7y(lay:List (Option Nat))(k h:Nat):(lay.set k (some h)).map onD=(lay.map onD).set k (.int h):=List.map_set
def zmt{lay:List (Option Nat)}{key r:Nat}(w:Wb L R K)(hL:L<=1000)(rt:tQ R K lay)(hn:μ[n]?=some (.lst (lay.map onD)))(hr:μ[r]?=some (.lst (row.map pD)))(hrl:row.length<=1000)(ok:To K lay key row)(hkey:lay.getD key none=none)(hroom:lay.count (some (row.getD (row.length-1) (0,0)).2)<R.getD (row.getD (row.length-1) (0,0)).2 0)
 (q:∀(l:Nat)(μ':Mem),tm μ μ'->μ.length<=l->μ'[l]?=some (.lst ((zye lay row).map onD))->Q (.loc l) μ'):WF zgj [wn R K,.loc n,.int key,.loc r] μ Q:=by
 have hkl:=w.kl;have hlen:=rt.len;refine z7b rfl ?_;show WS zvj [some (wn R K),some (.loc n),some (.int key),some (.loc r),none,none,none] μ _ _ _ _;unfold zvj;refine zJ (zob (zD (zj (zh rfl (zC (zdu (zL hn) ?_))))));refine zJ (z7h (zAh (zh rfl (.inr (.inr ⟨r,_,rfl,zlb hr,?_⟩)))));refine z7c (λm δ ν=>∃x y:Option D,δ=[some (wn R K),some (.loc n),some (.int key),some (.loc r),some (.loc μ.length),x,y]/\tm μ ν/\ν[μ.length]?=some (.lst ((zye lay (row.take m)).map onD))) ⟨_,_,rfl,.app,zE⟩ (λm δ ν ⟨_,_,_,k,_⟩=>znb hr k) ?_ ?_
 ·rintro m x δ ν hx ⟨a,b,rfl,kp,g⟩;obtain⟨p,ep,rfl⟩:=zCl hx;have hm:=ok.mem p (mem_of_getElem? ep);have htk:row.take (m+1)=row.take m++[p]:=by rw[take_succ,ep];rfl
  refine zWr (zih (zTg (zih (zTg (zep ?_)))));unfold zZl;refine zJ (zoh (zni (zgt (zX (zD (zj (zh rfl (zj (zh rfl (zj (zh rfl (zj (zh rfl (zC ?_))))))))))))));refine z7s w hlen (kp _ _ hn) (kp _ _ hr) hrl ok ep λμ1 k1=>⟨_,rfl,λ_=>?_,λh=>(by cases h)⟩
  refine zX (zD (zj (zh rfl (zj (zh rfl (zj (zh rfl (zj (zh rfl (zC ?_))))))))));refine zis hlen ((kp.trans k1) _ _ hn) ((kp.trans k1) _ _ hr) ok ep ⟨_,rfl,λh=>(by cases h),λ_=>zBb ?_⟩;refine zKm (zy (zh rfl (w_c (zwc rfl rfl ?_))));have g1:=k1 _ _ g;refine zEx (zh rfl (zy (zh rfl (w_c (zwc rfl rfl ⟨_,_,_,rfl,rfl,g1,?_,?_⟩)))))
  ·rw[length_map,zNh];omega
  ·refine⟨_,_,rfl,λi o e=>z7 (k1 _ _ (kp i o e)) (yT (zQ e)),?_⟩;rw[zsb g1,htk,zBl,z7y];rfl
 ·rintro δ ν ⟨a,b,rfl,kp,g⟩;rw[z4c,length_map,take_length]at g
  have hpos:0<row.length:=by
   obtain⟨h,q,e⟩:=ok.first
   rw[e];simp
  refine zJ (zoh (z3o (zX (zy (zD (zj (zh rfl (zC (zWg (zL (kp _ _ hr)) (w_c (zKh ⟨_,rfl,λh1=>?_,λh1=>?_⟩)))))))))))
  case refine_2=>
   have:=beq_iff_eq.mp h1;rw[length_map]at this;omega
  have hr2:=zXf rt ok hkey hroom;refine zX (zy (zD (zj (zh rfl (zj (zh rfl (zC ?_)))))));refine ziv w (z1t _) (by rw[length_map,zNh];exact hlen) g λμ1 k1=>?_;rw[z9o hr2];refine w_c (zmj rfl ⟨_,rfl,λh=>(by cases h),λ_=>zBb (zLb (zh rfl ?_))⟩);exact q _ _ (kp.trans k1) (yk _) (k1 _ _ g)
def zdh(S:List Nat)(k:Nat):List Nat:=S.filter λo=>!decide (o=k)
def zTc(R:List Nat)(K:List (List Nat))(S:List Nat):Option Nat:=S.find? λk=>zNe R K (zdh S k)
def zDi(h:zTc R K S=some k):k∈S:=List.mem_of_find?_eq_some h
def zDn(h:zTc R K S=some k):zNe R K (zdh S k)=true:=List.find?_some (p:=λk=>zNe R K (zdh S k)) h
def zaf(S:List Nat)(k:Nat):(zdh S k).Sublist S:=filter_sublist
def z5j(h:S.Nodup)(k:Nat):S.erase k=zdh S k:=by
 rw[h.erase_eq_filter];unfold zdh;refine filter_congr λx _=>?_
 by_cases e:x=k<;>simp[e]
def zhk(h:S.Nodup){k:Nat}(hk:k∈S):(zdh S k).length+1=S.length:=by
 rw[<-z5j h,List.length_erase_of_mem hk];have:=List.length_pos_of_mem hk;omega
def z4k(R:List Nat)(K:List (List Nat)):Nat->List Nat->List Nat
 |0,S=>S
 |n+1,S=>match zTc R K S with
  |none=>S
  |some k=>z4k R K n (zdh S k)
def zuo(R:List Nat)(K:List (List Nat))(S:List Nat):List Nat:=z4k R K S.length S
def zcs(h:zTc R K S=none):zuo R K S=S:=by
 unfold zuo
 cases S with
 |nil=>rfl
 |cons a S=>rw[length_cons,z4k,h]
def z9r(hd:S.Nodup)(h:zTc R K S=some k):zuo R K S=zuo R K (zdh S k):=by
 have h1:=zhk hd (zDi h);unfold zuo
 conv=>lhs;rw[<-h1,z4k,h]
def zRn{R:List Nat}{K:List (List Nat)}:∀(n:Nat)(S:List Nat),(z4k R K n S).Sublist S
 |0,S=>List.Sublist.refl _
 |n+1,S=>by
  unfold z4k
  cases zTc R K S with
  |none=>exact List.Sublist.refl _
  |some k=>exact(zRn n _).trans (zaf S k)
def z4n{R:List Nat}{K:List (List Nat)}:∀(n:Nat)(S:List Nat),S.Nodup->S.length<=n->zTc R K (z4k R K n S)=none
 |0,S,_,h=>by
  have:S=[]:=List.length_eq_zero_iff.mp (by omega);subst this;rfl
 |n+1,S,hd,h=>by
  unfold z4k
  cases e:zTc R K S with
  |none=>exact e
  |some k=>
   have:=zhk hd (zDi e);exact z4n n _ (hd.sublist (zaf S k)) (by omega)
def zDk{R:List Nat}{K:List (List Nat)}:∀(n:Nat)(S:List Nat),zNe R K S=true->zNe R K (z4k R K n S)=true
 |0,S,h=>h
 |n+1,S,h=>by
  unfold z4k
  cases e:zTc R K S with
  |none=>exact h
  |some k=>exact zDk n _ (zDn e)
def zHk(w:Wb L R K)(hn:μ[n]?=some (.lst (nat S)))(hS:∀k∈S,k<K.length)(hl:S.length<=1000)
 (q:∀μ',tm μ μ'->Q (onD (zTc R K S)) μ'):WF zre [wn R K,.loc n] μ Q:=by
 refine z7b rfl ?_;show WS zVf [some (wn R K),some (.loc n),none] μ _ _ _ _;unfold zVf;refine zJ (z7h (z4f (zh rfl (.inr (.inr ⟨n,_,rfl,hn,?_⟩)))));refine z7c (λm δ μ'=>∃a:Option D,δ=[some (wn R K),some (.loc n),a]/\tm μ μ'/\∀k∈S.take m,zNe R K (zdh S k)=false) ⟨_,rfl,.refl,by simp⟩ (λm δ μ' ⟨a,_,k,_⟩=>znb hn k) ?_ ?_
 ·rintro m x δ μ1 hx ⟨a,rfl,k1,hb⟩;rw[yh]at hx
  cases hy:S[m]? with
  |none=>rw[hy]at hx;cases hx
  |some kk=>
   rw[hy]at hx;cases hx;have ht:S.take (m+1)=S.take m++[kk]:=by rw[take_succ,hy];rfl
   refine zTg ?_;unfold z3h;refine zoh (zX (zD (zj (zh rfl (zj (zCr ?_))))));refine z4f (zh rfl (.inr (.inr ⟨n,_,rfl,k1 _ _ hn,zgd (by rw[length_map];omega),?_⟩)));refine znk (λ(k:Nat)=>D.int k) S (λ(k:Nat)=>D.int k) (λo=>!decide (o=kk)) (λμ' k'=>znb (k1 _ _ hn) k') (λj hj μ' kp=>?_) (λμ2 k2=>?_)
   ·repeat walk_at "w"
    refine⟨?_,kp,λ_=>?_⟩
    ·congr 1
     by_cases e:j=kk
     ·subst e;simp
     ·simp[e];omega
    ·unfold zzh;exact zh rfl ⟨rfl,kp⟩
   ·refine zC ?_;have hls:(zdh S kk).length<=S.length:=(zaf S kk).length_le;refine zpr w (S:=zdh S kk) zE (λk hk=>hS k ((zaf S kk).subset hk)) (by omega) λμ3 k3=>⟨_,rfl,λh1=>?_,λh1=>?_⟩
    ·refine zLb (zh rfl ?_);have:=q μ3 (k1.trans (k2.to.trans k3))
     have e:zTc R K S=some kk:=by
      unfold zTc;rw[List.find?_eq_some_iff_append];refine⟨h1,S.take m,S.drop (m+1),?_,λa ha=>by rw[hb a ha];rfl⟩;have hlt:=(List.getElem?_eq_some_iff.mp hy).1
      have e1:S.drop m=kk::S.drop (m+1):=by
       rw[drop_eq_getElem_cons hlt,(List.getElem?_eq_some_iff.mp hy).2]
      rw[<-e1,take_append_drop]
     rw[e]at this;exact this
    ·refine zBb ⟨_,rfl,k1.trans (k2.to.trans k3),λk hk=>?_⟩;rw[ht]at hk;rcases List.mem_append.mp hk with hk|hk
     ·exact hb k hk
     ·rw[List.mem_singleton.mp hk];exact h1
 ·rintro δ μ1 ⟨a,rfl,k1,hb⟩;rw[length_map,take_length]at hb;refine zLb (w_c ?_);have:=q μ1 k1
  have e:zTc R K S=none:=by
   unfold zTc;rw[List.find?_eq_none];intro k hk;rw[hb k hk];exact yC
  rw[e]at this;exact this
def z5r(w:Wb L R K)(hn:μ[n]?=some (.lst (nat S)))(hS:∀k∈S,k<K.length)(hl:S.length<=1000)(hd:S.Nodup)
 (q:∀(l:Nat)(μ':Mem),tm μ μ'->μ.length<=l->μ'[l]?=some (.lst (nat (zuo R K S)))->Q (.loc l) μ'):WF zyh [wn R K,.loc n] μ Q:=by
 refine z7b rfl ?_;show WS zph [some (wn R K),some (.loc n),none,none] μ _ _ _ _;unfold zph;refine zJ (zob (zD (zj (zh rfl (zC (zdu (zL hn) ?_))))));refine zJ (zob (zD (zj (zh rfl (zj (zh rfl (zC ?_)))))));refine zHk w zE hS hl λμ1 k1=>?_;refine zJ ?_;refine zBm (λm δ μ'=>∃T:List Nat,m=T.length/\δ=[some (wn R K),some (.loc n),some (.loc μ.length),some (onD (zTc R K T))]/\tm μ μ'/\μ'[μ.length]?=some (.lst (nat T))/\T.Sublist S/\zuo R K S=zuo R K T) (m:=S.length) (by omega) ⟨S,rfl,rfl,tm.app.trans k1,k1 _ _ zE,List.Sublist.refl _,rfl⟩ ?_;rintro m δ μ' ⟨T,rfl,rfl,k2,g2,hT,ht⟩;have hTd:=hd.sublist hT;have hTl:=hT.length_le
 repeat walk_at "w"
 refine zmj (zpq _) ⟨_,rfl,λh1=>?_,λh1=>?_⟩
 ·cases e:zTc R K T with
  |none=>rw[e]at h1;cases h1
  |some k=>
   have hk:=zDi e;have hle:=zhk hTd hk;unfold zSk;refine zJ (zUi (zJl (zh rfl ⟨_,_,rfl,g2,?_⟩)));refine zj (zh rfl (zC ?_));refine zst g2 hk ?_;rw[z5j hTd];refine zob (zD (zj (zh rfl (zj (zh rfl (zC ?_))))));have g3:=zsb (o':=tE.lst (nat (zdh T k))) g2;refine zHk w g3 (λx hx=>hS x (hT.subset ((zaf T k).subset hx))) (by omega) λμ3 k3=>?_;exact⟨(zdh T k).length,by omega,zdh T k,rfl,rfl,λi o e'=>k3 _ _ (z7 (k2 _ _ e') (yT (zQ e'))),k3 _ _ g3,(zaf T k).trans hT,by rw[ht,z9r hTd e]⟩
 ·refine zLb (zh rfl ?_)
  have e:zTc R K T=none:=by
   cases e:zTc R K T with
   |none=>rfl
   |some k=>rw[e]at h1;cases h1
  refine q _ _ k2 (yk _) ?_;rw[ht,zcs e];exact g2
def zav{lay:List (Option Nat)}{key:Nat}(ok:To K lay key row){k:Nat}(h:k∈row.map (·.1)):k=key\/(lay.getD k none).isSome=true:=by
 obtain⟨p,hp,rfl⟩:=List.mem_map.mp h;obtain⟨i,hi,rfl⟩:=List.mem_iff_getElem.mp hp
 cases i with
 |zero=>
  obtain⟨h,r,e⟩:=ok.first
  subst e;exact .inl rfl
 |succ j=>
  have:=ok.link j row[j] row[j+1] (by simp[show j<row.length by omega]) (by simp[hi]);exact .inr (by rw[this];rfl)
def zmk{lay:List (Option Nat)}{key:Nat}(hlen:lay.length=K.length)(ok:To K lay key row){k:Nat}(h:k=key\/(lay.getD k none).isSome=true):((zye lay row).getD k none).isSome=true:=by
 by_cases hm:k∈row.map (·.1)
 ·obtain⟨p,hp,rfl⟩:=List.mem_map.mp hm;rw[zzj ok.nd hp (by rw[hlen];exact(ok.mem p hp).1)];rfl
 ·rcases h with rfl|h
  ·obtain⟨h,r,e⟩:=ok.first
   subst e;exact absurd (by simp) hm
  ·rw[zCe hm];exact h
def zTk{lay:List (Option Nat)}{key:Nat}(ok:To K lay key row){k:Nat}(h:lay.getD k none=none)(hk:k≠key):(zye lay row).getD k none=none:=by
 rw[zCe λhm=>?_]
 ·exact h
 ·rcases zav ok hm with e|e
  ·exact hk e
  ·rw[h]at e;cases e
def zit{s:yy}(h:PyData.strOk s=true):toP μ 8 (.str s)=some (.str s):=by
 show(bif PyData.strOk s then some (PyData.str s) else none)=_;rw[h];rfl
def zXd{a b:yy}(q:Q (.bl (Yp (.str a) (.str b))) μ)(ha:PyData.strOk a=true:=by decide +kernel)(hb:PyData.strOk b=true:=by decide +kernel):W2 gEq (.str a) (.str b) μ Q:=zdA (zit ha) (zit hb) q
structure Done(R:List Nat)(K:List (List Nat))(lay0 lay:List (Option Nat))(ks C:List Nat):Prop where
 right:tQ R K lay
 SA:TD R K lay C
 old:∀k,(lay0.getD k none).isSome=true->(lay.getD k none).isSome=true
 non:∀k,k∉ks->lay0.getD k none=none->lay.getD k none=none
 all:∀k∈ks,(lay.getD k none).isSome=true\/(k∈C/\lay.getD k none=none)
 out:C≠[]->∃k∈C,k∈ks/\lay.getD k none=none
def Done.put{lay:List (Option Nat)}{key:Nat}(d:Done R K lay0 lay ks C)(hk:key∉ks)(hkey:lay.getD key none=none)(ok:To K lay key row)
 (hroom:lay.count (some (row.getD (row.length-1) (0,0)).2)<R.getD (row.getD (row.length-1) (0,0)).2 0):Done R K lay0 (zye lay row) (ks++[key]) C:=by
 have hlen:=d.right.len;refine⟨zXf d.right ok hkey hroom,d.SA.push d.right ok hkey hroom,λk h=>zmk hlen ok (.inr (d.old k h)),λk h h0=>?_,λk h=>?_,λhC=>?_⟩
 ·rw[mem_append,not_or]at h;exact zTk ok (d.non k h.1 h0) (by simpa using h.2)
 ·rcases List.mem_append.mp h with h'|h
  ·rcases d.all k h' with h1|⟨h1,h2⟩
   ·exact .inl (zmk hlen ok (.inr h1))
   ·exact .inr ⟨h1,zTk ok h2 (by rintro rfl;exact hk h')⟩
  ·rw[List.mem_singleton.mp h];exact .inl (zmk hlen ok (.inl rfl))
 ·obtain⟨k,h1,h2,h3⟩:=d.out hC;exact⟨k,h1,mem_append_left _ h2,zTk ok h3 (by rintro rfl;exact hk h2)⟩
def Done.full{lay:List (Option Nat)}{key:Nat}(d:Done R K lay0 lay ks C)(hkey:lay.getD key none=none)(hS:key∈S)(s:TD R K lay S):Done R K lay0 lay (ks++[key]) (C++S):=by
 refine⟨d.right,d.SA.app s,d.old,λk h h0=>?_,λk h=>?_,λhC=>⟨key,mem_append_right _ hS,by simp,hkey⟩⟩
 ·rw[mem_append,not_or]at h;exact d.non k h.1 h0
 ·rcases List.mem_append.mp h with h|h
  ·rcases d.all k h with h1|⟨h1,h2⟩
   ·exact .inl h1
   ·exact .inr ⟨mem_append_left _ h1,h2⟩
  ·rw[List.mem_singleton.mp h];exact .inr ⟨mem_append_right _ hS,hkey⟩
def zjs(m:Nat)(C:List Nat):List Nat:=(yv m).filter λk=>decide (k∈C)
def zUh(h:∀k∈C,k<m)(k:Nat):k∈zjs m C↔k∈C:=by
 unfold zjs;rw[mem_filter,mem_range,decide_eq_true_iff];exact⟨λq=>q.2,λq=>⟨h k q,q⟩⟩
def zhy{φ:FE}(hC:∀k∈C,k<m)(hm:m<64)(hl:C.length<=4000)(h:WE φ δ μ λx μ1=>x=.loc n/\μ1[n]?=some (.lst (nat C))/\Q (.loc μ1.length) (μ1++[.lst (nat (zjs m C))])):WE (ztr φ) δ μ Q:=by
 have hmem:∀i:Int,i∈(zjs m C).map (λ(k:Nat)=>(k:Int))↔i∈C.map (λ(k:Nat)=>(k:Int)):=λi=>by
  simp only[mem_map];constructor
  ·rintro⟨k,hk,rfl⟩;exact⟨k,(zUh hC k).mp hk,rfl⟩
  ·rintro⟨k,hk,rfl⟩;exact⟨k,(zUh hC k).mpr hk,rfl⟩
 have hpw:((zjs m C).map (λ(k:Nat)=>(k:Int))).Pairwise (· < ·):=by
  rw[pairwise_map];exact(List.pairwise_lt_range.filter _).imp λh=>by omega
 have hp:=znn hmem hpw;have hsort:=zWm hmem hpw;have hsl:(zjs m C).length<=m:=by unfold zjs;simpa using(filter_sublist (l:=yv m) (p:=λk=>decide (k∈C))).length_le
 refine z3v (h.mono ?_);rintro x μ1 ⟨rfl,g,q⟩;refine⟨_,C.map (λ(k:Nat)=>(k:Int)),rfl,by rw[g,map_map];rfl,by rw[length_map];omega,by rw[hp.length_eq,length_map];omega,?_⟩;rw[hsort,map_map];exact q
abbrev JLm(R:List Nat)(K:List (List Nat))(lay0:List (Option Nat))(ks:List Nat)(n m:Nat)(μ:Mem):Nat->M.Loc->Mem->Prop:=λi δ ν=>∃(lay:List (Option Nat)) (C:List Nat) (l:Nat) (x y:Option D),δ=[some (wn R K),some (.loc l),some (.loc m),some (.loc μ.length),x,y]/\Done R K lay0 lay (ks.take i) C/\C.length<=i*K.length/\tm μ ν/\(l=n/\lay=lay0\/μ.length<l)/\ν[μ.length]?=some (.lst (nat C))/\ν[l]?=some (.lst (lay.map onD))
def zpp(w:Wb L R K)(hL:L<=60)(rt:tQ R K lay0)(hn:μ[n]?=some (.lst (lay0.map onD)))(hm:μ[m]?=some (.lst (nat ks)))(hks:∀k∈ks,k<K.length)(hnd:ks.Nodup)(hnon:∀k∈ks,lay0.getD k none=none)
 (q:∀(lay:List (Option Nat)) (C:List Nat) (l l2:Nat) (μ':Mem),Done R K lay0 lay ks C->tm μ μ'->(l=n/\lay=lay0\/μ.length<=l)->μ.length<=l2->l≠l2->μ'[l]?=some (.lst (lay.map onD))->μ'[l2]?=some (.lst (nat (zjs K.length C)))->Q (.tup [.loc l,.loc l2]) μ'):WF zQf [wn R K,.loc n,.loc m] μ Q:=by
 have hkl:=w.kl
 have hkn:ks.length<=K.length:=by
  have:=zwd hnd (m:=yv K.length) λx hx=>by simpa using hks x hx
  simpa using this
 refine z7b rfl ?_;show WS zBf [some (wn R K),some (.loc n),some (.loc m),none,none,none] μ _ _ _ _;unfold zBf;refine zJ (zob (zHh (zC (zJ (z7h (z4f (zh rfl (.inr (.inr ⟨m,_,rfl,zlb hm,?_⟩)))))))));have hnl:=zQ hn
 refine z7c (JLm R K lay0 ks n m μ)
  ⟨lay0,[],n,_,_,rfl,⟨rt,.nil,λ_ h=>h,λ_ _ h=>h,by simp,λh=>absurd rfl h⟩,by simp,.app,.inl ⟨rfl,rfl⟩,zE,zlb hn⟩ (λi δ ν ⟨_,_,_,_,_,_,_,_,k,_⟩=>znb hm k) ?_ ?_
 ·rintro i z δ ν hz ⟨lay,C,l,x,y,rfl,d,hCl,kp,hl,gC,gl⟩;rw[yh]at hz
  cases ek:ks[i]? with
  |none=>rw[ek]at hz;cases hz
  |some key=>
   rw[ek]at hz;cases hz;have hkm:=mem_of_getElem? ek;have hil:=(List.getElem?_eq_some_iff.mp ek).1;have htk:ks.take (i+1)=ks.take i++[key]:=by rw[take_succ,ek];rfl
   have hkt:key∉ks.take i:=by
    intro hmem;have nd:=hnd;rw[<-take_append_drop i ks,nodup_append]at nd;refine nd.2.2 _ hmem _ ?_ rfl;rw[drop_eq_getElem_cons hil,(List.getElem?_eq_some_iff.mp ek).2];exact mem_cons_self
   have hkey:=d.non key hkt (hnon key hkm);have hCb:i*K.length<=60*60:=Nat.mul_le_mul (by omega) (by omega);refine zTg ?_;unfold zri;refine zJ (zob (zD (zj (zh rfl (zj (zh rfl (zj (zh rfl (zC ?_)))))))));refine zkm w d.right.len (by omega) gl (hks key hkm) hkey (λrow r μ1 ok hroom hrl k1 hr gr=>?_) (λS r μ1 hS hkS s k1 hr gr=>?_)
   ·refine zoh (zX (zy (zy (zh rfl (w_c (zwc rfl rfl (w_c (zXd ⟨_,rfl,λ_=>?_,λh=>absurd h (by decide +kernel)⟩))))))));refine zob (zD (zj (zh rfl (zj (zh rfl (zj (zh rfl (zj (zy (zh rfl (w_c (zwc rfl rfl (zC ?_)))))))))))));refine zmt w (by omega) d.right (k1 _ _ gl) gr (by omega) ok hkey hroom λl' μ2 k2 hl' g2=>?_;refine⟨zye lay row,C,l',_,_,rfl,by rw[htk];exact d.put hkt hkey ok hroom,by rw[Nat.succ_mul];omega,kp.trans (k1.trans k2),.inr ?_,(k1.trans k2) _ _ gC,g2⟩;have:=(kp.trans k1).len;have:=k1.len;have:=zQ gC;omega
   ·refine zoh (zX (zy (zy (zh rfl (w_c (zwc rfl rfl (w_c (zXd ⟨_,rfl,λh=>?_,λ_=>?_⟩))))))))
    ·exact absurd h (by decide +kernel)
    have hSl:S.length<=K.length:=by simpa using hS.length_le
    refine zUi (zJl (zh rfl ⟨_,_,rfl,k1 _ _ gC,?_⟩));refine zj (zy (zh rfl (w_c (zwc rfl rfl (zC ?_)))));refine zJy (k1 _ _ gC) gr (by simp only[length_map];omega) ?_;have hlt:=zQ gC;refine⟨lay,C++S,l,_,_,rfl,by rw[htk];exact d.full hkey hkS s,by rw[Nat.succ_mul,length_append];omega,λa o e=>z7 (k1 _ _ (kp a o e)) (yT (zQ e)),hl,?_,z7 (k1 _ _ gl) (by rcases hl with ⟨h,_⟩|h<;>omega)⟩;rw[zsb (k1 _ _ gC),zSg]
 ·rintro δ ν ⟨lay,C,l,x,y,rfl,d,hCl,kp,hl,gC,gl⟩;rw[length_map,take_length]at d;rw[length_map]at hCl;have hCb:ks.length*K.length<=60*60:=Nat.mul_le_mul (by omega) (by omega);refine zLb (zfh (zj (zh rfl (zj ?_))));refine zhy (n:=μ.length) (m:=K.length) d.SA.keys (by omega) (by omega) (zh rfl ⟨rfl,gC,zC ?_⟩);have:=zQ gl;exact q lay C l _ _ d kp.to (by rcases hl with h|h;exact .inl h;exact .inr (by omega)) kp.len (by omega) (zlb gl) zE
def z9n(w:Wb L R K)(hL:L<=60)
 (q:∀(lay:List (Option Nat)) (C:List Nat) (l l2:Nat) (μ':Mem),Done R K (yD K.length none) lay (yv K.length) C->tm μ μ'->μ.length<=l->μ.length<=l2->l≠l2->μ'[l]?=some (.lst (lay.map onD))->μ'[l2]?=some (.lst (nat (zjs K.length C)))->Q (.tup [.loc l,.loc l2]) μ'):WF z9d [wn R K] μ Q:=by
 have hkl:=w.kl;refine z7b rfl ?_;show WS z4d [some (wn R K)] μ _ _ _ _;unfold z4d;refine zLb (zD (zj (zh rfl (zj (zy (zHh (zj (w_c (zC (zD (zj (zy (zh rfl (w_c (z2g (zC (zWg rfl ?_)))))))))))))))));refine z6y zE (by rw[length_map];omega) (by omega) (by simp) ?_;refine zj (zom (zD (zj (zy (zh rfl (w_c (z2g (zC (zWg rfl ⟨_,rfl,?_,zC ?_⟩)))))))))
 ·rw[length_map];omega
 have e1:(yD (((K.map tn).length:Nat):Int).toNat [D.non]).flatten=(yD K.length (none:Option Nat)).map onD:=by
  rw[YD,length_map,List.map_replicate,List.flatten_replicate_singleton]
 rw[e1,YD,length_map]
 have hrep:∀k,(yD K.length (none:Option Nat)).getD k none=none:=λk=>by
  rw[getD_eq_getElem?_getD,YW]
  split<;>rfl
 refine zpp (ks:=yv K.length) w hL ⟨by simp,λk h e=>?_,λh=>?_⟩ (zlb zE) zE (by simp) List.nodup_range (λk _=>hrep k) λlay C l l2 μ' d k hl hl2 hne g g2=>?_
 ·rw[YW]at e
  split at e
  ·cases e
  ·cases e
 ·rw[List.count_replicate];simp
 ·have k':=(tm.to (tm.to (tm.app (μ:=μ) (g:=[.lst [.non]])))).trans k;refine q lay C l l2 μ' d k' ?_ ?_ hne g g2
  ·rcases hl with ⟨rfl,_⟩|hl
   ·simp
   ·simp at hl;omega
  ·simp at hl2;omega
def zyk(w:Wb L R K)(hL:L<=60)
 (q1:∀(lay:List (Option Nat)) (l:Nat) (μ':Mem),tQ R K lay->(∀k<K.length,(lay.getD k none).isSome=true)->tm μ μ'->μ.length<=l->μ'[l]?=some (.lst (lay.map onD))->Q (.tup [.str "fits",.loc l]) μ')
 (q2:∀(T:List Nat)(l:Nat)(μ':Mem),T.Sublist (yv K.length)->zNe R K T=true->zTc R K T=none->tm μ μ'->μ.length<=l->μ'[l]?=some (.lst (nat T))->Q (.tup [.str "crowd",.loc l]) μ'):WF z7d [wn R K] μ Q:=by
 have hkl:=w.kl;refine z7b rfl ?_;show WS zlj [some (wn R K),none] μ _ _ _ _;unfold zlj;refine zJ (zob (zD (zj (zh rfl (zC ?_)))));refine z9n w hL λlay C l l2 μ1 d k1 hl hl2 hne g g2=>?_;refine zJ (zoh (zX (zy (zy (zh rfl (w_c (zwc rfl rfl (zHh (zC ?_)))))))));refine zZx (α:=Nat) (zjs K.length C) [] (zlb g2) zE ⟨_,rfl,λh1=>?_,λh1=>zBb ?_⟩
 ·have h1:=of_decide_eq_true h1;refine zLb (zfh (zj (w_c (zj (zy (zh rfl (w_c (zwc rfl rfl (zC ?_)))))))));refine q1 lay l _ d.right (λk hk=>?_) k1.to hl (zlb g);rcases d.all k (by simpa using hk) with h|⟨h,_⟩
  ·exact h
  ·have:=(zUh d.SA.keys k).mpr h;rw[h1]at this;cases this
 ·have h1:=of_decide_eq_false h1
  have hC:C≠[]:=by
   rintro rfl;exact h1 (by unfold zjs;simp)
  obtain⟨k0,hk0,_,hn0⟩:=d.out hC;have hsub:(zjs K.length C).Sublist (yv K.length):=filter_sublist;have hcr:=zIg w (d.SA.congr (zUh d.SA.keys)) d.right.len ((zUh d.SA.keys k0).mpr hk0) hn0;have hsl:(zjs K.length C).length<=K.length:=by simpa using hsub.length_le
  have hnd:=List.nodup_range.sublist hsub;refine zLb (zfh (zj (w_c (zj (zD (zj (zh rfl (zj (zy (zh rfl (w_c (zwc rfl rfl (zC ?_)))))))))))));refine z5r w (zlb g2) (λk hk=>by simpa using hsub.subset hk) (by omega) hnd λl3 μ3 k3 hl3 g3=>zC ?_;exact q2 _ l3 μ3 ((zRn _ _).trans hsub) (zDk _ _ hcr) (z4n _ _ hnd (yk _)) (k1.to.trans k3) (by have:=k1.len;simp at hl3;omega) g3
def zIe(R:List Nat)(K:List (List Nat)):Prop:=∃lay,tQ R K lay/\∀k<K.length,(lay.getD k none).isSome=true
def zSh(w:Wb L R K)(hT:T.Sublist (yv K.length))(hc:zNe R K T=true):¬zIe R K:=by
 rintro⟨lay,r,h⟩;have hTk:∀k∈T,k<K.length:=λk hk=>by simpa using hT.subset hk
 have:=zTs w r (List.nodup_range.sublist hT) hTk λk hk=>h k (hTk k hk);rw[hc]at this;cases this
def zHp(h:μ[n]?=some (.lst (nat S)))(hp:T.Perm S)(hT:T.Pairwise (· < ·))(hl:S.length<64)(q:Q (.loc μ.length) (μ++[.lst (nat T)])):WF zrh [.loc n] μ Q:=by
 have e1:nat S=(S.map λ(k:Nat)=>(k:Int)).map D.int:=by rw[map_map];rfl
 have e2:nat T=(T.map λ(k:Nat)=>(k:Int)).map D.int:=by rw[map_map];rfl
 have e3:z7k (S.map λ(k:Nat)=>(k:Int))=T.map λ(k:Nat)=>(k:Int):=by
  refine zPc ((mergeSort_perm _ _).trans (hp.symm.map _)) (zjh _) ?_;rw[pairwise_map];exact hT.imp λh=>by omega
 refine⟨_,_,?_,q⟩;simp only[zrh,h];rw[e1,zDh,yr,length_map,decide_eq_true hl,cond_true,e3,<-e2]
def dkN(kvs:List (Nat×Nat)):List (Int×D):=kvs.map λp=>((p.1:Int),D.int (p.2:Nat))
def z6h(k:Nat):∀kvs:List (Nat×Nat),z3c (dkN kvs) (k:Int)=(kvs.lookup k).map λh=>D.int (h:Nat)
 |[]=>rfl
 |(j,h)::kvs=>by
  have ih:=z6h k kvs;unfold z3c dkN at ih ⊢;rw[map_cons,Xk,lookup_cons]
  by_cases hj:j=k
  ·subst hj;simp
  ·have h1:(decide (((j:Nat):Int)=(k:Int)))=false:=decide_eq_false (by omega);have h2:(k==j)=false:=beq_eq_false_iff_ne.mpr (yH hj);simp only[h1,h2];exact ih
abbrev fsD(r:D)(m:Nat):List (yy×D):=[("kept_rule",r),("nest_of",.loc m)]
structure Sh(μ:Mem)(n m:Nat)(r:D)(kvs:List (Nat×Nat)):Prop where
 at_:μ[n]?=some (.ins "Shelf" (fsD r m))
 dc:μ[m]?=some (.dct (dkN kvs))
 nd:(kvs.map (·.1)).Nodup
 few:kvs.length<=30
def Sh.keep{μ:Mem}(s:Sh μ n m r kvs)(k:tm μ μ'):Sh μ' n m r kvs:=⟨k _ _ s.at_,k _ _ s.dc,s.nd,s.few⟩
section
variable {μ:Mem}{n m:Nat}{r:D}{kvs:List (Nat×Nat)}{Q:D->Mem->Prop}
def zWf(s:Sh μ n m r kvs)(q:Q r μ):WF zrb [.loc n] μ Q:=by
 refine z7b rfl ?_;show WS zLe [some (.loc n)] μ _ _ _ _;unfold zLe;exact zLb (z8m (zh rfl ⟨n,_,r,rfl,s.at_,rfl,q⟩))
def zle(r:D)(m:Nat):(fsD r m).lookup ("nest_of":yy)=some (D.loc m):=by
 have h1:(("nest_of":yy) == "kept_rule")=false:=by decide +kernel
 have h2:(("nest_of":yy) == "nest_of")=true:=by decide +kernel
 simp only[fsD,lookup_cons,h1,h2]
def z9c(r:D)(m:Nat):(fsD r m).lookup ("all_there":yy)=none:=by
 have h1:(("all_there":yy) == "kept_rule")=false:=by decide +kernel
 have h2:(("all_there":yy) == "nest_of")=false:=by decide +kernel
 simp only[fsD,lookup_cons,h1,h2,lookup_nil]
def ziw(s:Sh μ n m r kvs)(q:Q (.bl (kvs.lookup k).isSome) μ):WF ztd [.loc n,.int k] μ Q:=by
 refine z7b rfl ?_;show WS zSf [some (.loc n),some (.int k)] μ _ _ _ _;unfold zSf;refine zLb (zy (zh rfl (z8m (zh rfl ⟨n,_,.loc m,rfl,s.at_,zle r m,znw (zhe s.dc) ?_⟩))));rw[z6h,Option.isSome_map];exact q
def zoq(s:Sh μ n m r kvs)(q:Q (onD (kvs.lookup k)) μ):WF zrc [.loc n,.int k] μ Q:=by
 refine z7b rfl ?_;show WS z2d [some (.loc n),some (.int k)] μ _ _ _ _;unfold z2d;refine zLb (zSt (z8m (zh rfl ⟨n,_,.loc m,rfl,s.at_,zle r m,m,_,rfl,s.dc,zj (zh rfl (zC (z3z (zhe s.dc) ?_)))⟩)));rw[z6h]
 cases e:kvs.lookup k with
 |none=>rw[e]at q;exact q
 |some h=>rw[e]at q;exact q
structure tZ(kvs:List (Nat×Nat))(S:List Nat):Prop where
 pm:S.Perm (kvs.map (·.1))
 pw:S.Pairwise (· < ·)
def tZ.ex(nd:(kvs.map (·.1)).Nodup):∃S,tZ kvs S:=by
 refine⟨(kvs.map (·.1)).mergeSort (λa b=>decide (a<=b)),mergeSort_perm _ _,?_⟩;have h1:=List.pairwise_mergeSort (le:=λa b:Nat=>decide (a<=b)) (λa b c h1 h2=>by simp at h1 h2 ⊢;omega) (λa b=>by simp;omega) (kvs.map (·.1));have h2:((kvs.map (·.1)).mergeSort (λa b=>decide (a<=b))).Pairwise (·≠·):=(mergeSort_perm _ _).nodup_iff.mpr nd;refine(h1.and h2).imp λh=>?_;have:=of_decide_eq_true h.1;have:=h.2;omega
def tZ.len(k:tZ kvs S):S.length=kvs.length:=by rw[k.pm.length_eq,length_map]
def zAb(s:Sh μ n m r kvs)(k:tZ kvs S)(q:Q (.loc μ.length) (μ++[.lst (nat S)])):WF zF [.loc n] μ Q:=by
 have hf:=s.few;refine z7b rfl ?_;show WS zvc [some (.loc n)] μ _ _ _ _;unfold zvc;refine zLb (zD (zj (z8m (zh rfl ⟨n,_,.loc m,rfl,s.at_,zle r m,zC ?_⟩))));have e0:(dkN kvs).map (·.1)=(kvs.map (·.1)).map λ(k:Nat)=>(k:Int):=by unfold dkN;rw[map_map,map_map];rfl
 have e2:nat S=(S.map λ(k:Nat)=>(k:Int)).map D.int:=by rw[map_map];rfl
 have e3:z7k ((kvs.map (·.1)).map λ(k:Nat)=>(k:Int))=S.map λ(k:Nat)=>(k:Int):=by
  refine zPc ((mergeSort_perm _ _).trans (k.pm.symm.map _)) (zjh _) ?_;rw[pairwise_map];exact k.pw.imp λh=>by omega
 have e4:(dkN kvs).length<64:=by unfold dkN;rw[length_map];omega
 refine⟨_,_,?_,q⟩;simp only[zTq,zhe s.dc,yr];rw[decide_eq_true e4,cond_true,e0,e3,<-e2]
def tZ.look(k:tZ kvs S){x:Nat}(h:x∈S):∃v,kvs.lookup x=some v:=by
 have h1:x∈kvs.map (·.1):=k.pm.mem_iff.mp h;obtain⟨p,hp,rfl⟩:=List.mem_map.mp h1
 cases e:kvs.lookup p.1 with
 |some v=>exact⟨v,rfl⟩
 |none=>
  rw[List.lookup_eq_none_iff]at e;exact absurd (e p hp) (by simp)
def zQt(s:Sh μ n m r kvs)(k:tZ kvs S)(q:∀l μ',tm μ μ'->μ.length<=l->μ'[l]?=some (.lst (S.map λx=>onD (kvs.lookup x)))->Q (.loc l) μ'):WF zBc [.loc n] μ Q:=by
 have hf:=s.few;have hl:=k.len;refine z7b rfl ?_;show WS zGd [some (.loc n)] μ _ _ _ _;unfold zGd;refine zLb (zCr (z4f (zD (zVb (zh rfl ⟨n,_,rfl,s.at_,z9c r m,zC (zAb s k (.inr (.inr ⟨_,_,rfl,zE,zgd (by rw[length_map];omega),?_⟩)))⟩)))));refine z0f (λ(x:Nat)=>D.int x) S (λx=>onD (kvs.lookup x)) (λμ' k=>znb zE k) (λx hx μ' kp=>?_) (λμ' kp=>?_)
 ·have s':=s.keep (tm.app.trans kp);obtain⟨v,hv⟩:=k.look hx;refine zTg ?_;unfold z2f;exact zy (z8m (zh rfl ⟨n,_,.loc m,rfl,s'.at_,zle r m,zh rfl (zux (zhe s'.dc) (by rw[z6h,hv];rfl) ⟨by rw[hv],kp,kp⟩)⟩))
 ·exact q _ _ (tm.app.trans kp.to) (yG (by simp) kp.len) zE
end
def hmN(n k:Nat)(t:Nat×Nat):Nat:=(t.1*k+t.2)%10007%n
def pr2(t:Nat×Nat):D:=.tup [.int (t.1:Nat),.int (t.2:Nat)]
abbrev rlN(R:List Nat)(ts:List (Nat×Nat)):D:=.tup [tn R,.tup (ts.map pr2)]
structure Rl(R:List Nat)(ts:List (Nat×Nat)):Prop where
 rl:1<=R.length/\R.length<=10
 tl:2<=ts.length/\ts.length<=3
 tn:∀t∈ts,t.1<=10006/\t.2<=10006
def zGu(h:Rl R ts)(q:∀μ',tm μ μ'->Q (tn (ts.map (hmN R.length k))) μ'):WF zYm [rlN R ts,.int k] μ Q:=by
 have hrl:=h.rl;have htl:=h.tl;refine z7b rfl ?_;show WS z9m [some (rlN R ts),some (.int k),none] μ _ _ _ _;unfold z9m
 repeat walk_at "w"
 refine zwc rfl (show atI [tn R,.tup (ts.map pr2)] 0=some (tn R) from rfl) ?_
 repeat walk_at "w"
 refine z4f ?_
 repeat walk_at "w"
 refine zwc rfl (show atI [tn R,.tup (ts.map pr2)] 1=some (.tup (ts.map pr2)) from rfl) (.inl ⟨_,rfl,zgd (by rw[length_map];omega),?_⟩);refine z0f pr2 ts (λt=>D.int (hmN R.length k t:Nat)) (λ_ _=>rfl) (λt ht μ' kp=>?_) (λμ' kp=>?_)
 ·have hb:=h.tn t ht;refine zTg ?_;unfold zrn
  repeat walk_at "w"
  refine zwc (x:=pr2 t) rfl (show atI [D.int (t.1:Nat),D.int (t.2:Nat)] 0=some (D.int (t.1:Nat)) from rfl) ?_
  repeat walk_at "w"
  refine zfn (zOx (by omega) (by omega)) ?_
  repeat walk_at "w"
  refine zwc (x:=pr2 t) rfl (show atI [D.int (t.1:Nat),D.int (t.2:Nat)] 1=some (D.int (t.2:Nat)) from rfl) ?_
  repeat walk_at "w"
  have e:((nat R).length:Int)=R.length:=by rw[length_map]
  rw[e];refine z2k (by omega) ⟨?_,kp,kp⟩;unfold hmN
  push_cast
  rfl
 ·refine zC (zJj (zL zE) ?_);have e:ts.map (λt=>D.int (hmN R.length k t:Nat))=nat (ts.map (hmN R.length k)):=by rw[zGi]
  rw[e];exact q _ kp.to
abbrev z8d(R:List Nat)(ts:List (Nat×Nat))(S:List Nat):List (List Nat):=S.map λk=>ts.map (hmN R.length k)
def Rl.wb(h:Rl R ts){S:List Nat}{L:Nat}(hS:S.length<=L):Wb L R (z8d R ts S) where
 rl:=h.rl
 kl:=by rw[length_map];exact hS
 kn:=λk hk=>by
  obtain⟨x, -,rfl⟩:=List.mem_map.mp hk;refine⟨by rw[length_map];exact h.tl,λy hy=>?_⟩;obtain⟨t, -,rfl⟩:=List.mem_map.mp hy;exact Nat.mod_lt _ h.rl.1
def zEh(h:Rl R ts)(hl:μ[l]?=some (.lst (nat S)))(hS:S.length<=1000)(q:∀μ',tm μ μ'->Q (wn R (z8d R ts S)) μ'):WF zic [rlN R ts,.loc l] μ Q:=by
 refine z7b rfl ?_;show WS zAj [some (rlN R ts),some (.loc l)] μ _ _ _ _;unfold zAj
 repeat walk_at "w"
 refine zwc rfl (show atI [tn R,.tup (ts.map pr2)] 0=some (tn R) from rfl) ?_
 repeat walk_at "w"
 refine z4f ?_
 repeat walk_at "w"
 refine .inr (.inr ⟨_,_,rfl,hl,zgd (by rw[length_map];omega),?_⟩);refine z0f (λ(x:Nat)=>D.int x) S (λk=>tn (ts.map (hmN R.length k))) (λμ' k=>znb hl k) (λx hx μ' kp=>?_) (λμ' kp=>?_)
 ·refine zTg ?_;unfold zcl
  repeat walk_at "w"
  exact zGu h λμ2 k2=>⟨rfl,kp.trans k2,kp⟩
 ·refine zC (zJj (zL zE) ?_)
  repeat walk_at "w"
  have e:S.map (λk=>tn (ts.map (hmN R.length k)))=(z8d R ts S).map tn:=by rw[map_map];rfl
  rw[e];exact q _ kp.to
section
variable {μ:Mem}{n m:Nat}{R:List Nat}{ts:List (Nat×Nat)}{kvs:List (Nat×Nat)}{Q:D->Mem->Prop}
def zIu(r:D)(m:Nat):(fsD r m).lookup ("laying":yy)=none:=by
 have h1:(("laying":yy) == "kept_rule")=false:=by decide +kernel
 have h2:(("laying":yy) == "nest_of")=false:=by decide +kernel
 simp only[fsD,lookup_cons,h1,h2,lookup_nil]
end
structure WX(F:FX)(ds:List D)(μ:Mem)(Q:D->Mem->Prop):Prop where
 ex:∃d μ',F ds μ=some (.ok d μ')/\Q d μ'
def zvm{F:FX}(h:WA φ δ μ λds μ1=>WX F ds μ1 Q):WE (z0i F φ) δ μ Q:=by
 obtain⟨ds,μ1,e1,d,μ2,e2,q⟩:=h;exact⟨d,μ2,by simp[e1,e2],q⟩
def zkB(nx:M.Loc->Mem->Prop)(rt:D->Mem->Prop)(ex:yy->List (yy×D)->Mem->Prop):Out->Prop
 |.next δ μ=>nx δ μ
 |.ret d μ=>rt d μ
 |.exc c fs μ=>ex c fs μ
 |_=>False
structure WXs(p:FS)(δ:M.Loc)(μ:Mem)(nx:M.Loc->Mem->Prop)(rt:D->Mem->Prop)(ex:yy->List (yy×D)->Mem->Prop):Prop where
 ex:∃o,p δ μ=some o/\zkB nx rt ex o
section
variable {p q:FS}{δ:M.Loc}{μ:Mem}{nx:M.Loc->Mem->Prop}{rt:D->Mem->Prop}{ex:yy->List (yy×D)->Mem->Prop}
def zon(h:WS p δ μ nx rt (λ_ _=>False) λ_ _=>False):WXs p δ μ nx rt ex:=by
 obtain⟨o,e,k⟩:=h
 cases o with
 |next _ _=>exact⟨_,e,k⟩
 |ret _ _=>exact⟨_,e,k⟩
 |brk _ _=>exact k.elim
 |cont _ _=>exact k.elim
 |exc _ _ _=>exact k.elim
def zPd(h:WXs p δ μ (λδ' μ'=>WXs q δ' μ' nx rt ex) rt ex):WXs (zdb p q) δ μ nx rt ex:=by
 obtain⟨o,e,k⟩:=h
 cases o with
 |next δ' μ'=>obtain⟨o2,e2,k2⟩:=k;exact⟨o2,by simp[e,e2],k2⟩
 |ret d μ'=>exact⟨.ret d μ',by simp only[zdb,e],k⟩
 |exc c fs μ'=>exact⟨.exc c fs μ',by simp only[zdb,e],k⟩
 |brk _ _=>exact k.elim
 |cont _ _=>exact k.elim
def z2u{c:FT}(h:WT c δ μ λb μ1=>(b=true->WXs p δ μ1 nx rt ex)/\(b=false->WXs q δ μ1 nx rt ex)):WXs (sIf c p q) δ μ nx rt ex:=by
 obtain⟨b,μ1,e,h1,h2⟩:=h
 cases b with
 |true=>obtain⟨o,e2,k⟩:=h1 rfl;exact⟨o,by simp[e,e2],k⟩
 |false=>obtain⟨o,e2,k⟩:=h2 rfl;exact⟨o,by simp[e,e2],k⟩
end
structure WXr(F:FX)(ds:List D)(μ:Mem)(Q:D->Mem->Prop)(ex:yy->List (yy×D)->Mem->Prop):Prop where
 ex:(∃d μ',F ds μ=some (.ok d μ')/\Q d μ')\/∃c fs μ',F ds μ=some (.exc c fs μ')/\ex c fs μ'
def zVv{F:FX}{N:List yy}{p:FS}{ex:yy->List (yy×D)->Mem->Prop}(hF:F=λds μ=>zoy (p (zU N ds) μ))(h:WXs p (zU N ds) μ (λ_ μ'=>Q .non μ') Q ex):WXr F ds μ Q ex:=by
 subst hF;obtain⟨o,e,k⟩:=h
 cases o with
 |next δ' μ'=>exact⟨.inl ⟨_,_,by rw[e];rfl,k⟩⟩
 |ret d μ'=>exact⟨.inl ⟨_,_,by rw[e];rfl,k⟩⟩
 |exc c fs μ'=>exact⟨.inr ⟨_,_,_,by rw[e];rfl,k⟩⟩
 |brk _ _=>exact k.elim
 |cont _ _=>exact k.elim
def zHA{c f:yy}{φ:FE}(h:WE φ δ μ λx μ1=>∃n fs d,x=.loc n/\μ1[n]?=some (.exc c fs)/\fs.lookup f=some d/\Q d μ1):WE (fAt c f φ) δ μ Q:=by
 obtain⟨x,μ1,e1,n,fs,d,rfl,e2,e3,q⟩:=h;exact⟨d,μ1,by simp only[fAt,e1,yr,e2,if_true,e3],q⟩
abbrev zls(kvs:List (Nat×Nat))(k:Nat):List (Nat×Nat):=kvs.filter λp=>decide (p.1≠k)
def zsx(k:Nat)(kvs:List (Nat×Nat)):zSx (dkN kvs) (k:Int)=dkN (zls kvs k):=by
 unfold zSx dkN zls;rw[List.filter_map]
 congr 1
 refine filter_congr λp _=>?_;show decide (((p.1:Nat):Int)≠(k:Int))=decide (p.1≠k);exact decide_eq_decide.mpr (by omega)
def Sh.ne(s:Sh μ n m r kvs):n≠m:=by
 rintro rfl;have h1:=s.at_;rw[s.dc]at h1;cases h1
def Sh.set{kvs':List (Nat×Nat)}(s:Sh μ n m r kvs)(nd:(kvs'.map (·.1)).Nodup)(few:kvs'.length<=30):Sh (μ.set m (.dct (dkN kvs'))) n m r kvs' where
 at_:=by rw[yK (yH s.ne)];exact s.at_
 dc:=by
  have hm:m<μ.length:=by
   obtain⟨h, -⟩:=List.getElem?_eq_some_iff.mp s.dc;exact h
  rw[yI hm]
 nd:=nd
 few:=few
def Sh.pop(s:Sh μ n m r kvs)(k:Nat):Sh (μ.set m (.dct (dkN (zls kvs k)))) n m r (zls kvs k) :=
 s.set (List.Nodup.sublist (List.filter_sublist.map _) s.nd) (yG List.filter_sublist.length_le s.few)
def z7q{c:yy}{ex:yy->List (yy×D)->Mem->Prop}(h:WA φ δ μ λ_ μ1=>ex c [] μ1):WXs (zQo c φ) δ μ nx rt ex:=by
 obtain⟨ds,μ1,e,k⟩:=h;exact⟨.exc c [] μ1,by simp only[zQo,e,yr],k⟩
def zFq(r:D)(m:Nat):(fsD r m).lookup ("has":yy)=none:=by
 have h1:(("has":yy) == "kept_rule")=false:=by decide +kernel
 have h2:(("has":yy) == "nest_of")=false:=by decide +kernel
 simp only[fsD,lookup_cons,h1,h2,lookup_nil]
def zcw{ex:yy->List (yy×D)->Mem->Prop}(s:Sh μ n m r kvs)(q:∀h:Nat,kvs.lookup k=some h->Q (.int h) (μ.set m (.dct (dkN (zls kvs k)))))(qe:kvs.lookup k=none->ex "NoKey" [] μ):WXr zid [.loc n,.int k] μ Q ex:=by
 refine zVv rfl ?_;show WXs zGf [some (.loc n),some (.int k)] μ _ _ _;unfold zGf;refine zPd (z2u (zni (zX (zD (zVb (zh rfl ⟨n,_,rfl,s.at_,zFq _ m,zj (zh rfl (zC (ziw s ⟨_,rfl,λhb=>?_,λhb=>?_⟩)))⟩))))))
 ·have h0:kvs.lookup k=none:=by
   cases e:kvs.lookup k with
   |none=>rfl
   |some v=>rw[e]at hb;cases hb
  exact z7q (zj (w_c (zC (qe h0))))
 ·cases e:kvs.lookup k with
  |none=>rw[e]at hb;cases hb
  |some v=>
   refine zon (zBb (zon (zLb (zSt (z8m (zh rfl ⟨n,_,.loc m,rfl,s.at_,zle r m,m,_,rfl,s.dc,zj (zh rfl (zC (zFz s.dc (by rw[z6h,e];rfl) ?_)))⟩))))));rw[zsx];exact q v e
def zDx(h:μ[n]?=some (.ins "Shelf" []))(q:Q .non (μ.set n (.ins "Shelf" (fsD r μ.length))++[.dct []])):WF z9b [.loc n,r] μ Q:=by
 have hn:n<μ.length:=(List.getElem?_eq_some_iff.mp h).1;refine z7b rfl ?_;show WS zJc [some (.loc n),some r] μ _ _ _ _;unfold zJc;refine zJ (zfu (zh rfl (zh rfl ⟨n,_,rfl,h,by decide,?_⟩)));refine zfu ?_
 repeat walk_at "w"
 have g1:∀(X Y:tE),(List.set μ n X++[Y])[n]?=some X:=λX Y=>by rw[yq (by rw[length_set];exact hn),yI hn]
 have h2:¬("kept_rule":yy)="nest_of":=by decide +kernel
 have e:∀l:Nat,zNi "nest_of" (.loc l) (zNi "kept_rule" r [])=fsD r l:=λl=>by simp only[zNi,h2,if_false]
 refine⟨n,_,rfl,g1 _ _,by simp[zNi],?_⟩;rw[e,length_set,List.set_append_left _ _ (by rw[length_set];exact hn),List.set_set];exact q
def zYz:Sh ((μ++[tE.ins "Shelf" []]).set μ.length (.ins "Shelf" (fsD r (μ++[tE.ins "Shelf" []]).length))++[.dct []]) μ.length (μ++[tE.ins "Shelf" []]).length r [] where
 at_:=by rw[yq (by simp),yI (by simp)]
 dc:=by rw[yJ (by simp)];simp[dkN]
 nd:=nodup_nil
 few:=YB _
def z3p{c f:yy}{ex:yy->List (yy×D)->Mem->Prop}(h:WA φ δ μ λds μ1=>∃(n:Nat)(ns:List Int),ds=[.loc n]/\μ1[n]?=some (.lst (ns.map D.int))/\z7g ns/\ex c [(f,.loc μ1.length)] (μ1++[.lst (ns.map D.int)])):WXs (zFe c f φ) δ μ nx rt ex:=by
 obtain⟨ds,μ1,e,n,ns,rfl,hm,hs,k⟩:=h;exact⟨Out.exc c [(f,D.loc μ1.length)] (μ1++[tE.lst (ns.map D.int)]),by simp only[zFe,e,yr,hm,zDh,decide_eq_true hs,cond_true],k⟩
def zug(T:List Nat):nat T=(T.map λ(k:Nat)=>(k:Int)).map D.int:=by rw[map_map];rfl
def zbw{xs:List Nat}(nd:xs.Nodup):∃T:List Nat,T.Perm xs/\T.Pairwise (· < ·):=by
 have e:(xs.map λx=>(x,0)).map (·.1)=xs:=by rw[map_map];exact List.map_id' xs
 obtain⟨T,h⟩:=tZ.ex (kvs:=xs.map λx=>(x,0)) (by rw[e];exact nd);exact⟨T,by have:=h.pm;rw[e]at this;exact this,h.pw⟩
def tZ.not(K:tZ kvs S){k:Nat}(h:kvs.lookup k=none):k∉S:=λhm=>by
 obtain⟨v,hv⟩:=K.look hm;rw[h]at hv;cases hv
def tZ.nd(K:tZ kvs S){k:Nat}(h:kvs.lookup k=none):(S++[k]).Nodup:=by
 rw[nodup_append];refine⟨K.pw.imp λh=>yt h,by simp,λa ha b hb e=>K.not h ?_⟩;rw[List.mem_singleton]at hb;subst hb e;exact ha
def zRt{ex:yy->List (yy×D)->Mem->Prop}(h:WA φ δ μ λds μ1=>∃(l:Nat)(T:List Nat),ds=[.loc l]/\μ1[l]?=some (.lst (nat T))/\T.length<=31/\(∀x∈T,x<10^60)/\ex "Full" [("some",.loc μ1.length)] (μ1++[.lst (nat T)])):WXs (zFe "Full" "some" φ) δ μ nx rt ex:=by
 obtain⟨ds,μ1,e,l,T,rfl,hm,hl,hs,k⟩:=h;refine z3p ⟨_,μ1,e,l,T.map λ(k:Nat)=>(k:Int),rfl,by rw[<-zug];exact hm,⟨by rw[length_map];omega,λn hn=>?_⟩,by rw[<-zug];exact k⟩;obtain⟨x,hx,rfl⟩:=List.mem_map.mp hn;have:=hs x hx;omega
def zmA:FS:=(zdb (zyc 3 (zH zde (zo (zH zic (zo (zas "Shelf" "kept_rule" (zq 0)) (zo (zq 2) zO))) (zo (zK z9e (zH zBc (z6b "Shelf" "laying" (zq 0) zO)) (zWk (zo (fC .non) zO))) (zo (zK zQu (zH zHl (zo (zq 2) zO)) (fC (.int 1))) zO))))) (zdb (sIf (zbb (zK gEq (zK gIx (zq 3) (fC (.int 0))) (fC (.str "full")))) (zFe "Full" "some" (zo (zH zrh (zo (fLC 1 [2] (zmh (zK gIx (zq 3) (fC (.int 1)))) (gN 0) zqk zce) zO)) zO)) zfc) (zdb (zyc 4 (fLC 1 [2] (zmh (zK gIx (zq 3) (fC (.int 1)))) (gN 0) zqk zbe)) (zdb (zHm (zmh (zq 4)) (gN 5) z3d) (zuc (zq 4))))))
def z9x{ex:yy->List (yy×D)->Mem->Prop}(s:Sh μ n m r kvs)(K:tZ kvs S)(hS:∀x∈S,x<10^60)(hk:k<10^60)
 (qt:∀h:Nat,kvs.lookup k=some h->ex "Twice" [] μ)
 (qf:∀(T:List Nat)(l:Nat)(μ':Mem),kvs.lookup k=none->S.length=30->T.Perm (S++[k])->T.Pairwise (· < ·)->tm μ μ'->μ.length<=l->μ'[l]?=some (.lst (nat T))->ex "Full" [("some",.loc l)] μ')
 (qb:∀(l:Nat)(μ':Mem),kvs.lookup k=none->S.length<30->tm μ μ'->μ.length<=l->μ'[l]?=some (.lst (nat (S++[k])))->WXs zmA [some (.loc n),some (.int k),some (.loc l),none,none,none] μ' (λ_ μ''=>Q .non μ'') Q ex):WXr zRc [.loc n,.int k] μ Q ex:=by
 have hf:=s.few;have hl:=K.len;refine zVv rfl ?_;show WXs zFf [some (.loc n),some (.int k),none,none,none,none] μ _ _ _;unfold zFf;refine zPd (z2u (zX (zD (zVb (zh rfl ⟨n,_,rfl,s.at_,zFq _ m,zj (zh rfl (zC (ziw s ⟨_,rfl,λhb=>?_,λhb=>?_⟩)))⟩)))))
 ·cases e:kvs.lookup k with
  |none=>rw[e]at hb;cases hb
  |some v=>exact z7q (zj (w_c (zC (qt v e))))
 ·have h0:kvs.lookup k=none:=by
   cases e:kvs.lookup k with
   |none=>rfl
   |some v=>rw[e]at hb;cases hb
  refine zon (zBb ?_);have g1:((μ++[tE.lst (nat S)])++[tE.lst [D.int k]])[μ.length]?=some (.lst (nat S)):=by rw[yq (by simp)];exact zE
  refine zPd (zon (zob (zy (zD (zVb (zh rfl ⟨n,_,rfl,s.at_,z9c _ m,zC (zAb s K (zHh (zj (zh rfl (zC (zGo g1 zE ?_ ?_))))))⟩))))))
  ·simp;omega
  ·have e1:nat S++[D.int k]=nat (S++[k]):=by simp[nat]
   have e2:(nat (S++[k])).length=S.length+1:=by rw[length_map,length_append,length_singleton]
   rw[e1];refine zPd (z2u (zX (zy (zD (zj (zh rfl (zC (zWg (zL zE) (w_c (zrm ⟨_,rfl,λhb=>?_,λhb=>?_⟩))))))))))
   ·have hb':=of_decide_eq_true hb;rw[e2]at hb';obtain⟨T,hT,pT⟩:=zbw (K.nd h0);have lT:=hT.length_eq;rw[length_append,length_singleton]at lT;refine zRt (zj (zD (zj (zh rfl (zC (zHp zE hT pT ?_ (zC ⟨_,T,rfl,zE,?_,λx hx=>?_,?_⟩)))))))
    ·rw[length_append,length_singleton];omega
    ·omega
    ·rcases List.mem_append.mp (hT.mem_iff.mp hx) with h|h
     ·exact hS x h
     ·rw[List.mem_singleton]at h;subst h;exact hk
    ·refine qf T _ _ h0 (by omega) hT pT ?_ ?_ zE
     ·exact(((tm.app.trans tm.app).trans tm.app).trans tm.app).trans tm.app
     ·simp
   ·have hb':=of_decide_eq_false hb;rw[e2]at hb';refine zon (zBb ?_);exact qb _ _ h0 (by omega) ((tm.app.trans tm.app).trans tm.app) (by simp) zE
def zly:FS:=(zdb (sIf (zbb (zK gEq (zK gIx (zq 3) (fC (.int 0))) (fC (.str "full")))) (zFe "Full" "some" (zo (zH zrh (zo (fLC 1 [2] (zmh (zK gIx (zq 3) (fC (.int 1)))) (gN 0) zqk zce) zO)) zO)) zfc) (zdb (zyc 4 (fLC 1 [2] (zmh (zK gIx (zq 3) (fC (.int 1)))) (gN 0) zqk zbe)) (zdb (zHm (zmh (zq 4)) (gN 5) z3d) (zuc (zq 4)))))
def znz{ex:yy->List (yy×D)->Mem->Prop}(h:Rl R ts)(s:Sh μ n m (rlN R ts) kvs)(K:tZ kvs S)(h30:S.length<30)(hl:μ[l]?=some (.lst (nat (S++[k]))))
 (q1:∀(row:List (Nat×Nat)) (l':Nat) (μ':Mem),To (z8d R ts (S++[k])) ((S.map λx=>kvs.lookup x)++[none]) S.length row->((S.map λx=>kvs.lookup x)++[none]).count (some (row.getD (row.length-1) (0,0)).2)<R.getD (row.getD (row.length-1) (0,0)).2 0->row.length<=10->tm μ μ'->μ'[l']?=some (.lst (row.map pD))->WXs zly [some (.loc n),some (.int k),some (.loc l),some (.tup [.str "put",.loc l']),none,none] μ' nx rt ex)
 (q2:∀(T:List Nat)(l':Nat)(μ':Mem),T.Sublist (yv (S.length+1))->S.length∈T->TD R (z8d R ts (S++[k])) ((S.map λx=>kvs.lookup x)++[none]) T->tm μ μ'->μ'[l']?=some (.lst (nat T))->WXs zly [some (.loc n),some (.int k),some (.loc l),some (.tup [.str "full",.loc l']),none,none] μ' nx rt ex) :
 WXs zmA [some (.loc n),some (.int k),some (.loc l),none,none,none] μ nx rt ex:=by
 have hlen:(S++[k]).length=S.length+1:=by simp
 have hK:(z8d R ts (S++[k])).length=S.length+1:=by rw[length_map,hlen]
 have hy:((S.map λx=>kvs.lookup x)++[none]).length=S.length+1:=by simp
 unfold zmA;refine zPd (zon (zob (zD (zj (zD (zj (z8m (zh rfl ⟨n,_,rlN R ts,rfl,s.at_,rfl,zj (zh rfl (zC (zEh h hl (by omega) λμ1 k1=>?_)))⟩))))))));have s1:=s.keep k1;refine zj (zy (zD (zVb (zh rfl ⟨n,_,rfl,s1.at_,zIu _ m,zC (zQt s1 K λl2 μ2 k2 g2 e2=>zHh (zj (w_c (zC (zGo (tm.app _ _ e2) zE ?_ ?_)))))⟩))))
 ·simp;omega
 ·have e3:(S.map λx=>onD (kvs.lookup x))++[D.non]=((S.map λx=>kvs.lookup x)++[none]).map onD:=by rw[map_append,map_map];rfl
  rw[e3];have kk:tm μ ((μ2++[tE.lst [D.non]])++[tE.lst (((S.map λx=>kvs.lookup x)++[none]).map onD)]):=((k1.trans k2).trans tm.app).trans tm.app;refine zj (zy (zD (zj (zh rfl (zC (zWg (zL (kk _ _ hl)) (w_c (zex (zC ?_)))))))));have e4:(((nat (S++[k])).length:Nat):Int)-1=((S.length:Nat):Int):=by rw[length_map,hlen];omega
  rw[e4];refine zkm (L:=30) (h.wb (by omega)) (by rw[hK,hy]) (by omega) zE (by omega) (by simp) (λrow l' μ' ro hr r10 k' _ e'=>?_) (λT l' μ' sb hm sh k' _ e'=>?_)
  ·exact q1 row l' μ' ro hr r10 (kk.trans k') e'
  ·exact q2 T l' μ' (by rw[hK]at sb;exact sb) hm sh (kk.trans k') e'
def z0y{l':Nat}{ex:yy->List (yy×D)->Mem->Prop}(hS:∀x∈S++[k],x<10^60)(nd:(S++[k]).Nodup)(h30:S.length<30)(hl:μ[l]?=some (.lst (nat (S++[k]))))(sb:T.Sublist (yv (S.length+1)))(hm:S.length∈T)(hl':μ[l']?=some (.lst (nat T)))
 (q:∀(V:List Nat)(l2:Nat)(μ':Mem),V.Pairwise (· < ·)->k∈V->V.Perm (T.map λi=>(S++[k]).getD i 0)->tm μ μ'->μ.length<=l2->μ'[l2]?=some (.lst (nat V))->ex "Full" [("some",.loc l2)] μ') :
 WXs zly [some (.loc n),some (.int k),some (.loc l),some (.tup [.str "full",.loc l']),none,none] μ nx rt ex:=by
 have hlen:(S++[k]).length=S.length+1:=by simp
 have lT:T.length<=S.length+1:=by have:=sb.length_le;rw[length_range]at this;exact this
 have hT:∀i∈T,i<(S++[k]).length:=λi hi=>by have:=List.mem_range.mp (sb.subset hi);omega
 have g:∀(i:Nat)(h:i<(S++[k]).length),(S++[k]).getD i 0=(S++[k])[i]:=λi h=>by rw[getD_eq_getElem?_getD,yu h,XF]
 have hc:Yp (.str ("full":yy)) (.str ("full":yy))=true:=by decide +kernel
 unfold zly;refine zPd (z2u (zX (zy (zy (zh rfl (w_c (zwc rfl rfl (w_c (zXd ⟨_,rfl,λ_=>?_,λhb=>?_⟩)))))))))
 ·have ndV:(T.map λi=>(S++[k]).getD i 0).Nodup:=by
   rw[List.Nodup,pairwise_map];refine List.Pairwise.imp_of_mem (λ{a b} ha hb hab e=>?_) (List.Nodup.sublist sb List.nodup_range);have h1:=hT a ha;have h2:=hT b hb;rw[g a h1,g b h2]at e;exact hab ((List.getElem?_inj h1 nd).mp (by rw[yu h1,yu h2,e]))
  obtain⟨V,hV,pV⟩:=zbw ndV;have lV:=hV.length_eq;rw[length_map]at lV;refine zRt (zj (zD (zj (zCr (z4f (zy (zh rfl (w_c (zwc rfl rfl (.inr (.inr ⟨_,_,rfl,hl',zgd (by rw[length_map];omega),?_⟩)))))))))));refine z0f (λ(x:Nat)=>D.int x) T (λi=>D.int ((S++[k]).getD i 0:Nat)) (λμ' k=>znb hl' k) (λi hi μ' kp=>?_) (λμ' kp=>?_)
  ·refine zTg ?_;unfold zce;exact zy (zh rfl (zh rfl (zwc (zL (kp _ _ hl)) (zFh (hT i hi)) ⟨rfl,kp,kp⟩)))
  ·have e:(T.map λi=>D.int ((S++[k]).getD i 0:Nat))=nat (T.map λi=>(S++[k]).getD i 0):=by rw[zGi]
   rw[e];refine zC (zHp zE hV pV (by rw[length_map];omega) (zC ⟨_,V,rfl,zE,by omega,λx hx=>?_,?_⟩))
   ·obtain⟨i,hi,rfl⟩:=List.mem_map.mp (hV.mem_iff.mp hx);have:=hT i hi;rw[g i this];exact hS _ (getElem_mem this)
   ·refine q V _ _ pV ?_ hV ((kp.to.trans tm.app).trans tm.app) ?_ zE
    ·refine hV.mem_iff.mpr (List.mem_map.mpr ⟨S.length,hm,by simp⟩)
    ·have:=kp.len;simp;omega
 ·rw[hc]at hb;cases hb
def zUo(kvs:List (Nat×Nat))(k h:Nat):List (Nat×Nat):=if k∈kvs.map (·.1) then kvs.map (λp=>if p.1=k then(p.1,h) else p) else kvs++[(k,h)]
def zrs(k h:Nat)(kvs:List (Nat×Nat)):zTr (dkN kvs) (k:Int) (.int (h:Nat))=dkN (zUo kvs k h):=by
 have e:((dkN kvs).any λp=>decide (p.1=(k:Int)))=decide (k∈kvs.map (·.1)):=by
  unfold dkN;rw[any_map];apply Bool.eq_iff_iff.mpr;rw[any_eq_true,decide_eq_true_iff,mem_map];constructor
  ·rintro⟨p,hp,h⟩;have h:((p.1:Nat):Int)=k:=of_decide_eq_true h;exact⟨p,hp,by omega⟩
  ·rintro⟨p,hp,h⟩;refine⟨p,hp,decide_eq_true (show((p.1:Nat):Int)=k from ?_)⟩;omega
 unfold zTr zUo;rw[e]
 by_cases hk:k∈kvs.map (·.1)
 ·rw[if_pos (decide_eq_true hk),if_pos hk];unfold dkN;rw[map_map,map_map];refine List.map_congr_left λp _=>?_;show(if((p.1:Nat):Int)=k then _ else _)=_
  by_cases hp:p.1=k
  ·rw[if_pos (by omega)];show _=((((if p.1=k then(p.1,h) else p).1:Nat):Int),D.int ((if p.1=k then(p.1,h) else p).2:Nat));rw[if_pos hp]
  ·rw[if_neg (by omega)];show _=((((if p.1=k then(p.1,h) else p).1:Nat):Int),D.int ((if p.1=k then(p.1,h) else p).2:Nat));rw[if_neg hp]
 ·rw[if_neg (by rw[decide_eq_true_iff];exact hk),if_neg hk];unfold dkN;rw[map_append];rfl
def zBn(kvs:List (Nat×Nat))(k h:Nat):(zUo kvs k h).map (·.1)=if k∈kvs.map (·.1) then kvs.map (·.1) else kvs.map (·.1)++[k]:=by
 unfold zUo
 by_cases hk:k∈kvs.map (·.1)
 ·rw[if_pos hk,if_pos hk,map_map];refine List.map_congr_left λp _=>?_;show(if p.1=k then(p.1,h) else p).1=p.1
  by_cases hp:p.1=k
  ·rw[if_pos hp]
  ·rw[if_neg hp]
 ·rw[if_neg hk,if_neg hk,map_append];rfl
def zAw(nd:(kvs.map (·.1)).Nodup):((zUo kvs k h).map (·.1)).Nodup:=by
 rw[zBn]
 by_cases hk:k∈kvs.map (·.1)
 ·rw[if_pos hk];exact nd
 ·rw[if_neg hk,nodup_append];refine⟨nd,by simp,λa ha b hb e=>hk ?_⟩;rw[List.mem_singleton]at hb;subst hb e;exact ha
def zXv{x:Nat}:x∈(zUo kvs k h).map (·.1)↔x∈kvs.map (·.1)\/x=k:=by
 rw[zBn]
 by_cases hk:k∈kvs.map (·.1)
 ·rw[if_pos hk];exact⟨.inl,λh=>h.elim id λh=>h▸hk⟩
 ·rw[if_neg hk,mem_append,List.mem_singleton]
def zli{k h x:Nat}(hx:x≠k):∀kvs:List (Nat×Nat),(kvs.map (λp=>if p.1=k then(p.1,h) else p)).lookup x=kvs.lookup x
 |[]=>rfl
 |(j,v)::kvs=>by
  have ih:=zli (h:=h) hx kvs;rw[map_cons]
  by_cases hj:j=k
  ·have e:(x==j)=false:=beq_eq_false_iff_ne.mpr (by omega);rw[if_pos hj,lookup_cons,lookup_cons,e];exact ih
  ·rw[if_neg hj,lookup_cons,lookup_cons,ih]
def zki{k h:Nat}:∀kvs:List (Nat×Nat),k∈kvs.map (·.1)->(kvs.map (λp=>if p.1=k then(p.1,h) else p)).lookup k=some h
 |[],hk=>absurd hk (by simp)
 |(j,v)::kvs,hk=>by
  rw[map_cons]
  by_cases hj:j=k
  ·rw[if_pos hj,lookup_cons,hj,beq_self_eq_true]
  ·have e:(k==j)=false:=beq_eq_false_iff_ne.mpr (by omega);rw[if_neg hj,lookup_cons,e];rw[map_cons,mem_cons]at hk;exact zki kvs (hk.resolve_left (yH hj))
def zYh(kvs:List (Nat×Nat))(k h x:Nat):(zUo kvs k h).lookup x=if x=k then some h else kvs.lookup x:=by
 unfold zUo
 by_cases hk:k∈kvs.map (·.1)
 ·rw[if_pos hk]
  by_cases hx:x=k
  ·subst hx;rw[if_pos rfl];exact zki kvs hk
  ·rw[if_neg hx];exact zli hx kvs
 ·rw[if_neg hk,List.lookup_append]
  by_cases hx:x=k
  ·subst hx
   have e:kvs.lookup x=none:=List.lookup_eq_none_iff.mpr λp hp=>by
    apply bne_iff_ne.mpr;intro e;exact hk (List.mem_map.mpr ⟨p,hp,e.symm⟩)
   rw[if_pos rfl,e,Option.none_or,lookup_cons,beq_self_eq_true]
  ·have e:(x==k)=false:=beq_eq_false_iff_ne.mpr hx;rw[if_neg hx,lookup_cons,e];exact Option.or_none
def zVd(kvs row:List (Nat×Nat)):List (Nat×Nat):=row.foldl (λkv p=>zUo kv p.1 p.2) kvs
def zmo(kvs row:List (Nat×Nat))(p:Nat×Nat):zVd kvs (row++[p])=zUo (zVd kvs row) p.1 p.2:=by
 unfold zVd;rw[List.foldl_append];rfl
def z6e(row:List (Nat×Nat)):∀kvs:List (Nat×Nat),(kvs.map (·.1)).Nodup->((zVd kvs row).map (·.1)).Nodup:=by
 induction row with
 |nil=>exact λ_ h=>h
 |cons p row ih=>exact λkvs h=>ih _ (zAw h)
def zUm(row:List (Nat×Nat)):∀(kvs:List (Nat×Nat)) (x:Nat),x∈(zVd kvs row).map (·.1)↔x∈kvs.map (·.1)\/x∈row.map (·.1):=by
 induction row with
 |nil=>intro kvs x;simp[zVd]
 |cons p row ih=>
  intro kvs x;show x∈(zVd (zUo kvs p.1 p.2) row).map (·.1)↔_;rw[ih,zXv,map_cons,mem_cons,or_assoc]
def zeq(nd:(kvs.map (·.1)).Nodup)(h1:∀x∈kvs.map (·.1),x∈A)(h2:∀x∈row.map (·.1),x∈A):(zVd kvs row).length<=A.length:=by
 have h:((zVd kvs row).map (·.1)).length<=A.length:=by
  refine zwd (z6e row kvs nd) λx hx=>?_;rcases(zUm row kvs x).mp hx with h|h
  ·exact h1 x h
  ·exact h2 x h
 rw[length_map]at h;exact h
abbrev z9i(A:List Nat)(row:List (Nat×Nat)):List (Nat×Nat):=row.map λp=>(A.getD p.1 0,p.2)
def zsq(hm:∀p∈row,p.1<A.length):∀p∈z9i A row,p.1∈A:=λp hp=>by
 obtain⟨q,hq,rfl⟩:=List.mem_map.mp hp;have h:=hm q hq;show A.getD q.1 0∈A;rw[getD_eq_getElem?_getD,yu h,XF];exact getElem_mem h
abbrev JPt(n m k l l' lr:Nat)(r:D)(kvs rw_:List (Nat×Nat))(μ:Mem):Nat->M.Loc->Mem->Prop:=λi δ μ'=>∃x5:Option D,δ=[some (.loc n),some (.int k),some (.loc l),some (.tup [.str "put",.loc l']),some (.loc lr),x5]/\KB [m] μ μ'/\Sh μ' n m r (zVd kvs (rw_.take i))
def zuy{l':Nat}{ex:yy->List (yy×D)->Mem->Prop}(s:Sh μ n m r kvs)(K:tZ kvs S)(h30:S.length<30)(hl:μ[l]?=some (.lst (nat (S++[k]))))(hm:∀p∈row,p.1<S.length+1)(r10:row.length<=10)(hl':μ[l']?=some (.lst (row.map pD)))
 (q:∀(lr:Nat)(μ':Mem),KB [m] μ μ'->μ.length<=lr->μ'[lr]?=some (.lst ((z9i (S++[k]) row).map pD))->Sh μ' n m r (zVd kvs (z9i (S++[k]) row))->rt (.loc lr) μ') :
 WXs zly [some (.loc n),some (.int k),some (.loc l),some (.tup [.str "put",.loc l']),none,none] μ nx rt ex:=by
 have hlen:(S++[k]).length=S.length+1:=by simp
 have hm':∀p∈row,p.1<(S++[k]).length:=λp hp=>by have:=hm p hp;omega
 have hc:Yp (.str ("put":yy)) (.str ("full":yy))=false:=by decide +kernel
 have hmm:=zQ s.dc;unfold zly;refine zPd (z2u (zX (zy (zy (zh rfl (w_c (zwc rfl rfl (w_c (zXd ⟨_,rfl,λhb=>?_,λ_=>?_⟩)))))))))
 ·rw[hc]at hb;cases hb
 refine zon (zBb ?_);refine zPd (zon (zob (zCr (z4f (zy (zh rfl (w_c (zwc rfl rfl (.inr (.inr ⟨_,_,rfl,hl',zgd (by rw[length_map];omega),?_⟩))))))))));refine z0f pD row (λp=>pD ((S++[k]).getD p.1 0,p.2)) (λμ' k=>znb hl' k) (λp hp μ' kp=>?_) (λμ' kp=>?_)
 ·refine zTg ?_;unfold zbe;refine zfh (zj (zy (zh rfl (zy (zh rfl (w_c (zwc (x:=pD p) rfl (show atI [D.int (p.1:Nat),D.int (p.2:Nat)] 0=some (D.int (p.1:Nat)) from rfl) (zwc (zL (kp _ _ hl)) (zFh (hm' p hp)) ?_))))))));exact zj (zy (zh rfl (w_c (zwc (x:=pD p) rfl (show atI [D.int (p.1:Nat),D.int (p.2:Nat)] 1=some (D.int (p.2:Nat)) from rfl) (zC ⟨rfl,kp,kp⟩)))))
 ·have e:(row.map λp=>pD ((S++[k]).getD p.1 0,p.2))=(z9i (S++[k]) row).map pD:=by rw[map_map];rfl
  rw[e];have k2:tm μ (μ'++[tE.lst ((z9i (S++[k]) row).map pD)]):=kp.to;have gl:(μ'++[tE.lst ((z9i (S++[k]) row).map pD)])[μ'.length]?=some (.lst ((z9i (S++[k]) row).map pD)):=zE;have hle:=kp.len;have rl:(z9i (S++[k]) row).length<=10:=by rw[length_map];exact r10
  have rm:=zsq hm';generalize z9i (S++[k]) row=rw_ at k2 gl rl rm q;generalize μ'++[tE.lst (rw_.map pD)]=μ2 at k2 gl;generalize μ'.length=lr at gl hle;have hne:lr≠m:=by omega
  refine zon (zJ (z7h (z4f (zh rfl (.inr (.inr ⟨_,_,rfl,gl,?_⟩))))));refine z7c (JPt n m k l l' lr r kvs rw_ μ2) ⟨_,rfl,.refl,s.keep k2⟩ ?_ ?_ ?_
  ·rintro i δ μ3 ⟨x5,rfl,k3,s3⟩;exact Tt.mpr (k3.at_ _ _ (by simp;exact hne) gl)
  ·rintro i x δ μ3 hx ⟨x5,rfl,k3,s3⟩;rw[yh]at hx
   cases hp:rw_[i]? with
   |none=>rw[hp]at hx;cases hx
   |some p=>
    rw[hp]at hx;obtain rfl:pD p=x:=by simpa using hx
    refine zTg ?_;unfold z3d;refine zKm (zy (zh rfl (w_c (zwc (x:=pD p) rfl (show atI [D.int (p.1:Nat),D.int (p.2:Nat)] 1=some (D.int (p.2:Nat)) from rfl) (zbr (z8m (zh rfl ⟨n,_,.loc m,rfl,s3.at_,zle r m,?_⟩)))))));have ht:rw_.take (i+1)=rw_.take i++[p]:=by rw[List.take_add_one,hp];rfl
    have ekv:=zmo kvs (rw_.take i) p;rw[<-ht]at ekv;refine zy (zh rfl (w_c (zwc (x:=pD p) rfl (show atI [D.int (p.1:Nat),D.int (p.2:Nat)] 0=some (D.int (p.1:Nat)) from rfl) ⟨m,_,_,rfl,rfl,s3.dc,?_,_,rfl,k3.trans (KB.refl.set (.inl (by simp))),?_⟩)))
    ·have:=s3.few;unfold dkN;rw[length_map];omega
    ·rw[zrs,<-ekv];refine s3.set (z6e _ _ s.nd) ?_;refine yG (zeq (A:=S++[k]) s.nd (λx hx=>mem_append_left _ (K.pm.mem_iff.mpr hx)) λx hx=>?_) (by omega);obtain⟨y,hy,rfl⟩:=List.mem_map.mp hx;exact rm y (List.mem_of_mem_take hy)
  ·rintro δ μ3 ⟨x5,rfl,k3,s3⟩;rw[length_map,take_length]at s3;have k4:=(KB.of_keep (L:=[m]) k2).trans k3;exact zLb (zh rfl (q lr μ3 k4 hle (k3.at_ _ _ (by simp;exact hne) gl) s3))
abbrev Can(R:List Nat)(ts:List (Nat×Nat))(kvs:List (Nat×Nat))(S:List Nat)(k:Nat)(row:List (Nat×Nat)):Prop:=To (z8d R ts (S++[k])) ((S.map λx=>kvs.lookup x)++[none]) S.length row/\((S.map λx=>kvs.lookup x)++[none]).count (some (row.getD (row.length-1) (0,0)).2)<R.getD (row.getD (row.length-1) (0,0)).2 0
abbrev sV(R:List Nat)(ts kvs:List (Nat×Nat))(S:List Nat)(k:Nat)(V:List Nat):Prop:=∃T:List Nat,T.Sublist (yv (S.length+1))/\S.length∈T/\TD R (z8d R ts (S++[k])) ((S.map λx=>kvs.lookup x)++[none]) T/\V.Perm (T.map λi=>(S++[k]).getD i 0)
def sV.len{V:List Nat}(h:sV R ts kvs S k V):V.length<=S.length+1:=by
 obtain⟨T,sb,_,_,hV⟩:=h;have h1:=hV.length_eq;have h2:=sb.length_le;rw[length_map]at h1;rw[length_range]at h2;omega
def zqw{ex:yy->List (yy×D)->Mem->Prop}(h:Rl R ts)(s:Sh μ n m (rlN R ts) kvs)(K:tZ kvs S)(hS:∀x∈S,x<10^60)(hk:k<10^60)
 (qt:∀h:Nat,kvs.lookup k=some h->ex "Twice" [] μ)
 (qf:∀(V:List Nat)(l:Nat)(μ':Mem),kvs.lookup k=none->V.Pairwise (· < ·)->k∈V->(S.length=30/\V.Perm (S++[k])\/S.length<30/\sV R ts kvs S k V)->tm μ μ'->μ.length<=l->μ'[l]?=some (.lst (nat V))->ex "Full" [("some",.loc l)] μ')
 (q:∀(row:List (Nat×Nat)) (lr:Nat) (μ':Mem),kvs.lookup k=none->S.length<30->Can R ts kvs S k row->KB [m] μ μ'->μ.length<=lr->μ'[lr]?=some (.lst ((z9i (S++[k]) row).map pD))->Sh μ' n m (rlN R ts) (zVd kvs (z9i (S++[k]) row))->Q (.loc lr) μ'):WXr zRc [.loc n,.int k] μ Q ex:=by
 refine z9x s K hS hk qt (λT l μ' h0 h30 hT pT k' g e=>qf T l μ' h0 pT (hT.mem_iff.mpr (by simp)) (.inl ⟨h30,hT⟩) k' g e) λl μ1 h0 h30 k1 g1 e1=>?_
 have hSk:∀x∈S++[k],x<10^60:=λx hx=>by
  rcases List.mem_append.mp hx with hx|hx
  ·exact hS x hx
  ·rw[List.mem_singleton.mp hx];exact hk
 refine znz h (s.keep k1) K h30 e1 (λrow l' μ2 ro hr r10 k2 e2=>?_) (λT l' μ2 sb hm sh k2 e2=>?_)
 ·refine zuy (s.keep (k1.trans k2)) K h30 (k2 _ _ e1) (λp hp=>?_) r10 e2 λlr μ3 k3 g3 e3 s3=>?_
  ·have:=(ro.mem p hp).1;rw[length_map,length_append,length_singleton]at this;exact this
  ·exact q row lr μ3 h0 h30 ⟨ro,hr⟩ ((KB.of_keep (k1.trans k2)).trans k3) (yG (k1.trans k2).len g3) e3 s3
 ·exact z0y hSk (K.nd h0) h30 (k2 _ _ e1) sb hm e2 λV l2 μ3 pV hV pm k3 g3 e3=>qf V l2 μ3 h0 pV hV (.inr ⟨h30,T,sb,hm,sh,pm⟩) ((k1.trans k2).trans k3) (yG (k1.trans k2).len g3) e3
def zLh{x:Nat}(K:tZ kvs S)(ro:To (z8d R ts (S++[k])) ((S.map λx=>kvs.lookup x)++[none]) S.length row):x∈(zVd kvs (z9i (S++[k]) row)).map (·.1)↔x∈S\/x=k:=by
 have hm:∀p∈row,p.1<(S++[k]).length:=λp hp=>by
  have:=(ro.mem p hp).1;rw[length_map]at this;exact this
 rw[zUm];constructor
 ·rintro(h|h)
  ·exact .inl (K.pm.mem_iff.mpr h)
  ·obtain⟨p,hp,rfl⟩:=List.mem_map.mp h;simpa using zsq hm p hp
 ·rintro(h|rfl)
  ·exact .inl (K.pm.mem_iff.mp h)
  ·obtain⟨h,r,e⟩:=ro.first
   refine .inr ?_;rw[e];simp
def z4s{F:FX}{ex:yy->List (yy×D)->Mem->Prop}(h:WA φ δ μ λds μ1=>WXr F ds μ1 (λ_ μ'=>nx δ μ') ex):WXs (zSq F φ) δ μ nx rt ex:=by
 obtain⟨ds,μ1,e1,⟨d,μ',e2,k⟩|⟨c,fs,μ',e2,k⟩⟩:=h
 ·exact⟨.next δ μ',by simp[e1,e2],k⟩
 ·exact⟨.exc c fs μ',by simp[e1,e2],k⟩
def zCy{p q:FS}{j:Nat}{tb:List (yy×Bool)}{η:FH}{bk ct:M.Loc->Mem->Prop}(h:WXs p δ μ nx rt
 (λc fs μ'=>tb.lookup c=some true/\WS q (δ.set j (some (.loc μ'.length))) (μ'++[.exc c fs]) (λδ' μ''=>nx (δ'.set j none) μ'') rt (λ_ _=>False) (λ_ _=>False))):WS (zSo p (hAs j tb q η)) δ μ nx rt bk ct:=by
 obtain⟨o,e,k⟩:=h
 cases o with
 |next δ' μ'=>exact⟨.next δ' μ',by simp only[zSo,e],k⟩
 |ret d μ'=>exact⟨.ret d μ',by simp only[zSo,e],k⟩
 |brk _ _=>exact k.elim
 |cont _ _=>exact k.elim
 |exc c fs μ'=>
  obtain⟨ht,o,e3,k⟩:=k
  cases o with
  |next δ' μ2=>exact⟨.next _ μ2,by simp only[zSo,e,hAs,ht,e3,behind],k⟩
  |ret d μ2=>exact⟨.ret d μ2,by simp only[zSo,e,hAs,ht,e3,behind],k⟩
  |brk _ _=>exact k.elim
  |cont _ _=>exact k.elim
  |exc _ _ _=>exact k.elim
def pick4:∀v:Nat,v<4->∃s:Nat,atI [D.int 2,.int 3,.int 3,.int 10] (v:Int)=some (.int (s:Nat))/\0<s/\s<=1000
 |0,_=>⟨2,zmc (j:=0) rfl,by decide,by decide⟩
 |1,_=>⟨3,zmc (j:=1) rfl,by decide,by decide⟩
 |2,_=>⟨3,zmc (j:=2) rfl,by decide,by decide⟩
 |3,_=>⟨10,zmc (j:=3) rfl,by decide,by decide⟩
 |v+4,h=>absurd h (by omega)
def pick3:∀v:Nat,v<3->∃s:Nat,atI [D.int 10007,.int 10007,.int 12] (v:Int)=some (.int (s:Nat))/\0<s/\s<=10007
 |0,_=>⟨10007,zmc (j:=0) rfl,by decide,by decide⟩
 |1,_=>⟨10007,zmc (j:=1) rfl,by decide,by decide⟩
 |2,_=>⟨12,zmc (j:=2) rfl,by decide,by decide⟩
 |v+3,h=>absurd h (by omega)
section
variable {ns:List Int}
def zbk(hp:Te ns μ l B)(hB:B<=100000)(q:∀(R:List Nat)(ts:List (Nat×Nat)) (μ':Mem),Rl R ts->KB [l] μ μ'->Te ns μ' l (B+30)->Q (rlN R ts) μ'):WF zne [.loc l] μ Q:=by
 refine z7b rfl ?_;show WS zEf [some (.loc l),none,none,none,none] μ _ _ _ _;unfold zEf;refine zJ (zob (zy (w_c (zD (zj (zh rfl (zj (w_c (zC (zKc (s:=6) hp (by omega) (by decide) (by decide) λv1 μ1 b1 k1 p1=>zmg ?_))))))))))
 have rest:∀(N:Nat)(ν:Mem),1<=N->N<=10->KB [l] μ ν->Te ns ν l (B+3)->WS (zdb (zyc 2 (zK gIx (zWk (zo (fC (.int 2)) (zo (fC (.int 3)) (zo (fC (.int 3)) (zo (fC (.int 10)) zO))))) (zH zM (zo (zq 0) (zo (fC (.int 4)) zO))))) (zdb (zyc 3 (zH z3g (zo (fLC 1 [0,2] (zZi (zo (zq 1) zO)) (gN 0) zqk zwf) zO))) (zdb (zyc 4 (zK gIx (zWk (zo (fC (.int 10007)) (zo (fC (.int 10007)) (zo (fC (.int 12)) zO)))) (zH zM (zo (zq 0) (zo (fC (.int 3)) zO))))) (zuc (z4l (zo (zq 3) (zo (zH z3g (zo (fLC 1 [0,4] (zZi (zo (zK z9e (fC (.int 2)) (zH zM (zo (zq 0) (zo (fC (.int 2)) zO)))) zO)) (gN 0) zqk zTf) zO)) zO))))))) [some (.loc l),some (.int (N:Nat)),none,none,none] ν (λ_ μ'=>Q .non μ') Q (λ_ _=>False) (λ_ _=>False):=λN ν hN1 hN k0 p0=>by
  have hlc:l≠ν.length:=yt p0.lt;refine zJ (zob (zy (zHh (zj (w_c (zj (w_c (zj (w_c (zj (w_c (zC ?_))))))))))));refine zD (zj (zh rfl (zj (w_c (zC (zKc (s:=4) p0.app (by omega) (by decide) (by decide) λv2 μ2 b2 k2 p2=>?_))))));obtain⟨s,es,hs1,hs2⟩:=pick4 v2 b2;refine zwc (zL (k2.at_ _ _ (Sz hlc) zE)) es ?_;have k02:KB [l] μ μ2:=(k0.app).trans k2;refine zJ (zob (zD (zj (zCr (zym (zj (zh rfl (zC ⟨_,rfl,by omega,by omega,zgd (by simp;omega),?_⟩)))))))) ;rw[YD];refine zvv (s:=s) p2 (λj μ' Q' hj p' k' hq=>?_) λR μ3 hl hR k3 p3=>?_
  ·unfold zwf;exact zD (zj (zh rfl (zj (zh rfl (zC (zKc p' (by omega) hs1 hs2 λv μ'' b k'' p''=>hq _ _ (by omega) (by omega) k'' p''))))))
  refine zC (zJj (zL zE) ?_);have p4:=(p3.up (B':=B+14) (by omega)).app (g:=[tE.lst (nat R)]);have k4:KB [l] μ (μ3++[tE.lst (nat R)]):=(k02.trans k3).app;generalize μ3++[tE.lst (nat R)]=μ4 at p4 k4;have hlc4:l≠μ4.length:=yt p4.lt;refine zJ (zob (zy (zHh (zj (w_c (zj (w_c (zj (w_c (zC ?_))))))))));refine zD (zj (zh rfl (zj (w_c (zC (zKc (s:=3) p4.app (by omega) (by decide) (by decide) λv5 μ5 b5 k5 p5=>?_))))));obtain⟨f,ef,hf1,hf2⟩:=pick3 v5 b5;refine zwc (zL (k5.at_ _ _ (Sz hlc4) zE)) ef ?_;have k05:KB [l] μ μ5:=(k4.app).trans k5;refine zLb (zfh (zj (zh rfl (zj (zD (zj (zCr (zym (zj (zy (w_c (zD (zj (zh rfl (zj (w_c (zC (zKc (s:=2) p5 (by omega) (by decide) (by decide) λv6 μ6 b6 k6 p6=>zmg (zC ?_)))))))))))))))))));have e4:(2:Int)+(v6:Nat)=((2+v6:Nat):Int):=by omega
  rw[e4];refine⟨_,rfl,by omega,by omega,zgd (by simp;omega),?_⟩;rw[YD];refine zhp (λi ys μ'=>∃ts:List (Nat×Nat),ys=ts.map pr2/\ts.length=i/\(∀t∈ts,t.1<=10006/\t.2<=10006)/\KB [l] μ6 μ'/\Te ns μ' l (B+16+2*i)) ⟨[],rfl,rfl,by simp,.refl,p6⟩ (λ_ _ _ _=>rfl) ?_ ?_
  ·rintro i x ys μ' hx ⟨ts,rfl,hl,hS,k,p⟩;obtain⟨hi,rfl⟩:=zbm hx;refine zTg (zAx ⟨λ_=>?_,λhf=>(by cases hf)⟩);unfold zTf;refine zfh (zj (zD (zj (zh rfl (zj (zh rfl (zC (zyj p (by omega) (by omega) (by omega) λv7 μ7 a7 b7 k7 _ p7=>?_))))))));refine zj (zD (zj (zh rfl (zj (zh rfl (zC (zyj p7 (by omega) (by omega) (by omega) λv8 μ8 a8 b8 k8 _ p8=>zC ?_)))))));obtain⟨v7,rfl⟩:=xy a7;obtain⟨v8,rfl⟩:=xy a8;refine⟨ts++[(v7,v8)],by rw[map_append];rfl,by simp[hl],λt ht=>?_,k.trans (k7.trans k8),p8.up (by omega)⟩;rcases List.mem_append.mp ht with ht|ht
   ·exact hS t ht
   ·rw[List.mem_singleton.mp ht];exact⟨by show v7<=10006;omega,by show v8<=10006;omega⟩
  ·rintro ys μ' ⟨ts,rfl,ht,hS,k,p⟩;simp only[length_map,length_range]at ht p;refine zC (zJj (zL zE) (zC ?_));exact q R ts _ ⟨by omega,by omega,hS⟩ ((k05.trans (k6.trans k)).app) ((p.up (by omega)).app)
 refine zJ (zoh (zX (zy (zD (zj (zh rfl (zj (w_c (zC (zKc (s:=8) p1 (by omega) (by decide) (by decide) λv2 μ2 b2 k2 p2=>w_c (zKh ⟨_,rfl,λ_=>?_,λ_=>zBb ?_⟩)))))))))))
 ·refine zob (zy (w_c (zD (zj (zh rfl (zj (w_c (zC (zKc (s:=6) p2 (by omega) (by decide) (by decide) λv3 μ3 b3 k3 p3=>zmg ?_)))))))));have e:(5:Int)+(v3:Nat)=((5+v3:Nat):Int):=by omega
  rw[e];exact rest (5+v3) μ3 (by omega) (by omega) (k1.trans (k2.trans k3)) p3
 ·have e:(1:Int)+(v1:Nat)=((1+v1:Nat):Int):=by omega
  rw[e];exact rest (1+v1) μ2 (by omega) (by omega) (k1.trans k2) (p2.up (by omega))
end
def zuz{lay:List (Option Nat)}{hs:List Nat}(e:lay=hs.map some)(hi:hs[i]?=some h):atI (lay.map onD) (i:Int)=some (.int (h:Nat)):=zmc (by rw[e,yh,yh,hi];rfl)
abbrev JRn(n m a l:Nat)(r:D)(S:List Nat)(kvs rw_:List (Nat×Nat))(μ:Mem):Nat->M.Loc->Mem->Prop:=λi δ μ'=>∃x4 x5:Option D,δ=[some (.loc n),some r,some (.loc a),some (.tup [.str "fits",.loc l]),x4,x5]/\KB [n,m] μ μ'/\Sh μ' n m r (zVd kvs (rw_.take i))
def zev{R':List Nat}{ex:yy->List (yy×D)->Mem->Prop}(h:Rl R' ts')(s:Sh μ n m r kvs)(K:tZ kvs S)(hS:∀x∈S,x<10^60)
 (qf:∀(T:List Nat)(l:Nat)(μ':Mem),T.Sublist (yv S.length)->zNe R' (z8d R' ts' S) T=true->zTc R' (z8d R' ts' S) T=none->tm μ μ'->μ.length<=l->μ'[l]?=some (.lst (nat (T.map λi=>S.getD i 0)))->ex "Full" [("some",.loc l)] μ')
 (q:∀(hs:List Nat)(μ':Mem),hs.length=S.length->tQ R' (z8d R' ts' S) (hs.map some)->KB [n,m] μ μ'->Sh μ' n m (rlN R' ts') (zVd kvs (S.zip hs))->Q .non μ'):WXr z6d [.loc n,rlN R' ts'] μ Q ex:=by
 have hf:=s.few;have hl:=K.len;have hK:(z8d R' ts' S).length=S.length:=by rw[length_map]
 have hcc:Yp (.str ("crowd":yy)) (.str ("crowd":yy))=true:=by decide +kernel
 have hfc:Yp (.str ("fits":yy)) (.str ("crowd":yy))=false:=by decide +kernel
 refine zVv rfl ?_;show WXs z1d [some (.loc n),some (rlN R' ts'),none,none,none,none] μ _ _ _;unfold z1d;refine zPd (zon (zob (zD (zVb (zh rfl ⟨n,_,rfl,s.at_,z9c _ m,zC (zAb s K ?_)⟩)))));have e0:(μ++[tE.lst (nat S)])[μ.length]?=some (.lst (nat S)):=zE;have k0:tm μ (μ++[tE.lst (nat S)]):=tm.app;generalize μ++[tE.lst (nat S)]=μ0 at e0 k0;refine zPd (zon (zob (zD (zj (zD (zj (zh rfl (zj (zh rfl (zC (zEh h e0 (by omega) λμ1 k1=>zC ?_)))))))))));have k01:=k0.trans k1;refine zyk (L:=30) (h.wb (by omega)) (by omega) (λlay l μ2 rt hsm k2 g2 e2=>?_) (λT l μ2 sb hc hsp k2 g2 e2=>?_)
 ·refine zPd (z2u (zX (zy (zy (zh rfl (w_c (zwc rfl rfl (w_c (zXd ⟨_,rfl,λhb=>?_,λ_=>zon (zBb ?_)⟩)))))))))
  ·rw[hfc]at hb;cases hb
  have hlay:lay.length=S.length:=by rw[rt.len,hK]
  have elay:lay=(lay.map λo=>o.getD 0).map some:=by
   rw[map_map];refine ext_getElem? λi=>?_;rw[yh]
   by_cases hi:i<lay.length
   ·have:=hsm i (by omega);rw[getD_eq_getElem?_getD]at this
    cases e:lay[i]? with
    |none=>rfl
    |some o=>
     rw[e]at this
     cases o with
     |none=>cases this
     |some v=>rfl
   ·rw[xl (by omega)];rfl
  have hhs:(lay.map λo=>o.getD 0).length=S.length:=by rw[length_map,hlay]
  have k02:=k01.trans k2;have s2:=s.keep k02;have ea:=k2 _ _ (k1 _ _ e0);have q':=q (lay.map λo=>o.getD 0);generalize (lay.map λo=>o.getD 0)=hs at hhs elay q';have rt':tQ R' (z8d R' ts' S) (hs.map some):=by rw[<-elay];exact rt
  refine zon (zJ (zfu (zh rfl (zh rfl ⟨n,_,rfl,s2.at_,by simp[fsD],?_⟩))));have h2:zNi "kept_rule" (rlN R' ts') (fsD r m)=fsD (rlN R' ts') m:=by simp only[zNi,if_true]
  rw[h2];have hne:=s2.ne;have kn:KB [n,m] μ2 (μ2.set n (.ins "Shelf" (fsD (rlN R' ts') m))):=KB.refl.set (.inl (by simp));have s3:Sh (μ2.set n (.ins "Shelf" (fsD (rlN R' ts') m))) n m (rlN R' ts') kvs:=⟨z4w s2.at_,by rw[yK hne];exact s2.dc,s2.nd,s2.few⟩
  have al:μ.length≠n:=yT (zQ s.at_);have am:μ.length≠m:=yT (zQ s.dc);have ln:l≠n:=by have:=zQ s.at_;have:=k01.len;omega
  have lm:l≠m:=by have:=zQ s.dc;have:=k01.len;omega
  have ea3:=kn.at_ _ _ (by simp;exact⟨al,am⟩) ea;have el3:=kn.at_ _ _ (by simp;exact⟨ln,lm⟩) e2;have k03:KB [n,m] μ (μ2.set n (.ins "Shelf" (fsD (rlN R' ts') m))):=(KB.of_keep k02).trans kn;generalize μ2.set n (.ins "Shelf" (fsD (rlN R' ts') m))=μ3 at s3 ea3 el3 k03;have zl:(S.zip hs).length=S.length:=by rw[List.length_zip,hhs,Nat.min_self]
  have zk:∀x∈(S.zip hs).map (·.1),x∈S:=λx hx=>by
   obtain⟨p,hp,rfl⟩:=List.mem_map.mp hx;exact(of_mem_zip hp).1
  refine z7h (zAh (zh rfl (.inr (.inr ⟨_,_,rfl,ea3,?_⟩))));rw[zys];refine z7c (JRn n m μ.length l (rlN R' ts') S kvs (S.zip hs) μ3) ⟨_,_,rfl,.refl,s3⟩ ?_ ?_ ?_
  ·rintro i δ μ4 ⟨x4,x5,rfl,k4,s4⟩;exact Tt.mpr (k4.at_ _ _ (by simp;exact⟨al,am⟩) ea3)
  ·rintro i x δ μ4 hx ⟨x4,x5,rfl,k4,s4⟩;rw[yh,XB]at hx
   cases hp:S[i]? with
   |none=>rw[hp]at hx;cases hx
   |some key=>
    rw[hp]at hx;have hi:i<hs.length:=by rw[hhs];exact(List.getElem?_eq_some_iff.mp hp).1
    obtain⟨v,hv⟩:∃v,hs[i]?=some v:=⟨_,yu hi⟩
    have hz:(S.zip hs)[i]?=some (key,v):=by rw[List.getElem?_zip_eq_some];exact⟨hp,hv⟩
    simp only[xf,YQ,Nat.zero_add]at hx;subst hx;refine zWr (zih (zTg (zih (zTg (zep ?_)))));unfold zcg;refine zKm (zy (zy (zh rfl (w_c (zwc rfl rfl (zh rfl (zwc (zL (k4.at_ _ _ (by simp;exact⟨ln,lm⟩) el3)) (zuz elay hv) ?_)))))));refine zbr (z8m (zh rfl ⟨n,_,.loc m,rfl,s4.at_,zle _ m,?_⟩));have ht:(S.zip hs).take (i+1)=(S.zip hs).take i++[(key,v)]:=by rw[List.take_add_one,hz];rfl
    have ekv:=zmo kvs ((S.zip hs).take i) (key,v);rw[<-ht]at ekv;refine zh rfl ⟨m,_,_,rfl,rfl,s4.dc,?_,_,_,rfl,k4.trans (KB.refl.set (.inl (by simp))),?_⟩
    ·have:=s4.few;unfold dkN;rw[length_map];omega
    ·rw[zrs];show Sh _ _ _ _ (zVd kvs (List.take (i+1) (S.zip hs)));rw[ekv];refine s4.set (by rw[<-ekv];exact z6e _ _ s.nd) ?_;rw[<-ekv];refine yG (zeq (A:=S) s.nd (λx hx=>K.pm.mem_iff.mpr hx) λx hx=>?_) (by omega);obtain⟨y,hy,rfl⟩:=List.mem_map.mp hx;exact zk _ (List.mem_map.mpr ⟨y,List.mem_of_mem_take hy,rfl⟩)
  ·rintro δ μ4 ⟨x4,x5,rfl,k4,s4⟩;rw[length_map,List.length_zipIdx,<-zl,take_length]at s4;exact q' μ4 hhs rt' (k03.trans k4) s4
 ·refine zPd (z2u (zX (zy (zy (zh rfl (w_c (zwc rfl rfl (w_c (zXd ⟨_,rfl,λ_=>?_,λhb=>?_⟩)))))))))
  ·rw[hK]at sb;have lT:T.length<=S.length:=by have:=sb.length_le;rw[length_range]at this;exact this
   have hT:∀i∈T,i<S.length:=λi hi=>List.mem_range.mp (sb.subset hi);refine zRt (zj (zCr (z4f (zy (zh rfl (w_c (zwc rfl rfl (.inr (.inr ⟨_,_,rfl,e2,zgd (by rw[length_map];omega),?_⟩)))))))));have ea:=k2 _ _ (k1 _ _ e0);refine z0f (λ(x:Nat)=>D.int x) T (λi=>D.int (S.getD i 0:Nat)) (λμ' k=>znb e2 k) (λi hi μ' kp=>?_) (λμ' kp=>?_)
   ·refine zTg ?_;unfold zlg;exact zy (zh rfl (zh rfl (zwc (zL (kp _ _ ea)) (zFh (hT i hi)) ⟨rfl,kp,kp⟩)))
   ·have e:(T.map λi=>D.int (S.getD i 0:Nat))=nat (T.map λi=>S.getD i 0):=by rw[zGi]
    rw[e];refine zC ⟨_,_,rfl,zE,by rw[length_map];omega,λx hx=>?_,?_⟩
    ·obtain⟨i,hi,rfl⟩:=List.mem_map.mp hx;have:=hT i hi;rw[getD_eq_getElem?_getD,yu this,XF];exact hS _ (getElem_mem this)
    ·refine qf T _ _ sb hc hsp (((k01.trans k2).trans kp.to).trans tm.app) ?_ zE;have:=(k01.trans (k2.trans kp)).len;simp;omega
  ·rw[hcc]at hb;cases hb
structure WH(η:FH)(c:yy)(fs:List (yy×D))(δ:M.Loc)(μ:Mem)(nx:M.Loc->Mem->Prop)(rt:D->Mem->Prop):Prop where
 ex:∃o,η c fs δ μ=some o/\zkB nx rt (λ_ _ _=>False) o
section
variable {p q:FS}{i:Nat}{tb:List (yy×Bool)}{η:FH}{c:yy}{fs:List (yy×D)}{δ:M.Loc}{μ:Mem}{nx:M.Loc->Mem->Prop}{rt:D->Mem->Prop}{bk ct:M.Loc->Mem->Prop}{ex:yy->List (yy×D)->Mem->Prop}
def zNA(h:WXs p δ μ nx rt (λc fs μ'=>WH η c fs δ μ' nx rt)):WS (zSo p η) δ μ nx rt bk ct:=by
 obtain⟨o,e,k⟩:=h
 cases o with
 |next δ' μ'=>exact⟨.next δ' μ',by simp only[zSo,e],k⟩
 |ret d μ'=>exact⟨.ret d μ',by simp only[zSo,e],k⟩
 |brk _ _=>exact k.elim
 |cont _ _=>exact k.elim
 |exc c fs μ'=>
  obtain⟨o,e3,k⟩:=k
  cases o with
  |next δ' μ2=>exact⟨.next δ' μ2,by simp only[zSo,e,e3],k⟩
  |ret d μ2=>exact⟨.ret d μ2,by simp only[zSo,e,e3],k⟩
  |brk _ _=>exact k.elim
  |cont _ _=>exact k.elim
  |exc _ _ _=>exact k.elim
def zSz(ht:tb.lookup c=some true)(h:WS q δ μ nx rt (λ_ _=>False) (λ_ _=>False)):WH (zIn tb q η) c fs δ μ nx rt:=by
 obtain⟨o,e,k⟩:=h
 cases o with
 |next δ' μ2=>exact⟨.next _ μ2,by simp only[zIn,ht,e],k⟩
 |ret d μ2=>exact⟨.ret d μ2,by simp only[zIn,ht,e],k⟩
 |brk _ _=>exact k.elim
 |cont _ _=>exact k.elim
 |exc _ _ _=>exact k.elim
end
structure Tf(R:List Nat)(ts kvs:List (Nat×Nat)):Prop where
 home:∀p∈kvs,p.2∈ts.map (hmN R.length p.1)
 room:∀h,(kvs.map λp=>some p.2).count (some h)<=R.getD h 0
def zYj:∀{kvs:List (Nat×Nat)},(kvs.map (·.1)).Nodup->∀p∈kvs,kvs.lookup p.1=some p.2
 |[],_,p,hp=>absurd hp (by simp)
 |(j,v)::kvs,nd,p,hp=>by
  rw[map_cons,nodup_cons]at nd;rw[lookup_cons];rcases List.mem_cons.mp hp with rfl|hp
  ·rw[beq_self_eq_true]
  ·have:p.1≠j:=λe=>nd.1 (e▸List.mem_map.mpr ⟨p,hp,rfl⟩);rw[beq_eq_false_iff_ne.mpr this];exact zYj nd.2 p hp
def zMu{x:Nat}:kvs.lookup x=some h->(x,h)∈kvs:=by
 induction kvs with
 |nil=>intro e;cases e
 |cons p kvs ih=>
  intro e;rw[lookup_cons]at e
  by_cases hx:x=p.1
  ·subst hx;rw[beq_self_eq_true]at e;cases e;exact mem_cons_self
  ·rw[beq_eq_false_iff_ne.mpr hx]at e;exact mem_cons_of_mem _ (ih e)
def zwq(nd:(kvs.map (·.1)).Nodup)(h:A.Perm (kvs.map (·.1))):(A.map λx=>kvs.lookup x).Perm (kvs.map λp=>some p.2):=by
 have e:(kvs.map λp=>some p.2)=(kvs.map (·.1)).map λx=>kvs.lookup x:=by
  rw[map_map];exact List.map_congr_left λp hp=>(zYj nd p hp).symm
 rw[e];exact h.map _
def Tf.lay(r:Tf R ts kvs)(nd:(kvs.map (·.1)).Nodup)(h:A.Perm (kvs.map (·.1))):tQ R (z8d R ts A) (A.map λx=>kvs.lookup x) where
 len:=by rw[length_map,length_map]
 home:=λk v e=>by
  rw[yh]at e
  cases ea:A[k]? with
  |none=>rw[ea]at e;cases e
  |some x=>
   rw[ea]at e;have e':kvs.lookup x=some v:=by simpa using e
   rw[getD_eq_getElem?_getD,yh,ea];exact r.home _ (zMu e')
 room:=λv=>by rw[(zwq nd h).count_eq];exact r.room v
def Tf.of(r:tQ R (z8d R ts A) (A.map λx=>kvs.lookup x))(nd:(kvs.map (·.1)).Nodup)(h:A.Perm (kvs.map (·.1))):Tf R ts kvs where
 home:=λp hp=>by
  have hm:p.1∈A:=h.mem_iff.mpr (List.mem_map.mpr ⟨p,hp,rfl⟩);obtain⟨i,hi⟩:=List.mem_iff_getElem?.mp hm;have:=r.home i p.2 (by rw[yh,hi];simp[zYj nd p hp]);rw[getD_eq_getElem?_getD,yh,hi]at this;exact this
 room:=λv=>by rw[<-(zwq nd h).count_eq];exact r.room v
def zXx{x:Nat}(row:List (Nat×Nat)):∀kvs:List (Nat×Nat),x∉row.map (·.1)->(zVd kvs row).lookup x=kvs.lookup x:=by
 induction row with
 |nil=>intro kvs _;rfl
 |cons p row ih=>
  intro kvs hx;rw[map_cons,mem_cons,not_or]at hx;show(zVd (zUo kvs p.1 p.2) row).lookup x=_;rw[ih _ hx.2,zYh,if_neg hx.1]
def zSv(nd:A.Nodup)(row:List (Nat×Nat)):∀(kvs:List (Nat×Nat)),(∀p∈row,p.1<A.length)->zye (A.map λx=>kvs.lookup x) row=A.map λx=>(zVd kvs (z9i A row)).lookup x:=by
 induction row with
 |nil=>intro kvs _;rfl
 |cons p row ih=>
  intro kvs hm;have hp:=hm p mem_cons_self
  have e:(A.map fun x=>kvs.lookup x).set p.1 (some p.2)=A.map fun x=>(zUo kvs (A.getD p.1 0) p.2).lookup x:=by
   refine ext_getElem? λi=>?_;rw[yh]
   by_cases hi:i=p.1
   ·subst hi;rw[yI (by rw[length_map];exact hp),yu hp];simp[zYh,hp]
   ·rw[yK (yH hi),yh]
    cases ea:A[i]? with
    |none=>rfl
    |some x=>
     have hx:x≠A.getD p.1 0:=by
      intro ex;have h1:A[p.1]?=some x:=by rw[ex,getD_eq_getElem?_getD,yu hp];rfl
      have hi':=(List.getElem?_eq_some_iff.mp ea).1;exact hi ((List.getElem?_inj hi' nd).mp (by rw[ea,h1]))
     simp only[xf];rw[zYh,if_neg hx]
  show zye ((A.map λx=>kvs.lookup x).set p.1 (some p.2)) row=_;rw[e];exact ih _ λq hq=>hm q (mem_cons_of_mem _ hq)
def zQv :∀{hs:List Nat} (kvs:List (Nat×Nat)),A.Nodup->hs.length=A.length->(A.map λx=>(zVd kvs (A.zip hs)).lookup x)=hs.map some:=by
 induction A with
 |nil=>intro hs kvs _ hl;cases hs with
  |nil=>rfl
  |cons _ _=>cases hl
 |cons x A ih=>
  intro hs kvs nd hl
  cases hs with
  |nil=>cases hl
  |cons v hs=>
   rw[nodup_cons]at nd
   have hx:x∉(A.zip hs).map (·.1):=λhm=>by
    obtain⟨p,hp,e⟩:=List.mem_map.mp hm;exact nd.1 (e▸(of_mem_zip hp).1)
   have e2:=ih (hs:=hs) (zUo kvs x v) nd.2 (by simpa using hl);show(zVd (zUo kvs x v) (A.zip hs)).lookup x::(A.map λx_1=>(zVd (zUo kvs x v) (A.zip hs)).lookup x_1)=some v::hs.map some;rw[e2,zXx _ _ hx,zYh,if_pos rfl]
def zipp{hs:List Nat}(hl:hs.length=A.length):(A.zip hs).map (·.1)=A:=by
 rw[List.map_fst_zip (by omega)]
def Tf.fits(r:Tf R ts kvs)(nd:(kvs.map (·.1)).Nodup)(h:A.Perm (kvs.map (·.1))):zIe R (z8d R ts A):=by
 refine⟨_,r.lay nd h,λk hk=>?_⟩;rw[length_map]at hk;have hm:A[k]∈kvs.map (·.1):=h.mem_iff.mp (getElem_mem hk);obtain⟨p,hp,e⟩:=List.mem_map.mp hm;rw[getD_eq_getElem?_getD,yh,yu hk];simp only[xf,XF];rw[<-e,zYj nd p hp];rfl
section
variable {R:List Nat}{ts kvs row:List (Nat×Nat)}{S:List Nat}{k:Nat}
def z9h(h0:kvs.lookup k=none):(S.map λx=>kvs.lookup x)++[none]=(S++[k]).map λx=>kvs.lookup x:=by rw[map_append,map_cons,map_nil,h0]
def zKo(r:Tf R ts kvs)(nd:(kvs.map (·.1)).Nodup)(K:tZ kvs S)(h0:kvs.lookup k=none)(c:Can R ts kvs S k row):Tf R ts (zVd kvs (z9i (S++[k]) row)):=by
 have hlen:(S++[k]).length=S.length+1:=by simp
 have hm:∀p∈row,p.1<(S++[k]).length:=λp hp=>by
  have:=(c.1.mem p hp).1;rw[length_map]at this;exact this
 have r1:tQ R (z8d R ts (S++[k])) ((S++[k]).map λx=>kvs.lookup x):=by
  have r0:=r.lay nd K.pm;rw[<-z9h h0];refine⟨by simp,λi v e=>?_,λv=>?_⟩
  ·by_cases hi:i<S.length
   ·rw[yq (by simpa using hi)]at e;have:=r0.home i v e;rw[getD_eq_getElem?_getD,yh]at this ⊢;rw[yq hi];exact this
   ·rw[yJ (by simp;omega)]at e;have:=mem_of_getElem? e;simp at this
  ·rw[List.count_append];have:=r0.room v;simp;exact this
 have r2:=zXf r1 (by rw[<-z9h h0];exact c.1) (by rw[<-z9h h0];simp) (by rw[<-z9h h0];exact c.2);rw[zSv (K.nd h0) row kvs hm]at r2;refine Tf.of r2 (z6e _ _ nd) ((xM (K.nd h0) (z6e _ _ nd)).mpr λx=>?_);rw[zLh K c.1];simp
def zkj(nd:(kvs.map (·.1)).Nodup)(K:tZ kvs S)(h0:kvs.lookup k=none)(c:Can R ts kvs S k row):(S++[k]).Perm ((zVd kvs (z9i (S++[k]) row)).map (·.1)) :=
 (xM (K.nd h0) (z6e _ _ nd)).mpr λx=>by
  rw[zLh K c.1];simp
def zEq{V:List Nat}(w:Wb L R (z8d R ts (S++[k])))(f:sV R ts kvs S k V):¬zIe R (z8d R ts (S++[k])):=by
 obtain⟨T,sb,hm,sh,_⟩:=f;have hK:(z8d R ts (S++[k])).length=S.length+1:=by rw[length_map,length_append,length_singleton]
 refine zSh w (by rw[hK];exact sb) (zIg w sh (by rw[hK];simp) hm (by simp))
end
def zHq(f:Nat)(R:List Nat)(ts:List (Nat×Nat)):toP μ (f+4) (rlN R ts)=some (.tuple [Enc.p R,Enc.p (ts.map λt=>[t.1,t.2])]):=by
 have h4:toP μ (f+3) (tn R)=some (Enc.p R):=Enc.rd μ (f+1) R
 have h5:toP μ (f+3) (.tup (ts.map pr2))=some (Enc.p (ts.map λt=>[t.1,t.2])):=by
  have e:(D.tup (ts.map pr2))=Enc.d (ts.map λt=>[t.1,t.2]):=by
   show _=D.tup ((ts.map λt=>[t.1,t.2]).map Enc.d);rw[map_map];rfl
  rw[e];exact Enc.rd μ f (ts.map λt=>[t.1,t.2])
 show([tn R,D.tup (ts.map pr2)].mapM (toP μ (f+3))).bind (λps=>some (PyData.tuple ps))=_;simp only[mapM_cons,List.mapM_nil,h4,h5];rfl
def zGn(r:D)(m:Nat)(x:yy)(h1:(x == "kept_rule")=false)(h2:(x == "nest_of")=false):(fsD r m).lookup x=none:=by
 simp only[fsD,lookup_cons,h1,h2,lookup_nil]
def zDq(r:D)(m:Nat):(fsD r m).lookup ("put":yy)=none:=zGn r m _ (by decide +kernel) (by decide +kernel)
def zVq(r:D)(m:Nat):(fsD r m).lookup ("out":yy)=none:=zGn r m _ (by decide +kernel) (by decide +kernel)
def zQr(r:D)(m:Nat):(fsD r m).lookup ("renew":yy)=none:=zGn r m _ (by decide +kernel) (by decide +kernel)
def zxl(r:D)(m:Nat):(fsD r m).lookup ("where":yy)=none:=zGn r m _ (by decide +kernel) (by decide +kernel)
def zDe(r:D)(m:Nat):(fsD r m).lookup ("rule":yy)=none:=zGn r m _ (by decide +kernel) (by decide +kernel)
def z3w{ψ:FA}(h:WA ψ δ μ λds μ1=>∃r,ds=[r]/\∀n m μ',tm μ1 μ'->μ1.length<=n->μ1.length<=m->n<μ'.length->m<μ'.length->Sh μ' n m r []->Q (.loc n) μ'):WE (zDr "Shelf" z9b ψ) δ μ Q:=by
 obtain⟨ds,μ1,e,r,rfl,q⟩:=h;refine z4y ⟨_,μ1,e,zDx zE ⟨rfl,?_⟩⟩;refine q μ1.length (μ1++[tE.ins "Shelf" []]).length _ (λi o ei=>?_) (yk _) (by simp) (by simp) (by simp) zYz;exact tm.app _ _ (z7 (tm.app _ _ ei) (yT (zQ ei)))
def zHe(K:List (List Nat))(key nest:Nat):List (List Nat):=K.set key [nest,nest]
def z1w{key:Nat}(h:key<K.length):(zHe K key nest).getD key []=[nest,nest]:=by
 unfold zHe;rw[getD_eq_getElem?_getD,yI h];rfl
def zqu{key:Nat}(h:k≠key):(zHe K key nest).getD k []=K.getD k []:=by
 unfold zHe;rw[getD_eq_getElem?_getD,getD_eq_getElem?_getD,yK (yH h)]
def zwp{key:Nat}(w:Wb L R K)(hn:nest<R.length):Wb L R (zHe K key nest) :=
 ⟨w.rl,by unfold zHe;rw[length_set];exact w.kl,λk hk=>by
  rcases List.mem_or_eq_of_mem_set hk with hk|rfl
  ·exact w.kn k hk
  ·refine⟨by simp,λh hh=>?_⟩;have:h=nest:=by simpa using hh
   omega⟩
def zzu{d:D}(h:i<K.length):M.cutD (K.map tn) none (some (i:Int))++[d]++M.cutD (K.map tn) (some ((i:Int)+1)) none=(K.map tn).set i d:=by
 have e1:=zJm (xs:=K.map tn) (i:=i);have e2:=zXq (xs:=K.map tn) (i:=i+1);have e3:(((i+1:Nat)):Int)=(i:Int)+1:=by omega
 rw[e3]at e2;rw[e1,e2,xP,if_pos (by simpa using h)];simp
def z1s{key:Nat}(w:Wb L R K)(hL:L<=1000)(hk:key<K.length)(q:Q (wn R (zHe K key nest)) μ):WF zIh [wn R K,.int key,.int nest] μ Q:=by
 have hkl:=w.kl;refine z7b rfl ?_;show WS zGh [some (wn R K),some (.int key),some (.int nest)] μ _ _ _ _;unfold zGh;refine zLb (zfh (zj (zy (zh rfl (w_c (zwm (zj (zy (zy (zjB (zy (zh rfl (w_c (z2g (znr (zAl (zh rfl ⟨_,rfl,_,rfl,?_⟩)))))))))))))))));refine zfh (zj (zfh (zj (zh rfl (zj (zh rfl (zC (zC ?_))))))))
 have hcl:∀(lo hi:Option Int),(M.cutD (K.map tn) lo hi).length<=K.length:=λlo hi=>by
  unfold M.cutD;rw[length_take,length_drop,length_map];omega
 have c1:=hcl none (some (key:Int));have c2:=hcl (some ((key:Int)+1)) none;refine zdw (by simp;omega) (zjB (zy (zh rfl (w_c (z2g (zAl (zy (zh rfl (w_c (zmg ⟨_,rfl,znr ⟨_,rfl,?_⟩⟩))))))))));refine zdw (by simp;omega) (zC ?_);have e:=zzu (d:=tn [nest,nest]) hk
 have e2:(K.map tn).set key (tn [nest,nest])=(zHe K key nest).map tn:=by
  unfold zHe;rw[List.map_set]
 rw[e2]at e;rw[show M.cutD (K.map tn) none (some (key:Int))++[D.tup [D.int (nest:Nat),D.int (nest:Nat)]]++M.cutD (K.map tn) (some ((key:Int)+1)) none=(zHe K key nest).map tn from e];exact q
structure SB(R:List Nat)(K:List (List Nat))(X:List Nat):Prop where
 len:X.length=K.length
 home:∀(i h:Nat)(k:List Nat),X[i]?=some h->K[i]?=some k->h∈k
 room:∀h,X.count h<=R.getD h 0
def z8l(X:List Nat)(h:Nat):(X.map some).count (some h)=X.count h:=by
 induction X with
 |nil=>rfl
 |cons x X ih=>
  rw[map_cons,count_cons,count_cons,ih]
  congr 1
def z6q:∀{lay:List (Option Nat)},(∀k<lay.length,(lay.getD k none).isSome=true)->∃X:List Nat,lay=X.map some
 |[],_=>⟨[],rfl⟩
 |x::lay,h=>by
  obtain⟨X,rfl⟩:=z6q (lay:=lay) λk hk=>by simpa using h (k+1) (by simp;omega)
  have h0:=h 0 (by simp)
  cases x with
  |none=>cases h0
  |some n=>exact⟨n::X,rfl⟩
def zRq{lay:List (Option Nat)}(r:tQ R K lay)(hall:∀k<K.length,(lay.getD k none).isSome=true):∃X:List Nat,lay.map onD=nat X/\SB R K X:=by
 have hl:=r.len;obtain⟨X,rfl⟩:=z6q (lay:=lay) λk h=>hall k (by omega);refine⟨X,by rw[map_map];rfl,⟨by rw[length_map]at hl;exact hl,λi h k e1 e2=>?_,λh=>?_⟩⟩
 ·have h1:=r.home i h (by rw[yh,e1];rfl);rw[getD_eq_getElem?_getD,e2]at h1;exact h1
 ·have:=r.room h;rw[z8l]at this;exact this
def SB.right(a:SB R K X):tQ R K (X.map some):=by
 have hl:=a.len;refine⟨by rw[length_map];exact hl,λk h e=>?_,λh=>by rw[z8l];exact a.room h⟩;rw[yh]at e
 cases ex:X[k]? with
 |none=>rw[ex]at e;cases e
 |some h'=>
  rw[ex]at e;cases e;have hk:=(List.getElem?_eq_some_iff.mp ex).1;have ek:K[k]?=some (K.getD k []):=by rw[getD_eq_getElem?_getD,yu (by omega)];rfl
  exact a.home k h _ ex ek
def z1j(h:k<X.length):((X.map some).getD k none).isSome=true:=by
 rw[getD_eq_getElem?_getD,yh,yu h];rfl
def zNf(K:List (List Nat))(key nest:Nat):(zHe K key nest).length=K.length:=by unfold zHe;rw[length_set]
def zvu{key:Nat}(a:SB R K X)(hk:key<K.length):zIe R (zHe K key (X.getD key 0)):=by
 have r:=a.right;have hl:=a.len;refine⟨X.map some,⟨by rw[length_map,zNf];exact hl,λk h e=>?_,r.room⟩,λk h=>z1j (by rw[zNf]at h;omega)⟩
 by_cases hkk:k=key
 ·subst hkk;rw[z1w hk];rw[yh]at e;have ex:X[k]?=some (X.getD k 0):=by rw[getD_eq_getElem?_getD,yu (by omega)];rfl
  rw[ex]at e;cases e;simp
 ·rw[zqu hkk];exact r.home k h e
def zlt{key:Nat}(a:SB R K X)(hk:key<K.length):tQ R (zHe K key nest) ((X.map some).set key none):=by
 have r:=a.right;have hl:=a.len;refine⟨by rw[length_set,length_map,zNf];exact hl,λk h e=>?_,λh=>?_⟩
 ·by_cases hkk:k=key
  ·subst hkk;rw[yI (by rw[length_map];omega)]at e;cases e
  ·rw[yK (yH hkk)]at e;rw[zqu hkk];exact r.home k h e
 ·have:=r.room h;have h2:=List.count_set (a:=none) (b:=some h) (l:=X.map some) (i:=key) (by rw[length_map];omega);rw[h2];have e3:((none:Option Nat)==some h)=false:=rfl;rw[e3];simp only[xI,if_false];omega
def z7w{key:Nat}(a:SB R K X)(hk:key<K.length)(hr:To (zHe K key nest) ((X.map some).set key none) key row)(hroom:((X.map some).set key none).count (some (row.getD (row.length-1) (0,0)).2)<R.getD (row.getD (row.length-1) (0,0)).2 0):zIe R (zHe K key nest):=by
 have hl:=a.len;have r:=zlt (nest:=nest) a hk
 have hnone:((X.map some).set key none).getD key none=none:=by
  rw[getD_eq_getElem?_getD,yI (by rw[length_map];omega)];rfl
 refine⟨_,zXf r hr hnone hroom,λk h=>?_⟩;rw[zNf]at h
 by_cases hm:k∈row.map (·.1)
 ·obtain⟨p,hp,rfl⟩:=List.mem_map.mp hm;rw[zzj hr.nd hp (by rw[length_set,length_map];omega)];rfl
 ·rw[zCe hm]
  have hne:k≠key:=by
   rintro rfl;obtain⟨h',r',e⟩:=hr.first
   rw[e]at hm;simp at hm
  rw[getD_eq_getElem?_getD,yK (yH hne),<-getD_eq_getElem?_getD];exact z1j (by omega)
def zBu(h:i<X.length):M.cutD (nat X) none (some (i:Int))++[D.non]++M.cutD (nat X) (some ((i:Int)+1)) none=((X.map some).set i none).map onD:=by
 have e1:=zJm (xs:=nat X) (i:=i);have e2:=zXq (xs:=nat X) (i:=i+1);have e3:(((i+1:Nat)):Int)=(i:Int)+1:=by omega
 rw[e3]at e2;rw[e1,e2,List.map_set,map_map,xP,if_pos (by simpa using h)];simp;rfl
def z1v(xs:List D)(lo hi:Option Int):(M.cutD xs lo hi).length<=xs.length:=by
 unfold M.cutD;rw[length_take,length_drop];omega
structure so(μ:Mem)(f:Nat)(ls:List Nat)(rows:List (List Nat)):Prop where
 at_:μ[f]?=some (.lst (ls.map D.loc))
 len:ls.length=rows.length
 row:∀(j n:Nat)(r:List Nat),ls[j]?=some n->rows[j]?=some r->μ[n]?=some (.lst (nat r))
def so.keep{μ:Mem}{f:Nat}{ls:List Nat}{rows:List (List Nat)}(h:so μ f ls rows)(k:tm μ μ'):so μ' f ls rows:=⟨k _ _ h.at_,h.len,λj n r a b=>k _ _ (h.row j n r a b)⟩
def so.push{c:Nat}{lc:List Nat}{lon:List (List Nat)}{r:List Nat}(h:so μ c lc lon)(hc:∀m∈lc,c<m)(g:μ[n]?=some (.lst (nat r)))(hn:c<n):so (μ.set c (.lst (lc.map D.loc++[D.loc n]))) c (lc++[n]) (lon++[r]):=by
 have hl:=h.len;refine⟨by rw[zsb h.at_,map_append];rfl,by simp[hl],λj m s e1 e2=>?_⟩
 by_cases hj:j<lc.length
 ·rw[yq hj]at e1;rw[yq (by omega)]at e2;have:=hc m (mem_of_getElem? e1);exact z7 (h.row j m s e1 e2) (by omega)
 ·have hj2:=(List.getElem?_eq_some_iff.mp e1).1;rw[length_append,length_singleton]at hj2;have ej:j=lc.length:=by omega
  subst ej;rw[yJ (yk _),Nat.sub_self]at e1;rw[hl,yJ (yk _),Nat.sub_self]at e2;cases e1;cases e2;exact z7 g (by omega)
def zby{φ:FE}(h:WE φ δ μ λx μ1=>∃ns:List Int,x=.tup (ns.map .int)/\ns.length<=4000/\(uqL ns).length<64/\Q (.loc μ1.length) (μ1++[.lst ((zNp ns).map .int)])):WE (zDo φ) δ μ Q:=by
 obtain⟨x,μ1,e1,ns,rfl,h1,h2,q⟩:=h;exact⟨_,_,by simp[zDo,e1,h1,h2]<;>rfl,q⟩
def zsr{key:Nat}(w:Wb L R K)(hL:L<=60)(a:SB R K X)(hk:key<K.length)(hnR:nest<R.length)(hn:μ[n]?=some (.lst (nat X)))
 (q:∀(b:Bool)(μ':Mem),(b=true↔zIe R (zHe K key nest))->tm μ μ'->Q (.bl b) μ'):WF zPg [wn R K,.loc n,.int key,.int nest] μ Q:=by
 have hkl:=w.kl;have hX:=a.len;refine z7b rfl ?_;show WS zNg [some (wn R K),some (.loc n),some (.int key),some (.int nest),none] μ _ _ _ _;unfold zNg;have c1:=z1v (nat X) none (some (key:Int));have c2:=z1v (nat X) (some ((key:Int)+1)) none;rw[length_map]at c1 c2;refine zJ (zob (zy (zy (zfy (zh rfl (znr (zAl (zh rfl ⟨_,rfl,n,_,rfl,hn,?_⟩))))))));refine zHh (zj (w_c (zC (zGo (zlb zE) zE (by simp;omega) ?_))));refine zfy (zh rfl (zAl (zy (zh rfl (w_c (zmg ⟨_,rfl,znr ⟨n,_,rfl,zlb (zlb (zlb hn)),?_⟩⟩))))));refine zGo (zlb zE) zE (by simp;omega) ?_;rw[zBu (by omega:key<X.length)];refine zLb (zy (zy (zD (zj (zD (zj (zh rfl (zj (zh rfl (zj (zh rfl (zC ?_))))))))))));refine z1s w (by omega) hk (zj (zh rfl (zj (zh rfl (zC ?_)))))
 have hnone:((X.map some).set key none).getD key none=none:=by
  rw[getD_eq_getElem?_getD,yI (by rw[length_map];omega)];rfl
 refine zkm (zwp w hnR) (by rw[length_set,length_map,zNf];exact hX) (by omega) zE (by rw[zNf];exact hk) hnone (λrow l μ1 ro hroom _ k1 hl g=>?_) (λS l μ1 hS hkS sh k1 hl g=>?_)
 ·refine w_c (zwc rfl rfl (w_c (zXd ?_)));refine q _ _ ⟨λ_=>z7w a hk ro hroom,λ_=>by decide +kernel⟩ ?_;exact tm.trans (tm.to (tm.to (tm.to (tm.to (tm.to .refl))))) k1
 ·refine w_c (zwc rfl rfl (w_c (zXd ?_)));have hc:=zIg (zwp (key:=key) w hnR) sh (by rw[length_set,length_map,zNf];exact hX) hkS hnone;have nf:=zSh (zwp w hnR) hS hc;refine q _ _ ⟨λh=>absurd h (by decide +kernel),λh=>absurd h nf⟩ ?_;exact tm.trans (tm.to (tm.to (tm.to (tm.to (tm.to .refl))))) k1
def plc(R:List Nat)(K:List (List Nat))(j:Nat):List Nat:=((yv R.length).filter λh=>decide (h∈K.getD j [])).filter λh=>@decide (zIe R (zHe K j h)) (YC _)
def plc_mem{j:Nat}:h∈plc R K j↔h<R.length/\h∈K.getD j []/\zIe R (zHe K j h):=by
 unfold plc;rw[mem_filter,mem_filter,@decide_eq_true_iff _ (YC _),decide_eq_true_iff,mem_range,and_assoc]
def zPv{R:List Nat}{φ:FE}(hk3:ks.length<=3)(hkn:∀h∈ks,h<R.length)(h:WE φ δ μ λx μ1=>x=tn ks/\Q (.loc μ1.length) (μ1++[.lst (nat ((yv R.length).filter λh=>decide (h∈ks)))])):WE (zDo φ) δ μ Q:=by
 obtain⟨x,μ1,e1,rfl,q⟩:=h;obtain⟨U,hU⟩:∃U,U=(yv R.length).filter λh=>decide (h∈ks):=⟨_,rfl⟩
 rw[<-hU]at q
 have hUm:∀h,h∈U↔h∈ks:=λh=>by
  rw[hU,mem_filter,mem_range,decide_eq_true_iff];exact⟨λh=>h.2,λh'=>⟨hkn h h',h'⟩⟩
 have hUp:U.Pairwise (· < ·):=by rw[hU];exact List.pairwise_lt_range.filter _
 have hmem:∀i:Int,i∈U.map (λ(k:Nat)=>(k:Int))↔i∈ks.map (λ(k:Nat)=>(k:Int)):=λi=>by
  simp only[mem_map];constructor
  ·rintro⟨h,hh,rfl⟩;exact⟨h,(hUm h).mp hh,rfl⟩
  ·rintro⟨h,hh,rfl⟩;exact⟨h,(hUm h).mpr hh,rfl⟩
 have hpw:(U.map (λ(k:Nat)=>(k:Int))).Pairwise (· < ·):=by
  rw[pairwise_map];exact hUp.imp λh=>by omega
 have h2:(uqL (ks.map λ(k:Nat)=>(k:Int))).length<=(ks.map λ(k:Nat)=>(k:Int)).length:=zJp _ _;rw[length_map]at h2;have hs:=zWm hmem hpw
 have e2:tn ks=.tup ((ks.map λ(k:Nat)=>(k:Int)).map D.int):=by
  show D.tup (nat ks)=_;rw[zug]
 rw[e2]at e1;refine zby ⟨_,μ1,e1,ks.map (λ(k:Nat)=>(k:Int)),rfl,by rw[length_map];omega,by omega,?_⟩;rw[hs,<-zug];exact q
abbrev JPx(R:List Nat)(K:List (List Nat))(X:List Nat)(l c:Nat)(μ:Mem):Nat->M.Loc->Mem->Prop:=λi δ ν=>∃(ls:List Nat)(x y:Option D),δ=[some (wn R K),some (.tup [.str "fits",.loc l]),some (.loc c),x,y]/\tm μ ν/\ν[l]?=some (.lst (nat X))/\so ν c ls ((yv i).map (plc R K))/\∀m∈ls,c<m
def zxs{ex:yy->List (yy×D)->Mem->Prop}(w:Wb L R K)(hL:L<=60)
 (q:∀(l:Nat)(ls:List Nat)(μ':Mem),zIe R K->so μ' l ls ((yv K.length).map (plc R K))->(∀m∈ls,l<m)->μ.length<=l->tm μ μ'->Q (.loc l) μ')
 (x:∀(T:List Nat)(n:Nat)(μ':Mem),¬zIe R K->T.Sublist (yv K.length)->zNe R K T=true->μ.length<=n->μ'[n]?=some (.lst (nat T))->tm μ μ'->ex "NoFit" [("some",.loc n)] μ'):WXr zBj [wn R K] μ Q ex:=by
 have hkl:=w.kl;have hrl:=w.rl;refine zVv rfl ?_;show WXs zsj [some (wn R K),none,none,none,none] μ _ _ _;unfold zsj;refine zPd (zon (zob (zD (zj (zh rfl (zC ?_))))));refine zyk w hL (λlay l μ1 r hall k1 hl g=>?_) (λT l μ1 hT hc hs k1 hl g=>?_)
 ·have hf:zIe R K:=⟨lay,r,hall⟩
  obtain⟨X,e,a⟩:=zRq r hall;rw[e]at g;refine zPd (z2u (zX (zy (zy (zh rfl (w_c (zwc rfl rfl (w_c (zXd ⟨_,rfl,λh=>absurd h (by decide +kernel),λ_=>zon (zBb ?_)⟩)))))))));refine zPd (zon (zob (zHh (zC ?_))));refine zPd (zon (z7h (zAh (zy (zh rfl (w_c (z2g (.inl ⟨_,rfl,?_⟩))))))));have kl:tm μ (μ1++[tE.lst []]):=k1.to;have gl:(μ1++[tE.lst []])[l]?=some (.lst (nat X)):=zlb g;have gc:(μ1++[tE.lst []])[μ1.length]?=some (.lst []):=zE;have hc:μ.length<=μ1.length:=k1.len;have hlc:l<μ1.length:=zQ g;generalize μ1++[tE.lst []]=μ2 at kl gl gc;generalize μ1.length=c at gc hc hlc;refine z7c (JPx R K X l c μ) ⟨[],_,_,rfl,kl,gl,⟨gc,rfl,λj n r e _=>by cases e⟩,by simp⟩ (λ_ _ _ _=>rfl) ?_ ?_
  ·rintro key z δ ν hz ⟨ls,x1,y1,rfl,kν,gν,hr,hls⟩;obtain⟨ks,hks,rfl⟩:=zCl hz;have hk:=(List.getElem?_eq_some_iff.mp hks).1;have eks:K.getD key []=ks:=by rw[getD_eq_getElem?_getD,hks];rfl
   obtain⟨hk3,hkn⟩:=w.key hk;rw[eks]at hk3 hkn;refine zWr (zih (zTg (zih (zTg (zep ?_)))));unfold zfl;refine zUi (zJl (zh rfl ⟨_,_,rfl,hr.at_,zj (zCr (z4f (zPv (ks:=ks) hk3.2 hkn (zh rfl ⟨rfl,.inr (.inr ⟨_,_,rfl,zE,zgd ?_,?_⟩)⟩))))⟩))
   ·have:=List.length_filter_le (λh=>decide (h∈ks)) (yv R.length);rw[length_range]at this;rw[length_map];omega
   obtain⟨U,hU⟩:∃U,U=(yv R.length).filter λh=>decide (h∈ks):=⟨_,rfl⟩
   have hUm:∀h∈U,h<R.length:=λh hh=>by
    rw[hU,mem_filter,mem_range]at hh;exact hh.1
   rw[<-hU];have kn:tm μ (ν++[tE.lst (nat U)]):=kν.to;have gn:(ν++[tE.lst (nat U)])[l]?=some (.lst (nat X)):=zlb gν;have hrn:so (ν++[tE.lst (nat U)]) c ls ((yv key).map (plc R K)):=hr.keep .app;have gu:(ν++[tE.lst (nat U)])[ν.length]?=some (.lst (nat U)):=zE;show WL _ _ _ (z4j ν.length (nat U)) _ (nat U) [] (ν++[tE.lst (nat U)]) _;generalize ν++[tE.lst (nat U)]=ν1 at kn gn hrn gu;generalize ν.length=ul at gu;refine znk (λ(k:Nat)=>D.int k) U (λ(k:Nat)=>D.int k) (λh=>@decide (zIe R (zHe K key h)) (YC _)) (λμ' k=>znb gu k) (λh hh μ' kp=>?_) (λμ' kp=>?_)
   ·refine zTg ?_;unfold zdl zgl;refine zX (zD (zj (zh rfl (zj (zy (zh rfl (w_c (zwc rfl rfl (zj (zh rfl (zj (zh rfl (zC ?_)))))))))))));refine zsr w hL a hk (hUm h hh) (kp _ _ gn) λb μ3 hb k3=>⟨b,rfl,?_,kp.trans k3,λ_=>zh rfl ⟨rfl,kp.trans k3⟩⟩
    by_cases hf:zIe R (zHe K key h)
    ·rw[hb.mpr hf,@decide_eq_true _ (YC _) hf]
    ·have:b=false:=by
      cases b with
      |false=>rfl
      |true=>exact absurd (hb.mp rfl) hf
     rw[this,@decide_eq_false _ (YC _) hf]
   ·have hp:U.filter (λh=>@decide (zIe R (zHe K key h)) (YC _))=plc R K key:=by
     unfold plc;rw[eks,<-hU]
    refine zC ?_;rw[hp];have hr2:so (μ'++[tE.lst (nat (plc R K key))]) c ls ((yv key).map (plc R K)):=(hrn.keep kp).keep .app;have hcl:=zQ (hrn.keep kp).at_;refine zjn hr2.at_ (by rw[length_map];have:=hr2.len;simp at this;omega) ?_;have hr3:=hr2.push hls (n:=μ'.length) (r:=plc R K key) zE hcl;refine⟨ls++[μ'.length],_,_,rfl,?_,z7 (zlb (kp _ _ gn)) (by omega),?_,?_⟩
    ·intro i o e;have hi:=zQ e;exact z7 (zlb (kp _ _ (kn _ _ e))) (by omega)
    ·rw[List.range_succ,map_append];exact hr3
    ·intro m hm;rcases List.mem_append.mp hm with hm|hm
     ·exact hls m hm
     ·rw[List.mem_singleton.mp hm];exact hcl
  ·rintro δ ν ⟨ls,x1,y1,rfl,kν,gν,hr,hls⟩;have e:(zjg (K.map tn)).length=K.length:=by rw[z4c,length_map]
   rw[e]at hr;exact zon (zLb (zh rfl (q c ls ν hf hr hls hc kν)))
 ·have nf:=zSh w hT hc;have hTl:=hT.length_le;rw[length_range]at hTl;refine zPd (z2u (zX (zy (zy (zh rfl (w_c (zwc rfl rfl (w_c (zXd ⟨_,rfl,λ_=>?_,λh=>absurd h (by decide +kernel)⟩)))))))));refine z3p (zj (zy (zh rfl (w_c (zwc rfl rfl (zC ⟨l,T.map λ(k:Nat)=>(k:Int),rfl,by rw[<-zug];exact g,⟨by rw[length_map];omega,λn hn=>?_⟩,?_⟩))))))
  ·obtain⟨k,hk,rfl⟩:=List.mem_map.mp hn;have:=hT.subset hk;rw[mem_range]at this;omega
  ·rw[<-zug];exact x T _ _ nf hT hc k1.len zE k1.to
section
variable {μ:Mem}{R:List Nat}{ts:List (Nat×Nat)}{Q:D->Mem->Prop}
def zRy(hR:Rl R ts)(l:Nat)(S:List Nat)(hS:S.length<=30)(h:WA φ δ μ λds μ1=>ds=[rlN R ts,.loc l]/\μ1[l]?=some (.lst (nat S))/\∀b μ2,(b=true↔zIe R (z8d R ts S))->tm μ1 μ2->Q (.bl b) μ2):WE (zK gEq (zK gIx (zH z7d (zo (zH zic φ) zO)) (fC (.int 0))) (fC (.str "fits"))) δ μ Q:=by
 have h1:Yp (.str ("fits":yy)) (.str ("fits":yy))=true:=by decide +kernel
 have h2:Yp (.str ("crowd":yy)) (.str ("fits":yy))=false:=by decide +kernel
 obtain⟨ds,μ1,e,rfl,el,q⟩:=h;have w:Wb 30 R (z8d R ts S):=hR.wb hS;refine zy (zy (zD (zj (zD ⟨_,μ1,e,zEh hR el (by omega) λμ2 k2=>zC ?_⟩))));refine zyk w (by omega) (λlay l' μ3 rt hw k3 _ e3=>?_) (λT l' μ3 sb hc _ k3 _ e3=>?_)
 ·refine w_c (zwc rfl rfl (w_c (zXd ?_)));rw[h1];exact q true μ3 ⟨λ_=>⟨lay,rt,hw⟩,λ_=>rfl⟩ (k2.trans k3)
 ·refine w_c (zwc rfl rfl (w_c (zXd ?_)));rw[h2];exact q false μ3 ⟨λhb=>(by cases hb),λf=>absurd f (zSh w sb hc)⟩ (k2.trans k3)
end
section
variable {μ:Mem}{R:List Nat}{ts kvs:List (Nat×Nat)}{S:List Nat}{k:Nat}{Q:D->Mem->Prop}
def zQp{R':List Nat}{hs:List Nat}(nd:(kvs.map (·.1)).Nodup)(K:tZ kvs S)(hl:hs.length=S.length)(rt:tQ R' (z8d R' ts' S) (hs.map some)):Tf R' ts' (zVd kvs (S.zip hs))/\S.Perm ((zVd kvs (S.zip hs)).map (·.1)):=by
 have ndS:S.Nodup:=K.pw.imp λh=>yt h
 have pm:S.Perm ((zVd kvs (S.zip hs)).map (·.1)):=by
  refine(xM ndS (z6e _ _ nd)).mpr λx=>?_;rw[zUm,zipp hl];exact⟨λh =>.inr h,λh=>h.elim (λh=>K.pm.mem_iff.mpr h) id⟩
 exact⟨Tf.of (A:=S) (by rw[zQv kvs ndS hl];exact rt) (z6e _ _ nd) pm,pm⟩
def WX.of{F:FX}(h:WXr F ds μ Q (λ_ _ _=>False)):WX F ds μ Q:=by
 obtain⟨⟨d,μ',e,q⟩|⟨c,fs,μ',e,q⟩⟩:=h
 ·exact⟨d,μ',e,q⟩
 ·exact q.elim
def zpo(r:Tf R ts kvs):Tf R ts (zls kvs k) where
 home:=λp hp=>r.home p (List.mem_filter.mp hp).1
 room:=λh=>yG ((List.filter_sublist.map _).count_le _) (r.room h)
end
def zJr{lay:List (Option Nat)}(w:Wb L R K)(r:tQ R K lay)(s:TD R K lay C)(nd:C.Nodup){k0:Nat}(hk0:k0∈C)(hn:lay.getD k0 none=none)(ho:∀k∈C,k≠k0->(lay.getD k none).isSome=true):C.length=zLn R (zcd R.length K C)+1:=by
 have hc:=of_decide_eq_true (zIg w s r.len hk0 hn);have hN:(zcd R.length K C).Nodup:=List.nodup_range.sublist filter_sublist
 have h1:C.length<=(k0::lyN lay (zcd R.length K C)).length:=zwd nd λk hk=>by
  by_cases e0:k=k0
  ·rw[e0];exact mem_cons_self
  ·refine mem_cons_of_mem _ ?_;rw[sL];have hs:=ho k hk e0
   cases e:lay.getD k none with
   |none=>rw[e]at hs;cases hs
   |some h=>
    refine⟨h,?_,rfl⟩;rw[zcf w];refine⟨k,hk,r.home k h ?_⟩;have hkl:k<lay.length:=by rw[r.len];exact s.keys k hk
    simp[hkl]at e;simp[hkl,e]
 rw[length_cons,zZm hN]at h1;have h2:((zcd R.length K C).map λh=>lay.count (some h)).sum<=zLn R (zcd R.length K C):=z6p λh _=>r.room h;omega
section
variable {R:List Nat}{ts kvs:List (Nat×Nat)}{S V:List Nat}{k:Nat}
def zIr(r:Tf R ts kvs)(nd:(kvs.map (·.1)).Nodup)(K:tZ kvs S):tQ R (z8d R ts (S++[k])) ((S.map λx=>kvs.lookup x)++[none]):=by
 have r0:=r.lay nd K.pm;refine⟨by simp,λi v e=>?_,λv=>?_⟩
 ·by_cases hi:i<S.length
  ·rw[yq (by simpa using hi)]at e;have:=r0.home i v e;rw[getD_eq_getElem?_getD,yh]at this ⊢;rw[yq hi];exact this
  ·rw[yJ (by simp;omega)]at e;have:=mem_of_getElem? e;simp at this
 ·rw[List.count_append];have:=r0.room v;simp;exact this
def zLs{V:List Nat}(hT:∀i∈T,i<A.length)(hV:V.Perm (T.map λi=>A.getD i 0)):zcd R.length (z8d R ts V) (yv V.length)=zcd R.length (z8d R ts A) T:=by
 have hg:∀i∈T,(z8d R ts A).getD i []=ts.map (hmN R.length (A.getD i 0)):=λi hi=>by
  have:=hT i hi;rw[getD_eq_getElem?_getD,yh,yu this,getD_eq_getElem?_getD,yu this];rfl
 unfold zcd;refine filter_congr λh _=>decide_eq_decide.mpr ?_;constructor
 ·rintro⟨j,hj,hh⟩;have hj:=List.mem_range.mp hj;rw[getD_eq_getElem?_getD,yh,yu hj]at hh;have hm:=hV.mem_iff.mp (getElem_mem hj);obtain⟨i,hi,e⟩:=List.mem_map.mp hm;refine⟨i,hi,?_⟩;rw[hg i hi,e];exact hh
 ·rintro⟨i,hi,hh⟩;rw[hg i hi]at hh;have hm:A.getD i 0∈V:=hV.mem_iff.mpr (List.mem_map.mpr ⟨i,hi,rfl⟩);obtain⟨j,hj⟩:=List.mem_iff_getElem?.mp hm;refine⟨j,List.mem_range.mpr (List.getElem?_eq_some_iff.mp hj).1,?_⟩;rw[getD_eq_getElem?_getD,yh,hj];exact hh
def sV.tight(w:Wb L R (z8d R ts (S++[k])))(r:Tf R ts kvs)(nd:(kvs.map (·.1)).Nodup)(K:tZ kvs S)(f:sV R ts kvs S k V):V.length=zLn R (zcd R.length (z8d R ts V) (yv V.length))+1:=by
 obtain⟨T,sb,hm,sh,pV⟩:=f
 have hT:∀i∈T,i<(S++[k]).length:=λi hi=>by
  have:=List.mem_range.mp (sb.subset hi);simp;omega
 rw[zLs hT pV,pV.length_eq,length_map];refine zJr w (zIr r nd K) sh (List.nodup_range.sublist sb) hm (by simp) λi hi hne=>?_
 have hi':i<S.length:=by
  have:=hT i hi;simp at this;omega
 rw[getD_eq_getElem?_getD,yq (by simpa using hi'),yh,yu hi'];obtain⟨v,hv⟩:=K.look (getElem_mem hi');simp[hv]
end
structure S55(μ:Mem)(n m:Nat)(R:List Nat)(ts kvs:List (Nat×Nat)):Prop where
 rl:Rl R ts
 sh:Sh μ n m (rlN R ts) kvs
 rs:Tf R ts kvs
 bd:∀x∈kvs.map (·.1),x<10^60
section
variable {μ μ':Mem}{n m k a:Nat}{R:List Nat}{ts kvs:List (Nat×Nat)}{S:List Nat}{Q:D->Mem->Prop}
def S55.keep(s:S55 μ n m R ts kvs)(k:tm μ μ'):S55 μ' n m R ts kvs:=⟨s.rl,s.sh.keep k,s.rs,s.bd⟩
def S55.key(s:S55 μ n m R ts kvs)(K:tZ kvs S):∀x∈S,x<10^60:=λx hx=>s.bd x (K.pm.mem_iff.mp hx)
def zOl(K:tZ kvs S)(h:k∉S):kvs.lookup k=none:=by
 rw[List.lookup_eq_none_iff];intro p hp;apply bne_iff_ne.mpr;intro e;exact h (K.pm.mem_iff.mpr (List.mem_map.mpr ⟨p,hp,e.symm⟩))
def zdv{ns:List Int}{pl:Nat}(hp:Te ns μ pl B)(hB:B<=100000)(ea:μ[a]?=some (.lst (nat S)))(ha:a≠pl)(hS:S.length<=30)(hbd:∀x∈S,x<10^60)
 (q:∀(k:Nat)(μ':Mem),k<10^60->KB [pl] μ μ'->Te ns μ' pl (B+2)->Q (.int (k:Nat)) μ'):WF zCg [.loc pl,.loc a] μ Q:=by
 refine z7b rfl ?_;show WS zrg [some (.loc pl),some (.loc a),none] μ _ _ _ _;unfold zrg;refine zJ (zob (zD (zj (zh rfl (zj (w_c (zC (zKc (s:=8) hp (by omega) (by decide) (by decide) λv1 μ1 b1 k1 p1=>?_))))))));have e1:=k1.at_ _ _ (Sz (yH ha)) ea
 have rest:∀μ2,KB [pl] μ μ2->Te ns μ2 pl (B+1)->WS (zdb (sIf (zbb (zK gEq (zq 2) (fC (.int 3)))) (zuc (zH zM (zo (zq 0) (zo (zK zny (fC (.int 10)) (fC (.int 59))) zO)))) zfc) (zuc (zH zM (zo (zq 0) (zo (fC (.int 40)) zO))))) [some (.loc pl),some (.loc a),some (.int (v1:Nat))] μ2 (λ_ μ'=>Q .non μ') Q (λ_ _=>False) (λ_ _=>False):=λμ2 k2 p2=>by
  have p59:((10:Int)^(59:Int).toNat)=100000000000000000000000000000000000000000000000000000000000:=by decide
  refine zJ (zoh (zX (zy (zh rfl (w_c (zKh ⟨_,rfl,λ_=>?_,λ_=>zBb ?_⟩))))))
  ·refine zLb (zD (zj (zh rfl (zj (zy (w_c (w_c (zoz (by decide) (by decide) (by decide) (zC ?_)))))))));rw[p59];refine zyj p2 (by omega) (by omega) (by omega) λv μ3 a3 b3 k3 _ p3=>?_;obtain⟨v,rfl⟩:=xy a3;exact q v μ3 (by omega) (k2.trans k3) (p3.up (by omega))
  ·exact zLb (zD (zj (zh rfl (zj (w_c (zC (zKc (s:=40) p2 (by omega) (by decide) (by decide) λv μ3 b3 k3 p3=>q v μ3 (by omega) (k2.trans k3) (p3.up (by omega)))))))))
 refine zJ (zoh (zgt (zX (zy (zh rfl (w_c (zrm ⟨_,rfl,λ_=>?_,λ_=>⟨λhb=>(by cases hb),λ_=>zBb (rest μ1 k1 p1)⟩⟩)))))));refine zX (zy (zh rfl (zHh (zC (zwy (α:=Nat) S [] (tm.app _ _ e1) zE ⟨_,rfl,λhb=>?_,λ_=>zBb (rest _ k1.app p1.app)⟩)))))
 have hne:0<S.length:=by
  rcases Nat.eq_zero_or_pos S.length with h0|h0
  ·rw[decide_eq_true (List.length_eq_zero_iff.mp h0)]at hb;cases hb
  ·exact h0
 have e2:(μ1++[tE.lst []])[a]?=some (.lst (nat S)):=tm.app _ _ e1;have p2:=p1.app (g:=[tE.lst []]);have k2:KB [pl] μ (μ1++[tE.lst []]):=k1.app;generalize μ1++[tE.lst []]=μ2 at e2 p2 k2;have lS:((nat S).length:Int)=((S.length:Nat):Int):=by rw[length_map]
 refine zLb (zy (zh rfl (zD (zj (zh rfl (zj (zD (zj (zh rfl (zC (zWg (zL e2) (zC ?_))))))))))));rw[lS];refine zKc p2 (by omega) hne (by omega) λv μ3 b3 k3 p3=>?_;have e3:=k3.at_ _ _ (Sz (yH ha)) e2;refine zwc (zL e3) (zFh b3) (q _ _ ?_ (k2.trans k3) p3);rw[getD_eq_getElem?_getD,yu b3,XF];exact hbd _ (getElem_mem b3)
def zdi(h:Rl R ts)(el:μ[l]?=some (.lst (nat S)))(hS:S.length<=30)(q:∀b μ',(b=true↔zIe R (z8d R ts S))->tm μ μ'->Q (.bl b) μ'):WF zqc [rlN R ts,.loc l] μ Q:=by
 refine z7b rfl ?_;show WS zRf [some (rlN R ts),some (.loc l)] μ _ _ _ _;unfold zRf;exact zLb (zRy h l S hS (zj (zh rfl (zj (zh rfl (zC ⟨rfl,el,q⟩))))))
def zAn{j:Nat}(d1:δ[i]?=some (some (.loc a)))(d2:δ[j]?=some (some (.int (k:Nat))))(ea:μ[a]?=some (.lst (nat S)))(hS:S.length<=30)(q:∀l μ',tm μ μ'->μ'[l]?=some (.lst (nat (S++[k])))->Q (.loc l) μ'):WE (zK z9e (zq i) (zWk (zo (zq j) zO))) δ μ Q:=by
 have e1:nat S++[D.int k]=nat (S++[k]):=by simp[nat]
 refine zy (zh d1 (zHh (zj (zh d2 (zC (zGo (tm.app _ _ ea) zE ?_ ?_))))))
 ·simp;omega
 ·rw[e1];exact q _ _ (tm.app.trans tm.app) zE
end
section
variable {μ μ':Mem}{n m k a:Nat}{R:List Nat}{ts kvs:List (Nat×Nat)}{S:List Nat}{Q:D->Mem->Prop}
def S55.put(s:S55 μ n m R ts kvs)(K:tZ kvs S)(h0:kvs.lookup k=none)(hk:k<10^60)(c:Can R ts kvs S k row)(s':Sh μ' n m (rlN R ts) (zVd kvs (z9i (S++[k]) row))):S55 μ' n m R ts (zVd kvs (z9i (S++[k]) row)) :=
 ⟨s.rl,s',zKo s.rs s.sh.nd K h0 c,λx hx=>by
  rcases(zLh K c.1).mp hx with hx|rfl
  ·exact s.key K x hx
  ·exact hk⟩
def ziy(s:S55 μ n m R ts kvs)(K:tZ kvs S)(h0:kvs.lookup k=none)(c:Can R ts kvs S k row):(zVd kvs (z9i (S++[k]) row)).length=kvs.length+1:=by
 have:=(zkj s.sh.nd K h0 c).length_eq;rw[length_map,length_append,length_singleton,K.len]at this;omega
def zFv(s:S55 μ n m R ts kvs)(K:tZ kvs S)(h0:kvs.lookup k=none)(c:Can R ts kvs S k row):zIe R (z8d R ts (S++[k])):=(zKo s.rs s.sh.nd K h0 c).fits (z6e _ _ s.sh.nd) (zkj s.sh.nd K h0 c)
def zyt(s:Sh μ n m (rlN R ts) kvs){ds:List D}(e:μ[a]?=some (.lst ds)):a≠n/\a≠m:=by
 constructor
 ·rintro rfl;have:=s.at_;rw[e]at this;cases this
 ·rintro rfl;have:=s.dc;rw[e]at this;cases this
def zHu(s:S55 μ n m R ts kvs)(K:tZ kvs S)(hk:k<10^60)(hn:k∉S)(hS:S.length<=20)
 (q:∀(kvs':List (Nat×Nat)) (μ':Mem),S55 μ' n m R ts kvs'->kvs'.length<=kvs.length+1->KB [m] μ μ'->Q (.bl true) μ'):WF zVg [.loc n,.int (k:Nat)] μ Q:=by
 have h0:=zOl K hn;have w:Wb 30 R (z8d R ts (S++[k])):=s.rl.wb (by simp;omega);refine z7b rfl ?_;show WS zQg [some (.loc n),some (.int (k:Nat)),none,none,none,none] μ _ _ _ _;unfold zQg;refine zJ (zob (zD (zVb (zh rfl ⟨n,_,rfl,s.sh.at_,z9c _ m,zC (zAb s.sh K ?_)⟩))));have e1:(μ++[tE.lst (nat S)])[μ.length]?=some (.lst (nat S)):=zE;have k1:tm μ (μ++[tE.lst (nat S)]):=tm.app;generalize μ++[tE.lst (nat S)]=μ1 at e1 k1;generalize μ.length=a at e1;have s1:=s.keep k1;have han:=zyt s1.sh e1;refine zJ (zob (w_c ?_));refine zJ (zCy (z4s (zVb (zh rfl ⟨n,_,rfl,s1.sh.at_,zDq _ m,zj (zh rfl (zC (zqw s.rl s1.sh K (s.key K) hk (λv e=>?_) (λV l μ3 _ pV hkV hc k3 g3 e3=>?_) λrow lr μ3 _ h30 c k3 g3 e3 s3=>?_)))⟩))))
 ·rw[h0]at e;cases e
 ·obtain⟨h30,ft⟩:S.length<30/\sV R ts kvs S k V:=by
   rcases hc with ⟨a,_⟩|h
   ·omega
   ·exact h
  have nf:¬zIe R (z8d R ts (S++[k])):=zEq w ft;have lV:=ft.len;have tV:=ft.tight w s.rs s.sh.nd K;refine⟨by decide +kernel,zob (zHA (zh rfl ⟨_,_,_,rfl,zE,rfl,?_⟩))⟩;have k4:tm μ1 (μ3++[tE.exc "Full" [("some",D.loc l)]]):=k3.to;have e4:(μ3++[tE.exc "Full" [("some",D.loc l)]])[l]?=some (.lst (nat V)):=tm.app _ _ e3;generalize μ3++[tE.exc "Full" [("some",D.loc l)]]=μ4 at k4 e4;have s4:=s1.keep k4;have ea4:=k4 _ _ e1;refine zJ (zoh (zX (zD (zj (zD (zVb (zh rfl ⟨n,_,rfl,s4.sh.at_,zDe _ m,zC (zWf s4.sh (zj (zAn rfl rfl ea4 (by omega) λl5 μ5 k5 e5=>zC (zdi s.rl e5 (by simp;omega) λb μ6 hb k6=>?_))))⟩)))))));have k46:=k5.trans k6;have s6:=s4.keep k46;have ea6:=k46 _ _ ea4;have e6:=k46 _ _ e4;refine⟨b,rfl,λhbt=>absurd (hb.mp hbt) nf,λ_=>zBb ?_⟩;refine zJ (zoh (z3o (zX (zy (zh rfl (w_c ⟨.bl false,_,rfl,_,rfl,λ_=>?_,λhb=>(by cases hb)⟩))))));refine z3o (zX (zy (zD (zVb (zh rfl ⟨n,_,rfl,s6.sh.at_,z9c _ m,zC (zAb s6.sh K (zh rfl (zwy S S zE (tm.app _ _ ea6) ⟨_,rfl,λ_=>?_,λhb=>?_⟩)))⟩)))))
  ·have ea7:(μ6++[tE.lst (nat S)])[a]?=some (.lst (nat S)):=tm.app _ _ ea6;have e7:(μ6++[tE.lst (nat S)])[l]?=some (.lst (nat V)):=tm.app _ _ e6;have k67:tm μ6 (μ6++[tE.lst (nat S)]):=tm.app;generalize μ6++[tE.lst (nat S)]=μ7 at ea7 e7 k67;refine zni (zX (zD (zj (zCr (z4f (zh rfl (.inr (.inr ⟨_,_,rfl,e7,zgd (by rw[length_map];omega),?_⟩))))))));refine z0f (λ(x:Nat)=>D.int x) V (λ_=>D.bl true) (λμ' k=>znb e7 k) (λy hy μ' kp=>?_) (λμ8 kp8=>?_)
   ·refine zTg ?_;unfold zYi;refine zy (zh rfl (zAn rfl rfl (kp _ _ ea7) (by omega) λl9 μ9 k9 e9=>zkx (zL e9) ⟨?_,kp.trans k9,kp⟩))
    have hy2:y∈S++[k]:=by
     obtain⟨T,sb,_,_,pV2⟩:=ft;obtain⟨i,hi,e⟩:=List.mem_map.mp (pV2.mem_iff.mp hy)
     have hi2:i<(S++[k]).length:=by
      have:=List.mem_range.mp (sb.subset hi);simp;omega
     rw[<-e,getD_eq_getElem?_getD,yu hi2];exact getElem_mem hi2
    rw[decide_eq_true hy2]
   ·have eb:(V.map λ_=>D.bl true)=(V.map λ_=>true).map D.bl:=by rw[map_map];rfl
    rw[eb];have ab:((V.map λ_=>true).all λb=>b)=true:=by rw[all_map];exact List.all_eq_true.mpr λ_ _=>rfl
    refine zC (zZz zE ?_);rw[ab];refine⟨_,rfl,λhb=>(by cases hb),λ_=>zBb ?_⟩;have k79:tm μ7 (μ8++[tE.lst ((V.map λ_=>true).map D.bl)]):=kp8.to;generalize μ8++[tE.lst ((V.map λ_=>true).map D.bl)]=μ9 at k79;have s9:=s6.keep (k67.trans k79);have e9:=k79 _ _ e7;refine zJ (zob (zD (zj (zD (zVb (zh rfl ⟨n,_,rfl,s9.sh.at_,zDe _ m,zC (zWf s9.sh (zj (zh rfl (zC (zEh s.rl e9 (by omega) λμA kA=>?_)))))⟩))))));have eA:=kA _ _ e9;have wV:Wb 31 R (z8d R ts V):=s.rl.wb (by omega);refine zLb (zy (zD (zj (zh rfl (zC (zWg (zL eA) ?_))))));refine zy (zD (zj (zh rfl (zj (zD (zj (zh rfl (zj (zom (zD (zj (zh rfl (zC (zWg (zL eA) ⟨_,rfl,⟨by omega,by rw[length_map];omega⟩,zC ?_⟩))))))))))))));rw[length_map,YD];refine zol (S:=yv V.length) wV zE (λi hi=>by rw[length_map];exact List.mem_range.mp hi) (by simp;omega) λlB μB kB _ eB=>?_;refine zC (zto eB (λh hh=>zWp h hh) (yG (zPj _ _ _) (by have:=s.rl.rl;omega)) λμC kC=>w_c (zmg (zKh ?_)));have et:((V.length:Nat):Int)=((zLn R (zcd R.length (z8d R ts V) (yv V.length)):Nat):Int)+1:=by omega
    rw[beq_iff_eq.mpr et];exact q kvs μC ((s9.keep kA).keep ((tm.app.trans kB).trans kC)) (by omega) (KB.of_keep (k1.trans (k4.trans (k46.trans (k67.trans (k79.trans (kA.trans ((tm.app.trans kB).trans kC))))))))
  ·rw[decide_eq_true rfl]at hb;cases hb
 ·have s3':=s1.put K h0 hk c s3;have ft:=zFv s1 K h0 c;have ea3:=k3.at_ _ _ (by simp;exact han.2) e1;refine zJ (zoh (zX (zD (zj (zD (zVb (zh rfl ⟨n,_,rfl,s3.at_,zDe _ m,zC (zWf s3 (zj (zAn rfl rfl ea3 (by omega) λl5 μ5 k5 e5=>zC (zdi s.rl e5 (by simp;omega) λb μ6 hb k6=>?_))))⟩)))))));have k36:=k5.trans k6;have s6:=s3'.keep k36;have ea6:=k36 _ _ ea3;refine⟨b,rfl,λ_=>?_,λhbf=>?_⟩
  ·obtain⟨S',K'⟩:=tZ.ex s6.sh.nd;have pS':S'.Perm (S++[k]):=K'.pm.trans (zkj s.sh.nd K h0 c).symm;have lS':S'.length=S.length+1:=by rw[pS'.length_eq];simp
   refine zLb (zbu (zy (zh rfl (w_c (zTA rfl ⟨_,rfl,λ_=>?_,λhb=>(by cases hb)⟩)))));refine zy (zD (zVb (zh rfl ⟨n,_,rfl,s6.sh.at_,z9c _ m,zC (zAb s6.sh K' (zD (zj (zAn rfl rfl (tm.app _ _ ea6) (by omega) λl8 μ8 k8 e8=>zC (zHp e8 pS' K'.pw (by simp;omega) (zZx S' S' (tm.app _ _ (k8 _ _ zE)) zE ?_))))))⟩)));rw[decide_eq_true rfl];exact q _ _ (s6.keep ((tm.app.trans k8).trans tm.app)) (by rw[ziy s1 K h0 c];omega) ((KB.of_keep k1).trans (k3.trans (KB.of_keep (k36.trans ((tm.app.trans k8).trans tm.app)))))
  ·rw[hb.mpr ft]at hbf;cases hbf
def zrr{R':List Nat}(h':Rl R' ts')(s:S55 μ n m R ts kvs)
 (q:∀(R2:List Nat)(ts2 kvs':List (Nat×Nat)) (μ':Mem),S55 μ' n m R2 ts2 kvs'->kvs'.length<=kvs.length->KB [n,m] μ μ'->Q (.bl true) μ'):WF zId [.loc n,rlN R' ts'] μ Q:=by
 obtain⟨S,K⟩:=tZ.ex s.sh.nd;have hf:=s.sh.few;have hl:=K.len;have w:Wb 30 R' (z8d R' ts' S):=h'.wb (by omega);refine z7b rfl ?_;show WS zHd [some (.loc n),some (rlN R' ts'),none,none] μ _ _ _ _;unfold zHd;refine zJ (zob (zD (zj (zh rfl (zj (zD (zVb (zh rfl ⟨n,_,rfl,s.sh.at_,z9c _ m,zC (zAb s.sh K (zC (zdi h' zE (by omega) λb μ2 hb k2=>?_)))⟩))))))));have k02:tm μ μ2:=tm.app.trans k2;have s2:=s.keep k02;refine zJ (zob (w_c ?_));refine zJ (zNA (z4s (zVb (zh rfl ⟨n,_,rfl,s2.sh.at_,zQr _ m,zj (zh rfl (zC (zev h' s2.sh K (s.key K) (λT l μ3 sb hc _ k3 g3 e3=>?_) λhs μ3 hl' rt k3 s3=>?_)))⟩))))
 ·have nf:¬zIe R' (z8d R' ts' S):=zSh w (by rw[length_map];exact sb) hc
  have hbf:b=false:=by
   cases b with
   |false=>rfl
   |true=>exact absurd (hb.mp rfl) nf
  subst hbf;refine zSz (by decide +kernel) (zob (w_c ?_));have s3:=s2.keep k3;refine zLb (zbu (zy (zh rfl (zh rfl (zAt false false ⟨_,rfl,λ_=>?_,λhb=>(by cases hb)⟩)))));refine z9z (zy (zD (zVb (zh rfl ⟨n,_,rfl,s3.sh.at_,zDe _ m,zC (zWf s3.sh (zh rfl (zdA (zHq 4 R ts) (zHq 4 R' ts') ⟨_,rfl,λ_=>?_,λ_=>?_⟩)))⟩))))
  ·exact w_not (zh rfl ⟨_,rfl,q R ts kvs μ3 s3 (yk _) (KB.of_keep (k02.trans k3))⟩)
  ·exact q R ts kvs μ3 s3 (yk _) (KB.of_keep (k02.trans k3))
 ·obtain⟨rs',pm⟩:=zQp s.sh.nd K hl' rt;have ft:zIe R' (z8d R' ts' S):=rs'.fits (z6e _ _ s.sh.nd) pm;have hbt:b=true:=hb.mpr ft;subst hbt
  have ln:(zVd kvs (S.zip hs)).length<=kvs.length:=by
   have:=pm.length_eq;rw[length_map]at this;omega
  refine zLb (zbu (zy (zh rfl (zh rfl (zAt true true ⟨_,rfl,λ_=>?_,λhb=>(by cases hb)⟩)))));refine z9z (zy (zD (zVb (zh rfl ⟨n,_,rfl,s3.at_,zDe _ m,zC (zWf s3 (zh rfl (znA (zHq 4 R' ts') (zHq 4 R' ts') ⟨_,rfl,λhb=>(by cases hb),λ_=>?_⟩)))⟩))));exact q R' ts' _ μ3 ⟨h',s3,rs',λx hx=>s.bd x (K.pm.mem_iff.mp (pm.mem_iff.mpr hx))⟩ ln ((KB.of_keep k02).trans k3)
end
def zEA{α:FA}{P:List D->(Mem->Bool)->Mem->Prop}(h:WA α δ μ λds μ1=>∃x y u v o1 o2,ds=[x,y]/\zww μ1 x=some (u,o1)/\zww μ1 y=some (v,o2)/\P (zjv u v) (λm=>o1 m&&o2 m) μ1):WI (z7z α) δ μ P:=by
 obtain⟨ds,μ1,e1,x,y,u,v,o1,o2,rfl,h1,h2,q⟩:=h;exact⟨_,_,_,by simp only[z7z,e1,yr,h1,h2],q⟩
def zrq(h:μ[n]?=some (.lst xs)):zww μ (.loc n)=some (xs,z4j n xs):=by
 simp only[zww,h]
def zqq{α β:Type}(f:α->D)(g:β->D):∀(xs:List α)(ys:List β),zjv (xs.map f) (ys.map g)=(xs.zip ys).map λp=>D.tup [f p.1,g p.2]
 |[],_=>rfl
 |_::_,[]=>rfl
 |x::xs,y::ys=>by
  show D.tup [f x,g y]::zjv (xs.map f) (ys.map g)=_;rw[zqq f g xs ys];rfl
section
variable {μ μ':Mem}{n m k a:Nat}{R:List Nat}{ts kvs:List (Nat×Nat)}{S:List Nat}{Q:D->Mem->Prop}
def z9t(s:S55 μ n m R ts kvs)(K:tZ kvs S)(hk:k<10^60)(hn:k∉S)(hS:S.length<=20)
 (q:∀(kvs':List (Nat×Nat)) (μ':Mem),S55 μ' n m R ts kvs'->kvs'.length<=kvs.length->KB [m] μ μ'->Q (.bl true) μ'):WF zKb [.loc n,.int (k:Nat)] μ Q:=by
 have h0:=zOl K hn;have hl:=K.len;have w:Wb 30 R (z8d R ts (S++[k])):=s.rl.wb (by simp;omega);refine z7b rfl ?_;show WS zNb [some (.loc n),some (.int (k:Nat)),none,none] μ _ _ _ _;unfold zNb;refine zJ (zob (zD (zVb (zh rfl ⟨n,_,rfl,s.sh.at_,z9c _ m,zC (zAb s.sh K ?_)⟩))));have e1:(μ++[tE.lst (nat S)])[μ.length]?=some (.lst (nat S)):=zE;have k1:tm μ (μ++[tE.lst (nat S)]):=tm.app;generalize μ++[tE.lst (nat S)]=μ1 at e1 k1;generalize μ.length=a at e1;have s1:=s.keep k1;refine zJ (zoh (zni (zX (zD (zj (zD (zVb (zh rfl ⟨n,_,rfl,s1.sh.at_,zDe _ m,zC (zWf s1.sh (zj (zAn rfl rfl e1 (by omega) λl5 μ5 k5 e5=>zC (zdi s.rl e5 (by simp;omega) λb μ6 hb k6=>?_))))⟩))))))));have k16:=k5.trans k6;have s6:=s1.keep k16;have ea6:=k16 _ _ e1;have han:=zyt s6.sh ea6;refine⟨b,rfl,λhbt=>zLb (w_c (q kvs μ6 s6 (yk _) (KB.of_keep (k1.trans k16)))),λhbf=>zBb ?_⟩;have ft:zIe R (z8d R ts (S++[k])):=hb.mp (by cases b with|true=>rfl|false=>cases hbf);refine zJ (zUi (zvm (zVb (zh rfl ⟨n,_,rfl,s6.sh.at_,zDq _ m,zj (zh rfl (zC (WX.of (zqw s.rl s6.sh K (s.key K) hk (λv e=>?_) (λV l μ3 _ pV hkV hc k3 g3 e3=>?_) λrow lr μ3 _ h30 c k3 g3 e3 s3=>?_))))⟩))))
 ·rw[h0]at e;cases e
 ·rcases hc with ⟨x,_⟩|⟨_,f⟩
  ·omega
  ·exact zEq w f ft
 ·have s3':=s6.put K h0 hk c s3;have ea3:=k3.at_ _ _ (by simp;exact han.2) ea6;have pm:=zkj s.sh.nd K h0 c;have km:k∈(zVd kvs (z9i (S++[k]) row)).map (·.1):=pm.mem_iff.mp (by simp);obtain⟨p,hp,ep⟩:=List.mem_map.mp km
  have hv:(zVd kvs (z9i (S++[k]) row)).lookup k=some p.2:=by
   have:=zYj s3.nd p hp;rw[ep]at this;exact this
  refine zJ (zob (zD (zVb (zh rfl ⟨n,_,rfl,s3.at_,zxl _ m,zj (zh rfl (zC (zoq s3 ?_)))⟩))));rw[hv];refine zLb (zbu (zy (zvm (zVb (zh rfl ⟨n,_,rfl,s3.at_,zVq _ m,zj (zh rfl (zC (WX.of (zcw s3 (λv e=>?_) λe=>?_))))⟩)))))
  ·rw[hv]at e;obtain rfl:p.2=v:=by simpa using e
   have s4:=s3.pop k;have k4:KB [m] μ3 (μ3.set m (.dct (dkN (zls (zVd kvs (z9i (S++[k]) row)) k)))):=KB.refl.set (.inl (by simp));have ea4:=k4.at_ _ _ (by simp;exact han.2) ea3;generalize μ3.set m (.dct (dkN (zls (zVd kvs (z9i (S++[k]) row)) k)))=μ4 at s4 k4 ea4
   have ks:((zls (zVd kvs (z9i (S++[k]) row)) k).map (·.1))=((zVd kvs (z9i (S++[k]) row)).map (·.1)).filter (λx=>decide (x≠k)):=by
    rw[List.filter_map];rfl
   have pS:S.Perm ((zls (zVd kvs (z9i (S++[k]) row)) k).map (·.1)):=by
    have p1:=pm.filter (λx=>decide (x≠k))
    have e2:(S++[k]).filter (λx=>decide (x≠k))=S:=by
     have e3:S.filter (λx=>decide (x≠k))=S:=List.filter_eq_self.mpr λx hx=>decide_eq_true (show x≠k from λe=>hn (e▸hx));rw[List.filter_append,e3];simp
    rw[e2]at p1;rw[ks];exact p1
   have K4:tZ (zls (zVd kvs (z9i (S++[k]) row)) k) S:=⟨pS,K.pw⟩
   refine zh rfl (zKh ⟨_,rfl,λ_=>?_,λhb=>?_⟩)
   ·refine zy (zD (zVb (zh rfl ⟨n,_,rfl,s4.at_,z9c _ m,zC (zAb s4 K4 (zh rfl (zZx S S zE (tm.app _ _ ea4) ?_)))⟩)));rw[decide_eq_true rfl];refine q _ _ ⟨s.rl,s4.keep tm.app,zpo s3'.rs,λx hx=>s3'.bd x ((List.filter_sublist.map _).subset hx)⟩ ?_ ((KB.of_keep (k1.trans k16)).trans (k3.trans (k4.app)));have:=K4.len;omega
   ·simp at hb
  ·rw[hv]at e;cases e
def zKp(s:S55 μ n m R ts kvs)(q:∀μ',tm μ μ'->Q (.bl true) μ'):WF zac [.loc n] μ Q:=by
 obtain⟨S,K⟩:=tZ.ex s.sh.nd;have hf:=s.sh.few;have hl:=K.len;have w:Wb 30 R (z8d R ts S):=s.rl.wb (by omega);have rt:=s.rs.lay s.sh.nd K.pm;have ft:zIe R (z8d R ts S):=s.rs.fits s.sh.nd K.pm;refine z7b rfl ?_;show WS zFc [some (.loc n),none,none] μ _ _ _ _;unfold zFc;refine zJ (zob (zD (zVb (zh rfl ⟨n,_,rfl,s.sh.at_,z9c _ m,zC (zAb s.sh K ?_)⟩))));have e1:(μ++[tE.lst (nat S)])[μ.length]?=some (.lst (nat S)):=zE;have k1:tm μ (μ++[tE.lst (nat S)]):=tm.app;generalize μ++[tE.lst (nat S)]=μ1 at e1 k1;generalize μ.length=a at e1;have s1:=s.keep k1;refine zJ (zob (zvm (zj (zD (zj (zD (zVb (zh rfl ⟨n,_,rfl,s1.sh.at_,zDe _ m,zC (zWf s1.sh (zj (zh rfl (zC (zEh s.rl e1 (by omega) λμ2 k2=>zC (WX.of (zxs w (by omega) (λl ls μ3 _ rx _ _ k3=>?_) λT l μ3 nf _ _ _ _ _=>absurd ft nf)))))))⟩))))))));have k13:=k2.trans k3;have e3:=k13 _ _ e1;have s3:=s1.keep k13;refine zLb (zD (zj (zCr (zEA (zj (zh rfl (zj (zh rfl (zC ⟨_,_,_,_,_,_,rfl,zrq e3,zrq rx.at_,?_⟩)))))))));rw[zqq];refine⟨zgd (by rw[length_map,List.length_zip];omega),?_⟩
 obtain⟨X,eX,la⟩:=zRq rt λi hi=>by
  rw[length_map]at hi;rw[getD_eq_getElem?_getD,yh,yu hi];obtain⟨v,hv⟩:=K.look (getElem_mem hi);simp[hv]
 refine z0f (λ(p:Nat×Nat)=>D.tup [.int (p.1:Nat),.loc p.2]) (S.zip ls) (λ_=>D.bl true) (λμ' k=>by rw[znb e3 k,znb rx.at_ k];rfl) (λp hp μ' kp=>?_) (λμ' kp=>?_)
 ·obtain⟨j,hj⟩:=List.mem_iff_getElem?.mp hp;rw[List.getElem?_zip_eq_some]at hj;have hjS:j<S.length:=(List.getElem?_eq_some_iff.mp hj.1).1
  have hr:((yv (z8d R ts S).length).map (plc R (z8d R ts S)))[j]?=some (plc R (z8d R ts S) j):=by
   rw[yh,List.getElem?_range (by rw[length_map];exact hjS)];rfl
  have er:=kp _ _ (rx.row j _ _ hj.2 hr)
  have hjx:S[j]=p.1:=by
   have:=hj.1;rw[yu hjS]at this;simpa using this
  obtain⟨v,hv⟩:=K.look (by rw[<-hjx];exact getElem_mem hjS:p.1∈S)
  have hX:X[j]?=some v:=by
   have h1:(nat X)[j]?=some (D.int (v:Nat)):=by
    rw[<-eX,yh,yh,hj.1];simp[hv]
   rw[yh]at h1
   cases ex:X[j]? with
   |none=>rw[ex]at h1;cases h1
   |some u=>
    rw[ex]at h1;have:((u:Nat):Int)=v:=by simpa using h1
    rw[show u=v by omega]
  have hjK:j<(z8d R ts S).length:=by rw[length_map];exact hjS
  have hin:v∈plc R (z8d R ts S) j:=by
   have hh:v∈(z8d R ts S).getD j []:=rt.home j v (by rw[yh,hj.1];simp[hv]);refine plc_mem.mpr ⟨?_,hh,?_⟩
   ·rw[getD_eq_getElem?_getD,yu hjK]at hh;exact(w.kn _ (getElem_mem hjK)).2 v hh
   ·have:=zvu la hjK;rw[getD_eq_getElem?_getD,hX]at this;exact this
  have s4:=s3.keep kp;refine zWr (zih (zTg (zih (zTg (zep ?_)))));unfold zYe;refine zy (zD (zVb (zh rfl ⟨n,_,rfl,s4.sh.at_,zxl _ m,zj (zh rfl (zC (zoq s4.sh ?_)))⟩)));rw[hv];refine zh rfl (zkx (zL er) ⟨?_,kp,kp⟩);rw[decide_eq_true hin]
 ·have eb:((S.zip ls).map λ_=>D.bl true)=((S.zip ls).map λ_=>true).map D.bl:=by rw[map_map];rfl
  rw[eb];have ab:(((S.zip ls).map λ_=>true).all λb=>b)=true:=by rw[all_map];exact List.all_eq_true.mpr λ_ _=>rfl
  refine zC (zZz zE ?_);rw[ab];exact q _ (k1.trans (k13.trans kp.to))
end
structure T55(ns:List Int)(μ:Mem)(pl B n m N:Nat)(R:List Nat)(ts kvs:List (Nat×Nat)):Prop where
 s:S55 μ n m R ts kvs
 p:Te ns μ pl B
 l:kvs.length<=N
section
variable {ns:List Int}{μ μ':Mem}{pl B B' n m N:Nat}{R:List Nat}{ts kvs:List (Nat×Nat)}{S:List Nat}
def T55.ne(t:T55 ns μ pl B n m N R ts kvs):pl≠n/\pl≠m:=by
 obtain⟨b,j,r,_,e⟩:=t.p;exact zyt t.s.sh e
def T55.take(t:T55 ns μ pl B n m N R ts kvs)(k:KB [pl] μ μ')(p:Te ns μ' pl B'):T55 ns μ' pl B' n m N R ts kvs:=by
 have h:=t.ne;have sh:=t.s.sh;exact⟨⟨t.s.rl,⟨k.at_ _ _ (Sz h.1) sh.at_,k.at_ _ _ (Sz h.2) sh.dc,sh.nd,sh.few⟩,t.s.rs,t.s.bd⟩,p,t.l⟩
def T55.keep(t:T55 ns μ pl B n m N R ts kvs)(k:tm μ μ'):T55 ns μ' pl B n m N R ts kvs:=⟨t.s.keep k,t.p.keep k,t.l⟩
def T55.deed{L:List Nat}{R2:List Nat}{ts2 kvs2:List (Nat×Nat)}{N2:Nat}(t:T55 ns μ pl B n m N R ts kvs)(k:KB L μ μ')(hL:pl∉L)(s:S55 μ' n m R2 ts2 kvs2)(l:kvs2.length<=N2)(hB:B<=B'):T55 ns μ' pl B' n m N2 R2 ts2 kvs2:=⟨s,(t.p.kb k hL).up hB,l⟩
variable {x0 x3 x4 x5 x6:Option D}{nx:M.Loc->Mem->Prop}{rt:D->Mem->Prop}{bk ct:M.Loc->Mem->Prop}
def zYu(t:T55 ns μ pl B n m N R ts kvs)(hN:N<20)(hB:B<=10000)
 (q:∀(y4 y5 y6:Option D)(R2:List Nat)(ts2 kvs2:List (Nat×Nat)) (μ':Mem),T55 ns μ' pl (B+40) n m (N+1) R2 ts2 kvs2->nx [x0,some (.loc pl),some (.loc n),x3,y4,y5,y6] μ'):WS z1o [x0,some (.loc pl),some (.loc n),x3,x4,x5,x6] μ nx rt bk ct:=by
 unfold z1o;refine zJ (zob (zD (zj (zh rfl (zj (w_c (zC (zKc (s:=8) t.p (by omega) (by decide) (by decide) λv μ1 hv k1 p1=>?_))))))));have t1:=t.take k1 p1;obtain⟨S,K⟩:=tZ.ex t.s.sh.nd;have hl:=K.len;have hkl:=t.l;refine zJ (zob (zD (zVb (zh rfl ⟨n,_,rfl,t1.s.sh.at_,z9c _ m,zC (zAb t1.s.sh K ?_)⟩))));have ha0:μ1.length≠pl:=yT p1.lt;have t2:=t1.keep (μ':=μ1++[tE.lst (nat S)]) tm.app;have e2:(μ1++[tE.lst (nat S)])[μ1.length]?=some (.lst (nat S)):=zE;generalize μ1++[tE.lst (nat S)]=μ2 at t2 e2;generalize μ1.length=a at e2 ha0;refine zJ (zob (zD (zj (zh rfl (zj (zh rfl (zC (zdv t2.p (by omega) e2 ha0 (by omega) (t.s.key K) λk μ3 hk k3 p3=>?_))))))));have t3:=t2.take k3 p3;have e3:=k3.at_ _ _ (Sz (yH ha0)) e2;have hpn:=t3.ne
 have last:∀(R2:List Nat)(ts2 kvs2:List (Nat×Nat)) (μ4:Mem),T55 ns μ4 pl (B+40) n m (N+1) R2 ts2 kvs2->WS (sIf (zIk (zbb (zH zac (zo (zq 2) zO)))) (zuc (fC (.bl false))) zfc) [x0,some (.loc pl),some (.loc n),x3,some (.int (v:Nat)),some (.loc a),some (.int (k:Nat))] μ4 nx rt bk ct:=λR2 ts2 kvs2 μ4 t4=>by
  refine zoh (zni (zX (zD (zj (zh rfl (zC (zKp t4.s λμ5 k5=>⟨_,rfl,λhb=>(by cases hb),λ_=>zBb ?_⟩)))))));exact q _ _ _ R2 ts2 kvs2 μ5 (t4.keep k5)
 refine zJ (zoh (zX (zy (zh rfl (w_c (zKh ⟨_,rfl,λ_=>?_,λ_=>?_⟩))))))
 ·refine zoh (zni (zX (zD (zj (zh rfl (zj (zD (zj (zh rfl (zC (zbk t3.p (by omega) λR' ts' μ4 hr k4 p4=>zC ?_)))))))))));have t4:=t3.take k4 p4;refine zrr hr t4.s λR2 ts2 kvs2 μ5 s5 l5 k5=>⟨_,rfl,λhb=>(by cases hb),λ_=>zBb ?_⟩
  exact last R2 ts2 kvs2 μ5 (t4.deed k5 (by simp;exact hpn) s5 (by omega) (by omega))
 ·refine zoh (zX (zy (zh rfl (zh rfl (zkx (zL e3) ⟨_,rfl,λhb=>?_,λhb=>?_⟩)))))
  ·have hm:k∈S:=of_decide_eq_true hb;obtain⟨u,hu⟩:=K.look hm;refine zUi (zvm (zVb (zh rfl ⟨n,_,rfl,t3.s.sh.at_,zVq _ m,zj (zh rfl (zC (WX.of (zcw t3.s.sh (λv e=>?_) λe=>?_))))⟩)))
   ·refine last R ts (zls kvs k) _ (t3.deed (KB.refl.set (.inl (by simp)):KB [m] μ3 _) (by simp;exact hpn.2) ⟨t3.s.rl,t3.s.sh.pop k,zpo t3.s.rs,λx hx=>t3.s.bd x ((List.filter_sublist.map _).subset hx)⟩ ?_ (by omega));exact yG List.filter_sublist.length_le (by omega)
   ·rw[hu]at e;cases e
  ·have hn:k∉S:=of_decide_eq_false hb;refine zoh (zX (zy (zh rfl (w_c (zKh ⟨_,rfl,λ_=>?_,λ_=>?_⟩)))))
   ·refine zoh (zni (zX (zD (zj (zh rfl (zj (zh rfl (zC (z9t t3.s K hk hn (by omega) λkvs2 μ5 s5 l5 k5=>⟨_,rfl,λhb=>(by cases hb),λ_=>zBb ?_⟩)))))))));exact last R ts kvs2 μ5 (t3.deed k5 (by simp;exact hpn.2) s5 (by omega) (by omega))
   ·refine zoh (zni (zX (zD (zj (zh rfl (zj (zh rfl (zC (zHu t3.s K hk hn (by omega) λkvs2 μ5 s5 l5 k5=>⟨_,rfl,λhb=>(by cases hb),λ_=>zBb ?_⟩)))))))));exact last R ts kvs2 μ5 (t3.deed k5 (by simp;exact hpn.2) s5 (by omega) (by omega))
end
def zKv(ns:List Int)(_hn:ns.length<=63):∃μ',zxr [.fz (ns.map .int)] []=some (.bl true,μ'):=by
 have main:WF zxr [.fz (ns.map .int)] [] λd _=>d=.bl true:=by
  refine z7b rfl ?_;show WS zKu [some (.fz (ns.map .int)),none,none,none,none,none,none] [] _ _ _ _;unfold zKu;refine zJ (zob (zD (zj (zh rfl (zC (zRx λμ1 k1 p1 _=>?_))))));generalize ([]:Mem).length=pl at p1;refine zJ (zob (z3w (zj (zD (zj (zh rfl (zC (zbk p1 (by omega) λR ts μ2 hr k2 p2=>zC ⟨_,rfl,λn m μ3 k3 _ _ _ _ s3=>?_⟩))))))));have t3:T55 ns μ3 pl (0+30) n m 0 R ts []:=⟨⟨hr,s3,⟨by simp,by simp⟩,by simp⟩,p2.keep k3,by simp⟩
  refine zJ (z7h (zym (zj (zD (zj (zh rfl (zj (w_c (zC (zKc (s:=21) t3.p (by omega) (by decide) (by decide) λv μ4 hv k4 p4=>zC ⟨_,rfl,by omega,by omega,?_⟩))))))))));rw[YD];have t4:=t3.take k4 p4;refine z7c (λi δ μ=>∃(x3 x4 x5 x6:Option D)(R:List Nat)(ts kvs:List (Nat×Nat)),δ=[some (.fz (ns.map .int)),some (.loc pl),some (.loc n),x3,x4,x5,x6]/\T55 ns μ pl (31+40*i) n m i R ts kvs) ⟨_,_,_,_,_,_,_,rfl,t4⟩ (λ_ _ _ _=>rfl) ?_ ?_
  ·rintro i x δ μ hx ⟨x3,x4,x5,x6,R,ts,kvs,rfl,t⟩;obtain⟨hi,rfl⟩:=zbm hx;refine zTg ?_;exact zYu t (by omega) (by omega) λy4 y5 y6 R2 ts2 kvs2 μ' t'=>⟨_,_,_,_,_,_,_,rfl,t'⟩
  ·rintro δ μ ⟨x3,x4,x5,x6,R,ts,kvs,rfl,t⟩;exact zLb (w_c rfl)
 obtain⟨d,μ',e,rfl⟩:=main;exact⟨μ',e⟩
end P
namespace P
open PySem PySem.Spec PyProof.Rows L2 M
set_option maxHeartbeats 4000000
def ln1{α:Type}:∀{us:List α},us.length=1->∃a0,us=[a0]
 |[a0],_=>⟨a0,rfl⟩
def fa1{K:yw}{mg:yy->Option yb}{h:yV}{x p0:yy}{st:Yi}{f:yd}{fd:yi}(X:K.In h)(G:h.Ns yp mg)(a:Yq K yp x=some (some (.ref f)))(u:Fun K x x st f fd)
 (b:∀(kV doc pm:yb)(an:Option yd)(cdv ct a0:yb),bindArgs (W.fnOf x x (zWd st) (zNc st) (zB st) .none kV doc pm an cdv ct) ⟨[a0],[]⟩=pure [(p0,a0)]):FnAt K mg x st [p0] f fd :=
 ⟨u,xO X G a,u.binds λkV doc pm an cdv ct us hl=>by obtain⟨a0,rfl⟩:=ln1 hl;exact b kV doc pm an cdv ct a0⟩
def ln2{α:Type}:∀{us:List α},us.length=2->∃a0 a1,us=[a0,a1]
 |[a0,a1],_=>⟨a0,a1,rfl⟩
def fa2{K:yw}{mg:yy->Option yb}{h:yV}{x p0 p1:yy}{st:Yi}{f:yd}{fd:yi}(X:K.In h)(G:h.Ns yp mg)(a:Yq K yp x=some (some (.ref f)))(u:Fun K x x st f fd)
 (b:∀(kV doc pm:yb)(an:Option yd)(cdv ct a0 a1:yb),bindArgs (W.fnOf x x (zWd st) (zNc st) (zB st) .none kV doc pm an cdv ct) ⟨[a0,a1],[]⟩=pure [(p0,a0),(p1,a1)]):FnAt K mg x st [p0,p1] f fd :=
 ⟨u,xO X G a,u.binds λkV doc pm an cdv ct us hl=>by obtain⟨a0,a1,rfl⟩:=ln2 hl;exact b kV doc pm an cdv ct a0 a1⟩
def ln3{α:Type}:∀{us:List α},us.length=3->∃a0 a1 a2,us=[a0,a1,a2]
 |[a0,a1,a2],_=>⟨a0,a1,a2,rfl⟩
def fa3{K:yw}{mg:yy->Option yb}{h:yV}{x p0 p1 p2:yy}{st:Yi}{f:yd}{fd:yi}(X:K.In h)(G:h.Ns yp mg)(a:Yq K yp x=some (some (.ref f)))(u:Fun K x x st f fd)
 (b:∀(kV doc pm:yb)(an:Option yd)(cdv ct a0 a1 a2:yb),bindArgs (W.fnOf x x (zWd st) (zNc st) (zB st) .none kV doc pm an cdv ct) ⟨[a0,a1,a2],[]⟩=pure [(p0,a0),(p1,a1),(p2,a2)]):FnAt K mg x st [p0,p1,p2] f fd :=
 ⟨u,xO X G a,u.binds λkV doc pm an cdv ct us hl=>by obtain⟨a0,a1,a2,rfl⟩:=ln3 hl;exact b kV doc pm an cdv ct a0 a1 a2⟩
def ln4{α:Type}:∀{us:List α},us.length=4->∃a0 a1 a2 a3,us=[a0,a1,a2,a3]
 |[a0,a1,a2,a3],_=>⟨a0,a1,a2,a3,rfl⟩
def fa4{K:yw}{mg:yy->Option yb}{h:yV}{x p0 p1 p2 p3:yy}{st:Yi}{f:yd}{fd:yi}(X:K.In h)(G:h.Ns yp mg)(a:Yq K yp x=some (some (.ref f)))(u:Fun K x x st f fd)
 (b:∀(kV doc pm:yb)(an:Option yd)(cdv ct a0 a1 a2 a3:yb),bindArgs (W.fnOf x x (zWd st) (zNc st) (zB st) .none kV doc pm an cdv ct) ⟨[a0,a1,a2,a3],[]⟩=pure [(p0,a0),(p1,a1),(p2,a2),(p3,a3)]):FnAt K mg x st [p0,p1,p2,p3] f fd :=
 ⟨u,xO X G a,u.binds λkV doc pm an cdv ct us hl=>by obtain⟨a0,a1,a2,a3,rfl⟩:=ln4 hl;exact b kV doc pm an cdv ct a0 a1 a2 a3⟩
def all_of{l:W.OpenLaw}{w:yL}{K:yw}{h:yV}{mg:yy->Option yb}{fa:yd}(X:K.In h)(G:h.Ns yp mg)(hfa:mg "law"=some (.ref fa))(e:Hd.obs K=Hd.good)
 : ∃fd:yi,(∀(s:ye)(v:yb),BindsTo s fd ⟨[v],[]⟩ [("_law_script",v)])/\∀base:yV,K.In base->base.Ns yp mg->tq l.prog w K mg base CX0 9 fa fd ["_law_script"] (spM K 1 zxr):=by
 have e_fn:=congrArg (·.1) e;have e_vv:=congrArg (·.2.1) e;have e_it:=congrArg (·.2.2.1) e;have e_bb:=congrArg (·.2.2.2.1) e;have e_ob:=congrArg (·.2.2.2.2.1) e;have e_ov:=congrArg (·.2.2.2.2.2.1) e;have e_cf:=congrArg (·.2.2.2.2.2.2.1) e;have e_ex:=congrArg (·.2.2.2.2.2.2.2) e;obtain⟨⟨_,_,a0,u0⟩,e_fn⟩:=fnc e_fn;have zzg:FnAt K mg "_law_pen" zRg zsd _ _:=fa1 X G a0 u0 λ_ _ _ _ _ _ _=>rfl;obtain⟨pn_Shelf,e_vv⟩:=yf e_vv;obtain⟨pg_Shelf,e_bb⟩:=yf e_bb;obtain⟨ph_Shelf,e_bb⟩:=yf e_bb;obtain⟨po_Shelf,e_bb⟩:=yf e_bb;obtain⟨ps0_Shelf,e_vv⟩:=yf e_vv;have cl_Shelf:Cls K 311:=⟨pg_Shelf,ph_Shelf,po_Shelf,ps0_Shelf⟩
 obtain⟨na,e_vv⟩:=yf e_vv;have tF:zZr K "Shelf" "nest_of":=λC h=>by rw[pn_Shelf]at h;cases h;exact⟨cl_Shelf,na⟩
 obtain⟨na,e_vv⟩:=yf e_vv;have tL:zZr K "Shelf" "kept_rule":=λC h=>by rw[pn_Shelf]at h;cases h;exact⟨cl_Shelf,na⟩
 obtain⟨ma,e_vv⟩:=yf e_vv;obtain⟨mb,e_bb⟩:=yf e_bb;obtain⟨_,_,_,_,_,_,_,_,_,ml,mc,mk⟩:=zEc (yf e_fn).1;replace e_fn:=(yf e_fn).2;have u1:=zze (st:=zbc) ml mc mk;obtain⟨mm,e_bb⟩:=yf e_bb;obtain⟨mq,e_bb⟩:=yf e_bb;have zGc:Sg K mg "Shelf" zbc zgb _ _ _:=⟨pn_Shelf,xO X G pn_Shelf,⟨mm,ma,mb,mq⟩,u1,(u1.binds (ps:=zgb) λ_ _ _ _ _ _ us hl=>by obtain⟨_,_,rfl⟩:=ln2 hl;rfl)⟩
 obtain⟨⟨_,_,a2,u2⟩,e_fn⟩:=fnc e_fn;have zPe:FnAt K mg "_law_mixed" zWe zsc _ _:=fa2 X G a2 u2 λ_ _ _ _ _ _ _ _=>rfl;obtain⟨⟨_,_,a3,u3⟩,e_fn⟩:=fnc e_fn;have zR:FnAt K mg "_law_take" zyd zxb _ _:=fa2 X G a3 u3 λ_ _ _ _ _ _ _ _=>rfl;obtain⟨⟨_,_,a4,u4⟩,e_fn⟩:=fnc e_fn;have zEe:FnAt K mg "_law_rule" ztf zVc _ _:=fa1 X G a4 u4 λ_ _ _ _ _ _ _=>rfl;obtain⟨ma,e_vv⟩:=yf e_vv;obtain⟨mb,e_bb⟩:=yf e_bb;obtain⟨_,_,_,_,_,_,_,_,_,ml,mc,mk⟩:=zEc (yf e_fn).1;replace e_fn:=(yf e_fn).2;have u5:=zze (st:=zS) ml mc mk;have zt:MethAt K "Shelf" "all_there" "Shelf.all_there" zS zA _ _ _:=⟨pn_Shelf,cl_Shelf,⟨ma,mb,mk⟩,u5,(u5.binds (ps:=zA) λ_ _ _ _ _ _ us hl=>by obtain⟨_,rfl⟩:=ln1 hl;rfl)⟩
 obtain⟨⟨_,_,a6,u6⟩,e_fn⟩:=fnc e_fn;have zsg:FnAt K mg "_law_key" zqg zvd _ _:=fa2 X G a6 u6 λ_ _ _ _ _ _ _ _=>rfl;obtain⟨⟨_,_,a7,u7⟩,e_fn⟩:=fnc e_fn;have zim:FnAt K mg "lying" zDm zFg _ _:=fa2 X G a7 u7 λ_ _ _ _ _ _ _ _=>rfl;obtain⟨⟨_,_,a8,u8⟩,e_fn⟩:=fnc e_fn;have zAf:FnAt K mg "pushes_to" zDf zWc _ _:=fa3 X G a8 u8 λ_ _ _ _ _ _ _ _ _=>rfl;obtain⟨⟨_,_,a9,u9⟩,e_fn⟩:=fnc e_fn;have zLj:FnAt K mg "left" zsn z9f _ _:=fa2 X G a9 u9 λ_ _ _ _ _ _ _ _=>rfl;obtain⟨⟨_,_,a10,u10⟩,e_fn⟩:=fnc e_fn;have znj:FnAt K mg "row_to" zpj zgf _ _:=fa2 X G a10 u10 λ_ _ _ _ _ _ _ _=>rfl;obtain⟨⟨_,_,a11,u11⟩,e_fn⟩:=fnc e_fn;have zCd:FnAt K mg "put_in" zAg zAc _ _:=fa3 X G a11 u11 λ_ _ _ _ _ _ _ _ _=>rfl;obtain⟨⟨_,_,a12,u12⟩,e_fn⟩:=fnc e_fn;have z6m:FnAt K mg "fault" zmm zKg _ _:=fa2 X G a12 u12 λ_ _ _ _ _ _ _ _=>rfl;obtain⟨⟨_,_,a13,u13⟩,e_fn⟩:=fnc e_fn;have zPh:FnAt K mg "is_push" zqi zfe _ _:=fa4 X G a13 u13 λ_ _ _ _ _ _ _ _ _ _=>rfl;obtain⟨⟨_,_,a14,u14⟩,e_fn⟩:=fnc e_fn;have zsh:FnAt K mg "follows" zth zje _ _:=fa4 X G a14 u14 λ_ _ _ _ _ _ _ _ _ _=>rfl;obtain⟨⟨_,_,a15,u15⟩,e_fn⟩:=fnc e_fn;have zuj:FnAt K mg "pushed" zoj zkf _ _:=fa4 X G a15 u15 λ_ _ _ _ _ _ _ _ _ _=>rfl;obtain⟨⟨_,_,a16,u16⟩,e_fn⟩:=fnc e_fn;have zrf:FnAt K mg "laid_more" zIf zXc _ _:=fa3 X G a16 u16 λ_ _ _ _ _ _ _ _ _=>rfl;obtain⟨⟨_,_,a17,u17⟩,e_fn⟩:=fnc e_fn;have z0d:FnAt K mg "laid_at_all" zZd zdc _ _:=fa1 X G a17 u17 λ_ _ _ _ _ _ _=>rfl;obtain⟨⟨_,_,a18,u18⟩,e_fn⟩:=fnc e_fn;have zAe:FnAt K mg "room_of" z7f z1c _ _:=fa2 X G a18 u18 λ_ _ _ _ _ _ _ _=>rfl;obtain⟨⟨_,_,a19,u19⟩,e_fn⟩:=fnc e_fn;have zzd:FnAt K mg "homes_of" zif zlc _ _:=fa2 X G a19 u19 λ_ _ _ _ _ _ _ _=>rfl;obtain⟨⟨_,_,a20,u20⟩,e_fn⟩:=fnc e_fn;have ztg:FnAt K mg "is_crowd" zvg zpd _ _:=fa2 X G a20 u20 λ_ _ _ _ _ _ _ _=>rfl;obtain⟨⟨_,_,a21,u21⟩,e_fn⟩:=fnc e_fn;have zGe:FnAt K mg "spare_key" zyf z0c _ _:=fa2 X G a21 u21 λ_ _ _ _ _ _ _ _=>rfl;obtain⟨⟨_,_,a22,u22⟩,e_fn⟩:=fnc e_fn;have zxh:FnAt K mg "trimmed" zQh zge _ _:=fa2 X G a22 u22 λ_ _ _ _ _ _ _ _=>rfl;obtain⟨⟨_,_,a23,u23⟩,e_fn⟩:=fnc e_fn;have zAd:FnAt K mg "fitted" zyg zzc _ _:=fa1 X G a23 u23 λ_ _ _ _ _ _ _=>rfl;obtain⟨⟨_,_,a24,u24⟩,e_fn⟩:=fnc e_fn;have zvh:FnAt K mg "held_to" zmi zie _ _:=fa3 X G a24 u24 λ_ _ _ _ _ _ _ _ _=>rfl;obtain⟨⟨_,_,a25,u25⟩,e_fn⟩:=fnc e_fn;have zog:FnAt K mg "can_move" zUg znd _ _:=fa4 X G a25 u25 λ_ _ _ _ _ _ _ _ _ _=>rfl;obtain⟨⟨_,_,a26,u26⟩,e_fn⟩:=fnc e_fn;have zFj:FnAt K mg "places" zcj znf _ _:=fa1 X G a26 u26 λ_ _ _ _ _ _ _=>rfl;obtain⟨⟨_,_,a27,u27⟩,e_fn⟩:=fnc e_fn;have zEm:FnAt K mg "homes" znm zEg _ _:=fa2 X G a27 u27 λ_ _ _ _ _ _ _ _=>rfl;obtain⟨⟨_,_,a28,u28⟩,e_fn⟩:=fnc e_fn;have zWb:FnAt K mg "web_of" zRe zGb _ _:=fa2 X G a28 u28 λ_ _ _ _ _ _ _ _=>rfl;obtain⟨ma,e_vv⟩:=yf e_vv;obtain⟨mb,e_bb⟩:=yf e_bb;obtain⟨_,_,_,_,_,_,_,_,_,ml,mc,mk⟩:=zEc (yf e_fn).1;replace e_fn:=(yf e_fn).2;have u29:=zze (st:=z3b) ml mc mk;have z6:MethAt K "Shelf" "rule" "Shelf.rule" z3b z5 _ _ _:=⟨pn_Shelf,cl_Shelf,⟨ma,mb,mk⟩,u29,(u29.binds (ps:=z5) λ_ _ _ _ _ _ us hl=>by obtain⟨_,rfl⟩:=ln1 hl;rfl)⟩
 obtain⟨ma,e_vv⟩:=yf e_vv;obtain⟨mb,e_bb⟩:=yf e_bb;obtain⟨_,_,_,_,_,_,_,_,_,ml,mc,mk⟩:=zEc (yf e_fn).1;replace e_fn:=(yf e_fn).2;have u30:=zze (st:=ztc) ml mc mk;have z8b:MethAt K "Shelf" "where" "Shelf.where" ztc zkb _ _ _:=⟨pn_Shelf,cl_Shelf,⟨ma,mb,mk⟩,u30,(u30.binds (ps:=zkb) λ_ _ _ _ _ _ us hl=>by obtain⟨_,_,rfl⟩:=ln2 hl;rfl)⟩
 obtain⟨⟨_,_,a31,u31⟩,e_fn⟩:=fnc e_fn;have zIc:FnAt K mg "_law_in_places" zHc zyb _ _:=fa1 X G a31 u31 λ_ _ _ _ _ _ _=>rfl;obtain⟨⟨_,_,a32,u32⟩,e_fn⟩:=fnc e_fn;have zSb:FnAt K mg "_law_fits" zkd zwb _ _:=fa2 X G a32 u32 λ_ _ _ _ _ _ _ _=>rfl;obtain⟨ma,e_vv⟩:=yf e_vv;obtain⟨mb,e_bb⟩:=yf e_bb;obtain⟨_,_,_,_,_,_,_,_,_,ml,mc,mk⟩:=zEc (yf e_fn).1;replace e_fn:=(yf e_fn).2;have u33:=zze (st:=zbd) ml mc mk;have zae:MethAt K "Shelf" "renew" "Shelf.renew" zbd zUb _ _ _:=⟨pn_Shelf,cl_Shelf,⟨ma,mb,mk⟩,u33,(u33.binds (ps:=zUb) λ_ _ _ _ _ _ us hl=>by obtain⟨_,_,rfl⟩:=ln2 hl;rfl)⟩
 obtain⟨⟨_,_,a34,u34⟩,e_fn⟩:=fnc e_fn;have zDd:FnAt K mg "_law_renewed" zBd zZb _ _:=fa2 X G a34 u34 λ_ _ _ _ _ _ _ _=>rfl;obtain⟨ma,e_vv⟩:=yf e_vv;obtain⟨mb,e_bb⟩:=yf e_bb;obtain⟨_,_,_,_,_,_,_,_,_,ml,mc,mk⟩:=zEc (yf e_fn).1;replace e_fn:=(yf e_fn).2;have u35:=zze (st:=zrd) ml mc mk;have zLc:MethAt K "Shelf" "has" "Shelf.has" zrd zPb _ _ _:=⟨pn_Shelf,cl_Shelf,⟨ma,mb,mk⟩,u35,(u35.binds (ps:=zPb) λ_ _ _ _ _ _ us hl=>by obtain⟨_,_,rfl⟩:=ln2 hl;rfl)⟩
 obtain⟨ma,e_vv⟩:=yf e_vv;obtain⟨mb,e_bb⟩:=yf e_bb;obtain⟨_,_,_,_,_,_,_,_,_,ml,mc,mk⟩:=zEc (yf e_fn).1;replace e_fn:=(yf e_fn).2;have u36:=zze (st:=zld) ml mc mk;have zMc:MethAt K "Shelf" "out" "Shelf.out" zld zOb _ _ _:=⟨pn_Shelf,cl_Shelf,⟨ma,mb,mk⟩,u36,(u36.binds (ps:=zOb) λ_ _ _ _ _ _ us hl=>by obtain⟨_,_,rfl⟩:=ln2 hl;rfl)⟩
 obtain⟨ma,e_vv⟩:=yf e_vv;obtain⟨mb,e_bb⟩:=yf e_bb;obtain⟨_,_,_,_,_,_,_,_,_,ml,mc,mk⟩:=zEc (yf e_fn).1;replace e_fn:=(yf e_fn).2;have u37:=zze (st:=zCc) ml mc mk;have zEd:MethAt K "Shelf" "laying" "Shelf.laying" zCc zzb _ _ _:=⟨pn_Shelf,cl_Shelf,⟨ma,mb,mk⟩,u37,(u37.binds (ps:=zzb) λ_ _ _ _ _ _ us hl=>by obtain⟨_,rfl⟩:=ln1 hl;rfl)⟩
 obtain⟨ma,e_vv⟩:=yf e_vv;obtain⟨mb,e_bb⟩:=yf e_bb;obtain⟨_,_,_,_,_,_,_,_,_,ml,mc,mk⟩:=zEc (yf e_fn).1;replace e_fn:=(yf e_fn).2;have u38:=zze (st:=zud) ml mc mk;have zSc:MethAt K "Shelf" "put" "Shelf.put" zud zHb _ _ _:=⟨pn_Shelf,cl_Shelf,⟨ma,mb,mk⟩,u38,(u38.binds (ps:=zHb) λ_ _ _ _ _ _ us hl=>by obtain⟨_,_,rfl⟩:=ln2 hl;rfl)⟩
 obtain⟨⟨_,_,a39,u39⟩,e_fn⟩:=fnc e_fn;have zIb:FnAt K mg "_law_there_and_back" zJb z8 _ _:=fa2 X G a39 u39 λ_ _ _ _ _ _ _ _=>rfl;obtain⟨⟨_,_,a40,u40⟩,e_fn⟩:=fnc e_fn;have zBg:FnAt K mg "_law_put" zDg zqd _ _:=fa2 X G a40 u40 λ_ _ _ _ _ _ _ _=>rfl;obtain⟨⟨f41,oc41,od41,sl41,kV41,dc41,pm41,an41,cd41,ct41,a41,l41,c41,k41⟩,e_fn⟩:=fnl e_fn;have u41:=zze (st:=zEp) l41 c41 k41;have zoA:FnAt K mg "law" zEp zZp _ _:=fa1 X G a41 u41 λ_ _ _ _ _ _ _=>rfl;have e:=hfa.symm.trans (xO X G a41);cases e;obtain⟨zfA,e_vv⟩:=yf e_vv;obtain⟨zxp,e_vv⟩:=yf e_vv;obtain⟨z3A,e_vv⟩:=yf e_vv;obtain⟨zqy,e_vv⟩:=yf e_vv;obtain⟨zqx,e_vv⟩:=yf e_vv;obtain⟨zNr,e_vv⟩:=yf e_vv;obtain⟨zZA,e_vv⟩:=yf e_vv;obtain⟨zrv,e_vv⟩:=yf e_vv;obtain⟨zKA,e_vv⟩:=yf e_vv;obtain⟨zTx,e_vv⟩:=yf e_vv;obtain⟨zGA,e_vv⟩:=yf e_vv;obtain⟨t_DIVISOR,v_DIVISOR⟩:=zJn (yf e_it).1;replace e_it:=(yf e_it).2;obtain⟨t_MOST_KEYS,v_MOST_KEYS⟩:=zJn (yf e_it).1;replace e_it:=(yf e_it).2;obtain⟨zrj,e_vv⟩:=yf e_vv;obtain⟨zNq,e_bb⟩:=yf e_bb;obtain⟨z1e,e_vv⟩:=yf e_vv;obtain⟨z2n,e_bb⟩:=yf e_bb;obtain⟨zLi,e_vv⟩:=yf e_vv;obtain⟨zHs,e_bb⟩:=yf e_bb;obtain⟨zDj,e_vv⟩:=yf e_vv;obtain⟨zQq,e_bb⟩:=yf e_bb;obtain⟨zej,e_vv⟩:=yf e_vv;obtain⟨z2q,e_bb⟩:=yf e_bb;obtain⟨zRm,e_ob⟩:=yf e_ob;obtain⟨zOn,e_ob⟩:=yf e_ob;obtain⟨xe_NoKey,e_bb⟩:=yf e_bb;obtain⟨zin,e_ob⟩:=yf e_ob;obtain⟨xe_Twice,e_bb⟩:=yf e_bb;obtain⟨z4m,e_ob⟩:=yf e_ob;obtain⟨i4,e_bb⟩:=yf e_bb;obtain⟨i7,e_vv⟩:=yf e_vv;obtain⟨i8,e_bb⟩:=yf e_bb;obtain⟨i9,e_cf⟩:=yf e_cf;obtain⟨_,_,_,_,_,_,_,_,_,_,_,_,_,_,zUv⟩:=zaq (yf e_ex).1;replace e_ex:=(yf e_ex).2;obtain⟨zXu,e_vv⟩:=yf e_vv;obtain⟨z3u,e_ov⟩:=yf e_ov;obtain⟨z7u,e_vv⟩:=yf e_vv;obtain⟨zOu,e_vv⟩:=yf e_vv;obtain⟨zeA,e_bb⟩:=yf e_bb;obtain⟨_,_,_,_,_,_,_,_,_,zOq,zmq,zxq⟩:=zEc (yf e_fn).1;replace e_fn:=(yf e_fn).2;obtain⟨_,_,_,_,_,_,_,_,_,_,_,_,_,_,zyw⟩:=zaq (yf e_ex).1;replace e_ex:=(yf e_ex).2;obtain⟨z0x,e_vv⟩:=yf e_vv;obtain⟨zWw,e_ov⟩:=yf e_ov;obtain⟨zIx,e_vv⟩:=yf e_vv;obtain⟨zju,e_vv⟩:=yf e_vv;obtain⟨z4x,e_bb⟩:=yf e_bb;obtain⟨_,_,_,_,_,_,_,_,_,ziu,zwu,zeu⟩:=zEc (yf e_fn).1;replace e_fn:=(yf e_fn).2;obtain⟨_,zVw⟩:=zpt (yf e_bb).1;replace e_bb:=(yf e_bb).2;obtain⟨zGx,e_vv⟩:=yf e_vv;obtain⟨z2x,e_vv⟩:=yf e_vv;obtain⟨zNw,e_ob⟩:=yf e_ob;obtain⟨zMx,e_vv⟩:=yf e_vv;obtain⟨zHx,e_ob⟩:=yf e_ob;obtain⟨q4,e_vv⟩:=yf e_vv;obtain⟨q5,e_ob⟩:=yf e_ob;have T:Txt K mg:=⟨⟨113,zrj,xO X G zrj,zNq⟩,⟨31,z1e,xO X G z1e,z2n⟩,⟨75,zLi,xO X G zLi,zHs⟩,⟨56,zDj,xO X G zDj,zQq⟩,⟨44,zej,xO X G zej,z2q⟩,(λC h=>by rw[zDj]at h;cases h;exact xe_NoKey),(λC h=>by rw[zej]at h;cases h;exact xe_Twice),(λC h=>by rw[zLi]at h;cases h;exact(sC.cons zrj zNq zRm (sC.cons zLi zHs zOn (sC.cons zDj zQq zin (sC.cons zej z2q z4m sC.nil))))),tF,tL,⟨λC h=>by rw[zLi]at h;cases h;exact⟨⟨by rw[zVw];rfl,zGx,z2x,zNw,zMx,q4,q5,zHx⟩,zju,z4x⟩⟩,xr X G zfA,xr X G zxp,xr X G z3A,xr X G zqy,xr X G zqx,xr X G zNr,xr X G zZA,xr X G zrv,xr X G zKA,xr X G zTx,xr X G zGA,⟨t_DIVISOR,xO X G v_DIVISOR⟩,⟨t_MOST_KEYS,xO X G v_MOST_KEYS⟩⟩
 refine⟨W.fnOf "law" "law" (zWd zEp) (zNc zEp) (zB zEp) .none kV41 dc41 pm41 an41 cd41 ct41,λs v =>.of_eq rfl,λbase _ _=>?_⟩;have Td:sS K mg "NoFit" "some" "NoFit.__init__" zUc zQb _ _ _ _:=⟨zrj,xO X G z1e,⟨⟨_,_,_,_,_,_,_,_,_,_,_,_,_,_,zUv⟩,zXu,z3u,i4,z7u,zOu,i7,i8,i9⟩,(zze (st:=zUc) zOq zmq zxq),(zze (st:=zUc) zOq zmq zxq).binds (ps:=zQb) λ_ _ _ _ _ _ us hl=>by obtain⟨_,_,rfl⟩:=ln2 hl;rfl⟩
 have tH:sS K mg "Full" "some" "Full.__init__" zOc zvb _ _ _ _:=⟨zLi,xO X G z1e,⟨⟨_,_,_,_,_,_,_,_,_,_,_,_,_,_,zyw⟩,z0x,zWw,i4,zIx,zju,i7,i8,i9⟩,(zze (st:=zOc) ziu zwu zeu),(zze (st:=zOc) ziu zwu zeu).binds (ps:=zvb) λ_ _ _ _ _ _ us hl=>by obtain⟨_,_,rfl⟩:=ln2 hl;rfl⟩
 have Tx:=zal (P:=l.prog) (w:=w) (base:=base) T Td;have tX:=zCm (P:=l.prog) (w:=w) (base:=base) T tH;have znh:=zun (P:=l.prog) (w:=w) (base:=base) T zzg;have zod:=z0h (P:=l.prog) (w:=w) (base:=base) T zGc;have zxf:=z5k (P:=l.prog) (w:=w) (base:=base) T zPe;have zP:=zQm T zPe zxf zR;have z0e:=zhn T zR zP zEe;have zr:=zeh (P:=l.prog) (w:=w) (base:=base) T zt;have zch:=ztn T zR zP zsg;have zcm:=zjt (P:=l.prog) (w:=w) (base:=base) T zim;have z5f:=zcn T zim zcm zAf;have zwi:=z0u (P:=l.prog) (w:=w) (base:=base) T zLj;have zwk:=zOr (P:=l.prog) (w:=w) (base:=base) T znj;have zad:=zer T zAf z5f zLj zwi znj zwk zCd;have z3m:=zFs T zLj zwi z6m;have zOi:=z2o (P:=l.prog) (w:=w) (base:=base) T zPh;have zCi:=zDp (P:=l.prog) (w:=w) (base:=base) T zsh;have zzk:=zgs T z6m z3m zPh zOi zsh zCi zuj;have zbg:=z2m T zCd zad zuj zzk zrf;have z4e:=zWj T zrf zbg z0d;have zee:=zrp (P:=l.prog) (w:=w) (base:=base) T zAe;have zxd:=zCo (P:=l.prog) (w:=w) (base:=base) T zzd;have zgh:=zzo T zAe zee zzd zxd ztg;have zTe:=zPm T ztg zgh zGe;have zMi:=zBp T zGe zTe zxh;have z8c:=zkr T z0d z4e zxh zMi zAd;have zPi:=zmp (P:=l.prog) (w:=w) (base:=base) T zvh;have zhh:=zHo T zCd zad zvh zPi zog;have zQk:=z6r T zAd z8c zog zhh Td Tx zFj;have zIm:=zku (P:=l.prog) (w:=w) (base:=base) T zEm;have zCb:=zLr T zEm zIm zWb;have zZ:=z6k (P:=l.prog) (w:=w) (base:=base) T z6;have zec:=zLk (P:=l.prog) (w:=w) (base:=base) T z8b;have zmd:=zqh T zt zr zFj zQk zWb zCb z6 zZ z8b zec zIc;have zMb:=zum T zAd z8c zWb zCb zSb;have z5e:=zOk T zt zr zAd z8c zWb zCb tH tX zae;have zte:=zbj T zSb zMb zt zr zae z5e z6 zZ zDd;have zZc:=zVm (P:=l.prog) (w:=w) (base:=base) T zLc;have zYc:=zAm T zLc zZc zMc;have zwe:=zaj T zt zr zEd;have z2c:=zam T zLc zZc zCd zad zt zr zWb zCb zEd zwe tH tX zSc;have zgc:=zsf T zt zr zSc z2c z8b zec zSb zMb z6 zZ zMc zYc zIb;have zah:=zJo T zt zr zSb zMb zWb zCb zSc z2c z6 zZ zAe zee zzd zxd zBg;exact z6w T zzg znh zGc zod zEe z0e zR zP zt zr zsg zch zIc zmd zDd zte zMc zYc zIb zgc zBg zah zoA
def walk{l:W.OpenLaw}{q:yB}{loose:List yy}{XP:(yy->Option yb)->yV->Prop}{YP:yL->yV->Prop}{d:DefRec}{K:Params->yw}(hn:l.most=some 63)(hdf:d.params.defaults=[])
 (hY:∀(w:yL)(h:yV),YP w h->(K w.params).In h)
 (F:∀(w:yL)(mg:yy->Option yb)(fa:yd)(h:yV),(K w.params).In h->h.Ns yp mg->mg d.name=some (.ref fa) ->
  ∃fd:yi,(∀(s:ye)(u:yb),BindsTo s fd ⟨[u],[]⟩ [("_law_script",u)])/\∀base:yV,(K w.params).In base->base.Ns yp mg->tq l.prog w (K w.params) mg base CX0 9 fa fd ["_law_script"] (spM (K w.params) 1 zxr)) :
 W.WalkO q loose XP YP l.row.toRowW d [] (λf vs=>PySem.call f vs) :=
 L2.walk_of (n:=63) (k:=9) (x:="_law_script") (CX:=λ_=>CX0) (sp:=λw=>spM (K w.params) 1 zxr) hn (by decide) hdf (by first|exact⟨rfl,by decide,by decide,rfl⟩|exact⟨rfl,by decide,by decide⟩) hY F (λ_ _ a ns hl hO hS=>zpy (zKv ns hl) hO hS) λ_ _ _ _ _ z=>z
end P
open PySem PySem.W PyProof.Rows
set_option maxRecDepth 100000 in
set_option maxHeartbeats 0 in
theorem PySem.Challenge.cw_keynests_k55_whole_what_a_shelf_refuses_holds : PySem.Challenge.rw_keynests_k55_whole_what_a_shelf_refuses.Holds := by
 refine M.SU (l:=xn) (q:=Hd.qv) (loose:=Hd.lse) (d:=Hd.dl) (obs:=Hd.obs) (good:=Hd.good) (N:=60000) Hd.hd1 Hd.hd2 Hd.hd3 Hd.hd4 Hd.hd5 Hd.hd6 Hd.hd7 ?hw λK e=>?_
 case hw=>w_witness2
 exact P.walk (l:=xn) (K:=λ_=>K) (by rfl) (by rfl) (λw h Y=>Y) λw mg fa h KX G hmg=>P.all_of KX G hmg e
