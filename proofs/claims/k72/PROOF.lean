import PyProof.Rows.All
import Lean
import KE.KTryDeep
import KE.IntBitsLaws
import KE.KDictList
import PySem.Challenge.RW_keynests_k72_whole_shelves_and_webs
import KE.KIsAll
import KE.KRevIter
import KE.KItem
set_option autoImplicit false
open List (all_cons any_cons any_eq_true any_map append_assoc append_nil countP_cons drop_eq_getElem_cons ext_getElem? filterMap_cons filter_congr filter_cons filter_sublist flatten_cons getD_eq_getElem?_getD getElem_mem length_append length_cons length_map length_range length_set length_singleton length_take lookup_cons lookup_nil mapM_cons map_append map_cons map_map map_nil mem_append mem_append_left mem_append_right mem_cons mem_cons_of_mem mem_cons_self mem_map mem_of_getElem? mem_range mem_singleton mergeSort_perm nodup_append nodup_cons not_mem_nil of_mem_zip pairwise_map replicate_succ size_toArray sum_cons take_append_drop take_length take_succ)
set_option maxRecDepth 100000
set_option linter.all false
set_option Elab.async false
open PySem renaming wpAny_bind→ya,Shared→yb,wpAny_pure→ye,starEach→yf,FuncData→yg,mainGlobals→ym,wpAny→yn,model→yr,Program→yw,sizeLine→yB,World→yF,Around→yH,Heap→yP,bootBuiltins→yQ,wpAny_mono→yR,wpAny_newObj_type→yS,wpAny_call_entry→yU,eval→yW,mem_of_lookup→yX,backTo→yZ,wpAny_callSpecial?_slot→Yc,wpAny_holding→Yg,cellsFrom→Yj,compareOp→Yn,sizeLine_eq→Yp,attributeBase→Yu,rawInt→Yz,keywordEach→YA,wpAny_field→YB,wpAny_loadPart_at→YF,Obj→YN,assignEach→YO,foldedSetIterable→YQ,codeAny_mono→YR,wpAny_setField→YT,wpAny_setState_of→YU,wpAny_ite_split→YX,wpAny_standAt→xb,NameKind→xh,excClassObj→xi,Keyword→xj,codeAny_builtin→xk,wpAny_isSubtype_exc→xn,Pos→xp,binaryOp→xq,wpAny_Call_Name_kw→xr,backToKw→xt,SetTable→xu,Builtin→xy,wpAny_passesOwn→xA,wpAny_specialOf→xB,holding→xC,wpAny_setEntries_of→xJ,PyData→xK,wpAny_setField_rec→xO,wpAny_execs_nil→xP,swapsWith→xS,plainId_quiet→xT,builtinLookup_eq_fast→xZ,Scope→Xb,codeAny→Xc,call_meets→Xh,codeAny_call_builtin→Xj,wpAny_typeOf→Xl
open List.cons renaming inj→yc,injEq→YY
open PySem.Heap renaming get?_push_of_some→yd,lt_size→yj,get?_push_size→yo,get?_update_self→yI,get?_update_other→yY,SameBut→Yk,size_push→Yl
open List renaming getElem?_map→yh,getElem?_eq_getElem→yp,getElem?_append_left→yq,range→yy,replicate→yA,getElem?_set_ne→yJ,getElem?_append_right→yK,getElem?_set_self→yM,eraseIdx_eq_take_drop_succ→Yy,lookup→YE,getElem?_eq_none→YG,getElem?_replicate→YK,perm_ext_iff_of_nodup→YV,filter_cons_of_neg→xL,find?_cons→xR,length_replicate→xX,getElem?_zipIdx→Xk
open Nat renaming le_refl→yi,lt_of_lt_of_le→yv,ne_of_lt→yz,le_trans→yC,lt_irrefl→yO,ne_of_gt→yV,lt_succ_self→Yq,lt_succ_of_lt→Yr,zero_le→Ys,le_of_lt→YI,le_succ→xD
open Option renaming bind_some→yk,map_some→xQ,getD_some→Xm
open PySem.NameKind renaming free→yt,cell→yL
open PySem.W renaming Frag→yu,findIn→Ye,nsIn→Yh,mg_of→xE,mg_none_of→xF,emptyDict→xM
open Bool renaming false_ne_true→yx,and_eq_true→yE,and_self→xV
open PySem.Value renaming ref→yD,none→Yi,type→YJ,builtin→xU
open Sum renaming inl→yG
open Ne renaming symm→yN
open PySem.Obj renaming data_mapFields→yT,isFreed_of_fields→Yw,mapFields→xg,mapSeq→xN,cls_mapFields→Xd
open PySem.PyData renaming eqv→Yb,int→xH,eqvAll→xW,canLayAll0→Xe
open Option.some renaming inj→Yd,injEq→Xg
open Int renaming toNat_natCast→Ym,eq_ofNat_of_zero_le→Yx,emod_lt_of_pos→YC,emod_nonneg→YZ
open PySem.Builtin.List renaming listExtendWith→Yo,listTooLong→xf,listLengthHint→xo,listSameRef→xG
open False renaming elim→Yt
open PySem.Heap.SameBut renaming update→Yv
open PySem.Builtin.SmallTypes renaming nextOf→YD
open PySem.SetTable renaming below→YH,grown→Xi
open PySem.Around renaming under_plainId→YL
open PyProof.Rows renaming callWith_type1→YM,slot_tuple_getitem→xa
open PySem.Str renaming ofString→YS
open ForInStep renaming yield→YW
open PySem.Builtin.Tuple renaming tupleExact→xc
open PySem.Challenge renaming rw_keynests_k72_whole_shelves_and_webs→xl
open PyProof.Rows.F renaming plain_set_update_loop→xm
open PySem.F renaming excBase_ValueError→xv,slot_tuple_iterator_next→xw,slot_enumerate_next→Xa
open PySem.Builtin.Slice renaming slicePlaces→xz
open PySem.AutoSeq1 renaming wpAny_loadPart'→xI
open Array renaming getElem?_toList→xY
open PySem.SetTable.below renaming go→Xf
noncomputable section
namespace M
open PySem PySem.W PyProof.Rows
def kOf(as:List Addr)(h:yP):Frag:=as.filterMap fun a=>(h.get? a).map fun o=>(a,o)
def zYx(h:yP):Frag:=kOf (yy h.objs.size) h
def zBw(s:Stmt):Arguments:=match s with
 |.FunctionDef _ a _ _ _ _ _ _ _ _=>a
 |_=>{posonlyargs:=[],args:=[],vararg:=none,kwonlyargs:=[],kw_defaults:=[],kwarg:=none,defaults:=[]}
def zOw(s:Stmt):List Stmt:=match s with
 |.FunctionDef _ _ b _ _ _ _ _ _ _=>b
 |_=>[]
def zbs(s:Stmt):Xb:=match s with
 |.FunctionDef _ _ _ _ _ _ sc _ _ _=>sc
 |_=>{kind := .function,names:=[],isGenerator:=false,isCoroutine:=false }
def z5z(s:Stmt):xp:=match s with
 |.FunctionDef _ _ _ _ _ _ _ _ _ p=>p
 |_=>⟨0,0,0,0⟩
structure SeenD where
 name:Str
 qual:Str
 params:Arguments
 body:FuncBody
 scope:Xb
 globals:Addr
 closure:List (Str×Addr)
 defaults:Value
 builtins:Addr
 code:Bool
 keep:Bool
def z4d(K:Frag)(a:Addr)(qual:Str):Option SeenD:=match K.lookup a with
 |some ⟨_,_, .func fd,_⟩=>some ⟨fd.name,fd.qualname,fd.params,fd.body,fd.scope,fd.globals,fd.closure,fd.defaults,fd.builtins,codeIn K fd.code qual,keepIn K (.ref a)⟩
 |_=>none
def zub(K:Frag)(nm:Str):Option SeenD:=match nsIn K ym nm with
 |some (some (.ref a))=>z4d K a nm
 |_=>none
def zue(nm qual:Str)(st:Stmt):Option SeenD:=some ⟨nm,qual,zBw st, .stmts (zOw st),zbs st,ym,[], .none,builtinsNs,true,true⟩
def zxb(nm:Str)(st:Stmt):Option SeenD:=zue nm nm st
def zcm(K:Frag)(nm:Str):Option Int:=match nsIn K ym nm with
 |some (some (.int i _))=>some i
 |_=>none
def zat(K:Frag)(C:Addr):Option (Value×String×List Value×Bool×Bool):=match K.lookup C with
 |some ⟨c,_, .cls cd,sl⟩=>(match sl.toList with | [_,_,_,_,some (.builtin n),_]=>some (c,n,cd.mro,cd.hasDict,cd.hasDel) | _=>none)
 |_=>none
def zau{p q:yw}{loose:List Str}{α:Type}{Yf:yb->α}{y:α}{N:Nat}(h1:LeftO p q loose (fun _=>true) (fun _=>()) (fun _=>()) N)(h2:∀w,(openEnds treeTable p w N).map Yf=some y):LeftO p q loose (fun _=>true) Yf (fun _=>y) N:=fun w=>by
 obtain⟨s,e,a⟩:=Option.map_eq_some_iff.mp (h1 w);obtain⟨s',e',b⟩:=Option.map_eq_some_iff.mp (h2 w);rw[e]at e';cases e';rw[e];show some (_,Yf s)=some (_,y);rw[b];exact congrArg (fun z=>some (z.1,y)) a
end M
namespace Hd
open PySem PySem.Spec PyProof.Rows M
def top(i:Nat):Stmt:=PySem.Challenge.pw_keynests_k72_whole_shelves_and_webs.main.body.getD i (.Pass ⟨0,0,0,0⟩)
def zrj(s:Stmt)(j:Nat):Stmt:=match s with
 |.ClassDef _ _ _ body _ _ _ _ _ _ _=>body.getD j (.Pass ⟨0,0,0,0⟩)
 |_ => .Pass ⟨0,0,0,0⟩
def zOv(s:Stmt):Stmt:=zrj s 0
def qv:yw:={PySem.Challenge.pw_keynests_k72_whole_shelves_and_webs with main:={PySem.Challenge.pw_keynests_k72_whole_shelves_and_webs.main with body:=[top 47]}}
def lse:List Str:=(PySem.Challenge.pw_keynests_k72_whole_shelves_and_webs.main.scope.names.map (·.1)).filter fun x=>!(x == "law")
def dl:DefRec:={name:="law",params:=zBw (top 47),body:=zOw (top 47),scope:=zbs (top 47),pos:=z5z (top 47)}
def obs(K:yu):List (Option SeenD)×List (Option (Option Value))×List (Option Int)×List (Bool)×List (Option Bool)×List (Option Value)×List (Option W.CFound)×List (Option (Value×String×List Value×Bool×Bool)):=([z4d K 220 "Shelf.__init__",zub K "_law_mixed",zub K "_law_cell_at",zub K "_law_small",zub K "homes",zub K "web_of",z4d K 282 "Shelf.rule",z4d K 246 "Shelf.where",zub K "left",z4d K 253 "Shelf.all_there",z4d K 263 "Shelf.laying",z4d K 270 "Shelf.left",zub K "fault",zub K "_law_stands",zub K "_law_take",zub K "_law_rule",z4d K 239 "Shelf.has",zub K "lying",zub K "pushes_to",zub K "row_to",zub K "put_in",z4d K 225 "Shelf.put",zub K "room_of",zub K "homes_of",zub K "is_crowd",zub K "_law_full_right",zub K "is_push",zub K "follows",zub K "pushed",zub K "laid_more",zub K "laid_at_all",zub K "spare_key",zub K "trimmed",zub K "fitted",zub K "_law_put",zub K "_law_pen",z4d K 275 "Shelf.renew",zub K "_law_renewed",z4d K 232 "Shelf.out",zub K "law",z4d K 65 "Full.__init__"],[Yh K ym "Shelf",Ye K (.ref 285) "__setattr__",Ye K (.ref 285) "nest_of",Ye K (.ref 285) "kept_rule",Ye K (.ref 285) "__init__",Ye K (.ref 285) "rule",Ye K (.ref 285) "where",Ye K (.ref 285) "all_there",Ye K (.ref 285) "laying",Ye K (.ref 285) "left",Ye K (.ref 285) "has",Ye K (.ref 285) "put",Ye K (.ref 285) "renew",Ye K (.ref 285) "out",Yh K ym "left_layings",Yh K ym "left",Yh K ym "enumerate",Yh K ym "len",Yh K ym "list",Yh K ym "range",Yh K ym "reversed",Yh K ym "set",Yh K ym "sorted",Yh K ym "sum",Yh K ym "tuple",Yh K ym "Full",Yh K ym "NestError",Yh K ym "Twice",Yh K ym "NoKey",W.specialIn K (.ref 24) "__getattribute__",Ye K (.ref 68) "__init__",Ye K (.ref 68) "__setattr__",Ye K (.ref 68) "some",Ye K (.ref 68) "__getattribute__",Ye K (.ref 68) "__getattr__",Ye K (.ref 68) "__class__",W.specialIn K (.builtin "object.__class__") "__get__"],[zcm K "DIVISOR",zcm K "MOST_KEYS"],[W.plainGet K 285 PySem.Str.empty,W.hasDictIn K 285,W.plainOver K 285,W.isFn K (.ref 220),W.makesIn K 285,W.keepIn K (.ref 285),W.isFn K (.ref 282),W.isFn K (.ref 246),W.isFn K (.ref 253),W.isFn K (.ref 263),W.isFn K (.ref 270),W.isFn K (.ref 239),W.isFn K (.ref 225),W.isFn K (.ref 275),W.isFn K (.ref 232),W.ktsIn K 68 "BaseException",W.ktsIn K 24 "BaseException",W.ktsIn K 37 "BaseException",W.ktsIn K 49 "BaseException",W.excIn K 37 [.type "ValueError", .type "Exception", .type "BaseException", .type "object"] "ValueError.__new__",W.excIn K 49 [.type "ValueError", .type "Exception", .type "BaseException", .type "object"] "ValueError.__new__",W.excIn K 24 [.type "ValueError", .type "Exception", .type "BaseException", .type "object"] "ValueError.__new__",W.readsIn K 24 (.type "type"),W.hasDictIn K 68,(W.clsIn K 68).isSome],[W.mroIn K 37 (.ref 68),W.mroIn K 68 (.ref 68),W.mroIn K 49 (.ref 68),W.mroIn K 68 (.type "BaseException"),W.mroIn K 68 (.type "object"),W.takesIn K (.builtin "object.__class__")],[W.typeIn K (.ref 65)],[W.findCls K (.ref 24) (.type "type") "__init__"],[zat K 68])
def good:List (Option SeenD)×List (Option (Option Value))×List (Option Int)×List (Bool)×List (Option Bool)×List (Option Value)×List (Option W.CFound)×List (Option (Value×String×List Value×Bool×Bool)):=([zue "__init__" "Shelf.__init__" (zrj (top 34) 0),zxb "_law_mixed" (top 36),zxb "_law_cell_at" (top 37),zxb "_law_small" (top 42),zxb "homes" (top 22),zxb "web_of" (top 25),zue "rule" "Shelf.rule" (zrj (top 34) 10),zue "where" "Shelf.where" (zrj (top 34) 4),zxb "left" (top 7),zue "all_there" "Shelf.all_there" (zrj (top 34) 5),zue "laying" "Shelf.laying" (zrj (top 34) 7),zue "left" "Shelf.left" (zrj (top 34) 8),zxb "fault" (top 9),zxb "_law_stands" (top 43),zxb "_law_take" (top 38),zxb "_law_rule" (top 41),zue "has" "Shelf.has" (zrj (top 34) 3),zxb "lying" (top 10),zxb "pushes_to" (top 15),zxb "row_to" (top 16),zxb "put_in" (top 17),zue "put" "Shelf.put" (zrj (top 34) 1),zxb "room_of" (top 27),zxb "homes_of" (top 26),zxb "is_crowd" (top 29),zxb "_law_full_right" (top 44),zxb "is_push" (top 12),zxb "follows" (top 13),zxb "pushed" (top 14),zxb "laid_more" (top 18),zxb "laid_at_all" (top 19),zxb "spare_key" (top 30),zxb "trimmed" (top 31),zxb "fitted" (top 32),zxb "_law_put" (top 45),zxb "_law_pen" (top 39),zue "renew" "Shelf.renew" (zrj (top 34) 9),zxb "_law_renewed" (top 46),zue "out" "Shelf.out" (zrj (top 34) 2),zxb "law" (top 47),zue "__init__" "Full.__init__" (zOv (top 4))],[some (some (.ref 285)),some (some (.builtin "object.__setattr__")),some none,some none,some (some (.ref 220)),some (some (.ref 282)),some (some (.ref 246)),some (some (.ref 253)),some (some (.ref 263)),some (some (.ref 270)),some (some (.ref 239)),some (some (.ref 225)),some (some (.ref 275)),some (some (.ref 232)),some (some (.ref 94)),some (some (.ref 94)),some none,some none,some none,some none,some none,some none,some none,some none,some none,some (some (.ref 68)),some (some (.ref 24)),some (some (.ref 37)),some (some (.ref 49)),some (some (.builtin "type.__getattribute__")),some (some (.ref 65)),some (some (.builtin "object.__setattr__")),some none,some (some (.builtin "BaseException.__getattribute__")),some none,some (some (.builtin "object.__class__")),some (some (.builtin "getset_descriptor.__get__"))],[some 10007,some 30],[true,true,true,true,true,true,true,true,true,true,true,true,true,true,true,true,true,true,true,true,true,true,true,true,true],[some false,some true,some false,some true,some true,some true],[some (.type "function")],[some (.val (.builtin "ValueError.__init__"))],[some (.type "type","ValueError.__new__", .ref 68::(.ref 24::[.type "ValueError", .type "Exception", .type "BaseException", .type "object"]),true,false)])
set_option maxHeartbeats 0
def hd21:W.LeftO PySem.Challenge.rw_keynests_k72_whole_shelves_and_webs.prog qv lse (fun _=>true) (fun _=>()) (fun _=>()) 60000:=fun w=>by kernel_rfl
def hd22:∀w,(W.openEnds treeTable PySem.Challenge.rw_keynests_k72_whole_shelves_and_webs.prog w 60000).map (fun s=>obs (zYx s.heap))=some good:=fun w=>by kernel_rfl
def hd2:W.LeftO PySem.Challenge.rw_keynests_k72_whole_shelves_and_webs.prog qv lse (fun _=>true) (fun s=>obs (zYx s.heap)) (fun _=>good) 60000:=zau hd21 hd22
def hd1:PySem.Challenge.rw_keynests_k72_whole_shelves_and_webs.wellSaid=true:=by kernel_rfl
def hd3:W.defOf qv PySem.Challenge.rw_keynests_k72_whole_shelves_and_webs.name=some (dl,[]):=by kernel_rfl
def hd4:PySem.Challenge.rw_keynests_k72_whole_shelves_and_webs.prog.theDef PySem.Challenge.rw_keynests_k72_whole_shelves_and_webs.name=some (dl.params,dl.body,dl.scope):=by kernel_rfl
def hd5:W.kwWritten? dl.params.kwonlyargs dl.params.kw_defaults=some []:=by kernel_rfl
def hd6:(W.chainsOk qv&&W.opensWell PySem.Challenge.rw_keynests_k72_whole_shelves_and_webs.prog&&(W.frees PySem.Challenge.rw_keynests_k72_whole_shelves_and_webs.row.toRowW&&PySem.Challenge.rw_keynests_k72_whole_shelves_and_webs.row.within.isEmpty))=true:=by kernel_rfl
def hd7:PySem.Challenge.rw_keynests_k72_whole_shelves_and_webs.prog.bare:=⟨rfl,rfl,rfl,rfl,rfl,by decide +kernel⟩
end Hd
namespace L2
open PySem PySem.Spec PyProof.Rows
abbrev Key:=Sum Int Str
def zuo:Key->Value->Bool
 |.inl k,v=>Value.isInt k v
 |.inr x,v=>Value.isStrOf x v
def z4z(w:yF):Key->Int
 |.inl k=>hashInt k
 |.inr x=>hashStr w x
def zsb:∀{k:Key} {v:Value},zuo k v=true->(∃i t,k=yG i/\v=Value.int i t)\/(∃x t,k=Sum.inr x/\v=Value.str x t)
 |.inl i,v,h=>by
  obtain⟨t,e⟩:=Value.isInt_shape (k:=i) (v:=v) h;exact .inl ⟨i,t,rfl,e⟩
 |.inr x,v,h=>by
  obtain⟨t,e⟩:=Value.isStrOf_shape (x:=x) (v:=v) h;exact .inr ⟨x,t,rfl,e⟩
def zbt(i:Int)(t:Tok):zuo (.inl i) (.int i t)=true:=by simp[zuo,Value.isInt]
def zyr(x:Str)(t:Tok):zuo (.inr x) (.str x t)=true:=by simp[zuo,Value.isStrOf]
def zty(a b:Int):decide ((yG a:Key)=yG b)=(a==b):=by
 by_cases e:a=b
 ·subst e;simp
 ·have h:¬(yG a:Key)=yG b:=fun q=>e (Sum.inl.inj q);rw[decide_eq_false h];exact(beq_eq_false_iff_ne.mpr e).symm
def zuy(a b:Str):decide ((Sum.inr a:Key)=Sum.inr b)=decide (a=b):=by
 by_cases e:a=b
 ·subst e;simp
 ·have h:¬(Sum.inr a:Key)=Sum.inr b:=fun q=>e (Sum.inr.inj q);rw[decide_eq_false h,decide_eq_false e]
def zyx(a:Int)(b:Str):decide ((yG a:Key)=Sum.inr b)=false:=decide_eq_false (fun q=>nomatch q)
def z3w(a:Str)(b:Int):decide ((Sum.inr a:Key)=yG b)=false:=decide_eq_false (fun q=>nomatch q)
def zXb(prog:yw)(w:yF):PySem.KeyKind prog w Key where
 is:=zuo
 hash:=z4z w
 inj:=fun v a b ha hb=>by
  rcases zsb ha with ⟨i,t,rfl,rfl⟩ | ⟨x,t,rfl,rfl⟩
  ·rcases zsb hb with ⟨j,u,rfl,e⟩ | ⟨y,u,rfl,e⟩
   ·injection e with e1 _;rw[e1]
   ·exact nomatch e
  ·rcases zsb hb with ⟨j,u,rfl,e⟩ | ⟨y,u,rfl,e⟩
   ·exact nomatch e
   ·injection e with e1 _;rw[e1]
 byValue:=fun k v h=>by
  rcases zsb h with ⟨i,t,rfl,rfl⟩ | ⟨x,t,rfl,rfl⟩<;>rfl
 pyHash:=fun hv h=>by
  rcases zsb hv with ⟨i,t,rfl,rfl⟩ | ⟨x,t,rfl,rfl⟩
  ·exact wpAny_pyHash_int h
  ·exact wpAny_pyHash_str h
 eqBool:=fun hu hv h=>by
  rcases zsb hu with ⟨i,t,rfl,rfl⟩ | ⟨x,t,rfl,rfl⟩
  ·rcases zsb hv with ⟨j,u,rfl,rfl⟩ | ⟨y,u,rfl,rfl⟩
   ·rw[zty]at h;exact wpAny_eqBool_int h
   ·rw[zyx]at h;exact SeqAt.EqAt.int_str i t y u _ _ _ _ h
  ·rcases zsb hv with ⟨j,u,rfl,rfl⟩ | ⟨y,u,rfl,rfl⟩
   ·rw[z3w]at h;exact SeqAt.EqAt.str_int x t j u _ _ _ _ h
   ·rw[zuy]at h;exact wpAny_eqBool_str h
 «strs»:=fun k x t v h=>by
  rcases zsb h with ⟨i,u,rfl,e⟩ | ⟨y,u,rfl,e⟩
  ·exact nomatch e
  ·injection e with e1 _;subst e1;cases v<;>rfl
def zli(prog:yw)(w:yF)(k:Key)(v:Value):(zXb prog w).is k v=zuo k v:=rfl
def zxo(prog:yw)(w:yF)(i:Int)(t:Tok):(zXb prog w).is (.inl i) (.int i t)=true:=zbt i t
def zwo(prog:yw)(w:yF)(x:Str)(t:Tok):(zXb prog w).is (.inr x) (.str x t)=true:=zyr x t
inductive V where
 |non | bl (b:Bool) | int (i:Int) | str (x:Str) | byt (b:Array UInt8) | flt (b:UInt64) | ref (a:Addr) | ty (n:String)
 deriving DecidableEq
def RelV:V->Value->Prop
 |.non,u=>u=Yi
 |.bl b,u=>u=Value.bool b
 |.int i,u=>∃t,u=Value.int i t
 |.str x,u=>∃t,u=Value.str x t
 |.byt b,u=>∃t,u=Value.bytes b t
 |.flt b,u=>∃t,u=Value.float b t
 |.ref a,u=>u=yD a
 |.ty n,u=>u=YJ n
abbrev Vals:List V->List Value->Prop:=Paired RelV
def Vals.length{xs:List V}{us:List Value}(r:Vals xs us):xs.length=us.length:=Paired.length r
def Vals.get:∀{xs:List V} {us:List Value} {i:Nat} {x:V},Vals xs us->xs[i]?=some x->∃u,us[i]?=some u/\RelV x u
 |_,_,_,_, .nil,e=>by simp at e
 |_,_,0,_, .cons r _,e=>by simp at e;subst e;exact⟨_,rfl,r⟩
 |_,_,i+1,x, .cons _ t,e=>by
  obtain⟨u,h1,h2⟩:=Vals.get (i:=i) (x:=x) t (by simpa using e);exact⟨u,by simpa using h1,h2⟩
def Vals.set{x:V}{u:Value}(r:RelV x u):∀{xs:List V} {us:List Value} (i:Nat),Vals xs us->Vals (xs.set i x) (us.set i u)
 |_,_,_, .nil => .nil
 |_,_,0, .cons _ t => .cons r t
 |_,_,i+1, .cons q t => .cons q (Vals.set r i t)
def Vals.append:∀{xs ys:List V} {us ws:List Value},Vals xs us->Vals ys ws->Vals (xs++ys) (us++ws)
 |_,_,_,_, .nil,s=>s
 |_,_,_,_, .cons r t,s => .cons r (Vals.append t s)
def Vals.take:∀{xs:List V} {us:List Value} (n:Nat),Vals xs us->Vals (xs.take n) (us.take n)
 |_,_,0,_ => .nil
 |_,_,_+1, .nil => .nil
 |_,_,n+1, .cons r t => .cons r (Vals.take n t)
def Vals.drop:∀{xs:List V} {us:List Value} (n:Nat),Vals xs us->Vals (xs.drop n) (us.drop n)
 |_,_,0,r=>r
 |_,_,_+1, .nil => .nil
 |_,_,n+1, .cons _ t=>Vals.drop n t
def RelO:Option V->Option Value->Prop
 |some v,some u=>RelV v u
 |none,none=>True
 |_,_=>False
def KV{κ:Type}:List (κ×V)->List (κ×Value)->Prop:=Paired fun(p:κ×V) (q:κ×Value)=>p.1=q.1/\RelV p.2 q.2
def kV:Key->V
 |.inl i => .int i
 |.inr x => .str x
inductive HO where
 |lst (xs:List V)
 |tup (xs:List V)
 |dK (kvs:List (Key×V)) | dT (kvs:List (List Key×V))
 |set (S:Int->Bool) (n:Nat)
 |ins (C dx:Addr) (fs:List (Str×V))
 |own (x:Addr)
 |xd (fs:List (Str×V))
 |met (f x:Addr)
 |rng (lo hi:Int)
 |frz (o:YN) (u:HO)
 |tbl (ps:Array Value)
 |ext (φ:yP->Prop)
abbrev Hp:=Addr->Option HO
def upd(H:Hp)(a:Addr)(o:HO):Hp:=fun b=>if b=a then some o else H b
def zu{H:Hp}{a:Addr}{o:HO}:upd H a o a=some o:=by unfold upd;rw[if_pos rfl]
def zH{H:Hp}{a b:Addr}{o:HO}(h:b≠a):upd H a o b=H b:=by unfold upd;rw[if_neg h]
def zC{H:Hp}{a b:Addr}{o:HO}(h:H a=some o)(h':H b=none):a≠b:=by
 intro e;subst e;rw[h]at h';cases h'
section
variable (P:yw)(w:yF)
def ObjOk(H:Hp)(h:yP)(a:Addr):HO->Prop
 |.lst xs=>xs.length<=yB/\∃(its:List Value)(n:Nat),Vals xs its/\h.get? a=some {cls := .type "list",data := .seq its.toArray n }
 |.tup xs=>xs.length<=yB/\∃its:List Value,Vals xs its/\IsTup h a its.toArray
 |.dK kvs=>kvs.length<=yB/\(a==sysModules)=false/\∃vs,KV kvs vs/\h.DictOf (zXb P w) a vs
 |.dT kvs=>kvs.length<=yB/\(a==sysModules)=false/\∃xs:List (List Key×Addr×Value),
  Paired (fun(p:List Key×V) (q:List Key×Addr×Value)=>p.1=q.1/\H q.2.1=some (.tup (p.1.map kV))/\RelV p.2 q.2.2) kvs xs /\
  ∃o es ep,h.get? a=some o/\o.ExactDict/\o.data = .dict es ep/\es.toList=xs.map (entryOfKey (tupleKind (zXb P w)))/\(xs.map (·.1)).Nodup
 |.set S n=>h.SetOf (intKind P w) a S n
 |.ins C dx fs=>H dx=some (.own a)/\fs.length<=1000/\dx≠a/\h.get? a=some (W.instObj C dx) /\
  ∃mA,h.Ns1 dx mA/\(∀f,RelO (fs.lookup f) (mA f))/\PySem.Within mA (fs.map (·.1))
 |.own _=>∃o,h.get? a=some o
 |.xd fs=>∃mA,h.Ns1 a mA/\∀f,RelO (fs.lookup f) (mA f)
 |.rng lo hi=>∃t u v,h.get? a=some {cls := .type "range",data := .fields #[.int lo t, .int hi u, .int 1 v]}
 |.frz o u=>h.get? a=some o/\ObjOk H h a u
 |.tbl ps=>h.get? a=some {cls := .none,data := .fields ps }
 |.met f x=>h.get? a=some (W.methodObj (.ref f) (.ref x))
 |.ext φ=>φ h/\(∃o,h.get? a=some o)/\∀h1 h2:yP,φ h1->(∀o,h1.get? a=some o->h2.get? a=some o)->φ h2
def HOk(H:Hp)(h:yP):Prop:=∀a o,H a=some o->ObjOk P w H h a o
end
section
variable {P:yw}{w:yF}{H H':Hp}{h h':yP}{a:Addr}{o:HO}
def ObjOk.lt(x:ObjOk P w H h a o):a<h.objs.size:=by
 cases o with
 |lst xs=>obtain⟨_,_,_,_,e⟩:=x;exact yj e
 |tup xs=>obtain⟨_,_,_,p⟩:=x;exact p.lt
 |dK kvs=>obtain⟨_,_,_,_,o,_,_,e,_⟩:=x;exact yj e
 |dT kvs=>obtain⟨_,_,_,_,o,_,_,e,_⟩:=x;exact yj e
 |set S n=>obtain⟨o,_,_,_,e,_⟩:=x;exact yj e
 |ins C dx fs=>obtain⟨_,_,_,e,_⟩:=x;exact yj e
 |own y=>obtain⟨_,e⟩:=x;exact yj e
 |xd fs=>obtain⟨_,⟨_,_,_,e,_⟩,_⟩:=x;exact yj e
 |rng lo hi=>obtain⟨_,_,_,e⟩:=x;exact yj e
 |frz ob u=>obtain⟨e,_⟩:=x;exact yj e
 |tbl ps=>exact yj (show h.get? a=some _ from x)
 |met f y=>exact yj (show h.get? a=some _ from x)
 |ext φ=>obtain⟨_,⟨_,e⟩,_⟩:=x;exact yj e
def Paired.mapP{α β:Type}{F G:α->β->Prop}:∀{l₁:List α} {l₂:List β},Paired F l₁ l₂->(∀a b,F a b->G a b)->Paired G l₁ l₂
 |_,_, .nil,_ => .nil
 |_,_, .cons r t,f => .cons (f _ _ r) (Paired.mapP t f)
def ObjOk.stay(x:ObjOk P w H h a o)(k:∀b u,(b=a\/H b=some (.own a))->h.get? b=some u->h'.get? b=some u)
 (ho:∀b,H b=some (.own a)->H' b=some (.own a)) (ht:∀b xs,H b=some (.tup xs)->H' b=some (.tup xs)):ObjOk P w H' h' a o:=by
 induction o with
 |lst xs=>obtain⟨z,its,n,r,e⟩:=x;exact⟨z,its,n,r,k _ _ (.inl rfl) e⟩
 |tup xs=>obtain⟨z,its,r,ob,e,c⟩:=x;exact⟨z,its,r,ob,k _ _ (.inl rfl) e,c⟩
 |dK kvs=>obtain⟨z,y,vs,r,ob,es,ep,e,c⟩:=x;exact⟨z,y,vs,r,ob,es,ep,k _ _ (.inl rfl) e,c⟩
 |dT kvs=>
  obtain⟨z,y,xs,r,ob,es,ep,e,c⟩:=x;exact⟨z,y,xs,Paired.mapP r fun p q z=>⟨z.1,ht _ _ z.2.1,z.2.2⟩,ob,es,ep,k _ _ (.inl rfl) e,c⟩
 |set S n=>obtain⟨ob,es,ep,t,e,c⟩:=x;exact⟨ob,es,ep,t,k _ _ (.inl rfl) e,c⟩
 |ins C dx fs=>
  obtain⟨d,z,ne,e,mA,⟨od,es,ep,e2,c⟩,r⟩:=x;exact⟨ho _ d,z,ne,k _ _ (.inl rfl) e,mA,⟨od,es,ep,k _ _ (.inr d) e2,c⟩,r⟩
 |own y=>obtain⟨ob,e⟩:=x;exact⟨ob,k _ _ (.inl rfl) e⟩
 |xd fs=>obtain⟨mA,⟨od,es,ep,e,c⟩,r⟩:=x;exact⟨mA,⟨od,es,ep,k _ _ (.inl rfl) e,c⟩,r⟩
 |rng lo hi=>obtain⟨t,u,v,e⟩:=x;exact⟨t,u,v,k _ _ (.inl rfl) e⟩
 |frz ob u ih=>obtain⟨e,q⟩:=x;exact⟨k _ _ (.inl rfl) e,ih q⟩
 |tbl ps=>
  have e:h.get? a=some {cls := .none,data := .fields ps }:=x;show h'.get? a=some {cls := .none,data := .fields ps };exact k a _ (.inl rfl) e
 |met f y=>
  have e:h.get? a=some (W.methodObj (.ref f) (.ref y)):=x;show h'.get? a=some (W.methodObj (.ref f) (.ref y));exact k a _ (.inl rfl) e
 |ext φ=>obtain⟨p,⟨o,e⟩,st⟩:=x;exact⟨st _ _ p fun o q=>k _ _ (.inl rfl) q,⟨o,k _ _ (.inl rfl) e⟩,st⟩
def HOk.lt(x:HOk P w H h)(e:H a=some o):a<h.objs.size:=(x a o e).lt
def HOk.fresh(x:HOk P w H h)(e:h.objs.size<=a):H a=none:=by
 cases q:H a with
 |none=>rfl
 |some u=>exact absurd (yv (x.lt q) e) (yO _)
def HOk.kept(x:HOk P w H h)(k:∀b u,h.get? b=some u->h'.get? b=some u):HOk P w H h':=fun a o e=>
 (x a o e).stay (fun b u _ q=>k b u q) (fun _ q=>q) fun _ _ q=>q
def HOk.laid(x:HOk P w H h)(k:∀b u,h.get? b=some u->h'.get? b=some u)(hp:h.objs.size<=a)(new:ObjOk P w (upd H a o) h' a o):HOk P w (upd H a o) h':=fun b u e=>by
 have hn:=x.fresh hp
 by_cases hb:b=a
 ·subst hb;rw[zu]at e;cases e;exact new
 ·rw[zH hb]at e;exact(x b u e).stay (fun c v _ q=>k c v q) (fun c q=>by rw[zH (zC q hn)];exact q) fun c xs q=>by rw[zH (zC q hn)];exact q
end
def Rd(H:Hp)(a:Addr)(u:HO):Prop:=H a=some u\/∃o,H a=some (.frz o u)
def Rd.ok{P:yw}{w:yF}{H:Hp}{h:yP}{a:Addr}{u:HO}(r:Rd H a u)(x:HOk P w H h):ObjOk P w H h a u:=by
 rcases r with r | ⟨o,r⟩
 ·exact x a u r
 ·obtain⟨_,q⟩:=x a _ r;exact q
def Mut:Option HO->Prop
 |some (.lst _)=>True
 |some (.dK _)=>True
 |some (.dT _)=>True
 |some (.set _ _)=>True
 |some (.ins _ _ _)=>True
 |some (.ext _)=>True
 |_=>False
section
variable {P:yw}{w:yF}{H:Hp}{h h':yP}{x e:Addr}{o':HO}
def HOk.write(ok:HOk P w H h)(mu:Mut (H x))(he:e=x\/H e=some (.own x))(k:∀b u,b≠e->h.get? b=some u->h'.get? b=some u)(heo:∃u,h'.get? e=some u)
 (new:ObjOk P w (upd H x o') h' x o'):HOk P w (upd H x o') h':=fun b u q=>by
 have nown:∀c y,H c=some (.own y)->c≠x:=fun c y r z=>by subst z;rw[r]at mu;exact mu
 have ntup:∀c xs,H c=some (.tup xs)->c≠x:=fun c xs r z=>by subst z;rw[r]at mu;exact mu
 by_cases hb:b=x
 ·subst hb;rw[zu]at q;cases q;exact new
 ·rw[zH hb]at q
  by_cases hbe:b=e
  ·have q':H b=some (.own x):=by
    rcases he with z | z
    ·exact absurd (hbe.trans z) hb
    ·rw[hbe];exact z
   rw[q]at q';cases q';obtain⟨v,hv⟩:=heo;exact⟨v,by rw[hbe];exact hv⟩
  ·refine(ok b u q).stay (fun c v hc r=>k c v ?_ r) (fun c r=>by rw[zH (nown c b r)];exact r) fun c xs r=>by rw[zH (ntup c xs r)];exact r
   rcases hc with rfl | hc
   ·exact hbe
   ·rintro rfl;rcases he with z | z
    ·exact nown c b hc z
    ·rw[hc]at z;cases z;exact hb rfl
end
structure Un(fs ex:List Addr)(H H':Hp)(h h':yP):Prop where
 keep:∀b o,h.get? b=some o->H b=none->b∉fs->b∉ex->h'.get? b=some o
 slot:∀b o,h.get? b=some o->H b=none->b∈fs->b∉ex->∃sl,h'.get? b=some {o with slots:=sl }
 free:∀b o,h.get? b=some o->H b=none->b∉ex->H' b=none
 there:∀b o,h.get? b=some o->b∉ex->∃o',h'.get? b=some o'
 tups:∀b xs,H b=some (.tup xs)->H' b=some (.tup xs)
 frzs:∀b o u,H b=some (.frz o u)->H' b=some (.frz o u)
 tbls:∀b ps,H b=some (.tbl ps)->∃more,H' b=some (.tbl (ps++more))
section
variable {fs fs' ex ex':List Addr}{H H1 H2:Hp}{h h1 h2 h':yP}{a x e:Addr}{o:HO}
def Un.any(u:Un fs ex H H1 h h1){b:Addr}{ob:YN}(q:h.get? b=some ob)(n:H b=none)(hx:b∉ex):∃sl,h1.get? b=some {ob with slots:=sl }:=by
 by_cases hb:b∈fs
 ·exact u.slot b ob q n hb hx
 ·exact⟨ob.slots,u.keep b ob q n hb hx⟩
def Un.trans(a:Un fs ex H H1 h h1)(b:Un fs ex H1 H2 h1 h2):Un fs ex H H2 h h2 where
 keep:=fun c ob q n hc hx=>b.keep c ob (a.keep c ob q n hc hx) (a.free c ob q n hx) hc hx
 slot:=fun c ob q n hc hx=>by
  obtain⟨sl,e1⟩:=a.slot c ob q n hc hx;obtain⟨sl',e2⟩:=b.slot c _ e1 (a.free c ob q n hx) hc hx;exact⟨sl',e2⟩
 free:=fun c ob q n hx=>by
  obtain⟨o',e1⟩:=a.there c ob q hx;exact b.free c o' e1 (a.free c ob q n hx) hx
 there:=fun c ob q hx=>by
  obtain⟨o',e1⟩:=a.there c ob q hx;exact b.there c o' e1 hx
 tups:=fun c xs q=>b.tups c xs (a.tups c xs q)
 frzs:=fun c ob xs q=>b.frzs c ob xs (a.frzs c ob xs q)
 tbls:=fun c ps q=>by
  obtain⟨m1,e1⟩:=a.tbls c ps q;obtain⟨m2,e2⟩:=b.tbls c _ e1;exact⟨m1++m2,by rw[e2,Array.append_assoc]⟩
def Un.kept(k:∀b u,h.get? b=some u->h'.get? b=some u):Un fs ex H H h h' :=
 ⟨fun b ob q _ _ _=>k b ob q,fun b ob q _ _ _=>⟨ob.slots,k b ob q⟩,fun _ _ _ n _=>n,fun b ob q _=>⟨ob,k b ob q⟩,fun _ _ q=>q,fun _ _ _ q=>q,fun _ ps q=>⟨#[],by rw[q];simp⟩⟩
def Un.refl:Un fs ex H H h h:=Un.kept fun _ _ q=>q
def Un.laid(k:∀b u,h.get? b=some u->h'.get? b=some u)(hp:h.objs.size<=a)(hn:H a=none):Un fs ex H (upd H a o) h h' where
 keep:=fun b u q _ _ _=>k b u q
 slot:=fun b u q _ _ _=>⟨u.slots,k b u q⟩
 free:=fun b u q n _=>by rw[zH (yz (yv (yj q) hp))];exact n
 there:=fun b u q _=>⟨u,k b u q⟩
 tups:=fun b xs q=>by rw[zH (zC q hn)];exact q
 frzs:=fun b u xs q=>by rw[zH (zC q hn)];exact q
 tbls:=fun b ps q=>⟨#[],by rw[zH (zC q hn),q];simp⟩
def Un.write(mu:Mut (H x))(he:e=x\/H e=some (.own x))(k:∀b u,b≠e->h.get? b=some u->h'.get? b=some u)(heo:∃u,h'.get? e=some u):Un fs ex H (upd H x o) h h':=by
 have hx:∀b,H b=none->b≠x:=fun b n z=>by subst z;rw[n]at mu;exact mu
 have hb:∀b,H b=none->b≠e:=fun b n z=>by
  subst z;rcases he with r | r
  ·exact hx b n r
  ·rw[n]at r;cases r
 have hm:∀b u,H b=some u->¬Mut (some u)->b≠x:=fun b u q nm z=>by subst z;rw[q]at mu;exact nm mu
 refine⟨fun b u q n _ _=>k b u (hb b n) q,fun b u q n _ _=>⟨u.slots,k b u (hb b n) q⟩,fun b u q n _=>by rw[zH (hx b n)];exact n,fun b u q _=>?_,
  fun b xs q=>by rw[zH (hm b _ q fun z=>z)];exact q,fun b u xs q=>by rw[zH (hm b _ q fun z=>z)];exact q,fun b ps q=>⟨#[],by rw[zH (hm b _ q fun z=>z),q];simp⟩⟩
 by_cases hbe:b=e
 ·subst hbe;exact heo
 ·exact⟨u,k b u hbe q⟩
end
def trk(h:yP)(H:Hp):List Addr:=(yy h.objs.size).filter fun a=>(H a).isSome
def zDt(h:yP)(H:Hp):yP:=W.hideAll h (trk h H)
def z8r(h:yP)(H:Hp):(zDt h H).objs.size=h.objs.size:=W.hideAll_size _ _
def z1t{h:yP}{H:Hp}{b:Addr}{o:YN}(e:h.get? b=some o)(n:H b=none):(zDt h H).get? b=some o :=
 W.hideAll_get _ e fun hm=>by
  have q:(H b).isSome=true:=(List.mem_filter.mp hm).2;rw[n]at q;simp at q
def zvw{h:yP}{H:Hp}{b:Addr}{o:YN}(e:(zDt h H).get? b=some o):h.get? b=some o/\H b=none:=by
 have e':h.get? b=some o:=W.of_hideAll (trk h H) e;refine⟨e',?_⟩
 cases q:H b with
 |none=>rfl
 |some x=>
  have hm:b∈trk h H:=List.mem_filter.mpr ⟨List.mem_range.mpr (yj e'),by simp[q]⟩;have z:(zDt h H).get? b=none:=W.hideAll_none (trk h H) hm;rw[z]at e;cases e
def z0v(g h:yP)(L:Addr):List (Addr×YN):=(yy h.objs.size).filterMap fun a=>if a=L\/(g.get? a).isSome=true then none else(h.get? a).map fun o=>(a,o)
def rest(g h:yP)(L d:Addr):List (Addr×YN):=(z0v g h L).filter fun p=>decide (p.1≠d)
structure Mod(K:yu)(mg:Str->Option Value)(base:yP):Prop where
 kin:K.In base
 glob:base.Ns ym mg
 blt:∃mb,base.Ns builtinsNs mb/\∀x:Str,x≠"__name__"->mb x=yQ x
 nolimit:base.NoLimit
structure Cx where
 prog:yw
 w:yF
 K:yu
 mg:Str->Option Value
 base:yP
 A:yH
 N:List Str
 s₀:yb
 H₀:Hp
 env:Env
 outer:List Env
 stack:List Env
 ex:List Addr
 fn:Str->Bool
 calm:Bool
 pn:List (Addr×YN)
 xe:Value->yb->Prop
def frs(l:List Env):List Addr:=l.filterMap (·.frame)
abbrev Cx.fs(X:Cx):List Addr:=frs X.outer
def Vis(sc:Xb)(x:Str):Prop:=sc.names.lookup x=some .local\/sc.names.lookup x=some .cell\/sc.names.lookup x=some .free
def Loc(sc:Xb)(x:Str):Prop:=sc.names.lookup x=some .local\/sc.names.lookup x=some .cell
def zfA(env:Env)(h:yP)(m:Str->Option Value)(x:Str)(u:Value):Prop :=
 (env.kindOf x=some .local/\m x=some u)\/((env.kindOf x=some .cell\/env.kindOf x=some .free)/\∃c,env.cells.lookup x=some c/\h.IsCell c (some u))
structure Cx.Ok(X:Cx):Prop where
 mod:Mod X.K X.mg X.base
 kind:X.env.scope.kind = .function
 glob:X.env.globals=ym
 blt:X.env.builtins=builtinsNs
 above:X.s₀.heap.objs.size<=X.env.locals
 inj:∀x y c,X.env.cells.lookup x=some c->X.env.cells.lookup y=some c->x=y
 has:∀x,(X.env.kindOf x=some .cell\/X.env.kindOf x=some .free)->∃c,X.env.cells.lookup x=some c
 cab:∀x c,X.fn x=true->X.env.cells.lookup x=some c->X.s₀.heap.objs.size<=c
 hd:X.calm=true->X.A.handled=none
 frames:X.A.frames=some X.stack
 stk:X.stack=X.outer\/(X.stack=X.env::X.outer/\X.env.frame=some X.env.locals)
 exf:∀b∈X.ex,b≠X.env.locals/\∀x c,X.env.cells.lookup x=some c->c≠b
 bs:∀b o,X.base.get? b=some o->X.s₀.heap.get? b=some o/\X.H₀ b=none
 bsz:X.base.objs.size<=X.s₀.heap.objs.size
 noex:∀b o,X.base.get? b=some o->b∉X.ex
 exfs:∀b∈X.ex,b∉X.fs
 funs:X.s₀.heap.FunFrames X.base X.outer
 frf:∀b∈X.fs,X.H₀ b=none
structure Inv(X:Cx)(pins:List (Addr×YN))(σ:List (Option V))(H:Hp)(s:yb):Prop where
 ok:X.Ok
 os:s.os=X.s₀.os
 bare:AllBare s.gens
 base:Un X.fs X.ex X.H₀ H X.s₀.heap s.heap
 loc:∃m,s.heap.Ns X.env.locals m/\∀(i:Nat)(x:Str)(v:V),X.N[i]?=some x->σ[i]?=some (some v)->Vis X.env.scope x->∃u,RelV v u/\zfA X.env s.heap m x u
 cell:∀x c,X.env.cells.lookup x=some c->∃v,s.heap.IsCell c v
 free:H X.env.locals=none
 freeC:∀x c,X.env.cells.lookup x=some c->H c=none
 pin:∀p∈X.pn++pins,s.heap.get? p.1=some p.2/\H p.1=none/\p.1≠X.env.locals/\p.1∉X.fs/\∀v,p.2.data≠.cell v
 hok:HOk X.prog X.w H s.heap
 len:σ.length=X.N.length
section
variable {X:Cx}{pins:List (Addr×YN)}{σ:List (Option V)}{H H':Hp}{s:yb}{h':yP}
def Cx.Ok.nofr(ok:X.Ok){b:Addr}{o:YN}(e:X.base.get? b=some o):b∉X.fs:=fun hb=>by
 have:=(ok.funs.mem hb).1;rw[e]at this;cases this
def Inv.bs(I:Inv X pins σ H s):∀b o,X.base.get? b=some o->s.heap.get? b=some o/\H b=none:=fun b o e=>
 ⟨I.base.keep b o (I.ok.bs b o e).1 (I.ok.bs b o e).2 (I.ok.nofr e) (I.ok.noex b o e),I.base.free b o (I.ok.bs b o e).1 (I.ok.bs b o e).2 (I.ok.noex b o e)⟩
def Inv.bk(I:Inv X pins σ H s):∀b o,X.base.get? b=some o->s.heap.get? b=some o:=fun b o e=>(I.bs b o e).1
def Inv.mod(I:Inv X pins σ H s):Mod X.K X.mg X.base:=I.ok.mod
def Inv.kIn(I:Inv X pins σ H s):X.K.In s.heap:=I.ok.mod.kin.keeps I.bk
def Inv.fr(I:Inv X pins σ H s):∃m,Fr X.base X.env.locals s.heap m :=
 let ⟨m,hn,_⟩:=I.loc
 ⟨m,hn,I.bk,yC I.ok.bsz I.ok.above⟩
def Inv.lt(I:Inv X pins σ H s):X.env.locals<s.heap.objs.size:=let ⟨_,hn,_⟩:=I.loc;hn.lt
def Inv.sz(I:Inv X pins σ H s):X.s₀.heap.objs.size<=s.heap.objs.size:=yC I.ok.above (YI I.lt)
def Inv.nofs(I:Inv X pins σ H s){a:Addr}(h:s.heap.objs.size<=a):a∉X.fs:=fun hb=>by
 obtain⟨_,o,ho,_⟩:=I.ok.funs.mem hb;exact absurd (yv (yj ho) (yC I.sz h)) (yO _)
def Inv.cne(I:Inv X pins σ H s):∀x c,X.env.cells.lookup x=some c->c≠X.env.locals:=fun x c e z=>by
 obtain⟨v,o,ho,hd⟩:=I.cell x c e;obtain⟨m,⟨o',es,ep,ho',hd',_⟩,_⟩:=I.loc;rw[z,ho']at ho;cases ho;rw[hd']at hd;cases hd
def Inv.funs(I:Inv X pins σ H s):s.heap.FunFrames X.base X.outer:=by
 have all:∀(l:List Env),(∀b∈frs l,b∈X.fs)->X.s₀.heap.FunFrames X.base l->s.heap.FunFrames X.base l:=by
  intro l
  induction l with
  |nil=>intro _ _;trivial
  |cons env r ih=>
   intro hs hl;obtain⟨hk,⟨L,o,hf,hn,ho,hd⟩,hr⟩:=hl;have hL:L∈X.fs:=hs L (by unfold frs;rw[filterMap_cons,hf];exact mem_cons_self);obtain⟨sl,e⟩:=I.base.slot L o ho (I.ok.frf L hL) hL fun z=>I.ok.exfs L z hL;exact⟨hk,⟨L,_,hf,hn,e,hd⟩,ih (fun b hb=>hs b (by unfold frs;rw[filterMap_cons,hf];exact mem_cons_of_mem _ hb)) hr⟩
 exact all X.outer (fun _ hb=>hb) I.ok.funs
def Inv.stack(I:Inv X pins σ H s):s.heap.FunFrames X.base X.stack:=by
 rcases I.ok.stk with e | ⟨e,hf⟩
 ·rw[e];exact I.funs
 ·rw[e];obtain⟨m,hn,_⟩:=I.loc;refine .cons (by rw[I.ok.kind];decide) hf hn ?_ I.funs;exact Heap.get?_none_of_le (yC I.ok.bsz I.ok.above)
def Inv.stkSub(I:Inv X pins σ H s):∀b∈frs X.stack,b∈X.env.locals::X.fs:=fun b hb=>by
 rcases I.ok.stk with e | ⟨e,hf⟩
 ·rw[e]at hb;exact mem_cons_of_mem _ hb
 ·rw[e]at hb;unfold frs at hb;rw[filterMap_cons,hf]at hb;exact hb
def Inv.stkFree(I:Inv X pins σ H s):∀b∈frs X.stack,H b=none:=fun b hb=>by
 rcases List.mem_cons.mp (I.stkSub b hb) with e | hb
 ·rw[e];exact I.free
 ·obtain⟨_,o,ho,_⟩:=I.ok.funs.mem hb;exact I.base.free b o ho (I.ok.frf b hb) fun z=>I.ok.exfs b z hb
def Inv.step{g':Array GenState}{t':Nat}{d':Drawn}{ch:List Addr}(I:Inv X pins σ H s)
 (hch:∀b∈ch,(b∈X.ex\/X.s₀.heap.objs.size<=b)/\b≠X.env.locals/\(∀x c,X.env.cells.lookup x=some c->c≠b)/\∀p∈X.pn++pins,p.1≠b)
 (keep:∀b o,b≠X.env.locals->b∉X.fs->b∉ch->s.heap.get? b=some o->H b=none->h'.get? b=some o)
 (slot:∀b o,b≠X.env.locals->b∈X.fs->b∉ch->s.heap.get? b=some o->H b=none->∃sl,h'.get? b=some {o with slots:=sl }) (free:∀b o,b∉ch->s.heap.get? b=some o->H b=none->H' b=none)
 (there:∀b o,b∉ch->s.heap.get? b=some o->∃o',h'.get? b=some o')
 (tups:∀b xs,H b=some (.tup xs)->H' b=some (.tup xs)) (frzs:∀b o u,H b=some (.frz o u)->H' b=some (.frz o u)) (tbls:∀b ps,H b=some (.tbl ps)->∃more,H' b=some (.tbl (ps++more)))
 (ns:∀m,s.heap.Ns X.env.locals m->h'.Ns X.env.locals m) (hok:HOk X.prog X.w H' h') (hg:AllBare g') :
 Inv X pins σ H' {s with heap:=h',gens:=g',drawn:=d',toks:=t' }:=by
 have neL:∀b o,X.s₀.heap.get? b=some o->b≠X.env.locals:=fun b o e=>yz (yv (yj e) I.ok.above)
 have neC:∀b o,X.s₀.heap.get? b=some o->b∉X.ex->b∉ch:=fun b o e hx hb=>by
  rcases(hch b hb).1 with z | z
  ·exact hx z
  ·exact absurd (yv (yj e) z) (yO _)
 have cellK:∀x c,X.env.cells.lookup x=some c->∀v,s.heap.IsCell c v->h'.IsCell c v:=fun x c e v ⟨o,ho,hd⟩=>by
  have nch:c∉ch:=fun z=>(hch c z).2.2.1 x c e rfl
  by_cases hc:c∈X.fs
  ·obtain⟨sl,q⟩:=slot c o (I.cne x c e) hc nch ho (I.freeC x c e);exact⟨_,q,hd⟩
  ·exact⟨o,keep c o (I.cne x c e) hc nch ho (I.freeC x c e),hd⟩
 refine⟨I.ok,I.os,hg,⟨fun b o e n hb hx=>?_,fun b o e n hb hx=>?_,fun b o e n hx=>?_,fun b o e hx=>?_,fun b xs e=>tups b xs (I.base.tups b xs e),fun b o xs e=>frzs b o xs (I.base.frzs b o xs e),fun b ps e=>?_⟩,?_,fun x c e=>?_,?_,fun x c e=>?_,fun p hp=>?_,hok,I.len⟩
 ·exact keep b o (neL b o e) hb (neC b o e hx) (I.base.keep b o e n hb hx) (I.base.free b o e n hx)
 ·obtain⟨sl,e1⟩:=I.base.slot b o e n hb hx;obtain⟨sl',e2⟩:=slot b _ (neL b o e) hb (neC b o e hx) e1 (I.base.free b o e n hx);exact⟨sl',e2⟩
 ·obtain⟨o',e1⟩:=I.base.there b o e hx;exact free b o' (neC b o e hx) e1 (I.base.free b o e n hx)
 ·obtain⟨o',e1⟩:=I.base.there b o e hx;exact there b o' (neC b o e hx) e1
 ·obtain⟨m1,e1⟩:=I.base.tbls b ps e;obtain⟨m2,e2⟩:=tbls b _ e1;exact⟨m1++m2,by rw[e2,Array.append_assoc]⟩
 ·obtain⟨m,hn,hl⟩:=I.loc;refine⟨m,ns m hn,fun i x v e1 e2 e3=>?_⟩;obtain⟨u,r,l⟩:=hl i x v e1 e2 e3;refine⟨u,r,?_⟩;rcases l with l | ⟨k,c,e,z⟩
  ·exact .inl l
  ·exact .inr ⟨k,c,e,cellK x c e _ z⟩
 ·obtain⟨v,z⟩:=I.cell x c e;exact⟨v,cellK x c e v z⟩
 ·obtain⟨m,⟨o,_,_,ho,_⟩,_⟩:=I.loc;exact free _ o (fun z=>(hch _ z).2.1 rfl) ho I.free
 ·obtain⟨v,o,ho,hd⟩:=I.cell x c e;exact free c o (fun z=>(hch c z).2.2.1 x c e rfl) ho (I.freeC x c e)
 ·obtain⟨e,n,ne,nf,d⟩:=I.pin p hp;have nch:p.1∉ch:=fun z=>(hch p.1 z).2.2.2 p hp rfl;exact⟨keep p.1 p.2 ne nf nch e n,free p.1 p.2 nch e n,ne,nf,d⟩
def Inv.un{t':Nat}(I:Inv X pins σ H s)(u:Un X.fs [] H H' s.heap h')(hok:HOk X.prog X.w H' h'):Inv X pins σ H' {s with heap:=h',toks:=t' }:=by
 obtain⟨m,⟨o,es,ep,ho,r⟩,_⟩:=id I.loc;obtain⟨sl,hL⟩:=u.any ho I.free (by simp)
 exact I.step (g':=s.gens) (d':=s.drawn) (ch:=[]) (fun _ z=>nomatch z) (fun b o _ hb _ e n=>u.keep b o e n hb (by simp)) (fun b o _ hb _ e n=>u.slot b o e n hb (by simp)) (fun b o _ e n=>u.free b o e n (by simp)) (fun b o _ e=>u.there b o e (by simp)) u.tups u.frzs u.tbls (fun m' hm=>by
  obtain⟨o',es',ep',ho',r'⟩:=hm;rw[ho]at ho';cases ho';exact⟨_,es',ep',hL,r'⟩) hok I.bare
def Inv.call{g':Array GenState}{t':Nat}{d':Drawn}{ch:List Addr}(I:Inv X pins σ H s)(u:Un (frs X.stack) ch H H' s.heap h')(hok:HOk X.prog X.w H' h')(hg:AllBare g')
 (hch:∀b∈ch,(b∈X.ex\/X.s₀.heap.objs.size<=b)/\b≠X.env.locals/\(∀x c,X.env.cells.lookup x=some c->c≠b)/\∀p∈X.pn++pins,p.1≠b) :
 Inv X pins σ H' {s with heap:=h',gens:=g',drawn:=d',toks:=t' }:=by
 obtain⟨m,⟨o,es,ep,ho,r⟩,_⟩:=id I.loc;obtain⟨sl,hL⟩:=u.any ho I.free fun z=>(hch _ z).2.1 rfl
 exact I.step (ch:=ch) hch (fun b o hL hb hc e n=>u.keep b o e n (fun z=>(List.mem_cons.mp (I.stkSub b z)).elim hL hb) hc) (fun b o _ _ hc e n=>u.any e n hc) (fun b o hc e n=>u.free b o e n hc) (fun b o hc e=>u.there b o e hc) u.tups u.frzs u.tbls (fun m' hm=>by
  obtain⟨o',es',ep',ho',r'⟩:=hm;rw[ho]at ho';cases ho';exact⟨_,es',ep',hL,r'⟩) hok hg
def Inv.turned{t':Nat}{it:Addr}(I:Inv X pins σ H s)(k:∀b o,b≠it->s.heap.get? b=some o->h'.get? b=some o)(hn:H it=none)(hL:it≠X.env.locals)
 (h1:it∈X.ex\/X.s₀.heap.objs.size<=it) (h2:∀x c,X.env.cells.lookup x=some c->c≠it) (h3:∀p∈X.pn++pins,p.1≠it):Inv X pins σ H {s with heap:=h',toks:=t' }:=by
 have nit:∀b u,H b=some u->b≠it:=fun b u e z=>by rw[z,hn]at e;cases e
 refine I.step (g':=s.gens) (d':=s.drawn) (ch:=[it]) (fun b hb=>?_) (fun b o _ _ hc e _=>k b o (fun z=>hc (by simp[z])) e) (fun b o _ _ hc e _=>⟨o.slots,k b o (fun z=>hc (by simp[z])) e⟩) (fun _ _ _ _ n=>n)
  (fun b o hc e=>⟨o,k b o (fun z=>hc (by simp[z])) e⟩) (fun _ _ e=>e) (fun _ _ _ e=>e) (fun b ps e=>⟨#[],by rw[e];simp⟩) (fun m hm=>?_) (fun b u e=>?_) I.bare
 ·have e:b=it:=by simpa using hb
  subst e;exact⟨h1,hL,h2,h3⟩
 ·obtain⟨o,es,ep,ho,r⟩:=hm;exact⟨o,es,ep,k _ o (yN hL) ho,r⟩
 ·refine(I.hok b u e).stay (fun c v hc q=>k c v ?_ q) (fun _ q=>q) fun _ _ q=>q;rcases hc with z | z
  ·rw[z];exact nit b u e
  ·exact nit c _ z
def Inv.tok(I:Inv X pins σ H s)(t:Nat):Inv X pins σ H {s with toks:=t }:=I.un (h':=s.heap) (t':=t) Un.refl I.hok
def Inv.kept{t':Nat}(I:Inv X pins σ H s)(k:∀b u,s.heap.get? b=some u->h'.get? b=some u):Inv X pins σ H {s with heap:=h',toks:=t' }:=I.un (Un.kept k) (I.hok.kept k)
def Inv.laid{a:Addr}{o:HO}{t':Nat}(I:Inv X pins σ H s)(k:∀b u,s.heap.get? b=some u->h'.get? b=some u)(hp:s.heap.objs.size<=a)(new:ObjOk X.prog X.w (upd H a o) h' a o) :
 Inv X pins σ (upd H a o) {s with heap:=h',toks:=t' }:=I.un (Un.laid k hp (I.hok.fresh hp)) (I.hok.laid k hp new)
def Inv.write{x e:Addr}{o:HO}{t':Nat}(I:Inv X pins σ H s)(mu:Mut (H x))(he:e=x\/H e=some (.own x))(k:∀b u,b≠e->s.heap.get? b=some u->h'.get? b=some u)(heo:∃u,h'.get? e=some u)
 (new:ObjOk X.prog X.w (upd H x o) h' x o):Inv X pins σ (upd H x o) {s with heap:=h',toks:=t' }:=I.un (Un.write mu he k heo) (I.hok.write mu he k heo new)
def Inv.weak{σ':List (Option V)}(I:Inv X pins σ H s)(hl:σ'.length=σ.length)(w:∀(i:Nat) v,σ'[i]?=some (some v)->σ[i]?=some (some v)):Inv X pins σ' H s :=
 ⟨I.ok,I.os,I.bare,I.base,let ⟨m,hn,hl'⟩:=I.loc;⟨m,hn,fun i x v e1 e2 e3=>hl' i x v e1 (w i v e2) e3⟩,I.cell,I.free,I.freeC,I.pin,I.hok,hl.trans I.len⟩
def Inv.pins_of{pins':List (Addr×YN)}(I:Inv X pins σ H s)(h:∀p∈pins',s.heap.get? p.1=some p.2/\H p.1=none/\p.1≠X.env.locals/\p.1∉X.fs/\∀v,p.2.data≠.cell v):Inv X pins' σ H s :=
 ⟨I.ok,I.os,I.bare,I.base,I.loc,I.cell,I.free,I.freeC,fun p hp=>(List.mem_append.mp hp).elim (fun z=>I.pin p (mem_append_left _ z)) (h p),I.hok,I.len⟩
def zYl{N:List Str}(hN:N.Nodup){i j:Nat}{x:Str}(a:N[i]?=some x)(b:N[j]?=some x):i=j:=by
 obtain⟨h1,e1⟩:=List.getElem?_eq_some_iff.mp a;obtain⟨h2,e2⟩:=List.getElem?_eq_some_iff.mp b;exact(List.getElem_inj hN).mp (e1.trans e2.symm)
def zhn{M:Model}{A:yH}{E:Value->yb->Prop}{i:Nat}{x:Str}{v:V}{u:Value}{Q:Unit->yb->Prop}(I:Inv X pins σ H s)(hN:X.N.Nodup)(hi:X.N[i]?=some x)(hx:Loc X.env.scope x)(r:RelV v u)
 (h:∀s',Inv X pins (σ.set i (some v)) H s'->(∃a,Yk a s.heap s'.heap/\(a=X.env.locals\/X.env.cells.lookup x=some a))->Q () s') (hf:X.fn x=true\/X.env.scope.names.lookup x=some .local:=by first | exact .inl rfl | exact .inr rfl | assumption):yn M A (storeName X.env x u) Q E s:=by
 obtain⟨m,hn,hl⟩:=id I.loc;have hcls:(X.env.scope.kind == .class||(X.env.scope.kind == .module&&X.env.locals != X.env.globals))=false:=by rw[I.ok.kind];rfl
 have hiσ:i<σ.length:=by rw[I.len];exact(List.getElem?_eq_some_iff.mp hi).1
 have cne:=I.cne
 have tracked:∀{a:Addr} {h':yP},(∃o,s.heap.get? a=some o/\H a=none)->Yk a s.heap h'->HOk X.prog X.w H h':=fun{a h'} ha hs b ob e=>by
  obtain⟨_,_,hfree⟩:=ha;refine(I.hok b ob e).stay (fun c w' hc q=>(hs.2 c ?_).trans q) (fun _ q=>q) fun _ _ q=>q;rintro rfl;rcases hc with rfl | hc
  ·rw[hfree]at e;cases e
  ·rw[hfree]at hc;cases hc
 rcases hx with hk | hk
 ·refine wpAny_storeName_local hk hn (fun h' hn' hs=>?_) hcls;obtain⟨oL,_,_,hoL,_⟩:=id hn;refine h _ ⟨I.ok,I.os,I.bare,⟨fun b o e n hb hx=>?_,fun b o e n hb hx=>?_,I.base.free,fun b o e hx=>?_,I.base.tups,I.base.frzs,I.base.tbls⟩,⟨_,hn',fun j y v' e1 e2 e3=>?_⟩,fun y c e=>?_,I.free,I.freeC,fun p hp=>?_,tracked ⟨oL,hoL,I.free⟩ hs,by simpa using I.len⟩ ⟨_,hs, .inl rfl⟩
  ·exact(hs.2 b (yz (yv (yj e) I.ok.above))).trans (I.base.keep b o e n hb hx)
  ·obtain⟨sl,e1⟩:=I.base.slot b o e n hb hx;exact⟨sl,(hs.2 b (yz (yv (yj e) I.ok.above))).trans e1⟩
  ·obtain⟨o',e1⟩:=I.base.there b o e hx;exact⟨o',(hs.2 b (yz (yv (yj e) I.ok.above))).trans e1⟩
  ·by_cases hj:j=i
   ·subst hj;rw[hi]at e1;cases e1;rw[yM hiσ]at e2;cases e2;exact⟨u,r, .inl ⟨hk,by simp⟩⟩
   ·rw[yJ (yN hj)]at e2;obtain⟨u',r',q⟩:=hl j y v' e1 e2 e3;refine⟨u',r',?_⟩;rcases q with ⟨k,e⟩ | ⟨k,c,e,z⟩
    ·refine .inl ⟨k,?_⟩;have:y≠x:=fun e=>hj (zYl hN e1 (e▸hi));simp[this,e]
    ·exact .inr ⟨k,c,e,z.sameBut hs (cne y c e)⟩
  ·obtain⟨w',z⟩:=I.cell y c e;exact⟨w',z.sameBut hs (cne y c e)⟩
  ·obtain⟨e,n,ne,nf,d⟩:=I.pin p hp;exact⟨(hs.2 p.1 ne).trans e,n,ne,nf,d⟩
 ·have hfn:X.fn x=true:=by
   rcases hf with z | z
   ·exact z
   ·rw[z]at hk;cases hk
  obtain⟨c,hc⟩:=I.ok.has x (.inl hk);obtain⟨w',z⟩:=I.cell x c hc;refine wpAny_storeName_cell I.ok.kind hk hc z (fun h' hc' hs=>?_);obtain⟨oc,hoc,hocd⟩:=id z;refine h {s with heap:=h' } ⟨I.ok,I.os,I.bare,⟨fun b o e n hb hx=>?_,fun b o e n hb hx=>?_,I.base.free,fun b o e hx=>?_,I.base.tups,I.base.frzs,I.base.tbls⟩,⟨m,hn.sameBut hs (yN (cne x c hc)),fun j y v' e1 e2 e3=>?_⟩,fun y c' e=>?_,I.free,I.freeC,fun p hp=>?_,tracked ⟨oc,hoc,I.freeC x c hc⟩ hs,by simpa using I.len⟩ ⟨c,hs, .inr hc⟩
  ·exact(hs.2 b (yz (yv (yj e) (I.ok.cab x c hfn hc)))).trans (I.base.keep b o e n hb hx)
  ·obtain⟨sl,e1⟩:=I.base.slot b o e n hb hx;exact⟨sl,(hs.2 b (yz (yv (yj e) (I.ok.cab x c hfn hc)))).trans e1⟩
  ·obtain⟨o',e1⟩:=I.base.there b o e hx;exact⟨o',(hs.2 b (yz (yv (yj e) (I.ok.cab x c hfn hc)))).trans e1⟩
  ·by_cases hj:j=i
   ·subst hj;rw[hi]at e1;cases e1;rw[yM hiσ]at e2;cases e2;exact⟨u,r, .inr ⟨.inl hk,c,hc,hc'⟩⟩
   ·rw[yJ (yN hj)]at e2;obtain⟨u',r',q⟩:=hl j y v' e1 e2 e3;refine⟨u',r',?_⟩;rcases q with q | ⟨k,c',e,z'⟩
    ·exact .inl q
    ·refine .inr ⟨k,c',e,z'.sameBut hs ?_⟩;rintro rfl;exact hj (zYl hN e1 (I.ok.inj _ _ _ e hc▸hi))
  ·by_cases hcc:c'=c
   ·subst hcc;exact⟨_,hc'⟩
   ·obtain⟨w2,z2⟩:=I.cell y c' e;exact⟨w2,z2.sameBut hs hcc⟩
  ·obtain⟨e,n,ne,nf,d⟩:=I.pin p hp;refine⟨(hs.2 p.1 ?_).trans e,n,ne,nf,d⟩;intro q;rw[q,hoc]at e;have q':oc=p.2:=Yd e;exact d w' (by rw[<-q'];exact hocd)
def z6i{M:Model}{A:yH}{E:Value->yb->Prop}{i:Nat}{x:Str}{v:V}{u:Value}{Q:Unit->yb->Prop}(I:Inv X pins σ H s)(hN:X.N.Nodup)(hi:X.N[i]?=some x)(hx:Loc X.env.scope x)(r:RelV v u)
 (h:∀s',Inv X pins (σ.set i (some v)) H s'->Q () s') (hf:X.fn x=true\/X.env.scope.names.lookup x=some .local:=by first | exact .inl rfl | exact .inr rfl | assumption):yn M A (storeName X.env x u) Q E s :=
 zhn I hN hi hx r (fun s' I' _=>h s' I') hf
def Inv.call'{s':yb}{ch:List Addr}(I:Inv X pins σ H s)(ho:s'.os=s.os)(u:Un (frs X.stack) ch H H' s.heap s'.heap)(hok:HOk X.prog X.w H' s'.heap)(hg:AllBare s'.gens)
 (hch:∀b∈ch,(b∈X.ex\/X.s₀.heap.objs.size<=b)/\b≠X.env.locals/\(∀x c,X.env.cells.lookup x=some c->c≠b)/\∀p∈X.pn++pins,p.1≠b):Inv X pins σ H' s':=by
 obtain⟨h',g',d',t',o'⟩:=s';have e:o'=s.os:=ho;subst e;exact I.call (g':=g') (t':=t') (d':=d') u hok hg hch
end
abbrev XK:=Value->Option Addr->Hp->Prop
abbrev St:=List (Option V)
abbrev VK:=V->Hp->Prop
abbrev TE:=St->Hp->VK->Prop
abbrev TT:=St->Hp->(Bool->Hp->Prop)->Prop
abbrev TA:=St->Hp->(List V->Hp->Prop)->Prop
structure Ends where
 nx:St->Hp->Prop
 rt:VK
 bk:St->Hp->Prop:=fun _ _=>False
 ct:St->Hp->Prop:=fun _ _=>False
abbrev TS:=Ends->St->Hp->Prop
def EP(X:Cx)(pins:List (Addr×YN))(σ:St)(Q:VK)(u:Value)(s':yb):Prop:=∃v H',Inv X pins σ H' s'/\RelV v u/\Q v H'
def TP(X:Cx)(pins:List (Addr×YN))(σ:St)(Q:Bool->Hp->Prop)(b:Bool)(s':yb):Prop:=∃H',Inv X pins σ H' s'/\Q b H'
def AP(X:Cx)(pins:List (Addr×YN))(σ:St)(Q:List V->Hp->Prop)(us:List Value)(s':yb):Prop:=∃vs H',Inv X pins σ H' s'/\Vals vs us/\Q vs H'
def SP(X:Cx)(pins:List (Addr×YN))(D:Ends)(f:Flow)(s':yb):Prop :=
 match f with
 |.next=>∃σ' H',Inv X pins σ' H' s'/\D.nx σ' H'
 |.brk=>∃σ' H',Inv X pins σ' H' s'/\D.bk σ' H'
 |.cont=>∃σ' H',Inv X pins σ' H' s'/\D.ct σ' H'
 |.ret u=>∃v σ' H',Inv X pins σ' H' s'/\RelV v u/\D.rt v H'
def PE(X:Cx)(e:Expr)(t:TE):Prop :=
 ∀(pins:List (Addr×YN)) (s:yb) (σ:St) (H:Hp) (Q:VK),Inv X pins σ H s->t σ H Q->yn (yr X.prog X.w) X.A (yW e X.env) (EP X pins σ Q) X.xe s
def PT(X:Cx)(e:Expr)(t:TT):Prop :=
 ∀(pins:List (Addr×YN)) (s:yb) (σ:St) (H:Hp) (Q:Bool->Hp->Prop),Inv X pins σ H s->t σ H Q->yn (yr X.prog X.w) X.A (isTrue e X.env (yW e X.env)) (TP X pins σ Q) X.xe s
def PW(X:Cx)(e:Expr)(t:TT):Prop :=
 ∀(whole:Sem Value)(pins:List (Addr×YN)) (s:yb) (σ:St) (H:Hp) (Q:Bool->Hp->Prop),Inv X pins σ H s->t σ H Q->yn (yr X.prog X.w) X.A (isTrue e X.env whole) (TP X pins σ Q) X.xe s
def PA(X:Cx)(es:List Expr)(t:TA):Prop :=
 ∀(pos:xp)(pins:List (Addr×YN)) (s:yb) (σ:St) (H:Hp) (Q:List V->Hp->Prop),Inv X pins σ H s->t σ H Q->yn (yr X.prog X.w) X.A (spliced (yZ pos (yf es X.env))) (AP X pins σ Q) X.xe s
def PS(X:Cx)(st:Stmt)(t:TS):Prop :=
 ∀(pins:List (Addr×YN)) (s:yb) (σ:St) (H:Hp) (D:Ends),Inv X pins σ H s->t D σ H->yn (yr X.prog X.w) X.A (exec st X.env) (SP X pins D) X.xe s
def PSs(X:Cx)(st:List Stmt)(t:TS):Prop :=
 ∀(pins:List (Addr×YN)) (s:yb) (σ:St) (H:Hp) (D:Ends),Inv X pins σ H s->t D σ H->yn (yr X.prog X.w) X.A (execs st X.env) (SP X pins D) X.xe s
def thn{α:Type}{t:Sem α}{Q Q':α->yb->Prop}{M:Model}{A:yH}{E:Value->yb->Prop}{s:yb}(h:yn M A t Q E s)(hQ:∀a s,Q a s->Q' a s):yn M A t Q' E s:=yR h hQ fun _ _ x=>x
section
variable {X:Cx}
def zhz(i:Nat):TE:=fun σ H Q=>∃v,σ[i]?=some (some v)/\Q v H
def tC(v:V):TE:=fun _ H Q=>Q v H
def zWu{i:Nat}{x:Str}{pos:xp}(hN:X.N[i]?=some x)(hv:Vis X.env.scope x)(hd:(x==("__debug__":Str))=false:=by decide)(hcd:(x==("__classdict__":Str))=false:=by decide):PE X (.Name x pos) (zhz i):=by
 intro pins s σ H Q I h;obtain⟨v,e,h⟩:=h;obtain⟨m,hn,hl⟩:=I.loc;obtain⟨u,r,l⟩:=hl i x v hN e hv;have fin:EP X pins σ Q u s:=⟨v,H,I,r,h⟩
 rcases l with ⟨hk,hm⟩ | ⟨hk,c,hc,hcell⟩
 ·exact wpAny_Name (wpAny_loadName_local I.ok.kind hk hn hm fin) hd
 ·rcases hk with hk | hk
  ·exact wpAny_Name (wpAny_loadName_cell I.ok.kind hk hc hcell fin) hd
  ·exact wpAny_Name (wpAny_loadName_free I.ok.kind hk hc hcell fin hcd) hd
def z5x{i j pos}:PE X (.Constant (.int i) j pos) (tC (.int i)):=fun _ _ _ H _ I h=>wpAny_Constant_int ⟨.int i,H,I.tok _,⟨_,rfl⟩,h⟩
def z9y{b j pos}:PE X (.Constant (.bool b) j pos) (tC (.bl b)):=fun _ _ _ H _ I h=>Constant_bool ⟨.bl b,H,I,rfl,h⟩
def zOx{j pos}:PE X (.Constant .none j pos) (tC .non):=fun _ _ _ H _ I h=>Constant_none ⟨.non,H,I,rfl,h⟩
def zSx{x j pos}:PE X (.Constant (.str x) j pos) (tC (.str x)):=fun _ _ _ H _ I h=>Calls.Constant_str ⟨.str x,H,I.tok _,⟨_,rfl⟩,h⟩
def Gl(X:Cx)(x:Str):Prop:=X.env.kindOf x=some .globalImplicit
def zTg{E:Value->yb->Prop}{pins:List (Addr×YN)}{s:yb}{σ:St}{H:Hp}{x:Str}{u:Value}{pos:xp}{Q:Value->yb->Prop}(I:Inv X pins σ H s)(hg:Gl X x)(hm:X.mg x=some u)(h:Q u s)
 (hd:(x==("__debug__":Str))=false:=by decide):yn (yr X.prog X.w) X.A (yW (.Name x pos) X.env) Q E s :=
 Calls.Name_function_global I.ok.kind hg (Calls.loadGlobal_global (by rw[I.ok.glob];exact I.mod.glob.keeps I.bk) hm h) hd
def zfl{E:Value->yb->Prop}{pins:List (Addr×YN)}{s:yb}{σ:St}{H:Hp}{x:Str}{u:Value}{pos:xp}{Q:Value->yb->Prop}(I:Inv X pins σ H s)(hg:Gl X x)(hm:X.mg x=none)(hv:yQ x=some u)(h:Q u s)
 (hn:x≠"__name__":=by decide) (hd:(x==("__debug__":Str))=false:=by decide):yn (yr X.prog X.w) X.A (yW (.Name x pos) X.env) Q E s:=by
 obtain⟨mb,h1,h2⟩:=I.mod.blt;exact Calls.Name_function_global I.ok.kind hg (Calls.loadGlobal_builtin (by rw[I.ok.glob];exact I.mod.glob.keeps I.bk) hm (by rw[I.ok.blt];exact h1.keeps I.bk) ((h2 x hn).trans hv) h) hd
def zqv{x:Str}{v:V}{u:Value}{pos:xp}(hg:Gl X x)(hm:X.mg x=some u)(r:RelV v u)(hd:(x==("__debug__":Str))=false:=by decide):PE X (.Name x pos) (tC v) :=
 fun _ _ _ H _ I h=>zTg I hg hm ⟨v,H,I,r,h⟩ hd
variable {a b:Expr}{ta tb:TE}{pos:xp}
def nobehind(b:Expr){op:CmpOp}(h:op≠.In)(h2:op≠.NotIn):behindInMarks op b=false:=by
 have e1:(op==CmpOp.In)=false:=by cases op<;>first | rfl | exact absurd rfl h
 have e2:(op==CmpOp.NotIn)=false:=by cases op<;>first | rfl | exact absurd rfl h2
 cases b<;>simp[behindInMarks,e1,e2]
def tB(t:TE):TT:=fun σ H Q=>t σ H fun x H1=>∃c,x = .bl c/\Q c H1
def zwx{e:Expr}{t:TE}(h:PE X e t)(he:∀whole,isTrue e X.env whole=(do let v <-whole;standAt e.pos;xC [v] (truthy v)):=by intro _;rfl):PT X e (tB t):=by
 intro pins s σ H Q I hw;refine isTrue_plain (thn (h pins s σ H _ I hw) fun v s1 ⟨x,H1,I1,r1,q1⟩=>?_) (he _);obtain⟨d,rfl,q⟩:=q1;cases r1;exact wpAny_truthy_bool ⟨H1,I1,q⟩
variable {tA tB':TT}{rest:List Expr}
def z6z(t u:TT):TT:=fun σ H Q=>t σ H fun c H1=>if c=true then u σ H1 Q else Q false H1
def tOr(t u:TT):TT:=fun σ H Q=>t σ H fun c H1=>if c=true then Q true H1 else u σ H1 Q
def zWz(t:TT):TT:=fun σ H Q=>t σ H fun c H1=>Q (!c) H1
def zGw(ha:PT X a tA):PW X (.BoolOp .And [a] pos) tA:=by
 intro wh pins s σ H Q I h;refine isTrue_and (thn (ha pins s σ H Q I h) fun c s1 e=>?_)
 cases c with
 |true=>exact isTrue_and_nil e
 |false=>exact e
def zrx(ha:PT X a tA):PW X (.BoolOp .Or [a] pos) tA:=by
 intro wh pins s σ H Q I h;refine isTrue_or (thn (ha pins s σ H Q I h) fun c s1 e=>?_)
 cases c with
 |false=>exact isTrue_or_nil e
 |true=>exact e
def zux(ha:PT X a tA)(hb:PW X (.BoolOp .And (b::rest) pos) tB'):PW X (.BoolOp .And (a::b::rest) pos) (z6z tA tB'):=by
 intro wh pins s σ H Q I h;refine isTrue_and (thn (ha pins s σ H _ I h) fun c s1 ⟨H1,I1,q1⟩=>?_)
 cases c with
 |true=>exact hb wh pins s1 σ H1 Q I1 q1
 |false=>exact⟨H1,I1,q1⟩
def zoz(ha:PT X a tA)(hb:PW X (.BoolOp .Or (b::rest) pos) tB'):PW X (.BoolOp .Or (a::b::rest) pos) (tOr tA tB'):=by
 intro wh pins s σ H Q I h;refine isTrue_or (thn (ha pins s σ H _ I h) fun c s1 ⟨H1,I1,q1⟩=>?_)
 cases c with
 |true=>exact⟨H1,I1,q1⟩
 |false=>exact hb wh pins s1 σ H1 Q I1 q1
def zXx(ha:PT X a tA):PT X (.UnaryOp .Not a pos) (zWz tA):=by
 intro pins s σ H Q I h;exact isTrue_not (ha pins s σ H (fun c H1=>Q (!c) H1) I h)
def z0y(ta tb:TE):TE:=fun σ H Q=>ta σ H fun x H1=>∃c,x = .bl c/\if c=true then tb σ H1 Q else Q (.bl false) H1
def ziy{op}{t:TE}(h:PE X a t):PE X (.BoolOp op [a] pos) t:=fun pins s σ H Q I hw=>BoolOp_one (h pins s σ H Q I hw)
def zvx(ha:PE X a ta)(hb:PE X (.BoolOp .And (b::rest) pos) tb):PE X (.BoolOp .And (a::b::rest) pos) (z0y ta tb):=by
 intro pins s σ H Q I h;refine BoolOp_and (thn (ha pins s σ H _ I h) fun v s1 ⟨x,H1,I1,r1,q1⟩=>?_);obtain⟨c,rfl,q1⟩:=q1;cases r1;refine wpAny_truthy_bool ?_
 cases c with
 |true=>exact hb pins s1 σ H1 Q I1 q1
 |false=>exact⟨.bl false,H1,I1,rfl,q1⟩
end
def SqL(K:yu)(H:Hp)(a:Addr)(xs:List V):Prop :=
 Rd H a (.lst xs) \/
  ∃(o:YN)(its:Array Value)(n:Nat),K.lookup a=some o/\o.cls = .type "list"/\o.dict=none/\o.data = .seq its n/\its.size<=yB/\Vals xs its.toList
def SqT(K:yu)(H:Hp)(a:Addr)(xs:List V):Prop :=
 Rd H a (.tup xs) \/
  ∃(o:YN)(its:Array Value)(n:Nat),K.lookup a=some o/\o.cls = .type "tuple"/\o.data = .seq its n/\its.size<=yB/\Vals xs its.toList
def z0z:Value->Option V
 |.none=>some .non
 |.bool b=>some (.bl b)
 |.int i _=>some (.int i)
 |.str x _=>some (.str x)
 |.bytes b _=>some (.byt b)
 |.float b _=>some (.flt b)
 |.ref a=>some (.ref a)
 |.type n=>some (.ty n)
 |_=>none
def RelV.abs{x:V}{u:Value}(r:RelV x u):z0z u=some x:=by
 cases x with
 |non=>cases r;rfl
 |bl _=>cases r;rfl
 |int _=>obtain⟨t,rfl⟩:=r;rfl
 |str _=>obtain⟨t,rfl⟩:=r;rfl
 |byt _=>obtain⟨t,rfl⟩:=r;rfl
 |flt _=>obtain⟨t,rfl⟩:=r;rfl
 |ref _=>cases r;rfl
 |ty _=>cases r;rfl
def RelV.inj{x y:V}{u:Value}(r:RelV x u)(q:RelV y u):x=y:=Yd (r.abs.symm.trans q.abs)
def Vals.inj{xs ys:List V}{us:List Value}(h:Vals xs us):Vals ys us->xs=ys:=by
 induction h generalizing ys with
 |nil=>intro h;cases h;rfl
 |cons r _ ih=>
  intro h
  cases h with
  |cons r' t'=>rw[r.inj r',ih t']
section
variable {X:Cx}{pins:List (Addr×YN)}{σ:St}{H:Hp}{s:yb}{a:Addr}{xs ys:List V}
def SqL.of{K:yu}(h:H a=some (.lst xs)):SqL K H a xs := .inl (.inl h)
def SqT.of{K:yu}(h:H a=some (.tup xs)):SqT K H a xs := .inl (.inl h)
def Inv.list(I:Inv X pins σ H s)(h:SqL X.K H a xs):∃its:List Value,Vals xs its/\PlainL s.heap a its.toArray/\xs.length<=yB:=by
 rcases h with h | ⟨o,its,n,hk,hc,hd,hs,hz,r⟩
 ·obtain⟨z,its,n,r,e⟩:=h.ok I.hok;exact⟨its,r,⟨_,n,e,rfl,rfl,rfl⟩,z⟩
 ·refine⟨its.toList,r,⟨o,n,I.kIn a o hk,hc,hd,by simpa using hs⟩,?_⟩;have e:=r.length;simp only[Array.length_toList]at e;omega
def Inv.tuple(I:Inv X pins σ H s)(h:SqT X.K H a xs):∃its:List Value,Vals xs its/\IsTup s.heap a its.toArray/\xs.length<=yB:=by
 rcases h with h | ⟨o,its,n,hk,hc,hs,hz,r⟩
 ·obtain⟨z,its,r,p⟩:=h.ok I.hok;exact⟨its,r,p,z⟩
 ·refine⟨its.toList,r,⟨o,I.kIn a o hk,hc,n,by simpa using hs⟩,?_⟩;have e:=r.length;simp only[Array.length_toList]at e;omega
def Inv.list_inj(I:Inv X pins σ H s)(h:SqL X.K H a xs)(h':SqL X.K H a ys):xs=ys:=by
 obtain⟨its,r,⟨o,n,e,_,_,d⟩,_⟩:=I.list h;obtain⟨its',r',⟨o',n',e',_,_,d'⟩,_⟩:=I.list h';rw[e]at e';cases e';rw[d]at d';injection d' with d1 _;have:its=its':=by simpa using congrArg Array.toList d1
 subst this;exact r.inj r'
def Inv.tuple_inj(I:Inv X pins σ H s)(h:SqT X.K H a xs)(h':SqT X.K H a ys):xs=ys:=by
 obtain⟨its,r,⟨o,e,_,n,d⟩,_⟩:=I.tuple h;obtain⟨its',r',⟨o',e',_,n',d'⟩,_⟩:=I.tuple h';rw[e]at e';cases e';rw[d]at d';injection d' with d1 _;have:its=its':=by simpa using congrArg Array.toList d1
 subst this;exact r.inj r'
end
abbrev Cx.wish(X:Cx)(E:Value->yb->Prop):Cx:={X with xe:=E }
abbrev Cx.nox(X:Cx):Cx:=X.wish fun _ _=>False
def Cx.Ok.wish{X:Cx}(ok:X.Ok)(E:Value->yb->Prop):(X.wish E).Ok :=
 ⟨ok.mod,ok.kind,ok.glob,ok.blt,ok.above,ok.inj,ok.has,ok.cab,ok.hd,ok.frames,ok.stk,ok.exf,ok.bs,ok.bsz,ok.noex,ok.exfs,ok.funs,ok.frf⟩
def Cx.Ok.unwish{X:Cx}{E:Value->yb->Prop}(ok:(X.wish E).Ok):X.Ok :=
 ⟨ok.mod,ok.kind,ok.glob,ok.blt,ok.above,ok.inj,ok.has,ok.cab,ok.hd,ok.frames,ok.stk,ok.exf,ok.bs,ok.bsz,ok.noex,ok.exfs,ok.funs,ok.frf⟩
section
variable {X:Cx}{pins:List (Addr×YN)}{σ:St}{H:Hp}{s:yb}{E:Value->yb->Prop}
def Inv.wish(I:Inv X pins σ H s)(E:Value->yb->Prop):Inv (X.wish E) pins σ H s:=⟨I.ok.wish E,I.os,I.bare,I.base,I.loc,I.cell,I.free,I.freeC,I.pin,I.hok,I.len⟩
def Inv.unwish(I:Inv (X.wish E) pins σ H s):Inv X pins σ H s:=⟨I.ok.unwish,I.os,I.bare,I.base,I.loc,I.cell,I.free,I.freeC,I.pin,I.hok,I.len⟩
def SP.unwish{D:Ends}{f:Flow}{s':yb}(h:SP (X.wish E) pins D f s'):SP X pins D f s':=by
 cases f with
 |next=>obtain⟨σ',H',I,q⟩:=h;exact⟨σ',H',I.unwish,q⟩
 |brk=>obtain⟨σ',H',I,q⟩:=h;exact⟨σ',H',I.unwish,q⟩
 |cont=>obtain⟨σ',H',I,q⟩:=h;exact⟨σ',H',I.unwish,q⟩
 |ret u=>obtain⟨v,σ',H',I,r,q⟩:=h;exact⟨v,σ',H',I.unwish,r,q⟩
def PSs.nox{st:List Stmt}{t:TS}(h:PSs X.nox st t):PSs X st t:=fun pins s σ H D I hw=>
 yR (h pins s σ H D (I.wish _) hw) (fun _ _ q=>q.unwish) fun _ _ z=>Yt z
end
section
variable {X:Cx}{st:Stmt}{rest:List Stmt}{t u:TS}{e:Expr}{te:TE}{pos:xp}
def zjz:TS:=fun D σ H=>D.nx σ H
def zaA(t u:TS):TS:=fun D σ H=>t {D with nx:=u D } σ H
def zcw:PSs X [] zjz:=fun _ _ σ H _ I h=>xP ⟨σ,H,I,h⟩
def zCp(h1:PS X st t)(h2:PSs X rest u):PSs X (st::rest) (zaA t u):=by
 intro pins s σ H D I h;refine wpAny_execs_cons (thn (h1 pins s σ H {D with nx:=u D } I h) fun f s1 q=>?_)
 cases f with
 |next=>
  obtain⟨σ',H',I',q⟩:=q;exact h2 pins s1 σ' H' D I' q
 |ret v=>exact q
 |brk=>exact q
 |cont=>exact q
def z1s(h1:PS X st t):PSs X [st] t:=by
 intro pins s σ H D I h;refine wpAny_execs_cons (thn (h1 pins s σ H D I h) fun f s1 q=>?_)
 cases f with
 |next=>exact xP q
 |ret v=>exact q
 |brk=>exact q
 |cont=>exact q
def Inv.quiet{pins:List (Addr×YN)}{σ:St}{H:Hp}{s:yb}(I:Inv X pins σ H s):interactive X.env=false:=by simp[interactive,I.ok.kind]
def zvz(te:TE):TS:=fun D σ H=>te σ H fun _ H1=>D.nx σ H1
def zgt(he:PE X e te)(hs:xS e none pos.line X.env=pure false:=by rfl):PS X (.Expr e pos) (zvz te):=by
 intro pins s σ H D I h;exact wpAny_Expr_any (thn (he pins s σ H _ I h) fun v s1 ⟨x,H1,I1,r1,q1⟩=>⟨σ,H1,I1,q1⟩) I.quiet hs
def z3z(te:TE):TS:=fun D σ H=>te σ H D.rt
def z9x(he:PE X e te):PS X (.Return (some e) pos) (z3z te):=by
 intro pins s σ H D I h;exact wpAny_Return_some (thn (he pins s σ H _ I h) fun v s1 ⟨x,H1,I1,r1,q1⟩=>⟨x,σ,H1,I1,r1,q1⟩)
def zOz(c:TT)(t u:TS):TS:=fun D σ H=>c σ H fun b H1=>if b=true then t D σ H1 else u D σ H1
def zYy{c:Expr}{a b:List Stmt}{tc:TT}(hc:PT X c tc)(ha:PSs X a t)(hb:PSs X b u):PS X (.If c a b pos) (zOz tc t u):=by
 intro pins s σ H D I h;refine wpAny_If (thn (hc pins s σ H _ I h) fun d s1 ⟨H1,I1,q1⟩=>?_)
 cases d with
 |true=>exact ha pins s1 σ H1 D I1 q1
 |false=>exact hb pins s1 σ H1 D I1 q1
def zly:TS:=fun _ _ _=>False
def zhu:PS X st zly:=fun _ _ _ _ _ _ h=>h.elim
end
abbrev TG:=V->St->Hp->(St->Hp->Prop)->Prop
abbrev TGs:=List V->St->Hp->(St->Hp->Prop)->Prop
def PG(X:Cx)(target:Expr)(t:TG):Prop :=
 ∀(pins:List (Addr×YN)) (s:yb) (σ:St) (H:Hp) (v:V) (u:Value) (Q:St->Hp->Prop),Inv X pins σ H s->RelV v u->t v σ H Q ->
  yn (yr X.prog X.w) X.A (assign target X.env u) (fun _ s'=>∃σ' H',Inv X pins σ' H' s'/\Q σ' H') X.xe s
def PGs(X:Cx)(ts:List Expr)(t:TGs):Prop :=
 ∀(pins:List (Addr×YN)) (s:yb) (σ:St) (H:Hp) (vs:List V) (us:List Value) (Q:St->Hp->Prop),Inv X pins σ H s->Vals vs us->t vs σ H Q ->
  yn (yr X.prog X.w) X.A (assignInOrder ((YO ts X.env).map (·.2)) us) (fun _ s'=>∃σ' H',Inv X pins σ' H' s'/\Q σ' H') X.xe s
abbrev zrz:=V->V->V->Hp->(Hp->Prop)->Prop
def z1y(X:Cx)(t:zrz):Prop :=
 ∀(pins:List (Addr×YN)) (s:yb) (σ:St) (H:Hp) (o i v:V) (ov iv u:Value) (Q:Hp->Prop),Inv X pins σ H s->RelV o ov->RelV i iv->RelV v u->t o i v H Q ->
  yn (yr X.prog X.w) X.A (setItem ov iv u) (fun _ s'=>∃H',Inv X pins σ H' s'/\Q H') X.xe s
abbrev TIp:=V->V->Hp->VK->Prop
def PIp(X:Cx)(op:Operator)(t:TIp):Prop :=
 ∀(pins:List (Addr×YN)) (s:yb) (σ:St) (H:Hp) (x y:V) (v u:Value) (Q:VK),Inv X pins σ H s->RelV x v->RelV y u->t x y H Q ->
  yn (yr X.prog X.w) X.A (inplaceOp op v u) (EP X pins σ Q) X.xe s
section
variable {X:Cx}{pos:xp}
def zCw(i:Nat):TG:=fun v σ H Q=>Q (σ.set i (some v)) H
def zWr{i:Nat}{x:Str}(hN:X.N.Nodup)(hi:X.N[i]?=some x)(hx:Loc X.env.scope x)(hf:X.fn x=true\/X.env.scope.names.lookup x=some .local:=by first | exact .inl rfl | exact .inr rfl | assumption):PG X (.Name x pos) (zCw i):=by
 intro pins s σ H v u Q I r h;exact wpAny_assign_Name (z6i I hN hi hx r (fun s' I'=>⟨_,H,I',h⟩) hf)
def zSz:TGs:=fun vs σ H Q=>vs=[]/\Q σ H
def ztz(t:TG)(u:TGs):TGs:=fun vs σ H Q=>∃v r,vs=v::r/\t v σ H fun σ' H'=>u r σ' H' Q
def zpr:PGs X [] zSz:=by
 intro pins s σ H vs us Q I r h;obtain⟨e,h⟩:=h;subst e;cases r;exact assignInOrder_nil ⟨σ,H,I,h⟩
def zMp{e:Expr}{es:List Expr}{t:TG}{u:TGs}(h1:PG X e t)(h2:PGs X es u)
 (hs:(YO (e::es) X.env).map (·.2)=assign e X.env::(YO es X.env).map (·.2):=by rfl):PGs X (e::es) (ztz t u):=by
 intro pins s σ H vs us Q I r h;obtain⟨v,vr,e1,h⟩:=h;subst e1
 cases r with
 |cons r rr=>
  rw[hs];refine assignInOrder_cons (thn (h1 pins s σ H _ _ _ I r h) fun _ s1 ⟨σ1,H1,I1,q1⟩=>?_);exact h2 pins s1 σ1 H1 _ _ Q I1 rr q1
def zTz(K:yu)(n:Nat)(t:TGs):TG:=fun v σ H Q=>∃a xs,v = .ref a/\SqT K H a xs/\xs.length=n/\t xs σ H Q
def zXu{es:List Expr}{k:Nat}{t:TGs}{n:Nat}(hc:X.calm=true)(h:PGs X es t)
 (hn:(YO es X.env).length=n:=by rfl) (hst:(YO es X.env).findIdx? (·.1)=none:=by rfl):PG X (.Tuple es k pos) (zTz X.K n t):=by
 intro pins s σ H v u Q I r hw;obtain⟨a,xs,e1,hq,hl,hw⟩:=hw;subst e1;cases r;obtain⟨its,rv,ht,hz⟩:=I.tuple hq;refine assign_Tuple_tuple (I.ok.hd hc) ht (by simp[hn,<-hl,rv.length]) hst fun h' hx=>?_;have I1:Inv X pins σ H {s with heap:=h' }:=I.kept (t':=s.toks) fun b o e=>hx b o (yz (yj e)) e;exact h pins _ σ H xs _ Q I1 (by simpa using rv) hw
def zpt(to ti:TE)(t:zrz):TG:=fun v σ H Q=>to σ H fun o H1=>ti σ H1 fun i H2=>t o i v H2 fun H3=>Q σ H3
def z4u{o i:Expr}{to ti:TE}{t:zrz}(ho:PE X o to)(hi:PE X i ti)(hs:z1y X t)
 (ha:∀v,assign (.Subscript o i pos) X.env v=(do
  let ov <-xC [v] (yW o X.env)
  let iv <-xC [v,ov] (yW i X.env)
  standAt pos
  xC [v,ov,iv] (setItem ov iv v)
  release [v,ov,iv] []):=by intro _;rfl):PG X (.Subscript o i pos) (zpt to ti t):=by
 intro pins s σ H v u Q I r h;rw[ha];refine ya (Yg (thn (ho pins s σ H _ I h) fun ov s1 ⟨x,H1,I1,r1,q1⟩=>?_));refine ya (Yg (thn (hi pins s1 σ H1 _ I1 q1) fun iv s2 ⟨y,H2,I2,r2,q2⟩=>?_));refine ya (xb (ya (Yg (thn (hs pins s2 σ H2 x y v ov iv u _ I2 r1 r2 r q2) fun _ s3 ⟨H3,I3,q3⟩=>?_))));exact wpAny_release ⟨σ,H3,I3,q3⟩
def z2y(te:TE)(g:TG):TS:=fun D σ H=>te σ H fun x H1=>g x σ H1 D.nx
def zqx{tg e:Expr}{te:TE}{g:TG}(he:PE X e te)(hg:PG X tg g)(hs:swapsWithSole [tg] e pos.line X.env=pure false:=by rfl)(hw:swappedStores [tg] e X.env=pure none:=by rfl)
 (h1:(YO [tg] X.env).map (·.2)=[assign tg X.env]:=by rfl):PS X (.Assign [tg] e pos) (z2y te g):=by
 intro pins s σ H D I h;refine wpAny_Assign_stores (thn (he pins s σ H _ I h) fun v s1 ⟨x,H1,I1,r1,q1⟩=>?_) hs hw;rw[h1];exact thn (hg pins s1 σ H1 x v _ I1 r1 q1) fun _ s2 q=>q
def zex{i:Nat}{x:Str}{e:Expr}{te:TE}{pos':xp}(hN:X.N.Nodup)(hi:X.N[i]?=some x)(hx:Loc X.env.scope x)(he:PE X e te)(hs:xS e (some (.Name x pos')) pos.line X.env=pure false:=by rfl)(hf:X.fn x=true\/X.env.scope.names.lookup x=some .local:=by first | exact .inl rfl | exact .inr rfl | assumption) :
 PS X (.Assign [.Name x pos'] e pos) (z2y te (zCw i)):=by
 intro pins s σ H D I h;refine wpAny_Assign_Name (thn (he pins s σ H _ I h) fun v s1 ⟨y,H1,I1,r1,q1⟩=>?_) hs;exact z6i I1 hN hi hx r1 (fun s2 I2=>⟨_,H1,I2,q1⟩) hf
def zZz(i:Nat)(te:TE)(ti:TIp):TS:=fun D σ H=>∃x,σ[i]?=some (some x)/\te σ H fun y H1=>ti x y H1 fun z H2=>D.nx (σ.set i (some z)) H2
def zUx{i:Nat}{x:Str}{e:Expr}{te:TE}{op:Operator}{ti:TIp}{pos':xp}(hN:X.N.Nodup)(hi:X.N[i]?=some x)(hx:Loc X.env.scope x)(he:PE X e te)(ho:PIp X op ti)(hf:X.fn x=true\/X.env.scope.names.lookup x=some .local:=by first | exact .inl rfl | exact .inr rfl | assumption) :
 PS X (.AugAssign (.Name x pos') op e pos) (zZz i te ti):=by
 intro pins s σ H D I h;obtain⟨v,e1,h⟩:=h;obtain⟨m,hn,hl⟩:=I.loc;have vis:Vis X.env.scope x:=by rcases hx with k | k;exact .inl k;exact .inr (.inl k)
 obtain⟨u,r,l⟩:=hl i x v hi e1 vis;refine wpAny_AugAssign_Name ?_
 have go:yn (yr X.prog X.w) X.A (yW e X.env) (fun w s₂=>yn (yr X.prog X.w) X.A (inplaceOp op u w) (fun r s₃=>yn (yr X.prog X.w) X.A (storeName X.env x r) (fun _=>SP X pins D .next) X.xe s₃) X.xe s₂) X.xe s:=by
  refine thn (he pins s σ H _ I h) fun w s1 ⟨y,H1,I1,r1,q1⟩=>?_;refine thn (ho pins s1 σ H1 v y u w _ I1 r r1 q1) fun z s2 ⟨zv,H2,I2,r2,q2⟩=>?_;exact z6i I2 hN hi hx r2 (fun s3 I3=>⟨_,H2,I3,q2⟩) hf
 rcases l with ⟨hk,hm⟩ | ⟨hk,c,hc,hcell⟩
 ·exact wpAny_loadName_local I.ok.kind hk hn hm go
 ·rcases hk with hk | hk
  ·exact wpAny_loadName_cell I.ok.kind hk hc hcell go
  ·rcases hx with k | k
   ·have:X.env.scope.names.lookup x=some .free:=hk;rw[k]at this;cases this
   ·have:X.env.scope.names.lookup x=some .free:=hk;rw[k]at this;cases this
end
section
variable {X:Cx}{pos:xp}
def zby(c:TT)(tb:TS):TS:=fun D σ H=>∃W:Nat->St->Hp->Prop,(∃m,W m σ H)/\∀m σ H,W m σ H ->
 c σ H fun b H1=>if b=true then ∃N:St->Hp->Prop,(∀σ' H',N σ' H'->∃m',m'<m/\W m' σ' H')/\tb {D with nx:=N,ct:=N,bk:=D.nx } σ H1 else D.nx σ H1
def zqt{c:Expr}{body:List Stmt}{tc:TT}{tb:TS}(hp:PassesOwn (yr X.prog X.w) X.A X.env X.xe)(hc:PT X c tc)(hb:PSs X body tb):PS X (.While c body [] pos) (zby tc tb):=by
 intro pins s σ H D I h;obtain⟨W,⟨m0,w0⟩,turn⟩:=h;refine wpAny_While (codeAny_whileLoop (fun n s'=>∃σ' H',Inv X pins σ' H' s'/\W n σ' H') ?_ m0 ⟨σ,H,I,w0⟩);rintro n s1 ⟨σ1,H1,I1,w1⟩;refine xA hp (thn (hc pins s1 σ1 H1 _ I1 (turn n σ1 H1 w1)) fun b s2 ⟨H2,I2,q2⟩=>?_)
 cases b with
 |true=>
  obtain⟨N,hN,q2⟩:=q2;rw[if_pos rfl];refine xA hp (thn (hb pins s2 σ1 H2 _ I2 q2) fun f s3 q3=>?_)
  cases f with
  |next=>
   obtain⟨σ3,H3,I3,n3⟩:=q3;obtain⟨m',hm,w3⟩:=hN σ3 H3 n3;exact⟨m',hm,σ3,H3,I3,w3⟩
  |cont=>
   obtain⟨σ3,H3,I3,n3⟩:=q3;obtain⟨m',hm,w3⟩:=hN σ3 H3 n3;exact⟨m',hm,σ3,H3,I3,w3⟩
  |brk=>exact q3
  |ret v=>exact q3
 |false=>
  rw[if_neg yx];exact xP ⟨σ1,H2,I2,q2⟩
end
structure It where
 go:Nat->Hp->Prop
 yld:Nat->Hp->V->Hp->Prop
 stop:Nat->Hp->Prop
def zfp(X:Cx)(pins:List (Addr×YN))(H:Hp)(b:Addr):Prop :=
 H b=none/\b≠X.env.locals/\b∉X.fs/\(b∈X.ex\/X.s₀.heap.objs.size<=b)/\(∀x c,X.env.cells.lookup x=some c->c≠b)/\∀p∈X.pn++pins,p.1≠b
def Inv.fpOk{X:Cx}{pins:List (Addr×YN)}{σ:St}{H H':Hp}{s:yb}{b:Addr}(I:Inv X pins σ H s)(hb:s.heap.objs.size<=b)(hn:H' b=none):zfp X pins H' b:=by
 refine⟨hn,yV (yv I.lt hb),I.nofs hb, .inr (yC I.sz hb),fun x c e z=>?_,fun p hp z=>?_⟩
 ·obtain⟨v,q⟩:=I.cell x c e;exact absurd (yv q.lt (by rw[z];exact hb)) (yO _)
 ·exact absurd (yv (yj (I.pin p hp).1) (by rw[z];exact hb)) (yO _)
structure Turn(P:yw)(w:yF)(K:yu)(tg:Expr)(J:It)(fp:List Addr)(it:Addr)(tn:Nat->yP->Prop):Prop where
 mem:it∈fp
 obj:∀i h,tn i h->∀b∈fp,∃o,h.get? b=some o/\∀v,o.data≠.cell v
 keep:∀i h h',tn i h->(∀b∈fp,∀o,h.get? b=some o->h'.get? b=some o)->tn i h'
 item:∀(X:Cx),X.prog=P->X.w=w->X.K=K->X.calm=true->∀(i:Nat)(pins:List (Addr×YN)) (s:yb) (σ:St) (H:Hp) (E:Value->yb->Prop),Inv X pins σ H s->(∀b∈fp,zfp X pins H b)->tn i s.heap->J.go i H ->
  yn (yr P w) X.A (pyNext (.ref it)) (fun r s1=>∃u,r=some u /\
   yn (yr P w) X.A (letOwnedTupleGo tg (.ref it) u) (fun _ s2=>∃x H',Inv X pins σ H' s2/\RelV x u/\J.yld i H x H'/\tn (i+1) s2.heap/\∀b∈fp,H' b=none) E s1) E s
 done:∀(X:Cx),X.prog=P->X.w=w->X.K=K->X.calm=true->∀(i:Nat)(pins:List (Addr×YN)) (s:yb) (σ:St) (H:Hp) (E:Value->yb->Prop),Inv X pins σ H s->(∀b∈fp,zfp X pins H b)->tn i s.heap->J.stop i H ->
  yn (yr P w) X.A (pyNext (.ref it)) (fun r s1=>r=none/\Inv X pins σ H s1) E s
 self:∀(A:yH)(i:Nat)(s:yb)(Q:Value->yb->Prop)(E:Value->yb->Prop),tn i s.heap->Q (.ref it) s->yn (yr P w) A (pyIter (.ref it)) Q E s
abbrev TI:=St->Hp->(It->Hp->Prop)->Prop
def PIE(X:Cx)(pins:List (Addr×YN))(σ:St)(tg:Expr)(R:It->Hp->Prop)(itv:Value)(s2:yb):Prop :=
 ∃(it:Addr)(fp:List Addr)(tn:Nat->yP->Prop)(J:It)(H':Hp),itv = .ref it/\Inv X pins σ H' s2/\Turn X.prog X.w X.K tg J fp it tn/\tn 0 s2.heap/\(∀b∈fp,zfp X pins H' b)/\R J H'
def PI(X:Cx)(tg iter:Expr)(wi:TI):Prop :=
 ∀(pins:List (Addr×YN)) (s:yb) (σ:St) (H:Hp) (R:It->Hp->Prop),Inv X pins σ H s->wi σ H R ->
  yn (yr X.prog X.w) X.A (yW iter X.env) (fun v s1=>yn (yr X.prog X.w) X.A (pyIter v) (PIE X pins σ tg R) X.xe s1) X.xe s
def zUt{M:Model}{A:yH}{E:Value->yb->Prop}{s:yb}{tg:Expr}{it:Addr}{u:Value}{o:YN}{n:String}{vs:Array Value}{Q:Unit->yb->Prop}(ho:s.heap.get? it=some o)(hc:o.cls = .type n)(hd:o.data = .fields vs)
 (hn:["enumerate","zip","dict_itemiterator","dict_reverseitemiterator","odict_iterator","itertools.zip_longest","itertools.pairwise"].contains n=false) (hQ:Q () s):yn M A (letOwnedTupleGo tg (.ref it) u) Q E s:=by
 unfold letOwnedTupleGo
 cases tg<;>first
  |exact ye hQ
  |(cases u<;>first
   |exact ye hQ
   | (refine ya (wpAny_load ho ?_)
      rw[hc,hd];show yn M A (if(["enumerate","zip","dict_itemiterator","dict_reverseitemiterator","odict_iterator","itertools.zip_longest","itertools.pairwise"].contains n&&vs[0]?==some (Yz _))=true then _ else _) Q E s;rw[if_neg (by intro h;rw[hn,Bool.false_and]at h;cases h)];exact ye hQ))
def Itl(K:yu)(a:Addr):It :=
 ⟨fun i H=>∃xs x,SqL K H a xs/\xs[i]?=some x,fun i H x H'=>H'=H/\∀xs,SqL K H a xs->xs[i]?=some x,fun i H=>∃xs,SqL K H a xs/\xs.length<=i⟩
def Itt(K:yu)(a:Addr):It :=
 ⟨fun i H=>∃xs x,SqT K H a xs/\xs[i]?=some x,fun i H x H'=>H'=H/\∀xs,SqT K H a xs->xs[i]?=some x,fun i H=>∃xs,SqT K H a xs/\xs.length<=i⟩
def Itr(lo:Int)(n:Nat):It:=⟨fun i _=>i<n,fun i H x H'=>H'=H/\x = .int (lo+i),fun i _=>n<=i⟩
def zVs{P:yw}{w:yF}{K:yu}{tg:Expr}(a it:Addr):Turn P w K tg (Itl K a) [it] it (fun i h=>h.IsListIter it a i) where
 mem:=by simp
 obj:=fun i h st b hb=>by
  have e:b=it:=by simpa using hb
  subst e;obtain⟨o,e,c,d⟩:=st;exact⟨o,e,fun v z=>by rw[d]at z;cases z⟩
 keep:=fun i h h' st k=>st.at fun o e=>k it (by simp) o e
 item:=by
  intro X hP hw hK hc i pins s σ H E I hf st hg;subst hP hw hK;obtain⟨xs,x,hq,hx⟩:=hg;obtain⟨its,rv,p,hz⟩:=I.list hq;obtain⟨u,hu,ru⟩:=rv.get hx;obtain⟨f0,f1,f2,f3,f4,f5⟩:=hf it (by simp);refine wpAny_pyNext_list_item st p.isList (x:=u) (by simpa using hu) fun h' st' sb=>?_;have I1:Inv X pins σ H {s with heap:=h' }:=I.turned (t':=s.toks) (fun b o hb e=>(sb.2 b hb).trans e) f0 f1 f3 f4 f5;obtain⟨o,e,c,d⟩:=id st';exact⟨u,rfl,zUt (s:={s with heap:=h' }) e c d (by decide) ⟨x,H,I1,ru,⟨rfl,fun ys hy=>by rw[I.list_inj hy hq];exact hx⟩,st',fun b hb=>(hf b hb).1⟩⟩
 done:=by
  intro X hP hw hK hc i pins s σ H E I hf st hg;subst hP hw hK;obtain⟨xs,hq,hx⟩:=hg;obtain⟨its,rv,p,hz⟩:=I.list hq;obtain⟨f0,f1,f2,f3,f4,f5⟩:=hf it (by simp);have hl:=rv.length;exact wpAny_pyNext_list_end (I.ok.hd hc) st p.isList (by simp;omega) fun h' eb=>⟨rfl,I.turned (t':=s.toks) (fun b o hb e=>eb b o hb e) f0 f1 f3 f4 f5⟩
 self:=fun _ _ _ _ _ st h=>wpAny_pyIter_listiter st h
def zpq{P:yw}{w:yF}{K:yu}{tg:Expr}(a it:Addr):Turn P w K tg (Itt K a) [it] it (fun i h=>h.IsTupleIter it a i) where
 mem:=by simp
 obj:=fun i h st b hb=>by
  have e:b=it:=by simpa using hb
  subst e;obtain⟨o,e,c,d⟩:=st;exact⟨o,e,fun v z=>by rw[d]at z;cases z⟩
 keep:=fun i h h' st k=>st.at fun o e=>k it (by simp) o e
 item:=by
  intro X hP hw hK hc i pins s σ H E I hf st hg;subst hP hw hK;obtain⟨xs,x,hq,hx⟩:=hg;obtain⟨its,rv,p,hz⟩:=I.tuple hq;obtain⟨u,hu,ru⟩:=rv.get hx;obtain⟨f0,f1,f2,f3,f4,f5⟩:=hf it (by simp);refine wpAny_pyNext_tuple_item st (show s.heap.IsTuple a its.toArray from p) (x:=u) (by simpa using hu) fun h' st' sb=>?_;have I1:Inv X pins σ H {s with heap:=h' }:=I.turned (t':=s.toks) (fun b o hb e=>(sb.2 b hb).trans e) f0 f1 f3 f4 f5;obtain⟨o,e,c,d⟩:=id st';exact⟨u,rfl,zUt (s:={s with heap:=h' }) e c d (by decide) ⟨x,H,I1,ru,⟨rfl,fun ys hy=>by rw[I.tuple_inj hy hq];exact hx⟩,st',fun b hb=>(hf b hb).1⟩⟩
 done:=by
  intro X hP hw hK hc i pins s σ H E I hf st hg;subst hP hw hK;obtain⟨xs,hq,hx⟩:=hg;obtain⟨its,rv,p,hz⟩:=I.tuple hq;obtain⟨f0,f1,f2,f3,f4,f5⟩:=hf it (by simp);have hl:=rv.length;exact wpAny_pyNext_tuple_end (I.ok.hd hc) st (show s.heap.IsTuple a its.toArray from p) (by simp;omega) fun h' eb=>⟨rfl,I.turned (t':=s.toks) (fun b o hb e=>eb b o hb e) f0 f1 f3 f4 f5⟩
 self:=fun _ _ _ _ _ st h=>wpAny_pyIter_tupleiter st h
def zmq{P:yw}{w:yF}{K:PySem.W.Frag}{tg:Expr}(it:Addr)(lo:Int)(n:Nat):Turn P w K tg (Itr lo n) [it] it (fun i h=>IsRangeIter h it (lo+(i:Nat)*1) ((n:Int)-(i:Nat)) 1) where
 mem:=by simp
 obj:=fun i h st b hb=>by
  have e:b=it:=by simpa using hb
  subst e
  exact⟨_,st,fun v z=>by
   have z':Data.fields _=Data.cell v:=z;cases z'⟩
 keep:=fun i h h' st k=>k it (by simp) _ st
 item:=by
  intro X hP hw hK hc i pins s σ H E I hf st hg;subst hP hw hK;obtain⟨f0,f1,f2,f3,f4,f5⟩:=hf it (by simp);have W:=Walks.range (prog:=X.prog) (w:=X.w) (I.ok.hd hc) it lo 1 n;refine W.item i s _ _ hg st fun v h' tk hv st' kk=>?_;obtain⟨t,rfl⟩:=hv;have I1:Inv X pins σ H {s with heap:=h',toks:=tk }:=I.turned (fun b o hb e=>kk b o (by simpa using hb) e) f0 f1 f3 f4 f5;refine⟨_,rfl,zUt (s:={s with heap:=h',toks:=tk }) (n:="range_iterator") st' rfl rfl (by decide) ⟨.int (lo+i),H,I1,⟨t,?_⟩,⟨rfl,rfl⟩,st',fun b hb=>(hf b hb).1⟩⟩;rw[Int.mul_one]
 done:=by
  intro X hP hw hK hc i pins s σ H E I hf st hg;subst hP hw hK;obtain⟨f0,f1,f2,f3,f4,f5⟩:=hf it (by simp);exact wpAny_pyNext_range_end (I.ok.hd hc) st (by have:n<=i:=hg;omega) fun h' eb=>⟨rfl,I.turned (t':=s.toks) (fun b o hb e=>eb b o hb e) f0 f1 f3 f4 f5⟩
 self:=fun _ _ _ _ _ st h=>wpAny_pyIter_rangeiter st h
section
variable {X:Cx}{tg:Expr}
def zqs(K:yu)(tl:TE):TI:=fun σ H R=>tl σ H fun x H1=>∃a,x = .ref a/\(∃xs,SqL K H1 a xs)/\R (Itl K a) H1
def zVz(K:yu)(tl:TE):TI:=fun σ H R=>tl σ H fun x H1=>∃a,x = .ref a/\(∃xs,SqT K H1 a xs)/\R (Itt K a) H1
def zSw{l:Expr}{tl:TE}(hl:PE X l tl):PI X tg l (zqs X.K tl):=by
 intro pins s σ H R I h;refine thn (hl pins s σ H _ I h) fun v s1 ⟨x,H1,I1,r1,q1⟩=>?_;obtain⟨a,e,⟨xs,hq⟩,q⟩:=q1;subst e;cases r1;obtain⟨its,rv,p,hz⟩:=I1.list hq;refine wpAny_pyIter_list p.isList ?_;refine⟨s1.heap.objs.size,[s1.heap.objs.size],_,_,H1,rfl,I1.kept (t':=s1.toks) fun b o e=>yd _ e,zVs a _,⟨_,yo _ rfl,rfl,rfl⟩,fun b hb=>?_,q⟩;have e:b=s1.heap.objs.size:=by simpa using hb
 subst e;exact I1.fpOk (yi _) (I1.hok.fresh (yi _))
def zay{l:Expr}{tl:TE}(hl:PE X l tl):PI X tg l (zVz X.K tl):=by
 intro pins s σ H R I h;refine thn (hl pins s σ H _ I h) fun v s1 ⟨x,H1,I1,r1,q1⟩=>?_;obtain⟨a,e,⟨xs,hq⟩,q⟩:=q1;subst e;cases r1;obtain⟨its,rv,p,hz⟩:=I1.tuple hq;refine wpAny_pyIter_tuple (show s1.heap.IsTuple a its.toArray from p) ?_;refine⟨s1.heap.objs.size,[s1.heap.objs.size],_,_,H1,rfl,I1.kept (t':=s1.toks) fun b o e=>yd _ e,zpq a _,⟨_,yo _ rfl,rfl,rfl⟩,fun b hb=>?_,q⟩;have e:b=s1.heap.objs.size:=by simpa using hb
 subst e;exact I1.fpOk (yi _) (I1.hok.fresh (yi _))
def zgu{pins:List (Addr×YN)}{σ:St}{H:Hp}{s:yb}{R:It->Hp->Prop}{E:Value->yb->Prop}{lo hi:Int}{t u v:Tok}{tk:Nat}(I:Inv X pins σ H s)(h1:-(2^62)<=lo)(h2:lo<2^62)(h3:-(2^62)<=hi)(h4:hi<2^62)
 (q:R (Itr lo (hi-lo).toNat) H):yn (yr X.prog X.w) X.A (pyIter (.ref s.heap.objs.size)) (PIE X pins σ tg R) E {s with heap:=s.heap.push {cls := .type "range",data := .fields #[.int lo t, .int hi u, .int 1 v]},toks:=tk }:=by
 refine wpAny_pyIter_range (IsRange.new ..) (small_one h1 h2 h3 h4) ?_;have I1:Inv X pins σ H {s with heap:=s.heap.push {cls := .type "range",data := .fields #[.int lo t, .int hi u, .int 1 v]},toks:=tk }:=I.kept fun b o e=>yd _ e
 refine⟨(s.heap.push {cls := .type "range",data := .fields #[.int lo t, .int hi u, .int 1 v]}).objs.size,[(s.heap.push {cls := .type "range",data := .fields #[.int lo t, .int hi u, .int 1 v]}).objs.size],_,_,H,rfl,
  I1.kept (t':=tk) fun b o e=>yd _ e,zmq _ lo (hi-lo).toNat,?_,fun b hb=>?_,q⟩
 ·have e1:lo+((0:Nat):Int)*1=lo:=by simp
  have e2:(((hi-lo).toNat:Nat):Int)-((0:Nat):Int)=Builtin.Range.rangeSize lo hi 1:=by rw[rangeSize_one];split<;>omega
  show IsRangeIter _ _ (lo+((0:Nat):Int)*1) ((((hi-lo).toNat:Nat):Int)-((0:Nat):Int)) 1;rw[e1,e2];exact yo _ rfl
 ·have e:b=(s.heap.push {cls := .type "range",data := .fields #[.int lo t, .int hi u, .int 1 v]}).objs.size:=by simpa using hb
  subst e;exact I1.fpOk (yi _) (I1.hok.fresh (yi _))
def z7y(ta:TA):TI:=fun σ H R=>ta σ H fun vs H1=>∃j:Int,vs=[.int j]/\-(2^62)<=j/\j<2^62/\R (Itr 0 j.toNat) H1
def zVr{a:Expr}{ta:TA}{p pos:xp}(hg:Gl X "range")(hm:X.mg "range" = none)(ha:PA X [a] ta)(hs:yf [a] X.env=[(false,yW a X.env)]:=by rfl):PI X tg (.Call (.Name "range" p) [a] [] pos) (z7y ta):=by
 intro pins s σ H R I h;refine Call_ (zfl I hg hm boot_range (YM (thn (ha pos pins s σ H _ I h) fun us s1 ⟨vs,H1,I1,r1,q1⟩=>?_) hs rfl));obtain⟨j,e,q1,q2,q⟩:=q1;subst e
 cases r1 with
 |cons r rr=>
  cases rr;obtain⟨t,rfl⟩:=r;exact call_range_1 (zgu I1 (by omega) (by omega) q1 q2 (by simpa using q))
def zdA(wi:TI)(g:TG)(tb:TS):TS:=fun D σ H=>wi σ H fun J H1=>∃W:Nat->Nat->St->Hp->Prop,(∃m,W 0 m σ H1)/\∀i m σ H,W i m σ H ->
 (J.stop i H/\D.nx σ H)\/(J.go i H/\∃N:St->Hp->Prop,(∀σ' H',N σ' H'->∃m',m'<m/\W (i+1) m' σ' H')/\∀x H',J.yld i H x H'->g x σ H' fun σ2 H2=>tb {D with nx:=N,ct:=N,bk:=D.nx } σ2 H2)
def zUn(fp:List Addr)(h:yP):List (Addr×YN):=fp.filterMap fun b=>(h.get? b).map fun o=>(b,o)
def zpg{fp:List Addr}{h:yP}{b:Addr}{o:YN}(hb:b∈fp)(e:h.get? b=some o):(b,o)∈zUn fp h:=List.mem_filterMap.mpr ⟨b,hb,by rw[e];rfl⟩
def zKr{fp:List Addr}{h:yP}{p:Addr×YN}(hp:p∈zUn fp h):p.1∈fp/\h.get? p.1=some p.2:=by
 obtain⟨b,hb,e⟩:=List.mem_filterMap.mp hp
 cases q:h.get? b with
 |none=>rw[q]at e;cases e
 |some o=>
  rw[q]at e;have e':(b,o)=p:=Yd e;subst e';exact⟨hb,q⟩
def Inv.pinned{pins:List (Addr×YN)}{σ:St}{H:Hp}{s:yb}{fp:List Addr}(I:Inv X pins σ H s)(hf:∀b∈fp,zfp X pins H b)(ho:∀b∈fp,∃o,s.heap.get? b=some o/\∀v,o.data≠.cell v):Inv X (pins++zUn fp s.heap) σ H s :=
 I.pins_of fun p hp=>(List.mem_append.mp hp).elim (fun z=>I.pin p (mem_append_right _ z)) fun z=>by
  obtain⟨hb,e⟩:=zKr z;obtain⟨f0,f1,f2,_⟩:=hf p.1 hb;obtain⟨o,e',d⟩:=ho p.1 hb;rw[e]at e';cases e';exact⟨e,f0,f1,f2,d⟩
def Inv.unpinned{pins pl:List (Addr×YN)}{σ:St}{H:Hp}{s:yb}(I:Inv X (pins++pl) σ H s):Inv X pins σ H s:=I.pins_of fun p hp=>I.pin p (mem_append_right _ (mem_append_left _ hp))
def zdy{iter:Expr}{body:List Stmt}{wi:TI}{g:TG}{tb:TS}{pos:xp}(hp:PassesOwn (yr X.prog X.w) X.A X.env X.xe)(hc:X.calm=true)(hi:PI X tg iter wi)(hg:PG X tg g)(hb:PSs X body tb)
 (hs:∀x,YQ iter X.env x=pure x:=by intro _;rfl):PS X (.For tg iter body [] pos) (zdA wi g tb):=by
 intro pins s σ H D I h;refine wpAny_For (thn (hi pins s σ H _ I h) fun v s1 h1=>thn h1 fun itv s2 h2=>?_) hs;obtain⟨it,fp,tn,J,H2,e,I2,T,st2,f2,W,⟨m0,w0⟩,turn⟩:=h2;subst e;have stat:∀{H':Hp},(∀b∈fp,H' b=none)->∀b∈fp,zfp X pins H' b:=fun hn b hb=>⟨hn b hb,(f2 b hb).2⟩
 refine codeAny_forLoop_any (fun n s'=>∃i σ' H',Inv X pins σ' H' s'/\tn i s'.heap/\(∀b∈fp,H' b=none)/\W i n σ' H') ?_ m0 ⟨0,σ,H2,I2,st2,fun b hb=>(f2 b hb).1,w0⟩;rintro n s3 ⟨i,σ3,H3,I3,st3,fr3,w3⟩;rcases turn i n σ3 H3 w3 with ⟨stop,qn⟩ | ⟨go,N,hN,step⟩
 ·refine xA hp (thn (T.done X rfl rfl rfl hc i pins s3 σ3 H3 X.xe I3 (stat fr3) st3 stop) fun r s4 ⟨hr,I4⟩=>?_);subst hr;exact xP ⟨σ3,H3,I4,qn⟩
 ·refine xA hp (thn (T.item X rfl rfl rfl hc i pins s3 σ3 H3 X.xe I3 (stat fr3) st3 go) fun r s4 ⟨u,hr,h4⟩=>?_);subst hr;refine xA hp (thn h4 fun _ s5 ⟨x,H5,I5,r5,y5,st5,fr5⟩=>?_);have I5':=I5.pinned (stat fr5) (T.obj _ _ st5);refine xA hp (thn (hg _ s5 σ3 H5 x u _ I5' r5 (step x H5 y5)) fun _ s6 ⟨σ6,H6,I6,q6⟩=>?_);refine xA hp (thn (hb _ s6 σ6 H6 _ I6 q6) fun f s7 q7=>?_)
  have again:∀{σ7:St} {H7:Hp},Inv X (pins++zUn fp s5.heap) σ7 H7 s7->N σ7 H7->∃m,m<n/\∃i σ' H',Inv X pins σ' H' s7/\tn i s7.heap/\(∀b∈fp,H' b=none)/\W i m σ' H':=fun{σ7 H7} I7 n7=>by
   obtain⟨m',hm,w7⟩:=hN σ7 H7 n7;refine⟨m',hm,i+1,σ7,H7,I7.unpinned,T.keep _ _ _ st5 fun b hb o e=>(I7.pin (b,o) (mem_append_right _ (mem_append_right _ (zpg hb e)))).1,fun b hb=>?_,w7⟩;obtain⟨o,e,d⟩:=T.obj _ _ st5 b hb;exact(I7.pin (b,o) (mem_append_right _ (mem_append_right _ (zpg hb e)))).2.1
  cases f with
  |next=>obtain⟨σ7,H7,I7,n7⟩:=q7;exact again I7 n7
  |cont=>obtain⟨σ7,H7,I7,n7⟩:=q7;exact again I7 n7
  |brk=>obtain⟨σ7,H7,I7,q7⟩:=q7;exact⟨σ7,H7,I7.unpinned,q7⟩
  |ret v=>obtain⟨x7,σ7,H7,I7,r7,q7⟩:=q7;exact⟨x7,σ7,H7,I7.unpinned,r7,q7⟩
end
abbrev R2:=V->V->Hp->VK->Prop
def OpR(X:Cx)(f:Value->Value->Sem Value)(r:R2):Prop :=
 ∀(pins:List (Addr×YN)) (s:yb) (σ:St) (H:Hp) (x y:V) (v u:Value) (Q:VK),Inv X pins σ H s->RelV x v->RelV y u->r x y H Q ->
  yn (yr X.prog X.w) X.A (f v u) (EP X pins σ Q) X.xe s
def zSk(X:Cx)(f:Value)(r:List V->Hp->VK->Prop):Prop :=
 ∀(pins:List (Addr×YN)) (s:yb) (σ:St) (H:Hp) (xs:List V) (us:List Value) (Q:VK),Inv X pins σ H s->Vals xs us->r xs H Q ->
  yn (yr X.prog X.w) X.A (call f us) (EP X pins σ Q) X.xe s
def tOp(r:R2)(ta tb:TE):TE:=fun σ H Q=>ta σ H fun x H1=>tb σ H1 fun y H2=>r x y H2 Q
def rI(C:Int->Int->Prop)(g:Int->Int->V):R2:=fun x y H Q=>∃i j,x = .int i/\y = .int j/\C i j/\Q (g i j) H
def rI0(g:Int->Int->V):R2:=fun x y H Q=>∃i j,x = .int i/\y = .int j/\Q (g i j) H
section
variable {X:Cx}{a b c:Expr}{ta tb tc:TE}{pos:xp}
def binT(ha:PE X a ta)(hb:PE X b tb){pins:List (Addr×YN)}{s:yb}{σ:St}{H:Hp}{R:V->V->Hp->Prop}(I:Inv X pins σ H s)
 (h:ta σ H fun x H1=>tb σ H1 fun y H2=>R x y H2) {Q:Value->yb->Prop} {f:Value->Value->Sem Value}
 (hf:∀v u s2 x y H2,Inv X pins σ H2 s2->RelV x v->RelV y u->R x y H2->yn (yr X.prog X.w) X.A (f v u) Q X.xe s2) :
 yn (yr X.prog X.w) X.A (yW a X.env) (fun v s₁=>yn (yr X.prog X.w) X.A (yW b X.env) (fun u s₂=>yn (yr X.prog X.w) X.A (f v u) Q X.xe s₂) X.xe s₁) X.xe s:=by
 refine thn (ha pins s σ H _ I h) fun v s1 ⟨x,H1,I1,r1,q1⟩=>?_;refine thn (hb pins s1 σ H1 _ I1 q1) fun u s2 ⟨y,H2,I2,r2,q2⟩=>?_;exact hf v u s2 x y H2 I2 r1 r2 q2
def zpz{op:Operator}{r:R2}(ho:OpR X (xq op) r)(ha:PE X a ta)(hb:PE X b tb):PE X (.BinOp a op b pos) (tOp r ta tb):=by
 intro pins s σ H Q I h;exact wpAny_BinOp (binT ha hb I h fun v u s2 x y H2 I2 rx ry q=>ho pins s2 σ H2 x y v u Q I2 rx ry q)
def opI{f:Value->Value->Sem Value}{C:Int->Int->Prop}{g:Int->Int->Int}
 (rule:∀(i j:Int)(t u:Tok)(s:yb)(Q:Value->yb->Prop)(E:Value->yb->Prop),C i j->Q (.int (g i j) s.toks) {s with toks:=s.toks+1 }->yn (yr X.prog X.w) X.A (f (.int i t) (.int j u)) Q E s) :
 OpR X f (rI C fun i j => .int (g i j)):=by
 intro pins s σ H x y v u Q I rx ry h;obtain⟨i,j,rfl,rfl,hc,q⟩:=h;obtain⟨t,rfl⟩:=rx;obtain⟨t',rfl⟩:=ry;exact rule i j t t' s _ _ hc ⟨.int (g i j),H,I.tok _,⟨_,rfl⟩,q⟩
def opI0{f:Value->Value->Sem Value}{g:Int->Int->Int}
 (rule:∀(i j:Int)(t u:Tok)(s:yb)(Q:Value->yb->Prop)(E:Value->yb->Prop),Q (.int (g i j) s.toks) {s with toks:=s.toks+1 }->yn (yr X.prog X.w) X.A (f (.int i t) (.int j u)) Q E s) :
 OpR X f (rI0 fun i j => .int (g i j)):=by
 intro pins s σ H x y v u Q I rx ry h;obtain⟨i,j,rfl,rfl,q⟩:=h;obtain⟨t,rfl⟩:=rx;obtain⟨t',rfl⟩:=ry;exact rule i j t t' s _ _ ⟨.int (g i j),H,I.tok _,⟨_,rfl⟩,q⟩
def opB0{f:Value->Value->Sem Value}{g:Int->Int->Bool}
 (rule:∀(i j:Int)(t u:Tok)(s:yb)(Q:Value->yb->Prop)(E:Value->yb->Prop),Q (.bool (g i j)) s->yn (yr X.prog X.w) X.A (f (.int i t) (.int j u)) Q E s) :
 OpR X f (rI0 fun i j => .bl (g i j)):=by
 intro pins s σ H x y v u Q I rx ry h;obtain⟨i,j,rfl,rfl,q⟩:=h;obtain⟨t,rfl⟩:=rx;obtain⟨t',rfl⟩:=ry;exact rule i j t t' s _ _ ⟨.bl (g i j),H,I,rfl,q⟩
def zcx:OpR X (xq .Mod) (rI (fun _ j=>0<j) fun i j => .int (i%j)):=opI fun i j _ _ _ _ _ hc q=>by
 have h1:(0:Int)<j:=hc;exact mod_int' (by omega) (by rw[Int.fmod_eq_emod_of_nonneg i (by omega)];exact q)
def ziw:OpR X (inplaceOp .Add) (rI0 fun i j => .int (i+j)):=opI0 fun _ _ _ _ _ _ _ q=>iadd_int q
end
section
variable {X:Cx}{a b c:Expr}{ta tb tc:TE}{pos:xp}
def z5u{pins:List (Addr×YN)}{σ:St}{H:Hp}{s:yb}{Q:VK}{k k':Bool}(I:Inv X pins σ H s)(q:Q (.bl k) H)(e:k=k'):EP X pins σ Q (.bool k') s:=by
 subst e;exact⟨.bl k,H,I,rfl,q⟩
def z5y:OpR X (Yn .Lt) (rI0 fun i j => .bl (decide (i<j))):=opB0 fun _ _ _ _ _ _ _ q=>lt_int q
def zcz:OpR X (Yn .Gt) (rI0 fun i j => .bl (decide (j<i))):=opB0 fun _ _ _ _ _ _ _ q=>gt_int q
def znz:OpR X (Yn .GtE) (rI0 fun i j => .bl (decide (j<=i))):=opB0 fun _ _ _ _ _ _ _ q=>ge_int q
def z5k:OpR X (Yn .Is) (fun x y H Q=>y = .non/\Q (.bl (decide (x = .non))) H):=by
 intro pins s σ H x y v u Q I rx ry h;obtain⟨rfl,q⟩:=h;cases ry;refine is_none_gen (z5u I q ?_)
 cases x<;>first
  |(cases rx;rfl)
  |(obtain⟨t,rfl⟩:=rx;rfl)
def zei:OpR X (Yn .IsNot) (fun x y H Q=>y = .non/\Q (.bl (!decide (x = .non))) H):=by
 intro pins s σ H x y v u Q I rx ry h;obtain⟨rfl,q⟩:=h;cases ry;refine isnot_none_gen (z5u I q ?_)
 cases x<;>first
  |(cases rx;rfl)
  |(obtain⟨t,rfl⟩:=rx;rfl)
def zxv{op:CmpOp}{r:R2}(ho:OpR X (Yn op) r)(ha:PE X a ta)(hb:PE X b tb)(hm:behindInMarks op b=false):PE X (.Compare a [op] [b] pos) (tOp r ta tb):=by
 intro pins s σ H Q I h;exact wpAny_Compare1 (binT ha hb I h fun v u s2 x y H2 I2 rx ry q=>ho pins s2 σ H2 x y v u Q I2 rx ry q) hm
def zRy(t:TE):TT:=fun σ H Q=>t σ H fun x H'=>∃k,x = .bl k/\Q k H'
def zMw{op:CmpOp}{r:R2}(ho:OpR X (Yn op) r)(ha:PE X a ta)(hb:PE X b tb)(hm:behindInMarks op b=false):PT X (.Compare a [op] [b] pos) (zRy (tOp r ta tb)):=by
 intro pins s σ H Q I h
 refine wpAny_isTrue_Compare1 (thn (ha pins s σ H _ I h) fun v s1 ⟨x,H1,I1,r1,q1⟩=>thn (hb pins s1 σ H1 _ I1 q1) fun u s2 ⟨y,H2,I2,r2,q2⟩=>
  thn (ho pins s2 σ H2 x y v u _ I2 r1 r2 q2) fun c s3 ⟨z,H3,I3,r3,k,e,q3⟩=>?_) hm
 subst e;cases r3;exact wpAny_truthy_bool ⟨H3,I3,q3⟩
def line63:(yB:Nat)<2^63:=by rw[Yp];decide
def vals1{x:V}{us:List Value}(r:Vals [x] us):∃u,us=[u]/\RelV x u:=by
 cases r with
 |cons r1 r2=>cases r2;exact⟨_,rfl,r1⟩
def vals2{x y:V}{us:List Value}(r:Vals [x,y] us):∃u w',us=[u,w']/\RelV x u/\RelV y w':=by
 cases r with
 |cons r1 r2=>
  cases r2 with
  |cons r3 r4=>cases r4;exact⟨_,_,rfl,r1,r3⟩
end
structure ObjM(h:yP)(x dx C:Addr)(mA:Str->Option Value):Prop where
 obj:h.get? x=some (W.instObj C dx)
 ns:h.Ns1 dx mA
 ne:dx≠x
def zSm{h:yP}{dx:Addr}{mA:Str->Option Value}(n:h.Ns1 dx mA):∃od,h.get? dx=some od/\∀name,W.lookIn name od=some (mA name):=by
 obtain⟨o,es,ep,ho,hd,hk,_,hm⟩:=n;refine⟨o,ho,fun name=>?_⟩;have e:=hm name;unfold nsFind findBy at e;rw[<-Array.find?_toList]at e;unfold W.lookIn;rw[hd];dsimp only
 split
 ·rename_i y q
  rw[q]at e;exact congrArg some e
 ·rename_i q
  rw[q]at e
  have a:es.toList.any (·.refKey)=false:=by
   rw[List.any_eq_false];intro y hy;obtain⟨z,t,hkey⟩:=hk y (Array.mem_toList_iff.mp hy);simp[DictEntry.refKey,hkey]
  have a':¬es.toList.any (·.refKey)=true:=by rw[a];exact yx
  rw[if_neg a'];exact congrArg some e
def ObjM.look{h:yP}{x dx C:Addr}{mA:Str->Option Value}(I:ObjM h x dx C mA):∃od,W.InstAt h x (W.instObj C dx) C (some od)/\∀name,W.lookIn name od=some (mA name) :=
 let ⟨od,ho,hl⟩:=zSm I.ns
 ⟨od,⟨I.obj,rfl,rfl,ho⟩,hl⟩
section
variable {prog:yw}{w:yF}{A:yH}{E:Value->yb->Prop}{s:yb}{K:yu}{x dx C f:Addr}{mA:Str->Option Value}{name:Str}{v:Value}
def zFv{expr:Bool}{Q:Value->yb->Prop}(X:K.In s.heap)(I:ObjM s.heap x dx C mA)(hg:W.plainGet K C name=true)(hh:W.hasDictIn K C=true)
 (ha:Ye K (.ref C) name=some none) (hv:mA name=some v) (hv':W.handedIn v=true) (h:Q v {s with toks:=s.toks+1 }) :
 yn (yr prog w) A (getAttr (.ref x) name expr) Q E s:=by
 obtain⟨od,J,hl⟩:=I.look;exact W.get_value X J (W.plainGet_of hg).1 (W.findObj_own hh ha rfl (by rw[hl,hv])) hv' h
def zrt{pl:Sem Bool}{Q:Value×List Value->yb->Prop}(X:K.In s.heap)(I:ObjM s.heap x dx C mA)(hg:W.plainGet K C name=true)
 (hf:Ye K (.ref C) name=some (some (.ref f))) (ht:W.isFn K (.ref f)=true) (hv:mA name=none) (h:Q (.ref f,[.ref x]) s) :
 yn (yr prog w) A (getMethod (.ref x) name pl) Q E s:=by
 obtain⟨od,J,hl⟩:=I.look;exact W.method_fn X J (W.plainGet_of hg).1 (W.plainGet_of hg).2 hf (beq_iff_eq.mp ht) (by show(W.lookIn name od).map (·.isSome)=some false;rw[hl,hv];rfl) h
def zNw{ns:List Str}{Q:Unit->yb->Prop}(X:K.In s.heap)(I:ObjM s.heap x dx C mA)
 (hs:Ye K (.ref C) "__setattr__" = some (some (.builtin "object.__setattr__"))) (hp:W.plainOver K C=true) (ht:W.takerIn K C name=some none) (hh:W.hasDictIn K C=true)
 (hw:PySem.Within mA ns) (hsz:ns.length<=yB)
 (h:∀h',ObjM h' x dx C (fun y=>if y=name then some v else mA y)->Yk dx s.heap h'->Q () {s with heap:=h',toks:=s.toks+2 }) :
 yn (yr prog w) A (setAttr (.ref x) name v) Q E s:=by
 obtain⟨od,J,hl⟩:=I.look;refine W.set_plain X J hs (W.osa_open (s:={s with toks:=s.toks+1 }) (r:=none) X J hp ht fun b=>?_);obtain⟨cd,hc,hd'⟩:=W.any_some hh;have hx:s.heap.get? x=some ⟨.ref C,some dx, .plain,#[]⟩:=I.obj;refine ya (ye (ya (ya (wpAny_loadPart hx (ya (W.Looks.here (s:={s with toks:=s.toks+1 }) (W.looks_clsIn X hc) ?_))))));rw[hd'];refine ye (a:=some dx) (ya (ye (ya ?_)));refine wpAny_nsSet1 (s:={s with toks:=s.toks+1 }) I.ns fun h' hn2 hs2=>?_;obtain⟨oD,esD,epD,hoD,hdD,hcD⟩:=hn2.count (PySem.Within.cons name v hw);refine ya (wpAny_lookBehind hoD (by rw[hdD];exact pastItsLine_dict (yC hcD (by rw[length_cons];omega))) ?_);exact ye (h _ ⟨(hs2.2 _ (yN I.ne)).trans I.obj,hn2,I.ne⟩ hs2)
def zRt{R:Result->yb->Prop}{vs:List Value}{kw:List (Str×Value)}(X:K.In s.heap)(hm:W.makesIn K C=true)
 (hi:Ye K (.ref C) "__init__" = some (some (.ref f))) (hf:W.typeIn K (.ref f)=some (.type "function"))
 (h:Xc (yr prog w) (A.under (.builtin "type.__call__" ⟨.ref C::vs,kw⟩)) (.call (.ref f) ⟨.ref (s.heap.objs.size+1)::vs,kw⟩) (W.InitBack (s.heap.objs.size+1) R)
  {s with heap:=(s.heap.push xM).push (W.instObj C s.heap.objs.size)}) :
 Xc (yr prog w) A (.call (.ref C) ⟨vs,kw⟩) R s:=by
 obtain⟨hh,g,d,t,os⟩:=s;exact W.make_core (W.makes_of X hm) (W.looks_findIn X hi) (fun self=>W.bind_fn X self hf) (.inl rfl) h
end
def zHk(f:Str)(v:V):List (Str×V)->List (Str×V)
 |[]=>[(f,v)]
 |(g,x)::r=>if g=f then(g,v)::r else(g,x)::zHk f v r
def zhk(f g:Str)(v:V):∀fs:List (Str×V),(zHk f v fs).lookup g=if g=f then some v else fs.lookup g
 |[]=>by
  show YE g [(f,v)]=_
  by_cases h:g=f
  ·have hb:(g==f)=true:=beq_iff_eq.mpr h;simp only[YE,hb,if_pos h]
  ·have hb:(g==f)=false:=beq_eq_false_iff_ne.mpr h;simp only[YE,hb,if_neg h]
 |(k,x)::r=>by
  have ih:=zhk f g v r;rw[show zHk f v ((k,x)::r)=(if k=f then(k,v)::r else(k,x)::zHk f v r) from rfl]
  by_cases hk:k=f
  ·rw[if_pos hk]
   by_cases h:g=k
   ·have hb:(g==k)=true:=beq_iff_eq.mpr h;simp only[YE,hb,if_pos (h.trans hk)]
   ·have hb:(g==k)=false:=beq_eq_false_iff_ne.mpr h;simp only[YE,hb,if_neg (fun e:g=f=>h (e.trans hk.symm))]
  ·rw[if_neg hk]
   by_cases h:g=k
   ·have hb:(g==k)=true:=beq_iff_eq.mpr h;simp only[YE,hb,if_neg (fun e:g=f=>hk (h.symm.trans e))]
   ·have hb:(g==k)=false:=beq_eq_false_iff_ne.mpr h;simp only[YE,hb];exact ih
def zak(f:Str)(v:V):∀fs:List (Str×V),f∈(zHk f v fs).map (·.1)/\∀g,g∈fs.map (·.1)->g∈(zHk f v fs).map (·.1)
 |[]=>⟨by simp[zHk],fun g h=>by simp at h⟩
 |(k,x)::r=>by
  obtain⟨i1,i2⟩:=zak f v r;rw[show zHk f v ((k,x)::r)=(if k=f then(k,v)::r else(k,x)::zHk f v r) from rfl]
  by_cases hk:k=f
  ·rw[if_pos hk];subst hk;exact⟨by simp,fun g h=>by simpa using h⟩
  ·rw[if_neg hk];refine⟨?_,fun g h=>?_⟩
   ·rw[map_cons];exact mem_cons_of_mem _ i1
   ·rw[map_cons]at h ⊢;rcases List.mem_cons.mp h with e | e
    ·exact List.mem_cons.mpr (.inl e)
    ·exact mem_cons_of_mem _ (i2 g e)
def zfk(f:Str)(v:V):∀fs:List (Str×V),(zHk f v fs).length<=fs.length+1
 |[]=>by simp[zHk]
 |(k,x)::r=>by
  have ih:=zfk f v r;rw[show zHk f v ((k,x)::r)=(if k=f then(k,v)::r else(k,x)::zHk f v r) from rfl]
  by_cases hk:k=f
  ·rw[if_pos hk,length_cons,length_cons];omega
  ·rw[if_neg hk,length_cons,length_cons];omega
def RelO.some_of{v:V}{o:Option Value}(r:RelO (some v) o):∃u,o=some u/\RelV v u:=by
 cases o with
 |none=>exact(show False from r).elim
 |some u=>exact⟨u,rfl,r⟩
def RelO.none_of{o:Option Value}(r:RelO none o):o=none:=by
 cases o with
 |none=>rfl
 |some u=>exact(show False from r).elim
def zfn{v:V}{u:Value}(r:RelV v u):W.handedIn u=true:=by
 cases v with
 |non=>cases (show u=Yi from r);rfl
 |bl b=>cases (show u=Value.bool b from r);rfl
 |int i=>obtain⟨t,e⟩:=(show ∃t,u=Value.int i t from r);cases e;rfl
 |str x=>obtain⟨t,e⟩:=(show ∃t,u=Value.str x t from r);cases e;rfl
 |byt b=>obtain⟨t,e⟩:=(show ∃t,u=Value.bytes b t from r);cases e;rfl
 |flt b=>obtain⟨t,e⟩:=(show ∃t,u=Value.float b t from r);cases e;rfl
 |ref a=>cases (show u=yD a from r);rfl
 |ty n=>cases (show u=YJ n from r);rfl
section
variable {P:yw}{w:yF}{H H':Hp}{h h':yP}{a C dx:Addr}{fs fs':List (Str×V)}
def zCo(hok:HOk P w H h)(e:H a=some (.ins C dx fs)):∃mA,ObjM h a dx C mA/\(∀f,RelO (fs.lookup f) (mA f))/\PySem.Within mA (fs.map (·.1))/\fs.length<=1000/\H dx=some (.own a):=by
 obtain⟨d,z,ne,ob,mA,n,r,q⟩:=(show ObjOk P w H h a (.ins C dx fs) from hok a _ e)
 exact⟨mA,⟨ob,n,ne⟩,r,q,z,d⟩
end
structure Cls(K:yu)(C:Addr):Prop where
 pg:W.plainGet K C Str.empty=true
 hd:W.hasDictIn K C=true
 po:W.plainOver K C=true
 sa:Ye K (.ref C) "__setattr__" = some (some (.builtin "object.__setattr__"))
def Cls.get{K:yu}{C:Addr}(c:Cls K C)(f:Str):W.plainGet K C f=true:=c.pg
def NoAttr(K:yu)(C:Addr)(f:Str):Prop:=Ye K (.ref C) f=some none
def NoAttr.taker{K:yu}{C:Addr}{f:Str}(n:NoAttr K C f):W.takerIn K C f=some none:=by
 unfold W.takerIn;rw[show Ye K (.ref C) f=some none from n];rfl
structure Con(K:yu)(C:Addr)(f:Str)(v:V)(u:Value):Prop where
 at_:Ye K (.ref C) f=some (some u)
 rel:RelV v u
 get:W.specialIn K u "__get__" = some none
 cp:W.copiedNames.contains f=false
structure Meth(K:yu)(C:Addr)(m:Str)(f:Addr):Prop where
 at_:Ye K (.ref C) m=some (some (.ref f))
 fn:W.isFn K (.ref f)=true
 kp:W.keepIn K (.ref f)=true
section
variable {X:Cx}{pins:List (Addr×YN)}{σ:St}{H:Hp}{s:yb}{a C dx:Addr}{fs:List (Str×V)}{f:Str}{v:V}{A:yH}{E:Value->yb->Prop}
def zdq{b:Bool}{Q:Value->yb->Prop}(I:Inv X pins σ H s)(e:H a=some (.ins C dx fs))(c:Cls X.K C)(n:NoAttr X.K C f)(l:fs.lookup f=some v)
 (h:∀u s',Inv X pins σ H s'->RelV v u->Q u s'):yn (yr X.prog X.w) A (getAttr (.ref a) f b) Q E s:=by
 obtain⟨mA,O,r,_,_,_⟩:=zCo I.hok e;obtain⟨u,hu,ru⟩:=RelO.some_of (v:=v) (o:=mA f) (by rw[<-l];exact r f);exact zFv I.kIn O (c.get f) c.hd n hu (zfn ru) (h u _ (I.tok _) ru)
def z7h{m:Str}{g:Addr}{pl:Sem Bool}{Q:Value×List Value->yb->Prop}(I:Inv X pins σ H s)(e:H a=some (.ins C dx fs))(c:Cls X.K C)(k:Meth X.K C m g)(l:fs.lookup m=none)
 (h:Q (.ref g,[.ref a]) s):yn (yr X.prog X.w) A (getMethod (.ref a) m pl) Q E s:=by
 obtain⟨mA,O,r,_,_,_⟩:=zCo I.hok e;have hn:mA m=none:=RelO.none_of (by rw[<-l];exact r m);exact zrt I.kIn O (c.get m) k.at_ k.fn hn h
def zlq{y:V}{u:Value}{Q:Unit->yb->Prop}(I:Inv X pins σ H s)(e:H a=some (.ins C dx fs))(c:Cls X.K C)(n:NoAttr X.K C f)(hl:fs.length<1000)(ry:RelV y u)
 (h:∀s',Inv X pins σ (upd H a (.ins C dx (zHk f y fs))) s'->Q () s'):yn (yr X.prog X.w) A (setAttr (.ref a) f u) Q E s:=by
 obtain⟨mA,O,r,wi,_,ho⟩:=zCo I.hok e;have hz:(fs.map (·.1)).length<=yB:=by rw[length_map,Yp];omega
 refine zNw I.kIn O c.sa c.po n.taker c.hd wi hz fun h' O' sb=>h _ ?_;have hd:∃o,h'.get? dx=some o:=let ⟨o,_,_,e',_⟩:=O'.ns;⟨o,e'⟩;refine I.write (x:=a) (e:=dx) (by rw[e];exact True.intro) (.inr ho) (fun b q hb z=>(sb.2 b hb).trans z) hd ?_;refine⟨by rw[zH O.ne];exact ho,?_,O.ne,O'.obj,_,O'.ns,fun g=>?_,fun g hg=>?_⟩
 ·have:=zfk f y fs;omega
 ·show RelO ((zHk f y fs).lookup g) (if g=f then some u else mA g);rw[zhk]
  by_cases q:g=f
  ·rw[if_pos q,if_pos q];exact ry
  ·rw[if_neg q,if_neg q];exact r g
 ·by_cases q:g=f
  ·rw[q];exact(zak f y fs).1
  ·refine(zak f y fs).2 g (wi g fun z=>hg ?_);show(if g=f then some u else mA g)=none;rw[if_neg q];exact z
def Inv.made(I:Inv X pins σ H s):Inv X pins σ (upd (upd H s.heap.objs.size (.own (s.heap.objs.size+1))) (s.heap.objs.size+1) (.ins C s.heap.objs.size []))
 {s with heap:=(s.heap.push xM).push (W.instObj C s.heap.objs.size)}:=by
 have e1:(s.heap.push xM).get? s.heap.objs.size=some xM:=yo s.heap rfl
 have e2:((s.heap.push xM).push (W.instObj C s.heap.objs.size)).get? (s.heap.objs.size+1)=some (W.instObj C s.heap.objs.size):=by
  have:=yo (s.heap.push xM) (o:=W.instObj C s.heap.objs.size) rfl
  rwa [Yl]at this
 have e3:(s.heap.push xM).Ns s.heap.objs.size (fun _=>none):=⟨xM,#[],_,e1,rfl,(fun e he=>absurd he (by simp)),fun _=>rfl⟩
 have I1:=I.laid (a:=s.heap.objs.size) (o := .own (s.heap.objs.size+1)) (h':=s.heap.push xM) (t':=s.toks) (fun b u q=>yd _ q) (yi _) ⟨_,e1⟩;refine I1.laid (a:=s.heap.objs.size+1) (o := .ins C s.heap.objs.size []) (t':=s.toks) (fun b u q=>yd _ q) (Nat.le_of_eq (Yl _ _)) ?_;have ne:s.heap.objs.size≠s.heap.objs.size+1:=yz (Yq _);refine⟨by rw[zH ne,zu],Ys _,ne,e2,fun _=>none,(Heap.Ns1.of_empty e3).at fun o q=>yd _ q,fun _=>True.intro,fun y hy=>absurd rfl hy⟩
def zft{prog:yw}{w:yF}{env:Env}{e:Expr}{f:Str}{pos:xp}{s:yb}{Q:Value->yb->Prop}(hb:Yu e f env (yW e env)=yW e env)
 (h:yn (yr prog w) A (yW e env) (fun o s₁=>yn (yr prog w) A (getAttr o f true) Q E s₁) E s):yn (yr prog w) A (yW (.Attribute e f pos) env) Q E s :=
 Attribute_any_ h (by rw[arm_eval_Attribute,hb])
end
def zQz(K:yu)(ta:TE)(f:Str):TE:=fun σ H Q=>ta σ H fun x H1=>∃a C dx fs v,x = .ref a/\H1 a=some (.ins C dx fs)/\Cls K C/\NoAttr K C f/\fs.lookup f=some v/\Q v H1
def zbA(K:yu)(ta tv:TE)(f:Str):TS:=fun D σ H=>tv σ H fun y H1=>ta σ H1 fun x H2=>∃a C dx fs,x = .ref a/\H2 a=some (.ins C dx fs)/\Cls K C/\NoAttr K C f/\fs.length<1000 /\
 D.nx σ (upd H2 a (.ins C dx (zHk f y fs)))
section
variable {X:Cx}{o e value:Expr}{f:Str}{pos pos' tpos:xp}{ta tv:TE}
def zlx(he:PE X e ta)(hb:Yu e f X.env (yW e X.env)=yW e X.env):PE X (.Attribute e f pos) (zQz X.K ta f):=by
 intro pins s σ H Q I h;refine zft hb (thn (he pins s σ H _ I h) fun u s1 ⟨x,H1,I1,rx,a,C,dx,fs,v,ex,ea,c,n,l,q⟩=>?_);subst ex;obtain rfl:u=yD a:=rx;exact zdq I1 ea c n l fun u' s2 I2 ru=>⟨v,H1,I2,ru,q⟩
def zsx(ha:PE X o ta)(hv:PE X value tv)(hs:xS value (some (.Attribute o f pos')) pos.line X.env=pure false):PS X (.Assign [.Attribute o f pos'] value pos) (zbA X.K ta tv f):=by
 intro pins s σ H D I h;refine plainObj_wpAny_Assign_Attribute (thn (hv pins s σ H _ I h) fun u s1 ⟨y,H1,I1,ry,q⟩=>thn (ha pins s1 σ H1 _ I1 q) fun ov s2 ⟨x,H2,I2,rx,a,C,dx,fs,ex,ea,c,n,l,q2⟩=>?_) hs;subst ex;obtain rfl:ov=yD a:=rx;exact zlq I2 ea c n l ry fun s3 I3=>⟨σ,_,I3,q2⟩
end
section
variable {X:Cx}{pins:List (Addr×YN)}{σ:St}{H:Hp}{s:yb}{A:yH}{E:Value->yb->Prop}{Q:Value->yb->Prop}{c:Value}{b:Bool}
inductive TyOf(K:yu)(H:Hp):V->Value->Prop where
 |non:TyOf K H .non (.type "NoneType")
 |bl (x:Bool):TyOf K H (.bl x) (.type "bool")
 |int (i:Int):TyOf K H (.int i) (.type "int")
 |str (x:Str):TyOf K H (.str x) (.type "str")
 |flt (x:UInt64):TyOf K H (.flt x) (.type "float")
 |lst {a:Addr} {xs:List V} (e:H a=some (.lst xs)):TyOf K H (.ref a) (.type "list")
 |frz {a:Addr} {o:YN} {xs:List V} (e:H a=some (.frz o (.lst xs))):TyOf K H (.ref a) (.type "list")
 |tup {a:Addr} {xs:List V} (e:H a=some (.tup xs)):TyOf K H (.ref a) (.type "tuple")
 |dK {a:Addr} {kvs:List (Key×V)} (e:H a=some (.dK kvs)):TyOf K H (.ref a) (.type "dict")
 |dT {a:Addr} {kvs:List (List Key×V)} (e:H a=some (.dT kvs)):TyOf K H (.ref a) (.type "dict")
 |ins {a C dx:Addr} {fs:List (Str×V)} (e:H a=some (.ins C dx fs)) (cl:Cls K C) (ha:Ye K (.ref C) "__class__" = some (some (.builtin "object.__class__")))
  (hn:W.specialIn K (.builtin "object.__class__") "__get__" = some (some (.builtin "getset_descriptor.__get__"))) (htk:W.takesIn K (.builtin "object.__class__")=some true)
  (hm:W.mroIn K C (.type "object")=some true):TyOf K H (.ref a) (.ref C)
end
structure Room(k:Nat)(A:yH):Prop where
 hd:A.handled=none
 dp:A.depth+3*k+5<recursionLimit
 un:A.units+16*k+200<cLine
 gd:A.guards=some []
def Room.mono{j k:Nat}{A:yH}(r:Room k A)(h:j<=k):Room j A:=⟨r.hd,by have:=r.dp;omega,by have:=r.un;omega,r.gd⟩
def Room.deeper{k:Nat}{A:yH}(r:Room (k+1) A)(env:Env):Room k (A.deeper env) :=
 ⟨r.hd,by have:=r.dp;show A.depth+1+3*k+5<_;omega,by have:=r.un;show A.units+3+16*k+200<_;omega,r.gd⟩
def z8p{A:yH}{C:Addr}{us:List Value}{kw:List (Str×Value)}:(A.under (.builtin "type.__call__" ⟨.ref C::us,kw⟩)).depth=A.depth+1:=by
 first | rfl | simp[Around.under,Code.weight,Code.isCreation,Code.isGuard,Code.isCaller,Code.frames,Code.isFrame,guardIds]
def zzq{A:yH}{C:Addr}{us:List Value}{kw:List (Str×Value)}:(A.under (.builtin "type.__call__" ⟨.ref C::us,kw⟩)).units=A.units+1:=by
 first | rfl | simp[Around.under,Code.cUnits,Code.frames,Code.isFrame]
def zjo{A:yH}{C:Addr}{us:List Value}{kw:List (Str×Value)}:(A.under (.builtin "type.__call__" ⟨.ref C::us,kw⟩)).guards=A.guards:=by
 first | rfl | (cases h:A.guards<;>simp[Around.under,Code.guards,Code.isGuard,guardIds,h])
def Room.make{k:Nat}{A:yH}(r:Room (k+1) A)(C:Addr)(us:List Value)(kw:List (Str×Value)):Room k (A.under (.builtin "type.__call__" ⟨.ref C::us,kw⟩)) :=
 ⟨r.hd,by have:=r.dp;rw[z8p];omega,by have:=r.un;rw[zzq];omega,by rw[zjo];exact r.gd⟩
def Room.depth{k:Nat}{A:yH}(r:Room k A):A.depth<recursionLimit:=by have:=r.dp;omega
def Room.units{k:Nat}{A:yH}(r:Room k A):A.units+64<cLine:=by have:=r.un;omega
def zGz:TA:=fun _ H Q=>Q [] H
def zaz(ta:TE)(tr:TA):TA:=fun σ H Q=>ta σ H fun x H1=>tr σ H1 fun xs H2=>Q (x::xs) H2
section
variable {X:Cx}{e:Expr}{es:List Expr}{te:TE}{t:TA}{pos:xp}
def zUh:PA X [] zGz:=fun _ _ _ _ H Q I h=>Calls.spliced_nil ⟨[],H,I, .nil,h⟩
def zLe(ha:PE X e te)(hr:PA X es t)(hs:yf (e::es) X.env=(false,yW e X.env)::yf es X.env:=by rfl):PA X (e::es) (zaz te t):=by
 intro pos pins s σ H Q I h;rw[hs];show yn _ _ (spliced ((false,yW e X.env)::yZ pos (yf es X.env))) _ _ s;refine Calls.spliced_cons (thn (ha pins s σ H _ I h) fun u s1 ⟨x,H1,I1,r1,q1⟩=>?_);exact thn (hr pos pins s1 σ H1 _ I1 q1) fun us s2 ⟨xs,H2,I2,r2,q2⟩=>⟨x::xs,H2,I2, .cons r1 r2,q2⟩
def zcA(t:TA):TE:=fun σ H Q=>t σ H fun xs H1=>xs.length<=yB/\∀p,H1 p=none->Q (.ref p) (upd H1 p (.tup xs))
def z9z(t:TA):TE:=fun σ H Q=>t σ H fun xs H1=>xs.length<=yB/\∀p,H1 p=none->Q (.ref p) (upd H1 p (.lst xs))
def zoy{x1}(h:PA X es t):PE X (.Tuple es x1 pos) (zcA t):=by
 intro pins s σ H Q I hq;refine wpAny_Tuple_spliced (thn (h pos pins s σ H _ I hq) fun us s1 ⟨xs,H1,I1,r,z,q⟩=>⟨by rw[<-r.length];exact z,?_⟩);have hf:H1 s1.heap.objs.size=none:=I1.hok.fresh (yi _);refine⟨.ref s1.heap.objs.size,upd H1 s1.heap.objs.size (.tup xs),I1.laid (t':=s1.toks) (fun b u e=>yd _ e) (yi _) ?_,rfl,q _ hf⟩;exact⟨z,us,r,⟨_,yo _ rfl,rfl,_,rfl⟩⟩
def zEy(h:PA X es t):PE X (.List es pos) (z9z t):=by
 intro pins s σ H Q I hq;refine wpAny_List_spliced (thn (h pos pins s σ H _ I hq) fun us s1 ⟨xs,H1,I1,r,z,q⟩=>⟨by rw[<-r.length];exact z,?_⟩);have hf:H1 s1.heap.objs.size=none:=I1.hok.fresh (yi _);refine⟨.ref s1.heap.objs.size,upd H1 s1.heap.objs.size (.lst xs),I1.laid (t':=s1.toks) (fun b u e=>yd _ e) (yi _) ?_,rfl,q _ hf⟩;exact⟨z,us,0,r,yo _ rfl⟩
end
abbrev Sp:=List V->Hp->VK->XK->Prop
abbrev CXT:=List Env->Hp->yb->XK->Value->yb->Prop
structure Env0(P:yw)(w:yF)(K:yu)(mg:Str->Option Value)(base:yP)(A:yH)(outer:List Env)(s:yb)(H:Hp):Prop where
 frames:A.frames=some outer
 mod:Mod K mg base
 bs:∀b o,base.get? b=some o->s.heap.get? b=some o/\H b=none
 bsz:base.objs.size<=s.heap.objs.size
 funs:s.heap.FunFrames base outer
 frf:∀b∈frs outer,H b=none
 hok:HOk P w H s.heap
 bare:AllBare s.gens
def CE(outer:List Env)(P:yw)(w:yF)(H:Hp)(s:yb)(Q:VK)(u:Value)(s':yb):Prop :=
 ∃v H',s'.os=s.os/\AllBare s'.gens/\Un (frs outer) [] H H' s.heap s'.heap/\HOk P w H' s'.heap/\RelV v u/\Q v H'
def CR(CX:CXT)(outer:List Env)(P:yw)(w:yF)(H:Hp)(s:yb)(Q:VK)(E:XK)(r:Result)(s':yb):Prop :=
 match r with
 |.ok (.ret u)=>CE outer P w H s Q u s'
 |.ok _=>False
 |.error e=>CX outer H s E e s'
structure FnOk(P:yw)(w:yF)(K:yu)(mg:Str->Option Value)(base:yP)(CX:CXT)(k:Nat)(f:Addr)(fd:yg)(ps:List Str)(sp:Sp):Prop where
 len:∀vs H Q E,sp vs H Q E->vs.length=ps.length
 run:∀(A:yH)(outer:List Env)(s:yb)(H:Hp)(args:Args)(us:List Value)(vs:List V)(Q:VK)(E:XK),Room k A->Env0 P w K mg base A outer s H->BindsTo s fd args (ps.zip us)->Vals vs us->sp vs H Q E ->
  Xc (yr P w) A (.call (.ref f) args) (CR CX outer P w H s Q E) s
def Env0.make{P:yw}{w:yF}{K:yu}{mg:Str->Option Value}{base:yP}{A:yH}{outer:List Env}{s:yb}{H:Hp}(e:Env0 P w K mg base A outer s H)(C:Addr)(us:List Value)(kw:List (Str×Value)) :
 Env0 P w K mg base (A.under (.builtin "type.__call__" ⟨.ref C::us,kw⟩)) outer s H:=⟨by first | exact e.frames | (simpa[Around.under,Code.envs,Code.isFrame,pushEnvs] using e.frames),e.mod,e.bs,e.bsz,e.funs,e.frf,e.hok,e.bare⟩
section
variable {X:Cx}{pins:List (Addr×YN)}{σ:St}{H:Hp}{s s':yb}
def Inv.env0(I:Inv X pins σ H s):Env0 X.prog X.w X.K X.mg X.base X.A X.stack s H :=
 ⟨I.ok.frames,I.ok.mod,I.bs,yC I.ok.bsz I.sz,I.stack,I.stkFree,I.hok,I.bare⟩
def Inv.after{Q:VK}{u:Value}(I:Inv X pins σ H s)(h:CE X.stack X.prog X.w H s Q u s'):EP X pins σ Q u s':=by
 obtain⟨v,H',os,bare,un,hok,r,q⟩:=h;obtain⟨hh,g,d,t,os'⟩:=s';obtain rfl:os'=s.os:=os;exact⟨v,H',I.call (h':=hh) (g':=g) (d':=d) (t':=t) (ch:=[]) un hok bare (fun b z=>absurd z (by simp)),r,q⟩
end
def zeq(sp:Sp)(dvs:List V)(E:XK)(t:TA):TE:=fun σ H Q=>t σ H fun vs H1=>sp (vs++dvs) H1 Q E
def zDw(C:Addr)(m:Str)(sp:Sp)(dvs:List V)(E:XK)(ta:TE)(t:TA):TE:=fun σ H Q=>ta σ H fun x H1=>∃a dx fs,x = .ref a/\H1 a=some (.ins C dx fs)/\fs.lookup m=none /\
 t σ H1 fun vs H2=>sp (x::(vs++dvs)) H2 Q E
def z4y(C:Addr)(sp:Sp)(dvs:List V)(E:XK)(t:TA):TE:=fun σ H Q=>t σ H fun vs H1=>∀x dx,H1 x=none->H1 dx=none->dx≠x ->
 sp (.ref x::(vs++dvs)) (upd (upd H1 dx (.own x)) x (.ins C dx [])) (fun v H2=>v = .non/\Q (.ref x) H2) E
def Binds(K:yu)(fd:yg)(ps:List Str)(ds:List Value):Prop :=
 ∀(s:yb)(us:List Value),K.In s.heap->(us++ds).length=ps.length->BindsTo s fd ⟨us,[]⟩ (ps.zip (us++ds))
def Binds.all{K:yu}{fd:yg}{ps:List Str}(h:∀us:List Value,us.length=ps.length->bindArgs fd ⟨us,[]⟩=pure (ps.zip us)):Binds K fd ps []:=fun s us _ hl=>by
 rw[append_nil]at hl ⊢;exact .of_eq (h us hl)
def zHg(CX:CXT)(X:Cx)(E:XK):Prop:=∀(pins:List (Addr×YN)) (σ:St) (H:Hp) (s:yb) (e:Value) (s':yb),Inv X pins σ H s->CX X.stack H s E e s'->X.xe e s'
section
variable {X:Cx}{CX:CXT}{k:Nat}{f C:Addr}{fd:yg}{ps:List Str}{sp:Sp}{dvs:List V}{ds:List Value}{E:XK}{x m:Str}{p pos apos:xp}{e o:Expr}{es:List Expr}{ta:TE}{t:TA}
def zOr{pins:List (Addr×YN)}{σ:St}{H:Hp}{s:yb}{Q:VK}{us:List Value}{vs:List V}(F:FnOk X.prog X.w X.K X.mg X.base CX k f fd ps sp)(hr:Room k X.A)(hb:Binds X.K fd ps ds)(hd:Vals dvs ds)(hx:zHg CX X E)
 (I:Inv X pins σ H s) (r:Vals vs us) (h:sp (vs++dvs) H Q E):yn (yr X.prog X.w) X.A (call (.ref f) us) (EP X pins σ Q) X.xe s:=by
 have r2:Vals (vs++dvs) (us++ds):=r.append hd;have hl:(us++ds).length=ps.length:=by rw[<-r2.length];exact F.len _ _ _ _ h
 refine wpAny_call (YR (F.run X.A X.stack s H ⟨us,[]⟩ (us++ds) (vs++dvs) Q E hr I.env0 (hb s us I.kIn hl) r2 h) fun r s' hq=>?_)
 cases r with
 |error e=>exact hx pins σ H s e s' I hq
 |ok fl=>
  cases fl with
  |ret u=>exact I.after hq
  |next=>exact Yt hq
  |brk=>exact Yt hq
  |cont=>exact Yt hq
def zQw(F:FnOk X.prog X.w X.K X.mg X.base CX k f fd ps sp)(hr:Room k X.A)(hg:Gl X x)(hm:X.mg x=some (.ref f))(hk:W.keepIn X.K (.ref f)=true)(hb:Binds X.K fd ps ds)(hd:Vals dvs ds)(hx:zHg CX X E)
 (ha:PA X (e::es) t) (hdb:(x==("__debug__":Str))=false:=by decide) (he:yf (e::es) X.env=(false,yW e X.env)::yf es X.env:=by rfl) (hpl:(yZ pos (yf es X.env)).any (·.1)=false:=by rfl) :
 PE X (.Call (.Name x p) (e::es) [] pos) (zeq sp dvs E t):=by
 intro pins s σ H Q I h;refine xr (zTg I hg hm ?_ hdb);refine W.callWith_K (h₀:=X.base) I.ok.mod.kin hk (thn (ha pos pins s σ H _ I h) fun us s1 ⟨vs,H1,I1,r,q⟩=>⟨I1.kIn,?_⟩) he hpl;exact zOr F hr hb hd hx I1 r q
def zsv{pl:Sem Bool}(he:PE X o ta)(c:Cls X.K C)(hm:Meth X.K C m f)(F:FnOk X.prog X.w X.K X.mg X.base CX k f fd ps sp)(hr:Room k X.A)(hb:Binds X.K fd ps ds)(hd:Vals dvs ds)(hx:zHg CX X E)(ha:PA X (e::es) t)
 (hst:yf (e::es) X.env=(false,yW e X.env)::yf es X.env:=by rfl) (hpl:(yZ pos (yf es X.env)).any (·.1)=false:=by rfl)
 (ht:yW (.Call (.Attribute o m apos) (e::es) [] pos) X.env=(do
  let ov <-yW o X.env
  standAt apos.atName
  let (f,first) <-xC [ov] (getMethod ov m pl)
  callWith pos f first (yZ pos (yf (e::es) X.env)) (xt pos (YA [] X.env))):=by rfl) :
 PE X (.Call (.Attribute o m apos) (e::es) [] pos) (zDw C m sp dvs E ta t):=by
 intro pins s σ H Q I h;refine W.methodCall_KW (pl:=pl) (thn (he pins s σ H _ I h) fun u s1 ⟨x,H1,I1,rx,a,dx,fs,ex,ea,l,q⟩=>?_) ht;subst ex;obtain rfl:u=yD a:=rx;refine z7h I1 ea c hm l ?_;refine W.callWith_K (first:=[.ref a]) (h₀:=X.base) I.ok.mod.kin hm.kp (thn (ha pos pins s1 σ H1 _ I1 q) fun us s2 ⟨vs,H2,I2,r,q2⟩=>⟨I2.kIn,?_⟩) hst hpl;exact zOr (us := .ref a::us) (vs := .ref a::vs) F hr hb hd hx I2 (.cons rfl r) q2
def zBt{pl:Sem Bool}(he:PE X o ta)(c:Cls X.K C)(hm:Meth X.K C m f)(F:FnOk X.prog X.w X.K X.mg X.base CX k f fd ps sp)(hr:Room k X.A)(hb:Binds X.K fd ps ds)(hd:Vals dvs ds)(hx:zHg CX X E)
 (ht:yW (.Call (.Attribute o m apos) [] [] pos) X.env=(do
  let ov <-yW o X.env
  standAt apos.atName
  let (f,first) <-xC [ov] (getMethod ov m pl)
  callWith pos f first (yZ pos (yf [] X.env)) (xt pos (YA [] X.env))):=by rfl) :
 PE X (.Call (.Attribute o m apos) [] [] pos) (zDw C m sp dvs E ta zGz):=by
 intro pins s σ H Q I h;refine W.methodCall_KW (pl:=pl) (thn (he pins s σ H _ I h) fun u s1 ⟨x,H1,I1,rx,a,dx,fs,ex,ea,l,q⟩=>?_) ht;subst ex;obtain rfl:u=yD a:=rx;refine z7h I1 ea c hm l ?_;exact W.callWith_K0 (first:=[.ref a]) I1.kIn hm.kp (zOr (us:=[.ref a]) (vs:=[.ref a]) F hr hb hd hx I1 (.cons rfl .nil) q)
structure Mk(K:yu)(C f:Addr):Prop where
 makes:W.makesIn K C=true
 init:Ye K (.ref C) "__init__" = some (some (.ref f))
 fn:W.isFn K (.ref f)=true
 kp:W.keepIn K (.ref C)=true
def zvt{pins:List (Addr×YN)}{σ:St}{H:Hp}{s:yb}{Q:VK}{us:List Value}{vs:List V}(M:Mk X.K C f)(F:FnOk X.prog X.w X.K X.mg X.base CX k f fd ps sp)(hr:Room (k+1) X.A)(hb:Binds X.K fd ps ds)(hd:Vals dvs ds)
 (hx:zHg CX X E) (I:Inv X pins σ H s) (r:Vals vs us)
 (h:∀x dx,H x=none->H dx=none->dx≠x->sp (.ref x::(vs++dvs)) (upd (upd H dx (.own x)) x (.ins C dx [])) (fun v H2=>v = .non/\Q (.ref x) H2) E) :
 yn (yr X.prog X.w) X.A (call (.ref C) us) (EP X pins σ Q) X.xe s:=by
 have hq:=h (s.heap.objs.size+1) s.heap.objs.size (I.hok.fresh (xD _)) (I.hok.fresh (yi _)) (yz (Yq _));have I2:=Inv.made (C:=C) I;have r2:Vals (V.ref (s.heap.objs.size+1)::(vs++dvs)) (yD (s.heap.objs.size+1)::(us++ds)) := .cons rfl (r.append hd)
 have hl:(yD (s.heap.objs.size+1)::us++ds).length=ps.length:=by
  have e:=r2.length;rw[F.len _ _ _ _ hq]at e;exact e.symm
 refine wpAny_call (zRt (f:=f) I.kIn M.makes M.init (beq_iff_eq.mp M.fn) (YR (F.run _ X.stack _ _ ⟨yD (s.heap.objs.size+1)::us,[]⟩ (yD (s.heap.objs.size+1)::(us++ds)) _ _ E (hr.make C us [])
  (I2.env0.make C us []) (hb _ (yD (s.heap.objs.size+1)::us) I2.kIn hl) r2 hq) fun r s' hq'=>?_))
 cases r with
 |error e=>exact hx pins σ _ _ e s' I2 hq'
 |ok fl=>
  cases fl with
  |ret u=>
   obtain⟨v,H',I3,rv,ev,q3⟩:=I2.after hq';subst ev;exact⟨rv,⟨V.ref (s.heap.objs.size+1),H',I3,rfl,q3⟩⟩
  |next=>exact Yt hq'
  |brk=>exact Yt hq'
  |cont=>exact Yt hq'
def zMv(M:Mk X.K C f)(F:FnOk X.prog X.w X.K X.mg X.base CX k f fd ps sp)(hr:Room (k+1) X.A)(hg:Gl X x)(hm:X.mg x=some (.ref C))(hb:Binds X.K fd ps ds)(hd:Vals dvs ds)(hx:zHg CX X E)
 (ha:PA X (e::es) t) (hdb:(x==("__debug__":Str))=false:=by decide) (he:yf (e::es) X.env=(false,yW e X.env)::yf es X.env:=by rfl) (hpl:(yZ pos (yf es X.env)).any (·.1)=false:=by rfl) :
 PE X (.Call (.Name x p) (e::es) [] pos) (z4y C sp dvs E t):=by
 intro pins s σ H Q I h;refine xr (zTg I hg hm ?_ hdb);refine W.callWith_K (h₀:=X.base) I.ok.mod.kin M.kp (thn (ha pos pins s σ H _ I h) fun us s1 ⟨vs,H1,I1,r,q⟩=>⟨I1.kIn,?_⟩) he hpl;exact zvt M F hr hb hd hx I1 r q
end
section
variable {X:Cx}{CX:CXT}{k:Nat}{f C:Addr}{fd:yg}{ps ks:List Str}{sp:Sp}{E:XK}{x m:Str}{p pos apos kpos:xp}{e o:Expr}{es:List Expr}{kws:List xj}{te ta:TE}{t tk:TA}{nm:Option Str}
structure KBinds(K:yu)(fd:yg)(ps ks:List Str)(g:List Value->List Value->List Value)(gV:List V->List V->List V):Prop where
 to:∀(s:yb)(us ws:List Value),K.In s.heap->(g us ws).length=ps.length->BindsTo s fd ⟨us,ks.zip ws⟩ (ps.zip (g us ws))
 rel:∀{vs:List V} {us:List Value} {zs:List V} {ws:List Value},Vals vs us->Vals zs ws->Vals (gV vs zs) (g us ws)
variable {g:List Value->List Value->List Value}{gV:List V->List V->List V}
end
structure FnScope(N P:List Str)(sc:Xb):Prop where
 kind:sc.kind = .function
 co:sc.isCoroutine=false
 gen:sc.isGenerator=false
 nd:N.Nodup
 pre:N.take P.length=P
 par:∀x∈P,sc.names.lookup x=some .local\/sc.names.lookup x=some .cell
 nofree:∀y∈sc.names,y.2≠.free
def z8m{kindOf:Str->Option xh}{x:Str}:∀{binds:List (Str×Value)} {m:Str->Option Value},(∀v,(x,v)∉binds)->bindL kindOf binds m x=m x
 |[],_,_=>rfl
 |(n,v)::r,m,h=>by
  unfold bindL;rw[z8m fun w hw=>h w (mem_cons_of_mem _ hw)]
  split
  ·have:x≠n:=by rintro rfl;exact h v mem_cons_self
   simp[this]
  ·rfl
def zNm{kindOf:Str->Option xh}{x:Str}:∀{binds:List (Str×Value)} {m:Str->Option Value},(∀v,(x,v)∉binds)->bindC kindOf binds m x=m x
 |[],_,_=>rfl
 |(n,v)::r,m,h=>by
  unfold bindC;rw[zNm fun w hw=>h w (mem_cons_of_mem _ hw)]
  split
  ·rfl
  ·have:x≠n:=by rintro rfl;exact h v mem_cons_self
   simp[this]
def zen{kindOf:Str->Option xh}{x:Str}{v:Value}:∀{P:List Str} {vs:List Value} {i:Nat} {m:Str->Option Value},P.Nodup->P[i]?=some x->vs[i]?=some v->kindOf x=some .local ->
 bindL kindOf (P.zip vs) m x=some v
 |[],_,_,_,_,h,_,_=>by simp at h
 |_::_,[],_,_,_,_,h,_=>by simp at h
 |p::P,w::vs,0,m,nd,h1,h2,hk=>by
  simp at h1 h2;subst h1;subst h2;show bindL kindOf ((p,w)::P.zip vs) m p=_;unfold bindL;rw[z8m fun v hv=>(List.nodup_cons.mp nd).1 (of_mem_zip hv).1,if_pos hk];simp
 |p::P,w::vs,i+1,m,nd,h1,h2,hk=>by
  show bindL kindOf ((p,w)::P.zip vs) m x=_;unfold bindL;exact zen (i:=i) (List.nodup_cons.mp nd).2 (by simpa using h1) (by simpa using h2) hk
def zsn{kindOf:Str->Option xh}{x:Str}{v:Value}:∀{P:List Str} {vs:List Value} {i:Nat} {m:Str->Option Value},P.Nodup->P[i]?=some x->vs[i]?=some v->kindOf x≠some .local ->
 bindC kindOf (P.zip vs) m x=some v
 |[],_,_,_,_,h,_,_=>by simp at h
 |_::_,[],_,_,_,_,h,_=>by simp at h
 |p::P,w::vs,0,m,nd,h1,h2,hk=>by
  simp at h1 h2;subst h1;subst h2;show bindC kindOf ((p,w)::P.zip vs) m p=_;unfold bindC;rw[zNm fun v hv=>(List.nodup_cons.mp nd).1 (of_mem_zip hv).1,if_neg hk];simp
 |p::P,w::vs,i+1,m,nd,h1,h2,hk=>by
  show bindC kindOf ((p,w)::P.zip vs) m x=_;unfold bindC;exact zsn (i:=i) (List.nodup_cons.mp nd).2 (by simpa using h1) (by simpa using h2) hk
def start(N:List Str)(vs:List V):St:=vs.map some++yA (N.length-vs.length) none
def z0s(CX:CXT)(P:yw)(w:yF)(K:yu)(mg:Str->Option Value)(base:yP)(N:List Str)(qual:Str)(scope:Xb)(f:Addr)(cd:Value)(A:yH)(outer:List Env)(s:yb)(H:Hp)(E:XK):Cx where
 prog:=P
 w:=w
 K:=K
 mg:=mg
 base:=base
 A:=A.deeper (envOfC qual scope s.heap.objs.size f cd)
 N:=N
 s₀:=s
 H₀:=H
 env:=envOfC qual scope s.heap.objs.size f cd
 outer:=outer
 stack:=envOfC qual scope s.heap.objs.size f cd::outer
 ex:=[]
 calm:=true
 fn:=fun _=>true
 pn:=[]
 xe:=fun e s'=>yn (yr P w) (A.deeper (envOfC qual scope s.heap.objs.size f cd)) (leaving (envOfC qual scope s.heap.objs.size f cd) e) (fun _ s''=>CX outer H s E e s'') (fun e' s''=>CX outer H s E e' s'') s'
def zYo{sc:Xb}{n:Nat}{x:Str}(h:sc.names.lookup x=some .cell):∃c,(Yj n sc.names []).lookup x=some c:=by
 have q:=W.cellsFrom_some sc.names n [] (.inl h);exact Option.isSome_iff_exists.mp q
def zsr{CX:CXT}{P:yw}{w:yF}{K:yu}{mg:Str->Option Value}{base:yP}{N ps:List Str}{qual:Str}{scope:Xb}{f:Addr}{cd:Value}{A:yH}{outer:List Env}{s s1:yb}{H:Hp}{E:XK}{us:List Value}{vs:List V}
 (S:FnScope N ps scope) (hd:A.handled=none) (e0:Env0 P w K mg base A outer s H) (hl:vs.length=ps.length) (r:Vals vs us)
 (x:InCallC s s.heap.objs.size (bindL (envOfC qual scope s.heap.objs.size f cd).kindOf (ps.zip us) fun _=>none) (Yj (s.heap.objs.size+1) scope.names []) (bindC (envOfC qual scope s.heap.objs.size f cd).kindOf (ps.zip us) fun _=>none) s1) :
 Inv (z0s CX P w K mg base N qual scope f cd A outer s H E) [] (start N vs) H s1:=by
 have hpl:ps.length<=N.length:=by have:=congrArg List.length S.pre;rw[length_take]at this;omega
 obtain⟨h1,tk,rfl,hk⟩:=x.done;have noA:∀b:Addr,b∉(z0s CX P w K mg base N qual scope f cd A outer s H E).ex:=fun b z=>absurd (show b∈([]:List Addr) from z) (by simp)
 refine⟨⟨e0.mod,S.kind,rfl,rfl,yi _,fun y z c h1 h2=>?_,fun y hy=>?_,fun y c _ h=>?_,fun _=>hd,Around.frames_deeper e0.frames, .inr ⟨rfl,rfl⟩,fun b z=>absurd z (noA b),e0.bs,e0.bsz,fun b _ _=>noA b,fun b z=>absurd z (noA b),e0.funs,e0.frf⟩,
  rfl,e0.bare,Un.kept hk,⟨_,x.toInCall.ns,fun i y v h1 h2 h3=>?_⟩,fun y c h=>⟨_,x.cell y c h⟩,e0.hok.fresh (yi _),fun y c h=>?_,fun p hp=>absurd (show p∈([]:List (Addr×YN)) from hp) (by simp),e0.hok.kept hk,?_⟩
 ·exact name_of_addr x.apart (yX h1) (yX h2)
 ·have hy:scope.names.lookup y=some .cell\/scope.names.lookup y=some .free:=hy;rcases hy with hy | hy
  ·exact zYo hy
  ·exact absurd rfl (S.nofree _ (yX hy))
 ·exact YI (x.above y c (yX h))
 ·have hi:i<vs.length:=by
   unfold start at h2
   by_cases hi:i<vs.length
   ·exact hi
   ·rw[yK (by simpa using hi)]at h2;rw[YK]at h2
    split at h2<;>cases h2
  have ha:vs[i]?=some v:=by
   unfold start at h2;rw[yq (by simpa using hi),yh]at h2
   cases e:vs[i]? with
   |none=>rw[e]at h2;cases h2
   |some a=>rw[e]at h2;cases h2;rfl
  obtain⟨u,hu,rv⟩:=r.get ha
  have hp:ps[i]?=some y:=by
   rw[<-S.pre,List.getElem?_take_of_lt (by omega)];exact h1
  have ndP:ps.Nodup:=by rw[<-S.pre];exact S.nd.sublist (List.take_sublist _ _)
  refine⟨u,rv,?_⟩;rcases S.par y (mem_of_getElem? hp) with k | k
  ·exact .inl ⟨k,zen ndP hp hu k⟩
  ·obtain⟨c,e⟩:=zYo (n:=s.heap.objs.size+1) k;refine .inr ⟨.inl k,c,e,?_⟩;have q:=x.cell y c e;rw[zsn ndP hp hu (by show scope.names.lookup y≠_;rw[k];decide)]at q;exact q
 ·exact e0.hok.fresh (YI (x.above y c (yX h)))
 ·unfold start;show _=N.length;rw[length_append,length_map,xX];omega
def zdx{CX:CXT}{P:yw}{w:yF}{K:yu}{mg:Str->Option Value}{base:yP}{k:Nat}{f:Addr}{name qual:Str}{params:Arguments}{body:List Stmt}{scope:Xb}{dV kV doc pm cdv ct oc:Value}{an od:Option Addr}
 {osl:Array (Option Value)} {N ps:List Str} {sp:Sp} (lk:K.lookup f=some ⟨oc,od, .func (W.fnOf name qual params body scope dV kV doc pm an cdv ct),osl⟩) (hcd:W.codeIn K cdv qual=true) (S:FnScope N ps scope)
 (len:∀vs H Q E,sp vs H Q E->vs.length=ps.length)
 (hbody:∀(A:yH)(outer:List Env)(s:yb)(H:Hp)(vs:List V)(Q:VK)(E:XK),Room k (A.deeper (envOfC qual scope s.heap.objs.size f cdv))->sp vs H Q E ->
  ∃t,PSs (z0s CX P w K mg base N qual scope f cdv A outer s H E) body t/\t {nx:=fun _ H'=>Q .non H',rt:=Q } (start N vs) H) :
 FnOk P w K mg base CX (k+1) f (W.fnOf name qual params body scope dV kV doc pm an cdv ct) ps sp:=by
 refine⟨len,fun A outer s H args us vs Q E hr e0 hb r hsp=>?_⟩;have hl:=len _ _ _ _ hsp;have KX:K.In s.heap:=e0.mod.kin.keeps fun b o e=>(e0.bs b o e).1;have lim:s.heap.NoLimit:=e0.mod.nolimit.keeps fun b o e=>(e0.bs b o e).1
 have hkind:∀y∈ps.zip us,scope.names.lookup y.1=some .local\/(scope.names.lookup y.1=some .cell/\((Yj (s.heap.objs.size+1) scope.names []).lookup y.1).isSome=true):=fun⟨n,v⟩ hy=>by
  rcases S.par n (of_mem_zip hy).1 with q | q
  ·exact .inl q
  ·exact .inr ⟨q,W.cellsFrom_some _ _ _ (.inl q)⟩
 refine codeAny_call_function hr.depth (KX _ _ lk) rfl S.co S.gen rfl (W.codeRec_of KX hcd) (hb _ _ _ _ ?_);refine wpAny_newFunctionEnv_cells S.kind hkind fun env he s1 x=>?_;subst he;refine⟨lim.keeps x.toInCall.keep,codeAny_func ?_⟩;obtain⟨t,ht,hq⟩:=hbody A outer s H vs Q E (hr.deeper _) hsp;have I:Inv (z0s CX P w K mg base N qual scope f cdv A outer s H E) [] (start N vs) H s1:=zsr S hr.hd e0 hl r x;refine yR (ht [] s1 (start N vs) H _ I hq) (fun fl s' hs=>?_) fun e s' hs=>hs
 have fin:∀{σ':St} {H':Hp} {v:V} {u:Value},Inv (z0s CX P w K mg base N qual scope f cdv A outer s H E) [] σ' H' s'->RelV v u->Q v H'->CE outer P w H s Q u s' :=
  fun{σ' H' v u} J rv q=>⟨v,H',J.os,J.bare,J.base,J.hok,rv,q⟩
 cases fl with
 |ret u=>
  obtain⟨v,σ',H',J,rv,q⟩:=hs;exact fin J rv q
 |next=>
  obtain⟨σ',H',J,q⟩:=hs;exact fin (v:=V.non) (u:=Yi) J rfl q
 |brk=>
  obtain⟨_,_,_,q⟩:=hs;exact Yt q
 |cont=>
  obtain⟨_,_,_,q⟩:=hs;exact Yt q
section
variable {X:Cx}{x:Str}{p pos:xp}{e:Expr}{es:List Expr}{t:TA}{id T:String}{r:List V->Hp->VK->Prop}
def tCB(r:List V->Hp->VK->Prop)(t:TA):TE:=fun σ H Q=>t σ H fun vs H1=>r vs H1 Q
def zJp(hc:zSk X (.builtin id) r)(hg:Gl X x)(hm:X.mg x=none)(hv:yQ x=some (.builtin id))(ha:PA X (e::es) t)(hn:x≠"__name__":=by decide)(hdb:(x==("__debug__":Str))=false:=by decide)
 (he:yf (e::es) X.env=(false,yW e X.env)::yf es X.env:=by rfl) (hpl:(yZ pos (yf es X.env)).any (·.1)=false:=by rfl):PE X (.Call (.Name x p) (e::es) [] pos) (tCB r t):=by
 intro pins s σ H Q I h;refine xr (zfl I hg hm hv ?_ hn hdb);exact PyProof.Rows.callWith_builtin1 (thn (ha pos pins s σ H _ I h) fun us s1 ⟨vs,H1,I1,r1,q1⟩=>hc pins s1 σ H1 vs us Q I1 r1 q1) he hpl
def z7f(hc:zSk X (.type T) r)(hg:Gl X x)(hm:X.mg x=none)(hv:yQ x=some (.type T))(ha:PA X (e::es) t)(hn:x≠"__name__":=by decide)(hdb:(x==("__debug__":Str))=false:=by decide)
 (he:yf (e::es) X.env=(false,yW e X.env)::yf es X.env:=by rfl) (hpl:(yZ pos (yf es X.env)).any (·.1)=false:=by rfl):PE X (.Call (.Name x p) (e::es) [] pos) (tCB r t):=by
 intro pins s σ H Q I h;refine xr (zfl I hg hm hv ?_ hn hdb);exact YM (thn (ha pos pins s σ H _ I h) fun us s1 ⟨vs,H1,I1,r1,q1⟩=>hc pins s1 σ H1 vs us Q I1 r1 q1) he hpl
end
end L2
namespace HT
open PySem PyProof.Rows
section
open PySem.SeqAt
open PySem.AutoSeq1 (wpAny_loadPart')
open PySem.MeetsSeq PySem.MeetsSeq2 PySem.MeetsSeq3
end
section
variable {prog:yw}{w:yF}{A:yH}{E:Value->yb->Prop}{s:yb}
def cat_tup{t b:Addr}{vs ws:List Value}{Q:Value->yb->Prop}(ht:IsTup s.heap t vs.toArray)(hb:IsTup s.heap b ws.toArray)(hv:vs≠[])
 (h1:ws=[]->Q (.ref t) s) (h2:ws≠[]->Q (.ref s.heap.objs.size) {s with heap:=s.heap.push {cls := .type "tuple",data := .seq (vs++ws).toArray }})
 (hsz:vs.length+ws.length<=yB):yn (yr prog w) A (xq .Add (.ref t) (.ref b)) Q E s:=by
 obtain⟨⟨cls,dd,data,sl⟩,ho,hc,n,hd⟩:=id ht;obtain⟨⟨cls2,dd2,data2,sl2⟩,ho2,hc2,n2,hd2⟩:=id hb;simp only at hc hd hc2 hd2;subst hc hd hc2 hd2;have e:vs.toArray++ws.toArray=(vs++ws).toArray:=by simp
 by_cases hw:ws=[]
 ·exact concat_meets ⟨_,ho,rfl⟩ ⟨_,ho2,rfl⟩ noFill_tuple_add seq_tuple_add PySem.F.slot_tuple_add PySem.F.entry_tuple_add (PySem.F.args_tuple_add_2 _ _)
   (tuple_addW1 t b vs.toArray ws.toArray n n2 dd dd2 sl sl2 (by simpa using hv) (by simp[hw])) ⟨ho,ho2,h1 hw⟩
 ·refine concat_meets ⟨_,ho,rfl⟩ ⟨_,ho2,rfl⟩ noFill_tuple_add seq_tuple_add PySem.F.slot_tuple_add PySem.F.entry_tuple_add (PySem.F.args_tuple_add_2 _ _)
   (tuple_addW2 t b vs.toArray ws.toArray n n2 dd dd2 sl sl2 (by simpa using hv) (by simpa using hw) (by rw[size_toArray,size_toArray];exact hsz)) ⟨ho,ho2,?_⟩
  rw[e];exact h2 hw
def sIx(n d:Nat):Option Int->Nat
 |none=>d
 |some v=>if v<0 then(v+(n:Int)).toNat else min v.toNat n
def sIx_none(n d:Nat):sIx n d none=d:=rfl
def sIx_nat(n d k:Nat):sIx n d (some (k:Int))=min k n:=by
 show(if(k:Int)<0 then((k:Int)+(n:Int)).toNat else min (k:Int).toNat n)=min k n;rw[if_neg (by omega),Ym]
def zkx(n d:Nat)(hd:d<=n)(o:Option Int):sIx n d o<=n:=by
 cases o with
 |none=>exact hd
 |some v=>
  show(if v<0 then(v+(n:Int)).toNat else min v.toNat n)<=n
  by_cases hv:v<0
  ·rw[if_pos hv];omega
  ·rw[if_neg hv];exact Nat.min_le_right _ _
def zUs(v:Int)(n d:Nat):(if v<0 then max (v+(n:Int)) 0 else min v (n:Int))=((sIx n d (some v):Nat):Int):=by
 show(if v<0 then max (v+(n:Int)) 0 else min v (n:Int))=(((if v<0 then(v+(n:Int)).toNat else min v.toNat n):Nat):Int)
 by_cases hv:v<0
 ·simp only[if_pos hv];omega
 ·simp only[if_neg hv];omega
def zXq(lo hi:Option Int)(n:Nat):Builtin.Slice.sliceAdjust lo hi 1 (n:Int)=(((sIx n 0 lo:Nat):Int),((sIx n n hi:Nat):Int)):=by
 have h1:¬((1:Int)<0):=by omega
 unfold Builtin.Slice.sliceAdjust;simp only[h1,if_false];refine Prod.ext ?_ ?_
 ·cases lo with
  |none=>rfl
  |some v=>exact zUs v n 0
 ·cases hi with
  |none=>rfl
  |some v=>exact zUs v n n
def zAq(i j:Nat):xz (i:Int) (j:Int) 1=j-i:=by
 unfold xz;have h1:(1:Int)>0:=by omega
 simp only[h1,if_true,Int.ediv_one]
 split<;>omega
def zvl{v:Value}{o:Option Int}{Q:Option Int->yb->Prop}(p:IsPart v o)(h:Q o s):yn (yr prog w) A (Builtin.Slice.slicePartIndex v) Q E s:=by
 cases p with
 |none=>exact slicePart_none h
 |int i t=>exact slicePart_int h
def sliceApplied_gen{sl:Addr}{vl vu:Value}{lo hi:Option Int}{n:Nat}{Q:Int×Int×Nat->yb->Prop}(hs:s.heap.IsSliceOf sl vl vu .none)(pl:IsPart vl lo)(pu:IsPart vu hi)
 (h:Q (((sIx n 0 lo:Nat):Int),1,sIx n n hi-sIx n 0 lo) s):yn (yr prog w) A (Builtin.Slice.sliceApplied (.ref sl) (pure (n:Int))) Q E s:=by
 obtain⟨os,hos,hcs,hds⟩:=id hs;unfold Builtin.Slice.sliceApplied Builtin.Slice.sliceFields;refine ya (ya (YB hos hds (x:=vl) rfl (ya (YB hos hds (x:=vu) rfl (ya (YB hos hds (x := .none) rfl (ye ?_)))))));refine ya (slicePart_none ?_);show yn _ _ (if((1:Int)==0)=true then _ else _) _ _ s;rw[if_neg (by decide)];refine ya (zvl pl (ya (zvl pu (ya (ye ?_)))));show yn _ _ (match Builtin.Slice.sliceAdjust lo hi 1 (n:Int) with | (lo,hi)=>pure (lo,(1:Int),xz lo hi 1)) _ _ s;rw[zXq lo hi n];show yn _ _ (pure (((sIx n 0 lo:Nat):Int),(1:Int),xz ((sIx n 0 lo:Nat):Int) ((sIx n n hi:Nat):Int) 1)) _ _ s;rw[zAq];exact ye h
def z8t(xs:Array Value)(i k:Nat):((yy k).filterMap fun(m:Nat)=>xs[((i:Int)+(m:Int)*1).toNat]?).toArray=((xs.toList.drop i).take k).toArray:=by
 have e:(fun(m:Nat)=>xs[((i:Int)+(m:Int)*1).toNat]?)=fun m=>xs[i+m]?:=by
  funext m
  have:((i:Int)+(m:Int)*1).toNat=i+m:=by omega
  rw[this]
 rw[e];have:=pick_run xs i k;rw[List.filterMap_map]at this;have e2:((fun x=>xs[x]?)∘fun x=>i+x)=fun m=>xs[i+m]?:=rfl;rw[e2]at this;rw[this]
def getItem_tuple_cut{t sl:Addr}{items:Array Value}{vl vu:Value}{lo hi:Option Int}{Q:Value->yb->Prop}(ht:IsTup s.heap t items)(hs:s.heap.IsSliceOf sl vl vu .none)(pl:IsPart vl lo)(pu:IsPart vu hi)
 (hw:¬(sIx items.size 0 lo=0/\sIx items.size items.size hi=items.size))
 (h:Q (.ref s.heap.objs.size) {s with heap:=s.heap.push {cls := .type "tuple",data := .seq ((items.toList.drop (sIx items.size 0 lo)).take (sIx items.size items.size hi-sIx items.size 0 lo)).toArray }})
 (hsz:items.size<=yB):yn (yr prog w) A (getItem (.ref t) (.ref sl)) Q E s:=by
 have htake:sizeOk (.seq ((items.toList.drop (sIx items.size 0 lo)).take (sIx items.size items.size hi-sIx items.size 0 lo)).toArray):=by
  show((items.toList.drop (sIx items.size 0 lo)).take (sIx items.size items.size hi-sIx items.size 0 lo)).toArray.size<=yB;rw[size_toArray,length_take,List.length_drop,Array.length_toList];omega
 have hj:sIx items.size items.size hi<=items.size:=zkx _ _ (yi _) hi;obtain⟨os,hos,hcs,hds⟩:=id hs;have hTs:s.TypeIs (.ref sl) "slice":=⟨os,hos,hcs⟩
 unfold getItem
 try with_reducible refine Yg ?_
 first | refine ya (ye ?_) | skip
 refine ya (wpAny_sequenceKey ht.typeIs (by decide) ?_)
 refine ya (Yc (name:=YS "__getitem__") ht.typeIs xa
  (yU xa ht.typeIs entry_tuple_getitem ?_ (args_tuple_getitem _ _)))
 show yn _ _ (Builtin.Tuple.tupleItemsOf (.ref t) >>= _) _ _ s;refine ya (tupleItemsOf_ ht ?_);refine ya (Xl hTs ?_);rw[if_pos (by decide)];refine ya (sliceApplied_gen hs pl pu ?_)
 have hno:¬((((sIx items.size 0 lo:Nat):Int)==0&&(1:Int)==1&&(sIx items.size items.size hi-sIx items.size 0 lo)==items.size)=true):=by
  intro q;rw[yE,yE]at q;have q1:((sIx items.size 0 lo:Nat):Int)=0:=eq_of_beq q.1.1;have q2:sIx items.size items.size hi-sIx items.size 0 lo=items.size:=eq_of_beq q.2;exact hw ⟨by omega,by omega⟩
 show yn _ _ (if(((sIx items.size 0 lo:Nat):Int)==0&&(1:Int)==1&&(sIx items.size items.size hi-sIx items.size 0 lo)==items.size)=true then _ else _) _ _ s;rw[if_neg hno,z8t]
 first
  |exact ya (m:=xc _) (yS (ye ⟨_,rfl,ye h⟩) htake)
  |exact ya (m:=xc _) (yS (ya (ye (ye ⟨_,rfl,ye h⟩))) htake)
  |exact ya (ya (m:=xc _) (yS (ye (ye ⟨_,rfl,ye h⟩)) htake))
  |exact ya (ya (m:=xc _) (yS (ye ⟨_,rfl,ye h⟩) htake))
end
end HT
namespace L2
open PySem PySem.Spec PyProof.Rows
abbrev TO:=St->Hp->(Option Int->Hp->Prop)->Prop
def PO(X:Cx)(e:Option Expr)(t:TO):Prop :=
 ∀(pins:List (Addr×YN)) (s:yb) (σ:St) (H:Hp) (Q:Option Int->Hp->Prop),Inv X pins σ H s->t σ H Q ->
  yn (yr X.prog X.w) X.A (evalPart e X.env) (fun u s'=>∃o H',Inv X pins σ H' s'/\IsPart u o/\Q o H') X.xe s
def zIw:TO:=fun _ H Q=>Q none H
def zPy(t:TE):TO:=fun σ H Q=>t σ H fun x H1=>∃i,x = .int i/\Q (some i) H1
def zog{ns:List Int}:∀{us:List Value},Vals (ns.map V.int) us->IntsAre us ns:=by
 induction ns with
 |nil=>intro us r;rw[map_nil]at r;cases r;exact .nil
 |cons n ns ih=>
  intro us r;rw[map_cons]at r
  cases r with
  |cons r1 r2=>
   obtain⟨t,e⟩:=r1;subst e;exact .cons n t (ih r2)
section
variable {X:Cx}{e:Expr}{te:TE}{lo hi:Option Expr}{tl th:TO}{pos p2:xp}
def zww:PO X none zIw:=by
 intro pins s σ H Q I h;rw[evalPart_none];exact ye ⟨none,H,I, .none,h⟩
def zpv(h:PE X e te):PO X (some e) (zPy te):=by
 intro pins s σ H Q I hw;rw[evalPart_some];refine thn (h pins s σ H _ I hw) fun u s1 ⟨x,H1,I1,r1,q1⟩=>?_;obtain⟨i,rfl,q⟩:=q1;obtain⟨t,rfl⟩:=r1;exact⟨some i,H1,I1, .int i t,q⟩
def SlR(X:Cx)(r:V->Option Int->Option Int->Hp->VK->Prop):Prop :=
 ∀(pins:List (Addr×YN)) (s:yb) (σ:St) (H:Hp) (x:V) (v vl vu:Value) (lo hi:Option Int) (sl:Addr) (Q:VK),Inv X pins σ H s->RelV x v->s.heap.IsSliceOf sl vl vu .none->IsPart vl lo->IsPart vu hi->r x lo hi H Q ->
  ∃T id,typeLookup (.type T) "__getitem__" = pure (some (.builtin id))/\s.TypeIs v T/\yn (yr X.prog X.w) X.A (getItem v (.ref sl)) (EP X pins σ Q) X.xe s
def SlR.or{r r':V->Option Int->Option Int->Hp->VK->Prop}(h:SlR X r)(h':SlR X r'):SlR X (fun x lo hi H Q=>r x lo hi H Q\/r' x lo hi H Q):=by
 intro pins s σ H x v vl vu lo hi sl Q I rx hs pl pu q;rcases q with q | q
 ·exact h pins s σ H x v vl vu lo hi sl Q I rx hs pl pu q
 ·exact h' pins s σ H x v vl vu lo hi sl Q I rx hs pl pu q
def tSl(r:V->Option Int->Option Int->Hp->VK->Prop)(te:TE)(tl th:TO):TE:=fun σ H Q=>te σ H fun x H1=>tl σ H1 fun l H2=>th σ H2 fun u H3=>r x l u H3 Q
def zTt{r:V->Option Int->Option Int->Hp->VK->Prop}(hr:SlR X r)(he:PE X e te)(hl:PO X lo tl)(hu:PO X hi th):PE X (.Subscript e (.Slice lo hi none p2) pos) (tSl r te tl th):=by
 intro pins s σ H Q I h;refine Subscript_ (thn (he pins s σ H _ I h) fun v s1 ⟨x,H1,I1,r1,q1⟩=>?_);refine wpAny_Slice (thn (hl pins s1 σ H1 _ I1 q1) fun vl s2 ⟨l,H2,I2,pl,q2⟩=>thn (hu pins s2 σ H2 _ I2 q2) fun vu s3 ⟨u,H3,I3,pu,q3⟩=>?_);rw[evalPart_none];refine ye ?_;have I4:Inv X pins σ H3 {s3 with heap:=s3.heap.push {cls := .type "slice",data := .fields #[vl,vu, .none]}}:=I3.kept (t':=s3.toks) fun b ob q=>yd _ q;obtain⟨T,id,hT,ht,hg⟩:=hr pins {s3 with heap:=s3.heap.push {cls := .type "slice",data := .fields #[vl,vu, .none]}} σ H3 x v vl vu l u s3.heap.objs.size Q I4 r1 (Heap.IsSliceOf.new ..) pl pu q3;show yn (yr X.prog X.w) X.A (subscriptTail e (.Slice lo hi none p2) v (.ref s3.heap.objs.size)) (EP X pins σ Q) X.xe {s3 with heap:=s3.heap.push {cls := .type "slice",data := .fields #[vl,vu, .none]}};exact tail_any (ops:=[.ref s3.heap.objs.size,v]) ht hT hg (by with_unfolding_all rfl)
def zLs(xs:List V)(lo hi:Option Int):List V:=(xs.drop (HT.sIx xs.length 0 lo)).take (HT.sIx xs.length xs.length hi-HT.sIx xs.length 0 lo)
def zsk(xs:List V)(lo hi:Option Int):(zLs xs lo hi).length<=xs.length:=by
 unfold zLs;rw[length_take,List.length_drop];omega
def zhA(K:yu):V->Option Int->Option Int->Hp->VK->Prop:=fun x lo hi H Q=>∃a xs,x = .ref a/\SqT K H a xs /\
 ¬(HT.sIx xs.length 0 lo=0/\HT.sIx xs.length xs.length hi=xs.length)/\∀p,H p=none->Q (.ref p) (upd H p (.tup (zLs xs lo hi)))
def z6w:SlR X (zhA X.K):=by
 intro pins s σ H x v vl vu lo hi sl Q I rx hs pl pu h;obtain⟨a,xs,rfl,hx,hw,q⟩:=h;cases rx;obtain⟨its,r,ht,hz⟩:=I.tuple hx;have hlen:its.toArray.size=xs.length:=by rw[size_toArray];exact r.length.symm
 refine⟨"tuple",_,PyProof.Rows.slot_tuple_getitem.lookup,ht.typeIs,?_⟩;refine HT.getItem_tuple_cut ht hs pl pu (by rw[hlen];exact hw) ?_ (by rw[hlen];exact hz);rw[hlen];refine⟨.ref s.heap.objs.size,_,I.laid (t':=s.toks) (o := .tup (zLs xs lo hi)) (fun b ob q=>yd _ q) (yi _) ?_,rfl,q _ (I.hok.fresh (yi _))⟩;exact⟨yC (zsk xs lo hi) hz,_,(r.drop (HT.sIx xs.length 0 lo)).take (HT.sIx xs.length xs.length hi-HT.sIx xs.length 0 lo),IsTup.new _ _⟩
def zWy(K:yu):R2:=fun x y H Q=>∃a b xs ys,x = .ref a/\y = .ref b/\SqT K H a xs/\SqT K H b ys/\xs≠[]/\xs.length+ys.length<=yB /\
 (ys=[]->Q (.ref a) H)/\(ys≠[]->∀p,H p=none->Q (.ref p) (upd H p (.tup (xs++ys))))
def Vals.nil_iff{xs:List V}{us:List Value}(r:Vals xs us):us=[]↔xs=[]:=by
 cases r with
 |nil=>simp
 |cons _ _=>simp
def zsw:OpR X (xq .Add) (zWy X.K):=by
 intro pins s σ H x y v u Q I rx ry h;obtain⟨a,b,xs,ys,rfl,rfl,ha,hb,hx,hz,q1,q2⟩:=h;cases rx;cases ry;obtain⟨its,r1,p1,_⟩:=I.tuple ha;obtain⟨its2,r2,p2,_⟩:=I.tuple hb;refine HT.cat_tup p1 p2 (fun z=>hx (r1.nil_iff.mp z)) (fun z=>⟨.ref a,H,I,rfl,q1 (r2.nil_iff.mp z)⟩) (fun z=>?_) (by rw[<-r1.length,<-r2.length];exact hz);refine⟨.ref s.heap.objs.size,_,I.laid (t':=s.toks) (o := .tup (xs++ys)) (fun b ob q=>yd _ q) (yi _) ?_,rfl,q2 (fun w=>z (r2.nil_iff.mpr w)) _ (I.hok.fresh (yi _))⟩;exact⟨by rw[length_append];exact hz,_,r1.append r2,IsTup.new _ _⟩
end
def ixN(n:Nat)(i:Int):Option Nat:=if 0<=i then(if i<n then some i.toNat else none) else if -(n:Int)<=i then some (i+n).toNat else none
def atI{α:Type}(xs:List α)(i:Int):Option α:=(ixN xs.length i).bind fun j=>xs[j]?
def z4n{n:Nat}{i:Int}{j:Nat}(h:ixN n i=some j):seqIndex? i n=some j/\j<n/\-(n:Int)<=i/\i<n:=by
 unfold ixN at h
 by_cases h0:0<=i
 ·rw[if_pos h0]at h
  by_cases h1:i<n
  ·rw[if_pos h1]at h;have e:i.toNat=j:=Yd h;exact⟨by rw[seqIndex_of h0 h1,e],by omega,by omega,h1⟩
  ·rw[if_neg h1]at h;cases h
 ·rw[if_neg h0]at h
  by_cases h1:-(n:Int)<=i
  ·rw[if_pos h1]at h;have e:(i+n).toNat=j:=Yd h;exact⟨by rw[seqIndex_neg (by omega) h1,e],by omega,h1,by omega⟩
  ·rw[if_neg h1]at h;cases h
def zoo{α:Type}{xs:List α}{i:Int}{v:α}(h:atI xs i=some v):∃j,seqIndex? i xs.length=some j/\xs[j]?=some v/\j<xs.length/\-(xs.length:Int)<=i/\i<xs.length:=by
 unfold atI at h
 cases e:ixN xs.length i with
 |none=>rw[e]at h;cases h
 |some j=>
  rw[e]at h;obtain⟨h1,h2,h3,h4⟩:=z4n e;exact⟨j,h1,h,h2,h3,h4⟩
def zEc{α:Type}{xs:List α}{j:Nat}{v:α}(h:xs[j]?=some v):atI xs (j:Int)=some v:=by
 have hj:j<xs.length:=(List.getElem?_eq_some_iff.mp h).1
 have e:ixN xs.length (j:Int)=some j:=by
  unfold ixN;rw[if_pos (by omega),if_pos (by omega)];simp
 unfold atI;rw[e];exact h
def z6n(b:Expr):Prop:=∀o i,subscripted b false o i=operate [o,i] (getItem o i)
def IxR(X:Cx)(r:R2):Prop :=
 ∀(value slice:Expr)(pins:List (Addr×YN)) (s:yb) (σ:St) (H:Hp) (x y:V) (v u:Value) (Q:VK),Inv X pins σ H s->RelV x v->RelV y u->r x y H Q ->
  subscripted slice false v u=operate [v,u] (getItem v u)->yn (yr X.prog X.w) X.A (subscriptTail value slice v u) (EP X pins σ Q) X.xe s
def MtR(X:Cx)(id:String)(r:V->List V->Hp->VK->Prop):Prop :=
 ∀(pins:List (Addr×YN)) (s:yb) (σ:St) (H:Hp) (x:V) (xs:List V) (v:Value) (us:List Value) (Q:VK),Inv X pins σ H s->RelV x v->Vals xs us->r x xs H Q ->
  yn (yr X.prog X.w) X.A (call (.builtin id) (v::us)) (EP X pins σ Q) X.xe s
section
variable {X:Cx}{a b:Expr}{ta tb:TE}{pos:xp}
def IxR.or{r r':R2}(h:IxR X r)(h':IxR X r'):IxR X (fun x y H Q=>r x y H Q\/r' x y H Q):=by
 intro value slice pins s σ H x y v u Q I rx ry q hs;rcases q with q | q
 ·exact h value slice pins s σ H x y v u Q I rx ry q hs
 ·exact h' value slice pins s σ H x y v u Q I rx ry q hs
def z4w{r:R2}(hr:IxR X r)(ha:PE X a ta)(hb:PE X b tb)(hs:z6n b):PE X (.Subscript a b pos) (tOp r ta tb):=by
 intro pins s σ H Q I h;exact Subscript_ (binT ha hb I h fun v u s2 x y H2 I2 rx ry q=>hr a b pins s2 σ H2 x y v u Q I2 rx ry q (hs _ _))
def zyz(K:yu):R2:=fun x y H Q=>∃p xs i v,x = .ref p/\y = .int i/\SqL K H p xs/\atI xs i=some v/\Q v H
def zzz(K:yu):R2:=fun x y H Q=>∃p xs i v,x = .ref p/\y = .int i/\SqT K H p xs/\atI xs i=some v/\Q v H
def zBz:R2:=fun x y H Q=>∃z i c,x = .str z/\y = .int i/\z.length<=yB/\atI z.cps.toList i=some c/\Q (.str ⟨#[c]⟩) H
def ix_list:IxR X (zyz X.K):=by
 intro value slice pins s σ H x y v u Q I rx ry h hs;obtain⟨p,xs,i,z,rfl,rfl,hq,he,q⟩:=h;cases rx;obtain⟨t,rfl⟩:=ry;obtain⟨its,r,pl,hz⟩:=I.list hq;obtain⟨j,h1,h2,h3,h4,h5⟩:=zoo he;obtain⟨w,ew,rw'⟩:=r.get h2;have hl:=r.length;have hn:=line63;have fin:EP X pins σ Q w s:=⟨z,H,I,rw',q⟩
 by_cases h0:0<=i
 ·have hj:i.toNat=j:=by
   rw[seqIndex_of h0 h5]at h1;exact Yd h1
  exact item_listR pl.isList h0 (by omega) (by rw[hj];simpa using ew) fin hs
 ·have hj:(i+(its.toArray.size:Int)).toNat=j:=by
   rw[seqIndex_neg (by omega) h4]at h1;rw[size_toArray,<-hl];exact Yd h1
  exact subscriptTail_builtinR (x:=w) pl.isList.typeIs slot_list_getitem.lookup
   (wpAny_getItem_list_neg (Q:=fun r s'=>r=w/\EP X pins σ Q r s') pl.isList (by omega) (by rw[size_toArray]<;>omega) (by omega) (by rw[hj];simpa using ew) ⟨rfl,fin⟩) hs
def ix_tup:IxR X (zzz X.K):=by
 intro value slice pins s σ H x y v u Q I rx ry h hs;obtain⟨p,xs,i,z,rfl,rfl,hq,he,q⟩:=h;cases rx;obtain⟨t,rfl⟩:=ry;obtain⟨its,r,pl,hz⟩:=I.tuple hq;obtain⟨j,h1,h2,h3,h4,h5⟩:=zoo he;obtain⟨w,ew,rw'⟩:=r.get h2;have hl:=r.length;have hn:=line63;have fin:EP X pins σ Q w s:=⟨z,H,I,rw',q⟩
 exact subscriptTail_builtinR (x:=w) pl.typeIs slot_tuple_getitem.lookup
  (getItem_tuple (j:=j) (Q:=fun r s'=>r=w/\EP X pins σ Q r s') pl (by omega) (by omega) (by rw[size_toArray,<-hl];exact h1) (by simpa using ew) ⟨rfl,fin⟩) hs
def zhy:IxR X zBz:=by
 intro value slice pins s σ H x y v u Q I rx ry h hs;obtain⟨z,i,c,rfl,rfl,hz,he,q⟩:=h;obtain⟨t,rfl⟩:=rx;obtain⟨t',rfl⟩:=ry;obtain⟨j,h1,h2,h3,h4,h5⟩:=zoo he;have hl:z.cps.toList.length=z.length:=by simp[Str.length]
 rw[hl]at h1 h4 h5;have hn:=line63
 exact tail_any (typeIs_str s z t) slot_str_getitem.lookup (getItem_str (c:=c) (by
  have e1:decide (i < -(2^63:Int))=false:=decide_eq_false (by omega);have e2:decide (i≥2^63)=false:=decide_eq_false (by omega);rw[e1,e2,Bool.or_false]) (by rw[h1];simpa using h2) ⟨.str ⟨#[c]⟩,H,I.tok _,⟨_,rfl⟩,q⟩) hs
def rIx(K:yu):R2:=fun x y H Q=>zyz K x y H Q\/zzz K x y H Q\/zBz x y H Q
def zSu:IxR X (rIx X.K):=ix_list.or (ix_tup.or zhy)
def zIq(its:List Value)(n j:Nat)(u:Value):xN (·.setIfInBounds j u) {cls := .type "list",data := .seq its.toArray n } = {cls := .type "list",data := .seq (its.set j u).toArray n }:=by
 simp[xN]
def Inv.lst{pins:List (Addr×YN)}{σ:St}{H:Hp}{s:yb}{p:Addr}{xs:List V}(I:Inv X pins σ H s)(h:H p=some (.lst xs)) :
 ∃(its:List Value)(n:Nat),Vals xs its/\s.heap.get? p=some {cls := .type "list",data := .seq its.toArray n }/\xs.length<=yB:=by
 obtain⟨z,its,n,r,e⟩:=I.hok p _ h;exact⟨its,n,r,e,z⟩
def Inv.lstUpd{pins:List (Addr×YN)}{σ:St}{H:Hp}{s:yb}{p:Addr}{xs ys:List V}{its its':List Value}{n n':Nat}{f:YN->YN}(I:Inv X pins σ H s)(h:H p=some (.lst xs))
 (ho:s.heap.get? p=some {cls := .type "list",data := .seq its.toArray n }) (hf:f {cls := .type "list",data := .seq its.toArray n } = {cls := .type "list",data := .seq its'.toArray n' }) (r:Vals ys its') (hz:ys.length<=yB) (t:Nat) :
 Inv X pins σ (upd H p (.lst ys)) {s with heap:=s.heap.update p f,toks:=t }:=by
 have e:(s.heap.update p f).get? p=some {cls := .type "list",data := .seq its'.toArray n' }:=by
  rw[yI f ho (by rw[hf]<;>rfl),hf]
 refine I.write (x:=p) (e:=p) (by rw[h];trivial) (.inl rfl) (fun b u hb q=>(yY _ _ (yN hb)).trans q) ⟨_,e⟩ ?_;exact⟨hz,its',n',r,e⟩
def zMy:V->V->V->Hp->(Hp->Prop)->Prop:=fun o i v H Q=>∃p xs k j,o = .ref p/\i = .int k/\H p=some (.lst xs)/\ixN xs.length k=some j/\Q (upd H p (.lst (xs.set j v)))
def zIu:z1y X zMy:=by
 intro pins s σ H o i v ov iv u Q I ro ri rv h;obtain⟨p,xs,k,j,rfl,rfl,hp,hj,q⟩:=h;cases ro;obtain⟨t,rfl⟩:=ri;obtain⟨its,n,r,ho,hz⟩:=I.lst hp;obtain⟨h1,h2,h3,h4⟩:=z4n hj;have hl:=r.length;have hn:=line63
 have I':Inv X pins σ (upd H p (.lst (xs.set j v))) {s with heap:=s.heap.update p (xN (·.setIfInBounds j u))} :=
  I.lstUpd hp ho (zIq its n j u) (r.set rv j) (by rw[length_set];exact hz) s.toks
 by_cases h0:0<=k
 ·have hk:k.toNat=j:=by
   rw[seqIndex_of h0 h4]at h1;exact Yd h1
  exact W.ki_setAt ho h0 (by omega) (by rw[size_toArray,<-hl];exact h4) (by rw[hk];exact⟨_,I',q⟩)
 ·have hk:(k+(its.toArray.size:Int)).toNat=j:=by
   rw[seqIndex_neg (by omega) h3]at h1;rw[size_toArray,<-hl];exact Yd h1
  exact W.ki_setBack ho (by omega) (by rw[size_toArray,<-hl];exact h3) (by omega) (by rw[hk];exact⟨_,I',q⟩)
def zXm(lo hi:Option Int)(n:Nat):(sliceBounds lo hi none n).1=((HT.sIx n 0 lo:Nat):Int)/\(sliceBounds lo hi none n).2.1=((HT.sIx n n hi:Nat):Int)/\(sliceBounds lo hi none n).2.2=1:=by
 refine⟨?_,?_,rfl⟩
 ·cases lo with
  |none=>simp[sliceBounds,HT.sIx]
  |some i=>
   simp only[sliceBounds,HT.sIx,Option.getD_none,show(1:Int)>0 by decide,if_true]
   by_cases h:i<0
   ·simp only[h,if_true]<;>omega
   ·simp only[h,if_false]<;>omega
 ·cases hi with
  |none=>simp[sliceBounds,HT.sIx]
  |some i=>
   simp only[sliceBounds,HT.sIx,Option.getD_none,show(1:Int)>0 by decide,if_true]
   by_cases h:i<0
   ·simp only[h,if_true]<;>omega
   ·simp only[h,if_false]<;>omega
def zmm(its:List Value)(lo hi:Option Int):slicePick its.toArray lo hi none=((its.drop (HT.sIx its.length 0 lo)).take (HT.sIx its.length its.length hi-HT.sIx its.length 0 lo)).toArray:=by
 obtain⟨h1,h2,h3⟩:=zXm lo hi its.toArray.size;unfold slicePick;rw[h1,h2,h3];simp only[sliceRange_one,pick_run,size_toArray]<;>rfl
def zeA(K:yu):V->Option Int->Option Int->Hp->VK->Prop:=fun x lo hi H Q=>∃a xs,x = .ref a/\SqL K H a xs/\∀p,H p=none->Q (.ref p) (upd H p (.lst (zLs xs lo hi)))
def zLw:SlR X (zeA X.K):=by
 intro pins s σ H x v vl vu lo hi sl Q I rx hs pl pu h;obtain⟨a,xs,rfl,hx,q⟩:=h;cases rx;obtain⟨its,r,ht,hz⟩:=I.list hx;have hlen:=r.length;refine⟨"list",_,slot_list_getitem.lookup,ht.isList.typeIs,?_⟩;refine wpAny_getItem_list_slice ht.isList hs pl pu .none (by simp) ?_ (by rw[size_toArray]<;>omega);rw[zmm,<-hlen];refine⟨.ref s.heap.objs.size,_,I.laid (t':=s.toks) (o := .lst (zLs xs lo hi)) (fun b ob q=>yd _ q) (yi _) ?_,rfl,q _ (I.hok.fresh (yi _))⟩;exact⟨yC (zsk xs lo hi) hz,_,0,(r.drop (HT.sIx xs.length 0 lo)).take (HT.sIx xs.length xs.length hi-HT.sIx xs.length 0 lo),yo _ rfl⟩
def ztk:V->Bool
 |.non=>true
 |.bl _=>true
 |.int _=>true
 |.str _=>true
 |_=>false
def eqV:V->V->Bool
 |.non, .non=>true
 |.bl a, .bl b=>a==b
 |.bl a, .int b=>(if a then 1 else 0)==b
 |.int a, .bl b=>a==(if b then 1 else 0)
 |.int a, .int b=>a==b
 |.str a, .str b=>a==b
 |_,_=>false
def zBx{A:yH}{s:yb}{y x:V}{u v:Value}(ry:RelV y u)(rx:RelV x v)(fy:ztk y=true)(fx:ztk x=true):SeqAt.EqAt A s u v (eqV y x):=by
 cases y with
 |non=>
  cases ry
  cases x with
  |non=>cases rx;exact SeqAt.EqAt.same _
  |bl b=>cases rx;exact SeqAt.EqAt.none_bool b
  |int b=>obtain⟨t,rfl⟩:=rx;exact SeqAt.EqAt.none_int b t
  |str b=>obtain⟨t,rfl⟩:=rx;exact SeqAt.EqAt.none_str b t
  |_=>exact absurd (show false=true from fx) yx
 |bl a=>
  cases ry
  cases x with
  |non=>cases rx;exact SeqAt.EqAt.bool_none a
  |bl b=>cases rx;exact SeqAt.EqAt.bool_bool a b
  |int b=>obtain⟨t,rfl⟩:=rx;exact SeqAt.EqAt.bool_int a b t
  |str b=>obtain⟨t,rfl⟩:=rx;exact SeqAt.EqAt.bool_str a b t
  |_=>exact absurd (show false=true from fx) yx
 |int a=>
  obtain⟨t',rfl⟩:=ry
  cases x with
  |non=>cases rx;exact SeqAt.EqAt.int_none a t'
  |bl b=>cases rx;exact SeqAt.EqAt.int_bool a t' b
  |int b=>obtain⟨t,rfl⟩:=rx;exact SeqAt.EqAt.int_int a t' b t
  |str b=>obtain⟨t,rfl⟩:=rx;exact SeqAt.EqAt.int_str a t' b t
  |_=>exact absurd (show false=true from fx) yx
 |str a=>
  obtain⟨t',rfl⟩:=ry
  cases x with
  |non=>cases rx;exact SeqAt.EqAt.str_none a t'
  |bl b=>cases rx;exact SeqAt.EqAt.str_bool a t' b
  |int b=>obtain⟨t,rfl⟩:=rx;exact SeqAt.EqAt.str_int a t' b t
  |str b=>obtain⟨t,rfl⟩:=rx;exact SeqAt.EqAt.str_str a t' b t
  |_=>exact absurd (show false=true from fx) yx
 |_=>exact absurd (show false=true from fy) yx
def eqU(x:V)(u:Value):Bool:=match u with
 |.none=>eqV .non x
 |.bool b=>eqV (.bl b) x
 |.int i _=>eqV (.int i) x
 |.str z _=>eqV (.str z) x
 |_=>false
def zZs{x y:V}{u:Value}(r:RelV y u)(f:ztk y=true):eqU x u=eqV y x:=by
 cases y with
 |non=>cases r;rfl
 |bl b=>cases r;rfl
 |int i=>obtain⟨t,rfl⟩:=r;rfl
 |str z=>obtain⟨t,rfl⟩:=r;rfl
 |_=>exact absurd (show false=true from f) yx
def z3j{x:V}:∀{xs:List V} {us:List Value},Vals xs us->xs.all ztk=true->us.any (eqU x)=xs.any fun y=>eqV y x
 |_,_, .nil,_=>rfl
 |y::xs,u::us, .cons r t,f=>by
  rw[all_cons,yE]at f;rw[any_cons,any_cons,zZs r f.1,z3j t f.2]
def zhg{A:yH}{s:yb}{x:V}{v:Value}(rx:RelV x v)(fx:ztk x=true):∀{xs:List V} {us:List Value},Vals xs us->xs.all ztk=true->∀u∈us,SeqAt.EqAt A s u v (eqU x u)
 |_,_, .nil,_=>fun u hu=>by cases hu
 |y::xs,u::us, .cons r t,f=>fun u' hu=>by
  rw[all_cons,yE]at f;rcases List.mem_cons.mp hu with rfl | hu
  ·rw[zZs r f.1];exact zBx r rx f.1 fx
  ·exact zhg rx fx t f.2 u' hu
def inV(x:V)(xs:List V):Bool:=xs.any fun y=>eqV y x
def rIn(K:yu)(neg:Bool):R2:=fun x y H Q=>∃p xs,y = .ref p/\(SqL K H p xs\/SqT K H p xs)/\ztk x=true/\xs.all ztk=true/\Q (.bl (if neg then !inV x xs else inV x xs)) H
def zws:OpR X (Yn .In) (rIn X.K false):=by
 intro pins s σ H x y v u Q I rx ry h;obtain⟨p,xs,rfl,hq,fx,fs,q⟩:=h;cases ry;rcases hq with hq | hq
 ·obtain⟨its,r,pl,hz⟩:=I.list hq;refine SeqAt.in_listAt (eqU x) pl.isList (fun w hw=>zhg rx fx r fs w (by simpa using hw)) ⟨.bl _,H,I,rfl,?_⟩;rw[show its.toArray.any (eqU x)=its.any (eqU x) by simp,z3j r fs];exact q
 ·obtain⟨its,r,pl,hz⟩:=I.tuple hq;refine SeqAt.in_tupleAt (eqU x) pl (fun w hw=>zhg rx fx r fs w (by simpa using hw)) ⟨.bl _,H,I,rfl,?_⟩;rw[show its.toArray.any (eqU x)=its.any (eqU x) by simp,z3j r fs];exact q
def zrn:OpR X (Yn .NotIn) (rIn X.K true):=by
 intro pins s σ H x y v u Q I rx ry h;obtain⟨p,xs,rfl,hq,fx,fs,q⟩:=h;cases ry;rcases hq with hq | hq
 ·obtain⟨its,r,pl,hz⟩:=I.list hq;refine SeqAt.notIn_listAt (eqU x) pl.isList (fun w hw=>zhg rx fx r fs w (by simpa using hw)) ⟨.bl _,H,I,rfl,?_⟩;rw[show its.toArray.any (eqU x)=its.any (eqU x) by simp,z3j r fs];exact q
 ·obtain⟨its,r,pl,hz⟩:=I.tuple hq;refine SeqAt.notIn_tupleAt (eqU x) pl (fun w hw=>zhg rx fx r fs w (by simpa using hw)) ⟨.bl _,H,I,rfl,?_⟩;rw[show its.toArray.any (eqU x)=its.any (eqU x) by simp,z3j r fs];exact q
def zYm:zSk X (.builtin "len") (fun xs H Q=>∃p ys,xs=[.ref p]/\(SqL X.K H p ys\/SqT X.K H p ys)/\Q (.int ys.length) H):=by
 intro pins s σ H xs us Q I r h;obtain⟨p,ys,rfl,hq,q⟩:=h;obtain⟨u,rfl,rx⟩:=vals1 r;cases rx;have hn:=line63;rcases hq with hq | hq
 ·obtain⟨its,r',pl,hz⟩:=I.list hq;have hlen:=r'.length;exact Calls.call_len_list pl.isList (by simp only[size_toArray]<;>omega) ⟨.int ys.length,H,I.tok _,⟨s.toks+1,by rw[size_toArray,hlen]⟩,q⟩
 ·obtain⟨its,r',pl,hz⟩:=I.tuple hq;have hlen:=r'.length;exact len_tuple pl (by simp only[size_toArray]<;>omega) ⟨.int ys.length,H,I.tok _,⟨s.toks+1,by rw[size_toArray,hlen]⟩,q⟩
def zxi:zSk X (.type "list") (fun xs H Q=>∃p ys,xs=[.ref p]/\(SqL X.K H p ys\/SqT X.K H p ys)/\∀l,H l=none->Q (.ref l) (upd H l (.lst ys))):=by
 intro pins s σ H xs us Q I r h;obtain⟨p,ys,rfl,hq,q⟩:=h;obtain⟨u,rfl,rx⟩:=vals1 r;cases rx
 have fin:∀(its:List Value),Vals ys its->ys.length<=yB->∀(h':yP)(c':Nat),(∀b o',s.heap.get? b=some o'->h'.get? b=some o') ->
  h'.get? s.heap.objs.size=some {cls := .type "list",dict:=none,data := .seq its.toArray c',slots:=#[]}->EP X pins σ Q (.ref s.heap.objs.size) {s with heap:=h' }:=fun its r' hz h' c' kp e=>
  ⟨.ref s.heap.objs.size,_,I.laid (t':=s.toks) kp (yi _) (show ObjOk X.prog X.w _ h' _ (.lst ys) from⟨hz,its,c',r',e⟩),rfl,q _ (I.hok.fresh (yi _))⟩
 rcases hq with hq | hq
 ·obtain⟨its,r',pl,hz⟩:=I.list hq;have hlen:=r'.length;obtain⟨o,ho,hc,n,hd⟩:=pl.isList;exact call_list_seq p (.inl rfl) ho hc hd (fun h' c' kp e=>fin its r' hz h' c' kp e) (by simp only[size_toArray]<;>omega)
 ·obtain⟨its,r',pl,hz⟩:=I.tuple hq;have hlen:=r'.length;obtain⟨o,ho,hc,n,hd⟩:=pl;exact call_list_seq p (.inr rfl) ho hc hd (fun h' c' kp e=>fin its r' hz h' c' kp e) (by simp only[size_toArray]<;>omega)
def zif:zSk X (.type "tuple") (fun xs H Q=>∃p ys,xs=[.ref p]/\((SqL X.K H p ys/\∀l,H l=none->Q (.ref l) (upd H l (.tup ys)))\/(SqT X.K H p ys/\Q (.ref p) H))):=by
 intro pins s σ H xs us Q I r h;obtain⟨p,ys,rfl,h⟩:=h;obtain⟨u,rfl,rx⟩:=vals1 r;cases rx;rcases h with ⟨hq,q⟩ | ⟨hq,q⟩
 ·obtain⟨its,r',pl,hz⟩:=I.list hq;have hlen:=r'.length;refine call_tuple_list pl.isList (fun h' kp=>?_) (by simp only[size_toArray]<;>omega);have I1:Inv X pins σ H {s with heap:=h' }:=I.kept (t':=s.toks) kp
  have I2:Inv X pins σ (upd H h'.objs.size (.tup ys)) {s with heap:=h'.push {cls := .type "tuple",data := .seq its.toArray }} :=
   I1.laid (t':=s.toks) (fun b o e=>yd _ e) (yi _) (show ObjOk X.prog X.w _ _ _ (.tup ys) from⟨hz,its,r',IsTup.new _ _⟩)
  exact⟨.ref h'.objs.size,_,I2,rfl,q _ (I1.hok.fresh (yi _))⟩
 ·obtain⟨its,r',pl,hz⟩:=I.tuple hq;exact call_tuple_same pl ⟨.ref p,H,I,rfl,q⟩
def tyV(K:yu)(T:String)(x:V)(H:Hp):Prop:=match x with
 |.str _=>T = "str"
 |.int _=>T = "int"
 |.ref p=>(T = "list"/\∃xs,SqL K H p xs)\/(T = "tuple"/\∃o,K.lookup p=some o/\o.cls = .type "tuple"/\o.dict=none) \/
  (T = "dict"/\((∃kvs,H p=some (.dK kvs))\/∃kvs,H p=some (.dT kvs)))\/(T = "set"/\∃S n,H p=some (.set S n))
 |_=>False
def zGy{pins:List (Addr×YN)}{σ:St}{H:Hp}{s:yb}{T:String}{x:V}{v:Value}(I:Inv X pins σ H s)(r:RelV x v)(ty:tyV X.K T x H) :
 s.TypeIs v T/\∀a,v = .ref a->∃ob,s.heap.get? a=some ob/\ob.dict=none:=by
 cases x with
 |str z=>
  obtain⟨t,rfl⟩:=r;cases (show T = "str" from ty);exact⟨typeIs_str s z t,fun _ e=>nomatch e⟩
 |int i=>
  obtain⟨t,rfl⟩:=r;cases (show T = "int" from ty);exact⟨typeIs_int s i t,fun _ e=>nomatch e⟩
 |ref p=>
  cases r;rcases ty with ⟨rfl,xs,hq⟩ | ⟨rfl,o,hk,hc,hd⟩ | ⟨rfl,hk⟩ | ⟨rfl,S,n,hk⟩
  ·obtain⟨its,_,pl,_⟩:=I.list hq;refine⟨pl.isList.typeIs,fun a e=>?_⟩;cases e;obtain⟨o,n,e,c,hd,_⟩:=pl;exact⟨o,e,hd⟩
  ·refine⟨⟨o,I.kIn p o hk,hc⟩,fun a e=>?_⟩;cases e;exact⟨o,I.kIn _ o hk,hd⟩
  ·have z:∃o,s.heap.get? p=some o/\o.ExactDict:=by
    rcases hk with ⟨kvs,hk⟩ | ⟨kvs,hk⟩
    ·obtain⟨_,_,_,_,o,_,_,e,ex,_⟩:=I.hok p _ hk;exact⟨o,e,ex⟩
    ·obtain⟨_,_,_,_,o,_,_,e,ex,_⟩:=I.hok p _ hk;exact⟨o,e,ex⟩
   obtain⟨o,e,ex⟩:=z;refine⟨⟨o,e,ex.1⟩,fun a e2=>?_⟩;cases e2;exact⟨o,e,ex.2.1⟩
  ·obtain⟨o,_,_,_,e,ex,_⟩:=I.hok p _ hk;refine⟨⟨o,e,ex.1⟩,fun a e2=>?_⟩;cases e2;exact⟨o,e,ex.2.1⟩
 |_=>exact Yt ty
def tBM(K:yu)(T:String)(r:V->List V->Hp->VK->Prop)(to:TE)(t:TA):TE:=fun σ H Q=>to σ H fun x H1=>tyV K T x H1/\t σ H1 fun xs H2=>r x xs H2 Q
variable {o e:Expr}{es:List Expr}{to:TE}{t:TA}{name:Str}{apos cpos:xp}{T id:String}{r:V->List V->Hp->VK->Prop}
def z1w(pa:PlainAttrs T)(slot:Slot T name id)(hty:typeOf (.builtin id)=pure (.type "method_descriptor"))(hm:MtR X id r)(ho:PE X o to)(ha:PA X (e::es) t)
 (hbase:Yu o name X.env (yW o X.env)=yW o X.env:=by rfl)
 (hfew:((yZ cpos (yf (e::es) X.env)).all (fun x=>!x.1)&&(xt cpos (YA [] X.env)).all (fun x=>x.1.isSome)
  && decide ((e::es).length+([]:List xj).length+(if([]:List xj).isEmpty then 0 else 1)<30))=true:=by rfl)
 (hline:(apos.endLine==cpos.line)=true:=by rfl) (hs:yf (e::es) X.env=(false,yW e X.env)::yf es X.env:=by rfl) (hplain:(yZ cpos (yf es X.env)).any (·.1)=false:=by rfl) :
 PE X (.Call (.Attribute o name apos) (e::es) [] cpos) (tBM X.K T r to t):=by
 intro pins s σ H Q I h;refine wpAny_Call_method_late hbase hfew hline rfl (thn (ho pins s σ H _ I h) fun v s1 ⟨x,H1,I1,r1,ty,q1⟩=>?_);obtain⟨h1,h2⟩:=zGy I1 r1 ty;refine⟨T,id,pa,slot,hty,h1,h2,?_⟩;have hA:=ha cpos pins s1 σ H1 _ I1 q1;rw[hs]at hA ⊢;refine Calls.callWith_builtin (by show(false||(yZ cpos (yf es X.env)).any (·.1))=false;rw[hplain]<;>rfl) (Calls.evalArgs_plain ?_);exact thn hA fun us s2 ⟨vs,H2,I2,r2,q2⟩=>hm pins s2 σ H2 x vs v us Q I2 r1 r2 q2
end
def MtM(X:Cx)(id:String)(r:V->List V->Hp->VK->Prop):Prop :=
 ∀(pins:List (Addr×YN)) (s:yb) (σ:St) (H:Hp) (x:V) (xs:List V) (v:Value) (us:List Value) (Q:VK),Inv X pins σ H s->RelV x v->Vals xs us->r x xs H Q ->
  yn (yr X.prog X.w) X.A (call (.builtin id) (v::us)) (EP X pins σ Q) X.xe s
def Vals.uncons{x:V}{xs:List V}{us:List Value}(h:Vals (x::xs) us):∃u ws,us=u::ws/\RelV x u/\Vals xs ws:=by
 cases h with
 |cons r t=>exact⟨_,_,rfl,r,t⟩
def Vals.unnil{us:List Value}(h:Vals [] us):us=[]:=by
 cases h;rfl
def Vals.one{x:V}{us:List Value}(h:Vals [x] us):∃u,us=[u]/\RelV x u:=by
 obtain⟨u,ws,e,r,t⟩:=h.uncons;exact⟨u,by rw[e,t.unnil],r⟩
def Vals.eraseIdx:∀{xs:List V} {us:List Value} (i:Nat),Vals xs us->Vals (xs.eraseIdx i) (us.eraseIdx i)
 |_,_,_, .nil => .nil
 |_,_,0, .cons _ t=>t
 |_,_,i+1, .cons r t => .cons r (Vals.eraseIdx i t)
def Vals.reverse{xs:List V}{us:List Value}(h:Vals xs us):Vals xs.reverse us.reverse:=by
 induction h with
 |nil=>exact .nil
 |cons r t ih=>rw[List.reverse_cons,List.reverse_cons];exact Vals.append ih (.cons r .nil)
def Vals.rep{xs:List V}{us:List Value}(h:Vals xs us):∀k:Nat,Vals (yA k xs).flatten (yA k us).flatten
 |0 => .nil
 |k+1=>by
  rw[replicate_succ,replicate_succ,flatten_cons,flatten_cons];exact Vals.append h (Vals.rep h k)
def zQm{α:Type}:∀(l:List α)(i:Nat),(l.eraseIdx i).length<=l.length
 |[],_=>yi _
 |_::_,0=>xD _
 |_::r,i+1=>Nat.succ_le_succ (zQm r i)
def ztn(its:List Value):∀(k:Nat)(acc:List Value),
 List.foldl (fun x1 x2=>x1++x2) acc.toArray (yA k its.toArray)=(acc++(yA k its).flatten).toArray
 |0,acc=>by simp
 |k+1,acc=>by
  have e:acc.toArray++its.toArray=(acc++its).toArray:=by simp
  have e2:(acc++its)++(yA k its).flatten=acc++(yA (k+1) its).flatten:=by
   rw[replicate_succ,flatten_cons,append_assoc]
  rw[<-e2,<-ztn its k (acc++its),<-e,replicate_succ,List.foldl_cons]
section
variable {X:Cx}{pins:List (Addr×YN)}{σ:St}{H:Hp}{s:yb}{l b:Addr}{xs ys zs:List V}
def Inv.lset{its its':List Value}{n:Nat}{f:Array Value->Array Value}{t':Nat}(I:Inv X pins σ H s)(hH:H l=some (.lst xs))
 (e:s.heap.get? l=some {cls := .type "list",data := .seq its.toArray n }) (hf:f its.toArray=its'.toArray) (hv:Vals ys its') (hz:ys.length<=yB) :
 Inv X pins σ (upd H l (.lst ys)) {s with heap:=s.heap.update l (xN f),toks:=t' }:=by
 have q:=PySem.IsL.update e f;rw[hf]at q;refine I.write (x:=l) (e:=l) (by rw[hH];exact trivial) (.inl rfl) (fun b' u hb hu=>(yY s.heap (xN f) (yN hb)).trans hu) ⟨_,q⟩ ?_;exact⟨hz,its',_,hv,q⟩
def Inv.lnew{its:List Value}{t':Nat}(I:Inv X pins σ H s)(hv:Vals ys its)(hz:ys.length<=yB) :
 Inv X pins σ (upd H s.heap.objs.size (.lst ys)) {s with heap:=s.heap.push {cls := .type "list",data := .seq its.toArray },toks:=t' } :=
 I.laid (fun _ _ q=>yd _ q) (yi _) ⟨hz,its,0,hv,yo _ rfl⟩
def Inv.fresh(I:Inv X pins σ H s):H s.heap.objs.size=none:=I.hok.fresh (yi _)
def Inv.lstM(I:Inv X pins σ H s)(hH:H l=some (.lst xs)):xs.length<=yB/\∃(its:List Value)(n:Nat),Vals xs its/\xs.length=its.length/\s.heap.get? l=some {cls := .type "list",data := .seq its.toArray n }:=by
 obtain⟨z,its,n,r,e⟩:=I.hok l _ hH;exact⟨z,its,n,r,r.length,e⟩
def notLongL{n:Nat}(h:n<=yB):xf n=false:=by
 unfold xf;exact decide_eq_false (by omega)
end
section
variable {X:Cx}
def zQv:V->List V->Hp->VK->Prop:=fun x vs H Q=>∃l xs y,x = .ref l/\vs=[y]/\H l=some (.lst xs)/\xs.length<yB/\Q .non (upd H l (.lst (xs++[y])))
def zet:MtM X "list.append" zQv:=by
 intro pins s σ H x vs v us Q I rx rv h;obtain⟨l,xs,y,rfl,rfl,hH,hz,q⟩:=h;cases rx;obtain⟨u,rfl,ru⟩:=rv.one;obtain⟨z,its,n,r,hl,e⟩:=I.lstM hH;refine Xh F.slot_list_append ⟨_,e,rfl⟩ F.entry_list_append (F.args_list_append_2 _ _) (PySem.list_append l its.toArray n u (by rw[size_toArray];omega)) ⟨e,?_⟩;refine⟨.non,_,I.lset (its':=its++[u]) hH e (by simp) (r.append (.cons ru .nil)) ?_,rfl,q⟩;rw[length_append,length_singleton];omega
def zDv:V->List V->Hp->VK->Prop:=fun x vs H Q=>∃l b xs zs,x = .ref l/\vs=[.ref b]/\H l=some (.lst xs)/\H b=some (.lst zs)/\xs.length+zs.length<=yB/\Q .non (upd H l (.lst (xs++zs)))
def zZr:MtM X "list.extend" zDv:=by
 intro pins s σ H x vs v us Q I rx rv h;obtain⟨l,b,xs,zs,rfl,rfl,hH,hB,hz,q⟩:=h;cases rx;obtain⟨u,rfl,ru⟩:=rv.one;cases ru;obtain⟨z,its,n,r,hl,e⟩:=I.lstM hH;obtain⟨z2,its2,n2,r2,hl2,e2⟩:=I.lstM hB;have hsz:its.toArray.size+its2.toArray.size<=yB:=by rw[size_toArray,size_toArray];omega
 have hlong:¬(!its.toArray.isEmpty&&xf (its.toArray.size+its2.toArray.size))=true:=by
  rw[notLongL hsz,Bool.and_false];exact yx
 refine Xh F.slot_list_extend ⟨_,e,rfl⟩ F.entry_list_extend (F.args_list_extend_2 _ _)
  (AutoSeq1.list_extend_list_list_0 l its.toArray n b its2.toArray n2 hlong (by rw[size_toArray];omega) (by omega)) ⟨e,e2,?_⟩
 refine⟨.non,_,I.lset (its':=its++its2) hH e (by simp) (r.append r2) ?_,rfl,q⟩;rw[length_append];omega
def zvy:V->List V->Hp->VK->Prop:=fun x vs H Q=>∃l xs i k y,x = .ref l/\vs=[.int i]/\H l=some (.lst xs)/\-(2^63)<=i/\i<2^63/\seqIndex? i xs.length=some k/\xs[k]?=some y/\Q y (upd H l (.lst (xs.eraseIdx k)))
def zmt:MtM X "list.pop" zvy:=by
 intro pins s σ H x vs v us Q I rx rv h;obtain⟨l,xs,i,k,y,rfl,rfl,hH,h1,h2,hk,hy,q⟩:=h;cases rx;obtain⟨u,rfl,ru⟩:=rv.one;obtain⟨t,rfl⟩:=ru;obtain⟨z,its,n,r,hl,e⟩:=I.lstM hH;obtain⟨w,hw,rw'⟩:=r.get hy
 refine Xh F.slot_list_pop ⟨_,e,rfl⟩ F.entry_list_pop (F.args_list_pop_2 _ _)
  (MeetsSeq.list_pop_at l its.toArray n i t k w (fitsIndex_both h1 h2) (by rw[size_toArray,<-hl];exact hk) (by rw[<-xY];exact hw) (by rw[size_toArray];omega)) ⟨e,?_⟩
 refine⟨y,_,I.lset (its':=its.eraseIdx k) hH e ?_ (r.eraseIdx k) ?_,rw',q⟩
 ·show its.toArray.eraseIdxIfInBounds k=(its.eraseIdx k).toArray;rw[List.eraseIdxIfInBounds_toArray]
 ·have:=zQm xs k;omega
def zMz:R2:=fun x y H Q=>∃l b xs zs,x = .ref l/\y = .ref b/\H l=some (.lst xs)/\H b=some (.lst zs)/\xs.length+zs.length<=yB/\∀p,H p=none->Q (.ref p) (upd H p (.lst (xs++zs)))
def zDx:OpR X (xq .Add) zMz:=by
 intro pins s σ H x y v u Q I rx ry h;obtain⟨l,b,xs,zs,rfl,rfl,hH,hB,hz,q⟩:=h;cases rx;cases ry;obtain⟨z,its,n,r,hl,e⟩:=I.lstM hH;obtain⟨z2,its2,n2,r2,hl2,e2⟩:=I.lstM hB;refine PySem.P.add_list e e2 ?_ (by rw[size_toArray,size_toArray];omega);have ea:its.toArray++its2.toArray=(its++its2).toArray:=by simp
 rw[ea];exact⟨.ref _,_,I.lnew (t':=s.toks) (r.append r2) (by rw[length_append];omega),rfl,q _ I.fresh⟩
def z8z:R2:=fun x y H Q=>∃l k xs,x = .ref l/\y = .int k/\H l=some (.lst xs)/\-(2^63)<=k/\k<2^63/\xs.length*k.toNat<=yB /\
 ∀p,H p=none->Q (.ref p) (upd H p (.lst (yA k.toNat xs).flatten))
def zAs{α:Type}(xs:List α)(k:Nat):(yA k xs).flatten.length=k*xs.length:=by
 induction k with
 |zero=>simp
 |succ k ih=>rw[replicate_succ,flatten_cons,length_append,ih,Nat.succ_mul,Nat.add_comm]
def zFx:OpR X (xq .Mult) z8z:=by
 intro pins s σ H x y v u Q I rx ry h;obtain⟨l,k,xs,rfl,rfl,hH,h1,h2,hz,q⟩:=h;cases rx;obtain⟨t,rfl⟩:=ry;obtain⟨z,its,n,r,hl,e⟩:=I.lstM hH;have hlen:its.toArray.size*k.toNat<=yB:=by rw[size_toArray,<-hl];exact hz
 have hcap:¬its.toArray.size*k.toNat>(2^63-1) / 8:=by
  have:(yB:Nat)<=(2^63-1) / 8:=by decide
  omega
 have hfit:¬(!Builtin.List.listFitsIndex k)=true:=by
  rw[fitsIndex_both h1 h2];exact yx
 have hlong:¬xf (its.toArray.size*k.toNat)=true:=by
  rw[notLongL hlen];exact yx
 have hnew:List.foldl (fun x1 x2=>x1++x2) #[] (yA (if its.toArray.isEmpty=true then 0 else k.toNat) its.toArray)=(yA k.toNat its).flatten.toArray:=by
  have f0:∀m:Nat,List.foldl (fun x1 x2=>x1++x2) #[] (yA m its.toArray)=(yA m its).flatten.toArray:=fun m=>by
   have:=ztn its m [];rw[List.nil_append]at this;exact this
  rw[f0]
  cases its with
  |nil=>simp
  |cons a r'=>rw[if_neg (by simp)]
 refine wpAny_binaryOp_repeat_ref (T:="list") (U:="int") (by decide) ⟨_,e,rfl⟩ (fun s'=>typeIs_int s' k t) noFill_list_mul F.fills_int_mul F.slot_int_rmul repeat_list F.slot_int_index.lookup
  (Xh F.slot_int_rmul (typeIs_int s k t) F.entry_int_rmul (F.args_int_rmul_2 _ _) (int___rmul___int_list k t l its.toArray n)
   ⟨e,rfl,⟨_,e,rfl⟩,Xh F.slot_list_mul ⟨_,e,rfl⟩ F.entry_list_mul (F.args_list_mul_2 _ _) (AutoListH.list___mul___list_int_3 l its.toArray n k t hfit hcap hlong) ⟨e,?_⟩⟩)
 rw[hnew];exact⟨.ref _,_,I.lnew (t':=s.toks) (r.rep k.toNat) (by rw[zAs,Nat.mul_comm];exact hz),rfl,q _ I.fresh⟩
end
section
variable {prog:yw}{w:yF}{A:yH}{E:Value->yb->Prop}{s:yb}
end
section
variable {X:Cx}
end
end L2
namespace Att
open PySem PySem.W PySem.Calls PyProof.Rows
def z4j{P:Params}{h:yP}:∀(ns:List Int)(vs:List Value),WellAll P h vs (ns.map WData.int)->IntsAre vs ns:=by
 intro ns
 induction ns with
 |nil=>
  intro vs w;rw[map_nil]at w;cases w;exact .nil
 |cons n ns ih=>
  intro vs w;rw[map_cons]at w
  cases w with
  |cons a b=>
   cases a;exact .cons _ _ (ih _ b)
def zEr{l:OpenLaw}{n:Nat}(hn:l.most=some n){P:Params}{h:yP}{args:List WData}{vals:List Value}
 (hpre:l.row.toRowW.claim.pre args=true) (hwl:WellAll P h vals args) :
 ∃a vs ns,vals=[yD a]/\args=[WData.list (ns.map WData.int)]/\h.get? a=some {cls := .type "list",data := .seq vs.toArray }/\IntsAre vs ns/\ns.length<=n:=by
 have hsh:WShape.hasAll [] args [.list .int]=true:=(pre_splitW hpre).1;have hc:l.pre.holds [] {args:=args } = true:=(pre_splitW hpre).2;obtain⟨d,r,rfl,h1,h2⟩:=hasAllW_cons hsh;obtain rfl:=hasAllW_nil h2;obtain⟨xs,rfl,h3⟩:=hasW_list h1;obtain⟨ns,rfl⟩:=items_int h3
 have hlen:ns.length<=n:=by
  unfold OpenLaw.pre at hc
  have h4:(WTm.not (.lt (.lit (.int (n:Int))) (.len (.arg 0)))).holds [] {args:=[.list (ns.map .int)]} = true:=by
   have h4:=(holds_andW hc).1;rw[hn]at h4;exact h4
  have h5:=condW_of h4 (w_not (w_lt w_lit (w_len_list (w_arg rfl))));rw[length_map]at h5;refine Nat.le_of_not_lt fun q=>?_;have q':(n:Int)<((ns.length:Nat):Int):=by omega
  first
   |(rw[decide_eq_true q']at h5;exact absurd h5 (by decide))
   |(simp at h5;omega)
 cases hwl with
 |cons w1 w2=>
  cases w2
  cases w1 with
  |list ho hall=>exact⟨_,_,ns,rfl,rfl,ho,z4j ns _ hall,hlen⟩
def z9r(l:OpenLaw)(args:List WData):l.row.toRowW.claim.post args (.bool true) args=true :=
 postW_of (r:=l.row.toRowW) (X:=(true==true))
  (show WShape.has [] (.bool true) .bool=true by first | rfl | decide | simp[WShape.has,WShape.arms,WShape.armsAll])
  (show(WTm.eq .res (.lit (.bool true))).value [] {args:=args,res:=some (.bool true),after:=args } = some (.bool (true==true)) from w_eq_bool (w_res rfl) w_lit) rfl
def attach_call{l:OpenLaw}{n:Nat}{q:yw}{loose:List Str}{XP:(Str->Option Value)->yP->Prop}{YP:yF->yP->Prop}{d:DefRec}
 (hn:l.most=some n) (hdf:d.params.defaults=[])
 (call:∀(w:yF)(s₀ s₁:yb)(mg mb:Str->Option Value)(fa:Addr)(o:YN)(pm cd doc:Value)(a:Addr)(vs:List Value)(ns:List Int),
  Ground q loose [] XP w s₀ mg mb s₁.heap->YP w s₁.heap ->
  s₁.heap.get? fa=some o->o.data = .func (docDef d.name d.params d.body d.scope pm cd doc)->s₁.heap.CodeRec cd d.name->mg d.name=some (.ref fa) ->
  s₁.heap.get? a=some {cls := .type "list",data := .seq vs.toArray }->IntsAre vs ns->ns.length<=n->s₁.gens = #[] ->
  Xc (yr l.prog w) callerA (.call (.ref fa) ⟨[.ref a],[]⟩) (fun r s'=>r = .ok (.ret (.bool true))/\OldK s₁.heap s'.heap/\s'.os=s₁.os/\AllBare s'.gens) s₁) :
 WalkO q loose XP YP l.row.toRowW d [] (fun f vs=>PySem.call f vs):=by
 intro w s₀ s₁ mg mb G Y fa o pm cd doc dV kV ho hd hcd hD hmg hg args vals as hpre hlay hrd hwl hlo;obtain rfl:dV = .none:=Dflts.none hD hdf;obtain rfl:kV = .none:=Dflts.noKw hD;obtain⟨a,vs,ns,rfl,rfl,hobj,hints,hlen⟩:=zEr hn hpre hwl;refine enter_call (YR (call w s₀ s₁ mg mb fa o pm cd doc a vs ns G Y ho (fd_plain hd) hcd hmg hobj hints hlen hg) fun r s' hq=>?_);obtain⟨rfl,h2,h3,h4⟩:=hq;exact⟨.inl ⟨.bool true, .bool true,[],rfl,fun _=>rfl, .bool true,z9r l _,fun _=>⟨List.Pairwise.nil,fun _ hm=>(nomatch hm)⟩⟩,h2,h3,h4⟩
section
variable {prog:yw}{w:yF}{A:yH}{E:Value->yb->Prop}{s:yb}{K:Frag}
end
end Att
namespace L2
open PySem PySem.Spec PyProof.Rows
def z0n:∀{vs:List Value} {ns:List Int},IntsAre vs ns->Vals (ns.map V.int) vs
 |_,_, .nil => .nil
 |_,_, .cons n t h => .cons ⟨t,rfl⟩ (z0n h)
def zKy(H:Hp):Prop:=∀b,H b=none\/∃o xs,H b=some (.frz o (.lst xs))
def zdu{P:yw}{w:yF}{K:yu}{mg mb:Str->Option Value}{CX:CXT}{k:Nat}{fa a:Addr}{fd:yg}{x:Str}{sp:Sp}{s₁:yb}{vs:List Value}{ns:List Int}
 (KX:K.In s₁.heap) (hns:s₁.heap.Ns ym mg) (hb:s₁.heap.Ns builtinsNs mb) (hbb:∀x:Str,x≠"__name__"->mb x=yQ x) (hlim:s₁.heap.NoLimit) (hg:s₁.gens = #[])
 (ha:s₁.heap.get? a=some {cls := .type "list",data := .seq vs.toArray }) (hi:IntsAre vs ns) (hl:ns.length<=yB) (hr:Room k callerA)
 (F:∀base:yP,K.In base->base.Ns ym mg->FnOk P w K mg base CX k fa fd [x] sp) (hbind:∀(s:yb)(u:Value),BindsTo s fd ⟨[u],[]⟩ [(x,u)])
 (hsp:∀H:Hp,zKy H->SqL K H a (ns.map V.int)->sp [.ref a] H (fun v _=>v = .bl true) fun _ _ _=>False)
 (hCX:∀H e s',CX [] H s₁ (fun _ _ _=>False) e s'->False) :
 Xc (yr P w) callerA (.call (.ref fa) ⟨[.ref a],[]⟩) (fun r s'=>r = .ok (.ret (.bool true))/\OldK s₁.heap s'.heap/\s'.os=s₁.os/\AllBare s'.gens) s₁:=by
 have rv:=z0n hi;have lenV:=hi.length
 have core:∀H:Hp,zKy H->SqL K H a (ns.map V.int)->HOk P w H s₁.heap->(∀b,H b≠none->b=a)->(H a≠none->K.lookup a=none) ->
  Xc (yr P w) callerA (.call (.ref fa) ⟨[.ref a],[]⟩) (fun r s'=>r = .ok (.ret (.bool true))/\OldK s₁.heap s'.heap/\s'.os=s₁.os/\AllBare s'.gens) s₁:=by
  intro H hO hS hok hA hK;have base_of:∀{b:Addr} {o:YN},s₁.heap.get? b=some o->H b=none->(zDt s₁.heap H).get? b=some o:=fun e n=>z1t e n
  have noA:∀{b:Addr} {o:YN} {es:Array DictEntry} {ep:Nat},s₁.heap.get? b=some o->o.data = .dict es ep->H b=none:=fun{b o es ep} e d=>by
   cases q:H b with
   |none=>rfl
   |some u=>
    have e':b=a:=hA b (by rw[q];simp);subst e';rw[ha]at e;cases e;have d':Data.seq vs.toArray _=Data.dict es ep:=d;cases d'
  have nsK:∀{b:Addr} {m:Str->Option Value},s₁.heap.Ns b m->(zDt s₁.heap H).Ns b m:=fun{b m} ⟨o,es,ep,e,d,r⟩=>⟨o,es,ep,base_of e (noA e d),d,r⟩
  have hKb:K.In (zDt s₁.heap H):=fun b o e=>base_of (KX b o e) (by
   cases q:H b with
   |none=>rfl
   |some u=>
    have e':b=a:=hA b (by rw[q];simp);subst e';rw[hK (by rw[q];simp)]at e;cases e)
  have hM:Mod K mg (zDt s₁.heap H):=⟨hKb,nsK hns,⟨mb,nsK hb,hbb⟩,let ⟨mc,h1,h2⟩:=hlim;⟨mc,nsK h1,h2⟩⟩
  have e0:Env0 P w K mg (zDt s₁.heap H) callerA [] s₁ H:=⟨rfl,hM,fun b o e=>zvw e,Nat.le_of_eq (z8r _ _),trivial,fun b hb=>absurd (show b∈([]:List Addr) from hb) (by simp),hok, .of_eq hg⟩
  refine YR ((F _ hKb (nsK hns)).run callerA [] s₁ H ⟨[.ref a],[]⟩ [.ref a] [.ref a] _ _ hr e0 (hbind s₁ (.ref a)) (.cons rfl .nil) (hsp H hO hS)) fun r s' h=>?_
  cases r with
  |error e=>exact(hCX H e s' h).elim
  |ok fl=>
   cases fl with
   |next=>exact Yt h
   |brk=>exact Yt h
   |cont=>exact Yt h
   |ret u=>
    obtain⟨v,H',os,bare,un,hok',r',q⟩:=h;have q':v = .bl true:=q;subst q';obtain rfl:u=Value.bool true:=r';refine⟨rfl,OldK.of_keep fun b o e=>?_,os,bare⟩
    cases q:H b with
    |none=>exact un.keep b o e q (by intro z;exact absurd (show b∈([]:List Addr) from z) (by simp)) (by simp)
    |some u=>
     rcases hO b with z | ⟨ob,xs,z⟩
     ·rw[q]at z;cases z
     ·have z2:=un.frzs b ob _ z;obtain⟨e1,_⟩:=hok b _ z;obtain⟨e2,_⟩:=hok' b _ z2;rw[e]at e1;cases e1;exact e2
 cases hk:K.lookup a with
 |some o=>
  have e:=KX a o hk;rw[ha]at e;cases e;refine core (fun _=>none) (fun _ => .inl rfl) (.inr ⟨_,vs.toArray,_,hk,rfl,rfl,rfl,by rw[size_toArray,lenV];exact hl,by simpa using rv⟩) (fun b u z=>by have z':(none:Option HO)=some u:=z;cases z') (fun b z=>absurd rfl z) fun z=>absurd rfl z
 |none=>
  refine core (fun b=>if b=a then some (.frz {cls := .type "list",data := .seq vs.toArray } (.lst (ns.map V.int))) else none) (fun b=>?_) (.inl (.inr ⟨{cls := .type "list",data := .seq vs.toArray },if_pos rfl⟩)) (fun b u z=>?_) (fun b z=>?_) fun _=>hk
  ·by_cases hb:b=a
   ·exact .inr ⟨_,_,if_pos hb⟩
   ·exact .inl (if_neg hb)
  ·by_cases hb:b=a
   ·have z':=(if_pos hb).symm.trans z;cases z';subst hb;exact⟨ha,by rw[length_map];exact hl,vs,_,rv,ha⟩
   ·have z':=(if_neg hb).symm.trans z;cases z'
  ·by_cases hb:b=a
   ·exact hb
   ·exact absurd (if_neg hb) z
def walk_of{l:W.OpenLaw}{n k:Nat}{q:yw}{loose:List Str}{XP:(Str->Option Value)->yP->Prop}{YP:yF->yP->Prop}{d:DefRec}{K:Params->yu}{CX:yF->CXT}{sp:yF->Sp}{x:Str}
 (hn:l.most=some n) (hn2:n<=yB) (hdf:d.params.defaults=[]) (hr:Room k callerA)
 (hY:∀(w:yF)(h:yP),YP w h->(K w.params).In h)
 (F:∀(w:yF)(mg:Str->Option Value)(fa:Addr)(h:yP),(K w.params).In h->h.Ns ym mg->mg d.name=some (.ref fa) ->
  ∃fd:yg,(∀(s:yb)(u:Value),BindsTo s fd ⟨[u],[]⟩ [(x,u)]) /\
   ∀base:yP,(K w.params).In base->base.Ns ym mg->FnOk l.prog w (K w.params) mg base (CX w) k fa fd [x] (sp w))
 (hsp:∀(w:yF)(H:Hp)(a:Addr)(ns:List Int),ns.length<=n->zKy H->SqL (K w.params) H a (ns.map V.int)->sp w [.ref a] H (fun v _=>v = .bl true) fun _ _ _=>False)
 (hCX:∀(w:yF)(H:Hp)(s:yb)(e:Value)(s':yb),CX w [] H s (fun _ _ _=>False) e s'->False) :
 W.WalkO q loose XP YP l.row.toRowW d [] (fun f vs=>PySem.call f vs):=by
 refine Att.attach_call hn hdf fun w s₀ s₁ mg mb fa o pm cd doc a vs ns G Y ho hd hcd hmg hobj hints hlen hg=>?_;have KX:=hY w _ Y;obtain⟨fd,hb,hF⟩:=F w mg fa _ KX G.T.g hmg;exact zdu KX G.T.g G.T.b G.T.builtins G.T.nolimit hg hobj hints (yC hlen hn2) hr hF hb (fun H hO hS=>hsp w H a ns hlen hO hS) fun H e s'=>hCX w H s₁ e s'
def zHe(s:Stmt)(j:Nat):Stmt:=match s with
 |.ClassDef _ _ _ body _ _ _ _ _ _ _=>body.getD j (.Pass ⟨0,0,0,0⟩)
 |_ => .Pass ⟨0,0,0,0⟩
def zvd(s:Stmt):Arguments:=match s with
 |.FunctionDef _ a _ _ _ _ _ _ _ _=>a
 |_=>{posonlyargs:=[],args:=[],vararg:=none,kwonlyargs:=[],kw_defaults:=[],kwarg:=none,defaults:=[]}
def zHc(s:Stmt):List Stmt:=match s with
 |.FunctionDef _ _ b _ _ _ _ _ _ _=>b
 |_=>[]
def zp(s:Stmt):Xb:=match s with
 |.FunctionDef _ _ _ _ _ _ sc _ _ _=>sc
 |_=>{kind := .function,names:=[],isGenerator:=false,isCoroutine:=false }
abbrev CX0:CXT:=fun _ _ _ _ _ _=>False
abbrev E0:XK:=fun _ _ _=>False
def pass0{X:Cx}:zHg CX0 X E0:=fun _ _ _ _ _ _ _ h=>h.elim
structure Fun(K:yu)(x qual:Str)(st:Stmt)(f:Addr)(fd:yg):Prop where
 ex:∃(oc:Value)(od:Option Addr)(kV doc pm:Value)(an:Option Addr)(cdv ct:Value)(osl:Array (Option Value)),
  fd=W.fnOf x qual (zvd st) (zHc st) (zp st) .none kV doc pm an cdv ct/\K.lookup f=some ⟨oc,od, .func fd,osl⟩/\W.codeIn K cdv qual=true
 kp:W.keepIn K (.ref f)=true
section
variable {P:yw}{w:yF}{K:yu}{mg:Str->Option Value}{base:yP}
def Fun.ok{x qual:Str}{st:Stmt}{f:Addr}{fd:yg}{N ps:List Str}{k:Nat}{sp:Sp}(F:Fun K x qual st f fd)(S:FnScope N ps (zp st))(len:∀vs H Q E,sp vs H Q E->vs.length=ps.length)
 (hbody:∀(cdv:Value)(A:yH)(outer:List Env)(s:yb)(H:Hp)(vs:List V)(Q:VK)(E:XK),Room k (A.deeper (envOfC qual (zp st) s.heap.objs.size f cdv))->sp vs H Q E ->
  ∃t,PSs (z0s CX0 P w K mg base N qual (zp st) f cdv A outer s H E).nox (zHc st) t/\t {nx:=fun _ H'=>Q .non H',rt:=Q } (start N vs) H):FnOk P w K mg base CX0 (k+1) f fd ps sp:=by
 obtain⟨oc,od,kV,doc,pm,an,cdv,ct,osl,rfl,lk,hcd⟩:=F.ex;refine zdx lk hcd S len fun A outer s H vs Q E hr hsp=>?_;obtain⟨t,h,q⟩:=hbody cdv A outer s H vs Q E hr hsp;exact⟨t,h.nox,q⟩
def Fun.binds{x qual:Str}{st:Stmt}{f:Addr}{fd:yg}{ps:List Str}(F:Fun K x qual st f fd)
 (h:∀(kV doc pm:Value)(an:Option Addr)(cdv ct:Value)(us:List Value),us.length=ps.length->bindArgs (W.fnOf x qual (zvd st) (zHc st) (zp st) .none kV doc pm an cdv ct) ⟨us,[]⟩=pure (ps.zip us)):Binds K fd ps []:=by
 obtain⟨oc,od,kV,doc,pm,an,cdv,ct,osl,rfl,lk,hcd⟩:=F.ex;exact .all (h kV doc pm an cdv ct)
def zse{x qual:Str}{st:Stmt}{f:Addr}{oc:Value}{od an:Option Addr}{osl:Array (Option Value)}{kV doc pm cdv ct:Value}(l:K.lookup f=some ⟨oc,od, .func (W.fnOf x qual (zvd st) (zHc st) (zp st) .none kV doc pm an cdv ct),osl⟩)
 (c:W.codeIn K cdv qual=true) (k:W.keepIn K (.ref f)=true):Fun K x qual st f (W.fnOf x qual (zvd st) (zHc st) (zp st) .none kV doc pm an cdv ct):=⟨⟨oc,od,kV,doc,pm,an,cdv,ct,osl,rfl,l,c⟩,k⟩
end
def small1000{n:Nat}(h:n<=1000):n<yB:=Nat.lt_of_le_of_lt h (by decide)
section
variable {X:Cx}
def pv(i:Nat){x:Str}{pos:xp}(hN:X.N[i]?=some x:=by rfl)(hv:Vis X.env.scope x:=by first | exact Or.inl rfl | exact Or.inr (Or.inl rfl) | exact Or.inr (Or.inr rfl))(hd:(x==("__debug__":Str))=false:=by decide)
 (hcd:(x==("__classdict__":Str))=false:=by decide):PE X (.Name x pos) (zhz i):=zWu hN hv hd hcd
end
def iteF{A B:Prop}(h:B):if false=true then A else B:=by
 rw[if_neg yx];exact h
def iteT{A B:Prop}(h:A):if true=true then A else B:=by
 rw[if_pos rfl];exact h
def zPk(f:Array Value->Array Value)(o:YN):(xg f o).dict=o.dict:=by
 unfold xg
 split<;>rfl
def Trc(B h:yP)(e:Addr)(x:Value):Prop:=x = .none\/∃T oT ts y,x = .ref T/\B.get? T=none/\T≠e/\h.get? T=some oT/\oT.data = .fields ts/\ts[3]?=some y
structure Fly(B:yP)(l:List Env)(e:Addr)(cls:Value)(dx:Option Addr)(h:yP):Prop where
 st:B.StaysIn h
 new:B.get? e=none
 ff:h.FunFrames B l
 ob:∃oe vs x,h.get? e=some oe/\oe.cls=cls/\oe.dict=dx/\oe.data = .fields vs/\vs[1]?=some x/\Trc B h e x
section
variable {M:Model}{A:yH}{E:Value->yb->Prop}{s:yb}{B:yP}{l outer:List Env}{env:Env}{e L:Addr}{cls:Value}{dx:Option Addr}{Q:Unit->yb->Prop}
def Fly.recW{h:yP}{T:Addr}{oT:YN}{ts:Array Value}(F:Fly B l e cls dx h)(hb:B.get? T=none)(hT:h.get? T=some oT)(hd:oT.data = .fields ts)(g:Array Value->Array Value)
 (hob:∃oe vs x,(h.update T (xg g)).get? e=some oe/\oe.cls=cls/\oe.dict=dx/\oe.data = .fields vs/\vs[1]?=some x/\Trc B (h.update T (xg g)) e x) :
 Fly B l e cls dx (h.update T (xg g))/\h.UpToSlots (h.update T (xg g)):=by
 have other:∀b,b≠T->(h.update T (xg g)).get? b=h.get? b:=fun b hb=>yY _ _ (yN hb)
 have noR:∀b o,h.get? b=some o->(∀vs,o.data≠.fields vs)->b≠T:=fun b o q hn z=>by
  rw[z,hT]at q;cases q;exact hn ts hd
 exact⟨⟨fun b o q=>(other b fun z=>by rw[z,hb]at q;cases q).trans (F.st b o q),F.new,F.ff.of_keeps fun b o q hn=>⟨o,(other b (noR b o q hn)).trans q,rfl⟩,hob⟩,fun b o q hn=>⟨o.slots,(other b (noR b o q hn)).trans q⟩⟩
def zLg(F:Fly B l e cls dx s.heap)(h:∀h',Fly B l e cls dx h'->s.heap.UpToSlots h'->Q () {s with heap:=h' }):yn M A (setFlight (.ref e) none) Q E s:=by
 obtain⟨oe,vs,x,he,hc,hx,hd,h1,tr⟩:=F.ob;unfold setFlight;refine ya (YB he hd h1 ?_);rcases tr with rfl | ⟨T,oT,ts,y,rfl,hb,hne,hT,hdT,h3⟩
 ·rw[if_neg (by decide)];exact ye (h _ F (.refl _))
 ·rw[if_pos (show(yD T != Yi)=true from by simp)];have h3':=(Array.getElem?_eq_some_iff.mp h3).1;refine YT hT hdT h3' ?_
  obtain⟨F',u⟩:=F.recW hb hT hdT (·.setIfInBounds 3 ((none:Option Addr).elim Yi fun f=>Yz f))
   ⟨oe,vs,_,(yY _ _ hne).trans he,hc,hx,hd,h1, .inr ⟨T,_,_, .none,rfl,hb,hne,yI _ hT (Yw (yT hdT _)),yT hdT _,by simp[h3']⟩⟩
  exact h _ F' u
def zOs{head:Value}{hadNext:Bool}(hfr:A.frames=some (env::outer))(hf:env.frame=some L)(F:Fly B (env::outer) e cls dx s.heap)(h:∀h',Fly B (env::outer) e cls dx h'->s.heap.UpToSlots h'->Q () {s with heap:=h' }) :
 yn M A (do let a <-frameOf env;let pl <-entryPlaceOf L hadNext;let b <-EntryCells.newEntry head a .none (Yz L) .none pl;setField (.ref e) 1 b) Q E s:=by
 obtain⟨oe,vs,x,he,hc,hx,hd,h1,tr⟩:=F.ob;have hl:=F.ff
 have hene:e∉(env::outer).filterMap (·.frame):=fun hm=>by
  obtain⟨_,o,ho,hnf⟩:=hl.mem hm;rw[he]at ho;cases ho;exact hnf vs hd
 refine ya (wpAny_frameOf_fun hfr hl hf fun h₁ hs=>?_);refine ya (wpAny_entryPlaceOf fun pl hpl=>?_);unfold EntryCells.newEntry newFields;refine ya (yS ?_ (hpl.sizeOk5 _ _ _ _ _));generalize hts:([head,yD L,Yi,Yz L,Yi]++(if pl.isEmpty=true then yA 6 Yi else pl))=ts;have hts3:ts.toArray[3]?=some (Yz L):=by rw[<-hts];simp
 have he₁:h₁.get? e=some oe:=(hs.2.1 e hene).trans he;have hn:h₁.objs.size≠e:=yV (yj he₁);have kb:B.StaysIn h₁:=fun b o q=>(hs.2.1 b fun hm=>by rw[(hl.mem hm).1]at q;cases q).trans (F.st b o q);have he₂:=yd (h:=h₁) {cls := .type "traceback",dict:=none,data := .fields ts.toArray } he₁;refine YT he₂ hd (Array.getElem?_eq_some_iff.mp h1).1 (h _ ?_ ?_)
 all_goals
  have keep:∀b o,b≠e->h₁.get? b=some o->((h₁.push {cls := .type "traceback",dict:=none,data := .fields ts.toArray }).update e (xg (·.setIfInBounds 1 (yD h₁.objs.size)))).get? b=some o:=fun b o hbe hb=>by
   rw[yY _ _ (yN hbe)];exact yd _ hb
  have noR:∀b o,s.heap.get? b=some o->(∀vs,o.data≠.fields vs)->b≠e:=fun b o q hn z=>by
   rw[z,he]at q;cases q;exact hn vs hd
 ·refine⟨fun b o q=>keep b o (fun z=>by rw[z,F.new]at q;cases q) (kb b o q),F.new,hl.of_keeps fun b o q hn=>?_,?_⟩
  ·obtain⟨sl,z⟩:=hs.2.2 b o q;exact⟨_,keep b _ (noR b o q hn) z,rfl⟩
  ·have hd₃:=yT hd (·.setIfInBounds 1 (yD h₁.objs.size));refine⟨_,_,_,yI _ he₂ (Yw hd₃),(Xd _ _).trans hc,(zPk _ _).trans hx,hd₃,by simp[(Array.getElem?_eq_some_iff.mp h1).1], .inr ⟨h₁.objs.size,{cls := .type "traceback",dict:=none,data := .fields ts.toArray },ts.toArray,Yz L,rfl,kb.fresh,hn,?_,rfl,hts3⟩⟩;exact(yY _ _ (yN hn)).trans (yo h₁ rfl)
 ·intro b o q hn;obtain⟨sl,z⟩:=hs.2.2 b o q;exact⟨sl,keep b _ (noR b o q hn) z⟩
def zRj(hfr:A.frames=some (env::outer))(hf:env.frame=some L)(F:Fly B (env::outer) e cls dx s.heap)(h:∀h',Fly B (env::outer) e cls dx h'->s.heap.UpToSlots h'->Q () {s with heap:=h' }) :
 yn M A (noteFrame (.ref e) env) Q E s:=by
 obtain⟨oe,vs,x,he,hc,hx,hd,h1,tr⟩:=F.ob;unfold noteFrame;simp only[hf];refine ya (YB he hd h1 ?_);rcases tr with rfl | ⟨T,oT,ts,y,rfl,hb,hne,hT,hdT,h3⟩
 ·rw[if_neg (by decide)];exact zOs hfr hf F h
 ·rw[if_pos (show(yD T != Yi)=true from by simp)];refine ya (YB hT hdT h3 ?_)
  by_cases hy:(y==Yz L)=true
  ·rw[if_pos hy];exact ye (h _ F (.refl _))
  ·rw[if_neg hy];have h3':=(Array.getElem?_eq_some_iff.mp h3).1;refine ya (YT hT hdT h3' ?_)
   obtain⟨F',u⟩:=F.recW hb hT hdT (·.setIfInBounds 3 Yi)
    ⟨oe,vs,_,(yY _ _ hne).trans he,hc,hx,hd,h1, .inr ⟨T,_,_, .none,rfl,hb,hne,yI _ hT (Yw (yT hdT _)),yT hdT _,by simp[h3']⟩⟩
   exact zOs hfr hf F' fun h' F'' u'=>h h' F'' (u.trans u')
def zxs(hfr:A.frames=some (env::outer))(hf:env.frame=some L)(F:Fly B (env::outer) e cls dx s.heap)(h:∀h',Fly B outer e cls dx h'->s.heap.UpToSlots h'->Q () {s with heap:=h' }) :
 yn M A (leaving env (.ref e)) Q E s:=by
 unfold leaving;refine ya (zRj hfr hf F fun h1 F1 u1=>?_);refine zLg (s:={s with heap:=h1 }) F1 fun h2 F2 u2=>?_;exact h h2 ⟨F2.st,F2.new,F2.ff.2.2,F2.ob⟩ (u1.trans u2)
end
def ObjOk.there{P:yw}{w:yF}{H:Hp}{h:yP}{a:Addr}{o:HO}(x:ObjOk P w H h a o):∃u,h.get? a=some u:=by
 cases o with
 |lst xs=>obtain⟨_,_,_,_,e⟩:=x;exact⟨_,e⟩
 |tup xs=>obtain⟨_,_,_,o,e,_⟩:=x;exact⟨_,e⟩
 |dK kvs=>obtain⟨_,_,_,_,o,_,_,e,_⟩:=x;exact⟨_,e⟩
 |dT kvs=>obtain⟨_,_,_,_,o,_,_,e,_⟩:=x;exact⟨_,e⟩
 |set S n=>obtain⟨o,_,_,_,e,_⟩:=x;exact⟨_,e⟩
 |ins C dx fs=>obtain⟨_,_,_,e,_⟩:=x;exact⟨_,e⟩
 |own y=>obtain⟨_,e⟩:=x;exact⟨_,e⟩
 |xd fs=>obtain⟨_,⟨_,_,_,e,_⟩,_⟩:=x;exact⟨_,e⟩
 |rng lo hi=>obtain⟨_,_,_,e⟩:=x;exact⟨_,e⟩
 |frz ob u=>obtain⟨e,_⟩:=x;exact⟨_,e⟩
 |tbl ps=>exact⟨_,(show h.get? a=some _ from x)⟩
 |met f y=>exact⟨_,(show h.get? a=some _ from x)⟩
 |ext φ=>obtain⟨_,⟨_,e⟩,_⟩:=x;exact⟨_,e⟩
structure Cov(outer:List Env)(H':Hp)(h B:yP):Prop where
 tr:∀b o,H' b=some o->∃u,B.get? b=some u
 old:∀b o,h.get? b=some o->b∉frs outer->∃u,B.get? b=some u
structure FlyX(P:yw)(w:yF)(outer:List Env)(H:Hp)(s:yb)(C:Value)(dx:Option Addr)(H':Hp)(e:Value)(s':yb):Prop where
 os:s'.os=s.os
 bare:AllBare s'.gens
 un:Un (frs outer) [] H H' s.heap s'.heap
 hok:HOk P w H' s'.heap
 fly:∃a B,e = .ref a/\Fly B outer a C dx s'.heap/\Cov outer H' s.heap B
def CXq(P:yw)(w:yF):CXT:=fun outer H s E e s'=>∃C dx H',FlyX P w outer H s C dx H' e s'/\E C dx H'
section
variable {P:yw}{w:yF}{outer:List Env}{H H':Hp}{h0 h h' B base:yP}
def zzo(u:Un (frs outer) [] H H' h0 h)(c:Cov outer H' h0 B)(st:B.StaysIn h)(st':B.StaysIn h')(sm:h.UpToSlots h')(ff:h0.FunFrames base outer)(frf:∀b∈frs outer,H b=none):Un (frs outer) [] H H' h0 h' where
 keep:=fun b o q n hb hx=>by
  obtain⟨v,hv⟩:=c.old b o q hb;have e1:=u.keep b o q n hb hx;have e2:=st b v hv;rw[e1]at e2;cases e2;exact st' b o hv
 slot:=fun b o q n hb hx=>by
  obtain⟨sl,e1⟩:=u.slot b o q n hb hx;obtain⟨_,o',ho',hd⟩:=ff.mem hb;rw[q]at ho';cases ho';obtain⟨sl',e2⟩:=sm b _ e1 hd;exact⟨sl',e2⟩
 free:=u.free
 there:=fun b o q hx=>by
  by_cases hb:b∈frs outer
  ·obtain⟨sl,e1⟩:=u.slot b o q (frf b hb) hb hx;obtain⟨_,o',ho',hd⟩:=ff.mem hb;rw[q]at ho';cases ho';obtain⟨sl',e2⟩:=sm b _ e1 hd;exact⟨_,e2⟩
  ·obtain⟨v,hv⟩:=c.old b o q hb;exact⟨v,st' b v hv⟩
 tups:=u.tups
 frzs:=u.frzs
 tbls:=u.tbls
def zMm(x:HOk P w H' h)(c:Cov outer H' h0 B)(st:B.StaysIn h)(st':B.StaysIn h'):HOk P w H' h':=fun a o e=>by
 refine(x a o e).stay (fun b u hb q=>?_) (fun _ q=>q) fun _ _ q=>q
 have hb:∃o',H' b=some o':=by
  rcases hb with rfl | hb
  ·exact⟨_,e⟩
  ·exact⟨_,hb⟩
 obtain⟨o',hb⟩:=hb;obtain⟨v,hv⟩:=c.tr b o' hb;have e2:=st b v hv;rw[q]at e2;cases e2;exact st' b u hv
end
section
variable {X:Cx}{pins:List (Addr×YN)}{σ:St}{H H':Hp}{s s':yb}{C:Value}{a:Addr}{dx:Option Addr}
def Inv.fly{B h':yP}(I:Inv X pins σ H s)(F:FlyX X.prog X.w X.stack H s C dx H' (.ref a) s')(c:Cov X.stack H' s.heap B)(st:B.StaysIn s'.heap)(st':B.StaysIn h')(sm:s'.heap.UpToSlots h'){t':Nat}{d':Drawn} :
 Inv X pins σ H' {s' with heap:=h',toks:=t',drawn:=d' } :=
 I.call' F.os (zzo F.un c st st' sm I.stack I.stkFree) (zMm F.hok c st st') F.bare fun b z=>absurd z (by simp)
def Inv.madeX{h':yP}{vs:List Value}(I:Inv X pins σ H s)(hm:Heap.MadeExcOf s.heap h' a C vs):FlyX X.prog X.w X.stack H s C none H (.ref a) {s with heap:=h' }:=by
 have hin:∀env∈X.stack,∀b,env.frame=some b->b∈frs X.stack:=fun env he b hb=>List.mem_filterMap.mpr ⟨env,he,hb⟩;obtain⟨t,he,_,_⟩:=hm.there
 have hn:(W.hideAll s.heap (frs X.stack)).get? a=none:=by
  cases q:(W.hideAll s.heap (frs X.stack)).get? a with
  |none=>rfl
  |some o=>have:=W.of_hideAll _ q;rw[hm.new]at this;cases this
 refine⟨rfl,I.bare,Un.kept hm.keeps,I.hok.kept hm.keeps,a,W.hideAll s.heap (frs X.stack),rfl,⟨fun b o q=>hm.keeps b o (W.of_hideAll _ q),hn,?_,⟨_,_,_,he,rfl,rfl,rfl,rfl, .inl rfl⟩⟩,?_⟩
 ·exact(W.funFrames_hide I.stack hin).of_keeps fun b o hb _=>⟨o,hm.keeps b o hb,rfl⟩
 ·exact⟨fun b o q=>by
   obtain⟨u,hu⟩:=(I.hok b o q).there;exact⟨u,W.hideAll_get _ hu fun hm=>by rw[I.stkFree b hm]at q;cases q⟩,fun b o q hb=>⟨o,W.hideAll_get _ q hb⟩⟩
end
def zjm(X:Cx)(C:Value)(dx:Option Addr)(H':Hp):Prop:=∀pins σ H s e s',Inv X pins σ H s->FlyX X.prog X.w X.stack H s C dx H' e s'->X.xe e s'
section
variable {P:yw}{w:yF}{K:yu}{mg:Str->Option Value}{base:yP}{N:List Str}{qual:Str}{scope:Xb}{f:Addr}{cd:Value}{A:yH}{outer:List Env}{s:yb}{H H':Hp}{E:XK}{C:Value}{dx:Option Addr}
def zqw{X:Cx}{pins:List (Addr×YN)}{σ:St}{H1:Hp}{s1:yb}{B:yP}(I:Inv X pins σ H1 s1)(hs:X.stack=X.env::X.outer)(hf:X.env.frame=some X.env.locals)(hex:X.ex=[])(c:Cov X.stack H' s1.heap B):Cov X.outer H' X.s₀.heap B where
 tr:=c.tr
 old:=fun b o q hb=>by
  obtain⟨o1,e1⟩:=I.base.there b o q (by rw[hex];simp);refine c.old b o1 e1 ?_;rw[hs];unfold frs;rw[filterMap_cons,hf];intro hm;rcases List.mem_cons.mp hm with rfl | hm
  ·exact absurd (yv (yj q) I.ok.above) (yO _)
  ·exact hb hm
def zJq(hE:E C dx H'):zjm (z0s (CXq P w) P w K mg base N qual scope f cd A outer s H E) C dx H':=by
 intro pins σ H1 s1 e s' I F;have hf:(envOfC qual scope s.heap.objs.size f cd).frame=some (envOfC qual scope s.heap.objs.size f cd).locals:=rfl;obtain⟨a,B,rfl,fl,c⟩:=F.fly;refine zxs I.ok.frames hf fl fun h'' fl' sm=>?_;have J:Inv (z0s (CXq P w) P w K mg base N qual scope f cd A outer s H E) pins σ H' {s' with heap:=h'' }:=I.fly F c fl.st fl'.st sm;exact⟨C,dx,H',⟨J.os,J.bare,J.base,J.hok,a,B,rfl,fl',zqw (X:=z0s (CXq P w) P w K mg base N qual scope f cd A outer s H E) I rfl rfl rfl c⟩,hE⟩
end
end L2
namespace M
open PySem PySem.Spec PyProof.Rows L2
inductive D where
 |non | bl (b:Bool) | int (i:Int) | str (x:Str) | ty (n:String)
  |tup (ds:List D)
  |fz (ds:List D)
  |loc (n:Nat)
  |own (c:Str)
inductive LObj where
 |lst (ds:List D)
  |dct (kvs:List (Int×D))
  |dcf (kvs:List (Int×D))
  |exc (c:Str) (fs:List (Str×D))
  |ins (c:Str) (fs:List (Str×D))
abbrev Mem:=List LObj
def zgq(a C:Addr)(dx:Option Addr):yP->Prop:=fun h=>∃o vs,h.get? a=some o/\o.cls = .ref C/\o.dict=dx/\o.data = .fields vs
abbrev Loc:=List (Option D)
section
variable (K:yu)
def FzL(H:Hp)(a:Addr)(vs:List V):Prop :=
 (∃o,H a=some (.frz o (.lst vs)))\/∃(o:YN)(its:Array Value)(n:Nat),K.lookup a=some o/\o.cls = .type "list"/\o.dict=none/\o.data = .seq its n/\its.size<=yB/\Vals vs its.toList
mutual
def RepV(ρ:List Addr)(H:Hp):D->V->Prop
 |.non,v=>v = .non
 |.bl b,v=>v = .bl b
 |.int i,v=>v = .int i
 |.str x,v=>v = .str x
 |.ty n,v=>v = .ty n
 |.tup ds,v=>∃a vs,v = .ref a/\H a=some (.tup vs)/\RepVs ρ H ds vs
 |.fz ds,v=>∃a vs,v = .ref a/\FzL K H a vs/\RepVs ρ H ds vs
 |.loc n,v=>∃a,v = .ref a/\ρ[n]?=some a
 |.own c,v=>∃a,v = .ref a/\Yh K ym c=some (some (.ref a))
def RepVs(ρ:List Addr)(H:Hp):List D->List V->Prop
 |[],vs=>vs=[]
 |d::ds,vs=>∃v r,vs=v::r/\RepV ρ H d v/\RepVs ρ H ds r
end
def RepX(ρ:List Addr)(H:Hp)(fs:List (Str×D))(dx:Option Addr):Prop:=(fs=[]/\dx=none)\/∃p vs,dx=some p/\H p=some (.xd vs)/\vs.map (·.1)=fs.map (·.1)/\RepVs K ρ H (fs.map (·.2)) (vs.map (·.2))
def RepO(ρ:List Addr)(H:Hp)(a:Addr):LObj->Prop
 |.lst ds=>∃vs,H a=some (.lst vs)/\RepVs K ρ H ds vs
 |.dct kvs=>∃vs,H a=some (.dK vs)/\vs.map (·.1)=kvs.map (fun p=>yG p.1)/\RepVs K ρ H (kvs.map (·.2)) (vs.map (·.2))
 |.dcf kvs=>∃o vs,H a=some (.frz o (.dK vs))/\vs.map (·.1)=kvs.map (fun p=>yG p.1)/\RepVs K ρ H (kvs.map (·.2)) (vs.map (·.2))
 |.exc c fs=>∃C dx,Yh K ym c=some (some (.ref C))/\H a=some (.ext (zgq a C dx))/\RepX K ρ H fs dx
 |.ins c fs=>∃C dx vs,Yh K ym c=some (some (.ref C))/\H a=some (.ins C dx vs)/\vs.map (·.1)=fs.map (·.1)/\RepVs K ρ H (fs.map (·.2)) (vs.map (·.2))
structure RepH(ρ:List Addr)(H:Hp)(μ:Mem):Prop where
 nd:ρ.Nodup
 len:ρ.length=μ.length
 at_:∀(n:Nat) a o,ρ[n]?=some a->μ[n]?=some o->RepO K ρ H a o
structure Ext(ρ:List Addr)(H:Hp)(ρ':List Addr)(H':Hp):Prop where
 pre:∃more,ρ'=ρ++more
 tup:∀a vs,H a=some (.tup vs)->H' a=some (.tup vs)
 frz:∀a o u,H a=some (.frz o u)->H' a=some (.frz o u)
 xd:∀a fs,H a=some (.xd fs)->H' a=some (.xd fs)
def RepSt(ρ:List Addr)(H:Hp)(σ:L2.St)(δ:Loc):Prop:=∀(i:Nat) d,δ[i]?=some (some d)->∃v,σ[i]?=some (some v)/\RepV K ρ H d v
end
section
variable {K:yu}{ρ ρ' ρ'':List Addr}{H H' H'':Hp}{μ:Mem}{σ:L2.St}{δ:Loc}
def Ext.refl:Ext ρ H ρ H:=⟨⟨[],by simp⟩,fun _ _ h=>h,fun _ _ _ h=>h,fun _ _ h=>h⟩
def Ext.trans(a:Ext ρ H ρ' H')(b:Ext ρ' H' ρ'' H''):Ext ρ H ρ'' H'':=by
 obtain⟨m,e⟩:=a.pre;obtain⟨m',e'⟩:=b.pre;exact⟨⟨m++m',by rw[e',e,append_assoc]⟩,fun _ _ h=>b.tup _ _ (a.tup _ _ h),fun _ _ _ h=>b.frz _ _ _ (a.frz _ _ _ h),fun _ _ h=>b.xd _ _ (a.xd _ _ h)⟩
def Ext.get(e:Ext ρ H ρ' H'){n:Nat}{a:Addr}(h:ρ[n]?=some a):ρ'[n]?=some a:=by
 obtain⟨m,e⟩:=e.pre;rw[e,yq (List.getElem?_eq_some_iff.mp h).1];exact h
def Ext.fz(e:Ext ρ H ρ' H'){a:Addr}{vs:List V}(h:FzL K H a vs):FzL K H' a vs:=by
 rcases h with ⟨o,h⟩ | h
 ·exact .inl ⟨o,e.frz _ _ _ h⟩
 ·exact .inr h
mutual
def RepV.ext(e:Ext ρ H ρ' H'):∀{d:D} {v:V},RepV K ρ H d v->RepV K ρ' H' d v
 |.non,_,h=>by unfold RepV at h ⊢;exact h
 |.bl _,_,h=>by unfold RepV at h ⊢;exact h
 |.int _,_,h=>by unfold RepV at h ⊢;exact h
 |.str _,_,h=>by unfold RepV at h ⊢;exact h
 |.ty _,_,h=>by unfold RepV at h ⊢;exact h
 |.tup ds,_,h=>by
  unfold RepV at h ⊢;obtain⟨a,vs,e1,e2,r⟩:=h;exact⟨a,vs,e1,e.tup _ _ e2,RepVs.ext e r⟩
 |.fz ds,_,h=>by
  unfold RepV at h ⊢;obtain⟨a,vs,e1,e2,r⟩:=h;exact⟨a,vs,e1,e.fz e2,RepVs.ext e r⟩
 |.loc n,_,h=>by
  unfold RepV at h ⊢;obtain⟨a,e1,e2⟩:=h;exact⟨a,e1,e.get e2⟩
 |.own c,_,h=>by unfold RepV at h ⊢;exact h
def RepVs.ext(e:Ext ρ H ρ' H'):∀{ds:List D} {vs:List V},RepVs K ρ H ds vs->RepVs K ρ' H' ds vs
 |[],_,h=>by unfold RepVs at h ⊢;exact h
 |d::ds,_,h=>by
  unfold RepVs at h ⊢;obtain⟨v,r,e1,h1,h2⟩:=h;exact⟨v,r,e1,RepV.ext e h1,RepVs.ext e h2⟩
end
def RepSt.ext(e:Ext ρ H ρ' H')(h:RepSt K ρ H σ δ):RepSt K ρ' H' σ δ:=fun i d q=>
 let ⟨v,e1,r⟩:=h i d q
 ⟨v,e1,r.ext e⟩
def RepVs.length:∀{ds:List D} {vs:List V},RepVs K ρ H ds vs->ds.length=vs.length
 |[],_,h=>by unfold RepVs at h;subst h;rfl
 |d::ds,_,h=>by
  unfold RepVs at h;obtain⟨v,r,e1,_,h2⟩:=h;subst e1;have:=RepVs.length h2;simp[this]
def RepVs.get:∀{ds:List D} {vs:List V} {i:Nat} {d:D},RepVs K ρ H ds vs->ds[i]?=some d->∃v,vs[i]?=some v/\RepV K ρ H d v
 |[],_,_,_,_,q=>by simp at q
 |d::ds,_,0,d',h,q=>by
  unfold RepVs at h;obtain⟨v,r,e1,h1,_⟩:=h;subst e1;simp at q;subst q;exact⟨v,by simp,h1⟩
 |d::ds,_,i+1,d',h,q=>by
  unfold RepVs at h;obtain⟨v,r,e1,_,h2⟩:=h;subst e1;obtain⟨w,e2,h3⟩:=RepVs.get (i:=i) h2 (by simpa using q);exact⟨w,by simpa using e2,h3⟩
def RepVs.cons{d:D}{v:V}{ds:List D}{vs:List V}(h1:RepV K ρ H d v)(h2:RepVs K ρ H ds vs):RepVs K ρ H (d::ds) (v::vs):=by
 unfold RepVs;exact⟨v,vs,rfl,h1,h2⟩
def RepVs.nil:RepVs K ρ H [] []:=by unfold RepVs;rfl
def RepVs.cons_inv{d:D}{ds:List D}{vs:List V}(h:RepVs K ρ H (d::ds) vs):∃v r,vs=v::r/\RepV K ρ H d v/\RepVs K ρ H ds r:=by
 unfold RepVs at h;exact h
def RepVs.nil_inv{vs:List V}(h:RepVs K ρ H [] vs):vs=[]:=by unfold RepVs at h;exact h
def RepVs.append:∀{ds es:List D} {vs us:List V},RepVs K ρ H ds vs->RepVs K ρ H es us->RepVs K ρ H (ds++es) (vs++us)
 |[],_,_,_,h,q=>by rw[h.nil_inv];exact q
 |d::ds,_,_,_,h,q=>by
  obtain⟨v,r,rfl,h1,h2⟩:=h.cons_inv;exact .cons h1 (RepVs.append h2 q)
def RepVs.take:∀{ds:List D} {vs:List V} (n:Nat),RepVs K ρ H ds vs->RepVs K ρ H (ds.take n) (vs.take n)
 |[],_,n,h=>by rw[h.nil_inv];simp[RepVs.nil]
 |d::ds,_,0,h=>by simp[RepVs.nil]
 |d::ds,_,n+1,h=>by
  obtain⟨v,r,rfl,h1,h2⟩:=h.cons_inv;simpa using RepVs.cons h1 (RepVs.take n h2)
def RepVs.drop:∀{ds:List D} {vs:List V} (n:Nat),RepVs K ρ H ds vs->RepVs K ρ H (ds.drop n) (vs.drop n)
 |[],_,n,h=>by rw[h.nil_inv];simp[RepVs.nil]
 |d::ds,_,0,h=>by simpa using h
 |d::ds,_,n+1,h=>by
  obtain⟨v,r,rfl,h1,h2⟩:=h.cons_inv;simpa using RepVs.drop n h2
def RepVs.set:∀{ds:List D} {vs:List V} {d:D} {v:V} (n:Nat),RepV K ρ H d v->RepVs K ρ H ds vs->RepVs K ρ H (ds.set n d) (vs.set n v)
 |[],_,_,_,n,_,h=>by rw[h.nil_inv];simp[RepVs.nil]
 |d::ds,_,_,_,0,q,h=>by
  obtain⟨v,r,rfl,h1,h2⟩:=h.cons_inv;simpa using RepVs.cons q h2
 |d::ds,_,_,_,n+1,q,h=>by
  obtain⟨v,r,rfl,h1,h2⟩:=h.cons_inv;simpa using RepVs.cons h1 (RepVs.set n q h2)
def RepV.int_inv{i:Int}{v:V}(h:RepV K ρ H (.int i) v):v = .int i:=by unfold RepV at h;exact h
def RepV.bl_inv{i:Bool}{v:V}(h:RepV K ρ H (.bl i) v):v = .bl i:=by unfold RepV at h;exact h
def RepV.non_inv{v:V}(h:RepV K ρ H .non v):v = .non:=by unfold RepV at h;exact h
def RepV.str_inv{x:Str}{v:V}(h:RepV K ρ H (.str x) v):v = .str x:=by unfold RepV at h;exact h
def RepV.tup_inv{ds:List D}{v:V}(h:RepV K ρ H (.tup ds) v):∃a vs,v = .ref a/\H a=some (.tup vs)/\RepVs K ρ H ds vs:=by unfold RepV at h;exact h
def RepV.fz_inv{ds:List D}{v:V}(h:RepV K ρ H (.fz ds) v):∃a vs,v = .ref a/\FzL K H a vs/\RepVs K ρ H ds vs:=by unfold RepV at h;exact h
def RepV.loc_inv{n:Nat}{v:V}(h:RepV K ρ H (.loc n) v):∃a,v = .ref a/\ρ[n]?=some a:=by unfold RepV at h;exact h
def RepV.int{i:Int}:RepV K ρ H (.int i) (.int i):=by unfold RepV;rfl
def RepV.bl{i:Bool}:RepV K ρ H (.bl i) (.bl i):=by unfold RepV;rfl
def RepV.non:RepV K ρ H .non .non:=by unfold RepV;rfl
def RepV.str{x:Str}:RepV K ρ H (.str x) (.str x):=by unfold RepV;rfl
def RepV.tup{ds:List D}{a:Addr}{vs:List V}(e:H a=some (.tup vs))(h:RepVs K ρ H ds vs):RepV K ρ H (.tup ds) (.ref a):=by unfold RepV;exact⟨a,vs,rfl,e,h⟩
def RepV.fz{ds:List D}{a:Addr}{vs:List V}(e:FzL K H a vs)(h:RepVs K ρ H ds vs):RepV K ρ H (.fz ds) (.ref a):=by unfold RepV;exact⟨a,vs,rfl,e,h⟩
def RepV.loc{n:Nat}{a:Addr}(e:ρ[n]?=some a):RepV K ρ H (.loc n) (.ref a):=by unfold RepV;exact⟨a,rfl,e⟩
def FzL.sq{a:Addr}{vs:List V}(h:FzL K H a vs):SqL K H a vs:=by
 rcases h with h | h
 ·exact .inl (.inr h)
 ·exact .inr h
def RepO.some{a:Addr}{o:LObj}(h:RepO K ρ H a o):∃u,H a=some u:=by
 cases o with
 |lst ds=>obtain⟨vs,e,_⟩:=h;exact⟨_,e⟩
 |dct kvs=>obtain⟨vs,e,_⟩:=h;exact⟨_,e⟩
 |dcf kvs=>obtain⟨o,vs,e,_⟩:=h;exact⟨_,e⟩
 |exc c fs=>obtain⟨C,dx,_,e,_⟩:=h;exact⟨_,e⟩
 |ins c fs=>obtain⟨C,dx,vs,_,e,_⟩:=h;exact⟨_,e⟩
def RepH.mem_some(R:RepH K ρ H μ){a:Addr}(h:a∈ρ):∃u,H a=some u:=by
 obtain⟨n,h1,e⟩:=List.mem_iff_getElem.mp h;have h2:n<μ.length:=by rw[<-R.len];exact h1
 exact(R.at_ n a μ[n] (by rw[yp h1,e]) (by simp[h2])).some
def RepX.ext{fs:List (Str×D)}{dx:Option Addr}(e:Ext ρ H ρ' H')(h:RepX K ρ H fs dx):RepX K ρ' H' fs dx:=by
 rcases h with h | ⟨p,vs,e1,e2,e3,r⟩
 ·exact .inl h
 ·exact .inr ⟨p,vs,e1,e.xd _ _ e2,e3,r.ext e⟩
def RepO.ext{a:Addr}{o:LObj}(e:Ext ρ H ρ' H')(h:RepO K ρ H a o)(s:H' a=H a):RepO K ρ' H' a o:=by
 cases o with
 |lst ds=>obtain⟨vs,q,r⟩:=h;exact⟨vs,s.trans q,r.ext e⟩
 |dct kvs=>obtain⟨vs,q,q2,r⟩:=h;exact⟨vs,s.trans q,q2,r.ext e⟩
 |dcf kvs=>obtain⟨o,vs,q,q2,r⟩:=h;exact⟨o,vs,s.trans q,q2,r.ext e⟩
 |exc c fs=>obtain⟨C,dx,n,q,r⟩:=h;exact⟨C,dx,n,s.trans q,r.ext e⟩
 |ins c fs=>obtain⟨C,dx,vs,n,q,q2,r⟩:=h;exact⟨C,dx,vs,n,s.trans q,q2,r.ext e⟩
def Ext.new{p:Addr}{o:HO}(hp:H p=none):Ext ρ H ρ (upd H p o) :=
 ⟨⟨[],by simp⟩,fun a vs e=>by rw[zH (zC e hp)];exact e,fun a o u e=>by rw[zH (zC e hp)];exact e,fun a fs e=>by rw[zH (zC e hp)];exact e⟩
def RepH.other(R:RepH K ρ H μ)(e:Ext ρ H ρ H')(s:∀a∈ρ,H' a=H a):RepH K ρ H' μ :=
 ⟨R.nd,R.len,fun n a o h1 h2=>(R.at_ n a o h1 h2).ext e (s a (mem_of_getElem? h1))⟩
def RepH.newTup(R:RepH K ρ H μ){p:Addr}{o:HO}(hp:H p=none):RepH K ρ (upd H p o) μ :=
 R.other (Ext.new hp) fun a ha=>by
  obtain⟨u,e⟩:=R.mem_some ha;exact zH (zC e hp)
def Ext.push{p:Addr}{o:HO}(hp:H p=none):Ext ρ H (ρ++[p]) (upd H p o) :=
 ⟨⟨[p],rfl⟩,(Ext.new (ρ:=ρ) hp).tup,(Ext.new (ρ:=ρ) hp).frz,(Ext.new (ρ:=ρ) hp).xd⟩
def RepH.push(R:RepH K ρ H μ){p:Addr}{o:HO}{lo:LObj}(hp:H p=none)(h:RepO K (ρ++[p]) (upd H p o) p lo):RepH K (ρ++[p]) (upd H p o) (μ++[lo]):=by
 refine⟨?_,by simp[R.len],fun n a u h1 h2=>?_⟩
 ·rw[nodup_append];refine⟨R.nd,by simp,fun a ha b hb=>?_⟩;simp at hb;subst hb;obtain⟨u,e⟩:=R.mem_some ha;exact zC e hp
 ·by_cases hn:n<ρ.length
  ·rw[yq hn]at h1;rw[yq (by rw[<-R.len];exact hn)]at h2;have q:=R.at_ n a u h1 h2;obtain⟨z,e⟩:=q.some;exact q.ext (Ext.push hp) (zH (zC e hp))
  ·have hl:n<(ρ++[p]).length:=(List.getElem?_eq_some_iff.mp h1).1;have e:n=ρ.length:=by simp at hl;omega
   subst e;rw[yK (yi _)]at h1;rw[R.len,yK (yi _)]at h2;simp at h1 h2;subst h1 h2;exact h
def zEb{p:Addr}(R:RepH K ρ H μ):(ρ++[p])[μ.length]?=some p:=by
 rw[<-R.len];simp
def Ext.wr{p:Addr}{o:HO}(hm:Mut (H p)):Ext ρ H ρ (upd H p o) :=
 ⟨⟨[],by simp⟩,fun a vs e=>by rw[zH (by rintro rfl;rw[e]at hm;exact hm)];exact e,fun a o u e=>by rw[zH (by rintro rfl;rw[e]at hm;exact hm)];exact e,fun a fs e=>by rw[zH (by rintro rfl;rw[e]at hm;exact hm)];exact e⟩
def RepH.wr(R:RepH K ρ H μ){n:Nat}{p:Addr}{o:HO}{lo:LObj}(hm:Mut (H p))(hn:ρ[n]?=some p)(h:RepO K ρ (upd H p o) p lo):RepH K ρ (upd H p o) (μ.set n lo):=by
 have hlt:=(List.getElem?_eq_some_iff.mp hn).1;refine⟨R.nd,by simp[R.len],fun m a u h1 h2=>?_⟩
 by_cases hmn:m=n
 ·subst hmn;rw[hn]at h1;cases h1;rw[yM (by rw[<-R.len];exact hlt)]at h2;cases h2;exact h
 ·rw[yJ (yN hmn)]at h2
  have hap:a≠p:=by
   rintro rfl;obtain⟨x1,y1⟩:=List.getElem?_eq_some_iff.mp h1;obtain⟨x2,y2⟩:=List.getElem?_eq_some_iff.mp hn;exact hmn ((List.getElem_inj R.nd).mp (y1.trans y2.symm))
  exact(R.at_ m a u h1 h2).ext (Ext.wr hm) (zH hap)
end
abbrev FE:=Loc->Mem->Option (D×Mem)
abbrev FT:=Loc->Mem->Option (Bool×Mem)
abbrev FA:=Loc->Mem->Option (List D×Mem)
inductive Out where
 |next (δ:Loc) (μ:Mem) | ret (d:D) (μ:Mem) | brk (δ:Loc) (μ:Mem) | cont (δ:Loc) (μ:Mem)
  |exc (c:Str) (fs:List (Str×D)) (μ:Mem)
abbrev FS:=Loc->Mem->Option Out
section
variable (K:yu)
structure At(ρ:List Addr)(H:Hp)(σ:L2.St)(δ:Loc)(μ:Mem):Prop where
 st:RepSt K ρ H σ δ
 hp:RepH K ρ H μ
 len:σ.length=δ.length
def tM(φ:FE):TE:=fun σ H Q=>∃ρ δ μ d μ',At K ρ H σ δ μ/\φ δ μ=some (d,μ')/\∀ρ' H' v,Ext ρ H ρ' H'->RepH K ρ' H' μ'->RepV K ρ' H' d v->Q v H'
def tMT(φ:FT):TT:=fun σ H Q=>∃ρ δ μ b μ',At K ρ H σ δ μ/\φ δ μ=some (b,μ')/\∀ρ' H',Ext ρ H ρ' H'->RepH K ρ' H' μ'->Q b H'
def tMA(φ:FA):TA:=fun σ H Q=>∃ρ δ μ ds μ',At K ρ H σ δ μ/\φ δ μ=some (ds,μ')/\∀ρ' H' vs,Ext ρ H ρ' H'->RepH K ρ' H' μ'->RepVs K ρ' H' ds vs->Q vs H'
def OutOk(W:XK)(ρ:List Addr)(H:Hp)(E:Ends):Out->Prop
 |.next δ' μ'=>∀ρ' σ' H',Ext ρ H ρ' H'->At K ρ' H' σ' δ' μ'->E.nx σ' H'
 |.brk δ' μ'=>∀ρ' σ' H',Ext ρ H ρ' H'->At K ρ' H' σ' δ' μ'->E.bk σ' H'
 |.cont δ' μ'=>∀ρ' σ' H',Ext ρ H ρ' H'->At K ρ' H' σ' δ' μ'->E.ct σ' H'
 |.ret d μ'=>∀ρ' v H',Ext ρ H ρ' H'->RepH K ρ' H' μ'->RepV K ρ' H' d v->E.rt v H'
 |.exc c fs μ'=>∀ρ' H' C dx,PySem.W.nsIn K ym c=some (some (.ref C))->Ext ρ H ρ' H'->RepH K ρ' H' μ'->RepX K ρ' H' fs dx->W (.ref C) dx H'
def tMS(W:XK)(ψ:FS):TS:=fun E σ H=>∃ρ δ μ o,At K ρ H σ δ μ/\ψ δ μ=some o/\OutOk K W ρ H E o
end
def ME(X:Cx)(e:Expr)(φ:FE):Prop:=PE X e (tM X.K φ)
def MT(X:Cx)(e:Expr)(φ:FT):Prop:=PT X e (tMT X.K φ)
def MW(X:Cx)(e:Expr)(φ:FT):Prop:=PW X e (tMT X.K φ)
def MA(X:Cx)(es:List Expr)(φ:FA):Prop:=PA X es (tMA X.K φ)
def MS(X:Cx)(st:Stmt)(ψ:FS):Prop:=PS X st (tMS X.K (zjm X) ψ)
def MSs(X:Cx)(st:List Stmt)(ψ:FS):Prop:=PSs X st (tMS X.K (zjm X) ψ)
abbrev FF:=List D->Mem->Option (D×Mem)
def spM(K:yu)(n:Nat)(F:FF):Sp:=fun vs H Q _=>vs.length=n/\∃ρ ds μ d μ',RepVs K ρ H ds vs/\RepH K ρ H μ/\F ds μ=some (d,μ')/\∀ρ' H' v,Ext ρ H ρ' H'->RepH K ρ' H' μ'->RepV K ρ' H' d v->Q v H'
def At.ext{K:yu}{ρ ρ':List Addr}{H H':Hp}{σ:L2.St}{δ:Loc}{μ μ':Mem}(a:At K ρ H σ δ μ)(e:Ext ρ H ρ' H')(R:RepH K ρ' H' μ'):At K ρ' H' σ δ μ':=⟨a.st.ext e,R,a.len⟩
def zfe{X:Cx}{e:Expr}{t:TE}{φ:FE}(h:PE X e t)(w:∀ρ δ μ σ H d μ' Q,At X.K ρ H σ δ μ->φ δ μ=some (d,μ')->(∀ρ' H' v,Ext ρ H ρ' H'->RepH X.K ρ' H' μ'->RepV X.K ρ' H' d v->Q v H')->t σ H Q):ME X e φ :=
 by intro pins s σ H Q I hh;obtain⟨ρ,δ,μ,d,μ',a,e,k⟩:=hh;exact h pins s σ H Q I (w ρ δ μ σ H d μ' Q a e k)
def zKw{X:Cx}{e:Expr}{t:TT}{φ:FT}(h:PT X e t)(w:∀ρ δ μ σ H b μ' Q,At X.K ρ H σ δ μ->φ δ μ=some (b,μ')->(∀ρ' H',Ext ρ H ρ' H'->RepH X.K ρ' H' μ'->Q b H')->t σ H Q):MT X e φ :=
 by intro pins s σ H Q I hh;obtain⟨ρ,δ,μ,d,μ',a,e,k⟩:=hh;exact h pins s σ H Q I (w ρ δ μ σ H d μ' Q a e k)
def zHx{X:Cx}{e:Expr}{t:TT}{φ:FT}(h:PW X e t)(w:∀ρ δ μ σ H b μ' Q,At X.K ρ H σ δ μ->φ δ μ=some (b,μ')->(∀ρ' H',Ext ρ H ρ' H'->RepH X.K ρ' H' μ'->Q b H')->t σ H Q):MW X e φ :=
 fun wh pins s σ H Q I ⟨ρ,δ,μ,d,μ',a,e,k⟩=>h wh pins s σ H Q I (w ρ δ μ σ H d μ' Q a e k)
def zjx{X:Cx}{e:List Expr}{t:TA}{φ:FA}(h:PA X e t)(w:∀ρ δ μ σ H ds μ' Q,At X.K ρ H σ δ μ->φ δ μ=some (ds,μ')->(∀ρ' H' vs,Ext ρ H ρ' H'->RepH X.K ρ' H' μ'->RepVs X.K ρ' H' ds vs->Q vs H')->t σ H Q):MA X e φ :=
 fun pos pins s σ H Q I ⟨ρ,δ,μ,d,μ',a,e,k⟩=>h pos pins s σ H Q I (w ρ δ μ σ H d μ' Q a e k)
def zGj{X:Cx}{e:Stmt}{t:TS}{ψ:FS}(h:PS X e t)(w:∀ρ δ μ σ H o E,At X.K ρ H σ δ μ->ψ δ μ=some o->OutOk X.K (zjm X) ρ H E o->t E σ H):MS X e ψ :=
 by intro pins s σ H E I hh;obtain⟨ρ,δ,μ,o,a,e,k⟩:=hh;exact h pins s σ H E I (w ρ δ μ σ H o E a e k)
def zYu{X:Cx}{e:List Stmt}{t:TS}{ψ:FS}(h:PSs X e t)(w:∀ρ δ μ σ H o E,At X.K ρ H σ δ μ->ψ δ μ=some o->OutOk X.K (zjm X) ρ H E o->t E σ H):MSs X e ψ :=
 by intro pins s σ H E I hh;obtain⟨ρ,δ,μ,o,a,e,k⟩:=hh;exact h pins s σ H E I (w ρ δ μ σ H o E a e k)
end M
namespace M
open PySem PySem.Spec PyProof.Rows L2
def zh{α β:Type}{o:Option α}{f:α->Option β}{b:β}(h:o.bind f=some b):∃a,o=some a/\f a=some b:=by
 cases o with
 |none=>cases h
 |some a=>exact⟨a,rfl,h⟩
section
variable {X:Cx}{a b c e:Expr}{es:List Expr}{φ ψ χ:FE}{pos:xp}
@[simp] def zm(i:Nat):FE:=fun δ μ=>match δ[i]? with
 |some (some d)=>some (d,μ)
 |_=>none
@[simp] def fC(d:D):FE:=fun _ μ=>some (d,μ)
def zfy{i:Nat}{x:Str}(h:PE X (.Name x pos) (zhz i)):ME X (.Name x pos) (zm i) :=
 zfe h fun ρ δ μ σ H d μ' Q A e k=>by
  unfold zm at e
  split at e
  ·rename_i d' hd
   cases e;obtain⟨v,hv,r⟩:=A.st i _ hd;exact⟨v,hv,k ρ H v Ext.refl A.hp r⟩
  ·cases e
def zzx{v:V}{d:D}(h:PE X e (tC v))(r:∀ρ H,RepV X.K ρ H d v):ME X e (fC d) :=
 zfe h fun ρ δ μ σ H d' μ' Q A e k=>by
  cases e;exact k ρ H v Ext.refl A.hp (r ρ H)
def zo{i j}:ME X (.Constant (.int i) j pos) (fC (.int i)):=zzx z5x fun _ _ => .int
def z0k{i j}:ME X (.Constant (.bool i) j pos) (fC (.bl i)):=zzx z9y fun _ _ => .bl
def zXc{j}:ME X (.Constant .none j pos) (fC .non):=zzx zOx fun _ _ => .non
def zRe{x j}:ME X (.Constant (.str x) j pos) (fC (.str x)):=zzx zSx fun _ _ => .str
def mv(i:Nat){x:Str}(hN:X.N[i]?=some x:=by rfl)(hv:Vis X.env.scope x:=by first | exact Or.inl rfl | exact Or.inr (Or.inl rfl) | exact Or.inr (Or.inr rfl))(hd:(x==("__debug__":Str))=false:=by decide)
 (hcd:(x==("__classdict__":Str))=false:=by decide):ME X (.Name x pos) (zm i):=zfy (zWu hN hv hd hcd)
def z5s{x:Str}{i:Int}(hm:∃t,X.mg x=some (.int i t))(hg:Gl X x:=by rfl)(hd:(x==("__debug__":Str))=false:=by decide):ME X (.Name x pos) (fC (.int i)) :=
 let ⟨t,ht⟩:=hm
 zzx (zqv (v:=V.int i) hg ht ⟨t,rfl⟩ hd) fun _ _ => .int
abbrev G2:=D->D->Mem->Option (D×Mem)
def rM(K:yu)(g:G2):R2:=fun x y H Q=>∃ρ dx dy μ d μ',RepV K ρ H dx x/\RepV K ρ H dy y/\RepH K ρ H μ/\g dx dy μ=some (d,μ')/\∀ρ' H' v,Ext ρ H ρ' H'->RepH K ρ' H' μ'->RepV K ρ' H' d v->Q v H'
def OpM(X:Cx)(f:Value->Value->Sem Value)(g:G2):Prop:=OpR X f (rM X.K g)
def OpM.of{X:Cx}{f:Value->Value->Sem Value}{g:G2}(h:∀(pins:List (Addr×YN)) (s:yb) (σ:L2.St) (H:Hp) (x y:V) (v u:Value) (Q:VK),Inv X pins σ H s->RelV x v->RelV y u->∀(ρ:List Addr)(dx dy:D)(μ:Mem)(d:D)(μ':Mem),RepV X.K ρ H dx x->RepV X.K ρ H dy y->RepH X.K ρ H μ->g dx dy μ=some (d,μ')->(∀ρ' H' v,Ext ρ H ρ' H'->RepH X.K ρ' H' μ'->RepV X.K ρ' H' d v->Q v H')->yn (yr X.prog X.w) X.A (f v u) (EP X pins σ Q) X.xe s):OpM X f g:=by
 intro pins s σ H x y v u Q I rx ry hh;obtain⟨ρ,dx,dy,μ,d,μ',r1,r2,R,e,k⟩:=hh;exact h pins s σ H x y v u Q I rx ry ρ dx dy μ d μ' r1 r2 R e k
@[simp] def zD(g:G2)(φ ψ:FE):FE:=fun δ μ=>(φ δ μ).bind fun p=>(ψ δ p.2).bind fun q=>g p.1 q.1 q.2
def z3s{g:G2}{ρ:List Addr}{δ:Loc}{μ:Mem}{σ:L2.St}{H:Hp}{d:D}{μ':Mem}{Q:VK}(A:At X.K ρ H σ δ μ)(e:zD g φ ψ δ μ=some (d,μ'))
 (k:∀ρ' H' v,Ext ρ H ρ' H'->RepH X.K ρ' H' μ'->RepV X.K ρ' H' d v->Q v H'):tOp (rM X.K g) (tM X.K φ) (tM X.K ψ) σ H Q:=by
 obtain⟨⟨x,μ1⟩,e1,e⟩:=zh e;obtain⟨⟨y,μ2⟩,e2,e⟩:=zh e;refine⟨ρ,δ,μ,x,μ1,A,e1,fun ρ1 H1 v x1 R1 r1=>?_⟩;refine⟨ρ1,δ,μ1,y,μ2,A.ext x1 R1,e2,fun ρ2 H2 u x2 R2 r2=>?_⟩;exact⟨ρ2,x,y,μ2,d,μ',r1.ext x2,r2,R2,e,fun ρ3 H3 w x3 R3 r3=>k ρ3 H3 w (x1.trans (x2.trans x3)) R3 r3⟩
def z5{op:Operator}{g:G2}(ho:OpM X (xq op) g)(ha:ME X a φ)(hb:ME X b ψ):ME X (.BinOp a op b pos) (zD g φ ψ) :=
 zfe (zpz ho ha hb) fun _ _ _ _ _ _ _ _ A e k=>z3s A e k
def zre{op:CmpOp}{g:G2}(ho:OpM X (Yn op) g)(ha:ME X a φ)(hb:ME X b ψ)(hm:behindInMarks op b=false:=by first | exact nobehind _ (by decide) (by decide) | rfl | with_unfolding_all rfl):ME X (.Compare a [op] [b] pos) (zD g φ ψ) :=
 zfe (zxv ho ha hb hm) fun _ _ _ _ _ _ _ _ A e k=>z3s A e k
@[simp] def zR(φ:FE):FT:=fun δ μ=>(φ δ μ).bind fun p=>match p.1 with
 |.bl b=>some (b,p.2)
 |_=>none
def zGp{δ:Loc}{μ μ':Mem}{b:Bool}(h:zR φ δ μ=some (b,μ')):φ δ μ=some (.bl b,μ'):=by
 obtain⟨⟨x,μ1⟩,e1,e⟩:=zh h;dsimp only at e
 split at e
 ·cases e;exact e1
 ·cases e
def zX{op:CmpOp}{g:G2}(ho:OpM X (Yn op) g)(ha:ME X a φ)(hb:ME X b ψ)(hm:behindInMarks op b=false:=by first | exact nobehind _ (by decide) (by decide) | rfl | with_unfolding_all rfl):MT X (.Compare a [op] [b] pos) (zR (zD g φ ψ)) :=
 zKw (zMw ho ha hb hm) fun ρ δ μ σ H b μ' Q A e k=>z3s (Q:=fun x H'=>∃k,x = .bl k/\Q k H') A (zGp e) fun ρ' H' v x R r=>⟨b,r.bl_inv,k ρ' H' x R⟩
@[simp] def zxl:G2:=fun x y μ=>match x,y with
 |.int i, .int j=>some (.int (i+j),μ)
 |.tup as, .tup bs=>bif decide (as.length+bs.length<=1000000) then some (.tup (as++bs),μ) else none
 |.loc l, .loc m=>match μ[l]?,μ[m]? with
  |some (.lst as),some (.lst bs)=>bif decide (as.length+bs.length<=1000000) then some (.loc μ.length,μ++[.lst (as++bs)]) else none
  |_,_=>none
 |_,_=>none
@[simp] def zpt:G2:=fun x y μ=>match x,y with
 |.int i, .int j=>some (.int (i-j),μ)
 |_,_=>none
def zIk(i j:Int):Bool:=decide (-(2^64)<i/\i<2^64)||decide (-(2^64)<j/\j<2^64)||(decide (i.natAbs<2^1000)&&decide (j.natAbs<2^1000))
def z5t{i j:Int}(h:zIk i j=true):IntMulOk i j:=by
 unfold zIk at h;rw[Bool.or_eq_true,Bool.or_eq_true,yE]at h;rcases h with (h | h) | ⟨h1,h2⟩
 ·have h:=of_decide_eq_true h;exact .of_left (intBits_le_64 h.1 h.2)
 ·have h:=of_decide_eq_true h;exact .of_right (intBits_le_64 h.1 h.2)
 ·exact .of_le (m:=1000) (n:=1000) (intBits_le (of_decide_eq_true h1)) (intBits_le (of_decide_eq_true h2)) (by decide)
def zGk:G2:=fun x y μ=>match x,y with
 |.int i, .int j=>bif zIk i j then some (.int (i*j),μ) else none
 |.tup ds, .int n=>bif decide (2<=n/\n<=1000/\0<ds.length/\ds.length<=1000) then some (.tup (yA n.toNat ds).flatten,μ) else none
 |.loc l, .int n=>match μ[l]? with
  |some (.lst ds)=>bif decide (n<=1000/\-(2^62)<=n/\ds.length<=1000) then some (.loc μ.length,μ++[.lst (yA n.toNat ds).flatten]) else none
  |_=>none
 |_,_=>none
@[simp] def zui:G2:=fun x y μ=>match x,y with
 |.int i, .int j=>bif decide (0<j) then some (.int (i%j),μ) else none
 |_,_=>none
@[simp] def z2o:G2:=fun x y μ=>match x,y with
 |.int i, .int j=>bif decide (0<j/\j<1606938044258990275541962092341162602522202993782792835301376) then some (.int (i / j),μ) else none
 |_,_=>none
def zRx:G2:=fun x y μ=>match x,y with
 |.int i, .int j=>bif decide (0<=j/\j<=100000/\i.natAbs<1606938044258990275541962092341162602522202993782792835301376) then some (.int (i^j.toNat),μ) else none
 |_,_=>none
def zQ{α:Type}{c:Bool}{o:Option α}{x:α}(h:(bif c then o else none)=some x):c=true/\o=some x:=by
 cases c with
 |true=>exact⟨rfl,h⟩
 |false=>cases h
def zpm{f:Value->Value->Sem Value}{g:G2}{C:Int->Int->Prop}{h:Int->Int->Int}(o:OpR X f (rI C fun i j => .int (h i j)))
 (w:∀x y μ d μ',g x y μ=some (d,μ')->∃i j,x = .int i/\y = .int j/\C i j/\d = .int (h i j)/\μ'=μ):OpM X f g:=by
 refine OpM.of fun pins s σ H x y v u Q I rx ry ρ dx dy μ d μ' r1 r2 R e k=>?_;obtain⟨i,j,rfl,rfl,hc,rfl,rfl⟩:=w _ _ _ _ _ e;refine o pins s σ H x y v u Q I rx ry ⟨i,j,r1.int_inv,r2.int_inv,hc,?_⟩;exact k ρ H _ Ext.refl R .int
def z9n:OpM X (xq .Sub) zpt:=zpm (C:=fun _ _=>True) (h:=fun i j=>i-j) (opI fun _ _ _ _ _ _ _ _ q=>sub_int q) fun x y μ d μ' e=>by
 unfold zpt at e
 split at e
 ·cases e;exact⟨_,_,rfl,rfl,trivial,rfl,rfl⟩
 ·cases e
def zGb:OpM X (xq .Mod) zui:=zpm (h:=fun i j=>i%j) zcx fun x y μ d μ' e=>by
 unfold zui at e
 split at e
 ·obtain⟨h1,e⟩:=zQ e;cases e;have h2:=of_decide_eq_true h1;exact⟨_,_,rfl,rfl,h2,rfl,rfl⟩
 ·cases e
def zDy(i j:Int):Prop:=0<j/\j<1606938044258990275541962092341162602522202993782792835301376
def zzu:OpR X (xq .FloorDiv) (rI zDy fun i j => .int (i / j)):=opI fun i j _ _ _ _ _ hc q=>by
 have h1:(0:Int)<j:=hc.1;have h2:j<1606938044258990275541962092341162602522202993782792835301376:=hc.2;refine floordiv_int (by omega) (by rw[Int.fdiv_eq_ediv_of_nonneg i (by omega)];exact q) (.inl (PyProof.noPylong_of_log2 ?_));have:j.natAbs.log2<200:=(Nat.log2_lt (by omega)).mpr (by rw[show 2^200=1606938044258990275541962092341162602522202993782792835301376 from rfl];omega);omega
def z1f:OpM X (xq .FloorDiv) z2o:=zpm (C:=zDy) (h:=fun i j=>i / j) zzu fun x y μ d μ' e=>by
 unfold z2o at e
 split at e
 ·obtain⟨h1,e⟩:=zQ e;cases e;have h2:=of_decide_eq_true h1;exact⟨_,_,rfl,rfl,h2,rfl,rfl⟩
 ·cases e
def zWx(i j:Int):Prop:=0<=j/\j<=100000/\i.natAbs<1606938044258990275541962092341162602522202993782792835301376
def zkv:OpR X (xq .Pow) (rI zWx fun i j => .int (i^j.toNat)):=opI fun i j _ _ _ _ _ hc q=>by
 refine pow_int hc.1 ?_ q;have hb:Builtin.Int.intBits i<=200:=intBits_le (by rw[show 2^200=1606938044258990275541962092341162602522202993782792835301376 from rfl];exact hc.2.2);have h2:=hc.2.1;have h1:=hc.1
 calc (Builtin.Int.intBits i:Int)*j<=200*100000:=Int.mul_le_mul (by omega) h2 h1 (by omega)
  _<=2^27:=by decide
def z3v:OpM X (xq .Pow) zRx:=zpm (C:=zWx) (h:=fun i j=>i^j.toNat) zkv fun x y μ d μ' e=>by
 unfold zRx at e
 split at e
 ·obtain⟨h1,e⟩:=zQ e;cases e;have h2:=of_decide_eq_true h1;exact⟨_,_,rfl,rfl,h2,rfl,rfl⟩
 ·cases e
@[simp] def zVk(p:Int->Int->Bool):G2:=fun x y μ=>match x,y with
 |.int i, .int j=>some (.bl (p i j),μ)
 |_,_=>none
def zyo{f:Value->Value->Sem Value}{p:Int->Int->Bool}(o:OpR X f (rI0 fun i j => .bl (p i j))):OpM X f (zVk p):=by
 refine OpM.of fun pins s σ H x y v u Q I rx ry ρ dx dy μ d μ' r1 r2 R e k=>?_;unfold zVk at e
 split at e
 ·cases e;exact o pins s σ H x y v u Q I rx ry ⟨_,_,r1.int_inv,r2.int_inv,k ρ H _ Ext.refl R .bl⟩
 ·cases e
def zzi:OpM X (Yn .Lt) (zVk fun i j=>decide (i<j)):=zyo z5y
def zns:OpM X (Yn .Gt) (zVk fun i j=>decide (j<i)):=zyo zcz
def zsy:OpM X (Yn .GtE) (zVk fun i j=>decide (j<=i)):=zyo znz
@[simp] def zTw(φ ψ:FE):FE:=fun δ μ=>(φ δ μ).bind fun p=>match p.1 with
 |.bl true=>ψ δ p.2
 |.bl false=>some (.bl false,p.2)
 |_=>none
@[simp] def fOr(φ ψ:FE):FE:=fun δ μ=>(φ δ μ).bind fun p=>match p.1 with
 |.bl false=>ψ δ p.2
 |.bl true=>some (.bl true,p.2)
 |_=>none
@[simp] def z1z(φ:FE):FE:=fun δ μ=>(φ δ μ).bind fun p=>match p.1 with
 |.bl b=>some (.bl (!b),p.2)
 |_=>none
def zFr{op}(h:ME X a φ):ME X (.BoolOp op [a] pos) φ:=ziy h
def z5o{rest:List Expr}(ha:ME X a φ)(hb:ME X (.BoolOp .And (b::rest) pos) ψ):ME X (.BoolOp .And (a::b::rest) pos) (zTw φ ψ) :=
 zfe (zvx ha hb) fun ρ δ μ σ H d μ' Q A e k=>by
  obtain⟨⟨x,μ1⟩,e1,e⟩:=zh e;refine⟨ρ,δ,μ,x,μ1,A,e1,fun ρ1 H1 v x1 R1 r1=>?_⟩;dsimp only at e
  split at e
  ·exact⟨true,r1.bl_inv,iteT ⟨ρ1,δ,μ1,d,μ',A.ext x1 R1,e,fun ρ2 H2 w x2 R2 r2=>k ρ2 H2 w (x1.trans x2) R2 r2⟩⟩
  ·cases e;exact⟨false,r1.bl_inv,iteF (k ρ1 H1 _ x1 R1 .bl)⟩
  ·cases e
@[simp] def zJj(φ ψ:FT):FT:=fun δ μ=>(φ δ μ).bind fun p=>bif p.1 then ψ δ p.2 else some (false,p.2)
@[simp] def zas(φ ψ:FT):FT:=fun δ μ=>(φ δ μ).bind fun p=>bif p.1 then some (true,p.2) else ψ δ p.2
@[simp] def zMk(φ:FT):FT:=fun δ μ=>(φ δ μ).bind fun p=>some (!p.1,p.2)
def z4f{φ:FE}(h:ME X a φ)(he:∀whole,isTrue a X.env whole=(do let v <-whole;standAt a.pos;xC [v] (truthy v)):=by intro _;rfl):MT X a (zR φ) :=
 zKw (zwx h he) fun ρ δ μ σ H b μ' Q A e k=>⟨ρ,δ,μ, .bl b,μ',A,zGp e,fun ρ' H' v x R r=>⟨b,r.bl_inv,k ρ' H' x R⟩⟩
def MW.mt{φ:FT}(h:MW X a φ):MT X a φ:=h _
def zck{φ:FT}(h:MT X a φ):MW X (.BoolOp .And [a] pos) φ:=zGw h
def zVj{φ:FT}(h:MT X a φ):MW X (.BoolOp .Or [a] pos) φ:=zrx h
def zJl{φ ψ:FT}{rest:List Expr}(ha:MT X a φ)(hb:MW X (.BoolOp .And (b::rest) pos) ψ):MW X (.BoolOp .And (a::b::rest) pos) (zJj φ ψ) :=
 zHx (zux ha hb) fun ρ δ μ σ H b μ' Q A e k=>by
  obtain⟨⟨x,μ1⟩,e1,e⟩:=zh e;refine⟨ρ,δ,μ,x,μ1,A,e1,fun ρ1 H1 x1 R1=>?_⟩
  cases x with
  |true=>exact iteT ⟨ρ1,δ,μ1,b,μ',A.ext x1 R1,e,fun ρ2 H2 x2 R2=>k ρ2 H2 (x1.trans x2) R2⟩
  |false=>
   cases e;exact iteF (k ρ1 H1 x1 R1)
def zin{φ ψ:FT}{rest:List Expr}(ha:MT X a φ)(hb:MW X (.BoolOp .Or (b::rest) pos) ψ):MW X (.BoolOp .Or (a::b::rest) pos) (zas φ ψ) :=
 zHx (zoz ha hb) fun ρ δ μ σ H b μ' Q A e k=>by
  obtain⟨⟨x,μ1⟩,e1,e⟩:=zh e;refine⟨ρ,δ,μ,x,μ1,A,e1,fun ρ1 H1 x1 R1=>?_⟩
  cases x with
  |false=>exact iteF ⟨ρ1,δ,μ1,b,μ',A.ext x1 R1,e,fun ρ2 H2 x2 R2=>k ρ2 H2 (x1.trans x2) R2⟩
  |true=>
   cases e;exact iteT (k ρ1 H1 x1 R1)
def zWn{φ:FT}(ha:MT X a φ):MT X (.UnaryOp .Not a pos) (zMk φ) :=
 zKw (zXx ha) fun ρ δ μ σ H b μ' Q A e k=>by
  obtain⟨⟨x,μ1⟩,e1,e⟩:=zh e;cases e;exact⟨ρ,δ,μ,x,μ1,A,e1,fun ρ1 H1 x1 R1=>k ρ1 H1 x1 R1⟩
structure MAn(X:Cx)(es:List Expr)(φ:FA):Prop where
 ma:MA X es φ
 len:∀δ μ ds μ',φ δ μ=some (ds,μ')->ds.length=es.length
@[simp] def zJ:FA:=fun _ μ=>some ([],μ)
@[simp] def zi(φ:FE)(ψ:FA):FA:=fun δ μ=>(φ δ μ).bind fun p=>(ψ δ p.2).bind fun q=>some (p.1::q.1,q.2)
def ze:MAn X [] zJ:=⟨zjx zUh fun ρ δ μ σ H ds μ' Q A e k=>by
 cases e;exact k ρ H [] Ext.refl A.hp .nil,fun _ _ _ _ e=>by cases e;rfl⟩
def zIx:Expr->Bool
 |.Starred ..=>false
 |_=>true
def zZc{e:Expr}{es:List Expr}{env:Env}(h:zIx e=true):yf (e::es) env=(false,yW e env)::yf es env:=by
 cases e<;>first | rfl | cases h
def zb{φ:FE}{ψ:FA}(ha:ME X e φ)(hr:MAn X es ψ)(hs:yf (e::es) X.env=(false,yW e X.env)::yf es X.env:=by exact zZc rfl):MAn X (e::es) (zi φ ψ) :=
 ⟨zjx (zLe ha hr.ma hs) fun ρ δ μ σ H ds μ' Q A e k=>by
  obtain⟨⟨x,μ1⟩,e1,e⟩:=zh e;obtain⟨⟨y,μ2⟩,e2,e⟩:=zh e;cases e;refine⟨ρ,δ,μ,x,μ1,A,e1,fun ρ1 H1 v x1 R1 r1=>?_⟩;refine⟨ρ1,δ,μ1,y,μ2,A.ext x1 R1,e2,fun ρ2 H2 u x2 R2 r2=>?_⟩;exact k ρ2 H2 _ (x1.trans x2) R2 (.cons (r1.ext x2) r2),fun δ μ ds μ' e=>by
  obtain⟨⟨x,μ1⟩,e1,e⟩:=zh e;obtain⟨⟨y,μ2⟩,e2,e⟩:=zh e;cases e;have:=hr.len _ _ _ _ e2;simp[this]⟩
@[simp] def zPm(φ:FA):FE:=fun δ μ=>(φ δ μ).bind fun p=>some (.tup p.1,p.2)
@[simp] def znm(φ:FA):FE:=fun δ μ=>(φ δ μ).bind fun p=>some (.loc p.2.length,p.2++[.lst p.1])
def zee{x1}{φ:FA}(h:MAn X es φ)(hn:es.length<=1000:=by decide):ME X (.Tuple es x1 pos) (zPm φ) :=
 zfe (zoy h.ma) fun ρ δ μ σ H d μ' Q A e k=>by
  obtain⟨⟨x,μ1⟩,e1,e⟩:=zh e;cases e;refine⟨ρ,δ,μ,x,μ1,A,e1,fun ρ1 H1 vs x1 R1 r1=>⟨?_,fun p hp=>?_⟩⟩
  ·rw[<-r1.length,h.len _ _ _ _ e1];exact YI (small1000 hn)
  ·exact k ρ1 _ _ (x1.trans (Ext.new hp)) (R1.newTup hp) (.tup zu (r1.ext (Ext.new hp)))
def zae{φ:FA}(h:MAn X es φ)(hn:es.length<=1000:=by decide):ME X (.List es pos) (znm φ) :=
 zfe (zEy h.ma) fun ρ δ μ σ H d μ' Q A e k=>by
  obtain⟨⟨x,μ1⟩,e1,e⟩:=zh e;cases e;refine⟨ρ,δ,μ,x,μ1,A,e1,fun ρ1 H1 vs x1 R1 r1=>⟨?_,fun p hp=>?_⟩⟩
  ·rw[<-r1.length,h.len _ _ _ _ e1];exact YI (small1000 hn)
  ·exact k _ _ _ (x1.trans (Ext.push hp)) (R1.push hp ⟨vs,zu,r1.ext (Ext.push hp)⟩) (.loc (zEb R1))
@[simp] def zx(F:FF)(φ:FA):FE:=fun δ μ=>(φ δ μ).bind fun p=>F p.1 p.2
def zbr{k n:Nat}{f:Addr}{fd:yg}{ps:List Str}{F:FF}{x:Str}{p:xp}{φ:FA}(G:FnOk X.prog X.w X.K X.mg X.base CX0 k f fd ps (spM X.K n F))(hr:Room k X.A)(hm:X.mg x=some (.ref f))(hk:W.keepIn X.K (.ref f)=true)(hb:Binds X.K fd ps [])
 (ha:MAn X (e::es) φ) (hn:(e::es).length=n:=by rfl) (hg:Gl X x:=by rfl) (hdb:(x==("__debug__":Str))=false:=by decide) (he:yf (e::es) X.env=(false,yW e X.env)::yf es X.env:=by exact zZc rfl) (hpl:(yZ pos (yf es X.env)).any (·.1)=false:=by rfl) :
 ME X (.Call (.Name x p) (e::es) [] pos) (zx F φ) :=
 zfe (zQw G hr hg hm hk hb .nil pass0 ha.ma hdb he hpl) fun ρ δ μ σ H d μ' Q A e k=>by
  obtain⟨⟨x,μ1⟩,e1,e⟩:=zh e;refine⟨ρ,δ,μ,x,μ1,A,e1,fun ρ1 H1 vs x1 R1 r1=>?_⟩;show spM X.K n F (vs++[]) H1 Q E0;rw[append_nil];exact⟨by rw[<-r1.length,ha.len _ _ _ _ e1];exact hn,ρ1,x,μ1,d,μ',r1,R1,e,fun ρ2 H2 v x2 R2 r2=>k ρ2 H2 v (x1.trans x2) R2 r2⟩
abbrev GL:=List D->Mem->Option (D×Mem)
def rCM(K:yu)(g:GL):List V->Hp->VK->Prop:=fun vs H Q=>∃ρ ds μ d μ',RepVs K ρ H ds vs/\RepH K ρ H μ/\g ds μ=some (d,μ')/\∀ρ' H' v,Ext ρ H ρ' H'->RepH K ρ' H' μ'->RepV K ρ' H' d v->Q v H'
def CallM(X:Cx)(f:Value)(g:GL):Prop:=zSk X f (rCM X.K g)
def CallM.of{X:Cx}{f:Value}{g:GL}(h:∀(pins:List (Addr×YN)) (s:yb) (σ:L2.St) (H:Hp) (xs:List V) (us:List Value) (Q:VK),Inv X pins σ H s->Vals xs us->∀(ρ:List Addr)(ds:List D)(μ:Mem)(d:D)(μ':Mem),RepVs X.K ρ H ds xs->RepH X.K ρ H μ->g ds μ=some (d,μ')->(∀ρ' H' v,Ext ρ H ρ' H'->RepH X.K ρ' H' μ'->RepV X.K ρ' H' d v->Q v H')->yn (yr X.prog X.w) X.A (call f us) (EP X pins σ Q) X.xe s):CallM X f g:=by
 intro pins s σ H xs us Q I r hh;obtain⟨ρ,ds,μ,d,μ',r1,R,e,k⟩:=hh;exact h pins s σ H xs us Q I r ρ ds μ d μ' r1 R e k
def zIz{g:GL}{φ:FA}{ρ:List Addr}{δ:Loc}{μ:Mem}{σ:L2.St}{H:Hp}{d:D}{μ':Mem}{Q:VK}(A:At X.K ρ H σ δ μ)(e:zx g φ δ μ=some (d,μ'))
 (k:∀ρ' H' v,Ext ρ H ρ' H'->RepH X.K ρ' H' μ'->RepV X.K ρ' H' d v->Q v H'):tCB (rCM X.K g) (tMA X.K φ) σ H Q:=by
 obtain⟨⟨x,μ1⟩,e1,e⟩:=zh e;exact⟨ρ,δ,μ,x,μ1,A,e1,fun ρ1 H1 vs x1 R1 r1=>⟨ρ1,x,μ1,d,μ',r1,R1,e,fun ρ2 H2 v x2 R2 r2=>k ρ2 H2 v (x1.trans x2) R2 r2⟩⟩
def z9{g:GL}{id:String}{x:Str}{p:xp}{φ:FA}(hc:CallM X (.builtin id) g)(hm:X.mg x=none)(hv:yQ x=some (.builtin id))(ha:MAn X (e::es) φ)(hg:Gl X x:=by rfl)(hn:x≠"__name__":=by decide)(hdb:(x==("__debug__":Str))=false:=by decide)
 (he:yf (e::es) X.env=(false,yW e X.env)::yf es X.env:=by exact zZc rfl) (hpl:(yZ pos (yf es X.env)).any (·.1)=false:=by rfl):ME X (.Call (.Name x p) (e::es) [] pos) (zx g φ) :=
 zfe (zJp hc hg hm hv ha.ma hn hdb he hpl) fun _ _ _ _ _ _ _ _ A e k=>zIz A e k
def zye{g:GL}{T:String}{x:Str}{p:xp}{φ:FA}(hc:CallM X (.type T) g)(hm:X.mg x=none)(hv:yQ x=some (.type T))(ha:MAn X (e::es) φ)(hg:Gl X x:=by rfl)(hn:x≠"__name__":=by decide)(hdb:(x==("__debug__":Str))=false:=by decide)
 (he:yf (e::es) X.env=(false,yW e X.env)::yf es X.env:=by exact zZc rfl) (hpl:(yZ pos (yf es X.env)).any (·.1)=false:=by rfl):ME X (.Call (.Name x p) (e::es) [] pos) (zx g φ) :=
 zfe (z7f hc hg hm hv ha.ma hn hdb he hpl) fun _ _ _ _ _ _ _ _ A e k=>zIz A e k
end
section
variable {K:yu}{ρ:List Addr}{H:Hp}{μ:Mem}
@[simp] def items(μ:Mem):D->Option (List D)
 |.tup ds=>some ds
 |.fz ds=>some ds
 |.loc n=>match μ[n]? with
  |some (.lst ds)=>some ds
  |_=>none
 |_=>none
def zQf{d:D}{v:V}{ds:List D}(R:RepH K ρ H μ)(r:RepV K ρ H d v)(e:items μ d=some ds):∃p vs,v = .ref p/\(SqL K H p vs\/SqT K H p vs)/\RepVs K ρ H ds vs:=by
 unfold items at e
 split at e
 ·cases e;obtain⟨a,vs,e1,e2,q⟩:=r.tup_inv;exact⟨a,vs,e1, .inr (SqT.of e2),q⟩
 ·cases e;obtain⟨a,vs,e1,e2,q⟩:=r.fz_inv;exact⟨a,vs,e1, .inl e2.sq,q⟩
 ·split at e
  ·rename_i h
   cases e;obtain⟨a,e1,e2⟩:=r.loc_inv;obtain⟨vs,e3,q⟩:=R.at_ _ _ _ e2 h;exact⟨a,vs,e1, .inl (SqL.of e3),q⟩
  ·cases e
 ·cases e
end
section
variable {X:Cx}{a b c e:Expr}{es:List Expr}{φ ψ χ:FE}{pos:xp}
@[simp] def gIx:G2:=fun x y μ=>match y with
 |.int i=>(items μ x).bind fun ds=>(atI ds i).bind fun d=>some (d,μ)
 |_=>none
def z1v{K:yu}{ρ:List Addr}{H:Hp}{ds:List D}{vs:List V}{i:Int}{d:D}(r:RepVs K ρ H ds vs)(e:atI ds i=some d):∃v,atI vs i=some v/\RepV K ρ H d v:=by
 unfold atI at e ⊢;rw[r.length]at e;obtain⟨j,e1,e2⟩:=zh e;obtain⟨v,e3,q⟩:=r.get e2;exact⟨v,by rw[e1];exact e3,q⟩
def ixM:IxR X (rM X.K gIx):=by
 intro value slice pins s σ H x y v u Q I rx ry ⟨ρ,dx,dy,μ,d,μ',r1,r2,R,e,k⟩ hs;unfold gIx at e
 split at e
 ·obtain⟨ds,e1,e⟩:=zh e;obtain⟨d',e2,e⟩:=zh e;cases e;obtain⟨p,vs,rfl,hq,rr⟩:=zQf R r1 e1;obtain⟨w,e3,q⟩:=z1v rr e2;rcases hq with hq | hq
  ·exact zSu value slice pins s σ H _ y v u Q I rx ry (.inl ⟨p,vs,_,w,rfl,r2.int_inv,hq,e3,k ρ H w Ext.refl R q⟩) hs
  ·exact zSu value slice pins s σ H _ y v u Q I rx ry (.inr (.inl ⟨p,vs,_,w,rfl,r2.int_inv,hq,e3,k ρ H w Ext.refl R q⟩)) hs
 ·cases e
def zN(ha:ME X a φ)(hb:ME X b ψ)(hs:z6n b:=by exact fun _ _=>rfl):ME X (.Subscript a b pos) (zD gIx φ ψ) :=
 zfe (z4w ixM ha hb hs) fun _ _ _ _ _ _ _ _ A e k=>z3s A e k
@[simp] def zjk:GL:=fun ds μ=>match ds with
 |[d]=>(items μ d).bind fun xs=>some (.int xs.length,μ)
 |_=>none
def ztb:CallM X (.builtin "len") zjk:=by
 refine CallM.of fun pins s σ H xs us Q I r ρ ds μ d μ' r1 R e k=>?_;unfold zjk at e
 split at e
 ·obtain⟨ds,e1,e⟩:=zh e;cases e;obtain⟨v,rr,rfl,q1,q2⟩:=r1.cons_inv;have q2:=q2.nil_inv;subst q2;obtain⟨p,vs,rfl,hq,rr⟩:=zQf R q1 e1;exact zYm pins s σ H _ us Q I r ⟨p,vs,rfl,hq,k ρ H _ Ext.refl R (by rw[rr.length];exact .int)⟩
 ·cases e
@[simp] def zir:GL:=fun ds μ=>match ds with
 |[d]=>(items μ d).bind fun xs=>some (.loc μ.length,μ++[.lst xs])
 |_=>none
def zul:CallM X (.type "list") zir:=by
 refine CallM.of fun pins s σ H xs us Q I r ρ ds μ d μ' r1 R e k=>?_;unfold zir at e
 split at e
 ·obtain⟨ds,e1,e⟩:=zh e;cases e;obtain⟨v,rr,rfl,q1,q2⟩:=r1.cons_inv;have q2:=q2.nil_inv;subst q2;obtain⟨p,vs,rfl,hq,rr⟩:=zQf R q1 e1;exact zxi pins s σ H _ us Q I r ⟨p,vs,rfl,hq,fun l hl=>k _ _ _ (Ext.push hl) (R.push hl ⟨vs,zu,rr.ext (Ext.push hl)⟩) (.loc (zEb R))⟩
 ·cases e
@[simp] def z7g:GL:=fun ds μ=>match ds with
 |[.tup xs]=>some (.tup xs,μ)
 |[d]=>(items μ d).bind fun xs=>some (.tup xs,μ)
 |_=>none
def zge:CallM X (.type "tuple") z7g:=by
 refine CallM.of fun pins s σ H xs us Q I r ρ ds μ d μ' r1 R e k=>?_
 have key:∃x ys,ds=[x]/\items μ x=some ys/\d = .tup ys/\μ'=μ:=by
  unfold z7g at e
  split at e
  ·cases e;exact⟨_,_,rfl,rfl,rfl,rfl⟩
  ·obtain⟨ds,e1,e⟩:=zh e;cases e;exact⟨_,_,rfl,e1,rfl,rfl⟩
  ·cases e
 obtain⟨x,ys,rfl,e1,rfl,rfl⟩:=key;obtain⟨v,rr,rfl,q1,q2⟩:=r1.cons_inv;have q2:=q2.nil_inv;subst q2
 cases x with
 |tup zs=>
  cases e1;obtain⟨a,vs,rfl,e2,q⟩:=q1.tup_inv;exact zif pins s σ H _ us Q I r ⟨a,vs,rfl, .inr ⟨SqT.of e2,k ρ H _ Ext.refl R q1⟩⟩
 |fz zs=>
  cases e1;obtain⟨a,vs,rfl,e2,q⟩:=q1.fz_inv;exact zif pins s σ H _ us Q I r ⟨a,vs,rfl, .inl ⟨e2.sq,fun l hl=>k ρ _ _ (Ext.new hl) (R.newTup hl) (.tup zu (q.ext (Ext.new hl)))⟩⟩
 |loc n=>
  unfold items at e1;dsimp only at e1
  split at e1
  ·rename_i h
   cases e1;obtain⟨a,rfl,e2⟩:=q1.loc_inv;obtain⟨vs,e3,q⟩:=R.at_ _ _ _ e2 h;exact zif pins s σ H _ us Q I r ⟨a,vs,rfl, .inl ⟨SqL.of e3,fun l hl=>k ρ _ _ (Ext.new hl) (R.newTup hl) (.tup zu (q.ext (Ext.new hl)))⟩⟩
  ·cases e1
 |_=>cases e1
end
def zBn{prog:yw}{w:yF}{A:yH}{R:Result->yb->Prop}{s:yb}{elt target iter:Expr}{ifs:List Expr}{scope:Xb}{pos:xp}{it acc:Value}{env:Env}(I:Nat->yb->Prop)
 (turn:∀n s,I n s->yn (yr prog w) A (pyNext it) (fun r s₁=>match r with
  |none=>R (.ok .next) s₁
  |some v=>yn (yr prog w) A (letOwnedTupleGo target it v) (fun _ s₁'=>yn (yr prog w) A (assign target env v) (fun _ s₂=>
   yn (yr prog w) A (forIn ifs true fun c r=>if r=true then do let ok <-isTrue c env (yW c env);pure (YW ok) else pure (YW r)) (fun ok s₃=>
    if ok=true then yn (yr prog w) A (yW elt env) (fun x s₄=>
     yn (yr prog w) A (call (.builtin "list.append") [acc,x]) (fun _ s₅=>∃m,m<n/\I m s₅) (fun _ _=>False) s₄) (fun _ _=>False) s₃
    else ∃m,m<n/\I m s₃) (fun _ _=>False) s₂) (fun _ _=>False) s₁') (fun _ _=>False) s₁) (fun _ _=>False) s)
 (n:Nat) (h:I n s) :
 Xc (yr prog w) A (.compLoop (.ListComp elt [⟨target,iter,ifs,0⟩] scope pos) 0 it acc env) R s:=by
 refine codeAny_loop rfl I (fun n s hI=>?_) n h;show yn _ A ((compTurn (.ListComp elt [⟨target,iter,ifs,0⟩] scope pos) 0 it acc env).onRaise (fun x=>do noteFrame x env;theTreesLotGoes x)) _ _ s;refine wpAny_noted ?_;rw[compTurn_list];refine ya (xb (ya (yR (turn n s hI) (fun r s₁ h₁=>?_) fun _ _ h'=>h'.elim)))
 cases r with
 |none=>exact ye h₁
 |some v=>
  refine ya (yR h₁ (fun _ s₁' h₁=>?_) fun _ _ h'=>h'.elim);refine ya (yR h₁ (fun _ s₂ h₂=>ya (yR h₂ (fun ok s₃ h₃=>?_) fun _ _ h'=>h'.elim)) fun _ _ h'=>h'.elim)
  cases ok with
  |false=>exact ye ⟨rfl,h₃⟩
  |true=>
   exact ya (ya (yR h₃ (fun x s₄ h₄=>ya (yR h₄ (fun _ s₅ h₅=>ye (ye ⟨rfl,h₅⟩)) fun _ _ h'=>h'.elim)) fun _ _ h'=>h'.elim))
def z0b(cells:List (Str×Addr)):List (Str×xh)->List (Str×Addr)->List (Str×Addr)
 |[],acc=>acc
 |(n,k)::r,acc=>z0b cells r (if k == .free then(match cells.lookup n with | some c=>(n,c)::acc | none=>acc) else acc)
def zGi{env:Env}:∀(names:List (Str×xh)) (acc:List (Str×Addr)),(∀x∈names,x.2 = .free->∃c,env.cells.lookup x.1=some c) ->
 (forIn names acc fun(x:Str×xh) (cs:List (Str×Addr))=>(match x with | (name,kind)=>if kind == .free then do let c <-cellOf env name;pure (YW ((name,c)::cs)) else pure (YW cs):Sem (ForInStep (List (Str×Addr)))))=(pure (z0b env.cells names acc):Sem (List (Str×Addr)))
 |[],acc,_=>rfl
 |(n,k)::r,acc,h=>by
  have ih:=fun acc'=>zGi r acc' fun x hx=>h x (mem_cons_of_mem _ hx);rw[List.forIn_cons]
  by_cases hk:k = .free
  ·subst hk;obtain⟨c,hc⟩:=h (n, .free) mem_cons_self rfl;have e:cellOf env n=pure c:=by unfold cellOf;rw[hc]
   have:z0b env.cells ((n,yt)::r) acc=z0b env.cells r ((n,c)::acc):=by
    show z0b env.cells r (if(yt==yt)=true then(match env.cells.lookup n with | some c=>(n,c)::acc | none=>acc) else acc)=_;rw[hc];rfl
   rw[this,<-ih];show((do let c <-cellOf env n;pure (YW ((n,c)::acc))) >>= _:Sem _)=_;rw[e];rfl
  ·have hb:(k==yt)=false:=by simpa using hk
   have:z0b env.cells ((n,k)::r) acc=z0b env.cells r acc:=by
    show z0b env.cells r (if(k==yt)=true then _ else acc)=_;rw[hb];rfl
   rw[this,<-ih];simp only[hb,Bool.false_eq_true,if_false];rfl
def ztl{scope:Xb}{env:Env}(h:∀x∈scope.names,x.2 = .free->∃c,env.cells.lookup x.1=some c):closureFor scope env=pure (z0b env.cells scope.names []):=by
 have e:=zGi (env:=env) scope.names [] h;unfold closureFor;show(forIn scope.names [] _ >>= fun r=>pure r:Sem _)=_;rw[show(forIn scope.names ([]:List (Str×Addr)) fun(x:Str×xh) (r:List (Str×Addr))=>(match x with | (name,kind)=>if kind == .free then do let c <-cellOf env name;pure (YW ((name,c)::r)) else pure (YW r):Sem (ForInStep (List (Str×Addr)))))=pure (z0b env.cells scope.names []) from e];rfl
def zym{cells:List (Str×Addr)}{x:Str}{c:Addr}:∀(names:List (Str×xh)) (acc:List (Str×Addr)),(z0b cells names acc).lookup x=some c->acc.lookup x=some c\/cells.lookup x=some c
 |[],_,h => .inl h
 |(n,k)::r,acc,h=>by
  rcases zym r _ h with q | q
  ·by_cases hk:(k==yt)=true
   ·rw[if_pos hk]at q
    cases e:cells.lookup n with
    |none=>rw[e]at q;exact .inl q
    |some a=>
     rw[e]at q;simp only[lookup_cons]at q
     by_cases hx:(x==n)=true
     ·rw[hx]at q;have hx':x=n:=by simpa using hx
      subst hx';cases q;exact .inr e
     ·have hx':(x==n)=false:=by simpa using hx
      rw[hx']at q;exact .inl q
   ·rw[if_neg hk]at q;exact .inl q
  ·exact .inr q
def zHs{cells:List (Str×Addr)}{x:Str}:∀(names:List (Str×xh)) (acc:List (Str×Addr)),(acc.lookup x).isSome=true->((z0b cells names acc).lookup x).isSome=true
 |[],_,h=>h
 |(n,k)::r,acc,h=>by
  refine zHs r _ ?_
  by_cases hk:(k==yt)=true
  ·rw[if_pos hk]
   cases e:cells.lookup n with
   |none=>exact h
   |some a=>
    simp only[lookup_cons]
    by_cases hx:(x==n)=true
    ·rw[hx];rfl
    ·have hx':(x==n)=false:=by simpa using hx
     rw[hx'];exact h
  ·rw[if_neg hk];exact h
def zTu{cells:List (Str×Addr)}{x:Str}{c:Addr}(hc:cells.lookup x=some c):∀(names:List (Str×xh)) (acc:List (Str×Addr)),(x,yt)∈names->((z0b cells names acc).lookup x).isSome=true
 |[],_,h=>by cases h
 |(n,k)::r,acc,h=>by
  rcases List.mem_cons.mp h with h | h
  ·cases h;refine zHs r _ ?_;rw[if_pos (by rfl),hc];simp[lookup_cons]
  ·exact zTu hc r _ h
def cxC(X:Cx)(own:List Str)(fr:List Nat)(scope:Xb)(cl:List (Str×Addr))(C:Addr)(s₀:yb)(H₀:Hp)(fp:List Addr):Cx :=
 {X with N:=own++fr.map fun i=>X.N.getD i Str.empty,s₀:=s₀,H₀:=H₀,env:=compEnvC scope cl C X.env,outer:=X.stack,ex:=fp,fn:=fun x=>scope.names.lookup x==some .cell,xe:=fun _ _=>False }
def σC(n:Nat)(fr:List Nat)(σ:L2.St):L2.St:=yA n none++fr.map fun i=>(σ[i]?).getD none
def zaw(σ σ':L2.St):Prop:=σ'.length=σ.length/\∀(i:Nat) v,σ[i]?=some (some v)->σ'[i]?=some (some v)
def PF(X:Cx)(ifs:List Expr)(t:TT):Prop:=∀(pins:List (Addr×YN)) (s:yb) (σ:L2.St) (H:Hp) (Q:Bool->Hp->Prop),Inv X pins σ H s->t σ H Q ->
 yn (yr X.prog X.w) X.A (forIn ifs true fun c r=>if r=true then do let ok <-isTrue c X.env (yW c X.env);pure (YW ok) else pure (YW r)) (TP X pins σ Q) X.xe s
def zgy{X:Cx}:PF X [] (fun σ H Q=>Q true H):=fun pins s σ H Q I h=>wpAny_tests_nil ⟨H,I,h⟩
def zAx{X:Cx}{c:Expr}{t:TT}(h:PT X c t):PF X [c] t:=fun pins s σ H Q I hw=>wpAny_tests_one (h pins s σ H Q I hw)
def tLC(n:Nat)(fr:List Nat)(wi:TI)(g:TG)(tc:TT)(te:TE):TE:=fun σ H Q=>wi σ H fun J H1=>∃W:Nat->Nat->List V->Hp->Prop,(∃m,W 0 m [] H1)/\∀i m ys H,W i m ys H ->
 (J.stop i H/\∀p,H p=none->Q (.ref p) (upd H p (.lst ys))) \/
 (J.go i H/\ys.length<yB/\∀x H',J.yld i H x H'->g x (σC n fr σ) H' fun σ2 H2=>zaw (σC n fr σ) σ2/\tc σ2 H2 fun b H3=>
  if b=true then te σ2 H3 fun y H4=>∃m',m'<m/\W (i+1) m' (ys++[y]) H4 else ∃m',m'<m/\W (i+1) m' ys H3)
section
variable {X:Cx}{own:List Str}{fr:List Nat}{scope:Xb}{pins:List (Addr×YN)}{σ:L2.St}{H:Hp}{s:yb}
def zMe{env:Env}{x:Str}{k:xh}:∀{names:List (Str×xh)},(names.map fun(n,k)=>if(k==yt&&env.scope.kind == .function&&env.kindOf n==some .cell) then(n,yL) else(n,k)).lookup x=some k ->
 (k = .cell\/k = .free)->(x,yt)∈names\/(x,yL)∈names
 |[],h,_=>by simp at h
 |(n,k')::r,h,hk=>by
  rw[map_cons]at h
  by_cases hx:x=n
  ·subst hx
   by_cases hb:(k'==yt&&env.scope.kind == .function&&env.kindOf x==some .cell)=true
   ·have:k' = .free:=by
     simp only[yE,beq_iff_eq]at hb;exact hb.1.1
    subst this;exact .inl mem_cons_self
   ·have h2:((x,k')::r.map fun(n,k)=>if(k==yt&&env.scope.kind == .function&&env.kindOf n==some .cell) then(n,yL) else(n,k)).lookup x=some k:=by
     have e:(if(k'==yt&&env.scope.kind == .function&&env.kindOf x==some .cell)=true then(x,yL) else(x,k'))=(x,k'):=if_neg hb;rw[<-e];exact h
    simp only[lookup_cons,beq_self_eq_true]at h2;cases h2;rcases hk with rfl | rfl
    ·exact .inr mem_cons_self
    ·exact .inl mem_cons_self
  ·have hx':(x==n)=false:=by simpa using hx
   have h2:(r.map fun(n,k)=>if(k==yt&&env.scope.kind == .function&&env.kindOf n==some .cell) then(n,yL) else(n,k)).lookup x=some k:=by
    by_cases hb:(k'==yt&&env.scope.kind == .function&&env.kindOf n==some .cell)=true
    ·have e:(if(k'==yt&&env.scope.kind == .function&&env.kindOf n==some .cell)=true then(n,yL) else(n,k'))=(n,yL):=if_pos hb;have h3:((n,yL)::r.map fun(n,k)=>if(k==yt&&env.scope.kind == .function&&env.kindOf n==some .cell) then(n,yL) else(n,k)).lookup x=some k:=by rw[<-e];exact h
     simpa only[lookup_cons,hx'] using h3
    ·have e:(if(k'==yt&&env.scope.kind == .function&&env.kindOf n==some .cell)=true then(n,yL) else(n,k'))=(n,k'):=if_neg hb;have h3:((n,k')::r.map fun(n,k)=>if(k==yt&&env.scope.kind == .function&&env.kindOf n==some .cell) then(n,yL) else(n,k)).lookup x=some k:=by rw[<-e];exact h
     simpa only[lookup_cons,hx'] using h3
   rcases zMe h2 hk with q | q
   ·exact .inl (mem_cons_of_mem _ q)
   ·exact .inr (mem_cons_of_mem _ q)
def zOi{env:Env}{x:Str}:∀{names:List (Str×xh)},names.lookup x=some .free ->
 (names.map fun(n,k)=>if(k==yt&&env.scope.kind == .function&&env.kindOf n==some .cell) then(n,yL) else(n,k)).lookup x=some .cell \/
 (names.map fun(n,k)=>if(k==yt&&env.scope.kind == .function&&env.kindOf n==some .cell) then(n,yL) else(n,k)).lookup x=some .free
 |[],h=>by simp at h
 |(n,k')::r,h=>by
  rw[map_cons]
  by_cases hx:x=n
  ·subst hx;simp only[lookup_cons,beq_self_eq_true]at h;cases h
   by_cases hb:(yt==yt&&env.scope.kind == .function&&env.kindOf x==some .cell)=true
   ·have e:(if(yt==yt&&env.scope.kind == .function&&env.kindOf x==some .cell)=true then(x,yL) else(x,yt))=(x,yL):=if_pos hb
    left
    show YE x ((if(yt==yt&&env.scope.kind == .function&&env.kindOf x==some .cell)=true then(x,yL) else(x,yt))::_)=_;rw[e];simp[lookup_cons]
   ·have e:(if(yt==yt&&env.scope.kind == .function&&env.kindOf x==some .cell)=true then(x,yL) else(x,yt))=(x,yt):=if_neg hb
    right
    show YE x ((if(yt==yt&&env.scope.kind == .function&&env.kindOf x==some .cell)=true then(x,yL) else(x,yt))::_)=_;rw[e];simp[lookup_cons]
  ·have hx':(x==n)=false:=by simpa using hx
   simp only[lookup_cons,hx']at h;have ih:=zOi (env:=env) h
   have step:∀k,(r.map fun(n,k)=>if(k==yt&&env.scope.kind == .function&&env.kindOf n==some .cell) then(n,yL) else(n,k)).lookup x=some k ->
    YE x ((if(k'==yt&&env.scope.kind == .function&&env.kindOf n==some .cell)=true then(n,yL) else(n,k'))::(r.map fun(n,k)=>if(k==yt&&env.scope.kind == .function&&env.kindOf n==some .cell) then(n,yL) else(n,k)))=some k:=fun k hk=>by
     by_cases hb:(k'==yt&&env.scope.kind == .function&&env.kindOf n==some .cell)=true
     ·rw[if_pos hb];simpa only[lookup_cons,hx'] using hk
     ·rw[if_neg hb];simpa only[lookup_cons,hx'] using hk
   rcases ih with ih | ih
   ·exact .inl (step _ ih)
   ·exact .inr (step _ ih)
def zvo{b:Addr}(I:Inv X pins σ H s)(h1:b≠X.env.locals)(h2:b∉X.fs):b∉frs X.stack:=fun z=>
 (List.mem_cons.mp (I.stkSub b z)).elim h1 h2
def σC_get{n:Nat}{i:Nat}{v:V}(h:(σC n fr σ)[i]?=some (some v)):n<=i/\∃j,fr[i-n]?=some j/\σ[j]?=some (some v):=by
 unfold σC at h
 by_cases hi:i<n
 ·rw[yq (by simpa using hi),YK]at h
  split at h<;>cases h
 ·have hi:n<=i:=Nat.le_of_not_lt hi;rw[yK (by simpa using hi),xX,yh]at h
  cases e:fr[i-n]? with
  |none=>rw[e]at h;cases h
  |some j=>
   rw[e]at h;refine⟨hi,j,rfl,?_⟩;have h':(σ[j]?).getD none=some v:=Yd h
   cases e2:σ[j]? with
   |none=>rw[e2]at h';cases h'
   |some o=>rw[e2]at h';exact congrArg some h'
def zel:∀(names:List (Str×xh)) (n:Nat) (acc:List (Str×Addr)),Yj n names acc=Yj n names []++acc
 |[],n,acc=>rfl
 |(x,k)::r,n,acc=>by
  unfold Yj
  split
  ·rw[zel r (n+1) ((x,n)::acc),zel r (n+1) [(x,n)]];simp
  ·exact zel r n acc
def zjl:∀(names:List (Str×xh)) (n:Nat) (x:Str) (c:Addr),(x,c)∈Yj n names []->n<=c/\(x,yL)∈names
 |[],n,x,c,h=>by cases h
 |(y,k)::r,n,x,c,h=>by
  unfold Yj at h
  split at h
  ·rename_i hk
   rw[zel]at h;rcases List.mem_append.mp h with h | h
   ·obtain⟨h1,h2⟩:=zjl r (n+1) x c h;exact⟨Nat.le_of_succ_le h1,mem_cons_of_mem _ h2⟩
   ·have e:(x,c)=(y,n):=by simpa using h
    cases e;rw[beq_iff_eq.mp hk];exact⟨yi _,mem_cons_self⟩
  ·obtain⟨h1,h2⟩:=zjl r n x c h;exact⟨h1,mem_cons_of_mem _ h2⟩
def zio{names:List (Str×xh)}{n:Nat}{acc:List (Str×Addr)}{x:Str}{c:Addr}(h:(Yj n names acc).lookup x=some c):(Yj n names []).lookup x=some c\/((Yj n names []).lookup x=none/\acc.lookup x=some c):=by
 rw[zel,List.lookup_append]at h
 cases e:(Yj n names []).lookup x with
 |none=>rw[e]at h;exact .inr ⟨rfl,h⟩
 |some d=>rw[e]at h;exact .inl h
def z6v{names:List (Str×xh)}{n:Nat}{x:Str}(hn:∀y∈names,names.lookup y.1=some y.2)(h:(x,yt)∈names):(Yj n names []).lookup x=none:=by
 cases e:(Yj n names []).lookup x with
 |none=>rfl
 |some c=>
  have h1:=hn _ (zjl _ _ _ _ (yX e)).2;have h2:=hn _ h;rw[h1]at h2;cases h2
def zJu{fp:List Addr}{D C:Addr}{lo:Nat}{h1:yP}{t:Nat}{mC:Str->Option Value}{oD:YN}(I:Inv X pins σ H s)(hf:∀b∈fp,zfp X pins H b)(hfl:∀b∈fp,b<s.heap.objs.size)
 (hk:scope.kind = .function) (hnm:∀y∈scope.names,scope.names.lookup y.1=some y.2) (hfree:∀x∈scope.names,x.2 = .free->(X.env.kindOf x.1=some .cell\/X.env.kindOf x.1=some .free))
 (hfr:∀i∈fr,∃x,X.N[i]?=some x/\scope.names.lookup x=some .free) (hlo:C<lo) (hOC:CellsOk h1 lo (Yj lo scope.names []))
 (old:∀b o,s.heap.get? b=some o->h1.get? b=some o) (hD:s.heap.objs.size<=D) (hC:s.heap.objs.size<=C) (hDC:D≠C) (hDlo:D<lo) (eD:h1.get? D=some oD) (dD:∀v,oD.data≠.cell v) (nC:h1.Ns C mC) :
 Inv (cxC X own fr scope (Yj lo scope.names (z0b X.env.cells scope.names [])) C s H fp) (pins++[(D,oD)]) (σC own.length fr σ) H {s with heap:=h1,toks:=t }:=by
 have cl1:∀x c,(z0b X.env.cells scope.names []).lookup x=some c->X.env.cells.lookup x=some c:=fun x c e=>by
  rcases zym _ _ e with q | q
  ·cases q
  ·exact q
 have clH:∀x,(x,yt)∈scope.names->∃c,(Yj lo scope.names (z0b X.env.cells scope.names [])).lookup x=some c/\X.env.cells.lookup x=some c:=fun x hx=>by
  obtain⟨c,hc⟩:=I.ok.has x (hfree _ hx rfl);obtain⟨c',hc'⟩:=Option.isSome_iff_exists.mp (zTu hc scope.names [] hx);exact⟨c',by rw[zel,List.lookup_append,z6v hnm hx];exact hc',cl1 _ _ hc'⟩
 have two:∀x c,(Yj lo scope.names (z0b X.env.cells scope.names [])).lookup x=some c->((Yj lo scope.names []).lookup x=some c/\lo<=c)\/X.env.cells.lookup x=some c:=fun x c e=>by
  rcases zio e with q | ⟨_,q⟩
  ·exact .inl ⟨q,(zjl _ _ _ _ (yX q)).1⟩
  ·exact .inr (cl1 _ _ q)
 have oldc:∀x c,X.env.cells.lookup x=some c->c<s.heap.objs.size:=fun x c e=>by
  obtain⟨v,o,ho,_⟩:=I.cell x c e;exact yj ho
 have hslo:s.heap.objs.size<=lo:=yC hC (YI hlo)
 refine⟨⟨I.ok.mod,hk,I.ok.glob,I.ok.blt,hC,fun x y c e1 e2=>?inj,fun x hx=>?_,fun x c hx e=>?cab,I.ok.hd,I.ok.frames, .inl rfl,fun b hb=>⟨?_,fun x c e=>?exf⟩,I.bs,yC I.ok.bsz I.sz,fun b o e hb=>?_,fun b hb=>?_,I.stack,I.stkFree⟩,
  rfl,I.bare,Un.kept old,⟨mC,nC,fun i x v h1 h2 h3=>?_⟩,fun x c e=>?cell,I.hok.fresh hC,fun x c e=>?freeC,fun p hp=>?_,I.hok.kept old,?_⟩
 case inj=>
  rcases two x c e1 with ⟨q1,l1⟩ | q1
  ·rcases two y c e2 with ⟨q2,_⟩ | q2
   ·exact name_of_addr hOC.apart (yX q1) (yX q2)
   ·exact absurd (yv (oldc y c q2) (yC hslo l1)) (yO _)
  ·rcases two y c e2 with ⟨_,l2⟩ | q2
   ·exact absurd (yv (oldc x c q1) (yC hslo l2)) (yO _)
   ·exact I.ok.inj x y c q1 q2
 case cab=>
  have hx:(scope.names.lookup x==some .cell)=true:=hx;obtain⟨d,hd⟩:=Option.isSome_iff_exists.mp (W.cellsFrom_some scope.names lo [] (.inl (beq_iff_eq.mp hx)));rcases zio (show(Yj lo scope.names (z0b X.env.cells scope.names [])).lookup x=some c from e) with q | ⟨q,_⟩
  ·exact yC hslo (zjl _ _ _ _ (yX q)).1
  ·rw[q]at hd;cases hd
 case exf=>
  rcases two x c e with ⟨_,l⟩ | q
  ·exact yV (yv (hfl b hb) (yC hslo l))
  ·exact(hf b hb).2.2.2.2.1 x c q
 case cell=>
  rcases two x c e with ⟨q,_⟩ | q
  ·exact⟨none,(hOC.empty x c (yX q)).1⟩
  ·obtain⟨v,o,ho,hd⟩:=I.cell x c q;exact⟨v,o,old _ _ ho,hd⟩
 case freeC=>
  rcases two x c e with ⟨_,l⟩ | q
  ·exact I.hok.fresh (yC hslo l)
  ·exact I.freeC x c q
 ·have hx':(relabel scope X.env).names.lookup x=some .cell\/(relabel scope X.env).names.lookup x=some .free:=hx
  have hm:(x,yt)∈scope.names\/(x,yL)∈scope.names:=by
   rcases hx' with h | h
   ·exact zMe (env:=X.env) h (.inl rfl)
   ·exact zMe (env:=X.env) h (.inr rfl)
  rcases hm with hm | hm
  ·obtain⟨c,e,_⟩:=clH x hm;exact⟨c,e⟩
  ·exact Option.isSome_iff_exists.mp (W.cellsFrom_some scope.names lo _ (.inl (hnm _ hm)))
 ·exact yz (yv (hfl b hb) hC)
 ·rcases(hf b hb).2.2.2.1 with z | z
  ·exact I.ok.noex b o e z
  ·exact absurd (yv (yj e) (yC I.ok.bsz z)) (yO _)
 ·exact zvo I (hf b hb).2.1 (hf b hb).2.2.1
 ·obtain⟨hi,j,e1,e2⟩:=σC_get h2;have hjm:j∈fr:=mem_of_getElem? e1;obtain⟨y,ey,ly⟩:=hfr j hjm
  have hxy:x=y:=by
   have h1':(own++fr.map fun i=>X.N.getD i Str.empty)[i]?=some x:=h1;rw[yK hi,yh,e1]at h1';have h1'':X.N.getD j Str.empty=x:=Yd h1';rw[getD_eq_getElem?_getD,ey]at h1'';exact h1''.symm
  subst hxy;have hm:(x,yt)∈scope.names:=yX ly
  have hv:Vis X.env.scope x:=by
   rcases hfree _ hm rfl with q | q
   ·exact .inr (.inl q)
   ·exact .inr (.inr q)
  obtain⟨m,hn,hl⟩:=id I.loc;obtain⟨u,ru,q⟩:=hl j x v ey e2 hv;obtain⟨c,c1,c2⟩:=clH x hm;refine⟨u,ru, .inr ⟨zOi (env:=X.env) ly,c,c1,?_⟩⟩;rcases q with ⟨k,_⟩ | ⟨k,c',e',z⟩
  ·rcases hfree _ hm rfl with q | q
   ·rw[show X.env.kindOf (x,yt).1=X.env.kindOf x from rfl,k]at q;cases q
   ·rw[show X.env.kindOf (x,yt).1=X.env.kindOf x from rfl,k]at q;cases q
  ·rw[c2]at e';cases e';obtain⟨o,ho,hd⟩:=z;exact⟨o,old _ _ ho,hd⟩
 ·have hp':p∈X.pn++(pins++[(D,oD)]):=hp;rw[<-append_assoc]at hp';rcases List.mem_append.mp hp' with hp' | hp'
  ·obtain⟨a1,a2,a3,a4,a5⟩:=I.pin p hp';exact⟨old _ _ a1,a2,yz (yv (yj a1) hC),zvo I a3 a4,a5⟩
  ·have:p=(D,oD):=by simpa using hp'
   subst this;refine⟨eD,I.hok.fresh hD,hDC,fun z=>?_,dD⟩;rcases List.mem_cons.mp (I.stkSub _ z) with z | z
   ·exact absurd (yv I.lt (z▸hD)) (yO _)
   ·exact I.nofs hD z
 ·show(σC own.length fr σ).length=(own++fr.map fun i=>X.N.getD i Str.empty).length;unfold σC;simp
end
def HOk.track{P:yw}{w:yF}{H:Hp}{h:yP}{a:Addr}{o:HO}(x:HOk P w H h)(hn:H a=none)(new:ObjOk P w (upd H a o) h a o):HOk P w (upd H a o) h:=fun b u e=>by
 by_cases hb:b=a
 ·subst hb;rw[zu]at e;cases e;exact new
 ·rw[zH hb]at e;exact(x b u e).stay (fun c v _ q=>q) (fun c q=>by rw[zH (zC q hn)];exact q) fun c xs q=>by rw[zH (zC q hn)];exact q
def newEnvC{M:Model}{A:yH}{E:Value->yb->Prop}{s:yb}{scope:Xb}{globals:Addr}{cl:List (Str×Addr)}{qual:Str}{env:Env}{Q:Env->yb->Prop}
 (hQ:Q (newEnv scope s.heap.objs.size globals (Yj (s.heap.objs.size+1) scope.names cl) qual none .none (some env) builtinsNs) {s with heap:=pushCells (s.heap.push {cls := .type "dict",data := .dict #[]}) scope.names }) :
 yn M A (newFunctionEnv scope globals cl [] qual none .none (some env)) Q E s:=by
 simp only[newFunctionEnv,Option.isSome_some,if_true];refine ya (wpAny_alloc ?_);refine ya (wpAny_layCells _ (fun name kind cells=>by cases hkc:kind==yL<;>simp[hkc]) _ _ _ _ ?_);rw[show({s with heap:=s.heap.push {cls := .type "dict",data := .dict #[]}}:yb).heap.objs.size=s.heap.objs.size+1 from Yl ..];refine ya ?_;rw[List.forIn_nil];exact ye (ye hQ)
section
variable {X:Cx}{own:List Str}{fr:List Nat}{scope:Xb}
structure Walked(X:Cx)(pins:List (Addr×YN))(σ:L2.St)(H:Hp)(ys:List V)(D C:Addr)(s:yb):Prop where
 inv:Inv X pins σ (upd H D (.lst ys)) s
 free:H D=none
 freeC:upd H D (.lst ys) C=none
 own:∃m,s.heap.Ns C m
 notL:C≠X.env.locals
 young:X.s₀.heap.objs.size<=C
 notCell:∀x c,X.env.cells.lookup x=some c->c≠C
 notPin:∀p∈X.pn++pins,p.1≠C
def z2q{elt tg iter:Expr}{ifs:List Expr}{pos:xp}{g:TG}{tc:TT}{te:TE}{pins:List (Addr×YN)}{σ:L2.St}{s2:yb}{Qn:List V->Hp->Prop}{itv:Value}{RR:Value->Addr->Result->yb->Prop}(own:List Str)(fr:List Nat)(hc:X.calm=true)
 (hg:∀cl C s₀ H₀ fp,PG (cxC X own fr scope cl C s₀ H₀ fp) tg g) (hq:∀cl C s₀ H₀ fp,PF (cxC X own fr scope cl C s₀ H₀ fp) ifs tc) (he:∀cl C s₀ H₀ fp,PE (cxC X own fr scope cl C s₀ H₀ fp) elt te)
 (hk:scope.kind = .function) (hnm:∀y∈scope.names,scope.names.lookup y.1=some y.2)
 (hfree:∀x∈scope.names,x.2 = .free->(X.env.kindOf x.1=some .cell\/X.env.kindOf x.1=some .free)) (hfr:∀i∈fr,∃x,X.N[i]?=some x/\scope.names.lookup x=some .free)
 (h2:PIE X pins σ tg (fun J H1=>∃W:Nat->Nat->List V->Hp->Prop,(∃m,W 0 m [] H1)/\∀i m ys H,W i m ys H ->
  (J.stop i H/\Qn ys H)\/(J.go i H/\ys.length<yB/\∀x H',J.yld i H x H'->g x (σC own.length fr σ) H' fun σ2 H2=>zaw (σC own.length fr σ) σ2/\tc σ2 H2 fun b H3=>
   if b=true then te σ2 H3 fun y H4=>∃m',m'<m/\W (i+1) m' (ys++[y]) H4 else ∃m',m'<m/\W (i+1) m' ys H3)) itv s2)
 (fin:∀ys H D C s4,Qn ys H->Walked X pins σ H ys D C s4->RR (.ref D) C (.ok .next) s4) :
 yn (yr X.prog X.w) X.A (newList []) (fun acc s₃=>yn (yr X.prog X.w) X.A (newFunctionEnv scope X.env.globals (z0b X.env.cells scope.names []) [] X.env.qual none .none (some X.env)) (fun cenv s₄=>
  Xc (yr X.prog X.w) X.A (.compStart (.ListComp elt [⟨tg,iter,ifs,0⟩] scope pos) 0 itv acc {cenv with scope:=relabel scope X.env }) (RR acc cenv.locals) s₄) X.xe s₃) X.xe s2:=by
 obtain⟨it,fp,tn,J,H2,e,I2,T,st2,f2,W,⟨m0,w0⟩,turn⟩:=h2;subst e
 have hfl:∀b∈fp,b<s2.heap.objs.size:=fun b hb=>by
  obtain⟨o,e,_⟩:=T.obj _ _ st2 b hb;exact yj e
 refine yS (newEnvC ?_);dsimp only;generalize hH2:s2.heap.push {cls := .type "list",dict:=none,data := .seq ([]:List Value).toArray } = G2;have hC:G2.objs.size=s2.heap.objs.size+1:=by rw[<-hH2,Yl]
 have hDC:s2.heap.objs.size≠G2.objs.size:=by rw[hC];exact yz (Yq _)
 have hCle:s2.heap.objs.size<=G2.objs.size:=by rw[hC];exact xD _
 have below:∀b,b<s2.heap.objs.size->b≠G2.objs.size/\b≠s2.heap.objs.size:=fun b hb=>⟨by rw[hC];exact yz (Yr hb),yz hb⟩
 have hns₁:(pushCells (G2.push {cls := .type "dict",data := .dict #[]}) scope.names).Ns G2.objs.size (fun _=>none):=(Heap.Ns.new G2 (.type "dict")).keeps fun b o e=>pushCells_keeps _ _ _ _ e
 have hok₁:CellsOk (pushCells (G2.push {cls := .type "dict",data := .dict #[]}) scope.names) (G2.objs.size+1) (Yj (G2.objs.size+1) scope.names []):=by
  have:=cellsFrom_ok scope.names (G2.push {cls := .type "dict",data := .dict #[]}) (G2.objs.size+1) [] ⟨fun _ _ hm=>(nomatch hm),List.Pairwise.nil⟩ (by rw[Yl];exact yi _);rw[Yl]at this;exact this
 have hk₁:∀b o,G2.get? b=some o->(pushCells (G2.push {cls := .type "dict",data := .dict #[]}) scope.names).get? b=some o:=fun b o e=>pushCells_keeps _ _ _ _ (yd _ e);generalize pushCells (G2.push {cls := .type "dict",data := .dict #[]}) scope.names=h₁ at hns₁ hok₁ hk₁ ⊢;have old:∀b o,s2.heap.get? b=some o->h₁.get? b=some o:=fun b o e=>hk₁ b o (hH2▸yd _ e);have hacc:h₁.get? s2.heap.objs.size=some {cls := .type "list",data := .seq ([]:List Value).toArray 0 }:=hk₁ _ _ (hH2▸yo _ rfl);generalize hXC:cxC X own fr scope (Yj (G2.objs.size+1) scope.names (z0b X.env.cells scope.names [])) G2.objs.size s2 H2 fp=XC;have eenv:compEnvC scope (Yj (G2.objs.size+1) scope.names (z0b X.env.cells scope.names [])) G2.objs.size X.env=XC.env:=by rw[<-hXC];rfl
 have eprog:XC.prog=X.prog:=by rw[<-hXC];rfl
 have ew:XC.w=X.w:=by rw[<-hXC];rfl
 have eA:XC.A=X.A:=by rw[<-hXC];rfl
 have eK:XC.K=X.K:=by rw[<-hXC];rfl
 have ecalm:XC.calm=true:=by rw[<-hXC];exact hc
 have exe:XC.xe=fun _ _=>False:=by rw[<-hXC];rfl
 have eloc:XC.env.locals=G2.objs.size:=by rw[<-hXC];rfl
 have eex:XC.ex=fp:=by rw[<-hXC];rfl
 have efs:XC.fs=frs X.stack:=by rw[<-hXC];rfl
 have es0:XC.s₀=s2:=by rw[<-hXC];rfl
 have eH0:XC.H₀=H2:=by rw[<-hXC];rfl
 have epn:XC.pn=X.pn:=by rw[<-hXC];rfl
 have ecells:∀x c,XC.env.cells.lookup x=some c->X.env.cells.lookup x=some c\/G2.objs.size<c:=fun x c e=>by
  rw[<-hXC]at e;rcases zio (show(Yj (G2.objs.size+1) scope.names (z0b X.env.cells scope.names [])).lookup x=some c from e) with q | ⟨_,q⟩
  ·exact .inr (zjl _ _ _ _ (yX q)).1
  ·rcases zym _ _ q with q | q
   ·cases q
   ·exact .inl q
 have hg':PG XC tg g:=hXC▸hg _ _ _ _ _;have hq':PF XC ifs tc:=hXC▸hq _ _ _ _ _;have he':PE XC elt te:=hXC▸he _ _ _ _ _
 have fpok:∀{H':Hp} {pl:List (Addr×YN)},(∀b∈fp,H' b=none)->(∀p∈pl,p.1=s2.heap.objs.size)->∀b∈fp,zfp XC (pins++pl) H' b:=fun{H' pl} hn hpl b hb=>by
  obtain⟨_,f2,f3,f4,f5,f6⟩:=f2 b hb;refine⟨hn b hb,by rw[eloc];exact(below b (hfl b hb)).1,by rw[efs];exact zvo I2 f2 f3, .inl (by rw[eex];exact hb),fun x c e=>?c5,fun p hp=>?_⟩
  case c5=>
   rcases ecells x c e with q | q
   ·exact f5 x c q
   ·exact yV (yv (hfl b hb) (yC hCle (YI q)))
  rw[epn,<-append_assoc]at hp;rcases List.mem_append.mp hp with hp | hp
  ·exact f6 p hp
  ·rw[hpl p hp];exact yN (below b (hfl b hb)).2
 have loop:∀s₃:yb,s₃ = {s2 with heap:=h₁ } ->
  Xc (yr X.prog X.w) X.A (.compLoop (.ListComp elt [⟨tg,iter,ifs,0⟩] scope pos) 0 (.ref it) (.ref s2.heap.objs.size) (compEnvC scope (Yj (G2.objs.size+1) scope.names (z0b X.env.cells scope.names [])) G2.objs.size X.env))
   (RR (.ref s2.heap.objs.size) G2.objs.size) s₃:=by
  rintro s₃ rfl;have I0:=zJu (own:=own) (fr:=fr) (t:=s2.toks) (lo:=G2.objs.size+1) I2 f2 hfl hk hnm hfree hfr (Yq _) hok₁ old (yi _) hCle hDC (Nat.lt_succ_of_le hCle) hacc (by intro v z;cases z) hns₁;rw[hXC]at I0
  refine zBn (fun n s'=>∃(i:Nat)(ys:List V)(its:Array Value)(k:Nat)(H':Hp),Inv XC (pins++[(s2.heap.objs.size,({cls := .type "list",data := .seq its k }:YN))]) (σC own.length fr σ) H' s'/\Vals ys its.toList/\ys.length<=yB/\tn i s'.heap/\(∀b∈fp,H' b=none)/\W i n ys H') ?_ m0
   ⟨0,[],#[],0,H2,I0, .nil,Ys _,T.keep _ _ _ st2 (fun b hb o e=>old b o e),fun b hb=>(f2 b hb).1,w0⟩
  rintro n s3 ⟨i,ys,its,kk,H3,I3,rv,hz,st3,fr3,w3⟩
  have pl1:∀p∈[(s2.heap.objs.size,({cls := .type "list",data := .seq its kk }:YN))],p.1=s2.heap.objs.size:=fun p hp=>by
   rw[List.mem_singleton.mp hp]
  rcases turn i n ys H3 w3 with ⟨stop,qn⟩ | ⟨go,hlt,step⟩
  ·have td:=T.done XC eprog ew eK ecalm i _ s3 _ H3 (fun _ _=>False) I3 (fpok fr3 pl1) st3 stop;rw[eA]at td;refine thn td fun r s4 ⟨hr,I4⟩=>?_;subst hr;obtain⟨m,hn,_⟩:=id I4.loc;rw[eloc]at hn;obtain⟨p1,p2,p3,p4,p5⟩:=I4.pin (s2.heap.objs.size,_) (mem_append_right _ (mem_append_right _ mem_cons_self));have hnC:H3 G2.objs.size=none:=by have:=I4.free;rw[eloc]at this;exact this
   have hokf:HOk X.prog X.w (upd H3 s2.heap.objs.size (.lst ys)) s4.heap:=by
    refine HOk.track (by have:=I4.hok;rw[eprog,ew]at this;exact this) p2 ⟨hz,its.toList,kk,rv,by simpa using p1⟩
   have u0:Un (frs X.stack) fp H2 H3 s2.heap s4.heap:=by
    have:=I4.base;rw[efs,eex,es0,eH0]at this;exact this
   have u1:Un (frs X.stack) fp H2 (upd H3 s2.heap.objs.size (.lst ys)) s2.heap s4.heap:=by
    have bd:∀b o,s2.heap.get? b=some o->b≠s2.heap.objs.size:=fun b o e=>(below b (yj e)).2;refine⟨u0.keep,u0.slot,fun b o e n hx=>by rw[zH (bd b o e)];exact u0.free b o e n hx,u0.there,fun b xs e=>?_,fun b o u e=>?_,fun b ps e=>?_⟩
    ·have q:=u0.tups b xs e;rw[zH (zC q p2)];exact q
    ·have q:=u0.frzs b o u e;rw[zH (zC q p2)];exact q
    ·obtain⟨more,q⟩:=u0.tbls b ps e;exact⟨more,by rw[zH (zC q p2)];exact q⟩
   have os4:s4.os=s2.os:=by have:=I4.os;rw[es0]at this;exact this
   have IF:Inv X pins σ (upd H3 s2.heap.objs.size (.lst ys)) {s2 with heap:=s4.heap,gens:=s4.gens,drawn:=s4.drawn,toks:=s4.toks } :=
    I2.call (h':=s4.heap) (ch:=fp) u1 hokf I4.bare fun b hb=>by
     obtain⟨_,f2,f3,f4,f5,f6⟩:=f2 b hb;exact⟨f4,f2,f5,f6⟩
   have es:s4 = {s2 with heap:=s4.heap,gens:=s4.gens,drawn:=s4.drawn,toks:=s4.toks }:=by
    obtain⟨a1,a2,a3,a4,a5⟩:=s4;have:a5=s2.os:=os4;subst this;rfl
   rw[<-es]at IF;refine fin ys H3 _ _ s4 qn ⟨IF,p2,by rw[zH (yN hDC)];exact hnC,⟨m,hn⟩,yN (below _ I2.lt).1,yC I2.sz hCle,fun x c e=>?_,fun p hp=>?_⟩
   ·obtain⟨v,o,ho,_⟩:=I2.cell x c e;exact(below c (yj ho)).1
   ·exact(below p.1 (yj (I2.pin p hp).1)).1
  ·have td:=T.item XC eprog ew eK ecalm i _ s3 _ H3 (fun _ _=>False) I3 (fpok fr3 pl1) st3 go;rw[eA]at td;refine thn td fun r s4 ⟨u,hr,h4⟩=>?_;subst hr;refine thn h4 fun _ s5 ⟨x,H5,I5,r5,y5,st5,fr5⟩=>?_;have I5':=I5.pinned (fpok fr5 pl1) (T.obj _ _ st5);have hgw:=hg' _ s5 _ H5 x u _ I5' r5 (step x H5 y5);rw[exe,eprog,ew,eA]at hgw;rw[eenv];refine thn hgw fun _ s6 ⟨σ6,H6,I6,⟨hsl,hsub⟩,q6⟩=>?_;have hqw:=hq' _ s6 σ6 H6 _ I6 q6;rw[exe,eprog,ew,eA]at hqw;refine thn hqw fun ok s7 ⟨H7,I7,q7⟩=>?_
   have back:∀{H8:Hp} {s8:yb},Inv XC (pins++[(s2.heap.objs.size,({cls := .type "list",data := .seq its kk }:YN))]++zUn fp s5.heap) σ6 H8 s8 ->
    Inv XC (pins++[(s2.heap.objs.size,({cls := .type "list",data := .seq its kk }:YN))]) (σC own.length fr σ) H8 s8/\tn (i+1) s8.heap/\∀b∈fp,H8 b=none:=fun{H8 s8} I8=>by
    refine⟨I8.unpinned.weak hsl.symm hsub,T.keep _ _ _ st5 fun b hb o e=>(I8.pin (b,o) (mem_append_right _ (mem_append_right _ (zpg hb e)))).1,fun b hb=>?_⟩;obtain⟨o,e,d⟩:=T.obj _ _ st5 b hb;exact(I8.pin (b,o) (mem_append_right _ (mem_append_right _ (zpg hb e)))).2.1
   cases ok with
   |false=>
    have q7':∃m',m'<n/\W (i+1) m' ys H7:=by simpa using q7
    rw[if_neg yx];obtain⟨m',hm,w7⟩:=q7';obtain⟨J1,J2,J3⟩:=back I7;exact⟨m',hm,i+1,ys,its,kk,H7,J1,rv,hz,J2,J3,w7⟩
   |true=>
    rw[if_pos rfl]at q7 ⊢;have hew:=he' _ s7 σ6 H7 _ I7 q7;rw[exe,eprog,ew,eA]at hew;refine thn hew fun y s8 ⟨vy,H8,I8,r8,m',hm,w8⟩=>?_;obtain⟨J1,J2,J3⟩:=back I8;obtain⟨p1,p2,p3,p4,p5⟩:=J1.pin (s2.heap.objs.size,_) (mem_append_right _ (mem_append_right _ mem_cons_self));have hil:its.size=ys.length:=by rw[rv.length];simp
    refine append_at (hsz:=by rw[hil];exact hz) p1 fun h9 sb9 e9=>?_;have Df:s2.heap.objs.size∉fp:=fun z=>absurd (hfl _ z) (yO _);have J0:Inv XC pins (σC own.length fr σ) H8 s8:=J1.unpinned
    have J9:Inv XC pins (σC own.length fr σ) H8 {s8 with heap:=h9 }:=by
     refine J0.turned (t':=s8.toks) (it:=s2.heap.objs.size) (fun b o hb e=>(sb9.2 b hb).trans e) p2 p3 (.inr (by rw[es0];exact yi _)) (fun x c e z=>?_) (fun p hp z=>?_)
     ·rcases ecells x c e with q | q
      ·obtain⟨v,o,ho,_⟩:=I2.cell x c q;exact(below c (yj ho)).2 z
      ·exact yV (Nat.lt_of_le_of_lt hCle q) z
     ·rw[epn]at hp;exact(below p.1 (yj (I2.pin p hp).1)).2 z
    refine⟨m',hm,i+1,ys++[vy],its.push y,kk+1,H8,J9.pins_of fun p hp=>?_,?_,by simp;exact hlt,T.keep _ _ _ J2 (fun b hb o e=>(sb9.2 b (fun z=>Df (z▸hb))).trans e),J3,w8⟩
    ·rcases List.mem_append.mp hp with hp | hp
     ·exact J9.pin p (mem_append_right _ hp)
     ·have e:=List.mem_singleton.mp hp;subst e;exact⟨e9,p2,p3,p4,by intro v z;cases z⟩
    ·rw[Array.toList_push];exact rv.append (.cons r8 .nil)
 exact codeAny_compStart_list (loop _ rfl) (T.self X.A 0 _ _ _ (T.keep _ _ _ st2 fun b hb o e=>old b o e) (loop _ rfl))
def Walked.gone{pins:List (Addr×YN)}{σ:L2.St}{H:Hp}{ys:List V}{D C:Addr}{s:yb}(w:Walked X pins σ H ys D C s){h':yP}(sb:Yk C s.heap h'):Inv X pins σ (upd H D (.lst ys)) {s with heap:=h' } :=
 w.inv.turned (t':=s.toks) (fun b o hb e=>(sb.2 b hb).trans e) w.freeC (yN (yN w.notL)) (.inr w.young) w.notCell w.notPin
def zez{elt tg iter:Expr}{ifs:List Expr}{pos:xp}{wi:TI}{g:TG}{tc:TT}{te:TE}(own:List Str)(fr:List Nat)(hc:X.calm=true)(hi:PI X tg iter wi)
 (hg:∀cl C s₀ H₀ fp,PG (cxC X own fr scope cl C s₀ H₀ fp) tg g) (hq:∀cl C s₀ H₀ fp,PF (cxC X own fr scope cl C s₀ H₀ fp) ifs tc) (he:∀cl C s₀ H₀ fp,PE (cxC X own fr scope cl C s₀ H₀ fp) elt te)
 (hk:scope.kind = .function) (hnm:∀y∈scope.names,scope.names.lookup y.1=some y.2)
 (hfree:∀x∈scope.names,x.2 = .free->(X.env.kindOf x.1=some .cell\/X.env.kindOf x.1=some .free)) (hfr:∀i∈fr,∃x,X.N[i]?=some x/\scope.names.lookup x=some .free)
 (hs:∀x,YQ iter X.env x=pure x:=by intro _;rfl):PE X (.ListComp elt [⟨tg,iter,ifs,0⟩] scope pos) (tLC own.length fr wi g tc te):=by
 intro pins s σ H Q I h;rw[eval_ListComp];have hclos:closureFor scope X.env=pure (z0b X.env.cells scope.names []):=ztl fun x hx e=>I.ok.has x.1 (hfree x hx e);refine wpAny_comprehension_free (use:=none) rfl hs hclos hk (fun x hx e=>by rw[hnm x hx,e]) ?_;show yn _ _ (yW iter X.env) _ _ s;refine thn (hi pins s σ H _ I h) fun v s1 h1=>thn h1 fun itv s2 h2=>?_;refine z2q (RR:=fun acc C=>compPost (yr X.prog X.w) X.A X.xe none (EP X pins σ Q) acc C) own fr hc hg hq he hk hnm hfree hfr h2 fun ys H3 D C s4 q w=>?_;obtain⟨m,hn⟩:=w.own;exact⟨m,hn,fun h' sb=>⟨.ref D,_,w.gone sb,rfl,q D w.free⟩⟩
def zFt{elt tg iter:Expr}{ifs:List Expr}{pos spos py:xp}{wi:TI}{g:TG}{tc:TT}{te:TE}{y:Str}{i:Nat}(own:List Str)(fr:List Nat)(hN:X.N.Nodup)(hiN:X.N[i]?=some y)(hy:X.env.scope.names.lookup y=some .local)(hc:X.calm=true)(hi:PI X tg iter wi)
 (hsw:xS (.ListComp elt [⟨tg,iter,ifs,0⟩] scope pos) (some (.Name y py)) spos.line X.env=pure true)
 (hg:∀cl C s₀ H₀ fp,PG (cxC X own fr scope cl C s₀ H₀ fp) tg g) (hq:∀cl C s₀ H₀ fp,PF (cxC X own fr scope cl C s₀ H₀ fp) ifs tc) (he:∀cl C s₀ H₀ fp,PE (cxC X own fr scope cl C s₀ H₀ fp) elt te)
 (hk:scope.kind = .function) (hnm:∀y∈scope.names,scope.names.lookup y.1=some y.2)
 (hfree:∀x∈scope.names,x.2 = .free->(X.env.kindOf x.1=some .cell\/X.env.kindOf x.1=some .free)) (hfr:∀i∈fr,∃x,X.N[i]?=some x/\scope.names.lookup x=some .free)
 (hs:∀x,YQ iter X.env x=pure x:=by intro _;rfl):PS X (.Assign [.Name y py] (.ListComp elt [⟨tg,iter,ifs,0⟩] scope pos) spos) (z2y (tLC own.length fr wi g tc te) (zCw i)):=by
 intro pins s σ H E I h;rw[exec_Assign_Name_used _ _ _ _ hsw];refine ya (xb (ya ?_));have hclos:closureFor scope X.env=pure (z0b X.env.cells scope.names []):=ztl fun x hx e=>I.ok.has x.1 (hfree x hx e);show yn _ X.A (do let _ <-comprehension (.ListComp elt [⟨tg,iter,ifs,0⟩] scope pos) scope X.env _ (newList []) false (yW iter X.env) (some (assign (.Name y py) X.env))) _ _ s;refine ya (yR (wpAny_comprehension_free (use:=some (assign (.Name y py) X.env)) (Q:=fun _ s'=>SP X pins E .next s') rfl hs hclos hk (fun x hx e=>by rw[hnm x hx,e]) ?_) (fun _ s' hq=>ye (ye hq)) fun _ _ e=>e);show yn _ _ (yW iter X.env) _ _ s;refine thn (hi pins s σ H _ I h) fun v s1 h1=>thn h1 fun itv s2 h2=>?_;refine z2q (RR:=fun acc C=>compPost (yr X.prog X.w) X.A X.xe (some (assign (.Name y py) X.env)) (fun _ s'=>SP X pins E .next s') acc C) own fr hc hg hq he hk hnm hfree hfr h2 fun ys H3 D C s4 q w=>?_;show yn _ X.A (assign (.Name y py) X.env (.ref D)) _ _ s4;obtain⟨m,hn⟩:=w.own;refine wpAny_assign_Name (zhn (v:=V.ref D) w.inv hN hiN (.inl hy) rfl (fun s5 I5 ⟨a,sb,ha⟩=>?_) (.inr hy))
 have haC:C≠a:=by
  rcases ha with e | e
  ·rw[e];exact w.notL
  ·exact yN (w.notCell y a e)
 refine⟨m,hn.sameBut sb haC,fun h' sb'=>?_⟩;refine⟨_,_,I5.turned (t':=s5.toks) (fun b o hb e=>(sb'.2 b hb).trans e) w.freeC w.notL (.inr w.young) w.notCell w.notPin,q D w.free⟩
end
section
variable {K:yu}{ρ ρ1:List Addr}{H H1:Hp}
def OutOk.ext{W:XK}{E:Ends}{o:Out}(h:OutOk K W ρ H E o)(x:Ext ρ H ρ1 H1):OutOk K W ρ1 H1 E o:=by
 cases o with
 |next δ μ=>exact fun ρ' σ' H' x' A=>h ρ' σ' H' (x.trans x') A
 |brk δ μ=>exact fun ρ' σ' H' x' A=>h ρ' σ' H' (x.trans x') A
 |cont δ μ=>exact fun ρ' σ' H' x' A=>h ρ' σ' H' (x.trans x') A
 |ret d μ=>exact fun ρ' v H' x' R r=>h ρ' v H' (x.trans x') R r
 |exc c fs μ=>exact fun ρ' H' C dx hc x' R r=>h ρ' H' C dx hc (x.trans x') R r
def At.set{σ:L2.St}{δ:Loc}{μ:Mem}{d:D}{v:V}(A:At K ρ H σ δ μ)(r:RepV K ρ H d v)(i:Nat):At K ρ H (σ.set i (some v)) (δ.set i (some d)) μ:=by
 refine⟨fun j d' e=>?_,A.hp,by simp[A.len]⟩
 by_cases hj:j=i
 ·subst hj
  have hl:j<δ.length:=by
   have:=(List.getElem?_eq_some_iff.mp e).1;simpa using this
  rw[yM hl]at e;cases e;exact⟨v,by rw[yM (by rw[A.len];exact hl)],r⟩
 ·rw[yJ (yN hj)]at e;obtain⟨u,e1,q⟩:=A.st j d' e;exact⟨u,by rw[yJ (yN hj)];exact e1,q⟩
end
section
variable {X:Cx}{a b c e:Expr}{es:List Expr}{φ ψ χ:FE}{pos:xp}{st:Stmt}{rest:List Stmt}
@[simp] def z9b:FS:=fun δ μ=>some (.next δ μ)
@[simp] def zgb(p q:FS):FS:=fun δ μ=>match p δ μ with
 |some (.next δ' μ')=>q δ' μ'
 |o=>o
def z8:MSs X [] z9b:=zYu zcw fun ρ δ μ σ H o E A e k=>by
 cases e;exact k ρ σ H Ext.refl A
def zn{p:FS}(h:MS X st p):MSs X [st] p:=z1s h
def zj{p q:FS}(h1:MS X st p)(h2:MSs X rest q):MSs X (st::rest) (zgb p q) :=
 zYu (zCp h1 h2) fun ρ δ μ σ H o E A e k=>by
  unfold zgb at e;show tMS X.K (zjm X) p {E with nx:=tMS X.K (zjm X) q E } σ H
  cases ep:p δ μ with
  |none=>rw[ep]at e;cases e
  |some op=>
   rw[ep]at e;refine⟨ρ,δ,μ,op,A,ep,?_⟩
   cases op with
   |next δ' μ'=>exact fun ρ' σ' H' x' A'=>⟨ρ',δ',μ',o,A',e,k.ext x'⟩
   |brk δ' μ'=>cases e;exact k
   |cont δ' μ'=>cases e;exact k
   |ret d μ'=>cases e;exact k
   |exc C fs μ'=>cases e;exact k
@[simp] def zsc(φ:FE):FS:=fun δ μ=>(φ δ μ).bind fun p=>some (.ret p.1 p.2)
def zL(h:ME X e φ):MS X (.Return (some e) pos) (zsc φ):=zGj (z9x h) fun ρ δ μ σ H o E A e k=>by
 obtain⟨⟨x,μ1⟩,e1,e⟩:=zh e;cases e;exact⟨ρ,δ,μ,x,μ1,A,e1,fun ρ' H' v x' R r=>k ρ' v H' x' R r⟩
@[simp] def zXk(φ:FE):FS:=fun δ μ=>(φ δ μ).bind fun p=>some (.next δ p.2)
def zSg(h:ME X e φ)(hs:xS e none pos.line X.env=pure false:=by rfl):MS X (.Expr e pos) (zXk φ):=zGj (zgt h hs) fun ρ δ μ σ H o E A e k=>by
 obtain⟨⟨x,μ1⟩,e1,e⟩:=zh e;cases e;exact⟨ρ,δ,μ,x,μ1,A,e1,fun ρ' H' v x' R r=>k ρ' σ H' x' (A.ext x' R)⟩
@[simp] def zLc(i:Nat)(φ:FE):FS:=fun δ μ=>(φ δ μ).bind fun p=>some (.next (δ.set i (some p.1)) p.2)
def zP{x:Str}{pos':xp}(i:Nat)(he:ME X e φ)(hN:X.N.Nodup:=by first | assumption | decide)(hi:X.N[i]?=some x:=by rfl)(hx:L2.Loc X.env.scope x:=by first | exact Or.inl rfl | exact Or.inr rfl)(hs:xS e (some (.Name x pos')) pos.line X.env=pure false:=by rfl)
 (hf:X.fn x=true\/X.env.scope.names.lookup x=some .local:=by first | exact .inl rfl | exact .inr rfl | assumption):MS X (.Assign [.Name x pos'] e pos) (zLc i φ):=zGj (zex hN hi hx he hs hf) fun ρ δ μ σ H o E A e k=>by
 obtain⟨⟨x,μ1⟩,e1,e⟩:=zh e;cases e;exact⟨ρ,δ,μ,x,μ1,A,e1,fun ρ' H' v x' R r=>k ρ' _ H' x' ((A.ext x' R).set r i)⟩
@[simp] def sIf(c:FT)(p q:FS):FS:=fun δ μ=>(c δ μ).bind fun t=>bif t.1 then p δ t.2 else q δ t.2
def zuc{s1 s2:List Stmt}{t:FT}{p q:FS}(hc:MT X c t)(h1:MSs X s1 p)(h2:MSs X s2 q):MS X (.If c s1 s2 pos) (sIf t p q):=zGj (zYy hc h1 h2) fun ρ δ μ σ H o E A e k=>by
 obtain⟨⟨x,μ1⟩,e1,e⟩:=zh e;refine⟨ρ,δ,μ,x,μ1,A,e1,fun ρ' H' x' R=>?_⟩
 cases x with
 |true=>exact iteT ⟨ρ',δ,μ1,o,A.ext x' R,e,k.ext x'⟩
 |false=>exact iteF ⟨ρ',δ,μ1,o,A.ext x' R,e,k.ext x'⟩
def zHr:FS:=fun _ _=>none
def zNp:MS X st zHr:=zGj zhu fun _ _ _ _ _ _ _ _ e _=>by cases e
abbrev FG:=D->Loc->Mem->Option (Loc×Mem)
abbrev FGs:=List D->Loc->Mem->Option (Loc×Mem)
def tMG(K:yu)(g:FG):TG:=fun v σ H Q=>∃ρ δ μ d δ' μ',At K ρ H σ δ μ/\RepV K ρ H d v/\g d δ μ=some (δ',μ')/\∀ρ' σ' H',Ext ρ H ρ' H'->At K ρ' H' σ' δ' μ'->Q σ' H'
def zXz(K:yu)(g:FGs):TGs:=fun vs σ H Q=>∃ρ δ μ ds δ' μ',At K ρ H σ δ μ/\RepVs K ρ H ds vs/\g ds δ μ=some (δ',μ')/\∀ρ' σ' H',Ext ρ H ρ' H'->At K ρ' H' σ' δ' μ'->Q σ' H'
def MG(X:Cx)(t:Expr)(g:FG):Prop:=PG X t (tMG X.K g)
def MGs(X:Cx)(t:List Expr)(g:FGs):Prop:=PGs X t (zXz X.K g)
def mg_of{t:Expr}{tt:TG}{g:FG}(h:PG X t tt)(w:∀ρ δ μ d δ' μ' v σ H Q,At X.K ρ H σ δ μ->RepV X.K ρ H d v->g d δ μ=some (δ',μ')->(∀ρ' σ' H',Ext ρ H ρ' H'->At X.K ρ' H' σ' δ' μ'->Q σ' H')->tt v σ H Q):MG X t g :=
 by intro pins s σ H v u Q I r hh;obtain⟨ρ,δ,μ,d,δ',μ',A,q,e,k⟩:=hh;exact h pins s σ H v u Q I r (w ρ δ μ d δ' μ' v σ H Q A q e k)
def z2u{t:List Expr}{tt:TGs}{g:FGs}(h:PGs X t tt)(w:∀ρ δ μ d δ' μ' v σ H Q,At X.K ρ H σ δ μ->RepVs X.K ρ H d v->g d δ μ=some (δ',μ')->(∀ρ' σ' H',Ext ρ H ρ' H'->At X.K ρ' H' σ' δ' μ'->Q σ' H')->tt v σ H Q):MGs X t g :=
 by intro pins s σ H v u Q I r hh;obtain⟨ρ,δ,μ,d,δ',μ',A,q,e,k⟩:=hh;exact h pins s σ H v u Q I r (w ρ δ μ d δ' μ' v σ H Q A q e k)
@[simp] def gN(i:Nat):FG:=fun d δ μ=>some (δ.set i (some d),μ)
def z8b{x:Str}(i:Nat)(hN:X.N.Nodup:=by first | assumption | decide)(hi:X.N[i]?=some x:=by rfl)(hx:L2.Loc X.env.scope x:=by first | exact Or.inl rfl | exact Or.inr rfl)(hf:X.fn x=true\/X.env.scope.names.lookup x=some .local:=by first | exact .inl rfl | exact .inr rfl | assumption):MG X (.Name x pos) (gN i) :=
 mg_of (zWr hN hi hx hf) fun ρ δ μ d δ' μ' v σ H Q A q e k=>by
  cases e;exact k ρ _ H Ext.refl (A.set q i)
@[simp] def zYi:FGs:=fun ds δ μ=>match ds with
 |[]=>some (δ,μ)
 |_=>none
@[simp] def zSc(g:FG)(gs:FGs):FGs:=fun ds δ μ=>match ds with
 |d::r=>(g d δ μ).bind fun p=>gs r p.1 p.2
 |_=>none
def zam:MGs X [] zYi:=z2u zpr fun ρ δ μ ds δ' μ' vs σ H Q A q e k=>by
 unfold zYi at e
 split at e
 ·cases e;exact⟨q.nil_inv,k ρ σ H Ext.refl A⟩
 ·cases e
def zle{g:FG}{gs:FGs}(h1:MG X e g)(h2:MGs X es gs)(hs:(YO (e::es) X.env).map (·.2)=assign e X.env::(YO es X.env).map (·.2):=by rfl):MGs X (e::es) (zSc g gs) :=
 z2u (zMp h1 h2 hs) fun ρ δ μ ds δ' μ' vs σ H Q A q e k=>by
  unfold zSc at e
  split at e
  ·obtain⟨⟨δ1,μ1⟩,e1,e⟩:=zh e;obtain⟨v,r,rfl,q1,q2⟩:=q.cons_inv;refine⟨v,r,rfl,ρ,δ,μ,_,δ1,μ1,A,q1,e1,fun ρ1 σ1 H1 x1 A1=>?_⟩;exact⟨ρ1,δ1,μ1,_,δ',μ',A1,q2.ext x1,e,fun ρ2 σ2 H2 x2 A2=>k ρ2 σ2 H2 (x1.trans x2) A2⟩
  ·cases e
@[simp] def gT(n:Nat)(gs:FGs):FG:=fun d δ μ=>match d with
 |.tup ds=>bif ds.length==n then gs ds δ μ else none
 |_=>none
def zHp{k n:Nat}{gs:FGs}(h:MGs X es gs)(hc:X.calm=true:=by rfl)(hn:(YO es X.env).length=n:=by rfl)(hst:(YO es X.env).findIdx? (·.1)=none:=by rfl):MG X (.Tuple es k pos) (gT n gs) :=
 mg_of (zXu hc h hn hst) fun ρ δ μ d δ' μ' v σ H Q A q e k=>by
  unfold gT at e
  split at e
  ·obtain⟨h1,e⟩:=zQ e;obtain⟨a,vs,rfl,e2,q2⟩:=q.tup_inv;exact⟨a,vs,rfl,SqT.of e2,by rw[<-q2.length];exact beq_iff_eq.mp h1,ρ,δ,μ,_,δ',μ',A,q2,e,k⟩
  ·cases e
@[simp] def gAt(φ ψ:FE):FG:=fun d δ μ=>(φ δ μ).bind fun p=>(ψ δ p.2).bind fun q=>match p.1,q.1 with
 |.loc n, .int i=>match q.2[n]? with
  |some (.lst ds)=>(ixN ds.length i).bind fun j=>some (δ,q.2.set n (.lst (ds.set j d)))
  |_=>none
 |_,_=>none
def zgw{o i:Expr}(ho:ME X o φ)(hi:ME X i ψ)(ha:∀v,assign (.Subscript o i pos) X.env v=(do
 let ov <-xC [v] (yW o X.env)
 let iv <-xC [v,ov] (yW i X.env)
 standAt pos
 xC [v,ov,iv] (setItem ov iv v)
 release [v,ov,iv] []):=by intro _;rfl):MG X (.Subscript o i pos) (gAt φ ψ) :=
 mg_of (z4u ho hi zIu ha) fun ρ δ μ d δ' μ' v σ H Q A q e k=>by
  obtain⟨⟨x,μ1⟩,e1,e⟩:=zh e;obtain⟨⟨y,μ2⟩,e2,e⟩:=zh e;refine⟨ρ,δ,μ,x,μ1,A,e1,fun ρ1 H1 v1 x1 R1 r1=>?_⟩;refine⟨ρ1,δ,μ1,y,μ2,A.ext x1 R1,e2,fun ρ2 H2 v2 x2 R2 r2=>?_⟩;dsimp only at e
  split at e
  ·split at e
   ·rename_i hm
    obtain⟨j,e3,e⟩:=zh e;cases e;obtain⟨ad,rfl,hr⟩:=(r1.ext x2).loc_inv;obtain⟨vs,hv,q3⟩:=R2.at_ _ _ _ hr hm;have hmu:Mut (H2 ad):=by rw[hv];trivial
    refine⟨ad,vs,_,j,rfl,r2.int_inv,hv,by rw[<-q3.length];exact e3,?_⟩;have xx:=x1.trans x2;have R3:=R2.wr (o := .lst (vs.set j v)) (lo := .lst _) hmu hr ⟨_,zu,RepVs.ext (Ext.wr hmu) (q3.set j (q.ext xx))⟩;exact k ρ2 σ _ (xx.trans (Ext.wr hmu)) (A.ext (xx.trans (Ext.wr hmu)) R3)
   ·cases e
  ·cases e
@[simp] def zht(φ:FE)(g:FG):FS:=fun δ μ=>(φ δ μ).bind fun p=>(g p.1 δ p.2).bind fun q=>some (.next q.1 q.2)
def zMj{tg:Expr}{g:FG}(he:ME X e φ)(hg:MG X tg g)(hs:swapsWithSole [tg] e pos.line X.env=pure false:=by rfl)(hw:swappedStores [tg] e X.env=pure none:=by rfl)
 (h1:(YO [tg] X.env).map (·.2)=[assign tg X.env]:=by rfl):MS X (.Assign [tg] e pos) (zht φ g):=zGj (zqx he hg hs hw h1) fun ρ δ μ σ H o E A e k=>by
 obtain⟨⟨x,μ1⟩,e1,e⟩:=zh e;obtain⟨⟨δ1,μ2⟩,e2,e⟩:=zh e;cases e;refine⟨ρ,δ,μ,x,μ1,A,e1,fun ρ1 H1 v1 x1 R1 r1=>?_⟩;exact⟨ρ1,δ,μ1,x,δ1,μ2,A.ext x1 R1,r1,e2,fun ρ2 σ2 H2 x2 A2=>k ρ2 σ2 H2 (x1.trans x2) A2⟩
abbrev FI:=Loc->Mem->Option (List D×(Mem->Bool)×Mem)
structure ItIs(K:yu)(J:It)(ρ:List Addr)(H:Hp)(ds:List D)(ok:Mem->Bool):Prop where
 go:∀ρ' H' μ' (i:Nat),Ext ρ H ρ' H'->RepH K ρ' H' μ'->ok μ'=true->i<ds.length->J.go i H'
 yld:∀ρ' H' μ' (i:Nat) x H'' d,Ext ρ H ρ' H'->RepH K ρ' H' μ'->ok μ'=true->ds[i]?=some d->J.yld i H' x H''->Ext ρ' H' ρ' H''/\RepH K ρ' H'' μ'/\RepV K ρ' H'' d x
 stop:∀ρ' H' μ',Ext ρ H ρ' H'->RepH K ρ' H' μ'->ok μ'=true->J.stop ds.length H'
def tMI(K:yu)(φ:FI):TI:=fun σ H R=>∃ρ δ μ ds ok μ',At K ρ H σ δ μ/\φ δ μ=some (ds,ok,μ')/\∀ρ' H' J,Ext ρ H ρ' H'->RepH K ρ' H' μ'->ItIs K J ρ' H' ds ok->R J H'
def MI(X:Cx)(tg iter:Expr)(φ:FI):Prop:=PI X tg iter (tMI X.K φ)
def z4s{tg it:Expr}{t:TI}{φ:FI}(h:PI X tg it t)(w:∀ρ δ μ σ H ds ok μ' R,At X.K ρ H σ δ μ->φ δ μ=some (ds,ok,μ')->(∀ρ' H' J,Ext ρ H ρ' H'->RepH X.K ρ' H' μ'->ItIs X.K J ρ' H' ds ok->R J H')->t σ H R):MI X tg it φ :=
 by intro pins s σ H R I hh;obtain⟨ρ,δ,μ,ds,ok,μ',A,e,k⟩:=hh;exact h pins s σ H R I (w ρ δ μ σ H ds ok μ' R A e k)
@[simp] def yes:Mem->Bool:=fun _=>true
@[simp] def zxk(φ:FA):FI:=fun δ μ=>(φ δ μ).bind fun p=>match p.1 with
 |[.int j]=>bif decide (-(2^62)<=j/\j<2^62) then some ((yy j.toNat).map fun(k:Nat) => .int k,yes,p.2) else none
 |_=>none
def z7i{tg:Expr}{p:xp}{φ:FA}(hm:X.mg "range" = none)(ha:MAn X [a] φ)(hg:Gl X "range":=by rfl)(hs:yf [a] X.env=[(false,yW a X.env)]:=by rfl):MI X tg (.Call (.Name "range" p) [a] [] pos) (zxk φ) :=
 z4s (zVr hg hm ha.ma hs) fun ρ δ μ σ H ds ok μ' R A e k=>by
  obtain⟨⟨x,μ1⟩,e1,e⟩:=zh e;refine⟨ρ,δ,μ,x,μ1,A,e1,fun ρ1 H1 v1 x1 R1 r1=>?_⟩;dsimp only at e
  split at e
  ·rename_i j
   obtain⟨h1,e⟩:=zQ e;have h2:=of_decide_eq_true h1;cases e;obtain⟨w,r,rfl,q1,q2⟩:=r1.cons_inv;refine⟨j,by rw[q1.int_inv,q2.nil_inv],h2.1,h2.2,k ρ1 H1 _ x1 R1 ⟨fun ρ' H' μ' i _ _ _ h=>by rw[length_map,length_range]at h;exact h,fun ρ' H' μ' i x H'' d _ RR _ e ⟨y1,y2⟩=>⟨y1▸Ext.refl,y1▸RR,?_⟩,fun ρ' H' μ' _ _ _=>by show j.toNat<=_;simp⟩⟩;rw[yh]at e
   cases e3:(yy j.toNat)[i]? with
   |none=>rw[e3]at e;cases e
   |some m=>
    rw[e3]at e
    have hmi:m=i:=by
     obtain⟨w1,w2⟩:=List.getElem?_eq_some_iff.mp e3;simpa using w2.symm
    subst hmi;have e':D.int (m:Nat)=d:=Yd e;subst e';rw[y2,show(0:Int)+(m:Nat)=(m:Int) by omega];exact .int
  ·cases e
def zQu{K:yu}{ρ:List Addr}{H:Hp}{a:Addr}{vs:List V}{ds:List D}(h:H a=some (.tup vs))(r:RepVs K ρ H ds vs):ItIs K (Itt K a) ρ H ds yes:=by
 refine⟨fun ρ' H' μ' i x R _ hi=>?_,fun ρ' H' μ' i x H'' d x' R _ e ⟨y1,y2⟩=>⟨y1▸Ext.refl,y1▸R,y1▸?_⟩,fun ρ' H' μ' x R _=>⟨vs,SqT.of (x.tup _ _ h),by rw[r.length];exact yi _⟩⟩
 ·have hi':i<vs.length:=by rw[<-r.length];exact hi
  exact⟨vs,vs[i],SqT.of (x.tup _ _ h),by simp[hi']⟩
 ·have q:=y2 vs (SqT.of (x'.tup _ _ h));obtain⟨w,e1,rr⟩:=(r.ext x').get e;rw[q]at e1;cases e1;exact rr
@[simp] def zNu(φ:FE):FI:=fun δ μ=>(φ δ μ).bind fun p=>match p.1 with
 |.tup ds=>some (ds,yes,p.2)
 |_=>none
def zmx{tg:Expr}(h:ME X a φ):MI X tg a (zNu φ) :=
 z4s (zay h) fun ρ δ μ σ H ds ok μ' R A e k=>by
  obtain⟨⟨x,μ1⟩,e1,e⟩:=zh e;refine⟨ρ,δ,μ,x,μ1,A,e1,fun ρ1 H1 v1 x1 R1 r1=>?_⟩;dsimp only at e
  split at e
  ·cases e;obtain⟨a,vs,rfl,e2,q2⟩:=r1.tup_inv;exact⟨a,rfl,⟨vs,SqT.of e2⟩,k ρ1 H1 _ x1 R1 (zQu e2 q2)⟩
  ·cases e
def zmn(n:Nat)(ds:List D):Mem->Bool:=fun μ=>@decide (μ[n]?=some (.lst ds)) (Classical.propDecidable _)
def stays_iff{n:Nat}{ds:List D}{μ:Mem}:zmn n ds μ=true↔μ[n]?=some (.lst ds):=by
 unfold zmn;exact @decide_eq_true_iff _ (Classical.propDecidable _)
def zqs(φ:FE):FI:=fun δ μ=>(φ δ μ).bind fun p=>match p.1 with
 |.fz ds=>some (ds,yes,p.2)
 |.loc n=>match p.2[n]? with
  |some (.lst ds)=>some (ds,zmn n ds,p.2)
  |_=>none
 |_=>none
def ztp{K:yu}{ρ:List Addr}{H:Hp}{a:Addr}{ds:List D}{ok:Mem->Bool}(h:∀ρ' H' μ',Ext ρ H ρ' H'->RepH K ρ' H' μ'->ok μ'=true->∃vs,SqL K H' a vs/\RepVs K ρ' H' ds vs):ItIs K (Itl K a) ρ H ds ok:=by
 refine⟨fun ρ' H' μ' i x R o hi=>?_,fun ρ' H' μ' i x H'' d x' R o e ⟨y1,y2⟩=>⟨y1▸Ext.refl,y1▸R,y1▸?_⟩,fun ρ' H' μ' x R o=>?_⟩
 ·obtain⟨vs,s,r⟩:=h ρ' H' μ' x R o;have hi':i<vs.length:=by rw[<-r.length];exact hi
  exact⟨vs,vs[i],s,by simp[hi']⟩
 ·obtain⟨vs,s,r⟩:=h ρ' H' μ' x' R o;have q:=y2 vs s;obtain⟨w,e1,rr⟩:=r.get e;rw[q]at e1;cases e1;exact rr
 ·obtain⟨vs,s,r⟩:=h ρ' H' μ' x R o;exact⟨vs,s,by rw[r.length];exact yi _⟩
def z1r{tg:Expr}(h:ME X a φ):MI X tg a (zqs φ) :=
 z4s (zSw h) fun ρ δ μ σ H ds ok μ' R A e k=>by
  obtain⟨⟨x,μ1⟩,e1,e⟩:=zh e;refine⟨ρ,δ,μ,x,μ1,A,e1,fun ρ1 H1 v1 x1 R1 r1=>?_⟩;dsimp only at e
  split at e
  ·cases e;obtain⟨a,vs,rfl,e2,q2⟩:=r1.fz_inv;exact⟨a,rfl,⟨vs,e2.sq⟩,k ρ1 H1 _ x1 R1 (ztp fun ρ' H' μ' x _ _=>⟨vs,(x.fz e2).sq,q2.ext x⟩)⟩
  ·split at e
   ·rename_i hm
    cases e;obtain⟨a,rfl,e2⟩:=r1.loc_inv;obtain⟨vs,e3,q3⟩:=R1.at_ _ _ _ e2 hm;refine⟨a,rfl,⟨vs,SqL.of e3⟩,k ρ1 H1 _ x1 R1 (ztp fun ρ' H' μ'' x R' o=>?_)⟩;obtain⟨vs',e4,q4⟩:=R'.at_ _ _ _ (x.get e2) (stays_iff.mp o);exact⟨vs',SqL.of e4,q4⟩
   ·cases e
  ·cases e
def zni(g:FG)(body:FS)(ok:Mem->Bool):List D->FS
 |[],δ,μ=>bif ok μ then some (.next δ μ) else none
 |x::xs,δ,μ=>bif ok μ then(g x δ μ).bind fun p=>match body p.1 p.2 with
  |some (.next δ' μ')=>zni g body ok xs δ' μ'
  |some (.cont δ' μ')=>zni g body ok xs δ' μ'
  |some (.brk δ' μ')=>some (.next δ' μ')
  |some (.ret d μ')=>some (.ret d μ')
  |some (.exc C fs μ')=>some (.exc C fs μ')
  |none=>none
  else none
@[simp] def zhm(i:FI)(g:FG)(body:FS):FS:=fun δ μ=>(i δ μ).bind fun p=>zni g body p.2.1 p.1 δ p.2.2
def zve{tg iter:Expr}{body:List Stmt}{i:FI}{g:FG}{p:FS}(hi:MI X tg iter i)(hg:MG X tg g)(hb:MSs X body p)(hx:PassesOwn (yr X.prog X.w) X.A X.env X.xe:=by first | exact PassesOwn.never | exact PassesOwn.leaving)(hc:X.calm=true:=by rfl)
 (hs:∀x,YQ iter X.env x=pure x:=by intro _;rfl):MS X (.For tg iter body [] pos) (zhm i g p) :=
 zGj (zdy hx hc hi hg hb hs) fun ρ δ μ σ H o E A e k=>by
  obtain⟨⟨ds,ok,μ1⟩,e1,e⟩:=zh e;refine⟨ρ,δ,μ,ds,ok,μ1,A,e1,fun ρ1 H1 J x1 R1 II=>?_⟩;refine⟨fun i m σ' H'=>∃ρ' δ' μ',Ext ρ1 H1 ρ' H'/\At X.K ρ' H' σ' δ' μ'/\i<=ds.length/\m=ds.length-i/\zni g p ok (ds.drop i) δ' μ'=some o,⟨_,ρ1,δ,μ1,Ext.refl,A.ext x1 R1,Ys _,rfl,e⟩,?_⟩;rintro i m σ' H' ⟨ρ',δ',μ',x',A',hi,rfl,ef⟩
  by_cases hlt:i<ds.length
  ·right
   have hd:ds.drop i=ds[i]::ds.drop (i+1):=drop_eq_getElem_cons hlt;rw[hd]at ef;unfold zni at ef;obtain⟨hok,ef⟩:=zQ ef;obtain⟨⟨δ2,μ2⟩,e2,ef⟩:=zh ef;refine⟨II.go ρ' H' μ' i x' A'.hp hok hlt,fun σ3 H3=>∃ρ3 δ3 μ3,Ext ρ1 H1 ρ3 H3/\At X.K ρ3 H3 σ3 δ3 μ3/\zni g p ok (ds.drop (i+1)) δ3 μ3=some o,fun σ3 H3 ⟨ρ3,δ3,μ3,x3,A3,e3⟩=>⟨ds.length-(i+1),by omega,ρ3,δ3,μ3,x3,A3,hlt,rfl,e3⟩,fun x H'' y=>?_⟩;obtain⟨xe,Re,rx⟩:=II.yld ρ' H' μ' i x H'' ds[i] x' A'.hp hok (by simp[hlt]) y;have x':=x'.trans xe;refine⟨ρ',δ',μ',ds[i],δ2,μ2,A'.ext xe Re,rx,e2,fun ρ4 σ4 H4 x4 A4=>?_⟩
   cases eb:p δ2 μ2 with
   |none=>rw[eb]at ef;cases ef
   |some ob=>
    rw[eb]at ef;refine⟨ρ4,δ2,μ2,ob,A4,eb,?_⟩;have x5:=x'.trans x4
    cases ob with
    |next δ6 μ6=>exact fun ρ6 σ6 H6 x6 A6=>⟨ρ6,δ6,μ6,x5.trans x6,A6,ef⟩
    |cont δ6 μ6=>exact fun ρ6 σ6 H6 x6 A6=>⟨ρ6,δ6,μ6,x5.trans x6,A6,ef⟩
    |brk δ6 μ6=>cases ef;exact(k.ext x1).ext x5
    |ret d μ6=>cases ef;exact(k.ext x1).ext x5
    |exc C fs μ6=>cases ef;exact(k.ext x1).ext x5
  ·left
   have e0:i=ds.length:=by omega
   subst e0;rw[List.drop_length]at ef;unfold zni at ef;obtain⟨hok,ef⟩:=zQ ef;cases ef;exact⟨II.stop ρ' H' μ' x' A'.hp hok,k ρ' σ' H' (x1.trans x') A'⟩
end
def zit(g:FG)(c:FT)(φ:FE)(ok:Mem->Bool)(δ:Loc):List D->List D->Mem->Option (D×Mem)
 |[],ys,μ=>bif ok μ then some (.loc μ.length,μ++[.lst ys]) else none
 |x::xs,ys,μ=>bif ok μ then(g x δ μ).bind fun p=>(c p.1 p.2).bind fun t=>bif t.1 then(φ p.1 t.2).bind fun q=>zit g c φ ok δ xs (ys++[q.1]) q.2 else zit g c φ ok δ xs ys t.2 else none
@[simp] def δC(n:Nat)(fr:List Nat)(δ:Loc):Loc:=yA n none++fr.map fun i=>(δ[i]?).getD none
@[simp] def few(ds:List D):Bool:=decide (ds.length<=1000000)
@[simp] def fLC(n:Nat)(fr:List Nat)(i:FI)(g:FG)(c:FT)(φ:FE):FE:=fun δ μ=>(i δ μ).bind fun p=>bif few p.1 then zit g c φ p.2.1 (δC n fr δ) p.1 [] p.2.2 else none
def MF(X:Cx)(ifs:List Expr)(c:FT):Prop:=PF X ifs (tMT X.K c)
@[simp] def z7k:FT:=fun _ μ=>some (true,μ)
def zTe{X:Cx}:MF X [] z7k:=by intro pins s σ H Q I hh;obtain⟨ρ,δ,μ,b,μ',A,e,k⟩:=hh;exact zgy pins s σ H Q I (by cases e;exact k ρ H Ext.refl A.hp)
def zTo{X:Cx}{e:Expr}{c:FT}(h:MT X e c):MF X [e] c:=zAx h
def At.δC{K:yu}{ρ:List Addr}{H:Hp}{σ:L2.St}{δ:Loc}{μ:Mem}(A:At K ρ H σ δ μ)(n:Nat)(fr:List Nat):At K ρ H (σC n fr σ) (M.δC n fr δ) μ:=by
 refine⟨fun i d e=>?_,A.hp,by unfold σC M.δC;simp⟩;unfold M.δC at e;unfold σC
 by_cases hi:i<n
 ·rw[yq (by simpa using hi),YK]at e
  split at e<;>cases e
 ·have hi:n<=i:=Nat.le_of_not_lt hi;rw[yK (by simpa using hi),xX,yh]at e;rw[yK (by simpa using hi),xX,yh]
  cases e1:fr[i-n]? with
  |none=>rw[e1]at e;cases e
  |some j=>
   rw[e1]at e;have e2:(δ[j]?).getD none=some d:=Yd e
   have e3:δ[j]?=some (some d):=by
    cases q:δ[j]? with
    |none=>rw[q]at e2;cases e2
    |some z=>rw[q]at e2;exact congrArg some e2
   obtain⟨v,hv,r⟩:=A.st j d e3;exact⟨v,by rw[xQ,hv];rfl,r⟩
def Front(n:Nat)(σ σ':L2.St):Prop:=σ'.length=σ.length/\∀(i:Nat),n<=i->σ'[i]?=σ[i]?
def Front.refl{n:Nat}{σ:L2.St}:Front n σ σ:=⟨rfl,fun _ _=>rfl⟩
def Front.trans{n:Nat}{σ σ1 σ2:L2.St}(a:Front n σ σ1)(b:Front n σ1 σ2):Front n σ σ2:=⟨b.1.trans a.1,fun i h=>(b.2 i h).trans (a.2 i h)⟩
def tGc(K:yu)(n:Nat)(g:FG):TG:=fun v σ H Q=>∃ρ δ μ d δ' μ',At K ρ H σ δ μ/\RepV K ρ H d v/\g d δ μ=some (δ',μ')/\∀ρ' σ' H',Ext ρ H ρ' H'->At K ρ' H' σ' δ' μ'->Front n σ σ'->Q σ' H'
def zRz(K:yu)(n:Nat)(g:FGs):TGs:=fun vs σ H Q=>∃ρ δ μ ds δ' μ',At K ρ H σ δ μ/\RepVs K ρ H ds vs/\g ds δ μ=some (δ',μ')/\∀ρ' σ' H',Ext ρ H ρ' H'->At K ρ' H' σ' δ' μ'->Front n σ σ'->Q σ' H'
def MGc(X:Cx)(n:Nat)(t:Expr)(g:FG):Prop:=PG X t (tGc X.K n g)
def zIy(X:Cx)(n:Nat)(t:List Expr)(g:FGs):Prop:=PGs X t (zRz X.K n g)
section
variable {X:Cx}{e:Expr}{es:List Expr}{pos:xp}{n:Nat}
def zqb{x:Str}(i:Nat)(hin:i<n:=by decide)(hN:X.N.Nodup:=by first | assumption | decide)(hi:X.N[i]?=some x:=by rfl)(hx:L2.Loc X.env.scope x:=by first | exact Or.inl rfl | exact Or.inr rfl)(hf:X.fn x=true\/X.env.scope.names.lookup x=some .local:=by first | exact .inl rfl | exact .inr rfl | assumption):MGc X n (.Name x pos) (gN i) :=
 by intro pins s σ H v u Q I r hh;obtain⟨ρ,δ,μ,d,δ',μ',A,q,e,k⟩:=hh;exact zWr hN hi hx hf pins s σ H v u Q I r (by
  cases e;exact k ρ _ H Ext.refl (A.set q i) ⟨by simp,fun j hj=>yJ (by omega)⟩)
def zqm:zIy X n [] zYi:=by intro pins s σ H v u Q I r hh;obtain⟨ρ,δ,μ,d,δ',μ',A,q,e,k⟩:=hh;exact zpr pins s σ H v u Q I r (by
 unfold zYi at e
 split at e
 ·cases e;exact⟨q.nil_inv,k ρ σ H Ext.refl A Front.refl⟩
 ·cases e)
def zPe{g:FG}{gs:FGs}(h1:MGc X n e g)(h2:zIy X n es gs)(hs:(YO (e::es) X.env).map (·.2)=assign e X.env::(YO es X.env).map (·.2):=by rfl):zIy X n (e::es) (zSc g gs) :=
 by intro pins s σ H vs us Q I r hh;obtain⟨ρ,δ,μ,ds,δ',μ',A,q,e,k⟩:=hh;exact zMp h1 h2 hs pins s σ H vs us Q I r (by
  unfold zSc at e
  split at e
  ·obtain⟨⟨δ1,μ1⟩,e1,e⟩:=zh e;obtain⟨v,vr,rfl,q1,q2⟩:=q.cons_inv;refine⟨v,vr,rfl,ρ,δ,μ,_,δ1,μ1,A,q1,e1,fun ρ1 σ1 H1 x1 A1 f1=>?_⟩;exact⟨ρ1,δ1,μ1,_,δ',μ',A1,q2.ext x1,e,fun ρ2 σ2 H2 x2 A2 f2=>k ρ2 σ2 H2 (x1.trans x2) A2 (f1.trans f2)⟩
  ·cases e)
def zeo{k m:Nat}{gs:FGs}(h:zIy X n es gs)(hc:X.calm=true:=by rfl)(hn:(YO es X.env).length=m:=by rfl)(hst:(YO es X.env).findIdx? (·.1)=none:=by rfl):MGc X n (.Tuple es k pos) (gT m gs) :=
 by intro pins s σ H v u Q I r hh;obtain⟨ρ,δ,μ,d,δ',μ',A,q,e,k⟩:=hh;exact zXu hc h hn hst pins s σ H v u Q I r (by
  unfold gT at e
  split at e
  ·obtain⟨h1,e⟩:=zQ e;obtain⟨a,vs,rfl,e2,q2⟩:=q.tup_inv;exact⟨a,vs,rfl,SqT.of e2,by rw[<-q2.length];exact beq_iff_eq.mp h1,ρ,δ,μ,_,δ',μ',A,q2,e,k⟩
  ·cases e)
end
def ztr{n:Nat}{fr:List Nat}{σ σ':L2.St}(f:Front n (σC n fr σ) σ'):zaw (σC n fr σ) σ':=by
 refine⟨f.1,fun i v e=>?_⟩;obtain⟨hi,_⟩:=σC_get e;rw[f.2 i hi];exact e
def million:1000000<yB:=by rw[Yp];decide
def zAz{K:yu}{n:Nat}{fr:List Nat}{i:FI}{g:FG}{c:FT}{φ:FE}{ρ:List Addr}{δ:Loc}{μ:Mem}{σ:L2.St}{H:Hp}{d:D}{μ':Mem}{Q:VK}(A:At K ρ H σ δ μ)(e:fLC n fr i g c φ δ μ=some (d,μ'))
 (k:∀ρ' H' v,Ext ρ H ρ' H'->RepH K ρ' H' μ'->RepV K ρ' H' d v->Q v H'):tLC n fr (tMI K i) (tGc K n g) (tMT K c) (tM K φ) σ H Q:=by
 obtain⟨⟨ds,ok,μ1⟩,e1,e⟩:=zh e;obtain⟨hfew,e⟩:=zQ e;have hfew:ds.length<=1000000:=of_decide_eq_true hfew;refine⟨ρ,δ,μ,ds,ok,μ1,A,e1,fun ρ1 H1 J x1 R1 II=>?_⟩;refine⟨fun i m ys H'=>∃ρ' es μ2,Ext ρ1 H1 ρ' H'/\RepH K ρ' H' μ2/\RepVs K ρ' H' es ys/\es.length<=i/\i<=ds.length/\m=ds.length-i/\zit g c φ ok (δC n fr δ) (ds.drop i) es μ2=some (d,μ'),⟨_,ρ1,[],μ1,Ext.refl,R1, .nil,Ys _,Ys _,rfl,e⟩,?_⟩;rintro i m ys H' ⟨ρ',es,μ2,x',R',re,hel,hi,rfl,ef⟩
 by_cases hlt:i<ds.length
 ·right
  have hd:ds.drop i=ds[i]::ds.drop (i+1):=drop_eq_getElem_cons hlt;rw[hd]at ef;unfold zit at ef;obtain⟨hok,ef⟩:=zQ ef;obtain⟨⟨δ2,μ3⟩,e2,ef⟩:=zh ef;obtain⟨⟨b,μ4⟩,e3,ef⟩:=zh ef;refine⟨II.go ρ' H' μ2 i x' R' hok hlt,?_,fun x H'' y=>?_⟩
  ·rw[<-re.length];exact Nat.lt_of_le_of_lt (yC hel (yC hi hfew)) million
  ·obtain⟨xe,Re,rx⟩:=II.yld ρ' H' μ2 i x H'' ds[i] x' R' hok (by simp[hlt]) y;have x':=x'.trans xe;have re:=re.ext xe;have A':At K ρ' H'' (σC n fr σ) (δC n fr δ) μ2:=((A.ext x1 R1).ext x' Re).δC n fr;refine⟨ρ',_,μ2,ds[i],δ2,μ3,A',rx,e2,fun ρ4 σ4 H4 x4 A4 f4=>⟨ztr f4,?_⟩⟩;refine⟨ρ4,δ2,μ3,b,μ4,A4,e3,fun ρ5 H5 x5 R5=>?_⟩
   cases b with
   |false=>exact iteF ⟨ds.length-(i+1),by omega,ρ5,es,μ4,x'.trans (x4.trans x5),R5,re.ext (x4.trans x5),by omega,hlt,rfl,ef⟩
   |true=>
    obtain⟨⟨y,μ6⟩,e4,ef⟩:=zh ef;refine iteT ⟨ρ5,δ2,μ4,y,μ6,A4.ext x5 R5,e4,fun ρ6 H6 v x6 R6 r6=>?_⟩;exact⟨ds.length-(i+1),by omega,ρ6,es++[y],μ6,x'.trans (x4.trans (x5.trans x6)),R6,(re.ext (x4.trans (x5.trans x6))).append (.cons r6 .nil),by simp;exact hel,hlt,rfl,ef⟩
 ·left
  have e0:i=ds.length:=by omega
  subst e0;rw[List.drop_length]at ef;unfold zit at ef;obtain⟨hok,ef⟩:=zQ ef;cases ef;refine⟨II.stop ρ' H' μ2 x' R' hok,fun p hp=>?_⟩;exact k _ _ _ (x1.trans (x'.trans (Ext.push hp))) (R'.push hp ⟨ys,zu,re.ext (Ext.push hp)⟩) (.loc (zEb R'))
def zOy{X:Cx}{scope:Xb}{elt tg iter:Expr}{ifs:List Expr}{pos:xp}{i:FI}{g:FG}{c:FT}{φ:FE}(own:List Str)(fr:List Nat)(hi:MI X tg iter i)
 (hg:∀cl C s₀ H₀ fp,MGc (cxC X own fr scope cl C s₀ H₀ fp) own.length tg g) (hq:∀cl C s₀ H₀ fp,MF (cxC X own fr scope cl C s₀ H₀ fp) ifs c) (he:∀cl C s₀ H₀ fp,ME (cxC X own fr scope cl C s₀ H₀ fp) elt φ)
 (hc:X.calm=true:=by rfl) (hk:scope.kind = .function:=by rfl) (hnm:∀y∈scope.names,scope.names.lookup y.1=some y.2:=by decide)
 (hfree:∀x∈scope.names,x.2 = .free->(X.env.kindOf x.1=some .cell\/X.env.kindOf x.1=some .free):=by decide) (hfr:∀i∈fr,∃x,X.N[i]?=some x/\scope.names.lookup x=some .free)
 (hs:∀x,YQ iter X.env x=pure x:=by intro _;rfl):ME X (.ListComp elt [⟨tg,iter,ifs,0⟩] scope pos) (fLC own.length fr i g c φ) :=
 zfe (zez (wi:=tMI X.K i) (g:=tGc X.K own.length g) (tc:=tMT X.K c) (te:=tM X.K φ) own fr hc hi (fun cl C s₀ H₀ fp=>hg cl C s₀ H₀ fp) (fun cl C s₀ H₀ fp=>hq cl C s₀ H₀ fp) (fun cl C s₀ H₀ fp=>he cl C s₀ H₀ fp) hk hnm hfree hfr hs) fun ρ δ μ σ H d μ' Q A e k=>zAz A e k
def toP(μ:Mem):Nat->D->Option xK
 |0,_=>none
 |n+1,d=>match d with
  |.non=>some .none
  |.bl b=>some (.bool b)
  |.int i=>some (.int i)
  |.str x=>bif PyData.strOk x then some (.str x) else none
  |.ty _=>none
  |.own _=>none
  |.tup ds=>(ds.mapM (toP μ n)).bind fun ps=>some (.tuple ps)
  |.fz ds=>(ds.mapM (toP μ n)).bind fun ps=>some (.list ps)
  |.loc k=>match μ[k]? with
   |some (.lst ds)=>(ds.mapM (toP μ n)).bind fun ps=>some (.list ps)
   |_=>none
def zEi{f:D->Option xK}{ps:List xK}(h:([]:List D).mapM f=some ps):ps=[]:=by
 simp at h;exact h
def zMh{f:D->Option xK}{d:D}{ds:List D}{ps:List xK}(h:(d::ds).mapM f=some ps):∃p r,f d=some p/\ds.mapM f=some r/\ps=p::r:=by
 rw[mapM_cons]at h;obtain⟨p,e1,h⟩:=zh h;obtain⟨r,e2,h⟩:=zh h;cases h;exact⟨p,r,e1,e2,rfl⟩
def zCl{f:D->Option xK}{m:Nat}(hf:∀d p,f d=some p->p.canLay0=true/\p.depth<=m):∀{ds:List D} {ps:List xK},ds.mapM f=some ps->Xe ps=true/\PyData.depthAll ps<=m
 |[],ps,h=>by rw[zEi h];exact⟨rfl,Ys _⟩
 |d::ds,ps,h=>by
  obtain⟨p,r,e1,e2,rfl⟩:=zMh h;obtain⟨h1,h2⟩:=hf d p e1;obtain⟨h3,h4⟩:=zCl hf e2;refine⟨?_,?_⟩
  ·simp only[Xe,h1,h3,Bool.and_true]
  ·simp only[PyData.depthAll];omega
def zBk{μ:Mem}:∀(n:Nat)(d:D)(p:xK),toP μ n d=some p->p.canLay0=true/\p.depth<=n
 |0,d,p,h=>by cases h
 |n+1,d,p,h=>by
  have seq:∀{ds:List D} {c:List xK->xK},(∀ps,(c ps).canLay0=Xe ps)->(∀ps,(c ps).depth=PyData.depthAll ps+1)->((ds.mapM (toP μ n)).bind fun ps=>some (c ps))=some p->p.canLay0=true/\p.depth<=n+1:=fun{ds c} h1 h2 h=>by
   obtain⟨ps,e1,e2⟩:=zh h;cases e2;obtain⟨q1,q2⟩:=zCl (zBk n) e1;exact⟨by rw[h1];exact q1,by rw[h2];omega⟩
  unfold toP at h
  cases d with
  |non=>cases h;exact⟨rfl,Ys _⟩
  |bl b=>cases h;exact⟨rfl,Ys _⟩
  |int b=>cases h;exact⟨rfl,Ys _⟩
  |str x=>
   obtain⟨h1,h2⟩:=zQ h;cases h2;exact⟨h1,Ys _⟩
  |ty _=>cases h
  |own _=>cases h
  |tup ds=>exact seq (fun _=>rfl) (fun _=>rfl) h
  |fz ds=>exact seq (fun _=>rfl) (fun _=>rfl) h
  |loc k=>
   dsimp only at h
   split at h
   ·exact seq (fun _=>rfl) (fun _=>rfl) h
   ·cases h
section
variable {X:Cx}{pins:List (Addr×YN)}{σ:L2.St}{H:Hp}{s:yb}{ρ:List Addr}{μ:Mem}
def z1g{f:D->Option xK}(hf:∀d p v u,f d=some p->RepV X.K ρ H d v->RelV v u->∃as,Reads s.heap u p as):∀{ds:List D} {ps:List xK} {vs:List V} {us:List Value},ds.mapM f=some ps->RepVs X.K ρ H ds vs->Vals vs us->∃as,ReadsAll s.heap us ps as
 |[],ps,vs,us,h,r,q=>by
  rw[zEi h];rw[r.nil_inv]at q;cases q;exact⟨[], .nil⟩
 |d::ds,ps,vs,us,h,r,q=>by
  obtain⟨p,pr,e1,e2,rfl⟩:=zMh h;obtain⟨v,vr,rfl,r1,r2⟩:=r.cons_inv
  cases q with
  |cons q1 q2=>
   obtain⟨a1,h1⟩:=hf _ _ _ _ e1 r1 q1;obtain⟨a2,h2⟩:=z1g hf e2 r2 q2;exact⟨_, .cons h1 h2⟩
def zaf(I:Inv X pins σ H s)(R:RepH X.K ρ H μ):∀(n:Nat)(d:D)(p:xK)(v:V)(u:Value),toP μ n d=some p->RepV X.K ρ H d v->RelV v u->∃as,Reads s.heap u p as
 |0,d,p,v,u,h,_,_=>by cases h
 |n+1,d,p,v,u,h,r,q=>by
  unfold toP at h
  cases d with
  |non=>cases h;rw[r.non_inv]at q;cases q;exact⟨_, .none⟩
  |bl b=>cases h;rw[r.bl_inv]at q;cases q;exact⟨_, .bool b⟩
  |int b=>cases h;rw[r.int_inv]at q;obtain⟨t,rfl⟩:=q;exact⟨_, .int b t⟩
  |str x=>
   obtain⟨h1,h2⟩:=zQ h;cases h2;rw[r.str_inv]at q;obtain⟨t,rfl⟩:=q;exact⟨_, .str x t⟩
  |ty _=>cases h
  |own _=>cases h
  |tup ds=>
   obtain⟨ps,e1,e2⟩:=zh h;cases e2;obtain⟨a,vs,rfl,e3,rr⟩:=r.tup_inv;cases q;obtain⟨its,rv,⟨o,ho,hc,k,hd⟩,_⟩:=I.tuple (SqT.of e3);obtain⟨as,ha⟩:=z1g (zaf I R n) e1 rr rv;exact⟨_,reads_tuple_at ho hc hd (by simpa using ha)⟩
  |fz ds=>
   obtain⟨ps,e1,e2⟩:=zh h;cases e2;obtain⟨a,vs,rfl,e3,rr⟩:=r.fz_inv;cases q;obtain⟨its,rv,⟨o,k,ho,hc,_,hd⟩,_⟩:=I.list e3.sq;obtain⟨as,ha⟩:=z1g (zaf I R n) e1 rr rv;exact⟨_,reads_list_at ho hc hd (by simpa using ha)⟩
  |loc k=>
   dsimp only at h
   split at h
   ·rename_i hm
    obtain⟨ps,e1,e2⟩:=zh h;cases e2;obtain⟨a,rfl,e2⟩:=r.loc_inv;obtain⟨vs,e3,rr⟩:=R.at_ _ _ _ e2 hm;cases q;obtain⟨its,rv,⟨o,k,ho,hc,_,hd⟩,_⟩:=I.list (SqL.of (K:=X.K) e3);obtain⟨as,ha⟩:=z1g (zaf I R n) e1 rr rv;exact⟨_,reads_list_at ho hc hd (by simpa using ha)⟩
   ·cases h
end
def gEq:G2:=fun x y μ=>(toP μ 8 x).bind fun p=>(toP μ 8 y).bind fun q=>some (.bl (Yb p q),μ)
def gNe:G2:=fun x y μ=>(toP μ 8 x).bind fun p=>(toP μ 8 y).bind fun q=>some (.bl (!PyData.eqv p q),μ)
def zfh{μ:Mem}{d:D}{p:xK}(h:toP μ 8 d=some p):SeqAt.shaped p=true:=by
 obtain⟨h1,h2⟩:=zBk 8 d p h;unfold SeqAt.shaped;rw[h1,decide_eq_true (by omega)];rfl
section
variable {X:Cx}{a b c e:Expr}{es:List Expr}{φ ψ χ:FE}{pos:xp}
def z5c(hu:X.A.units+64<cLine):OpM X (Yn .Eq) gEq:=by
 refine OpM.of fun pins s σ H x y v u Q I rx ry ρ dx dy μ d μ' r1 r2 R e k=>?_;obtain⟨p,e1,e⟩:=zh e;obtain⟨q,e2,e⟩:=zh e;cases e;obtain⟨as,h1⟩:=zaf I R 8 dx p x v e1 r1 rx;obtain⟨bs,h2⟩:=zaf I R 8 dy q y u e2 r2 ry;exact eq_dataH h1 h2 (zfh e1) (zfh e2) hu ⟨.bl _,H,I,rfl,k ρ H _ Ext.refl R .bl⟩
def z1k(hu:X.A.units+64<cLine):OpM X (Yn .NotEq) gNe:=by
 refine OpM.of fun pins s σ H x y v u Q I rx ry ρ dx dy μ d μ' r1 r2 R e k=>?_;obtain⟨p,e1,e⟩:=zh e;obtain⟨q,e2,e⟩:=zh e;cases e;obtain⟨as,h1⟩:=zaf I R 8 dx p x v e1 r1 rx;obtain⟨bs,h2⟩:=zaf I R 8 dy q y u e2 r2 ry;exact ne_dataH h1 h2 (zfh e1) (zfh e2) hu ⟨.bl _,H,I,rfl,k ρ H _ Ext.refl R .bl⟩
@[simp] def gIs:G2:=fun x y μ=>match x,y with
 |.bl i, .bl j=>some (.bl (i==j),μ)
 |.non, .non=>some (.bl true,μ)
 |.bl _, .non=>some (.bl false,μ)
 |.int _, .non=>some (.bl false,μ)
 |.str _, .non=>some (.bl false,μ)
 |.tup _, .non=>some (.bl false,μ)
 |.loc _, .non=>some (.bl false,μ)
 |_,_=>none
@[simp] def zFf:G2:=fun x y μ=>match x,y with
 |.bl i, .bl j=>some (.bl (i != j),μ)
 |.non, .non=>some (.bl false,μ)
 |.bl _, .non=>some (.bl true,μ)
 |.int _, .non=>some (.bl true,μ)
 |.str _, .non=>some (.bl true,μ)
 |.tup _, .non=>some (.bl true,μ)
 |.loc _, .non=>some (.bl true,μ)
 |_,_=>none
def zVu:OpM X (Yn .Is) gIs:=by
 refine OpM.of fun pins s σ H x y v u Q I rx ry ρ dx dy μ d μ' r1 r2 R e k=>?_;unfold gIs at e
 split at e<;>cases e
 ·rw[r1.bl_inv]at rx;rw[r2.bl_inv]at ry;cases rx;cases ry;exact is_bool ⟨.bl _,H,I,rfl,k ρ H _ Ext.refl R .bl⟩
 ·exact z5k pins s σ H x y v u Q I rx ry ⟨r2.non_inv,by rw[r1.non_inv];exact k ρ H _ Ext.refl R .bl⟩
 ·exact z5k pins s σ H x y v u Q I rx ry ⟨r2.non_inv,by rw[r1.bl_inv];exact k ρ H _ Ext.refl R .bl⟩
 ·exact z5k pins s σ H x y v u Q I rx ry ⟨r2.non_inv,by rw[r1.int_inv];exact k ρ H _ Ext.refl R .bl⟩
 ·exact z5k pins s σ H x y v u Q I rx ry ⟨r2.non_inv,by rw[r1.str_inv];exact k ρ H _ Ext.refl R .bl⟩
 ·exact z5k pins s σ H x y v u Q I rx ry ⟨r2.non_inv,by obtain⟨a,vs,rfl,_⟩:=r1.tup_inv;exact k ρ H _ Ext.refl R .bl⟩
 ·exact z5k pins s σ H x y v u Q I rx ry ⟨r2.non_inv,by obtain⟨a,rfl,_⟩:=r1.loc_inv;exact k ρ H _ Ext.refl R .bl⟩
def zrd:OpM X (Yn .IsNot) zFf:=by
 refine OpM.of fun pins s σ H x y v u Q I rx ry ρ dx dy μ d μ' r1 r2 R e k=>?_;unfold zFf at e
 split at e<;>cases e
 ·rw[r1.bl_inv]at rx;rw[r2.bl_inv]at ry;cases rx;cases ry;exact isnot_bool ⟨.bl _,H,I,rfl,k ρ H _ Ext.refl R .bl⟩
 ·exact zei pins s σ H x y v u Q I rx ry ⟨r2.non_inv,by rw[r1.non_inv];exact k ρ H _ Ext.refl R .bl⟩
 ·exact zei pins s σ H x y v u Q I rx ry ⟨r2.non_inv,by rw[r1.bl_inv];exact k ρ H _ Ext.refl R .bl⟩
 ·exact zei pins s σ H x y v u Q I rx ry ⟨r2.non_inv,by rw[r1.int_inv];exact k ρ H _ Ext.refl R .bl⟩
 ·exact zei pins s σ H x y v u Q I rx ry ⟨r2.non_inv,by rw[r1.str_inv];exact k ρ H _ Ext.refl R .bl⟩
 ·exact zei pins s σ H x y v u Q I rx ry ⟨r2.non_inv,by obtain⟨a,vs,rfl,_⟩:=r1.tup_inv;exact k ρ H _ Ext.refl R .bl⟩
 ·exact zei pins s σ H x y v u Q I rx ry ⟨r2.non_inv,by obtain⟨a,rfl,_⟩:=r1.loc_inv;exact k ρ H _ Ext.refl R .bl⟩
inductive Ty where
 |non | bl | int | str | tup | lst | dict
 deriving DecidableEq
def zJt{scope:Xb}{elt tg iter:Expr}{ifs:List Expr}{spos py:xp}{y:Str}{fi:FI}{g:FG}{ct:FT}(i:Nat)(own:List Str)(fr:List Nat)(hi:MI X tg iter fi)
 (hg:∀cl C s₀ H₀ fp,MGc (cxC X own fr scope cl C s₀ H₀ fp) own.length tg g) (hq:∀cl C s₀ H₀ fp,MF (cxC X own fr scope cl C s₀ H₀ fp) ifs ct) (he:∀cl C s₀ H₀ fp,ME (cxC X own fr scope cl C s₀ H₀ fp) elt φ)
 (hfr:∀i∈fr,∃x,X.N[i]?=some x/\scope.names.lookup x=some .free)
 (hN:X.N.Nodup:=by first | assumption | decide) (hiN:X.N[i]?=some y:=by rfl) (hy:X.env.scope.names.lookup y=some .local:=by rfl)
 (hsw:xS (.ListComp elt [⟨tg,iter,ifs,0⟩] scope pos) (some (.Name y py)) spos.line X.env=pure true:=by rfl)
 (hc:X.calm=true:=by rfl) (hk:scope.kind = .function:=by rfl) (hnm:∀y∈scope.names,scope.names.lookup y.1=some y.2:=by decide)
 (hfree:∀x∈scope.names,x.2 = .free->(X.env.kindOf x.1=some .cell\/X.env.kindOf x.1=some .free):=by decide)
 (hs:∀x,YQ iter X.env x=pure x:=by intro _;rfl):MS X (.Assign [.Name y py] (.ListComp elt [⟨tg,iter,ifs,0⟩] scope pos) spos) (zLc i (fLC own.length fr fi g ct φ)) :=
 zGj (zFt (wi:=tMI X.K fi) (g:=tGc X.K own.length g) (tc:=tMT X.K ct) (te:=tM X.K φ) own fr hN hiN hy hc hi hsw (fun cl C s₀ H₀ fp=>hg cl C s₀ H₀ fp) (fun cl C s₀ H₀ fp=>hq cl C s₀ H₀ fp) (fun cl C s₀ H₀ fp=>he cl C s₀ H₀ fp) hk hnm hfree hfr hs) fun ρ δ μ σ H o E A e k=>by
  obtain⟨⟨x,μ1⟩,e1,e⟩:=zh e;cases e;exact zAz A e1 fun ρ' H' v x' R r=>k ρ' _ H' x' ((A.ext x' R).set r i)
end
@[simp] def zTb:Option Out->Option (D×Mem)
 |some (.ret d μ)=>some (d,μ)
 |some (.next _ μ)=>some (.non,μ)
 |_=>none
@[simp] def zM(N:List Str)(ds:List D):Loc:=ds.map some++yA (N.length-ds.length) none
def zEp{K:yu}{ρ:List Addr}{H:Hp}{μ:Mem}{N:List Str}{ds:List D}{vs:List V}(r:RepVs K ρ H ds vs)(R:RepH K ρ H μ):At K ρ H (L2.start N vs) (zM N ds) μ:=by
 refine⟨fun i d e=>?_,R,by unfold L2.start zM;simp[r.length]⟩;unfold zM at e;unfold L2.start
 by_cases hi:i<ds.length
 ·rw[yq (by simpa using hi),yh]at e
  cases e1:ds[i]? with
  |none=>rw[e1]at e;cases e
  |some d'=>
   rw[e1]at e;cases e;obtain⟨v,e2,q⟩:=r.get e1;refine⟨v,?_,q⟩;rw[yq (by simpa[<-r.length] using hi),yh,e2];rfl
 ·rw[yK (by simpa using hi),YK]at e
  split at e<;>cases e
def fnM{P:yw}{w:yF}{K:yu}{mg:Str->Option Value}{base:yP}{x qual:Str}{st:Stmt}{f:Addr}{fd:yg}{N ps:List Str}{k n:Nat}{F:FF}(G:Fun K x qual st f fd)(S:FnScope N ps (zp st))(hn:ps.length=n)
 (hbody:∀(cdv:Value)(A:yH)(outer:List Env)(s:yb)(H:Hp)(E:XK),Room k (A.deeper (envOfC qual (zp st) s.heap.objs.size f cdv)) ->
  ∃p,MSs (z0s CX0 P w K mg base N qual (zp st) f cdv A outer s H E).nox (zHc st) p/\∀ds μ d μ',ds.length=n->F ds μ=some (d,μ')->zTb (p (zM N ds) μ)=some (d,μ')) :
 FnOk P w K mg base CX0 (k+1) f fd ps (spM K n F):=by
 refine G.ok S (fun vs H Q E h=>by rw[hn];exact h.1) (fun cdv A outer s H vs Q E hr h=>?_);obtain⟨p,hp,hF⟩:=hbody cdv A outer s H E hr;refine⟨_,hp,?_⟩;obtain⟨hl,ρ,ds,μ,d,μ',r,R,e,k⟩:=h;have e':=hF ds μ d μ' (by rw[r.length];exact hl) e
 cases eo:p (zM N ds) μ with
 |none=>rw[eo]at e';cases e'
 |some o=>
  rw[eo]at e';refine⟨ρ,zM N ds,μ,o,zEp r R,eo,?_⟩
  cases o with
  |ret d2 μ2=>cases e';exact fun ρ' v H' x' R' r'=>k ρ' H' v x' R' r'
  |next δ2 μ2=>cases e';exact fun ρ' σ' H' x' A'=>k ρ' H' .non x' A'.hp .non
  |brk _ _=>cases e'
  |cont _ _=>cases e'
  |exc _ _ _=>cases e'
def zUu(sc inner:Xb):Bool:=(inner.kind == .function)&&inner.names.all (fun y=>inner.names.lookup y.1==some y.2) &&
 inner.names.all fun x=>x.2 != .free||sc.names.lookup x.1==some .cell||sc.names.lookup x.1==some .free
def zHn{sc inner:Xb}(h:zUu sc inner=true):inner.kind = .function:=by
 unfold zUu at h;simp only[yE,beq_iff_eq]at h;exact h.1.1
def zcs{sc inner:Xb}(h:zUu sc inner=true):∀y∈inner.names,inner.names.lookup y.1=some y.2:=by
 unfold zUu at h;simp only[yE]at h;intro y hy;exact beq_iff_eq.mp (List.all_eq_true.mp h.1.2 y hy)
def zJn{sc inner:Xb}(h:zUu sc inner=true):∀x∈inner.names,x.2 = .free->(sc.names.lookup x.1=some .cell\/sc.names.lookup x.1=some .free):=by
 unfold zUu at h;simp only[yE]at h;intro y hy e;have:=List.all_eq_true.mp h.2 y hy;simpa[e] using this
def znb{N:List Str}(h:decide N.Nodup=true):N.Nodup:=of_decide_eq_true h
def zod{P:Nat->Prop}:∀i∈([]:List Nat),P i:=fun i h=>nomatch h
def zac{P:Nat->Prop}{i:Nat}{l:List Nat}(h:P i)(r:∀j∈l,P j):∀j∈i::l,P j:=fun j hj=>by
 rcases List.mem_cons.mp hj with rfl | hj
 ·exact h
 ·exact r j hj
section
variable {X:Cx}{a b c e:Expr}{es:List Expr}{φ ψ χ:FE}{pos:xp}
def mlc{scope:Xb}{elt tg iter:Expr}{ifs:List Expr}{i:FI}{g:FG}{ct:FT}(own:List Str)(fr:List Nat)(hi:MI X tg iter i)
 (hg:∀cl C s₀ H₀ fp,MGc (cxC X own fr scope cl C s₀ H₀ fp) own.length tg g) (hq:∀cl C s₀ H₀ fp,MF (cxC X own fr scope cl C s₀ H₀ fp) ifs ct) (he:∀cl C s₀ H₀ fp,ME (cxC X own fr scope cl C s₀ H₀ fp) elt φ)
 (hfr:∀i∈fr,∃x,X.N[i]?=some x/\scope.names.lookup x=some .free) (hok:zUu X.env.scope scope=true:=by rfl) (hc:X.calm=true:=by rfl) (hs:∀x,YQ iter X.env x=pure x:=by intro _;rfl) :
 ME X (.ListComp elt [⟨tg,iter,ifs,0⟩] scope pos) (fLC own.length fr i g ct φ) :=
 zOy own fr hi hg hq he hc (zHn hok) (zcs hok) (zJn hok) hfr hs
def mslc{scope:Xb}{elt tg iter:Expr}{ifs:List Expr}{spos py:xp}{y:Str}{fi:FI}{g:FG}{ct:FT}(i:Nat)(own:List Str)(fr:List Nat)(hi:MI X tg iter fi)
 (hg:∀cl C s₀ H₀ fp,MGc (cxC X own fr scope cl C s₀ H₀ fp) own.length tg g) (hq:∀cl C s₀ H₀ fp,MF (cxC X own fr scope cl C s₀ H₀ fp) ifs ct) (he:∀cl C s₀ H₀ fp,ME (cxC X own fr scope cl C s₀ H₀ fp) elt φ)
 (hfr:∀i∈fr,∃x,X.N[i]?=some x/\scope.names.lookup x=some .free) (hN:X.N.Nodup) (hiN:X.N[i]?=some y:=by rfl) (hy:X.env.scope.names.lookup y=some .local:=by rfl)
 (hsw:xS (.ListComp elt [⟨tg,iter,ifs,0⟩] scope pos) (some (.Name y py)) spos.line X.env=pure true:=by rfl) (hok:zUu X.env.scope scope=true:=by rfl) (hc:X.calm=true:=by rfl) (hs:∀x,YQ iter X.env x=pure x:=by intro _;rfl) :
 MS X (.Assign [.Name y py] (.ListComp elt [⟨tg,iter,ifs,0⟩] scope pos) spos) (zLc i (fLC own.length fr fi g ct φ)) :=
 zJt i own fr hi hg hq he hfr hN hiN hy hsw hc (zHn hok) (zcs hok) (zJn hok) hs
structure FnAt(K:yu)(mg:Str->Option Value)(x:Str)(st:Stmt)(ps:List Str)(f:Addr)(fd:yg):Prop where
 fn:Fun K x x st f fd
 at_:mg x=some (.ref f)
 bd:Binds K fd ps []
def mcall{k j n:Nat}{st:Stmt}{f:Addr}{fd:yg}{ps:List Str}{F:FF}{x:Str}{p:xp}{φ:FA}(B:FnAt X.K X.mg x st ps f fd)(G:FnOk X.prog X.w X.K X.mg X.base CX0 j f fd ps (spM X.K n F))(hr:Room k X.A)
 (ha:MAn X (e::es) φ) (hj:j<=k:=by decide) (hn:(e::es).length=n:=by rfl) (hg:Gl X x:=by rfl) (hdb:(x==("__debug__":Str))=false:=by decide) (he:yf (e::es) X.env=(false,yW e X.env)::yf es X.env:=by exact zZc rfl) (hpl:(yZ pos (yf es X.env)).any (·.1)=false:=by rfl) :
 ME X (.Call (.Name x p) (e::es) [] pos) (zx F φ):=zbr G (hr.mono hj) B.at_ B.fn.kp B.bd ha hn hg hdb he hpl
end
section
variable {X:Cx}{a b c e:Expr}{es:List Expr}{φ ψ χ:FE}{pos:xp}
def cat0{prog:yw}{w:yF}{A:yH}{E:Value->yb->Prop}{s:yb}{t b:Addr}{vs ws:List Value}{Q:Value->yb->Prop}(ht:IsTup s.heap t vs.toArray)(hb:IsTup s.heap b ws.toArray)(hv:vs=[])(h:Q (.ref b) s) :
 yn (yr prog w) A (xq .Add (.ref t) (.ref b)) Q E s:=by
 obtain⟨⟨cls,dd,data,sl⟩,ho,hc,n,hd⟩:=id ht;obtain⟨⟨cls2,dd2,data2,sl2⟩,ho2,hc2,n2,hd2⟩:=id hb;simp only at hc hd hc2 hd2;subst hc hd hc2 hd2;refine concat_meets ⟨_,ho,rfl⟩ ⟨_,ho2,rfl⟩ noFill_tuple_add seq_tuple_add PySem.F.slot_tuple_add PySem.F.entry_tuple_add (PySem.F.args_tuple_add_2 _ _) (tuple_addW0 t b vs.toArray ws.toArray n n2 dd dd2 sl sl2 (by rw[hv];rfl)) ⟨ho,ho2,h⟩
def zFc:OpM X (xq .Add) zxl:=by
 refine OpM.of fun pins s σ H x y v u Q I rx ry ρ dx dy μ d μ' r1 r2 R e k=>?_;unfold zxl at e
 split at e
 ·cases e;rw[r1.int_inv]at rx;rw[r2.int_inv]at ry;obtain⟨t,rfl⟩:=rx;obtain⟨t',rfl⟩:=ry;exact add_int ⟨.int _,H,I.tok _,⟨_,rfl⟩,k ρ H _ Ext.refl R .int⟩
 ·rename_i as bs
  obtain⟨h1,e⟩:=zQ e;have h1:=of_decide_eq_true h1;cases e;obtain⟨a1,vs,rfl,e1,q1⟩:=r1.tup_inv;obtain⟨a2,ws,rfl,e2,q2⟩:=r2.tup_inv;have hm:=million;have hl1:=q1.length;have hl2:=q2.length
  by_cases hv:vs=[]
  ·cases rx;cases ry;obtain⟨its,rv,p1,_⟩:=I.tuple (SqT.of (K:=X.K) e1);obtain⟨its2,rv2,p2,_⟩:=I.tuple (SqT.of (K:=X.K) e2);refine cat0 p1 p2 (rv.nil_iff.mpr hv) ⟨.ref a2,H,I,rfl,k ρ H _ Ext.refl R ?_⟩;have ha:as=[]:=by rw[hv]at hl1;exact List.length_eq_zero_iff.mp hl1
   rw[ha,List.nil_append];exact r2
  ·refine zsw pins s σ H _ _ v u Q I rx ry ⟨a1,a2,vs,ws,rfl,rfl,SqT.of e1,SqT.of e2,hv,by omega,fun hw=>?_,fun _ p hp=>?_⟩
   ·have hb:bs=[]:=by rw[hw]at hl2;exact List.length_eq_zero_iff.mp hl2
    rw[hb,append_nil]at k;exact k ρ H _ Ext.refl R r1
   ·exact k ρ _ _ (Ext.new hp) (R.newTup hp) (.tup zu ((q1.append q2).ext (Ext.new hp)))
 ·split at e
  ·rename_i hm1 hm2
   obtain⟨h1,e⟩:=zQ e;have h1:=of_decide_eq_true h1;cases e;obtain⟨a1,rfl,e1⟩:=r1.loc_inv;obtain⟨a2,rfl,e2⟩:=r2.loc_inv;obtain⟨vs,e3,q1⟩:=R.at_ _ _ _ e1 hm1;obtain⟨ws,e4,q2⟩:=R.at_ _ _ _ e2 hm2;have hm:=million;have hl1:=q1.length;have hl2:=q2.length;exact zDx pins s σ H _ _ v u Q I rx ry ⟨a1,a2,vs,ws,rfl,rfl,e3,e4,by omega,fun p hp=>k _ _ _ (Ext.push hp) (R.push hp ⟨_,zu,(q1.append q2).ext (Ext.push hp)⟩) (.loc (zEb R))⟩
  ·cases e
 ·cases e
def zRk:fillsNumberSlot (.type "tuple") "mul" = pure false :=
 PyProof.Rows.fillsNumberSlot_seq (id:="tuple.__mul__") (r:=some (.builtin "tuple.__rmul__")) PySem.F.slot_tuple_mul.lookup (by decide +kernel) PySem.F.slot_tuple_rmul.lookup (by decide +kernel)
def z9p:seqRepeat? (.type "tuple")=pure (some (.builtin "tuple.__mul__")):=by
 unfold seqRepeat?;rw[PyProof.Rows.seqSlot_of (T:="tuple") (name:="__mul__") (id:="tuple.__mul__") PySem.F.slot_tuple_mul.lookup (by decide +kernel),PyProof.Rows.seqSlot_of (T:="tuple") (name:="__rmul__") (id:="tuple.__rmul__") PySem.F.slot_tuple_rmul.lookup (by decide +kernel)];rfl
def zbi(i:Int)(t:Tok)(l:Addr)(items:Array Value)(n:Nat)(dd:Option Addr)(sl:Array (Option Value)) :
 Meets (xy.«int.__rmul__» ⟨[.int i t, .ref l],[]⟩) (fun _ R s=>s.heap.get? l=some {cls := .type "tuple",dict:=dd,data := .seq items n,slots:=sl }/\R (.ok (.ret Value.notImplemented)) s) :=
 .of_wp fun prog w A R s h=>by
  obtain⟨hp,g,d,tk,os⟩:=s;obtain⟨hl,h⟩:=h
  wp_walk
  exact⟨_,rfl,h⟩
def zFm(l:Addr)(items:Array Value)(n:Nat)(dd:Option Addr)(sl:Array (Option Value))(i:Int)(t:Tok)(h2:2<=i)(h3:i<=1000)(h4:items.isEmpty=false)(h5:items.size<=1000)
 (hsz:((yA i.toNat items).foldl (fun x1 x2=>x1++x2) #[]).size<=yB) :
 Meets (xy.«tuple.__mul__» ⟨[.ref l, .int i t],[]⟩) (fun _ R s=>s.heap.get? l=some {cls := .type "tuple",dict:=dd,data := .seq items n,slots:=sl } /\
  R (.ok (.ret (yD s.heap.objs.size))) {s with heap:=s.heap.push {cls:=YJ "tuple",data:=Data.seq ((yA i.toNat items).foldl (fun x1 x2=>x1++x2) #[])},toks:=s.toks }) :=
 .of_wp fun prog w A R s h=>by
  obtain⟨hp,g,d,tk,os⟩:=s;obtain⟨hl,h⟩:=h;have f1:=AutoSeq1.idx_int
  have c1:¬((decide (i < -(2^63))||decide (i≥2^63))=true):=by
   rw[decide_eq_false (by omega),decide_eq_false (by omega)];exact yx
  have c2:¬((items.isEmpty||i==1)=true):=by
   rw[h4,show(i==1)=false by simp;omega];exact yx
  have c3:¬((decide (i<=0)||items.isEmpty)=true):=by
   rw[h4,decide_eq_false (by omega)];exact yx
  have c4:¬((items.size:Int)*i>(2^63-1) / 8):=by
   have h6:(items.size:Int)*i<=1000*1000:=Int.mul_le_mul (by omega) h3 (by omega) (by omega);omega
  have c5:¬(Builtin.Tuple.tupleTooMany ((items.size:Int)*i)=true):=by
   have h6:(items.size:Int)*i<=1000*1000:=Int.mul_le_mul (by omega) h3 (by omega) (by omega);have hz:(yB:Int)=16777216:=by rw[Yp];rfl
   unfold Builtin.Tuple.tupleTooMany;rw[decide_eq_false (by omega)];exact yx
  wp_walk using wpAny_loadPart' hl
  rw[if_neg c1]
  wp_walk using wpAny_loadPart' hl
  rw[if_neg c2];dsimp only;rw[if_neg c3,if_neg c4,if_neg c5];refine ya (m:=xc _) (yS (ye ⟨_,rfl,h⟩) hsz)
def zAl(its:List Value):∀(n:Nat)(acc:List Value),List.foldl (fun x1 x2=>x1++x2) acc.toArray (yA n its.toArray)=(acc++(yA n its).flatten).toArray
 |0,acc=>by simp
 |n+1,acc=>by
  rw[replicate_succ,List.foldl_cons,List.append_toArray,zAl its n,replicate_succ,flatten_cons,append_assoc]
def zbo{K:yu}{ρ:List Addr}{H:Hp}{ds:List D}{vs:List V}(r:RepVs K ρ H ds vs):∀n:Nat,RepVs K ρ H (yA n ds).flatten (yA n vs).flatten
 |0 => .nil
 |n+1=>by
  rw[replicate_succ,replicate_succ,flatten_cons,flatten_cons];exact r.append (zbo r n)
def zvm{vs:List V}{us:List Value}(r:Vals vs us):∀n:Nat,Vals (yA n vs).flatten (yA n us).flatten
 |0 => .nil
 |n+1=>by
  rw[replicate_succ,replicate_succ,flatten_cons,flatten_cons];exact r.append (zvm r n)
def zdd:OpM X (xq .Mult) zGk:=by
 refine OpM.of fun pins s σ H x y v u Q I rx ry ρ dx dy μ d μ' r1 r2 R e k=>?_;unfold zGk at e
 split at e
 ·obtain⟨h1,e⟩:=zQ e;cases e;rw[r1.int_inv]at rx;rw[r2.int_inv]at ry;obtain⟨t,rfl⟩:=rx;obtain⟨t',rfl⟩:=ry;exact mul_int ⟨.int _,H,I.tok _,⟨_,rfl⟩,k ρ H _ Ext.refl R .int⟩ (z5t h1)
 ·rename_i ds i
  obtain⟨h1,e⟩:=zQ e;have h1:=of_decide_eq_true h1;obtain⟨h2,h3,h4,h5⟩:=h1;cases e;obtain⟨a1,vs,rfl,e1,q1⟩:=r1.tup_inv;rw[r2.int_inv]at ry;cases rx;obtain⟨t,rfl⟩:=ry;obtain⟨its,rv,⟨⟨cls,dd,data,sl⟩,ho,hc,n,hd⟩,hz⟩:=I.tuple (SqT.of (K:=X.K) e1);simp only at hc hd;subst hc hd;have hl:its.length=ds.length:=by rw[q1.length,rv.length]
  have hlen:((yA i.toNat vs).flatten).length<=yB:=by
   rw[zAs];have hm:=million;have h6:i.toNat*vs.length<=1000*1000:=Nat.mul_le_mul (by omega) (by rw[<-q1.length];exact h5);omega
  have e2:=zAl its i.toNat [];rw[List.nil_append]at e2
  have hsz:((yA i.toNat its.toArray).foldl (fun x1 x2=>x1++x2) #[]).size<=yB:=by
   rw[show(#[]:Array Value)=([]:List Value).toArray from rfl,e2,size_toArray,<-(zvm rv i.toNat).length];exact hlen
  refine wpAny_binaryOp_repeat_ref (T:="tuple") (U:="int") (by decide) ⟨_,ho,rfl⟩ (fun s'=>typeIs_int s' i t) zRk PySem.F.fills_int_mul PySem.F.slot_int_rmul z9p PySem.F.slot_int_index.lookup
   (Xh PySem.F.slot_int_rmul (typeIs_int s i t) PySem.F.entry_int_rmul (PySem.F.args_int_rmul_2 _ _) (zbi i t a1 its.toArray n dd sl)
    ⟨ho,rfl,⟨_,ho,rfl⟩,Xh PySem.F.slot_tuple_mul ⟨_,ho,rfl⟩ PySem.F.entry_tuple_mul (PySem.F.args_tuple_mul_2 _ _) (zFm a1 its.toArray n dd sl i t h2 h3 (by rw[List.isEmpty_toArray,List.isEmpty_eq_false_iff_exists_mem];exact⟨_,getElem_mem (by omega:0<its.length)⟩) (by rw[size_toArray,hl];exact h5) hsz) ⟨ho,?_⟩⟩)
  rw[show(#[]:Array Value)=([]:List Value).toArray from rfl,e2];have hf:=I.hok.fresh (yi s.heap.objs.size);refine⟨.ref s.heap.objs.size,_,I.laid (t':=s.toks) (o := .tup (yA i.toNat vs).flatten) (fun b ob q=>yd _ q) (yi _) ?_,rfl,k ρ _ _ (Ext.new hf) (R.newTup hf) (.tup zu ((zbo q1 i.toNat).ext (Ext.new hf)))⟩;exact⟨hlen,_,zvm rv i.toNat,IsTup.new _ _⟩
 ·rename_i l n
  split at e
  ·rename_i ds hm
   obtain⟨h1,e⟩:=zQ e;have h1:=of_decide_eq_true h1;obtain⟨h2,h3,h4⟩:=h1;cases e;obtain⟨a1,rfl,ea⟩:=r1.loc_inv;obtain⟨vs,e3,q3⟩:=R.at_ _ _ _ ea hm;refine zFx pins s σ H _ _ v u Q I rx ry ⟨a1,n,vs,rfl,r2.int_inv,e3,by omega,by omega,?_,fun p hp=>k _ _ _ (Ext.push hp) (R.push hp ⟨_,zu,(zbo q3 n.toNat).ext (Ext.push hp)⟩) (.loc (zEb R))⟩;have hmi:=million;have h6:vs.length*n.toNat<=1000*1000:=Nat.mul_le_mul (by rw[<-q3.length];exact h4) (by omega);omega
  ·cases e
 ·cases e
abbrev FO:=Loc->Mem->Option (Option Int×Mem)
def tMO(K:yu)(φ:FO):TO:=fun σ H Q=>∃ρ δ μ o μ',At K ρ H σ δ μ/\φ δ μ=some (o,μ')/\∀ρ' H',Ext ρ H ρ' H'->RepH K ρ' H' μ'->Q o H'
def MO(X:Cx)(e:Option Expr)(φ:FO):Prop:=PO X e (tMO X.K φ)
@[simp] def pNo:FO:=fun _ μ=>some (none,μ)
@[simp] def zsz(φ:FE):FO:=fun δ μ=>(φ δ μ).bind fun p=>match p.1 with
 |.int i=>some (some i,p.2)
 |_=>none
def cutD(xs:List D)(lo hi:Option Int):List D:=(xs.drop (HT.sIx xs.length 0 lo)).take (HT.sIx xs.length xs.length hi-HT.sIx xs.length 0 lo)
@[simp] def fSl(φ:FE)(lo hi:FO):FE:=fun δ μ=>(φ δ μ).bind fun p=>(lo δ p.2).bind fun l=>(hi δ l.2).bind fun h=>match p.1 with
 |.tup ds=>some (.tup (cutD ds l.1 h.1),h.2)
 |.loc n=>match h.2[n]? with
  |some (.lst ds)=>some (.loc h.2.length,h.2++[.lst (cutD ds l.1 h.1)])
  |_=>none
 |_=>none
end
def zjr{prog:yw}{w:yF}{A:yH}{E:Value->yb->Prop}{s:yb}{t sl:Addr}{items:Array Value}{vl vu:Value}{lo hi:Option Int}{Q:Value->yb->Prop}(ht:IsTup s.heap t items)(hs:s.heap.IsSliceOf sl vl vu .none)(pl:IsPart vl lo)(pu:IsPart vu hi)
 (hw:HT.sIx items.size 0 lo=0/\HT.sIx items.size items.size hi=items.size) (h:Q (.ref t) s):yn (yr prog w) A (getItem (.ref t) (.ref sl)) Q E s:=by
 obtain⟨os,hos,hcs,hds⟩:=id hs;have hTs:s.TypeIs (.ref sl) "slice":=⟨os,hos,hcs⟩
 unfold getItem
 try with_reducible refine Yg ?_
 first | refine ya (ye ?_) | skip
 refine ya (wpAny_sequenceKey ht.typeIs (by decide) ?_)
 refine ya (Yc (name:=YS "__getitem__") ht.typeIs xa
  (yU xa ht.typeIs entry_tuple_getitem ?_ (args_tuple_getitem _ _)))
 show yn _ _ (Builtin.Tuple.tupleItemsOf (.ref t) >>= _) _ _ s;refine ya (tupleItemsOf_ ht ?_);refine ya (Xl hTs ?_);rw[if_pos (by decide)];refine ya (HT.sliceApplied_gen hs pl pu ?_)
 have hyes:(((HT.sIx items.size 0 lo:Nat):Int)==0&&(1:Int)==1&&(HT.sIx items.size items.size hi-HT.sIx items.size 0 lo)==items.size)=true:=by
  rw[hw.1,hw.2];simp
 show yn _ _ (if(((HT.sIx items.size 0 lo:Nat):Int)==0&&(1:Int)==1&&(HT.sIx items.size items.size hi-HT.sIx items.size 0 lo)==items.size)=true then _ else _) _ _ s;rw[if_pos hyes];refine ya (m:=Builtin.Tuple.tupleIsExact _) ?_;unfold Builtin.Tuple.tupleIsExact;refine ya (Xl ht.typeIs (ye ?_));rw[if_pos (by decide)];exact ya (wpAny_rule (ye ⟨_,rfl,ye h⟩))
section
variable {X:Cx}{a b c e:Expr}{es:List Expr}{φ ψ χ:FE}{pos p2:xp}{lo hi:Option Expr}
def rSl(K:yu):V->Option Int->Option Int->Hp->VK->Prop:=fun x lo hi H Q=>∃a xs,x = .ref a/\H a=some (.tup xs) /\
 ((HT.sIx xs.length 0 lo=0/\HT.sIx xs.length xs.length hi=xs.length)->Q (.ref a) H)/\∀p,H p=none->Q (.ref p) (upd H p (.tup (zLs xs lo hi)))
def zax:SlR X (rSl X.K):=by
 intro pins s σ H x v vl vu lo hi sl Q I rx hs pl pu h;obtain⟨a,xs,rfl,hx,h1,h2⟩:=h
 by_cases hw:HT.sIx xs.length 0 lo=0/\HT.sIx xs.length xs.length hi=xs.length
 ·cases rx;obtain⟨its,r,ht,hz⟩:=I.tuple (SqT.of (K:=X.K) hx);have hlen:its.toArray.size=xs.length:=by rw[size_toArray];exact r.length.symm
  exact⟨"tuple",_,PyProof.Rows.slot_tuple_getitem.lookup,ht.typeIs,zjr ht hs pl pu (by rw[hlen];exact hw) ⟨.ref a,H,I,rfl,h1 hw⟩⟩
 ·exact z6w pins s σ H _ v vl vu lo hi sl Q I rx hs pl pu ⟨a,xs,rfl,SqT.of hx,hw,h2⟩
def zbz:MO X none pNo:=by intro pins s σ H Q I hh;obtain⟨ρ,δ,μ,o,μ',A,e,k⟩:=hh;exact zww pins s σ H Q I (by cases e;exact k ρ H Ext.refl A.hp)
def z8x(h:ME X e φ):MO X (some e) (zsz φ):=by intro pins s σ H Q I hh;obtain⟨ρ,δ,μ,o,μ',A,e,k⟩:=hh;exact zpv h pins s σ H Q I (by
 obtain⟨⟨x,μ1⟩,e1,e⟩:=zh e;refine⟨ρ,δ,μ,x,μ1,A,e1,fun ρ1 H1 v x1 R1 r1=>?_⟩;dsimp only at e
 split at e
 ·cases e;exact⟨_,r1.int_inv,k ρ1 H1 x1 R1⟩
 ·cases e)
def zQo{K:yu}{ρ:List Addr}{H:Hp}{ds:List D}{vs:List V}{lo hi:Option Int}(r:RepVs K ρ H ds vs):RepVs K ρ H (cutD ds lo hi) (zLs vs lo hi):=by
 unfold cutD zLs;rw[r.length];exact(r.drop _).take _
def zVy{l h:FO}(he:ME X e φ)(hl:MO X lo l)(hu:MO X hi h):ME X (.Subscript e (.Slice lo hi none p2) pos) (fSl φ l h) :=
 zfe (zTt (SlR.or zax zLw) he hl hu) fun ρ δ μ σ H d μ' Q A e k=>by
  obtain⟨⟨x,μ1⟩,e1,e⟩:=zh e;obtain⟨⟨o1,μ2⟩,e2,e⟩:=zh e;obtain⟨⟨o2,μ3⟩,e3,e⟩:=zh e;refine⟨ρ,δ,μ,x,μ1,A,e1,fun ρ1 H1 v x1 R1 r1=>?_⟩;refine⟨ρ1,δ,μ1,o1,μ2,A.ext x1 R1,e2,fun ρ2 H2 x2 R2=>?_⟩;refine⟨ρ2,δ,μ2,o2,μ3,A.ext (x1.trans x2) R2,e3,fun ρ3 H3 x3 R3=>?_⟩;dsimp only at e
  split at e
  ·cases e;obtain⟨a,vs,rfl,ea,q⟩:=(r1.ext (x2.trans x3)).tup_inv;have xx:=x1.trans (x2.trans x3);refine .inl ⟨a,vs,rfl,ea,fun hw=>k ρ3 H3 _ xx R3 (.tup ea ?_),fun p hp=>k ρ3 _ _ (xx.trans (Ext.new hp)) (R3.newTup hp) (.tup zu ((zQo q).ext (Ext.new hp)))⟩
   have e4:zLs vs o1 o2=vs:=by
    unfold zLs;rw[hw.1,hw.2,Nat.sub_zero,List.drop_zero,take_length]
   have:=zQo (lo:=o1) (hi:=o2) q;rw[e4]at this;exact this
  ·split at e
   ·rename_i hm
    cases e;obtain⟨a,rfl,ea⟩:=(r1.ext (x2.trans x3)).loc_inv;obtain⟨vs,ev,q⟩:=R3.at_ _ _ _ ea hm;have xx:=x1.trans (x2.trans x3);exact .inr ⟨a,vs,rfl,SqL.of ev,fun p hp=>k _ _ _ (xx.trans (Ext.push hp)) (R3.push hp ⟨_,zu,(zQo q).ext (Ext.push hp)⟩) (.loc (zEb R3))⟩
   ·cases e
  ·cases e
@[simp] def zPz(φ:FE):FE:=fun δ μ=>(φ δ μ).bind fun p=>match p.1 with
 |.int i=>some (.int (-i),p.2)
 |_=>none
def big{pins:List (Addr×YN)}{σ:L2.St}{H:Hp}{s:yb}(I:Inv X pins σ H s):sysModules<s.heap.objs.size:=by
 have h:ym<s.heap.objs.size:=(I.mod.glob.keeps I.bk).lt;exact Nat.lt_trans (by decide) h
@[simp] def zLy:FE:=fun _ μ=>some (.loc μ.length,μ++[.dct []])
def z7u:ME X (.Dict [] [] pos) zLy:=by
 intro pins s σ H Q I hh;obtain⟨ρ,δ,μ,d,μ',A,e,k⟩:=hh;cases e;have hf:=I.hok.fresh (yi s.heap.objs.size);refine wpAny_Dict_empty ⟨.ref s.heap.objs.size,_,I.laid (a:=s.heap.objs.size) (o := .dK []) (t':=s.toks) (fun _ _ q=>yd _ q) (yi _) ?_,rfl,k _ _ _ (Ext.push hf) (A.hp.push hf ⟨[],zu,rfl, .nil⟩) (.loc (zEb A.hp))⟩;exact⟨Ys _,beq_eq_false_iff_ne.mpr (yN (yz (big I))),[], .nil,Heap.DictOf.new _⟩
def z2c:D->Bool
 |.non | .bl _ | .int _ | .str _=>true
 |_=>false
def eqF:D->D->Bool
 |.non, .non=>true
 |.bl a, .bl b=>a==b
 |.bl a, .int b=>(if a then 1 else 0)==b
 |.int a, .bl b=>a==(if b then 1 else 0)
 |.int a, .int b=>a==b
 |.str a, .str b=>a==b
 |_,_=>false
def gIn:G2:=fun x y μ=>(items μ y).bind fun ds=>bif z2c x&&ds.all z2c then some (.bl (ds.any fun d=>eqF d x),μ) else none
def z0f:G2:=fun x y μ=>(items μ y).bind fun ds=>bif z2c x&&ds.all z2c then some (.bl (!ds.any fun d=>eqF d x),μ) else none
def zjj{K:yu}{ρ:List Addr}{H:Hp}{d:D}{v:V}(r:RepV K ρ H d v)(f:z2c d=true):ztk v=true:=by
 cases d with
 |non=>rw[r.non_inv];rfl
 |bl b=>rw[r.bl_inv];rfl
 |int b=>rw[r.int_inv];rfl
 |str b=>rw[r.str_inv];rfl
 |_=>cases f
def zps{K:yu}{ρ:List Addr}{H:Hp}{d d':D}{v v':V}(r:RepV K ρ H d v)(r':RepV K ρ H d' v')(f:z2c d=true)(f':z2c d'=true):eqV v v'=eqF d d':=by
 cases d with
 |non=>rw[r.non_inv];cases d' with
  |non=>rw[r'.non_inv];rfl
  |bl b=>rw[r'.bl_inv];rfl
  |int b=>rw[r'.int_inv];rfl
  |str b=>rw[r'.str_inv];rfl
  |_=>cases f'
 |bl b=>rw[r.bl_inv];cases d' with
  |non=>rw[r'.non_inv];rfl
  |bl b=>rw[r'.bl_inv];rfl
  |int b=>rw[r'.int_inv];rfl
  |str b=>rw[r'.str_inv];rfl
  |_=>cases f'
 |int b=>rw[r.int_inv];cases d' with
  |non=>rw[r'.non_inv];rfl
  |bl b=>rw[r'.bl_inv];rfl
  |int b=>rw[r'.int_inv];rfl
  |str b=>rw[r'.str_inv];rfl
  |_=>cases f'
 |str b=>rw[r.str_inv];cases d' with
  |non=>rw[r'.non_inv];rfl
  |bl b=>rw[r'.bl_inv];rfl
  |int b=>rw[r'.int_inv];rfl
  |str b=>rw[r'.str_inv];rfl
  |_=>cases f'
 |_=>cases f
def zQp{K:yu}{ρ:List Addr}{H:Hp}{x:D}{v:V}(rx:RepV K ρ H x v)(fx:z2c x=true):∀{ds:List D} {vs:List V},RepVs K ρ H ds vs->ds.all z2c=true->vs.all ztk=true/\inV v vs=ds.any fun d=>eqF d x
 |[],_,r,_=>by rw[r.nil_inv];exact⟨rfl,rfl⟩
 |d::ds,_,r,f=>by
  obtain⟨w,ws,rfl,r1,r2⟩:=r.cons_inv;rw[all_cons,yE]at f;obtain⟨h1,h2⟩:=zQp rx fx r2 f.2;refine⟨by rw[all_cons,zjj r1 f.1,h1];rfl,?_⟩;unfold inV at h2 ⊢;rw[any_cons,any_cons,h2,zps r1 rx f.1 fx]
def zCy:OpM X (Yn .In) gIn:=by
 refine OpM.of fun pins s σ H x y v u Q I rx ry ρ dx dy μ d μ' r1 r2 R e k=>?_;obtain⟨ds,e1,e⟩:=zh e;obtain⟨h1,e⟩:=zQ e;rw[yE]at h1;cases e;obtain⟨p,vs,rfl,hq,rr⟩:=zQf R r2 e1;obtain⟨h3,h4⟩:=zQp r1 h1.1 rr h1.2;exact zws pins s σ H x _ v u Q I rx ry ⟨p,vs,rfl,hq,zjj r1 h1.1,h3,by rw[if_neg yx,h4];exact k ρ H _ Ext.refl R .bl⟩
def zYe:OpM X (Yn .NotIn) z0f:=by
 refine OpM.of fun pins s σ H x y v u Q I rx ry ρ dx dy μ d μ' r1 r2 R e k=>?_;obtain⟨ds,e1,e⟩:=zh e;obtain⟨h1,e⟩:=zQ e;rw[yE]at h1;cases e;obtain⟨p,vs,rfl,hq,rr⟩:=zQf R r2 e1;obtain⟨h3,h4⟩:=zQp r1 h1.1 rr h1.2;exact zrn pins s σ H x _ v u Q I rx ry ⟨p,vs,rfl,hq,zjj r1 h1.1,h3,by rw[if_pos rfl,h4];exact k ρ H _ Ext.refl R .bl⟩
abbrev GM:=D->List D->Mem->Option (D×Mem)
@[simp] def zRf(g:GM)(φ:FE)(ψ:FA):FE:=fun δ μ=>(φ δ μ).bind fun p=>match p.1 with
 |.loc n=>match p.2[n]? with
  |some (.lst _)=>(ψ δ p.2).bind fun q=>g (.loc n) q.1 q.2
  |_=>none
 |_=>none
@[simp] def zNf:GM:=fun x ds μ=>match x,ds with
 |.loc n,[d]=>match μ[n]? with
  |some (.lst xs)=>bif decide (xs.length<=1000000) then some (.non,μ.set n (.lst (xs++[d]))) else none
  |_=>none
 |_,_=>none
def MtG(X:Cx)(id:String)(g:GM):Prop:=MtR X id fun x xs H Q=>∃ρ dx ds μ d μ',RepV X.K ρ H dx x/\RepVs X.K ρ H ds xs/\RepH X.K ρ H μ/\g dx ds μ=some (d,μ')/\∀ρ' H' v,Ext ρ H ρ' H'->RepH X.K ρ' H' μ'->RepV X.K ρ' H' d v->Q v H'
def MtG.of{X:Cx}{id:String}{g:GM}(h:∀(pins:List (Addr×YN)) (s:yb) (σ:L2.St) (H:Hp) (x:V) (xs:List V) (v:Value) (us:List Value) (Q:VK),Inv X pins σ H s->RelV x v->Vals xs us->∀(ρ:List Addr)(dx:D)(ds:List D)(μ:Mem)(d:D)(μ':Mem),RepV X.K ρ H dx x->RepVs X.K ρ H ds xs->RepH X.K ρ H μ->g dx ds μ=some (d,μ')->(∀ρ' H' v,Ext ρ H ρ' H'->RepH X.K ρ' H' μ'->RepV X.K ρ' H' d v->Q v H')->yn (yr X.prog X.w) X.A (call (.builtin id) (v::us)) (EP X pins σ Q) X.xe s):MtG X id g:=by
 intro pins s σ H x xs v us Q I rx rs hh;obtain⟨ρ,dx,ds,μ,d,μ',r1,r2,R,e,k⟩:=hh;exact h pins s σ H x xs v us Q I rx rs ρ dx ds μ d μ' r1 r2 R e k
def zwk{o:Expr}{ψ:FA}{name:Str}{id:String}{g:GM}{apos:xp}(slot:Slot "list" name id)(hty:typeOf (.builtin id)=pure (.type "method_descriptor"))(hm:MtG X id g)(ho:ME X o φ)(ha:MAn X (e::es) ψ)
 (hbase:Yu o name X.env (yW o X.env)=yW o X.env:=by rfl)
 (hfew:((yZ pos (yf (e::es) X.env)).all (fun x=>!x.1)&&(xt pos (YA [] X.env)).all (fun x=>x.1.isSome)
  && decide ((e::es).length+([]:List xj).length+(if([]:List xj).isEmpty then 0 else 1)<30))=true:=by rfl)
 (hline:(apos.endLine==pos.line)=true:=by rfl) (hs:yf (e::es) X.env=(false,yW e X.env)::yf es X.env:=by rfl) (hplain:(yZ pos (yf es X.env)).any (·.1)=false:=by rfl) :
 ME X (.Call (.Attribute o name apos) (e::es) [] pos) (zRf g φ ψ) :=
 zfe (z1w PySem.F.plainAttrs_list slot hty hm ho ha.ma hbase hfew hline hs hplain) fun ρ δ μ σ H d μ' Q A e k=>by
  obtain⟨⟨x,μ1⟩,e1,e⟩:=zh e;refine⟨ρ,δ,μ,x,μ1,A,e1,fun ρ1 H1 v x1 R1 r1=>?_⟩;dsimp only at e
  split at e
  ·split at e
   ·rename_i hm'
    obtain⟨⟨ds,μ2⟩,e2,e⟩:=zh e;obtain⟨a,rfl,ea⟩:=r1.loc_inv;obtain⟨vs,e3,q3⟩:=R1.at_ _ _ _ ea hm';refine⟨.inl ⟨rfl,vs,SqL.of e3⟩,ρ1,δ,μ1,ds,μ2,A.ext x1 R1,e2,fun ρ2 H2 vs2 x2 R2 r2=>?_⟩;exact⟨ρ2,_,ds,μ2,d,μ',r1.ext x2,r2,R2,e,fun ρ3 H3 v3 x3 R3 r3=>k ρ3 H3 v3 (x1.trans (x2.trans x3)) R3 r3⟩
   ·cases e
  ·cases e
def zOq:MtG X "list.append" zNf:=by
 refine MtG.of fun pins s σ H x xs v us Q I rx rs ρ dx ds μ d μ' r1 r2 R e k=>?_;unfold zNf at e
 split at e
 ·split at e
  ·rename_i hm
   obtain⟨h1,e⟩:=zQ e;have h1:=of_decide_eq_true h1;cases e;obtain⟨a,rfl,ea⟩:=r1.loc_inv;obtain⟨vs,e3,q3⟩:=R.at_ _ _ _ ea hm;obtain⟨w,r,rfl,q1,q2⟩:=r2.cons_inv;rw[q2.nil_inv]at rs;have hl:=q3.length;have hmi:=million;have hmu:Mut (H a):=by rw[e3];trivial
   refine zet pins s σ H _ _ v us Q I rx rs ⟨a,vs,w,rfl,rfl,e3,by omega,?_⟩;exact k ρ _ _ (Ext.wr hmu) (R.wr hmu ea ⟨_,zu,RepVs.ext (Ext.wr hmu) (q3.append (.cons q1 .nil))⟩) .non
  ·cases e
 ·cases e
def zGh{o:Expr}{ψ:FA}{apos:xp}(ho:ME X o φ)(ha:MAn X (e::es) ψ)
 (hbase:Yu o "append" X.env (yW o X.env)=yW o X.env:=by rfl)
 (hfew:((yZ pos (yf (e::es) X.env)).all (fun x=>!x.1)&&(xt pos (YA [] X.env)).all (fun x=>x.1.isSome)
  && decide ((e::es).length+([]:List xj).length+(if([]:List xj).isEmpty then 0 else 1)<30))=true:=by rfl)
 (hline:(apos.endLine==pos.line)=true:=by rfl) (hs:yf (e::es) X.env=(false,yW e X.env)::yf es X.env:=by rfl) (hplain:(yZ pos (yf es X.env)).any (·.1)=false:=by rfl) :
 ME X (.Call (.Attribute o "append" apos) (e::es) [] pos) (zRf zNf φ ψ):=zwk PySem.F.slot_list_append PySem.F.type_list_append zOq ho ha hbase hfew hline hs hplain
end
end M
namespace M
open PySem
def RS(xs:Array Nat):Prop:=xs.toList.Pairwise (· < ·)
def zgm(xs:Array Nat)(j:Nat)(h:RS xs):∀(fuel lo hi:Nat),lo<=hi->hi<=xs.size->hi-lo<=fuel->(∀i (hi':i<xs.size),i<lo->xs[i]<j)->(∀i (hi':i<xs.size),hi<=i->j<=xs[i]) ->
 Xf xs j fuel lo hi<=xs.size/\(∀i (hi':i<xs.size),i<Xf xs j fuel lo hi->xs[i]<j)/\∀i (hi':i<xs.size),Xf xs j fuel lo hi<=i->j<=xs[i]
 |0,lo,hi,h1,h2,h3,h4,h5=>by
  have:lo=hi:=by omega
  subst this;unfold Xf;exact⟨h2,h4,h5⟩
 |fuel+1,lo,hi,h1,h2,h3,h4,h5=>by
  have hp:∀i k (hi:i<xs.size) (hk:k<xs.size),i<k->xs[i]<xs[k]:=fun i k hi hk hik=>by
   have:=List.pairwise_iff_getElem.mp h i k (by simpa using hi) (by simpa using hk) hik;simpa using this
  unfold Xf
  by_cases hlt:lo<hi
  ·rw[if_pos hlt];dsimp only;have hm:(lo+hi) / 2<xs.size:=by omega
   have hg:xs.getD ((lo+hi) / 2) j=xs[(lo+hi) / 2]:=by simp[Array.getD,hm]
   rw[hg]
   by_cases hc:xs[(lo+hi) / 2]<j
   ·rw[if_pos hc];refine zgm xs j h fuel _ hi (by omega) h2 (by omega) (fun i hi' hil=>?_) h5
    by_cases e:i=(lo+hi) / 2
    ·subst e;exact hc
    ·exact Nat.lt_trans (hp i _ hi' hm (by omega)) hc
   ·rw[if_neg hc];refine zgm xs j h fuel lo _ (by omega) (by omega) (by omega) h4 (fun i hi' hil=>?_)
    by_cases e:i=(lo+hi) / 2
    ·subst e;omega
    ·exact yC (by omega) (YI (hp _ i hm hi' (by omega)))
  ·rw[if_neg hlt];have:lo=hi:=by omega
   subst this;exact⟨h2,h4,h5⟩
def zol(xs:Array Nat)(j:Nat)(h:RS xs):YH xs j<=xs.size/\(∀i (hi:i<xs.size),i<YH xs j->xs[i]<j)/\∀i (hi':i<xs.size),YH xs j<=i->j<=xs[i] :=
 zgm xs j h xs.size 0 xs.size (Ys _) (yi _) (by omega) (fun i _ h=>by omega) (fun i h1 h2=>by omega)
def zEm{α:Type}(xs:Array α)(p:Nat)(x:α):(SetTable.insertAt xs p x).toList=xs.toList.take p++x::xs.toList.drop p:=by
 unfold SetTable.insertAt;simp;rw[List.take_of_length_le (by simp)]
def zky{xs:Array Nat}{j:Nat}(h:RS xs)(hn:xs[YH xs j]?≠some j):RS (SetTable.insertAt xs (YH xs j) j):=by
 obtain⟨h0,h1,h2⟩:=zol xs j h;unfold RS at h ⊢;rw[zEm];generalize YH xs j=r at *
 have hd:∀y∈xs.toList.drop r,j<y:=fun y hy=>by
  obtain⟨i,hi,rfl⟩:=List.mem_iff_getElem.mp hy;simp at hi;have hi':r+i<xs.size:=by omega
  have h3:=h2 (r+i) hi' (by omega);have e:(xs.toList.drop r)[i]'(by simp;omega)=xs[r+i]:=by simp
  rw[e]
  by_cases hz:i=0
  ·subst hz;have:xs[r]?=some xs[r]:=by simp
   simp only[Nat.add_zero]at h3 ⊢;rw[this]at hn;have:xs[r]≠j:=fun e=>hn (by rw[e]);omega
  ·have hp:=List.pairwise_iff_getElem.mp h r (r+i) (by simp;omega) (by simpa using hi') (by omega);simp at hp;have:=h2 r (by omega) (yi _);omega
 have ht:∀y∈xs.toList.take r,y<j:=fun y hy=>by
  obtain⟨i,hi,rfl⟩:=List.mem_iff_getElem.mp hy;simp at hi;have e:(xs.toList.take r)[i]'(by simp;omega)=xs[i]:=by simp
  rw[e];exact h1 i (by omega) (by omega)
 rw[List.pairwise_append];refine⟨h.sublist (List.take_sublist _ _),List.pairwise_cons.mpr ⟨hd,h.sublist (List.drop_sublist _ _)⟩,fun a ha b hb=>?_⟩;rcases List.mem_cons.mp hb with rfl | hb
 ·exact ht a ha
 ·exact Nat.lt_trans (ht a ha) (hd b hb)
structure TOk(L:Bool)(t:xu):Prop where
 rs:RS t.place
 nd:t.dummies = #[]
 led:t.led=L
def zUp{j:Nat}:SetTable.has #[] j=false:=by
 unfold SetTable.has;simp
def zwp{t:xu}(hn:t.dummies = #[]){ha:Nat->Int}{h:Int}:∀(fuel:Nat)(p:SetTable.Probe)(j:Nat)(d:Option Nat),p.dummy=none->SetTable.probe.go t ha h fuel p=some (.empty j d)->t.slot j = .empty/\d=none
 |0,p,j,d,_,e=>by unfold SetTable.probe.go at e;cases e
 |fuel+1,p,j,d,hd,e=>by
  unfold SetTable.probe.go at e
  have hadv:(t.advance p).dummy=none:=by
   unfold SetTable.advance
   split
   ·exact hd
   ·exact hd
  split at e
  ·rename_i hs
   cases e;exact⟨hs,hd⟩
  ·rename_i hs
   unfold SetTable.slot at hs;dsimp only at hs;rw[hn,zUp]at hs
   split at hs<;>simp at hs
  ·split at e
   ·cases e
   ·exact zwp hn fuel _ j d hadv e
def zJm{t:xu}(hn:t.dummies = #[]){h:Int}{j:Nat}{b:Bool}(e:t.freeSlot h=some (j,b)):t.place[YH t.place j]?≠some j:=by
 unfold SetTable.freeSlot at e
 split at e
 ·rename_i j' d hp
  obtain⟨h1,rfl⟩:=zwp hn _ _ _ _ rfl hp;cases e;unfold SetTable.slot at h1;dsimp only at h1;intro q;simp only[Option.getD_none]at q;rw[q]at h1;simp at h1
 ·cases e
def TOk.standIn{L:Bool}{t:xu}(h:TOk L t)(n:Nat):TOk L (t.standIn n):=by
 refine⟨?_,rfl,h.led⟩;unfold RS SetTable.standIn;rw[Array.toList_range];exact List.pairwise_lt_range
def TOk.layNew{L:Bool}{t:xu}(h:TOk L t)(es:Array (Int×Value))(hs:Int)(x:Value):TOk L (layNew t es hs x).2.1:=by
 unfold PySem.layNew
 split
 ·rename_i slot wd e
  have hne:=zJm h.nd e
  have h1:TOk L (t.put slot).1:=⟨zky h.rs hne,by
   unfold SetTable.put;dsimp only;rw[h.nd,zUp];rfl,h.led⟩
  show TOk L ((t.put slot).1.orStandIn _);unfold SetTable.orStandIn
  split
  ·exact h1
  ·exact h1.standIn _
 ·exact h.standIn _
def TOk.relay{L:Bool}{t:xu}(h:TOk L t)(es:Array (Int×Value))(wanted:Nat):TOk L (relayAll t es wanted).2.1:=by
 unfold relayAll
 split
 ·rename_i t' order e
  dsimp only
  split
  ·unfold SetTable.relaid SetTable.laid at e;obtain⟨ow,_,e⟩:=Option.bind_eq_some_iff.mp e;cases e;refine⟨?_,rfl,h.led⟩;unfold RS;dsimp only;rw[pairwise_map];refine List.Pairwise.filterMap _ (fun a a' hlt b hb b' hb'=>?_) List.pairwise_lt_range;simp at hb hb';obtain⟨_,_,rfl⟩:=hb;obtain⟨_,_,rfl⟩:=hb';exact hlt
  ·exact h.standIn _
 ·exact h.standIn _
def TOk.fresh(L:Bool):TOk L (.fresh 0 0 L):=⟨List.Pairwise.nil,rfl,rfl⟩
def zrk(e:Int×Value):Int:=match e.2 with
 |.int i _=>i
 |_=>0
def SetAt(prog:yw)(w:yF)(h:yP)(a:Addr)(ks:List Int):Prop :=
 ∃o es ep t,h.get? a=some o/\o.ExactSet/\o.data = .set es ep t/\t.fits es.size=true/\TOk (!w.params.followText "set-order") t/\ElemsOf (intKind prog w) es.toList/\(es.toList.map zrk).Perm ks
section
variable {prog:yw}{w:yF}{A:yH}{E:Value->yb->Prop}{s:yb}
def zur{es:List (Int×Value)}{e:Int×Value}{k:Int}(h:ElemsOf (intKind prog w) es)(he:e∈es):(intKind prog w).is k e.2=true↔zrk e=k:=by
 obtain⟨⟨j,hj,_⟩,_⟩:=h e he;obtain⟨t,ht⟩:=Value.isInt_shape (show Value.isInt j e.2=true from hj);unfold zrk;rw[ht];constructor
 ·intro q;obtain⟨u,hu⟩:=Value.isInt_shape (show Value.isInt k (.int j t)=true from q);cases hu;rfl
 ·intro q;have q:j=k:=q;rw[q];exact intKind_is prog w k t
def SetAt.at'{h h':yP}{a:Addr}{ks:List Int}(x:SetAt prog w h a ks)(k:∀o,h.get? a=some o->h'.get? a=some o):SetAt prog w h' a ks:=by
 obtain⟨o,es,ep,t,h1,h2⟩:=x;exact⟨o,es,ep,t,k o h1,h2⟩
def zjp(b:Bool){Q:Unit->yb->Prop}(h:Q () s):yn (yr prog w) A (match b with | true=>rule "set.scan.the-table-gave-way" | false=>pure ()) Q E s:=by
 cases b
 ·exact ye h
 ·exact wpAny_rule h
def stored{o:YN}{h:yP}{a:Addr}{es:Array (Int×Value)}{ep:Nat}{t:xu}(ho:h.get? a=some o)(hd:o.data = .set es ep t)(es1:Array (Int×Value))(t1:xu) :
 (h.update a (Obj.putSet es1 t1)).get? a=some {o with data := .set es1 (ep+1) t1 }:=by
 have e:=putSet_of es1 t1 hd;have q:=yI (Obj.putSet es1 t1) ho (by rw[e];rfl);rw[e]at q;exact q
def zbv{a:Addr}{ks:List Int}{k:Int}{tk:Tok}{Q:Bool->yb->Prop}(hS:SetAt prog w s.heap a ks)(hroom:ks.length+1<scanBound)
 (h:∀b h',Yk a s.heap h'->SetAt prog w h' a (if k∈ks then ks else ks++[k])->Q b {s with heap:=h' }):yn (yr prog w) A (setAddHashed a (.int k tk) (hashInt k)) Q E s:=by
 obtain⟨o,es,ep,t,ho,hex,hd,hf,hT,hel,hp⟩:=hS
 have hsz:es.size=ks.length:=by
  have:=hp.length_eq;simpa using this
 have hmem:k∈ks↔∃e∈es.toList,zrk e=k:=by
  rw[<-hp.mem_iff,mem_map]
 unfold setAddHashed setAddHashedIn;refine Yg (ya (YU ho hd hf ?_));dsimp only;rw[byScan_of (knd:=intKind prog w) (x := .int k tk) rfl (by omega) hel];simp only[↓reduceIte];unfold setAddByScan;refine ya (ya (wpAny_rule (ya (wpAny_setScan_of (knd:=intKind prog w) (k:=k) (intKind_is prog w k tk) ho hd hf hel ?_))))
 cases hr:List.findIdx? (fun e=>(intKind prog w).is k e.2) es.toList with
 |some j=>
  dsimp only;obtain⟨hj,hpj,_⟩:=List.findIdx?_eq_some_iff_getElem.mp hr;have hk:k∈ks:=hmem.mpr ⟨es.toList[j],getElem_mem hj,(zur hel (getElem_mem hj)).mp hpj⟩;have q:=h false s.heap (Heap.SameBut.refl a s.heap) ⟨o,es,ep,t,ho,hex,hd,hf,hT,hel,by rw[if_pos hk];exact hp⟩;exact ye (ye q)
 |none=>
  dsimp only
  have hk:k∉ks:=fun hk=>by
   obtain⟨e,he,q⟩:=hmem.mp hk;have:=List.findIdx?_eq_none_iff.mp hr e he;rw[(zur hel he).mpr q]at this;cases this
  rw[if_neg hk]at h;have p1:=layNew_perm t es (hashInt k) (.int k tk);have f1:=layNew_fits t es (hashInt k) (.int k tk);have T1:=hT.layNew es (hashInt k) (.int k tk);show yn _ _ (_ >>= _) _ _ _;generalize layNew t es (hashInt k) (.int k tk)=L1 at p1 f1 T1 ⊢;obtain⟨es1,t1,wd,gv⟩:=L1;dsimp only at p1 f1 T1 ⊢;rw[Array.toList_push]at p1;have el1:ElemsOf (intKind prog w) es1.toList:=(hel.push (intKind_is prog w k tk) rfl).perm p1
  have pk1:(es1.toList.map zrk).Perm (ks++[k]):=by
   refine(p1.map zrk).trans ?_;rw[map_append];exact hp.append_right _
  have z1:es1.size=ks.length+1:=by
   have:=pk1.length_eq;simpa using this
  refine ya (zjp gv ?_)
  have fin:yn (yr prog w) A (do
   storeSet a es1 t1
   if (!wd && t1.tooFull)=true then
    match relayAll t1 es1 (Xi es1.size) with
    |(es2,t2,gv2)=>do
     (match gv2 with | true=>rule "set.scan.the-table-gave-way" | false=>pure ())
     storeSet a es2 t2
     pure (some true)
   else pure (some true)) (fun r s'=>∃h',s' = {s with heap:=h' }/\r=some true/\Yk a s.heap h'/\SetAt prog w h' a (ks++[k])) E s:=by
   refine ya (wpAny_storeSet_of ho hd ?_ (fits_of_scanBound (by omega)));have s1:=stored ho hd es1 t1;have b1:=Yv s.heap a (Obj.putSet es1 t1)
   split
   ·have p2:=relayAll_perm t1 es1 (Xi es1.size);have f2:=relayAll_fits t1 es1 (Xi es1.size);have T2:=T1.relay es1 (Xi es1.size);generalize relayAll t1 es1 (Xi es1.size)=L2 at p2 f2 T2 ⊢;obtain⟨es2,t2,gv2⟩:=L2;dsimp only at p2 f2 T2 ⊢
    have z2:es2.size=es1.size:=by
     have:=p2.length_eq;simpa using this
    refine ya (zjp gv2 (ya (wpAny_storeSet_of s1 rfl ?_ (fits_of_scanBound (by omega)))));exact ye ⟨_,rfl,rfl,b1.trans (Yv _ a _),_,es2,_,t2,stored s1 rfl es2 t2,hex,rfl,f2,T2,el1.perm p2,(p2.map zrk).trans pk1⟩
   ·exact ye ⟨_,rfl,rfl,b1,_,es1,_,t1,s1,hex,rfl,f1,T1,el1,pk1⟩
  have goal2:yn (yr prog w) A (do
   storeSet a es1 t1
   if (!wd && t1.tooFull)=true then
    match relayAll t1 es1 (Xi es1.size) with
    |(es2,t2,gv2)=>do
     (match gv2 with | true=>rule "set.scan.the-table-gave-way" | false=>pure ())
     storeSet a es2 t2
     pure (some true)
   else pure (some true)) (fun r s'=>yn (yr prog w) A (match r with | some added=>pure added | none=>setAddHashedIn a (.int k tk) (hashInt k) 99999) Q E s') E s:=by
   refine yR fin (fun r s' ⟨h',e1,e2,b,x⟩=>?_) fun _ _ z=>z;subst e1 e2;exact ye (h true h' b x)
  split
  ·refine ya ?_;rw[hashByValue_scannable 8 (x := .int k tk) rfl];exact ye goal2
  ·exact ya (ye goal2)
end
def z9h{α:Type}:∀(l:List α)(i:Nat)(h:i<l.length),(l[i]::l.eraseIdx i).Perm l
 |[],i,h=>by simp at h
 |y::ys,0,h=>by simp
 |y::ys,i+1,h=>by
  have h':i<ys.length:=by simpa using h
  show(ys[i]::y::ys.eraseIdx i).Perm (y::ys);exact(List.Perm.swap y ys[i] _).trans ((z9h ys i h').cons y)
def zct{α:Type}(next:Nat->Nat):∀(fuel k:Nat)(rest:List α)(out:Array α),rest.length<=fuel->(pickOrder.go next fuel k rest out).toList.Perm (out.toList++rest)
 |0,k,rest,out,h=>by
  have:rest=[]:=List.length_eq_zero_iff.mp (Nat.le_zero.mp h);subst this;unfold pickOrder.go;simp
 |fuel+1,k,rest,out,h=>by
  unfold pickOrder.go
  cases rest with
  |nil=>simp
  |cons y ys=>
   have hlt:next k%(y::ys).length<(y::ys).length:=Nat.mod_lt _ (by simp);rw[yp hlt];dsimp only;refine(zct next fuel (k+1) _ _ (by rw[List.length_eraseIdx_of_lt hlt];simp at h ⊢;omega)).trans ?_;rw[Array.toList_push,append_assoc];exact List.Perm.append_left _ (z9h _ _ hlt)
def z6j{α:Type}(next:Nat->Nat)(xs:Array α):(pickOrder next xs).toList.Perm xs.toList:=by
 unfold pickOrder;exact(zct next xs.size 0 xs.toList #[] (by simp)).trans (by simp)
def slot_si_next:Slot "set_iterator" "__next__" "set_iterator.__next__" :=
 .of (owner:="set_iterator") (n:="__next__") (by rw[typeLookup_type,xZ];kernel_rfl) (by decide +kernel) (by decide +kernel) (by decide +kernel) (by first | exact .inl (by decide +kernel) | exact .inr (by decide +kernel)) (by rw[isSubtype_type];kernel_rfl)
def zJi:Slot "set_iterator" "__iter__" "set_iterator.__iter__" :=
 .of (owner:="set_iterator") (n:="__iter__") (by rw[typeLookup_type,xZ];kernel_rfl) (by decide +kernel) (by decide +kernel) (by decide +kernel) (by first | exact .inl (by decide +kernel) | exact .inr (by decide +kernel)) (by rw[isSubtype_type];kernel_rfl)
def zGd:entryFor table "set_iterator.__next__" = some xy.«set_iterator.__next__»:=entryFor_of_tree (by kernel_rfl)
def zbm:entryFor table "set_iterator.__iter__" = some xy.«dict_keyiterator.__iter__»:=entryFor_alias (id':="dict_keyiterator.__iter__") (by kernel_rfl) rfl (by decide +kernel) (by kernel_rfl)
def zpe(a:Value):argsOk "set_iterator.__next__" ⟨[a],[]⟩:=by unfold argsOk;kernel_rfl
def zGn(a:Value):argsOk "set_iterator.__iter__" ⟨[a],[]⟩:=by unfold argsOk;kernel_rfl
def zzn:entryFor table "set.__iter__" = some xy.«frozenset.__iter__»:=entryFor_alias (id':="frozenset.__iter__") (by kernel_rfl) rfl (by decide +kernel) (by kernel_rfl)
def SIt(h:yP)(it a:Addr)(first:Value)(i n ep:Nat):Prop:=∃o,h.get? it=some o/\o.cls = .type "set_iterator"/\o.data = .fields #[first, .int i 0, .ref a, .int n 0, .int ep 0]
def SOb(h:yP)(a:Addr)(es:Array (Int×Value))(ep:Nat)(t:xu):Prop:=∃o,h.get? a=some o/\o.cls = .type "set"/\o.data = .set es ep t/\t.fits es.size=true
section
variable {prog:yw}{w:yF}{A:yH}{E:Value->yb->Prop}{s:yb}
def SIt.typeIs{it a:Addr}{first:Value}{i n ep:Nat}(x:SIt s.heap it a first i n ep):s.TypeIs (.ref it) "set_iterator":=let ⟨o,ho,hc,_⟩:=x;⟨o,ho,hc⟩
def SIt.at'{h h':yP}{it a:Addr}{first:Value}{i n ep:Nat}(x:SIt h it a first i n ep)(k:∀o,h.get? it=some o->h'.get? it=some o):SIt h' it a first i n ep:=let ⟨o,ho,r⟩:=x;⟨o,k o ho,r⟩
def SOb.at'{h h':yP}{a:Addr}{es:Array (Int×Value)}{ep:Nat}{t:xu}(x:SOb h a es ep t)(k:∀o,h.get? a=some o->h'.get? a=some o):SOb h' a es ep t:=let ⟨o,ho,r⟩:=x;⟨o,k o ho,r⟩
def zms{it:Addr}{o:YN}{vs:Array Value}{Q:Option Value->yb->Prop}(hh:A.handled=none)(ho:s.heap.get? it=some o)(hd:o.data = .fields vs)(h2:2<vs.size)
 (hQ:∀h',Heap.ExtBut it s.heap h'->Q none {s with heap:=h' }) :
 yn (yr prog w) A.in1 (do setField (.ref it) 2 .none;raiseNew (<-newExc (.type "StopIteration") []):Sem Fin)
  (fun _ _=>False) (fun e s'=>yn (yr prog w) A (do if <-isInstance e (.type "StopIteration") then pure none else throw e) Q E s') s:=by
 refine ya (YT ho hd h2 ?_);refine ya ?_;simp only[newExc,newTuple];refine ya (yS ?_ (by size_fits));refine ya (m:=firstArgMember _ _) (wpAny_of_eq (a:=Yi) (by first | rfl | (simp only[firstArgMember];rfl)) ?_);refine yS ?_ (by size_fits);simp only[raiseNew];refine ya (wpAny_handled ?_);have e:A.in1.handled=none:=hh;rw[e];refine ya (ye (wpAny_throw ?_));refine ya (wpAny_isInstance (T:="StopIteration") (b:=true) ⟨_,yo _ rfl,rfl⟩ isSubtype_stop ?_);exact ye (hQ _ (((Yv s.heap it _).extBut.push _).push _))
end
section
variable {prog:yw}{w:yF}{A:yH}{E:Value->yb->Prop}{s:yb}{it a:Addr}{es:Array (Int×Value)}{ep i:Nat}{t:xu}{Q:Option Value->yb->Prop}
def z8l(n:Nat):¬(((n:Int) != (n:Int))=true):=by simp
def z9j{slot nx:Nat}{x:Value}(hI:SIt s.heap it a (.int slot 0) i es.size ep)(hO:SOb s.heap a es ep t)
 (hn:∀(Q':Option (Value×Nat)->yb->Prop) (E':Value->yb->Prop),Q' (some (x,nx)) s->yn (yr prog w) A.in1 (setNext a slot i ep) Q' E' s)
 (hQ:∀h',SIt h' it a (.int nx 0) (i+1) es.size ep->Yk it s.heap h'->Q (some x) {s with heap:=h' }):yn (yr prog w) A (pyNext (.ref it)) Q E s:=by
 obtain⟨o,ho,hc,hd⟩:=id hI;obtain⟨oa,hoa,_,hda,hfa⟩:=hO;unfold pyNext;refine ya (wpAny_attempt (Yc (name:=YS "__next__") hI.typeIs slot_si_next (yU slot_si_next hI.typeIs zGd ?_ (zpe _))));unfold xy.«set_iterator.__next__»;refine ya (m:=slotArgs "__next__" 0 ⟨[yD it],[]⟩) (ye ?_);refine ya (wpAny_fieldsOf ho hd ?_);dsimp only;refine ya (xJ hoa hda hfa ?_);rw[if_neg (z8l es.size)];refine ya (hn _ _ ?_);dsimp only;refine ya (YT ho hd (by simp) ?_);have ho1:=yI (xg (·.setIfInBounds 0 (Yz nx))) ho (Yw (yT hd _));have hd1:=yT hd (·.setIfInBounds 0 (Yz nx));refine ya (YT ho1 hd1 (by simp) (ye ⟨x,rfl,ye (hQ _ ?_ ((Yv s.heap it _).trans (Yv _ it _)))⟩));refine⟨_,yI _ ho1 (Yw (yT hd1 _)),(Xd ..).trans ((Xd ..).trans hc),?_⟩;rw[yT hd1];simp[Yz]
def zFl{slot:Nat}(hh:A.handled=none)(hI:SIt s.heap it a (.int slot 0) i es.size ep)(hO:SOb s.heap a es ep t)
 (hn:∀(Q':Option (Value×Nat)->yb->Prop) (E':Value->yb->Prop),Q' none s->yn (yr prog w) A.in1 (setNext a slot i ep) Q' E' s)
 (hQ:∀h',Heap.ExtBut it s.heap h'->Q none {s with heap:=h' }):yn (yr prog w) A (pyNext (.ref it)) Q E s:=by
 obtain⟨o,ho,hc,hd⟩:=id hI;obtain⟨oa,hoa,_,hda,hfa⟩:=hO;unfold pyNext;refine ya (wpAny_attempt (Yc (name:=YS "__next__") hI.typeIs slot_si_next (yU slot_si_next hI.typeIs zGd ?_ (zpe _))));unfold xy.«set_iterator.__next__»;refine ya (m:=slotArgs "__next__" 0 ⟨[yD it],[]⟩) (ye ?_);refine ya (wpAny_fieldsOf ho hd ?_);dsimp only;refine ya (xJ hoa hda hfa ?_);rw[if_neg (z8l es.size)];refine ya (hn _ _ ?_);dsimp only;exact yR (zms (Q:=Q) (E:=E) hh ho hd (by simp) hQ) (fun _ _ z=>z.elim) fun _ _ z=>z
def zJo{tup:Addr}{ot:YN}{items:Array Value}{nt place:Nat}{x:Value}{hx:Int}(hI:SIt s.heap it a (.ref tup) i es.size ep)(hO:SOb s.heap a es ep t)(hot:s.heap.get? tup=some ot)(hdt:ot.data = .seq items nt)
 (hp:items[i]?=some (.int place 0)) (he:es[place]?=some (hx,x))
 (hQ:∀h',SIt h' it a (.ref tup) (i+1) es.size ep->Yk it s.heap h'->Q (some x) {s with heap:=h' }):yn (yr prog w) A (pyNext (.ref it)) Q E s:=by
 obtain⟨o,ho,hc,hd⟩:=id hI;obtain⟨oa,hoa,_,hda,hfa⟩:=hO;unfold pyNext;refine ya (wpAny_attempt (Yc (name:=YS "__next__") hI.typeIs slot_si_next (yU slot_si_next hI.typeIs zGd ?_ (zpe _))));unfold xy.«set_iterator.__next__»;refine ya (m:=slotArgs "__next__" 0 ⟨[yD it],[]⟩) (ye ?_);refine ya (wpAny_fieldsOf ho hd ?_);dsimp only;refine ya (xJ hoa hda hfa ?_);rw[if_neg (z8l es.size)];refine ya (wpAny_seqItems hot hdt ?_);dsimp only;simp only[Ym,hp];unfold setNextDrawn;refine ya (ya (YU hoa hda hfa ?_));dsimp only;rw[if_neg (by simp),he];dsimp only;refine ye ?_;refine ya (YT ho hd (by simp) (ye ⟨x,rfl,ye (hQ _ ?_ (Yv s.heap it _))⟩));refine⟨_,yI _ ho (Yw (yT hd _)),(Xd ..).trans hc,?_⟩;rw[yT hd];simp[Yz]
def zoq{tup:Addr}{ot:YN}{items:Array Value}{nt:Nat}(hh:A.handled=none)(hI:SIt s.heap it a (.ref tup) i es.size ep)(hO:SOb s.heap a es ep t)(hot:s.heap.get? tup=some ot)(hdt:ot.data = .seq items nt)
 (hp:items[i]?=none) (hQ:∀h',Heap.ExtBut it s.heap h'->Q none {s with heap:=h' }):yn (yr prog w) A (pyNext (.ref it)) Q E s:=by
 obtain⟨o,ho,hc,hd⟩:=id hI;obtain⟨oa,hoa,_,hda,hfa⟩:=hO;unfold pyNext;refine ya (wpAny_attempt (Yc (name:=YS "__next__") hI.typeIs slot_si_next (yU slot_si_next hI.typeIs zGd ?_ (zpe _))));unfold xy.«set_iterator.__next__»;refine ya (m:=slotArgs "__next__" 0 ⟨[yD it],[]⟩) (ye ?_);refine ya (wpAny_fieldsOf ho hd ?_);dsimp only;refine ya (xJ hoa hda hfa ?_);rw[if_neg (z8l es.size)];refine ya (wpAny_seqItems hot hdt ?_);dsimp only;simp only[Ym,hp];refine ya (YT ho hd (by simp) ?_);have ho1:=yI (xg (·.setIfInBounds 0 (Yz 0))) ho (Yw (yT hd _));have hd1:=yT hd (·.setIfInBounds 0 (Yz 0));exact yR (zms (Q:=Q) (E:=E) hh ho1 hd1 (by simp) fun h' x=>hQ h' fun b o' hb e=>x b o' hb ((Yv s.heap it _).extBut b o' hb e)) (fun _ _ z=>z.elim) fun _ _ z=>z
end
section
variable {prog:yw}{w:yF}{A:yH}{E:Value->yb->Prop}{s:yb}{it a:Addr}{es:Array (Int×Value)}{ep i:Nat}{t:xu}
def zlh{Q:Bool->yb->Prop}(h:Q (w.params.followText "set-order") s):yn (yr prog w) A setsByText Q E s:=by
 unfold setsByText;exact ya (wpAny_askSetting (ye h))
def zQn{slot:Nat}(hw:w.params.followText "set-order" = true)(hO:SOb s.heap a es ep t){Q:Option (Value×Nat)->yb->Prop}(h:Q (((pickOrder (w.params.setOrder a ep) es)[i]?).map fun e=>(e.2,slot)) s) :
 yn (yr prog w) A (setNext a slot i ep) Q E s:=by
 obtain⟨oa,hoa,_,hda,hfa⟩:=hO;unfold setNext;refine ya (YU hoa hda hfa ?_);dsimp only;refine ya (zlh ?_);rw[hw,if_pos rfl,if_neg (by simp)];unfold setWalk;refine ya (ya (YU hoa hda hfa ?_));dsimp only;refine ya (zlh ?_);rw[hw,if_pos rfl];exact ya (wpAny_askSetting (ye (ye h)))
def z0e(t:xu)(i:Nat):Nat:=if i=0 then 0 else t.place.getD (i-1) 0+1
def zhq(h:RS t.place)(hi:i<=t.place.size):YH t.place (z0e t i)=i:=by
 obtain⟨h0,h1,h2⟩:=zol t.place (z0e t i) h
 have hp:∀i k (hi:i<t.place.size) (hk:k<t.place.size),i<k->t.place[i]<t.place[k]:=fun i k hi hk hik=>by
  have:=List.pairwise_iff_getElem.mp h i k (by simpa using hi) (by simpa using hk) hik;simpa using this
 generalize hr:YH t.place (z0e t i)=r at *;unfold z0e at h1 h2
 by_cases hz:i=0
 ·subst hz;rw[if_pos rfl]at h1
  by_cases hr0:0<r
  ·have:=h1 0 (by omega) hr0;omega
  ·omega
 ·rw[if_neg hz]at h1 h2;have hl:i-1<t.place.size:=by omega
  have hg:t.place.getD (i-1) 0=t.place[i-1]:=by simp[Array.getD,hl]
  rw[hg]at h1 h2;rcases Nat.lt_trichotomy r i with hlt | he | hgt
  ·have h3:=h2 (i-1) hl (by omega);omega
  ·exact he
  ·have h3:=h1 i (by omega) hgt;have h4:=hp (i-1) i hl (by omega) (by omega);omega
def znl(hw:w.params.followText "set-order" = false)(hd:(!t.plain&&decide (es.size>1))=false)(hT:TOk true t)(hi:i<=es.size)(hO:SOb s.heap a es ep t){Q:Option (Value×Nat)->yb->Prop}(h:Q ((es[i]?).map fun e=>(e.2,z0e t (i+1))) s) :
 yn (yr prog w) A (setNext a (z0e t i) i ep) Q E s:=by
 obtain⟨oa,hoa,_,hda,hfa⟩:=hO
 have hsz:t.place.size=es.size:=by
  unfold SetTable.fits at hfa;rw[yE]at hfa;exact beq_iff_eq.mp hfa.1
 unfold setNext;refine ya (YU hoa hda hfa ?_);dsimp only;refine ya (zlh ?_);rw[hw,if_neg yx];refine YX (fun hab=>?_) fun _=>?_
 ·have hab:(!t.plain&&decide (es.size>1))=true:=hab;rw[hd]at hab;cases hab
 ·refine ya ?_
  have led:yn (yr prog w) A (if(!t.led && !es.isEmpty)=true then unsupported "set:maker-not-led" else pure ()) (fun _ s'=>yn (yr prog w) A (pure (match es[YH t.place (z0e t i)]?,t.place[YH t.place (z0e t i)]? with
   |some (_,x),some j=>some (x,j+1)
   |_,_=>none):Sem (Option (Value×Nat))) Q E s') E s:=by
   rw[hT.led,if_neg (by simp)];refine ye (ye ?_);rw[zhq hT.rs (by omega)]
   by_cases hlt:i<es.size
   ·have e1:es[i]?=some es[i]:=by simp[hlt]
    have e2:t.place[i]?=some (t.place[i]'(by omega)):=by simp[show i<t.place.size by omega]
    rw[e1]at h;rw[e1,e2]
    have e3:z0e t (i+1)=t.place[i]'(by omega)+1:=by
     unfold z0e;rw[if_neg (by omega)];simp[Array.getD,show i<t.place.size by omega]
    rw[e3]at h;exact h
   ·have e1:es[i]?=none:=by simp;omega
    rw[e1]at h;rw[e1];exact h
  exact led
def zll{α:Type}:∀(n:Nat)(xs:List α)(s:yb)(Q:List α->yb->Prop),n=xs.length->(∀ys d,ys.Perm xs->Q ys {s with drawn:=d })->yn (yr prog w) A (drawOrder n xs) Q E s
 |0,xs,s,Q,hn,h=>by
  have:xs=[]:=List.length_eq_zero_iff.mp hn.symm;subst this;exact ye (h [] s.drawn .nil)
 |n+1,[],s,Q,hn,h=>by simp at hn
 |n+1,x::xs,s,Q,hn,h=>by
  unfold drawOrder;refine ya ?_;intro Γ p hΓ;unfold choose;rw[Sem.wp_choose];refine⟨by simp,?_⟩;have hlt:(yr prog w).w.draws .order (s.drawn.get .order)%(x::xs).length<(x::xs).length:=Nat.mod_lt _ (by simp);generalize (yr prog w).w.draws .order (s.drawn.get .order)%(x::xs).length=j at hlt ⊢;generalize s.drawn.bump .order=d1
  have main:yn (yr prog w) A (match(x::xs)[j]? with
   |some y=>do return y::(<-drawOrder n ((x::xs).eraseIdx j))
   |none=>unsupported "internal:drawOrder") Q E {s with drawn:=d1 }:=by
   rw[yp hlt];dsimp only;refine ya (zll n _ _ _ (by rw[List.length_eraseIdx_of_lt hlt];simp at hn ⊢;omega) fun ys d hp=>ye (h _ d ?_));exact(hp.cons _).trans (z9h _ _ hlt)
  simp only[Sem.wp_pure];exact main
end
section
variable {prog:yw}{w:yF}{A:yH}{E:Value->yb->Prop}{s:yb}{I a:Addr}{es:Array (Int×Value)}{ep i:Nat}{t:xu}
def zgo{first:Value}{n:Nat}{Q:Value->yb->Prop}(hI:SIt s.heap I a first i n ep)(h:Q (.ref I) s):yn (yr prog w) A (pyIter (.ref I)) Q E s:=by
 refine wpAny_pyIter_slot hI.typeIs zJi (yU zJi hI.typeIs zbm ?_ (zGn _));unfold xy.«dict_keyiterator.__iter__»;refine ya (m:=slotArgs "__iter__" 0 ⟨[yD I],[]⟩) (ye ?_);exact ye ⟨_,rfl,"set_iterator",_,hI.typeIs,slot_si_next.lookup,h⟩
abbrev zWw(ent:List (Int×Value))(i:Nat)(v:Value):Prop:=∃k,ent[i]?=some (k,v)
def z6q(hh:A.handled=none)(hne:a≠I)(hw:w.params.followText "set-order" = true) :
 Walks prog w A I [I,a] [I] es.size (zWw (pickOrder (w.params.setOrder a ep) es).toList) (fun i h=>SIt h I a (.int ((0:Nat):Int) 0) i es.size ep/\SOb h a es ep t) where
 sub:=fun b hb=>by simp at hb;simp[hb]
 frame:=fun _ _ _ st hk=>⟨st.1.at' fun o e=>hk I (by simp) o e,st.2.at' fun o e=>hk a (by simp) o e⟩
 item:=fun i s Q E hi st hQ=>by
  have hl:(pickOrder (w.params.setOrder a ep) es).size=es.size:=by
   have:=(z6j (w.params.setOrder a ep) es).length_eq;simpa using this
  have hi':i<(pickOrder (w.params.setOrder a ep) es).size:=by omega
  have e1:(pickOrder (w.params.setOrder a ep) es)[i]?=some (pickOrder (w.params.setOrder a ep) es)[i]:=by simp[hi']
  refine z9j (nx:=0) (x:=(pickOrder (w.params.setOrder a ep) es)[i].2) st.1 st.2 (fun Q' E' hq=>zQn hw st.2 (by rw[e1];exact hq)) fun h' x sb=>?_;refine hQ _ h' s.toks ⟨_,by rw[xY,e1]⟩ ⟨x,st.2.at' fun o e=>sb.extBut a o hne e⟩ fun b o hb e=>sb.extBut b o (fun h=>hb (by simp[h])) e
 done:=fun s Q E st hQ=>by
  have hl:(pickOrder (w.params.setOrder a ep) es).size=es.size:=by
   have:=(z6j (w.params.setOrder a ep) es).length_eq;simpa using this
  refine zFl hh st.1 st.2 (fun Q' E' hq=>zQn hw st.2 (by rw[show(pickOrder (w.params.setOrder a ep) es)[es.size]?=none by simp;omega];exact hq)) fun h' x=>hQ h' s.toks fun b o hb e=>x b o (fun h=>hb (by simp[h])) e
 self:=fun _ _ _ _ st hQ=>zgo st.1 hQ
def zfq(hh:A.handled=none)(hne:a≠I)(hw:w.params.followText "set-order" = false)(hd:(!t.plain&&decide (es.size>1))=false)(hT:TOk true t) :
 Walks prog w A I [I,a] [I] es.size (zWw es.toList) (fun i h=>SIt h I a (.int (z0e t i:Nat) 0) i es.size ep/\SOb h a es ep t) where
 sub:=fun b hb=>by simp at hb;simp[hb]
 frame:=fun _ _ _ st hk=>⟨st.1.at' fun o e=>hk I (by simp) o e,st.2.at' fun o e=>hk a (by simp) o e⟩
 item:=fun i s Q E hi st hQ=>by
  have e1:es[i]?=some es[i]:=by simp[hi]
  refine z9j (nx:=z0e t (i+1)) (x:=es[i].2) st.1 st.2 (fun Q' E' hq=>znl hw hd hT (by omega) st.2 (by rw[e1];exact hq)) fun h' x sb=>?_;refine hQ _ h' s.toks ⟨_,by rw[xY,e1]⟩ ⟨x,st.2.at' fun o e=>sb.extBut a o hne e⟩ fun b o hb e=>sb.extBut b o (fun h=>hb (by simp[h])) e
 done:=fun s Q E st hQ=>by
  refine zFl hh st.1 st.2 (fun Q' E' hq=>znl hw hd hT (by omega) st.2 (by rw[show es[es.size]?=none by simp];exact hq)) fun h' x=>hQ h' s.toks fun b o hb e=>x b o (fun h=>hb (by simp[h])) e
 self:=fun _ _ _ _ st hQ=>zgo st.1 hQ
def zYq{tup:Addr}{ord:List Nat}{nt:Nat}(hh:A.handled=none)(hne:a≠I)(hne2:tup≠I)(hp:ord.Perm (yy es.size)) :
 Walks prog w A I [I,a,tup] [I] es.size (zWw (ord.map fun j=>es.getD j (0, .none))) (fun i h=>SIt h I a (.ref tup) i es.size ep/\SOb h a es ep t/\∃ot,h.get? tup=some ot/\ot.data = .seq (ord.map fun(j:Nat)=>Yz j).toArray nt) where
 sub:=fun b hb=>by simp at hb;simp[hb]
 frame:=fun _ _ _ st hk=>⟨st.1.at' fun o e=>hk I (by simp) o e,st.2.1.at' fun o e=>hk a (by simp) o e,let ⟨ot,h1,h2⟩:=st.2.2;⟨ot,hk tup (by simp) ot h1,h2⟩⟩
 item:=fun i s Q E hi st hQ=>by
  obtain⟨st1,st2,ot,h1,h2⟩:=st
  have hl:ord.length=es.size:=by
   have:=hp.length_eq;simpa using this
  have hi':i<ord.length:=by omega
  have hj:ord[i]<es.size:=by
   have:=hp.mem_iff.mp (getElem_mem hi');simpa using this
  have e1:es[ord[i]]?=some es[ord[i]]:=by simp[hj]
  refine zJo (x:=es[ord[i]].2) (place:=ord[i]) (hx:=es[ord[i]].1) st1 st2 h1 h2 (by simp[hi',Yz]) e1 fun h' x sb=>?_;refine hQ _ h' s.toks ⟨es[ord[i]].1,by simp[hi',Array.getD,hj]⟩ ⟨x,st2.at' fun o e=>sb.extBut a o hne e,ot,sb.extBut tup ot hne2 h1,h2⟩ fun b o hb e=>sb.extBut b o (fun h=>hb (by simp[h])) e
 done:=fun s Q E st hQ=>by
  obtain⟨st1,st2,ot,h1,h2⟩:=st
  have hl:ord.length=es.size:=by
   have:=hp.length_eq;simpa using this
  refine zoq hh st1 st2 h1 h2 (by simp;omega) fun h' x=>hQ h' s.toks fun b o hb e=>x b o (fun h=>hb (by simp[h])) e
 self:=fun _ _ _ _ st hQ=>zgo st.1 hQ
def zlt{ord:List Nat}(hp:ord.Perm (yy es.size)):(ord.map fun j=>es.getD j (0, .none)).Perm es.toList:=by
 refine(hp.map _).trans ?_
 have:(yy es.size).map (fun j=>es.getD j (0,Yi))=es.toList:=by
  apply List.ext_getElem
  ·simp
  ·intro n h1 h2;simp at h1 h2;simp[Array.getD,h1]
 rw[this]
end
section
variable {prog:yw}{w:yF}{A:yH}{E:Value->yb->Prop}{s:yb}{a:Addr}{es:Array (Int×Value)}{ep:Nat}{t:xu}
def zQy(prog:yw)(w:yF)(A:yH)(s:yb)(es:Array (Int×Value))(a:Addr)(I:Addr)(s':yb):Prop :=
 ∃fp ent St,Walks prog w A I fp [I] es.size (zWw ent) St/\St 0 s'.heap/\ent.Perm es.toList/\s.heap.objs.size<=I/\(∀b∈fp,s.heap.objs.size<=b\/b=a)/\(∀b∈fp,b<s'.heap.objs.size)/\(∀b o,s.heap.get? b=some o->s'.heap.get? b=some o)/\∃d,s' = {s with heap:=s'.heap,drawn:=d }
def z4t{Q:Value->yb->Prop}(hh:A.handled=none)(hT:TOk (!w.params.followText "set-order") t)(hO:SOb s.heap a es ep t)(hsz:es.size<=yB)
 (h:∀I s',zQy prog w A s es a I s'->Q (.ref I) s'):yn (yr prog w) A (pyIter (.ref a)) Q E s:=by
 obtain⟨oa,hoa,hca,hda,hfa⟩:=id hO;have hTy:s.TypeIs (.ref a) "set":=⟨oa,hoa,hca⟩
 have hlt:a<s.heap.objs.size:=yj hoa;refine wpAny_pyIter_slot hTy F.slot_set_iter (yU F.slot_set_iter hTy zzn ?_ (F.args_set_iter_1 _));unfold xy.«frozenset.__iter__»;refine ya (m:=Builtin.Frozenset.slot0 "__iter__" ⟨[yD a],[]⟩) (ye ?_);unfold Builtin.Frozenset.sizeOf;refine ya (ya (xJ hoa hda hfa (ye ?_)));unfold setDrawn;refine ya (ya (YU hoa hda hfa ?_));dsimp only;refine ya (zlh (ye ?_));refine YX (fun hab=>?_) fun hab=>?_
 ·have hab:(!w.params.followText "set-order" && (!t.plain&&decide (es.size>1)))=true:=hab;refine ya (zll es.size _ _ _ (by simp) fun ord d hp=>?_)
  have hol:ord.length=es.size:=by
   have:=hp.length_eq;simpa using this
  unfold newTuple;refine ya (yS ?_ (by show(List.map (fun(i:Nat)=>Yz i) ord).toArray.size<=yB;simp;omega));have hg:(s.heap.push {cls := .type "tuple",data := .seq (ord.map fun(i:Nat)=>Yz i).toArray }).get? a=some oa:=yd _ hoa;refine ya ?_;unfold setEpoch;refine ya (YU (s:={s with heap:=_,drawn:=d }) hg hda hfa (ye ?_));unfold newFields;refine ya (yS (ye ⟨_,rfl,"set_iterator",_,⟨_,yo _ rfl,rfl⟩,slot_si_next.lookup,?_⟩));have hs1:(s.heap.push {cls := .type "tuple",data := .seq (ord.map fun(i:Nat)=>Yz i).toArray }).objs.size=s.heap.objs.size+1:=by rw[Yl]
  refine h _ _ ⟨[(s.heap.push {cls := .type "tuple",data := .seq (ord.map fun(i:Nat)=>Yz i).toArray }).objs.size,a,s.heap.objs.size],ord.map fun j=>es.getD j (0, .none),_,
   zYq (t:=t) (ep:=ep) (nt:=0) hh (by rw[hs1];exact yz (Yr hlt)) (by rw[hs1];exact yz (Yq _)) hp,⟨⟨_,yo _ rfl,rfl,by simp[Yz]⟩,⟨oa,yd _ hg,hca,hda,hfa⟩,_,yd _ (yo _ rfl),rfl⟩,
   zlt hp,by rw[hs1];exact xD _,?_,?_,fun b o e=>yd _ (yd _ e),d,rfl⟩
  ·intro b hb;rw[hs1]at hb;simp at hb;rcases hb with rfl | rfl | rfl
   ·exact .inl (xD _)
   ·exact .inr rfl
   ·exact .inl (yi _)
  ·intro b hb;show b<((s.heap.push _).push _).objs.size;rw[Yl,hs1];rw[hs1]at hb;simp at hb;rcases hb with rfl | rfl | rfl
   ·exact Yq _
   ·exact Yr (Yr hlt)
   ·exact Yr (Yq _)
 ·have hab:¬(!w.params.followText "set-order" && (!t.plain&&decide (es.size>1)))=true:=hab;refine ya (ye ?_);refine ya ?_;unfold setEpoch;refine ya (YU hoa hda hfa (ye ?_));unfold newFields;refine ya (yS (ye ⟨_,rfl,"set_iterator",_,⟨_,yo _ rfl,rfl⟩,slot_si_next.lookup,?_⟩))
  have pre:∀(ent:List (Int×Value)) (St:Nat->yP->Prop),Walks prog w A s.heap.objs.size [s.heap.objs.size,a] [s.heap.objs.size] es.size (zWw ent) St->St 0 (s.heap.push {cls := .type "set_iterator",data := .fields #[Yz 0,Yz 0, .ref a,Yz es.size,Yz ep]})->ent.Perm es.toList ->
   Q (.ref s.heap.objs.size) {s with heap:=s.heap.push {cls := .type "set_iterator",data := .fields #[Yz 0,Yz 0, .ref a,Yz es.size,Yz ep]}}:=fun ent St W st hp=>
   h _ _ ⟨_,ent,St,W,st,hp,yi _,fun b hb=>by simp at hb;rcases hb with rfl | rfl;exact .inl (yi _);exact .inr rfl,fun b hb=>by
    show b<(s.heap.push _).objs.size;rw[Yl];simp at hb;rcases hb with rfl | rfl
    ·exact Yq _
    ·exact Yr hlt,fun b o e=>yd _ e,s.drawn,rfl⟩
  cases hw:w.params.followText "set-order" with
  |true=>exact pre _ _ (z6q (t:=t) (ep:=ep) hh (yz hlt) hw) ⟨⟨_,yo _ rfl,rfl,by simp[Yz]⟩,⟨oa,yd _ hoa,hca,hda,hfa⟩⟩ (z6j _ _)
  |false=>
   rw[hw]at hab hT;exact pre _ _ (zfq (t:=t) (ep:=ep) hh (yz hlt) hw (by simpa using hab) hT) ⟨⟨_,yo _ rfl,rfl,by simp[Yz,z0e]⟩,⟨oa,yd _ hoa,hca,hda,hfa⟩⟩ (.refl _)
end
section
variable {prog:yw}{w:yF}{A:yH}{E:Value->yb->Prop}{s:yb}{a:Addr}{es:Array (Int×Value)}{ep:Nat}{t:xu}
def zGu{Q:Bool->yb->Prop}(hT:s.TypeIs (.ref a) "set")(hq:Q false s):yn (yr prog w) A (xo (.ref a)) Q E s:=by
 unfold xo;refine ya (xB hT F.slot_set_len.lookup ?_);generalize hn:("set.__len__":String)=nm
 wp_delta
 rw[show splitId nm=some ("set","__len__") from by subst hn;decide +kernel];subst hn;refine ya (wpAny_isInstance (T:="set") (b:=true) hT (by rw[isSubtype_type];kernel_rfl) ?_);refine YX (fun no=>absurd no (by decide)) fun _=>?_;refine YX (fun _=>?_) fun no=>absurd (by decide +kernel) no;exact ya (Xl hT (ye hq))
def zCz(s:yb)(es:Array (Int×Value))(vs:List Value)(s':yb):Prop :=
 (∃ent:List (Int×Value),ent.Perm es.toList/\vs=ent.map (·.2))/\(∀b o,s.heap.get? b=some o->s'.heap.get? b=some o)/\s'.os=s.os/\s'.gens=s.gens/\s.heap.objs.size<=s'.heap.objs.size
def zwu{ent:List (Int×Value)}{acc:Array Value}{n:Nat}(hl:ent.length=n)(h:ItemsOf (zWw ent) acc n):acc.toList=ent.map (·.2):=by
 apply List.ext_getElem
 ·simp[h.1,hl]
 ·intro j h1 h2;have h1':j<acc.size:=by simpa using h1
  obtain⟨k,e⟩:=h.2 j acc[j] (by simp[h1']);have h3:j<ent.length:=by simpa using h2
  rw[yp h3]at e;simp only[Xg]at e;simp[e]
def zMo{Q:List Value->yb->Prop}(hh:A.handled=none)(hT:TOk (!w.params.followText "set-order") t)(hO:SOb s.heap a es ep t)(hsz:es.size<=yB)(h:∀vs s',zCz s es vs s'->Q vs s') :
 yn (yr prog w) A (collect (.ref a)) Q E s:=by
 obtain⟨oa,hoa,hca,hda,hfa⟩:=id hO;have hlt:a<s.heap.objs.size:=yj hoa;unfold collect;refine ya (wpAny_runValue (xk F.entry_proto_collect ?_));rw[YL F.plain_proto_collect _];show yn _ A.in1 (newList [] >>= fun l=>again (.builtin "list.__iadd__" ⟨[l, .ref a],[]⟩)) _ _ s;refine ya (yS ?_);refine ye ⟨xT F.plain_list_iadd _,xk F.entry_list_iadd ?_⟩;rw[YL F.plain_list_iadd _];obtain⟨S,hSe⟩:∃S,S=s.heap.objs.size:=⟨_,rfl⟩
 have hL:(s.heap.push {cls := .type "list",data := .seq ([]:List Value).toArray }).get? S=some {cls := .type "list",data := .seq #[]}:=by rw[hSe];exact yo _ rfl
 have hk0:∀b o,s.heap.get? b=some o->(s.heap.push {cls := .type "list",data := .seq ([]:List Value).toArray }).get? b=some o:=fun b o e=>yd _ e;have hz0:(s.heap.push {cls := .type "list",data := .seq ([]:List Value).toArray }).objs.size=S+1:=by rw[hSe,Yl]
 show yn _ A.in1 (Yo (.ref s.heap.objs.size) (.ref a) (.ref s.heap.objs.size)) _ _ _;rw[<-hSe];generalize s.heap.push {cls := .type "list",data := .seq ([]:List Value).toArray } = h0 at hL hk0 hz0 ⊢;have hO0:SOb h0 a es ep t:=hO.at' fun o e=>hk0 _ o e;have hSa:S≠a:=by rw[hSe];exact yV hlt
 have hTy:Shared.TypeIs {s with heap:=h0 } (.ref a) "set":=⟨oa,hk0 _ _ hoa,hca⟩
 unfold Yo;refine ya (Xl hTy ?_);have g1:xG (.ref S) (.ref a)=false:=by simp[xG,hSa]
 have g2:(YJ "set" == YJ "list")=false:=by decide
 have g3:(YJ "set" == YJ "tuple")=false:=by decide
 simp only[g1,g2,g3,Bool.or_false,Bool.false_eq_true,if_false];refine ya (z4t (s:={s with heap:=h0 }) hh hT hO0 hsz fun I s1 hI=>?_);obtain⟨fp,ent,St,W,st,hp,hIs,hf1,hf2,hk1,d,hs1⟩:=hI;have hL1:s1.heap.get? S=some {cls := .type "list",data := .seq #[]}:=hk1 _ _ hL;have hIs:S+1<=I:=by rw[<-hz0];exact hIs
 have hSf:S∉fp:=fun hm=>by
  rcases hf1 S hm with q | q
  ·have q:h0.objs.size<=S:=q;rw[hz0]at q;exact yO _ q
  ·exact hSa q
 have hTy1:s1.TypeIs (.ref a) "set":=⟨oa,hk1 _ _ (hk0 _ _ hoa),hca⟩
 refine ya (Yg (zGu hTy1 ?_))
 have loop:∀(h2:yP)(c:Nat),(∀b o,b≠S->s1.heap.get? b=some o->h2.get? b=some o)->h2.get? S=some {cls := .type "list",data := .seq #[] c } ->
  Xc (yr prog w) A (.builtin "list.extend.loop" ⟨[.ref S, .ref I, .ref S],[]⟩) (fun r s'=>∃acc c',r = .ok (.ret (.ref S))/\s'.heap.get? S=some {cls := .type "list",dict:=none,data := .seq acc c',slots:=#[]}/\zCz s es acc.toList s') {s1 with heap:=h2 }:=by
  intro h2 c hk2 hL2;refine codeAny_extend_loopS W.toS hsz S hSf (.ref S) es.size 0 _ #[] c rfl (Ys _) (W.frame 0 _ _ st fun b hb o e=>hk2 b o (fun q=>hSf (q▸hb)) e) hL2 (ItemsOf.nil _) fun s' acc c' hm hS' hacc=>?_;refine⟨acc,c',rfl,hS',⟨ent,hp,zwu (by simpa using hp.length_eq) hacc⟩,fun b o e=>?_,?_,?_,by rw[<-hSe];exact YI (yj hS')⟩
  ·have hb:b<s.heap.objs.size:=yj e;rw[<-hSe]at hb;refine hm.heap b o (fun hmem=>?_) (hk2 b o (yz hb) (hk1 _ _ (hk0 _ _ e)));rcases List.mem_cons.mp hmem with q | q
   ·exact absurd hb (by rw[q];exact yO _)
   ·rw[List.mem_singleton.mp q]at hb;exact yO _ (Nat.lt_trans hb (yv (Yq _) hIs))
  ·have:=hm.os;rw[this];show s1.os=s.os;rw[hs1]
  ·have:s'.gens=s1.gens:=hm.gens;rw[this,hs1]
 have fin:∀(h2:yP)(c:Nat),(∀b o,b≠S->s1.heap.get? b=some o->h2.get? b=some o)->h2.get? S=some {cls := .type "list",data := .seq #[] c } ->
  Xc (yr prog w) A (.builtin "list.extend.loop" ⟨[.ref S, .ref I, .ref S],[]⟩) (fun r s'=>match r with
   |.ok (.ret v)=>yn (yr prog w) A (match v with
    |.ref b=>do
     let o <-load b
     match o.data with
     |.seq xs _=>pure xs.toList
     |_=>unsupported "internal:collect"
    |_=>unsupported "internal:collect") Q E s'
   |_=>False) {s1 with heap:=h2 }:=fun h2 c hk2 hL2=>YR (loop h2 c hk2 hL2) fun r s' ⟨acc,c',e,hS',hc⟩=>by
  subst e;dsimp only;refine ya (wpAny_load hS' ?_);exact ye (h _ _ hc)
 refine YX (fun _=>?_) fun _=>?_
 ·refine ya (wpAny_rule ?_);refine ya ?_;show yn _ _ (updateSeq S (·.push .none) >>= fun _=>updateSeq S (·.pop)) _ _ _;refine ya (wpAny_updateSeq hL1 rfl ?_);have hL2:=yI (xN (·.push Yi)) hL1 rfl;refine wpAny_updateSeq (hz:=by seq_fits) hL2 rfl ?_;have hL3:=yI (xN (·.pop)) hL2 rfl;refine ye ⟨xT F.plain_extend_loop _,YR (fin _ _ (fun b o hb e=>?_) hL3) fun r s' z=>?_⟩
  ·exact(yY _ _ (yN hb)).trans ((yY _ _ (yN hb)).trans e)
  ·cases r with
   |error e=>exact z.elim
   |ok f=>cases f<;>exact z
 ·refine ye ⟨xT F.plain_extend_loop _,YR (fin _ _ (fun b o hb e=>e) hL1) fun r s' z=>?_⟩
  cases r with
  |error e=>exact z.elim
  |ok f=>cases f<;>exact z
end
end M
namespace M
open PySem PyProof.Rows
section
variable {prog:yw}{w:yF}{A:yH}{E:Value->yb->Prop}{s:yb}{a:Addr}
def zrh:∀(ent:List (Int×Value)),ElemsOf (intKind prog w) ent->IntsAre (ent.map (·.2)) (ent.map zrk)
 |[],_ => .nil
 |e::ent,h=>by
  obtain⟨⟨k,hk,_⟩,_⟩:=h e mem_cons_self;obtain⟨t,ht⟩:=Value.isInt_shape (show Value.isInt k e.2=true from hk);have:zrk e=k:=by unfold zrk;rw[ht]
  rw[map_cons,map_cons,ht,this];exact .cons k t (zrh ent fun x hx=>h x (mem_cons_of_mem _ hx))
def zLu(s:yb)(ks:List Int)(p:Addr)(s':yb):Prop :=
 ∃(out:Array Value)(ns:List Int)(e:Nat),s'.heap.get? p=some {cls := .type "list",data := .seq out e }/\IntsAre out.toList ns/\ns.Perm ks/\ns.Pairwise (·<=·)/\s.heap.objs.size<=p/\(∀b o,s.heap.get? b=some o->s'.heap.get? b=some o)/\s'.os=s.os/\s'.gens=s.gens
def zsq{ks:List Int}{Q:Value->yb->Prop}(hh:A.handled=none)(hS:SetAt prog w s.heap a ks)(h64:ks.length<64)(h:∀p s',zLu s ks p s'->Q (.ref p) s') :
 yn (yr prog w) A (call (.builtin "sorted") [.ref a]) Q E s:=by
 obtain⟨o,es,ep,t,ho,hex,hd,hf,hT,hel,hpk⟩:=hS
 have hlen:es.size=ks.length:=by
  have:=hpk.length_eq;simpa using this
 have hO:SOb s.heap a es ep t:=⟨o,ho,hex.1,hd,hf⟩
 refine Calls.call_function_entry kind_sorted plain_sorted entry_sorted (args_sorted1 _) ?_;unfold xy.«sorted»;refine ya (m:=checkCount "sorted" 1 1 _) (ye ?_);refine ya (zMo (A:=A.in1) hh hT hO (yC (YI (by omega:es.size<64)) (by rw[Yp];decide)) fun vs s1 hc=>?_);obtain⟨⟨ent,hp,rfl⟩,hk,hos,hgn,hsz⟩:=hc;have hel2:ElemsOf (intKind prog w) ent:=hel.perm hp;have hI:=zrh ent hel2
 have hl:ent.length=ks.length:=by
  rw[hp.length_eq];simpa using hlen
 refine ya (wpAny_newList ?_ (by simp;rw[Yp];omega));have hnew:(s1.heap.push (seqObj "list" (ent.map (·.2)).toArray 0)).get? s1.heap.objs.size=some (seqObj "list" (ent.map (·.2)).toArray 0):=yo _ rfl;refine ya (Yg (yU slot_list_sort ⟨_,hnew,rfl⟩ entry_list_sort (list_sort_tree hnew hI (by simp;omega) fun out ns q1 q2 q3=>⟨_,rfl,?_⟩) (args_list_sort _)));obtain⟨e,he⟩:=sortedHeap_at (out:=out) hnew;refine ye ⟨_,rfl,h _ _ ⟨out,ns,e,he,q1,q2.trans ((hp.map zrk).trans hpk),q3,hsz,fun b ob eb=>?_,hos,hgn⟩⟩;have hb1:=hk _ _ eb;have hlt1:b<s1.heap.objs.size:=yj hb1;show(sortedHeap (s1.heap.push (seqObj "list" (ent.map (·.2)).toArray 0)) s1.heap.objs.size (ent.map (·.2)) out).get? b=some ob;rw[sortedHeap_old (yz hlt1) (by rw[size_push'];exact Yr hlt1)];exact yd _ hb1
end
def zJy(ks:List Int)(k:Int):List Int:=if k∈ks then ks else ks++[k]
def uqN(val:Nat->Int):Nat->List Int
 |0=>[]
 |i+1=>zJy (uqN val i) (val i)
def zCs(val:Nat->Int):∀i,(uqN val i).length<=i
 |0=>yi _
 |i+1=>by
  have:=zCs val i;unfold uqN zJy
  split
  ·omega
  ·simp;omega
def zxr(val:Nat->Int)(k:Int):∀i,k∈uqN val i↔∃j,j<i/\val j=k
 |0=>by simp[uqN]
 |i+1=>by
  have ih:=zxr val k i;unfold uqN zJy;constructor
  ·intro h
   split at h
   ·obtain⟨j,h1,h2⟩:=ih.mp h;exact⟨j,by omega,h2⟩
   ·rcases List.mem_append.mp h with h | h
    ·obtain⟨j,h1,h2⟩:=ih.mp h;exact⟨j,by omega,h2⟩
    ·exact⟨i,by omega,by simpa using(List.mem_singleton.mp h).symm⟩
  ·rintro⟨j,h1,h2⟩
   by_cases e:j=i
   ·subst e
    split
    ·rename_i hm
     rw[<-h2];exact hm
    ·simp[h2]
   ·have:=ih.mpr ⟨j,by omega,h2⟩
    split
    ·exact this
    ·exact mem_append_left _ this
def zwn(val:Nat->Int):∀i,(uqN val i).Nodup
 |0=>List.nodup_nil
 |i+1=>by
  have ih:=zwn val i;unfold uqN zJy
  split
  ·exact ih
  ·rename_i hm
   rw[nodup_append];exact⟨ih,by simp,fun a ha b hb e=>by simp at hb;subst hb;exact hm (e▸ha)⟩
section
variable {prog:yw}{w:yF}{A:yH}{R:Result->yb->Prop}{I:Addr}{fp wr:List Addr}{n:Nat}{P:Nat->Value->Prop}{St:Nat->yP->Prop}
def zCu(W:Walks prog w A.in1 I fp wr n P St)(S:Addr)(hSf:S∉fp)(val:Nat->Int)(hval:∀i v,P i v->∃t,v = .int (val i) t)(hb:n+1<scanBound):∀(k i:Nat)(s:yb),n-i=k->i<=n->St i s.heap->SetAt prog w s.heap S (uqN val i) ->
 (∀h' tk,(∀b o,b∉S::wr->s.heap.get? b=some o->h'.get? b=some o)->SetAt prog w h' S (uqN val n)->R (.ok (.ret .none)) {s with heap:=h',toks:=tk })->Xc (yr prog w) A (.builtin "set.update.loop" ⟨[.ref S, .ref I],[]⟩) R s:=by
 have hSw:S∉wr:=fun q=>hSf (W.sub _ q);intro k
 induction k with
 |zero=>
  intro i s hk hi st hS hR;have e:i=n:=by omega
  subst e;refine xk PyProof.Rows.F.entry_set_update_loop ?_;rw[YL xm _];show yn _ A.in1 (pyNext (.ref I) >>= _) _ _ s;refine ya (W.done s _ _ st fun h' tk hk'=>?_);exact ye (hR h' tk (fun b o hb e=>hk' b o (fun q=>hb (mem_cons_of_mem _ q)) e) (hS.at' fun o e=>hk' S o hSw e))
 |succ k ih=>
  intro i s hk hi st hS hR;have hlt:i<n:=by omega
  refine xk PyProof.Rows.F.entry_set_update_loop ?_;rw[YL xm _];show yn _ A.in1 (pyNext (.ref I) >>= _) _ _ s;refine ya (W.item i s _ _ hlt st fun v h1 tk hP st1 hk1=>?_);obtain⟨t,rfl⟩:=hval i v hP;show yn _ A.in1 (xC [Value.int (val i) t] (setAdd S (.int (val i) t)) >>= _) _ _ _;refine ya (Yg ?_);unfold setAdd;refine Yg ?_;refine ya (wpAny_pyHash_int ?_);have hS1:SetAt prog w h1 S (uqN val i):=hS.at' fun o e=>hk1 S o hSw e;refine zbv (s:={s with heap:=h1,toks:=tk+1 }) hS1 (by have:=zCs val i;omega) fun b h2 sb hS2=>?_;refine ye ⟨xT xm _,ih (i+1) _ (by omega) hlt (W.frame _ _ _ st1 fun c hc o e=>?_) hS2 fun h3 tk3 hk3 hS3=>?_⟩
  ·exact sb.extBut c o (fun q=>hSf (q▸hc)) e
  ·exact hR h3 tk3 (fun c o hc e=>hk3 c o hc (sb.extBut c o (fun q=>hc (by rw[q];exact mem_cons_self)) (hk1 c o (fun q=>hc (mem_cons_of_mem _ q)) e))) hS3
end
section
variable {prog:yw}{w:yF}{A:yH}{E:Value->yb->Prop}{s:yb}
abbrev zbe(w:yF):YN:={cls := .type "set",dict:=none,data := .set #[] 0 (.fresh 0 0 (!w.params.followText "set-order"))}
def zrv(a:Value){Q:Value->yb->Prop}(h:Q (.ref s.heap.objs.size) {s with heap:=s.heap.push (zbe w)}) :
 Xc (yr prog w) A (.call (.builtin "set.__new__") ⟨[.type "set",a],[]⟩) (wants Q E) s:=by
 refine codeAny_of_tree ?_;show yn _ A.in1 (do checkBuiltinCall "set.__new__" ⟨[.type "set",a],[]⟩;again (.builtin "set.__new__" ⟨[.type "set",a],[]⟩)) _ _ s;refine ya (wpAny_of_eq (PySem.F.newCall_set_1 a) (ye ⟨xT PySem.F.plain_set_new _,xk PySem.F.entry_set_new ?_⟩));rw[YL PySem.F.plain_set_new _];unfold xy.«set.__new__» Builtin.Frozenset.newClass;have hsub:=PySem.sub_set_self;obtain⟨hp,g,d,tk,os⟩:=s;dsimp only
 wp_walk
 refine wpAny_askSetting (ye ?_);dsimp only;simp only[newObj];refine ya (wpAny_alloc (ye ?_));exact ye h
end
section
variable {prog:yw}{w:yF}{A:yH}{E:Value->yb->Prop}{s:yb}
def z7r(prog:yw)(w:yF)(s:yb)(ks:List Int)(s':yb):Prop :=
 SetAt prog w s'.heap s.heap.objs.size ks/\(∀b o,s.heap.get? b=some o->s'.heap.get? b=some o)/\∃h' tk,s' = {s with heap:=h',toks:=tk }
set_option maxHeartbeats 3200000 in
def zlo{l:Addr}{its:Array Value}{ns:List Int}{Q:Value->yb->Prop}(hh:A.handled=none)(hl:s.heap.IsList l its)(hi:IntsAre its.toList ns)(hb:its.size+1<scanBound)
 (h:∀s',z7r prog w s (uqN (fun i=>ns.getD i 0) its.size) s'->Q (.ref s.heap.objs.size) s'):yn (yr prog w) A (call (.type "set") [.ref l]) Q E s:=by
 obtain⟨c,tl,hmro⟩:=PySem.F.called_set.mro;have hmade:=PySem.F.called_set.made;have hsub:=PySem.F.called_set.sub;refine wpAny_call (codeAny_of_tree ?_);show yn _ _ (callAny (.type "set") _) _ _ _;refine ye ⟨Code.quiet_builtin _ (by decide +kernel),xk PySem.F.entry_type_call ?_⟩;rw[Around.under_plain (weight_type_call_type "set" [.ref l] []) rfl];have t1:=PySem.F.called_set.notType;have t2:=PySem.F.called_set.canCreate;have t3:=PySem.F.typeCall_set_1 (.ref l)
 repeat (any_goals (first | assumption | wp_step))
 refine YR (zrv (w:=w) (.ref l) (E:=E) (Q:=fun ob s1=>ob = .ref s.heap.objs.size/\s1 = {s with heap:=s.heap.push (zbe w)}) ⟨rfl,rfl⟩) fun r s1 hr=>?_
 cases r with
 |error e=>exact hr
 |ok fl=>
  cases fl with
  |ret ob=>
   obtain⟨rfl,rfl⟩:=hr;have hS:(s.heap.push (zbe w)).get? s.heap.objs.size=some (zbe w):=yo _ rfl;have hT:Shared.TypeIs {s with heap:=s.heap.push (zbe w)} (.ref s.heap.objs.size) "set":=⟨_,hS,rfl⟩
   have i1:=PySem.F.called_set.init.lookup;have i2:=PySem.F.called_set.init.bind (.ref s.heap.objs.size)
   repeat (any_goals (first | assumption | wp_step))
   refine YR (Xj (R:=wants (fun r s2=>r = .none/\z7r prog w s (uqN (fun i=>ns.getD i 0) its.size) s2) E) PySem.F.called_set.init.plain PySem.F.entry_set_init (check_set_init_1 hT ?_)) fun r2 s2 hr2=>?_
   ·obtain⟨ol,hol,hcl,nl,hdl⟩:=hl;obtain⟨ocls,odict,odata,oslots⟩:=ol;simp only at hcl hdl;subst hcl;subst hdl;have hlS:l<s.heap.objs.size:=yj hol;have hol1:(s.heap.push (zbe w)).get? l=some {cls := .type "list",dict:=odict,data := .seq its nl,slots:=oslots }:=yd _ hol;have n1:=PySem.F.sub_list_set;have n2:=PySem.F.sub_list_frozenset;have n3:(YJ "list" == YJ "dict")=false:=by decide
    have hl1:(s.heap.push (zbe w)).IsList l its:=⟨_,hol1,rfl,nl,rfl⟩
    unfold xy.«set.__init__» noKeywords Builtin.Frozenset.updateFrom;generalize hPI:pyIter=PI
    wp_walk
    subst hPI;refine wpAny_pyIter_list hl1 ?_;refine ya (wpAny_runValue ?_);have hz:(s.heap.push (zbe w)).objs.size=s.heap.objs.size+1:=by rw[Yl]
    have hne:l≠(s.heap.push (zbe w)).objs.size:=by rw[hz];exact yz (Yr hlS)
    have hSf:s.heap.objs.size∉[(s.heap.push (zbe w)).objs.size,l]:=by
     rw[hz];simp only[mem_cons,not_mem_nil,or_false,not_or];exact⟨yz (Yq _),yV hlS⟩
    have hval:∀(i:Nat)(v:Value),its[i]?=some v->∃t,v = .int ((fun i=>ns.getD i 0) i) t:=fun i v hv=>IntsAre.int_at hi i v (by rw[xY];exact hv);refine zCu (Walks.list (by simp[hh]) _ l hne its) s.heap.objs.size hSf (fun i=>ns.getD i 0) hval hb (its.size-0) 0 _ (by omega) (Ys _) ⟨⟨_,yo _ rfl,rfl,rfl⟩,hl1.push _⟩ ?s0 ?r0
    case s0=>
     exact⟨zbe w,#[],0,_,yd _ hS,⟨rfl,rfl,rfl⟩,rfl,rfl, .fresh _,fun e he=>by simp at he,by simp[uqN]⟩
    case r0=>
     intro h' tk hk hS';refine ye ?_;show yn _ _ (ret Yi) _ _ _;refine ye ⟨rfl,hS',fun b o e=>?_,h',tk,rfl⟩;have hlt:b<s.heap.objs.size:=yj e;refine hk b o ?_ (yd _ (yd _ e));rw[hz];simp only[mem_cons,not_mem_nil,or_false,not_or];exact⟨yz hlt,yz (Yr hlt)⟩
   ·cases r2 with
    |error e=>exact hr2
    |ok fl2=>
     cases fl2 with
     |ret r=>
      obtain⟨rfl,hm⟩:=hr2
      repeat (any_goals (first | assumption | wp_step))
      exact h _ hm
     |_=>exact hr2.elim
  |_=>exact hr.elim
end
end M
namespace M
open PySem PySem.Spec PyProof.Rows L2
section
variable {X:Cx}{pins:List (Addr×YN)}{σ:L2.St}{H:Hp}{s s':yb}
def zcu(I:Inv X pins σ H s)(ho:s'.os=s.os)(hg:s'.gens=s.gens)(k:∀b u,s.heap.get? b=some u->s'.heap.get? b=some u):Inv X pins σ H s' :=
 I.call' (ch:=[]) ho (Un.kept k) (I.hok.kept k) (by rw[hg];exact I.bare) fun b z=>nomatch z
def zBp{p:Addr}{o:HO}(I:Inv X pins σ H s)(ho:s'.os=s.os)(hg:s'.gens=s.gens)(k:∀b u,s.heap.get? b=some u->s'.heap.get? b=some u)(hp:s.heap.objs.size<=p)(new:ObjOk X.prog X.w (upd H p o) s'.heap p o):Inv X pins σ (upd H p o) s' :=
 I.call' (ch:=[]) ho (Un.laid k hp (I.hok.fresh hp)) (I.hok.laid k hp new) (by rw[hg];exact I.bare) fun b z=>nomatch z
def zAe:∀{us:List Value} {ns:List Int},IntsAre us ns->Vals (ns.map V.int) us
 |_,_, .nil => .nil
 |_,_, .cons n t r => .cons ⟨t,rfl⟩ (zAe r)
def zyt(X:Cx)(p:Addr)(ks:List Int):HO := .ext fun h=>SetAt X.prog X.w h p ks
def zYs(hc:X.calm=true):zSk X (.type "set") (fun xs H Q=>∃(a:Addr)(ns:List Int),xs=[.ref a]/\SqL X.K H a (ns.map V.int)/\ns.length+1<scanBound/\∀p,H p=none->Q (.ref p) (upd H p (zyt X p (uqN (fun i=>ns.getD i 0) ns.length)))):=by
 intro pins s σ H xs us Q I r ⟨a,ns,e,hq,hb,k⟩;subst e;obtain⟨u,rfl,rx⟩:=vals1 r;cases rx;obtain⟨its,rv,pl,hz⟩:=I.list hq;have hl:its.length=ns.length:=by rw[<-rv.length];simp
 refine zlo (I.ok.hd hc) pl.isList (its:=its.toArray) (ns:=ns) (by simpa using zog rv) (by simp;omega) fun s' ⟨hS,hk,h',tk,e⟩=>?_;subst e;rw[show its.toArray.size=ns.length by simp;exact hl]at hS;refine⟨.ref s.heap.objs.size,_,I.laid (t':=tk) hk (yi _) (show ObjOk X.prog X.w _ h' _ (zyt X _ _) from⟨hS,?_,fun h1 h2 x y=>x.at' y⟩),rfl,k _ I.fresh⟩;obtain⟨o,_,_,_,ho,_⟩:=hS;exact⟨o,ho⟩
def zcq(hc:X.calm=true):zSk X (.builtin "sorted") (fun xs H Q=>∃(a:Addr)(ks:List Int),xs=[.ref a]/\H a=some (zyt X a ks)/\ks.length<64/\∀(p:Addr)(ns:List Int),H p=none->ns.Perm ks->ns.Pairwise (·<=·)->Q (.ref p) (upd H p (.lst (ns.map V.int)))):=by
 intro pins s σ H xs us Q I r ⟨a,ks,e,hq,h64,k⟩;subst e;obtain⟨u,rfl,rx⟩:=vals1 r;cases rx;obtain⟨hS,_,_⟩:=I.hok a _ hq;refine zsq (I.ok.hd hc) hS h64 fun p s' ⟨out,ns,e,h1,h2,h3,h4,h5,h6,h7,h8⟩=>?_;have hl:ns.length=ks.length:=h3.length_eq;refine⟨.ref p,_,zBp I h7 h8 h6 h5 (show ObjOk X.prog X.w _ s'.heap _ (.lst (ns.map V.int)) from⟨by simp;rw[Yp];omega,out.toList,e,zAe h2,by simpa using h1⟩),rfl,k p ns (I.hok.fresh h5) h3 h4⟩
end
def zUz:D->Option Int
 |.int i=>some i
 |_=>none
def zfi(ds:List D):Option (List Int):=ds.mapM zUz
@[simp] theorem zOh:∀ns:List Int,zfi (ns.map D.int)=some ns
 |[]=>rfl
 |i::ns=>by
  have:=zOh ns;unfold zfi at this ⊢;rw[map_cons,mapM_cons,this];rfl
def zVe:∀{ds:List D} {ns:List Int},zfi ds=some ns->ds=ns.map D.int
 |[],ns,h=>by
  unfold zfi at h;simp at h;subst h;rfl
 |d::ds,ns,h=>by
  unfold zfi at h;rw[mapM_cons]at h;obtain⟨i,e1,h⟩:=zh h;obtain⟨r,e2,h⟩:=zh h;cases h
  cases d with
  |int j=>cases e1;rw[zVe (show zfi ds=some r from e2)];rfl
  |_=>cases e1
def zmh{K:yu}{ρ:List Addr}{H:Hp}:∀{ns:List Int} {vs:List V},RepVs K ρ H (ns.map D.int) vs->vs=ns.map V.int
 |[],vs,r=>r.nil_inv
 |i::ns,vs,r=>by
  obtain⟨v,q,rfl,h1,h2⟩:=r.cons_inv;rw[h1.int_inv,zmh h2];rfl
def zCf{K:yu}{ρ:List Addr}{H:Hp}:∀{ns:List Int},RepVs K ρ H (ns.map D.int) (ns.map V.int)
 |[] => .nil
 |i::ns => .cons .int zCf
def uqL(ns:List Int):List Int:=uqN (fun i=>ns.getD i 0) ns.length
def z7t(ns:List Int):List Int:=(uqL ns).mergeSort fun a b=>decide (a<=b)
def zcd{a b:List Int}(p:a.Perm b)(ha:a.Pairwise (·<=·))(hb:b.Pairwise (·<=·)):a=b:=p.eq_of_pairwise (fun _ _ _ _ h1 h2=>Int.le_antisymm h1 h2) ha hb
def z8h(ns:List Int):(ns.mergeSort fun a b=>decide (a<=b)).Pairwise (·<=·):=by
 have:=List.pairwise_mergeSort (le:=fun a b:Int=>decide (a<=b)) (fun a b c h1 h2=>by simp at h1 h2 ⊢;omega) (fun a b=>by simp;omega) ns;exact this.imp fun h=>by simpa using h
def z3m(φ:FE):FE:=fun δ μ=>(φ δ μ).bind fun p=>match p.1 with
 |.loc n=>match p.2[n]? with
  |some (.lst ds)=>(zfi ds).bind fun ns=>bif decide (ns.length<=4000/\(uqL ns).length<64) then some (.loc p.2.length,p.2++[.lst ((z7t ns).map .int)]) else none
  |_=>none
 |_=>none
section
variable {X:Cx}{a b c e:Expr}{es:List Expr}{φ ψ χ:FE}{pos pos2 p1 p2:xp}
def zso(hm1:X.mg "sorted" = none)(hv1:yQ "sorted" = some (.builtin "sorted"))(hm2:X.mg "set" = none)(hv2:yQ "set" = some (.type "set"))(h:ME X e φ)(hc:X.calm=true:=by rfl)(hg1:Gl X "sorted":=by rfl)(hg2:Gl X "set":=by rfl)
 (he:yf [e] X.env=(false,yW e X.env)::yf [] X.env:=by rfl) (he2:yf [.Call (.Name "set" p2) [e] [] pos2] X.env=(false,yW (.Call (.Name "set" p2) [e] [] pos2) X.env)::yf [] X.env:=by rfl) :
 ME X (.Call (.Name "sorted" p1) [.Call (.Name "set" p2) [e] [] pos2] [] pos) (z3m φ) :=
 zfe (zJp (zcq hc) hg1 hm1 hv1 (zLe (z7f (zYs hc) hg2 hm2 hv2 (zLe h zUh he) (by decide) (by decide) he rfl) zUh he2) (by decide) (by decide) he2 rfl) fun ρ δ μ σ H d μ' Q A e k=>by
  obtain⟨⟨x,μ1⟩,e1,e⟩:=zh e;refine⟨ρ,δ,μ,x,μ1,A,e1,fun ρ1 H1 v x1 R1 r1=>?_⟩;dsimp only at e
  split at e
  ·split at e
   ·rename_i hm
    obtain⟨ns,e2,e⟩:=zh e;obtain⟨hb,e⟩:=zQ e;have hb:=of_decide_eq_true hb;cases e;rw[zVe e2]at hm;obtain⟨p,rfl,ep⟩:=r1.loc_inv;obtain⟨vs,e3,q⟩:=R1.at_ _ _ _ ep hm;rw[zmh q]at e3;refine⟨p,ns,rfl,SqL.of e3,by unfold scanBound;omega,fun p1 hp1=>?_⟩;refine⟨p1,uqL ns,rfl,zu,hb.2,fun p2 ms hp2 hpm hpw=>?_⟩;have hms:ms=z7t ns:=zcd (hpm.trans (mergeSort_perm _ _).symm) hpw (z8h _);subst hms;have R2:=R1.newTup (o:=zyt X p1 (uqL ns)) hp1;exact k _ _ _ (x1.trans ((Ext.new hp1).trans (Ext.push hp2))) (R2.push hp2 ⟨_,zu,zCf⟩) (.loc (zEb R2))
   ·cases e
  ·cases e
end
section
variable {prog:yw}{w:yF}{A:yH}{E:Value->yb->Prop}{s:yb}
def zZq{l b:Addr}{its its2:List Value}{n:Nat}{Q:Value->yb->Prop}(hl:s.heap.get? l=some {cls := .type "list",data := .seq its.toArray n })(hb:IsTup s.heap b its2.toArray)(hz:its.length+its2.length<=yB)
 (h:Q .none {s with heap:=s.heap.update l (xN (· ++ its2.toArray))}):yn (yr prog w) A (call (.builtin "list.extend") [.ref l, .ref b]) Q E s:=by
 obtain⟨o,ho,hc,m,hd⟩:=hb
 have hlong:¬(!its.toArray.isEmpty&&xf (its.toArray.size+its2.toArray.size))=true:=by
  rw[notLongL (by rw[size_toArray,size_toArray];exact hz),Bool.and_false];exact yx
 refine yU PySem.F.slot_list_extend ⟨_,hl,rfl⟩ PySem.F.entry_list_extend ?_ (PySem.F.args_list_extend_2 _ _);unfold xy.«list.extend»;refine ya (m:=selfAndOne "list.extend" ⟨[.ref l, .ref b],[]⟩) (ye ?_);dsimp only;unfold Yo;refine ya (Xl (T:="tuple") ⟨o,ho,hc⟩ ?_);have ht:(YJ "tuple" == YJ "tuple")=true:=by rfl
 rw[if_pos (by rw[ht];simp)];refine ya (listItems_at ho hd ?_);refine ya (listItems_at hl rfl ?_);rw[if_neg hlong];refine ya (listUpdate_at hl rfl ?_ (by rw[size_toArray];omega) (by rw[Array.size_append,size_toArray,size_toArray];omega));exact ye ⟨_,rfl,h⟩
end
section
variable {X:Cx}{a b c e:Expr}{es:List Expr}{φ ψ χ:FE}{pos:xp}
@[simp] def znv:GM:=fun x ds μ=>match x,ds with
 |.loc n,[.tup ys]=>match μ[n]? with
  |some (.lst xs)=>bif decide (xs.length+ys.length<=1000000) then some (.non,μ.set n (.lst (xs++ys))) else none
  |_=>none
 |.loc n,[.loc m]=>match μ[n]?,μ[m]? with
  |some (.lst xs),some (.lst ys)=>bif decide (xs.length+ys.length<=1000000) then some (.non,μ.set n (.lst (xs++ys))) else none
  |_,_=>none
 |_,_=>none
def zKq:MtG X "list.extend" znv:=by
 refine MtG.of fun pins s σ H x xs v us Q I rx rs ρ dx ds μ d μ' r1 r2 R e k=>?_;have hmi:=million;unfold znv at e
 split at e
 ·split at e
  ·rename_i hm
   obtain⟨h1,e⟩:=zQ e;have h1:=of_decide_eq_true h1;cases e;obtain⟨l,rfl,ea⟩:=r1.loc_inv;obtain⟨vs,e3,q3⟩:=R.at_ _ _ _ ea hm;obtain⟨w,r,rfl,q1,q2⟩:=r2.cons_inv;rw[q2.nil_inv]at rs;obtain⟨b,ws,rfl,eb,qb⟩:=q1.tup_inv;obtain⟨u,rfl,ru⟩:=vals1 rs;cases ru;cases rx;obtain⟨z,its,n,rv,hl,el⟩:=I.lstM e3;obtain⟨its2,rv2,pt,_⟩:=I.tuple (SqT.of (K:=X.K) eb);have hl1:=q3.length;have hl2:=qb.length;have hl3:=rv2.length;have hmu:Mut (H l):=by rw[e3];trivial
   refine zZq el pt (by omega) ?_;refine⟨.non,_,I.lset (t':=s.toks) (ys:=vs++ws) (its':=its++its2) e3 el (by simp) (rv.append rv2) (by rw[length_append];omega),rfl,?_⟩;exact k ρ _ _ (Ext.wr hmu) (R.wr hmu ea ⟨_,zu,RepVs.ext (Ext.wr hmu) (q3.append qb)⟩) .non
  ·cases e
 ·split at e
  ·rename_i hm1 hm2
   obtain⟨h1,e⟩:=zQ e;have h1:=of_decide_eq_true h1;cases e;obtain⟨l,rfl,ea⟩:=r1.loc_inv;obtain⟨vs,e3,q3⟩:=R.at_ _ _ _ ea hm1;obtain⟨w,r,rfl,q1,q2⟩:=r2.cons_inv;rw[q2.nil_inv]at rs;obtain⟨b,rfl,eb⟩:=q1.loc_inv;obtain⟨ws,e4,q4⟩:=R.at_ _ _ _ eb hm2;have hl1:=q3.length;have hl2:=q4.length;have hmu:Mut (H l):=by rw[e3];trivial
   refine zZr pins s σ H _ _ v us Q I rx rs ⟨l,b,vs,ws,rfl,rfl,e3,e4,by omega,?_⟩;exact k ρ _ _ (Ext.wr hmu) (R.wr hmu ea ⟨_,zu,RepVs.ext (Ext.wr hmu) (q3.append q4)⟩) .non
  ·cases e
 ·cases e
def zZm{o:Expr}{ψ:FA}{apos:xp}(ho:ME X o φ)(ha:MAn X (e::es) ψ)
 (hbase:Yu o "extend" X.env (yW o X.env)=yW o X.env:=by rfl)
 (hfew:((yZ pos (yf (e::es) X.env)).all (fun x=>!x.1)&&(xt pos (YA [] X.env)).all (fun x=>x.1.isSome)
  && decide ((e::es).length+([]:List xj).length+(if([]:List xj).isEmpty then 0 else 1)<30))=true:=by rfl)
 (hline:(apos.endLine==pos.line)=true:=by rfl) (hs:yf (e::es) X.env=(false,yW e X.env)::yf es X.env:=by rfl) (hplain:(yZ pos (yf es X.env)).any (·.1)=false:=by rfl) :
 ME X (.Call (.Attribute o "extend" apos) (e::es) [] pos) (zRf znv φ ψ):=zwk PySem.F.slot_list_extend PySem.F.type_list_extend zKq ho ha hbase hfew hline hs hplain
@[simp] def zxx:GL:=fun ds μ=>match ds with
 |[.loc n]=>match μ[n]? with
  |some (.lst xs)=>(zfi xs).bind fun ns=>some (.int ns.sum,μ)
  |_=>none
 |_=>none
def zAn(ns:List Int):∀i,i<=ns.length->preSum (fun j=>ns.getD j 0) i=(ns.take i).sum
 |0,_=>by simp[preSum]
 |i+1,h=>by
  have ih:=zAn ns i (by omega);unfold preSum;have hi:i<ns.length:=by omega
  have e:ns.take (i+1)=ns.take i++[ns[i]]:=by simp
  rw[ih,e,List.sum_append];simp[hi]
def zts(hc:X.calm=true):CallM X (.builtin "sum") zxx:=by
 refine CallM.of fun pins s σ H xs us Q I r ρ ds μ d μ' r1 R e k=>?_;unfold zxx at e
 split at e
 ·split at e
  ·rename_i hm
   obtain⟨ns,e2,e⟩:=zh e;cases e;rw[zVe e2]at hm;obtain⟨v,rr,rfl,q1,q2⟩:=r1.cons_inv;obtain⟨a,rfl,ea⟩:=q1.loc_inv;obtain⟨vs,e3,q3⟩:=R.at_ _ _ _ ea hm;rw[zmh q3]at e3;rw[q2.nil_inv]at r;obtain⟨u,rfl,ru⟩:=vals1 r;cases ru;obtain⟨its,rv,pl,hz⟩:=I.list (SqL.of (K:=X.K) e3);have hlt:a<s.heap.objs.size:=by obtain⟨_,_,e,_⟩:=pl;exact yj e
   have hI:=zog rv;have hl:its.length=ns.length:=by rw[<-rv.length];simp
   refine call_sum_walkAnyS (wpAny_pyIter_list pl.isList ?_);refine⟨_,_,_,_,_,_,_,fun j=>ns.getD j 0,rfl,(Walks.list (A:=X.A.in1) (I.ok.hd hc) s.heap.objs.size a (yz hlt) its.toArray).toS,⟨⟨_,yo _ rfl,rfl,rfl⟩,pl.isList.push _⟩,fun b hb=>?_,fun i v hv=>IntsAre.int_at hI i v (by simpa using hv),fun s' t' hmv=>?_⟩
   ·show b<(s.heap.push _).objs.size;rw[Yl];simp at hb;rcases hb with rfl | rfl
    ·exact Yq _
    ·exact Yr hlt
   ·refine⟨.int _,H,zcu I hmv.os hmv.gens fun b o e=>hmv.heap b o (by simpa using yz (yj e)) (yd _ e),⟨t',rfl⟩,?_⟩;rw[size_toArray,hl,zAn ns _ (yi _),take_length];exact k ρ H _ Ext.refl R .int
  ·cases e
 ·cases e
@[simp] def zIg(φ:FE):FI:=fun δ μ=>(φ δ μ).bind fun p=>match p.1 with
 |.tup ds=>some (ds,yes,p.2)
 |.fz ds=>some (ds,yes,p.2)
 |.loc n=>match p.2[n]? with
  |some (.lst ds)=>some (ds,zmn n ds,p.2)
  |_=>none
 |_=>none
def zWc{tg:Expr}(h:ME X a φ):MI X tg a (zIg φ):=by
 intro pins s σ H R I hh;obtain⟨ρ,δ,μ,ds,ok,μ',A,e,k⟩:=hh
 cases e1:φ δ μ with
 |none=>unfold zIg at e;rw[e1]at e;cases e
 |some p=>
  obtain⟨x,μ1⟩:=p
  cases x with
  |tup zs=>exact zmx h pins s σ H R I ⟨ρ,δ,μ,ds,ok,μ',A,by unfold zIg at e;unfold zNu;rw[e1]at e ⊢;exact e,k⟩
  |fz zs=>exact z1r h pins s σ H R I ⟨ρ,δ,μ,ds,ok,μ',A,by unfold zIg at e;unfold zqs;rw[e1]at e ⊢;exact e,k⟩
  |loc n=>exact z1r h pins s σ H R I ⟨ρ,δ,μ,ds,ok,μ',A,by unfold zIg at e;unfold zqs;rw[e1]at e ⊢;exact e,k⟩
  |_=>unfold zIg at e;rw[e1]at e;cases e
end
def zTn{K:yu}{h:yP}{C:Addr}{bmB:List Value}{newId:String}(X:K.In h)(q:W.excIn K C bmB newId=true) :
 ∃bm N nm qn bs hdct sn sub ab col dd k0 k1 k2 k3 k5 mN,h.get? C=some (xi nm qn C N bs bm hdct sn sub ab col dd k0 k1 k2 k3 k5 newId)/\h.Ns N mN/\mN "__init__" = none/\OwnTail h bmB bm:=by
 unfold W.excIn at q
 split at q
 ·rename_i dd cd sl ho
  split at q
  ·rename_i C' bm k0 k1 k2 k3 n k5 hm hs
   simp only[yE,beq_iff_eq,Bool.not_eq_true']at q;obtain⟨⟨⟨⟨⟨rfl,rfl⟩,hdel⟩,ht⟩,hok⟩,hni⟩:=q;obtain⟨nm,bs,mro,ns,qn,hd,sn,sub,ab,col,del⟩:=cd;dsimp only at hm hdel hok hni;subst hm hdel
   have hsl:sl = #[k0,k1,k2,k3,some (.builtin n),k5]:=by
    obtain⟨l⟩:=sl;simp only at hs;rw[hs]
   subst hsl;exact⟨bm,ns,nm,qn,bs,hd,sn,sub,ab,col,dd,k0,k1,k2,k3,k5,_,X _ _ ho, .of_isNs (W.isNs_of_in X hok),W.nsMap_none_of_in X hok hni,W.tail_of_in X ht⟩
  ·cases q
 ·cases q
section
variable {X:Cx}{e:Expr}{es:List Expr}{pos np cpos:xp}{x:Str}{C:Addr}{B newId initId:String}{bmB:List Value}
@[simp] def zRm(c:Str)(φ:FA):FS:=fun δ μ=>(φ δ μ).bind fun p=>some (.exc c [] p.2)
def zep{φ:FA}(hn:Yh X.K ym x=some (some (.ref C)))(q:W.excIn X.K C bmB newId=true)(FB:ExcBaseFacts B newId initId bmB)(ha:MAn X (e::es) φ)(hl:(e::es).length<=1000:=by decide)(hh:X.calm=true:=by rfl)(hg:Gl X x:=by rfl)
 (he:yf (e::es) X.env=(false,yW e X.env)::yf es X.env:=by exact zZc rfl) (hpl:(yZ cpos (yf es X.env)).any (·.1)=false:=by rfl) (hdb:(x==("__debug__":Str))=false:=by decide) :
 MS X (.Raise (some (.Call (.Name x np) (e::es) [] cpos)) none pos) (zRm x φ):=by
 intro pins s σ H D I ⟨ρ,δ,μ,o,A,eo,k⟩;obtain⟨⟨ds,μ1⟩,e1,eo⟩:=zh eo;cases eo;obtain⟨bm,N,nm,qn,bs,hdct,sn,sub,ab,col,dd,k0,k1,k2,k3,k5,mN,hC,hN,hni,T⟩:=zTn I.mod.kin q
 have hpl':(yZ cpos (yf (e::es) X.env)).any (·.1)=false:=by
  rw[he];show(false||(yZ cpos (yf es X.env)).any (·.1))=false;rw[hpl];rfl
 refine wpAny_Raise_call_subT (C:=C) (nm:=nm) (q:=qn) (N:=N) (bs:=bs) (bm:=bm) (hdct:=hdct) (sn:=sn) (sub:=sub) (ab:=ab) (col:=col) (dd:=dd) (k0:=k0) (k1:=k1) (k2:=k2) (k3:=k3) (k5:=k5)
  FB (mN:=mN) (T.hasType FB.hasBase) (I.ok.hd hh) hpl' hni (zTg I hg (xE I.mod.kin I.mod.glob hn) ⟨rfl,?_⟩ hdb)
 have h:=ha.ma cpos pins s σ H (fun vs H'=>vs.length<=yB/\zjm X (.ref C) none H') I ⟨ρ,δ,μ,ds,μ1,A,e1,fun ρ' H' vs x' R r=>⟨by
  rw[<-r.length,ha.len _ _ _ _ e1];exact YI (small1000 hl),k ρ' H' C none hn x' R (.inl ⟨rfl,rfl⟩)⟩⟩
 rw[he]at h ⊢;refine Calls.evalArgs_plain (yR h (fun us s2 h2=>?_) fun _ _ y=>y);obtain⟨vs,H',I',r,hl,hw⟩:=h2;exact⟨rfl,by rw[<-r.length];exact hl,I'.bk _ _ hC,hN.keeps I'.bk,T.keeps I'.bk,fun h' a hm=>hw pins σ H' s2 (.ref a) _ I' (I'.madeX hm)⟩
end
inductive RO where
 |ok (d:D) (μ:Mem)
 |exc (c:Str) (fs:List (Str×D)) (μ:Mem)
abbrev FX:=List D->Mem->Option RO
def ROk(K:yu)(ρ:List Addr)(H:Hp)(Q:VK)(E:XK):RO->Prop
 |.ok d μ'=>∀ρ' H' v,Ext ρ H ρ' H'->RepH K ρ' H' μ'->RepV K ρ' H' d v->Q v H'
 |.exc c fs μ'=>∀ρ' H' C dx,Yh K ym c=some (some (.ref C))->Ext ρ H ρ' H'->RepH K ρ' H' μ'->RepX K ρ' H' fs dx->E (.ref C) dx H'
def ROk.ext{K:yu}{ρ ρ1:List Addr}{H H1:Hp}{Q:VK}{E:XK}{r:RO}(h:ROk K ρ H Q E r)(x:Ext ρ H ρ1 H1):ROk K ρ1 H1 Q E r:=by
 cases r with
 |ok d μ=>exact fun ρ' H' v x' R r=>h ρ' H' v (x.trans x') R r
 |exc c fs μ=>exact fun ρ' H' C dx hc x' R r=>h ρ' H' C dx hc (x.trans x') R r
def spX(K:yu)(n:Nat)(F:FX):Sp:=fun vs H Q E=>vs.length=n/\∃ρ ds μ r,RepVs K ρ H ds vs/\RepH K ρ H μ/\F ds μ=some r/\ROk K ρ H Q E r
@[simp] def zyy:Option Out->Option RO
 |some (.ret d μ)=>some (.ok d μ)
 |some (.next _ μ)=>some (.ok .non μ)
 |some (.exc c fs μ)=>some (.exc c fs μ)
 |_=>none
def fnX{P:yw}{w:yF}{K:yu}{mg:Str->Option Value}{base:yP}{x qual:Str}{st:Stmt}{f:Addr}{fd:yg}{N ps:List Str}{k n:Nat}{F:FX}(G:Fun K x qual st f fd)(S:FnScope N ps (zp st))(hn:ps.length=n)
 (hbody:∀(cdv:Value)(A:yH)(outer:List Env)(s:yb)(H:Hp)(E:XK),Room k (A.deeper (envOfC qual (zp st) s.heap.objs.size f cdv)) ->
  ∃p,MSs (z0s (CXq P w) P w K mg base N qual (zp st) f cdv A outer s H E) (zHc st) p/\∀ds μ r,ds.length=n->F ds μ=some r->zyy (p (zM N ds) μ)=some r) :
 FnOk P w K mg base (CXq P w) (k+1) f fd ps (spX K n F):=by
 obtain⟨oc,od,kV,doc,pm,an,cdv,ct,osl,rfl,lk,hcd⟩:=G.ex;refine zdx lk hcd S (fun vs H Q E h=>by rw[hn];exact h.1) fun A outer s H vs Q E hr h=>?_;obtain⟨p,hp,hF⟩:=hbody cdv A outer s H E hr;refine⟨_,hp,?_⟩;obtain⟨hl,ρ,ds,μ,r,rv,R,e,hk⟩:=h;have e':=hF ds μ r (by rw[rv.length];exact hl) e
 cases eo:p (zM N ds) μ with
 |none=>rw[eo]at e';cases e'
 |some o=>
  rw[eo]at e';refine⟨ρ,zM N ds,μ,o,zEp rv R,eo,?_⟩
  cases o with
  |ret d2 μ2=>cases e';exact fun ρ' v H' x' R' r'=>hk ρ' H' v x' R' r'
  |next δ2 μ2=>cases e';exact fun ρ' σ' H' x' A'=>hk ρ' H' .non x' A'.hp .non
  |exc c fs μ2=>cases e';exact fun ρ' H' C dx hc x' R' r'=>zJq (hk ρ' H' C dx hc x' R' r')
  |brk _ _=>cases e'
  |cont _ _=>cases e'
section
variable {X:Cx}{e:Expr}{es:List Expr}{pos p spos:xp}{x:Str}{k j n:Nat}{st:Stmt}{f:Addr}{fd:yg}{ps:List Str}{F:FX}{φ:FA}
def passF{P:yw}{w:yF}:zHg (CXq P w) X E0:=fun _ _ _ _ _ _ _ ⟨_,_,_,_,q⟩=>q.elim
@[simp] def zDz:Option RO->Option (D×Mem)
 |some (.ok d μ)=>some (d,μ)
 |_=>none
def zNt{r:Option RO}{d:D}{μ:Mem}(h:zDz r=some (d,μ)):r=some (.ok d μ):=by
 cases r with
 |none=>cases h
 |some r=>cases r<;>cases h;rfl
@[simp] def zvn(F:FX)(φ:FA):FE:=fun δ μ=>(φ δ μ).bind fun p=>zDz (F p.1 p.2)
def tCX(K:PySem.W.Frag)(W:XK)(n:Nat)(F:FX)(φ:FA):TE:=zeq (spX K n F) [] W (tMA K φ)
def z1x{K:PySem.W.Frag}{W:XK}{ρ:List Addr}{δ:Loc}{μ:Mem}{σ:L2.St}{H:Hp}{Q:VK}{ds:List D}{μ1:Mem}{r:RO}(A:At K ρ H σ δ μ)(e1:φ δ μ=some (ds,μ1))(hl:ds.length=n)(e2:F ds μ1=some r)(h:ROk K ρ H Q W r):tCX K W n F φ σ H Q :=
 ⟨ρ,δ,μ,ds,μ1,A,e1,fun ρ1 H1 vs x1 R1 r1=>by
  show spX K n F (vs++[]) H1 Q W;rw[append_nil];exact⟨by rw[<-r1.length];exact hl,ρ1,ds,μ1,r,r1,R1,e2,h.ext x1⟩⟩
@[simp] def zFz(F:FX)(φ:FA)(g:D->Loc->Mem->Out):FS:=fun δ μ=>(φ δ μ).bind fun p=>match F p.1 p.2 with
 |some (.ok d μ')=>some (g d δ μ')
 |some (.exc c fs μ')=>some (.exc c fs μ')
 |none=>none
def zzt{g:D->Loc->Mem->Out}{δ:Loc}{μ:Mem}{o:Out}(h:zFz F φ g δ μ=some o):∃ds μ1 r,φ δ μ=some (ds,μ1)/\F ds μ1=some r/\o=match r with
 |.ok d μ'=>g d δ μ'
 |.exc c fs μ' => .exc c fs μ':=by
 obtain⟨⟨ds,μ1⟩,e1,h⟩:=zh h;refine⟨ds,μ1,?_⟩
 cases e2:F ds μ1 with
 |none=>rw[e2]at h;cases h
 |some r=>
  rw[e2]at h
  cases r with
  |ok d μ'=>cases h;exact⟨_,e1,rfl,rfl⟩
  |exc c fs μ'=>cases h;exact⟨_,e1,rfl,rfl⟩
@[simp] def zPp(F:FX)(φ:FA):FS:=zFz F φ fun _ δ μ => .next δ μ
end
end M
namespace L2
open PySem PySem.Spec PyProof.Rows
section
variable {X:Cx}{pins:List (Addr×YN)}{σ:St}{H:Hp}{s:yb}
def zXl{M:Model}{A:yH}{E:Value->yb->Prop}{i:Nat}{x:Str}{pos:xp}{Q:Unit->yb->Prop}(I:Inv X pins σ H s)(hN:X.N.Nodup)(hi:X.N[i]?=some x)(hk:X.env.scope.names.lookup x=some .local)
 (h:∀s',Inv X pins (σ.set i none) H s'->Q () s'):yn M A (do bindName X.env x .none;unbindBehindTheSuite X.env x pos) Q E s:=by
 obtain⟨m,hn,hl⟩:=id I.loc;have hcls:(X.env.scope.kind == .class||(X.env.scope.kind == .module&&X.env.locals != X.env.globals))=false:=by rw[I.ok.kind];rfl
 have hiσ:i<σ.length:=by rw[I.len];exact(List.getElem?_eq_some_iff.mp hi).1
 refine wpAny_nameGoes_keeps hk hn hcls fun h' v hn' hs=>?_;have old:∀b o,X.s₀.heap.get? b=some o->b≠X.env.locals:=fun b o e=>yz (yv (yj e) I.ok.above)
 have hok:HOk X.prog X.w H h':=fun b ob e=>by
  refine(I.hok b ob e).stay (fun c w' hc q=>(hs.2 c ?_).trans q) (fun _ q=>q) fun _ _ q=>q;rintro rfl;rcases hc with rfl | hc
  ·rw[I.free]at e;cases e
  ·rw[I.free]at hc;cases hc
 refine h _ ⟨I.ok,I.os,I.bare,⟨fun b o e n hb hx=>(hs.2 b (old b o e)).trans (I.base.keep b o e n hb hx),fun b o e n hb hx=>?_,I.base.free,fun b o e hx=>?_,I.base.tups,I.base.frzs,I.base.tbls⟩,⟨_,hn',fun j y v' e1 e2 e3=>?_⟩,fun y c e=>?_,I.free,I.freeC,fun p hp=>?_,hok,by simpa using I.len⟩
 ·obtain⟨sl,e1⟩:=I.base.slot b o e n hb hx;exact⟨sl,(hs.2 b (old b o e)).trans e1⟩
 ·obtain⟨o',e1⟩:=I.base.there b o e hx;exact⟨o',(hs.2 b (old b o e)).trans e1⟩
 ·by_cases hj:j=i
  ·subst hj;rw[yM hiσ]at e2;cases e2
  ·rw[yJ (yN hj)]at e2;obtain⟨u',r',q⟩:=hl j y v' e1 e2 e3;refine⟨u',r',?_⟩;rcases q with ⟨k,e⟩ | ⟨k,c,e,z⟩
   ·refine .inl ⟨k,?_⟩;have:y≠x:=fun e=>hj (zYl hN e1 (e▸hi));simp[this,e]
   ·exact .inr ⟨k,c,e,z.sameBut hs (I.cne y c e)⟩
 ·obtain⟨w',z⟩:=I.cell y c e;exact⟨w',z.sameBut hs (I.cne y c e)⟩
 ·obtain⟨p1,p2,p3,p4,p5⟩:=I.pin p hp;exact⟨(hs.2 p.1 p3).trans p1,p2,p3,p4,p5⟩
abbrev Cx.suite(X:Cx)(v:Value):Cx:={X with A:=X.A.mark (some v),calm:=false,xe:=fun _ _=>False }
def Inv.suite(I:Inv X pins σ H s)(v:Value):Inv (X.suite v) pins σ H s :=
 ⟨⟨I.ok.mod,I.ok.kind,I.ok.glob,I.ok.blt,I.ok.above,I.ok.inj,I.ok.has,I.ok.cab,fun z=>absurd z (by simp),I.ok.frames,I.ok.stk,I.ok.exf,I.ok.bs,I.ok.bsz,I.ok.noex,I.ok.exfs,I.ok.funs,I.ok.frf⟩,
  I.os,I.bare,I.base,I.loc,I.cell,I.free,I.freeC,I.pin,I.hok,I.len⟩
def Inv.unsuite{v:Value}(ok:X.Ok)(I:Inv (X.suite v) pins σ H s):Inv X pins σ H s :=
 ⟨ok,I.os,I.bare,I.base,I.loc,I.cell,I.free,I.freeC,I.pin,I.hok,I.len⟩
def HOk.track{P:yw}{w:yF}{h:yP}{a:Addr}{o:HO}(x:HOk P w H h)(hn:H a=none)(new:ObjOk P w (upd H a o) h a o):HOk P w (upd H a o) h:=fun b u e=>by
 by_cases hb:b=a
 ·subst hb;rw[zu]at e;cases e;exact new
 ·rw[zH hb]at e;exact(x b u e).stay (fun c v _ q=>q) (fun c q=>by rw[zH (zC q hn)];exact q) fun c xs q=>by rw[zH (zC q hn)];exact q
end
section
variable {M:Model}{A:yH}{E:Value->yb->Prop}{h:yP}{g:Array GenState}{d:Drawn}{t:Nat}{os:OsState}
def zKk{nm q:Str}{C N:Addr}{bs bm:List Value}{hdct:Bool}{sn:List Str}{sub:List Value}{ab:Bool}{col:Option Bool}{dd:Option Addr}{k0 k1 k2 k3 k5:Option Value}{newId:String}
 {nm' q':Str} {C' N':Addr} {bs' bm':List Value} {hdct':Bool} {sn':List Str} {sub':List Value} {ab':Bool} {col':Option Bool} {dd':Option Addr} {k0' k1' k2' k3' k5':Option Value} {newId':String} {e:Addr} {oe:YN} {b:Bool} {Q:Bool->yb->Prop}
 (hC:h.get? C=some (xi nm q C N bs bm hdct sn sub ab col dd k0 k1 k2 k3 k5 newId)) (hC':h.get? C'=some (xi nm' q' C' N' bs' bm' hdct' sn' sub' ab' col' dd' k0' k1' k2' k3' k5' newId'))
 (he:h.get? e=some oe) (hcls:oe.cls = .ref C) (hbase:bm'.contains (.type "BaseException")=true) (hb:(yD C::bm).contains (.ref C')=b) (hq:Q b ⟨h,g,d,t,os⟩):yn M A (excMatches (.ref e) (.ref C')) Q E ⟨h,g,d,t,os⟩:=by
 have hcB:(yD C'::bm').contains (.type "BaseException")=true:=by rw[List.contains_cons,hbase,Bool.or_true]
 have f:=tc_notTuple;unfold excMatches
 cases b with
 |true=>
  repeat (first | (with_reducible refine YF he ?_;rw[hcls]) | with_reducible refine YF hC' ?_ | (with_reducible refine xn hC' ?_;rw[hcB]) | (with_reducible refine xn hC ?_;rw[hb]) | wp_step)
  exact hq
 |false=>
  repeat (first | (with_reducible refine YF he ?_;rw[hcls]) | with_reducible refine YF hC' ?_ | (with_reducible refine xn hC' ?_;rw[hcB]) | (with_reducible refine xn hC ?_;rw[hb]) | wp_step)
  exact hq
end
def zjw{K:yu}{h:yP}{C:Addr}{v:Value}{b:Bool}{nm q:Str}{N:Addr}{bs bm:List Value}{hdct:Bool}{sn:List Str}{sub:List Value}{ab:Bool}{col:Option Bool}{dd:Option Addr}{k0 k1 k2 k3 k5:Option Value}{newId:String}(X:K.In h)(e:W.mroIn K C v=some b)
 (hC:h.get? C=some (xi nm q C N bs bm hdct sn sub ab col dd k0 k1 k2 k3 k5 newId)):(yD C::bm).contains v=b:=by
 obtain⟨cd,a,z⟩:=Option.bind_eq_some_iff.mp e;unfold W.clsIn at a
 split at a
 ·rename_i ho
  cases a;have:=X _ _ ho;rw[hC]at this;cases this
  split at z
  ·cases z
  ·cases z;rfl
 ·cases a
end L2
namespace M
open PySem PySem.Spec PyProof.Rows L2
def XP(X:Cx)(pins:List (Addr×YN))(σ:L2.St)(W:XK)(e:Value)(s':yb):Prop:=∃H1 s1 C dx H',Inv X pins σ H1 s1/\FlyX X.prog X.w X.stack H1 s1 C dx H' e s'/\W C dx H'
def PX1(X:Cx)(st:Stmt)(ψ:FS):Prop:=∀(pins:List (Addr×YN)) (s:yb) (σ:L2.St) (H:Hp) (D:Ends) (W:XK),Inv X pins σ H s->tMS X.K W ψ D σ H->yn (yr X.prog X.w) X.A (exec st X.env) (SP X pins D) (XP X pins σ W) s
def PX(X:Cx)(sts:List Stmt)(ψ:FS):Prop:=∀(pins:List (Addr×YN)) (s:yb) (σ:L2.St) (H:Hp) (D:Ends) (W:XK),Inv X pins σ H s->tMS X.K W ψ D σ H->yn (yr X.prog X.w) X.A (execs sts X.env) (SP X pins D) (XP X pins σ W) s
section
variable {X:Cx}{c e:Expr}{es:List Expr}{pos p spos:xp}{x:Str}{k j n:Nat}{st:Stmt}{f:Addr}{fd:yg}{ps:List Str}{F:FX}{φ:FA}
def zOu{ψ:FS}(h:PX1 X st ψ):PX X [st] ψ:=by
 intro pins s σ H D W I q;refine wpAny_execs_cons (thn (h pins s σ H D W I q) fun f s1 q=>?_)
 cases f with
 |next=>exact xP q
 |ret v=>exact q
 |brk=>exact q
 |cont=>exact q
end
abbrev FH:=Str->List (Str×D)->FS
def Cau(X:Cx)(pins:List (Addr×YN))(σ:L2.St)(C:Value)(dx:Option Addr)(H':Hp)(a:Addr)(s':yb):Prop:=∃H1 s1,Inv X pins σ H1 s1/\FlyX X.prog X.w X.stack H1 s1 C dx H' (.ref a) s'
def zhs{P:yw}{w:yF}{outer:List Env}{H H':Hp}{s s':yb}{C:Value}{dx:Option Addr}{a:Addr}{B base h2:yP}(F:FlyX P w outer H s C dx H' (.ref a) s')(c:Cov outer H' s.heap B)(st:B.StaysIn s'.heap)(fl:Fly B outer a C dx h2)(sm:s'.heap.UpToSlots h2)
 (ff:s.heap.FunFrames base outer) (frf:∀b∈frs outer,H b=none):FlyX P w outer H s C dx H' (.ref a) {s' with heap:=h2 } :=
 ⟨F.os,F.bare,zzo F.un c st fl.st sm ff frf,zMm F.hok c st fl.st,a,B,rfl,fl,c⟩
def MH(X:Cx)(hs:List ExceptHandler)(η:FH):Prop :=
 ∀pins σ C c fs dx H' a s' ρ δ μ o D,Cau X pins σ (.ref C) dx H' a s'->Yh X.K ym c=some (some (.ref C))->RepX X.K ρ H' fs dx->At X.K ρ H' σ δ μ->η c fs δ μ=some o->OutOk X.K (zjm X) ρ H' D o ->
  yn (yr X.prog X.w) X.A (handleBy (.ref a) X.env hs) (SP X pins D) X.xe s'
@[simp] def zyw:FH:=fun _ _ _ _=>none
def zmr{X:Cx}{hs:List ExceptHandler}:MH X hs zyw:=fun _ _ _ _ _ _ _ _ _ _ _ _ _ _ _ _ _ _ e _=>by cases e
@[simp] def zvs(p:FS)(η:FH):FS:=fun δ μ=>match p δ μ with
 |some (.exc c fs μ')=>η c fs δ μ'
 |o=>o
def z6u{X:Cx}{body:List Stmt}{h0:ExceptHandler}{hs:List ExceptHandler}{pos:xp}{p:FS}{η:FH}(hb:PX X body p)(hh:MH X (h0::hs) η)(hst:X.stack=X.env::X.outer:=by rfl)(hfm:X.env.frame=some X.env.locals:=by rfl):MS X (.Try body (h0::hs) [] [] pos) (zvs p η):=by
 intro pins s σ H D I ⟨ρ,δ,μ,o,A,eo,kk⟩
 have calm:∀o',p δ μ=some o'->(∀c fs μ',o'≠.exc c fs μ')->yn (yr X.prog X.w) X.A (exec (.Try body (h0::hs) [] [] pos) X.env) (SP X pins D) X.xe s:=fun o' ep hne=>by
  have eo':o'=o:=by
   unfold zvs at eo;rw[ep]at eo
   cases o' with
   |exc c fs μ'=>exact absurd rfl (hne c fs μ')
   |next _ _=>cases eo;rfl
   |ret _ _=>cases eo;rfl
   |brk _ _=>cases eo;rfl
   |cont _ _=>cases eo;rfl
  subst eo';refine wpAny_Try_except (yR (hb pins s σ H D E0 I ⟨ρ,δ,μ,o',A,ep,?_⟩) (fun fl s1 q=>?_) fun e s1 ⟨_,_,_,_,_,_,_,z⟩=>z.elim)
  ·cases o' with
   |exc c fs μ'=>exact absurd rfl (hne c fs μ')
   |next _ _=>exact kk
   |ret _ _=>exact kk
   |brk _ _=>exact kk
   |cont _ _=>exact kk
  ·cases fl with
   |next=>exact xP q
   |ret v=>exact q
   |brk=>exact q
   |cont=>exact q
 cases ep:p δ μ with
 |none=>unfold zvs at eo;rw[ep]at eo;cases eo
 |some o'=>
  cases o' with
  |next _ _=>exact calm _ ep (by intros;simp)
  |ret _ _=>exact calm _ ep (by intros;simp)
  |brk _ _=>exact calm _ ep (by intros;simp)
  |cont _ _=>exact calm _ ep (by intros;simp)
  |exc c fs μ'=>
   have eo:η c fs δ μ'=some o:=by unfold zvs at eo;rw[ep]at eo;exact eo
   refine wpAny_Try_except (yR (hb pins s σ H {nx:=fun _ _=>False,rt:=fun _ _=>False } (fun Cv dx H'=>∃C ρ',Cv = .ref C/\Yh X.K ym c=some (some (.ref C))/\Ext ρ H ρ' H'/\RepH X.K ρ' H' μ'/\RepX X.K ρ' H' fs dx) I
    ⟨ρ,δ,μ,_,A,ep,fun ρ' H' C dx hc x' R r=>⟨C,ρ',rfl,hc,x',R,r⟩⟩) (fun fl s1 q=>?_) fun e s1 q=>?_)
   ·cases fl with
    |next=>obtain⟨_,_,_,z⟩:=q;exact z.elim
    |ret v=>obtain⟨_,_,_,_,_,z⟩:=q;exact z.elim
    |brk=>obtain⟨_,_,_,z⟩:=q;exact z.elim
    |cont=>obtain⟨_,_,_,z⟩:=q;exact z.elim
   ·obtain⟨H1,s2,Cv,dx,H',I1,F,C,ρ',rfl,hc,x',R,rX⟩:=q;obtain⟨a,B,rfl,fl,cov⟩:=F.fly;have fl':Fly B (X.env::X.outer) a (.ref C) dx s1.heap:=by rw[<-hst];exact fl
    have hfr:X.A.frames=some (X.env::X.outer):=by rw[<-hst];exact I.ok.frames
    refine zRj hfr hfm fl' fun h2 fl2 sm2=>zLg (s:={s1 with heap:=h2 }) fl2 fun h3 fl3 sm3=>?_;rw[<-hst]at fl3;exact hh pins σ C c fs dx H' a {s1 with heap:=h3 } ρ' δ μ' o D ⟨H1,s2,I1,zhs (h2:=h3) F cov fl.st fl3 (sm2.trans sm3) I1.stack I1.stkFree⟩ hc rX (A.ext x' R) eo (kk.ext x')
@[simp] def behind(i:Nat):Option Out->Option Out
 |some (.next δ μ)=>some (.next (δ.set i none) μ)
 |some (.ret d μ)=>some (.ret d μ)
 |some (.brk δ μ)=>some (.brk (δ.set i none) μ)
 |some (.cont δ μ)=>some (.cont (δ.set i none) μ)
 |_=>none
@[simp] def hAs(i:Nat)(tb:List (Str×Bool))(q:FS)(η:FH):FH:=fun c fs δ μ=>match tb.lookup c with
 |some true=>behind i (q (δ.set i (some (.loc μ.length))) (μ++[.exc c fs]))
 |some false=>η c fs δ μ
 |none=>none
def Subs(K:yu)(D0:Addr)(tb:List (Str×Bool)):Prop:=∀c b,tb.lookup c=some b->∀C,Yh K ym c=some (some (.ref C))->W.ktsIn K C "BaseException" = true/\W.mroIn K C (.ref D0)=some b
def At.unset{K:yu}{ρ:List Addr}{H:Hp}{σ:L2.St}{δ:Loc}{μ:Mem}(A:At K ρ H σ δ μ)(i:Nat):At K ρ H (σ.set i none) (δ.set i none) μ:=by
 refine⟨fun j d' e=>?_,A.hp,by simp[A.len]⟩
 by_cases hj:j=i
 ·subst hj
  have hl:j<δ.length:=by
   have:=(List.getElem?_eq_some_iff.mp e).1;simpa using this
  rw[yM hl]at e;cases e
 ·rw[yJ (yN hj)]at e;obtain⟨u,e1,q⟩:=A.st j d' e;exact⟨u,by rw[yJ (yN hj)];exact e1,q⟩
def zVx{X:Cx}{d n:Str}{D0:Addr}{b0:Stmt}{suite:List Stmt}{pos np:xp}{rest:List ExceptHandler}{q:FS}{η:FH}(i:Nat)(tb:List (Str×Bool))(hd:Yh X.K ym d=some (some (.ref D0)))(hk:W.ktsIn X.K D0 "BaseException" = true)(ht:Subs X.K D0 tb)
 (hq:∀v,MSs (X.suite v) (b0::suite) q) (hr:MH X rest η) (hg:Gl X d:=by rfl) (hN:X.N.Nodup:=by first | assumption | decide) (hi:X.N[i]?=some n:=by rfl) (hl:X.env.scope.names.lookup n=some .local:=by rfl) (hdb:(d==("__debug__":Str))=false:=by decide) :
 MH X (.ExceptHandler (some (.Name d np)) (some n) (b0::suite) pos::rest) (hAs i tb q η):=by
 intro pins σ C c fs dx H' a s' ρ δ μ o D hcau hc hX A eo kk;obtain⟨H1,s1,I1,F⟩:=hcau;obtain⟨a',B,ea,fl,cov⟩:=F.fly;cases ea;have J:Inv X pins σ H' s':=I1.fly F cov fl.st fl.st (.refl _);obtain⟨oe,vs,y,he,hcl,hdx,hfd,h1,tr⟩:=fl.ob
 cases hb:tb.lookup c with
 |none=>unfold hAs at eo;rw[hb]at eo;cases eo
 |some b=>
  obtain⟨kC,mC⟩:=ht c b hb C hc;obtain⟨nm,qn,N,bs,bm,hdct,sn,sub,ab,col,dd,k0,k1,k2,k3,k5,newId,hC,_,_⟩:=W.kts_cls J.kIn kC;obtain⟨nm',qn',N',bs',bm',hdct',sn',sub',ab',col',dd',k0',k1',k2',k3',k5',newId',hC',hbase',_⟩:=W.kts_cls J.kIn hk;refine wpAny_handleBy_cons (codeAny_handlers_test (zTg (X:=X.suite (.ref a)) (J.suite (.ref a)) hg (xE J.mod.kin J.mod.glob hd) ?_ hdb)) (by intro z;cases z);obtain⟨hh,g,dr,tk,os⟩:=s';refine zKk hC hC' he hcl hbase' (zjw J.kIn mC hC) ?_
  cases b with
  |false=>
   unfold hAs at eo;rw[hb]at eo;exact hr pins σ C c fs dx H' a _ ρ δ μ o D ⟨H1,s1,I1,F⟩ hc hX A eo kk
  |true=>
   unfold hAs at eo;rw[hb]at eo;refine codeAny_handlers_suite_as (zLg (s:=⟨hh,g,dr,tk,os⟩) fl fun h2 fl2 sm2=>?_)
   have hna:H' a=none:=by
    cases z:H' a with
    |none=>rfl
    |some u=>obtain⟨w,hw⟩:=cov.tr a u z;rw[fl.new]at hw;cases hw
   have hold:∀b o,s1.heap.get? b=some o->b≠a:=fun b o ho z=>by
    subst z
    by_cases hm:b∈frs X.stack
    ·obtain⟨_,o',ho',hnf⟩:=fl.ff.mem hm;rw[he]at ho';cases ho';exact hnf _ hfd
    ·obtain⟨w,hw⟩:=cov.old b o ho hm;rw[fl.new]at hw;cases hw
   have u2:=zzo F.un cov fl.st fl2.st sm2 I1.stack I1.stkFree;have ok2:=zMm F.hok cov fl.st fl2.st;obtain⟨oe2,vs2,y2,he2,hcl2,hdx2,hfd2,_,_⟩:=fl2.ob
   have J3:Inv X pins σ (upd H' a (.ext (zgq a C dx))) ⟨h2,g,dr,tk,os⟩:=by
    refine I1.call' (s':=⟨h2,g,dr,tk,os⟩) (ch:=[]) F.os ⟨u2.keep,u2.slot,fun b o e1 e2 e3=>?_,u2.there,fun b xs z=>?_,fun b ob u z=>?_,fun b ps z=>?_⟩ (ok2.track hna ⟨⟨oe2,vs2,he2,hcl2,hdx2,hfd2⟩,⟨_,he2⟩,fun x1 x2 z1 z2=>?_⟩) F.bare fun b z=>absurd z (by simp)
    ·rw[zH (hold b o e1)];exact u2.free b o e1 e2 e3
    ·have:=u2.tups b xs z;rw[zH (zC this hna)];exact this
    ·have:=u2.frzs b ob u z;rw[zH (zC this hna)];exact this
    ·obtain⟨m,this⟩:=u2.tbls b ps z;exact⟨m,by rw[zH (zC this hna)];exact this⟩
    ·obtain⟨o1,v1,w1,w2⟩:=z1;exact⟨o1,v1,z2 _ w1,w2⟩
   refine z6i (X:=X.suite (.ref a)) (v := .ref a) (u := .ref a) (J3.suite (.ref a)) hN hi (.inl hl) rfl (fun s3 I3=>?_) (.inr hl)
   have A3:At X.K (ρ++[a]) (upd H' a (.ext (zgq a C dx))) (σ.set i (some (.ref a))) (δ.set i (some (.loc μ.length))) (μ++[.exc c fs]) :=
    (A.ext (Ext.push hna) (A.hp.push (o := .ext (zgq a C dx)) (lo := .exc c fs) hna ⟨C,dx,hc,zu,hX.ext (Ext.push hna)⟩)).set (.loc (zEb A.hp)) i
   cases eq:q (δ.set i (some (.loc μ.length))) (μ++[.exc c fs]) with
   |none=>rw[eq]at eo;cases eo
   |some o'=>
    rw[eq]at eo;have kk':=kk.ext (Ext.push (o := .ext (zgq a C dx)) hna);refine yR (hq (.ref a) pins s3 _ _ {nx:=fun σ' H2=>D.nx (σ'.set i none) H2,rt:=D.rt,bk:=fun σ' H2=>D.bk (σ'.set i none) H2,ct:=fun σ' H2=>D.ct (σ'.set i none) H2 } I3 ⟨_,_,_,o',A3,eq,?_⟩) (fun f4 s4 hs4=>?_) fun _ _ z=>z.elim
    ·cases o' with
     |next δ' μ'=>cases eo;exact fun ρ' σ' H2 x2 A2=>kk' ρ' _ H2 x2 (A2.unset i)
     |brk δ' μ'=>cases eo;exact fun ρ' σ' H2 x2 A2=>kk' ρ' _ H2 x2 (A2.unset i)
     |cont δ' μ'=>cases eo;exact fun ρ' σ' H2 x2 A2=>kk' ρ' _ H2 x2 (A2.unset i)
     |ret d' μ'=>cases eo;exact kk'
     |exc _ _ _=>cases eo
    ·cases f4 with
     |next=>obtain⟨σ4,H4,I4,z⟩:=hs4;exact zXl (I4.unsuite J.ok) hN hi hl fun s5 I5=>⟨_,H4,I5,z⟩
     |brk=>obtain⟨σ4,H4,I4,z⟩:=hs4;exact zXl (I4.unsuite J.ok) hN hi hl fun s5 I5=>⟨_,H4,I5,z⟩
     |cont=>obtain⟨σ4,H4,I4,z⟩:=hs4;exact zXl (I4.unsuite J.ok) hN hi hl fun s5 I5=>⟨_,H4,I5,z⟩
     |ret u=>obtain⟨v4,σ4,H4,I4,r4,z⟩:=hs4;exact zXl (I4.unsuite J.ok) hN hi hl fun s5 I5=>⟨v4,_,H4,I5,r4,z⟩
end M
namespace PySem.W
open PySem PySem.Spec PySem.Calls PyProof.Rows
structure AskC(K:Frag)(C:Addr):Prop where
 cl:(clsIn K C).isSome=true
 ga:findIn K (.ref C) "__getattribute__" = some (some (.builtin "BaseException.__getattribute__"))
 gk:findIn K (.ref C) "__getattr__" = some none
 be:mroIn K C (.type "BaseException")=some true
 ha:findIn K (.ref C) "__class__" = some (some (.builtin "object.__class__"))
 hn:specialIn K (.builtin "object.__class__") "__get__" = some (some (.builtin "getset_descriptor.__get__"))
 tk:takesIn K (.builtin "object.__class__")=some true
 hm:mroIn K C (.type "object")=some true
section
variable {prog:yw}{w:yF}{A:yH}{E:Value->yb->Prop}{s:yb}{K:Frag}{x D:Addr}{ox:YN}{odo:Option YN}
def zYr{M:Model}{nameV:Value}{Q:Unit->yb->Prop}(X:K.In s.heap)(I:InstAt s.heap x ox D odo)(c:AskC K D)(hq:Q () s):yn M A (checkBuiltinCall "BaseException.__getattribute__" ⟨[.ref x,nameV],[]⟩) Q E s:=by
 have hk:builtinKind "BaseException.__getattribute__" = some .slot:=by decide +kernel
 have hsplit:splitId "BaseException.__getattribute__" = some ("BaseException","__getattribute__"):=by decide +kernel
 have ha:=F.args_bexc_ga (.ref x) nameV;have L0:=I.type (M:=M);have L1:=looks_mroIn (M:=M) X c.be;obtain⟨hh,g,d,t,os⟩:=s;simp only[checkBuiltinCall,hk,hsplit];refine ya ?_
 ·unfold isInstance
  repeat (first | with_reducible refine L0.at ?_ | with_reducible refine L1.at ?_ | wp_step)
  exact hq
end
end PySem.W
namespace M
open PySem PySem.Spec PyProof.Rows L2
section
variable {X:Cx}
inductive CN where
 |own (c:Str)
 |ty (n:String)
 deriving DecidableEq
abbrev Kit:=List ((Option Str×CN)×Bool)
def zxz(K:yu):CN->Value->Prop
 |.own d,v=>∃a,Yh K ym d=some (some (.ref a))/\v = .ref a
 |.ty n,v=>v = .type n
structure KitOk(K:yu)(tb:Kit):Prop where
 non:∀d b v,tb.lookup (none,d)=some b->zxz K d v->W.kitOne K (.type "NoneType") v=some b
 ask:∀c d b,tb.lookup (some c,d)=some b->∀C,Yh K ym c=some (some (.ref C))->W.AskC K C
 exc:∀c d b v,tb.lookup (some c,d)=some b->zxz K d v->∀C,Yh K ym c=some (some (.ref C))->W.kitOne K (.ref C) v=some b
end
section
variable {K:yu}{D0:Addr}{tb:List (Str×Bool)}{kt:Kit}
def Subs.nil:Subs K D0 []:=fun c b h=>by cases h
def Subs.cons{c:Str}{C:Addr}{b:Bool}(hc:Yh K ym c=some (some (.ref C)))(k:W.ktsIn K C "BaseException" = true)(m:W.mroIn K C (.ref D0)=some b)(r:Subs K D0 tb):Subs K D0 ((c,b)::tb):=fun c' b' h C' hC'=>by
 unfold YE at h
 split at h
 ·rename_i e
  cases h;rw[beq_iff_eq.mp e,hc]at hC';cases hC';exact⟨k,m⟩
 ·exact r c' b' h C' hC'
end
structure MSsl(X:Cx)(sts:List Stmt)(ψ:FS):Prop where
 h:MSs X sts ψ
end M
namespace PySem
open Sem (wp)
section
variable {prog:yw}{w:yF}{A:yH}{E:Value->yb->Prop}{h:yP}{g:Array GenState}{d:Drawn}{t:Nat}{os:OsState}
variable {nm q:Str}{C N fI:Addr}{bs bm bmB:List Value}{hdct:Bool}{sn:List Str}{sub:List Value}{ab:Bool}{col:Option Bool}{dd:Option Addr}{k0 k1 k2 k3 k5:Option Value}{B newId initId:String}
abbrev zBg(h:yP)(C:Addr)(rest:List Value):yP:=(h.push {cls := .type "tuple",data := .seq rest.toArray }).push {cls := .ref C,data := .fields #[.ref h.objs.size, .none, .none, .none, .bool false, .none]}
def zVh(F:ExcBaseFacts B newId initId bmB)(T:OwnTail h bmB bm){rest:List Value}{Q:Fin->yb->Prop}
 (hC:h.get? C=some (xi nm q C N bs bm hdct sn sub ab col dd k0 k1 k2 k3 k5 newId)) (L:W.Looks (yr prog w) h (typeLookup (.ref C) "__init__") (some (.ref fI))) (LB:∀self,W.Looks (yr prog w) h (bindSpecial (.ref fI) self) (.ref fI,[self]))
 (hq:yn (yr prog w) A (call (.ref fI) (.ref (h.objs.size+1)::rest)) (fun v s'=>v = .none/\Q (.done (.ret (.ref (h.objs.size+1)))) s') E ⟨zBg h C rest,g,d,t,os⟩) (hrest:rest.length<=yB:=by size_fits) :
 yn (yr prog w) A (xy.«type.__call__» ⟨.ref C::rest,[]⟩) Q E ⟨h,g,d,t,os⟩:=by
 repeat (first | with_reducible refine YF hC ?_ | with_reducible refine wpAny_madeBy_exc hC ?_ | wp_step)
 refine codeAny_call_builtin_code (Code.quiet_builtin _ F.quiet) (wpAny_check_new_subT F T hC ?_);refine codeAny_exc_new_subT F T hC ?_ hrest;show yn _ _ _ _ _ _;have k:∀b o,h.get? b=some o->(zBg h C rest).get? b=some o:=fun b o e=>yd _ (yd _ e);have hC₁:=k _ _ hC;have hget:(zBg h C rest).get? (h.objs.size+1)=some {cls := .ref C,data := .fields #[.ref h.objs.size, .none, .none, .none, .bool false, .none]}:=by heap_get
 have hcC:(yD C::bm).contains (.ref C)=true:=by simp
 have T₁:=T.keeps k;unfold isInstance
 repeat (first | with_reducible refine YF hget ?_ | (with_reducible refine xn hC₁ ?_;rw[hcC]) | wp_step)
 show yn _ _ (typeLookup (.ref C) _) _ _ _;refine L _ _ _ _ k ?_;refine Yg (ya (LB _ _ _ _ _ k ?_));refine ya (yR hq (fun v s' hv=>?_) fun _ _ x=>x);obtain⟨rfl,hv⟩:=hv
 repeat wp_step
 exact hv
def zDm(F:ExcBaseFacts B newId initId bmB)(T:OwnTail h bmB bm){rest:List Value}{Q:Value->yb->Prop}
 (hC:h.get? C=some (xi nm q C N bs bm hdct sn sub ab col dd k0 k1 k2 k3 k5 newId)) (L:W.Looks (yr prog w) h (typeLookup (.ref C) "__init__") (some (.ref fI))) (LB:∀self,W.Looks (yr prog w) h (bindSpecial (.ref fI) self) (.ref fI,[self]))
 (hq:yn (yr prog w) (A.under (.builtin "type.__call__" ⟨.ref C::rest,[]⟩)) (call (.ref fI) (.ref (h.objs.size+1)::rest)) (fun v s'=>v = .none/\Q (.ref (h.objs.size+1)) s') E ⟨zBg h C rest,g,d,t,os⟩) (hrest:rest.length<=yB:=by size_fits) :
 yn (yr prog w) A (call (.ref C) rest) Q E ⟨h,g,d,t,os⟩:=by
 have f1:=tc_lookup;have f2:=tc_bind (.ref C);have hT:(⟨h,g,d,t,os⟩:yb).TypeIs (.ref C) "type":=⟨_,hC,rfl⟩
 refine wpAny_call (codeAny_of_tree ?_);show yn _ _ (callAny (.ref C) _) _ _ _
 repeat (any_goals (first | assumption | with_reducible refine YF hC ?_ | wp_step))
 refine⟨rfl,?_⟩;refine codeAny_call_builtin_at (Code.quiet_builtin _ (by decide +kernel)) entry_typeCall (wpAny_check_type_call_sub hC (zVh (hrest:=hrest) F T hC L LB ?_));exact hq
def zDf{M:Model}{s:yb}{env:Env}{x:Sem Value}{Q:Flow->yb->Prop}(hbase:bm.contains (.type "BaseException")=true)(hh:A.handled=none)
 (h:yn M A x (fun v s₁=>∃e de te,v = .ref e/\s₁.heap.get? C=some (xi nm q C N bs bm hdct sn sub ab col dd k0 k1 k2 k3 k5 newId)/\s₁.heap.get? e=some {cls := .ref C,dict:=de,data := .fields #[.ref te, .none, .none, .none, .bool false, .none]}/\E (.ref e) s₁) E s) :
 yn M A (raiseStmt env (some x) none) Q E s:=by
 have hcB:(yD C::bm).contains (.type "BaseException")=true:=by rw[List.contains_cons,hbase,Bool.or_true]
 unfold raiseStmt;refine ya (yR h (fun v s₁ h₁=>?_) fun _ _ x=>x);obtain⟨e,de,te,rfl,hC,he,hE⟩:=h₁;obtain⟨hp,g,d,tk,os⟩:=s₁
 repeat (first | with_reducible refine YF he ?_ | with_reducible refine YF hC ?_ | (with_reducible refine xn hC ?_;rw[hcB]) | wp_step)
 exact wpAny_raiseNew_none hh hE
end
section
variable {prog:yw}{w:yF}{A:yH}{E:Value->yb->Prop}{s:yb}{env:Env}
variable {nm q:Str}{C N fI:Addr}{bs bm bmB:List Value}{hdct:Bool}{sn:List Str}{sub:List Value}{ab:Bool}{col:Option Bool}{dd:Option Addr}{k0 k1 k2 k3 k5:Option Value}{B newId initId:String}
def zYj(F:ExcBaseFacts B newId initId bmB){x:Str}{np cpos pos:xp}{args:List Expr}{Q:Flow->yb->Prop}
 (hbase:bm.contains (.type "BaseException")=true) (hh:A.handled=none) (hplain:(yZ cpos (yf args env)).any (·.1)=false)
 (h:yn (yr prog w) A (yW (.Name x np) env) (fun f s₁=>f = .ref C/\yn (yr prog w) A (evalArgs (.ref C) true (yZ cpos (yf args env)) [])
  (fun a s₂=>a.kw=[]/\a.pos.length<=yB/\s₂.heap.get? C=some (xi nm q C N bs bm hdct sn sub ab col dd k0 k1 k2 k3 k5 newId)/\W.Looks (yr prog w) s₂.heap (typeLookup (.ref C) "__init__") (some (.ref fI))/\OwnTail s₂.heap bmB bm/\(∀self,W.Looks (yr prog w) s₂.heap (bindSpecial (.ref fI) self) (.ref fI,[self])) /\
   yn (yr prog w) (A.under (.builtin "type.__call__" ⟨.ref C::a.pos,[]⟩)) (call (.ref fI) (.ref (s₂.heap.objs.size+1)::a.pos)) (fun v s₃=>v = .none/\s₃.heap.get? C=some (xi nm q C N bs bm hdct sn sub ab col dd k0 k1 k2 k3 k5 newId) /\
    (∃de te,s₃.heap.get? (s₂.heap.objs.size+1)=some {cls := .ref C,dict:=de,data := .fields #[.ref te, .none, .none, .none, .bool false, .none]})/\E (.ref (s₂.heap.objs.size+1)) s₃) E {s₂ with heap:=zBg s₂.heap C a.pos }) E s₁) E s) :
 yn (yr prog w) A (exec (.Raise (some (.Call (.Name x np) args [] cpos)) none pos) env) Q E s:=by
 rw[arm_exec_Raise]
 first
  |refine ya (xb (zDf (C:=C) (nm:=nm) (q:=q) (N:=N) (bs:=bs) (bm:=bm) (hdct:=hdct) (sn:=sn) (sub:=sub) (ab:=ab) (col:=col) (dd:=dd) (k0:=k0) (k1:=k1) (k2:=k2) (k3:=k3) (k5:=k5) (newId:=newId) hbase hh (ya (yR (wpAny_Call_ofName (yR h (fun f s₁ h₁=>?_) fun _ _ x=>x)) (fun v s₃ h₃=>ya (xb (ye h₃))) fun _ _ x=>x))))
  |(simp only[evalOpt,Option.map];refine ya (xb (zDf (C:=C) (nm:=nm) (q:=q) (N:=N) (bs:=bs) (bm:=bm) (hdct:=hdct) (sn:=sn) (sub:=sub) (ab:=ab) (col:=col) (dd:=dd) (k0:=k0) (k1:=k1) (k2:=k2) (k3:=k3) (k5:=k5) (newId:=newId) hbase hh (ya (yR (wpAny_Call_ofName (yR h (fun f s₁ h₁=>?_) fun _ _ x=>x)) (fun v s₃ h₃=>ya (xb (ye h₃))) fun _ _ x=>x)))))
  |(refine ya (xb (zDf (C:=C) (nm:=nm) (q:=q) (N:=N) (bs:=bs) (bm:=bm) (hdct:=hdct) (sn:=sn) (sub:=sub) (ab:=ab) (col:=col) (dd:=dd) (k0:=k0) (k1:=k1) (k2:=k2) (k3:=k3) (k5:=k5) (newId:=newId) hbase hh ?_));refine ya (yR (wpAny_Call_ofName (yR h (fun f s₁ h₁=>?_) fun _ _ x=>x)) (fun v s₃ h₃=>ya (xb (ye h₃))) fun _ _ x=>x))
 obtain⟨rfl,h₁⟩:=h₁;unfold callWith;refine ya (Yg (yR h₁ (fun a s₂ h₂=>ya (xb ?_)) fun _ _ x=>x));obtain⟨apos,akw⟩:=a;obtain⟨hkw,hlen,hC,L,T,LB,h₂⟩:=h₂;obtain rfl:akw=[]:=hkw;obtain⟨hp,g,d,tk,os⟩:=s₂;simp only[hplain];refine ya (wpAny_keeperOf_exc hC ?_);refine ya (zDm (hrest:=hlen) F T hC L LB ?_);refine yR h₂ (fun v s₃ h₃=>?_) fun _ _ x=>x;obtain⟨rfl,hC3,⟨de,te,he⟩,hE⟩:=h₃;exact⟨rfl,ya (Yg (wpAny_point (ye ⟨_,de,te,rfl,hC3,he,hE⟩)))⟩
end
end PySem
namespace PySem
open Sem (wp)
section
variable {prog:yw}{w:yF}{A:yH}{E:Value->yb->Prop}{h:yP}{g:Array GenState}{d:Drawn}{t:Nat}{os:OsState}
variable {nm q:Str}{C N:Addr}{bs bm bmB:List Value}{hdct:Bool}{sn:List Str}{sub:List Value}{ab:Bool}{col:Option Bool}{dd:Option Addr}{k0 k1 k2 k3 k5:Option Value}{B newId initId:String}
def zus(F:ExcBaseFacts B newId initId bmB)(T:OwnTail h bmB bm){e te:Addr}{de:Option Addr}{rest:List Value}{Q:Value->yb->Prop}
 (hC:h.get? C=some (xi nm q C N bs bm hdct sn sub ab col dd k0 k1 k2 k3 k5 newId)) (he:h.get? e=some {cls := .ref C,dict:=de,data := .fields #[.ref te, .none, .none, .none, .bool false, .none]})
 (hq:∀h',(∀b o,b≠e->h.get? b=some o->h'.get? b=some o)->h'.get? e=some {cls := .ref C,dict:=de,data := .fields #[.ref h.objs.size, .none, .none, .none, .bool false, .none]}->h.objs.size<=h'.objs.size->Q .none ⟨h',g,d,t,os⟩) (hrest:rest.length<=yB:=by size_fits) :
 yn (yr prog w) A (call (.builtin initId) (.ref e::rest)) Q E ⟨h,g,d,t,os⟩:=by
 refine wpAny_call (Xj F.init.plain F.initEntry (wpAny_check_init_subT F T hC he rfl ?_))
 wp_walk
 refine hq _ (fun b o hb eb=>?_) ?_ ?_
 ·rw[yY _ _ (yN hb)];exact yd _ eb
 ·rw[yI _ (yd _ he) rfl];rfl
 ·simp
end
end PySem
namespace PySem.W
open PySem PySem.Spec PySem.Calls PyProof.Rows
open Builtin Builtin.ObjectAttr
abbrev bmV:List Value:=[.type "ValueError", .type "Exception", .type "BaseException", .type "object"]
def dropRefs:List Value->List Value
 |.ref _::r=>dropRefs r
 |l=>l
def z9q{v:Value}{r:List Value}(q:¬∃c,v = .ref c):dropRefs (v::r)=v::r:=by
 unfold dropRefs
 split
 ·rename_i z;cases z;exact absurd ⟨_,rfl⟩ q
 ·rfl
def zLl(self:Value):∀{l:List Value},dropRefs l=bmV->refuseLoop self "__setattr__" l=pure ()
 |[],h=>by cases h
 |v::r,h=>by
  by_cases q:∃c,v = .ref c
  ·obtain⟨c,rfl⟩:=q;rw[refuseLoop_ref];exact zLl self (l:=r) h
  ·rw[z9q q]at h;rw[h];exact PySem.F.store_ValueError.passes self
def zsp:∀{l:List Value},dropRefs l=bmV->l.contains (.type "object")=true/\l.isEmpty=false
 |[],h=>by cases h
 |v::r,h=>by
  refine⟨?_,rfl⟩
  by_cases q:∃c,v = .ref c
  ·obtain⟨c,rfl⟩:=q;rw[List.contains_cons,(zsp (l:=r) h).1,Bool.or_true]
  ·rw[z9q q]at h;rw[h];decide
section
variable {prog:yw}{w:yF}{A:yH}{E:Value->yb->Prop}{s:yb}{K:Frag}{x C:Addr}{ox:YN}{name:Str}{v:Value}{cd:ClassData}
def zlw{R:Result->yb->Prop}{od:Option YN}{tk:Tok}(X:K.In s.heap)(I:InstAt s.heap x ox C od)(hc:clsIn K C=some cd)(ho:dropRefs cd.mro=bmV)(ha:findIn K (.ref C) name=some none)
 (h:yn (yr prog w) A.in1 (storeInOwnDict (.ref x) (.ref C) (.str name tk) name v false)
  (fun fin s'=>match fin with | .done f=>R (.ok f) s' | .again c'=>c'.quiet=true/\Xc (yr prog w) A c' R s') (fun e s'=>R (.error e) s') s) :
 Xc (yr prog w) A (.call (.builtin "object.__setattr__") ⟨[.ref x, .str name tk,v],[]⟩) R s:=by
 have SF:=PySem.F.store_object;obtain⟨h1,h2⟩:=zsp ho;have sub:Looks (yr prog w) s.heap (isInstance (.ref x) (.type "object")) true:=I.type.andThen (looks_mroIn X (by unfold mroIn;rw[hc,yk,if_neg (by rw[h2];decide),h1]));refine Xj SF.slot.plain SF.entry (@check_slot (yr prog w) _ _ s "object.__setattr__" "object" "__setattr__" (.ref x) [.str name tk,v] [] _ SF.kind SF.split sub (SF.args (.ref x) (.str name tk) v) ?_);have hm:Looks (yr prog w) s.heap (mroOf (.ref C)) cd.mro:=(looks_clsIn X hc).andThen .now;rw[osa_eq,refuse_eq];refine ya (ya (I.type.here (ya (hm.here ?_))));rw[zLl _ ho];refine ye (ya (I.type.here (ya ((looks_findIn X ha).here (ya (ye (a:=none) ?_))))));exact h
def set_exc{Q:Unit->yb->Prop}{vs:Array Value}(X:K.In s.heap)(I:InstAt s.heap x ox C none)(hdt:ox.data = .fields vs)
 (hs:findIn K (.ref C) "__setattr__" = some (some (.builtin "object.__setattr__"))) (hc:clsIn K C=some cd) (ho:dropRefs cd.mro=bmV) (hd:cd.hasDict=true) (ha:findIn K (.ref C) name=some none)
 (h:∀(h':yP)(p:Addr)(tk:Nat),h'.get? x=some {ox with dict:=some p }->h'.Ns1 p (fun y=>if y=name then some v else none)->s.heap.objs.size<=p->(∀b o,b≠x->s.heap.get? b=some o->h'.get? b=some o)->Q () {s with heap:=h',toks:=tk }) :
 yn (yr prog w) A (setAttr (.ref x) name v) Q E s:=by
 obtain⟨hx,hcl,hno,hdd⟩:=id I;obtain⟨oc,odi,oda,osl⟩:=ox;dsimp only at hcl hdt;subst hcl hdt
 cases odi with
 |some dx=>exact hdd.elim
 |none=>
  refine set_plain X I hs (zlw (s:={s with toks:=s.toks+1 }) X I hc ho ha ?_);refine ya (ye (ya (ya (wpAny_loadPart hx (ya (Looks.here (s:={s with toks:=s.toks+1 }) (looks_clsIn X hc) ?_))))));rw[hd];have hx₁:(s.heap.push {cls := .type "dict",data := .dict #[]}).get? x=some ⟨.ref C,none, .fields vs,osl⟩:=yd _ hx;have hxs:x≠s.heap.objs.size:=yz (yj hx);refine ya (wpAny_alloc' ?_);refine ya (wpAny_update' hx₁ ?_);refine ye (a:=some s.heap.objs.size) ?_
  have hgd:((s.heap.push {cls := .type "dict",data := .dict #[]}).update x fun o=>{cls:=o.cls,dict:=some s.heap.objs.size,data:=o.data,slots:=o.slots }).get? s.heap.objs.size
   = some {cls := .type "dict",data := .dict #[]} :=
   (Heap.get?_update_ne _ _ _ _ hxs.symm).trans (Heap.get?_push_at rfl rfl)
  have hnd:((s.heap.push {cls := .type "dict",data := .dict #[]}).update x fun o=>{cls:=o.cls,dict:=some s.heap.objs.size,data:=o.data,slots:=o.slots }).Ns s.heap.objs.size (fun _=>none) :=
   ⟨_,#[],_,hgd,rfl,fun e he=>absurd he (by simp),fun _=>rfl⟩
  show yn _ _ (storeInDict s.heap.objs.size (.str name _) name v) _ _ _;unfold storeInDict newKeyGuard;refine ya (ye (ya (wpAny_nsSet1 (Heap.Ns1.of_empty hnd) fun h' hn' hs'=>?_)));obtain⟨oD,esD,epD,hoD,hdD,hcD⟩:=hn'.count (Within.cons name v Within.nil);refine ya (wpAny_lookBehind hoD (by rw[hdD];exact pastItsLine_dict (yC hcD (by rw[length_cons,List.length_nil,Yp];omega))) ?_);refine ye ?_;refine h h' s.heap.objs.size _ ?_ hn' (yi _) (fun b o hb q=>?_)
  ·exact(hs'.2 x hxs).trans (yI _ hx₁ rfl)
  ·exact(hs'.2 b (yz (yj q))).trans ((Heap.get?_update_ne _ _ _ _ hb).trans (yd _ q))
variable {D:Addr}{odo:Option YN}
def zxq{tk:Tok}{Q:Fin->yb->Prop}(X:K.In s.heap)(I:InstAt s.heap x ox D odo)(e:findObj K D odo name=some (.value v))(hq:Q (.done (.ret v)) s):yn (yr prog w) A (xy.«object.__getattribute__» ⟨[.ref x, .str name tk],[]⟩) Q E s:=by
 have L0:=I.type (M:=yr prog w);have L1:=looks_find (M:=yr prog w) X I e;obtain⟨hh,g,d,t,os⟩:=s
 repeat (any_goals (first | assumption | with_reducible refine L0.at ?_ | with_reducible refine L1.at ?_ | wp_step))
def exc_load{expr:Bool}{Q:Value->yb->Prop}(X:K.In s.heap)(I:InstAt s.heap x ox D odo)(c:AskC K D)(e:findObj K D odo name=some (.value v))(hv:handedIn v=true)(h:Q v {s with toks:=s.toks+1 }):yn (yr prog w) A (getAttr (.ref x) name expr) Q E s:=by
 have L0:=I.type (M:=yr prog w);have L1:=looks_findIn (M:=yr prog w) X c.ga;have L2:=looks_findIn (M:=yr prog w) X c.gk;have f3:=F.excAttr_ValueError.ga.bind (.ref x);have hx2:(xU "BaseException.__getattribute__" == xU "object.__getattribute__")=false:=by decide +kernel
 have hx1:(onTheHeap (yD D)&&xU "BaseException.__getattribute__" == xU "object.__getattribute__")=false:=by rw[hx2];rfl
 obtain⟨hh,g,d,t,os⟩:=s;unfold getAttr getAttrBy
 repeat (any_goals (first | assumption | with_reducible refine L0.at ?_ | with_reducible refine L1.at ?_ | with_reducible refine L2.at ?_ | wp_step))
 rw[show(expr&&onTheHeap (xU "BaseException.__getattribute__"))=false from Bool.and_false _,if_neg (by decide)];unfold boundAndCalled
 repeat (any_goals (first | assumption | with_reducible refine L0.at ?_ | with_reducible refine L1.at ?_ | with_reducible refine L2.at ?_ | wp_step))
 refine Xj F.excAttr_ValueError.ga.plain F.entry_bexc_ga (zYr (s:=⟨hh,g,d,t+1,os⟩) X I c (zxq (s:=⟨hh,g,d,t+1,os⟩) X I e ?_))
 repeat (any_goals (first | assumption | wp_step))
 show yn _ _ (handedOut v) _ _ _;rw[handedOut_of hv];exact ye h
end
end PySem.W
namespace L2
open PySem PySem.Spec PyProof.Rows
def z0x{H:Hp}{a:Addr}{o:HO}(h:H a=some o):upd H a o=H:=by
 funext b
 unfold upd
 split
 ·rename_i e
  rw[e,h]
 ·rfl
def era(H:Hp)(e:Addr):Hp:=fun b=>if b=e then none else H b
def zCh{H:Hp}{e b:Addr}(h:b≠e):era H e b=H b:=by unfold era;rw[if_neg h]
def zbj{H:Hp}{e:Addr}:era H e e=none:=by unfold era;rw[if_pos rfl]
section
variable {P:yw}{w:yF}{fs ex:List Addr}{H H':Hp}{h h':yP}{e:Addr}{φ:yP->Prop}
def Un.era(u:Un fs ex H H' h h')(he:H e=none):Un fs ex H (era H' e) h h' where
 keep:=u.keep
 slot:=u.slot
 free:=fun b o q n hx=>by
  by_cases z:b=e
  ·rw[z];exact zbj
  ·rw[zCh z];exact u.free b o q n hx
 there:=u.there
 tups:=fun b xs q=>by rw[zCh (zC q he)];exact u.tups b xs q
 frzs:=fun b o v q=>by rw[zCh (zC q he)];exact u.frzs b o v q
 tbls:=fun b ps q=>by rw[zCh (zC q he)];exact u.tbls b ps q
def HOk.era(k:HOk P w H h)(he:H e=some (.ext φ)):HOk P w (era H e) h:=fun b o q=>by
 by_cases z:b=e
 ·rw[z,zbj]at q;cases q
 ·rw[zCh z]at q;refine(k b o q).stay (fun _ _ _ r=>r) (fun c r=>?_) fun c xs r=>?_
  ·rw[zCh fun y=>by rw[y,he]at r;cases r];exact r
  ·rw[zCh fun y=>by rw[y,he]at r;cases r];exact r
end
end L2
namespace M
open PySem PySem.Spec PyProof.Rows L2
def zbn(a C:Addr)(dx:Option Addr):yP->Prop:=fun h=>∃te,h.get? a=some {cls := .ref C,dict:=dx,data := .fields #[.ref te, .none, .none, .none, .bool false, .none]}
def zno{P:yw}{w:yF}{H:Hp}{h:yP}{a C:Addr}{dx:Option Addr}(x:zbn a C dx h):ObjOk P w H h a (.ext (zbn a C dx)):=by
 obtain⟨te,e⟩:=x;exact⟨⟨te,e⟩,⟨_,e⟩,fun h1 h2 ⟨t,q⟩ k=>⟨t,k _ q⟩⟩
structure ExcI(K:yu)(C NE fI:Addr)(f:Str):Prop where
 ob:∃nm q N bs sn sub ab col dd k0 k1 k2 k3 k5,K.lookup C=some (xi nm q C N bs (.ref NE::W.bmV) true sn sub ab col dd k0 k1 k2 k3 k5 "ValueError.__new__")
 ini:Ye K (.ref C) "__init__" = some (some (.ref fI))
 fn:W.typeIn K (.ref fI)=some (.type "function")
 ne:W.excIn K NE W.bmV "ValueError.__new__" = true
 sa:Ye K (.ref C) "__setattr__" = some (some (.builtin "object.__setattr__"))
 at_:Ye K (.ref C) f=some none
 gt:W.specialIn K (.ref NE) "__getattribute__" = some (some (.builtin "type.__getattribute__"))
 rd:W.readsIn K NE (.type "type")=true
 fc:W.findCls K (.ref NE) (.type "type") "__init__" = some (.val (.builtin "ValueError.__init__"))
def ExcI.tail{K:yu}{C NE fI:Addr}{f:Str}(Z:ExcI K C NE fI f){h:yP}(X:K.In h):OwnTail h W.bmV (.ref NE::W.bmV):=by
 obtain⟨bm,N,nm,qn,bs,hdct,sn,sub,ab,col,dd,k0,k1,k2,k3,k5,mN,hC,hN,hni,T⟩:=zTn X Z.ne;exact .own hC hN hni .base
section
variable {X:Cx}{v o value:Expr}{e:Expr}{es:List Expr}{tv ta:TE}{t:TA}{C NE fI:Addr}{f:Str}{np apos pos pos' p1 p2 p3 p4:xp}{x1 x2:Str}{j1 j2:Nat}
def zwv(Z:ExcI X.K C NE fI f)(hm:X.mg "NestError" = some (.ref NE))(ha:PA X (e::es) t){pl:Sem Bool}(hg:Gl X "NestError":=by rfl)
 (hst:yf (e::es) X.env=(false,yW e X.env)::yf es X.env:=by rfl) (hpl:(yZ pos (yf es X.env)).any (·.1)=false:=by rfl)
 (ht:yW (.Call (.Attribute (.Name "NestError" np) "__init__" apos) (e::es) [] pos) X.env=(do
  let ov <-yW (.Name "NestError" np) X.env
  standAt apos.atName
  let (f,first) <-xC [ov] (getMethod ov "__init__" pl)
  callWith pos f first (yZ pos (yf (e::es) X.env)) (xt pos (YA [] X.env))):=by rfl) :
 PE X (.Call (.Attribute (.Name "NestError" np) "__init__" apos) (e::es) [] pos) (fun σ H Q=>t σ H fun vs H1=>∃a x,vs=[.ref a,x]/\H1 a=some (.ext (zbn a C none))/\Q .non H1):=by
 intro pins s σ H Q I h;refine W.methodCall_KW (pl:=pl) (zTg I hg hm ?_ (by decide)) ht;refine W.method_cls I.kIn Z.gt (W.cls_value I.kIn Z.rd Z.fc (by decide +kernel) ?_);refine PyProof.Rows.callWith_builtin1 (thn (ha pos pins _ σ H _ (I.tok _) h) fun us s1 ⟨vs,H1,I1,r1,a,x,ev,ea,q⟩=>?_) hst hpl;subst ev;obtain⟨u1,u2,rfl,ra,rx⟩:=vals2 r1;obtain rfl:u1=yD a:=ra;obtain⟨⟨te,ho⟩,_,_⟩:=(show ObjOk X.prog X.w H1 s1.heap a (.ext (zbn a C none)) from I1.hok a _ ea)
 obtain⟨nm,qn,N,bs,sn,sub,ab,col,dd,k0,k1,k2,k3,k5,lk⟩:=Z.ob;have T:=Z.tail I1.kIn;have hC:=I1.kIn _ _ lk;obtain⟨hp,g,d,tk,os⟩:=s1;refine zus xv T hC ho (fun h' keep he hsz=>?_) (show 1<=yB by rw[Yp];decide);refine⟨.non,H1,?_,rfl,q⟩;have J:=I1.write (x:=a) (e:=a) (o := .ext (zbn a C none)) (h':=h') (t':=tk) (by rw[ea];trivial) (.inl rfl) keep ⟨_,he⟩ (zno ⟨_,he⟩)
 rwa [z0x ea]at J
def zFs(Z:ExcI X.K C NE fI f)(ho:PE X o ta)(hv:PE X value tv)(hs:xS value (some (.Attribute o f pos')) pos.line X.env=pure false:=by rfl) :
 PS X (.Assign [.Attribute o f pos'] value pos) (fun D σ H=>tv σ H fun y H1=>ta σ H1 fun x H2=>∃a,x = .ref a/\H2 a=some (.ext (zbn a C none))/\∀p,H2 p=none->p≠a->D.nx σ (upd (upd H2 p (.xd [(f,y)])) a (.ext (zbn a C (some p))))):=by
 intro pins s σ H D I h;refine plainObj_wpAny_Assign_Attribute (thn (hv pins s σ H _ I h) fun u s1 ⟨y,H1,I1,ry,q⟩=>thn (ho pins s1 σ H1 _ I1 q) fun ov s2 ⟨x,H2,I2,rx,a,ex,ea,q2⟩=>?_) hs;subst ex;obtain rfl:ov=yD a:=rx;obtain⟨⟨te,hob⟩,_,_⟩:=(show ObjOk X.prog X.w H2 s2.heap a (.ext (zbn a C none)) from I2.hok a _ ea)
 obtain⟨nm,qn,N,bs,sn,sub,ab,col,dd,k0,k1,k2,k3,k5,lk⟩:=Z.ob
 obtain⟨cd,hc,hmro,hhd⟩:∃cd,W.clsIn X.K C=some cd/\W.dropRefs cd.mro=W.bmV/\cd.hasDict=true:=by
  unfold W.clsIn;rw[lk];exact⟨_,rfl,rfl,rfl⟩
 refine W.set_exc I2.kIn ⟨hob,rfl,rfl,trivial⟩ rfl Z.sa hc hmro hhd Z.at_ fun h' p tk he hn hp keep=>⟨σ,_,?_,q2 p (I2.hok.fresh hp) ?_⟩
 ·have hpn:H2 p=none:=I2.hok.fresh hp;have hpa:p≠a:=fun z=>absurd (yv (yj hob) (z▸hp)) (yO _);have hpg:∀b ob,s2.heap.get? b=some ob->b≠p:=fun b ob r z=>absurd (yv (yj r) (z▸hp)) (yO _);have hup:∀b,b≠a->b≠p->upd (upd H2 p (.xd [(f,y)])) a (.ext (zbn a C (some p))) b=H2 b:=fun b n1 n2=>by rw[zH n1,zH n2]
  have ne_a:∀b ob,H2 b=some ob->(∀φ,ob≠.ext φ)->b≠a:=fun b ob r n z=>by rw[z,ea]at r;cases r;exact n _ rfl
  have ne_p:∀b ob,H2 b=some ob->b≠p:=fun b ob r=>zC r hpn;refine I2.un (t':=tk) ⟨?_,?_,?_,?_,?_,?_,?_⟩ ?_
  ·exact fun b ob r n _ _=>keep b ob (fun z=>by rw[z,ea]at n;cases n) r
  ·exact fun b ob r n _ _=>⟨ob.slots,keep b ob (fun z=>by rw[z,ea]at n;cases n) r⟩
  ·exact fun b ob r n _=>by rw[hup b (fun z=>by rw[z,ea]at n;cases n) (hpg b ob r)];exact n
  ·exact fun b ob r _=>by
    by_cases z:b=a
    ·exact⟨_,by rw[z];exact he⟩
    ·exact⟨_,keep b ob z r⟩
  ·exact fun b xs r=>by rw[hup b (ne_a b _ r fun _ z=>by cases z) (ne_p b _ r)];exact r
  ·exact fun b ob w r=>by rw[hup b (ne_a b _ r fun _ z=>by cases z) (ne_p b _ r)];exact r
  ·exact fun b ps r=>⟨#[],by rw[hup b (ne_a b _ r fun _ z=>by cases z) (ne_p b _ r),Array.append_empty];exact r⟩
  ·intro b ob r
   by_cases z:b=a
   ·subst z;rw[zu]at r;cases r;exact zno ⟨te,he⟩
   ·by_cases z2:b=p
    ·subst z2;rw[zH z,zu]at r;cases r;refine⟨_,hn,fun g=>?_⟩
     by_cases zg:g=f
     ·have hb:(g==f)=true:=beq_iff_eq.mpr zg;simp only[YE,hb,if_pos zg];exact ry
     ·have hb:(g==f)=false:=beq_eq_false_iff_ne.mpr zg;simp only[YE,hb,if_neg zg];trivial
    ·rw[hup b z z2]at r;refine(I2.hok b ob r).stay (fun c w hc r'=>keep c w (fun z3=>?_) r') (fun c r'=>?_) fun c xs r'=>?_
     ·subst z3;rcases hc with hc | hc
      ·exact z hc.symm
      ·rw[ea]at hc;cases hc
     ·rw[hup c (ne_a c _ r' fun _ z=>by cases z) (ne_p c _ r')];exact r'
     ·rw[hup c (ne_a c _ r' fun _ z=>by cases z) (ne_p c _ r')];exact r'
 ·exact fun z=>absurd (yv (yj hob) (z▸hp)) (yO _)
end
section
variable {X:Cx}{x:Str}{e:Expr}{np cpos pos:xp}{C NE fI:Addr}{f:Str}{k:Nat}{fd:yg}{ps:List Str}{φ:FA}
def flyI{pins:List (Addr×YN)}{σ:L2.St}{H H2:Hp}{s s':yb}{a p te:Addr}(I:Inv X pins σ H s)(I3:Inv X pins σ H2 s')(hos:s'.os=s.os)(un:Un (frs X.stack) [] H H2 s.heap s'.heap)(ha:s.heap.objs.size<=a)(h2:∃φ,H2 a=some (.ext φ))
 (he:s'.heap.get? a=some {cls := .ref C,dict:=some p,data := .fields #[.ref te, .none, .none, .none, .bool false, .none]}):FlyX X.prog X.w X.stack H s (.ref C) (some p) (era H2 a) (.ref a) s':=by
 have hn:H a=none:=I.hok.fresh ha;obtain⟨φ,h2⟩:=h2;have hin:∀env∈X.stack,∀b,env.frame=some b->b∈a::frs X.stack:=fun env he b hb=>mem_cons_of_mem _ (List.mem_filterMap.mpr ⟨env,he,hb⟩);refine⟨hos,I3.bare,un.era hn,I3.hok.era h2,a,W.hideAll s'.heap (a::frs X.stack),rfl,⟨fun b o q=>W.of_hideAll _ q,W.hideAll_none _ mem_cons_self,W.funFrames_hide I3.stack hin,⟨_,_,_,he,rfl,rfl,rfl,rfl, .inl rfl⟩⟩,?_⟩;refine⟨fun b o q=>?_,fun b o q hb=>?_⟩
 ·by_cases z:b=a
  ·rw[z,zbj]at q;cases q
  ·rw[zCh z]at q;obtain⟨u,hu⟩:=(I3.hok b o q).there;refine⟨u,W.hideAll_get _ hu fun hm=>?_⟩;rcases List.mem_cons.mp hm with hm | hm
   ·exact z hm
   ·rw[I3.stkFree b hm]at q;cases q
 ·obtain⟨u,hu⟩:=un.there b o q (by simp);refine⟨u,W.hideAll_get _ hu fun hm=>?_⟩;rcases List.mem_cons.mp hm with hm | hm
  ·exact absurd (yv (yj q) (hm▸ha)) (yO _)
  ·exact hb hm
end
structure AtC(K:yu)(c f:Str):Prop where
 ok:∀C,Yh K ym c=some (some (.ref C))->W.AskC K C/\Ye K (.ref C) f=some none/\W.hasDictIn K C=true
@[simp] def fAt(c f:Str)(φ:FE):FE:=fun δ μ=>(φ δ μ).bind fun p=>match p.1 with
 |.loc n=>match p.2[n]? with
  |some (.exc c' fs)=>if c'=c then(fs.lookup f).bind fun d=>some (d,p.2) else none
  |_=>none
 |_=>none
def zsl{K:yu}{ρ:List Addr}{H:Hp}{f:Str}{d:D}:∀{fs:List (Str×D)} {vs:List (Str×V)},vs.map (·.1)=fs.map (·.1)->RepVs K ρ H (fs.map (·.2)) (vs.map (·.2))->fs.lookup f=some d->∃v,vs.lookup f=some v/\RepV K ρ H d v
 |[],_,_,_,h=>by cases h
 |(g,d0)::fs,[],e,_,_=>by cases e
 |(g,d0)::fs,(g',v0)::vs,e,r,h=>by
  simp only[map_cons,YY]at e;obtain⟨rfl,e⟩:=e;obtain⟨v,rr,e2,q1,q2⟩:=r.cons_inv;simp only[map_cons,YY]at e2;obtain⟨rfl,rfl⟩:=e2;unfold YE at h ⊢
  split at h
  ·cases h;exact⟨_,rfl,q1⟩
  ·exact zsl e q2 h
def zow{c f:Str}{φ:FE}{δ:Loc}{μ μ':Mem}{d:D}(h:fAt c f φ δ μ=some (d,μ')):∃n fs,φ δ μ=some (.loc n,μ')/\μ'[n]?=some (.exc c fs)/\fs.lookup f=some d:=by
 obtain⟨⟨d1,μ1⟩,e1,h2⟩:=zh h;clear h
 cases d1 with
 |loc n=>
  replace h2:(match μ1[n]? with
   |some (.exc c' fs)=>if c'=c then(fs.lookup f).bind fun d=>some (d,μ1) else none
   |_=>none)=some (d,μ'):=h2
  cases hm:μ1[n]? with
  |none=>rw[hm]at h2;cases h2
  |some o=>
   rw[hm]at h2
   cases o with
   |exc c' fs=>
    by_cases hc:c'=c
    ·subst hc;simp only[if_true]at h2;obtain⟨d2,e2,h3⟩:=zh h2;cases h3;exact⟨n,fs,e1,hm,e2⟩
    ·simp only[if_neg hc]at h2;cases h2
   |lst _=>cases h2
   |dct _=>cases h2
   |dcf _=>cases h2
   |ins _ _=>cases h2
 |_=>cases h2
def zKx{X:Cx}{o:Expr}{pos:xp}{c f:Str}{φ:FE}(Z:AtC X.K c f)(ho:ME X o φ)(hb:Yu o f X.env (yW o X.env)=yW o X.env:=by rfl):ME X (.Attribute o f pos) (fAt c f φ):=by
 intro pins s σ H Q I ⟨ρ,δ,μ,d,μ1,A,eo,kk⟩;obtain⟨n,fs,e1,hm,e2⟩:=zow eo
 refine zft hb (thn (ho pins s σ H (fun v H1=>∃a ρ1,v = .ref a/\ρ1[n]?=some a/\Ext ρ H ρ1 H1/\RepH X.K ρ1 H1 μ1) I ⟨ρ,δ,μ, .loc n,μ1,A,e1,fun ρ1 H1 v x1 R1 r1=>by
  obtain⟨a,rfl,e3⟩:=r1.loc_inv;exact⟨a,ρ1,rfl,e3,x1,R1⟩⟩) fun u s1 ⟨v,H1,I1,r1,a,ρ1,ev,e3,x1,R1⟩=>?_)
 subst ev;obtain rfl:u=yD a:=r1;obtain⟨C,dx,hn,hH,hX⟩:=R1.at_ _ _ _ e3 hm;obtain⟨⟨ob,vs,h1,h2,h3,h4⟩,_,_⟩:=(show ObjOk X.prog X.w H1 s1.heap a (.ext (zgq a C dx)) from I1.hok a _ hH)
 obtain⟨Zc,Zf,Zd⟩:=Z.ok C hn;rcases hX with ⟨hfs,_⟩ | ⟨p,ws,rfl,hp,hk,hr⟩
 ·rw[hfs]at e2;cases e2
 ·obtain⟨w1,l1,rw1⟩:=zsl hk hr e2;obtain⟨mA,hns,hro⟩:=(show ObjOk X.prog X.w H1 s1.heap p (.xd ws) from I1.hok p _ hp)
  obtain⟨u1,hu1,ru1⟩:=RelO.some_of (v:=w1) (o:=mA f) (by rw[<-l1];exact hro f);obtain⟨od,hod,hl⟩:=zSm hns;have J:W.InstAt s1.heap a ob C (some od):=⟨h1,h2,by unfold W.notCls;rw[h4],by rw[h3];exact hod⟩
  exact W.exc_load I1.kIn J Zc (W.findObj_own Zd Zf rfl (by rw[hl,hu1])) (zfn ru1) ⟨w1,H1,I1.tok _,ru1,kk ρ1 H1 w1 x1 R1 rw1⟩
def zOv(s:Stmt):Stmt:=match s with
 |.ClassDef _ _ _ b _ _ _ _ _ _ _=>b.getD 0 (.Pass ⟨0,0,0,0⟩)
 |_ => .Pass ⟨0,0,0,0⟩
structure IniAt(K:yu)(mg:Str->Option Value)(c f qual:Str)(st:Stmt)(ps:List Str)(C NE fI:Addr)(fd:yg):Prop where
 nm:Yh K ym c=some (some (.ref C))
 ne:mg "NestError" = some (.ref NE)
 ex:ExcI K C NE fI f
 fn:Fun K "__init__" qual st fI fd
 bd:Binds K fd ps []
def zDg(ns:List Int):Prop:=ns.length<=100/\∀n∈ns,n.natAbs<1606938044258990275541962092341162602522202993782792835301376
def z4k:∀ns:List Int,(∀n∈ns,n.natAbs<1606938044258990275541962092341162602522202993782792835301376)->PyData.showableAll (ns.map xH)=true/\PyData.hasDictAll (ns.map xH)=false/\PyData.depthAll (ns.map xH)=0/\PyData.leavesShortAll 230 (ns.map xH)=true/\PyData.bulkAll (ns.map xH)=ns.length
 |[],_=>⟨rfl,rfl,rfl,rfl,rfl⟩
 |n::ns,h=>by
  obtain⟨h1,h2,h3,h4,h5⟩:=z4k ns fun m hm=>h m (mem_cons_of_mem _ hm)
  have hl2:n.natAbs.log2<200:=by
   by_cases z:n.natAbs=0
   ·rw[z];decide
   ·exact(Nat.log2_lt z).mpr (yv (h n mem_cons_self) (by decide))
  have hl:n.natAbs.log2<1920:=Nat.lt_trans hl2 (by decide);have ht:=int_text_length_le (k:=200) (by decide) hl2
  have hs:(PyData.shown (.int n)).length<=230:=by
   simp only[PyData.shown];rw[PySem.ofString_length];omega
  refine⟨?_,?_,?_,?_,?_⟩
  ·simp only[map_cons,PyData.showableAll,PyData.showable,decide_eq_true hl,h1,xV]
  ·simp only[map_cons,PyData.hasDictAll,PyData.hasDict,h2,Bool.or_self]
  ·simp only[map_cons,PyData.depthAll,PyData.depth,h3,Nat.max_self]
  ·simp only[map_cons,PyData.leavesShortAll,PyData.leavesShort,decide_eq_true hs,h4,xV]
  ·simp only[map_cons,PyData.bulkAll,PyData.bulk,h5,length_cons];omega
def zKl{h:yP}:∀{ns:List Int} {its:List Value},Vals (ns.map V.int) its->ReadsAll h its (ns.map xH) []
 |[],_,r=>by cases r;exact .nil
 |n::ns,_,r=>by
  cases r with
  |cons r1 r2=>
   obtain⟨t,rfl⟩:=(show ∃t,_=Value.int n t from r1)
   exact .cons (as:=[]) (bs:=[]) (.int n t) (zKl r2)
section
variable {X:Cx}{v:Expr}{tv:TE}{p1 p2 p4:xp}{x1:Str}{j1:Nat}
def znt(hv:PE X v tv)(hg:X.A.guards=some [])(hu:X.A.units+64<cLine)(h1:x1.length<=1000:=by decide) :
 PE X (.JoinedStr [.Constant (.str x1) j1 p1, .FormattedValue v 114 none p2] p4) (fun σ H Q=>tv σ H fun x H1=>∃a ns,x = .ref a/\H1 a=some (.lst (ns.map V.int))/\zDg ns/\∀y,Q (.str y) H1):=by
 intro pins s σ H Q I h;have z0:(Str.empty:Str).length=0:=rfl;refine wpAny_JoinedStr ?_;show Joins _ _ _ [yW (.Constant (.str x1) j1 p1) X.env,yW (.FormattedValue v 114 none p2) X.env] _ _ _;refine Calls.Constant_str ⟨x1,_,rfl,by rw[strLen_append,z0,Yp];omega,?_⟩;refine wpAny_FormattedValue_repr (thn (hv pins _ σ H _ (I.tok _) h) fun u s1 ⟨x,H1,I1,r1,a,ns,ex,ea,hs,q⟩=>?_);subst ex;obtain rfl:u=yD a:=r1;obtain⟨_,its,n,rv,ho⟩:=(show ObjOk X.prog X.w H1 s1.heap a (.lst (ns.map V.int)) from I1.hok a _ ea)
 obtain⟨s1',s2',s3',s4',s5'⟩:=z4k ns hs.2;have rd:Reads s1.heap (.ref a) (.list (ns.map xH)) [a] := .list (as:=[]) ho rfl rfl (by rw[List.toList_toArray];exact zKl rv)
 have hz:(PyData.shown (.list (ns.map xH))).length<=33000:=by
  have:=PyData.shown_le_bulk 230 (by decide) (.list (ns.map xH)) (by simp only[PyData.leavesShort];exact s4');simp only[PyData.bulk,s5']at this;have:=hs.1;omega
 refine pyReprObj_of_reads rd (by simp only[PyData.showable];exact s1') (PyData.noDict_hsm (by simp only[PyData.hasDict];exact s2')) hg (by simp only[PyData.depth,s3'];omega) (fun _ _ e=>e) (fun h' u tk keep=>?_) (by rw[Yp];omega);have I2:Inv X pins σ H1 {s1 with heap:=h',toks:=tk }:=I1.kept keep
 have last:∀t s2,Inv X pins σ H1 s2->∃y t',Value.str (PyData.shown (.list (ns.map xH))) t = .str y t'/\((Str.empty++x1)++y).length<=yB /\
  Joins (yr X.prog X.w) X.A X.xe [] ((Str.empty++x1)++y) (fun out s₁=>out.length<=yB/\EP X pins σ Q (.str out s₁.toks) {s₁ with toks:=s₁.toks+1 }) s2:=fun t s2 J=>by
  have hl:((Str.empty++x1)++PyData.shown (.list (ns.map xH))).length<=yB:=by rw[strLen_append,strLen_append,z0,Yp];omega
  exact⟨_,t,rfl,hl,hl,⟨.str _,H1,J.tok _,⟨_,rfl⟩,q _⟩⟩
 exact wpAny_formatField_str (last _ _ I2) (last _ _ (I2.tok _)) (by rw[Yp];omega)
end
def spL(C:Addr)(f:Str):Sp:=fun vs H Q _=>∃e a ns,vs=[.ref e, .ref a]/\zDg ns/\H a=some (.lst (ns.map V.int))/\H e=some (.ext (zbn e C none)) /\
 ∀l p,H l=none->l≠e->H p=none->p≠e->p≠l->Q .non (upd (upd (upd H l (.lst (ns.map V.int))) p (.xd [(f, .ref l)])) e (.ext (zbn e C (some p))))
instance smallDec(ns:List Int):Decidable (zDg ns):=by unfold zDg;exact inferInstance
@[simp] def zEe(c f:Str)(φ:FA):FS:=fun δ μ=>(φ δ μ).bind fun p=>match p.1 with
 |[.loc n]=>match p.2[n]? with
  |some (.lst ds)=>(zfi ds).bind fun ns=>bif decide (zDg ns) then some (.exc c [(f, .loc p.2.length)] (p.2++[.lst ds])) else none
  |_=>none
 |_=>none
def zHo{c f:Str}{φ:FA}{δ:Loc}{μ:Mem}{o:Out}(h:zEe c f φ δ μ=some o):∃n ns μ1,φ δ μ=some ([.loc n],μ1)/\μ1[n]?=some (.lst (ns.map D.int))/\zDg ns/\o = .exc c [(f, .loc μ1.length)] (μ1++[.lst (ns.map D.int)]):=by
 obtain⟨⟨ds,μ1⟩,e1,h2⟩:=zh h;clear h;rcases ds with _ | ⟨d,ds⟩
 ·cases h2
 ·rcases ds with _ | ⟨d2,ds⟩
  ·cases d with
   |loc n=>
    replace h2:(match μ1[n]? with
     |some (.lst ds)=>(zfi ds).bind fun ns=>bif decide (zDg ns) then some (.exc c [(f, .loc μ1.length)] (μ1++[.lst ds])) else none
     |_=>none)=some o:=h2
    cases hm:μ1[n]? with
    |none=>rw[hm]at h2;cases h2
    |some ob=>
     rw[hm]at h2
     cases ob with
     |lst ds=>
      replace h2:((zfi ds).bind fun ns=>bif decide (zDg ns) then some (.exc c [(f, .loc μ1.length)] (μ1++[.lst ds])) else none)=some o:=h2;obtain⟨ns,e2,h3⟩:=zh h2;have e3:=zVe e2;subst e3
      by_cases hs:zDg ns
      ·rw[decide_eq_true hs]at h3;cases h3;exact⟨n,ns,μ1,e1,hm,hs,rfl⟩
      ·rw[decide_eq_false hs]at h3;cases h3
     |dct _=>cases h2
     |dcf _=>cases h2
     |exc _ _=>cases h2
     |ins _ _=>cases h2
   |_=>cases h2
  ·cases d<;>cases h2
def z2m{K:yu}{ρ:List Addr}{H:Hp}:∀{ns:List Int} {vs:List V},RepVs K ρ H (ns.map D.int) vs->vs=ns.map V.int
 |[],_,r=>r.nil_inv
 |n::ns,_,r=>by
  obtain⟨v,rr,rfl,q1,q2⟩:=r.cons_inv;rw[q1.int_inv,z2m q2];rfl
def zys{H:Hp}{a l p:Addr}{o o' u1 u2:HO}(ha:H a=none)(hl:l≠a)(hp:p≠a):era (upd (upd (upd (upd H a o) l u1) p u2) a o') a=upd (upd H l u1) p u2:=by
 funext b
 by_cases z:b=a
 ·rw[z,zbj,zH (yN hp),zH (yN hl),ha]
 ·rw[zCh z,zH z]
  by_cases z2:b=p
  ·rw[z2,zu,zu]
  ·rw[zH z2,zH z2]
   by_cases z3:b=l
   ·rw[z3,zu,zu]
   ·rw[zH z3,zH z,zH z3]
section
variable {X:Cx}{x:Str}{e:Expr}{np cpos pos:xp}{C NE fI:Addr}{f:Str}{k:Nat}{fd:yg}{ps:List Str}{φ:FA}
set_option maxHeartbeats 800000 in
def zvj(hn:Yh X.K ym x=some (some (.ref C)))(Z:ExcI X.K C NE fI f)(G:FnOk X.prog X.w X.K X.mg X.base CX0 1 fI fd ps (spL C f))(hb:Binds X.K fd ps [])(hr:Room k X.A)(ha:MAn X [e] φ)(hk:2<=k:=by decide)(hh:X.calm=true:=by rfl)(hg:Gl X x:=by rfl)
 (he:yf [e] X.env=(false,yW e X.env)::yf [] X.env:=by exact zZc rfl) (hdb:(x==("__debug__":Str))=false:=by decide) :
 MS X (.Raise (some (.Call (.Name x np) [e] [] cpos)) none pos) (zEe x f φ):=by
 intro pins s σ H Dn I ⟨ρ,δ,μ,o,A,eo,kk⟩;obtain⟨n,ns,μ1,e1,hm,hsm,rfl⟩:=zHo eo;clear eo;obtain⟨nm,qn,N,bs,sn,sub,ab,col,dd,k0,k1,k2,k3,k5,lk⟩:=Z.ob
 have hpl':(yZ cpos (yf [e] X.env)).any (·.1)=false:=by
  rw[he];rfl
 refine zYj (C:=C) (fI:=fI) (nm:=nm) (q:=qn) (N:=N) (bs:=bs) (bm := .ref NE::W.bmV) (hdct:=true) (sn:=sn) (sub:=sub) (ab:=ab) (col:=col) (dd:=dd) (k0:=k0) (k1:=k1) (k2:=k2) (k3:=k3) (k5:=k5) (newId:="ValueError.__new__")
  xv ((Z.tail I.kIn).hasType PySem.F.excBase_ValueError.hasBase) (I.ok.hd hh) hpl' (zTg I hg (xE I.mod.kin I.mod.glob hn) ⟨rfl,?_⟩ hdb)
 have h:=ha.ma cpos pins s σ H (fun vs H'=>∃a ρ',vs=[.ref a]/\ρ'[n]?=some a/\Ext ρ H ρ' H'/\RepH X.K ρ' H' μ1) I ⟨ρ,δ,μ,[.loc n],μ1,A,e1,fun ρ' H' vs x' R r=>by
  obtain⟨v,rr,rfl,q1,q2⟩:=r.cons_inv;obtain⟨a,rfl,e3⟩:=q1.loc_inv;exact⟨a,ρ',by rw[q2.nil_inv],e3,x',R⟩⟩
 rw[he]at h ⊢;refine Calls.evalArgs_plain (yR h (fun us s2 h2=>?_) fun _ _ y=>y);obtain⟨vs,H',I',r,a,ρ',rfl,e3,x',R⟩:=h2;obtain⟨u,rfl,ru⟩:=vals1 r;obtain rfl:u=yD a:=ru;obtain⟨ws,hHa,rws⟩:=R.at_ _ _ _ e3 hm;obtain rfl:=z2m rws;have hz:(zBg s2.heap C [.ref a]).get? (s2.heap.objs.size+1)=some {cls := .ref C,dict:=none,data := .fields #[.ref s2.heap.objs.size, .none, .none, .none, .bool false, .none]}:=by heap_get
 have kp:∀b o,s2.heap.get? b=some o->(zBg s2.heap C [.ref a]).get? b=some o:=fun b o q=>yd _ (yd _ q);have hsz:s2.heap.objs.size<=s2.heap.objs.size+1:=xD _;have hfr:H' (s2.heap.objs.size+1)=none:=I'.hok.fresh hsz
 have I2:Inv X pins σ (upd H' (s2.heap.objs.size+1) (.ext (zbn (s2.heap.objs.size+1) C none))) {s2 with heap:=zBg s2.heap C [.ref a]} :=
  I'.laid (a:=s2.heap.objs.size+1) (t':=s2.toks) kp hsz (zno ⟨_,hz⟩)
 have sp:spL C f [.ref (s2.heap.objs.size+1), .ref a] (upd H' (s2.heap.objs.size+1) (.ext (zbn (s2.heap.objs.size+1) C none))) (fun v H2=>v = .non/\∃l p,H' l=none/\l≠s2.heap.objs.size+1/\H' p=none/\p≠s2.heap.objs.size+1/\p≠l /\
  H2=upd (upd (upd (upd H' (s2.heap.objs.size+1) (.ext (zbn (s2.heap.objs.size+1) C none))) l (.lst (ns.map V.int))) p (.xd [(f, .ref l)])) (s2.heap.objs.size+1) (.ext (zbn (s2.heap.objs.size+1) C (some p)))) E0 :=
  ⟨_,a,ns,rfl,hsm,by rw[zH (zC hHa hfr)];exact hHa,zu,fun l p hl hle hp hpe hpl=>⟨rfl,l,p,by rwa [zH hle]at hl,hle,by rwa [zH hpe]at hp,hpe,hpl,rfl⟩⟩
 have hl:([yD (s2.heap.objs.size+1), .ref a]++[]).length=ps.length:=G.len _ _ _ _ sp;refine⟨rfl,(show 1<=yB by rw[Yp];decide),I'.kIn _ _ lk,W.looks_findIn I'.kIn Z.ini,Z.tail I'.kIn,fun self=>W.bind_fn I'.kIn self Z.fn,?_⟩;have hroom:Room 1 (X.A.under (.builtin "type.__call__" ⟨.ref C::[.ref a],[]⟩)):=Room.make (k:=1) (hr.mono hk) C [.ref a] [];have henv:=I2.env0.make C [.ref a] [];have hbind:=hb {s2 with heap:=zBg s2.heap C [.ref a]} [.ref (s2.heap.objs.size+1), .ref a] I2.kIn hl;have hvals:Vals [V.ref (s2.heap.objs.size+1), .ref a] ([yD (s2.heap.objs.size+1), .ref a]++[]) := .cons rfl (.cons rfl .nil);have run:=G.run _ X.stack _ _ _ _ _ _ E0 hroom henv hbind hvals sp;show yn (yr X.prog X.w) (X.A.under (.builtin "type.__call__" ⟨.ref C::[.ref a],[]⟩)) (call (.ref fI) [.ref (s2.heap.objs.size+1), .ref a]) _ _ {s2 with heap:=zBg s2.heap C [.ref a]};refine wpAny_call (YR run fun rr s' hq=>?_)
 cases rr with
 |error ex=>exact Yt hq
 |ok fl=>
  cases fl with
  |next=>exact Yt hq
  |brk=>exact Yt hq
  |cont=>exact Yt hq
  |ret uu=>
   obtain⟨v,H2,hos,hbare,un,hok,rv,ev,l,p,hl0,hle,hp0,hpe,hpl,e2⟩:=hq;subst ev;obtain rfl:uu=Yi:=rv;obtain⟨_,H3,I3,_,_,e4⟩:=I2.after (Q:=fun v' H''=>v'=V.non/\H''=H2) ⟨V.non,H2,hos,hbare,un,hok,rfl,rfl,rfl⟩;rw[e4]at I3;have h3:H2 (s2.heap.objs.size+1)=some (.ext (zbn (s2.heap.objs.size+1) C (some p))):=by rw[e2];exact zu
   obtain⟨⟨te,he3⟩,_,_⟩:=(show ObjOk X.prog X.w H2 s'.heap (s2.heap.objs.size+1) (.ext (zbn (s2.heap.objs.size+1) C (some p))) from I3.hok _ _ h3)
   refine⟨rfl,I3.kIn _ _ lk,⟨_,te,he3⟩,?_⟩;have F:=flyI (C:=C) (te:=te) I' I3 hos ((Un.laid kp hsz hfr).trans un) hsz ⟨_,h3⟩ he3;rw[e2,zys hfr hle hpe]at F;have R1:RepH X.K (ρ'++[l]) (upd H' l (.lst (ns.map V.int))) (μ1++[.lst (ns.map D.int)]):=R.push hl0 ⟨_,zu,rws.ext (Ext.push hl0)⟩;have hp1:upd H' l (.lst (ns.map V.int)) p=none:=by rw[zH hpl];exact hp0
   refine kk (ρ'++[l]) (upd (upd H' l (.lst (ns.map V.int))) p (.xd [(f, .ref l)])) C (some p) hn ((x'.trans (Ext.push hl0)).trans (Ext.new hp1)) (R1.newTup hp1) (.inr ⟨p,[(f, .ref l)],rfl,zu,rfl,?_⟩) pins σ H' s2 (.ref (s2.heap.objs.size+1)) s' I' F;have hpg:=zEb (p:=l) R;simp[RepVs,RepV,hpg]
end
section
variable {X:Cx}{a b c e:Expr}{es:List Expr}{φ ψ χ:FE}{pos pos2 p1 p2:xp}
def zLt(p:Addr)(j:Int):HO := .ext fun h=>∃t u v,IsRange h p 0 j 1 t u v
def zho:zSk X (.type "range") (fun xs H Q=>∃j:Int,xs=[.int j]/\∀p,H p=none->Q (.ref p) (upd H p (zLt p j))):=by
 intro pins s σ H xs us Q I r ⟨j,e,k⟩;subst e;obtain⟨u,rfl,ru⟩:=vals1 r;obtain⟨t,rfl⟩:=ru;refine call_range_1 ?_;refine⟨.ref s.heap.objs.size,_,I.laid (t':=s.toks+1+1) (fun b o e=>yd _ e) (yi _) (show ObjOk X.prog X.w _ _ _ (zLt _ j) from⟨⟨_,_,_,IsRange.new _ _ _ _ _ _ _⟩,⟨_,yo _ rfl⟩,fun h1 h2 ⟨t,u,v,x⟩ y=>⟨t,u,v,y _ x⟩⟩),rfl,k _ I.fresh⟩
def zRq{its:Array Value}{n:Nat}(h:ItemsOf (fun i v=>∃t,v = .int (0+i*1) t) its n):Vals ((yy n).map fun(k:Nat)=>V.int k) its.toList:=by
 obtain⟨h1,h2⟩:=h
 have key:∀(l:List Value)(m:Nat),(∀i (hi:i<l.length),∃t,l[i] = .int ((m+i:Nat):Int) t)->Vals ((List.range' m l.length).map fun(k:Nat)=>V.int k) l:=by
  intro l
  induction l with
  |nil=>intro m _;exact .nil
  |cons x xs ih=>
   intro m h;obtain⟨t,e⟩:=h 0 (by simp);refine .cons ⟨t,by simpa using e⟩ (ih (m+1) fun i hi=>?_);obtain⟨t,e⟩:=h (i+1) (by simpa using hi);exact⟨t,by rw[show m+1+i=m+(i+1) by omega];simpa using e⟩
 have:=key its.toList 0 fun i hi=>?_
 ·rw[List.range_eq_range',<-h1];simpa using this
 ·have hi':i<its.size:=by simpa using hi
  obtain⟨t,e⟩:=h2 i its[i] (by simp[hi']);exact⟨t,by simpa using e⟩
def zti(φ:FE):FE:=fun δ μ=>(φ δ μ).bind fun p=>match p.1 with
 |.int j=>bif decide (-(2^62)<=j/\j<=1000000) then some (.loc p.2.length,p.2++[.lst ((yy j.toNat).map fun(k:Nat) => .int k)]) else none
 |_=>none
def zUq(hc:X.calm=true):zSk X (.type "list") (fun xs H Q=>∃p j,xs=[.ref p]/\H p=some (zLt p j)/\-(2^62)<=j/\j<=1000000/\∀l,H l=none->Q (.ref l) (upd H l (.lst ((yy j.toNat).map fun(k:Nat)=>V.int k)))):=by
 intro pins s σ H xs us Q I r ⟨p,j,e,hq,h1,h2,k⟩;subst e;obtain⟨u,rfl,ru⟩:=vals1 r;cases ru;obtain⟨⟨t,u,v,hr⟩,_,_⟩:=I.hok p _ hq;have hn:Builtin.Range.rangeSize 0 j 1=(j.toNat:Nat):=by rw[rangeSize_one];split<;>omega
 refine call_list_range (n:=j.toNat) (I.ok.hd hc) hr (small_one (by decide) (by decide) h1 (by omega)) hn (by omega) fun h' tk acc' c' kp e hi=>?_;have hm:=million;have hv:=zRq hi;refine⟨.ref s.heap.objs.size,_,I.laid (t':=tk) kp (yi _) (show ObjOk X.prog X.w _ h' _ (.lst _) from⟨by simp;omega,acc'.toList,c',hv,by simpa using e⟩),rfl,k _ I.fresh⟩
def zPn(hm1:X.mg "list" = none)(hv1:yQ "list" = some (.type "list"))(hm2:X.mg "range" = none)(h:ME X e φ)(hc:X.calm=true:=by rfl)(hg1:Gl X "list":=by rfl)(hg2:Gl X "range":=by rfl)
 (he:yf [e] X.env=(false,yW e X.env)::yf [] X.env:=by rfl) (he2:yf [.Call (.Name "range" p2) [e] [] pos2] X.env=(false,yW (.Call (.Name "range" p2) [e] [] pos2) X.env)::yf [] X.env:=by rfl) :
 ME X (.Call (.Name "list" p1) [.Call (.Name "range" p2) [e] [] pos2] [] pos) (zti φ) :=
 zfe (z7f (zUq hc) hg1 hm1 hv1 (zLe (z7f zho hg2 hm2 boot_range (zLe h zUh he) (by decide) (by decide) he rfl) zUh he2) (by decide) (by decide) he2 rfl) fun ρ δ μ σ H d μ' Q A e k=>by
  obtain⟨⟨x,μ1⟩,e1,e⟩:=zh e;refine⟨ρ,δ,μ,x,μ1,A,e1,fun ρ1 H1 v x1 R1 r1=>?_⟩;dsimp only at e
  split at e
  ·rename_i j
   obtain⟨hb,e⟩:=zQ e;have hb:=of_decide_eq_true hb;cases e;refine⟨j,by rw[r1.int_inv],fun p1 hp1=>⟨p1,j,rfl,zu,hb.1,hb.2,fun l hl=>?_⟩⟩;have R2:=R1.newTup (o:=zLt p1 j) hp1;refine k _ _ _ (x1.trans ((Ext.new hp1).trans (Ext.push hl))) (R2.push hl ⟨_,zu,?_⟩) (.loc (zEb R2));have hr:=fun ρ H=>@zCf X.K ρ H ((yy j.toNat).map fun(k:Nat)=>(k:Int));simp only[map_map]at hr;exact hr _ _
  ·cases e
@[simp] def zHz:GL:=fun ds μ=>match ds with
 |[.int i]=>some (.int i,μ)
 |[.bl b]=>some (.int (if b then 1 else 0),μ)
 |_=>none
@[simp] def zNy:GL:=fun ds μ=>match ds with
 |[.int i, .int j]=>some (.int (if j<i then j else i),μ)
 |_=>none
@[simp] def zkz:GL:=fun ds μ=>match ds with
 |[.int i, .int j]=>some (.int (if j>i then j else i),μ)
 |_=>none
@[simp] def fIf(c:FT)(φ ψ:FE):FE:=fun δ μ=>(c δ μ).bind fun p=>bif p.1 then φ δ p.2 else ψ δ p.2
end
section
variable {prog:yw}{w:yF}{A:yH}{E:Value->yb->Prop}{s:yb}
def nextT{it t:Addr}{i:Nat}{items:Array Value}{x:Value}{Q:Value->yb->Prop}(hit:s.heap.IsTupleIter it t i)(ht:s.heap.IsTuple t items)(hx:items[i]?=some x)
 (hQ:∀h',h'.IsTupleIter it t (i+1)->Yk it s.heap h'->Q x {s with heap:=h' }):yn (yr prog w) A (YD (.ref it)) Q E s:=by
 obtain⟨ob,hob,hcl,hfs⟩:=id hit;obtain⟨ot,hot,_,m,hits⟩:=ht;unfold YD;refine ya (Yc (name:=YS "__next__") hit.typeIs xw (yU xw hit.typeIs F.entry_tuple_iterator_next ?_ (F.args_tuple_iterator_next_1 _)));show yn _ _ (field (.ref it) 0 >>= _) _ _ s;refine ya (YB hob hfs (x := .ref t) rfl ?_);show yn _ _ (if(yD t==Yi)=true then _ else field (.ref it) 1 >>= _) _ _ s;rw[if_neg (show ¬(yD t==Yi)=true from yx)];refine ya (YB hob hfs (x := .int i 0) rfl ?_);show yn _ _ (seqItems? (.ref t) >>= _) _ _ s;refine ya (wpAny_seqItems hot hits ?_);simp only[Ym,hx];refine ya (YT hob hfs (by simp) (ye ⟨x,rfl,ye (hQ _ ?_ (Yv ..))⟩));refine⟨_,yI _ hob (Yw (yT hfs _)),(Xd ..).trans hcl,?_⟩;rw[yT hfs];simp[Yz]
def z3r{it t:Addr}{i:Nat}{items:Array Value}{Q:Value->yb->Prop}(hh:A.handled=none)(hit:s.heap.IsTupleIter it t i)(ht:s.heap.IsTuple t items)(hx:items[i]?=none)
 (hE:∀h' e,Heap.ExtBut it s.heap h'->(∃o,h'.get? e=some o/\o.cls = .type "StopIteration")->E (.ref e) {s with heap:=h' }):yn (yr prog w) A (YD (.ref it)) Q E s:=by
 obtain⟨ob,hob,hcl,hfs⟩:=id hit;obtain⟨ot,hot,_,m,hits⟩:=ht;unfold YD;refine ya (Yc (name:=YS "__next__") hit.typeIs xw (yU xw hit.typeIs F.entry_tuple_iterator_next ?_ (F.args_tuple_iterator_next_1 _)));show yn _ _ (field (.ref it) 0 >>= _) _ _ s;refine ya (YB hob hfs (x := .ref t) rfl ?_);show yn _ _ (if(yD t==Yi)=true then _ else field (.ref it) 1 >>= _) _ _ s;rw[if_neg (show ¬(yD t==Yi)=true from yx)];refine ya (YB hob hfs (x := .int i 0) rfl ?_);show yn _ _ (seqItems? (.ref t) >>= _) _ _ s;refine ya (wpAny_seqItems hot hits ?_);simp only[Ym,hx];refine ya (wpAny_rule (ya (YT hob hfs (by simp) ?_)));show yn _ _ (newExc (.type "StopIteration") [] >>= _) _ _ _;refine ya ?_;simp only[newExc,newTuple];refine ya (yS ?_ (by size_fits));refine ya (m:=firstArgMember _ _) (wpAny_of_eq (a:=Yi) (by first | rfl | (simp only[firstArgMember];rfl)) ?_);refine yS ?_ (by size_fits);simp only[raiseNew];refine ya (wpAny_handled ?_)
 first | rw[show A.in1.handled=none from hh] | rw[hh]
 exact ya (ye (wpAny_throw (hE _ _ (((Yv ..).extBut.push _).push _) ⟨_,yo _ rfl,rfl⟩)))
def zYn{e it:Addr}{i:Int}{x old:Value}{N:yP->Prop}{Q:Option Value->yb->Prop}(he:IsEnum s.heap e it i old)(hne:e≠it)
 (nx:∀(A':yH)(Q':Value->yb->Prop)(E':Value->yb->Prop),(∀h1,N h1->Yk it s.heap h1->Q' x {s with heap:=h1 })->yn (yr prog w) A' (YD (.ref it)) Q' E' s)
 (hN:∀h h',N h->(∀o,h.get? it=some o->h'.get? it=some o)->N h')
 (hQ:∀h',IsEnumOut h' e it (i+1) x s.heap.objs.size->N h'->h'.get? s.heap.objs.size=some {cls := .type "tuple",data := .seq #[.int i s.toks,x]}->h'.objs.size=s.heap.objs.size+1 ->
  (∀b o,b≠e->b≠it->s.heap.get? b=some o->h'.get? b=some o)->Q (some (.ref s.heap.objs.size)) {s with heap:=h',toks:=s.toks+1 }):yn (yr prog w) A (pyNext (.ref e)) Q E s:=by
 obtain⟨hp,g,d,tk,os⟩:=s;have hT:Shared.TypeIs ⟨hp,g,d,tk,os⟩ (.ref e) "enumerate":=⟨_,he,rfl⟩
 unfold pyNext;refine ya (wpAny_attempt (Yc (name:=YS "__next__") hT Xa (yU Xa hT F.entry_enumerate_next ?_ (F.args_enumerate_next_1 _))));show yn _ _ (field (.ref e) 2 >>= _) _ _ _;refine ya (YB he rfl (x := .ref it) rfl (ya (nx _ _ _ fun h1 n1 sb1=>?_)));replace sb1:Yk it hp h1:=sb1;have e1:IsEnum h1 e it i old:=(sb1.2 e hne).trans he;show yn _ _ (field (.ref e) 3 >>= _) _ _ ⟨h1,g,d,tk,os⟩;refine ya (YB e1 rfl (x:=Yz i) rfl ?_);show yn _ _ (field (.ref e) 4 >>= _) _ _ ⟨h1,g,d,tk,os⟩;refine ya (YB e1 rfl (x := .none) rfl ?_);show yn _ _ (mkInt i >>= _) _ _ ⟨h1,g,d,tk,os⟩;refine ya (wpAny_mkInt ?_);show yn _ _ (setField (.ref e) 3 (Yz (i+1)) >>= _) _ _ ⟨h1,g,d,tk+1,os⟩;refine ya (xO e1 (by simp) fun h2 e2 sb2=>?_);replace sb2:Yk e h1 h2:=sb2;replace e2:IsEnum h2 e it (i+1) old:=e2;show yn _ _ (setField (.ref e) 4 .none >>= _) _ _ ⟨h2,g,d,tk+1,os⟩;refine ya (xO e2 (by simp) fun h3 e3 sb3=>?_);replace sb3:Yk e h2 h3:=sb3;replace e3:IsEnum h3 e it (i+1) old:=e3;show yn _ _ (newTuple [.int i tk,x] >>= _) _ _ ⟨h3,g,d,tk+1,os⟩;refine ya (wpAny_newTuple ?_);have z3:h3.objs.size=hp.objs.size:=by rw[sb3.1,sb2.1,sb1.1]
 have el:e<hp.objs.size:=yj he;have ne4:hp.objs.size≠e:=yV el;obtain⟨h4,hh4⟩:∃h4,h4=h3.push {cls := .type "tuple",data := .seq #[.int i tk,x]}:=⟨_,rfl⟩
 have e4:IsEnum h4 e it (i+1) old:=by rw[hh4];exact yd _ e3
 have t4:h4.get? hp.objs.size=some {cls := .type "tuple",data := .seq #[.int i tk,x]}:=by rw[hh4,<-z3];exact yo _ rfl
 have z4:h4.objs.size=hp.objs.size+1:=by rw[hh4,Yl,z3]
 have up:∀b o,b≠e->h1.get? b=some o->h4.get? b=some o:=fun b o hb q=>by
  rw[hh4];exact yd _ ((sb3.2 b hb).trans ((sb2.2 b hb).trans q))
 show yn _ _ (Builtin.SmallTypes.ownedTupleIsFree (.ref e) >>= _) _ _ ⟨h3.push {cls := .type "tuple",data := .seq #[.int i tk,x]},g,d,tk+1,os⟩;rw[<-hh4,z3];refine ya ?_;unfold Builtin.SmallTypes.ownedTupleIsFree;refine ya (YB e4 rfl (x := .none) rfl (ye ?_));simp only[if_true];refine ya (wpAny_rule (ya (YB e4 rfl (x:=old) rfl (ya (xO e4 (by simp) fun h5 e5 sb5=>?_)))));replace sb5:Yk e h4 h5:=sb5;replace e5:IsEnum h5 e it (i+1) x:=e5;show yn _ _ (Builtin.SmallTypes.ownedTupleHandOut (.ref e) (.ref hp.objs.size) >>= _) _ _ ⟨h5,g,d,tk+1,os⟩;refine ya ?_;unfold Builtin.SmallTypes.ownedTupleHandOut;refine ya (xO e5 (by simp) fun h6 e6 sb6=>?_);replace sb6:Yk e h5 h6:=sb6;replace e6:IsEnumOut h6 e it (i+1) x hp.objs.size:=e6;refine xO e6 (by simp) fun h7 e7 sb7=>?_;replace sb7:Yk e h6 h7:=sb7;replace e7:IsEnumOut h7 e it (i+1) x hp.objs.size:=e7;have up7:∀b o,b≠e->h4.get? b=some o->h7.get? b=some o:=fun b o hb q=>(sb7.2 b hb).trans ((sb6.2 b hb).trans ((sb5.2 b hb).trans q));refine ya (wpAny_letGo (ye ⟨_,rfl,ye (hQ h7 e7 (hN _ _ n1 fun o q=>up7 _ _ (yN hne) (up _ _ (yN hne) q)) (up7 _ _ ne4 t4) ?_ fun b o h1 h2 q=>up7 _ _ h1 (up _ _ h1 ((sb1.2 b h2).trans q)))⟩));show h7.objs.size=hp.objs.size+1;rw[sb7.1,sb6.1,sb5.1,z4]
def z7o{e it:Addr}{i:Int}{old:Value}{Q:Option Value->yb->Prop}(he:IsEnum s.heap e it i old)
 (nx:∀(A':yH)(Q':Value->yb->Prop)(E':Value->yb->Prop),A'.handled=A.handled->(∀h' x,Heap.ExtBut it s.heap h'->(∃o,h'.get? x=some o/\o.cls = .type "StopIteration")->E' (.ref x) {s with heap:=h' })->yn (yr prog w) A' (YD (.ref it)) Q' E' s)
 (hQ:∀h',Heap.ExtBut it s.heap h'->Q none {s with heap:=h' }):yn (yr prog w) A (pyNext (.ref e)) Q E s:=by
 have hT:s.TypeIs (.ref e) "enumerate":=⟨_,he,rfl⟩
 unfold pyNext;refine ya (wpAny_attempt (Yc (name:=YS "__next__") hT Xa (yU Xa hT F.entry_enumerate_next ?_ (F.args_enumerate_next_1 _))));show yn _ _ (field (.ref e) 2 >>= _) _ _ _;refine ya (YB he rfl (x := .ref it) rfl (ya (nx _ _ _ rfl fun h' x eb ⟨o,ho,hc⟩=>?_)));exact ya (wpAny_isInstance (T:="StopIteration") (b:=true) ⟨o,ho,hc⟩ isSubtype_stop (ye (hQ _ eb)))
end
section
variable {X:Cx}{pins:List (Addr×YN)}{σ:L2.St}{H:Hp}{s:yb}
def z2l{fp:List Addr}(hf:∀b∈fp,zfp X pins H b){b:Addr}{u:HO}(e:H b=some u):b∉fp:=fun z=>by rw[(hf b z).1]at e;cases e
def zHy{fp:List Addr}(hf:∀b∈fp,zfp X pins H b):∀b∈fp,(b∈X.ex\/X.s₀.heap.objs.size<=b)/\b≠X.env.locals/\(∀x c,X.env.cells.lookup x=some c->c≠b)/\∀p∈X.pn++pins,p.1≠b:=fun b hb=>by
 obtain⟨_,f1,_,f3,f4,f5⟩:=hf b hb;exact⟨f3,f1,f4,f5⟩
def z9k{fp:List Addr}{h':yP}{t':Nat}(I:Inv X pins σ H s)(hf:∀b∈fp,zfp X pins H b)(k:∀b o,b∉fp->s.heap.get? b=some o->h'.get? b=some o):Inv X pins σ H {s with heap:=h',toks:=t' }:=by
 refine I.call (g':=s.gens) (t':=t') (d':=s.drawn) (ch:=fp) ⟨fun b o e _ _ hx=>k b o hx e,fun b o e _ _ hx=>⟨o.slots,k b o hx e⟩,fun _ _ _ n _=>n,fun b o e hx=>⟨o,k b o hx e⟩,fun _ _ e=>e,fun _ _ _ e=>e,fun _ ps e=>⟨#[],by rw[e];simp⟩⟩ (fun a o e=>?_) I.bare (zHy hf);refine(I.hok a o e).stay (fun b u hb q=>k b u ?_ q) (fun _ q=>q) fun _ _ q=>q;rcases hb with rfl | hb
 ·exact z2l hf e
 ·exact z2l hf hb
def zJe{fp:List Addr}{h':yP}{t':Nat}{p:Addr}{o:HO}(I:Inv X pins σ H s)(hf:∀b∈fp,zfp X pins H b)(k:∀b o,b∉fp->s.heap.get? b=some o->h'.get? b=some o)(hp:s.heap.objs.size<=p)
 (new:ObjOk X.prog X.w (upd H p o) h' p o):Inv X pins σ (upd H p o) {s with heap:=h',toks:=t' }:=by
 have hn:=I.hok.fresh hp;have hlt:∀b ob,s.heap.get? b=some ob->b≠p:=fun b ob e=>yz (yv (yj e) hp)
 refine I.call (g':=s.gens) (t':=t') (d':=s.drawn) (ch:=fp) ⟨fun b o e _ _ hx=>k b o hx e,fun b o e _ _ hx=>⟨o.slots,k b o hx e⟩,fun b ob e n _=>by rw[zH (hlt b ob e)];exact n,fun b o e hx=>⟨o,k b o hx e⟩,
  fun _ _ e=>by rw[zH (zC e hn)];exact e,fun _ _ _ e=>by rw[zH (zC e hn)];exact e,fun _ ps e=>⟨#[],by rw[zH (zC e hn),e];simp⟩⟩ (fun a u e=>?_) I.bare (zHy hf)
 by_cases ha:a=p
 ·subst ha;rw[zu]at e;cases e;exact new
 ·rw[zH ha]at e;refine(I.hok a u e).stay (fun b u hb q=>k b u ?_ q) (fun b q=>by rw[zH (zC q hn)];exact q) fun b xs q=>by rw[zH (zC q hn)];exact q
  rcases hb with rfl | hb
  ·exact z2l hf e
  ·exact z2l hf hb
def Ien(J:It):It:=⟨J.go,fun i H x H'=>∃p y,x = .ref p/\H p=none/\H'=upd H p (.tup [.int i,y])/\J.yld i H y H,J.stop⟩
def zIr{P:yw}{w:yF}{H:Hp}{h:yP}{p:Addr}{x y:V}{u v:Value}(e:h.get? p=some {cls := .type "tuple",data := .seq #[u,v]})(rx:RelV x u)(ry:RelV y v):ObjOk P w H h p (.tup [x,y]) :=
 ⟨by rw[Yp];simp,[u,v], .cons rx (.cons ry .nil),⟨_,e,rfl,_,rfl⟩⟩
def z0p{P:yw}{w:yF}{K:yu}{elts:List Expr}{x1}{pos:xp}(a e it:Addr)(hne:e≠it):Turn P w K (.Tuple elts x1 pos) (Ien (Itl K a)) [e,it] e (fun i h=>(∃old,IsEnum h e it i old)/\h.IsListIter it a i) where
 mem:=by simp
 obj:=fun i h ⟨⟨old,he⟩,st⟩ b hb=>by
  have hb:b=e\/b=it:=by simpa using hb
  rcases hb with rfl | rfl
  ·exact⟨_,he,fun v z=>by have z':Data.fields _=Data.cell v:=z;cases z'⟩
  ·obtain⟨o,q,c,d⟩:=st;exact⟨o,q,fun v z=>by rw[d]at z;cases z⟩
 keep:=fun i h h' ⟨⟨old,he⟩,st⟩ k=>⟨⟨old,k e (by simp) _ he⟩,st.at fun o q=>k it (by simp) o q⟩
 item:=by
  intro X hP hw hK hc i pins s σ H E I hf ⟨⟨old,he⟩,st⟩ hg;subst hP hw hK;obtain⟨xs,x,hq,hx⟩:=hg;obtain⟨its,rv,p,hz⟩:=I.list hq;obtain⟨u,hu,ru⟩:=rv.get hx;refine zYn (N:=fun h=>h.IsListIter it a (i+1)) he hne (fun A' Q' E' hQ=>wpAny_nextOf_list_item st p.isList (x:=u) (by simpa using hu) fun h' st' sb=>hQ h' st' sb) (fun h h' n k=>n.at fun o q=>k o q) fun h' eo n' t' z' kk=>?_;refine⟨_,rfl,wpAny_letOwnedTupleGo_enum eo fun h2 e2 sb2=>?_⟩;replace sb2:Yk e h' h2:=sb2;have hlt:e<s.heap.objs.size:=yj he;have t2:=(sb2.2 s.heap.objs.size (yV hlt)).trans t';have hfr:=I.hok.fresh (yi s.heap.objs.size)
  have I2:Inv X pins σ (upd H s.heap.objs.size (.tup [.int i,x])) {s with heap:=h2,toks:=s.toks+1 }:=by
   refine zJe I hf (fun b o hb q=>?_) (yi _) (zIr t2 ⟨_,rfl⟩ ru);simp only[mem_cons,not_mem_nil,or_false,not_or]at hb;exact(sb2.2 b hb.1).trans (kk b o hb.1 hb.2 q)
  refine⟨.ref s.heap.objs.size,_,I2,rfl,⟨_,x,rfl,hfr,rfl,rfl,fun ys hy=>by rw[I.list_inj hy hq];exact hx⟩,⟨⟨u,by simpa using e2⟩,n'.at fun o q=>(sb2.2 it (yN hne)).trans q⟩,fun b hb=>?_⟩
  ·rw[zH]
   ·exact(hf b hb).1
   ·rintro rfl;have hb:s.heap.objs.size=e\/s.heap.objs.size=it:=by simpa using hb
    rcases hb with q | q
    ·exact absurd hlt (by rw[q];exact yO _)
    ·obtain⟨o,qo,_⟩:=st;exact absurd (yj qo) (by rw[q];exact yO _)
 done:=by
  intro X hP hw hK hc i pins s σ H E I hf ⟨⟨old,he⟩,st⟩ hg;subst hP hw hK;obtain⟨xs,hq,hx⟩:=hg;obtain⟨its,rv,p,hz⟩:=I.list hq;have hl:=rv.length;refine z7o he (fun A' Q' E' hA hE=>wpAny_nextOf_list_end (hA.trans (I.ok.hd hc)) st p.isList (by simp;omega) hE) fun h' eb=>⟨rfl,z9k (t':=s.toks) I hf fun b o hb q=>eb b o (fun z=>hb (by simp[z])) q⟩
 self:=fun _ _ _ _ _ ⟨⟨old,he⟩,_⟩ h=>wpAny_pyIter_enum he h
def z1q{P:yw}{w:yF}{K:yu}{elts:List Expr}{x1}{pos:xp}(a e it:Addr)(hne:e≠it):Turn P w K (.Tuple elts x1 pos) (Ien (Itt K a)) [e,it] e (fun i h=>(∃old,IsEnum h e it i old)/\h.IsTupleIter it a i) where
 mem:=by simp
 obj:=fun i h ⟨⟨old,he⟩,st⟩ b hb=>by
  have hb:b=e\/b=it:=by simpa using hb
  rcases hb with rfl | rfl
  ·exact⟨_,he,fun v z=>by have z':Data.fields _=Data.cell v:=z;cases z'⟩
  ·obtain⟨o,q,c,d⟩:=st;exact⟨o,q,fun v z=>by rw[d]at z;cases z⟩
 keep:=fun i h h' ⟨⟨old,he⟩,st⟩ k=>⟨⟨old,k e (by simp) _ he⟩,st.at fun o q=>k it (by simp) o q⟩
 item:=by
  intro X hP hw hK hc i pins s σ H E I hf ⟨⟨old,he⟩,st⟩ hg;subst hP hw hK;obtain⟨xs,x,hq,hx⟩:=hg;obtain⟨its,rv,p,hz⟩:=I.tuple hq;obtain⟨u,hu,ru⟩:=rv.get hx;refine zYn (N:=fun h=>h.IsTupleIter it a (i+1)) he hne (fun A' Q' E' hQ=>nextT st (show s.heap.IsTuple a its.toArray from p) (x:=u) (by simpa using hu) fun h' st' sb=>hQ h' st' sb) (fun h h' n k=>n.at fun o q=>k o q) fun h' eo n' t' z' kk=>?_;refine⟨_,rfl,wpAny_letOwnedTupleGo_enum eo fun h2 e2 sb2=>?_⟩;replace sb2:Yk e h' h2:=sb2;have hlt:e<s.heap.objs.size:=yj he;have t2:=(sb2.2 s.heap.objs.size (yV hlt)).trans t';have hfr:=I.hok.fresh (yi s.heap.objs.size)
  have I2:Inv X pins σ (upd H s.heap.objs.size (.tup [.int i,x])) {s with heap:=h2,toks:=s.toks+1 }:=by
   refine zJe I hf (fun b o hb q=>?_) (yi _) (zIr t2 ⟨_,rfl⟩ ru);simp only[mem_cons,not_mem_nil,or_false,not_or]at hb;exact(sb2.2 b hb.1).trans (kk b o hb.1 hb.2 q)
  refine⟨.ref s.heap.objs.size,_,I2,rfl,⟨_,x,rfl,hfr,rfl,rfl,fun ys hy=>by rw[I.tuple_inj hy hq];exact hx⟩,⟨⟨u,by simpa using e2⟩,n'.at fun o q=>(sb2.2 it (yN hne)).trans q⟩,fun b hb=>?_⟩
  ·rw[zH]
   ·exact(hf b hb).1
   ·rintro rfl;have hb:s.heap.objs.size=e\/s.heap.objs.size=it:=by simpa using hb
    rcases hb with q | q
    ·exact absurd hlt (by rw[q];exact yO _)
    ·obtain⟨o,qo,_⟩:=st;exact absurd (yj qo) (by rw[q];exact yO _)
 done:=by
  intro X hP hw hK hc i pins s σ H E I hf ⟨⟨old,he⟩,st⟩ hg;subst hP hw hK;obtain⟨xs,hq,hx⟩:=hg;obtain⟨its,rv,p,hz⟩:=I.tuple hq;have hl:=rv.length;refine z7o he (fun A' Q' E' hA hE=>z3r (hA.trans (I.ok.hd hc)) st (show s.heap.IsTuple a its.toArray from p) (by simp;omega) hE) fun h' eb=>⟨rfl,z9k (t':=s.toks) I hf fun b o hb q=>eb b o (fun z=>hb (by simp[z])) q⟩
 self:=fun _ _ _ _ _ ⟨⟨old,he⟩,_⟩ h=>wpAny_pyIter_enum he h
def zss(l:Addr)(items:Array Value)(n:Nat)(dct:Option Addr)(sl:Array (Option Value)) :
 Meets (xy.«enumerate.__new__» ⟨[.type "enumerate", .ref l],[]⟩) (fun _ R s=>s.heap.get? l=some {cls := .type "tuple",dict:=dct,data := .seq items n,slots:=sl } /\
  R (.ok (.ret (.ref (s.heap.push {cls := .type "tuple_iterator",data := .fields #[.ref l, .int 0 0]}).objs.size)))
   {s with heap:=(s.heap.push {cls := .type "tuple_iterator",data := .fields #[.ref l, .int 0 0]}).push {cls := .type "enumerate",data := .fields #[.none, .bool false, .ref s.heap.objs.size,Yz 0, .none, .none]}}) :=
 .of_wp fun prog w A R s h=>by
  obtain⟨hp,g,d,tk,os⟩:=s;obtain⟨hl,h⟩:=h;have hsub:=sub_enumerate;have hL:Heap.IsTuple (Shared.heap ⟨hp,g,d,tk,os⟩) l items:=⟨_,hl,rfl,n,rfl⟩
  wp_walk using xI hl
  refine wpAny_stack_any fun st=>ye ?_
  split
  ·rename_i c _ _ _ _ _
   cases (c==YJ "enumerate")
   ·wp_walk using xI hl,wpAny_pyIter_tuple hL
    exact⟨_,rfl,h⟩
   ·wp_walk using xI hl,wpAny_pyIter_tuple hL
    exact⟨_,rfl,h⟩
  ·wp_walk using xI hl,wpAny_pyIter_tuple hL
   exact⟨_,rfl,h⟩
def ztq{prog:yw}{w:yF}{A:yH}{E:Value->yb->Prop}{l:Addr}{items:Array Value}{Q:Value->yb->Prop}(hL:s.heap.IsTuple l items)
 (h:∀h',IsEnum h' (s.heap.objs.size+1) s.heap.objs.size 0 .none->h'.IsTupleIter s.heap.objs.size l 0->h'.objs.size=s.heap.objs.size+2 ->
  (∀b o,s.heap.get? b=some o->h'.get? b=some o)->Q (.ref (s.heap.objs.size+1)) {s with heap:=h' }):yn (yr prog w) A (call (.type "enumerate") [.ref l]) Q E s:=by
 obtain⟨⟨c,dct,dt,sl⟩,hl,hc,n,hd⟩:=hL;replace hc:c = .type "tuple":=hc;replace hd:dt = .seq items n:=hd;subst hc hd;refine callType_new F.called_enumerate (by decide) (F.typeCall_enumerate_1 _) (F.newCall_enumerate_1 _) (fun obj=>F.args_object_init_2 obj _) F.entry_enumerate_new (zss l items n dct sl) ⟨hl,?_⟩;have hz:(s.heap.push {cls := .type "tuple_iterator",data := .fields #[.ref l, .int 0 0]}).objs.size=s.heap.objs.size+1:=Yl ..
 have he:IsEnum ((s.heap.push {cls := .type "tuple_iterator",data := .fields #[.ref l, .int 0 0]}).push {cls := .type "enumerate",data := .fields #[.none, .bool false, .ref s.heap.objs.size,Yz 0, .none, .none]}) (s.heap.objs.size+1) s.heap.objs.size 0 .none:=by
  have:=yo (s.heap.push {cls := .type "tuple_iterator",data := .fields #[.ref l, .int 0 0]}) (o:={cls := .type "enumerate",data := .fields #[.none, .bool false, .ref s.heap.objs.size,Yz 0, .none, .none]}) rfl;rw[hz]at this;exact this
 show _/\_;rw[hz];exact⟨⟨_,he,rfl⟩,h _ he ⟨_,yd _ (yo _ rfl),rfl,rfl⟩ (by rw[Yl,hz]) fun b o x=>yd _ (yd _ x)⟩
def zgA(K:yu)(tl:TE):TI:=fun σ H R=>tl σ H fun x H1=>∃a,x = .ref a/\((∃xs,SqL K H1 a xs)/\R (Ien (Itl K a)) H1\/(∃xs,SqT K H1 a xs)/\R (Ien (Itt K a)) H1)
def zBv{l:Expr}{tl:TE}{elts:List Expr}{x1}{tp p pos:xp}(hg:Gl X "enumerate")(hm:X.mg "enumerate" = none)(hv:yQ "enumerate" = some (.type "enumerate"))(hl:PE X l tl)(hs:yf [l] X.env=[(false,yW l X.env)]:=by rfl) :
 PI X (.Tuple elts x1 tp) (.Call (.Name "enumerate" p) [l] [] pos) (zgA X.K tl):=by
 intro pins s σ H R I h
 refine Call_ (zfl I hg hm hv (YM (thn (zLe hl zUh hs pos pins s σ H (fun vs H1=>match vs with
  |[x]=>∃a,x = .ref a/\((∃xs,SqL X.K H1 a xs)/\R (Ien (Itl X.K a)) H1\/(∃xs,SqT X.K H1 a xs)/\R (Ien (Itt X.K a)) H1)
  |_=>False) I h) fun us s1 ⟨vs,H1,I1,r1,q1⟩=>?_) hs rfl))
 dsimp only at q1
 split at q1
 case h_2=>exact q1.elim
 obtain⟨a,e,q⟩:=q1;subst e
 cases r1 with
 |cons r rr=>
  cases rr;cases r
  have fin:∀h':yP,(∀b o,s1.heap.get? b=some o->h'.get? b=some o)->∀b∈[s1.heap.objs.size+1,s1.heap.objs.size],zfp X pins H1 b:=fun h' kp b hb=>by
   have hb:b=s1.heap.objs.size+1\/b=s1.heap.objs.size:=by simpa using hb
   rcases hb with rfl | rfl
   ·exact I1.fpOk (xD _) (I1.hok.fresh (xD _))
   ·exact I1.fpOk (yi _) (I1.hok.fresh (yi _))
  have hne:s1.heap.objs.size+1≠s1.heap.objs.size:=Nat.succ_ne_self _;rcases q with ⟨⟨xs,hq⟩,q⟩ | ⟨⟨xs,hq⟩,q⟩
  ·obtain⟨its,rv,pl,hz⟩:=I1.list hq;refine call_enumerate_list pl.isList fun h' e1 i1 z1 kp=>?_;refine wpAny_pyIter_enum (s:={s1 with heap:=h' }) e1 ?_;exact⟨_,[s1.heap.objs.size+1,s1.heap.objs.size],_,_,H1,rfl,I1.kept (t':=s1.toks) kp,z0p a _ _ hne,⟨⟨_,e1⟩,i1⟩,fin h' kp,q⟩
  ·obtain⟨its,rv,pl,hz⟩:=I1.tuple hq;refine ztq (show s1.heap.IsTuple a its.toArray from pl) fun h' e1 i1 z1 kp=>?_;refine wpAny_pyIter_enum (s:={s1 with heap:=h' }) e1 ?_;exact⟨_,[s1.heap.objs.size+1,s1.heap.objs.size],_,_,H1,rfl,I1.kept (t':=s1.toks) kp,z1q a _ _ hne,⟨⟨_,e1⟩,i1⟩,fin h' kp,q⟩
def zxg(ds:List D):List D:=ds.zipIdx.map fun p => .tup [.int (p.2:Nat),p.1]
def zsd(ds:List D):(zxg ds).length=ds.length:=by simp[zxg]
def z5l{ds:List D}{i:Nat}{d:D}(h:(zxg ds)[i]?=some d):∃y,ds[i]?=some y/\d = .tup [.int i,y]:=by
 unfold zxg at h;rw[yh,Xk]at h
 cases e:ds[i]? with
 |none=>rw[e]at h;cases h
 |some y=>
  rw[e]at h;refine⟨y,rfl,?_⟩;have:=Yd h;rw[<-this];simp
@[simp] def zzm(φ:FE):FI:=fun δ μ=>(φ δ μ).bind fun p=>match p.1 with
 |.tup ds=>some (zxg ds,yes,p.2)
 |.fz ds=>some (zxg ds,yes,p.2)
 |.loc n=>match p.2[n]? with
  |some (.lst ds)=>some (zxg ds,zmn n ds,p.2)
  |_=>none
 |_=>none
def zmo{K:yu}{J:It}{ρ:List Addr}{H:Hp}{ds:List D}{ok:Mem->Bool}(h:ItIs K J ρ H ds ok):ItIs K (Ien J) ρ H (zxg ds) ok:=by
 refine⟨fun ρ' H' μ' i x R o hi=>h.go ρ' H' μ' i x R o (by rw[zsd]at hi;exact hi),fun ρ' H' μ' i x H'' d x' R o e ⟨p,y,e1,hp,e2,yl⟩=>?_,fun ρ' H' μ' x R o=>by rw[zsd];exact h.stop ρ' H' μ' x R o⟩;obtain⟨z,ez,rfl⟩:=z5l e;obtain⟨_,_,rz⟩:=h.yld ρ' H' μ' i y H' z x' R o ez yl;subst e1 e2;exact⟨Ext.new hp,R.newTup hp, .tup zu (.cons .int (.cons (rz.ext (Ext.new hp)) .nil))⟩
def zVg{a:Expr}{φ:FE}{elts:List Expr}{x1}{tp p pos:xp}(hm:X.mg "enumerate" = none)(hv:yQ "enumerate" = some (.type "enumerate"))(h:ME X a φ)(hg:Gl X "enumerate":=by rfl)(hs:yf [a] X.env=[(false,yW a X.env)]:=by rfl) :
 MI X (.Tuple elts x1 tp) (.Call (.Name "enumerate" p) [a] [] pos) (zzm φ) :=
 z4s (zBv hg hm hv h hs) fun ρ δ μ σ H ds ok μ' R A e k=>by
  obtain⟨⟨x,μ1⟩,e1,e⟩:=zh e;refine⟨ρ,δ,μ,x,μ1,A,e1,fun ρ1 H1 v1 x1 R1 r1=>?_⟩;dsimp only at e
  split at e
  ·cases e;obtain⟨a,vs,rfl,e2,q2⟩:=r1.tup_inv;exact⟨a,rfl, .inr ⟨⟨vs,SqT.of e2⟩,k ρ1 H1 _ x1 R1 (zmo (zQu e2 q2))⟩⟩
  ·cases e;obtain⟨a,vs,rfl,e2,q2⟩:=r1.fz_inv;exact⟨a,rfl, .inl ⟨⟨vs,e2.sq⟩,k ρ1 H1 _ x1 R1 (zmo (ztp fun ρ' H' μ' x _ _=>⟨vs,(x.fz e2).sq,q2.ext x⟩))⟩⟩
  ·split at e
   ·rename_i hm
    cases e;obtain⟨a,rfl,e2⟩:=r1.loc_inv;obtain⟨vs,e3,q3⟩:=R1.at_ _ _ _ e2 hm;refine⟨a,rfl, .inl ⟨⟨vs,SqL.of e3⟩,k ρ1 H1 _ x1 R1 (zmo (ztp fun ρ' H' μ'' x R' o=>?_))⟩⟩;obtain⟨vs',e4,q4⟩:=R'.at_ _ _ _ (x.get e2) (stays_iff.mp o);exact⟨vs',SqL.of e4,q4⟩
   ·cases e
  ·cases e
end
section
variable {X:Cx}{a b c e:Expr}{es:List Expr}{φ ψ χ:FE}{pos:xp}
@[simp] def zgk:GM:=fun x ds μ=>match x,ds with
 |.loc n,[d]=>match μ[n]? with
  |some (.lst xs)=>bif z2c d&&xs.all z2c then some (.int (xs.countP fun y=>eqF y d:Nat),μ) else none
  |_=>none
 |_,_=>none
def zTm{x:V}:∀{xs:List V} {us:List Value},Vals xs us->xs.all ztk=true->us.countP (eqU x)=xs.countP fun y=>eqV y x
 |_,_, .nil,_=>rfl
 |y::xs,u::us, .cons r t,f=>by
  rw[all_cons,yE]at f;rw[countP_cons,countP_cons,zZs r f.1,zTm t f.2]
def zVn{K:yu}{ρ:List Addr}{H:Hp}{x:D}{v:V}(rx:RepV K ρ H x v)(fx:z2c x=true):∀{ds:List D} {vs:List V},RepVs K ρ H ds vs->ds.all z2c=true->(vs.countP fun y=>eqV y v)=ds.countP fun d=>eqF d x
 |[],_,r,_=>by rw[r.nil_inv];rfl
 |d::ds,_,r,f=>by
  obtain⟨w,ws,rfl,r1,r2⟩:=r.cons_inv;rw[all_cons,yE]at f;rw[countP_cons,countP_cons,zVn rx fx r2 f.2,zps r1 rx f.1 fx]
def zMr:MtG X "list.count" zgk:=by
 refine MtG.of fun pins s σ H x xs v us Q I rx rs ρ dx ds μ d μ' r1 r2 R e k=>?_;unfold zgk at e
 split at e
 ·split at e
  ·rename_i hm
   obtain⟨h1,e⟩:=zQ e;rw[yE]at h1;cases e;obtain⟨a,rfl,ea⟩:=r1.loc_inv;obtain⟨vs,e3,q3⟩:=R.at_ _ _ _ ea hm;obtain⟨w,r,rfl,q1,q2⟩:=r2.cons_inv;rw[q2.nil_inv]at rs;obtain⟨u,rfl,ru⟩:=vals1 rs;cases rx;obtain⟨z,its,n,rv,hl,el⟩:=I.lstM e3;obtain⟨fv,_⟩:=zQp q1 h1.1 q3 h1.2;refine Xh PySem.F.slot_list_count ⟨_,el,rfl⟩ PySem.F.entry_list_count (PySem.F.args_list_count_2 _ _) (SeqAt.list_countAt a its.toArray n _ _ u (eqU w)) ⟨el,fun y hy=>zhg ru (zjj q1 h1.1) rv fv y (by simpa using hy),?_⟩;refine⟨.int _,H,I.tok _,⟨_,rfl⟩,?_⟩;rw[show its.toArray.toList=its by simp,zTm rv fv,zVn q1 h1.1 q3 h1.2];exact k ρ H _ Ext.refl R .int
  ·cases e
 ·cases e
def zCt{o:Expr}{ψ:FA}{apos:xp}(ho:ME X o φ)(ha:MAn X (e::es) ψ)
 (hbase:Yu o "count" X.env (yW o X.env)=yW o X.env:=by rfl)
 (hfew:((yZ pos (yf (e::es) X.env)).all (fun x=>!x.1)&&(xt pos (YA [] X.env)).all (fun x=>x.1.isSome)
  && decide ((e::es).length+([]:List xj).length+(if([]:List xj).isEmpty then 0 else 1)<30))=true:=by rfl)
 (hline:(apos.endLine==pos.line)=true:=by rfl) (hs:yf (e::es) X.env=(false,yW e X.env)::yf es X.env:=by rfl) (hplain:(yZ pos (yf es X.env)).any (·.1)=false:=by rfl) :
 ME X (.Call (.Attribute o "count" apos) (e::es) [] pos) (zRf zgk φ ψ):=zwk PySem.F.slot_list_count PySem.F.type_list_count zMr ho ha hbase hfew hline hs hplain
@[simp] def zgi:GM:=fun x ds μ=>match x,ds with
 |.loc n,[.int i]=>match μ[n]? with
  |some (.lst xs)=>(zfi xs).bind fun ns=>bif ns.contains i then some (.non,μ.set n (.lst ((ns.erase i).map .int))) else none
  |_=>none
 |_,_=>none
def zAp{i:Int}:∀{ns:List Int},i∈ns->∃j,∃hj:j<ns.length,ns[j]=i/\(∀m (hm:m<ns.length),m<j->ns[m]≠i)/\ns.erase i=ns.eraseIdx j
 |[],h=>by cases h
 |n::ns,h=>by
  by_cases hn:n=i
  ·exact⟨0,by simp,hn,fun m _ hm=>absurd hm (Nat.not_lt_zero _),by simp[hn]⟩
  ·have h':i∈ns:=by
    rcases List.mem_cons.mp h with h | h
    ·exact absurd h.symm hn
    ·exact h
   obtain⟨j,hj,e1,e2,e3⟩:=zAp h';refine⟨j+1,by simpa using hj,by simpa using e1,fun m hm hmj=>?_,?_⟩
   ·cases m with
    |zero=>simpa using hn
    |succ m=>simpa using e2 m (by simpa using hm) (by omega)
   ·rw[List.erase_cons_tail (by simpa using hn),e3,List.eraseIdx_cons_succ]
def znn{α β:Type}(f:α->β):∀(l:List α)(j:Nat),(l.eraseIdx j).map f=(l.map f).eraseIdx j
 |[],j=>by simp
 |x::l,0=>by simp
 |x::l,j+1=>by simp[znn f l j]
def zyl:∀{vs:List V} {us:List Value} (j:Nat),Vals vs us->Vals (vs.eraseIdx j) (us.eraseIdx j)
 |_,_,_, .nil=>by simp;exact .nil
 |_,_,0, .cons r t=>by simpa using t
 |_,_,j+1, .cons r t=>by rw[List.eraseIdx_cons_succ,List.eraseIdx_cons_succ];exact .cons r (zyl j t)
def zuq:MtG X "list.remove" zgi:=by
 refine MtG.of fun pins s σ H x xs v us Q I rx rs ρ dx ds μ d μ' r1 r2 R e k=>?_;unfold zgi at e
 split at e
 ·rename_i l i
  split at e
  ·rename_i hm
   obtain⟨ns,e2,e⟩:=zh e;obtain⟨h1,e⟩:=zQ e;cases e;rw[zVe e2]at hm;obtain⟨a,rfl,ea⟩:=r1.loc_inv;obtain⟨vs,e3,q3⟩:=R.at_ _ _ _ ea hm;rw[zmh q3]at e3;obtain⟨w,r,rfl,q1,q2⟩:=r2.cons_inv;rw[q2.nil_inv,q1.int_inv]at rs;obtain⟨u,rfl,ru⟩:=vals1 rs;obtain⟨t,rfl⟩:=ru;cases rx;obtain⟨z,its,n,rv,hl,el⟩:=I.lstM e3;obtain⟨j,hj,hit,hno,her⟩:=zAp (show i∈ns by simpa using h1);have hlen:its.length=ns.length:=by rw[<-rv.length];simp
   have at_:∀m (hm:m<its.length),∃t,its[m] = .int (ns[m]'(by omega)) t:=fun m hm=>by
    have hg:(ns.map V.int)[m]?=some (.int (ns[m]'(by omega))):=by simp[show m<ns.length by omega]
    obtain⟨u,hu,t,ru⟩:=rv.get hg;exact⟨t,by rw[<-ru];exact(List.getElem?_eq_some_iff.mp hu).2⟩
   let f:Value->Bool:=fun y=>match y with | .int z _=>z==i | _=>false
   have hz':its.length<=yB:=by rw[<-rv.length];exact z
   refine Xh PySem.F.slot_list_remove ⟨_,el,rfl⟩ PySem.F.entry_list_remove (PySem.F.args_list_remove_2 _ _)
    (MeetsSeq.list_remove a its.toArray n (.int i t) f (fun y hy=>?_) j (by simp;omega) ?_ (fun m hm hmj=>?_) (by simpa using hz')) ⟨el,?_⟩
   ·obtain⟨m,hm,rfl⟩:=List.mem_iff_getElem.mp (show y∈its by simpa using hy);obtain⟨t',e'⟩:=at_ m hm;rw[e'];exact MeetsSeq.EqGives.int _ _ _ _
   ·obtain⟨t',e'⟩:=at_ j (by omega);show f its[j]=true;rw[e'];simp[f,hit]
   ·have hm':m<its.length:=by simpa using hm
    obtain⟨t',e'⟩:=at_ m hm';show f its[m]=false;rw[e'];simpa[f] using hno m (by omega) hmj
   ·have hmu:Mut (H a):=by rw[e3];trivial
    refine⟨.non,_,I.lset (t':=s.toks) (ys:=(ns.erase i).map V.int) (its':=its.eraseIdx j) e3 el ?_ ?_ ?_,rfl,k ρ _ _ (Ext.wr hmu) (R.wr hmu ea ⟨_,zu,zCf⟩) .non⟩
    ·simp[Array.eraseIdxIfInBounds,show j<its.length by omega]
    ·rw[her,znn];exact zyl j rv
    ·have:(ns.erase i).length<=ns.length:=by rw[her];exact List.length_eraseIdx_le _ _
     rw[length_map]at z ⊢;omega
  ·cases e
 ·cases e
def z7q{o:Expr}{ψ:FA}{apos:xp}(ho:ME X o φ)(ha:MAn X (e::es) ψ)
 (hbase:Yu o "remove" X.env (yW o X.env)=yW o X.env:=by rfl)
 (hfew:((yZ pos (yf (e::es) X.env)).all (fun x=>!x.1)&&(xt pos (YA [] X.env)).all (fun x=>x.1.isSome)
  && decide ((e::es).length+([]:List xj).length+(if([]:List xj).isEmpty then 0 else 1)<30))=true:=by rfl)
 (hline:(apos.endLine==pos.line)=true:=by rfl) (hs:yf (e::es) X.env=(false,yW e X.env)::yf es X.env:=by rfl) (hplain:(yZ pos (yf es X.env)).any (·.1)=false:=by rfl) :
 ME X (.Call (.Attribute o "remove" apos) (e::es) [] pos) (zRf zgi φ ψ):=zwk PySem.F.slot_list_remove PySem.F.type_list_remove zuq ho ha hbase hfew hline hs hplain
@[simp] def z3x(i:Nat)(g:G2)(φ:FE):FS:=fun δ μ=>match δ[i]? with
 |some (some x)=>(φ δ μ).bind fun p=>(g x p.1 p.2).bind fun q=>some (.next (δ.set i (some q.1)) q.2)
 |_=>none
def zEu:G2:=fun x y μ=>match x,y with
 |.int i, .int j=>some (.int (i+j),μ)
 |_,_=>none
def ztw:OpM X (inplaceOp .Add) zEu:=by
 refine OpM.of fun pins s σ H x y v u Q I rx ry ρ dx dy μ d μ' r1 r2 R e k=>?_;unfold zEu at e
 split at e
 ·cases e;exact ziw pins s σ H x y v u Q I rx ry ⟨_,_,r1.int_inv,r2.int_inv,k ρ H _ Ext.refl R .int⟩
 ·cases e
def zPx{x:Str}{op:Operator}{g:G2}{pos':xp}(i:Nat)(ho:OpM X (inplaceOp op) g)(he:ME X e φ)(hN:X.N.Nodup:=by assumption)(hi:X.N[i]?=some x:=by rfl)(hx:L2.Loc X.env.scope x:=by first | exact Or.inl rfl | exact Or.inr rfl)
 (hf:X.fn x=true\/X.env.scope.names.lookup x=some .local:=by first | exact .inl rfl | exact .inr rfl | assumption):MS X (.AugAssign (.Name x pos') op e pos) (z3x i g φ) :=
 zGj (zUx (ti:=rM X.K g) hN hi hx he (fun pins s σ H x y v u Q I rx ry q=>ho pins s σ H x y v u Q I rx ry q) hf) fun ρ δ μ σ H o E A e k=>by
  unfold z3x at e
  split at e
  ·rename_i d hd
   obtain⟨v,hv,rv⟩:=A.st i _ hd;obtain⟨⟨y,μ1⟩,e1,e⟩:=zh e;obtain⟨⟨z,μ2⟩,e2,e⟩:=zh e;cases e;refine⟨v,hv,ρ,δ,μ,y,μ1,A,e1,fun ρ1 H1 w x1 R1 r1=>?_⟩;refine⟨ρ1,d,y,μ1,z,μ2,rv.ext x1,r1,R1,e2,fun ρ2 H2 w2 x2 R2 r2=>?_⟩;exact k ρ2 _ H2 (x1.trans x2) ((A.ext (x1.trans x2) R2).set r2 i)
  ·cases e
def zbc(c:FT)(body:FS):Nat->FS
 |0,_,_=>none
 |n+1,δ,μ=>(c δ μ).bind fun p=>bif p.1 then(match body δ p.2 with
  |some (.next δ' μ')=>zbc c body n δ' μ'
  |some (.cont δ' μ')=>zbc c body n δ' μ'
  |some (.brk δ' μ')=>some (.next δ' μ')
  |some (.ret d μ')=>some (.ret d μ')
  |some (.exc C fs μ')=>some (.exc C fs μ')
  |none=>none) else some (.next δ p.2)
def zLn(n:Nat)(c:FT)(body:FS):FS:=zbc c body n
def zVl{body:List Stmt}{t:FT}{p:FS}(n:Nat)(hc:MT X c t)(hb:MSs X body p)(hx:PassesOwn (yr X.prog X.w) X.A X.env X.xe:=by first | exact PassesOwn.never | exact PassesOwn.leaving):MS X (.While c body [] pos) (zLn n t p) :=
 zGj (zqt hx hc hb) fun ρ δ μ σ H o E A e k=>by
  refine⟨fun m σ' H'=>∃ρ' δ' μ',Ext ρ H ρ' H'/\At X.K ρ' H' σ' δ' μ'/\zbc t p m δ' μ'=some o,⟨n,ρ,δ,μ,Ext.refl,A,e⟩,?_⟩;rintro m σ' H' ⟨ρ',δ',μ',x',A',ew⟩
  cases m with
  |zero=>cases ew
  |succ m=>
   unfold zbc at ew;obtain⟨⟨b,μ1⟩,e1,ew⟩:=zh ew;refine⟨ρ',δ',μ',b,μ1,A',e1,fun ρ1 H1 x1 R1=>?_⟩;have xx:=x'.trans x1
   cases b with
   |false=>
    cases ew;exact iteF (k ρ1 σ' H1 xx (A'.ext x1 R1))
   |true=>
    refine iteT ⟨fun σ3 H3=>∃ρ3 δ3 μ3,Ext ρ H ρ3 H3/\At X.K ρ3 H3 σ3 δ3 μ3/\zbc t p m δ3 μ3=some o,fun σ3 H3 q=>⟨m,Yq _,q⟩,?_⟩;dsimp only[cond_true]at ew
    cases eb:p δ' μ1 with
    |none=>rw[eb]at ew;cases ew
    |some ob=>
     rw[eb]at ew;refine⟨ρ1,δ',μ1,ob,A'.ext x1 R1,eb,?_⟩
     cases ob with
     |next δ6 μ6=>exact fun ρ6 σ6 H6 x6 A6=>⟨ρ6,δ6,μ6,xx.trans x6,A6,ew⟩
     |cont δ6 μ6=>exact fun ρ6 σ6 H6 x6 A6=>⟨ρ6,δ6,μ6,xx.trans x6,A6,ew⟩
     |brk δ6 μ6=>cases ew;exact k.ext xx
     |ret d μ6=>cases ew;exact k.ext xx
     |exc C fs μ6=>cases ew;exact k.ext xx
end
section
variable {X:Cx}{a b c e:Expr}{es:List Expr}{φ ψ χ:FE}{pos:xp}
end
end M
namespace L2
open PySem PySem.Spec PyProof.Rows
section
variable {κ:Type}[DecidableEq κ]
def zvp(kvs:List (κ×V))(k:κ):Option V:=(kvs.find? fun kv=>decide (kv.1=k)).map (·.2)
def zFe(kvs:List (κ×V))(k:κ)(v:V):List (κ×V) :=
 if(kvs.any fun kv=>decide (kv.1=k))=true then kvs.map (fun kv=>if kv.1=k then(kv.1,v) else kv) else kvs++[(k,v)]
def zkp{p:κ×V}{r:List (κ×V)}{k:κ}(e:p.1=k):zvp (p::r) k=some p.2:=by simp[zvp,xR,e]
def zVo{p:κ×V}{r:List (κ×V)}{k:κ}(e:¬p.1=k):zvp (p::r) k=zvp r k:=by simp[zvp,xR,e]
def zdo(kvs:List (κ×V))(k:κ)(v:V):(zFe kvs k v).length<=kvs.length+1:=by
 unfold zFe
 split
 ·rw[length_map];omega
 ·rw[length_append,length_cons,List.length_nil];omega
def RelO.isSome_eq{o:Option V}{u:Option Value}(r:RelO o u):o.isSome=u.isSome:=by
 cases o with
 |none=>cases u with
  |none=>rfl
  |some _=>exact(show False from r).elim
 |some _=>cases u with
  |none=>exact(show False from r).elim
  |some _=>rfl
def KV.val{kvs:List (κ×V)}{vs:List (κ×Value)}(r:KV kvs vs)(k:κ):RelO (zvp kvs k) (valueAt vs k):=by
 unfold KV at r
 induction r with
 |nil=>exact True.intro
 |@cons p q ps qs h t ih=>
  obtain⟨h1,h2⟩:=h
  by_cases e:p.1=k
  ·have e':q.1=k:=h1.symm.trans e;have b:valueAt (q::qs) k=some q.2:=by simp[valueAt,xR,e']
   rw[zkp e,b];exact h2
  ·have e':¬q.1=k:=fun z=>e (h1.trans z);have b:valueAt (q::qs) k=valueAt qs k:=by simp[valueAt,xR,e']
   rw[zVo e,b];exact ih
def KV.any{kvs:List (κ×V)}{vs:List (κ×Value)}(r:KV kvs vs)(k:κ):(kvs.any fun kv=>decide (kv.1=k))=vs.any fun kv=>decide (kv.1=k):=by
 unfold KV at r
 induction r with
 |nil=>rfl
 |cons h t ih=>rw[any_cons,any_cons,ih,h.1]
def KV.repl{kvs:List (κ×V)}{vs:List (κ×Value)}(r:KV kvs vs)(k:κ){y:V}{u:Value}(ry:RelV y u) :
 KV (kvs.map fun kv=>if kv.1=k then(kv.1,y) else kv) (vs.map fun kv=>if kv.1=k then(kv.1,u) else kv):=by
 unfold KV at r ⊢
 induction r with
 |nil=>exact .nil
 |@cons p q ps qs h t ih=>
  rw[map_cons,map_cons];refine .cons ?_ ih;obtain⟨h1,h2⟩:=h
  by_cases e:p.1=k
  ·rw[if_pos e,if_pos (h1.symm.trans e)];exact⟨h1,ry⟩
  ·rw[if_neg e,if_neg (fun z=>e (h1.trans z))];exact⟨h1,h2⟩
def KV.put{kvs:List (κ×V)}{vs:List (κ×Value)}(r:KV kvs vs)(k:κ){y:V}{u:Value}(ry:RelV y u):KV (zFe kvs k y) (stored vs k u):=by
 unfold zFe stored;rw[r.any k]
 by_cases e:(vs.any fun kv=>decide (kv.1=k))=true
 ·rw[if_pos e,if_pos e];exact r.repl k ry
 ·rw[if_neg e,if_neg e];exact Paired.snoc r ⟨rfl,ry⟩
def KV.keys{kvs:List (κ×V)}{vs:List (κ×Value)}(r:KV kvs vs):kvs.map (·.1)=vs.map (·.1):=by
 unfold KV at r
 induction r with
 |nil=>rfl
 |cons h t ih=>rw[map_cons,map_cons,ih,h.1]
def KV.length{kvs:List (κ×V)}{vs:List (κ×Value)}(r:KV kvs vs):kvs.length=vs.length:=Paired.length r
end
def zBq{P:yw}{w:yF}{k:Key}{u:Value}(r:RelV (kV k) u):(zXb P w).is k u=true:=by
 cases k with
 |inl i=>obtain⟨t,e⟩:=(show ∃t,u=Value.int i t from r);subst e;exact zxo P w i t
 |inr x=>obtain⟨t,e⟩:=(show ∃t,u=Value.str x t from r);subst e;exact zwo P w x t
def zNv{P:yw}{w:yF}{H:Hp}{h:yP}{a:Addr}{kvs:List (Key×V)}(ok:HOk P w H h)(e:H a=some (.dK kvs)):kvs.length<=yB/\(a==sysModules)=false/\∃vs,KV kvs vs/\h.DictOf (zXb P w) a vs :=
 show ObjOk P w H h a (.dK kvs) from ok a _ e
end L2
namespace M
open PySem PySem.Spec PyProof.Rows L2
def z0c(kvs:List (Int×D))(i:Int):Option D:=(kvs.find? fun p=>decide (p.1=i)).map (·.2)
def znq(kvs:List (Int×D))(i:Int)(d:D):List (Int×D):=if(kvs.any fun p=>decide (p.1=i))=true then kvs.map (fun p=>if p.1=i then(p.1,d) else p) else kvs++[(i,d)]
@[simp] def ztc(μ:Mem):D->Option (List (Int×D))
 |.loc n=>match μ[n]? with
  |some (.dct kvs)=>some kvs
  |some (.dcf kvs)=>some kvs
  |_=>none
 |_=>none
def RdK(H:Hp)(a:Addr)(vs:List (Key×V)):Prop:=H a=some (.dK vs)\/∃o,H a=some (.frz o (.dK vs))
def zEh{P:yw}{w:yF}{H:Hp}{h:yP}{a:Addr}{kvs:List (Key×V)}(ok:HOk P w H h)(e:RdK H a kvs):kvs.length<=yB/\(a==sysModules)=false/\∃vs,KV kvs vs/\h.DictOf (zXb P w) a vs:=by
 rcases e with e | ⟨o,e⟩
 ·exact zNv ok e
 ·exact(show ObjOk P w H h a (.frz o (.dK kvs)) from ok a _ e).2
section
variable {K:yu}{ρ:List Addr}{H:Hp}{μ:Mem}
def zlf{d:D}{v:V}{kvs:List (Int×D)}(R:RepH K ρ H μ)(r:RepV K ρ H d v)(e:ztc μ d=some kvs):∃p vs,v = .ref p/\RdK H p vs/\vs.map (·.1)=kvs.map (fun p=>yG p.1)/\RepVs K ρ H (kvs.map (·.2)) (vs.map (·.2)):=by
 unfold ztc at e
 split at e
 ·split at e
  ·rename_i hm
   cases e;obtain⟨a,e1,e2⟩:=r.loc_inv;obtain⟨vs,e3,q1,q2⟩:=R.at_ _ _ _ e2 hm;exact⟨a,vs,e1, .inl e3,q1,q2⟩
  ·rename_i hm
   cases e;obtain⟨a,e1,e2⟩:=r.loc_inv;obtain⟨o,vs,e3,q1,q2⟩:=R.at_ _ _ _ e2 hm;exact⟨a,vs,e1, .inr ⟨o,e3⟩,q1,q2⟩
  ·cases e
 ·cases e
def zmg:∀{kvs:List (Int×D)} {vs:List (Key×V)} (i:Int),vs.map (·.1)=kvs.map (fun p=>yG p.1)->RepVs K ρ H (kvs.map (·.2)) (vs.map (·.2)) ->
 (∀d,z0c kvs i=some d->∃v,zvp vs (yG i)=some v/\RepV K ρ H d v)/\(z0c kvs i=none->zvp vs (yG i)=none)
 |[],vs,i,h1,h2=>by
  have:vs=[]:=by simpa using h1
  subst this;exact⟨fun d h=>(by cases h),fun _=>rfl⟩
 |(j,d)::kvs,vs,i,h1,h2=>by
  cases vs with
  |nil=>simp at h1
  |cons q vs=>
   obtain⟨k,v⟩:=q;rw[map_cons,map_cons,YY]at h1;obtain⟨hk,h1⟩:=h1;have hk:k=yG j:=hk;subst hk;obtain⟨v',r,e,q1,q2⟩:=h2.cons_inv;rw[map_cons,YY]at e;obtain⟨e1,e2⟩:=e;subst e2;have e1:v=v':=e1;subst e1;obtain⟨ih1,ih2⟩:=zmg i h1 q2
   by_cases hj:j=i
   ·subst hj;have a1:z0c ((j,d)::kvs) j=some d:=by simp[z0c]
    have a2:zvp ((yG j,v)::vs) (yG j)=some v:=zkp rfl;rw[a1,a2];exact⟨fun d' h=>(by cases h;exact⟨v,rfl,q1⟩),fun h=>(by cases h)⟩
   ·have a1:z0c ((j,d)::kvs) i=z0c kvs i:=by simp[z0c,hj]
    have a2:zvp ((yG j,v)::vs) (yG i)=zvp vs (yG i):=zVo (fun z=>hj (by simpa using z));rw[a1,a2];exact⟨ih1,ih2⟩
def z0g(kvs:List (Int×D))(vs:List (Key×V))(i:Int)(d:D)(v:V)(h:vs.map (·.1)=kvs.map (fun p=>yG p.1)):(zFe vs (yG i) v).map (·.1)=(znq kvs i d).map (fun p=>yG p.1):=by
 have hany:(vs.any fun kv=>decide (kv.1=yG i))=kvs.any fun p=>decide (p.1=i):=by
  have e1:(vs.any fun kv=>decide (kv.1=yG i))=(vs.map (·.1)).any fun k=>decide (k=yG i):=by rw[any_map];rfl
  rw[e1,h,any_map]
  congr 1
  funext p
  simp
 unfold zFe znq;rw[hany]
 split
 ·rw[map_map,map_map]
  have e1:(fun x:Key×V=>x.1)∘(fun kv=>if kv.1=yG i then(kv.1,v) else kv)=fun x=>x.1:=by
   funext x;simp only[Function.comp];split<;>rfl
  have e2:(fun p:Int×D=>(yG p.1:Key))∘(fun p=>if p.1=i then(p.1,d) else p)=fun p=>yG p.1:=by
   funext x;simp only[Function.comp];split<;>rfl
  rw[e1,e2];exact h
 ·simp[h]
def zhp:∀(kvs:List (Int×D)) (vs:List (Key×V)) (i:Int) {d:D} {v:V},RepV K ρ H d v->vs.map (·.1)=kvs.map (fun p=>yG p.1)->RepVs K ρ H (kvs.map (·.2)) (vs.map (·.2)) ->
 RepVs K ρ H ((kvs.map fun p=>if p.1=i then(p.1,d) else p).map (·.2)) ((vs.map fun kv=>if kv.1=yG i then(kv.1,v) else kv).map (·.2))
 |[],vs,i,d,v,r,h1,h2=>by
  have:vs=[]:=by simpa using h1
  subst this;exact .nil
 |(j,e)::kvs,vs,i,d,v,r,h1,h2=>by
  cases vs with
  |nil=>simp at h1
  |cons q vs=>
   obtain⟨k,u⟩:=q;rw[map_cons,map_cons,YY]at h1;obtain⟨hk,h1⟩:=h1;have hk:k=yG j:=hk;subst hk;obtain⟨v',r',e',q1,q2⟩:=h2.cons_inv;rw[map_cons,YY]at e';obtain⟨e1,e2⟩:=e';subst e2;have e1:u=v':=e1;subst e1;have ih:=zhp kvs vs i r h1 q2;simp only[map_cons]
   by_cases hj:j=i
   ·subst hj;rw[if_pos rfl,if_pos rfl];exact .cons r ih
   ·rw[if_neg hj,if_neg (fun z=>hj (by simpa using z))];exact .cons q1 ih
def zew{kvs:List (Int×D)}{vs:List (Key×V)}{i:Int}{d:D}{v:V}(r:RepV K ρ H d v)(h1:vs.map (·.1)=kvs.map (fun p=>yG p.1))(h2:RepVs K ρ H (kvs.map (·.2)) (vs.map (·.2))) :
 RepVs K ρ H ((znq kvs i d).map (·.2)) ((zFe vs (yG i) v).map (·.2)):=by
 have hany:(vs.any fun kv=>decide (kv.1=yG i))=kvs.any fun p=>decide (p.1=i):=by
  have e1:(vs.any fun kv=>decide (kv.1=yG i))=(vs.map (·.1)).any fun k=>decide (k=yG i):=by rw[any_map];rfl
  rw[e1,h1,any_map]
  congr 1
  funext p
  simp
 unfold zFe znq;rw[hany]
 split
 ·exact zhp kvs vs i r h1 h2
 ·simp only[map_append,map_cons,map_nil];exact h2.append (.cons r .nil)
end
section
variable {X:Cx}{a b c e:Expr}{es:List Expr}{φ ψ χ:FE}{pos:xp}
@[simp] def z0u:G2:=fun x y μ=>match y with
 |.int i=>(ztc μ x).bind fun kvs=>(z0c kvs i).bind fun d=>some (d,μ)
 |_=>none
def zHw{pins:List (Addr×YN)}{s:yb}{σ:L2.St}{H:Hp}{p:Addr}{vs:List (Key×V)}{k:Key}{v:V}{u:Value}{A:yH}{E:Value->yb->Prop}{Q:Value->yb->Prop}(I:Inv X pins σ H s)(e:RdK H p vs)(l:zvp vs k=some v)(ry:RelV (kV k) u)
 (h:∀w' s',Inv X pins σ H s'->RelV v w'->Q w' s'):yn (yr X.prog X.w) A (getItem (.ref p) u) Q E s:=by
 obtain⟨z,hd,us,rel,dd⟩:=zEh I.hok e;obtain⟨w',hw,rw'⟩:=RelO.some_of (v:=v) (o:=valueAt us k) (by rw[<-l];exact rel.val k);exact wpAny_getItem_of (zBq ry) dd.mapOf hw (h w' _ (I.tok _) rw')
def ixD:IxR X (rM X.K z0u):=by
 intro value slice pins s σ H x y v u Q I rx ry ⟨ρ,dx,dy,μ,d,μ',r1,r2,R,e,k⟩ hs;unfold z0u at e
 split at e
 ·rename_i i
  obtain⟨kvs,e1,e⟩:=zh e;obtain⟨d',e2,e⟩:=zh e;cases e;obtain⟨p,vs,rfl,hq,q1,q2⟩:=zlf R r1 e1;obtain⟨w',e3,rw'⟩:=(zmg i q1 q2).1 _ e2;cases rx;rw[r2.int_inv]at ry
  have hT:s.TypeIs (.ref p) "dict":=by
   obtain⟨_,_,us,_,dd⟩:=zEh I.hok hq;exact dd.typeIs
  unfold subscriptTail;refine ya ?_;rw[getitemInPython_of_ne hT.not_modules];refine ya (xB hT PySem.F.slot_dict_getitem.lookup ?_)
  have fin:yn (yr X.prog X.w) X.A (subscripted slice false (.ref p) u) (fun r s₃=>yn (yr X.prog X.w) X.A (letTemporaryGo value (.ref p) r >>= fun _=>pure r) (EP X pins σ Q) X.xe s₃) X.xe s:=by
   rw[hs];exact wpAny_operating (zHw I hq e3 ry fun w2 s2 I2 r2=>ya (wpAny_letTemporaryGo (ye ⟨_,H,I2,r2,k ρ H _ Ext.refl R rw'⟩)))
  first
   |exact ye (ya fin)
   |exact ya (ye (ya fin))
   |exact ya fin
 ·cases e
def zfs(ha:ME X a φ)(hb:ME X b ψ)(hs:z6n b:=by intro _ _;rfl):ME X (.Subscript a b pos) (zD z0u φ ψ) :=
 zfe (z4w ixD ha hb hs) fun _ _ _ _ _ _ _ _ A e k=>z3s A e k
@[simp] def zEz:G2:=fun x y μ=>match x with
 |.int i=>(ztc μ y).bind fun kvs=>some (.bl (z0c kvs i).isSome,μ)
 |_=>none
@[simp] def zNj:G2:=fun x y μ=>match x with
 |.int i=>(ztc μ y).bind fun kvs=>some (.bl (!(z0c kvs i).isSome),μ)
 |_=>none
def zox{pins:List (Addr×YN)}{s:yb}{σ:L2.St}{H:Hp}{p:Addr}{vs:List (Key×V)}{k:Key}{u:Value}{A:yH}{E:Value->yb->Prop}{Q:Value->yb->Prop}(I:Inv X pins σ H s)(e:RdK H p vs)(ry:RelV (kV k) u)
 (h:∀s',Inv X pins σ H s'->Q (.bool (zvp vs k).isSome) s'):yn (yr X.prog X.w) A (Yn .In u (.ref p)) Q E s:=by
 obtain⟨z,hd,us,rel,dd⟩:=zEh I.hok e;refine wpAny_in_of (zBq ry) hd dd.mapOf ?_;rw[<-(rel.val k).isSome_eq];exact h _ (I.tok _)
def z6o{K:yu}{ρ:List Addr}{H:Hp}{kvs:List (Int×D)}{vs:List (Key×V)}(i:Int)(q1:vs.map (·.1)=kvs.map (fun p=>yG p.1))(q2:RepVs K ρ H (kvs.map (·.2)) (vs.map (·.2))):(zvp vs (yG i)).isSome=(z0c kvs i).isSome:=by
 obtain⟨h1,h2⟩:=zmg i q1 q2
 cases e:z0c kvs i with
 |none=>rw[h2 e];rfl
 |some d=>
  obtain⟨v,ev,_⟩:=h1 d e;rw[ev];rfl
def zJw:OpM X (Yn .In) zEz:=by
 refine OpM.of fun pins s σ H x y v u Q I rx ry ρ dx dy μ d μ' r1 r2 R e k=>?_;unfold zEz at e
 split at e
 ·rename_i i
  obtain⟨kvs,e1,e⟩:=zh e;cases e;obtain⟨p,vs,rfl,hq,q1,q2⟩:=zlf R r2 e1;cases ry;rw[r1.int_inv]at rx;refine zox (k:=yG i) I hq rx fun s' I'=>⟨.bl _,H,I',rfl,?_⟩
  rw[z6o i q1 q2];exact k ρ H _ Ext.refl R .bl
 ·cases e
def z0q:OpM X (Yn .NotIn) zNj:=by
 refine OpM.of fun pins s σ H x y v u Q I rx ry ρ dx dy μ d μ' r1 r2 R e k=>?_;unfold zNj at e
 split at e
 ·rename_i i
  obtain⟨kvs,e1,e⟩:=zh e;cases e;obtain⟨p,vs,rfl,hq,q1,q2⟩:=zlf R r2 e1;cases ry;rw[r1.int_inv]at rx;obtain⟨z,hd,us,rel,dd⟩:=zEh I.hok hq;refine wpAny_notIn_of (zBq (k:=yG i) rx) hd dd.mapOf ⟨.bl _,H,I.tok _,rfl,?_⟩;rw[<-(rel.val (yG i)).isSome_eq,z6o i q1 q2];exact k ρ H _ Ext.refl R .bl
 ·cases e
end
section
variable {X:Cx}{a b c e:Expr}{es:List Expr}{φ ψ χ:FE}{pos:xp}
@[simp] def zUw(φ ψ:FE):FG:=fun d δ μ=>(φ δ μ).bind fun p=>(ψ δ p.2).bind fun q=>match p.1,q.1 with
 |.loc n, .int i=>match q.2[n]? with
  |some (.dct kvs)=>bif decide (kvs.length<=1000000) then some (δ,q.2.set n (.dct (znq kvs i d))) else none
  |_=>none
 |_,_=>none
def zku:z1y X (fun o i v H Q=>∃p vs k,o = .ref p/\i=kV k/\H p=some (.dK vs)/\vs.length<yB/\Q (upd H p (.dK (zFe vs k v)))):=by
 intro pins s σ H o i v ov iv u Q I ro ri rv ⟨p,vs,k,e1,e2,e3,hl,q⟩;subst e1 e2;cases ro;obtain⟨z,hd,us,rel,dd⟩:=zNv I.hok e3;have hz:us.length<=yB:=by rw[<-rel.length];exact z
 have hl':(zFe vs k v).length<=yB:=by have:=zdo vs k v;omega
 refine wpAny_setItem_pairs (hsz:=hz) (zBq ri) dd fun h' dd' hs=>⟨_,I.write (x:=p) (e:=p) (by rw[e3];exact True.intro) (.inl rfl) (fun b q hb z=>(hs.2 b hb).trans z) ?_ (show ObjOk X.prog X.w _ h' p (.dK (zFe vs k v)) from⟨hl',hd,_,rel.put k rv,dd'⟩),q⟩
 obtain⟨q,_,_,hq,_⟩:=dd';exact⟨q,hq⟩
def zSo{o i:Expr}(ho:ME X o φ)(hi:ME X i ψ)(ha:∀v,assign (.Subscript o i pos) X.env v=(do
 let ov <-xC [v] (yW o X.env)
 let iv <-xC [v,ov] (yW i X.env)
 standAt pos
 xC [v,ov,iv] (setItem ov iv v)
 release [v,ov,iv] []):=by intro _;rfl):MG X (.Subscript o i pos) (zUw φ ψ) :=
 mg_of (z4u ho hi zku ha) fun ρ δ μ d δ' μ' v σ H Q A q e k=>by
  obtain⟨⟨x,μ1⟩,e1,e⟩:=zh e;obtain⟨⟨y,μ2⟩,e2,e⟩:=zh e;refine⟨ρ,δ,μ,x,μ1,A,e1,fun ρ1 H1 v1 x1 R1 r1=>?_⟩;refine⟨ρ1,δ,μ1,y,μ2,A.ext x1 R1,e2,fun ρ2 H2 v2 x2 R2 r2=>?_⟩;dsimp only at e
  split at e
  ·rename_i n j _
   split at e
   ·rename_i kvs hm
    obtain⟨h1,e⟩:=zQ e;have h1:=of_decide_eq_true h1;cases e;obtain⟨ad,rfl,hr⟩:=(r1.ext x2).loc_inv;obtain⟨vs,hv,q1,q2⟩:=R2.at_ _ _ _ hr hm;have hmu:Mut (H2 ad):=by rw[hv];trivial
    have hlen:vs.length=kvs.length:=by
     have:=congrArg List.length q1;simpa using this
    have hmi:=million;refine⟨ad,vs,yG j,rfl,r2.int_inv,hv,by omega,?_⟩;have xx:=x1.trans x2;have R3:=R2.wr (o := .dK (zFe vs (yG j) v)) (lo := .dct (znq kvs j d)) hmu hr ⟨_,zu,z0g kvs vs j d v q1,RepVs.ext (Ext.wr hmu) (zew (q.ext xx) q1 q2)⟩;exact k ρ2 σ _ (xx.trans (Ext.wr hmu)) (A.ext (xx.trans (Ext.wr hmu)) R3)
   ·cases e
  ·cases e
def zek(kvs:List (Int×D)):List D:=kvs.map fun p => .int p.1
@[simp] def zSn:GL:=fun ds μ=>match ds with
 |[x]=>(ztc μ x).bind fun kvs=>some (.loc μ.length,μ++[.lst (zek kvs)])
 |_=>none
def zqr{P:yw}{w:yF}{H:Hp}{h:yP}{p:Addr}{vs:List (Key×V)}(ok:HOk P w H h)(e:RdK H p vs):∃us ep,KV vs us/\h.DictAt (zXb P w) p us ep:=by
 obtain⟨_,_,us,rel,o,es,ep,h1,h2,h3,h4⟩:=zEh ok e;exact⟨us,ep,rel,o,es,h1,h2,h3,h4⟩
def zyj{P:yw}{w:yF}:∀{vs:List (Key×V)} {us:List (Key×Value)} {its:List Value},KV vs us->its.length=us.length->(∀(j:Nat)(v:Value),its[j]?=some v->∃(k:Key)(x:Value),us[j]?=some (k,x)/\(zXb P w).is k v=true)->Vals (vs.map fun p=>kV p.1) its
 |[],us,its,r,hl,h=>by
  cases r;have:its=[]:=List.length_eq_zero_iff.mp (by simpa using hl);subst this;exact .nil
 |p::vs,us,its,r,hl,h=>by
  cases r with
  |@cons _ q _ qs hq t=>
   cases its with
   |nil=>simp at hl
   |cons i its=>
    refine .cons ?_ (zyj t (by simpa using hl) fun j v e=>by
     obtain⟨k,x,h1,h2⟩:=h (j+1) v (by simpa using e);exact⟨k,x,by simpa using h1,h2⟩)
    obtain⟨k,x,h1,h2⟩:=h 0 i rfl;have e:q=(k,x):=by simpa using h1
    have ek:p.1=k:=by rw[hq.1,e]
    show RelV (kV p.1) i;rw[ek]
    cases k with
    |inl n=>
     rcases zsb ((zli P w _ _).symm.trans h2) with ⟨j,t,e1,e2⟩ | ⟨j,t,e1,e2⟩
     ·cases e1;exact⟨t,e2⟩
     ·cases e1
    |inr n=>
     rcases zsb ((zli P w _ _).symm.trans h2) with ⟨j,t,e1,e2⟩ | ⟨j,t,e1,e2⟩
     ·cases e1
     ·cases e1;exact⟨t,e2⟩
def zfo(hc:X.calm=true):CallM X (.type "list") zSn:=by
 refine CallM.of fun pins s σ H xs us Q I r ρ ds μ d μ' r1 R e k=>?_;unfold zSn at e
 split at e
 ·obtain⟨kvs,e1,e⟩:=zh e;cases e;obtain⟨v,rr,rfl,q1,q2⟩:=r1.cons_inv;rw[q2.nil_inv]at r;obtain⟨p,vs,rfl,hq,w1,w2⟩:=zlf R q1 e1;obtain⟨u,rfl,ru⟩:=vals1 r;cases ru;obtain⟨hz,hd,_⟩:=zEh I.hok hq;obtain⟨us',ep,rel,da⟩:=zqr I.hok hq;have hl:=rel.length;refine W.kdl_call (W.kdl_dict hd) (I.ok.hd hc) da (by omega) fun h' tk acc' c' kp e2 hi=>?_;obtain⟨hi1,hi2⟩:=hi;have hv:=zyj (P:=X.prog) (w:=X.w) (its:=acc'.toList) rel (by simpa using hi1) fun j v e=>hi2 j v (by simpa using e)
  have hkv:(vs.map fun p=>kV p.1)=(kvs.map fun p=>V.int p.1):=by
   have:(vs.map (·.1)).map kV=(kvs.map fun p=>(yG p.1:Key)).map kV:=by rw[w1]
   rw[map_map,map_map]at this;exact this
  rw[hkv]at hv
  have hlk:kvs.length=vs.length:=by
   have:=congrArg List.length w1;simpa using this.symm
  have hf:=I.fresh;refine⟨.ref s.heap.objs.size,_,I.laid (t':=tk) kp (yi _) (show ObjOk X.prog X.w _ h' _ (.lst _) from⟨by simp;omega,acc'.toList,c',hv,by simpa using e2⟩),rfl,k _ _ _ (Ext.push hf) (R.push hf ⟨_,zu,?_⟩) (.loc (zEb R))⟩;have hr:=fun ρ H=>@zCf X.K ρ H (kvs.map (·.1));simp only[map_map]at hr;exact hr _ _
 ·cases e
end
def Itd(a:Addr)(o:YN)(vs:List (Key×V)):It:=⟨fun i H=>H a=some (.frz o (.dK vs))/\i<vs.length,fun i H x H'=>H'=H/\∃p,vs[i]?=some p/\x=kV p.1,fun i H=>H a=some (.frz o (.dK vs))/\vs.length<=i⟩
def z8o{P:yw}{w:yF}{H:Hp}{h:yP}{a:Addr}{o:YN}{vs:List (Key×V)}{es:Array DictEntry}{ep:Nat}(ok:HOk P w H h)(e:H a=some (.frz o (.dK vs)))(hd:o.data = .dict es ep):∃us,KV vs us/\h.DictAt (zXb P w) a us ep:=by
 obtain⟨h0,_,_,us,rel,o',es',ep',h1,h2,h3,h4⟩:=(show ObjOk P w H h a (.frz o (.dK vs)) from ok a _ e)
 rw[h0]at h1;cases h1;rw[hd]at h3;cases h3;exact⟨us,rel,o,es,h0,h2,hd,h4⟩
def zXr{P:yw}{w:yF}{K:yu}{tg:Expr}(a it:Addr)(o:YN)(vs:List (Key×V))(es:Array DictEntry)(ep:Nat)(hd:o.data = .dict es ep):Turn P w K tg (Itd a o vs) [it] it (fun i h=>h.IsKeyIter it a i vs.length ep) where
 mem:=by simp
 obj:=fun i h st b hb=>by
  have e:b=it:=by simpa using hb
  subst e;obtain⟨o,e,c,d⟩:=st;exact⟨o,e,fun v z=>by rw[d]at z;cases z⟩
 keep:=fun i h h' st k=>st.at fun o e=>k it (by simp) o e
 item:=by
  intro X hP hw hK hc i pins s σ H E I hf st hg;subst hP hw hK;obtain⟨hq,hi⟩:=hg;obtain⟨us,rel,da⟩:=z8o I.hok hq hd;have hl:=rel.length;obtain⟨f0,f1,f2,f3,f4,f5⟩:=hf it (by simp);have hx:us[i]?=some ((us[i]'(by omega)).1,(us[i]'(by omega)).2):=by simp[show i<us.length by omega]
  rw[hl]at st ⊢;refine wpAny_pyNext_dict_item st da hx fun key h' hkey st' sb=>?_;have I1:Inv X pins σ H {s with heap:=h' }:=I.turned (t':=s.toks) (fun b o hb e=>(sb.2 b hb).trans e) f0 f1 f3 f4 f5;obtain⟨o',e',c',d'⟩:=id st';have hk:vs[i]?=some vs[i]:=by simp[hi]
  have hkk:(vs[i]).1=(us[i]'(by omega)).1:=by
   have h1:(vs.map (·.1))[i]?=(us.map (·.1))[i]?:=by rw[rel.keys]
   simp only[yh,hk,yp (show i<us.length by omega),xQ,Xg]at h1;exact h1
  have rk:RelV (kV (vs[i]).1) key:=by
   rw[hkk];rcases zsb ((zli X.prog X.w _ _).symm.trans hkey) with ⟨j,t,e1,e2⟩ | ⟨j,t,e1,e2⟩
   ·rw[e1];exact⟨t,e2⟩
   ·rw[e1];exact⟨t,e2⟩
  exact⟨key,rfl,zUt (s:={s with heap:=h' }) e' c' d' (by decide) ⟨kV (vs[i]).1,H,I1,rk,⟨rfl,_,hk,rfl⟩,st',fun b hb=>(hf b hb).1⟩⟩
 done:=by
  intro X hP hw hK hc i pins s σ H E I hf st hg;subst hP hw hK;obtain⟨hq,hi⟩:=hg;obtain⟨us,rel,da⟩:=z8o I.hok hq hd;have hl:=rel.length;obtain⟨f0,f1,f2,f3,f4,f5⟩:=hf it (by simp);rw[hl]at st;exact wpAny_pyNext_dict_end (I.ok.hd hc) st da (by simp;omega) fun h' eb=>⟨rfl,I.turned (t':=s.toks) (fun b o hb e=>eb b o hb e) f0 f1 f3 f4 f5⟩
 self:=fun _ _ _ _ _ st h=>wpAny_pyIter_keyiter st h
section
variable {X:Cx}{a b c e:Expr}{es:List Expr}{φ ψ χ:FE}{pos:xp}{tg:Expr}
def z7z(tl:TE):TI:=fun σ H R=>tl σ H fun x H1=>∃p vs,x = .ref p/\((H1 p=some (.dK vs)/\∀o,R (Itd p o vs) (upd H1 p (.frz o (.dK vs))))\/∃o,H1 p=some (.frz o (.dK vs))/\R (Itd p o vs) H1)
def zfv{l:Expr}{tl:TE}(hl:PE X l tl):PI X tg l (z7z tl):=by
 intro pins s σ H R I h;refine thn (hl pins s σ H _ I h) fun v s1 ⟨x,H1,I1,r1,q1⟩=>?_;obtain⟨p,vs,e,q⟩:=q1;subst e;cases r1
 have fin:∀(H2:Hp)(o:YN),Inv X pins σ H2 s1->H2 p=some (.frz o (.dK vs))->R (Itd p o vs) H2->yn (yr X.prog X.w) X.A (pyIter (.ref p)) (PIE X pins σ tg R) X.xe s1:=fun H2 o I2 e2 q2=>by
  obtain⟨h0,hz,hd,us,rel,o',es,ep,h1,h2,h3,h4⟩:=(show ObjOk X.prog X.w H2 s1.heap p (.frz o (.dK vs)) from I2.hok p _ e2)
  rw[h0]at h1;cases h1;have da:s1.heap.DictAt (zXb X.prog X.w) p us ep:=⟨o,es,h0,h2,h3,h4⟩
  refine wpAny_pyIter_dict hd da ?_;refine⟨s1.heap.objs.size,[s1.heap.objs.size],_,_,H2,rfl,I2.kept (t':=s1.toks) fun b o e=>yd _ e,zXr p _ o vs es ep h3,⟨_,yo _ rfl,rfl,by rw[rel.length];rfl⟩,fun b hb=>?_,q2⟩;have e:b=s1.heap.objs.size:=by simpa using hb
  subst e;exact I2.fpOk (yi _) (I2.hok.fresh (yi _))
 rcases q with ⟨e1,q⟩ | ⟨o,e1,q⟩
 ·have hok:=I1.hok p _ e1;obtain⟨hz,hd,us,rel,o,es,ep,h1,h2⟩:=(show ObjOk X.prog X.w H1 s1.heap p (.dK vs) from hok)
  have I2:Inv X pins σ (upd H1 p (.frz o (.dK vs))) {s1 with heap:=s1.heap,toks:=s1.toks }:=by
   refine I1.write (x:=p) (e:=p) (by rw[e1];exact True.intro) (.inl rfl) (fun b u _ e=>e) ⟨o,h1⟩ ?_;exact⟨h1,hz,hd,us,rel,o,es,ep,h1,h2⟩
  exact fin _ o I2 zu (q o)
 ·exact fin H1 o I1 e1 q
@[simp] def zPv(φ:FE):FI:=fun δ μ=>(φ δ μ).bind fun p=>match p.1 with
 |.loc n=>match p.2[n]? with
  |some (.dct kvs)=>some (zek kvs,yes,p.2.set n (.dcf kvs))
  |some (.dcf kvs)=>some (zek kvs,yes,p.2)
  |_=>none
 |_=>none
def zZu{K:yu}{ρ:List Addr}{H:Hp}{p:Addr}{o:YN}{vs:List (Key×V)}{kvs:List (Int×D)}(h:H p=some (.frz o (.dK vs)))(q1:vs.map (·.1)=kvs.map (fun p=>yG p.1)):ItIs K (Itd p o vs) ρ H (zek kvs) yes:=by
 have hlen:vs.length=kvs.length:=by
  have:=congrArg List.length q1;simpa using this
 have hkl:(zek kvs).length=kvs.length:=by simp[zek]
 refine⟨fun ρ' H' μ' i x R _ hi=>⟨x.frz _ _ _ h,by rw[hkl]at hi;omega⟩,fun ρ' H' μ' i x H'' d x' R _ e ⟨y1,q,y2,y3⟩=>⟨y1▸Ext.refl,y1▸R,y1▸?_⟩,fun ρ' H' μ' x R _=>⟨x.frz _ _ _ h,by rw[hkl];omega⟩⟩;have h1:(vs.map (·.1))[i]?=(kvs.map (fun p=>(yG p.1:Key)))[i]?:=by rw[q1]
 rw[yh,yh,y2]at h1;unfold zek at e;rw[yh]at e
 cases hk:kvs[i]? with
 |none=>rw[hk]at e;cases e
 |some z=>
  rw[hk]at e h1;cases e;have h1:q.1=yG z.1:=by simpa using h1
  rw[y3,h1];exact .int
def zEw(h:ME X a φ):MI X tg a (zPv φ) :=
 z4s (zfv h) fun ρ δ μ σ H ds ok μ' R A e k=>by
  obtain⟨⟨x,μ1⟩,e1,e⟩:=zh e;refine⟨ρ,δ,μ,x,μ1,A,e1,fun ρ1 H1 v1 x1 R1 r1=>?_⟩;dsimp only at e
  split at e
  ·split at e
   ·rename_i hm
    cases e;obtain⟨p,rfl,ep⟩:=r1.loc_inv;obtain⟨vs,e3,q1,q2⟩:=R1.at_ _ _ _ ep hm;have hmu:Mut (H1 p):=by rw[e3];trivial
    refine⟨p,vs,rfl, .inl ⟨e3,fun o=>?_⟩⟩;exact k ρ1 _ _ (x1.trans (Ext.wr hmu)) (R1.wr hmu ep ⟨o,vs,zu,q1,RepVs.ext (Ext.wr hmu) q2⟩) (zZu zu q1)
   ·rename_i hm
    cases e;obtain⟨p,rfl,ep⟩:=r1.loc_inv;obtain⟨o,vs,e3,q1,q2⟩:=R1.at_ _ _ _ ep hm;exact⟨p,vs,rfl, .inr ⟨o,e3,k ρ1 _ _ x1 R1 (zZu e3 q1)⟩⟩
   ·cases e
  ·cases e
def znr{prog:yw}{w:yF}{A:yH}{E:Value->yb->Prop}{s:yb}{Q:Int->yb->Prop}(h:Q 0xFCA86420 {s with toks:=s.toks+1 }):yn (yr prog w) A (pyHash .none) Q E s:=by
 unfold pyHash;have hv:[Yi].any Value.onHeap=false:=rfl;refine ya ?_;rw[cRoomFor,if_neg (by rw[hv];exact yx)];refine ye ?_;refine ya (xB (typeIs_none s) PySem.F.slot_NoneType_hash.lookup ?_);show yn _ _ (if(some (xU "NoneType.__hash__")==some Yi)=true then _ else _) Q E s;rw[if_neg (by rw[beq_builtin_none];exact yx)];refine ya (xB (typeIs_none s) PySem.F.slot_NoneType_hash.lookup ?_);show yn _ _ (callSpecialIfBoundUnlessNone? .none "__hash__" _ >>= _) Q E s;refine ya (wpAny_callSpecialIfBoundUnlessNone?_slot (typeIs_none s) PySem.F.slot_NoneType_hash (yU PySem.F.slot_NoneType_hash (typeIs_none s) PySem.F.entry_NoneType_hash ?_ (PySem.F.args_NoneType_hash_1 _)));show yn _ _ (do ret (<-mkInt 0xFCA86420)) _ _ s;refine wpAny_ret_mkInt ?_;show yn _ _ (if(decide (-(2:Int)^63<=0xFCA86420)&&decide ((0xFCA86420:Int)<2^63))=true then _ else _) Q E _;rw[if_pos (by decide)];exact ye h
def zwq{i:Int}(h0:0<=i)(h1:i<1000):hashInt i=i:=by
 have e:(i.natAbs%(2^61-1):Nat)=i.natAbs:=Nat.mod_eq_of_lt (by omega)
 have hr:rawHash i=i:=by
  unfold rawHash;dsimp only;rw[if_neg (by omega:¬i<0)];have:((i.natAbs%(2^61-1:Nat):Nat):Int)=i:=by rw[e];omega
  rw[show((i.natAbs:Int)%((2^61-1:Nat):Int))=i by rw[<-Int.natCast_emod];exact this];rw[if_neg (by simp;omega)]
 unfold hashInt;rw[hr,if_neg (by simp;omega)]
def zpn:Key->Bool
 |.inl i=>decide (0<=i/\i<1000)
 |.inr _=>false
def zik{P:yw}{w:yF}:∀{es:List DictEntry} {us:List (Key×Value)},Pairs (zXb P w) es us->(∀e∈es,∃k,(zXb P w).is k e.key=true/\e.hash=(zXb P w).hash k)->(us.all fun q=>zpn q.1)=true->∀e∈es,(e.hash==0xFCA86420)=false
 |_,_, .nil,_,_=>fun e he=>by cases he
 |_,_, .cons (kv:=kv) hk hv t,hh,hs=>fun e he=>by
  rw[all_cons,yE]at hs;rcases List.mem_cons.mp he with rfl | he
  ·obtain⟨k',h1,h2⟩:=hh e mem_cons_self;have ek:=(zXb P w).inj _ _ _ hk h1;rw[h2,<-ek];have hsm:zpn kv.1=true:=hs.1
   cases hkv:kv.1 with
   |inl i=>
    rw[hkv]at hsm;have hi:=of_decide_eq_true (show decide (0<=i/\i<1000)=true from hsm);show(hashInt i==0xFCA86420)=false;rw[zwq hi.1 hi.2];simp;omega
   |inr x=>rw[hkv]at hsm;cases hsm
  ·exact zik t (fun e he=>hh e (mem_cons_of_mem _ he)) hs.2 e he
def zAv{prog:yw}{w:yF}{A:yH}{E:Value->yb->Prop}{s:yb}{p:Addr}{us:List (Key×Value)}{Q:Value->yb->Prop}(hd:(p==sysModules)=false)(dd:s.heap.DictOf (zXb prog w) p us)(hs:(us.all fun q=>zpn q.1)=true)
 (h:Q (.bool false) {s with toks:=s.toks+1 }):yn (yr prog w) A (Yn .In .none (.ref p)) Q E s:=by
 obtain⟨o,es,ep,ho,hx,hdat,hk,hp,hn⟩:=id dd;have hno:=zik hp (fun e he=>hk e (by simpa using he)) hs
 have hpl:placesWithHash es.size (fun i=>es[i]?.map (·.hash)) 0xFCA86420=[]:=by
  unfold placesWithHash;rw[List.filter_eq_nil_iff];intro i hi;have hi:i<es.size:=by simpa using hi
  dsimp only;rw[Array.getElem?_eq_getElem hi];have:=hno es[i] (by simp);simpa using this
 show yn _ _ (do return .bool (<-contains (.ref p) .none)) Q E s;refine ya ?_;unfold contains
 try with_reducible refine Yg ?_
 refine ya (xB dd.typeIs slot_dict_contains.lookup ?_);show yn _ _ (if(some (xU "dict.__contains__")==some Yi)=true then _ else _) _ E s;rw[if_neg (by rw[beq_builtin_none];exact yx)];refine ya (wpAny_callSpecialUnlessNone?_slot (name:=YS "__contains__") dd.typeIs slot_dict_contains (yU slot_dict_contains dd.typeIs entry_dict_contains ?_ (args_dict_contains _ _)));show yn _ _ (dictGet p .none >>= _) _ _ s;refine ya ?_;unfold dictGet
 try with_reducible refine Yg ?_
 refine ya (znr (ya ?_));unfold dictFind
 try with_reducible refine Yg ?_
 refine ya (wpAny_dictEntries (s:={s with toks:=s.toks+1 }) ho hdat ?_);dsimp only;rw[hpl];rw[if_pos (by rfl)];unfold dictWalkPlain;refine ya ?_;rw[List.forIn_nil];refine ye ?_;refine ye (ye ?_);show yn _ _ (Builtin.Dict.pendingKey? p .none >>= _) _ _ _;exact ya (wpAny_pendingKey_other hd (ye ⟨_,rfl,wpAny_truthy_bool (ye h)⟩))
@[simp] def zNn:G2:=fun x y μ=>match x with
 |.int i=>(ztc μ y).bind fun kvs=>some (.bl (z0c kvs i).isSome,μ)
 |.non=>(ztc μ y).bind fun kvs=>bif kvs.all (fun p=>decide (0<=p.1/\p.1<1000)) then some (.bl false,μ) else none
 |_=>none
def zZo:OpM X (Yn .In) zNn:=by
 refine OpM.of fun pins s σ H x y v u Q I rx ry ρ dx dy μ d μ' r1 r2 R e k=>?_;unfold zNn at e
 split at e
 ·rename_i i
  exact zJw pins s σ H x y v u Q I rx ry ⟨ρ, .int i,dy,μ,d,μ',r1,r2,R,e,k⟩
 ·obtain⟨kvs,e1,e⟩:=zh e;obtain⟨hsm,e⟩:=zQ e;cases e;obtain⟨p,vs,rfl,hq,q1,q2⟩:=zlf R r2 e1;cases ry;rw[r1.non_inv]at rx;cases rx;obtain⟨z,hd,us,rel,dd⟩:=zEh I.hok hq;refine zAv hd dd ?_ ⟨.bl false,H,I.tok _,rfl,k ρ H _ Ext.refl R .bl⟩;have e1:(us.all fun q=>zpn q.1)=(us.map (·.1)).all zpn:=by rw[List.all_map];rfl
  rw[e1,<-rel.keys,q1,List.all_map];exact hsm
 ·cases e
end
section
variable {prog:yw}{w:yF}{A:yH}{E:Value->yb->Prop}{s:yb}
def zHq:typeLookup (.type "list_reverseiterator") "__len__" = pure none:=by rw[typeLookup_type,xZ];kernel_rfl
def zOt:typeLookup (.type "list_reverseiterator") "__length_hint__" = pure (some (.builtin "list_reverseiterator.__length_hint__")):=by rw[typeLookup_type,xZ];kernel_rfl
def zKu{r:Addr}{Q:Bool->yb->Prop}(hT:s.TypeIs (.ref r) "list_reverseiterator")(h:Q false s):yn (yr prog w) A (xo (.ref r)) Q E s:=by
 unfold xo;refine ya (xB hT zHq ?_);show yn _ _ (specialOf (yD r) (YS "__length_hint__") >>= _) _ _ _;refine ya (xB hT zOt ?_);generalize hid:("list_reverseiterator.__length_hint__":String)=id0
 wp_delta
 rw[show splitId id0=some ("list_reverseiterator","__length_hint__") from by subst hid;decide +kernel];subst hid;refine ya (wpAny_isInstance (T:="list_reverseiterator") (b:=true) hT (by rw[isSubtype_type];kernel_rfl) ?_);refine YX (fun hab=>absurd hab (by decide)) (fun _=>?_);refine YX (fun _=>?_) (fun hab=>absurd (by decide +kernel) hab);refine YX (fun hab=>absurd hab (by decide +kernel)) (fun _=>?_);exact ye h
def zIt{I l:Addr}{items:Array Value}{Q:Value->yb->Prop}(hh:A.handled=none)(hne:l≠I)(hI:s.heap.IsRevIter I l ((items.size:Int)-1))(hl:s.heap.IsList l items)(hn:items.size<=yB)
 (hQ:∀h' tk acc' c',(∀b o,b≠I->s.heap.get? b=some o->h'.get? b=some o)->h'.get? s.heap.objs.size=some {cls := .type "list",dict:=none,data := .seq acc' c',slots:=#[]}->ItemsOf (fun i v=>items[items.size-1-i]?=some v) acc' items.size->Q (.ref s.heap.objs.size) {s with heap:=h',toks:=tk }) :
 yn (yr prog w) A (call (.type "list") [.ref I]) Q E s:=by
 have hIlt:I<s.heap.objs.size:=by obtain⟨o,ho,_⟩:=hI;exact yj ho
 have hllt:l<s.heap.objs.size:=by obtain⟨o,ho,_⟩:=hl;exact yj ho
 refine callType_codes (Q₁:=fun obj s₁=>obj = .ref s.heap.objs.size/\s₁ = {s with heap:=s.heap.push {cls := .type "list",data := .seq #[]}}) PySem.F.called_list (PySem.F.typeCall_list_1 _) PySem.F.entry_list_init (code_list_new _ ⟨rfl,rfl⟩) fun obj s₁ h₁=>?_;obtain⟨rfl,rfl⟩:=h₁;generalize hS0:s.heap.objs.size=S;have hSI:S≠I:=by rw[<-hS0];exact yV hIlt
 have hSl:S≠l:=by rw[<-hS0];exact yV hllt
 have hS:(s.heap.push {cls := .type "list",data := .seq #[]}).get? S=some {cls := .type "list",data := .seq #[]}:=by rw[<-hS0];exact yo _ rfl
 refine⟨⟨_,hS,rfl⟩,PySem.F.args_list_init_2 _ _,?_⟩;have oldS:∀b o,s.heap.get? b=some o->b≠S:=fun b o e=>by rw[<-hS0];exact yz (yj e)
 have W:=(Walks.listRev (prog:=prog) (w:=w) (A:=A.in1.in1) hh I l hne items).toS;show yn _ _ (do let old <-Builtin.List.listItems (.ref S);Builtin.List.listUpdate (.ref S) (fun _=>#[]);letGo old.toList.reverse;Yo (.ref S) (.ref I) .none) _ _ _;refine ya ?_;unfold Builtin.List.listItems;refine ya (wpAny_seqItems hS rfl (ye ?_));show yn _ _ (updateSeq S (fun _=>#[]) >>= fun _=>letGo (#[]:Array Value).toList.reverse >>= fun _=>Yo (.ref S) (.ref I) .none) _ _ _;refine ya (wpAny_updateSeq hS rfl ?_);have hS2:=yI (xN (fun _=>(#[]:Array Value))) hS rfl;generalize hh2:(s.heap.push {cls := .type "list",data := .seq #[]}).update S (xN (fun _=>(#[]:Array Value)))=h2 at hS2 ⊢
 have k2:∀b o,s.heap.get? b=some o->h2.get? b=some o:=fun b o e=>by
  rw[<-hh2];exact(yY _ _ (yN (oldS b o e))).trans (yd _ e)
 refine ya (wpAny_letGo ?_);have hI2:h2.IsRevIter I l ((items.size:Int)-1):=hI.at fun o e=>k2 _ _ e;have hl2:h2.IsList l items:=hl.at fun o e=>k2 _ _ e;unfold Yo;refine ya (Xl (T:="list_reverseiterator") (Heap.IsRevIter.typeIs (s:={s with heap:=h2 }) hI2) ?_);have h1:xG (.ref S) (.ref I)=false:=by simp[xG,hSI]
 have h2':(YJ "list_reverseiterator" == YJ "list")=false:=by decide
 have h3':(YJ "list_reverseiterator" == YJ "tuple")=false:=by decide
 simp only[h1,h2',h3',Bool.or_false,Bool.false_eq_true,if_false];refine ya (wpAny_pyIter_revIter (s:={s with heap:=h2 }) hI2 ?_);refine ya (Yg (zKu (Heap.IsRevIter.typeIs (s:={s with heap:=h2 }) hI2) ?_));refine YX (fun hab=>absurd hab (by decide)) (fun _=>?_)
 have hSf:S∉[I,l]:=by
  simp only[mem_cons,not_mem_nil,or_false,not_or];exact⟨hSI,hSl⟩
 refine ye ⟨xT PySem.F.plain_extend_loop _,codeAny_extend_loopS W hn S hSf _ items.size 0 _ #[] _ rfl (Ys _) ⟨Ys _,by simpa using hI2,hl2⟩ hS2 (ItemsOf.nil _) fun s' acc' c' hm hS' hacc=>?_⟩;rw[Moved.eq_with hm];refine⟨rfl,?_⟩;rw[<-hS0]at hS' ⊢;refine hQ s'.heap s'.toks acc' c' (fun b o hb e=>hm.heap b o (fun hmem=>?_) (k2 b o e)) hS' hacc;rcases List.mem_cons.mp hmem with e' | hmem
 ·exact oldS b o e e'
 ·exact hb (List.mem_singleton.mp hmem)
end
section
variable {X:Cx}{a b c e:Expr}{es:List Expr}{φ ψ χ:FE}{pos pos2 p1 p2:xp}
def zHt(φ:FE):FE:=fun δ μ=>(φ δ μ).bind fun p=>match p.1 with
 |.loc n=>match p.2[n]? with
  |some (.lst ds)=>some (.loc p.2.length,p.2++[.lst ds.reverse])
  |_=>none
 |_=>none
def zGt{items:List Value}{vs:List V}{its:List Value}(rv:Vals vs items)(hl:its.length=items.length)(h:∀(j:Nat)(v:Value),its[j]?=some v->items[items.length-1-j]?=some v):Vals vs.reverse its:=by
 have e:its=items.reverse:=by
  refine ext_getElem? fun j=>?_
  by_cases hj:j<its.length
  ·have h1:its[j]?=some its[j]:=by simp[hj]
   rw[List.getElem?_reverse (by omega),h j _ h1,h1]
  ·rw[YG (by omega),YG (by simp;omega)]
 rw[e];exact rv.reverse
def zBr{K:yu}{ρ:List Addr}{H:Hp}:∀{ds:List D} {vs:List V},RepVs K ρ H ds vs->RepVs K ρ H ds.reverse vs.reverse
 |[],vs,r=>by rw[r.nil_inv];exact .nil
 |d::ds,vs,r=>by
  obtain⟨v,q,rfl,h1,h2⟩:=r.cons_inv;rw[List.reverse_cons,List.reverse_cons];exact(zBr h2).append (.cons h1 .nil)
def zfz(X:Cx)(tl:TE):TE:=fun σ H Q=>tl σ H fun x H1=>∃a ys,x = .ref a/\SqL X.K H1 a ys/\∀q,H1 q=none->Q (.ref q) (upd H1 q (.lst ys.reverse))
def zSv{l:Expr}{tl:TE}(hm1:X.mg "list" = none)(hv1:yQ "list" = some (.type "list"))(hm2:X.mg "reversed" = none)(hv2:yQ "reversed" = some (.type "reversed"))(hl:PE X l tl)(hc:X.calm=true)(hg1:Gl X "list")(hg2:Gl X "reversed")
 (he:yf [l] X.env=(false,yW l X.env)::yf [] X.env) (he2:yf [.Call (.Name "reversed" p2) [l] [] pos2] X.env=(false,yW (.Call (.Name "reversed" p2) [l] [] pos2) X.env)::yf [] X.env) :
 PE X (.Call (.Name "list" p1) [.Call (.Name "reversed" p2) [l] [] pos2] [] pos) (zfz X tl):=by
 intro pins s σ H Q I h;refine xr (zfl I hg1 hm1 hv1 ?_ (by decide) (by decide));refine YM ?_ he2 rfl;rw[he2];show yn _ _ (spliced ((false,yW (.Call (.Name "reversed" p2) [l] [] pos2) X.env)::yZ pos (yf [] X.env))) _ _ s;refine Calls.spliced_cons ?_;refine xr (zfl I hg2 hm2 hv2 ?_ (by decide) (by decide))
 refine YM (thn (zLe hl zUh he pos2 pins s σ H (fun vs H1=>match vs with
  |[x]=>∃a ys,x = .ref a/\SqL X.K H1 a ys/\∀q,H1 q=none->Q (.ref q) (upd H1 q (.lst ys.reverse))
  |_=>False) I h) fun us s1 ⟨vs,H1,I1,r1,q1⟩=>?_) he rfl
 dsimp only at q1
 split at q1
 case h_2=>exact q1.elim
 obtain⟨a,ys,e,hq,q⟩:=q1;subst e
 cases r1 with
 |cons r rr=>
  cases rr;cases r;obtain⟨its,rv,pl,hz⟩:=I1.list hq;have hlen:=rv.length;refine call_reversed_list pl.isList ?_;refine Calls.spliced_nil ?_;have I2:Inv X pins σ H1 {s1 with heap:=s1.heap.push (revObj a ((its.toArray.size:Int)-1))}:=I1.kept (t':=s1.toks) fun b o e=>yd _ e;have halt:a<s1.heap.objs.size:=by obtain⟨_,_,e,_⟩:=pl;exact yj e
  have hf:∀b∈[s1.heap.objs.size],zfp X pins H1 b:=fun b hb=>by
   have e:b=s1.heap.objs.size:=by simpa using hb
   subst e;exact I1.fpOk (yi _) (I1.hok.fresh (yi _))
  refine zIt (s:={s1 with heap:=s1.heap.push (revObj a ((its.toArray.size:Int)-1))}) (I.ok.hd hc) (yz halt) ⟨_,yo _ rfl,rfl,rfl⟩ (pl.isList.push _) (by simp;omega) fun h' tk acc' c' kp e hi=>?_;obtain⟨hi1,hi2⟩:=hi;have hv:=zGt (its:=acc'.toList) rv (by simpa using hi1) fun j v e=>by simpa using hi2 j v (by simpa using e)
  refine⟨.ref _,_,zJe (t':=tk) I2 hf (fun b o hb e=>kp b o (by simpa using hb) e) (yi _) (show ObjOk X.prog X.w _ h' _ (.lst ys.reverse) from⟨by simp;omega,acc'.toList,c',hv,by simpa using e⟩),rfl,q _ (I2.hok.fresh (yi _))⟩
def zXv(hm1:X.mg "list" = none)(hv1:yQ "list" = some (.type "list"))(hm2:X.mg "reversed" = none)(hv2:yQ "reversed" = some (.type "reversed"))(h:ME X e φ)(hc:X.calm=true:=by rfl)(hg1:Gl X "list":=by rfl)(hg2:Gl X "reversed":=by rfl)
 (he:yf [e] X.env=(false,yW e X.env)::yf [] X.env:=by rfl) (he2:yf [.Call (.Name "reversed" p2) [e] [] pos2] X.env=(false,yW (.Call (.Name "reversed" p2) [e] [] pos2) X.env)::yf [] X.env:=by rfl) :
 ME X (.Call (.Name "list" p1) [.Call (.Name "reversed" p2) [e] [] pos2] [] pos) (zHt φ) :=
 zfe (zSv hm1 hv1 hm2 hv2 h hc hg1 hg2 he he2) fun ρ δ μ σ H d μ' Q A e k=>by
  obtain⟨⟨x,μ1⟩,e1,e⟩:=zh e;refine⟨ρ,δ,μ,x,μ1,A,e1,fun ρ1 H1 v x1 R1 r1=>?_⟩;dsimp only at e
  split at e
  ·split at e
   ·rename_i hm
    cases e;obtain⟨p,rfl,ep⟩:=r1.loc_inv;obtain⟨vs,e3,q⟩:=R1.at_ _ _ _ ep hm;exact⟨p,vs,rfl,SqL.of e3,fun q' hq'=>k _ _ _ (x1.trans (Ext.push hq')) (R1.push hq' ⟨_,zu,(zBr q).ext (Ext.push hq')⟩) (.loc (zEb R1))⟩
   ·cases e
  ·cases e
end
section
variable {X:Cx}
end
section
variable {prog:yw}{w:yF}{A:yH}{E:Value->yb->Prop}{s:yb}
end
section
variable {X:Cx}{e:Expr}{te:TE}{φ:FE}{stp:Expr}{ts:TO}{pos p2:xp}
end
section
variable {prog:yw}{w:yF}{A:yH}{E:Value->yb->Prop}{s:yb}
end
section
variable {X:Cx}
end
section
variable {X:Cx}
def zUk(ns:List Int):List Int:=ns.mergeSort fun a b=>decide (a<=b)
def zMf:GL:=fun ds μ=>match ds with
 |[.loc n]=>match μ[n]? with
  |some (.lst xs)=>(zfi xs).bind fun ns=>bif decide (ns.length<64) then some (.loc μ.length,μ++[.lst ((zUk ns).map .int)]) else none
  |_=>none
 |_=>none
def z0d(hc:X.calm=true):CallM X (.builtin "sorted") zMf:=by
 refine CallM.of fun pins s σ H xs us Q I r ρ ds μ d μ' r1 R e k=>?_;unfold zMf at e
 split at e
 ·split at e
  ·rename_i hm
   obtain⟨ns,e2,e⟩:=zh e;obtain⟨hp,e⟩:=zQ e;have hp:=of_decide_eq_true hp;cases e;rw[zVe e2]at hm;obtain⟨v,rr,rfl,q1,q2⟩:=r1.cons_inv;obtain⟨a,rfl,ea⟩:=q1.loc_inv;obtain⟨vs,e3,q3⟩:=R.at_ _ _ _ ea hm;rw[zmh q3]at e3;rw[q2.nil_inv]at r;obtain⟨u,rfl,ru⟩:=vals1 r;cases ru;obtain⟨its,rv,pl,hz⟩:=I.list (SqL.of (K:=X.K) e3);have hl:its.length=ns.length:=by rw[<-rv.length];simp
   refine sorted_ints pl.isList (zog rv) (by omega) fun out ns' a1 a2 a3=>?_;have hms:ns'=zUk ns:=zcd (a2.trans (mergeSort_perm _ _).symm) a3 (z8h _);subst hms;obtain⟨e0,he⟩:=sortedAll_at s.heap its out;have hf:=I.hok.fresh (xD s.heap.objs.size);have hlen:(zUk ns).length=ns.length:=a2.length_eq;refine⟨.ref (s.heap.objs.size+1),_,I.laid (t':=s.toks) (o := .lst ((zUk ns).map V.int)) (fun _ _=>sortedAll_old) (xD _) ?_,rfl,k _ _ _ (Ext.push hf) (R.push hf ⟨_,zu,zCf⟩) (.loc (zEb R))⟩;exact⟨by simp;rw[Yp];omega,out.toList,e0,zAe a1,by simpa using he⟩
  ·cases e
 ·cases e
end
section
variable {X:Cx}{a b c e:Expr}{es:List Expr}{φ ψ χ:FE}{pos p2:xp}
def zPj:GM:=fun x ds μ=>match x,ds with
 |.loc n,[.int i]=>match μ[n]? with
  |some (.lst xs)=>bif decide (0<=i/\i<1000000) then(xs[i.toNat]?).bind fun d=>some (d,μ.set n (.lst (xs.eraseIdx i.toNat))) else none
  |_=>none
 |_,_=>none
def zAr{K:yu}{ρ:List Addr}{H:Hp}{ds:List D}{vs:List V}(r:RepVs K ρ H ds vs)(k:Nat):RepVs K ρ H (ds.eraseIdx k) (vs.eraseIdx k):=by
 rw[Yy,Yy];exact(r.take _).append (r.drop _)
def zQr:MtG X "list.pop" zPj:=by
 refine MtG.of fun pins s σ H x xs v us Q I rx rs ρ dx ds μ d μ' r1 r2 R e k=>?_;unfold zPj at e
 split at e
 ·split at e
  ·rename_i hm
   obtain⟨h1,e⟩:=zQ e;have h1:=of_decide_eq_true h1;obtain⟨y,e2,e⟩:=zh e;cases e;obtain⟨a,rfl,ea⟩:=r1.loc_inv;obtain⟨vs,e3,q3⟩:=R.at_ _ _ _ ea hm;obtain⟨wi,r,rfl,q0,q2⟩:=r2.cons_inv;have ei:=q0.int_inv;subst ei;rw[q2.nil_inv]at rs;have hmu:Mut (H a):=by rw[e3];trivial
   obtain⟨w,hw,rw'⟩:=q3.get e2;have hlt:=(List.getElem?_eq_some_iff.mp hw).1;have hm63:(2:Int)^63=9223372036854775808:=by decide
   refine zmt pins s σ H _ _ v us Q I rx rs ⟨a,vs,_,_,w,rfl,rfl,e3,by omega,by omega,?_,hw,k ρ _ _ (Ext.wr hmu) (R.wr hmu ea ⟨_,zu,RepVs.ext (Ext.wr hmu) (zAr q3 _)⟩) (rw'.ext (Ext.wr hmu))⟩;exact(z4n (by unfold ixN;rw[if_pos h1.1,if_pos (by omega)])).1
  ·cases e
 ·cases e
def zSt{o:Expr}{ψ:FA}{apos:xp}(ho:ME X o φ)(ha:MAn X (e::es) ψ)
 (hbase:Yu o "pop" X.env (yW o X.env)=yW o X.env:=by rfl)
 (hfew:((yZ pos (yf (e::es) X.env)).all (fun x=>!x.1)&&(xt pos (YA [] X.env)).all (fun x=>x.1.isSome)
  && decide ((e::es).length+([]:List xj).length+(if([]:List xj).isEmpty then 0 else 1)<30))=true:=by rfl)
 (hline:(apos.endLine==pos.line)=true:=by rfl) (hs:yf (e::es) X.env=(false,yW e X.env)::yf es X.env:=by rfl) (hplain:(yZ pos (yf es X.env)).any (·.1)=false:=by rfl) :
 ME X (.Call (.Attribute o "pop" apos) (e::es) [] pos) (zRf zPj φ ψ):=zwk PySem.F.slot_list_pop PySem.F.type_list_pop zQr ho ha hbase hfew hline hs hplain
end
section
variable {prog:yw}{w:yF}{A:yH}{E:Value->yb->Prop}{s:yb}
end
section
variable {X:Cx}{pos:xp}
end
section
variable {X:Cx}{a b c e:Expr}{φ ψ χ:FE}{pos:xp}
end
section
variable {X:Cx}{e:Expr}{te:TE}{φ:FE}{stp:Expr}{ts:TO}{pos p2:xp}
end
section
variable {X:Cx}{a b c e:Expr}{es:List Expr}{φ ψ χ:FE}{pos:xp}
end
end M
namespace M
open PySem PyProof.Rows
section
variable {prog:yw}{w:yF}{A:yH}{E:Value->yb->Prop}{s:yb}
end
end M
namespace M
open PySem PySem.Spec PyProof.Rows L2
section
variable {X:Cx}{pins:List (Addr×YN)}{σ:L2.St}{H:Hp}{s s':yb}
end
section
variable {X:Cx}{a b c e:Expr}{es:List Expr}{φ ψ χ:FE}{pos pos2 p1 p2:xp}
end
section
variable {prog:yw}{w:yF}{A:yH}{E:Value->yb->Prop}{s:yb}{T:String}{r d:Addr}{n:Nat}{P:Nat->Value->Prop}{OK:yP->Prop}
def zLz(s:yb)(P:Nat->Value->Prop)(n:Nat):Result->yb->Prop:=fun rr s'=>∃h' tk acc' c',rr = .ok (.ret (.ref s.heap.objs.size))/\s' = {s with heap:=h',toks:=tk }/\(∀b o,s.heap.get? b=some o->h'.get? b=some o)/\h'.get? s.heap.objs.size=some {cls := .type "list",dict:=none,data := .seq acc' c',slots:=#[]}/\ItemsOf P acc' n
def zRo{Q:List Value->yb->Prop}(K:W.KdlSrc prog w T r d n P OK)(hh:A.handled=none)(hok:OK s.heap)(hn:n<=yB)
 (h:∀h' tk acc',(∀b o,s.heap.get? b=some o->h'.get? b=some o)->s.heap.objs.size<=h'.objs.size->ItemsOf P acc' n->Q acc'.toList {s with heap:=h',toks:=tk }) :
 yn (yr prog w) A (collect (.ref r)) Q E s:=by
 have hlt:=K.there _ hok;unfold collect;refine ya (wpAny_runValue (xk F.entry_proto_collect ?_));rw[YL F.plain_proto_collect _];show yn _ A.in1 (newList [] >>= fun l=>again (.builtin "list.__iadd__" ⟨[l, .ref r],[]⟩)) _ _ s;refine ya (yS ?_);have hS:(s.heap.push {cls := .type "list",data := .seq ([]:List Value).toArray }).get? s.heap.objs.size=some {cls := .type "list",data := .seq #[]}:=yo _ rfl;refine ye ⟨xT F.plain_list_iadd _,YR (xk (R:=zLz s P n) F.entry_list_iadd ?_) fun rr s' ⟨h',tk,acc',c',e1,e2,hk,hS',hacc⟩=>?_⟩
 ·rw[YL F.plain_list_iadd _];show yn _ A.in1 (Yo (.ref s.heap.objs.size) (.ref r) (.ref s.heap.objs.size)) _ _ _;exact W.kdl_extend (R:=zLz s P n) (A:=A) (s:={s with heap:=s.heap.push {cls := .type "list",data := .seq ([]:List Value).toArray }}) K hh (K.keep _ _ hok fun b _ o e=>yd _ e) _ (yV hlt.1) (yV hlt.2) _ _ hS (fun h' tk acc' c' hk hS' hacc=>⟨h',tk,acc',c',rfl,rfl,fun b o e=>hk b o (yz (yj e)) (yd _ e),hS',hacc⟩) hn
 ·subst e1 e2;dsimp only;refine ya (wpAny_load hS' ?_);exact ye (h h' tk acc' hk (YI (yj hS')) hacc)
def zGq{ks:List Int}{Q:Value->yb->Prop}(K:W.KdlSrc prog w T r d n P OK)(hh:A.handled=none)(hok:OK s.heap)(h64:n<64)(hint:∀acc:Array Value,ItemsOf P acc n->IntsAre acc.toList ks)(h:∀p s',zLu s ks p s'->Q (.ref p) s') :
 yn (yr prog w) A (call (.builtin "sorted") [.ref r]) Q E s:=by
 refine Calls.call_function_entry kind_sorted plain_sorted entry_sorted (args_sorted1 _) ?_;unfold xy.«sorted»;refine ya (m:=checkCount "sorted" 1 1 _) (ye ?_);refine ya (zRo (A:=A.in1) K hh hok (yC (YI h64) (by rw[Yp];decide)) fun h1 tk acc hk hsz hacc=>?_);have hI:=hint acc hacc
 have hl:acc.toList.length<64:=by
  have:=hacc.1;simp only[Array.length_toList];omega
 refine ya (wpAny_newList ?_ (by rw[Yp];omega));have hnew:(h1.push (seqObj "list" acc.toList.toArray 0)).get? h1.objs.size=some (seqObj "list" acc.toList.toArray 0):=yo _ rfl;refine ya (Yg (yU slot_list_sort ⟨_,hnew,rfl⟩ entry_list_sort (list_sort_tree hnew hI (by simp at hl ⊢;omega) fun out ns q1 q2 q3=>⟨_,rfl,?_⟩) (args_list_sort _)));obtain⟨e,he⟩:=sortedHeap_at (out:=out) hnew;refine ye ⟨_,rfl,h _ _ ⟨out,ns,e,he,q1,q2,q3,hsz,fun b ob eb=>?_,rfl,rfl⟩⟩;have hb1:=hk _ _ eb;have hlt1:b<h1.objs.size:=yj hb1;show(sortedHeap (h1.push (seqObj "list" acc.toList.toArray 0)) h1.objs.size acc.toList out).get? b=some ob;rw[sortedHeap_old (yz hlt1) (by rw[size_push'];exact Yr hlt1)];exact yd _ hb1
end
section
variable {X:Cx}
def zrp:GL:=fun ds μ=>match ds with
 |[x]=>(ztc μ x).bind fun kvs=>bif decide (kvs.length<64) then some (.loc μ.length,μ++[.lst ((zUk (kvs.map (·.1))).map .int)]) else none
 |_=>none
def zpo(hc:X.calm=true):CallM X (.builtin "sorted") zrp:=by
 refine CallM.of fun pins s σ H xs us Q I r ρ ds μ d μ' r1 R e k=>?_;unfold zrp at e
 split at e
 ·obtain⟨kvs,e1,e⟩:=zh e;obtain⟨h64,e⟩:=zQ e;have h64:=of_decide_eq_true h64;cases e;obtain⟨v,rr,rfl,q1,q2⟩:=r1.cons_inv;rw[q2.nil_inv]at r;obtain⟨p,vs,rfl,hq,w1,w2⟩:=zlf R q1 e1;obtain⟨u,rfl,ru⟩:=vals1 r;cases ru;obtain⟨hz,hd,_⟩:=zEh I.hok hq;obtain⟨us',ep,rel,da⟩:=zqr I.hok hq;have hl:=rel.length
  have hkv:(vs.map fun p=>kV p.1)=((kvs.map (·.1)).map V.int):=by
   have:(vs.map (·.1)).map kV=(kvs.map fun p=>(yG p.1:Key)).map kV:=by rw[w1]
   rw[map_map,map_map]at this;rw[map_map];exact this
  have hlk:kvs.length=vs.length:=by
   have:=congrArg List.length w1;simpa using this.symm
  refine zGq (ks:=kvs.map (·.1)) (W.kdl_dict hd) (I.ok.hd hc) da (by omega) (fun acc hi=>?_) fun q s' ⟨out,ns,e',h1,h2,h3,h4,h5,h6,h7,h8⟩=>?_
  ·obtain⟨hi1,hi2⟩:=hi;have hv:=zyj (P:=X.prog) (w:=X.w) (its:=acc.toList) rel (by simpa using hi1) fun j v e=>hi2 j v (by simpa using e);rw[hkv]at hv;exact zog hv
  ·have hms:ns=zUk (kvs.map (·.1)):=zcd (h3.trans (mergeSort_perm _ _).symm) h4 (z8h _);subst hms;have hlen:(zUk (kvs.map (·.1))).length=(kvs.map (·.1)).length:=h3.length_eq;rw[length_map]at hlen;have hf:=I.hok.fresh h5;refine⟨.ref q,_,zBp I h7 h8 h6 h5 (show ObjOk X.prog X.w _ s'.heap _ (.lst ((zUk (kvs.map (·.1))).map V.int)) from⟨by simp;rw[Yp];omega,out.toList,e',zAe h2,by simpa using h1⟩),rfl,k _ _ _ (Ext.push hf) (R.push hf ⟨_,zu,zCf⟩) (.loc (zEb R))⟩
 ·cases e
end
def zNq(K:yu)(c f:Str):Prop:=∀C,Yh K ym c=some (some (.ref C))->Cls K C/\NoAttr K C f
def zcp{K:yu}{ρ:List Addr}{H:Hp}{f:Str}{d:D}:∀{fs:List (Str×D)} {vs:List (Str×V)},vs.map (·.1)=fs.map (·.1)->RepVs K ρ H (fs.map (·.2)) (vs.map (·.2))->fs.lookup f=some d->∃v,vs.lookup f=some v/\RepV K ρ H d v
 |[],_,_,_,e=>by cases e
 |(g,x)::fs,[],h,_,_=>by cases h
 |(g,x)::fs,(g',y)::vs,h,r,e=>by
  obtain⟨h1,h2⟩:=yc h;have h1:g'=g:=h1;subst h1;obtain⟨v,q,e1,r1,r2⟩:=r.cons_inv;obtain⟨e2,e3⟩:=yc e1;subst e2 e3;rw[lookup_cons]at e ⊢
  cases hb:f==g' with
  |true=>rw[hb]at e;cases e;exact⟨_,rfl,r1⟩
  |false=>rw[hb]at e;exact zcp h2 r2 e
def zOp{f:Str}:∀{fs:List (Str×D)} {vs:List (Str×V)},vs.map (·.1)=fs.map (·.1)->fs.lookup f=none->vs.lookup f=none
 |[],[],_,_=>rfl
 |[],_::_,h,_=>by cases h
 |_::_,[],h,_=>by cases h
 |(g,x)::fs,(g',y)::vs,h,e=>by
  obtain⟨h1,h2⟩:=yc h;have h1:g'=g:=h1;subst h1;rw[lookup_cons]at e ⊢
  cases hb:f==g' with
  |true=>rw[hb]at e;cases e
  |false=>rw[hb]at e;exact zOp h2 e
def z6h(f:Str)(d:D):List (Str×D)->List (Str×D)
 |[]=>[(f,d)]
 |(g,x)::r=>if g=f then(g,d)::r else(g,x)::z6h f d r
def zIs{K:yu}{ρ:List Addr}{H:Hp}{f:Str}{d:D}{v:V}(rd:RepV K ρ H d v):∀{fs:List (Str×D)} {vs:List (Str×V)},vs.map (·.1)=fs.map (·.1)->RepVs K ρ H (fs.map (·.2)) (vs.map (·.2)) ->
 (zHk f v vs).map (·.1)=(z6h f d fs).map (·.1)/\RepVs K ρ H ((z6h f d fs).map (·.2)) ((zHk f v vs).map (·.2))
 |[],[],_,_=>⟨rfl, .cons rd .nil⟩
 |[],_::_,h,_=>by cases h
 |_::_,[],h,_=>by cases h
 |(g,x)::fs,(g',y)::vs,h,r=>by
  obtain⟨h1,h2⟩:=yc h;have h1:g'=g:=h1;subst h1;obtain⟨v',q,e1,r1,r2⟩:=r.cons_inv;obtain⟨e2,e3⟩:=yc e1;subst e2 e3;unfold zHk z6h
  by_cases hg:g'=f
  ·rw[if_pos hg,if_pos hg];exact⟨h, .cons rd r2⟩
  ·rw[if_neg hg,if_neg hg];obtain⟨k1,k2⟩:=zIs rd h2 r2;exact⟨by show g'::_=g'::_;rw[k1], .cons r1 k2⟩
section
variable {X:Cx}{a o e:Expr}{es:List Expr}{φ:FE}{ψ:FA}{pos apos:xp}{c f m:Str}
@[simp] def znp(c f:Str)(φ:FE):FE:=fun δ μ=>(φ δ μ).bind fun p=>match p.1 with
 |.loc n=>match p.2[n]? with
  |some (.ins c' fs)=>bif c'==c then(fs.lookup f).bind fun d=>some (d,p.2) else none
  |_=>none
 |_=>none
def zAg(T:zNq X.K c f)(h:ME X a φ)(hb:Yu a f X.env (yW a X.env)=yW a X.env:=by rfl):ME X (.Attribute a f pos) (znp c f φ) :=
 zfe (zlx h hb) fun ρ δ μ σ H d μ' Q A e k=>by
  obtain⟨⟨x,μ1⟩,e1,e⟩:=zh e;refine⟨ρ,δ,μ,x,μ1,A,e1,fun ρ1 H1 v x1 R1 r1=>?_⟩;dsimp only at e
  split at e
  ·split at e
   ·rename_i hm
    obtain⟨hc,e3⟩:=zQ e;clear e;have hc:=eq_of_beq hc;subst hc;obtain⟨d',e2,e4⟩:=zh e3;cases e4;obtain⟨a,rfl,ea⟩:=r1.loc_inv;obtain⟨C,dx,vs,hn,hH,hk,hv⟩:=R1.at_ _ _ _ ea hm;obtain⟨cl,na⟩:=T C hn;obtain⟨v,hl,rv⟩:=zcp hk hv e2;exact⟨a,C,dx,vs,v,rfl,hH,cl,na,hl,k ρ1 H1 v x1 R1 rv⟩
   ·cases e
  ·cases e
@[simp] def z4p(c f:Str)(φ ψ:FE):FS:=fun δ μ=>(ψ δ μ).bind fun y=>(φ δ y.2).bind fun p=>match p.1 with
 |.loc n=>match p.2[n]? with
  |some (.ins c' fs)=>bif (c'==c)&&decide (fs.length<1000) then some (.next δ (p.2.set n (.ins c (z6h f y.1 fs)))) else none
  |_=>none
 |_=>none
def zgr{value:Expr}{χ:FE}{pos':xp}(T:zNq X.K c f)(ha:ME X o φ)(hv:ME X value χ)(hs:xS value (some (.Attribute o f pos')) pos.line X.env=pure false:=by rfl):MS X (.Assign [.Attribute o f pos'] value pos) (z4p c f φ χ) :=
 zGj (zsx ha hv hs) fun ρ δ μ σ H o E A e k=>by
  obtain⟨⟨y,μ1⟩,e1,e⟩:=zh e;refine⟨ρ,δ,μ,y,μ1,A,e1,fun ρ1 H1 vy x1 R1 r1=>?_⟩;obtain⟨⟨x,μ2⟩,e2,e⟩:=zh e;refine⟨ρ1,δ,μ1,x,μ2,A.ext x1 R1,e2,fun ρ2 H2 v x2 R2 r2=>?_⟩;dsimp only at e
  split at e
  ·split at e
   ·rename_i n c' fs hm
    obtain⟨hc,e3⟩:=zQ e;clear e;rw[yE]at hc;have hl:=of_decide_eq_true hc.2;have hc:=eq_of_beq hc.1;subst hc;cases e3;obtain⟨a,rfl,ea⟩:=r2.loc_inv;obtain⟨C,dx,vs,hn,hH,hk,hvs⟩:=R2.at_ _ _ _ ea hm;obtain⟨cl,na⟩:=T C hn
    have hlen:vs.length<1000:=by
     have:=congrArg List.length hk;rw[length_map,length_map]at this;omega
    refine⟨a,C,dx,vs,rfl,hH,cl,na,hlen,?_⟩;have hmu:Mut (H2 a):=by rw[hH];trivial
    obtain⟨k1,k2⟩:=zIs (f:=f) (r1.ext (x2.trans (Ext.wr (o := .ins C dx (zHk f vy vs)) hmu))) hk (hvs.ext (Ext.wr (o := .ins C dx (zHk f vy vs)) hmu));have R3:=R2.wr (lo := .ins c' (z6h f y fs)) hmu ea ⟨C,dx,zHk f vy vs,hn,zu,k1,k2⟩;exact k ρ2 σ _ (x1.trans (x2.trans (Ext.wr hmu))) ((A.ext x1 R1).ext (x2.trans (Ext.wr hmu)) R3)
   ·cases e
  ·cases e
@[simp] def z1b(c m:Str)(φ:FE)(ψ:FA):FA:=fun δ μ=>(φ δ μ).bind fun p=>match p.1 with
 |.loc n=>match p.2[n]? with
  |some (.ins c' fs)=>bif (c'==c)&&(fs.lookup m).isNone then(ψ δ p.2).bind fun q=>some (.loc n::q.1,q.2) else none
  |_=>none
 |_=>none
def zap{δ:Loc}{μ μ':Mem}{ds:List D}(h:z1b c m φ ψ δ μ=some (ds,μ')):∃n fs μ1 as,φ δ μ=some (.loc n,μ1)/\μ1[n]?=some (.ins c fs)/\fs.lookup m=none/\ψ δ μ1=some (as,μ')/\ds = .loc n::as:=by
 obtain⟨⟨x,μ1⟩,e1,h⟩:=zh h;dsimp only at h
 split at h
 ·split at h
  ·rename_i n c' fs hm
   obtain⟨hc,h3⟩:=zQ h;clear h;rw[yE]at hc;have h1:=eq_of_beq hc.1;have h2:=Option.isNone_iff_eq_none.mp hc.2;subst h1;obtain⟨⟨as,μ2⟩,e2,h4⟩:=zh h3;cases h4;exact⟨_,fs,μ1,as,e1,hm,h2,e2,rfl⟩
  ·cases h
 ·cases h
structure MethAt(K:yu)(c m qual:Str)(st:Stmt)(ps:List Str)(C f:Addr)(fd:yg):Prop where
 nm:Yh K ym c=some (some (.ref C))
 cl:Cls K C
 me:Meth K C m f
 fn:Fun K m qual st f fd
 bd:Binds K fd ps []
variable {C g:Addr}{fd:yg}{ps:List Str}{qual:Str}{st:Stmt}{CX:CXT}{sp:Sp}{E:XK}{j k n:Nat}{F:FF}{FXm:FX}
def z3q{t:TA}{ρ:List Addr}{δ:Loc}{μ:Mem}{σ:L2.St}{H:Hp}{Q:VK}{ds:List D}{μ1:Mem}(B:MethAt X.K c m qual st ps C g fd)(A:At X.K ρ H σ δ μ)(e1:z1b c m φ ψ δ μ=some (ds,μ1))(ht:∀σ H R,tMA X.K ψ σ H R->t σ H R)
 (kk:∀ρ' H' vs,Ext ρ H ρ' H'->RepH X.K ρ' H' μ1->RepVs X.K ρ' H' ds vs->sp (vs++[]) H' Q E):zDw C m sp [] E (tM X.K φ) t σ H Q:=by
 obtain⟨n,fs,μo,as,ea,hm,hlk,eψ,rfl⟩:=zap e1;refine⟨ρ,δ,μ, .loc n,μo,A,ea,fun ρ1 H1 v x1 R1 r1=>?_⟩;obtain⟨a,rfl,ea'⟩:=r1.loc_inv;obtain⟨C',dx,vs,hn',hH,hk,hv⟩:=R1.at_ _ _ _ ea' hm;have hC:=B.nm;rw[hn']at hC;cases hC;refine⟨a,dx,vs,rfl,hH,zOp hk hlk,ht _ _ _ ⟨ρ1,δ,μo,as,μ1,A.ext x1 R1,eψ,fun ρ2 H2 vs2 x2 R2 r2=>?_⟩⟩;exact kk ρ2 H2 (.ref a::vs2) (x1.trans x2) R2 (.cons (r1.ext x2) r2)
def zlr{pl:Sem Bool}(B:MethAt X.K c m qual st ps C g fd)(G:FnOk X.prog X.w X.K X.mg X.base CX j g fd ps sp)(hr:Room k X.A)(hx:zHg CX X E)(ho:ME X o φ)(ha:MAn X (e::es) ψ)(hj:j<=k)
 (hst:yf (e::es) X.env=(false,yW e X.env)::yf es X.env:=by exact zZc rfl) (hpl:(yZ pos (yf es X.env)).any (·.1)=false:=by rfl)
 (ht:yW (.Call (.Attribute o m apos) (e::es) [] pos) X.env=(do
  let ov <-yW o X.env
  standAt apos.atName
  let (f,first) <-xC [ov] (getMethod ov m pl)
  callWith pos f first (yZ pos (yf (e::es) X.env)) (xt pos (YA [] X.env))):=by rfl) :
 PE X (.Call (.Attribute o m apos) (e::es) [] pos) (zeq sp [] E (tMA X.K (z1b c m φ ψ))):=by
 intro pins s σ H Q I h;obtain⟨ρ,δ,μ,ds,μ1,A,e1,kk⟩:=h;exact zsv ho B.cl B.me G (hr.mono hj) B.bd .nil hx ha.ma hst hpl ht pins s σ H Q I (z3q B A e1 (fun _ _ _ h=>h) kk)
def zuu{pl:Sem Bool}(B:MethAt X.K c m qual st ps C g fd)(G:FnOk X.prog X.w X.K X.mg X.base CX j g fd ps sp)(hr:Room k X.A)(hx:zHg CX X E)(ho:ME X o φ)(hj:j<=k)
 (ht:yW (.Call (.Attribute o m apos) [] [] pos) X.env=(do
  let ov <-yW o X.env
  standAt apos.atName
  let (f,first) <-xC [ov] (getMethod ov m pl)
  callWith pos f first (yZ pos (yf [] X.env)) (xt pos (YA [] X.env))):=by rfl) :
 PE X (.Call (.Attribute o m apos) [] [] pos) (zeq sp [] E (tMA X.K (z1b c m φ zJ))):=by
 intro pins s σ H Q I h;obtain⟨ρ,δ,μ,ds,μ1,A,e1,kk⟩:=h
 exact zBt ho B.cl B.me G (hr.mono hj) B.bd .nil hx ht pins s σ H Q I (z3q B A e1 (fun σ H R h=>by
  obtain⟨ρ,δ,μ,ds,μ',A,e,k⟩:=h;cases e;exact k ρ H [] Ext.refl A.hp .nil) kk)
def z8i{δ:Loc}{μ μ':Mem}{ds:List D}(ha:∀δ μ ds μ',ψ δ μ=some (ds,μ')->ds.length+1=n)(h:z1b c m φ ψ δ μ=some (ds,μ')):ds.length=n:=by
 obtain⟨_,_,_,as,_,_,_,e,rfl⟩:=zap h;exact ha _ _ _ _ e
def zav(h:PE X a (zeq (spM X.K n F) [] E0 (tMA X.K ψ)))(hl:∀δ μ ds μ',ψ δ μ=some (ds,μ')->ds.length=n):ME X a (zx F ψ) :=
 zfe h fun ρ δ μ σ H d μ' Q A eo kk=>by
  obtain⟨⟨ds,μ1⟩,e1,eo⟩:=zh eo;refine⟨ρ,δ,μ,ds,μ1,A,e1,fun ρ1 H1 vs x1 R1 r1=>?_⟩;show spM X.K n F (vs++[]) H1 Q E0;rw[append_nil];exact⟨by rw[<-r1.length];exact hl _ _ _ _ e1,ρ1,ds,μ1,d,μ',r1,R1,eo,fun ρ2 H2 v x2 R2 r2=>kk ρ2 H2 v (x1.trans x2) R2 r2⟩
def zYw(h:PE X a (zeq (spX X.K n FXm) [] E0 (tMA X.K ψ)))(hl:∀δ μ ds μ',ψ δ μ=some (ds,μ')->ds.length=n):ME X a (zvn FXm ψ) :=
 zfe h fun ρ δ μ σ H d μ' Q A eo kk=>by
  obtain⟨⟨ds,μ1⟩,e1,eo⟩:=zh eo;refine⟨ρ,δ,μ,ds,μ1,A,e1,fun ρ1 H1 vs x1 R1 r1=>?_⟩;show spX X.K n FXm (vs++[]) H1 Q E0;rw[append_nil];exact⟨by rw[<-r1.length];exact hl _ _ _ _ e1,ρ1,ds,μ1, .ok d μ',r1,R1,zNt eo,fun ρ2 H2 v x2 R2 r2=>kk ρ2 H2 v (x1.trans x2) R2 r2⟩
abbrev zdn(X:Cx)(o:Expr)(m:Str)(es:List Expr)(apos pos:xp)(pl:Sem Bool):Prop:=yW (.Call (.Attribute o m apos) es [] pos) X.env=(do
 let ov <-yW o X.env
 standAt apos.atName
 let (f,first) <-xC [ov] (getMethod ov m pl)
 callWith pos f first (yZ pos (yf es X.env)) (xt pos (YA [] X.env)))
def mmeth{pl:Sem Bool}(B:MethAt X.K c m qual st ps C g fd)(G:FnOk X.prog X.w X.K X.mg X.base CX0 j g fd ps (spM X.K n F))(hr:Room k X.A)(ho:ME X o φ)(ha:MAn X (e::es) ψ)(hj:j<=k:=by decide)(hn:(e::es).length+1=n:=by rfl)
 (hst:yf (e::es) X.env=(false,yW e X.env)::yf es X.env:=by exact zZc rfl) (hpl:(yZ pos (yf es X.env)).any (·.1)=false:=by rfl) (ht:zdn X o m (e::es) apos pos pl:=by rfl) :
 ME X (.Call (.Attribute o m apos) (e::es) [] pos) (zx F (z1b c m φ ψ)) :=
 zav (zlr B G hr pass0 ho ha hj hst hpl ht) fun _ _ _ _ h=>z8i (fun _ _ _ _ h=>by rw[ha.len _ _ _ _ h];exact hn) h
def mmeth0{pl:Sem Bool}(B:MethAt X.K c m qual st ps C g fd)(G:FnOk X.prog X.w X.K X.mg X.base CX0 j g fd ps (spM X.K 1 F))(hr:Room k X.A)(ho:ME X o φ)(hj:j<=k:=by decide)(ht:zdn X o m [] apos pos pl:=by rfl) :
 ME X (.Call (.Attribute o m apos) [] [] pos) (zx F (z1b c m φ zJ)) :=
 zav (zuu B G hr pass0 ho hj ht) fun _ _ _ _ h=>z8i (fun _ _ _ _ h=>by cases h;rfl) h
def mmethX{pl:Sem Bool}(B:MethAt X.K c m qual st ps C g fd)(G:FnOk X.prog X.w X.K X.mg X.base (CXq X.prog X.w) j g fd ps (spX X.K n FXm))(hr:Room k X.A)(ho:ME X o φ)(ha:MAn X (e::es) ψ)(hj:j<=k:=by decide)(hn:(e::es).length+1=n:=by rfl)
 (hst:yf (e::es) X.env=(false,yW e X.env)::yf es X.env:=by exact zZc rfl) (hpl:(yZ pos (yf es X.env)).any (·.1)=false:=by rfl) (ht:zdn X o m (e::es) apos pos pl:=by rfl) :
 ME X (.Call (.Attribute o m apos) (e::es) [] pos) (zvn FXm (z1b c m φ ψ)) :=
 zYw (zlr B G hr passF ho ha hj hst hpl ht) fun _ _ _ _ h=>z8i (fun _ _ _ _ h=>by rw[ha.len _ _ _ _ h];exact hn) h
def zwz{pl:Sem Bool}(B:MethAt X.K c m qual st ps C g fd)(G:FnOk X.prog X.w X.K X.mg X.base (CXq X.prog X.w) j g fd ps (spX X.K n FXm))(hr:Room k X.A)(ho:ME X.nox o φ)(ha:MAn X.nox (e::es) ψ)(hj:j<=k)
 (hst:yf (e::es) X.env=(false,yW e X.env)::yf es X.env) (hpl:(yZ pos (yf es X.env)).any (·.1)=false) (ht:zdn X o m (e::es) apos pos pl)
 {pins:List (Addr×YN)} {s:yb} {σ:L2.St} {H:Hp} {Q:VK} {W:XK} (I:Inv X pins σ H s) (h:tCX X.K W n FXm (z1b c m φ ψ) σ H Q):yn (yr X.prog X.w) X.A (yW (.Call (.Attribute o m apos) (e::es) [] pos) X.env) (EP X pins σ Q) (XP X pins σ W) s:=by
 obtain⟨ρ,δ,μ,ds,μ1,A,e1,kk⟩:=h;refine PySem.W.methodCall_KW (pl:=pl) (yR (ho pins s σ H _ (I.wish _) (z3q (sp:=spX X.K n FXm) (E:=W) (Q:=Q) (t:=tMA X.K ψ) B A e1 (fun _ _ _ h=>h) kk)) (fun u s1 h1=>?_) fun _ _ z=>z.elim) ht;obtain⟨x,H1,I1,rx,a,dx,fs,ex,ea,l,q⟩:=h1;have I1:=I1.unwish;subst ex;obtain rfl:u=yD a:=rx;refine z7h I1 ea B.cl B.me l ?_;refine PySem.W.callWith_K (first:=[.ref a]) (h₀:=X.base) I.ok.mod.kin B.me.kp (yR (ha.ma pos pins s1 σ H1 _ (I1.wish _) q) (fun us s2 h2=>?_) fun _ _ z=>z.elim) hst hpl;obtain⟨vs,H2,I2,r,q2⟩:=h2;have I2:=I2.unwish;refine⟨I2.kIn,?_⟩;have r2:Vals (.ref a::(vs++[])) (yD a::us++[]) := .cons rfl (r.append .nil);have hl:(yD a::us++[]).length=ps.length:=by rw[<-r2.length];exact G.len _ _ _ _ q2
 refine wpAny_call (YR (G.run X.A X.stack s2 H2 ⟨.ref a::us,[]⟩ (.ref a::us++[]) (.ref a::(vs++[])) Q W (hr.mono hj) I2.env0 (B.bd s2 (.ref a::us) I2.kIn hl) r2 q2) fun rr s' hq=>?_)
 cases rr with
 |error ex=>
  obtain⟨C,dx,H',Fl,hw⟩:=hq;exact⟨H2,s2,C,dx,H',I2,Fl,hw⟩
 |ok fl=>
  cases fl with
  |ret u=>exact I2.after hq
  |next=>exact Yt hq
  |brk=>exact Yt hq
  |cont=>exact Yt hq
def zTp{pl:Sem Bool}{spos:xp}(B:MethAt X.K c m qual st ps C g fd)(G:FnOk X.prog X.w X.K X.mg X.base (CXq X.prog X.w) j g fd ps (spX X.K n FXm))(hr:Room k X.A)(ho:ME X.nox o φ)(ha:MAn X.nox (e::es) ψ)(hj:j<=k:=by decide)(hn:(e::es).length+1=n:=by rfl)
 (hst:yf (e::es) X.env=(false,yW e X.env)::yf es X.env:=by exact zZc rfl) (hpl:(yZ pos (yf es X.env)).any (·.1)=false:=by rfl) (ht:zdn X o m (e::es) apos pos pl:=by rfl)
 (hs:xS (.Call (.Attribute o m apos) (e::es) [] pos) none spos.line X.env=pure false:=by rfl):PX1 X (.Expr (.Call (.Attribute o m apos) (e::es) [] pos) spos) (zPp FXm (z1b c m φ ψ)):=by
 intro pins s σ H D W I ⟨ρ,δ,μ,o,A,eo,kk⟩;obtain⟨ds,μ1,r,e1,e2,rfl⟩:=zzt eo;refine wpAny_Expr_any (thn (zwz B G hr ho ha hj hst hpl ht I (Q:=fun _ H'=>D.nx σ H') (z1x A e1 (z8i (fun _ _ _ _ h=>by rw[ha.len _ _ _ _ h];exact hn) e1) e2 ?_)) fun v s1 ⟨y,H1,I1,r1,q1⟩=>⟨σ,H1,I1,q1⟩) I.quiet hs
 cases r with
 |ok d μ'=>exact fun ρ' H' v x' R r=>kk ρ' σ H' x' (A.ext x' R)
 |exc c fs μ'=>exact kk
@[simp] def zqq(c:Str)(F:FF)(ψ:FA):FE:=fun δ μ=>(ψ δ μ).bind fun q=>(F (.loc q.2.length::q.1) (q.2++[.ins c []])).bind fun r=>match r.1 with
 |.non=>some (.loc q.2.length,r.2)
 |_=>none
def mmake{p:xp}(mk:Mk X.K C g)(hc:Yh X.K ym c=some (some (.ref C)))(hm:X.mg c=some (.ref C))(bd:Binds X.K fd ps [])(G:FnOk X.prog X.w X.K X.mg X.base CX0 j g fd ps (spM X.K n F))(hr:Room k X.A)(ha:MAn X (e::es) ψ)
 (hj:j+1<=k:=by decide) (hn:(e::es).length+1=n:=by rfl) (hg:Gl X c:=by rfl) (hdb:(c==("__debug__":Str))=false:=by decide) (he:yf (e::es) X.env=(false,yW e X.env)::yf es X.env:=by exact zZc rfl) (hpl:(yZ pos (yf es X.env)).any (·.1)=false:=by rfl) :
 ME X (.Call (.Name c p) (e::es) [] pos) (zqq c F ψ) :=
 zfe (zMv mk G (hr.mono hj) hg hm bd .nil pass0 ha.ma hdb he hpl) fun ρ δ μ σ H d μ' Q A eo kk=>by
  obtain⟨⟨ds,μ1⟩,e1,eo⟩:=zh eo;refine⟨ρ,δ,μ,ds,μ1,A,e1,fun ρ1 H1 vs x1 R1 r1 x dx nx ndx nex=>?_⟩;obtain⟨⟨r,μ2⟩,e2,eo⟩:=zh eo;dsimp only at eo
  split at eo
  ·cases eo;have nx2:(upd H1 dx (.own x)) x=none:=by rw[zH (yN nex)];exact nx
   have R2:RepH X.K ρ1 (upd H1 dx (.own x)) μ1:=R1.newTup ndx;have R3:=R2.push (lo := .ins c []) nx2 ⟨C,dx,[],hc,zu,rfl, .nil⟩;have X3:=(Ext.new (ρ:=ρ1) (o := .own x) ndx).trans (Ext.push (o := .ins C dx []) nx2);rw[append_nil];refine⟨by rw[length_cons,<-r1.length,ha.len _ _ _ _ e1];exact hn,ρ1++[x], .loc μ1.length::ds,μ1++[.ins c []], .non,_, .cons (.loc (zEb R2)) (r1.ext X3),R3,e2,fun ρ4 H4 v x4 R4 r4=>⟨r4.non_inv,kk ρ4 H4 (.ref x) (x1.trans (X3.trans x4)) R4 (.loc (x4.get (zEb R2)))⟩⟩
  ·cases eo
def mcallA{x x0:Str}{p:xp}{f:Addr}(hm:X.mg x=some (.ref f))(B:FnAt X.K X.mg x0 st ps f fd)(G:FnOk X.prog X.w X.K X.mg X.base CX0 j f fd ps (spM X.K n F))(hr:Room k X.A)
 (ha:MAn X (e::es) ψ) (hj:j<=k:=by decide) (hn:(e::es).length=n:=by rfl) (hg:Gl X x:=by rfl) (hdb:(x==("__debug__":Str))=false:=by decide) (he:yf (e::es) X.env=(false,yW e X.env)::yf es X.env:=by exact zZc rfl) (hpl:(yZ pos (yf es X.env)).any (·.1)=false:=by rfl) :
 ME X (.Call (.Name x p) (e::es) [] pos) (zx F ψ):=zbr G (hr.mono hj) hm B.fn.kp B.bd ha hn hg hdb he hpl
end
section
variable {X:Cx}{e:Expr}{es:List Expr}{φ:FE}{pos:xp}
@[simp] def zSj(g:GM)(φ:FE)(ψ:FA):FE:=fun δ μ=>(φ δ μ).bind fun p=>match p.1 with
 |.loc n=>match p.2[n]? with
  |some (.dct _)=>(ψ δ p.2).bind fun q=>g (.loc n) q.1 q.2
  |_=>none
 |_=>none
def zqp{o:Expr}{ψ:FA}{name:Str}{id:String}{g:GM}{apos:xp}(slot:Slot "dict" name id)(hty:typeOf (.builtin id)=pure (.type "method_descriptor"))(hm:MtG X id g)(ho:ME X o φ)(ha:MAn X (e::es) ψ)
 (hbase:Yu o name X.env (yW o X.env)=yW o X.env:=by rfl)
 (hfew:((yZ pos (yf (e::es) X.env)).all (fun x=>!x.1)&&(xt pos (YA [] X.env)).all (fun x=>x.1.isSome)
  && decide ((e::es).length+([]:List xj).length+(if([]:List xj).isEmpty then 0 else 1)<30))=true:=by rfl)
 (hline:(apos.endLine==pos.line)=true:=by rfl) (hs:yf (e::es) X.env=(false,yW e X.env)::yf es X.env:=by rfl) (hplain:(yZ pos (yf es X.env)).any (·.1)=false:=by rfl) :
 ME X (.Call (.Attribute o name apos) (e::es) [] pos) (zSj g φ ψ) :=
 zfe (z1w PySem.F.plainAttrs_dict slot hty hm ho ha.ma hbase hfew hline hs hplain) fun ρ δ μ σ H d μ' Q A e k=>by
  obtain⟨⟨x,μ1⟩,e1,e⟩:=zh e;refine⟨ρ,δ,μ,x,μ1,A,e1,fun ρ1 H1 v x1 R1 r1=>?_⟩;dsimp only at e
  split at e
  ·split at e
   ·rename_i hm'
    obtain⟨⟨ds,μ2⟩,e2,e⟩:=zh e;obtain⟨a,rfl,ea⟩:=r1.loc_inv;obtain⟨vs,e3,q3⟩:=R1.at_ _ _ _ ea hm';refine⟨.inr (.inr (.inl ⟨rfl, .inl ⟨vs,e3⟩⟩)),ρ1,δ,μ1,ds,μ2,A.ext x1 R1,e2,fun ρ2 H2 vs2 x2 R2 r2=>?_⟩;exact⟨ρ2,_,ds,μ2,d,μ',r1.ext x2,r2,R2,e,fun ρ3 H3 v3 x3 R3 r3=>k ρ3 H3 v3 (x1.trans (x2.trans x3)) R3 r3⟩
   ·cases e
  ·cases e
@[simp] def zbq:GM:=fun x ds μ=>match ds with
 |[.int i]=>(ztc μ x).bind fun kvs=>some ((z0c kvs i).getD .non,μ)
 |_=>none
def zru:MtG X "dict.get" zbq:=by
 refine MtG.of fun pins s σ H x xs v us Q I rx rs ρ dx ds μ d μ' r1 r2 R e k=>?_;unfold zbq at e
 split at e
 ·rename_i i
  obtain⟨kvs,e1,e⟩:=zh e;cases e;obtain⟨p,vs,rfl,hq,q1,q2⟩:=zlf R r1 e1;obtain⟨w,r,rfl,q3,q4⟩:=r2.cons_inv;rw[q4.nil_inv,q3.int_inv]at rs;obtain⟨u,rfl,ru⟩:=vals1 rs;cases rx;obtain⟨z,hd,us,rel,dd⟩:=zEh I.hok hq;refine call_meetsIn PySem.F.slot_dict_get dd.typeIs PySem.F.entry_dict_get (PySem.F.args_dict_get_2 _ _) (meets_dict_get (zXb X.prog X.w) p (zBq (k:=yG i) ru) hd) ⟨_,dd.mapOf,?_⟩;have rv:=rel.val (yG i)
  cases e3:z0c kvs i with
  |none=>
   rw[(zmg i q1 q2).2 e3]at rv;rw[RelO.none_of rv];exact⟨.non,H,I.tok _,rfl,by have:=k ρ H .non Ext.refl R;rw[e3]at this;exact this .non⟩
  |some d'=>
   obtain⟨v',ev,r'⟩:=(zmg i q1 q2).1 d' e3;rw[ev]at rv;obtain⟨u',eu,ru'⟩:=RelO.some_of rv;rw[eu];exact⟨v',H,I.tok _,ru',by have:=k ρ H v' Ext.refl R;rw[e3]at this;exact this r'⟩
 ·cases e
def zcv{o:Expr}{ψ:FA}{apos:xp}(ho:ME X o φ)(ha:MAn X (e::es) ψ)
 (hbase:Yu o "get" X.env (yW o X.env)=yW o X.env:=by rfl)
 (hfew:((yZ pos (yf (e::es) X.env)).all (fun x=>!x.1)&&(xt pos (YA [] X.env)).all (fun x=>x.1.isSome)
  && decide ((e::es).length+([]:List xj).length+(if([]:List xj).isEmpty then 0 else 1)<30))=true:=by rfl)
 (hline:(apos.endLine==pos.line)=true:=by rfl) (hs:yf (e::es) X.env=(false,yW e X.env)::yf es X.env:=by rfl) (hplain:(yZ pos (yf es X.env)).any (·.1)=false:=by rfl) :
 ME X (.Call (.Attribute o "get" apos) (e::es) [] pos) (zSj zbq φ ψ):=zqp PySem.F.slot_dict_get PySem.F.type_dict_get zru ho ha hbase hfew hline hs hplain
def zpu(vs:List (Key×V))(k:Key):List (Key×V):=vs.filter fun p=>decide (p.1≠k)
def zov(kvs:List (Int×D))(i:Int):List (Int×D):=kvs.filter fun p=>decide (p.1≠i)
def zFy{vs:List (Key×V)}{us:List (Key×Value)}(r:KV vs us)(k:Key):KV (zpu vs k) (without us k):=by
 unfold KV at r ⊢
 induction r with
 |nil=>exact .nil
 |@cons p q ps qs h t ih=>
  unfold zpu without at ih ⊢;rw[filter_cons,filter_cons,h.1]
  split
  ·exact .cons h ih
  ·exact ih
def z6r{K:yu}{ρ:List Addr}{H:Hp}:∀{kvs:List (Int×D)} {vs:List (Key×V)} (i:Int),vs.map (·.1)=kvs.map (fun p=>yG p.1)->RepVs K ρ H (kvs.map (·.2)) (vs.map (·.2)) ->
 (zpu vs (yG i)).map (·.1)=(zov kvs i).map (fun p=>yG p.1)/\RepVs K ρ H ((zov kvs i).map (·.2)) ((zpu vs (yG i)).map (·.2))
 |[],vs,i,h1,h2=>by
  have:vs=[]:=by simpa using h1
  subst this;exact⟨rfl, .nil⟩
 |(j,d)::kvs,[],i,h1,h2=>by simp at h1
 |(j,d)::kvs,(k,u)::vs,i,h1,h2=>by
  rw[map_cons,map_cons,YY]at h1;obtain⟨hk,h1⟩:=h1;have hk:k=yG j:=hk;subst hk;obtain⟨v',r',e',q1,q2⟩:=h2.cons_inv;rw[map_cons,YY]at e';obtain⟨e1,e2⟩:=e';subst e2;have e1:u=v':=e1;subst e1;obtain⟨i1,i2⟩:=z6r (K:=K) (ρ:=ρ) (H:=H) i h1 q2;unfold zpu zov at i1 i2 ⊢
  by_cases hj:j=i
  ·subst hj;rw[xL (by simp),xL (by simp)];exact⟨i1,i2⟩
  ·rw[List.filter_cons_of_pos (by simp[hj]),List.filter_cons_of_pos (by simp[hj])];exact⟨by rw[map_cons,map_cons,i1], .cons q1 i2⟩
@[simp] def z2p:GM:=fun x ds μ=>match x,ds with
 |.loc n,[.int i]=>match μ[n]? with
  |some (.dct kvs)=>(z0c kvs i).bind fun d=>some (d,μ.set n (.dct (zov kvs i)))
  |_=>none
 |_,_=>none
def zkt:MtG X "dict.pop" z2p:=by
 refine MtG.of fun pins s σ H x xs v us Q I rx rs ρ dx ds μ d μ' r1 r2 R e k=>?_;unfold z2p at e
 split at e
 ·rename_i n i
  split at e
  ·rename_i kvs hm
   obtain⟨d',e1,e⟩:=zh e;cases e;obtain⟨p,rfl,ea⟩:=r1.loc_inv;obtain⟨vs,hH,q1,q2⟩:=R.at_ _ _ _ ea hm;obtain⟨w,r,rfl,q3,q4⟩:=r2.cons_inv;rw[q4.nil_inv,q3.int_inv]at rs;obtain⟨u,rfl,ru⟩:=vals1 rs;cases rx;obtain⟨z,hd,us,rel,dd⟩:=zNv I.hok hH;obtain⟨v',ev,r'⟩:=(zmg _ q1 q2).1 _ e1;have rv:=rel.val (yG i);rw[ev]at rv;obtain⟨u',eu,ru'⟩:=RelO.some_of rv;have hz:us.length<=yB:=by rw[<-rel.length];exact z
   have hmu:Mut (H p):=by rw[hH];trivial
   have hpart:(keyPart u).isSome=true:=by obtain⟨t,rfl⟩:=ru;rfl
   refine call_meetsIn PySem.F.slot_dict_pop dd.typeIs PySem.F.entry_dict_pop (PySem.F.args_dict_pop_2 _ _) (meets_dict_pop_there (zXb X.prog X.w) p (zBq (k:=yG i) ru) [] (.inl rfl) hpart) ⟨us,u',dd,hz,eu,fun h' dd' hs=>?_⟩;have hl':(zpu vs (yG i)).length<=yB:=yC (List.length_filter_le _ _) z;have I1:Inv X pins σ (upd H p (.dK (zpu vs (yG i)))) {s with heap:=h',toks:=s.toks+1 }:=I.write (x:=p) (e:=p) hmu (.inl rfl) (fun b q hb z=>(hs.2 b hb).trans z) (by obtain⟨q,_,_,hq,_⟩:=dd';exact⟨q,hq⟩) (show ObjOk X.prog X.w _ h' p (.dK (zpu vs (yG i))) from⟨hl',hd,_,zFy rel _,dd'⟩);obtain⟨p1,p2⟩:=z6r i q1 (q2.ext (Ext.wr (o := .dK (zpu vs (yG i))) hmu));exact⟨v',_,I1,ru',k ρ _ _ (Ext.wr hmu) (R.wr hmu ea ⟨_,zu,p1,p2⟩) (r'.ext (Ext.wr hmu))⟩
  ·cases e
 ·cases e
def zLv{o:Expr}{ψ:FA}{apos:xp}(ho:ME X o φ)(ha:MAn X (e::es) ψ)
 (hbase:Yu o "pop" X.env (yW o X.env)=yW o X.env:=by rfl)
 (hfew:((yZ pos (yf (e::es) X.env)).all (fun x=>!x.1)&&(xt pos (YA [] X.env)).all (fun x=>x.1.isSome)
  && decide ((e::es).length+([]:List xj).length+(if([]:List xj).isEmpty then 0 else 1)<30))=true:=by rfl)
 (hline:(apos.endLine==pos.line)=true:=by rfl) (hs:yf (e::es) X.env=(false,yW e X.env)::yf es X.env:=by rfl) (hplain:(yZ pos (yf es X.env)).any (·.1)=false:=by rfl) :
 ME X (.Call (.Attribute o "pop" apos) (e::es) [] pos) (zSj z2p φ ψ):=zqp PySem.F.slot_dict_pop PySem.F.type_dict_pop zkt ho ha hbase hfew hline hs hplain
end
structure MakeAt(K:yu)(mg:Str->Option Value)(c:Str)(st:Stmt)(ps:List Str)(C f:Addr)(fd:yg):Prop where
 nm:Yh K ym c=some (some (.ref C))
 mgc:mg c=some (.ref C)
 mkc:Mk K C f
 fn:Fun K "__init__" (c ++ ".__init__") st f fd
 bd:Binds K fd ps []
section
variable {X:Cx}{e:Expr}{es:List Expr}{ψ:FA}{pos p:xp}{c:Str}{C g:Addr}{fd:yg}{ps:List Str}{st:Stmt}{j k n:Nat}{F:FF}
def mmakeA(B:MakeAt X.K X.mg c st ps C g fd)(G:FnOk X.prog X.w X.K X.mg X.base CX0 j g fd ps (spM X.K n F))(hr:Room k X.A)(ha:MAn X (e::es) ψ)
 (hj:j+1<=k:=by decide) (hn:(e::es).length+1=n:=by rfl) (hg:Gl X c:=by rfl) (hdb:(c==("__debug__":Str))=false:=by decide) (he:yf (e::es) X.env=(false,yW e X.env)::yf es X.env:=by exact zZc rfl) (hpl:(yZ pos (yf es X.env)).any (·.1)=false:=by rfl) :
 ME X (.Call (.Name c p) (e::es) [] pos) (zqq c F ψ):=mmake B.mkc B.nm B.mgc B.bd G hr ha hj hn hg hdb he hpl
def FnAt.al{K:yu}{mg:Str->Option Value}{x y:Str}{f:Addr}(B:FnAt K mg x st ps f fd)(h:mg y=mg x):mg y=some (.ref f):=h.trans B.at_
end
@[simp] theorem z3y{i j:Int}(h1:-18446744073709551616<j)(h2:j<18446744073709551616):zIk i j=true:=by
 unfold zIk;rw[decide_eq_true (p:=-(2^64)<j/\j<2^64) ⟨by omega,by omega⟩];simp
@[simp] theorem zzw{i j:Int}(h1:-18446744073709551616<i)(h2:i<18446744073709551616):zIk i j=true:=by
 unfold zIk;rw[decide_eq_true (p:=-(2^64)<i/\i<2^64) ⟨by omega,by omega⟩];simp
def zRw{μ g:Mem}{n:Nat}(h:n<μ.length):(μ++g)[n]?=μ[n]?:=yq h
def zAc{μ g:Mem}{n:Nat}{o:LObj}(h:μ[n]?=some o):(μ++g)[n]?=some o:=by
 rw[zRw (List.getElem?_eq_some_iff.mp h).1];exact h
mutual
def zVp:∀p:xK,p.canLay0=true->Yb p p=true
 |.none,_=>rfl
 |.bool b,_=>by simp[Yb]
 |.int b,_=>by simp[Yb]
 |.str b,_=>by simp[Yb]
 |.list xs,h=>by
  unfold Yb;exact eqvAll_refl xs (by simpa[PyData.canLay0] using h)
 |.tuple xs,h=>by
  unfold Yb;exact eqvAll_refl xs (by simpa[PyData.canLay0] using h)
 |.dict _,h=>by simp[PyData.canLay0]at h
def eqvAll_refl:∀ps:List xK,Xe ps=true->xW ps ps=true
 |[],_=>rfl
 |p::ps,h=>by
  simp only[Xe,yE]at h;unfold xW;rw[zVp p h.1,eqvAll_refl ps h.2];rfl
end
def z6t{x y:D}{μ:Mem}{p:xK}(h1:toP μ 8 x=some p)(h2:toP μ 8 y=some p):gEq x y μ=some (.bl true,μ):=by
 unfold gEq;rw[h1,h2];simp[zVp p (zBk 8 x p h1).1]
def zNx{K:yu}{F:FF}{H:Hp}{a:Addr}{ns:List Int}(hF:∃μ',F [.fz (ns.map D.int)] []=some (.bl true,μ'))(hO:zKy H)(hS:SqL K H a (ns.map V.int)):spM K 1 F [.ref a] H (fun v _=>v = .bl true) fun _ _ _=>False:=by
 obtain⟨μ',e⟩:=hF
 have fz:FzL K H a (ns.map V.int):=by
  rcases hS with (h | ⟨o,h⟩) | h
  ·rcases hO a with z | ⟨o,xs,z⟩
   ·rw[h]at z;cases z
   ·rw[h]at z;cases z
  ·exact .inl ⟨o,h⟩
  ·exact .inr h
 have hints:∀ns:List Int,RepVs K [] H (ns.map D.int) (ns.map V.int):=fun ns=>by
  induction ns with
  |nil=>exact .nil
  |cons i r ih=>exact .cons .int ih
 exact⟨rfl,[],[.fz (ns.map D.int)],[], .bl true,μ', .cons (.fz fz (hints ns)) .nil,⟨List.nodup_nil,rfl,fun n a o h1 _=>by simp at h1⟩,e,fun ρ' H' v _ _ r=>r.bl_inv⟩
structure WE(φ:FE)(δ:Loc)(μ:Mem)(Q:D->Mem->Prop):Prop where
 ex:∃d μ',φ δ μ=some (d,μ')/\Q d μ'
structure WT(φ:FT)(δ:Loc)(μ:Mem)(Q:Bool->Mem->Prop):Prop where
 ex:∃d μ',φ δ μ=some (d,μ')/\Q d μ'
structure WA(φ:FA)(δ:Loc)(μ:Mem)(Q:List D->Mem->Prop):Prop where
 ex:∃d μ',φ δ μ=some (d,μ')/\Q d μ'
structure WO(φ:FO)(δ:Loc)(μ:Mem)(Q:Option Int->Mem->Prop):Prop where
 ex:∃d μ',φ δ μ=some (d,μ')/\Q d μ'
structure W2(g:G2)(x y:D)(μ:Mem)(Q:D->Mem->Prop):Prop where
 ex:∃d μ',g x y μ=some (d,μ')/\Q d μ'
structure WF(F:FF)(ds:List D)(μ:Mem)(Q:D->Mem->Prop):Prop where
 ex:∃d μ',F ds μ=some (d,μ')/\Q d μ'
structure WM(g:GM)(x:D)(ds:List D)(μ:Mem)(Q:D->Mem->Prop):Prop where
 ex:∃d μ',g x ds μ=some (d,μ')/\Q d μ'
structure WI(i:FI)(δ:Loc)(μ:Mem)(Q:List D->(Mem->Bool)->Mem->Prop):Prop where
 ex:∃ds ok μ',i δ μ=some (ds,ok,μ')/\Q ds ok μ'
structure WG(g:FG)(d:D)(δ:Loc)(μ:Mem)(Q:Loc->Mem->Prop):Prop where
 ex:∃δ' μ',g d δ μ=some (δ',μ')/\Q δ' μ'
structure WGs(g:FGs)(ds:List D)(δ:Loc)(μ:Mem)(Q:Loc->Mem->Prop):Prop where
 ex:∃δ' μ',g ds δ μ=some (δ',μ')/\Q δ' μ'
structure WL(g:FG)(c:FT)(φ:FE)(ok:Mem->Bool)(δ:Loc)(xs ys:List D)(μ:Mem)(Q:D->Mem->Prop):Prop where
 ex:∃d μ',zit g c φ ok δ xs ys μ=some (d,μ')/\Q d μ'
def Ek(nx:Loc->Mem->Prop)(rt:D->Mem->Prop)(bk ct:Loc->Mem->Prop):Out->Prop
 |.next δ μ=>nx δ μ
 |.ret d μ=>rt d μ
 |.brk δ μ=>bk δ μ
 |.cont δ μ=>ct δ μ
 |.exc _ _ _=>False
structure WS(ψ:FS)(δ:Loc)(μ:Mem)(nx:Loc->Mem->Prop)(rt:D->Mem->Prop)(bk ct:Loc->Mem->Prop):Prop where
 ex:∃o,ψ δ μ=some o/\Ek nx rt bk ct o
structure WFor(g:FG)(body:FS)(ok:Mem->Bool)(xs:List D)(δ:Loc)(μ:Mem)(nx:Loc->Mem->Prop)(rt:D->Mem->Prop):Prop where
 ex:∃o,zni g body ok xs δ μ=some o/\Ek nx rt (fun _ _=>False) (fun _ _=>False) o
def Keep(μ μ':Mem):Prop:=∀(n:Nat)(o:LObj),μ[n]?=some o->μ'[n]?=some o
def Keep.refl{μ:Mem}:Keep μ μ:=fun _ _ h=>h
def Keep.trans{μ μ1 μ2:Mem}(a:Keep μ μ1)(b:Keep μ1 μ2):Keep μ μ2:=fun n o h=>b n o (a n o h)
def Keep.app{μ g:Mem}:Keep μ (μ++g):=fun _ _ h=>zAc h
def Keep.to{μ μ1 g:Mem}(a:Keep μ μ1):Keep μ (μ1++g):=a.trans .app
def Keep.len{μ μ':Mem}(a:Keep μ μ'):μ.length<=μ'.length:=by
 rcases Nat.lt_or_ge μ'.length μ.length with h | h
 ·have:=a μ'.length μ[μ'.length] (by simp[h]);simp at this
 ·exact h
def zt{μ:Mem}{o:LObj}:(μ++[o])[μ.length]?=some o:=by simp
def zI{μ:Mem}{n:Nat}{o:LObj}(h:μ[n]?=some o):n<μ.length:=(List.getElem?_eq_some_iff.mp h).1
def zS{μ:Mem}{n m:Nat}{o o':LObj}(h:μ[n]?=some o)(hne:m≠n):(μ.set m o')[n]?=some o:=by
 rw[yJ hne];exact h
def zbb{μ:Mem}{n:Nat}{o o':LObj}(h:μ[n]?=some o):(μ.set n o')[n]?=some o':=by
 rw[yM (zI h)]
def zy{μ:Mem}{n:Nat}{ds:List D}(h:μ[n]?=some (.lst ds)):items μ (.loc n)=some ds:=by simp[h]
section
variable {φ ψ χ:FE}{g g2:G2}{δ:Loc}{μ:Mem}{Q:D->Mem->Prop}{i j:Int}{d x y:D}{ds xs:List D}
def WE.mono{Q':D->Mem->Prop}(h:WE φ δ μ Q)(k:∀d μ',Q d μ'->Q' d μ'):WE φ δ μ Q':=let ⟨d,μ',e,q⟩:=h;⟨d,μ',e,k d μ' q⟩
def zd{n:Nat}(h:δ[n]?=some (some d))(q:Q d μ):WE (zm n) δ μ Q:=⟨d,μ,by simp[h],q⟩
def w_c(q:Q d μ):WE (fC d) δ μ Q:=⟨d,μ,rfl,q⟩
def zq(h:WE φ δ μ fun x μ1=>WE ψ δ μ1 fun y μ2=>W2 g x y μ2 Q):WE (zD g φ ψ) δ μ Q:=by
 obtain⟨x,μ1,e1,y,μ2,e2,d,μ3,e3,q⟩:=h;exact⟨d,μ3,by simp[e1,e2,e3],q⟩
def zdr(h:WE φ δ μ fun x μ1=>∃b,x = .bl b/\(b=true->WE ψ δ μ1 Q)/\(b=false->Q (.bl false) μ1)):WE (zTw φ ψ) δ μ Q:=by
 obtain⟨x,μ1,e1,b,rfl,h1,h2⟩:=h
 cases b with
 |true=>obtain⟨d,μ2,e2,q⟩:=h1 rfl;exact⟨d,μ2,by simp[e1,e2],q⟩
 |false=>exact⟨_,μ1,by simp[e1],h2 rfl⟩
def zNz(h:WE φ δ μ fun x μ1=>∃b,x = .bl b/\(b=false->WE ψ δ μ1 Q)/\(b=true->Q (.bl true) μ1)):WE (fOr φ ψ) δ μ Q:=by
 obtain⟨x,μ1,e1,b,rfl,h1,h2⟩:=h
 cases b with
 |false=>obtain⟨d,μ2,e2,q⟩:=h1 rfl;exact⟨d,μ2,by simp[e1,e2],q⟩
 |true=>exact⟨_,μ1,by simp[e1],h2 rfl⟩
def w_not(h:WE φ δ μ fun x μ1=>∃b,x = .bl b/\Q (.bl (!b)) μ1):WE (z1z φ) δ μ Q:=by
 obtain⟨x,μ1,e1,b,rfl,q⟩:=h;exact⟨_,μ1,by simp[e1],q⟩
def zdz(h:WE φ δ μ fun x μ1=>∃i,x = .int i/\Q (.int (-i)) μ1):WE (zPz φ) δ μ Q:=by
 obtain⟨x,μ1,e1,b,rfl,q⟩:=h;exact⟨_,μ1,by simp[e1],q⟩
def zoi{α:FA}(h:WA α δ μ fun ds μ1=>Q (.tup ds) μ1):WE (zPm α) δ μ Q:=by
 obtain⟨x,μ1,e1,q⟩:=h;exact⟨_,μ1,by simp[e1],q⟩
def z3g{α:FA}(h:WA α δ μ fun ds μ1=>Q (.loc μ1.length) (μ1++[.lst ds])):WE (znm α) δ μ Q:=by
 obtain⟨x,μ1,e1,q⟩:=h;exact⟨_,_,by simp[e1]<;>rfl,q⟩
def z8w(h:Q (.loc μ.length) (μ++[.dct []])):WE zLy δ μ Q:=⟨_,_,rfl,h⟩
def zZx{R:Option Int->Mem->Prop}(q:R none μ):WO pNo δ μ R:=⟨_,_,rfl,q⟩
def z3u{R:Option Int->Mem->Prop}(h:WE φ δ μ fun x μ1=>∃i,x = .int i/\R (some i) μ1):WO (zsz φ) δ μ R:=by
 obtain⟨x,μ1,e1,i,rfl,q⟩:=h;exact⟨_,_,by simp[e1]<;>rfl,q⟩
def zw{F:FF}{α:FA}(h:WA α δ μ fun ds μ1=>WF F ds μ1 Q):WE (zx F α) δ μ Q:=by
 obtain⟨ds,μ1,e1,d,μ2,e2,q⟩:=h;exact⟨d,μ2,by simp[e1,e2],q⟩
def zRi{m:GM}{α:FA}(h:WE φ δ μ fun x μ1=>∃n xs,x = .loc n/\μ1[n]?=some (.lst xs)/\WA α δ μ1 fun ds μ2=>WM m (.loc n) ds μ2 Q):WE (zRf m φ α) δ μ Q:=by
 obtain⟨x,μ1,e1,n,xs,rfl,e2,ds,μ2,e3,d,μ3,e4,q⟩:=h;exact⟨d,μ3,by simp[e1,e2,e3,e4],q⟩
def z5p{n:Nat}{fr:List Nat}{it:FI}{tg:FG}{c:FT}(h:WI it δ μ fun ds ok μ1=>few ds=true/\WL tg c φ ok (δC n fr δ) ds [] μ1 Q):WE (fLC n fr it tg c φ) δ μ Q:=by
 obtain⟨ds,ok,μ1,e1,hf,d,μ2,e2,q⟩:=h;exact⟨d,μ2,by unfold fLC;simp only[e1,yk,hf,cond_true];exact e2,q⟩
def zEs(h:WE φ δ μ fun x μ1=>∃n ns,x = .loc n/\μ1[n]?=some (.lst (ns.map .int))/\ns.length<=4000/\(uqL ns).length<64/\Q (.loc μ1.length) (μ1++[.lst ((z7t ns).map .int)])):WE (z3m φ) δ μ Q:=by
 obtain⟨x,μ1,e1,n,ns,rfl,e2,h1,h2,q⟩:=h;exact⟨_,_,by simp[z3m,e1,e2,h1,h2]<;>rfl,q⟩
def zO{R:Bool->Mem->Prop}(h:WE φ δ μ fun x μ1=>∃b,x = .bl b/\R b μ1):WT (zR φ) δ μ R:=by
 obtain⟨x,μ1,e1,b,rfl,q⟩:=h;exact⟨_,_,by simp[e1]<;>rfl,q⟩
def zkk{c e:FT}{R:Bool->Mem->Prop}(h:WT c δ μ fun b μ1=>(b=true->WT e δ μ1 R)/\(b=false->R false μ1)):WT (zJj c e) δ μ R:=by
 obtain⟨b,μ1,e1,h1,h2⟩:=h
 cases b with
 |true=>obtain⟨d,μ2,e2,q⟩:=h1 rfl;exact⟨d,μ2,by simp[e1,e2],q⟩
 |false=>exact⟨_,μ1,by simp[e1],h2 rfl⟩
def zem{c e:FT}{R:Bool->Mem->Prop}(h:WT c δ μ fun b μ1=>(b=false->WT e δ μ1 R)/\(b=true->R true μ1)):WT (zas c e) δ μ R:=by
 obtain⟨b,μ1,e1,h1,h2⟩:=h
 cases b with
 |false=>obtain⟨d,μ2,e2,q⟩:=h1 rfl;exact⟨d,μ2,by simp[e1,e2],q⟩
 |true=>exact⟨_,μ1,by simp[e1],h2 rfl⟩
def zBl{c:FT}{R:Bool->Mem->Prop}(h:WT c δ μ fun b μ1=>R (!b) μ1):WT (zMk c) δ μ R:=by
 obtain⟨b,μ1,e1,q⟩:=h;exact⟨_,_,by simp[e1]<;>rfl,q⟩
def zdw{R:Bool->Mem->Prop}(q:R true μ):WT z7k δ μ R:=⟨_,_,rfl,q⟩
def zr{R:List D->Mem->Prop}(q:R [] μ):WA zJ δ μ R:=⟨_,_,rfl,q⟩
def zf{α:FA}{R:List D->Mem->Prop}(h:WE φ δ μ fun x μ1=>WA α δ μ1 fun xs μ2=>R (x::xs) μ2):WA (zi φ α) δ μ R:=by
 obtain⟨x,μ1,e1,xs,μ2,e2,q⟩:=h;exact⟨_,_,by simp[e1,e2]<;>rfl,q⟩
def zkr(q:Q (.int (i+j)) μ):W2 zxl (.int i) (.int j) μ Q:=⟨_,_,rfl,q⟩
def z2s{l m:Nat}{as bs:List D}(h1:μ[l]?=some (.lst as))(h2:μ[m]?=some (.lst bs))(h:as.length+bs.length<=1000000)(q:Q (.loc μ.length) (μ++[.lst (as++bs)])):W2 zxl (.loc l) (.loc m) μ Q:=⟨_,_,by simp[h1,h2,h]<;>rfl,q⟩
def zmv(q:Q (.int (i-j)) μ):W2 zpt (.int i) (.int j) μ Q:=⟨_,_,rfl,q⟩
def zjy(h:zIk i j=true)(q:Q (.int (i*j)) μ):W2 zGk (.int i) (.int j) μ Q:=⟨_,_,by simp[zGk,h]<;>rfl,q⟩
def zzj(h:0<j)(q:Q (.int (i%j)) μ):W2 zui (.int i) (.int j) μ Q:=⟨_,_,by simp[h]<;>rfl,q⟩
def zrq(h:0<j)(h':j<1606938044258990275541962092341162602522202993782792835301376)(q:Q (.int (i / j)) μ):W2 z2o (.int i) (.int j) μ Q:=⟨_,_,by simp[h,h']<;>rfl,q⟩
def z2w(h:0<=j)(h1:j<=100000)(h2:i.natAbs<1606938044258990275541962092341162602522202993782792835301376)(q:Q (.int (i^j.toNat)) μ):W2 zRx (.int i) (.int j) μ Q:=⟨_,_,by simp only[zRx];rw[decide_eq_true ⟨h,h1,h2⟩];rfl,q⟩
def zLm{r:Int->Int->Bool}(q:Q (.bl (r i j)) μ):W2 (zVk r) (.int i) (.int j) μ Q:=⟨_,_,rfl,q⟩
def zMc(h:items μ x=some xs)(h2:atI xs i=some d)(q:Q d μ):W2 gIx x (.int i) μ Q:=⟨_,_,by show((items μ x).bind fun ds=>(atI ds i).bind fun d=>some (d,μ))=_;rw[h,yk,h2,yk],q⟩
def z3p(q:Q (.bl (i==j)) μ):W2 gEq (.int i) (.int j) μ Q:=⟨_,_,by simp[gEq,toP,Yb]<;>rfl,q⟩
def zZw(q:Q (.bl (!(i==j))) μ):W2 gNe (.int i) (.int j) μ Q:=⟨_,_,by simp[gNe,toP,Yb]<;>rfl,q⟩
def zpx{p:xK}(h1:toP μ 8 x=some p)(h2:toP μ 8 y=some p)(q:Q (.bl true) μ):W2 gEq x y μ Q:=⟨_,_,z6t h1 h2,q⟩
def zZy{p p':xK}(h1:toP μ 8 x=some p)(h2:toP μ 8 y=some p')(q:Q (.bl (Yb p p')) μ):W2 gEq x y μ Q:=⟨_,_,by simp[gEq,h1,h2]<;>rfl,q⟩
def z2z{p p':xK}(h1:toP μ 8 x=some p)(h2:toP μ 8 y=some p')(q:Q (.bl (!PyData.eqv p p')) μ):W2 gNe x y μ Q:=⟨_,_,by simp[gNe,h1,h2]<;>rfl,q⟩
def ziz{a b:Bool}(q:Q (.bl (a==b)) μ):W2 gIs (.bl a) (.bl b) μ Q:=⟨_,_,rfl,q⟩
def zWt{a b:Bool}(q:Q (.bl (a != b)) μ):W2 zFf (.bl a) (.bl b) μ Q:=⟨_,_,rfl,q⟩
def zYz(h:items μ y=some xs)(h1:z2c x=true)(h2:xs.all z2c=true)(q:Q (.bl (xs.any fun d=>eqF d x)) μ):W2 gIn x y μ Q:=⟨_,_,by simp only[gIn,h,yk,h1,h2,xV,cond_true],q⟩
def zcr(h:items μ y=some xs)(h1:z2c x=true)(h2:xs.all z2c=true)(q:Q (.bl (!xs.any fun d=>eqF d x)) μ):W2 z0f x y μ Q:=⟨_,_,by simp only[z0f,h,yk,h1,h2,xV,cond_true],q⟩
def zWi(h:items μ x=some xs)(q:Q (.int xs.length) μ):WF zjk [x] μ Q:=⟨_,_,by show((items μ x).bind fun xs=>some (D.int xs.length,μ))=_;rw[h,yk],q⟩
def zNs(h:items μ x=some xs)(q:Q (.loc μ.length) (μ++[.lst xs])):WF zir [x] μ Q:=⟨_,_,by show((items μ x).bind fun xs=>some (D.loc μ.length,μ++[LObj.lst xs]))=_;rw[h,yk],q⟩
def zki(h:items μ x=some xs)(q:Q (.tup xs) μ):WF z7g [x] μ Q:=by
 refine⟨_,_,?_,q⟩;cases x<;>first | (cases h;rfl) | (simp only[z7g,h];rfl)
def zqz{n:Nat}{ns:List Int}(h:μ[n]?=some (.lst (ns.map .int)))(q:Q (.int ns.sum) μ):WF zxx [.loc n] μ Q:=⟨_,_,by simp[h]<;>rfl,q⟩
def znj{n:Nat}(h:μ[n]?=some (.lst xs))(hl:xs.length<=1000000)(q:Q .non (μ.set n (.lst (xs++[d])))):WM zNf (.loc n) [d] μ Q:=⟨_,_,by simp[h,hl]<;>rfl,q⟩
def z4x{n:Nat}(h:μ[n]?=some (.lst xs))(hl:xs.length+ds.length<=1000000)(q:Q .non (μ.set n (.lst (xs++ds)))):WM znv (.loc n) [.tup ds] μ Q:=⟨_,_,by simp[h,hl]<;>rfl,q⟩
def zkc{F:FF}{N:List Str}{p:FS}(hF:F=fun ds μ=>zTb (p (zM N ds) μ))(h:WS p (zM N ds) μ (fun _ μ'=>Q .non μ') Q (fun _ _=>False) fun _ _=>False):WF F ds μ Q:=by
 subst hF;obtain⟨o,e,k⟩:=h
 cases o with
 |next δ' μ'=>exact⟨_,_,by rw[e];rfl,k⟩
 |ret d μ'=>exact⟨_,_,by rw[e];rfl,k⟩
 |brk _ _=>exact k.elim
 |cont _ _=>exact k.elim
 |exc _ _ _=>exact k.elim
def zLj{α:FA}{R:List D->(Mem->Bool)->Mem->Prop}(h:WA α δ μ fun ds μ1=>∃j:Int,ds=[.int j]/\-(2^62)<=j/\j<2^62/\R ((yy j.toNat).map fun(k:Nat) => .int k) yes μ1):WI (zxk α) δ μ R:=by
 obtain⟨ds,μ1,e1,j,rfl,h1,h2,q⟩:=h;refine⟨_,_,_,?_,q⟩;unfold zxk;simp only[e1,yk];rw[decide_eq_true ⟨h1,h2⟩];rfl
def zuf{R:List D->(Mem->Bool)->Mem->Prop}(h:WE φ δ μ fun x μ1=>(∃ds,x = .tup ds/\R ds yes μ1)\/(∃ds,x = .fz ds/\R ds yes μ1)\/∃n ds,x = .loc n/\μ1[n]?=some (.lst ds)/\R ds (zmn n ds) μ1):WI (zIg φ) δ μ R:=by
 obtain⟨x,μ1,e1,⟨ds,rfl,q⟩ | ⟨ds,rfl,q⟩ | ⟨n,ds,rfl,e2,q⟩⟩:=h
 ·exact⟨_,_,_,by simp[e1]<;>rfl,q⟩
 ·exact⟨_,_,_,by simp[e1]<;>rfl,q⟩
 ·exact⟨_,_,_,by simp[e1,e2]<;>rfl,q⟩
def z5h{n:Nat}{R:Loc->Mem->Prop}(q:R (δ.set n (some d)) μ):WG (gN n) d δ μ R:=⟨_,_,rfl,q⟩
def zJz{n:Nat}{gs:FGs}{R:Loc->Mem->Prop}(hl:ds.length=n)(h:WGs gs ds δ μ R):WG (gT n gs) (.tup ds) δ μ R:=by
 obtain⟨δ',μ',e,q⟩:=h;exact⟨δ',μ',by simp[hl,e],q⟩
def zKt{gs:FGs}{R:Loc->Mem->Prop}{a b:D}(h:WGs gs [a,b] δ μ R):WG (gT 2 gs) (.tup [a,b]) δ μ R:=zJz rfl h
def z8y{gs:FGs}{R:Loc->Mem->Prop}{a b c:D}(h:WGs gs [a,b,c] δ μ R):WG (gT 3 gs) (.tup [a,b,c]) δ μ R:=zJz rfl h
def zPt{R:Loc->Mem->Prop}(q:R δ μ):WGs zYi [] δ μ R:=⟨_,_,rfl,q⟩
def zqo{t:FG}{gs:FGs}{R:Loc->Mem->Prop}(h:WG t d δ μ fun δ1 μ1=>WGs gs ds δ1 μ1 R):WGs (zSc t gs) (d::ds) δ μ R:=by
 obtain⟨δ1,μ1,e1,δ2,μ2,e2,q⟩:=h;exact⟨δ2,μ2,by simp[e1,e2],q⟩
end
section
variable {φ ψ:FE}{δ:Loc}{μ:Mem}{nx:Loc->Mem->Prop}{rt:D->Mem->Prop}{bk ct:Loc->Mem->Prop}{p q:FS}
def zPb(h:nx δ μ):WS z9b δ μ nx rt bk ct:=⟨.next δ μ,rfl,h⟩
def zF(h:WS p δ μ (fun δ' μ'=>WS q δ' μ' nx rt bk ct) rt bk ct):WS (zgb p q) δ μ nx rt bk ct:=by
 obtain⟨o,e,k⟩:=h
 cases o with
 |next δ' μ'=>obtain⟨o2,e2,k2⟩:=k;exact⟨o2,by simp[e,e2],k2⟩
 |ret d μ'=>exact⟨.ret d μ',by simp only[zgb,e],k⟩
 |brk d μ'=>exact⟨.brk d μ',by simp only[zgb,e],k⟩
 |cont d μ'=>exact⟨.cont d μ',by simp only[zgb,e],k⟩
 |exc _ _ _=>exact k.elim
def zCb{n:Nat}(h:WE φ δ μ fun d μ'=>nx (δ.set n (some d)) μ'):WS (zLc n φ) δ μ nx rt bk ct:=by
 obtain⟨d,μ',e,k⟩:=h;exact⟨.next _ _,by simp only[zLc,e,yk],k⟩
def zPq{g:FG}(h:WE φ δ μ fun d μ1=>WG g d δ μ1 nx):WS (zht φ g) δ μ nx rt bk ct:=by
 obtain⟨d,μ1,e,δ',μ2,e2,k⟩:=h;exact⟨.next _ _,by simp only[zht,e,yk,e2],k⟩
def zDk(h:WE φ δ μ fun _ μ'=>nx δ μ'):WS (zXk φ) δ μ nx rt bk ct:=by
 obtain⟨d,μ',e,k⟩:=h;exact⟨.next _ _,by simp only[zXk,e,yk],k⟩
def zjc(h:WE φ δ μ rt):WS (zsc φ) δ μ nx rt bk ct:=by
 obtain⟨d,μ',e,k⟩:=h;exact⟨.ret _ _,by simp only[zsc,e,yk],k⟩
def zai{c:FT}(h:WT c δ μ fun b μ1=>(b=true->WS p δ μ1 nx rt bk ct)/\(b=false->WS q δ μ1 nx rt bk ct)):WS (sIf c p q) δ μ nx rt bk ct:=by
 obtain⟨b,μ1,e,h1,h2⟩:=h
 cases b with
 |true=>obtain⟨o,e2,k⟩:=h1 rfl;exact⟨o,by simp[e,e2],k⟩
 |false=>obtain⟨o,e2,k⟩:=h2 rfl;exact⟨o,by simp[e,e2],k⟩
def zWh{it:FI}{g:FG}{body:FS}(h:WI it δ μ fun ds ok μ1=>WFor g body ok ds δ μ1 nx rt):WS (zhm it g body) δ μ nx rt bk ct:=by
 obtain⟨ds,ok,μ1,e,o,e2,k⟩:=h;refine⟨o,by simp only[zhm,e,yk];exact e2,?_⟩
 cases o with
 |next _ _=>exact k
 |ret _ _=>exact k
 |brk _ _=>exact k.elim
 |cont _ _=>exact k.elim
 |exc _ _ _=>exact k.elim
def zRr{g:FG}{body:FS}{ok:Mem->Bool}{nx:Loc->Mem->Prop}{rt:D->Mem->Prop}(I:Nat->Loc->Mem->Prop):∀{xs:List D} {n:Nat} {δ:Loc} {μ:Mem},I n δ μ->(∀m δ μ,I m δ μ->ok μ=true) ->
 (∀(m:Nat)(x:D)(δ:Loc)(μ:Mem),xs[m]?=some x->I (n+m) δ μ->WG g x δ μ fun δ1 μ1=>WS body δ1 μ1 (I (n+m+1)) rt nx (I (n+m+1)))->(∀δ μ,I (n+xs.length) δ μ->nx δ μ)->WFor g body ok xs δ μ nx rt
 |[],n,δ,μ,h0,hok,_,hend=>⟨.next δ μ,by simp only[zni,hok _ _ _ h0,cond_true],hend δ μ h0⟩
 |x::xs,n,δ,μ,h0,hok,hs,hend=>by
  obtain⟨δ1,μ1,e1,o,e2,k⟩:=hs 0 x δ μ rfl h0
  cases o with
  |next δ2 μ2=>
   obtain⟨o3,e3,k3⟩:=zRr I (xs:=xs) (n:=n+1) (δ:=δ2) (μ:=μ2) k hok (fun m y δ μ hy hI=>by
    have:=hs (m+1) y δ μ (by simpa using hy) (by rw[show n+(m+1)=n+1+m by omega];exact hI);rw[show n+(m+1)=n+1+m by omega]at this;exact this) (fun δ μ hI=>hend δ μ (by rw[length_cons,show n+(xs.length+1)=n+1+xs.length by omega];exact hI))
   exact⟨o3,by simp only[zni,hok _ _ _ h0,cond_true,e1,yk,e2];exact e3,k3⟩
  |cont δ2 μ2=>
   obtain⟨o3,e3,k3⟩:=zRr I (xs:=xs) (n:=n+1) (δ:=δ2) (μ:=μ2) k hok (fun m y δ μ hy hI=>by
    have:=hs (m+1) y δ μ (by simpa using hy) (by rw[show n+(m+1)=n+1+m by omega];exact hI);rw[show n+(m+1)=n+1+m by omega]at this;exact this) (fun δ μ hI=>hend δ μ (by rw[length_cons,show n+(xs.length+1)=n+1+xs.length by omega];exact hI))
   exact⟨o3,by simp only[zni,hok _ _ _ h0,cond_true,e1,yk,e2];exact e3,k3⟩
  |brk δ2 μ2=>exact⟨.next δ2 μ2,by simp only[zni,hok _ _ _ h0,cond_true,e1,yk,e2],k⟩
  |ret d μ2=>exact⟨.ret d μ2,by simp only[zni,hok _ _ _ h0,cond_true,e1,yk,e2],k⟩
  |exc _ _ _=>exact k.elim
end
def zMu{g:FG}{c:FT}{φ:FE}{ok:Mem->Bool}{δ:Loc}{Q:D->Mem->Prop}(I:Nat->List D->Mem->Prop):∀{xs ys:List D} {n:Nat} {μ:Mem},I n ys μ->(∀m ys μ,I m ys μ->ok μ=true) ->
 (∀(m:Nat)(x:D)(ys:List D)(μ:Mem),xs[m]?=some x->I (n+m) ys μ->WG g x δ μ fun δ1 μ1=>WT c δ1 μ1 fun b μ2=>(b=true->WE φ δ1 μ2 fun d μ3=>I (n+m+1) (ys++[d]) μ3)/\(b=false->I (n+m+1) ys μ2)) ->
 (∀ys μ,I (n+xs.length) ys μ->Q (.loc μ.length) (μ++[.lst ys]))->WL g c φ ok δ xs ys μ Q
 |[],ys,n,μ,h0,hok,_,hend=>⟨_,_,by simp only[zit,hok _ _ _ h0,cond_true],hend ys μ h0⟩
 |x::xs,ys,n,μ,h0,hok,hs,hend=>by
  obtain⟨δ1,μ1,e1,b,μ2,e2,ht,hf⟩:=hs 0 x ys μ rfl h0
  have step:∀ys2 μ3,I (n+1) ys2 μ3->WL g c φ ok δ xs ys2 μ3 Q:=fun ys2 μ3 h=>zMu I (n:=n+1) h hok (fun m y ys μ hy hI=>by
   have:=hs (m+1) y ys μ (by simpa using hy) (by rw[show n+(m+1)=n+1+m by omega];exact hI);rw[show n+(m+1)=n+1+m by omega]at this;exact this) (fun ys μ hI=>hend ys μ (by rw[length_cons,show n+(xs.length+1)=n+1+xs.length by omega];exact hI))
  cases b with
  |true=>
   obtain⟨d,μ3,e3,h3⟩:=ht rfl;obtain⟨d',μ4,e4,q⟩:=step _ _ h3;exact⟨d',μ4,by simp only[zit,hok _ _ _ h0,cond_true,e1,yk,e2,e3];exact e4,q⟩
  |false=>
   obtain⟨d',μ4,e4,q⟩:=step _ _ (hf rfl);exact⟨d',μ4,by simp only[zit,hok _ _ _ h0,cond_true,e1,yk,e2,cond_false];exact e4,q⟩
def zVc{g:FG}{body:FS}{ok:Mem->Bool}{nx:Loc->Mem->Prop}{rt:D->Mem->Prop}{xs:List D}{δ:Loc}{μ:Mem}(I:Nat->Loc->Mem->Prop)(h0:I 0 δ μ)(hok:∀m δ μ,I m δ μ->ok μ=true)
 (hs:∀(m:Nat)(x:D)(δ:Loc)(μ:Mem),xs[m]?=some x->I m δ μ->WG g x δ μ fun δ1 μ1=>WS body δ1 μ1 (I (m+1)) rt nx (I (m+1))) (hend:∀δ μ,I xs.length δ μ->nx δ μ):WFor g body ok xs δ μ nx rt :=
 zRr I (n:=0) h0 hok (fun m x δ μ hx h=>by
  rw[Nat.zero_add]at h ⊢;exact hs m x δ μ hx h) (fun δ μ h=>hend δ μ (by rw[Nat.zero_add]at h;exact h))
def z8n{g:FG}{c:FT}{φ:FE}{ok:Mem->Bool}{δ:Loc}{Q:D->Mem->Prop}{xs:List D}{μ:Mem}(I:Nat->List D->Mem->Prop)(h0:I 0 [] μ)(hok:∀m ys μ,I m ys μ->ok μ=true)
 (hs:∀(m:Nat)(x:D)(ys:List D)(μ:Mem),xs[m]?=some x->I m ys μ->WG g x δ μ fun δ1 μ1=>WT c δ1 μ1 fun b μ2=>(b=true->WE φ δ1 μ2 fun d μ3=>I (m+1) (ys++[d]) μ3)/\(b=false->I (m+1) ys μ2))
 (hend:∀ys μ,I xs.length ys μ->Q (.loc μ.length) (μ++[.lst ys])):WL g c φ ok δ xs [] μ Q :=
 zMu I (n:=0) h0 hok (fun m x ys μ hx h=>by
  rw[Nat.zero_add]at h ⊢;exact hs m x ys μ hx h) (fun ys μ h=>hend ys μ (by rw[Nat.zero_add]at h;exact h))
def zkj{j m:Nat}{x:D}(h:((yy j).map fun(k:Nat)=>D.int k)[m]?=some x):m<j/\x = .int m:=by
 have h1:=(List.getElem?_eq_some_iff.mp h).1;simp at h1;refine⟨h1,?_⟩;simp[h1]at h;exact h.symm
def zCk{α:Type}{g:FG}{c:FT}{φ:FE}{ok:Mem->Bool}{δ:Loc}{Q:D->Mem->Prop}{μ:Mem}(e:α->D)(l:List α)(f:α->D)(p:α->Bool)(hok:∀μ',Keep μ μ'->ok μ'=true)
 (hs:∀x∈l,∀μ',Keep μ μ'->WG g (e x) δ μ' fun δ1 μ1=>WT c δ1 μ1 fun b μ2=>b=p x/\Keep μ μ2/\(b=true->WE φ δ1 μ2 fun d μ3=>d=f x/\Keep μ μ3))
 (hq:∀μ',Keep μ μ'->Q (.loc μ'.length) (μ'++[.lst ((l.filter p).map f)])):WL g c φ ok δ (l.map e) [] μ Q:=by
 refine z8n (fun m ys μ'=>Keep μ μ'/\ys=((l.take m).filter p).map f) ⟨.refl,by simp⟩ (fun m ys μ' h=>hok μ' h.1) (fun m x ys μ' hx h=>?_) (fun ys μ' h=>?_)
 ·rw[yh]at hx
  cases hy:l[m]? with
  |none=>rw[hy]at hx;cases hx
  |some y=>
   rw[hy]at hx;cases hx;obtain⟨δ1,μ1,e1,b,μ2,e2,hb,k2,h3⟩:=hs y (mem_of_getElem? hy) μ' h.1
   have ht:l.take (m+1)=l.take m++[y]:=by
    rw[take_succ,hy];rfl
   refine⟨δ1,μ1,e1,b,μ2,e2,fun hb1=>?_,fun hb1=>⟨k2,?_⟩⟩
   ·obtain⟨d,μ3,e3,rfl,k3⟩:=h3 hb1;refine⟨_,_,e3,k3,?_⟩;rw[ht,List.filter_append,map_append,<-h.2,List.filter_cons_of_pos (by rw[<-hb,hb1])];rfl
   ·rw[ht,List.filter_append,map_append,<-h.2,xL (by rw[<-hb,hb1];exact yx)];simp
 ·rw[length_map,take_length]at h;rw[h.2];exact hq μ' h.1
def zHf{α:Type}{g:FG}{φ:FE}{ok:Mem->Bool}{δ:Loc}{Q:D->Mem->Prop}{μ:Mem}(e:α->D)(l:List α)(f:α->D)(hok:∀μ',Keep μ μ'->ok μ'=true)
 (hs:∀x∈l,∀μ',Keep μ μ'->WG g (e x) δ μ' fun δ1 μ1=>WE φ δ1 μ1 fun d μ3=>d=f x/\Keep μ μ3/\Keep μ μ1)
 (hq:∀μ',Keep μ μ'->Q (.loc μ'.length) (μ'++[.lst (l.map f)])):WL g z7k φ ok δ (l.map e) [] μ Q :=
 zCk e l f (fun _=>true) hok (fun x hx μ' k=>by
  obtain⟨δ1,μ1,e1,d,μ3,e3,h1,h2,h3⟩:=hs x hx μ' k;exact⟨δ1,μ1,e1,true,μ1,rfl,rfl,h3,fun _=>⟨d,μ3,e3,h1,h2⟩⟩) (fun μ' k=>by rw[List.filter_eq_self.mpr (fun _ _=>rfl)];exact hq μ' k)
def z4c{ds:List D}(h:ds.length<=1000000):few ds=true:=decide_eq_true h
def zwb{n:Nat}{ds:List D}{μ μ':Mem}(h:μ[n]?=some (.lst ds))(k:Keep μ μ'):zmn n ds μ'=true:=stays_iff.mpr (k n _ h)
def zZv{ns:List Int}{k:Int}:k∈uqL ns↔k∈ns:=by
 unfold uqL;rw[zxr,List.mem_iff_getElem];constructor
 ·rintro⟨j,hj,h⟩;exact⟨j,hj,by simpa[hj] using h⟩
 ·rintro⟨j,hj,h⟩;exact⟨j,hj,by simpa[hj] using h⟩
def z4i{ns l:List Int}(h1:∀k,k∈l↔k∈ns)(h2:l.Pairwise (· < ·)):(uqL ns).Perm l:=by
 refine(YV (zwn _ _) (h2.imp fun h=>Int.ne_of_lt h)).mpr fun k=>?_;rw[h1];exact zZv
def zwm{ns l:List Int}(h1:∀k,k∈l↔k∈ns)(h2:l.Pairwise (· < ·)):z7t ns=l :=
 zcd ((mergeSort_perm _ _).trans (z4i h1 h2)) (z8h _) (h2.imp fun h=>Int.le_of_lt h)
end M
namespace M
open PySem PySem.Spec PyProof.Rows L2
structure KB(L:List Nat)(μ μ':Mem):Prop where
 len:μ.length<=μ'.length
 at_:∀(n:Nat)(o:LObj),n∉L->μ[n]?=some o->μ'[n]?=some o
section
variable {L:List Nat}{μ μ1 μ2 μ':Mem}{n:Nat}{o:LObj}
def KB.refl:KB L μ μ:=⟨yi _,fun _ _ _ h=>h⟩
def KB.trans(a:KB L μ μ1)(b:KB L μ1 μ2):KB L μ μ2:=⟨yC a.len b.len,fun n o h e=>b.at_ n o h (a.at_ n o h e)⟩
def KB.app{g:Mem}(a:KB L μ μ1):KB L μ (μ1++g):=⟨by simp;have:=a.len;omega,fun n o h e=>zAc (a.at_ n o h e)⟩
def KB.set{m:Nat}(a:KB L μ μ1)(h:m∈L\/μ.length<=m):KB L μ (μ1.set m o):=⟨by simp;exact a.len,fun n o' hn e=>by
 rw[yJ]
 ·exact a.at_ n o' hn e
 ·rintro rfl;rcases h with h | h
  ·exact hn h
  ·exact absurd (zI e) (by omega)⟩
def KB.of_keep(a:Keep μ μ'):KB L μ μ':=⟨a.len,fun n o _ e=>a n o e⟩
def KB.sub{L':List Nat}(a:KB L μ μ')(h:∀n∈L,n∈L'\/μ.length<=n):KB L' μ μ':=⟨a.len,fun n o hn e=>a.at_ n o (fun q=>by
 rcases h n q with h | h
 ·exact hn h
 ·exact absurd (zI e) (by omega)) e⟩
end
section
variable {φ ψ χ:FE}{g g2:G2}{δ:Loc}{μ:Mem}{Q:D->Mem->Prop}{i j:Int}{d x y:D}{ds xs:List D}
def ztm(h:WE φ δ μ fun x μ1=>∃j:Int,x = .int j/\(-(2^62)<=j/\j<=1000000)/\Q (.loc μ1.length) (μ1++[.lst ((yy j.toNat).map fun(k:Nat) => .int k)])):WE (zti φ) δ μ Q:=by
 obtain⟨x,μ1,e1,j,rfl,h1,q⟩:=h;exact⟨_,_,by simp only[zti,e1,yk];rw[decide_eq_true h1];rfl,q⟩
def zAy(q:Q (.int i) μ):WF zHz [.int i] μ Q:=⟨_,_,rfl,q⟩
def z7x{b:Bool}(q:Q (.int (if b then 1 else 0)) μ):WF zHz [.bl b] μ Q:=⟨_,_,rfl,q⟩
def ztx(q:Q (.int (if j<i then j else i)) μ):WF zNy [.int i, .int j] μ Q:=⟨_,_,rfl,q⟩
def zry(q:Q (.int (if j>i then j else i)) μ):WF zkz [.int i, .int j] μ Q:=⟨_,_,rfl,q⟩
def zTy{c:FT}(h:WT c δ μ fun b μ1=>(b=true->WE φ δ μ1 Q)/\(b=false->WE ψ δ μ1 Q)):WE (fIf c φ ψ) δ μ Q:=by
 obtain⟨b,μ1,e,h1,h2⟩:=h
 cases b with
 |true=>obtain⟨d,μ2,e2,k⟩:=h1 rfl;exact⟨d,μ2,by simp[e,e2],k⟩
 |false=>obtain⟨d,μ2,e2,k⟩:=h2 rfl;exact⟨d,μ2,by simp[e,e2],k⟩
def zbx{l:Nat}{n:Int}(h:μ[l]?=some (.lst xs))(h1:n<=1000)(h2:-(2^62)<=n)(h3:xs.length<=1000)(q:Q (.loc μ.length) (μ++[.lst (yA n.toNat xs).flatten])):W2 zGk (.loc l) (.int n) μ Q :=
 ⟨_,_,by simp only[zGk,h];rw[decide_eq_true ⟨h1,h2,h3⟩];rfl,q⟩
def zXy{lo hi:FO}(h:WE φ δ μ fun x μ1=>WO lo δ μ1 fun l μ2=>WO hi δ μ2 fun u μ3=>∃n ds,x = .loc n/\μ3[n]?=some (.lst ds)/\Q (.loc μ3.length) (μ3++[.lst (cutD ds l u)])):WE (fSl φ lo hi) δ μ Q:=by
 obtain⟨x,μ1,e1,l,μ2,e2,u,μ3,e3,n,ds,rfl,e4,q⟩:=h;exact⟨_,_,by simp[e1,e2,e3,e4]<;>rfl,q⟩
def z6y{R:Loc->Mem->Prop}(h:WE φ δ μ fun x μ1=>WE ψ δ μ1 fun y μ2=>∃(n:Nat)(i:Int)(zs:List D),x = .loc n/\y = .int i/\μ2[n]?=some (.lst zs)/\(0<=i/\i<zs.length)/\R δ (μ2.set n (.lst (zs.set i.toNat d)))):WG (gAt φ ψ) d δ μ R:=by
 obtain⟨x,μ1,e1,y,μ2,e2,n,i,zs,rfl,rfl,e3,hi,q⟩:=h;have e4:ixN zs.length i=some i.toNat:=by unfold ixN;rw[if_pos hi.1,if_pos hi.2]
 exact⟨_,_,by simp[e1,e2,e3,e4]<;>rfl,q⟩
end
abbrev nat(S:List Nat):List D:=S.map fun(k:Nat)=>D.int k
def zng(a b:List Nat):nat (a++b)=nat a++nat b:=map_append
def zOg{α:Type}(f:α->Nat)(l:List α):nat (l.map f)=l.map fun a=>D.int (f a:Nat):=map_map
class Enc(α:Type) where
 d:α->D
 p:α->xK
 dep:Nat
 rd:∀(μ:Mem)(n:Nat)(a:α),toP μ (n+dep) (d a)=some (p a)
 eq:∀a b:α,Yb (p a) (p b)=true↔a=b
instance:Enc Int:=⟨.int, .int,1,fun _ _ _=>rfl,fun a b=>by simp[Yb]⟩
instance:Enc Nat:=⟨fun(k:Nat) => .int k,fun(k:Nat) => .int k,1,fun _ _ _=>rfl,fun a b=>by simp[Yb];omega⟩
instance:Enc Bool:=⟨.bl, .bool,1,fun _ _ _=>rfl,fun a b=>by simp[Yb]⟩
abbrev onD:Option Nat->D
 |none => .non
 |some k => .int k
instance:Enc (Option Nat):=⟨onD,fun | none => .none | some k => .int k,1,fun _ _ a=>by cases a<;>rfl,fun a b=>by cases a<;>cases b<;>simp[Yb];omega⟩
def zlg{α:Type}[Enc α]:∀xs ys:List α,xW (xs.map Enc.p) (ys.map Enc.p)=true↔xs=ys
 |[],[]=>by simp[xW]
 |[],y::ys=>by simp[xW]
 |x::xs,[]=>by simp[xW]
 |x::xs,y::ys=>by
  rw[map_cons,map_cons,xW,yE,Enc.eq,zlg xs ys,YY]
def rdAll{α:Type}[Enc α](μ:Mem)(n:Nat):∀xs:List α,(xs.map Enc.d).mapM (toP μ (n+Enc.dep α))=some (xs.map Enc.p)
 |[]=>rfl
 |x::xs=>by rw[map_cons,mapM_cons,rdAll μ n xs,Enc.rd];rfl
instance instEncList{α:Type}[Enc α]:Enc (List α):=⟨fun xs => .tup (xs.map Enc.d),fun xs => .tuple (xs.map Enc.p),Enc.dep α+1,fun μ n xs=>by
 show((xs.map Enc.d).mapM (toP μ (n+Enc.dep α))).bind (fun ps=>some (PyData.tuple ps))=_;rw[rdAll];rfl,fun a b=>by rw[Yb];exact zlg a b⟩
def z4o{μ:Mem}{α:Type}[Enc α](a:α)(h:Enc.dep α<=8):toP μ 8 (Enc.d a)=some (Enc.p a):=by
 have:=Enc.rd μ (8-Enc.dep α) a;rw[Nat.sub_add_cancel h]at this;exact this
def zth{b:Bool}{p:Prop}[Decidable p](h:b=true↔p):b=decide p:=by
 cases b<;>simp_all
section
variable {φ ψ χ:FE}{g g2:G2}{δ:Loc}{μ:Mem}{Q:D->Mem->Prop}{i j:Int}{d x y:D}{ds xs:List D}{α:Type}[Enc α][DecidableEq α]
def z7v(a b:α)(q:Q (.bl (decide (a=b))) μ)(hx:x=Enc.d a:=by rfl)(hy:y=Enc.d b:=by rfl)(h:Enc.dep α<=8:=by decide):W2 gEq x y μ Q:=by
 subst hx hy;exact zZy (z4o a h) (z4o b h) (by rw[zth (Enc.eq a b)];exact q)
def zhj{n:Nat}(as:List α)(e:μ[n]?=some (.lst (as.map Enc.d)))(h:Enc.dep α<=7):toP μ 8 (.loc n)=some (.list (as.map Enc.p)):=by
 show(match μ[n]? with
  |some (.lst ds)=>(ds.mapM (toP μ 7)).bind fun ps=>some (PyData.list ps)
  |_=>none)=_
 rw[e];show((as.map Enc.d).mapM (toP μ 7)).bind (fun ps=>some (PyData.list ps))=_;have:=rdAll μ (7-Enc.dep α) as;rw[Nat.sub_add_cancel h]at this;rw[this];rfl
def zMx(as bs:List α){m n:Nat}(e1:μ[m]?=some (.lst (as.map Enc.d)))(e2:μ[n]?=some (.lst (bs.map Enc.d)))(q:Q (.bl (decide (as=bs))) μ)(h:Enc.dep α<=7:=by decide):W2 gEq (.loc m) (.loc n) μ Q :=
 zZy (zhj as e1 h) (zhj bs e2 h) (by rw[Yb,zth (zlg as bs)];exact q)
def zMt(as bs:List α){m n:Nat}(e1:μ[m]?=some (.lst (as.map Enc.d)))(e2:μ[n]?=some (.lst (bs.map Enc.d)))(q:Q (.bl (!decide (as=bs))) μ)(h:Enc.dep α<=7:=by decide):W2 gNe (.loc m) (.loc n) μ Q :=
 z2z (zhj as e1 h) (zhj bs e2 h) (by rw[Yb,zth (zlg as bs)];exact q)
def z1o(S:List Nat):(nat S).all z2c=true:=List.all_eq_true.mpr fun x hx=>by
 obtain⟨k,_,rfl⟩:=List.mem_map.mp hx;rfl
def zDs(k:Nat):∀S:List Nat,((nat S).any fun d=>eqF d (.int k))=decide (k∈S):=fun S=>by
 refine zth ?_;rw[any_eq_true];constructor
 ·rintro⟨x,hx,e⟩;obtain⟨j,hj,rfl⟩:=List.mem_map.mp hx;have h1:(j:Int)=k:=beq_iff_eq.mp (show((j:Int)==(k:Int))=true from e);have h2:j=k:=by omega
  exact h2▸hj
 ·intro h;exact⟨.int k,List.mem_map.mpr ⟨k,h,rfl⟩,(show((k:Int)==(k:Int))=true from beq_self_eq_true _)⟩
def zSh{k:Nat}{S:List Nat}(h:items μ y=some (nat S))(q:Q (.bl (!decide (k∈S))) μ):W2 z0f (.int k) y μ Q:=zcr h rfl (z1o S) (by rw[zDs];exact q)
def zZl(S:List (Option Nat)):(S.map onD).all z2c=true:=List.all_eq_true.mpr fun x hx=>by
 obtain⟨k,_,rfl⟩:=List.mem_map.mp hx;cases k<;>rfl
def zJx(a b:Option Nat):eqF (onD a) (onD b)=decide (a=b):=by
 cases a<;>cases b<;>try rfl
 rename_i a b
 show(((a:Nat):Int)==(b:Nat))=decide (some a=some b);rw[Bool.eq_iff_iff,beq_iff_eq,decide_eq_true_iff,Xg,Int.natCast_inj]
def zwy{n:Nat}{S:List Nat}(h:μ[n]?=some (.lst (nat S)))(q:Q (.int (S.sum:Nat)) μ):WF zxx [.loc n] μ Q:=by
 refine zqz (ns:=S.map fun(k:Nat)=>(k:Int)) (by rw[h];simp) ?_
 have:(S.map fun(k:Nat)=>(k:Int)).sum=((S.sum:Nat):Int):=by
  clear h q
  induction S with
  |nil=>rfl
  |cons a S ih=>rw[map_cons,sum_cons,sum_cons,ih];omega
 rw[this];exact q
def z0i{S:List Nat}{i:Nat}(h:i<S.length):atI (nat S) (i:Int)=some (.int (S.getD i 0:Nat)):=zEc (by simp[h])
end
section
variable {φ ψ χ:FE}{g g2:G2}{δ:Loc}{μ:Mem}{Q:D->Mem->Prop}{i j:Int}{d x y:D}{ds xs:List D}
def zHi{R:List D->(Mem->Bool)->Mem->Prop}(h:WE φ δ μ fun x μ1=>(∃ds,x = .tup ds/\R (zxg ds) yes μ1)\/(∃ds,x = .fz ds/\R (zxg ds) yes μ1)\/∃n ds,x = .loc n/\μ1[n]?=some (.lst ds)/\R (zxg ds) (zmn n ds) μ1):WI (zzm φ) δ μ R:=by
 obtain⟨x,μ1,e1,⟨ds,rfl,q⟩ | ⟨ds,rfl,q⟩ | ⟨n,ds,rfl,e2,q⟩⟩:=h
 ·exact⟨_,_,_,by simp[e1]<;>rfl,q⟩
 ·exact⟨_,_,_,by simp[e1]<;>rfl,q⟩
 ·exact⟨_,_,_,by simp[e1,e2]<;>rfl,q⟩
def zJr{α:Type}(f:α->D)(xs:List α):zxg (xs.map f)=xs.zipIdx.map fun p => .tup [.int (p.2:Nat),f p.1]:=by
 refine ext_getElem? fun i=>?_;unfold zxg;simp only[yh,Xk];cases xs[i]?<;>rfl
def zZp{α:Type}{f:α->D}{xs:List α}{m:Nat}{x:D}(h:(zxg (xs.map f))[m]?=some x):∃y,xs[m]?=some y/\x = .tup [.int m,f y]:=by
 obtain⟨z,hz,rfl⟩:=z5l h;rw[yh]at hz
 cases e:xs[m]? with
 |none=>rw[e]at hz;cases hz
 |some y=>rw[e]at hz;cases hz;exact⟨y,rfl,rfl⟩
def zTr{n:Nat}(h:μ[n]?=some (.lst xs))(h1:z2c d=true)(h2:xs.all z2c=true)(q:Q (.int (xs.countP fun y=>eqF y d:Nat)) μ):WM zgk (.loc n) [d] μ Q:=⟨_,_,by simp only[zgk,h,h1,h2,xV,cond_true],q⟩
def zNr{n k:Nat}{S:List Nat}(h:μ[n]?=some (.lst (nat S)))(hk:k∈S)(q:Q .non (μ.set n (.lst (nat (S.erase k))))):WM zgi (.loc n) [.int k] μ Q:=by
 have e1:nat S=(S.map fun(k:Nat)=>(k:Int)).map D.int:=by simp
 have e2:∀T:List Nat,(T.map fun(k:Nat)=>(k:Int)).erase (k:Int)=(T.erase k).map fun(k:Nat)=>(k:Int):=fun T=>by
  induction T with
  |nil=>rfl
  |cons t T ih=>
   rw[map_cons]
   by_cases ht:t=k
   ·subst ht;simp
   ·rw[List.erase_cons_tail (by simp;omega),List.erase_cons_tail (by simpa using ht),ih];rfl
 have e3:(S.map fun(k:Nat)=>(k:Int)).contains (k:Int)=true:=by
  rw[List.contains_iff_mem];exact List.mem_map.mpr ⟨k,hk,rfl⟩
 refine⟨.non,_,?_,q⟩;simp only[zgi,h];rw[e1,zOh];simp only[yk,e3,cond_true,e2];rw[map_map];rfl
end
section
variable {φ ψ:FE}{δ:Loc}{μ:Mem}{nx:Loc->Mem->Prop}{rt:D->Mem->Prop}{bk ct:Loc->Mem->Prop}{p q:FS}
def zlz{i:Nat}{g:G2}{x:D}(hx:δ[i]?=some (some x))(h:WE φ δ μ fun y μ1=>W2 g x y μ1 fun d μ2=>nx (δ.set i (some d)) μ2):WS (z3x i g φ) δ μ nx rt bk ct:=by
 obtain⟨y,μ1,e1,d,μ2,e2,k⟩:=h;exact⟨.next _ _,by simp only[z3x,hx,e1,yk,e2],k⟩
def zzy{i j:Int}{Q:D->Mem->Prop}(q:Q (.int (i+j)) μ):W2 zEu (.int i) (.int j) μ Q:=⟨_,_,rfl,q⟩
def zUl{c:FT}{body:FS}(I:Nat->Loc->Mem->Prop):∀{n m:Nat} {δ:Loc} {μ:Mem},m<n->I m δ μ ->
 (∀m δ μ,I m δ μ->WT c δ μ fun b μ1=>(b=true->WS body δ μ1 (fun δ' μ'=>∃m',m'<m/\I m' δ' μ') rt nx (fun δ' μ'=>∃m',m'<m/\I m' δ' μ'))/\(b=false->nx δ μ1))->WS (zLn n c body) δ μ nx rt bk ct
 |0,m,δ,μ,h,_,_=>absurd h (Nat.not_lt_zero _)
 |n+1,m,δ,μ,h,h0,hs=>by
  obtain⟨b,μ1,e1,ht,hf⟩:=hs m δ μ h0
  cases b with
  |false=>exact⟨.next δ μ1,by show zbc c body (n+1) δ μ=_;simp only[zbc,e1,yk,cond_false],hf rfl⟩
  |true=>
   obtain⟨o,e2,k⟩:=ht rfl
   have step:∀δ' μ',(∃m',m'<m/\I m' δ' μ')->∃o,zbc c body n δ' μ'=some o/\Ek nx rt bk ct o:=fun δ' μ' ⟨m',hm',hI⟩=>by
    obtain⟨o,e,k⟩:=zUl I (n:=n) (m:=m') (by omega) hI hs;exact⟨o,e,k⟩
   cases o with
   |next δ' μ'=>obtain⟨o,e3,k3⟩:=step δ' μ' k;exact⟨o,by show zbc c body (n+1) δ μ=_;simp only[zbc,e1,yk,cond_true,e2];exact e3,k3⟩
   |cont δ' μ'=>obtain⟨o,e3,k3⟩:=step δ' μ' k;exact⟨o,by show zbc c body (n+1) δ μ=_;simp only[zbc,e1,yk,cond_true,e2];exact e3,k3⟩
   |brk δ' μ'=>exact⟨.next δ' μ',by show zbc c body (n+1) δ μ=_;simp only[zbc,e1,yk,cond_true,e2],k⟩
   |ret d μ'=>exact⟨.ret d μ',by show zbc c body (n+1) δ μ=_;simp only[zbc,e1,yk,cond_true,e2],k⟩
   |exc _ _ _=>exact k.elim
end
def zYd{α:Type}(f:α->D)(xs:List α)(d:α):zxg (xs.map f)=(yy xs.length).map fun(k:Nat) => .tup [.int k,f (xs.getD k d)]:=by
 refine ext_getElem? fun i=>?_;unfold zxg;simp only[yh,Xk]
 by_cases h:i<xs.length
 ·simp[h]
 ·simp[h]
abbrev oiD:Option Int->D
 |none => .non
 |some k => .int k
instance:Enc (Option Int):=⟨oiD,fun | none => .none | some k => .int k,1,fun _ _ a=>by cases a<;>rfl,fun a b=>by cases a<;>cases b<;>simp[Yb]⟩
def zzv:D->Bool
 |.non=>true
 |_=>false
def zEx{d:D}{μ:Mem}{Q:D->Mem->Prop}(h:z2c d=true)(q:Q (.bl (zzv d)) μ):W2 gIs d .non μ Q:=by
 cases d<;>first | exact⟨_,_,rfl,q⟩ | cases h
def zdj{d:D}{μ:Mem}{Q:D->Mem->Prop}(h:z2c d=true)(q:Q (.bl (!zzv d)) μ):W2 zFf d .non μ Q:=by
 cases d<;>first | exact⟨_,_,rfl,q⟩ | cases h
def zDp(a:Option Nat):z2c (onD a)=true:=by cases a<;>rfl
def z9v(ds:List D)(h:Nat):Nat:=ds.countP fun y=>eqF y (.int h)
def z4r(lay:List (Option Nat))(h:Nat):z9v (lay.map onD) h=lay.count (some h):=by
 unfold z9v List.count;rw[List.countP_map]
 congr 1
 funext a
 have:=zJx a (some h);show eqF (onD a) (onD (some h))=_;rw[this];exact(Bool.beq_eq_decide_eq a (some h)).symm
def z2r{n:Nat}{lay:List (Option Nat)}{h:Nat}{μ:Mem}{Q:D->Mem->Prop}(e:μ[n]?=some (.lst (lay.map onD)))(q:Q (.int (lay.count (some h):Nat)) μ):WM zgk (.loc n) [.int h] μ Q :=
 zTr e rfl (zZl lay) (by rw[show(lay.map onD).countP (fun y=>eqF y (.int h))=lay.count (some h) from z4r lay h];exact q)
def zml{n m:Nat}{p:Nat->Bool}(h:p m=true)(hlt:m<n)(hb:∀j<m,p j=false):(yy n).find? p=some m:=by
 rw[List.find?_eq_some_iff_append];refine⟨h,yy m,(List.range' (m+1) (n-m-1)),?_,fun a ha=>by simp[hb a (by simpa using ha)]⟩
 have:yy n=yy m++List.range' m (n-m):=by
  have e:n=m+(n-m):=by omega
  have:=List.range'_append_1 (s:=0) (m:=m) (n:=n-m);rw[<-e]at this;rw[List.range_eq_range',List.range_eq_range',<-this];simp
 rw[this,show n-m=(n-m-1)+1 by omega,List.range'_succ];simp
def zLf{n:Nat}{p:Nat->Bool}(h:∀j<n,p j=false):(yy n).find? p=none:=by
 rw[List.find?_eq_none];intro x hx;rw[h x (by simpa using hx)];exact yx
section
variable {φ ψ χ:FE}{g g2:G2}{δ:Loc}{μ:Mem}{Q:D->Mem->Prop}{i j:Int}{d x y:D}{ds xs:List D}{kvs:List (Int×D)}{n:Nat}
def zQd(h:μ[n]?=some (.dct kvs)):ztc μ (.loc n)=some kvs:=by simp[h]
def zsi(h:μ[n]?=some (.dcf kvs)):ztc μ (.loc n)=some kvs:=by simp[h]
def zGv(h:ztc μ x=some kvs)(h2:z0c kvs i=some d)(q:Q d μ):W2 z0u x (.int i) μ Q:=⟨_,_,by simp only[z0u,h,yk,h2],q⟩
def z1u(h:ztc μ y=some kvs)(q:Q (.bl (z0c kvs i).isSome) μ):W2 zNn (.int i) y μ Q:=⟨_,_,by simp only[zNn,h,yk],q⟩
def zfx(h:ztc μ y=some kvs)(h2:kvs.all (fun p=>decide (0<=p.1/\p.1<1000))=true)(q:Q (.bl false) μ):W2 zNn .non y μ Q:=⟨_,_,by simp only[zNn,h,yk,h2,cond_true],q⟩
def zou(h:ztc μ y=some kvs)(q:Q (.bl (!(z0c kvs i).isSome)) μ):W2 zNj (.int i) y μ Q:=⟨_,_,by simp only[zNj,h,yk],q⟩
def z9o{R:Loc->Mem->Prop}(h:WE φ δ μ fun x μ1=>WE ψ δ μ1 fun y μ2=>∃(n:Nat)(i:Int)(kvs:List (Int×D)),x = .loc n/\y = .int i/\μ2[n]?=some (.dct kvs)/\kvs.length<=1000000/\R δ (μ2.set n (.dct (znq kvs i d)))):WG (zUw φ ψ) d δ μ R:=by
 obtain⟨x,μ1,e1,y,μ2,e2,n,i,kvs,rfl,rfl,e3,hi,q⟩:=h;exact⟨_,_,by simp[e1,e2,e3,hi]<;>rfl,q⟩
def zEv(h:ztc μ x=some kvs)(q:Q (.loc μ.length) (μ++[.lst (zek kvs)])):WF zSn [x] μ Q:=⟨_,_,by simp only[zSn,h,yk],q⟩
def zgv{R:List D->(Mem->Bool)->Mem->Prop}(h:WE φ δ μ fun x μ1=>∃n kvs,x = .loc n/\μ1[n]?=some (.dct kvs)/\R (zek kvs) yes (μ1.set n (.dcf kvs))):WI (zPv φ) δ μ R:=by
 obtain⟨x,μ1,e1,n,kvs,rfl,e2,q⟩:=h;exact⟨_,_,_,by simp[e1,e2]<;>rfl,q⟩
def zhx(h:WE φ δ μ fun x μ1=>∃n ds,x = .loc n/\μ1[n]?=some (.lst ds)/\Q (.loc μ1.length) (μ1++[.lst ds.reverse])):WE (zHt φ) δ μ Q:=by
 obtain⟨x,μ1,e1,n,ds,rfl,e2,q⟩:=h;exact⟨_,_,by simp[zHt,e1,e2]<;>rfl,q⟩
end
section
variable {φ χ:FE}{ψ:FA}{δ:Loc}{μ:Mem}{Q:D->Mem->Prop}{c f m:Str}
def zJk(h:WE φ δ μ fun x μ1=>∃n fs d,x = .loc n/\μ1[n]?=some (.ins c fs)/\fs.lookup f=some d/\Q d μ1):WE (znp c f φ) δ μ Q:=by
 obtain⟨x,μ1,e,n,fs,d,rfl,h1,h2,q⟩:=h;exact⟨d,μ1,by simp only[znp,e,yk,h1,beq_self_eq_true,cond_true,h2],q⟩
def zjs{nx:Loc->Mem->Prop}{rt:D->Mem->Prop}{bk ct:Loc->Mem->Prop}(h:WE χ δ μ fun y μ1=>WE φ δ μ1 fun x μ2=>∃n fs,x = .loc n/\μ2[n]?=some (.ins c fs)/\fs.length<1000/\nx δ (μ2.set n (.ins c (z6h f y fs)))):WS (z4p c f φ χ) δ μ nx rt bk ct:=by
 obtain⟨y,μ1,e1,x,μ2,e2,n,fs,rfl,h1,h2,q⟩:=h;exact⟨.next δ _,by simp only[z4p,e1,e2,yk,h1,beq_self_eq_true,decide_eq_true h2,xV,cond_true],q⟩
def zrc{R:List D->Mem->Prop}(h:WE φ δ μ fun x μ1=>∃n fs,x = .loc n/\μ1[n]?=some (.ins c fs)/\fs.lookup m=none/\WA ψ δ μ1 fun ds μ2=>R (.loc n::ds) μ2):WA (z1b c m φ ψ) δ μ R:=by
 obtain⟨x,μ1,e,n,fs,rfl,h1,h2,ds,μ2,e2,q⟩:=h;exact⟨_,μ2,by simp only[z1b,e,yk,h1,h2,beq_self_eq_true,Option.isNone_none,xV,cond_true,e2],q⟩
def zLx{F:FF}(h:WA ψ δ μ fun ds μ1=>WF F (.loc μ1.length::ds) (μ1++[.ins c []]) fun d μ2=>d = .non/\Q (.loc μ1.length) μ2):WE (zqq c F ψ) δ μ Q:=by
 obtain⟨ds,μ1,e,d,μ2,e2,rfl,q⟩:=h;exact⟨_,μ2,by simp only[zqq,e,yk,e2],q⟩
def zPr{g:GM}(h:WE φ δ μ fun x μ1=>∃n kvs,x = .loc n/\μ1[n]?=some (.dct kvs)/\WA ψ δ μ1 fun ds μ2=>WM g (.loc n) ds μ2 Q):WE (zSj g φ ψ) δ μ Q:=by
 obtain⟨x,μ1,e,n,kvs,rfl,h1,ds,μ2,e2,d,μ3,e3,q⟩:=h;exact⟨d,μ3,by simp only[zSj,e,yk,h1,e2,e3],q⟩
def z5w{x:D}{i:Int}{kvs:List (Int×D)}(h:ztc μ x=some kvs)(q:Q ((z0c kvs i).getD .non) μ):WM zbq x [.int i] μ Q:=⟨_,_,by simp only[zbq,h,yk],q⟩
def zix{n:Nat}{i:Int}{kvs:List (Int×D)}{d:D}(h:μ[n]?=some (.dct kvs))(h2:z0c kvs i=some d)(q:Q d (μ.set n (.dct (zov kvs i)))):WM z2p (.loc n) [.int i] μ Q:=⟨_,_,by simp only[z2p,h,h2,yk],q⟩
end
end M
namespace M
open PySem PySem.W PyProof.Rows L2
def zro{h:yP}:∀{as:List Addr} {a:Addr} {o:YN},(kOf as h).lookup a=some o->h.get? a=some o
 |[],a,o,e=>by cases e
 |b::as,a,o,e=>by
  unfold kOf at e;rw[filterMap_cons]at e
  cases hb:h.get? b with
  |none=>rw[hb]at e;exact zro (as:=as) e
  |some u=>
   rw[hb]at e
   change YE a ((b,u)::kOf as h)=some o at e
   rw[lookup_cons]at e
   by_cases q:a==b
   ·rw[q]at e;cases e;rw[eq_of_beq q];exact hb
   ·rw[Bool.not_eq_true]at q;rw[q]at e;exact zro (as:=as) e
def zhv{h:yP}:(zYx h).In h:=fun _ _ e=>zro e
def zju(s:Stmt):zBw s=zvd s:=by cases s<;>rfl
def zqu(s:Stmt):zOw s=zHc s:=by cases s<;>rfl
def zBs(s:Stmt):zbs s=zp s:=by cases s<;>rfl
def zBc{K:Frag}{a:Addr}{nm qual:Str}{st:Stmt}(e:z4d K a qual=zue nm qual st):∃(oc:Value)(od:Option Addr)(sl:Array (Option Value)) (kV dc pm:Value) (an:Option Addr) (cd ct:Value),
 K.lookup a=some ⟨oc,od, .func (fnOf nm qual (zvd st) (zHc st) (zp st) .none kV dc pm an cd ct),sl⟩/\codeIn K cd qual=true/\keepIn K (.ref a)=true:=by
 rw[<-zju,<-zqu,<-zBs];unfold z4d at e
 split at e
 ·rename_i oc od fd sl hl
  obtain⟨x1,x2,x3,x4,x5,x6,x7,x8,x9,x10,x11,x12,x13,x14,x15⟩:=fd;have e:=Yd e;simp only[SeenD.mk.injEq]at e;obtain⟨rfl,rfl,rfl,rfl,rfl,rfl,rfl,rfl,rfl,h1,h2⟩:=e;exact⟨_,_,_,_,_,_,_,_,_,hl,h1,h2⟩
 ·cases e
def fnl{K:Frag}{nm:Str}{st:Stmt}{l l':List (Option SeenD)}(e:zub K nm::l=zxb nm st::l'):(∃(f:Addr)(oc:Value)(od:Option Addr)(sl:Array (Option Value)) (kV dc pm:Value) (an:Option Addr) (cd ct:Value),
 nsIn K ym nm=some (some (.ref f))/\K.lookup f=some ⟨oc,od, .func (fnOf nm nm (zvd st) (zHc st) (zp st) .none kV dc pm an cd ct),sl⟩/\codeIn K cd nm=true/\keepIn K (.ref f)=true)/\l=l':=by
 obtain⟨h1,h2⟩:=yc e;refine⟨?_,h2⟩;unfold zub at h1
 split at h1
 ·rename_i a ha
  obtain⟨oc,od,sl,kV,dc,pm,an,cd,ct,q⟩:=zBc (show z4d K a nm=zue nm nm st from h1);exact⟨a,oc,od,sl,kV,dc,pm,an,cd,ct,ha,q⟩
 ·cases h1
def fnc{K:Frag}{nm:Str}{st:Stmt}{l l':List (Option SeenD)}(e:zub K nm::l=zxb nm st::l'):(∃(f:Addr)(fd:yg),nsIn K ym nm=some (some (.ref f))/\Fun K nm nm st f fd)/\l=l':=by
 obtain⟨⟨f,oc,od,sl,kV,dc,pm,an,cd,ct,a,l,c,k⟩,e⟩:=fnl e;exact⟨⟨f,_,a,zse l c k⟩,e⟩
def z1n{K:Frag}{nm:Str}{i:Int}(e:zcm K nm=some i):∃t,nsIn K ym nm=some (some (.int i t)):=by
 unfold zcm at e
 split at e
 ·rename_i h
  cases e;exact⟨_,h⟩
 ·cases e
def own_head{l:OpenLaw}{q:yw}{loose:List Str}{d:DefRec}{α:Type}{obs:Frag->α}{good:α}{N:Nat}(said:l.wellSaid=true)
 (left:LeftO l.prog q loose (fun _=>true) (fun s=>obs (zYx s.heap)) (fun _=>good) N) (hdef:defOf q l.name=some (d,[])) (hp:l.prog.theDef l.name=some (d.params,d.body,d.scope))
 (hk:kwWritten? d.params.kwonlyargs d.params.kw_defaults=some []) (ok:(chainsOk q&&opensWell l.prog&&(frees l.row.toRowW&&l.row.within.isEmpty))=true) (hb:l.prog.bare) (hw:l.row.toRowW.promised)
 (walk:∀K:Frag,obs K=good->WalkO q loose (fun _ _=>True) (fun _ h=>K.In h) l.row.toRowW d [] fun f vs=>PySem.call f vs):l.Holds:=by
 refine holds_law said fun said=>?_
 refine holds_open (r:=l.row) (q:=q) (loose:=loose) (Xt:=fun _=>true) (XP:=fun _ _=>True) (Yf:=fun s=>obs (zYx s.heap)) (Ya:=fun _=>good) (YP:=fun _ h=>∃K:Frag,obs K=good/\K.In h) (N:=N) left
  (fun w s e=>⟨_,e,zhv⟩) (fun w h h' ⟨K,e,k⟩ x=>⟨K,e,k.keeps x⟩) (fun _ _=>trivial) (fun _ _ _ _ _=>trivial) hdef hp hk (fun s _=>?_) ?_ said ok hb hw (fun w s₀ s₁ mg mb G Y=>?_)
 ·exact(show RecFacts [] s.heap from⟨fun x h=>(nomatch h),fun x h=>(nomatch h),fun c c' a hc=>(nomatch hc),fun c fs hf=>(nomatch hf)⟩)
 ·show(!l.row.writes||true)=true;exact Bool.or_true _
 ·obtain⟨K,e,k⟩:=Y;exact walk K e w s₀ s₁ mg mb G k
end M
namespace M
open PySem PySem.W PyProof.Rows L2
def zot{K:Frag}{C:Addr}{n:String}{bm:List Value}(e:zat K C=some (.type "type",n, .ref C::bm,true,false)) :
 ∃(nm q:Str)(N:Addr)(bs:List Value)(sn:List Str)(sub:List Value)(ab:Bool)(col:Option Bool)(dd:Option Addr)(k0 k1 k2 k3 k5:Option Value),K.lookup C=some (xi nm q C N bs bm true sn sub ab col dd k0 k1 k2 k3 k5 n):=by
 unfold zat at e
 split at e
 ·rename_i c dd cd sl hl
  split at e
  ·rename_i k0 k1 k2 k3 m k5 hs
   obtain⟨x1,x2,x3,x4,x5,x6,x7,x8,x9,x10,x11⟩:=cd;have e:=Yd e;simp only[Prod.mk.injEq]at e;obtain⟨rfl,rfl,rfl,rfl,rfl⟩:=e;have:sl = #[k0,k1,k2,k3,some (.builtin m),k5]:=Array.toList_inj.mp hs;subst this;exact⟨_,_,_,_,_,_,_,_,_,_,_,_,_,_,hl⟩
  ·cases e
 ·cases e
def zPs{K:Frag}{C:Addr}(e:(clsIn K C).isSome=true):∃cd,clsIn K C=some cd:=Option.isSome_iff_exists.mp e
end M
namespace P
local macro_rules | `(tactic| walk_at "s") => `(tactic| exact ⟨rfl, rfl, rfl, by decide +kernel, rfl, by decide +kernel, by decide +kernel⟩)
open PySem PySem.Spec PyProof.Rows L2 M
def top(i:Nat):Stmt:=PySem.Challenge.pw_keynests_k72_whole_shelves_and_webs.main.body.getD i (.Pass ⟨0,0,0,0⟩)
def zGf:List Str:=["self","rule"]
def zCc:FS:=(zgb (z4p "Shelf" "kept_rule" (zm 0) (zm 1)) (z4p "Shelf" "nest_of" (zm 0) zLy))
def zZb:FF:=fun ds μ=>zTb (zCc (zM zGf ds) μ)
def zDe:List Str:=["_law_script","_law_k","_law_number"]
def zBe:FS:=(zgb (zLc 2 (fC (.int 0))) (zgb (sIf (zR (zD (zVk fun i j=>decide (j<i)) (zx zjk (zi (zm 0) zJ)) (fC (.int 0)))) (zLc 2 (zD zui (zD gIx (zm 0) (zD zui (zm 1) (zx zjk (zi (zm 0) zJ)))) (fC (.int 2305843009213693951)))) z9b) (zgb (zLc 2 (zD zui (zD zxl (zD zxl (zD zxl (zD zGk (zm 2) (fC (.int 48271))) (zD zGk (zD zGk (zm 1) (zm 1)) (fC (.int 40692)))) (zD zGk (fC (.int 7)) (zm 1))) (fC (.int 11))) (fC (.int 2147483647)))) (zsc (zD zui (zD zGk (zm 2) (fC (.int 1181783497276652981))) (fC (.int 2305843009213693951)))))))
def zPc:FF:=fun ds μ=>zTb (zBe (zM zDe ds) μ)
def zkd:List Str:=["_law_script","_law_k"]
def zgd:FS:=(zgb (sIf (zR (zD (zVk fun i j=>decide (i<j)) (zm 1) (zx zjk (zi (zm 0) zJ)))) (zsc (zD gIx (zm 0) (zm 1))) z9b) (zsc (zx zPc (zi (zm 0) (zi (zm 1) zJ)))))
def z6:FF:=fun ds μ=>zTb (zgd (zM zkd ds) μ)
def zJg:FE:=(zD zui (zm 0) (fC (.int 3)))
def zKi:List Str:=["_law_rule_here","_law_cell"]
def zte:FS:=(zgb (sIf (zR (zD gEq (zD zui (zm 1) (fC (.int 2))) (fC (.int 0)))) (zsc (zm 0)) z9b) (zsc (zPm (zi (zx z7g (zi (fLC 1 [] (zIg (zD gIx (zm 0) (fC (.int 0)))) (gN 0) z7k zJg) zJ)) (zi (zD gIx (zm 0) (fC (.int 1))) zJ)))))
def zme:FF:=fun ds μ=>zTb (zte (zM zKi ds) μ)
def zCn:FE:=(zD zui (zD zui (zD zxl (zD zGk (zD gIx (zm 0) (fC (.int 0))) (zm 1)) (zD gIx (zm 0) (fC (.int 1)))) (fC (.int (10007)))) (zm 2))
def zos:List Str:=["rule","key","nests"]
def z3l:FS:=(zgb (zLc 2 (zx zjk (zi (zD gIx (zm 0) (fC (.int 0))) zJ))) (zsc (zx z7g (zi (fLC 1 [1,2] (zIg (zD gIx (zm 0) (fC (.int 1)))) (gN 0) z7k zCn) zJ))))
def zQl:FF:=fun ds μ=>zTb (z3l (zM zos ds) μ)
def zzl:FE:=(zx zQl (zi (zm 1) (zi (zm 0) zJ)))
def zIp:List Str:=["rule","keys"]
def z9i:FS:=(zsc (zPm (zi (zD gIx (zm 0) (fC (.int 0))) (zi (zx z7g (zi (fLC 1 [0] (zIg (zm 1)) (gN 0) z7k zzl) zJ)) zJ))))
def zvb:FF:=fun ds μ=>zTb (z9i (zM zIp ds) μ)
def zFi:List Str:=["self"]
def zze:FS:=(zsc (znp "Shelf" "kept_rule" (zm 0)))
def zlb:FF:=fun ds μ=>zTb (zze (zM zFi ds) μ)
def zch:List Str:=["self","key"]
def zxd:FS:=(zsc (zSj zbq (znp "Shelf" "nest_of" (zm 0)) (zi (zm 1) zJ)))
def zUb:FF:=fun ds μ=>zTb (zxd (zM zch ds) μ)
def ziu:FE:=(zD zpt (zm 1) (zRf zgk (zm 2) (zi (zm 0) zJ)))
def zRu:List Str:=["web","laying"]
def z2k:FS:=(zsc (fLC 2 [1] (zzm (zD gIx (zm 0) (fC (.int 0)))) (gT 2 (zSc (gN 0) (zSc (gN 1) zYi))) z7k ziu))
def z3f:FF:=fun ds μ=>zTb (z2k (zM zRu ds) μ)
def zZe:List Str:=["self"]
def zqc:FS:=(zsc (zx zrp (zi (znp "Shelf" "nest_of" (zm 0)) zJ)))
def zK:FF:=fun ds μ=>zTb (zqc (zM zZe ds) μ)
def zKf:FE:=(zD z0u (znp "Shelf" "nest_of" (zm 1)) (zm 0))
def zFg:List Str:=["self"]
def zid:FS:=(zsc (fLC 1 [0] (zIg (zx zK (z1b "Shelf" "all_there" (zm 0) zJ))) (gN 0) z7k zKf))
def zJb:FF:=fun ds μ=>zTb (zid (zM zFg ds) μ)
def zCi:List Str:=["self"]
def zke:FS:=(zsc (zx z3f (zi (zx zvb (zi (znp "Shelf" "kept_rule" (zm 0)) (zi (zx zK (z1b "Shelf" "all_there" (zm 0) zJ)) zJ))) (zi (zx zJb (z1b "Shelf" "laying" (zm 0) zJ)) zJ))))
def zqe:FF:=fun ds μ=>zTb (zke (zM zCi ds) μ)
def zer:FS:=(sIf (zR (zD (zVk fun i j=>decide (i<j)) (zm 4) (fC (.int 0)))) (zsc (zPm (zi (fC (.str "room")) (zi (zm 3) zJ)))) z9b)
def zis:FS:=(sIf (zJj (zR (zD zFf (zm 3) (fC .non))) (zR (zD z0f (zm 3) (zD gIx (zD gIx (zm 0) (fC (.int 1))) (zm 2))))) (zsc (zPm (zi (fC (.str "home")) (zi (zm 2) zJ)))) z9b)
def z5q:List Str:=["web","laying","key","nest","room"]
def zum:FS:=(zgb (zhm (zzm (zm 1)) (gT 2 (zSc (gN 2) (zSc (gN 3) zYi))) zis) (zgb (zhm (zzm (zx z3f (zi (zm 0) (zi (zm 1) zJ)))) (gT 2 (zSc (gN 3) (zSc (gN 4) zYi))) zer) (zsc (fC .non))))
def zji:FF:=fun ds μ=>zTb (zum (zM z5q ds) μ)
def zSf:FE:=(zx zUb (z1b "Shelf" "where" (zm 1) (zi (zm 0) zJ)))
def z3h:List Str:=["_law_shelf","_law_there","_law_keys","_law_web_here","_law_laying"]
def zJd:FS:=(zgb (zLc 2 (zx zMf (zi (zm 1) zJ))) (zgb (zLc 3 (zx zvb (zi (zx zlb (z1b "Shelf" "rule" (zm 0) zJ)) (zi (zm 2) zJ)))) (zgb (zLc 4 (fLC 1 [0] (zIg (zm 2)) (gN 0) z7k zSf)) (zgb (sIf (zas (zR (zD gNe (zx zK (z1b "Shelf" "all_there" (zm 0) zJ)) (zm 2))) (zas (zR (zD gIn (fC .non) (zm 4))) (zR (zD zFf (zx zji (zi (zm 3) (zi (zm 4) zJ))) (fC .non))))) (zsc (fC (.bl false))) z9b) (zsc (zD gEq (zx zqe (z1b "Shelf" "left" (zm 0) zJ)) (zx z3f (zi (zm 3) (zi (zm 4) zJ)))))))))
def zCd:FF:=fun ds μ=>zTb (zJd (zM z3h ds) μ)
def zhf:List Str:=["_law_pen_here","_law_size","_law_digit","_law_at","_law_number"]
def zBf:FS:=(zgb (sIf (zR (zD gEq (zD gIx (zm 0) (fC (.int 0))) (fC (.int 0)))) (zgb (zLc 2 (zD zui (zD gIx (zm 0) (fC (.int 1))) (zm 1))) (zgb (zht (zD z2o (zD gIx (zm 0) (fC (.int 1))) (zm 1)) (gAt (zm 0) (fC (.int 1)))) (zsc (zm 2)))) z9b) (zgb (zht (zD zxl (zD gIx (zm 0) (fC (.int 3))) (fC (.int 1))) (gAt (zm 0) (fC (.int 3)))) (zgb (zLc 3 (zD gIx (zm 0) (fC (.int 3)))) (zgb (zLc 4 (zD zGk (zD zui (zD gIx (zm 0) (fC (.int 1))) (fC (.int 2305843009213693951))) (fC (.int 48271)))) (zgb (zLc 4 (zD zui (zD zxl (zD zxl (zD zxl (zm 4) (zD zGk (zD zGk (zm 3) (zm 3)) (fC (.int 40692)))) (zD zGk (fC (.int 7)) (zm 3))) (fC (.int 11))) (fC (.int 2147483647)))) (zsc (zD zui (zD z2o (zD zui (zD zGk (zm 4) (fC (.int 1181783497276652981))) (fC (.int 2305843009213693951))) (fC (.int 64))) (zm 1))))))))
def zrb:FF:=fun ds μ=>zTb (zBf (zM zhf ds) μ)
def zgh:FE:=(zPm (zi (zx zrb (zi (zm 1) (zi (zm 2) zJ))) (zi (zx zrb (zi (zm 1) (zi (zm 2) zJ))) zJ)))
def zph:FE:=(zx zrb (zi (zm 1) (zi (fC (.int 10)) zJ)))
def zAj:List Str:=["_law_pen_here","_law_many","_law_rooms","_law_size","_law_turns"]
def zcf:FS:=(zgb (zLc 1 (zD zxl (fC (.int 1)) (zx zrb (zi (zm 0) (zi (fC (.int 10)) zJ))))) (zgb (zLc 2 (zx z7g (zi (fLC 1 [0] (zxk (zi (zm 1) zJ)) (gN 0) z7k zph) zJ))) (zgb (zLc 3 (zD gIx (znm (zi (fC (.int 10007)) (zi (fC (.int 30)) zJ))) (zx zrb (zi (zm 0) (zi (fC (.int 2)) zJ))))) (zgb (zLc 4 (zx z7g (zi (fLC 1 [0,3] (zxk (zi (zD zxl (fC (.int 2)) (zx zrb (zi (zm 0) (zi (fC (.int 2)) zJ)))) zJ)) (gN 0) z7k zgh) zJ))) (zsc (zPm (zi (zm 2) (zi (zm 4) zJ))))))))
def z7e:FF:=fun ds μ=>zTb (zcf (zM zAj ds) μ)
def ztj:List Str:=["self","key"]
def zvf:FS:=(zsc (zD zNn (zm 1) (znp "Shelf" "nest_of" (zm 0))))
def zYb:FF:=fun ds μ=>zTb (zvf (zM ztj ds) μ)
def z0m:FE:=(zm 0)
def zvr:FT:=(zR (zD gEq (zm 1) (zm 2)))
def zTs:List Str:=["laying","nest"]
def zCm:FS:=(zsc (fLC 2 [1] (zzm (zm 0)) (gT 2 (zSc (gN 0) (zSc (gN 1) zYi))) zvr z0m))
def zxm:FF:=fun ds μ=>zTb (zCm (zM zTs ds) μ)
def zuh:FS:=(sIf (zR (zD zNj (zm 4) (zm 3))) (zgb (zht (zPm (zi (zm 7) (zi (zD gIx (zm 5) (zm 6)) zJ))) (zUw (zm 3) (zm 4))) (zXk (zRf zNf (zm 5) (zi (zm 4) zJ)))) z9b)
def zsf:FS:=(zhm (zIg (zD gIx (zD gIx (zm 0) (fC (.int 1))) (zm 7))) (gN 4) zuh)
def zah:FS:=(zgb (zhm (zIg (zx zxm (zi (zm 1) (zi (zD gIx (zm 5) (zm 6)) zJ)))) (gN 7) zsf) (z3x 6 zEu (fC (.int 1))))
def zTh:FS:=(zht (zPm (zi (zm 2) (zi (fC .non) zJ))) (zUw (zm 3) (zm 4)))
def zXj:List Str:=["web","laying","key","pushes","nest","nests","at","other"]
def zrf:FS:=(zgb (zLc 3 zLy) (zgb (zhm (zIg (zD gIx (zD gIx (zm 0) (fC (.int 1))) (zm 2))) (gN 4) zTh) (zgb (zLc 5 (zx zSn (zi (zm 3) zJ))) (zgb (zLc 6 (fC (.int 0))) (zgb (zLn 100000 (zR (zD (zVk fun i j=>decide (i<j)) (zm 6) (zx zjk (zi (zm 5) zJ)))) zah) (zsc (zm 3)))))))
def zof:FF:=fun ds μ=>zTb (zrf (zM zXj ds) μ)
def zkl:FS:=(zgb (zXk (zRf zNf (zm 2) (zi (zPm (zi (zD gIx (zD z0u (zm 0) (zm 1)) (fC (.int 0))) (zi (zm 1) zJ))) zJ))) (zLc 1 (zD gIx (zD z0u (zm 0) (zm 1)) (fC (.int 1)))))
def zgp:List Str:=["pushes","nest","row"]
def zlj:FS:=(zgb (zLc 2 (znm zJ)) (zgb (zLn 100000 (zR (zD zFf (zm 1) (fC .non))) zkl) (zsc (zHt (zm 2)))))
def z2i:FF:=fun ds μ=>zTb (zlj (zM zgp ds) μ)
def zhl:FE:=(zm 0)
def z6k:FT:=(zas (zR (zD gEq (zm 0) (zm 2))) (zR (zD zNn (zm 1) (zm 3))))
def zDl:FS:=(sIf (zR (zD (zVk fun i j=>decide (j<i)) (zD gIx (zm 4) (zm 5)) (fC (.int 0)))) (zsc (zPm (zi (fC (.str "put")) (zi (zx z2i (zi (zm 3) (zi (zm 5) zJ))) zJ)))) z9b)
def z0o:List Str:=["web","laying","key","pushes","room","nest"]
def z1i:FS:=(zgb (zLc 3 (zx zof (zi (zm 0) (zi (zm 1) (zi (zm 2) zJ))))) (zgb (zLc 4 (zx z3f (zi (zm 0) (zi (zm 1) zJ)))) (zgb (zhm (zPv (zm 3)) (gN 5) zDl) (zsc (zPm (zi (fC (.str "full")) (zi (fLC 2 [2,3] (zzm (zm 1)) (gT 2 (zSc (gN 0) (zSc (gN 1) zYi))) z6k zhl) zJ)))))))
def zkf:FF:=fun ds μ=>zTb (z1i (zM z0o ds) μ)
def zFd:FS:=(zht (zD gIx (zm 5) (fC (.int 1))) (zUw (znp "Shelf" "nest_of" (zm 0)) (zD gIx (zm 5) (fC (.int 0)))))
def zEd:FE:=(zPm (zi (zD gIx (zm 1) (zD gIx (zm 0) (fC (.int 0)))) (zi (zD gIx (zm 0) (fC (.int 1))) zJ)))
def zyd:FE:=(zD gIx (zm 1) (zm 0))
def zWj:List Str:=["self","key","keys","told","row","push"]
def z9e:FS:=(zgb (sIf (zR (zx zYb (z1b "Shelf" "has" (zm 0) (zi (zm 1) zJ)))) (zRm "Twice" (zi (fC (.str "the key is there already")) zJ)) z9b) (zgb (zLc 2 (zD zxl (zx zK (z1b "Shelf" "all_there" (zm 0) zJ)) (znm (zi (zm 1) zJ)))) (zgb (sIf (zR (zD (zVk fun i j=>decide (j<i)) (zx zjk (zi (zm 2) zJ)) (fC (.int (30))))) (zEe "Full" "some" (zi (zx zMf (zi (zm 2) zJ)) zJ)) z9b) (zgb (zLc 3 (zx zkf (zi (zx zvb (zi (znp "Shelf" "kept_rule" (zm 0)) (zi (zm 2) zJ))) (zi (zD zxl (zx zJb (z1b "Shelf" "laying" (zm 0) zJ)) (znm (zi (fC .non) zJ))) (zi (zD zpt (zx zjk (zi (zm 2) zJ)) (fC (.int 1))) zJ))))) (zgb (sIf (zR (zD gEq (zD gIx (zm 3) (fC (.int 0))) (fC (.str "full")))) (zEe "Full" "some" (zi (zx zMf (zi (fLC 1 [2] (zIg (zD gIx (zm 3) (fC (.int 1)))) (gN 0) z7k zyd) zJ)) zJ)) z9b) (zgb (zLc 4 (fLC 1 [2] (zIg (zD gIx (zm 3) (fC (.int 1)))) (gN 0) z7k zEd)) (zgb (zhm (zIg (zm 4)) (gN 5) zFd) (zsc (zm 4)))))))))
def zVd:FX:=fun ds μ=>zyy (z9e (zM zWj ds) μ)
def zsj:FE:=(zD gIx (zD gIx (zm 1) (fC (.int 0))) (zm 0))
def z6m:List Str:=["web","nests"]
def zXh:FS:=(zsc (zx zxx (zi (fLC 1 [0] (zIg (zm 1)) (gN 0) z7k zsj) zJ)))
def zoh:FF:=fun ds μ=>zTb (zXh (zM z6m ds) μ)
def zIi:FS:=(zXk (zRf znv (zm 2) (zi (zD gIx (zD gIx (zm 0) (fC (.int 1))) (zm 3)) zJ)))
def zil:List Str:=["web","some","found","key"]
def zag:FS:=(zgb (zLc 2 (znm zJ)) (zgb (zhm (zIg (zm 1)) (gN 3) zIi) (zsc (z3m (zm 2)))))
def zgg:FF:=fun ds μ=>zTb (zag (zM zil ds) μ)
def zdl:List Str:=["web","some"]
def z9f:FS:=(zsc (zD (zVk fun i j=>decide (i<j)) (zx zoh (zi (zm 0) (zi (zx zgg (zi (zm 0) (zi (zm 1) zJ))) zJ))) (zx zjk (zi (zm 1) zJ))))
def z7c:FF:=fun ds μ=>zTb (z9f (zM zdl ds) μ)
def zde:FE:=(zm 0)
def z6d:FT:=(zR (zD z0f (zm 0) (zm 1)))
def zQe:List Str:=["_law_rule_here","_law_keys","_law_some","_law_key"]
def zpc:FS:=(zgb (sIf (zas (zR (zD gNe (zm 2) (z3m (zm 2)))) (zR (zD gNe (fLC 1 [1] (zIg (zm 2)) (gN 0) z6d zde) (znm zJ)))) (zsc (fC (.bl false))) z9b) (zgb (sIf (zJj (zR (zD zFf (zm 3) (fC .non))) (zR (zD z0f (zm 3) (zm 2)))) (zsc (fC (.bl false))) z9b) (zsc (zx z7c (zi (zx zvb (zi (zm 0) (zi (zm 2) zJ))) (zi (zti (zx zjk (zi (zm 2) zJ))) zJ))))))
def zzb:FF:=fun ds μ=>zTb (zpc (zM zQe ds) μ)
def zvk:FE:=(zD gIx (zm 0) (fC (.int 0)))
def zIn:List Str:=["web","laying","row","at","key"]
def zYg:FS:=(zgb (zLc 4 (zD gIx (zD gIx (zm 2) (zm 3)) (fC (.int 0)))) (zgb (sIf (zas (zR (zD (zVk fun i j=>decide (i<j)) (zm 4) (fC (.int 0)))) (zR (zD (zVk fun i j=>decide (j<=i)) (zm 4) (zx zjk (zi (zm 1) zJ))))) (zsc (fC (.bl false))) z9b) (zgb (sIf (zas (zR (zD z0f (zD gIx (zD gIx (zm 2) (zm 3)) (fC (.int 1))) (zD gIx (zD gIx (zm 0) (fC (.int 1))) (zm 4)))) (zR (zD gEq (zD gIx (zD gIx (zm 2) (zm 3)) (fC (.int 1))) (zD gIx (zm 1) (zm 4))))) (zsc (fC (.bl false))) z9b) (zsc (zD z0f (zm 4) (fLC 1 [] (zIg (fSl (zm 2) pNo (zsz (zm 3)))) (gN 0) z7k zvk))))))
def zBh:FF:=fun ds μ=>zTb (zYg (zM zIn ds) μ)
def z9m:List Str:=["laying","key","row","at"]
def zFh:FS:=(zgb (sIf (zR (zD gEq (zm 3) (fC (.int 0)))) (zsc (zD gEq (zD gIx (zD gIx (zm 2) (fC (.int 0))) (fC (.int 0))) (zm 1))) z9b) (zsc (zD gEq (zD gIx (zm 0) (zD gIx (zD gIx (zm 2) (zm 3)) (fC (.int 0)))) (zD gIx (zD gIx (zm 2) (zD zpt (zm 3) (fC (.int 1)))) (fC (.int 1))))))
def zjh:FF:=fun ds μ=>zTb (zFh (zM z9m ds) μ)
def z8k:FS:=(zgb (sIf (zMk (zJj (zR (zx zBh (zi (zm 0) (zi (zm 1) (zi (zm 3) (zi (zm 5) zJ)))))) (zR (zx zjh (zi (zm 1) (zi (zm 2) (zi (zm 3) (zi (zm 5) zJ)))))))) zHr z9b) (zht (zD gIx (zm 6) (fC (.int 1))) (gAt (zm 4) (zD gIx (zm 6) (fC (.int 0))))))
def zXo:List Str:=["web","laying","key","row","behind","at","push"]
def zij:FS:=(zgb (zLc 4 (zx zir (zi (zm 1) zJ))) (zgb (zhm (zzm (zm 3)) (gT 2 (zSc (gN 5) (zSc (gN 6) zYi))) z8k) (zgb (sIf (zas (zR (zD gEq (zx zjk (zi (zm 3) zJ)) (fC (.int 0)))) (zR (zD zFf (zx zji (zi (zm 0) (zi (zm 4) zJ))) (fC .non)))) zHr z9b) (zsc (zm 4)))))
def zoj:FF:=fun ds μ=>zTb (zij (zM zXo ds) μ)
def zxh:FS:=(zgb (zLc 5 (zx zkf (zi (zm 0) (zi (zm 1) (zi (zm 4) zJ))))) (sIf (zR (zD gEq (zD gIx (zm 5) (fC (.int 0))) (fC (.str "put")))) (zLc 1 (zx zoj (zi (zm 0) (zi (zm 1) (zi (zm 4) (zi (zD gIx (zm 5) (fC (.int 1))) zJ)))))) (zXk (zRf znv (zm 3) (zi (zD gIx (zm 5) (fC (.int 1))) zJ)))))
def zwj:List Str:=["web","laying","keys","crowded","key","told"]
def zdf:FS:=(zgb (zLc 3 (znm zJ)) (zgb (zhm (zIg (zm 2)) (gN 4) zxh) (zsc (zPm (zi (zm 1) (zi (z3m (zm 3)) zJ))))))
def zff:FF:=fun ds μ=>zTb (zdf (zM zwj ds) μ)
def zAh:List Str:=["web"]
def zKd:FS:=(zsc (zx zff (zi (zm 0) (zi (zD zGk (znm (zi (fC .non) zJ)) (zx zjk (zi (zD gIx (zm 0) (fC (.int 1))) zJ))) (zi (zti (zx zjk (zi (zD gIx (zm 0) (fC (.int 1))) zJ))) zJ)))))
def zNd:FF:=fun ds μ=>zTb (zKd (zM zAh ds) μ)
def zQh:FE:=(zm 0)
def zPl:FT:=(zR (zD gNe (zm 0) (zm 1)))
def z5g:FS:=(sIf (zR (zx z7c (zi (zm 0) (zi (fLC 1 [2] (zIg (zm 1)) (gN 0) zPl zQh) zJ)))) (zsc (zm 2)) z9b)
def z5j:List Str:=["web","some","key"]
def zAf:FS:=(zgb (zhm (zIg (zm 1)) (gN 2) z5g) (zsc (fC .non)))
def z2d:FF:=fun ds μ=>zTb (zAf (zM z5j ds) μ)
def zqk:FS:=(zgb (zXk (zRf zgi (zm 2) (zi (zm 3) zJ))) (zLc 3 (zx z2d (zi (zm 0) (zi (zm 2) zJ)))))
def zgn:List Str:=["web","some","rest","spare"]
def zeh:FS:=(zgb (zLc 2 (zx zir (zi (zm 1) zJ))) (zgb (zLc 3 (zx z2d (zi (zm 0) (zi (zm 2) zJ)))) (zgb (zLn 100000 (zR (zD zFf (zm 3) (fC .non))) zqk) (zsc (zm 2)))))
def zYh:FF:=fun ds μ=>zTb (zeh (zM zgn ds) μ)
def zWo:List Str:=["web","told"]
def zgj:FS:=(zgb (zLc 1 (zx zNd (zi (zm 0) zJ))) (zgb (sIf (zR (zD gEq (zD gIx (zm 1) (fC (.int 1))) (znm zJ))) (zsc (zPm (zi (fC (.str "fits")) (zi (zD gIx (zm 1) (fC (.int 0))) zJ)))) z9b) (zsc (zPm (zi (fC (.str "crowd")) (zi (zx zYh (zi (zm 0) (zi (zD gIx (zm 1) (fC (.int 1))) zJ))) zJ))))))
def zBd:FF:=fun ds μ=>zTb (zgj (zM zWo ds) μ)
def zbl:List Str:=["_law_shelf","_law_there","_law_key","_law_known","_law_fits","_law_full","e"]
def zqg:FS:=(zgb (zLc 3 (zx zMf (zi (zD zxl (zm 1) (znm (zi (zm 2) zJ))) zJ))) (zgb (zLc 4 (zD gEq (zD gIx (zx zBd (zi (zx zvb (zi (zx zlb (z1b "Shelf" "rule" (zm 0) zJ)) (zi (zm 3) zJ))) zJ)) (fC (.int 0))) (fC (.str "fits")))) (zgb (zLc 5 (fC .non)) (zgb (zvs (zPp zVd (z1b "Shelf" "put" (zm 0) (zi (zm 2) zJ))) (hAs 6 [("Twice",false),("Full",true),("NoKey",false)] (zLc 5 (fAt "Full" "some" (zm 6))) zyw)) (zgb (sIf (zR (zm 4)) (zgb (zXk (zRf zNf (zm 1) (zi (zm 2) zJ))) (zsc (zD gIs (zm 5) (fC .non)))) z9b) (zsc (zTw (zD zFf (zm 5) (fC .non)) (zx zzb (zi (zx zlb (z1b "Shelf" "rule" (zm 0) zJ)) (zi (zm 3) (zi (zm 5) (zi (zm 2) zJ))))))))))))
def zUe:FF:=fun ds μ=>zTb (zqg (zM zbl ds) μ)
def zNl:List Str:=["_law_script","_law_k","_law_cell"]
def zri:FS:=(zgb (zLc 2 (zx z6 (zi (zm 0) (zi (zm 1) zJ)))) (zsc (znm (zi (zD zui (zm 2) (fC (.int 2))) (zi (zD z2o (zm 2) (fC (.int 2))) (zi (zx zjk (zi (zm 0) zJ)) (zi (zD zGk (fC (.int 101)) (zm 1)) zJ)))))))
def zig:FF:=fun ds μ=>zTb (zri (zM zNl ds) μ)
def zVf:FS:=(zht (zD gIx (zD gIx (zm 3) (fC (.int 1))) (zm 4)) (zUw (znp "Shelf" "nest_of" (zm 0)) (zm 5)))
def z8f:FE:=(zD gIx (zm 1) (zm 0))
def z4g:List Str:=["self","rule","keys","told","place","key"]
def zDd:FS:=(zgb (zLc 2 (zx zK (z1b "Shelf" "all_there" (zm 0) zJ))) (zgb (zLc 3 (zx zBd (zi (zx zvb (zi (zm 1) (zi (zm 2) zJ))) zJ))) (zgb (sIf (zR (zD gEq (zD gIx (zm 3) (fC (.int 0))) (fC (.str "crowd")))) (zEe "Full" "some" (zi (fLC 1 [2] (zIg (zD gIx (zm 3) (fC (.int 1)))) (gN 0) z7k z8f) zJ)) z9b) (zgb (z4p "Shelf" "kept_rule" (zm 0) (zm 1)) (zhm (zzm (zm 2)) (gT 2 (zSc (gN 4) (zSc (gN 5) zYi))) zVf)))))
def zLd:FX:=fun ds μ=>zyy (zDd (zM z4g ds) μ)
def zGg:List Str:=["_law_shelf","_law_there","_law_rule_here","_law_fits","_law_before","_law_full","e"]
def zjd:FS:=(zgb (zLc 3 (zD gEq (zD gIx (zx zBd (zi (zx zvb (zi (zm 2) (zi (zx zMf (zi (zm 1) zJ)) zJ))) zJ)) (fC (.int 0))) (fC (.str "fits")))) (zgb (zLc 4 (zx zlb (z1b "Shelf" "rule" (zm 0) zJ))) (zgb (zLc 5 (fC .non)) (zgb (zvs (zPp zLd (z1b "Shelf" "renew" (zm 0) (zi (zm 2) zJ))) (hAs 6 [("Twice",false),("Full",true),("NoKey",false)] (zLc 5 (fAt "Full" "some" (zm 6))) zyw)) (zgb (sIf (zR (zm 3)) (zsc (zTw (zD gIs (zm 5) (fC .non)) (zD gEq (zx zlb (z1b "Shelf" "rule" (zm 0) zJ)) (zm 2)))) z9b) (zsc (zTw (zD zFf (zm 5) (fC .non)) (zTw (zD gEq (zx zlb (z1b "Shelf" "rule" (zm 0) zJ)) (zm 4)) (zx zzb (zi (zm 2) (zi (zm 1) (zi (zm 5) (zi (fC .non) zJ)))))))))))))
def z7b:FF:=fun ds μ=>zTb (zjd (zM zGg ds) μ)
def zFk:List Str:=["self","key"]
def zbf:FS:=(zgb (sIf (zMk (zR (zx zYb (z1b "Shelf" "has" (zm 0) (zi (zm 1) zJ))))) (zRm "NoKey" (zi (fC (.str "the key isn't there")) zJ)) z9b) (zsc (zSj z2p (znp "Shelf" "nest_of" (zm 0)) (zi (zm 1) zJ))))
def zWd:FX:=fun ds μ=>zyy (zbf (zM zFk ds) μ)
def zko:FS:=(zgb (zLc 5 (zx z6 (zi (zm 0) (zi (zD zxl (fC (.int 4)) (zm 2)) zJ)))) (zgb (zLc 6 (zD zui (zm 5) (fC (.int 8)))) (zgb (zLc 7 (zD gIx (znm (zi (zD zui (zD z2o (zm 5) (fC (.int 8))) (fC (.int 25))) (zi (zD zui (zD z2o (zm 5) (fC (.int 8))) (zD zRx (fC (.int 10)) (fC (.int 60)))) zJ))) (zD zui (zD z2o (zm 5) (fC (.int 8))) (fC (.int 2))))) (zgb (sIf (zJj (zR (zD (zVk fun i j=>decide (i<j)) (zm 6) (fC (.int 5)))) (zJj (zR (zD z0f (zm 7) (zm 4))) (zR (zD (zVk fun i j=>decide (i<j)) (zx zjk (zi (zm 4) zJ)) (fC (.int 18)))))) (sIf (zMk (zR (zx zUe (zi (zm 3) (zi (zm 4) (zi (zm 7) zJ)))))) (zsc (fC (.bl false))) z9b) (sIf (zJj (zR (zD (zVk fun i j=>decide (i<j)) (zm 6) (fC (.int 7)))) (zR (zD gNe (zm 4) (znm zJ)))) (zgb (zLc 7 (zRf zPj (zm 4) (zi (zD zui (zD z2o (zm 5) (fC (.int 8))) (zx zjk (zi (zm 4) zJ))) zJ))) (sIf (zas (zR (zD gNe (zx zUb (z1b "Shelf" "where" (zm 3) (zi (zm 7) zJ))) (zvn zWd (z1b "Shelf" "out" (zm 3) (zi (zm 7) zJ))))) (zR (zx zYb (z1b "Shelf" "has" (zm 3) (zi (zm 7) zJ))))) (zsc (fC (.bl false))) z9b)) (sIf (zMk (zR (zx z7b (zi (zm 3) (zi (zm 4) (zi (zD gIx (zm 1) (zD zui (zD z2o (zm 5) (fC (.int 8))) (fC (.int 2)))) zJ)))))) (zsc (fC (.bl false))) z9b))) (sIf (zMk (zR (zx zCd (zi (zm 3) (zi (zm 4) zJ))))) (zsc (fC (.bl false))) z9b)))))
def zCr:FS:=(zXk (zRf zNf (zm 1) (zi (zx zme (zi (zx z7e (zi (zx zig (zi (zm 0) (zi (zm 2) zJ))) zJ)) (zi (zx z6 (zi (zm 0) (zi (fC (.int 2)) zJ))) zJ))) zJ)))
def zQx:List Str:=["_law_script","_law_rules","_law_k","_law_shelf","_law_there","_law_cell","_law_way","_law_key"]
def zHu:FS:=(zgb (zLc 1 (znm zJ)) (zgb (zhm (zxk (zi (fC (.int 2)) zJ)) (gN 2) zCr) (zgb (zLc 3 (zqq "Shelf" zZb (zi (zD gIx (zm 1) (fC (.int 0))) zJ))) (zgb (zLc 4 (znm zJ)) (zgb (zhm (zxk (zi (zD zxl (fC (.int 8)) (zD zui (zx z6 (zi (zm 0) (zi (fC (.int 3)) zJ))) (fC (.int 23)))) zJ)) (gN 2) zko) (zsc (fC (.bl true))))))))
def zaq:FF:=fun ds μ=>zTb (zHu (zM zQx ds) μ)
structure Txt(K:yu)(mg:Str->Option Value):Prop where
 x_Full:∃C,Yh K ym "Full" = some (some (.ref C))/\mg "Full" = some (.ref C)/\W.ktsIn K C "BaseException" = true
 x_NestError:∃C,Yh K ym "NestError" = some (some (.ref C))/\mg "NestError" = some (.ref C)/\W.ktsIn K C "BaseException" = true
 x_Twice:∃C,Yh K ym "Twice" = some (some (.ref C))/\mg "Twice" = some (.ref C)/\W.ktsIn K C "BaseException" = true
 x_NoKey:∃C,Yh K ym "NoKey" = some (some (.ref C))/\mg "NoKey" = some (.ref C)/\W.ktsIn K C "BaseException" = true
 e_Twice:∀C,Yh K ym "Twice" = some (some (.ref C))->W.excIn K C [.type "ValueError", .type "Exception", .type "BaseException", .type "object"] "ValueError.__new__" = true
 e_NoKey:∀C,Yh K ym "NoKey" = some (some (.ref C))->W.excIn K C [.type "ValueError", .type "Exception", .type "BaseException", .type "object"] "ValueError.__new__" = true
 s_Full:∀C,Yh K ym "Full" = some (some (.ref C))->Subs K C [("Twice",false),("Full",true),("NoKey",false)]
 fl_Shelf_nest_of:zNq K "Shelf" "nest_of"
 fl_Shelf_kept_rule:zNq K "Shelf" "kept_rule"
 al_left_layings:mg "left_layings" = mg "left"
 a_Full:AtC K "Full" "some"
 n_enumerate:mg "enumerate" = none
 n_len:mg "len" = none
 n_list:mg "list" = none
 n_range:mg "range" = none
 n_reversed:mg "reversed" = none
 n_set:mg "set" = none
 n_sorted:mg "sorted" = none
 n_sum:mg "sum" = none
 n_tuple:mg "tuple" = none
 c_DIVISOR:∃t,mg "DIVISOR" = some (.int 10007 t)
 c_MOST_KEYS:∃t,mg "MOST_KEYS" = some (.int 30 t)
def zhc:yQ "enumerate" = some (.type "enumerate"):=by decide +kernel
def zwd:yQ "len" = some (.builtin "len"):=by decide +kernel
def zMg:yQ "list" = some (.type "list"):=by decide +kernel
def zKo:yQ "reversed" = some (.type "reversed"):=by decide +kernel
def zMs:yQ "set" = some (.type "set"):=by decide +kernel
def zUc:yQ "sorted" = some (.builtin "sorted"):=by decide +kernel
def zCx:yQ "sum" = some (.builtin "sum"):=by decide +kernel
def z0h:yQ "tuple" = some (.type "tuple"):=by decide +kernel
section
variable {P:yw}{w:yF}{K:yu}{mg:Str->Option Value}{base:yP}
set_option maxHeartbeats 4000000
abbrev zIc:Stmt:=zOv (top 4)
abbrev zyb:List Str:=["self","some"]
def zxn:FnScope zyb zyb (zp zIc):=by walk_at "s"
def zGm(T:Txt K mg){C NE fI:Addr}{fd:yg}(B:IniAt K mg "Full" "some" "Full.__init__" zIc zyb C NE fI fd):FnOk P w K mg base CX0 1 fI fd zyb (spL C "some"):=by
 refine B.fn.ok (k:=0) zxn (fun vs H Q E ⟨e,a,ns,h,_⟩=>by rw[h];rfl) (fun cdv A outer s H vs Q E hr ⟨e,a,ns,hv,hsm,ha,he,hq⟩=>⟨_,zCp (zgt (zwv B.ex B.ne (zLe (pv 0) (zLe (znt (pv 1) hr.gd hr.units) zUh)))) (z1s (zFs B.ex (pv 0) (z7f zxi rfl T.n_list zMg (zLe (pv 1) zUh)))),?_⟩);subst hv
 exact⟨_,rfl,_,rfl,a,ns,rfl,ha,hsm,fun y=>⟨e,_,rfl,he,_,rfl,a,_,rfl, .inl (SqL.of ha),fun l hl=>⟨_,rfl,e,rfl,by rw[zH (zC he hl)];exact he,fun p hp hpe=>by
  have hpl:p≠l:=fun z=>by rw[z,zu]at hp;cases hp
  exact hq l p hl (yN (zC he hl)) (by rwa [zH hpl]at hp) hpe hpl⟩⟩⟩
abbrev z2b:Stmt:=zHe (top 34) 0
abbrev zeb:List Str:=["self","rule"]
def zvi:FnScope zGf zeb (zp z2b):=by walk_at "s"
def zvh(T:Txt K mg){C:Addr}{f:Addr}{fd:yg}(B:MakeAt K mg "Shelf" z2b zeb C f fd):FnOk P w K mg base CX0 1 f fd zeb (spM K 2 zZb):=by
 refine fnM B.fn zvi rfl (fun cdv A outer s H E hr=>⟨zCc,?_,fun _ _ _ _ _ e=>e⟩);have hu:=hr.units;exact(zj (zgr T.fl_Shelf_kept_rule (mv 0) (mv 1)) (zn (zgr T.fl_Shelf_nest_of (mv 0) z7u)))
abbrev zhe:Stmt:=top 36
abbrev zmc:List Str:=["_law_script","_law_k"]
def sc__law_mixed:FnScope zDe zmc (zp zhe):=by walk_at "s"
def zLk(T:Txt K mg){f:Addr}{fd:yg}(B:FnAt K mg "_law_mixed" zhe zmc f fd):FnOk P w K mg base CX0 1 f fd zmc (spM K 2 zPc):=by
 refine fnM B.fn sc__law_mixed rfl (fun cdv A outer s H E hr=>⟨zBe,?_,fun _ _ _ _ _ e=>e⟩);have hu:=hr.units;exact(zj (zP 2 zo (hN:=sc__law_mixed.nd)) (zj (zuc (zX zns (z9 ztb T.n_len zwd (zb (mv 0) ze)) zo) (zn (zP 2 (z5 zGb (zN (mv 0) (z5 zGb (mv 1) (z9 ztb T.n_len zwd (zb (mv 0) ze)))) zo) (hN:=sc__law_mixed.nd))) z8) (zj (zP 2 (z5 zGb (z5 zFc (z5 zFc (z5 zFc (z5 zdd (mv 2) zo) (z5 zdd (z5 zdd (mv 1) (mv 1)) zo)) (z5 zdd zo (mv 1))) zo) zo) (hN:=sc__law_mixed.nd)) (zn (zL (z5 zGb (z5 zdd (mv 2) zo) zo))))))
abbrev zvc:Stmt:=top 37
abbrev zjb:List Str:=["_law_script","_law_k"]
def z2j:FnScope zkd zjb (zp zvc):=by walk_at "s"
def zZi(T:Txt K mg){zDi:Addr}{z2h:yg}(zCe:FnAt K mg "_law_mixed" zhe zmc zDi z2h)(zef:FnOk P w K mg base CX0 1 zDi z2h zmc (spM K 2 zPc)){f:Addr}{fd:yg}(B:FnAt K mg "_law_cell_at" zvc zjb f fd):FnOk P w K mg base CX0 2 f fd zjb (spM K 2 z6):=by
 refine fnM B.fn z2j rfl (fun cdv A outer s H E hr=>⟨zgd,?_,fun _ _ _ _ _ e=>e⟩);have hu:=hr.units;exact(zj (zuc (zX zzi (mv 1) (z9 ztb T.n_len zwd (zb (mv 0) ze))) (zn (zL (zN (mv 0) (mv 1)))) z8) (zn (zL (mcall zCe zef hr (zb (mv 0) (zb (mv 1) ze))))))
abbrev zoe:Stmt:=top 42
abbrev znc:List Str:=["_law_rule_here","_law_cell"]
def zdm:FnScope zKi znc (zp zoe):=by walk_at "s"
def zNk(T:Txt K mg){f:Addr}{fd:yg}(B:FnAt K mg "_law_small" zoe znc f fd):FnOk P w K mg base CX0 1 f fd znc (spM K 2 zme):=by
 refine fnM B.fn zdm rfl (fun cdv A outer s H E hr=>⟨zte,?_,fun _ _ _ _ _ e=>e⟩);have hu:=hr.units;exact(zj (zuc (zX (z5c hu) (z5 zGb (mv 1) zo) zo) (zn (zL (mv 0))) z8) (zn (zL (zee (zb (zye zge T.n_tuple z0h (zb (mlc ["_law_room"] [] (zWc (zN (mv 0) zo)) (fun _ _ _ _ _=>(zqb 0 (hN:=znb (by rfl)))) (fun _ _ _ _ _=>zTe) (fun _ _ _ _ _=>(z5 zGb (mv 0) zo)) zod) ze)) (zb (zN (mv 0) zo) ze))))))
abbrev z0l:Stmt:=top 22
abbrev zug:List Str:=["rule","key"]
def sc_homes:FnScope zos zug (zp z0l):=by walk_at "s"
def zGr(T:Txt K mg){f:Addr}{fd:yg}(B:FnAt K mg "homes" z0l zug f fd):FnOk P w K mg base CX0 1 f fd zug (spM K 2 zQl):=by
 refine fnM B.fn sc_homes rfl (fun cdv A outer s H E hr=>⟨z3l,?_,fun _ _ _ _ _ e=>e⟩);have hu:=hr.units;exact(zj (zP 2 (z9 ztb T.n_len zwd (zb (zN (mv 0) zo) ze)) (hN:=sc_homes.nd)) (zn (zL (zye zge T.n_tuple z0h (zb (mlc ["way"] [1,2] (zWc (zN (mv 0) zo)) (fun _ _ _ _ _=>(zqb 0 (hN:=znb (by rfl)))) (fun _ _ _ _ _=>zTe) (fun _ _ _ _ _=>(z5 zGb (z5 zGb (z5 zFc (z5 zdd (zN (mv 0) zo) (mv 1)) (zN (mv 0) zo)) (z5s T.c_DIVISOR)) (mv 2))) (zac ⟨_,rfl,rfl⟩ (zac ⟨_,rfl,rfl⟩ zod))) ze)))))
abbrev zhd:Stmt:=top 25
abbrev zdb:List Str:=["rule","keys"]
def zar:FnScope zIp zdb (zp zhd):=by walk_at "s"
def zjq(T:Txt K mg){zes:Addr}{zKp:yg}(z7l:FnAt K mg "homes" z0l zug zes zKp)(zfm:FnOk P w K mg base CX0 1 zes zKp zug (spM K 2 zQl)){f:Addr}{fd:yg}(B:FnAt K mg "web_of" zhd zdb f fd):FnOk P w K mg base CX0 2 f fd zdb (spM K 2 zvb):=by
 refine fnM B.fn zar rfl (fun cdv A outer s H E hr=>⟨z9i,?_,fun _ _ _ _ _ e=>e⟩);have hu:=hr.units;exact(zn (zL (zee (zb (zN (mv 0) zo) (zb (zye zge T.n_tuple z0h (zb (mlc ["key"] [0] (zWc (mv 1)) (fun _ _ _ _ _=>(zqb 0 (hN:=znb (by rfl)))) (fun _ _ _ _ _=>zTe) (fun _ _ _ _ _=>(mcall z7l zfm hr (zb (mv 1) (zb (mv 0) ze)))) (zac ⟨_,rfl,rfl⟩ zod)) ze)) ze)))))
abbrev zec:Stmt:=zHe (top 34) 10
abbrev zab:List Str:=["self"]
def zSl:FnScope zFi zab (zp zec):=by walk_at "s"
def zTk(T:Txt K mg){C:Addr}{f:Addr}{fd:yg}(B:MethAt K "Shelf" "rule" "Shelf.rule" zec zab C f fd):FnOk P w K mg base CX0 1 f fd zab (spM K 1 zlb):=by
 refine fnM B.fn zSl rfl (fun cdv A outer s H E hr=>⟨zze,?_,fun _ _ _ _ _ e=>e⟩);have hu:=hr.units;exact(zn (zL (zAg T.fl_Shelf_kept_rule (mv 0))))
abbrev zoc:Stmt:=zHe (top 34) 4
abbrev zib:List Str:=["self","key"]
def zWk:FnScope zch zib (zp zoc):=by walk_at "s"
def zUj(T:Txt K mg){C:Addr}{f:Addr}{fd:yg}(B:MethAt K "Shelf" "where" "Shelf.where" zoc zib C f fd):FnOk P w K mg base CX0 1 f fd zib (spM K 2 zUb):=by
 refine fnM B.fn zWk rfl (fun cdv A outer s H E hr=>⟨zxd,?_,fun _ _ _ _ _ e=>e⟩);have hu:=hr.units;exact(zn (zL (zcv (zAg T.fl_Shelf_nest_of (mv 0)) (zb (mv 1) ze))))
abbrev z0j:Stmt:=top 7
abbrev zud:List Str:=["web","laying"]
def ziv:FnScope zRu zud (zp z0j):=by walk_at "s"
def zAt(T:Txt K mg){f:Addr}{fd:yg}(B:FnAt K mg "left" z0j zud f fd):FnOk P w K mg base CX0 1 f fd zud (spM K 2 z3f):=by
 refine fnM B.fn ziv rfl (fun cdv A outer s H E hr=>⟨z2k,?_,fun _ _ _ _ _ e=>e⟩);have hu:=hr.units;exact(zn (zL (mlc ["nest","room"] [1] (zVg T.n_enumerate zhc (zN (mv 0) zo)) (fun _ _ _ _ _=>(zeo (zPe (zqb 0 (hN:=znb (by rfl))) (zPe (zqb 1 (hN:=znb (by rfl))) zqm)))) (fun _ _ _ _ _=>zTe) (fun _ _ _ _ _=>(z5 z9n (mv 1) (zCt (mv 2) (zb (mv 0) ze)))) (zac ⟨_,rfl,rfl⟩ zod))))
abbrev zT:Stmt:=zHe (top 34) 5
abbrev zz:List Str:=["self"]
def zRh:FnScope zZe zz (zp zT):=by walk_at "s"
def zKg(T:Txt K mg){C:Addr}{f:Addr}{fd:yg}(B:MethAt K "Shelf" "all_there" "Shelf.all_there" zT zz C f fd):FnOk P w K mg base CX0 1 f fd zz (spM K 1 zK):=by
 refine fnM B.fn zRh rfl (fun cdv A outer s H E hr=>⟨zqc,?_,fun _ _ _ _ _ e=>e⟩);have hu:=hr.units;exact(zn (zL (z9 (zpo rfl) T.n_sorted zUc (zb (zAg T.fl_Shelf_nest_of (mv 0)) ze))))
abbrev z4b:Stmt:=zHe (top 34) 7
abbrev z7:List Str:=["self"]
def z8j:FnScope zFg z7 (zp z4b):=by walk_at "s"
def zXi(T:Txt K mg){C_Shelf_all_there:Addr}{zG:Addr}{zE:yg}(zB:MethAt K "Shelf" "all_there" "Shelf.all_there" zT zz C_Shelf_all_there zG zE)(zA:FnOk P w K mg base CX0 1 zG zE zz (spM K 1 zK)){C:Addr}{f:Addr}{fd:yg}(B:MethAt K "Shelf" "laying" "Shelf.laying" z4b z7 C f fd):FnOk P w K mg base CX0 2 f fd z7 (spM K 1 zJb):=by
 refine fnM B.fn z8j rfl (fun cdv A outer s H E hr=>⟨zid,?_,fun _ _ _ _ _ e=>e⟩);have hu:=hr.units;exact(zn (zL (mlc ["key"] [0] (zWc (mmeth0 zB zA hr (mv 0))) (fun _ _ _ _ _=>(zqb 0 (hN:=znb (by rfl)))) (fun _ _ _ _ _=>zTe) (fun _ _ _ _ _=>(zfs (zAg T.fl_Shelf_nest_of (mv 1)) (mv 0))) (zac ⟨_,rfl,rfl⟩ zod))))
abbrev znd:Stmt:=zHe (top 34) 8
abbrev zSb:List Str:=["self"]
def z4l:FnScope zCi zSb (zp znd):=by walk_at "s"
def zQk(T:Txt K mg){zZf:Addr}{zXd:yg}(B_left:FnAt K mg "left" z0j zud zZf zXd)(ztd:FnOk P w K mg base CX0 1 zZf zXd zud (spM K 2 z3f)){zob:Addr}{zY:yg}(zcb:FnAt K mg "web_of" zhd zdb zob zY)(zV:FnOk P w K mg base CX0 2 zob zY zdb (spM K 2 zvb)){C_Shelf_laying:Addr}{zxc:Addr}{zgc:yg}(zHb:MethAt K "Shelf" "laying" "Shelf.laying" z4b z7 C_Shelf_laying zxc zgc)(zNb:FnOk P w K mg base CX0 2 zxc zgc z7 (spM K 1 zJb)){C_Shelf_all_there:Addr}{zG:Addr}{zE:yg}(zB:MethAt K "Shelf" "all_there" "Shelf.all_there" zT zz C_Shelf_all_there zG zE)(zA:FnOk P w K mg base CX0 1 zG zE zz (spM K 1 zK)){C:Addr}{f:Addr}{fd:yg}(B:MethAt K "Shelf" "left" "Shelf.left" znd zSb C f fd):FnOk P w K mg base CX0 3 f fd zSb (spM K 1 zqe):=by
 refine fnM B.fn z4l rfl (fun cdv A outer s H E hr=>⟨zke,?_,fun _ _ _ _ _ e=>e⟩);have hu:=hr.units;exact(zn (zL (mcallA (B_left.al T.al_left_layings) B_left ztd hr (zb (mcall zcb zV hr (zb (zAg T.fl_Shelf_kept_rule (mv 0)) (zb (mmeth0 zB zA hr (mv 0)) ze))) (zb (mmeth0 zHb zNb hr (mv 0)) ze)))))
abbrev zmk:Stmt:=top 9
abbrev zie:List Str:=["web","laying"]
def sc_fault:FnScope z5q zie (zp zmk):=by walk_at "s"
def zWs(T:Txt K mg){zZf:Addr}{zXd:yg}(B_left:FnAt K mg "left" z0j zud zZf zXd)(ztd:FnOk P w K mg base CX0 1 zZf zXd zud (spM K 2 z3f)){f:Addr}{fd:yg}(B:FnAt K mg "fault" zmk zie f fd):FnOk P w K mg base CX0 2 f fd zie (spM K 2 zji):=by
 refine fnM B.fn sc_fault rfl (fun cdv A outer s H E hr=>⟨zum,?_,fun _ _ _ _ _ e=>e⟩);have hu:=hr.units;exact(zj (zve (zVg T.n_enumerate zhc (mv 1)) (zHp (zle (z8b 2 (hN:=sc_fault.nd)) (zle (z8b 3 (hN:=sc_fault.nd)) zam))) (zn (zuc (MW.mt (zJl (zX zrd (mv 3) zXc) (zck (zX zYe (mv 3) (zN (zN (mv 0) zo) (mv 2)))))) (zn (zL (zee (zb zRe (zb (mv 2) ze))))) z8))) (zj (zve (zVg T.n_enumerate zhc (mcallA (B_left.al T.al_left_layings) B_left ztd hr (zb (mv 0) (zb (mv 1) ze)))) (zHp (zle (z8b 3 (hN:=sc_fault.nd)) (zle (z8b 4 (hN:=sc_fault.nd)) zam))) (zn (zuc (zX zzi (mv 4) zo) (zn (zL (zee (zb zRe (zb (mv 3) ze))))) z8))) (zn (zL zXc))))
abbrev zAd:Stmt:=top 43
abbrev z6b:List Str:=["_law_shelf","_law_there"]
def sc__law_stands:FnScope z3h z6b (zp zAd):=by walk_at "s"
def zxj(T:Txt K mg){zob:Addr}{zY:yg}(zcb:FnAt K mg "web_of" zhd zdb zob zY)(zV:FnOk P w K mg base CX0 2 zob zY zdb (spM K 2 zvb)){C_Shelf_rule:Addr}{zOb:Addr}{zBb:yg}(zZ:MethAt K "Shelf" "rule" "Shelf.rule" zec zab C_Shelf_rule zOb zBb)(zW:FnOk P w K mg base CX0 1 zOb zBb zab (spM K 1 zlb)){C_Shelf_where:Addr}{zYc:Addr}{zwc:yg}(zWb:MethAt K "Shelf" "where" "Shelf.where" zoc zib C_Shelf_where zYc zwc)(z5b:FnOk P w K mg base CX0 1 zYc zwc zib (spM K 2 zUb)){C_Shelf_left:Addr}{zNi:Addr}{zJh:yg}(zje:MethAt K "Shelf" "left" "Shelf.left" znd zSb C_Shelf_left zNi zJh)(zqf:FnOk P w K mg base CX0 3 zNi zJh zSb (spM K 1 zqe)){zZf:Addr}{zXd:yg}(B_left:FnAt K mg "left" z0j zud zZf zXd)(ztd:FnOk P w K mg base CX0 1 zZf zXd zud (spM K 2 z3f)){C_Shelf_all_there:Addr}{zG:Addr}{zE:yg}(zB:MethAt K "Shelf" "all_there" "Shelf.all_there" zT zz C_Shelf_all_there zG zE)(zA:FnOk P w K mg base CX0 1 zG zE zz (spM K 1 zK)){zDj:Addr}{zZg:yg}(zNg:FnAt K mg "fault" zmk zie zDj zZg)(zsg:FnOk P w K mg base CX0 2 zDj zZg zie (spM K 2 zji)){f:Addr}{fd:yg}(B:FnAt K mg "_law_stands" zAd z6b f fd):FnOk P w K mg base CX0 4 f fd z6b (spM K 2 zCd):=by
 refine fnM B.fn sc__law_stands rfl (fun cdv A outer s H E hr=>⟨zJd,?_,fun _ _ _ _ _ e=>e⟩);have hu:=hr.units;exact(zj (zP 2 (z9 (z0d rfl) T.n_sorted zUc (zb (mv 1) ze)) (hN:=sc__law_stands.nd)) (zj (zP 3 (mcall zcb zV hr (zb (mmeth0 zZ zW hr (mv 0)) (zb (mv 2) ze))) (hN:=sc__law_stands.nd)) (zj (mslc 4 ["_law_key"] [0] (zWc (mv 2)) (fun _ _ _ _ _=>(zqb 0 (hN:=znb (by rfl)))) (fun _ _ _ _ _=>zTe) (fun _ _ _ _ _=>(mmeth zWb z5b hr (mv 1) (zb (mv 0) ze))) (zac ⟨_,rfl,rfl⟩ zod) sc__law_stands.nd) (zj (zuc (MW.mt (zin (zX (z1k hu) (mmeth0 zB zA hr (mv 0)) (mv 2)) (zin (zX zCy zXc (mv 4)) (zVj (zX zrd (mcall zNg zsg hr (zb (mv 3) (zb (mv 4) ze))) zXc))))) (zn (zL z0k)) z8) (zn (zL (zre (z5c hu) (mmeth0 zje zqf hr (mv 0)) (mcallA (B_left.al T.al_left_layings) B_left ztd hr (zb (mv 3) (zb (mv 4) ze))))))))))
abbrev z8e:Stmt:=top 38
abbrev zRc:List Str:=["_law_pen_here","_law_size"]
def sc__law_take:FnScope zhf zRc (zp z8e):=by walk_at "s"
def zsm(T:Txt K mg){f:Addr}{fd:yg}(B:FnAt K mg "_law_take" z8e zRc f fd):FnOk P w K mg base CX0 1 f fd zRc (spM K 2 zrb):=by
 refine fnM B.fn sc__law_take rfl (fun cdv A outer s H E hr=>⟨zBf,?_,fun _ _ _ _ _ e=>e⟩);have hu:=hr.units;exact(zj (zuc (zX (z5c hu) (zN (mv 0) zo) zo) (zj (zP 2 (z5 zGb (zN (mv 0) zo) (mv 1)) (hN:=sc__law_take.nd)) (zj (zMj (z5 z1f (zN (mv 0) zo) (mv 1)) (zgw (mv 0) zo)) (zn (zL (mv 2))))) z8) (zj (zMj (z5 zFc (zN (mv 0) zo) zo) (zgw (mv 0) zo)) (zj (zP 3 (zN (mv 0) zo) (hN:=sc__law_take.nd)) (zj (zP 4 (z5 zdd (z5 zGb (zN (mv 0) zo) zo) zo) (hN:=sc__law_take.nd)) (zj (zP 4 (z5 zGb (z5 zFc (z5 zFc (z5 zFc (mv 4) (z5 zdd (z5 zdd (mv 3) (mv 3)) zo)) (z5 zdd zo (mv 3))) zo) zo) (hN:=sc__law_take.nd)) (zn (zL (z5 zGb (z5 z1f (z5 zGb (z5 zdd (mv 4) zo) zo) zo) (mv 1)))))))))
abbrev zEf:Stmt:=top 41
abbrev zJc:List Str:=["_law_pen_here"]
def sc__law_rule:FnScope zAj zJc (zp zEf):=by walk_at "s"
def zom(T:Txt K mg){zpj:Addr}{zQi:yg}(zVb:FnAt K mg "_law_take" z8e zRc zpj zQi)(zRb:FnOk P w K mg base CX0 1 zpj zQi zRc (spM K 2 zrb)){f:Addr}{fd:yg}(B:FnAt K mg "_law_rule" zEf zJc f fd):FnOk P w K mg base CX0 2 f fd zJc (spM K 1 z7e):=by
 refine fnM B.fn sc__law_rule rfl (fun cdv A outer s H E hr=>⟨zcf,?_,fun _ _ _ _ _ e=>e⟩);have hu:=hr.units;exact(zj (zP 1 (z5 zFc zo (mcall zVb zRb hr (zb (mv 0) (zb zo ze)))) (hN:=sc__law_rule.nd)) (zj (zP 2 (zye zge T.n_tuple z0h (zb (mlc ["_law_k"] [0] (z7i T.n_range (zb (mv 1) ze)) (fun _ _ _ _ _=>(zqb 0 (hN:=znb (by rfl)))) (fun _ _ _ _ _=>zTe) (fun _ _ _ _ _=>(mcall zVb zRb hr (zb (mv 1) (zb zo ze)))) (zac ⟨_,rfl,rfl⟩ zod)) ze)) (hN:=sc__law_rule.nd)) (zj (zP 3 (zN (zae (zb zo (zb zo ze))) (mcall zVb zRb hr (zb (mv 0) (zb zo ze)))) (hN:=sc__law_rule.nd)) (zj (zP 4 (zye zge T.n_tuple z0h (zb (mlc ["_law_k"] [0,3] (z7i T.n_range (zb (z5 zFc zo (mcall zVb zRb hr (zb (mv 0) (zb zo ze)))) ze)) (fun _ _ _ _ _=>(zqb 0 (hN:=znb (by rfl)))) (fun _ _ _ _ _=>zTe) (fun _ _ _ _ _=>(zee (zb (mcall zVb zRb hr (zb (mv 1) (zb (mv 2) ze))) (zb (mcall zVb zRb hr (zb (mv 1) (zb (mv 2) ze))) ze)))) (zac ⟨_,rfl,rfl⟩ (zac ⟨_,rfl,rfl⟩ zod))) ze)) (hN:=sc__law_rule.nd)) (zn (zL (zee (zb (mv 2) (zb (mv 4) ze)))))))))
abbrev zGc:Stmt:=zHe (top 34) 3
abbrev zmb:List Str:=["self","key"]
def zkn:FnScope ztj zmb (zp zGc):=by walk_at "s"
def zTl(T:Txt K mg){C:Addr}{f:Addr}{fd:yg}(B:MethAt K "Shelf" "has" "Shelf.has" zGc zmb C f fd):FnOk P w K mg base CX0 1 f fd zmb (spM K 2 zYb):=by
 refine fnM B.fn zkn rfl (fun cdv A outer s H E hr=>⟨zvf,?_,fun _ _ _ _ _ e=>e⟩);have hu:=hr.units;exact(zn (zL (zre zZo (mv 1) (zAg T.fl_Shelf_nest_of (mv 0)))))
abbrev zAm:Stmt:=top 10
abbrev zdg:List Str:=["laying","nest"]
def zDu:FnScope zTs zdg (zp zAm):=by walk_at "s"
def z4q(T:Txt K mg){f:Addr}{fd:yg}(B:FnAt K mg "lying" zAm zdg f fd):FnOk P w K mg base CX0 1 f fd zdg (spM K 2 zxm):=by
 refine fnM B.fn zDu rfl (fun cdv A outer s H E hr=>⟨zCm,?_,fun _ _ _ _ _ e=>e⟩);have hu:=hr.units;exact(zn (zL (mlc ["key","place"] [1] (zVg T.n_enumerate zhc (mv 0)) (fun _ _ _ _ _=>(zeo (zPe (zqb 0 (hN:=znb (by rfl))) (zPe (zqb 1 (hN:=znb (by rfl))) zqm)))) (fun _ _ _ _ _=>(zTo (zX (z5c hu) (mv 1) (mv 2)))) (fun _ _ _ _ _=>(mv 0)) (zac ⟨_,rfl,rfl⟩ zod))))
abbrev zpf:Stmt:=top 15
abbrev zNc:List Str:=["web","laying","key"]
def sc_pushes_to:FnScope zXj zNc (zp zpf):=by walk_at "s"
def zkm(T:Txt K mg){zfr:Addr}{zyp:yg}(zIm:FnAt K mg "lying" zAm zdg zfr zyp)(zBm:FnOk P w K mg base CX0 1 zfr zyp zdg (spM K 2 zxm)){f:Addr}{fd:yg}(B:FnAt K mg "pushes_to" zpf zNc f fd):FnOk P w K mg base CX0 2 f fd zNc (spM K 3 zof):=by
 refine fnM B.fn sc_pushes_to rfl (fun cdv A outer s H E hr=>⟨zrf,?_,fun _ _ _ _ _ e=>e⟩);have hu:=hr.units;exact(zj (zP 3 z7u (hN:=sc_pushes_to.nd)) (zj (zve (zWc (zN (zN (mv 0) zo) (mv 2))) (z8b 4 (hN:=sc_pushes_to.nd)) (zn (zMj (zee (zb (mv 2) (zb zXc ze))) (zSo (mv 3) (mv 4))))) (zj (zP 5 (zye (zfo rfl) T.n_list zMg (zb (mv 3) ze)) (hN:=sc_pushes_to.nd)) (zj (zP 6 zo (hN:=sc_pushes_to.nd)) (zj (zVl 100000 (zX zzi (mv 6) (z9 ztb T.n_len zwd (zb (mv 5) ze))) (zj (zve (zWc (mcall zIm zBm hr (zb (mv 1) (zb (zN (mv 5) (mv 6)) ze)))) (z8b 7 (hN:=sc_pushes_to.nd)) (zn (zve (zWc (zN (zN (mv 0) zo) (mv 7))) (z8b 4 (hN:=sc_pushes_to.nd)) (zn (zuc (zX z0q (mv 4) (mv 3)) (zj (zMj (zee (zb (mv 7) (zb (zN (mv 5) (mv 6)) ze))) (zSo (mv 3) (mv 4))) (zn (zSg (zGh (mv 5) (zb (mv 4) ze))))) z8))))) (zn (zPx 6 ztw zo (hN:=sc_pushes_to.nd))))) (zn (zL (mv 3))))))))
abbrev zfj:Stmt:=top 16
abbrev z4e:List Str:=["pushes","nest"]
def sc_row_to:FnScope zgp z4e (zp zfj):=by walk_at "s"
def zLq(T:Txt K mg){f:Addr}{fd:yg}(B:FnAt K mg "row_to" zfj z4e f fd):FnOk P w K mg base CX0 1 f fd z4e (spM K 2 z2i):=by
 refine fnM B.fn sc_row_to rfl (fun cdv A outer s H E hr=>⟨zlj,?_,fun _ _ _ _ _ e=>e⟩);have hu:=hr.units;exact(zj (zP 2 (zae ze) (hN:=sc_row_to.nd)) (zj (zVl 100000 (zX zrd (mv 1) zXc) (zj (zSg (zGh (mv 2) (zb (zee (zb (zN (zfs (mv 0) (mv 1)) zo) (zb (mv 1) ze))) ze))) (zn (zP 1 (zN (zfs (mv 0) (mv 1)) zo) (hN:=sc_row_to.nd))))) (zn (zL (zXv T.n_list zMg T.n_reversed zKo (mv 2))))))
abbrev z6g:Stmt:=top 17
abbrev zqd:List Str:=["web","laying","key"]
def sc_put_in:FnScope z0o zqd (zp z6g):=by walk_at "s"
def z7p(T:Txt K mg){zAk:Addr}{zAi:yg}(znf:FnAt K mg "pushes_to" zpf zNc zAk zAi)(zUf:FnOk P w K mg base CX0 2 zAk zAi zNc (spM K 3 zof)){zZf:Addr}{zXd:yg}(B_left:FnAt K mg "left" z0j zud zZf zXd)(ztd:FnOk P w K mg base CX0 1 zZf zXd zud (spM K 2 z3f)){zbp:Addr}{zFn:yg}(zmj:FnAt K mg "row_to" zfj z4e zbp zFn)(znk:FnOk P w K mg base CX0 1 zbp zFn z4e (spM K 2 z2i)){f:Addr}{fd:yg}(B:FnAt K mg "put_in" z6g zqd f fd):FnOk P w K mg base CX0 3 f fd zqd (spM K 3 zkf):=by
 refine fnM B.fn sc_put_in rfl (fun cdv A outer s H E hr=>⟨z1i,?_,fun _ _ _ _ _ e=>e⟩);have hu:=hr.units;exact(zj (zP 3 (mcall znf zUf hr (zb (mv 0) (zb (mv 1) (zb (mv 2) ze)))) (hN:=sc_put_in.nd)) (zj (zP 4 (mcallA (B_left.al T.al_left_layings) B_left ztd hr (zb (mv 0) (zb (mv 1) ze))) (hN:=sc_put_in.nd)) (zj (zve (zEw (mv 3)) (z8b 5 (hN:=sc_put_in.nd)) (zn (zuc (zX zns (zN (mv 4) (mv 5)) zo) (zn (zL (zee (zb zRe (zb (mcall zmj znk hr (zb (mv 3) (zb (mv 5) ze))) ze))))) z8))) (zn (zL (zee (zb zRe (zb (mlc ["other","nest"] [2,3] (zVg T.n_enumerate zhc (mv 1)) (fun _ _ _ _ _=>(zeo (zPe (zqb 0 (hN:=znb (by rfl))) (zPe (zqb 1 (hN:=znb (by rfl))) zqm)))) (fun _ _ _ _ _=>(zTo (MW.mt (zin (zX (z5c hu) (mv 0) (mv 2)) (zVj (zX zZo (mv 1) (mv 3))))))) (fun _ _ _ _ _=>(mv 0)) (zac ⟨_,rfl,rfl⟩ (zac ⟨_,rfl,rfl⟩ zod))) ze))))))))
abbrev zZd:Stmt:=zHe (top 34) 1
abbrev zcc:List Str:=["self","key"]
def sc_Shelf_put:FnScope zWj zcc (zp zZd):=by walk_at "s"
def z1l(T:Txt K mg){C_Shelf_has:Addr}{zfc:Addr}{zQb:yg}(zIb:MethAt K "Shelf" "has" "Shelf.has" zGc zmb C_Shelf_has zfc zQb)(zAb:FnOk P w K mg base CX0 1 zfc zQb zmb (spM K 2 zYb)){zPh:Addr}{zOf:yg}(ztf:FnAt K mg "put_in" z6g zqd zPh zOf)(z6e:FnOk P w K mg base CX0 3 zPh zOf zqd (spM K 3 zkf)){C_Shelf_all_there:Addr}{zG:Addr}{zE:yg}(zB:MethAt K "Shelf" "all_there" "Shelf.all_there" zT zz C_Shelf_all_there zG zE)(zA:FnOk P w K mg base CX0 1 zG zE zz (spM K 1 zK)){zob:Addr}{zY:yg}(zcb:FnAt K mg "web_of" zhd zdb zob zY)(zV:FnOk P w K mg base CX0 2 zob zY zdb (spM K 2 zvb)){C_Shelf_laying:Addr}{zxc:Addr}{zgc:yg}(zHb:MethAt K "Shelf" "laying" "Shelf.laying" z4b z7 C_Shelf_laying zxc zgc)(zNb:FnOk P w K mg base CX0 2 zxc zgc z7 (spM K 1 zJb)){zih zEo zyk:Addr}{fd_init_Full:yg}(B_init_Full:IniAt K mg "Full" "some" "Full.__init__" zIc zyb zih zEo zyk fd_init_Full)(ok_init_Full:FnOk P w K mg base CX0 1 zyk fd_init_Full zyb (spL zih "some")){C:Addr}{f:Addr}{fd:yg}(B:MethAt K "Shelf" "put" "Shelf.put" zZd zcc C f fd):FnOk P w K mg base (CXq P w) 4 f fd zcc (spX K 2 zVd):=by
 obtain⟨zVv,n_Twice,m_Twice,k_Twice⟩:=T.x_Twice;refine fnX B.fn sc_Shelf_put rfl (fun cdv A outer s H E hr=>⟨z9e,?_,fun _ _ _ _ e=>e⟩);have hu:=hr.units;exact(zj (zuc (z4f (mmeth zIb zAb hr (mv 0) (zb (mv 1) ze))) (zn (zep n_Twice (T.e_Twice zVv n_Twice) xv (zb zRe ze))) z8) (zj (zP 2 (z5 zFc (mmeth0 zB zA hr (mv 0)) (zae (zb (mv 1) ze))) (hN:=sc_Shelf_put.nd)) (zj (zuc (zX zns (z9 ztb T.n_len zwd (zb (mv 2) ze)) (z5s T.c_MOST_KEYS)) (zn (zvj B_init_Full.nm B_init_Full.ex ok_init_Full B_init_Full.bd hr (zb (z9 (z0d rfl) T.n_sorted zUc (zb (mv 2) ze)) ze))) z8) (zj (zP 3 (mcall ztf z6e hr (zb (mcall zcb zV hr (zb (zAg T.fl_Shelf_kept_rule (mv 0)) (zb (mv 2) ze))) (zb (z5 zFc (mmeth0 zHb zNb hr (mv 0)) (zae (zb zXc ze))) (zb (z5 z9n (z9 ztb T.n_len zwd (zb (mv 2) ze)) zo) ze)))) (hN:=sc_Shelf_put.nd)) (zj (zuc (zX (z5c hu) (zN (mv 3) zo) zRe) (zn (zvj B_init_Full.nm B_init_Full.ex ok_init_Full B_init_Full.bd hr (zb (z9 (z0d rfl) T.n_sorted zUc (zb (mlc ["place"] [2] (zWc (zN (mv 3) zo)) (fun _ _ _ _ _=>(zqb 0 (hN:=znb (by rfl)))) (fun _ _ _ _ _=>zTe) (fun _ _ _ _ _=>(zN (mv 1) (mv 0))) (zac ⟨_,rfl,rfl⟩ zod)) ze)) ze))) z8) (zj (mslc 4 ["push"] [2] (zWc (zN (mv 3) zo)) (fun _ _ _ _ _=>(zqb 0 (hN:=znb (by rfl)))) (fun _ _ _ _ _=>zTe) (fun _ _ _ _ _=>(zee (zb (zN (mv 1) (zN (mv 0) zo)) (zb (zN (mv 0) zo) ze)))) (zac ⟨_,rfl,rfl⟩ zod) sc_Shelf_put.nd) (zj (zve (zWc (mv 4)) (z8b 5 (hN:=sc_Shelf_put.nd)) (zn (zMj (zN (mv 5) zo) (zSo (zAg T.fl_Shelf_nest_of (mv 0)) (zN (mv 5) zo))))) (zn (zL (mv 4))))))))))
abbrev zwh:Stmt:=top 27
abbrev zOd:List Str:=["web","nests"]
def z1p:FnScope z6m zOd (zp zwh):=by walk_at "s"
def zLo(T:Txt K mg){f:Addr}{fd:yg}(B:FnAt K mg "room_of" zwh zOd f fd):FnOk P w K mg base CX0 1 f fd zOd (spM K 2 zoh):=by
 refine fnM B.fn z1p rfl (fun cdv A outer s H E hr=>⟨zXh,?_,fun _ _ _ _ _ e=>e⟩);have hu:=hr.units;exact(zn (zL (z9 (zts rfl) T.n_sum zCx (zb (mlc ["nest"] [0] (zWc (mv 1)) (fun _ _ _ _ _=>(zqb 0 (hN:=znb (by rfl)))) (fun _ _ _ _ _=>zTe) (fun _ _ _ _ _=>(zN (zN (mv 1) zo) (mv 0))) (zac ⟨_,rfl,rfl⟩ zod)) ze))))
abbrev zkg:Stmt:=top 26
abbrev z9c:List Str:=["web","some"]
def sc_homes_of:FnScope zil z9c (zp zkg):=by walk_at "s"
def z4m(T:Txt K mg){f:Addr}{fd:yg}(B:FnAt K mg "homes_of" zkg z9c f fd):FnOk P w K mg base CX0 1 f fd z9c (spM K 2 zgg):=by
 refine fnM B.fn sc_homes_of rfl (fun cdv A outer s H E hr=>⟨zag,?_,fun _ _ _ _ _ e=>e⟩);have hu:=hr.units;exact(zj (zP 2 (zae ze) (hN:=sc_homes_of.nd)) (zj (zve (zWc (mv 1)) (z8b 3 (hN:=sc_homes_of.nd)) (zn (zSg (zZm (mv 2) (zb (zN (zN (mv 0) zo) (mv 3)) ze))))) (zn (zL (zso T.n_sorted zUc T.n_set zMs (mv 2))))))
abbrev z3e:Stmt:=top 29
abbrev zic:List Str:=["web","some"]
def z5n:FnScope zdl zic (zp z3e):=by walk_at "s"
def zMn(T:Txt K mg){zOm:Addr}{zOl:yg}(zsh:FnAt K mg "room_of" zwh zOd zOm zOl)(zhi:FnOk P w K mg base CX0 1 zOm zOl zOd (spM K 2 zoh)){zal:Addr}{zFj:yg}(zfg:FnAt K mg "homes_of" zkg z9c zal zFj)(zPg:FnOk P w K mg base CX0 1 zal zFj z9c (spM K 2 zgg)){f:Addr}{fd:yg}(B:FnAt K mg "is_crowd" z3e zic f fd):FnOk P w K mg base CX0 2 f fd zic (spM K 2 z7c):=by
 refine fnM B.fn z5n rfl (fun cdv A outer s H E hr=>⟨z9f,?_,fun _ _ _ _ _ e=>e⟩);have hu:=hr.units;exact(zn (zL (zre zzi (mcall zsh zhi hr (zb (mv 0) (zb (mcall zfg zPg hr (zb (mv 0) (zb (mv 1) ze))) ze))) (z9 ztb T.n_len zwd (zb (mv 1) ze)))))
abbrev zMb:Stmt:=top 44
abbrev zU:List Str:=["_law_rule_here","_law_keys","_law_some","_law_key"]
def zDh:FnScope zQe zU (zp zMb):=by walk_at "s"
def zXg(T:Txt K mg){z1e:Addr}{zUd:yg}(zbd:FnAt K mg "is_crowd" z3e zic z1e zUd)(zed:FnOk P w K mg base CX0 2 z1e zUd zic (spM K 2 z7c)){zob:Addr}{zY:yg}(zcb:FnAt K mg "web_of" zhd zdb zob zY)(zV:FnOk P w K mg base CX0 2 zob zY zdb (spM K 2 zvb)){f:Addr}{fd:yg}(B:FnAt K mg "_law_full_right" zMb zU f fd):FnOk P w K mg base CX0 3 f fd zU (spM K 4 zzb):=by
 refine fnM B.fn zDh rfl (fun cdv A outer s H E hr=>⟨zpc,?_,fun _ _ _ _ _ e=>e⟩);have hu:=hr.units;exact(zj (zuc (MW.mt (zin (zX (z1k hu) (mv 2) (zso T.n_sorted zUc T.n_set zMs (mv 2))) (zVj (zX (z1k hu) (mlc ["_law_one"] [1] (zWc (mv 2)) (fun _ _ _ _ _=>(zqb 0 (hN:=znb (by rfl)))) (fun _ _ _ _ _=>(zTo (zX zYe (mv 0) (mv 1)))) (fun _ _ _ _ _=>(mv 0)) (zac ⟨_,rfl,rfl⟩ zod)) (zae ze))))) (zn (zL z0k)) z8) (zj (zuc (MW.mt (zJl (zX zrd (mv 3) zXc) (zck (zX zYe (mv 3) (mv 2))))) (zn (zL z0k)) z8) (zn (zL (mcall zbd zed hr (zb (mcall zcb zV hr (zb (mv 0) (zb (mv 2) ze))) (zb (zPn T.n_list zMg T.n_range (z9 ztb T.n_len zwd (zb (mv 2) ze))) ze)))))))
abbrev z8g:Stmt:=top 12
abbrev zSd:List Str:=["web","laying","row","at"]
def sc_is_push:FnScope zIn zSd (zp z8g):=by walk_at "s"
def zDo(T:Txt K mg){f:Addr}{fd:yg}(B:FnAt K mg "is_push" z8g zSd f fd):FnOk P w K mg base CX0 1 f fd zSd (spM K 4 zBh):=by
 refine fnM B.fn sc_is_push rfl (fun cdv A outer s H E hr=>⟨zYg,?_,fun _ _ _ _ _ e=>e⟩);have hu:=hr.units;exact(zj (zP 4 (zN (zN (mv 2) (mv 3)) zo) (hN:=sc_is_push.nd)) (zj (zuc (MW.mt (zin (zX zzi (mv 4) zo) (zVj (zX zsy (mv 4) (z9 ztb T.n_len zwd (zb (mv 1) ze)))))) (zn (zL z0k)) z8) (zj (zuc (MW.mt (zin (zX zYe (zN (zN (mv 2) (mv 3)) zo) (zN (zN (mv 0) zo) (mv 4))) (zVj (zX (z5c hu) (zN (zN (mv 2) (mv 3)) zo) (zN (mv 1) (mv 4)))))) (zn (zL z0k)) z8) (zn (zL (zre zYe (mv 4) (mlc ["push"] [] (zWc (zVy (mv 2) zbz (z8x (mv 3)))) (fun _ _ _ _ _=>(zqb 0 (hN:=znb (by rfl)))) (fun _ _ _ _ _=>zTe) (fun _ _ _ _ _=>(zN (mv 0) zo)) zod)))))))
abbrev zkh:Stmt:=top 13
abbrev zRd:List Str:=["laying","key","row","at"]
def zCq:FnScope z9m zRd (zp zkh):=by walk_at "s"
def zPo(T:Txt K mg){f:Addr}{fd:yg}(B:FnAt K mg "follows" zkh zRd f fd):FnOk P w K mg base CX0 1 f fd zRd (spM K 4 zjh):=by
 refine fnM B.fn zCq rfl (fun cdv A outer s H E hr=>⟨zFh,?_,fun _ _ _ _ _ e=>e⟩);have hu:=hr.units;exact(zj (zuc (zX (z5c hu) (mv 3) zo) (zn (zL (zre (z5c hu) (zN (zN (mv 2) zo) zo) (mv 1)))) z8) (zn (zL (zre (z5c hu) (zN (mv 0) (zN (zN (mv 2) (mv 3)) zo)) (zN (zN (mv 2) (z5 z9n (mv 3) zo)) zo)))))
abbrev zcj:Stmt:=top 14
abbrev zSe:List Str:=["web","laying","key","row"]
def sc_pushed:FnScope zXo zSe (zp zcj):=by walk_at "s"
def zSq(T:Txt K mg){zDj:Addr}{zZg:yg}(zNg:FnAt K mg "fault" zmk zie zDj zZg)(zsg:FnOk P w K mg base CX0 2 zDj zZg zie (spM K 2 zji)){zZn:Addr}{zIl:yg}(znh:FnAt K mg "is_push" z8g zSd zZn zIl)(zii:FnOk P w K mg base CX0 1 zZn zIl zSd (spM K 4 zBh)){zyn:Addr}{z3k:yg}(z9g:FnAt K mg "follows" zkh zRd zyn z3k)(zpi:FnOk P w K mg base CX0 1 zyn z3k zRd (spM K 4 zjh)){f:Addr}{fd:yg}(B:FnAt K mg "pushed" zcj zSe f fd):FnOk P w K mg base CX0 3 f fd zSe (spM K 4 zoj):=by
 refine fnM B.fn sc_pushed rfl (fun cdv A outer s H E hr=>⟨zij,?_,fun _ _ _ _ _ e=>e⟩);have hu:=hr.units;exact(zj (zP 4 (zye zul T.n_list zMg (zb (mv 1) ze)) (hN:=sc_pushed.nd)) (zj (zve (zVg T.n_enumerate zhc (mv 3)) (zHp (zle (z8b 5 (hN:=sc_pushed.nd)) (zle (z8b 6 (hN:=sc_pushed.nd)) zam))) (zj (zuc (zWn (MW.mt (zJl (z4f (mcall znh zii hr (zb (mv 0) (zb (mv 1) (zb (mv 3) (zb (mv 5) ze)))))) (zck (z4f (mcall z9g zpi hr (zb (mv 1) (zb (mv 2) (zb (mv 3) (zb (mv 5) ze)))))))))) (zn zNp) z8) (zn (zMj (zN (mv 6) zo) (zgw (mv 4) (zN (mv 6) zo)))))) (zj (zuc (MW.mt (zin (zX (z5c hu) (z9 ztb T.n_len zwd (zb (mv 3) ze)) zo) (zVj (zX zrd (mcall zNg zsg hr (zb (mv 0) (zb (mv 4) ze))) zXc)))) (zn zNp) z8) (zn (zL (mv 4))))))
abbrev zzf:Stmt:=top 18
abbrev zQc:List Str:=["web","laying","keys"]
def sc_laid_more:FnScope zwj zQc (zp zzf):=by walk_at "s"
def zlm(T:Txt K mg){zPh:Addr}{zOf:yg}(ztf:FnAt K mg "put_in" z6g zqd zPh zOf)(z6e:FnOk P w K mg base CX0 3 zPh zOf zqd (spM K 3 zkf)){zdp:Addr}{zVm:yg}(z5i:FnAt K mg "pushed" zcj zSe zdp zVm)(zok:FnOk P w K mg base CX0 3 zdp zVm zSe (spM K 4 zoj)){f:Addr}{fd:yg}(B:FnAt K mg "laid_more" zzf zQc f fd):FnOk P w K mg base CX0 4 f fd zQc (spM K 3 zff):=by
 refine fnM B.fn sc_laid_more rfl (fun cdv A outer s H E hr=>⟨zdf,?_,fun _ _ _ _ _ e=>e⟩);have hu:=hr.units;exact(zj (zP 3 (zae ze) (hN:=sc_laid_more.nd)) (zj (zve (zWc (mv 2)) (z8b 4 (hN:=sc_laid_more.nd)) (zj (zP 5 (mcall ztf z6e hr (zb (mv 0) (zb (mv 1) (zb (mv 4) ze)))) (hN:=sc_laid_more.nd)) (zn (zuc (zX (z5c hu) (zN (mv 5) zo) zRe) (zn (zP 1 (mcall z5i zok hr (zb (mv 0) (zb (mv 1) (zb (mv 4) (zb (zN (mv 5) zo) ze))))) (hN:=sc_laid_more.nd))) (zn (zSg (zZm (mv 3) (zb (zN (mv 5) zo) ze)))))))) (zn (zL (zee (zb (mv 1) (zb (zso T.n_sorted zUc T.n_set zMs (mv 3)) ze)))))))
abbrev zId:Stmt:=top 19
abbrev z3b:List Str:=["web"]
def zZk:FnScope zAh z3b (zp zId):=by walk_at "s"
def zCj(T:Txt K mg){zpk:Addr}{zyi:yg}(zjf:FnAt K mg "laid_more" zzf zQc zpk zyi)(z5f:FnOk P w K mg base CX0 4 zpk zyi zQc (spM K 3 zff)){f:Addr}{fd:yg}(B:FnAt K mg "laid_at_all" zId z3b f fd):FnOk P w K mg base CX0 5 f fd z3b (spM K 1 zNd):=by
 refine fnM B.fn zZk rfl (fun cdv A outer s H E hr=>⟨zKd,?_,fun _ _ _ _ _ e=>e⟩);have hu:=hr.units;exact(zn (zL (mcall zjf z5f hr (zb (mv 0) (zb (z5 zdd (zae (zb zXc ze)) (z9 ztb T.n_len zwd (zb (zN (mv 0) zo) ze))) (zb (zPn T.n_list zMg T.n_range (z9 ztb T.n_len zwd (zb (zN (mv 0) zo) ze))) ze))))))
abbrev zmf:Stmt:=top 30
abbrev zOc:List Str:=["web","some"]
def sc_spare_key:FnScope z5j zOc (zp zmf):=by walk_at "s"
def zHm(T:Txt K mg){z1e:Addr}{zUd:yg}(zbd:FnAt K mg "is_crowd" z3e zic z1e zUd)(zed:FnOk P w K mg base CX0 2 z1e zUd zic (spM K 2 z7c)){f:Addr}{fd:yg}(B:FnAt K mg "spare_key" zmf zOc f fd):FnOk P w K mg base CX0 3 f fd zOc (spM K 2 z2d):=by
 refine fnM B.fn sc_spare_key rfl (fun cdv A outer s H E hr=>⟨zAf,?_,fun _ _ _ _ _ e=>e⟩);have hu:=hr.units;exact(zj (zve (zWc (mv 1)) (z8b 2 (hN:=sc_spare_key.nd)) (zn (zuc (z4f (mcall zbd zed hr (zb (mv 0) (zb (mlc ["other"] [2] (zWc (mv 1)) (fun _ _ _ _ _=>(zqb 0 (hN:=znb (by rfl)))) (fun _ _ _ _ _=>(zTo (zX (z1k hu) (mv 0) (mv 1)))) (fun _ _ _ _ _=>(mv 0)) (zac ⟨_,rfl,rfl⟩ zod)) ze)))) (zn (zL (mv 2))) z8))) (zn (zL zXc)))
abbrev z1h:Stmt:=top 31
abbrev zPd:List Str:=["web","some"]
def sc_trimmed:FnScope zgn zPd (zp z1h):=by walk_at "s"
def zAo(T:Txt K mg){z7j:Addr}{zLi:yg}(z9d:FnAt K mg "spare_key" zmf zOc z7j zLi)(zne:FnOk P w K mg base CX0 3 z7j zLi zOc (spM K 2 z2d)){f:Addr}{fd:yg}(B:FnAt K mg "trimmed" z1h zPd f fd):FnOk P w K mg base CX0 4 f fd zPd (spM K 2 zYh):=by
 refine fnM B.fn sc_trimmed rfl (fun cdv A outer s H E hr=>⟨zeh,?_,fun _ _ _ _ _ e=>e⟩);have hu:=hr.units;exact(zj (zP 2 (zye zul T.n_list zMg (zb (mv 1) ze)) (hN:=sc_trimmed.nd)) (zj (zP 3 (mcall z9d zne hr (zb (mv 0) (zb (mv 2) ze))) (hN:=sc_trimmed.nd)) (zj (zVl 100000 (zX zrd (mv 3) zXc) (zj (zSg (z7q (mv 2) (zb (mv 3) ze))) (zn (zP 3 (mcall z9d zne hr (zb (mv 0) (zb (mv 2) ze))) (hN:=sc_trimmed.nd))))) (zn (zL (mv 2))))))
abbrev zrg:Stmt:=top 32
abbrev zyc:List Str:=["web"]
def sc_fitted:FnScope zWo zyc (zp zrg):=by walk_at "s"
def zWq(T:Txt K mg){zNh:Addr}{zyg:yg}(zHd:FnAt K mg "laid_at_all" zId z3b zNh zyg)(zIe:FnOk P w K mg base CX0 5 zNh zyg z3b (spM K 1 zNd)){zEn:Addr}{zcl:yg}(zbh:FnAt K mg "trimmed" z1h zPd zEn zcl)(zmi:FnOk P w K mg base CX0 4 zEn zcl zPd (spM K 2 zYh)){f:Addr}{fd:yg}(B:FnAt K mg "fitted" zrg zyc f fd):FnOk P w K mg base CX0 6 f fd zyc (spM K 1 zBd):=by
 refine fnM B.fn sc_fitted rfl (fun cdv A outer s H E hr=>⟨zgj,?_,fun _ _ _ _ _ e=>e⟩);have hu:=hr.units;exact(zj (zP 1 (mcall zHd zIe hr (zb (mv 0) ze)) (hN:=sc_fitted.nd)) (zj (zuc (zX (z5c hu) (zN (mv 1) zo) (zae ze)) (zn (zL (zee (zb zRe (zb (zN (mv 1) zo) ze))))) z8) (zn (zL (zee (zb zRe (zb (mcall zbh zmi hr (zb (mv 0) (zb (zN (mv 1) zo) ze))) ze)))))))
abbrev zcg:Stmt:=top 45
abbrev zad:List Str:=["_law_shelf","_law_there","_law_key"]
def sc__law_put:FnScope zbl zad (zp zcg):=by walk_at "s"
def zun(T:Txt K mg){C_Shelf_put:Addr}{zdk:Addr}{zBi:yg}(zgf:MethAt K "Shelf" "put" "Shelf.put" zZd zcc C_Shelf_put zdk zBi)(zPf:FnOk P w K mg base (CXq P w) 4 zdk zBi zcc (spX K 2 zVd)){zLb:Addr}{zDb:yg}(zfb:FnAt K mg "_law_full_right" zMb zU zLb zDb)(zpb:FnOk P w K mg base CX0 3 zLb zDb zU (spM K 4 zzb)){zxe:Addr}{zpd:yg}(zmd:FnAt K mg "fitted" zrg zyc zxe zpd)(zTc:FnOk P w K mg base CX0 6 zxe zpd zyc (spM K 1 zBd)){C_Shelf_rule:Addr}{zOb:Addr}{zBb:yg}(zZ:MethAt K "Shelf" "rule" "Shelf.rule" zec zab C_Shelf_rule zOb zBb)(zW:FnOk P w K mg base CX0 1 zOb zBb zab (spM K 1 zlb)){zob:Addr}{zY:yg}(zcb:FnAt K mg "web_of" zhd zdb zob zY)(zV:FnOk P w K mg base CX0 2 zob zY zdb (spM K 2 zvb)){f:Addr}{fd:yg}(B:FnAt K mg "_law_put" zcg zad f fd):FnOk P w K mg base CX0 7 f fd zad (spM K 3 zUe):=by
 obtain⟨zih,n_Full,m_Full,k_Full⟩:=T.x_Full;refine fnM B.fn sc__law_put rfl (fun cdv A outer s H E hr=>⟨zqg,?_,fun _ _ _ _ _ e=>e⟩);have hu:=hr.units;exact(zj (zP 3 (z9 (z0d rfl) T.n_sorted zUc (zb (z5 zFc (mv 1) (zae (zb (mv 2) ze))) ze)) (hN:=sc__law_put.nd)) (zj (zP 4 (zre (z5c hu) (zN (mcall zmd zTc hr (zb (mcall zcb zV hr (zb (mmeth0 zZ zW hr (mv 0)) (zb (mv 3) ze))) ze)) zo) zRe) (hN:=sc__law_put.nd)) (zj (zP 5 zXc (hN:=sc__law_put.nd)) (zj (z6u (zOu (zTp zgf zPf hr (mv 0) (zb (mv 2) ze))) (zVx 6 [("Twice",false),("Full",true),("NoKey",false)] n_Full k_Full (T.s_Full zih n_Full) (fun _=>(zn (zP 5 (zKx T.a_Full (mv 6)) (hN:=sc__law_put.nd)))) zmr (hN:=sc__law_put.nd))) (zj (zuc (z4f (mv 4)) (zj (zSg (zGh (mv 1) (zb (mv 2) ze))) (zn (zL (zre zVu (mv 5) zXc)))) z8) (zn (zL (z5o (zre zrd (mv 5) zXc) (zFr (mcall zfb zpb hr (zb (mmeth0 zZ zW hr (mv 0)) (zb (mv 3) (zb (mv 5) (zb (mv 2) ze))))))))))))))
abbrev zbg:Stmt:=top 39
abbrev z8c:List Str:=["_law_script","_law_k"]
def sc__law_pen:FnScope zNl z8c (zp zbg):=by walk_at "s"
def zOn(T:Txt K mg){zzc:Addr}{zdc:yg}(zhb:FnAt K mg "_law_cell_at" zvc zjb zzc zdc)(zkb:FnOk P w K mg base CX0 2 zzc zdc zjb (spM K 2 z6)){f:Addr}{fd:yg}(B:FnAt K mg "_law_pen" zbg z8c f fd):FnOk P w K mg base CX0 3 f fd z8c (spM K 2 zig):=by
 refine fnM B.fn sc__law_pen rfl (fun cdv A outer s H E hr=>⟨zri,?_,fun _ _ _ _ _ e=>e⟩);have hu:=hr.units;exact(zj (zP 2 (mcall zhb zkb hr (zb (mv 0) (zb (mv 1) ze))) (hN:=sc__law_pen.nd)) (zn (zL (zae (zb (z5 zGb (mv 2) zo) (zb (z5 z1f (mv 2) zo) (zb (z9 ztb T.n_len zwd (zb (mv 0) ze)) (zb (z5 zdd zo (mv 1)) ze))))))))
abbrev z1c:Stmt:=zHe (top 34) 9
abbrev zFb:List Str:=["self","rule"]
def sc_Shelf_renew:FnScope z4g zFb (zp z1c):=by walk_at "s"
def zuk(T:Txt K mg){C_Shelf_all_there:Addr}{zG:Addr}{zE:yg}(zB:MethAt K "Shelf" "all_there" "Shelf.all_there" zT zz C_Shelf_all_there zG zE)(zA:FnOk P w K mg base CX0 1 zG zE zz (spM K 1 zK)){zxe:Addr}{zpd:yg}(zmd:FnAt K mg "fitted" zrg zyc zxe zpd)(zTc:FnOk P w K mg base CX0 6 zxe zpd zyc (spM K 1 zBd)){zob:Addr}{zY:yg}(zcb:FnAt K mg "web_of" zhd zdb zob zY)(zV:FnOk P w K mg base CX0 2 zob zY zdb (spM K 2 zvb)){zih zEo zyk:Addr}{fd_init_Full:yg}(B_init_Full:IniAt K mg "Full" "some" "Full.__init__" zIc zyb zih zEo zyk fd_init_Full)(ok_init_Full:FnOk P w K mg base CX0 1 zyk fd_init_Full zyb (spL zih "some")){C:Addr}{f:Addr}{fd:yg}(B:MethAt K "Shelf" "renew" "Shelf.renew" z1c zFb C f fd):FnOk P w K mg base (CXq P w) 7 f fd zFb (spX K 2 zLd):=by
 refine fnX B.fn sc_Shelf_renew rfl (fun cdv A outer s H E hr=>⟨zDd,?_,fun _ _ _ _ e=>e⟩);have hu:=hr.units;exact(zj (zP 2 (mmeth0 zB zA hr (mv 0)) (hN:=sc_Shelf_renew.nd)) (zj (zP 3 (mcall zmd zTc hr (zb (mcall zcb zV hr (zb (mv 1) (zb (mv 2) ze))) ze)) (hN:=sc_Shelf_renew.nd)) (zj (zuc (zX (z5c hu) (zN (mv 3) zo) zRe) (zn (zvj B_init_Full.nm B_init_Full.ex ok_init_Full B_init_Full.bd hr (zb (mlc ["place"] [2] (zWc (zN (mv 3) zo)) (fun _ _ _ _ _=>(zqb 0 (hN:=znb (by rfl)))) (fun _ _ _ _ _=>zTe) (fun _ _ _ _ _=>(zN (mv 1) (mv 0))) (zac ⟨_,rfl,rfl⟩ zod)) ze))) z8) (zj (zgr T.fl_Shelf_kept_rule (mv 0) (mv 1)) (zn (zve (zVg T.n_enumerate zhc (mv 2)) (zHp (zle (z8b 4 (hN:=sc_Shelf_renew.nd)) (zle (z8b 5 (hN:=sc_Shelf_renew.nd)) zam))) (zn (zMj (zN (zN (mv 3) zo) (mv 4)) (zSo (zAg T.fl_Shelf_nest_of (mv 0)) (mv 5))))))))))
abbrev zld:Stmt:=top 46
abbrev zKb:List Str:=["_law_shelf","_law_there","_law_rule_here"]
def sc__law_renewed:FnScope zGg zKb (zp zld):=by walk_at "s"
def zVi(T:Txt K mg){C_Shelf_rule:Addr}{zOb:Addr}{zBb:yg}(zZ:MethAt K "Shelf" "rule" "Shelf.rule" zec zab C_Shelf_rule zOb zBb)(zW:FnOk P w K mg base CX0 1 zOb zBb zab (spM K 1 zlb)){C_Shelf_renew:Addr}{zyh:Addr}{zEg:yg}(zMd:MethAt K "Shelf" "renew" "Shelf.renew" z1c zFb C_Shelf_renew zyh zEg)(zGe:FnOk P w K mg base (CXq P w) 7 zyh zEg zFb (spX K 2 zLd)){zLb:Addr}{zDb:yg}(zfb:FnAt K mg "_law_full_right" zMb zU zLb zDb)(zpb:FnOk P w K mg base CX0 3 zLb zDb zU (spM K 4 zzb)){zxe:Addr}{zpd:yg}(zmd:FnAt K mg "fitted" zrg zyc zxe zpd)(zTc:FnOk P w K mg base CX0 6 zxe zpd zyc (spM K 1 zBd)){zob:Addr}{zY:yg}(zcb:FnAt K mg "web_of" zhd zdb zob zY)(zV:FnOk P w K mg base CX0 2 zob zY zdb (spM K 2 zvb)){f:Addr}{fd:yg}(B:FnAt K mg "_law_renewed" zld zKb f fd):FnOk P w K mg base CX0 8 f fd zKb (spM K 3 z7b):=by
 obtain⟨zih,n_Full,m_Full,k_Full⟩:=T.x_Full;refine fnM B.fn sc__law_renewed rfl (fun cdv A outer s H E hr=>⟨zjd,?_,fun _ _ _ _ _ e=>e⟩);have hu:=hr.units;exact(zj (zP 3 (zre (z5c hu) (zN (mcall zmd zTc hr (zb (mcall zcb zV hr (zb (mv 2) (zb (z9 (z0d rfl) T.n_sorted zUc (zb (mv 1) ze)) ze))) ze)) zo) zRe) (hN:=sc__law_renewed.nd)) (zj (zP 4 (mmeth0 zZ zW hr (mv 0)) (hN:=sc__law_renewed.nd)) (zj (zP 5 zXc (hN:=sc__law_renewed.nd)) (zj (z6u (zOu (zTp zMd zGe hr (mv 0) (zb (mv 2) ze))) (zVx 6 [("Twice",false),("Full",true),("NoKey",false)] n_Full k_Full (T.s_Full zih n_Full) (fun _=>(zn (zP 5 (zKx T.a_Full (mv 6)) (hN:=sc__law_renewed.nd)))) zmr (hN:=sc__law_renewed.nd))) (zj (zuc (z4f (mv 3)) (zn (zL (z5o (zre zVu (mv 5) zXc) (zFr (zre (z5c hu) (mmeth0 zZ zW hr (mv 0)) (mv 2)))))) z8) (zn (zL (z5o (zre zrd (mv 5) zXc) (z5o (zre (z5c hu) (mmeth0 zZ zW hr (mv 0)) (mv 4)) (zFr (mcall zfb zpb hr (zb (mv 2) (zb (mv 1) (zb (mv 5) (zb zXc ze)))))))))))))))
abbrev z7d:Stmt:=zHe (top 34) 2
abbrev zlc:List Str:=["self","key"]
def zRn:FnScope zFk zlc (zp z7d):=by walk_at "s"
def zKm(T:Txt K mg){C_Shelf_has:Addr}{zfc:Addr}{zQb:yg}(zIb:MethAt K "Shelf" "has" "Shelf.has" zGc zmb C_Shelf_has zfc zQb)(zAb:FnOk P w K mg base CX0 1 zfc zQb zmb (spM K 2 zYb)){C:Addr}{f:Addr}{fd:yg}(B:MethAt K "Shelf" "out" "Shelf.out" z7d zlc C f fd):FnOk P w K mg base (CXq P w) 2 f fd zlc (spX K 2 zWd):=by
 obtain⟨zev,n_NoKey,m_NoKey,k_NoKey⟩:=T.x_NoKey;refine fnX B.fn zRn rfl (fun cdv A outer s H E hr=>⟨zbf,?_,fun _ _ _ _ e=>e⟩);have hu:=hr.units;exact(zj (zuc (zWn (z4f (mmeth zIb zAb hr (mv 0) (zb (mv 1) ze)))) (zn (zep n_NoKey (T.e_NoKey zev n_NoKey) xv (zb zRe ze))) z8) (zn (zL (zLv (zAg T.fl_Shelf_nest_of (mv 0)) (zb (mv 1) ze)))))
abbrev z3n:Stmt:=top 47
abbrev zmp:List Str:=["_law_script"]
def sc_law:FnScope zQx zmp (zp z3n):=by walk_at "s"
def zYv(T:Txt K mg){C_Shelf___init__:Addr}{zJf:Addr}{zXe:yg}(zDc:MakeAt K mg "Shelf" z2b zeb C_Shelf___init__ zJf zXe)(z6c:FnOk P w K mg base CX0 1 zJf zXe zeb (spM K 2 zZb)){zzc:Addr}{zdc:yg}(zhb:FnAt K mg "_law_cell_at" zvc zjb zzc zdc)(zkb:FnOk P w K mg base CX0 2 zzc zdc zjb (spM K 2 z6)){zMi:Addr}{zLh:yg}(zwe:FnAt K mg "_law_small" zoe znc zMi zLh)(zyf:FnOk P w K mg base CX0 1 zMi zLh znc (spM K 2 zme)){z2g:Addr}{zzg:yg}(zzd:FnAt K mg "_law_stands" zAd z6b z2g zzg)(zKe:FnOk P w K mg base CX0 4 z2g zzg z6b (spM K 2 zCd)){zKj:Addr}{zPi:yg}(zxf:FnAt K mg "_law_rule" zEf zJc zKj zPi)(z2f:FnOk P w K mg base CX0 2 zKj zPi zJc (spM K 1 z7e)){zgl:Addr}{zbk:yg}(ztg:FnAt K mg "_law_put" zcg zad zgl zbk)(zRg:FnOk P w K mg base CX0 7 zgl zbk zad (spM K 3 zUe)){zMl:Addr}{zzk:yg}(zeg:FnAt K mg "_law_pen" zbg z8c zMl zzk)(zUg:FnOk P w K mg base CX0 3 zMl zzk z8c (spM K 2 zig)){C_Shelf_has:Addr}{zfc:Addr}{zQb:yg}(zIb:MethAt K "Shelf" "has" "Shelf.has" zGc zmb C_Shelf_has zfc zQb)(zAb:FnOk P w K mg base CX0 1 zfc zQb zmb (spM K 2 zYb)){zCg:Addr}{zTf:yg}(zfd:FnAt K mg "_law_renewed" zld zKb zCg zTf)(z5d:FnOk P w K mg base CX0 8 zCg zTf zKb (spM K 3 z7b)){C_Shelf_where:Addr}{zYc:Addr}{zwc:yg}(zWb:MethAt K "Shelf" "where" "Shelf.where" zoc zib C_Shelf_where zYc zwc)(z5b:FnOk P w K mg base CX0 1 zYc zwc zib (spM K 2 zUb)){C_Shelf_out:Addr}{zqj:Addr}{zTi:yg}(zwf:MethAt K "Shelf" "out" "Shelf.out" z7d zlc C_Shelf_out zqj zTi)(zXf:FnOk P w K mg base (CXq P w) 2 zqj zTi zlc (spX K 2 zWd)){f:Addr}{fd:yg}(B:FnAt K mg "law" z3n zmp f fd):FnOk P w K mg base CX0 9 f fd zmp (spM K 1 zaq):=by
 refine fnM B.fn sc_law rfl (fun cdv A outer s H E hr=>⟨zHu,?_,fun _ _ _ _ _ e=>e⟩);have hu:=hr.units;exact(zj (zP 1 (zae ze) (hN:=sc_law.nd)) (zj (zve (z7i T.n_range (zb zo ze)) (z8b 2 (hN:=sc_law.nd)) (zn (zSg (zGh (mv 1) (zb (mcall zwe zyf hr (zb (mcall zxf z2f hr (zb (mcall zeg zUg hr (zb (mv 0) (zb (mv 2) ze))) ze)) (zb (mcall zhb zkb hr (zb (mv 0) (zb zo ze))) ze))) ze))))) (zj (zP 3 (mmakeA zDc z6c hr (zb (zN (mv 1) zo) ze)) (hN:=sc_law.nd)) (zj (zP 4 (zae ze) (hN:=sc_law.nd)) (zj (zve (z7i T.n_range (zb (z5 zFc zo (z5 zGb (mcall zhb zkb hr (zb (mv 0) (zb zo ze))) zo)) ze)) (z8b 2 (hN:=sc_law.nd)) (zj (zP 5 (mcall zhb zkb hr (zb (mv 0) (zb (z5 zFc zo (mv 2)) ze))) (hN:=sc_law.nd)) (zj (zP 6 (z5 zGb (mv 5) zo) (hN:=sc_law.nd)) (zj (zP 7 (zN (zae (zb (z5 zGb (z5 z1f (mv 5) zo) zo) (zb (z5 zGb (z5 z1f (mv 5) zo) (z5 z3v zo zo)) ze))) (z5 zGb (z5 z1f (mv 5) zo) zo)) (hN:=sc_law.nd)) (zj (zuc (MW.mt (zJl (zX zzi (mv 6) zo) (zJl (zX zYe (mv 7) (mv 4)) (zck (zX zzi (z9 ztb T.n_len zwd (zb (mv 4) ze)) zo))))) (zn (zuc (zWn (z4f (mcall ztg zRg hr (zb (mv 3) (zb (mv 4) (zb (mv 7) ze)))))) (zn (zL z0k)) z8)) (zn (zuc (MW.mt (zJl (zX zzi (mv 6) zo) (zck (zX (z1k hu) (mv 4) (zae ze))))) (zj (zP 7 (zSt (mv 4) (zb (z5 zGb (z5 z1f (mv 5) zo) (z9 ztb T.n_len zwd (zb (mv 4) ze))) ze)) (hN:=sc_law.nd)) (zn (zuc (MW.mt (zin (zX (z1k hu) (mmeth zWb z5b hr (mv 3) (zb (mv 7) ze)) (mmethX zwf zXf hr (mv 3) (zb (mv 7) ze))) (zVj (z4f (mmeth zIb zAb hr (mv 3) (zb (mv 7) ze)))))) (zn (zL z0k)) z8))) (zn (zuc (zWn (z4f (mcall zfd z5d hr (zb (mv 3) (zb (mv 4) (zb (zN (mv 1) (z5 zGb (z5 z1f (mv 5) zo) zo)) ze)))))) (zn (zL z0k)) z8))))) (zn (zuc (zWn (z4f (mcall zzd zKe hr (zb (mv 3) (zb (mv 4) ze))))) (zn (zL z0k)) z8))))))) (zn (zL z0k)))))))
end
end P
namespace P
open PySem PySem.Spec PyProof.Rows L2 M
set_option maxHeartbeats 4000000
variable {R:List Nat}{K:List (List Nat)}{μ:Mem}{Q:D->Mem->Prop}{i l k L n h m:Nat}{B:Int}{S T C A:List Nat}{row kvs ts ts':List (Nat×Nat)}{ds:List D}{nx:M.Loc->Mem->Prop}{rt:D->Mem->Prop}{r:D}{lay0:List (Option Nat)}{φ:FA}{δ:M.Loc}
def zUr{i j:Int}:gEq (.int i) (.int j) μ=some (.bl (i==j),μ):=by simp[gEq,toP,Yb]
def zxw{o o':LObj}(h:μ[l]?=some o):(μ.set l o')[l]?=some o':=by
 rw[yM (List.getElem?_eq_some_iff.mp h).1]
def zrr{xs:List D}:M.cutD xs none (some (i:Int))=xs.take i:=by
 unfold M.cutD;rw[HT.sIx_none,HT.sIx_nat,List.drop_zero,Nat.sub_zero];rcases Nat.le_total i xs.length with h | h
 ·rw[Nat.min_eq_left h]
 ·rw[Nat.min_eq_right h,take_length,List.take_of_length_le h]
local macro_rules | `(tactic| walk_at "w") => `(tactic| first
  | refine zF ?_ | refine zCb ?_ | refine zPq ?_ | refine zjc ?_ | refine zDk ?_ | refine zai ?_ | refine zPb ?_ | refine zWh ?_
  | refine zd rfl ?_ | refine w_c ?_ | refine zq ?_ | refine zw ?_ | refine zf ?_ | refine zr ?_ | refine zoi ?_ | refine z3g ?_ | refine z8w ?_ | refine zZx ?_ | refine z3u ?_ | refine zdr ?_ | refine zNz ?_ | refine w_not ?_ | refine zdz ?_ | refine zRi ?_ | refine z5p ?_ | refine ztm ?_ | refine zTy ?_
  | refine zO ?_ | refine zkk ?_ | refine zem ?_ | refine zBl ?_ | refine zdw ?_ | refine zLj ?_ | refine z5h ?_ | refine zKt ?_ | refine z8y ?_ | refine zqo ?_ | refine zPt ?_
  | refine zkr ?_ | refine zmv ?_ | refine zzj (by first | decide | omega) ?_ | refine zrq (by first | decide | omega) (by first | decide | omega) ?_ | refine zLm ?_ | refine z3p ?_ | refine zZw ?_ | refine ziz ?_ | refine zWt ?_ | refine z2w (by decide) (by decide) (by decide) ?_ | refine zAy ?_ | refine z7x ?_ | refine ztx ?_ | refine zry ?_
  | refine zWi rfl ?_ | refine zNs rfl ?_ | refine zki rfl ?_ | with_reducible refine ⟨_,rfl,?_⟩)
local macro_rules | `(tactic| walk_at "om") => `(tactic| first | omega | (simp only [length_map, length_range, Int.toNat_natCast, length_append, length_cons, List.length_nil] at *; omega) | (simp <;> omega))
def zhw{ns:List Int}{k:Int}(h0:0<=k)(h1:k<=1000):∃v,zPc [.fz (ns.map .int), .int k] μ=some (.int v,μ):=by
 have hk1:-18446744073709551616<k:=by omega
 have hk2:k<18446744073709551616:=by omega
 by_cases hn:ns=[]
 ·subst hn;simp[zPc,zBe,zDe,zGk,hk1,hk2]
 ·have hl:0<ns.length:=List.length_pos_iff.mpr hn;have hl':(0:Int)<ns.length:=by omega
  have hm0:0<=k%(ns.length:Int):=YZ _ (by omega);have hm1:k%(ns.length:Int)<ns.length:=YC _ hl';have hi:(k%(ns.length:Int)).toNat<ns.length:=by omega
  simp[zPc,zBe,zDe,zGk,hk1,hk2,hl,hl',hm0,hm1,atI,ixN,yp hi]
def zYp{ns:List Int}{k:Int}(h0:0<=k)(h1:k<=1000):∃v,z6 [.fz (ns.map .int), .int k] μ=some (.int v,μ):=by
 by_cases h:k<ns.length
 ·have hi:k.toNat<ns.length:=by omega
  exact⟨ns[k.toNat],by simp[z6,zgd,zkd,h,h0,atI,ixN,yp hi]⟩
 ·obtain⟨v,e⟩:=zhw (ns:=ns) (μ:=μ) h0 h1;exact⟨v,by simp[z6,zgd,zkd,h,e]⟩
def Pen(μ:Mem)(l:Nat)(B:Int):Prop:=∃f c n a:Int,μ[l]?=some (.lst [.int f, .int c, .int n, .int a])/\0<=a/\a<=B
def Pen.mono{B':Int}(h:Pen μ l B)(hb:B<=B'):Pen μ l B':=by
 obtain⟨f,c,n,a,e,h0,h1⟩:=h;exact⟨f,c,n,a,e,h0,by omega⟩
def Pen.kb{μ μ':Mem}{L:List Nat}(h:Pen μ l B)(k:KB L μ μ')(hl:l∉L):Pen μ' l B:=by
 obtain⟨f,c,n,a,e,h0,h1⟩:=h;exact⟨f,c,n,a,k.at_ _ _ hl e,h0,h1⟩
def Pen.app{μ g:Mem}(h:Pen μ l B):Pen (μ++g) l B:=h.kb (L:=[]) (KB.refl.app) (by simp)
def Pen.lt(h:Pen μ l B):l<μ.length:=by
 obtain⟨f,c,n,a,e,_⟩:=h;exact zI e
def ztv{s:Int}(h:Pen μ l B)(hB:B<=1000000000)(h0:0<s)(h1:s<1606938044258990275541962092341162602522202993782792835301376)
 (q:∀v μ',0<=v->v<s->KB [l] μ μ'->μ'.length=μ.length->Pen μ' l (B+1)->Q (.int v) μ'):WF zrb [.loc l, .int s] μ Q:=by
 obtain⟨f,c,n,a,e,ha,hb⟩:=h;have hlt:=zI e;have kb:∀o,KB [l] μ (μ.set l o):=fun o=>KB.refl.set (.inl (by simp))
 by_cases hf:f=0
 ·subst hf;refine⟨_,_,?_,q (c%s) (μ.set l (.lst [.int 0, .int (c / s), .int n, .int a])) (YZ _ (by omega)) (YC _ h0) (kb _) (by simp) ⟨0,c / s,n,a,zbb e,ha,by omega⟩⟩;simp[zrb,zBf,zhf,e,atI,ixN,zUr,h0,h1]
 ·have hf':(f==0)=false:=by simpa using hf
  have e2:(μ.set l (.lst [.int f, .int c, .int n, .int (a+1)]))[l]?=some (.lst [.int f, .int c, .int n, .int (a+1)]):=zbb e;have hm1:-18446744073709551616<a+1:=by omega
  have hm2:a+1<18446744073709551616:=by omega
  refine⟨_,_,?_,q (((c%2305843009213693951*48271+(a+1)*(a+1)*40692+7*(a+1)+11)%2147483647*1181783497276652981%2305843009213693951 / 64)%s) (μ.set l (.lst [.int f, .int c, .int n, .int (a+1)])) (YZ _ (by omega)) (YC _ h0) (kb _) (by simp) ⟨f,c,n,a+1,e2,by omega,by omega⟩⟩;simp[zrb,zBf,zhf,e,e2,atI,ixN,zUr,hf',h0,h1,zGk,hm1,hm2,zIk]
def zxy{ns:List Int}{k:Int}(h0:0<=k)(h1:k<=1000)(q:∀μ',KB [] μ μ'->Pen μ' μ.length 101000->μ'.length=μ.length+1->Q (.loc μ.length) μ'):WF zig [.fz (ns.map .int), .int k] μ Q:=by
 obtain⟨v,e⟩:=zYp (ns:=ns) (μ:=μ) h0 h1;refine zkc rfl ?_;unfold zri
 repeat walk_at "w"
 refine⟨_,_,e,?_⟩
 repeat walk_at "w"
 refine zjy (by unfold zIk;simp) ?_
 repeat walk_at "w"
 refine q _ KB.refl.app ⟨_,_,_,_,zt,by omega,by omega⟩ (by simp)
structure WebA(L:Int)(rooms:List Int)(ks:List (List Int)):Prop where
 rl:1<=rooms.length/\rooms.length<=10
 rn:∀r∈rooms,0<=r
 kl:ks.length<=L
 kn:∀k∈ks,(2<=k.length/\k.length<=3)/\∀i∈k,0<=i/\i<rooms.length
abbrev tn(ns:List Nat):D := .tup (nat ns)
abbrev wn(R:List Nat)(K:List (List Nat)):D := .tup [tn R, .tup (K.map tn)]
structure Wb(L:Nat)(R:List Nat)(K:List (List Nat)):Prop where
 rl:1<=R.length/\R.length<=10
 kl:K.length<=L
 kn:∀k∈K,(2<=k.length/\k.length<=3)/\∀h∈k,h<R.length
def Wb.key(w:Wb L R K){k:Nat}(h:k<K.length):(2<=(K.getD k []).length/\(K.getD k []).length<=3)/\∀x∈K.getD k [],x<R.length:=by
 have:K.getD k []=K[k]:=by simp[h]
 rw[this];exact w.kn _ (getElem_mem h)
def zto(q:Q (tn R) μ):W2 gIx (wn R K) (.int 0) μ Q:=zMc rfl (show atI [tn R, .tup (K.map tn)] 0=some (tn R) from rfl) q
def zOj(q:Q (.tup (K.map tn)) μ):W2 gIx (wn R K) (.int 1) μ Q:=zMc rfl (show atI [tn R, .tup (K.map tn)] 1=some (.tup (K.map tn)) from rfl) q
def zwr(h:k<K.length)(q:Q (tn (K.getD k [])) μ):W2 gIx (.tup (K.map tn)) (.int k) μ Q :=
 zMc rfl (zEc (v:=tn (K.getD k [])) (by simp[h])) q
def z2x(h:k<R.length)(q:Q (.int (R.getD k 0:Nat)) μ):W2 gIx (tn R) (.int k) μ Q:=zMc rfl (z0i h) q
structure RightL(R:List Nat)(K:List (List Nat))(lay:List (Option Nat)):Prop where
 len:lay.length=K.length
 home:∀k h,lay[k]?=some (some h)->h∈K.getD k []
 room:∀h,lay.count (some h)<=R.getD h 0
def zOk(K:List (List Nat))(S:List Nat):List Nat:=S.flatMap fun k=>K.getD k []
def zNe(n:Nat)(K:List (List Nat))(S:List Nat):List Nat:=(yy n).filter fun h=>decide (∃k∈S,h∈K.getD k [])
def zvu(R:List Nat)(N:List Nat):Nat:=(N.map fun h=>R.getD h 0).sum
def zWf(w:Wb L R K)(h:Nat):h∈zNe R.length K S↔∃k∈S,h∈K.getD k []:=by
 unfold zNe;rw[List.mem_filter,mem_range,decide_eq_true_iff];constructor
 ·exact fun q=>q.2
 ·rintro⟨k,hk,hh⟩;refine⟨?_,k,hk,hh⟩;rw[getD_eq_getElem?_getD]at hh
  cases e:K[k]? with
  |none=>rw[e]at hh;simp at hh
  |some x=>rw[e]at hh;exact(w.kn x (mem_of_getElem? e)).2 h hh
def zVt :∀h∈zNe n K S,h<n:=fun h hh=>by
 have:=(List.mem_filter.mp hh).1;simpa using this
def zEt(n:Nat)(K:List (List Nat))(S:List Nat):(zNe n K S).Pairwise (· < ·):=List.pairwise_lt_range.filter _
def zWm(n:Nat)(K:List (List Nat))(S:List Nat):(zNe n K S).length<=n:=by
 unfold zNe;refine yC (List.length_filter_le _ _) ?_;simp
def zZj{L:Nat}{R:List Nat}{K:List (List Nat)}(w:Wb L R K):∀S:List Nat,(zOk K S).length<=3*S.length
 |[]=>by simp[zOk]
 |k::S=>by
  have ih:=zZj w S
  have h1:(K.getD k []).length<=3:=by
   rw[getD_eq_getElem?_getD]
   cases e:K[k]? with
   |none=>simp
   |some x=>exact(w.kn x (mem_of_getElem? e)).1.2
  unfold zOk at ih ⊢;rw[List.flatMap_cons,length_append,length_cons];omega
def z3c(R:List Nat)(K:List (List Nat))(S:List Nat):Bool:=decide (zvu R (zNe R.length K S)<S.length)
def zDq(w:Wb L R K)(hn:μ[n]?=some (.lst (nat S)))(hS:∀k∈S,k<K.length)(hl:S.length<=1000)
 (q:∀(l:Nat)(μ':Mem),Keep μ μ'->μ.length<=l->μ'[l]?=some (.lst (nat (zNe R.length K S)))->Q (.loc l) μ'):WF zgg [wn R K, .loc n] μ Q:=by
 refine zkc rfl ?_;show WS zag [some (wn R K),some (.loc n),none,none] μ _ _ _ _;unfold zag
 repeat walk_at "w"
 have hnl:=zI hn;refine zuf (zd rfl (.inr (.inr ⟨n,_,rfl,zAc hn,?_⟩)));refine zVc (fun m δ μ'=>∃a:Option D,δ=[some (wn R K),some (.loc n),some (.loc μ.length),a]/\Keep μ μ'/\μ'[μ.length]?=some (.lst (nat (zOk K (S.take m))))) ⟨none,rfl, .app,by simp[zOk]⟩ (fun m δ μ' ⟨a,_,k,_⟩=>zwb hn k) ?_ ?_
 ·rintro m x δ μ1 hx ⟨a,rfl,k,hg⟩;rw[yh]at hx
  cases hy:S[m]? with
  |none=>rw[hy]at hx;cases hx
  |some kk=>
   rw[hy]at hx;cases hx;have hkk:=hS kk (mem_of_getElem? hy)
   walk_at "w"
   unfold zIi
   repeat walk_at "w"
   refine⟨μ.length,_,rfl,hg,?_⟩
   repeat walk_at "w"
   refine zOj ?_
   repeat walk_at "w"
   refine zwr hkk ?_
   repeat walk_at "w"
   have hfl:=zZj w (S.take m);have hks:=(w.key hkk).1;have htl:(S.take m).length<=1000:=yC (by simp;omega) hl;refine z4x hg (by simp only[length_map];omega) ?_;refine⟨_,rfl,fun i o e=>zS (k i o e) (yV (zI e)),?_⟩;rw[zbb hg];have ht:S.take (m+1)=S.take m++[kk]:=by rw[take_succ,hy];rfl
   have e2:zOk K (S.take (m+1))=zOk K (S.take m)++K.getD kk []:=by
    unfold zOk;rw[ht,List.flatMap_append];simp
   rw[e2,zng]
 ·rintro δ μ1 ⟨a,rfl,k,hg⟩;rw[length_map,take_length]at hg
  have hmem:∀i:Int,i∈(zNe R.length K S).map (fun(k:Nat)=>(k:Int))↔i∈(zOk K S).map (fun(k:Nat)=>(k:Int)):=fun i=>by
   simp only[mem_map];constructor
   ·rintro⟨h,hh,rfl⟩;obtain⟨k,hk,hh⟩:=(zWf w h).mp hh;exact⟨h,List.mem_flatMap.mpr ⟨k,hk,hh⟩,rfl⟩
   ·rintro⟨h,hh,rfl⟩;obtain⟨k,hk,hh⟩:=List.mem_flatMap.mp hh;exact⟨h,(zWf w h).mpr ⟨k,hk,hh⟩,rfl⟩
  have hpw:((zNe R.length K S).map (fun(k:Nat)=>(k:Int))).Pairwise (· < ·):=by
   rw[pairwise_map];exact(zEt R.length K S).imp fun h=>by omega
  have hp:=z4i hmem hpw;have hsort:=zwm hmem hpw;have hfl:=zZj w S;have hrl:=w.rl;have hnl2:=zWm R.length K S;refine zjc (zEs (zd rfl ⟨_,(zOk K S).map (fun(k:Nat)=>(k:Int)),rfl,by rw[hg,map_map];rfl,by rw[length_map];omega,by rw[hp.length_eq,length_map];omega,?_⟩));rw[hsort,map_map];exact q _ _ k.to k.len zt
def zrs(hn:μ[n]?=some (.lst (nat S)))(hS:∀k∈S,k<R.length)(hl:S.length<=1000)
 (q:∀(μ':Mem),Keep μ μ'->Q (.int (zvu R S:Nat)) μ'):WF zoh [wn R K, .loc n] μ Q:=by
 refine zkc rfl ?_;show WS zXh [some (wn R K),some (.loc n)] μ _ _ _ _;unfold zXh
 repeat walk_at "w"
 refine zuf (zd rfl (.inr (.inr ⟨n,_,rfl,hn,z4c (by simp;omega),?_⟩)));refine zHf (fun(k:Nat)=>D.int k) S (fun k => .int (R.getD k 0:Nat)) (fun μ' k=>zwb hn k) (fun k hk μ' kp=>?_) (fun μ' kp=>?_)
 ·have hkk:=hS k hk
  walk_at "w"
  unfold zsj
  repeat walk_at "w"
  refine zto ?_
  repeat walk_at "w"
  exact z2x hkk ⟨rfl,kp,kp⟩
 ·repeat walk_at "w"
  refine zwy (S:=S.map fun k=>R.getD k 0) (by rw[zt,zOg]) ?_;exact q _ kp.to
def zwl(w:Wb L R K)(hn:μ[n]?=some (.lst (nat S)))(hS:∀k∈S,k<K.length)(hl:S.length<=1000)
 (q:∀μ',Keep μ μ'->Q (.bl (z3c R K S)) μ'):WF z7c [wn R K, .loc n] μ Q:=by
 refine zkc rfl ?_;show WS z9f [some (wn R K),some (.loc n)] μ _ _ _ _;unfold z9f
 repeat walk_at "w"
 refine zDq w hn hS hl fun l μ1 k1 hl1 g1=>?_
 repeat walk_at "w"
 have hnl:=zWm R.length K S;have hrl:=w.rl;refine zrs g1 zVt (by omega) fun μ2 k2=>?_
 repeat walk_at "w"
 refine zWi (zy (k2 _ _ (k1 _ _ hn))) ?_
 repeat walk_at "w"
 have:=q μ2 (k1.trans k2);unfold z3c at this;simp only[length_map,Int.ofNat_lt];exact this
def zOo(lay:List (Option Nat))(a:Option Nat):lay.count a=((yy lay.length).filter fun k=>decide (lay.getD k none=a)).length:=by
 have e:lay=(yy lay.length).map fun k=>lay.getD k none:=by
  refine ext_getElem? fun i=>?_
  by_cases h:i<lay.length
  ·simp[h]
  ·simp[h]
 conv=>lhs;rw[e]
 rw[List.count,List.countP_map,List.countP_eq_length_filter]
 congr 1
 refine filter_congr fun k _=>?_;simp only[Function.comp];exact Bool.beq_eq_decide_eq _ _
def lyN(lay:List (Option Nat))(N:List Nat):List Nat:=(yy lay.length).filter fun k=>decide (∃h∈N,lay.getD k none=some h)
def lyN_mem{lay:List (Option Nat)}{N:List Nat}:k∈lyN lay N↔∃h∈N,lay.getD k none=some h:=by
 unfold lyN;rw[List.mem_filter,mem_range,decide_eq_true_iff];constructor
 ·exact fun q=>q.2
 ·rintro⟨h,hh,e⟩;refine⟨?_,h,hh,e⟩;refine Nat.lt_of_not_le fun hle=>?_;rw[getD_eq_getElem?_getD,YG hle]at e;cases e
def zey(lay:List (Option Nat))(N:List Nat):(lyN lay N).Nodup:=List.nodup_range.sublist filter_sublist
def zHh{α:Type}(p q:α->Bool)(h:∀x,p x=true->q x=false):∀l:List α,(l.filter fun x=>p x||q x).length=(l.filter p).length+(l.filter q).length
 |[]=>rfl
 |x::l=>by
  have ih:=zHh p q h l
  cases hp:p x with
  |true=>simp[filter_cons,hp,h x hp,ih];omega
  |false=>
   cases hq:q x with
   |true=>simp[filter_cons,hp,hq,ih];omega
   |false=>simp[filter_cons,hp,hq,ih]
def zao{lay:List (Option Nat)}:∀{N:List Nat},N.Nodup->(lyN lay N).length=(N.map fun h=>lay.count (some h)).sum
 |[],_=>by simp[lyN]
 |h::N,nd=>by
  obtain⟨h1,h2⟩:=List.nodup_cons.mp nd;rw[map_cons,sum_cons,<-zao h2,zOo]
  have:=zHh (fun k=>decide (lay.getD k none=some h)) (fun k=>decide (∃g∈N,lay.getD k none=some g)) (fun k hk=>by
   have hk:=of_decide_eq_true hk;refine decide_eq_false ?_;rintro⟨g,hg,e⟩;rw[hk]at e;cases e;exact h1 hg) (yy lay.length)
  rw[show lyN lay N=(yy lay.length).filter fun k=>decide (∃g∈N,lay.getD k none=some g) from rfl,<-this];unfold lyN
  congr 1
  refine filter_congr fun k _=>?_;rw[<-Bool.decide_or];refine decide_eq_decide.mpr ?_;simp only[mem_cons];constructor
  ·rintro⟨g,rfl | hg,e⟩
   ·exact .inl e
   ·exact .inr ⟨g,hg,e⟩
  ·rintro(e | ⟨g,hg,e⟩)
   ·exact⟨h, .inl rfl,e⟩
   ·exact⟨g, .inr hg,e⟩
def zGs{α:Type}{f g:α->Nat}:∀{l:List α},(∀x∈l,f x<=g x)->(l.map f).sum<=(l.map g).sum
 |[],_=>yi _
 |x::l,h=>by
  rw[map_cons,map_cons,sum_cons,sum_cons];have h1:=h x mem_cons_self;have h2:=zGs (l:=l) fun y hy=>h y (mem_cons_of_mem _ hy);omega
def zTd{α:Type}[DecidableEq α]:∀{l m:List α},l.Nodup->(∀x∈l,x∈m)->l.length<=m.length
 |[],_,_,_=>Ys _
 |x::l,m,nd,h=>by
  obtain⟨h1,h2⟩:=List.nodup_cons.mp nd;have hx:=h x mem_cons_self;have ih:=zTd (l:=l) (m:=m.erase x) h2 fun y hy=>(List.mem_erase_of_ne (by rintro rfl;exact h1 hy)).mpr (h y (mem_cons_of_mem _ hy));rw[List.length_erase_of_mem hx]at ih;have:=List.length_pos_of_mem hx;rw[length_cons];omega
def zzs{lay:List (Option Nat)}(w:Wb L R K)(r:RightL R K lay)(hd:T.Nodup)(hT:∀k∈T,k<K.length)(hall:∀k∈T,(lay.getD k none).isSome=true):z3c R K T=false:=by
 refine decide_eq_false ?_;have hN:(zNe R.length K T).Nodup:=List.nodup_range.sublist filter_sublist
 have h1:T.length<=(lyN lay (zNe R.length K T)).length:=zTd hd fun k hk=>by
  rw[lyN_mem];have hs:=hall k hk
  cases e:lay.getD k none with
  |none=>rw[e]at hs;cases hs
  |some h=>
   refine⟨h,?_,rfl⟩;rw[zWf w];refine⟨k,hk,r.home k h ?_⟩;have hkl:k<lay.length:=by rw[r.len];exact hT k hk
   simp[hkl]at e;simp[hkl,e]
 rw[zao hN]at h1;have h2:((zNe R.length K T).map fun h=>lay.count (some h)).sum<=zvu R (zNe R.length K T):=zGs fun h _=>r.room h;omega
structure Shut(R:List Nat)(K:List (List Nat))(lay:List (Option Nat))(C:List Nat):Prop where
 keys:∀k∈C,k<K.length
 full:∀k∈C,∀h∈K.getD k [],R.getD h 0<=lay.count (some h)
 lies:∀k∈C,∀h∈K.getD k [],∀o,lay.getD o none=some h->o∈C
def Shut.nil{lay:List (Option Nat)}:Shut R K lay []:=⟨by simp,by simp,by simp⟩
def Shut.app{lay:List (Option Nat)}{E:List Nat}(a:Shut R K lay C)(b:Shut R K lay E):Shut R K lay (C++E):=by
 refine⟨fun k hk=>?_,fun k hk=>?_,fun k hk h hh o e=>?_⟩
 ·rcases List.mem_append.mp hk with hk | hk
  ·exact a.keys k hk
  ·exact b.keys k hk
 ·rcases List.mem_append.mp hk with hk | hk
  ·exact a.full k hk
  ·exact b.full k hk
 ·rcases List.mem_append.mp hk with hk | hk
  ·exact mem_append_left _ (a.lies k hk h hh o e)
  ·exact mem_append_right _ (b.lies k hk h hh o e)
def Shut.congr{lay:List (Option Nat)}{E:List Nat}(a:Shut R K lay C)(h:∀k,k∈E↔k∈C):Shut R K lay E :=
 ⟨fun k hk=>a.keys k ((h k).mp hk),fun k hk=>a.full k ((h k).mp hk),fun k hk g hg o e=>(h o).mpr (a.lies k ((h k).mp hk) g hg o e)⟩
def zdi{lay:List (Option Nat)}(w:Wb L R K)(s:Shut R K lay C)(hl:lay.length=K.length){k0:Nat}(hk0:k0∈C)(hn:lay.getD k0 none=none):z3c R K C=true:=by
 refine decide_eq_true ?_;have hN:(zNe R.length K C).Nodup:=List.nodup_range.sublist filter_sublist
 have h1:zvu R (zNe R.length K C)<=((zNe R.length K C).map fun h=>lay.count (some h)).sum:=zGs fun h hh=>by
  obtain⟨k,hk,hm⟩:=(zWf w h).mp hh;exact s.full k hk h hm
 rw[<-zao hN]at h1
 have h2:(k0::lyN lay (zNe R.length K C)).length<=C.length:=zTd (List.nodup_cons.mpr ⟨fun hm=>(by
  obtain⟨h,_,e⟩:=lyN_mem.mp hm;rw[hn]at e;cases e),zey _ _⟩) fun x hx=>by
  rcases List.mem_cons.mp hx with rfl | hx
  ·exact hk0
  ·obtain⟨h,hh,e⟩:=lyN_mem.mp hx;obtain⟨k,hk,hm⟩:=(zWf w h).mp hh;exact s.lies k hk h hm x e
 rw[length_cons]at h2;omega
structure RowOk(K:List (List Nat))(lay:List (Option Nat))(key:Nat)(row:List (Nat×Nat)):Prop where
 first:∃h r,row=(key,h)::r
 mem:∀p∈row,p.1<K.length/\p.2∈K.getD p.1 []/\lay.getD p.1 none≠some p.2
 link:∀i p q,row[i]?=some p->row[i+1]?=some q->lay.getD q.1 none=some p.2
 nd:(row.map (·.1)).Nodup
def z3d(lay:List (Option Nat))(row:List (Nat×Nat)):List (Option Nat):=row.foldl (fun l p=>l.set p.1 (some p.2)) lay
def zdh(row:List (Nat×Nat)):∀lay:List (Option Nat),(z3d lay row).length=lay.length:=by
 induction row with
 |nil=>intro lay;rfl
 |cons p row ih=>intro lay;show(z3d (lay.set p.1 (some p.2)) row).length=_;rw[ih];simp
def zrl(lay:List (Option Nat))(row:List (Nat×Nat))(p:Nat×Nat):z3d lay (row++[p])=(z3d lay row).set p.1 (some p.2):=by
 unfold z3d;rw[List.foldl_append];rfl
def z2e :∀{lay:List (Option Nat)} {k:Nat},k∉row.map (·.1)->(z3d lay row).getD k none=lay.getD k none:=by
 induction row with
 |nil=>intro lay k _;rfl
 |cons p row ih=>
  intro lay k hk;rw[map_cons,mem_cons,not_or]at hk;show(z3d (lay.set p.1 (some p.2)) row).getD k none=_;rw[ih hk.2];simp only[getD_eq_getElem?_getD];rw[yJ (yN hk.1)]
def z9l(nd:(row.map (·.1)).Nodup):∀{lay:List (Option Nat)} {p:Nat×Nat},p∈row->p.1<lay.length->(z3d lay row).getD p.1 none=some p.2:=by
 induction row with
 |nil=>intro lay p hp;cases hp
 |cons q row ih=>
  intro lay p hp hl;rw[map_cons,nodup_cons]at nd;show(z3d (lay.set q.1 (some q.2)) row).getD p.1 none=_;rcases List.mem_cons.mp hp with rfl | hp
  ·rw[z2e nd.1];simp[hl]
  ·exact ih nd.2 hp (by simpa using hl)
def zKn{lay:List (Option Nat)}{a b:Option Nat}(hk:k<lay.length)(ha:lay.getD k none=a)(x:Option Nat):(lay.set k b).count x+(if a=x then 1 else 0)=lay.count x+(if b=x then 1 else 0):=by
 have e1:lay=lay.take k++a::lay.drop (k+1):=by
  have:lay[k]=a:=by simpa[hk] using ha
  rw[<-this,List.getElem_cons_drop,take_append_drop]
 have e2:lay.set k b=lay.take k++b::lay.drop (k+1):=by rw[List.set_eq_take_append_cons_drop,if_pos hk]
 rw[e2]
 conv=>rhs;rw[e1]
 rw[List.count_append,List.count_append,List.count_cons,List.count_cons];simp only[beq_iff_eq]
 split<;>split<;>omega
def zuj{lay:List (Option Nat)}{key:Nat}(r:RowOk K lay key row)(hl:lay.length=K.length)(hkey:lay.getD key none=none):∀i,i<row.length->∀h:Nat,(z3d lay (row.take (i+1))).count (some h)=lay.count (some h)+(if(row.getD i (0,0)).2=h then 1 else 0):=by
 intro i
 induction i with
 |zero=>
  intro hi h;obtain⟨h0,r0,e⟩:=r.first
  have hm:=r.mem (key,h0) (by rw[e];simp);subst e;have:=zKn (lay:=lay) (k:=key) (b:=some h0) (by rw[hl];exact hm.1) hkey (some h);show(lay.set key (some h0)).count (some h)=_;simpa using this
 |succ i ih=>
  intro hi h;have ih:=ih (by omega) h;have hp:row[i]?=some row[i]:=by simp[show i<row.length by omega]
  have hq:row[i+1]?=some row[i+1]:=by simp[hi]
  have hlink:=r.link i _ _ hp hq;have hm:=r.mem row[i+1] (getElem_mem hi);have et:row.take (i+1+1)=row.take (i+1)++[row[i+1]]:=by simp
  have hnot:(row[i+1]).1∉(row.take (i+1)).map (·.1):=by
   intro hmem;have nd:=r.nd;rw[<-take_append_drop (i+1) row,map_append,nodup_append]at nd;refine nd.2.2 _ hmem _ ?_ rfl;refine List.mem_map.mpr ⟨row[i+1],?_,rfl⟩;rw[drop_eq_getElem_cons hi];exact mem_cons_self
  have hcur:(z3d lay (row.take (i+1))).getD (row[i+1]).1 none=some (row[i]).2:=by rw[z2e hnot];exact hlink
  rw[et,zrl];have:=zKn (lay:=z3d lay (row.take (i+1))) (k:=(row[i+1]).1) (b:=some (row[i+1]).2) (by rw[zdh,hl];exact hm.1) hcur (some h);have e1:row.getD i (0,0)=row[i]:=by simp[show i<row.length by omega]
  have e2:row.getD (i+1) (0,0)=row[i+1]:=by simp[hi]
  rw[e1]at ih;rw[e2];simp only[Xg]at this;omega
def zWg{lay:List (Option Nat)}{key:Nat}(rt:RightL R K lay)(r:RowOk K lay key row)(hkey:lay.getD key none=none)(hroom:lay.count (some (row.getD (row.length-1) (0,0)).2)<R.getD (row.getD (row.length-1) (0,0)).2 0):RightL R K (z3d lay row):=by
 have hpos:0<row.length:=by
  obtain⟨h,q,e⟩:=r.first
  rw[e];simp
 refine⟨by rw[zdh];exact rt.len,fun k h e=>?_,fun h=>?_⟩
 ·have e':(z3d lay row).getD k none=some h:=by rw[getD_eq_getElem?_getD,e];rfl
  by_cases hk:k∈row.map (·.1)
  ·obtain⟨p,hp,rfl⟩:=List.mem_map.mp hk;have hm:=r.mem p hp;rw[z9l r.nd hp (by rw[rt.len];exact hm.1)]at e';cases e';exact hm.2.1
  ·rw[z2e hk]at e';refine rt.home k h ?_;rw[getD_eq_getElem?_getD]at e'
   cases q:lay[k]? with
   |none=>rw[q]at e';cases e'
   |some z=>rw[q]at e';exact congrArg some e'
 ·have:=zuj r rt.len hkey (row.length-1) (by omega) h;rw[show row.length-1+1=row.length by omega,take_length]at this;rw[this];have hr:=rt.room h
  split
  ·rename_i e
   rw[e]at hroom;omega
  ·omega
def zuw{lay:List (Option Nat)}{key:Nat}(s:Shut R K lay C)(r:RowOk K lay key row)(hroom:lay.count (some (row.getD (row.length-1) (0,0)).2)<R.getD (row.getD (row.length-1) (0,0)).2 0) :
 ∀p∈row,∀k∈C,p.2∉K.getD k []:=by
 have key1:∀(j i:Nat),i+j+1=row.length->∀k∈C,(row.getD i (0,0)).2∉K.getD k []:=by
  intro j
  induction j with
  |zero=>
   intro i hi k hk hm;have:=s.full k hk _ hm;rw[show row.length-1=i by omega]at hroom;omega
  |succ j ih=>
   intro i hi k hk hm;have hp:row[i]?=some row[i]:=by simp[show i<row.length by omega]
   have hq:row[i+1]?=some row[i+1]:=by simp[show i+1<row.length by omega]
   have e1:row.getD i (0,0)=row[i]:=by simp[show i<row.length by omega]
   have e2:row.getD (i+1) (0,0)=row[i+1]:=by simp[show i+1<row.length by omega]
   rw[e1]at hm;have hin:=s.lies k hk _ hm _ (r.link i _ _ hp hq);refine ih (i+1) (by omega) _ hin ?_;rw[e2];exact(r.mem _ (getElem_mem _)).2.1
 intro p hp k hk;obtain⟨i,hi,rfl⟩:=List.mem_iff_getElem.mp hp;have:=key1 (row.length-1-i) i (by omega) k hk
 rwa [show row.getD i (0,0)=row[i] by simp[hi]]at this
def Shut.push{lay:List (Option Nat)}{key:Nat}(s:Shut R K lay C)(rt:RightL R K lay)(r:RowOk K lay key row)(hkey:lay.getD key none=none)
 (hroom:lay.count (some (row.getD (row.length-1) (0,0)).2)<R.getD (row.getD (row.length-1) (0,0)).2 0):Shut R K (z3d lay row) C:=by
 have hpos:0<row.length:=by
  obtain⟨h,q,e⟩:=r.first
  rw[e];simp
 have hout:=zuw s r hroom;refine⟨s.keys,fun k hk h hh=>?_,fun k hk h hh o e=>?_⟩
 ·have:=zuj r rt.len hkey (row.length-1) (by omega) h;rw[show row.length-1+1=row.length by omega,take_length]at this;have h1:=s.full k hk h hh;omega
 ·by_cases ho:o∈row.map (·.1)
  ·obtain⟨p,hp,rfl⟩:=List.mem_map.mp ho;rw[z9l r.nd hp (by rw[rt.len];exact(r.mem p hp).1)]at e;cases e;exact absurd hh (hout p hp k hk)
  ·rw[z2e ho]at e;exact s.lies k hk h hh o e
def zql(lay:List (Option Nat))(h:Nat):List Nat:=(yy lay.length).filter fun k=>decide (lay.getD k none=some h)
def z0t(R:List Nat)(lay:List (Option Nat)):List Int:=(yy R.length).map fun h=>(R.getD h 0:Int)-(lay.count (some h):Nat)
def zxt{lay:List (Option Nat)}(hn:μ[n]?=some (.lst (lay.map onD)))(hl:lay.length<=1000)(q:∀(l:Nat)(μ':Mem),Keep μ μ'->μ.length<=l->μ'[l]?=some (.lst (nat (zql lay h)))->Q (.loc l) μ'):WF zxm [.loc n, .int h] μ Q:=by
 refine zkc rfl ?_;show WS zCm [some (.loc n),some (.int h)] μ _ _ _ _;unfold zCm
 repeat walk_at "w"
 refine zHi (zd rfl (.inr (.inr ⟨n,_,rfl,hn,z4c (by rw[zsd,length_map];omega),?_⟩)));rw[zYd onD lay none];refine zCk (fun(k:Nat) => .tup [.int k,onD (lay.getD k none)]) (yy lay.length) (fun(k:Nat)=>D.int k) (fun k=>decide (lay.getD k none=some h)) (fun μ' k=>zwb hn k) (fun k hk μ' kp=>?_) (fun μ' kp=>?_)
 ·repeat walk_at "w"
  refine z7v (α:=Option Nat) (lay.getD k none) (some h) ?_
  repeat walk_at "w"
  refine⟨rfl,kp,fun _=>?_⟩;unfold z0m;exact zd rfl ⟨rfl,kp⟩
 ·exact q _ _ kp.to kp.len zt
def zIo{lay:List (Option Nat)}(w:Wb L R K)(hn:μ[n]?=some (.lst (lay.map onD)))(q:∀(l:Nat)(μ':Mem),Keep μ μ'->μ.length<=l->μ'[l]?=some (.lst ((z0t R lay).map .int))->Q (.loc l) μ'):WF z3f [wn R K, .loc n] μ Q:=by
 have hrl:=w.rl;refine zkc rfl ?_;show WS z2k [some (wn R K),some (.loc n)] μ _ _ _ _;unfold z2k
 repeat walk_at "w"
 refine zHi ?_
 repeat walk_at "w"
 refine zto (.inl ⟨_,rfl,z4c (by rw[zsd,length_map];omega),?_⟩);rw[zYd (fun(k:Nat)=>D.int k) R 0];refine zHf (fun(k:Nat) => .tup [.int k, .int (R.getD k 0:Nat)]) (yy R.length) (fun(k:Nat)=>D.int ((R.getD k 0:Int)-(lay.count (some k):Nat))) (fun _ _=>rfl) (fun k hk μ' kp=>?_) (fun μ' kp=>?_)
 ·repeat walk_at "w"
  refine⟨_,_,rfl,kp _ _ hn,?_⟩
  repeat walk_at "w"
  refine z2r (kp _ _ hn) ?_
  repeat walk_at "w"
  exact⟨rfl,kp,kp⟩
 ·refine q _ _ kp.to kp.len ?_;rw[zt];unfold z0t;rw[map_map];rfl
def zrm(K:List (List Nat))(ds:List D)(k:Nat):Bool:=!zzv (ds.getD k .non) && !((nat (K.getD k [])).any fun y=>eqF y (ds.getD k .non))
def z0r(R:List Nat)(ds:List D)(h:Nat):Bool:=decide ((R.getD h 0:Nat)<(z9v ds h:Int))
def zGl(R:List Nat)(K:List (List Nat))(ds:List D):D:=match(yy K.length).find? (zrm K ds) with
 |some k => .tup [.str "home", .int k]
 |none=>match(yy R.length).find? (z0r R ds) with
  |some h => .tup [.str "room", .int h]
  |none => .non
def z3t(w:Wb L R K)(hf:ds.all z2c=true)(hn:μ[n]?=some (.lst ds))(q:∀(l:Nat)(μ':Mem),Keep μ μ'->μ.length<=l->μ'[l]?=some (.lst (((yy R.length).map fun h=>(R.getD h 0:Int)-(z9v ds h:Nat)).map .int))->Q (.loc l) μ'):WF z3f [wn R K, .loc n] μ Q:=by
 have hrl:=w.rl;refine zkc rfl ?_;show WS z2k [some (wn R K),some (.loc n)] μ _ _ _ _;unfold z2k
 repeat walk_at "w"
 refine zHi ?_
 repeat walk_at "w"
 refine zto (.inl ⟨_,rfl,z4c (by rw[zsd,length_map];omega),?_⟩);rw[zYd (fun(k:Nat)=>D.int k) R 0];refine zHf (fun(k:Nat) => .tup [.int k, .int (R.getD k 0:Nat)]) (yy R.length) (fun(k:Nat)=>D.int ((R.getD k 0:Int)-(z9v ds k:Nat))) (fun _ _=>rfl) (fun k hk μ' kp=>?_) (fun μ' kp=>?_)
 ·repeat walk_at "w"
  refine⟨_,_,rfl,kp _ _ hn,?_⟩
  repeat walk_at "w"
  refine zTr (kp _ _ hn) rfl hf ?_
  repeat walk_at "w"
  exact⟨rfl,kp,kp⟩
 ·refine q _ _ kp.to kp.len ?_;rw[zt,map_map];rfl
def zQt(hf:ds.all z2c=true){k:Nat}{d:D}(h:ds[k]?=some d):z2c d=true:=List.all_eq_true.mp hf d (mem_of_getElem? h)
def zxp(w:Wb L R K)(hf:ds.all z2c=true)(hl:ds.length=K.length)(hn:μ[n]?=some (.lst ds))(q:∀(μ':Mem),Keep μ μ'->Q (zGl R K ds) μ'):WF zji [wn R K, .loc n] μ Q:=by
 have hrl:=w.rl;refine zkc rfl ?_;show WS zum [some (wn R K),some (.loc n),none,none,none] μ _ _ _ _;unfold zum;refine zF (zWh (zHi (zd rfl (.inr (.inr ⟨n,_,rfl,hn,?_⟩)))));refine zVc (fun m δ μ'=>∃a b:Option D,δ=[some (wn R K),some (.loc n),a,b,none]/\μ'=μ/\∀j<m,zrm K ds j=false) ⟨_,_,rfl,rfl,by simp⟩ (fun m δ μ' h=>by obtain⟨_,_,_,rfl,_⟩:=h;exact zwb hn .refl) ?_ ?_
 ·rintro m x δ μ' hx ⟨a,b,rfl,rfl,hb⟩;obtain⟨y,hy,rfl⟩:=z5l hx;have hm:m<ds.length:=(List.getElem?_eq_some_iff.mp hy).1;have hfy:=zQt hf hy;have hgy:ds.getD m .non=y:=by rw[getD_eq_getElem?_getD,hy];rfl
  have hgo:zrm K ds m=false->∀j<m+1,zrm K ds j=false:=fun h j hj=>by
   by_cases e:j=m
   ·subst e;exact h
   ·exact hb j (by omega)
  repeat walk_at "w"
  refine zdj hfy ?_
  repeat walk_at "w"
  refine⟨fun h1=>?_,fun h1=>⟨fun hc=>(by cases hc),fun _=>?_⟩⟩
  ·repeat walk_at "w"
   refine zOj ?_
   repeat walk_at "w"
   refine zwr (by omega) ?_;refine zcr rfl hfy (z1o _) ?_
   repeat walk_at "w"
   refine⟨fun h2=>?_,fun h2=>?_⟩
   ·repeat walk_at "w"
    have hh:zrm K ds m=true:=by
     unfold zrm;rw[hgy,h1,h2];rfl
    have:=q μ' .refl;unfold zGl at this;rw[zml hh (by omega) hb]at this;exact this
   ·repeat walk_at "w"
    refine⟨_,_,rfl,rfl,hgo ?_⟩;unfold zrm;rw[hgy,h2,Bool.and_false]
  ·repeat walk_at "w"
   refine⟨_,_,rfl,rfl,hgo ?_⟩;unfold zrm;rw[hgy,h1,Bool.false_and]
 ·rintro δ μ' ⟨a,b,rfl,rfl,hb⟩;rw[zsd,hl]at hb;refine zF (zWh (zHi (zw (zf (zd rfl (zf (zd rfl (zr ?_))))))));refine z3t w hf hn fun l μ1 k1 hl1 g1 => .inr (.inr ⟨l,_,rfl,g1,?_⟩);rw[zYd D.int _ 0];refine zVc (fun m δ μ'=>∃a b c:Option D,δ=[some (wn R K),some (.loc n),a,b,c]/\μ'=μ1/\∀j<m,z0r R ds j=false) ⟨_,_,_,rfl,rfl,by simp⟩ (fun m δ μ' h=>by obtain⟨_,_,_,_,rfl,_⟩:=h;exact zwb g1 .refl) ?_ ?_
  ·rintro m x δ μ2 hx ⟨a,b,c,rfl,rfl,hr⟩
   have hm:m<R.length:=by
    have:=(List.getElem?_eq_some_iff.mp hx).1;simpa using this
   have ex:x = .tup [.int m, .int ((R.getD m 0:Int)-(z9v ds m:Nat))]:=by
    rw[yh]at hx;simp[hm]at hx;rw[<-hx];simp[hm]
   subst ex
   repeat walk_at "w"
   have hdec:decide ((R.getD m 0:Int)-(z9v ds m:Nat)<0)=z0r R ds m:=by
    unfold z0r;exact decide_eq_decide.mpr (by omega)
   rw[hdec];refine⟨fun h1=>?_,fun h1=>?_⟩
   ·repeat walk_at "w"
    have:=q μ2 k1;unfold zGl at this;rw[zLf hb,zml h1 hm hr]at this;exact this
   ·repeat walk_at "w"
    refine⟨_,_,_,rfl,rfl,fun j hj=>?_⟩
    by_cases e:j=m
    ·subst e;exact h1
    ·exact hr j (by omega)
  ·rintro δ μ2 ⟨a,b,c,rfl,rfl,hr⟩;simp only[length_map,length_range]at hr
   repeat walk_at "w"
   have:=q μ2 k1;unfold zGl at this;rw[zLf hb,zLf hr]at this;exact this
abbrev PT:=List (Nat×Nat×Option Nat)
def dkP(P:PT):List (Int×D):=P.map fun p=>((p.1:Int), .tup [.int (p.2.1:Nat),onD p.2.2])
def zop(P:PT):zek (dkP P)=nat (P.map (·.1)):=by
 unfold zek dkP;rw[map_map,zOg];rfl
def zFo(P:PT)(h:Nat):((dkP P).any fun p=>decide (p.1=(h:Int)))=decide (h∈P.map (·.1)):=by
 refine zth ?_;unfold dkP;rw[any_map,any_eq_true];simp only[Function.comp,decide_eq_true_iff,mem_map];constructor
 ·rintro⟨p,hp,e⟩;exact⟨p,hp,by omega⟩
 ·rintro⟨p,hp,e⟩;exact⟨p,hp,by omega⟩
def z1j{P:PT}:(z0c (dkP P) (h:Int)).isSome=decide (h∈P.map (·.1)):=by
 rw[<-zFo,Bool.eq_iff_iff];unfold z0c;rw[Option.isSome_map,List.find?_isSome,any_eq_true]
def z2v{P:PT}(nd:(P.map (·.1)).Nodup){p:Nat×Nat×Option Nat}(hp:p∈P):z0c (dkP P) (p.1:Int)=some (.tup [.int (p.2.1:Nat),onD p.2.2]):=by
 induction P with
 |nil=>cases hp
 |cons q P ih=>
  rw[map_cons,nodup_cons]at nd
  have e:z0c (dkP (q::P)) (p.1:Int)=if(q.1:Int)=p.1 then some (.tup [.int (q.2.1:Nat),onD q.2.2]) else z0c (dkP P) (p.1:Int):=by
   unfold z0c dkP;rw[map_cons,xR]
   by_cases h:(q.1:Int)=p.1
   ·simp[h]
   ·simp[h]
  rw[e];rcases List.mem_cons.mp hp with rfl | hp
  ·rw[if_pos rfl]
  ·rw[if_neg,ih nd.2 hp];intro h;refine nd.1 (List.mem_map.mpr ⟨p,hp,by omega⟩)
def z9s{P:PT}{f:Option Nat}(hn:h∉P.map (·.1)):znq (dkP P) (h:Int) (.tup [.int k,onD f])=dkP (P++[(h,k,f)]):=by
 unfold znq;rw[zFo,decide_eq_false hn,if_neg yx];simp[dkP]
def zIv{P:PT}{f:Option Nat}(hn:h∈P.map (·.1))(ha:∀p∈P,p.2=(k,f)):znq (dkP P) (h:Int) (.tup [.int k,onD f])=dkP P:=by
 unfold znq;rw[zFo,decide_eq_true hn,if_pos rfl];unfold dkP;rw[map_map];refine List.map_congr_left fun p hp=>?_;simp only[Function.comp]
 split
 ·rw[ha p hp]
 ·rfl
structure Tree(R:List Nat)(K:List (List Nat))(lay:List (Option Nat))(key:Nat)(P:PT):Prop where
 nd:(P.map (·.1)).Nodup
 lt:∀p∈P,p.1<R.length
 ok:∀(i:Nat) p,P[i]?=some p->p.2.1<K.length/\p.1∈K.getD p.2.1 []/\((p.2.2=none/\p.2.1=key)\/∃(j:Nat)(q:Nat×Nat×Option Nat),j<i/\P[j]?=some q/\p.2.2=some q.1/\lay.getD p.2.1 none=some q.1)
def Tree.len{lay:List (Option Nat)}{key:Nat}{P:PT}(t:Tree R K lay key P):P.length<=R.length:=by
 have:=zTd t.nd (m:=yy R.length) fun x hx=>by
  obtain⟨p,hp,rfl⟩:=List.mem_map.mp hx;simpa using t.lt p hp
 simpa using this
def Tree.add{lay:List (Option Nat)}{key:Nat}{P:PT}(t:Tree R K lay key P){h k:Nat}{f:Option Nat}(hn:h∉P.map (·.1))(hr:h<R.length)(hk:k<K.length)(hm:h∈K.getD k [])
 (hf:(f=none/\k=key)\/∃(j:Nat)(q:Nat×Nat×Option Nat),P[j]?=some q/\f=some q.1/\lay.getD k none=some q.1):Tree R K lay key (P++[(h,k,f)]):=by
 refine⟨?_,fun p hp=>?_,fun i p e=>?_⟩
 ·rw[map_append,nodup_append];refine⟨t.nd,by simp,fun a ha b hb=>?_⟩;simp at hb;subst hb;exact fun e=>hn (e▸ha)
 ·rcases List.mem_append.mp hp with hp | hp
  ·exact t.lt p hp
  ·rw[List.mem_singleton.mp hp];exact hr
 ·by_cases hi:i<P.length
  ·rw[yq hi]at e;obtain⟨h1,h2,h3⟩:=t.ok i p e;refine⟨h1,h2,?_⟩;rcases h3 with h3 | ⟨j,q,hj,eq,h4⟩
   ·exact .inl h3
   ·exact .inr ⟨j,q,hj,by rw[yq (by omega)];exact eq,h4⟩
  ·rw[yK (by omega)]at e
   have hi0:i-P.length=0:=by
    have:=(List.getElem?_eq_some_iff.mp e).1;simp at this;omega
   rw[hi0]at e;have e:(h,k,f)=p:=by simpa using e
   subst e;refine⟨hk,hm,?_⟩;rcases hf with hf | ⟨j,q,eq,h4⟩
   ·exact .inl hf
   ·have hj:=(List.getElem?_eq_some_iff.mp eq).1;exact .inr ⟨j,q,by omega,by rw[yq hj];exact eq,h4⟩
def zKs(d l:Nat)(μ ν:Mem):Prop:=∀i o,i≠d->i≠l->μ[i]?=some o->ν[i]?=some o
abbrev JPa(R:List Nat)(K:List (List Nat))(lay:List (Option Nat))(key n d l2 at_ o:Nat)(P0:PT)(ν:Mem):Nat->M.Loc->Mem->Prop:=fun m δ ν'=>∃(P:PT)(x:Option D),δ=[some (wn R K),some (.loc n),some (.int key),some (.loc d),x,some (.loc l2),some (.int at_),some (.int o)]/\(∃E,P=P0++E)/\Tree R K lay key P/\(∀h∈(K.getD o []).take m,h∈P.map (·.1))/\zKs d l2 ν ν'/\ν'[d]?=some (.dct (dkP P))/\ν'[l2]?=some (.lst (nat (P.map (·.1))))
def z2t{lay:List (Option Nat)}{key d l2 at_ o:Nat}{P0:PT}{q:Nat×Nat×Option Nat}{x4:Option D}{ν:Mem}{bk ct:M.Loc->Mem->Prop}(w:Wb L R K)(t:Tree R K lay key P0)(ho:o<K.length)(hq:P0[at_]?=some q)(hlo:lay.getD o none=some q.1)
 (hl2:d<l2) (gd:ν[d]?=some (.dct (dkP P0))) (gl:ν[l2]?=some (.lst (nat (P0.map (·.1)))))
 (k:∀(P:PT)(x:Option D)(ν':Mem),(∃E,P=P0++E)->Tree R K lay key P->(∀h∈K.getD o [],h∈P.map (·.1))->zKs d l2 ν ν'->ν'[d]?=some (.dct (dkP P))->ν'[l2]?=some (.lst (nat (P.map (·.1))))->nx [some (wn R K),some (.loc n),some (.int key),some (.loc d),x,some (.loc l2),some (.int at_),some (.int o)] ν') :
 WS zsf [some (wn R K),some (.loc n),some (.int key),some (.loc d),x4,some (.loc l2),some (.int at_),some (.int o)] ν nx rt bk ct:=by
 unfold zsf;refine zWh (zuf (zq (zq (zd rfl (w_c (zOj (zd rfl (zwr ho (.inl ⟨_,rfl,?_⟩)))))))));refine zVc (JPa R K lay key n d l2 at_ o P0 ν) ⟨P0,_,rfl,⟨[],by simp⟩,t,by simp,fun _ _ _ _ e=>e,gd,gl⟩ (fun _ _ _ _=>rfl) ?_ ?_
 ·rintro m x δ ν1 hx ⟨P,y,rfl,⟨E,hE⟩,tP,hm,k1,g1,g2⟩;rw[yh]at hx
  cases hy:(K.getD o [])[m]? with
  |none=>rw[hy]at hx;cases hx
  |some h=>
   rw[hy]at hx;cases hx;have hmem:=mem_of_getElem? hy;have htk:(K.getD o []).take (m+1)=(K.getD o []).take m++[h]:=by rw[take_succ,hy];rfl
   have hpl:=tP.len;have hrl:=w.rl
   have hat:(P.map (·.1))[at_]?=some q.1:=by
    have hlt:=(List.getElem?_eq_some_iff.mp hq).1;rw[hE,map_append,yq (by simpa using hlt),yh,hq];rfl
   refine z5h ?_;unfold zuh;refine zai (zO (zq (zd rfl (zd rfl (zou (zQd g1) ⟨_,rfl,fun hb=>?_,fun hb=>zPb ?_⟩)))))
   ·have hnew:h∉P.map (·.1):=by
     rw[z1j]at hb;simpa using hb
    refine zF (zPq (zoi (zf (zd rfl (zf (zq (zd rfl (zd rfl (zMc (zy g2) (zEc (v := .int (q.1:Nat)) (by rw[yh,hat];rfl)) (zr ?_))))))))));refine z9o (zd rfl (zd rfl ⟨_,_,_,rfl,rfl,g1,by simp[dkP];omega,?_⟩));rw[show(D.tup [.int (o:Nat), .int (q.1:Nat)]) = .tup [.int (o:Nat),onD (some q.1)] from rfl,z9s hnew];have g1':=zbb (o':=LObj.dct (dkP (P++[(h,o,some q.1)]))) g1;have g2':=zS (o':=LObj.dct (dkP (P++[(h,o,some q.1)]))) g2 (by omega:d≠l2);refine zDk (zRi (zd rfl ⟨_,_,rfl,g2',?_⟩));refine zf (zd rfl (zr ?_));refine znj g2' (by rw[length_map,length_map];omega) ?_
    have hatP:P[at_]?=some q:=by
     have hlt:=(List.getElem?_eq_some_iff.mp hq).1;rw[hE,yq hlt];exact hq
    refine⟨P++[(h,o,some q.1)],_,rfl,⟨E++[(h,o,some q.1)],by rw[hE];simp⟩,tP.add hnew ((w.key ho).2 h hmem) ho hmem (.inr ⟨at_,q,hatP,rfl,hlo⟩),fun g hg=>?_,fun i o' hi1 hi2 e'=>zS (zS (k1 i o' hi1 hi2 e') (yN hi1)) (yN hi2),zS g1' (by omega),?_⟩
    ·rw[htk]at hg;rw[map_append,mem_append];rcases List.mem_append.mp hg with hg | hg
     ·exact .inl (hm g hg)
     ·rw[List.mem_singleton.mp hg];exact .inr (by simp)
    ·rw[zbb g2',map_append,zng];rfl
   ·have hold:h∈P.map (·.1):=by
     rw[z1j]at hb;simpa using hb
    refine⟨P,_,rfl,⟨E,hE⟩,tP,fun g hg=>?_,k1,g1,g2⟩;rw[htk]at hg;rcases List.mem_append.mp hg with hg | hg
    ·exact hm g hg
    ·rw[List.mem_singleton.mp hg];exact hold
 ·rintro δ ν1 ⟨P,y,rfl,hE,tP,hm,k1,g1,g2⟩;rw[length_map,take_length]at hm;exact k P y ν1 hE tP hm k1 g1 g2
abbrev JPb(R:List Nat)(K:List (List Nat))(lay:List (Option Nat))(key n:Nat)(μ:Mem):Nat->M.Loc->Mem->Prop:=fun m δ ν=>∃(P:PT)(x:Option D),δ=[some (wn R K),some (.loc n),some (.int key),some (.loc μ.length),x,none,none,none]/\Tree R K lay key P/\(∀p∈P,p.2=(key,none))/\(∀h∈(K.getD key []).take m,h∈P.map (·.1))/\Keep μ ν/\ν[μ.length]?=some (.dct (dkP P))
abbrev JPc(R:List Nat)(K:List (List Nat))(lay:List (Option Nat))(key n:Nat)(μ ν1:Mem):Nat->M.Loc->Mem->Prop:=fun m δ ν=>∃(P:PT)(at_:Nat)(x y:Option D),m=R.length-at_/\at_<=P.length/\δ=[some (wn R K),some (.loc n),some (.int key),some (.loc μ.length),x,some (.loc ν1.length),some (.int at_),y]/\Tree R K lay key P/\(∀h∈K.getD key [],h∈P.map (·.1))/\(∀(i:Nat) p,i<at_->P[i]?=some p->∀o,lay.getD o none=some p.1->∀h∈K.getD o [],h∈P.map (·.1))/\Keep μ ν/\ν[μ.length]?=some (.dct (dkP P))/\ν[ν1.length]?=some (.lst (nat (P.map (·.1))))
abbrev JPd(R:List Nat)(K:List (List Nat))(lay:List (Option Nat))(key n:Nat)(μ ν1:Mem)(at_:Nat)(P:PT)(q0:Nat×Nat×Option Nat)(l4:Nat):Nat->M.Loc->Mem->Prop:=fun j δ ν=>∃(P':PT)(x y:Option D),δ=[some (wn R K),some (.loc n),some (.int key),some (.loc μ.length),x,some (.loc ν1.length),some (.int at_),y]/\(∃E,P'=P++E)/\Tree R K lay key P'/\(∀o∈(zql lay q0.1).take j,∀h∈K.getD o [],h∈P'.map (·.1))/\Keep μ ν/\ν[μ.length]?=some (.dct (dkP P'))/\ν[ν1.length]?=some (.lst (nat (P'.map (·.1))))/\ν[l4]?=some (.lst (nat (zql lay q0.1)))
def zco{lay:List (Option Nat)}{key:Nat}(w:Wb L R K)(hlen:lay.length=K.length)(hL:L<=1000)(hn:μ[n]?=some (.lst (lay.map onD)))(hk:key<K.length)
 (q:∀(P:PT)(d:Nat)(μ':Mem),Tree R K lay key P->(∀h∈K.getD key [],h∈P.map (·.1))->(∀p∈P,∀o,lay.getD o none=some p.1->∀h∈K.getD o [],h∈P.map (·.1))->Keep μ μ'->μ.length<=d->μ'[d]?=some (.dct (dkP P))->Q (.loc d) μ'):WF zof [wn R K, .loc n, .int key] μ Q:=by
 have hrl:=w.rl;have hkl:=w.kl;refine zkc rfl ?_;show WS zrf [some (wn R K),some (.loc n),some (.int key),none,none,none,none,none] μ _ _ _ _;unfold zrf;refine zF (zCb (z8w (zF (zWh (zuf (zq (zq (zd rfl (w_c (zOj (zd rfl (zwr hk (.inl ⟨_,rfl,?_⟩))))))))))))) ;refine zVc (JPb R K lay key n μ) ⟨[],_,rfl,⟨by simp,by simp,fun i p e=>by simp at e⟩,by simp,by simp, .app,zt⟩ (fun _ _ _ _=>rfl) ?_ ?_
 ·rintro m x δ ν1 hx ⟨P,y,rfl,tP,ha,hm,k1,g1⟩;rw[yh]at hx
  cases hy:(K.getD key [])[m]? with
  |none=>rw[hy]at hx;cases hx
  |some h=>
   rw[hy]at hx;cases hx;have hmem:=mem_of_getElem? hy;have htk:(K.getD key []).take (m+1)=(K.getD key []).take m++[h]:=by rw[take_succ,hy];rfl
   have hpl:=tP.len;refine z5h ?_;unfold zTh;refine zPq (zoi (zf (zd rfl (zf (w_c (zr ?_))))));refine z9o (zd rfl (zd rfl ⟨_,_,_,rfl,rfl,g1,by simp[dkP];omega,?_⟩));rw[show(D.tup [.int (key:Nat), .non]) = .tup [.int (key:Nat),onD none] from rfl];have kk:∀o':LObj,Keep μ (ν1.set μ.length o'):=fun o' i o e=>zS (k1 i o e) (yV (zI e))
   by_cases hin:h∈P.map (·.1)
   ·rw[zIv hin ha];refine⟨P,_,rfl,tP,ha,fun g hg=>?_,kk _,zbb g1⟩;rw[htk]at hg;rcases List.mem_append.mp hg with hg | hg
    ·exact hm g hg
    ·rw[List.mem_singleton.mp hg];exact hin
   ·rw[z9s hin];refine⟨P++[(h,key,none)],_,rfl,tP.add hin ((w.key hk).2 h hmem) hk hmem (.inl ⟨rfl,rfl⟩),fun p hp=>?_,fun g hg=>?_,kk _,zbb g1⟩
    ·rcases List.mem_append.mp hp with hp | hp
     ·exact ha p hp
     ·rw[List.mem_singleton.mp hp]
    ·rw[htk]at hg;rw[map_append,mem_append];rcases List.mem_append.mp hg with hg | hg
     ·exact .inl (hm g hg)
     ·rw[List.mem_singleton.mp hg];exact .inr (by simp)
 ·rintro δ ν1 ⟨P0,y,rfl,tP0,_,hm0,k1,g1⟩;rw[length_map,take_length]at hm0;refine zF (zCb (zw (zf (zd rfl (zr (zEv (zQd g1) ?_))))));rw[zop];have hl2:μ.length<ν1.length:=zI g1;refine zF (zCb (w_c (zF ?_)));refine zUl (JPc R K lay key n μ ν1) (m:=R.length) (by omega) ⟨P0,0,_,_,by simp,by simp,rfl,tP0,hm0,by simp,k1.to,zAc g1,zt⟩ ?_;rintro m δ ν2 ⟨P,at_,x,y,rfl,hat,rfl,tP,hkey,hcl,k2,g2,g3⟩;have hpl:=tP.len
  repeat walk_at "w"
  refine zWi (zy g3) ?_;refine zLm ⟨_,rfl,fun h1=>?_,fun h1=>?_⟩
  ·have h1:at_<P.length:=by
    have:=of_decide_eq_true h1;simp only[length_map]at this;omega
   have hq:P[at_]?=some P[at_]:=by simp[h1]
   generalize P[at_]=q0 at hq;have hat':(P.map (·.1))[at_]?=some q0.1:=by rw[yh,hq];rfl
   unfold zah;refine zF (zWh (zuf (zw (zf (zd rfl (zf (zq (zd rfl (zd rfl (zMc (zy g3) (zEc (v := .int (q0.1:Nat)) (by rw[yh,hat'];rfl)) (zr ?_)))))))))));refine zxt (h:=q0.1) (k2 _ _ hn) (by omega) fun l4 ν4 k4 hl4 g4 => .inr (.inr ⟨l4,_,rfl,g4,?_⟩);have hν2:=zI g3;refine zVc (JPd R K lay key n μ ν1 at_ P q0 l4) ⟨P,_,_,rfl,⟨[],by simp⟩,tP,by simp,k2.trans k4,k4 _ _ g2,k4 _ _ g3,g4⟩ (fun j δ ν ⟨_,_,_,_,_,_,_,_,_,_,h⟩=>zwb h .refl) ?_ ?_
   ·rintro j z δ ν5 hz ⟨P',x',y',rfl,⟨E,hE⟩,tP',hdone,k5,g5,g6,g7⟩;rw[yh]at hz
    cases ho:(zql lay q0.1)[j]? with
    |none=>rw[ho]at hz;cases hz
    |some o=>
     rw[ho]at hz;cases hz;have hom:=mem_of_getElem? ho;have hom':=List.mem_filter.mp hom;have hol:o<K.length:=by rw[<-hlen];simpa using hom'.1
     have hlo:=of_decide_eq_true hom'.2;have htk:(zql lay q0.1).take (j+1)=(zql lay q0.1).take j++[o]:=by rw[take_succ,ho];rfl
     have hq':P'[at_]?=some q0:=by rw[hE,yq h1];exact hq
     refine z5h ?_;have hl5:=zI g6;refine z2t w tP' hol hq' hlo hl2 g5 g6 fun P'' x'' ν6 ⟨E',hE'⟩ tP'' hall k6 g8 g9=>⟨P'',_,_,rfl,⟨E++E',by rw[hE',hE,append_assoc]⟩,tP'',fun o' ho' h hh=>?_,fun i o' e'=>k6 i o' (yz (zI e')) (by have:=zI e';omega) (k5 i o' e'),g8,g9,k6 l4 _ (by omega) (by omega) g7⟩
     rw[htk]at ho';rcases List.mem_append.mp ho' with ho' | ho'
     ·rw[hE',map_append,mem_append];exact .inl (hdone o' ho' h hh)
     ·rw[List.mem_singleton.mp ho']at hh;exact hall h hh
   ·rintro δ ν5 ⟨P',x',y',rfl,⟨E,hE⟩,tP',hdone,k5,g5,g6,g7⟩;rw[nat,length_map,take_length]at hdone;have hpl':=tP'.len;refine zlz rfl (w_c (zzy ?_));refine⟨R.length-(at_+1),by omega,P',at_+1,_,_,rfl,by rw[hE];simp;omega,rfl,tP',fun h hh=>?_,fun i p hi e o ho h hh=>?_,k5,g5,g6⟩
    ·rw[hE,map_append,mem_append];exact .inl (hkey h hh)
    ·by_cases hia:i<at_
     ·rw[hE,yq (by omega)]at e;rw[hE,map_append,mem_append];exact .inl (hcl i p hia e o ho h hh)
     ·have:i=at_:=by omega
      subst this;rw[hE,yq h1,hq]at e;cases e;refine hdone o ?_ h hh;refine List.mem_filter.mpr ⟨?_,decide_eq_true ho⟩;rw[mem_range];refine Nat.lt_of_not_le fun hle=>?_;rw[getD_eq_getElem?_getD,YG hle]at ho;cases ho
  ·refine zjc (zd rfl ?_)
   have h1:at_=P.length:=by
    have:=of_decide_eq_false h1;simp only[length_map]at this;omega
   refine q P _ ν2 tP hkey (fun p hp o e h hh=>?_) k2 (yi _) g2;obtain⟨i,hi,rfl⟩:=List.mem_iff_getElem.mp hp;exact hcl i P[i] (by omega) (by simp[hi]) o e h hh
abbrev pD(p:Nat×Nat):D := .tup [.int (p.1:Nat), .int (p.2:Nat)]
inductive Path(P:PT)(lay:List (Option Nat)):Nat->List (Nat×Nat)->Prop
 |one {i:Nat} {p:Nat×Nat×Option Nat} (e:P[i]?=some p):Path P lay i [(p.2.1,p.1)]
 |up {i j:Nat} {p q:Nat×Nat×Option Nat} {row:List (Nat×Nat)} (h:Path P lay i row) (e:P[i]?=some p) (eq:P[j]?=some q) (hj:j<i) (hf:p.2.2=some q.1) (hl:lay.getD p.2.1 none=some q.1):Path P lay j ((q.2.1,q.1)::row)
def Path.head{P:PT}{lay:List (Option Nat)}(h:Path P lay i row):∃p r,P[i]?=some p/\row=(p.2.1,p.1)::r:=by
 cases h with
 |one e=>exact⟨_,_,e,rfl⟩
 |up h e eq hj hf hl=>exact⟨_,_,eq,rfl⟩
def Path.idx{P:PT}{lay:List (Option Nat)}(h:Path P lay i row):∀x∈row,∃j p,i<=j/\P[j]?=some p/\x=(p.2.1,p.1):=by
 induction h with
 |one e=>intro x hx;rw[List.mem_singleton.mp hx];exact⟨_,_,yi _,e,rfl⟩
 |up h e eq hj hf hl ih=>
  intro x hx;rcases List.mem_cons.mp hx with rfl | hx
  ·exact⟨_,_,yi _,eq,rfl⟩
  ·obtain⟨m,p,hm,e',r⟩:=ih x hx;exact⟨m,p,by omega,e',r⟩
def Path.tail{P:PT}{lay:List (Option Nat)}(h:Path P lay i row):∀x∈row.tail,∃j p,i<=j/\P[j]?=some p/\lay.getD x.1 none=some p.1:=by
 induction h with
 |one e=>intro x hx;cases hx
 |up h e eq hj hf hl ih=>
  intro x hx;obtain⟨p',r,e',er⟩:=h.head;rw[e]at e';cases e';rw[List.tail_cons,er]at hx;rcases List.mem_cons.mp hx with rfl | hx
  ·exact⟨_,_,yi _,eq,hl⟩
  ·obtain⟨m,p,hm,e',r⟩:=ih x (by rw[er];exact hx);exact⟨m,p,by omega,e',r⟩
def Path.link{P:PT}{lay:List (Option Nat)}(h:Path P lay i row):∀n p q,row[n]?=some p->row[n+1]?=some q->lay.getD q.1 none=some p.2:=by
 induction h with
 |one e=>intro n p q _ e2;simp at e2
 |up h e eq hj hf hl ih=>
  intro n p q e1 e2
  cases n with
  |zero=>
   obtain⟨p',r,e',er⟩:=h.head;rw[e]at e';cases e';rw[er]at e2;simp at e1 e2;subst e1 e2;exact hl
  |succ n=>exact ih n p q (by simpa using e1) (by simpa using e2)
def zTx{P:PT}(nd:(P.map (·.1)).Nodup){i j:Nat}{p q:Nat×Nat×Option Nat}(e1:P[i]?=some p)(e2:P[j]?=some q)(h:p.1=q.1):i=j:=by
 have h1:(P.map (·.1))[i]?=some p.1:=by rw[yh,e1];rfl
 have h2:(P.map (·.1))[j]?=some p.1:=by rw[yh,e2,h];rfl
 obtain⟨a,h1⟩:=List.getElem?_eq_some_iff.mp h1;obtain⟨b,h2⟩:=List.getElem?_eq_some_iff.mp h2;have pw:=List.pairwise_iff_getElem.mp nd;rcases Nat.lt_trichotomy i j with h | h | h
 ·exact absurd (h1.trans h2.symm) (pw i j a b h)
 ·exact h
 ·exact absurd (h2.trans h1.symm) (pw j i b a h)
def Path.ndk{P:PT}{lay:List (Option Nat)}{key:Nat}(t:Tree R K lay key P)(hkey:lay.getD key none=none)(h:Path P lay i row):(row.map (·.1)).Nodup:=by
 induction h with
 |one e=>simp
 |@up i j p q row h e eq hj hf hl ih=>
  rw[map_cons,nodup_cons];refine⟨fun hm=>?_,ih⟩;obtain⟨x,hx,ex⟩:=List.mem_map.mp hm;have ht:=(Path.up h e eq hj hf hl).tail x hx;obtain⟨m,p',hm',e',el⟩:=ht;rw[ex]at el;obtain⟨_,_,h3⟩:=t.ok j q eq;rcases h3 with ⟨_,h3⟩ | ⟨j',q',hj',eq',_,h4⟩
  ·simp only at el;rw[h3,hkey]at el;cases el
  ·simp only at el;rw[h4]at el;have:=zTx t.nd eq' e' (by injection el);omega
def Path.ok{P:PT}{lay:List (Option Nat)}{key:Nat}{p:Nat×Nat×Option Nat}(t:Tree R K lay key P)(hkey:lay.getD key none=none)(h:Path P lay i row)(e:P[i]?=some p)(hp:p.2.2=none):RowOk K lay key row:=by
 refine⟨?_,fun x hx=>?_,h.link,h.ndk t hkey⟩
 ·obtain⟨p',r,e',er⟩:=h.head;rw[e]at e';cases e';rcases(t.ok i p e).2.2 with ⟨_,h3⟩ | ⟨_,_,_,_,h3,_⟩
  ·exact⟨p.1,r,by rw[er,h3]⟩
  ·rw[hp]at h3;cases h3
 ·obtain⟨j,q,_,eq,rfl⟩:=h.idx x hx;obtain⟨h1,h2,h3⟩:=t.ok j q eq;refine⟨h1,h2,?_⟩;rcases h3 with ⟨_,h3⟩ | ⟨j',q',hj',eq',_,h4⟩
  ·simp only;rw[h3,hkey];exact fun h=>by cases h
  ·simp only;rw[h4];intro h;have:=zTx t.nd eq' eq (by injection h);omega
abbrev JRo(P:PT)(lay:List (Option Nat))(p0:Nat×Nat×Option Nat)(d:Nat)(μ:Mem):Nat->M.Loc->Mem->Prop:=fun m δ ν=>∃(acc:List (Nat×Nat)) (f:Option Nat),δ=[some (.loc d),some (onD f),some (.loc μ.length)]/\Keep μ ν/\ν[μ.length]?=some (.lst (acc.map pD))/\acc.length+m<=P.length /\
 ((f=none∧(∃ k,acc[0]?=some (k,p0.1))∧∃ i p,Path P lay i acc.reverse∧P[i]?=some p∧p.2.2=none) ∨
  (∃i p,m=i+1/\P[i]?=some p/\f=some p.1/\((acc=[]/\p=p0)\/((∃k,acc[0]?=some (k,p0.1))/\∃i' p',i<i'/\Path P lay i' acc.reverse/\P[i']?=some p'/\p'.2.2=some p.1/\lay.getD p'.2.1 none=some p.1))))
def zYt{lay:List (Option Nat)}{key d i0:Nat}{p0:Nat×Nat×Option Nat}{P:PT}(t:Tree R K lay key P)(hR:R.length<=10)(hkey:lay.getD key none=none)(hd:ztc μ (.loc d)=some (dkP P))(hp0:P[i0]?=some p0)
 (q:∀(row:List (Nat×Nat)) (l:Nat) (μ':Mem),RowOk K lay key row->(row.getD (row.length-1) (0,0)).2=p0.1->row.length<=P.length->Keep μ μ'->μ.length<=l->μ'[l]?=some (.lst (row.map pD))->Q (.loc l) μ'):WF z2i [.loc d, .int p0.1] μ Q:=by
 have hpl:=t.len;refine zkc rfl ?_;show WS zlj [some (.loc d),some (.int p0.1),none] μ _ _ _ _;unfold zlj;refine zF (zCb (z3g (zr (zF ?_))));have hi0:=(List.getElem?_eq_some_iff.mp hp0).1
 have hdk:∀{μ':Mem},Keep μ μ'->ztc μ' (.loc d)=some (dkP P):=fun{μ'} kp=>by
  cases e:μ[d]? with
  |none=>simp[e]at hd
  |some o=>
   have e':=kp _ _ e;simp only[ztc,e]at hd;simp only[ztc,e'];exact hd
 refine zUl (JRo P lay p0 d μ) (m:=i0+1) (by omega)
  ⟨[],some p0.1,rfl, .app,zt,by simp;omega, .inr ⟨i0,p0,rfl,hp0,rfl, .inl ⟨rfl,rfl⟩⟩⟩ ?_
 rintro m δ ν ⟨acc,f,rfl,kp,g,hlen,h⟩;refine zO (zq (zd rfl (w_c (zdj (zDp _) ⟨_,rfl,fun h1=>?_,fun h1=>?_⟩))))
 ·rcases h with ⟨rfl,_⟩ | ⟨i,p,rfl,ep,rfl,h⟩
  ·cases h1
  ·have hlook:=z2v t.nd (mem_of_getElem? ep)
   have hnew:Path P lay i ((p.2.1,p.1)::acc.reverse):=by
    rcases h with ⟨rfl,rfl⟩ | ⟨_,i',p',hi',hpa,ep',hf,hl⟩
    ·exact .one ep
    ·exact .up hpa ep' ep hi' hf hl
   have hac:∃k,(acc++[(p.2.1,p.1)])[0]?=some (k,p0.1):=by
    rcases h with ⟨rfl,rfl⟩ | ⟨⟨k,hk⟩,_⟩
    ·exact⟨p.2.1,rfl⟩
    ·refine⟨k,?_⟩;rw[yq (List.getElem?_eq_some_iff.mp hk).1];exact hk
   unfold zkl;refine zF (zDk (zRi (zd rfl ⟨_,_,rfl,g,?_⟩)));refine zf (zoi (zf (zq (zq (zd rfl (zd rfl (zGv (hdk kp) hlook (w_c (zMc rfl rfl (zf (zd rfl (zr (zr ?_)))))))))))));refine znj g (by rw[length_map];omega) ?_;have kp2:Keep μ (ν.set μ.length (.lst (acc.map pD++[pD (p.2.1,p.1)]))):=fun a o e=>zS (kp a o e) (yV (zI e));refine zCb (zq (zq (zd rfl (zd rfl (zGv (hdk kp2) hlook (w_c (zMc rfl rfl ?_)))))));obtain⟨_,_,h3⟩:=t.ok i p ep;rcases h3 with ⟨h3,_⟩ | ⟨j,q',hj,eq',h3,h4⟩
   ·refine⟨0,by omega,acc++[(p.2.1,p.1)],none,?_,kp2,?_,by rw[length_append];simp;omega, .inl ⟨rfl,hac,i,p,?_,ep,h3⟩⟩
    ·rw[h3];rfl
    ·rw[zbb g,map_append];rfl
    ·rw[List.reverse_append];exact hnew
   ·refine⟨j+1,by omega,acc++[(p.2.1,p.1)],some q'.1,?_,kp2,?_,by rw[length_append];simp;omega, .inr ⟨j,q',rfl,eq',rfl, .inr ⟨hac,i,p,hj,?_,ep,h3,h4⟩⟩⟩
    ·rw[h3];rfl
    ·rw[zbb g,map_append];rfl
    ·rw[List.reverse_append];exact hnew
 ·rcases h with ⟨rfl,⟨k,hk⟩,i,p,hpa,ep,hn⟩ | ⟨i,p,rfl,ep,rfl,h⟩
  ·refine zjc (zhx (zd rfl ⟨_,_,rfl,g,?_⟩));refine q acc.reverse _ _ (hpa.ok t hkey ep hn) ?_ (by rw[List.length_reverse];omega) kp.to kp.len ?_
   ·have h0:=(List.getElem?_eq_some_iff.mp hk).1
    have:acc.reverse[acc.reverse.length-1]?=some (k,p0.1):=by
     rw[List.length_reverse,List.getElem?_reverse (by omega),show acc.length-1-(acc.length-1)=0 by omega];exact hk
    rw[getD_eq_getElem?_getD,this];rfl
   ·rw[zt,List.map_reverse]
  ·cases h1
def z0w(P:PT)(lay:List (Option Nat))(key:Nat):List Nat:=(yy lay.length).filter fun o=>decide (o=key)||decide (∃p∈P,lay.getD o none=some p.1)
def zRp{lay:List (Option Nat)}{key:Nat}(w:Wb L R K)(hlen:lay.length=K.length)(hL:L<=1000)(hn:μ[n]?=some (.lst (lay.map onD)))(hk:key<K.length)(hkey:lay.getD key none=none)
 (q1:∀(row:List (Nat×Nat)) (l:Nat) (μ':Mem),RowOk K lay key row->lay.count (some (row.getD (row.length-1) (0,0)).2)<R.getD (row.getD (row.length-1) (0,0)).2 0->row.length<=10->Keep μ μ'->μ.length<=l->μ'[l]?=some (.lst (row.map pD))->Q (.tup [.str "put", .loc l]) μ')
 (q2:∀(S:List Nat)(l:Nat)(μ':Mem),S.Sublist (yy K.length)->key∈S->Shut R K lay S->Keep μ μ'->μ.length<=l->μ'[l]?=some (.lst (nat S))->Q (.tup [.str "full", .loc l]) μ'):WF zkf [wn R K, .loc n, .int key] μ Q:=by
 have hrl:=w.rl;have hkl:=w.kl;refine zkc rfl ?_;show WS z1i [some (wn R K),some (.loc n),some (.int key),none,none,none] μ _ _ _ _;unfold z1i;refine zF (zCb (zw (zf (zd rfl (zf (zd rfl (zf (zd rfl (zr ?_)))))))));refine zco w hlen hL hn hk fun P d μ1 t hhome hcl k1 hd g1=>?_;refine zF (zCb (zw (zf (zd rfl (zf (zd rfl (zr ?_)))))));refine zIo w (k1 _ _ hn) fun l2 μ2 k2 hl2 g2=>?_;have g1':=k2 _ _ g1;have hpl:=t.len;refine zF (zWh (zgv (zd rfl ⟨_,_,rfl,g1',?_⟩)));have hd1:d<μ1.length:=zI g1;have kf:Keep μ (μ2.set d (.dcf (dkP P))):=fun i o e=>zS ((k1.trans k2) i o e) (by have:=zI e;omega);have gd:=zbb (o':=LObj.dcf (dkP P)) g1';have gl:=zS (o':=LObj.dcf (dkP P)) g2 (by omega:d≠l2);generalize μ2.set d (.dcf (dkP P))=μ3 at kf gd gl;rw[zop];refine zVc (fun m δ ν=>∃x:Option D,δ=[some (wn R K),some (.loc n),some (.int key),some (.loc d),some (.loc l2),x]/\ν=μ3/\∀(i:Nat) p,i<m->P[i]?=some p->R.getD p.1 0<=lay.count (some p.1)) ⟨_,rfl,rfl,by simp⟩ (fun _ _ _ _=>rfl) ?_ ?_
 ·rintro m x δ ν hx ⟨y,rfl,rfl,hb⟩;rw[yh,yh]at hx
  cases ep:P[m]? with
  |none=>rw[ep]at hx;cases hx
  |some p=>
   rw[ep]at hx;cases hx;have hlt:=t.lt p (mem_of_getElem? ep);refine z5h ?_;unfold zDl;refine zai (zO (zq (zq (zd rfl (zd rfl (zMc (zy gl) (zEc (v := .int ((R.getD p.1 0:Int)-(lay.count (some p.1):Nat))) (by unfold z0t;simp[hlt])) (w_c (zLm ⟨_,rfl,fun h1=>?_,fun h1=>?_⟩))))))))
   ·have h1:=of_decide_eq_true h1;refine zjc (zoi (zf (w_c (zf (zw (zf (zd rfl (zf (zd rfl (zr ?_))))))))));refine zYt t hrl.2 hkey (zsi gd) ep fun row l μ4 hrow hlast hrl4 k4 hl4 g4=>zr ?_;refine q1 row l μ4 hrow ?_ (by omega) (kf.trans k4) (by have:=kf.len;omega) g4;rw[hlast];omega
   ·have h1:=of_decide_eq_false h1;refine zPb ⟨_,rfl,rfl,fun i p' hi e'=>?_⟩
    by_cases hm:i=m
    ·subst hm;rw[ep]at e';cases e';omega
    ·exact hb i p' (by omega) e'
 ·rintro δ ν ⟨y,rfl,rfl,hb⟩;rw[nat,length_map,length_map]at hb
  have hfull:∀p∈P,R.getD p.1 0<=lay.count (some p.1):=fun p hp=>by
   obtain⟨i,hi,rfl⟩:=List.mem_iff_getElem.mp hp;exact hb i P[i] hi (by simp[hi])
  refine zjc (zoi (zf (w_c (zf (z5p ?_)))));refine zHi (zd rfl (.inr (.inr ⟨n,_,rfl,kf _ _ hn,z4c (by rw[zsd,length_map];omega),?_⟩)));rw[zYd onD lay none];refine zCk (fun(k:Nat) => .tup [.int k,onD (lay.getD k none)]) (yy lay.length) (fun(k:Nat)=>D.int k) (fun o=>decide (o=key)||decide (∃p∈P,lay.getD o none=some p.1)) (fun μ' k'=>zwb (kf _ _ hn) k') (fun k hk' μ' kp=>?_) (fun μ' kp=>?_)
  ·have gd':=kp _ _ gd;refine zKt (zqo (z5h (zqo (z5h (zPt ?_)))));unfold z6k zhl;refine zem (zO (zq (zd rfl (zd rfl (z3p ⟨_,rfl,fun h1=>?_,fun h1=>?_⟩)))))
   ·have h1:k≠key:=by
     intro e;rw[e]at h1;simp at h1
    rw[decide_eq_false h1,Bool.false_or]
    cases e:lay.getD k none with
    |none=>
     refine zO (zq (zd rfl (zd rfl (zfx (zsi gd') ?_ ⟨_,rfl,?_,kp,fun hb=>(by cases hb)⟩))))
     ·rw[List.all_eq_true];intro x hx;obtain⟨p,hp,rfl⟩:=List.mem_map.mp hx;have:=t.lt p hp;exact decide_eq_true (by simp only;omega)
     ·symm
      refine decide_eq_false ?_;rintro⟨p,_,e⟩;cases e
    |some h=>
     refine zO (zq (zd rfl (zd rfl (z1u (zsi gd') ⟨_,rfl,?_,kp,fun hb=>zd rfl ⟨rfl,kp⟩⟩))));rw[z1j];refine decide_eq_decide.mpr ?_;rw[mem_map];constructor
     ·rintro⟨p,hp,rfl⟩;exact⟨p,hp,rfl⟩
     ·rintro⟨p,hp,e⟩;cases e;exact⟨p,hp,rfl⟩
   ·have h1:k=key:=by
     have:=beq_iff_eq.mp h1;omega
    rw[decide_eq_true h1,Bool.true_or];exact⟨rfl,kp,fun _=>zd rfl ⟨rfl,kp⟩⟩
  ·refine zr (q2 (z0w P lay key) _ _ ?_ ?_ ?_ (kf.trans kp.to) (kf.trans kp).len zt)
   ·rw[<-hlen];exact filter_sublist
   ·exact List.mem_filter.mpr ⟨by simpa[hlen] using hk,by simp⟩
   ·have hin:∀k∈z0w P lay key,∀h∈K.getD k [],∃p∈P,p.1=h:=fun k hkm h hh=>by
     have hm:=(List.mem_filter.mp hkm).2;rw[Bool.or_eq_true,decide_eq_true_iff,decide_eq_true_iff]at hm;rcases hm with rfl | ⟨p,hp,e⟩
     ·obtain⟨p,hp,e⟩:=List.mem_map.mp (hhome h hh);exact⟨p,hp,e⟩
     ·obtain⟨p',hp',e'⟩:=List.mem_map.mp (hcl p hp k e h hh);exact⟨p',hp',e'⟩
    refine⟨fun k hkm=>?_,fun k hkm h hh=>?_,fun k hkm h hh o e=>?_⟩
    ·have:=(List.mem_filter.mp hkm).1;rw[<-hlen];simpa using this
    ·obtain⟨p,hp,rfl⟩:=hin k hkm h hh;exact hfull p hp
    ·obtain⟨p,hp,rfl⟩:=hin k hkm h hh;refine List.mem_filter.mpr ⟨?_,?_⟩
     ·rw[mem_range];refine Nat.lt_of_not_le fun hle=>?_;rw[getD_eq_getElem?_getD,YG hle]at e;cases e
     ·rw[Bool.or_eq_true];exact .inr (decide_eq_true ⟨p,hp,e⟩)
def znx{xs ys:List D}(h:μ[n]?=some (.lst xs))(h2:μ[m]?=some (.lst ys))(hl:xs.length+ys.length<=1000000)(q:Q .non (μ.set n (.lst (xs++ys)))):WM znv (.loc n) [.loc m] μ Q:=⟨_,_,by simp[h,h2,hl]<;>rfl,q⟩
def zny{lay:List (Option Nat)}(h:k<lay.length):atI (lay.map onD) (k:Int)=some (onD (lay.getD k none)):=zEc (by simp[h])
def zQq{p:Nat×Nat}(e:row[i]?=some p):atI (row.map pD) (i:Int)=some (pD p):=zEc (by rw[yh,e];rfl)
def zXs{lay:List (Option Nat)}{key r:Nat}{p:Nat×Nat}(w:Wb L R K)(hlen:lay.length=K.length)(hn:μ[n]?=some (.lst (lay.map onD)))(hr:μ[r]?=some (.lst (row.map pD)))(hrl:row.length<=1000)(ok:RowOk K lay key row)(e:row[i]?=some p)
 (q:∀μ',Keep μ μ'->Q (.bl true) μ'):WF zBh [wn R K, .loc n, .loc r, .int i] μ Q:=by
 have hm:=ok.mem p (mem_of_getElem? e);have hi:=(List.getElem?_eq_some_iff.mp e).1;refine zkc rfl ?_;show WS zYg [some (wn R K),some (.loc n),some (.loc r),some (.int i),none] μ _ _ _ _;unfold zYg;refine zF (zCb (zq (zq (zd rfl (zd rfl (zMc (zy hr) (zQq e) (w_c (zMc rfl rfl ?_))))))));refine zF (zai (zem (zO (zq (zd rfl (w_c (zLm ⟨_,rfl,fun h1=>?_,fun h1=>?_⟩)))))))
 case refine_2=>have:=of_decide_eq_true h1;omega
 refine zO (zq (zd rfl (zw (zf (zd rfl (zr (zWi (zy hn) (zLm ⟨_,rfl,fun h2=>?_,fun h2=>zPb ?_⟩))))))))
 ·have:=of_decide_eq_true h2;rw[length_map]at this;omega
 refine zF (zai (zem (zO (zq (zq (zq (zd rfl (zd rfl (zMc (zy hr) (zQq e) (w_c (zMc rfl rfl (zq (zq (zd rfl (w_c (zOj (zd rfl (zwr hm.1 (zSh rfl ⟨_,rfl,fun h3=>?_,fun h3=>?_⟩)))))))))))))))))))
 case refine_2=>rw[decide_eq_true hm.2.1]at h3;cases h3
 refine zO (zq (zq (zq (zd rfl (zd rfl (zMc (zy hr) (zQq e) (w_c (zMc rfl rfl (zq (zd rfl (zd rfl (zMc (zy hn) (zny (by omega)) (z7v (α:=Option Nat) (some p.2) (lay.getD p.1 none) ⟨_,rfl,fun h4=>?_,fun h4=>zPb ?_⟩)))))))))))))
 ·exact absurd (of_decide_eq_true h4).symm hm.2.2
 refine zjc (zq (zd rfl (z5p (zuf (zXy (zd rfl (zZx (z3u (zd rfl ⟨_,rfl,_,_,rfl,hr, .inr (.inr ⟨_,_,rfl,zt,?_,?_⟩)⟩)))))))))
 ·rw[zrr];exact z4c (by rw[length_take,length_map];omega)
 rw[zrr,<-List.map_take];refine zHf pD (row.take i) (fun x => .int (x.1:Nat)) (fun μ' k=>zwb zt k) (fun x hx μ' kp=>?_) (fun μ' kp=>?_)
 ·unfold zvk;exact z5h (zq (zd rfl (w_c (zMc rfl rfl ⟨rfl,kp,kp⟩))))
 ·have e2:((row.take i).map fun x=>D.int (x.1:Nat))=nat ((row.take i).map (·.1)):=(zOg _ _).symm;rw[e2];refine zSh (zy zt) ?_
  have hnot:p.1∉(row.take i).map (·.1):=by
   intro hmem;have nd:=ok.nd;rw[<-take_append_drop i row,map_append,nodup_append]at nd;refine nd.2.2 _ hmem _ ?_ rfl;refine List.mem_map.mpr ⟨p,?_,rfl⟩;rw[drop_eq_getElem_cons hi,(List.getElem?_eq_some_iff.mp e).2];exact mem_cons_self
  rw[decide_eq_false hnot];exact q _ (Keep.app.trans (kp.to))
def zVq{lay:List (Option Nat)}{key r:Nat}{p:Nat×Nat}(hlen:lay.length=K.length)(hn:μ[n]?=some (.lst (lay.map onD)))(hr:μ[r]?=some (.lst (row.map pD)))(ok:RowOk K lay key row)(e:row[i]?=some p)
 (q:Q (.bl true) μ):WF zjh [.loc n, .int key, .loc r, .int i] μ Q:=by
 refine zkc rfl ?_;show WS zFh [some (.loc n),some (.int key),some (.loc r),some (.int i)] μ _ _ _ _;unfold zFh;refine zF (zai (zO (zq (zd rfl (w_c (z3p ⟨_,rfl,fun h1=>?_,fun h1=>zPb ?_⟩))))))
 ·obtain⟨h,r0,e0⟩:=ok.first
  refine zjc (zq (zq (zq (zd rfl (w_c (zMc (zy hr) (zQq (i:=0) (p:=(key,h)) (by rw[e0];rfl)) (w_c (zMc rfl rfl (zd rfl (z3p ?_))))))))));rw[beq_self_eq_true];exact q
 ·cases i with
  |zero=>exact absurd h1 (by decide)
  |succ j=>
   have hj:j<row.length:=by
    have:=(List.getElem?_eq_some_iff.mp e).1;omega
   have ej:row[j]?=some row[j]:=by simp[hj]
   have hl:=ok.link j _ _ ej e;have hm:=ok.mem p (mem_of_getElem? e);refine zjc (zq (zq (zd rfl (zq (zq (zd rfl (zd rfl (zMc (zy hr) (zQq e) (w_c (zMc rfl rfl (zMc (zy hn) (zny (by omega)) (zq (zq (zd rfl (zq (zd rfl (w_c (zmv ?_))))))))))))))))));rw[show((j+1:Nat):Int)-1=(j:Int) by omega];refine zMc (zy hr) (zQq ej) (w_c (zMc rfl rfl (z7v (α:=Option Nat) (lay.getD p.1 none) (some (row[j]).2) ?_)));rw[decide_eq_true hl];exact q
def zEk{lay:List (Option Nat)}(r:RightL R K lay):zGl R K (lay.map onD) = .non:=by
 unfold zGl;rw[zLf fun k hk=>?_,zLf fun h hh=>?_]
 ·unfold z0r;rw[z4r];have:=r.room h;exact decide_eq_false (by omega)
 ·unfold zrm
  have e:(lay.map onD).getD k .non=onD (lay.getD k none):=by
   have hk':k<lay.length:=by rw[r.len];exact hk
   simp[hk']
  rw[e]
  cases e2:lay.getD k none with
  |none=>rfl
  |some h=>
   have hm:h∈K.getD k []:=r.home k h (by
    have hk':k<lay.length:=by rw[r.len];exact hk
    simp[hk']at e2;simp[hk',e2])
   show(_ && !((nat (K.getD k [])).any fun y=>eqF y (.int h)))=false;rw[zDs,decide_eq_true hm,Bool.not_true,Bool.and_false]
def zgx(lay:List (Option Nat))(k h:Nat):(lay.set k (some h)).map onD=(lay.map onD).set k (.int h):=List.map_set
def zor{lay:List (Option Nat)}{key r:Nat}(w:Wb L R K)(hL:L<=1000)(rt:RightL R K lay)(hn:μ[n]?=some (.lst (lay.map onD)))(hr:μ[r]?=some (.lst (row.map pD)))(hrl:row.length<=1000)(ok:RowOk K lay key row)(hkey:lay.getD key none=none)(hroom:lay.count (some (row.getD (row.length-1) (0,0)).2)<R.getD (row.getD (row.length-1) (0,0)).2 0)
 (q:∀(l:Nat)(μ':Mem),Keep μ μ'->μ.length<=l->μ'[l]?=some (.lst ((z3d lay row).map onD))->Q (.loc l) μ'):WF zoj [wn R K, .loc n, .int key, .loc r] μ Q:=by
 have hkl:=w.kl;have hlen:=rt.len;refine zkc rfl ?_;show WS zij [some (wn R K),some (.loc n),some (.int key),some (.loc r),none,none,none] μ _ _ _ _;unfold zij;refine zF (zCb (zw (zf (zd rfl (zr (zNs (zy hn) ?_))))));refine zF (zWh (zHi (zd rfl (.inr (.inr ⟨r,_,rfl,zAc hr,?_⟩)))));refine zVc (fun m δ ν=>∃x y:Option D,δ=[some (wn R K),some (.loc n),some (.int key),some (.loc r),some (.loc μ.length),x,y]/\Keep μ ν/\ν[μ.length]?=some (.lst ((z3d lay (row.take m)).map onD))) ⟨_,_,rfl, .app,zt⟩ (fun m δ ν ⟨_,_,_,k,_⟩=>zwb hr k) ?_ ?_
 ·rintro m x δ ν hx ⟨a,b,rfl,kp,g⟩;obtain⟨p,ep,rfl⟩:=zZp hx;have hm:=ok.mem p (mem_of_getElem? ep);have htk:row.take (m+1)=row.take m++[p]:=by rw[take_succ,ep];rfl
  refine zKt (zqo (z5h (zqo (z5h (zPt ?_)))));unfold z8k;refine zF (zai (zBl (zkk (zO (zw (zf (zd rfl (zf (zd rfl (zf (zd rfl (zf (zd rfl (zr ?_))))))))))))));refine zXs w hlen (kp _ _ hn) (kp _ _ hr) hrl ok ep fun μ1 k1=>⟨_,rfl,fun _=>?_,fun h=>(by cases h)⟩
  refine zO (zw (zf (zd rfl (zf (zd rfl (zf (zd rfl (zf (zd rfl (zr ?_))))))))));refine zVq hlen ((kp.trans k1) _ _ hn) ((kp.trans k1) _ _ hr) ok ep ⟨_,rfl,fun h=>(by cases h),fun _=>zPb ?_⟩;refine zPq (zq (zd rfl (w_c (zMc rfl rfl ?_))));have g1:=k1 _ _ g;refine z6y (zd rfl (zq (zd rfl (w_c (zMc rfl rfl ⟨_,_,_,rfl,rfl,g1,?_,?_⟩)))))
  ·rw[length_map,zdh];omega
  ·refine⟨_,_,rfl,fun i o e=>zS (k1 _ _ (kp i o e)) (yV (zI e)),?_⟩;rw[zbb g1,htk,zrl,zgx];rfl
 ·rintro δ ν ⟨a,b,rfl,kp,g⟩;rw[zsd,length_map,take_length]at g
  have hpos:0<row.length:=by
   obtain⟨h,q,e⟩:=ok.first
   rw[e];simp
  refine zF (zai (zem (zO (zq (zw (zf (zd rfl (zr (zWi (zy (kp _ _ hr)) (w_c (z3p ⟨_,rfl,fun h1=>?_,fun h1=>?_⟩)))))))))))
  case refine_2=>
   have:=beq_iff_eq.mp h1;rw[length_map]at this;omega
  have hr2:=zWg rt ok hkey hroom;refine zO (zq (zw (zf (zd rfl (zf (zd rfl (zr ?_)))))));refine zxp w (zZl _) (by rw[length_map,zdh];exact hlen) g fun μ1 k1=>?_;rw[zEk hr2];refine w_c (zdj rfl ⟨_,rfl,fun h=>(by cases h),fun _=>zPb (zjc (zd rfl ?_))⟩);exact q _ _ (kp.trans k1) (yi _) (k1 _ _ g)
def zQg(S:List Nat)(k:Nat):List Nat:=S.filter fun o=>!decide (o=k)
def zKc(R:List Nat)(K:List (List Nat))(S:List Nat):Option Nat:=S.find? fun k=>z3c R K (zQg S k)
def zci(h:zKc R K S=some k):k∈S:=List.mem_of_find?_eq_some h
def z7m(h:zKc R K S=some k):z3c R K (zQg S k)=true:=List.find?_some (p:=fun k=>z3c R K (zQg S k)) h
def z5e(S:List Nat)(k:Nat):(zQg S k).Sublist S:=filter_sublist
def zHj(h:S.Nodup)(k:Nat):S.erase k=zQg S k:=by
 rw[h.erase_eq_filter];unfold zQg;refine filter_congr fun x _=>?_
 by_cases e:x=k<;>simp[e]
def zlk(h:S.Nodup){k:Nat}(hk:k∈S):(zQg S k).length+1=S.length:=by
 rw[<-zHj h,List.length_erase_of_mem hk];have:=List.length_pos_of_mem hk;omega
def zYk(R:List Nat)(K:List (List Nat)):Nat->List Nat->List Nat
 |0,S=>S
 |n+1,S=>match zKc R K S with
  |none=>S
  |some k=>zYk R K n (zQg S k)
def z1m(R:List Nat)(K:List (List Nat))(S:List Nat):List Nat:=zYk R K S.length S
def zkq(h:zKc R K S=none):z1m R K S=S:=by
 unfold z1m
 cases S with
 |nil=>rfl
 |cons a S=>rw[length_cons,zYk,h]
def zyq(hd:S.Nodup)(h:zKc R K S=some k):z1m R K S=z1m R K (zQg S k):=by
 have h1:=zlk hd (zci h);unfold z1m
 conv=>lhs;rw[<-h1,zYk,h]
def zln{R:List Nat}{K:List (List Nat)}:∀(n:Nat)(S:List Nat),(zYk R K n S).Sublist S
 |0,S=>List.Sublist.refl _
 |n+1,S=>by
  unfold zYk
  cases zKc R K S with
  |none=>exact List.Sublist.refl _
  |some k=>exact(zln n _).trans (z5e S k)
def zon{R:List Nat}{K:List (List Nat)}:∀(n:Nat)(S:List Nat),S.Nodup->S.length<=n->zKc R K (zYk R K n S)=none
 |0,S,_,h=>by
  have:S=[]:=List.length_eq_zero_iff.mp (by omega);subst this;rfl
 |n+1,S,hd,h=>by
  unfold zYk
  cases e:zKc R K S with
  |none=>exact e
  |some k=>
   have:=zlk hd (zci e);exact zon n _ (hd.sublist (z5e S k)) (by omega)
def zTj{R:List Nat}{K:List (List Nat)}:∀(n:Nat)(S:List Nat),z3c R K S=true->z3c R K (zYk R K n S)=true
 |0,S,h=>h
 |n+1,S,h=>by
  unfold zYk
  cases e:zKc R K S with
  |none=>exact h
  |some k=>exact zTj n _ (z7m e)
def zIj(w:Wb L R K)(hn:μ[n]?=some (.lst (nat S)))(hS:∀k∈S,k<K.length)(hl:S.length<=1000)
 (q:∀μ',Keep μ μ'->Q (onD (zKc R K S)) μ'):WF z2d [wn R K, .loc n] μ Q:=by
 refine zkc rfl ?_;show WS zAf [some (wn R K),some (.loc n),none] μ _ _ _ _;unfold zAf;refine zF (zWh (zuf (zd rfl (.inr (.inr ⟨n,_,rfl,hn,?_⟩)))));refine zVc (fun m δ μ'=>∃a:Option D,δ=[some (wn R K),some (.loc n),a]/\Keep μ μ'/\∀k∈S.take m,z3c R K (zQg S k)=false) ⟨_,rfl, .refl,by simp⟩ (fun m δ μ' ⟨a,_,k,_⟩=>zwb hn k) ?_ ?_
 ·rintro m x δ μ1 hx ⟨a,rfl,k1,hb⟩;rw[yh]at hx
  cases hy:S[m]? with
  |none=>rw[hy]at hx;cases hx
  |some kk=>
   rw[hy]at hx;cases hx;have ht:S.take (m+1)=S.take m++[kk]:=by rw[take_succ,hy];rfl
   refine z5h ?_;unfold z5g;refine zai (zO (zw (zf (zd rfl (zf (z5p ?_))))));refine zuf (zd rfl (.inr (.inr ⟨n,_,rfl,k1 _ _ hn,z4c (by rw[length_map];omega),?_⟩)));refine zCk (fun(k:Nat)=>D.int k) S (fun(k:Nat)=>D.int k) (fun o=>!decide (o=kk)) (fun μ' k'=>zwb (k1 _ _ hn) k') (fun j hj μ' kp=>?_) (fun μ2 k2=>?_)
   ·repeat walk_at "w"
    refine⟨?_,kp,fun _=>?_⟩
    ·congr 1
     by_cases e:j=kk
     ·subst e;simp
     ·simp[e];omega
    ·unfold zQh;exact zd rfl ⟨rfl,kp⟩
   ·refine zr ?_;have hls:(zQg S kk).length<=S.length:=(z5e S kk).length_le;refine zwl w (S:=zQg S kk) zt (fun k hk=>hS k ((z5e S kk).subset hk)) (by omega) fun μ3 k3=>⟨_,rfl,fun h1=>?_,fun h1=>?_⟩
    ·refine zjc (zd rfl ?_);have:=q μ3 (k1.trans (k2.to.trans k3))
     have e:zKc R K S=some kk:=by
      unfold zKc;rw[List.find?_eq_some_iff_append];refine⟨h1,S.take m,S.drop (m+1),?_,fun a ha=>by rw[hb a ha];rfl⟩;have hlt:=(List.getElem?_eq_some_iff.mp hy).1
      have e1:S.drop m=kk::S.drop (m+1):=by
       rw[drop_eq_getElem_cons hlt,(List.getElem?_eq_some_iff.mp hy).2]
      rw[<-e1,take_append_drop]
     rw[e]at this;exact this
    ·refine zPb ⟨_,rfl,k1.trans (k2.to.trans k3),fun k hk=>?_⟩;rw[ht]at hk;rcases List.mem_append.mp hk with hk | hk
     ·exact hb k hk
     ·rw[List.mem_singleton.mp hk];exact h1
 ·rintro δ μ1 ⟨a,rfl,k1,hb⟩;rw[length_map,take_length]at hb;refine zjc (w_c ?_);have:=q μ1 k1
  have e:zKc R K S=none:=by
   unfold zKc;rw[List.find?_eq_none];intro k hk;rw[hb k hk];exact yx
  rw[e]at this;exact this
def zFq(w:Wb L R K)(hn:μ[n]?=some (.lst (nat S)))(hS:∀k∈S,k<K.length)(hl:S.length<=1000)(hd:S.Nodup)
 (q:∀(l:Nat)(μ':Mem),Keep μ μ'->μ.length<=l->μ'[l]?=some (.lst (nat (z1m R K S)))->Q (.loc l) μ'):WF zYh [wn R K, .loc n] μ Q:=by
 refine zkc rfl ?_;show WS zeh [some (wn R K),some (.loc n),none,none] μ _ _ _ _;unfold zeh;refine zF (zCb (zw (zf (zd rfl (zr (zNs (zy hn) ?_))))));refine zF (zCb (zw (zf (zd rfl (zf (zd rfl (zr ?_)))))));refine zIj w zt hS hl fun μ1 k1=>?_;refine zF ?_;refine zUl (fun m δ μ'=>∃T:List Nat,m=T.length/\δ=[some (wn R K),some (.loc n),some (.loc μ.length),some (onD (zKc R K T))]/\Keep μ μ'/\μ'[μ.length]?=some (.lst (nat T))/\T.Sublist S/\z1m R K S=z1m R K T) (m:=S.length) (by omega) ⟨S,rfl,rfl,Keep.app.trans k1,k1 _ _ zt,List.Sublist.refl _,rfl⟩ ?_;rintro m δ μ' ⟨T,rfl,rfl,k2,g2,hT,ht⟩;have hTd:=hd.sublist hT;have hTl:=hT.length_le
 repeat walk_at "w"
 refine zdj (zDp _) ⟨_,rfl,fun h1=>?_,fun h1=>?_⟩
 ·cases e:zKc R K T with
  |none=>rw[e]at h1;cases h1
  |some k=>
   have hk:=zci e;have hle:=zlk hTd hk;unfold zqk;refine zF (zDk (zRi (zd rfl ⟨_,_,rfl,g2,?_⟩)));refine zf (zd rfl (zr ?_));refine zNr g2 hk ?_;rw[zHj hTd];refine zCb (zw (zf (zd rfl (zf (zd rfl (zr ?_))))));have g3:=zbb (o':=LObj.lst (nat (zQg T k))) g2;refine zIj w g3 (fun x hx=>hS x (hT.subset ((z5e T k).subset hx))) (by omega) fun μ3 k3=>?_;exact⟨(zQg T k).length,by omega,zQg T k,rfl,rfl,fun i o e'=>k3 _ _ (zS (k2 _ _ e') (yV (zI e'))),k3 _ _ g3,(z5e T k).trans hT,by rw[ht,zyq hTd e]⟩
 ·refine zjc (zd rfl ?_)
  have e:zKc R K T=none:=by
   cases e:zKc R K T with
   |none=>rfl
   |some k=>rw[e]at h1;cases h1
  refine q _ _ k2 (yi _) ?_;rw[ht,zkq e];exact g2
def zut{lay:List (Option Nat)}{key:Nat}(ok:RowOk K lay key row){k:Nat}(h:k∈row.map (·.1)):k=key\/(lay.getD k none).isSome=true:=by
 obtain⟨p,hp,rfl⟩:=List.mem_map.mp h;obtain⟨i,hi,rfl⟩:=List.mem_iff_getElem.mp hp
 cases i with
 |zero=>
  obtain⟨h,r,e⟩:=ok.first
  subst e;exact .inl rfl
 |succ j=>
  have:=ok.link j row[j] row[j+1] (by simp[show j<row.length by omega]) (by simp[hi]);exact .inr (by rw[this];rfl)
def zQj{lay:List (Option Nat)}{key:Nat}(hlen:lay.length=K.length)(ok:RowOk K lay key row){k:Nat}(h:k=key\/(lay.getD k none).isSome=true):((z3d lay row).getD k none).isSome=true:=by
 by_cases hm:k∈row.map (·.1)
 ·obtain⟨p,hp,rfl⟩:=List.mem_map.mp hm;rw[z9l ok.nd hp (by rw[hlen];exact(ok.mem p hp).1)];rfl
 ·rcases h with rfl | h
  ·obtain⟨h,r,e⟩:=ok.first
   subst e;exact absurd (by simp) hm
  ·rw[z2e hm];exact h
def zBj{lay:List (Option Nat)}{key:Nat}(ok:RowOk K lay key row){k:Nat}(h:lay.getD k none=none)(hk:k≠key):(z3d lay row).getD k none=none:=by
 rw[z2e fun hm=>?_]
 ·exact h
 ·rcases zut ok hm with e | e
  ·exact hk e
  ·rw[h]at e;cases e
def zzr{s:Str}(h:PyData.strOk s=true):toP μ 8 (.str s)=some (.str s):=by
 show(bif PyData.strOk s then some (PyData.str s) else none)=_;rw[h];rfl
def z6f{a b:Str}(q:Q (.bl (Yb (.str a) (.str b))) μ)(ha:PyData.strOk a=true:=by decide +kernel)(hb:PyData.strOk b=true:=by decide +kernel):W2 gEq (.str a) (.str b) μ Q:=zZy (zzr ha) (zzr hb) q
structure Done(R:List Nat)(K:List (List Nat))(lay0 lay:List (Option Nat))(ks C:List Nat):Prop where
 right:RightL R K lay
 shut:Shut R K lay C
 old:∀k,(lay0.getD k none).isSome=true->(lay.getD k none).isSome=true
 non:∀k,k∉ks->lay0.getD k none=none->lay.getD k none=none
 all:∀k∈ks,(lay.getD k none).isSome=true\/(k∈C/\lay.getD k none=none)
 out:C≠[]->∃k∈C,k∈ks/\lay.getD k none=none
def Done.put{lay:List (Option Nat)}{ks:List Nat}{key:Nat}(d:Done R K lay0 lay ks C)(hk:key∉ks)(hkey:lay.getD key none=none)(ok:RowOk K lay key row)
 (hroom:lay.count (some (row.getD (row.length-1) (0,0)).2)<R.getD (row.getD (row.length-1) (0,0)).2 0):Done R K lay0 (z3d lay row) (ks++[key]) C:=by
 have hlen:=d.right.len;refine⟨zWg d.right ok hkey hroom,d.shut.push d.right ok hkey hroom,fun k h=>zQj hlen ok (.inr (d.old k h)),fun k h h0=>?_,fun k h=>?_,fun hC=>?_⟩
 ·rw[mem_append,not_or]at h;exact zBj ok (d.non k h.1 h0) (by simpa using h.2)
 ·rcases List.mem_append.mp h with h' | h
  ·rcases d.all k h' with h1 | ⟨h1,h2⟩
   ·exact .inl (zQj hlen ok (.inr h1))
   ·exact .inr ⟨h1,zBj ok h2 (by rintro rfl;exact hk h')⟩
  ·rw[List.mem_singleton.mp h];exact .inl (zQj hlen ok (.inl rfl))
 ·obtain⟨k,h1,h2,h3⟩:=d.out hC;exact⟨k,h1,mem_append_left _ h2,zBj ok h3 (by rintro rfl;exact hk h2)⟩
def Done.full{lay:List (Option Nat)}{ks:List Nat}{key:Nat}(d:Done R K lay0 lay ks C)(hkey:lay.getD key none=none)(hS:key∈S)(s:Shut R K lay S):Done R K lay0 lay (ks++[key]) (C++S):=by
 refine⟨d.right,d.shut.app s,d.old,fun k h h0=>?_,fun k h=>?_,fun hC=>⟨key,mem_append_right _ hS,by simp,hkey⟩⟩
 ·rw[mem_append,not_or]at h;exact d.non k h.1 h0
 ·rcases List.mem_append.mp h with h | h
  ·rcases d.all k h with h1 | ⟨h1,h2⟩
   ·exact .inl h1
   ·exact .inr ⟨mem_append_left _ h1,h2⟩
  ·rw[List.mem_singleton.mp h];exact .inr ⟨mem_append_right _ hS,hkey⟩
def zEq(m:Nat)(C:List Nat):List Nat:=(yy m).filter fun k=>decide (k∈C)
def z4h(h:∀k∈C,k<m)(k:Nat):k∈zEq m C↔k∈C:=by
 unfold zEq;rw[List.mem_filter,mem_range,decide_eq_true_iff];exact⟨fun q=>q.2,fun q=>⟨h k q,q⟩⟩
def zPw{φ:FE}(hC:∀k∈C,k<m)(hm:m<64)(hl:C.length<=4000)(h:WE φ δ μ fun x μ1=>x = .loc n/\μ1[n]?=some (.lst (nat C))/\Q (.loc μ1.length) (μ1++[.lst (nat (zEq m C))])):WE (z3m φ) δ μ Q:=by
 have hmem:∀i:Int,i∈(zEq m C).map (fun(k:Nat)=>(k:Int))↔i∈C.map (fun(k:Nat)=>(k:Int)):=fun i=>by
  simp only[mem_map];constructor
  ·rintro⟨k,hk,rfl⟩;exact⟨k,(z4h hC k).mp hk,rfl⟩
  ·rintro⟨k,hk,rfl⟩;exact⟨k,(z4h hC k).mpr hk,rfl⟩
 have hpw:((zEq m C).map (fun(k:Nat)=>(k:Int))).Pairwise (· < ·):=by
  rw[pairwise_map];exact(List.pairwise_lt_range.filter _).imp fun h=>by omega
 have hp:=z4i hmem hpw;have hsort:=zwm hmem hpw;have hsl:(zEq m C).length<=m:=by unfold zEq;simpa using(filter_sublist (l:=yy m) (p:=fun k=>decide (k∈C))).length_le
 refine zEs (h.mono ?_);rintro x μ1 ⟨rfl,g,q⟩;refine⟨_,C.map (fun(k:Nat)=>(k:Int)),rfl,by rw[g,map_map];rfl,by rw[length_map];omega,by rw[hp.length_eq,length_map];omega,?_⟩;rw[hsort,map_map];exact q
abbrev JLm(R:List Nat)(K:List (List Nat))(lay0:List (Option Nat))(ks:List Nat)(n m:Nat)(μ:Mem):Nat->M.Loc->Mem->Prop:=fun i δ ν=>∃(lay:List (Option Nat)) (C:List Nat) (l:Nat) (x y:Option D),δ=[some (wn R K),some (.loc l),some (.loc m),some (.loc μ.length),x,y]/\Done R K lay0 lay (ks.take i) C/\C.length<=i*K.length/\Keep μ ν/\(l=n/\lay=lay0\/μ.length<l)/\ν[μ.length]?=some (.lst (nat C))/\ν[l]?=some (.lst (lay.map onD))
def z7n{ks:List Nat}(w:Wb L R K)(hL:L<=60)(rt:RightL R K lay0)(hn:μ[n]?=some (.lst (lay0.map onD)))(hm:μ[m]?=some (.lst (nat ks)))(hks:∀k∈ks,k<K.length)(hnd:ks.Nodup)(hnon:∀k∈ks,lay0.getD k none=none)
 (q:∀(lay:List (Option Nat)) (C:List Nat) (l l2:Nat) (μ':Mem),Done R K lay0 lay ks C->Keep μ μ'->(l=n/\lay=lay0\/μ.length<=l)->μ.length<=l2->l≠l2->μ'[l]?=some (.lst (lay.map onD))->μ'[l2]?=some (.lst (nat (zEq K.length C)))->Q (.tup [.loc l, .loc l2]) μ'):WF zff [wn R K, .loc n, .loc m] μ Q:=by
 have hkl:=w.kl
 have hkn:ks.length<=K.length:=by
  have:=zTd hnd (m:=yy K.length) fun x hx=>by simpa using hks x hx
  simpa using this
 refine zkc rfl ?_;show WS zdf [some (wn R K),some (.loc n),some (.loc m),none,none,none] μ _ _ _ _;unfold zdf;refine zF (zCb (z3g (zr (zF (zWh (zuf (zd rfl (.inr (.inr ⟨m,_,rfl,zAc hm,?_⟩)))))))));have hnl:=zI hn
 refine zVc (JLm R K lay0 ks n m μ)
  ⟨lay0,[],n,_,_,rfl,⟨rt, .nil,fun _ h=>h,fun _ _ h=>h,by simp,fun h=>absurd rfl h⟩,by simp, .app, .inl ⟨rfl,rfl⟩,zt,zAc hn⟩ (fun i δ ν ⟨_,_,_,_,_,_,_,_,k,_⟩=>zwb hm k) ?_ ?_
 ·rintro i z δ ν hz ⟨lay,C,l,x,y,rfl,d,hCl,kp,hl,gC,gl⟩;rw[yh]at hz
  cases ek:ks[i]? with
  |none=>rw[ek]at hz;cases hz
  |some key=>
   rw[ek]at hz;cases hz;have hkm:=mem_of_getElem? ek;have hil:=(List.getElem?_eq_some_iff.mp ek).1;have htk:ks.take (i+1)=ks.take i++[key]:=by rw[take_succ,ek];rfl
   have hkt:key∉ks.take i:=by
    intro hmem;have nd:=hnd;rw[<-take_append_drop i ks,nodup_append]at nd;refine nd.2.2 _ hmem _ ?_ rfl;rw[drop_eq_getElem_cons hil,(List.getElem?_eq_some_iff.mp ek).2];exact mem_cons_self
   have hkey:=d.non key hkt (hnon key hkm);have hCb:i*K.length<=60*60:=Nat.mul_le_mul (by omega) (by omega);refine z5h ?_;unfold zxh;refine zF (zCb (zw (zf (zd rfl (zf (zd rfl (zf (zd rfl (zr ?_)))))))));refine zRp w d.right.len (by omega) gl (hks key hkm) hkey (fun row r μ1 ok hroom hrl k1 hr gr=>?_) (fun S r μ1 hS hkS s k1 hr gr=>?_)
   ·refine zai (zO (zq (zq (zd rfl (w_c (zMc rfl rfl (w_c (z6f ⟨_,rfl,fun _=>?_,fun h=>absurd h (by decide +kernel)⟩))))))));refine zCb (zw (zf (zd rfl (zf (zd rfl (zf (zd rfl (zf (zq (zd rfl (w_c (zMc rfl rfl (zr ?_)))))))))))));refine zor w (by omega) d.right (k1 _ _ gl) gr (by omega) ok hkey hroom fun l' μ2 k2 hl' g2=>?_;refine⟨z3d lay row,C,l',_,_,rfl,by rw[htk];exact d.put hkt hkey ok hroom,by rw[Nat.succ_mul];omega,kp.trans (k1.trans k2), .inr ?_,(k1.trans k2) _ _ gC,g2⟩;have:=(kp.trans k1).len;have:=k1.len;have:=zI gC;omega
   ·refine zai (zO (zq (zq (zd rfl (w_c (zMc rfl rfl (w_c (z6f ⟨_,rfl,fun h=>?_,fun _=>?_⟩))))))))
    ·exact absurd h (by decide +kernel)
    have hSl:S.length<=K.length:=by simpa using hS.length_le
    refine zDk (zRi (zd rfl ⟨_,_,rfl,k1 _ _ gC,?_⟩));refine zf (zq (zd rfl (w_c (zMc rfl rfl (zr ?_)))));refine znx (k1 _ _ gC) gr (by simp only[length_map];omega) ?_;have hlt:=zI gC;refine⟨lay,C++S,l,_,_,rfl,by rw[htk];exact d.full hkey hkS s,by rw[Nat.succ_mul,length_append];omega,fun a o e=>zS (k1 _ _ (kp a o e)) (yV (zI e)),hl,?_,zS (k1 _ _ gl) (by rcases hl with ⟨h,_⟩ | h<;>omega)⟩;rw[zbb (k1 _ _ gC),zng]
 ·rintro δ ν ⟨lay,C,l,x,y,rfl,d,hCl,kp,hl,gC,gl⟩;rw[length_map,take_length]at d;rw[length_map]at hCl;have hCb:ks.length*K.length<=60*60:=Nat.mul_le_mul (by omega) (by omega);refine zjc (zoi (zf (zd rfl (zf ?_))));refine zPw (n:=μ.length) (m:=K.length) d.shut.keys (by omega) (by omega) (zd rfl ⟨rfl,gC,zr ?_⟩);have:=zI gl;exact q lay C l _ _ d kp.to (by rcases hl with h | h;exact .inl h;exact .inr (by omega)) kp.len (by omega) (zAc gl) zt
def zUm(w:Wb L R K)(hL:L<=60)
 (q:∀(lay:List (Option Nat)) (C:List Nat) (l l2:Nat) (μ':Mem),Done R K (yA K.length none) lay (yy K.length) C->Keep μ μ'->μ.length<=l->μ.length<=l2->l≠l2->μ'[l]?=some (.lst (lay.map onD))->μ'[l2]?=some (.lst (nat (zEq K.length C)))->Q (.tup [.loc l, .loc l2]) μ'):WF zNd [wn R K] μ Q:=by
 have hkl:=w.kl;refine zkc rfl ?_;show WS zKd [some (wn R K)] μ _ _ _ _;unfold zKd;refine zjc (zw (zf (zd rfl (zf (zq (z3g (zf (w_c (zr (zw (zf (zq (zd rfl (w_c (zOj (zr (zWi rfl ?_)))))))))))))))));refine zbx zt (by rw[length_map];omega) (by omega) (by simp) ?_;refine zf (ztm (zw (zf (zq (zd rfl (w_c (zOj (zr (zWi rfl ⟨_,rfl,?_,zr ?_⟩)))))))))
 ·rw[length_map];omega
 have e1:(yA (((K.map tn).length:Nat):Int).toNat [D.non]).flatten=(yA K.length (none:Option Nat)).map onD:=by
  rw[Ym,length_map,List.map_replicate,List.flatten_replicate_singleton]
 rw[e1,Ym,length_map]
 have hrep:∀k,(yA K.length (none:Option Nat)).getD k none=none:=fun k=>by
  rw[getD_eq_getElem?_getD,YK]
  split<;>rfl
 refine z7n (ks:=yy K.length) w hL ⟨by simp,fun k h e=>?_,fun h=>?_⟩ (zAc zt) zt (by simp) List.nodup_range (fun k _=>hrep k) fun lay C l l2 μ' d k hl hl2 hne g g2=>?_
 ·rw[YK]at e
  split at e
  ·cases e
  ·cases e
 ·rw[List.count_replicate];simp
 ·have k':=(Keep.to (Keep.to (Keep.app (μ:=μ) (g:=[.lst [.non]])))).trans k;refine q lay C l l2 μ' d k' ?_ ?_ hne g g2
  ·rcases hl with ⟨rfl,_⟩ | hl
   ·simp
   ·simp at hl;omega
  ·simp at hl2;omega
def zDn(w:Wb L R K)(hL:L<=60)
 (q1:∀(lay:List (Option Nat)) (l:Nat) (μ':Mem),RightL R K lay->(∀k<K.length,(lay.getD k none).isSome=true)->Keep μ μ'->μ.length<=l->μ'[l]?=some (.lst (lay.map onD))->Q (.tup [.str "fits", .loc l]) μ')
 (q2:∀(T:List Nat)(l:Nat)(μ':Mem),T.Sublist (yy K.length)->z3c R K T=true->zKc R K T=none->Keep μ μ'->μ.length<=l->μ'[l]?=some (.lst (nat T))->Q (.tup [.str "crowd", .loc l]) μ'):WF zBd [wn R K] μ Q:=by
 have hkl:=w.kl;refine zkc rfl ?_;show WS zgj [some (wn R K),none] μ _ _ _ _;unfold zgj;refine zF (zCb (zw (zf (zd rfl (zr ?_)))));refine zUm w hL fun lay C l l2 μ1 d k1 hl hl2 hne g g2=>?_;refine zF (zai (zO (zq (zq (zd rfl (w_c (zMc rfl rfl (z3g (zr ?_)))))))));refine zMx (α:=Nat) (zEq K.length C) [] (zAc g2) zt ⟨_,rfl,fun h1=>?_,fun h1=>zPb ?_⟩
 ·have h1:=of_decide_eq_true h1;refine zjc (zoi (zf (w_c (zf (zq (zd rfl (w_c (zMc rfl rfl (zr ?_)))))))));refine q1 lay l _ d.right (fun k hk=>?_) k1.to hl (zAc g);rcases d.all k (by simpa using hk) with h | ⟨h,_⟩
  ·exact h
  ·have:=(z4h d.shut.keys k).mpr h;rw[h1]at this;cases this
 ·have h1:=of_decide_eq_false h1
  have hC:C≠[]:=by
   rintro rfl;exact h1 (by unfold zEq;simp)
  obtain⟨k0,hk0,_,hn0⟩:=d.out hC;have hsub:(zEq K.length C).Sublist (yy K.length):=filter_sublist;have hcr:=zdi w (d.shut.congr (z4h d.shut.keys)) d.right.len ((z4h d.shut.keys k0).mpr hk0) hn0;have hsl:(zEq K.length C).length<=K.length:=by simpa using hsub.length_le
  have hnd:=List.nodup_range.sublist hsub;refine zjc (zoi (zf (w_c (zf (zw (zf (zd rfl (zf (zq (zd rfl (w_c (zMc rfl rfl (zr ?_)))))))))))));refine zFq w (zAc g2) (fun k hk=>by simpa using hsub.subset hk) (by omega) hnd fun l3 μ3 k3 hl3 g3=>zr ?_;exact q2 _ l3 μ3 ((zln _ _).trans hsub) (zTj _ _ hcr) (zon _ _ hnd (yi _)) (k1.to.trans k3) (by have:=k1.len;simp at hl3;omega) g3
def zUi(R:List Nat)(K:List (List Nat)):Prop:=∃lay,RightL R K lay/\∀k<K.length,(lay.getD k none).isSome=true
def z6l(w:Wb L R K)(hT:T.Sublist (yy K.length))(hc:z3c R K T=true):¬zUi R K:=by
 rintro⟨lay,r,h⟩;have hTk:∀k∈T,k<K.length:=fun k hk=>by simpa using hT.subset hk
 have:=zzs w r (List.nodup_range.sublist hT) hTk fun k hk=>h k (hTk k hk);rw[hc]at this;cases this
def zEj(h:μ[n]?=some (.lst (nat S)))(hp:T.Perm S)(hT:T.Pairwise (· < ·))(hl:S.length<64)(q:Q (.loc μ.length) (μ++[.lst (nat T)])):WF zMf [.loc n] μ Q:=by
 have e1:nat S=(S.map fun(k:Nat)=>(k:Int)).map D.int:=by rw[map_map];rfl
 have e2:nat T=(T.map fun(k:Nat)=>(k:Int)).map D.int:=by rw[map_map];rfl
 have e3:zUk (S.map fun(k:Nat)=>(k:Int))=T.map fun(k:Nat)=>(k:Int):=by
  refine zcd ((mergeSort_perm _ _).trans (hp.symm.map _)) (z8h _) ?_;rw[pairwise_map];exact hT.imp fun h=>by omega
 refine⟨_,_,?_,q⟩;simp only[zMf,h];rw[e1,zOh,yk,length_map,decide_eq_true hl,cond_true,e3,<-e2]
def dkN(kvs:List (Nat×Nat)):List (Int×D):=kvs.map fun p=>((p.1:Int),D.int (p.2:Nat))
def zZh(k:Nat):∀kvs:List (Nat×Nat),z0c (dkN kvs) (k:Int)=(kvs.lookup k).map fun h=>D.int (h:Nat)
 |[]=>rfl
 |(j,h)::kvs=>by
  have ih:=zZh k kvs;unfold z0c dkN at ih ⊢;rw[map_cons,xR,lookup_cons]
  by_cases hj:j=k
  ·subst hj;simp
  ·have h1:(decide (((j:Nat):Int)=(k:Int)))=false:=decide_eq_false (by omega);have h2:(k==j)=false:=beq_eq_false_iff_ne.mpr (yN hj);simp only[h1,h2];exact ih
abbrev fsD(r:D)(m:Nat):List (Str×D):=[("kept_rule",r),("nest_of", .loc m)]
structure Sh(μ:Mem)(n m:Nat)(r:D)(kvs:List (Nat×Nat)):Prop where
 at_:μ[n]?=some (.ins "Shelf" (fsD r m))
 dc:μ[m]?=some (.dct (dkN kvs))
 nd:(kvs.map (·.1)).Nodup
 few:kvs.length<=30
def Sh.keep{μ μ':Mem}(s:Sh μ n m r kvs)(k:Keep μ μ'):Sh μ' n m r kvs:=⟨k _ _ s.at_,k _ _ s.dc,s.nd,s.few⟩
section
variable {μ:Mem}{n m:Nat}{r:D}{kvs:List (Nat×Nat)}{Q:D->Mem->Prop}
def zjg(s:Sh μ n m r kvs)(q:Q r μ):WF zlb [.loc n] μ Q:=by
 refine zkc rfl ?_;show WS zze [some (.loc n)] μ _ _ _ _;unfold zze;exact zjc (zJk (zd rfl ⟨n,_,r,rfl,s.at_,rfl,q⟩))
def z1d(r:D)(m:Nat):(fsD r m).lookup ("nest_of":Str)=some (D.loc m):=by
 have h1:(("nest_of":Str) == "kept_rule")=false:=by decide +kernel
 have h2:(("nest_of":Str) == "nest_of")=true:=by decide +kernel
 simp only[fsD,lookup_cons,h1,h2]
def zKh(r:D)(m:Nat):(fsD r m).lookup ("all_there":Str)=none:=by
 have h1:(("all_there":Str) == "kept_rule")=false:=by decide +kernel
 have h2:(("all_there":Str) == "nest_of")=false:=by decide +kernel
 simp only[fsD,lookup_cons,h1,h2,lookup_nil]
def zJs(s:Sh μ n m r kvs)(q:Q (.bl (kvs.lookup k).isSome) μ):WF zYb [.loc n, .int k] μ Q:=by
 refine zkc rfl ?_;show WS zvf [some (.loc n),some (.int k)] μ _ _ _ _;unfold zvf;refine zjc (zq (zd rfl (zJk (zd rfl ⟨n,_, .loc m,rfl,s.at_,z1d r m,z1u (zQd s.dc) ?_⟩))));rw[zZh,Option.isSome_map];exact q
def zXp(s:Sh μ n m r kvs)(q:Q (onD (kvs.lookup k)) μ):WF zUb [.loc n, .int k] μ Q:=by
 refine zkc rfl ?_;show WS zxd [some (.loc n),some (.int k)] μ _ _ _ _;unfold zxd;refine zjc (zPr (zJk (zd rfl ⟨n,_, .loc m,rfl,s.at_,z1d r m,m,_,rfl,s.dc,zf (zd rfl (zr (z5w (zQd s.dc) ?_)))⟩)));rw[zZh]
 cases e:kvs.lookup k with
 |none=>rw[e]at q;exact q
 |some h=>rw[e]at q;exact q
structure Keys(kvs:List (Nat×Nat))(S:List Nat):Prop where
 pm:S.Perm (kvs.map (·.1))
 pw:S.Pairwise (· < ·)
def Keys.ex(nd:(kvs.map (·.1)).Nodup):∃S,Keys kvs S:=by
 refine⟨(kvs.map (·.1)).mergeSort (fun a b=>decide (a<=b)),mergeSort_perm _ _,?_⟩;have h1:=List.pairwise_mergeSort (le:=fun a b:Nat=>decide (a<=b)) (fun a b c h1 h2=>by simp at h1 h2 ⊢;omega) (fun a b=>by simp;omega) (kvs.map (·.1));have h2:((kvs.map (·.1)).mergeSort (fun a b=>decide (a<=b))).Pairwise (·≠·):=(mergeSort_perm _ _).nodup_iff.mpr nd;refine(h1.and h2).imp fun h=>?_;have:=of_decide_eq_true h.1;have:=h.2;omega
def Keys.len(k:Keys kvs S):S.length=kvs.length:=by rw[k.pm.length_eq,length_map]
def z8d(s:Sh μ n m r kvs)(k:Keys kvs S)(q:Q (.loc μ.length) (μ++[.lst (nat S)])):WF zK [.loc n] μ Q:=by
 have hf:=s.few;refine zkc rfl ?_;show WS zqc [some (.loc n)] μ _ _ _ _;unfold zqc;refine zjc (zw (zf (zJk (zd rfl ⟨n,_, .loc m,rfl,s.at_,z1d r m,zr ?_⟩))));have e0:(dkN kvs).map (·.1)=(kvs.map (·.1)).map fun(k:Nat)=>(k:Int):=by unfold dkN;rw[map_map,map_map];rfl
 have e2:nat S=(S.map fun(k:Nat)=>(k:Int)).map D.int:=by rw[map_map];rfl
 have e3:zUk ((kvs.map (·.1)).map fun(k:Nat)=>(k:Int))=S.map fun(k:Nat)=>(k:Int):=by
  refine zcd ((mergeSort_perm _ _).trans (k.pm.symm.map _)) (z8h _) ?_;rw[pairwise_map];exact k.pw.imp fun h=>by omega
 have e4:(dkN kvs).length<64:=by unfold dkN;rw[length_map];omega
 refine⟨_,_,?_,q⟩;simp only[zrp,zQd s.dc,yk];rw[decide_eq_true e4,cond_true,e0,e3,<-e2]
def Keys.look(k:Keys kvs S){x:Nat}(h:x∈S):∃v,kvs.lookup x=some v:=by
 have h1:x∈kvs.map (·.1):=k.pm.mem_iff.mp h;obtain⟨p,hp,rfl⟩:=List.mem_map.mp h1
 cases e:kvs.lookup p.1 with
 |some v=>exact⟨v,rfl⟩
 |none=>
  rw[List.lookup_eq_none_iff]at e;exact absurd (e p hp) (by simp)
def zqn(s:Sh μ n m r kvs)(k:Keys kvs S)(q:∀l μ',Keep μ μ'->μ.length<=l->μ'[l]?=some (.lst (S.map fun x=>onD (kvs.lookup x)))->Q (.loc l) μ'):WF zJb [.loc n] μ Q:=by
 have hf:=s.few;have hl:=k.len;refine zkc rfl ?_;show WS zid [some (.loc n)] μ _ _ _ _;unfold zid;refine zjc (z5p (zuf (zw (zrc (zd rfl ⟨n,_,rfl,s.at_,zKh r m,zr (z8d s k (.inr (.inr ⟨_,_,rfl,zt,z4c (by rw[length_map];omega),?_⟩)))⟩)))));refine zHf (fun(x:Nat)=>D.int x) S (fun x=>onD (kvs.lookup x)) (fun μ' k=>zwb zt k) (fun x hx μ' kp=>?_) (fun μ' kp=>?_)
 ·have s':=s.keep (Keep.app.trans kp);obtain⟨v,hv⟩:=k.look hx;refine z5h ?_;unfold zKf;exact zq (zJk (zd rfl ⟨n,_, .loc m,rfl,s'.at_,z1d r m,zd rfl (zGv (zQd s'.dc) (by rw[zZh,hv];rfl) ⟨by rw[hv],kp,kp⟩)⟩))
 ·exact q _ _ (Keep.app.trans kp.to) (yC (by simp) kp.len) zt
end
def hmN(n k:Nat)(t:Nat×Nat):Nat:=(t.1*k+t.2)%10007%n
def pr2(t:Nat×Nat):D := .tup [.int (t.1:Nat), .int (t.2:Nat)]
abbrev rlN(R:List Nat)(ts:List (Nat×Nat)):D := .tup [tn R, .tup (ts.map pr2)]
structure Rl(R:List Nat)(ts:List (Nat×Nat)):Prop where
 rl:1<=R.length/\R.length<=10
 tl:2<=ts.length/\ts.length<=3
 tn:∀t∈ts,t.1<=10006/\t.2<=10006
def zBu(h:Rl R ts)(q:∀μ',Keep μ μ'->Q (tn (ts.map (hmN R.length k))) μ'):WF zQl [rlN R ts, .int k] μ Q:=by
 have hrl:=h.rl;have htl:=h.tl;refine zkc rfl ?_;show WS z3l [some (rlN R ts),some (.int k),none] μ _ _ _ _;unfold z3l
 repeat walk_at "w"
 refine zMc rfl (show atI [tn R, .tup (ts.map pr2)] 0=some (tn R) from rfl) ?_
 repeat walk_at "w"
 refine zuf ?_
 repeat walk_at "w"
 refine zMc rfl (show atI [tn R, .tup (ts.map pr2)] 1=some (.tup (ts.map pr2)) from rfl) (.inl ⟨_,rfl,z4c (by rw[length_map];omega),?_⟩);refine zHf pr2 ts (fun t=>D.int (hmN R.length k t:Nat)) (fun _ _=>rfl) (fun t ht μ' kp=>?_) (fun μ' kp=>?_)
 ·have hb:=h.tn t ht;refine z5h ?_;unfold zCn
  repeat walk_at "w"
  refine zMc (x:=pr2 t) rfl (show atI [D.int (t.1:Nat),D.int (t.2:Nat)] 0=some (D.int (t.1:Nat)) from rfl) ?_
  repeat walk_at "w"
  refine zjy (zzw (by omega) (by omega)) ?_
  repeat walk_at "w"
  refine zMc (x:=pr2 t) rfl (show atI [D.int (t.1:Nat),D.int (t.2:Nat)] 1=some (D.int (t.2:Nat)) from rfl) ?_
  repeat walk_at "w"
  have e:((nat R).length:Int)=R.length:=by rw[length_map]
  rw[e];refine zzj (by omega) ⟨?_,kp,kp⟩;unfold hmN
  push_cast
  rfl
 ·refine zr (zki (zy zt) ?_);have e:ts.map (fun t=>D.int (hmN R.length k t:Nat))=nat (ts.map (hmN R.length k)):=by rw[zOg]
  rw[e];exact q _ kp.to
abbrev zOe(R:List Nat)(ts:List (Nat×Nat))(S:List Nat):List (List Nat):=S.map fun k=>ts.map (hmN R.length k)
def Rl.wb(h:Rl R ts){S:List Nat}{L:Nat}(hS:S.length<=L):Wb L R (zOe R ts S) where
 rl:=h.rl
 kl:=by rw[length_map];exact hS
 kn:=fun k hk=>by
  obtain⟨x, -,rfl⟩:=List.mem_map.mp hk;refine⟨by rw[length_map];exact h.tl,fun y hy=>?_⟩;obtain⟨t, -,rfl⟩:=List.mem_map.mp hy;exact Nat.mod_lt _ h.rl.1
def zwg(h:Rl R ts)(hl:μ[l]?=some (.lst (nat S)))(hS:S.length<=1000)(q:∀μ',Keep μ μ'->Q (wn R (zOe R ts S)) μ'):WF zvb [rlN R ts, .loc l] μ Q:=by
 refine zkc rfl ?_;show WS z9i [some (rlN R ts),some (.loc l)] μ _ _ _ _;unfold z9i
 repeat walk_at "w"
 refine zMc rfl (show atI [tn R, .tup (ts.map pr2)] 0=some (tn R) from rfl) ?_
 repeat walk_at "w"
 refine zuf ?_
 repeat walk_at "w"
 refine .inr (.inr ⟨_,_,rfl,hl,z4c (by rw[length_map];omega),?_⟩);refine zHf (fun(x:Nat)=>D.int x) S (fun k=>tn (ts.map (hmN R.length k))) (fun μ' k=>zwb hl k) (fun x hx μ' kp=>?_) (fun μ' kp=>?_)
 ·refine z5h ?_;unfold zzl
  repeat walk_at "w"
  exact zBu h fun μ2 k2=>⟨rfl,kp.trans k2,kp⟩
 ·refine zr (zki (zy zt) ?_)
  repeat walk_at "w"
  have e:S.map (fun k=>tn (ts.map (hmN R.length k)))=(zOe R ts S).map tn:=by rw[map_map];rfl
  rw[e];exact q _ kp.to
section
variable {μ:Mem}{n m:Nat}{R:List Nat}{ts:List (Nat×Nat)}{kvs:List (Nat×Nat)}{Q:D->Mem->Prop}
def zpp(r:D)(m:Nat):(fsD r m).lookup ("laying":Str)=none:=by
 have h1:(("laying":Str) == "kept_rule")=false:=by decide +kernel
 have h2:(("laying":Str) == "nest_of")=false:=by decide +kernel
 simp only[fsD,lookup_cons,h1,h2,lookup_nil]
end
section
variable {μ:Mem}{n m:Nat}{R:List Nat}{ts:List (Nat×Nat)}{kvs:List (Nat×Nat)}{Q:D->Mem->Prop}
def zLr(h:Rl R ts)(s:Sh μ n m (rlN R ts) kvs)(k:Keys kvs S)(q:∀l μ',Keep μ μ'->μ.length<=l->μ'[l]?=some (.lst ((z0t R (S.map fun x=>kvs.lookup x)).map .int))->Q (.loc l) μ'):WF zqe [.loc n] μ Q:=by
 have hf:=s.few;have hl:=k.len;refine zkc rfl ?_;show WS zke [some (.loc n)] μ _ _ _ _;unfold zke;refine zjc (zw (zf (zw (zf (zJk (zd rfl ⟨n,_,rlN R ts,rfl,s.at_,rfl,?_⟩))))));refine zf (zw (zrc (zd rfl ⟨n,_,rfl,s.at_,zKh _ m,zr (z8d s k ?_)⟩)));refine zr (zwg h zt (by omega) fun μ1 k1=>?_);have s1:=s.keep (Keep.app.trans k1);refine zf (zw (zrc (zd rfl ⟨n,_,rfl,s1.at_,zpp _ m,zr (zqn s1 k fun l2 μ2 k2 g2 e2=>?_)⟩)));have e3:(S.map fun x=>onD (kvs.lookup x))=(S.map fun x=>kvs.lookup x).map onD:=by rw[map_map];rfl
 rw[e3]at e2;exact zr (zIo (L:=30) (h.wb (by omega)) e2 fun l3 μ3 k3 g3 e4=>q _ _ ((Keep.app.trans k1).trans (k2.trans k3)) (yC (Keep.app.trans (k1.trans k2)).len g3) e4)
end
structure WX(F:FX)(ds:List D)(μ:Mem)(Q:D->Mem->Prop):Prop where
 ex:∃d μ',F ds μ=some (.ok d μ')/\Q d μ'
def zFw{F:FX}(h:WA φ δ μ fun ds μ1=>WX F ds μ1 Q):WE (zvn F φ) δ μ Q:=by
 obtain⟨ds,μ1,e1,d,μ2,e2,q⟩:=h;exact⟨d,μ2,by simp[e1,e2],q⟩
def zKz(nx:M.Loc->Mem->Prop)(rt:D->Mem->Prop)(ex:Str->List (Str×D)->Mem->Prop):Out->Prop
 |.next δ μ=>nx δ μ
 |.ret d μ=>rt d μ
 |.exc c fs μ=>ex c fs μ
 |_=>False
structure WXs(p:FS)(δ:M.Loc)(μ:Mem)(nx:M.Loc->Mem->Prop)(rt:D->Mem->Prop)(ex:Str->List (Str×D)->Mem->Prop):Prop where
 ex:∃o,p δ μ=some o/\zKz nx rt ex o
section
variable {p q:FS}{δ:M.Loc}{μ:Mem}{nx:M.Loc->Mem->Prop}{rt:D->Mem->Prop}{ex:Str->List (Str×D)->Mem->Prop}
def zTq(h:WS p δ μ nx rt (fun _ _=>False) fun _ _=>False):WXs p δ μ nx rt ex:=by
 obtain⟨o,e,k⟩:=h
 cases o with
 |next _ _=>exact⟨_,e,k⟩
 |ret _ _=>exact⟨_,e,k⟩
 |brk _ _=>exact k.elim
 |cont _ _=>exact k.elim
 |exc _ _ _=>exact k.elim
def zIf(h:WXs p δ μ (fun δ' μ'=>WXs q δ' μ' nx rt ex) rt ex):WXs (zgb p q) δ μ nx rt ex:=by
 obtain⟨o,e,k⟩:=h
 cases o with
 |next δ' μ'=>obtain⟨o2,e2,k2⟩:=k;exact⟨o2,by simp[e,e2],k2⟩
 |ret d μ'=>exact⟨.ret d μ',by simp only[zgb,e],k⟩
 |exc c fs μ'=>exact⟨.exc c fs μ',by simp only[zgb,e],k⟩
 |brk _ _=>exact k.elim
 |cont _ _=>exact k.elim
def zAw{c:FT}(h:WT c δ μ fun b μ1=>(b=true->WXs p δ μ1 nx rt ex)/\(b=false->WXs q δ μ1 nx rt ex)):WXs (sIf c p q) δ μ nx rt ex:=by
 obtain⟨b,μ1,e,h1,h2⟩:=h
 cases b with
 |true=>obtain⟨o,e2,k⟩:=h1 rfl;exact⟨o,by simp[e,e2],k⟩
 |false=>obtain⟨o,e2,k⟩:=h2 rfl;exact⟨o,by simp[e,e2],k⟩
end
structure WXr(F:FX)(ds:List D)(μ:Mem)(Q:D->Mem->Prop)(ex:Str->List (Str×D)->Mem->Prop):Prop where
 ex:(∃d μ',F ds μ=some (.ok d μ')/\Q d μ')\/∃c fs μ',F ds μ=some (.exc c fs μ')/\ex c fs μ'
def z4v{F:FX}{N:List Str}{p:FS}{ex:Str->List (Str×D)->Mem->Prop}(hF:F=fun ds μ=>zyy (p (zM N ds) μ))(h:WXs p (zM N ds) μ (fun _ μ'=>Q .non μ') Q ex):WXr F ds μ Q ex:=by
 subst hF;obtain⟨o,e,k⟩:=h
 cases o with
 |next δ' μ'=>exact⟨.inl ⟨_,_,by rw[e];rfl,k⟩⟩
 |ret d μ'=>exact⟨.inl ⟨_,_,by rw[e];rfl,k⟩⟩
 |exc c fs μ'=>exact⟨.inr ⟨_,_,_,by rw[e];rfl,k⟩⟩
 |brk _ _=>exact k.elim
 |cont _ _=>exact k.elim
def zXw{c f:Str}{φ:FE}(h:WE φ δ μ fun x μ1=>∃n fs d,x = .loc n/\μ1[n]?=some (.exc c fs)/\fs.lookup f=some d/\Q d μ1):WE (fAt c f φ) δ μ Q:=by
 obtain⟨x,μ1,e1,n,fs,d,rfl,e2,e3,q⟩:=h;exact⟨d,μ1,by simp only[fAt,e1,yk,e2,if_true,e3],q⟩
abbrev zjt(kvs:List (Nat×Nat))(k:Nat):List (Nat×Nat):=kvs.filter fun p=>decide (p.1≠k)
def zKv(k:Nat)(kvs:List (Nat×Nat)):zov (dkN kvs) (k:Int)=dkN (zjt kvs k):=by
 unfold zov dkN zjt;rw[List.filter_map]
 congr 1
 refine filter_congr fun p _=>?_;show decide (((p.1:Nat):Int)≠(k:Int))=decide (p.1≠k);exact decide_eq_decide.mpr (by omega)
def Sh.ne(s:Sh μ n m r kvs):n≠m:=by
 rintro rfl;have h1:=s.at_;rw[s.dc]at h1;cases h1
def Sh.set{kvs':List (Nat×Nat)}(s:Sh μ n m r kvs)(nd:(kvs'.map (·.1)).Nodup)(few:kvs'.length<=30):Sh (μ.set m (.dct (dkN kvs'))) n m r kvs' where
 at_:=by rw[yJ (yN s.ne)];exact s.at_
 dc:=by
  have hm:m<μ.length:=by
   obtain⟨h, -⟩:=List.getElem?_eq_some_iff.mp s.dc;exact h
  rw[yM hm]
 nd:=nd
 few:=few
def Sh.pop(s:Sh μ n m r kvs)(k:Nat):Sh (μ.set m (.dct (dkN (zjt kvs k)))) n m r (zjt kvs k) :=
 s.set (List.Nodup.sublist (List.filter_sublist.map _) s.nd) (yC List.filter_sublist.length_le s.few)
def zlp{c:Str}{ex:Str->List (Str×D)->Mem->Prop}(h:WA φ δ μ fun _ μ1=>ex c [] μ1):WXs (zRm c φ) δ μ nx rt ex:=by
 obtain⟨ds,μ1,e,k⟩:=h;exact⟨.exc c [] μ1,by simp only[zRm,e,yk],k⟩
def zim(r:D)(m:Nat):(fsD r m).lookup ("has":Str)=none:=by
 have h1:(("has":Str) == "kept_rule")=false:=by decide +kernel
 have h2:(("has":Str) == "nest_of")=false:=by decide +kernel
 simp only[fsD,lookup_cons,h1,h2,lookup_nil]
def z9w{ex:Str->List (Str×D)->Mem->Prop}(s:Sh μ n m r kvs)(q:∀h:Nat,kvs.lookup k=some h->Q (.int h) (μ.set m (.dct (dkN (zjt kvs k)))))(qe:kvs.lookup k=none->ex "NoKey" [] μ):WXr zWd [.loc n, .int k] μ Q ex:=by
 refine z4v rfl ?_;show WXs zbf [some (.loc n),some (.int k)] μ _ _ _;unfold zbf;refine zIf (zAw (zBl (zO (zw (zrc (zd rfl ⟨n,_,rfl,s.at_,zim _ m,zf (zd rfl (zr (zJs s ⟨_,rfl,fun hb=>?_,fun hb=>?_⟩)))⟩))))))
 ·have h0:kvs.lookup k=none:=by
   cases e:kvs.lookup k with
   |none=>rfl
   |some v=>rw[e]at hb;cases hb
  exact zlp (zf (w_c (zr (qe h0))))
 ·cases e:kvs.lookup k with
  |none=>rw[e]at hb;cases hb
  |some v=>
   refine zTq (zPb (zTq (zjc (zPr (zJk (zd rfl ⟨n,_, .loc m,rfl,s.at_,z1d r m,m,_,rfl,s.dc,zf (zd rfl (zr (zix s.dc (by rw[zZh,e];rfl) ?_)))⟩))))));rw[zKv];exact q v e
def zbw(h:μ[n]?=some (.ins "Shelf" []))(q:Q .non (μ.set n (.ins "Shelf" (fsD r μ.length))++[.dct []])):WF zZb [.loc n,r] μ Q:=by
 have hn:n<μ.length:=(List.getElem?_eq_some_iff.mp h).1;refine zkc rfl ?_;show WS zCc [some (.loc n),some r] μ _ _ _ _;unfold zCc;refine zF (zjs (zd rfl (zd rfl ⟨n,_,rfl,h,by decide,?_⟩)));refine zjs ?_
 repeat walk_at "w"
 have g1:∀(X Y:LObj),(List.set μ n X++[Y])[n]?=some X:=fun X Y=>by rw[yq (by rw[length_set];exact hn),yM hn]
 have h2:¬("kept_rule":Str) = "nest_of":=by decide +kernel
 have e:∀l:Nat,z6h "nest_of" (.loc l) (z6h "kept_rule" r [])=fsD r l:=fun l=>by simp only[z6h,h2,if_false]
 refine⟨n,_,rfl,g1 _ _,by simp[z6h],?_⟩;rw[e,length_set,List.set_append_left _ _ (by rw[length_set];exact hn),List.set_set];exact q
def z6x:Sh ((μ++[LObj.ins "Shelf" []]).set μ.length (.ins "Shelf" (fsD r (μ++[LObj.ins "Shelf" []]).length))++[.dct []]) μ.length (μ++[LObj.ins "Shelf" []]).length r [] where
 at_:=by rw[yq (by simp),yM (by simp)]
 dc:=by rw[yK (by simp)];simp[dkN]
 nd:=List.nodup_nil
 few:=Ys _
def zyu{c f:Str}{ex:Str->List (Str×D)->Mem->Prop}(h:WA φ δ μ fun ds μ1=>∃(n:Nat)(ns:List Int),ds=[.loc n]/\μ1[n]?=some (.lst (ns.map D.int))/\zDg ns/\ex c [(f, .loc μ1.length)] (μ1++[.lst (ns.map D.int)])):WXs (zEe c f φ) δ μ nx rt ex:=by
 obtain⟨ds,μ1,e,n,ns,rfl,hm,hs,k⟩:=h;exact⟨Out.exc c [(f,D.loc μ1.length)] (μ1++[LObj.lst (ns.map D.int)]),by simp only[zEe,e,yk,hm,zOh,decide_eq_true hs,cond_true],k⟩
def z3o(T:List Nat):nat T=(T.map fun(k:Nat)=>(k:Int)).map D.int:=by rw[map_map];rfl
def zRs{xs:List Nat}(nd:xs.Nodup):∃T:List Nat,T.Perm xs/\T.Pairwise (· < ·):=by
 have e:(xs.map fun x=>(x,0)).map (·.1)=xs:=by rw[map_map];exact List.map_id' xs
 obtain⟨T,h⟩:=Keys.ex (kvs:=xs.map fun x=>(x,0)) (by rw[e];exact nd);exact⟨T,by have:=h.pm;rw[e]at this;exact this,h.pw⟩
def Keys.not(K:Keys kvs S){k:Nat}(h:kvs.lookup k=none):k∉S:=fun hm=>by
 obtain⟨v,hv⟩:=K.look hm;rw[h]at hv;cases hv
def Keys.nd(K:Keys kvs S){k:Nat}(h:kvs.lookup k=none):(S++[k]).Nodup:=by
 rw[nodup_append];refine⟨K.pw.imp fun h=>yz h,by simp,fun a ha b hb e=>K.not h ?_⟩;rw[mem_singleton]at hb;subst hb e;exact ha
def zDr{ex:Str->List (Str×D)->Mem->Prop}(h:WA φ δ μ fun ds μ1=>∃(l:Nat)(T:List Nat),ds=[.loc l]/\μ1[l]?=some (.lst (nat T))/\T.length<=31/\(∀x∈T,x<10^60)/\ex "Full" [("some", .loc μ1.length)] (μ1++[.lst (nat T)])):WXs (zEe "Full" "some" φ) δ μ nx rt ex:=by
 obtain⟨ds,μ1,e,l,T,rfl,hm,hl,hs,k⟩:=h;refine zyu ⟨_,μ1,e,l,T.map fun(k:Nat)=>(k:Int),rfl,by rw[<-z3o];exact hm,⟨by rw[length_map];omega,fun n hn=>?_⟩,by rw[<-z3o];exact k⟩;obtain⟨x,hx,rfl⟩:=List.mem_map.mp hn;have:=hs x hx;omega
def zuz:FS:=(zgb (zLc 3 (zx zkf (zi (zx zvb (zi (znp "Shelf" "kept_rule" (zm 0)) (zi (zm 2) zJ))) (zi (zD zxl (zx zJb (z1b "Shelf" "laying" (zm 0) zJ)) (znm (zi (fC .non) zJ))) (zi (zD zpt (zx zjk (zi (zm 2) zJ)) (fC (.int 1))) zJ))))) (zgb (sIf (zR (zD gEq (zD gIx (zm 3) (fC (.int 0))) (fC (.str "full")))) (zEe "Full" "some" (zi (zx zMf (zi (fLC 1 [2] (zIg (zD gIx (zm 3) (fC (.int 1)))) (gN 0) z7k zyd) zJ)) zJ)) z9b) (zgb (zLc 4 (fLC 1 [2] (zIg (zD gIx (zm 3) (fC (.int 1)))) (gN 0) z7k zEd)) (zgb (zhm (zIg (zm 4)) (gN 5) zFd) (zsc (zm 4))))))
def zrw{ex:Str->List (Str×D)->Mem->Prop}(s:Sh μ n m r kvs)(K:Keys kvs S)(hS:∀x∈S,x<10^60)(hk:k<10^60)
 (qt:∀h:Nat,kvs.lookup k=some h->ex "Twice" [] μ)
 (qf:∀(T:List Nat)(l:Nat)(μ':Mem),kvs.lookup k=none->S.length=30->T.Perm (S++[k])->T.Pairwise (· < ·)->Keep μ μ'->μ.length<=l->μ'[l]?=some (.lst (nat T))->ex "Full" [("some", .loc l)] μ')
 (qb:∀(l:Nat)(μ':Mem),kvs.lookup k=none->S.length<30->Keep μ μ'->μ.length<=l->μ'[l]?=some (.lst (nat (S++[k])))->WXs zuz [some (.loc n),some (.int k),some (.loc l),none,none,none] μ' (fun _ μ''=>Q .non μ'') Q ex):WXr zVd [.loc n, .int k] μ Q ex:=by
 have hf:=s.few;have hl:=K.len;refine z4v rfl ?_;show WXs z9e [some (.loc n),some (.int k),none,none,none,none] μ _ _ _;unfold z9e;refine zIf (zAw (zO (zw (zrc (zd rfl ⟨n,_,rfl,s.at_,zim _ m,zf (zd rfl (zr (zJs s ⟨_,rfl,fun hb=>?_,fun hb=>?_⟩)))⟩)))))
 ·cases e:kvs.lookup k with
  |none=>rw[e]at hb;cases hb
  |some v=>exact zlp (zf (w_c (zr (qt v e))))
 ·have h0:kvs.lookup k=none:=by
   cases e:kvs.lookup k with
   |none=>rfl
   |some v=>rw[e]at hb;cases hb
  refine zTq (zPb ?_);have g1:((μ++[LObj.lst (nat S)])++[LObj.lst [D.int k]])[μ.length]?=some (.lst (nat S)):=by rw[yq (by simp)];exact zt
  refine zIf (zTq (zCb (zq (zw (zrc (zd rfl ⟨n,_,rfl,s.at_,zKh _ m,zr (z8d s K (z3g (zf (zd rfl (zr (z2s g1 zt ?_ ?_))))))⟩))))))
  ·simp;omega
  ·have e1:nat S++[D.int k]=nat (S++[k]):=by simp[nat]
   have e2:(nat (S++[k])).length=S.length+1:=by rw[length_map,length_append,length_singleton]
   rw[e1];refine zIf (zAw (zO (zq (zw (zf (zd rfl (zr (zWi (zy zt) (w_c (zLm ⟨_,rfl,fun hb=>?_,fun hb=>?_⟩))))))))))
   ·have hb':=of_decide_eq_true hb;rw[e2]at hb';obtain⟨T,hT,pT⟩:=zRs (K.nd h0);have lT:=hT.length_eq;rw[length_append,length_singleton]at lT;refine zDr (zf (zw (zf (zd rfl (zr (zEj zt hT pT ?_ (zr ⟨_,T,rfl,zt,?_,fun x hx=>?_,?_⟩)))))))
    ·rw[length_append,length_singleton];omega
    ·omega
    ·rcases List.mem_append.mp (hT.mem_iff.mp hx) with h | h
     ·exact hS x h
     ·rw[mem_singleton]at h;subst h;exact hk
    ·refine qf T _ _ h0 (by omega) hT pT ?_ ?_ zt
     ·exact(((Keep.app.trans Keep.app).trans Keep.app).trans Keep.app).trans Keep.app
     ·simp
   ·have hb':=of_decide_eq_false hb;rw[e2]at hb';refine zTq (zPb ?_);exact qb _ _ h0 (by omega) ((Keep.app.trans Keep.app).trans Keep.app) (by simp) zt
def zVw:FS:=(zgb (sIf (zR (zD gEq (zD gIx (zm 3) (fC (.int 0))) (fC (.str "full")))) (zEe "Full" "some" (zi (zx zMf (zi (fLC 1 [2] (zIg (zD gIx (zm 3) (fC (.int 1)))) (gN 0) z7k zyd) zJ)) zJ)) z9b) (zgb (zLc 4 (fLC 1 [2] (zIg (zD gIx (zm 3) (fC (.int 1)))) (gN 0) z7k zEd)) (zgb (zhm (zIg (zm 4)) (gN 5) zFd) (zsc (zm 4)))))
def zcy{ex:Str->List (Str×D)->Mem->Prop}(h:Rl R ts)(s:Sh μ n m (rlN R ts) kvs)(K:Keys kvs S)(h30:S.length<30)(hl:μ[l]?=some (.lst (nat (S++[k]))))
 (q1:∀(row:List (Nat×Nat)) (l':Nat) (μ':Mem),RowOk (zOe R ts (S++[k])) ((S.map fun x=>kvs.lookup x)++[none]) S.length row->((S.map fun x=>kvs.lookup x)++[none]).count (some (row.getD (row.length-1) (0,0)).2)<R.getD (row.getD (row.length-1) (0,0)).2 0->row.length<=10->Keep μ μ'->μ'[l']?=some (.lst (row.map pD))->WXs zVw [some (.loc n),some (.int k),some (.loc l),some (.tup [.str "put", .loc l']),none,none] μ' nx rt ex)
 (q2:∀(T:List Nat)(l':Nat)(μ':Mem),T.Sublist (yy (S.length+1))->S.length∈T->Shut R (zOe R ts (S++[k])) ((S.map fun x=>kvs.lookup x)++[none]) T->Keep μ μ'->μ'[l']?=some (.lst (nat T))->WXs zVw [some (.loc n),some (.int k),some (.loc l),some (.tup [.str "full", .loc l']),none,none] μ' nx rt ex) :
 WXs zuz [some (.loc n),some (.int k),some (.loc l),none,none,none] μ nx rt ex:=by
 have hlen:(S++[k]).length=S.length+1:=by simp
 have hK:(zOe R ts (S++[k])).length=S.length+1:=by rw[length_map,hlen]
 have hy:((S.map fun x=>kvs.lookup x)++[none]).length=S.length+1:=by simp
 unfold zuz;refine zIf (zTq (zCb (zw (zf (zw (zf (zJk (zd rfl ⟨n,_,rlN R ts,rfl,s.at_,rfl,zf (zd rfl (zr (zwg h hl (by omega) fun μ1 k1=>?_)))⟩))))))));have s1:=s.keep k1;refine zf (zq (zw (zrc (zd rfl ⟨n,_,rfl,s1.at_,zpp _ m,zr (zqn s1 K fun l2 μ2 k2 g2 e2=>z3g (zf (w_c (zr (z2s (Keep.app _ _ e2) zt ?_ ?_)))))⟩))))
 ·simp;omega
 ·have e3:(S.map fun x=>onD (kvs.lookup x))++[D.non]=((S.map fun x=>kvs.lookup x)++[none]).map onD:=by rw[map_append,map_map];rfl
  rw[e3];have kk:Keep μ ((μ2++[LObj.lst [D.non]])++[LObj.lst (((S.map fun x=>kvs.lookup x)++[none]).map onD)]):=((k1.trans k2).trans Keep.app).trans Keep.app;refine zf (zq (zw (zf (zd rfl (zr (zWi (zy (kk _ _ hl)) (w_c (zmv (zr ?_)))))))));have e4:(((nat (S++[k])).length:Nat):Int)-1=((S.length:Nat):Int):=by rw[length_map,hlen];omega
  rw[e4];refine zRp (L:=30) (h.wb (by omega)) (by rw[hK,hy]) (by omega) zt (by omega) (by simp) (fun row l' μ' ro hr r10 k' _ e'=>?_) (fun T l' μ' sb hm sh k' _ e'=>?_)
  ·exact q1 row l' μ' ro hr r10 (kk.trans k') e'
  ·exact q2 T l' μ' (by rw[hK]at sb;exact sb) hm sh (kk.trans k') e'
def zqy{l':Nat}{ex:Str->List (Str×D)->Mem->Prop}(hS:∀x∈S++[k],x<10^60)(nd:(S++[k]).Nodup)(h30:S.length<30)(hl:μ[l]?=some (.lst (nat (S++[k]))))(sb:T.Sublist (yy (S.length+1)))(hm:S.length∈T)(hl':μ[l']?=some (.lst (nat T)))
 (q:∀(V:List Nat)(l2:Nat)(μ':Mem),V.Pairwise (· < ·)->k∈V->V.Perm (T.map fun i=>(S++[k]).getD i 0)->Keep μ μ'->μ.length<=l2->μ'[l2]?=some (.lst (nat V))->ex "Full" [("some", .loc l2)] μ') :
 WXs zVw [some (.loc n),some (.int k),some (.loc l),some (.tup [.str "full", .loc l']),none,none] μ nx rt ex:=by
 have hlen:(S++[k]).length=S.length+1:=by simp
 have lT:T.length<=S.length+1:=by have:=sb.length_le;rw[length_range]at this;exact this
 have hT:∀i∈T,i<(S++[k]).length:=fun i hi=>by have:=List.mem_range.mp (sb.subset hi);omega
 have g:∀(i:Nat)(h:i<(S++[k]).length),(S++[k]).getD i 0=(S++[k])[i]:=fun i h=>by rw[getD_eq_getElem?_getD,yp h,Xm]
 have hc:Yb (.str ("full":Str)) (.str ("full":Str))=true:=by decide +kernel
 unfold zVw;refine zIf (zAw (zO (zq (zq (zd rfl (w_c (zMc rfl rfl (w_c (z6f ⟨_,rfl,fun _=>?_,fun hb=>?_⟩)))))))))
 ·have ndV:(T.map fun i=>(S++[k]).getD i 0).Nodup:=by
   rw[List.Nodup,pairwise_map];refine List.Pairwise.imp_of_mem (fun{a b} ha hb hab e=>?_) (List.Nodup.sublist sb List.nodup_range);have h1:=hT a ha;have h2:=hT b hb;rw[g a h1,g b h2]at e;exact hab ((List.getElem?_inj h1 nd).mp (by rw[yp h1,yp h2,e]))
  obtain⟨V,hV,pV⟩:=zRs ndV;have lV:=hV.length_eq;rw[length_map]at lV;refine zDr (zf (zw (zf (z5p (zuf (zq (zd rfl (w_c (zMc rfl rfl (.inr (.inr ⟨_,_,rfl,hl',z4c (by rw[length_map];omega),?_⟩)))))))))));refine zHf (fun(x:Nat)=>D.int x) T (fun i=>D.int ((S++[k]).getD i 0:Nat)) (fun μ' k=>zwb hl' k) (fun i hi μ' kp=>?_) (fun μ' kp=>?_)
  ·refine z5h ?_;unfold zyd;exact zq (zd rfl (zd rfl (zMc (zy (kp _ _ hl)) (z0i (hT i hi)) ⟨rfl,kp,kp⟩)))
  ·have e:(T.map fun i=>D.int ((S++[k]).getD i 0:Nat))=nat (T.map fun i=>(S++[k]).getD i 0):=by rw[zOg]
   rw[e];refine zr (zEj zt hV pV (by rw[length_map];omega) (zr ⟨_,V,rfl,zt,by omega,fun x hx=>?_,?_⟩))
   ·obtain⟨i,hi,rfl⟩:=List.mem_map.mp (hV.mem_iff.mp hx);have:=hT i hi;rw[g i this];exact hS _ (getElem_mem this)
   ·refine q V _ _ pV ?_ hV ((kp.to.trans Keep.app).trans Keep.app) ?_ zt
    ·refine hV.mem_iff.mpr (List.mem_map.mpr ⟨S.length,hm,by simp⟩)
    ·have:=kp.len;simp;omega
 ·rw[hc]at hb;cases hb
def z2n(kvs:List (Nat×Nat))(k h:Nat):List (Nat×Nat):=if k∈kvs.map (·.1) then kvs.map (fun p=>if p.1=k then(p.1,h) else p) else kvs++[(k,h)]
def zgs(k h:Nat)(kvs:List (Nat×Nat)):znq (dkN kvs) (k:Int) (.int (h:Nat))=dkN (z2n kvs k h):=by
 have e:((dkN kvs).any fun p=>decide (p.1=(k:Int)))=decide (k∈kvs.map (·.1)):=by
  unfold dkN;rw[any_map];apply Bool.eq_iff_iff.mpr;rw[any_eq_true,decide_eq_true_iff,mem_map];constructor
  ·rintro⟨p,hp,h⟩;have h:((p.1:Nat):Int)=k:=of_decide_eq_true h;exact⟨p,hp,by omega⟩
  ·rintro⟨p,hp,h⟩;refine⟨p,hp,decide_eq_true (show((p.1:Nat):Int)=k from ?_)⟩;omega
 unfold znq z2n;rw[e]
 by_cases hk:k∈kvs.map (·.1)
 ·rw[if_pos (decide_eq_true hk),if_pos hk];unfold dkN;rw[map_map,map_map];refine List.map_congr_left fun p _=>?_;show(if((p.1:Nat):Int)=k then _ else _)=_
  by_cases hp:p.1=k
  ·rw[if_pos (by omega)];show _=((((if p.1=k then(p.1,h) else p).1:Nat):Int),D.int ((if p.1=k then(p.1,h) else p).2:Nat));rw[if_pos hp]
  ·rw[if_neg (by omega)];show _=((((if p.1=k then(p.1,h) else p).1:Nat):Int),D.int ((if p.1=k then(p.1,h) else p).2:Nat));rw[if_neg hp]
 ·rw[if_neg (by rw[decide_eq_true_iff];exact hk),if_neg hk];unfold dkN;rw[map_append];rfl
def zcn(kvs:List (Nat×Nat))(k h:Nat):(z2n kvs k h).map (·.1)=if k∈kvs.map (·.1) then kvs.map (·.1) else kvs.map (·.1)++[k]:=by
 unfold z2n
 by_cases hk:k∈kvs.map (·.1)
 ·rw[if_pos hk,if_pos hk,map_map];refine List.map_congr_left fun p _=>?_;show(if p.1=k then(p.1,h) else p).1=p.1
  by_cases hp:p.1=k
  ·rw[if_pos hp]
  ·rw[if_neg hp]
 ·rw[if_neg hk,if_neg hk,map_append];rfl
def zfw(nd:(kvs.map (·.1)).Nodup):((z2n kvs k h).map (·.1)).Nodup:=by
 rw[zcn]
 by_cases hk:k∈kvs.map (·.1)
 ·rw[if_pos hk];exact nd
 ·rw[if_neg hk,nodup_append];refine⟨nd,by simp,fun a ha b hb e=>hk ?_⟩;rw[mem_singleton]at hb;subst hb e;exact ha
def zsu{x:Nat}:x∈(z2n kvs k h).map (·.1)↔x∈kvs.map (·.1)\/x=k:=by
 rw[zcn]
 by_cases hk:k∈kvs.map (·.1)
 ·rw[if_pos hk];exact⟨.inl,fun h=>h.elim id fun h=>h▸hk⟩
 ·rw[if_neg hk,mem_append,mem_singleton]
def zqh{k h x:Nat}(hx:x≠k):∀kvs:List (Nat×Nat),(kvs.map (fun p=>if p.1=k then(p.1,h) else p)).lookup x=kvs.lookup x
 |[]=>rfl
 |(j,v)::kvs=>by
  have ih:=zqh (h:=h) hx kvs;rw[map_cons]
  by_cases hj:j=k
  ·have e:(x==j)=false:=beq_eq_false_iff_ne.mpr (by omega);rw[if_pos hj,lookup_cons,lookup_cons,e];exact ih
  ·rw[if_neg hj,lookup_cons,lookup_cons,ih]
def zIh{k h:Nat}:∀kvs:List (Nat×Nat),k∈kvs.map (·.1)->(kvs.map (fun p=>if p.1=k then(p.1,h) else p)).lookup k=some h
 |[],hk=>absurd hk (by simp)
 |(j,v)::kvs,hk=>by
  rw[map_cons]
  by_cases hj:j=k
  ·rw[if_pos hj,lookup_cons,hj,beq_self_eq_true]
  ·have e:(k==j)=false:=beq_eq_false_iff_ne.mpr (by omega);rw[if_neg hj,lookup_cons,e];rw[map_cons,mem_cons]at hk;exact zIh kvs (hk.resolve_left (yN hj))
def zhh(kvs:List (Nat×Nat))(k h x:Nat):(z2n kvs k h).lookup x=if x=k then some h else kvs.lookup x:=by
 unfold z2n
 by_cases hk:k∈kvs.map (·.1)
 ·rw[if_pos hk]
  by_cases hx:x=k
  ·subst hx;rw[if_pos rfl];exact zIh kvs hk
  ·rw[if_neg hx];exact zqh hx kvs
 ·rw[if_neg hk,List.lookup_append]
  by_cases hx:x=k
  ·subst hx
   have e:kvs.lookup x=none:=List.lookup_eq_none_iff.mpr fun p hp=>by
    apply bne_iff_ne.mpr;intro e;exact hk (List.mem_map.mpr ⟨p,hp,e.symm⟩)
   rw[if_pos rfl,e,Option.none_or,lookup_cons,beq_self_eq_true]
  ·have e:(x==k)=false:=beq_eq_false_iff_ne.mpr hx;rw[if_neg hx,lookup_cons,e];exact Option.or_none
def zFe(kvs row:List (Nat×Nat)):List (Nat×Nat):=row.foldl (fun kv p=>z2n kv p.1 p.2) kvs
def zjn(kvs row:List (Nat×Nat))(p:Nat×Nat):zFe kvs (row++[p])=z2n (zFe kvs row) p.1 p.2:=by
 unfold zFe;rw[List.foldl_append];rfl
def zce(row:List (Nat×Nat)):∀kvs:List (Nat×Nat),(kvs.map (·.1)).Nodup->((zFe kvs row).map (·.1)).Nodup:=by
 induction row with
 |nil=>exact fun _ h=>h
 |cons p row ih=>exact fun kvs h=>ih _ (zfw h)
def zaj(row:List (Nat×Nat)):∀(kvs:List (Nat×Nat)) (x:Nat),x∈(zFe kvs row).map (·.1)↔x∈kvs.map (·.1)\/x∈row.map (·.1):=by
 induction row with
 |nil=>intro kvs x;simp[zFe]
 |cons p row ih=>
  intro kvs x;show x∈(zFe (z2n kvs p.1 p.2) row).map (·.1)↔_;rw[ih,zsu,map_cons,mem_cons,or_assoc]
def zFp(nd:(kvs.map (·.1)).Nodup)(h1:∀x∈kvs.map (·.1),x∈A)(h2:∀x∈row.map (·.1),x∈A):(zFe kvs row).length<=A.length:=by
 have h:((zFe kvs row).map (·.1)).length<=A.length:=by
  refine zTd (zce row kvs nd) fun x hx=>?_;rcases(zaj row kvs x).mp hx with h | h
  ·exact h1 x h
  ·exact h2 x h
 rw[length_map]at h;exact h
abbrev zGo(A:List Nat)(row:List (Nat×Nat)):List (Nat×Nat):=row.map fun p=>(A.getD p.1 0,p.2)
def zSp(hm:∀p∈row,p.1<A.length):∀p∈zGo A row,p.1∈A:=fun p hp=>by
 obtain⟨q,hq,rfl⟩:=List.mem_map.mp hp;have h:=hm q hq;show A.getD q.1 0∈A;rw[getD_eq_getElem?_getD,yp h,Xm];exact getElem_mem h
abbrev JPt(n m k l l' lr:Nat)(r:D)(kvs rw_:List (Nat×Nat))(μ:Mem):Nat->M.Loc->Mem->Prop:=fun i δ μ'=>∃x5:Option D,δ=[some (.loc n),some (.int k),some (.loc l),some (.tup [.str "put", .loc l']),some (.loc lr),x5]/\KB [m] μ μ'/\Sh μ' n m r (zFe kvs (rw_.take i))
def z7w{l':Nat}{ex:Str->List (Str×D)->Mem->Prop}(s:Sh μ n m r kvs)(K:Keys kvs S)(h30:S.length<30)(hl:μ[l]?=some (.lst (nat (S++[k]))))(hm:∀p∈row,p.1<S.length+1)(r10:row.length<=10)(hl':μ[l']?=some (.lst (row.map pD)))
 (q:∀(lr:Nat)(μ':Mem),KB [m] μ μ'->μ.length<=lr->μ'[lr]?=some (.lst ((zGo (S++[k]) row).map pD))->Sh μ' n m r (zFe kvs (zGo (S++[k]) row))->rt (.loc lr) μ') :
 WXs zVw [some (.loc n),some (.int k),some (.loc l),some (.tup [.str "put", .loc l']),none,none] μ nx rt ex:=by
 have hlen:(S++[k]).length=S.length+1:=by simp
 have hm':∀p∈row,p.1<(S++[k]).length:=fun p hp=>by have:=hm p hp;omega
 have hc:Yb (.str ("put":Str)) (.str ("full":Str))=false:=by decide +kernel
 have hmm:=zI s.dc;unfold zVw;refine zIf (zAw (zO (zq (zq (zd rfl (w_c (zMc rfl rfl (w_c (z6f ⟨_,rfl,fun hb=>?_,fun _=>?_⟩)))))))))
 ·rw[hc]at hb;cases hb
 refine zTq (zPb ?_);refine zIf (zTq (zCb (z5p (zuf (zq (zd rfl (w_c (zMc rfl rfl (.inr (.inr ⟨_,_,rfl,hl',z4c (by rw[length_map];omega),?_⟩))))))))));refine zHf pD row (fun p=>pD ((S++[k]).getD p.1 0,p.2)) (fun μ' k=>zwb hl' k) (fun p hp μ' kp=>?_) (fun μ' kp=>?_)
 ·refine z5h ?_;unfold zEd;refine zoi (zf (zq (zd rfl (zq (zd rfl (w_c (zMc (x:=pD p) rfl (show atI [D.int (p.1:Nat),D.int (p.2:Nat)] 0=some (D.int (p.1:Nat)) from rfl) (zMc (zy (kp _ _ hl)) (z0i (hm' p hp)) ?_))))))));exact zf (zq (zd rfl (w_c (zMc (x:=pD p) rfl (show atI [D.int (p.1:Nat),D.int (p.2:Nat)] 1=some (D.int (p.2:Nat)) from rfl) (zr ⟨rfl,kp,kp⟩)))))
 ·have e:(row.map fun p=>pD ((S++[k]).getD p.1 0,p.2))=(zGo (S++[k]) row).map pD:=by rw[map_map];rfl
  rw[e];have k2:Keep μ (μ'++[LObj.lst ((zGo (S++[k]) row).map pD)]):=kp.to;have gl:(μ'++[LObj.lst ((zGo (S++[k]) row).map pD)])[μ'.length]?=some (.lst ((zGo (S++[k]) row).map pD)):=zt;have hle:=kp.len;have rl:(zGo (S++[k]) row).length<=10:=by rw[length_map];exact r10
  have rm:=zSp hm';generalize zGo (S++[k]) row=rw_ at k2 gl rl rm q;generalize μ'++[LObj.lst (rw_.map pD)]=μ2 at k2 gl;generalize μ'.length=lr at gl hle;have hne:lr≠m:=by omega
  refine zTq (zF (zWh (zuf (zd rfl (.inr (.inr ⟨_,_,rfl,gl,?_⟩))))));refine zVc (JPt n m k l l' lr r kvs rw_ μ2) ⟨_,rfl, .refl,s.keep k2⟩ ?_ ?_ ?_
  ·rintro i δ μ3 ⟨x5,rfl,k3,s3⟩;exact stays_iff.mpr (k3.at_ _ _ (by simp;exact hne) gl)
  ·rintro i x δ μ3 hx ⟨x5,rfl,k3,s3⟩;rw[yh]at hx
   cases hp:rw_[i]? with
   |none=>rw[hp]at hx;cases hx
   |some p=>
    rw[hp]at hx;obtain rfl:pD p=x:=by simpa using hx
    refine z5h ?_;unfold zFd;refine zPq (zq (zd rfl (w_c (zMc (x:=pD p) rfl (show atI [D.int (p.1:Nat),D.int (p.2:Nat)] 1=some (D.int (p.2:Nat)) from rfl) (z9o (zJk (zd rfl ⟨n,_, .loc m,rfl,s3.at_,z1d r m,?_⟩)))))));have ht:rw_.take (i+1)=rw_.take i++[p]:=by rw[List.take_add_one,hp];rfl
    have ekv:=zjn kvs (rw_.take i) p;rw[<-ht]at ekv;refine zq (zd rfl (w_c (zMc (x:=pD p) rfl (show atI [D.int (p.1:Nat),D.int (p.2:Nat)] 0=some (D.int (p.1:Nat)) from rfl) ⟨m,_,_,rfl,rfl,s3.dc,?_,_,rfl,k3.trans (KB.refl.set (.inl (by simp))),?_⟩)))
    ·have:=s3.few;unfold dkN;rw[length_map];omega
    ·rw[zgs,<-ekv];refine s3.set (zce _ _ s.nd) ?_;refine yC (zFp (A:=S++[k]) s.nd (fun x hx=>mem_append_left _ (K.pm.mem_iff.mpr hx)) fun x hx=>?_) (by omega);obtain⟨y,hy,rfl⟩:=List.mem_map.mp hx;exact rm y (List.mem_of_mem_take hy)
  ·rintro δ μ3 ⟨x5,rfl,k3,s3⟩;rw[length_map,take_length]at s3;have k4:=(KB.of_keep (L:=[m]) k2).trans k3;exact zjc (zd rfl (q lr μ3 k4 hle (k3.at_ _ _ (by simp;exact hne) gl) s3))
abbrev Can(R:List Nat)(ts:List (Nat×Nat))(kvs:List (Nat×Nat))(S:List Nat)(k:Nat)(row:List (Nat×Nat)):Prop:=RowOk (zOe R ts (S++[k])) ((S.map fun x=>kvs.lookup x)++[none]) S.length row/\((S.map fun x=>kvs.lookup x)++[none]).count (some (row.getD (row.length-1) (0,0)).2)<R.getD (row.getD (row.length-1) (0,0)).2 0
abbrev FullT(R:List Nat)(ts kvs:List (Nat×Nat))(S:List Nat)(k:Nat)(V:List Nat):Prop:=∃T:List Nat,T.Sublist (yy (S.length+1))/\S.length∈T/\Shut R (zOe R ts (S++[k])) ((S.map fun x=>kvs.lookup x)++[none]) T/\V.Perm (T.map fun i=>(S++[k]).getD i 0)
def FullT.len{V:List Nat}(h:FullT R ts kvs S k V):V.length<=S.length+1:=by
 obtain⟨T,sb,_,_,hV⟩:=h;have h1:=hV.length_eq;have h2:=sb.length_le;rw[length_map]at h1;rw[length_range]at h2;omega
def zmy{ex:Str->List (Str×D)->Mem->Prop}(h:Rl R ts)(s:Sh μ n m (rlN R ts) kvs)(K:Keys kvs S)(hS:∀x∈S,x<10^60)(hk:k<10^60)
 (qt:∀h:Nat,kvs.lookup k=some h->ex "Twice" [] μ)
 (qf:∀(V:List Nat)(l:Nat)(μ':Mem),kvs.lookup k=none->V.Pairwise (· < ·)->k∈V->(S.length=30/\V.Perm (S++[k])\/S.length<30/\FullT R ts kvs S k V)->Keep μ μ'->μ.length<=l->μ'[l]?=some (.lst (nat V))->ex "Full" [("some", .loc l)] μ')
 (q:∀(row:List (Nat×Nat)) (lr:Nat) (μ':Mem),kvs.lookup k=none->S.length<30->Can R ts kvs S k row->KB [m] μ μ'->μ.length<=lr->μ'[lr]?=some (.lst ((zGo (S++[k]) row).map pD))->Sh μ' n m (rlN R ts) (zFe kvs (zGo (S++[k]) row))->Q (.loc lr) μ'):WXr zVd [.loc n, .int k] μ Q ex:=by
 refine zrw s K hS hk qt (fun T l μ' h0 h30 hT pT k' g e=>qf T l μ' h0 pT (hT.mem_iff.mpr (by simp)) (.inl ⟨h30,hT⟩) k' g e) fun l μ1 h0 h30 k1 g1 e1=>?_
 have hSk:∀x∈S++[k],x<10^60:=fun x hx=>by
  rcases List.mem_append.mp hx with hx | hx
  ·exact hS x hx
  ·rw[List.mem_singleton.mp hx];exact hk
 refine zcy h (s.keep k1) K h30 e1 (fun row l' μ2 ro hr r10 k2 e2=>?_) (fun T l' μ2 sb hm sh k2 e2=>?_)
 ·refine z7w (s.keep (k1.trans k2)) K h30 (k2 _ _ e1) (fun p hp=>?_) r10 e2 fun lr μ3 k3 g3 e3 s3=>?_
  ·have:=(ro.mem p hp).1;rw[length_map,length_append,length_singleton]at this;exact this
  ·exact q row lr μ3 h0 h30 ⟨ro,hr⟩ ((KB.of_keep (k1.trans k2)).trans k3) (yC (k1.trans k2).len g3) e3 s3
 ·exact zqy hSk (K.nd h0) h30 (k2 _ _ e1) sb hm e2 fun V l2 μ3 pV hV pm k3 g3 e3=>qf V l2 μ3 h0 pV hV (.inr ⟨h30,T,sb,hm,sh,pm⟩) ((k1.trans k2).trans k3) (yC (k1.trans k2).len g3) e3
def z0g{x:Nat}(K:Keys kvs S)(ro:RowOk (zOe R ts (S++[k])) ((S.map fun x=>kvs.lookup x)++[none]) S.length row):x∈(zFe kvs (zGo (S++[k]) row)).map (·.1)↔x∈S\/x=k:=by
 have hm:∀p∈row,p.1<(S++[k]).length:=fun p hp=>by
  have:=(ro.mem p hp).1;rw[length_map]at this;exact this
 rw[zaj];constructor
 ·rintro(h | h)
  ·exact .inl (K.pm.mem_iff.mpr h)
  ·obtain⟨p,hp,rfl⟩:=List.mem_map.mp h;simpa using zSp hm p hp
 ·rintro(h | rfl)
  ·exact .inl (K.pm.mem_iff.mp h)
  ·obtain⟨h,r,e⟩:=ro.first
   refine .inr ?_;rw[e];simp
def zls{F:FX}{ex:Str->List (Str×D)->Mem->Prop}(h:WA φ δ μ fun ds μ1=>WXr F ds μ1 (fun _ μ'=>nx δ μ') ex):WXs (zPp F φ) δ μ nx rt ex:=by
 obtain⟨ds,μ1,e1,⟨d,μ',e2,k⟩ | ⟨c,fs,μ',e2,k⟩⟩:=h
 ·exact⟨.next δ μ',by simp[e1,e2],k⟩
 ·exact⟨.exc c fs μ',by simp[e1,e2],k⟩
def z9u{p q:FS}{j:Nat}{tb:List (Str×Bool)}{η:FH}{bk ct:M.Loc->Mem->Prop}(h:WXs p δ μ nx rt
 (fun c fs μ'=>tb.lookup c=some true/\WS q (δ.set j (some (.loc μ'.length))) (μ'++[.exc c fs]) (fun δ' μ''=>nx (δ'.set j none) μ'') rt (fun _ _=>False) (fun _ _=>False))):WS (zvs p (hAs j tb q η)) δ μ nx rt bk ct:=by
 obtain⟨o,e,k⟩:=h
 cases o with
 |next δ' μ'=>exact⟨.next δ' μ',by simp only[zvs,e],k⟩
 |ret d μ'=>exact⟨.ret d μ',by simp only[zvs,e],k⟩
 |brk _ _=>exact k.elim
 |cont _ _=>exact k.elim
 |exc c fs μ'=>
  obtain⟨ht,o,e3,k⟩:=k
  cases o with
  |next δ' μ2=>exact⟨.next _ μ2,by simp only[zvs,e,hAs,ht,e3,behind],k⟩
  |ret d μ2=>exact⟨.ret d μ2,by simp only[zvs,e,hAs,ht,e3,behind],k⟩
  |brk _ _=>exact k.elim
  |cont _ _=>exact k.elim
  |exc _ _ _=>exact k.elim
def zpy{lay:List (Option Nat)}{hs:List Nat}(e:lay=hs.map some)(hi:hs[i]?=some h):atI (lay.map onD) (i:Int)=some (.int (h:Nat)):=zEc (by rw[e,yh,yh,hi];rfl)
abbrev JRn(n m a l:Nat)(r:D)(S:List Nat)(kvs rw_:List (Nat×Nat))(μ:Mem):Nat->M.Loc->Mem->Prop:=fun i δ μ'=>∃x4 x5:Option D,δ=[some (.loc n),some r,some (.loc a),some (.tup [.str "fits", .loc l]),x4,x5]/\KB [n,m] μ μ'/\Sh μ' n m r (zFe kvs (rw_.take i))
def zXt{R':List Nat}{ex:Str->List (Str×D)->Mem->Prop}(h:Rl R' ts')(s:Sh μ n m r kvs)(K:Keys kvs S)(hS:∀x∈S,x<10^60)
 (qf:∀(T:List Nat)(l:Nat)(μ':Mem),T.Sublist (yy S.length)->z3c R' (zOe R' ts' S) T=true->zKc R' (zOe R' ts' S) T=none->Keep μ μ'->μ.length<=l->μ'[l]?=some (.lst (nat (T.map fun i=>S.getD i 0)))->ex "Full" [("some", .loc l)] μ')
 (q:∀(hs:List Nat)(μ':Mem),hs.length=S.length->RightL R' (zOe R' ts' S) (hs.map some)->KB [n,m] μ μ'->Sh μ' n m (rlN R' ts') (zFe kvs (S.zip hs))->Q .non μ'):WXr zLd [.loc n,rlN R' ts'] μ Q ex:=by
 have hf:=s.few;have hl:=K.len;have hK:(zOe R' ts' S).length=S.length:=by rw[length_map]
 have hcc:Yb (.str ("crowd":Str)) (.str ("crowd":Str))=true:=by decide +kernel
 have hfc:Yb (.str ("fits":Str)) (.str ("crowd":Str))=false:=by decide +kernel
 refine z4v rfl ?_;show WXs zDd [some (.loc n),some (rlN R' ts'),none,none,none,none] μ _ _ _;unfold zDd;refine zIf (zTq (zCb (zw (zrc (zd rfl ⟨n,_,rfl,s.at_,zKh _ m,zr (z8d s K ?_)⟩)))));have e0:(μ++[LObj.lst (nat S)])[μ.length]?=some (.lst (nat S)):=zt;have k0:Keep μ (μ++[LObj.lst (nat S)]):=Keep.app;generalize μ++[LObj.lst (nat S)]=μ0 at e0 k0;refine zIf (zTq (zCb (zw (zf (zw (zf (zd rfl (zf (zd rfl (zr (zwg h e0 (by omega) fun μ1 k1=>zr ?_)))))))))));have k01:=k0.trans k1;refine zDn (L:=30) (h.wb (by omega)) (by omega) (fun lay l μ2 rt hsm k2 g2 e2=>?_) (fun T l μ2 sb hc hsp k2 g2 e2=>?_)
 ·refine zIf (zAw (zO (zq (zq (zd rfl (w_c (zMc rfl rfl (w_c (z6f ⟨_,rfl,fun hb=>?_,fun _=>zTq (zPb ?_)⟩)))))))))
  ·rw[hfc]at hb;cases hb
  have hlay:lay.length=S.length:=by rw[rt.len,hK]
  have elay:lay=(lay.map fun o=>o.getD 0).map some:=by
   rw[map_map];refine ext_getElem? fun i=>?_;rw[yh]
   by_cases hi:i<lay.length
   ·have:=hsm i (by omega);rw[getD_eq_getElem?_getD]at this
    cases e:lay[i]? with
    |none=>rfl
    |some o=>
     rw[e]at this
     cases o with
     |none=>cases this
     |some v=>rfl
   ·rw[YG (by omega)];rfl
  have hhs:(lay.map fun o=>o.getD 0).length=S.length:=by rw[length_map,hlay]
  have k02:=k01.trans k2;have s2:=s.keep k02;have ea:=k2 _ _ (k1 _ _ e0);have q':=q (lay.map fun o=>o.getD 0);generalize (lay.map fun o=>o.getD 0)=hs at hhs elay q';have rt':RightL R' (zOe R' ts' S) (hs.map some):=by rw[<-elay];exact rt
  refine zTq (zF (zjs (zd rfl (zd rfl ⟨n,_,rfl,s2.at_,by simp[fsD],?_⟩))));have h2:z6h "kept_rule" (rlN R' ts') (fsD r m)=fsD (rlN R' ts') m:=by simp only[z6h,if_true]
  rw[h2];have hne:=s2.ne;have kn:KB [n,m] μ2 (μ2.set n (.ins "Shelf" (fsD (rlN R' ts') m))):=KB.refl.set (.inl (by simp));have s3:Sh (μ2.set n (.ins "Shelf" (fsD (rlN R' ts') m))) n m (rlN R' ts') kvs:=⟨zxw s2.at_,by rw[yJ hne];exact s2.dc,s2.nd,s2.few⟩
  have al:μ.length≠n:=yV (zI s.at_);have am:μ.length≠m:=yV (zI s.dc);have ln:l≠n:=by have:=zI s.at_;have:=k01.len;omega
  have lm:l≠m:=by have:=zI s.dc;have:=k01.len;omega
  have ea3:=kn.at_ _ _ (by simp;exact⟨al,am⟩) ea;have el3:=kn.at_ _ _ (by simp;exact⟨ln,lm⟩) e2;have k03:KB [n,m] μ (μ2.set n (.ins "Shelf" (fsD (rlN R' ts') m))):=(KB.of_keep k02).trans kn;generalize μ2.set n (.ins "Shelf" (fsD (rlN R' ts') m))=μ3 at s3 ea3 el3 k03;have zl:(S.zip hs).length=S.length:=by rw[List.length_zip,hhs,Nat.min_self]
  have zk:∀x∈(S.zip hs).map (·.1),x∈S:=fun x hx=>by
   obtain⟨p,hp,rfl⟩:=List.mem_map.mp hx;exact(of_mem_zip hp).1
  refine zWh (zHi (zd rfl (.inr (.inr ⟨_,_,rfl,ea3,?_⟩))));rw[zJr];refine zVc (JRn n m μ.length l (rlN R' ts') S kvs (S.zip hs) μ3) ⟨_,_,rfl, .refl,s3⟩ ?_ ?_ ?_
  ·rintro i δ μ4 ⟨x4,x5,rfl,k4,s4⟩;exact stays_iff.mpr (k4.at_ _ _ (by simp;exact⟨al,am⟩) ea3)
  ·rintro i x δ μ4 hx ⟨x4,x5,rfl,k4,s4⟩;rw[yh,Xk]at hx
   cases hp:S[i]? with
   |none=>rw[hp]at hx;cases hx
   |some key=>
    rw[hp]at hx;have hi:i<hs.length:=by rw[hhs];exact(List.getElem?_eq_some_iff.mp hp).1
    obtain⟨v,hv⟩:∃v,hs[i]?=some v:=⟨_,yp hi⟩
    have hz:(S.zip hs)[i]?=some (key,v):=by rw[List.getElem?_zip_eq_some];exact⟨hp,hv⟩
    simp only[xQ,Xg,Nat.zero_add]at hx;subst hx;refine zKt (zqo (z5h (zqo (z5h (zPt ?_)))));unfold zVf;refine zPq (zq (zq (zd rfl (w_c (zMc rfl rfl (zd rfl (zMc (zy (k4.at_ _ _ (by simp;exact⟨ln,lm⟩) el3)) (zpy elay hv) ?_)))))));refine z9o (zJk (zd rfl ⟨n,_, .loc m,rfl,s4.at_,z1d _ m,?_⟩));have ht:(S.zip hs).take (i+1)=(S.zip hs).take i++[(key,v)]:=by rw[List.take_add_one,hz];rfl
    have ekv:=zjn kvs ((S.zip hs).take i) (key,v);rw[<-ht]at ekv;refine zd rfl ⟨m,_,_,rfl,rfl,s4.dc,?_,_,_,rfl,k4.trans (KB.refl.set (.inl (by simp))),?_⟩
    ·have:=s4.few;unfold dkN;rw[length_map];omega
    ·rw[zgs];show Sh _ _ _ _ (zFe kvs (List.take (i+1) (S.zip hs)));rw[ekv];refine s4.set (by rw[<-ekv];exact zce _ _ s.nd) ?_;rw[<-ekv];refine yC (zFp (A:=S) s.nd (fun x hx=>K.pm.mem_iff.mpr hx) fun x hx=>?_) (by omega);obtain⟨y,hy,rfl⟩:=List.mem_map.mp hx;exact zk _ (List.mem_map.mpr ⟨y,List.mem_of_mem_take hy,rfl⟩)
  ·rintro δ μ4 ⟨x4,x5,rfl,k4,s4⟩;rw[length_map,List.length_zipIdx,<-zl,take_length]at s4;exact q' μ4 hhs rt' (k03.trans k4) s4
 ·refine zIf (zAw (zO (zq (zq (zd rfl (w_c (zMc rfl rfl (w_c (z6f ⟨_,rfl,fun _=>?_,fun hb=>?_⟩)))))))))
  ·rw[hK]at sb;have lT:T.length<=S.length:=by have:=sb.length_le;rw[length_range]at this;exact this
   have hT:∀i∈T,i<S.length:=fun i hi=>List.mem_range.mp (sb.subset hi);refine zDr (zf (z5p (zuf (zq (zd rfl (w_c (zMc rfl rfl (.inr (.inr ⟨_,_,rfl,e2,z4c (by rw[length_map];omega),?_⟩)))))))));have ea:=k2 _ _ (k1 _ _ e0);refine zHf (fun(x:Nat)=>D.int x) T (fun i=>D.int (S.getD i 0:Nat)) (fun μ' k=>zwb e2 k) (fun i hi μ' kp=>?_) (fun μ' kp=>?_)
   ·refine z5h ?_;unfold z8f;exact zq (zd rfl (zd rfl (zMc (zy (kp _ _ ea)) (z0i (hT i hi)) ⟨rfl,kp,kp⟩)))
   ·have e:(T.map fun i=>D.int (S.getD i 0:Nat))=nat (T.map fun i=>S.getD i 0):=by rw[zOg]
    rw[e];refine zr ⟨_,_,rfl,zt,by rw[length_map];omega,fun x hx=>?_,?_⟩
    ·obtain⟨i,hi,rfl⟩:=List.mem_map.mp hx;have:=hT i hi;rw[getD_eq_getElem?_getD,yp this,Xm];exact hS _ (getElem_mem this)
    ·refine qf T _ _ sb hc hsp (((k01.trans k2).trans kp.to).trans Keep.app) ?_ zt;have:=(k01.trans (k2.trans kp)).len;simp;omega
  ·rw[hcc]at hb;cases hb
structure WH(η:FH)(c:Str)(fs:List (Str×D))(δ:M.Loc)(μ:Mem)(nx:M.Loc->Mem->Prop)(rt:D->Mem->Prop):Prop where
 ex:∃o,η c fs δ μ=some o/\zKz nx rt (fun _ _ _=>False) o
section
variable {p q:FS}{i:Nat}{tb:List (Str×Bool)}{η:FH}{c:Str}{fs:List (Str×D)}{δ:M.Loc}{μ:Mem}{nx:M.Loc->Mem->Prop}{rt:D->Mem->Prop}{bk ct:M.Loc->Mem->Prop}{ex:Str->List (Str×D)->Mem->Prop}
end
structure RightS(R:List Nat)(ts kvs:List (Nat×Nat)):Prop where
 home:∀p∈kvs,p.2∈ts.map (hmN R.length p.1)
 room:∀h,(kvs.map fun p=>some p.2).count (some h)<=R.getD h 0
def zqi:∀{kvs:List (Nat×Nat)},(kvs.map (·.1)).Nodup->∀p∈kvs,kvs.lookup p.1=some p.2
 |[],_,p,hp=>absurd hp (by simp)
 |(j,v)::kvs,nd,p,hp=>by
  rw[map_cons,nodup_cons]at nd;rw[lookup_cons];rcases List.mem_cons.mp hp with rfl | hp
  ·rw[beq_self_eq_true]
  ·have:p.1≠j:=fun e=>nd.1 (e▸List.mem_map.mpr ⟨p,hp,rfl⟩);rw[beq_eq_false_iff_ne.mpr this];exact zqi nd.2 p hp
def zZt{x:Nat}:kvs.lookup x=some h->(x,h)∈kvs:=by
 induction kvs with
 |nil=>intro e;cases e
 |cons p kvs ih=>
  intro e;rw[lookup_cons]at e
  by_cases hx:x=p.1
  ·subst hx;rw[beq_self_eq_true]at e;cases e;exact mem_cons_self
  ·rw[beq_eq_false_iff_ne.mpr hx]at e;exact mem_cons_of_mem _ (ih e)
def zWp(nd:(kvs.map (·.1)).Nodup)(h:A.Perm (kvs.map (·.1))):(A.map fun x=>kvs.lookup x).Perm (kvs.map fun p=>some p.2):=by
 have e:(kvs.map fun p=>some p.2)=(kvs.map (·.1)).map fun x=>kvs.lookup x:=by
  rw[map_map];exact List.map_congr_left fun p hp=>(zqi nd p hp).symm
 rw[e];exact h.map _
def RightS.lay(r:RightS R ts kvs)(nd:(kvs.map (·.1)).Nodup)(h:A.Perm (kvs.map (·.1))):RightL R (zOe R ts A) (A.map fun x=>kvs.lookup x) where
 len:=by rw[length_map,length_map]
 home:=fun k v e=>by
  rw[yh]at e
  cases ea:A[k]? with
  |none=>rw[ea]at e;cases e
  |some x=>
   rw[ea]at e;have e':kvs.lookup x=some v:=by simpa using e
   rw[getD_eq_getElem?_getD,yh,ea];exact r.home _ (zZt e')
 room:=fun v=>by rw[(zWp nd h).count_eq];exact r.room v
def RightS.of(r:RightL R (zOe R ts A) (A.map fun x=>kvs.lookup x))(nd:(kvs.map (·.1)).Nodup)(h:A.Perm (kvs.map (·.1))):RightS R ts kvs where
 home:=fun p hp=>by
  have hm:p.1∈A:=h.mem_iff.mpr (List.mem_map.mpr ⟨p,hp,rfl⟩);obtain⟨i,hi⟩:=List.mem_iff_getElem?.mp hm;have:=r.home i p.2 (by rw[yh,hi];simp[zqi nd p hp]);rw[getD_eq_getElem?_getD,yh,hi]at this;exact this
 room:=fun v=>by rw[<-(zWp nd h).count_eq];exact r.room v
def zvv{x:Nat}(row:List (Nat×Nat)):∀kvs:List (Nat×Nat),x∉row.map (·.1)->(zFe kvs row).lookup x=kvs.lookup x:=by
 induction row with
 |nil=>intro kvs _;rfl
 |cons p row ih=>
  intro kvs hx;rw[map_cons,mem_cons,not_or]at hx;show(zFe (z2n kvs p.1 p.2) row).lookup x=_;rw[ih _ hx.2,zhh,if_neg hx.1]
def zAu(nd:A.Nodup)(row:List (Nat×Nat)):∀(kvs:List (Nat×Nat)),(∀p∈row,p.1<A.length)->z3d (A.map fun x=>kvs.lookup x) row=A.map fun x=>(zFe kvs (zGo A row)).lookup x:=by
 induction row with
 |nil=>intro kvs _;rfl
 |cons p row ih=>
  intro kvs hm;have hp:=hm p mem_cons_self
  have e:(A.map fun x=>kvs.lookup x).set p.1 (some p.2)=A.map fun x=>(z2n kvs (A.getD p.1 0) p.2).lookup x:=by
   refine ext_getElem? fun i=>?_;rw[yh]
   by_cases hi:i=p.1
   ·subst hi;rw[yM (by rw[length_map];exact hp),yp hp];simp[zhh,hp]
   ·rw[yJ (yN hi),yh]
    cases ea:A[i]? with
    |none=>rfl
    |some x=>
     have hx:x≠A.getD p.1 0:=by
      intro ex;have h1:A[p.1]?=some x:=by rw[ex,getD_eq_getElem?_getD,yp hp];rfl
      have hi':=(List.getElem?_eq_some_iff.mp ea).1;exact hi ((List.getElem?_inj hi' nd).mp (by rw[ea,h1]))
     simp only[xQ];rw[zhh,if_neg hx]
  show z3d ((A.map fun x=>kvs.lookup x).set p.1 (some p.2)) row=_;rw[e];exact ih _ fun q hq=>hm q (mem_cons_of_mem _ hq)
def zUo :∀{hs:List Nat} (kvs:List (Nat×Nat)),A.Nodup->hs.length=A.length->(A.map fun x=>(zFe kvs (A.zip hs)).lookup x)=hs.map some:=by
 induction A with
 |nil=>intro hs kvs _ hl;cases hs with
  |nil=>rfl
  |cons _ _=>cases hl
 |cons x A ih=>
  intro hs kvs nd hl
  cases hs with
  |nil=>cases hl
  |cons v hs=>
   rw[nodup_cons]at nd
   have hx:x∉(A.zip hs).map (·.1):=fun hm=>by
    obtain⟨p,hp,e⟩:=List.mem_map.mp hm;exact nd.1 (e▸(of_mem_zip hp).1)
   have e2:=ih (hs:=hs) (z2n kvs x v) nd.2 (by simpa using hl);show(zFe (z2n kvs x v) (A.zip hs)).lookup x::(A.map fun x_1=>(zFe (z2n kvs x v) (A.zip hs)).lookup x_1)=some v::hs.map some;rw[e2,zvv _ _ hx,zhh,if_pos rfl]
def zipp{hs:List Nat}(hl:hs.length=A.length):(A.zip hs).map (·.1)=A:=by
 rw[List.map_fst_zip (by omega)]
def z5m{A':List Nat}(nd:A.Nodup)(h:A'.Perm A)(f:zUi R (zOe R ts A)):zUi R (zOe R ts A'):=by
 obtain⟨lay,r,hw⟩:=f;have hlay:lay.length=A.length:=by rw[r.len,length_map]
 have elay:lay=(lay.map fun o=>o.getD 0).map some:=by
  rw[map_map];refine ext_getElem? fun i=>?_;rw[yh]
  by_cases hi:i<lay.length
  ·have:=hw i (by rw[<-r.len];exact hi);rw[getD_eq_getElem?_getD]at this
   cases e:lay[i]? with
   |none=>rfl
   |some o=>
    rw[e]at this
    cases o with
    |none=>cases this
    |some v=>rfl
  ·rw[YG (by omega)];rfl
 have hl:(lay.map fun o=>o.getD 0).length=A.length:=by rw[length_map,hlay]
 generalize (lay.map fun o=>o.getD 0)=hs at elay hl;have z:=zUo (hs:=hs) [] nd hl;have ndk:=zce (A.zip hs) [] (by simp)
 have pm:A.Perm ((zFe [] (A.zip hs)).map (·.1)):=by
  refine(YV nd ndk).mpr fun x=>?_;rw[zaj,zipp hl];simp
 have rs:RightS R ts (zFe [] (A.zip hs)):=RightS.of (A:=A) (by rw[z,<-elay];exact r) ndk pm;refine⟨_,rs.lay ndk (h.trans pm),fun k hk=>?_⟩;rw[length_map]at hk;have hm:A'[k]∈(zFe [] (A.zip hs)).map (·.1):=(h.trans pm).mem_iff.mp (getElem_mem hk);obtain⟨p,hp,e⟩:=List.mem_map.mp hm;rw[getD_eq_getElem?_getD,yh,yp hk];simp only[xQ,Xm];rw[<-e,zqi ndk p hp];rfl
def RightS.fits(r:RightS R ts kvs)(nd:(kvs.map (·.1)).Nodup)(h:A.Perm (kvs.map (·.1))):zUi R (zOe R ts A):=by
 refine⟨_,r.lay nd h,fun k hk=>?_⟩;rw[length_map]at hk;have hm:A[k]∈kvs.map (·.1):=h.mem_iff.mp (getElem_mem hk);obtain⟨p,hp,e⟩:=List.mem_map.mp hm;rw[getD_eq_getElem?_getD,yh,yp hk];simp only[xQ,Xm];rw[<-e,zqi nd p hp];rfl
section
variable {R:List Nat}{ts kvs row:List (Nat×Nat)}{S:List Nat}{k:Nat}
def zzh(h0:kvs.lookup k=none):(S.map fun x=>kvs.lookup x)++[none]=(S++[k]).map fun x=>kvs.lookup x:=by rw[map_append,map_cons,map_nil,h0]
def z8q(r:RightS R ts kvs)(nd:(kvs.map (·.1)).Nodup)(K:Keys kvs S)(h0:kvs.lookup k=none)(c:Can R ts kvs S k row):RightS R ts (zFe kvs (zGo (S++[k]) row)):=by
 have hlen:(S++[k]).length=S.length+1:=by simp
 have hm:∀p∈row,p.1<(S++[k]).length:=fun p hp=>by
  have:=(c.1.mem p hp).1;rw[length_map]at this;exact this
 have r1:RightL R (zOe R ts (S++[k])) ((S++[k]).map fun x=>kvs.lookup x):=by
  have r0:=r.lay nd K.pm;rw[<-zzh h0];refine⟨by simp,fun i v e=>?_,fun v=>?_⟩
  ·by_cases hi:i<S.length
   ·rw[yq (by simpa using hi)]at e;have:=r0.home i v e;rw[getD_eq_getElem?_getD,yh]at this ⊢;rw[yq hi];exact this
   ·rw[yK (by simp;omega)]at e;have:=mem_of_getElem? e;simp at this
  ·rw[List.count_append];have:=r0.room v;simp;exact this
 have r2:=zWg r1 (by rw[<-zzh h0];exact c.1) (by rw[<-zzh h0];simp) (by rw[<-zzh h0];exact c.2);rw[zAu (K.nd h0) row kvs hm]at r2;refine RightS.of r2 (zce _ _ nd) ((YV (K.nd h0) (zce _ _ nd)).mpr fun x=>?_);rw[z0g K c.1];simp
def zxu(nd:(kvs.map (·.1)).Nodup)(K:Keys kvs S)(h0:kvs.lookup k=none)(c:Can R ts kvs S k row):(S++[k]).Perm ((zFe kvs (zGo (S++[k]) row)).map (·.1)) :=
 (YV (K.nd h0) (zce _ _ nd)).mpr fun x=>by
  rw[z0g K c.1];simp
def zwt{V:List Nat}(w:Wb L R (zOe R ts (S++[k])))(f:FullT R ts kvs S k V):¬zUi R (zOe R ts (S++[k])):=by
 obtain⟨T,sb,hm,sh,_⟩:=f;have hK:(zOe R ts (S++[k])).length=S.length+1:=by rw[length_map,length_append,length_singleton]
 refine z6l w (by rw[hK];exact sb) (zdi w sh (by rw[hK];simp) hm (by simp))
def zEl{V:List Nat}(hT:∀i∈T,i<A.length)(hV:V.Perm (T.map fun i=>A.getD i 0))(hc:z3c R (zOe R ts A) T=true):z3c R (zOe R ts V) (yy V.length)=true:=by
 have hl:=hV.length_eq;rw[length_map]at hl
 have hg:∀i∈T,(zOe R ts A).getD i []=ts.map (hmN R.length (A.getD i 0)):=fun i hi=>by
  have:=hT i hi;rw[getD_eq_getElem?_getD,yh,yp this,getD_eq_getElem?_getD,yp this];rfl
 have hn:zNe R.length (zOe R ts V) (yy V.length)=zNe R.length (zOe R ts A) T:=by
  unfold zNe;refine filter_congr fun h _=>decide_eq_decide.mpr ?_;constructor
  ·rintro⟨j,hj,hh⟩;have hj:=List.mem_range.mp hj;rw[getD_eq_getElem?_getD,yh,yp hj]at hh;have hm:=hV.mem_iff.mp (getElem_mem hj);obtain⟨i,hi,e⟩:=List.mem_map.mp hm;refine⟨i,hi,?_⟩;rw[hg i hi,e];exact hh
  ·rintro⟨i,hi,hh⟩;rw[hg i hi]at hh;have hm:A.getD i 0∈V:=hV.mem_iff.mpr (List.mem_map.mpr ⟨i,hi,rfl⟩);obtain⟨j,hj⟩:=List.mem_iff_getElem?.mp hm;refine⟨j,List.mem_range.mpr (List.getElem?_eq_some_iff.mp hj).1,?_⟩;rw[getD_eq_getElem?_getD,yh,hj];exact hh
 unfold z3c at hc ⊢;rw[hn,length_range,hl];exact hc
end
def zLp(f:Nat)(R:List Nat)(ts:List (Nat×Nat)):toP μ (f+4) (rlN R ts)=some (.tuple [Enc.p R,Enc.p (ts.map fun t=>[t.1,t.2])]):=by
 have h4:toP μ (f+3) (tn R)=some (Enc.p R):=Enc.rd μ (f+1) R
 have h5:toP μ (f+3) (.tup (ts.map pr2))=some (Enc.p (ts.map fun t=>[t.1,t.2])):=by
  have e:(D.tup (ts.map pr2))=Enc.d (ts.map fun t=>[t.1,t.2]):=by
   show _=D.tup ((ts.map fun t=>[t.1,t.2]).map Enc.d);rw[map_map];rfl
  rw[e];exact Enc.rd μ f (ts.map fun t=>[t.1,t.2])
 show([tn R,D.tup (ts.map pr2)].mapM (toP μ (f+3))).bind (fun ps=>some (PyData.tuple ps))=_;simp only[mapM_cons,List.mapM_nil,h4,h5];rfl
def zpl(r:D)(m:Nat)(x:Str)(h1:(x == "kept_rule")=false)(h2:(x == "nest_of")=false):(fsD r m).lookup x=none:=by
 simp only[fsD,lookup_cons,h1,h2,lookup_nil]
def zeu(r:D)(m:Nat):(fsD r m).lookup ("put":Str)=none:=zpl r m _ (by decide +kernel) (by decide +kernel)
def ztt(r:D)(m:Nat):(fsD r m).lookup ("out":Str)=none:=zpl r m _ (by decide +kernel) (by decide +kernel)
def ziq(r:D)(m:Nat):(fsD r m).lookup ("renew":Str)=none:=zpl r m _ (by decide +kernel) (by decide +kernel)
def zHl(r:D)(m:Nat):(fsD r m).lookup ("where":Str)=none:=zpl r m _ (by decide +kernel) (by decide +kernel)
def zks(r:D)(m:Nat):(fsD r m).lookup ("left":Str)=none:=zpl r m _ (by decide +kernel) (by decide +kernel)
def zWe(r:D)(m:Nat):(fsD r m).lookup ("rule":Str)=none:=zpl r m _ (by decide +kernel) (by decide +kernel)
def pick2:∀v:Nat,v<2->∃s:Nat,atI [D.int 10007, .int 30] (v:Int)=some (.int (s:Nat))/\0<s/\s<=10007
 |0,_=>⟨10007,zEc (j:=0) rfl,by decide,by decide⟩
 |1,_=>⟨30,zEc (j:=1) rfl,by decide,by decide⟩
 |v+2,h=>absurd h (by omega)
def nin1{a:Nat}(h:l≠a):a∉[l]:=fun hm=>h (List.mem_singleton.mp hm).symm
def zvg{s:Nat}(h:Pen μ l B)(hB:B<=1000000)(h0:0<s)(h1:s<=100000)(q:∀(v:Nat)(μ':Mem),v<s->KB [l] μ μ'->Pen μ' l (B+1)->Q (.int (v:Nat)) μ'):WF zrb [.loc l, .int (s:Nat)] μ Q :=
 ztv h (by omega) (by omega) (by omega) fun v μ' a b k _ p=>by
  obtain⟨v,rfl⟩:=Yx a;exact q v μ' (by omega) k p
def z7s(hp:Pen μ l 101000)(q:∀(R:List Nat)(ts:List (Nat×Nat)) (μ':Mem),Rl R ts->KB [l] μ μ'->Q (rlN R ts) μ'):WF z7e [.loc l] μ Q:=by
 refine zkc rfl ?_;show WS zcf [some (.loc l),none,none,none,none] μ _ _ _ _;unfold zcf;refine zF (zCb (zq (w_c (zw (zf (zd rfl (zf (w_c (zr (zvg (s:=10) hp (by omega) (by decide) (by decide) fun v1 μ1 b1 k1 p1=>zkr ?_))))))))));have e1:(1:Int)+(v1:Nat)=((1+v1:Nat):Int):=by omega
 rw[e1];have hN:1<=1+v1/\1+v1<=10:=by omega
 generalize 1+v1=N at hN;refine zF (zCb (zw (zf (z5p (zLj (zf (zd rfl (zr ⟨_,rfl,by omega,by omega,z4c (by simp;omega),?_⟩))))))));rw[Ym];refine z8n (fun i ys μ'=>∃R:List Nat,ys=nat R/\R.length=i/\KB [l] μ1 μ'/\Pen μ' l (101001+i)) ⟨[],rfl,rfl, .refl,p1.mono (by omega)⟩ (fun _ _ _ _=>rfl) ?_ ?_
 ·rintro i x ys μ' hx ⟨R,rfl,hl,k,p⟩;obtain⟨hi,rfl⟩:=zkj hx;refine z5h (zdw ⟨fun _=>?_,fun hf=>(by cases hf)⟩);unfold zph;refine zw (zf (zd rfl (zf (w_c (zr (zvg (s:=10) p (by omega) (by decide) (by decide) fun v2 μ2 b2 k2 p2=>?_))))));exact⟨R++[v2],by rw[zng];rfl,by simp[hl],k.trans k2,p2.mono (by omega)⟩
 rintro ys μ2 ⟨R,rfl,hl,k2,p2⟩;simp only[length_map,length_range]at hl;refine zr (zki (zy zt) ?_);have p4:=(p2.mono (B':=101100) (by simp;omega)).app (g:=[LObj.lst (nat R)]);have k4:KB [l] μ (μ2++[LObj.lst (nat R)]):=(k1.trans k2).app;generalize μ2++[LObj.lst (nat R)]=μ4 at p4 k4;have hlc4:l≠μ4.length:=yz p4.lt;refine zF (zCb (zq (z3g (zf (w_c (zf (w_c (zr ?_))))))));refine zw (zf (zd rfl (zf (w_c (zr (zvg (s:=2) p4.app (by omega) (by decide) (by decide) fun v5 μ5 b5 k5 p5=>?_))))));obtain⟨f,ef,hf1,hf2⟩:=pick2 v5 b5;refine zMc (zy (k5.at_ _ _ (nin1 hlc4) zt)) ef ?_;have k05:KB [l] μ μ5:=(k4.app).trans k5;refine zF (zCb (zw (zf (z5p (zLj (zf (zq (w_c (zw (zf (zd rfl (zf (w_c (zr (zvg (s:=2) p5 (by omega) (by decide) (by decide) fun v6 μ6 b6 k6 p6=>zkr (zr ?_))))))))))))))));have e4:(2:Int)+(v6:Nat)=((2+v6:Nat):Int):=by omega
 rw[e4];refine⟨_,rfl,by omega,by omega,z4c (by simp;omega),?_⟩;rw[Ym];refine z8n (fun i ys μ'=>∃ts:List (Nat×Nat),ys=ts.map pr2/\ts.length=i/\(∀t∈ts,t.1<=10006/\t.2<=10006)/\KB [l] μ6 μ'/\Pen μ' l (101200+2*i)) ⟨[],rfl,rfl,by simp, .refl,p6.mono (by omega)⟩ (fun _ _ _ _=>rfl) ?_ ?_
 ·rintro i x ys μ' hx ⟨ts,rfl,hl,hS,k,p⟩;obtain⟨hi,rfl⟩:=zkj hx;refine z5h (zdw ⟨fun _=>?_,fun hf=>(by cases hf)⟩);unfold zgh;refine zoi (zf (zw (zf (zd rfl (zf (zd rfl (zr (zvg p (by omega) hf1 (by omega) fun v7 μ7 b7 k7 p7=>?_))))))));refine zf (zw (zf (zd rfl (zf (zd rfl (zr (zvg p7 (by omega) hf1 (by omega) fun v8 μ8 b8 k8 p8=>zr ?_)))))));refine⟨ts++[(v7,v8)],by rw[map_append];rfl,by simp[hl],fun t ht=>?_,k.trans (k7.trans k8),p8.mono (by omega)⟩;rcases List.mem_append.mp ht with ht | ht
  ·exact hS t ht
  ·rw[List.mem_singleton.mp ht];exact⟨by show v7<=10006;omega,by show v8<=10006;omega⟩
 ·rintro ys μ' ⟨ts,rfl,ht,hS,k,p⟩;simp only[length_map,length_range]at ht;refine zr (zki (zy zt) (zjc (zoi (zf (zd rfl (zf (zd rfl (zr ?_))))))));exact q R ts _ ⟨by omega,by omega,hS⟩ ((k05.trans (k6.trans k)).app)
def zfu{c:Int}(h:Rl R ts)(q:∀R' μ',Rl R' ts->Keep μ μ'->Q (rlN R' ts) μ'):WF zme [rlN R ts, .int c] μ Q:=by
 have hrl:=h.rl;refine zkc rfl ?_;show WS zte [some (rlN R ts),some (.int c)] μ _ _ _ _;unfold zte;refine zF (zai (zO (zq (zq (zd rfl (w_c (zzj (by omega) (w_c (z3p ⟨_,rfl,fun _=>zjc (zd rfl (q R μ h Keep.refl)),fun _=>zPb ?_⟩)))))))));refine zjc (zoi (zf (zw (zf (z5p (zuf (zq (zd rfl (w_c (zMc rfl (show atI [tn R, .tup (ts.map pr2)] 0=some (tn R) from rfl) (.inl ⟨_,rfl,z4c (by rw[length_map];omega),?_⟩)))))))))));refine zHf (fun(x:Nat)=>D.int x) R (fun x=>D.int (x%3:Nat)) (fun _ _=>rfl) (fun x hx μ' kp=>?_) (fun μ' kp=>?_)
 ·refine z5h ?_;unfold zJg;refine zq (zd rfl (w_c (zzj (by omega) ⟨?_,kp,kp⟩)))
  push_cast
  rfl
 ·refine zr (zki (zy zt) ?_);have e:(R.map fun x=>D.int (x%3:Nat))=nat (R.map (· % 3)):=by rw[zOg]
  rw[e];refine zf (zq (zd rfl (w_c (zMc rfl (show atI [tn R, .tup (ts.map pr2)] 1=some (.tup (ts.map pr2)) from rfl) (zr ?_)))));exact q (R.map (· % 3)) _ ⟨by rw[length_map];exact h.rl,h.tl,h.tn⟩ kp.to
def zyv{V:List Nat}{φ:FE}(hV:V.Pairwise (· < ·))(hl:V.length<64)(h:WE φ δ μ fun x μ1=>x = .loc n/\μ1[n]?=some (.lst (nat V))/\Q (.loc μ1.length) (μ1++[.lst (nat V)])):WE (z3m φ) δ μ Q:=by
 have hpw:(V.map (fun(k:Nat)=>(k:Int))).Pairwise (· < ·):=by
  rw[pairwise_map];exact hV.imp fun h=>by omega
 have hp:=z4i (ns:=V.map (fun(k:Nat)=>(k:Int))) (fun _=>Iff.rfl) hpw;have hsort:=zwm (ns:=V.map (fun(k:Nat)=>(k:Int))) (fun _=>Iff.rfl) hpw;refine zEs (h.mono ?_);rintro x μ1 ⟨rfl,g,q⟩;refine⟨_,V.map (fun(k:Nat)=>(k:Int)),rfl,by rw[g,map_map];rfl,by rw[length_map];omega,by rw[hp.length_eq,length_map];omega,?_⟩;rw[hsort,map_map];exact q
section
variable {μ:Mem}{n m tl k:Nat}{R:List Nat}{ts kvs:List (Nat×Nat)}{A S:List Nat}{Q:D->Mem->Prop}
def z8s(h:Rl R ts)(s:Sh μ n m (rlN R ts) kvs)(rs:RightS R ts kvs)(K:Keys kvs S)(ea:μ[tl]?=some (.lst (nat A)))(pA:A.Perm (kvs.map (·.1)))(q:∀μ',Keep μ μ'->Q (.bl true) μ'):WF zCd [.loc n, .loc tl] μ Q:=by
 have hf:=s.few;have hl:=K.len;have pSA:S.Perm A:=K.pm.trans pA.symm;have lSA:=pSA.length_eq;refine zkc rfl ?_;show WS zJd [some (.loc n),some (.loc tl),none,none,none] μ _ _ _ _;unfold zJd;refine zF (zCb (zw (zf (zd rfl (zr (zEj ea pSA K.pw (by omega) ?_))))));have e1:(μ++[LObj.lst (nat S)])[μ.length]?=some (.lst (nat S)):=zt;have k1:Keep μ (μ++[LObj.lst (nat S)]):=Keep.app;generalize μ++[LObj.lst (nat S)]=μ1 at e1 k1;generalize μ.length=l1 at e1;have s1:=s.keep k1;refine zF (zCb (zw (zf (zw (zrc (zd rfl ⟨n,_,rfl,s1.at_,zWe _ m,zr (zjg s1 (zf (zd rfl (zr (zwg h e1 (by omega) fun μ2 k2=>?_)))))⟩))))));have s2:=s1.keep k2;have e2:=k2 _ _ e1;refine zF (zCb (z5p (zuf (zd rfl (.inr (.inr ⟨_,_,rfl,e2,z4c (by rw[length_map];omega),?_⟩))))));refine zHf (fun(x:Nat)=>D.int x) S (fun x=>onD (kvs.lookup x)) (fun μ' k=>zwb e2 k) (fun x hx μ' kp=>?_) (fun μ3 kp=>?_)
 ·have s':=s2.keep kp;refine z5h ?_;unfold zSf;exact zw (zrc (zd rfl ⟨n,_,rfl,s'.at_,zHl _ m,zf (zd rfl (zr (zXp s' ⟨rfl,kp,kp⟩)))⟩))
 have e3:(S.map fun x=>onD (kvs.lookup x))=(S.map fun x=>kvs.lookup x).map onD:=by rw[map_map];rfl
 rw[e3];have el:(μ3++[LObj.lst ((S.map fun x=>kvs.lookup x).map onD)])[μ3.length]?=some (.lst ((S.map fun x=>kvs.lookup x).map onD)):=zt;have k3:Keep μ2 (μ3++[LObj.lst ((S.map fun x=>kvs.lookup x).map onD)]):=kp.to;generalize μ3++[LObj.lst ((S.map fun x=>kvs.lookup x).map onD)]=μ4 at el k3;generalize μ3.length=ll at el;have s4:=s2.keep k3;have e4:=k3 _ _ e2;have rt:=rs.lay s.nd K.pm;have w:Wb 30 R (zOe R ts S):=h.wb (by omega);refine zF (zai (zem (zO (zq (zw (zrc (zd rfl ⟨n,_,rfl,s4.at_,zKh _ m,zr (z8d s4 K (zd rfl (zMt S S zt (Keep.app _ _ e4) ⟨_,rfl,fun _=>?_,fun hb=>?_⟩)))⟩)))))))
 ·have el5:(μ4++[LObj.lst (nat S)])[ll]?=some (.lst ((S.map fun x=>kvs.lookup x).map onD)):=Keep.app _ _ el;refine zem (zO (zq (w_c (zd rfl (zYz (zy el5) rfl (zZl _) ⟨_,rfl,fun _=>?_,fun hb=>?_⟩)))))
  ·refine zO (zq (zw (zf (zd rfl (zf (zd rfl (zr (zxp w (zZl _) (by simp) el5 fun μ6 k6=>?_))))))));rw[zEk rt];refine w_c ⟨.bl false,_,rfl,_,rfl,fun hb=>(by cases hb),fun _=>zPb ?_⟩;have k46:Keep μ4 μ6:=Keep.app.trans k6;have s6:=s4.keep k46;refine zjc (zq (zw (zrc (zd rfl ⟨n,_,rfl,s6.at_,zks _ m,zr (zLr h s6 K fun l7 μ7 k7 g7 e7=>?_)⟩))));refine zw (zf (zd rfl (zf (zd rfl (zr (zIo w (k7 _ _ (k46 _ _ el)) fun l8 μ8 k8 g8 e8=>?_))))));refine zMx (α:=Int) _ _ (k8 _ _ e7) e8 ?_;rw[decide_eq_true rfl];exact q _ (k1.trans (k2.trans (k3.trans (k46.trans (k7.trans k8)))))
  ·exfalso;rw[any_eq_true]at hb;obtain⟨d,hd,e⟩:=hb;obtain⟨o,ho,rfl⟩:=List.mem_map.mp hd;obtain⟨x,hx,rfl⟩:=List.mem_map.mp ho;obtain⟨v,hv⟩:=K.look hx;rw[hv]at e;cases e
 ·rw[decide_eq_true rfl]at hb;cases hb
end
section
variable {μ:Mem}{n m tl k:Nat}{R:List Nat}{ts kvs:List (Nat×Nat)}{A S V:List Nat}{Q:D->Mem->Prop}
def zSi{kn:Nat}{x:Option Nat}(h:Rl R ts)(ek:μ[kn]?=some (.lst (nat A)))(el:μ[l]?=some (.lst (nat V)))(hV:V.Pairwise (· < ·))(lV:V.length<=31)(hs:∀y∈V,y∈A)(hx:∀y,x=some y->y∈V)(hc:z3c R (zOe R ts V) (yy V.length)=true)(q:∀μ',Keep μ μ'->Q (.bl true) μ'):WF zzb [rlN R ts, .loc kn, .loc l,onD x] μ Q:=by
 refine zkc rfl ?_;show WS zpc [some (rlN R ts),some (.loc kn),some (.loc l),some (onD x)] μ _ _ _ _;unfold zpc
 have tail:∀μ1,Keep μ μ1->WS (zsc (zx z7c (zi (zx zvb (zi (zm 0) (zi (zm 2) zJ))) (zi (zti (zx zjk (zi (zm 2) zJ))) zJ)))) [some (rlN R ts),some (.loc kn),some (.loc l),some (onD x)] μ1 (fun _ μ'=>Q .non μ') Q (fun _ _=>False) (fun _ _=>False):=fun μ1 k1=>by
  refine zjc (zw (zf (zw (zf (zd rfl (zf (zd rfl (zr (zwg h (k1 _ _ el) (by omega) fun μ2 k2=>?_)))))))));refine zf (ztm (zw (zf (zd rfl (zr (zWi (zy (k2 _ _ (k1 _ _ el))) ⟨_,rfl,⟨by omega,by rw[length_map];omega⟩,zr ?_⟩))))));rw[length_map,Ym];refine zwl (L:=31) (S:=yy V.length) (h.wb lV) zt (fun i hi=>by rw[length_map];exact List.mem_range.mp hi) (by simp;omega) fun μ3 k3=>?_;rw[hc];exact q _ (k1.trans (k2.trans (Keep.app.trans k3)))
 refine zF (zai (zem (zO (zq (zd rfl (zyv hV (by omega) (zd rfl ⟨rfl,el,zMt V V (Keep.app _ _ el) zt ⟨_,rfl,fun _=>?_,fun hb=>?_⟩⟩)))))))
 ·have el1:(μ++[LObj.lst (nat V)])[l]?=some (.lst (nat V)):=Keep.app _ _ el;have ek1:(μ++[LObj.lst (nat V)])[kn]?=some (.lst (nat A)):=Keep.app _ _ ek;have k1:Keep μ (μ++[LObj.lst (nat V)]):=Keep.app;generalize μ++[LObj.lst (nat V)]=μ1 at el1 ek1 k1;refine zO (zq (z5p (zuf (zd rfl (.inr (.inr ⟨_,_,rfl,el1,z4c (by rw[length_map];omega),?_⟩))))));refine zCk (fun(x:Nat)=>D.int x) V (fun x=>D.int (x:Nat)) (fun y=>!decide (y∈A)) (fun μ' k=>zwb el1 k) (fun y hy μ' kp=>?_) (fun μ2 kp=>?_)
  ·refine z5h ?_;unfold z6d;refine zO (zq (zd rfl (zd rfl (zSh (zy (kp _ _ ek1)) ⟨_,rfl,rfl,kp,fun _=>?_⟩))));unfold zde;exact zd rfl ⟨rfl,kp⟩
  ·have e:(V.filter fun y=>!decide (y∈A))=[]:=by
    rw[List.filter_eq_nil_iff];intro y hy;simp[hs y hy]
   rw[e];refine z3g (zr (zMt (α:=Nat) [] [] (Keep.app _ _ zt) zt ⟨_,rfl,fun hb=>(by cases hb),fun _=>zPb ?_⟩));have k3:Keep μ ((μ2++[LObj.lst ([].map fun(x:Nat)=>D.int (x:Nat))])++[LObj.lst []]):=k1.trans ((kp.trans Keep.app).trans Keep.app);generalize (μ2++[LObj.lst ([].map fun(x:Nat)=>D.int (x:Nat))])++[LObj.lst []]=μ3 at k3
   cases x with
   |none=>
    exact zF (zai (zkk (zO (zq (zd rfl (w_c ⟨.bl false,_,rfl,_,rfl,fun hb=>(by cases hb),fun _=>⟨fun hb=>(by cases hb),fun _=>zPb (tail μ3 k3)⟩⟩))))))
   |some y=>
    refine zF (zai (zkk (zO (zq (zd rfl (w_c ⟨.bl true,_,rfl,_,rfl,fun _=>?_,fun hb=>(by cases hb)⟩))))));refine zO (zq (zd rfl (zd rfl (zSh (zy (k3 _ _ el)) ⟨_,rfl,fun hb=>?_,fun _=>zPb (tail μ3 k3)⟩))));rw[decide_eq_true (hx y rfl)]at hb;cases hb
 ·rw[decide_eq_true rfl]at hb;cases hb
structure S72(μ:Mem)(n m tl:Nat)(R:List Nat)(ts kvs:List (Nat×Nat))(A:List Nat):Prop where
 rl:Rl R ts
 sh:Sh μ n m (rlN R ts) kvs
 rs:RightS R ts kvs
 pA:A.Perm (kvs.map (·.1))
 bd:∀x∈kvs.map (·.1),x<10^60
 ea:μ[tl]?=some (.lst (nat A))
def S72.keep{μ':Mem}(s:S72 μ n m tl R ts kvs A)(k:Keep μ μ'):S72 μ' n m tl R ts kvs A:=⟨s.rl,s.sh.keep k,s.rs,s.pA,s.bd,k _ _ s.ea⟩
def S72.ne(s:S72 μ n m tl R ts kvs A):n≠tl/\m≠tl:=by
 constructor
 ·rintro rfl;have:=s.sh.at_;rw[s.ea]at this;cases this
 ·rintro rfl;have:=s.sh.dc;rw[s.ea]at this;cases this
def z6p(pA:A.Perm (kvs.map (·.1)))(h:k∉A):kvs.lookup k=none:=by
 rw[List.lookup_eq_none_iff];intro p hp;apply bne_iff_ne.mpr;intro e;exact h (pA.mem_iff.mpr (List.mem_map.mpr ⟨p,hp,e.symm⟩))
def zPu(hR:Rl R ts)(l:Nat)(S:List Nat)(hS:S.length<=30)(h:WA φ δ μ fun ds μ1=>ds=[rlN R ts, .loc l]/\μ1[l]?=some (.lst (nat S))/\∀b μ2,(b=true↔zUi R (zOe R ts S))->Keep μ1 μ2->Q (.bl b) μ2):WE (zD gEq (zD gIx (zx zBd (zi (zx zvb φ) zJ)) (fC (.int 0))) (fC (.str "fits"))) δ μ Q:=by
 have h1:Yb (.str ("fits":Str)) (.str ("fits":Str))=true:=by decide +kernel
 have h2:Yb (.str ("crowd":Str)) (.str ("fits":Str))=false:=by decide +kernel
 obtain⟨ds,μ1,e,rfl,el,q⟩:=h;have w:Wb 30 R (zOe R ts S):=hR.wb hS;refine zq (zq (zw (zf (zw ⟨_,μ1,e,zwg hR el (by omega) fun μ2 k2=>zr ?_⟩))));refine zDn w (by omega) (fun lay l' μ3 rt hw k3 _ e3=>?_) (fun T l' μ3 sb hc _ k3 _ e3=>?_)
 ·refine w_c (zMc rfl rfl (w_c (z6f ?_)));rw[h1];exact q true μ3 ⟨fun _=>⟨lay,rt,hw⟩,fun _=>rfl⟩ (k2.trans k3)
 ·refine w_c (zMc rfl rfl (w_c (z6f ?_)));rw[h2];exact q false μ3 ⟨fun hb=>(by cases hb),fun f=>absurd f (z6l w sb hc)⟩ (k2.trans k3)
def zst(s:S72 μ n m tl R ts kvs A)(hk:k<10^60)(hn:k∉A)(hA:A.length<18)
 (q:∀(kvs':List (Nat×Nat)) (A':List Nat) (μ':Mem),S72 μ' n m tl R ts kvs' A'->A'.length<=A.length+1->KB [m,tl] μ μ'->Q (.bl true) μ'):WF zUe [.loc n, .loc tl, .int (k:Nat)] μ Q:=by
 obtain⟨S,K⟩:=Keys.ex s.sh.nd;have pSA:S.Perm A:=K.pm.trans s.pA.symm;have lSA:=pSA.length_eq;have h0:=z6p s.pA hn
 have ndA:(A++[k]).Nodup:=by
  rw[nodup_append];refine⟨s.pA.nodup_iff.mpr s.sh.nd,by simp,fun a ha b hb e=>hn ?_⟩;rw[mem_singleton]at hb;subst hb e;exact ha
 obtain⟨S',pS',wS'⟩:=zRs ndA;have pSS':S'.Perm (S++[k]):=pS'.trans (pSA.symm.append_right [k]);have lS':S'.length=A.length+1:=by rw[pS'.length_eq,length_append,length_singleton]
 have ndS:(S++[k]).Nodup:=K.nd h0;have fp:zUi R (zOe R ts S')↔zUi R (zOe R ts (S++[k])):=⟨z5m (wS'.imp fun h=>yz h) pSS'.symm,z5m ndS pSS'⟩
 have hne:=s.ne;refine zkc rfl ?_;show WS zqg [some (.loc n),some (.loc tl),some (.int (k:Nat)),none,none,none,none] μ _ _ _ _;unfold zqg;have e1:nat A++[D.int k]=nat (A++[k]):=by simp[nat]
 refine zF (zCb (zw (zf (zq (zd rfl (z3g (zf (zd rfl (zr (z2s (Keep.app _ _ s.ea) zt ?_ ?_)))))))))) 
 ·simp;omega
 rw[e1];refine zr (zEj zt pS' wS' (by simp;omega) ?_);have kk:Keep μ (((μ++[LObj.lst [D.int (k:Nat)]])++[LObj.lst (nat (A++[k]))])++[LObj.lst (nat S')]):=(Keep.app.trans Keep.app).trans Keep.app;have ek:(((μ++[LObj.lst [D.int (k:Nat)]])++[LObj.lst (nat (A++[k]))])++[LObj.lst (nat S')])[((μ++[LObj.lst [D.int (k:Nat)]])++[LObj.lst (nat (A++[k]))]).length]?=some (.lst (nat S')):=zt;generalize ((μ++[LObj.lst [D.int (k:Nat)]])++[LObj.lst (nat (A++[k]))])++[LObj.lst (nat S')]=μ1 at kk ek;generalize ((μ++[LObj.lst [D.int (k:Nat)]])++[LObj.lst (nat (A++[k]))]).length=kn at ek;have s1:=s.keep kk;refine zF (zCb (zPu s.rl kn S' (by omega) (zf (zw (zrc (zd rfl ⟨n,_,rfl,s1.sh.at_,zWe _ m,zr (zjg s1.sh (zf (zd rfl (zr ⟨rfl,ek,fun b μ2 hb k2=>?_⟩))))⟩))))));have s2:=s1.keep k2;have ek2:=k2 _ _ ek;refine zF (zCb (w_c ?_));refine zF (z9u (zls (zrc (zd rfl ⟨n,_,rfl,s2.sh.at_,zeu _ m,zf (zd rfl (zr (zmy s.rl s2.sh K (fun x hx=>s.bd x (K.pm.mem_iff.mp hx)) hk (fun v e=>?_) (fun V l μ3 _ pV hkV hc k3 g3 e3=>?_) fun row lr μ3 _ h30 c k3 g3 e3 s3=>?_)))⟩))))
 ·rw[h0]at e;cases e
 ·obtain⟨h30,ft⟩:S.length<30/\FullT R ts kvs S k V:=by
   rcases hc with ⟨a,_⟩ | h
   ·omega
   ·exact h
  have nf:¬zUi R (zOe R ts (S++[k])):=zwt (L:=30) (s.rl.wb (by simp;omega)) ft
  have hbf:b=false:=by
   cases b with
   |false=>rfl
   |true=>exact absurd (fp.mp (hb.mp rfl)) nf
  subst hbf;have lV:=ft.len;refine⟨by decide +kernel,zCb (zXw (zd rfl ⟨_,_,_,rfl,zt,rfl,?_⟩))⟩;have k4:Keep μ2 (μ3++[LObj.exc "Full" [("some",D.loc l)]]):=k3.to;have e4:(μ3++[LObj.exc "Full" [("some",D.loc l)]])[l]?=some (.lst (nat V)):=Keep.app _ _ e3;generalize μ3++[LObj.exc "Full" [("some",D.loc l)]]=μ4 at k4 e4;have s4:=s2.keep k4;refine zF (zai (zO (zd rfl ⟨_,rfl,fun hb=>(by cases hb),fun _=>zPb ?_⟩)));refine zjc (zdr (zq (zd rfl (w_c ⟨.bl true,_,rfl,_,rfl,fun _=>?_,fun hb=>(by cases hb)⟩))));refine zw (zf (zw (zrc (zd rfl ⟨n,_,rfl,s4.sh.at_,zWe _ m,zr (zjg s4.sh (zf (zd rfl (zf (zd rfl (zf (zd rfl (zr ?_))))))))⟩))));obtain⟨T,sb,hm,sh,pV2⟩:=ft
  have hT:∀i∈T,i<(S++[k]).length:=fun i hi=>by
   have:=List.mem_range.mp (sb.subset hi);simp;omega
  have hK:(zOe R ts (S++[k])).length=S.length+1:=by rw[length_map,length_append,length_singleton]
  have hcr:z3c R (zOe R ts (S++[k])) T=true:=zdi (L:=30) (s.rl.wb (by simp;omega)) sh (by rw[hK];simp) hm (by simp);refine zSi (x:=some k) s.rl (k4 _ _ ek2) e4 pV (by omega) (fun y hy=>?_) (fun y e=>by cases e;exact hkV) (zEl hT pV2 hcr) fun μ5 k5=>?_
  ·obtain⟨i,hi,e⟩:=List.mem_map.mp (pV2.mem_iff.mp hy);have:=hT i hi;rw[<-e,getD_eq_getElem?_getD,yp this];exact pSS'.mem_iff.mpr (getElem_mem this)
  ·exact q kvs A μ5 (s4.keep k5) (by omega) (KB.of_keep (kk.trans (k2.trans (k4.trans k5))))
 ·have pm:=zxu s.sh.nd K h0 c;have rs':=z8q s.rs s.sh.nd K h0 c;have ft:zUi R (zOe R ts (S++[k])):=rs'.fits (zce _ _ s.sh.nd) pm;have hbt:b=true:=hb.mpr (fp.mpr ft);subst hbt;have ea3:μ3[tl]?=some (.lst (nat A)):=k3.at_ _ _ (by simp;exact yN hne.2) s2.ea;have htl:=zI s.ea;refine zF (zai (zO (zd rfl ⟨_,rfl,fun _=>?_,fun hb=>(by cases hb)⟩)));refine zF (zDk (zRi (zd rfl ⟨_,_,rfl,ea3,zf (zd rfl (zr (znj ea3 (by rw[length_map];omega) ?_)))⟩)));refine zjc (zq (zd rfl (w_c (zEx rfl ?_))));rw[e1];refine q _ (A++[k]) _ ⟨s.rl,?_,rs',(pSA.symm.append_right [k]).trans pm,fun x hx=>?_,zbb ea3⟩ (by simp) ?_
  ·exact⟨zS s3.at_ (yN hne.1),zS s3.dc (yN hne.2),s3.nd,s3.few⟩
  ·rcases(z0g K c.1).mp hx with hx | rfl
   ·exact s.bd x (K.pm.mem_iff.mp hx)
   ·exact hk
  ·exact((KB.of_keep (kk.trans k2)).trans (k3.sub fun i hi => .inl (by rw[List.mem_singleton.mp hi];simp))).set (.inl (by simp))
end
def zkw{ψ:FA}(h:WA ψ δ μ fun ds μ1=>∃r,ds=[r]/\∀n m μ',Keep μ1 μ'->μ1.length<=n->μ1.length<=m->n<μ'.length->m<μ'.length->Sh μ' n m r []->Q (.loc n) μ'):WE (zqq "Shelf" zZb ψ) δ μ Q:=by
 obtain⟨ds,μ1,e,r,rfl,q⟩:=h;refine zLx ⟨_,μ1,e,zbw zt ⟨rfl,?_⟩⟩;refine q μ1.length (μ1++[LObj.ins "Shelf" []]).length _ (fun i o ei=>?_) (yi _) (by simp) (by simp) (by simp) z6x;exact Keep.app _ _ (zS (Keep.app _ _ ei) (yV (zI ei)))
def zbu:(zjt kvs k).lookup k=none:=by
 rw[List.lookup_eq_none_iff];intro p hp;apply bne_iff_ne.mpr;rintro rfl;have:=(List.mem_filter.mp hp).2;simp at this
section
variable {μ:Mem}{n m tl k:Nat}{R:List Nat}{ts kvs:List (Nat×Nat)}{A S V:List Nat}{Q:D->Mem->Prop}
def zBo{R':List Nat}{hs:List Nat}(nd:(kvs.map (·.1)).Nodup)(K:Keys kvs S)(hl:hs.length=S.length)(rt:RightL R' (zOe R' ts' S) (hs.map some)):RightS R' ts' (zFe kvs (S.zip hs))/\S.Perm ((zFe kvs (S.zip hs)).map (·.1)):=by
 have ndS:S.Nodup:=K.pw.imp fun h=>yz h
 have pm:S.Perm ((zFe kvs (S.zip hs)).map (·.1)):=by
  refine(YV ndS (zce _ _ nd)).mpr fun x=>?_;rw[zaj,zipp hl];exact⟨fun h => .inr h,fun h=>h.elim (fun h=>K.pm.mem_iff.mpr h) id⟩
 exact⟨RightS.of (A:=S) (by rw[zUo kvs ndS hl];exact rt) (zce _ _ nd) pm,pm⟩
def zvq{R':List Nat}(h':Rl R' ts')(s:S72 μ n m tl R ts kvs A)(hA:A.length<=18)
 (q:∀(R2:List Nat)(ts2 kvs':List (Nat×Nat)) (μ':Mem),S72 μ' n m tl R2 ts2 kvs' A->KB [n,m] μ μ'->Q (.bl true) μ'):WF z7b [.loc n, .loc tl,rlN R' ts'] μ Q:=by
 obtain⟨S,K⟩:=Keys.ex s.sh.nd;have pSA:S.Perm A:=K.pm.trans s.pA.symm;have lSA:=pSA.length_eq;have hne:=s.ne;have w:Wb 30 R' (zOe R' ts' S):=h'.wb (by omega);refine zkc rfl ?_;show WS zjd [some (.loc n),some (.loc tl),some (rlN R' ts'),none,none,none,none] μ _ _ _ _;unfold zjd;refine zF (zCb (zPu h' μ.length S (by omega) (zf (zd rfl (zf (zw (zf (zd rfl (zr (zEj s.ea pSA K.pw (by omega) (zr ⟨rfl,zt,fun b μ2 hb k2=>?_⟩)))))))))));have k02:Keep μ μ2:=Keep.app.trans k2;have s2:=s.keep k02;refine zF (zCb (zw (zrc (zd rfl ⟨n,_,rfl,s2.sh.at_,zWe _ m,zr (zjg s2.sh ?_)⟩))));refine zF (zCb (w_c ?_));refine zF (z9u (zls (zrc (zd rfl ⟨n,_,rfl,s2.sh.at_,ziq _ m,zf (zd rfl (zr (zXt h' s2.sh K (fun x hx=>s.bd x (K.pm.mem_iff.mp hx)) (fun T l μ3 sb hc _ k3 g3 e3=>?_) fun hs μ3 hl rt k3 s3=>?_)))⟩))))
 ·have hT:∀i∈T,i<S.length:=fun i hi=>List.mem_range.mp (sb.subset hi);have nf:¬zUi R' (zOe R' ts' S):=z6l w (by rw[length_map];exact sb) hc
  have hbf:b=false:=by
   cases b with
   |false=>rfl
   |true=>exact absurd (hb.mp rfl) nf
  subst hbf;have lT:T.length<=S.length:=by have:=sb.length_le;rw[length_range]at this;exact this
  have wV:(T.map fun i=>S.getD i 0).Pairwise (· < ·):=by
   rw[pairwise_map];refine List.Pairwise.imp_of_mem (fun{a b} ha hb hab=>?_) (List.pairwise_lt_range.sublist sb);have h1:=hT a ha;have h2:=hT b hb;rw[getD_eq_getElem?_getD,yp h1,getD_eq_getElem?_getD,yp h2];exact List.pairwise_iff_getElem.mp K.pw a b h1 h2 hab
  refine⟨by decide +kernel,zCb (zXw (zd rfl ⟨_,_,_,rfl,zt,rfl,?_⟩))⟩;have k4:Keep μ2 (μ3++[LObj.exc "Full" [("some",D.loc l)]]):=k3.to;have e4:(μ3++[LObj.exc "Full" [("some",D.loc l)]])[l]?=some (.lst (nat (T.map fun i=>S.getD i 0))):=Keep.app _ _ e3;generalize μ3++[LObj.exc "Full" [("some",D.loc l)]]=μ4 at k4 e4;have s4:=s2.keep k4;refine zF (zai (zO (zd rfl ⟨_,rfl,fun hb=>(by cases hb),fun _=>zPb ?_⟩)));refine zjc (zdr (zq (zd rfl (w_c ⟨.bl true,_,rfl,_,rfl,fun _=>?_,fun hb=>(by cases hb)⟩))));refine zdr (zq (zw (zrc (zd rfl ⟨n,_,rfl,s4.sh.at_,zWe _ m,zr (zjg s4.sh (zd rfl (zpx (zLp 4 R ts) (zLp 4 R ts) ⟨_,rfl,fun _=>?_,fun hb=>(by cases hb)⟩)))⟩))));refine zw (zf (zd rfl (zf (zd rfl (zf (zd rfl (zf (w_c (zr ?_)))))))));refine zSi (x:=none) h' s4.ea e4 wV (by rw[length_map];omega) (fun y hy=>?_) (fun y e=>by cases e) (zEl hT (List.Perm.refl _) hc) fun μ5 k5=>?_
  ·obtain⟨i,hi,e⟩:=List.mem_map.mp hy;have:=hT i hi;rw[<-e,getD_eq_getElem?_getD,yp this];exact pSA.mem_iff.mp (getElem_mem this)
  ·exact q R ts kvs μ5 (s4.keep k5) (KB.of_keep (k02.trans (k4.trans k5)))
 ·obtain⟨rs',pm⟩:=zBo s.sh.nd K hl rt;have ft:zUi R' (zOe R' ts' S):=rs'.fits (zce _ _ s.sh.nd) pm;have hbt:b=true:=hb.mpr ft;subst hbt;refine zF (zai (zO (zd rfl ⟨_,rfl,fun _=>?_,fun hb=>(by cases hb)⟩)));refine zjc (zdr (zq (zd rfl (w_c (zEx rfl ⟨_,rfl,fun _=>?_,fun hb=>(by cases hb)⟩)))));refine zq (zw (zrc (zd rfl ⟨n,_,rfl,s3.at_,zWe _ m,zr (zjg s3 (zd rfl (zpx (zLp 4 R' ts') (zLp 4 R' ts') ?_)))⟩)));refine q R' ts' _ μ3 ⟨h',s3,rs',pSA.symm.trans pm,fun x hx=>s.bd x (K.pm.mem_iff.mp (pm.mem_iff.mpr hx)),k3.at_ _ _ (by simp;exact⟨yN hne.1,yN hne.2⟩) s2.ea⟩ ((KB.of_keep k02).trans k3)
end
section
variable {μ:Mem}{n m tl k:Nat}{R:List Nat}{ts kvs:List (Nat×Nat)}{A S V:List Nat}{Q:D->Mem->Prop}
def WX.of{F:FX}(h:WXr F ds μ Q (fun _ _ _=>False)):WX F ds μ Q:=by
 obtain⟨⟨d,μ',e,q⟩ | ⟨c,fs,μ',e,q⟩⟩:=h
 ·exact⟨d,μ',e,q⟩
 ·exact q.elim
def z6s(r:RightS R ts kvs):RightS R ts (zjt kvs k) where
 home:=fun p hp=>r.home p (List.mem_filter.mp hp).1
 room:=fun h=>yC ((List.filter_sublist.map _).count_le _) (r.room h)
def z9t(pA:A.Perm (kvs.map (·.1)))(nd:(kvs.map (·.1)).Nodup)(hi:i<A.length):(A.eraseIdx i).Perm ((zjt kvs A[i]).map (·.1)):=by
 have p1:(A[i]::A.eraseIdx i).Perm A:=by
  have e:A=A.take i++A[i]::A.drop (i+1):=by rw[<-drop_eq_getElem_cons hi,take_append_drop]
  rw[Yy];exact List.perm_middle.symm.trans (List.Perm.of_eq e.symm)
 have nd1:(A[i]::A.eraseIdx i).Nodup:=(p1.trans pA).nodup_iff.mpr nd;rw[nodup_cons]at nd1
 have e1:(A[i]::A.eraseIdx i).filter (fun x=>decide (x≠A[i]))=A.eraseIdx i:=by
  rw[xL (by simp),List.filter_eq_self];intro x hx;refine decide_eq_true fun e=>nd1.1 (e▸hx)
 have e2:(zjt kvs A[i]).map (·.1)=(kvs.map (·.1)).filter (fun x=>decide (x≠A[i])):=by
  rw[List.filter_map];rfl
 have p2:=(p1.trans pA).filter (fun x=>decide (x≠A[i]));rw[e1]at p2;rw[e2];exact p2
def zSr(A:List Nat)(i:Nat):(nat A).eraseIdx i=nat (A.eraseIdx i):=by
 show(A.map _).eraseIdx i=(A.eraseIdx i).map _;rw[Yy,Yy,map_append,List.map_take,List.map_drop]
def zlv(h:μ[n]?=some (.lst (nat A)))(hi:i<A.length)(hi2:i<1000000)(q:Q (.int (A[i]:Nat)) (μ.set n (.lst (nat (A.eraseIdx i))))):WM zPj (.loc n) [.int (i:Nat)] μ Q:=by
 refine⟨_,_,?_,q⟩;simp only[zPj,h];rw[decide_eq_true (show(0:Int)<=(i:Nat)/\((i:Nat):Int)<1000000 by omega),cond_true,Ym,yh,yp hi,zSr];rfl
def znw:FS:=(zgb (zLc 7 (zRf zPj (zm 4) (zi (zD zui (zD z2o (zm 5) (fC (.int 8))) (zx zjk (zi (zm 4) zJ))) zJ))) (sIf (zas (zR (zD gNe (zx zUb (z1b "Shelf" "where" (zm 3) (zi (zm 7) zJ))) (zvn zWd (z1b "Shelf" "out" (zm 3) (zi (zm 7) zJ))))) (zR (zx zYb (z1b "Shelf" "has" (zm 3) (zi (zm 7) zJ))))) (zsc (fC (.bl false))) z9b))
variable {x0 x1 x2 x6 x7:Option D}{c:Int}{nx:M.Loc->Mem->Prop}{rt:D->Mem->Prop}{bk ct:M.Loc->Mem->Prop}
def zdv(s:S72 μ n m tl R ts kvs A)(hA:A.length<=18)(hne0:0<A.length)(q:∀(y7:Option D)(kvs':List (Nat×Nat)) (A':List Nat) (μ':Mem),S72 μ' n m tl R ts kvs' A'->A'.length<=18->KB [m,tl] μ μ'->nx [x0,x1,x2,some (.loc n),some (.loc tl),some (.int c),x6,y7] μ'):WS znw [x0,x1,x2,some (.loc n),some (.loc tl),some (.int c),x6,x7] μ nx rt bk ct:=by
 have hne:=s.ne;have hlA:((nat A).length:Int)=A.length:=by rw[length_map]
 unfold znw;refine zF (zCb (zRi (zd rfl ⟨_,_,rfl,s.ea,zf (zq (zq (zd rfl (w_c (zrq (by omega) (by omega) (zw (zf (zd rfl (zr (zWi (zy s.ea) (zzj (by omega) (zr ?_))))))))))))⟩)));rw[hlA];have a0:=YZ (c / 8) (show((A.length:Nat):Int)≠0 by omega);have a1:=YC (c / 8) (show(0:Int)<(A.length:Nat) by omega);obtain⟨i,hi⟩:=Yx a0;rw[hi]at a1 ⊢;have hi':i<A.length:=by omega
 refine zlv s.ea hi' (by omega) ?_;have km:A[i]∈kvs.map (·.1):=s.pA.mem_iff.mp (getElem_mem hi');obtain⟨p,hp,ep⟩:=List.mem_map.mp km;have hv:kvs.lookup A[i]=some p.2:=by rw[<-ep];exact zqi s.sh.nd p hp
 have sh1:Sh (μ.set tl (.lst (nat (A.eraseIdx i)))) n m (rlN R ts) kvs:=⟨zS s.sh.at_ (yN hne.1),zS s.sh.dc (yN hne.2),s.sh.nd,s.sh.few⟩
 have ea1:(μ.set tl (LObj.lst (nat (A.eraseIdx i))))[tl]?=some (.lst (nat (A.eraseIdx i))):=zbb s.ea;have k1:KB [m,tl] μ (μ.set tl (.lst (nat (A.eraseIdx i)))):=KB.refl.set (.inl (by simp));generalize μ.set tl (.lst (nat (A.eraseIdx i)))=μ1 at sh1 ea1 k1;refine zai (zem (zO (zq (zw (zrc (zd rfl ⟨n,_,rfl,sh1.at_,zHl _ m,zf (zd rfl (zr (zXp sh1 ?_)))⟩))))));rw[hv];refine zFw (zrc (zd rfl ⟨n,_,rfl,sh1.at_,ztt _ m,zf (zd rfl (zr (WX.of (z9w sh1 (fun v e=>?_) fun e=>?_))))⟩))
 ·rw[hv]at e;obtain rfl:p.2=v:=by simpa using e
  have s2:=sh1.pop A[i];refine zZw ⟨_,rfl,fun _=>?_,fun hb=>?_⟩
  ·refine zO (zw (zrc (zd rfl ⟨n,_,rfl,s2.at_,zim _ m,zf (zd rfl (zr (zJs s2 ⟨_,rfl,fun hb=>?_,fun _=>zPb ?_⟩)))⟩)))
   ·rw[zbu]at hb;cases hb
   ·refine q _ (zjt kvs A[i]) (A.eraseIdx i) _ ⟨s.rl,s2,z6s s.rs,z9t s.pA s.sh.nd hi',fun x hx=>s.bd x ((List.filter_sublist.map _).subset hx),zS ea1 hne.2⟩ ?_ (k1.set (.inl (by simp)));have:=List.length_eraseIdx_le A i;omega
  ·simp at hb
 ·rw[hv]at e;cases e
end
def zds:FS:=(sIf (zJj (zR (zD (zVk fun i j=>decide (i<j)) (zm 6) (fC (.int 7)))) (zR (zD gNe (zm 4) (znm zJ)))) znw (sIf (zMk (zR (zx z7b (zi (zm 3) (zi (zm 4) (zi (zD gIx (zm 1) (zD zui (zD z2o (zm 5) (fC (.int 8))) (fC (.int 2)))) zJ)))))) (zsc (fC (.bl false))) z9b))
def z8u:FS:=(sIf (zJj (zR (zD (zVk fun i j=>decide (i<j)) (zm 6) (fC (.int 5)))) (zJj (zR (zD z0f (zm 7) (zm 4))) (zR (zD (zVk fun i j=>decide (i<j)) (zx zjk (zi (zm 4) zJ)) (fC (.int 18)))))) (sIf (zMk (zR (zx zUe (zi (zm 3) (zi (zm 4) (zi (zm 7) zJ)))))) (zsc (fC (.bl false))) z9b) zds)
structure T72(μ:Mem)(n m tl ru:Nat)(r0 r1:List Nat×List (Nat×Nat))(R:List Nat)(ts kvs:List (Nat×Nat))(A:List Nat):Prop where
 s:S72 μ n m tl R ts kvs A
 l:A.length<=18
 er:μ[ru]?=some (.lst [rlN r0.1 r0.2,rlN r1.1 r1.2])
 h0:Rl r0.1 r0.2
 h1:Rl r1.1 r1.2
 ne:ru≠tl
section
variable {μ μ':Mem}{n m tl ru k:Nat}{r0 r1:List Nat×List (Nat×Nat)}{R:List Nat}{ts kvs:List (Nat×Nat)}{A:List Nat}{x0 x2 x7:Option D}{c w:Int}{nx:M.Loc->Mem->Prop}{rt:D->Mem->Prop}{bk ct:M.Loc->Mem->Prop}
def T72.keep(t:T72 μ n m tl ru r0 r1 R ts kvs A)(k:Keep μ μ'):T72 μ' n m tl ru r0 r1 R ts kvs A:=⟨t.s.keep k,t.l,k _ _ t.er,t.h0,t.h1,t.ne⟩
def T72.rn(t:T72 μ n m tl ru r0 r1 R ts kvs A):ru≠n/\ru≠m:=by
 constructor
 ·rintro rfl;have:=t.s.sh.at_;rw[t.er]at this;cases this
 ·rintro rfl;have:=t.s.sh.dc;rw[t.er]at this;cases this
abbrev zBy(n m tl ru:Nat)(r0 r1:List Nat×List (Nat×Nat))(x0 x2:Option D)(c w:Int)(nx:M.Loc->Mem->Prop):Prop:=∀(y7:Option D)(R:List Nat)(ts kvs:List (Nat×Nat)) (A:List Nat) (μ':Mem),T72 μ' n m tl ru r0 r1 R ts kvs A->nx [x0,some (.loc ru),x2,some (.loc n),some (.loc tl),some (.int c),some (.int w),y7] μ'
def zlu(t:T72 μ n m tl ru r0 r1 R ts kvs A)(q:zBy n m tl ru r0 r1 x0 x2 c w nx):WS zds [x0,some (.loc ru),x2,some (.loc n),some (.loc tl),some (.int c),some (.int w),x7] μ nx rt bk ct:=by
 have hrn:=t.rn
 have rest:∀μ1,Keep μ μ1->WS (sIf (zMk (zR (zx z7b (zi (zm 3) (zi (zm 4) (zi (zD gIx (zm 1) (zD zui (zD z2o (zm 5) (fC (.int 8))) (fC (.int 2)))) zJ)))))) (zsc (fC (.bl false))) z9b) [x0,some (.loc ru),x2,some (.loc n),some (.loc tl),some (.int c),some (.int w),x7] μ1 nx rt bk ct:=fun μ1 k1=>by
  have t1:=t.keep k1;have a0:=YZ (c / 8) (show(2:Int)≠0 by omega);have a1:=YC (c / 8) (show(0:Int)<2 by omega);obtain⟨v,hv⟩:=Yx a0
  obtain⟨r,er,hr⟩:∃r:List Nat×List (Nat×Nat),atI [rlN r0.1 r0.2,rlN r1.1 r1.2] (v:Int)=some (rlN r.1 r.2)/\Rl r.1 r.2:=by
   rw[hv]at a1
   match v,a1 with
   |0,_=>exact⟨r0,zEc (j:=0) rfl,t.h0⟩
   |1,_=>exact⟨r1,zEc (j:=1) rfl,t.h1⟩
   |v+2,h=>exact absurd h (by omega)
  refine zai (zBl (zO (zw (zf (zd rfl (zf (zd rfl (zf (zq (zd rfl (zq (zq (zd rfl (w_c (zrq (by omega) (by omega) (w_c (zzj (by omega) ?_)))))))))))))))));rw[hv];refine zMc (zy t1.er) er (zr (zvq hr t1.s t.l fun R2 ts2 kvs' μ2 s2 k2=>⟨_,rfl,fun hb=>(by cases hb),fun _=>zPb ?_⟩));exact q _ R2 ts2 kvs' A μ2 ⟨s2,t.l,k2.at_ _ _ (by simp;exact hrn) t1.er,t.h0,t.h1,t.ne⟩
 unfold zds;refine zai (zkk (zO (zq (zd rfl (w_c (zLm ⟨_,rfl,fun _=>?_,fun _=>⟨fun hb=>(by cases hb),fun _=>rest μ Keep.refl⟩⟩))))));refine zO (zq (zd rfl (z3g (zr (zMt (α:=Nat) A [] (Keep.app _ _ t.s.ea) zt ⟨_,rfl,fun hb=>?_,fun _=>rest _ Keep.app⟩)))))
 have hne:0<A.length:=by
  rcases Nat.eq_zero_or_pos A.length with h0 | h0
  ·rw[decide_eq_true (List.length_eq_zero_iff.mp h0)]at hb;cases hb
  ·exact h0
 have t1:=t.keep (μ':=μ++[LObj.lst []]) Keep.app;refine zdv t1.s t.l hne fun y7 kvs' A' μ2 s2 l2 k2=>?_;exact q _ R ts kvs' A' μ2 ⟨s2,l2,k2.at_ _ _ (by simp;exact⟨hrn.2,t.ne⟩) t1.er,t.h0,t.h1,t.ne⟩
def zmu(t:T72 μ n m tl ru r0 r1 R ts kvs A)(hk:k<10^60)(q:zBy n m tl ru r0 r1 x0 x2 c w nx):WS z8u [x0,some (.loc ru),x2,some (.loc n),some (.loc tl),some (.int c),some (.int w),some (.int (k:Nat))] μ nx rt bk ct:=by
 have hrn:=t.rn;have el:=zlu (rt:=rt) (bk:=bk) (ct:=ct) (x7:=some (.int (k:Nat))) t q;unfold z8u;refine zai (zkk (zO (zq (zd rfl (w_c (zLm ⟨_,rfl,fun _=>?_,fun _=>⟨fun hb=>(by cases hb),fun _=>el⟩⟩))))));refine zkk (zO (zq (zd rfl (zd rfl (zSh (zy t.s.ea) ⟨_,rfl,fun hb=>?_,fun _=>⟨fun hb=>(by cases hb),fun _=>el⟩⟩)))))
 have hn:k∉A:=fun hm=>by
  rw[decide_eq_true hm]at hb;cases hb
 refine zO (zq (zw (zf (zd rfl (zr (zWi (zy t.s.ea) (w_c (zLm ⟨_,rfl,fun hb=>?_,fun _=>el⟩))))))))
 have hA:A.length<18:=by
  have:=of_decide_eq_true hb;rw[length_map]at this;omega
 refine zai (zBl (zO (zw (zf (zd rfl (zf (zd rfl (zf (zd rfl (zr (zst t.s hk hn hA fun kvs' A' μ2 s2 l2 k2=>⟨_,rfl,fun hb=>(by cases hb),fun _=>zPb ?_⟩)))))))))));exact q _ R ts kvs' A' μ2 ⟨s2,by omega,k2.at_ _ _ (by simp;exact⟨hrn.2,t.ne⟩) t.er,t.h0,t.h1,t.ne⟩
def ztu{ns:List Int}{i:Nat}{x5 x6:Option D}(hi:i<31)(t:T72 μ n m tl ru r0 r1 R ts kvs A)
 (q:∀(y5 y6 y7:Option D)(R:List Nat)(ts kvs:List (Nat×Nat)) (A:List Nat) (μ':Mem),T72 μ' n m tl ru r0 r1 R ts kvs A->nx [some (.fz (ns.map .int)),some (.loc ru),some (.int (i:Nat)),some (.loc n),some (.loc tl),y5,y6,y7] μ') :
 WS zko [some (.fz (ns.map .int)),some (.loc ru),some (.int (i:Nat)),some (.loc n),some (.loc tl),x5,x6,x7] μ nx rt bk ct:=by
 unfold zko;refine zF (zCb (zw (zf (zd rfl (zf (zq (w_c (zd rfl (zkr (zr ?_))))))))));obtain⟨c,ec⟩:=zYp (ns:=ns) (k:=4+(i:Nat)) (μ:=μ) (by omega) (by omega);refine⟨_,_,ec,?_⟩;refine zF (zCb (zq (zd rfl (w_c (zzj (by omega) ?_)))));have p60:((10:Int)^(60:Int).toNat)=10^60:=by decide
 refine zF (zCb (zq (z3g (zf (zq (zq (zd rfl (w_c (zrq (by omega) (by omega) (w_c (zzj (by omega) ?_)))))))))));refine zf (zq (zq (zd rfl (w_c (zrq (by omega) (by omega) (zq (w_c (w_c (z2w (by decide) (by decide) (by decide) ?_)))))))));rw[p60];refine zzj (by omega) (zr ?_);refine zq (zq (zd rfl (w_c (zrq (by omega) (by omega) (w_c (zzj (by omega) ?_))))));have a0:=YZ (c / 8) (show(2:Int)≠0 by omega);have a1:=YC (c / 8) (show(0:Int)<2 by omega);have b0:=YZ (c / 8) (show(25:Int)≠0 by omega);have b1:=YC (c / 8) (show(0:Int)<25 by omega);have c0:=YZ (c / 8) (show(10^60:Int)≠0 by omega);have c1:=YC (c / 8) (show(0:Int)<10^60 by omega);obtain⟨u,hu⟩:=Yx a0;obtain⟨k1,hk1⟩:=Yx b0;obtain⟨k2,hk2⟩:=Yx c0;rw[hu]at a1 ⊢;rw[hk1]at b1 ⊢;rw[hk2]at c1 ⊢
 obtain⟨k,ek,hk⟩:∃k:Nat,atI [D.int (k1:Nat), .int (k2:Nat)] (u:Int)=some (.int (k:Nat))/\k<10^60:=by
  match u,a1 with
  |0,_=>exact⟨k1,zEc (j:=0) rfl,by omega⟩
  |1,_=>exact⟨k2,zEc (j:=1) rfl,by omega⟩
  |u+2,h=>exact absurd h (by omega)
 refine zMc (zy zt) ek ?_;refine zF (zmu (t.keep Keep.app) hk fun y7 R2 ts2 kvs2 A2 μ2 t2=>?_);obtain⟨S2,K2⟩:=Keys.ex t2.s.sh.nd;refine zai (zBl (zO (zw (zf (zd rfl (zf (zd rfl (zr (z8s t2.s.rl t2.s.sh t2.s.rs K2 t2.s.ea t2.s.pA fun μ3 k3=>⟨_,rfl,fun hb=>(by cases hb),fun _=>zPb ?_⟩)))))))));exact q _ _ y7 R2 ts2 kvs2 A2 μ3 (t2.keep k3)
end
def zFu(ns:List Int)(_hn:ns.length<=63):∃μ',zaq [.fz (ns.map .int)] []=some (.bl true,μ'):=by
 have main:WF zaq [.fz (ns.map .int)] [] fun d _=>d = .bl true:=by
  refine zkc rfl ?_;show WS zHu [some (.fz (ns.map .int)),none,none,none,none,none,none,none] [] _ _ _ _;unfold zHu;refine zF (zCb (z3g (zr ?_)));have e0:(([]:Mem)++[LObj.lst []])[([]:Mem).length]?=some (.lst []):=zt;generalize ([]:Mem)++[LObj.lst []]=μ0 at e0;generalize ([]:Mem).length=ru at e0;refine zF (zWh (zLj (zf (w_c (zr ⟨_,rfl,by omega,by omega,?_⟩)))));refine zVc (fun i δ μ=>∃(x2:Option D)(rs:List (List Nat×List (Nat×Nat))),δ=[some (.fz (ns.map .int)),some (.loc ru),x2,none,none,none,none,none]/\rs.length=i/\(∀p∈rs,Rl p.1 p.2)/\μ[ru]?=some (.lst (rs.map fun p=>rlN p.1 p.2))) ⟨_,[],rfl,rfl,by simp,e0⟩ (fun _ _ _ _=>rfl) ?_ ?_
  ·rintro i x δ μ hx ⟨x2,rs,rfl,hl,hr,er⟩;obtain⟨hi,rfl⟩:=zkj hx;have hi2:i<2:=by simpa using hi
   have hlt:=zI er;refine z5h ?_;unfold zCr;refine zDk (zRi (zd rfl ⟨_,_,rfl,er,zf (zw (zf (zw (zf (zw (zf (zd rfl (zf (zd rfl (zr (zxy (by omega) (by omega) fun μ1 k1 p1 _=>zr (z7s p1 fun R ts μ2 hr2 k2=>?_))))))))))))⟩));obtain⟨c,ec⟩:=zYp (ns:=ns) (k:=2) (μ:=μ2) (by omega) (by omega);refine zf (zw (zf (zd rfl (zf (w_c (zr ⟨_,_,ec,zr (zfu hr2 fun R' μ3 hr3 k3=>zr ?_)⟩))))));have er3:μ3[ru]?=some (.lst (rs.map fun p=>rlN p.1 p.2)):=k3 _ _ (k2.at_ _ _ (by simp;omega) (k1.at_ _ _ (by simp) er));refine znj er3 (by rw[length_map];omega) ⟨_,rs++[(R',ts)],rfl,by simp[hl],fun p hp=>?_,?_⟩
   ·rcases List.mem_append.mp hp with hp | hp
    ·exact hr p hp
    ·rw[List.mem_singleton.mp hp];exact hr3
   ·rw[zbb er3,map_append];rfl
  ·rintro δ μ ⟨x2,rs,rfl,hl,hr,er⟩;have hl2:rs.length=2:=by simpa using hl
   obtain⟨r0,r1,rfl⟩:∃r0 r1,rs=[r0,r1]:=by
    match rs,hl2 with
    |[a,b],_=>exact⟨a,b,rfl⟩
   have h0:=hr r0 (by simp);have h1:=hr r1 (by simp);refine zF (zCb (zkw (zf (zq (zd rfl (w_c (zMc (zy er) (zEc (j:=0) rfl) (zr ⟨_,rfl,fun n m μ1 k1 g1 g2 g3 g4 s1=>?_⟩))))))));refine zF (zCb (z3g (zr ?_)));have t2:T72 (μ1++[LObj.lst []]) n m μ1.length ru r0 r1 r0.1 r0.2 [] []:=⟨⟨h0,s1.keep Keep.app,⟨by simp,by simp⟩,List.Perm.refl _,by simp,zt⟩,by simp,Keep.app _ _ (k1 _ _ er),h0,h1,yz (zI (k1 _ _ er))⟩
   generalize μ1++[LObj.lst []]=μ2 at t2;generalize μ1.length=tl at t2;refine zF (zWh (zLj (zf (zq (w_c (zq (zw (zf (zd rfl (zf (w_c (zr ?_))))))))))));obtain⟨c,ec⟩:=zYp (ns:=ns) (k:=3) (μ:=μ2) (by omega) (by omega);refine⟨_,_,ec,w_c (zzj (by omega) (zkr (zr ?_)))⟩;have a0:=YZ c (show(23:Int)≠0 by omega);have a1:=YC c (show(0:Int)<23 by omega);obtain⟨v,hv⟩:=Yx a0;rw[hv]at a1 ⊢;have e8:(8:Int)+(v:Nat)=((8+v:Nat):Int):=by omega
   rw[e8];refine⟨_,rfl,by omega,by omega,?_⟩;rw[Ym];refine zVc (fun i δ μ=>∃(x2 x5 x6 x7:Option D)(R:List Nat)(ts kvs:List (Nat×Nat)) (A:List Nat),δ=[some (.fz (ns.map .int)),some (.loc ru),x2,some (.loc n),some (.loc tl),x5,x6,x7]/\T72 μ n m tl ru r0 r1 R ts kvs A) ⟨_,_,_,_,_,_,_,_,rfl,t2⟩ (fun _ _ _ _=>rfl) ?_ ?_
   ·rintro i x δ μ hx ⟨x2,x5,x6,x7,R,ts,kvs,A,rfl,t⟩;obtain⟨hi,rfl⟩:=zkj hx;refine z5h ?_;exact ztu (by omega) t fun y5 y6 y7 R ts kvs A μ' t'=>⟨_,_,_,_,_,_,_,_,rfl,t'⟩
   ·rintro δ μ ⟨x2,x5,x6,x7,R,ts,kvs,A,rfl,t⟩;exact zjc (w_c rfl)
 obtain⟨d,μ',e,rfl⟩:=main;exact⟨μ',e⟩
end P
namespace P
open PySem PySem.Spec PyProof.Rows L2 M
set_option maxHeartbeats 4000000
def ln1{α:Type}:∀{us:List α},us.length=1->∃a0,us=[a0]
 |[a0],_=>⟨a0,rfl⟩
def fa1{K:yu}{mg:Str->Option Value}{h:yP}{x p0:Str}{st:Stmt}{f:Addr}{fd:yg}(X:K.In h)(G:h.Ns ym mg)(a:Yh K ym x=some (some (.ref f)))(u:Fun K x x st f fd)
 (b:∀(kV doc pm:Value)(an:Option Addr)(cdv ct a0:Value),bindArgs (W.fnOf x x (zvd st) (zHc st) (zp st) .none kV doc pm an cdv ct) ⟨[a0],[]⟩=pure [(p0,a0)]):FnAt K mg x st [p0] f fd :=
 ⟨u,xE X G a,u.binds fun kV doc pm an cdv ct us hl=>by obtain⟨a0,rfl⟩:=ln1 hl;exact b kV doc pm an cdv ct a0⟩
def ln2{α:Type}:∀{us:List α},us.length=2->∃a0 a1,us=[a0,a1]
 |[a0,a1],_=>⟨a0,a1,rfl⟩
def fa2{K:yu}{mg:Str->Option Value}{h:yP}{x p0 p1:Str}{st:Stmt}{f:Addr}{fd:yg}(X:K.In h)(G:h.Ns ym mg)(a:Yh K ym x=some (some (.ref f)))(u:Fun K x x st f fd)
 (b:∀(kV doc pm:Value)(an:Option Addr)(cdv ct a0 a1:Value),bindArgs (W.fnOf x x (zvd st) (zHc st) (zp st) .none kV doc pm an cdv ct) ⟨[a0,a1],[]⟩=pure [(p0,a0),(p1,a1)]):FnAt K mg x st [p0,p1] f fd :=
 ⟨u,xE X G a,u.binds fun kV doc pm an cdv ct us hl=>by obtain⟨a0,a1,rfl⟩:=ln2 hl;exact b kV doc pm an cdv ct a0 a1⟩
def ln3{α:Type}:∀{us:List α},us.length=3->∃a0 a1 a2,us=[a0,a1,a2]
 |[a0,a1,a2],_=>⟨a0,a1,a2,rfl⟩
def fa3{K:yu}{mg:Str->Option Value}{h:yP}{x p0 p1 p2:Str}{st:Stmt}{f:Addr}{fd:yg}(X:K.In h)(G:h.Ns ym mg)(a:Yh K ym x=some (some (.ref f)))(u:Fun K x x st f fd)
 (b:∀(kV doc pm:Value)(an:Option Addr)(cdv ct a0 a1 a2:Value),bindArgs (W.fnOf x x (zvd st) (zHc st) (zp st) .none kV doc pm an cdv ct) ⟨[a0,a1,a2],[]⟩=pure [(p0,a0),(p1,a1),(p2,a2)]):FnAt K mg x st [p0,p1,p2] f fd :=
 ⟨u,xE X G a,u.binds fun kV doc pm an cdv ct us hl=>by obtain⟨a0,a1,a2,rfl⟩:=ln3 hl;exact b kV doc pm an cdv ct a0 a1 a2⟩
def ln4{α:Type}:∀{us:List α},us.length=4->∃a0 a1 a2 a3,us=[a0,a1,a2,a3]
 |[a0,a1,a2,a3],_=>⟨a0,a1,a2,a3,rfl⟩
def fa4{K:yu}{mg:Str->Option Value}{h:yP}{x p0 p1 p2 p3:Str}{st:Stmt}{f:Addr}{fd:yg}(X:K.In h)(G:h.Ns ym mg)(a:Yh K ym x=some (some (.ref f)))(u:Fun K x x st f fd)
 (b:∀(kV doc pm:Value)(an:Option Addr)(cdv ct a0 a1 a2 a3:Value),bindArgs (W.fnOf x x (zvd st) (zHc st) (zp st) .none kV doc pm an cdv ct) ⟨[a0,a1,a2,a3],[]⟩=pure [(p0,a0),(p1,a1),(p2,a2),(p3,a3)]):FnAt K mg x st [p0,p1,p2,p3] f fd :=
 ⟨u,xE X G a,u.binds fun kV doc pm an cdv ct us hl=>by obtain⟨a0,a1,a2,a3,rfl⟩:=ln4 hl;exact b kV doc pm an cdv ct a0 a1 a2 a3⟩
def all_of{l:W.OpenLaw}{w:yF}{K:yu}{h:yP}{mg:Str->Option Value}{fa:Addr}(X:K.In h)(G:h.Ns ym mg)(hfa:mg "law" = some (.ref fa))(e:Hd.obs K=Hd.good)
 : ∃fd:yg,(∀(s:yb)(v:Value),BindsTo s fd ⟨[v],[]⟩ [("_law_script",v)])/\∀base:yP,K.In base->base.Ns ym mg->FnOk l.prog w K mg base CX0 9 fa fd ["_law_script"] (spM K 1 zaq):=by
 have e_fn:=congrArg (·.1) e;have e_vv:=congrArg (·.2.1) e;have e_it:=congrArg (·.2.2.1) e;have e_bb:=congrArg (·.2.2.2.1) e;have e_ob:=congrArg (·.2.2.2.2.1) e;have e_ov:=congrArg (·.2.2.2.2.2.1) e;have e_cf:=congrArg (·.2.2.2.2.2.2.1) e;have e_ex:=congrArg (·.2.2.2.2.2.2.2) e;obtain⟨pn_Shelf,e_vv⟩:=yc e_vv;obtain⟨pg_Shelf,e_bb⟩:=yc e_bb;obtain⟨ph_Shelf,e_bb⟩:=yc e_bb;obtain⟨po_Shelf,e_bb⟩:=yc e_bb;obtain⟨ps0_Shelf,e_vv⟩:=yc e_vv;have cl_Shelf:Cls K 285:=⟨pg_Shelf,ph_Shelf,po_Shelf,ps0_Shelf⟩
 obtain⟨na,e_vv⟩:=yc e_vv;have fl_Shelf_nest_of:zNq K "Shelf" "nest_of":=fun C h=>by rw[pn_Shelf]at h;cases h;exact⟨cl_Shelf,na⟩
 obtain⟨na,e_vv⟩:=yc e_vv;have fl_Shelf_kept_rule:zNq K "Shelf" "kept_rule":=fun C h=>by rw[pn_Shelf]at h;cases h;exact⟨cl_Shelf,na⟩
 obtain⟨ma,e_vv⟩:=yc e_vv;obtain⟨mb,e_bb⟩:=yc e_bb;obtain⟨_,_,_,_,_,_,_,_,_,ml,mc,mk⟩:=zBc (yc e_fn).1;replace e_fn:=(yc e_fn).2;have u0:=zse (st:=z2b) ml mc mk;obtain⟨mm,e_bb⟩:=yc e_bb;obtain⟨mq,e_bb⟩:=yc e_bb;have zDc:MakeAt K mg "Shelf" z2b zeb _ _ _:=⟨pn_Shelf,xE X G pn_Shelf,⟨mm,ma,mb,mq⟩,u0,(u0.binds (ps:=zeb) fun _ _ _ _ _ _ us hl=>by obtain⟨_,_,rfl⟩:=ln2 hl;rfl)⟩
 obtain⟨⟨_,_,a1,u1⟩,e_fn⟩:=fnc e_fn;have zCe:FnAt K mg "_law_mixed" zhe zmc _ _:=fa2 X G a1 u1 fun _ _ _ _ _ _ _ _=>rfl;obtain⟨⟨_,_,a2,u2⟩,e_fn⟩:=fnc e_fn;have zhb:FnAt K mg "_law_cell_at" zvc zjb _ _:=fa2 X G a2 u2 fun _ _ _ _ _ _ _ _=>rfl;obtain⟨⟨_,_,a3,u3⟩,e_fn⟩:=fnc e_fn;have zwe:FnAt K mg "_law_small" zoe znc _ _:=fa2 X G a3 u3 fun _ _ _ _ _ _ _ _=>rfl;obtain⟨⟨_,_,a4,u4⟩,e_fn⟩:=fnc e_fn;have z7l:FnAt K mg "homes" z0l zug _ _:=fa2 X G a4 u4 fun _ _ _ _ _ _ _ _=>rfl;obtain⟨⟨_,_,a5,u5⟩,e_fn⟩:=fnc e_fn;have zcb:FnAt K mg "web_of" zhd zdb _ _:=fa2 X G a5 u5 fun _ _ _ _ _ _ _ _=>rfl;obtain⟨ma,e_vv⟩:=yc e_vv;obtain⟨mb,e_bb⟩:=yc e_bb;obtain⟨_,_,_,_,_,_,_,_,_,ml,mc,mk⟩:=zBc (yc e_fn).1;replace e_fn:=(yc e_fn).2;have u6:=zse (st:=zec) ml mc mk;have zZ:MethAt K "Shelf" "rule" "Shelf.rule" zec zab _ _ _:=⟨pn_Shelf,cl_Shelf,⟨ma,mb,mk⟩,u6,(u6.binds (ps:=zab) fun _ _ _ _ _ _ us hl=>by obtain⟨_,rfl⟩:=ln1 hl;rfl)⟩
 obtain⟨ma,e_vv⟩:=yc e_vv;obtain⟨mb,e_bb⟩:=yc e_bb;obtain⟨_,_,_,_,_,_,_,_,_,ml,mc,mk⟩:=zBc (yc e_fn).1;replace e_fn:=(yc e_fn).2;have u7:=zse (st:=zoc) ml mc mk;have zWb:MethAt K "Shelf" "where" "Shelf.where" zoc zib _ _ _:=⟨pn_Shelf,cl_Shelf,⟨ma,mb,mk⟩,u7,(u7.binds (ps:=zib) fun _ _ _ _ _ _ us hl=>by obtain⟨_,_,rfl⟩:=ln2 hl;rfl)⟩
 obtain⟨⟨_,_,a8,u8⟩,e_fn⟩:=fnc e_fn;have B_left:FnAt K mg "left" z0j zud _ _:=fa2 X G a8 u8 fun _ _ _ _ _ _ _ _=>rfl;obtain⟨ma,e_vv⟩:=yc e_vv;obtain⟨mb,e_bb⟩:=yc e_bb;obtain⟨_,_,_,_,_,_,_,_,_,ml,mc,mk⟩:=zBc (yc e_fn).1;replace e_fn:=(yc e_fn).2;have u9:=zse (st:=zT) ml mc mk;have zB:MethAt K "Shelf" "all_there" "Shelf.all_there" zT zz _ _ _:=⟨pn_Shelf,cl_Shelf,⟨ma,mb,mk⟩,u9,(u9.binds (ps:=zz) fun _ _ _ _ _ _ us hl=>by obtain⟨_,rfl⟩:=ln1 hl;rfl)⟩
 obtain⟨ma,e_vv⟩:=yc e_vv;obtain⟨mb,e_bb⟩:=yc e_bb;obtain⟨_,_,_,_,_,_,_,_,_,ml,mc,mk⟩:=zBc (yc e_fn).1;replace e_fn:=(yc e_fn).2;have u10:=zse (st:=z4b) ml mc mk;have zHb:MethAt K "Shelf" "laying" "Shelf.laying" z4b z7 _ _ _:=⟨pn_Shelf,cl_Shelf,⟨ma,mb,mk⟩,u10,(u10.binds (ps:=z7) fun _ _ _ _ _ _ us hl=>by obtain⟨_,rfl⟩:=ln1 hl;rfl)⟩
 obtain⟨ma,e_vv⟩:=yc e_vv;obtain⟨mb,e_bb⟩:=yc e_bb;obtain⟨_,_,_,_,_,_,_,_,_,ml,mc,mk⟩:=zBc (yc e_fn).1;replace e_fn:=(yc e_fn).2;have u11:=zse (st:=znd) ml mc mk;have zje:MethAt K "Shelf" "left" "Shelf.left" znd zSb _ _ _:=⟨pn_Shelf,cl_Shelf,⟨ma,mb,mk⟩,u11,(u11.binds (ps:=zSb) fun _ _ _ _ _ _ us hl=>by obtain⟨_,rfl⟩:=ln1 hl;rfl)⟩
 obtain⟨⟨_,_,a12,u12⟩,e_fn⟩:=fnc e_fn;have zNg:FnAt K mg "fault" zmk zie _ _:=fa2 X G a12 u12 fun _ _ _ _ _ _ _ _=>rfl;obtain⟨⟨_,_,a13,u13⟩,e_fn⟩:=fnc e_fn;have zzd:FnAt K mg "_law_stands" zAd z6b _ _:=fa2 X G a13 u13 fun _ _ _ _ _ _ _ _=>rfl;obtain⟨⟨_,_,a14,u14⟩,e_fn⟩:=fnc e_fn;have zVb:FnAt K mg "_law_take" z8e zRc _ _:=fa2 X G a14 u14 fun _ _ _ _ _ _ _ _=>rfl;obtain⟨⟨_,_,a15,u15⟩,e_fn⟩:=fnc e_fn;have zxf:FnAt K mg "_law_rule" zEf zJc _ _:=fa1 X G a15 u15 fun _ _ _ _ _ _ _=>rfl;obtain⟨ma,e_vv⟩:=yc e_vv;obtain⟨mb,e_bb⟩:=yc e_bb;obtain⟨_,_,_,_,_,_,_,_,_,ml,mc,mk⟩:=zBc (yc e_fn).1;replace e_fn:=(yc e_fn).2;have u16:=zse (st:=zGc) ml mc mk;have zIb:MethAt K "Shelf" "has" "Shelf.has" zGc zmb _ _ _:=⟨pn_Shelf,cl_Shelf,⟨ma,mb,mk⟩,u16,(u16.binds (ps:=zmb) fun _ _ _ _ _ _ us hl=>by obtain⟨_,_,rfl⟩:=ln2 hl;rfl)⟩
 obtain⟨⟨_,_,a17,u17⟩,e_fn⟩:=fnc e_fn;have zIm:FnAt K mg "lying" zAm zdg _ _:=fa2 X G a17 u17 fun _ _ _ _ _ _ _ _=>rfl;obtain⟨⟨_,_,a18,u18⟩,e_fn⟩:=fnc e_fn;have znf:FnAt K mg "pushes_to" zpf zNc _ _:=fa3 X G a18 u18 fun _ _ _ _ _ _ _ _ _=>rfl;obtain⟨⟨_,_,a19,u19⟩,e_fn⟩:=fnc e_fn;have zmj:FnAt K mg "row_to" zfj z4e _ _:=fa2 X G a19 u19 fun _ _ _ _ _ _ _ _=>rfl;obtain⟨⟨_,_,a20,u20⟩,e_fn⟩:=fnc e_fn;have ztf:FnAt K mg "put_in" z6g zqd _ _:=fa3 X G a20 u20 fun _ _ _ _ _ _ _ _ _=>rfl;obtain⟨ma,e_vv⟩:=yc e_vv;obtain⟨mb,e_bb⟩:=yc e_bb;obtain⟨_,_,_,_,_,_,_,_,_,ml,mc,mk⟩:=zBc (yc e_fn).1;replace e_fn:=(yc e_fn).2;have u21:=zse (st:=zZd) ml mc mk;have zgf:MethAt K "Shelf" "put" "Shelf.put" zZd zcc _ _ _:=⟨pn_Shelf,cl_Shelf,⟨ma,mb,mk⟩,u21,(u21.binds (ps:=zcc) fun _ _ _ _ _ _ us hl=>by obtain⟨_,_,rfl⟩:=ln2 hl;rfl)⟩
 obtain⟨⟨_,_,a22,u22⟩,e_fn⟩:=fnc e_fn;have zsh:FnAt K mg "room_of" zwh zOd _ _:=fa2 X G a22 u22 fun _ _ _ _ _ _ _ _=>rfl;obtain⟨⟨_,_,a23,u23⟩,e_fn⟩:=fnc e_fn;have zfg:FnAt K mg "homes_of" zkg z9c _ _:=fa2 X G a23 u23 fun _ _ _ _ _ _ _ _=>rfl;obtain⟨⟨_,_,a24,u24⟩,e_fn⟩:=fnc e_fn;have zbd:FnAt K mg "is_crowd" z3e zic _ _:=fa2 X G a24 u24 fun _ _ _ _ _ _ _ _=>rfl;obtain⟨⟨_,_,a25,u25⟩,e_fn⟩:=fnc e_fn;have zfb:FnAt K mg "_law_full_right" zMb zU _ _:=fa4 X G a25 u25 fun _ _ _ _ _ _ _ _ _ _=>rfl;obtain⟨⟨_,_,a26,u26⟩,e_fn⟩:=fnc e_fn;have znh:FnAt K mg "is_push" z8g zSd _ _:=fa4 X G a26 u26 fun _ _ _ _ _ _ _ _ _ _=>rfl;obtain⟨⟨_,_,a27,u27⟩,e_fn⟩:=fnc e_fn;have z9g:FnAt K mg "follows" zkh zRd _ _:=fa4 X G a27 u27 fun _ _ _ _ _ _ _ _ _ _=>rfl;obtain⟨⟨_,_,a28,u28⟩,e_fn⟩:=fnc e_fn;have z5i:FnAt K mg "pushed" zcj zSe _ _:=fa4 X G a28 u28 fun _ _ _ _ _ _ _ _ _ _=>rfl;obtain⟨⟨_,_,a29,u29⟩,e_fn⟩:=fnc e_fn;have zjf:FnAt K mg "laid_more" zzf zQc _ _:=fa3 X G a29 u29 fun _ _ _ _ _ _ _ _ _=>rfl;obtain⟨⟨_,_,a30,u30⟩,e_fn⟩:=fnc e_fn;have zHd:FnAt K mg "laid_at_all" zId z3b _ _:=fa1 X G a30 u30 fun _ _ _ _ _ _ _=>rfl;obtain⟨⟨_,_,a31,u31⟩,e_fn⟩:=fnc e_fn;have z9d:FnAt K mg "spare_key" zmf zOc _ _:=fa2 X G a31 u31 fun _ _ _ _ _ _ _ _=>rfl;obtain⟨⟨_,_,a32,u32⟩,e_fn⟩:=fnc e_fn;have zbh:FnAt K mg "trimmed" z1h zPd _ _:=fa2 X G a32 u32 fun _ _ _ _ _ _ _ _=>rfl;obtain⟨⟨_,_,a33,u33⟩,e_fn⟩:=fnc e_fn;have zmd:FnAt K mg "fitted" zrg zyc _ _:=fa1 X G a33 u33 fun _ _ _ _ _ _ _=>rfl;obtain⟨⟨_,_,a34,u34⟩,e_fn⟩:=fnc e_fn;have ztg:FnAt K mg "_law_put" zcg zad _ _:=fa3 X G a34 u34 fun _ _ _ _ _ _ _ _ _=>rfl;obtain⟨⟨_,_,a35,u35⟩,e_fn⟩:=fnc e_fn;have zeg:FnAt K mg "_law_pen" zbg z8c _ _:=fa2 X G a35 u35 fun _ _ _ _ _ _ _ _=>rfl;obtain⟨ma,e_vv⟩:=yc e_vv;obtain⟨mb,e_bb⟩:=yc e_bb;obtain⟨_,_,_,_,_,_,_,_,_,ml,mc,mk⟩:=zBc (yc e_fn).1;replace e_fn:=(yc e_fn).2;have u36:=zse (st:=z1c) ml mc mk;have zMd:MethAt K "Shelf" "renew" "Shelf.renew" z1c zFb _ _ _:=⟨pn_Shelf,cl_Shelf,⟨ma,mb,mk⟩,u36,(u36.binds (ps:=zFb) fun _ _ _ _ _ _ us hl=>by obtain⟨_,_,rfl⟩:=ln2 hl;rfl)⟩
 obtain⟨⟨_,_,a37,u37⟩,e_fn⟩:=fnc e_fn;have zfd:FnAt K mg "_law_renewed" zld zKb _ _:=fa3 X G a37 u37 fun _ _ _ _ _ _ _ _ _=>rfl;obtain⟨ma,e_vv⟩:=yc e_vv;obtain⟨mb,e_bb⟩:=yc e_bb;obtain⟨_,_,_,_,_,_,_,_,_,ml,mc,mk⟩:=zBc (yc e_fn).1;replace e_fn:=(yc e_fn).2;have u38:=zse (st:=z7d) ml mc mk;have zwf:MethAt K "Shelf" "out" "Shelf.out" z7d zlc _ _ _:=⟨pn_Shelf,cl_Shelf,⟨ma,mb,mk⟩,u38,(u38.binds (ps:=zlc) fun _ _ _ _ _ _ us hl=>by obtain⟨_,_,rfl⟩:=ln2 hl;rfl)⟩
 obtain⟨⟨f39,oc39,od39,sl39,kV39,dc39,pm39,an39,cd39,ct39,a39,l39,c39,k39⟩,e_fn⟩:=fnl e_fn;have u39:=zse (st:=z3n) l39 c39 k39;have zmz:FnAt K mg "law" z3n zmp _ _:=fa1 X G a39 u39 fun _ _ _ _ _ _ _=>rfl;have e:=hfa.symm.trans (xE X G a39);cases e;obtain⟨za,e_vv⟩:=yc e_vv;obtain⟨zc,e_vv⟩:=yc e_vv;have al_left_layings:mg "left_layings" = mg "left":=(xE X G za).trans (xE X G zc).symm;obtain⟨zNo,e_vv⟩:=yc e_vv;obtain⟨zUy,e_vv⟩:=yc e_vv;obtain⟨zGx,e_vv⟩:=yc e_vv;obtain⟨z5v,e_vv⟩:=yc e_vv;obtain⟨zMq,e_vv⟩:=yc e_vv;obtain⟨zSy,e_vv⟩:=yc e_vv;obtain⟨znu,e_vv⟩:=yc e_vv;obtain⟨zgz,e_vv⟩:=yc e_vv;obtain⟨zUv,e_vv⟩:=yc e_vv;obtain⟨t_DIVISOR,v_DIVISOR⟩:=z1n (yc e_it).1;replace e_it:=(yc e_it).2;obtain⟨t_MOST_KEYS,v_MOST_KEYS⟩:=z1n (yc e_it).1;replace e_it:=(yc e_it).2;obtain⟨zwi,e_vv⟩:=yc e_vv;obtain⟨zhr,e_bb⟩:=yc e_bb;obtain⟨zYf,e_vv⟩:=yc e_vv;obtain⟨zXn,e_bb⟩:=yc e_bb;obtain⟨z3i,e_vv⟩:=yc e_vv;obtain⟨zzp,e_bb⟩:=yc e_bb;obtain⟨zej,e_vv⟩:=yc e_vv;obtain⟨zup,e_bb⟩:=yc e_bb;obtain⟨xe_Twice,e_bb⟩:=yc e_bb;obtain⟨zWl,e_ob⟩:=yc e_ob;obtain⟨zan,e_ob⟩:=yc e_ob;obtain⟨xe_NoKey,e_bb⟩:=yc e_bb;obtain⟨zRl,e_ob⟩:=yc e_ob;obtain⟨i4,e_bb⟩:=yc e_bb;obtain⟨i7,e_vv⟩:=yc e_vv;obtain⟨i8,e_bb⟩:=yc e_bb;obtain⟨i9,e_cf⟩:=yc e_cf;obtain⟨_,_,_,_,_,_,_,_,_,_,_,_,_,_,z8v⟩:=zot (yc e_ex).1;replace e_ex:=(yc e_ex).2;obtain⟨zRv,e_vv⟩:=yc e_vv;obtain⟨zWv,e_ov⟩:=yc e_ov;obtain⟨zTv,e_vv⟩:=yc e_vv;obtain⟨zSs,e_vv⟩:=yc e_vv;obtain⟨zjv,e_bb⟩:=yc e_bb;obtain⟨_,_,_,_,_,_,_,_,_,zQs,z5r,zdt⟩:=zBc (yc e_fn).1;replace e_fn:=(yc e_fn).2;obtain⟨_,zJv⟩:=zPs (yc e_bb).1;replace e_bb:=(yc e_bb).2;obtain⟨zHv,e_vv⟩:=yc e_vv;obtain⟨zpw,e_vv⟩:=yc e_vv;obtain⟨zmw,e_ob⟩:=yc e_ob;obtain⟨zuv,e_vv⟩:=yc e_vv;obtain⟨zCv,e_ob⟩:=yc e_ob;obtain⟨q4,e_vv⟩:=yc e_vv;obtain⟨q5,e_ob⟩:=yc e_ob;have T:Txt K mg:=⟨⟨68,zwi,xE X G zwi,zhr⟩,⟨24,zYf,xE X G zYf,zXn⟩,⟨37,z3i,xE X G z3i,zzp⟩,⟨49,zej,xE X G zej,zup⟩,(fun C h=>by rw[z3i]at h;cases h;exact xe_Twice),(fun C h=>by rw[zej]at h;cases h;exact xe_NoKey),(fun C h=>by rw[zwi]at h;cases h;exact(Subs.cons z3i zzp zWl (Subs.cons zwi zhr zan (Subs.cons zej zup zRl Subs.nil)))),fl_Shelf_nest_of,fl_Shelf_kept_rule,al_left_layings,⟨fun C h=>by rw[zwi]at h;cases h;exact⟨⟨by rw[zJv];rfl,zHv,zpw,zmw,zuv,q4,q5,zCv⟩,zSs,zjv⟩⟩,xF X G zNo,xF X G zUy,xF X G zGx,xF X G z5v,xF X G zMq,xF X G zSy,xF X G znu,xF X G zgz,xF X G zUv,⟨t_DIVISOR,xE X G v_DIVISOR⟩,⟨t_MOST_KEYS,xE X G v_MOST_KEYS⟩⟩
 refine⟨W.fnOf "law" "law" (zvd z3n) (zHc z3n) (zp z3n) .none kV39 dc39 pm39 an39 cd39 ct39,fun s v => .of_eq rfl,fun base _ _=>?_⟩;have B_init_Full:IniAt K mg "Full" "some" "Full.__init__" zIc zyb _ _ _ _:=⟨zwi,xE X G zYf,⟨⟨_,_,_,_,_,_,_,_,_,_,_,_,_,_,z8v⟩,zRv,zWv,i4,zTv,zSs,i7,i8,i9⟩,(zse (st:=zIc) zQs z5r zdt),(zse (st:=zIc) zQs z5r zdt).binds (ps:=zyb) fun _ _ _ _ _ _ us hl=>by obtain⟨_,_,rfl⟩:=ln2 hl;rfl⟩
 have ok_init_Full:=zGm (P:=l.prog) (w:=w) (base:=base) T B_init_Full;have z6c:=zvh (P:=l.prog) (w:=w) (base:=base) T zDc;have zef:=zLk (P:=l.prog) (w:=w) (base:=base) T zCe;have zkb:=zZi T zCe zef zhb;have zyf:=zNk (P:=l.prog) (w:=w) (base:=base) T zwe;have zfm:=zGr (P:=l.prog) (w:=w) (base:=base) T z7l;have zV:=zjq T z7l zfm zcb;have zW:=zTk (P:=l.prog) (w:=w) (base:=base) T zZ;have z5b:=zUj (P:=l.prog) (w:=w) (base:=base) T zWb;have ztd:=zAt (P:=l.prog) (w:=w) (base:=base) T B_left;have zA:=zKg (P:=l.prog) (w:=w) (base:=base) T zB;have zNb:=zXi T zB zA zHb;have zqf:=zQk T B_left ztd zcb zV zHb zNb zB zA zje;have zsg:=zWs T B_left ztd zNg;have zKe:=zxj T zcb zV zZ zW zWb z5b zje zqf B_left ztd zB zA zNg zsg zzd;have zRb:=zsm (P:=l.prog) (w:=w) (base:=base) T zVb;have z2f:=zom T zVb zRb zxf;have zAb:=zTl (P:=l.prog) (w:=w) (base:=base) T zIb;have zBm:=z4q (P:=l.prog) (w:=w) (base:=base) T zIm;have zUf:=zkm T zIm zBm znf;have znk:=zLq (P:=l.prog) (w:=w) (base:=base) T zmj;have z6e:=z7p T znf zUf B_left ztd zmj znk ztf;have zPf:=z1l T zIb zAb ztf z6e zB zA zcb zV zHb zNb B_init_Full ok_init_Full zgf;have zhi:=zLo (P:=l.prog) (w:=w) (base:=base) T zsh;have zPg:=z4m (P:=l.prog) (w:=w) (base:=base) T zfg;have zed:=zMn T zsh zhi zfg zPg zbd;have zpb:=zXg T zbd zed zcb zV zfb;have zii:=zDo (P:=l.prog) (w:=w) (base:=base) T znh;have zpi:=zPo (P:=l.prog) (w:=w) (base:=base) T z9g;have zok:=zSq T zNg zsg znh zii z9g zpi z5i;have z5f:=zlm T ztf z6e z5i zok zjf;have zIe:=zCj T zjf z5f zHd;have zne:=zHm T zbd zed z9d;have zmi:=zAo T z9d zne zbh;have zTc:=zWq T zHd zIe zbh zmi zmd;have zRg:=zun T zgf zPf zfb zpb zmd zTc zZ zW zcb zV ztg;have zUg:=zOn T zhb zkb zeg;have zGe:=zuk T zB zA zmd zTc zcb zV B_init_Full ok_init_Full zMd;have z5d:=zVi T zZ zW zMd zGe zfb zpb zmd zTc zcb zV zfd;have zXf:=zKm T zIb zAb zwf;exact zYv T zDc z6c zhb zkb zwe zyf zzd zKe zxf z2f ztg zRg zeg zUg zIb zAb zfd z5d zWb z5b zwf zXf zmz
def walk{l:W.OpenLaw}{q:yw}{loose:List Str}{XP:(Str->Option Value)->yP->Prop}{YP:yF->yP->Prop}{d:DefRec}{K:Params->yu}(hn:l.most=some 63)(hdf:d.params.defaults=[])
 (hY:∀(w:yF)(h:yP),YP w h->(K w.params).In h)
 (F:∀(w:yF)(mg:Str->Option Value)(fa:Addr)(h:yP),(K w.params).In h->h.Ns ym mg->mg d.name=some (.ref fa) ->
  ∃fd:yg,(∀(s:yb)(u:Value),BindsTo s fd ⟨[u],[]⟩ [("_law_script",u)])/\∀base:yP,(K w.params).In base->base.Ns ym mg->FnOk l.prog w (K w.params) mg base CX0 9 fa fd ["_law_script"] (spM (K w.params) 1 zaq)) :
 W.WalkO q loose XP YP l.row.toRowW d [] (fun f vs=>PySem.call f vs) :=
 L2.walk_of (n:=63) (k:=9) (x:="_law_script") (CX:=fun _=>CX0) (sp:=fun w=>spM (K w.params) 1 zaq) hn (by decide) hdf (by first | exact⟨rfl,by decide,by decide,rfl⟩ | exact⟨rfl,by decide,by decide⟩) hY F (fun _ _ a ns hl hO hS=>zNx (zFu ns hl) hO hS) fun _ _ _ _ _ z=>z
end P
open PySem PySem.W PyProof.Rows
set_option maxRecDepth 100000 in
set_option maxHeartbeats 0 in
theorem PySem.Challenge.cw_keynests_k72_whole_shelves_and_webs_holds : PySem.Challenge.rw_keynests_k72_whole_shelves_and_webs.Holds := by
 refine M.own_head (l:=xl) (q:=Hd.qv) (loose:=Hd.lse) (d:=Hd.dl) (obs:=Hd.obs) (good:=Hd.good) (N:=60000) Hd.hd1 Hd.hd2 Hd.hd3 Hd.hd4 Hd.hd5 Hd.hd6 Hd.hd7 ?hw fun K e=>?_
 case hw=>w_witness2
 exact P.walk (l:=xl) (K:=fun _=>K) (by rfl) (by rfl) (fun w h Y=>Y) fun w mg fa h KX G hmg=>P.all_of KX G hmg e
