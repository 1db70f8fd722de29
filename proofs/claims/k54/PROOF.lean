import PyProof.Rows.All
import Lean
import KE.KTryDeep
import KE.IntBitsLaws
import KE.KDictList
import KE.KIsAll
import KE.KRevIter
import PySem.Challenge.RW_keynests_k54_shelves_side_by_side
import KE.KItem
set_option autoImplicit false
open List (all_cons any_cons any_eq_true any_map append_assoc append_nil countP_cons drop_eq_getElem_cons ext_getElem? filterMap_cons filter_cons filter_sublist flatten_cons getD_eq_getElem?_getD getElem_mem length_append length_cons length_map length_range length_set length_singleton length_take lookup_cons lookup_nil mapM_cons map_append map_cons map_map map_nil mem_append mem_append_left mem_append_right mem_cons mem_cons_of_mem mem_cons_self mem_map mem_of_getElem? mem_range mergeSort_perm nodup_append not_mem_nil of_mem_zip pairwise_map replicate_succ size_toArray sum_cons take_append_drop take_length take_succ)
set_option maxRecDepth 100000
set_option linter.all false
set_option Elab.async false
open PySem renaming wpAny_bind→ya,Shared→yc,wpAny_pure→ye,FuncData→yf,starEach→yg,mainGlobals→yj,wpAny→yk,model→yp,Program→yv,sizeLine→yB,World→yE,Around→yH,bootBuiltins→yK,wpAny_mono→yP,wpAny_holding→yQ,Heap→yT,wpAny_newObj_type→yV,wpAny_call_entry→yX,eval→yY,mem_of_lookup→yZ,wpAny_callSpecial?_slot→Yd,backTo→Yh,cellsFrom→Yk,assignEach→Ym,attributeBase→Yn,sizeLine_eq→Yp,compareOp→Yy,rawInt→Yz,wpAny_field→YA,keywordEach→YE,wpAny_loadPart_at→YF,Obj→YL,wpAny_standAt→YM,foldedSetIterable→YN,codeAny_mono→YO,wpAny_setField→YR,wpAny_setState_of→YS,wpAny_ite_split→YU,NameKind→xa,excClassObj→xb,wpAny_specialOf→xc,codeAny_builtin→xf,wpAny_isSubtype_exc→xh,Pos→xi,wpAny_Call_Name_kw→xm,PyData→xn,SetTable→xo,Keyword→xr,Builtin→xt,wpAny_passesOwn→xw,holding→xy,wpAny_truthy_bool→xz,backToKw→xA,wpAny_setEntries_of→xG,binaryOp→xH,wpAny_setField_rec→xO,wpAny_execs_nil→xQ,swapsWith→xS,plainId_quiet→xU,builtinLookup_eq_fast→xY,Scope→Xa,codeAny→Xc,pyNext→Xg,call_meets→Xh,codeAny_call_builtin→Xk,wpAny_typeOf→Xm
open List.cons renaming inj→yb,injEq→YV
open PySem.Heap renaming get?_push_of_some→yd,lt_size→yi,get?_push_size→yo,get?_update_self→yJ,get?_update_other→Yb,SameBut→Yj,size_push→Yl,ExtBut→Xj
open Nat renaming le_refl→yh,lt_of_lt_of_le→yq,ne_of_lt→yw,le_trans→yy,ne_of_gt→yO,lt_irrefl→yS,zero_le→Yq,lt_succ_self→Yr,lt_succ_of_lt→Yt,le_of_lt→YH,le_succ→xK
open Option renaming bind_some→ym
open List renaming getElem?_map→yn,getElem?_append_left→yt,replicate→yz,range→yA,getElem?_append_right→yL,getElem?_eq_getElem→yM,getElem?_set_ne→yR,getElem?_set_self→yU,getElem?_eq_none→Yx,lookup→YD,getElem?_replicate→YI,find?_cons→xR,length_replicate→xX,getElem?_zipIdx→Xl
open PySem.W renaming Frag→yr,findIn→Yc,nsIn→Yg,mg_none_of→xk,mg_of→xu,emptyDict→xJ,kia_one→xT,mroIn→Xb
open PySem.NameKind renaming free→yu,cell→yN
open Bool renaming false_ne_true→yx,and_eq_true→yG,false_eq_true→xN
open PySem.Value renaming ref→yC,none→Yi,type→YC,builtin→xV
open Sum renaming inl→yD
open Ne renaming symm→yF
open PySem.PyData renaming eqv→yI,strOk→xB,int→xE,eqvAll→xW,canLayAll0→Xe
open PySem.Obj renaming data_mapFields→yW,isFreed_of_fields→Yw,mapFields→YZ,mapSeq→xM,cls_mapFields→Xd
open Option.some renaming inj→Ye,injEq→xC
open PySem.Builtin.List renaming listExtendWith→Yo,listTooLong→YY,listLengthHint→xj,listSameRef→xD
open Int renaming toNat_natCast→Ys,eq_ofNat_of_zero_le→xI,emod_lt_of_pos→xP
open False renaming elim→Yu
open PySem.Heap.SameBut renaming update→Yv
open PySem.Builtin.SmallTypes renaming nextOf→YB
open PySem.SetTable renaming below→YG,grown→Xi
open PySem.Around renaming under_plainId→YJ
open PyProof.Rows renaming callWith_type1→YK,slot_tuple_getitem→YW
open PySem.Str renaming ofString→YQ
open ForInStep renaming yield→YT
open PySem.Builtin.Tuple renaming tupleExact→YX
open PyProof.Rows.F renaming plain_set_update_loop→xg
open PySem.Challenge renaming rw_keynests_k54_shelves_side_by_side→xl
open PySem.F renaming excBase_ValueError→xp,slot_tuple_iterator_next→xq,slot_enumerate_next→xZ
open PySem.Builtin.Slice renaming slicePlaces→xv
open PySem.AutoSeq1 renaming wpAny_loadPart'→xF
open True renaming intro→xL
open PySem.SetTable.below renaming go→Xf
noncomputable section
namespace M
open PySem PySem.W PyProof.Rows
def kOf(as:List Addr)(h:yT):Frag:=as.filterMap fun a=>(h.get? a).map fun o=>(a,o)
def zMy(h:yT):Frag:=kOf (yA h.objs.size) h
def zLw(s:Stmt):Arguments:=match s with
 |.FunctionDef _ a _ _ _ _ _ _ _ _=>a
 |_=>{posonlyargs:=[],args:=[],vararg:=none,kwonlyargs:=[],kw_defaults:=[],kwarg:=none,defaults:=[]}
def zNw(s:Stmt):List Stmt:=match s with
 |.FunctionDef _ _ b _ _ _ _ _ _ _=>b
 |_=>[]
def zRr(s:Stmt):Xa:=match s with
 |.FunctionDef _ _ _ _ _ _ sc _ _ _=>sc
 |_=>{kind := .function,names:=[],isGenerator:=false,isCoroutine:=false }
def zwA(s:Stmt):xi:=match s with
 |.FunctionDef _ _ _ _ _ _ _ _ _ p=>p
 |_=>⟨0,0,0,0⟩
structure SeenD where
 name:Str
 qual:Str
 params:Arguments
 body:FuncBody
 scope:Xa
 globals:Addr
 closure:List (Str×Addr)
 defaults:Value
 builtins:Addr
 code:Bool
 keep:Bool
def zrd(K:Frag)(a:Addr)(qual:Str):Option SeenD:=match K.lookup a with
 |some ⟨_,_, .func fd,_⟩=>some ⟨fd.name,fd.qualname,fd.params,fd.body,fd.scope,fd.globals,fd.closure,fd.defaults,fd.builtins,codeIn K fd.code qual,keepIn K (.ref a)⟩
 |_=>none
def zrb(K:Frag)(nm:Str):Option SeenD:=match nsIn K yj nm with
 |some (some (.ref a))=>zrd K a nm
 |_=>none
def zXd(nm qual:Str)(st:Stmt):Option SeenD:=some ⟨nm,qual,zLw st, .stmts (zNw st),zRr st,yj,[], .none,builtinsNs,true,true⟩
def zvb(nm:Str)(st:Stmt):Option SeenD:=zXd nm nm st
def zmm(K:Frag)(nm:Str):Option Int:=match nsIn K yj nm with
 |some (some (.int i _))=>some i
 |_=>none
def zJs(K:Frag)(C:Addr):Option (Value×String×List Value×Bool×Bool):=match K.lookup C with
 |some ⟨c,_, .cls cd,sl⟩=>(match sl.toList with | [_,_,_,_,some (.builtin n),_]=>some (c,n,cd.mro,cd.hasDict,cd.hasDel) | _=>none)
 |_=>none
def ziu{p q:yv}{loose:List Str}{α:Type}{Yf:yc->α}{y:α}{N:Nat}(h1:LeftO p q loose (fun _=>true) (fun _=>()) (fun _=>()) N)(h2:∀w,(openEnds treeTable p w N).map Yf=some y):LeftO p q loose (fun _=>true) Yf (fun _=>y) N:=fun w=>by
 obtain⟨s,e,a⟩:=Option.map_eq_some_iff.mp (h1 w);obtain⟨s',e',b⟩:=Option.map_eq_some_iff.mp (h2 w);rw[e]at e';cases e';rw[e];show some (_,Yf s)=some (_,y);rw[b];exact congrArg (fun z=>some (z.1,y)) a
end M
namespace Hd
open PySem PySem.Spec PyProof.Rows M
def top(i:Nat):Stmt:=PySem.Challenge.pw_keynests_k54_shelves_side_by_side.main.body.getD i (.Pass ⟨0,0,0,0⟩)
def zQi(s:Stmt)(j:Nat):Stmt:=match s with
 |.ClassDef _ _ _ body _ _ _ _ _ _ _=>body.getD j (.Pass ⟨0,0,0,0⟩)
 |_ => .Pass ⟨0,0,0,0⟩
def zDv(s:Stmt):Stmt:=zQi s 0
def qv:yv:={PySem.Challenge.pw_keynests_k54_shelves_side_by_side with main:={PySem.Challenge.pw_keynests_k54_shelves_side_by_side.main with body:=[top 47]}}
def lse:List Str:=(PySem.Challenge.pw_keynests_k54_shelves_side_by_side.main.scope.names.map (·.1)).filter fun x=>!(x == "law")
def dl:DefRec:={name:="law",params:=zLw (top 47),body:=zNw (top 47),scope:=zRr (top 47),pos:=zwA (top 47)}
def obs(K:yr):List (Option SeenD)×List (Option (Option Value))×List (Option Int)×List (Bool)×List (Option Bool)×List (Option Value)×List (Option W.CFound)×List (Option (Value×String×List Value×Bool×Bool)):=([zrb K "_law_pen",zrd K 220 "Shelf.__init__",zrb K "_law_mixed",zrb K "_law_take",zrb K "_law_rule",zrb K "_law_drawn",zrd K 253 "Shelf.all_there",zrd K 258 "Shelf.nest",zrb K "left",zrb K "homes",zrb K "web_of",zrd K 263 "Shelf.laying",zrd K 270 "Shelf.left",zrd K 282 "Shelf.rule",zrd K 246 "Shelf.where",zrb K "_law_stand",zrd K 239 "Shelf.has",zrb K "lying",zrb K "pushes_to",zrb K "row_to",zrb K "put_in",zrd K 225 "Shelf.put",zrd K 232 "Shelf.out",zrb K "fault",zrb K "is_push",zrb K "follows",zrb K "pushed",zrb K "laid_more",zrb K "laid_at_all",zrb K "room_of",zrb K "homes_of",zrb K "is_crowd",zrb K "spare_key",zrb K "trimmed",zrb K "fitted",zrd K 275 "Shelf.renew",zrb K "_law_deed",zrb K "_law_spoil",zrb K "_law_answered",zrb K "law",zrd K 65 "Full.__init__"],[Yg K yj "Shelf",Yc K (.ref 285) "__setattr__",Yc K (.ref 285) "nest_of",Yc K (.ref 285) "kept_rule",Yc K (.ref 285) "__init__",Yc K (.ref 285) "all_there",Yc K (.ref 285) "nest",Yc K (.ref 285) "laying",Yc K (.ref 285) "left",Yc K (.ref 285) "rule",Yc K (.ref 285) "where",Yc K (.ref 285) "has",Yc K (.ref 285) "put",Yc K (.ref 285) "out",Yc K (.ref 285) "renew",Yg K yj "left_layings",Yg K yj "left",Yg K yj "enumerate",Yg K yj "isinstance",Yg K yj "len",Yg K yj "list",Yg K yj "range",Yg K yj "reversed",Yg K yj "set",Yg K yj "sorted",Yg K yj "sum",Yg K yj "tuple",Yg K yj "Full",Yg K yj "NestError",Yg K yj "Twice",Yg K yj "NoKey",W.specialIn K (.ref 24) "__getattribute__",Yc K (.ref 68) "__init__",Yc K (.ref 68) "__setattr__",Yc K (.ref 68) "some",Yc K (.ref 68) "__getattribute__",Yc K (.ref 68) "__getattr__",Yc K (.ref 68) "__class__",W.specialIn K (.builtin "object.__class__") "__get__"],[zmm K "DIVISOR",zmm K "MOST_KEYS"],[W.plainGet K 285 PySem.Str.empty,W.hasDictIn K 285,W.plainOver K 285,W.isFn K (.ref 220),W.makesIn K 285,W.keepIn K (.ref 285),W.isFn K (.ref 253),W.isFn K (.ref 258),W.isFn K (.ref 263),W.isFn K (.ref 270),W.isFn K (.ref 282),W.isFn K (.ref 246),W.isFn K (.ref 239),W.isFn K (.ref 225),W.isFn K (.ref 232),W.isFn K (.ref 275),W.ktsIn K 68 "BaseException",W.ktsIn K 24 "BaseException",W.ktsIn K 37 "BaseException",W.ktsIn K 49 "BaseException",W.excIn K 37 [.type "ValueError", .type "Exception", .type "BaseException", .type "object"] "ValueError.__new__",W.excIn K 49 [.type "ValueError", .type "Exception", .type "BaseException", .type "object"] "ValueError.__new__",W.excIn K 24 [.type "ValueError", .type "Exception", .type "BaseException", .type "object"] "ValueError.__new__",W.readsIn K 24 (.type "type"),W.hasDictIn K 68,(W.clsIn K 68).isSome],[Xb K 37 (.ref 49),Xb K 37 (.ref 37),Xb K 37 (.ref 68),Xb K 68 (.ref 49),Xb K 68 (.ref 37),Xb K 68 (.ref 68),Xb K 49 (.ref 49),Xb K 49 (.ref 37),Xb K 49 (.ref 68),Xb K 68 (.type "BaseException"),Xb K 68 (.type "object"),W.takesIn K (.builtin "object.__class__")],[W.typeIn K (.ref 65)],[W.findCls K (.ref 24) (.type "type") "__init__"],[zJs K 68])
def good:List (Option SeenD)×List (Option (Option Value))×List (Option Int)×List (Bool)×List (Option Bool)×List (Option Value)×List (Option W.CFound)×List (Option (Value×String×List Value×Bool×Bool)):=([zvb "_law_pen" (top 36),zXd "__init__" "Shelf.__init__" (zQi (top 34) 0),zvb "_law_mixed" (top 37),zvb "_law_take" (top 38),zvb "_law_rule" (top 39),zvb "_law_drawn" (top 45),zXd "all_there" "Shelf.all_there" (zQi (top 34) 5),zXd "nest" "Shelf.nest" (zQi (top 34) 6),zvb "left" (top 7),zvb "homes" (top 22),zvb "web_of" (top 25),zXd "laying" "Shelf.laying" (zQi (top 34) 7),zXd "left" "Shelf.left" (zQi (top 34) 8),zXd "rule" "Shelf.rule" (zQi (top 34) 10),zXd "where" "Shelf.where" (zQi (top 34) 4),zvb "_law_stand" (top 43),zXd "has" "Shelf.has" (zQi (top 34) 3),zvb "lying" (top 10),zvb "pushes_to" (top 15),zvb "row_to" (top 16),zvb "put_in" (top 17),zXd "put" "Shelf.put" (zQi (top 34) 1),zXd "out" "Shelf.out" (zQi (top 34) 2),zvb "fault" (top 9),zvb "is_push" (top 12),zvb "follows" (top 13),zvb "pushed" (top 14),zvb "laid_more" (top 18),zvb "laid_at_all" (top 19),zvb "room_of" (top 27),zvb "homes_of" (top 26),zvb "is_crowd" (top 29),zvb "spare_key" (top 30),zvb "trimmed" (top 31),zvb "fitted" (top 32),zXd "renew" "Shelf.renew" (zQi (top 34) 9),zvb "_law_deed" (top 42),zvb "_law_spoil" (top 44),zvb "_law_answered" (top 46),zvb "law" (top 47),zXd "__init__" "Full.__init__" (zDv (top 4))],[some (some (.ref 285)),some (some (.builtin "object.__setattr__")),some none,some none,some (some (.ref 220)),some (some (.ref 253)),some (some (.ref 258)),some (some (.ref 263)),some (some (.ref 270)),some (some (.ref 282)),some (some (.ref 246)),some (some (.ref 239)),some (some (.ref 225)),some (some (.ref 232)),some (some (.ref 275)),some (some (.ref 94)),some (some (.ref 94)),some none,some none,some none,some none,some none,some none,some none,some none,some none,some none,some (some (.ref 68)),some (some (.ref 24)),some (some (.ref 37)),some (some (.ref 49)),some (some (.builtin "type.__getattribute__")),some (some (.ref 65)),some (some (.builtin "object.__setattr__")),some none,some (some (.builtin "BaseException.__getattribute__")),some none,some (some (.builtin "object.__class__")),some (some (.builtin "getset_descriptor.__get__"))],[some 10007,some 30],[true,true,true,true,true,true,true,true,true,true,true,true,true,true,true,true,true,true,true,true,true,true,true,true,true,true],[some false,some true,some false,some false,some false,some true,some true,some false,some false,some true,some true,some true],[some (.type "function")],[some (.val (.builtin "ValueError.__init__"))],[some (.type "type","ValueError.__new__", .ref 68::(.ref 24::[.type "ValueError", .type "Exception", .type "BaseException", .type "object"]),true,false)])
set_option maxHeartbeats 0
def hd21:W.LeftO PySem.Challenge.rw_keynests_k54_shelves_side_by_side.prog qv lse (fun _=>true) (fun _=>()) (fun _=>()) 60000:=fun w=>by kernel_rfl
def hd22:∀w,(W.openEnds treeTable PySem.Challenge.rw_keynests_k54_shelves_side_by_side.prog w 60000).map (fun s=>obs (zMy s.heap))=some good:=fun w=>by kernel_rfl
def hd2:W.LeftO PySem.Challenge.rw_keynests_k54_shelves_side_by_side.prog qv lse (fun _=>true) (fun s=>obs (zMy s.heap)) (fun _=>good) 60000:=ziu hd21 hd22
def hd1:PySem.Challenge.rw_keynests_k54_shelves_side_by_side.wellSaid=true:=by kernel_rfl
def hd3:W.defOf qv PySem.Challenge.rw_keynests_k54_shelves_side_by_side.name=some (dl,[]):=by kernel_rfl
def hd4:PySem.Challenge.rw_keynests_k54_shelves_side_by_side.prog.theDef PySem.Challenge.rw_keynests_k54_shelves_side_by_side.name=some (dl.params,dl.body,dl.scope):=by kernel_rfl
def hd5:W.kwWritten? dl.params.kwonlyargs dl.params.kw_defaults=some []:=by kernel_rfl
def hd6:(W.chainsOk qv&&W.opensWell PySem.Challenge.rw_keynests_k54_shelves_side_by_side.prog&&(W.frees PySem.Challenge.rw_keynests_k54_shelves_side_by_side.row.toRowW&&PySem.Challenge.rw_keynests_k54_shelves_side_by_side.row.within.isEmpty))=true:=by kernel_rfl
def hd7:PySem.Challenge.rw_keynests_k54_shelves_side_by_side.prog.bare:=⟨rfl,rfl,rfl,rfl,rfl,by decide +kernel⟩
end Hd
namespace L2
open PySem PySem.Spec PyProof.Rows
abbrev Key:=Sum Int Str
def zgo:Key->Value->Bool
 |.inl k,v=>Value.isInt k v
 |.inr x,v=>Value.isStrOf x v
def zpA(w:yE):Key->Int
 |.inl k=>hashInt k
 |.inr x=>hashStr w x
def zlb:∀{k:Key} {v:Value},zgo k v=true->(∃i t,k=yD i/\v=Value.int i t)\/(∃x t,k=Sum.inr x/\v=Value.str x t)
 |.inl i,v,h=>by
  obtain⟨t,e⟩:=Value.isInt_shape (k:=i) (v:=v) h;exact .inl ⟨i,t,rfl,e⟩
 |.inr x,v,h=>by
  obtain⟨t,e⟩:=Value.isStrOf_shape (x:=x) (v:=v) h;exact .inr ⟨x,t,rfl,e⟩
def zzr(i:Int)(t:Tok):zgo (.inl i) (.int i t)=true:=by simp[zgo,Value.isInt]
def zWr(x:Str)(t:Tok):zgo (.inr x) (.str x t)=true:=by simp[zgo,Value.isStrOf]
def zIx(a b:Int):decide ((yD a:Key)=yD b)=(a==b):=by
 by_cases e:a=b
 ·subst e;simp
 ·have h:¬(yD a:Key)=yD b:=fun q=>e (Sum.inl.inj q);rw[decide_eq_false h];exact(beq_eq_false_iff_ne.mpr e).symm
def zMx(a b:Str):decide ((Sum.inr a:Key)=Sum.inr b)=decide (a=b):=by
 by_cases e:a=b
 ·subst e;simp
 ·have h:¬(Sum.inr a:Key)=Sum.inr b:=fun q=>e (Sum.inr.inj q);rw[decide_eq_false h,decide_eq_false e]
def z1x(a:Int)(b:Str):decide ((yD a:Key)=Sum.inr b)=false:=decide_eq_false (fun q=>nomatch q)
def zTy(a:Str)(b:Int):decide ((Sum.inr a:Key)=yD b)=false:=decide_eq_false (fun q=>nomatch q)
def zYb(prog:yv)(w:yE):PySem.KeyKind prog w Key where
 is:=zgo
 hash:=zpA w
 inj:=fun v a b ha hb=>by
  rcases zlb ha with ⟨i,t,rfl,rfl⟩ | ⟨x,t,rfl,rfl⟩
  ·rcases zlb hb with ⟨j,u,rfl,e⟩ | ⟨y,u,rfl,e⟩
   ·injection e with e1 _;rw[e1]
   ·exact nomatch e
  ·rcases zlb hb with ⟨j,u,rfl,e⟩ | ⟨y,u,rfl,e⟩
   ·exact nomatch e
   ·injection e with e1 _;rw[e1]
 byValue:=fun k v h=>by
  rcases zlb h with ⟨i,t,rfl,rfl⟩ | ⟨x,t,rfl,rfl⟩<;>rfl
 pyHash:=fun hv h=>by
  rcases zlb hv with ⟨i,t,rfl,rfl⟩ | ⟨x,t,rfl,rfl⟩
  ·exact wpAny_pyHash_int h
  ·exact wpAny_pyHash_str h
 eqBool:=fun hu hv h=>by
  rcases zlb hu with ⟨i,t,rfl,rfl⟩ | ⟨x,t,rfl,rfl⟩
  ·rcases zlb hv with ⟨j,u,rfl,rfl⟩ | ⟨y,u,rfl,rfl⟩
   ·rw[zIx]at h;exact wpAny_eqBool_int h
   ·rw[z1x]at h;exact SeqAt.EqAt.int_str i t y u _ _ _ _ h
  ·rcases zlb hv with ⟨j,u,rfl,rfl⟩ | ⟨y,u,rfl,rfl⟩
   ·rw[zTy]at h;exact SeqAt.EqAt.str_int x t j u _ _ _ _ h
   ·rw[zMx]at h;exact wpAny_eqBool_str h
 «strs»:=fun k x t v h=>by
  rcases zlb h with ⟨i,u,rfl,e⟩ | ⟨y,u,rfl,e⟩
  ·exact nomatch e
  ·injection e with e1 _;subst e1;cases v<;>rfl
def z7h(prog:yv)(w:yE)(k:Key)(v:Value):(zYb prog w).is k v=zgo k v:=rfl
def zKo(prog:yv)(w:yE)(i:Int)(t:Tok):(zYb prog w).is (.inl i) (.int i t)=true:=zzr i t
def zvo(prog:yv)(w:yE)(x:Str)(t:Tok):(zYb prog w).is (.inr x) (.str x t)=true:=zWr x t
inductive V where
 |non | bl (b:Bool) | int (i:Int) | str (x:Str) | byt (b:Array UInt8) | flt (b:UInt64) | ref (a:Addr) | ty (n:String)
 deriving DecidableEq
def RelV:V->Value->Prop
 |.non,u=>u=Yi
 |.bl b,u=>u=Value.bool b
 |.int i,u=>∃t,u=Value.int i t
 |.str x,u=>∃t,u=Value.str x t
 |.byt b,u=>∃t,u=Value.bytes b t
 |.flt b,u=>∃t,u=Value.float b t
 |.ref a,u=>u=yC a
 |.ty n,u=>u=YC n
abbrev Vals:List V->List Value->Prop:=Paired RelV
def Vals.length{xs:List V}{us:List Value}(r:Vals xs us):xs.length=us.length:=Paired.length r
def Vals.get:∀{xs:List V} {us:List Value} {i:Nat} {x:V},Vals xs us->xs[i]?=some x->∃u,us[i]?=some u/\RelV x u
 |_,_,_,_, .nil,e=>by simp at e
 |_,_,0,_, .cons r _,e=>by simp at e;subst e;exact⟨_,rfl,r⟩
 |_,_,i+1,x, .cons _ t,e=>by
  obtain⟨u,h1,h2⟩:=Vals.get (i:=i) (x:=x) t (by simpa using e);exact⟨u,by simpa using h1,h2⟩
def Vals.set{x:V}{u:Value}(r:RelV x u):∀{xs:List V} {us:List Value} (i:Nat),Vals xs us->Vals (xs.set i x) (us.set i u)
 |_,_,_, .nil => .nil
 |_,_,0, .cons _ t => .cons r t
 |_,_,i+1, .cons q t => .cons q (Vals.set r i t)
def Vals.append:∀{xs ys:List V} {us ws:List Value},Vals xs us->Vals ys ws->Vals (xs++ys) (us++ws)
 |_,_,_,_, .nil,s=>s
 |_,_,_,_, .cons r t,s => .cons r (Vals.append t s)
def Vals.take:∀{xs:List V} {us:List Value} (n:Nat),Vals xs us->Vals (xs.take n) (us.take n)
 |_,_,0,_ => .nil
 |_,_,_+1, .nil => .nil
 |_,_,n+1, .cons r t => .cons r (Vals.take n t)
def Vals.drop:∀{xs:List V} {us:List Value} (n:Nat),Vals xs us->Vals (xs.drop n) (us.drop n)
 |_,_,0,r=>r
 |_,_,_+1, .nil => .nil
 |_,_,n+1, .cons _ t=>Vals.drop n t
def RelO:Option V->Option Value->Prop
 |some v,some u=>RelV v u
 |none,none=>True
 |_,_=>False
def KV{κ:Type}:List (κ×V)->List (κ×Value)->Prop:=Paired fun(p:κ×V) (q:κ×Value)=>p.1=q.1/\RelV p.2 q.2
def kV:Key->V
 |.inl i => .int i
 |.inr x => .str x
inductive HO where
 |lst (xs:List V)
 |tup (xs:List V)
 |dK (kvs:List (Key×V)) | dT (kvs:List (List Key×V))
 |set (S:Int->Bool) (n:Nat)
 |ins (C dx:Addr) (fs:List (Str×V))
 |own (x:Addr)
 |xd (fs:List (Str×V))
 |met (f x:Addr)
 |rng (lo hi:Int)
 |frz (o:YL) (u:HO)
 |tbl (ps:Array Value)
 |ext (φ:yT->Prop)
abbrev Hp:=Addr->Option HO
def upd(H:Hp)(a:Addr)(o:HO):Hp:=fun b=>if b=a then some o else H b
def zF{H:Hp}{a:Addr}{o:HO}:upd H a o a=some o:=by unfold upd;rw[if_pos rfl]
def zK{H:Hp}{a b:Addr}{o:HO}(h:b≠a):upd H a o b=H b:=by unfold upd;rw[if_neg h]
def zI{H:Hp}{a b:Addr}{o:HO}(h:H a=some o)(h':H b=none):a≠b:=by
 intro e;subst e;rw[h]at h';cases h'
section
variable (P:yv)(w:yE)
def ObjOk(H:Hp)(h:yT)(a:Addr):HO->Prop
 |.lst xs=>xs.length<=yB/\∃(its:List Value)(n:Nat),Vals xs its/\h.get? a=some {cls := .type "list",data := .seq its.toArray n }
 |.tup xs=>xs.length<=yB/\∃its:List Value,Vals xs its/\IsTup h a its.toArray
 |.dK kvs=>kvs.length<=yB/\(a==sysModules)=false/\∃vs,KV kvs vs/\h.DictOf (zYb P w) a vs
 |.dT kvs=>kvs.length<=yB/\(a==sysModules)=false/\∃xs:List (List Key×Addr×Value),
  Paired (fun(p:List Key×V) (q:List Key×Addr×Value)=>p.1=q.1/\H q.2.1=some (.tup (p.1.map kV))/\RelV p.2 q.2.2) kvs xs /\
  ∃o es ep,h.get? a=some o/\o.ExactDict/\o.data = .dict es ep/\es.toList=xs.map (entryOfKey (tupleKind (zYb P w)))/\(xs.map (·.1)).Nodup
 |.set S n=>h.SetOf (intKind P w) a S n
 |.ins C dx fs=>H dx=some (.own a)/\fs.length<=1000/\dx≠a/\h.get? a=some (W.instObj C dx) /\
  ∃mA,h.Ns1 dx mA/\(∀f,RelO (fs.lookup f) (mA f))/\PySem.Within mA (fs.map (·.1))
 |.own _=>∃o,h.get? a=some o
 |.xd fs=>∃mA,h.Ns1 a mA/\∀f,RelO (fs.lookup f) (mA f)
 |.rng lo hi=>∃t u v,h.get? a=some {cls := .type "range",data := .fields #[.int lo t, .int hi u, .int 1 v]}
 |.frz o u=>h.get? a=some o/\ObjOk H h a u
 |.tbl ps=>h.get? a=some {cls := .none,data := .fields ps }
 |.met f x=>h.get? a=some (W.methodObj (.ref f) (.ref x))
 |.ext φ=>φ h/\(∃o,h.get? a=some o)/\∀h1 h2:yT,φ h1->(∀o,h1.get? a=some o->h2.get? a=some o)->φ h2
def HOk(H:Hp)(h:yT):Prop:=∀a o,H a=some o->ObjOk P w H h a o
end
section
variable {P:yv}{w:yE}{H H':Hp}{h h':yT}{a:Addr}{o:HO}
def ObjOk.lt(x:ObjOk P w H h a o):a<h.objs.size:=by
 cases o with
 |lst xs=>obtain⟨_,_,_,_,e⟩:=x;exact yi e
 |tup xs=>obtain⟨_,_,_,p⟩:=x;exact p.lt
 |dK kvs=>obtain⟨_,_,_,_,o,_,_,e,_⟩:=x;exact yi e
 |dT kvs=>obtain⟨_,_,_,_,o,_,_,e,_⟩:=x;exact yi e
 |set S n=>obtain⟨o,_,_,_,e,_⟩:=x;exact yi e
 |ins C dx fs=>obtain⟨_,_,_,e,_⟩:=x;exact yi e
 |own y=>obtain⟨_,e⟩:=x;exact yi e
 |xd fs=>obtain⟨_,⟨_,_,_,e,_⟩,_⟩:=x;exact yi e
 |rng lo hi=>obtain⟨_,_,_,e⟩:=x;exact yi e
 |frz ob u=>obtain⟨e,_⟩:=x;exact yi e
 |tbl ps=>exact yi (show h.get? a=some _ from x)
 |met f y=>exact yi (show h.get? a=some _ from x)
 |ext φ=>obtain⟨_,⟨_,e⟩,_⟩:=x;exact yi e
def Paired.mapP{α β:Type}{F G:α->β->Prop}:∀{l₁:List α} {l₂:List β},Paired F l₁ l₂->(∀a b,F a b->G a b)->Paired G l₁ l₂
 |_,_, .nil,_ => .nil
 |_,_, .cons r t,f => .cons (f _ _ r) (Paired.mapP t f)
def ObjOk.stay(x:ObjOk P w H h a o)(k:∀b u,(b=a\/H b=some (.own a))->h.get? b=some u->h'.get? b=some u)
 (ho:∀b,H b=some (.own a)->H' b=some (.own a)) (ht:∀b xs,H b=some (.tup xs)->H' b=some (.tup xs)):ObjOk P w H' h' a o:=by
 induction o with
 |lst xs=>obtain⟨z,its,n,r,e⟩:=x;exact⟨z,its,n,r,k _ _ (.inl rfl) e⟩
 |tup xs=>obtain⟨z,its,r,ob,e,c⟩:=x;exact⟨z,its,r,ob,k _ _ (.inl rfl) e,c⟩
 |dK kvs=>obtain⟨z,y,vs,r,ob,es,ep,e,c⟩:=x;exact⟨z,y,vs,r,ob,es,ep,k _ _ (.inl rfl) e,c⟩
 |dT kvs=>
  obtain⟨z,y,xs,r,ob,es,ep,e,c⟩:=x;exact⟨z,y,xs,Paired.mapP r fun p q z=>⟨z.1,ht _ _ z.2.1,z.2.2⟩,ob,es,ep,k _ _ (.inl rfl) e,c⟩
 |set S n=>obtain⟨ob,es,ep,t,e,c⟩:=x;exact⟨ob,es,ep,t,k _ _ (.inl rfl) e,c⟩
 |ins C dx fs=>
  obtain⟨d,z,ne,e,mA,⟨od,es,ep,e2,c⟩,r⟩:=x;exact⟨ho _ d,z,ne,k _ _ (.inl rfl) e,mA,⟨od,es,ep,k _ _ (.inr d) e2,c⟩,r⟩
 |own y=>obtain⟨ob,e⟩:=x;exact⟨ob,k _ _ (.inl rfl) e⟩
 |xd fs=>obtain⟨mA,⟨od,es,ep,e,c⟩,r⟩:=x;exact⟨mA,⟨od,es,ep,k _ _ (.inl rfl) e,c⟩,r⟩
 |rng lo hi=>obtain⟨t,u,v,e⟩:=x;exact⟨t,u,v,k _ _ (.inl rfl) e⟩
 |frz ob u ih=>obtain⟨e,q⟩:=x;exact⟨k _ _ (.inl rfl) e,ih q⟩
 |tbl ps=>
  have e:h.get? a=some {cls := .none,data := .fields ps }:=x;show h'.get? a=some {cls := .none,data := .fields ps };exact k a _ (.inl rfl) e
 |met f y=>
  have e:h.get? a=some (W.methodObj (.ref f) (.ref y)):=x;show h'.get? a=some (W.methodObj (.ref f) (.ref y));exact k a _ (.inl rfl) e
 |ext φ=>obtain⟨p,⟨o,e⟩,st⟩:=x;exact⟨st _ _ p fun o q=>k _ _ (.inl rfl) q,⟨o,k _ _ (.inl rfl) e⟩,st⟩
def HOk.lt(x:HOk P w H h)(e:H a=some o):a<h.objs.size:=(x a o e).lt
def HOk.fresh(x:HOk P w H h)(e:h.objs.size<=a):H a=none:=by
 cases q:H a with
 |none=>rfl
 |some u=>exact absurd (yq (x.lt q) e) (yS _)
def HOk.kept(x:HOk P w H h)(k:∀b u,h.get? b=some u->h'.get? b=some u):HOk P w H h':=fun a o e=>
 (x a o e).stay (fun b u _ q=>k b u q) (fun _ q=>q) fun _ _ q=>q
def HOk.laid(x:HOk P w H h)(k:∀b u,h.get? b=some u->h'.get? b=some u)(hp:h.objs.size<=a)(new:ObjOk P w (upd H a o) h' a o):HOk P w (upd H a o) h':=fun b u e=>by
 have hn:=x.fresh hp
 by_cases hb:b=a
 ·subst hb;rw[zF]at e;cases e;exact new
 ·rw[zK hb]at e;exact(x b u e).stay (fun c v _ q=>k c v q) (fun c q=>by rw[zK (zI q hn)];exact q) fun c xs q=>by rw[zK (zI q hn)];exact q
end
def Rd(H:Hp)(a:Addr)(u:HO):Prop:=H a=some u\/∃o,H a=some (.frz o u)
def Rd.ok{P:yv}{w:yE}{H:Hp}{h:yT}{a:Addr}{u:HO}(r:Rd H a u)(x:HOk P w H h):ObjOk P w H h a u:=by
 rcases r with r | ⟨o,r⟩
 ·exact x a u r
 ·obtain⟨_,q⟩:=x a _ r;exact q
def Mut:Option HO->Prop
 |some (.lst _)=>True
 |some (.dK _)=>True
 |some (.dT _)=>True
 |some (.set _ _)=>True
 |some (.ins _ _ _)=>True
 |some (.ext _)=>True
 |_=>False
section
variable {P:yv}{w:yE}{H:Hp}{h h':yT}{x e:Addr}{o':HO}
def HOk.write(ok:HOk P w H h)(mu:Mut (H x))(he:e=x\/H e=some (.own x))(k:∀b u,b≠e->h.get? b=some u->h'.get? b=some u)(heo:∃u,h'.get? e=some u)
 (new:ObjOk P w (upd H x o') h' x o'):HOk P w (upd H x o') h':=fun b u q=>by
 have nown:∀c y,H c=some (.own y)->c≠x:=fun c y r z=>by subst z;rw[r]at mu;exact mu
 have ntup:∀c xs,H c=some (.tup xs)->c≠x:=fun c xs r z=>by subst z;rw[r]at mu;exact mu
 by_cases hb:b=x
 ·subst hb;rw[zF]at q;cases q;exact new
 ·rw[zK hb]at q
  by_cases hbe:b=e
  ·have q':H b=some (.own x):=by
    rcases he with z | z
    ·exact absurd (hbe.trans z) hb
    ·rw[hbe];exact z
   rw[q]at q';cases q';obtain⟨v,hv⟩:=heo;exact⟨v,by rw[hbe];exact hv⟩
  ·refine(ok b u q).stay (fun c v hc r=>k c v ?_ r) (fun c r=>by rw[zK (nown c b r)];exact r) fun c xs r=>by rw[zK (ntup c xs r)];exact r
   rcases hc with rfl | hc
   ·exact hbe
   ·rintro rfl;rcases he with z | z
    ·exact nown c b hc z
    ·rw[hc]at z;cases z;exact hb rfl
end
structure Un(fs ex:List Addr)(H H':Hp)(h h':yT):Prop where
 keep:∀b o,h.get? b=some o->H b=none->b∉fs->b∉ex->h'.get? b=some o
 slot:∀b o,h.get? b=some o->H b=none->b∈fs->b∉ex->∃sl,h'.get? b=some {o with slots:=sl }
 free:∀b o,h.get? b=some o->H b=none->b∉ex->H' b=none
 there:∀b o,h.get? b=some o->b∉ex->∃o',h'.get? b=some o'
 tups:∀b xs,H b=some (.tup xs)->H' b=some (.tup xs)
 frzs:∀b o u,H b=some (.frz o u)->H' b=some (.frz o u)
 tbls:∀b ps,H b=some (.tbl ps)->∃more,H' b=some (.tbl (ps++more))
section
variable {fs fs' ex ex':List Addr}{H H1 H2:Hp}{h h1 h2 h':yT}{a x e:Addr}{o:HO}
def Un.any(u:Un fs ex H H1 h h1){b:Addr}{ob:YL}(q:h.get? b=some ob)(n:H b=none)(hx:b∉ex):∃sl,h1.get? b=some {ob with slots:=sl }:=by
 by_cases hb:b∈fs
 ·exact u.slot b ob q n hb hx
 ·exact⟨ob.slots,u.keep b ob q n hb hx⟩
def Un.trans(a:Un fs ex H H1 h h1)(b:Un fs ex H1 H2 h1 h2):Un fs ex H H2 h h2 where
 keep:=fun c ob q n hc hx=>b.keep c ob (a.keep c ob q n hc hx) (a.free c ob q n hx) hc hx
 slot:=fun c ob q n hc hx=>by
  obtain⟨sl,e1⟩:=a.slot c ob q n hc hx;obtain⟨sl',e2⟩:=b.slot c _ e1 (a.free c ob q n hx) hc hx;exact⟨sl',e2⟩
 free:=fun c ob q n hx=>by
  obtain⟨o',e1⟩:=a.there c ob q hx;exact b.free c o' e1 (a.free c ob q n hx) hx
 there:=fun c ob q hx=>by
  obtain⟨o',e1⟩:=a.there c ob q hx;exact b.there c o' e1 hx
 tups:=fun c xs q=>b.tups c xs (a.tups c xs q)
 frzs:=fun c ob xs q=>b.frzs c ob xs (a.frzs c ob xs q)
 tbls:=fun c ps q=>by
  obtain⟨m1,e1⟩:=a.tbls c ps q;obtain⟨m2,e2⟩:=b.tbls c _ e1;exact⟨m1++m2,by rw[e2,Array.append_assoc]⟩
def Un.kept(k:∀b u,h.get? b=some u->h'.get? b=some u):Un fs ex H H h h' :=
 ⟨fun b ob q _ _ _=>k b ob q,fun b ob q _ _ _=>⟨ob.slots,k b ob q⟩,fun _ _ _ n _=>n,fun b ob q _=>⟨ob,k b ob q⟩,fun _ _ q=>q,fun _ _ _ q=>q,fun _ ps q=>⟨#[],by rw[q];simp⟩⟩
def Un.refl:Un fs ex H H h h:=Un.kept fun _ _ q=>q
def Un.laid(k:∀b u,h.get? b=some u->h'.get? b=some u)(hp:h.objs.size<=a)(hn:H a=none):Un fs ex H (upd H a o) h h' where
 keep:=fun b u q _ _ _=>k b u q
 slot:=fun b u q _ _ _=>⟨u.slots,k b u q⟩
 free:=fun b u q n _=>by rw[zK (yw (yq (yi q) hp))];exact n
 there:=fun b u q _=>⟨u,k b u q⟩
 tups:=fun b xs q=>by rw[zK (zI q hn)];exact q
 frzs:=fun b u xs q=>by rw[zK (zI q hn)];exact q
 tbls:=fun b ps q=>⟨#[],by rw[zK (zI q hn),q];simp⟩
def Un.write(mu:Mut (H x))(he:e=x\/H e=some (.own x))(k:∀b u,b≠e->h.get? b=some u->h'.get? b=some u)(heo:∃u,h'.get? e=some u):Un fs ex H (upd H x o) h h':=by
 have hx:∀b,H b=none->b≠x:=fun b n z=>by subst z;rw[n]at mu;exact mu
 have hb:∀b,H b=none->b≠e:=fun b n z=>by
  subst z;rcases he with r | r
  ·exact hx b n r
  ·rw[n]at r;cases r
 have hm:∀b u,H b=some u->¬Mut (some u)->b≠x:=fun b u q nm z=>by subst z;rw[q]at mu;exact nm mu
 refine⟨fun b u q n _ _=>k b u (hb b n) q,fun b u q n _ _=>⟨u.slots,k b u (hb b n) q⟩,fun b u q n _=>by rw[zK (hx b n)];exact n,fun b u q _=>?_,
  fun b xs q=>by rw[zK (hm b _ q fun z=>z)];exact q,fun b u xs q=>by rw[zK (hm b _ q fun z=>z)];exact q,fun b ps q=>⟨#[],by rw[zK (hm b _ q fun z=>z),q];simp⟩⟩
 by_cases hbe:b=e
 ·subst hbe;exact heo
 ·exact⟨u,k b u hbe q⟩
end
def trk(h:yT)(H:Hp):List Addr:=(yA h.objs.size).filter fun a=>(H a).isSome
def z0t(h:yT)(H:Hp):yT:=W.hideAll h (trk h H)
def zVr(h:yT)(H:Hp):(z0t h H).objs.size=h.objs.size:=W.hideAll_size _ _
def zmu{h:yT}{H:Hp}{b:Addr}{o:YL}(e:h.get? b=some o)(n:H b=none):(z0t h H).get? b=some o :=
 W.hideAll_get _ e fun hm=>by
  have q:(H b).isSome=true:=(List.mem_filter.mp hm).2;rw[n]at q;simp at q
def zrw{h:yT}{H:Hp}{b:Addr}{o:YL}(e:(z0t h H).get? b=some o):h.get? b=some o/\H b=none:=by
 have e':h.get? b=some o:=W.of_hideAll (trk h H) e;refine⟨e',?_⟩
 cases q:H b with
 |none=>rfl
 |some x=>
  have hm:b∈trk h H:=List.mem_filter.mpr ⟨List.mem_range.mpr (yi e'),by simp[q]⟩;have z:(z0t h H).get? b=none:=W.hideAll_none (trk h H) hm;rw[z]at e;cases e
def zTv(g h:yT)(L:Addr):List (Addr×YL):=(yA h.objs.size).filterMap fun a=>if a=L\/(g.get? a).isSome=true then none else(h.get? a).map fun o=>(a,o)
def rest(g h:yT)(L d:Addr):List (Addr×YL):=(zTv g h L).filter fun p=>decide (p.1≠d)
structure Mod(K:yr)(mg:Str->Option Value)(base:yT):Prop where
 kin:K.In base
 glob:base.Ns yj mg
 blt:∃mb,base.Ns builtinsNs mb/\∀x:Str,x≠"__name__"->mb x=yK x
 nolimit:base.NoLimit
structure Cx where
 prog:yv
 w:yE
 K:yr
 mg:Str->Option Value
 base:yT
 A:yH
 N:List Str
 s₀:yc
 H₀:Hp
 env:Env
 outer:List Env
 stack:List Env
 ex:List Addr
 fn:Str->Bool
 calm:Bool
 pn:List (Addr×YL)
 xe:Value->yc->Prop
def frs(l:List Env):List Addr:=l.filterMap (·.frame)
abbrev Cx.fs(X:Cx):List Addr:=frs X.outer
def Vis(sc:Xa)(x:Str):Prop:=sc.names.lookup x=some .local\/sc.names.lookup x=some .cell\/sc.names.lookup x=some .free
def Loc(sc:Xa)(x:Str):Prop:=sc.names.lookup x=some .local\/sc.names.lookup x=some .cell
def znA(env:Env)(h:yT)(m:Str->Option Value)(x:Str)(u:Value):Prop :=
 (env.kindOf x=some .local/\m x=some u)\/((env.kindOf x=some .cell\/env.kindOf x=some .free)/\∃c,env.cells.lookup x=some c/\h.IsCell c (some u))
structure Cx.Ok(X:Cx):Prop where
 mod:Mod X.K X.mg X.base
 kind:X.env.scope.kind = .function
 glob:X.env.globals=yj
 blt:X.env.builtins=builtinsNs
 above:X.s₀.heap.objs.size<=X.env.locals
 inj:∀x y c,X.env.cells.lookup x=some c->X.env.cells.lookup y=some c->x=y
 has:∀x,(X.env.kindOf x=some .cell\/X.env.kindOf x=some .free)->∃c,X.env.cells.lookup x=some c
 cab:∀x c,X.fn x=true->X.env.cells.lookup x=some c->X.s₀.heap.objs.size<=c
 hd:X.calm=true->X.A.handled=none
 frames:X.A.frames=some X.stack
 stk:X.stack=X.outer\/(X.stack=X.env::X.outer/\X.env.frame=some X.env.locals)
 exf:∀b∈X.ex,b≠X.env.locals/\∀x c,X.env.cells.lookup x=some c->c≠b
 bs:∀b o,X.base.get? b=some o->X.s₀.heap.get? b=some o/\X.H₀ b=none
 bsz:X.base.objs.size<=X.s₀.heap.objs.size
 noex:∀b o,X.base.get? b=some o->b∉X.ex
 exfs:∀b∈X.ex,b∉X.fs
 funs:X.s₀.heap.FunFrames X.base X.outer
 frf:∀b∈X.fs,X.H₀ b=none
structure Inv(X:Cx)(pins:List (Addr×YL))(σ:List (Option V))(H:Hp)(s:yc):Prop where
 ok:X.Ok
 os:s.os=X.s₀.os
 bare:AllBare s.gens
 base:Un X.fs X.ex X.H₀ H X.s₀.heap s.heap
 loc:∃m,s.heap.Ns X.env.locals m/\∀(i:Nat)(x:Str)(v:V),X.N[i]?=some x->σ[i]?=some (some v)->Vis X.env.scope x->∃u,RelV v u/\znA X.env s.heap m x u
 cell:∀x c,X.env.cells.lookup x=some c->∃v,s.heap.IsCell c v
 free:H X.env.locals=none
 freeC:∀x c,X.env.cells.lookup x=some c->H c=none
 pin:∀p∈X.pn++pins,s.heap.get? p.1=some p.2/\H p.1=none/\p.1≠X.env.locals/\p.1∉X.fs/\∀v,p.2.data≠.cell v
 hok:HOk X.prog X.w H s.heap
 len:σ.length=X.N.length
section
variable {X:Cx}{pins:List (Addr×YL)}{σ:List (Option V)}{H H':Hp}{s:yc}{h':yT}
def Cx.Ok.nofr(ok:X.Ok){b:Addr}{o:YL}(e:X.base.get? b=some o):b∉X.fs:=fun hb=>by
 have:=(ok.funs.mem hb).1;rw[e]at this;cases this
def Inv.bs(I:Inv X pins σ H s):∀b o,X.base.get? b=some o->s.heap.get? b=some o/\H b=none:=fun b o e=>
 ⟨I.base.keep b o (I.ok.bs b o e).1 (I.ok.bs b o e).2 (I.ok.nofr e) (I.ok.noex b o e),I.base.free b o (I.ok.bs b o e).1 (I.ok.bs b o e).2 (I.ok.noex b o e)⟩
def Inv.bk(I:Inv X pins σ H s):∀b o,X.base.get? b=some o->s.heap.get? b=some o:=fun b o e=>(I.bs b o e).1
def Inv.mod(I:Inv X pins σ H s):Mod X.K X.mg X.base:=I.ok.mod
def Inv.kIn(I:Inv X pins σ H s):X.K.In s.heap:=I.ok.mod.kin.keeps I.bk
def Inv.fr(I:Inv X pins σ H s):∃m,Fr X.base X.env.locals s.heap m :=
 let ⟨m,hn,_⟩:=I.loc
 ⟨m,hn,I.bk,yy I.ok.bsz I.ok.above⟩
def Inv.lt(I:Inv X pins σ H s):X.env.locals<s.heap.objs.size:=let ⟨_,hn,_⟩:=I.loc;hn.lt
def Inv.sz(I:Inv X pins σ H s):X.s₀.heap.objs.size<=s.heap.objs.size:=yy I.ok.above (YH I.lt)
def Inv.nofs(I:Inv X pins σ H s){a:Addr}(h:s.heap.objs.size<=a):a∉X.fs:=fun hb=>by
 obtain⟨_,o,ho,_⟩:=I.ok.funs.mem hb;exact absurd (yq (yi ho) (yy I.sz h)) (yS _)
def Inv.cne(I:Inv X pins σ H s):∀x c,X.env.cells.lookup x=some c->c≠X.env.locals:=fun x c e z=>by
 obtain⟨v,o,ho,hd⟩:=I.cell x c e;obtain⟨m,⟨o',es,ep,ho',hd',_⟩,_⟩:=I.loc;rw[z,ho']at ho;cases ho;rw[hd']at hd;cases hd
def Inv.funs(I:Inv X pins σ H s):s.heap.FunFrames X.base X.outer:=by
 have all:∀(l:List Env),(∀b∈frs l,b∈X.fs)->X.s₀.heap.FunFrames X.base l->s.heap.FunFrames X.base l:=by
  intro l
  induction l with
  |nil=>intro _ _;trivial
  |cons env r ih=>
   intro hs hl;obtain⟨hk,⟨L,o,hf,hn,ho,hd⟩,hr⟩:=hl;have hL:L∈X.fs:=hs L (by unfold frs;rw[filterMap_cons,hf];exact mem_cons_self);obtain⟨sl,e⟩:=I.base.slot L o ho (I.ok.frf L hL) hL fun z=>I.ok.exfs L z hL;exact⟨hk,⟨L,_,hf,hn,e,hd⟩,ih (fun b hb=>hs b (by unfold frs;rw[filterMap_cons,hf];exact mem_cons_of_mem _ hb)) hr⟩
 exact all X.outer (fun _ hb=>hb) I.ok.funs
def Inv.stack(I:Inv X pins σ H s):s.heap.FunFrames X.base X.stack:=by
 rcases I.ok.stk with e | ⟨e,hf⟩
 ·rw[e];exact I.funs
 ·rw[e];obtain⟨m,hn,_⟩:=I.loc;refine .cons (by rw[I.ok.kind];decide) hf hn ?_ I.funs;exact Heap.get?_none_of_le (yy I.ok.bsz I.ok.above)
def Inv.stkSub(I:Inv X pins σ H s):∀b∈frs X.stack,b∈X.env.locals::X.fs:=fun b hb=>by
 rcases I.ok.stk with e | ⟨e,hf⟩
 ·rw[e]at hb;exact mem_cons_of_mem _ hb
 ·rw[e]at hb;unfold frs at hb;rw[filterMap_cons,hf]at hb;exact hb
def Inv.stkFree(I:Inv X pins σ H s):∀b∈frs X.stack,H b=none:=fun b hb=>by
 rcases List.mem_cons.mp (I.stkSub b hb) with e | hb
 ·rw[e];exact I.free
 ·obtain⟨_,o,ho,_⟩:=I.ok.funs.mem hb;exact I.base.free b o ho (I.ok.frf b hb) fun z=>I.ok.exfs b z hb
def Inv.step{g':Array GenState}{t':Nat}{d':Drawn}{ch:List Addr}(I:Inv X pins σ H s)
 (hch:∀b∈ch,(b∈X.ex\/X.s₀.heap.objs.size<=b)/\b≠X.env.locals/\(∀x c,X.env.cells.lookup x=some c->c≠b)/\∀p∈X.pn++pins,p.1≠b)
 (keep:∀b o,b≠X.env.locals->b∉X.fs->b∉ch->s.heap.get? b=some o->H b=none->h'.get? b=some o)
 (slot:∀b o,b≠X.env.locals->b∈X.fs->b∉ch->s.heap.get? b=some o->H b=none->∃sl,h'.get? b=some {o with slots:=sl }) (free:∀b o,b∉ch->s.heap.get? b=some o->H b=none->H' b=none)
 (there:∀b o,b∉ch->s.heap.get? b=some o->∃o',h'.get? b=some o')
 (tups:∀b xs,H b=some (.tup xs)->H' b=some (.tup xs)) (frzs:∀b o u,H b=some (.frz o u)->H' b=some (.frz o u)) (tbls:∀b ps,H b=some (.tbl ps)->∃more,H' b=some (.tbl (ps++more)))
 (ns:∀m,s.heap.Ns X.env.locals m->h'.Ns X.env.locals m) (hok:HOk X.prog X.w H' h') (hg:AllBare g') :
 Inv X pins σ H' {s with heap:=h',gens:=g',drawn:=d',toks:=t' }:=by
 have neL:∀b o,X.s₀.heap.get? b=some o->b≠X.env.locals:=fun b o e=>yw (yq (yi e) I.ok.above)
 have neC:∀b o,X.s₀.heap.get? b=some o->b∉X.ex->b∉ch:=fun b o e hx hb=>by
  rcases(hch b hb).1 with z | z
  ·exact hx z
  ·exact absurd (yq (yi e) z) (yS _)
 have cellK:∀x c,X.env.cells.lookup x=some c->∀v,s.heap.IsCell c v->h'.IsCell c v:=fun x c e v ⟨o,ho,hd⟩=>by
  have nch:c∉ch:=fun z=>(hch c z).2.2.1 x c e rfl
  by_cases hc:c∈X.fs
  ·obtain⟨sl,q⟩:=slot c o (I.cne x c e) hc nch ho (I.freeC x c e);exact⟨_,q,hd⟩
  ·exact⟨o,keep c o (I.cne x c e) hc nch ho (I.freeC x c e),hd⟩
 refine⟨I.ok,I.os,hg,⟨fun b o e n hb hx=>?_,fun b o e n hb hx=>?_,fun b o e n hx=>?_,fun b o e hx=>?_,fun b xs e=>tups b xs (I.base.tups b xs e),fun b o xs e=>frzs b o xs (I.base.frzs b o xs e),fun b ps e=>?_⟩,?_,fun x c e=>?_,?_,fun x c e=>?_,fun p hp=>?_,hok,I.len⟩
 ·exact keep b o (neL b o e) hb (neC b o e hx) (I.base.keep b o e n hb hx) (I.base.free b o e n hx)
 ·obtain⟨sl,e1⟩:=I.base.slot b o e n hb hx;obtain⟨sl',e2⟩:=slot b _ (neL b o e) hb (neC b o e hx) e1 (I.base.free b o e n hx);exact⟨sl',e2⟩
 ·obtain⟨o',e1⟩:=I.base.there b o e hx;exact free b o' (neC b o e hx) e1 (I.base.free b o e n hx)
 ·obtain⟨o',e1⟩:=I.base.there b o e hx;exact there b o' (neC b o e hx) e1
 ·obtain⟨m1,e1⟩:=I.base.tbls b ps e;obtain⟨m2,e2⟩:=tbls b _ e1;exact⟨m1++m2,by rw[e2,Array.append_assoc]⟩
 ·obtain⟨m,hn,hl⟩:=I.loc;refine⟨m,ns m hn,fun i x v e1 e2 e3=>?_⟩;obtain⟨u,r,l⟩:=hl i x v e1 e2 e3;refine⟨u,r,?_⟩;rcases l with l | ⟨k,c,e,z⟩
  ·exact .inl l
  ·exact .inr ⟨k,c,e,cellK x c e _ z⟩
 ·obtain⟨v,z⟩:=I.cell x c e;exact⟨v,cellK x c e v z⟩
 ·obtain⟨m,⟨o,_,_,ho,_⟩,_⟩:=I.loc;exact free _ o (fun z=>(hch _ z).2.1 rfl) ho I.free
 ·obtain⟨v,o,ho,hd⟩:=I.cell x c e;exact free c o (fun z=>(hch c z).2.2.1 x c e rfl) ho (I.freeC x c e)
 ·obtain⟨e,n,ne,nf,d⟩:=I.pin p hp;have nch:p.1∉ch:=fun z=>(hch p.1 z).2.2.2 p hp rfl;exact⟨keep p.1 p.2 ne nf nch e n,free p.1 p.2 nch e n,ne,nf,d⟩
def Inv.un{t':Nat}(I:Inv X pins σ H s)(u:Un X.fs [] H H' s.heap h')(hok:HOk X.prog X.w H' h'):Inv X pins σ H' {s with heap:=h',toks:=t' }:=by
 obtain⟨m,⟨o,es,ep,ho,r⟩,_⟩:=id I.loc;obtain⟨sl,hL⟩:=u.any ho I.free (by simp)
 exact I.step (g':=s.gens) (d':=s.drawn) (ch:=[]) (fun _ z=>nomatch z) (fun b o _ hb _ e n=>u.keep b o e n hb (by simp)) (fun b o _ hb _ e n=>u.slot b o e n hb (by simp)) (fun b o _ e n=>u.free b o e n (by simp)) (fun b o _ e=>u.there b o e (by simp)) u.tups u.frzs u.tbls (fun m' hm=>by
  obtain⟨o',es',ep',ho',r'⟩:=hm;rw[ho]at ho';cases ho';exact⟨_,es',ep',hL,r'⟩) hok I.bare
def Inv.call{g':Array GenState}{t':Nat}{d':Drawn}{ch:List Addr}(I:Inv X pins σ H s)(u:Un (frs X.stack) ch H H' s.heap h')(hok:HOk X.prog X.w H' h')(hg:AllBare g')
 (hch:∀b∈ch,(b∈X.ex\/X.s₀.heap.objs.size<=b)/\b≠X.env.locals/\(∀x c,X.env.cells.lookup x=some c->c≠b)/\∀p∈X.pn++pins,p.1≠b) :
 Inv X pins σ H' {s with heap:=h',gens:=g',drawn:=d',toks:=t' }:=by
 obtain⟨m,⟨o,es,ep,ho,r⟩,_⟩:=id I.loc;obtain⟨sl,hL⟩:=u.any ho I.free fun z=>(hch _ z).2.1 rfl
 exact I.step (ch:=ch) hch (fun b o hL hb hc e n=>u.keep b o e n (fun z=>(List.mem_cons.mp (I.stkSub b z)).elim hL hb) hc) (fun b o _ _ hc e n=>u.any e n hc) (fun b o hc e n=>u.free b o e n hc) (fun b o hc e=>u.there b o e hc) u.tups u.frzs u.tbls (fun m' hm=>by
  obtain⟨o',es',ep',ho',r'⟩:=hm;rw[ho]at ho';cases ho';exact⟨_,es',ep',hL,r'⟩) hok hg
def Inv.turned{t':Nat}{it:Addr}(I:Inv X pins σ H s)(k:∀b o,b≠it->s.heap.get? b=some o->h'.get? b=some o)(hn:H it=none)(hL:it≠X.env.locals)
 (h1:it∈X.ex\/X.s₀.heap.objs.size<=it) (h2:∀x c,X.env.cells.lookup x=some c->c≠it) (h3:∀p∈X.pn++pins,p.1≠it):Inv X pins σ H {s with heap:=h',toks:=t' }:=by
 have nit:∀b u,H b=some u->b≠it:=fun b u e z=>by rw[z,hn]at e;cases e
 refine I.step (g':=s.gens) (d':=s.drawn) (ch:=[it]) (fun b hb=>?_) (fun b o _ _ hc e _=>k b o (fun z=>hc (by simp[z])) e) (fun b o _ _ hc e _=>⟨o.slots,k b o (fun z=>hc (by simp[z])) e⟩) (fun _ _ _ _ n=>n)
  (fun b o hc e=>⟨o,k b o (fun z=>hc (by simp[z])) e⟩) (fun _ _ e=>e) (fun _ _ _ e=>e) (fun b ps e=>⟨#[],by rw[e];simp⟩) (fun m hm=>?_) (fun b u e=>?_) I.bare
 ·have e:b=it:=by simpa using hb
  subst e;exact⟨h1,hL,h2,h3⟩
 ·obtain⟨o,es,ep,ho,r⟩:=hm;exact⟨o,es,ep,k _ o (yF hL) ho,r⟩
 ·refine(I.hok b u e).stay (fun c v hc q=>k c v ?_ q) (fun _ q=>q) fun _ _ q=>q;rcases hc with z | z
  ·rw[z];exact nit b u e
  ·exact nit c _ z
def Inv.tok(I:Inv X pins σ H s)(t:Nat):Inv X pins σ H {s with toks:=t }:=I.un (h':=s.heap) (t':=t) Un.refl I.hok
def Inv.kept{t':Nat}(I:Inv X pins σ H s)(k:∀b u,s.heap.get? b=some u->h'.get? b=some u):Inv X pins σ H {s with heap:=h',toks:=t' }:=I.un (Un.kept k) (I.hok.kept k)
def Inv.laid{a:Addr}{o:HO}{t':Nat}(I:Inv X pins σ H s)(k:∀b u,s.heap.get? b=some u->h'.get? b=some u)(hp:s.heap.objs.size<=a)(new:ObjOk X.prog X.w (upd H a o) h' a o) :
 Inv X pins σ (upd H a o) {s with heap:=h',toks:=t' }:=I.un (Un.laid k hp (I.hok.fresh hp)) (I.hok.laid k hp new)
def Inv.write{x e:Addr}{o:HO}{t':Nat}(I:Inv X pins σ H s)(mu:Mut (H x))(he:e=x\/H e=some (.own x))(k:∀b u,b≠e->s.heap.get? b=some u->h'.get? b=some u)(heo:∃u,h'.get? e=some u)
 (new:ObjOk X.prog X.w (upd H x o) h' x o):Inv X pins σ (upd H x o) {s with heap:=h',toks:=t' }:=I.un (Un.write mu he k heo) (I.hok.write mu he k heo new)
def Inv.weak{σ':List (Option V)}(I:Inv X pins σ H s)(hl:σ'.length=σ.length)(w:∀(i:Nat) v,σ'[i]?=some (some v)->σ[i]?=some (some v)):Inv X pins σ' H s :=
 ⟨I.ok,I.os,I.bare,I.base,let ⟨m,hn,hl'⟩:=I.loc;⟨m,hn,fun i x v e1 e2 e3=>hl' i x v e1 (w i v e2) e3⟩,I.cell,I.free,I.freeC,I.pin,I.hok,hl.trans I.len⟩
def Inv.pins_of{pins':List (Addr×YL)}(I:Inv X pins σ H s)(h:∀p∈pins',s.heap.get? p.1=some p.2/\H p.1=none/\p.1≠X.env.locals/\p.1∉X.fs/\∀v,p.2.data≠.cell v):Inv X pins' σ H s :=
 ⟨I.ok,I.os,I.bare,I.base,I.loc,I.cell,I.free,I.freeC,fun p hp=>(List.mem_append.mp hp).elim (fun z=>I.pin p (mem_append_left _ z)) (h p),I.hok,I.len⟩
def zHm{N:List Str}(hN:N.Nodup){i j:Nat}{x:Str}(a:N[i]?=some x)(b:N[j]?=some x):i=j:=by
 obtain⟨h1,e1⟩:=List.getElem?_eq_some_iff.mp a;obtain⟨h2,e2⟩:=List.getElem?_eq_some_iff.mp b;exact(List.getElem_inj hN).mp (e1.trans e2.symm)
def zGn{M:Model}{A:yH}{E:Value->yc->Prop}{i:Nat}{x:Str}{v:V}{u:Value}{Q:Unit->yc->Prop}(I:Inv X pins σ H s)(hN:X.N.Nodup)(hi:X.N[i]?=some x)(hx:Loc X.env.scope x)(r:RelV v u)
 (h:∀s',Inv X pins (σ.set i (some v)) H s'->(∃a,Yj a s.heap s'.heap/\(a=X.env.locals\/X.env.cells.lookup x=some a))->Q () s') (hf:X.fn x=true\/X.env.scope.names.lookup x=some .local:=by first | exact .inl rfl | exact .inr rfl | assumption):yk M A (storeName X.env x u) Q E s:=by
 obtain⟨m,hn,hl⟩:=id I.loc;have hcls:(X.env.scope.kind == .class||(X.env.scope.kind == .module&&X.env.locals != X.env.globals))=false:=by rw[I.ok.kind];rfl
 have hiσ:i<σ.length:=by rw[I.len];exact(List.getElem?_eq_some_iff.mp hi).1
 have cne:=I.cne
 have tracked:∀{a:Addr} {h':yT},(∃o,s.heap.get? a=some o/\H a=none)->Yj a s.heap h'->HOk X.prog X.w H h':=fun{a h'} ha hs b ob e=>by
  obtain⟨_,_,hfree⟩:=ha;refine(I.hok b ob e).stay (fun c w' hc q=>(hs.2 c ?_).trans q) (fun _ q=>q) fun _ _ q=>q;rintro rfl;rcases hc with rfl | hc
  ·rw[hfree]at e;cases e
  ·rw[hfree]at hc;cases hc
 rcases hx with hk | hk
 ·refine wpAny_storeName_local hk hn (fun h' hn' hs=>?_) hcls;obtain⟨oL,_,_,hoL,_⟩:=id hn;refine h _ ⟨I.ok,I.os,I.bare,⟨fun b o e n hb hx=>?_,fun b o e n hb hx=>?_,I.base.free,fun b o e hx=>?_,I.base.tups,I.base.frzs,I.base.tbls⟩,⟨_,hn',fun j y v' e1 e2 e3=>?_⟩,fun y c e=>?_,I.free,I.freeC,fun p hp=>?_,tracked ⟨oL,hoL,I.free⟩ hs,by simpa using I.len⟩ ⟨_,hs, .inl rfl⟩
  ·exact(hs.2 b (yw (yq (yi e) I.ok.above))).trans (I.base.keep b o e n hb hx)
  ·obtain⟨sl,e1⟩:=I.base.slot b o e n hb hx;exact⟨sl,(hs.2 b (yw (yq (yi e) I.ok.above))).trans e1⟩
  ·obtain⟨o',e1⟩:=I.base.there b o e hx;exact⟨o',(hs.2 b (yw (yq (yi e) I.ok.above))).trans e1⟩
  ·by_cases hj:j=i
   ·subst hj;rw[hi]at e1;cases e1;rw[yU hiσ]at e2;cases e2;exact⟨u,r, .inl ⟨hk,by simp⟩⟩
   ·rw[yR (yF hj)]at e2;obtain⟨u',r',q⟩:=hl j y v' e1 e2 e3;refine⟨u',r',?_⟩;rcases q with ⟨k,e⟩ | ⟨k,c,e,z⟩
    ·refine .inl ⟨k,?_⟩;have:y≠x:=fun e=>hj (zHm hN e1 (e▸hi));simp[this,e]
    ·exact .inr ⟨k,c,e,z.sameBut hs (cne y c e)⟩
  ·obtain⟨w',z⟩:=I.cell y c e;exact⟨w',z.sameBut hs (cne y c e)⟩
  ·obtain⟨e,n,ne,nf,d⟩:=I.pin p hp;exact⟨(hs.2 p.1 ne).trans e,n,ne,nf,d⟩
 ·have hfn:X.fn x=true:=by
   rcases hf with z | z
   ·exact z
   ·rw[z]at hk;cases hk
  obtain⟨c,hc⟩:=I.ok.has x (.inl hk);obtain⟨w',z⟩:=I.cell x c hc;refine wpAny_storeName_cell I.ok.kind hk hc z (fun h' hc' hs=>?_);obtain⟨oc,hoc,hocd⟩:=id z;refine h {s with heap:=h' } ⟨I.ok,I.os,I.bare,⟨fun b o e n hb hx=>?_,fun b o e n hb hx=>?_,I.base.free,fun b o e hx=>?_,I.base.tups,I.base.frzs,I.base.tbls⟩,⟨m,hn.sameBut hs (yF (cne x c hc)),fun j y v' e1 e2 e3=>?_⟩,fun y c' e=>?_,I.free,I.freeC,fun p hp=>?_,tracked ⟨oc,hoc,I.freeC x c hc⟩ hs,by simpa using I.len⟩ ⟨c,hs, .inr hc⟩
  ·exact(hs.2 b (yw (yq (yi e) (I.ok.cab x c hfn hc)))).trans (I.base.keep b o e n hb hx)
  ·obtain⟨sl,e1⟩:=I.base.slot b o e n hb hx;exact⟨sl,(hs.2 b (yw (yq (yi e) (I.ok.cab x c hfn hc)))).trans e1⟩
  ·obtain⟨o',e1⟩:=I.base.there b o e hx;exact⟨o',(hs.2 b (yw (yq (yi e) (I.ok.cab x c hfn hc)))).trans e1⟩
  ·by_cases hj:j=i
   ·subst hj;rw[hi]at e1;cases e1;rw[yU hiσ]at e2;cases e2;exact⟨u,r, .inr ⟨.inl hk,c,hc,hc'⟩⟩
   ·rw[yR (yF hj)]at e2;obtain⟨u',r',q⟩:=hl j y v' e1 e2 e3;refine⟨u',r',?_⟩;rcases q with q | ⟨k,c',e,z'⟩
    ·exact .inl q
    ·refine .inr ⟨k,c',e,z'.sameBut hs ?_⟩;rintro rfl;exact hj (zHm hN e1 (I.ok.inj _ _ _ e hc▸hi))
  ·by_cases hcc:c'=c
   ·subst hcc;exact⟨_,hc'⟩
   ·obtain⟨w2,z2⟩:=I.cell y c' e;exact⟨w2,z2.sameBut hs hcc⟩
  ·obtain⟨e,n,ne,nf,d⟩:=I.pin p hp;refine⟨(hs.2 p.1 ?_).trans e,n,ne,nf,d⟩;intro q;rw[q,hoc]at e;have q':oc=p.2:=Ye e;exact d w' (by rw[<-q'];exact hocd)
def zKh{M:Model}{A:yH}{E:Value->yc->Prop}{i:Nat}{x:Str}{v:V}{u:Value}{Q:Unit->yc->Prop}(I:Inv X pins σ H s)(hN:X.N.Nodup)(hi:X.N[i]?=some x)(hx:Loc X.env.scope x)(r:RelV v u)
 (h:∀s',Inv X pins (σ.set i (some v)) H s'->Q () s') (hf:X.fn x=true\/X.env.scope.names.lookup x=some .local:=by first | exact .inl rfl | exact .inr rfl | assumption):yk M A (storeName X.env x u) Q E s :=
 zGn I hN hi hx r (fun s' I' _=>h s' I') hf
def Inv.call'{s':yc}{ch:List Addr}(I:Inv X pins σ H s)(ho:s'.os=s.os)(u:Un (frs X.stack) ch H H' s.heap s'.heap)(hok:HOk X.prog X.w H' s'.heap)(hg:AllBare s'.gens)
 (hch:∀b∈ch,(b∈X.ex\/X.s₀.heap.objs.size<=b)/\b≠X.env.locals/\(∀x c,X.env.cells.lookup x=some c->c≠b)/\∀p∈X.pn++pins,p.1≠b):Inv X pins σ H' s':=by
 obtain⟨h',g',d',t',o'⟩:=s';have e:o'=s.os:=ho;subst e;exact I.call (g':=g') (t':=t') (d':=d') u hok hg hch
end
abbrev XK:=Value->Option Addr->Hp->Prop
abbrev St:=List (Option V)
abbrev VK:=V->Hp->Prop
abbrev TE:=St->Hp->VK->Prop
abbrev TT:=St->Hp->(Bool->Hp->Prop)->Prop
abbrev TA:=St->Hp->(List V->Hp->Prop)->Prop
structure Ends where
 nx:St->Hp->Prop
 rt:VK
 bk:St->Hp->Prop:=fun _ _=>False
 ct:St->Hp->Prop:=fun _ _=>False
abbrev TS:=Ends->St->Hp->Prop
def EP(X:Cx)(pins:List (Addr×YL))(σ:St)(Q:VK)(u:Value)(s':yc):Prop:=∃v H',Inv X pins σ H' s'/\RelV v u/\Q v H'
def TP(X:Cx)(pins:List (Addr×YL))(σ:St)(Q:Bool->Hp->Prop)(b:Bool)(s':yc):Prop:=∃H',Inv X pins σ H' s'/\Q b H'
def AP(X:Cx)(pins:List (Addr×YL))(σ:St)(Q:List V->Hp->Prop)(us:List Value)(s':yc):Prop:=∃vs H',Inv X pins σ H' s'/\Vals vs us/\Q vs H'
def SP(X:Cx)(pins:List (Addr×YL))(D:Ends)(f:Flow)(s':yc):Prop :=
 match f with
 |.next=>∃σ' H',Inv X pins σ' H' s'/\D.nx σ' H'
 |.brk=>∃σ' H',Inv X pins σ' H' s'/\D.bk σ' H'
 |.cont=>∃σ' H',Inv X pins σ' H' s'/\D.ct σ' H'
 |.ret u=>∃v σ' H',Inv X pins σ' H' s'/\RelV v u/\D.rt v H'
def PE(X:Cx)(e:Expr)(t:TE):Prop :=
 ∀(pins:List (Addr×YL)) (s:yc) (σ:St) (H:Hp) (Q:VK),Inv X pins σ H s->t σ H Q->yk (yp X.prog X.w) X.A (yY e X.env) (EP X pins σ Q) X.xe s
def PT(X:Cx)(e:Expr)(t:TT):Prop :=
 ∀(pins:List (Addr×YL)) (s:yc) (σ:St) (H:Hp) (Q:Bool->Hp->Prop),Inv X pins σ H s->t σ H Q->yk (yp X.prog X.w) X.A (isTrue e X.env (yY e X.env)) (TP X pins σ Q) X.xe s
def PW(X:Cx)(e:Expr)(t:TT):Prop :=
 ∀(whole:Sem Value)(pins:List (Addr×YL)) (s:yc) (σ:St) (H:Hp) (Q:Bool->Hp->Prop),Inv X pins σ H s->t σ H Q->yk (yp X.prog X.w) X.A (isTrue e X.env whole) (TP X pins σ Q) X.xe s
def PA(X:Cx)(es:List Expr)(t:TA):Prop :=
 ∀(pos:xi)(pins:List (Addr×YL)) (s:yc) (σ:St) (H:Hp) (Q:List V->Hp->Prop),Inv X pins σ H s->t σ H Q->yk (yp X.prog X.w) X.A (spliced (Yh pos (yg es X.env))) (AP X pins σ Q) X.xe s
def PS(X:Cx)(st:Stmt)(t:TS):Prop :=
 ∀(pins:List (Addr×YL)) (s:yc) (σ:St) (H:Hp) (D:Ends),Inv X pins σ H s->t D σ H->yk (yp X.prog X.w) X.A (exec st X.env) (SP X pins D) X.xe s
def PSs(X:Cx)(st:List Stmt)(t:TS):Prop :=
 ∀(pins:List (Addr×YL)) (s:yc) (σ:St) (H:Hp) (D:Ends),Inv X pins σ H s->t D σ H->yk (yp X.prog X.w) X.A (execs st X.env) (SP X pins D) X.xe s
def thn{α:Type}{t:Sem α}{Q Q':α->yc->Prop}{M:Model}{A:yH}{E:Value->yc->Prop}{s:yc}(h:yk M A t Q E s)(hQ:∀a s,Q a s->Q' a s):yk M A t Q' E s:=yP h hQ fun _ _ x=>x
section
variable {X:Cx}
def zsz(i:Nat):TE:=fun σ H Q=>∃v,σ[i]?=some (some v)/\Q v H
def tC(v:V):TE:=fun _ H Q=>Q v H
def z9u{i:Nat}{x:Str}{pos:xi}(hN:X.N[i]?=some x)(hv:Vis X.env.scope x)(hd:(x==("__debug__":Str))=false:=by decide)(hcd:(x==("__classdict__":Str))=false:=by decide):PE X (.Name x pos) (zsz i):=by
 intro pins s σ H Q I h;obtain⟨v,e,h⟩:=h;obtain⟨m,hn,hl⟩:=I.loc;obtain⟨u,r,l⟩:=hl i x v hN e hv;have fin:EP X pins σ Q u s:=⟨v,H,I,r,h⟩
 rcases l with ⟨hk,hm⟩ | ⟨hk,c,hc,hcell⟩
 ·exact wpAny_Name (wpAny_loadName_local I.ok.kind hk hn hm fin) hd
 ·rcases hk with hk | hk
  ·exact wpAny_Name (wpAny_loadName_cell I.ok.kind hk hc hcell fin) hd
  ·exact wpAny_Name (wpAny_loadName_free I.ok.kind hk hc hcell fin hcd) hd
def zny{i j pos}:PE X (.Constant (.int i) j pos) (tC (.int i)):=fun _ _ _ H _ I h=>wpAny_Constant_int ⟨.int i,H,I.tok _,⟨_,rfl⟩,h⟩
def zfz{b j pos}:PE X (.Constant (.bool b) j pos) (tC (.bl b)):=fun _ _ _ H _ I h=>Constant_bool ⟨.bl b,H,I,rfl,h⟩
def zwx{j pos}:PE X (.Constant .none j pos) (tC .non):=fun _ _ _ H _ I h=>Constant_none ⟨.non,H,I,rfl,h⟩
def zRx{x j pos}:PE X (.Constant (.str x) j pos) (tC (.str x)):=fun _ _ _ H _ I h=>Calls.Constant_str ⟨.str x,H,I.tok _,⟨_,rfl⟩,h⟩
def Gl(X:Cx)(x:Str):Prop:=X.env.kindOf x=some .globalImplicit
def zOf{E:Value->yc->Prop}{pins:List (Addr×YL)}{s:yc}{σ:St}{H:Hp}{x:Str}{u:Value}{pos:xi}{Q:Value->yc->Prop}(I:Inv X pins σ H s)(hg:Gl X x)(hm:X.mg x=some u)(h:Q u s)
 (hd:(x==("__debug__":Str))=false:=by decide):yk (yp X.prog X.w) X.A (yY (.Name x pos) X.env) Q E s :=
 Calls.Name_function_global I.ok.kind hg (Calls.loadGlobal_global (by rw[I.ok.glob];exact I.mod.glob.keeps I.bk) hm h) hd
def zOj{E:Value->yc->Prop}{pins:List (Addr×YL)}{s:yc}{σ:St}{H:Hp}{x:Str}{u:Value}{pos:xi}{Q:Value->yc->Prop}(I:Inv X pins σ H s)(hg:Gl X x)(hm:X.mg x=none)(hv:yK x=some u)(h:Q u s)
 (hn:x≠"__name__":=by decide) (hd:(x==("__debug__":Str))=false:=by decide):yk (yp X.prog X.w) X.A (yY (.Name x pos) X.env) Q E s:=by
 obtain⟨mb,h1,h2⟩:=I.mod.blt;exact Calls.Name_function_global I.ok.kind hg (Calls.loadGlobal_builtin (by rw[I.ok.glob];exact I.mod.glob.keeps I.bk) hm (by rw[I.ok.blt];exact h1.keeps I.bk) ((h2 x hn).trans hv) h) hd
def zSv{x:Str}{v:V}{u:Value}{pos:xi}(hg:Gl X x)(hm:X.mg x=some u)(r:RelV v u)(hd:(x==("__debug__":Str))=false:=by decide):PE X (.Name x pos) (tC v) :=
 fun _ _ _ H _ I h=>zOf I hg hm ⟨v,H,I,r,h⟩ hd
def z2v{x:Str}{v:V}{u:Value}{pos:xi}(hg:Gl X x)(hm:X.mg x=none)(hv:yK x=some u)(r:RelV v u)(hn:x≠"__name__":=by decide)(hd:(x==("__debug__":Str))=false:=by decide):PE X (.Name x pos) (tC v) :=
 fun _ _ _ H _ I h=>zOj I hg hm hv ⟨v,H,I,r,h⟩ hn hd
variable {a b:Expr}{ta tb:TE}{pos:xi}
def nobehind(b:Expr){op:CmpOp}(h:op≠.In)(h2:op≠.NotIn):behindInMarks op b=false:=by
 have e1:(op==CmpOp.In)=false:=by cases op<;>first | rfl | exact absurd rfl h
 have e2:(op==CmpOp.NotIn)=false:=by cases op<;>first | rfl | exact absurd rfl h2
 cases b<;>simp[behindInMarks,e1,e2]
def tB(t:TE):TT:=fun σ H Q=>t σ H fun x H1=>∃c,x = .bl c/\Q c H1
def zWx{e:Expr}{t:TE}(h:PE X e t)(he:∀whole,isTrue e X.env whole=(do let v <-whole;standAt e.pos;xy [v] (truthy v)):=by intro _;rfl):PT X e (tB t):=by
 intro pins s σ H Q I hw;refine isTrue_plain (thn (h pins s σ H _ I hw) fun v s1 ⟨x,H1,I1,r1,q1⟩=>?_) (he _);obtain⟨d,rfl,q⟩:=q1;cases r1;exact xz ⟨H1,I1,q⟩
variable {tA tB':TT}{rest:List Expr}
def zCA(t u:TT):TT:=fun σ H Q=>t σ H fun c H1=>if c=true then u σ H1 Q else Q false H1
def tOr(t u:TT):TT:=fun σ H Q=>t σ H fun c H1=>if c=true then Q true H1 else u σ H1 Q
def zsA(t:TT):TT:=fun σ H Q=>t σ H fun c H1=>Q (!c) H1
def zmw(ha:PT X a tA):PW X (.BoolOp .And [a] pos) tA:=by
 intro wh pins s σ H Q I h;refine isTrue_and (thn (ha pins s σ H Q I h) fun c s1 e=>?_)
 cases c with
 |true=>exact isTrue_and_nil e
 |false=>exact e
def zLy(ha:PT X a tA):PW X (.BoolOp .Or [a] pos) tA:=by
 intro wh pins s σ H Q I h;refine isTrue_or (thn (ha pins s σ H Q I h) fun c s1 e=>?_)
 cases c with
 |false=>exact isTrue_or_nil e
 |true=>exact e
def zHy(ha:PT X a tA)(hb:PW X (.BoolOp .And (b::rest) pos) tB'):PW X (.BoolOp .And (a::b::rest) pos) (zCA tA tB'):=by
 intro wh pins s σ H Q I h;refine isTrue_and (thn (ha pins s σ H _ I h) fun c s1 ⟨H1,I1,q1⟩=>?_)
 cases c with
 |true=>exact hb wh pins s1 σ H1 Q I1 q1
 |false=>exact⟨H1,I1,q1⟩
def zLz(ha:PT X a tA)(hb:PW X (.BoolOp .Or (b::rest) pos) tB'):PW X (.BoolOp .Or (a::b::rest) pos) (tOr tA tB'):=by
 intro wh pins s σ H Q I h;refine isTrue_or (thn (ha pins s σ H _ I h) fun c s1 ⟨H1,I1,q1⟩=>?_)
 cases c with
 |true=>exact⟨H1,I1,q1⟩
 |false=>exact hb wh pins s1 σ H1 Q I1 q1
def zqx(ha:PT X a tA):PT X (.UnaryOp .Not a pos) (zsA tA):=by
 intro pins s σ H Q I h;exact isTrue_not (ha pins s σ H (fun c H1=>Q (!c) H1) I h)
def ztz(ta tb:TE):TE:=fun σ H Q=>ta σ H fun x H1=>∃c,x = .bl c/\if c=true then tb σ H1 Q else Q (.bl false) H1
def zxA(ta tb:TE):TE:=fun σ H Q=>ta σ H fun x H1=>∃c,x = .bl c/\if c=true then Q (.bl true) H1 else tb σ H1 Q
def zAz(ta:TE):TE:=fun σ H Q=>ta σ H fun x H1=>∃c,x = .bl c/\Q (.bl (!c)) H1
def zDx{op}{t:TE}(h:PE X a t):PE X (.BoolOp op [a] pos) t:=fun pins s σ H Q I hw=>BoolOp_one (h pins s σ H Q I hw)
def zNy(ha:PE X a ta)(hb:PE X (.BoolOp .And (b::rest) pos) tb):PE X (.BoolOp .And (a::b::rest) pos) (ztz ta tb):=by
 intro pins s σ H Q I h;refine BoolOp_and (thn (ha pins s σ H _ I h) fun v s1 ⟨x,H1,I1,r1,q1⟩=>?_);obtain⟨c,rfl,q1⟩:=q1;cases r1;refine xz ?_
 cases c with
 |true=>exact hb pins s1 σ H1 Q I1 q1
 |false=>exact⟨.bl false,H1,I1,rfl,q1⟩
def z2y(ha:PE X a ta)(hb:PE X (.BoolOp .Or (b::rest) pos) tb):PE X (.BoolOp .Or (a::b::rest) pos) (zxA ta tb):=by
 intro pins s σ H Q I h;refine BoolOp_or (thn (ha pins s σ H _ I h) fun v s1 ⟨x,H1,I1,r1,q1⟩=>?_);obtain⟨c,rfl,q1⟩:=q1;cases r1;refine xz ?_
 cases c with
 |false=>exact hb pins s1 σ H1 Q I1 q1
 |true=>exact⟨.bl true,H1,I1,rfl,q1⟩
def z8w(ha:PE X a ta):PE X (.UnaryOp .Not a pos) (zAz ta):=by
 intro pins s σ H Q I h;refine UnaryOp_ (thn (ha pins s σ H _ I h) fun v s1 ⟨x,H1,I1,r1,q1⟩=>?_);obtain⟨c,rfl,q1⟩:=q1;cases r1;exact not_of (xz ⟨.bl (!c),H1,I1,rfl,q1⟩)
end
def SqL(K:yr)(H:Hp)(a:Addr)(xs:List V):Prop :=
 Rd H a (.lst xs) \/
  ∃(o:YL)(its:Array Value)(n:Nat),K.lookup a=some o/\o.cls = .type "list"/\o.dict=none/\o.data = .seq its n/\its.size<=yB/\Vals xs its.toList
def SqT(K:yr)(H:Hp)(a:Addr)(xs:List V):Prop :=
 Rd H a (.tup xs) \/
  ∃(o:YL)(its:Array Value)(n:Nat),K.lookup a=some o/\o.cls = .type "tuple"/\o.data = .seq its n/\its.size<=yB/\Vals xs its.toList
def zvA:Value->Option V
 |.none=>some .non
 |.bool b=>some (.bl b)
 |.int i _=>some (.int i)
 |.str x _=>some (.str x)
 |.bytes b _=>some (.byt b)
 |.float b _=>some (.flt b)
 |.ref a=>some (.ref a)
 |.type n=>some (.ty n)
 |_=>none
def RelV.abs{x:V}{u:Value}(r:RelV x u):zvA u=some x:=by
 cases x with
 |non=>cases r;rfl
 |bl _=>cases r;rfl
 |int _=>obtain⟨t,rfl⟩:=r;rfl
 |str _=>obtain⟨t,rfl⟩:=r;rfl
 |byt _=>obtain⟨t,rfl⟩:=r;rfl
 |flt _=>obtain⟨t,rfl⟩:=r;rfl
 |ref _=>cases r;rfl
 |ty _=>cases r;rfl
def RelV.inj{x y:V}{u:Value}(r:RelV x u)(q:RelV y u):x=y:=Ye (r.abs.symm.trans q.abs)
def Vals.inj{xs ys:List V}{us:List Value}(h:Vals xs us):Vals ys us->xs=ys:=by
 induction h generalizing ys with
 |nil=>intro h;cases h;rfl
 |cons r _ ih=>
  intro h
  cases h with
  |cons r' t'=>rw[r.inj r',ih t']
section
variable {X:Cx}{pins:List (Addr×YL)}{σ:St}{H:Hp}{s:yc}{a:Addr}{xs ys:List V}
def SqL.of{K:yr}(h:H a=some (.lst xs)):SqL K H a xs := .inl (.inl h)
def SqT.of{K:yr}(h:H a=some (.tup xs)):SqT K H a xs := .inl (.inl h)
def Inv.list(I:Inv X pins σ H s)(h:SqL X.K H a xs):∃its:List Value,Vals xs its/\PlainL s.heap a its.toArray/\xs.length<=yB:=by
 rcases h with h | ⟨o,its,n,hk,hc,hd,hs,hz,r⟩
 ·obtain⟨z,its,n,r,e⟩:=h.ok I.hok;exact⟨its,r,⟨_,n,e,rfl,rfl,rfl⟩,z⟩
 ·refine⟨its.toList,r,⟨o,n,I.kIn a o hk,hc,hd,by simpa using hs⟩,?_⟩;have e:=r.length;simp only[Array.length_toList]at e;omega
def Inv.tuple(I:Inv X pins σ H s)(h:SqT X.K H a xs):∃its:List Value,Vals xs its/\IsTup s.heap a its.toArray/\xs.length<=yB:=by
 rcases h with h | ⟨o,its,n,hk,hc,hs,hz,r⟩
 ·obtain⟨z,its,r,p⟩:=h.ok I.hok;exact⟨its,r,p,z⟩
 ·refine⟨its.toList,r,⟨o,I.kIn a o hk,hc,n,by simpa using hs⟩,?_⟩;have e:=r.length;simp only[Array.length_toList]at e;omega
def Inv.list_inj(I:Inv X pins σ H s)(h:SqL X.K H a xs)(h':SqL X.K H a ys):xs=ys:=by
 obtain⟨its,r,⟨o,n,e,_,_,d⟩,_⟩:=I.list h;obtain⟨its',r',⟨o',n',e',_,_,d'⟩,_⟩:=I.list h';rw[e]at e';cases e';rw[d]at d';injection d' with d1 _;have:its=its':=by simpa using congrArg Array.toList d1
 subst this;exact r.inj r'
def Inv.tuple_inj(I:Inv X pins σ H s)(h:SqT X.K H a xs)(h':SqT X.K H a ys):xs=ys:=by
 obtain⟨its,r,⟨o,e,_,n,d⟩,_⟩:=I.tuple h;obtain⟨its',r',⟨o',e',_,n',d'⟩,_⟩:=I.tuple h';rw[e]at e';cases e';rw[d]at d';injection d' with d1 _;have:its=its':=by simpa using congrArg Array.toList d1
 subst this;exact r.inj r'
end
abbrev Cx.wish(X:Cx)(E:Value->yc->Prop):Cx:={X with xe:=E }
abbrev Cx.nox(X:Cx):Cx:=X.wish fun _ _=>False
def Cx.Ok.wish{X:Cx}(ok:X.Ok)(E:Value->yc->Prop):(X.wish E).Ok :=
 ⟨ok.mod,ok.kind,ok.glob,ok.blt,ok.above,ok.inj,ok.has,ok.cab,ok.hd,ok.frames,ok.stk,ok.exf,ok.bs,ok.bsz,ok.noex,ok.exfs,ok.funs,ok.frf⟩
def Cx.Ok.unwish{X:Cx}{E:Value->yc->Prop}(ok:(X.wish E).Ok):X.Ok :=
 ⟨ok.mod,ok.kind,ok.glob,ok.blt,ok.above,ok.inj,ok.has,ok.cab,ok.hd,ok.frames,ok.stk,ok.exf,ok.bs,ok.bsz,ok.noex,ok.exfs,ok.funs,ok.frf⟩
section
variable {X:Cx}{pins:List (Addr×YL)}{σ:St}{H:Hp}{s:yc}{E:Value->yc->Prop}
def Inv.wish(I:Inv X pins σ H s)(E:Value->yc->Prop):Inv (X.wish E) pins σ H s:=⟨I.ok.wish E,I.os,I.bare,I.base,I.loc,I.cell,I.free,I.freeC,I.pin,I.hok,I.len⟩
def Inv.unwish(I:Inv (X.wish E) pins σ H s):Inv X pins σ H s:=⟨I.ok.unwish,I.os,I.bare,I.base,I.loc,I.cell,I.free,I.freeC,I.pin,I.hok,I.len⟩
def SP.unwish{D:Ends}{f:Flow}{s':yc}(h:SP (X.wish E) pins D f s'):SP X pins D f s':=by
 cases f with
 |next=>obtain⟨σ',H',I,q⟩:=h;exact⟨σ',H',I.unwish,q⟩
 |brk=>obtain⟨σ',H',I,q⟩:=h;exact⟨σ',H',I.unwish,q⟩
 |cont=>obtain⟨σ',H',I,q⟩:=h;exact⟨σ',H',I.unwish,q⟩
 |ret u=>obtain⟨v,σ',H',I,r,q⟩:=h;exact⟨v,σ',H',I.unwish,r,q⟩
def PSs.nox{st:List Stmt}{t:TS}(h:PSs X.nox st t):PSs X st t:=fun pins s σ H D I hw=>
 yP (h pins s σ H D (I.wish _) hw) (fun _ _ q=>q.unwish) fun _ _ z=>Yu z
end
section
variable {X:Cx}{st:Stmt}{rest:List Stmt}{t u:TS}{e:Expr}{te:TE}{pos:xi}
def ziz:TS:=fun D σ H=>D.nx σ H
def zzA(t u:TS):TS:=fun D σ H=>t {D with nx:=u D } σ H
def zyw:PSs X [] ziz:=fun _ _ σ H _ I h=>xQ ⟨σ,H,I,h⟩
def znp(h1:PS X st t)(h2:PSs X rest u):PSs X (st::rest) (zzA t u):=by
 intro pins s σ H D I h;refine wpAny_execs_cons (thn (h1 pins s σ H {D with nx:=u D } I h) fun f s1 q=>?_)
 cases f with
 |next=>
  obtain⟨σ',H',I',q⟩:=q;exact h2 pins s1 σ' H' D I' q
 |ret v=>exact q
 |brk=>exact q
 |cont=>exact q
def z8r(h1:PS X st t):PSs X [st] t:=by
 intro pins s σ H D I h;refine wpAny_execs_cons (thn (h1 pins s σ H D I h) fun f s1 q=>?_)
 cases f with
 |next=>exact xQ q
 |ret v=>exact q
 |brk=>exact q
 |cont=>exact q
def Inv.quiet{pins:List (Addr×YL)}{σ:St}{H:Hp}{s:yc}(I:Inv X pins σ H s):interactive X.env=false:=by simp[interactive,I.ok.kind]
def z3y(te:TE):TS:=fun D σ H=>te σ H fun _ H1=>D.nx σ H1
def zDr(he:PE X e te)(hs:xS e none pos.line X.env=pure false:=by rfl):PS X (.Expr e pos) (z3y te):=by
 intro pins s σ H D I h;exact wpAny_Expr_any (thn (he pins s σ H _ I h) fun v s1 ⟨x,H1,I1,r1,q1⟩=>⟨σ,H1,I1,q1⟩) I.quiet hs
def zqA(te:TE):TS:=fun D σ H=>te σ H D.rt
def zCx(he:PE X e te):PS X (.Return (some e) pos) (zqA te):=by
 intro pins s σ H D I h;exact wpAny_Return_some (thn (he pins s σ H _ I h) fun v s1 ⟨x,H1,I1,r1,q1⟩=>⟨x,σ,H1,I1,r1,q1⟩)
def zrA(c:TT)(t u:TS):TS:=fun D σ H=>c σ H fun b H1=>if b=true then t D σ H1 else u D σ H1
def zIz{c:Expr}{a b:List Stmt}{tc:TT}(hc:PT X c tc)(ha:PSs X a t)(hb:PSs X b u):PS X (.If c a b pos) (zrA tc t u):=by
 intro pins s σ H D I h;refine wpAny_If (thn (hc pins s σ H _ I h) fun d s1 ⟨H1,I1,q1⟩=>?_)
 cases d with
 |true=>exact ha pins s1 σ H1 D I1 q1
 |false=>exact hb pins s1 σ H1 D I1 q1
def zLx:TS:=fun _ _ _=>False
def zuu:PS X st zLx:=fun _ _ _ _ _ _ h=>h.elim
end
abbrev TG:=V->St->Hp->(St->Hp->Prop)->Prop
abbrev TGs:=List V->St->Hp->(St->Hp->Prop)->Prop
def PG(X:Cx)(target:Expr)(t:TG):Prop :=
 ∀(pins:List (Addr×YL)) (s:yc) (σ:St) (H:Hp) (v:V) (u:Value) (Q:St->Hp->Prop),Inv X pins σ H s->RelV v u->t v σ H Q ->
  yk (yp X.prog X.w) X.A (assign target X.env u) (fun _ s'=>∃σ' H',Inv X pins σ' H' s'/\Q σ' H') X.xe s
def PGs(X:Cx)(ts:List Expr)(t:TGs):Prop :=
 ∀(pins:List (Addr×YL)) (s:yc) (σ:St) (H:Hp) (vs:List V) (us:List Value) (Q:St->Hp->Prop),Inv X pins σ H s->Vals vs us->t vs σ H Q ->
  yk (yp X.prog X.w) X.A (assignInOrder ((Ym ts X.env).map (·.2)) us) (fun _ s'=>∃σ' H',Inv X pins σ' H' s'/\Q σ' H') X.xe s
abbrev zSz:=V->V->V->Hp->(Hp->Prop)->Prop
def zgz(X:Cx)(t:zSz):Prop :=
 ∀(pins:List (Addr×YL)) (s:yc) (σ:St) (H:Hp) (o i v:V) (ov iv u:Value) (Q:Hp->Prop),Inv X pins σ H s->RelV o ov->RelV i iv->RelV v u->t o i v H Q ->
  yk (yp X.prog X.w) X.A (setItem ov iv u) (fun _ s'=>∃H',Inv X pins σ H' s'/\Q H') X.xe s
abbrev TIp:=V->V->Hp->VK->Prop
def PIp(X:Cx)(op:Operator)(t:TIp):Prop :=
 ∀(pins:List (Addr×YL)) (s:yc) (σ:St) (H:Hp) (x y:V) (v u:Value) (Q:VK),Inv X pins σ H s->RelV x v->RelV y u->t x y H Q ->
  yk (yp X.prog X.w) X.A (inplaceOp op v u) (EP X pins σ Q) X.xe s
section
variable {X:Cx}{pos:xi}
def zPv(i:Nat):TG:=fun v σ H Q=>Q (σ.set i (some v)) H
def zQs{i:Nat}{x:Str}(hN:X.N.Nodup)(hi:X.N[i]?=some x)(hx:Loc X.env.scope x)(hf:X.fn x=true\/X.env.scope.names.lookup x=some .local:=by first | exact .inl rfl | exact .inr rfl | assumption):PG X (.Name x pos) (zPv i):=by
 intro pins s σ H v u Q I r h;exact wpAny_assign_Name (zKh I hN hi hx r (fun s' I'=>⟨_,H,I',h⟩) hf)
def zAA:TGs:=fun vs σ H Q=>vs=[]/\Q σ H
def zxz(t:TG)(u:TGs):TGs:=fun vs σ H Q=>∃v r,vs=v::r/\t v σ H fun σ' H'=>u r σ' H' Q
def zsr:PGs X [] zAA:=by
 intro pins s σ H vs us Q I r h;obtain⟨e,h⟩:=h;subst e;cases r;exact assignInOrder_nil ⟨σ,H,I,h⟩
def zDp{e:Expr}{es:List Expr}{t:TG}{u:TGs}(h1:PG X e t)(h2:PGs X es u)
 (hs:(Ym (e::es) X.env).map (·.2)=assign e X.env::(Ym es X.env).map (·.2):=by rfl):PGs X (e::es) (zxz t u):=by
 intro pins s σ H vs us Q I r h;obtain⟨v,vr,e1,h⟩:=h;subst e1
 cases r with
 |cons r rr=>
  rw[hs];refine assignInOrder_cons (thn (h1 pins s σ H _ _ _ I r h) fun _ s1 ⟨σ1,H1,I1,q1⟩=>?_);exact h2 pins s1 σ1 H1 _ _ Q I1 rr q1
def ziA(K:yr)(n:Nat)(t:TGs):TG:=fun v σ H Q=>∃a xs,v = .ref a/\SqT K H a xs/\xs.length=n/\t xs σ H Q
def z3u{es:List Expr}{k:Nat}{t:TGs}{n:Nat}(hc:X.calm=true)(h:PGs X es t)
 (hn:(Ym es X.env).length=n:=by rfl) (hst:(Ym es X.env).findIdx? (·.1)=none:=by rfl):PG X (.Tuple es k pos) (ziA X.K n t):=by
 intro pins s σ H v u Q I r hw;obtain⟨a,xs,e1,hq,hl,hw⟩:=hw;subst e1;cases r;obtain⟨its,rv,ht,hz⟩:=I.tuple hq;refine assign_Tuple_tuple (I.ok.hd hc) ht (by simp[hn,<-hl,rv.length]) hst fun h' hx=>?_;have I1:Inv X pins σ H {s with heap:=h' }:=I.kept (t':=s.toks) fun b o e=>hx b o (yw (yi e)) e;exact h pins _ σ H xs _ Q I1 (by simpa using rv) hw
def zlq(to ti:TE)(t:zSz):TG:=fun v σ H Q=>to σ H fun o H1=>ti σ H1 fun i H2=>t o i v H2 fun H3=>Q σ H3
def zav{o i:Expr}{to ti:TE}{t:zSz}(ho:PE X o to)(hi:PE X i ti)(hs:zgz X t)
 (ha:∀v,assign (.Subscript o i pos) X.env v=(do
  let ov <-xy [v] (yY o X.env)
  let iv <-xy [v,ov] (yY i X.env)
  standAt pos
  xy [v,ov,iv] (setItem ov iv v)
  release [v,ov,iv] []):=by intro _;rfl):PG X (.Subscript o i pos) (zlq to ti t):=by
 intro pins s σ H v u Q I r h;rw[ha];refine ya (yQ (thn (ho pins s σ H _ I h) fun ov s1 ⟨x,H1,I1,r1,q1⟩=>?_));refine ya (yQ (thn (hi pins s1 σ H1 _ I1 q1) fun iv s2 ⟨y,H2,I2,r2,q2⟩=>?_));refine ya (YM (ya (yQ (thn (hs pins s2 σ H2 x y v ov iv u _ I2 r1 r2 r q2) fun _ s3 ⟨H3,I3,q3⟩=>?_))));exact wpAny_release ⟨σ,H3,I3,q3⟩
def zwz(te:TE)(g:TG):TS:=fun D σ H=>te σ H fun x H1=>g x σ H1 D.nx
def z7x{tg e:Expr}{te:TE}{g:TG}(he:PE X e te)(hg:PG X tg g)(hs:swapsWithSole [tg] e pos.line X.env=pure false:=by rfl)(hw:swappedStores [tg] e X.env=pure none:=by rfl)
 (h1:(Ym [tg] X.env).map (·.2)=[assign tg X.env]:=by rfl):PS X (.Assign [tg] e pos) (zwz te g):=by
 intro pins s σ H D I h;refine wpAny_Assign_stores (thn (he pins s σ H _ I h) fun v s1 ⟨x,H1,I1,r1,q1⟩=>?_) hs hw;rw[h1];exact thn (hg pins s1 σ H1 x v _ I1 r1 q1) fun _ s2 q=>q
def zvy{i:Nat}{x:Str}{e:Expr}{te:TE}{pos':xi}(hN:X.N.Nodup)(hi:X.N[i]?=some x)(hx:Loc X.env.scope x)(he:PE X e te)(hs:xS e (some (.Name x pos')) pos.line X.env=pure false:=by rfl)(hf:X.fn x=true\/X.env.scope.names.lookup x=some .local:=by first | exact .inl rfl | exact .inr rfl | assumption) :
 PS X (.Assign [.Name x pos'] e pos) (zwz te (zPv i)):=by
 intro pins s σ H D I h;refine wpAny_Assign_Name (thn (he pins s σ H _ I h) fun v s1 ⟨y,H1,I1,r1,q1⟩=>?_) hs;exact zKh I1 hN hi hx r1 (fun s2 I2=>⟨_,H1,I2,q1⟩) hf
def zlA(i:Nat)(te:TE)(ti:TIp):TS:=fun D σ H=>∃x,σ[i]?=some (some x)/\te σ H fun y H1=>ti x y H1 fun z H2=>D.nx (σ.set i (some z)) H2
def zhx{i:Nat}{x:Str}{e:Expr}{te:TE}{op:Operator}{ti:TIp}{pos':xi}(hN:X.N.Nodup)(hi:X.N[i]?=some x)(hx:Loc X.env.scope x)(he:PE X e te)(ho:PIp X op ti)(hf:X.fn x=true\/X.env.scope.names.lookup x=some .local:=by first | exact .inl rfl | exact .inr rfl | assumption) :
 PS X (.AugAssign (.Name x pos') op e pos) (zlA i te ti):=by
 intro pins s σ H D I h;obtain⟨v,e1,h⟩:=h;obtain⟨m,hn,hl⟩:=I.loc;have vis:Vis X.env.scope x:=by rcases hx with k | k;exact .inl k;exact .inr (.inl k)
 obtain⟨u,r,l⟩:=hl i x v hi e1 vis;refine wpAny_AugAssign_Name ?_
 have go:yk (yp X.prog X.w) X.A (yY e X.env) (fun w s₂=>yk (yp X.prog X.w) X.A (inplaceOp op u w) (fun r s₃=>yk (yp X.prog X.w) X.A (storeName X.env x r) (fun _=>SP X pins D .next) X.xe s₃) X.xe s₂) X.xe s:=by
  refine thn (he pins s σ H _ I h) fun w s1 ⟨y,H1,I1,r1,q1⟩=>?_;refine thn (ho pins s1 σ H1 v y u w _ I1 r r1 q1) fun z s2 ⟨zv,H2,I2,r2,q2⟩=>?_;exact zKh I2 hN hi hx r2 (fun s3 I3=>⟨_,H2,I3,q2⟩) hf
 rcases l with ⟨hk,hm⟩ | ⟨hk,c,hc,hcell⟩
 ·exact wpAny_loadName_local I.ok.kind hk hn hm go
 ·rcases hk with hk | hk
  ·exact wpAny_loadName_cell I.ok.kind hk hc hcell go
  ·rcases hx with k | k
   ·have:X.env.scope.names.lookup x=some .free:=hk;rw[k]at this;cases this
   ·have:X.env.scope.names.lookup x=some .free:=hk;rw[k]at this;cases this
end
section
variable {X:Cx}{pos:xi}
def zay(c:TT)(tb:TS):TS:=fun D σ H=>∃W:Nat->St->Hp->Prop,(∃m,W m σ H)/\∀m σ H,W m σ H ->
 c σ H fun b H1=>if b=true then ∃N:St->Hp->Prop,(∀σ' H',N σ' H'->∃m',m'<m/\W m' σ' H')/\tb {D with nx:=N,ct:=N,bk:=D.nx } σ H1 else D.nx σ H1
def zdu{c:Expr}{body:List Stmt}{tc:TT}{tb:TS}(hp:PassesOwn (yp X.prog X.w) X.A X.env X.xe)(hc:PT X c tc)(hb:PSs X body tb):PS X (.While c body [] pos) (zay tc tb):=by
 intro pins s σ H D I h;obtain⟨W,⟨m0,w0⟩,turn⟩:=h;refine wpAny_While (codeAny_whileLoop (fun n s'=>∃σ' H',Inv X pins σ' H' s'/\W n σ' H') ?_ m0 ⟨σ,H,I,w0⟩);rintro n s1 ⟨σ1,H1,I1,w1⟩;refine xw hp (thn (hc pins s1 σ1 H1 _ I1 (turn n σ1 H1 w1)) fun b s2 ⟨H2,I2,q2⟩=>?_)
 cases b with
 |true=>
  obtain⟨N,hN,q2⟩:=q2;rw[if_pos rfl];refine xw hp (thn (hb pins s2 σ1 H2 _ I2 q2) fun f s3 q3=>?_)
  cases f with
  |next=>
   obtain⟨σ3,H3,I3,n3⟩:=q3;obtain⟨m',hm,w3⟩:=hN σ3 H3 n3;exact⟨m',hm,σ3,H3,I3,w3⟩
  |cont=>
   obtain⟨σ3,H3,I3,n3⟩:=q3;obtain⟨m',hm,w3⟩:=hN σ3 H3 n3;exact⟨m',hm,σ3,H3,I3,w3⟩
  |brk=>exact q3
  |ret v=>exact q3
 |false=>
  rw[if_neg yx];exact xQ ⟨σ1,H2,I2,q2⟩
end
structure It where
 go:Nat->Hp->Prop
 yld:Nat->Hp->V->Hp->Prop
 stop:Nat->Hp->Prop
def zMp(X:Cx)(pins:List (Addr×YL))(H:Hp)(b:Addr):Prop :=
 H b=none/\b≠X.env.locals/\b∉X.fs/\(b∈X.ex\/X.s₀.heap.objs.size<=b)/\(∀x c,X.env.cells.lookup x=some c->c≠b)/\∀p∈X.pn++pins,p.1≠b
def Inv.fpOk{X:Cx}{pins:List (Addr×YL)}{σ:St}{H H':Hp}{s:yc}{b:Addr}(I:Inv X pins σ H s)(hb:s.heap.objs.size<=b)(hn:H' b=none):zMp X pins H' b:=by
 refine⟨hn,yO (yq I.lt hb),I.nofs hb, .inr (yy I.sz hb),fun x c e z=>?_,fun p hp z=>?_⟩
 ·obtain⟨v,q⟩:=I.cell x c e;exact absurd (yq q.lt (by rw[z];exact hb)) (yS _)
 ·exact absurd (yq (yi (I.pin p hp).1) (by rw[z];exact hb)) (yS _)
structure Turn(P:yv)(w:yE)(K:yr)(tg:Expr)(J:It)(fp:List Addr)(it:Addr)(tn:Nat->yT->Prop):Prop where
 mem:it∈fp
 obj:∀i h,tn i h->∀b∈fp,∃o,h.get? b=some o/\∀v,o.data≠.cell v
 keep:∀i h h',tn i h->(∀b∈fp,∀o,h.get? b=some o->h'.get? b=some o)->tn i h'
 item:∀(X:Cx),X.prog=P->X.w=w->X.K=K->X.calm=true->∀(i:Nat)(pins:List (Addr×YL)) (s:yc) (σ:St) (H:Hp) (E:Value->yc->Prop),Inv X pins σ H s->(∀b∈fp,zMp X pins H b)->tn i s.heap->J.go i H ->
  yk (yp P w) X.A (Xg (.ref it)) (fun r s1=>∃u,r=some u /\
   yk (yp P w) X.A (letOwnedTupleGo tg (.ref it) u) (fun _ s2=>∃x H',Inv X pins σ H' s2/\RelV x u/\J.yld i H x H'/\tn (i+1) s2.heap/\∀b∈fp,H' b=none) E s1) E s
 done:∀(X:Cx),X.prog=P->X.w=w->X.K=K->X.calm=true->∀(i:Nat)(pins:List (Addr×YL)) (s:yc) (σ:St) (H:Hp) (E:Value->yc->Prop),Inv X pins σ H s->(∀b∈fp,zMp X pins H b)->tn i s.heap->J.stop i H ->
  yk (yp P w) X.A (Xg (.ref it)) (fun r s1=>r=none/\Inv X pins σ H s1) E s
 self:∀(A:yH)(i:Nat)(s:yc)(Q:Value->yc->Prop)(E:Value->yc->Prop),tn i s.heap->Q (.ref it) s->yk (yp P w) A (pyIter (.ref it)) Q E s
abbrev TI:=St->Hp->(It->Hp->Prop)->Prop
def PIE(X:Cx)(pins:List (Addr×YL))(σ:St)(tg:Expr)(R:It->Hp->Prop)(itv:Value)(s2:yc):Prop :=
 ∃(it:Addr)(fp:List Addr)(tn:Nat->yT->Prop)(J:It)(H':Hp),itv = .ref it/\Inv X pins σ H' s2/\Turn X.prog X.w X.K tg J fp it tn/\tn 0 s2.heap/\(∀b∈fp,zMp X pins H' b)/\R J H'
def PI(X:Cx)(tg iter:Expr)(wi:TI):Prop :=
 ∀(pins:List (Addr×YL)) (s:yc) (σ:St) (H:Hp) (R:It->Hp->Prop),Inv X pins σ H s->wi σ H R ->
  yk (yp X.prog X.w) X.A (yY iter X.env) (fun v s1=>yk (yp X.prog X.w) X.A (pyIter v) (PIE X pins σ tg R) X.xe s1) X.xe s
def zsu{M:Model}{A:yH}{E:Value->yc->Prop}{s:yc}{tg:Expr}{it:Addr}{u:Value}{o:YL}{n:String}{vs:Array Value}{Q:Unit->yc->Prop}(ho:s.heap.get? it=some o)(hc:o.cls = .type n)(hd:o.data = .fields vs)
 (hn:["enumerate","zip","dict_itemiterator","dict_reverseitemiterator","odict_iterator","itertools.zip_longest","itertools.pairwise"].contains n=false) (hQ:Q () s):yk M A (letOwnedTupleGo tg (.ref it) u) Q E s:=by
 unfold letOwnedTupleGo
 cases tg<;>first
  |exact ye hQ
  |(cases u<;>first
   |exact ye hQ
   | (refine ya (wpAny_load ho ?_)
      rw[hc,hd];show yk M A (if(["enumerate","zip","dict_itemiterator","dict_reverseitemiterator","odict_iterator","itertools.zip_longest","itertools.pairwise"].contains n&&vs[0]?==some (Yz _))=true then _ else _) Q E s;rw[if_neg (by intro h;rw[hn,Bool.false_and]at h;cases h)];exact ye hQ))
def Itl(K:yr)(a:Addr):It :=
 ⟨fun i H=>∃xs x,SqL K H a xs/\xs[i]?=some x,fun i H x H'=>H'=H/\∀xs,SqL K H a xs->xs[i]?=some x,fun i H=>∃xs,SqL K H a xs/\xs.length<=i⟩
def Itt(K:yr)(a:Addr):It :=
 ⟨fun i H=>∃xs x,SqT K H a xs/\xs[i]?=some x,fun i H x H'=>H'=H/\∀xs,SqT K H a xs->xs[i]?=some x,fun i H=>∃xs,SqT K H a xs/\xs.length<=i⟩
def Itr(lo:Int)(n:Nat):It:=⟨fun i _=>i<n,fun i H x H'=>H'=H/\x = .int (lo+i),fun i _=>n<=i⟩
def zir{P:yv}{w:yE}{K:yr}{tg:Expr}(a it:Addr):Turn P w K tg (Itl K a) [it] it (fun i h=>h.IsListIter it a i) where
 mem:=by simp
 obj:=fun i h st b hb=>by
  have e:b=it:=by simpa using hb
  subst e;obtain⟨o,e,c,d⟩:=st;exact⟨o,e,fun v z=>by rw[d]at z;cases z⟩
 keep:=fun i h h' st k=>st.at fun o e=>k it (by simp) o e
 item:=by
  intro X hP hw hK hc i pins s σ H E I hf st hg;subst hP hw hK;obtain⟨xs,x,hq,hx⟩:=hg;obtain⟨its,rv,p,hz⟩:=I.list hq;obtain⟨u,hu,ru⟩:=rv.get hx;obtain⟨f0,f1,f2,f3,f4,f5⟩:=hf it (by simp);refine wpAny_pyNext_list_item st p.isList (x:=u) (by simpa using hu) fun h' st' sb=>?_;have I1:Inv X pins σ H {s with heap:=h' }:=I.turned (t':=s.toks) (fun b o hb e=>(sb.2 b hb).trans e) f0 f1 f3 f4 f5;obtain⟨o,e,c,d⟩:=id st';exact⟨u,rfl,zsu (s:={s with heap:=h' }) e c d (by decide) ⟨x,H,I1,ru,⟨rfl,fun ys hy=>by rw[I.list_inj hy hq];exact hx⟩,st',fun b hb=>(hf b hb).1⟩⟩
 done:=by
  intro X hP hw hK hc i pins s σ H E I hf st hg;subst hP hw hK;obtain⟨xs,hq,hx⟩:=hg;obtain⟨its,rv,p,hz⟩:=I.list hq;obtain⟨f0,f1,f2,f3,f4,f5⟩:=hf it (by simp);have hl:=rv.length;exact wpAny_pyNext_list_end (I.ok.hd hc) st p.isList (by simp;omega) fun h' eb=>⟨rfl,I.turned (t':=s.toks) (fun b o hb e=>eb b o hb e) f0 f1 f3 f4 f5⟩
 self:=fun _ _ _ _ _ st h=>wpAny_pyIter_listiter st h
def zoq{P:yv}{w:yE}{K:yr}{tg:Expr}(a it:Addr):Turn P w K tg (Itt K a) [it] it (fun i h=>h.IsTupleIter it a i) where
 mem:=by simp
 obj:=fun i h st b hb=>by
  have e:b=it:=by simpa using hb
  subst e;obtain⟨o,e,c,d⟩:=st;exact⟨o,e,fun v z=>by rw[d]at z;cases z⟩
 keep:=fun i h h' st k=>st.at fun o e=>k it (by simp) o e
 item:=by
  intro X hP hw hK hc i pins s σ H E I hf st hg;subst hP hw hK;obtain⟨xs,x,hq,hx⟩:=hg;obtain⟨its,rv,p,hz⟩:=I.tuple hq;obtain⟨u,hu,ru⟩:=rv.get hx;obtain⟨f0,f1,f2,f3,f4,f5⟩:=hf it (by simp);refine wpAny_pyNext_tuple_item st (show s.heap.IsTuple a its.toArray from p) (x:=u) (by simpa using hu) fun h' st' sb=>?_;have I1:Inv X pins σ H {s with heap:=h' }:=I.turned (t':=s.toks) (fun b o hb e=>(sb.2 b hb).trans e) f0 f1 f3 f4 f5;obtain⟨o,e,c,d⟩:=id st';exact⟨u,rfl,zsu (s:={s with heap:=h' }) e c d (by decide) ⟨x,H,I1,ru,⟨rfl,fun ys hy=>by rw[I.tuple_inj hy hq];exact hx⟩,st',fun b hb=>(hf b hb).1⟩⟩
 done:=by
  intro X hP hw hK hc i pins s σ H E I hf st hg;subst hP hw hK;obtain⟨xs,hq,hx⟩:=hg;obtain⟨its,rv,p,hz⟩:=I.tuple hq;obtain⟨f0,f1,f2,f3,f4,f5⟩:=hf it (by simp);have hl:=rv.length;exact wpAny_pyNext_tuple_end (I.ok.hd hc) st (show s.heap.IsTuple a its.toArray from p) (by simp;omega) fun h' eb=>⟨rfl,I.turned (t':=s.toks) (fun b o hb e=>eb b o hb e) f0 f1 f3 f4 f5⟩
 self:=fun _ _ _ _ _ st h=>wpAny_pyIter_tupleiter st h
def z5q{P:yv}{w:yE}{K:PySem.W.Frag}{tg:Expr}(it:Addr)(lo:Int)(n:Nat):Turn P w K tg (Itr lo n) [it] it (fun i h=>IsRangeIter h it (lo+(i:Nat)*1) ((n:Int)-(i:Nat)) 1) where
 mem:=by simp
 obj:=fun i h st b hb=>by
  have e:b=it:=by simpa using hb
  subst e
  exact⟨_,st,fun v z=>by
   have z':Data.fields _=Data.cell v:=z;cases z'⟩
 keep:=fun i h h' st k=>k it (by simp) _ st
 item:=by
  intro X hP hw hK hc i pins s σ H E I hf st hg;subst hP hw hK;obtain⟨f0,f1,f2,f3,f4,f5⟩:=hf it (by simp);have W:=Walks.range (prog:=X.prog) (w:=X.w) (I.ok.hd hc) it lo 1 n;refine W.item i s _ _ hg st fun v h' tk hv st' kk=>?_;obtain⟨t,rfl⟩:=hv;have I1:Inv X pins σ H {s with heap:=h',toks:=tk }:=I.turned (fun b o hb e=>kk b o (by simpa using hb) e) f0 f1 f3 f4 f5;refine⟨_,rfl,zsu (s:={s with heap:=h',toks:=tk }) (n:="range_iterator") st' rfl rfl (by decide) ⟨.int (lo+i),H,I1,⟨t,?_⟩,⟨rfl,rfl⟩,st',fun b hb=>(hf b hb).1⟩⟩;rw[Int.mul_one]
 done:=by
  intro X hP hw hK hc i pins s σ H E I hf st hg;subst hP hw hK;obtain⟨f0,f1,f2,f3,f4,f5⟩:=hf it (by simp);exact wpAny_pyNext_range_end (I.ok.hd hc) st (by have:n<=i:=hg;omega) fun h' eb=>⟨rfl,I.turned (t':=s.toks) (fun b o hb e=>eb b o hb e) f0 f1 f3 f4 f5⟩
 self:=fun _ _ _ _ _ st h=>wpAny_pyIter_rangeiter st h
section
variable {X:Cx}{tg:Expr}
def z9s(K:yr)(tl:TE):TI:=fun σ H R=>tl σ H fun x H1=>∃a,x = .ref a/\(∃xs,SqL K H1 a xs)/\R (Itl K a) H1
def zkA(K:yr)(tl:TE):TI:=fun σ H R=>tl σ H fun x H1=>∃a,x = .ref a/\(∃xs,SqT K H1 a xs)/\R (Itt K a) H1
def zxw{l:Expr}{tl:TE}(hl:PE X l tl):PI X tg l (z9s X.K tl):=by
 intro pins s σ H R I h;refine thn (hl pins s σ H _ I h) fun v s1 ⟨x,H1,I1,r1,q1⟩=>?_;obtain⟨a,e,⟨xs,hq⟩,q⟩:=q1;subst e;cases r1;obtain⟨its,rv,p,hz⟩:=I1.list hq;refine wpAny_pyIter_list p.isList ?_;refine⟨s1.heap.objs.size,[s1.heap.objs.size],_,_,H1,rfl,I1.kept (t':=s1.toks) fun b o e=>yd _ e,zir a _,⟨_,yo _ rfl,rfl,rfl⟩,fun b hb=>?_,q⟩;have e:b=s1.heap.objs.size:=by simpa using hb
 subst e;exact I1.fpOk (yh _) (I1.hok.fresh (yh _))
def zux{l:Expr}{tl:TE}(hl:PE X l tl):PI X tg l (zkA X.K tl):=by
 intro pins s σ H R I h;refine thn (hl pins s σ H _ I h) fun v s1 ⟨x,H1,I1,r1,q1⟩=>?_;obtain⟨a,e,⟨xs,hq⟩,q⟩:=q1;subst e;cases r1;obtain⟨its,rv,p,hz⟩:=I1.tuple hq;refine wpAny_pyIter_tuple (show s1.heap.IsTuple a its.toArray from p) ?_;refine⟨s1.heap.objs.size,[s1.heap.objs.size],_,_,H1,rfl,I1.kept (t':=s1.toks) fun b o e=>yd _ e,zoq a _,⟨_,yo _ rfl,rfl,rfl⟩,fun b hb=>?_,q⟩;have e:b=s1.heap.objs.size:=by simpa using hb
 subst e;exact I1.fpOk (yh _) (I1.hok.fresh (yh _))
def zAt{pins:List (Addr×YL)}{σ:St}{H:Hp}{s:yc}{R:It->Hp->Prop}{E:Value->yc->Prop}{lo hi:Int}{t u v:Tok}{tk:Nat}(I:Inv X pins σ H s)(h1:-(2^62)<=lo)(h2:lo<2^62)(h3:-(2^62)<=hi)(h4:hi<2^62)
 (q:R (Itr lo (hi-lo).toNat) H):yk (yp X.prog X.w) X.A (pyIter (.ref s.heap.objs.size)) (PIE X pins σ tg R) E {s with heap:=s.heap.push {cls := .type "range",data := .fields #[.int lo t, .int hi u, .int 1 v]},toks:=tk }:=by
 refine wpAny_pyIter_range (IsRange.new ..) (small_one h1 h2 h3 h4) ?_;have I1:Inv X pins σ H {s with heap:=s.heap.push {cls := .type "range",data := .fields #[.int lo t, .int hi u, .int 1 v]},toks:=tk }:=I.kept fun b o e=>yd _ e
 refine⟨(s.heap.push {cls := .type "range",data := .fields #[.int lo t, .int hi u, .int 1 v]}).objs.size,[(s.heap.push {cls := .type "range",data := .fields #[.int lo t, .int hi u, .int 1 v]}).objs.size],_,_,H,rfl,
  I1.kept (t':=tk) fun b o e=>yd _ e,z5q _ lo (hi-lo).toNat,?_,fun b hb=>?_,q⟩
 ·have e1:lo+((0:Nat):Int)*1=lo:=by simp
  have e2:(((hi-lo).toNat:Nat):Int)-((0:Nat):Int)=Builtin.Range.rangeSize lo hi 1:=by rw[rangeSize_one];split<;>omega
  show IsRangeIter _ _ (lo+((0:Nat):Int)*1) ((((hi-lo).toNat:Nat):Int)-((0:Nat):Int)) 1;rw[e1,e2];exact yo _ rfl
 ·have e:b=(s.heap.push {cls := .type "range",data := .fields #[.int lo t, .int hi u, .int 1 v]}).objs.size:=by simpa using hb
  subst e;exact I1.fpOk (yh _) (I1.hok.fresh (yh _))
def zBz(ta:TA):TI:=fun σ H R=>ta σ H fun vs H1=>∃j:Int,vs=[.int j]/\-(2^62)<=j/\j<2^62/\R (Itr 0 j.toNat) H1
def zos{a:Expr}{ta:TA}{p pos:xi}(hg:Gl X "range")(hm:X.mg "range" = none)(ha:PA X [a] ta)(hs:yg [a] X.env=[(false,yY a X.env)]:=by rfl):PI X tg (.Call (.Name "range" p) [a] [] pos) (zBz ta):=by
 intro pins s σ H R I h;refine Call_ (zOj I hg hm boot_range (YK (thn (ha pos pins s σ H _ I h) fun us s1 ⟨vs,H1,I1,r1,q1⟩=>?_) hs rfl));obtain⟨j,e,q1,q2,q⟩:=q1;subst e
 cases r1 with
 |cons r rr=>
  cases rr;obtain⟨t,rfl⟩:=r;exact call_range_1 (zAt I1 (by omega) (by omega) q1 q2 (by simpa using q))
def zgA(wi:TI)(g:TG)(tb:TS):TS:=fun D σ H=>wi σ H fun J H1=>∃W:Nat->Nat->St->Hp->Prop,(∃m,W 0 m σ H1)/\∀i m σ H,W i m σ H ->
 (J.stop i H/\D.nx σ H)\/(J.go i H/\∃N:St->Hp->Prop,(∀σ' H',N σ' H'->∃m',m'<m/\W (i+1) m' σ' H')/\∀x H',J.yld i H x H'->g x σ H' fun σ2 H2=>tb {D with nx:=N,ct:=N,bk:=D.nx } σ2 H2)
def zkn(fp:List Addr)(h:yT):List (Addr×YL):=fp.filterMap fun b=>(h.get? b).map fun o=>(b,o)
def zlg{fp:List Addr}{h:yT}{b:Addr}{o:YL}(hb:b∈fp)(e:h.get? b=some o):(b,o)∈zkn fp h:=List.mem_filterMap.mpr ⟨b,hb,by rw[e];rfl⟩
def z6r{fp:List Addr}{h:yT}{p:Addr×YL}(hp:p∈zkn fp h):p.1∈fp/\h.get? p.1=some p.2:=by
 obtain⟨b,hb,e⟩:=List.mem_filterMap.mp hp
 cases q:h.get? b with
 |none=>rw[q]at e;cases e
 |some o=>
  rw[q]at e;have e':(b,o)=p:=Ye e;subst e';exact⟨hb,q⟩
def Inv.pinned{pins:List (Addr×YL)}{σ:St}{H:Hp}{s:yc}{fp:List Addr}(I:Inv X pins σ H s)(hf:∀b∈fp,zMp X pins H b)(ho:∀b∈fp,∃o,s.heap.get? b=some o/\∀v,o.data≠.cell v):Inv X (pins++zkn fp s.heap) σ H s :=
 I.pins_of fun p hp=>(List.mem_append.mp hp).elim (fun z=>I.pin p (mem_append_right _ z)) fun z=>by
  obtain⟨hb,e⟩:=z6r z;obtain⟨f0,f1,f2,_⟩:=hf p.1 hb;obtain⟨o,e',d⟩:=ho p.1 hb;rw[e]at e';cases e';exact⟨e,f0,f1,f2,d⟩
def Inv.unpinned{pins pl:List (Addr×YL)}{σ:St}{H:Hp}{s:yc}(I:Inv X (pins++pl) σ H s):Inv X pins σ H s:=I.pins_of fun p hp=>I.pin p (mem_append_right _ (mem_append_left _ hp))
def zqy{iter:Expr}{body:List Stmt}{wi:TI}{g:TG}{tb:TS}{pos:xi}(hp:PassesOwn (yp X.prog X.w) X.A X.env X.xe)(hc:X.calm=true)(hi:PI X tg iter wi)(hg:PG X tg g)(hb:PSs X body tb)
 (hs:∀x,YN iter X.env x=pure x:=by intro _;rfl):PS X (.For tg iter body [] pos) (zgA wi g tb):=by
 intro pins s σ H D I h;refine wpAny_For (thn (hi pins s σ H _ I h) fun v s1 h1=>thn h1 fun itv s2 h2=>?_) hs;obtain⟨it,fp,tn,J,H2,e,I2,T,st2,f2,W,⟨m0,w0⟩,turn⟩:=h2;subst e;have stat:∀{H':Hp},(∀b∈fp,H' b=none)->∀b∈fp,zMp X pins H' b:=fun hn b hb=>⟨hn b hb,(f2 b hb).2⟩
 refine codeAny_forLoop_any (fun n s'=>∃i σ' H',Inv X pins σ' H' s'/\tn i s'.heap/\(∀b∈fp,H' b=none)/\W i n σ' H') ?_ m0 ⟨0,σ,H2,I2,st2,fun b hb=>(f2 b hb).1,w0⟩;rintro n s3 ⟨i,σ3,H3,I3,st3,fr3,w3⟩;rcases turn i n σ3 H3 w3 with ⟨stop,qn⟩ | ⟨go,N,hN,step⟩
 ·refine xw hp (thn (T.done X rfl rfl rfl hc i pins s3 σ3 H3 X.xe I3 (stat fr3) st3 stop) fun r s4 ⟨hr,I4⟩=>?_);subst hr;exact xQ ⟨σ3,H3,I4,qn⟩
 ·refine xw hp (thn (T.item X rfl rfl rfl hc i pins s3 σ3 H3 X.xe I3 (stat fr3) st3 go) fun r s4 ⟨u,hr,h4⟩=>?_);subst hr;refine xw hp (thn h4 fun _ s5 ⟨x,H5,I5,r5,y5,st5,fr5⟩=>?_);have I5':=I5.pinned (stat fr5) (T.obj _ _ st5);refine xw hp (thn (hg _ s5 σ3 H5 x u _ I5' r5 (step x H5 y5)) fun _ s6 ⟨σ6,H6,I6,q6⟩=>?_);refine xw hp (thn (hb _ s6 σ6 H6 _ I6 q6) fun f s7 q7=>?_)
  have again:∀{σ7:St} {H7:Hp},Inv X (pins++zkn fp s5.heap) σ7 H7 s7->N σ7 H7->∃m,m<n/\∃i σ' H',Inv X pins σ' H' s7/\tn i s7.heap/\(∀b∈fp,H' b=none)/\W i m σ' H':=fun{σ7 H7} I7 n7=>by
   obtain⟨m',hm,w7⟩:=hN σ7 H7 n7;refine⟨m',hm,i+1,σ7,H7,I7.unpinned,T.keep _ _ _ st5 fun b hb o e=>(I7.pin (b,o) (mem_append_right _ (mem_append_right _ (zlg hb e)))).1,fun b hb=>?_,w7⟩;obtain⟨o,e,d⟩:=T.obj _ _ st5 b hb;exact(I7.pin (b,o) (mem_append_right _ (mem_append_right _ (zlg hb e)))).2.1
  cases f with
  |next=>obtain⟨σ7,H7,I7,n7⟩:=q7;exact again I7 n7
  |cont=>obtain⟨σ7,H7,I7,n7⟩:=q7;exact again I7 n7
  |brk=>obtain⟨σ7,H7,I7,q7⟩:=q7;exact⟨σ7,H7,I7.unpinned,q7⟩
  |ret v=>obtain⟨x7,σ7,H7,I7,r7,q7⟩:=q7;exact⟨x7,σ7,H7,I7.unpinned,r7,q7⟩
end
abbrev R2:=V->V->Hp->VK->Prop
def OpR(X:Cx)(f:Value->Value->Sem Value)(r:R2):Prop :=
 ∀(pins:List (Addr×YL)) (s:yc) (σ:St) (H:Hp) (x y:V) (v u:Value) (Q:VK),Inv X pins σ H s->RelV x v->RelV y u->r x y H Q ->
  yk (yp X.prog X.w) X.A (f v u) (EP X pins σ Q) X.xe s
def UnR(X:Cx)(f:Value->Sem Value)(r:V->Hp->VK->Prop):Prop :=
 ∀(pins:List (Addr×YL)) (s:yc) (σ:St) (H:Hp) (x:V) (v:Value) (Q:VK),Inv X pins σ H s->RelV x v->r x H Q ->
  yk (yp X.prog X.w) X.A (f v) (EP X pins σ Q) X.xe s
def zPk(X:Cx)(f:Value)(r:List V->Hp->VK->Prop):Prop :=
 ∀(pins:List (Addr×YL)) (s:yc) (σ:St) (H:Hp) (xs:List V) (us:List Value) (Q:VK),Inv X pins σ H s->Vals xs us->r xs H Q ->
  yk (yp X.prog X.w) X.A (call f us) (EP X pins σ Q) X.xe s
def tOp(r:R2)(ta tb:TE):TE:=fun σ H Q=>ta σ H fun x H1=>tb σ H1 fun y H2=>r x y H2 Q
def tUn(r:V->Hp->VK->Prop)(ta:TE):TE:=fun σ H Q=>ta σ H fun x H1=>r x H1 Q
def rI(C:Int->Int->Prop)(g:Int->Int->V):R2:=fun x y H Q=>∃i j,x = .int i/\y = .int j/\C i j/\Q (g i j) H
def rI0(g:Int->Int->V):R2:=fun x y H Q=>∃i j,x = .int i/\y = .int j/\Q (g i j) H
def rU(g:Int->V):V->Hp->VK->Prop:=fun x H Q=>∃i,x = .int i/\Q (g i) H
section
variable {X:Cx}{a b c:Expr}{ta tb tc:TE}{pos:xi}
def binT(ha:PE X a ta)(hb:PE X b tb){pins:List (Addr×YL)}{s:yc}{σ:St}{H:Hp}{R:V->V->Hp->Prop}(I:Inv X pins σ H s)
 (h:ta σ H fun x H1=>tb σ H1 fun y H2=>R x y H2) {Q:Value->yc->Prop} {f:Value->Value->Sem Value}
 (hf:∀v u s2 x y H2,Inv X pins σ H2 s2->RelV x v->RelV y u->R x y H2->yk (yp X.prog X.w) X.A (f v u) Q X.xe s2) :
 yk (yp X.prog X.w) X.A (yY a X.env) (fun v s₁=>yk (yp X.prog X.w) X.A (yY b X.env) (fun u s₂=>yk (yp X.prog X.w) X.A (f v u) Q X.xe s₂) X.xe s₁) X.xe s:=by
 refine thn (ha pins s σ H _ I h) fun v s1 ⟨x,H1,I1,r1,q1⟩=>?_;refine thn (hb pins s1 σ H1 _ I1 q1) fun u s2 ⟨y,H2,I2,r2,q2⟩=>?_;exact hf v u s2 x y H2 I2 r1 r2 q2
def zjz{op:Operator}{r:R2}(ho:OpR X (xH op) r)(ha:PE X a ta)(hb:PE X b tb):PE X (.BinOp a op b pos) (tOp r ta tb):=by
 intro pins s σ H Q I h;exact wpAny_BinOp (binT ha hb I h fun v u s2 x y H2 I2 rx ry q=>ho pins s2 σ H2 x y v u Q I2 rx ry q)
def zJz{op:UnaryOp}{r:V->Hp->VK->Prop}(ho:UnR X (unaryOp op) r)(ha:PE X a ta):PE X (.UnaryOp op a pos) (tUn r ta):=by
 intro pins s σ H Q I h;exact UnaryOp_ (thn (ha pins s σ H _ I h) fun v s1 ⟨x,H1,I1,r1,q1⟩=>ho pins s1 σ H1 x v Q I1 r1 q1)
def opI{f:Value->Value->Sem Value}{C:Int->Int->Prop}{g:Int->Int->Int}
 (rule:∀(i j:Int)(t u:Tok)(s:yc)(Q:Value->yc->Prop)(E:Value->yc->Prop),C i j->Q (.int (g i j) s.toks) {s with toks:=s.toks+1 }->yk (yp X.prog X.w) X.A (f (.int i t) (.int j u)) Q E s) :
 OpR X f (rI C fun i j => .int (g i j)):=by
 intro pins s σ H x y v u Q I rx ry h;obtain⟨i,j,rfl,rfl,hc,q⟩:=h;obtain⟨t,rfl⟩:=rx;obtain⟨t',rfl⟩:=ry;exact rule i j t t' s _ _ hc ⟨.int (g i j),H,I.tok _,⟨_,rfl⟩,q⟩
def opI0{f:Value->Value->Sem Value}{g:Int->Int->Int}
 (rule:∀(i j:Int)(t u:Tok)(s:yc)(Q:Value->yc->Prop)(E:Value->yc->Prop),Q (.int (g i j) s.toks) {s with toks:=s.toks+1 }->yk (yp X.prog X.w) X.A (f (.int i t) (.int j u)) Q E s) :
 OpR X f (rI0 fun i j => .int (g i j)):=by
 intro pins s σ H x y v u Q I rx ry h;obtain⟨i,j,rfl,rfl,q⟩:=h;obtain⟨t,rfl⟩:=rx;obtain⟨t',rfl⟩:=ry;exact rule i j t t' s _ _ ⟨.int (g i j),H,I.tok _,⟨_,rfl⟩,q⟩
def opB0{f:Value->Value->Sem Value}{g:Int->Int->Bool}
 (rule:∀(i j:Int)(t u:Tok)(s:yc)(Q:Value->yc->Prop)(E:Value->yc->Prop),Q (.bool (g i j)) s->yk (yp X.prog X.w) X.A (f (.int i t) (.int j u)) Q E s) :
 OpR X f (rI0 fun i j => .bl (g i j)):=by
 intro pins s σ H x y v u Q I rx ry h;obtain⟨i,j,rfl,rfl,q⟩:=h;obtain⟨t,rfl⟩:=rx;obtain⟨t',rfl⟩:=ry;exact rule i j t t' s _ _ ⟨.bl (g i j),H,I,rfl,q⟩
def zpx:OpR X (xH .Mod) (rI (fun _ j=>0<j) fun i j => .int (i%j)):=opI fun i j _ _ _ _ _ hc q=>by
 have h1:(0:Int)<j:=hc;exact mod_int' (by omega) (by rw[Int.fmod_eq_emod_of_nonneg i (by omega)];exact q)
def zbw:OpR X (inplaceOp .Add) (rI0 fun i j => .int (i+j)):=opI0 fun _ _ _ _ _ _ _ q=>iadd_int q
def unI{f:Value->Sem Value}{g:Int->Int}
 (rule:∀(i:Int)(t:Tok)(s:yc)(Q:Value->yc->Prop)(E:Value->yc->Prop),Q (.int (g i) s.toks) {s with toks:=s.toks+1 }->yk (yp X.prog X.w) X.A (f (.int i t)) Q E s) :
 UnR X f (rU fun i => .int (g i)):=by
 intro pins s σ H x v Q I rx h;obtain⟨i,rfl,q⟩:=h;obtain⟨t,rfl⟩:=rx;exact rule i t s _ _ ⟨.int (g i),H,I.tok _,⟨_,rfl⟩,q⟩
def zQx:UnR X (unaryOp .USub) (rU fun i => .int (-i)):=unI fun _ _ _ _ _ q=>neg_int q
end
section
variable {X:Cx}{a b c:Expr}{ta tb tc:TE}{pos:xi}
def zky{pins:List (Addr×YL)}{σ:St}{H:Hp}{s:yc}{Q:VK}{k k':Bool}(I:Inv X pins σ H s)(q:Q (.bl k) H)(e:k=k'):EP X pins σ Q (.bool k') s:=by
 subst e;exact⟨.bl k,H,I,rfl,q⟩
def z7y:OpR X (Yy .Lt) (rI0 fun i j => .bl (decide (i<j))):=opB0 fun _ _ _ _ _ _ _ q=>lt_int q
def zPz:OpR X (Yy .Gt) (rI0 fun i j => .bl (decide (j<i))):=opB0 fun _ _ _ _ _ _ _ q=>gt_int q
def zdz:OpR X (Yy .GtE) (rI0 fun i j => .bl (decide (j<=i))):=opB0 fun _ _ _ _ _ _ _ q=>ge_int q
def z5h:OpR X (Yy .IsNot) (fun x y H Q=>y = .non/\Q (.bl (!decide (x = .non))) H):=by
 intro pins s σ H x y v u Q I rx ry h;obtain⟨rfl,q⟩:=h;cases ry;refine isnot_none_gen (zky I q ?_)
 cases x<;>first
  |(cases rx;rfl)
  |(obtain⟨t,rfl⟩:=rx;rfl)
def zrv{op:CmpOp}{r:R2}(ho:OpR X (Yy op) r)(ha:PE X a ta)(hb:PE X b tb)(hm:behindInMarks op b=false):PE X (.Compare a [op] [b] pos) (tOp r ta tb):=by
 intro pins s σ H Q I h;exact wpAny_Compare1 (binT ha hb I h fun v u s2 x y H2 I2 rx ry q=>ho pins s2 σ H2 x y v u Q I2 rx ry q) hm
def z5y(t:TE):TT:=fun σ H Q=>t σ H fun x H'=>∃k,x = .bl k/\Q k H'
def zHw{op:CmpOp}{r:R2}(ho:OpR X (Yy op) r)(ha:PE X a ta)(hb:PE X b tb)(hm:behindInMarks op b=false):PT X (.Compare a [op] [b] pos) (z5y (tOp r ta tb)):=by
 intro pins s σ H Q I h
 refine wpAny_isTrue_Compare1 (thn (ha pins s σ H _ I h) fun v s1 ⟨x,H1,I1,r1,q1⟩=>thn (hb pins s1 σ H1 _ I1 q1) fun u s2 ⟨y,H2,I2,r2,q2⟩=>
  thn (ho pins s2 σ H2 x y v u _ I2 r1 r2 q2) fun c s3 ⟨z,H3,I3,r3,k,e,q3⟩=>?_) hm
 subst e;cases r3;exact xz ⟨H3,I3,q3⟩
def line63:(yB:Nat)<2^63:=by rw[Yp];decide
def vals1{x:V}{us:List Value}(r:Vals [x] us):∃u,us=[u]/\RelV x u:=by
 cases r with
 |cons r1 r2=>cases r2;exact⟨_,rfl,r1⟩
def vals2{x y:V}{us:List Value}(r:Vals [x,y] us):∃u w',us=[u,w']/\RelV x u/\RelV y w':=by
 cases r with
 |cons r1 r2=>
  cases r2 with
  |cons r3 r4=>cases r4;exact⟨_,_,rfl,r1,r3⟩
end
structure ObjM(h:yT)(x dx C:Addr)(mA:Str->Option Value):Prop where
 obj:h.get? x=some (W.instObj C dx)
 ns:h.Ns1 dx mA
 ne:dx≠x
def z1m{h:yT}{dx:Addr}{mA:Str->Option Value}(n:h.Ns1 dx mA):∃od,h.get? dx=some od/\∀name,W.lookIn name od=some (mA name):=by
 obtain⟨o,es,ep,ho,hd,hk,_,hm⟩:=n;refine⟨o,ho,fun name=>?_⟩;have e:=hm name;unfold nsFind findBy at e;rw[<-Array.find?_toList]at e;unfold W.lookIn;rw[hd];dsimp only
 split
 ·rename_i y q
  rw[q]at e;exact congrArg some e
 ·rename_i q
  rw[q]at e
  have a:es.toList.any (·.refKey)=false:=by
   rw[List.any_eq_false];intro y hy;obtain⟨z,t,hkey⟩:=hk y (Array.mem_toList_iff.mp hy);simp[DictEntry.refKey,hkey]
  have a':¬es.toList.any (·.refKey)=true:=by rw[a];exact yx
  rw[if_neg a'];exact congrArg some e
def ObjM.look{h:yT}{x dx C:Addr}{mA:Str->Option Value}(I:ObjM h x dx C mA):∃od,W.InstAt h x (W.instObj C dx) C (some od)/\∀name,W.lookIn name od=some (mA name) :=
 let ⟨od,ho,hl⟩:=z1m I.ns
 ⟨od,⟨I.obj,rfl,rfl,ho⟩,hl⟩
section
variable {prog:yv}{w:yE}{A:yH}{E:Value->yc->Prop}{s:yc}{K:yr}{x dx C f:Addr}{mA:Str->Option Value}{name:Str}{v:Value}
def zYv{expr:Bool}{Q:Value->yc->Prop}(X:K.In s.heap)(I:ObjM s.heap x dx C mA)(hg:W.plainGet K C name=true)(hh:W.hasDictIn K C=true)
 (ha:Yc K (.ref C) name=some none) (hv:mA name=some v) (hv':W.handedIn v=true) (h:Q v {s with toks:=s.toks+1 }) :
 yk (yp prog w) A (getAttr (.ref x) name expr) Q E s:=by
 obtain⟨od,J,hl⟩:=I.look;exact W.get_value X J (W.plainGet_of hg).1 (W.findObj_own hh ha rfl (by rw[hl,hv])) hv' h
def znu{pl:Sem Bool}{Q:Value×List Value->yc->Prop}(X:K.In s.heap)(I:ObjM s.heap x dx C mA)(hg:W.plainGet K C name=true)
 (hf:Yc K (.ref C) name=some (some (.ref f))) (ht:W.isFn K (.ref f)=true) (hv:mA name=none) (h:Q (.ref f,[.ref x]) s) :
 yk (yp prog w) A (getMethod (.ref x) name pl) Q E s:=by
 obtain⟨od,J,hl⟩:=I.look;exact W.method_fn X J (W.plainGet_of hg).1 (W.plainGet_of hg).2 hf (beq_iff_eq.mp ht) (by show(W.lookIn name od).map (·.isSome)=some false;rw[hl,hv];rfl) h
def zJv{ns:List Str}{Q:Unit->yc->Prop}(X:K.In s.heap)(I:ObjM s.heap x dx C mA)
 (hs:Yc K (.ref C) "__setattr__" = some (some (.builtin "object.__setattr__"))) (hp:W.plainOver K C=true) (ht:W.takerIn K C name=some none) (hh:W.hasDictIn K C=true)
 (hw:PySem.Within mA ns) (hsz:ns.length<=yB)
 (h:∀h',ObjM h' x dx C (fun y=>if y=name then some v else mA y)->Yj dx s.heap h'->Q () {s with heap:=h',toks:=s.toks+2 }) :
 yk (yp prog w) A (setAttr (.ref x) name v) Q E s:=by
 obtain⟨od,J,hl⟩:=I.look;refine W.set_plain X J hs (W.osa_open (s:={s with toks:=s.toks+1 }) (r:=none) X J hp ht fun b=>?_);obtain⟨cd,hc,hd'⟩:=W.any_some hh;have hx:s.heap.get? x=some ⟨.ref C,some dx, .plain,#[]⟩:=I.obj;refine ya (ye (ya (ya (wpAny_loadPart hx (ya (W.Looks.here (s:={s with toks:=s.toks+1 }) (W.looks_clsIn X hc) ?_))))));rw[hd'];refine ye (a:=some dx) (ya (ye (ya ?_)));refine wpAny_nsSet1 (s:={s with toks:=s.toks+1 }) I.ns fun h' hn2 hs2=>?_;obtain⟨oD,esD,epD,hoD,hdD,hcD⟩:=hn2.count (PySem.Within.cons name v hw);refine ya (wpAny_lookBehind hoD (by rw[hdD];exact pastItsLine_dict (yy hcD (by rw[length_cons];omega))) ?_);exact ye (h _ ⟨(hs2.2 _ (yF I.ne)).trans I.obj,hn2,I.ne⟩ hs2)
def ztt{R:Result->yc->Prop}{vs:List Value}{kw:List (Str×Value)}(X:K.In s.heap)(hm:W.makesIn K C=true)
 (hi:Yc K (.ref C) "__init__" = some (some (.ref f))) (hf:W.typeIn K (.ref f)=some (.type "function"))
 (h:Xc (yp prog w) (A.under (.builtin "type.__call__" ⟨.ref C::vs,kw⟩)) (.call (.ref f) ⟨.ref (s.heap.objs.size+1)::vs,kw⟩) (W.InitBack (s.heap.objs.size+1) R)
  {s with heap:=(s.heap.push xJ).push (W.instObj C s.heap.objs.size)}) :
 Xc (yp prog w) A (.call (.ref C) ⟨vs,kw⟩) R s:=by
 obtain⟨hh,g,d,t,os⟩:=s;exact W.make_core (W.makes_of X hm) (W.looks_findIn X hi) (fun self=>W.bind_fn X self hf) (.inl rfl) h
end
def zvk(f:Str)(v:V):List (Str×V)->List (Str×V)
 |[]=>[(f,v)]
 |(g,x)::r=>if g=f then(g,v)::r else(g,x)::zvk f v r
def zqj(f g:Str)(v:V):∀fs:List (Str×V),(zvk f v fs).lookup g=if g=f then some v else fs.lookup g
 |[]=>by
  show YD g [(f,v)]=_
  by_cases h:g=f
  ·have hb:(g==f)=true:=beq_iff_eq.mpr h;simp only[YD,hb,if_pos h]
  ·have hb:(g==f)=false:=beq_eq_false_iff_ne.mpr h;simp only[YD,hb,if_neg h]
 |(k,x)::r=>by
  have ih:=zqj f g v r;rw[show zvk f v ((k,x)::r)=(if k=f then(k,v)::r else(k,x)::zvk f v r) from rfl]
  by_cases hk:k=f
  ·rw[if_pos hk]
   by_cases h:g=k
   ·have hb:(g==k)=true:=beq_iff_eq.mpr h;simp only[YD,hb,if_pos (h.trans hk)]
   ·have hb:(g==k)=false:=beq_eq_false_iff_ne.mpr h;simp only[YD,hb,if_neg (fun e:g=f=>h (e.trans hk.symm))]
  ·rw[if_neg hk]
   by_cases h:g=k
   ·have hb:(g==k)=true:=beq_iff_eq.mpr h;simp only[YD,hb,if_neg (fun e:g=f=>hk (h.symm.trans e))]
   ·have hb:(g==k)=false:=beq_eq_false_iff_ne.mpr h;simp only[YD,hb];exact ih
def zMj(f:Str)(v:V):∀fs:List (Str×V),f∈(zvk f v fs).map (·.1)/\∀g,g∈fs.map (·.1)->g∈(zvk f v fs).map (·.1)
 |[]=>⟨by simp[zvk],fun g h=>by simp at h⟩
 |(k,x)::r=>by
  obtain⟨i1,i2⟩:=zMj f v r;rw[show zvk f v ((k,x)::r)=(if k=f then(k,v)::r else(k,x)::zvk f v r) from rfl]
  by_cases hk:k=f
  ·rw[if_pos hk];subst hk;exact⟨by simp,fun g h=>by simpa using h⟩
  ·rw[if_neg hk];refine⟨?_,fun g h=>?_⟩
   ·rw[map_cons];exact mem_cons_of_mem _ i1
   ·rw[map_cons]at h ⊢;rcases List.mem_cons.mp h with e | e
    ·exact List.mem_cons.mpr (.inl e)
    ·exact mem_cons_of_mem _ (i2 g e)
def zoj(f:Str)(v:V):∀fs:List (Str×V),(zvk f v fs).length<=fs.length+1
 |[]=>by simp[zvk]
 |(k,x)::r=>by
  have ih:=zoj f v r;rw[show zvk f v ((k,x)::r)=(if k=f then(k,v)::r else(k,x)::zvk f v r) from rfl]
  by_cases hk:k=f
  ·rw[if_pos hk,length_cons,length_cons];omega
  ·rw[if_neg hk,length_cons,length_cons];omega
def RelO.some_of{v:V}{o:Option Value}(r:RelO (some v) o):∃u,o=some u/\RelV v u:=by
 cases o with
 |none=>exact(show False from r).elim
 |some u=>exact⟨u,rfl,r⟩
def RelO.none_of{o:Option Value}(r:RelO none o):o=none:=by
 cases o with
 |none=>rfl
 |some u=>exact(show False from r).elim
def z8m{v:V}{u:Value}(r:RelV v u):W.handedIn u=true:=by
 cases v with
 |non=>cases (show u=Yi from r);rfl
 |bl b=>cases (show u=Value.bool b from r);rfl
 |int i=>obtain⟨t,e⟩:=(show ∃t,u=Value.int i t from r);cases e;rfl
 |str x=>obtain⟨t,e⟩:=(show ∃t,u=Value.str x t from r);cases e;rfl
 |byt b=>obtain⟨t,e⟩:=(show ∃t,u=Value.bytes b t from r);cases e;rfl
 |flt b=>obtain⟨t,e⟩:=(show ∃t,u=Value.float b t from r);cases e;rfl
 |ref a=>cases (show u=yC a from r);rfl
 |ty n=>cases (show u=YC n from r);rfl
section
variable {P:yv}{w:yE}{H H':Hp}{h h':yT}{a C dx:Addr}{fs fs':List (Str×V)}
def z4l(hok:HOk P w H h)(e:H a=some (.ins C dx fs)):∃mA,ObjM h a dx C mA/\(∀f,RelO (fs.lookup f) (mA f))/\PySem.Within mA (fs.map (·.1))/\fs.length<=1000/\H dx=some (.own a):=by
 obtain⟨d,z,ne,ob,mA,n,r,q⟩:=(show ObjOk P w H h a (.ins C dx fs) from hok a _ e)
 exact⟨mA,⟨ob,n,ne⟩,r,q,z,d⟩
end
structure Cls(K:yr)(C:Addr):Prop where
 pg:W.plainGet K C Str.empty=true
 hd:W.hasDictIn K C=true
 po:W.plainOver K C=true
 sa:Yc K (.ref C) "__setattr__" = some (some (.builtin "object.__setattr__"))
def Cls.get{K:yr}{C:Addr}(c:Cls K C)(f:Str):W.plainGet K C f=true:=c.pg
def NoAttr(K:yr)(C:Addr)(f:Str):Prop:=Yc K (.ref C) f=some none
def NoAttr.taker{K:yr}{C:Addr}{f:Str}(n:NoAttr K C f):W.takerIn K C f=some none:=by
 unfold W.takerIn;rw[show Yc K (.ref C) f=some none from n];rfl
structure Con(K:yr)(C:Addr)(f:Str)(v:V)(u:Value):Prop where
 at_:Yc K (.ref C) f=some (some u)
 rel:RelV v u
 get:W.specialIn K u "__get__" = some none
 cp:W.copiedNames.contains f=false
structure Meth(K:yr)(C:Addr)(m:Str)(f:Addr):Prop where
 at_:Yc K (.ref C) m=some (some (.ref f))
 fn:W.isFn K (.ref f)=true
 kp:W.keepIn K (.ref f)=true
section
variable {X:Cx}{pins:List (Addr×YL)}{σ:St}{H:Hp}{s:yc}{a C dx:Addr}{fs:List (Str×V)}{f:Str}{v:V}{A:yH}{E:Value->yc->Prop}
def zVq{b:Bool}{Q:Value->yc->Prop}(I:Inv X pins σ H s)(e:H a=some (.ins C dx fs))(c:Cls X.K C)(n:NoAttr X.K C f)(l:fs.lookup f=some v)
 (h:∀u s',Inv X pins σ H s'->RelV v u->Q u s'):yk (yp X.prog X.w) A (getAttr (.ref a) f b) Q E s:=by
 obtain⟨mA,O,r,_,_,_⟩:=z4l I.hok e;obtain⟨u,hu,ru⟩:=RelO.some_of (v:=v) (o:=mA f) (by rw[<-l];exact r f);exact zYv I.kIn O (c.get f) c.hd n hu (z8m ru) (h u _ (I.tok _) ru)
def zli{m:Str}{g:Addr}{pl:Sem Bool}{Q:Value×List Value->yc->Prop}(I:Inv X pins σ H s)(e:H a=some (.ins C dx fs))(c:Cls X.K C)(k:Meth X.K C m g)(l:fs.lookup m=none)
 (h:Q (.ref g,[.ref a]) s):yk (yp X.prog X.w) A (getMethod (.ref a) m pl) Q E s:=by
 obtain⟨mA,O,r,_,_,_⟩:=z4l I.hok e;have hn:mA m=none:=RelO.none_of (by rw[<-l];exact r m);exact znu I.kIn O (c.get m) k.at_ k.fn hn h
def znq{y:V}{u:Value}{Q:Unit->yc->Prop}(I:Inv X pins σ H s)(e:H a=some (.ins C dx fs))(c:Cls X.K C)(n:NoAttr X.K C f)(hl:fs.length<1000)(ry:RelV y u)
 (h:∀s',Inv X pins σ (upd H a (.ins C dx (zvk f y fs))) s'->Q () s'):yk (yp X.prog X.w) A (setAttr (.ref a) f u) Q E s:=by
 obtain⟨mA,O,r,wi,_,ho⟩:=z4l I.hok e;have hz:(fs.map (·.1)).length<=yB:=by rw[length_map,Yp];omega
 refine zJv I.kIn O c.sa c.po n.taker c.hd wi hz fun h' O' sb=>h _ ?_;have hd:∃o,h'.get? dx=some o:=let ⟨o,_,_,e',_⟩:=O'.ns;⟨o,e'⟩;refine I.write (x:=a) (e:=dx) (by rw[e];exact xL) (.inr ho) (fun b q hb z=>(sb.2 b hb).trans z) hd ?_;refine⟨by rw[zK O.ne];exact ho,?_,O.ne,O'.obj,_,O'.ns,fun g=>?_,fun g hg=>?_⟩
 ·have:=zoj f y fs;omega
 ·show RelO ((zvk f y fs).lookup g) (if g=f then some u else mA g);rw[zqj]
  by_cases q:g=f
  ·rw[if_pos q,if_pos q];exact ry
  ·rw[if_neg q,if_neg q];exact r g
 ·by_cases q:g=f
  ·rw[q];exact(zMj f y fs).1
  ·refine(zMj f y fs).2 g (wi g fun z=>hg ?_);show(if g=f then some u else mA g)=none;rw[if_neg q];exact z
def Inv.made(I:Inv X pins σ H s):Inv X pins σ (upd (upd H s.heap.objs.size (.own (s.heap.objs.size+1))) (s.heap.objs.size+1) (.ins C s.heap.objs.size []))
 {s with heap:=(s.heap.push xJ).push (W.instObj C s.heap.objs.size)}:=by
 have e1:(s.heap.push xJ).get? s.heap.objs.size=some xJ:=yo s.heap rfl
 have e2:((s.heap.push xJ).push (W.instObj C s.heap.objs.size)).get? (s.heap.objs.size+1)=some (W.instObj C s.heap.objs.size):=by
  have:=yo (s.heap.push xJ) (o:=W.instObj C s.heap.objs.size) rfl
  rwa [Yl]at this
 have e3:(s.heap.push xJ).Ns s.heap.objs.size (fun _=>none):=⟨xJ,#[],_,e1,rfl,(fun e he=>absurd he (by simp)),fun _=>rfl⟩
 have I1:=I.laid (a:=s.heap.objs.size) (o := .own (s.heap.objs.size+1)) (h':=s.heap.push xJ) (t':=s.toks) (fun b u q=>yd _ q) (yh _) ⟨_,e1⟩;refine I1.laid (a:=s.heap.objs.size+1) (o := .ins C s.heap.objs.size []) (t':=s.toks) (fun b u q=>yd _ q) (Nat.le_of_eq (Yl _ _)) ?_;have ne:s.heap.objs.size≠s.heap.objs.size+1:=yw (Yr _);refine⟨by rw[zK ne,zF],Yq _,ne,e2,fun _=>none,(Heap.Ns1.of_empty e3).at fun o q=>yd _ q,fun _=>xL,fun y hy=>absurd rfl hy⟩
def zIr{prog:yv}{w:yE}{env:Env}{e:Expr}{f:Str}{pos:xi}{s:yc}{Q:Value->yc->Prop}(hb:Yn e f env (yY e env)=yY e env)
 (h:yk (yp prog w) A (yY e env) (fun o s₁=>yk (yp prog w) A (getAttr o f true) Q E s₁) E s):yk (yp prog w) A (yY (.Attribute e f pos) env) Q E s :=
 Attribute_any_ h (by rw[arm_eval_Attribute,hb])
end
def zmA(K:yr)(ta:TE)(f:Str):TE:=fun σ H Q=>ta σ H fun x H1=>∃a C dx fs v,x = .ref a/\H1 a=some (.ins C dx fs)/\Cls K C/\NoAttr K C f/\fs.lookup f=some v/\Q v H1
def zeA(K:yr)(ta tv:TE)(f:Str):TS:=fun D σ H=>tv σ H fun y H1=>ta σ H1 fun x H2=>∃a C dx fs,x = .ref a/\H2 a=some (.ins C dx fs)/\Cls K C/\NoAttr K C f/\fs.length<1000 /\
 D.nx σ (upd H2 a (.ins C dx (zvk f y fs)))
section
variable {X:Cx}{o e value:Expr}{f:Str}{pos pos' tpos:xi}{ta tv:TE}
def zex(he:PE X e ta)(hb:Yn e f X.env (yY e X.env)=yY e X.env):PE X (.Attribute e f pos) (zmA X.K ta f):=by
 intro pins s σ H Q I h;refine zIr hb (thn (he pins s σ H _ I h) fun u s1 ⟨x,H1,I1,rx,a,C,dx,fs,v,ex,ea,c,n,l,q⟩=>?_);subst ex;obtain rfl:u=yC a:=rx;exact zVq I1 ea c n l fun u' s2 I2 ru=>⟨v,H1,I2,ru,q⟩
def zPy(ha:PE X o ta)(hv:PE X value tv)(hs:xS value (some (.Attribute o f pos')) pos.line X.env=pure false):PS X (.Assign [.Attribute o f pos'] value pos) (zeA X.K ta tv f):=by
 intro pins s σ H D I h;refine plainObj_wpAny_Assign_Attribute (thn (hv pins s σ H _ I h) fun u s1 ⟨y,H1,I1,ry,q⟩=>thn (ha pins s1 σ H1 _ I1 q) fun ov s2 ⟨x,H2,I2,rx,a,C,dx,fs,ex,ea,c,n,l,q2⟩=>?_) hs;subst ex;obtain rfl:ov=yC a:=rx;exact znq I2 ea c n l ry fun s3 I3=>⟨σ,_,I3,q2⟩
end
section
variable {X:Cx}{pins:List (Addr×YL)}{σ:St}{H:Hp}{s:yc}{A:yH}{E:Value->yc->Prop}{Q:Value->yc->Prop}{c:Value}{b:Bool}
inductive TyOf(K:yr)(H:Hp):V->Value->Prop where
 |non:TyOf K H .non (.type "NoneType")
 |bl (x:Bool):TyOf K H (.bl x) (.type "bool")
 |int (i:Int):TyOf K H (.int i) (.type "int")
 |str (x:Str):TyOf K H (.str x) (.type "str")
 |flt (x:UInt64):TyOf K H (.flt x) (.type "float")
 |lst {a:Addr} {xs:List V} (e:H a=some (.lst xs)):TyOf K H (.ref a) (.type "list")
 |frz {a:Addr} {o:YL} {xs:List V} (e:H a=some (.frz o (.lst xs))):TyOf K H (.ref a) (.type "list")
 |tup {a:Addr} {xs:List V} (e:H a=some (.tup xs)):TyOf K H (.ref a) (.type "tuple")
 |dK {a:Addr} {kvs:List (Key×V)} (e:H a=some (.dK kvs)):TyOf K H (.ref a) (.type "dict")
 |dT {a:Addr} {kvs:List (List Key×V)} (e:H a=some (.dT kvs)):TyOf K H (.ref a) (.type "dict")
 |ins {a C dx:Addr} {fs:List (Str×V)} (e:H a=some (.ins C dx fs)) (cl:Cls K C) (ha:Yc K (.ref C) "__class__" = some (some (.builtin "object.__class__")))
  (hn:W.specialIn K (.builtin "object.__class__") "__get__" = some (some (.builtin "getset_descriptor.__get__"))) (htk:W.takesIn K (.builtin "object.__class__")=some true)
  (hm:Xb K C (.type "object")=some true):TyOf K H (.ref a) (.ref C)
def zrr{x:V}{u t:Value}(I:Inv X pins σ H s)(rx:RelV x u)(ty:TyOf X.K H x t)(e:W.kitOne X.K t c=some b)(h:∀tk,Q (.bool b) {s with toks:=tk }) :
 yk (yp X.prog X.w) A (call (.builtin "isinstance") [u,c]) Q E s:=by
 cases ty with
 |non=>cases (show u=Yi from rx);exact xT W.kitx_none I.kIn xL e (fun z=>nomatch z) h
 |bl y=>cases (show u=Value.bool y from rx);exact xT W.kitx_bool I.kIn xL e (fun z=>nomatch z) h
 |int i=>obtain⟨t,q⟩:=(show ∃t,u=Value.int i t from rx);cases q;exact xT W.kitx_int I.kIn xL e (fun z=>nomatch z) h
 |str y=>obtain⟨t,q⟩:=(show ∃t,u=Value.str y t from rx);cases q;exact xT W.kitx_str I.kIn xL e (fun z=>nomatch z) h
 |flt y=>obtain⟨t,q⟩:=(show ∃t,u=Value.float y t from rx);cases q;exact xT W.kitx_float I.kIn xL e (fun z=>nomatch z) h
 |@lst a xs ea=>
  cases (show u=yC a from rx);obtain⟨_,_,n,_,h1⟩:=(show ObjOk X.prog X.w H s.heap a (.lst xs) from I.hok a _ ea)
  exact xT W.kitx_list I.kIn ⟨_,h1,rfl⟩ e (fun z=>nomatch z) h
 |@frz a ob xs ea=>
  cases (show u=yC a from rx);obtain⟨_,_,_,n,_,h1⟩:=(show ObjOk X.prog X.w H s.heap a (.frz ob (.lst xs)) from I.hok a _ ea)
  exact xT W.kitx_list I.kIn ⟨_,h1,rfl⟩ e (fun z=>nomatch z) h
 |@tup a xs ea=>
  cases (show u=yC a from rx);obtain⟨_,_,_,p⟩:=(show ObjOk X.prog X.w H s.heap a (.tup xs) from I.hok a _ ea)
  obtain⟨o,h1,h2,_⟩:=p;exact xT W.kitx_tuple I.kIn ⟨o,h1,h2⟩ e (fun z=>nomatch z) h
 |@dK a kvs ea=>
  cases (show u=yC a from rx);obtain⟨_,_,vs,_,p⟩:=(show ObjOk X.prog X.w H s.heap a (.dK kvs) from I.hok a _ ea)
  obtain⟨o,es,ep,h1,h2,_⟩:=p;exact xT W.kitx_dict I.kIn ⟨o,h1,h2.1⟩ e (fun z=>nomatch z) h
 |@dT a kvs ea=>
  cases (show u=yC a from rx);obtain⟨_,_,xs,_,o,es,ep,h1,h2,_⟩:=(show ObjOk X.prog X.w H s.heap a (.dT kvs) from I.hok a _ ea)
  exact xT W.kitx_dict I.kIn ⟨o,h1,h2.1⟩ e (fun z=>nomatch z) h
 |@ins a C dx fs ea cl ha hn htk hm=>
  cases (show u=yC a from rx);obtain⟨mA,O,_⟩:=z4l I.hok ea;obtain⟨od,J,_⟩:=O.look;exact xT (W.kitx_own (cl.get _) cl.hd ha hn htk hm) I.kIn J e (fun z=>nomatch z) h
end
structure Room(k:Nat)(A:yH):Prop where
 hd:A.handled=none
 dp:A.depth+3*k+5<recursionLimit
 un:A.units+16*k+200<cLine
 gd:A.guards=some []
def Room.mono{j k:Nat}{A:yH}(r:Room k A)(h:j<=k):Room j A:=⟨r.hd,by have:=r.dp;omega,by have:=r.un;omega,r.gd⟩
def Room.deeper{k:Nat}{A:yH}(r:Room (k+1) A)(env:Env):Room k (A.deeper env) :=
 ⟨r.hd,by have:=r.dp;show A.depth+1+3*k+5<_;omega,by have:=r.un;show A.units+3+16*k+200<_;omega,r.gd⟩
def zbq{A:yH}{C:Addr}{us:List Value}{kw:List (Str×Value)}:(A.under (.builtin "type.__call__" ⟨.ref C::us,kw⟩)).depth=A.depth+1:=by
 first | rfl | simp[Around.under,Code.weight,Code.isCreation,Code.isGuard,Code.isCaller,Code.frames,Code.isFrame,guardIds]
def z0q{A:yH}{C:Addr}{us:List Value}{kw:List (Str×Value)}:(A.under (.builtin "type.__call__" ⟨.ref C::us,kw⟩)).units=A.units+1:=by
 first | rfl | simp[Around.under,Code.cUnits,Code.frames,Code.isFrame]
def zEo{A:yH}{C:Addr}{us:List Value}{kw:List (Str×Value)}:(A.under (.builtin "type.__call__" ⟨.ref C::us,kw⟩)).guards=A.guards:=by
 first | rfl | (cases h:A.guards<;>simp[Around.under,Code.guards,Code.isGuard,guardIds,h])
def Room.make{k:Nat}{A:yH}(r:Room (k+1) A)(C:Addr)(us:List Value)(kw:List (Str×Value)):Room k (A.under (.builtin "type.__call__" ⟨.ref C::us,kw⟩)) :=
 ⟨r.hd,by have:=r.dp;rw[zbq];omega,by have:=r.un;rw[z0q];omega,by rw[zEo];exact r.gd⟩
def Room.depth{k:Nat}{A:yH}(r:Room k A):A.depth<recursionLimit:=by have:=r.dp;omega
def Room.units{k:Nat}{A:yH}(r:Room k A):A.units+64<cLine:=by have:=r.un;omega
def z8z:TA:=fun _ H Q=>Q [] H
def zyz(ta:TE)(tr:TA):TA:=fun σ H Q=>ta σ H fun x H1=>tr σ H1 fun xs H2=>Q (x::xs) H2
section
variable {X:Cx}{e:Expr}{es:List Expr}{te:TE}{t:TA}{pos:xi}
def zUg:PA X [] z8z:=fun _ _ _ _ H Q I h=>Calls.spliced_nil ⟨[],H,I, .nil,h⟩
def zoe(ha:PE X e te)(hr:PA X es t)(hs:yg (e::es) X.env=(false,yY e X.env)::yg es X.env:=by rfl):PA X (e::es) (zyz te t):=by
 intro pos pins s σ H Q I h;rw[hs];show yk _ _ (spliced ((false,yY e X.env)::Yh pos (yg es X.env))) _ _ s;refine Calls.spliced_cons (thn (ha pins s σ H _ I h) fun u s1 ⟨x,H1,I1,r1,q1⟩=>?_);exact thn (hr pos pins s1 σ H1 _ I1 q1) fun us s2 ⟨xs,H2,I2,r2,q2⟩=>⟨x::xs,H2,I2, .cons r1 r2,q2⟩
def zbA(t:TA):TE:=fun σ H Q=>t σ H fun xs H1=>xs.length<=yB/\∀p,H1 p=none->Q (.ref p) (upd H1 p (.tup xs))
def zoA(t:TA):TE:=fun σ H Q=>t σ H fun xs H1=>xs.length<=yB/\∀p,H1 p=none->Q (.ref p) (upd H1 p (.lst xs))
def zUx{x1}(h:PA X es t):PE X (.Tuple es x1 pos) (zbA t):=by
 intro pins s σ H Q I hq;refine wpAny_Tuple_spliced (thn (h pos pins s σ H _ I hq) fun us s1 ⟨xs,H1,I1,r,z,q⟩=>⟨by rw[<-r.length];exact z,?_⟩);have hf:H1 s1.heap.objs.size=none:=I1.hok.fresh (yh _);refine⟨.ref s1.heap.objs.size,upd H1 s1.heap.objs.size (.tup xs),I1.laid (t':=s1.toks) (fun b u e=>yd _ e) (yh _) ?_,rfl,q _ hf⟩;exact⟨z,us,r,⟨_,yo _ rfl,rfl,_,rfl⟩⟩
def zdx(h:PA X es t):PE X (.List es pos) (zoA t):=by
 intro pins s σ H Q I hq;refine wpAny_List_spliced (thn (h pos pins s σ H _ I hq) fun us s1 ⟨xs,H1,I1,r,z,q⟩=>⟨by rw[<-r.length];exact z,?_⟩);have hf:H1 s1.heap.objs.size=none:=I1.hok.fresh (yh _);refine⟨.ref s1.heap.objs.size,upd H1 s1.heap.objs.size (.lst xs),I1.laid (t':=s1.toks) (fun b u e=>yd _ e) (yh _) ?_,rfl,q _ hf⟩;exact⟨z,us,0,r,yo _ rfl⟩
end
abbrev Sp:=List V->Hp->VK->XK->Prop
abbrev CXT:=List Env->Hp->yc->XK->Value->yc->Prop
structure Env0(P:yv)(w:yE)(K:yr)(mg:Str->Option Value)(base:yT)(A:yH)(outer:List Env)(s:yc)(H:Hp):Prop where
 frames:A.frames=some outer
 mod:Mod K mg base
 bs:∀b o,base.get? b=some o->s.heap.get? b=some o/\H b=none
 bsz:base.objs.size<=s.heap.objs.size
 funs:s.heap.FunFrames base outer
 frf:∀b∈frs outer,H b=none
 hok:HOk P w H s.heap
 bare:AllBare s.gens
def CE(outer:List Env)(P:yv)(w:yE)(H:Hp)(s:yc)(Q:VK)(u:Value)(s':yc):Prop :=
 ∃v H',s'.os=s.os/\AllBare s'.gens/\Un (frs outer) [] H H' s.heap s'.heap/\HOk P w H' s'.heap/\RelV v u/\Q v H'
def CR(CX:CXT)(outer:List Env)(P:yv)(w:yE)(H:Hp)(s:yc)(Q:VK)(E:XK)(r:Result)(s':yc):Prop :=
 match r with
 |.ok (.ret u)=>CE outer P w H s Q u s'
 |.ok _=>False
 |.error e=>CX outer H s E e s'
structure FnOk(P:yv)(w:yE)(K:yr)(mg:Str->Option Value)(base:yT)(CX:CXT)(k:Nat)(f:Addr)(fd:yf)(ps:List Str)(sp:Sp):Prop where
 len:∀vs H Q E,sp vs H Q E->vs.length=ps.length
 run:∀(A:yH)(outer:List Env)(s:yc)(H:Hp)(args:Args)(us:List Value)(vs:List V)(Q:VK)(E:XK),Room k A->Env0 P w K mg base A outer s H->BindsTo s fd args (ps.zip us)->Vals vs us->sp vs H Q E ->
  Xc (yp P w) A (.call (.ref f) args) (CR CX outer P w H s Q E) s
def Env0.make{P:yv}{w:yE}{K:yr}{mg:Str->Option Value}{base:yT}{A:yH}{outer:List Env}{s:yc}{H:Hp}(e:Env0 P w K mg base A outer s H)(C:Addr)(us:List Value)(kw:List (Str×Value)) :
 Env0 P w K mg base (A.under (.builtin "type.__call__" ⟨.ref C::us,kw⟩)) outer s H:=⟨by first | exact e.frames | (simpa[Around.under,Code.envs,Code.isFrame,pushEnvs] using e.frames),e.mod,e.bs,e.bsz,e.funs,e.frf,e.hok,e.bare⟩
section
variable {X:Cx}{pins:List (Addr×YL)}{σ:St}{H:Hp}{s s':yc}
def Inv.env0(I:Inv X pins σ H s):Env0 X.prog X.w X.K X.mg X.base X.A X.stack s H :=
 ⟨I.ok.frames,I.ok.mod,I.bs,yy I.ok.bsz I.sz,I.stack,I.stkFree,I.hok,I.bare⟩
def Inv.after{Q:VK}{u:Value}(I:Inv X pins σ H s)(h:CE X.stack X.prog X.w H s Q u s'):EP X pins σ Q u s':=by
 obtain⟨v,H',os,bare,un,hok,r,q⟩:=h;obtain⟨hh,g,d,t,os'⟩:=s';obtain rfl:os'=s.os:=os;exact⟨v,H',I.call (h':=hh) (g':=g) (d':=d) (t':=t) (ch:=[]) un hok bare (fun b z=>absurd z (by simp)),r,q⟩
end
def zws(sp:Sp)(dvs:List V)(E:XK)(t:TA):TE:=fun σ H Q=>t σ H fun vs H1=>sp (vs++dvs) H1 Q E
def zTw(C:Addr)(m:Str)(sp:Sp)(dvs:List V)(E:XK)(ta:TE)(t:TA):TE:=fun σ H Q=>ta σ H fun x H1=>∃a dx fs,x = .ref a/\H1 a=some (.ins C dx fs)/\fs.lookup m=none /\
 t σ H1 fun vs H2=>sp (x::(vs++dvs)) H2 Q E
def z9y(C:Addr)(sp:Sp)(dvs:List V)(E:XK)(t:TA):TE:=fun σ H Q=>t σ H fun vs H1=>∀x dx,H1 x=none->H1 dx=none->dx≠x ->
 sp (.ref x::(vs++dvs)) (upd (upd H1 dx (.own x)) x (.ins C dx [])) (fun v H2=>v = .non/\Q (.ref x) H2) E
def Binds(K:yr)(fd:yf)(ps:List Str)(ds:List Value):Prop :=
 ∀(s:yc)(us:List Value),K.In s.heap->(us++ds).length=ps.length->BindsTo s fd ⟨us,[]⟩ (ps.zip (us++ds))
def Binds.all{K:yr}{fd:yf}{ps:List Str}(h:∀us:List Value,us.length=ps.length->bindArgs fd ⟨us,[]⟩=pure (ps.zip us)):Binds K fd ps []:=fun s us _ hl=>by
 rw[append_nil]at hl ⊢;exact .of_eq (h us hl)
def zrh(CX:CXT)(X:Cx)(E:XK):Prop:=∀(pins:List (Addr×YL)) (σ:St) (H:Hp) (s:yc) (e:Value) (s':yc),Inv X pins σ H s->CX X.stack H s E e s'->X.xe e s'
section
variable {X:Cx}{CX:CXT}{k:Nat}{f C:Addr}{fd:yf}{ps:List Str}{sp:Sp}{dvs:List V}{ds:List Value}{E:XK}{x m:Str}{p pos apos:xi}{e o:Expr}{es:List Expr}{ta:TE}{t:TA}
def z4r{pins:List (Addr×YL)}{σ:St}{H:Hp}{s:yc}{Q:VK}{us:List Value}{vs:List V}(F:FnOk X.prog X.w X.K X.mg X.base CX k f fd ps sp)(hr:Room k X.A)(hb:Binds X.K fd ps ds)(hd:Vals dvs ds)(hx:zrh CX X E)
 (I:Inv X pins σ H s) (r:Vals vs us) (h:sp (vs++dvs) H Q E):yk (yp X.prog X.w) X.A (call (.ref f) us) (EP X pins σ Q) X.xe s:=by
 have r2:Vals (vs++dvs) (us++ds):=r.append hd;have hl:(us++ds).length=ps.length:=by rw[<-r2.length];exact F.len _ _ _ _ h
 refine wpAny_call (YO (F.run X.A X.stack s H ⟨us,[]⟩ (us++ds) (vs++dvs) Q E hr I.env0 (hb s us I.kIn hl) r2 h) fun r s' hq=>?_)
 cases r with
 |error e=>exact hx pins σ H s e s' I hq
 |ok fl=>
  cases fl with
  |ret u=>exact I.after hq
  |next=>exact Yu hq
  |brk=>exact Yu hq
  |cont=>exact Yu hq
def z3v(F:FnOk X.prog X.w X.K X.mg X.base CX k f fd ps sp)(hr:Room k X.A)(hg:Gl X x)(hm:X.mg x=some (.ref f))(hk:W.keepIn X.K (.ref f)=true)(hb:Binds X.K fd ps ds)(hd:Vals dvs ds)(hx:zrh CX X E)
 (ha:PA X (e::es) t) (hdb:(x==("__debug__":Str))=false:=by decide) (he:yg (e::es) X.env=(false,yY e X.env)::yg es X.env:=by rfl) (hpl:(Yh pos (yg es X.env)).any (·.1)=false:=by rfl) :
 PE X (.Call (.Name x p) (e::es) [] pos) (zws sp dvs E t):=by
 intro pins s σ H Q I h;refine xm (zOf I hg hm ?_ hdb);refine W.callWith_K (h₀:=X.base) I.ok.mod.kin hk (thn (ha pos pins s σ H _ I h) fun us s1 ⟨vs,H1,I1,r,q⟩=>⟨I1.kIn,?_⟩) he hpl;exact z4r F hr hb hd hx I1 r q
def zYw{pl:Sem Bool}(he:PE X o ta)(c:Cls X.K C)(hm:Meth X.K C m f)(F:FnOk X.prog X.w X.K X.mg X.base CX k f fd ps sp)(hr:Room k X.A)(hb:Binds X.K fd ps ds)(hd:Vals dvs ds)(hx:zrh CX X E)(ha:PA X (e::es) t)
 (hst:yg (e::es) X.env=(false,yY e X.env)::yg es X.env:=by rfl) (hpl:(Yh pos (yg es X.env)).any (·.1)=false:=by rfl)
 (ht:yY (.Call (.Attribute o m apos) (e::es) [] pos) X.env=(do
  let ov <-yY o X.env
  standAt apos.atName
  let (f,first) <-xy [ov] (getMethod ov m pl)
  callWith pos f first (Yh pos (yg (e::es) X.env)) (xA pos (YE [] X.env))):=by rfl) :
 PE X (.Call (.Attribute o m apos) (e::es) [] pos) (zTw C m sp dvs E ta t):=by
 intro pins s σ H Q I h;refine W.methodCall_KW (pl:=pl) (thn (he pins s σ H _ I h) fun u s1 ⟨x,H1,I1,rx,a,dx,fs,ex,ea,l,q⟩=>?_) ht;subst ex;obtain rfl:u=yC a:=rx;refine zli I1 ea c hm l ?_;refine W.callWith_K (first:=[.ref a]) (h₀:=X.base) I.ok.mod.kin hm.kp (thn (ha pos pins s1 σ H1 _ I1 q) fun us s2 ⟨vs,H2,I2,r,q2⟩=>⟨I2.kIn,?_⟩) hst hpl;exact z4r (us := .ref a::us) (vs := .ref a::vs) F hr hb hd hx I2 (.cons rfl r) q2
def zzu{pl:Sem Bool}(he:PE X o ta)(c:Cls X.K C)(hm:Meth X.K C m f)(F:FnOk X.prog X.w X.K X.mg X.base CX k f fd ps sp)(hr:Room k X.A)(hb:Binds X.K fd ps ds)(hd:Vals dvs ds)(hx:zrh CX X E)
 (ht:yY (.Call (.Attribute o m apos) [] [] pos) X.env=(do
  let ov <-yY o X.env
  standAt apos.atName
  let (f,first) <-xy [ov] (getMethod ov m pl)
  callWith pos f first (Yh pos (yg [] X.env)) (xA pos (YE [] X.env))):=by rfl) :
 PE X (.Call (.Attribute o m apos) [] [] pos) (zTw C m sp dvs E ta z8z):=by
 intro pins s σ H Q I h;refine W.methodCall_KW (pl:=pl) (thn (he pins s σ H _ I h) fun u s1 ⟨x,H1,I1,rx,a,dx,fs,ex,ea,l,q⟩=>?_) ht;subst ex;obtain rfl:u=yC a:=rx;refine zli I1 ea c hm l ?_;exact W.callWith_K0 (first:=[.ref a]) I1.kIn hm.kp (z4r (us:=[.ref a]) (vs:=[.ref a]) F hr hb hd hx I1 (.cons rfl .nil) q)
structure Mk(K:yr)(C f:Addr):Prop where
 makes:W.makesIn K C=true
 init:Yc K (.ref C) "__init__" = some (some (.ref f))
 fn:W.isFn K (.ref f)=true
 kp:W.keepIn K (.ref C)=true
def zlu{pins:List (Addr×YL)}{σ:St}{H:Hp}{s:yc}{Q:VK}{us:List Value}{vs:List V}(M:Mk X.K C f)(F:FnOk X.prog X.w X.K X.mg X.base CX k f fd ps sp)(hr:Room (k+1) X.A)(hb:Binds X.K fd ps ds)(hd:Vals dvs ds)
 (hx:zrh CX X E) (I:Inv X pins σ H s) (r:Vals vs us)
 (h:∀x dx,H x=none->H dx=none->dx≠x->sp (.ref x::(vs++dvs)) (upd (upd H dx (.own x)) x (.ins C dx [])) (fun v H2=>v = .non/\Q (.ref x) H2) E) :
 yk (yp X.prog X.w) X.A (call (.ref C) us) (EP X pins σ Q) X.xe s:=by
 have hq:=h (s.heap.objs.size+1) s.heap.objs.size (I.hok.fresh (xK _)) (I.hok.fresh (yh _)) (yw (Yr _));have I2:=Inv.made (C:=C) I;have r2:Vals (V.ref (s.heap.objs.size+1)::(vs++dvs)) (yC (s.heap.objs.size+1)::(us++ds)) := .cons rfl (r.append hd)
 have hl:(yC (s.heap.objs.size+1)::us++ds).length=ps.length:=by
  have e:=r2.length;rw[F.len _ _ _ _ hq]at e;exact e.symm
 refine wpAny_call (ztt (f:=f) I.kIn M.makes M.init (beq_iff_eq.mp M.fn) (YO (F.run _ X.stack _ _ ⟨yC (s.heap.objs.size+1)::us,[]⟩ (yC (s.heap.objs.size+1)::(us++ds)) _ _ E (hr.make C us [])
  (I2.env0.make C us []) (hb _ (yC (s.heap.objs.size+1)::us) I2.kIn hl) r2 hq) fun r s' hq'=>?_))
 cases r with
 |error e=>exact hx pins σ _ _ e s' I2 hq'
 |ok fl=>
  cases fl with
  |ret u=>
   obtain⟨v,H',I3,rv,ev,q3⟩:=I2.after hq';subst ev;exact⟨rv,⟨V.ref (s.heap.objs.size+1),H',I3,rfl,q3⟩⟩
  |next=>exact Yu hq'
  |brk=>exact Yu hq'
  |cont=>exact Yu hq'
def zgw(M:Mk X.K C f)(F:FnOk X.prog X.w X.K X.mg X.base CX k f fd ps sp)(hr:Room (k+1) X.A)(hg:Gl X x)(hm:X.mg x=some (.ref C))(hb:Binds X.K fd ps ds)(hd:Vals dvs ds)(hx:zrh CX X E)
 (ha:PA X (e::es) t) (hdb:(x==("__debug__":Str))=false:=by decide) (he:yg (e::es) X.env=(false,yY e X.env)::yg es X.env:=by rfl) (hpl:(Yh pos (yg es X.env)).any (·.1)=false:=by rfl) :
 PE X (.Call (.Name x p) (e::es) [] pos) (z9y C sp dvs E t):=by
 intro pins s σ H Q I h;refine xm (zOf I hg hm ?_ hdb);refine W.callWith_K (h₀:=X.base) I.ok.mod.kin M.kp (thn (ha pos pins s σ H _ I h) fun us s1 ⟨vs,H1,I1,r,q⟩=>⟨I1.kIn,?_⟩) he hpl;exact zlu M F hr hb hd hx I1 r q
end
section
variable {X:Cx}{CX:CXT}{k:Nat}{f C:Addr}{fd:yf}{ps ks:List Str}{sp:Sp}{E:XK}{x m:Str}{p pos apos kpos:xi}{e o:Expr}{es:List Expr}{kws:List xr}{te ta:TE}{t tk:TA}{nm:Option Str}
structure KBinds(K:yr)(fd:yf)(ps ks:List Str)(g:List Value->List Value->List Value)(gV:List V->List V->List V):Prop where
 to:∀(s:yc)(us ws:List Value),K.In s.heap->(g us ws).length=ps.length->BindsTo s fd ⟨us,ks.zip ws⟩ (ps.zip (g us ws))
 rel:∀{vs:List V} {us:List Value} {zs:List V} {ws:List Value},Vals vs us->Vals zs ws->Vals (gV vs zs) (g us ws)
variable {g:List Value->List Value->List Value}{gV:List V->List V->List V}
end
structure FnScope(N P:List Str)(sc:Xa):Prop where
 kind:sc.kind = .function
 co:sc.isCoroutine=false
 gen:sc.isGenerator=false
 nd:N.Nodup
 pre:N.take P.length=P
 par:∀x∈P,sc.names.lookup x=some .local\/sc.names.lookup x=some .cell
 nofree:∀y∈sc.names,y.2≠.free
def zJn{kindOf:Str->Option xa}{x:Str}:∀{binds:List (Str×Value)} {m:Str->Option Value},(∀v,(x,v)∉binds)->bindL kindOf binds m x=m x
 |[],_,_=>rfl
 |(n,v)::r,m,h=>by
  unfold bindL;rw[zJn fun w hw=>h w (mem_cons_of_mem _ hw)]
  split
  ·have:x≠n:=by rintro rfl;exact h v mem_cons_self
   simp[this]
  ·rfl
def zZm{kindOf:Str->Option xa}{x:Str}:∀{binds:List (Str×Value)} {m:Str->Option Value},(∀v,(x,v)∉binds)->bindC kindOf binds m x=m x
 |[],_,_=>rfl
 |(n,v)::r,m,h=>by
  unfold bindC;rw[zZm fun w hw=>h w (mem_cons_of_mem _ hw)]
  split
  ·rfl
  ·have:x≠n:=by rintro rfl;exact h v mem_cons_self
   simp[this]
def ztn{kindOf:Str->Option xa}{x:Str}{v:Value}:∀{P:List Str} {vs:List Value} {i:Nat} {m:Str->Option Value},P.Nodup->P[i]?=some x->vs[i]?=some v->kindOf x=some .local ->
 bindL kindOf (P.zip vs) m x=some v
 |[],_,_,_,_,h,_,_=>by simp at h
 |_::_,[],_,_,_,_,h,_=>by simp at h
 |p::P,w::vs,0,m,nd,h1,h2,hk=>by
  simp at h1 h2;subst h1;subst h2;show bindL kindOf ((p,w)::P.zip vs) m p=_;unfold bindL;rw[zJn fun v hv=>(List.nodup_cons.mp nd).1 (of_mem_zip hv).1,if_pos hk];simp
 |p::P,w::vs,i+1,m,nd,h1,h2,hk=>by
  show bindL kindOf ((p,w)::P.zip vs) m x=_;unfold bindL;exact ztn (i:=i) (List.nodup_cons.mp nd).2 (by simpa using h1) (by simpa using h2) hk
def zjn{kindOf:Str->Option xa}{x:Str}{v:Value}:∀{P:List Str} {vs:List Value} {i:Nat} {m:Str->Option Value},P.Nodup->P[i]?=some x->vs[i]?=some v->kindOf x≠some .local ->
 bindC kindOf (P.zip vs) m x=some v
 |[],_,_,_,_,h,_,_=>by simp at h
 |_::_,[],_,_,_,_,h,_=>by simp at h
 |p::P,w::vs,0,m,nd,h1,h2,hk=>by
  simp at h1 h2;subst h1;subst h2;show bindC kindOf ((p,w)::P.zip vs) m p=_;unfold bindC;rw[zZm fun v hv=>(List.nodup_cons.mp nd).1 (of_mem_zip hv).1,if_neg hk];simp
 |p::P,w::vs,i+1,m,nd,h1,h2,hk=>by
  show bindC kindOf ((p,w)::P.zip vs) m x=_;unfold bindC;exact zjn (i:=i) (List.nodup_cons.mp nd).2 (by simpa using h1) (by simpa using h2) hk
def start(N:List Str)(vs:List V):St:=vs.map some++yz (N.length-vs.length) none
def zqr(CX:CXT)(P:yv)(w:yE)(K:yr)(mg:Str->Option Value)(base:yT)(N:List Str)(qual:Str)(scope:Xa)(f:Addr)(cd:Value)(A:yH)(outer:List Env)(s:yc)(H:Hp)(E:XK):Cx where
 prog:=P
 w:=w
 K:=K
 mg:=mg
 base:=base
 A:=A.deeper (envOfC qual scope s.heap.objs.size f cd)
 N:=N
 s₀:=s
 H₀:=H
 env:=envOfC qual scope s.heap.objs.size f cd
 outer:=outer
 stack:=envOfC qual scope s.heap.objs.size f cd::outer
 ex:=[]
 calm:=true
 fn:=fun _=>true
 pn:=[]
 xe:=fun e s'=>yk (yp P w) (A.deeper (envOfC qual scope s.heap.objs.size f cd)) (leaving (envOfC qual scope s.heap.objs.size f cd) e) (fun _ s''=>CX outer H s E e s'') (fun e' s''=>CX outer H s E e' s'') s'
def zYp{sc:Xa}{n:Nat}{x:Str}(h:sc.names.lookup x=some .cell):∃c,(Yk n sc.names []).lookup x=some c:=by
 have q:=W.cellsFrom_some sc.names n [] (.inl h);exact Option.isSome_iff_exists.mp q
def z7s{CX:CXT}{P:yv}{w:yE}{K:yr}{mg:Str->Option Value}{base:yT}{N ps:List Str}{qual:Str}{scope:Xa}{f:Addr}{cd:Value}{A:yH}{outer:List Env}{s s1:yc}{H:Hp}{E:XK}{us:List Value}{vs:List V}
 (S:FnScope N ps scope) (hd:A.handled=none) (e0:Env0 P w K mg base A outer s H) (hl:vs.length=ps.length) (r:Vals vs us)
 (x:InCallC s s.heap.objs.size (bindL (envOfC qual scope s.heap.objs.size f cd).kindOf (ps.zip us) fun _=>none) (Yk (s.heap.objs.size+1) scope.names []) (bindC (envOfC qual scope s.heap.objs.size f cd).kindOf (ps.zip us) fun _=>none) s1) :
 Inv (zqr CX P w K mg base N qual scope f cd A outer s H E) [] (start N vs) H s1:=by
 have hpl:ps.length<=N.length:=by have:=congrArg List.length S.pre;rw[length_take]at this;omega
 obtain⟨h1,tk,rfl,hk⟩:=x.done;have noA:∀b:Addr,b∉(zqr CX P w K mg base N qual scope f cd A outer s H E).ex:=fun b z=>absurd (show b∈([]:List Addr) from z) (by simp)
 refine⟨⟨e0.mod,S.kind,rfl,rfl,yh _,fun y z c h1 h2=>?_,fun y hy=>?_,fun y c _ h=>?_,fun _=>hd,Around.frames_deeper e0.frames, .inr ⟨rfl,rfl⟩,fun b z=>absurd z (noA b),e0.bs,e0.bsz,fun b _ _=>noA b,fun b z=>absurd z (noA b),e0.funs,e0.frf⟩,
  rfl,e0.bare,Un.kept hk,⟨_,x.toInCall.ns,fun i y v h1 h2 h3=>?_⟩,fun y c h=>⟨_,x.cell y c h⟩,e0.hok.fresh (yh _),fun y c h=>?_,fun p hp=>absurd (show p∈([]:List (Addr×YL)) from hp) (by simp),e0.hok.kept hk,?_⟩
 ·exact name_of_addr x.apart (yZ h1) (yZ h2)
 ·have hy:scope.names.lookup y=some .cell\/scope.names.lookup y=some .free:=hy;rcases hy with hy | hy
  ·exact zYp hy
  ·exact absurd rfl (S.nofree _ (yZ hy))
 ·exact YH (x.above y c (yZ h))
 ·have hi:i<vs.length:=by
   unfold start at h2
   by_cases hi:i<vs.length
   ·exact hi
   ·rw[yL (by simpa using hi)]at h2;rw[YI]at h2
    split at h2<;>cases h2
  have ha:vs[i]?=some v:=by
   unfold start at h2;rw[yt (by simpa using hi),yn]at h2
   cases e:vs[i]? with
   |none=>rw[e]at h2;cases h2
   |some a=>rw[e]at h2;cases h2;rfl
  obtain⟨u,hu,rv⟩:=r.get ha
  have hp:ps[i]?=some y:=by
   rw[<-S.pre,List.getElem?_take_of_lt (by omega)];exact h1
  have ndP:ps.Nodup:=by rw[<-S.pre];exact S.nd.sublist (List.take_sublist _ _)
  refine⟨u,rv,?_⟩;rcases S.par y (mem_of_getElem? hp) with k | k
  ·exact .inl ⟨k,ztn ndP hp hu k⟩
  ·obtain⟨c,e⟩:=zYp (n:=s.heap.objs.size+1) k;refine .inr ⟨.inl k,c,e,?_⟩;have q:=x.cell y c e;rw[zjn ndP hp hu (by show scope.names.lookup y≠_;rw[k];decide)]at q;exact q
 ·exact e0.hok.fresh (YH (x.above y c (yZ h)))
 ·unfold start;show _=N.length;rw[length_append,length_map,xX];omega
def zQy{CX:CXT}{P:yv}{w:yE}{K:yr}{mg:Str->Option Value}{base:yT}{k:Nat}{f:Addr}{name qual:Str}{params:Arguments}{body:List Stmt}{scope:Xa}{dV kV doc pm cdv ct oc:Value}{an od:Option Addr}
 {osl:Array (Option Value)} {N ps:List Str} {sp:Sp} (lk:K.lookup f=some ⟨oc,od, .func (W.fnOf name qual params body scope dV kV doc pm an cdv ct),osl⟩) (hcd:W.codeIn K cdv qual=true) (S:FnScope N ps scope)
 (len:∀vs H Q E,sp vs H Q E->vs.length=ps.length)
 (hbody:∀(A:yH)(outer:List Env)(s:yc)(H:Hp)(vs:List V)(Q:VK)(E:XK),Room k (A.deeper (envOfC qual scope s.heap.objs.size f cdv))->sp vs H Q E ->
  ∃t,PSs (zqr CX P w K mg base N qual scope f cdv A outer s H E) body t/\t {nx:=fun _ H'=>Q .non H',rt:=Q } (start N vs) H) :
 FnOk P w K mg base CX (k+1) f (W.fnOf name qual params body scope dV kV doc pm an cdv ct) ps sp:=by
 refine⟨len,fun A outer s H args us vs Q E hr e0 hb r hsp=>?_⟩;have hl:=len _ _ _ _ hsp;have KX:K.In s.heap:=e0.mod.kin.keeps fun b o e=>(e0.bs b o e).1;have lim:s.heap.NoLimit:=e0.mod.nolimit.keeps fun b o e=>(e0.bs b o e).1
 have hkind:∀y∈ps.zip us,scope.names.lookup y.1=some .local\/(scope.names.lookup y.1=some .cell/\((Yk (s.heap.objs.size+1) scope.names []).lookup y.1).isSome=true):=fun⟨n,v⟩ hy=>by
  rcases S.par n (of_mem_zip hy).1 with q | q
  ·exact .inl q
  ·exact .inr ⟨q,W.cellsFrom_some _ _ _ (.inl q)⟩
 refine codeAny_call_function hr.depth (KX _ _ lk) rfl S.co S.gen rfl (W.codeRec_of KX hcd) (hb _ _ _ _ ?_);refine wpAny_newFunctionEnv_cells S.kind hkind fun env he s1 x=>?_;subst he;refine⟨lim.keeps x.toInCall.keep,codeAny_func ?_⟩;obtain⟨t,ht,hq⟩:=hbody A outer s H vs Q E (hr.deeper _) hsp;have I:Inv (zqr CX P w K mg base N qual scope f cdv A outer s H E) [] (start N vs) H s1:=z7s S hr.hd e0 hl r x;refine yP (ht [] s1 (start N vs) H _ I hq) (fun fl s' hs=>?_) fun e s' hs=>hs
 have fin:∀{σ':St} {H':Hp} {v:V} {u:Value},Inv (zqr CX P w K mg base N qual scope f cdv A outer s H E) [] σ' H' s'->RelV v u->Q v H'->CE outer P w H s Q u s' :=
  fun{σ' H' v u} J rv q=>⟨v,H',J.os,J.bare,J.base,J.hok,rv,q⟩
 cases fl with
 |ret u=>
  obtain⟨v,σ',H',J,rv,q⟩:=hs;exact fin J rv q
 |next=>
  obtain⟨σ',H',J,q⟩:=hs;exact fin (v:=V.non) (u:=Yi) J rfl q
 |brk=>
  obtain⟨_,_,_,q⟩:=hs;exact Yu q
 |cont=>
  obtain⟨_,_,_,q⟩:=hs;exact Yu q
section
variable {X:Cx}{x:Str}{p pos:xi}{e:Expr}{es:List Expr}{t:TA}{id T:String}{r:List V->Hp->VK->Prop}
def tCB(r:List V->Hp->VK->Prop)(t:TA):TE:=fun σ H Q=>t σ H fun vs H1=>r vs H1 Q
def zQp(hc:zPk X (.builtin id) r)(hg:Gl X x)(hm:X.mg x=none)(hv:yK x=some (.builtin id))(ha:PA X (e::es) t)(hn:x≠"__name__":=by decide)(hdb:(x==("__debug__":Str))=false:=by decide)
 (he:yg (e::es) X.env=(false,yY e X.env)::yg es X.env:=by rfl) (hpl:(Yh pos (yg es X.env)).any (·.1)=false:=by rfl):PE X (.Call (.Name x p) (e::es) [] pos) (tCB r t):=by
 intro pins s σ H Q I h;refine xm (zOj I hg hm hv ?_ hn hdb);exact PyProof.Rows.callWith_builtin1 (thn (ha pos pins s σ H _ I h) fun us s1 ⟨vs,H1,I1,r1,q1⟩=>hc pins s1 σ H1 vs us Q I1 r1 q1) he hpl
def zFf(hc:zPk X (.type T) r)(hg:Gl X x)(hm:X.mg x=none)(hv:yK x=some (.type T))(ha:PA X (e::es) t)(hn:x≠"__name__":=by decide)(hdb:(x==("__debug__":Str))=false:=by decide)
 (he:yg (e::es) X.env=(false,yY e X.env)::yg es X.env:=by rfl) (hpl:(Yh pos (yg es X.env)).any (·.1)=false:=by rfl):PE X (.Call (.Name x p) (e::es) [] pos) (tCB r t):=by
 intro pins s σ H Q I h;refine xm (zOj I hg hm hv ?_ hn hdb);exact YK (thn (ha pos pins s σ H _ I h) fun us s1 ⟨vs,H1,I1,r1,q1⟩=>hc pins s1 σ H1 vs us Q I1 r1 q1) he hpl
end
end L2
namespace HT
open PySem PyProof.Rows
section
open PySem.SeqAt
open PySem.AutoSeq1 (wpAny_loadPart')
open PySem.MeetsSeq PySem.MeetsSeq2 PySem.MeetsSeq3
end
section
variable {prog:yv}{w:yE}{A:yH}{E:Value->yc->Prop}{s:yc}
def cat_tup{t b:Addr}{vs ws:List Value}{Q:Value->yc->Prop}(ht:IsTup s.heap t vs.toArray)(hb:IsTup s.heap b ws.toArray)(hv:vs≠[])
 (h1:ws=[]->Q (.ref t) s) (h2:ws≠[]->Q (.ref s.heap.objs.size) {s with heap:=s.heap.push {cls := .type "tuple",data := .seq (vs++ws).toArray }})
 (hsz:vs.length+ws.length<=yB):yk (yp prog w) A (xH .Add (.ref t) (.ref b)) Q E s:=by
 obtain⟨⟨cls,dd,data,sl⟩,ho,hc,n,hd⟩:=id ht;obtain⟨⟨cls2,dd2,data2,sl2⟩,ho2,hc2,n2,hd2⟩:=id hb;simp only at hc hd hc2 hd2;subst hc hd hc2 hd2;have e:vs.toArray++ws.toArray=(vs++ws).toArray:=by simp
 by_cases hw:ws=[]
 ·exact concat_meets ⟨_,ho,rfl⟩ ⟨_,ho2,rfl⟩ noFill_tuple_add seq_tuple_add PySem.F.slot_tuple_add PySem.F.entry_tuple_add (PySem.F.args_tuple_add_2 _ _)
   (tuple_addW1 t b vs.toArray ws.toArray n n2 dd dd2 sl sl2 (by simpa using hv) (by simp[hw])) ⟨ho,ho2,h1 hw⟩
 ·refine concat_meets ⟨_,ho,rfl⟩ ⟨_,ho2,rfl⟩ noFill_tuple_add seq_tuple_add PySem.F.slot_tuple_add PySem.F.entry_tuple_add (PySem.F.args_tuple_add_2 _ _)
   (tuple_addW2 t b vs.toArray ws.toArray n n2 dd dd2 sl sl2 (by simpa using hv) (by simpa using hw) (by rw[size_toArray,size_toArray];exact hsz)) ⟨ho,ho2,?_⟩
  rw[e];exact h2 hw
def sIx(n d:Nat):Option Int->Nat
 |none=>d
 |some v=>if v<0 then(v+(n:Int)).toNat else min v.toNat n
def sIx_none(n d:Nat):sIx n d none=d:=rfl
def sIx_nat(n d k:Nat):sIx n d (some (k:Int))=min k n:=by
 show(if(k:Int)<0 then((k:Int)+(n:Int)).toNat else min (k:Int).toNat n)=min k n;rw[if_neg (by omega),Ys]
def z9x(n d:Nat)(hd:d<=n)(o:Option Int):sIx n d o<=n:=by
 cases o with
 |none=>exact hd
 |some v=>
  show(if v<0 then(v+(n:Int)).toNat else min v.toNat n)<=n
  by_cases hv:v<0
  ·rw[if_pos hv];omega
  ·rw[if_neg hv];exact Nat.min_le_right _ _
def zcr(v:Int)(n d:Nat):(if v<0 then max (v+(n:Int)) 0 else min v (n:Int))=((sIx n d (some v):Nat):Int):=by
 show(if v<0 then max (v+(n:Int)) 0 else min v (n:Int))=(((if v<0 then(v+(n:Int)).toNat else min v.toNat n):Nat):Int)
 by_cases hv:v<0
 ·simp only[if_pos hv];omega
 ·simp only[if_neg hv];omega
def zJq(lo hi:Option Int)(n:Nat):Builtin.Slice.sliceAdjust lo hi 1 (n:Int)=(((sIx n 0 lo:Nat):Int),((sIx n n hi:Nat):Int)):=by
 have h1:¬((1:Int)<0):=by omega
 unfold Builtin.Slice.sliceAdjust;simp only[h1,if_false];refine Prod.ext ?_ ?_
 ·cases lo with
  |none=>rfl
  |some v=>exact zcr v n 0
 ·cases hi with
  |none=>rfl
  |some v=>exact zcr v n n
def z2q(i j:Nat):xv (i:Int) (j:Int) 1=j-i:=by
 unfold xv;have h1:(1:Int)>0:=by omega
 simp only[h1,if_true,Int.ediv_one]
 split<;>omega
def z7k{v:Value}{o:Option Int}{Q:Option Int->yc->Prop}(p:IsPart v o)(h:Q o s):yk (yp prog w) A (Builtin.Slice.slicePartIndex v) Q E s:=by
 cases p with
 |none=>exact slicePart_none h
 |int i t=>exact slicePart_int h
def sliceApplied_gen{sl:Addr}{vl vu:Value}{lo hi:Option Int}{n:Nat}{Q:Int×Int×Nat->yc->Prop}(hs:s.heap.IsSliceOf sl vl vu .none)(pl:IsPart vl lo)(pu:IsPart vu hi)
 (h:Q (((sIx n 0 lo:Nat):Int),1,sIx n n hi-sIx n 0 lo) s):yk (yp prog w) A (Builtin.Slice.sliceApplied (.ref sl) (pure (n:Int))) Q E s:=by
 obtain⟨os,hos,hcs,hds⟩:=id hs;unfold Builtin.Slice.sliceApplied Builtin.Slice.sliceFields;refine ya (ya (YA hos hds (x:=vl) rfl (ya (YA hos hds (x:=vu) rfl (ya (YA hos hds (x := .none) rfl (ye ?_)))))));refine ya (slicePart_none ?_);show yk _ _ (if((1:Int)==0)=true then _ else _) _ _ s;rw[if_neg (by decide)];refine ya (z7k pl (ya (z7k pu (ya (ye ?_)))));show yk _ _ (match Builtin.Slice.sliceAdjust lo hi 1 (n:Int) with | (lo,hi)=>pure (lo,(1:Int),xv lo hi 1)) _ _ s;rw[zJq lo hi n];show yk _ _ (pure (((sIx n 0 lo:Nat):Int),(1:Int),xv ((sIx n 0 lo:Nat):Int) ((sIx n n hi:Nat):Int) 1)) _ _ s;rw[z2q];exact ye h
def zFu(xs:Array Value)(i k:Nat):((yA k).filterMap fun(m:Nat)=>xs[((i:Int)+(m:Int)*1).toNat]?).toArray=((xs.toList.drop i).take k).toArray:=by
 have e:(fun(m:Nat)=>xs[((i:Int)+(m:Int)*1).toNat]?)=fun m=>xs[i+m]?:=by
  funext m
  have:((i:Int)+(m:Int)*1).toNat=i+m:=by omega
  rw[this]
 rw[e];have:=pick_run xs i k;rw[List.filterMap_map]at this;have e2:((fun x=>xs[x]?)∘fun x=>i+x)=fun m=>xs[i+m]?:=rfl;rw[e2]at this;rw[this]
def getItem_tuple_cut{t sl:Addr}{items:Array Value}{vl vu:Value}{lo hi:Option Int}{Q:Value->yc->Prop}(ht:IsTup s.heap t items)(hs:s.heap.IsSliceOf sl vl vu .none)(pl:IsPart vl lo)(pu:IsPart vu hi)
 (hw:¬(sIx items.size 0 lo=0/\sIx items.size items.size hi=items.size))
 (h:Q (.ref s.heap.objs.size) {s with heap:=s.heap.push {cls := .type "tuple",data := .seq ((items.toList.drop (sIx items.size 0 lo)).take (sIx items.size items.size hi-sIx items.size 0 lo)).toArray }})
 (hsz:items.size<=yB):yk (yp prog w) A (getItem (.ref t) (.ref sl)) Q E s:=by
 have htake:sizeOk (.seq ((items.toList.drop (sIx items.size 0 lo)).take (sIx items.size items.size hi-sIx items.size 0 lo)).toArray):=by
  show((items.toList.drop (sIx items.size 0 lo)).take (sIx items.size items.size hi-sIx items.size 0 lo)).toArray.size<=yB;rw[size_toArray,length_take,List.length_drop,Array.length_toList];omega
 have hj:sIx items.size items.size hi<=items.size:=z9x _ _ (yh _) hi;obtain⟨os,hos,hcs,hds⟩:=id hs;have hTs:s.TypeIs (.ref sl) "slice":=⟨os,hos,hcs⟩
 unfold getItem
 try with_reducible refine yQ ?_
 first | refine ya (ye ?_) | skip
 refine ya (wpAny_sequenceKey ht.typeIs (by decide) ?_)
 refine ya (Yd (name:=YQ "__getitem__") ht.typeIs YW
  (yX YW ht.typeIs entry_tuple_getitem ?_ (args_tuple_getitem _ _)))
 show yk _ _ (Builtin.Tuple.tupleItemsOf (.ref t) >>= _) _ _ s;refine ya (tupleItemsOf_ ht ?_);refine ya (Xm hTs ?_);rw[if_pos (by decide)];refine ya (sliceApplied_gen hs pl pu ?_)
 have hno:¬((((sIx items.size 0 lo:Nat):Int)==0&&(1:Int)==1&&(sIx items.size items.size hi-sIx items.size 0 lo)==items.size)=true):=by
  intro q;rw[yG,yG]at q;have q1:((sIx items.size 0 lo:Nat):Int)=0:=eq_of_beq q.1.1;have q2:sIx items.size items.size hi-sIx items.size 0 lo=items.size:=eq_of_beq q.2;exact hw ⟨by omega,by omega⟩
 show yk _ _ (if(((sIx items.size 0 lo:Nat):Int)==0&&(1:Int)==1&&(sIx items.size items.size hi-sIx items.size 0 lo)==items.size)=true then _ else _) _ _ s;rw[if_neg hno,zFu]
 first
  |exact ya (m:=YX _) (yV (ye ⟨_,rfl,ye h⟩) htake)
  |exact ya (m:=YX _) (yV (ya (ye (ye ⟨_,rfl,ye h⟩))) htake)
  |exact ya (ya (m:=YX _) (yV (ye (ye ⟨_,rfl,ye h⟩)) htake))
  |exact ya (ya (m:=YX _) (yV (ye ⟨_,rfl,ye h⟩) htake))
end
end HT
namespace L2
open PySem PySem.Spec PyProof.Rows
abbrev TO:=St->Hp->(Option Int->Hp->Prop)->Prop
def PO(X:Cx)(e:Option Expr)(t:TO):Prop :=
 ∀(pins:List (Addr×YL)) (s:yc) (σ:St) (H:Hp) (Q:Option Int->Hp->Prop),Inv X pins σ H s->t σ H Q ->
  yk (yp X.prog X.w) X.A (evalPart e X.env) (fun u s'=>∃o H',Inv X pins σ H' s'/\IsPart u o/\Q o H') X.xe s
def zLv:TO:=fun _ H Q=>Q none H
def zez(t:TE):TO:=fun σ H Q=>t σ H fun x H1=>∃i,x = .int i/\Q (some i) H1
def zbg{ns:List Int}:∀{us:List Value},Vals (ns.map V.int) us->IntsAre us ns:=by
 induction ns with
 |nil=>intro us r;rw[map_nil]at r;cases r;exact .nil
 |cons n ns ih=>
  intro us r;rw[map_cons]at r
  cases r with
  |cons r1 r2=>
   obtain⟨t,e⟩:=r1;subst e;exact .cons n t (ih r2)
section
variable {X:Cx}{e:Expr}{te:TE}{lo hi:Option Expr}{tl th:TO}{pos p2:xi}
def zSw:PO X none zLv:=by
 intro pins s σ H Q I h;rw[evalPart_none];exact ye ⟨none,H,I, .none,h⟩
def z0w(h:PE X e te):PO X (some e) (zez te):=by
 intro pins s σ H Q I hw;rw[evalPart_some];refine thn (h pins s σ H _ I hw) fun u s1 ⟨x,H1,I1,r1,q1⟩=>?_;obtain⟨i,rfl,q⟩:=q1;obtain⟨t,rfl⟩:=r1;exact⟨some i,H1,I1, .int i t,q⟩
def SlR(X:Cx)(r:V->Option Int->Option Int->Hp->VK->Prop):Prop :=
 ∀(pins:List (Addr×YL)) (s:yc) (σ:St) (H:Hp) (x:V) (v vl vu:Value) (lo hi:Option Int) (sl:Addr) (Q:VK),Inv X pins σ H s->RelV x v->s.heap.IsSliceOf sl vl vu .none->IsPart vl lo->IsPart vu hi->r x lo hi H Q ->
  ∃T id,typeLookup (.type T) "__getitem__" = pure (some (.builtin id))/\s.TypeIs v T/\yk (yp X.prog X.w) X.A (getItem v (.ref sl)) (EP X pins σ Q) X.xe s
def SlR.or{r r':V->Option Int->Option Int->Hp->VK->Prop}(h:SlR X r)(h':SlR X r'):SlR X (fun x lo hi H Q=>r x lo hi H Q\/r' x lo hi H Q):=by
 intro pins s σ H x v vl vu lo hi sl Q I rx hs pl pu q;rcases q with q | q
 ·exact h pins s σ H x v vl vu lo hi sl Q I rx hs pl pu q
 ·exact h' pins s σ H x v vl vu lo hi sl Q I rx hs pl pu q
def tSl(r:V->Option Int->Option Int->Hp->VK->Prop)(te:TE)(tl th:TO):TE:=fun σ H Q=>te σ H fun x H1=>tl σ H1 fun l H2=>th σ H2 fun u H3=>r x l u H3 Q
def zKt{r:V->Option Int->Option Int->Hp->VK->Prop}(hr:SlR X r)(he:PE X e te)(hl:PO X lo tl)(hu:PO X hi th):PE X (.Subscript e (.Slice lo hi none p2) pos) (tSl r te tl th):=by
 intro pins s σ H Q I h;refine Subscript_ (thn (he pins s σ H _ I h) fun v s1 ⟨x,H1,I1,r1,q1⟩=>?_);refine wpAny_Slice (thn (hl pins s1 σ H1 _ I1 q1) fun vl s2 ⟨l,H2,I2,pl,q2⟩=>thn (hu pins s2 σ H2 _ I2 q2) fun vu s3 ⟨u,H3,I3,pu,q3⟩=>?_);rw[evalPart_none];refine ye ?_;have I4:Inv X pins σ H3 {s3 with heap:=s3.heap.push {cls := .type "slice",data := .fields #[vl,vu, .none]}}:=I3.kept (t':=s3.toks) fun b ob q=>yd _ q;obtain⟨T,id,hT,ht,hg⟩:=hr pins {s3 with heap:=s3.heap.push {cls := .type "slice",data := .fields #[vl,vu, .none]}} σ H3 x v vl vu l u s3.heap.objs.size Q I4 r1 (Heap.IsSliceOf.new ..) pl pu q3;show yk (yp X.prog X.w) X.A (subscriptTail e (.Slice lo hi none p2) v (.ref s3.heap.objs.size)) (EP X pins σ Q) X.xe {s3 with heap:=s3.heap.push {cls := .type "slice",data := .fields #[vl,vu, .none]}};exact tail_any (ops:=[.ref s3.heap.objs.size,v]) ht hT hg (by with_unfolding_all rfl)
def zCr(xs:List V)(lo hi:Option Int):List V:=(xs.drop (HT.sIx xs.length 0 lo)).take (HT.sIx xs.length xs.length hi-HT.sIx xs.length 0 lo)
def zLj(xs:List V)(lo hi:Option Int):(zCr xs lo hi).length<=xs.length:=by
 unfold zCr;rw[length_take,List.length_drop];omega
def zBA(K:yr):V->Option Int->Option Int->Hp->VK->Prop:=fun x lo hi H Q=>∃a xs,x = .ref a/\SqT K H a xs /\
 ¬(HT.sIx xs.length 0 lo=0/\HT.sIx xs.length xs.length hi=xs.length)/\∀p,H p=none->Q (.ref p) (upd H p (.tup (zCr xs lo hi)))
def zwy:SlR X (zBA X.K):=by
 intro pins s σ H x v vl vu lo hi sl Q I rx hs pl pu h;obtain⟨a,xs,rfl,hx,hw,q⟩:=h;cases rx;obtain⟨its,r,ht,hz⟩:=I.tuple hx;have hlen:its.toArray.size=xs.length:=by rw[size_toArray];exact r.length.symm
 refine⟨"tuple",_,PyProof.Rows.slot_tuple_getitem.lookup,ht.typeIs,?_⟩;refine HT.getItem_tuple_cut ht hs pl pu (by rw[hlen];exact hw) ?_ (by rw[hlen];exact hz);rw[hlen];refine⟨.ref s.heap.objs.size,_,I.laid (t':=s.toks) (o := .tup (zCr xs lo hi)) (fun b ob q=>yd _ q) (yh _) ?_,rfl,q _ (I.hok.fresh (yh _))⟩;exact⟨yy (zLj xs lo hi) hz,_,(r.drop (HT.sIx xs.length 0 lo)).take (HT.sIx xs.length xs.length hi-HT.sIx xs.length 0 lo),IsTup.new _ _⟩
def zFz(K:yr):R2:=fun x y H Q=>∃a b xs ys,x = .ref a/\y = .ref b/\SqT K H a xs/\SqT K H b ys/\xs≠[]/\xs.length+ys.length<=yB /\
 (ys=[]->Q (.ref a) H)/\(ys≠[]->∀p,H p=none->Q (.ref p) (upd H p (.tup (xs++ys))))
def Vals.nil_iff{xs:List V}{us:List Value}(r:Vals xs us):us=[]↔xs=[]:=by
 cases r with
 |nil=>simp
 |cons _ _=>simp
def zMw:OpR X (xH .Add) (zFz X.K):=by
 intro pins s σ H x y v u Q I rx ry h;obtain⟨a,b,xs,ys,rfl,rfl,ha,hb,hx,hz,q1,q2⟩:=h;cases rx;cases ry;obtain⟨its,r1,p1,_⟩:=I.tuple ha;obtain⟨its2,r2,p2,_⟩:=I.tuple hb;refine HT.cat_tup p1 p2 (fun z=>hx (r1.nil_iff.mp z)) (fun z=>⟨.ref a,H,I,rfl,q1 (r2.nil_iff.mp z)⟩) (fun z=>?_) (by rw[<-r1.length,<-r2.length];exact hz);refine⟨.ref s.heap.objs.size,_,I.laid (t':=s.toks) (o := .tup (xs++ys)) (fun b ob q=>yd _ q) (yh _) ?_,rfl,q2 (fun w=>z (r2.nil_iff.mpr w)) _ (I.hok.fresh (yh _))⟩;exact⟨by rw[length_append];exact hz,_,r1.append r2,IsTup.new _ _⟩
end
def ixN(n:Nat)(i:Int):Option Nat:=if 0<=i then(if i<n then some i.toNat else none) else if -(n:Int)<=i then some (i+n).toNat else none
def atI{α:Type}(xs:List α)(i:Int):Option α:=(ixN xs.length i).bind fun j=>xs[j]?
def z3s{n:Nat}{i:Int}{j:Nat}(h:ixN n i=some j):seqIndex? i n=some j/\j<n/\-(n:Int)<=i/\i<n:=by
 unfold ixN at h
 by_cases h0:0<=i
 ·rw[if_pos h0]at h
  by_cases h1:i<n
  ·rw[if_pos h1]at h;have e:i.toNat=j:=Ye h;exact⟨by rw[seqIndex_of h0 h1,e],by omega,by omega,h1⟩
  ·rw[if_neg h1]at h;cases h
 ·rw[if_neg h0]at h
  by_cases h1:-(n:Int)<=i
  ·rw[if_pos h1]at h;have e:(i+n).toNat=j:=Ye h;exact⟨by rw[seqIndex_neg (by omega) h1,e],by omega,h1,by omega⟩
  ·rw[if_neg h1]at h;cases h
def zSo{α:Type}{xs:List α}{i:Int}{v:α}(h:atI xs i=some v):∃j,seqIndex? i xs.length=some j/\xs[j]?=some v/\j<xs.length/\-(xs.length:Int)<=i/\i<xs.length:=by
 unfold atI at h
 cases e:ixN xs.length i with
 |none=>rw[e]at h;cases h
 |some j=>
  rw[e]at h;obtain⟨h1,h2,h3,h4⟩:=z3s e;exact⟨j,h1,h,h2,h3,h4⟩
def zW{α:Type}{xs:List α}{j:Nat}{v:α}(h:xs[j]?=some v):atI xs (j:Int)=some v:=by
 have hj:j<xs.length:=(List.getElem?_eq_some_iff.mp h).1
 have e:ixN xs.length (j:Int)=some j:=by
  unfold ixN;rw[if_pos (by omega),if_pos (by omega)];simp
 unfold atI;rw[e];exact h
def zNo(b:Expr):Prop:=∀o i,subscripted b false o i=operate [o,i] (getItem o i)
def IxR(X:Cx)(r:R2):Prop :=
 ∀(value slice:Expr)(pins:List (Addr×YL)) (s:yc) (σ:St) (H:Hp) (x y:V) (v u:Value) (Q:VK),Inv X pins σ H s->RelV x v->RelV y u->r x y H Q ->
  subscripted slice false v u=operate [v,u] (getItem v u)->yk (yp X.prog X.w) X.A (subscriptTail value slice v u) (EP X pins σ Q) X.xe s
def MtR(X:Cx)(id:String)(r:V->List V->Hp->VK->Prop):Prop :=
 ∀(pins:List (Addr×YL)) (s:yc) (σ:St) (H:Hp) (x:V) (xs:List V) (v:Value) (us:List Value) (Q:VK),Inv X pins σ H s->RelV x v->Vals xs us->r x xs H Q ->
  yk (yp X.prog X.w) X.A (call (.builtin id) (v::us)) (EP X pins σ Q) X.xe s
section
variable {X:Cx}{a b:Expr}{ta tb:TE}{pos:xi}
def IxR.or{r r':R2}(h:IxR X r)(h':IxR X r'):IxR X (fun x y H Q=>r x y H Q\/r' x y H Q):=by
 intro value slice pins s σ H x y v u Q I rx ry q hs;rcases q with q | q
 ·exact h value slice pins s σ H x y v u Q I rx ry q hs
 ·exact h' value slice pins s σ H x y v u Q I rx ry q hs
def zFx{r:R2}(hr:IxR X r)(ha:PE X a ta)(hb:PE X b tb)(hs:zNo b):PE X (.Subscript a b pos) (tOp r ta tb):=by
 intro pins s σ H Q I h;exact Subscript_ (binT ha hb I h fun v u s2 x y H2 I2 rx ry q=>hr a b pins s2 σ H2 x y v u Q I2 rx ry q (hs _ _))
def z5z(K:yr):R2:=fun x y H Q=>∃p xs i v,x = .ref p/\y = .int i/\SqL K H p xs/\atI xs i=some v/\Q v H
def z1z(K:yr):R2:=fun x y H Q=>∃p xs i v,x = .ref p/\y = .int i/\SqT K H p xs/\atI xs i=some v/\Q v H
def z9z:R2:=fun x y H Q=>∃z i c,x = .str z/\y = .int i/\z.length<=yB/\atI z.cps.toList i=some c/\Q (.str ⟨#[c]⟩) H
def ix_list:IxR X (z5z X.K):=by
 intro value slice pins s σ H x y v u Q I rx ry h hs;obtain⟨p,xs,i,z,rfl,rfl,hq,he,q⟩:=h;cases rx;obtain⟨t,rfl⟩:=ry;obtain⟨its,r,pl,hz⟩:=I.list hq;obtain⟨j,h1,h2,h3,h4,h5⟩:=zSo he;obtain⟨w,ew,rw'⟩:=r.get h2;have hl:=r.length;have hn:=line63;have fin:EP X pins σ Q w s:=⟨z,H,I,rw',q⟩
 by_cases h0:0<=i
 ·have hj:i.toNat=j:=by
   rw[seqIndex_of h0 h5]at h1;exact Ye h1
  exact item_listR pl.isList h0 (by omega) (by rw[hj];simpa using ew) fin hs
 ·have hj:(i+(its.toArray.size:Int)).toNat=j:=by
   rw[seqIndex_neg (by omega) h4]at h1;rw[size_toArray,<-hl];exact Ye h1
  exact subscriptTail_builtinR (x:=w) pl.isList.typeIs slot_list_getitem.lookup
   (wpAny_getItem_list_neg (Q:=fun r s'=>r=w/\EP X pins σ Q r s') pl.isList (by omega) (by rw[size_toArray]<;>omega) (by omega) (by rw[hj];simpa using ew) ⟨rfl,fin⟩) hs
def ix_tup:IxR X (z1z X.K):=by
 intro value slice pins s σ H x y v u Q I rx ry h hs;obtain⟨p,xs,i,z,rfl,rfl,hq,he,q⟩:=h;cases rx;obtain⟨t,rfl⟩:=ry;obtain⟨its,r,pl,hz⟩:=I.tuple hq;obtain⟨j,h1,h2,h3,h4,h5⟩:=zSo he;obtain⟨w,ew,rw'⟩:=r.get h2;have hl:=r.length;have hn:=line63;have fin:EP X pins σ Q w s:=⟨z,H,I,rw',q⟩
 exact subscriptTail_builtinR (x:=w) pl.typeIs slot_tuple_getitem.lookup
  (getItem_tuple (j:=j) (Q:=fun r s'=>r=w/\EP X pins σ Q r s') pl (by omega) (by omega) (by rw[size_toArray,<-hl];exact h1) (by simpa using ew) ⟨rfl,fin⟩) hs
def zuy:IxR X z9z:=by
 intro value slice pins s σ H x y v u Q I rx ry h hs;obtain⟨z,i,c,rfl,rfl,hz,he,q⟩:=h;obtain⟨t,rfl⟩:=rx;obtain⟨t',rfl⟩:=ry;obtain⟨j,h1,h2,h3,h4,h5⟩:=zSo he;have hl:z.cps.toList.length=z.length:=by simp[Str.length]
 rw[hl]at h1 h4 h5;have hn:=line63
 exact tail_any (typeIs_str s z t) slot_str_getitem.lookup (getItem_str (c:=c) (by
  have e1:decide (i < -(2^63:Int))=false:=decide_eq_false (by omega);have e2:decide (i≥2^63)=false:=decide_eq_false (by omega);rw[e1,e2,Bool.or_false]) (by rw[h1];simpa using h2) ⟨.str ⟨#[c]⟩,H,I.tok _,⟨_,rfl⟩,q⟩) hs
def rIx(K:yr):R2:=fun x y H Q=>z5z K x y H Q\/z1z K x y H Q\/z9z x y H Q
def z6u:IxR X (rIx X.K):=ix_list.or (ix_tup.or zuy)
def zWq(its:List Value)(n j:Nat)(u:Value):xM (·.setIfInBounds j u) {cls := .type "list",data := .seq its.toArray n } = {cls := .type "list",data := .seq (its.set j u).toArray n }:=by
 simp[xM]
def Inv.lst{pins:List (Addr×YL)}{σ:St}{H:Hp}{s:yc}{p:Addr}{xs:List V}(I:Inv X pins σ H s)(h:H p=some (.lst xs)) :
 ∃(its:List Value)(n:Nat),Vals xs its/\s.heap.get? p=some {cls := .type "list",data := .seq its.toArray n }/\xs.length<=yB:=by
 obtain⟨z,its,n,r,e⟩:=I.hok p _ h;exact⟨its,n,r,e,z⟩
def Inv.lstUpd{pins:List (Addr×YL)}{σ:St}{H:Hp}{s:yc}{p:Addr}{xs ys:List V}{its its':List Value}{n n':Nat}{f:YL->YL}(I:Inv X pins σ H s)(h:H p=some (.lst xs))
 (ho:s.heap.get? p=some {cls := .type "list",data := .seq its.toArray n }) (hf:f {cls := .type "list",data := .seq its.toArray n } = {cls := .type "list",data := .seq its'.toArray n' }) (r:Vals ys its') (hz:ys.length<=yB) (t:Nat) :
 Inv X pins σ (upd H p (.lst ys)) {s with heap:=s.heap.update p f,toks:=t }:=by
 have e:(s.heap.update p f).get? p=some {cls := .type "list",data := .seq its'.toArray n' }:=by
  rw[yJ f ho (by rw[hf]<;>rfl),hf]
 refine I.write (x:=p) (e:=p) (by rw[h];trivial) (.inl rfl) (fun b u hb q=>(Yb _ _ (yF hb)).trans q) ⟨_,e⟩ ?_;exact⟨hz,its',n',r,e⟩
def zDz:V->V->V->Hp->(Hp->Prop)->Prop:=fun o i v H Q=>∃p xs k j,o = .ref p/\i = .int k/\H p=some (.lst xs)/\ixN xs.length k=some j/\Q (upd H p (.lst (xs.set j v)))
def zJt:zgz X zDz:=by
 intro pins s σ H o i v ov iv u Q I ro ri rv h;obtain⟨p,xs,k,j,rfl,rfl,hp,hj,q⟩:=h;cases ro;obtain⟨t,rfl⟩:=ri;obtain⟨its,n,r,ho,hz⟩:=I.lst hp;obtain⟨h1,h2,h3,h4⟩:=z3s hj;have hl:=r.length;have hn:=line63
 have I':Inv X pins σ (upd H p (.lst (xs.set j v))) {s with heap:=s.heap.update p (xM (·.setIfInBounds j u))} :=
  I.lstUpd hp ho (zWq its n j u) (r.set rv j) (by rw[length_set];exact hz) s.toks
 by_cases h0:0<=k
 ·have hk:k.toNat=j:=by
   rw[seqIndex_of h0 h4]at h1;exact Ye h1
  exact W.ki_setAt ho h0 (by omega) (by rw[size_toArray,<-hl];exact h4) (by rw[hk];exact⟨_,I',q⟩)
 ·have hk:(k+(its.toArray.size:Int)).toNat=j:=by
   rw[seqIndex_neg (by omega) h3]at h1;rw[size_toArray,<-hl];exact Ye h1
  exact W.ki_setBack ho (by omega) (by rw[size_toArray,<-hl];exact h3) (by omega) (by rw[hk];exact⟨_,I',q⟩)
def zPm(lo hi:Option Int)(n:Nat):(sliceBounds lo hi none n).1=((HT.sIx n 0 lo:Nat):Int)/\(sliceBounds lo hi none n).2.1=((HT.sIx n n hi:Nat):Int)/\(sliceBounds lo hi none n).2.2=1:=by
 refine⟨?_,?_,rfl⟩
 ·cases lo with
  |none=>simp[sliceBounds,HT.sIx]
  |some i=>
   simp only[sliceBounds,HT.sIx,Option.getD_none,show(1:Int)>0 by decide,if_true]
   by_cases h:i<0
   ·simp only[h,if_true]<;>omega
   ·simp only[h,if_false]<;>omega
 ·cases hi with
  |none=>simp[sliceBounds,HT.sIx]
  |some i=>
   simp only[sliceBounds,HT.sIx,Option.getD_none,show(1:Int)>0 by decide,if_true]
   by_cases h:i<0
   ·simp only[h,if_true]<;>omega
   ·simp only[h,if_false]<;>omega
def zqm(its:List Value)(lo hi:Option Int):slicePick its.toArray lo hi none=((its.drop (HT.sIx its.length 0 lo)).take (HT.sIx its.length its.length hi-HT.sIx its.length 0 lo)).toArray:=by
 obtain⟨h1,h2,h3⟩:=zPm lo hi its.toArray.size;unfold slicePick;rw[h1,h2,h3];simp only[sliceRange_one,pick_run,size_toArray]<;>rfl
def zcA(K:yr):V->Option Int->Option Int->Hp->VK->Prop:=fun x lo hi H Q=>∃a xs,x = .ref a/\SqL K H a xs/\∀p,H p=none->Q (.ref p) (upd H p (.lst (zCr xs lo hi)))
def zXw:SlR X (zcA X.K):=by
 intro pins s σ H x v vl vu lo hi sl Q I rx hs pl pu h;obtain⟨a,xs,rfl,hx,q⟩:=h;cases rx;obtain⟨its,r,ht,hz⟩:=I.list hx;have hlen:=r.length;refine⟨"list",_,slot_list_getitem.lookup,ht.isList.typeIs,?_⟩;refine wpAny_getItem_list_slice ht.isList hs pl pu .none (by simp) ?_ (by rw[size_toArray]<;>omega);rw[zqm,<-hlen];refine⟨.ref s.heap.objs.size,_,I.laid (t':=s.toks) (o := .lst (zCr xs lo hi)) (fun b ob q=>yd _ q) (yh _) ?_,rfl,q _ (I.hok.fresh (yh _))⟩;exact⟨yy (zLj xs lo hi) hz,_,0,(r.drop (HT.sIx xs.length 0 lo)).take (HT.sIx xs.length xs.length hi-HT.sIx xs.length 0 lo),yo _ rfl⟩
def zRj:V->Bool
 |.non=>true
 |.bl _=>true
 |.int _=>true
 |.str _=>true
 |_=>false
def eqV:V->V->Bool
 |.non, .non=>true
 |.bl a, .bl b=>a==b
 |.bl a, .int b=>(if a then 1 else 0)==b
 |.int a, .bl b=>a==(if b then 1 else 0)
 |.int a, .int b=>a==b
 |.str a, .str b=>a==b
 |_,_=>false
def zbx{A:yH}{s:yc}{y x:V}{u v:Value}(ry:RelV y u)(rx:RelV x v)(fy:zRj y=true)(fx:zRj x=true):SeqAt.EqAt A s u v (eqV y x):=by
 cases y with
 |non=>
  cases ry
  cases x with
  |non=>cases rx;exact SeqAt.EqAt.same _
  |bl b=>cases rx;exact SeqAt.EqAt.none_bool b
  |int b=>obtain⟨t,rfl⟩:=rx;exact SeqAt.EqAt.none_int b t
  |str b=>obtain⟨t,rfl⟩:=rx;exact SeqAt.EqAt.none_str b t
  |_=>exact absurd (show false=true from fx) yx
 |bl a=>
  cases ry
  cases x with
  |non=>cases rx;exact SeqAt.EqAt.bool_none a
  |bl b=>cases rx;exact SeqAt.EqAt.bool_bool a b
  |int b=>obtain⟨t,rfl⟩:=rx;exact SeqAt.EqAt.bool_int a b t
  |str b=>obtain⟨t,rfl⟩:=rx;exact SeqAt.EqAt.bool_str a b t
  |_=>exact absurd (show false=true from fx) yx
 |int a=>
  obtain⟨t',rfl⟩:=ry
  cases x with
  |non=>cases rx;exact SeqAt.EqAt.int_none a t'
  |bl b=>cases rx;exact SeqAt.EqAt.int_bool a t' b
  |int b=>obtain⟨t,rfl⟩:=rx;exact SeqAt.EqAt.int_int a t' b t
  |str b=>obtain⟨t,rfl⟩:=rx;exact SeqAt.EqAt.int_str a t' b t
  |_=>exact absurd (show false=true from fx) yx
 |str a=>
  obtain⟨t',rfl⟩:=ry
  cases x with
  |non=>cases rx;exact SeqAt.EqAt.str_none a t'
  |bl b=>cases rx;exact SeqAt.EqAt.str_bool a t' b
  |int b=>obtain⟨t,rfl⟩:=rx;exact SeqAt.EqAt.str_int a t' b t
  |str b=>obtain⟨t,rfl⟩:=rx;exact SeqAt.EqAt.str_str a t' b t
  |_=>exact absurd (show false=true from fx) yx
 |_=>exact absurd (show false=true from fy) yx
def eqU(x:V)(u:Value):Bool:=match u with
 |.none=>eqV .non x
 |.bool b=>eqV (.bl b) x
 |.int i _=>eqV (.int i) x
 |.str z _=>eqV (.str z) x
 |_=>false
def z4s{x y:V}{u:Value}(r:RelV y u)(f:zRj y=true):eqU x u=eqV y x:=by
 cases y with
 |non=>cases r;rfl
 |bl b=>cases r;rfl
 |int i=>obtain⟨t,rfl⟩:=r;rfl
 |str z=>obtain⟨t,rfl⟩:=r;rfl
 |_=>exact absurd (show false=true from f) yx
def zPo{x:V}:∀{xs:List V} {us:List Value},Vals xs us->xs.all zRj=true->us.any (eqU x)=xs.any fun y=>eqV y x
 |_,_, .nil,_=>rfl
 |y::xs,u::us, .cons r t,f=>by
  rw[all_cons,yG]at f;rw[any_cons,any_cons,z4s r f.1,zPo t f.2]
def zZi{A:yH}{s:yc}{x:V}{v:Value}(rx:RelV x v)(fx:zRj x=true):∀{xs:List V} {us:List Value},Vals xs us->xs.all zRj=true->∀u∈us,SeqAt.EqAt A s u v (eqU x u)
 |_,_, .nil,_=>fun u hu=>by cases hu
 |y::xs,u::us, .cons r t,f=>fun u' hu=>by
  rw[all_cons,yG]at f;rcases List.mem_cons.mp hu with rfl | hu
  ·rw[z4s r f.1];exact zbx r rx f.1 fx
  ·exact zZi rx fx t f.2 u' hu
def inV(x:V)(xs:List V):Bool:=xs.any fun y=>eqV y x
def rIn(K:yr)(neg:Bool):R2:=fun x y H Q=>∃p xs,y = .ref p/\(SqL K H p xs\/SqT K H p xs)/\zRj x=true/\xs.all zRj=true/\Q (.bl (if neg then !inV x xs else inV x xs)) H
def zVm:OpR X (Yy .NotIn) (rIn X.K true):=by
 intro pins s σ H x y v u Q I rx ry h;obtain⟨p,xs,rfl,hq,fx,fs,q⟩:=h;cases ry;rcases hq with hq | hq
 ·obtain⟨its,r,pl,hz⟩:=I.list hq;refine SeqAt.notIn_listAt (eqU x) pl.isList (fun w hw=>zZi rx fx r fs w (by simpa using hw)) ⟨.bl _,H,I,rfl,?_⟩;rw[show its.toArray.any (eqU x)=its.any (eqU x) by simp,zPo r fs];exact q
 ·obtain⟨its,r,pl,hz⟩:=I.tuple hq;refine SeqAt.notIn_tupleAt (eqU x) pl (fun w hw=>zZi rx fx r fs w (by simpa using hw)) ⟨.bl _,H,I,rfl,?_⟩;rw[show its.toArray.any (eqU x)=its.any (eqU x) by simp,zPo r fs];exact q
def z0n:zPk X (.builtin "len") (fun xs H Q=>∃p ys,xs=[.ref p]/\(SqL X.K H p ys\/SqT X.K H p ys)/\Q (.int ys.length) H):=by
 intro pins s σ H xs us Q I r h;obtain⟨p,ys,rfl,hq,q⟩:=h;obtain⟨u,rfl,rx⟩:=vals1 r;cases rx;have hn:=line63;rcases hq with hq | hq
 ·obtain⟨its,r',pl,hz⟩:=I.list hq;have hlen:=r'.length;exact Calls.call_len_list pl.isList (by simp only[size_toArray]<;>omega) ⟨.int ys.length,H,I.tok _,⟨s.toks+1,by rw[size_toArray,hlen]⟩,q⟩
 ·obtain⟨its,r',pl,hz⟩:=I.tuple hq;have hlen:=r'.length;exact len_tuple pl (by simp only[size_toArray]<;>omega) ⟨.int ys.length,H,I.tok _,⟨s.toks+1,by rw[size_toArray,hlen]⟩,q⟩
def zui:zPk X (.type "list") (fun xs H Q=>∃p ys,xs=[.ref p]/\(SqL X.K H p ys\/SqT X.K H p ys)/\∀l,H l=none->Q (.ref l) (upd H l (.lst ys))):=by
 intro pins s σ H xs us Q I r h;obtain⟨p,ys,rfl,hq,q⟩:=h;obtain⟨u,rfl,rx⟩:=vals1 r;cases rx
 have fin:∀(its:List Value),Vals ys its->ys.length<=yB->∀(h':yT)(c':Nat),(∀b o',s.heap.get? b=some o'->h'.get? b=some o') ->
  h'.get? s.heap.objs.size=some {cls := .type "list",dict:=none,data := .seq its.toArray c',slots:=#[]}->EP X pins σ Q (.ref s.heap.objs.size) {s with heap:=h' }:=fun its r' hz h' c' kp e=>
  ⟨.ref s.heap.objs.size,_,I.laid (t':=s.toks) kp (yh _) (show ObjOk X.prog X.w _ h' _ (.lst ys) from⟨hz,its,c',r',e⟩),rfl,q _ (I.hok.fresh (yh _))⟩
 rcases hq with hq | hq
 ·obtain⟨its,r',pl,hz⟩:=I.list hq;have hlen:=r'.length;obtain⟨o,ho,hc,n,hd⟩:=pl.isList;exact call_list_seq p (.inl rfl) ho hc hd (fun h' c' kp e=>fin its r' hz h' c' kp e) (by simp only[size_toArray]<;>omega)
 ·obtain⟨its,r',pl,hz⟩:=I.tuple hq;have hlen:=r'.length;obtain⟨o,ho,hc,n,hd⟩:=pl;exact call_list_seq p (.inr rfl) ho hc hd (fun h' c' kp e=>fin its r' hz h' c' kp e) (by simp only[size_toArray]<;>omega)
def z5e:zPk X (.type "tuple") (fun xs H Q=>∃p ys,xs=[.ref p]/\((SqL X.K H p ys/\∀l,H l=none->Q (.ref l) (upd H l (.tup ys)))\/(SqT X.K H p ys/\Q (.ref p) H))):=by
 intro pins s σ H xs us Q I r h;obtain⟨p,ys,rfl,h⟩:=h;obtain⟨u,rfl,rx⟩:=vals1 r;cases rx;rcases h with ⟨hq,q⟩ | ⟨hq,q⟩
 ·obtain⟨its,r',pl,hz⟩:=I.list hq;have hlen:=r'.length;refine call_tuple_list pl.isList (fun h' kp=>?_) (by simp only[size_toArray]<;>omega);have I1:Inv X pins σ H {s with heap:=h' }:=I.kept (t':=s.toks) kp
  have I2:Inv X pins σ (upd H h'.objs.size (.tup ys)) {s with heap:=h'.push {cls := .type "tuple",data := .seq its.toArray }} :=
   I1.laid (t':=s.toks) (fun b o e=>yd _ e) (yh _) (show ObjOk X.prog X.w _ _ _ (.tup ys) from⟨hz,its,r',IsTup.new _ _⟩)
  exact⟨.ref h'.objs.size,_,I2,rfl,q _ (I1.hok.fresh (yh _))⟩
 ·obtain⟨its,r',pl,hz⟩:=I.tuple hq;exact call_tuple_same pl ⟨.ref p,H,I,rfl,q⟩
def tyV(K:yr)(T:String)(x:V)(H:Hp):Prop:=match x with
 |.str _=>T = "str"
 |.int _=>T = "int"
 |.ref p=>(T = "list"/\∃xs,SqL K H p xs)\/(T = "tuple"/\∃o,K.lookup p=some o/\o.cls = .type "tuple"/\o.dict=none) \/
  (T = "dict"/\((∃kvs,H p=some (.dK kvs))\/∃kvs,H p=some (.dT kvs)))\/(T = "set"/\∃S n,H p=some (.set S n))
 |_=>False
def zpv{pins:List (Addr×YL)}{σ:St}{H:Hp}{s:yc}{T:String}{x:V}{v:Value}(I:Inv X pins σ H s)(r:RelV x v)(ty:tyV X.K T x H) :
 s.TypeIs v T/\∀a,v = .ref a->∃ob,s.heap.get? a=some ob/\ob.dict=none:=by
 cases x with
 |str z=>
  obtain⟨t,rfl⟩:=r;cases (show T = "str" from ty);exact⟨typeIs_str s z t,fun _ e=>nomatch e⟩
 |int i=>
  obtain⟨t,rfl⟩:=r;cases (show T = "int" from ty);exact⟨typeIs_int s i t,fun _ e=>nomatch e⟩
 |ref p=>
  cases r;rcases ty with ⟨rfl,xs,hq⟩ | ⟨rfl,o,hk,hc,hd⟩ | ⟨rfl,hk⟩ | ⟨rfl,S,n,hk⟩
  ·obtain⟨its,_,pl,_⟩:=I.list hq;refine⟨pl.isList.typeIs,fun a e=>?_⟩;cases e;obtain⟨o,n,e,c,hd,_⟩:=pl;exact⟨o,e,hd⟩
  ·refine⟨⟨o,I.kIn p o hk,hc⟩,fun a e=>?_⟩;cases e;exact⟨o,I.kIn _ o hk,hd⟩
  ·have z:∃o,s.heap.get? p=some o/\o.ExactDict:=by
    rcases hk with ⟨kvs,hk⟩ | ⟨kvs,hk⟩
    ·obtain⟨_,_,_,_,o,_,_,e,ex,_⟩:=I.hok p _ hk;exact⟨o,e,ex⟩
    ·obtain⟨_,_,_,_,o,_,_,e,ex,_⟩:=I.hok p _ hk;exact⟨o,e,ex⟩
   obtain⟨o,e,ex⟩:=z;refine⟨⟨o,e,ex.1⟩,fun a e2=>?_⟩;cases e2;exact⟨o,e,ex.2.1⟩
  ·obtain⟨o,_,_,_,e,ex,_⟩:=I.hok p _ hk;refine⟨⟨o,e,ex.1⟩,fun a e2=>?_⟩;cases e2;exact⟨o,e,ex.2.1⟩
 |_=>exact Yu ty
def zaA(K:yr)(T:String)(r:V->List V->Hp->VK->Prop)(to:TE):TE:=fun σ H Q=>to σ H fun x H1=>tyV K T x H1/\r x [] H1 Q
def tBM(K:yr)(T:String)(r:V->List V->Hp->VK->Prop)(to:TE)(t:TA):TE:=fun σ H Q=>to σ H fun x H1=>tyV K T x H1/\t σ H1 fun xs H2=>r x xs H2 Q
variable {o e:Expr}{es:List Expr}{to:TE}{t:TA}{name:Str}{apos cpos:xi}{T id:String}{r:V->List V->Hp->VK->Prop}
def z3x(pa:PlainAttrs T)(slot:Slot T name id)(hty:typeOf (.builtin id)=pure (.type "method_descriptor"))(hm:MtR X id r)(ho:PE X o to)
 (hbase:Yn o name X.env (yY o X.env)=yY o X.env:=by rfl) (hline:(apos.endLine==cpos.line)=true:=by rfl):PE X (.Call (.Attribute o name apos) [] [] cpos) (zaA X.K T r to):=by
 intro pins s σ H Q I h;refine wpAny_Call_method0_late hbase hline (thn (ho pins s σ H _ I h) fun v s1 ⟨x,H1,I1,r1,ty,q1⟩=>?_);obtain⟨h1,h2⟩:=zpv I1 r1 ty;exact⟨T,id,pa,slot,hty,h1,h2,Calls.callWith_builtin rfl (PySem.evalArgs_none (hm pins s1 σ H1 x [] v [] Q I1 r1 .nil q1))⟩
def zNx(pa:PlainAttrs T)(slot:Slot T name id)(hty:typeOf (.builtin id)=pure (.type "method_descriptor"))(hm:MtR X id r)(ho:PE X o to)(ha:PA X (e::es) t)
 (hbase:Yn o name X.env (yY o X.env)=yY o X.env:=by rfl)
 (hfew:((Yh cpos (yg (e::es) X.env)).all (fun x=>!x.1)&&(xA cpos (YE [] X.env)).all (fun x=>x.1.isSome)
  && decide ((e::es).length+([]:List xr).length+(if([]:List xr).isEmpty then 0 else 1)<30))=true:=by rfl)
 (hline:(apos.endLine==cpos.line)=true:=by rfl) (hs:yg (e::es) X.env=(false,yY e X.env)::yg es X.env:=by rfl) (hplain:(Yh cpos (yg es X.env)).any (·.1)=false:=by rfl) :
 PE X (.Call (.Attribute o name apos) (e::es) [] cpos) (tBM X.K T r to t):=by
 intro pins s σ H Q I h;refine wpAny_Call_method_late hbase hfew hline rfl (thn (ho pins s σ H _ I h) fun v s1 ⟨x,H1,I1,r1,ty,q1⟩=>?_);obtain⟨h1,h2⟩:=zpv I1 r1 ty;refine⟨T,id,pa,slot,hty,h1,h2,?_⟩;have hA:=ha cpos pins s1 σ H1 _ I1 q1;rw[hs]at hA ⊢;refine Calls.callWith_builtin (by show(false||(Yh cpos (yg es X.env)).any (·.1))=false;rw[hplain]<;>rfl) (Calls.evalArgs_plain ?_);exact thn hA fun us s2 ⟨vs,H2,I2,r2,q2⟩=>hm pins s2 σ H2 x vs v us Q I2 r1 r2 q2
end
def MtM(X:Cx)(id:String)(r:V->List V->Hp->VK->Prop):Prop :=
 ∀(pins:List (Addr×YL)) (s:yc) (σ:St) (H:Hp) (x:V) (xs:List V) (v:Value) (us:List Value) (Q:VK),Inv X pins σ H s->RelV x v->Vals xs us->r x xs H Q ->
  yk (yp X.prog X.w) X.A (call (.builtin id) (v::us)) (EP X pins σ Q) X.xe s
def Vals.uncons{x:V}{xs:List V}{us:List Value}(h:Vals (x::xs) us):∃u ws,us=u::ws/\RelV x u/\Vals xs ws:=by
 cases h with
 |cons r t=>exact⟨_,_,rfl,r,t⟩
def Vals.unnil{us:List Value}(h:Vals [] us):us=[]:=by
 cases h;rfl
def Vals.one{x:V}{us:List Value}(h:Vals [x] us):∃u,us=[u]/\RelV x u:=by
 obtain⟨u,ws,e,r,t⟩:=h.uncons;exact⟨u,by rw[e,t.unnil],r⟩
def Vals.zero:∀{us:List Value},Vals [] us->us=[]
 |_, .nil=>rfl
def Vals.dropLast{xs:List V}{us:List Value}(h:Vals xs us):Vals xs.dropLast us.dropLast:=by
 induction h with
 |nil=>exact .nil
 |cons r t ih=>
  cases t with
  |nil=>exact .nil
  |cons q t'=>exact .cons r ih
def Vals.reverse{xs:List V}{us:List Value}(h:Vals xs us):Vals xs.reverse us.reverse:=by
 induction h with
 |nil=>exact .nil
 |cons r t ih=>rw[List.reverse_cons,List.reverse_cons];exact Vals.append ih (.cons r .nil)
def Vals.rep{xs:List V}{us:List Value}(h:Vals xs us):∀k:Nat,Vals (yz k xs).flatten (yz k us).flatten
 |0 => .nil
 |k+1=>by
  rw[replicate_succ,replicate_succ,flatten_cons,flatten_cons];exact Vals.append h (Vals.rep h k)
def zmn(its:List Value):∀(k:Nat)(acc:List Value),
 List.foldl (fun x1 x2=>x1++x2) acc.toArray (yz k its.toArray)=(acc++(yz k its).flatten).toArray
 |0,acc=>by simp
 |k+1,acc=>by
  have e:acc.toArray++its.toArray=(acc++its).toArray:=by simp
  have e2:(acc++its)++(yz k its).flatten=acc++(yz (k+1) its).flatten:=by
   rw[replicate_succ,flatten_cons,append_assoc]
  rw[<-e2,<-zmn its k (acc++its),<-e,replicate_succ,List.foldl_cons]
section
variable {X:Cx}{pins:List (Addr×YL)}{σ:St}{H:Hp}{s:yc}{l b:Addr}{xs ys zs:List V}
def Inv.lset{its its':List Value}{n:Nat}{f:Array Value->Array Value}{t':Nat}(I:Inv X pins σ H s)(hH:H l=some (.lst xs))
 (e:s.heap.get? l=some {cls := .type "list",data := .seq its.toArray n }) (hf:f its.toArray=its'.toArray) (hv:Vals ys its') (hz:ys.length<=yB) :
 Inv X pins σ (upd H l (.lst ys)) {s with heap:=s.heap.update l (xM f),toks:=t' }:=by
 have q:=PySem.IsL.update e f;rw[hf]at q;refine I.write (x:=l) (e:=l) (by rw[hH];exact trivial) (.inl rfl) (fun b' u hb hu=>(Yb s.heap (xM f) (yF hb)).trans hu) ⟨_,q⟩ ?_;exact⟨hz,its',_,hv,q⟩
def Inv.lnew{its:List Value}{t':Nat}(I:Inv X pins σ H s)(hv:Vals ys its)(hz:ys.length<=yB) :
 Inv X pins σ (upd H s.heap.objs.size (.lst ys)) {s with heap:=s.heap.push {cls := .type "list",data := .seq its.toArray },toks:=t' } :=
 I.laid (fun _ _ q=>yd _ q) (yh _) ⟨hz,its,0,hv,yo _ rfl⟩
def Inv.fresh(I:Inv X pins σ H s):H s.heap.objs.size=none:=I.hok.fresh (yh _)
def Inv.lstM(I:Inv X pins σ H s)(hH:H l=some (.lst xs)):xs.length<=yB/\∃(its:List Value)(n:Nat),Vals xs its/\xs.length=its.length/\s.heap.get? l=some {cls := .type "list",data := .seq its.toArray n }:=by
 obtain⟨z,its,n,r,e⟩:=I.hok l _ hH;exact⟨z,its,n,r,r.length,e⟩
def notLongL{n:Nat}(h:n<=yB):YY n=false:=by
 unfold YY;exact decide_eq_false (by omega)
end
section
variable {X:Cx}
def z6v:V->List V->Hp->VK->Prop:=fun x vs H Q=>∃l xs y,x = .ref l/\vs=[y]/\H l=some (.lst xs)/\xs.length<yB/\Q .non (upd H l (.lst (xs++[y])))
def zLs:MtM X "list.append" z6v:=by
 intro pins s σ H x vs v us Q I rx rv h;obtain⟨l,xs,y,rfl,rfl,hH,hz,q⟩:=h;cases rx;obtain⟨u,rfl,ru⟩:=rv.one;obtain⟨z,its,n,r,hl,e⟩:=I.lstM hH;refine Xh F.slot_list_append ⟨_,e,rfl⟩ F.entry_list_append (F.args_list_append_2 _ _) (PySem.list_append l its.toArray n u (by rw[size_toArray];omega)) ⟨e,?_⟩;refine⟨.non,_,I.lset (its':=its++[u]) hH e (by simp) (r.append (.cons ru .nil)) ?_,rfl,q⟩;rw[length_append,length_singleton];omega
def z9v:V->List V->Hp->VK->Prop:=fun x vs H Q=>∃l b xs zs,x = .ref l/\vs=[.ref b]/\H l=some (.lst xs)/\H b=some (.lst zs)/\xs.length+zs.length<=yB/\Q .non (upd H l (.lst (xs++zs)))
def zEr:MtM X "list.extend" z9v:=by
 intro pins s σ H x vs v us Q I rx rv h;obtain⟨l,b,xs,zs,rfl,rfl,hH,hB,hz,q⟩:=h;cases rx;obtain⟨u,rfl,ru⟩:=rv.one;cases ru;obtain⟨z,its,n,r,hl,e⟩:=I.lstM hH;obtain⟨z2,its2,n2,r2,hl2,e2⟩:=I.lstM hB;have hsz:its.toArray.size+its2.toArray.size<=yB:=by rw[size_toArray,size_toArray];omega
 have hlong:¬(!its.toArray.isEmpty&&YY (its.toArray.size+its2.toArray.size))=true:=by
  rw[notLongL hsz,Bool.and_false];exact yx
 refine Xh F.slot_list_extend ⟨_,e,rfl⟩ F.entry_list_extend (F.args_list_extend_2 _ _)
  (AutoSeq1.list_extend_list_list_0 l its.toArray n b its2.toArray n2 hlong (by rw[size_toArray];omega) (by omega)) ⟨e,e2,?_⟩
 refine⟨.non,_,I.lset (its':=its++its2) hH e (by simp) (r.append r2) ?_,rfl,q⟩;rw[length_append];omega
def zgy:V->List V->Hp->VK->Prop:=fun x vs H Q=>∃l xs,x = .ref l/\vs=[]/\H l=some (.lst xs)/\Q .non (upd H l (.lst []))
def zBt:MtM X "list.clear" zgy:=by
 intro pins s σ H x vs v us Q I rx rv h;obtain⟨l,xs,rfl,rfl,hH,q⟩:=h;cases rx;have hus:=rv.zero;subst hus;obtain⟨z,its,n,r,hl,e⟩:=I.lstM hH;refine Xh F.slot_list_clear ⟨_,e,rfl⟩ F.entry_list_clear (F.args_list_clear_1 _) (AutoSeq1.list_clear_list_0 l its.toArray n (by rw[size_toArray];omega)) ⟨e,?_⟩;exact⟨.non,_,I.lset (its':=[]) (ys:=[]) hH e rfl .nil (Yq _),rfl,q⟩
def zhA:R2:=fun x y H Q=>∃l b xs zs,x = .ref l/\y = .ref b/\H l=some (.lst xs)/\H b=some (.lst zs)/\xs.length+zs.length<=yB/\∀p,H p=none->Q (.ref p) (upd H p (.lst (xs++zs)))
def znx:OpR X (xH .Add) zhA:=by
 intro pins s σ H x y v u Q I rx ry h;obtain⟨l,b,xs,zs,rfl,rfl,hH,hB,hz,q⟩:=h;cases rx;cases ry;obtain⟨z,its,n,r,hl,e⟩:=I.lstM hH;obtain⟨z2,its2,n2,r2,hl2,e2⟩:=I.lstM hB;refine PySem.P.add_list e e2 ?_ (by rw[size_toArray,size_toArray];omega);have ea:its.toArray++its2.toArray=(its++its2).toArray:=by simp
 rw[ea];exact⟨.ref _,_,I.lnew (t':=s.toks) (r.append r2) (by rw[length_append];omega),rfl,q _ I.fresh⟩
def zuA:R2:=fun x y H Q=>∃l k xs,x = .ref l/\y = .int k/\H l=some (.lst xs)/\-(2^63)<=k/\k<2^63/\xs.length*k.toNat<=yB /\
 ∀p,H p=none->Q (.ref p) (upd H p (.lst (yz k.toNat xs).flatten))
def zvs{α:Type}(xs:List α)(k:Nat):(yz k xs).flatten.length=k*xs.length:=by
 induction k with
 |zero=>simp
 |succ k ih=>rw[replicate_succ,flatten_cons,length_append,ih,Nat.succ_mul,Nat.add_comm]
def zmx:OpR X (xH .Mult) zuA:=by
 intro pins s σ H x y v u Q I rx ry h;obtain⟨l,k,xs,rfl,rfl,hH,h1,h2,hz,q⟩:=h;cases rx;obtain⟨t,rfl⟩:=ry;obtain⟨z,its,n,r,hl,e⟩:=I.lstM hH;have hlen:its.toArray.size*k.toNat<=yB:=by rw[size_toArray,<-hl];exact hz
 have hcap:¬its.toArray.size*k.toNat>(2^63-1) / 8:=by
  have:(yB:Nat)<=(2^63-1) / 8:=by decide
  omega
 have hfit:¬(!Builtin.List.listFitsIndex k)=true:=by
  rw[fitsIndex_both h1 h2];exact yx
 have hlong:¬YY (its.toArray.size*k.toNat)=true:=by
  rw[notLongL hlen];exact yx
 have hnew:List.foldl (fun x1 x2=>x1++x2) #[] (yz (if its.toArray.isEmpty=true then 0 else k.toNat) its.toArray)=(yz k.toNat its).flatten.toArray:=by
  have f0:∀m:Nat,List.foldl (fun x1 x2=>x1++x2) #[] (yz m its.toArray)=(yz m its).flatten.toArray:=fun m=>by
   have:=zmn its m [];rw[List.nil_append]at this;exact this
  rw[f0]
  cases its with
  |nil=>simp
  |cons a r'=>rw[if_neg (by simp)]
 refine wpAny_binaryOp_repeat_ref (T:="list") (U:="int") (by decide) ⟨_,e,rfl⟩ (fun s'=>typeIs_int s' k t) noFill_list_mul F.fills_int_mul F.slot_int_rmul repeat_list F.slot_int_index.lookup
  (Xh F.slot_int_rmul (typeIs_int s k t) F.entry_int_rmul (F.args_int_rmul_2 _ _) (int___rmul___int_list k t l its.toArray n)
   ⟨e,rfl,⟨_,e,rfl⟩,Xh F.slot_list_mul ⟨_,e,rfl⟩ F.entry_list_mul (F.args_list_mul_2 _ _) (AutoListH.list___mul___list_int_3 l its.toArray n k t hfit hcap hlong) ⟨e,?_⟩⟩)
 rw[hnew];exact⟨.ref _,_,I.lnew (t':=s.toks) (r.rep k.toNat) (by rw[zvs,Nat.mul_comm];exact hz),rfl,q _ I.fresh⟩
end
section
variable {prog:yv}{w:yE}{A:yH}{E:Value->yc->Prop}{s:yc}
end
section
variable {X:Cx}
end
end L2
namespace Att
open PySem PySem.W PySem.Calls PyProof.Rows
def zvj{P:Params}{h:yT}:∀(ns:List Int)(vs:List Value),WellAll P h vs (ns.map WData.int)->IntsAre vs ns:=by
 intro ns
 induction ns with
 |nil=>
  intro vs w;rw[map_nil]at w;cases w;exact .nil
 |cons n ns ih=>
  intro vs w;rw[map_cons]at w
  cases w with
  |cons a b=>
   cases a;exact .cons _ _ (ih _ b)
def zls{l:OpenLaw}{n:Nat}(hn:l.most=some n){P:Params}{h:yT}{args:List WData}{vals:List Value}
 (hpre:l.row.toRowW.claim.pre args=true) (hwl:WellAll P h vals args) :
 ∃a vs ns,vals=[yC a]/\args=[WData.list (ns.map WData.int)]/\h.get? a=some {cls := .type "list",data := .seq vs.toArray }/\IntsAre vs ns/\ns.length<=n:=by
 have hsh:WShape.hasAll [] args [.list .int]=true:=(pre_splitW hpre).1;have hc:l.pre.holds [] {args:=args } = true:=(pre_splitW hpre).2;obtain⟨d,r,rfl,h1,h2⟩:=hasAllW_cons hsh;obtain rfl:=hasAllW_nil h2;obtain⟨xs,rfl,h3⟩:=hasW_list h1;obtain⟨ns,rfl⟩:=items_int h3
 have hlen:ns.length<=n:=by
  unfold OpenLaw.pre at hc
  have h4:(WTm.not (.lt (.lit (.int (n:Int))) (.len (.arg 0)))).holds [] {args:=[.list (ns.map .int)]} = true:=by
   have h4:=(holds_andW hc).1;rw[hn]at h4;exact h4
  have h5:=condW_of h4 (w_not (w_lt w_lit (w_len_list (w_arg rfl))));rw[length_map]at h5;refine Nat.le_of_not_lt fun q=>?_;have q':(n:Int)<((ns.length:Nat):Int):=by omega
  first
   |(rw[decide_eq_true q']at h5;exact absurd h5 (by decide))
   |(simp at h5;omega)
 cases hwl with
 |cons w1 w2=>
  cases w2
  cases w1 with
  |list ho hall=>exact⟨_,_,ns,rfl,rfl,ho,zvj ns _ hall,hlen⟩
def zHs(l:OpenLaw)(args:List WData):l.row.toRowW.claim.post args (.bool true) args=true :=
 postW_of (r:=l.row.toRowW) (X:=(true==true))
  (show WShape.has [] (.bool true) .bool=true by first | rfl | decide | simp[WShape.has,WShape.arms,WShape.armsAll])
  (show(WTm.eq .res (.lit (.bool true))).value [] {args:=args,res:=some (.bool true),after:=args } = some (.bool (true==true)) from w_eq_bool (w_res rfl) w_lit) rfl
def attach_call{l:OpenLaw}{n:Nat}{q:yv}{loose:List Str}{XP:(Str->Option Value)->yT->Prop}{YP:yE->yT->Prop}{d:DefRec}
 (hn:l.most=some n) (hdf:d.params.defaults=[])
 (call:∀(w:yE)(s₀ s₁:yc)(mg mb:Str->Option Value)(fa:Addr)(o:YL)(pm cd doc:Value)(a:Addr)(vs:List Value)(ns:List Int),
  Ground q loose [] XP w s₀ mg mb s₁.heap->YP w s₁.heap ->
  s₁.heap.get? fa=some o->o.data = .func (docDef d.name d.params d.body d.scope pm cd doc)->s₁.heap.CodeRec cd d.name->mg d.name=some (.ref fa) ->
  s₁.heap.get? a=some {cls := .type "list",data := .seq vs.toArray }->IntsAre vs ns->ns.length<=n->s₁.gens = #[] ->
  Xc (yp l.prog w) callerA (.call (.ref fa) ⟨[.ref a],[]⟩) (fun r s'=>r = .ok (.ret (.bool true))/\OldK s₁.heap s'.heap/\s'.os=s₁.os/\AllBare s'.gens) s₁) :
 WalkO q loose XP YP l.row.toRowW d [] (fun f vs=>PySem.call f vs):=by
 intro w s₀ s₁ mg mb G Y fa o pm cd doc dV kV ho hd hcd hD hmg hg args vals as hpre hlay hrd hwl hlo;obtain rfl:dV = .none:=Dflts.none hD hdf;obtain rfl:kV = .none:=Dflts.noKw hD;obtain⟨a,vs,ns,rfl,rfl,hobj,hints,hlen⟩:=zls hn hpre hwl;refine enter_call (YO (call w s₀ s₁ mg mb fa o pm cd doc a vs ns G Y ho (fd_plain hd) hcd hmg hobj hints hlen hg) fun r s' hq=>?_);obtain⟨rfl,h2,h3,h4⟩:=hq;exact⟨.inl ⟨.bool true, .bool true,[],rfl,fun _=>rfl, .bool true,zHs l _,fun _=>⟨List.Pairwise.nil,fun _ hm=>(nomatch hm)⟩⟩,h2,h3,h4⟩
section
variable {prog:yv}{w:yE}{A:yH}{E:Value->yc->Prop}{s:yc}{K:Frag}
end
end Att
namespace L2
open PySem PySem.Spec PyProof.Rows
def zdn:∀{vs:List Value} {ns:List Int},IntsAre vs ns->Vals (ns.map V.int) vs
 |_,_, .nil => .nil
 |_,_, .cons n t h => .cons ⟨t,rfl⟩ (zdn h)
def z0y(H:Hp):Prop:=∀b,H b=none\/∃o xs,H b=some (.frz o (.lst xs))
def zTu{P:yv}{w:yE}{K:yr}{mg mb:Str->Option Value}{CX:CXT}{k:Nat}{fa a:Addr}{fd:yf}{x:Str}{sp:Sp}{s₁:yc}{vs:List Value}{ns:List Int}
 (KX:K.In s₁.heap) (hns:s₁.heap.Ns yj mg) (hb:s₁.heap.Ns builtinsNs mb) (hbb:∀x:Str,x≠"__name__"->mb x=yK x) (hlim:s₁.heap.NoLimit) (hg:s₁.gens = #[])
 (ha:s₁.heap.get? a=some {cls := .type "list",data := .seq vs.toArray }) (hi:IntsAre vs ns) (hl:ns.length<=yB) (hr:Room k callerA)
 (F:∀base:yT,K.In base->base.Ns yj mg->FnOk P w K mg base CX k fa fd [x] sp) (hbind:∀(s:yc)(u:Value),BindsTo s fd ⟨[u],[]⟩ [(x,u)])
 (hsp:∀H:Hp,z0y H->SqL K H a (ns.map V.int)->sp [.ref a] H (fun v _=>v = .bl true) fun _ _ _=>False)
 (hCX:∀H e s',CX [] H s₁ (fun _ _ _=>False) e s'->False) :
 Xc (yp P w) callerA (.call (.ref fa) ⟨[.ref a],[]⟩) (fun r s'=>r = .ok (.ret (.bool true))/\OldK s₁.heap s'.heap/\s'.os=s₁.os/\AllBare s'.gens) s₁:=by
 have rv:=zdn hi;have lenV:=hi.length
 have core:∀H:Hp,z0y H->SqL K H a (ns.map V.int)->HOk P w H s₁.heap->(∀b,H b≠none->b=a)->(H a≠none->K.lookup a=none) ->
  Xc (yp P w) callerA (.call (.ref fa) ⟨[.ref a],[]⟩) (fun r s'=>r = .ok (.ret (.bool true))/\OldK s₁.heap s'.heap/\s'.os=s₁.os/\AllBare s'.gens) s₁:=by
  intro H hO hS hok hA hK;have base_of:∀{b:Addr} {o:YL},s₁.heap.get? b=some o->H b=none->(z0t s₁.heap H).get? b=some o:=fun e n=>zmu e n
  have noA:∀{b:Addr} {o:YL} {es:Array DictEntry} {ep:Nat},s₁.heap.get? b=some o->o.data = .dict es ep->H b=none:=fun{b o es ep} e d=>by
   cases q:H b with
   |none=>rfl
   |some u=>
    have e':b=a:=hA b (by rw[q];simp);subst e';rw[ha]at e;cases e;have d':Data.seq vs.toArray _=Data.dict es ep:=d;cases d'
  have nsK:∀{b:Addr} {m:Str->Option Value},s₁.heap.Ns b m->(z0t s₁.heap H).Ns b m:=fun{b m} ⟨o,es,ep,e,d,r⟩=>⟨o,es,ep,base_of e (noA e d),d,r⟩
  have hKb:K.In (z0t s₁.heap H):=fun b o e=>base_of (KX b o e) (by
   cases q:H b with
   |none=>rfl
   |some u=>
    have e':b=a:=hA b (by rw[q];simp);subst e';rw[hK (by rw[q];simp)]at e;cases e)
  have hM:Mod K mg (z0t s₁.heap H):=⟨hKb,nsK hns,⟨mb,nsK hb,hbb⟩,let ⟨mc,h1,h2⟩:=hlim;⟨mc,nsK h1,h2⟩⟩
  have e0:Env0 P w K mg (z0t s₁.heap H) callerA [] s₁ H:=⟨rfl,hM,fun b o e=>zrw e,Nat.le_of_eq (zVr _ _),trivial,fun b hb=>absurd (show b∈([]:List Addr) from hb) (by simp),hok, .of_eq hg⟩
  refine YO ((F _ hKb (nsK hns)).run callerA [] s₁ H ⟨[.ref a],[]⟩ [.ref a] [.ref a] _ _ hr e0 (hbind s₁ (.ref a)) (.cons rfl .nil) (hsp H hO hS)) fun r s' h=>?_
  cases r with
  |error e=>exact(hCX H e s' h).elim
  |ok fl=>
   cases fl with
   |next=>exact Yu h
   |brk=>exact Yu h
   |cont=>exact Yu h
   |ret u=>
    obtain⟨v,H',os,bare,un,hok',r',q⟩:=h;have q':v = .bl true:=q;subst q';obtain rfl:u=Value.bool true:=r';refine⟨rfl,OldK.of_keep fun b o e=>?_,os,bare⟩
    cases q:H b with
    |none=>exact un.keep b o e q (by intro z;exact absurd (show b∈([]:List Addr) from z) (by simp)) (by simp)
    |some u=>
     rcases hO b with z | ⟨ob,xs,z⟩
     ·rw[q]at z;cases z
     ·have z2:=un.frzs b ob _ z;obtain⟨e1,_⟩:=hok b _ z;obtain⟨e2,_⟩:=hok' b _ z2;rw[e]at e1;cases e1;exact e2
 cases hk:K.lookup a with
 |some o=>
  have e:=KX a o hk;rw[ha]at e;cases e;refine core (fun _=>none) (fun _ => .inl rfl) (.inr ⟨_,vs.toArray,_,hk,rfl,rfl,rfl,by rw[size_toArray,lenV];exact hl,by simpa using rv⟩) (fun b u z=>by have z':(none:Option HO)=some u:=z;cases z') (fun b z=>absurd rfl z) fun z=>absurd rfl z
 |none=>
  refine core (fun b=>if b=a then some (.frz {cls := .type "list",data := .seq vs.toArray } (.lst (ns.map V.int))) else none) (fun b=>?_) (.inl (.inr ⟨{cls := .type "list",data := .seq vs.toArray },if_pos rfl⟩)) (fun b u z=>?_) (fun b z=>?_) fun _=>hk
  ·by_cases hb:b=a
   ·exact .inr ⟨_,_,if_pos hb⟩
   ·exact .inl (if_neg hb)
  ·by_cases hb:b=a
   ·have z':=(if_pos hb).symm.trans z;cases z';subst hb;exact⟨ha,by rw[length_map];exact hl,vs,_,rv,ha⟩
   ·have z':=(if_neg hb).symm.trans z;cases z'
  ·by_cases hb:b=a
   ·exact hb
   ·exact absurd (if_neg hb) z
def walk_of{l:W.OpenLaw}{n k:Nat}{q:yv}{loose:List Str}{XP:(Str->Option Value)->yT->Prop}{YP:yE->yT->Prop}{d:DefRec}{K:Params->yr}{CX:yE->CXT}{sp:yE->Sp}{x:Str}
 (hn:l.most=some n) (hn2:n<=yB) (hdf:d.params.defaults=[]) (hr:Room k callerA)
 (hY:∀(w:yE)(h:yT),YP w h->(K w.params).In h)
 (F:∀(w:yE)(mg:Str->Option Value)(fa:Addr)(h:yT),(K w.params).In h->h.Ns yj mg->mg d.name=some (.ref fa) ->
  ∃fd:yf,(∀(s:yc)(u:Value),BindsTo s fd ⟨[u],[]⟩ [(x,u)]) /\
   ∀base:yT,(K w.params).In base->base.Ns yj mg->FnOk l.prog w (K w.params) mg base (CX w) k fa fd [x] (sp w))
 (hsp:∀(w:yE)(H:Hp)(a:Addr)(ns:List Int),ns.length<=n->z0y H->SqL (K w.params) H a (ns.map V.int)->sp w [.ref a] H (fun v _=>v = .bl true) fun _ _ _=>False)
 (hCX:∀(w:yE)(H:Hp)(s:yc)(e:Value)(s':yc),CX w [] H s (fun _ _ _=>False) e s'->False) :
 W.WalkO q loose XP YP l.row.toRowW d [] (fun f vs=>PySem.call f vs):=by
 refine Att.attach_call hn hdf fun w s₀ s₁ mg mb fa o pm cd doc a vs ns G Y ho hd hcd hmg hobj hints hlen hg=>?_;have KX:=hY w _ Y;obtain⟨fd,hb,hF⟩:=F w mg fa _ KX G.T.g hmg;exact zTu KX G.T.g G.T.b G.T.builtins G.T.nolimit hg hobj hints (yy hlen hn2) hr hF hb (fun H hO hS=>hsp w H a ns hlen hO hS) fun H e s'=>hCX w H s₁ e s'
def zSd(s:Stmt)(j:Nat):Stmt:=match s with
 |.ClassDef _ _ _ body _ _ _ _ _ _ _=>body.getD j (.Pass ⟨0,0,0,0⟩)
 |_ => .Pass ⟨0,0,0,0⟩
def zqd(s:Stmt):Arguments:=match s with
 |.FunctionDef _ a _ _ _ _ _ _ _ _=>a
 |_=>{posonlyargs:=[],args:=[],vararg:=none,kwonlyargs:=[],kw_defaults:=[],kwarg:=none,defaults:=[]}
def zGc(s:Stmt):List Stmt:=match s with
 |.FunctionDef _ _ b _ _ _ _ _ _ _=>b
 |_=>[]
def zy(s:Stmt):Xa:=match s with
 |.FunctionDef _ _ _ _ _ _ sc _ _ _=>sc
 |_=>{kind := .function,names:=[],isGenerator:=false,isCoroutine:=false }
abbrev CX0:CXT:=fun _ _ _ _ _ _=>False
abbrev E0:XK:=fun _ _ _=>False
def pass0{X:Cx}:zrh CX0 X E0:=fun _ _ _ _ _ _ _ h=>h.elim
structure Fun(K:yr)(x qual:Str)(st:Stmt)(f:Addr)(fd:yf):Prop where
 ex:∃(oc:Value)(od:Option Addr)(kV doc pm:Value)(an:Option Addr)(cdv ct:Value)(osl:Array (Option Value)),
  fd=W.fnOf x qual (zqd st) (zGc st) (zy st) .none kV doc pm an cdv ct/\K.lookup f=some ⟨oc,od, .func fd,osl⟩/\W.codeIn K cdv qual=true
 kp:W.keepIn K (.ref f)=true
section
variable {P:yv}{w:yE}{K:yr}{mg:Str->Option Value}{base:yT}
def Fun.ok{x qual:Str}{st:Stmt}{f:Addr}{fd:yf}{N ps:List Str}{k:Nat}{sp:Sp}(F:Fun K x qual st f fd)(S:FnScope N ps (zy st))(len:∀vs H Q E,sp vs H Q E->vs.length=ps.length)
 (hbody:∀(cdv:Value)(A:yH)(outer:List Env)(s:yc)(H:Hp)(vs:List V)(Q:VK)(E:XK),Room k (A.deeper (envOfC qual (zy st) s.heap.objs.size f cdv))->sp vs H Q E ->
  ∃t,PSs (zqr CX0 P w K mg base N qual (zy st) f cdv A outer s H E).nox (zGc st) t/\t {nx:=fun _ H'=>Q .non H',rt:=Q } (start N vs) H):FnOk P w K mg base CX0 (k+1) f fd ps sp:=by
 obtain⟨oc,od,kV,doc,pm,an,cdv,ct,osl,rfl,lk,hcd⟩:=F.ex;refine zQy lk hcd S len fun A outer s H vs Q E hr hsp=>?_;obtain⟨t,h,q⟩:=hbody cdv A outer s H vs Q E hr hsp;exact⟨t,h.nox,q⟩
def Fun.binds{x qual:Str}{st:Stmt}{f:Addr}{fd:yf}{ps:List Str}(F:Fun K x qual st f fd)
 (h:∀(kV doc pm:Value)(an:Option Addr)(cdv ct:Value)(us:List Value),us.length=ps.length->bindArgs (W.fnOf x qual (zqd st) (zGc st) (zy st) .none kV doc pm an cdv ct) ⟨us,[]⟩=pure (ps.zip us)):Binds K fd ps []:=by
 obtain⟨oc,od,kV,doc,pm,an,cdv,ct,osl,rfl,lk,hcd⟩:=F.ex;exact .all (h kV doc pm an cdv ct)
def zWd{x qual:Str}{st:Stmt}{f:Addr}{oc:Value}{od an:Option Addr}{osl:Array (Option Value)}{kV doc pm cdv ct:Value}(l:K.lookup f=some ⟨oc,od, .func (W.fnOf x qual (zqd st) (zGc st) (zy st) .none kV doc pm an cdv ct),osl⟩)
 (c:W.codeIn K cdv qual=true) (k:W.keepIn K (.ref f)=true):Fun K x qual st f (W.fnOf x qual (zqd st) (zGc st) (zy st) .none kV doc pm an cdv ct):=⟨⟨oc,od,kV,doc,pm,an,cdv,ct,osl,rfl,l,c⟩,k⟩
end
def small1000{n:Nat}(h:n<=1000):n<yB:=Nat.lt_of_le_of_lt h (by decide)
section
variable {X:Cx}
def pv(i:Nat){x:Str}{pos:xi}(hN:X.N[i]?=some x:=by rfl)(hv:Vis X.env.scope x:=by first | exact Or.inl rfl | exact Or.inr (Or.inl rfl) | exact Or.inr (Or.inr rfl))(hd:(x==("__debug__":Str))=false:=by decide)
 (hcd:(x==("__classdict__":Str))=false:=by decide):PE X (.Name x pos) (zsz i):=z9u hN hv hd hcd
end
def iteF{A B:Prop}(h:B):if false=true then A else B:=by
 rw[if_neg yx];exact h
def iteT{A B:Prop}(h:A):if true=true then A else B:=by
 rw[if_pos rfl];exact h
def zKk(f:Array Value->Array Value)(o:YL):(YZ f o).dict=o.dict:=by
 unfold YZ
 split<;>rfl
def Trc(B h:yT)(e:Addr)(x:Value):Prop:=x = .none\/∃T oT ts y,x = .ref T/\B.get? T=none/\T≠e/\h.get? T=some oT/\oT.data = .fields ts/\ts[3]?=some y
structure Fly(B:yT)(l:List Env)(e:Addr)(cls:Value)(dx:Option Addr)(h:yT):Prop where
 st:B.StaysIn h
 new:B.get? e=none
 ff:h.FunFrames B l
 ob:∃oe vs x,h.get? e=some oe/\oe.cls=cls/\oe.dict=dx/\oe.data = .fields vs/\vs[1]?=some x/\Trc B h e x
section
variable {M:Model}{A:yH}{E:Value->yc->Prop}{s:yc}{B:yT}{l outer:List Env}{env:Env}{e L:Addr}{cls:Value}{dx:Option Addr}{Q:Unit->yc->Prop}
def Fly.recW{h:yT}{T:Addr}{oT:YL}{ts:Array Value}(F:Fly B l e cls dx h)(hb:B.get? T=none)(hT:h.get? T=some oT)(hd:oT.data = .fields ts)(g:Array Value->Array Value)
 (hob:∃oe vs x,(h.update T (YZ g)).get? e=some oe/\oe.cls=cls/\oe.dict=dx/\oe.data = .fields vs/\vs[1]?=some x/\Trc B (h.update T (YZ g)) e x) :
 Fly B l e cls dx (h.update T (YZ g))/\h.UpToSlots (h.update T (YZ g)):=by
 have other:∀b,b≠T->(h.update T (YZ g)).get? b=h.get? b:=fun b hb=>Yb _ _ (yF hb)
 have noR:∀b o,h.get? b=some o->(∀vs,o.data≠.fields vs)->b≠T:=fun b o q hn z=>by
  rw[z,hT]at q;cases q;exact hn ts hd
 exact⟨⟨fun b o q=>(other b fun z=>by rw[z,hb]at q;cases q).trans (F.st b o q),F.new,F.ff.of_keeps fun b o q hn=>⟨o,(other b (noR b o q hn)).trans q,rfl⟩,hob⟩,fun b o q hn=>⟨o.slots,(other b (noR b o q hn)).trans q⟩⟩
def zgf(F:Fly B l e cls dx s.heap)(h:∀h',Fly B l e cls dx h'->s.heap.UpToSlots h'->Q () {s with heap:=h' }):yk M A (setFlight (.ref e) none) Q E s:=by
 obtain⟨oe,vs,x,he,hc,hx,hd,h1,tr⟩:=F.ob;unfold setFlight;refine ya (YA he hd h1 ?_);rcases tr with rfl | ⟨T,oT,ts,y,rfl,hb,hne,hT,hdT,h3⟩
 ·rw[if_neg (by decide)];exact ye (h _ F (.refl _))
 ·rw[if_pos (show(yC T != Yi)=true from by simp)];have h3':=(Array.getElem?_eq_some_iff.mp h3).1;refine YR hT hdT h3' ?_
  obtain⟨F',u⟩:=F.recW hb hT hdT (·.setIfInBounds 3 ((none:Option Addr).elim Yi fun f=>Yz f))
   ⟨oe,vs,_,(Yb _ _ hne).trans he,hc,hx,hd,h1, .inr ⟨T,_,_, .none,rfl,hb,hne,yJ _ hT (Yw (yW hdT _)),yW hdT _,by simp[h3']⟩⟩
  exact h _ F' u
def zfr{head:Value}{hadNext:Bool}(hfr:A.frames=some (env::outer))(hf:env.frame=some L)(F:Fly B (env::outer) e cls dx s.heap)(h:∀h',Fly B (env::outer) e cls dx h'->s.heap.UpToSlots h'->Q () {s with heap:=h' }) :
 yk M A (do let a <-frameOf env;let pl <-entryPlaceOf L hadNext;let b <-EntryCells.newEntry head a .none (Yz L) .none pl;setField (.ref e) 1 b) Q E s:=by
 obtain⟨oe,vs,x,he,hc,hx,hd,h1,tr⟩:=F.ob;have hl:=F.ff
 have hene:e∉(env::outer).filterMap (·.frame):=fun hm=>by
  obtain⟨_,o,ho,hnf⟩:=hl.mem hm;rw[he]at ho;cases ho;exact hnf vs hd
 refine ya (wpAny_frameOf_fun hfr hl hf fun h₁ hs=>?_);refine ya (wpAny_entryPlaceOf fun pl hpl=>?_);unfold EntryCells.newEntry newFields;refine ya (yV ?_ (hpl.sizeOk5 _ _ _ _ _));generalize hts:([head,yC L,Yi,Yz L,Yi]++(if pl.isEmpty=true then yz 6 Yi else pl))=ts;have hts3:ts.toArray[3]?=some (Yz L):=by rw[<-hts];simp
 have he₁:h₁.get? e=some oe:=(hs.2.1 e hene).trans he;have hn:h₁.objs.size≠e:=yO (yi he₁);have kb:B.StaysIn h₁:=fun b o q=>(hs.2.1 b fun hm=>by rw[(hl.mem hm).1]at q;cases q).trans (F.st b o q);have he₂:=yd (h:=h₁) {cls := .type "traceback",dict:=none,data := .fields ts.toArray } he₁;refine YR he₂ hd (Array.getElem?_eq_some_iff.mp h1).1 (h _ ?_ ?_)
 all_goals
  have keep:∀b o,b≠e->h₁.get? b=some o->((h₁.push {cls := .type "traceback",dict:=none,data := .fields ts.toArray }).update e (YZ (·.setIfInBounds 1 (yC h₁.objs.size)))).get? b=some o:=fun b o hbe hb=>by
   rw[Yb _ _ (yF hbe)];exact yd _ hb
  have noR:∀b o,s.heap.get? b=some o->(∀vs,o.data≠.fields vs)->b≠e:=fun b o q hn z=>by
   rw[z,he]at q;cases q;exact hn vs hd
 ·refine⟨fun b o q=>keep b o (fun z=>by rw[z,F.new]at q;cases q) (kb b o q),F.new,hl.of_keeps fun b o q hn=>?_,?_⟩
  ·obtain⟨sl,z⟩:=hs.2.2 b o q;exact⟨_,keep b _ (noR b o q hn) z,rfl⟩
  ·have hd₃:=yW hd (·.setIfInBounds 1 (yC h₁.objs.size));refine⟨_,_,_,yJ _ he₂ (Yw hd₃),(Xd _ _).trans hc,(zKk _ _).trans hx,hd₃,by simp[(Array.getElem?_eq_some_iff.mp h1).1], .inr ⟨h₁.objs.size,{cls := .type "traceback",dict:=none,data := .fields ts.toArray },ts.toArray,Yz L,rfl,kb.fresh,hn,?_,rfl,hts3⟩⟩;exact(Yb _ _ (yF hn)).trans (yo h₁ rfl)
 ·intro b o q hn;obtain⟨sl,z⟩:=hs.2.2 b o q;exact⟨sl,keep b _ (noR b o q hn) z⟩
def zuk(hfr:A.frames=some (env::outer))(hf:env.frame=some L)(F:Fly B (env::outer) e cls dx s.heap)(h:∀h',Fly B (env::outer) e cls dx h'->s.heap.UpToSlots h'->Q () {s with heap:=h' }) :
 yk M A (noteFrame (.ref e) env) Q E s:=by
 obtain⟨oe,vs,x,he,hc,hx,hd,h1,tr⟩:=F.ob;unfold noteFrame;simp only[hf];refine ya (YA he hd h1 ?_);rcases tr with rfl | ⟨T,oT,ts,y,rfl,hb,hne,hT,hdT,h3⟩
 ·rw[if_neg (by decide)];exact zfr hfr hf F h
 ·rw[if_pos (show(yC T != Yi)=true from by simp)];refine ya (YA hT hdT h3 ?_)
  by_cases hy:(y==Yz L)=true
  ·rw[if_pos hy];exact ye (h _ F (.refl _))
  ·rw[if_neg hy];have h3':=(Array.getElem?_eq_some_iff.mp h3).1;refine ya (YR hT hdT h3' ?_)
   obtain⟨F',u⟩:=F.recW hb hT hdT (·.setIfInBounds 3 Yi)
    ⟨oe,vs,_,(Yb _ _ hne).trans he,hc,hx,hd,h1, .inr ⟨T,_,_, .none,rfl,hb,hne,yJ _ hT (Yw (yW hdT _)),yW hdT _,by simp[h3']⟩⟩
   exact zfr hfr hf F' fun h' F'' u'=>h h' F'' (u.trans u')
def zes(hfr:A.frames=some (env::outer))(hf:env.frame=some L)(F:Fly B (env::outer) e cls dx s.heap)(h:∀h',Fly B outer e cls dx h'->s.heap.UpToSlots h'->Q () {s with heap:=h' }) :
 yk M A (leaving env (.ref e)) Q E s:=by
 unfold leaving;refine ya (zuk hfr hf F fun h1 F1 u1=>?_);refine zgf (s:={s with heap:=h1 }) F1 fun h2 F2 u2=>?_;exact h h2 ⟨F2.st,F2.new,F2.ff.2.2,F2.ob⟩ (u1.trans u2)
end
def ObjOk.there{P:yv}{w:yE}{H:Hp}{h:yT}{a:Addr}{o:HO}(x:ObjOk P w H h a o):∃u,h.get? a=some u:=by
 cases o with
 |lst xs=>obtain⟨_,_,_,_,e⟩:=x;exact⟨_,e⟩
 |tup xs=>obtain⟨_,_,_,o,e,_⟩:=x;exact⟨_,e⟩
 |dK kvs=>obtain⟨_,_,_,_,o,_,_,e,_⟩:=x;exact⟨_,e⟩
 |dT kvs=>obtain⟨_,_,_,_,o,_,_,e,_⟩:=x;exact⟨_,e⟩
 |set S n=>obtain⟨o,_,_,_,e,_⟩:=x;exact⟨_,e⟩
 |ins C dx fs=>obtain⟨_,_,_,e,_⟩:=x;exact⟨_,e⟩
 |own y=>obtain⟨_,e⟩:=x;exact⟨_,e⟩
 |xd fs=>obtain⟨_,⟨_,_,_,e,_⟩,_⟩:=x;exact⟨_,e⟩
 |rng lo hi=>obtain⟨_,_,_,e⟩:=x;exact⟨_,e⟩
 |frz ob u=>obtain⟨e,_⟩:=x;exact⟨_,e⟩
 |tbl ps=>exact⟨_,(show h.get? a=some _ from x)⟩
 |met f y=>exact⟨_,(show h.get? a=some _ from x)⟩
 |ext φ=>obtain⟨_,⟨_,e⟩,_⟩:=x;exact⟨_,e⟩
structure Cov(outer:List Env)(H':Hp)(h B:yT):Prop where
 tr:∀b o,H' b=some o->∃u,B.get? b=some u
 old:∀b o,h.get? b=some o->b∉frs outer->∃u,B.get? b=some u
structure FlyX(P:yv)(w:yE)(outer:List Env)(H:Hp)(s:yc)(C:Value)(dx:Option Addr)(H':Hp)(e:Value)(s':yc):Prop where
 os:s'.os=s.os
 bare:AllBare s'.gens
 un:Un (frs outer) [] H H' s.heap s'.heap
 hok:HOk P w H' s'.heap
 fly:∃a B,e = .ref a/\Fly B outer a C dx s'.heap/\Cov outer H' s.heap B
def CXq(P:yv)(w:yE):CXT:=fun outer H s E e s'=>∃C dx H',FlyX P w outer H s C dx H' e s'/\E C dx H'
section
variable {P:yv}{w:yE}{outer:List Env}{H H':Hp}{h0 h h' B base:yT}
def zyo(u:Un (frs outer) [] H H' h0 h)(c:Cov outer H' h0 B)(st:B.StaysIn h)(st':B.StaysIn h')(sm:h.UpToSlots h')(ff:h0.FunFrames base outer)(frf:∀b∈frs outer,H b=none):Un (frs outer) [] H H' h0 h' where
 keep:=fun b o q n hb hx=>by
  obtain⟨v,hv⟩:=c.old b o q hb;have e1:=u.keep b o q n hb hx;have e2:=st b v hv;rw[e1]at e2;cases e2;exact st' b o hv
 slot:=fun b o q n hb hx=>by
  obtain⟨sl,e1⟩:=u.slot b o q n hb hx;obtain⟨_,o',ho',hd⟩:=ff.mem hb;rw[q]at ho';cases ho';obtain⟨sl',e2⟩:=sm b _ e1 hd;exact⟨sl',e2⟩
 free:=u.free
 there:=fun b o q hx=>by
  by_cases hb:b∈frs outer
  ·obtain⟨sl,e1⟩:=u.slot b o q (frf b hb) hb hx;obtain⟨_,o',ho',hd⟩:=ff.mem hb;rw[q]at ho';cases ho';obtain⟨sl',e2⟩:=sm b _ e1 hd;exact⟨_,e2⟩
  ·obtain⟨v,hv⟩:=c.old b o q hb;exact⟨v,st' b v hv⟩
 tups:=u.tups
 frzs:=u.frzs
 tbls:=u.tbls
def zDl(x:HOk P w H' h)(c:Cov outer H' h0 B)(st:B.StaysIn h)(st':B.StaysIn h'):HOk P w H' h':=fun a o e=>by
 refine(x a o e).stay (fun b u hb q=>?_) (fun _ q=>q) fun _ _ q=>q
 have hb:∃o',H' b=some o':=by
  rcases hb with rfl | hb
  ·exact⟨_,e⟩
  ·exact⟨_,hb⟩
 obtain⟨o',hb⟩:=hb;obtain⟨v,hv⟩:=c.tr b o' hb;have e2:=st b v hv;rw[q]at e2;cases e2;exact st' b u hv
end
section
variable {X:Cx}{pins:List (Addr×YL)}{σ:St}{H H':Hp}{s s':yc}{C:Value}{a:Addr}{dx:Option Addr}
def Inv.fly{B h':yT}(I:Inv X pins σ H s)(F:FlyX X.prog X.w X.stack H s C dx H' (.ref a) s')(c:Cov X.stack H' s.heap B)(st:B.StaysIn s'.heap)(st':B.StaysIn h')(sm:s'.heap.UpToSlots h'){t':Nat}{d':Drawn} :
 Inv X pins σ H' {s' with heap:=h',toks:=t',drawn:=d' } :=
 I.call' F.os (zyo F.un c st st' sm I.stack I.stkFree) (zDl F.hok c st st') F.bare fun b z=>absurd z (by simp)
def Inv.madeX{h':yT}{vs:List Value}(I:Inv X pins σ H s)(hm:Heap.MadeExcOf s.heap h' a C vs):FlyX X.prog X.w X.stack H s C none H (.ref a) {s with heap:=h' }:=by
 have hin:∀env∈X.stack,∀b,env.frame=some b->b∈frs X.stack:=fun env he b hb=>List.mem_filterMap.mpr ⟨env,he,hb⟩;obtain⟨t,he,_,_⟩:=hm.there
 have hn:(W.hideAll s.heap (frs X.stack)).get? a=none:=by
  cases q:(W.hideAll s.heap (frs X.stack)).get? a with
  |none=>rfl
  |some o=>have:=W.of_hideAll _ q;rw[hm.new]at this;cases this
 refine⟨rfl,I.bare,Un.kept hm.keeps,I.hok.kept hm.keeps,a,W.hideAll s.heap (frs X.stack),rfl,⟨fun b o q=>hm.keeps b o (W.of_hideAll _ q),hn,?_,⟨_,_,_,he,rfl,rfl,rfl,rfl, .inl rfl⟩⟩,?_⟩
 ·exact(W.funFrames_hide I.stack hin).of_keeps fun b o hb _=>⟨o,hm.keeps b o hb,rfl⟩
 ·exact⟨fun b o q=>by
   obtain⟨u,hu⟩:=(I.hok b o q).there;exact⟨u,W.hideAll_get _ hu fun hm=>by rw[I.stkFree b hm]at q;cases q⟩,fun b o q hb=>⟨o,W.hideAll_get _ q hb⟩⟩
end
def zYl(X:Cx)(C:Value)(dx:Option Addr)(H':Hp):Prop:=∀pins σ H s e s',Inv X pins σ H s->FlyX X.prog X.w X.stack H s C dx H' e s'->X.xe e s'
section
variable {P:yv}{w:yE}{K:yr}{mg:Str->Option Value}{base:yT}{N:List Str}{qual:Str}{scope:Xa}{f:Addr}{cd:Value}{A:yH}{outer:List Env}{s:yc}{H H':Hp}{E:XK}{C:Value}{dx:Option Addr}
def zfw{X:Cx}{pins:List (Addr×YL)}{σ:St}{H1:Hp}{s1:yc}{B:yT}(I:Inv X pins σ H1 s1)(hs:X.stack=X.env::X.outer)(hf:X.env.frame=some X.env.locals)(hex:X.ex=[])(c:Cov X.stack H' s1.heap B):Cov X.outer H' X.s₀.heap B where
 tr:=c.tr
 old:=fun b o q hb=>by
  obtain⟨o1,e1⟩:=I.base.there b o q (by rw[hex];simp);refine c.old b o1 e1 ?_;rw[hs];unfold frs;rw[filterMap_cons,hf];intro hm;rcases List.mem_cons.mp hm with rfl | hm
  ·exact absurd (yq (yi q) I.ok.above) (yS _)
  ·exact hb hm
def z3q(hE:E C dx H'):zYl (zqr (CXq P w) P w K mg base N qual scope f cd A outer s H E) C dx H':=by
 intro pins σ H1 s1 e s' I F;have hf:(envOfC qual scope s.heap.objs.size f cd).frame=some (envOfC qual scope s.heap.objs.size f cd).locals:=rfl;obtain⟨a,B,rfl,fl,c⟩:=F.fly;refine zes I.ok.frames hf fl fun h'' fl' sm=>?_;have J:Inv (zqr (CXq P w) P w K mg base N qual scope f cd A outer s H E) pins σ H' {s' with heap:=h'' }:=I.fly F c fl.st fl'.st sm;exact⟨C,dx,H',⟨J.os,J.bare,J.base,J.hok,a,B,rfl,fl',zfw (X:=zqr (CXq P w) P w K mg base N qual scope f cd A outer s H E) I rfl rfl rfl c⟩,hE⟩
end
end L2
namespace M
open PySem PySem.Spec PyProof.Rows L2
inductive D where
 |non | bl (b:Bool) | int (i:Int) | str (x:Str) | ty (n:String)
  |tup (ds:List D)
  |fz (ds:List D)
  |loc (n:Nat)
  |own (c:Str)
inductive LObj where
 |lst (ds:List D)
  |dct (kvs:List (Int×D))
  |dcf (kvs:List (Int×D))
  |exc (c:Str) (fs:List (Str×D))
  |ins (c:Str) (fs:List (Str×D))
abbrev Mem:=List LObj
def z9p(a C:Addr)(dx:Option Addr):yT->Prop:=fun h=>∃o vs,h.get? a=some o/\o.cls = .ref C/\o.dict=dx/\o.data = .fields vs
abbrev Loc:=List (Option D)
section
variable (K:yr)
def FzL(H:Hp)(a:Addr)(vs:List V):Prop :=
 (∃o,H a=some (.frz o (.lst vs)))\/∃(o:YL)(its:Array Value)(n:Nat),K.lookup a=some o/\o.cls = .type "list"/\o.dict=none/\o.data = .seq its n/\its.size<=yB/\Vals vs its.toList
mutual
def RepV(ρ:List Addr)(H:Hp):D->V->Prop
 |.non,v=>v = .non
 |.bl b,v=>v = .bl b
 |.int i,v=>v = .int i
 |.str x,v=>v = .str x
 |.ty n,v=>v = .ty n
 |.tup ds,v=>∃a vs,v = .ref a/\H a=some (.tup vs)/\RepVs ρ H ds vs
 |.fz ds,v=>∃a vs,v = .ref a/\FzL K H a vs/\RepVs ρ H ds vs
 |.loc n,v=>∃a,v = .ref a/\ρ[n]?=some a
 |.own c,v=>∃a,v = .ref a/\Yg K yj c=some (some (.ref a))
def RepVs(ρ:List Addr)(H:Hp):List D->List V->Prop
 |[],vs=>vs=[]
 |d::ds,vs=>∃v r,vs=v::r/\RepV ρ H d v/\RepVs ρ H ds r
end
def RepX(ρ:List Addr)(H:Hp)(fs:List (Str×D))(dx:Option Addr):Prop:=(fs=[]/\dx=none)\/∃p vs,dx=some p/\H p=some (.xd vs)/\vs.map (·.1)=fs.map (·.1)/\RepVs K ρ H (fs.map (·.2)) (vs.map (·.2))
def RepO(ρ:List Addr)(H:Hp)(a:Addr):LObj->Prop
 |.lst ds=>∃vs,H a=some (.lst vs)/\RepVs K ρ H ds vs
 |.dct kvs=>∃vs,H a=some (.dK vs)/\vs.map (·.1)=kvs.map (fun p=>yD p.1)/\RepVs K ρ H (kvs.map (·.2)) (vs.map (·.2))
 |.dcf kvs=>∃o vs,H a=some (.frz o (.dK vs))/\vs.map (·.1)=kvs.map (fun p=>yD p.1)/\RepVs K ρ H (kvs.map (·.2)) (vs.map (·.2))
 |.exc c fs=>∃C dx,Yg K yj c=some (some (.ref C))/\H a=some (.ext (z9p a C dx))/\RepX K ρ H fs dx
 |.ins c fs=>∃C dx vs,Yg K yj c=some (some (.ref C))/\H a=some (.ins C dx vs)/\vs.map (·.1)=fs.map (·.1)/\RepVs K ρ H (fs.map (·.2)) (vs.map (·.2))
structure RepH(ρ:List Addr)(H:Hp)(μ:Mem):Prop where
 nd:ρ.Nodup
 len:ρ.length=μ.length
 at_:∀(n:Nat) a o,ρ[n]?=some a->μ[n]?=some o->RepO K ρ H a o
structure Ext(ρ:List Addr)(H:Hp)(ρ':List Addr)(H':Hp):Prop where
 pre:∃more,ρ'=ρ++more
 tup:∀a vs,H a=some (.tup vs)->H' a=some (.tup vs)
 frz:∀a o u,H a=some (.frz o u)->H' a=some (.frz o u)
 xd:∀a fs,H a=some (.xd fs)->H' a=some (.xd fs)
def RepSt(ρ:List Addr)(H:Hp)(σ:L2.St)(δ:Loc):Prop:=∀(i:Nat) d,δ[i]?=some (some d)->∃v,σ[i]?=some (some v)/\RepV K ρ H d v
end
section
variable {K:yr}{ρ ρ' ρ'':List Addr}{H H' H'':Hp}{μ:Mem}{σ:L2.St}{δ:Loc}
def Ext.refl:Ext ρ H ρ H:=⟨⟨[],by simp⟩,fun _ _ h=>h,fun _ _ _ h=>h,fun _ _ h=>h⟩
def Ext.trans(a:Ext ρ H ρ' H')(b:Ext ρ' H' ρ'' H''):Ext ρ H ρ'' H'':=by
 obtain⟨m,e⟩:=a.pre;obtain⟨m',e'⟩:=b.pre;exact⟨⟨m++m',by rw[e',e,append_assoc]⟩,fun _ _ h=>b.tup _ _ (a.tup _ _ h),fun _ _ _ h=>b.frz _ _ _ (a.frz _ _ _ h),fun _ _ h=>b.xd _ _ (a.xd _ _ h)⟩
def Ext.get(e:Ext ρ H ρ' H'){n:Nat}{a:Addr}(h:ρ[n]?=some a):ρ'[n]?=some a:=by
 obtain⟨m,e⟩:=e.pre;rw[e,yt (List.getElem?_eq_some_iff.mp h).1];exact h
def Ext.fz(e:Ext ρ H ρ' H'){a:Addr}{vs:List V}(h:FzL K H a vs):FzL K H' a vs:=by
 rcases h with ⟨o,h⟩ | h
 ·exact .inl ⟨o,e.frz _ _ _ h⟩
 ·exact .inr h
mutual
def RepV.ext(e:Ext ρ H ρ' H'):∀{d:D} {v:V},RepV K ρ H d v->RepV K ρ' H' d v
 |.non,_,h=>by unfold RepV at h ⊢;exact h
 |.bl _,_,h=>by unfold RepV at h ⊢;exact h
 |.int _,_,h=>by unfold RepV at h ⊢;exact h
 |.str _,_,h=>by unfold RepV at h ⊢;exact h
 |.ty _,_,h=>by unfold RepV at h ⊢;exact h
 |.tup ds,_,h=>by
  unfold RepV at h ⊢;obtain⟨a,vs,e1,e2,r⟩:=h;exact⟨a,vs,e1,e.tup _ _ e2,RepVs.ext e r⟩
 |.fz ds,_,h=>by
  unfold RepV at h ⊢;obtain⟨a,vs,e1,e2,r⟩:=h;exact⟨a,vs,e1,e.fz e2,RepVs.ext e r⟩
 |.loc n,_,h=>by
  unfold RepV at h ⊢;obtain⟨a,e1,e2⟩:=h;exact⟨a,e1,e.get e2⟩
 |.own c,_,h=>by unfold RepV at h ⊢;exact h
def RepVs.ext(e:Ext ρ H ρ' H'):∀{ds:List D} {vs:List V},RepVs K ρ H ds vs->RepVs K ρ' H' ds vs
 |[],_,h=>by unfold RepVs at h ⊢;exact h
 |d::ds,_,h=>by
  unfold RepVs at h ⊢;obtain⟨v,r,e1,h1,h2⟩:=h;exact⟨v,r,e1,RepV.ext e h1,RepVs.ext e h2⟩
end
def RepSt.ext(e:Ext ρ H ρ' H')(h:RepSt K ρ H σ δ):RepSt K ρ' H' σ δ:=fun i d q=>
 let ⟨v,e1,r⟩:=h i d q
 ⟨v,e1,r.ext e⟩
def RepVs.length:∀{ds:List D} {vs:List V},RepVs K ρ H ds vs->ds.length=vs.length
 |[],_,h=>by unfold RepVs at h;subst h;rfl
 |d::ds,_,h=>by
  unfold RepVs at h;obtain⟨v,r,e1,_,h2⟩:=h;subst e1;have:=RepVs.length h2;simp[this]
def RepVs.get:∀{ds:List D} {vs:List V} {i:Nat} {d:D},RepVs K ρ H ds vs->ds[i]?=some d->∃v,vs[i]?=some v/\RepV K ρ H d v
 |[],_,_,_,_,q=>by simp at q
 |d::ds,_,0,d',h,q=>by
  unfold RepVs at h;obtain⟨v,r,e1,h1,_⟩:=h;subst e1;simp at q;subst q;exact⟨v,by simp,h1⟩
 |d::ds,_,i+1,d',h,q=>by
  unfold RepVs at h;obtain⟨v,r,e1,_,h2⟩:=h;subst e1;obtain⟨w,e2,h3⟩:=RepVs.get (i:=i) h2 (by simpa using q);exact⟨w,by simpa using e2,h3⟩
def RepVs.cons{d:D}{v:V}{ds:List D}{vs:List V}(h1:RepV K ρ H d v)(h2:RepVs K ρ H ds vs):RepVs K ρ H (d::ds) (v::vs):=by
 unfold RepVs;exact⟨v,vs,rfl,h1,h2⟩
def RepVs.nil:RepVs K ρ H [] []:=by unfold RepVs;rfl
def RepVs.cons_inv{d:D}{ds:List D}{vs:List V}(h:RepVs K ρ H (d::ds) vs):∃v r,vs=v::r/\RepV K ρ H d v/\RepVs K ρ H ds r:=by
 unfold RepVs at h;exact h
def RepVs.nil_inv{vs:List V}(h:RepVs K ρ H [] vs):vs=[]:=by unfold RepVs at h;exact h
def RepVs.append:∀{ds es:List D} {vs us:List V},RepVs K ρ H ds vs->RepVs K ρ H es us->RepVs K ρ H (ds++es) (vs++us)
 |[],_,_,_,h,q=>by rw[h.nil_inv];exact q
 |d::ds,_,_,_,h,q=>by
  obtain⟨v,r,rfl,h1,h2⟩:=h.cons_inv;exact .cons h1 (RepVs.append h2 q)
def RepVs.take:∀{ds:List D} {vs:List V} (n:Nat),RepVs K ρ H ds vs->RepVs K ρ H (ds.take n) (vs.take n)
 |[],_,n,h=>by rw[h.nil_inv];simp[RepVs.nil]
 |d::ds,_,0,h=>by simp[RepVs.nil]
 |d::ds,_,n+1,h=>by
  obtain⟨v,r,rfl,h1,h2⟩:=h.cons_inv;simpa using RepVs.cons h1 (RepVs.take n h2)
def RepVs.drop:∀{ds:List D} {vs:List V} (n:Nat),RepVs K ρ H ds vs->RepVs K ρ H (ds.drop n) (vs.drop n)
 |[],_,n,h=>by rw[h.nil_inv];simp[RepVs.nil]
 |d::ds,_,0,h=>by simpa using h
 |d::ds,_,n+1,h=>by
  obtain⟨v,r,rfl,h1,h2⟩:=h.cons_inv;simpa using RepVs.drop n h2
def RepVs.set:∀{ds:List D} {vs:List V} {d:D} {v:V} (n:Nat),RepV K ρ H d v->RepVs K ρ H ds vs->RepVs K ρ H (ds.set n d) (vs.set n v)
 |[],_,_,_,n,_,h=>by rw[h.nil_inv];simp[RepVs.nil]
 |d::ds,_,_,_,0,q,h=>by
  obtain⟨v,r,rfl,h1,h2⟩:=h.cons_inv;simpa using RepVs.cons q h2
 |d::ds,_,_,_,n+1,q,h=>by
  obtain⟨v,r,rfl,h1,h2⟩:=h.cons_inv;simpa using RepVs.cons h1 (RepVs.set n q h2)
def RepV.int_inv{i:Int}{v:V}(h:RepV K ρ H (.int i) v):v = .int i:=by unfold RepV at h;exact h
def RepV.bl_inv{i:Bool}{v:V}(h:RepV K ρ H (.bl i) v):v = .bl i:=by unfold RepV at h;exact h
def RepV.non_inv{v:V}(h:RepV K ρ H .non v):v = .non:=by unfold RepV at h;exact h
def RepV.str_inv{x:Str}{v:V}(h:RepV K ρ H (.str x) v):v = .str x:=by unfold RepV at h;exact h
def RepV.ty_inv{x:String}{v:V}(h:RepV K ρ H (.ty x) v):v = .ty x:=by unfold RepV at h;exact h
def RepV.tup_inv{ds:List D}{v:V}(h:RepV K ρ H (.tup ds) v):∃a vs,v = .ref a/\H a=some (.tup vs)/\RepVs K ρ H ds vs:=by unfold RepV at h;exact h
def RepV.fz_inv{ds:List D}{v:V}(h:RepV K ρ H (.fz ds) v):∃a vs,v = .ref a/\FzL K H a vs/\RepVs K ρ H ds vs:=by unfold RepV at h;exact h
def RepV.loc_inv{n:Nat}{v:V}(h:RepV K ρ H (.loc n) v):∃a,v = .ref a/\ρ[n]?=some a:=by unfold RepV at h;exact h
def RepV.int{i:Int}:RepV K ρ H (.int i) (.int i):=by unfold RepV;rfl
def RepV.bl{i:Bool}:RepV K ρ H (.bl i) (.bl i):=by unfold RepV;rfl
def RepV.non:RepV K ρ H .non .non:=by unfold RepV;rfl
def RepV.str{x:Str}:RepV K ρ H (.str x) (.str x):=by unfold RepV;rfl
def RepV.ty{x:String}:RepV K ρ H (.ty x) (.ty x):=by unfold RepV;rfl
def RepV.tup{ds:List D}{a:Addr}{vs:List V}(e:H a=some (.tup vs))(h:RepVs K ρ H ds vs):RepV K ρ H (.tup ds) (.ref a):=by unfold RepV;exact⟨a,vs,rfl,e,h⟩
def RepV.fz{ds:List D}{a:Addr}{vs:List V}(e:FzL K H a vs)(h:RepVs K ρ H ds vs):RepV K ρ H (.fz ds) (.ref a):=by unfold RepV;exact⟨a,vs,rfl,e,h⟩
def RepV.loc{n:Nat}{a:Addr}(e:ρ[n]?=some a):RepV K ρ H (.loc n) (.ref a):=by unfold RepV;exact⟨a,rfl,e⟩
def FzL.sq{a:Addr}{vs:List V}(h:FzL K H a vs):SqL K H a vs:=by
 rcases h with h | h
 ·exact .inl (.inr h)
 ·exact .inr h
def RepO.some{a:Addr}{o:LObj}(h:RepO K ρ H a o):∃u,H a=some u:=by
 cases o with
 |lst ds=>obtain⟨vs,e,_⟩:=h;exact⟨_,e⟩
 |dct kvs=>obtain⟨vs,e,_⟩:=h;exact⟨_,e⟩
 |dcf kvs=>obtain⟨o,vs,e,_⟩:=h;exact⟨_,e⟩
 |exc c fs=>obtain⟨C,dx,_,e,_⟩:=h;exact⟨_,e⟩
 |ins c fs=>obtain⟨C,dx,vs,_,e,_⟩:=h;exact⟨_,e⟩
def RepH.mem_some(R:RepH K ρ H μ){a:Addr}(h:a∈ρ):∃u,H a=some u:=by
 obtain⟨n,h1,e⟩:=List.mem_iff_getElem.mp h;have h2:n<μ.length:=by rw[<-R.len];exact h1
 exact(R.at_ n a μ[n] (by rw[yM h1,e]) (by simp[h2])).some
def RepX.ext{fs:List (Str×D)}{dx:Option Addr}(e:Ext ρ H ρ' H')(h:RepX K ρ H fs dx):RepX K ρ' H' fs dx:=by
 rcases h with h | ⟨p,vs,e1,e2,e3,r⟩
 ·exact .inl h
 ·exact .inr ⟨p,vs,e1,e.xd _ _ e2,e3,r.ext e⟩
def RepO.ext{a:Addr}{o:LObj}(e:Ext ρ H ρ' H')(h:RepO K ρ H a o)(s:H' a=H a):RepO K ρ' H' a o:=by
 cases o with
 |lst ds=>obtain⟨vs,q,r⟩:=h;exact⟨vs,s.trans q,r.ext e⟩
 |dct kvs=>obtain⟨vs,q,q2,r⟩:=h;exact⟨vs,s.trans q,q2,r.ext e⟩
 |dcf kvs=>obtain⟨o,vs,q,q2,r⟩:=h;exact⟨o,vs,s.trans q,q2,r.ext e⟩
 |exc c fs=>obtain⟨C,dx,n,q,r⟩:=h;exact⟨C,dx,n,s.trans q,r.ext e⟩
 |ins c fs=>obtain⟨C,dx,vs,n,q,q2,r⟩:=h;exact⟨C,dx,vs,n,s.trans q,q2,r.ext e⟩
def Ext.new{p:Addr}{o:HO}(hp:H p=none):Ext ρ H ρ (upd H p o) :=
 ⟨⟨[],by simp⟩,fun a vs e=>by rw[zK (zI e hp)];exact e,fun a o u e=>by rw[zK (zI e hp)];exact e,fun a fs e=>by rw[zK (zI e hp)];exact e⟩
def RepH.other(R:RepH K ρ H μ)(e:Ext ρ H ρ H')(s:∀a∈ρ,H' a=H a):RepH K ρ H' μ :=
 ⟨R.nd,R.len,fun n a o h1 h2=>(R.at_ n a o h1 h2).ext e (s a (mem_of_getElem? h1))⟩
def RepH.newTup(R:RepH K ρ H μ){p:Addr}{o:HO}(hp:H p=none):RepH K ρ (upd H p o) μ :=
 R.other (Ext.new hp) fun a ha=>by
  obtain⟨u,e⟩:=R.mem_some ha;exact zK (zI e hp)
def Ext.push{p:Addr}{o:HO}(hp:H p=none):Ext ρ H (ρ++[p]) (upd H p o) :=
 ⟨⟨[p],rfl⟩,(Ext.new (ρ:=ρ) hp).tup,(Ext.new (ρ:=ρ) hp).frz,(Ext.new (ρ:=ρ) hp).xd⟩
def RepH.push(R:RepH K ρ H μ){p:Addr}{o:HO}{lo:LObj}(hp:H p=none)(h:RepO K (ρ++[p]) (upd H p o) p lo):RepH K (ρ++[p]) (upd H p o) (μ++[lo]):=by
 refine⟨?_,by simp[R.len],fun n a u h1 h2=>?_⟩
 ·rw[nodup_append];refine⟨R.nd,by simp,fun a ha b hb=>?_⟩;simp at hb;subst hb;obtain⟨u,e⟩:=R.mem_some ha;exact zI e hp
 ·by_cases hn:n<ρ.length
  ·rw[yt hn]at h1;rw[yt (by rw[<-R.len];exact hn)]at h2;have q:=R.at_ n a u h1 h2;obtain⟨z,e⟩:=q.some;exact q.ext (Ext.push hp) (zK (zI e hp))
  ·have hl:n<(ρ++[p]).length:=(List.getElem?_eq_some_iff.mp h1).1;have e:n=ρ.length:=by simp at hl;omega
   subst e;rw[yL (yh _)]at h1;rw[R.len,yL (yh _)]at h2;simp at h1 h2;subst h1 h2;exact h
def zDb{p:Addr}(R:RepH K ρ H μ):(ρ++[p])[μ.length]?=some p:=by
 rw[<-R.len];simp
def Ext.wr{p:Addr}{o:HO}(hm:Mut (H p)):Ext ρ H ρ (upd H p o) :=
 ⟨⟨[],by simp⟩,fun a vs e=>by rw[zK (by rintro rfl;rw[e]at hm;exact hm)];exact e,fun a o u e=>by rw[zK (by rintro rfl;rw[e]at hm;exact hm)];exact e,fun a fs e=>by rw[zK (by rintro rfl;rw[e]at hm;exact hm)];exact e⟩
def RepH.wr(R:RepH K ρ H μ){n:Nat}{p:Addr}{o:HO}{lo:LObj}(hm:Mut (H p))(hn:ρ[n]?=some p)(h:RepO K ρ (upd H p o) p lo):RepH K ρ (upd H p o) (μ.set n lo):=by
 have hlt:=(List.getElem?_eq_some_iff.mp hn).1;refine⟨R.nd,by simp[R.len],fun m a u h1 h2=>?_⟩
 by_cases hmn:m=n
 ·subst hmn;rw[hn]at h1;cases h1;rw[yU (by rw[<-R.len];exact hlt)]at h2;cases h2;exact h
 ·rw[yR (yF hmn)]at h2
  have hap:a≠p:=by
   rintro rfl;obtain⟨x1,y1⟩:=List.getElem?_eq_some_iff.mp h1;obtain⟨x2,y2⟩:=List.getElem?_eq_some_iff.mp hn;exact hmn ((List.getElem_inj R.nd).mp (y1.trans y2.symm))
  exact(R.at_ m a u h1 h2).ext (Ext.wr hm) (zK hap)
end
abbrev FE:=Loc->Mem->Option (D×Mem)
abbrev FT:=Loc->Mem->Option (Bool×Mem)
abbrev FA:=Loc->Mem->Option (List D×Mem)
inductive Out where
 |next (δ:Loc) (μ:Mem) | ret (d:D) (μ:Mem) | brk (δ:Loc) (μ:Mem) | cont (δ:Loc) (μ:Mem)
  |exc (c:Str) (fs:List (Str×D)) (μ:Mem)
abbrev FS:=Loc->Mem->Option Out
section
variable (K:yr)
structure At(ρ:List Addr)(H:Hp)(σ:L2.St)(δ:Loc)(μ:Mem):Prop where
 st:RepSt K ρ H σ δ
 hp:RepH K ρ H μ
 len:σ.length=δ.length
def tM(φ:FE):TE:=fun σ H Q=>∃ρ δ μ d μ',At K ρ H σ δ μ/\φ δ μ=some (d,μ')/\∀ρ' H' v,Ext ρ H ρ' H'->RepH K ρ' H' μ'->RepV K ρ' H' d v->Q v H'
def tMT(φ:FT):TT:=fun σ H Q=>∃ρ δ μ b μ',At K ρ H σ δ μ/\φ δ μ=some (b,μ')/\∀ρ' H',Ext ρ H ρ' H'->RepH K ρ' H' μ'->Q b H'
def tMA(φ:FA):TA:=fun σ H Q=>∃ρ δ μ ds μ',At K ρ H σ δ μ/\φ δ μ=some (ds,μ')/\∀ρ' H' vs,Ext ρ H ρ' H'->RepH K ρ' H' μ'->RepVs K ρ' H' ds vs->Q vs H'
def OutOk(W:XK)(ρ:List Addr)(H:Hp)(E:Ends):Out->Prop
 |.next δ' μ'=>∀ρ' σ' H',Ext ρ H ρ' H'->At K ρ' H' σ' δ' μ'->E.nx σ' H'
 |.brk δ' μ'=>∀ρ' σ' H',Ext ρ H ρ' H'->At K ρ' H' σ' δ' μ'->E.bk σ' H'
 |.cont δ' μ'=>∀ρ' σ' H',Ext ρ H ρ' H'->At K ρ' H' σ' δ' μ'->E.ct σ' H'
 |.ret d μ'=>∀ρ' v H',Ext ρ H ρ' H'->RepH K ρ' H' μ'->RepV K ρ' H' d v->E.rt v H'
 |.exc c fs μ'=>∀ρ' H' C dx,PySem.W.nsIn K yj c=some (some (.ref C))->Ext ρ H ρ' H'->RepH K ρ' H' μ'->RepX K ρ' H' fs dx->W (.ref C) dx H'
def tMS(W:XK)(ψ:FS):TS:=fun E σ H=>∃ρ δ μ o,At K ρ H σ δ μ/\ψ δ μ=some o/\OutOk K W ρ H E o
end
def ME(X:Cx)(e:Expr)(φ:FE):Prop:=PE X e (tM X.K φ)
def MT(X:Cx)(e:Expr)(φ:FT):Prop:=PT X e (tMT X.K φ)
def MW(X:Cx)(e:Expr)(φ:FT):Prop:=PW X e (tMT X.K φ)
def MA(X:Cx)(es:List Expr)(φ:FA):Prop:=PA X es (tMA X.K φ)
def MS(X:Cx)(st:Stmt)(ψ:FS):Prop:=PS X st (tMS X.K (zYl X) ψ)
def MSs(X:Cx)(st:List Stmt)(ψ:FS):Prop:=PSs X st (tMS X.K (zYl X) ψ)
abbrev FF:=List D->Mem->Option (D×Mem)
def spM(K:yr)(n:Nat)(F:FF):Sp:=fun vs H Q _=>vs.length=n/\∃ρ ds μ d μ',RepVs K ρ H ds vs/\RepH K ρ H μ/\F ds μ=some (d,μ')/\∀ρ' H' v,Ext ρ H ρ' H'->RepH K ρ' H' μ'->RepV K ρ' H' d v->Q v H'
def At.ext{K:yr}{ρ ρ':List Addr}{H H':Hp}{σ:L2.St}{δ:Loc}{μ μ':Mem}(a:At K ρ H σ δ μ)(e:Ext ρ H ρ' H')(R:RepH K ρ' H' μ'):At K ρ' H' σ δ μ':=⟨a.st.ext e,R,a.len⟩
def zhd{X:Cx}{e:Expr}{t:TE}{φ:FE}(h:PE X e t)(w:∀ρ δ μ σ H d μ' Q,At X.K ρ H σ δ μ->φ δ μ=some (d,μ')->(∀ρ' H' v,Ext ρ H ρ' H'->RepH X.K ρ' H' μ'->RepV X.K ρ' H' d v->Q v H')->t σ H Q):ME X e φ :=
 by intro pins s σ H Q I hh;obtain⟨ρ,δ,μ,d,μ',a,e,k⟩:=hh;exact h pins s σ H Q I (w ρ δ μ σ H d μ' Q a e k)
def zVv{X:Cx}{e:Expr}{t:TT}{φ:FT}(h:PT X e t)(w:∀ρ δ μ σ H b μ' Q,At X.K ρ H σ δ μ->φ δ μ=some (b,μ')->(∀ρ' H',Ext ρ H ρ' H'->RepH X.K ρ' H' μ'->Q b H')->t σ H Q):MT X e φ :=
 by intro pins s σ H Q I hh;obtain⟨ρ,δ,μ,d,μ',a,e,k⟩:=hh;exact h pins s σ H Q I (w ρ δ μ σ H d μ' Q a e k)
def zCy{X:Cx}{e:Expr}{t:TT}{φ:FT}(h:PW X e t)(w:∀ρ δ μ σ H b μ' Q,At X.K ρ H σ δ μ->φ δ μ=some (b,μ')->(∀ρ' H',Ext ρ H ρ' H'->RepH X.K ρ' H' μ'->Q b H')->t σ H Q):MW X e φ :=
 fun wh pins s σ H Q I ⟨ρ,δ,μ,d,μ',a,e,k⟩=>h wh pins s σ H Q I (w ρ δ μ σ H d μ' Q a e k)
def zcy{X:Cx}{e:List Expr}{t:TA}{φ:FA}(h:PA X e t)(w:∀ρ δ μ σ H ds μ' Q,At X.K ρ H σ δ μ->φ δ μ=some (ds,μ')->(∀ρ' H' vs,Ext ρ H ρ' H'->RepH X.K ρ' H' μ'->RepVs X.K ρ' H' ds vs->Q vs H')->t σ H Q):MA X e φ :=
 fun pos pins s σ H Q I ⟨ρ,δ,μ,d,μ',a,e,k⟩=>h pos pins s σ H Q I (w ρ δ μ σ H d μ' Q a e k)
def zTj{X:Cx}{e:Stmt}{t:TS}{ψ:FS}(h:PS X e t)(w:∀ρ δ μ σ H o E,At X.K ρ H σ δ μ->ψ δ μ=some o->OutOk X.K (zYl X) ρ H E o->t E σ H):MS X e ψ :=
 by intro pins s σ H E I hh;obtain⟨ρ,δ,μ,o,a,e,k⟩:=hh;exact h pins s σ H E I (w ρ δ μ σ H o E a e k)
def znv{X:Cx}{e:List Stmt}{t:TS}{ψ:FS}(h:PSs X e t)(w:∀ρ δ μ σ H o E,At X.K ρ H σ δ μ->ψ δ μ=some o->OutOk X.K (zYl X) ρ H E o->t E σ H):MSs X e ψ :=
 by intro pins s σ H E I hh;obtain⟨ρ,δ,μ,o,a,e,k⟩:=hh;exact h pins s σ H E I (w ρ δ μ σ H o E a e k)
end M
namespace M
open PySem PySem.Spec PyProof.Rows L2
def zi{α β:Type}{o:Option α}{f:α->Option β}{b:β}(h:o.bind f=some b):∃a,o=some a/\f a=some b:=by
 cases o with
 |none=>cases h
 |some a=>exact⟨a,rfl,h⟩
section
variable {X:Cx}{a b c e:Expr}{es:List Expr}{φ ψ χ:FE}{pos:xi}
@[simp] def zm(i:Nat):FE:=fun δ μ=>match δ[i]? with
 |some (some d)=>some (d,μ)
 |_=>none
@[simp] def fC(d:D):FE:=fun _ μ=>some (d,μ)
def zkx{i:Nat}{x:Str}(h:PE X (.Name x pos) (zsz i)):ME X (.Name x pos) (zm i) :=
 zhd h fun ρ δ μ σ H d μ' Q A e k=>by
  unfold zm at e
  split at e
  ·rename_i d' hd
   cases e;obtain⟨v,hv,r⟩:=A.st i _ hd;exact⟨v,hv,k ρ H v Ext.refl A.hp r⟩
  ·cases e
def z7w{v:V}{d:D}(h:PE X e (tC v))(r:∀ρ H,RepV X.K ρ H d v):ME X e (fC d) :=
 zhd h fun ρ δ μ σ H d' μ' Q A e k=>by
  cases e;exact k ρ H v Ext.refl A.hp (r ρ H)
def zr{i j}:ME X (.Constant (.int i) j pos) (fC (.int i)):=z7w zny fun _ _ => .int
def zSu{i j}:ME X (.Constant (.bool i) j pos) (fC (.bl i)):=z7w zfz fun _ _ => .bl
def zzg{j}:ME X (.Constant .none j pos) (fC .non):=z7w zwx fun _ _ => .non
def zLb{x j}:ME X (.Constant (.str x) j pos) (fC (.str x)):=z7w zRx fun _ _ => .str
def mv(i:Nat){x:Str}(hN:X.N[i]?=some x:=by rfl)(hv:Vis X.env.scope x:=by first | exact Or.inl rfl | exact Or.inr (Or.inl rfl) | exact Or.inr (Or.inr rfl))(hd:(x==("__debug__":Str))=false:=by decide)
 (hcd:(x==("__classdict__":Str))=false:=by decide):ME X (.Name x pos) (zm i):=zkx (z9u hN hv hd hcd)
def zBr{x:Str}{i:Int}(hm:∃t,X.mg x=some (.int i t))(hg:Gl X x:=by rfl)(hd:(x==("__debug__":Str))=false:=by decide):ME X (.Name x pos) (fC (.int i)) :=
 let ⟨t,ht⟩:=hm
 z7w (zSv (v:=V.int i) hg ht ⟨t,rfl⟩ hd) fun _ _ => .int
def zAr{x:Str}{T:String}(hm:X.mg x=none)(hb:yK x=some (.type T))(hg:Gl X x:=by rfl)(hn:x≠"__name__":=by decide)(hd:(x==("__debug__":Str))=false:=by decide):ME X (.Name x pos) (fC (.ty T)) :=
 z7w (z2v (v:=V.ty T) hg hm hb (show L2.RelV (V.ty T) (YC T) from rfl) hn hd) fun _ _ => .ty
abbrev G2:=D->D->Mem->Option (D×Mem)
def rM(K:yr)(g:G2):R2:=fun x y H Q=>∃ρ dx dy μ d μ',RepV K ρ H dx x/\RepV K ρ H dy y/\RepH K ρ H μ/\g dx dy μ=some (d,μ')/\∀ρ' H' v,Ext ρ H ρ' H'->RepH K ρ' H' μ'->RepV K ρ' H' d v->Q v H'
def OpM(X:Cx)(f:Value->Value->Sem Value)(g:G2):Prop:=OpR X f (rM X.K g)
def OpM.of{X:Cx}{f:Value->Value->Sem Value}{g:G2}(h:∀(pins:List (Addr×YL)) (s:yc) (σ:L2.St) (H:Hp) (x y:V) (v u:Value) (Q:VK),Inv X pins σ H s->RelV x v->RelV y u->∀(ρ:List Addr)(dx dy:D)(μ:Mem)(d:D)(μ':Mem),RepV X.K ρ H dx x->RepV X.K ρ H dy y->RepH X.K ρ H μ->g dx dy μ=some (d,μ')->(∀ρ' H' v,Ext ρ H ρ' H'->RepH X.K ρ' H' μ'->RepV X.K ρ' H' d v->Q v H')->yk (yp X.prog X.w) X.A (f v u) (EP X pins σ Q) X.xe s):OpM X f g:=by
 intro pins s σ H x y v u Q I rx ry hh;obtain⟨ρ,dx,dy,μ,d,μ',r1,r2,R,e,k⟩:=hh;exact h pins s σ H x y v u Q I rx ry ρ dx dy μ d μ' r1 r2 R e k
@[simp] def zH(g:G2)(φ ψ:FE):FE:=fun δ μ=>(φ δ μ).bind fun p=>(ψ δ p.2).bind fun q=>g p.1 q.1 q.2
def zer{g:G2}{ρ:List Addr}{δ:Loc}{μ:Mem}{σ:L2.St}{H:Hp}{d:D}{μ':Mem}{Q:VK}(A:At X.K ρ H σ δ μ)(e:zH g φ ψ δ μ=some (d,μ'))
 (k:∀ρ' H' v,Ext ρ H ρ' H'->RepH X.K ρ' H' μ'->RepV X.K ρ' H' d v->Q v H'):tOp (rM X.K g) (tM X.K φ) (tM X.K ψ) σ H Q:=by
 obtain⟨⟨x,μ1⟩,e1,e⟩:=zi e;obtain⟨⟨y,μ2⟩,e2,e⟩:=zi e;refine⟨ρ,δ,μ,x,μ1,A,e1,fun ρ1 H1 v x1 R1 r1=>?_⟩;refine⟨ρ1,δ,μ1,y,μ2,A.ext x1 R1,e2,fun ρ2 H2 u x2 R2 r2=>?_⟩;exact⟨ρ2,x,y,μ2,d,μ',r1.ext x2,r2,R2,e,fun ρ3 H3 w x3 R3 r3=>k ρ3 H3 w (x1.trans (x2.trans x3)) R3 r3⟩
def zCb{op:Operator}{g:G2}(ho:OpM X (xH op) g)(ha:ME X a φ)(hb:ME X b ψ):ME X (.BinOp a op b pos) (zH g φ ψ) :=
 zhd (zjz ho ha hb) fun _ _ _ _ _ _ _ _ A e k=>zer A e k
def zHe{op:CmpOp}{g:G2}(ho:OpM X (Yy op) g)(ha:ME X a φ)(hb:ME X b ψ)(hm:behindInMarks op b=false:=by first | exact nobehind _ (by decide) (by decide) | rfl | with_unfolding_all rfl):ME X (.Compare a [op] [b] pos) (zH g φ ψ) :=
 zhd (zrv ho ha hb hm) fun _ _ _ _ _ _ _ _ A e k=>zer A e k
@[simp] def z5(φ:FE):FT:=fun δ μ=>(φ δ μ).bind fun p=>match p.1 with
 |.bl b=>some (b,p.2)
 |_=>none
def zsp{δ:Loc}{μ μ':Mem}{b:Bool}(h:z5 φ δ μ=some (b,μ')):φ δ μ=some (.bl b,μ'):=by
 obtain⟨⟨x,μ1⟩,e1,e⟩:=zi h;dsimp only at e
 split at e
 ·cases e;exact e1
 ·cases e
def zab{op:CmpOp}{g:G2}(ho:OpM X (Yy op) g)(ha:ME X a φ)(hb:ME X b ψ)(hm:behindInMarks op b=false:=by first | exact nobehind _ (by decide) (by decide) | rfl | with_unfolding_all rfl):MT X (.Compare a [op] [b] pos) (z5 (zH g φ ψ)) :=
 zVv (zHw ho ha hb hm) fun ρ δ μ σ H b μ' Q A e k=>zer (Q:=fun x H'=>∃k,x = .bl k/\Q k H') A (zsp e) fun ρ' H' v x R r=>⟨b,r.bl_inv,k ρ' H' x R⟩
@[simp] def zGh:G2:=fun x y μ=>match x,y with
 |.int i, .int j=>some (.int (i+j),μ)
 |.tup as, .tup bs=>bif decide (as.length+bs.length<=1000000) then some (.tup (as++bs),μ) else none
 |.loc l, .loc m=>match μ[l]?,μ[m]? with
  |some (.lst as),some (.lst bs)=>bif decide (as.length+bs.length<=1000000) then some (.loc μ.length,μ++[.lst (as++bs)]) else none
  |_,_=>none
 |_,_=>none
@[simp] def zlq:G2:=fun x y μ=>match x,y with
 |.int i, .int j=>some (.int (i-j),μ)
 |_,_=>none
def zRg(i j:Int):Bool:=decide (-(2^64)<i/\i<2^64)||decide (-(2^64)<j/\j<2^64)||(decide (i.natAbs<2^1000)&&decide (j.natAbs<2^1000))
def zRu{i j:Int}(h:zRg i j=true):IntMulOk i j:=by
 unfold zRg at h;rw[Bool.or_eq_true,Bool.or_eq_true,yG]at h;rcases h with (h | h) | ⟨h1,h2⟩
 ·have h:=of_decide_eq_true h;exact .of_left (intBits_le_64 h.1 h.2)
 ·have h:=of_decide_eq_true h;exact .of_right (intBits_le_64 h.1 h.2)
 ·exact .of_le (m:=1000) (n:=1000) (intBits_le (of_decide_eq_true h1)) (intBits_le (of_decide_eq_true h2)) (by decide)
def zYi:G2:=fun x y μ=>match x,y with
 |.int i, .int j=>bif zRg i j then some (.int (i*j),μ) else none
 |.tup ds, .int n=>bif decide (2<=n/\n<=1000/\0<ds.length/\ds.length<=1000) then some (.tup (yz n.toNat ds).flatten,μ) else none
 |.loc l, .int n=>match μ[l]? with
  |some (.lst ds)=>bif decide (n<=1000/\-(2^62)<=n/\ds.length<=1000) then some (.loc μ.length,μ++[.lst (yz n.toNat ds).flatten]) else none
  |_=>none
 |_,_=>none
@[simp] def znn:G2:=fun x y μ=>match x,y with
 |.int i, .int j=>bif decide (0<j) then some (.int (i%j),μ) else none
 |_,_=>none
@[simp] def zHv:G2:=fun x y μ=>match x,y with
 |.int i, .int j=>bif decide (0<j/\j<1606938044258990275541962092341162602522202993782792835301376) then some (.int (i / j),μ) else none
 |_,_=>none
def zUz:G2:=fun x y μ=>match x,y with
 |.int i, .int j=>bif decide (0<=j/\j<=100000/\i.natAbs<1606938044258990275541962092341162602522202993782792835301376) then some (.int (i^j.toNat),μ) else none
 |_,_=>none
def zX{α:Type}{c:Bool}{o:Option α}{x:α}(h:(bif c then o else none)=some x):c=true/\o=some x:=by
 cases c with
 |true=>exact⟨rfl,h⟩
 |false=>cases h
def zwo{f:Value->Value->Sem Value}{g:G2}{C:Int->Int->Prop}{h:Int->Int->Int}(o:OpR X f (rI C fun i j => .int (h i j)))
 (w:∀x y μ d μ',g x y μ=some (d,μ')->∃i j,x = .int i/\y = .int j/\C i j/\d = .int (h i j)/\μ'=μ):OpM X f g:=by
 refine OpM.of fun pins s σ H x y v u Q I rx ry ρ dx dy μ d μ' r1 r2 R e k=>?_;obtain⟨i,j,rfl,rfl,hc,rfl,rfl⟩:=w _ _ _ _ _ e;refine o pins s σ H x y v u Q I rx ry ⟨i,j,r1.int_inv,r2.int_inv,hc,?_⟩;exact k ρ H _ Ext.refl R .int
def zGj:OpM X (xH .Sub) zlq:=zwo (C:=fun _ _=>True) (h:=fun i j=>i-j) (opI fun _ _ _ _ _ _ _ _ q=>sub_int q) fun x y μ d μ' e=>by
 unfold zlq at e
 split at e
 ·cases e;exact⟨_,_,rfl,rfl,trivial,rfl,rfl⟩
 ·cases e
def zye:OpM X (xH .Mod) znn:=zwo (h:=fun i j=>i%j) zpx fun x y μ d μ' e=>by
 unfold znn at e
 split at e
 ·obtain⟨h1,e⟩:=zX e;cases e;have h2:=of_decide_eq_true h1;exact⟨_,_,rfl,rfl,h2,rfl,rfl⟩
 ·cases e
def zRy(i j:Int):Prop:=0<j/\j<1606938044258990275541962092341162602522202993782792835301376
def zWt:OpR X (xH .FloorDiv) (rI zRy fun i j => .int (i / j)):=opI fun i j _ _ _ _ _ hc q=>by
 have h1:(0:Int)<j:=hc.1;have h2:j<1606938044258990275541962092341162602522202993782792835301376:=hc.2;refine floordiv_int (by omega) (by rw[Int.fdiv_eq_ediv_of_nonneg i (by omega)];exact q) (.inl (PyProof.noPylong_of_log2 ?_));have:j.natAbs.log2<200:=(Nat.log2_lt (by omega)).mpr (by rw[show 2^200=1606938044258990275541962092341162602522202993782792835301376 from rfl];omega);omega
def zDo:OpM X (xH .FloorDiv) zHv:=zwo (C:=zRy) (h:=fun i j=>i / j) zWt fun x y μ d μ' e=>by
 unfold zHv at e
 split at e
 ·obtain⟨h1,e⟩:=zX e;cases e;have h2:=of_decide_eq_true h1;exact⟨_,_,rfl,rfl,h2,rfl,rfl⟩
 ·cases e
@[simp] def zxo(p:Int->Int->Bool):G2:=fun x y μ=>match x,y with
 |.int i, .int j=>some (.bl (p i j),μ)
 |_,_=>none
def zOo{f:Value->Value->Sem Value}{p:Int->Int->Bool}(o:OpR X f (rI0 fun i j => .bl (p i j))):OpM X f (zxo p):=by
 refine OpM.of fun pins s σ H x y v u Q I rx ry ρ dx dy μ d μ' r1 r2 R e k=>?_;unfold zxo at e
 split at e
 ·cases e;exact o pins s σ H x y v u Q I rx ry ⟨_,_,r1.int_inv,r2.int_inv,k ρ H _ Ext.refl R .bl⟩
 ·cases e
def zBn:OpM X (Yy .Lt) (zxo fun i j=>decide (i<j)):=zOo z7y
def zmr:OpM X (Yy .Gt) (zxo fun i j=>decide (j<i)):=zOo zPz
def zDy:OpM X (Yy .GtE) (zxo fun i j=>decide (j<=i)):=zOo zdz
@[simp] def zWy(φ ψ:FE):FE:=fun δ μ=>(φ δ μ).bind fun p=>match p.1 with
 |.bl true=>ψ δ p.2
 |.bl false=>some (.bl false,p.2)
 |_=>none
@[simp] def fOr(φ ψ:FE):FE:=fun δ μ=>(φ δ μ).bind fun p=>match p.1 with
 |.bl false=>ψ δ p.2
 |.bl true=>some (.bl true,p.2)
 |_=>none
@[simp] def z1y(φ:FE):FE:=fun δ μ=>(φ δ μ).bind fun p=>match p.1 with
 |.bl b=>some (.bl (!b),p.2)
 |_=>none
def zPp{op}(h:ME X a φ):ME X (.BoolOp op [a] pos) φ:=zDx h
def z5x{rest:List Expr}(ha:ME X a φ)(hb:ME X (.BoolOp .And (b::rest) pos) ψ):ME X (.BoolOp .And (a::b::rest) pos) (zWy φ ψ) :=
 zhd (zNy ha hb) fun ρ δ μ σ H d μ' Q A e k=>by
  obtain⟨⟨x,μ1⟩,e1,e⟩:=zi e;refine⟨ρ,δ,μ,x,μ1,A,e1,fun ρ1 H1 v x1 R1 r1=>?_⟩;dsimp only at e
  split at e
  ·exact⟨true,r1.bl_inv,iteT ⟨ρ1,δ,μ1,d,μ',A.ext x1 R1,e,fun ρ2 H2 w x2 R2 r2=>k ρ2 H2 w (x1.trans x2) R2 r2⟩⟩
  ·cases e;exact⟨false,r1.bl_inv,iteF (k ρ1 H1 _ x1 R1 .bl)⟩
  ·cases e
def zqw{rest:List Expr}(ha:ME X a φ)(hb:ME X (.BoolOp .Or (b::rest) pos) ψ):ME X (.BoolOp .Or (a::b::rest) pos) (fOr φ ψ) :=
 zhd (z2y ha hb) fun ρ δ μ σ H d μ' Q A e k=>by
  obtain⟨⟨x,μ1⟩,e1,e⟩:=zi e;refine⟨ρ,δ,μ,x,μ1,A,e1,fun ρ1 H1 v x1 R1 r1=>?_⟩;dsimp only at e
  split at e
  ·exact⟨false,r1.bl_inv,iteF ⟨ρ1,δ,μ1,d,μ',A.ext x1 R1,e,fun ρ2 H2 w x2 R2 r2=>k ρ2 H2 w (x1.trans x2) R2 r2⟩⟩
  ·cases e;exact⟨true,r1.bl_inv,iteT (k ρ1 H1 _ x1 R1 .bl)⟩
  ·cases e
def ziy(ha:ME X a φ):ME X (.UnaryOp .Not a pos) (z1y φ) :=
 zhd (z8w ha) fun ρ δ μ σ H d μ' Q A e k=>by
  obtain⟨⟨x,μ1⟩,e1,e⟩:=zi e;refine⟨ρ,δ,μ,x,μ1,A,e1,fun ρ1 H1 v x1 R1 r1=>?_⟩;dsimp only at e
  split at e
  ·rename_i q
   cases e;exact⟨q,r1.bl_inv,k ρ1 H1 _ x1 R1 .bl⟩
  ·cases e
@[simp] def zJu(φ ψ:FT):FT:=fun δ μ=>(φ δ μ).bind fun p=>bif p.1 then ψ δ p.2 else some (false,p.2)
@[simp] def zov(φ ψ:FT):FT:=fun δ μ=>(φ δ μ).bind fun p=>bif p.1 then some (true,p.2) else ψ δ p.2
@[simp] def zAq(φ:FT):FT:=fun δ μ=>(φ δ μ).bind fun p=>some (!p.1,p.2)
def zJh{φ:FE}(h:ME X a φ)(he:∀whole,isTrue a X.env whole=(do let v <-whole;standAt a.pos;xy [v] (truthy v)):=by intro _;rfl):MT X a (z5 φ) :=
 zVv (zWx h he) fun ρ δ μ σ H b μ' Q A e k=>⟨ρ,δ,μ, .bl b,μ',A,zsp e,fun ρ' H' v x R r=>⟨b,r.bl_inv,k ρ' H' x R⟩⟩
def MW.mt{φ:FT}(h:MW X a φ):MT X a φ:=h _
def zTr{φ:FT}(h:MT X a φ):MW X (.BoolOp .And [a] pos) φ:=zmw h
def zHn{φ:FT}(h:MT X a φ):MW X (.BoolOp .Or [a] pos) φ:=zLy h
def zYu{φ ψ:FT}{rest:List Expr}(ha:MT X a φ)(hb:MW X (.BoolOp .And (b::rest) pos) ψ):MW X (.BoolOp .And (a::b::rest) pos) (zJu φ ψ) :=
 zCy (zHy ha hb) fun ρ δ μ σ H b μ' Q A e k=>by
  obtain⟨⟨x,μ1⟩,e1,e⟩:=zi e;refine⟨ρ,δ,μ,x,μ1,A,e1,fun ρ1 H1 x1 R1=>?_⟩
  cases x with
  |true=>exact iteT ⟨ρ1,δ,μ1,b,μ',A.ext x1 R1,e,fun ρ2 H2 x2 R2=>k ρ2 H2 (x1.trans x2) R2⟩
  |false=>
   cases e;exact iteF (k ρ1 H1 x1 R1)
def zgs{φ ψ:FT}{rest:List Expr}(ha:MT X a φ)(hb:MW X (.BoolOp .Or (b::rest) pos) ψ):MW X (.BoolOp .Or (a::b::rest) pos) (zov φ ψ) :=
 zCy (zLz ha hb) fun ρ δ μ σ H b μ' Q A e k=>by
  obtain⟨⟨x,μ1⟩,e1,e⟩:=zi e;refine⟨ρ,δ,μ,x,μ1,A,e1,fun ρ1 H1 x1 R1=>?_⟩
  cases x with
  |false=>exact iteF ⟨ρ1,δ,μ1,b,μ',A.ext x1 R1,e,fun ρ2 H2 x2 R2=>k ρ2 H2 (x1.trans x2) R2⟩
  |true=>
   cases e;exact iteT (k ρ1 H1 x1 R1)
def zdt{φ:FT}(ha:MT X a φ):MT X (.UnaryOp .Not a pos) (zAq φ) :=
 zVv (zqx ha) fun ρ δ μ σ H b μ' Q A e k=>by
  obtain⟨⟨x,μ1⟩,e1,e⟩:=zi e;cases e;exact⟨ρ,δ,μ,x,μ1,A,e1,fun ρ1 H1 x1 R1=>k ρ1 H1 x1 R1⟩
structure MAn(X:Cx)(es:List Expr)(φ:FA):Prop where
 ma:MA X es φ
 len:∀δ μ ds μ',φ δ μ=some (ds,μ')->ds.length=es.length
@[simp] def zJ:FA:=fun _ μ=>some ([],μ)
@[simp] def zf(φ:FE)(ψ:FA):FA:=fun δ μ=>(φ δ μ).bind fun p=>(ψ δ p.2).bind fun q=>some (p.1::q.1,q.2)
def zh:MAn X [] zJ:=⟨zcy zUg fun ρ δ μ σ H ds μ' Q A e k=>by
 cases e;exact k ρ H [] Ext.refl A.hp .nil,fun _ _ _ _ e=>by cases e;rfl⟩
def zvx:Expr->Bool
 |.Starred ..=>false
 |_=>true
def z8c{e:Expr}{es:List Expr}{env:Env}(h:zvx e=true):yg (e::es) env=(false,yY e env)::yg es env:=by
 cases e<;>first | rfl | cases h
def zb{φ:FE}{ψ:FA}(ha:ME X e φ)(hr:MAn X es ψ)(hs:yg (e::es) X.env=(false,yY e X.env)::yg es X.env:=by exact z8c rfl):MAn X (e::es) (zf φ ψ) :=
 ⟨zcy (zoe ha hr.ma hs) fun ρ δ μ σ H ds μ' Q A e k=>by
  obtain⟨⟨x,μ1⟩,e1,e⟩:=zi e;obtain⟨⟨y,μ2⟩,e2,e⟩:=zi e;cases e;refine⟨ρ,δ,μ,x,μ1,A,e1,fun ρ1 H1 v x1 R1 r1=>?_⟩;refine⟨ρ1,δ,μ1,y,μ2,A.ext x1 R1,e2,fun ρ2 H2 u x2 R2 r2=>?_⟩;exact k ρ2 H2 _ (x1.trans x2) R2 (.cons (r1.ext x2) r2),fun δ μ ds μ' e=>by
  obtain⟨⟨x,μ1⟩,e1,e⟩:=zi e;obtain⟨⟨y,μ2⟩,e2,e⟩:=zi e;cases e;have:=hr.len _ _ _ _ e2;simp[this]⟩
@[simp] def zNk(φ:FA):FE:=fun δ μ=>(φ δ μ).bind fun p=>some (.tup p.1,p.2)
@[simp] def zBk(φ:FA):FE:=fun δ μ=>(φ δ μ).bind fun p=>some (.loc p.2.length,p.2++[.lst p.1])
def z2c{x1}{φ:FA}(h:MAn X es φ)(hn:es.length<=1000:=by decide):ME X (.Tuple es x1 pos) (zNk φ) :=
 zhd (zUx h.ma) fun ρ δ μ σ H d μ' Q A e k=>by
  obtain⟨⟨x,μ1⟩,e1,e⟩:=zi e;cases e;refine⟨ρ,δ,μ,x,μ1,A,e1,fun ρ1 H1 vs x1 R1 r1=>⟨?_,fun p hp=>?_⟩⟩
  ·rw[<-r1.length,h.len _ _ _ _ e1];exact YH (small1000 hn)
  ·exact k ρ1 _ _ (x1.trans (Ext.new hp)) (R1.newTup hp) (.tup zF (r1.ext (Ext.new hp)))
def zie{φ:FA}(h:MAn X es φ)(hn:es.length<=1000:=by decide):ME X (.List es pos) (zBk φ) :=
 zhd (zdx h.ma) fun ρ δ μ σ H d μ' Q A e k=>by
  obtain⟨⟨x,μ1⟩,e1,e⟩:=zi e;cases e;refine⟨ρ,δ,μ,x,μ1,A,e1,fun ρ1 H1 vs x1 R1 r1=>⟨?_,fun p hp=>?_⟩⟩
  ·rw[<-r1.length,h.len _ _ _ _ e1];exact YH (small1000 hn)
  ·exact k _ _ _ (x1.trans (Ext.push hp)) (R1.push hp ⟨vs,zF,r1.ext (Ext.push hp)⟩) (.loc (zDb R1))
@[simp] def zB(F:FF)(φ:FA):FE:=fun δ μ=>(φ δ μ).bind fun p=>F p.1 p.2
def ztr{k n:Nat}{f:Addr}{fd:yf}{ps:List Str}{F:FF}{x:Str}{p:xi}{φ:FA}(G:FnOk X.prog X.w X.K X.mg X.base CX0 k f fd ps (spM X.K n F))(hr:Room k X.A)(hm:X.mg x=some (.ref f))(hk:W.keepIn X.K (.ref f)=true)(hb:Binds X.K fd ps [])
 (ha:MAn X (e::es) φ) (hn:(e::es).length=n:=by rfl) (hg:Gl X x:=by rfl) (hdb:(x==("__debug__":Str))=false:=by decide) (he:yg (e::es) X.env=(false,yY e X.env)::yg es X.env:=by exact z8c rfl) (hpl:(Yh pos (yg es X.env)).any (·.1)=false:=by rfl) :
 ME X (.Call (.Name x p) (e::es) [] pos) (zB F φ) :=
 zhd (z3v G hr hg hm hk hb .nil pass0 ha.ma hdb he hpl) fun ρ δ μ σ H d μ' Q A e k=>by
  obtain⟨⟨x,μ1⟩,e1,e⟩:=zi e;refine⟨ρ,δ,μ,x,μ1,A,e1,fun ρ1 H1 vs x1 R1 r1=>?_⟩;show spM X.K n F (vs++[]) H1 Q E0;rw[append_nil];exact⟨by rw[<-r1.length,ha.len _ _ _ _ e1];exact hn,ρ1,x,μ1,d,μ',r1,R1,e,fun ρ2 H2 v x2 R2 r2=>k ρ2 H2 v (x1.trans x2) R2 r2⟩
abbrev GL:=List D->Mem->Option (D×Mem)
def rCM(K:yr)(g:GL):List V->Hp->VK->Prop:=fun vs H Q=>∃ρ ds μ d μ',RepVs K ρ H ds vs/\RepH K ρ H μ/\g ds μ=some (d,μ')/\∀ρ' H' v,Ext ρ H ρ' H'->RepH K ρ' H' μ'->RepV K ρ' H' d v->Q v H'
def CallM(X:Cx)(f:Value)(g:GL):Prop:=zPk X f (rCM X.K g)
def CallM.of{X:Cx}{f:Value}{g:GL}(h:∀(pins:List (Addr×YL)) (s:yc) (σ:L2.St) (H:Hp) (xs:List V) (us:List Value) (Q:VK),Inv X pins σ H s->Vals xs us->∀(ρ:List Addr)(ds:List D)(μ:Mem)(d:D)(μ':Mem),RepVs X.K ρ H ds xs->RepH X.K ρ H μ->g ds μ=some (d,μ')->(∀ρ' H' v,Ext ρ H ρ' H'->RepH X.K ρ' H' μ'->RepV X.K ρ' H' d v->Q v H')->yk (yp X.prog X.w) X.A (call f us) (EP X pins σ Q) X.xe s):CallM X f g:=by
 intro pins s σ H xs us Q I r hh;obtain⟨ρ,ds,μ,d,μ',r1,R,e,k⟩:=hh;exact h pins s σ H xs us Q I r ρ ds μ d μ' r1 R e k
def z6z{g:GL}{φ:FA}{ρ:List Addr}{δ:Loc}{μ:Mem}{σ:L2.St}{H:Hp}{d:D}{μ':Mem}{Q:VK}(A:At X.K ρ H σ δ μ)(e:zB g φ δ μ=some (d,μ'))
 (k:∀ρ' H' v,Ext ρ H ρ' H'->RepH X.K ρ' H' μ'->RepV X.K ρ' H' d v->Q v H'):tCB (rCM X.K g) (tMA X.K φ) σ H Q:=by
 obtain⟨⟨x,μ1⟩,e1,e⟩:=zi e;exact⟨ρ,δ,μ,x,μ1,A,e1,fun ρ1 H1 vs x1 R1 r1=>⟨ρ1,x,μ1,d,μ',r1,R1,e,fun ρ2 H2 v x2 R2 r2=>k ρ2 H2 v (x1.trans x2) R2 r2⟩⟩
def zcb{g:GL}{id:String}{x:Str}{p:xi}{φ:FA}(hc:CallM X (.builtin id) g)(hm:X.mg x=none)(hv:yK x=some (.builtin id))(ha:MAn X (e::es) φ)(hg:Gl X x:=by rfl)(hn:x≠"__name__":=by decide)(hdb:(x==("__debug__":Str))=false:=by decide)
 (he:yg (e::es) X.env=(false,yY e X.env)::yg es X.env:=by exact z8c rfl) (hpl:(Yh pos (yg es X.env)).any (·.1)=false:=by rfl):ME X (.Call (.Name x p) (e::es) [] pos) (zB g φ) :=
 zhd (zQp hc hg hm hv ha.ma hn hdb he hpl) fun _ _ _ _ _ _ _ _ A e k=>z6z A e k
def zee{g:GL}{T:String}{x:Str}{p:xi}{φ:FA}(hc:CallM X (.type T) g)(hm:X.mg x=none)(hv:yK x=some (.type T))(ha:MAn X (e::es) φ)(hg:Gl X x:=by rfl)(hn:x≠"__name__":=by decide)(hdb:(x==("__debug__":Str))=false:=by decide)
 (he:yg (e::es) X.env=(false,yY e X.env)::yg es X.env:=by exact z8c rfl) (hpl:(Yh pos (yg es X.env)).any (·.1)=false:=by rfl):ME X (.Call (.Name x p) (e::es) [] pos) (zB g φ) :=
 zhd (zFf hc hg hm hv ha.ma hn hdb he hpl) fun _ _ _ _ _ _ _ _ A e k=>z6z A e k
end
section
variable {K:yr}{ρ:List Addr}{H:Hp}{μ:Mem}
@[simp] def items(μ:Mem):D->Option (List D)
 |.tup ds=>some ds
 |.fz ds=>some ds
 |.loc n=>match μ[n]? with
  |some (.lst ds)=>some ds
  |_=>none
 |_=>none
def zbh{d:D}{v:V}{ds:List D}(R:RepH K ρ H μ)(r:RepV K ρ H d v)(e:items μ d=some ds):∃p vs,v = .ref p/\(SqL K H p vs\/SqT K H p vs)/\RepVs K ρ H ds vs:=by
 unfold items at e
 split at e
 ·cases e;obtain⟨a,vs,e1,e2,q⟩:=r.tup_inv;exact⟨a,vs,e1, .inr (SqT.of e2),q⟩
 ·cases e;obtain⟨a,vs,e1,e2,q⟩:=r.fz_inv;exact⟨a,vs,e1, .inl e2.sq,q⟩
 ·split at e
  ·rename_i h
   cases e;obtain⟨a,e1,e2⟩:=r.loc_inv;obtain⟨vs,e3,q⟩:=R.at_ _ _ _ e2 h;exact⟨a,vs,e1, .inl (SqL.of e3),q⟩
  ·cases e
 ·cases e
end
section
variable {X:Cx}{a b c e:Expr}{es:List Expr}{φ ψ χ:FE}{pos:xi}
@[simp] def gIx:G2:=fun x y μ=>match y with
 |.int i=>(items μ x).bind fun ds=>(atI ds i).bind fun d=>some (d,μ)
 |_=>none
def zWv{K:yr}{ρ:List Addr}{H:Hp}{ds:List D}{vs:List V}{i:Int}{d:D}(r:RepVs K ρ H ds vs)(e:atI ds i=some d):∃v,atI vs i=some v/\RepV K ρ H d v:=by
 unfold atI at e ⊢;rw[r.length]at e;obtain⟨j,e1,e2⟩:=zi e;obtain⟨v,e3,q⟩:=r.get e2;exact⟨v,by rw[e1];exact e3,q⟩
def ixM:IxR X (rM X.K gIx):=by
 intro value slice pins s σ H x y v u Q I rx ry ⟨ρ,dx,dy,μ,d,μ',r1,r2,R,e,k⟩ hs;unfold gIx at e
 split at e
 ·obtain⟨ds,e1,e⟩:=zi e;obtain⟨d',e2,e⟩:=zi e;cases e;obtain⟨p,vs,rfl,hq,rr⟩:=zbh R r1 e1;obtain⟨w,e3,q⟩:=zWv rr e2;rcases hq with hq | hq
  ·exact z6u value slice pins s σ H _ y v u Q I rx ry (.inl ⟨p,vs,_,w,rfl,r2.int_inv,hq,e3,k ρ H w Ext.refl R q⟩) hs
  ·exact z6u value slice pins s σ H _ y v u Q I rx ry (.inr (.inl ⟨p,vs,_,w,rfl,r2.int_inv,hq,e3,k ρ H w Ext.refl R q⟩)) hs
 ·cases e
def zP(ha:ME X a φ)(hb:ME X b ψ)(hs:zNo b:=by exact fun _ _=>rfl):ME X (.Subscript a b pos) (zH gIx φ ψ) :=
 zhd (zFx ixM ha hb hs) fun _ _ _ _ _ _ _ _ A e k=>zer A e k
@[simp] def zMm:GL:=fun ds μ=>match ds with
 |[d]=>(items μ d).bind fun xs=>some (.int xs.length,μ)
 |_=>none
def zFb:CallM X (.builtin "len") zMm:=by
 refine CallM.of fun pins s σ H xs us Q I r ρ ds μ d μ' r1 R e k=>?_;unfold zMm at e
 split at e
 ·obtain⟨ds,e1,e⟩:=zi e;cases e;obtain⟨v,rr,rfl,q1,q2⟩:=r1.cons_inv;have q2:=q2.nil_inv;subst q2;obtain⟨p,vs,rfl,hq,rr⟩:=zbh R q1 e1;exact z0n pins s σ H _ us Q I r ⟨p,vs,rfl,hq,k ρ H _ Ext.refl R (by rw[rr.length];exact .int)⟩
 ·cases e
@[simp] def zso:GL:=fun ds μ=>match ds with
 |[d]=>(items μ d).bind fun xs=>some (.loc μ.length,μ++[.lst xs])
 |_=>none
def z4h:CallM X (.type "list") zso:=by
 refine CallM.of fun pins s σ H xs us Q I r ρ ds μ d μ' r1 R e k=>?_;unfold zso at e
 split at e
 ·obtain⟨ds,e1,e⟩:=zi e;cases e;obtain⟨v,rr,rfl,q1,q2⟩:=r1.cons_inv;have q2:=q2.nil_inv;subst q2;obtain⟨p,vs,rfl,hq,rr⟩:=zbh R q1 e1;exact zui pins s σ H _ us Q I r ⟨p,vs,rfl,hq,fun l hl=>k _ _ _ (Ext.push hl) (R.push hl ⟨vs,zF,rr.ext (Ext.push hl)⟩) (.loc (zDb R))⟩
 ·cases e
@[simp] def zFg:GL:=fun ds μ=>match ds with
 |[.tup xs]=>some (.tup xs,μ)
 |[d]=>(items μ d).bind fun xs=>some (.tup xs,μ)
 |_=>none
def z9e:CallM X (.type "tuple") zFg:=by
 refine CallM.of fun pins s σ H xs us Q I r ρ ds μ d μ' r1 R e k=>?_
 have key:∃x ys,ds=[x]/\items μ x=some ys/\d = .tup ys/\μ'=μ:=by
  unfold zFg at e
  split at e
  ·cases e;exact⟨_,_,rfl,rfl,rfl,rfl⟩
  ·obtain⟨ds,e1,e⟩:=zi e;cases e;exact⟨_,_,rfl,e1,rfl,rfl⟩
  ·cases e
 obtain⟨x,ys,rfl,e1,rfl,rfl⟩:=key;obtain⟨v,rr,rfl,q1,q2⟩:=r1.cons_inv;have q2:=q2.nil_inv;subst q2
 cases x with
 |tup zs=>
  cases e1;obtain⟨a,vs,rfl,e2,q⟩:=q1.tup_inv;exact z5e pins s σ H _ us Q I r ⟨a,vs,rfl, .inr ⟨SqT.of e2,k ρ H _ Ext.refl R q1⟩⟩
 |fz zs=>
  cases e1;obtain⟨a,vs,rfl,e2,q⟩:=q1.fz_inv;exact z5e pins s σ H _ us Q I r ⟨a,vs,rfl, .inl ⟨e2.sq,fun l hl=>k ρ _ _ (Ext.new hl) (R.newTup hl) (.tup zF (q.ext (Ext.new hl)))⟩⟩
 |loc n=>
  unfold items at e1;dsimp only at e1
  split at e1
  ·rename_i h
   cases e1;obtain⟨a,rfl,e2⟩:=q1.loc_inv;obtain⟨vs,e3,q⟩:=R.at_ _ _ _ e2 h;exact z5e pins s σ H _ us Q I r ⟨a,vs,rfl, .inl ⟨SqL.of e3,fun l hl=>k ρ _ _ (Ext.new hl) (R.newTup hl) (.tup zF (q.ext (Ext.new hl)))⟩⟩
  ·cases e1
 |_=>cases e1
end
def zPn{prog:yv}{w:yE}{A:yH}{R:Result->yc->Prop}{s:yc}{elt target iter:Expr}{ifs:List Expr}{scope:Xa}{pos:xi}{it acc:Value}{env:Env}(I:Nat->yc->Prop)
 (turn:∀n s,I n s->yk (yp prog w) A (Xg it) (fun r s₁=>match r with
  |none=>R (.ok .next) s₁
  |some v=>yk (yp prog w) A (letOwnedTupleGo target it v) (fun _ s₁'=>yk (yp prog w) A (assign target env v) (fun _ s₂=>
   yk (yp prog w) A (forIn ifs true fun c r=>if r=true then do let ok <-isTrue c env (yY c env);pure (YT ok) else pure (YT r)) (fun ok s₃=>
    if ok=true then yk (yp prog w) A (yY elt env) (fun x s₄=>
     yk (yp prog w) A (call (.builtin "list.append") [acc,x]) (fun _ s₅=>∃m,m<n/\I m s₅) (fun _ _=>False) s₄) (fun _ _=>False) s₃
    else ∃m,m<n/\I m s₃) (fun _ _=>False) s₂) (fun _ _=>False) s₁') (fun _ _=>False) s₁) (fun _ _=>False) s)
 (n:Nat) (h:I n s) :
 Xc (yp prog w) A (.compLoop (.ListComp elt [⟨target,iter,ifs,0⟩] scope pos) 0 it acc env) R s:=by
 refine codeAny_loop rfl I (fun n s hI=>?_) n h;show yk _ A ((compTurn (.ListComp elt [⟨target,iter,ifs,0⟩] scope pos) 0 it acc env).onRaise (fun x=>do noteFrame x env;theTreesLotGoes x)) _ _ s;refine wpAny_noted ?_;rw[compTurn_list];refine ya (YM (ya (yP (turn n s hI) (fun r s₁ h₁=>?_) fun _ _ h'=>h'.elim)))
 cases r with
 |none=>exact ye h₁
 |some v=>
  refine ya (yP h₁ (fun _ s₁' h₁=>?_) fun _ _ h'=>h'.elim);refine ya (yP h₁ (fun _ s₂ h₂=>ya (yP h₂ (fun ok s₃ h₃=>?_) fun _ _ h'=>h'.elim)) fun _ _ h'=>h'.elim)
  cases ok with
  |false=>exact ye ⟨rfl,h₃⟩
  |true=>
   exact ya (ya (yP h₃ (fun x s₄ h₄=>ya (yP h₄ (fun _ s₅ h₅=>ye (ye ⟨rfl,h₅⟩)) fun _ _ h'=>h'.elim)) fun _ _ h'=>h'.elim))
def z1b(cells:List (Str×Addr)):List (Str×xa)->List (Str×Addr)->List (Str×Addr)
 |[],acc=>acc
 |(n,k)::r,acc=>z1b cells r (if k == .free then(match cells.lookup n with | some c=>(n,c)::acc | none=>acc) else acc)
def zCi{env:Env}:∀(names:List (Str×xa)) (acc:List (Str×Addr)),(∀x∈names,x.2 = .free->∃c,env.cells.lookup x.1=some c) ->
 (forIn names acc fun(x:Str×xa) (cs:List (Str×Addr))=>(match x with | (name,kind)=>if kind == .free then do let c <-cellOf env name;pure (YT ((name,c)::cs)) else pure (YT cs):Sem (ForInStep (List (Str×Addr)))))=(pure (z1b env.cells names acc):Sem (List (Str×Addr)))
 |[],acc,_=>rfl
 |(n,k)::r,acc,h=>by
  have ih:=fun acc'=>zCi r acc' fun x hx=>h x (mem_cons_of_mem _ hx);rw[List.forIn_cons]
  by_cases hk:k = .free
  ·subst hk;obtain⟨c,hc⟩:=h (n, .free) mem_cons_self rfl;have e:cellOf env n=pure c:=by unfold cellOf;rw[hc]
   have:z1b env.cells ((n,yu)::r) acc=z1b env.cells r ((n,c)::acc):=by
    show z1b env.cells r (if(yu==yu)=true then(match env.cells.lookup n with | some c=>(n,c)::acc | none=>acc) else acc)=_;rw[hc];rfl
   rw[this,<-ih];show((do let c <-cellOf env n;pure (YT ((n,c)::acc))) >>= _:Sem _)=_;rw[e];rfl
  ·have hb:(k==yu)=false:=by simpa using hk
   have:z1b env.cells ((n,k)::r) acc=z1b env.cells r acc:=by
    show z1b env.cells r (if(k==yu)=true then _ else acc)=_;rw[hb];rfl
   rw[this,<-ih];simp only[hb,xN,if_false];rfl
def z8k{scope:Xa}{env:Env}(h:∀x∈scope.names,x.2 = .free->∃c,env.cells.lookup x.1=some c):closureFor scope env=pure (z1b env.cells scope.names []):=by
 have e:=zCi (env:=env) scope.names [] h;unfold closureFor;show(forIn scope.names [] _ >>= fun r=>pure r:Sem _)=_;rw[show(forIn scope.names ([]:List (Str×Addr)) fun(x:Str×xa) (r:List (Str×Addr))=>(match x with | (name,kind)=>if kind == .free then do let c <-cellOf env name;pure (YT ((name,c)::r)) else pure (YT r):Sem (ForInStep (List (Str×Addr)))))=pure (z1b env.cells scope.names []) from e];rfl
def z3l{cells:List (Str×Addr)}{x:Str}{c:Addr}:∀(names:List (Str×xa)) (acc:List (Str×Addr)),(z1b cells names acc).lookup x=some c->acc.lookup x=some c\/cells.lookup x=some c
 |[],_,h => .inl h
 |(n,k)::r,acc,h=>by
  rcases z3l r _ h with q | q
  ·by_cases hk:(k==yu)=true
   ·rw[if_pos hk]at q
    cases e:cells.lookup n with
    |none=>rw[e]at q;exact .inl q
    |some a=>
     rw[e]at q;simp only[lookup_cons]at q
     by_cases hx:(x==n)=true
     ·rw[hx]at q;have hx':x=n:=by simpa using hx
      subst hx';cases q;exact .inr e
     ·have hx':(x==n)=false:=by simpa using hx
      rw[hx']at q;exact .inl q
   ·rw[if_neg hk]at q;exact .inl q
  ·exact .inr q
def zJr{cells:List (Str×Addr)}{x:Str}:∀(names:List (Str×xa)) (acc:List (Str×Addr)),(acc.lookup x).isSome=true->((z1b cells names acc).lookup x).isSome=true
 |[],_,h=>h
 |(n,k)::r,acc,h=>by
  refine zJr r _ ?_
  by_cases hk:(k==yu)=true
  ·rw[if_pos hk]
   cases e:cells.lookup n with
   |none=>exact h
   |some a=>
    simp only[lookup_cons]
    by_cases hx:(x==n)=true
    ·rw[hx];rfl
    ·have hx':(x==n)=false:=by simpa using hx
     rw[hx'];exact h
  ·rw[if_neg hk];exact h
def z7u{cells:List (Str×Addr)}{x:Str}{c:Addr}(hc:cells.lookup x=some c):∀(names:List (Str×xa)) (acc:List (Str×Addr)),(x,yu)∈names->((z1b cells names acc).lookup x).isSome=true
 |[],_,h=>by cases h
 |(n,k)::r,acc,h=>by
  rcases List.mem_cons.mp h with h | h
  ·cases h;refine zJr r _ ?_;rw[if_pos (by rfl),hc];simp[lookup_cons]
  ·exact z7u hc r _ h
def cxC(X:Cx)(own:List Str)(fr:List Nat)(scope:Xa)(cl:List (Str×Addr))(C:Addr)(s₀:yc)(H₀:Hp)(fp:List Addr):Cx :=
 {X with N:=own++fr.map fun i=>X.N.getD i Str.empty,s₀:=s₀,H₀:=H₀,env:=compEnvC scope cl C X.env,outer:=X.stack,ex:=fp,fn:=fun x=>scope.names.lookup x==some .cell,xe:=fun _ _=>False }
def σC(n:Nat)(fr:List Nat)(σ:L2.St):L2.St:=yz n none++fr.map fun i=>(σ[i]?).getD none
def zPw(σ σ':L2.St):Prop:=σ'.length=σ.length/\∀(i:Nat) v,σ[i]?=some (some v)->σ'[i]?=some (some v)
def PF(X:Cx)(ifs:List Expr)(t:TT):Prop:=∀(pins:List (Addr×YL)) (s:yc) (σ:L2.St) (H:Hp) (Q:Bool->Hp->Prop),Inv X pins σ H s->t σ H Q ->
 yk (yp X.prog X.w) X.A (forIn ifs true fun c r=>if r=true then do let ok <-isTrue c X.env (yY c X.env);pure (YT ok) else pure (YT r)) (TP X pins σ Q) X.xe s
def zjy{X:Cx}:PF X [] (fun σ H Q=>Q true H):=fun pins s σ H Q I h=>wpAny_tests_nil ⟨H,I,h⟩
def zjx{X:Cx}{c:Expr}{t:TT}(h:PT X c t):PF X [c] t:=fun pins s σ H Q I hw=>wpAny_tests_one (h pins s σ H Q I hw)
def tLC(n:Nat)(fr:List Nat)(wi:TI)(g:TG)(tc:TT)(te:TE):TE:=fun σ H Q=>wi σ H fun J H1=>∃W:Nat->Nat->List V->Hp->Prop,(∃m,W 0 m [] H1)/\∀i m ys H,W i m ys H ->
 (J.stop i H/\∀p,H p=none->Q (.ref p) (upd H p (.lst ys))) \/
 (J.go i H/\ys.length<yB/\∀x H',J.yld i H x H'->g x (σC n fr σ) H' fun σ2 H2=>zPw (σC n fr σ) σ2/\tc σ2 H2 fun b H3=>
  if b=true then te σ2 H3 fun y H4=>∃m',m'<m/\W (i+1) m' (ys++[y]) H4 else ∃m',m'<m/\W (i+1) m' ys H3)
section
variable {X:Cx}{own:List Str}{fr:List Nat}{scope:Xa}{pins:List (Addr×YL)}{σ:L2.St}{H:Hp}{s:yc}
def zve{env:Env}{x:Str}{k:xa}:∀{names:List (Str×xa)},(names.map fun(n,k)=>if(k==yu&&env.scope.kind == .function&&env.kindOf n==some .cell) then(n,yN) else(n,k)).lookup x=some k ->
 (k = .cell\/k = .free)->(x,yu)∈names\/(x,yN)∈names
 |[],h,_=>by simp at h
 |(n,k')::r,h,hk=>by
  rw[map_cons]at h
  by_cases hx:x=n
  ·subst hx
   by_cases hb:(k'==yu&&env.scope.kind == .function&&env.kindOf x==some .cell)=true
   ·have:k' = .free:=by
     simp only[yG,beq_iff_eq]at hb;exact hb.1.1
    subst this;exact .inl mem_cons_self
   ·have h2:((x,k')::r.map fun(n,k)=>if(k==yu&&env.scope.kind == .function&&env.kindOf n==some .cell) then(n,yN) else(n,k)).lookup x=some k:=by
     have e:(if(k'==yu&&env.scope.kind == .function&&env.kindOf x==some .cell)=true then(x,yN) else(x,k'))=(x,k'):=if_neg hb;rw[<-e];exact h
    simp only[lookup_cons,beq_self_eq_true]at h2;cases h2;rcases hk with rfl | rfl
    ·exact .inr mem_cons_self
    ·exact .inl mem_cons_self
  ·have hx':(x==n)=false:=by simpa using hx
   have h2:(r.map fun(n,k)=>if(k==yu&&env.scope.kind == .function&&env.kindOf n==some .cell) then(n,yN) else(n,k)).lookup x=some k:=by
    by_cases hb:(k'==yu&&env.scope.kind == .function&&env.kindOf n==some .cell)=true
    ·have e:(if(k'==yu&&env.scope.kind == .function&&env.kindOf n==some .cell)=true then(n,yN) else(n,k'))=(n,yN):=if_pos hb;have h3:((n,yN)::r.map fun(n,k)=>if(k==yu&&env.scope.kind == .function&&env.kindOf n==some .cell) then(n,yN) else(n,k)).lookup x=some k:=by rw[<-e];exact h
     simpa only[lookup_cons,hx'] using h3
    ·have e:(if(k'==yu&&env.scope.kind == .function&&env.kindOf n==some .cell)=true then(n,yN) else(n,k'))=(n,k'):=if_neg hb;have h3:((n,k')::r.map fun(n,k)=>if(k==yu&&env.scope.kind == .function&&env.kindOf n==some .cell) then(n,yN) else(n,k)).lookup x=some k:=by rw[<-e];exact h
     simpa only[lookup_cons,hx'] using h3
   rcases zve h2 hk with q | q
   ·exact .inl (mem_cons_of_mem _ q)
   ·exact .inr (mem_cons_of_mem _ q)
def zMi{env:Env}{x:Str}:∀{names:List (Str×xa)},names.lookup x=some .free ->
 (names.map fun(n,k)=>if(k==yu&&env.scope.kind == .function&&env.kindOf n==some .cell) then(n,yN) else(n,k)).lookup x=some .cell \/
 (names.map fun(n,k)=>if(k==yu&&env.scope.kind == .function&&env.kindOf n==some .cell) then(n,yN) else(n,k)).lookup x=some .free
 |[],h=>by simp at h
 |(n,k')::r,h=>by
  rw[map_cons]
  by_cases hx:x=n
  ·subst hx;simp only[lookup_cons,beq_self_eq_true]at h;cases h
   by_cases hb:(yu==yu&&env.scope.kind == .function&&env.kindOf x==some .cell)=true
   ·have e:(if(yu==yu&&env.scope.kind == .function&&env.kindOf x==some .cell)=true then(x,yN) else(x,yu))=(x,yN):=if_pos hb
    left
    show YD x ((if(yu==yu&&env.scope.kind == .function&&env.kindOf x==some .cell)=true then(x,yN) else(x,yu))::_)=_;rw[e];simp[lookup_cons]
   ·have e:(if(yu==yu&&env.scope.kind == .function&&env.kindOf x==some .cell)=true then(x,yN) else(x,yu))=(x,yu):=if_neg hb
    right
    show YD x ((if(yu==yu&&env.scope.kind == .function&&env.kindOf x==some .cell)=true then(x,yN) else(x,yu))::_)=_;rw[e];simp[lookup_cons]
  ·have hx':(x==n)=false:=by simpa using hx
   simp only[lookup_cons,hx']at h;have ih:=zMi (env:=env) h
   have step:∀k,(r.map fun(n,k)=>if(k==yu&&env.scope.kind == .function&&env.kindOf n==some .cell) then(n,yN) else(n,k)).lookup x=some k ->
    YD x ((if(k'==yu&&env.scope.kind == .function&&env.kindOf n==some .cell)=true then(n,yN) else(n,k'))::(r.map fun(n,k)=>if(k==yu&&env.scope.kind == .function&&env.kindOf n==some .cell) then(n,yN) else(n,k)))=some k:=fun k hk=>by
     by_cases hb:(k'==yu&&env.scope.kind == .function&&env.kindOf n==some .cell)=true
     ·rw[if_pos hb];simpa only[lookup_cons,hx'] using hk
     ·rw[if_neg hb];simpa only[lookup_cons,hx'] using hk
   rcases ih with ih | ih
   ·exact .inl (step _ ih)
   ·exact .inr (step _ ih)
def z3n{b:Addr}(I:Inv X pins σ H s)(h1:b≠X.env.locals)(h2:b∉X.fs):b∉frs X.stack:=fun z=>
 (List.mem_cons.mp (I.stkSub b z)).elim h1 h2
def σC_get{n:Nat}{i:Nat}{v:V}(h:(σC n fr σ)[i]?=some (some v)):n<=i/\∃j,fr[i-n]?=some j/\σ[j]?=some (some v):=by
 unfold σC at h
 by_cases hi:i<n
 ·rw[yt (by simpa using hi),YI]at h
  split at h<;>cases h
 ·have hi:n<=i:=Nat.le_of_not_lt hi;rw[yL (by simpa using hi),xX,yn]at h
  cases e:fr[i-n]? with
  |none=>rw[e]at h;cases h
  |some j=>
   rw[e]at h;refine⟨hi,j,rfl,?_⟩;have h':(σ[j]?).getD none=some v:=Ye h
   cases e2:σ[j]? with
   |none=>rw[e2]at h';cases h'
   |some o=>rw[e2]at h';exact congrArg some h'
def zrl:∀(names:List (Str×xa)) (n:Nat) (acc:List (Str×Addr)),Yk n names acc=Yk n names []++acc
 |[],n,acc=>rfl
 |(x,k)::r,n,acc=>by
  unfold Yk
  split
  ·rw[zrl r (n+1) ((x,n)::acc),zrl r (n+1) [(x,n)]];simp
  ·exact zrl r n acc
def zal:∀(names:List (Str×xa)) (n:Nat) (x:Str) (c:Addr),(x,c)∈Yk n names []->n<=c/\(x,yN)∈names
 |[],n,x,c,h=>by cases h
 |(y,k)::r,n,x,c,h=>by
  unfold Yk at h
  split at h
  ·rename_i hk
   rw[zrl]at h;rcases List.mem_append.mp h with h | h
   ·obtain⟨h1,h2⟩:=zal r (n+1) x c h;exact⟨Nat.le_of_succ_le h1,mem_cons_of_mem _ h2⟩
   ·have e:(x,c)=(y,n):=by simpa using h
    cases e;rw[beq_iff_eq.mp hk];exact⟨yh _,mem_cons_self⟩
  ·obtain⟨h1,h2⟩:=zal r n x c h;exact⟨h1,mem_cons_of_mem _ h2⟩
def zVo{names:List (Str×xa)}{n:Nat}{acc:List (Str×Addr)}{x:Str}{c:Addr}(h:(Yk n names acc).lookup x=some c):(Yk n names []).lookup x=some c\/((Yk n names []).lookup x=none/\acc.lookup x=some c):=by
 rw[zrl,List.lookup_append]at h
 cases e:(Yk n names []).lookup x with
 |none=>rw[e]at h;exact .inr ⟨rfl,h⟩
 |some d=>rw[e]at h;exact .inl h
def zOw{names:List (Str×xa)}{n:Nat}{x:Str}(hn:∀y∈names,names.lookup y.1=some y.2)(h:(x,yu)∈names):(Yk n names []).lookup x=none:=by
 cases e:(Yk n names []).lookup x with
 |none=>rfl
 |some c=>
  have h1:=hn _ (zal _ _ _ _ (yZ e)).2;have h2:=hn _ h;rw[h1]at h2;cases h2
def zrt{fp:List Addr}{D C:Addr}{lo:Nat}{h1:yT}{t:Nat}{mC:Str->Option Value}{oD:YL}(I:Inv X pins σ H s)(hf:∀b∈fp,zMp X pins H b)(hfl:∀b∈fp,b<s.heap.objs.size)
 (hk:scope.kind = .function) (hnm:∀y∈scope.names,scope.names.lookup y.1=some y.2) (hfree:∀x∈scope.names,x.2 = .free->(X.env.kindOf x.1=some .cell\/X.env.kindOf x.1=some .free))
 (hfr:∀i∈fr,∃x,X.N[i]?=some x/\scope.names.lookup x=some .free) (hlo:C<lo) (hOC:CellsOk h1 lo (Yk lo scope.names []))
 (old:∀b o,s.heap.get? b=some o->h1.get? b=some o) (hD:s.heap.objs.size<=D) (hC:s.heap.objs.size<=C) (hDC:D≠C) (hDlo:D<lo) (eD:h1.get? D=some oD) (dD:∀v,oD.data≠.cell v) (nC:h1.Ns C mC) :
 Inv (cxC X own fr scope (Yk lo scope.names (z1b X.env.cells scope.names [])) C s H fp) (pins++[(D,oD)]) (σC own.length fr σ) H {s with heap:=h1,toks:=t }:=by
 have cl1:∀x c,(z1b X.env.cells scope.names []).lookup x=some c->X.env.cells.lookup x=some c:=fun x c e=>by
  rcases z3l _ _ e with q | q
  ·cases q
  ·exact q
 have clH:∀x,(x,yu)∈scope.names->∃c,(Yk lo scope.names (z1b X.env.cells scope.names [])).lookup x=some c/\X.env.cells.lookup x=some c:=fun x hx=>by
  obtain⟨c,hc⟩:=I.ok.has x (hfree _ hx rfl);obtain⟨c',hc'⟩:=Option.isSome_iff_exists.mp (z7u hc scope.names [] hx);exact⟨c',by rw[zrl,List.lookup_append,zOw hnm hx];exact hc',cl1 _ _ hc'⟩
 have two:∀x c,(Yk lo scope.names (z1b X.env.cells scope.names [])).lookup x=some c->((Yk lo scope.names []).lookup x=some c/\lo<=c)\/X.env.cells.lookup x=some c:=fun x c e=>by
  rcases zVo e with q | ⟨_,q⟩
  ·exact .inl ⟨q,(zal _ _ _ _ (yZ q)).1⟩
  ·exact .inr (cl1 _ _ q)
 have oldc:∀x c,X.env.cells.lookup x=some c->c<s.heap.objs.size:=fun x c e=>by
  obtain⟨v,o,ho,_⟩:=I.cell x c e;exact yi ho
 have hslo:s.heap.objs.size<=lo:=yy hC (YH hlo)
 refine⟨⟨I.ok.mod,hk,I.ok.glob,I.ok.blt,hC,fun x y c e1 e2=>?inj,fun x hx=>?_,fun x c hx e=>?cab,I.ok.hd,I.ok.frames, .inl rfl,fun b hb=>⟨?_,fun x c e=>?exf⟩,I.bs,yy I.ok.bsz I.sz,fun b o e hb=>?_,fun b hb=>?_,I.stack,I.stkFree⟩,
  rfl,I.bare,Un.kept old,⟨mC,nC,fun i x v h1 h2 h3=>?_⟩,fun x c e=>?cell,I.hok.fresh hC,fun x c e=>?freeC,fun p hp=>?_,I.hok.kept old,?_⟩
 case inj=>
  rcases two x c e1 with ⟨q1,l1⟩ | q1
  ·rcases two y c e2 with ⟨q2,_⟩ | q2
   ·exact name_of_addr hOC.apart (yZ q1) (yZ q2)
   ·exact absurd (yq (oldc y c q2) (yy hslo l1)) (yS _)
  ·rcases two y c e2 with ⟨_,l2⟩ | q2
   ·exact absurd (yq (oldc x c q1) (yy hslo l2)) (yS _)
   ·exact I.ok.inj x y c q1 q2
 case cab=>
  have hx:(scope.names.lookup x==some .cell)=true:=hx;obtain⟨d,hd⟩:=Option.isSome_iff_exists.mp (W.cellsFrom_some scope.names lo [] (.inl (beq_iff_eq.mp hx)));rcases zVo (show(Yk lo scope.names (z1b X.env.cells scope.names [])).lookup x=some c from e) with q | ⟨q,_⟩
  ·exact yy hslo (zal _ _ _ _ (yZ q)).1
  ·rw[q]at hd;cases hd
 case exf=>
  rcases two x c e with ⟨_,l⟩ | q
  ·exact yO (yq (hfl b hb) (yy hslo l))
  ·exact(hf b hb).2.2.2.2.1 x c q
 case cell=>
  rcases two x c e with ⟨q,_⟩ | q
  ·exact⟨none,(hOC.empty x c (yZ q)).1⟩
  ·obtain⟨v,o,ho,hd⟩:=I.cell x c q;exact⟨v,o,old _ _ ho,hd⟩
 case freeC=>
  rcases two x c e with ⟨_,l⟩ | q
  ·exact I.hok.fresh (yy hslo l)
  ·exact I.freeC x c q
 ·have hx':(relabel scope X.env).names.lookup x=some .cell\/(relabel scope X.env).names.lookup x=some .free:=hx
  have hm:(x,yu)∈scope.names\/(x,yN)∈scope.names:=by
   rcases hx' with h | h
   ·exact zve (env:=X.env) h (.inl rfl)
   ·exact zve (env:=X.env) h (.inr rfl)
  rcases hm with hm | hm
  ·obtain⟨c,e,_⟩:=clH x hm;exact⟨c,e⟩
  ·exact Option.isSome_iff_exists.mp (W.cellsFrom_some scope.names lo _ (.inl (hnm _ hm)))
 ·exact yw (yq (hfl b hb) hC)
 ·rcases(hf b hb).2.2.2.1 with z | z
  ·exact I.ok.noex b o e z
  ·exact absurd (yq (yi e) (yy I.ok.bsz z)) (yS _)
 ·exact z3n I (hf b hb).2.1 (hf b hb).2.2.1
 ·obtain⟨hi,j,e1,e2⟩:=σC_get h2;have hjm:j∈fr:=mem_of_getElem? e1;obtain⟨y,ey,ly⟩:=hfr j hjm
  have hxy:x=y:=by
   have h1':(own++fr.map fun i=>X.N.getD i Str.empty)[i]?=some x:=h1;rw[yL hi,yn,e1]at h1';have h1'':X.N.getD j Str.empty=x:=Ye h1';rw[getD_eq_getElem?_getD,ey]at h1'';exact h1''.symm
  subst hxy;have hm:(x,yu)∈scope.names:=yZ ly
  have hv:Vis X.env.scope x:=by
   rcases hfree _ hm rfl with q | q
   ·exact .inr (.inl q)
   ·exact .inr (.inr q)
  obtain⟨m,hn,hl⟩:=id I.loc;obtain⟨u,ru,q⟩:=hl j x v ey e2 hv;obtain⟨c,c1,c2⟩:=clH x hm;refine⟨u,ru, .inr ⟨zMi (env:=X.env) ly,c,c1,?_⟩⟩;rcases q with ⟨k,_⟩ | ⟨k,c',e',z⟩
  ·rcases hfree _ hm rfl with q | q
   ·rw[show X.env.kindOf (x,yu).1=X.env.kindOf x from rfl,k]at q;cases q
   ·rw[show X.env.kindOf (x,yu).1=X.env.kindOf x from rfl,k]at q;cases q
  ·rw[c2]at e';cases e';obtain⟨o,ho,hd⟩:=z;exact⟨o,old _ _ ho,hd⟩
 ·have hp':p∈X.pn++(pins++[(D,oD)]):=hp;rw[<-append_assoc]at hp';rcases List.mem_append.mp hp' with hp' | hp'
  ·obtain⟨a1,a2,a3,a4,a5⟩:=I.pin p hp';exact⟨old _ _ a1,a2,yw (yq (yi a1) hC),z3n I a3 a4,a5⟩
  ·have:p=(D,oD):=by simpa using hp'
   subst this;refine⟨eD,I.hok.fresh hD,hDC,fun z=>?_,dD⟩;rcases List.mem_cons.mp (I.stkSub _ z) with z | z
   ·exact absurd (yq I.lt (z▸hD)) (yS _)
   ·exact I.nofs hD z
 ·show(σC own.length fr σ).length=(own++fr.map fun i=>X.N.getD i Str.empty).length;unfold σC;simp
end
def HOk.track{P:yv}{w:yE}{H:Hp}{h:yT}{a:Addr}{o:HO}(x:HOk P w H h)(hn:H a=none)(new:ObjOk P w (upd H a o) h a o):HOk P w (upd H a o) h:=fun b u e=>by
 by_cases hb:b=a
 ·subst hb;rw[zF]at e;cases e;exact new
 ·rw[zK hb]at e;exact(x b u e).stay (fun c v _ q=>q) (fun c q=>by rw[zK (zI q hn)];exact q) fun c xs q=>by rw[zK (zI q hn)];exact q
def newEnvC{M:Model}{A:yH}{E:Value->yc->Prop}{s:yc}{scope:Xa}{globals:Addr}{cl:List (Str×Addr)}{qual:Str}{env:Env}{Q:Env->yc->Prop}
 (hQ:Q (newEnv scope s.heap.objs.size globals (Yk (s.heap.objs.size+1) scope.names cl) qual none .none (some env) builtinsNs) {s with heap:=pushCells (s.heap.push {cls := .type "dict",data := .dict #[]}) scope.names }) :
 yk M A (newFunctionEnv scope globals cl [] qual none .none (some env)) Q E s:=by
 simp only[newFunctionEnv,Option.isSome_some,if_true];refine ya (wpAny_alloc ?_);refine ya (wpAny_layCells _ (fun name kind cells=>by cases hkc:kind==yN<;>simp[hkc]) _ _ _ _ ?_);rw[show({s with heap:=s.heap.push {cls := .type "dict",data := .dict #[]}}:yc).heap.objs.size=s.heap.objs.size+1 from Yl ..];refine ya ?_;rw[List.forIn_nil];exact ye (ye hQ)
section
variable {X:Cx}{own:List Str}{fr:List Nat}{scope:Xa}
structure Walked(X:Cx)(pins:List (Addr×YL))(σ:L2.St)(H:Hp)(ys:List V)(D C:Addr)(s:yc):Prop where
 inv:Inv X pins σ (upd H D (.lst ys)) s
 free:H D=none
 freeC:upd H D (.lst ys) C=none
 own:∃m,s.heap.Ns C m
 notL:C≠X.env.locals
 young:X.s₀.heap.objs.size<=C
 notCell:∀x c,X.env.cells.lookup x=some c->c≠C
 notPin:∀p∈X.pn++pins,p.1≠C
def zhr{elt tg iter:Expr}{ifs:List Expr}{pos:xi}{g:TG}{tc:TT}{te:TE}{pins:List (Addr×YL)}{σ:L2.St}{s2:yc}{Qn:List V->Hp->Prop}{itv:Value}{RR:Value->Addr->Result->yc->Prop}(own:List Str)(fr:List Nat)(hc:X.calm=true)
 (hg:∀cl C s₀ H₀ fp,PG (cxC X own fr scope cl C s₀ H₀ fp) tg g) (hq:∀cl C s₀ H₀ fp,PF (cxC X own fr scope cl C s₀ H₀ fp) ifs tc) (he:∀cl C s₀ H₀ fp,PE (cxC X own fr scope cl C s₀ H₀ fp) elt te)
 (hk:scope.kind = .function) (hnm:∀y∈scope.names,scope.names.lookup y.1=some y.2)
 (hfree:∀x∈scope.names,x.2 = .free->(X.env.kindOf x.1=some .cell\/X.env.kindOf x.1=some .free)) (hfr:∀i∈fr,∃x,X.N[i]?=some x/\scope.names.lookup x=some .free)
 (h2:PIE X pins σ tg (fun J H1=>∃W:Nat->Nat->List V->Hp->Prop,(∃m,W 0 m [] H1)/\∀i m ys H,W i m ys H ->
  (J.stop i H/\Qn ys H)\/(J.go i H/\ys.length<yB/\∀x H',J.yld i H x H'->g x (σC own.length fr σ) H' fun σ2 H2=>zPw (σC own.length fr σ) σ2/\tc σ2 H2 fun b H3=>
   if b=true then te σ2 H3 fun y H4=>∃m',m'<m/\W (i+1) m' (ys++[y]) H4 else ∃m',m'<m/\W (i+1) m' ys H3)) itv s2)
 (fin:∀ys H D C s4,Qn ys H->Walked X pins σ H ys D C s4->RR (.ref D) C (.ok .next) s4) :
 yk (yp X.prog X.w) X.A (newList []) (fun acc s₃=>yk (yp X.prog X.w) X.A (newFunctionEnv scope X.env.globals (z1b X.env.cells scope.names []) [] X.env.qual none .none (some X.env)) (fun cenv s₄=>
  Xc (yp X.prog X.w) X.A (.compStart (.ListComp elt [⟨tg,iter,ifs,0⟩] scope pos) 0 itv acc {cenv with scope:=relabel scope X.env }) (RR acc cenv.locals) s₄) X.xe s₃) X.xe s2:=by
 obtain⟨it,fp,tn,J,H2,e,I2,T,st2,f2,W,⟨m0,w0⟩,turn⟩:=h2;subst e
 have hfl:∀b∈fp,b<s2.heap.objs.size:=fun b hb=>by
  obtain⟨o,e,_⟩:=T.obj _ _ st2 b hb;exact yi e
 refine yV (newEnvC ?_);dsimp only;generalize hH2:s2.heap.push {cls := .type "list",dict:=none,data := .seq ([]:List Value).toArray } = G2;have hC:G2.objs.size=s2.heap.objs.size+1:=by rw[<-hH2,Yl]
 have hDC:s2.heap.objs.size≠G2.objs.size:=by rw[hC];exact yw (Yr _)
 have hCle:s2.heap.objs.size<=G2.objs.size:=by rw[hC];exact xK _
 have below:∀b,b<s2.heap.objs.size->b≠G2.objs.size/\b≠s2.heap.objs.size:=fun b hb=>⟨by rw[hC];exact yw (Yt hb),yw hb⟩
 have hns₁:(pushCells (G2.push {cls := .type "dict",data := .dict #[]}) scope.names).Ns G2.objs.size (fun _=>none):=(Heap.Ns.new G2 (.type "dict")).keeps fun b o e=>pushCells_keeps _ _ _ _ e
 have hok₁:CellsOk (pushCells (G2.push {cls := .type "dict",data := .dict #[]}) scope.names) (G2.objs.size+1) (Yk (G2.objs.size+1) scope.names []):=by
  have:=cellsFrom_ok scope.names (G2.push {cls := .type "dict",data := .dict #[]}) (G2.objs.size+1) [] ⟨fun _ _ hm=>(nomatch hm),List.Pairwise.nil⟩ (by rw[Yl];exact yh _);rw[Yl]at this;exact this
 have hk₁:∀b o,G2.get? b=some o->(pushCells (G2.push {cls := .type "dict",data := .dict #[]}) scope.names).get? b=some o:=fun b o e=>pushCells_keeps _ _ _ _ (yd _ e);generalize pushCells (G2.push {cls := .type "dict",data := .dict #[]}) scope.names=h₁ at hns₁ hok₁ hk₁ ⊢;have old:∀b o,s2.heap.get? b=some o->h₁.get? b=some o:=fun b o e=>hk₁ b o (hH2▸yd _ e);have hacc:h₁.get? s2.heap.objs.size=some {cls := .type "list",data := .seq ([]:List Value).toArray 0 }:=hk₁ _ _ (hH2▸yo _ rfl);generalize hXC:cxC X own fr scope (Yk (G2.objs.size+1) scope.names (z1b X.env.cells scope.names [])) G2.objs.size s2 H2 fp=XC;have eenv:compEnvC scope (Yk (G2.objs.size+1) scope.names (z1b X.env.cells scope.names [])) G2.objs.size X.env=XC.env:=by rw[<-hXC];rfl
 have eprog:XC.prog=X.prog:=by rw[<-hXC];rfl
 have ew:XC.w=X.w:=by rw[<-hXC];rfl
 have eA:XC.A=X.A:=by rw[<-hXC];rfl
 have eK:XC.K=X.K:=by rw[<-hXC];rfl
 have ecalm:XC.calm=true:=by rw[<-hXC];exact hc
 have exe:XC.xe=fun _ _=>False:=by rw[<-hXC];rfl
 have eloc:XC.env.locals=G2.objs.size:=by rw[<-hXC];rfl
 have eex:XC.ex=fp:=by rw[<-hXC];rfl
 have efs:XC.fs=frs X.stack:=by rw[<-hXC];rfl
 have es0:XC.s₀=s2:=by rw[<-hXC];rfl
 have eH0:XC.H₀=H2:=by rw[<-hXC];rfl
 have epn:XC.pn=X.pn:=by rw[<-hXC];rfl
 have ecells:∀x c,XC.env.cells.lookup x=some c->X.env.cells.lookup x=some c\/G2.objs.size<c:=fun x c e=>by
  rw[<-hXC]at e;rcases zVo (show(Yk (G2.objs.size+1) scope.names (z1b X.env.cells scope.names [])).lookup x=some c from e) with q | ⟨_,q⟩
  ·exact .inr (zal _ _ _ _ (yZ q)).1
  ·rcases z3l _ _ q with q | q
   ·cases q
   ·exact .inl q
 have hg':PG XC tg g:=hXC▸hg _ _ _ _ _;have hq':PF XC ifs tc:=hXC▸hq _ _ _ _ _;have he':PE XC elt te:=hXC▸he _ _ _ _ _
 have fpok:∀{H':Hp} {pl:List (Addr×YL)},(∀b∈fp,H' b=none)->(∀p∈pl,p.1=s2.heap.objs.size)->∀b∈fp,zMp XC (pins++pl) H' b:=fun{H' pl} hn hpl b hb=>by
  obtain⟨_,f2,f3,f4,f5,f6⟩:=f2 b hb;refine⟨hn b hb,by rw[eloc];exact(below b (hfl b hb)).1,by rw[efs];exact z3n I2 f2 f3, .inl (by rw[eex];exact hb),fun x c e=>?c5,fun p hp=>?_⟩
  case c5=>
   rcases ecells x c e with q | q
   ·exact f5 x c q
   ·exact yO (yq (hfl b hb) (yy hCle (YH q)))
  rw[epn,<-append_assoc]at hp;rcases List.mem_append.mp hp with hp | hp
  ·exact f6 p hp
  ·rw[hpl p hp];exact yF (below b (hfl b hb)).2
 have loop:∀s₃:yc,s₃ = {s2 with heap:=h₁ } ->
  Xc (yp X.prog X.w) X.A (.compLoop (.ListComp elt [⟨tg,iter,ifs,0⟩] scope pos) 0 (.ref it) (.ref s2.heap.objs.size) (compEnvC scope (Yk (G2.objs.size+1) scope.names (z1b X.env.cells scope.names [])) G2.objs.size X.env))
   (RR (.ref s2.heap.objs.size) G2.objs.size) s₃:=by
  rintro s₃ rfl;have I0:=zrt (own:=own) (fr:=fr) (t:=s2.toks) (lo:=G2.objs.size+1) I2 f2 hfl hk hnm hfree hfr (Yr _) hok₁ old (yh _) hCle hDC (Nat.lt_succ_of_le hCle) hacc (by intro v z;cases z) hns₁;rw[hXC]at I0
  refine zPn (fun n s'=>∃(i:Nat)(ys:List V)(its:Array Value)(k:Nat)(H':Hp),Inv XC (pins++[(s2.heap.objs.size,({cls := .type "list",data := .seq its k }:YL))]) (σC own.length fr σ) H' s'/\Vals ys its.toList/\ys.length<=yB/\tn i s'.heap/\(∀b∈fp,H' b=none)/\W i n ys H') ?_ m0
   ⟨0,[],#[],0,H2,I0, .nil,Yq _,T.keep _ _ _ st2 (fun b hb o e=>old b o e),fun b hb=>(f2 b hb).1,w0⟩
  rintro n s3 ⟨i,ys,its,kk,H3,I3,rv,hz,st3,fr3,w3⟩
  have pl1:∀p∈[(s2.heap.objs.size,({cls := .type "list",data := .seq its kk }:YL))],p.1=s2.heap.objs.size:=fun p hp=>by
   rw[List.mem_singleton.mp hp]
  rcases turn i n ys H3 w3 with ⟨stop,qn⟩ | ⟨go,hlt,step⟩
  ·have td:=T.done XC eprog ew eK ecalm i _ s3 _ H3 (fun _ _=>False) I3 (fpok fr3 pl1) st3 stop;rw[eA]at td;refine thn td fun r s4 ⟨hr,I4⟩=>?_;subst hr;obtain⟨m,hn,_⟩:=id I4.loc;rw[eloc]at hn;obtain⟨p1,p2,p3,p4,p5⟩:=I4.pin (s2.heap.objs.size,_) (mem_append_right _ (mem_append_right _ mem_cons_self));have hnC:H3 G2.objs.size=none:=by have:=I4.free;rw[eloc]at this;exact this
   have hokf:HOk X.prog X.w (upd H3 s2.heap.objs.size (.lst ys)) s4.heap:=by
    refine HOk.track (by have:=I4.hok;rw[eprog,ew]at this;exact this) p2 ⟨hz,its.toList,kk,rv,by simpa using p1⟩
   have u0:Un (frs X.stack) fp H2 H3 s2.heap s4.heap:=by
    have:=I4.base;rw[efs,eex,es0,eH0]at this;exact this
   have u1:Un (frs X.stack) fp H2 (upd H3 s2.heap.objs.size (.lst ys)) s2.heap s4.heap:=by
    have bd:∀b o,s2.heap.get? b=some o->b≠s2.heap.objs.size:=fun b o e=>(below b (yi e)).2;refine⟨u0.keep,u0.slot,fun b o e n hx=>by rw[zK (bd b o e)];exact u0.free b o e n hx,u0.there,fun b xs e=>?_,fun b o u e=>?_,fun b ps e=>?_⟩
    ·have q:=u0.tups b xs e;rw[zK (zI q p2)];exact q
    ·have q:=u0.frzs b o u e;rw[zK (zI q p2)];exact q
    ·obtain⟨more,q⟩:=u0.tbls b ps e;exact⟨more,by rw[zK (zI q p2)];exact q⟩
   have os4:s4.os=s2.os:=by have:=I4.os;rw[es0]at this;exact this
   have IF:Inv X pins σ (upd H3 s2.heap.objs.size (.lst ys)) {s2 with heap:=s4.heap,gens:=s4.gens,drawn:=s4.drawn,toks:=s4.toks } :=
    I2.call (h':=s4.heap) (ch:=fp) u1 hokf I4.bare fun b hb=>by
     obtain⟨_,f2,f3,f4,f5,f6⟩:=f2 b hb;exact⟨f4,f2,f5,f6⟩
   have es:s4 = {s2 with heap:=s4.heap,gens:=s4.gens,drawn:=s4.drawn,toks:=s4.toks }:=by
    obtain⟨a1,a2,a3,a4,a5⟩:=s4;have:a5=s2.os:=os4;subst this;rfl
   rw[<-es]at IF;refine fin ys H3 _ _ s4 qn ⟨IF,p2,by rw[zK (yF hDC)];exact hnC,⟨m,hn⟩,yF (below _ I2.lt).1,yy I2.sz hCle,fun x c e=>?_,fun p hp=>?_⟩
   ·obtain⟨v,o,ho,_⟩:=I2.cell x c e;exact(below c (yi ho)).1
   ·exact(below p.1 (yi (I2.pin p hp).1)).1
  ·have td:=T.item XC eprog ew eK ecalm i _ s3 _ H3 (fun _ _=>False) I3 (fpok fr3 pl1) st3 go;rw[eA]at td;refine thn td fun r s4 ⟨u,hr,h4⟩=>?_;subst hr;refine thn h4 fun _ s5 ⟨x,H5,I5,r5,y5,st5,fr5⟩=>?_;have I5':=I5.pinned (fpok fr5 pl1) (T.obj _ _ st5);have hgw:=hg' _ s5 _ H5 x u _ I5' r5 (step x H5 y5);rw[exe,eprog,ew,eA]at hgw;rw[eenv];refine thn hgw fun _ s6 ⟨σ6,H6,I6,⟨hsl,hsub⟩,q6⟩=>?_;have hqw:=hq' _ s6 σ6 H6 _ I6 q6;rw[exe,eprog,ew,eA]at hqw;refine thn hqw fun ok s7 ⟨H7,I7,q7⟩=>?_
   have back:∀{H8:Hp} {s8:yc},Inv XC (pins++[(s2.heap.objs.size,({cls := .type "list",data := .seq its kk }:YL))]++zkn fp s5.heap) σ6 H8 s8 ->
    Inv XC (pins++[(s2.heap.objs.size,({cls := .type "list",data := .seq its kk }:YL))]) (σC own.length fr σ) H8 s8/\tn (i+1) s8.heap/\∀b∈fp,H8 b=none:=fun{H8 s8} I8=>by
    refine⟨I8.unpinned.weak hsl.symm hsub,T.keep _ _ _ st5 fun b hb o e=>(I8.pin (b,o) (mem_append_right _ (mem_append_right _ (zlg hb e)))).1,fun b hb=>?_⟩;obtain⟨o,e,d⟩:=T.obj _ _ st5 b hb;exact(I8.pin (b,o) (mem_append_right _ (mem_append_right _ (zlg hb e)))).2.1
   cases ok with
   |false=>
    have q7':∃m',m'<n/\W (i+1) m' ys H7:=by simpa using q7
    rw[if_neg yx];obtain⟨m',hm,w7⟩:=q7';obtain⟨J1,J2,J3⟩:=back I7;exact⟨m',hm,i+1,ys,its,kk,H7,J1,rv,hz,J2,J3,w7⟩
   |true=>
    rw[if_pos rfl]at q7 ⊢;have hew:=he' _ s7 σ6 H7 _ I7 q7;rw[exe,eprog,ew,eA]at hew;refine thn hew fun y s8 ⟨vy,H8,I8,r8,m',hm,w8⟩=>?_;obtain⟨J1,J2,J3⟩:=back I8;obtain⟨p1,p2,p3,p4,p5⟩:=J1.pin (s2.heap.objs.size,_) (mem_append_right _ (mem_append_right _ mem_cons_self));have hil:its.size=ys.length:=by rw[rv.length];simp
    refine append_at (hsz:=by rw[hil];exact hz) p1 fun h9 sb9 e9=>?_;have Df:s2.heap.objs.size∉fp:=fun z=>absurd (hfl _ z) (yS _);have J0:Inv XC pins (σC own.length fr σ) H8 s8:=J1.unpinned
    have J9:Inv XC pins (σC own.length fr σ) H8 {s8 with heap:=h9 }:=by
     refine J0.turned (t':=s8.toks) (it:=s2.heap.objs.size) (fun b o hb e=>(sb9.2 b hb).trans e) p2 p3 (.inr (by rw[es0];exact yh _)) (fun x c e z=>?_) (fun p hp z=>?_)
     ·rcases ecells x c e with q | q
      ·obtain⟨v,o,ho,_⟩:=I2.cell x c q;exact(below c (yi ho)).2 z
      ·exact yO (Nat.lt_of_le_of_lt hCle q) z
     ·rw[epn]at hp;exact(below p.1 (yi (I2.pin p hp).1)).2 z
    refine⟨m',hm,i+1,ys++[vy],its.push y,kk+1,H8,J9.pins_of fun p hp=>?_,?_,by simp;exact hlt,T.keep _ _ _ J2 (fun b hb o e=>(sb9.2 b (fun z=>Df (z▸hb))).trans e),J3,w8⟩
    ·rcases List.mem_append.mp hp with hp | hp
     ·exact J9.pin p (mem_append_right _ hp)
     ·have e:=List.mem_singleton.mp hp;subst e;exact⟨e9,p2,p3,p4,by intro v z;cases z⟩
    ·rw[Array.toList_push];exact rv.append (.cons r8 .nil)
 exact codeAny_compStart_list (loop _ rfl) (T.self X.A 0 _ _ _ (T.keep _ _ _ st2 fun b hb o e=>old b o e) (loop _ rfl))
def Walked.gone{pins:List (Addr×YL)}{σ:L2.St}{H:Hp}{ys:List V}{D C:Addr}{s:yc}(w:Walked X pins σ H ys D C s){h':yT}(sb:Yj C s.heap h'):Inv X pins σ (upd H D (.lst ys)) {s with heap:=h' } :=
 w.inv.turned (t':=s.toks) (fun b o hb e=>(sb.2 b hb).trans e) w.freeC (yF (yF w.notL)) (.inr w.young) w.notCell w.notPin
def zNz{elt tg iter:Expr}{ifs:List Expr}{pos:xi}{wi:TI}{g:TG}{tc:TT}{te:TE}(own:List Str)(fr:List Nat)(hc:X.calm=true)(hi:PI X tg iter wi)
 (hg:∀cl C s₀ H₀ fp,PG (cxC X own fr scope cl C s₀ H₀ fp) tg g) (hq:∀cl C s₀ H₀ fp,PF (cxC X own fr scope cl C s₀ H₀ fp) ifs tc) (he:∀cl C s₀ H₀ fp,PE (cxC X own fr scope cl C s₀ H₀ fp) elt te)
 (hk:scope.kind = .function) (hnm:∀y∈scope.names,scope.names.lookup y.1=some y.2)
 (hfree:∀x∈scope.names,x.2 = .free->(X.env.kindOf x.1=some .cell\/X.env.kindOf x.1=some .free)) (hfr:∀i∈fr,∃x,X.N[i]?=some x/\scope.names.lookup x=some .free)
 (hs:∀x,YN iter X.env x=pure x:=by intro _;rfl):PE X (.ListComp elt [⟨tg,iter,ifs,0⟩] scope pos) (tLC own.length fr wi g tc te):=by
 intro pins s σ H Q I h;rw[eval_ListComp];have hclos:closureFor scope X.env=pure (z1b X.env.cells scope.names []):=z8k fun x hx e=>I.ok.has x.1 (hfree x hx e);refine wpAny_comprehension_free (use:=none) rfl hs hclos hk (fun x hx e=>by rw[hnm x hx,e]) ?_;show yk _ _ (yY iter X.env) _ _ s;refine thn (hi pins s σ H _ I h) fun v s1 h1=>thn h1 fun itv s2 h2=>?_;refine zhr (RR:=fun acc C=>compPost (yp X.prog X.w) X.A X.xe none (EP X pins σ Q) acc C) own fr hc hg hq he hk hnm hfree hfr h2 fun ys H3 D C s4 q w=>?_;obtain⟨m,hn⟩:=w.own;exact⟨m,hn,fun h' sb=>⟨.ref D,_,w.gone sb,rfl,q D w.free⟩⟩
def zCu{elt tg iter:Expr}{ifs:List Expr}{pos spos py:xi}{wi:TI}{g:TG}{tc:TT}{te:TE}{y:Str}{i:Nat}(own:List Str)(fr:List Nat)(hN:X.N.Nodup)(hiN:X.N[i]?=some y)(hy:X.env.scope.names.lookup y=some .local)(hc:X.calm=true)(hi:PI X tg iter wi)
 (hsw:xS (.ListComp elt [⟨tg,iter,ifs,0⟩] scope pos) (some (.Name y py)) spos.line X.env=pure true)
 (hg:∀cl C s₀ H₀ fp,PG (cxC X own fr scope cl C s₀ H₀ fp) tg g) (hq:∀cl C s₀ H₀ fp,PF (cxC X own fr scope cl C s₀ H₀ fp) ifs tc) (he:∀cl C s₀ H₀ fp,PE (cxC X own fr scope cl C s₀ H₀ fp) elt te)
 (hk:scope.kind = .function) (hnm:∀y∈scope.names,scope.names.lookup y.1=some y.2)
 (hfree:∀x∈scope.names,x.2 = .free->(X.env.kindOf x.1=some .cell\/X.env.kindOf x.1=some .free)) (hfr:∀i∈fr,∃x,X.N[i]?=some x/\scope.names.lookup x=some .free)
 (hs:∀x,YN iter X.env x=pure x:=by intro _;rfl):PS X (.Assign [.Name y py] (.ListComp elt [⟨tg,iter,ifs,0⟩] scope pos) spos) (zwz (tLC own.length fr wi g tc te) (zPv i)):=by
 intro pins s σ H E I h;rw[exec_Assign_Name_used _ _ _ _ hsw];refine ya (YM (ya ?_));have hclos:closureFor scope X.env=pure (z1b X.env.cells scope.names []):=z8k fun x hx e=>I.ok.has x.1 (hfree x hx e);show yk _ X.A (do let _ <-comprehension (.ListComp elt [⟨tg,iter,ifs,0⟩] scope pos) scope X.env _ (newList []) false (yY iter X.env) (some (assign (.Name y py) X.env))) _ _ s;refine ya (yP (wpAny_comprehension_free (use:=some (assign (.Name y py) X.env)) (Q:=fun _ s'=>SP X pins E .next s') rfl hs hclos hk (fun x hx e=>by rw[hnm x hx,e]) ?_) (fun _ s' hq=>ye (ye hq)) fun _ _ e=>e);show yk _ _ (yY iter X.env) _ _ s;refine thn (hi pins s σ H _ I h) fun v s1 h1=>thn h1 fun itv s2 h2=>?_;refine zhr (RR:=fun acc C=>compPost (yp X.prog X.w) X.A X.xe (some (assign (.Name y py) X.env)) (fun _ s'=>SP X pins E .next s') acc C) own fr hc hg hq he hk hnm hfree hfr h2 fun ys H3 D C s4 q w=>?_;show yk _ X.A (assign (.Name y py) X.env (.ref D)) _ _ s4;obtain⟨m,hn⟩:=w.own;refine wpAny_assign_Name (zGn (v:=V.ref D) w.inv hN hiN (.inl hy) rfl (fun s5 I5 ⟨a,sb,ha⟩=>?_) (.inr hy))
 have haC:C≠a:=by
  rcases ha with e | e
  ·rw[e];exact w.notL
  ·exact yF (w.notCell y a e)
 refine⟨m,hn.sameBut sb haC,fun h' sb'=>?_⟩;refine⟨_,_,I5.turned (t':=s5.toks) (fun b o hb e=>(sb'.2 b hb).trans e) w.freeC w.notL (.inr w.young) w.notCell w.notPin,q D w.free⟩
end
section
variable {K:yr}{ρ ρ1:List Addr}{H H1:Hp}
def OutOk.ext{W:XK}{E:Ends}{o:Out}(h:OutOk K W ρ H E o)(x:Ext ρ H ρ1 H1):OutOk K W ρ1 H1 E o:=by
 cases o with
 |next δ μ=>exact fun ρ' σ' H' x' A=>h ρ' σ' H' (x.trans x') A
 |brk δ μ=>exact fun ρ' σ' H' x' A=>h ρ' σ' H' (x.trans x') A
 |cont δ μ=>exact fun ρ' σ' H' x' A=>h ρ' σ' H' (x.trans x') A
 |ret d μ=>exact fun ρ' v H' x' R r=>h ρ' v H' (x.trans x') R r
 |exc c fs μ=>exact fun ρ' H' C dx hc x' R r=>h ρ' H' C dx hc (x.trans x') R r
def At.set{σ:L2.St}{δ:Loc}{μ:Mem}{d:D}{v:V}(A:At K ρ H σ δ μ)(r:RepV K ρ H d v)(i:Nat):At K ρ H (σ.set i (some v)) (δ.set i (some d)) μ:=by
 refine⟨fun j d' e=>?_,A.hp,by simp[A.len]⟩
 by_cases hj:j=i
 ·subst hj
  have hl:j<δ.length:=by
   have:=(List.getElem?_eq_some_iff.mp e).1;simpa using this
  rw[yU hl]at e;cases e;exact⟨v,by rw[yU (by rw[A.len];exact hl)],r⟩
 ·rw[yR (yF hj)]at e;obtain⟨u,e1,q⟩:=A.st j d' e;exact⟨u,by rw[yR (yF hj)];exact e1,q⟩
end
section
variable {X:Cx}{a b c e:Expr}{es:List Expr}{φ ψ χ:FE}{pos:xi}{st:Stmt}{rest:List Stmt}
@[simp] def zZb:FS:=fun δ μ=>some (.next δ μ)
@[simp] def zY(p q:FS):FS:=fun δ μ=>match p δ μ with
 |some (.next δ' μ')=>q δ' μ'
 |o=>o
def zZ:MSs X [] zZb:=znv zyw fun ρ δ μ σ H o E A e k=>by
 cases e;exact k ρ σ H Ext.refl A
def zp{p:FS}(h:MS X st p):MSs X [st] p:=z8r h
def zj{p q:FS}(h1:MS X st p)(h2:MSs X rest q):MSs X (st::rest) (zY p q) :=
 znv (znp h1 h2) fun ρ δ μ σ H o E A e k=>by
  unfold zY at e;show tMS X.K (zYl X) p {E with nx:=tMS X.K (zYl X) q E } σ H
  cases ep:p δ μ with
  |none=>rw[ep]at e;cases e
  |some op=>
   rw[ep]at e;refine⟨ρ,δ,μ,op,A,ep,?_⟩
   cases op with
   |next δ' μ'=>exact fun ρ' σ' H' x' A'=>⟨ρ',δ',μ',o,A',e,k.ext x'⟩
   |brk δ' μ'=>cases e;exact k
   |cont δ' μ'=>cases e;exact k
   |ret d μ'=>cases e;exact k
   |exc C fs μ'=>cases e;exact k
@[simp] def zCc(φ:FE):FS:=fun δ μ=>(φ δ μ).bind fun p=>some (.ret p.1 p.2)
def zT(h:ME X e φ):MS X (.Return (some e) pos) (zCc φ):=zTj (zCx h) fun ρ δ μ σ H o E A e k=>by
 obtain⟨⟨x,μ1⟩,e1,e⟩:=zi e;cases e;exact⟨ρ,δ,μ,x,μ1,A,e1,fun ρ' H' v x' R r=>k ρ' v H' x' R r⟩
@[simp] def zLd(φ:FE):FS:=fun δ μ=>(φ δ μ).bind fun p=>some (.next δ p.2)
def zVd(h:ME X e φ)(hs:xS e none pos.line X.env=pure false:=by rfl):MS X (.Expr e pos) (zLd φ):=zTj (zDr h hs) fun ρ δ μ σ H o E A e k=>by
 obtain⟨⟨x,μ1⟩,e1,e⟩:=zi e;cases e;exact⟨ρ,δ,μ,x,μ1,A,e1,fun ρ' H' v x' R r=>k ρ' σ H' x' (A.ext x' R)⟩
@[simp] def zyc(i:Nat)(φ:FE):FS:=fun δ μ=>(φ δ μ).bind fun p=>some (.next (δ.set i (some p.1)) p.2)
def zU{x:Str}{pos':xi}(i:Nat)(he:ME X e φ)(hN:X.N.Nodup:=by first | assumption | decide)(hi:X.N[i]?=some x:=by rfl)(hx:L2.Loc X.env.scope x:=by first | exact Or.inl rfl | exact Or.inr rfl)(hs:xS e (some (.Name x pos')) pos.line X.env=pure false:=by rfl)
 (hf:X.fn x=true\/X.env.scope.names.lookup x=some .local:=by first | exact .inl rfl | exact .inr rfl | assumption):MS X (.Assign [.Name x pos'] e pos) (zyc i φ):=zTj (zvy hN hi hx he hs hf) fun ρ δ μ σ H o E A e k=>by
 obtain⟨⟨x,μ1⟩,e1,e⟩:=zi e;cases e;exact⟨ρ,δ,μ,x,μ1,A,e1,fun ρ' H' v x' R r=>k ρ' _ H' x' ((A.ext x' R).set r i)⟩
@[simp] def sIf(c:FT)(p q:FS):FS:=fun δ μ=>(c δ μ).bind fun t=>bif t.1 then p δ t.2 else q δ t.2
def zRc{s1 s2:List Stmt}{t:FT}{p q:FS}(hc:MT X c t)(h1:MSs X s1 p)(h2:MSs X s2 q):MS X (.If c s1 s2 pos) (sIf t p q):=zTj (zIz hc h1 h2) fun ρ δ μ σ H o E A e k=>by
 obtain⟨⟨x,μ1⟩,e1,e⟩:=zi e;refine⟨ρ,δ,μ,x,μ1,A,e1,fun ρ' H' x' R=>?_⟩
 cases x with
 |true=>exact iteT ⟨ρ',δ,μ1,o,A.ext x' R,e,k.ext x'⟩
 |false=>exact iteF ⟨ρ',δ,μ1,o,A.ext x' R,e,k.ext x'⟩
def zct:FS:=fun _ _=>none
def zBp:MS X st zct:=zTj zuu fun _ _ _ _ _ _ _ _ e _=>by cases e
abbrev FG:=D->Loc->Mem->Option (Loc×Mem)
abbrev FGs:=List D->Loc->Mem->Option (Loc×Mem)
def tMG(K:yr)(g:FG):TG:=fun v σ H Q=>∃ρ δ μ d δ' μ',At K ρ H σ δ μ/\RepV K ρ H d v/\g d δ μ=some (δ',μ')/\∀ρ' σ' H',Ext ρ H ρ' H'->At K ρ' H' σ' δ' μ'->Q σ' H'
def zdA(K:yr)(g:FGs):TGs:=fun vs σ H Q=>∃ρ δ μ ds δ' μ',At K ρ H σ δ μ/\RepVs K ρ H ds vs/\g ds δ μ=some (δ',μ')/\∀ρ' σ' H',Ext ρ H ρ' H'->At K ρ' H' σ' δ' μ'->Q σ' H'
def MG(X:Cx)(t:Expr)(g:FG):Prop:=PG X t (tMG X.K g)
def MGs(X:Cx)(t:List Expr)(g:FGs):Prop:=PGs X t (zdA X.K g)
def mg_of{t:Expr}{tt:TG}{g:FG}(h:PG X t tt)(w:∀ρ δ μ d δ' μ' v σ H Q,At X.K ρ H σ δ μ->RepV X.K ρ H d v->g d δ μ=some (δ',μ')->(∀ρ' σ' H',Ext ρ H ρ' H'->At X.K ρ' H' σ' δ' μ'->Q σ' H')->tt v σ H Q):MG X t g :=
 by intro pins s σ H v u Q I r hh;obtain⟨ρ,δ,μ,d,δ',μ',A,q,e,k⟩:=hh;exact h pins s σ H v u Q I r (w ρ δ μ d δ' μ' v σ H Q A q e k)
def zVu{t:List Expr}{tt:TGs}{g:FGs}(h:PGs X t tt)(w:∀ρ δ μ d δ' μ' v σ H Q,At X.K ρ H σ δ μ->RepVs X.K ρ H d v->g d δ μ=some (δ',μ')->(∀ρ' σ' H',Ext ρ H ρ' H'->At X.K ρ' H' σ' δ' μ'->Q σ' H')->tt v σ H Q):MGs X t g :=
 by intro pins s σ H v u Q I r hh;obtain⟨ρ,δ,μ,d,δ',μ',A,q,e,k⟩:=hh;exact h pins s σ H v u Q I r (w ρ δ μ d δ' μ' v σ H Q A q e k)
@[simp] def gN(i:Nat):FG:=fun d δ μ=>some (δ.set i (some d),μ)
def zkb{x:Str}(i:Nat)(hN:X.N.Nodup:=by first | assumption | decide)(hi:X.N[i]?=some x:=by rfl)(hx:L2.Loc X.env.scope x:=by first | exact Or.inl rfl | exact Or.inr rfl)(hf:X.fn x=true\/X.env.scope.names.lookup x=some .local:=by first | exact .inl rfl | exact .inr rfl | assumption):MG X (.Name x pos) (gN i) :=
 mg_of (zQs hN hi hx hf) fun ρ δ μ d δ' μ' v σ H Q A q e k=>by
  cases e;exact k ρ _ H Ext.refl (A.set q i)
@[simp] def zSg:FGs:=fun ds δ μ=>match ds with
 |[]=>some (δ,μ)
 |_=>none
@[simp] def zQb(g:FG)(gs:FGs):FGs:=fun ds δ μ=>match ds with
 |d::r=>(g d δ μ).bind fun p=>gs r p.1 p.2
 |_=>none
def zOg:MGs X [] zSg:=zVu zsr fun ρ δ μ ds δ' μ' vs σ H Q A q e k=>by
 unfold zSg at e
 split at e
 ·cases e;exact⟨q.nil_inv,k ρ σ H Ext.refl A⟩
 ·cases e
def zMb{g:FG}{gs:FGs}(h1:MG X e g)(h2:MGs X es gs)(hs:(Ym (e::es) X.env).map (·.2)=assign e X.env::(Ym es X.env).map (·.2):=by rfl):MGs X (e::es) (zQb g gs) :=
 zVu (zDp h1 h2 hs) fun ρ δ μ ds δ' μ' vs σ H Q A q e k=>by
  unfold zQb at e
  split at e
  ·obtain⟨⟨δ1,μ1⟩,e1,e⟩:=zi e;obtain⟨v,r,rfl,q1,q2⟩:=q.cons_inv;refine⟨v,r,rfl,ρ,δ,μ,_,δ1,μ1,A,q1,e1,fun ρ1 σ1 H1 x1 A1=>?_⟩;exact⟨ρ1,δ1,μ1,_,δ',μ',A1,q2.ext x1,e,fun ρ2 σ2 H2 x2 A2=>k ρ2 σ2 H2 (x1.trans x2) A2⟩
  ·cases e
@[simp] def gT(n:Nat)(gs:FGs):FG:=fun d δ μ=>match d with
 |.tup ds=>bif ds.length==n then gs ds δ μ else none
 |_=>none
def zll{k n:Nat}{gs:FGs}(h:MGs X es gs)(hc:X.calm=true:=by rfl)(hn:(Ym es X.env).length=n:=by rfl)(hst:(Ym es X.env).findIdx? (·.1)=none:=by rfl):MG X (.Tuple es k pos) (gT n gs) :=
 mg_of (z3u hc h hn hst) fun ρ δ μ d δ' μ' v σ H Q A q e k=>by
  unfold gT at e
  split at e
  ·obtain⟨h1,e⟩:=zX e;obtain⟨a,vs,rfl,e2,q2⟩:=q.tup_inv;exact⟨a,vs,rfl,SqT.of e2,by rw[<-q2.length];exact beq_iff_eq.mp h1,ρ,δ,μ,_,δ',μ',A,q2,e,k⟩
  ·cases e
@[simp] def gAt(φ ψ:FE):FG:=fun d δ μ=>(φ δ μ).bind fun p=>(ψ δ p.2).bind fun q=>match p.1,q.1 with
 |.loc n, .int i=>match q.2[n]? with
  |some (.lst ds)=>(ixN ds.length i).bind fun j=>some (δ,q.2.set n (.lst (ds.set j d)))
  |_=>none
 |_,_=>none
def zZt{o i:Expr}(ho:ME X o φ)(hi:ME X i ψ)(ha:∀v,assign (.Subscript o i pos) X.env v=(do
 let ov <-xy [v] (yY o X.env)
 let iv <-xy [v,ov] (yY i X.env)
 standAt pos
 xy [v,ov,iv] (setItem ov iv v)
 release [v,ov,iv] []):=by intro _;rfl):MG X (.Subscript o i pos) (gAt φ ψ) :=
 mg_of (zav ho hi zJt ha) fun ρ δ μ d δ' μ' v σ H Q A q e k=>by
  obtain⟨⟨x,μ1⟩,e1,e⟩:=zi e;obtain⟨⟨y,μ2⟩,e2,e⟩:=zi e;refine⟨ρ,δ,μ,x,μ1,A,e1,fun ρ1 H1 v1 x1 R1 r1=>?_⟩;refine⟨ρ1,δ,μ1,y,μ2,A.ext x1 R1,e2,fun ρ2 H2 v2 x2 R2 r2=>?_⟩;dsimp only at e
  split at e
  ·split at e
   ·rename_i hm
    obtain⟨j,e3,e⟩:=zi e;cases e;obtain⟨ad,rfl,hr⟩:=(r1.ext x2).loc_inv;obtain⟨vs,hv,q3⟩:=R2.at_ _ _ _ hr hm;have hmu:Mut (H2 ad):=by rw[hv];trivial
    refine⟨ad,vs,_,j,rfl,r2.int_inv,hv,by rw[<-q3.length];exact e3,?_⟩;have xx:=x1.trans x2;have R3:=R2.wr (o := .lst (vs.set j v)) (lo := .lst _) hmu hr ⟨_,zF,RepVs.ext (Ext.wr hmu) (q3.set j (q.ext xx))⟩;exact k ρ2 σ _ (xx.trans (Ext.wr hmu)) (A.ext (xx.trans (Ext.wr hmu)) R3)
   ·cases e
  ·cases e
@[simp] def zfo(φ:FE)(g:FG):FS:=fun δ μ=>(φ δ μ).bind fun p=>(g p.1 δ p.2).bind fun q=>some (.next q.1 q.2)
def z1f{tg:Expr}{g:FG}(he:ME X e φ)(hg:MG X tg g)(hs:swapsWithSole [tg] e pos.line X.env=pure false:=by rfl)(hw:swappedStores [tg] e X.env=pure none:=by rfl)
 (h1:(Ym [tg] X.env).map (·.2)=[assign tg X.env]:=by rfl):MS X (.Assign [tg] e pos) (zfo φ g):=zTj (z7x he hg hs hw h1) fun ρ δ μ σ H o E A e k=>by
 obtain⟨⟨x,μ1⟩,e1,e⟩:=zi e;obtain⟨⟨δ1,μ2⟩,e2,e⟩:=zi e;cases e;refine⟨ρ,δ,μ,x,μ1,A,e1,fun ρ1 H1 v1 x1 R1 r1=>?_⟩;exact⟨ρ1,δ,μ1,x,δ1,μ2,A.ext x1 R1,r1,e2,fun ρ2 σ2 H2 x2 A2=>k ρ2 σ2 H2 (x1.trans x2) A2⟩
abbrev FI:=Loc->Mem->Option (List D×(Mem->Bool)×Mem)
structure ItIs(K:yr)(J:It)(ρ:List Addr)(H:Hp)(ds:List D)(ok:Mem->Bool):Prop where
 go:∀ρ' H' μ' (i:Nat),Ext ρ H ρ' H'->RepH K ρ' H' μ'->ok μ'=true->i<ds.length->J.go i H'
 yld:∀ρ' H' μ' (i:Nat) x H'' d,Ext ρ H ρ' H'->RepH K ρ' H' μ'->ok μ'=true->ds[i]?=some d->J.yld i H' x H''->Ext ρ' H' ρ' H''/\RepH K ρ' H'' μ'/\RepV K ρ' H'' d x
 stop:∀ρ' H' μ',Ext ρ H ρ' H'->RepH K ρ' H' μ'->ok μ'=true->J.stop ds.length H'
def tMI(K:yr)(φ:FI):TI:=fun σ H R=>∃ρ δ μ ds ok μ',At K ρ H σ δ μ/\φ δ μ=some (ds,ok,μ')/\∀ρ' H' J,Ext ρ H ρ' H'->RepH K ρ' H' μ'->ItIs K J ρ' H' ds ok->R J H'
def MI(X:Cx)(tg iter:Expr)(φ:FI):Prop:=PI X tg iter (tMI X.K φ)
def zUr{tg it:Expr}{t:TI}{φ:FI}(h:PI X tg it t)(w:∀ρ δ μ σ H ds ok μ' R,At X.K ρ H σ δ μ->φ δ μ=some (ds,ok,μ')->(∀ρ' H' J,Ext ρ H ρ' H'->RepH X.K ρ' H' μ'->ItIs X.K J ρ' H' ds ok->R J H')->t σ H R):MI X tg it φ :=
 by intro pins s σ H R I hh;obtain⟨ρ,δ,μ,ds,ok,μ',A,e,k⟩:=hh;exact h pins s σ H R I (w ρ δ μ σ H ds ok μ' R A e k)
@[simp] def yes:Mem->Bool:=fun _=>true
@[simp] def zBg(φ:FA):FI:=fun δ μ=>(φ δ μ).bind fun p=>match p.1 with
 |[.int j]=>bif decide (-(2^62)<=j/\j<2^62) then some ((yA j.toNat).map fun(k:Nat) => .int k,yes,p.2) else none
 |_=>none
def z9i{tg:Expr}{p:xi}{φ:FA}(hm:X.mg "range" = none)(ha:MAn X [a] φ)(hg:Gl X "range":=by rfl)(hs:yg [a] X.env=[(false,yY a X.env)]:=by rfl):MI X tg (.Call (.Name "range" p) [a] [] pos) (zBg φ) :=
 zUr (zos hg hm ha.ma hs) fun ρ δ μ σ H ds ok μ' R A e k=>by
  obtain⟨⟨x,μ1⟩,e1,e⟩:=zi e;refine⟨ρ,δ,μ,x,μ1,A,e1,fun ρ1 H1 v1 x1 R1 r1=>?_⟩;dsimp only at e
  split at e
  ·rename_i j
   obtain⟨h1,e⟩:=zX e;have h2:=of_decide_eq_true h1;cases e;obtain⟨w,r,rfl,q1,q2⟩:=r1.cons_inv;refine⟨j,by rw[q1.int_inv,q2.nil_inv],h2.1,h2.2,k ρ1 H1 _ x1 R1 ⟨fun ρ' H' μ' i _ _ _ h=>by rw[length_map,length_range]at h;exact h,fun ρ' H' μ' i x H'' d _ RR _ e ⟨y1,y2⟩=>⟨y1▸Ext.refl,y1▸RR,?_⟩,fun ρ' H' μ' _ _ _=>by show j.toNat<=_;simp⟩⟩;rw[yn]at e
   cases e3:(yA j.toNat)[i]? with
   |none=>rw[e3]at e;cases e
   |some m=>
    rw[e3]at e
    have hmi:m=i:=by
     obtain⟨w1,w2⟩:=List.getElem?_eq_some_iff.mp e3;simpa using w2.symm
    subst hmi;have e':D.int (m:Nat)=d:=Ye e;subst e';rw[y2,show(0:Int)+(m:Nat)=(m:Int) by omega];exact .int
  ·cases e
def zev{K:yr}{ρ:List Addr}{H:Hp}{a:Addr}{vs:List V}{ds:List D}(h:H a=some (.tup vs))(r:RepVs K ρ H ds vs):ItIs K (Itt K a) ρ H ds yes:=by
 refine⟨fun ρ' H' μ' i x R _ hi=>?_,fun ρ' H' μ' i x H'' d x' R _ e ⟨y1,y2⟩=>⟨y1▸Ext.refl,y1▸R,y1▸?_⟩,fun ρ' H' μ' x R _=>⟨vs,SqT.of (x.tup _ _ h),by rw[r.length];exact yh _⟩⟩
 ·have hi':i<vs.length:=by rw[<-r.length];exact hi
  exact⟨vs,vs[i],SqT.of (x.tup _ _ h),by simp[hi']⟩
 ·have q:=y2 vs (SqT.of (x'.tup _ _ h));obtain⟨w,e1,rr⟩:=(r.ext x').get e;rw[q]at e1;cases e1;exact rr
@[simp] def ziv(φ:FE):FI:=fun δ μ=>(φ δ μ).bind fun p=>match p.1 with
 |.tup ds=>some (ds,yes,p.2)
 |_=>none
def zyy{tg:Expr}(h:ME X a φ):MI X tg a (ziv φ) :=
 zUr (zux h) fun ρ δ μ σ H ds ok μ' R A e k=>by
  obtain⟨⟨x,μ1⟩,e1,e⟩:=zi e;refine⟨ρ,δ,μ,x,μ1,A,e1,fun ρ1 H1 v1 x1 R1 r1=>?_⟩;dsimp only at e
  split at e
  ·cases e;obtain⟨a,vs,rfl,e2,q2⟩:=r1.tup_inv;exact⟨a,rfl,⟨vs,SqT.of e2⟩,k ρ1 H1 _ x1 R1 (zev e2 q2)⟩
  ·cases e
def zOn(n:Nat)(ds:List D):Mem->Bool:=fun μ=>@decide (μ[n]?=some (.lst ds)) (Classical.propDecidable _)
def stays_iff{n:Nat}{ds:List D}{μ:Mem}:zOn n ds μ=true↔μ[n]?=some (.lst ds):=by
 unfold zOn;exact @decide_eq_true_iff _ (Classical.propDecidable _)
def z9s(φ:FE):FI:=fun δ μ=>(φ δ μ).bind fun p=>match p.1 with
 |.fz ds=>some (ds,yes,p.2)
 |.loc n=>match p.2[n]? with
  |some (.lst ds)=>some (ds,zOn n ds,p.2)
  |_=>none
 |_=>none
def zup{K:yr}{ρ:List Addr}{H:Hp}{a:Addr}{ds:List D}{ok:Mem->Bool}(h:∀ρ' H' μ',Ext ρ H ρ' H'->RepH K ρ' H' μ'->ok μ'=true->∃vs,SqL K H' a vs/\RepVs K ρ' H' ds vs):ItIs K (Itl K a) ρ H ds ok:=by
 refine⟨fun ρ' H' μ' i x R o hi=>?_,fun ρ' H' μ' i x H'' d x' R o e ⟨y1,y2⟩=>⟨y1▸Ext.refl,y1▸R,y1▸?_⟩,fun ρ' H' μ' x R o=>?_⟩
 ·obtain⟨vs,s,r⟩:=h ρ' H' μ' x R o;have hi':i<vs.length:=by rw[<-r.length];exact hi
  exact⟨vs,vs[i],s,by simp[hi']⟩
 ·obtain⟨vs,s,r⟩:=h ρ' H' μ' x' R o;have q:=y2 vs s;obtain⟨w,e1,rr⟩:=r.get e;rw[q]at e1;cases e1;exact rr
 ·obtain⟨vs,s,r⟩:=h ρ' H' μ' x R o;exact⟨vs,s,by rw[r.length];exact yh _⟩
def zhs{tg:Expr}(h:ME X a φ):MI X tg a (z9s φ) :=
 zUr (zxw h) fun ρ δ μ σ H ds ok μ' R A e k=>by
  obtain⟨⟨x,μ1⟩,e1,e⟩:=zi e;refine⟨ρ,δ,μ,x,μ1,A,e1,fun ρ1 H1 v1 x1 R1 r1=>?_⟩;dsimp only at e
  split at e
  ·cases e;obtain⟨a,vs,rfl,e2,q2⟩:=r1.fz_inv;exact⟨a,rfl,⟨vs,e2.sq⟩,k ρ1 H1 _ x1 R1 (zup fun ρ' H' μ' x _ _=>⟨vs,(x.fz e2).sq,q2.ext x⟩)⟩
  ·split at e
   ·rename_i hm
    cases e;obtain⟨a,rfl,e2⟩:=r1.loc_inv;obtain⟨vs,e3,q3⟩:=R1.at_ _ _ _ e2 hm;refine⟨a,rfl,⟨vs,SqL.of e3⟩,k ρ1 H1 _ x1 R1 (zup fun ρ' H' μ'' x R' o=>?_)⟩;obtain⟨vs',e4,q4⟩:=R'.at_ _ _ _ (x.get e2) (stays_iff.mp o);exact⟨vs',SqL.of e4,q4⟩
   ·cases e
  ·cases e
def zai(g:FG)(body:FS)(ok:Mem->Bool):List D->FS
 |[],δ,μ=>bif ok μ then some (.next δ μ) else none
 |x::xs,δ,μ=>bif ok μ then(g x δ μ).bind fun p=>match body p.1 p.2 with
  |some (.next δ' μ')=>zai g body ok xs δ' μ'
  |some (.cont δ' μ')=>zai g body ok xs δ' μ'
  |some (.brk δ' μ')=>some (.next δ' μ')
  |some (.ret d μ')=>some (.ret d μ')
  |some (.exc C fs μ')=>some (.exc C fs μ')
  |none=>none
  else none
@[simp] def z8l(i:FI)(g:FG)(body:FS):FS:=fun δ μ=>(i δ μ).bind fun p=>zai g body p.2.1 p.1 δ p.2.2
def zGe{tg iter:Expr}{body:List Stmt}{i:FI}{g:FG}{p:FS}(hi:MI X tg iter i)(hg:MG X tg g)(hb:MSs X body p)(hx:PassesOwn (yp X.prog X.w) X.A X.env X.xe:=by first | exact PassesOwn.never | exact PassesOwn.leaving)(hc:X.calm=true:=by rfl)
 (hs:∀x,YN iter X.env x=pure x:=by intro _;rfl):MS X (.For tg iter body [] pos) (z8l i g p) :=
 zTj (zqy hx hc hi hg hb hs) fun ρ δ μ σ H o E A e k=>by
  obtain⟨⟨ds,ok,μ1⟩,e1,e⟩:=zi e;refine⟨ρ,δ,μ,ds,ok,μ1,A,e1,fun ρ1 H1 J x1 R1 II=>?_⟩;refine⟨fun i m σ' H'=>∃ρ' δ' μ',Ext ρ1 H1 ρ' H'/\At X.K ρ' H' σ' δ' μ'/\i<=ds.length/\m=ds.length-i/\zai g p ok (ds.drop i) δ' μ'=some o,⟨_,ρ1,δ,μ1,Ext.refl,A.ext x1 R1,Yq _,rfl,e⟩,?_⟩;rintro i m σ' H' ⟨ρ',δ',μ',x',A',hi,rfl,ef⟩
  by_cases hlt:i<ds.length
  ·right
   have hd:ds.drop i=ds[i]::ds.drop (i+1):=drop_eq_getElem_cons hlt;rw[hd]at ef;unfold zai at ef;obtain⟨hok,ef⟩:=zX ef;obtain⟨⟨δ2,μ2⟩,e2,ef⟩:=zi ef;refine⟨II.go ρ' H' μ' i x' A'.hp hok hlt,fun σ3 H3=>∃ρ3 δ3 μ3,Ext ρ1 H1 ρ3 H3/\At X.K ρ3 H3 σ3 δ3 μ3/\zai g p ok (ds.drop (i+1)) δ3 μ3=some o,fun σ3 H3 ⟨ρ3,δ3,μ3,x3,A3,e3⟩=>⟨ds.length-(i+1),by omega,ρ3,δ3,μ3,x3,A3,hlt,rfl,e3⟩,fun x H'' y=>?_⟩;obtain⟨xe,Re,rx⟩:=II.yld ρ' H' μ' i x H'' ds[i] x' A'.hp hok (by simp[hlt]) y;have x':=x'.trans xe;refine⟨ρ',δ',μ',ds[i],δ2,μ2,A'.ext xe Re,rx,e2,fun ρ4 σ4 H4 x4 A4=>?_⟩
   cases eb:p δ2 μ2 with
   |none=>rw[eb]at ef;cases ef
   |some ob=>
    rw[eb]at ef;refine⟨ρ4,δ2,μ2,ob,A4,eb,?_⟩;have x5:=x'.trans x4
    cases ob with
    |next δ6 μ6=>exact fun ρ6 σ6 H6 x6 A6=>⟨ρ6,δ6,μ6,x5.trans x6,A6,ef⟩
    |cont δ6 μ6=>exact fun ρ6 σ6 H6 x6 A6=>⟨ρ6,δ6,μ6,x5.trans x6,A6,ef⟩
    |brk δ6 μ6=>cases ef;exact(k.ext x1).ext x5
    |ret d μ6=>cases ef;exact(k.ext x1).ext x5
    |exc C fs μ6=>cases ef;exact(k.ext x1).ext x5
  ·left
   have e0:i=ds.length:=by omega
   subst e0;rw[List.drop_length]at ef;unfold zai at ef;obtain⟨hok,ef⟩:=zX ef;cases ef;exact⟨II.stop ρ' H' μ' x' A'.hp hok,k ρ' σ' H' (x1.trans x') A'⟩
end
def zmt(g:FG)(c:FT)(φ:FE)(ok:Mem->Bool)(δ:Loc):List D->List D->Mem->Option (D×Mem)
 |[],ys,μ=>bif ok μ then some (.loc μ.length,μ++[.lst ys]) else none
 |x::xs,ys,μ=>bif ok μ then(g x δ μ).bind fun p=>(c p.1 p.2).bind fun t=>bif t.1 then(φ p.1 t.2).bind fun q=>zmt g c φ ok δ xs (ys++[q.1]) q.2 else zmt g c φ ok δ xs ys t.2 else none
@[simp] def δC(n:Nat)(fr:List Nat)(δ:Loc):Loc:=yz n none++fr.map fun i=>(δ[i]?).getD none
@[simp] def few(ds:List D):Bool:=decide (ds.length<=1000000)
@[simp] def fLC(n:Nat)(fr:List Nat)(i:FI)(g:FG)(c:FT)(φ:FE):FE:=fun δ μ=>(i δ μ).bind fun p=>bif few p.1 then zmt g c φ p.2.1 (δC n fr δ) p.1 [] p.2.2 else none
def MF(X:Cx)(ifs:List Expr)(c:FT):Prop:=PF X ifs (tMT X.K c)
@[simp] def zgk:FT:=fun _ μ=>some (true,μ)
def zBe{X:Cx}:MF X [] zgk:=by intro pins s σ H Q I hh;obtain⟨ρ,δ,μ,b,μ',A,e,k⟩:=hh;exact zjy pins s σ H Q I (by cases e;exact k ρ H Ext.refl A.hp)
def zCp{X:Cx}{e:Expr}{c:FT}(h:MT X e c):MF X [e] c:=zjx h
def At.δC{K:yr}{ρ:List Addr}{H:Hp}{σ:L2.St}{δ:Loc}{μ:Mem}(A:At K ρ H σ δ μ)(n:Nat)(fr:List Nat):At K ρ H (σC n fr σ) (M.δC n fr δ) μ:=by
 refine⟨fun i d e=>?_,A.hp,by unfold σC M.δC;simp⟩;unfold M.δC at e;unfold σC
 by_cases hi:i<n
 ·rw[yt (by simpa using hi),YI]at e
  split at e<;>cases e
 ·have hi:n<=i:=Nat.le_of_not_lt hi;rw[yL (by simpa using hi),xX,yn]at e;rw[yL (by simpa using hi),xX,yn]
  cases e1:fr[i-n]? with
  |none=>rw[e1]at e;cases e
  |some j=>
   rw[e1]at e;have e2:(δ[j]?).getD none=some d:=Ye e
   have e3:δ[j]?=some (some d):=by
    cases q:δ[j]? with
    |none=>rw[q]at e2;cases e2
    |some z=>rw[q]at e2;exact congrArg some e2
   obtain⟨v,hv,r⟩:=A.st j d e3;exact⟨v,by rw[Option.map_some,hv];rfl,r⟩
def Front(n:Nat)(σ σ':L2.St):Prop:=σ'.length=σ.length/\∀(i:Nat),n<=i->σ'[i]?=σ[i]?
def Front.refl{n:Nat}{σ:L2.St}:Front n σ σ:=⟨rfl,fun _ _=>rfl⟩
def Front.trans{n:Nat}{σ σ1 σ2:L2.St}(a:Front n σ σ1)(b:Front n σ1 σ2):Front n σ σ2:=⟨b.1.trans a.1,fun i h=>(b.2 i h).trans (a.2 i h)⟩
def tGc(K:yr)(n:Nat)(g:FG):TG:=fun v σ H Q=>∃ρ δ μ d δ' μ',At K ρ H σ δ μ/\RepV K ρ H d v/\g d δ μ=some (δ',μ')/\∀ρ' σ' H',Ext ρ H ρ' H'->At K ρ' H' σ' δ' μ'->Front n σ σ'->Q σ' H'
def ztA(K:yr)(n:Nat)(g:FGs):TGs:=fun vs σ H Q=>∃ρ δ μ ds δ' μ',At K ρ H σ δ μ/\RepVs K ρ H ds vs/\g ds δ μ=some (δ',μ')/\∀ρ' σ' H',Ext ρ H ρ' H'->At K ρ' H' σ' δ' μ'->Front n σ σ'->Q σ' H'
def MGc(X:Cx)(n:Nat)(t:Expr)(g:FG):Prop:=PG X t (tGc X.K n g)
def zZy(X:Cx)(n:Nat)(t:List Expr)(g:FGs):Prop:=PGs X t (ztA X.K n g)
section
variable {X:Cx}{e:Expr}{es:List Expr}{pos:xi}{n:Nat}
def zjb{x:Str}(i:Nat)(hin:i<n:=by decide)(hN:X.N.Nodup:=by first | assumption | decide)(hi:X.N[i]?=some x:=by rfl)(hx:L2.Loc X.env.scope x:=by first | exact Or.inl rfl | exact Or.inr rfl)(hf:X.fn x=true\/X.env.scope.names.lookup x=some .local:=by first | exact .inl rfl | exact .inr rfl | assumption):MGc X n (.Name x pos) (gN i) :=
 by intro pins s σ H v u Q I r hh;obtain⟨ρ,δ,μ,d,δ',μ',A,q,e,k⟩:=hh;exact zQs hN hi hx hf pins s σ H v u Q I r (by
  cases e;exact k ρ _ H Ext.refl (A.set q i) ⟨by simp,fun j hj=>yR (by omega)⟩)
def zjm:zZy X n [] zSg:=by intro pins s σ H v u Q I r hh;obtain⟨ρ,δ,μ,d,δ',μ',A,q,e,k⟩:=hh;exact zsr pins s σ H v u Q I r (by
 unfold zSg at e
 split at e
 ·cases e;exact⟨q.nil_inv,k ρ σ H Ext.refl A Front.refl⟩
 ·cases e)
def zJe{g:FG}{gs:FGs}(h1:MGc X n e g)(h2:zZy X n es gs)(hs:(Ym (e::es) X.env).map (·.2)=assign e X.env::(Ym es X.env).map (·.2):=by rfl):zZy X n (e::es) (zQb g gs) :=
 by intro pins s σ H vs us Q I r hh;obtain⟨ρ,δ,μ,ds,δ',μ',A,q,e,k⟩:=hh;exact zDp h1 h2 hs pins s σ H vs us Q I r (by
  unfold zQb at e
  split at e
  ·obtain⟨⟨δ1,μ1⟩,e1,e⟩:=zi e;obtain⟨v,vr,rfl,q1,q2⟩:=q.cons_inv;refine⟨v,vr,rfl,ρ,δ,μ,_,δ1,μ1,A,q1,e1,fun ρ1 σ1 H1 x1 A1 f1=>?_⟩;exact⟨ρ1,δ1,μ1,_,δ',μ',A1,q2.ext x1,e,fun ρ2 σ2 H2 x2 A2 f2=>k ρ2 σ2 H2 (x1.trans x2) A2 (f1.trans f2)⟩
  ·cases e)
def zQo{k m:Nat}{gs:FGs}(h:zZy X n es gs)(hc:X.calm=true:=by rfl)(hn:(Ym es X.env).length=m:=by rfl)(hst:(Ym es X.env).findIdx? (·.1)=none:=by rfl):MGc X n (.Tuple es k pos) (gT m gs) :=
 by intro pins s σ H v u Q I r hh;obtain⟨ρ,δ,μ,d,δ',μ',A,q,e,k⟩:=hh;exact z3u hc h hn hst pins s σ H v u Q I r (by
  unfold gT at e
  split at e
  ·obtain⟨h1,e⟩:=zX e;obtain⟨a,vs,rfl,e2,q2⟩:=q.tup_inv;exact⟨a,vs,rfl,SqT.of e2,by rw[<-q2.length];exact beq_iff_eq.mp h1,ρ,δ,μ,_,δ',μ',A,q2,e,k⟩
  ·cases e)
end
def zVs{n:Nat}{fr:List Nat}{σ σ':L2.St}(f:Front n (σC n fr σ) σ'):zPw (σC n fr σ) σ':=by
 refine⟨f.1,fun i v e=>?_⟩;obtain⟨hi,_⟩:=σC_get e;rw[f.2 i hi];exact e
def million:1000000<yB:=by rw[Yp];decide
def zWz{K:yr}{n:Nat}{fr:List Nat}{i:FI}{g:FG}{c:FT}{φ:FE}{ρ:List Addr}{δ:Loc}{μ:Mem}{σ:L2.St}{H:Hp}{d:D}{μ':Mem}{Q:VK}(A:At K ρ H σ δ μ)(e:fLC n fr i g c φ δ μ=some (d,μ'))
 (k:∀ρ' H' v,Ext ρ H ρ' H'->RepH K ρ' H' μ'->RepV K ρ' H' d v->Q v H'):tLC n fr (tMI K i) (tGc K n g) (tMT K c) (tM K φ) σ H Q:=by
 obtain⟨⟨ds,ok,μ1⟩,e1,e⟩:=zi e;obtain⟨hfew,e⟩:=zX e;have hfew:ds.length<=1000000:=of_decide_eq_true hfew;refine⟨ρ,δ,μ,ds,ok,μ1,A,e1,fun ρ1 H1 J x1 R1 II=>?_⟩;refine⟨fun i m ys H'=>∃ρ' es μ2,Ext ρ1 H1 ρ' H'/\RepH K ρ' H' μ2/\RepVs K ρ' H' es ys/\es.length<=i/\i<=ds.length/\m=ds.length-i/\zmt g c φ ok (δC n fr δ) (ds.drop i) es μ2=some (d,μ'),⟨_,ρ1,[],μ1,Ext.refl,R1, .nil,Yq _,Yq _,rfl,e⟩,?_⟩;rintro i m ys H' ⟨ρ',es,μ2,x',R',re,hel,hi,rfl,ef⟩
 by_cases hlt:i<ds.length
 ·right
  have hd:ds.drop i=ds[i]::ds.drop (i+1):=drop_eq_getElem_cons hlt;rw[hd]at ef;unfold zmt at ef;obtain⟨hok,ef⟩:=zX ef;obtain⟨⟨δ2,μ3⟩,e2,ef⟩:=zi ef;obtain⟨⟨b,μ4⟩,e3,ef⟩:=zi ef;refine⟨II.go ρ' H' μ2 i x' R' hok hlt,?_,fun x H'' y=>?_⟩
  ·rw[<-re.length];exact Nat.lt_of_le_of_lt (yy hel (yy hi hfew)) million
  ·obtain⟨xe,Re,rx⟩:=II.yld ρ' H' μ2 i x H'' ds[i] x' R' hok (by simp[hlt]) y;have x':=x'.trans xe;have re:=re.ext xe;have A':At K ρ' H'' (σC n fr σ) (δC n fr δ) μ2:=((A.ext x1 R1).ext x' Re).δC n fr;refine⟨ρ',_,μ2,ds[i],δ2,μ3,A',rx,e2,fun ρ4 σ4 H4 x4 A4 f4=>⟨zVs f4,?_⟩⟩;refine⟨ρ4,δ2,μ3,b,μ4,A4,e3,fun ρ5 H5 x5 R5=>?_⟩
   cases b with
   |false=>exact iteF ⟨ds.length-(i+1),by omega,ρ5,es,μ4,x'.trans (x4.trans x5),R5,re.ext (x4.trans x5),by omega,hlt,rfl,ef⟩
   |true=>
    obtain⟨⟨y,μ6⟩,e4,ef⟩:=zi ef;refine iteT ⟨ρ5,δ2,μ4,y,μ6,A4.ext x5 R5,e4,fun ρ6 H6 v x6 R6 r6=>?_⟩;exact⟨ds.length-(i+1),by omega,ρ6,es++[y],μ6,x'.trans (x4.trans (x5.trans x6)),R6,(re.ext (x4.trans (x5.trans x6))).append (.cons r6 .nil),by simp;exact hel,hlt,rfl,ef⟩
 ·left
  have e0:i=ds.length:=by omega
  subst e0;rw[List.drop_length]at ef;unfold zmt at ef;obtain⟨hok,ef⟩:=zX ef;cases ef;refine⟨II.stop ρ' H' μ2 x' R' hok,fun p hp=>?_⟩;exact k _ _ _ (x1.trans (x'.trans (Ext.push hp))) (R'.push hp ⟨ys,zF,re.ext (Ext.push hp)⟩) (.loc (zDb R'))
def z8y{X:Cx}{scope:Xa}{elt tg iter:Expr}{ifs:List Expr}{pos:xi}{i:FI}{g:FG}{c:FT}{φ:FE}(own:List Str)(fr:List Nat)(hi:MI X tg iter i)
 (hg:∀cl C s₀ H₀ fp,MGc (cxC X own fr scope cl C s₀ H₀ fp) own.length tg g) (hq:∀cl C s₀ H₀ fp,MF (cxC X own fr scope cl C s₀ H₀ fp) ifs c) (he:∀cl C s₀ H₀ fp,ME (cxC X own fr scope cl C s₀ H₀ fp) elt φ)
 (hc:X.calm=true:=by rfl) (hk:scope.kind = .function:=by rfl) (hnm:∀y∈scope.names,scope.names.lookup y.1=some y.2:=by decide)
 (hfree:∀x∈scope.names,x.2 = .free->(X.env.kindOf x.1=some .cell\/X.env.kindOf x.1=some .free):=by decide) (hfr:∀i∈fr,∃x,X.N[i]?=some x/\scope.names.lookup x=some .free)
 (hs:∀x,YN iter X.env x=pure x:=by intro _;rfl):ME X (.ListComp elt [⟨tg,iter,ifs,0⟩] scope pos) (fLC own.length fr i g c φ) :=
 zhd (zNz (wi:=tMI X.K i) (g:=tGc X.K own.length g) (tc:=tMT X.K c) (te:=tM X.K φ) own fr hc hi (fun cl C s₀ H₀ fp=>hg cl C s₀ H₀ fp) (fun cl C s₀ H₀ fp=>hq cl C s₀ H₀ fp) (fun cl C s₀ H₀ fp=>he cl C s₀ H₀ fp) hk hnm hfree hfr hs) fun ρ δ μ σ H d μ' Q A e k=>zWz A e k
def toP(μ:Mem):Nat->D->Option xn
 |0,_=>none
 |n+1,d=>match d with
  |.non=>some .none
  |.bl b=>some (.bool b)
  |.int i=>some (.int i)
  |.str x=>bif xB x then some (.str x) else none
  |.ty _=>none
  |.own _=>none
  |.tup ds=>(ds.mapM (toP μ n)).bind fun ps=>some (.tuple ps)
  |.fz ds=>(ds.mapM (toP μ n)).bind fun ps=>some (.list ps)
  |.loc k=>match μ[k]? with
   |some (.lst ds)=>(ds.mapM (toP μ n)).bind fun ps=>some (.list ps)
   |_=>none
def zvi{f:D->Option xn}{ps:List xn}(h:([]:List D).mapM f=some ps):ps=[]:=by
 simp at h;exact h
def zSh{f:D->Option xn}{d:D}{ds:List D}{ps:List xn}(h:(d::ds).mapM f=some ps):∃p r,f d=some p/\ds.mapM f=some r/\ps=p::r:=by
 rw[mapM_cons]at h;obtain⟨p,e1,h⟩:=zi h;obtain⟨r,e2,h⟩:=zi h;cases h;exact⟨p,r,e1,e2,rfl⟩
def zgl{f:D->Option xn}{m:Nat}(hf:∀d p,f d=some p->p.canLay0=true/\p.depth<=m):∀{ds:List D} {ps:List xn},ds.mapM f=some ps->Xe ps=true/\PyData.depthAll ps<=m
 |[],ps,h=>by rw[zvi h];exact⟨rfl,Yq _⟩
 |d::ds,ps,h=>by
  obtain⟨p,r,e1,e2,rfl⟩:=zSh h;obtain⟨h1,h2⟩:=hf d p e1;obtain⟨h3,h4⟩:=zgl hf e2;refine⟨?_,?_⟩
  ·simp only[Xe,h1,h3,Bool.and_true]
  ·simp only[PyData.depthAll];omega
def zEh{μ:Mem}:∀(n:Nat)(d:D)(p:xn),toP μ n d=some p->p.canLay0=true/\p.depth<=n
 |0,d,p,h=>by cases h
 |n+1,d,p,h=>by
  have seq:∀{ds:List D} {c:List xn->xn},(∀ps,(c ps).canLay0=Xe ps)->(∀ps,(c ps).depth=PyData.depthAll ps+1)->((ds.mapM (toP μ n)).bind fun ps=>some (c ps))=some p->p.canLay0=true/\p.depth<=n+1:=fun{ds c} h1 h2 h=>by
   obtain⟨ps,e1,e2⟩:=zi h;cases e2;obtain⟨q1,q2⟩:=zgl (zEh n) e1;exact⟨by rw[h1];exact q1,by rw[h2];omega⟩
  unfold toP at h
  cases d with
  |non=>cases h;exact⟨rfl,Yq _⟩
  |bl b=>cases h;exact⟨rfl,Yq _⟩
  |int b=>cases h;exact⟨rfl,Yq _⟩
  |str x=>
   obtain⟨h1,h2⟩:=zX h;cases h2;exact⟨h1,Yq _⟩
  |ty _=>cases h
  |own _=>cases h
  |tup ds=>exact seq (fun _=>rfl) (fun _=>rfl) h
  |fz ds=>exact seq (fun _=>rfl) (fun _=>rfl) h
  |loc k=>
   dsimp only at h
   split at h
   ·exact seq (fun _=>rfl) (fun _=>rfl) h
   ·cases h
section
variable {X:Cx}{pins:List (Addr×YL)}{σ:L2.St}{H:Hp}{s:yc}{ρ:List Addr}{μ:Mem}
def zHh{f:D->Option xn}(hf:∀d p v u,f d=some p->RepV X.K ρ H d v->RelV v u->∃as,Reads s.heap u p as):∀{ds:List D} {ps:List xn} {vs:List V} {us:List Value},ds.mapM f=some ps->RepVs X.K ρ H ds vs->Vals vs us->∃as,ReadsAll s.heap us ps as
 |[],ps,vs,us,h,r,q=>by
  rw[zvi h];rw[r.nil_inv]at q;cases q;exact⟨[], .nil⟩
 |d::ds,ps,vs,us,h,r,q=>by
  obtain⟨p,pr,e1,e2,rfl⟩:=zSh h;obtain⟨v,vr,rfl,r1,r2⟩:=r.cons_inv
  cases q with
  |cons q1 q2=>
   obtain⟨a1,h1⟩:=hf _ _ _ _ e1 r1 q1;obtain⟨a2,h2⟩:=zHh hf e2 r2 q2;exact⟨_, .cons h1 h2⟩
def zhf(I:Inv X pins σ H s)(R:RepH X.K ρ H μ):∀(n:Nat)(d:D)(p:xn)(v:V)(u:Value),toP μ n d=some p->RepV X.K ρ H d v->RelV v u->∃as,Reads s.heap u p as
 |0,d,p,v,u,h,_,_=>by cases h
 |n+1,d,p,v,u,h,r,q=>by
  unfold toP at h
  cases d with
  |non=>cases h;rw[r.non_inv]at q;cases q;exact⟨_, .none⟩
  |bl b=>cases h;rw[r.bl_inv]at q;cases q;exact⟨_, .bool b⟩
  |int b=>cases h;rw[r.int_inv]at q;obtain⟨t,rfl⟩:=q;exact⟨_, .int b t⟩
  |str x=>
   obtain⟨h1,h2⟩:=zX h;cases h2;rw[r.str_inv]at q;obtain⟨t,rfl⟩:=q;exact⟨_, .str x t⟩
  |ty _=>cases h
  |own _=>cases h
  |tup ds=>
   obtain⟨ps,e1,e2⟩:=zi h;cases e2;obtain⟨a,vs,rfl,e3,rr⟩:=r.tup_inv;cases q;obtain⟨its,rv,⟨o,ho,hc,k,hd⟩,_⟩:=I.tuple (SqT.of e3);obtain⟨as,ha⟩:=zHh (zhf I R n) e1 rr rv;exact⟨_,reads_tuple_at ho hc hd (by simpa using ha)⟩
  |fz ds=>
   obtain⟨ps,e1,e2⟩:=zi h;cases e2;obtain⟨a,vs,rfl,e3,rr⟩:=r.fz_inv;cases q;obtain⟨its,rv,⟨o,k,ho,hc,_,hd⟩,_⟩:=I.list e3.sq;obtain⟨as,ha⟩:=zHh (zhf I R n) e1 rr rv;exact⟨_,reads_list_at ho hc hd (by simpa using ha)⟩
  |loc k=>
   dsimp only at h
   split at h
   ·rename_i hm
    obtain⟨ps,e1,e2⟩:=zi h;cases e2;obtain⟨a,rfl,e2⟩:=r.loc_inv;obtain⟨vs,e3,rr⟩:=R.at_ _ _ _ e2 hm;cases q;obtain⟨its,rv,⟨o,k,ho,hc,_,hd⟩,_⟩:=I.list (SqL.of (K:=X.K) e3);obtain⟨as,ha⟩:=zHh (zhf I R n) e1 rr rv;exact⟨_,reads_list_at ho hc hd (by simpa using ha)⟩
   ·cases h
end
def gEq:G2:=fun x y μ=>(toP μ 8 x).bind fun p=>(toP μ 8 y).bind fun q=>some (.bl (yI p q),μ)
def gNe:G2:=fun x y μ=>(toP μ 8 x).bind fun p=>(toP μ 8 y).bind fun q=>some (.bl (!PyData.eqv p q),μ)
def zVh{μ:Mem}{d:D}{p:xn}(h:toP μ 8 d=some p):SeqAt.shaped p=true:=by
 obtain⟨h1,h2⟩:=zEh 8 d p h;unfold SeqAt.shaped;rw[h1,decide_eq_true (by omega)];rfl
section
variable {X:Cx}{a b c e:Expr}{es:List Expr}{φ ψ χ:FE}{pos:xi}
def zPb(hu:X.A.units+64<cLine):OpM X (Yy .Eq) gEq:=by
 refine OpM.of fun pins s σ H x y v u Q I rx ry ρ dx dy μ d μ' r1 r2 R e k=>?_;obtain⟨p,e1,e⟩:=zi e;obtain⟨q,e2,e⟩:=zi e;cases e;obtain⟨as,h1⟩:=zhf I R 8 dx p x v e1 r1 rx;obtain⟨bs,h2⟩:=zhf I R 8 dy q y u e2 r2 ry;exact eq_dataH h1 h2 (zVh e1) (zVh e2) hu ⟨.bl _,H,I,rfl,k ρ H _ Ext.refl R .bl⟩
def zYr(hu:X.A.units+64<cLine):OpM X (Yy .NotEq) gNe:=by
 refine OpM.of fun pins s σ H x y v u Q I rx ry ρ dx dy μ d μ' r1 r2 R e k=>?_;obtain⟨p,e1,e⟩:=zi e;obtain⟨q,e2,e⟩:=zi e;cases e;obtain⟨as,h1⟩:=zhf I R 8 dx p x v e1 r1 rx;obtain⟨bs,h2⟩:=zhf I R 8 dy q y u e2 r2 ry;exact ne_dataH h1 h2 (zVh e1) (zVh e2) hu ⟨.bl _,H,I,rfl,k ρ H _ Ext.refl R .bl⟩
@[simp] def gIs:G2:=fun x y μ=>match x,y with
 |.bl i, .bl j=>some (.bl (i==j),μ)
 |.non, .non=>some (.bl true,μ)
 |.bl _, .non=>some (.bl false,μ)
 |.int _, .non=>some (.bl false,μ)
 |.str _, .non=>some (.bl false,μ)
 |.tup _, .non=>some (.bl false,μ)
 |.loc _, .non=>some (.bl false,μ)
 |_,_=>none
@[simp] def zqg:G2:=fun x y μ=>match x,y with
 |.bl i, .bl j=>some (.bl (i != j),μ)
 |.non, .non=>some (.bl false,μ)
 |.bl _, .non=>some (.bl true,μ)
 |.int _, .non=>some (.bl true,μ)
 |.str _, .non=>some (.bl true,μ)
 |.tup _, .non=>some (.bl true,μ)
 |.loc _, .non=>some (.bl true,μ)
 |_,_=>none
def zMf:OpM X (Yy .IsNot) zqg:=by
 refine OpM.of fun pins s σ H x y v u Q I rx ry ρ dx dy μ d μ' r1 r2 R e k=>?_;unfold zqg at e
 split at e<;>cases e
 ·rw[r1.bl_inv]at rx;rw[r2.bl_inv]at ry;cases rx;cases ry;exact isnot_bool ⟨.bl _,H,I,rfl,k ρ H _ Ext.refl R .bl⟩
 ·exact z5h pins s σ H x y v u Q I rx ry ⟨r2.non_inv,by rw[r1.non_inv];exact k ρ H _ Ext.refl R .bl⟩
 ·exact z5h pins s σ H x y v u Q I rx ry ⟨r2.non_inv,by rw[r1.bl_inv];exact k ρ H _ Ext.refl R .bl⟩
 ·exact z5h pins s σ H x y v u Q I rx ry ⟨r2.non_inv,by rw[r1.int_inv];exact k ρ H _ Ext.refl R .bl⟩
 ·exact z5h pins s σ H x y v u Q I rx ry ⟨r2.non_inv,by rw[r1.str_inv];exact k ρ H _ Ext.refl R .bl⟩
 ·exact z5h pins s σ H x y v u Q I rx ry ⟨r2.non_inv,by obtain⟨a,vs,rfl,_⟩:=r1.tup_inv;exact k ρ H _ Ext.refl R .bl⟩
 ·exact z5h pins s σ H x y v u Q I rx ry ⟨r2.non_inv,by obtain⟨a,rfl,_⟩:=r1.loc_inv;exact k ρ H _ Ext.refl R .bl⟩
inductive Ty where
 |non | bl | int | str | tup | lst | dict
 deriving DecidableEq
@[simp] def z4w(μ:Mem):D->Option Ty
 |.non=>some .non
 |.bl _=>some .bl
 |.int _=>some .int
 |.str _=>some .str
 |.tup _=>some .tup
 |.loc n=>match μ[n]? with
  |some (.lst _)=>some .lst
  |some (.dct _)=>some .dict
  |_=>none
 |_=>none
@[simp] def Ty.name:Ty->String
 |.non=>"NoneType" | .bl=>"bool" | .int=>"int" | .str=>"str" | .tup=>"tuple" | .lst=>"list" | .dict=>"dict"
@[simp] def z2w:Ty->Ty->Bool
 |.bl, .int=>true
 |.non, .non=>true
 |.bl, .bl=>true
 |.int, .int=>true
 |.str, .str=>true
 |.tup, .tup=>true
 |.lst, .lst=>true
 |.dict, .dict=>true
 |_,_=>false
@[simp] def zOs(c:Ty):GL:=fun ds μ=>match ds with
 |[x, .ty n]=>bif n==c.name then(z4w μ x).bind fun t=>some (.bl (z2w t c),μ) else none
 |_=>none
def zEv{K:yr}{ρ:List Addr}{H:Hp}{μ:Mem}{x:D}{v:V}{t:Ty}(R:RepH K ρ H μ)(r:RepV K ρ H x v)(e:z4w μ x=some t):TyOf K H v (.type t.name):=by
 cases x with
 |non=>cases e;rw[r.non_inv];exact .non
 |bl b=>cases e;rw[r.bl_inv];exact .bl b
 |int b=>cases e;rw[r.int_inv];exact .int b
 |str b=>cases e;rw[r.str_inv];exact .str b
 |tup ds=>cases e;obtain⟨a,vs,rfl,e2,_⟩:=r.tup_inv;exact .tup e2
 |loc n=>
  unfold z4w at e;dsimp only at e
  split at e
  ·rename_i hm;cases e;obtain⟨a,rfl,e2⟩:=r.loc_inv;obtain⟨vs,e3,_⟩:=R.at_ _ _ _ e2 hm;exact .lst e3
  ·rename_i hm;cases e;obtain⟨a,rfl,e2⟩:=r.loc_inv;obtain⟨vs,e3,_⟩:=R.at_ _ _ _ e2 hm;exact .dK e3
  ·cases e
 |_=>cases e
def z6x(K:yr)(t c:Ty):W.kitOne K (.type t.name) (.type c.name)=some (z2w t c):=by
 cases t<;>cases c<;>first | rfl | decide +kernel
def zFj(c:Ty):CallM X (.builtin "isinstance") (zOs c):=by
 refine CallM.of fun pins s σ H xs us Q I r ρ ds μ d μ' r1 R e k=>?_;unfold zOs at e
 split at e
 ·obtain⟨hn,e⟩:=zX e;obtain⟨t,e1,e⟩:=zi e;cases e;obtain⟨v,rr,rfl,q1,q2⟩:=r1.cons_inv;obtain⟨v2,rr2,rfl,q3,q4⟩:=q2.cons_inv;rw[q4.nil_inv,q3.ty_inv,beq_iff_eq.mp hn]at r
  cases r with
  |cons ra rb=>
   cases rb with
   |cons rc rd=>
    cases rd;cases rc;exact zrr I ra (zEv R q1 e1) (z6x X.K t c) fun tk=>⟨.bl _,H,I.tok tk,rfl,k ρ H _ Ext.refl R .bl⟩
 ·cases e
def zut{scope:Xa}{elt tg iter:Expr}{ifs:List Expr}{spos py:xi}{y:Str}{fi:FI}{g:FG}{ct:FT}(i:Nat)(own:List Str)(fr:List Nat)(hi:MI X tg iter fi)
 (hg:∀cl C s₀ H₀ fp,MGc (cxC X own fr scope cl C s₀ H₀ fp) own.length tg g) (hq:∀cl C s₀ H₀ fp,MF (cxC X own fr scope cl C s₀ H₀ fp) ifs ct) (he:∀cl C s₀ H₀ fp,ME (cxC X own fr scope cl C s₀ H₀ fp) elt φ)
 (hfr:∀i∈fr,∃x,X.N[i]?=some x/\scope.names.lookup x=some .free)
 (hN:X.N.Nodup:=by first | assumption | decide) (hiN:X.N[i]?=some y:=by rfl) (hy:X.env.scope.names.lookup y=some .local:=by rfl)
 (hsw:xS (.ListComp elt [⟨tg,iter,ifs,0⟩] scope pos) (some (.Name y py)) spos.line X.env=pure true:=by rfl)
 (hc:X.calm=true:=by rfl) (hk:scope.kind = .function:=by rfl) (hnm:∀y∈scope.names,scope.names.lookup y.1=some y.2:=by decide)
 (hfree:∀x∈scope.names,x.2 = .free->(X.env.kindOf x.1=some .cell\/X.env.kindOf x.1=some .free):=by decide)
 (hs:∀x,YN iter X.env x=pure x:=by intro _;rfl):MS X (.Assign [.Name y py] (.ListComp elt [⟨tg,iter,ifs,0⟩] scope pos) spos) (zyc i (fLC own.length fr fi g ct φ)) :=
 zTj (zCu (wi:=tMI X.K fi) (g:=tGc X.K own.length g) (tc:=tMT X.K ct) (te:=tM X.K φ) own fr hN hiN hy hc hi hsw (fun cl C s₀ H₀ fp=>hg cl C s₀ H₀ fp) (fun cl C s₀ H₀ fp=>hq cl C s₀ H₀ fp) (fun cl C s₀ H₀ fp=>he cl C s₀ H₀ fp) hk hnm hfree hfr hs) fun ρ δ μ σ H o E A e k=>by
  obtain⟨⟨x,μ1⟩,e1,e⟩:=zi e;cases e;exact zWz A e1 fun ρ' H' v x' R r=>k ρ' _ H' x' ((A.ext x' R).set r i)
end
@[simp] def z0b:Option Out->Option (D×Mem)
 |some (.ret d μ)=>some (d,μ)
 |some (.next _ μ)=>some (.non,μ)
 |_=>none
@[simp] def zR(N:List Str)(ds:List D):Loc:=ds.map some++yz (N.length-ds.length) none
def zEp{K:yr}{ρ:List Addr}{H:Hp}{μ:Mem}{N:List Str}{ds:List D}{vs:List V}(r:RepVs K ρ H ds vs)(R:RepH K ρ H μ):At K ρ H (L2.start N vs) (zR N ds) μ:=by
 refine⟨fun i d e=>?_,R,by unfold L2.start zR;simp[r.length]⟩;unfold zR at e;unfold L2.start
 by_cases hi:i<ds.length
 ·rw[yt (by simpa using hi),yn]at e
  cases e1:ds[i]? with
  |none=>rw[e1]at e;cases e
  |some d'=>
   rw[e1]at e;cases e;obtain⟨v,e2,q⟩:=r.get e1;refine⟨v,?_,q⟩;rw[yt (by simpa[<-r.length] using hi),yn,e2];rfl
 ·rw[yL (by simpa using hi),YI]at e
  split at e<;>cases e
def fnM{P:yv}{w:yE}{K:yr}{mg:Str->Option Value}{base:yT}{x qual:Str}{st:Stmt}{f:Addr}{fd:yf}{N ps:List Str}{k n:Nat}{F:FF}(G:Fun K x qual st f fd)(S:FnScope N ps (zy st))(hn:ps.length=n)
 (hbody:∀(cdv:Value)(A:yH)(outer:List Env)(s:yc)(H:Hp)(E:XK),Room k (A.deeper (envOfC qual (zy st) s.heap.objs.size f cdv)) ->
  ∃p,MSs (zqr CX0 P w K mg base N qual (zy st) f cdv A outer s H E).nox (zGc st) p/\∀ds μ d μ',ds.length=n->F ds μ=some (d,μ')->z0b (p (zR N ds) μ)=some (d,μ')) :
 FnOk P w K mg base CX0 (k+1) f fd ps (spM K n F):=by
 refine G.ok S (fun vs H Q E h=>by rw[hn];exact h.1) (fun cdv A outer s H vs Q E hr h=>?_);obtain⟨p,hp,hF⟩:=hbody cdv A outer s H E hr;refine⟨_,hp,?_⟩;obtain⟨hl,ρ,ds,μ,d,μ',r,R,e,k⟩:=h;have e':=hF ds μ d μ' (by rw[r.length];exact hl) e
 cases eo:p (zR N ds) μ with
 |none=>rw[eo]at e';cases e'
 |some o=>
  rw[eo]at e';refine⟨ρ,zR N ds,μ,o,zEp r R,eo,?_⟩
  cases o with
  |ret d2 μ2=>cases e';exact fun ρ' v H' x' R' r'=>k ρ' H' v x' R' r'
  |next δ2 μ2=>cases e';exact fun ρ' σ' H' x' A'=>k ρ' H' .non x' A'.hp .non
  |brk _ _=>cases e'
  |cont _ _=>cases e'
  |exc _ _ _=>cases e'
def zcv(sc inner:Xa):Bool:=(inner.kind == .function)&&inner.names.all (fun y=>inner.names.lookup y.1==some y.2) &&
 inner.names.all fun x=>x.2 != .free||sc.names.lookup x.1==some .cell||sc.names.lookup x.1==some .free
def zYm{sc inner:Xa}(h:zcv sc inner=true):inner.kind = .function:=by
 unfold zcv at h;simp only[yG,beq_iff_eq]at h;exact h.1.1
def zMr{sc inner:Xa}(h:zcv sc inner=true):∀y∈inner.names,inner.names.lookup y.1=some y.2:=by
 unfold zcv at h;simp only[yG]at h;intro y hy;exact beq_iff_eq.mp (List.all_eq_true.mp h.1.2 y hy)
def zSn{sc inner:Xa}(h:zcv sc inner=true):∀x∈inner.names,x.2 = .free->(sc.names.lookup x.1=some .cell\/sc.names.lookup x.1=some .free):=by
 unfold zcv at h;simp only[yG]at h;intro y hy e;have:=List.all_eq_true.mp h.2 y hy;simpa[e] using this
def zib{N:List Str}(h:decide N.Nodup=true):N.Nodup:=of_decide_eq_true h
def zfd{P:Nat->Prop}:∀i∈([]:List Nat),P i:=fun i h=>nomatch h
def zKb{P:Nat->Prop}{i:Nat}{l:List Nat}(h:P i)(r:∀j∈l,P j):∀j∈i::l,P j:=fun j hj=>by
 rcases List.mem_cons.mp hj with rfl | hj
 ·exact h
 ·exact r j hj
section
variable {X:Cx}{a b c e:Expr}{es:List Expr}{φ ψ χ:FE}{pos:xi}
def mlc{scope:Xa}{elt tg iter:Expr}{ifs:List Expr}{i:FI}{g:FG}{ct:FT}(own:List Str)(fr:List Nat)(hi:MI X tg iter i)
 (hg:∀cl C s₀ H₀ fp,MGc (cxC X own fr scope cl C s₀ H₀ fp) own.length tg g) (hq:∀cl C s₀ H₀ fp,MF (cxC X own fr scope cl C s₀ H₀ fp) ifs ct) (he:∀cl C s₀ H₀ fp,ME (cxC X own fr scope cl C s₀ H₀ fp) elt φ)
 (hfr:∀i∈fr,∃x,X.N[i]?=some x/\scope.names.lookup x=some .free) (hok:zcv X.env.scope scope=true:=by rfl) (hc:X.calm=true:=by rfl) (hs:∀x,YN iter X.env x=pure x:=by intro _;rfl) :
 ME X (.ListComp elt [⟨tg,iter,ifs,0⟩] scope pos) (fLC own.length fr i g ct φ) :=
 z8y own fr hi hg hq he hc (zYm hok) (zMr hok) (zSn hok) hfr hs
def mslc{scope:Xa}{elt tg iter:Expr}{ifs:List Expr}{spos py:xi}{y:Str}{fi:FI}{g:FG}{ct:FT}(i:Nat)(own:List Str)(fr:List Nat)(hi:MI X tg iter fi)
 (hg:∀cl C s₀ H₀ fp,MGc (cxC X own fr scope cl C s₀ H₀ fp) own.length tg g) (hq:∀cl C s₀ H₀ fp,MF (cxC X own fr scope cl C s₀ H₀ fp) ifs ct) (he:∀cl C s₀ H₀ fp,ME (cxC X own fr scope cl C s₀ H₀ fp) elt φ)
 (hfr:∀i∈fr,∃x,X.N[i]?=some x/\scope.names.lookup x=some .free) (hN:X.N.Nodup) (hiN:X.N[i]?=some y:=by rfl) (hy:X.env.scope.names.lookup y=some .local:=by rfl)
 (hsw:xS (.ListComp elt [⟨tg,iter,ifs,0⟩] scope pos) (some (.Name y py)) spos.line X.env=pure true:=by rfl) (hok:zcv X.env.scope scope=true:=by rfl) (hc:X.calm=true:=by rfl) (hs:∀x,YN iter X.env x=pure x:=by intro _;rfl) :
 MS X (.Assign [.Name y py] (.ListComp elt [⟨tg,iter,ifs,0⟩] scope pos) spos) (zyc i (fLC own.length fr fi g ct φ)) :=
 zut i own fr hi hg hq he hfr hN hiN hy hsw hc (zYm hok) (zMr hok) (zSn hok) hs
structure FnAt(K:yr)(mg:Str->Option Value)(x:Str)(st:Stmt)(ps:List Str)(f:Addr)(fd:yf):Prop where
 fn:Fun K x x st f fd
 at_:mg x=some (.ref f)
 bd:Binds K fd ps []
def mcall{k j n:Nat}{st:Stmt}{f:Addr}{fd:yf}{ps:List Str}{F:FF}{x:Str}{p:xi}{φ:FA}(B:FnAt X.K X.mg x st ps f fd)(G:FnOk X.prog X.w X.K X.mg X.base CX0 j f fd ps (spM X.K n F))(hr:Room k X.A)
 (ha:MAn X (e::es) φ) (hj:j<=k:=by decide) (hn:(e::es).length=n:=by rfl) (hg:Gl X x:=by rfl) (hdb:(x==("__debug__":Str))=false:=by decide) (he:yg (e::es) X.env=(false,yY e X.env)::yg es X.env:=by exact z8c rfl) (hpl:(Yh pos (yg es X.env)).any (·.1)=false:=by rfl) :
 ME X (.Call (.Name x p) (e::es) [] pos) (zB F φ):=ztr G (hr.mono hj) B.at_ B.fn.kp B.bd ha hn hg hdb he hpl
end
section
variable {X:Cx}{a b c e:Expr}{es:List Expr}{φ ψ χ:FE}{pos:xi}
def cat0{prog:yv}{w:yE}{A:yH}{E:Value->yc->Prop}{s:yc}{t b:Addr}{vs ws:List Value}{Q:Value->yc->Prop}(ht:IsTup s.heap t vs.toArray)(hb:IsTup s.heap b ws.toArray)(hv:vs=[])(h:Q (.ref b) s) :
 yk (yp prog w) A (xH .Add (.ref t) (.ref b)) Q E s:=by
 obtain⟨⟨cls,dd,data,sl⟩,ho,hc,n,hd⟩:=id ht;obtain⟨⟨cls2,dd2,data2,sl2⟩,ho2,hc2,n2,hd2⟩:=id hb;simp only at hc hd hc2 hd2;subst hc hd hc2 hd2;refine concat_meets ⟨_,ho,rfl⟩ ⟨_,ho2,rfl⟩ noFill_tuple_add seq_tuple_add PySem.F.slot_tuple_add PySem.F.entry_tuple_add (PySem.F.args_tuple_add_2 _ _) (tuple_addW0 t b vs.toArray ws.toArray n n2 dd dd2 sl sl2 (by rw[hv];rfl)) ⟨ho,ho2,h⟩
def zzc:OpM X (xH .Add) zGh:=by
 refine OpM.of fun pins s σ H x y v u Q I rx ry ρ dx dy μ d μ' r1 r2 R e k=>?_;unfold zGh at e
 split at e
 ·cases e;rw[r1.int_inv]at rx;rw[r2.int_inv]at ry;obtain⟨t,rfl⟩:=rx;obtain⟨t',rfl⟩:=ry;exact add_int ⟨.int _,H,I.tok _,⟨_,rfl⟩,k ρ H _ Ext.refl R .int⟩
 ·rename_i as bs
  obtain⟨h1,e⟩:=zX e;have h1:=of_decide_eq_true h1;cases e;obtain⟨a1,vs,rfl,e1,q1⟩:=r1.tup_inv;obtain⟨a2,ws,rfl,e2,q2⟩:=r2.tup_inv;have hm:=million;have hl1:=q1.length;have hl2:=q2.length
  by_cases hv:vs=[]
  ·cases rx;cases ry;obtain⟨its,rv,p1,_⟩:=I.tuple (SqT.of (K:=X.K) e1);obtain⟨its2,rv2,p2,_⟩:=I.tuple (SqT.of (K:=X.K) e2);refine cat0 p1 p2 (rv.nil_iff.mpr hv) ⟨.ref a2,H,I,rfl,k ρ H _ Ext.refl R ?_⟩;have ha:as=[]:=by rw[hv]at hl1;exact List.length_eq_zero_iff.mp hl1
   rw[ha,List.nil_append];exact r2
  ·refine zMw pins s σ H _ _ v u Q I rx ry ⟨a1,a2,vs,ws,rfl,rfl,SqT.of e1,SqT.of e2,hv,by omega,fun hw=>?_,fun _ p hp=>?_⟩
   ·have hb:bs=[]:=by rw[hw]at hl2;exact List.length_eq_zero_iff.mp hl2
    rw[hb,append_nil]at k;exact k ρ H _ Ext.refl R r1
   ·exact k ρ _ _ (Ext.new hp) (R.newTup hp) (.tup zF ((q1.append q2).ext (Ext.new hp)))
 ·split at e
  ·rename_i hm1 hm2
   obtain⟨h1,e⟩:=zX e;have h1:=of_decide_eq_true h1;cases e;obtain⟨a1,rfl,e1⟩:=r1.loc_inv;obtain⟨a2,rfl,e2⟩:=r2.loc_inv;obtain⟨vs,e3,q1⟩:=R.at_ _ _ _ e1 hm1;obtain⟨ws,e4,q2⟩:=R.at_ _ _ _ e2 hm2;have hm:=million;have hl1:=q1.length;have hl2:=q2.length;exact znx pins s σ H _ _ v u Q I rx ry ⟨a1,a2,vs,ws,rfl,rfl,e3,e4,by omega,fun p hp=>k _ _ _ (Ext.push hp) (R.push hp ⟨_,zF,(q1.append q2).ext (Ext.push hp)⟩) (.loc (zDb R))⟩
  ·cases e
 ·cases e
def zDk:fillsNumberSlot (.type "tuple") "mul" = pure false :=
 PyProof.Rows.fillsNumberSlot_seq (id:="tuple.__mul__") (r:=some (.builtin "tuple.__rmul__")) PySem.F.slot_tuple_mul.lookup (by decide +kernel) PySem.F.slot_tuple_rmul.lookup (by decide +kernel)
def zGq:seqRepeat? (.type "tuple")=pure (some (.builtin "tuple.__mul__")):=by
 unfold seqRepeat?;rw[PyProof.Rows.seqSlot_of (T:="tuple") (name:="__mul__") (id:="tuple.__mul__") PySem.F.slot_tuple_mul.lookup (by decide +kernel),PyProof.Rows.seqSlot_of (T:="tuple") (name:="__rmul__") (id:="tuple.__rmul__") PySem.F.slot_tuple_rmul.lookup (by decide +kernel)];rfl
def zki(i:Int)(t:Tok)(l:Addr)(items:Array Value)(n:Nat)(dd:Option Addr)(sl:Array (Option Value)) :
 Meets (xt.«int.__rmul__» ⟨[.int i t, .ref l],[]⟩) (fun _ R s=>s.heap.get? l=some {cls := .type "tuple",dict:=dd,data := .seq items n,slots:=sl }/\R (.ok (.ret Value.notImplemented)) s) :=
 .of_wp fun prog w A R s h=>by
  obtain⟨hp,g,d,tk,os⟩:=s;obtain⟨hl,h⟩:=h
  wp_walk
  exact⟨_,rfl,h⟩
def z9l(l:Addr)(items:Array Value)(n:Nat)(dd:Option Addr)(sl:Array (Option Value))(i:Int)(t:Tok)(h2:2<=i)(h3:i<=1000)(h4:items.isEmpty=false)(h5:items.size<=1000)
 (hsz:((yz i.toNat items).foldl (fun x1 x2=>x1++x2) #[]).size<=yB) :
 Meets (xt.«tuple.__mul__» ⟨[.ref l, .int i t],[]⟩) (fun _ R s=>s.heap.get? l=some {cls := .type "tuple",dict:=dd,data := .seq items n,slots:=sl } /\
  R (.ok (.ret (yC s.heap.objs.size))) {s with heap:=s.heap.push {cls:=YC "tuple",data:=Data.seq ((yz i.toNat items).foldl (fun x1 x2=>x1++x2) #[])},toks:=s.toks }) :=
 .of_wp fun prog w A R s h=>by
  obtain⟨hp,g,d,tk,os⟩:=s;obtain⟨hl,h⟩:=h;have f1:=AutoSeq1.idx_int
  have c1:¬((decide (i < -(2^63))||decide (i≥2^63))=true):=by
   rw[decide_eq_false (by omega),decide_eq_false (by omega)];exact yx
  have c2:¬((items.isEmpty||i==1)=true):=by
   rw[h4,show(i==1)=false by simp;omega];exact yx
  have c3:¬((decide (i<=0)||items.isEmpty)=true):=by
   rw[h4,decide_eq_false (by omega)];exact yx
  have c4:¬((items.size:Int)*i>(2^63-1) / 8):=by
   have h6:(items.size:Int)*i<=1000*1000:=Int.mul_le_mul (by omega) h3 (by omega) (by omega);omega
  have c5:¬(Builtin.Tuple.tupleTooMany ((items.size:Int)*i)=true):=by
   have h6:(items.size:Int)*i<=1000*1000:=Int.mul_le_mul (by omega) h3 (by omega) (by omega);have hz:(yB:Int)=16777216:=by rw[Yp];rfl
   unfold Builtin.Tuple.tupleTooMany;rw[decide_eq_false (by omega)];exact yx
  wp_walk using wpAny_loadPart' hl
  rw[if_neg c1]
  wp_walk using wpAny_loadPart' hl
  rw[if_neg c2];dsimp only;rw[if_neg c3,if_neg c4,if_neg c5];refine ya (m:=YX _) (yV (ye ⟨_,rfl,h⟩) hsz)
def zSk(its:List Value):∀(n:Nat)(acc:List Value),List.foldl (fun x1 x2=>x1++x2) acc.toArray (yz n its.toArray)=(acc++(yz n its).flatten).toArray
 |0,acc=>by simp
 |n+1,acc=>by
  rw[replicate_succ,List.foldl_cons,List.append_toArray,zSk its n,replicate_succ,flatten_cons,append_assoc]
def zAo{K:yr}{ρ:List Addr}{H:Hp}{ds:List D}{vs:List V}(r:RepVs K ρ H ds vs):∀n:Nat,RepVs K ρ H (yz n ds).flatten (yz n vs).flatten
 |0 => .nil
 |n+1=>by
  rw[replicate_succ,replicate_succ,flatten_cons,flatten_cons];exact r.append (zAo r n)
def zMl{vs:List V}{us:List Value}(r:Vals vs us):∀n:Nat,Vals (yz n vs).flatten (yz n us).flatten
 |0 => .nil
 |n+1=>by
  rw[replicate_succ,replicate_succ,flatten_cons,flatten_cons];exact r.append (zMl r n)
def zre:OpM X (xH .Mult) zYi:=by
 refine OpM.of fun pins s σ H x y v u Q I rx ry ρ dx dy μ d μ' r1 r2 R e k=>?_;unfold zYi at e
 split at e
 ·obtain⟨h1,e⟩:=zX e;cases e;rw[r1.int_inv]at rx;rw[r2.int_inv]at ry;obtain⟨t,rfl⟩:=rx;obtain⟨t',rfl⟩:=ry;exact mul_int ⟨.int _,H,I.tok _,⟨_,rfl⟩,k ρ H _ Ext.refl R .int⟩ (zRu h1)
 ·rename_i ds i
  obtain⟨h1,e⟩:=zX e;have h1:=of_decide_eq_true h1;obtain⟨h2,h3,h4,h5⟩:=h1;cases e;obtain⟨a1,vs,rfl,e1,q1⟩:=r1.tup_inv;rw[r2.int_inv]at ry;cases rx;obtain⟨t,rfl⟩:=ry;obtain⟨its,rv,⟨⟨cls,dd,data,sl⟩,ho,hc,n,hd⟩,hz⟩:=I.tuple (SqT.of (K:=X.K) e1);simp only at hc hd;subst hc hd;have hl:its.length=ds.length:=by rw[q1.length,rv.length]
  have hlen:((yz i.toNat vs).flatten).length<=yB:=by
   rw[zvs];have hm:=million;have h6:i.toNat*vs.length<=1000*1000:=Nat.mul_le_mul (by omega) (by rw[<-q1.length];exact h5);omega
  have e2:=zSk its i.toNat [];rw[List.nil_append]at e2
  have hsz:((yz i.toNat its.toArray).foldl (fun x1 x2=>x1++x2) #[]).size<=yB:=by
   rw[show(#[]:Array Value)=([]:List Value).toArray from rfl,e2,size_toArray,<-(zMl rv i.toNat).length];exact hlen
  refine wpAny_binaryOp_repeat_ref (T:="tuple") (U:="int") (by decide) ⟨_,ho,rfl⟩ (fun s'=>typeIs_int s' i t) zDk PySem.F.fills_int_mul PySem.F.slot_int_rmul zGq PySem.F.slot_int_index.lookup
   (Xh PySem.F.slot_int_rmul (typeIs_int s i t) PySem.F.entry_int_rmul (PySem.F.args_int_rmul_2 _ _) (zki i t a1 its.toArray n dd sl)
    ⟨ho,rfl,⟨_,ho,rfl⟩,Xh PySem.F.slot_tuple_mul ⟨_,ho,rfl⟩ PySem.F.entry_tuple_mul (PySem.F.args_tuple_mul_2 _ _) (z9l a1 its.toArray n dd sl i t h2 h3 (by rw[List.isEmpty_toArray,List.isEmpty_eq_false_iff_exists_mem];exact⟨_,getElem_mem (by omega:0<its.length)⟩) (by rw[size_toArray,hl];exact h5) hsz) ⟨ho,?_⟩⟩)
  rw[show(#[]:Array Value)=([]:List Value).toArray from rfl,e2];have hf:=I.hok.fresh (yh s.heap.objs.size);refine⟨.ref s.heap.objs.size,_,I.laid (t':=s.toks) (o := .tup (yz i.toNat vs).flatten) (fun b ob q=>yd _ q) (yh _) ?_,rfl,k ρ _ _ (Ext.new hf) (R.newTup hf) (.tup zF ((zAo q1 i.toNat).ext (Ext.new hf)))⟩;exact⟨hlen,_,zMl rv i.toNat,IsTup.new _ _⟩
 ·rename_i l n
  split at e
  ·rename_i ds hm
   obtain⟨h1,e⟩:=zX e;have h1:=of_decide_eq_true h1;obtain⟨h2,h3,h4⟩:=h1;cases e;obtain⟨a1,rfl,ea⟩:=r1.loc_inv;obtain⟨vs,e3,q3⟩:=R.at_ _ _ _ ea hm;refine zmx pins s σ H _ _ v u Q I rx ry ⟨a1,n,vs,rfl,r2.int_inv,e3,by omega,by omega,?_,fun p hp=>k _ _ _ (Ext.push hp) (R.push hp ⟨_,zF,(zAo q3 n.toNat).ext (Ext.push hp)⟩) (.loc (zDb R))⟩;have hmi:=million;have h6:vs.length*n.toNat<=1000*1000:=Nat.mul_le_mul (by rw[<-q3.length];exact h4) (by omega);omega
  ·cases e
 ·cases e
abbrev FO:=Loc->Mem->Option (Option Int×Mem)
def tMO(K:yr)(φ:FO):TO:=fun σ H Q=>∃ρ δ μ o μ',At K ρ H σ δ μ/\φ δ μ=some (o,μ')/\∀ρ' H',Ext ρ H ρ' H'->RepH K ρ' H' μ'->Q o H'
def MO(X:Cx)(e:Option Expr)(φ:FO):Prop:=PO X e (tMO X.K φ)
@[simp] def pNo:FO:=fun _ μ=>some (none,μ)
@[simp] def zmz(φ:FE):FO:=fun δ μ=>(φ δ μ).bind fun p=>match p.1 with
 |.int i=>some (some i,p.2)
 |_=>none
def cutD(xs:List D)(lo hi:Option Int):List D:=(xs.drop (HT.sIx xs.length 0 lo)).take (HT.sIx xs.length xs.length hi-HT.sIx xs.length 0 lo)
@[simp] def fSl(φ:FE)(lo hi:FO):FE:=fun δ μ=>(φ δ μ).bind fun p=>(lo δ p.2).bind fun l=>(hi δ l.2).bind fun h=>match p.1 with
 |.tup ds=>some (.tup (cutD ds l.1 h.1),h.2)
 |.loc n=>match h.2[n]? with
  |some (.lst ds)=>some (.loc h.2.length,h.2++[.lst (cutD ds l.1 h.1)])
  |_=>none
 |_=>none
end
def zht{prog:yv}{w:yE}{A:yH}{E:Value->yc->Prop}{s:yc}{t sl:Addr}{items:Array Value}{vl vu:Value}{lo hi:Option Int}{Q:Value->yc->Prop}(ht:IsTup s.heap t items)(hs:s.heap.IsSliceOf sl vl vu .none)(pl:IsPart vl lo)(pu:IsPart vu hi)
 (hw:HT.sIx items.size 0 lo=0/\HT.sIx items.size items.size hi=items.size) (h:Q (.ref t) s):yk (yp prog w) A (getItem (.ref t) (.ref sl)) Q E s:=by
 obtain⟨os,hos,hcs,hds⟩:=id hs;have hTs:s.TypeIs (.ref sl) "slice":=⟨os,hos,hcs⟩
 unfold getItem
 try with_reducible refine yQ ?_
 first | refine ya (ye ?_) | skip
 refine ya (wpAny_sequenceKey ht.typeIs (by decide) ?_)
 refine ya (Yd (name:=YQ "__getitem__") ht.typeIs YW
  (yX YW ht.typeIs entry_tuple_getitem ?_ (args_tuple_getitem _ _)))
 show yk _ _ (Builtin.Tuple.tupleItemsOf (.ref t) >>= _) _ _ s;refine ya (tupleItemsOf_ ht ?_);refine ya (Xm hTs ?_);rw[if_pos (by decide)];refine ya (HT.sliceApplied_gen hs pl pu ?_)
 have hyes:(((HT.sIx items.size 0 lo:Nat):Int)==0&&(1:Int)==1&&(HT.sIx items.size items.size hi-HT.sIx items.size 0 lo)==items.size)=true:=by
  rw[hw.1,hw.2];simp
 show yk _ _ (if(((HT.sIx items.size 0 lo:Nat):Int)==0&&(1:Int)==1&&(HT.sIx items.size items.size hi-HT.sIx items.size 0 lo)==items.size)=true then _ else _) _ _ s;rw[if_pos hyes];refine ya (m:=Builtin.Tuple.tupleIsExact _) ?_;unfold Builtin.Tuple.tupleIsExact;refine ya (Xm ht.typeIs (ye ?_));rw[if_pos (by decide)];exact ya (wpAny_rule (ye ⟨_,rfl,ye h⟩))
section
variable {X:Cx}{a b c e:Expr}{es:List Expr}{φ ψ χ:FE}{pos p2:xi}{lo hi:Option Expr}
def rSl(K:yr):V->Option Int->Option Int->Hp->VK->Prop:=fun x lo hi H Q=>∃a xs,x = .ref a/\H a=some (.tup xs) /\
 ((HT.sIx xs.length 0 lo=0/\HT.sIx xs.length xs.length hi=xs.length)->Q (.ref a) H)/\∀p,H p=none->Q (.ref p) (upd H p (.tup (zCr xs lo hi)))
def ztx:SlR X (rSl X.K):=by
 intro pins s σ H x v vl vu lo hi sl Q I rx hs pl pu h;obtain⟨a,xs,rfl,hx,h1,h2⟩:=h
 by_cases hw:HT.sIx xs.length 0 lo=0/\HT.sIx xs.length xs.length hi=xs.length
 ·cases rx;obtain⟨its,r,ht,hz⟩:=I.tuple (SqT.of (K:=X.K) hx);have hlen:its.toArray.size=xs.length:=by rw[size_toArray];exact r.length.symm
  exact⟨"tuple",_,PyProof.Rows.slot_tuple_getitem.lookup,ht.typeIs,zht ht hs pl pu (by rw[hlen];exact hw) ⟨.ref a,H,I,rfl,h1 hw⟩⟩
 ·exact zwy pins s σ H _ v vl vu lo hi sl Q I rx hs pl pu ⟨a,xs,rfl,SqT.of hx,hw,h2⟩
def zqz:MO X none pNo:=by intro pins s σ H Q I hh;obtain⟨ρ,δ,μ,o,μ',A,e,k⟩:=hh;exact zSw pins s σ H Q I (by cases e;exact k ρ H Ext.refl A.hp)
def z0x(h:ME X e φ):MO X (some e) (zmz φ):=by intro pins s σ H Q I hh;obtain⟨ρ,δ,μ,o,μ',A,e,k⟩:=hh;exact z0w h pins s σ H Q I (by
 obtain⟨⟨x,μ1⟩,e1,e⟩:=zi e;refine⟨ρ,δ,μ,x,μ1,A,e1,fun ρ1 H1 v x1 R1 r1=>?_⟩;dsimp only at e
 split at e
 ·cases e;exact⟨_,r1.int_inv,k ρ1 H1 x1 R1⟩
 ·cases e)
def zYo{K:yr}{ρ:List Addr}{H:Hp}{ds:List D}{vs:List V}{lo hi:Option Int}(r:RepVs K ρ H ds vs):RepVs K ρ H (cutD ds lo hi) (zCr vs lo hi):=by
 unfold cutD zCr;rw[r.length];exact(r.drop _).take _
def zCz{l h:FO}(he:ME X e φ)(hl:MO X lo l)(hu:MO X hi h):ME X (.Subscript e (.Slice lo hi none p2) pos) (fSl φ l h) :=
 zhd (zKt (SlR.or ztx zXw) he hl hu) fun ρ δ μ σ H d μ' Q A e k=>by
  obtain⟨⟨x,μ1⟩,e1,e⟩:=zi e;obtain⟨⟨o1,μ2⟩,e2,e⟩:=zi e;obtain⟨⟨o2,μ3⟩,e3,e⟩:=zi e;refine⟨ρ,δ,μ,x,μ1,A,e1,fun ρ1 H1 v x1 R1 r1=>?_⟩;refine⟨ρ1,δ,μ1,o1,μ2,A.ext x1 R1,e2,fun ρ2 H2 x2 R2=>?_⟩;refine⟨ρ2,δ,μ2,o2,μ3,A.ext (x1.trans x2) R2,e3,fun ρ3 H3 x3 R3=>?_⟩;dsimp only at e
  split at e
  ·cases e;obtain⟨a,vs,rfl,ea,q⟩:=(r1.ext (x2.trans x3)).tup_inv;have xx:=x1.trans (x2.trans x3);refine .inl ⟨a,vs,rfl,ea,fun hw=>k ρ3 H3 _ xx R3 (.tup ea ?_),fun p hp=>k ρ3 _ _ (xx.trans (Ext.new hp)) (R3.newTup hp) (.tup zF ((zYo q).ext (Ext.new hp)))⟩
   have e4:zCr vs o1 o2=vs:=by
    unfold zCr;rw[hw.1,hw.2,Nat.sub_zero,List.drop_zero,take_length]
   have:=zYo (lo:=o1) (hi:=o2) q;rw[e4]at this;exact this
  ·split at e
   ·rename_i hm
    cases e;obtain⟨a,rfl,ea⟩:=(r1.ext (x2.trans x3)).loc_inv;obtain⟨vs,ev,q⟩:=R3.at_ _ _ _ ea hm;have xx:=x1.trans (x2.trans x3);exact .inr ⟨a,vs,rfl,SqL.of ev,fun p hp=>k _ _ _ (xx.trans (Ext.push hp)) (R3.push hp ⟨_,zF,(zYo q).ext (Ext.push hp)⟩) (.loc (zDb R3))⟩
   ·cases e
  ·cases e
@[simp] def z2u(φ:FE):FE:=fun δ μ=>(φ δ μ).bind fun p=>match p.1 with
 |.int i=>some (.int (-i),p.2)
 |_=>none
def zWu(h:ME X a φ):ME X (.UnaryOp .USub a pos) (z2u φ) :=
 zhd (zJz zQx h) fun ρ δ μ σ H d μ' Q A e k=>by
  obtain⟨⟨x,μ1⟩,e1,e⟩:=zi e;refine⟨ρ,δ,μ,x,μ1,A,e1,fun ρ1 H1 v x1 R1 r1=>?_⟩;dsimp only at e
  split at e
  ·cases e;exact⟨_,r1.int_inv,k ρ1 H1 _ x1 R1 .int⟩
  ·cases e
def big{pins:List (Addr×YL)}{σ:L2.St}{H:Hp}{s:yc}(I:Inv X pins σ H s):sysModules<s.heap.objs.size:=by
 have h:yj<s.heap.objs.size:=(I.mod.glob.keeps I.bk).lt;exact Nat.lt_trans (by decide) h
@[simp] def zXy:FE:=fun _ μ=>some (.loc μ.length,μ++[.dct []])
def z4u:ME X (.Dict [] [] pos) zXy:=by
 intro pins s σ H Q I hh;obtain⟨ρ,δ,μ,d,μ',A,e,k⟩:=hh;cases e;have hf:=I.hok.fresh (yh s.heap.objs.size);refine wpAny_Dict_empty ⟨.ref s.heap.objs.size,_,I.laid (a:=s.heap.objs.size) (o := .dK []) (t':=s.toks) (fun _ _ q=>yd _ q) (yh _) ?_,rfl,k _ _ _ (Ext.push hf) (A.hp.push hf ⟨[],zF,rfl, .nil⟩) (.loc (zDb A.hp))⟩;exact⟨Yq _,beq_eq_false_iff_ne.mpr (yF (yw (big I))),[], .nil,Heap.DictOf.new _⟩
def zPd:D->Bool
 |.non | .bl _ | .int _ | .str _=>true
 |_=>false
def eqF:D->D->Bool
 |.non, .non=>true
 |.bl a, .bl b=>a==b
 |.bl a, .int b=>(if a then 1 else 0)==b
 |.int a, .bl b=>a==(if b then 1 else 0)
 |.int a, .int b=>a==b
 |.str a, .str b=>a==b
 |_,_=>false
def zkj:G2:=fun x y μ=>(items μ y).bind fun ds=>bif zPd x&&ds.all zPd then some (.bl (!ds.any fun d=>eqF d x),μ) else none
def zfm{K:yr}{ρ:List Addr}{H:Hp}{d:D}{v:V}(r:RepV K ρ H d v)(f:zPd d=true):zRj v=true:=by
 cases d with
 |non=>rw[r.non_inv];rfl
 |bl b=>rw[r.bl_inv];rfl
 |int b=>rw[r.int_inv];rfl
 |str b=>rw[r.str_inv];rfl
 |_=>cases f
def zOr{K:yr}{ρ:List Addr}{H:Hp}{d d':D}{v v':V}(r:RepV K ρ H d v)(r':RepV K ρ H d' v')(f:zPd d=true)(f':zPd d'=true):eqV v v'=eqF d d':=by
 cases d with
 |non=>rw[r.non_inv];cases d' with
  |non=>rw[r'.non_inv];rfl
  |bl b=>rw[r'.bl_inv];rfl
  |int b=>rw[r'.int_inv];rfl
  |str b=>rw[r'.str_inv];rfl
  |_=>cases f'
 |bl b=>rw[r.bl_inv];cases d' with
  |non=>rw[r'.non_inv];rfl
  |bl b=>rw[r'.bl_inv];rfl
  |int b=>rw[r'.int_inv];rfl
  |str b=>rw[r'.str_inv];rfl
  |_=>cases f'
 |int b=>rw[r.int_inv];cases d' with
  |non=>rw[r'.non_inv];rfl
  |bl b=>rw[r'.bl_inv];rfl
  |int b=>rw[r'.int_inv];rfl
  |str b=>rw[r'.str_inv];rfl
  |_=>cases f'
 |str b=>rw[r.str_inv];cases d' with
  |non=>rw[r'.non_inv];rfl
  |bl b=>rw[r'.bl_inv];rfl
  |int b=>rw[r'.int_inv];rfl
  |str b=>rw[r'.str_inv];rfl
  |_=>cases f'
 |_=>cases f
def zkt{K:yr}{ρ:List Addr}{H:Hp}{x:D}{v:V}(rx:RepV K ρ H x v)(fx:zPd x=true):∀{ds:List D} {vs:List V},RepVs K ρ H ds vs->ds.all zPd=true->vs.all zRj=true/\inV v vs=ds.any fun d=>eqF d x
 |[],_,r,_=>by rw[r.nil_inv];exact⟨rfl,rfl⟩
 |d::ds,_,r,f=>by
  obtain⟨w,ws,rfl,r1,r2⟩:=r.cons_inv;rw[all_cons,yG]at f;obtain⟨h1,h2⟩:=zkt rx fx r2 f.2;refine⟨by rw[all_cons,zfm r1 f.1,h1];rfl,?_⟩;unfold inV at h2 ⊢;rw[any_cons,any_cons,h2,zOr r1 rx f.1 fx]
def zCj:OpM X (Yy .NotIn) zkj:=by
 refine OpM.of fun pins s σ H x y v u Q I rx ry ρ dx dy μ d μ' r1 r2 R e k=>?_;obtain⟨ds,e1,e⟩:=zi e;obtain⟨h1,e⟩:=zX e;rw[yG]at h1;cases e;obtain⟨p,vs,rfl,hq,rr⟩:=zbh R r2 e1;obtain⟨h3,h4⟩:=zkt r1 h1.1 rr h1.2;exact zVm pins s σ H x _ v u Q I rx ry ⟨p,vs,rfl,hq,zfm r1 h1.1,h3,by rw[if_pos rfl,h4];exact k ρ H _ Ext.refl R .bl⟩
abbrev GM:=D->List D->Mem->Option (D×Mem)
@[simp] def zAf(g:GM)(φ:FE)(ψ:FA):FE:=fun δ μ=>(φ δ μ).bind fun p=>match p.1 with
 |.loc n=>match p.2[n]? with
  |some (.lst _)=>(ψ δ p.2).bind fun q=>g (.loc n) q.1 q.2
  |_=>none
 |_=>none
@[simp] def zod:GM:=fun x ds μ=>match x,ds with
 |.loc n,[d]=>match μ[n]? with
  |some (.lst xs)=>bif decide (xs.length<=1000000) then some (.non,μ.set n (.lst (xs++[d]))) else none
  |_=>none
 |_,_=>none
def MtG(X:Cx)(id:String)(g:GM):Prop:=MtR X id fun x xs H Q=>∃ρ dx ds μ d μ',RepV X.K ρ H dx x/\RepVs X.K ρ H ds xs/\RepH X.K ρ H μ/\g dx ds μ=some (d,μ')/\∀ρ' H' v,Ext ρ H ρ' H'->RepH X.K ρ' H' μ'->RepV X.K ρ' H' d v->Q v H'
def MtG.of{X:Cx}{id:String}{g:GM}(h:∀(pins:List (Addr×YL)) (s:yc) (σ:L2.St) (H:Hp) (x:V) (xs:List V) (v:Value) (us:List Value) (Q:VK),Inv X pins σ H s->RelV x v->Vals xs us->∀(ρ:List Addr)(dx:D)(ds:List D)(μ:Mem)(d:D)(μ':Mem),RepV X.K ρ H dx x->RepVs X.K ρ H ds xs->RepH X.K ρ H μ->g dx ds μ=some (d,μ')->(∀ρ' H' v,Ext ρ H ρ' H'->RepH X.K ρ' H' μ'->RepV X.K ρ' H' d v->Q v H')->yk (yp X.prog X.w) X.A (call (.builtin id) (v::us)) (EP X pins σ Q) X.xe s):MtG X id g:=by
 intro pins s σ H x xs v us Q I rx rs hh;obtain⟨ρ,dx,ds,μ,d,μ',r1,r2,R,e,k⟩:=hh;exact h pins s σ H x xs v us Q I rx rs ρ dx ds μ d μ' r1 r2 R e k
def zpm{o:Expr}{ψ:FA}{name:Str}{id:String}{g:GM}{apos:xi}(slot:Slot "list" name id)(hty:typeOf (.builtin id)=pure (.type "method_descriptor"))(hm:MtG X id g)(ho:ME X o φ)(ha:MAn X (e::es) ψ)
 (hbase:Yn o name X.env (yY o X.env)=yY o X.env:=by rfl)
 (hfew:((Yh pos (yg (e::es) X.env)).all (fun x=>!x.1)&&(xA pos (YE [] X.env)).all (fun x=>x.1.isSome)
  && decide ((e::es).length+([]:List xr).length+(if([]:List xr).isEmpty then 0 else 1)<30))=true:=by rfl)
 (hline:(apos.endLine==pos.line)=true:=by rfl) (hs:yg (e::es) X.env=(false,yY e X.env)::yg es X.env:=by rfl) (hplain:(Yh pos (yg es X.env)).any (·.1)=false:=by rfl) :
 ME X (.Call (.Attribute o name apos) (e::es) [] pos) (zAf g φ ψ) :=
 zhd (zNx PySem.F.plainAttrs_list slot hty hm ho ha.ma hbase hfew hline hs hplain) fun ρ δ μ σ H d μ' Q A e k=>by
  obtain⟨⟨x,μ1⟩,e1,e⟩:=zi e;refine⟨ρ,δ,μ,x,μ1,A,e1,fun ρ1 H1 v x1 R1 r1=>?_⟩;dsimp only at e
  split at e
  ·split at e
   ·rename_i hm'
    obtain⟨⟨ds,μ2⟩,e2,e⟩:=zi e;obtain⟨a,rfl,ea⟩:=r1.loc_inv;obtain⟨vs,e3,q3⟩:=R1.at_ _ _ _ ea hm';refine⟨.inl ⟨rfl,vs,SqL.of e3⟩,ρ1,δ,μ1,ds,μ2,A.ext x1 R1,e2,fun ρ2 H2 vs2 x2 R2 r2=>?_⟩;exact⟨ρ2,_,ds,μ2,d,μ',r1.ext x2,r2,R2,e,fun ρ3 H3 v3 x3 R3 r3=>k ρ3 H3 v3 (x1.trans (x2.trans x3)) R3 r3⟩
   ·cases e
  ·cases e
def z7q:MtG X "list.append" zod:=by
 refine MtG.of fun pins s σ H x xs v us Q I rx rs ρ dx ds μ d μ' r1 r2 R e k=>?_;unfold zod at e
 split at e
 ·split at e
  ·rename_i hm
   obtain⟨h1,e⟩:=zX e;have h1:=of_decide_eq_true h1;cases e;obtain⟨a,rfl,ea⟩:=r1.loc_inv;obtain⟨vs,e3,q3⟩:=R.at_ _ _ _ ea hm;obtain⟨w,r,rfl,q1,q2⟩:=r2.cons_inv;rw[q2.nil_inv]at rs;have hl:=q3.length;have hmi:=million;have hmu:Mut (H a):=by rw[e3];trivial
   refine zLs pins s σ H _ _ v us Q I rx rs ⟨a,vs,w,rfl,rfl,e3,by omega,?_⟩;exact k ρ _ _ (Ext.wr hmu) (R.wr hmu ea ⟨_,zF,RepVs.ext (Ext.wr hmu) (q3.append (.cons q1 .nil))⟩) .non
  ·cases e
 ·cases e
def zoh{o:Expr}{ψ:FA}{apos:xi}(ho:ME X o φ)(ha:MAn X (e::es) ψ)
 (hbase:Yn o "append" X.env (yY o X.env)=yY o X.env:=by rfl)
 (hfew:((Yh pos (yg (e::es) X.env)).all (fun x=>!x.1)&&(xA pos (YE [] X.env)).all (fun x=>x.1.isSome)
  && decide ((e::es).length+([]:List xr).length+(if([]:List xr).isEmpty then 0 else 1)<30))=true:=by rfl)
 (hline:(apos.endLine==pos.line)=true:=by rfl) (hs:yg (e::es) X.env=(false,yY e X.env)::yg es X.env:=by rfl) (hplain:(Yh pos (yg es X.env)).any (·.1)=false:=by rfl) :
 ME X (.Call (.Attribute o "append" apos) (e::es) [] pos) (zAf zod φ ψ):=zpm PySem.F.slot_list_append PySem.F.type_list_append z7q ho ha hbase hfew hline hs hplain
end
end M
namespace M
open PySem
def RS(xs:Array Nat):Prop:=xs.toList.Pairwise (· < ·)
def zwm(xs:Array Nat)(j:Nat)(h:RS xs):∀(fuel lo hi:Nat),lo<=hi->hi<=xs.size->hi-lo<=fuel->(∀i (hi':i<xs.size),i<lo->xs[i]<j)->(∀i (hi':i<xs.size),hi<=i->j<=xs[i]) ->
 Xf xs j fuel lo hi<=xs.size/\(∀i (hi':i<xs.size),i<Xf xs j fuel lo hi->xs[i]<j)/\∀i (hi':i<xs.size),Xf xs j fuel lo hi<=i->j<=xs[i]
 |0,lo,hi,h1,h2,h3,h4,h5=>by
  have:lo=hi:=by omega
  subst this;unfold Xf;exact⟨h2,h4,h5⟩
 |fuel+1,lo,hi,h1,h2,h3,h4,h5=>by
  have hp:∀i k (hi:i<xs.size) (hk:k<xs.size),i<k->xs[i]<xs[k]:=fun i k hi hk hik=>by
   have:=List.pairwise_iff_getElem.mp h i k (by simpa using hi) (by simpa using hk) hik;simpa using this
  unfold Xf
  by_cases hlt:lo<hi
  ·rw[if_pos hlt];dsimp only;have hm:(lo+hi) / 2<xs.size:=by omega
   have hg:xs.getD ((lo+hi) / 2) j=xs[(lo+hi) / 2]:=by simp[Array.getD,hm]
   rw[hg]
   by_cases hc:xs[(lo+hi) / 2]<j
   ·rw[if_pos hc];refine zwm xs j h fuel _ hi (by omega) h2 (by omega) (fun i hi' hil=>?_) h5
    by_cases e:i=(lo+hi) / 2
    ·subst e;exact hc
    ·exact Nat.lt_trans (hp i _ hi' hm (by omega)) hc
   ·rw[if_neg hc];refine zwm xs j h fuel lo _ (by omega) (by omega) (by omega) h4 (fun i hi' hil=>?_)
    by_cases e:i=(lo+hi) / 2
    ·subst e;omega
    ·exact yy (by omega) (YH (hp _ i hm hi' (by omega)))
  ·rw[if_neg hlt];have:lo=hi:=by omega
   subst this;exact⟨h2,h4,h5⟩
def z5k(xs:Array Nat)(j:Nat)(h:RS xs):YG xs j<=xs.size/\(∀i (hi:i<xs.size),i<YG xs j->xs[i]<j)/\∀i (hi':i<xs.size),YG xs j<=i->j<=xs[i] :=
 zwm xs j h xs.size 0 xs.size (Yq _) (yh _) (by omega) (fun i _ h=>by omega) (fun i h1 h2=>by omega)
def zgm{α:Type}(xs:Array α)(p:Nat)(x:α):(SetTable.insertAt xs p x).toList=xs.toList.take p++x::xs.toList.drop p:=by
 unfold SetTable.insertAt;simp;rw[List.take_of_length_le (by simp)]
def zsx{xs:Array Nat}{j:Nat}(h:RS xs)(hn:xs[YG xs j]?≠some j):RS (SetTable.insertAt xs (YG xs j) j):=by
 obtain⟨h0,h1,h2⟩:=z5k xs j h;unfold RS at h ⊢;rw[zgm];generalize YG xs j=r at *
 have hd:∀y∈xs.toList.drop r,j<y:=fun y hy=>by
  obtain⟨i,hi,rfl⟩:=List.mem_iff_getElem.mp hy;simp at hi;have hi':r+i<xs.size:=by omega
  have h3:=h2 (r+i) hi' (by omega);have e:(xs.toList.drop r)[i]'(by simp;omega)=xs[r+i]:=by simp
  rw[e]
  by_cases hz:i=0
  ·subst hz;have:xs[r]?=some xs[r]:=by simp
   simp only[Nat.add_zero]at h3 ⊢;rw[this]at hn;have:xs[r]≠j:=fun e=>hn (by rw[e]);omega
  ·have hp:=List.pairwise_iff_getElem.mp h r (r+i) (by simp;omega) (by simpa using hi') (by omega);simp at hp;have:=h2 r (by omega) (yh _);omega
 have ht:∀y∈xs.toList.take r,y<j:=fun y hy=>by
  obtain⟨i,hi,rfl⟩:=List.mem_iff_getElem.mp hy;simp at hi;have e:(xs.toList.take r)[i]'(by simp;omega)=xs[i]:=by simp
  rw[e];exact h1 i (by omega) (by omega)
 rw[List.pairwise_append];refine⟨h.sublist (List.take_sublist _ _),List.pairwise_cons.mpr ⟨hd,h.sublist (List.drop_sublist _ _)⟩,fun a ha b hb=>?_⟩;rcases List.mem_cons.mp hb with rfl | hb
 ·exact ht a ha
 ·exact Nat.lt_trans (ht a ha) (hd b hb)
structure TOk(L:Bool)(t:xo):Prop where
 rs:RS t.place
 nd:t.dummies = #[]
 led:t.led=L
def zgp{j:Nat}:SetTable.has #[] j=false:=by
 unfold SetTable.has;simp
def zep{t:xo}(hn:t.dummies = #[]){ha:Nat->Int}{h:Int}:∀(fuel:Nat)(p:SetTable.Probe)(j:Nat)(d:Option Nat),p.dummy=none->SetTable.probe.go t ha h fuel p=some (.empty j d)->t.slot j = .empty/\d=none
 |0,p,j,d,_,e=>by unfold SetTable.probe.go at e;cases e
 |fuel+1,p,j,d,hd,e=>by
  unfold SetTable.probe.go at e
  have hadv:(t.advance p).dummy=none:=by
   unfold SetTable.advance
   split
   ·exact hd
   ·exact hd
  split at e
  ·rename_i hs
   cases e;exact⟨hs,hd⟩
  ·rename_i hs
   unfold SetTable.slot at hs;dsimp only at hs;rw[hn,zgp]at hs
   split at hs<;>simp at hs
  ·split at e
   ·cases e
   ·exact zep hn fuel _ j d hadv e
def zBl{t:xo}(hn:t.dummies = #[]){h:Int}{j:Nat}{b:Bool}(e:t.freeSlot h=some (j,b)):t.place[YG t.place j]?≠some j:=by
 unfold SetTable.freeSlot at e
 split at e
 ·rename_i j' d hp
  obtain⟨h1,rfl⟩:=zep hn _ _ _ _ rfl hp;cases e;unfold SetTable.slot at h1;dsimp only at h1;intro q;simp only[Option.getD_none]at q;rw[q]at h1;simp at h1
 ·cases e
def TOk.standIn{L:Bool}{t:xo}(h:TOk L t)(n:Nat):TOk L (t.standIn n):=by
 refine⟨?_,rfl,h.led⟩;unfold RS SetTable.standIn;rw[Array.toList_range];exact List.pairwise_lt_range
def TOk.layNew{L:Bool}{t:xo}(h:TOk L t)(es:Array (Int×Value))(hs:Int)(x:Value):TOk L (layNew t es hs x).2.1:=by
 unfold PySem.layNew
 split
 ·rename_i slot wd e
  have hne:=zBl h.nd e
  have h1:TOk L (t.put slot).1:=⟨zsx h.rs hne,by
   unfold SetTable.put;dsimp only;rw[h.nd,zgp];rfl,h.led⟩
  show TOk L ((t.put slot).1.orStandIn _);unfold SetTable.orStandIn
  split
  ·exact h1
  ·exact h1.standIn _
 ·exact h.standIn _
def TOk.relay{L:Bool}{t:xo}(h:TOk L t)(es:Array (Int×Value))(wanted:Nat):TOk L (relayAll t es wanted).2.1:=by
 unfold relayAll
 split
 ·rename_i t' order e
  dsimp only
  split
  ·unfold SetTable.relaid SetTable.laid at e;obtain⟨ow,_,e⟩:=Option.bind_eq_some_iff.mp e;cases e;refine⟨?_,rfl,h.led⟩;unfold RS;dsimp only;rw[pairwise_map];refine List.Pairwise.filterMap _ (fun a a' hlt b hb b' hb'=>?_) List.pairwise_lt_range;simp at hb hb';obtain⟨_,_,rfl⟩:=hb;obtain⟨_,_,rfl⟩:=hb';exact hlt
  ·exact h.standIn _
 ·exact h.standIn _
def TOk.fresh(L:Bool):TOk L (.fresh 0 0 L):=⟨List.Pairwise.nil,rfl,rfl⟩
def z6j(e:Int×Value):Int:=match e.2 with
 |.int i _=>i
 |_=>0
def SetAt(prog:yv)(w:yE)(h:yT)(a:Addr)(ks:List Int):Prop :=
 ∃o es ep t,h.get? a=some o/\o.ExactSet/\o.data = .set es ep t/\t.fits es.size=true/\TOk (!w.params.followText "set-order") t/\ElemsOf (intKind prog w) es.toList/\(es.toList.map z6j).Perm ks
section
variable {prog:yv}{w:yE}{A:yH}{E:Value->yc->Prop}{s:yc}
def zps{es:List (Int×Value)}{e:Int×Value}{k:Int}(h:ElemsOf (intKind prog w) es)(he:e∈es):(intKind prog w).is k e.2=true↔z6j e=k:=by
 obtain⟨⟨j,hj,_⟩,_⟩:=h e he;obtain⟨t,ht⟩:=Value.isInt_shape (show Value.isInt j e.2=true from hj);unfold z6j;rw[ht];constructor
 ·intro q;obtain⟨u,hu⟩:=Value.isInt_shape (show Value.isInt k (.int j t)=true from q);cases hu;rfl
 ·intro q;have q:j=k:=q;rw[q];exact intKind_is prog w k t
def SetAt.at'{h h':yT}{a:Addr}{ks:List Int}(x:SetAt prog w h a ks)(k:∀o,h.get? a=some o->h'.get? a=some o):SetAt prog w h' a ks:=by
 obtain⟨o,es,ep,t,h1,h2⟩:=x;exact⟨o,es,ep,t,k o h1,h2⟩
def zUp(b:Bool){Q:Unit->yc->Prop}(h:Q () s):yk (yp prog w) A (match b with | true=>rule "set.scan.the-table-gave-way" | false=>pure ()) Q E s:=by
 cases b
 ·exact ye h
 ·exact wpAny_rule h
def stored{o:YL}{h:yT}{a:Addr}{es:Array (Int×Value)}{ep:Nat}{t:xo}(ho:h.get? a=some o)(hd:o.data = .set es ep t)(es1:Array (Int×Value))(t1:xo) :
 (h.update a (Obj.putSet es1 t1)).get? a=some {o with data := .set es1 (ep+1) t1 }:=by
 have e:=putSet_of es1 t1 hd;have q:=yJ (Obj.putSet es1 t1) ho (by rw[e];rfl);rw[e]at q;exact q
def zuv{a:Addr}{ks:List Int}{k:Int}{tk:Tok}{Q:Bool->yc->Prop}(hS:SetAt prog w s.heap a ks)(hroom:ks.length+1<scanBound)
 (h:∀b h',Yj a s.heap h'->SetAt prog w h' a (if k∈ks then ks else ks++[k])->Q b {s with heap:=h' }):yk (yp prog w) A (setAddHashed a (.int k tk) (hashInt k)) Q E s:=by
 obtain⟨o,es,ep,t,ho,hex,hd,hf,hT,hel,hp⟩:=hS
 have hsz:es.size=ks.length:=by
  have:=hp.length_eq;simpa using this
 have hmem:k∈ks↔∃e∈es.toList,z6j e=k:=by
  rw[<-hp.mem_iff,mem_map]
 unfold setAddHashed setAddHashedIn;refine yQ (ya (YS ho hd hf ?_));dsimp only;rw[byScan_of (knd:=intKind prog w) (x := .int k tk) rfl (by omega) hel];simp only[↓reduceIte];unfold setAddByScan;refine ya (ya (wpAny_rule (ya (wpAny_setScan_of (knd:=intKind prog w) (k:=k) (intKind_is prog w k tk) ho hd hf hel ?_))))
 cases hr:List.findIdx? (fun e=>(intKind prog w).is k e.2) es.toList with
 |some j=>
  dsimp only;obtain⟨hj,hpj,_⟩:=List.findIdx?_eq_some_iff_getElem.mp hr;have hk:k∈ks:=hmem.mpr ⟨es.toList[j],getElem_mem hj,(zps hel (getElem_mem hj)).mp hpj⟩;have q:=h false s.heap (Heap.SameBut.refl a s.heap) ⟨o,es,ep,t,ho,hex,hd,hf,hT,hel,by rw[if_pos hk];exact hp⟩;exact ye (ye q)
 |none=>
  dsimp only
  have hk:k∉ks:=fun hk=>by
   obtain⟨e,he,q⟩:=hmem.mp hk;have:=List.findIdx?_eq_none_iff.mp hr e he;rw[(zps hel he).mpr q]at this;cases this
  rw[if_neg hk]at h;have p1:=layNew_perm t es (hashInt k) (.int k tk);have f1:=layNew_fits t es (hashInt k) (.int k tk);have T1:=hT.layNew es (hashInt k) (.int k tk);show yk _ _ (_ >>= _) _ _ _;generalize layNew t es (hashInt k) (.int k tk)=L1 at p1 f1 T1 ⊢;obtain⟨es1,t1,wd,gv⟩:=L1;dsimp only at p1 f1 T1 ⊢;rw[Array.toList_push]at p1;have el1:ElemsOf (intKind prog w) es1.toList:=(hel.push (intKind_is prog w k tk) rfl).perm p1
  have pk1:(es1.toList.map z6j).Perm (ks++[k]):=by
   refine(p1.map z6j).trans ?_;rw[map_append];exact hp.append_right _
  have z1:es1.size=ks.length+1:=by
   have:=pk1.length_eq;simpa using this
  refine ya (zUp gv ?_)
  have fin:yk (yp prog w) A (do
   storeSet a es1 t1
   if (!wd && t1.tooFull)=true then
    match relayAll t1 es1 (Xi es1.size) with
    |(es2,t2,gv2)=>do
     (match gv2 with | true=>rule "set.scan.the-table-gave-way" | false=>pure ())
     storeSet a es2 t2
     pure (some true)
   else pure (some true)) (fun r s'=>∃h',s' = {s with heap:=h' }/\r=some true/\Yj a s.heap h'/\SetAt prog w h' a (ks++[k])) E s:=by
   refine ya (wpAny_storeSet_of ho hd ?_ (fits_of_scanBound (by omega)));have s1:=stored ho hd es1 t1;have b1:=Yv s.heap a (Obj.putSet es1 t1)
   split
   ·have p2:=relayAll_perm t1 es1 (Xi es1.size);have f2:=relayAll_fits t1 es1 (Xi es1.size);have T2:=T1.relay es1 (Xi es1.size);generalize relayAll t1 es1 (Xi es1.size)=L2 at p2 f2 T2 ⊢;obtain⟨es2,t2,gv2⟩:=L2;dsimp only at p2 f2 T2 ⊢
    have z2:es2.size=es1.size:=by
     have:=p2.length_eq;simpa using this
    refine ya (zUp gv2 (ya (wpAny_storeSet_of s1 rfl ?_ (fits_of_scanBound (by omega)))));exact ye ⟨_,rfl,rfl,b1.trans (Yv _ a _),_,es2,_,t2,stored s1 rfl es2 t2,hex,rfl,f2,T2,el1.perm p2,(p2.map z6j).trans pk1⟩
   ·exact ye ⟨_,rfl,rfl,b1,_,es1,_,t1,s1,hex,rfl,f1,T1,el1,pk1⟩
  have goal2:yk (yp prog w) A (do
   storeSet a es1 t1
   if (!wd && t1.tooFull)=true then
    match relayAll t1 es1 (Xi es1.size) with
    |(es2,t2,gv2)=>do
     (match gv2 with | true=>rule "set.scan.the-table-gave-way" | false=>pure ())
     storeSet a es2 t2
     pure (some true)
   else pure (some true)) (fun r s'=>yk (yp prog w) A (match r with | some added=>pure added | none=>setAddHashedIn a (.int k tk) (hashInt k) 99999) Q E s') E s:=by
   refine yP fin (fun r s' ⟨h',e1,e2,b,x⟩=>?_) fun _ _ z=>z;subst e1 e2;exact ye (h true h' b x)
  split
  ·refine ya ?_;rw[hashByValue_scannable 8 (x := .int k tk) rfl];exact ye goal2
  ·exact ya (ye goal2)
end
def z3h{α:Type}:∀(l:List α)(i:Nat)(h:i<l.length),(l[i]::l.eraseIdx i).Perm l
 |[],i,h=>by simp at h
 |y::ys,0,h=>by simp
 |y::ys,i+1,h=>by
  have h':i<ys.length:=by simpa using h
  show(ys[i]::y::ys.eraseIdx i).Perm (y::ys);exact(List.Perm.swap y ys[i] _).trans ((z3h ys i h').cons y)
def zbs{α:Type}(next:Nat->Nat):∀(fuel k:Nat)(rest:List α)(out:Array α),rest.length<=fuel->(pickOrder.go next fuel k rest out).toList.Perm (out.toList++rest)
 |0,k,rest,out,h=>by
  have:rest=[]:=List.length_eq_zero_iff.mp (Nat.le_zero.mp h);subst this;unfold pickOrder.go;simp
 |fuel+1,k,rest,out,h=>by
  unfold pickOrder.go
  cases rest with
  |nil=>simp
  |cons y ys=>
   have hlt:next k%(y::ys).length<(y::ys).length:=Nat.mod_lt _ (by simp);rw[yM hlt];dsimp only;refine(zbs next fuel (k+1) _ _ (by rw[List.length_eraseIdx_of_lt hlt];simp at h ⊢;omega)).trans ?_;rw[Array.toList_push,append_assoc];exact List.Perm.append_left _ (z3h _ _ hlt)
def zbk{α:Type}(next:Nat->Nat)(xs:Array α):(pickOrder next xs).toList.Perm xs.toList:=by
 unfold pickOrder;exact(zbs next xs.size 0 xs.toList #[] (by simp)).trans (by simp)
def slot_si_next:Slot "set_iterator" "__next__" "set_iterator.__next__" :=
 .of (owner:="set_iterator") (n:="__next__") (by rw[typeLookup_type,xY];kernel_rfl) (by decide +kernel) (by decide +kernel) (by decide +kernel) (by first | exact .inl (by decide +kernel) | exact .inr (by decide +kernel)) (by rw[isSubtype_type];kernel_rfl)
def zxi:Slot "set_iterator" "__iter__" "set_iterator.__iter__" :=
 .of (owner:="set_iterator") (n:="__iter__") (by rw[typeLookup_type,xY];kernel_rfl) (by decide +kernel) (by decide +kernel) (by decide +kernel) (by first | exact .inl (by decide +kernel) | exact .inr (by decide +kernel)) (by rw[isSubtype_type];kernel_rfl)
def zFd:entryFor table "set_iterator.__next__" = some xt.«set_iterator.__next__»:=entryFor_of_tree (by kernel_rfl)
def zim:entryFor table "set_iterator.__iter__" = some xt.«dict_keyiterator.__iter__»:=entryFor_alias (id':="dict_keyiterator.__iter__") (by kernel_rfl) rfl (by decide +kernel) (by kernel_rfl)
def zke(a:Value):argsOk "set_iterator.__next__" ⟨[a],[]⟩:=by unfold argsOk;kernel_rfl
def zbn(a:Value):argsOk "set_iterator.__iter__" ⟨[a],[]⟩:=by unfold argsOk;kernel_rfl
def z2m:entryFor table "set.__iter__" = some xt.«frozenset.__iter__»:=entryFor_alias (id':="frozenset.__iter__") (by kernel_rfl) rfl (by decide +kernel) (by kernel_rfl)
def SIt(h:yT)(it a:Addr)(first:Value)(i n ep:Nat):Prop:=∃o,h.get? it=some o/\o.cls = .type "set_iterator"/\o.data = .fields #[first, .int i 0, .ref a, .int n 0, .int ep 0]
def SOb(h:yT)(a:Addr)(es:Array (Int×Value))(ep:Nat)(t:xo):Prop:=∃o,h.get? a=some o/\o.cls = .type "set"/\o.data = .set es ep t/\t.fits es.size=true
section
variable {prog:yv}{w:yE}{A:yH}{E:Value->yc->Prop}{s:yc}
def SIt.typeIs{it a:Addr}{first:Value}{i n ep:Nat}(x:SIt s.heap it a first i n ep):s.TypeIs (.ref it) "set_iterator":=let ⟨o,ho,hc,_⟩:=x;⟨o,ho,hc⟩
def SIt.at'{h h':yT}{it a:Addr}{first:Value}{i n ep:Nat}(x:SIt h it a first i n ep)(k:∀o,h.get? it=some o->h'.get? it=some o):SIt h' it a first i n ep:=let ⟨o,ho,r⟩:=x;⟨o,k o ho,r⟩
def SOb.at'{h h':yT}{a:Addr}{es:Array (Int×Value)}{ep:Nat}{t:xo}(x:SOb h a es ep t)(k:∀o,h.get? a=some o->h'.get? a=some o):SOb h' a es ep t:=let ⟨o,ho,r⟩:=x;⟨o,k o ho,r⟩
def zit{it:Addr}{o:YL}{vs:Array Value}{Q:Option Value->yc->Prop}(hh:A.handled=none)(ho:s.heap.get? it=some o)(hd:o.data = .fields vs)(h2:2<vs.size)
 (hQ:∀h',Xj it s.heap h'->Q none {s with heap:=h' }) :
 yk (yp prog w) A.in1 (do setField (.ref it) 2 .none;raiseNew (<-newExc (.type "StopIteration") []):Sem Fin)
  (fun _ _=>False) (fun e s'=>yk (yp prog w) A (do if <-isInstance e (.type "StopIteration") then pure none else throw e) Q E s') s:=by
 refine ya (YR ho hd h2 ?_);refine ya ?_;simp only[newExc,newTuple];refine ya (yV ?_ (by size_fits));refine ya (m:=firstArgMember _ _) (wpAny_of_eq (a:=Yi) (by first | rfl | (simp only[firstArgMember];rfl)) ?_);refine yV ?_ (by size_fits);simp only[raiseNew];refine ya (wpAny_handled ?_);have e:A.in1.handled=none:=hh;rw[e];refine ya (ye (wpAny_throw ?_));refine ya (wpAny_isInstance (T:="StopIteration") (b:=true) ⟨_,yo _ rfl,rfl⟩ isSubtype_stop ?_);exact ye (hQ _ (((Yv s.heap it _).extBut.push _).push _))
end
section
variable {prog:yv}{w:yE}{A:yH}{E:Value->yc->Prop}{s:yc}{it a:Addr}{es:Array (Int×Value)}{ep i:Nat}{t:xo}{Q:Option Value->yc->Prop}
def zym(n:Nat):¬(((n:Int) != (n:Int))=true):=by simp
def z5j{slot nx:Nat}{x:Value}(hI:SIt s.heap it a (.int slot 0) i es.size ep)(hO:SOb s.heap a es ep t)
 (hn:∀(Q':Option (Value×Nat)->yc->Prop) (E':Value->yc->Prop),Q' (some (x,nx)) s->yk (yp prog w) A.in1 (setNext a slot i ep) Q' E' s)
 (hQ:∀h',SIt h' it a (.int nx 0) (i+1) es.size ep->Yj it s.heap h'->Q (some x) {s with heap:=h' }):yk (yp prog w) A (Xg (.ref it)) Q E s:=by
 obtain⟨o,ho,hc,hd⟩:=id hI;obtain⟨oa,hoa,_,hda,hfa⟩:=hO;unfold Xg;refine ya (wpAny_attempt (Yd (name:=YQ "__next__") hI.typeIs slot_si_next (yX slot_si_next hI.typeIs zFd ?_ (zke _))));unfold xt.«set_iterator.__next__»;refine ya (m:=slotArgs "__next__" 0 ⟨[yC it],[]⟩) (ye ?_);refine ya (wpAny_fieldsOf ho hd ?_);dsimp only;refine ya (xG hoa hda hfa ?_);rw[if_neg (zym es.size)];refine ya (hn _ _ ?_);dsimp only;refine ya (YR ho hd (by simp) ?_);have ho1:=yJ (YZ (·.setIfInBounds 0 (Yz nx))) ho (Yw (yW hd _));have hd1:=yW hd (·.setIfInBounds 0 (Yz nx));refine ya (YR ho1 hd1 (by simp) (ye ⟨x,rfl,ye (hQ _ ?_ ((Yv s.heap it _).trans (Yv _ it _)))⟩));refine⟨_,yJ _ ho1 (Yw (yW hd1 _)),(Xd ..).trans ((Xd ..).trans hc),?_⟩;rw[yW hd1];simp[Yz]
def z0k{slot:Nat}(hh:A.handled=none)(hI:SIt s.heap it a (.int slot 0) i es.size ep)(hO:SOb s.heap a es ep t)
 (hn:∀(Q':Option (Value×Nat)->yc->Prop) (E':Value->yc->Prop),Q' none s->yk (yp prog w) A.in1 (setNext a slot i ep) Q' E' s)
 (hQ:∀h',Xj it s.heap h'->Q none {s with heap:=h' }):yk (yp prog w) A (Xg (.ref it)) Q E s:=by
 obtain⟨o,ho,hc,hd⟩:=id hI;obtain⟨oa,hoa,_,hda,hfa⟩:=hO;unfold Xg;refine ya (wpAny_attempt (Yd (name:=YQ "__next__") hI.typeIs slot_si_next (yX slot_si_next hI.typeIs zFd ?_ (zke _))));unfold xt.«set_iterator.__next__»;refine ya (m:=slotArgs "__next__" 0 ⟨[yC it],[]⟩) (ye ?_);refine ya (wpAny_fieldsOf ho hd ?_);dsimp only;refine ya (xG hoa hda hfa ?_);rw[if_neg (zym es.size)];refine ya (hn _ _ ?_);dsimp only;exact yP (zit (Q:=Q) (E:=E) hh ho hd (by simp) hQ) (fun _ _ z=>z.elim) fun _ _ z=>z
def zuo{tup:Addr}{ot:YL}{items:Array Value}{nt place:Nat}{x:Value}{hx:Int}(hI:SIt s.heap it a (.ref tup) i es.size ep)(hO:SOb s.heap a es ep t)(hot:s.heap.get? tup=some ot)(hdt:ot.data = .seq items nt)
 (hp:items[i]?=some (.int place 0)) (he:es[place]?=some (hx,x))
 (hQ:∀h',SIt h' it a (.ref tup) (i+1) es.size ep->Yj it s.heap h'->Q (some x) {s with heap:=h' }):yk (yp prog w) A (Xg (.ref it)) Q E s:=by
 obtain⟨o,ho,hc,hd⟩:=id hI;obtain⟨oa,hoa,_,hda,hfa⟩:=hO;unfold Xg;refine ya (wpAny_attempt (Yd (name:=YQ "__next__") hI.typeIs slot_si_next (yX slot_si_next hI.typeIs zFd ?_ (zke _))));unfold xt.«set_iterator.__next__»;refine ya (m:=slotArgs "__next__" 0 ⟨[yC it],[]⟩) (ye ?_);refine ya (wpAny_fieldsOf ho hd ?_);dsimp only;refine ya (xG hoa hda hfa ?_);rw[if_neg (zym es.size)];refine ya (wpAny_seqItems hot hdt ?_);dsimp only;simp only[Ys,hp];unfold setNextDrawn;refine ya (ya (YS hoa hda hfa ?_));dsimp only;rw[if_neg (by simp),he];dsimp only;refine ye ?_;refine ya (YR ho hd (by simp) (ye ⟨x,rfl,ye (hQ _ ?_ (Yv s.heap it _))⟩));refine⟨_,yJ _ ho (Yw (yW hd _)),(Xd ..).trans hc,?_⟩;rw[yW hd];simp[Yz]
def z7p{tup:Addr}{ot:YL}{items:Array Value}{nt:Nat}(hh:A.handled=none)(hI:SIt s.heap it a (.ref tup) i es.size ep)(hO:SOb s.heap a es ep t)(hot:s.heap.get? tup=some ot)(hdt:ot.data = .seq items nt)
 (hp:items[i]?=none) (hQ:∀h',Xj it s.heap h'->Q none {s with heap:=h' }):yk (yp prog w) A (Xg (.ref it)) Q E s:=by
 obtain⟨o,ho,hc,hd⟩:=id hI;obtain⟨oa,hoa,_,hda,hfa⟩:=hO;unfold Xg;refine ya (wpAny_attempt (Yd (name:=YQ "__next__") hI.typeIs slot_si_next (yX slot_si_next hI.typeIs zFd ?_ (zke _))));unfold xt.«set_iterator.__next__»;refine ya (m:=slotArgs "__next__" 0 ⟨[yC it],[]⟩) (ye ?_);refine ya (wpAny_fieldsOf ho hd ?_);dsimp only;refine ya (xG hoa hda hfa ?_);rw[if_neg (zym es.size)];refine ya (wpAny_seqItems hot hdt ?_);dsimp only;simp only[Ys,hp];refine ya (YR ho hd (by simp) ?_);have ho1:=yJ (YZ (·.setIfInBounds 0 (Yz 0))) ho (Yw (yW hd _));have hd1:=yW hd (·.setIfInBounds 0 (Yz 0));exact yP (zit (Q:=Q) (E:=E) hh ho1 hd1 (by simp) fun h' x=>hQ h' fun b o' hb e=>x b o' hb ((Yv s.heap it _).extBut b o' hb e)) (fun _ _ z=>z.elim) fun _ _ z=>z
end
section
variable {prog:yv}{w:yE}{A:yH}{E:Value->yc->Prop}{s:yc}{it a:Addr}{es:Array (Int×Value)}{ep i:Nat}{t:xo}
def z2g{Q:Bool->yc->Prop}(h:Q (w.params.followText "set-order") s):yk (yp prog w) A setsByText Q E s:=by
 unfold setsByText;exact ya (wpAny_askSetting (ye h))
def zRn{slot:Nat}(hw:w.params.followText "set-order" = true)(hO:SOb s.heap a es ep t){Q:Option (Value×Nat)->yc->Prop}(h:Q (((pickOrder (w.params.setOrder a ep) es)[i]?).map fun e=>(e.2,slot)) s) :
 yk (yp prog w) A (setNext a slot i ep) Q E s:=by
 obtain⟨oa,hoa,_,hda,hfa⟩:=hO;unfold setNext;refine ya (YS hoa hda hfa ?_);dsimp only;refine ya (z2g ?_);rw[hw,if_pos rfl,if_neg (by simp)];unfold setWalk;refine ya (ya (YS hoa hda hfa ?_));dsimp only;refine ya (z2g ?_);rw[hw,if_pos rfl];exact ya (wpAny_askSetting (ye (ye h)))
def zEe(t:xo)(i:Nat):Nat:=if i=0 then 0 else t.place.getD (i-1) 0+1
def zQq(h:RS t.place)(hi:i<=t.place.size):YG t.place (zEe t i)=i:=by
 obtain⟨h0,h1,h2⟩:=z5k t.place (zEe t i) h
 have hp:∀i k (hi:i<t.place.size) (hk:k<t.place.size),i<k->t.place[i]<t.place[k]:=fun i k hi hk hik=>by
  have:=List.pairwise_iff_getElem.mp h i k (by simpa using hi) (by simpa using hk) hik;simpa using this
 generalize hr:YG t.place (zEe t i)=r at *;unfold zEe at h1 h2
 by_cases hz:i=0
 ·subst hz;rw[if_pos rfl]at h1
  by_cases hr0:0<r
  ·have:=h1 0 (by omega) hr0;omega
  ·omega
 ·rw[if_neg hz]at h1 h2;have hl:i-1<t.place.size:=by omega
  have hg:t.place.getD (i-1) 0=t.place[i-1]:=by simp[Array.getD,hl]
  rw[hg]at h1 h2;rcases Nat.lt_trichotomy r i with hlt | he | hgt
  ·have h3:=h2 (i-1) hl (by omega);omega
  ·exact he
  ·have h3:=h1 i (by omega) hgt;have h4:=hp (i-1) i hl (by omega) (by omega);omega
def zml(hw:w.params.followText "set-order" = false)(hd:(!t.plain&&decide (es.size>1))=false)(hT:TOk true t)(hi:i<=es.size)(hO:SOb s.heap a es ep t){Q:Option (Value×Nat)->yc->Prop}(h:Q ((es[i]?).map fun e=>(e.2,zEe t (i+1))) s) :
 yk (yp prog w) A (setNext a (zEe t i) i ep) Q E s:=by
 obtain⟨oa,hoa,_,hda,hfa⟩:=hO
 have hsz:t.place.size=es.size:=by
  unfold SetTable.fits at hfa;rw[yG]at hfa;exact beq_iff_eq.mp hfa.1
 unfold setNext;refine ya (YS hoa hda hfa ?_);dsimp only;refine ya (z2g ?_);rw[hw,if_neg yx];refine YU (fun hab=>?_) fun _=>?_
 ·have hab:(!t.plain&&decide (es.size>1))=true:=hab;rw[hd]at hab;cases hab
 ·refine ya ?_
  have led:yk (yp prog w) A (if(!t.led && !es.isEmpty)=true then unsupported "set:maker-not-led" else pure ()) (fun _ s'=>yk (yp prog w) A (pure (match es[YG t.place (zEe t i)]?,t.place[YG t.place (zEe t i)]? with
   |some (_,x),some j=>some (x,j+1)
   |_,_=>none):Sem (Option (Value×Nat))) Q E s') E s:=by
   rw[hT.led,if_neg (by simp)];refine ye (ye ?_);rw[zQq hT.rs (by omega)]
   by_cases hlt:i<es.size
   ·have e1:es[i]?=some es[i]:=by simp[hlt]
    have e2:t.place[i]?=some (t.place[i]'(by omega)):=by simp[show i<t.place.size by omega]
    rw[e1]at h;rw[e1,e2]
    have e3:zEe t (i+1)=t.place[i]'(by omega)+1:=by
     unfold zEe;rw[if_neg (by omega)];simp[Array.getD,show i<t.place.size by omega]
    rw[e3]at h;exact h
   ·have e1:es[i]?=none:=by simp;omega
    rw[e1]at h;rw[e1];exact h
  exact led
def zcl{α:Type}:∀(n:Nat)(xs:List α)(s:yc)(Q:List α->yc->Prop),n=xs.length->(∀ys d,ys.Perm xs->Q ys {s with drawn:=d })->yk (yp prog w) A (drawOrder n xs) Q E s
 |0,xs,s,Q,hn,h=>by
  have:xs=[]:=List.length_eq_zero_iff.mp hn.symm;subst this;exact ye (h [] s.drawn .nil)
 |n+1,[],s,Q,hn,h=>by simp at hn
 |n+1,x::xs,s,Q,hn,h=>by
  unfold drawOrder;refine ya ?_;intro Γ p hΓ;unfold choose;rw[Sem.wp_choose];refine⟨by simp,?_⟩;have hlt:(yp prog w).w.draws .order (s.drawn.get .order)%(x::xs).length<(x::xs).length:=Nat.mod_lt _ (by simp);generalize (yp prog w).w.draws .order (s.drawn.get .order)%(x::xs).length=j at hlt ⊢;generalize s.drawn.bump .order=d1
  have main:yk (yp prog w) A (match(x::xs)[j]? with
   |some y=>do return y::(<-drawOrder n ((x::xs).eraseIdx j))
   |none=>unsupported "internal:drawOrder") Q E {s with drawn:=d1 }:=by
   rw[yM hlt];dsimp only;refine ya (zcl n _ _ _ (by rw[List.length_eraseIdx_of_lt hlt];simp at hn ⊢;omega) fun ys d hp=>ye (h _ d ?_));exact(hp.cons _).trans (z3h _ _ hlt)
  simp only[Sem.wp_pure];exact main
end
section
variable {prog:yv}{w:yE}{A:yH}{E:Value->yc->Prop}{s:yc}{I a:Addr}{es:Array (Int×Value)}{ep i:Nat}{t:xo}
def zio{first:Value}{n:Nat}{Q:Value->yc->Prop}(hI:SIt s.heap I a first i n ep)(h:Q (.ref I) s):yk (yp prog w) A (pyIter (.ref I)) Q E s:=by
 refine wpAny_pyIter_slot hI.typeIs zxi (yX zxi hI.typeIs zim ?_ (zbn _));unfold xt.«dict_keyiterator.__iter__»;refine ya (m:=slotArgs "__iter__" 0 ⟨[yC I],[]⟩) (ye ?_);exact ye ⟨_,rfl,"set_iterator",_,hI.typeIs,slot_si_next.lookup,h⟩
abbrev z5w(ent:List (Int×Value))(i:Nat)(v:Value):Prop:=∃k,ent[i]?=some (k,v)
def z1s(hh:A.handled=none)(hne:a≠I)(hw:w.params.followText "set-order" = true) :
 Walks prog w A I [I,a] [I] es.size (z5w (pickOrder (w.params.setOrder a ep) es).toList) (fun i h=>SIt h I a (.int ((0:Nat):Int) 0) i es.size ep/\SOb h a es ep t) where
 sub:=fun b hb=>by simp at hb;simp[hb]
 frame:=fun _ _ _ st hk=>⟨st.1.at' fun o e=>hk I (by simp) o e,st.2.at' fun o e=>hk a (by simp) o e⟩
 item:=fun i s Q E hi st hQ=>by
  have hl:(pickOrder (w.params.setOrder a ep) es).size=es.size:=by
   have:=(zbk (w.params.setOrder a ep) es).length_eq;simpa using this
  have hi':i<(pickOrder (w.params.setOrder a ep) es).size:=by omega
  have e1:(pickOrder (w.params.setOrder a ep) es)[i]?=some (pickOrder (w.params.setOrder a ep) es)[i]:=by simp[hi']
  refine z5j (nx:=0) (x:=(pickOrder (w.params.setOrder a ep) es)[i].2) st.1 st.2 (fun Q' E' hq=>zRn hw st.2 (by rw[e1];exact hq)) fun h' x sb=>?_;refine hQ _ h' s.toks ⟨_,by rw[Array.getElem?_toList,e1]⟩ ⟨x,st.2.at' fun o e=>sb.extBut a o hne e⟩ fun b o hb e=>sb.extBut b o (fun h=>hb (by simp[h])) e
 done:=fun s Q E st hQ=>by
  have hl:(pickOrder (w.params.setOrder a ep) es).size=es.size:=by
   have:=(zbk (w.params.setOrder a ep) es).length_eq;simpa using this
  refine z0k hh st.1 st.2 (fun Q' E' hq=>zRn hw st.2 (by rw[show(pickOrder (w.params.setOrder a ep) es)[es.size]?=none by simp;omega];exact hq)) fun h' x=>hQ h' s.toks fun b o hb e=>x b o (fun h=>hb (by simp[h])) e
 self:=fun _ _ _ _ st hQ=>zio st.1 hQ
def zwq(hh:A.handled=none)(hne:a≠I)(hw:w.params.followText "set-order" = false)(hd:(!t.plain&&decide (es.size>1))=false)(hT:TOk true t) :
 Walks prog w A I [I,a] [I] es.size (z5w es.toList) (fun i h=>SIt h I a (.int (zEe t i:Nat) 0) i es.size ep/\SOb h a es ep t) where
 sub:=fun b hb=>by simp at hb;simp[hb]
 frame:=fun _ _ _ st hk=>⟨st.1.at' fun o e=>hk I (by simp) o e,st.2.at' fun o e=>hk a (by simp) o e⟩
 item:=fun i s Q E hi st hQ=>by
  have e1:es[i]?=some es[i]:=by simp[hi]
  refine z5j (nx:=zEe t (i+1)) (x:=es[i].2) st.1 st.2 (fun Q' E' hq=>zml hw hd hT (by omega) st.2 (by rw[e1];exact hq)) fun h' x sb=>?_;refine hQ _ h' s.toks ⟨_,by rw[Array.getElem?_toList,e1]⟩ ⟨x,st.2.at' fun o e=>sb.extBut a o hne e⟩ fun b o hb e=>sb.extBut b o (fun h=>hb (by simp[h])) e
 done:=fun s Q E st hQ=>by
  refine z0k hh st.1 st.2 (fun Q' E' hq=>zml hw hd hT (by omega) st.2 (by rw[show es[es.size]?=none by simp];exact hq)) fun h' x=>hQ h' s.toks fun b o hb e=>x b o (fun h=>hb (by simp[h])) e
 self:=fun _ _ _ _ st hQ=>zio st.1 hQ
def zIq{tup:Addr}{ord:List Nat}{nt:Nat}(hh:A.handled=none)(hne:a≠I)(hne2:tup≠I)(hp:ord.Perm (yA es.size)) :
 Walks prog w A I [I,a,tup] [I] es.size (z5w (ord.map fun j=>es.getD j (0, .none))) (fun i h=>SIt h I a (.ref tup) i es.size ep/\SOb h a es ep t/\∃ot,h.get? tup=some ot/\ot.data = .seq (ord.map fun(j:Nat)=>Yz j).toArray nt) where
 sub:=fun b hb=>by simp at hb;simp[hb]
 frame:=fun _ _ _ st hk=>⟨st.1.at' fun o e=>hk I (by simp) o e,st.2.1.at' fun o e=>hk a (by simp) o e,let ⟨ot,h1,h2⟩:=st.2.2;⟨ot,hk tup (by simp) ot h1,h2⟩⟩
 item:=fun i s Q E hi st hQ=>by
  obtain⟨st1,st2,ot,h1,h2⟩:=st
  have hl:ord.length=es.size:=by
   have:=hp.length_eq;simpa using this
  have hi':i<ord.length:=by omega
  have hj:ord[i]<es.size:=by
   have:=hp.mem_iff.mp (getElem_mem hi');simpa using this
  have e1:es[ord[i]]?=some es[ord[i]]:=by simp[hj]
  refine zuo (x:=es[ord[i]].2) (place:=ord[i]) (hx:=es[ord[i]].1) st1 st2 h1 h2 (by simp[hi',Yz]) e1 fun h' x sb=>?_;refine hQ _ h' s.toks ⟨es[ord[i]].1,by simp[hi',Array.getD,hj]⟩ ⟨x,st2.at' fun o e=>sb.extBut a o hne e,ot,sb.extBut tup ot hne2 h1,h2⟩ fun b o hb e=>sb.extBut b o (fun h=>hb (by simp[h])) e
 done:=fun s Q E st hQ=>by
  obtain⟨st1,st2,ot,h1,h2⟩:=st
  have hl:ord.length=es.size:=by
   have:=hp.length_eq;simpa using this
  refine z7p hh st1 st2 h1 h2 (by simp;omega) fun h' x=>hQ h' s.toks fun b o hb e=>x b o (fun h=>hb (by simp[h])) e
 self:=fun _ _ _ _ st hQ=>zio st.1 hQ
def zyt{ord:List Nat}(hp:ord.Perm (yA es.size)):(ord.map fun j=>es.getD j (0, .none)).Perm es.toList:=by
 refine(hp.map _).trans ?_
 have:(yA es.size).map (fun j=>es.getD j (0,Yi))=es.toList:=by
  apply List.ext_getElem
  ·simp
  ·intro n h1 h2;simp at h1 h2;simp[Array.getD,h1]
 rw[this]
end
section
variable {prog:yv}{w:yE}{A:yH}{E:Value->yc->Prop}{s:yc}{a:Addr}{es:Array (Int×Value)}{ep:Nat}{t:xo}
def zOz(prog:yv)(w:yE)(A:yH)(s:yc)(es:Array (Int×Value))(a:Addr)(I:Addr)(s':yc):Prop :=
 ∃fp ent St,Walks prog w A I fp [I] es.size (z5w ent) St/\St 0 s'.heap/\ent.Perm es.toList/\s.heap.objs.size<=I/\(∀b∈fp,s.heap.objs.size<=b\/b=a)/\(∀b∈fp,b<s'.heap.objs.size)/\(∀b o,s.heap.get? b=some o->s'.heap.get? b=some o)/\∃d,s' = {s with heap:=s'.heap,drawn:=d }
def zPu{Q:Value->yc->Prop}(hh:A.handled=none)(hT:TOk (!w.params.followText "set-order") t)(hO:SOb s.heap a es ep t)(hsz:es.size<=yB)
 (h:∀I s',zOz prog w A s es a I s'->Q (.ref I) s'):yk (yp prog w) A (pyIter (.ref a)) Q E s:=by
 obtain⟨oa,hoa,hca,hda,hfa⟩:=id hO;have hTy:s.TypeIs (.ref a) "set":=⟨oa,hoa,hca⟩
 have hlt:a<s.heap.objs.size:=yi hoa;refine wpAny_pyIter_slot hTy F.slot_set_iter (yX F.slot_set_iter hTy z2m ?_ (F.args_set_iter_1 _));unfold xt.«frozenset.__iter__»;refine ya (m:=Builtin.Frozenset.slot0 "__iter__" ⟨[yC a],[]⟩) (ye ?_);unfold Builtin.Frozenset.sizeOf;refine ya (ya (xG hoa hda hfa (ye ?_)));unfold setDrawn;refine ya (ya (YS hoa hda hfa ?_));dsimp only;refine ya (z2g (ye ?_));refine YU (fun hab=>?_) fun hab=>?_
 ·have hab:(!w.params.followText "set-order" && (!t.plain&&decide (es.size>1)))=true:=hab;refine ya (zcl es.size _ _ _ (by simp) fun ord d hp=>?_)
  have hol:ord.length=es.size:=by
   have:=hp.length_eq;simpa using this
  unfold newTuple;refine ya (yV ?_ (by show(List.map (fun(i:Nat)=>Yz i) ord).toArray.size<=yB;simp;omega));have hg:(s.heap.push {cls := .type "tuple",data := .seq (ord.map fun(i:Nat)=>Yz i).toArray }).get? a=some oa:=yd _ hoa;refine ya ?_;unfold setEpoch;refine ya (YS (s:={s with heap:=_,drawn:=d }) hg hda hfa (ye ?_));unfold newFields;refine ya (yV (ye ⟨_,rfl,"set_iterator",_,⟨_,yo _ rfl,rfl⟩,slot_si_next.lookup,?_⟩));have hs1:(s.heap.push {cls := .type "tuple",data := .seq (ord.map fun(i:Nat)=>Yz i).toArray }).objs.size=s.heap.objs.size+1:=by rw[Yl]
  refine h _ _ ⟨[(s.heap.push {cls := .type "tuple",data := .seq (ord.map fun(i:Nat)=>Yz i).toArray }).objs.size,a,s.heap.objs.size],ord.map fun j=>es.getD j (0, .none),_,
   zIq (t:=t) (ep:=ep) (nt:=0) hh (by rw[hs1];exact yw (Yt hlt)) (by rw[hs1];exact yw (Yr _)) hp,⟨⟨_,yo _ rfl,rfl,by simp[Yz]⟩,⟨oa,yd _ hg,hca,hda,hfa⟩,_,yd _ (yo _ rfl),rfl⟩,
   zyt hp,by rw[hs1];exact xK _,?_,?_,fun b o e=>yd _ (yd _ e),d,rfl⟩
  ·intro b hb;rw[hs1]at hb;simp at hb;rcases hb with rfl | rfl | rfl
   ·exact .inl (xK _)
   ·exact .inr rfl
   ·exact .inl (yh _)
  ·intro b hb;show b<((s.heap.push _).push _).objs.size;rw[Yl,hs1];rw[hs1]at hb;simp at hb;rcases hb with rfl | rfl | rfl
   ·exact Yr _
   ·exact Yt (Yt hlt)
   ·exact Yt (Yr _)
 ·have hab:¬(!w.params.followText "set-order" && (!t.plain&&decide (es.size>1)))=true:=hab;refine ya (ye ?_);refine ya ?_;unfold setEpoch;refine ya (YS hoa hda hfa (ye ?_));unfold newFields;refine ya (yV (ye ⟨_,rfl,"set_iterator",_,⟨_,yo _ rfl,rfl⟩,slot_si_next.lookup,?_⟩))
  have pre:∀(ent:List (Int×Value)) (St:Nat->yT->Prop),Walks prog w A s.heap.objs.size [s.heap.objs.size,a] [s.heap.objs.size] es.size (z5w ent) St->St 0 (s.heap.push {cls := .type "set_iterator",data := .fields #[Yz 0,Yz 0, .ref a,Yz es.size,Yz ep]})->ent.Perm es.toList ->
   Q (.ref s.heap.objs.size) {s with heap:=s.heap.push {cls := .type "set_iterator",data := .fields #[Yz 0,Yz 0, .ref a,Yz es.size,Yz ep]}}:=fun ent St W st hp=>
   h _ _ ⟨_,ent,St,W,st,hp,yh _,fun b hb=>by simp at hb;rcases hb with rfl | rfl;exact .inl (yh _);exact .inr rfl,fun b hb=>by
    show b<(s.heap.push _).objs.size;rw[Yl];simp at hb;rcases hb with rfl | rfl
    ·exact Yr _
    ·exact Yt hlt,fun b o e=>yd _ e,s.drawn,rfl⟩
  cases hw:w.params.followText "set-order" with
  |true=>exact pre _ _ (z1s (t:=t) (ep:=ep) hh (yw hlt) hw) ⟨⟨_,yo _ rfl,rfl,by simp[Yz]⟩,⟨oa,yd _ hoa,hca,hda,hfa⟩⟩ (zbk _ _)
  |false=>
   rw[hw]at hab hT;exact pre _ _ (zwq (t:=t) (ep:=ep) hh (yw hlt) hw (by simpa using hab) hT) ⟨⟨_,yo _ rfl,rfl,by simp[Yz,zEe]⟩,⟨oa,yd _ hoa,hca,hda,hfa⟩⟩ (.refl _)
end
section
variable {prog:yv}{w:yE}{A:yH}{E:Value->yc->Prop}{s:yc}{a:Addr}{es:Array (Int×Value)}{ep:Nat}{t:xo}
def zNt{Q:Bool->yc->Prop}(hT:s.TypeIs (.ref a) "set")(hq:Q false s):yk (yp prog w) A (xj (.ref a)) Q E s:=by
 unfold xj;refine ya (xc hT F.slot_set_len.lookup ?_);generalize hn:("set.__len__":String)=nm
 wp_delta
 rw[show splitId nm=some ("set","__len__") from by subst hn;decide +kernel];subst hn;refine ya (wpAny_isInstance (T:="set") (b:=true) hT (by rw[isSubtype_type];kernel_rfl) ?_);refine YU (fun no=>absurd no (by decide)) fun _=>?_;refine YU (fun _=>?_) fun no=>absurd (by decide +kernel) no;exact ya (Xm hT (ye hq))
def zZz(s:yc)(es:Array (Int×Value))(vs:List Value)(s':yc):Prop :=
 (∃ent:List (Int×Value),ent.Perm es.toList/\vs=ent.map (·.2))/\(∀b o,s.heap.get? b=some o->s'.heap.get? b=some o)/\s'.os=s.os/\s'.gens=s.gens/\s.heap.objs.size<=s'.heap.objs.size
def zGu{ent:List (Int×Value)}{acc:Array Value}{n:Nat}(hl:ent.length=n)(h:ItemsOf (z5w ent) acc n):acc.toList=ent.map (·.2):=by
 apply List.ext_getElem
 ·simp[h.1,hl]
 ·intro j h1 h2;have h1':j<acc.size:=by simpa using h1
  obtain⟨k,e⟩:=h.2 j acc[j] (by simp[h1']);have h3:j<ent.length:=by simpa using h2
  rw[yM h3]at e;simp only[xC]at e;simp[e]
def zUo{Q:List Value->yc->Prop}(hh:A.handled=none)(hT:TOk (!w.params.followText "set-order") t)(hO:SOb s.heap a es ep t)(hsz:es.size<=yB)(h:∀vs s',zZz s es vs s'->Q vs s') :
 yk (yp prog w) A (collect (.ref a)) Q E s:=by
 obtain⟨oa,hoa,hca,hda,hfa⟩:=id hO;have hlt:a<s.heap.objs.size:=yi hoa;unfold collect;refine ya (wpAny_runValue (xf F.entry_proto_collect ?_));rw[YJ F.plain_proto_collect _];show yk _ A.in1 (newList [] >>= fun l=>again (.builtin "list.__iadd__" ⟨[l, .ref a],[]⟩)) _ _ s;refine ya (yV ?_);refine ye ⟨xU F.plain_list_iadd _,xf F.entry_list_iadd ?_⟩;rw[YJ F.plain_list_iadd _];obtain⟨S,hSe⟩:∃S,S=s.heap.objs.size:=⟨_,rfl⟩
 have hL:(s.heap.push {cls := .type "list",data := .seq ([]:List Value).toArray }).get? S=some {cls := .type "list",data := .seq #[]}:=by rw[hSe];exact yo _ rfl
 have hk0:∀b o,s.heap.get? b=some o->(s.heap.push {cls := .type "list",data := .seq ([]:List Value).toArray }).get? b=some o:=fun b o e=>yd _ e;have hz0:(s.heap.push {cls := .type "list",data := .seq ([]:List Value).toArray }).objs.size=S+1:=by rw[hSe,Yl]
 show yk _ A.in1 (Yo (.ref s.heap.objs.size) (.ref a) (.ref s.heap.objs.size)) _ _ _;rw[<-hSe];generalize s.heap.push {cls := .type "list",data := .seq ([]:List Value).toArray } = h0 at hL hk0 hz0 ⊢;have hO0:SOb h0 a es ep t:=hO.at' fun o e=>hk0 _ o e;have hSa:S≠a:=by rw[hSe];exact yO hlt
 have hTy:Shared.TypeIs {s with heap:=h0 } (.ref a) "set":=⟨oa,hk0 _ _ hoa,hca⟩
 unfold Yo;refine ya (Xm hTy ?_);have g1:xD (.ref S) (.ref a)=false:=by simp[xD,hSa]
 have g2:(YC "set" == YC "list")=false:=by decide
 have g3:(YC "set" == YC "tuple")=false:=by decide
 simp only[g1,g2,g3,Bool.or_false,xN,if_false];refine ya (zPu (s:={s with heap:=h0 }) hh hT hO0 hsz fun I s1 hI=>?_);obtain⟨fp,ent,St,W,st,hp,hIs,hf1,hf2,hk1,d,hs1⟩:=hI;have hL1:s1.heap.get? S=some {cls := .type "list",data := .seq #[]}:=hk1 _ _ hL;have hIs:S+1<=I:=by rw[<-hz0];exact hIs
 have hSf:S∉fp:=fun hm=>by
  rcases hf1 S hm with q | q
  ·have q:h0.objs.size<=S:=q;rw[hz0]at q;exact yS _ q
  ·exact hSa q
 have hTy1:s1.TypeIs (.ref a) "set":=⟨oa,hk1 _ _ (hk0 _ _ hoa),hca⟩
 refine ya (yQ (zNt hTy1 ?_))
 have loop:∀(h2:yT)(c:Nat),(∀b o,b≠S->s1.heap.get? b=some o->h2.get? b=some o)->h2.get? S=some {cls := .type "list",data := .seq #[] c } ->
  Xc (yp prog w) A (.builtin "list.extend.loop" ⟨[.ref S, .ref I, .ref S],[]⟩) (fun r s'=>∃acc c',r = .ok (.ret (.ref S))/\s'.heap.get? S=some {cls := .type "list",dict:=none,data := .seq acc c',slots:=#[]}/\zZz s es acc.toList s') {s1 with heap:=h2 }:=by
  intro h2 c hk2 hL2;refine codeAny_extend_loopS W.toS hsz S hSf (.ref S) es.size 0 _ #[] c rfl (Yq _) (W.frame 0 _ _ st fun b hb o e=>hk2 b o (fun q=>hSf (q▸hb)) e) hL2 (ItemsOf.nil _) fun s' acc c' hm hS' hacc=>?_;refine⟨acc,c',rfl,hS',⟨ent,hp,zGu (by simpa using hp.length_eq) hacc⟩,fun b o e=>?_,?_,?_,by rw[<-hSe];exact YH (yi hS')⟩
  ·have hb:b<s.heap.objs.size:=yi e;rw[<-hSe]at hb;refine hm.heap b o (fun hmem=>?_) (hk2 b o (yw hb) (hk1 _ _ (hk0 _ _ e)));rcases List.mem_cons.mp hmem with q | q
   ·exact absurd hb (by rw[q];exact yS _)
   ·rw[List.mem_singleton.mp q]at hb;exact yS _ (Nat.lt_trans hb (yq (Yr _) hIs))
  ·have:=hm.os;rw[this];show s1.os=s.os;rw[hs1]
  ·have:s'.gens=s1.gens:=hm.gens;rw[this,hs1]
 have fin:∀(h2:yT)(c:Nat),(∀b o,b≠S->s1.heap.get? b=some o->h2.get? b=some o)->h2.get? S=some {cls := .type "list",data := .seq #[] c } ->
  Xc (yp prog w) A (.builtin "list.extend.loop" ⟨[.ref S, .ref I, .ref S],[]⟩) (fun r s'=>match r with
   |.ok (.ret v)=>yk (yp prog w) A (match v with
    |.ref b=>do
     let o <-load b
     match o.data with
     |.seq xs _=>pure xs.toList
     |_=>unsupported "internal:collect"
    |_=>unsupported "internal:collect") Q E s'
   |_=>False) {s1 with heap:=h2 }:=fun h2 c hk2 hL2=>YO (loop h2 c hk2 hL2) fun r s' ⟨acc,c',e,hS',hc⟩=>by
  subst e;dsimp only;refine ya (wpAny_load hS' ?_);exact ye (h _ _ hc)
 refine YU (fun _=>?_) fun _=>?_
 ·refine ya (wpAny_rule ?_);refine ya ?_;show yk _ _ (updateSeq S (·.push .none) >>= fun _=>updateSeq S (·.pop)) _ _ _;refine ya (wpAny_updateSeq hL1 rfl ?_);have hL2:=yJ (xM (·.push Yi)) hL1 rfl;refine wpAny_updateSeq (hz:=by seq_fits) hL2 rfl ?_;have hL3:=yJ (xM (·.pop)) hL2 rfl;refine ye ⟨xU F.plain_extend_loop _,YO (fin _ _ (fun b o hb e=>?_) hL3) fun r s' z=>?_⟩
  ·exact(Yb _ _ (yF hb)).trans ((Yb _ _ (yF hb)).trans e)
  ·cases r with
   |error e=>exact z.elim
   |ok f=>cases f<;>exact z
 ·refine ye ⟨xU F.plain_extend_loop _,YO (fin _ _ (fun b o hb e=>e) hL1) fun r s' z=>?_⟩
  cases r with
  |error e=>exact z.elim
  |ok f=>cases f<;>exact z
end
end M
namespace M
open PySem PyProof.Rows
section
variable {prog:yv}{w:yE}{A:yH}{E:Value->yc->Prop}{s:yc}{a:Addr}
def z1g:∀(ent:List (Int×Value)),ElemsOf (intKind prog w) ent->IntsAre (ent.map (·.2)) (ent.map z6j)
 |[],_ => .nil
 |e::ent,h=>by
  obtain⟨⟨k,hk,_⟩,_⟩:=h e mem_cons_self;obtain⟨t,ht⟩:=Value.isInt_shape (show Value.isInt k e.2=true from hk);have:z6j e=k:=by unfold z6j;rw[ht]
  rw[map_cons,map_cons,ht,this];exact .cons k t (z1g ent fun x hx=>h x (mem_cons_of_mem _ hx))
def zfv(s:yc)(ks:List Int)(p:Addr)(s':yc):Prop :=
 ∃(out:Array Value)(ns:List Int)(e:Nat),s'.heap.get? p=some {cls := .type "list",data := .seq out e }/\IntsAre out.toList ns/\ns.Perm ks/\ns.Pairwise (·<=·)/\s.heap.objs.size<=p/\(∀b o,s.heap.get? b=some o->s'.heap.get? b=some o)/\s'.os=s.os/\s'.gens=s.gens
def zqq{ks:List Int}{Q:Value->yc->Prop}(hh:A.handled=none)(hS:SetAt prog w s.heap a ks)(h64:ks.length<64)(h:∀p s',zfv s ks p s'->Q (.ref p) s') :
 yk (yp prog w) A (call (.builtin "sorted") [.ref a]) Q E s:=by
 obtain⟨o,es,ep,t,ho,hex,hd,hf,hT,hel,hpk⟩:=hS
 have hlen:es.size=ks.length:=by
  have:=hpk.length_eq;simpa using this
 have hO:SOb s.heap a es ep t:=⟨o,ho,hex.1,hd,hf⟩
 refine Calls.call_function_entry kind_sorted plain_sorted entry_sorted (args_sorted1 _) ?_;unfold xt.«sorted»;refine ya (m:=checkCount "sorted" 1 1 _) (ye ?_);refine ya (zUo (A:=A.in1) hh hT hO (yy (YH (by omega:es.size<64)) (by rw[Yp];decide)) fun vs s1 hc=>?_);obtain⟨⟨ent,hp,rfl⟩,hk,hos,hgn,hsz⟩:=hc;have hel2:ElemsOf (intKind prog w) ent:=hel.perm hp;have hI:=z1g ent hel2
 have hl:ent.length=ks.length:=by
  rw[hp.length_eq];simpa using hlen
 refine ya (wpAny_newList ?_ (by simp;rw[Yp];omega));have hnew:(s1.heap.push (seqObj "list" (ent.map (·.2)).toArray 0)).get? s1.heap.objs.size=some (seqObj "list" (ent.map (·.2)).toArray 0):=yo _ rfl;refine ya (yQ (yX slot_list_sort ⟨_,hnew,rfl⟩ entry_list_sort (list_sort_tree hnew hI (by simp;omega) fun out ns q1 q2 q3=>⟨_,rfl,?_⟩) (args_list_sort _)));obtain⟨e,he⟩:=sortedHeap_at (out:=out) hnew;refine ye ⟨_,rfl,h _ _ ⟨out,ns,e,he,q1,q2.trans ((hp.map z6j).trans hpk),q3,hsz,fun b ob eb=>?_,hos,hgn⟩⟩;have hb1:=hk _ _ eb;have hlt1:b<s1.heap.objs.size:=yi hb1;show(sortedHeap (s1.heap.push (seqObj "list" (ent.map (·.2)).toArray 0)) s1.heap.objs.size (ent.map (·.2)) out).get? b=some ob;rw[sortedHeap_old (yw hlt1) (by rw[size_push'];exact Yt hlt1)];exact yd _ hb1
end
def zYy(ks:List Int)(k:Int):List Int:=if k∈ks then ks else ks++[k]
def uqN(val:Nat->Int):Nat->List Int
 |0=>[]
 |i+1=>zYy (uqN val i) (val i)
def z5s(val:Nat->Int):∀i,(uqN val i).length<=i
 |0=>yh _
 |i+1=>by
  have:=z5s val i;unfold uqN zYy
  split
  ·omega
  ·simp;omega
def zgr(val:Nat->Int)(k:Int):∀i,k∈uqN val i↔∃j,j<i/\val j=k
 |0=>by simp[uqN]
 |i+1=>by
  have ih:=zgr val k i;unfold uqN zYy;constructor
  ·intro h
   split at h
   ·obtain⟨j,h1,h2⟩:=ih.mp h;exact⟨j,by omega,h2⟩
   ·rcases List.mem_append.mp h with h | h
    ·obtain⟨j,h1,h2⟩:=ih.mp h;exact⟨j,by omega,h2⟩
    ·exact⟨i,by omega,by simpa using(List.mem_singleton.mp h).symm⟩
  ·rintro⟨j,h1,h2⟩
   by_cases e:j=i
   ·subst e
    split
    ·rename_i hm
     rw[<-h2];exact hm
    ·simp[h2]
   ·have:=ih.mpr ⟨j,by omega,h2⟩
    split
    ·exact this
    ·exact mem_append_left _ this
def zTn(val:Nat->Int):∀i,(uqN val i).Nodup
 |0=>List.nodup_nil
 |i+1=>by
  have ih:=zTn val i;unfold uqN zYy
  split
  ·exact ih
  ·rename_i hm
   rw[nodup_append];exact⟨ih,by simp,fun a ha b hb e=>by simp at hb;subst hb;exact hm (e▸ha)⟩
section
variable {prog:yv}{w:yE}{A:yH}{R:Result->yc->Prop}{I:Addr}{fp wr:List Addr}{n:Nat}{P:Nat->Value->Prop}{St:Nat->yT->Prop}
def zEu(W:Walks prog w A.in1 I fp wr n P St)(S:Addr)(hSf:S∉fp)(val:Nat->Int)(hval:∀i v,P i v->∃t,v = .int (val i) t)(hb:n+1<scanBound):∀(k i:Nat)(s:yc),n-i=k->i<=n->St i s.heap->SetAt prog w s.heap S (uqN val i) ->
 (∀h' tk,(∀b o,b∉S::wr->s.heap.get? b=some o->h'.get? b=some o)->SetAt prog w h' S (uqN val n)->R (.ok (.ret .none)) {s with heap:=h',toks:=tk })->Xc (yp prog w) A (.builtin "set.update.loop" ⟨[.ref S, .ref I],[]⟩) R s:=by
 have hSw:S∉wr:=fun q=>hSf (W.sub _ q);intro k
 induction k with
 |zero=>
  intro i s hk hi st hS hR;have e:i=n:=by omega
  subst e;refine xf PyProof.Rows.F.entry_set_update_loop ?_;rw[YJ xg _];show yk _ A.in1 (Xg (.ref I) >>= _) _ _ s;refine ya (W.done s _ _ st fun h' tk hk'=>?_);exact ye (hR h' tk (fun b o hb e=>hk' b o (fun q=>hb (mem_cons_of_mem _ q)) e) (hS.at' fun o e=>hk' S o hSw e))
 |succ k ih=>
  intro i s hk hi st hS hR;have hlt:i<n:=by omega
  refine xf PyProof.Rows.F.entry_set_update_loop ?_;rw[YJ xg _];show yk _ A.in1 (Xg (.ref I) >>= _) _ _ s;refine ya (W.item i s _ _ hlt st fun v h1 tk hP st1 hk1=>?_);obtain⟨t,rfl⟩:=hval i v hP;show yk _ A.in1 (xy [Value.int (val i) t] (setAdd S (.int (val i) t)) >>= _) _ _ _;refine ya (yQ ?_);unfold setAdd;refine yQ ?_;refine ya (wpAny_pyHash_int ?_);have hS1:SetAt prog w h1 S (uqN val i):=hS.at' fun o e=>hk1 S o hSw e;refine zuv (s:={s with heap:=h1,toks:=tk+1 }) hS1 (by have:=z5s val i;omega) fun b h2 sb hS2=>?_;refine ye ⟨xU xg _,ih (i+1) _ (by omega) hlt (W.frame _ _ _ st1 fun c hc o e=>?_) hS2 fun h3 tk3 hk3 hS3=>?_⟩
  ·exact sb.extBut c o (fun q=>hSf (q▸hc)) e
  ·exact hR h3 tk3 (fun c o hc e=>hk3 c o hc (sb.extBut c o (fun q=>hc (by rw[q];exact mem_cons_self)) (hk1 c o (fun q=>hc (mem_cons_of_mem _ q)) e))) hS3
end
section
variable {prog:yv}{w:yE}{A:yH}{E:Value->yc->Prop}{s:yc}
abbrev zMd(w:yE):YL:={cls := .type "set",dict:=none,data := .set #[] 0 (.fresh 0 0 (!w.params.followText "set-order"))}
def zGw(a:Value){Q:Value->yc->Prop}(h:Q (.ref s.heap.objs.size) {s with heap:=s.heap.push (zMd w)}) :
 Xc (yp prog w) A (.call (.builtin "set.__new__") ⟨[.type "set",a],[]⟩) (wants Q E) s:=by
 refine codeAny_of_tree ?_;show yk _ A.in1 (do checkBuiltinCall "set.__new__" ⟨[.type "set",a],[]⟩;again (.builtin "set.__new__" ⟨[.type "set",a],[]⟩)) _ _ s;refine ya (wpAny_of_eq (PySem.F.newCall_set_1 a) (ye ⟨xU PySem.F.plain_set_new _,xf PySem.F.entry_set_new ?_⟩));rw[YJ PySem.F.plain_set_new _];unfold xt.«set.__new__» Builtin.Frozenset.newClass;have hsub:=PySem.sub_set_self;obtain⟨hp,g,d,tk,os⟩:=s;dsimp only
 wp_walk
 refine wpAny_askSetting (ye ?_);dsimp only;simp only[newObj];refine ya (wpAny_alloc (ye ?_));exact ye h
end
section
variable {prog:yv}{w:yE}{A:yH}{E:Value->yc->Prop}{s:yc}
def zUs(prog:yv)(w:yE)(s:yc)(ks:List Int)(s':yc):Prop :=
 SetAt prog w s'.heap s.heap.objs.size ks/\(∀b o,s.heap.get? b=some o->s'.heap.get? b=some o)/\∃h' tk,s' = {s with heap:=h',toks:=tk }
set_option maxHeartbeats 3200000 in
def zTo{l:Addr}{its:Array Value}{ns:List Int}{Q:Value->yc->Prop}(hh:A.handled=none)(hl:s.heap.IsList l its)(hi:IntsAre its.toList ns)(hb:its.size+1<scanBound)
 (h:∀s',zUs prog w s (uqN (fun i=>ns.getD i 0) its.size) s'->Q (.ref s.heap.objs.size) s'):yk (yp prog w) A (call (.type "set") [.ref l]) Q E s:=by
 obtain⟨c,tl,hmro⟩:=PySem.F.called_set.mro;have hmade:=PySem.F.called_set.made;have hsub:=PySem.F.called_set.sub;refine wpAny_call (codeAny_of_tree ?_);show yk _ _ (callAny (.type "set") _) _ _ _;refine ye ⟨Code.quiet_builtin _ (by decide +kernel),xf PySem.F.entry_type_call ?_⟩;rw[Around.under_plain (weight_type_call_type "set" [.ref l] []) rfl];have t1:=PySem.F.called_set.notType;have t2:=PySem.F.called_set.canCreate;have t3:=PySem.F.typeCall_set_1 (.ref l)
 repeat (any_goals (first | assumption | wp_step))
 refine YO (zGw (w:=w) (.ref l) (E:=E) (Q:=fun ob s1=>ob = .ref s.heap.objs.size/\s1 = {s with heap:=s.heap.push (zMd w)}) ⟨rfl,rfl⟩) fun r s1 hr=>?_
 cases r with
 |error e=>exact hr
 |ok fl=>
  cases fl with
  |ret ob=>
   obtain⟨rfl,rfl⟩:=hr;have hS:(s.heap.push (zMd w)).get? s.heap.objs.size=some (zMd w):=yo _ rfl;have hT:Shared.TypeIs {s with heap:=s.heap.push (zMd w)} (.ref s.heap.objs.size) "set":=⟨_,hS,rfl⟩
   have i1:=PySem.F.called_set.init.lookup;have i2:=PySem.F.called_set.init.bind (.ref s.heap.objs.size)
   repeat (any_goals (first | assumption | wp_step))
   refine YO (Xk (R:=wants (fun r s2=>r = .none/\zUs prog w s (uqN (fun i=>ns.getD i 0) its.size) s2) E) PySem.F.called_set.init.plain PySem.F.entry_set_init (check_set_init_1 hT ?_)) fun r2 s2 hr2=>?_
   ·obtain⟨ol,hol,hcl,nl,hdl⟩:=hl;obtain⟨ocls,odict,odata,oslots⟩:=ol;simp only at hcl hdl;subst hcl;subst hdl;have hlS:l<s.heap.objs.size:=yi hol;have hol1:(s.heap.push (zMd w)).get? l=some {cls := .type "list",dict:=odict,data := .seq its nl,slots:=oslots }:=yd _ hol;have n1:=PySem.F.sub_list_set;have n2:=PySem.F.sub_list_frozenset;have n3:(YC "list" == YC "dict")=false:=by decide
    have hl1:(s.heap.push (zMd w)).IsList l its:=⟨_,hol1,rfl,nl,rfl⟩
    unfold xt.«set.__init__» noKeywords Builtin.Frozenset.updateFrom;generalize hPI:pyIter=PI
    wp_walk
    subst hPI;refine wpAny_pyIter_list hl1 ?_;refine ya (wpAny_runValue ?_);have hz:(s.heap.push (zMd w)).objs.size=s.heap.objs.size+1:=by rw[Yl]
    have hne:l≠(s.heap.push (zMd w)).objs.size:=by rw[hz];exact yw (Yt hlS)
    have hSf:s.heap.objs.size∉[(s.heap.push (zMd w)).objs.size,l]:=by
     rw[hz];simp only[mem_cons,not_mem_nil,or_false,not_or];exact⟨yw (Yr _),yO hlS⟩
    have hval:∀(i:Nat)(v:Value),its[i]?=some v->∃t,v = .int ((fun i=>ns.getD i 0) i) t:=fun i v hv=>IntsAre.int_at hi i v (by rw[Array.getElem?_toList];exact hv);refine zEu (Walks.list (by simp[hh]) _ l hne its) s.heap.objs.size hSf (fun i=>ns.getD i 0) hval hb (its.size-0) 0 _ (by omega) (Yq _) ⟨⟨_,yo _ rfl,rfl,rfl⟩,hl1.push _⟩ ?s0 ?r0
    case s0=>
     exact⟨zMd w,#[],0,_,yd _ hS,⟨rfl,rfl,rfl⟩,rfl,rfl, .fresh _,fun e he=>by simp at he,by simp[uqN]⟩
    case r0=>
     intro h' tk hk hS';refine ye ?_;show yk _ _ (ret Yi) _ _ _;refine ye ⟨rfl,hS',fun b o e=>?_,h',tk,rfl⟩;have hlt:b<s.heap.objs.size:=yi e;refine hk b o ?_ (yd _ (yd _ e));rw[hz];simp only[mem_cons,not_mem_nil,or_false,not_or];exact⟨yw hlt,yw (Yt hlt)⟩
   ·cases r2 with
    |error e=>exact hr2
    |ok fl2=>
     cases fl2 with
     |ret r=>
      obtain⟨rfl,hm⟩:=hr2
      repeat (any_goals (first | assumption | wp_step))
      exact h _ hm
     |_=>exact hr2.elim
  |_=>exact hr.elim
end
end M
namespace M
open PySem PySem.Spec PyProof.Rows L2
section
variable {X:Cx}{pins:List (Addr×YL)}{σ:L2.St}{H:Hp}{s s':yc}
def zju(I:Inv X pins σ H s)(ho:s'.os=s.os)(hg:s'.gens=s.gens)(k:∀b u,s.heap.get? b=some u->s'.heap.get? b=some u):Inv X pins σ H s' :=
 I.call' (ch:=[]) ho (Un.kept k) (I.hok.kept k) (by rw[hg];exact I.bare) fun b z=>nomatch z
def z3p{p:Addr}{o:HO}(I:Inv X pins σ H s)(ho:s'.os=s.os)(hg:s'.gens=s.gens)(k:∀b u,s.heap.get? b=some u->s'.heap.get? b=some u)(hp:s.heap.objs.size<=p)(new:ObjOk X.prog X.w (upd H p o) s'.heap p o):Inv X pins σ (upd H p o) s' :=
 I.call' (ch:=[]) ho (Un.laid k hp (I.hok.fresh hp)) (I.hok.laid k hp new) (by rw[hg];exact I.bare) fun b z=>nomatch z
def zme:∀{us:List Value} {ns:List Int},IntsAre us ns->Vals (ns.map V.int) us
 |_,_, .nil => .nil
 |_,_, .cons n t r => .cons ⟨t,rfl⟩ (zme r)
def zIt(X:Cx)(p:Addr)(ks:List Int):HO := .ext fun h=>SetAt X.prog X.w h p ks
def z0s(hc:X.calm=true):zPk X (.type "set") (fun xs H Q=>∃(a:Addr)(ns:List Int),xs=[.ref a]/\SqL X.K H a (ns.map V.int)/\ns.length+1<scanBound/\∀p,H p=none->Q (.ref p) (upd H p (zIt X p (uqN (fun i=>ns.getD i 0) ns.length)))):=by
 intro pins s σ H xs us Q I r ⟨a,ns,e,hq,hb,k⟩;subst e;obtain⟨u,rfl,rx⟩:=vals1 r;cases rx;obtain⟨its,rv,pl,hz⟩:=I.list hq;have hl:its.length=ns.length:=by rw[<-rv.length];simp
 refine zTo (I.ok.hd hc) pl.isList (its:=its.toArray) (ns:=ns) (by simpa using zbg rv) (by simp;omega) fun s' ⟨hS,hk,h',tk,e⟩=>?_;subst e;rw[show its.toArray.size=ns.length by simp;exact hl]at hS;refine⟨.ref s.heap.objs.size,_,I.laid (t':=tk) hk (yh _) (show ObjOk X.prog X.w _ h' _ (zIt X _ _) from⟨hS,?_,fun h1 h2 x y=>x.at' y⟩),rfl,k _ I.fresh⟩;obtain⟨o,_,_,_,ho,_⟩:=hS;exact⟨o,ho⟩
def z8q(hc:X.calm=true):zPk X (.builtin "sorted") (fun xs H Q=>∃(a:Addr)(ks:List Int),xs=[.ref a]/\H a=some (zIt X a ks)/\ks.length<64/\∀(p:Addr)(ns:List Int),H p=none->ns.Perm ks->ns.Pairwise (·<=·)->Q (.ref p) (upd H p (.lst (ns.map V.int)))):=by
 intro pins s σ H xs us Q I r ⟨a,ks,e,hq,h64,k⟩;subst e;obtain⟨u,rfl,rx⟩:=vals1 r;cases rx;obtain⟨hS,_,_⟩:=I.hok a _ hq;refine zqq (I.ok.hd hc) hS h64 fun p s' ⟨out,ns,e,h1,h2,h3,h4,h5,h6,h7,h8⟩=>?_;have hl:ns.length=ks.length:=h3.length_eq;refine⟨.ref p,_,z3p I h7 h8 h6 h5 (show ObjOk X.prog X.w _ s'.heap _ (.lst (ns.map V.int)) from⟨by simp;rw[Yp];omega,out.toList,e,zme h2,by simpa using h1⟩),rfl,k p ns (I.hok.fresh h5) h3 h4⟩
end
def zfA:D->Option Int
 |.int i=>some i
 |_=>none
def z0h(ds:List D):Option (List Int):=ds.mapM zfA
@[simp] theorem zXg:∀ns:List Int,z0h (ns.map D.int)=some ns
 |[]=>rfl
 |i::ns=>by
  have:=zXg ns;unfold z0h at this ⊢;rw[map_cons,mapM_cons,this];rfl
def zLe:∀{ds:List D} {ns:List Int},z0h ds=some ns->ds=ns.map D.int
 |[],ns,h=>by
  unfold z0h at h;simp at h;subst h;rfl
 |d::ds,ns,h=>by
  unfold z0h at h;rw[mapM_cons]at h;obtain⟨i,e1,h⟩:=zi h;obtain⟨r,e2,h⟩:=zi h;cases h
  cases d with
  |int j=>cases e1;rw[zLe (show z0h ds=some r from e2)];rfl
  |_=>cases e1
def zfh{K:yr}{ρ:List Addr}{H:Hp}:∀{ns:List Int} {vs:List V},RepVs K ρ H (ns.map D.int) vs->vs=ns.map V.int
 |[],vs,r=>r.nil_inv
 |i::ns,vs,r=>by
  obtain⟨v,q,rfl,h1,h2⟩:=r.cons_inv;rw[h1.int_inv,zfh h2];rfl
def z6e{K:yr}{ρ:List Addr}{H:Hp}:∀{ns:List Int},RepVs K ρ H (ns.map D.int) (ns.map V.int)
 |[] => .nil
 |i::ns => .cons .int z6e
def uqL(ns:List Int):List Int:=uqN (fun i=>ns.getD i 0) ns.length
def zAu(ns:List Int):List Int:=(uqL ns).mergeSort fun a b=>decide (a<=b)
def zad{a b:List Int}(p:a.Perm b)(ha:a.Pairwise (·<=·))(hb:b.Pairwise (·<=·)):a=b:=p.eq_of_pairwise (fun _ _ _ _ h1 h2=>Int.le_antisymm h1 h2) ha hb
def z9h(ns:List Int):(ns.mergeSort fun a b=>decide (a<=b)).Pairwise (·<=·):=by
 have:=List.pairwise_mergeSort (le:=fun a b:Int=>decide (a<=b)) (fun a b c h1 h2=>by simp at h1 h2 ⊢;omega) (fun a b=>by simp;omega) ns;exact this.imp fun h=>by simpa using h
def zNq(φ:FE):FE:=fun δ μ=>(φ δ μ).bind fun p=>match p.1 with
 |.loc n=>match p.2[n]? with
  |some (.lst ds)=>(z0h ds).bind fun ns=>bif decide (ns.length<=4000/\(uqL ns).length<64) then some (.loc p.2.length,p.2++[.lst ((zAu ns).map .int)]) else none
  |_=>none
 |_=>none
section
variable {X:Cx}{a b c e:Expr}{es:List Expr}{φ ψ χ:FE}{pos pos2 p1 p2:xi}
def zbr(hm1:X.mg "sorted" = none)(hv1:yK "sorted" = some (.builtin "sorted"))(hm2:X.mg "set" = none)(hv2:yK "set" = some (.type "set"))(h:ME X e φ)(hc:X.calm=true:=by rfl)(hg1:Gl X "sorted":=by rfl)(hg2:Gl X "set":=by rfl)
 (he:yg [e] X.env=(false,yY e X.env)::yg [] X.env:=by rfl) (he2:yg [.Call (.Name "set" p2) [e] [] pos2] X.env=(false,yY (.Call (.Name "set" p2) [e] [] pos2) X.env)::yg [] X.env:=by rfl) :
 ME X (.Call (.Name "sorted" p1) [.Call (.Name "set" p2) [e] [] pos2] [] pos) (zNq φ) :=
 zhd (zQp (z8q hc) hg1 hm1 hv1 (zoe (zFf (z0s hc) hg2 hm2 hv2 (zoe h zUg he) (by decide) (by decide) he rfl) zUg he2) (by decide) (by decide) he2 rfl) fun ρ δ μ σ H d μ' Q A e k=>by
  obtain⟨⟨x,μ1⟩,e1,e⟩:=zi e;refine⟨ρ,δ,μ,x,μ1,A,e1,fun ρ1 H1 v x1 R1 r1=>?_⟩;dsimp only at e
  split at e
  ·split at e
   ·rename_i hm
    obtain⟨ns,e2,e⟩:=zi e;obtain⟨hb,e⟩:=zX e;have hb:=of_decide_eq_true hb;cases e;rw[zLe e2]at hm;obtain⟨p,rfl,ep⟩:=r1.loc_inv;obtain⟨vs,e3,q⟩:=R1.at_ _ _ _ ep hm;rw[zfh q]at e3;refine⟨p,ns,rfl,SqL.of e3,by unfold scanBound;omega,fun p1 hp1=>?_⟩;refine⟨p1,uqL ns,rfl,zF,hb.2,fun p2 ms hp2 hpm hpw=>?_⟩;have hms:ms=zAu ns:=zad (hpm.trans (mergeSort_perm _ _).symm) hpw (z9h _);subst hms;have R2:=R1.newTup (o:=zIt X p1 (uqL ns)) hp1;exact k _ _ _ (x1.trans ((Ext.new hp1).trans (Ext.push hp2))) (R2.push hp2 ⟨_,zF,z6e⟩) (.loc (zDb R2))
   ·cases e
  ·cases e
end
section
variable {prog:yv}{w:yE}{A:yH}{E:Value->yc->Prop}{s:yc}
def zOq{l b:Addr}{its its2:List Value}{n:Nat}{Q:Value->yc->Prop}(hl:s.heap.get? l=some {cls := .type "list",data := .seq its.toArray n })(hb:IsTup s.heap b its2.toArray)(hz:its.length+its2.length<=yB)
 (h:Q .none {s with heap:=s.heap.update l (xM (· ++ its2.toArray))}):yk (yp prog w) A (call (.builtin "list.extend") [.ref l, .ref b]) Q E s:=by
 obtain⟨o,ho,hc,m,hd⟩:=hb
 have hlong:¬(!its.toArray.isEmpty&&YY (its.toArray.size+its2.toArray.size))=true:=by
  rw[notLongL (by rw[size_toArray,size_toArray];exact hz),Bool.and_false];exact yx
 refine yX PySem.F.slot_list_extend ⟨_,hl,rfl⟩ PySem.F.entry_list_extend ?_ (PySem.F.args_list_extend_2 _ _);unfold xt.«list.extend»;refine ya (m:=selfAndOne "list.extend" ⟨[.ref l, .ref b],[]⟩) (ye ?_);dsimp only;unfold Yo;refine ya (Xm (T:="tuple") ⟨o,ho,hc⟩ ?_);have ht:(YC "tuple" == YC "tuple")=true:=by rfl
 rw[if_pos (by rw[ht];simp)];refine ya (listItems_at ho hd ?_);refine ya (listItems_at hl rfl ?_);rw[if_neg hlong];refine ya (listUpdate_at hl rfl ?_ (by rw[size_toArray];omega) (by rw[Array.size_append,size_toArray,size_toArray];omega));exact ye ⟨_,rfl,h⟩
end
section
variable {X:Cx}{a b c e:Expr}{es:List Expr}{φ ψ χ:FE}{pos:xi}
@[simp] def zCv:GM:=fun x ds μ=>match x,ds with
 |.loc n,[.tup ys]=>match μ[n]? with
  |some (.lst xs)=>bif decide (xs.length+ys.length<=1000000) then some (.non,μ.set n (.lst (xs++ys))) else none
  |_=>none
 |.loc n,[.loc m]=>match μ[n]?,μ[m]? with
  |some (.lst xs),some (.lst ys)=>bif decide (xs.length+ys.length<=1000000) then some (.non,μ.set n (.lst (xs++ys))) else none
  |_,_=>none
 |_,_=>none
def zeq:MtG X "list.extend" zCv:=by
 refine MtG.of fun pins s σ H x xs v us Q I rx rs ρ dx ds μ d μ' r1 r2 R e k=>?_;have hmi:=million;unfold zCv at e
 split at e
 ·split at e
  ·rename_i hm
   obtain⟨h1,e⟩:=zX e;have h1:=of_decide_eq_true h1;cases e;obtain⟨l,rfl,ea⟩:=r1.loc_inv;obtain⟨vs,e3,q3⟩:=R.at_ _ _ _ ea hm;obtain⟨w,r,rfl,q1,q2⟩:=r2.cons_inv;rw[q2.nil_inv]at rs;obtain⟨b,ws,rfl,eb,qb⟩:=q1.tup_inv;obtain⟨u,rfl,ru⟩:=vals1 rs;cases ru;cases rx;obtain⟨z,its,n,rv,hl,el⟩:=I.lstM e3;obtain⟨its2,rv2,pt,_⟩:=I.tuple (SqT.of (K:=X.K) eb);have hl1:=q3.length;have hl2:=qb.length;have hl3:=rv2.length;have hmu:Mut (H l):=by rw[e3];trivial
   refine zOq el pt (by omega) ?_;refine⟨.non,_,I.lset (t':=s.toks) (ys:=vs++ws) (its':=its++its2) e3 el (by simp) (rv.append rv2) (by rw[length_append];omega),rfl,?_⟩;exact k ρ _ _ (Ext.wr hmu) (R.wr hmu ea ⟨_,zF,RepVs.ext (Ext.wr hmu) (q3.append qb)⟩) .non
  ·cases e
 ·split at e
  ·rename_i hm1 hm2
   obtain⟨h1,e⟩:=zX e;have h1:=of_decide_eq_true h1;cases e;obtain⟨l,rfl,ea⟩:=r1.loc_inv;obtain⟨vs,e3,q3⟩:=R.at_ _ _ _ ea hm1;obtain⟨w,r,rfl,q1,q2⟩:=r2.cons_inv;rw[q2.nil_inv]at rs;obtain⟨b,rfl,eb⟩:=q1.loc_inv;obtain⟨ws,e4,q4⟩:=R.at_ _ _ _ eb hm2;have hl1:=q3.length;have hl2:=q4.length;have hmu:Mut (H l):=by rw[e3];trivial
   refine zEr pins s σ H _ _ v us Q I rx rs ⟨l,b,vs,ws,rfl,rfl,e3,e4,by omega,?_⟩;exact k ρ _ _ (Ext.wr hmu) (R.wr hmu ea ⟨_,zF,RepVs.ext (Ext.wr hmu) (q3.append q4)⟩) .non
  ·cases e
 ·cases e
def zFn{o:Expr}{ψ:FA}{apos:xi}(ho:ME X o φ)(ha:MAn X (e::es) ψ)
 (hbase:Yn o "extend" X.env (yY o X.env)=yY o X.env:=by rfl)
 (hfew:((Yh pos (yg (e::es) X.env)).all (fun x=>!x.1)&&(xA pos (YE [] X.env)).all (fun x=>x.1.isSome)
  && decide ((e::es).length+([]:List xr).length+(if([]:List xr).isEmpty then 0 else 1)<30))=true:=by rfl)
 (hline:(apos.endLine==pos.line)=true:=by rfl) (hs:yg (e::es) X.env=(false,yY e X.env)::yg es X.env:=by rfl) (hplain:(Yh pos (yg es X.env)).any (·.1)=false:=by rfl) :
 ME X (.Call (.Attribute o "extend" apos) (e::es) [] pos) (zAf zCv φ ψ):=zpm PySem.F.slot_list_extend PySem.F.type_list_extend zeq ho ha hbase hfew hline hs hplain
@[simp] def z4x:GL:=fun ds μ=>match ds with
 |[.loc n]=>match μ[n]? with
  |some (.lst xs)=>(z0h xs).bind fun ns=>some (.int ns.sum,μ)
  |_=>none
 |_=>none
def zSm(ns:List Int):∀i,i<=ns.length->preSum (fun j=>ns.getD j 0) i=(ns.take i).sum
 |0,_=>by simp[preSum]
 |i+1,h=>by
  have ih:=zSm ns i (by omega);unfold preSum;have hi:i<ns.length:=by omega
  have e:ns.take (i+1)=ns.take i++[ns[i]]:=by simp
  rw[ih,e,List.sum_append];simp[hi]
def zlr(hc:X.calm=true):CallM X (.builtin "sum") z4x:=by
 refine CallM.of fun pins s σ H xs us Q I r ρ ds μ d μ' r1 R e k=>?_;unfold z4x at e
 split at e
 ·split at e
  ·rename_i hm
   obtain⟨ns,e2,e⟩:=zi e;cases e;rw[zLe e2]at hm;obtain⟨v,rr,rfl,q1,q2⟩:=r1.cons_inv;obtain⟨a,rfl,ea⟩:=q1.loc_inv;obtain⟨vs,e3,q3⟩:=R.at_ _ _ _ ea hm;rw[zfh q3]at e3;rw[q2.nil_inv]at r;obtain⟨u,rfl,ru⟩:=vals1 r;cases ru;obtain⟨its,rv,pl,hz⟩:=I.list (SqL.of (K:=X.K) e3);have hlt:a<s.heap.objs.size:=by obtain⟨_,_,e,_⟩:=pl;exact yi e
   have hI:=zbg rv;have hl:its.length=ns.length:=by rw[<-rv.length];simp
   refine call_sum_walkAnyS (wpAny_pyIter_list pl.isList ?_);refine⟨_,_,_,_,_,_,_,fun j=>ns.getD j 0,rfl,(Walks.list (A:=X.A.in1) (I.ok.hd hc) s.heap.objs.size a (yw hlt) its.toArray).toS,⟨⟨_,yo _ rfl,rfl,rfl⟩,pl.isList.push _⟩,fun b hb=>?_,fun i v hv=>IntsAre.int_at hI i v (by simpa using hv),fun s' t' hmv=>?_⟩
   ·show b<(s.heap.push _).objs.size;rw[Yl];simp at hb;rcases hb with rfl | rfl
    ·exact Yr _
    ·exact Yt hlt
   ·refine⟨.int _,H,zju I hmv.os hmv.gens fun b o e=>hmv.heap b o (by simpa using yw (yi e)) (yd _ e),⟨t',rfl⟩,?_⟩;rw[size_toArray,hl,zSm ns _ (yh _),take_length];exact k ρ H _ Ext.refl R .int
  ·cases e
 ·cases e
@[simp] def zLg(φ:FE):FI:=fun δ μ=>(φ δ μ).bind fun p=>match p.1 with
 |.tup ds=>some (ds,yes,p.2)
 |.fz ds=>some (ds,yes,p.2)
 |.loc n=>match p.2[n]? with
  |some (.lst ds)=>some (ds,zOn n ds,p.2)
  |_=>none
 |_=>none
def z1c{tg:Expr}(h:ME X a φ):MI X tg a (zLg φ):=by
 intro pins s σ H R I hh;obtain⟨ρ,δ,μ,ds,ok,μ',A,e,k⟩:=hh
 cases e1:φ δ μ with
 |none=>unfold zLg at e;rw[e1]at e;cases e
 |some p=>
  obtain⟨x,μ1⟩:=p
  cases x with
  |tup zs=>exact zyy h pins s σ H R I ⟨ρ,δ,μ,ds,ok,μ',A,by unfold zLg at e;unfold ziv;rw[e1]at e ⊢;exact e,k⟩
  |fz zs=>exact zhs h pins s σ H R I ⟨ρ,δ,μ,ds,ok,μ',A,by unfold zLg at e;unfold z9s;rw[e1]at e ⊢;exact e,k⟩
  |loc n=>exact zhs h pins s σ H R I ⟨ρ,δ,μ,ds,ok,μ',A,by unfold zLg at e;unfold z9s;rw[e1]at e ⊢;exact e,k⟩
  |_=>unfold zLg at e;rw[e1]at e;cases e
end
def zsn{K:yr}{h:yT}{C:Addr}{bmB:List Value}{newId:String}(X:K.In h)(q:W.excIn K C bmB newId=true) :
 ∃bm N nm qn bs hdct sn sub ab col dd k0 k1 k2 k3 k5 mN,h.get? C=some (xb nm qn C N bs bm hdct sn sub ab col dd k0 k1 k2 k3 k5 newId)/\h.Ns N mN/\mN "__init__" = none/\OwnTail h bmB bm:=by
 unfold W.excIn at q
 split at q
 ·rename_i dd cd sl ho
  split at q
  ·rename_i C' bm k0 k1 k2 k3 n k5 hm hs
   simp only[yG,beq_iff_eq,Bool.not_eq_true']at q;obtain⟨⟨⟨⟨⟨rfl,rfl⟩,hdel⟩,ht⟩,hok⟩,hni⟩:=q;obtain⟨nm,bs,mro,ns,qn,hd,sn,sub,ab,col,del⟩:=cd;dsimp only at hm hdel hok hni;subst hm hdel
   have hsl:sl = #[k0,k1,k2,k3,some (.builtin n),k5]:=by
    obtain⟨l⟩:=sl;simp only at hs;rw[hs]
   subst hsl;exact⟨bm,ns,nm,qn,bs,hd,sn,sub,ab,col,dd,k0,k1,k2,k3,k5,_,X _ _ ho, .of_isNs (W.isNs_of_in X hok),W.nsMap_none_of_in X hok hni,W.tail_of_in X ht⟩
  ·cases q
 ·cases q
section
variable {X:Cx}{e:Expr}{es:List Expr}{pos np cpos:xi}{x:Str}{C:Addr}{B newId initId:String}{bmB:List Value}
@[simp] def zOm(c:Str)(φ:FA):FS:=fun δ μ=>(φ δ μ).bind fun p=>some (.exc c [] p.2)
def z4o{φ:FA}(hn:Yg X.K yj x=some (some (.ref C)))(q:W.excIn X.K C bmB newId=true)(FB:ExcBaseFacts B newId initId bmB)(ha:MAn X (e::es) φ)(hl:(e::es).length<=1000:=by decide)(hh:X.calm=true:=by rfl)(hg:Gl X x:=by rfl)
 (he:yg (e::es) X.env=(false,yY e X.env)::yg es X.env:=by exact z8c rfl) (hpl:(Yh cpos (yg es X.env)).any (·.1)=false:=by rfl) (hdb:(x==("__debug__":Str))=false:=by decide) :
 MS X (.Raise (some (.Call (.Name x np) (e::es) [] cpos)) none pos) (zOm x φ):=by
 intro pins s σ H D I ⟨ρ,δ,μ,o,A,eo,k⟩;obtain⟨⟨ds,μ1⟩,e1,eo⟩:=zi eo;cases eo;obtain⟨bm,N,nm,qn,bs,hdct,sn,sub,ab,col,dd,k0,k1,k2,k3,k5,mN,hC,hN,hni,T⟩:=zsn I.mod.kin q
 have hpl':(Yh cpos (yg (e::es) X.env)).any (·.1)=false:=by
  rw[he];show(false||(Yh cpos (yg es X.env)).any (·.1))=false;rw[hpl];rfl
 refine wpAny_Raise_call_subT (C:=C) (nm:=nm) (q:=qn) (N:=N) (bs:=bs) (bm:=bm) (hdct:=hdct) (sn:=sn) (sub:=sub) (ab:=ab) (col:=col) (dd:=dd) (k0:=k0) (k1:=k1) (k2:=k2) (k3:=k3) (k5:=k5)
  FB (mN:=mN) (T.hasType FB.hasBase) (I.ok.hd hh) hpl' hni (zOf I hg (xu I.mod.kin I.mod.glob hn) ⟨rfl,?_⟩ hdb)
 have h:=ha.ma cpos pins s σ H (fun vs H'=>vs.length<=yB/\zYl X (.ref C) none H') I ⟨ρ,δ,μ,ds,μ1,A,e1,fun ρ' H' vs x' R r=>⟨by
  rw[<-r.length,ha.len _ _ _ _ e1];exact YH (small1000 hl),k ρ' H' C none hn x' R (.inl ⟨rfl,rfl⟩)⟩⟩
 rw[he]at h ⊢;refine Calls.evalArgs_plain (yP h (fun us s2 h2=>?_) fun _ _ y=>y);obtain⟨vs,H',I',r,hl,hw⟩:=h2;exact⟨rfl,by rw[<-r.length];exact hl,I'.bk _ _ hC,hN.keeps I'.bk,T.keeps I'.bk,fun h' a hm=>hw pins σ H' s2 (.ref a) _ I' (I'.madeX hm)⟩
end
inductive RO where
 |ok (d:D) (μ:Mem)
 |exc (c:Str) (fs:List (Str×D)) (μ:Mem)
abbrev FX:=List D->Mem->Option RO
def ROk(K:yr)(ρ:List Addr)(H:Hp)(Q:VK)(E:XK):RO->Prop
 |.ok d μ'=>∀ρ' H' v,Ext ρ H ρ' H'->RepH K ρ' H' μ'->RepV K ρ' H' d v->Q v H'
 |.exc c fs μ'=>∀ρ' H' C dx,Yg K yj c=some (some (.ref C))->Ext ρ H ρ' H'->RepH K ρ' H' μ'->RepX K ρ' H' fs dx->E (.ref C) dx H'
def ROk.ext{K:yr}{ρ ρ1:List Addr}{H H1:Hp}{Q:VK}{E:XK}{r:RO}(h:ROk K ρ H Q E r)(x:Ext ρ H ρ1 H1):ROk K ρ1 H1 Q E r:=by
 cases r with
 |ok d μ=>exact fun ρ' H' v x' R r=>h ρ' H' v (x.trans x') R r
 |exc c fs μ=>exact fun ρ' H' C dx hc x' R r=>h ρ' H' C dx hc (x.trans x') R r
def spX(K:yr)(n:Nat)(F:FX):Sp:=fun vs H Q E=>vs.length=n/\∃ρ ds μ r,RepVs K ρ H ds vs/\RepH K ρ H μ/\F ds μ=some r/\ROk K ρ H Q E r
@[simp] def zyx:Option Out->Option RO
 |some (.ret d μ)=>some (.ok d μ)
 |some (.next _ μ)=>some (.ok .non μ)
 |some (.exc c fs μ)=>some (.exc c fs μ)
 |_=>none
def fnX{P:yv}{w:yE}{K:yr}{mg:Str->Option Value}{base:yT}{x qual:Str}{st:Stmt}{f:Addr}{fd:yf}{N ps:List Str}{k n:Nat}{F:FX}(G:Fun K x qual st f fd)(S:FnScope N ps (zy st))(hn:ps.length=n)
 (hbody:∀(cdv:Value)(A:yH)(outer:List Env)(s:yc)(H:Hp)(E:XK),Room k (A.deeper (envOfC qual (zy st) s.heap.objs.size f cdv)) ->
  ∃p,MSs (zqr (CXq P w) P w K mg base N qual (zy st) f cdv A outer s H E) (zGc st) p/\∀ds μ r,ds.length=n->F ds μ=some r->zyx (p (zR N ds) μ)=some r) :
 FnOk P w K mg base (CXq P w) (k+1) f fd ps (spX K n F):=by
 obtain⟨oc,od,kV,doc,pm,an,cdv,ct,osl,rfl,lk,hcd⟩:=G.ex;refine zQy lk hcd S (fun vs H Q E h=>by rw[hn];exact h.1) fun A outer s H vs Q E hr h=>?_;obtain⟨p,hp,hF⟩:=hbody cdv A outer s H E hr;refine⟨_,hp,?_⟩;obtain⟨hl,ρ,ds,μ,r,rv,R,e,hk⟩:=h;have e':=hF ds μ r (by rw[rv.length];exact hl) e
 cases eo:p (zR N ds) μ with
 |none=>rw[eo]at e';cases e'
 |some o=>
  rw[eo]at e';refine⟨ρ,zR N ds,μ,o,zEp rv R,eo,?_⟩
  cases o with
  |ret d2 μ2=>cases e';exact fun ρ' v H' x' R' r'=>hk ρ' H' v x' R' r'
  |next δ2 μ2=>cases e';exact fun ρ' σ' H' x' A'=>hk ρ' H' .non x' A'.hp .non
  |exc c fs μ2=>cases e';exact fun ρ' H' C dx hc x' R' r'=>z3q (hk ρ' H' C dx hc x' R' r')
  |brk _ _=>cases e'
  |cont _ _=>cases e'
section
variable {X:Cx}{e:Expr}{es:List Expr}{pos p spos:xi}{x:Str}{k j n:Nat}{st:Stmt}{f:Addr}{fd:yf}{ps:List Str}{F:FX}{φ:FA}
def tCX(K:PySem.W.Frag)(W:XK)(n:Nat)(F:FX)(φ:FA):TE:=zws (spX K n F) [] W (tMA K φ)
def zsy{K:PySem.W.Frag}{W:XK}{ρ:List Addr}{δ:Loc}{μ:Mem}{σ:L2.St}{H:Hp}{Q:VK}{ds:List D}{μ1:Mem}{r:RO}(A:At K ρ H σ δ μ)(e1:φ δ μ=some (ds,μ1))(hl:ds.length=n)(e2:F ds μ1=some r)(h:ROk K ρ H Q W r):tCX K W n F φ σ H Q :=
 ⟨ρ,δ,μ,ds,μ1,A,e1,fun ρ1 H1 vs x1 R1 r1=>by
  show spX K n F (vs++[]) H1 Q W;rw[append_nil];exact⟨by rw[<-r1.length];exact hl,ρ1,ds,μ1,r,r1,R1,e2,h.ext x1⟩⟩
@[simp] def zVz(F:FX)(φ:FA)(g:D->Loc->Mem->Out):FS:=fun δ μ=>(φ δ μ).bind fun p=>match F p.1 p.2 with
 |some (.ok d μ')=>some (g d δ μ')
 |some (.exc c fs μ')=>some (.exc c fs μ')
 |none=>none
def z3t{g:D->Loc->Mem->Out}{δ:Loc}{μ:Mem}{o:Out}(h:zVz F φ g δ μ=some o):∃ds μ1 r,φ δ μ=some (ds,μ1)/\F ds μ1=some r/\o=match r with
 |.ok d μ'=>g d δ μ'
 |.exc c fs μ' => .exc c fs μ':=by
 obtain⟨⟨ds,μ1⟩,e1,h⟩:=zi h;refine⟨ds,μ1,?_⟩
 cases e2:F ds μ1 with
 |none=>rw[e2]at h;cases h
 |some r=>
  rw[e2]at h
  cases r with
  |ok d μ'=>cases h;exact⟨_,e1,rfl,rfl⟩
  |exc c fs μ'=>cases h;exact⟨_,e1,rfl,rfl⟩
@[simp] def zjr(i:Nat)(F:FX)(φ:FA):FS:=zVz F φ fun d δ μ => .next (δ.set i (some d)) μ
end
end M
namespace L2
open PySem PySem.Spec PyProof.Rows
section
variable {X:Cx}{pins:List (Addr×YL)}{σ:St}{H:Hp}{s:yc}
def zPl{M:Model}{A:yH}{E:Value->yc->Prop}{i:Nat}{x:Str}{pos:xi}{Q:Unit->yc->Prop}(I:Inv X pins σ H s)(hN:X.N.Nodup)(hi:X.N[i]?=some x)(hk:X.env.scope.names.lookup x=some .local)
 (h:∀s',Inv X pins (σ.set i none) H s'->Q () s'):yk M A (do bindName X.env x .none;unbindBehindTheSuite X.env x pos) Q E s:=by
 obtain⟨m,hn,hl⟩:=id I.loc;have hcls:(X.env.scope.kind == .class||(X.env.scope.kind == .module&&X.env.locals != X.env.globals))=false:=by rw[I.ok.kind];rfl
 have hiσ:i<σ.length:=by rw[I.len];exact(List.getElem?_eq_some_iff.mp hi).1
 refine wpAny_nameGoes_keeps hk hn hcls fun h' v hn' hs=>?_;have old:∀b o,X.s₀.heap.get? b=some o->b≠X.env.locals:=fun b o e=>yw (yq (yi e) I.ok.above)
 have hok:HOk X.prog X.w H h':=fun b ob e=>by
  refine(I.hok b ob e).stay (fun c w' hc q=>(hs.2 c ?_).trans q) (fun _ q=>q) fun _ _ q=>q;rintro rfl;rcases hc with rfl | hc
  ·rw[I.free]at e;cases e
  ·rw[I.free]at hc;cases hc
 refine h _ ⟨I.ok,I.os,I.bare,⟨fun b o e n hb hx=>(hs.2 b (old b o e)).trans (I.base.keep b o e n hb hx),fun b o e n hb hx=>?_,I.base.free,fun b o e hx=>?_,I.base.tups,I.base.frzs,I.base.tbls⟩,⟨_,hn',fun j y v' e1 e2 e3=>?_⟩,fun y c e=>?_,I.free,I.freeC,fun p hp=>?_,hok,by simpa using I.len⟩
 ·obtain⟨sl,e1⟩:=I.base.slot b o e n hb hx;exact⟨sl,(hs.2 b (old b o e)).trans e1⟩
 ·obtain⟨o',e1⟩:=I.base.there b o e hx;exact⟨o',(hs.2 b (old b o e)).trans e1⟩
 ·by_cases hj:j=i
  ·subst hj;rw[yU hiσ]at e2;cases e2
  ·rw[yR (yF hj)]at e2;obtain⟨u',r',q⟩:=hl j y v' e1 e2 e3;refine⟨u',r',?_⟩;rcases q with ⟨k,e⟩ | ⟨k,c,e,z⟩
   ·refine .inl ⟨k,?_⟩;have:y≠x:=fun e=>hj (zHm hN e1 (e▸hi));simp[this,e]
   ·exact .inr ⟨k,c,e,z.sameBut hs (I.cne y c e)⟩
 ·obtain⟨w',z⟩:=I.cell y c e;exact⟨w',z.sameBut hs (I.cne y c e)⟩
 ·obtain⟨p1,p2,p3,p4,p5⟩:=I.pin p hp;exact⟨(hs.2 p.1 p3).trans p1,p2,p3,p4,p5⟩
abbrev Cx.suite(X:Cx)(v:Value):Cx:={X with A:=X.A.mark (some v),calm:=false,xe:=fun _ _=>False }
def Inv.suite(I:Inv X pins σ H s)(v:Value):Inv (X.suite v) pins σ H s :=
 ⟨⟨I.ok.mod,I.ok.kind,I.ok.glob,I.ok.blt,I.ok.above,I.ok.inj,I.ok.has,I.ok.cab,fun z=>absurd z (by simp),I.ok.frames,I.ok.stk,I.ok.exf,I.ok.bs,I.ok.bsz,I.ok.noex,I.ok.exfs,I.ok.funs,I.ok.frf⟩,
  I.os,I.bare,I.base,I.loc,I.cell,I.free,I.freeC,I.pin,I.hok,I.len⟩
def Inv.unsuite{v:Value}(ok:X.Ok)(I:Inv (X.suite v) pins σ H s):Inv X pins σ H s :=
 ⟨ok,I.os,I.bare,I.base,I.loc,I.cell,I.free,I.freeC,I.pin,I.hok,I.len⟩
def HOk.track{P:yv}{w:yE}{h:yT}{a:Addr}{o:HO}(x:HOk P w H h)(hn:H a=none)(new:ObjOk P w (upd H a o) h a o):HOk P w (upd H a o) h:=fun b u e=>by
 by_cases hb:b=a
 ·subst hb;rw[zF]at e;cases e;exact new
 ·rw[zK hb]at e;exact(x b u e).stay (fun c v _ q=>q) (fun c q=>by rw[zK (zI q hn)];exact q) fun c xs q=>by rw[zK (zI q hn)];exact q
end
section
variable {M:Model}{A:yH}{E:Value->yc->Prop}{h:yT}{g:Array GenState}{d:Drawn}{t:Nat}{os:OsState}
def zyg{nm q:Str}{C N:Addr}{bs bm:List Value}{hdct:Bool}{sn:List Str}{sub:List Value}{ab:Bool}{col:Option Bool}{dd:Option Addr}{k0 k1 k2 k3 k5:Option Value}{newId:String}
 {nm' q':Str} {C' N':Addr} {bs' bm':List Value} {hdct':Bool} {sn':List Str} {sub':List Value} {ab':Bool} {col':Option Bool} {dd':Option Addr} {k0' k1' k2' k3' k5':Option Value} {newId':String} {e:Addr} {oe:YL} {b:Bool} {Q:Bool->yc->Prop}
 (hC:h.get? C=some (xb nm q C N bs bm hdct sn sub ab col dd k0 k1 k2 k3 k5 newId)) (hC':h.get? C'=some (xb nm' q' C' N' bs' bm' hdct' sn' sub' ab' col' dd' k0' k1' k2' k3' k5' newId'))
 (he:h.get? e=some oe) (hcls:oe.cls = .ref C) (hbase:bm'.contains (.type "BaseException")=true) (hb:(yC C::bm).contains (.ref C')=b) (hq:Q b ⟨h,g,d,t,os⟩):yk M A (excMatches (.ref e) (.ref C')) Q E ⟨h,g,d,t,os⟩:=by
 have hcB:(yC C'::bm').contains (.type "BaseException")=true:=by rw[List.contains_cons,hbase,Bool.or_true]
 have f:=tc_notTuple;unfold excMatches
 cases b with
 |true=>
  repeat (first | (with_reducible refine YF he ?_;rw[hcls]) | with_reducible refine YF hC' ?_ | (with_reducible refine xh hC' ?_;rw[hcB]) | (with_reducible refine xh hC ?_;rw[hb]) | wp_step)
  exact hq
 |false=>
  repeat (first | (with_reducible refine YF he ?_;rw[hcls]) | with_reducible refine YF hC' ?_ | (with_reducible refine xh hC' ?_;rw[hcB]) | (with_reducible refine xh hC ?_;rw[hb]) | wp_step)
  exact hq
end
def zfs{K:yr}{h:yT}{C:Addr}{v:Value}{b:Bool}{nm q:Str}{N:Addr}{bs bm:List Value}{hdct:Bool}{sn:List Str}{sub:List Value}{ab:Bool}{col:Option Bool}{dd:Option Addr}{k0 k1 k2 k3 k5:Option Value}{newId:String}(X:K.In h)(e:Xb K C v=some b)
 (hC:h.get? C=some (xb nm q C N bs bm hdct sn sub ab col dd k0 k1 k2 k3 k5 newId)):(yC C::bm).contains v=b:=by
 obtain⟨cd,a,z⟩:=Option.bind_eq_some_iff.mp e;unfold W.clsIn at a
 split at a
 ·rename_i ho
  cases a;have:=X _ _ ho;rw[hC]at this;cases this
  split at z
  ·cases z
  ·cases z;rfl
 ·cases a
end L2
namespace M
open PySem PySem.Spec PyProof.Rows L2
def XP(X:Cx)(pins:List (Addr×YL))(σ:L2.St)(W:XK)(e:Value)(s':yc):Prop:=∃H1 s1 C dx H',Inv X pins σ H1 s1/\FlyX X.prog X.w X.stack H1 s1 C dx H' e s'/\W C dx H'
def PX1(X:Cx)(st:Stmt)(ψ:FS):Prop:=∀(pins:List (Addr×YL)) (s:yc) (σ:L2.St) (H:Hp) (D:Ends) (W:XK),Inv X pins σ H s->tMS X.K W ψ D σ H->yk (yp X.prog X.w) X.A (exec st X.env) (SP X pins D) (XP X pins σ W) s
def PX(X:Cx)(sts:List Stmt)(ψ:FS):Prop:=∀(pins:List (Addr×YL)) (s:yc) (σ:L2.St) (H:Hp) (D:Ends) (W:XK),Inv X pins σ H s->tMS X.K W ψ D σ H->yk (yp X.prog X.w) X.A (execs sts X.env) (SP X pins D) (XP X pins σ W) s
section
variable {X:Cx}{c e:Expr}{es:List Expr}{pos p spos:xi}{x:Str}{k j n:Nat}{st:Stmt}{f:Addr}{fd:yf}{ps:List Str}{F:FX}{φ:FA}
def zwn{ψ:FS}(h:PX1 X st ψ):PX X [st] ψ:=by
 intro pins s σ H D W I q;refine wpAny_execs_cons (thn (h pins s σ H D W I q) fun f s1 q=>?_)
 cases f with
 |next=>exact xQ q
 |ret v=>exact q
 |brk=>exact q
 |cont=>exact q
def zGx{a b:List Stmt}{t:FT}{ψ χ:FS}(hc:MT X.nox c t)(ha:PX X a ψ)(hb:PX X b χ):PX1 X (.If c a b pos) (sIf t ψ χ):=by
 intro pins s σ H D W I ⟨ρ,δ,μ,o,A,eo,kk⟩;obtain⟨⟨b,μ1⟩,e1,eo⟩:=zi eo;refine wpAny_If (yP (hc pins s σ H (fun b' H1=>b'=b/\∃ρ1,Ext ρ H ρ1 H1/\RepH X.K ρ1 H1 μ1) (I.wish _) ⟨ρ,δ,μ,b,μ1,A,e1,fun ρ' H' x' R=>⟨rfl,ρ',x',R⟩⟩) (fun d s1 h1=>?_) fun _ _ z=>z.elim);obtain⟨H1,I1,rfl,ρ1,x1,R1⟩:=h1
 cases d with
 |true=>exact ha pins s1 σ H1 D W I1.unwish ⟨ρ1,δ,μ1,o,A.ext x1 R1,eo,kk.ext x1⟩
 |false=>exact hb pins s1 σ H1 D W I1.unwish ⟨ρ1,δ,μ1,o,A.ext x1 R1,eo,kk.ext x1⟩
end
abbrev FH:=Str->List (Str×D)->FS
def Cau(X:Cx)(pins:List (Addr×YL))(σ:L2.St)(C:Value)(dx:Option Addr)(H':Hp)(a:Addr)(s':yc):Prop:=∃H1 s1,Inv X pins σ H1 s1/\FlyX X.prog X.w X.stack H1 s1 C dx H' (.ref a) s'
def zat{P:yv}{w:yE}{outer:List Env}{H H':Hp}{s s':yc}{C:Value}{dx:Option Addr}{a:Addr}{B base h2:yT}(F:FlyX P w outer H s C dx H' (.ref a) s')(c:Cov outer H' s.heap B)(st:B.StaysIn s'.heap)(fl:Fly B outer a C dx h2)(sm:s'.heap.UpToSlots h2)
 (ff:s.heap.FunFrames base outer) (frf:∀b∈frs outer,H b=none):FlyX P w outer H s C dx H' (.ref a) {s' with heap:=h2 } :=
 ⟨F.os,F.bare,zyo F.un c st fl.st sm ff frf,zDl F.hok c st fl.st,a,B,rfl,fl,c⟩
def MH(X:Cx)(hs:List ExceptHandler)(η:FH):Prop :=
 ∀pins σ C c fs dx H' a s' ρ δ μ o D,Cau X pins σ (.ref C) dx H' a s'->Yg X.K yj c=some (some (.ref C))->RepX X.K ρ H' fs dx->At X.K ρ H' σ δ μ->η c fs δ μ=some o->OutOk X.K (zYl X) ρ H' D o ->
  yk (yp X.prog X.w) X.A (handleBy (.ref a) X.env hs) (SP X pins D) X.xe s'
@[simp] def zey:FH:=fun _ _ _ _=>none
def z5v{X:Cx}{hs:List ExceptHandler}:MH X hs zey:=fun _ _ _ _ _ _ _ _ _ _ _ _ _ _ _ _ _ _ e _=>by cases e
@[simp] def znt(p:FS)(η:FH):FS:=fun δ μ=>match p δ μ with
 |some (.exc c fs μ')=>η c fs δ μ'
 |o=>o
def zoy{X:Cx}{body:List Stmt}{h0:ExceptHandler}{hs:List ExceptHandler}{pos:xi}{p:FS}{η:FH}(hb:PX X body p)(hh:MH X (h0::hs) η)(hst:X.stack=X.env::X.outer:=by rfl)(hfm:X.env.frame=some X.env.locals:=by rfl):MS X (.Try body (h0::hs) [] [] pos) (znt p η):=by
 intro pins s σ H D I ⟨ρ,δ,μ,o,A,eo,kk⟩
 have calm:∀o',p δ μ=some o'->(∀c fs μ',o'≠.exc c fs μ')->yk (yp X.prog X.w) X.A (exec (.Try body (h0::hs) [] [] pos) X.env) (SP X pins D) X.xe s:=fun o' ep hne=>by
  have eo':o'=o:=by
   unfold znt at eo;rw[ep]at eo
   cases o' with
   |exc c fs μ'=>exact absurd rfl (hne c fs μ')
   |next _ _=>cases eo;rfl
   |ret _ _=>cases eo;rfl
   |brk _ _=>cases eo;rfl
   |cont _ _=>cases eo;rfl
  subst eo';refine wpAny_Try_except (yP (hb pins s σ H D E0 I ⟨ρ,δ,μ,o',A,ep,?_⟩) (fun fl s1 q=>?_) fun e s1 ⟨_,_,_,_,_,_,_,z⟩=>z.elim)
  ·cases o' with
   |exc c fs μ'=>exact absurd rfl (hne c fs μ')
   |next _ _=>exact kk
   |ret _ _=>exact kk
   |brk _ _=>exact kk
   |cont _ _=>exact kk
  ·cases fl with
   |next=>exact xQ q
   |ret v=>exact q
   |brk=>exact q
   |cont=>exact q
 cases ep:p δ μ with
 |none=>unfold znt at eo;rw[ep]at eo;cases eo
 |some o'=>
  cases o' with
  |next _ _=>exact calm _ ep (by intros;simp)
  |ret _ _=>exact calm _ ep (by intros;simp)
  |brk _ _=>exact calm _ ep (by intros;simp)
  |cont _ _=>exact calm _ ep (by intros;simp)
  |exc c fs μ'=>
   have eo:η c fs δ μ'=some o:=by unfold znt at eo;rw[ep]at eo;exact eo
   refine wpAny_Try_except (yP (hb pins s σ H {nx:=fun _ _=>False,rt:=fun _ _=>False } (fun Cv dx H'=>∃C ρ',Cv = .ref C/\Yg X.K yj c=some (some (.ref C))/\Ext ρ H ρ' H'/\RepH X.K ρ' H' μ'/\RepX X.K ρ' H' fs dx) I
    ⟨ρ,δ,μ,_,A,ep,fun ρ' H' C dx hc x' R r=>⟨C,ρ',rfl,hc,x',R,r⟩⟩) (fun fl s1 q=>?_) fun e s1 q=>?_)
   ·cases fl with
    |next=>obtain⟨_,_,_,z⟩:=q;exact z.elim
    |ret v=>obtain⟨_,_,_,_,_,z⟩:=q;exact z.elim
    |brk=>obtain⟨_,_,_,z⟩:=q;exact z.elim
    |cont=>obtain⟨_,_,_,z⟩:=q;exact z.elim
   ·obtain⟨H1,s2,Cv,dx,H',I1,F,C,ρ',rfl,hc,x',R,rX⟩:=q;obtain⟨a,B,rfl,fl,cov⟩:=F.fly;have fl':Fly B (X.env::X.outer) a (.ref C) dx s1.heap:=by rw[<-hst];exact fl
    have hfr:X.A.frames=some (X.env::X.outer):=by rw[<-hst];exact I.ok.frames
    refine zuk hfr hfm fl' fun h2 fl2 sm2=>zgf (s:={s1 with heap:=h2 }) fl2 fun h3 fl3 sm3=>?_;rw[<-hst]at fl3;exact hh pins σ C c fs dx H' a {s1 with heap:=h3 } ρ' δ μ' o D ⟨H1,s2,I1,zat (h2:=h3) F cov fl.st fl3 (sm2.trans sm3) I1.stack I1.stkFree⟩ hc rX (A.ext x' R) eo (kk.ext x')
@[simp] def behind(i:Nat):Option Out->Option Out
 |some (.next δ μ)=>some (.next (δ.set i none) μ)
 |some (.ret d μ)=>some (.ret d μ)
 |some (.brk δ μ)=>some (.brk (δ.set i none) μ)
 |some (.cont δ μ)=>some (.cont (δ.set i none) μ)
 |_=>none
@[simp] def hAs(i:Nat)(tb:List (Str×Bool))(q:FS)(η:FH):FH:=fun c fs δ μ=>match tb.lookup c with
 |some true=>behind i (q (δ.set i (some (.loc μ.length))) (μ++[.exc c fs]))
 |some false=>η c fs δ μ
 |none=>none
def Subs(K:yr)(D0:Addr)(tb:List (Str×Bool)):Prop:=∀c b,tb.lookup c=some b->∀C,Yg K yj c=some (some (.ref C))->W.ktsIn K C "BaseException" = true/\Xb K C (.ref D0)=some b
def At.unset{K:yr}{ρ:List Addr}{H:Hp}{σ:L2.St}{δ:Loc}{μ:Mem}(A:At K ρ H σ δ μ)(i:Nat):At K ρ H (σ.set i none) (δ.set i none) μ:=by
 refine⟨fun j d' e=>?_,A.hp,by simp[A.len]⟩
 by_cases hj:j=i
 ·subst hj
  have hl:j<δ.length:=by
   have:=(List.getElem?_eq_some_iff.mp e).1;simpa using this
  rw[yU hl]at e;cases e
 ·rw[yR (yF hj)]at e;obtain⟨u,e1,q⟩:=A.st j d' e;exact⟨u,by rw[yR (yF hj)];exact e1,q⟩
def zzz{X:Cx}{d n:Str}{D0:Addr}{b0:Stmt}{suite:List Stmt}{pos np:xi}{rest:List ExceptHandler}{q:FS}{η:FH}(i:Nat)(tb:List (Str×Bool))(hd:Yg X.K yj d=some (some (.ref D0)))(hk:W.ktsIn X.K D0 "BaseException" = true)(ht:Subs X.K D0 tb)
 (hq:∀v,MSs (X.suite v) (b0::suite) q) (hr:MH X rest η) (hg:Gl X d:=by rfl) (hN:X.N.Nodup:=by first | assumption | decide) (hi:X.N[i]?=some n:=by rfl) (hl:X.env.scope.names.lookup n=some .local:=by rfl) (hdb:(d==("__debug__":Str))=false:=by decide) :
 MH X (.ExceptHandler (some (.Name d np)) (some n) (b0::suite) pos::rest) (hAs i tb q η):=by
 intro pins σ C c fs dx H' a s' ρ δ μ o D hcau hc hX A eo kk;obtain⟨H1,s1,I1,F⟩:=hcau;obtain⟨a',B,ea,fl,cov⟩:=F.fly;cases ea;have J:Inv X pins σ H' s':=I1.fly F cov fl.st fl.st (.refl _);obtain⟨oe,vs,y,he,hcl,hdx,hfd,h1,tr⟩:=fl.ob
 cases hb:tb.lookup c with
 |none=>unfold hAs at eo;rw[hb]at eo;cases eo
 |some b=>
  obtain⟨kC,mC⟩:=ht c b hb C hc;obtain⟨nm,qn,N,bs,bm,hdct,sn,sub,ab,col,dd,k0,k1,k2,k3,k5,newId,hC,_,_⟩:=W.kts_cls J.kIn kC;obtain⟨nm',qn',N',bs',bm',hdct',sn',sub',ab',col',dd',k0',k1',k2',k3',k5',newId',hC',hbase',_⟩:=W.kts_cls J.kIn hk;refine wpAny_handleBy_cons (codeAny_handlers_test (zOf (X:=X.suite (.ref a)) (J.suite (.ref a)) hg (xu J.mod.kin J.mod.glob hd) ?_ hdb)) (by intro z;cases z);obtain⟨hh,g,dr,tk,os⟩:=s';refine zyg hC hC' he hcl hbase' (zfs J.kIn mC hC) ?_
  cases b with
  |false=>
   unfold hAs at eo;rw[hb]at eo;exact hr pins σ C c fs dx H' a _ ρ δ μ o D ⟨H1,s1,I1,F⟩ hc hX A eo kk
  |true=>
   unfold hAs at eo;rw[hb]at eo;refine codeAny_handlers_suite_as (zgf (s:=⟨hh,g,dr,tk,os⟩) fl fun h2 fl2 sm2=>?_)
   have hna:H' a=none:=by
    cases z:H' a with
    |none=>rfl
    |some u=>obtain⟨w,hw⟩:=cov.tr a u z;rw[fl.new]at hw;cases hw
   have hold:∀b o,s1.heap.get? b=some o->b≠a:=fun b o ho z=>by
    subst z
    by_cases hm:b∈frs X.stack
    ·obtain⟨_,o',ho',hnf⟩:=fl.ff.mem hm;rw[he]at ho';cases ho';exact hnf _ hfd
    ·obtain⟨w,hw⟩:=cov.old b o ho hm;rw[fl.new]at hw;cases hw
   have u2:=zyo F.un cov fl.st fl2.st sm2 I1.stack I1.stkFree;have ok2:=zDl F.hok cov fl.st fl2.st;obtain⟨oe2,vs2,y2,he2,hcl2,hdx2,hfd2,_,_⟩:=fl2.ob
   have J3:Inv X pins σ (upd H' a (.ext (z9p a C dx))) ⟨h2,g,dr,tk,os⟩:=by
    refine I1.call' (s':=⟨h2,g,dr,tk,os⟩) (ch:=[]) F.os ⟨u2.keep,u2.slot,fun b o e1 e2 e3=>?_,u2.there,fun b xs z=>?_,fun b ob u z=>?_,fun b ps z=>?_⟩ (ok2.track hna ⟨⟨oe2,vs2,he2,hcl2,hdx2,hfd2⟩,⟨_,he2⟩,fun x1 x2 z1 z2=>?_⟩) F.bare fun b z=>absurd z (by simp)
    ·rw[zK (hold b o e1)];exact u2.free b o e1 e2 e3
    ·have:=u2.tups b xs z;rw[zK (zI this hna)];exact this
    ·have:=u2.frzs b ob u z;rw[zK (zI this hna)];exact this
    ·obtain⟨m,this⟩:=u2.tbls b ps z;exact⟨m,by rw[zK (zI this hna)];exact this⟩
    ·obtain⟨o1,v1,w1,w2⟩:=z1;exact⟨o1,v1,z2 _ w1,w2⟩
   refine zKh (X:=X.suite (.ref a)) (v := .ref a) (u := .ref a) (J3.suite (.ref a)) hN hi (.inl hl) rfl (fun s3 I3=>?_) (.inr hl)
   have A3:At X.K (ρ++[a]) (upd H' a (.ext (z9p a C dx))) (σ.set i (some (.ref a))) (δ.set i (some (.loc μ.length))) (μ++[.exc c fs]) :=
    (A.ext (Ext.push hna) (A.hp.push (o := .ext (z9p a C dx)) (lo := .exc c fs) hna ⟨C,dx,hc,zF,hX.ext (Ext.push hna)⟩)).set (.loc (zDb A.hp)) i
   cases eq:q (δ.set i (some (.loc μ.length))) (μ++[.exc c fs]) with
   |none=>rw[eq]at eo;cases eo
   |some o'=>
    rw[eq]at eo;have kk':=kk.ext (Ext.push (o := .ext (z9p a C dx)) hna);refine yP (hq (.ref a) pins s3 _ _ {nx:=fun σ' H2=>D.nx (σ'.set i none) H2,rt:=D.rt,bk:=fun σ' H2=>D.bk (σ'.set i none) H2,ct:=fun σ' H2=>D.ct (σ'.set i none) H2 } I3 ⟨_,_,_,o',A3,eq,?_⟩) (fun f4 s4 hs4=>?_) fun _ _ z=>z.elim
    ·cases o' with
     |next δ' μ'=>cases eo;exact fun ρ' σ' H2 x2 A2=>kk' ρ' _ H2 x2 (A2.unset i)
     |brk δ' μ'=>cases eo;exact fun ρ' σ' H2 x2 A2=>kk' ρ' _ H2 x2 (A2.unset i)
     |cont δ' μ'=>cases eo;exact fun ρ' σ' H2 x2 A2=>kk' ρ' _ H2 x2 (A2.unset i)
     |ret d' μ'=>cases eo;exact kk'
     |exc _ _ _=>cases eo
    ·cases f4 with
     |next=>obtain⟨σ4,H4,I4,z⟩:=hs4;exact zPl (I4.unsuite J.ok) hN hi hl fun s5 I5=>⟨_,H4,I5,z⟩
     |brk=>obtain⟨σ4,H4,I4,z⟩:=hs4;exact zPl (I4.unsuite J.ok) hN hi hl fun s5 I5=>⟨_,H4,I5,z⟩
     |cont=>obtain⟨σ4,H4,I4,z⟩:=hs4;exact zPl (I4.unsuite J.ok) hN hi hl fun s5 I5=>⟨_,H4,I5,z⟩
     |ret u=>obtain⟨v4,σ4,H4,I4,r4,z⟩:=hs4;exact zPl (I4.unsuite J.ok) hN hi hl fun s5 I5=>⟨v4,_,H4,I5,r4,z⟩
@[simp] def z3j(tb:List (Str×Bool))(q:FS)(η:FH):FH:=fun c fs δ μ=>match tb.lookup c with
 |some true=>(match q δ μ with
  |some (.exc _ _ _)=>none
  |o=>o)
 |some false=>η c fs δ μ
 |none=>none
def zur{X:Cx}{d:Str}{D0:Addr}{b0:Stmt}{suite:List Stmt}{pos np:xi}{rest:List ExceptHandler}{q:FS}{η:FH}(tb:List (Str×Bool))(hd:Yg X.K yj d=some (some (.ref D0)))(hk:W.ktsIn X.K D0 "BaseException" = true)(ht:Subs X.K D0 tb)
 (hq:∀v,MSs (X.suite v) (b0::suite) q) (hr:MH X rest η) (hg:Gl X d:=by rfl) (hdb:(d==("__debug__":Str))=false:=by decide) :
 MH X (.ExceptHandler (some (.Name d np)) none (b0::suite) pos::rest) (z3j tb q η):=by
 intro pins σ C c fs dx H' a s' ρ δ μ o D hcau hc hX A eo kk;obtain⟨H1,s1,I1,F⟩:=hcau;obtain⟨a',B,ea,fl,cov⟩:=F.fly;cases ea;have J:Inv X pins σ H' s':=I1.fly F cov fl.st fl.st (.refl _);obtain⟨oe,vs,y,he,hcl,hdx,hfd,h1,tr⟩:=fl.ob
 cases hb:tb.lookup c with
 |none=>unfold z3j at eo;rw[hb]at eo;cases eo
 |some b=>
  obtain⟨kC,mC⟩:=ht c b hb C hc;obtain⟨nm,qn,N,bs,bm,hdct,sn,sub,ab,col,dd,k0,k1,k2,k3,k5,newId,hC,_,_⟩:=W.kts_cls J.kIn kC;obtain⟨nm',qn',N',bs',bm',hdct',sn',sub',ab',col',dd',k0',k1',k2',k3',k5',newId',hC',hbase',_⟩:=W.kts_cls J.kIn hk;refine wpAny_handleBy_cons (codeAny_handlers_test (zOf (X:=X.suite (.ref a)) (J.suite (.ref a)) hg (xu J.mod.kin J.mod.glob hd) ?_ hdb)) (by intro z;cases z);obtain⟨hh,g,dr,tk,os⟩:=s';refine zyg hC hC' he hcl hbase' (zfs J.kIn mC hC) ?_
  cases b with
  |false=>
   unfold z3j at eo;rw[hb]at eo;exact hr pins σ C c fs dx H' a _ ρ δ μ o D ⟨H1,s1,I1,F⟩ hc hX A eo kk
  |true=>
   unfold z3j at eo;rw[hb]at eo;refine codeAny_handlers_suite (zgf (s:=⟨hh,g,dr,tk,os⟩) fl fun h2 fl2 sm2=>?_);have J2:Inv X pins σ H' ⟨h2,g,dr,tk,os⟩:=I1.fly F cov fl.st fl2.st sm2
   cases eq:q δ μ with
   |none=>rw[eq]at eo;cases eo
   |some o'=>
    rw[eq]at eo;refine yP (hq (.ref a) pins _ σ H' D (J2.suite _) ⟨ρ,δ,μ,o',A,eq,?_⟩) (fun f4 s4 hs4=>?_) fun _ _ z=>z.elim
    ·cases o' with
     |next δ' μ'=>cases eo;exact kk
     |brk δ' μ'=>cases eo;exact kk
     |cont δ' μ'=>cases eo;exact kk
     |ret d' μ'=>cases eo;exact kk
     |exc _ _ _=>cases eo
    ·cases f4 with
     |next=>obtain⟨σ4,H4,I4,z⟩:=hs4;exact⟨σ4,H4,I4.unsuite J.ok,z⟩
     |brk=>obtain⟨σ4,H4,I4,z⟩:=hs4;exact⟨σ4,H4,I4.unsuite J.ok,z⟩
     |cont=>obtain⟨σ4,H4,I4,z⟩:=hs4;exact⟨σ4,H4,I4.unsuite J.ok,z⟩
     |ret u=>obtain⟨v4,σ4,H4,I4,r4,z⟩:=hs4;exact⟨v4,σ4,H4,I4.unsuite J.ok,r4,z⟩
end M
namespace PySem.W
open PySem PySem.Spec PySem.Calls PyProof.Rows
structure AskC(K:Frag)(C:Addr):Prop where
 cl:(clsIn K C).isSome=true
 ga:findIn K (.ref C) "__getattribute__" = some (some (.builtin "BaseException.__getattribute__"))
 gk:findIn K (.ref C) "__getattr__" = some none
 be:mroIn K C (.type "BaseException")=some true
 ha:findIn K (.ref C) "__class__" = some (some (.builtin "object.__class__"))
 hn:specialIn K (.builtin "object.__class__") "__get__" = some (some (.builtin "getset_descriptor.__get__"))
 tk:takesIn K (.builtin "object.__class__")=some true
 hm:mroIn K C (.type "object")=some true
section
variable {prog:yv}{w:yE}{A:yH}{E:Value->yc->Prop}{s:yc}{K:Frag}{x D:Addr}{ox:YL}{odo:Option YL}
def zjs{M:Model}{nameV:Value}{Q:Unit->yc->Prop}(X:K.In s.heap)(I:InstAt s.heap x ox D odo)(c:AskC K D)(hq:Q () s):yk M A (checkBuiltinCall "BaseException.__getattribute__" ⟨[.ref x,nameV],[]⟩) Q E s:=by
 have hk:builtinKind "BaseException.__getattribute__" = some .slot:=by decide +kernel
 have hsplit:splitId "BaseException.__getattribute__" = some ("BaseException","__getattribute__"):=by decide +kernel
 have ha:=F.args_bexc_ga (.ref x) nameV;have L0:=I.type (M:=M);have L1:=looks_mroIn (M:=M) X c.be;obtain⟨hh,g,d,t,os⟩:=s;simp only[checkBuiltinCall,hk,hsplit];refine ya ?_
 ·unfold isInstance
  repeat (first | with_reducible refine L0.at ?_ | with_reducible refine L1.at ?_ | wp_step)
  exact hq
end
end PySem.W
namespace M
open PySem PySem.Spec PyProof.Rows L2
section
variable {X:Cx}
inductive CN where
 |own (c:Str)
 |ty (n:String)
 deriving DecidableEq
abbrev Kit:=List ((Option Str×CN)×Bool)
def z3z(K:yr):CN->Value->Prop
 |.own d,v=>∃a,Yg K yj d=some (some (.ref a))/\v = .ref a
 |.ty n,v=>v = .type n
structure KitOk(K:yr)(tb:Kit):Prop where
 non:∀d b v,tb.lookup (none,d)=some b->z3z K d v->W.kitOne K (.type "NoneType") v=some b
 ask:∀c d b,tb.lookup (some c,d)=some b->∀C,Yg K yj c=some (some (.ref C))->W.AskC K C
 exc:∀c d b v,tb.lookup (some c,d)=some b->z3z K d v->∀C,Yg K yj c=some (some (.ref C))->W.kitOne K (.ref C) v=some b
end
section
variable {K:yr}{D0:Addr}{tb:List (Str×Bool)}{kt:Kit}
def Subs.nil:Subs K D0 []:=fun c b h=>by cases h
def Subs.cons{c:Str}{C:Addr}{b:Bool}(hc:Yg K yj c=some (some (.ref C)))(k:W.ktsIn K C "BaseException" = true)(m:Xb K C (.ref D0)=some b)(r:Subs K D0 tb):Subs K D0 ((c,b)::tb):=fun c' b' h C' hC'=>by
 unfold YD at h
 split at h
 ·rename_i e
  cases h;rw[beq_iff_eq.mp e,hc]at hC';cases hC';exact⟨k,m⟩
 ·exact r c' b' h C' hC'
end
structure MSsl(X:Cx)(sts:List Stmt)(ψ:FS):Prop where
 h:MSs X sts ψ
end M
namespace PySem
open Sem (wp)
section
variable {prog:yv}{w:yE}{A:yH}{E:Value->yc->Prop}{h:yT}{g:Array GenState}{d:Drawn}{t:Nat}{os:OsState}
variable {nm q:Str}{C N fI:Addr}{bs bm bmB:List Value}{hdct:Bool}{sn:List Str}{sub:List Value}{ab:Bool}{col:Option Bool}{dd:Option Addr}{k0 k1 k2 k3 k5:Option Value}{B newId initId:String}
abbrev zrg(h:yT)(C:Addr)(rest:List Value):yT:=(h.push {cls := .type "tuple",data := .seq rest.toArray }).push {cls := .ref C,data := .fields #[.ref h.objs.size, .none, .none, .none, .bool false, .none]}
def zzh(F:ExcBaseFacts B newId initId bmB)(T:OwnTail h bmB bm){rest:List Value}{Q:Fin->yc->Prop}
 (hC:h.get? C=some (xb nm q C N bs bm hdct sn sub ab col dd k0 k1 k2 k3 k5 newId)) (L:W.Looks (yp prog w) h (typeLookup (.ref C) "__init__") (some (.ref fI))) (LB:∀self,W.Looks (yp prog w) h (bindSpecial (.ref fI) self) (.ref fI,[self]))
 (hq:yk (yp prog w) A (call (.ref fI) (.ref (h.objs.size+1)::rest)) (fun v s'=>v = .none/\Q (.done (.ret (.ref (h.objs.size+1)))) s') E ⟨zrg h C rest,g,d,t,os⟩) (hrest:rest.length<=yB:=by size_fits) :
 yk (yp prog w) A (xt.«type.__call__» ⟨.ref C::rest,[]⟩) Q E ⟨h,g,d,t,os⟩:=by
 repeat (first | with_reducible refine YF hC ?_ | with_reducible refine wpAny_madeBy_exc hC ?_ | wp_step)
 refine codeAny_call_builtin_code (Code.quiet_builtin _ F.quiet) (wpAny_check_new_subT F T hC ?_);refine codeAny_exc_new_subT F T hC ?_ hrest;show yk _ _ _ _ _ _;have k:∀b o,h.get? b=some o->(zrg h C rest).get? b=some o:=fun b o e=>yd _ (yd _ e);have hC₁:=k _ _ hC;have hget:(zrg h C rest).get? (h.objs.size+1)=some {cls := .ref C,data := .fields #[.ref h.objs.size, .none, .none, .none, .bool false, .none]}:=by heap_get
 have hcC:(yC C::bm).contains (.ref C)=true:=by simp
 have T₁:=T.keeps k;unfold isInstance
 repeat (first | with_reducible refine YF hget ?_ | (with_reducible refine xh hC₁ ?_;rw[hcC]) | wp_step)
 show yk _ _ (typeLookup (.ref C) _) _ _ _;refine L _ _ _ _ k ?_;refine yQ (ya (LB _ _ _ _ _ k ?_));refine ya (yP hq (fun v s' hv=>?_) fun _ _ x=>x);obtain⟨rfl,hv⟩:=hv
 repeat wp_step
 exact hv
def zHl(F:ExcBaseFacts B newId initId bmB)(T:OwnTail h bmB bm){rest:List Value}{Q:Value->yc->Prop}
 (hC:h.get? C=some (xb nm q C N bs bm hdct sn sub ab col dd k0 k1 k2 k3 k5 newId)) (L:W.Looks (yp prog w) h (typeLookup (.ref C) "__init__") (some (.ref fI))) (LB:∀self,W.Looks (yp prog w) h (bindSpecial (.ref fI) self) (.ref fI,[self]))
 (hq:yk (yp prog w) (A.under (.builtin "type.__call__" ⟨.ref C::rest,[]⟩)) (call (.ref fI) (.ref (h.objs.size+1)::rest)) (fun v s'=>v = .none/\Q (.ref (h.objs.size+1)) s') E ⟨zrg h C rest,g,d,t,os⟩) (hrest:rest.length<=yB:=by size_fits) :
 yk (yp prog w) A (call (.ref C) rest) Q E ⟨h,g,d,t,os⟩:=by
 have f1:=tc_lookup;have f2:=tc_bind (.ref C);have hT:(⟨h,g,d,t,os⟩:yc).TypeIs (.ref C) "type":=⟨_,hC,rfl⟩
 refine wpAny_call (codeAny_of_tree ?_);show yk _ _ (callAny (.ref C) _) _ _ _
 repeat (any_goals (first | assumption | with_reducible refine YF hC ?_ | wp_step))
 refine⟨rfl,?_⟩;refine codeAny_call_builtin_at (Code.quiet_builtin _ (by decide +kernel)) entry_typeCall (wpAny_check_type_call_sub hC (zzh (hrest:=hrest) F T hC L LB ?_));exact hq
def zcf{M:Model}{s:yc}{env:Env}{x:Sem Value}{Q:Flow->yc->Prop}(hbase:bm.contains (.type "BaseException")=true)(hh:A.handled=none)
 (h:yk M A x (fun v s₁=>∃e de te,v = .ref e/\s₁.heap.get? C=some (xb nm q C N bs bm hdct sn sub ab col dd k0 k1 k2 k3 k5 newId)/\s₁.heap.get? e=some {cls := .ref C,dict:=de,data := .fields #[.ref te, .none, .none, .none, .bool false, .none]}/\E (.ref e) s₁) E s) :
 yk M A (raiseStmt env (some x) none) Q E s:=by
 have hcB:(yC C::bm).contains (.type "BaseException")=true:=by rw[List.contains_cons,hbase,Bool.or_true]
 unfold raiseStmt;refine ya (yP h (fun v s₁ h₁=>?_) fun _ _ x=>x);obtain⟨e,de,te,rfl,hC,he,hE⟩:=h₁;obtain⟨hp,g,d,tk,os⟩:=s₁
 repeat (first | with_reducible refine YF he ?_ | with_reducible refine YF hC ?_ | (with_reducible refine xh hC ?_;rw[hcB]) | wp_step)
 exact wpAny_raiseNew_none hh hE
end
section
variable {prog:yv}{w:yE}{A:yH}{E:Value->yc->Prop}{s:yc}{env:Env}
variable {nm q:Str}{C N fI:Addr}{bs bm bmB:List Value}{hdct:Bool}{sn:List Str}{sub:List Value}{ab:Bool}{col:Option Bool}{dd:Option Addr}{k0 k1 k2 k3 k5:Option Value}{B newId initId:String}
def zwj(F:ExcBaseFacts B newId initId bmB){x:Str}{np cpos pos:xi}{args:List Expr}{Q:Flow->yc->Prop}
 (hbase:bm.contains (.type "BaseException")=true) (hh:A.handled=none) (hplain:(Yh cpos (yg args env)).any (·.1)=false)
 (h:yk (yp prog w) A (yY (.Name x np) env) (fun f s₁=>f = .ref C/\yk (yp prog w) A (evalArgs (.ref C) true (Yh cpos (yg args env)) [])
  (fun a s₂=>a.kw=[]/\a.pos.length<=yB/\s₂.heap.get? C=some (xb nm q C N bs bm hdct sn sub ab col dd k0 k1 k2 k3 k5 newId)/\W.Looks (yp prog w) s₂.heap (typeLookup (.ref C) "__init__") (some (.ref fI))/\OwnTail s₂.heap bmB bm/\(∀self,W.Looks (yp prog w) s₂.heap (bindSpecial (.ref fI) self) (.ref fI,[self])) /\
   yk (yp prog w) (A.under (.builtin "type.__call__" ⟨.ref C::a.pos,[]⟩)) (call (.ref fI) (.ref (s₂.heap.objs.size+1)::a.pos)) (fun v s₃=>v = .none/\s₃.heap.get? C=some (xb nm q C N bs bm hdct sn sub ab col dd k0 k1 k2 k3 k5 newId) /\
    (∃de te,s₃.heap.get? (s₂.heap.objs.size+1)=some {cls := .ref C,dict:=de,data := .fields #[.ref te, .none, .none, .none, .bool false, .none]})/\E (.ref (s₂.heap.objs.size+1)) s₃) E {s₂ with heap:=zrg s₂.heap C a.pos }) E s₁) E s) :
 yk (yp prog w) A (exec (.Raise (some (.Call (.Name x np) args [] cpos)) none pos) env) Q E s:=by
 rw[arm_exec_Raise]
 first
  |refine ya (YM (zcf (C:=C) (nm:=nm) (q:=q) (N:=N) (bs:=bs) (bm:=bm) (hdct:=hdct) (sn:=sn) (sub:=sub) (ab:=ab) (col:=col) (dd:=dd) (k0:=k0) (k1:=k1) (k2:=k2) (k3:=k3) (k5:=k5) (newId:=newId) hbase hh (ya (yP (wpAny_Call_ofName (yP h (fun f s₁ h₁=>?_) fun _ _ x=>x)) (fun v s₃ h₃=>ya (YM (ye h₃))) fun _ _ x=>x))))
  |(simp only[evalOpt,Option.map];refine ya (YM (zcf (C:=C) (nm:=nm) (q:=q) (N:=N) (bs:=bs) (bm:=bm) (hdct:=hdct) (sn:=sn) (sub:=sub) (ab:=ab) (col:=col) (dd:=dd) (k0:=k0) (k1:=k1) (k2:=k2) (k3:=k3) (k5:=k5) (newId:=newId) hbase hh (ya (yP (wpAny_Call_ofName (yP h (fun f s₁ h₁=>?_) fun _ _ x=>x)) (fun v s₃ h₃=>ya (YM (ye h₃))) fun _ _ x=>x)))))
  |(refine ya (YM (zcf (C:=C) (nm:=nm) (q:=q) (N:=N) (bs:=bs) (bm:=bm) (hdct:=hdct) (sn:=sn) (sub:=sub) (ab:=ab) (col:=col) (dd:=dd) (k0:=k0) (k1:=k1) (k2:=k2) (k3:=k3) (k5:=k5) (newId:=newId) hbase hh ?_));refine ya (yP (wpAny_Call_ofName (yP h (fun f s₁ h₁=>?_) fun _ _ x=>x)) (fun v s₃ h₃=>ya (YM (ye h₃))) fun _ _ x=>x))
 obtain⟨rfl,h₁⟩:=h₁;unfold callWith;refine ya (yQ (yP h₁ (fun a s₂ h₂=>ya (YM ?_)) fun _ _ x=>x));obtain⟨apos,akw⟩:=a;obtain⟨hkw,hlen,hC,L,T,LB,h₂⟩:=h₂;obtain rfl:akw=[]:=hkw;obtain⟨hp,g,d,tk,os⟩:=s₂;simp only[hplain];refine ya (wpAny_keeperOf_exc hC ?_);refine ya (zHl (hrest:=hlen) F T hC L LB ?_);refine yP h₂ (fun v s₃ h₃=>?_) fun _ _ x=>x;obtain⟨rfl,hC3,⟨de,te,he⟩,hE⟩:=h₃;exact⟨rfl,ya (yQ (wpAny_point (ye ⟨_,de,te,rfl,hC3,he,hE⟩)))⟩
end
end PySem
namespace PySem
open Sem (wp)
section
variable {prog:yv}{w:yE}{A:yH}{E:Value->yc->Prop}{h:yT}{g:Array GenState}{d:Drawn}{t:Nat}{os:OsState}
variable {nm q:Str}{C N:Addr}{bs bm bmB:List Value}{hdct:Bool}{sn:List Str}{sub:List Value}{ab:Bool}{col:Option Bool}{dd:Option Addr}{k0 k1 k2 k3 k5:Option Value}{B newId initId:String}
def zFs(F:ExcBaseFacts B newId initId bmB)(T:OwnTail h bmB bm){e te:Addr}{de:Option Addr}{rest:List Value}{Q:Value->yc->Prop}
 (hC:h.get? C=some (xb nm q C N bs bm hdct sn sub ab col dd k0 k1 k2 k3 k5 newId)) (he:h.get? e=some {cls := .ref C,dict:=de,data := .fields #[.ref te, .none, .none, .none, .bool false, .none]})
 (hq:∀h',(∀b o,b≠e->h.get? b=some o->h'.get? b=some o)->h'.get? e=some {cls := .ref C,dict:=de,data := .fields #[.ref h.objs.size, .none, .none, .none, .bool false, .none]}->h.objs.size<=h'.objs.size->Q .none ⟨h',g,d,t,os⟩) (hrest:rest.length<=yB:=by size_fits) :
 yk (yp prog w) A (call (.builtin initId) (.ref e::rest)) Q E ⟨h,g,d,t,os⟩:=by
 refine wpAny_call (Xk F.init.plain F.initEntry (wpAny_check_init_subT F T hC he rfl ?_))
 wp_walk
 refine hq _ (fun b o hb eb=>?_) ?_ ?_
 ·rw[Yb _ _ (yF hb)];exact yd _ eb
 ·rw[yJ _ (yd _ he) rfl];rfl
 ·simp
end
end PySem
namespace PySem.W
open PySem PySem.Spec PySem.Calls PyProof.Rows
open Builtin Builtin.ObjectAttr
abbrev bmV:List Value:=[.type "ValueError", .type "Exception", .type "BaseException", .type "object"]
def dropRefs:List Value->List Value
 |.ref _::r=>dropRefs r
 |l=>l
def zYs{v:Value}{r:List Value}(q:¬∃c,v = .ref c):dropRefs (v::r)=v::r:=by
 unfold dropRefs
 split
 ·rename_i z;cases z;exact absurd ⟨_,rfl⟩ q
 ·rfl
def znl(self:Value):∀{l:List Value},dropRefs l=bmV->refuseLoop self "__setattr__" l=pure ()
 |[],h=>by cases h
 |v::r,h=>by
  by_cases q:∃c,v = .ref c
  ·obtain⟨c,rfl⟩:=q;rw[refuseLoop_ref];exact znl self (l:=r) h
  ·rw[zYs q]at h;rw[h];exact PySem.F.store_ValueError.passes self
def zqp:∀{l:List Value},dropRefs l=bmV->l.contains (.type "object")=true/\l.isEmpty=false
 |[],h=>by cases h
 |v::r,h=>by
  refine⟨?_,rfl⟩
  by_cases q:∃c,v = .ref c
  ·obtain⟨c,rfl⟩:=q;rw[List.contains_cons,(zqp (l:=r) h).1,Bool.or_true]
  ·rw[zYs q]at h;rw[h];decide
section
variable {prog:yv}{w:yE}{A:yH}{E:Value->yc->Prop}{s:yc}{K:Frag}{x C:Addr}{ox:YL}{name:Str}{v:Value}{cd:ClassData}
def z0v{R:Result->yc->Prop}{od:Option YL}{tk:Tok}(X:K.In s.heap)(I:InstAt s.heap x ox C od)(hc:clsIn K C=some cd)(ho:dropRefs cd.mro=bmV)(ha:findIn K (.ref C) name=some none)
 (h:yk (yp prog w) A.in1 (storeInOwnDict (.ref x) (.ref C) (.str name tk) name v false)
  (fun fin s'=>match fin with | .done f=>R (.ok f) s' | .again c'=>c'.quiet=true/\Xc (yp prog w) A c' R s') (fun e s'=>R (.error e) s') s) :
 Xc (yp prog w) A (.call (.builtin "object.__setattr__") ⟨[.ref x, .str name tk,v],[]⟩) R s:=by
 have SF:=PySem.F.store_object;obtain⟨h1,h2⟩:=zqp ho;have sub:Looks (yp prog w) s.heap (isInstance (.ref x) (.type "object")) true:=I.type.andThen (looks_mroIn X (by unfold mroIn;rw[hc,ym,if_neg (by rw[h2];decide),h1]));refine Xk SF.slot.plain SF.entry (@check_slot (yp prog w) _ _ s "object.__setattr__" "object" "__setattr__" (.ref x) [.str name tk,v] [] _ SF.kind SF.split sub (SF.args (.ref x) (.str name tk) v) ?_);have hm:Looks (yp prog w) s.heap (mroOf (.ref C)) cd.mro:=(looks_clsIn X hc).andThen .now;rw[osa_eq,refuse_eq];refine ya (ya (I.type.here (ya (hm.here ?_))));rw[znl _ ho];refine ye (ya (I.type.here (ya ((looks_findIn X ha).here (ya (ye (a:=none) ?_))))));exact h
def set_exc{Q:Unit->yc->Prop}{vs:Array Value}(X:K.In s.heap)(I:InstAt s.heap x ox C none)(hdt:ox.data = .fields vs)
 (hs:findIn K (.ref C) "__setattr__" = some (some (.builtin "object.__setattr__"))) (hc:clsIn K C=some cd) (ho:dropRefs cd.mro=bmV) (hd:cd.hasDict=true) (ha:findIn K (.ref C) name=some none)
 (h:∀(h':yT)(p:Addr)(tk:Nat),h'.get? x=some {ox with dict:=some p }->h'.Ns1 p (fun y=>if y=name then some v else none)->s.heap.objs.size<=p->(∀b o,b≠x->s.heap.get? b=some o->h'.get? b=some o)->Q () {s with heap:=h',toks:=tk }) :
 yk (yp prog w) A (setAttr (.ref x) name v) Q E s:=by
 obtain⟨hx,hcl,hno,hdd⟩:=id I;obtain⟨oc,odi,oda,osl⟩:=ox;dsimp only at hcl hdt;subst hcl hdt
 cases odi with
 |some dx=>exact hdd.elim
 |none=>
  refine set_plain X I hs (z0v (s:={s with toks:=s.toks+1 }) X I hc ho ha ?_);refine ya (ye (ya (ya (wpAny_loadPart hx (ya (Looks.here (s:={s with toks:=s.toks+1 }) (looks_clsIn X hc) ?_))))));rw[hd];have hx₁:(s.heap.push {cls := .type "dict",data := .dict #[]}).get? x=some ⟨.ref C,none, .fields vs,osl⟩:=yd _ hx;have hxs:x≠s.heap.objs.size:=yw (yi hx);refine ya (wpAny_alloc' ?_);refine ya (wpAny_update' hx₁ ?_);refine ye (a:=some s.heap.objs.size) ?_
  have hgd:((s.heap.push {cls := .type "dict",data := .dict #[]}).update x fun o=>{cls:=o.cls,dict:=some s.heap.objs.size,data:=o.data,slots:=o.slots }).get? s.heap.objs.size
   = some {cls := .type "dict",data := .dict #[]} :=
   (Heap.get?_update_ne _ _ _ _ hxs.symm).trans (Heap.get?_push_at rfl rfl)
  have hnd:((s.heap.push {cls := .type "dict",data := .dict #[]}).update x fun o=>{cls:=o.cls,dict:=some s.heap.objs.size,data:=o.data,slots:=o.slots }).Ns s.heap.objs.size (fun _=>none) :=
   ⟨_,#[],_,hgd,rfl,fun e he=>absurd he (by simp),fun _=>rfl⟩
  show yk _ _ (storeInDict s.heap.objs.size (.str name _) name v) _ _ _;unfold storeInDict newKeyGuard;refine ya (ye (ya (wpAny_nsSet1 (Heap.Ns1.of_empty hnd) fun h' hn' hs'=>?_)));obtain⟨oD,esD,epD,hoD,hdD,hcD⟩:=hn'.count (Within.cons name v Within.nil);refine ya (wpAny_lookBehind hoD (by rw[hdD];exact pastItsLine_dict (yy hcD (by rw[length_cons,List.length_nil,Yp];omega))) ?_);refine ye ?_;refine h h' s.heap.objs.size _ ?_ hn' (yh _) (fun b o hb q=>?_)
  ·exact(hs'.2 x hxs).trans (yJ _ hx₁ rfl)
  ·exact(hs'.2 b (yw (yi q))).trans ((Heap.get?_update_ne _ _ _ _ hb).trans (yd _ q))
variable {D:Addr}{odo:Option YL}
def zgq{tk:Tok}{Q:Fin->yc->Prop}(X:K.In s.heap)(I:InstAt s.heap x ox D odo)(e:findObj K D odo name=some (.value v))(hq:Q (.done (.ret v)) s):yk (yp prog w) A (xt.«object.__getattribute__» ⟨[.ref x, .str name tk],[]⟩) Q E s:=by
 have L0:=I.type (M:=yp prog w);have L1:=looks_find (M:=yp prog w) X I e;obtain⟨hh,g,d,t,os⟩:=s
 repeat (any_goals (first | assumption | with_reducible refine L0.at ?_ | with_reducible refine L1.at ?_ | wp_step))
def exc_load{expr:Bool}{Q:Value->yc->Prop}(X:K.In s.heap)(I:InstAt s.heap x ox D odo)(c:AskC K D)(e:findObj K D odo name=some (.value v))(hv:handedIn v=true)(h:Q v {s with toks:=s.toks+1 }):yk (yp prog w) A (getAttr (.ref x) name expr) Q E s:=by
 have L0:=I.type (M:=yp prog w);have L1:=looks_findIn (M:=yp prog w) X c.ga;have L2:=looks_findIn (M:=yp prog w) X c.gk;have f3:=F.excAttr_ValueError.ga.bind (.ref x);have hx2:(xV "BaseException.__getattribute__" == xV "object.__getattribute__")=false:=by decide +kernel
 have hx1:(onTheHeap (yC D)&&xV "BaseException.__getattribute__" == xV "object.__getattribute__")=false:=by rw[hx2];rfl
 obtain⟨hh,g,d,t,os⟩:=s;unfold getAttr getAttrBy
 repeat (any_goals (first | assumption | with_reducible refine L0.at ?_ | with_reducible refine L1.at ?_ | with_reducible refine L2.at ?_ | wp_step))
 rw[show(expr&&onTheHeap (xV "BaseException.__getattribute__"))=false from Bool.and_false _,if_neg (by decide)];unfold boundAndCalled
 repeat (any_goals (first | assumption | with_reducible refine L0.at ?_ | with_reducible refine L1.at ?_ | with_reducible refine L2.at ?_ | wp_step))
 refine Xk F.excAttr_ValueError.ga.plain F.entry_bexc_ga (zjs (s:=⟨hh,g,d,t+1,os⟩) X I c (zgq (s:=⟨hh,g,d,t+1,os⟩) X I e ?_))
 repeat (any_goals (first | assumption | wp_step))
 show yk _ _ (handedOut v) _ _ _;rw[handedOut_of hv];exact ye h
end
end PySem.W
namespace L2
open PySem PySem.Spec PyProof.Rows
def zcx{H:Hp}{a:Addr}{o:HO}(h:H a=some o):upd H a o=H:=by
 funext b
 unfold upd
 split
 ·rename_i e
  rw[e,h]
 ·rfl
def era(H:Hp)(e:Addr):Hp:=fun b=>if b=e then none else H b
def zTh{H:Hp}{e b:Addr}(h:b≠e):era H e b=H b:=by unfold era;rw[if_neg h]
def zgj{H:Hp}{e:Addr}:era H e e=none:=by unfold era;rw[if_pos rfl]
section
variable {P:yv}{w:yE}{fs ex:List Addr}{H H':Hp}{h h':yT}{e:Addr}{φ:yT->Prop}
def Un.era(u:Un fs ex H H' h h')(he:H e=none):Un fs ex H (era H' e) h h' where
 keep:=u.keep
 slot:=u.slot
 free:=fun b o q n hx=>by
  by_cases z:b=e
  ·rw[z];exact zgj
  ·rw[zTh z];exact u.free b o q n hx
 there:=u.there
 tups:=fun b xs q=>by rw[zTh (zI q he)];exact u.tups b xs q
 frzs:=fun b o v q=>by rw[zTh (zI q he)];exact u.frzs b o v q
 tbls:=fun b ps q=>by rw[zTh (zI q he)];exact u.tbls b ps q
def HOk.era(k:HOk P w H h)(he:H e=some (.ext φ)):HOk P w (era H e) h:=fun b o q=>by
 by_cases z:b=e
 ·rw[z,zgj]at q;cases q
 ·rw[zTh z]at q;refine(k b o q).stay (fun _ _ _ r=>r) (fun c r=>?_) fun c xs r=>?_
  ·rw[zTh fun y=>by rw[y,he]at r;cases r];exact r
  ·rw[zTh fun y=>by rw[y,he]at r;cases r];exact r
end
end L2
namespace M
open PySem PySem.Spec PyProof.Rows L2
def z9m(a C:Addr)(dx:Option Addr):yT->Prop:=fun h=>∃te,h.get? a=some {cls := .ref C,dict:=dx,data := .fields #[.ref te, .none, .none, .none, .bool false, .none]}
def zGo{P:yv}{w:yE}{H:Hp}{h:yT}{a C:Addr}{dx:Option Addr}(x:z9m a C dx h):ObjOk P w H h a (.ext (z9m a C dx)):=by
 obtain⟨te,e⟩:=x;exact⟨⟨te,e⟩,⟨_,e⟩,fun h1 h2 ⟨t,q⟩ k=>⟨t,k _ q⟩⟩
structure ExcI(K:yr)(C NE fI:Addr)(f:Str):Prop where
 ob:∃nm q N bs sn sub ab col dd k0 k1 k2 k3 k5,K.lookup C=some (xb nm q C N bs (.ref NE::W.bmV) true sn sub ab col dd k0 k1 k2 k3 k5 "ValueError.__new__")
 ini:Yc K (.ref C) "__init__" = some (some (.ref fI))
 fn:W.typeIn K (.ref fI)=some (.type "function")
 ne:W.excIn K NE W.bmV "ValueError.__new__" = true
 sa:Yc K (.ref C) "__setattr__" = some (some (.builtin "object.__setattr__"))
 at_:Yc K (.ref C) f=some none
 gt:W.specialIn K (.ref NE) "__getattribute__" = some (some (.builtin "type.__getattribute__"))
 rd:W.readsIn K NE (.type "type")=true
 fc:W.findCls K (.ref NE) (.type "type") "__init__" = some (.val (.builtin "ValueError.__init__"))
def ExcI.tail{K:yr}{C NE fI:Addr}{f:Str}(Z:ExcI K C NE fI f){h:yT}(X:K.In h):OwnTail h W.bmV (.ref NE::W.bmV):=by
 obtain⟨bm,N,nm,qn,bs,hdct,sn,sub,ab,col,dd,k0,k1,k2,k3,k5,mN,hC,hN,hni,T⟩:=zsn X Z.ne;exact .own hC hN hni .base
section
variable {X:Cx}{v o value:Expr}{e:Expr}{es:List Expr}{tv ta:TE}{t:TA}{C NE fI:Addr}{f:Str}{np apos pos pos' p1 p2 p3 p4:xi}{x1 x2:Str}{j1 j2:Nat}
def z1w(Z:ExcI X.K C NE fI f)(hm:X.mg "NestError" = some (.ref NE))(ha:PA X (e::es) t){pl:Sem Bool}(hg:Gl X "NestError":=by rfl)
 (hst:yg (e::es) X.env=(false,yY e X.env)::yg es X.env:=by rfl) (hpl:(Yh pos (yg es X.env)).any (·.1)=false:=by rfl)
 (ht:yY (.Call (.Attribute (.Name "NestError" np) "__init__" apos) (e::es) [] pos) X.env=(do
  let ov <-yY (.Name "NestError" np) X.env
  standAt apos.atName
  let (f,first) <-xy [ov] (getMethod ov "__init__" pl)
  callWith pos f first (Yh pos (yg (e::es) X.env)) (xA pos (YE [] X.env))):=by rfl) :
 PE X (.Call (.Attribute (.Name "NestError" np) "__init__" apos) (e::es) [] pos) (fun σ H Q=>t σ H fun vs H1=>∃a x,vs=[.ref a,x]/\H1 a=some (.ext (z9m a C none))/\Q .non H1):=by
 intro pins s σ H Q I h;refine W.methodCall_KW (pl:=pl) (zOf I hg hm ?_ (by decide)) ht;refine W.method_cls I.kIn Z.gt (W.cls_value I.kIn Z.rd Z.fc (by decide +kernel) ?_);refine PyProof.Rows.callWith_builtin1 (thn (ha pos pins _ σ H _ (I.tok _) h) fun us s1 ⟨vs,H1,I1,r1,a,x,ev,ea,q⟩=>?_) hst hpl;subst ev;obtain⟨u1,u2,rfl,ra,rx⟩:=vals2 r1;obtain rfl:u1=yC a:=ra;obtain⟨⟨te,ho⟩,_,_⟩:=(show ObjOk X.prog X.w H1 s1.heap a (.ext (z9m a C none)) from I1.hok a _ ea)
 obtain⟨nm,qn,N,bs,sn,sub,ab,col,dd,k0,k1,k2,k3,k5,lk⟩:=Z.ob;have T:=Z.tail I1.kIn;have hC:=I1.kIn _ _ lk;obtain⟨hp,g,d,tk,os⟩:=s1;refine zFs xp T hC ho (fun h' keep he hsz=>?_) (show 1<=yB by rw[Yp];decide);refine⟨.non,H1,?_,rfl,q⟩;have J:=I1.write (x:=a) (e:=a) (o := .ext (z9m a C none)) (h':=h') (t':=tk) (by rw[ea];trivial) (.inl rfl) keep ⟨_,he⟩ (zGo ⟨_,he⟩)
 rwa [zcx ea]at J
def zdr(Z:ExcI X.K C NE fI f)(ho:PE X o ta)(hv:PE X value tv)(hs:xS value (some (.Attribute o f pos')) pos.line X.env=pure false:=by rfl) :
 PS X (.Assign [.Attribute o f pos'] value pos) (fun D σ H=>tv σ H fun y H1=>ta σ H1 fun x H2=>∃a,x = .ref a/\H2 a=some (.ext (z9m a C none))/\∀p,H2 p=none->p≠a->D.nx σ (upd (upd H2 p (.xd [(f,y)])) a (.ext (z9m a C (some p))))):=by
 intro pins s σ H D I h;refine plainObj_wpAny_Assign_Attribute (thn (hv pins s σ H _ I h) fun u s1 ⟨y,H1,I1,ry,q⟩=>thn (ho pins s1 σ H1 _ I1 q) fun ov s2 ⟨x,H2,I2,rx,a,ex,ea,q2⟩=>?_) hs;subst ex;obtain rfl:ov=yC a:=rx;obtain⟨⟨te,hob⟩,_,_⟩:=(show ObjOk X.prog X.w H2 s2.heap a (.ext (z9m a C none)) from I2.hok a _ ea)
 obtain⟨nm,qn,N,bs,sn,sub,ab,col,dd,k0,k1,k2,k3,k5,lk⟩:=Z.ob
 obtain⟨cd,hc,hmro,hhd⟩:∃cd,W.clsIn X.K C=some cd/\W.dropRefs cd.mro=W.bmV/\cd.hasDict=true:=by
  unfold W.clsIn;rw[lk];exact⟨_,rfl,rfl,rfl⟩
 refine W.set_exc I2.kIn ⟨hob,rfl,rfl,trivial⟩ rfl Z.sa hc hmro hhd Z.at_ fun h' p tk he hn hp keep=>⟨σ,_,?_,q2 p (I2.hok.fresh hp) ?_⟩
 ·have hpn:H2 p=none:=I2.hok.fresh hp;have hpa:p≠a:=fun z=>absurd (yq (yi hob) (z▸hp)) (yS _);have hpg:∀b ob,s2.heap.get? b=some ob->b≠p:=fun b ob r z=>absurd (yq (yi r) (z▸hp)) (yS _);have hup:∀b,b≠a->b≠p->upd (upd H2 p (.xd [(f,y)])) a (.ext (z9m a C (some p))) b=H2 b:=fun b n1 n2=>by rw[zK n1,zK n2]
  have ne_a:∀b ob,H2 b=some ob->(∀φ,ob≠.ext φ)->b≠a:=fun b ob r n z=>by rw[z,ea]at r;cases r;exact n _ rfl
  have ne_p:∀b ob,H2 b=some ob->b≠p:=fun b ob r=>zI r hpn;refine I2.un (t':=tk) ⟨?_,?_,?_,?_,?_,?_,?_⟩ ?_
  ·exact fun b ob r n _ _=>keep b ob (fun z=>by rw[z,ea]at n;cases n) r
  ·exact fun b ob r n _ _=>⟨ob.slots,keep b ob (fun z=>by rw[z,ea]at n;cases n) r⟩
  ·exact fun b ob r n _=>by rw[hup b (fun z=>by rw[z,ea]at n;cases n) (hpg b ob r)];exact n
  ·exact fun b ob r _=>by
    by_cases z:b=a
    ·exact⟨_,by rw[z];exact he⟩
    ·exact⟨_,keep b ob z r⟩
  ·exact fun b xs r=>by rw[hup b (ne_a b _ r fun _ z=>by cases z) (ne_p b _ r)];exact r
  ·exact fun b ob w r=>by rw[hup b (ne_a b _ r fun _ z=>by cases z) (ne_p b _ r)];exact r
  ·exact fun b ps r=>⟨#[],by rw[hup b (ne_a b _ r fun _ z=>by cases z) (ne_p b _ r),Array.append_empty];exact r⟩
  ·intro b ob r
   by_cases z:b=a
   ·subst z;rw[zF]at r;cases r;exact zGo ⟨te,he⟩
   ·by_cases z2:b=p
    ·subst z2;rw[zK z,zF]at r;cases r;refine⟨_,hn,fun g=>?_⟩
     by_cases zg:g=f
     ·have hb:(g==f)=true:=beq_iff_eq.mpr zg;simp only[YD,hb,if_pos zg];exact ry
     ·have hb:(g==f)=false:=beq_eq_false_iff_ne.mpr zg;simp only[YD,hb,if_neg zg];trivial
    ·rw[hup b z z2]at r;refine(I2.hok b ob r).stay (fun c w hc r'=>keep c w (fun z3=>?_) r') (fun c r'=>?_) fun c xs r'=>?_
     ·subst z3;rcases hc with hc | hc
      ·exact z hc.symm
      ·rw[ea]at hc;cases hc
     ·rw[hup c (ne_a c _ r' fun _ z=>by cases z) (ne_p c _ r')];exact r'
     ·rw[hup c (ne_a c _ r' fun _ z=>by cases z) (ne_p c _ r')];exact r'
 ·exact fun z=>absurd (yq (yi hob) (z▸hp)) (yS _)
end
section
variable {X:Cx}{x:Str}{e:Expr}{np cpos pos:xi}{C NE fI:Addr}{f:Str}{k:Nat}{fd:yf}{ps:List Str}{φ:FA}
def flyI{pins:List (Addr×YL)}{σ:L2.St}{H H2:Hp}{s s':yc}{a p te:Addr}(I:Inv X pins σ H s)(I3:Inv X pins σ H2 s')(hos:s'.os=s.os)(un:Un (frs X.stack) [] H H2 s.heap s'.heap)(ha:s.heap.objs.size<=a)(h2:∃φ,H2 a=some (.ext φ))
 (he:s'.heap.get? a=some {cls := .ref C,dict:=some p,data := .fields #[.ref te, .none, .none, .none, .bool false, .none]}):FlyX X.prog X.w X.stack H s (.ref C) (some p) (era H2 a) (.ref a) s':=by
 have hn:H a=none:=I.hok.fresh ha;obtain⟨φ,h2⟩:=h2;have hin:∀env∈X.stack,∀b,env.frame=some b->b∈a::frs X.stack:=fun env he b hb=>mem_cons_of_mem _ (List.mem_filterMap.mpr ⟨env,he,hb⟩);refine⟨hos,I3.bare,un.era hn,I3.hok.era h2,a,W.hideAll s'.heap (a::frs X.stack),rfl,⟨fun b o q=>W.of_hideAll _ q,W.hideAll_none _ mem_cons_self,W.funFrames_hide I3.stack hin,⟨_,_,_,he,rfl,rfl,rfl,rfl, .inl rfl⟩⟩,?_⟩;refine⟨fun b o q=>?_,fun b o q hb=>?_⟩
 ·by_cases z:b=a
  ·rw[z,zgj]at q;cases q
  ·rw[zTh z]at q;obtain⟨u,hu⟩:=(I3.hok b o q).there;refine⟨u,W.hideAll_get _ hu fun hm=>?_⟩;rcases List.mem_cons.mp hm with hm | hm
   ·exact z hm
   ·rw[I3.stkFree b hm]at q;cases q
 ·obtain⟨u,hu⟩:=un.there b o q (by simp);refine⟨u,W.hideAll_get _ hu fun hm=>?_⟩;rcases List.mem_cons.mp hm with hm | hm
  ·exact absurd (yq (yi q) (hm▸ha)) (yS _)
  ·exact hb hm
end
structure AtC(K:yr)(c f:Str):Prop where
 ok:∀C,Yg K yj c=some (some (.ref C))->W.AskC K C/\Yc K (.ref C) f=some none/\W.hasDictIn K C=true
@[simp] def fAt(c f:Str)(φ:FE):FE:=fun δ μ=>(φ δ μ).bind fun p=>match p.1 with
 |.loc n=>match p.2[n]? with
  |some (.exc c' fs)=>if c'=c then(fs.lookup f).bind fun d=>some (d,p.2) else none
  |_=>none
 |_=>none
def zbl{K:yr}{ρ:List Addr}{H:Hp}{f:Str}{d:D}:∀{fs:List (Str×D)} {vs:List (Str×V)},vs.map (·.1)=fs.map (·.1)->RepVs K ρ H (fs.map (·.2)) (vs.map (·.2))->fs.lookup f=some d->∃v,vs.lookup f=some v/\RepV K ρ H d v
 |[],_,_,_,h=>by cases h
 |(g,d0)::fs,[],e,_,_=>by cases e
 |(g,d0)::fs,(g',v0)::vs,e,r,h=>by
  simp only[map_cons,YV]at e;obtain⟨rfl,e⟩:=e;obtain⟨v,rr,e2,q1,q2⟩:=r.cons_inv;simp only[map_cons,YV]at e2;obtain⟨rfl,rfl⟩:=e2;unfold YD at h ⊢
  split at h
  ·cases h;exact⟨_,rfl,q1⟩
  ·exact zbl e q2 h
def zRv{c f:Str}{φ:FE}{δ:Loc}{μ μ':Mem}{d:D}(h:fAt c f φ δ μ=some (d,μ')):∃n fs,φ δ μ=some (.loc n,μ')/\μ'[n]?=some (.exc c fs)/\fs.lookup f=some d:=by
 obtain⟨⟨d1,μ1⟩,e1,h2⟩:=zi h;clear h
 cases d1 with
 |loc n=>
  replace h2:(match μ1[n]? with
   |some (.exc c' fs)=>if c'=c then(fs.lookup f).bind fun d=>some (d,μ1) else none
   |_=>none)=some (d,μ'):=h2
  cases hm:μ1[n]? with
  |none=>rw[hm]at h2;cases h2
  |some o=>
   rw[hm]at h2
   cases o with
   |exc c' fs=>
    by_cases hc:c'=c
    ·subst hc;simp only[if_true]at h2;obtain⟨d2,e2,h3⟩:=zi h2;cases h3;exact⟨n,fs,e1,hm,e2⟩
    ·simp only[if_neg hc]at h2;cases h2
   |lst _=>cases h2
   |dct _=>cases h2
   |dcf _=>cases h2
   |ins _ _=>cases h2
 |_=>cases h2
def zbz{X:Cx}{o:Expr}{pos:xi}{c f:Str}{φ:FE}(Z:AtC X.K c f)(ho:ME X o φ)(hb:Yn o f X.env (yY o X.env)=yY o X.env:=by rfl):ME X (.Attribute o f pos) (fAt c f φ):=by
 intro pins s σ H Q I ⟨ρ,δ,μ,d,μ1,A,eo,kk⟩;obtain⟨n,fs,e1,hm,e2⟩:=zRv eo
 refine zIr hb (thn (ho pins s σ H (fun v H1=>∃a ρ1,v = .ref a/\ρ1[n]?=some a/\Ext ρ H ρ1 H1/\RepH X.K ρ1 H1 μ1) I ⟨ρ,δ,μ, .loc n,μ1,A,e1,fun ρ1 H1 v x1 R1 r1=>by
  obtain⟨a,rfl,e3⟩:=r1.loc_inv;exact⟨a,ρ1,rfl,e3,x1,R1⟩⟩) fun u s1 ⟨v,H1,I1,r1,a,ρ1,ev,e3,x1,R1⟩=>?_)
 subst ev;obtain rfl:u=yC a:=r1;obtain⟨C,dx,hn,hH,hX⟩:=R1.at_ _ _ _ e3 hm;obtain⟨⟨ob,vs,h1,h2,h3,h4⟩,_,_⟩:=(show ObjOk X.prog X.w H1 s1.heap a (.ext (z9p a C dx)) from I1.hok a _ hH)
 obtain⟨Zc,Zf,Zd⟩:=Z.ok C hn;rcases hX with ⟨hfs,_⟩ | ⟨p,ws,rfl,hp,hk,hr⟩
 ·rw[hfs]at e2;cases e2
 ·obtain⟨w1,l1,rw1⟩:=zbl hk hr e2;obtain⟨mA,hns,hro⟩:=(show ObjOk X.prog X.w H1 s1.heap p (.xd ws) from I1.hok p _ hp)
  obtain⟨u1,hu1,ru1⟩:=RelO.some_of (v:=w1) (o:=mA f) (by rw[<-l1];exact hro f);obtain⟨od,hod,hl⟩:=z1m hns;have J:W.InstAt s1.heap a ob C (some od):=⟨h1,h2,by unfold W.notCls;rw[h4],by rw[h3];exact hod⟩
  exact W.exc_load I1.kIn J Zc (W.findObj_own Zd Zf rfl (by rw[hl,hu1])) (z8m ru1) ⟨w1,H1,I1.tok _,ru1,kk ρ1 H1 w1 x1 R1 rw1⟩
def zDv(s:Stmt):Stmt:=match s with
 |.ClassDef _ _ _ b _ _ _ _ _ _ _=>b.getD 0 (.Pass ⟨0,0,0,0⟩)
 |_ => .Pass ⟨0,0,0,0⟩
structure IniAt(K:yr)(mg:Str->Option Value)(c f qual:Str)(st:Stmt)(ps:List Str)(C NE fI:Addr)(fd:yf):Prop where
 nm:Yg K yj c=some (some (.ref C))
 ne:mg "NestError" = some (.ref NE)
 ex:ExcI K C NE fI f
 fn:Fun K "__init__" qual st fI fd
 bd:Binds K fd ps []
def zAg(ns:List Int):Prop:=ns.length<=100/\∀n∈ns,n.natAbs<1606938044258990275541962092341162602522202993782792835301376
def z3k:∀ns:List Int,(∀n∈ns,n.natAbs<1606938044258990275541962092341162602522202993782792835301376)->PyData.showableAll (ns.map xE)=true/\PyData.hasDictAll (ns.map xE)=false/\PyData.depthAll (ns.map xE)=0/\PyData.leavesShortAll 230 (ns.map xE)=true/\PyData.bulkAll (ns.map xE)=ns.length
 |[],_=>⟨rfl,rfl,rfl,rfl,rfl⟩
 |n::ns,h=>by
  obtain⟨h1,h2,h3,h4,h5⟩:=z3k ns fun m hm=>h m (mem_cons_of_mem _ hm)
  have hl2:n.natAbs.log2<200:=by
   by_cases z:n.natAbs=0
   ·rw[z];decide
   ·exact(Nat.log2_lt z).mpr (yq (h n mem_cons_self) (by decide))
  have hl:n.natAbs.log2<1920:=Nat.lt_trans hl2 (by decide);have ht:=int_text_length_le (k:=200) (by decide) hl2
  have hs:(PyData.shown (.int n)).length<=230:=by
   simp only[PyData.shown];rw[PySem.ofString_length];omega
  refine⟨?_,?_,?_,?_,?_⟩
  ·simp only[map_cons,PyData.showableAll,PyData.showable,decide_eq_true hl,h1,Bool.and_self]
  ·simp only[map_cons,PyData.hasDictAll,PyData.hasDict,h2,Bool.or_self]
  ·simp only[map_cons,PyData.depthAll,PyData.depth,h3,Nat.max_self]
  ·simp only[map_cons,PyData.leavesShortAll,PyData.leavesShort,decide_eq_true hs,h4,Bool.and_self]
  ·simp only[map_cons,PyData.bulkAll,PyData.bulk,h5,length_cons];omega
def zul{h:yT}:∀{ns:List Int} {its:List Value},Vals (ns.map V.int) its->ReadsAll h its (ns.map xE) []
 |[],_,r=>by cases r;exact .nil
 |n::ns,_,r=>by
  cases r with
  |cons r1 r2=>
   obtain⟨t,rfl⟩:=(show ∃t,_=Value.int n t from r1)
   exact .cons (as:=[]) (bs:=[]) (.int n t) (zul r2)
section
variable {X:Cx}{v:Expr}{tv:TE}{p1 p2 p4:xi}{x1:Str}{j1:Nat}
def zgu(hv:PE X v tv)(hg:X.A.guards=some [])(hu:X.A.units+64<cLine)(h1:x1.length<=1000:=by decide) :
 PE X (.JoinedStr [.Constant (.str x1) j1 p1, .FormattedValue v 114 none p2] p4) (fun σ H Q=>tv σ H fun x H1=>∃a ns,x = .ref a/\H1 a=some (.lst (ns.map V.int))/\zAg ns/\∀y,Q (.str y) H1):=by
 intro pins s σ H Q I h;have z0:(Str.empty:Str).length=0:=rfl;refine wpAny_JoinedStr ?_;show Joins _ _ _ [yY (.Constant (.str x1) j1 p1) X.env,yY (.FormattedValue v 114 none p2) X.env] _ _ _;refine Calls.Constant_str ⟨x1,_,rfl,by rw[strLen_append,z0,Yp];omega,?_⟩;refine wpAny_FormattedValue_repr (thn (hv pins _ σ H _ (I.tok _) h) fun u s1 ⟨x,H1,I1,r1,a,ns,ex,ea,hs,q⟩=>?_);subst ex;obtain rfl:u=yC a:=r1;obtain⟨_,its,n,rv,ho⟩:=(show ObjOk X.prog X.w H1 s1.heap a (.lst (ns.map V.int)) from I1.hok a _ ea)
 obtain⟨s1',s2',s3',s4',s5'⟩:=z3k ns hs.2;have rd:Reads s1.heap (.ref a) (.list (ns.map xE)) [a] := .list (as:=[]) ho rfl rfl (by rw[List.toList_toArray];exact zul rv)
 have hz:(PyData.shown (.list (ns.map xE))).length<=33000:=by
  have:=PyData.shown_le_bulk 230 (by decide) (.list (ns.map xE)) (by simp only[PyData.leavesShort];exact s4');simp only[PyData.bulk,s5']at this;have:=hs.1;omega
 refine pyReprObj_of_reads rd (by simp only[PyData.showable];exact s1') (PyData.noDict_hsm (by simp only[PyData.hasDict];exact s2')) hg (by simp only[PyData.depth,s3'];omega) (fun _ _ e=>e) (fun h' u tk keep=>?_) (by rw[Yp];omega);have I2:Inv X pins σ H1 {s1 with heap:=h',toks:=tk }:=I1.kept keep
 have last:∀t s2,Inv X pins σ H1 s2->∃y t',Value.str (PyData.shown (.list (ns.map xE))) t = .str y t'/\((Str.empty++x1)++y).length<=yB /\
  Joins (yp X.prog X.w) X.A X.xe [] ((Str.empty++x1)++y) (fun out s₁=>out.length<=yB/\EP X pins σ Q (.str out s₁.toks) {s₁ with toks:=s₁.toks+1 }) s2:=fun t s2 J=>by
  have hl:((Str.empty++x1)++PyData.shown (.list (ns.map xE))).length<=yB:=by rw[strLen_append,strLen_append,z0,Yp];omega
  exact⟨_,t,rfl,hl,hl,⟨.str _,H1,J.tok _,⟨_,rfl⟩,q _⟩⟩
 exact wpAny_formatField_str (last _ _ I2) (last _ _ (I2.tok _)) (by rw[Yp];omega)
end
def spL(C:Addr)(f:Str):Sp:=fun vs H Q _=>∃e a ns,vs=[.ref e, .ref a]/\zAg ns/\H a=some (.lst (ns.map V.int))/\H e=some (.ext (z9m e C none)) /\
 ∀l p,H l=none->l≠e->H p=none->p≠e->p≠l->Q .non (upd (upd (upd H l (.lst (ns.map V.int))) p (.xd [(f, .ref l)])) e (.ext (z9m e C (some p))))
instance smallDec(ns:List Int):Decidable (zAg ns):=by unfold zAg;exact inferInstance
@[simp] def zse(c f:Str)(φ:FA):FS:=fun δ μ=>(φ δ μ).bind fun p=>match p.1 with
 |[.loc n]=>match p.2[n]? with
  |some (.lst ds)=>(z0h ds).bind fun ns=>bif decide (zAg ns) then some (.exc c [(f, .loc p.2.length)] (p.2++[.lst ds])) else none
  |_=>none
 |_=>none
def zjo{c f:Str}{φ:FA}{δ:Loc}{μ:Mem}{o:Out}(h:zse c f φ δ μ=some o):∃n ns μ1,φ δ μ=some ([.loc n],μ1)/\μ1[n]?=some (.lst (ns.map D.int))/\zAg ns/\o = .exc c [(f, .loc μ1.length)] (μ1++[.lst (ns.map D.int)]):=by
 obtain⟨⟨ds,μ1⟩,e1,h2⟩:=zi h;clear h;rcases ds with _ | ⟨d,ds⟩
 ·cases h2
 ·rcases ds with _ | ⟨d2,ds⟩
  ·cases d with
   |loc n=>
    replace h2:(match μ1[n]? with
     |some (.lst ds)=>(z0h ds).bind fun ns=>bif decide (zAg ns) then some (.exc c [(f, .loc μ1.length)] (μ1++[.lst ds])) else none
     |_=>none)=some o:=h2
    cases hm:μ1[n]? with
    |none=>rw[hm]at h2;cases h2
    |some ob=>
     rw[hm]at h2
     cases ob with
     |lst ds=>
      replace h2:((z0h ds).bind fun ns=>bif decide (zAg ns) then some (.exc c [(f, .loc μ1.length)] (μ1++[.lst ds])) else none)=some o:=h2;obtain⟨ns,e2,h3⟩:=zi h2;have e3:=zLe e2;subst e3
      by_cases hs:zAg ns
      ·rw[decide_eq_true hs]at h3;cases h3;exact⟨n,ns,μ1,e1,hm,hs,rfl⟩
      ·rw[decide_eq_false hs]at h3;cases h3
     |dct _=>cases h2
     |dcf _=>cases h2
     |exc _ _=>cases h2
     |ins _ _=>cases h2
   |_=>cases h2
  ·cases d<;>cases h2
def zcn{K:yr}{ρ:List Addr}{H:Hp}:∀{ns:List Int} {vs:List V},RepVs K ρ H (ns.map D.int) vs->vs=ns.map V.int
 |[],_,r=>r.nil_inv
 |n::ns,_,r=>by
  obtain⟨v,rr,rfl,q1,q2⟩:=r.cons_inv;rw[q1.int_inv,zcn q2];rfl
def zds{H:Hp}{a l p:Addr}{o o' u1 u2:HO}(ha:H a=none)(hl:l≠a)(hp:p≠a):era (upd (upd (upd (upd H a o) l u1) p u2) a o') a=upd (upd H l u1) p u2:=by
 funext b
 by_cases z:b=a
 ·rw[z,zgj,zK (yF hp),zK (yF hl),ha]
 ·rw[zTh z,zK z]
  by_cases z2:b=p
  ·rw[z2,zF,zF]
  ·rw[zK z2,zK z2]
   by_cases z3:b=l
   ·rw[z3,zF,zF]
   ·rw[zK z3,zK z,zK z3]
section
variable {X:Cx}{x:Str}{e:Expr}{np cpos pos:xi}{C NE fI:Addr}{f:Str}{k:Nat}{fd:yf}{ps:List Str}{φ:FA}
set_option maxHeartbeats 800000 in
def zNj(hn:Yg X.K yj x=some (some (.ref C)))(Z:ExcI X.K C NE fI f)(G:FnOk X.prog X.w X.K X.mg X.base CX0 1 fI fd ps (spL C f))(hb:Binds X.K fd ps [])(hr:Room k X.A)(ha:MAn X [e] φ)(hk:2<=k:=by decide)(hh:X.calm=true:=by rfl)(hg:Gl X x:=by rfl)
 (he:yg [e] X.env=(false,yY e X.env)::yg [] X.env:=by exact z8c rfl) (hdb:(x==("__debug__":Str))=false:=by decide) :
 MS X (.Raise (some (.Call (.Name x np) [e] [] cpos)) none pos) (zse x f φ):=by
 intro pins s σ H Dn I ⟨ρ,δ,μ,o,A,eo,kk⟩;obtain⟨n,ns,μ1,e1,hm,hsm,rfl⟩:=zjo eo;clear eo;obtain⟨nm,qn,N,bs,sn,sub,ab,col,dd,k0,k1,k2,k3,k5,lk⟩:=Z.ob
 have hpl':(Yh cpos (yg [e] X.env)).any (·.1)=false:=by
  rw[he];rfl
 refine zwj (C:=C) (fI:=fI) (nm:=nm) (q:=qn) (N:=N) (bs:=bs) (bm := .ref NE::W.bmV) (hdct:=true) (sn:=sn) (sub:=sub) (ab:=ab) (col:=col) (dd:=dd) (k0:=k0) (k1:=k1) (k2:=k2) (k3:=k3) (k5:=k5) (newId:="ValueError.__new__")
  xp ((Z.tail I.kIn).hasType PySem.F.excBase_ValueError.hasBase) (I.ok.hd hh) hpl' (zOf I hg (xu I.mod.kin I.mod.glob hn) ⟨rfl,?_⟩ hdb)
 have h:=ha.ma cpos pins s σ H (fun vs H'=>∃a ρ',vs=[.ref a]/\ρ'[n]?=some a/\Ext ρ H ρ' H'/\RepH X.K ρ' H' μ1) I ⟨ρ,δ,μ,[.loc n],μ1,A,e1,fun ρ' H' vs x' R r=>by
  obtain⟨v,rr,rfl,q1,q2⟩:=r.cons_inv;obtain⟨a,rfl,e3⟩:=q1.loc_inv;exact⟨a,ρ',by rw[q2.nil_inv],e3,x',R⟩⟩
 rw[he]at h ⊢;refine Calls.evalArgs_plain (yP h (fun us s2 h2=>?_) fun _ _ y=>y);obtain⟨vs,H',I',r,a,ρ',rfl,e3,x',R⟩:=h2;obtain⟨u,rfl,ru⟩:=vals1 r;obtain rfl:u=yC a:=ru;obtain⟨ws,hHa,rws⟩:=R.at_ _ _ _ e3 hm;obtain rfl:=zcn rws;have hz:(zrg s2.heap C [.ref a]).get? (s2.heap.objs.size+1)=some {cls := .ref C,dict:=none,data := .fields #[.ref s2.heap.objs.size, .none, .none, .none, .bool false, .none]}:=by heap_get
 have kp:∀b o,s2.heap.get? b=some o->(zrg s2.heap C [.ref a]).get? b=some o:=fun b o q=>yd _ (yd _ q);have hsz:s2.heap.objs.size<=s2.heap.objs.size+1:=xK _;have hfr:H' (s2.heap.objs.size+1)=none:=I'.hok.fresh hsz
 have I2:Inv X pins σ (upd H' (s2.heap.objs.size+1) (.ext (z9m (s2.heap.objs.size+1) C none))) {s2 with heap:=zrg s2.heap C [.ref a]} :=
  I'.laid (a:=s2.heap.objs.size+1) (t':=s2.toks) kp hsz (zGo ⟨_,hz⟩)
 have sp:spL C f [.ref (s2.heap.objs.size+1), .ref a] (upd H' (s2.heap.objs.size+1) (.ext (z9m (s2.heap.objs.size+1) C none))) (fun v H2=>v = .non/\∃l p,H' l=none/\l≠s2.heap.objs.size+1/\H' p=none/\p≠s2.heap.objs.size+1/\p≠l /\
  H2=upd (upd (upd (upd H' (s2.heap.objs.size+1) (.ext (z9m (s2.heap.objs.size+1) C none))) l (.lst (ns.map V.int))) p (.xd [(f, .ref l)])) (s2.heap.objs.size+1) (.ext (z9m (s2.heap.objs.size+1) C (some p)))) E0 :=
  ⟨_,a,ns,rfl,hsm,by rw[zK (zI hHa hfr)];exact hHa,zF,fun l p hl hle hp hpe hpl=>⟨rfl,l,p,by rwa [zK hle]at hl,hle,by rwa [zK hpe]at hp,hpe,hpl,rfl⟩⟩
 have hl:([yC (s2.heap.objs.size+1), .ref a]++[]).length=ps.length:=G.len _ _ _ _ sp;refine⟨rfl,(show 1<=yB by rw[Yp];decide),I'.kIn _ _ lk,W.looks_findIn I'.kIn Z.ini,Z.tail I'.kIn,fun self=>W.bind_fn I'.kIn self Z.fn,?_⟩;have hroom:Room 1 (X.A.under (.builtin "type.__call__" ⟨.ref C::[.ref a],[]⟩)):=Room.make (k:=1) (hr.mono hk) C [.ref a] [];have henv:=I2.env0.make C [.ref a] [];have hbind:=hb {s2 with heap:=zrg s2.heap C [.ref a]} [.ref (s2.heap.objs.size+1), .ref a] I2.kIn hl;have hvals:Vals [V.ref (s2.heap.objs.size+1), .ref a] ([yC (s2.heap.objs.size+1), .ref a]++[]) := .cons rfl (.cons rfl .nil);have run:=G.run _ X.stack _ _ _ _ _ _ E0 hroom henv hbind hvals sp;show yk (yp X.prog X.w) (X.A.under (.builtin "type.__call__" ⟨.ref C::[.ref a],[]⟩)) (call (.ref fI) [.ref (s2.heap.objs.size+1), .ref a]) _ _ {s2 with heap:=zrg s2.heap C [.ref a]};refine wpAny_call (YO run fun rr s' hq=>?_)
 cases rr with
 |error ex=>exact Yu hq
 |ok fl=>
  cases fl with
  |next=>exact Yu hq
  |brk=>exact Yu hq
  |cont=>exact Yu hq
  |ret uu=>
   obtain⟨v,H2,hos,hbare,un,hok,rv,ev,l,p,hl0,hle,hp0,hpe,hpl,e2⟩:=hq;subst ev;obtain rfl:uu=Yi:=rv;obtain⟨_,H3,I3,_,_,e4⟩:=I2.after (Q:=fun v' H''=>v'=V.non/\H''=H2) ⟨V.non,H2,hos,hbare,un,hok,rfl,rfl,rfl⟩;rw[e4]at I3;have h3:H2 (s2.heap.objs.size+1)=some (.ext (z9m (s2.heap.objs.size+1) C (some p))):=by rw[e2];exact zF
   obtain⟨⟨te,he3⟩,_,_⟩:=(show ObjOk X.prog X.w H2 s'.heap (s2.heap.objs.size+1) (.ext (z9m (s2.heap.objs.size+1) C (some p))) from I3.hok _ _ h3)
   refine⟨rfl,I3.kIn _ _ lk,⟨_,te,he3⟩,?_⟩;have F:=flyI (C:=C) (te:=te) I' I3 hos ((Un.laid kp hsz hfr).trans un) hsz ⟨_,h3⟩ he3;rw[e2,zds hfr hle hpe]at F;have R1:RepH X.K (ρ'++[l]) (upd H' l (.lst (ns.map V.int))) (μ1++[.lst (ns.map D.int)]):=R.push hl0 ⟨_,zF,rws.ext (Ext.push hl0)⟩;have hp1:upd H' l (.lst (ns.map V.int)) p=none:=by rw[zK hpl];exact hp0
   refine kk (ρ'++[l]) (upd (upd H' l (.lst (ns.map V.int))) p (.xd [(f, .ref l)])) C (some p) hn ((x'.trans (Ext.push hl0)).trans (Ext.new hp1)) (R1.newTup hp1) (.inr ⟨p,[(f, .ref l)],rfl,zF,rfl,?_⟩) pins σ H' s2 (.ref (s2.heap.objs.size+1)) s' I' F;have hpg:=zDb (p:=l) R;simp[RepVs,RepV,hpg]
end
section
variable {X:Cx}{a b c e:Expr}{es:List Expr}{φ ψ χ:FE}{pos pos2 p1 p2:xi}
def zau(p:Addr)(j:Int):HO := .ext fun h=>∃t u v,IsRange h p 0 j 1 t u v
def zno:zPk X (.type "range") (fun xs H Q=>∃j:Int,xs=[.int j]/\∀p,H p=none->Q (.ref p) (upd H p (zau p j))):=by
 intro pins s σ H xs us Q I r ⟨j,e,k⟩;subst e;obtain⟨u,rfl,ru⟩:=vals1 r;obtain⟨t,rfl⟩:=ru;refine call_range_1 ?_;refine⟨.ref s.heap.objs.size,_,I.laid (t':=s.toks+1+1) (fun b o e=>yd _ e) (yh _) (show ObjOk X.prog X.w _ _ _ (zau _ j) from⟨⟨_,_,_,IsRange.new _ _ _ _ _ _ _⟩,⟨_,yo _ rfl⟩,fun h1 h2 ⟨t,u,v,x⟩ y=>⟨t,u,v,y _ x⟩⟩),rfl,k _ I.fresh⟩
def zjq{its:Array Value}{n:Nat}(h:ItemsOf (fun i v=>∃t,v = .int (0+i*1) t) its n):Vals ((yA n).map fun(k:Nat)=>V.int k) its.toList:=by
 obtain⟨h1,h2⟩:=h
 have key:∀(l:List Value)(m:Nat),(∀i (hi:i<l.length),∃t,l[i] = .int ((m+i:Nat):Int) t)->Vals ((List.range' m l.length).map fun(k:Nat)=>V.int k) l:=by
  intro l
  induction l with
  |nil=>intro m _;exact .nil
  |cons x xs ih=>
   intro m h;obtain⟨t,e⟩:=h 0 (by simp);refine .cons ⟨t,by simpa using e⟩ (ih (m+1) fun i hi=>?_);obtain⟨t,e⟩:=h (i+1) (by simpa using hi);exact⟨t,by rw[show m+1+i=m+(i+1) by omega];simpa using e⟩
 have:=key its.toList 0 fun i hi=>?_
 ·rw[List.range_eq_range',<-h1];simpa using this
 ·have hi':i<its.size:=by simpa using hi
  obtain⟨t,e⟩:=h2 i its[i] (by simp[hi']);exact⟨t,by simpa using e⟩
def zzm(φ:FE):FE:=fun δ μ=>(φ δ μ).bind fun p=>match p.1 with
 |.int j=>bif decide (-(2^62)<=j/\j<=1000000) then some (.loc p.2.length,p.2++[.lst ((yA j.toNat).map fun(k:Nat) => .int k)]) else none
 |_=>none
def zHq(hc:X.calm=true):zPk X (.type "list") (fun xs H Q=>∃p j,xs=[.ref p]/\H p=some (zau p j)/\-(2^62)<=j/\j<=1000000/\∀l,H l=none->Q (.ref l) (upd H l (.lst ((yA j.toNat).map fun(k:Nat)=>V.int k)))):=by
 intro pins s σ H xs us Q I r ⟨p,j,e,hq,h1,h2,k⟩;subst e;obtain⟨u,rfl,ru⟩:=vals1 r;cases ru;obtain⟨⟨t,u,v,hr⟩,_,_⟩:=I.hok p _ hq;have hn:Builtin.Range.rangeSize 0 j 1=(j.toNat:Nat):=by rw[rangeSize_one];split<;>omega
 refine call_list_range (n:=j.toNat) (I.ok.hd hc) hr (small_one (by decide) (by decide) h1 (by omega)) hn (by omega) fun h' tk acc' c' kp e hi=>?_;have hm:=million;have hv:=zjq hi;refine⟨.ref s.heap.objs.size,_,I.laid (t':=tk) kp (yh _) (show ObjOk X.prog X.w _ h' _ (.lst _) from⟨by simp;omega,acc'.toList,c',hv,by simpa using e⟩),rfl,k _ I.fresh⟩
def z2r(hm1:X.mg "list" = none)(hv1:yK "list" = some (.type "list"))(hm2:X.mg "range" = none)(h:ME X e φ)(hc:X.calm=true:=by rfl)(hg1:Gl X "list":=by rfl)(hg2:Gl X "range":=by rfl)
 (he:yg [e] X.env=(false,yY e X.env)::yg [] X.env:=by rfl) (he2:yg [.Call (.Name "range" p2) [e] [] pos2] X.env=(false,yY (.Call (.Name "range" p2) [e] [] pos2) X.env)::yg [] X.env:=by rfl) :
 ME X (.Call (.Name "list" p1) [.Call (.Name "range" p2) [e] [] pos2] [] pos) (zzm φ) :=
 zhd (zFf (zHq hc) hg1 hm1 hv1 (zoe (zFf zno hg2 hm2 boot_range (zoe h zUg he) (by decide) (by decide) he rfl) zUg he2) (by decide) (by decide) he2 rfl) fun ρ δ μ σ H d μ' Q A e k=>by
  obtain⟨⟨x,μ1⟩,e1,e⟩:=zi e;refine⟨ρ,δ,μ,x,μ1,A,e1,fun ρ1 H1 v x1 R1 r1=>?_⟩;dsimp only at e
  split at e
  ·rename_i j
   obtain⟨hb,e⟩:=zX e;have hb:=of_decide_eq_true hb;cases e;refine⟨j,by rw[r1.int_inv],fun p1 hp1=>⟨p1,j,rfl,zF,hb.1,hb.2,fun l hl=>?_⟩⟩;have R2:=R1.newTup (o:=zau p1 j) hp1;refine k _ _ _ (x1.trans ((Ext.new hp1).trans (Ext.push hl))) (R2.push hl ⟨_,zF,?_⟩) (.loc (zDb R2));have hr:=fun ρ H=>@z6e X.K ρ H ((yA j.toNat).map fun(k:Nat)=>(k:Int));simp only[map_map]at hr;exact hr _ _
  ·cases e
@[simp] def z2z:GL:=fun ds μ=>match ds with
 |[.int i]=>some (.int i,μ)
 |[.bl b]=>some (.int (if b then 1 else 0),μ)
 |_=>none
@[simp] def zkz:GL:=fun ds μ=>match ds with
 |[.int i, .int j]=>some (.int (if j<i then j else i),μ)
 |_=>none
@[simp] def zcz:GL:=fun ds μ=>match ds with
 |[.int i, .int j]=>some (.int (if j>i then j else i),μ)
 |_=>none
@[simp] def fIf(c:FT)(φ ψ:FE):FE:=fun δ μ=>(c δ μ).bind fun p=>bif p.1 then φ δ p.2 else ψ δ p.2
end
section
variable {prog:yv}{w:yE}{A:yH}{E:Value->yc->Prop}{s:yc}
def nextT{it t:Addr}{i:Nat}{items:Array Value}{x:Value}{Q:Value->yc->Prop}(hit:s.heap.IsTupleIter it t i)(ht:s.heap.IsTuple t items)(hx:items[i]?=some x)
 (hQ:∀h',h'.IsTupleIter it t (i+1)->Yj it s.heap h'->Q x {s with heap:=h' }):yk (yp prog w) A (YB (.ref it)) Q E s:=by
 obtain⟨ob,hob,hcl,hfs⟩:=id hit;obtain⟨ot,hot,_,m,hits⟩:=ht;unfold YB;refine ya (Yd (name:=YQ "__next__") hit.typeIs xq (yX xq hit.typeIs F.entry_tuple_iterator_next ?_ (F.args_tuple_iterator_next_1 _)));show yk _ _ (field (.ref it) 0 >>= _) _ _ s;refine ya (YA hob hfs (x := .ref t) rfl ?_);show yk _ _ (if(yC t==Yi)=true then _ else field (.ref it) 1 >>= _) _ _ s;rw[if_neg (show ¬(yC t==Yi)=true from yx)];refine ya (YA hob hfs (x := .int i 0) rfl ?_);show yk _ _ (seqItems? (.ref t) >>= _) _ _ s;refine ya (wpAny_seqItems hot hits ?_);simp only[Ys,hx];refine ya (YR hob hfs (by simp) (ye ⟨x,rfl,ye (hQ _ ?_ (Yv ..))⟩));refine⟨_,yJ _ hob (Yw (yW hfs _)),(Xd ..).trans hcl,?_⟩;rw[yW hfs];simp[Yz]
def zTs{it t:Addr}{i:Nat}{items:Array Value}{Q:Value->yc->Prop}(hh:A.handled=none)(hit:s.heap.IsTupleIter it t i)(ht:s.heap.IsTuple t items)(hx:items[i]?=none)
 (hE:∀h' e,Xj it s.heap h'->(∃o,h'.get? e=some o/\o.cls = .type "StopIteration")->E (.ref e) {s with heap:=h' }):yk (yp prog w) A (YB (.ref it)) Q E s:=by
 obtain⟨ob,hob,hcl,hfs⟩:=id hit;obtain⟨ot,hot,_,m,hits⟩:=ht;unfold YB;refine ya (Yd (name:=YQ "__next__") hit.typeIs xq (yX xq hit.typeIs F.entry_tuple_iterator_next ?_ (F.args_tuple_iterator_next_1 _)));show yk _ _ (field (.ref it) 0 >>= _) _ _ s;refine ya (YA hob hfs (x := .ref t) rfl ?_);show yk _ _ (if(yC t==Yi)=true then _ else field (.ref it) 1 >>= _) _ _ s;rw[if_neg (show ¬(yC t==Yi)=true from yx)];refine ya (YA hob hfs (x := .int i 0) rfl ?_);show yk _ _ (seqItems? (.ref t) >>= _) _ _ s;refine ya (wpAny_seqItems hot hits ?_);simp only[Ys,hx];refine ya (wpAny_rule (ya (YR hob hfs (by simp) ?_)));show yk _ _ (newExc (.type "StopIteration") [] >>= _) _ _ _;refine ya ?_;simp only[newExc,newTuple];refine ya (yV ?_ (by size_fits));refine ya (m:=firstArgMember _ _) (wpAny_of_eq (a:=Yi) (by first | rfl | (simp only[firstArgMember];rfl)) ?_);refine yV ?_ (by size_fits);simp only[raiseNew];refine ya (wpAny_handled ?_)
 first | rw[show A.in1.handled=none from hh] | rw[hh]
 exact ya (ye (wpAny_throw (hE _ _ (((Yv ..).extBut.push _).push _) ⟨_,yo _ rfl,rfl⟩)))
def zun{e it:Addr}{i:Int}{x old:Value}{N:yT->Prop}{Q:Option Value->yc->Prop}(he:IsEnum s.heap e it i old)(hne:e≠it)
 (nx:∀(A':yH)(Q':Value->yc->Prop)(E':Value->yc->Prop),(∀h1,N h1->Yj it s.heap h1->Q' x {s with heap:=h1 })->yk (yp prog w) A' (YB (.ref it)) Q' E' s)
 (hN:∀h h',N h->(∀o,h.get? it=some o->h'.get? it=some o)->N h')
 (hQ:∀h',IsEnumOut h' e it (i+1) x s.heap.objs.size->N h'->h'.get? s.heap.objs.size=some {cls := .type "tuple",data := .seq #[.int i s.toks,x]}->h'.objs.size=s.heap.objs.size+1 ->
  (∀b o,b≠e->b≠it->s.heap.get? b=some o->h'.get? b=some o)->Q (some (.ref s.heap.objs.size)) {s with heap:=h',toks:=s.toks+1 }):yk (yp prog w) A (Xg (.ref e)) Q E s:=by
 obtain⟨hp,g,d,tk,os⟩:=s;have hT:Shared.TypeIs ⟨hp,g,d,tk,os⟩ (.ref e) "enumerate":=⟨_,he,rfl⟩
 unfold Xg;refine ya (wpAny_attempt (Yd (name:=YQ "__next__") hT xZ (yX xZ hT F.entry_enumerate_next ?_ (F.args_enumerate_next_1 _))));show yk _ _ (field (.ref e) 2 >>= _) _ _ _;refine ya (YA he rfl (x := .ref it) rfl (ya (nx _ _ _ fun h1 n1 sb1=>?_)));replace sb1:Yj it hp h1:=sb1;have e1:IsEnum h1 e it i old:=(sb1.2 e hne).trans he;show yk _ _ (field (.ref e) 3 >>= _) _ _ ⟨h1,g,d,tk,os⟩;refine ya (YA e1 rfl (x:=Yz i) rfl ?_);show yk _ _ (field (.ref e) 4 >>= _) _ _ ⟨h1,g,d,tk,os⟩;refine ya (YA e1 rfl (x := .none) rfl ?_);show yk _ _ (mkInt i >>= _) _ _ ⟨h1,g,d,tk,os⟩;refine ya (wpAny_mkInt ?_);show yk _ _ (setField (.ref e) 3 (Yz (i+1)) >>= _) _ _ ⟨h1,g,d,tk+1,os⟩;refine ya (xO e1 (by simp) fun h2 e2 sb2=>?_);replace sb2:Yj e h1 h2:=sb2;replace e2:IsEnum h2 e it (i+1) old:=e2;show yk _ _ (setField (.ref e) 4 .none >>= _) _ _ ⟨h2,g,d,tk+1,os⟩;refine ya (xO e2 (by simp) fun h3 e3 sb3=>?_);replace sb3:Yj e h2 h3:=sb3;replace e3:IsEnum h3 e it (i+1) old:=e3;show yk _ _ (newTuple [.int i tk,x] >>= _) _ _ ⟨h3,g,d,tk+1,os⟩;refine ya (wpAny_newTuple ?_);have z3:h3.objs.size=hp.objs.size:=by rw[sb3.1,sb2.1,sb1.1]
 have el:e<hp.objs.size:=yi he;have ne4:hp.objs.size≠e:=yO el;obtain⟨h4,hh4⟩:∃h4,h4=h3.push {cls := .type "tuple",data := .seq #[.int i tk,x]}:=⟨_,rfl⟩
 have e4:IsEnum h4 e it (i+1) old:=by rw[hh4];exact yd _ e3
 have t4:h4.get? hp.objs.size=some {cls := .type "tuple",data := .seq #[.int i tk,x]}:=by rw[hh4,<-z3];exact yo _ rfl
 have z4:h4.objs.size=hp.objs.size+1:=by rw[hh4,Yl,z3]
 have up:∀b o,b≠e->h1.get? b=some o->h4.get? b=some o:=fun b o hb q=>by
  rw[hh4];exact yd _ ((sb3.2 b hb).trans ((sb2.2 b hb).trans q))
 show yk _ _ (Builtin.SmallTypes.ownedTupleIsFree (.ref e) >>= _) _ _ ⟨h3.push {cls := .type "tuple",data := .seq #[.int i tk,x]},g,d,tk+1,os⟩;rw[<-hh4,z3];refine ya ?_;unfold Builtin.SmallTypes.ownedTupleIsFree;refine ya (YA e4 rfl (x := .none) rfl (ye ?_));simp only[if_true];refine ya (wpAny_rule (ya (YA e4 rfl (x:=old) rfl (ya (xO e4 (by simp) fun h5 e5 sb5=>?_)))));replace sb5:Yj e h4 h5:=sb5;replace e5:IsEnum h5 e it (i+1) x:=e5;show yk _ _ (Builtin.SmallTypes.ownedTupleHandOut (.ref e) (.ref hp.objs.size) >>= _) _ _ ⟨h5,g,d,tk+1,os⟩;refine ya ?_;unfold Builtin.SmallTypes.ownedTupleHandOut;refine ya (xO e5 (by simp) fun h6 e6 sb6=>?_);replace sb6:Yj e h5 h6:=sb6;replace e6:IsEnumOut h6 e it (i+1) x hp.objs.size:=e6;refine xO e6 (by simp) fun h7 e7 sb7=>?_;replace sb7:Yj e h6 h7:=sb7;replace e7:IsEnumOut h7 e it (i+1) x hp.objs.size:=e7;have up7:∀b o,b≠e->h4.get? b=some o->h7.get? b=some o:=fun b o hb q=>(sb7.2 b hb).trans ((sb6.2 b hb).trans ((sb5.2 b hb).trans q));refine ya (wpAny_letGo (ye ⟨_,rfl,ye (hQ h7 e7 (hN _ _ n1 fun o q=>up7 _ _ (yF hne) (up _ _ (yF hne) q)) (up7 _ _ ne4 t4) ?_ fun b o h1 h2 q=>up7 _ _ h1 (up _ _ h1 ((sb1.2 b h2).trans q)))⟩));show h7.objs.size=hp.objs.size+1;rw[sb7.1,sb6.1,sb5.1,z4]
def zrp{e it:Addr}{i:Int}{old:Value}{Q:Option Value->yc->Prop}(he:IsEnum s.heap e it i old)
 (nx:∀(A':yH)(Q':Value->yc->Prop)(E':Value->yc->Prop),A'.handled=A.handled->(∀h' x,Xj it s.heap h'->(∃o,h'.get? x=some o/\o.cls = .type "StopIteration")->E' (.ref x) {s with heap:=h' })->yk (yp prog w) A' (YB (.ref it)) Q' E' s)
 (hQ:∀h',Xj it s.heap h'->Q none {s with heap:=h' }):yk (yp prog w) A (Xg (.ref e)) Q E s:=by
 have hT:s.TypeIs (.ref e) "enumerate":=⟨_,he,rfl⟩
 unfold Xg;refine ya (wpAny_attempt (Yd (name:=YQ "__next__") hT xZ (yX xZ hT F.entry_enumerate_next ?_ (F.args_enumerate_next_1 _))));show yk _ _ (field (.ref e) 2 >>= _) _ _ _;refine ya (YA he rfl (x := .ref it) rfl (ya (nx _ _ _ rfl fun h' x eb ⟨o,ho,hc⟩=>?_)));exact ya (wpAny_isInstance (T:="StopIteration") (b:=true) ⟨o,ho,hc⟩ isSubtype_stop (ye (hQ _ eb)))
end
section
variable {X:Cx}{pins:List (Addr×YL)}{σ:L2.St}{H:Hp}{s:yc}
def zTl{fp:List Addr}(hf:∀b∈fp,zMp X pins H b){b:Addr}{u:HO}(e:H b=some u):b∉fp:=fun z=>by rw[(hf b z).1]at e;cases e
def zEx{fp:List Addr}(hf:∀b∈fp,zMp X pins H b):∀b∈fp,(b∈X.ex\/X.s₀.heap.objs.size<=b)/\b≠X.env.locals/\(∀x c,X.env.cells.lookup x=some c->c≠b)/\∀p∈X.pn++pins,p.1≠b:=fun b hb=>by
 obtain⟨_,f1,_,f3,f4,f5⟩:=hf b hb;exact⟨f3,f1,f4,f5⟩
def z2k{fp:List Addr}{h':yT}{t':Nat}(I:Inv X pins σ H s)(hf:∀b∈fp,zMp X pins H b)(k:∀b o,b∉fp->s.heap.get? b=some o->h'.get? b=some o):Inv X pins σ H {s with heap:=h',toks:=t' }:=by
 refine I.call (g':=s.gens) (t':=t') (d':=s.drawn) (ch:=fp) ⟨fun b o e _ _ hx=>k b o hx e,fun b o e _ _ hx=>⟨o.slots,k b o hx e⟩,fun _ _ _ n _=>n,fun b o e hx=>⟨o,k b o hx e⟩,fun _ _ e=>e,fun _ _ _ e=>e,fun _ ps e=>⟨#[],by rw[e];simp⟩⟩ (fun a o e=>?_) I.bare (zEx hf);refine(I.hok a o e).stay (fun b u hb q=>k b u ?_ q) (fun _ q=>q) fun _ _ q=>q;rcases hb with rfl | hb
 ·exact zTl hf e
 ·exact zTl hf hb
def zte{fp:List Addr}{h':yT}{t':Nat}{p:Addr}{o:HO}(I:Inv X pins σ H s)(hf:∀b∈fp,zMp X pins H b)(k:∀b o,b∉fp->s.heap.get? b=some o->h'.get? b=some o)(hp:s.heap.objs.size<=p)
 (new:ObjOk X.prog X.w (upd H p o) h' p o):Inv X pins σ (upd H p o) {s with heap:=h',toks:=t' }:=by
 have hn:=I.hok.fresh hp;have hlt:∀b ob,s.heap.get? b=some ob->b≠p:=fun b ob e=>yw (yq (yi e) hp)
 refine I.call (g':=s.gens) (t':=t') (d':=s.drawn) (ch:=fp) ⟨fun b o e _ _ hx=>k b o hx e,fun b o e _ _ hx=>⟨o.slots,k b o hx e⟩,fun b ob e n _=>by rw[zK (hlt b ob e)];exact n,fun b o e hx=>⟨o,k b o hx e⟩,
  fun _ _ e=>by rw[zK (zI e hn)];exact e,fun _ _ _ e=>by rw[zK (zI e hn)];exact e,fun _ ps e=>⟨#[],by rw[zK (zI e hn),e];simp⟩⟩ (fun a u e=>?_) I.bare (zEx hf)
 by_cases ha:a=p
 ·subst ha;rw[zF]at e;cases e;exact new
 ·rw[zK ha]at e;refine(I.hok a u e).stay (fun b u hb q=>k b u ?_ q) (fun b q=>by rw[zK (zI q hn)];exact q) fun b xs q=>by rw[zK (zI q hn)];exact q
  rcases hb with rfl | hb
  ·exact zTl hf e
  ·exact zTl hf hb
def Ien(J:It):It:=⟨J.go,fun i H x H'=>∃p y,x = .ref p/\H p=none/\H'=upd H p (.tup [.int i,y])/\J.yld i H y H,J.stop⟩
def zIs{P:yv}{w:yE}{H:Hp}{h:yT}{p:Addr}{x y:V}{u v:Value}(e:h.get? p=some {cls := .type "tuple",data := .seq #[u,v]})(rx:RelV x u)(ry:RelV y v):ObjOk P w H h p (.tup [x,y]) :=
 ⟨by rw[Yp];simp,[u,v], .cons rx (.cons ry .nil),⟨_,e,rfl,_,rfl⟩⟩
def z6p{P:yv}{w:yE}{K:yr}{elts:List Expr}{x1}{pos:xi}(a e it:Addr)(hne:e≠it):Turn P w K (.Tuple elts x1 pos) (Ien (Itl K a)) [e,it] e (fun i h=>(∃old,IsEnum h e it i old)/\h.IsListIter it a i) where
 mem:=by simp
 obj:=fun i h ⟨⟨old,he⟩,st⟩ b hb=>by
  have hb:b=e\/b=it:=by simpa using hb
  rcases hb with rfl | rfl
  ·exact⟨_,he,fun v z=>by have z':Data.fields _=Data.cell v:=z;cases z'⟩
  ·obtain⟨o,q,c,d⟩:=st;exact⟨o,q,fun v z=>by rw[d]at z;cases z⟩
 keep:=fun i h h' ⟨⟨old,he⟩,st⟩ k=>⟨⟨old,k e (by simp) _ he⟩,st.at fun o q=>k it (by simp) o q⟩
 item:=by
  intro X hP hw hK hc i pins s σ H E I hf ⟨⟨old,he⟩,st⟩ hg;subst hP hw hK;obtain⟨xs,x,hq,hx⟩:=hg;obtain⟨its,rv,p,hz⟩:=I.list hq;obtain⟨u,hu,ru⟩:=rv.get hx;refine zun (N:=fun h=>h.IsListIter it a (i+1)) he hne (fun A' Q' E' hQ=>wpAny_nextOf_list_item st p.isList (x:=u) (by simpa using hu) fun h' st' sb=>hQ h' st' sb) (fun h h' n k=>n.at fun o q=>k o q) fun h' eo n' t' z' kk=>?_;refine⟨_,rfl,wpAny_letOwnedTupleGo_enum eo fun h2 e2 sb2=>?_⟩;replace sb2:Yj e h' h2:=sb2;have hlt:e<s.heap.objs.size:=yi he;have t2:=(sb2.2 s.heap.objs.size (yO hlt)).trans t';have hfr:=I.hok.fresh (yh s.heap.objs.size)
  have I2:Inv X pins σ (upd H s.heap.objs.size (.tup [.int i,x])) {s with heap:=h2,toks:=s.toks+1 }:=by
   refine zte I hf (fun b o hb q=>?_) (yh _) (zIs t2 ⟨_,rfl⟩ ru);simp only[mem_cons,not_mem_nil,or_false,not_or]at hb;exact(sb2.2 b hb.1).trans (kk b o hb.1 hb.2 q)
  refine⟨.ref s.heap.objs.size,_,I2,rfl,⟨_,x,rfl,hfr,rfl,rfl,fun ys hy=>by rw[I.list_inj hy hq];exact hx⟩,⟨⟨u,by simpa using e2⟩,n'.at fun o q=>(sb2.2 it (yF hne)).trans q⟩,fun b hb=>?_⟩
  ·rw[zK]
   ·exact(hf b hb).1
   ·rintro rfl;have hb:s.heap.objs.size=e\/s.heap.objs.size=it:=by simpa using hb
    rcases hb with q | q
    ·exact absurd hlt (by rw[q];exact yS _)
    ·obtain⟨o,qo,_⟩:=st;exact absurd (yi qo) (by rw[q];exact yS _)
 done:=by
  intro X hP hw hK hc i pins s σ H E I hf ⟨⟨old,he⟩,st⟩ hg;subst hP hw hK;obtain⟨xs,hq,hx⟩:=hg;obtain⟨its,rv,p,hz⟩:=I.list hq;have hl:=rv.length;refine zrp he (fun A' Q' E' hA hE=>wpAny_nextOf_list_end (hA.trans (I.ok.hd hc)) st p.isList (by simp;omega) hE) fun h' eb=>⟨rfl,z2k (t':=s.toks) I hf fun b o hb q=>eb b o (fun z=>hb (by simp[z])) q⟩
 self:=fun _ _ _ _ _ ⟨⟨old,he⟩,_⟩ h=>wpAny_pyIter_enum he h
def zyq{P:yv}{w:yE}{K:yr}{elts:List Expr}{x1}{pos:xi}(a e it:Addr)(hne:e≠it):Turn P w K (.Tuple elts x1 pos) (Ien (Itt K a)) [e,it] e (fun i h=>(∃old,IsEnum h e it i old)/\h.IsTupleIter it a i) where
 mem:=by simp
 obj:=fun i h ⟨⟨old,he⟩,st⟩ b hb=>by
  have hb:b=e\/b=it:=by simpa using hb
  rcases hb with rfl | rfl
  ·exact⟨_,he,fun v z=>by have z':Data.fields _=Data.cell v:=z;cases z'⟩
  ·obtain⟨o,q,c,d⟩:=st;exact⟨o,q,fun v z=>by rw[d]at z;cases z⟩
 keep:=fun i h h' ⟨⟨old,he⟩,st⟩ k=>⟨⟨old,k e (by simp) _ he⟩,st.at fun o q=>k it (by simp) o q⟩
 item:=by
  intro X hP hw hK hc i pins s σ H E I hf ⟨⟨old,he⟩,st⟩ hg;subst hP hw hK;obtain⟨xs,x,hq,hx⟩:=hg;obtain⟨its,rv,p,hz⟩:=I.tuple hq;obtain⟨u,hu,ru⟩:=rv.get hx;refine zun (N:=fun h=>h.IsTupleIter it a (i+1)) he hne (fun A' Q' E' hQ=>nextT st (show s.heap.IsTuple a its.toArray from p) (x:=u) (by simpa using hu) fun h' st' sb=>hQ h' st' sb) (fun h h' n k=>n.at fun o q=>k o q) fun h' eo n' t' z' kk=>?_;refine⟨_,rfl,wpAny_letOwnedTupleGo_enum eo fun h2 e2 sb2=>?_⟩;replace sb2:Yj e h' h2:=sb2;have hlt:e<s.heap.objs.size:=yi he;have t2:=(sb2.2 s.heap.objs.size (yO hlt)).trans t';have hfr:=I.hok.fresh (yh s.heap.objs.size)
  have I2:Inv X pins σ (upd H s.heap.objs.size (.tup [.int i,x])) {s with heap:=h2,toks:=s.toks+1 }:=by
   refine zte I hf (fun b o hb q=>?_) (yh _) (zIs t2 ⟨_,rfl⟩ ru);simp only[mem_cons,not_mem_nil,or_false,not_or]at hb;exact(sb2.2 b hb.1).trans (kk b o hb.1 hb.2 q)
  refine⟨.ref s.heap.objs.size,_,I2,rfl,⟨_,x,rfl,hfr,rfl,rfl,fun ys hy=>by rw[I.tuple_inj hy hq];exact hx⟩,⟨⟨u,by simpa using e2⟩,n'.at fun o q=>(sb2.2 it (yF hne)).trans q⟩,fun b hb=>?_⟩
  ·rw[zK]
   ·exact(hf b hb).1
   ·rintro rfl;have hb:s.heap.objs.size=e\/s.heap.objs.size=it:=by simpa using hb
    rcases hb with q | q
    ·exact absurd hlt (by rw[q];exact yS _)
    ·obtain⟨o,qo,_⟩:=st;exact absurd (yi qo) (by rw[q];exact yS _)
 done:=by
  intro X hP hw hK hc i pins s σ H E I hf ⟨⟨old,he⟩,st⟩ hg;subst hP hw hK;obtain⟨xs,hq,hx⟩:=hg;obtain⟨its,rv,p,hz⟩:=I.tuple hq;have hl:=rv.length;refine zrp he (fun A' Q' E' hA hE=>zTs (hA.trans (I.ok.hd hc)) st (show s.heap.IsTuple a its.toArray from p) (by simp;omega) hE) fun h' eb=>⟨rfl,z2k (t':=s.toks) I hf fun b o hb q=>eb b o (fun z=>hb (by simp[z])) q⟩
 self:=fun _ _ _ _ _ ⟨⟨old,he⟩,_⟩ h=>wpAny_pyIter_enum he h
def zqs(l:Addr)(items:Array Value)(n:Nat)(dct:Option Addr)(sl:Array (Option Value)) :
 Meets (xt.«enumerate.__new__» ⟨[.type "enumerate", .ref l],[]⟩) (fun _ R s=>s.heap.get? l=some {cls := .type "tuple",dict:=dct,data := .seq items n,slots:=sl } /\
  R (.ok (.ret (.ref (s.heap.push {cls := .type "tuple_iterator",data := .fields #[.ref l, .int 0 0]}).objs.size)))
   {s with heap:=(s.heap.push {cls := .type "tuple_iterator",data := .fields #[.ref l, .int 0 0]}).push {cls := .type "enumerate",data := .fields #[.none, .bool false, .ref s.heap.objs.size,Yz 0, .none, .none]}}) :=
 .of_wp fun prog w A R s h=>by
  obtain⟨hp,g,d,tk,os⟩:=s;obtain⟨hl,h⟩:=h;have hsub:=sub_enumerate;have hL:Heap.IsTuple (Shared.heap ⟨hp,g,d,tk,os⟩) l items:=⟨_,hl,rfl,n,rfl⟩
  wp_walk using xF hl
  refine wpAny_stack_any fun st=>ye ?_
  split
  ·rename_i c _ _ _ _ _
   cases (c==YC "enumerate")
   ·wp_walk using xF hl,wpAny_pyIter_tuple hL
    exact⟨_,rfl,h⟩
   ·wp_walk using xF hl,wpAny_pyIter_tuple hL
    exact⟨_,rfl,h⟩
  ·wp_walk using xF hl,wpAny_pyIter_tuple hL
   exact⟨_,rfl,h⟩
def zmq{prog:yv}{w:yE}{A:yH}{E:Value->yc->Prop}{l:Addr}{items:Array Value}{Q:Value->yc->Prop}(hL:s.heap.IsTuple l items)
 (h:∀h',IsEnum h' (s.heap.objs.size+1) s.heap.objs.size 0 .none->h'.IsTupleIter s.heap.objs.size l 0->h'.objs.size=s.heap.objs.size+2 ->
  (∀b o,s.heap.get? b=some o->h'.get? b=some o)->Q (.ref (s.heap.objs.size+1)) {s with heap:=h' }):yk (yp prog w) A (call (.type "enumerate") [.ref l]) Q E s:=by
 obtain⟨⟨c,dct,dt,sl⟩,hl,hc,n,hd⟩:=hL;replace hc:c = .type "tuple":=hc;replace hd:dt = .seq items n:=hd;subst hc hd;refine callType_new F.called_enumerate (by decide) (F.typeCall_enumerate_1 _) (F.newCall_enumerate_1 _) (fun obj=>F.args_object_init_2 obj _) F.entry_enumerate_new (zqs l items n dct sl) ⟨hl,?_⟩;have hz:(s.heap.push {cls := .type "tuple_iterator",data := .fields #[.ref l, .int 0 0]}).objs.size=s.heap.objs.size+1:=Yl ..
 have he:IsEnum ((s.heap.push {cls := .type "tuple_iterator",data := .fields #[.ref l, .int 0 0]}).push {cls := .type "enumerate",data := .fields #[.none, .bool false, .ref s.heap.objs.size,Yz 0, .none, .none]}) (s.heap.objs.size+1) s.heap.objs.size 0 .none:=by
  have:=yo (s.heap.push {cls := .type "tuple_iterator",data := .fields #[.ref l, .int 0 0]}) (o:={cls := .type "enumerate",data := .fields #[.none, .bool false, .ref s.heap.objs.size,Yz 0, .none, .none]}) rfl;rw[hz]at this;exact this
 show _/\_;rw[hz];exact⟨⟨_,he,rfl⟩,h _ he ⟨_,yd _ (yo _ rfl),rfl,rfl⟩ (by rw[Yl,hz]) fun b o x=>yd _ (yd _ x)⟩
def zjA(K:yr)(tl:TE):TI:=fun σ H R=>tl σ H fun x H1=>∃a,x = .ref a/\((∃xs,SqL K H1 a xs)/\R (Ien (Itl K a)) H1\/(∃xs,SqT K H1 a xs)/\R (Ien (Itt K a)) H1)
def zJw{l:Expr}{tl:TE}{elts:List Expr}{x1}{tp p pos:xi}(hg:Gl X "enumerate")(hm:X.mg "enumerate" = none)(hv:yK "enumerate" = some (.type "enumerate"))(hl:PE X l tl)(hs:yg [l] X.env=[(false,yY l X.env)]:=by rfl) :
 PI X (.Tuple elts x1 tp) (.Call (.Name "enumerate" p) [l] [] pos) (zjA X.K tl):=by
 intro pins s σ H R I h
 refine Call_ (zOj I hg hm hv (YK (thn (zoe hl zUg hs pos pins s σ H (fun vs H1=>match vs with
  |[x]=>∃a,x = .ref a/\((∃xs,SqL X.K H1 a xs)/\R (Ien (Itl X.K a)) H1\/(∃xs,SqT X.K H1 a xs)/\R (Ien (Itt X.K a)) H1)
  |_=>False) I h) fun us s1 ⟨vs,H1,I1,r1,q1⟩=>?_) hs rfl))
 dsimp only at q1
 split at q1
 case h_2=>exact q1.elim
 obtain⟨a,e,q⟩:=q1;subst e
 cases r1 with
 |cons r rr=>
  cases rr;cases r
  have fin:∀h':yT,(∀b o,s1.heap.get? b=some o->h'.get? b=some o)->∀b∈[s1.heap.objs.size+1,s1.heap.objs.size],zMp X pins H1 b:=fun h' kp b hb=>by
   have hb:b=s1.heap.objs.size+1\/b=s1.heap.objs.size:=by simpa using hb
   rcases hb with rfl | rfl
   ·exact I1.fpOk (xK _) (I1.hok.fresh (xK _))
   ·exact I1.fpOk (yh _) (I1.hok.fresh (yh _))
  have hne:s1.heap.objs.size+1≠s1.heap.objs.size:=Nat.succ_ne_self _;rcases q with ⟨⟨xs,hq⟩,q⟩ | ⟨⟨xs,hq⟩,q⟩
  ·obtain⟨its,rv,pl,hz⟩:=I1.list hq;refine call_enumerate_list pl.isList fun h' e1 i1 z1 kp=>?_;refine wpAny_pyIter_enum (s:={s1 with heap:=h' }) e1 ?_;exact⟨_,[s1.heap.objs.size+1,s1.heap.objs.size],_,_,H1,rfl,I1.kept (t':=s1.toks) kp,z6p a _ _ hne,⟨⟨_,e1⟩,i1⟩,fin h' kp,q⟩
  ·obtain⟨its,rv,pl,hz⟩:=I1.tuple hq;refine zmq (show s1.heap.IsTuple a its.toArray from pl) fun h' e1 i1 z1 kp=>?_;refine wpAny_pyIter_enum (s:={s1 with heap:=h' }) e1 ?_;exact⟨_,[s1.heap.objs.size+1,s1.heap.objs.size],_,_,H1,rfl,I1.kept (t':=s1.toks) kp,zyq a _ _ hne,⟨⟨_,e1⟩,i1⟩,fin h' kp,q⟩
def zog(ds:List D):List D:=ds.zipIdx.map fun p => .tup [.int (p.2:Nat),p.1]
def zld(ds:List D):(zog ds).length=ds.length:=by simp[zog]
def zNl{ds:List D}{i:Nat}{d:D}(h:(zog ds)[i]?=some d):∃y,ds[i]?=some y/\d = .tup [.int i,y]:=by
 unfold zog at h;rw[yn,Xl]at h
 cases e:ds[i]? with
 |none=>rw[e]at h;cases h
 |some y=>
  rw[e]at h;refine⟨y,rfl,?_⟩;have:=Ye h;rw[<-this];simp
@[simp] def zhm(φ:FE):FI:=fun δ μ=>(φ δ μ).bind fun p=>match p.1 with
 |.tup ds=>some (zog ds,yes,p.2)
 |.fz ds=>some (zog ds,yes,p.2)
 |.loc n=>match p.2[n]? with
  |some (.lst ds)=>some (zog ds,zOn n ds,p.2)
  |_=>none
 |_=>none
def zto{K:yr}{J:It}{ρ:List Addr}{H:Hp}{ds:List D}{ok:Mem->Bool}(h:ItIs K J ρ H ds ok):ItIs K (Ien J) ρ H (zog ds) ok:=by
 refine⟨fun ρ' H' μ' i x R o hi=>h.go ρ' H' μ' i x R o (by rw[zld]at hi;exact hi),fun ρ' H' μ' i x H'' d x' R o e ⟨p,y,e1,hp,e2,yl⟩=>?_,fun ρ' H' μ' x R o=>by rw[zld];exact h.stop ρ' H' μ' x R o⟩;obtain⟨z,ez,rfl⟩:=zNl e;obtain⟨_,_,rz⟩:=h.yld ρ' H' μ' i y H' z x' R o ez yl;subst e1 e2;exact⟨Ext.new hp,R.newTup hp, .tup zF (.cons .int (.cons (rz.ext (Ext.new hp)) .nil))⟩
def zKg{a:Expr}{φ:FE}{elts:List Expr}{x1}{tp p pos:xi}(hm:X.mg "enumerate" = none)(hv:yK "enumerate" = some (.type "enumerate"))(h:ME X a φ)(hg:Gl X "enumerate":=by rfl)(hs:yg [a] X.env=[(false,yY a X.env)]:=by rfl) :
 MI X (.Tuple elts x1 tp) (.Call (.Name "enumerate" p) [a] [] pos) (zhm φ) :=
 zUr (zJw hg hm hv h hs) fun ρ δ μ σ H ds ok μ' R A e k=>by
  obtain⟨⟨x,μ1⟩,e1,e⟩:=zi e;refine⟨ρ,δ,μ,x,μ1,A,e1,fun ρ1 H1 v1 x1 R1 r1=>?_⟩;dsimp only at e
  split at e
  ·cases e;obtain⟨a,vs,rfl,e2,q2⟩:=r1.tup_inv;exact⟨a,rfl, .inr ⟨⟨vs,SqT.of e2⟩,k ρ1 H1 _ x1 R1 (zto (zev e2 q2))⟩⟩
  ·cases e;obtain⟨a,vs,rfl,e2,q2⟩:=r1.fz_inv;exact⟨a,rfl, .inl ⟨⟨vs,e2.sq⟩,k ρ1 H1 _ x1 R1 (zto (zup fun ρ' H' μ' x _ _=>⟨vs,(x.fz e2).sq,q2.ext x⟩))⟩⟩
  ·split at e
   ·rename_i hm
    cases e;obtain⟨a,rfl,e2⟩:=r1.loc_inv;obtain⟨vs,e3,q3⟩:=R1.at_ _ _ _ e2 hm;refine⟨a,rfl, .inl ⟨⟨vs,SqL.of e3⟩,k ρ1 H1 _ x1 R1 (zto (zup fun ρ' H' μ'' x R' o=>?_))⟩⟩;obtain⟨vs',e4,q4⟩:=R'.at_ _ _ _ (x.get e2) (stays_iff.mp o);exact⟨vs',SqL.of e4,q4⟩
   ·cases e
  ·cases e
end
section
variable {X:Cx}{a b c e:Expr}{es:List Expr}{φ ψ χ:FE}{pos:xi}
@[simp] def zsg(g:GM)(φ:FE):FE:=fun δ μ=>(φ δ μ).bind fun p=>match p.1 with
 |.loc n=>match p.2[n]? with
  |some (.lst _)=>g (.loc n) [] p.2
  |_=>none
 |_=>none
def zyu{o:Expr}{name:Str}{id:String}{g:GM}{apos:xi}(slot:Slot "list" name id)(hty:typeOf (.builtin id)=pure (.type "method_descriptor"))(hm:MtG X id g)(ho:ME X o φ)
 (hbase:Yn o name X.env (yY o X.env)=yY o X.env:=by rfl) (hline:(apos.endLine==pos.line)=true:=by rfl):ME X (.Call (.Attribute o name apos) [] [] pos) (zsg g φ) :=
 zhd (z3x PySem.F.plainAttrs_list slot hty hm ho hbase hline) fun ρ δ μ σ H d μ' Q A e k=>by
  obtain⟨⟨x,μ1⟩,e1,e⟩:=zi e;refine⟨ρ,δ,μ,x,μ1,A,e1,fun ρ1 H1 v x1 R1 r1=>?_⟩;dsimp only at e
  split at e
  ·split at e
   ·rename_i hm'
    obtain⟨a,rfl,ea⟩:=r1.loc_inv;obtain⟨vs,e3,q3⟩:=R1.at_ _ _ _ ea hm';exact⟨.inl ⟨rfl,vs,SqL.of e3⟩,ρ1,_,[],μ1,d,μ',r1, .nil,R1,e,fun ρ3 H3 v3 x3 R3 r3=>k ρ3 H3 v3 (x1.trans x3) R3 r3⟩
   ·cases e
  ·cases e
@[simp] def zGf:GM:=fun x ds μ=>match x,ds with
 |.loc n,[]=>match μ[n]? with
  |some (.lst _)=>some (.non,μ.set n (.lst []))
  |_=>none
 |_,_=>none
def z6s:MtG X "list.clear" zGf:=by
 refine MtG.of fun pins s σ H x xs v us Q I rx rs ρ dx ds μ d μ' r1 r2 R e k=>?_;unfold zGf at e
 split at e
 ·split at e
  ·rename_i hm
   cases e;obtain⟨a,rfl,ea⟩:=r1.loc_inv;obtain⟨vs,e3,q3⟩:=R.at_ _ _ _ ea hm;have hmu:Mut (H a):=by rw[e3];trivial
   exact zBt pins s σ H _ _ v us Q I rx rs ⟨a,vs,rfl,r2.nil_inv,e3,k ρ _ _ (Ext.wr hmu) (R.wr hmu ea ⟨_,zF, .nil⟩) .non⟩
  ·cases e
 ·cases e
def zom{o:Expr}{apos:xi}(ho:ME X o φ)(hbase:Yn o "clear" X.env (yY o X.env)=yY o X.env:=by rfl)(hline:(apos.endLine==pos.line)=true:=by rfl):ME X (.Call (.Attribute o "clear" apos) [] [] pos) (zsg zGf φ) :=
 zyu PySem.F.slot_list_clear PySem.F.type_list_clear z6s ho hbase hline
@[simp] def zDj:GM:=fun x ds μ=>match x,ds with
 |.loc n,[d]=>match μ[n]? with
  |some (.lst xs)=>bif zPd d&&xs.all zPd then some (.int (xs.countP fun y=>eqF y d:Nat),μ) else none
  |_=>none
 |_,_=>none
def zWm{x:V}:∀{xs:List V} {us:List Value},Vals xs us->xs.all zRj=true->us.countP (eqU x)=xs.countP fun y=>eqV y x
 |_,_, .nil,_=>rfl
 |y::xs,u::us, .cons r t,f=>by
  rw[all_cons,yG]at f;rw[countP_cons,countP_cons,z4s r f.1,zWm t f.2]
def zDn{K:yr}{ρ:List Addr}{H:Hp}{x:D}{v:V}(rx:RepV K ρ H x v)(fx:zPd x=true):∀{ds:List D} {vs:List V},RepVs K ρ H ds vs->ds.all zPd=true->(vs.countP fun y=>eqV y v)=ds.countP fun d=>eqF d x
 |[],_,r,_=>by rw[r.nil_inv];rfl
 |d::ds,_,r,f=>by
  obtain⟨w,ws,rfl,r1,r2⟩:=r.cons_inv;rw[all_cons,yG]at f;rw[countP_cons,countP_cons,zDn rx fx r2 f.2,zOr r1 rx f.1 fx]
def zis:MtG X "list.count" zDj:=by
 refine MtG.of fun pins s σ H x xs v us Q I rx rs ρ dx ds μ d μ' r1 r2 R e k=>?_;unfold zDj at e
 split at e
 ·split at e
  ·rename_i hm
   obtain⟨h1,e⟩:=zX e;rw[yG]at h1;cases e;obtain⟨a,rfl,ea⟩:=r1.loc_inv;obtain⟨vs,e3,q3⟩:=R.at_ _ _ _ ea hm;obtain⟨w,r,rfl,q1,q2⟩:=r2.cons_inv;rw[q2.nil_inv]at rs;obtain⟨u,rfl,ru⟩:=vals1 rs;cases rx;obtain⟨z,its,n,rv,hl,el⟩:=I.lstM e3;obtain⟨fv,_⟩:=zkt q1 h1.1 q3 h1.2;refine Xh PySem.F.slot_list_count ⟨_,el,rfl⟩ PySem.F.entry_list_count (PySem.F.args_list_count_2 _ _) (SeqAt.list_countAt a its.toArray n _ _ u (eqU w)) ⟨el,fun y hy=>zZi ru (zfm q1 h1.1) rv fv y (by simpa using hy),?_⟩;refine⟨.int _,H,I.tok _,⟨_,rfl⟩,?_⟩;rw[show its.toArray.toList=its by simp,zWm rv fv,zDn q1 h1.1 q3 h1.2];exact k ρ H _ Ext.refl R .int
  ·cases e
 ·cases e
def zwu{o:Expr}{ψ:FA}{apos:xi}(ho:ME X o φ)(ha:MAn X (e::es) ψ)
 (hbase:Yn o "count" X.env (yY o X.env)=yY o X.env:=by rfl)
 (hfew:((Yh pos (yg (e::es) X.env)).all (fun x=>!x.1)&&(xA pos (YE [] X.env)).all (fun x=>x.1.isSome)
  && decide ((e::es).length+([]:List xr).length+(if([]:List xr).isEmpty then 0 else 1)<30))=true:=by rfl)
 (hline:(apos.endLine==pos.line)=true:=by rfl) (hs:yg (e::es) X.env=(false,yY e X.env)::yg es X.env:=by rfl) (hplain:(Yh pos (yg es X.env)).any (·.1)=false:=by rfl) :
 ME X (.Call (.Attribute o "count" apos) (e::es) [] pos) (zAf zDj φ ψ):=zpm PySem.F.slot_list_count PySem.F.type_list_count zis ho ha hbase hfew hline hs hplain
@[simp] def zfi:GM:=fun x ds μ=>match x,ds with
 |.loc n,[.int i]=>match μ[n]? with
  |some (.lst xs)=>(z0h xs).bind fun ns=>bif ns.contains i then some (.non,μ.set n (.lst ((ns.erase i).map .int))) else none
  |_=>none
 |_,_=>none
def z6o{i:Int}:∀{ns:List Int},i∈ns->∃j,∃hj:j<ns.length,ns[j]=i/\(∀m (hm:m<ns.length),m<j->ns[m]≠i)/\ns.erase i=ns.eraseIdx j
 |[],h=>by cases h
 |n::ns,h=>by
  by_cases hn:n=i
  ·exact⟨0,by simp,hn,fun m _ hm=>absurd hm (Nat.not_lt_zero _),by simp[hn]⟩
  ·have h':i∈ns:=by
    rcases List.mem_cons.mp h with h | h
    ·exact absurd h.symm hn
    ·exact h
   obtain⟨j,hj,e1,e2,e3⟩:=z6o h';refine⟨j+1,by simpa using hj,by simpa using e1,fun m hm hmj=>?_,?_⟩
   ·cases m with
    |zero=>simpa using hn
    |succ m=>simpa using e2 m (by simpa using hm) (by omega)
   ·rw[List.erase_cons_tail (by simpa using hn),e3,List.eraseIdx_cons_succ]
def zrn{α β:Type}(f:α->β):∀(l:List α)(j:Nat),(l.eraseIdx j).map f=(l.map f).eraseIdx j
 |[],j=>by simp
 |x::l,0=>by simp
 |x::l,j+1=>by simp[zrn f l j]
def zYk:∀{vs:List V} {us:List Value} (j:Nat),Vals vs us->Vals (vs.eraseIdx j) (us.eraseIdx j)
 |_,_,_, .nil=>by simp;exact .nil
 |_,_,0, .cons r t=>by simpa using t
 |_,_,j+1, .cons r t=>by rw[List.eraseIdx_cons_succ,List.eraseIdx_cons_succ];exact .cons r (zYk j t)
def zUq:MtG X "list.remove" zfi:=by
 refine MtG.of fun pins s σ H x xs v us Q I rx rs ρ dx ds μ d μ' r1 r2 R e k=>?_;unfold zfi at e
 split at e
 ·rename_i l i
  split at e
  ·rename_i hm
   obtain⟨ns,e2,e⟩:=zi e;obtain⟨h1,e⟩:=zX e;cases e;rw[zLe e2]at hm;obtain⟨a,rfl,ea⟩:=r1.loc_inv;obtain⟨vs,e3,q3⟩:=R.at_ _ _ _ ea hm;rw[zfh q3]at e3;obtain⟨w,r,rfl,q1,q2⟩:=r2.cons_inv;rw[q2.nil_inv,q1.int_inv]at rs;obtain⟨u,rfl,ru⟩:=vals1 rs;obtain⟨t,rfl⟩:=ru;cases rx;obtain⟨z,its,n,rv,hl,el⟩:=I.lstM e3;obtain⟨j,hj,hit,hno,her⟩:=z6o (show i∈ns by simpa using h1);have hlen:its.length=ns.length:=by rw[<-rv.length];simp
   have at_:∀m (hm:m<its.length),∃t,its[m] = .int (ns[m]'(by omega)) t:=fun m hm=>by
    have hg:(ns.map V.int)[m]?=some (.int (ns[m]'(by omega))):=by simp[show m<ns.length by omega]
    obtain⟨u,hu,t,ru⟩:=rv.get hg;exact⟨t,by rw[<-ru];exact(List.getElem?_eq_some_iff.mp hu).2⟩
   let f:Value->Bool:=fun y=>match y with | .int z _=>z==i | _=>false
   have hz':its.length<=yB:=by rw[<-rv.length];exact z
   refine Xh PySem.F.slot_list_remove ⟨_,el,rfl⟩ PySem.F.entry_list_remove (PySem.F.args_list_remove_2 _ _)
    (MeetsSeq.list_remove a its.toArray n (.int i t) f (fun y hy=>?_) j (by simp;omega) ?_ (fun m hm hmj=>?_) (by simpa using hz')) ⟨el,?_⟩
   ·obtain⟨m,hm,rfl⟩:=List.mem_iff_getElem.mp (show y∈its by simpa using hy);obtain⟨t',e'⟩:=at_ m hm;rw[e'];exact MeetsSeq.EqGives.int _ _ _ _
   ·obtain⟨t',e'⟩:=at_ j (by omega);show f its[j]=true;rw[e'];simp[f,hit]
   ·have hm':m<its.length:=by simpa using hm
    obtain⟨t',e'⟩:=at_ m hm';show f its[m]=false;rw[e'];simpa[f] using hno m (by omega) hmj
   ·have hmu:Mut (H a):=by rw[e3];trivial
    refine⟨.non,_,I.lset (t':=s.toks) (ys:=(ns.erase i).map V.int) (its':=its.eraseIdx j) e3 el ?_ ?_ ?_,rfl,k ρ _ _ (Ext.wr hmu) (R.wr hmu ea ⟨_,zF,z6e⟩) .non⟩
    ·simp[Array.eraseIdxIfInBounds,show j<its.length by omega]
    ·rw[her,zrn];exact zYk j rv
    ·have:(ns.erase i).length<=ns.length:=by rw[her];exact List.length_eraseIdx_le _ _
     rw[length_map]at z ⊢;omega
  ·cases e
 ·cases e
def zus{o:Expr}{ψ:FA}{apos:xi}(ho:ME X o φ)(ha:MAn X (e::es) ψ)
 (hbase:Yn o "remove" X.env (yY o X.env)=yY o X.env:=by rfl)
 (hfew:((Yh pos (yg (e::es) X.env)).all (fun x=>!x.1)&&(xA pos (YE [] X.env)).all (fun x=>x.1.isSome)
  && decide ((e::es).length+([]:List xr).length+(if([]:List xr).isEmpty then 0 else 1)<30))=true:=by rfl)
 (hline:(apos.endLine==pos.line)=true:=by rfl) (hs:yg (e::es) X.env=(false,yY e X.env)::yg es X.env:=by rfl) (hplain:(Yh pos (yg es X.env)).any (·.1)=false:=by rfl) :
 ME X (.Call (.Attribute o "remove" apos) (e::es) [] pos) (zAf zfi φ ψ):=zpm PySem.F.slot_list_remove PySem.F.type_list_remove zUq ho ha hbase hfew hline hs hplain
@[simp] def zly(i:Nat)(g:G2)(φ:FE):FS:=fun δ μ=>match δ[i]? with
 |some (some x)=>(φ δ μ).bind fun p=>(g x p.1 p.2).bind fun q=>some (.next (δ.set i (some q.1)) q.2)
 |_=>none
def zIu:G2:=fun x y μ=>match x,y with
 |.int i, .int j=>some (.int (i+j),μ)
 |_,_=>none
def zDw:OpM X (inplaceOp .Add) zIu:=by
 refine OpM.of fun pins s σ H x y v u Q I rx ry ρ dx dy μ d μ' r1 r2 R e k=>?_;unfold zIu at e
 split at e
 ·cases e;exact zbw pins s σ H x y v u Q I rx ry ⟨_,_,r1.int_inv,r2.int_inv,k ρ H _ Ext.refl R .int⟩
 ·cases e
def zBx{x:Str}{op:Operator}{g:G2}{pos':xi}(i:Nat)(ho:OpM X (inplaceOp op) g)(he:ME X e φ)(hN:X.N.Nodup:=by assumption)(hi:X.N[i]?=some x:=by rfl)(hx:L2.Loc X.env.scope x:=by first | exact Or.inl rfl | exact Or.inr rfl)
 (hf:X.fn x=true\/X.env.scope.names.lookup x=some .local:=by first | exact .inl rfl | exact .inr rfl | assumption):MS X (.AugAssign (.Name x pos') op e pos) (zly i g φ) :=
 zTj (zhx (ti:=rM X.K g) hN hi hx he (fun pins s σ H x y v u Q I rx ry q=>ho pins s σ H x y v u Q I rx ry q) hf) fun ρ δ μ σ H o E A e k=>by
  unfold zly at e
  split at e
  ·rename_i d hd
   obtain⟨v,hv,rv⟩:=A.st i _ hd;obtain⟨⟨y,μ1⟩,e1,e⟩:=zi e;obtain⟨⟨z,μ2⟩,e2,e⟩:=zi e;cases e;refine⟨v,hv,ρ,δ,μ,y,μ1,A,e1,fun ρ1 H1 w x1 R1 r1=>?_⟩;refine⟨ρ1,d,y,μ1,z,μ2,rv.ext x1,r1,R1,e2,fun ρ2 H2 w2 x2 R2 r2=>?_⟩;exact k ρ2 _ H2 (x1.trans x2) ((A.ext (x1.trans x2) R2).set r2 i)
  ·cases e
def zkc(c:FT)(body:FS):Nat->FS
 |0,_,_=>none
 |n+1,δ,μ=>(c δ μ).bind fun p=>bif p.1 then(match body δ p.2 with
  |some (.next δ' μ')=>zkc c body n δ' μ'
  |some (.cont δ' μ')=>zkc c body n δ' μ'
  |some (.brk δ' μ')=>some (.next δ' μ')
  |some (.ret d μ')=>some (.ret d μ')
  |some (.exc C fs μ')=>some (.exc C fs μ')
  |none=>none) else some (.next δ p.2)
def z5m(n:Nat)(c:FT)(body:FS):FS:=zkc c body n
def z5l{body:List Stmt}{t:FT}{p:FS}(n:Nat)(hc:MT X c t)(hb:MSs X body p)(hx:PassesOwn (yp X.prog X.w) X.A X.env X.xe:=by first | exact PassesOwn.never | exact PassesOwn.leaving):MS X (.While c body [] pos) (z5m n t p) :=
 zTj (zdu hx hc hb) fun ρ δ μ σ H o E A e k=>by
  refine⟨fun m σ' H'=>∃ρ' δ' μ',Ext ρ H ρ' H'/\At X.K ρ' H' σ' δ' μ'/\zkc t p m δ' μ'=some o,⟨n,ρ,δ,μ,Ext.refl,A,e⟩,?_⟩;rintro m σ' H' ⟨ρ',δ',μ',x',A',ew⟩
  cases m with
  |zero=>cases ew
  |succ m=>
   unfold zkc at ew;obtain⟨⟨b,μ1⟩,e1,ew⟩:=zi ew;refine⟨ρ',δ',μ',b,μ1,A',e1,fun ρ1 H1 x1 R1=>?_⟩;have xx:=x'.trans x1
   cases b with
   |false=>
    cases ew;exact iteF (k ρ1 σ' H1 xx (A'.ext x1 R1))
   |true=>
    refine iteT ⟨fun σ3 H3=>∃ρ3 δ3 μ3,Ext ρ H ρ3 H3/\At X.K ρ3 H3 σ3 δ3 μ3/\zkc t p m δ3 μ3=some o,fun σ3 H3 q=>⟨m,Yr _,q⟩,?_⟩;dsimp only[cond_true]at ew
    cases eb:p δ' μ1 with
    |none=>rw[eb]at ew;cases ew
    |some ob=>
     rw[eb]at ew;refine⟨ρ1,δ',μ1,ob,A'.ext x1 R1,eb,?_⟩
     cases ob with
     |next δ6 μ6=>exact fun ρ6 σ6 H6 x6 A6=>⟨ρ6,δ6,μ6,xx.trans x6,A6,ew⟩
     |cont δ6 μ6=>exact fun ρ6 σ6 H6 x6 A6=>⟨ρ6,δ6,μ6,xx.trans x6,A6,ew⟩
     |brk δ6 μ6=>cases ew;exact k.ext xx
     |ret d μ6=>cases ew;exact k.ext xx
     |exc C fs μ6=>cases ew;exact k.ext xx
end
section
variable {X:Cx}{a b c e:Expr}{es:List Expr}{φ ψ χ:FE}{pos:xi}
end
end M
namespace L2
open PySem PySem.Spec PyProof.Rows
section
variable {κ:Type}[DecidableEq κ]
def zlp(kvs:List (κ×V))(k:κ):Option V:=(kvs.find? fun kv=>decide (kv.1=k)).map (·.2)
def zEg(kvs:List (κ×V))(k:κ)(v:V):List (κ×V) :=
 if(kvs.any fun kv=>decide (kv.1=k))=true then kvs.map (fun kv=>if kv.1=k then(kv.1,v) else kv) else kvs++[(k,v)]
def zVp{p:κ×V}{r:List (κ×V)}{k:κ}(e:p.1=k):zlp (p::r) k=some p.2:=by simp[zlp,xR,e]
def zvp{p:κ×V}{r:List (κ×V)}{k:κ}(e:¬p.1=k):zlp (p::r) k=zlp r k:=by simp[zlp,xR,e]
def z9n(kvs:List (κ×V))(k:κ)(v:V):(zEg kvs k v).length<=kvs.length+1:=by
 unfold zEg
 split
 ·rw[length_map];omega
 ·rw[length_append,length_cons,List.length_nil];omega
def RelO.isSome_eq{o:Option V}{u:Option Value}(r:RelO o u):o.isSome=u.isSome:=by
 cases o with
 |none=>cases u with
  |none=>rfl
  |some _=>exact(show False from r).elim
 |some _=>cases u with
  |none=>exact(show False from r).elim
  |some _=>rfl
def KV.val{kvs:List (κ×V)}{vs:List (κ×Value)}(r:KV kvs vs)(k:κ):RelO (zlp kvs k) (valueAt vs k):=by
 unfold KV at r
 induction r with
 |nil=>exact xL
 |@cons p q ps qs h t ih=>
  obtain⟨h1,h2⟩:=h
  by_cases e:p.1=k
  ·have e':q.1=k:=h1.symm.trans e;have b:valueAt (q::qs) k=some q.2:=by simp[valueAt,xR,e']
   rw[zVp e,b];exact h2
  ·have e':¬q.1=k:=fun z=>e (h1.trans z);have b:valueAt (q::qs) k=valueAt qs k:=by simp[valueAt,xR,e']
   rw[zvp e,b];exact ih
def KV.any{kvs:List (κ×V)}{vs:List (κ×Value)}(r:KV kvs vs)(k:κ):(kvs.any fun kv=>decide (kv.1=k))=vs.any fun kv=>decide (kv.1=k):=by
 unfold KV at r
 induction r with
 |nil=>rfl
 |cons h t ih=>rw[any_cons,any_cons,ih,h.1]
def KV.repl{kvs:List (κ×V)}{vs:List (κ×Value)}(r:KV kvs vs)(k:κ){y:V}{u:Value}(ry:RelV y u) :
 KV (kvs.map fun kv=>if kv.1=k then(kv.1,y) else kv) (vs.map fun kv=>if kv.1=k then(kv.1,u) else kv):=by
 unfold KV at r ⊢
 induction r with
 |nil=>exact .nil
 |@cons p q ps qs h t ih=>
  rw[map_cons,map_cons];refine .cons ?_ ih;obtain⟨h1,h2⟩:=h
  by_cases e:p.1=k
  ·rw[if_pos e,if_pos (h1.symm.trans e)];exact⟨h1,ry⟩
  ·rw[if_neg e,if_neg (fun z=>e (h1.trans z))];exact⟨h1,h2⟩
def KV.put{kvs:List (κ×V)}{vs:List (κ×Value)}(r:KV kvs vs)(k:κ){y:V}{u:Value}(ry:RelV y u):KV (zEg kvs k y) (stored vs k u):=by
 unfold zEg stored;rw[r.any k]
 by_cases e:(vs.any fun kv=>decide (kv.1=k))=true
 ·rw[if_pos e,if_pos e];exact r.repl k ry
 ·rw[if_neg e,if_neg e];exact Paired.snoc r ⟨rfl,ry⟩
def KV.keys{kvs:List (κ×V)}{vs:List (κ×Value)}(r:KV kvs vs):kvs.map (·.1)=vs.map (·.1):=by
 unfold KV at r
 induction r with
 |nil=>rfl
 |cons h t ih=>rw[map_cons,map_cons,ih,h.1]
def KV.length{kvs:List (κ×V)}{vs:List (κ×Value)}(r:KV kvs vs):kvs.length=vs.length:=Paired.length r
end
def z1q{P:yv}{w:yE}{k:Key}{u:Value}(r:RelV (kV k) u):(zYb P w).is k u=true:=by
 cases k with
 |inl i=>obtain⟨t,e⟩:=(show ∃t,u=Value.int i t from r);subst e;exact zKo P w i t
 |inr x=>obtain⟨t,e⟩:=(show ∃t,u=Value.str x t from r);subst e;exact zvo P w x t
def zIw{P:yv}{w:yE}{H:Hp}{h:yT}{a:Addr}{kvs:List (Key×V)}(ok:HOk P w H h)(e:H a=some (.dK kvs)):kvs.length<=yB/\(a==sysModules)=false/\∃vs,KV kvs vs/\h.DictOf (zYb P w) a vs :=
 show ObjOk P w H h a (.dK kvs) from ok a _ e
end L2
namespace M
open PySem PySem.Spec PyProof.Rows L2
def zWc(kvs:List (Int×D))(i:Int):Option D:=(kvs.find? fun p=>decide (p.1=i)).map (·.2)
def zfq(kvs:List (Int×D))(i:Int)(d:D):List (Int×D):=if(kvs.any fun p=>decide (p.1=i))=true then kvs.map (fun p=>if p.1=i then(p.1,d) else p) else kvs++[(i,d)]
@[simp] def zxc(μ:Mem):D->Option (List (Int×D))
 |.loc n=>match μ[n]? with
  |some (.dct kvs)=>some kvs
  |some (.dcf kvs)=>some kvs
  |_=>none
 |_=>none
def RdK(H:Hp)(a:Addr)(vs:List (Key×V)):Prop:=H a=some (.dK vs)\/∃o,H a=some (.frz o (.dK vs))
def zDh{P:yv}{w:yE}{H:Hp}{h:yT}{a:Addr}{kvs:List (Key×V)}(ok:HOk P w H h)(e:RdK H a kvs):kvs.length<=yB/\(a==sysModules)=false/\∃vs,KV kvs vs/\h.DictOf (zYb P w) a vs:=by
 rcases e with e | ⟨o,e⟩
 ·exact zIw ok e
 ·exact(show ObjOk P w H h a (.frz o (.dK kvs)) from ok a _ e).2
section
variable {K:yr}{ρ:List Addr}{H:Hp}{μ:Mem}
def zuf{d:D}{v:V}{kvs:List (Int×D)}(R:RepH K ρ H μ)(r:RepV K ρ H d v)(e:zxc μ d=some kvs):∃p vs,v = .ref p/\RdK H p vs/\vs.map (·.1)=kvs.map (fun p=>yD p.1)/\RepVs K ρ H (kvs.map (·.2)) (vs.map (·.2)):=by
 unfold zxc at e
 split at e
 ·split at e
  ·rename_i hm
   cases e;obtain⟨a,e1,e2⟩:=r.loc_inv;obtain⟨vs,e3,q1,q2⟩:=R.at_ _ _ _ e2 hm;exact⟨a,vs,e1, .inl e3,q1,q2⟩
  ·rename_i hm
   cases e;obtain⟨a,e1,e2⟩:=r.loc_inv;obtain⟨o,vs,e3,q1,q2⟩:=R.at_ _ _ _ e2 hm;exact⟨a,vs,e1, .inr ⟨o,e3⟩,q1,q2⟩
  ·cases e
 ·cases e
def zng:∀{kvs:List (Int×D)} {vs:List (Key×V)} (i:Int),vs.map (·.1)=kvs.map (fun p=>yD p.1)->RepVs K ρ H (kvs.map (·.2)) (vs.map (·.2)) ->
 (∀d,zWc kvs i=some d->∃v,zlp vs (yD i)=some v/\RepV K ρ H d v)/\(zWc kvs i=none->zlp vs (yD i)=none)
 |[],vs,i,h1,h2=>by
  have:vs=[]:=by simpa using h1
  subst this;exact⟨fun d h=>(by cases h),fun _=>rfl⟩
 |(j,d)::kvs,vs,i,h1,h2=>by
  cases vs with
  |nil=>simp at h1
  |cons q vs=>
   obtain⟨k,v⟩:=q;rw[map_cons,map_cons,YV]at h1;obtain⟨hk,h1⟩:=h1;have hk:k=yD j:=hk;subst hk;obtain⟨v',r,e,q1,q2⟩:=h2.cons_inv;rw[map_cons,YV]at e;obtain⟨e1,e2⟩:=e;subst e2;have e1:v=v':=e1;subst e1;obtain⟨ih1,ih2⟩:=zng i h1 q2
   by_cases hj:j=i
   ·subst hj;have a1:zWc ((j,d)::kvs) j=some d:=by simp[zWc]
    have a2:zlp ((yD j,v)::vs) (yD j)=some v:=zVp rfl;rw[a1,a2];exact⟨fun d' h=>(by cases h;exact⟨v,rfl,q1⟩),fun h=>(by cases h)⟩
   ·have a1:zWc ((j,d)::kvs) i=zWc kvs i:=by simp[zWc,hj]
    have a2:zlp ((yD j,v)::vs) (yD i)=zlp vs (yD i):=zvp (fun z=>hj (by simpa using z));rw[a1,a2];exact⟨ih1,ih2⟩
def z6l(kvs:List (Int×D))(vs:List (Key×V))(i:Int)(d:D)(v:V)(h:vs.map (·.1)=kvs.map (fun p=>yD p.1)):(zEg vs (yD i) v).map (·.1)=(zfq kvs i d).map (fun p=>yD p.1):=by
 have hany:(vs.any fun kv=>decide (kv.1=yD i))=kvs.any fun p=>decide (p.1=i):=by
  have e1:(vs.any fun kv=>decide (kv.1=yD i))=(vs.map (·.1)).any fun k=>decide (k=yD i):=by rw[any_map];rfl
  rw[e1,h,any_map]
  congr 1
  funext p
  simp
 unfold zEg zfq;rw[hany]
 split
 ·rw[map_map,map_map]
  have e1:(fun x:Key×V=>x.1)∘(fun kv=>if kv.1=yD i then(kv.1,v) else kv)=fun x=>x.1:=by
   funext x;simp only[Function.comp];split<;>rfl
  have e2:(fun p:Int×D=>(yD p.1:Key))∘(fun p=>if p.1=i then(p.1,d) else p)=fun p=>yD p.1:=by
   funext x;simp only[Function.comp];split<;>rfl
  rw[e1,e2];exact h
 ·simp[h]
def ztp:∀(kvs:List (Int×D)) (vs:List (Key×V)) (i:Int) {d:D} {v:V},RepV K ρ H d v->vs.map (·.1)=kvs.map (fun p=>yD p.1)->RepVs K ρ H (kvs.map (·.2)) (vs.map (·.2)) ->
 RepVs K ρ H ((kvs.map fun p=>if p.1=i then(p.1,d) else p).map (·.2)) ((vs.map fun kv=>if kv.1=yD i then(kv.1,v) else kv).map (·.2))
 |[],vs,i,d,v,r,h1,h2=>by
  have:vs=[]:=by simpa using h1
  subst this;exact .nil
 |(j,e)::kvs,vs,i,d,v,r,h1,h2=>by
  cases vs with
  |nil=>simp at h1
  |cons q vs=>
   obtain⟨k,u⟩:=q;rw[map_cons,map_cons,YV]at h1;obtain⟨hk,h1⟩:=h1;have hk:k=yD j:=hk;subst hk;obtain⟨v',r',e',q1,q2⟩:=h2.cons_inv;rw[map_cons,YV]at e';obtain⟨e1,e2⟩:=e';subst e2;have e1:u=v':=e1;subst e1;have ih:=ztp kvs vs i r h1 q2;simp only[map_cons]
   by_cases hj:j=i
   ·subst hj;rw[if_pos rfl,if_pos rfl];exact .cons r ih
   ·rw[if_neg hj,if_neg (fun z=>hj (by simpa using z))];exact .cons q1 ih
def zQw{kvs:List (Int×D)}{vs:List (Key×V)}{i:Int}{d:D}{v:V}(r:RepV K ρ H d v)(h1:vs.map (·.1)=kvs.map (fun p=>yD p.1))(h2:RepVs K ρ H (kvs.map (·.2)) (vs.map (·.2))) :
 RepVs K ρ H ((zfq kvs i d).map (·.2)) ((zEg vs (yD i) v).map (·.2)):=by
 have hany:(vs.any fun kv=>decide (kv.1=yD i))=kvs.any fun p=>decide (p.1=i):=by
  have e1:(vs.any fun kv=>decide (kv.1=yD i))=(vs.map (·.1)).any fun k=>decide (k=yD i):=by rw[any_map];rfl
  rw[e1,h1,any_map]
  congr 1
  funext p
  simp
 unfold zEg zfq;rw[hany]
 split
 ·exact ztp kvs vs i r h1 h2
 ·simp only[map_append,map_cons,map_nil];exact h2.append (.cons r .nil)
end
section
variable {X:Cx}{a b c e:Expr}{es:List Expr}{φ ψ χ:FE}{pos:xi}
@[simp] def zQt:G2:=fun x y μ=>match y with
 |.int i=>(zxc μ x).bind fun kvs=>(zWc kvs i).bind fun d=>some (d,μ)
 |_=>none
def zZv{pins:List (Addr×YL)}{s:yc}{σ:L2.St}{H:Hp}{p:Addr}{vs:List (Key×V)}{k:Key}{v:V}{u:Value}{A:yH}{E:Value->yc->Prop}{Q:Value->yc->Prop}(I:Inv X pins σ H s)(e:RdK H p vs)(l:zlp vs k=some v)(ry:RelV (kV k) u)
 (h:∀w' s',Inv X pins σ H s'->RelV v w'->Q w' s'):yk (yp X.prog X.w) A (getItem (.ref p) u) Q E s:=by
 obtain⟨z,hd,us,rel,dd⟩:=zDh I.hok e;obtain⟨w',hw,rw'⟩:=RelO.some_of (v:=v) (o:=valueAt us k) (by rw[<-l];exact rel.val k);exact wpAny_getItem_of (z1q ry) dd.mapOf hw (h w' _ (I.tok _) rw')
def ixD:IxR X (rM X.K zQt):=by
 intro value slice pins s σ H x y v u Q I rx ry ⟨ρ,dx,dy,μ,d,μ',r1,r2,R,e,k⟩ hs;unfold zQt at e
 split at e
 ·rename_i i
  obtain⟨kvs,e1,e⟩:=zi e;obtain⟨d',e2,e⟩:=zi e;cases e;obtain⟨p,vs,rfl,hq,q1,q2⟩:=zuf R r1 e1;obtain⟨w',e3,rw'⟩:=(zng i q1 q2).1 _ e2;cases rx;rw[r2.int_inv]at ry
  have hT:s.TypeIs (.ref p) "dict":=by
   obtain⟨_,_,us,_,dd⟩:=zDh I.hok hq;exact dd.typeIs
  unfold subscriptTail;refine ya ?_;rw[getitemInPython_of_ne hT.not_modules];refine ya (xc hT PySem.F.slot_dict_getitem.lookup ?_)
  have fin:yk (yp X.prog X.w) X.A (subscripted slice false (.ref p) u) (fun r s₃=>yk (yp X.prog X.w) X.A (letTemporaryGo value (.ref p) r >>= fun _=>pure r) (EP X pins σ Q) X.xe s₃) X.xe s:=by
   rw[hs];exact wpAny_operating (zZv I hq e3 ry fun w2 s2 I2 r2=>ya (wpAny_letTemporaryGo (ye ⟨_,H,I2,r2,k ρ H _ Ext.refl R rw'⟩)))
  first
   |exact ye (ya fin)
   |exact ya (ye (ya fin))
   |exact ya fin
 ·cases e
def zxp(ha:ME X a φ)(hb:ME X b ψ)(hs:zNo b:=by intro _ _;rfl):ME X (.Subscript a b pos) (zH zQt φ ψ) :=
 zhd (zFx ixD ha hb hs) fun _ _ _ _ _ _ _ _ A e k=>zer A e k
@[simp] def z0z:G2:=fun x y μ=>match x with
 |.int i=>(zxc μ y).bind fun kvs=>some (.bl (zWc kvs i).isSome,μ)
 |_=>none
@[simp] def zjj:G2:=fun x y μ=>match x with
 |.int i=>(zxc μ y).bind fun kvs=>some (.bl (!(zWc kvs i).isSome),μ)
 |_=>none
def zGy{pins:List (Addr×YL)}{s:yc}{σ:L2.St}{H:Hp}{p:Addr}{vs:List (Key×V)}{k:Key}{u:Value}{A:yH}{E:Value->yc->Prop}{Q:Value->yc->Prop}(I:Inv X pins σ H s)(e:RdK H p vs)(ry:RelV (kV k) u)
 (h:∀s',Inv X pins σ H s'->Q (.bool (zlp vs k).isSome) s'):yk (yp X.prog X.w) A (Yy .In u (.ref p)) Q E s:=by
 obtain⟨z,hd,us,rel,dd⟩:=zDh I.hok e;refine wpAny_in_of (z1q ry) hd dd.mapOf ?_;rw[<-(rel.val k).isSome_eq];exact h _ (I.tok _)
def zap{K:yr}{ρ:List Addr}{H:Hp}{kvs:List (Int×D)}{vs:List (Key×V)}(i:Int)(q1:vs.map (·.1)=kvs.map (fun p=>yD p.1))(q2:RepVs K ρ H (kvs.map (·.2)) (vs.map (·.2))):(zlp vs (yD i)).isSome=(zWc kvs i).isSome:=by
 obtain⟨h1,h2⟩:=zng i q1 q2
 cases e:zWc kvs i with
 |none=>rw[h2 e];rfl
 |some d=>
  obtain⟨v,ev,_⟩:=h1 d e;rw[ev];rfl
def zlw:OpM X (Yy .In) z0z:=by
 refine OpM.of fun pins s σ H x y v u Q I rx ry ρ dx dy μ d μ' r1 r2 R e k=>?_;unfold z0z at e
 split at e
 ·rename_i i
  obtain⟨kvs,e1,e⟩:=zi e;cases e;obtain⟨p,vs,rfl,hq,q1,q2⟩:=zuf R r2 e1;cases ry;rw[r1.int_inv]at rx;refine zGy (k:=yD i) I hq rx fun s' I'=>⟨.bl _,H,I',rfl,?_⟩
  rw[zap i q1 q2];exact k ρ H _ Ext.refl R .bl
 ·cases e
def z5p:OpM X (Yy .NotIn) zjj:=by
 refine OpM.of fun pins s σ H x y v u Q I rx ry ρ dx dy μ d μ' r1 r2 R e k=>?_;unfold zjj at e
 split at e
 ·rename_i i
  obtain⟨kvs,e1,e⟩:=zi e;cases e;obtain⟨p,vs,rfl,hq,q1,q2⟩:=zuf R r2 e1;cases ry;rw[r1.int_inv]at rx;obtain⟨z,hd,us,rel,dd⟩:=zDh I.hok hq;refine wpAny_notIn_of (z1q (k:=yD i) rx) hd dd.mapOf ⟨.bl _,H,I.tok _,rfl,?_⟩;rw[<-(rel.val (yD i)).isSome_eq,zap i q1 q2];exact k ρ H _ Ext.refl R .bl
 ·cases e
end
section
variable {X:Cx}{a b c e:Expr}{es:List Expr}{φ ψ χ:FE}{pos:xi}
@[simp] def z3w(φ ψ:FE):FG:=fun d δ μ=>(φ δ μ).bind fun p=>(ψ δ p.2).bind fun q=>match p.1,q.1 with
 |.loc n, .int i=>match q.2[n]? with
  |some (.dct kvs)=>bif decide (kvs.length<=1000000) then some (δ,q.2.set n (.dct (zfq kvs i d))) else none
  |_=>none
 |_,_=>none
def zHu:zgz X (fun o i v H Q=>∃p vs k,o = .ref p/\i=kV k/\H p=some (.dK vs)/\vs.length<yB/\Q (upd H p (.dK (zEg vs k v)))):=by
 intro pins s σ H o i v ov iv u Q I ro ri rv ⟨p,vs,k,e1,e2,e3,hl,q⟩;subst e1 e2;cases ro;obtain⟨z,hd,us,rel,dd⟩:=zIw I.hok e3;have hz:us.length<=yB:=by rw[<-rel.length];exact z
 have hl':(zEg vs k v).length<=yB:=by have:=z9n vs k v;omega
 refine wpAny_setItem_pairs (hsz:=hz) (z1q ri) dd fun h' dd' hs=>⟨_,I.write (x:=p) (e:=p) (by rw[e3];exact xL) (.inl rfl) (fun b q hb z=>(hs.2 b hb).trans z) ?_ (show ObjOk X.prog X.w _ h' p (.dK (zEg vs k v)) from⟨hl',hd,_,rel.put k rv,dd'⟩),q⟩
 obtain⟨q,_,_,hq,_⟩:=dd';exact⟨q,hq⟩
def z2p{o i:Expr}(ho:ME X o φ)(hi:ME X i ψ)(ha:∀v,assign (.Subscript o i pos) X.env v=(do
 let ov <-xy [v] (yY o X.env)
 let iv <-xy [v,ov] (yY i X.env)
 standAt pos
 xy [v,ov,iv] (setItem ov iv v)
 release [v,ov,iv] []):=by intro _;rfl):MG X (.Subscript o i pos) (z3w φ ψ) :=
 mg_of (zav ho hi zHu ha) fun ρ δ μ d δ' μ' v σ H Q A q e k=>by
  obtain⟨⟨x,μ1⟩,e1,e⟩:=zi e;obtain⟨⟨y,μ2⟩,e2,e⟩:=zi e;refine⟨ρ,δ,μ,x,μ1,A,e1,fun ρ1 H1 v1 x1 R1 r1=>?_⟩;refine⟨ρ1,δ,μ1,y,μ2,A.ext x1 R1,e2,fun ρ2 H2 v2 x2 R2 r2=>?_⟩;dsimp only at e
  split at e
  ·rename_i n j _
   split at e
   ·rename_i kvs hm
    obtain⟨h1,e⟩:=zX e;have h1:=of_decide_eq_true h1;cases e;obtain⟨ad,rfl,hr⟩:=(r1.ext x2).loc_inv;obtain⟨vs,hv,q1,q2⟩:=R2.at_ _ _ _ hr hm;have hmu:Mut (H2 ad):=by rw[hv];trivial
    have hlen:vs.length=kvs.length:=by
     have:=congrArg List.length q1;simpa using this
    have hmi:=million;refine⟨ad,vs,yD j,rfl,r2.int_inv,hv,by omega,?_⟩;have xx:=x1.trans x2;have R3:=R2.wr (o := .dK (zEg vs (yD j) v)) (lo := .dct (zfq kvs j d)) hmu hr ⟨_,zF,z6l kvs vs j d v q1,RepVs.ext (Ext.wr hmu) (zQw (q.ext xx) q1 q2)⟩;exact k ρ2 σ _ (xx.trans (Ext.wr hmu)) (A.ext (xx.trans (Ext.wr hmu)) R3)
   ·cases e
  ·cases e
def zij(kvs:List (Int×D)):List D:=kvs.map fun p => .int p.1
@[simp] def z6m:GL:=fun ds μ=>match ds with
 |[x]=>(zxc μ x).bind fun kvs=>some (.loc μ.length,μ++[.lst (zij kvs)])
 |_=>none
def zpr{P:yv}{w:yE}{H:Hp}{h:yT}{p:Addr}{vs:List (Key×V)}(ok:HOk P w H h)(e:RdK H p vs):∃us ep,KV vs us/\h.DictAt (zYb P w) p us ep:=by
 obtain⟨_,_,us,rel,o,es,ep,h1,h2,h3,h4⟩:=zDh ok e;exact⟨us,ep,rel,o,es,h1,h2,h3,h4⟩
def zzj{P:yv}{w:yE}:∀{vs:List (Key×V)} {us:List (Key×Value)} {its:List Value},KV vs us->its.length=us.length->(∀(j:Nat)(v:Value),its[j]?=some v->∃(k:Key)(x:Value),us[j]?=some (k,x)/\(zYb P w).is k v=true)->Vals (vs.map fun p=>kV p.1) its
 |[],us,its,r,hl,h=>by
  cases r;have:its=[]:=List.length_eq_zero_iff.mp (by simpa using hl);subst this;exact .nil
 |p::vs,us,its,r,hl,h=>by
  cases r with
  |@cons _ q _ qs hq t=>
   cases its with
   |nil=>simp at hl
   |cons i its=>
    refine .cons ?_ (zzj t (by simpa using hl) fun j v e=>by
     obtain⟨k,x,h1,h2⟩:=h (j+1) v (by simpa using e);exact⟨k,x,by simpa using h1,h2⟩)
    obtain⟨k,x,h1,h2⟩:=h 0 i rfl;have e:q=(k,x):=by simpa using h1
    have ek:p.1=k:=by rw[hq.1,e]
    show RelV (kV p.1) i;rw[ek]
    cases k with
    |inl n=>
     rcases zlb ((z7h P w _ _).symm.trans h2) with ⟨j,t,e1,e2⟩ | ⟨j,t,e1,e2⟩
     ·cases e1;exact⟨t,e2⟩
     ·cases e1
    |inr n=>
     rcases zlb ((z7h P w _ _).symm.trans h2) with ⟨j,t,e1,e2⟩ | ⟨j,t,e1,e2⟩
     ·cases e1
     ·cases e1;exact⟨t,e2⟩
def zIo(hc:X.calm=true):CallM X (.type "list") z6m:=by
 refine CallM.of fun pins s σ H xs us Q I r ρ ds μ d μ' r1 R e k=>?_;unfold z6m at e
 split at e
 ·obtain⟨kvs,e1,e⟩:=zi e;cases e;obtain⟨v,rr,rfl,q1,q2⟩:=r1.cons_inv;rw[q2.nil_inv]at r;obtain⟨p,vs,rfl,hq,w1,w2⟩:=zuf R q1 e1;obtain⟨u,rfl,ru⟩:=vals1 r;cases ru;obtain⟨hz,hd,_⟩:=zDh I.hok hq;obtain⟨us',ep,rel,da⟩:=zpr I.hok hq;have hl:=rel.length;refine W.kdl_call (W.kdl_dict hd) (I.ok.hd hc) da (by omega) fun h' tk acc' c' kp e2 hi=>?_;obtain⟨hi1,hi2⟩:=hi;have hv:=zzj (P:=X.prog) (w:=X.w) (its:=acc'.toList) rel (by simpa using hi1) fun j v e=>hi2 j v (by simpa using e)
  have hkv:(vs.map fun p=>kV p.1)=(kvs.map fun p=>V.int p.1):=by
   have:(vs.map (·.1)).map kV=(kvs.map fun p=>(yD p.1:Key)).map kV:=by rw[w1]
   rw[map_map,map_map]at this;exact this
  rw[hkv]at hv
  have hlk:kvs.length=vs.length:=by
   have:=congrArg List.length w1;simpa using this.symm
  have hf:=I.fresh;refine⟨.ref s.heap.objs.size,_,I.laid (t':=tk) kp (yh _) (show ObjOk X.prog X.w _ h' _ (.lst _) from⟨by simp;omega,acc'.toList,c',hv,by simpa using e2⟩),rfl,k _ _ _ (Ext.push hf) (R.push hf ⟨_,zF,?_⟩) (.loc (zDb R))⟩;have hr:=fun ρ H=>@z6e X.K ρ H (kvs.map (·.1));simp only[map_map]at hr;exact hr _ _
 ·cases e
end
def Itd(a:Addr)(o:YL)(vs:List (Key×V)):It:=⟨fun i H=>H a=some (.frz o (.dK vs))/\i<vs.length,fun i H x H'=>H'=H/\∃p,vs[i]?=some p/\x=kV p.1,fun i H=>H a=some (.frz o (.dK vs))/\vs.length<=i⟩
def zWp{P:yv}{w:yE}{H:Hp}{h:yT}{a:Addr}{o:YL}{vs:List (Key×V)}{es:Array DictEntry}{ep:Nat}(ok:HOk P w H h)(e:H a=some (.frz o (.dK vs)))(hd:o.data = .dict es ep):∃us,KV vs us/\h.DictAt (zYb P w) a us ep:=by
 obtain⟨h0,_,_,us,rel,o',es',ep',h1,h2,h3,h4⟩:=(show ObjOk P w H h a (.frz o (.dK vs)) from ok a _ e)
 rw[h0]at h1;cases h1;rw[hd]at h3;cases h3;exact⟨us,rel,o,es,h0,h2,hd,h4⟩
def zZs{P:yv}{w:yE}{K:yr}{tg:Expr}(a it:Addr)(o:YL)(vs:List (Key×V))(es:Array DictEntry)(ep:Nat)(hd:o.data = .dict es ep):Turn P w K tg (Itd a o vs) [it] it (fun i h=>h.IsKeyIter it a i vs.length ep) where
 mem:=by simp
 obj:=fun i h st b hb=>by
  have e:b=it:=by simpa using hb
  subst e;obtain⟨o,e,c,d⟩:=st;exact⟨o,e,fun v z=>by rw[d]at z;cases z⟩
 keep:=fun i h h' st k=>st.at fun o e=>k it (by simp) o e
 item:=by
  intro X hP hw hK hc i pins s σ H E I hf st hg;subst hP hw hK;obtain⟨hq,hi⟩:=hg;obtain⟨us,rel,da⟩:=zWp I.hok hq hd;have hl:=rel.length;obtain⟨f0,f1,f2,f3,f4,f5⟩:=hf it (by simp);have hx:us[i]?=some ((us[i]'(by omega)).1,(us[i]'(by omega)).2):=by simp[show i<us.length by omega]
  rw[hl]at st ⊢;refine wpAny_pyNext_dict_item st da hx fun key h' hkey st' sb=>?_;have I1:Inv X pins σ H {s with heap:=h' }:=I.turned (t':=s.toks) (fun b o hb e=>(sb.2 b hb).trans e) f0 f1 f3 f4 f5;obtain⟨o',e',c',d'⟩:=id st';have hk:vs[i]?=some vs[i]:=by simp[hi]
  have hkk:(vs[i]).1=(us[i]'(by omega)).1:=by
   have h1:(vs.map (·.1))[i]?=(us.map (·.1))[i]?:=by rw[rel.keys]
   simp only[yn,hk,yM (show i<us.length by omega),Option.map_some,xC]at h1;exact h1
  have rk:RelV (kV (vs[i]).1) key:=by
   rw[hkk];rcases zlb ((z7h X.prog X.w _ _).symm.trans hkey) with ⟨j,t,e1,e2⟩ | ⟨j,t,e1,e2⟩
   ·rw[e1];exact⟨t,e2⟩
   ·rw[e1];exact⟨t,e2⟩
  exact⟨key,rfl,zsu (s:={s with heap:=h' }) e' c' d' (by decide) ⟨kV (vs[i]).1,H,I1,rk,⟨rfl,_,hk,rfl⟩,st',fun b hb=>(hf b hb).1⟩⟩
 done:=by
  intro X hP hw hK hc i pins s σ H E I hf st hg;subst hP hw hK;obtain⟨hq,hi⟩:=hg;obtain⟨us,rel,da⟩:=zWp I.hok hq hd;have hl:=rel.length;obtain⟨f0,f1,f2,f3,f4,f5⟩:=hf it (by simp);rw[hl]at st;exact wpAny_pyNext_dict_end (I.ok.hd hc) st da (by simp;omega) fun h' eb=>⟨rfl,I.turned (t':=s.toks) (fun b o hb e=>eb b o hb e) f0 f1 f3 f4 f5⟩
 self:=fun _ _ _ _ _ st h=>wpAny_pyIter_keyiter st h
section
variable {X:Cx}{a b c e:Expr}{es:List Expr}{φ ψ χ:FE}{pos:xi}{tg:Expr}
def zyA(tl:TE):TI:=fun σ H R=>tl σ H fun x H1=>∃p vs,x = .ref p/\((H1 p=some (.dK vs)/\∀o,R (Itd p o vs) (upd H1 p (.frz o (.dK vs))))\/∃o,H1 p=some (.frz o (.dK vs))/\R (Itd p o vs) H1)
def zow{l:Expr}{tl:TE}(hl:PE X l tl):PI X tg l (zyA tl):=by
 intro pins s σ H R I h;refine thn (hl pins s σ H _ I h) fun v s1 ⟨x,H1,I1,r1,q1⟩=>?_;obtain⟨p,vs,e,q⟩:=q1;subst e;cases r1
 have fin:∀(H2:Hp)(o:YL),Inv X pins σ H2 s1->H2 p=some (.frz o (.dK vs))->R (Itd p o vs) H2->yk (yp X.prog X.w) X.A (pyIter (.ref p)) (PIE X pins σ tg R) X.xe s1:=fun H2 o I2 e2 q2=>by
  obtain⟨h0,hz,hd,us,rel,o',es,ep,h1,h2,h3,h4⟩:=(show ObjOk X.prog X.w H2 s1.heap p (.frz o (.dK vs)) from I2.hok p _ e2)
  rw[h0]at h1;cases h1;have da:s1.heap.DictAt (zYb X.prog X.w) p us ep:=⟨o,es,h0,h2,h3,h4⟩
  refine wpAny_pyIter_dict hd da ?_;refine⟨s1.heap.objs.size,[s1.heap.objs.size],_,_,H2,rfl,I2.kept (t':=s1.toks) fun b o e=>yd _ e,zZs p _ o vs es ep h3,⟨_,yo _ rfl,rfl,by rw[rel.length];rfl⟩,fun b hb=>?_,q2⟩;have e:b=s1.heap.objs.size:=by simpa using hb
  subst e;exact I2.fpOk (yh _) (I2.hok.fresh (yh _))
 rcases q with ⟨e1,q⟩ | ⟨o,e1,q⟩
 ·have hok:=I1.hok p _ e1;obtain⟨hz,hd,us,rel,o,es,ep,h1,h2⟩:=(show ObjOk X.prog X.w H1 s1.heap p (.dK vs) from hok)
  have I2:Inv X pins σ (upd H1 p (.frz o (.dK vs))) {s1 with heap:=s1.heap,toks:=s1.toks }:=by
   refine I1.write (x:=p) (e:=p) (by rw[e1];exact xL) (.inl rfl) (fun b u _ e=>e) ⟨o,h1⟩ ?_;exact⟨h1,hz,hd,us,rel,o,es,ep,h1,h2⟩
  exact fin _ o I2 zF (q o)
 ·exact fin H1 o I1 e1 q
@[simp] def zUv(φ:FE):FI:=fun δ μ=>(φ δ μ).bind fun p=>match p.1 with
 |.loc n=>match p.2[n]? with
  |some (.dct kvs)=>some (zij kvs,yes,p.2.set n (.dcf kvs))
  |some (.dcf kvs)=>some (zij kvs,yes,p.2)
  |_=>none
 |_=>none
def zjv{K:yr}{ρ:List Addr}{H:Hp}{p:Addr}{o:YL}{vs:List (Key×V)}{kvs:List (Int×D)}(h:H p=some (.frz o (.dK vs)))(q1:vs.map (·.1)=kvs.map (fun p=>yD p.1)):ItIs K (Itd p o vs) ρ H (zij kvs) yes:=by
 have hlen:vs.length=kvs.length:=by
  have:=congrArg List.length q1;simpa using this
 have hkl:(zij kvs).length=kvs.length:=by simp[zij]
 refine⟨fun ρ' H' μ' i x R _ hi=>⟨x.frz _ _ _ h,by rw[hkl]at hi;omega⟩,fun ρ' H' μ' i x H'' d x' R _ e ⟨y1,q,y2,y3⟩=>⟨y1▸Ext.refl,y1▸R,y1▸?_⟩,fun ρ' H' μ' x R _=>⟨x.frz _ _ _ h,by rw[hkl];omega⟩⟩;have h1:(vs.map (·.1))[i]?=(kvs.map (fun p=>(yD p.1:Key)))[i]?:=by rw[q1]
 rw[yn,yn,y2]at h1;unfold zij at e;rw[yn]at e
 cases hk:kvs[i]? with
 |none=>rw[hk]at e;cases e
 |some z=>
  rw[hk]at e h1;cases e;have h1:q.1=yD z.1:=by simpa using h1
  rw[y3,h1];exact .int
def zMv(h:ME X a φ):MI X tg a (zUv φ) :=
 zUr (zow h) fun ρ δ μ σ H ds ok μ' R A e k=>by
  obtain⟨⟨x,μ1⟩,e1,e⟩:=zi e;refine⟨ρ,δ,μ,x,μ1,A,e1,fun ρ1 H1 v1 x1 R1 r1=>?_⟩;dsimp only at e
  split at e
  ·split at e
   ·rename_i hm
    cases e;obtain⟨p,rfl,ep⟩:=r1.loc_inv;obtain⟨vs,e3,q1,q2⟩:=R1.at_ _ _ _ ep hm;have hmu:Mut (H1 p):=by rw[e3];trivial
    refine⟨p,vs,rfl, .inl ⟨e3,fun o=>?_⟩⟩;exact k ρ1 _ _ (x1.trans (Ext.wr hmu)) (R1.wr hmu ep ⟨o,vs,zF,q1,RepVs.ext (Ext.wr hmu) q2⟩) (zjv zF q1)
   ·rename_i hm
    cases e;obtain⟨p,rfl,ep⟩:=r1.loc_inv;obtain⟨o,vs,e3,q1,q2⟩:=R1.at_ _ _ _ ep hm;exact⟨p,vs,rfl, .inr ⟨o,e3,k ρ1 _ _ x1 R1 (zjv e3 q1)⟩⟩
   ·cases e
  ·cases e
def zyr{prog:yv}{w:yE}{A:yH}{E:Value->yc->Prop}{s:yc}{Q:Int->yc->Prop}(h:Q 0xFCA86420 {s with toks:=s.toks+1 }):yk (yp prog w) A (pyHash .none) Q E s:=by
 unfold pyHash;have hv:[Yi].any Value.onHeap=false:=rfl;refine ya ?_;rw[cRoomFor,if_neg (by rw[hv];exact yx)];refine ye ?_;refine ya (xc (typeIs_none s) PySem.F.slot_NoneType_hash.lookup ?_);show yk _ _ (if(some (xV "NoneType.__hash__")==some Yi)=true then _ else _) Q E s;rw[if_neg (by rw[beq_builtin_none];exact yx)];refine ya (xc (typeIs_none s) PySem.F.slot_NoneType_hash.lookup ?_);show yk _ _ (callSpecialIfBoundUnlessNone? .none "__hash__" _ >>= _) Q E s;refine ya (wpAny_callSpecialIfBoundUnlessNone?_slot (typeIs_none s) PySem.F.slot_NoneType_hash (yX PySem.F.slot_NoneType_hash (typeIs_none s) PySem.F.entry_NoneType_hash ?_ (PySem.F.args_NoneType_hash_1 _)));show yk _ _ (do ret (<-mkInt 0xFCA86420)) _ _ s;refine wpAny_ret_mkInt ?_;show yk _ _ (if(decide (-(2:Int)^63<=0xFCA86420)&&decide ((0xFCA86420:Int)<2^63))=true then _ else _) Q E _;rw[if_pos (by decide)];exact ye h
def zFq{i:Int}(h0:0<=i)(h1:i<1000):hashInt i=i:=by
 have e:(i.natAbs%(2^61-1):Nat)=i.natAbs:=Nat.mod_eq_of_lt (by omega)
 have hr:rawHash i=i:=by
  unfold rawHash;dsimp only;rw[if_neg (by omega:¬i<0)];have:((i.natAbs%(2^61-1:Nat):Nat):Int)=i:=by rw[e];omega
  rw[show((i.natAbs:Int)%((2^61-1:Nat):Int))=i by rw[<-Int.natCast_emod];exact this];rw[if_neg (by simp;omega)]
 unfold hashInt;rw[hr,if_neg (by simp;omega)]
def zon:Key->Bool
 |.inl i=>decide (0<=i/\i<1000)
 |.inr _=>false
def zUj{P:yv}{w:yE}:∀{es:List DictEntry} {us:List (Key×Value)},Pairs (zYb P w) es us->(∀e∈es,∃k,(zYb P w).is k e.key=true/\e.hash=(zYb P w).hash k)->(us.all fun q=>zon q.1)=true->∀e∈es,(e.hash==0xFCA86420)=false
 |_,_, .nil,_,_=>fun e he=>by cases he
 |_,_, .cons (kv:=kv) hk hv t,hh,hs=>fun e he=>by
  rw[all_cons,yG]at hs;rcases List.mem_cons.mp he with rfl | he
  ·obtain⟨k',h1,h2⟩:=hh e mem_cons_self;have ek:=(zYb P w).inj _ _ _ hk h1;rw[h2,<-ek];have hsm:zon kv.1=true:=hs.1
   cases hkv:kv.1 with
   |inl i=>
    rw[hkv]at hsm;have hi:=of_decide_eq_true (show decide (0<=i/\i<1000)=true from hsm);show(hashInt i==0xFCA86420)=false;rw[zFq hi.1 hi.2];simp;omega
   |inr x=>rw[hkv]at hsm;cases hsm
  ·exact zUj t (fun e he=>hh e (mem_cons_of_mem _ he)) hs.2 e he
def zRw{prog:yv}{w:yE}{A:yH}{E:Value->yc->Prop}{s:yc}{p:Addr}{us:List (Key×Value)}{Q:Value->yc->Prop}(hd:(p==sysModules)=false)(dd:s.heap.DictOf (zYb prog w) p us)(hs:(us.all fun q=>zon q.1)=true)
 (h:Q (.bool false) {s with toks:=s.toks+1 }):yk (yp prog w) A (Yy .In .none (.ref p)) Q E s:=by
 obtain⟨o,es,ep,ho,hx,hdat,hk,hp,hn⟩:=id dd;have hno:=zUj hp (fun e he=>hk e (by simpa using he)) hs
 have hpl:placesWithHash es.size (fun i=>es[i]?.map (·.hash)) 0xFCA86420=[]:=by
  unfold placesWithHash;rw[List.filter_eq_nil_iff];intro i hi;have hi:i<es.size:=by simpa using hi
  dsimp only;rw[Array.getElem?_eq_getElem hi];have:=hno es[i] (by simp);simpa using this
 show yk _ _ (do return .bool (<-contains (.ref p) .none)) Q E s;refine ya ?_;unfold contains
 try with_reducible refine yQ ?_
 refine ya (xc dd.typeIs slot_dict_contains.lookup ?_);show yk _ _ (if(some (xV "dict.__contains__")==some Yi)=true then _ else _) _ E s;rw[if_neg (by rw[beq_builtin_none];exact yx)];refine ya (wpAny_callSpecialUnlessNone?_slot (name:=YQ "__contains__") dd.typeIs slot_dict_contains (yX slot_dict_contains dd.typeIs entry_dict_contains ?_ (args_dict_contains _ _)));show yk _ _ (dictGet p .none >>= _) _ _ s;refine ya ?_;unfold dictGet
 try with_reducible refine yQ ?_
 refine ya (zyr (ya ?_));unfold dictFind
 try with_reducible refine yQ ?_
 refine ya (wpAny_dictEntries (s:={s with toks:=s.toks+1 }) ho hdat ?_);dsimp only;rw[hpl];rw[if_pos (by rfl)];unfold dictWalkPlain;refine ya ?_;rw[List.forIn_nil];refine ye ?_;refine ye (ye ?_);show yk _ _ (Builtin.Dict.pendingKey? p .none >>= _) _ _ _;exact ya (wpAny_pendingKey_other hd (ye ⟨_,rfl,xz (ye h)⟩))
@[simp] def zqn:G2:=fun x y μ=>match x with
 |.int i=>(zxc μ y).bind fun kvs=>some (.bl (zWc kvs i).isSome,μ)
 |.non=>(zxc μ y).bind fun kvs=>bif kvs.all (fun p=>decide (0<=p.1/\p.1<1000)) then some (.bl false,μ) else none
 |_=>none
def z0p:OpM X (Yy .In) zqn:=by
 refine OpM.of fun pins s σ H x y v u Q I rx ry ρ dx dy μ d μ' r1 r2 R e k=>?_;unfold zqn at e
 split at e
 ·rename_i i
  exact zlw pins s σ H x y v u Q I rx ry ⟨ρ, .int i,dy,μ,d,μ',r1,r2,R,e,k⟩
 ·obtain⟨kvs,e1,e⟩:=zi e;obtain⟨hsm,e⟩:=zX e;cases e;obtain⟨p,vs,rfl,hq,q1,q2⟩:=zuf R r2 e1;cases ry;rw[r1.non_inv]at rx;cases rx;obtain⟨z,hd,us,rel,dd⟩:=zDh I.hok hq;refine zRw hd dd ?_ ⟨.bl false,H,I.tok _,rfl,k ρ H _ Ext.refl R .bl⟩;have e1:(us.all fun q=>zon q.1)=(us.map (·.1)).all zon:=by rw[List.all_map];rfl
  rw[e1,<-rel.keys,q1,List.all_map];exact hsm
 ·cases e
end
section
variable {prog:yv}{w:yE}{A:yH}{E:Value->yc->Prop}{s:yc}
def zPq:typeLookup (.type "list_reverseiterator") "__len__" = pure none:=by rw[typeLookup_type,xY];kernel_rfl
def zDt:typeLookup (.type "list_reverseiterator") "__length_hint__" = pure (some (.builtin "list_reverseiterator.__length_hint__")):=by rw[typeLookup_type,xY];kernel_rfl
def zwt{r:Addr}{Q:Bool->yc->Prop}(hT:s.TypeIs (.ref r) "list_reverseiterator")(h:Q false s):yk (yp prog w) A (xj (.ref r)) Q E s:=by
 unfold xj;refine ya (xc hT zPq ?_);show yk _ _ (specialOf (yC r) (YQ "__length_hint__") >>= _) _ _ _;refine ya (xc hT zDt ?_);generalize hid:("list_reverseiterator.__length_hint__":String)=id0
 wp_delta
 rw[show splitId id0=some ("list_reverseiterator","__length_hint__") from by subst hid;decide +kernel];subst hid;refine ya (wpAny_isInstance (T:="list_reverseiterator") (b:=true) hT (by rw[isSubtype_type];kernel_rfl) ?_);refine YU (fun hab=>absurd hab (by decide)) (fun _=>?_);refine YU (fun _=>?_) (fun hab=>absurd (by decide +kernel) hab);refine YU (fun hab=>absurd hab (by decide +kernel)) (fun _=>?_);exact ye h
def zst{I l:Addr}{items:Array Value}{Q:Value->yc->Prop}(hh:A.handled=none)(hne:l≠I)(hI:s.heap.IsRevIter I l ((items.size:Int)-1))(hl:s.heap.IsList l items)(hn:items.size<=yB)
 (hQ:∀h' tk acc' c',(∀b o,b≠I->s.heap.get? b=some o->h'.get? b=some o)->h'.get? s.heap.objs.size=some {cls := .type "list",dict:=none,data := .seq acc' c',slots:=#[]}->ItemsOf (fun i v=>items[items.size-1-i]?=some v) acc' items.size->Q (.ref s.heap.objs.size) {s with heap:=h',toks:=tk }) :
 yk (yp prog w) A (call (.type "list") [.ref I]) Q E s:=by
 have hIlt:I<s.heap.objs.size:=by obtain⟨o,ho,_⟩:=hI;exact yi ho
 have hllt:l<s.heap.objs.size:=by obtain⟨o,ho,_⟩:=hl;exact yi ho
 refine callType_codes (Q₁:=fun obj s₁=>obj = .ref s.heap.objs.size/\s₁ = {s with heap:=s.heap.push {cls := .type "list",data := .seq #[]}}) PySem.F.called_list (PySem.F.typeCall_list_1 _) PySem.F.entry_list_init (code_list_new _ ⟨rfl,rfl⟩) fun obj s₁ h₁=>?_;obtain⟨rfl,rfl⟩:=h₁;generalize hS0:s.heap.objs.size=S;have hSI:S≠I:=by rw[<-hS0];exact yO hIlt
 have hSl:S≠l:=by rw[<-hS0];exact yO hllt
 have hS:(s.heap.push {cls := .type "list",data := .seq #[]}).get? S=some {cls := .type "list",data := .seq #[]}:=by rw[<-hS0];exact yo _ rfl
 refine⟨⟨_,hS,rfl⟩,PySem.F.args_list_init_2 _ _,?_⟩;have oldS:∀b o,s.heap.get? b=some o->b≠S:=fun b o e=>by rw[<-hS0];exact yw (yi e)
 have W:=(Walks.listRev (prog:=prog) (w:=w) (A:=A.in1.in1) hh I l hne items).toS;show yk _ _ (do let old <-Builtin.List.listItems (.ref S);Builtin.List.listUpdate (.ref S) (fun _=>#[]);letGo old.toList.reverse;Yo (.ref S) (.ref I) .none) _ _ _;refine ya ?_;unfold Builtin.List.listItems;refine ya (wpAny_seqItems hS rfl (ye ?_));show yk _ _ (updateSeq S (fun _=>#[]) >>= fun _=>letGo (#[]:Array Value).toList.reverse >>= fun _=>Yo (.ref S) (.ref I) .none) _ _ _;refine ya (wpAny_updateSeq hS rfl ?_);have hS2:=yJ (xM (fun _=>(#[]:Array Value))) hS rfl;generalize hh2:(s.heap.push {cls := .type "list",data := .seq #[]}).update S (xM (fun _=>(#[]:Array Value)))=h2 at hS2 ⊢
 have k2:∀b o,s.heap.get? b=some o->h2.get? b=some o:=fun b o e=>by
  rw[<-hh2];exact(Yb _ _ (yF (oldS b o e))).trans (yd _ e)
 refine ya (wpAny_letGo ?_);have hI2:h2.IsRevIter I l ((items.size:Int)-1):=hI.at fun o e=>k2 _ _ e;have hl2:h2.IsList l items:=hl.at fun o e=>k2 _ _ e;unfold Yo;refine ya (Xm (T:="list_reverseiterator") (Heap.IsRevIter.typeIs (s:={s with heap:=h2 }) hI2) ?_);have h1:xD (.ref S) (.ref I)=false:=by simp[xD,hSI]
 have h2':(YC "list_reverseiterator" == YC "list")=false:=by decide
 have h3':(YC "list_reverseiterator" == YC "tuple")=false:=by decide
 simp only[h1,h2',h3',Bool.or_false,xN,if_false];refine ya (wpAny_pyIter_revIter (s:={s with heap:=h2 }) hI2 ?_);refine ya (yQ (zwt (Heap.IsRevIter.typeIs (s:={s with heap:=h2 }) hI2) ?_));refine YU (fun hab=>absurd hab (by decide)) (fun _=>?_)
 have hSf:S∉[I,l]:=by
  simp only[mem_cons,not_mem_nil,or_false,not_or];exact⟨hSI,hSl⟩
 refine ye ⟨xU PySem.F.plain_extend_loop _,codeAny_extend_loopS W hn S hSf _ items.size 0 _ #[] _ rfl (Yq _) ⟨Yq _,by simpa using hI2,hl2⟩ hS2 (ItemsOf.nil _) fun s' acc' c' hm hS' hacc=>?_⟩;rw[Moved.eq_with hm];refine⟨rfl,?_⟩;rw[<-hS0]at hS' ⊢;refine hQ s'.heap s'.toks acc' c' (fun b o hb e=>hm.heap b o (fun hmem=>?_) (k2 b o e)) hS' hacc;rcases List.mem_cons.mp hmem with e' | hmem
 ·exact oldS b o e e'
 ·exact hb (List.mem_singleton.mp hmem)
end
section
variable {X:Cx}{a b c e:Expr}{es:List Expr}{φ ψ χ:FE}{pos pos2 p1 p2:xi}
def zXt(φ:FE):FE:=fun δ μ=>(φ δ μ).bind fun p=>match p.1 with
 |.loc n=>match p.2[n]? with
  |some (.lst ds)=>some (.loc p.2.length,p.2++[.lst ds.reverse])
  |_=>none
 |_=>none
def zqu{items:List Value}{vs:List V}{its:List Value}(rv:Vals vs items)(hl:its.length=items.length)(h:∀(j:Nat)(v:Value),its[j]?=some v->items[items.length-1-j]?=some v):Vals vs.reverse its:=by
 have e:its=items.reverse:=by
  refine ext_getElem? fun j=>?_
  by_cases hj:j<its.length
  ·have h1:its[j]?=some its[j]:=by simp[hj]
   rw[List.getElem?_reverse (by omega),h j _ h1,h1]
  ·rw[Yx (by omega),Yx (by simp;omega)]
 rw[e];exact rv.reverse
def zks{K:yr}{ρ:List Addr}{H:Hp}:∀{ds:List D} {vs:List V},RepVs K ρ H ds vs->RepVs K ρ H ds.reverse vs.reverse
 |[],vs,r=>by rw[r.nil_inv];exact .nil
 |d::ds,vs,r=>by
  obtain⟨v,q,rfl,h1,h2⟩:=r.cons_inv;rw[List.reverse_cons,List.reverse_cons];exact(zks h2).append (.cons h1 .nil)
def zKz(X:Cx)(tl:TE):TE:=fun σ H Q=>tl σ H fun x H1=>∃a ys,x = .ref a/\SqL X.K H1 a ys/\∀q,H1 q=none->Q (.ref q) (upd H1 q (.lst ys.reverse))
def zXv{l:Expr}{tl:TE}(hm1:X.mg "list" = none)(hv1:yK "list" = some (.type "list"))(hm2:X.mg "reversed" = none)(hv2:yK "reversed" = some (.type "reversed"))(hl:PE X l tl)(hc:X.calm=true)(hg1:Gl X "list")(hg2:Gl X "reversed")
 (he:yg [l] X.env=(false,yY l X.env)::yg [] X.env) (he2:yg [.Call (.Name "reversed" p2) [l] [] pos2] X.env=(false,yY (.Call (.Name "reversed" p2) [l] [] pos2) X.env)::yg [] X.env) :
 PE X (.Call (.Name "list" p1) [.Call (.Name "reversed" p2) [l] [] pos2] [] pos) (zKz X tl):=by
 intro pins s σ H Q I h;refine xm (zOj I hg1 hm1 hv1 ?_ (by decide) (by decide));refine YK ?_ he2 rfl;rw[he2];show yk _ _ (spliced ((false,yY (.Call (.Name "reversed" p2) [l] [] pos2) X.env)::Yh pos (yg [] X.env))) _ _ s;refine Calls.spliced_cons ?_;refine xm (zOj I hg2 hm2 hv2 ?_ (by decide) (by decide))
 refine YK (thn (zoe hl zUg he pos2 pins s σ H (fun vs H1=>match vs with
  |[x]=>∃a ys,x = .ref a/\SqL X.K H1 a ys/\∀q,H1 q=none->Q (.ref q) (upd H1 q (.lst ys.reverse))
  |_=>False) I h) fun us s1 ⟨vs,H1,I1,r1,q1⟩=>?_) he rfl
 dsimp only at q1
 split at q1
 case h_2=>exact q1.elim
 obtain⟨a,ys,e,hq,q⟩:=q1;subst e
 cases r1 with
 |cons r rr=>
  cases rr;cases r;obtain⟨its,rv,pl,hz⟩:=I1.list hq;have hlen:=rv.length;refine call_reversed_list pl.isList ?_;refine Calls.spliced_nil ?_;have I2:Inv X pins σ H1 {s1 with heap:=s1.heap.push (revObj a ((its.toArray.size:Int)-1))}:=I1.kept (t':=s1.toks) fun b o e=>yd _ e;have halt:a<s1.heap.objs.size:=by obtain⟨_,_,e,_⟩:=pl;exact yi e
  have hf:∀b∈[s1.heap.objs.size],zMp X pins H1 b:=fun b hb=>by
   have e:b=s1.heap.objs.size:=by simpa using hb
   subst e;exact I1.fpOk (yh _) (I1.hok.fresh (yh _))
  refine zst (s:={s1 with heap:=s1.heap.push (revObj a ((its.toArray.size:Int)-1))}) (I.ok.hd hc) (yw halt) ⟨_,yo _ rfl,rfl,rfl⟩ (pl.isList.push _) (by simp;omega) fun h' tk acc' c' kp e hi=>?_;obtain⟨hi1,hi2⟩:=hi;have hv:=zqu (its:=acc'.toList) rv (by simpa using hi1) fun j v e=>by simpa using hi2 j v (by simpa using e)
  refine⟨.ref _,_,zte (t':=tk) I2 hf (fun b o hb e=>kp b o (by simpa using hb) e) (yh _) (show ObjOk X.prog X.w _ h' _ (.lst ys.reverse) from⟨by simp;omega,acc'.toList,c',hv,by simpa using e⟩),rfl,q _ (I2.hok.fresh (yh _))⟩
def zOv(hm1:X.mg "list" = none)(hv1:yK "list" = some (.type "list"))(hm2:X.mg "reversed" = none)(hv2:yK "reversed" = some (.type "reversed"))(h:ME X e φ)(hc:X.calm=true:=by rfl)(hg1:Gl X "list":=by rfl)(hg2:Gl X "reversed":=by rfl)
 (he:yg [e] X.env=(false,yY e X.env)::yg [] X.env:=by rfl) (he2:yg [.Call (.Name "reversed" p2) [e] [] pos2] X.env=(false,yY (.Call (.Name "reversed" p2) [e] [] pos2) X.env)::yg [] X.env:=by rfl) :
 ME X (.Call (.Name "list" p1) [.Call (.Name "reversed" p2) [e] [] pos2] [] pos) (zXt φ) :=
 zhd (zXv hm1 hv1 hm2 hv2 h hc hg1 hg2 he he2) fun ρ δ μ σ H d μ' Q A e k=>by
  obtain⟨⟨x,μ1⟩,e1,e⟩:=zi e;refine⟨ρ,δ,μ,x,μ1,A,e1,fun ρ1 H1 v x1 R1 r1=>?_⟩;dsimp only at e
  split at e
  ·split at e
   ·rename_i hm
    cases e;obtain⟨p,rfl,ep⟩:=r1.loc_inv;obtain⟨vs,e3,q⟩:=R1.at_ _ _ _ ep hm;exact⟨p,vs,rfl,SqL.of e3,fun q' hq'=>k _ _ _ (x1.trans (Ext.push hq')) (R1.push hq' ⟨_,zF,(zks q).ext (Ext.push hq')⟩) (.loc (zDb R1))⟩
   ·cases e
  ·cases e
end
section
variable {X:Cx}
end
section
variable {prog:yv}{w:yE}{A:yH}{E:Value->yc->Prop}{s:yc}
end
section
variable {X:Cx}{e:Expr}{te:TE}{φ:FE}{stp:Expr}{ts:TO}{pos p2:xi}
end
section
variable {prog:yv}{w:yE}{A:yH}{E:Value->yc->Prop}{s:yc}
end
section
variable {X:Cx}
end
section
variable {X:Cx}
def zzk(ns:List Int):List Int:=ns.mergeSort fun a b=>decide (a<=b)
def zpi:GL:=fun ds μ=>match ds with
 |[.loc n]=>match μ[n]? with
  |some (.lst xs)=>(z0h xs).bind fun ns=>bif decide (ns.length<64) then some (.loc μ.length,μ++[.lst ((zzk ns).map .int)]) else none
  |_=>none
 |_=>none
def zok(hc:X.calm=true):CallM X (.builtin "sorted") zpi:=by
 refine CallM.of fun pins s σ H xs us Q I r ρ ds μ d μ' r1 R e k=>?_;unfold zpi at e
 split at e
 ·split at e
  ·rename_i hm
   obtain⟨ns,e2,e⟩:=zi e;obtain⟨hp,e⟩:=zX e;have hp:=of_decide_eq_true hp;cases e;rw[zLe e2]at hm;obtain⟨v,rr,rfl,q1,q2⟩:=r1.cons_inv;obtain⟨a,rfl,ea⟩:=q1.loc_inv;obtain⟨vs,e3,q3⟩:=R.at_ _ _ _ ea hm;rw[zfh q3]at e3;rw[q2.nil_inv]at r;obtain⟨u,rfl,ru⟩:=vals1 r;cases ru;obtain⟨its,rv,pl,hz⟩:=I.list (SqL.of (K:=X.K) e3);have hl:its.length=ns.length:=by rw[<-rv.length];simp
   refine sorted_ints pl.isList (zbg rv) (by omega) fun out ns' a1 a2 a3=>?_;have hms:ns'=zzk ns:=zad (a2.trans (mergeSort_perm _ _).symm) a3 (z9h _);subst hms;obtain⟨e0,he⟩:=sortedAll_at s.heap its out;have hf:=I.hok.fresh (xK s.heap.objs.size);have hlen:(zzk ns).length=ns.length:=a2.length_eq;refine⟨.ref (s.heap.objs.size+1),_,I.laid (t':=s.toks) (o := .lst ((zzk ns).map V.int)) (fun _ _=>sortedAll_old) (xK _) ?_,rfl,k _ _ _ (Ext.push hf) (R.push hf ⟨_,zF,z6e⟩) (.loc (zDb R))⟩;exact⟨by simp;rw[Yp];omega,out.toList,e0,zme a1,by simpa using he⟩
  ·cases e
 ·cases e
end
section
variable {X:Cx}{a b c e:Expr}{es:List Expr}{φ ψ χ:FE}{pos p2:xi}
end
section
variable {prog:yv}{w:yE}{A:yH}{E:Value->yc->Prop}{s:yc}
def zTk{it t:Addr}{items:Array Value}(hne:t≠it):∀(n i:Nat)(s:yc)(Q:List Value->yc->Prop),s.heap.IsListIter it t i->s.heap.IsList t items->i+n<=items.size ->
 (∀h',h'.IsListIter it t (i+n)->Yj it s.heap h'->Q ((items.toList.drop i).take n) {s with heap:=h' })->yk (yp prog w) A (draw (.ref it) n) Q E s
 |0,i,s,Q,hit,_,_,hQ=>by
  show yk _ _ (pure []) Q E s;exact ye (by simpa using hQ s.heap hit (Heap.SameBut.refl ..))
 |n+1,i,s,Q,hit,ht,hle,hQ=>by
  have hlt:i<items.size:=by omega
  show yk _ _ (Xg (.ref it) >>= _) Q E s;refine ya (wpAny_pyNext_list_item hit ht (x:=items[i]) (by simp[hlt]) fun h₁ hit₁ hs₁=>?_);refine ya (yQ (zTk hne n (i+1) _ _ hit₁ (ht.extBut hs₁.extBut hne) (by omega) fun h₂ hit₂ hs₂=>ye ?_));have hd:items.toList.drop i=items[i]::items.toList.drop (i+1):=by simp[drop_eq_getElem_cons,hlt]
  have:=hQ h₂ (by rw[show i+(n+1)=i+1+n by omega];exact hit₂) (hs₁.trans hs₂);rw[hd,List.take_succ_cons]at this;exact this
def z6h{t:Addr}{items:Array Value}{Q:List Value->yc->Prop}(hh:A.handled=none)(ht:s.heap.IsList t items)
 (hQ:∀h',Xj s.heap.objs.size s.heap h'->Q items.toList {s with heap:=h' }):yk (yp prog w) A (unpackItems (.ref t) items.size none) Q E s:=by
 have hlt:t≠s.heap.objs.size:=by obtain⟨o,ho,_⟩:=ht;exact yw (yi ho)
 unfold unpackItems;refine ya ?_
 ·unfold notIterableAtAll;refine ya (xc ht.typeIs PySem.slot_list_iter.lookup ?_);refine ye ?_;simp only[xN,if_false];refine ya (yQ (wpAny_pyIter_list ht ?_));refine ya (yQ (zTk hlt items.size 0 _ _ ⟨_,yo _ rfl,rfl,rfl⟩ (ht.push _) (by omega) fun h₁ hit₁ hs₁=>?_))
  have hall:List.take items.size (List.drop 0 items.toList)=items.toList:=by
   rw[List.drop_zero];exact List.take_of_length_le (by simp)
  rw[hall];rw[if_neg (by simp)];have ht₁:h₁.IsList t items:=(ht.push _).extBut hs₁.extBut hlt;refine ya (yQ (wpAny_pyNext_list_end hh hit₁ ht₁ (by simp) fun h₂ he₂=>?_));simp only[Option.isSome_none,xN,if_false];refine ye (hQ h₂ fun b o hb e=>he₂ b o hb (hs₁.extBut b o hb (yd _ e)))
def z1h{env:Env}{elts:List Expr}{x1}{pos:xi}{t:Addr}{items:Array Value}{Q:Unit->yc->Prop}(hh:A.handled=none)(ht:s.heap.IsList t items)
 (hn:(Ym elts env).length=items.size) (hstar:(Ym elts env).findIdx? (·.1)=none)
 (h:∀h',Xj s.heap.objs.size s.heap h'->yk (yp prog w) A (assignInOrder ((Ym elts env).map (·.2)) items.toList) Q E {s with heap:=h' }) :
 yk (yp prog w) A (assign (.Tuple elts x1 pos) env (.ref t)) Q E s:=by
 rw[assign_Tuple];refine ya (YM ?_);unfold unpack;rw[hn,hstar];exact ya (yQ (z6h hh ht h))
end
section
variable {X:Cx}{pos:xi}
def zrz(K:yr)(n:Nat)(t:TGs):TG:=fun v σ H Q=>∃a xs,v = .ref a/\SqL K H a xs/\xs.length=n/\t xs σ H Q
def zqv{es:List Expr}{k:Nat}{t:TGs}{n:Nat}(hc:X.calm=true)(h:PGs X es t)
 (hn:(Ym es X.env).length=n:=by rfl) (hst:(Ym es X.env).findIdx? (·.1)=none:=by rfl):PG X (.Tuple es k pos) (zrz X.K n t):=by
 intro pins s σ H v u Q I r hw;obtain⟨a,xs,e1,hq,hl,hw⟩:=hw;subst e1;cases r;obtain⟨its,rv,pl,hz⟩:=I.list hq;refine z1h (I.ok.hd hc) pl.isList (by simp[hn,<-hl,rv.length]) hst fun h' hx=>?_;have I1:Inv X pins σ H {s with heap:=h' }:=I.kept (t':=s.toks) fun b o e=>hx b o (yw (yi e)) e;exact h pins _ σ H xs _ Q I1 (by simpa using rv) hw
def gTL(n:Nat)(gs:FGs):FG:=fun d δ μ=>match d with
 |.loc l=>match μ[l]? with
  |some (.lst ds)=>bif ds.length==n then gs ds δ μ else none
  |_=>none
 |_=>none
def zBw{es:List Expr}{k n:Nat}{gs:FGs}(h:MGs X es gs)(hc:X.calm=true:=by rfl)(hn:(Ym es X.env).length=n:=by rfl)(hst:(Ym es X.env).findIdx? (·.1)=none:=by rfl):MG X (.Tuple es k pos) (gTL n gs) :=
 mg_of (zqv hc h hn hst) fun ρ δ μ d δ' μ' v σ H Q A q e k=>by
  unfold gTL at e
  split at e
  ·split at e
   ·rename_i hm
    obtain⟨h1,e⟩:=zX e;obtain⟨a,rfl,ea⟩:=q.loc_inv;obtain⟨vs,e3,q2⟩:=A.hp.at_ _ _ _ ea hm;exact⟨a,vs,rfl,SqL.of e3,by rw[<-q2.length];exact beq_iff_eq.mp h1,ρ,δ,μ,_,δ',μ',A,q2,e,k⟩
   ·cases e
  ·cases e
end
section
variable {X:Cx}{a b c e:Expr}{φ ψ χ:FE}{pos:xi}
end
section
variable {X:Cx}{e:Expr}{te:TE}{φ:FE}{stp:Expr}{ts:TO}{pos p2:xi}
end
section
variable {X:Cx}{a b c e:Expr}{es:List Expr}{φ ψ χ:FE}{pos:xi}
end
end M
namespace M
open PySem PyProof.Rows
section
variable {prog:yv}{w:yE}{A:yH}{E:Value->yc->Prop}{s:yc}
end
end M
namespace M
open PySem PySem.Spec PyProof.Rows L2
section
variable {X:Cx}{pins:List (Addr×YL)}{σ:L2.St}{H:Hp}{s s':yc}
end
section
variable {X:Cx}{a b c e:Expr}{es:List Expr}{φ ψ χ:FE}{pos pos2 p1 p2:xi}
end
section
variable {prog:yv}{w:yE}{A:yH}{E:Value->yc->Prop}{s:yc}{T:String}{r d:Addr}{n:Nat}{P:Nat->Value->Prop}{OK:yT->Prop}
def zXz(s:yc)(P:Nat->Value->Prop)(n:Nat):Result->yc->Prop:=fun rr s'=>∃h' tk acc' c',rr = .ok (.ret (.ref s.heap.objs.size))/\s' = {s with heap:=h',toks:=tk }/\(∀b o,s.heap.get? b=some o->h'.get? b=some o)/\h'.get? s.heap.objs.size=some {cls := .type "list",dict:=none,data := .seq acc' c',slots:=#[]}/\ItemsOf P acc' n
def zHo{Q:List Value->yc->Prop}(K:W.KdlSrc prog w T r d n P OK)(hh:A.handled=none)(hok:OK s.heap)(hn:n<=yB)
 (h:∀h' tk acc',(∀b o,s.heap.get? b=some o->h'.get? b=some o)->s.heap.objs.size<=h'.objs.size->ItemsOf P acc' n->Q acc'.toList {s with heap:=h',toks:=tk }) :
 yk (yp prog w) A (collect (.ref r)) Q E s:=by
 have hlt:=K.there _ hok;unfold collect;refine ya (wpAny_runValue (xf F.entry_proto_collect ?_));rw[YJ F.plain_proto_collect _];show yk _ A.in1 (newList [] >>= fun l=>again (.builtin "list.__iadd__" ⟨[l, .ref r],[]⟩)) _ _ s;refine ya (yV ?_);have hS:(s.heap.push {cls := .type "list",data := .seq ([]:List Value).toArray }).get? s.heap.objs.size=some {cls := .type "list",data := .seq #[]}:=yo _ rfl;refine ye ⟨xU F.plain_list_iadd _,YO (xf (R:=zXz s P n) F.entry_list_iadd ?_) fun rr s' ⟨h',tk,acc',c',e1,e2,hk,hS',hacc⟩=>?_⟩
 ·rw[YJ F.plain_list_iadd _];show yk _ A.in1 (Yo (.ref s.heap.objs.size) (.ref r) (.ref s.heap.objs.size)) _ _ _;exact W.kdl_extend (R:=zXz s P n) (A:=A) (s:={s with heap:=s.heap.push {cls := .type "list",data := .seq ([]:List Value).toArray }}) K hh (K.keep _ _ hok fun b _ o e=>yd _ e) _ (yO hlt.1) (yO hlt.2) _ _ hS (fun h' tk acc' c' hk hS' hacc=>⟨h',tk,acc',c',rfl,rfl,fun b o e=>hk b o (yw (yi e)) (yd _ e),hS',hacc⟩) hn
 ·subst e1 e2;dsimp only;refine ya (wpAny_load hS' ?_);exact ye (h h' tk acc' hk (YH (yi hS')) hacc)
def zrq{ks:List Int}{Q:Value->yc->Prop}(K:W.KdlSrc prog w T r d n P OK)(hh:A.handled=none)(hok:OK s.heap)(h64:n<64)(hint:∀acc:Array Value,ItemsOf P acc n->IntsAre acc.toList ks)(h:∀p s',zfv s ks p s'->Q (.ref p) s') :
 yk (yp prog w) A (call (.builtin "sorted") [.ref r]) Q E s:=by
 refine Calls.call_function_entry kind_sorted plain_sorted entry_sorted (args_sorted1 _) ?_;unfold xt.«sorted»;refine ya (m:=checkCount "sorted" 1 1 _) (ye ?_);refine ya (zHo (A:=A.in1) K hh hok (yy (YH h64) (by rw[Yp];decide)) fun h1 tk acc hk hsz hacc=>?_);have hI:=hint acc hacc
 have hl:acc.toList.length<64:=by
  have:=hacc.1;simp only[Array.length_toList];omega
 refine ya (wpAny_newList ?_ (by rw[Yp];omega));have hnew:(h1.push (seqObj "list" acc.toList.toArray 0)).get? h1.objs.size=some (seqObj "list" acc.toList.toArray 0):=yo _ rfl;refine ya (yQ (yX slot_list_sort ⟨_,hnew,rfl⟩ entry_list_sort (list_sort_tree hnew hI (by simp at hl ⊢;omega) fun out ns q1 q2 q3=>⟨_,rfl,?_⟩) (args_list_sort _)));obtain⟨e,he⟩:=sortedHeap_at (out:=out) hnew;refine ye ⟨_,rfl,h _ _ ⟨out,ns,e,he,q1,q2,q3,hsz,fun b ob eb=>?_,rfl,rfl⟩⟩;have hb1:=hk _ _ eb;have hlt1:b<h1.objs.size:=yi hb1;show(sortedHeap (h1.push (seqObj "list" acc.toList.toArray 0)) h1.objs.size acc.toList out).get? b=some ob;rw[sortedHeap_old (yw hlt1) (by rw[size_push'];exact Yt hlt1)];exact yd _ hb1
end
section
variable {X:Cx}
def zhp:GL:=fun ds μ=>match ds with
 |[x]=>(zxc μ x).bind fun kvs=>bif decide (kvs.length<64) then some (.loc μ.length,μ++[.lst ((zzk (kvs.map (·.1))).map .int)]) else none
 |_=>none
def zFo(hc:X.calm=true):CallM X (.builtin "sorted") zhp:=by
 refine CallM.of fun pins s σ H xs us Q I r ρ ds μ d μ' r1 R e k=>?_;unfold zhp at e
 split at e
 ·obtain⟨kvs,e1,e⟩:=zi e;obtain⟨h64,e⟩:=zX e;have h64:=of_decide_eq_true h64;cases e;obtain⟨v,rr,rfl,q1,q2⟩:=r1.cons_inv;rw[q2.nil_inv]at r;obtain⟨p,vs,rfl,hq,w1,w2⟩:=zuf R q1 e1;obtain⟨u,rfl,ru⟩:=vals1 r;cases ru;obtain⟨hz,hd,_⟩:=zDh I.hok hq;obtain⟨us',ep,rel,da⟩:=zpr I.hok hq;have hl:=rel.length
  have hkv:(vs.map fun p=>kV p.1)=((kvs.map (·.1)).map V.int):=by
   have:(vs.map (·.1)).map kV=(kvs.map fun p=>(yD p.1:Key)).map kV:=by rw[w1]
   rw[map_map,map_map]at this;rw[map_map];exact this
  have hlk:kvs.length=vs.length:=by
   have:=congrArg List.length w1;simpa using this.symm
  refine zrq (ks:=kvs.map (·.1)) (W.kdl_dict hd) (I.ok.hd hc) da (by omega) (fun acc hi=>?_) fun q s' ⟨out,ns,e',h1,h2,h3,h4,h5,h6,h7,h8⟩=>?_
  ·obtain⟨hi1,hi2⟩:=hi;have hv:=zzj (P:=X.prog) (w:=X.w) (its:=acc.toList) rel (by simpa using hi1) fun j v e=>hi2 j v (by simpa using e);rw[hkv]at hv;exact zbg hv
  ·have hms:ns=zzk (kvs.map (·.1)):=zad (h3.trans (mergeSort_perm _ _).symm) h4 (z9h _);subst hms;have hlen:(zzk (kvs.map (·.1))).length=(kvs.map (·.1)).length:=h3.length_eq;rw[length_map]at hlen;have hf:=I.hok.fresh h5;refine⟨.ref q,_,z3p I h7 h8 h6 h5 (show ObjOk X.prog X.w _ s'.heap _ (.lst ((zzk (kvs.map (·.1))).map V.int)) from⟨by simp;rw[Yp];omega,out.toList,e',zme h2,by simpa using h1⟩),rfl,k _ _ _ (Ext.push hf) (R.push hf ⟨_,zF,z6e⟩) (.loc (zDb R))⟩
 ·cases e
end
def zSq(K:yr)(c f:Str):Prop:=∀C,Yg K yj c=some (some (.ref C))->Cls K C/\NoAttr K C f
def zTp{K:yr}{ρ:List Addr}{H:Hp}{f:Str}{d:D}:∀{fs:List (Str×D)} {vs:List (Str×V)},vs.map (·.1)=fs.map (·.1)->RepVs K ρ H (fs.map (·.2)) (vs.map (·.2))->fs.lookup f=some d->∃v,vs.lookup f=some v/\RepV K ρ H d v
 |[],_,_,_,e=>by cases e
 |(g,x)::fs,[],h,_,_=>by cases h
 |(g,x)::fs,(g',y)::vs,h,r,e=>by
  obtain⟨h1,h2⟩:=yb h;have h1:g'=g:=h1;subst h1;obtain⟨v,q,e1,r1,r2⟩:=r.cons_inv;obtain⟨e2,e3⟩:=yb e1;subst e2 e3;rw[lookup_cons]at e ⊢
  cases hb:f==g' with
  |true=>rw[hb]at e;cases e;exact⟨_,rfl,r1⟩
  |false=>rw[hb]at e;exact zTp h2 r2 e
def zIp{f:Str}:∀{fs:List (Str×D)} {vs:List (Str×V)},vs.map (·.1)=fs.map (·.1)->fs.lookup f=none->vs.lookup f=none
 |[],[],_,_=>rfl
 |[],_::_,h,_=>by cases h
 |_::_,[],h,_=>by cases h
 |(g,x)::fs,(g',y)::vs,h,e=>by
  obtain⟨h1,h2⟩:=yb h;have h1:g'=g:=h1;subst h1;rw[lookup_cons]at e ⊢
  cases hb:f==g' with
  |true=>rw[hb]at e;cases e
  |false=>rw[hb]at e;exact zIp h2 e
def z2h(f:Str)(d:D):List (Str×D)->List (Str×D)
 |[]=>[(f,d)]
 |(g,x)::r=>if g=f then(g,d)::r else(g,x)::z2h f d r
def zcs{K:yr}{ρ:List Addr}{H:Hp}{f:Str}{d:D}{v:V}(rd:RepV K ρ H d v):∀{fs:List (Str×D)} {vs:List (Str×V)},vs.map (·.1)=fs.map (·.1)->RepVs K ρ H (fs.map (·.2)) (vs.map (·.2)) ->
 (zvk f v vs).map (·.1)=(z2h f d fs).map (·.1)/\RepVs K ρ H ((z2h f d fs).map (·.2)) ((zvk f v vs).map (·.2))
 |[],[],_,_=>⟨rfl, .cons rd .nil⟩
 |[],_::_,h,_=>by cases h
 |_::_,[],h,_=>by cases h
 |(g,x)::fs,(g',y)::vs,h,r=>by
  obtain⟨h1,h2⟩:=yb h;have h1:g'=g:=h1;subst h1;obtain⟨v',q,e1,r1,r2⟩:=r.cons_inv;obtain⟨e2,e3⟩:=yb e1;subst e2 e3;unfold zvk z2h
  by_cases hg:g'=f
  ·rw[if_pos hg,if_pos hg];exact⟨h, .cons rd r2⟩
  ·rw[if_neg hg,if_neg hg];obtain⟨k1,k2⟩:=zcs rd h2 r2;exact⟨by show g'::_=g'::_;rw[k1], .cons r1 k2⟩
section
variable {X:Cx}{a o e:Expr}{es:List Expr}{φ:FE}{ψ:FA}{pos apos:xi}{c f m:Str}
@[simp] def zLo(c f:Str)(φ:FE):FE:=fun δ μ=>(φ δ μ).bind fun p=>match p.1 with
 |.loc n=>match p.2[n]? with
  |some (.ins c' fs)=>bif c'==c then(fs.lookup f).bind fun d=>some (d,p.2) else none
  |_=>none
 |_=>none
def zKf(T:zSq X.K c f)(h:ME X a φ)(hb:Yn a f X.env (yY a X.env)=yY a X.env:=by rfl):ME X (.Attribute a f pos) (zLo c f φ) :=
 zhd (zex h hb) fun ρ δ μ σ H d μ' Q A e k=>by
  obtain⟨⟨x,μ1⟩,e1,e⟩:=zi e;refine⟨ρ,δ,μ,x,μ1,A,e1,fun ρ1 H1 v x1 R1 r1=>?_⟩;dsimp only at e
  split at e
  ·split at e
   ·rename_i hm
    obtain⟨hc,e3⟩:=zX e;clear e;have hc:=eq_of_beq hc;subst hc;obtain⟨d',e2,e4⟩:=zi e3;cases e4;obtain⟨a,rfl,ea⟩:=r1.loc_inv;obtain⟨C,dx,vs,hn,hH,hk,hv⟩:=R1.at_ _ _ _ ea hm;obtain⟨cl,na⟩:=T C hn;obtain⟨v,hl,rv⟩:=zTp hk hv e2;exact⟨a,C,dx,vs,v,rfl,hH,cl,na,hl,k ρ1 H1 v x1 R1 rv⟩
   ·cases e
  ·cases e
@[simp] def z6q(c f:Str)(φ ψ:FE):FS:=fun δ μ=>(ψ δ μ).bind fun y=>(φ δ y.2).bind fun p=>match p.1 with
 |.loc n=>match p.2[n]? with
  |some (.ins c' fs)=>bif (c'==c)&&decide (fs.length<1000) then some (.next δ (p.2.set n (.ins c (z2h f y.1 fs)))) else none
  |_=>none
 |_=>none
def z7r{value:Expr}{χ:FE}{pos':xi}(T:zSq X.K c f)(ha:ME X o φ)(hv:ME X value χ)(hs:xS value (some (.Attribute o f pos')) pos.line X.env=pure false:=by rfl):MS X (.Assign [.Attribute o f pos'] value pos) (z6q c f φ χ) :=
 zTj (zPy ha hv hs) fun ρ δ μ σ H o E A e k=>by
  obtain⟨⟨y,μ1⟩,e1,e⟩:=zi e;refine⟨ρ,δ,μ,y,μ1,A,e1,fun ρ1 H1 vy x1 R1 r1=>?_⟩;obtain⟨⟨x,μ2⟩,e2,e⟩:=zi e;refine⟨ρ1,δ,μ1,x,μ2,A.ext x1 R1,e2,fun ρ2 H2 v x2 R2 r2=>?_⟩;dsimp only at e
  split at e
  ·split at e
   ·rename_i n c' fs hm
    obtain⟨hc,e3⟩:=zX e;clear e;rw[yG]at hc;have hl:=of_decide_eq_true hc.2;have hc:=eq_of_beq hc.1;subst hc;cases e3;obtain⟨a,rfl,ea⟩:=r2.loc_inv;obtain⟨C,dx,vs,hn,hH,hk,hvs⟩:=R2.at_ _ _ _ ea hm;obtain⟨cl,na⟩:=T C hn
    have hlen:vs.length<1000:=by
     have:=congrArg List.length hk;rw[length_map,length_map]at this;omega
    refine⟨a,C,dx,vs,rfl,hH,cl,na,hlen,?_⟩;have hmu:Mut (H2 a):=by rw[hH];trivial
    obtain⟨k1,k2⟩:=zcs (f:=f) (r1.ext (x2.trans (Ext.wr (o := .ins C dx (zvk f vy vs)) hmu))) hk (hvs.ext (Ext.wr (o := .ins C dx (zvk f vy vs)) hmu));have R3:=R2.wr (lo := .ins c' (z2h f y fs)) hmu ea ⟨C,dx,zvk f vy vs,hn,zF,k1,k2⟩;exact k ρ2 σ _ (x1.trans (x2.trans (Ext.wr hmu))) ((A.ext x1 R1).ext (x2.trans (Ext.wr hmu)) R3)
   ·cases e
  ·cases e
@[simp] def znb(c m:Str)(φ:FE)(ψ:FA):FA:=fun δ μ=>(φ δ μ).bind fun p=>match p.1 with
 |.loc n=>match p.2[n]? with
  |some (.ins c' fs)=>bif (c'==c)&&(fs.lookup m).isNone then(ψ δ p.2).bind fun q=>some (.loc n::q.1,q.2) else none
  |_=>none
 |_=>none
def zFp{δ:Loc}{μ μ':Mem}{ds:List D}(h:znb c m φ ψ δ μ=some (ds,μ')):∃n fs μ1 as,φ δ μ=some (.loc n,μ1)/\μ1[n]?=some (.ins c fs)/\fs.lookup m=none/\ψ δ μ1=some (as,μ')/\ds = .loc n::as:=by
 obtain⟨⟨x,μ1⟩,e1,h⟩:=zi h;dsimp only at h
 split at h
 ·split at h
  ·rename_i n c' fs hm
   obtain⟨hc,h3⟩:=zX h;clear h;rw[yG]at hc;have h1:=eq_of_beq hc.1;have h2:=Option.isNone_iff_eq_none.mp hc.2;subst h1;obtain⟨⟨as,μ2⟩,e2,h4⟩:=zi h3;cases h4;exact⟨_,fs,μ1,as,e1,hm,h2,e2,rfl⟩
  ·cases h
 ·cases h
structure MethAt(K:yr)(c m qual:Str)(st:Stmt)(ps:List Str)(C f:Addr)(fd:yf):Prop where
 nm:Yg K yj c=some (some (.ref C))
 cl:Cls K C
 me:Meth K C m f
 fn:Fun K m qual st f fd
 bd:Binds K fd ps []
variable {C g:Addr}{fd:yf}{ps:List Str}{qual:Str}{st:Stmt}{CX:CXT}{sp:Sp}{E:XK}{j k n:Nat}{F:FF}{FXm:FX}
def zms{t:TA}{ρ:List Addr}{δ:Loc}{μ:Mem}{σ:L2.St}{H:Hp}{Q:VK}{ds:List D}{μ1:Mem}(B:MethAt X.K c m qual st ps C g fd)(A:At X.K ρ H σ δ μ)(e1:znb c m φ ψ δ μ=some (ds,μ1))(ht:∀σ H R,tMA X.K ψ σ H R->t σ H R)
 (kk:∀ρ' H' vs,Ext ρ H ρ' H'->RepH X.K ρ' H' μ1->RepVs X.K ρ' H' ds vs->sp (vs++[]) H' Q E):zTw C m sp [] E (tM X.K φ) t σ H Q:=by
 obtain⟨n,fs,μo,as,ea,hm,hlk,eψ,rfl⟩:=zFp e1;refine⟨ρ,δ,μ, .loc n,μo,A,ea,fun ρ1 H1 v x1 R1 r1=>?_⟩;obtain⟨a,rfl,ea'⟩:=r1.loc_inv;obtain⟨C',dx,vs,hn',hH,hk,hv⟩:=R1.at_ _ _ _ ea' hm;have hC:=B.nm;rw[hn']at hC;cases hC;refine⟨a,dx,vs,rfl,hH,zIp hk hlk,ht _ _ _ ⟨ρ1,δ,μo,as,μ1,A.ext x1 R1,eψ,fun ρ2 H2 vs2 x2 R2 r2=>?_⟩⟩;exact kk ρ2 H2 (.ref a::vs2) (x1.trans x2) R2 (.cons (r1.ext x2) r2)
def zFv{pl:Sem Bool}(B:MethAt X.K c m qual st ps C g fd)(G:FnOk X.prog X.w X.K X.mg X.base CX j g fd ps sp)(hr:Room k X.A)(hx:zrh CX X E)(ho:ME X o φ)(ha:MAn X (e::es) ψ)(hj:j<=k)
 (hst:yg (e::es) X.env=(false,yY e X.env)::yg es X.env:=by exact z8c rfl) (hpl:(Yh pos (yg es X.env)).any (·.1)=false:=by rfl)
 (ht:yY (.Call (.Attribute o m apos) (e::es) [] pos) X.env=(do
  let ov <-yY o X.env
  standAt apos.atName
  let (f,first) <-xy [ov] (getMethod ov m pl)
  callWith pos f first (Yh pos (yg (e::es) X.env)) (xA pos (YE [] X.env))):=by rfl) :
 PE X (.Call (.Attribute o m apos) (e::es) [] pos) (zws sp [] E (tMA X.K (znb c m φ ψ))):=by
 intro pins s σ H Q I h;obtain⟨ρ,δ,μ,ds,μ1,A,e1,kk⟩:=h;exact zYw ho B.cl B.me G (hr.mono hj) B.bd .nil hx ha.ma hst hpl ht pins s σ H Q I (zms B A e1 (fun _ _ _ h=>h) kk)
def zKu{pl:Sem Bool}(B:MethAt X.K c m qual st ps C g fd)(G:FnOk X.prog X.w X.K X.mg X.base CX j g fd ps sp)(hr:Room k X.A)(hx:zrh CX X E)(ho:ME X o φ)(hj:j<=k)
 (ht:yY (.Call (.Attribute o m apos) [] [] pos) X.env=(do
  let ov <-yY o X.env
  standAt apos.atName
  let (f,first) <-xy [ov] (getMethod ov m pl)
  callWith pos f first (Yh pos (yg [] X.env)) (xA pos (YE [] X.env))):=by rfl) :
 PE X (.Call (.Attribute o m apos) [] [] pos) (zws sp [] E (tMA X.K (znb c m φ zJ))):=by
 intro pins s σ H Q I h;obtain⟨ρ,δ,μ,ds,μ1,A,e1,kk⟩:=h
 exact zzu ho B.cl B.me G (hr.mono hj) B.bd .nil hx ht pins s σ H Q I (zms B A e1 (fun σ H R h=>by
  obtain⟨ρ,δ,μ,ds,μ',A,e,k⟩:=h;cases e;exact k ρ H [] Ext.refl A.hp .nil) kk)
def z2l{δ:Loc}{μ μ':Mem}{ds:List D}(ha:∀δ μ ds μ',ψ δ μ=some (ds,μ')->ds.length+1=n)(h:znb c m φ ψ δ μ=some (ds,μ')):ds.length=n:=by
 obtain⟨_,_,_,as,_,_,_,e,rfl⟩:=zFp h;exact ha _ _ _ _ e
def zmv(h:PE X a (zws (spM X.K n F) [] E0 (tMA X.K ψ)))(hl:∀δ μ ds μ',ψ δ μ=some (ds,μ')->ds.length=n):ME X a (zB F ψ) :=
 zhd h fun ρ δ μ σ H d μ' Q A eo kk=>by
  obtain⟨⟨ds,μ1⟩,e1,eo⟩:=zi eo;refine⟨ρ,δ,μ,ds,μ1,A,e1,fun ρ1 H1 vs x1 R1 r1=>?_⟩;show spM X.K n F (vs++[]) H1 Q E0;rw[append_nil];exact⟨by rw[<-r1.length];exact hl _ _ _ _ e1,ρ1,ds,μ1,d,μ',r1,R1,eo,fun ρ2 H2 v x2 R2 r2=>kk ρ2 H2 v (x1.trans x2) R2 r2⟩
abbrev z0o(X:Cx)(o:Expr)(m:Str)(es:List Expr)(apos pos:xi)(pl:Sem Bool):Prop:=yY (.Call (.Attribute o m apos) es [] pos) X.env=(do
 let ov <-yY o X.env
 standAt apos.atName
 let (f,first) <-xy [ov] (getMethod ov m pl)
 callWith pos f first (Yh pos (yg es X.env)) (xA pos (YE [] X.env)))
def mmeth{pl:Sem Bool}(B:MethAt X.K c m qual st ps C g fd)(G:FnOk X.prog X.w X.K X.mg X.base CX0 j g fd ps (spM X.K n F))(hr:Room k X.A)(ho:ME X o φ)(ha:MAn X (e::es) ψ)(hj:j<=k:=by decide)(hn:(e::es).length+1=n:=by rfl)
 (hst:yg (e::es) X.env=(false,yY e X.env)::yg es X.env:=by exact z8c rfl) (hpl:(Yh pos (yg es X.env)).any (·.1)=false:=by rfl) (ht:z0o X o m (e::es) apos pos pl:=by rfl) :
 ME X (.Call (.Attribute o m apos) (e::es) [] pos) (zB F (znb c m φ ψ)) :=
 zmv (zFv B G hr pass0 ho ha hj hst hpl ht) fun _ _ _ _ h=>z2l (fun _ _ _ _ h=>by rw[ha.len _ _ _ _ h];exact hn) h
def mmeth0{pl:Sem Bool}(B:MethAt X.K c m qual st ps C g fd)(G:FnOk X.prog X.w X.K X.mg X.base CX0 j g fd ps (spM X.K 1 F))(hr:Room k X.A)(ho:ME X o φ)(hj:j<=k:=by decide)(ht:z0o X o m [] apos pos pl:=by rfl) :
 ME X (.Call (.Attribute o m apos) [] [] pos) (zB F (znb c m φ zJ)) :=
 zmv (zKu B G hr pass0 ho hj ht) fun _ _ _ _ h=>z2l (fun _ _ _ _ h=>by cases h;rfl) h
def zQz{pl:Sem Bool}(B:MethAt X.K c m qual st ps C g fd)(G:FnOk X.prog X.w X.K X.mg X.base (CXq X.prog X.w) j g fd ps (spX X.K n FXm))(hr:Room k X.A)(ho:ME X.nox o φ)(ha:MAn X.nox (e::es) ψ)(hj:j<=k)
 (hst:yg (e::es) X.env=(false,yY e X.env)::yg es X.env) (hpl:(Yh pos (yg es X.env)).any (·.1)=false) (ht:z0o X o m (e::es) apos pos pl)
 {pins:List (Addr×YL)} {s:yc} {σ:L2.St} {H:Hp} {Q:VK} {W:XK} (I:Inv X pins σ H s) (h:tCX X.K W n FXm (znb c m φ ψ) σ H Q):yk (yp X.prog X.w) X.A (yY (.Call (.Attribute o m apos) (e::es) [] pos) X.env) (EP X pins σ Q) (XP X pins σ W) s:=by
 obtain⟨ρ,δ,μ,ds,μ1,A,e1,kk⟩:=h;refine PySem.W.methodCall_KW (pl:=pl) (yP (ho pins s σ H _ (I.wish _) (zms (sp:=spX X.K n FXm) (E:=W) (Q:=Q) (t:=tMA X.K ψ) B A e1 (fun _ _ _ h=>h) kk)) (fun u s1 h1=>?_) fun _ _ z=>z.elim) ht;obtain⟨x,H1,I1,rx,a,dx,fs,ex,ea,l,q⟩:=h1;have I1:=I1.unwish;subst ex;obtain rfl:u=yC a:=rx;refine zli I1 ea B.cl B.me l ?_;refine PySem.W.callWith_K (first:=[.ref a]) (h₀:=X.base) I.ok.mod.kin B.me.kp (yP (ha.ma pos pins s1 σ H1 _ (I1.wish _) q) (fun us s2 h2=>?_) fun _ _ z=>z.elim) hst hpl;obtain⟨vs,H2,I2,r,q2⟩:=h2;have I2:=I2.unwish;refine⟨I2.kIn,?_⟩;have r2:Vals (.ref a::(vs++[])) (yC a::us++[]) := .cons rfl (r.append .nil);have hl:(yC a::us++[]).length=ps.length:=by rw[<-r2.length];exact G.len _ _ _ _ q2
 refine wpAny_call (YO (G.run X.A X.stack s2 H2 ⟨.ref a::us,[]⟩ (.ref a::us++[]) (.ref a::(vs++[])) Q W (hr.mono hj) I2.env0 (B.bd s2 (.ref a::us) I2.kIn hl) r2 q2) fun rr s' hq=>?_)
 cases rr with
 |error ex=>
  obtain⟨C,dx,H',Fl,hw⟩:=hq;exact⟨H2,s2,C,dx,H',I2,Fl,hw⟩
 |ok fl=>
  cases fl with
  |ret u=>exact I2.after hq
  |next=>exact Yu hq
  |brk=>exact Yu hq
  |cont=>exact Yu hq
def zBo{pl:Sem Bool}{spos py:xi}{y:Str}(i:Nat)(B:MethAt X.K c m qual st ps C g fd)(G:FnOk X.prog X.w X.K X.mg X.base (CXq X.prog X.w) j g fd ps (spX X.K n FXm))(hr:Room k X.A)(ho:ME X.nox o φ)(ha:MAn X.nox (e::es) ψ)(hj:j<=k:=by decide)(hn:(e::es).length+1=n:=by rfl)
 (hN:X.N.Nodup:=by first | assumption | decide) (hi:X.N[i]?=some y:=by rfl) (hy:L2.Loc X.env.scope y:=by first | exact Or.inl rfl | exact Or.inr rfl)
 (hst:yg (e::es) X.env=(false,yY e X.env)::yg es X.env:=by exact z8c rfl) (hpl:(Yh pos (yg es X.env)).any (·.1)=false:=by rfl) (ht:z0o X o m (e::es) apos pos pl:=by rfl)
 (hs:xS (.Call (.Attribute o m apos) (e::es) [] pos) (some (.Name y py)) spos.line X.env=pure false:=by rfl) (hf:X.fn y=true\/X.env.scope.names.lookup y=some .local:=by first | exact .inl rfl | exact .inr rfl | assumption) :
 PX1 X (.Assign [.Name y py] (.Call (.Attribute o m apos) (e::es) [] pos) spos) (zjr i FXm (znb c m φ ψ)):=by
 intro pins s σ H D W I ⟨ρ,δ,μ,o,A,eo,kk⟩;obtain⟨ds,μ1,r,e1,e2,rfl⟩:=z3t eo;refine wpAny_Assign_Name (thn (zQz B G hr ho ha hj hst hpl ht I (Q:=fun v H'=>D.nx (σ.set i (some v)) H') (zsy A e1 (z2l (fun _ _ _ _ h=>by rw[ha.len _ _ _ _ h];exact hn) e1) e2 ?_)) fun v s1 ⟨y,H1,I1,r1,q1⟩=>?_) hs
 ·cases r with
  |ok d μ'=>exact fun ρ' H' v x' R r=>kk ρ' _ H' x' ((A.ext x' R).set r i)
  |exc c fs μ'=>exact kk
 ·exact zKh I1 hN hi hy r1 (fun s2 I2=>⟨_,H1,I2,q1⟩) hf
@[simp] def z2j(c:Str)(F:FF)(ψ:FA):FE:=fun δ μ=>(ψ δ μ).bind fun q=>(F (.loc q.2.length::q.1) (q.2++[.ins c []])).bind fun r=>match r.1 with
 |.non=>some (.loc q.2.length,r.2)
 |_=>none
def mmake{p:xi}(mk:Mk X.K C g)(hc:Yg X.K yj c=some (some (.ref C)))(hm:X.mg c=some (.ref C))(bd:Binds X.K fd ps [])(G:FnOk X.prog X.w X.K X.mg X.base CX0 j g fd ps (spM X.K n F))(hr:Room k X.A)(ha:MAn X (e::es) ψ)
 (hj:j+1<=k:=by decide) (hn:(e::es).length+1=n:=by rfl) (hg:Gl X c:=by rfl) (hdb:(c==("__debug__":Str))=false:=by decide) (he:yg (e::es) X.env=(false,yY e X.env)::yg es X.env:=by exact z8c rfl) (hpl:(Yh pos (yg es X.env)).any (·.1)=false:=by rfl) :
 ME X (.Call (.Name c p) (e::es) [] pos) (z2j c F ψ) :=
 zhd (zgw mk G (hr.mono hj) hg hm bd .nil pass0 ha.ma hdb he hpl) fun ρ δ μ σ H d μ' Q A eo kk=>by
  obtain⟨⟨ds,μ1⟩,e1,eo⟩:=zi eo;refine⟨ρ,δ,μ,ds,μ1,A,e1,fun ρ1 H1 vs x1 R1 r1 x dx nx ndx nex=>?_⟩;obtain⟨⟨r,μ2⟩,e2,eo⟩:=zi eo;dsimp only at eo
  split at eo
  ·cases eo;have nx2:(upd H1 dx (.own x)) x=none:=by rw[zK (yF nex)];exact nx
   have R2:RepH X.K ρ1 (upd H1 dx (.own x)) μ1:=R1.newTup ndx;have R3:=R2.push (lo := .ins c []) nx2 ⟨C,dx,[],hc,zF,rfl, .nil⟩;have X3:=(Ext.new (ρ:=ρ1) (o := .own x) ndx).trans (Ext.push (o := .ins C dx []) nx2);rw[append_nil];refine⟨by rw[length_cons,<-r1.length,ha.len _ _ _ _ e1];exact hn,ρ1++[x], .loc μ1.length::ds,μ1++[.ins c []], .non,_, .cons (.loc (zDb R2)) (r1.ext X3),R3,e2,fun ρ4 H4 v x4 R4 r4=>⟨r4.non_inv,kk ρ4 H4 (.ref x) (x1.trans (X3.trans x4)) R4 (.loc (x4.get (zDb R2)))⟩⟩
  ·cases eo
def mcallA{x x0:Str}{p:xi}{f:Addr}(hm:X.mg x=some (.ref f))(B:FnAt X.K X.mg x0 st ps f fd)(G:FnOk X.prog X.w X.K X.mg X.base CX0 j f fd ps (spM X.K n F))(hr:Room k X.A)
 (ha:MAn X (e::es) ψ) (hj:j<=k:=by decide) (hn:(e::es).length=n:=by rfl) (hg:Gl X x:=by rfl) (hdb:(x==("__debug__":Str))=false:=by decide) (he:yg (e::es) X.env=(false,yY e X.env)::yg es X.env:=by exact z8c rfl) (hpl:(Yh pos (yg es X.env)).any (·.1)=false:=by rfl) :
 ME X (.Call (.Name x p) (e::es) [] pos) (zB F ψ):=ztr G (hr.mono hj) hm B.fn.kp B.bd ha hn hg hdb he hpl
end
section
variable {X:Cx}{e:Expr}{es:List Expr}{φ:FE}{pos:xi}
@[simp] def zmj(g:GM)(φ:FE)(ψ:FA):FE:=fun δ μ=>(φ δ μ).bind fun p=>match p.1 with
 |.loc n=>match p.2[n]? with
  |some (.dct _)=>(ψ δ p.2).bind fun q=>g (.loc n) q.1 q.2
  |_=>none
 |_=>none
def z3o{o:Expr}{ψ:FA}{name:Str}{id:String}{g:GM}{apos:xi}(slot:Slot "dict" name id)(hty:typeOf (.builtin id)=pure (.type "method_descriptor"))(hm:MtG X id g)(ho:ME X o φ)(ha:MAn X (e::es) ψ)
 (hbase:Yn o name X.env (yY o X.env)=yY o X.env:=by rfl)
 (hfew:((Yh pos (yg (e::es) X.env)).all (fun x=>!x.1)&&(xA pos (YE [] X.env)).all (fun x=>x.1.isSome)
  && decide ((e::es).length+([]:List xr).length+(if([]:List xr).isEmpty then 0 else 1)<30))=true:=by rfl)
 (hline:(apos.endLine==pos.line)=true:=by rfl) (hs:yg (e::es) X.env=(false,yY e X.env)::yg es X.env:=by rfl) (hplain:(Yh pos (yg es X.env)).any (·.1)=false:=by rfl) :
 ME X (.Call (.Attribute o name apos) (e::es) [] pos) (zmj g φ ψ) :=
 zhd (zNx PySem.F.plainAttrs_dict slot hty hm ho ha.ma hbase hfew hline hs hplain) fun ρ δ μ σ H d μ' Q A e k=>by
  obtain⟨⟨x,μ1⟩,e1,e⟩:=zi e;refine⟨ρ,δ,μ,x,μ1,A,e1,fun ρ1 H1 v x1 R1 r1=>?_⟩;dsimp only at e
  split at e
  ·split at e
   ·rename_i hm'
    obtain⟨⟨ds,μ2⟩,e2,e⟩:=zi e;obtain⟨a,rfl,ea⟩:=r1.loc_inv;obtain⟨vs,e3,q3⟩:=R1.at_ _ _ _ ea hm';refine⟨.inr (.inr (.inl ⟨rfl, .inl ⟨vs,e3⟩⟩)),ρ1,δ,μ1,ds,μ2,A.ext x1 R1,e2,fun ρ2 H2 vs2 x2 R2 r2=>?_⟩;exact⟨ρ2,_,ds,μ2,d,μ',r1.ext x2,r2,R2,e,fun ρ3 H3 v3 x3 R3 r3=>k ρ3 H3 v3 (x1.trans (x2.trans x3)) R3 r3⟩
   ·cases e
  ·cases e
@[simp] def zkq:GM:=fun x ds μ=>match ds with
 |[.int i]=>(zxc μ x).bind fun kvs=>some ((zWc kvs i).getD .non,μ)
 |_=>none
def zpt:MtG X "dict.get" zkq:=by
 refine MtG.of fun pins s σ H x xs v us Q I rx rs ρ dx ds μ d μ' r1 r2 R e k=>?_;unfold zkq at e
 split at e
 ·rename_i i
  obtain⟨kvs,e1,e⟩:=zi e;cases e;obtain⟨p,vs,rfl,hq,q1,q2⟩:=zuf R r1 e1;obtain⟨w,r,rfl,q3,q4⟩:=r2.cons_inv;rw[q4.nil_inv,q3.int_inv]at rs;obtain⟨u,rfl,ru⟩:=vals1 rs;cases rx;obtain⟨z,hd,us,rel,dd⟩:=zDh I.hok hq;refine call_meetsIn PySem.F.slot_dict_get dd.typeIs PySem.F.entry_dict_get (PySem.F.args_dict_get_2 _ _) (meets_dict_get (zYb X.prog X.w) p (z1q (k:=yD i) ru) hd) ⟨_,dd.mapOf,?_⟩;have rv:=rel.val (yD i)
  cases e3:zWc kvs i with
  |none=>
   rw[(zng i q1 q2).2 e3]at rv;rw[RelO.none_of rv];exact⟨.non,H,I.tok _,rfl,by have:=k ρ H .non Ext.refl R;rw[e3]at this;exact this .non⟩
  |some d'=>
   obtain⟨v',ev,r'⟩:=(zng i q1 q2).1 d' e3;rw[ev]at rv;obtain⟨u',eu,ru'⟩:=RelO.some_of rv;rw[eu];exact⟨v',H,I.tok _,ru',by have:=k ρ H v' Ext.refl R;rw[e3]at this;exact this r'⟩
 ·cases e
def zyv{o:Expr}{ψ:FA}{apos:xi}(ho:ME X o φ)(ha:MAn X (e::es) ψ)
 (hbase:Yn o "get" X.env (yY o X.env)=yY o X.env:=by rfl)
 (hfew:((Yh pos (yg (e::es) X.env)).all (fun x=>!x.1)&&(xA pos (YE [] X.env)).all (fun x=>x.1.isSome)
  && decide ((e::es).length+([]:List xr).length+(if([]:List xr).isEmpty then 0 else 1)<30))=true:=by rfl)
 (hline:(apos.endLine==pos.line)=true:=by rfl) (hs:yg (e::es) X.env=(false,yY e X.env)::yg es X.env:=by rfl) (hplain:(Yh pos (yg es X.env)).any (·.1)=false:=by rfl) :
 ME X (.Call (.Attribute o "get" apos) (e::es) [] pos) (zmj zkq φ ψ):=z3o PySem.F.slot_dict_get PySem.F.type_dict_get zpt ho ha hbase hfew hline hs hplain
def zvt(vs:List (Key×V))(k:Key):List (Key×V):=vs.filter fun p=>decide (p.1≠k)
def zUw(kvs:List (Int×D))(i:Int):List (Int×D):=kvs.filter fun p=>decide (p.1≠i)
def zSx{vs:List (Key×V)}{us:List (Key×Value)}(r:KV vs us)(k:Key):KV (zvt vs k) (without us k):=by
 unfold KV at r ⊢
 induction r with
 |nil=>exact .nil
 |@cons p q ps qs h t ih=>
  unfold zvt without at ih ⊢;rw[filter_cons,filter_cons,h.1]
  split
  ·exact .cons h ih
  ·exact ih
def zMs{K:yr}{ρ:List Addr}{H:Hp}:∀{kvs:List (Int×D)} {vs:List (Key×V)} (i:Int),vs.map (·.1)=kvs.map (fun p=>yD p.1)->RepVs K ρ H (kvs.map (·.2)) (vs.map (·.2)) ->
 (zvt vs (yD i)).map (·.1)=(zUw kvs i).map (fun p=>yD p.1)/\RepVs K ρ H ((zUw kvs i).map (·.2)) ((zvt vs (yD i)).map (·.2))
 |[],vs,i,h1,h2=>by
  have:vs=[]:=by simpa using h1
  subst this;exact⟨rfl, .nil⟩
 |(j,d)::kvs,[],i,h1,h2=>by simp at h1
 |(j,d)::kvs,(k,u)::vs,i,h1,h2=>by
  rw[map_cons,map_cons,YV]at h1;obtain⟨hk,h1⟩:=h1;have hk:k=yD j:=hk;subst hk;obtain⟨v',r',e',q1,q2⟩:=h2.cons_inv;rw[map_cons,YV]at e';obtain⟨e1,e2⟩:=e';subst e2;have e1:u=v':=e1;subst e1;obtain⟨i1,i2⟩:=zMs (K:=K) (ρ:=ρ) (H:=H) i h1 q2;unfold zvt zUw at i1 i2 ⊢
  by_cases hj:j=i
  ·subst hj;rw[List.filter_cons_of_neg (by simp),List.filter_cons_of_neg (by simp)];exact⟨i1,i2⟩
  ·rw[List.filter_cons_of_pos (by simp[hj]),List.filter_cons_of_pos (by simp[hj])];exact⟨by rw[map_cons,map_cons,i1], .cons q1 i2⟩
@[simp] def zcq:GM:=fun x ds μ=>match x,ds with
 |.loc n,[.int i]=>match μ[n]? with
  |some (.dct kvs)=>(zWc kvs i).bind fun d=>some (d,μ.set n (.dct (zUw kvs i)))
  |_=>none
 |_,_=>none
def zFt:MtG X "dict.pop" zcq:=by
 refine MtG.of fun pins s σ H x xs v us Q I rx rs ρ dx ds μ d μ' r1 r2 R e k=>?_;unfold zcq at e
 split at e
 ·rename_i n i
  split at e
  ·rename_i kvs hm
   obtain⟨d',e1,e⟩:=zi e;cases e;obtain⟨p,rfl,ea⟩:=r1.loc_inv;obtain⟨vs,hH,q1,q2⟩:=R.at_ _ _ _ ea hm;obtain⟨w,r,rfl,q3,q4⟩:=r2.cons_inv;rw[q4.nil_inv,q3.int_inv]at rs;obtain⟨u,rfl,ru⟩:=vals1 rs;cases rx;obtain⟨z,hd,us,rel,dd⟩:=zIw I.hok hH;obtain⟨v',ev,r'⟩:=(zng _ q1 q2).1 _ e1;have rv:=rel.val (yD i);rw[ev]at rv;obtain⟨u',eu,ru'⟩:=RelO.some_of rv;have hz:us.length<=yB:=by rw[<-rel.length];exact z
   have hmu:Mut (H p):=by rw[hH];trivial
   have hpart:(keyPart u).isSome=true:=by obtain⟨t,rfl⟩:=ru;rfl
   refine call_meetsIn PySem.F.slot_dict_pop dd.typeIs PySem.F.entry_dict_pop (PySem.F.args_dict_pop_2 _ _) (meets_dict_pop_there (zYb X.prog X.w) p (z1q (k:=yD i) ru) [] (.inl rfl) hpart) ⟨us,u',dd,hz,eu,fun h' dd' hs=>?_⟩;have hl':(zvt vs (yD i)).length<=yB:=yy (List.length_filter_le _ _) z;have I1:Inv X pins σ (upd H p (.dK (zvt vs (yD i)))) {s with heap:=h',toks:=s.toks+1 }:=I.write (x:=p) (e:=p) hmu (.inl rfl) (fun b q hb z=>(hs.2 b hb).trans z) (by obtain⟨q,_,_,hq,_⟩:=dd';exact⟨q,hq⟩) (show ObjOk X.prog X.w _ h' p (.dK (zvt vs (yD i))) from⟨hl',hd,_,zSx rel _,dd'⟩);obtain⟨p1,p2⟩:=zMs i q1 (q2.ext (Ext.wr (o := .dK (zvt vs (yD i))) hmu));exact⟨v',_,I1,ru',k ρ _ _ (Ext.wr hmu) (R.wr hmu ea ⟨_,zF,p1,p2⟩) (r'.ext (Ext.wr hmu))⟩
  ·cases e
 ·cases e
def zzv{o:Expr}{ψ:FA}{apos:xi}(ho:ME X o φ)(ha:MAn X (e::es) ψ)
 (hbase:Yn o "pop" X.env (yY o X.env)=yY o X.env:=by rfl)
 (hfew:((Yh pos (yg (e::es) X.env)).all (fun x=>!x.1)&&(xA pos (YE [] X.env)).all (fun x=>x.1.isSome)
  && decide ((e::es).length+([]:List xr).length+(if([]:List xr).isEmpty then 0 else 1)<30))=true:=by rfl)
 (hline:(apos.endLine==pos.line)=true:=by rfl) (hs:yg (e::es) X.env=(false,yY e X.env)::yg es X.env:=by rfl) (hplain:(Yh pos (yg es X.env)).any (·.1)=false:=by rfl) :
 ME X (.Call (.Attribute o "pop" apos) (e::es) [] pos) (zmj zcq φ ψ):=z3o PySem.F.slot_dict_pop PySem.F.type_dict_pop zFt ho ha hbase hfew hline hs hplain
end
structure MakeAt(K:yr)(mg:Str->Option Value)(c:Str)(st:Stmt)(ps:List Str)(C f:Addr)(fd:yf):Prop where
 nm:Yg K yj c=some (some (.ref C))
 mgc:mg c=some (.ref C)
 mkc:Mk K C f
 fn:Fun K "__init__" (c ++ ".__init__") st f fd
 bd:Binds K fd ps []
section
variable {X:Cx}{e:Expr}{es:List Expr}{ψ:FA}{pos p:xi}{c:Str}{C g:Addr}{fd:yf}{ps:List Str}{st:Stmt}{j k n:Nat}{F:FF}
def mmakeA(B:MakeAt X.K X.mg c st ps C g fd)(G:FnOk X.prog X.w X.K X.mg X.base CX0 j g fd ps (spM X.K n F))(hr:Room k X.A)(ha:MAn X (e::es) ψ)
 (hj:j+1<=k:=by decide) (hn:(e::es).length+1=n:=by rfl) (hg:Gl X c:=by rfl) (hdb:(c==("__debug__":Str))=false:=by decide) (he:yg (e::es) X.env=(false,yY e X.env)::yg es X.env:=by exact z8c rfl) (hpl:(Yh pos (yg es X.env)).any (·.1)=false:=by rfl) :
 ME X (.Call (.Name c p) (e::es) [] pos) (z2j c F ψ):=mmake B.mkc B.nm B.mgc B.bd G hr ha hj hn hg hdb he hpl
def FnAt.al{K:yr}{mg:Str->Option Value}{x y:Str}{f:Addr}(B:FnAt K mg x st ps f fd)(h:mg y=mg x):mg y=some (.ref f):=h.trans B.at_
end
@[simp] theorem zvz{i j:Int}(h1:-18446744073709551616<j)(h2:j<18446744073709551616):zRg i j=true:=by
 unfold zRg;rw[decide_eq_true (p:=-(2^64)<j/\j<2^64) ⟨by omega,by omega⟩];simp
@[simp] theorem zsv{i j:Int}(h1:-18446744073709551616<i)(h2:i<18446744073709551616):zRg i j=true:=by
 unfold zRg;rw[decide_eq_true (p:=-(2^64)<i/\i<2^64) ⟨by omega,by omega⟩];simp
def zcw{μ g:Mem}{n:Nat}(h:n<μ.length):(μ++g)[n]?=μ[n]?:=yt h
def zFc{μ g:Mem}{n:Nat}{o:LObj}(h:μ[n]?=some o):(μ++g)[n]?=some o:=by
 rw[zcw (List.getElem?_eq_some_iff.mp h).1];exact h
mutual
def zVl:∀p:xn,p.canLay0=true->yI p p=true
 |.none,_=>rfl
 |.bool b,_=>by simp[yI]
 |.int b,_=>by simp[yI]
 |.str b,_=>by simp[yI]
 |.list xs,h=>by
  unfold yI;exact eqvAll_refl xs (by simpa[PyData.canLay0] using h)
 |.tuple xs,h=>by
  unfold yI;exact eqvAll_refl xs (by simpa[PyData.canLay0] using h)
 |.dict _,h=>by simp[PyData.canLay0]at h
def eqvAll_refl:∀ps:List xn,Xe ps=true->xW ps ps=true
 |[],_=>rfl
 |p::ps,h=>by
  simp only[Xe,yG]at h;unfold xW;rw[zVl p h.1,eqvAll_refl ps h.2];rfl
end
def z9t{x y:D}{μ:Mem}{p:xn}(h1:toP μ 8 x=some p)(h2:toP μ 8 y=some p):gEq x y μ=some (.bl true,μ):=by
 unfold gEq;rw[h1,h2];simp[zVl p (zEh 8 x p h1).1]
def ztu{x y:D}{μ:Mem}{p:xn}(h1:toP μ 8 x=some p)(h2:toP μ 8 y=some p):gNe x y μ=some (.bl false,μ):=by
 unfold gNe;rw[h1,h2];simp[zVl p (zEh 8 x p h1).1]
def zgx{K:yr}{F:FF}{H:Hp}{a:Addr}{ns:List Int}(hF:∃μ',F [.fz (ns.map D.int)] []=some (.bl true,μ'))(hO:z0y H)(hS:SqL K H a (ns.map V.int)):spM K 1 F [.ref a] H (fun v _=>v = .bl true) fun _ _ _=>False:=by
 obtain⟨μ',e⟩:=hF
 have fz:FzL K H a (ns.map V.int):=by
  rcases hS with (h | ⟨o,h⟩) | h
  ·rcases hO a with z | ⟨o,xs,z⟩
   ·rw[h]at z;cases z
   ·rw[h]at z;cases z
  ·exact .inl ⟨o,h⟩
  ·exact .inr h
 have hints:∀ns:List Int,RepVs K [] H (ns.map D.int) (ns.map V.int):=fun ns=>by
  induction ns with
  |nil=>exact .nil
  |cons i r ih=>exact .cons .int ih
 exact⟨rfl,[],[.fz (ns.map D.int)],[], .bl true,μ', .cons (.fz fz (hints ns)) .nil,⟨List.nodup_nil,rfl,fun n a o h1 _=>by simp at h1⟩,e,fun ρ' H' v _ _ r=>r.bl_inv⟩
structure WE(φ:FE)(δ:Loc)(μ:Mem)(Q:D->Mem->Prop):Prop where
 ex:∃d μ',φ δ μ=some (d,μ')/\Q d μ'
structure WT(φ:FT)(δ:Loc)(μ:Mem)(Q:Bool->Mem->Prop):Prop where
 ex:∃d μ',φ δ μ=some (d,μ')/\Q d μ'
structure WA(φ:FA)(δ:Loc)(μ:Mem)(Q:List D->Mem->Prop):Prop where
 ex:∃d μ',φ δ μ=some (d,μ')/\Q d μ'
structure WO(φ:FO)(δ:Loc)(μ:Mem)(Q:Option Int->Mem->Prop):Prop where
 ex:∃d μ',φ δ μ=some (d,μ')/\Q d μ'
structure W2(g:G2)(x y:D)(μ:Mem)(Q:D->Mem->Prop):Prop where
 ex:∃d μ',g x y μ=some (d,μ')/\Q d μ'
structure WF(F:FF)(ds:List D)(μ:Mem)(Q:D->Mem->Prop):Prop where
 ex:∃d μ',F ds μ=some (d,μ')/\Q d μ'
structure WM(g:GM)(x:D)(ds:List D)(μ:Mem)(Q:D->Mem->Prop):Prop where
 ex:∃d μ',g x ds μ=some (d,μ')/\Q d μ'
structure WI(i:FI)(δ:Loc)(μ:Mem)(Q:List D->(Mem->Bool)->Mem->Prop):Prop where
 ex:∃ds ok μ',i δ μ=some (ds,ok,μ')/\Q ds ok μ'
structure WG(g:FG)(d:D)(δ:Loc)(μ:Mem)(Q:Loc->Mem->Prop):Prop where
 ex:∃δ' μ',g d δ μ=some (δ',μ')/\Q δ' μ'
structure WGs(g:FGs)(ds:List D)(δ:Loc)(μ:Mem)(Q:Loc->Mem->Prop):Prop where
 ex:∃δ' μ',g ds δ μ=some (δ',μ')/\Q δ' μ'
structure WL(g:FG)(c:FT)(φ:FE)(ok:Mem->Bool)(δ:Loc)(xs ys:List D)(μ:Mem)(Q:D->Mem->Prop):Prop where
 ex:∃d μ',zmt g c φ ok δ xs ys μ=some (d,μ')/\Q d μ'
def Ek(nx:Loc->Mem->Prop)(rt:D->Mem->Prop)(bk ct:Loc->Mem->Prop):Out->Prop
 |.next δ μ=>nx δ μ
 |.ret d μ=>rt d μ
 |.brk δ μ=>bk δ μ
 |.cont δ μ=>ct δ μ
 |.exc _ _ _=>False
structure WS(ψ:FS)(δ:Loc)(μ:Mem)(nx:Loc->Mem->Prop)(rt:D->Mem->Prop)(bk ct:Loc->Mem->Prop):Prop where
 ex:∃o,ψ δ μ=some o/\Ek nx rt bk ct o
structure WFor(g:FG)(body:FS)(ok:Mem->Bool)(xs:List D)(δ:Loc)(μ:Mem)(nx:Loc->Mem->Prop)(rt:D->Mem->Prop):Prop where
 ex:∃o,zai g body ok xs δ μ=some o/\Ek nx rt (fun _ _=>False) (fun _ _=>False) o
def Keep(μ μ':Mem):Prop:=∀(n:Nat)(o:LObj),μ[n]?=some o->μ'[n]?=some o
def Keep.refl{μ:Mem}:Keep μ μ:=fun _ _ h=>h
def Keep.trans{μ μ1 μ2:Mem}(a:Keep μ μ1)(b:Keep μ1 μ2):Keep μ μ2:=fun n o h=>b n o (a n o h)
def Keep.app{μ g:Mem}:Keep μ (μ++g):=fun _ _ h=>zFc h
def Keep.to{μ μ1 g:Mem}(a:Keep μ μ1):Keep μ (μ1++g):=a.trans .app
def Keep.len{μ μ':Mem}(a:Keep μ μ'):μ.length<=μ'.length:=by
 rcases Nat.lt_or_ge μ'.length μ.length with h | h
 ·have:=a μ'.length μ[μ'.length] (by simp[h]);simp at this
 ·exact h
def zC{μ:Mem}{o:LObj}:(μ++[o])[μ.length]?=some o:=by simp
def zG{μ:Mem}{n:Nat}{o:LObj}(h:μ[n]?=some o):n<μ.length:=(List.getElem?_eq_some_iff.mp h).1
def zS{μ:Mem}{n m:Nat}{o o':LObj}(h:μ[n]?=some o)(hne:m≠n):(μ.set m o')[n]?=some o:=by
 rw[yR hne];exact h
def zub{μ:Mem}{n:Nat}{o o':LObj}(h:μ[n]?=some o):(μ.set n o')[n]?=some o':=by
 rw[yU (zG h)]
def zE{μ:Mem}{n:Nat}{ds:List D}(h:μ[n]?=some (.lst ds)):items μ (.loc n)=some ds:=by simp[h]
section
variable {φ ψ χ:FE}{g g2:G2}{δ:Loc}{μ:Mem}{Q:D->Mem->Prop}{i j:Int}{d x y:D}{ds xs:List D}
def WE.mono{Q':D->Mem->Prop}(h:WE φ δ μ Q)(k:∀d μ',Q d μ'->Q' d μ'):WE φ δ μ Q':=let ⟨d,μ',e,q⟩:=h;⟨d,μ',e,k d μ' q⟩
def zd{n:Nat}(h:δ[n]?=some (some d))(q:Q d μ):WE (zm n) δ μ Q:=⟨d,μ,by simp[h],q⟩
def w_c(q:Q d μ):WE (fC d) δ μ Q:=⟨d,μ,rfl,q⟩
def zt(h:WE φ δ μ fun x μ1=>WE ψ δ μ1 fun y μ2=>W2 g x y μ2 Q):WE (zH g φ ψ) δ μ Q:=by
 obtain⟨x,μ1,e1,y,μ2,e2,d,μ3,e3,q⟩:=h;exact⟨d,μ3,by simp[e1,e2,e3],q⟩
def zzx(h:WE φ δ μ fun x μ1=>∃b,x = .bl b/\(b=true->WE ψ δ μ1 Q)/\(b=false->Q (.bl false) μ1)):WE (zWy φ ψ) δ μ Q:=by
 obtain⟨x,μ1,e1,b,rfl,h1,h2⟩:=h
 cases b with
 |true=>obtain⟨d,μ2,e2,q⟩:=h1 rfl;exact⟨d,μ2,by simp[e1,e2],q⟩
 |false=>exact⟨_,μ1,by simp[e1],h2 rfl⟩
def zAy(h:WE φ δ μ fun x μ1=>∃b,x = .bl b/\(b=false->WE ψ δ μ1 Q)/\(b=true->Q (.bl true) μ1)):WE (fOr φ ψ) δ μ Q:=by
 obtain⟨x,μ1,e1,b,rfl,h1,h2⟩:=h
 cases b with
 |false=>obtain⟨d,μ2,e2,q⟩:=h1 rfl;exact⟨d,μ2,by simp[e1,e2],q⟩
 |true=>exact⟨_,μ1,by simp[e1],h2 rfl⟩
def w_not(h:WE φ δ μ fun x μ1=>∃b,x = .bl b/\Q (.bl (!b)) μ1):WE (z1y φ) δ μ Q:=by
 obtain⟨x,μ1,e1,b,rfl,q⟩:=h;exact⟨_,μ1,by simp[e1],q⟩
def z4v(h:WE φ δ μ fun x μ1=>∃i,x = .int i/\Q (.int (-i)) μ1):WE (z2u φ) δ μ Q:=by
 obtain⟨x,μ1,e1,b,rfl,q⟩:=h;exact⟨_,μ1,by simp[e1],q⟩
def zPf{α:FA}(h:WA α δ μ fun ds μ1=>Q (.tup ds) μ1):WE (zNk α) δ μ Q:=by
 obtain⟨x,μ1,e1,q⟩:=h;exact⟨_,μ1,by simp[e1],q⟩
def zBh{α:FA}(h:WA α δ μ fun ds μ1=>Q (.loc μ1.length) (μ1++[.lst ds])):WE (zBk α) δ μ Q:=by
 obtain⟨x,μ1,e1,q⟩:=h;exact⟨_,_,by simp[e1]<;>rfl,q⟩
def zhy(h:Q (.loc μ.length) (μ++[.dct []])):WE zXy δ μ Q:=⟨_,_,rfl,h⟩
def zzy{R:Option Int->Mem->Prop}(q:R none μ):WO pNo δ μ R:=⟨_,_,rfl,q⟩
def zdv{R:Option Int->Mem->Prop}(h:WE φ δ μ fun x μ1=>∃i,x = .int i/\R (some i) μ1):WO (zmz φ) δ μ R:=by
 obtain⟨x,μ1,e1,i,rfl,q⟩:=h;exact⟨_,_,by simp[e1]<;>rfl,q⟩
def zA{F:FF}{α:FA}(h:WA α δ μ fun ds μ1=>WF F ds μ1 Q):WE (zB F α) δ μ Q:=by
 obtain⟨ds,μ1,e1,d,μ2,e2,q⟩:=h;exact⟨d,μ2,by simp[e1,e2],q⟩
def znk{m:GM}{α:FA}(h:WE φ δ μ fun x μ1=>∃n xs,x = .loc n/\μ1[n]?=some (.lst xs)/\WA α δ μ1 fun ds μ2=>WM m (.loc n) ds μ2 Q):WE (zAf m φ α) δ μ Q:=by
 obtain⟨x,μ1,e1,n,xs,rfl,e2,ds,μ2,e3,d,μ3,e4,q⟩:=h;exact⟨d,μ3,by simp[e1,e2,e3,e4],q⟩
def zMq{n:Nat}{fr:List Nat}{it:FI}{tg:FG}{c:FT}(h:WI it δ μ fun ds ok μ1=>few ds=true/\WL tg c φ ok (δC n fr δ) ds [] μ1 Q):WE (fLC n fr it tg c φ) δ μ Q:=by
 obtain⟨ds,ok,μ1,e1,hf,d,μ2,e2,q⟩:=h;exact⟨d,μ2,by unfold fLC;simp only[e1,ym,hf,cond_true];exact e2,q⟩
def zgv(h:WE φ δ μ fun x μ1=>∃n ns,x = .loc n/\μ1[n]?=some (.lst (ns.map .int))/\ns.length<=4000/\(uqL ns).length<64/\Q (.loc μ1.length) (μ1++[.lst ((zAu ns).map .int)])):WE (zNq φ) δ μ Q:=by
 obtain⟨x,μ1,e1,n,ns,rfl,e2,h1,h2,q⟩:=h;exact⟨_,_,by simp[zNq,e1,e2,h1,h2]<;>rfl,q⟩
def zQ{R:Bool->Mem->Prop}(h:WE φ δ μ fun x μ1=>∃b,x = .bl b/\R b μ1):WT (z5 φ) δ μ R:=by
 obtain⟨x,μ1,e1,b,rfl,q⟩:=h;exact⟨_,_,by simp[e1]<;>rfl,q⟩
def zUu{c e:FT}{R:Bool->Mem->Prop}(h:WT c δ μ fun b μ1=>(b=true->WT e δ μ1 R)/\(b=false->R false μ1)):WT (zJu c e) δ μ R:=by
 obtain⟨b,μ1,e1,h1,h2⟩:=h
 cases b with
 |true=>obtain⟨d,μ2,e2,q⟩:=h1 rfl;exact⟨d,μ2,by simp[e1,e2],q⟩
 |false=>exact⟨_,μ1,by simp[e1],h2 rfl⟩
def zdq{c e:FT}{R:Bool->Mem->Prop}(h:WT c δ μ fun b μ1=>(b=false->WT e δ μ1 R)/\(b=true->R true μ1)):WT (zov c e) δ μ R:=by
 obtain⟨b,μ1,e1,h1,h2⟩:=h
 cases b with
 |false=>obtain⟨d,μ2,e2,q⟩:=h1 rfl;exact⟨d,μ2,by simp[e1,e2],q⟩
 |true=>exact⟨_,μ1,by simp[e1],h2 rfl⟩
def zfp{c:FT}{R:Bool->Mem->Prop}(h:WT c δ μ fun b μ1=>R (!b) μ1):WT (zAq c) δ μ R:=by
 obtain⟨b,μ1,e1,q⟩:=h;exact⟨_,_,by simp[e1]<;>rfl,q⟩
def zzt{R:Bool->Mem->Prop}(q:R true μ):WT zgk δ μ R:=⟨_,_,rfl,q⟩
def zx{R:List D->Mem->Prop}(q:R [] μ):WA zJ δ μ R:=⟨_,_,rfl,q⟩
def ze{α:FA}{R:List D->Mem->Prop}(h:WE φ δ μ fun x μ1=>WA α δ μ1 fun xs μ2=>R (x::xs) μ2):WA (zf φ α) δ μ R:=by
 obtain⟨x,μ1,e1,xs,μ2,e2,q⟩:=h;exact⟨_,_,by simp[e1,e2]<;>rfl,q⟩
def zQh(q:Q (.int (i+j)) μ):W2 zGh (.int i) (.int j) μ Q:=⟨_,_,rfl,q⟩
def zkv{l m:Nat}{as bs:List D}(h1:μ[l]?=some (.lst as))(h2:μ[m]?=some (.lst bs))(h:as.length+bs.length<=1000000)(q:Q (.loc μ.length) (μ++[.lst (as++bs)])):W2 zGh (.loc l) (.loc m) μ Q:=⟨_,_,by simp[h1,h2,h]<;>rfl,q⟩
def zKr(q:Q (.int (i-j)) μ):W2 zlq (.int i) (.int j) μ Q:=⟨_,_,rfl,q⟩
def zCm(h:zRg i j=true)(q:Q (.int (i*j)) μ):W2 zYi (.int i) (.int j) μ Q:=⟨_,_,by simp[zYi,h]<;>rfl,q⟩
def zQk(h:0<j)(q:Q (.int (i%j)) μ):W2 znn (.int i) (.int j) μ Q:=⟨_,_,by simp[h]<;>rfl,q⟩
def zCt(h:0<j)(h':j<1606938044258990275541962092341162602522202993782792835301376)(q:Q (.int (i / j)) μ):W2 zHv (.int i) (.int j) μ Q:=⟨_,_,by simp[h,h']<;>rfl,q⟩
def zpz(h:0<=j)(h1:j<=100000)(h2:i.natAbs<1606938044258990275541962092341162602522202993782792835301376)(q:Q (.int (i^j.toNat)) μ):W2 zUz (.int i) (.int j) μ Q:=⟨_,_,by simp only[zUz];rw[decide_eq_true ⟨h,h1,h2⟩];rfl,q⟩
def zQm{r:Int->Int->Bool}(q:Q (.bl (r i j)) μ):W2 (zxo r) (.int i) (.int j) μ Q:=⟨_,_,rfl,q⟩
def z5b(h:items μ x=some xs)(h2:atI xs i=some d)(q:Q d μ):W2 gIx x (.int i) μ Q:=⟨_,_,by show((items μ x).bind fun ds=>(atI ds i).bind fun d=>some (d,μ))=_;rw[h,ym,h2,ym],q⟩
def zPi(q:Q (.bl (i==j)) μ):W2 gEq (.int i) (.int j) μ Q:=⟨_,_,by simp[gEq,toP,yI]<;>rfl,q⟩
def zHz(q:Q (.bl (!(i==j))) μ):W2 gNe (.int i) (.int j) μ Q:=⟨_,_,by simp[gNe,toP,yI]<;>rfl,q⟩
def zaz{p:xn}(h1:toP μ 8 x=some p)(h2:toP μ 8 y=some p)(q:Q (.bl true) μ):W2 gEq x y μ Q:=⟨_,_,z9t h1 h2,q⟩
def zKx{p:xn}(h1:toP μ 8 x=some p)(h2:toP μ 8 y=some p)(q:Q (.bl false) μ):W2 gNe x y μ Q:=⟨_,_,ztu h1 h2,q⟩
def zVy{p p':xn}(h1:toP μ 8 x=some p)(h2:toP μ 8 y=some p')(q:Q (.bl (yI p p')) μ):W2 gEq x y μ Q:=⟨_,_,by simp[gEq,h1,h2]<;>rfl,q⟩
def z4y{a b:Bool}(q:Q (.bl (a==b)) μ):W2 gIs (.bl a) (.bl b) μ Q:=⟨_,_,rfl,q⟩
def zOt{a b:Bool}(q:Q (.bl (a != b)) μ):W2 zqg (.bl a) (.bl b) μ Q:=⟨_,_,rfl,q⟩
def zNr(h:items μ y=some xs)(h1:zPd x=true)(h2:xs.all zPd=true)(q:Q (.bl (!xs.any fun d=>eqF d x)) μ):W2 zkj x y μ Q:=⟨_,_,by simp only[zkj,h,ym,h1,h2,Bool.and_self,cond_true],q⟩
def zIh(h:items μ x=some xs)(q:Q (.int xs.length) μ):WF zMm [x] μ Q:=⟨_,_,by show((items μ x).bind fun xs=>some (D.int xs.length,μ))=_;rw[h,ym],q⟩
def zcp(h:items μ x=some xs)(q:Q (.loc μ.length) (μ++[.lst xs])):WF zso [x] μ Q:=⟨_,_,by show((items μ x).bind fun xs=>some (D.loc μ.length,μ++[LObj.lst xs]))=_;rw[h,ym],q⟩
def zKj(h:items μ x=some xs)(q:Q (.tup xs) μ):WF zFg [x] μ Q:=by
 refine⟨_,_,?_,q⟩;cases x<;>first | (cases h;rfl) | (simp only[zFg,h];rfl)
def zko{c t:Ty}(h:z4w μ x=some t)(q:Q (.bl (z2w t c)) μ):WF (zOs c) [x, .ty c.name] μ Q:=⟨_,_,by simp only[zOs,beq_self_eq_true,cond_true,h,ym],q⟩
def zhz{n:Nat}{ns:List Int}(h:μ[n]?=some (.lst (ns.map .int)))(q:Q (.int ns.sum) μ):WF z4x [.loc n] μ Q:=⟨_,_,by simp[h]<;>rfl,q⟩
def zfj{n:Nat}(h:μ[n]?=some (.lst xs))(hl:xs.length<=1000000)(q:Q .non (μ.set n (.lst (xs++[d])))):WM zod (.loc n) [d] μ Q:=⟨_,_,by simp[h,hl]<;>rfl,q⟩
def zby{n:Nat}(h:μ[n]?=some (.lst xs))(hl:xs.length+ds.length<=1000000)(q:Q .non (μ.set n (.lst (xs++ds)))):WM zCv (.loc n) [.tup ds] μ Q:=⟨_,_,by simp[h,hl]<;>rfl,q⟩
def zRb{F:FF}{N:List Str}{p:FS}(hF:F=fun ds μ=>z0b (p (zR N ds) μ))(h:WS p (zR N ds) μ (fun _ μ'=>Q .non μ') Q (fun _ _=>False) fun _ _=>False):WF F ds μ Q:=by
 subst hF;obtain⟨o,e,k⟩:=h
 cases o with
 |next δ' μ'=>exact⟨_,_,by rw[e];rfl,k⟩
 |ret d μ'=>exact⟨_,_,by rw[e];rfl,k⟩
 |brk _ _=>exact k.elim
 |cont _ _=>exact k.elim
 |exc _ _ _=>exact k.elim
def zHj{α:FA}{R:List D->(Mem->Bool)->Mem->Prop}(h:WA α δ μ fun ds μ1=>∃j:Int,ds=[.int j]/\-(2^62)<=j/\j<2^62/\R ((yA j.toNat).map fun(k:Nat) => .int k) yes μ1):WI (zBg α) δ μ R:=by
 obtain⟨ds,μ1,e1,j,rfl,h1,h2,q⟩:=h;refine⟨_,_,_,?_,q⟩;unfold zBg;simp only[e1,ym];rw[decide_eq_true ⟨h1,h2⟩];rfl
def zBf{R:List D->(Mem->Bool)->Mem->Prop}(h:WE φ δ μ fun x μ1=>(∃ds,x = .tup ds/\R ds yes μ1)\/(∃ds,x = .fz ds/\R ds yes μ1)\/∃n ds,x = .loc n/\μ1[n]?=some (.lst ds)/\R ds (zOn n ds) μ1):WI (zLg φ) δ μ R:=by
 obtain⟨x,μ1,e1,⟨ds,rfl,q⟩ | ⟨ds,rfl,q⟩ | ⟨n,ds,rfl,e2,q⟩⟩:=h
 ·exact⟨_,_,_,by simp[e1]<;>rfl,q⟩
 ·exact⟨_,_,_,by simp[e1]<;>rfl,q⟩
 ·exact⟨_,_,_,by simp[e1,e2]<;>rfl,q⟩
def zdf{n:Nat}{R:Loc->Mem->Prop}(q:R (δ.set n (some d)) μ):WG (gN n) d δ μ R:=⟨_,_,rfl,q⟩
def z7z{n:Nat}{gs:FGs}{R:Loc->Mem->Prop}(hl:ds.length=n)(h:WGs gs ds δ μ R):WG (gT n gs) (.tup ds) δ μ R:=by
 obtain⟨δ',μ',e,q⟩:=h;exact⟨δ',μ',by simp[hl,e],q⟩
def zvn{gs:FGs}{R:Loc->Mem->Prop}{a b:D}(h:WGs gs [a,b] δ μ R):WG (gT 2 gs) (.tup [a,b]) δ μ R:=z7z rfl h
def zMz{gs:FGs}{R:Loc->Mem->Prop}{a b c:D}(h:WGs gs [a,b,c] δ μ R):WG (gT 3 gs) (.tup [a,b,c]) δ μ R:=z7z rfl h
def zUl{R:Loc->Mem->Prop}(q:R δ μ):WGs zSg [] δ μ R:=⟨_,_,rfl,q⟩
def zZe{t:FG}{gs:FGs}{R:Loc->Mem->Prop}(h:WG t d δ μ fun δ1 μ1=>WGs gs ds δ1 μ1 R):WGs (zQb t gs) (d::ds) δ μ R:=by
 obtain⟨δ1,μ1,e1,δ2,μ2,e2,q⟩:=h;exact⟨δ2,μ2,by simp[e1,e2],q⟩
end
section
variable {φ ψ:FE}{δ:Loc}{μ:Mem}{nx:Loc->Mem->Prop}{rt:D->Mem->Prop}{bk ct:Loc->Mem->Prop}{p q:FS}
def zwb(h:nx δ μ):WS zZb δ μ nx rt bk ct:=⟨.next δ μ,rfl,h⟩
def zD(h:WS p δ μ (fun δ' μ'=>WS q δ' μ' nx rt bk ct) rt bk ct):WS (zY p q) δ μ nx rt bk ct:=by
 obtain⟨o,e,k⟩:=h
 cases o with
 |next δ' μ'=>obtain⟨o2,e2,k2⟩:=k;exact⟨o2,by simp[e,e2],k2⟩
 |ret d μ'=>exact⟨.ret d μ',by simp only[zY,e],k⟩
 |brk d μ'=>exact⟨.brk d μ',by simp only[zY,e],k⟩
 |cont d μ'=>exact⟨.cont d μ',by simp only[zY,e],k⟩
 |exc _ _ _=>exact k.elim
def zhb{n:Nat}(h:WE φ δ μ fun d μ'=>nx (δ.set n (some d)) μ'):WS (zyc n φ) δ μ nx rt bk ct:=by
 obtain⟨d,μ',e,k⟩:=h;exact⟨.next _ _,by simp only[zyc,e,ym],k⟩
def zOh{g:FG}(h:WE φ δ μ fun d μ1=>WG g d δ μ1 nx):WS (zfo φ g) δ μ nx rt bk ct:=by
 obtain⟨d,μ1,e,δ',μ2,e2,k⟩:=h;exact⟨.next _ _,by simp only[zfo,e,ym,e2],k⟩
def zHf(h:WE φ δ μ fun _ μ'=>nx δ μ'):WS (zLd φ) δ μ nx rt bk ct:=by
 obtain⟨d,μ',e,k⟩:=h;exact⟨.next _ _,by simp only[zLd,e,ym],k⟩
def zzb(h:WE φ δ μ rt):WS (zCc φ) δ μ nx rt bk ct:=by
 obtain⟨d,μ',e,k⟩:=h;exact⟨.ret _ _,by simp only[zCc,e,ym],k⟩
def zCg{c:FT}(h:WT c δ μ fun b μ1=>(b=true->WS p δ μ1 nx rt bk ct)/\(b=false->WS q δ μ1 nx rt bk ct)):WS (sIf c p q) δ μ nx rt bk ct:=by
 obtain⟨b,μ1,e,h1,h2⟩:=h
 cases b with
 |true=>obtain⟨o,e2,k⟩:=h1 rfl;exact⟨o,by simp[e,e2],k⟩
 |false=>obtain⟨o,e2,k⟩:=h2 rfl;exact⟨o,by simp[e,e2],k⟩
def zmi{it:FI}{g:FG}{body:FS}(h:WI it δ μ fun ds ok μ1=>WFor g body ok ds δ μ1 nx rt):WS (z8l it g body) δ μ nx rt bk ct:=by
 obtain⟨ds,ok,μ1,e,o,e2,k⟩:=h;refine⟨o,by simp only[z8l,e,ym];exact e2,?_⟩
 cases o with
 |next _ _=>exact k
 |ret _ _=>exact k
 |brk _ _=>exact k.elim
 |cont _ _=>exact k.elim
 |exc _ _ _=>exact k.elim
def zAs{g:FG}{body:FS}{ok:Mem->Bool}{nx:Loc->Mem->Prop}{rt:D->Mem->Prop}(I:Nat->Loc->Mem->Prop):∀{xs:List D} {n:Nat} {δ:Loc} {μ:Mem},I n δ μ->(∀m δ μ,I m δ μ->ok μ=true) ->
 (∀(m:Nat)(x:D)(δ:Loc)(μ:Mem),xs[m]?=some x->I (n+m) δ μ->WG g x δ μ fun δ1 μ1=>WS body δ1 μ1 (I (n+m+1)) rt nx (I (n+m+1)))->(∀δ μ,I (n+xs.length) δ μ->nx δ μ)->WFor g body ok xs δ μ nx rt
 |[],n,δ,μ,h0,hok,_,hend=>⟨.next δ μ,by simp only[zai,hok _ _ _ h0,cond_true],hend δ μ h0⟩
 |x::xs,n,δ,μ,h0,hok,hs,hend=>by
  obtain⟨δ1,μ1,e1,o,e2,k⟩:=hs 0 x δ μ rfl h0
  cases o with
  |next δ2 μ2=>
   obtain⟨o3,e3,k3⟩:=zAs I (xs:=xs) (n:=n+1) (δ:=δ2) (μ:=μ2) k hok (fun m y δ μ hy hI=>by
    have:=hs (m+1) y δ μ (by simpa using hy) (by rw[show n+(m+1)=n+1+m by omega];exact hI);rw[show n+(m+1)=n+1+m by omega]at this;exact this) (fun δ μ hI=>hend δ μ (by rw[length_cons,show n+(xs.length+1)=n+1+xs.length by omega];exact hI))
   exact⟨o3,by simp only[zai,hok _ _ _ h0,cond_true,e1,ym,e2];exact e3,k3⟩
  |cont δ2 μ2=>
   obtain⟨o3,e3,k3⟩:=zAs I (xs:=xs) (n:=n+1) (δ:=δ2) (μ:=μ2) k hok (fun m y δ μ hy hI=>by
    have:=hs (m+1) y δ μ (by simpa using hy) (by rw[show n+(m+1)=n+1+m by omega];exact hI);rw[show n+(m+1)=n+1+m by omega]at this;exact this) (fun δ μ hI=>hend δ μ (by rw[length_cons,show n+(xs.length+1)=n+1+xs.length by omega];exact hI))
   exact⟨o3,by simp only[zai,hok _ _ _ h0,cond_true,e1,ym,e2];exact e3,k3⟩
  |brk δ2 μ2=>exact⟨.next δ2 μ2,by simp only[zai,hok _ _ _ h0,cond_true,e1,ym,e2],k⟩
  |ret d μ2=>exact⟨.ret d μ2,by simp only[zai,hok _ _ _ h0,cond_true,e1,ym,e2],k⟩
  |exc _ _ _=>exact k.elim
end
def zZu{g:FG}{c:FT}{φ:FE}{ok:Mem->Bool}{δ:Loc}{Q:D->Mem->Prop}(I:Nat->List D->Mem->Prop):∀{xs ys:List D} {n:Nat} {μ:Mem},I n ys μ->(∀m ys μ,I m ys μ->ok μ=true) ->
 (∀(m:Nat)(x:D)(ys:List D)(μ:Mem),xs[m]?=some x->I (n+m) ys μ->WG g x δ μ fun δ1 μ1=>WT c δ1 μ1 fun b μ2=>(b=true->WE φ δ1 μ2 fun d μ3=>I (n+m+1) (ys++[d]) μ3)/\(b=false->I (n+m+1) ys μ2)) ->
 (∀ys μ,I (n+xs.length) ys μ->Q (.loc μ.length) (μ++[.lst ys]))->WL g c φ ok δ xs ys μ Q
 |[],ys,n,μ,h0,hok,_,hend=>⟨_,_,by simp only[zmt,hok _ _ _ h0,cond_true],hend ys μ h0⟩
 |x::xs,ys,n,μ,h0,hok,hs,hend=>by
  obtain⟨δ1,μ1,e1,b,μ2,e2,ht,hf⟩:=hs 0 x ys μ rfl h0
  have step:∀ys2 μ3,I (n+1) ys2 μ3->WL g c φ ok δ xs ys2 μ3 Q:=fun ys2 μ3 h=>zZu I (n:=n+1) h hok (fun m y ys μ hy hI=>by
   have:=hs (m+1) y ys μ (by simpa using hy) (by rw[show n+(m+1)=n+1+m by omega];exact hI);rw[show n+(m+1)=n+1+m by omega]at this;exact this) (fun ys μ hI=>hend ys μ (by rw[length_cons,show n+(xs.length+1)=n+1+xs.length by omega];exact hI))
  cases b with
  |true=>
   obtain⟨d,μ3,e3,h3⟩:=ht rfl;obtain⟨d',μ4,e4,q⟩:=step _ _ h3;exact⟨d',μ4,by simp only[zmt,hok _ _ _ h0,cond_true,e1,ym,e2,e3];exact e4,q⟩
  |false=>
   obtain⟨d',μ4,e4,q⟩:=step _ _ (hf rfl);exact⟨d',μ4,by simp only[zmt,hok _ _ _ h0,cond_true,e1,ym,e2,cond_false];exact e4,q⟩
def z7c{g:FG}{body:FS}{ok:Mem->Bool}{nx:Loc->Mem->Prop}{rt:D->Mem->Prop}{xs:List D}{δ:Loc}{μ:Mem}(I:Nat->Loc->Mem->Prop)(h0:I 0 δ μ)(hok:∀m δ μ,I m δ μ->ok μ=true)
 (hs:∀(m:Nat)(x:D)(δ:Loc)(μ:Mem),xs[m]?=some x->I m δ μ->WG g x δ μ fun δ1 μ1=>WS body δ1 μ1 (I (m+1)) rt nx (I (m+1))) (hend:∀δ μ,I xs.length δ μ->nx δ μ):WFor g body ok xs δ μ nx rt :=
 zAs I (n:=0) h0 hok (fun m x δ μ hx h=>by
  rw[Nat.zero_add]at h ⊢;exact hs m x δ μ hx h) (fun δ μ h=>hend δ μ (by rw[Nat.zero_add]at h;exact h))
def zum{g:FG}{c:FT}{φ:FE}{ok:Mem->Bool}{δ:Loc}{Q:D->Mem->Prop}{xs:List D}{μ:Mem}(I:Nat->List D->Mem->Prop)(h0:I 0 [] μ)(hok:∀m ys μ,I m ys μ->ok μ=true)
 (hs:∀(m:Nat)(x:D)(ys:List D)(μ:Mem),xs[m]?=some x->I m ys μ->WG g x δ μ fun δ1 μ1=>WT c δ1 μ1 fun b μ2=>(b=true->WE φ δ1 μ2 fun d μ3=>I (m+1) (ys++[d]) μ3)/\(b=false->I (m+1) ys μ2))
 (hend:∀ys μ,I xs.length ys μ->Q (.loc μ.length) (μ++[.lst ys])):WL g c φ ok δ xs [] μ Q :=
 zZu I (n:=0) h0 hok (fun m x ys μ hx h=>by
  rw[Nat.zero_add]at h ⊢;exact hs m x ys μ hx h) (fun ys μ h=>hend ys μ (by rw[Nat.zero_add]at h;exact h))
def z8i{j m:Nat}{x:D}(h:((yA j).map fun(k:Nat)=>D.int k)[m]?=some x):m<j/\x = .int m:=by
 have h1:=(List.getElem?_eq_some_iff.mp h).1;simp at h1;refine⟨h1,?_⟩;simp[h1]at h;exact h.symm
def zjk{α:Type}{g:FG}{c:FT}{φ:FE}{ok:Mem->Bool}{δ:Loc}{Q:D->Mem->Prop}{μ:Mem}(e:α->D)(l:List α)(f:α->D)(p:α->Bool)(hok:∀μ',Keep μ μ'->ok μ'=true)
 (hs:∀x∈l,∀μ',Keep μ μ'->WG g (e x) δ μ' fun δ1 μ1=>WT c δ1 μ1 fun b μ2=>b=p x/\Keep μ μ2/\(b=true->WE φ δ1 μ2 fun d μ3=>d=f x/\Keep μ μ3))
 (hq:∀μ',Keep μ μ'->Q (.loc μ'.length) (μ'++[.lst ((l.filter p).map f)])):WL g c φ ok δ (l.map e) [] μ Q:=by
 refine zum (fun m ys μ'=>Keep μ μ'/\ys=((l.take m).filter p).map f) ⟨.refl,by simp⟩ (fun m ys μ' h=>hok μ' h.1) (fun m x ys μ' hx h=>?_) (fun ys μ' h=>?_)
 ·rw[yn]at hx
  cases hy:l[m]? with
  |none=>rw[hy]at hx;cases hx
  |some y=>
   rw[hy]at hx;cases hx;obtain⟨δ1,μ1,e1,b,μ2,e2,hb,k2,h3⟩:=hs y (mem_of_getElem? hy) μ' h.1
   have ht:l.take (m+1)=l.take m++[y]:=by
    rw[take_succ,hy];rfl
   refine⟨δ1,μ1,e1,b,μ2,e2,fun hb1=>?_,fun hb1=>⟨k2,?_⟩⟩
   ·obtain⟨d,μ3,e3,rfl,k3⟩:=h3 hb1;refine⟨_,_,e3,k3,?_⟩;rw[ht,List.filter_append,map_append,<-h.2,List.filter_cons_of_pos (by rw[<-hb,hb1])];rfl
   ·rw[ht,List.filter_append,map_append,<-h.2,List.filter_cons_of_neg (by rw[<-hb,hb1];exact yx)];simp
 ·rw[length_map,take_length]at h;rw[h.2];exact hq μ' h.1
def zCf{α:Type}{g:FG}{φ:FE}{ok:Mem->Bool}{δ:Loc}{Q:D->Mem->Prop}{μ:Mem}(e:α->D)(l:List α)(f:α->D)(hok:∀μ',Keep μ μ'->ok μ'=true)
 (hs:∀x∈l,∀μ',Keep μ μ'->WG g (e x) δ μ' fun δ1 μ1=>WE φ δ1 μ1 fun d μ3=>d=f x/\Keep μ μ3/\Keep μ μ1)
 (hq:∀μ',Keep μ μ'->Q (.loc μ'.length) (μ'++[.lst (l.map f)])):WL g zgk φ ok δ (l.map e) [] μ Q :=
 zjk e l f (fun _=>true) hok (fun x hx μ' k=>by
  obtain⟨δ1,μ1,e1,d,μ3,e3,h1,h2,h3⟩:=hs x hx μ' k;exact⟨δ1,μ1,e1,true,μ1,rfl,rfl,h3,fun _=>⟨d,μ3,e3,h1,h2⟩⟩) (fun μ' k=>by rw[List.filter_eq_self.mpr (fun _ _=>rfl)];exact hq μ' k)
def z3c{ds:List D}(h:ds.length<=1000000):few ds=true:=decide_eq_true h
def zob{n:Nat}{ds:List D}{μ μ':Mem}(h:μ[n]?=some (.lst ds))(k:Keep μ μ'):zOn n ds μ'=true:=stays_iff.mpr (k n _ h)
def zwv{ns:List Int}{k:Int}:k∈uqL ns↔k∈ns:=by
 unfold uqL;rw[zgr,List.mem_iff_getElem];constructor
 ·rintro⟨j,hj,h⟩;exact⟨j,hj,by simpa[hj] using h⟩
 ·rintro⟨j,hj,h⟩;exact⟨j,hj,by simpa[hj] using h⟩
def zcm{ns l:List Int}(h1:∀k,k∈l↔k∈ns)(h2:l.Pairwise (· < ·)):(uqL ns).Perm l:=by
 refine(List.perm_ext_iff_of_nodup (zTn _ _) (h2.imp fun h=>Int.ne_of_lt h)).mpr fun k=>?_;rw[h1];exact zwv
def zAp{ns l:List Int}(h1:∀k,k∈l↔k∈ns)(h2:l.Pairwise (· < ·)):zAu ns=l :=
 zad ((mergeSort_perm _ _).trans (zcm h1 h2)) (z9h _) (h2.imp fun h=>Int.le_of_lt h)
end M
namespace M
open PySem PySem.Spec PyProof.Rows L2
structure KB(L:List Nat)(μ μ':Mem):Prop where
 len:μ.length<=μ'.length
 at_:∀(n:Nat)(o:LObj),n∉L->μ[n]?=some o->μ'[n]?=some o
section
variable {L:List Nat}{μ μ1 μ2 μ':Mem}{n:Nat}{o:LObj}
def KB.refl:KB L μ μ:=⟨yh _,fun _ _ _ h=>h⟩
def KB.trans(a:KB L μ μ1)(b:KB L μ1 μ2):KB L μ μ2:=⟨yy a.len b.len,fun n o h e=>b.at_ n o h (a.at_ n o h e)⟩
def KB.app{g:Mem}(a:KB L μ μ1):KB L μ (μ1++g):=⟨by simp;have:=a.len;omega,fun n o h e=>zFc (a.at_ n o h e)⟩
def KB.set{m:Nat}(a:KB L μ μ1)(h:m∈L\/μ.length<=m):KB L μ (μ1.set m o):=⟨by simp;exact a.len,fun n o' hn e=>by
 rw[yR]
 ·exact a.at_ n o' hn e
 ·rintro rfl;rcases h with h | h
  ·exact hn h
  ·exact absurd (zG e) (by omega)⟩
def KB.of_keep(a:Keep μ μ'):KB L μ μ':=⟨a.len,fun n o _ e=>a n o e⟩
def KB.sub{L':List Nat}(a:KB L μ μ')(h:∀n∈L,n∈L'\/μ.length<=n):KB L' μ μ':=⟨a.len,fun n o hn e=>a.at_ n o (fun q=>by
 rcases h n q with h | h
 ·exact hn h
 ·exact absurd (zG e) (by omega)) e⟩
end
section
variable {φ ψ χ:FE}{g g2:G2}{δ:Loc}{μ:Mem}{Q:D->Mem->Prop}{i j:Int}{d x y:D}{ds xs:List D}
def zJp(h:WE φ δ μ fun x μ1=>∃j:Int,x = .int j/\(-(2^62)<=j/\j<=1000000)/\Q (.loc μ1.length) (μ1++[.lst ((yA j.toNat).map fun(k:Nat) => .int k)])):WE (zzm φ) δ μ Q:=by
 obtain⟨x,μ1,e1,j,rfl,h1,q⟩:=h;exact⟨_,_,by simp only[zzm,e1,ym];rw[decide_eq_true h1];rfl,q⟩
def zty(q:Q (.int i) μ):WF z2z [.int i] μ Q:=⟨_,_,rfl,q⟩
def zPx{b:Bool}(q:Q (.int (if b then 1 else 0)) μ):WF z2z [.bl b] μ Q:=⟨_,_,rfl,q⟩
def zlx(q:Q (.int (if j<i then j else i)) μ):WF zkz [.int i, .int j] μ Q:=⟨_,_,rfl,q⟩
def z2x(q:Q (.int (if j>i then j else i)) μ):WF zcz [.int i, .int j] μ Q:=⟨_,_,rfl,q⟩
def zRz{c:FT}(h:WT c δ μ fun b μ1=>(b=true->WE φ δ μ1 Q)/\(b=false->WE ψ δ μ1 Q)):WE (fIf c φ ψ) δ μ Q:=by
 obtain⟨b,μ1,e,h1,h2⟩:=h
 cases b with
 |true=>obtain⟨d,μ2,e2,k⟩:=h1 rfl;exact⟨d,μ2,by simp[e,e2],k⟩
 |false=>obtain⟨d,μ2,e2,k⟩:=h2 rfl;exact⟨d,μ2,by simp[e,e2],k⟩
def zZx{l:Nat}{n:Int}(h:μ[l]?=some (.lst xs))(h1:n<=1000)(h2:-(2^62)<=n)(h3:xs.length<=1000)(q:Q (.loc μ.length) (μ++[.lst (yz n.toNat xs).flatten])):W2 zYi (.loc l) (.int n) μ Q :=
 ⟨_,_,by simp only[zYi,h];rw[decide_eq_true ⟨h1,h2,h3⟩];rfl,q⟩
def znz{lo hi:FO}(h:WE φ δ μ fun x μ1=>WO lo δ μ1 fun l μ2=>WO hi δ μ2 fun u μ3=>∃n ds,x = .loc n/\μ3[n]?=some (.lst ds)/\Q (.loc μ3.length) (μ3++[.lst (cutD ds l u)])):WE (fSl φ lo hi) δ μ Q:=by
 obtain⟨x,μ1,e1,l,μ2,e2,u,μ3,e3,n,ds,rfl,e4,q⟩:=h;exact⟨_,_,by simp[e1,e2,e3,e4]<;>rfl,q⟩
def zOu{R:Loc->Mem->Prop}(h:WE φ δ μ fun x μ1=>WE ψ δ μ1 fun y μ2=>∃(n:Nat)(i:Int)(zs:List D),x = .loc n/\y = .int i/\μ2[n]?=some (.lst zs)/\(0<=i/\i<zs.length)/\R δ (μ2.set n (.lst (zs.set i.toNat d)))):WG (gAt φ ψ) d δ μ R:=by
 obtain⟨x,μ1,e1,y,μ2,e2,n,i,zs,rfl,rfl,e3,hi,q⟩:=h;have e4:ixN zs.length i=some i.toNat:=by unfold ixN;rw[if_pos hi.1,if_pos hi.2]
 exact⟨_,_,by simp[e1,e2,e3,e4]<;>rfl,q⟩
end
abbrev nat(S:List Nat):List D:=S.map fun(k:Nat)=>D.int k
def z7f(a b:List Nat):nat (a++b)=nat a++nat b:=map_append
def zbi{α:Type}(f:α->Nat)(l:List α):nat (l.map f)=l.map fun a=>D.int (f a:Nat):=map_map
class Enc(α:Type) where
 d:α->D
 p:α->xn
 dep:Nat
 rd:∀(μ:Mem)(n:Nat)(a:α),toP μ (n+dep) (d a)=some (p a)
 eq:∀a b:α,yI (p a) (p b)=true↔a=b
instance:Enc Int:=⟨.int, .int,1,fun _ _ _=>rfl,fun a b=>by simp[yI]⟩
instance:Enc Nat:=⟨fun(k:Nat) => .int k,fun(k:Nat) => .int k,1,fun _ _ _=>rfl,fun a b=>by simp[yI];omega⟩
instance:Enc Bool:=⟨.bl, .bool,1,fun _ _ _=>rfl,fun a b=>by simp[yI]⟩
abbrev onD:Option Nat->D
 |none => .non
 |some k => .int k
instance:Enc (Option Nat):=⟨onD,fun | none => .none | some k => .int k,1,fun _ _ a=>by cases a<;>rfl,fun a b=>by cases a<;>cases b<;>simp[yI];omega⟩
def zZh{α:Type}[Enc α]:∀xs ys:List α,xW (xs.map Enc.p) (ys.map Enc.p)=true↔xs=ys
 |[],[]=>by simp[xW]
 |[],y::ys=>by simp[xW]
 |x::xs,[]=>by simp[xW]
 |x::xs,y::ys=>by
  rw[map_cons,map_cons,xW,yG,Enc.eq,zZh xs ys,YV]
def rdAll{α:Type}[Enc α](μ:Mem)(n:Nat):∀xs:List α,(xs.map Enc.d).mapM (toP μ (n+Enc.dep α))=some (xs.map Enc.p)
 |[]=>rfl
 |x::xs=>by rw[map_cons,mapM_cons,rdAll μ n xs,Enc.rd];rfl
instance instEncList{α:Type}[Enc α]:Enc (List α):=⟨fun xs => .tup (xs.map Enc.d),fun xs => .tuple (xs.map Enc.p),Enc.dep α+1,fun μ n xs=>by
 show((xs.map Enc.d).mapM (toP μ (n+Enc.dep α))).bind (fun ps=>some (PyData.tuple ps))=_;rw[rdAll];rfl,fun a b=>by rw[yI];exact zZh a b⟩
def zdp{μ:Mem}{α:Type}[Enc α](a:α)(h:Enc.dep α<=8):toP μ 8 (Enc.d a)=some (Enc.p a):=by
 have:=Enc.rd μ (8-Enc.dep α) a;rw[Nat.sub_add_cancel h]at this;exact this
def z0i{b:Bool}{p:Prop}[Decidable p](h:b=true↔p):b=decide p:=by
 cases b<;>simp_all
section
variable {φ ψ χ:FE}{g g2:G2}{δ:Loc}{μ:Mem}{Q:D->Mem->Prop}{i j:Int}{d x y:D}{ds xs:List D}{α:Type}[Enc α][DecidableEq α]
def zSr(a b:α)(q:Q (.bl (decide (a=b))) μ)(hx:x=Enc.d a:=by rfl)(hy:y=Enc.d b:=by rfl)(h:Enc.dep α<=8:=by decide):W2 gEq x y μ Q:=by
 subst hx hy;exact zVy (zdp a h) (zdp b h) (by rw[z0i (Enc.eq a b)];exact q)
def zwp{n:Nat}(as:List α)(e:μ[n]?=some (.lst (as.map Enc.d)))(h:Enc.dep α<=7):toP μ 8 (.loc n)=some (.list (as.map Enc.p)):=by
 show(match μ[n]? with
  |some (.lst ds)=>(ds.mapM (toP μ 7)).bind fun ps=>some (PyData.list ps)
  |_=>none)=_
 rw[e];show((as.map Enc.d).mapM (toP μ 7)).bind (fun ps=>some (PyData.list ps))=_;have:=rdAll μ (7-Enc.dep α) as;rw[Nat.sub_add_cancel h]at this;rw[this];rfl
def zkw(as bs:List α){m n:Nat}(e1:μ[m]?=some (.lst (as.map Enc.d)))(e2:μ[n]?=some (.lst (bs.map Enc.d)))(q:Q (.bl (decide (as=bs))) μ)(h:Enc.dep α<=7:=by decide):W2 gEq (.loc m) (.loc n) μ Q :=
 zVy (zwp as e1 h) (zwp bs e2 h) (by rw[yI,z0i (zZh as bs)];exact q)
def zLp(S:List Nat):(nat S).all zPd=true:=List.all_eq_true.mpr fun x hx=>by
 obtain⟨k,_,rfl⟩:=List.mem_map.mp hx;rfl
def zts(k:Nat):∀S:List Nat,((nat S).any fun d=>eqF d (.int k))=decide (k∈S):=fun S=>by
 refine z0i ?_;rw[any_eq_true];constructor
 ·rintro⟨x,hx,e⟩;obtain⟨j,hj,rfl⟩:=List.mem_map.mp hx;have h1:(j:Int)=k:=beq_iff_eq.mp (show((j:Int)==(k:Int))=true from e);have h2:j=k:=by omega
  exact h2▸hj
 ·intro h;exact⟨.int k,List.mem_map.mpr ⟨k,h,rfl⟩,(show((k:Int)==(k:Int))=true from beq_self_eq_true _)⟩
def zyp{k:Nat}{S:List Nat}(h:items μ y=some (nat S))(q:Q (.bl (!decide (k∈S))) μ):W2 zkj (.int k) y μ Q:=zNr h rfl (zLp S) (by rw[zts];exact q)
def zss(S:List (Option Nat)):(S.map onD).all zPd=true:=List.all_eq_true.mpr fun x hx=>by
 obtain⟨k,_,rfl⟩:=List.mem_map.mp hx;cases k<;>rfl
def z9w(a b:Option Nat):eqF (onD a) (onD b)=decide (a=b):=by
 cases a<;>cases b<;>try rfl
 rename_i a b
 show(((a:Nat):Int)==(b:Nat))=decide (some a=some b);rw[Bool.eq_iff_iff,beq_iff_eq,decide_eq_true_iff,xC,Int.natCast_inj]
def zfx{n:Nat}{S:List Nat}(h:μ[n]?=some (.lst (nat S)))(q:Q (.int (S.sum:Nat)) μ):WF z4x [.loc n] μ Q:=by
 refine zhz (ns:=S.map fun(k:Nat)=>(k:Int)) (by rw[h];simp) ?_
 have:(S.map fun(k:Nat)=>(k:Int)).sum=((S.sum:Nat):Int):=by
  clear h q
  induction S with
  |nil=>rfl
  |cons a S ih=>rw[map_cons,sum_cons,sum_cons,ih];omega
 rw[this];exact q
def z1i{S:List Nat}{i:Nat}(h:i<S.length):atI (nat S) (i:Int)=some (.int (S.getD i 0:Nat)):=zW (by simp[h])
end
section
variable {φ ψ χ:FE}{g g2:G2}{δ:Loc}{μ:Mem}{Q:D->Mem->Prop}{i j:Int}{d x y:D}{ds xs:List D}
def zzi{R:List D->(Mem->Bool)->Mem->Prop}(h:WE φ δ μ fun x μ1=>(∃ds,x = .tup ds/\R (zog ds) yes μ1)\/(∃ds,x = .fz ds/\R (zog ds) yes μ1)\/∃n ds,x = .loc n/\μ1[n]?=some (.lst ds)/\R (zog ds) (zOn n ds) μ1):WI (zhm φ) δ μ R:=by
 obtain⟨x,μ1,e1,⟨ds,rfl,q⟩ | ⟨ds,rfl,q⟩ | ⟨n,ds,rfl,e2,q⟩⟩:=h
 ·exact⟨_,_,_,by simp[e1]<;>rfl,q⟩
 ·exact⟨_,_,_,by simp[e1]<;>rfl,q⟩
 ·exact⟨_,_,_,by simp[e1,e2]<;>rfl,q⟩
def zCs{α:Type}(f:α->D)(xs:List α):zog (xs.map f)=xs.zipIdx.map fun p => .tup [.int (p.2:Nat),f p.1]:=by
 refine ext_getElem? fun i=>?_;unfold zog;simp only[yn,Xl];cases xs[i]?<;>rfl
def zZq{α:Type}{f:α->D}{xs:List α}{m:Nat}{x:D}(h:(zog (xs.map f))[m]?=some x):∃y,xs[m]?=some y/\x = .tup [.int m,f y]:=by
 obtain⟨z,hz,rfl⟩:=zNl h;rw[yn]at hz
 cases e:xs[m]? with
 |none=>rw[e]at hz;cases hz
 |some y=>rw[e]at hz;cases hz;exact⟨y,rfl,rfl⟩
def z4n{m:GM}(h:WE φ δ μ fun x μ1=>∃n xs,x = .loc n/\μ1[n]?=some (.lst xs)/\WM m (.loc n) [] μ1 Q):WE (zsg m φ) δ μ Q:=by
 obtain⟨x,μ1,e1,n,xs,rfl,e2,d,μ3,e4,q⟩:=h;exact⟨d,μ3,by simp[e1,e2,e4],q⟩
def zWo{n:Nat}(h:μ[n]?=some (.lst xs))(q:Q .non (μ.set n (.lst []))):WM zGf (.loc n) [] μ Q:=⟨_,_,by simp[h]<;>rfl,q⟩
def z5r{n:Nat}(h:μ[n]?=some (.lst xs))(h1:zPd d=true)(h2:xs.all zPd=true)(q:Q (.int (xs.countP fun y=>eqF y d:Nat)) μ):WM zDj (.loc n) [d] μ Q:=⟨_,_,by simp only[zDj,h,h1,h2,Bool.and_self,cond_true],q⟩
def zet{n k:Nat}{S:List Nat}(h:μ[n]?=some (.lst (nat S)))(hk:k∈S)(q:Q .non (μ.set n (.lst (nat (S.erase k))))):WM zfi (.loc n) [.int k] μ Q:=by
 have e1:nat S=(S.map fun(k:Nat)=>(k:Int)).map D.int:=by simp
 have e2:∀T:List Nat,(T.map fun(k:Nat)=>(k:Int)).erase (k:Int)=(T.erase k).map fun(k:Nat)=>(k:Int):=fun T=>by
  induction T with
  |nil=>rfl
  |cons t T ih=>
   rw[map_cons]
   by_cases ht:t=k
   ·subst ht;simp
   ·rw[List.erase_cons_tail (by simp;omega),List.erase_cons_tail (by simpa using ht),ih];rfl
 have e3:(S.map fun(k:Nat)=>(k:Int)).contains (k:Int)=true:=by
  rw[List.contains_iff_mem];exact List.mem_map.mpr ⟨k,hk,rfl⟩
 refine⟨.non,_,?_,q⟩;simp only[zfi,h];rw[e1,zXg];simp only[ym,e3,cond_true,e2];rw[map_map];rfl
end
section
variable {φ ψ:FE}{δ:Loc}{μ:Mem}{nx:Loc->Mem->Prop}{rt:D->Mem->Prop}{bk ct:Loc->Mem->Prop}{p q:FS}
def zGz{i:Nat}{g:G2}{x:D}(hx:δ[i]?=some (some x))(h:WE φ δ μ fun y μ1=>W2 g x y μ1 fun d μ2=>nx (δ.set i (some d)) μ2):WS (zly i g φ) δ μ nx rt bk ct:=by
 obtain⟨y,μ1,e1,d,μ2,e2,k⟩:=h;exact⟨.next _ _,by simp only[zly,hx,e1,ym,e2],k⟩
def zJx{i j:Int}{Q:D->Mem->Prop}(q:Q (.int (i+j)) μ):W2 zIu (.int i) (.int j) μ Q:=⟨_,_,rfl,q⟩
def zXl{c:FT}{body:FS}(I:Nat->Loc->Mem->Prop):∀{n m:Nat} {δ:Loc} {μ:Mem},m<n->I m δ μ ->
 (∀m δ μ,I m δ μ->WT c δ μ fun b μ1=>(b=true->WS body δ μ1 (fun δ' μ'=>∃m',m'<m/\I m' δ' μ') rt nx (fun δ' μ'=>∃m',m'<m/\I m' δ' μ'))/\(b=false->nx δ μ1))->WS (z5m n c body) δ μ nx rt bk ct
 |0,m,δ,μ,h,_,_=>absurd h (Nat.not_lt_zero _)
 |n+1,m,δ,μ,h,h0,hs=>by
  obtain⟨b,μ1,e1,ht,hf⟩:=hs m δ μ h0
  cases b with
  |false=>exact⟨.next δ μ1,by show zkc c body (n+1) δ μ=_;simp only[zkc,e1,ym,cond_false],hf rfl⟩
  |true=>
   obtain⟨o,e2,k⟩:=ht rfl
   have step:∀δ' μ',(∃m',m'<m/\I m' δ' μ')->∃o,zkc c body n δ' μ'=some o/\Ek nx rt bk ct o:=fun δ' μ' ⟨m',hm',hI⟩=>by
    obtain⟨o,e,k⟩:=zXl I (n:=n) (m:=m') (by omega) hI hs;exact⟨o,e,k⟩
   cases o with
   |next δ' μ'=>obtain⟨o,e3,k3⟩:=step δ' μ' k;exact⟨o,by show zkc c body (n+1) δ μ=_;simp only[zkc,e1,ym,cond_true,e2];exact e3,k3⟩
   |cont δ' μ'=>obtain⟨o,e3,k3⟩:=step δ' μ' k;exact⟨o,by show zkc c body (n+1) δ μ=_;simp only[zkc,e1,ym,cond_true,e2];exact e3,k3⟩
   |brk δ' μ'=>exact⟨.next δ' μ',by show zkc c body (n+1) δ μ=_;simp only[zkc,e1,ym,cond_true,e2],k⟩
   |ret d μ'=>exact⟨.ret d μ',by show zkc c body (n+1) δ μ=_;simp only[zkc,e1,ym,cond_true,e2],k⟩
   |exc _ _ _=>exact k.elim
end
def zRd{α:Type}(f:α->D)(xs:List α)(d:α):zog (xs.map f)=(yA xs.length).map fun(k:Nat) => .tup [.int k,f (xs.getD k d)]:=by
 refine ext_getElem? fun i=>?_;unfold zog;simp only[yn,Xl]
 by_cases h:i<xs.length
 ·simp[h]
 ·simp[h]
def zBy{n:Nat}{xs:List D}{μ:Mem}{Q:D->Mem->Prop}(h:μ[n]?=some (.lst xs))(q:Q (.bl true) μ):WF (zOs .lst) [.loc n, .ty "list"] μ Q:=zko (c := .lst) (t := .lst) (by simp[h]) q
abbrev oiD:Option Int->D
 |none => .non
 |some k => .int k
instance:Enc (Option Int):=⟨oiD,fun | none => .none | some k => .int k,1,fun _ _ a=>by cases a<;>rfl,fun a b=>by cases a<;>cases b<;>simp[yI]⟩
def zTx:D->Bool
 |.non=>true
 |_=>false
def zVi{d:D}{μ:Mem}{Q:D->Mem->Prop}(h:zPd d=true)(q:Q (.bl (!zTx d)) μ):W2 zqg d .non μ Q:=by
 cases d<;>first | exact⟨_,_,rfl,q⟩ | cases h
def zzp(a:Option Nat):zPd (onD a)=true:=by cases a<;>rfl
def ztv(ds:List D)(h:Nat):Nat:=ds.countP fun y=>eqF y (.int h)
def zPr(lay:List (Option Nat))(h:Nat):ztv (lay.map onD) h=lay.count (some h):=by
 unfold ztv List.count;rw[List.countP_map]
 congr 1
 funext a
 have:=z9w a (some h);show eqF (onD a) (onD (some h))=_;rw[this];exact(Bool.beq_eq_decide_eq a (some h)).symm
def zlt{n:Nat}{lay:List (Option Nat)}{h:Nat}{μ:Mem}{Q:D->Mem->Prop}(e:μ[n]?=some (.lst (lay.map onD)))(q:Q (.int (lay.count (some h):Nat)) μ):WM zDj (.loc n) [.int h] μ Q :=
 z5r e rfl (zss lay) (by rw[show(lay.map onD).countP (fun y=>eqF y (.int h))=lay.count (some h) from zPr lay h];exact q)
def zil{n m:Nat}{p:Nat->Bool}(h:p m=true)(hlt:m<n)(hb:∀j<m,p j=false):(yA n).find? p=some m:=by
 rw[List.find?_eq_some_iff_append];refine⟨h,yA m,(List.range' (m+1) (n-m-1)),?_,fun a ha=>by simp[hb a (by simpa using ha)]⟩
 have:yA n=yA m++List.range' m (n-m):=by
  have e:n=m+(n-m):=by omega
  have:=List.range'_append_1 (s:=0) (m:=m) (n:=n-m);rw[<-e]at this;rw[List.range_eq_range',List.range_eq_range',<-this];simp
 rw[this,show n-m=(n-m-1)+1 by omega,List.range'_succ];simp
def zVf{n:Nat}{p:Nat->Bool}(h:∀j<n,p j=false):(yA n).find? p=none:=by
 rw[List.find?_eq_none];intro x hx;rw[h x (by simpa using hx)];exact yx
section
variable {φ ψ χ:FE}{g g2:G2}{δ:Loc}{μ:Mem}{Q:D->Mem->Prop}{i j:Int}{d x y:D}{ds xs:List D}{kvs:List (Int×D)}{n:Nat}
def z4c(h:μ[n]?=some (.dct kvs)):zxc μ (.loc n)=some kvs:=by simp[h]
def zji(h:μ[n]?=some (.dcf kvs)):zxc μ (.loc n)=some kvs:=by simp[h]
def zqt(h:zxc μ x=some kvs)(h2:zWc kvs i=some d)(q:Q d μ):W2 zQt x (.int i) μ Q:=⟨_,_,by simp only[zQt,h,ym,h2],q⟩
def z5u(h:zxc μ y=some kvs)(q:Q (.bl (zWc kvs i).isSome) μ):W2 zqn (.int i) y μ Q:=⟨_,_,by simp only[zqn,h,ym],q⟩
def zpy(h:zxc μ y=some kvs)(h2:kvs.all (fun p=>decide (0<=p.1/\p.1<1000))=true)(q:Q (.bl false) μ):W2 zqn .non y μ Q:=⟨_,_,by simp only[zqn,h,ym,h2,cond_true],q⟩
def zxt(h:zxc μ y=some kvs)(q:Q (.bl (!(zWc kvs i).isSome)) μ):W2 zjj (.int i) y μ Q:=⟨_,_,by simp only[zjj,h,ym],q⟩
def zpp{R:Loc->Mem->Prop}(h:WE φ δ μ fun x μ1=>WE ψ δ μ1 fun y μ2=>∃(n:Nat)(i:Int)(kvs:List (Int×D)),x = .loc n/\y = .int i/\μ2[n]?=some (.dct kvs)/\kvs.length<=1000000/\R δ (μ2.set n (.dct (zfq kvs i d)))):WG (z3w φ ψ) d δ μ R:=by
 obtain⟨x,μ1,e1,y,μ2,e2,n,i,kvs,rfl,rfl,e3,hi,q⟩:=h;exact⟨_,_,by simp[e1,e2,e3,hi]<;>rfl,q⟩
def z8v(h:zxc μ x=some kvs)(q:Q (.loc μ.length) (μ++[.lst (zij kvs)])):WF z6m [x] μ Q:=⟨_,_,by simp only[z6m,h,ym],q⟩
def znw{R:List D->(Mem->Bool)->Mem->Prop}(h:WE φ δ μ fun x μ1=>∃n kvs,x = .loc n/\μ1[n]?=some (.dct kvs)/\R (zij kvs) yes (μ1.set n (.dcf kvs))):WI (zUv φ) δ μ R:=by
 obtain⟨x,μ1,e1,n,kvs,rfl,e2,q⟩:=h;exact⟨_,_,_,by simp[e1,e2]<;>rfl,q⟩
def zix(h:WE φ δ μ fun x μ1=>∃n ds,x = .loc n/\μ1[n]?=some (.lst ds)/\Q (.loc μ1.length) (μ1++[.lst ds.reverse])):WE (zXt φ) δ μ Q:=by
 obtain⟨x,μ1,e1,n,ds,rfl,e2,q⟩:=h;exact⟨_,_,by simp[zXt,e1,e2]<;>rfl,q⟩
end
section
variable {φ χ:FE}{ψ:FA}{δ:Loc}{μ:Mem}{Q:D->Mem->Prop}{c f m:Str}
def z9j(h:WE φ δ μ fun x μ1=>∃n fs d,x = .loc n/\μ1[n]?=some (.ins c fs)/\fs.lookup f=some d/\Q d μ1):WE (zLo c f φ) δ μ Q:=by
 obtain⟨x,μ1,e,n,fs,d,rfl,h1,h2,q⟩:=h;exact⟨d,μ1,by simp only[zLo,e,ym,h1,beq_self_eq_true,cond_true,h2],q⟩
def zSs{nx:Loc->Mem->Prop}{rt:D->Mem->Prop}{bk ct:Loc->Mem->Prop}(h:WE χ δ μ fun y μ1=>WE φ δ μ1 fun x μ2=>∃n fs,x = .loc n/\μ2[n]?=some (.ins c fs)/\fs.length<1000/\nx δ (μ2.set n (.ins c (z2h f y fs)))):WS (z6q c f φ χ) δ μ nx rt bk ct:=by
 obtain⟨y,μ1,e1,x,μ2,e2,n,fs,rfl,h1,h2,q⟩:=h;exact⟨.next δ _,by simp only[z6q,e1,e2,ym,h1,beq_self_eq_true,decide_eq_true h2,Bool.and_self,cond_true],q⟩
def zSb{R:List D->Mem->Prop}(h:WE φ δ μ fun x μ1=>∃n fs,x = .loc n/\μ1[n]?=some (.ins c fs)/\fs.lookup m=none/\WA ψ δ μ1 fun ds μ2=>R (.loc n::ds) μ2):WA (znb c m φ ψ) δ μ R:=by
 obtain⟨x,μ1,e,n,fs,rfl,h1,h2,ds,μ2,e2,q⟩:=h;exact⟨_,μ2,by simp only[znb,e,ym,h1,h2,beq_self_eq_true,Option.isNone_none,Bool.and_self,cond_true,e2],q⟩
def zJy{F:FF}(h:WA ψ δ μ fun ds μ1=>WF F (.loc μ1.length::ds) (μ1++[.ins c []]) fun d μ2=>d = .non/\Q (.loc μ1.length) μ2):WE (z2j c F ψ) δ μ Q:=by
 obtain⟨ds,μ1,e,d,μ2,e2,rfl,q⟩:=h;exact⟨_,μ2,by simp only[z2j,e,ym,e2],q⟩
def zwr{g:GM}(h:WE φ δ μ fun x μ1=>∃n kvs,x = .loc n/\μ1[n]?=some (.dct kvs)/\WA ψ δ μ1 fun ds μ2=>WM g (.loc n) ds μ2 Q):WE (zmj g φ ψ) δ μ Q:=by
 obtain⟨x,μ1,e,n,kvs,rfl,h1,ds,μ2,e2,d,μ3,e3,q⟩:=h;exact⟨d,μ3,by simp only[zmj,e,ym,h1,e2,e3],q⟩
def zIy{x:D}{i:Int}{kvs:List (Int×D)}(h:zxc μ x=some kvs)(q:Q ((zWc kvs i).getD .non) μ):WM zkq x [.int i] μ Q:=⟨_,_,by simp only[zkq,h,ym],q⟩
def zHx{n:Nat}{i:Int}{kvs:List (Int×D)}{d:D}(h:μ[n]?=some (.dct kvs))(h2:zWc kvs i=some d)(q:Q d (μ.set n (.dct (zUw kvs i)))):WM zcq (.loc n) [.int i] μ Q:=⟨_,_,by simp only[zcq,h,h2,ym],q⟩
end
end M
namespace M
open PySem PySem.W PyProof.Rows L2
def z6n{h:yT}:∀{as:List Addr} {a:Addr} {o:YL},(kOf as h).lookup a=some o->h.get? a=some o
 |[],a,o,e=>by cases e
 |b::as,a,o,e=>by
  unfold kOf at e;rw[filterMap_cons]at e
  cases hb:h.get? b with
  |none=>rw[hb]at e;exact z6n (as:=as) e
  |some u=>
   rw[hb]at e
   change YD a ((b,u)::kOf as h)=some o at e
   rw[lookup_cons]at e
   by_cases q:a==b
   ·rw[q]at e;cases e;rw[eq_of_beq q];exact hb
   ·rw[Bool.not_eq_true]at q;rw[q]at e;exact z6n (as:=as) e
def zdw{h:yT}:(zMy h).In h:=fun _ _ e=>z6n e
def zou(s:Stmt):zLw s=zqd s:=by cases s<;>rfl
def zRt(s:Stmt):zNw s=zGc s:=by cases s<;>rfl
def zDs(s:Stmt):zRr s=zy s:=by cases s<;>rfl
def zuc{K:Frag}{a:Addr}{nm qual:Str}{st:Stmt}(e:zrd K a qual=zXd nm qual st):∃(oc:Value)(od:Option Addr)(sl:Array (Option Value)) (kV dc pm:Value) (an:Option Addr) (cd ct:Value),
 K.lookup a=some ⟨oc,od, .func (fnOf nm qual (zqd st) (zGc st) (zy st) .none kV dc pm an cd ct),sl⟩/\codeIn K cd qual=true/\keepIn K (.ref a)=true:=by
 rw[<-zou,<-zRt,<-zDs];unfold zrd at e
 split at e
 ·rename_i oc od fd sl hl
  obtain⟨x1,x2,x3,x4,x5,x6,x7,x8,x9,x10,x11,x12,x13,x14,x15⟩:=fd;have e:=Ye e;simp only[SeenD.mk.injEq]at e;obtain⟨rfl,rfl,rfl,rfl,rfl,rfl,rfl,rfl,rfl,h1,h2⟩:=e;exact⟨_,_,_,_,_,_,_,_,_,hl,h1,h2⟩
 ·cases e
def fnl{K:Frag}{nm:Str}{st:Stmt}{l l':List (Option SeenD)}(e:zrb K nm::l=zvb nm st::l'):(∃(f:Addr)(oc:Value)(od:Option Addr)(sl:Array (Option Value)) (kV dc pm:Value) (an:Option Addr) (cd ct:Value),
 nsIn K yj nm=some (some (.ref f))/\K.lookup f=some ⟨oc,od, .func (fnOf nm nm (zqd st) (zGc st) (zy st) .none kV dc pm an cd ct),sl⟩/\codeIn K cd nm=true/\keepIn K (.ref f)=true)/\l=l':=by
 obtain⟨h1,h2⟩:=yb e;refine⟨?_,h2⟩;unfold zrb at h1
 split at h1
 ·rename_i a ha
  obtain⟨oc,od,sl,kV,dc,pm,an,cd,ct,q⟩:=zuc (show zrd K a nm=zXd nm nm st from h1);exact⟨a,oc,od,sl,kV,dc,pm,an,cd,ct,ha,q⟩
 ·cases h1
def fnc{K:Frag}{nm:Str}{st:Stmt}{l l':List (Option SeenD)}(e:zrb K nm::l=zvb nm st::l'):(∃(f:Addr)(fd:yf),nsIn K yj nm=some (some (.ref f))/\Fun K nm nm st f fd)/\l=l':=by
 obtain⟨⟨f,oc,od,sl,kV,dc,pm,an,cd,ct,a,l,c,k⟩,e⟩:=fnl e;exact⟨⟨f,_,a,zWd l c k⟩,e⟩
def zIn{K:Frag}{nm:Str}{i:Int}(e:zmm K nm=some i):∃t,nsIn K yj nm=some (some (.int i t)):=by
 unfold zmm at e
 split at e
 ·rename_i h
  cases e;exact⟨_,h⟩
 ·cases e
def own_head{l:OpenLaw}{q:yv}{loose:List Str}{d:DefRec}{α:Type}{obs:Frag->α}{good:α}{N:Nat}(said:l.wellSaid=true)
 (left:LeftO l.prog q loose (fun _=>true) (fun s=>obs (zMy s.heap)) (fun _=>good) N) (hdef:defOf q l.name=some (d,[])) (hp:l.prog.theDef l.name=some (d.params,d.body,d.scope))
 (hk:kwWritten? d.params.kwonlyargs d.params.kw_defaults=some []) (ok:(chainsOk q&&opensWell l.prog&&(frees l.row.toRowW&&l.row.within.isEmpty))=true) (hb:l.prog.bare) (hw:l.row.toRowW.promised)
 (walk:∀K:Frag,obs K=good->WalkO q loose (fun _ _=>True) (fun _ h=>K.In h) l.row.toRowW d [] fun f vs=>PySem.call f vs):l.Holds:=by
 refine holds_law said fun said=>?_
 refine holds_open (r:=l.row) (q:=q) (loose:=loose) (Xt:=fun _=>true) (XP:=fun _ _=>True) (Yf:=fun s=>obs (zMy s.heap)) (Ya:=fun _=>good) (YP:=fun _ h=>∃K:Frag,obs K=good/\K.In h) (N:=N) left
  (fun w s e=>⟨_,e,zdw⟩) (fun w h h' ⟨K,e,k⟩ x=>⟨K,e,k.keeps x⟩) (fun _ _=>trivial) (fun _ _ _ _ _=>trivial) hdef hp hk (fun s _=>?_) ?_ said ok hb hw (fun w s₀ s₁ mg mb G Y=>?_)
 ·exact(show RecFacts [] s.heap from⟨fun x h=>(nomatch h),fun x h=>(nomatch h),fun c c' a hc=>(nomatch hc),fun c fs hf=>(nomatch hf)⟩)
 ·show(!l.row.writes||true)=true;exact Bool.or_true _
 ·obtain⟨K,e,k⟩:=Y;exact walk K e w s₀ s₁ mg mb G k
end M
namespace M
open PySem PySem.W PyProof.Rows L2
def z2t{K:Frag}{C:Addr}{n:String}{bm:List Value}(e:zJs K C=some (.type "type",n, .ref C::bm,true,false)) :
 ∃(nm q:Str)(N:Addr)(bs:List Value)(sn:List Str)(sub:List Value)(ab:Bool)(col:Option Bool)(dd:Option Addr)(k0 k1 k2 k3 k5:Option Value),K.lookup C=some (xb nm q C N bs bm true sn sub ab col dd k0 k1 k2 k3 k5 n):=by
 unfold zJs at e
 split at e
 ·rename_i c dd cd sl hl
  split at e
  ·rename_i k0 k1 k2 k3 m k5 hs
   obtain⟨x1,x2,x3,x4,x5,x6,x7,x8,x9,x10,x11⟩:=cd;have e:=Ye e;simp only[Prod.mk.injEq]at e;obtain⟨rfl,rfl,rfl,rfl,rfl⟩:=e;have:sl = #[k0,k1,k2,k3,some (.builtin m),k5]:=Array.toList_inj.mp hs;subst this;exact⟨_,_,_,_,_,_,_,_,_,_,_,_,_,_,hl⟩
  ·cases e
 ·cases e
def zys{K:Frag}{C:Addr}(e:(clsIn K C).isSome=true):∃cd,clsIn K C=some cd:=Option.isSome_iff_exists.mp e
end M
namespace P
local macro_rules | `(tactic| walk_at "s") => `(tactic| exact ⟨rfl, rfl, rfl, by decide +kernel, rfl, by decide +kernel, by decide +kernel⟩)
open PySem PySem.Spec PyProof.Rows L2 M
def top(i:Nat):Stmt:=PySem.Challenge.pw_keynests_k54_shelves_side_by_side.main.body.getD i (.Pass ⟨0,0,0,0⟩)
def zsl:List Str:=["_law_script"]
def z3f:FS:=(zCc (zBk (zf (zm 0) (zf (fOr (zH gEq (zB zMm (zf (zm 0) zJ)) (fC (.int 0))) (zH gEq (zH znn (zH gIx (zm 0) (fC (.int 0))) (fC (.int 2))) (fC (.int 0)))) (zf (fC (.int 0)) (zf (fC (.int 0)) zJ))))))
def z5f:FF:=fun ds μ=>z0b (z3f (zR zsl ds) μ)
def zxf:List Str:=["self","rule"]
def zEc:FS:=(zY (z6q "Shelf" "kept_rule" (zm 0) (zm 1)) (z6q "Shelf" "nest_of" (zm 0) zXy))
def zV:FF:=fun ds μ=>z0b (zEc (zR zxf ds) μ)
def zsi:List Str:=["_law_script","_law_k","_law_cell","_law_one","_law_two"]
def zje:FS:=(zY (zyc 2 (fC (.int 29))) (zY (sIf (z5 (zH (zxo fun i j=>decide (j<i)) (zB zMm (zf (zm 0) zJ)) (fC (.int 0)))) (zyc 2 (zH gIx (zm 0) (zH znn (zm 1) (zB zMm (zf (zm 0) zJ))))) zZb) (zY (zyc 3 (zH znn (zH zGh (zH zYi (zH zGh (zH zGh (zm 2) (zH zYi (fC (.int 40503)) (zm 1))) (fC (.int 1))) (fC (.int 48271))) (zH zYi (zm 1) (zm 1))) (fC (.int 2147483647)))) (zY (zyc 4 (zH znn (zH zGh (zH zGh (zH zYi (zm 3) (zm 3)) (zH zYi (fC (.int 69621)) (zm 3))) (zH zYi (fC (.int 31)) (zm 1))) (fC (.int 2147483629)))) (zCc (zH znn (zH zGh (zH zGh (zH zYi (zm 4) (zm 4)) (zH zYi (fC (.int 16807)) (zm 4))) (zm 1)) (fC (.int 1073741789))))))))
def z7d:FF:=fun ds μ=>z0b (zje (zR zsi ds) μ)
def z8j:List Str:=["_law_pen_here","_law_many","_law_script","_law_is_mixed","_law_k","_law_rest"]
def zYe:FS:=(zY (zfo (zm 0) (gTL 4 (zQb (gN 2) (zQb (gN 3) (zQb (gN 4) (zQb (gN 5) zSg)))))) (zY (zfo (zH zGh (zm 4) (fC (.int 1))) (gAt (zm 0) (fC (.int 2)))) (zY (sIf (z5 (zm 3)) (zCc (zH znn (zB z7d (zf (zm 2) (zf (zm 4) zJ))) (zm 1))) zZb) (zY (sIf (z5 (zH gEq (zH znn (zm 4) (fC (.int 60))) (fC (.int 0)))) (zY (zyc 5 (fC (.int 0))) (sIf (z5 (zH (zxo fun i j=>decide (i<j)) (zH zGh (zH zHv (zm 4) (fC (.int 60))) (fC (.int 1))) (zB zMm (zf (zm 2) zJ)))) (zyc 5 (zH gIx (zm 2) (zH zGh (zH zHv (zm 4) (fC (.int 60))) (fC (.int 1))))) zZb)) zZb) (zY (zfo (zH zHv (zm 5) (zm 1)) (gAt (zm 0) (fC (.int 3)))) (zCc (zH znn (zm 5) (zm 1))))))))
def zL:FF:=fun ds μ=>z0b (zYe (zR z8j ds) μ)
def zaf:FE:=(zNk (zf (zB zL (zf (zm 1) (zf (zm 2) zJ))) (zf (zB zL (zf (zm 1) (zf (zm 2) zJ))) zJ)))
def zpf:FE:=(zB zL (zf (zm 1) (zf (zm 2) zJ)))
def zpk:List Str:=["_law_pen_here","_law_nests","_law_wide","_law_rooms","_law_far"]
def zmf:FS:=(zY (zyc 1 (zH zGh (fC (.int 1)) (zB zL (zf (zm 0) (zf (fC (.int 6)) zJ))))) (zY (sIf (z5 (zH gEq (zB zL (zf (zm 0) (zf (fC (.int 8)) zJ))) (fC (.int 5)))) (zyc 1 (zH zGh (fC (.int 5)) (zB zL (zf (zm 0) (zf (fC (.int 6)) zJ))))) zZb) (zY (zyc 2 (zH gIx (zBk (zf (fC (.int 2)) (zf (fC (.int 3)) (zf (fC (.int 3)) (zf (fC (.int 10)) zJ))))) (zB zL (zf (zm 0) (zf (fC (.int 4)) zJ))))) (zY (zyc 3 (zB zFg (zf (fLC 1 [0,2] (zBg (zf (zm 1) zJ)) (gN 0) zgk zpf) zJ))) (zY (zyc 4 (zH gIx (zBk (zf (fC (.int 10007)) (zf (fC (.int 10007)) (zf (fC (.int 12)) zJ)))) (zB zL (zf (zm 0) (zf (fC (.int 3)) zJ))))) (zCc (zNk (zf (zm 3) (zf (zB zFg (zf (fLC 1 [0,4] (zBg (zf (zH zGh (fC (.int 2)) (zB zL (zf (zm 0) (zf (fC (.int 2)) zJ)))) zJ)) (gN 0) zgk zaf) zJ)) zJ)))))))))
def zJc:FF:=fun ds μ=>z0b (zmf (zR zpk ds) μ)
def zoi:List Str:=["_law_pen_here","_law_way"]
def z6d:FS:=(zY (zyc 1 (zB zL (zf (zm 0) (zf (fC (.int 8)) zJ)))) (zY (sIf (z5 (zH gEq (zm 1) (fC (.int 7)))) (zCc (zNk (zf (fC (.str "renew")) (zf (zB zJc (zf (zm 0) zJ)) zJ)))) zZb) (zCc (zNk (zf (zH gIx (zBk (zf (fC (.str "put")) (zf (fC (.str "put")) (zf (fC (.str "put")) (zf (fC (.str "put")) (zf (fC (.str "out")) (zf (fC (.str "out")) (zf (fC (.str "put")) zJ)))))))) (zm 1)) (zf (zB zL (zf (zm 0) (zf (fC (.int 20)) zJ))) zJ))))))
def zce:FF:=fun ds μ=>z0b (z6d (zR zoi ds) μ)
def zNe:List Str:=["self"]
def zsc:FS:=(zCc (zB zhp (zf (zLo "Shelf" "nest_of" (zm 0)) zJ)))
def zz:FF:=fun ds μ=>z0b (zsc (zR zNe ds) μ)
def zpg:FE:=(zm 0)
def zvg:FT:=(z5 (zH gEq (zH zQt (zLo "Shelf" "nest_of" (zm 1)) (zm 0)) (zm 2)))
def zni:List Str:=["self","h"]
def z3d:FS:=(zCc (fLC 1 [0,1] (zLg (zB zz (znb "Shelf" "all_there" (zm 0) zJ))) (gN 0) zvg zpg))
def zUb:FF:=fun ds μ=>z0b (z3d (zR zni ds) μ)
def z6t:FE:=(zH zlq (zm 1) (zAf zDj (zm 2) (zf (zm 0) zJ)))
def zXu:List Str:=["web","laying"]
def zvl:FS:=(zCc (fLC 2 [1] (zhm (zH gIx (zm 0) (fC (.int 0)))) (gT 2 (zQb (gN 0) (zQb (gN 1) zSg))) zgk z6t))
def zjh:FF:=fun ds μ=>z0b (zvl (zR zXu ds) μ)
def zhn:FE:=(zH znn (zH znn (zH zGh (zH zYi (zH gIx (zm 0) (fC (.int 0))) (zm 1)) (zH gIx (zm 0) (fC (.int 1)))) (fC (.int (10007)))) (zm 2))
def zQr:List Str:=["rule","key","nests"]
def zAl:FS:=(zY (zyc 2 (zB zMm (zf (zH gIx (zm 0) (fC (.int 0))) zJ))) (zCc (zB zFg (zf (fLC 1 [1,2] (zLg (zH gIx (zm 0) (fC (.int 1)))) (gN 0) zgk zhn) zJ))))
def zKl:FF:=fun ds μ=>z0b (zAl (zR zQr ds) μ)
def zfl:FE:=(zB zKl (zf (zm 1) (zf (zm 0) zJ)))
def zjp:List Str:=["rule","keys"]
def z2i:FS:=(zCc (zNk (zf (zH gIx (zm 0) (fC (.int 0))) (zf (zB zFg (zf (fLC 1 [0] (zLg (zm 1)) (gN 0) zgk zfl) zJ)) zJ))))
def ztd:FF:=fun ds μ=>z0b (z2i (zR zjp ds) μ)
def zwf:FE:=(zH zQt (zLo "Shelf" "nest_of" (zm 1)) (zm 0))
def zGg:List Str:=["self"]
def zdd:FS:=(zCc (fLC 1 [0] (zLg (zB zz (znb "Shelf" "all_there" (zm 0) zJ))) (gN 0) zgk zwf))
def zIb:FF:=fun ds μ=>z0b (zdd (zR zGg ds) μ)
def zJi:List Str:=["self"]
def zbe:FS:=(zCc (zB zjh (zf (zB ztd (zf (zLo "Shelf" "kept_rule" (zm 0)) (zf (zB zz (znb "Shelf" "all_there" (zm 0) zJ)) zJ))) (zf (zB zIb (znb "Shelf" "laying" (zm 0) zJ)) zJ))))
def z9:FF:=fun ds μ=>z0b (zbe (zR zJi ds) μ)
def zHi:List Str:=["self"]
def z1d:FS:=(zCc (zLo "Shelf" "kept_rule" (zm 0)))
def z9b:FF:=fun ds μ=>z0b (z1d (zR zHi ds) μ)
def z5g:List Str:=["self","key"]
def zzd:FS:=(zCc (zmj zkq (zLo "Shelf" "nest_of" (zm 0)) (zf (zm 1) zJ)))
def zDd:FF:=fun ds μ=>z0b (zzd (zR z5g ds) μ)
def zxg:FE:=(zB zDd (znb "Shelf" "where" (zm 1) (zf (zm 0) zJ)))
def ztg:FE:=(zB zUb (znb "Shelf" "nest" (zm 1) (zf (zm 0) zJ)))
def zKi:List Str:=["_law_shelf","_law_keys","_law_nests"]
def z5d:FS:=(zY (zyc 1 (zB zz (znb "Shelf" "all_there" (zm 0) zJ))) (zY (zyc 2 (fLC 1 [0] (zBg (zf (zB zMm (zf (zB z9 (znb "Shelf" "left" (zm 0) zJ)) zJ)) zJ)) (gN 0) zgk ztg)) (zCc (zNk (zf (zm 1) (zf (fLC 1 [0] (zLg (zm 1)) (gN 0) zgk zxg) (zf (zm 2) (zf (zB z9 (znb "Shelf" "left" (zm 0) zJ)) (zf (zB z9b (znb "Shelf" "rule" (zm 0) zJ)) zJ)))))))))
def zfb:FF:=fun ds μ=>z0b (z5d (zR zKi ds) μ)
def z7j:List Str:=["self","key"]
def ztf:FS:=(zCc (zH zqn (zm 1) (zLo "Shelf" "nest_of" (zm 0))))
def zxb:FF:=fun ds μ=>z0b (ztf (zR z7j ds) μ)
def zYn:FE:=(zm 0)
def zxr:FT:=(z5 (zH gEq (zm 1) (zm 2)))
def zzs:List Str:=["laying","nest"]
def zrm:FS:=(zCc (fLC 2 [1] (zhm (zm 0)) (gT 2 (zQb (gN 0) (zQb (gN 1) zSg))) zxr zYn))
def zLm:FF:=fun ds μ=>z0b (zrm (zR zzs ds) μ)
def zFh:FS:=(sIf (z5 (zH zjj (zm 4) (zm 3))) (zY (zfo (zNk (zf (zm 7) (zf (zH gIx (zm 5) (zm 6)) zJ))) (z3w (zm 3) (zm 4))) (zLd (zAf zod (zm 5) (zf (zm 4) zJ)))) zZb)
def zif:FS:=(z8l (zLg (zH gIx (zH gIx (zm 0) (fC (.int 1))) (zm 7))) (gN 4) zFh)
def zsh:FS:=(zY (z8l (zLg (zB zLm (zf (zm 1) (zf (zH gIx (zm 5) (zm 6)) zJ)))) (gN 7) zif) (zly 6 zIu (fC (.int 1))))
def zvh:FS:=(zfo (zNk (zf (zm 2) (zf (fC .non) zJ))) (z3w (zm 3) (zm 4)))
def zXj:List Str:=["web","laying","key","pushes","nest","nests","at","other"]
def zjf:FS:=(zY (zyc 3 zXy) (zY (z8l (zLg (zH gIx (zH gIx (zm 0) (fC (.int 1))) (zm 2))) (gN 4) zvh) (zY (zyc 5 (zB z6m (zf (zm 3) zJ))) (zY (zyc 6 (fC (.int 0))) (zY (z5m 100000 (z5 (zH (zxo fun i j=>decide (i<j)) (zm 6) (zB zMm (zf (zm 5) zJ)))) zsh) (zCc (zm 3)))))))
def z2e:FF:=fun ds μ=>z0b (zjf (zR zXj ds) μ)
def zVk:FS:=(zY (zLd (zAf zod (zm 2) (zf (zNk (zf (zH gIx (zH zQt (zm 0) (zm 1)) (fC (.int 0))) (zf (zm 1) zJ))) zJ))) (zyc 1 (zH gIx (zH zQt (zm 0) (zm 1)) (fC (.int 1)))))
def zNp:List Str:=["pushes","nest","row"]
def zaj:FS:=(zY (zyc 2 (zBk zJ)) (zY (z5m 100000 (z5 (zH zqg (zm 1) (fC .non))) zVk) (zCc (zXt (zm 2)))))
def zUi:FF:=fun ds μ=>z0b (zaj (zR zNp ds) μ)
def zjl:FE:=(zm 0)
def z4k:FT:=(zov (z5 (zH gEq (zm 0) (zm 2))) (z5 (zH zqn (zm 1) (zm 3))))
def ztl:FS:=(sIf (z5 (zH (zxo fun i j=>decide (j<i)) (zH gIx (zm 4) (zm 5)) (fC (.int 0)))) (zCc (zNk (zf (fC (.str "put")) (zf (zB zUi (zf (zm 3) (zf (zm 5) zJ))) zJ)))) zZb)
def zHp:List Str:=["web","laying","key","pushes","room","nest"]
def z7i:FS:=(zY (zyc 3 (zB z2e (zf (zm 0) (zf (zm 1) (zf (zm 2) zJ))))) (zY (zyc 4 (zB zjh (zf (zm 0) (zf (zm 1) zJ)))) (zY (z8l (zUv (zm 3)) (gN 5) ztl) (zCc (zNk (zf (fC (.str "full")) (zf (fLC 2 [2,3] (zhm (zm 1)) (gT 2 (zQb (gN 0) (zQb (gN 1) zSg))) z4k zjl) zJ)))))))
def zVe:FF:=fun ds μ=>z0b (z7i (zR zHp ds) μ)
def zCd:FS:=(zfo (zH gIx (zm 5) (fC (.int 1))) (z3w (zLo "Shelf" "nest_of" (zm 0)) (zH gIx (zm 5) (fC (.int 0)))))
def zvd:FE:=(zNk (zf (zH gIx (zm 1) (zH gIx (zm 0) (fC (.int 0)))) (zf (zH gIx (zm 0) (fC (.int 1))) zJ)))
def zsd:FE:=(zH gIx (zm 1) (zm 0))
def zrj:List Str:=["self","key","keys","told","row","push"]
def zlf:FS:=(zY (sIf (z5 (zB zxb (znb "Shelf" "has" (zm 0) (zf (zm 1) zJ)))) (zOm "Twice" (zf (fC (.str "the key is there already")) zJ)) zZb) (zY (zyc 2 (zH zGh (zB zz (znb "Shelf" "all_there" (zm 0) zJ)) (zBk (zf (zm 1) zJ)))) (zY (sIf (z5 (zH (zxo fun i j=>decide (j<i)) (zB zMm (zf (zm 2) zJ)) (fC (.int (30))))) (zse "Full" "some" (zf (zB zpi (zf (zm 2) zJ)) zJ)) zZb) (zY (zyc 3 (zB zVe (zf (zB ztd (zf (zLo "Shelf" "kept_rule" (zm 0)) (zf (zm 2) zJ))) (zf (zH zGh (zB zIb (znb "Shelf" "laying" (zm 0) zJ)) (zBk (zf (fC .non) zJ))) (zf (zH zlq (zB zMm (zf (zm 2) zJ)) (fC (.int 1))) zJ))))) (zY (sIf (z5 (zH gEq (zH gIx (zm 3) (fC (.int 0))) (fC (.str "full")))) (zse "Full" "some" (zf (zB zpi (zf (fLC 1 [2] (zLg (zH gIx (zm 3) (fC (.int 1)))) (gN 0) zgk zsd) zJ)) zJ)) zZb) (zY (zyc 4 (fLC 1 [2] (zLg (zH gIx (zm 3) (fC (.int 1)))) (gN 0) zgk zvd)) (zY (z8l (zLg (zm 4)) (gN 5) zCd) (zCc (zm 4)))))))))
def zZd:FX:=fun ds μ=>zyx (zlf (zR zrj ds) μ)
def zfk:List Str:=["self","key"]
def z0e:FS:=(zY (sIf (zAq (z5 (zB zxb (znb "Shelf" "has" (zm 0) (zf (zm 1) zJ))))) (zOm "NoKey" (zf (fC (.str "the key isn't there")) zJ)) zZb) (zCc (zmj zcq (zLo "Shelf" "nest_of" (zm 0)) (zf (zm 1) zJ))))
def zof:FX:=fun ds μ=>zyx (z0e (zR zfk ds) μ)
def z2s:FS:=(sIf (z5 (zH (zxo fun i j=>decide (i<j)) (zm 4) (fC (.int 0)))) (zCc (zNk (zf (fC (.str "room")) (zf (zm 3) zJ)))) zZb)
def zgt:FS:=(sIf (zJu (z5 (zH zqg (zm 3) (fC .non))) (z5 (zH zkj (zm 3) (zH gIx (zH gIx (zm 0) (fC (.int 1))) (zm 2))))) (zCc (zNk (zf (fC (.str "home")) (zf (zm 2) zJ)))) zZb)
def zbt:List Str:=["web","laying","key","nest","room"]
def zAm:FS:=(zY (z8l (zhm (zm 1)) (gT 2 (zQb (gN 2) (zQb (gN 3) zSg))) zgt) (zY (z8l (zhm (zB zjh (zf (zm 0) (zf (zm 1) zJ)))) (gT 2 (zQb (gN 3) (zQb (gN 4) zSg))) z2s) (zCc (fC .non))))
def z7l:FF:=fun ds μ=>z0b (zAm (zR zbt ds) μ)
def ztk:FE:=(zH gIx (zm 0) (fC (.int 0)))
def zUm:List Str:=["web","laying","row","at","key"]
def zch:FS:=(zY (zyc 4 (zH gIx (zH gIx (zm 2) (zm 3)) (fC (.int 0)))) (zY (sIf (zov (z5 (zH (zxo fun i j=>decide (i<j)) (zm 4) (fC (.int 0)))) (z5 (zH (zxo fun i j=>decide (j<=i)) (zm 4) (zB zMm (zf (zm 1) zJ))))) (zCc (fC (.bl false))) zZb) (zY (sIf (zov (z5 (zH zkj (zH gIx (zH gIx (zm 2) (zm 3)) (fC (.int 1))) (zH gIx (zH gIx (zm 0) (fC (.int 1))) (zm 4)))) (z5 (zH gEq (zH gIx (zH gIx (zm 2) (zm 3)) (fC (.int 1))) (zH gIx (zm 1) (zm 4))))) (zCc (fC (.bl false))) zZb) (zCc (zH zkj (zm 4) (fLC 1 [] (zLg (fSl (zm 2) pNo (zmz (zm 3)))) (gN 0) zgk ztk))))))
def zph:FF:=fun ds μ=>z0b (zch (zR zUm ds) μ)
def zZn:List Str:=["laying","key","row","at"]
def zRh:FS:=(zY (sIf (z5 (zH gEq (zm 3) (fC (.int 0)))) (zCc (zH gEq (zH gIx (zH gIx (zm 2) (fC (.int 0))) (fC (.int 0))) (zm 1))) zZb) (zCc (zH gEq (zH gIx (zm 0) (zH gIx (zH gIx (zm 2) (zm 3)) (fC (.int 0)))) (zH gIx (zH gIx (zm 2) (zH zlq (zm 3) (fC (.int 1)))) (fC (.int 1))))))
def zkh:FF:=fun ds μ=>z0b (zRh (zR zZn ds) μ)
def z9k:FS:=(zY (sIf (zAq (zJu (z5 (zB zph (zf (zm 0) (zf (zm 1) (zf (zm 3) (zf (zm 5) zJ)))))) (z5 (zB zkh (zf (zm 1) (zf (zm 2) (zf (zm 3) (zf (zm 5) zJ)))))))) zct zZb) (zfo (zH gIx (zm 6) (fC (.int 1))) (gAt (zm 4) (zH gIx (zm 6) (fC (.int 0))))))
def z1p:List Str:=["web","laying","key","row","behind","at","push"]
def zTi:FS:=(zY (zyc 4 (zB zso (zf (zm 1) zJ))) (zY (z8l (zhm (zm 3)) (gT 2 (zQb (gN 5) (zQb (gN 6) zSg))) z9k) (zY (sIf (zov (z5 (zH gEq (zB zMm (zf (zm 3) zJ)) (fC (.int 0)))) (z5 (zH zqg (zB z7l (zf (zm 0) (zf (zm 4) zJ))) (fC .non)))) zct zZb) (zCc (zm 4)))))
def zWi:FF:=fun ds μ=>z0b (zTi (zR z1p ds) μ)
def zUh:FS:=(zY (zyc 5 (zB zVe (zf (zm 0) (zf (zm 1) (zf (zm 4) zJ))))) (sIf (z5 (zH gEq (zH gIx (zm 5) (fC (.int 0))) (fC (.str "put")))) (zyc 1 (zB zWi (zf (zm 0) (zf (zm 1) (zf (zm 4) (zf (zH gIx (zm 5) (fC (.int 1))) zJ)))))) (zLd (zAf zCv (zm 3) (zf (zH gIx (zm 5) (fC (.int 1))) zJ)))))
def zdk:List Str:=["web","laying","keys","crowded","key","told"]
def z3e:FS:=(zY (zyc 3 (zBk zJ)) (zY (z8l (zLg (zm 2)) (gN 4) zUh) (zCc (zNk (zf (zm 1) (zf (zNq (zm 3)) zJ))))))
def z7e:FF:=fun ds μ=>z0b (z3e (zR zdk ds) μ)
def zWh:List Str:=["web"]
def zEd:FS:=(zCc (zB z7e (zf (zm 0) (zf (zH zYi (zBk (zf (fC .non) zJ)) (zB zMm (zf (zH gIx (zm 0) (fC (.int 1))) zJ))) (zf (zzm (zB zMm (zf (zH gIx (zm 0) (fC (.int 1))) zJ))) zJ)))))
def zAd:FF:=fun ds μ=>z0b (zEd (zR zWh ds) μ)
def zlj:FE:=(zH gIx (zH gIx (zm 1) (fC (.int 0))) (zm 0))
def zCn:List Str:=["web","nests"]
def zCh:FS:=(zCc (zB z4x (zf (fLC 1 [0] (zLg (zm 1)) (gN 0) zgk zlj) zJ)))
def z0g:FF:=fun ds μ=>z0b (zCh (zR zCn ds) μ)
def zIi:FS:=(zLd (zAf zCv (zm 2) (zf (zH gIx (zH gIx (zm 0) (fC (.int 1))) (zm 3)) zJ)))
def zZk:List Str:=["web","some","found","key"]
def z2f:FS:=(zY (zyc 2 (zBk zJ)) (zY (z8l (zLg (zm 1)) (gN 3) zIi) (zCc (zNq (zm 2)))))
def zgg:FF:=fun ds μ=>z0b (z2f (zR zZk ds) μ)
def zkl:List Str:=["web","some"]
def zjg:FS:=(zCc (zH (zxo fun i j=>decide (i<j)) (zB z0g (zf (zm 0) (zf (zB zgg (zf (zm 0) (zf (zm 1) zJ))) zJ))) (zB zMm (zf (zm 1) zJ))))
def z6f:FF:=fun ds μ=>z0b (zjg (zR zkl ds) μ)
def zuh:FE:=(zm 0)
def zbm:FT:=(z5 (zH gNe (zm 0) (zm 1)))
def zmh:FS:=(sIf (z5 (zB z6f (zf (zm 0) (zf (fLC 1 [2] (zLg (zm 1)) (gN 0) zbm zuh) zJ)))) (zCc (zm 2)) zZb)
def zmk:List Str:=["web","some","key"]
def zqf:FS:=(zY (z8l (zLg (zm 1)) (gN 2) zmh) (zCc (fC .non)))
def zOd:FF:=fun ds μ=>z0b (zqf (zR zmk ds) μ)
def zPj:FS:=(zY (zLd (zAf zfi (zm 2) (zf (zm 3) zJ))) (zyc 3 (zB zOd (zf (zm 0) (zf (zm 2) zJ)))))
def z3m:List Str:=["web","some","rest","spare"]
def zqh:FS:=(zY (zyc 2 (zB zso (zf (zm 1) zJ))) (zY (zyc 3 (zB zOd (zf (zm 0) (zf (zm 2) zJ)))) (zY (z5m 100000 (z5 (zH zqg (zm 3) (fC .non))) zPj) (zCc (zm 2)))))
def zMh:FF:=fun ds μ=>z0b (zqh (zR z3m ds) μ)
def zmp:List Str:=["web","told"]
def zbj:FS:=(zY (zyc 1 (zB zAd (zf (zm 0) zJ))) (zY (sIf (z5 (zH gEq (zH gIx (zm 1) (fC (.int 1))) (zBk zJ))) (zCc (zNk (zf (fC (.str "fits")) (zf (zH gIx (zm 1) (fC (.int 0))) zJ)))) zZb) (zCc (zNk (zf (fC (.str "crowd")) (zf (zB zMh (zf (zm 0) (zf (zH gIx (zm 1) (fC (.int 1))) zJ))) zJ))))))
def zRi:FF:=fun ds μ=>z0b (zbj (zR zmp ds) μ)
def zUf:FS:=(zfo (zH gIx (zH gIx (zm 3) (fC (.int 1))) (zm 4)) (z3w (zLo "Shelf" "nest_of" (zm 0)) (zm 5)))
def zWf:FE:=(zH gIx (zm 1) (zm 0))
def zYg:List Str:=["self","rule","keys","told","place","key"]
def zud:FS:=(zY (zyc 2 (zB zz (znb "Shelf" "all_there" (zm 0) zJ))) (zY (zyc 3 (zB zRi (zf (zB ztd (zf (zm 1) (zf (zm 2) zJ))) zJ))) (zY (sIf (z5 (zH gEq (zH gIx (zm 3) (fC (.int 0))) (fC (.str "crowd")))) (zse "Full" "some" (zf (fLC 1 [2] (zLg (zH gIx (zm 3) (fC (.int 1)))) (gN 0) zgk zWf) zJ)) zZb) (zY (z6q "Shelf" "kept_rule" (zm 0) (zm 1)) (z8l (zhm (zm 2)) (gT 2 (zQb (gN 4) (zQb (gN 5) zSg))) zUf)))))
def zBd:FX:=fun ds μ=>zyx (zud (zR zYg ds) μ)
def zqk:List Str:=["_law_shelf","_law_deed_here","_law_word","_law_thing","_law_answer","e"]
def zmc:FS:=(zY (zfo (zm 1) (gT 2 (zQb (gN 2) (zQb (gN 3) zSg)))) (zY (zyc 4 (fC (.str "nothing"))) (zY (znt (sIf (z5 (zH gEq (zm 2) (fC (.str "put")))) (zjr 4 zZd (znb "Shelf" "put" (zm 0) (zf (zm 3) zJ))) (sIf (z5 (zH gEq (zm 2) (fC (.str "out")))) (zjr 4 zof (znb "Shelf" "out" (zm 0) (zf (zm 3) zJ))) (zjr 4 zBd (znb "Shelf" "renew" (zm 0) (zf (zm 3) zJ))))) (hAs 5 [("Twice",false),("Full",true),("NoKey",false)] (zyc 4 (zNk (zf (fC (.str "full")) (zf (fAt "Full" "some" (zm 5)) zJ)))) (z3j [("Twice",true),("Full",false),("NoKey",false)] (zyc 4 (fC (.str "twice"))) (z3j [("Twice",false),("Full",false),("NoKey",true)] (zyc 4 (fC (.str "none"))) zey)))) (zCc (zm 4)))))
def z8b:FF:=fun ds μ=>z0b (zmc (zR zqk ds) μ)
def zti:List Str:=["_law_shelf","_law_answer"]
def zae:FS:=(zY (sIf (z5 (zB (zOs .lst) (zf (zm 1) (zf (fC (.ty "list")) zJ)))) (zLd (zsg zGf (zm 1))) zZb) (zY (sIf (z5 (zB (zOs .tup) (zf (zm 1) (zf (fC (.ty "tuple")) zJ)))) (zLd (zsg zGf (zH gIx (zm 1) (fC (.int 1))))) zZb) (zY (zLd (zAf zod (zB zz (znb "Shelf" "all_there" (zm 0) zJ)) (zf (z2u (fC (.int 1))) zJ))) (zY (zLd (zsg zGf (zB z9 (znb "Shelf" "left" (zm 0) zJ)))) (zLd (zAf zod (zB zUb (znb "Shelf" "nest" (zm 0) (zf (fC (.int 0)) zJ))) (zf (z2u (fC (.int 1))) zJ)))))))
def znd:FF:=fun ds μ=>z0b (zae (zR zti ds) μ)
def zDf:List Str:=["_law_shelf","_law_deed_here","_law_answer","_law_word","_law_thing"]
def zVc:FS:=(zY (zfo (zm 1) (gT 2 (zQb (gN 3) (zQb (gN 4) zSg)))) (zY (sIf (z5 (zH gEq (zm 3) (fC (.str "put")))) (zCc (zH gEq (zB zxb (znb "Shelf" "has" (zm 0) (zf (zm 4) zJ))) (fOr (zH gEq (zm 2) (fC (.str "twice"))) (zB (zOs .lst) (zf (zm 2) (zf (fC (.ty "list")) zJ)))))) zZb) (zY (sIf (z5 (zH gEq (zm 3) (fC (.str "out")))) (zCc (z1y (zB zxb (znb "Shelf" "has" (zm 0) (zf (zm 4) zJ))))) zZb) (zCc (fOr (zH zqg (zm 2) (fC .non)) (zH gEq (zB z9b (znb "Shelf" "rule" (zm 0) zJ)) (zm 4)))))))
def z8:FF:=fun ds μ=>z0b (zVc (zR zDf ds) μ)
def znm:FS:=(zY (zyc 5 (zB zL (zf (zm 1) (zf (fC (.int 2)) zJ)))) (zY (zyc 6 (zB zce (zf (zm 1) zJ))) (zY (zyc 7 (zB zfb (zf (zH gIx (zm 3) (zH zlq (fC (.int 1)) (zm 5))) zJ))) (zY (zyc 8 (zB z8b (zf (zH gIx (zm 3) (zm 5)) (zf (zm 6) zJ)))) (zY (zyc 9 (zB zfb (zf (zH gIx (zm 3) (zm 5)) zJ))) (zY (sIf (zAq (z5 (zB z8 (zf (zH gIx (zm 3) (zm 5)) (zf (zm 6) (zf (zm 8) zJ)))))) (zCc (fC (.bl false))) zZb) (zY (zLd (zB znd (zf (zH gIx (zm 3) (zm 5)) (zf (zm 8) zJ)))) (sIf (zov (z5 (zH gNe (zB zfb (zf (zH gIx (zm 3) (zm 5)) zJ)) (zm 9))) (z5 (zH gNe (zB zfb (zf (zH gIx (zm 3) (zH zlq (fC (.int 1)) (zm 5))) zJ)) (zm 7)))) (zCc (fC (.bl false))) zZb))))))))
def zax:List Str:=["_law_script","_law_pen_here","_law_rules","_law_both","_law_k","_law_at","_law_deed_here","_law_ahead","_law_answer","_law_mine","_law_fresh"]
def zot:FS:=(zY (zyc 1 (zB z5f (zf (zm 0) zJ))) (zY (zyc 2 (zBk (zf (zB zJc (zf (zm 1) zJ)) (zf (zB zJc (zf (zm 1) zJ)) zJ)))) (zY (sIf (z5 (zH gEq (zB zL (zf (zm 1) (zf (fC (.int 2)) zJ))) (fC (.int 0)))) (zfo (zH gIx (zm 2) (fC (.int 0))) (gAt (zm 2) (fC (.int 1)))) zZb) (zY (zyc 3 (zBk (zf (z2j "Shelf" zV (zf (zH gIx (zm 2) (fC (.int 0))) zJ)) (zf (z2j "Shelf" zV (zf (zH gIx (zm 2) (fC (.int 1))) zJ)) zJ)))) (zY (z8l (zBg (zf (zB zL (zf (zm 1) (zf (fC (.int 25)) zJ))) zJ)) (gN 4) znm) (zY (zyc 10 (z2j "Shelf" zV (zf (zH gIx (zm 2) (fC (.int 0))) zJ))) (zCc (zWy (zH gEq (zB zz (znb "Shelf" "all_there" (zm 10) zJ)) (zBk zJ)) (zH gEq (zB z9 (znb "Shelf" "left" (zm 10) zJ)) (zB zso (zf (zH gIx (zH gIx (zm 2) (fC (.int 0))) (fC (.int 0))) zJ)))))))))))
def zaq:FF:=fun ds μ=>z0b (zot (zR zax ds) μ)
structure Txt(K:yr)(mg:Str->Option Value):Prop where
 x_Full:∃C,Yg K yj "Full" = some (some (.ref C))/\mg "Full" = some (.ref C)/\W.ktsIn K C "BaseException" = true
 x_NestError:∃C,Yg K yj "NestError" = some (some (.ref C))/\mg "NestError" = some (.ref C)/\W.ktsIn K C "BaseException" = true
 x_Twice:∃C,Yg K yj "Twice" = some (some (.ref C))/\mg "Twice" = some (.ref C)/\W.ktsIn K C "BaseException" = true
 x_NoKey:∃C,Yg K yj "NoKey" = some (some (.ref C))/\mg "NoKey" = some (.ref C)/\W.ktsIn K C "BaseException" = true
 e_Twice:∀C,Yg K yj "Twice" = some (some (.ref C))->W.excIn K C [.type "ValueError", .type "Exception", .type "BaseException", .type "object"] "ValueError.__new__" = true
 e_NoKey:∀C,Yg K yj "NoKey" = some (some (.ref C))->W.excIn K C [.type "ValueError", .type "Exception", .type "BaseException", .type "object"] "ValueError.__new__" = true
 s_NoKey:∀C,Yg K yj "NoKey" = some (some (.ref C))->Subs K C [("Twice",false),("Full",false),("NoKey",true)]
 s_Twice:∀C,Yg K yj "Twice" = some (some (.ref C))->Subs K C [("Twice",true),("Full",false),("NoKey",false)]
 s_Full:∀C,Yg K yj "Full" = some (some (.ref C))->Subs K C [("Twice",false),("Full",true),("NoKey",false)]
 fl_Shelf_nest_of:zSq K "Shelf" "nest_of"
 fl_Shelf_kept_rule:zSq K "Shelf" "kept_rule"
 al_left_layings:mg "left_layings" = mg "left"
 a_Full:AtC K "Full" "some"
 n_enumerate:mg "enumerate" = none
 n_isinstance:mg "isinstance" = none
 n_len:mg "len" = none
 n_list:mg "list" = none
 n_range:mg "range" = none
 n_reversed:mg "reversed" = none
 n_set:mg "set" = none
 n_sorted:mg "sorted" = none
 n_sum:mg "sum" = none
 n_tuple:mg "tuple" = none
 c_DIVISOR:∃t,mg "DIVISOR" = some (.int 10007 t)
 c_MOST_KEYS:∃t,mg "MOST_KEYS" = some (.int 30 t)
def zjc:yK "enumerate" = some (.type "enumerate"):=by decide +kernel
def z8e:yK "isinstance" = some (.builtin "isinstance"):=by decide +kernel
def z9d:yK "len" = some (.builtin "len"):=by decide +kernel
def zQe:yK "list" = some (.type "list"):=by decide +kernel
def zlo:yK "reversed" = some (.type "reversed"):=by decide +kernel
def z1u:yK "set" = some (.type "set"):=by decide +kernel
def zIf:yK "sorted" = some (.builtin "sorted"):=by decide +kernel
def zmy:yK "sum" = some (.builtin "sum"):=by decide +kernel
def zah:yK "tuple" = some (.type "tuple"):=by decide +kernel
section
variable {P:yv}{w:yE}{K:yr}{mg:Str->Option Value}{base:yT}
set_option maxHeartbeats 4000000
abbrev zIc:Stmt:=zDv (top 4)
abbrev ztb:List Str:=["self","some"]
def zzn:FnScope ztb ztb (zy zIc):=by walk_at "s"
def zxm(T:Txt K mg){C NE fI:Addr}{fd:yf}(B:IniAt K mg "Full" "some" "Full.__init__" zIc ztb C NE fI fd):FnOk P w K mg base CX0 1 fI fd ztb (spL C "some"):=by
 refine B.fn.ok (k:=0) zzn (fun vs H Q E ⟨e,a,ns,h,_⟩=>by rw[h];rfl) (fun cdv A outer s H vs Q E hr ⟨e,a,ns,hv,hsm,ha,he,hq⟩=>⟨_,znp (zDr (z1w B.ex B.ne (zoe (pv 0) (zoe (zgu (pv 1) hr.gd hr.units) zUg)))) (z8r (zdr B.ex (pv 0) (zFf zui rfl T.n_list zQe (zoe (pv 1) zUg)))),?_⟩);subst hv
 exact⟨_,rfl,_,rfl,a,ns,rfl,ha,hsm,fun y=>⟨e,_,rfl,he,_,rfl,a,_,rfl, .inl (SqL.of ha),fun l hl=>⟨_,rfl,e,rfl,by rw[zK (zI he hl)];exact he,fun p hp hpe=>by
  have hpl:p≠l:=fun z=>by rw[z,zF]at hp;cases hp
  exact hq l p hl (yF (zI he hl)) (by rwa [zK hpl]at hp) hpe hpl⟩⟩⟩
abbrev zcg:Stmt:=top 36
abbrev zbd:List Str:=["_law_script"]
def zeo:FnScope zsl zbd (zy zcg):=by walk_at "s"
def zUn(T:Txt K mg){f:Addr}{fd:yf}(B:FnAt K mg "_law_pen" zcg zbd f fd):FnOk P w K mg base CX0 1 f fd zbd (spM K 1 z5f):=by
 refine fnM B.fn zeo rfl (fun cdv A outer s H E hr=>⟨z3f,?_,fun _ _ _ _ _ e=>e⟩);have hu:=hr.units;exact(zp (zT (zie (zb (mv 0) (zb (zqw (zHe (zPb hu) (zcb zFb T.n_len z9d (zb (mv 0) zh)) zr) (zPp (zHe (zPb hu) (zCb zye (zP (mv 0) zr) zr) zr))) (zb zr (zb zr zh)))))))
abbrev z2b:Stmt:=zSd (top 34) 0
abbrev zbb:List Str:=["self","rule"]
def zdi:FnScope zxf zbb (zy z2b):=by walk_at "s"
def z9g(T:Txt K mg){C:Addr}{f:Addr}{fd:yf}(B:MakeAt K mg "Shelf" z2b zbb C f fd):FnOk P w K mg base CX0 1 f fd zbb (spM K 2 zV):=by
 refine fnM B.fn zdi rfl (fun cdv A outer s H E hr=>⟨zEc,?_,fun _ _ _ _ _ e=>e⟩);have hu:=hr.units;exact(zj (z7r T.fl_Shelf_kept_rule (mv 0) (mv 1)) (zp (z7r T.fl_Shelf_nest_of (mv 0) z4u)))
abbrev zne:Stmt:=top 37
abbrev zqc:List Str:=["_law_script","_law_k"]
def sc__law_mixed:FnScope zsi zqc (zy zne):=by walk_at "s"
def zMk(T:Txt K mg){f:Addr}{fd:yf}(B:FnAt K mg "_law_mixed" zne zqc f fd):FnOk P w K mg base CX0 1 f fd zqc (spM K 2 z7d):=by
 refine fnM B.fn sc__law_mixed rfl (fun cdv A outer s H E hr=>⟨zje,?_,fun _ _ _ _ _ e=>e⟩);have hu:=hr.units;exact(zj (zU 2 zr (hN:=sc__law_mixed.nd)) (zj (zRc (zab zmr (zcb zFb T.n_len z9d (zb (mv 0) zh)) zr) (zp (zU 2 (zP (mv 0) (zCb zye (mv 1) (zcb zFb T.n_len z9d (zb (mv 0) zh)))) (hN:=sc__law_mixed.nd))) zZ) (zj (zU 3 (zCb zye (zCb zzc (zCb zre (zCb zzc (zCb zzc (mv 2) (zCb zre zr (mv 1))) zr) zr) (zCb zre (mv 1) (mv 1))) zr) (hN:=sc__law_mixed.nd)) (zj (zU 4 (zCb zye (zCb zzc (zCb zzc (zCb zre (mv 3) (mv 3)) (zCb zre zr (mv 3))) (zCb zre zr (mv 1))) zr) (hN:=sc__law_mixed.nd)) (zp (zT (zCb zye (zCb zzc (zCb zzc (zCb zre (mv 4) (mv 4)) (zCb zre zr (mv 4))) (mv 1)) zr)))))))
abbrev z5c:Stmt:=top 38
abbrev zqb:List Str:=["_law_pen_here","_law_many"]
def sc__law_take:FnScope z8j zqb (zy z5c):=by walk_at "s"
def zOl(T:Txt K mg){zDi:Addr}{z7g:yf}(zge:FnAt K mg "_law_mixed" zne zqc zDi z7g)(z1e:FnOk P w K mg base CX0 1 zDi z7g zqc (spM K 2 z7d)){f:Addr}{fd:yf}(B:FnAt K mg "_law_take" z5c zqb f fd):FnOk P w K mg base CX0 2 f fd zqb (spM K 2 zL):=by
 refine fnM B.fn sc__law_take rfl (fun cdv A outer s H E hr=>⟨zYe,?_,fun _ _ _ _ _ e=>e⟩);have hu:=hr.units;exact(zj (z1f (mv 0) (zBw (zMb (zkb 2 (hN:=sc__law_take.nd)) (zMb (zkb 3 (hN:=sc__law_take.nd)) (zMb (zkb 4 (hN:=sc__law_take.nd)) (zMb (zkb 5 (hN:=sc__law_take.nd)) zOg)))))) (zj (z1f (zCb zzc (mv 4) zr) (zZt (mv 0) zr)) (zj (zRc (zJh (mv 3)) (zp (zT (zCb zye (mcall zge z1e hr (zb (mv 2) (zb (mv 4) zh))) (mv 1)))) zZ) (zj (zRc (zab (zPb hu) (zCb zye (mv 4) zr) zr) (zj (zU 5 zr (hN:=sc__law_take.nd)) (zp (zRc (zab zBn (zCb zzc (zCb zDo (mv 4) zr) zr) (zcb zFb T.n_len z9d (zb (mv 2) zh))) (zp (zU 5 (zP (mv 2) (zCb zzc (zCb zDo (mv 4) zr) zr)) (hN:=sc__law_take.nd))) zZ))) zZ) (zj (z1f (zCb zDo (mv 5) (mv 1)) (zZt (mv 0) zr)) (zp (zT (zCb zye (mv 5) (mv 1)))))))))
abbrev zTd:Stmt:=top 39
abbrev zVb:List Str:=["_law_pen_here"]
def sc__law_rule:FnScope zpk zVb (zy zTd):=by walk_at "s"
def zzl(T:Txt K mg){zlc:Addr}{zXb:yf}(zO:FnAt K mg "_law_take" z5c zqb zlc zXb)(zM:FnOk P w K mg base CX0 2 zlc zXb zqb (spM K 2 zL)){f:Addr}{fd:yf}(B:FnAt K mg "_law_rule" zTd zVb f fd):FnOk P w K mg base CX0 3 f fd zVb (spM K 1 zJc):=by
 refine fnM B.fn sc__law_rule rfl (fun cdv A outer s H E hr=>⟨zmf,?_,fun _ _ _ _ _ e=>e⟩);have hu:=hr.units;exact(zj (zU 1 (zCb zzc zr (mcall zO zM hr (zb (mv 0) (zb zr zh)))) (hN:=sc__law_rule.nd)) (zj (zRc (zab (zPb hu) (mcall zO zM hr (zb (mv 0) (zb zr zh))) zr) (zp (zU 1 (zCb zzc zr (mcall zO zM hr (zb (mv 0) (zb zr zh)))) (hN:=sc__law_rule.nd))) zZ) (zj (zU 2 (zP (zie (zb zr (zb zr (zb zr (zb zr zh))))) (mcall zO zM hr (zb (mv 0) (zb zr zh)))) (hN:=sc__law_rule.nd)) (zj (zU 3 (zee z9e T.n_tuple zah (zb (mlc ["_law_nest"] [0,2] (z9i T.n_range (zb (mv 1) zh)) (fun _ _ _ _ _=>(zjb 0 (hN:=zib (by rfl)))) (fun _ _ _ _ _=>zBe) (fun _ _ _ _ _=>(mcall zO zM hr (zb (mv 1) (zb (mv 2) zh)))) (zKb ⟨_,rfl,rfl⟩ (zKb ⟨_,rfl,rfl⟩ zfd))) zh)) (hN:=sc__law_rule.nd)) (zj (zU 4 (zP (zie (zb zr (zb zr (zb zr zh)))) (mcall zO zM hr (zb (mv 0) (zb zr zh)))) (hN:=sc__law_rule.nd)) (zp (zT (z2c (zb (mv 3) (zb (zee z9e T.n_tuple zah (zb (mlc ["_law_k"] [0,4] (z9i T.n_range (zb (zCb zzc zr (mcall zO zM hr (zb (mv 0) (zb zr zh)))) zh)) (fun _ _ _ _ _=>(zjb 0 (hN:=zib (by rfl)))) (fun _ _ _ _ _=>zBe) (fun _ _ _ _ _=>(z2c (zb (mcall zO zM hr (zb (mv 1) (zb (mv 2) zh))) (zb (mcall zO zM hr (zb (mv 1) (zb (mv 2) zh))) zh)))) (zKb ⟨_,rfl,rfl⟩ (zKb ⟨_,rfl,rfl⟩ zfd))) zh)) zh))))))))))
abbrev z8d:Stmt:=top 45
abbrev ztc:List Str:=["_law_pen_here"]
def sc__law_drawn:FnScope zoi ztc (zy z8d):=by walk_at "s"
def zxk(T:Txt K mg){zlc:Addr}{zXb:yf}(zO:FnAt K mg "_law_take" z5c zqb zlc zXb)(zM:FnOk P w K mg base CX0 2 zlc zXb zqb (spM K 2 zL)){zNd:Addr}{zjd:yf}(zec:FnAt K mg "_law_rule" zTd zVb zNd zjd)(zdc:FnOk P w K mg base CX0 3 zNd zjd zVb (spM K 1 zJc)){f:Addr}{fd:yf}(B:FnAt K mg "_law_drawn" z8d ztc f fd):FnOk P w K mg base CX0 4 f fd ztc (spM K 1 zce):=by
 refine fnM B.fn sc__law_drawn rfl (fun cdv A outer s H E hr=>⟨z6d,?_,fun _ _ _ _ _ e=>e⟩);have hu:=hr.units;exact(zj (zU 1 (mcall zO zM hr (zb (mv 0) (zb zr zh))) (hN:=sc__law_drawn.nd)) (zj (zRc (zab (zPb hu) (mv 1) zr) (zp (zT (z2c (zb zLb (zb (mcall zec zdc hr (zb (mv 0) zh)) zh))))) zZ) (zp (zT (z2c (zb (zP (zie (zb zLb (zb zLb (zb zLb (zb zLb (zb zLb (zb zLb (zb zLb zh)))))))) (mv 1)) (zb (mcall zO zM hr (zb (mv 0) (zb zr zh))) zh)))))))
abbrev zN:Stmt:=zSd (top 34) 5
abbrev zw:List Str:=["self"]
def z8g:FnScope zNe zw (zy zN):=by walk_at "s"
def zQg(T:Txt K mg){C:Addr}{f:Addr}{fd:yf}(B:MethAt K "Shelf" "all_there" "Shelf.all_there" zN zw C f fd):FnOk P w K mg base CX0 1 f fd zw (spM K 1 zz):=by
 refine fnM B.fn z8g rfl (fun cdv A outer s H E hr=>⟨zsc,?_,fun _ _ _ _ _ e=>e⟩);have hu:=hr.units;exact(zp (zT (zcb (zFo rfl) T.n_sorted zIf (zb (zKf T.fl_Shelf_nest_of (mv 0)) zh))))
abbrev zLc:Stmt:=zSd (top 34) 6
abbrev zmb:List Str:=["self","h"]
def zJl:FnScope zni zmb (zy zLc):=by walk_at "s"
def zCk(T:Txt K mg){C_Shelf_all_there:Addr}{zu:Addr}{zq:yf}(zo:MethAt K "Shelf" "all_there" "Shelf.all_there" zN zw C_Shelf_all_there zu zq)(zn:FnOk P w K mg base CX0 1 zu zq zw (spM K 1 zz)){C:Addr}{f:Addr}{fd:yf}(B:MethAt K "Shelf" "nest" "Shelf.nest" zLc zmb C f fd):FnOk P w K mg base CX0 2 f fd zmb (spM K 2 zUb):=by
 refine fnM B.fn zJl rfl (fun cdv A outer s H E hr=>⟨z3d,?_,fun _ _ _ _ _ e=>e⟩);have hu:=hr.units;exact(zp (zT (mlc ["key"] [0,1] (z1c (mmeth0 zo zn hr (mv 0))) (fun _ _ _ _ _=>(zjb 0 (hN:=zib (by rfl)))) (fun _ _ _ _ _=>(zCp (zab (zPb hu) (zxp (zKf T.fl_Shelf_nest_of (mv 1)) (mv 0)) (mv 2)))) (fun _ _ _ _ _=>(mv 0)) (zKb ⟨_,rfl,rfl⟩ (zKb ⟨_,rfl,rfl⟩ zfd)))))
abbrev zpl:Stmt:=top 7
abbrev zpe:List Str:=["web","laying"]
def zBv:FnScope zXu zpe (zy zpl):=by walk_at "s"
def zbu(T:Txt K mg){f:Addr}{fd:yf}(B:FnAt K mg "left" zpl zpe f fd):FnOk P w K mg base CX0 1 f fd zpe (spM K 2 zjh):=by
 refine fnM B.fn zBv rfl (fun cdv A outer s H E hr=>⟨zvl,?_,fun _ _ _ _ _ e=>e⟩);have hu:=hr.units;exact(zp (zT (mlc ["nest","room"] [1] (zKg T.n_enumerate zjc (zP (mv 0) zr)) (fun _ _ _ _ _=>(zQo (zJe (zjb 0 (hN:=zib (by rfl))) (zJe (zjb 1 (hN:=zib (by rfl))) zjm)))) (fun _ _ _ _ _=>zBe) (fun _ _ _ _ _=>(zCb zGj (mv 1) (zwu (mv 2) (zb (mv 0) zh)))) (zKb ⟨_,rfl,rfl⟩ zfd))))
abbrev zdm:Stmt:=top 22
abbrev z8f:List Str:=["rule","key"]
def sc_homes:FnScope zQr z8f (zy zdm):=by walk_at "s"
def zHr(T:Txt K mg){f:Addr}{fd:yf}(B:FnAt K mg "homes" zdm z8f f fd):FnOk P w K mg base CX0 1 f fd z8f (spM K 2 zKl):=by
 refine fnM B.fn sc_homes rfl (fun cdv A outer s H E hr=>⟨zAl,?_,fun _ _ _ _ _ e=>e⟩);have hu:=hr.units;exact(zj (zU 2 (zcb zFb T.n_len z9d (zb (zP (mv 0) zr) zh)) (hN:=sc_homes.nd)) (zp (zT (zee z9e T.n_tuple zah (zb (mlc ["way"] [1,2] (z1c (zP (mv 0) zr)) (fun _ _ _ _ _=>(zjb 0 (hN:=zib (by rfl)))) (fun _ _ _ _ _=>zBe) (fun _ _ _ _ _=>(zCb zye (zCb zye (zCb zzc (zCb zre (zP (mv 0) zr) (mv 1)) (zP (mv 0) zr)) (zBr T.c_DIVISOR)) (mv 2))) (zKb ⟨_,rfl,rfl⟩ (zKb ⟨_,rfl,rfl⟩ zfd))) zh)))))
abbrev z9f:Stmt:=top 25
abbrev zBc:List Str:=["rule","keys"]
def zFr:FnScope zjp zBc (zy z9f):=by walk_at "s"
def zhq(T:Txt K mg){zar:Addr}{zop:yf}(zBm:FnAt K mg "homes" zdm z8f zar zop)(zQl:FnOk P w K mg base CX0 1 zar zop z8f (spM K 2 zKl)){f:Addr}{fd:yf}(B:FnAt K mg "web_of" z9f zBc f fd):FnOk P w K mg base CX0 2 f fd zBc (spM K 2 ztd):=by
 refine fnM B.fn zFr rfl (fun cdv A outer s H E hr=>⟨z2i,?_,fun _ _ _ _ _ e=>e⟩);have hu:=hr.units;exact(zp (zT (z2c (zb (zP (mv 0) zr) (zb (zee z9e T.n_tuple zah (zb (mlc ["key"] [0] (z1c (mv 1)) (fun _ _ _ _ _=>(zjb 0 (hN:=zib (by rfl)))) (fun _ _ _ _ _=>zBe) (fun _ _ _ _ _=>(mcall zBm zQl hr (zb (mv 1) (zb (mv 0) zh)))) (zKb ⟨_,rfl,rfl⟩ zfd)) zh)) zh)))))
abbrev z4b:Stmt:=zSd (top 34) 7
abbrev z6:List Str:=["self"]
def zJj:FnScope zGg z6 (zy z4b):=by walk_at "s"
def zOi(T:Txt K mg){C_Shelf_all_there:Addr}{zu:Addr}{zq:yf}(zo:MethAt K "Shelf" "all_there" "Shelf.all_there" zN zw C_Shelf_all_there zu zq)(zn:FnOk P w K mg base CX0 1 zu zq zw (spM K 1 zz)){C:Addr}{f:Addr}{fd:yf}(B:MethAt K "Shelf" "laying" "Shelf.laying" z4b z6 C f fd):FnOk P w K mg base CX0 2 f fd z6 (spM K 1 zIb):=by
 refine fnM B.fn zJj rfl (fun cdv A outer s H E hr=>⟨zdd,?_,fun _ _ _ _ _ e=>e⟩);have hu:=hr.units;exact(zp (zT (mlc ["key"] [0] (z1c (mmeth0 zo zn hr (mv 0))) (fun _ _ _ _ _=>(zjb 0 (hN:=zib (by rfl)))) (fun _ _ _ _ _=>zBe) (fun _ _ _ _ _=>(zxp (zKf T.fl_Shelf_nest_of (mv 1)) (mv 0))) (zKb ⟨_,rfl,rfl⟩ zfd))))
abbrev zcc:Stmt:=zSd (top 34) 8
abbrev z7:List Str:=["self"]
def z0l:FnScope zJi z7 (zy zcc):=by walk_at "s"
def zJk(T:Txt K mg){zwi:Addr}{zZf:yf}(B_left:FnAt K mg "left" zpl zpe zwi zZf)(zPe:FnOk P w K mg base CX0 1 zwi zZf zpe (spM K 2 zjh)){z4d:Addr}{zed:yf}(zcd:FnAt K mg "web_of" z9f zBc z4d zed)(zSc:FnOk P w K mg base CX0 2 z4d zed zBc (spM K 2 ztd)){C_Shelf_laying:Addr}{zDc:Addr}{zfc:yf}(zJb:MethAt K "Shelf" "laying" "Shelf.laying" z4b z6 C_Shelf_laying zDc zfc)(zNb:FnOk P w K mg base CX0 2 zDc zfc z6 (spM K 1 zIb)){C_Shelf_all_there:Addr}{zu:Addr}{zq:yf}(zo:MethAt K "Shelf" "all_there" "Shelf.all_there" zN zw C_Shelf_all_there zu zq)(zn:FnOk P w K mg base CX0 1 zu zq zw (spM K 1 zz)){C:Addr}{f:Addr}{fd:yf}(B:MethAt K "Shelf" "left" "Shelf.left" zcc z7 C f fd):FnOk P w K mg base CX0 3 f fd z7 (spM K 1 z9):=by
 refine fnM B.fn z0l rfl (fun cdv A outer s H E hr=>⟨zbe,?_,fun _ _ _ _ _ e=>e⟩);have hu:=hr.units;exact(zp (zT (mcallA (B_left.al T.al_left_layings) B_left zPe hr (zb (mcall zcd zSc hr (zb (zKf T.fl_Shelf_kept_rule (mv 0)) (zb (mmeth0 zo zn hr (mv 0)) zh))) (zb (mmeth0 zJb zNb hr (mv 0)) zh)))))
abbrev zNc:Stmt:=zSd (top 34) 10
abbrev zpb:List Str:=["self"]
def zIl:FnScope zHi zpb (zy zNc):=by walk_at "s"
def zEk(T:Txt K mg){C:Addr}{f:Addr}{fd:yf}(B:MethAt K "Shelf" "rule" "Shelf.rule" zNc zpb C f fd):FnOk P w K mg base CX0 1 f fd zpb (spM K 1 z9b):=by
 refine fnM B.fn zIl rfl (fun cdv A outer s H E hr=>⟨z1d,?_,fun _ _ _ _ _ e=>e⟩);have hu:=hr.units;exact(zp (zT (zKf T.fl_Shelf_kept_rule (mv 0))))
abbrev zUc:Stmt:=zSd (top 34) 4
abbrev zHb:List Str:=["self","key"]
def zHk:FnScope z5g zHb (zy zUc):=by walk_at "s"
def ztj(T:Txt K mg){C:Addr}{f:Addr}{fd:yf}(B:MethAt K "Shelf" "where" "Shelf.where" zUc zHb C f fd):FnOk P w K mg base CX0 1 f fd zHb (spM K 2 zDd):=by
 refine fnM B.fn zHk rfl (fun cdv A outer s H E hr=>⟨zzd,?_,fun _ _ _ _ _ e=>e⟩);have hu:=hr.units;exact(zp (zT (zyv (zKf T.fl_Shelf_nest_of (mv 0)) (zb (mv 1) zh))))
abbrev zhe:Stmt:=top 43
abbrev zwc:List Str:=["_law_shelf"]
def sc__law_stand:FnScope zKi zwc (zy zhe):=by walk_at "s"
def zLk(T:Txt K mg){C_Shelf_all_there:Addr}{zu:Addr}{zq:yf}(zo:MethAt K "Shelf" "all_there" "Shelf.all_there" zN zw C_Shelf_all_there zu zq)(zn:FnOk P w K mg base CX0 1 zu zq zw (spM K 1 zz)){C_Shelf_nest:Addr}{zmd:Addr}{zTc:yf}(zic:MethAt K "Shelf" "nest" "Shelf.nest" zLc zmb C_Shelf_nest zmd zTc)(zrc:FnOk P w K mg base CX0 2 zmd zTc zmb (spM K 2 zUb)){C_Shelf_left:Addr}{zWb:Addr}{zEb:yf}(zeb:MethAt K "Shelf" "left" "Shelf.left" zcc z7 C_Shelf_left zWb zEb)(zdb:FnOk P w K mg base CX0 3 zWb zEb z7 (spM K 1 z9)){C_Shelf_rule:Addr}{zgd:Addr}{zZc:yf}(zgc:MethAt K "Shelf" "rule" "Shelf.rule" zNc zpb C_Shelf_rule zgd zZc)(zpc:FnOk P w K mg base CX0 1 zgd zZc zpb (spM K 1 z9b)){C_Shelf_where:Addr}{zwh:Addr}{zHg:yf}(zwd:MethAt K "Shelf" "where" "Shelf.where" zUc zHb C_Shelf_where zwh zHg)(zwe:FnOk P w K mg base CX0 1 zwh zHg zHb (spM K 2 zDd)){f:Addr}{fd:yf}(B:FnAt K mg "_law_stand" zhe zwc f fd):FnOk P w K mg base CX0 4 f fd zwc (spM K 1 zfb):=by
 refine fnM B.fn sc__law_stand rfl (fun cdv A outer s H E hr=>⟨z5d,?_,fun _ _ _ _ _ e=>e⟩);have hu:=hr.units;exact(zj (zU 1 (mmeth0 zo zn hr (mv 0)) (hN:=sc__law_stand.nd)) (zj (mslc 2 ["_law_nest"] [0] (z9i T.n_range (zb (zcb zFb T.n_len z9d (zb (mmeth0 zeb zdb hr (mv 0)) zh)) zh)) (fun _ _ _ _ _=>(zjb 0 (hN:=zib (by rfl)))) (fun _ _ _ _ _=>zBe) (fun _ _ _ _ _=>(mmeth zic zrc hr (mv 1) (zb (mv 0) zh))) (zKb ⟨_,rfl,rfl⟩ zfd) sc__law_stand.nd) (zp (zT (z2c (zb (mv 1) (zb (mlc ["_law_key_here"] [0] (z1c (mv 1)) (fun _ _ _ _ _=>(zjb 0 (hN:=zib (by rfl)))) (fun _ _ _ _ _=>zBe) (fun _ _ _ _ _=>(mmeth zwd zwe hr (mv 1) (zb (mv 0) zh))) (zKb ⟨_,rfl,rfl⟩ zfd)) (zb (mv 2) (zb (mmeth0 zeb zdb hr (mv 0)) (zb (mmeth0 zgc zpc hr (mv 0)) zh))))))))))
abbrev zHc:Stmt:=zSd (top 34) 3
abbrev zgb:List Str:=["self","key"]
def zRm:FnScope z7j zgb (zy zHc):=by walk_at "s"
def zJm(T:Txt K mg){C:Addr}{f:Addr}{fd:yf}(B:MethAt K "Shelf" "has" "Shelf.has" zHc zgb C f fd):FnOk P w K mg base CX0 1 f fd zgb (spM K 2 zxb):=by
 refine fnM B.fn zRm rfl (fun cdv A outer s H E hr=>⟨ztf,?_,fun _ _ _ _ _ e=>e⟩);have hu:=hr.units;exact(zp (zT (zHe z0p (mv 1) (zKf T.fl_Shelf_nest_of (mv 0)))))
abbrev zkm:Stmt:=top 10
abbrev z4f:List Str:=["laying","nest"]
def zVt:FnScope zzs z4f (zy zkm):=by walk_at "s"
def zkr(T:Txt K mg){f:Addr}{fd:yf}(B:FnAt K mg "lying" zkm z4f f fd):FnOk P w K mg base CX0 1 f fd z4f (spM K 2 zLm):=by
 refine fnM B.fn zVt rfl (fun cdv A outer s H E hr=>⟨zrm,?_,fun _ _ _ _ _ e=>e⟩);have hu:=hr.units;exact(zp (zT (mlc ["key","place"] [1] (zKg T.n_enumerate zjc (mv 0)) (fun _ _ _ _ _=>(zQo (zJe (zjb 0 (hN:=zib (by rfl))) (zJe (zjb 1 (hN:=zib (by rfl))) zjm)))) (fun _ _ _ _ _=>(zCp (zab (zPb hu) (mv 1) (mv 2)))) (fun _ _ _ _ _=>(mv 0)) (zKb ⟨_,rfl,rfl⟩ zfd))))
abbrev zUe:Stmt:=top 15
abbrev zQc:List Str:=["web","laying","key"]
def sc_pushes_to:FnScope zXj zQc (zy zUe):=by walk_at "s"
def zlm(T:Txt K mg){zWs:Addr}{z8o:yf}(ztm:FnAt K mg "lying" zkm z4f zWs z8o)(zyl:FnOk P w K mg base CX0 1 zWs z8o z4f (spM K 2 zLm)){f:Addr}{fd:yf}(B:FnAt K mg "pushes_to" zUe zQc f fd):FnOk P w K mg base CX0 2 f fd zQc (spM K 3 z2e):=by
 refine fnM B.fn sc_pushes_to rfl (fun cdv A outer s H E hr=>⟨zjf,?_,fun _ _ _ _ _ e=>e⟩);have hu:=hr.units;exact(zj (zU 3 z4u (hN:=sc_pushes_to.nd)) (zj (zGe (z1c (zP (zP (mv 0) zr) (mv 2))) (zkb 4 (hN:=sc_pushes_to.nd)) (zp (z1f (z2c (zb (mv 2) (zb zzg zh))) (z2p (mv 3) (mv 4))))) (zj (zU 5 (zee (zIo rfl) T.n_list zQe (zb (mv 3) zh)) (hN:=sc_pushes_to.nd)) (zj (zU 6 zr (hN:=sc_pushes_to.nd)) (zj (z5l 100000 (zab zBn (mv 6) (zcb zFb T.n_len z9d (zb (mv 5) zh))) (zj (zGe (z1c (mcall ztm zyl hr (zb (mv 1) (zb (zP (mv 5) (mv 6)) zh)))) (zkb 7 (hN:=sc_pushes_to.nd)) (zp (zGe (z1c (zP (zP (mv 0) zr) (mv 7))) (zkb 4 (hN:=sc_pushes_to.nd)) (zp (zRc (zab z5p (mv 4) (mv 3)) (zj (z1f (z2c (zb (mv 7) (zb (zP (mv 5) (mv 6)) zh))) (z2p (mv 3) (mv 4))) (zp (zVd (zoh (mv 5) (zb (mv 4) zh))))) zZ))))) (zp (zBx 6 zDw zr (hN:=sc_pushes_to.nd))))) (zp (zT (mv 3))))))))
abbrev zXi:Stmt:=top 16
abbrev zFe:List Str:=["pushes","nest"]
def sc_row_to:FnScope zNp zFe (zy zXi):=by walk_at "s"
def zpq(T:Txt K mg){f:Addr}{fd:yf}(B:FnAt K mg "row_to" zXi zFe f fd):FnOk P w K mg base CX0 1 f fd zFe (spM K 2 zUi):=by
 refine fnM B.fn sc_row_to rfl (fun cdv A outer s H E hr=>⟨zaj,?_,fun _ _ _ _ _ e=>e⟩);have hu:=hr.units;exact(zj (zU 2 (zie zh) (hN:=sc_row_to.nd)) (zj (z5l 100000 (zab zMf (mv 1) zzg) (zj (zVd (zoh (mv 2) (zb (z2c (zb (zP (zxp (mv 0) (mv 1)) zr) (zb (mv 1) zh))) zh))) (zp (zU 1 (zP (zxp (mv 0) (mv 1)) zr) (hN:=sc_row_to.nd))))) (zp (zT (zOv T.n_list zQe T.n_reversed zlo (mv 2))))))
abbrev zeh:Stmt:=top 17
abbrev zid:List Str:=["web","laying","key"]
def sc_put_in:FnScope zHp zid (zy zeh):=by walk_at "s"
def zDq(T:Txt K mg){zsk:Addr}{zGi:yf}(zef:FnAt K mg "pushes_to" zUe zQc zsk zGi)(zQf:FnOk P w K mg base CX0 2 zsk zGi zQc (spM K 3 z2e)){zwi:Addr}{zZf:yf}(B_left:FnAt K mg "left" zpl zpe zwi zZf)(zPe:FnOk P w K mg base CX0 1 zwi zZf zpe (spM K 2 zjh)){z1o:Addr}{zVn:yf}(zej:FnAt K mg "row_to" zXi zFe z1o zVn)(znj:FnOk P w K mg base CX0 1 z1o zVn zFe (spM K 2 zUi)){f:Addr}{fd:yf}(B:FnAt K mg "put_in" zeh zid f fd):FnOk P w K mg base CX0 3 f fd zid (spM K 3 zVe):=by
 refine fnM B.fn sc_put_in rfl (fun cdv A outer s H E hr=>⟨z7i,?_,fun _ _ _ _ _ e=>e⟩);have hu:=hr.units;exact(zj (zU 3 (mcall zef zQf hr (zb (mv 0) (zb (mv 1) (zb (mv 2) zh)))) (hN:=sc_put_in.nd)) (zj (zU 4 (mcallA (B_left.al T.al_left_layings) B_left zPe hr (zb (mv 0) (zb (mv 1) zh))) (hN:=sc_put_in.nd)) (zj (zGe (zMv (mv 3)) (zkb 5 (hN:=sc_put_in.nd)) (zp (zRc (zab zmr (zP (mv 4) (mv 5)) zr) (zp (zT (z2c (zb zLb (zb (mcall zej znj hr (zb (mv 3) (zb (mv 5) zh))) zh))))) zZ))) (zp (zT (z2c (zb zLb (zb (mlc ["other","nest"] [2,3] (zKg T.n_enumerate zjc (mv 1)) (fun _ _ _ _ _=>(zQo (zJe (zjb 0 (hN:=zib (by rfl))) (zJe (zjb 1 (hN:=zib (by rfl))) zjm)))) (fun _ _ _ _ _=>(zCp (MW.mt (zgs (zab (zPb hu) (mv 0) (mv 2)) (zHn (zab z0p (mv 1) (mv 3))))))) (fun _ _ _ _ _=>(mv 0)) (zKb ⟨_,rfl,rfl⟩ (zKb ⟨_,rfl,rfl⟩ zfd))) zh))))))))
abbrev zQd:Stmt:=zSd (top 34) 1
abbrev zhc:List Str:=["self","key"]
def sc_Shelf_put:FnScope zrj zhc (zy zQd):=by walk_at "s"
def zsm(T:Txt K mg){C_Shelf_has:Addr}{z7b:Addr}{zTb:yf}(zyb:MethAt K "Shelf" "has" "Shelf.has" zHc zgb C_Shelf_has z7b zTb)(zsb:FnOk P w K mg base CX0 1 z7b zTb zgb (spM K 2 zxb)){zNh:Addr}{zJf:yf}(zkf:FnAt K mg "put_in" zeh zid zNh zJf)(zKe:FnOk P w K mg base CX0 3 zNh zJf zid (spM K 3 zVe)){C_Shelf_all_there:Addr}{zu:Addr}{zq:yf}(zo:MethAt K "Shelf" "all_there" "Shelf.all_there" zN zw C_Shelf_all_there zu zq)(zn:FnOk P w K mg base CX0 1 zu zq zw (spM K 1 zz)){z4d:Addr}{zed:yf}(zcd:FnAt K mg "web_of" z9f zBc z4d zed)(zSc:FnOk P w K mg base CX0 2 z4d zed zBc (spM K 2 ztd)){C_Shelf_laying:Addr}{zDc:Addr}{zfc:yf}(zJb:MethAt K "Shelf" "laying" "Shelf.laying" z4b z6 C_Shelf_laying zDc zfc)(zNb:FnOk P w K mg base CX0 2 zDc zfc z6 (spM K 1 zIb)){zlk z5n zek:Addr}{fd_init_Full:yf}(B_init_Full:IniAt K mg "Full" "some" "Full.__init__" zIc ztb zlk z5n zek fd_init_Full)(ok_init_Full:FnOk P w K mg base CX0 1 zek fd_init_Full ztb (spL zlk "some")){C:Addr}{f:Addr}{fd:yf}(B:MethAt K "Shelf" "put" "Shelf.put" zQd zhc C f fd):FnOk P w K mg base (CXq P w) 4 f fd zhc (spX K 2 zZd):=by
 obtain⟨z8n,n_Twice,m_Twice,k_Twice⟩:=T.x_Twice;refine fnX B.fn sc_Shelf_put rfl (fun cdv A outer s H E hr=>⟨zlf,?_,fun _ _ _ _ e=>e⟩);have hu:=hr.units;exact(zj (zRc (zJh (mmeth zyb zsb hr (mv 0) (zb (mv 1) zh))) (zp (z4o n_Twice (T.e_Twice z8n n_Twice) xp (zb zLb zh))) zZ) (zj (zU 2 (zCb zzc (mmeth0 zo zn hr (mv 0)) (zie (zb (mv 1) zh))) (hN:=sc_Shelf_put.nd)) (zj (zRc (zab zmr (zcb zFb T.n_len z9d (zb (mv 2) zh)) (zBr T.c_MOST_KEYS)) (zp (zNj B_init_Full.nm B_init_Full.ex ok_init_Full B_init_Full.bd hr (zb (zcb (zok rfl) T.n_sorted zIf (zb (mv 2) zh)) zh))) zZ) (zj (zU 3 (mcall zkf zKe hr (zb (mcall zcd zSc hr (zb (zKf T.fl_Shelf_kept_rule (mv 0)) (zb (mv 2) zh))) (zb (zCb zzc (mmeth0 zJb zNb hr (mv 0)) (zie (zb zzg zh))) (zb (zCb zGj (zcb zFb T.n_len z9d (zb (mv 2) zh)) zr) zh)))) (hN:=sc_Shelf_put.nd)) (zj (zRc (zab (zPb hu) (zP (mv 3) zr) zLb) (zp (zNj B_init_Full.nm B_init_Full.ex ok_init_Full B_init_Full.bd hr (zb (zcb (zok rfl) T.n_sorted zIf (zb (mlc ["place"] [2] (z1c (zP (mv 3) zr)) (fun _ _ _ _ _=>(zjb 0 (hN:=zib (by rfl)))) (fun _ _ _ _ _=>zBe) (fun _ _ _ _ _=>(zP (mv 1) (mv 0))) (zKb ⟨_,rfl,rfl⟩ zfd)) zh)) zh))) zZ) (zj (mslc 4 ["push"] [2] (z1c (zP (mv 3) zr)) (fun _ _ _ _ _=>(zjb 0 (hN:=zib (by rfl)))) (fun _ _ _ _ _=>zBe) (fun _ _ _ _ _=>(z2c (zb (zP (mv 1) (zP (mv 0) zr)) (zb (zP (mv 0) zr) zh)))) (zKb ⟨_,rfl,rfl⟩ zfd) sc_Shelf_put.nd) (zj (zGe (z1c (mv 4)) (zkb 5 (hN:=sc_Shelf_put.nd)) (zp (z1f (zP (mv 5) zr) (z2p (zKf T.fl_Shelf_nest_of (mv 0)) (zP (mv 5) zr))))) (zp (zT (mv 4))))))))))
abbrev zYd:Stmt:=zSd (top 34) 2
abbrev z6b:List Str:=["self","key"]
def zAn:FnScope zfk z6b (zy zYd):=by walk_at "s"
def zEl(T:Txt K mg){C_Shelf_has:Addr}{z7b:Addr}{zTb:yf}(zyb:MethAt K "Shelf" "has" "Shelf.has" zHc zgb C_Shelf_has z7b zTb)(zsb:FnOk P w K mg base CX0 1 z7b zTb zgb (spM K 2 zxb)){C:Addr}{f:Addr}{fd:yf}(B:MethAt K "Shelf" "out" "Shelf.out" zYd z6b C f fd):FnOk P w K mg base (CXq P w) 2 f fd z6b (spX K 2 zof):=by
 obtain⟨zro,n_NoKey,m_NoKey,k_NoKey⟩:=T.x_NoKey;refine fnX B.fn zAn rfl (fun cdv A outer s H E hr=>⟨z0e,?_,fun _ _ _ _ e=>e⟩);have hu:=hr.units;exact(zj (zRc (zdt (zJh (mmeth zyb zsb hr (mv 0) (zb (mv 1) zh)))) (zp (z4o n_NoKey (T.e_NoKey zro n_NoKey) xp (zb zLb zh))) zZ) (zp (zT (zzv (zKf T.fl_Shelf_nest_of (mv 0)) (zb (mv 1) zh)))))
abbrev zEm:Stmt:=top 9
abbrev zag:List Str:=["web","laying"]
def sc_fault:FnScope zbt zag (zy zEm):=by walk_at "s"
def zxs(T:Txt K mg){zwi:Addr}{zZf:yf}(B_left:FnAt K mg "left" zpl zpe zwi zZf)(zPe:FnOk P w K mg base CX0 1 zwi zZf zpe (spM K 2 zjh)){f:Addr}{fd:yf}(B:FnAt K mg "fault" zEm zag f fd):FnOk P w K mg base CX0 2 f fd zag (spM K 2 z7l):=by
 refine fnM B.fn sc_fault rfl (fun cdv A outer s H E hr=>⟨zAm,?_,fun _ _ _ _ _ e=>e⟩);have hu:=hr.units;exact(zj (zGe (zKg T.n_enumerate zjc (mv 1)) (zll (zMb (zkb 2 (hN:=sc_fault.nd)) (zMb (zkb 3 (hN:=sc_fault.nd)) zOg))) (zp (zRc (MW.mt (zYu (zab zMf (mv 3) zzg) (zTr (zab zCj (mv 3) (zP (zP (mv 0) zr) (mv 2)))))) (zp (zT (z2c (zb zLb (zb (mv 2) zh))))) zZ))) (zj (zGe (zKg T.n_enumerate zjc (mcallA (B_left.al T.al_left_layings) B_left zPe hr (zb (mv 0) (zb (mv 1) zh)))) (zll (zMb (zkb 3 (hN:=sc_fault.nd)) (zMb (zkb 4 (hN:=sc_fault.nd)) zOg))) (zp (zRc (zab zBn (mv 4) zr) (zp (zT (z2c (zb zLb (zb (mv 3) zh))))) zZ))) (zp (zT zzg))))
abbrev zlh:Stmt:=top 12
abbrev zId:List Str:=["web","laying","row","at"]
def sc_is_push:FnScope zUm zId (zy zlh):=by walk_at "s"
def z2n(T:Txt K mg){f:Addr}{fd:yf}(B:FnAt K mg "is_push" zlh zId f fd):FnOk P w K mg base CX0 1 f fd zId (spM K 4 zph):=by
 refine fnM B.fn sc_is_push rfl (fun cdv A outer s H E hr=>⟨zch,?_,fun _ _ _ _ _ e=>e⟩);have hu:=hr.units;exact(zj (zU 4 (zP (zP (mv 2) (mv 3)) zr) (hN:=sc_is_push.nd)) (zj (zRc (MW.mt (zgs (zab zBn (mv 4) zr) (zHn (zab zDy (mv 4) (zcb zFb T.n_len z9d (zb (mv 1) zh)))))) (zp (zT zSu)) zZ) (zj (zRc (MW.mt (zgs (zab zCj (zP (zP (mv 2) (mv 3)) zr) (zP (zP (mv 0) zr) (mv 4))) (zHn (zab (zPb hu) (zP (zP (mv 2) (mv 3)) zr) (zP (mv 1) (mv 4)))))) (zp (zT zSu)) zZ) (zp (zT (zHe zCj (mv 4) (mlc ["push"] [] (z1c (zCz (mv 2) zqz (z0x (mv 3)))) (fun _ _ _ _ _=>(zjb 0 (hN:=zib (by rfl)))) (fun _ _ _ _ _=>zBe) (fun _ _ _ _ _=>(zP (mv 0) zr)) zfd)))))))
abbrev zZg:Stmt:=top 13
abbrev zJd:List Str:=["laying","key","row","at"]
def zRq:FnScope zZn zJd (zy zZg):=by walk_at "s"
def zbo(T:Txt K mg){f:Addr}{fd:yf}(B:FnAt K mg "follows" zZg zJd f fd):FnOk P w K mg base CX0 1 f fd zJd (spM K 4 zkh):=by
 refine fnM B.fn zRq rfl (fun cdv A outer s H E hr=>⟨zRh,?_,fun _ _ _ _ _ e=>e⟩);have hu:=hr.units;exact(zj (zRc (zab (zPb hu) (mv 3) zr) (zp (zT (zHe (zPb hu) (zP (zP (mv 2) zr) zr) (mv 1)))) zZ) (zp (zT (zHe (zPb hu) (zP (mv 0) (zP (zP (mv 2) (mv 3)) zr)) (zP (zP (mv 2) (zCb zGj (mv 3) zr)) zr)))))
abbrev zdj:Stmt:=top 14
abbrev zIe:List Str:=["web","laying","key","row"]
def sc_pushed:FnScope z1p zIe (zy zdj):=by walk_at "s"
def zuq(T:Txt K mg){zXs:Addr}{zZp:yf}(zZl:FnAt K mg "fault" zEm zag zXs zZp)(zDm:FnOk P w K mg base CX0 2 zXs zZp zag (spM K 2 z7l)){zLn:Addr}{zwl:yf}(zth:FnAt K mg "is_push" zlh zId zLn zwl)(zei:FnOk P w K mg base CX0 1 zLn zwl zId (spM K 4 zph)){z7m:Addr}{zWk:yf}(zXh:FnAt K mg "follows" zZg zJd z7m zWk)(z8h:FnOk P w K mg base CX0 1 z7m zWk zJd (spM K 4 zkh)){f:Addr}{fd:yf}(B:FnAt K mg "pushed" zdj zIe f fd):FnOk P w K mg base CX0 3 f fd zIe (spM K 4 zWi):=by
 refine fnM B.fn sc_pushed rfl (fun cdv A outer s H E hr=>⟨zTi,?_,fun _ _ _ _ _ e=>e⟩);have hu:=hr.units;exact(zj (zU 4 (zee z4h T.n_list zQe (zb (mv 1) zh)) (hN:=sc_pushed.nd)) (zj (zGe (zKg T.n_enumerate zjc (mv 3)) (zll (zMb (zkb 5 (hN:=sc_pushed.nd)) (zMb (zkb 6 (hN:=sc_pushed.nd)) zOg))) (zj (zRc (zdt (MW.mt (zYu (zJh (mcall zth zei hr (zb (mv 0) (zb (mv 1) (zb (mv 3) (zb (mv 5) zh)))))) (zTr (zJh (mcall zXh z8h hr (zb (mv 1) (zb (mv 2) (zb (mv 3) (zb (mv 5) zh)))))))))) (zp zBp) zZ) (zp (z1f (zP (mv 6) zr) (zZt (mv 4) (zP (mv 6) zr)))))) (zj (zRc (MW.mt (zgs (zab (zPb hu) (zcb zFb T.n_len z9d (zb (mv 3) zh)) zr) (zHn (zab zMf (mcall zZl zDm hr (zb (mv 0) (zb (mv 4) zh))) zzg)))) (zp zBp) zZ) (zp (zT (mv 4))))))
abbrev zTe:Stmt:=top 18
abbrev zKc:List Str:=["web","laying","keys"]
def sc_laid_more:FnScope zdk zKc (zy zTe):=by walk_at "s"
def zvm(T:Txt K mg){zNh:Addr}{zJf:yf}(zkf:FnAt K mg "put_in" zeh zid zNh zJf)(zKe:FnOk P w K mg base CX0 3 zNh zJf zid (spM K 3 zVe)){zRp:Addr}{zWn:yf}(z6i:FnAt K mg "pushed" zdj zIe zRp zWn)(zxj:FnOk P w K mg base CX0 3 zRp zWn zIe (spM K 4 zWi)){f:Addr}{fd:yf}(B:FnAt K mg "laid_more" zTe zKc f fd):FnOk P w K mg base CX0 4 f fd zKc (spM K 3 z7e):=by
 refine fnM B.fn sc_laid_more rfl (fun cdv A outer s H E hr=>⟨z3e,?_,fun _ _ _ _ _ e=>e⟩);have hu:=hr.units;exact(zj (zU 3 (zie zh) (hN:=sc_laid_more.nd)) (zj (zGe (z1c (mv 2)) (zkb 4 (hN:=sc_laid_more.nd)) (zj (zU 5 (mcall zkf zKe hr (zb (mv 0) (zb (mv 1) (zb (mv 4) zh)))) (hN:=sc_laid_more.nd)) (zp (zRc (zab (zPb hu) (zP (mv 5) zr) zLb) (zp (zU 1 (mcall z6i zxj hr (zb (mv 0) (zb (mv 1) (zb (mv 4) (zb (zP (mv 5) zr) zh))))) (hN:=sc_laid_more.nd))) (zp (zVd (zFn (mv 3) (zb (zP (mv 5) zr) zh)))))))) (zp (zT (z2c (zb (mv 1) (zb (zbr T.n_sorted zIf T.n_set z1u (mv 3)) zh)))))))
abbrev zyd:Stmt:=top 19
abbrev z3b:List Str:=["web"]
def zFk:FnScope zWh z3b (zy zyd):=by walk_at "s"
def zhj(T:Txt K mg){zYj:Addr}{zAi:yf}(zsf:FnAt K mg "laid_more" zTe zKc zYj zAi)(zNf:FnOk P w K mg base CX0 4 zYj zAi zKc (spM K 3 z7e)){f:Addr}{fd:yf}(B:FnAt K mg "laid_at_all" zyd z3b f fd):FnOk P w K mg base CX0 5 f fd z3b (spM K 1 zAd):=by
 refine fnM B.fn zFk rfl (fun cdv A outer s H E hr=>⟨zEd,?_,fun _ _ _ _ _ e=>e⟩);have hu:=hr.units;exact(zp (zT (mcall zsf zNf hr (zb (mv 0) (zb (zCb zre (zie (zb zzg zh)) (zcb zFb T.n_len z9d (zb (zP (mv 0) zr) zh))) (zb (z2r T.n_list zQe T.n_range (zcb zFb T.n_len z9d (zb (zP (mv 0) zr) zh))) zh))))))
abbrev zYh:Stmt:=top 27
abbrev zKd:List Str:=["web","nests"]
def ztq:FnScope zCn zKd (zy zYh):=by walk_at "s"
def zoo(T:Txt K mg){f:Addr}{fd:yf}(B:FnAt K mg "room_of" zYh zKd f fd):FnOk P w K mg base CX0 1 f fd zKd (spM K 2 z0g):=by
 refine fnM B.fn ztq rfl (fun cdv A outer s H E hr=>⟨zCh,?_,fun _ _ _ _ _ e=>e⟩);have hu:=hr.units;exact(zp (zT (zcb (zlr rfl) T.n_sum zmy (zb (mlc ["nest"] [0] (z1c (mv 1)) (fun _ _ _ _ _=>(zjb 0 (hN:=zib (by rfl)))) (fun _ _ _ _ _=>zBe) (fun _ _ _ _ _=>(zP (zP (mv 1) zr) (mv 0))) (zKb ⟨_,rfl,rfl⟩ zfd)) zh))))
abbrev zhg:Stmt:=top 26
abbrev z6c:List Str:=["web","some"]
def sc_homes_of:FnScope zZk z6c (zy zhg):=by walk_at "s"
def zxn(T:Txt K mg){f:Addr}{fd:yf}(B:FnAt K mg "homes_of" zhg z6c f fd):FnOk P w K mg base CX0 1 f fd z6c (spM K 2 zgg):=by
 refine fnM B.fn sc_homes_of rfl (fun cdv A outer s H E hr=>⟨z2f,?_,fun _ _ _ _ _ e=>e⟩);have hu:=hr.units;exact(zj (zU 2 (zie zh) (hN:=sc_homes_of.nd)) (zj (zGe (z1c (mv 1)) (zkb 3 (hN:=sc_homes_of.nd)) (zp (zVd (zFn (mv 2) (zb (zP (zP (mv 0) zr) (mv 3)) zh))))) (zp (zT (zbr T.n_sorted zIf T.n_set z1u (mv 2))))))
abbrev zmg:Stmt:=top 29
abbrev z9c:List Str:=["web","some"]
def zqo:FnScope zkl z9c (zy zmg):=by walk_at "s"
def zMn(T:Txt K mg){zTm:Addr}{zUk:yf}(z3g:FnAt K mg "room_of" zYh zKd zTm zUk)(zhi:FnOk P w K mg base CX0 1 zTm zUk zKd (spM K 2 z0g)){zxl:Addr}{zVj:yf}(zeg:FnAt K mg "homes_of" zhg z6c zxl zVj)(zNg:FnOk P w K mg base CX0 1 zxl zVj z6c (spM K 2 zgg)){f:Addr}{fd:yf}(B:FnAt K mg "is_crowd" zmg z9c f fd):FnOk P w K mg base CX0 2 f fd z9c (spM K 2 z6f):=by
 refine fnM B.fn zqo rfl (fun cdv A outer s H E hr=>⟨zjg,?_,fun _ _ _ _ _ e=>e⟩);have hu:=hr.units;exact(zp (zT (zHe zBn (mcall z3g zhi hr (zb (mv 0) (zb (mcall zeg zNg hr (zb (mv 0) (zb (mv 1) zh))) zh))) (zcb zFb T.n_len z9d (zb (mv 1) zh)))))
abbrev znf:Stmt:=top 30
abbrev zPc:List Str:=["web","some"]
def sc_spare_key:FnScope zmk zPc (zy znf):=by walk_at "s"
def zem(T:Txt K mg){zdl:Addr}{zpj:yf}(zfg:FnAt K mg "is_crowd" zmg z9c zdl zpj)(zMg:FnOk P w K mg base CX0 2 zdl zpj z9c (spM K 2 z6f)){f:Addr}{fd:yf}(B:FnAt K mg "spare_key" znf zPc f fd):FnOk P w K mg base CX0 3 f fd zPc (spM K 2 zOd):=by
 refine fnM B.fn sc_spare_key rfl (fun cdv A outer s H E hr=>⟨zqf,?_,fun _ _ _ _ _ e=>e⟩);have hu:=hr.units;exact(zj (zGe (z1c (mv 1)) (zkb 2 (hN:=sc_spare_key.nd)) (zp (zRc (zJh (mcall zfg zMg hr (zb (mv 0) (zb (mlc ["other"] [2] (z1c (mv 1)) (fun _ _ _ _ _=>(zjb 0 (hN:=zib (by rfl)))) (fun _ _ _ _ _=>(zCp (zab (zYr hu) (mv 0) (mv 1)))) (fun _ _ _ _ _=>(mv 0)) (zKb ⟨_,rfl,rfl⟩ zfd)) zh)))) (zp (zT (mv 2))) zZ))) (zp (zT zzg)))
abbrev znh:Stmt:=top 31
abbrev zHd:List Str:=["web","some"]
def sc_trimmed:FnScope z3m zHd (zy znh):=by walk_at "s"
def zho(T:Txt K mg){zck:Addr}{zyi:yf}(zUd:FnAt K mg "spare_key" znf zPc zck zyi)(zle:FnOk P w K mg base CX0 3 zck zyi zPc (spM K 2 zOd)){f:Addr}{fd:yf}(B:FnAt K mg "trimmed" znh zHd f fd):FnOk P w K mg base CX0 4 f fd zHd (spM K 2 zMh):=by
 refine fnM B.fn sc_trimmed rfl (fun cdv A outer s H E hr=>⟨zqh,?_,fun _ _ _ _ _ e=>e⟩);have hu:=hr.units;exact(zj (zU 2 (zee z4h T.n_list zQe (zb (mv 1) zh)) (hN:=sc_trimmed.nd)) (zj (zU 3 (mcall zUd zle hr (zb (mv 0) (zb (mv 2) zh))) (hN:=sc_trimmed.nd)) (zj (z5l 100000 (zab zMf (mv 3) zzg) (zj (zVd (zus (mv 2) (zb (mv 3) zh))) (zp (zU 3 (mcall zUd zle hr (zb (mv 0) (zb (mv 2) zh))) (hN:=sc_trimmed.nd))))) (zp (zT (mv 2))))))
abbrev zcj:Stmt:=top 32
abbrev zCe:List Str:=["web"]
def sc_fitted:FnScope zmp zCe (zy zcj):=by walk_at "s"
def z4p(T:Txt K mg){zgh:Addr}{zDg:yf}(zGd:FnAt K mg "laid_at_all" zyd z3b zgh zDg)(zqe:FnOk P w K mg base CX0 5 zgh zDg z3b (spM K 1 zAd)){zNm:Addr}{zql:yf}(zTg:FnAt K mg "trimmed" znh zHd zNm zql)(zci:FnOk P w K mg base CX0 4 zNm zql zHd (spM K 2 zMh)){f:Addr}{fd:yf}(B:FnAt K mg "fitted" zcj zCe f fd):FnOk P w K mg base CX0 6 f fd zCe (spM K 1 zRi):=by
 refine fnM B.fn sc_fitted rfl (fun cdv A outer s H E hr=>⟨zbj,?_,fun _ _ _ _ _ e=>e⟩);have hu:=hr.units;exact(zj (zU 1 (mcall zGd zqe hr (zb (mv 0) zh)) (hN:=sc_fitted.nd)) (zj (zRc (zab (zPb hu) (zP (mv 1) zr) (zie zh)) (zp (zT (z2c (zb zLb (zb (zP (mv 1) zr) zh))))) zZ) (zp (zT (z2c (zb zLb (zb (mcall zTg zci hr (zb (mv 0) (zb (zP (mv 1) zr) zh))) zh)))))))
abbrev z0c:Stmt:=zSd (top 34) 9
abbrev zGb:List Str:=["self","rule"]
def sc_Shelf_renew:FnScope zYg zGb (zy z0c):=by walk_at "s"
def zuj(T:Txt K mg){C_Shelf_all_there:Addr}{zu:Addr}{zq:yf}(zo:MethAt K "Shelf" "all_there" "Shelf.all_there" zN zw C_Shelf_all_there zu zq)(zn:FnOk P w K mg base CX0 1 zu zq zw (spM K 1 zz)){zbp:Addr}{zXn:yf}(z3i:FnAt K mg "fitted" zcj zCe zbp zXn)(zIj:FnOk P w K mg base CX0 6 zbp zXn zCe (spM K 1 zRi)){z4d:Addr}{zed:yf}(zcd:FnAt K mg "web_of" z9f zBc z4d zed)(zSc:FnOk P w K mg base CX0 2 z4d zed zBc (spM K 2 ztd)){zlk z5n zek:Addr}{fd_init_Full:yf}(B_init_Full:IniAt K mg "Full" "some" "Full.__init__" zIc ztb zlk z5n zek fd_init_Full)(ok_init_Full:FnOk P w K mg base CX0 1 zek fd_init_Full ztb (spL zlk "some")){C:Addr}{f:Addr}{fd:yf}(B:MethAt K "Shelf" "renew" "Shelf.renew" z0c zGb C f fd):FnOk P w K mg base (CXq P w) 7 f fd zGb (spX K 2 zBd):=by
 refine fnX B.fn sc_Shelf_renew rfl (fun cdv A outer s H E hr=>⟨zud,?_,fun _ _ _ _ e=>e⟩);have hu:=hr.units;exact(zj (zU 2 (mmeth0 zo zn hr (mv 0)) (hN:=sc_Shelf_renew.nd)) (zj (zU 3 (mcall z3i zIj hr (zb (mcall zcd zSc hr (zb (mv 1) (zb (mv 2) zh))) zh)) (hN:=sc_Shelf_renew.nd)) (zj (zRc (zab (zPb hu) (zP (mv 3) zr) zLb) (zp (zNj B_init_Full.nm B_init_Full.ex ok_init_Full B_init_Full.bd hr (zb (mlc ["place"] [2] (z1c (zP (mv 3) zr)) (fun _ _ _ _ _=>(zjb 0 (hN:=zib (by rfl)))) (fun _ _ _ _ _=>zBe) (fun _ _ _ _ _=>(zP (mv 1) (mv 0))) (zKb ⟨_,rfl,rfl⟩ zfd)) zh))) zZ) (zj (z7r T.fl_Shelf_kept_rule (mv 0) (mv 1)) (zp (zGe (zKg T.n_enumerate zjc (mv 2)) (zll (zMb (zkb 4 (hN:=sc_Shelf_renew.nd)) (zMb (zkb 5 (hN:=sc_Shelf_renew.nd)) zOg))) (zp (z1f (zP (zP (mv 3) zr) (mv 4)) (z2p (zKf T.fl_Shelf_nest_of (mv 0)) (mv 5))))))))))
abbrev zbf:Stmt:=top 42
abbrev zMc:List Str:=["_law_shelf","_law_deed_here"]
def sc__law_deed:FnScope zqk zMc (zy zbf):=by walk_at "s"
def zRl(T:Txt K mg){C_Shelf_put:Addr}{zyj:Addr}{zNi:yf}(zXe:MethAt K "Shelf" "put" "Shelf.put" zQd zhc C_Shelf_put zyj zNi)(zSf:FnOk P w K mg base (CXq P w) 4 zyj zNi zhc (spX K 2 zZd)){C_Shelf_out:Addr}{zAj:Addr}{zLi:yf}(zrf:MethAt K "Shelf" "out" "Shelf.out" zYd z6b C_Shelf_out zAj zLi)(z0f:FnOk P w K mg base (CXq P w) 2 zAj zLi z6b (spX K 2 zof)){C_Shelf_renew:Addr}{z6g:Addr}{zug:yf}(zxd:MethAt K "Shelf" "renew" "Shelf.renew" z0c zGb C_Shelf_renew z6g zug)(zue:FnOk P w K mg base (CXq P w) 7 z6g zug zGb (spX K 2 zBd)){f:Addr}{fd:yf}(B:FnAt K mg "_law_deed" zbf zMc f fd):FnOk P w K mg base CX0 8 f fd zMc (spM K 2 z8b):=by
 obtain⟨zlk,n_Full,m_Full,k_Full⟩:=T.x_Full;obtain⟨z8n,n_Twice,m_Twice,k_Twice⟩:=T.x_Twice;obtain⟨zro,n_NoKey,m_NoKey,k_NoKey⟩:=T.x_NoKey;refine fnM B.fn sc__law_deed rfl (fun cdv A outer s H E hr=>⟨zmc,?_,fun _ _ _ _ _ e=>e⟩);have hu:=hr.units;exact(zj (z1f (mv 1) (zll (zMb (zkb 2 (hN:=sc__law_deed.nd)) (zMb (zkb 3 (hN:=sc__law_deed.nd)) zOg)))) (zj (zU 4 zLb (hN:=sc__law_deed.nd)) (zj (zoy (zwn (zGx (zab (zPb hu) (mv 2) zLb) (zwn (zBo 4 zXe zSf hr (mv 0) (zb (mv 3) zh) (hN:=sc__law_deed.nd))) (zwn (zGx (zab (zPb hu) (mv 2) zLb) (zwn (zBo 4 zrf z0f hr (mv 0) (zb (mv 3) zh) (hN:=sc__law_deed.nd))) (zwn (zBo 4 zxd zue hr (mv 0) (zb (mv 3) zh) (hN:=sc__law_deed.nd))))))) (zzz 5 [("Twice",false),("Full",true),("NoKey",false)] n_Full k_Full (T.s_Full zlk n_Full) (fun _=>(zp (zU 4 (z2c (zb zLb (zb (zbz T.a_Full (mv 5)) zh))) (hN:=sc__law_deed.nd)))) (zur [("Twice",true),("Full",false),("NoKey",false)] n_Twice k_Twice (T.s_Twice z8n n_Twice) (fun _=>(zp (zU 4 zLb (hN:=sc__law_deed.nd)))) (zur [("Twice",false),("Full",false),("NoKey",true)] n_NoKey k_NoKey (T.s_NoKey zro n_NoKey) (fun _=>(zp (zU 4 zLb (hN:=sc__law_deed.nd)))) z5v)) (hN:=sc__law_deed.nd))) (zp (zT (mv 4))))))
abbrev zfe:Stmt:=top 44
abbrev zvc:List Str:=["_law_shelf","_law_answer"]
def zGm:FnScope zti zvc (zy zfe):=by walk_at "s"
def zAk(T:Txt K mg){C_Shelf_all_there:Addr}{zu:Addr}{zq:yf}(zo:MethAt K "Shelf" "all_there" "Shelf.all_there" zN zw C_Shelf_all_there zu zq)(zn:FnOk P w K mg base CX0 1 zu zq zw (spM K 1 zz)){C_Shelf_left:Addr}{zWb:Addr}{zEb:yf}(zeb:MethAt K "Shelf" "left" "Shelf.left" zcc z7 C_Shelf_left zWb zEb)(zdb:FnOk P w K mg base CX0 3 zWb zEb z7 (spM K 1 z9)){C_Shelf_nest:Addr}{zmd:Addr}{zTc:yf}(zic:MethAt K "Shelf" "nest" "Shelf.nest" zLc zmb C_Shelf_nest zmd zTc)(zrc:FnOk P w K mg base CX0 2 zmd zTc zmb (spM K 2 zUb)){f:Addr}{fd:yf}(B:FnAt K mg "_law_spoil" zfe zvc f fd):FnOk P w K mg base CX0 4 f fd zvc (spM K 2 znd):=by
 refine fnM B.fn zGm rfl (fun cdv A outer s H E hr=>⟨zae,?_,fun _ _ _ _ _ e=>e⟩);have hu:=hr.units;exact(zj (zRc (zJh (zcb (zFj .lst) T.n_isinstance z8e (zb (mv 1) (zb (zAr T.n_list zQe) zh)))) (zp (zVd (zom (mv 1)))) zZ) (zj (zRc (zJh (zcb (zFj .tup) T.n_isinstance z8e (zb (mv 1) (zb (zAr T.n_tuple zah) zh)))) (zp (zVd (zom (zP (mv 1) zr)))) zZ) (zj (zVd (zoh (mmeth0 zo zn hr (mv 0)) (zb (zWu zr) zh))) (zj (zVd (zom (mmeth0 zeb zdb hr (mv 0)))) (zp (zVd (zoh (mmeth zic zrc hr (mv 0) (zb zr zh)) (zb (zWu zr) zh))))))))
abbrev zYc:Stmt:=top 46
abbrev zBb:List Str:=["_law_shelf","_law_deed_here","_law_answer"]
def sc__law_answered:FnScope zDf zBb (zy zYc):=by walk_at "s"
def zgi(T:Txt K mg){C_Shelf_has:Addr}{z7b:Addr}{zTb:yf}(zyb:MethAt K "Shelf" "has" "Shelf.has" zHc zgb C_Shelf_has z7b zTb)(zsb:FnOk P w K mg base CX0 1 z7b zTb zgb (spM K 2 zxb)){C_Shelf_rule:Addr}{zgd:Addr}{zZc:yf}(zgc:MethAt K "Shelf" "rule" "Shelf.rule" zNc zpb C_Shelf_rule zgd zZc)(zpc:FnOk P w K mg base CX0 1 zgd zZc zpb (spM K 1 z9b)){f:Addr}{fd:yf}(B:FnAt K mg "_law_answered" zYc zBb f fd):FnOk P w K mg base CX0 2 f fd zBb (spM K 3 z8):=by
 refine fnM B.fn sc__law_answered rfl (fun cdv A outer s H E hr=>⟨zVc,?_,fun _ _ _ _ _ e=>e⟩);have hu:=hr.units;exact(zj (z1f (mv 1) (zll (zMb (zkb 3 (hN:=sc__law_answered.nd)) (zMb (zkb 4 (hN:=sc__law_answered.nd)) zOg)))) (zj (zRc (zab (zPb hu) (mv 3) zLb) (zp (zT (zHe (zPb hu) (mmeth zyb zsb hr (mv 0) (zb (mv 4) zh)) (zqw (zHe (zPb hu) (mv 2) zLb) (zPp (zcb (zFj .lst) T.n_isinstance z8e (zb (mv 2) (zb (zAr T.n_list zQe) zh)))))))) zZ) (zj (zRc (zab (zPb hu) (mv 3) zLb) (zp (zT (ziy (mmeth zyb zsb hr (mv 0) (zb (mv 4) zh))))) zZ) (zp (zT (zqw (zHe zMf (mv 2) zzg) (zPp (zHe (zPb hu) (mmeth0 zgc zpc hr (mv 0)) (mv 4)))))))))
abbrev z1n:Stmt:=top 47
abbrev z7o:List Str:=["_law_script"]
def sc_law:FnScope zax z7o (zy z1n):=by walk_at "s"
def zhw(T:Txt K mg){zol:Addr}{z1j:yf}(zkg:FnAt K mg "_law_pen" zcg zbd zol z1j)(zPg:FnOk P w K mg base CX0 1 zol z1j zbd (spM K 1 z5f)){C_Shelf___init__:Addr}{zzf:Addr}{zDe:yf}(zAb:MakeAt K mg "Shelf" z2b zbb C_Shelf___init__ zzf zDe)(zOb:FnOk P w K mg base CX0 1 zzf zDe zbb (spM K 2 zV)){zNd:Addr}{zjd:yf}(zec:FnAt K mg "_law_rule" zTd zVb zNd zjd)(zdc:FnOk P w K mg base CX0 3 zNd zjd zVb (spM K 1 zJc)){zlc:Addr}{zXb:yf}(zO:FnAt K mg "_law_take" z5c zqb zlc zXb)(zM:FnOk P w K mg base CX0 2 zlc zXb zqb (spM K 2 zL)){zEi:Addr}{z4g:yf}(zde:FnAt K mg "_law_drawn" z8d ztc zEi z4g)(zRe:FnOk P w K mg base CX0 4 zEi z4g ztc (spM K 1 zce)){zFi:Addr}{zPh:yf}(zac:FnAt K mg "_law_stand" zhe zwc zFi zPh)(znc:FnOk P w K mg base CX0 4 zFi zPh zwc (spM K 1 zfb)){zhk:Addr}{zri:yf}(zff:FnAt K mg "_law_deed" zbf zMc zhk zri)(zTf:FnOk P w K mg base CX0 8 zhk zri zMc (spM K 2 z8b)){zBi:Addr}{zAh:yf}(z0d:FnAt K mg "_law_spoil" zfe zvc zBi zAh)(z4e:FnOk P w K mg base CX0 4 zBi zAh zvc (spM K 2 znd)){zRf:Addr}{zyf:yf}(zXc:FnAt K mg "_law_answered" zYc zBb zRf zyf)(zpd:FnOk P w K mg base CX0 2 zRf zyf zBb (spM K 3 z8)){C_Shelf_all_there:Addr}{zu:Addr}{zq:yf}(zo:MethAt K "Shelf" "all_there" "Shelf.all_there" zN zw C_Shelf_all_there zu zq)(zn:FnOk P w K mg base CX0 1 zu zq zw (spM K 1 zz)){C_Shelf_left:Addr}{zWb:Addr}{zEb:yf}(zeb:MethAt K "Shelf" "left" "Shelf.left" zcc z7 C_Shelf_left zWb zEb)(zdb:FnOk P w K mg base CX0 3 zWb zEb z7 (spM K 1 z9)){f:Addr}{fd:yf}(B:FnAt K mg "law" z1n z7o f fd):FnOk P w K mg base CX0 9 f fd z7o (spM K 1 zaq):=by
 refine fnM B.fn sc_law rfl (fun cdv A outer s H E hr=>⟨zot,?_,fun _ _ _ _ _ e=>e⟩);have hu:=hr.units;exact(zj (zU 1 (mcall zkg zPg hr (zb (mv 0) zh)) (hN:=sc_law.nd)) (zj (zU 2 (zie (zb (mcall zec zdc hr (zb (mv 1) zh)) (zb (mcall zec zdc hr (zb (mv 1) zh)) zh))) (hN:=sc_law.nd)) (zj (zRc (zab (zPb hu) (mcall zO zM hr (zb (mv 1) (zb zr zh))) zr) (zp (z1f (zP (mv 2) zr) (zZt (mv 2) zr))) zZ) (zj (zU 3 (zie (zb (mmakeA zAb zOb hr (zb (zP (mv 2) zr) zh)) (zb (mmakeA zAb zOb hr (zb (zP (mv 2) zr) zh)) zh))) (hN:=sc_law.nd)) (zj (zGe (z9i T.n_range (zb (mcall zO zM hr (zb (mv 1) (zb zr zh))) zh)) (zkb 4 (hN:=sc_law.nd)) (zj (zU 5 (mcall zO zM hr (zb (mv 1) (zb zr zh))) (hN:=sc_law.nd)) (zj (zU 6 (mcall zde zRe hr (zb (mv 1) zh)) (hN:=sc_law.nd)) (zj (zU 7 (mcall zac znc hr (zb (zP (mv 3) (zCb zGj zr (mv 5))) zh)) (hN:=sc_law.nd)) (zj (zU 8 (mcall zff zTf hr (zb (zP (mv 3) (mv 5)) (zb (mv 6) zh))) (hN:=sc_law.nd)) (zj (zU 9 (mcall zac znc hr (zb (zP (mv 3) (mv 5)) zh)) (hN:=sc_law.nd)) (zj (zRc (zdt (zJh (mcall zXc zpd hr (zb (zP (mv 3) (mv 5)) (zb (mv 6) (zb (mv 8) zh)))))) (zp (zT zSu)) zZ) (zj (zVd (mcall z0d z4e hr (zb (zP (mv 3) (mv 5)) (zb (mv 8) zh)))) (zp (zRc (MW.mt (zgs (zab (zYr hu) (mcall zac znc hr (zb (zP (mv 3) (mv 5)) zh)) (mv 9)) (zHn (zab (zYr hu) (mcall zac znc hr (zb (zP (mv 3) (zCb zGj zr (mv 5))) zh)) (mv 7))))) (zp (zT zSu)) zZ)))))))))) (zj (zU 10 (mmakeA zAb zOb hr (zb (zP (mv 2) zr) zh)) (hN:=sc_law.nd)) (zp (zT (z5x (zHe (zPb hu) (mmeth0 zo zn hr (mv 10)) (zie zh)) (zPp (zHe (zPb hu) (mmeth0 zeb zdb hr (mv 10)) (zee z4h T.n_list zQe (zb (zP (zP (mv 2) zr) zr) zh)))))))))))))
end
end P
namespace P
open PySem PySem.Spec PyProof.Rows L2 M
set_option maxHeartbeats 4000000
variable {R:List Nat}{K:List (List Nat)}{μ:Mem}{Q:D->Mem->Prop}{l i L B m k n h lo hi:Nat}{ds:List D}{μ':Mem}{d r:D}{δ:M.Loc}{S C R':List Nat}{lay lay0:List (Option Nat)}{row kvs ts ts':List (Nat×Nat)}{nx:M.Loc->Mem->Prop}{rt:D->Mem->Prop}
def zRo{o o':LObj}(h:μ[l]?=some o):(μ.set l o')[l]?=some o':=by
 rw[yU (List.getElem?_eq_some_iff.mp h).1]
def z0r{xs:List D}:M.cutD xs none (some (i:Int))=xs.take i:=by
 unfold M.cutD;rw[HT.sIx_none,HT.sIx_nat,List.drop_zero,Nat.sub_zero];rcases Nat.le_total i xs.length with h | h
 ·rw[Nat.min_eq_left h]
 ·rw[Nat.min_eq_right h,take_length,List.take_of_length_le h]
local macro_rules | `(tactic| walk_at "w") => `(tactic| first
  | refine zD ?_ | refine zhb ?_ | refine zOh ?_ | refine zzb ?_ | refine zHf ?_ | refine zCg ?_ | refine zwb ?_ | refine zmi ?_
  | refine zd rfl ?_ | refine w_c ?_ | refine zt ?_ | refine zA ?_ | refine ze ?_ | refine zx ?_ | refine zPf ?_ | refine zBh ?_ | refine zhy ?_ | refine zzy ?_ | refine zdv ?_ | refine zzx ?_ | refine zAy ?_ | refine w_not ?_ | refine z4v ?_ | refine znk ?_ | refine zMq ?_ | refine zJp ?_ | refine zRz ?_
  | refine zQ ?_ | refine zUu ?_ | refine zdq ?_ | refine zfp ?_ | refine zzt ?_ | refine zHj ?_ | refine zdf ?_ | refine zvn ?_ | refine zMz ?_ | refine zZe ?_ | refine zUl ?_
  | refine zQh ?_ | refine zKr ?_ | refine zQk (by first | decide | omega) ?_ | refine zCt (by first | decide | omega) (by first | decide | omega) ?_ | refine zQm ?_ | refine zPi ?_ | refine zHz ?_ | refine z4y ?_ | refine zOt ?_ | refine zpz (by decide) (by decide) (by decide) ?_ | refine zty ?_ | refine zPx ?_ | refine zlx ?_ | refine z2x ?_
  | refine zIh rfl ?_ | refine zcp rfl ?_ | refine zKj rfl ?_ | with_reducible refine ⟨_,rfl,?_⟩)
local macro_rules | `(tactic| walk_at "om") => `(tactic| first | omega | (simp only [length_map, length_range, Int.toNat_natCast, length_append, length_cons, List.length_nil] at *; omega) | (simp <;> omega))
structure WebA(L:Int)(rooms:List Int)(ks:List (List Int)):Prop where
 rl:1<=rooms.length/\rooms.length<=10
 rn:∀r∈rooms,0<=r
 kl:ks.length<=L
 kn:∀k∈ks,(2<=k.length/\k.length<=3)/\∀i∈k,0<=i/\i<rooms.length
def zbv{i:Int}(h0:0<=i)(h1:i<ds.length):∃d,d∈ds/\ds[i.toNat]?=some d/\atI ds i=some d:=by
 have hi:i.toNat<ds.length:=by omega
 refine⟨ds[i.toNat],getElem_mem hi,by simp[hi],?_⟩;have:=zW (xs:=ds) (j:=i.toNat) (v:=ds[i.toNat]) (by simp[hi]);rw[Int.toNat_of_nonneg h0]at this;exact this
def PenC(ns:List Int)(μ:Mem)(l B:Nat):Prop:=∃(b:Bool)(k:Nat)(r:Int),k<=B/\μ[l]?=some (.lst [.fz (ns.map .int), .bl b, .int (k:Nat), .int r])
section
variable {ns:List Int}
def PenC.kb{μ:Mem}{L:List Nat}(h:PenC ns μ l B)(k:KB L μ μ')(hl:l∉L):PenC ns μ' l B:=by
 obtain⟨b,j,r,hj,e⟩:=h;exact⟨b,j,r,hj,k.at_ _ _ hl e⟩
def PenC.app{μ g:Mem}(h:PenC ns μ l B):PenC ns (μ++g) l B:=h.kb (L:=[]) (KB.refl.app) (by simp)
def PenC.keep{μ:Mem}(h:PenC ns μ l B)(k:Keep μ μ'):PenC ns μ' l B:=h.kb (L:=[]) (KB.of_keep k) (by simp)
def PenC.lt(h:PenC ns μ l B):l<μ.length:=by
 obtain⟨b,j,r,hj,e⟩:=h;exact zG e
def PenC.set{o:LObj}(h:PenC ns μ l B)(hne:m≠l):PenC ns (μ.set m o) l B:=by
 obtain⟨b,j,r,hj,e⟩:=h;exact⟨b,j,r,hj,zS e hne⟩
def PenC.up{B':Nat}(h:PenC ns μ l B)(hb:B<=B'):PenC ns μ l B':=by
 obtain⟨b,j,r,hj,e⟩:=h;exact⟨b,j,r,by omega,e⟩
def zuw(q:∀μ',Keep μ μ'->PenC ns μ' μ.length 0->μ'.length=μ.length+1->Q (.loc μ.length) μ'):WF z5f [.fz (ns.map .int)] μ Q:=by
 refine zRb rfl ?_;show WS z3f [some (.fz (ns.map .int))] μ _ _ _ _;unfold z3f;refine zzb (zBh (ze (zd rfl (ze (zAy (zt (zA (ze (zd rfl (zx (zIh rfl (w_c (zPi ⟨_,rfl,fun h=>?_,fun h=>?_⟩)))))))))))))
 ·have h0:ns≠[]:=by
   rintro rfl;simp at h
  obtain⟨n,ns',rfl⟩:=List.exists_cons_of_ne_nil h0;refine zt (zt (zt (zd rfl (w_c (z5b rfl (zW (j:=0) (v:=D.int n) rfl) (w_c (zQk (by omega) (w_c (zPi ?_)))))))));exact ze (w_c (ze (w_c (zx (q _ .app ⟨_,0,0,yh _,zC⟩ (by simp))))))
 ·exact ze (w_c (ze (w_c (zx (q _ .app ⟨_,0,0,yh _,zC⟩ (by simp))))))
def zjt(hk:k<=1000000)(q:∀v:Int,Q (.int v) μ):WF z7d [.fz (ns.map .int), .int (k:Nat)] μ Q:=by
 refine zRb rfl ?_;show WS zje [some (.fz (ns.map .int)),some (.int (k:Nat)),none,none,none] μ _ _ _ _;unfold zje
 have mk:∀{i:Int},zRg i (k:Nat)=true:=fun{i}=>by
  unfold zRg;rw[decide_eq_true (show -(2^64)<((k:Nat):Int)/\((k:Nat):Int)<2^64 by omega)];simp
 have rest:∀c:Int,WS (zY (zyc 3 (zH znn (zH zGh (zH zYi (zH zGh (zH zGh (zm 2) (zH zYi (fC (.int 40503)) (zm 1))) (fC (.int 1))) (fC (.int 48271))) (zH zYi (zm 1) (zm 1))) (fC (.int 2147483647)))) (zY (zyc 4 (zH znn (zH zGh (zH zGh (zH zYi (zm 3) (zm 3)) (zH zYi (fC (.int 69621)) (zm 3))) (zH zYi (fC (.int 31)) (zm 1))) (fC (.int 2147483629)))) (zCc (zH znn (zH zGh (zH zGh (zH zYi (zm 4) (zm 4)) (zH zYi (fC (.int 16807)) (zm 4))) (zm 1)) (fC (.int 1073741789)))))) [some (.fz (ns.map .int)),some (.int (k:Nat)),some (.int c),none,none] μ (fun _ μ'=>Q .non μ') Q (fun _ _=>False) (fun _ _=>False):=fun c=>by
  refine zD (zhb (zt (zt (zt (zt (zt (zd rfl (zt (w_c (zd rfl (zCm mk (zQh (w_c (zQh (w_c (zCm (by unfold zRg;simp) (zt (zd rfl (zd rfl (zCm mk (zQh (w_c (zQk (by omega) ?_)))))))))))))))))))))));have h1:∀x:Int,0<=x%2147483647/\x%2147483647<2147483647:=fun x=>⟨Int.emod_nonneg _ (by omega),xP _ (by omega)⟩
  obtain⟨a1,b1⟩:=h1 ((c+40503*(k:Nat)+1)*48271+(k:Nat)*(k:Nat));generalize ((c+40503*((k:Nat):Int)+1)*48271+((k:Nat):Int)*((k:Nat):Int))%2147483647=x at a1 b1
  have mx:∀{i:Int},zRg i x=true:=fun{i}=>by
   unfold zRg;rw[decide_eq_true (show -(2^64)<x/\x<2^64 by omega)];simp
  refine zD (zhb (zt (zt (zt (zt (zd rfl (zd rfl (zCm mx (zt (w_c (zd rfl (zCm mx (zQh (zt (w_c (zd rfl (zCm mk (zQh (w_c (zQk (by omega) ?_))))))))))))))))))));have h2:∀y:Int,0<=y%2147483629/\y%2147483629<2147483629:=fun y=>⟨Int.emod_nonneg _ (by omega),xP _ (by omega)⟩
  obtain⟨a2,b2⟩:=h2 (x*x+69621*x+31*(k:Nat));generalize (x*x+69621*x+31*((k:Nat):Int))%2147483629=y at a2 b2
  have my:∀{i:Int},zRg i y=true:=fun{i}=>by
   unfold zRg;rw[decide_eq_true (show -(2^64)<y/\y<2^64 by omega)];simp
  exact zzb (zt (zt (zt (zt (zd rfl (zd rfl (zCm my (zt (w_c (zd rfl (zCm my (zQh (zd rfl (zQh (w_c (zQk (by omega) (q _)))))))))))))))))
 refine zD (zhb (w_c ?_));refine zD (zCg (zQ (zt (zA (ze (zd rfl (zx (zIh rfl (w_c (zQm ⟨_,rfl,fun h2=>?_,fun h2=>zwb (rest _)⟩))))))))));have h2:=of_decide_eq_true h2;obtain⟨d,hm,_,ha⟩:=zbv (ds:=ns.map .int) (i:=(k:Nat)%((ns.map D.int).length:Int)) (Int.emod_nonneg _ (by omega)) (xP _ h2);obtain⟨v,_,rfl⟩:=List.mem_map.mp hm;exact zhb (zt (zd rfl (zt (zd rfl (zA (ze (zd rfl (zx (zIh rfl (zQk h2 (z5b rfl ha (rest _))))))))))))
def zOx{gs:FGs}{P:M.Loc->Mem->Prop}{a b c:D}(e:μ[l]?=some (.lst [a,b,c,d]))(h:WGs gs [a,b,c,d] δ μ P):WG (gTL 4 gs) (.loc l) δ μ P:=by
 obtain⟨δ1,μ1,e1,q⟩:=h;refine⟨δ1,μ1,?_,q⟩;unfold gTL;dsimp only;rw[e];exact e1
def zWl{s:Int}(h:PenC ns μ l B)(hB:B<=1000000)(h0:0<s)(h1:s<1606938044258990275541962092341162602522202993782792835301376)
 (q:∀v μ',0<=v->v<s->KB [l] μ μ'->μ'.length=μ.length->PenC ns μ' l (B+1)->Q (.int v) μ'):WF zL [.loc l, .int s] μ Q:=by
 obtain⟨b,k,r,hk,e⟩:=h;have hlt:=zG e;refine zRb rfl ?_;show WS zYe [some (.loc l),some (.int s),none,none,none,none] μ _ _ _ _;unfold zYe;refine zD (zOh (zd rfl (zOx e (zZe (zdf (zZe (zdf (zZe (zdf (zZe (zdf (zUl ?_))))))))))));refine zD (zOh (zt (zd rfl (w_c (zQh ?_)))));refine zOu (zd rfl (w_c ⟨_,_,_,rfl,rfl,e,⟨by omega,by simp⟩,?_⟩));show WS _ _ (μ.set l (.lst [.fz (ns.map .int), .bl b, .int (((k:Nat):Int)+1), .int r])) _ _ _ _;have e2:(μ.set l (LObj.lst [.fz (ns.map .int), .bl b, .int (((k:Nat):Int)+1), .int r]))[l]?=some (.lst [.fz (ns.map .int), .bl b, .int ((k+1:Nat):Int), .int r]):=zub e;have k2:KB [l] μ (μ.set l (LObj.lst [.fz (ns.map .int), .bl b, .int (((k:Nat):Int)+1), .int r])):=KB.refl.set (.inl (by simp));have l2:(μ.set l (LObj.lst [.fz (ns.map .int), .bl b, .int (((k:Nat):Int)+1), .int r])).length=μ.length:=by simp
 generalize μ.set l (LObj.lst [.fz (ns.map .int), .bl b, .int (((k:Nat):Int)+1), .int r])=μ2 at e2 k2 l2;refine zD (zCg (zQ (zd rfl ⟨_,rfl,fun hb=>?_,fun hb=>zwb ?_⟩)))
 ·refine zzb (zt (zA (ze (zd rfl (ze (zd rfl (zx ?_))))))) ;refine zjt (by omega) fun v=>zd rfl (zQk h0 ?_);exact q _ _ (Int.emod_nonneg _ (by omega)) (xP _ h0) k2 l2 ⟨b,k+1,r,by omega,e2⟩
 ·have last:∀r':Int,WS (zY (zfo (zH zHv (zm 5) (zm 1)) (gAt (zm 0) (fC (.int 3)))) (zCc (zH znn (zm 5) (zm 1)))) [some (.loc l),some (.int s),some (.fz (ns.map .int)),some (.bl b),some (.int (k:Nat)),some (.int r')] μ2 (fun _ μ'=>Q .non μ') Q (fun _ _=>False) (fun _ _=>False):=fun r'=>by
   refine zD (zOh (zt (zd rfl (zd rfl (zCt h0 h1 ?_)))));refine zOu (zd rfl (w_c ⟨_,_,_,rfl,rfl,e2,⟨by omega,by simp⟩,?_⟩));show WS _ _ (μ2.set l (.lst [.fz (ns.map .int), .bl b, .int ((k+1:Nat):Int), .int (r' / s)])) _ _ _ _;refine zzb (zt (zd rfl (zd rfl (zQk h0 ?_))));exact q _ _ (Int.emod_nonneg _ (by omega)) (xP _ h0) (k2.trans (KB.refl.set (.inl (by simp)))) (by simp[l2]) ⟨b,k+1,r' / s,by omega,zub e2⟩
  refine zD (zCg (zQ (zt (zt (zd rfl (w_c (zQk (by omega) (w_c (zPi ⟨_,rfl,fun hz=>?_,fun hz=>zwb (last r)⟩)))))))));refine zD (zhb (w_c ?_));refine zCg (zQ (zt (zt (zt (zd rfl (w_c (zCt (by omega) (by omega) (w_c (zQh (zA (ze (zd rfl (zx (zIh rfl (zQm ⟨_,rfl,fun h2=>?_,fun h2=>zwb (last 0)⟩)))))))))))))));have h2:=of_decide_eq_true h2;obtain⟨d,hm,_,ha⟩:=zbv (ds:=ns.map .int) (i:=((k:Nat):Int) / 60+1) (by omega) h2;obtain⟨v,_,rfl⟩:=List.mem_map.mp hm;exact zhb (zt (zd rfl (zt (zt (zd rfl (w_c (zCt (by omega) (by omega) (w_c (zQh (z5b rfl ha (last v)))))))))))
def z4t{s:Nat}{φ:FE}(hp:PenC ns μ l B)
 (he:∀(k:Nat)(μ':Mem)(Q':D->Mem->Prop),k<m->PenC ns μ' l (B+k)->KB [l] μ μ'->(∀v μ'',0<=v->v<(s:Int)->KB [l] μ' μ''->PenC ns μ'' l (B+k+1)->Q' (.int v) μ'')->WE φ (δ.set 0 (some (.int k))) μ' Q')
 (q:∀(S:List Nat)(μ':Mem),S.length=m->(∀h∈S,h<s)->KB [l] μ μ'->PenC ns μ' l (B+m)->Q (.loc μ'.length) (μ'++[.lst (nat S)])) :
 WL (gN 0) zgk φ yes δ ((yA m).map fun(k:Nat) => .int k) [] μ Q:=by
 refine zum (fun i ys μ'=>∃S:List Nat,ys=nat S/\S.length=i/\(∀h∈S,h<s)/\KB [l] μ μ'/\PenC ns μ' l (B+i)) ⟨[],rfl,rfl,by simp, .refl,hp⟩ (fun _ _ _ _=>rfl) ?_ ?_
 ·rintro i x ys μ' hx ⟨S,rfl,hl,hS,k,p⟩;obtain⟨hi,rfl⟩:=z8i hx;refine zdf (zzt ⟨fun _=>?_,fun hf=>(by cases hf)⟩);refine he i μ' _ hi p k fun v μ'' a b k' p'=>?_;obtain⟨v,rfl⟩:=xI a;refine⟨S++[v],by rw[z7f];rfl,by simp[hl],fun h hh=>?_,k.trans k',p'⟩;rcases List.mem_append.mp hh with hh | hh
  ·exact hS h hh
  ·rw[List.mem_singleton.mp hh];omega
 ·rintro ys μ' ⟨S,rfl,hl,hS,k,p⟩;simp only[length_map,length_range]at hl p;exact q S μ' hl hS k p
end
def zoc{ns:List Int}{s:Nat}(h:PenC ns μ l B)(hB:B<=1000000)(h0:0<s)(h1:s<=1000)(q:∀(v:Nat)(μ':Mem),v<s->KB [l] μ μ'->PenC ns μ' l (B+1)->Q (.int (v:Nat)) μ'):WF zL [.loc l, .int (s:Nat)] μ Q :=
 zWl h hB (by omega) (by omega) fun v μ' a b k _ p=>by
  obtain⟨v,rfl⟩:=xI a;exact q v μ' (by omega) k p
def nin1{a:Nat}(h:l≠a):a∉[l]:=fun hm=>h (List.mem_singleton.mp hm).symm
abbrev tn(ns:List Nat):D := .tup (nat ns)
abbrev wn(R:List Nat)(K:List (List Nat)):D := .tup [tn R, .tup (K.map tn)]
structure Wb(L:Nat)(R:List Nat)(K:List (List Nat)):Prop where
 rl:1<=R.length/\R.length<=10
 kl:K.length<=L
 kn:∀k∈K,(2<=k.length/\k.length<=3)/\∀h∈k,h<R.length
def Wb.key(w:Wb L R K){k:Nat}(h:k<K.length):(2<=(K.getD k []).length/\(K.getD k []).length<=3)/\∀x∈K.getD k [],x<R.length:=by
 have:K.getD k []=K[k]:=by simp[h]
 rw[this];exact w.kn _ (getElem_mem h)
def zzo(q:Q (tn R) μ):W2 gIx (wn R K) (.int 0) μ Q:=z5b rfl (show atI [tn R, .tup (K.map tn)] 0=some (tn R) from rfl) q
def zWj(q:Q (.tup (K.map tn)) μ):W2 gIx (wn R K) (.int 1) μ Q:=z5b rfl (show atI [tn R, .tup (K.map tn)] 1=some (.tup (K.map tn)) from rfl) q
def zft(h:k<K.length)(q:Q (tn (K.getD k [])) μ):W2 gIx (.tup (K.map tn)) (.int k) μ Q :=
 z5b rfl (zW (v:=tn (K.getD k [])) (by simp[h])) q
def zEy(h:k<R.length)(q:Q (.int (R.getD k 0:Nat)) μ):W2 gIx (tn R) (.int k) μ Q:=z5b rfl (z1i h) q
structure RightL(R:List Nat)(K:List (List Nat))(lay:List (Option Nat)):Prop where
 len:lay.length=K.length
 home:∀k h,lay[k]?=some (some h)->h∈K.getD k []
 room:∀h,lay.count (some h)<=R.getD h 0
def zOk(K:List (List Nat))(S:List Nat):List Nat:=S.flatMap fun k=>K.getD k []
def zih(n:Nat)(K:List (List Nat))(S:List Nat):List Nat:=(yA n).filter fun h=>decide (∃k∈S,h∈K.getD k [])
def zvw(R:List Nat)(N:List Nat):Nat:=(N.map fun h=>R.getD h 0).sum
def zLh(w:Wb L R K)(h:Nat):h∈zih R.length K S↔∃k∈S,h∈K.getD k []:=by
 unfold zih;rw[List.mem_filter,mem_range,decide_eq_true_iff];constructor
 ·exact fun q=>q.2
 ·rintro⟨k,hk,hh⟩;refine⟨?_,k,hk,hh⟩;rw[getD_eq_getElem?_getD]at hh
  cases e:K[k]? with
  |none=>rw[e]at hh;simp at hh
  |some x=>rw[e]at hh;exact(w.kn x (mem_of_getElem? e)).2 h hh
def zLt :∀h∈zih n K S,h<n:=fun h hh=>by
 have:=(List.mem_filter.mp hh).1;simpa using this
def zcu(n:Nat)(K:List (List Nat))(S:List Nat):(zih n K S).Pairwise (· < ·):=List.pairwise_lt_range.filter _
def zQn(n:Nat)(K:List (List Nat))(S:List Nat):(zih n K S).length<=n:=by
 unfold zih;refine yy (List.length_filter_le _ _) ?_;simp
def zkk{L:Nat}{R:List Nat}{K:List (List Nat)}(w:Wb L R K):∀S:List Nat,(zOk K S).length<=3*S.length
 |[]=>by simp[zOk]
 |k::S=>by
  have ih:=zkk w S
  have h1:(K.getD k []).length<=3:=by
   rw[getD_eq_getElem?_getD]
   cases e:K[k]? with
   |none=>simp
   |some x=>exact(w.kn x (mem_of_getElem? e)).1.2
  unfold zOk at ih ⊢;rw[List.flatMap_cons,length_append,length_cons];omega
def zLf(R:List Nat)(K:List (List Nat))(S:List Nat):Bool:=decide (zvw R (zih R.length K S)<S.length)
def zCq(w:Wb L R K)(hn:μ[n]?=some (.lst (nat S)))(hS:∀k∈S,k<K.length)(hl:S.length<=1000)
 (q:∀(l:Nat)(μ':Mem),Keep μ μ'->μ.length<=l->μ'[l]?=some (.lst (nat (zih R.length K S)))->Q (.loc l) μ'):WF zgg [wn R K, .loc n] μ Q:=by
 refine zRb rfl ?_;show WS z2f [some (wn R K),some (.loc n),none,none] μ _ _ _ _;unfold z2f
 repeat walk_at "w"
 have hnl:=zG hn;refine zBf (zd rfl (.inr (.inr ⟨n,_,rfl,zFc hn,?_⟩)));refine z7c (fun m δ μ'=>∃a:Option D,δ=[some (wn R K),some (.loc n),some (.loc μ.length),a]/\Keep μ μ'/\μ'[μ.length]?=some (.lst (nat (zOk K (S.take m))))) ⟨none,rfl, .app,by simp[zOk]⟩ (fun m δ μ' ⟨a,_,k,_⟩=>zob hn k) ?_ ?_
 ·rintro m x δ μ1 hx ⟨a,rfl,k,hg⟩;rw[yn]at hx
  cases hy:S[m]? with
  |none=>rw[hy]at hx;cases hx
  |some kk=>
   rw[hy]at hx;cases hx;have hkk:=hS kk (mem_of_getElem? hy)
   walk_at "w"
   unfold zIi
   repeat walk_at "w"
   refine⟨μ.length,_,rfl,hg,?_⟩
   repeat walk_at "w"
   refine zWj ?_
   repeat walk_at "w"
   refine zft hkk ?_
   repeat walk_at "w"
   have hfl:=zkk w (S.take m);have hks:=(w.key hkk).1;have htl:(S.take m).length<=1000:=yy (by simp;omega) hl;refine zby hg (by simp only[length_map];omega) ?_;refine⟨_,rfl,fun i o e=>zS (k i o e) (yO (zG e)),?_⟩;rw[zub hg];have ht:S.take (m+1)=S.take m++[kk]:=by rw[take_succ,hy];rfl
   have e2:zOk K (S.take (m+1))=zOk K (S.take m)++K.getD kk []:=by
    unfold zOk;rw[ht,List.flatMap_append];simp
   rw[e2,z7f]
 ·rintro δ μ1 ⟨a,rfl,k,hg⟩;rw[length_map,take_length]at hg
  have hmem:∀i:Int,i∈(zih R.length K S).map (fun(k:Nat)=>(k:Int))↔i∈(zOk K S).map (fun(k:Nat)=>(k:Int)):=fun i=>by
   simp only[mem_map];constructor
   ·rintro⟨h,hh,rfl⟩;obtain⟨k,hk,hh⟩:=(zLh w h).mp hh;exact⟨h,List.mem_flatMap.mpr ⟨k,hk,hh⟩,rfl⟩
   ·rintro⟨h,hh,rfl⟩;obtain⟨k,hk,hh⟩:=List.mem_flatMap.mp hh;exact⟨h,(zLh w h).mpr ⟨k,hk,hh⟩,rfl⟩
  have hpw:((zih R.length K S).map (fun(k:Nat)=>(k:Int))).Pairwise (· < ·):=by
   rw[pairwise_map];exact(zcu R.length K S).imp fun h=>by omega
  have hp:=zcm hmem hpw;have hsort:=zAp hmem hpw;have hfl:=zkk w S;have hrl:=w.rl;have hnl2:=zQn R.length K S;refine zzb (zgv (zd rfl ⟨_,(zOk K S).map (fun(k:Nat)=>(k:Int)),rfl,by rw[hg,map_map];rfl,by rw[length_map];omega,by rw[hp.length_eq,length_map];omega,?_⟩));rw[hsort,map_map];exact q _ _ k.to k.len zC
def znr(hn:μ[n]?=some (.lst (nat S)))(hS:∀k∈S,k<R.length)(hl:S.length<=1000)
 (q:∀(μ':Mem),Keep μ μ'->Q (.int (zvw R S:Nat)) μ'):WF z0g [wn R K, .loc n] μ Q:=by
 refine zRb rfl ?_;show WS zCh [some (wn R K),some (.loc n)] μ _ _ _ _;unfold zCh
 repeat walk_at "w"
 refine zBf (zd rfl (.inr (.inr ⟨n,_,rfl,hn,z3c (by simp;omega),?_⟩)));refine zCf (fun(k:Nat)=>D.int k) S (fun k => .int (R.getD k 0:Nat)) (fun μ' k=>zob hn k) (fun k hk μ' kp=>?_) (fun μ' kp=>?_)
 ·have hkk:=hS k hk
  walk_at "w"
  unfold zlj
  repeat walk_at "w"
  refine zzo ?_
  repeat walk_at "w"
  exact zEy hkk ⟨rfl,kp,kp⟩
 ·repeat walk_at "w"
  refine zfx (S:=S.map fun k=>R.getD k 0) (by rw[zC,zbi]) ?_;exact q _ kp.to
def z8p(w:Wb L R K)(hn:μ[n]?=some (.lst (nat S)))(hS:∀k∈S,k<K.length)(hl:S.length<=1000)
 (q:∀μ',Keep μ μ'->Q (.bl (zLf R K S)) μ'):WF z6f [wn R K, .loc n] μ Q:=by
 refine zRb rfl ?_;show WS zjg [some (wn R K),some (.loc n)] μ _ _ _ _;unfold zjg
 repeat walk_at "w"
 refine zCq w hn hS hl fun l μ1 k1 hl1 g1=>?_
 repeat walk_at "w"
 have hnl:=zQn R.length K S;have hrl:=w.rl;refine znr g1 zLt (by omega) fun μ2 k2=>?_
 repeat walk_at "w"
 refine zIh (zE (k2 _ _ (k1 _ _ hn))) ?_
 repeat walk_at "w"
 have:=q μ2 (k1.trans k2);unfold zLf at this;simp only[length_map,Int.ofNat_lt];exact this
def zMo(lay:List (Option Nat))(a:Option Nat):lay.count a=((yA lay.length).filter fun k=>decide (lay.getD k none=a)).length:=by
 have e:lay=(yA lay.length).map fun k=>lay.getD k none:=by
  refine ext_getElem? fun i=>?_
  by_cases h:i<lay.length
  ·simp[h]
  ·simp[h]
 conv=>lhs;rw[e]
 rw[List.count,List.countP_map,List.countP_eq_length_filter]
 congr 1
 refine List.filter_congr fun k _=>?_;simp only[Function.comp];exact Bool.beq_eq_decide_eq _ _
def lyN(lay:List (Option Nat))(N:List Nat):List Nat:=(yA lay.length).filter fun k=>decide (∃h∈N,lay.getD k none=some h)
def lyN_mem{N:List Nat}:k∈lyN lay N↔∃h∈N,lay.getD k none=some h:=by
 unfold lyN;rw[List.mem_filter,mem_range,decide_eq_true_iff];constructor
 ·exact fun q=>q.2
 ·rintro⟨h,hh,e⟩;refine⟨?_,h,hh,e⟩;refine Nat.lt_of_not_le fun hle=>?_;rw[getD_eq_getElem?_getD,Yx hle]at e;cases e
def zfy(lay:List (Option Nat))(N:List Nat):(lyN lay N).Nodup:=List.nodup_range.sublist filter_sublist
def zVg{α:Type}(p q:α->Bool)(h:∀x,p x=true->q x=false):∀l:List α,(l.filter fun x=>p x||q x).length=(l.filter p).length+(l.filter q).length
 |[]=>rfl
 |x::l=>by
  have ih:=zVg p q h l
  cases hp:p x with
  |true=>simp[filter_cons,hp,h x hp,ih];omega
  |false=>
   cases hq:q x with
   |true=>simp[filter_cons,hp,hq,ih];omega
   |false=>simp[filter_cons,hp,hq,ih]
def z8s{lay:List (Option Nat)}:∀{N:List Nat},N.Nodup->(lyN lay N).length=(N.map fun h=>lay.count (some h)).sum
 |[],_=>by simp[lyN]
 |h::N,nd=>by
  obtain⟨h1,h2⟩:=List.nodup_cons.mp nd;rw[map_cons,sum_cons,<-z8s h2,zMo]
  have:=zVg (fun k=>decide (lay.getD k none=some h)) (fun k=>decide (∃g∈N,lay.getD k none=some g)) (fun k hk=>by
   have hk:=of_decide_eq_true hk;refine decide_eq_false ?_;rintro⟨g,hg,e⟩;rw[hk]at e;cases e;exact h1 hg) (yA lay.length)
  rw[show lyN lay N=(yA lay.length).filter fun k=>decide (∃g∈N,lay.getD k none=some g) from rfl,<-this];unfold lyN
  congr 1
  refine List.filter_congr fun k _=>?_;rw[<-Bool.decide_or];refine decide_eq_decide.mpr ?_;simp only[mem_cons];constructor
  ·rintro⟨g,rfl | hg,e⟩
   ·exact .inl e
   ·exact .inr ⟨g,hg,e⟩
  ·rintro(e | ⟨g,hg,e⟩)
   ·exact⟨h, .inl rfl,e⟩
   ·exact⟨g, .inr hg,e⟩
def z0u{α:Type}{f g:α->Nat}:∀{l:List α},(∀x∈l,f x<=g x)->(l.map f).sum<=(l.map g).sum
 |[],_=>yh _
 |x::l,h=>by
  rw[map_cons,map_cons,sum_cons,sum_cons];have h1:=h x mem_cons_self;have h2:=z0u (l:=l) fun y hy=>h y (mem_cons_of_mem _ hy);omega
def zze{α:Type}[DecidableEq α]:∀{l m:List α},l.Nodup->(∀x∈l,x∈m)->l.length<=m.length
 |[],_,_,_=>Yq _
 |x::l,m,nd,h=>by
  obtain⟨h1,h2⟩:=List.nodup_cons.mp nd;have hx:=h x mem_cons_self;have ih:=zze (l:=l) (m:=m.erase x) h2 fun y hy=>(List.mem_erase_of_ne (by rintro rfl;exact h1 hy)).mpr (h y (mem_cons_of_mem _ hy));rw[List.length_erase_of_mem hx]at ih;have:=List.length_pos_of_mem hx;rw[length_cons];omega
structure Shut(R:List Nat)(K:List (List Nat))(lay:List (Option Nat))(C:List Nat):Prop where
 keys:∀k∈C,k<K.length
 full:∀k∈C,∀h∈K.getD k [],R.getD h 0<=lay.count (some h)
 lies:∀k∈C,∀h∈K.getD k [],∀o,lay.getD o none=some h->o∈C
def Shut.nil:Shut R K lay []:=⟨by simp,by simp,by simp⟩
def Shut.app{E:List Nat}(a:Shut R K lay C)(b:Shut R K lay E):Shut R K lay (C++E):=by
 refine⟨fun k hk=>?_,fun k hk=>?_,fun k hk h hh o e=>?_⟩
 ·rcases List.mem_append.mp hk with hk | hk
  ·exact a.keys k hk
  ·exact b.keys k hk
 ·rcases List.mem_append.mp hk with hk | hk
  ·exact a.full k hk
  ·exact b.full k hk
 ·rcases List.mem_append.mp hk with hk | hk
  ·exact mem_append_left _ (a.lies k hk h hh o e)
  ·exact mem_append_right _ (b.lies k hk h hh o e)
def Shut.congr{E:List Nat}(a:Shut R K lay C)(h:∀k,k∈E↔k∈C):Shut R K lay E :=
 ⟨fun k hk=>a.keys k ((h k).mp hk),fun k hk=>a.full k ((h k).mp hk),fun k hk g hg o e=>(h o).mpr (a.lies k ((h k).mp hk) g hg o e)⟩
def zzq(w:Wb L R K)(s:Shut R K lay C)(hl:lay.length=K.length){k0:Nat}(hk0:k0∈C)(hn:lay.getD k0 none=none):zLf R K C=true:=by
 refine decide_eq_true ?_;have hN:(zih R.length K C).Nodup:=List.nodup_range.sublist filter_sublist
 have h1:zvw R (zih R.length K C)<=((zih R.length K C).map fun h=>lay.count (some h)).sum:=z0u fun h hh=>by
  obtain⟨k,hk,hm⟩:=(zLh w h).mp hh;exact s.full k hk h hm
 rw[<-z8s hN]at h1
 have h2:(k0::lyN lay (zih R.length K C)).length<=C.length:=zze (List.nodup_cons.mpr ⟨fun hm=>(by
  obtain⟨h,_,e⟩:=lyN_mem.mp hm;rw[hn]at e;cases e),zfy _ _⟩) fun x hx=>by
  rcases List.mem_cons.mp hx with rfl | hx
  ·exact hk0
  ·obtain⟨h,hh,e⟩:=lyN_mem.mp hx;obtain⟨k,hk,hm⟩:=(zLh w h).mp hh;exact s.lies k hk h hm x e
 rw[length_cons]at h2;omega
structure RowOk(K:List (List Nat))(lay:List (Option Nat))(key:Nat)(row:List (Nat×Nat)):Prop where
 first:∃h r,row=(key,h)::r
 mem:∀p∈row,p.1<K.length/\p.2∈K.getD p.1 []/\lay.getD p.1 none≠some p.2
 link:∀i p q,row[i]?=some p->row[i+1]?=some q->lay.getD q.1 none=some p.2
 nd:(row.map (·.1)).Nodup
def zxe(lay:List (Option Nat))(row:List (Nat×Nat)):List (Option Nat):=row.foldl (fun l p=>l.set p.1 (some p.2)) lay
def zdh(row:List (Nat×Nat)):∀lay:List (Option Nat),(zxe lay row).length=lay.length:=by
 induction row with
 |nil=>intro lay;rfl
 |cons p row ih=>intro lay;show(zxe (lay.set p.1 (some p.2)) row).length=_;rw[ih];simp
def zXk(lay:List (Option Nat))(row:List (Nat×Nat))(p:Nat×Nat):zxe lay (row++[p])=(zxe lay row).set p.1 (some p.2):=by
 unfold zxe;rw[List.foldl_append];rfl
def zAe :∀{lay:List (Option Nat)} {k:Nat},k∉row.map (·.1)->(zxe lay row).getD k none=lay.getD k none:=by
 induction row with
 |nil=>intro lay k _;rfl
 |cons p row ih=>
  intro lay k hk;rw[map_cons,mem_cons,not_or]at hk;show(zxe (lay.set p.1 (some p.2)) row).getD k none=_;rw[ih hk.2];simp only[getD_eq_getElem?_getD];rw[yR (yF hk.1)]
def zGl(nd:(row.map (·.1)).Nodup):∀{lay:List (Option Nat)} {p:Nat×Nat},p∈row->p.1<lay.length->(zxe lay row).getD p.1 none=some p.2:=by
 induction row with
 |nil=>intro lay p hp;cases hp
 |cons q row ih=>
  intro lay p hp hl;rw[map_cons,List.nodup_cons]at nd;show(zxe (lay.set q.1 (some q.2)) row).getD p.1 none=_;rcases List.mem_cons.mp hp with rfl | hp
  ·rw[zAe nd.1];simp[hl]
  ·exact ih nd.2 hp (by simpa using hl)
def z4m{a b:Option Nat}(hk:k<lay.length)(ha:lay.getD k none=a)(x:Option Nat):(lay.set k b).count x+(if a=x then 1 else 0)=lay.count x+(if b=x then 1 else 0):=by
 have e1:lay=lay.take k++a::lay.drop (k+1):=by
  have:lay[k]=a:=by simpa[hk] using ha
  rw[<-this,List.getElem_cons_drop,take_append_drop]
 have e2:lay.set k b=lay.take k++b::lay.drop (k+1):=by rw[List.set_eq_take_append_cons_drop,if_pos hk]
 rw[e2]
 conv=>rhs;rw[e1]
 rw[List.count_append,List.count_append,List.count_cons,List.count_cons];simp only[beq_iff_eq]
 split<;>split<;>omega
def zQj{key:Nat}(r:RowOk K lay key row)(hl:lay.length=K.length)(hkey:lay.getD key none=none):∀i,i<row.length->∀h:Nat,(zxe lay (row.take (i+1))).count (some h)=lay.count (some h)+(if(row.getD i (0,0)).2=h then 1 else 0):=by
 intro i
 induction i with
 |zero=>
  intro hi h;obtain⟨h0,r0,e⟩:=r.first
  have hm:=r.mem (key,h0) (by rw[e];simp);subst e;have:=z4m (lay:=lay) (k:=key) (b:=some h0) (by rw[hl];exact hm.1) hkey (some h);show(lay.set key (some h0)).count (some h)=_;simpa using this
 |succ i ih=>
  intro hi h;have ih:=ih (by omega) h;have hp:row[i]?=some row[i]:=by simp[show i<row.length by omega]
  have hq:row[i+1]?=some row[i+1]:=by simp[hi]
  have hlink:=r.link i _ _ hp hq;have hm:=r.mem row[i+1] (getElem_mem hi);have et:row.take (i+1+1)=row.take (i+1)++[row[i+1]]:=by simp
  have hnot:(row[i+1]).1∉(row.take (i+1)).map (·.1):=by
   intro hmem;have nd:=r.nd;rw[<-take_append_drop (i+1) row,map_append,nodup_append]at nd;refine nd.2.2 _ hmem _ ?_ rfl;refine List.mem_map.mpr ⟨row[i+1],?_,rfl⟩;rw[drop_eq_getElem_cons hi];exact mem_cons_self
  have hcur:(zxe lay (row.take (i+1))).getD (row[i+1]).1 none=some (row[i]).2:=by rw[zAe hnot];exact hlink
  rw[et,zXk];have:=z4m (lay:=zxe lay (row.take (i+1))) (k:=(row[i+1]).1) (b:=some (row[i+1]).2) (by rw[zdh,hl];exact hm.1) hcur (some h);have e1:row.getD i (0,0)=row[i]:=by simp[show i<row.length by omega]
  have e2:row.getD (i+1) (0,0)=row[i+1]:=by simp[hi]
  rw[e1]at ih;rw[e2];simp only[xC]at this;omega
def zak{key:Nat}(rt:RightL R K lay)(r:RowOk K lay key row)(hkey:lay.getD key none=none)(hroom:lay.count (some (row.getD (row.length-1) (0,0)).2)<R.getD (row.getD (row.length-1) (0,0)).2 0):RightL R K (zxe lay row):=by
 have hpos:0<row.length:=by
  obtain⟨h,q,e⟩:=r.first
  rw[e];simp
 refine⟨by rw[zdh];exact rt.len,fun k h e=>?_,fun h=>?_⟩
 ·have e':(zxe lay row).getD k none=some h:=by rw[getD_eq_getElem?_getD,e];rfl
  by_cases hk:k∈row.map (·.1)
  ·obtain⟨p,hp,rfl⟩:=List.mem_map.mp hk;have hm:=r.mem p hp;rw[zGl r.nd hp (by rw[rt.len];exact hm.1)]at e';cases e';exact hm.2.1
  ·rw[zAe hk]at e';refine rt.home k h ?_;rw[getD_eq_getElem?_getD]at e'
   cases q:lay[k]? with
   |none=>rw[q]at e';cases e'
   |some z=>rw[q]at e';exact congrArg some e'
 ·have:=zQj r rt.len hkey (row.length-1) (by omega) h;rw[show row.length-1+1=row.length by omega,take_length]at this;rw[this];have hr:=rt.room h
  split
  ·rename_i e
   rw[e]at hroom;omega
  ·omega
def zww{key:Nat}(s:Shut R K lay C)(r:RowOk K lay key row)(hroom:lay.count (some (row.getD (row.length-1) (0,0)).2)<R.getD (row.getD (row.length-1) (0,0)).2 0) :
 ∀p∈row,∀k∈C,p.2∉K.getD k []:=by
 have key1:∀(j i:Nat),i+j+1=row.length->∀k∈C,(row.getD i (0,0)).2∉K.getD k []:=by
  intro j
  induction j with
  |zero=>
   intro i hi k hk hm;have:=s.full k hk _ hm;rw[show row.length-1=i by omega]at hroom;omega
  |succ j ih=>
   intro i hi k hk hm;have hp:row[i]?=some row[i]:=by simp[show i<row.length by omega]
   have hq:row[i+1]?=some row[i+1]:=by simp[show i+1<row.length by omega]
   have e1:row.getD i (0,0)=row[i]:=by simp[show i<row.length by omega]
   have e2:row.getD (i+1) (0,0)=row[i+1]:=by simp[show i+1<row.length by omega]
   rw[e1]at hm;have hin:=s.lies k hk _ hm _ (r.link i _ _ hp hq);refine ih (i+1) (by omega) _ hin ?_;rw[e2];exact(r.mem _ (getElem_mem _)).2.1
 intro p hp k hk;obtain⟨i,hi,rfl⟩:=List.mem_iff_getElem.mp hp;have:=key1 (row.length-1-i) i (by omega) k hk
 rwa [show row.getD i (0,0)=row[i] by simp[hi]]at this
def Shut.push{key:Nat}(s:Shut R K lay C)(rt:RightL R K lay)(r:RowOk K lay key row)(hkey:lay.getD key none=none)
 (hroom:lay.count (some (row.getD (row.length-1) (0,0)).2)<R.getD (row.getD (row.length-1) (0,0)).2 0):Shut R K (zxe lay row) C:=by
 have hpos:0<row.length:=by
  obtain⟨h,q,e⟩:=r.first
  rw[e];simp
 have hout:=zww s r hroom;refine⟨s.keys,fun k hk h hh=>?_,fun k hk h hh o e=>?_⟩
 ·have:=zQj r rt.len hkey (row.length-1) (by omega) h;rw[show row.length-1+1=row.length by omega,take_length]at this;have h1:=s.full k hk h hh;omega
 ·by_cases ho:o∈row.map (·.1)
  ·obtain⟨p,hp,rfl⟩:=List.mem_map.mp ho;rw[zGl r.nd hp (by rw[rt.len];exact(r.mem p hp).1)]at e;cases e;exact absurd hh (hout p hp k hk)
  ·rw[zAe ho]at e;exact s.lies k hk h hh o e
def z6k(lay:List (Option Nat))(h:Nat):List Nat:=(yA lay.length).filter fun k=>decide (lay.getD k none=some h)
def zrk(R:List Nat)(lay:List (Option Nat)):List Int:=(yA R.length).map fun h=>(R.getD h 0:Int)-(lay.count (some h):Nat)
def zku(hn:μ[n]?=some (.lst (lay.map onD)))(hl:lay.length<=1000)(q:∀(l:Nat)(μ':Mem),Keep μ μ'->μ.length<=l->μ'[l]?=some (.lst (nat (z6k lay h)))->Q (.loc l) μ'):WF zLm [.loc n, .int h] μ Q:=by
 refine zRb rfl ?_;show WS zrm [some (.loc n),some (.int h)] μ _ _ _ _;unfold zrm
 repeat walk_at "w"
 refine zzi (zd rfl (.inr (.inr ⟨n,_,rfl,hn,z3c (by rw[zld,length_map];omega),?_⟩)));rw[zRd onD lay none];refine zjk (fun(k:Nat) => .tup [.int k,onD (lay.getD k none)]) (yA lay.length) (fun(k:Nat)=>D.int k) (fun k=>decide (lay.getD k none=some h)) (fun μ' k=>zob hn k) (fun k hk μ' kp=>?_) (fun μ' kp=>?_)
 ·repeat walk_at "w"
  refine zSr (α:=Option Nat) (lay.getD k none) (some h) ?_
  repeat walk_at "w"
  refine⟨rfl,kp,fun _=>?_⟩;unfold zYn;exact zd rfl ⟨rfl,kp⟩
 ·exact q _ _ kp.to kp.len zC
def zGr(w:Wb L R K)(hn:μ[n]?=some (.lst (lay.map onD)))(q:∀(l:Nat)(μ':Mem),Keep μ μ'->μ.length<=l->μ'[l]?=some (.lst ((zrk R lay).map .int))->Q (.loc l) μ'):WF zjh [wn R K, .loc n] μ Q:=by
 have hrl:=w.rl;refine zRb rfl ?_;show WS zvl [some (wn R K),some (.loc n)] μ _ _ _ _;unfold zvl
 repeat walk_at "w"
 refine zzi ?_
 repeat walk_at "w"
 refine zzo (.inl ⟨_,rfl,z3c (by rw[zld,length_map];omega),?_⟩);rw[zRd (fun(k:Nat)=>D.int k) R 0];refine zCf (fun(k:Nat) => .tup [.int k, .int (R.getD k 0:Nat)]) (yA R.length) (fun(k:Nat)=>D.int ((R.getD k 0:Int)-(lay.count (some k):Nat))) (fun _ _=>rfl) (fun k hk μ' kp=>?_) (fun μ' kp=>?_)
 ·repeat walk_at "w"
  refine⟨_,_,rfl,kp _ _ hn,?_⟩
  repeat walk_at "w"
  refine zlt (kp _ _ hn) ?_
  repeat walk_at "w"
  exact⟨rfl,kp,kp⟩
 ·refine q _ _ kp.to kp.len ?_;rw[zC];unfold zrk;rw[map_map];rfl
def zKm(K:List (List Nat))(ds:List D)(k:Nat):Bool:=!zTx (ds.getD k .non) && !((nat (K.getD k [])).any fun y=>eqF y (ds.getD k .non))
def zRs(R:List Nat)(ds:List D)(h:Nat):Bool:=decide ((R.getD h 0:Nat)<(ztv ds h:Int))
def z1k(R:List Nat)(K:List (List Nat))(ds:List D):D:=match(yA K.length).find? (zKm K ds) with
 |some k => .tup [.str "home", .int k]
 |none=>match(yA R.length).find? (zRs R ds) with
  |some h => .tup [.str "room", .int h]
  |none => .non
def zGt(w:Wb L R K)(hf:ds.all zPd=true)(hn:μ[n]?=some (.lst ds))(q:∀(l:Nat)(μ':Mem),Keep μ μ'->μ.length<=l->μ'[l]?=some (.lst (((yA R.length).map fun h=>(R.getD h 0:Int)-(ztv ds h:Nat)).map .int))->Q (.loc l) μ'):WF zjh [wn R K, .loc n] μ Q:=by
 have hrl:=w.rl;refine zRb rfl ?_;show WS zvl [some (wn R K),some (.loc n)] μ _ _ _ _;unfold zvl
 repeat walk_at "w"
 refine zzi ?_
 repeat walk_at "w"
 refine zzo (.inl ⟨_,rfl,z3c (by rw[zld,length_map];omega),?_⟩);rw[zRd (fun(k:Nat)=>D.int k) R 0];refine zCf (fun(k:Nat) => .tup [.int k, .int (R.getD k 0:Nat)]) (yA R.length) (fun(k:Nat)=>D.int ((R.getD k 0:Int)-(ztv ds k:Nat))) (fun _ _=>rfl) (fun k hk μ' kp=>?_) (fun μ' kp=>?_)
 ·repeat walk_at "w"
  refine⟨_,_,rfl,kp _ _ hn,?_⟩
  repeat walk_at "w"
  refine z5r (kp _ _ hn) rfl hf ?_
  repeat walk_at "w"
  exact⟨rfl,kp,kp⟩
 ·refine q _ _ kp.to kp.len ?_;rw[zC,map_map];rfl
def zfu(hf:ds.all zPd=true){k:Nat}{d:D}(h:ds[k]?=some d):zPd d=true:=List.all_eq_true.mp hf d (mem_of_getElem? h)
def zEt(w:Wb L R K)(hf:ds.all zPd=true)(hl:ds.length=K.length)(hn:μ[n]?=some (.lst ds))(q:∀(μ':Mem),Keep μ μ'->Q (z1k R K ds) μ'):WF z7l [wn R K, .loc n] μ Q:=by
 have hrl:=w.rl;refine zRb rfl ?_;show WS zAm [some (wn R K),some (.loc n),none,none,none] μ _ _ _ _;unfold zAm;refine zD (zmi (zzi (zd rfl (.inr (.inr ⟨n,_,rfl,hn,?_⟩)))));refine z7c (fun m δ μ'=>∃a b:Option D,δ=[some (wn R K),some (.loc n),a,b,none]/\μ'=μ/\∀j<m,zKm K ds j=false) ⟨_,_,rfl,rfl,by simp⟩ (fun m δ μ' h=>by obtain⟨_,_,_,rfl,_⟩:=h;exact zob hn .refl) ?_ ?_
 ·rintro m x δ μ' hx ⟨a,b,rfl,rfl,hb⟩;obtain⟨y,hy,rfl⟩:=zNl hx;have hm:m<ds.length:=(List.getElem?_eq_some_iff.mp hy).1;have hfy:=zfu hf hy;have hgy:ds.getD m .non=y:=by rw[getD_eq_getElem?_getD,hy];rfl
  have hgo:zKm K ds m=false->∀j<m+1,zKm K ds j=false:=fun h j hj=>by
   by_cases e:j=m
   ·subst e;exact h
   ·exact hb j (by omega)
  repeat walk_at "w"
  refine zVi hfy ?_
  repeat walk_at "w"
  refine⟨fun h1=>?_,fun h1=>⟨fun hc=>(by cases hc),fun _=>?_⟩⟩
  ·repeat walk_at "w"
   refine zWj ?_
   repeat walk_at "w"
   refine zft (by omega) ?_;refine zNr rfl hfy (zLp _) ?_
   repeat walk_at "w"
   refine⟨fun h2=>?_,fun h2=>?_⟩
   ·repeat walk_at "w"
    have hh:zKm K ds m=true:=by
     unfold zKm;rw[hgy,h1,h2];rfl
    have:=q μ' .refl;unfold z1k at this;rw[zil hh (by omega) hb]at this;exact this
   ·repeat walk_at "w"
    refine⟨_,_,rfl,rfl,hgo ?_⟩;unfold zKm;rw[hgy,h2,Bool.and_false]
  ·repeat walk_at "w"
   refine⟨_,_,rfl,rfl,hgo ?_⟩;unfold zKm;rw[hgy,h1,Bool.false_and]
 ·rintro δ μ' ⟨a,b,rfl,rfl,hb⟩;rw[zld,hl]at hb;refine zD (zmi (zzi (zA (ze (zd rfl (ze (zd rfl (zx ?_))))))));refine zGt w hf hn fun l μ1 k1 hl1 g1 => .inr (.inr ⟨l,_,rfl,g1,?_⟩);rw[zRd D.int _ 0];refine z7c (fun m δ μ'=>∃a b c:Option D,δ=[some (wn R K),some (.loc n),a,b,c]/\μ'=μ1/\∀j<m,zRs R ds j=false) ⟨_,_,_,rfl,rfl,by simp⟩ (fun m δ μ' h=>by obtain⟨_,_,_,_,rfl,_⟩:=h;exact zob g1 .refl) ?_ ?_
  ·rintro m x δ μ2 hx ⟨a,b,c,rfl,rfl,hr⟩
   have hm:m<R.length:=by
    have:=(List.getElem?_eq_some_iff.mp hx).1;simpa using this
   have ex:x = .tup [.int m, .int ((R.getD m 0:Int)-(ztv ds m:Nat))]:=by
    rw[yn]at hx;simp[hm]at hx;rw[<-hx];simp[hm]
   subst ex
   repeat walk_at "w"
   have hdec:decide ((R.getD m 0:Int)-(ztv ds m:Nat)<0)=zRs R ds m:=by
    unfold zRs;exact decide_eq_decide.mpr (by omega)
   rw[hdec];refine⟨fun h1=>?_,fun h1=>?_⟩
   ·repeat walk_at "w"
    have:=q μ2 k1;unfold z1k at this;rw[zVf hb,zil h1 hm hr]at this;exact this
   ·repeat walk_at "w"
    refine⟨_,_,_,rfl,rfl,fun j hj=>?_⟩
    by_cases e:j=m
    ·subst e;exact h1
    ·exact hr j (by omega)
  ·rintro δ μ2 ⟨a,b,c,rfl,rfl,hr⟩;simp only[length_map,length_range]at hr
   repeat walk_at "w"
   have:=q μ2 k1;unfold z1k at this;rw[zVf hb,zVf hr]at this;exact this
abbrev PT:=List (Nat×Nat×Option Nat)
def dkP(P:PT):List (Int×D):=P.map fun p=>((p.1:Int), .tup [.int (p.2.1:Nat),onD p.2.2])
def zSp(P:PT):zij (dkP P)=nat (P.map (·.1)):=by
 unfold zij dkP;rw[map_map,zbi];rfl
def z7n(P:PT)(h:Nat):((dkP P).any fun p=>decide (p.1=(h:Int)))=decide (h∈P.map (·.1)):=by
 refine z0i ?_;unfold dkP;rw[any_map,any_eq_true];simp only[Function.comp,decide_eq_true_iff,mem_map];constructor
 ·rintro⟨p,hp,e⟩;exact⟨p,hp,by omega⟩
 ·rintro⟨p,hp,e⟩;exact⟨p,hp,by omega⟩
def zZj{P:PT}:(zWc (dkP P) (h:Int)).isSome=decide (h∈P.map (·.1)):=by
 rw[<-z7n,Bool.eq_iff_iff];unfold zWc;rw[Option.isSome_map,List.find?_isSome,any_eq_true]
def zCw{P:PT}(nd:(P.map (·.1)).Nodup){p:Nat×Nat×Option Nat}(hp:p∈P):zWc (dkP P) (p.1:Int)=some (.tup [.int (p.2.1:Nat),onD p.2.2]):=by
 induction P with
 |nil=>cases hp
 |cons q P ih=>
  rw[map_cons,List.nodup_cons]at nd
  have e:zWc (dkP (q::P)) (p.1:Int)=if(q.1:Int)=p.1 then some (.tup [.int (q.2.1:Nat),onD q.2.2]) else zWc (dkP P) (p.1:Int):=by
   unfold zWc dkP;rw[map_cons,xR]
   by_cases h:(q.1:Int)=p.1
   ·simp[h]
   ·simp[h]
  rw[e];rcases List.mem_cons.mp hp with rfl | hp
  ·rw[if_pos rfl]
  ·rw[if_neg,ih nd.2 hp];intro h;refine nd.1 (List.mem_map.mpr ⟨p,hp,by omega⟩)
def zor{P:PT}{f:Option Nat}(hn:h∉P.map (·.1)):zfq (dkP P) (h:Int) (.tup [.int k,onD f])=dkP (P++[(h,k,f)]):=by
 unfold zfq;rw[z7n,decide_eq_false hn,if_neg yx];simp[dkP]
def zWw{P:PT}{f:Option Nat}(hn:h∈P.map (·.1))(ha:∀p∈P,p.2=(k,f)):zfq (dkP P) (h:Int) (.tup [.int k,onD f])=dkP P:=by
 unfold zfq;rw[z7n,decide_eq_true hn,if_pos rfl];unfold dkP;rw[map_map];refine List.map_congr_left fun p hp=>?_;simp only[Function.comp]
 split
 ·rw[ha p hp]
 ·rfl
structure Tree(R:List Nat)(K:List (List Nat))(lay:List (Option Nat))(key:Nat)(P:PT):Prop where
 nd:(P.map (·.1)).Nodup
 lt:∀p∈P,p.1<R.length
 ok:∀(i:Nat) p,P[i]?=some p->p.2.1<K.length/\p.1∈K.getD p.2.1 []/\((p.2.2=none/\p.2.1=key)\/∃(j:Nat)(q:Nat×Nat×Option Nat),j<i/\P[j]?=some q/\p.2.2=some q.1/\lay.getD p.2.1 none=some q.1)
def Tree.len{key:Nat}{P:PT}(t:Tree R K lay key P):P.length<=R.length:=by
 have:=zze t.nd (m:=yA R.length) fun x hx=>by
  obtain⟨p,hp,rfl⟩:=List.mem_map.mp hx;simpa using t.lt p hp
 simpa using this
def Tree.add{key:Nat}{P:PT}(t:Tree R K lay key P){h k:Nat}{f:Option Nat}(hn:h∉P.map (·.1))(hr:h<R.length)(hk:k<K.length)(hm:h∈K.getD k [])
 (hf:(f=none/\k=key)\/∃(j:Nat)(q:Nat×Nat×Option Nat),P[j]?=some q/\f=some q.1/\lay.getD k none=some q.1):Tree R K lay key (P++[(h,k,f)]):=by
 refine⟨?_,fun p hp=>?_,fun i p e=>?_⟩
 ·rw[map_append,nodup_append];refine⟨t.nd,by simp,fun a ha b hb=>?_⟩;simp at hb;subst hb;exact fun e=>hn (e▸ha)
 ·rcases List.mem_append.mp hp with hp | hp
  ·exact t.lt p hp
  ·rw[List.mem_singleton.mp hp];exact hr
 ·by_cases hi:i<P.length
  ·rw[yt hi]at e;obtain⟨h1,h2,h3⟩:=t.ok i p e;refine⟨h1,h2,?_⟩;rcases h3 with h3 | ⟨j,q,hj,eq,h4⟩
   ·exact .inl h3
   ·exact .inr ⟨j,q,hj,by rw[yt (by omega)];exact eq,h4⟩
  ·rw[yL (by omega)]at e
   have hi0:i-P.length=0:=by
    have:=(List.getElem?_eq_some_iff.mp e).1;simp at this;omega
   rw[hi0]at e;have e:(h,k,f)=p:=by simpa using e
   subst e;refine⟨hk,hm,?_⟩;rcases hf with hf | ⟨j,q,eq,h4⟩
   ·exact .inl hf
   ·have hj:=(List.getElem?_eq_some_iff.mp eq).1;exact .inr ⟨j,q,by omega,by rw[yt hj];exact eq,h4⟩
def zrs(d l:Nat)(μ ν:Mem):Prop:=∀i o,i≠d->i≠l->μ[i]?=some o->ν[i]?=some o
abbrev JPa(R:List Nat)(K:List (List Nat))(lay:List (Option Nat))(key n d l2 at_ o:Nat)(P0:PT)(ν:Mem):Nat->M.Loc->Mem->Prop:=fun m δ ν'=>∃(P:PT)(x:Option D),δ=[some (wn R K),some (.loc n),some (.int key),some (.loc d),x,some (.loc l2),some (.int at_),some (.int o)]/\(∃E,P=P0++E)/\Tree R K lay key P/\(∀h∈(K.getD o []).take m,h∈P.map (·.1))/\zrs d l2 ν ν'/\ν'[d]?=some (.dct (dkP P))/\ν'[l2]?=some (.lst (nat (P.map (·.1))))
def zNu{key d l2 at_ o:Nat}{P0:PT}{q:Nat×Nat×Option Nat}{x4:Option D}{ν:Mem}{bk ct:M.Loc->Mem->Prop}(w:Wb L R K)(t:Tree R K lay key P0)(ho:o<K.length)(hq:P0[at_]?=some q)(hlo:lay.getD o none=some q.1)
 (hl2:d<l2) (gd:ν[d]?=some (.dct (dkP P0))) (gl:ν[l2]?=some (.lst (nat (P0.map (·.1)))))
 (k:∀(P:PT)(x:Option D)(ν':Mem),(∃E,P=P0++E)->Tree R K lay key P->(∀h∈K.getD o [],h∈P.map (·.1))->zrs d l2 ν ν'->ν'[d]?=some (.dct (dkP P))->ν'[l2]?=some (.lst (nat (P.map (·.1))))->nx [some (wn R K),some (.loc n),some (.int key),some (.loc d),x,some (.loc l2),some (.int at_),some (.int o)] ν') :
 WS zif [some (wn R K),some (.loc n),some (.int key),some (.loc d),x4,some (.loc l2),some (.int at_),some (.int o)] ν nx rt bk ct:=by
 unfold zif;refine zmi (zBf (zt (zt (zd rfl (w_c (zWj (zd rfl (zft ho (.inl ⟨_,rfl,?_⟩)))))))));refine z7c (JPa R K lay key n d l2 at_ o P0 ν) ⟨P0,_,rfl,⟨[],by simp⟩,t,by simp,fun _ _ _ _ e=>e,gd,gl⟩ (fun _ _ _ _=>rfl) ?_ ?_
 ·rintro m x δ ν1 hx ⟨P,y,rfl,⟨E,hE⟩,tP,hm,k1,g1,g2⟩;rw[yn]at hx
  cases hy:(K.getD o [])[m]? with
  |none=>rw[hy]at hx;cases hx
  |some h=>
   rw[hy]at hx;cases hx;have hmem:=mem_of_getElem? hy;have htk:(K.getD o []).take (m+1)=(K.getD o []).take m++[h]:=by rw[take_succ,hy];rfl
   have hpl:=tP.len;have hrl:=w.rl
   have hat:(P.map (·.1))[at_]?=some q.1:=by
    have hlt:=(List.getElem?_eq_some_iff.mp hq).1;rw[hE,map_append,yt (by simpa using hlt),yn,hq];rfl
   refine zdf ?_;unfold zFh;refine zCg (zQ (zt (zd rfl (zd rfl (zxt (z4c g1) ⟨_,rfl,fun hb=>?_,fun hb=>zwb ?_⟩)))))
   ·have hnew:h∉P.map (·.1):=by
     rw[zZj]at hb;simpa using hb
    refine zD (zOh (zPf (ze (zd rfl (ze (zt (zd rfl (zd rfl (z5b (zE g2) (zW (v := .int (q.1:Nat)) (by rw[yn,hat];rfl)) (zx ?_))))))))));refine zpp (zd rfl (zd rfl ⟨_,_,_,rfl,rfl,g1,by simp[dkP];omega,?_⟩));rw[show(D.tup [.int (o:Nat), .int (q.1:Nat)]) = .tup [.int (o:Nat),onD (some q.1)] from rfl,zor hnew];have g1':=zub (o':=LObj.dct (dkP (P++[(h,o,some q.1)]))) g1;have g2':=zS (o':=LObj.dct (dkP (P++[(h,o,some q.1)]))) g2 (by omega:d≠l2);refine zHf (znk (zd rfl ⟨_,_,rfl,g2',?_⟩));refine ze (zd rfl (zx ?_));refine zfj g2' (by rw[length_map,length_map];omega) ?_
    have hatP:P[at_]?=some q:=by
     have hlt:=(List.getElem?_eq_some_iff.mp hq).1;rw[hE,yt hlt];exact hq
    refine⟨P++[(h,o,some q.1)],_,rfl,⟨E++[(h,o,some q.1)],by rw[hE];simp⟩,tP.add hnew ((w.key ho).2 h hmem) ho hmem (.inr ⟨at_,q,hatP,rfl,hlo⟩),fun g hg=>?_,fun i o' hi1 hi2 e'=>zS (zS (k1 i o' hi1 hi2 e') (yF hi1)) (yF hi2),zS g1' (by omega),?_⟩
    ·rw[htk]at hg;rw[map_append,mem_append];rcases List.mem_append.mp hg with hg | hg
     ·exact .inl (hm g hg)
     ·rw[List.mem_singleton.mp hg];exact .inr (by simp)
    ·rw[zub g2',map_append,z7f];rfl
   ·have hold:h∈P.map (·.1):=by
     rw[zZj]at hb;simpa using hb
    refine⟨P,_,rfl,⟨E,hE⟩,tP,fun g hg=>?_,k1,g1,g2⟩;rw[htk]at hg;rcases List.mem_append.mp hg with hg | hg
    ·exact hm g hg
    ·rw[List.mem_singleton.mp hg];exact hold
 ·rintro δ ν1 ⟨P,y,rfl,hE,tP,hm,k1,g1,g2⟩;rw[length_map,take_length]at hm;exact k P y ν1 hE tP hm k1 g1 g2
abbrev JPb(R:List Nat)(K:List (List Nat))(lay:List (Option Nat))(key n:Nat)(μ:Mem):Nat->M.Loc->Mem->Prop:=fun m δ ν=>∃(P:PT)(x:Option D),δ=[some (wn R K),some (.loc n),some (.int key),some (.loc μ.length),x,none,none,none]/\Tree R K lay key P/\(∀p∈P,p.2=(key,none))/\(∀h∈(K.getD key []).take m,h∈P.map (·.1))/\Keep μ ν/\ν[μ.length]?=some (.dct (dkP P))
abbrev JPc(R:List Nat)(K:List (List Nat))(lay:List (Option Nat))(key n:Nat)(μ ν1:Mem):Nat->M.Loc->Mem->Prop:=fun m δ ν=>∃(P:PT)(at_:Nat)(x y:Option D),m=R.length-at_/\at_<=P.length/\δ=[some (wn R K),some (.loc n),some (.int key),some (.loc μ.length),x,some (.loc ν1.length),some (.int at_),y]/\Tree R K lay key P/\(∀h∈K.getD key [],h∈P.map (·.1))/\(∀(i:Nat) p,i<at_->P[i]?=some p->∀o,lay.getD o none=some p.1->∀h∈K.getD o [],h∈P.map (·.1))/\Keep μ ν/\ν[μ.length]?=some (.dct (dkP P))/\ν[ν1.length]?=some (.lst (nat (P.map (·.1))))
abbrev JPd(R:List Nat)(K:List (List Nat))(lay:List (Option Nat))(key n:Nat)(μ ν1:Mem)(at_:Nat)(P:PT)(q0:Nat×Nat×Option Nat)(l4:Nat):Nat->M.Loc->Mem->Prop:=fun j δ ν=>∃(P':PT)(x y:Option D),δ=[some (wn R K),some (.loc n),some (.int key),some (.loc μ.length),x,some (.loc ν1.length),some (.int at_),y]/\(∃E,P'=P++E)/\Tree R K lay key P'/\(∀o∈(z6k lay q0.1).take j,∀h∈K.getD o [],h∈P'.map (·.1))/\Keep μ ν/\ν[μ.length]?=some (.dct (dkP P'))/\ν[ν1.length]?=some (.lst (nat (P'.map (·.1))))/\ν[l4]?=some (.lst (nat (z6k lay q0.1)))
def zpo{key:Nat}(w:Wb L R K)(hlen:lay.length=K.length)(hL:L<=1000)(hn:μ[n]?=some (.lst (lay.map onD)))(hk:key<K.length)
 (q:∀(P:PT)(d:Nat)(μ':Mem),Tree R K lay key P->(∀h∈K.getD key [],h∈P.map (·.1))->(∀p∈P,∀o,lay.getD o none=some p.1->∀h∈K.getD o [],h∈P.map (·.1))->Keep μ μ'->μ.length<=d->μ'[d]?=some (.dct (dkP P))->Q (.loc d) μ'):WF z2e [wn R K, .loc n, .int key] μ Q:=by
 have hrl:=w.rl;have hkl:=w.kl;refine zRb rfl ?_;show WS zjf [some (wn R K),some (.loc n),some (.int key),none,none,none,none,none] μ _ _ _ _;unfold zjf;refine zD (zhb (zhy (zD (zmi (zBf (zt (zt (zd rfl (w_c (zWj (zd rfl (zft hk (.inl ⟨_,rfl,?_⟩))))))))))))) ;refine z7c (JPb R K lay key n μ) ⟨[],_,rfl,⟨by simp,by simp,fun i p e=>by simp at e⟩,by simp,by simp, .app,zC⟩ (fun _ _ _ _=>rfl) ?_ ?_
 ·rintro m x δ ν1 hx ⟨P,y,rfl,tP,ha,hm,k1,g1⟩;rw[yn]at hx
  cases hy:(K.getD key [])[m]? with
  |none=>rw[hy]at hx;cases hx
  |some h=>
   rw[hy]at hx;cases hx;have hmem:=mem_of_getElem? hy;have htk:(K.getD key []).take (m+1)=(K.getD key []).take m++[h]:=by rw[take_succ,hy];rfl
   have hpl:=tP.len;refine zdf ?_;unfold zvh;refine zOh (zPf (ze (zd rfl (ze (w_c (zx ?_))))));refine zpp (zd rfl (zd rfl ⟨_,_,_,rfl,rfl,g1,by simp[dkP];omega,?_⟩));rw[show(D.tup [.int (key:Nat), .non]) = .tup [.int (key:Nat),onD none] from rfl];have kk:∀o':LObj,Keep μ (ν1.set μ.length o'):=fun o' i o e=>zS (k1 i o e) (yO (zG e))
   by_cases hin:h∈P.map (·.1)
   ·rw[zWw hin ha];refine⟨P,_,rfl,tP,ha,fun g hg=>?_,kk _,zub g1⟩;rw[htk]at hg;rcases List.mem_append.mp hg with hg | hg
    ·exact hm g hg
    ·rw[List.mem_singleton.mp hg];exact hin
   ·rw[zor hin];refine⟨P++[(h,key,none)],_,rfl,tP.add hin ((w.key hk).2 h hmem) hk hmem (.inl ⟨rfl,rfl⟩),fun p hp=>?_,fun g hg=>?_,kk _,zub g1⟩
    ·rcases List.mem_append.mp hp with hp | hp
     ·exact ha p hp
     ·rw[List.mem_singleton.mp hp]
    ·rw[htk]at hg;rw[map_append,mem_append];rcases List.mem_append.mp hg with hg | hg
     ·exact .inl (hm g hg)
     ·rw[List.mem_singleton.mp hg];exact .inr (by simp)
 ·rintro δ ν1 ⟨P0,y,rfl,tP0,_,hm0,k1,g1⟩;rw[length_map,take_length]at hm0;refine zD (zhb (zA (ze (zd rfl (zx (z8v (z4c g1) ?_))))));rw[zSp];have hl2:μ.length<ν1.length:=zG g1;refine zD (zhb (w_c (zD ?_)));refine zXl (JPc R K lay key n μ ν1) (m:=R.length) (by omega) ⟨P0,0,_,_,by simp,by simp,rfl,tP0,hm0,by simp,k1.to,zFc g1,zC⟩ ?_;rintro m δ ν2 ⟨P,at_,x,y,rfl,hat,rfl,tP,hkey,hcl,k2,g2,g3⟩;have hpl:=tP.len
  repeat walk_at "w"
  refine zIh (zE g3) ?_;refine zQm ⟨_,rfl,fun h1=>?_,fun h1=>?_⟩
  ·have h1:at_<P.length:=by
    have:=of_decide_eq_true h1;simp only[length_map]at this;omega
   have hq:P[at_]?=some P[at_]:=by simp[h1]
   generalize P[at_]=q0 at hq;have hat':(P.map (·.1))[at_]?=some q0.1:=by rw[yn,hq];rfl
   unfold zsh;refine zD (zmi (zBf (zA (ze (zd rfl (ze (zt (zd rfl (zd rfl (z5b (zE g3) (zW (v := .int (q0.1:Nat)) (by rw[yn,hat'];rfl)) (zx ?_)))))))))));refine zku (h:=q0.1) (k2 _ _ hn) (by omega) fun l4 ν4 k4 hl4 g4 => .inr (.inr ⟨l4,_,rfl,g4,?_⟩);have hν2:=zG g3;refine z7c (JPd R K lay key n μ ν1 at_ P q0 l4) ⟨P,_,_,rfl,⟨[],by simp⟩,tP,by simp,k2.trans k4,k4 _ _ g2,k4 _ _ g3,g4⟩ (fun j δ ν ⟨_,_,_,_,_,_,_,_,_,_,h⟩=>zob h .refl) ?_ ?_
   ·rintro j z δ ν5 hz ⟨P',x',y',rfl,⟨E,hE⟩,tP',hdone,k5,g5,g6,g7⟩;rw[yn]at hz
    cases ho:(z6k lay q0.1)[j]? with
    |none=>rw[ho]at hz;cases hz
    |some o=>
     rw[ho]at hz;cases hz;have hom:=mem_of_getElem? ho;have hom':=List.mem_filter.mp hom;have hol:o<K.length:=by rw[<-hlen];simpa using hom'.1
     have hlo:=of_decide_eq_true hom'.2;have htk:(z6k lay q0.1).take (j+1)=(z6k lay q0.1).take j++[o]:=by rw[take_succ,ho];rfl
     have hq':P'[at_]?=some q0:=by rw[hE,yt h1];exact hq
     refine zdf ?_;have hl5:=zG g6;refine zNu w tP' hol hq' hlo hl2 g5 g6 fun P'' x'' ν6 ⟨E',hE'⟩ tP'' hall k6 g8 g9=>⟨P'',_,_,rfl,⟨E++E',by rw[hE',hE,append_assoc]⟩,tP'',fun o' ho' h hh=>?_,fun i o' e'=>k6 i o' (yw (zG e')) (by have:=zG e';omega) (k5 i o' e'),g8,g9,k6 l4 _ (by omega) (by omega) g7⟩
     rw[htk]at ho';rcases List.mem_append.mp ho' with ho' | ho'
     ·rw[hE',map_append,mem_append];exact .inl (hdone o' ho' h hh)
     ·rw[List.mem_singleton.mp ho']at hh;exact hall h hh
   ·rintro δ ν5 ⟨P',x',y',rfl,⟨E,hE⟩,tP',hdone,k5,g5,g6,g7⟩;rw[nat,length_map,take_length]at hdone;have hpl':=tP'.len;refine zGz rfl (w_c (zJx ?_));refine⟨R.length-(at_+1),by omega,P',at_+1,_,_,rfl,by rw[hE];simp;omega,rfl,tP',fun h hh=>?_,fun i p hi e o ho h hh=>?_,k5,g5,g6⟩
    ·rw[hE,map_append,mem_append];exact .inl (hkey h hh)
    ·by_cases hia:i<at_
     ·rw[hE,yt (by omega)]at e;rw[hE,map_append,mem_append];exact .inl (hcl i p hia e o ho h hh)
     ·have:i=at_:=by omega
      subst this;rw[hE,yt h1,hq]at e;cases e;refine hdone o ?_ h hh;refine List.mem_filter.mpr ⟨?_,decide_eq_true ho⟩;rw[mem_range];refine Nat.lt_of_not_le fun hle=>?_;rw[getD_eq_getElem?_getD,Yx hle]at ho;cases ho
  ·refine zzb (zd rfl ?_)
   have h1:at_=P.length:=by
    have:=of_decide_eq_false h1;simp only[length_map]at this;omega
   refine q P _ ν2 tP hkey (fun p hp o e h hh=>?_) k2 (yh _) g2;obtain⟨i,hi,rfl⟩:=List.mem_iff_getElem.mp hp;exact hcl i P[i] (by omega) (by simp[hi]) o e h hh
abbrev pD(p:Nat×Nat):D := .tup [.int (p.1:Nat), .int (p.2:Nat)]
inductive Path(P:PT)(lay:List (Option Nat)):Nat->List (Nat×Nat)->Prop
 |one {i:Nat} {p:Nat×Nat×Option Nat} (e:P[i]?=some p):Path P lay i [(p.2.1,p.1)]
 |up {i j:Nat} {p q:Nat×Nat×Option Nat} {row:List (Nat×Nat)} (h:Path P lay i row) (e:P[i]?=some p) (eq:P[j]?=some q) (hj:j<i) (hf:p.2.2=some q.1) (hl:lay.getD p.2.1 none=some q.1):Path P lay j ((q.2.1,q.1)::row)
def Path.head{P:PT}(h:Path P lay i row):∃p r,P[i]?=some p/\row=(p.2.1,p.1)::r:=by
 cases h with
 |one e=>exact⟨_,_,e,rfl⟩
 |up h e eq hj hf hl=>exact⟨_,_,eq,rfl⟩
def Path.idx{P:PT}(h:Path P lay i row):∀x∈row,∃j p,i<=j/\P[j]?=some p/\x=(p.2.1,p.1):=by
 induction h with
 |one e=>intro x hx;rw[List.mem_singleton.mp hx];exact⟨_,_,yh _,e,rfl⟩
 |up h e eq hj hf hl ih=>
  intro x hx;rcases List.mem_cons.mp hx with rfl | hx
  ·exact⟨_,_,yh _,eq,rfl⟩
  ·obtain⟨m,p,hm,e',r⟩:=ih x hx;exact⟨m,p,by omega,e',r⟩
def Path.tail{P:PT}(h:Path P lay i row):∀x∈row.tail,∃j p,i<=j/\P[j]?=some p/\lay.getD x.1 none=some p.1:=by
 induction h with
 |one e=>intro x hx;cases hx
 |up h e eq hj hf hl ih=>
  intro x hx;obtain⟨p',r,e',er⟩:=h.head;rw[e]at e';cases e';rw[List.tail_cons,er]at hx;rcases List.mem_cons.mp hx with rfl | hx
  ·exact⟨_,_,yh _,eq,hl⟩
  ·obtain⟨m,p,hm,e',r⟩:=ih x (by rw[er];exact hx);exact⟨m,p,by omega,e',r⟩
def Path.link{P:PT}(h:Path P lay i row):∀n p q,row[n]?=some p->row[n+1]?=some q->lay.getD q.1 none=some p.2:=by
 induction h with
 |one e=>intro n p q _ e2;simp at e2
 |up h e eq hj hf hl ih=>
  intro n p q e1 e2
  cases n with
  |zero=>
   obtain⟨p',r,e',er⟩:=h.head;rw[e]at e';cases e';rw[er]at e2;simp at e1 e2;subst e1 e2;exact hl
  |succ n=>exact ih n p q (by simpa using e1) (by simpa using e2)
def zAx{P:PT}(nd:(P.map (·.1)).Nodup){i j:Nat}{p q:Nat×Nat×Option Nat}(e1:P[i]?=some p)(e2:P[j]?=some q)(h:p.1=q.1):i=j:=by
 have h1:(P.map (·.1))[i]?=some p.1:=by rw[yn,e1];rfl
 have h2:(P.map (·.1))[j]?=some p.1:=by rw[yn,e2,h];rfl
 obtain⟨a,h1⟩:=List.getElem?_eq_some_iff.mp h1;obtain⟨b,h2⟩:=List.getElem?_eq_some_iff.mp h2;have pw:=List.pairwise_iff_getElem.mp nd;rcases Nat.lt_trichotomy i j with h | h | h
 ·exact absurd (h1.trans h2.symm) (pw i j a b h)
 ·exact h
 ·exact absurd (h2.trans h1.symm) (pw j i b a h)
def Path.ndk{P:PT}{key:Nat}(t:Tree R K lay key P)(hkey:lay.getD key none=none)(h:Path P lay i row):(row.map (·.1)).Nodup:=by
 induction h with
 |one e=>simp
 |@up i j p q row h e eq hj hf hl ih=>
  rw[map_cons,List.nodup_cons];refine⟨fun hm=>?_,ih⟩;obtain⟨x,hx,ex⟩:=List.mem_map.mp hm;have ht:=(Path.up h e eq hj hf hl).tail x hx;obtain⟨m,p',hm',e',el⟩:=ht;rw[ex]at el;obtain⟨_,_,h3⟩:=t.ok j q eq;rcases h3 with ⟨_,h3⟩ | ⟨j',q',hj',eq',_,h4⟩
  ·simp only at el;rw[h3,hkey]at el;cases el
  ·simp only at el;rw[h4]at el;have:=zAx t.nd eq' e' (by injection el);omega
def Path.ok{P:PT}{key:Nat}{p:Nat×Nat×Option Nat}(t:Tree R K lay key P)(hkey:lay.getD key none=none)(h:Path P lay i row)(e:P[i]?=some p)(hp:p.2.2=none):RowOk K lay key row:=by
 refine⟨?_,fun x hx=>?_,h.link,h.ndk t hkey⟩
 ·obtain⟨p',r,e',er⟩:=h.head;rw[e]at e';cases e';rcases(t.ok i p e).2.2 with ⟨_,h3⟩ | ⟨_,_,_,_,h3,_⟩
  ·exact⟨p.1,r,by rw[er,h3]⟩
  ·rw[hp]at h3;cases h3
 ·obtain⟨j,q,_,eq,rfl⟩:=h.idx x hx;obtain⟨h1,h2,h3⟩:=t.ok j q eq;refine⟨h1,h2,?_⟩;rcases h3 with ⟨_,h3⟩ | ⟨j',q',hj',eq',_,h4⟩
  ·simp only;rw[h3,hkey];exact fun h=>by cases h
  ·simp only;rw[h4];intro h;have:=zAx t.nd eq' eq (by injection h);omega
abbrev JRo(P:PT)(lay:List (Option Nat))(p0:Nat×Nat×Option Nat)(d:Nat)(μ:Mem):Nat->M.Loc->Mem->Prop:=fun m δ ν=>∃(acc:List (Nat×Nat)) (f:Option Nat),δ=[some (.loc d),some (onD f),some (.loc μ.length)]/\Keep μ ν/\ν[μ.length]?=some (.lst (acc.map pD))/\acc.length+m<=P.length /\
 ((f=none∧(∃ k,acc[0]?=some (k,p0.1))∧∃ i p,Path P lay i acc.reverse∧P[i]?=some p∧p.2.2=none) ∨
  (∃i p,m=i+1/\P[i]?=some p/\f=some p.1/\((acc=[]/\p=p0)\/((∃k,acc[0]?=some (k,p0.1))/\∃i' p',i<i'/\Path P lay i' acc.reverse/\P[i']?=some p'/\p'.2.2=some p.1/\lay.getD p'.2.1 none=some p.1))))
def zhu{key d i0:Nat}{p0:Nat×Nat×Option Nat}{P:PT}(t:Tree R K lay key P)(hR:R.length<=10)(hkey:lay.getD key none=none)(hd:zxc μ (.loc d)=some (dkP P))(hp0:P[i0]?=some p0)
 (q:∀(row:List (Nat×Nat)) (l:Nat) (μ':Mem),RowOk K lay key row->(row.getD (row.length-1) (0,0)).2=p0.1->row.length<=P.length->Keep μ μ'->μ.length<=l->μ'[l]?=some (.lst (row.map pD))->Q (.loc l) μ'):WF zUi [.loc d, .int p0.1] μ Q:=by
 have hpl:=t.len;refine zRb rfl ?_;show WS zaj [some (.loc d),some (.int p0.1),none] μ _ _ _ _;unfold zaj;refine zD (zhb (zBh (zx (zD ?_))));have hi0:=(List.getElem?_eq_some_iff.mp hp0).1
 have hdk:∀{μ':Mem},Keep μ μ'->zxc μ' (.loc d)=some (dkP P):=fun{μ'} kp=>by
  cases e:μ[d]? with
  |none=>simp[e]at hd
  |some o=>
   have e':=kp _ _ e;simp only[zxc,e]at hd;simp only[zxc,e'];exact hd
 refine zXl (JRo P lay p0 d μ) (m:=i0+1) (by omega)
  ⟨[],some p0.1,rfl, .app,zC,by simp;omega, .inr ⟨i0,p0,rfl,hp0,rfl, .inl ⟨rfl,rfl⟩⟩⟩ ?_
 rintro m δ ν ⟨acc,f,rfl,kp,g,hlen,h⟩;refine zQ (zt (zd rfl (w_c (zVi (zzp _) ⟨_,rfl,fun h1=>?_,fun h1=>?_⟩))))
 ·rcases h with ⟨rfl,_⟩ | ⟨i,p,rfl,ep,rfl,h⟩
  ·cases h1
  ·have hlook:=zCw t.nd (mem_of_getElem? ep)
   have hnew:Path P lay i ((p.2.1,p.1)::acc.reverse):=by
    rcases h with ⟨rfl,rfl⟩ | ⟨_,i',p',hi',hpa,ep',hf,hl⟩
    ·exact .one ep
    ·exact .up hpa ep' ep hi' hf hl
   have hac:∃k,(acc++[(p.2.1,p.1)])[0]?=some (k,p0.1):=by
    rcases h with ⟨rfl,rfl⟩ | ⟨⟨k,hk⟩,_⟩
    ·exact⟨p.2.1,rfl⟩
    ·refine⟨k,?_⟩;rw[yt (List.getElem?_eq_some_iff.mp hk).1];exact hk
   unfold zVk;refine zD (zHf (znk (zd rfl ⟨_,_,rfl,g,?_⟩)));refine ze (zPf (ze (zt (zt (zd rfl (zd rfl (zqt (hdk kp) hlook (w_c (z5b rfl rfl (ze (zd rfl (zx (zx ?_)))))))))))));refine zfj g (by rw[length_map];omega) ?_;have kp2:Keep μ (ν.set μ.length (.lst (acc.map pD++[pD (p.2.1,p.1)]))):=fun a o e=>zS (kp a o e) (yO (zG e));refine zhb (zt (zt (zd rfl (zd rfl (zqt (hdk kp2) hlook (w_c (z5b rfl rfl ?_)))))));obtain⟨_,_,h3⟩:=t.ok i p ep;rcases h3 with ⟨h3,_⟩ | ⟨j,q',hj,eq',h3,h4⟩
   ·refine⟨0,by omega,acc++[(p.2.1,p.1)],none,?_,kp2,?_,by rw[length_append];simp;omega, .inl ⟨rfl,hac,i,p,?_,ep,h3⟩⟩
    ·rw[h3];rfl
    ·rw[zub g,map_append];rfl
    ·rw[List.reverse_append];exact hnew
   ·refine⟨j+1,by omega,acc++[(p.2.1,p.1)],some q'.1,?_,kp2,?_,by rw[length_append];simp;omega, .inr ⟨j,q',rfl,eq',rfl, .inr ⟨hac,i,p,hj,?_,ep,h3,h4⟩⟩⟩
    ·rw[h3];rfl
    ·rw[zub g,map_append];rfl
    ·rw[List.reverse_append];exact hnew
 ·rcases h with ⟨rfl,⟨k,hk⟩,i,p,hpa,ep,hn⟩ | ⟨i,p,rfl,ep,rfl,h⟩
  ·refine zzb (zix (zd rfl ⟨_,_,rfl,g,?_⟩));refine q acc.reverse _ _ (hpa.ok t hkey ep hn) ?_ (by rw[List.length_reverse];omega) kp.to kp.len ?_
   ·have h0:=(List.getElem?_eq_some_iff.mp hk).1
    have:acc.reverse[acc.reverse.length-1]?=some (k,p0.1):=by
     rw[List.length_reverse,List.getElem?_reverse (by omega),show acc.length-1-(acc.length-1)=0 by omega];exact hk
    rw[getD_eq_getElem?_getD,this];rfl
   ·rw[zC,List.map_reverse]
  ·cases h1
def zdy(P:PT)(lay:List (Option Nat))(key:Nat):List Nat:=(yA lay.length).filter fun o=>decide (o=key)||decide (∃p∈P,lay.getD o none=some p.1)
def z9o{key:Nat}(w:Wb L R K)(hlen:lay.length=K.length)(hL:L<=1000)(hn:μ[n]?=some (.lst (lay.map onD)))(hk:key<K.length)(hkey:lay.getD key none=none)
 (q1:∀(row:List (Nat×Nat)) (l:Nat) (μ':Mem),RowOk K lay key row->lay.count (some (row.getD (row.length-1) (0,0)).2)<R.getD (row.getD (row.length-1) (0,0)).2 0->row.length<=10->Keep μ μ'->μ.length<=l->μ'[l]?=some (.lst (row.map pD))->Q (.tup [.str "put", .loc l]) μ')
 (q2:∀(S:List Nat)(l:Nat)(μ':Mem),S.Sublist (yA K.length)->key∈S->Shut R K lay S->Keep μ μ'->μ.length<=l->μ'[l]?=some (.lst (nat S))->Q (.tup [.str "full", .loc l]) μ'):WF zVe [wn R K, .loc n, .int key] μ Q:=by
 have hrl:=w.rl;have hkl:=w.kl;refine zRb rfl ?_;show WS z7i [some (wn R K),some (.loc n),some (.int key),none,none,none] μ _ _ _ _;unfold z7i;refine zD (zhb (zA (ze (zd rfl (ze (zd rfl (ze (zd rfl (zx ?_)))))))));refine zpo w hlen hL hn hk fun P d μ1 t hhome hcl k1 hd g1=>?_;refine zD (zhb (zA (ze (zd rfl (ze (zd rfl (zx ?_)))))));refine zGr w (k1 _ _ hn) fun l2 μ2 k2 hl2 g2=>?_;have g1':=k2 _ _ g1;have hpl:=t.len;refine zD (zmi (znw (zd rfl ⟨_,_,rfl,g1',?_⟩)));have hd1:d<μ1.length:=zG g1;have kf:Keep μ (μ2.set d (.dcf (dkP P))):=fun i o e=>zS ((k1.trans k2) i o e) (by have:=zG e;omega);have gd:=zub (o':=LObj.dcf (dkP P)) g1';have gl:=zS (o':=LObj.dcf (dkP P)) g2 (by omega:d≠l2);generalize μ2.set d (.dcf (dkP P))=μ3 at kf gd gl;rw[zSp];refine z7c (fun m δ ν=>∃x:Option D,δ=[some (wn R K),some (.loc n),some (.int key),some (.loc d),some (.loc l2),x]/\ν=μ3/\∀(i:Nat) p,i<m->P[i]?=some p->R.getD p.1 0<=lay.count (some p.1)) ⟨_,rfl,rfl,by simp⟩ (fun _ _ _ _=>rfl) ?_ ?_
 ·rintro m x δ ν hx ⟨y,rfl,rfl,hb⟩;rw[yn,yn]at hx
  cases ep:P[m]? with
  |none=>rw[ep]at hx;cases hx
  |some p=>
   rw[ep]at hx;cases hx;have hlt:=t.lt p (mem_of_getElem? ep);refine zdf ?_;unfold ztl;refine zCg (zQ (zt (zt (zd rfl (zd rfl (z5b (zE gl) (zW (v := .int ((R.getD p.1 0:Int)-(lay.count (some p.1):Nat))) (by unfold zrk;simp[hlt])) (w_c (zQm ⟨_,rfl,fun h1=>?_,fun h1=>?_⟩))))))))
   ·have h1:=of_decide_eq_true h1;refine zzb (zPf (ze (w_c (ze (zA (ze (zd rfl (ze (zd rfl (zx ?_))))))))));refine zhu t hrl.2 hkey (zji gd) ep fun row l μ4 hrow hlast hrl4 k4 hl4 g4=>zx ?_;refine q1 row l μ4 hrow ?_ (by omega) (kf.trans k4) (by have:=kf.len;omega) g4;rw[hlast];omega
   ·have h1:=of_decide_eq_false h1;refine zwb ⟨_,rfl,rfl,fun i p' hi e'=>?_⟩
    by_cases hm:i=m
    ·subst hm;rw[ep]at e';cases e';omega
    ·exact hb i p' (by omega) e'
 ·rintro δ ν ⟨y,rfl,rfl,hb⟩;rw[nat,length_map,length_map]at hb
  have hfull:∀p∈P,R.getD p.1 0<=lay.count (some p.1):=fun p hp=>by
   obtain⟨i,hi,rfl⟩:=List.mem_iff_getElem.mp hp;exact hb i P[i] hi (by simp[hi])
  refine zzb (zPf (ze (w_c (ze (zMq ?_)))));refine zzi (zd rfl (.inr (.inr ⟨n,_,rfl,kf _ _ hn,z3c (by rw[zld,length_map];omega),?_⟩)));rw[zRd onD lay none];refine zjk (fun(k:Nat) => .tup [.int k,onD (lay.getD k none)]) (yA lay.length) (fun(k:Nat)=>D.int k) (fun o=>decide (o=key)||decide (∃p∈P,lay.getD o none=some p.1)) (fun μ' k'=>zob (kf _ _ hn) k') (fun k hk' μ' kp=>?_) (fun μ' kp=>?_)
  ·have gd':=kp _ _ gd;refine zvn (zZe (zdf (zZe (zdf (zUl ?_)))));unfold z4k zjl;refine zdq (zQ (zt (zd rfl (zd rfl (zPi ⟨_,rfl,fun h1=>?_,fun h1=>?_⟩)))))
   ·have h1:k≠key:=by
     intro e;rw[e]at h1;simp at h1
    rw[decide_eq_false h1,Bool.false_or]
    cases e:lay.getD k none with
    |none=>
     refine zQ (zt (zd rfl (zd rfl (zpy (zji gd') ?_ ⟨_,rfl,?_,kp,fun hb=>(by cases hb)⟩))))
     ·rw[List.all_eq_true];intro x hx;obtain⟨p,hp,rfl⟩:=List.mem_map.mp hx;have:=t.lt p hp;exact decide_eq_true (by simp only;omega)
     ·symm
      refine decide_eq_false ?_;rintro⟨p,_,e⟩;cases e
    |some h=>
     refine zQ (zt (zd rfl (zd rfl (z5u (zji gd') ⟨_,rfl,?_,kp,fun hb=>zd rfl ⟨rfl,kp⟩⟩))));rw[zZj];refine decide_eq_decide.mpr ?_;rw[mem_map];constructor
     ·rintro⟨p,hp,rfl⟩;exact⟨p,hp,rfl⟩
     ·rintro⟨p,hp,e⟩;cases e;exact⟨p,hp,rfl⟩
   ·have h1:k=key:=by
     have:=beq_iff_eq.mp h1;omega
    rw[decide_eq_true h1,Bool.true_or];exact⟨rfl,kp,fun _=>zd rfl ⟨rfl,kp⟩⟩
  ·refine zx (q2 (zdy P lay key) _ _ ?_ ?_ ?_ (kf.trans kp.to) (kf.trans kp).len zC)
   ·rw[<-hlen];exact filter_sublist
   ·exact List.mem_filter.mpr ⟨by simpa[hlen] using hk,by simp⟩
   ·have hin:∀k∈zdy P lay key,∀h∈K.getD k [],∃p∈P,p.1=h:=fun k hkm h hh=>by
     have hm:=(List.mem_filter.mp hkm).2;rw[Bool.or_eq_true,decide_eq_true_iff,decide_eq_true_iff]at hm;rcases hm with rfl | ⟨p,hp,e⟩
     ·obtain⟨p,hp,e⟩:=List.mem_map.mp (hhome h hh);exact⟨p,hp,e⟩
     ·obtain⟨p',hp',e'⟩:=List.mem_map.mp (hcl p hp k e h hh);exact⟨p',hp',e'⟩
    refine⟨fun k hkm=>?_,fun k hkm h hh=>?_,fun k hkm h hh o e=>?_⟩
    ·have:=(List.mem_filter.mp hkm).1;rw[<-hlen];simpa using this
    ·obtain⟨p,hp,rfl⟩:=hin k hkm h hh;exact hfull p hp
    ·obtain⟨p,hp,rfl⟩:=hin k hkm h hh;refine List.mem_filter.mpr ⟨?_,?_⟩
     ·rw[mem_range];refine Nat.lt_of_not_le fun hle=>?_;rw[getD_eq_getElem?_getD,Yx hle]at e;cases e
     ·rw[Bool.or_eq_true];exact .inr (decide_eq_true ⟨p,hp,e⟩)
def zKy{xs ys:List D}(h:μ[n]?=some (.lst xs))(h2:μ[m]?=some (.lst ys))(hl:xs.length+ys.length<=1000000)(q:Q .non (μ.set n (.lst (xs++ys)))):WM zCv (.loc n) [.loc m] μ Q:=⟨_,_,by simp[h,h2,hl]<;>rfl,q⟩
def zry(h:k<lay.length):atI (lay.map onD) (k:Int)=some (onD (lay.getD k none)):=zW (by simp[h])
def zXq{p:Nat×Nat}(e:row[i]?=some p):atI (row.map pD) (i:Int)=some (pD p):=zW (by rw[yn,e];rfl)
def zPs{key r:Nat}{p:Nat×Nat}(w:Wb L R K)(hlen:lay.length=K.length)(hn:μ[n]?=some (.lst (lay.map onD)))(hr:μ[r]?=some (.lst (row.map pD)))(hrl:row.length<=1000)(ok:RowOk K lay key row)(e:row[i]?=some p)
 (q:∀μ',Keep μ μ'->Q (.bl true) μ'):WF zph [wn R K, .loc n, .loc r, .int i] μ Q:=by
 have hm:=ok.mem p (mem_of_getElem? e);have hi:=(List.getElem?_eq_some_iff.mp e).1;refine zRb rfl ?_;show WS zch [some (wn R K),some (.loc n),some (.loc r),some (.int i),none] μ _ _ _ _;unfold zch;refine zD (zhb (zt (zt (zd rfl (zd rfl (z5b (zE hr) (zXq e) (w_c (z5b rfl rfl ?_))))))));refine zD (zCg (zdq (zQ (zt (zd rfl (w_c (zQm ⟨_,rfl,fun h1=>?_,fun h1=>?_⟩)))))))
 case refine_2=>have:=of_decide_eq_true h1;omega
 refine zQ (zt (zd rfl (zA (ze (zd rfl (zx (zIh (zE hn) (zQm ⟨_,rfl,fun h2=>?_,fun h2=>zwb ?_⟩))))))))
 ·have:=of_decide_eq_true h2;rw[length_map]at this;omega
 refine zD (zCg (zdq (zQ (zt (zt (zt (zd rfl (zd rfl (z5b (zE hr) (zXq e) (w_c (z5b rfl rfl (zt (zt (zd rfl (w_c (zWj (zd rfl (zft hm.1 (zyp rfl ⟨_,rfl,fun h3=>?_,fun h3=>?_⟩)))))))))))))))))))
 case refine_2=>rw[decide_eq_true hm.2.1]at h3;cases h3
 refine zQ (zt (zt (zt (zd rfl (zd rfl (z5b (zE hr) (zXq e) (w_c (z5b rfl rfl (zt (zd rfl (zd rfl (z5b (zE hn) (zry (by omega)) (zSr (α:=Option Nat) (some p.2) (lay.getD p.1 none) ⟨_,rfl,fun h4=>?_,fun h4=>zwb ?_⟩)))))))))))))
 ·exact absurd (of_decide_eq_true h4).symm hm.2.2
 refine zzb (zt (zd rfl (zMq (zBf (znz (zd rfl (zzy (zdv (zd rfl ⟨_,rfl,_,_,rfl,hr, .inr (.inr ⟨_,_,rfl,zC,?_,?_⟩)⟩)))))))))
 ·rw[z0r];exact z3c (by rw[length_take,length_map];omega)
 rw[z0r,<-List.map_take];refine zCf pD (row.take i) (fun x => .int (x.1:Nat)) (fun μ' k=>zob zC k) (fun x hx μ' kp=>?_) (fun μ' kp=>?_)
 ·unfold ztk;exact zdf (zt (zd rfl (w_c (z5b rfl rfl ⟨rfl,kp,kp⟩))))
 ·have e2:((row.take i).map fun x=>D.int (x.1:Nat))=nat ((row.take i).map (·.1)):=(zbi _ _).symm;rw[e2];refine zyp (zE zC) ?_
  have hnot:p.1∉(row.take i).map (·.1):=by
   intro hmem;have nd:=ok.nd;rw[<-take_append_drop i row,map_append,nodup_append]at nd;refine nd.2.2 _ hmem _ ?_ rfl;refine List.mem_map.mpr ⟨p,?_,rfl⟩;rw[drop_eq_getElem_cons hi,(List.getElem?_eq_some_iff.mp e).2];exact mem_cons_self
  rw[decide_eq_false hnot];exact q _ (Keep.app.trans (kp.to))
def zYq{key r:Nat}{p:Nat×Nat}(hlen:lay.length=K.length)(hn:μ[n]?=some (.lst (lay.map onD)))(hr:μ[r]?=some (.lst (row.map pD)))(ok:RowOk K lay key row)(e:row[i]?=some p)
 (q:Q (.bl true) μ):WF zkh [.loc n, .int key, .loc r, .int i] μ Q:=by
 refine zRb rfl ?_;show WS zRh [some (.loc n),some (.int key),some (.loc r),some (.int i)] μ _ _ _ _;unfold zRh;refine zD (zCg (zQ (zt (zd rfl (w_c (zPi ⟨_,rfl,fun h1=>?_,fun h1=>zwb ?_⟩))))))
 ·obtain⟨h,r0,e0⟩:=ok.first
  refine zzb (zt (zt (zt (zd rfl (w_c (z5b (zE hr) (zXq (i:=0) (p:=(key,h)) (by rw[e0];rfl)) (w_c (z5b rfl rfl (zd rfl (zPi ?_))))))))));rw[beq_self_eq_true];exact q
 ·cases i with
  |zero=>exact absurd h1 (by decide)
  |succ j=>
   have hj:j<row.length:=by
    have:=(List.getElem?_eq_some_iff.mp e).1;omega
   have ej:row[j]?=some row[j]:=by simp[hj]
   have hl:=ok.link j _ _ ej e;have hm:=ok.mem p (mem_of_getElem? e);refine zzb (zt (zt (zd rfl (zt (zt (zd rfl (zd rfl (z5b (zE hr) (zXq e) (w_c (z5b rfl rfl (z5b (zE hn) (zry (by omega)) (zt (zt (zd rfl (zt (zd rfl (w_c (zKr ?_))))))))))))))))));rw[show((j+1:Nat):Int)-1=(j:Int) by omega];refine z5b (zE hr) (zXq ej) (w_c (z5b rfl rfl (zSr (α:=Option Nat) (lay.getD p.1 none) (some (row[j]).2) ?_)));rw[decide_eq_true hl];exact q
def zdo(r:RightL R K lay):z1k R K (lay.map onD) = .non:=by
 unfold z1k;rw[zVf fun k hk=>?_,zVf fun h hh=>?_]
 ·unfold zRs;rw[zPr];have:=r.room h;exact decide_eq_false (by omega)
 ·unfold zKm
  have e:(lay.map onD).getD k .non=onD (lay.getD k none):=by
   have hk':k<lay.length:=by rw[r.len];exact hk
   simp[hk']
  rw[e]
  cases e2:lay.getD k none with
  |none=>rfl
  |some h=>
   have hm:h∈K.getD k []:=r.home k h (by
    have hk':k<lay.length:=by rw[r.len];exact hk
    simp[hk']at e2;simp[hk',e2])
   show(_ && !((nat (K.getD k [])).any fun y=>eqF y (.int h)))=false;rw[zts,decide_eq_true hm,Bool.not_true,Bool.and_false]
def zox(lay:List (Option Nat))(k h:Nat):(lay.set k (some h)).map onD=(lay.map onD).set k (.int h):=List.map_set
def zNs{key r:Nat}(w:Wb L R K)(hL:L<=1000)(rt:RightL R K lay)(hn:μ[n]?=some (.lst (lay.map onD)))(hr:μ[r]?=some (.lst (row.map pD)))(hrl:row.length<=1000)(ok:RowOk K lay key row)(hkey:lay.getD key none=none)(hroom:lay.count (some (row.getD (row.length-1) (0,0)).2)<R.getD (row.getD (row.length-1) (0,0)).2 0)
 (q:∀(l:Nat)(μ':Mem),Keep μ μ'->μ.length<=l->μ'[l]?=some (.lst ((zxe lay row).map onD))->Q (.loc l) μ'):WF zWi [wn R K, .loc n, .int key, .loc r] μ Q:=by
 have hkl:=w.kl;have hlen:=rt.len;refine zRb rfl ?_;show WS zTi [some (wn R K),some (.loc n),some (.int key),some (.loc r),none,none,none] μ _ _ _ _;unfold zTi;refine zD (zhb (zA (ze (zd rfl (zx (zcp (zE hn) ?_))))));refine zD (zmi (zzi (zd rfl (.inr (.inr ⟨r,_,rfl,zFc hr,?_⟩)))));refine z7c (fun m δ ν=>∃x y:Option D,δ=[some (wn R K),some (.loc n),some (.int key),some (.loc r),some (.loc μ.length),x,y]/\Keep μ ν/\ν[μ.length]?=some (.lst ((zxe lay (row.take m)).map onD))) ⟨_,_,rfl, .app,zC⟩ (fun m δ ν ⟨_,_,_,k,_⟩=>zob hr k) ?_ ?_
 ·rintro m x δ ν hx ⟨a,b,rfl,kp,g⟩;obtain⟨p,ep,rfl⟩:=zZq hx;have hm:=ok.mem p (mem_of_getElem? ep);have htk:row.take (m+1)=row.take m++[p]:=by rw[take_succ,ep];rfl
  refine zvn (zZe (zdf (zZe (zdf (zUl ?_)))));unfold z9k;refine zD (zCg (zfp (zUu (zQ (zA (ze (zd rfl (ze (zd rfl (ze (zd rfl (ze (zd rfl (zx ?_))))))))))))));refine zPs w hlen (kp _ _ hn) (kp _ _ hr) hrl ok ep fun μ1 k1=>⟨_,rfl,fun _=>?_,fun h=>(by cases h)⟩
  refine zQ (zA (ze (zd rfl (ze (zd rfl (ze (zd rfl (ze (zd rfl (zx ?_))))))))));refine zYq hlen ((kp.trans k1) _ _ hn) ((kp.trans k1) _ _ hr) ok ep ⟨_,rfl,fun h=>(by cases h),fun _=>zwb ?_⟩;refine zOh (zt (zd rfl (w_c (z5b rfl rfl ?_))));have g1:=k1 _ _ g;refine zOu (zd rfl (zt (zd rfl (w_c (z5b rfl rfl ⟨_,_,_,rfl,rfl,g1,?_,?_⟩)))))
  ·rw[length_map,zdh];omega
  ·refine⟨_,_,rfl,fun i o e=>zS (k1 _ _ (kp i o e)) (yO (zG e)),?_⟩;rw[zub g1,htk,zXk,zox];rfl
 ·rintro δ ν ⟨a,b,rfl,kp,g⟩;rw[zld,length_map,take_length]at g
  have hpos:0<row.length:=by
   obtain⟨h,q,e⟩:=ok.first
   rw[e];simp
  refine zD (zCg (zdq (zQ (zt (zA (ze (zd rfl (zx (zIh (zE (kp _ _ hr)) (w_c (zPi ⟨_,rfl,fun h1=>?_,fun h1=>?_⟩)))))))))))
  case refine_2=>
   have:=beq_iff_eq.mp h1;rw[length_map]at this;omega
  have hr2:=zak rt ok hkey hroom;refine zQ (zt (zA (ze (zd rfl (ze (zd rfl (zx ?_)))))));refine zEt w (zss _) (by rw[length_map,zdh];exact hlen) g fun μ1 k1=>?_;rw[zdo hr2];refine w_c (zVi rfl ⟨_,rfl,fun h=>(by cases h),fun _=>zwb (zzb (zd rfl ?_))⟩);exact q _ _ (kp.trans k1) (yh _) (k1 _ _ g)
def zJg(S:List Nat)(k:Nat):List Nat:=S.filter fun o=>!decide (o=k)
def zOc(R:List Nat)(K:List (List Nat))(S:List Nat):Option Nat:=S.find? fun k=>zLf R K (zJg S k)
def zii(h:zOc R K S=some k):k∈S:=List.mem_of_find?_eq_some h
def z0m(h:zOc R K S=some k):zLf R K (zJg S k)=true:=List.find?_some (p:=fun k=>zLf R K (zJg S k)) h
def zMe(S:List Nat)(k:Nat):(zJg S k).Sublist S:=filter_sublist
def zEj(h:S.Nodup)(k:Nat):S.erase k=zJg S k:=by
 rw[h.erase_eq_filter];unfold zJg;refine List.filter_congr fun x _=>?_
 by_cases e:x=k<;>simp[e]
def zBj(h:S.Nodup){k:Nat}(hk:k∈S):(zJg S k).length+1=S.length:=by
 rw[<-zEj h,List.length_erase_of_mem hk];have:=List.length_pos_of_mem hk;omega
def zGk(R:List Nat)(K:List (List Nat)):Nat->List Nat->List Nat
 |0,S=>S
 |n+1,S=>match zOc R K S with
  |none=>S
  |some k=>zGk R K n (zJg S k)
def zgn(R:List Nat)(K:List (List Nat))(S:List Nat):List Nat:=zGk R K S.length S
def z4q(h:zOc R K S=none):zgn R K S=S:=by
 unfold zgn
 cases S with
 |nil=>rfl
 |cons a S=>rw[length_cons,zGk,h]
def ziq(hd:S.Nodup)(h:zOc R K S=some k):zgn R K S=zgn R K (zJg S k):=by
 have h1:=zBj hd (zii h);unfold zgn
 conv=>lhs;rw[<-h1,zGk,h]
def zXm{R:List Nat}{K:List (List Nat)}:∀(n:Nat)(S:List Nat),(zGk R K n S).Sublist S
 |0,S=>List.Sublist.refl _
 |n+1,S=>by
  unfold zGk
  cases zOc R K S with
  |none=>exact List.Sublist.refl _
  |some k=>exact(zXm n _).trans (zMe S k)
def zln{R:List Nat}{K:List (List Nat)}:∀(n:Nat)(S:List Nat),S.Nodup->S.length<=n->zOc R K (zGk R K n S)=none
 |0,S,_,h=>by
  have:S=[]:=List.length_eq_zero_iff.mp (by omega);subst this;rfl
 |n+1,S,hd,h=>by
  unfold zGk
  cases e:zOc R K S with
  |none=>exact e
  |some k=>
   have:=zBj hd (zii e);exact zln n _ (hd.sublist (zMe S k)) (by omega)
def zsj{R:List Nat}{K:List (List Nat)}:∀(n:Nat)(S:List Nat),zLf R K S=true->zLf R K (zGk R K n S)=true
 |0,S,h=>h
 |n+1,S,h=>by
  unfold zGk
  cases e:zOc R K S with
  |none=>exact h
  |some k=>exact zsj n _ (z0m e)
def z0j(w:Wb L R K)(hn:μ[n]?=some (.lst (nat S)))(hS:∀k∈S,k<K.length)(hl:S.length<=1000)
 (q:∀μ',Keep μ μ'->Q (onD (zOc R K S)) μ'):WF zOd [wn R K, .loc n] μ Q:=by
 refine zRb rfl ?_;show WS zqf [some (wn R K),some (.loc n),none] μ _ _ _ _;unfold zqf;refine zD (zmi (zBf (zd rfl (.inr (.inr ⟨n,_,rfl,hn,?_⟩)))));refine z7c (fun m δ μ'=>∃a:Option D,δ=[some (wn R K),some (.loc n),a]/\Keep μ μ'/\∀k∈S.take m,zLf R K (zJg S k)=false) ⟨_,rfl, .refl,by simp⟩ (fun m δ μ' ⟨a,_,k,_⟩=>zob hn k) ?_ ?_
 ·rintro m x δ μ1 hx ⟨a,rfl,k1,hb⟩;rw[yn]at hx
  cases hy:S[m]? with
  |none=>rw[hy]at hx;cases hx
  |some kk=>
   rw[hy]at hx;cases hx;have ht:S.take (m+1)=S.take m++[kk]:=by rw[take_succ,hy];rfl
   refine zdf ?_;unfold zmh;refine zCg (zQ (zA (ze (zd rfl (ze (zMq ?_))))));refine zBf (zd rfl (.inr (.inr ⟨n,_,rfl,k1 _ _ hn,z3c (by rw[length_map];omega),?_⟩)));refine zjk (fun(k:Nat)=>D.int k) S (fun(k:Nat)=>D.int k) (fun o=>!decide (o=kk)) (fun μ' k'=>zob (k1 _ _ hn) k') (fun j hj μ' kp=>?_) (fun μ2 k2=>?_)
   ·repeat walk_at "w"
    refine⟨?_,kp,fun _=>?_⟩
    ·congr 1
     by_cases e:j=kk
     ·subst e;simp
     ·simp[e];omega
    ·unfold zuh;exact zd rfl ⟨rfl,kp⟩
   ·refine zx ?_;have hls:(zJg S kk).length<=S.length:=(zMe S kk).length_le;refine z8p w (S:=zJg S kk) zC (fun k hk=>hS k ((zMe S kk).subset hk)) (by omega) fun μ3 k3=>⟨_,rfl,fun h1=>?_,fun h1=>?_⟩
    ·refine zzb (zd rfl ?_);have:=q μ3 (k1.trans (k2.to.trans k3))
     have e:zOc R K S=some kk:=by
      unfold zOc;rw[List.find?_eq_some_iff_append];refine⟨h1,S.take m,S.drop (m+1),?_,fun a ha=>by rw[hb a ha];rfl⟩;have hlt:=(List.getElem?_eq_some_iff.mp hy).1
      have e1:S.drop m=kk::S.drop (m+1):=by
       rw[drop_eq_getElem_cons hlt,(List.getElem?_eq_some_iff.mp hy).2]
      rw[<-e1,take_append_drop]
     rw[e]at this;exact this
    ·refine zwb ⟨_,rfl,k1.trans (k2.to.trans k3),fun k hk=>?_⟩;rw[ht]at hk;rcases List.mem_append.mp hk with hk | hk
     ·exact hb k hk
     ·rw[List.mem_singleton.mp hk];exact h1
 ·rintro δ μ1 ⟨a,rfl,k1,hb⟩;rw[length_map,take_length]at hb;refine zzb (w_c ?_);have:=q μ1 k1
  have e:zOc R K S=none:=by
   unfold zOc;rw[List.find?_eq_none];intro k hk;rw[hb k hk];exact yx
  rw[e]at this;exact this
def zKq(w:Wb L R K)(hn:μ[n]?=some (.lst (nat S)))(hS:∀k∈S,k<K.length)(hl:S.length<=1000)(hd:S.Nodup)
 (q:∀(l:Nat)(μ':Mem),Keep μ μ'->μ.length<=l->μ'[l]?=some (.lst (nat (zgn R K S)))->Q (.loc l) μ'):WF zMh [wn R K, .loc n] μ Q:=by
 refine zRb rfl ?_;show WS zqh [some (wn R K),some (.loc n),none,none] μ _ _ _ _;unfold zqh;refine zD (zhb (zA (ze (zd rfl (zx (zcp (zE hn) ?_))))));refine zD (zhb (zA (ze (zd rfl (ze (zd rfl (zx ?_)))))));refine z0j w zC hS hl fun μ1 k1=>?_;refine zD ?_;refine zXl (fun m δ μ'=>∃T:List Nat,m=T.length/\δ=[some (wn R K),some (.loc n),some (.loc μ.length),some (onD (zOc R K T))]/\Keep μ μ'/\μ'[μ.length]?=some (.lst (nat T))/\T.Sublist S/\zgn R K S=zgn R K T) (m:=S.length) (by omega) ⟨S,rfl,rfl,Keep.app.trans k1,k1 _ _ zC,List.Sublist.refl _,rfl⟩ ?_;rintro m δ μ' ⟨T,rfl,rfl,k2,g2,hT,ht⟩;have hTd:=hd.sublist hT;have hTl:=hT.length_le
 repeat walk_at "w"
 refine zVi (zzp _) ⟨_,rfl,fun h1=>?_,fun h1=>?_⟩
 ·cases e:zOc R K T with
  |none=>rw[e]at h1;cases h1
  |some k=>
   have hk:=zii e;have hle:=zBj hTd hk;unfold zPj;refine zD (zHf (znk (zd rfl ⟨_,_,rfl,g2,?_⟩)));refine ze (zd rfl (zx ?_));refine zet g2 hk ?_;rw[zEj hTd];refine zhb (zA (ze (zd rfl (ze (zd rfl (zx ?_))))));have g3:=zub (o':=LObj.lst (nat (zJg T k))) g2;refine z0j w g3 (fun x hx=>hS x (hT.subset ((zMe T k).subset hx))) (by omega) fun μ3 k3=>?_;exact⟨(zJg T k).length,by omega,zJg T k,rfl,rfl,fun i o e'=>k3 _ _ (zS (k2 _ _ e') (yO (zG e'))),k3 _ _ g3,(zMe T k).trans hT,by rw[ht,ziq hTd e]⟩
 ·refine zzb (zd rfl ?_)
  have e:zOc R K T=none:=by
   cases e:zOc R K T with
   |none=>rfl
   |some k=>rw[e]at h1;cases h1
  refine q _ _ k2 (yh _) ?_;rw[ht,z4q e];exact g2
def z8t{key:Nat}(ok:RowOk K lay key row){k:Nat}(h:k∈row.map (·.1)):k=key\/(lay.getD k none).isSome=true:=by
 obtain⟨p,hp,rfl⟩:=List.mem_map.mp h;obtain⟨i,hi,rfl⟩:=List.mem_iff_getElem.mp hp
 cases i with
 |zero=>
  obtain⟨h,r,e⟩:=ok.first
  subst e;exact .inl rfl
 |succ j=>
  have:=ok.link j row[j] row[j+1] (by simp[show j<row.length by omega]) (by simp[hi]);exact .inr (by rw[this];rfl)
def z4j{key:Nat}(hlen:lay.length=K.length)(ok:RowOk K lay key row){k:Nat}(h:k=key\/(lay.getD k none).isSome=true):((zxe lay row).getD k none).isSome=true:=by
 by_cases hm:k∈row.map (·.1)
 ·obtain⟨p,hp,rfl⟩:=List.mem_map.mp hm;rw[zGl ok.nd hp (by rw[hlen];exact(ok.mem p hp).1)];rfl
 ·rcases h with rfl | h
  ·obtain⟨h,r,e⟩:=ok.first
   subst e;exact absurd (by simp) hm
  ·rw[zAe hm];exact h
def zSj{key:Nat}(ok:RowOk K lay key row){k:Nat}(h:lay.getD k none=none)(hk:k≠key):(zxe lay row).getD k none=none:=by
 rw[zAe fun hm=>?_]
 ·exact h
 ·rcases z8t ok hm with e | e
  ·exact hk e
  ·rw[h]at e;cases e
def z1l{s:Str}(h:xB s=true):toP μ 8 (.str s)=some (.str s):=by
 show(bif xB s then some (PyData.str s) else none)=_;rw[h];rfl
def zAc{a b:Str}(q:Q (.bl (yI (.str a) (.str b))) μ)(ha:xB a=true:=by decide +kernel)(hb:xB b=true:=by decide +kernel):W2 gEq (.str a) (.str b) μ Q:=zVy (z1l ha) (z1l hb) q
structure Done(R:List Nat)(K:List (List Nat))(lay0 lay:List (Option Nat))(ks C:List Nat):Prop where
 right:RightL R K lay
 shut:Shut R K lay C
 old:∀k,(lay0.getD k none).isSome=true->(lay.getD k none).isSome=true
 non:∀k,k∉ks->lay0.getD k none=none->lay.getD k none=none
 all:∀k∈ks,(lay.getD k none).isSome=true\/(k∈C/\lay.getD k none=none)
 out:C≠[]->∃k∈C,k∈ks/\lay.getD k none=none
def Done.put{ks:List Nat}{key:Nat}(d:Done R K lay0 lay ks C)(hk:key∉ks)(hkey:lay.getD key none=none)(ok:RowOk K lay key row)
 (hroom:lay.count (some (row.getD (row.length-1) (0,0)).2)<R.getD (row.getD (row.length-1) (0,0)).2 0):Done R K lay0 (zxe lay row) (ks++[key]) C:=by
 have hlen:=d.right.len;refine⟨zak d.right ok hkey hroom,d.shut.push d.right ok hkey hroom,fun k h=>z4j hlen ok (.inr (d.old k h)),fun k h h0=>?_,fun k h=>?_,fun hC=>?_⟩
 ·rw[mem_append,not_or]at h;exact zSj ok (d.non k h.1 h0) (by simpa using h.2)
 ·rcases List.mem_append.mp h with h' | h
  ·rcases d.all k h' with h1 | ⟨h1,h2⟩
   ·exact .inl (z4j hlen ok (.inr h1))
   ·exact .inr ⟨h1,zSj ok h2 (by rintro rfl;exact hk h')⟩
  ·rw[List.mem_singleton.mp h];exact .inl (z4j hlen ok (.inl rfl))
 ·obtain⟨k,h1,h2,h3⟩:=d.out hC;exact⟨k,h1,mem_append_left _ h2,zSj ok h3 (by rintro rfl;exact hk h2)⟩
def Done.full{ks:List Nat}{key:Nat}(d:Done R K lay0 lay ks C)(hkey:lay.getD key none=none)(hS:key∈S)(s:Shut R K lay S):Done R K lay0 lay (ks++[key]) (C++S):=by
 refine⟨d.right,d.shut.app s,d.old,fun k h h0=>?_,fun k h=>?_,fun hC=>⟨key,mem_append_right _ hS,by simp,hkey⟩⟩
 ·rw[mem_append,not_or]at h;exact d.non k h.1 h0
 ·rcases List.mem_append.mp h with h | h
  ·rcases d.all k h with h1 | ⟨h1,h2⟩
   ·exact .inl h1
   ·exact .inr ⟨mem_append_left _ h1,h2⟩
  ·rw[List.mem_singleton.mp h];exact .inr ⟨mem_append_right _ hS,hkey⟩
def zLq(m:Nat)(C:List Nat):List Nat:=(yA m).filter fun k=>decide (k∈C)
def zyh(h:∀k∈C,k<m)(k:Nat):k∈zLq m C↔k∈C:=by
 unfold zLq;rw[List.mem_filter,mem_range,decide_eq_true_iff];exact⟨fun q=>q.2,fun q=>⟨h k q,q⟩⟩
def ziw{φ:FE}(hC:∀k∈C,k<m)(hm:m<64)(hl:C.length<=4000)(h:WE φ δ μ fun x μ1=>x = .loc n/\μ1[n]?=some (.lst (nat C))/\Q (.loc μ1.length) (μ1++[.lst (nat (zLq m C))])):WE (zNq φ) δ μ Q:=by
 have hmem:∀i:Int,i∈(zLq m C).map (fun(k:Nat)=>(k:Int))↔i∈C.map (fun(k:Nat)=>(k:Int)):=fun i=>by
  simp only[mem_map];constructor
  ·rintro⟨k,hk,rfl⟩;exact⟨k,(zyh hC k).mp hk,rfl⟩
  ·rintro⟨k,hk,rfl⟩;exact⟨k,(zyh hC k).mpr hk,rfl⟩
 have hpw:((zLq m C).map (fun(k:Nat)=>(k:Int))).Pairwise (· < ·):=by
  rw[pairwise_map];exact(List.pairwise_lt_range.filter _).imp fun h=>by omega
 have hp:=zcm hmem hpw;have hsort:=zAp hmem hpw;have hsl:(zLq m C).length<=m:=by unfold zLq;simpa using(filter_sublist (l:=yA m) (p:=fun k=>decide (k∈C))).length_le
 refine zgv (h.mono ?_);rintro x μ1 ⟨rfl,g,q⟩;refine⟨_,C.map (fun(k:Nat)=>(k:Int)),rfl,by rw[g,map_map];rfl,by rw[length_map];omega,by rw[hp.length_eq,length_map];omega,?_⟩;rw[hsort,map_map];exact q
abbrev JLm(R:List Nat)(K:List (List Nat))(lay0:List (Option Nat))(ks:List Nat)(n m:Nat)(μ:Mem):Nat->M.Loc->Mem->Prop:=fun i δ ν=>∃(lay:List (Option Nat)) (C:List Nat) (l:Nat) (x y:Option D),δ=[some (wn R K),some (.loc l),some (.loc m),some (.loc μ.length),x,y]/\Done R K lay0 lay (ks.take i) C/\C.length<=i*K.length/\Keep μ ν/\(l=n/\lay=lay0\/μ.length<l)/\ν[μ.length]?=some (.lst (nat C))/\ν[l]?=some (.lst (lay.map onD))
def zCo{ks:List Nat}(w:Wb L R K)(hL:L<=60)(rt:RightL R K lay0)(hn:μ[n]?=some (.lst (lay0.map onD)))(hm:μ[m]?=some (.lst (nat ks)))(hks:∀k∈ks,k<K.length)(hnd:ks.Nodup)(hnon:∀k∈ks,lay0.getD k none=none)
 (q:∀(lay:List (Option Nat)) (C:List Nat) (l l2:Nat) (μ':Mem),Done R K lay0 lay ks C->Keep μ μ'->(l=n/\lay=lay0\/μ.length<=l)->μ.length<=l2->l≠l2->μ'[l]?=some (.lst (lay.map onD))->μ'[l2]?=some (.lst (nat (zLq K.length C)))->Q (.tup [.loc l, .loc l2]) μ'):WF z7e [wn R K, .loc n, .loc m] μ Q:=by
 have hkl:=w.kl
 have hkn:ks.length<=K.length:=by
  have:=zze hnd (m:=yA K.length) fun x hx=>by simpa using hks x hx
  simpa using this
 refine zRb rfl ?_;show WS z3e [some (wn R K),some (.loc n),some (.loc m),none,none,none] μ _ _ _ _;unfold z3e;refine zD (zhb (zBh (zx (zD (zmi (zBf (zd rfl (.inr (.inr ⟨m,_,rfl,zFc hm,?_⟩)))))))));have hnl:=zG hn
 refine z7c (JLm R K lay0 ks n m μ)
  ⟨lay0,[],n,_,_,rfl,⟨rt, .nil,fun _ h=>h,fun _ _ h=>h,by simp,fun h=>absurd rfl h⟩,by simp, .app, .inl ⟨rfl,rfl⟩,zC,zFc hn⟩ (fun i δ ν ⟨_,_,_,_,_,_,_,_,k,_⟩=>zob hm k) ?_ ?_
 ·rintro i z δ ν hz ⟨lay,C,l,x,y,rfl,d,hCl,kp,hl,gC,gl⟩;rw[yn]at hz
  cases ek:ks[i]? with
  |none=>rw[ek]at hz;cases hz
  |some key=>
   rw[ek]at hz;cases hz;have hkm:=mem_of_getElem? ek;have hil:=(List.getElem?_eq_some_iff.mp ek).1;have htk:ks.take (i+1)=ks.take i++[key]:=by rw[take_succ,ek];rfl
   have hkt:key∉ks.take i:=by
    intro hmem;have nd:=hnd;rw[<-take_append_drop i ks,nodup_append]at nd;refine nd.2.2 _ hmem _ ?_ rfl;rw[drop_eq_getElem_cons hil,(List.getElem?_eq_some_iff.mp ek).2];exact mem_cons_self
   have hkey:=d.non key hkt (hnon key hkm);have hCb:i*K.length<=60*60:=Nat.mul_le_mul (by omega) (by omega);refine zdf ?_;unfold zUh;refine zD (zhb (zA (ze (zd rfl (ze (zd rfl (ze (zd rfl (zx ?_)))))))));refine z9o w d.right.len (by omega) gl (hks key hkm) hkey (fun row r μ1 ok hroom hrl k1 hr gr=>?_) (fun S r μ1 hS hkS s k1 hr gr=>?_)
   ·refine zCg (zQ (zt (zt (zd rfl (w_c (z5b rfl rfl (w_c (zAc ⟨_,rfl,fun _=>?_,fun h=>absurd h (by decide +kernel)⟩))))))));refine zhb (zA (ze (zd rfl (ze (zd rfl (ze (zd rfl (ze (zt (zd rfl (w_c (z5b rfl rfl (zx ?_)))))))))))));refine zNs w (by omega) d.right (k1 _ _ gl) gr (by omega) ok hkey hroom fun l' μ2 k2 hl' g2=>?_;refine⟨zxe lay row,C,l',_,_,rfl,by rw[htk];exact d.put hkt hkey ok hroom,by rw[Nat.succ_mul];omega,kp.trans (k1.trans k2), .inr ?_,(k1.trans k2) _ _ gC,g2⟩;have:=(kp.trans k1).len;have:=k1.len;have:=zG gC;omega
   ·refine zCg (zQ (zt (zt (zd rfl (w_c (z5b rfl rfl (w_c (zAc ⟨_,rfl,fun h=>?_,fun _=>?_⟩))))))))
    ·exact absurd h (by decide +kernel)
    have hSl:S.length<=K.length:=by simpa using hS.length_le
    refine zHf (znk (zd rfl ⟨_,_,rfl,k1 _ _ gC,?_⟩));refine ze (zt (zd rfl (w_c (z5b rfl rfl (zx ?_)))));refine zKy (k1 _ _ gC) gr (by simp only[length_map];omega) ?_;have hlt:=zG gC;refine⟨lay,C++S,l,_,_,rfl,by rw[htk];exact d.full hkey hkS s,by rw[Nat.succ_mul,length_append];omega,fun a o e=>zS (k1 _ _ (kp a o e)) (yO (zG e)),hl,?_,zS (k1 _ _ gl) (by rcases hl with ⟨h,_⟩ | h<;>omega)⟩;rw[zub (k1 _ _ gC),z7f]
 ·rintro δ ν ⟨lay,C,l,x,y,rfl,d,hCl,kp,hl,gC,gl⟩;rw[length_map,take_length]at d;rw[length_map]at hCl;have hCb:ks.length*K.length<=60*60:=Nat.mul_le_mul (by omega) (by omega);refine zzb (zPf (ze (zd rfl (ze ?_))));refine ziw (n:=μ.length) (m:=K.length) d.shut.keys (by omega) (by omega) (zd rfl ⟨rfl,gC,zx ?_⟩);have:=zG gl;exact q lay C l _ _ d kp.to (by rcases hl with h | h;exact .inl h;exact .inr (by omega)) kp.len (by omega) (zFc gl) zC
def zNn(w:Wb L R K)(hL:L<=60)
 (q:∀(lay:List (Option Nat)) (C:List Nat) (l l2:Nat) (μ':Mem),Done R K (yz K.length none) lay (yA K.length) C->Keep μ μ'->μ.length<=l->μ.length<=l2->l≠l2->μ'[l]?=some (.lst (lay.map onD))->μ'[l2]?=some (.lst (nat (zLq K.length C)))->Q (.tup [.loc l, .loc l2]) μ'):WF zAd [wn R K] μ Q:=by
 have hkl:=w.kl;refine zRb rfl ?_;show WS zEd [some (wn R K)] μ _ _ _ _;unfold zEd;refine zzb (zA (ze (zd rfl (ze (zt (zBh (ze (w_c (zx (zA (ze (zt (zd rfl (w_c (zWj (zx (zIh rfl ?_)))))))))))))))));refine zZx zC (by rw[length_map];omega) (by omega) (by simp) ?_;refine ze (zJp (zA (ze (zt (zd rfl (w_c (zWj (zx (zIh rfl ⟨_,rfl,?_,zx ?_⟩)))))))))
 ·rw[length_map];omega
 have e1:(yz (((K.map tn).length:Nat):Int).toNat [D.non]).flatten=(yz K.length (none:Option Nat)).map onD:=by
  rw[Ys,length_map,List.map_replicate,List.flatten_replicate_singleton]
 rw[e1,Ys,length_map]
 have hrep:∀k,(yz K.length (none:Option Nat)).getD k none=none:=fun k=>by
  rw[getD_eq_getElem?_getD,YI]
  split<;>rfl
 refine zCo (ks:=yA K.length) w hL ⟨by simp,fun k h e=>?_,fun h=>?_⟩ (zFc zC) zC (by simp) List.nodup_range (fun k _=>hrep k) fun lay C l l2 μ' d k hl hl2 hne g g2=>?_
 ·rw[YI]at e
  split at e
  ·cases e
  ·cases e
 ·rw[List.count_replicate];simp
 ·have k':=(Keep.to (Keep.to (Keep.app (μ:=μ) (g:=[.lst [.non]])))).trans k;refine q lay C l l2 μ' d k' ?_ ?_ hne g g2
  ·rcases hl with ⟨rfl,_⟩ | hl
   ·simp
   ·simp at hl;omega
  ·simp at hl2;omega
def zXr(w:Wb L R K)(hL:L<=60)
 (q1:∀(lay:List (Option Nat)) (l:Nat) (μ':Mem),RightL R K lay->(∀k<K.length,(lay.getD k none).isSome=true)->Keep μ μ'->μ.length<=l->μ'[l]?=some (.lst (lay.map onD))->Q (.tup [.str "fits", .loc l]) μ')
 (q2:∀(T:List Nat)(l:Nat)(μ':Mem),T.Sublist (yA K.length)->zLf R K T=true->zOc R K T=none->Keep μ μ'->μ.length<=l->μ'[l]?=some (.lst (nat T))->Q (.tup [.str "crowd", .loc l]) μ'):WF zRi [wn R K] μ Q:=by
 have hkl:=w.kl;refine zRb rfl ?_;show WS zbj [some (wn R K),none] μ _ _ _ _;unfold zbj;refine zD (zhb (zA (ze (zd rfl (zx ?_)))));refine zNn w hL fun lay C l l2 μ1 d k1 hl hl2 hne g g2=>?_;refine zD (zCg (zQ (zt (zt (zd rfl (w_c (z5b rfl rfl (zBh (zx ?_)))))))));refine zkw (α:=Nat) (zLq K.length C) [] (zFc g2) zC ⟨_,rfl,fun h1=>?_,fun h1=>zwb ?_⟩
 ·have h1:=of_decide_eq_true h1;refine zzb (zPf (ze (w_c (ze (zt (zd rfl (w_c (z5b rfl rfl (zx ?_)))))))));refine q1 lay l _ d.right (fun k hk=>?_) k1.to hl (zFc g);rcases d.all k (by simpa using hk) with h | ⟨h,_⟩
  ·exact h
  ·have:=(zyh d.shut.keys k).mpr h;rw[h1]at this;cases this
 ·have h1:=of_decide_eq_false h1
  have hC:C≠[]:=by
   rintro rfl;exact h1 (by unfold zLq;simp)
  obtain⟨k0,hk0,_,hn0⟩:=d.out hC;have hsub:(zLq K.length C).Sublist (yA K.length):=filter_sublist;have hcr:=zzq w (d.shut.congr (zyh d.shut.keys)) d.right.len ((zyh d.shut.keys k0).mpr hk0) hn0;have hsl:(zLq K.length C).length<=K.length:=by simpa using hsub.length_le
  have hnd:=List.nodup_range.sublist hsub;refine zzb (zPf (ze (w_c (ze (zA (ze (zd rfl (ze (zt (zd rfl (w_c (z5b rfl rfl (zx ?_)))))))))))));refine zKq w (zFc g2) (fun k hk=>by simpa using hsub.subset hk) (by omega) hnd fun l3 μ3 k3 hl3 g3=>zx ?_;exact q2 _ l3 μ3 ((zXm _ _).trans hsub) (zsj _ _ hcr) (zln _ _ hnd (yh _)) (k1.to.trans k3) (by have:=k1.len;simp at hl3;omega) g3
def zns{T:List Nat}(h:μ[n]?=some (.lst (nat S)))(hp:T.Perm S)(hT:T.Pairwise (· < ·))(hl:S.length<64)(q:Q (.loc μ.length) (μ++[.lst (nat T)])):WF zpi [.loc n] μ Q:=by
 have e1:nat S=(S.map fun(k:Nat)=>(k:Int)).map D.int:=by rw[map_map];rfl
 have e2:nat T=(T.map fun(k:Nat)=>(k:Int)).map D.int:=by rw[map_map];rfl
 have e3:zzk (S.map fun(k:Nat)=>(k:Int))=T.map fun(k:Nat)=>(k:Int):=by
  refine zad ((mergeSort_perm _ _).trans (hp.symm.map _)) (z9h _) ?_;rw[pairwise_map];exact hT.imp fun h=>by omega
 refine⟨_,_,?_,q⟩;simp only[zpi,h];rw[e1,zXg,ym,length_map,decide_eq_true hl,cond_true,e3,<-e2]
def dkN(kvs:List (Nat×Nat)):List (Int×D):=kvs.map fun p=>((p.1:Int),D.int (p.2:Nat))
def zig(k:Nat):∀kvs:List (Nat×Nat),zWc (dkN kvs) (k:Int)=(kvs.lookup k).map fun h=>D.int (h:Nat)
 |[]=>rfl
 |(j,h)::kvs=>by
  have ih:=zig k kvs;unfold zWc dkN at ih ⊢;rw[map_cons,xR,lookup_cons]
  by_cases hj:j=k
  ·subst hj;simp
  ·have h1:(decide (((j:Nat):Int)=(k:Int)))=false:=decide_eq_false (by omega);have h2:(k==j)=false:=beq_eq_false_iff_ne.mpr (yF hj);simp only[h1,h2];exact ih
abbrev fsD(r:D)(m:Nat):List (Str×D):=[("kept_rule",r),("nest_of", .loc m)]
structure Sh(μ:Mem)(n m:Nat)(r:D)(kvs:List (Nat×Nat)):Prop where
 at_:μ[n]?=some (.ins "Shelf" (fsD r m))
 dc:μ[m]?=some (.dct (dkN kvs))
 nd:(kvs.map (·.1)).Nodup
 few:kvs.length<=30
def Sh.keep{μ:Mem}(s:Sh μ n m r kvs)(k:Keep μ μ'):Sh μ' n m r kvs:=⟨k _ _ s.at_,k _ _ s.dc,s.nd,s.few⟩
section
variable {μ:Mem}{n m:Nat}{r:D}{kvs:List (Nat×Nat)}{Q:D->Mem->Prop}
def zOp(s:Sh μ n m r kvs)(q:Q r μ):WF z9b [.loc n] μ Q:=by
 refine zRb rfl ?_;show WS z1d [some (.loc n)] μ _ _ _ _;unfold z1d;exact zzb (z9j (zd rfl ⟨n,_,r,rfl,s.at_,rfl,q⟩))
def zkd(r:D)(m:Nat):(fsD r m).lookup ("nest_of":Str)=some (D.loc m):=by
 have h1:(("nest_of":Str) == "kept_rule")=false:=by decide +kernel
 have h2:(("nest_of":Str) == "nest_of")=true:=by decide +kernel
 simp only[fsD,lookup_cons,h1,h2]
def z2d(r:D)(m:Nat):(fsD r m).lookup ("all_there":Str)=none:=by
 have h1:(("all_there":Str) == "kept_rule")=false:=by decide +kernel
 have h2:(("all_there":Str) == "nest_of")=false:=by decide +kernel
 simp only[fsD,lookup_cons,h1,h2,lookup_nil]
def zZo(s:Sh μ n m r kvs)(q:Q (.bl (kvs.lookup k).isSome) μ):WF zxb [.loc n, .int k] μ Q:=by
 refine zRb rfl ?_;show WS ztf [some (.loc n),some (.int k)] μ _ _ _ _;unfold ztf;refine zzb (zt (zd rfl (z9j (zd rfl ⟨n,_, .loc m,rfl,s.at_,zkd r m,z5u (z4c s.dc) ?_⟩))));rw[zig,Option.isSome_map];exact q
def zeu(s:Sh μ n m r kvs)(q:Q (onD (kvs.lookup k)) μ):WF zDd [.loc n, .int k] μ Q:=by
 refine zRb rfl ?_;show WS zzd [some (.loc n),some (.int k)] μ _ _ _ _;unfold zzd;refine zzb (zwr (z9j (zd rfl ⟨n,_, .loc m,rfl,s.at_,zkd r m,m,_,rfl,s.dc,ze (zd rfl (zx (zIy (z4c s.dc) ?_)))⟩)));rw[zig]
 cases e:kvs.lookup k with
 |none=>rw[e]at q;exact q
 |some h=>rw[e]at q;exact q
structure Keys(kvs:List (Nat×Nat))(S:List Nat):Prop where
 pm:S.Perm (kvs.map (·.1))
 pw:S.Pairwise (· < ·)
def Keys.ex(nd:(kvs.map (·.1)).Nodup):∃S,Keys kvs S:=by
 refine⟨(kvs.map (·.1)).mergeSort (fun a b=>decide (a<=b)),mergeSort_perm _ _,?_⟩;have h1:=List.pairwise_mergeSort (le:=fun a b:Nat=>decide (a<=b)) (fun a b c h1 h2=>by simp at h1 h2 ⊢;omega) (fun a b=>by simp;omega) (kvs.map (·.1));have h2:((kvs.map (·.1)).mergeSort (fun a b=>decide (a<=b))).Pairwise (·≠·):=(mergeSort_perm _ _).nodup_iff.mpr nd;refine(h1.and h2).imp fun h=>?_;have:=of_decide_eq_true h.1;have:=h.2;omega
def Keys.len(k:Keys kvs S):S.length=kvs.length:=by rw[k.pm.length_eq,length_map]
def zbc(s:Sh μ n m r kvs)(k:Keys kvs S)(q:Q (.loc μ.length) (μ++[.lst (nat S)])):WF zz [.loc n] μ Q:=by
 have hf:=s.few;refine zRb rfl ?_;show WS zsc [some (.loc n)] μ _ _ _ _;unfold zsc;refine zzb (zA (ze (z9j (zd rfl ⟨n,_, .loc m,rfl,s.at_,zkd r m,zx ?_⟩))));have e0:(dkN kvs).map (·.1)=(kvs.map (·.1)).map fun(k:Nat)=>(k:Int):=by unfold dkN;rw[map_map,map_map];rfl
 have e2:nat S=(S.map fun(k:Nat)=>(k:Int)).map D.int:=by rw[map_map];rfl
 have e3:zzk ((kvs.map (·.1)).map fun(k:Nat)=>(k:Int))=S.map fun(k:Nat)=>(k:Int):=by
  refine zad ((mergeSort_perm _ _).trans (k.pm.symm.map _)) (z9h _) ?_;rw[pairwise_map];exact k.pw.imp fun h=>by omega
 have e4:(dkN kvs).length<64:=by unfold dkN;rw[length_map];omega
 refine⟨_,_,?_,q⟩;simp only[zhp,z4c s.dc,ym];rw[decide_eq_true e4,cond_true,e0,e3,<-e2]
def Keys.look(k:Keys kvs S){x:Nat}(h:x∈S):∃v,kvs.lookup x=some v:=by
 have h1:x∈kvs.map (·.1):=k.pm.mem_iff.mp h;obtain⟨p,hp,rfl⟩:=List.mem_map.mp h1
 cases e:kvs.lookup p.1 with
 |some v=>exact⟨v,rfl⟩
 |none=>
  rw[List.lookup_eq_none_iff]at e;exact absurd (e p hp) (by simp)
def zfn(s:Sh μ n m r kvs)(k:Keys kvs S)(q:∀l μ',Keep μ μ'->μ.length<=l->μ'[l]?=some (.lst (S.map fun x=>onD (kvs.lookup x)))->Q (.loc l) μ'):WF zIb [.loc n] μ Q:=by
 have hf:=s.few;have hl:=k.len;refine zRb rfl ?_;show WS zdd [some (.loc n)] μ _ _ _ _;unfold zdd;refine zzb (zMq (zBf (zA (zSb (zd rfl ⟨n,_,rfl,s.at_,z2d r m,zx (zbc s k (.inr (.inr ⟨_,_,rfl,zC,z3c (by rw[length_map];omega),?_⟩)))⟩)))));refine zCf (fun(x:Nat)=>D.int x) S (fun x=>onD (kvs.lookup x)) (fun μ' k=>zob zC k) (fun x hx μ' kp=>?_) (fun μ' kp=>?_)
 ·have s':=s.keep (Keep.app.trans kp);obtain⟨v,hv⟩:=k.look hx;refine zdf ?_;unfold zwf;exact zt (z9j (zd rfl ⟨n,_, .loc m,rfl,s'.at_,zkd r m,zd rfl (zqt (z4c s'.dc) (by rw[zig,hv];rfl) ⟨by rw[hv],kp,kp⟩)⟩))
 ·exact q _ _ (Keep.app.trans kp.to) (yy (by simp) kp.len) zC
end
def hmN(n k:Nat)(t:Nat×Nat):Nat:=(t.1*k+t.2)%10007%n
def pr2(t:Nat×Nat):D := .tup [.int (t.1:Nat), .int (t.2:Nat)]
abbrev rlN(R:List Nat)(ts:List (Nat×Nat)):D := .tup [tn R, .tup (ts.map pr2)]
structure Rl(R:List Nat)(ts:List (Nat×Nat)):Prop where
 rl:1<=R.length/\R.length<=10
 tl:2<=ts.length/\ts.length<=3
 tn:∀t∈ts,t.1<=10006/\t.2<=10006
def zQu(h:Rl R ts)(q:∀μ',Keep μ μ'->Q (tn (ts.map (hmN R.length k))) μ'):WF zKl [rlN R ts, .int k] μ Q:=by
 have hrl:=h.rl;have htl:=h.tl;refine zRb rfl ?_;show WS zAl [some (rlN R ts),some (.int k),none] μ _ _ _ _;unfold zAl
 repeat walk_at "w"
 refine z5b rfl (show atI [tn R, .tup (ts.map pr2)] 0=some (tn R) from rfl) ?_
 repeat walk_at "w"
 refine zBf ?_
 repeat walk_at "w"
 refine z5b rfl (show atI [tn R, .tup (ts.map pr2)] 1=some (.tup (ts.map pr2)) from rfl) (.inl ⟨_,rfl,z3c (by rw[length_map];omega),?_⟩);refine zCf pr2 ts (fun t=>D.int (hmN R.length k t:Nat)) (fun _ _=>rfl) (fun t ht μ' kp=>?_) (fun μ' kp=>?_)
 ·have hb:=h.tn t ht;refine zdf ?_;unfold zhn
  repeat walk_at "w"
  refine z5b (x:=pr2 t) rfl (show atI [D.int (t.1:Nat),D.int (t.2:Nat)] 0=some (D.int (t.1:Nat)) from rfl) ?_
  repeat walk_at "w"
  refine zCm (zsv (by omega) (by omega)) ?_
  repeat walk_at "w"
  refine z5b (x:=pr2 t) rfl (show atI [D.int (t.1:Nat),D.int (t.2:Nat)] 1=some (D.int (t.2:Nat)) from rfl) ?_
  repeat walk_at "w"
  have e:((nat R).length:Int)=R.length:=by rw[length_map]
  rw[e];refine zQk (by omega) ⟨?_,kp,kp⟩;unfold hmN
  push_cast
  rfl
 ·refine zx (zKj (zE zC) ?_);have e:ts.map (fun t=>D.int (hmN R.length k t:Nat))=nat (ts.map (hmN R.length k)):=by rw[zbi]
  rw[e];exact q _ kp.to
abbrev zKp(R:List Nat)(ts:List (Nat×Nat))(S:List Nat):List (List Nat):=S.map fun k=>ts.map (hmN R.length k)
def Rl.wb(h:Rl R ts){S:List Nat}{L:Nat}(hS:S.length<=L):Wb L R (zKp R ts S) where
 rl:=h.rl
 kl:=by rw[length_map];exact hS
 kn:=fun k hk=>by
  obtain⟨x, -,rfl⟩:=List.mem_map.mp hk;refine⟨by rw[length_map];exact h.tl,fun y hy=>?_⟩;obtain⟨t, -,rfl⟩:=List.mem_map.mp hy;exact Nat.mod_lt _ h.rl.1
def zSl(h:Rl R ts)(hl:μ[l]?=some (.lst (nat S)))(hS:S.length<=1000)(q:∀μ',Keep μ μ'->Q (wn R (zKp R ts S)) μ'):WF ztd [rlN R ts, .loc l] μ Q:=by
 refine zRb rfl ?_;show WS z2i [some (rlN R ts),some (.loc l)] μ _ _ _ _;unfold z2i
 repeat walk_at "w"
 refine z5b rfl (show atI [tn R, .tup (ts.map pr2)] 0=some (tn R) from rfl) ?_
 repeat walk_at "w"
 refine zBf ?_
 repeat walk_at "w"
 refine .inr (.inr ⟨_,_,rfl,hl,z3c (by rw[length_map];omega),?_⟩);refine zCf (fun(x:Nat)=>D.int x) S (fun k=>tn (ts.map (hmN R.length k))) (fun μ' k=>zob hl k) (fun x hx μ' kp=>?_) (fun μ' kp=>?_)
 ·refine zdf ?_;unfold zfl
  repeat walk_at "w"
  exact zQu h fun μ2 k2=>⟨rfl,kp.trans k2,kp⟩
 ·refine zx (zKj (zE zC) ?_)
  repeat walk_at "w"
  have e:S.map (fun k=>tn (ts.map (hmN R.length k)))=(zKp R ts S).map tn:=by rw[map_map];rfl
  rw[e];exact q _ kp.to
section
variable {μ:Mem}{n m:Nat}{R:List Nat}{ts:List (Nat×Nat)}{kvs:List (Nat×Nat)}{Q:D->Mem->Prop}
def z5o(r:D)(m:Nat):(fsD r m).lookup ("laying":Str)=none:=by
 have h1:(("laying":Str) == "kept_rule")=false:=by decide +kernel
 have h2:(("laying":Str) == "nest_of")=false:=by decide +kernel
 simp only[fsD,lookup_cons,h1,h2,lookup_nil]
end
section
variable {μ:Mem}{n m:Nat}{R:List Nat}{ts:List (Nat×Nat)}{kvs:List (Nat×Nat)}{Q:D->Mem->Prop}
def zhh(h:Rl R ts)(s:Sh μ n m (rlN R ts) kvs)(k:Keys kvs S)(q:∀l μ',Keep μ μ'->μ.length<=l->μ'[l]?=some (.lst ((zrk R (S.map fun x=>kvs.lookup x)).map .int))->Q (.loc l) μ'):WF z9 [.loc n] μ Q:=by
 have hf:=s.few;have hl:=k.len;refine zRb rfl ?_;show WS zbe [some (.loc n)] μ _ _ _ _;unfold zbe;refine zzb (zA (ze (zA (ze (z9j (zd rfl ⟨n,_,rlN R ts,rfl,s.at_,rfl,?_⟩))))));refine ze (zA (zSb (zd rfl ⟨n,_,rfl,s.at_,z2d _ m,zx (zbc s k ?_)⟩)));refine zx (zSl h zC (by omega) fun μ1 k1=>?_);have s1:=s.keep (Keep.app.trans k1);refine ze (zA (zSb (zd rfl ⟨n,_,rfl,s1.at_,z5o _ m,zx (zfn s1 k fun l2 μ2 k2 g2 e2=>?_)⟩)));have e3:(S.map fun x=>onD (kvs.lookup x))=(S.map fun x=>kvs.lookup x).map onD:=by rw[map_map];rfl
 rw[e3]at e2;exact zx (zGr (L:=30) (h.wb (by omega)) e2 fun l3 μ3 k3 g3 e4=>q _ _ ((Keep.app.trans k1).trans (k2.trans k3)) (yy (Keep.app.trans (k1.trans k2)).len g3) e4)
end
structure WX(F:FX)(ds:List D)(μ:Mem)(Q:D->Mem->Prop):Prop where
 ex:∃d μ',F ds μ=some (.ok d μ')/\Q d μ'
def zYz(nx:M.Loc->Mem->Prop)(rt:D->Mem->Prop)(ex:Str->List (Str×D)->Mem->Prop):Out->Prop
 |.next δ μ=>nx δ μ
 |.ret d μ=>rt d μ
 |.exc c fs μ=>ex c fs μ
 |_=>False
structure WXs(p:FS)(δ:M.Loc)(μ:Mem)(nx:M.Loc->Mem->Prop)(rt:D->Mem->Prop)(ex:Str->List (Str×D)->Mem->Prop):Prop where
 ex:∃o,p δ μ=some o/\zYz nx rt ex o
section
variable {p q:FS}{δ:M.Loc}{μ:Mem}{nx:M.Loc->Mem->Prop}{rt:D->Mem->Prop}{ex:Str->List (Str×D)->Mem->Prop}
def zTq(h:WS p δ μ nx rt (fun _ _=>False) fun _ _=>False):WXs p δ μ nx rt ex:=by
 obtain⟨o,e,k⟩:=h
 cases o with
 |next _ _=>exact⟨_,e,k⟩
 |ret _ _=>exact⟨_,e,k⟩
 |brk _ _=>exact k.elim
 |cont _ _=>exact k.elim
 |exc _ _ _=>exact k.elim
def zvf(h:WXs p δ μ (fun δ' μ'=>WXs q δ' μ' nx rt ex) rt ex):WXs (zY p q) δ μ nx rt ex:=by
 obtain⟨o,e,k⟩:=h
 cases o with
 |next δ' μ'=>obtain⟨o2,e2,k2⟩:=k;exact⟨o2,by simp[e,e2],k2⟩
 |ret d μ'=>exact⟨.ret d μ',by simp only[zY,e],k⟩
 |exc c fs μ'=>exact⟨.exc c fs μ',by simp only[zY,e],k⟩
 |brk _ _=>exact k.elim
 |cont _ _=>exact k.elim
def z9q{c:FT}(h:WT c δ μ fun b μ1=>(b=true->WXs p δ μ1 nx rt ex)/\(b=false->WXs q δ μ1 nx rt ex)):WXs (sIf c p q) δ μ nx rt ex:=by
 obtain⟨b,μ1,e,h1,h2⟩:=h
 cases b with
 |true=>obtain⟨o,e2,k⟩:=h1 rfl;exact⟨o,by simp[e,e2],k⟩
 |false=>obtain⟨o,e2,k⟩:=h2 rfl;exact⟨o,by simp[e,e2],k⟩
end
structure WXr(F:FX)(ds:List D)(μ:Mem)(Q:D->Mem->Prop)(ex:Str->List (Str×D)->Mem->Prop):Prop where
 ex:(∃d μ',F ds μ=some (.ok d μ')/\Q d μ')\/∃c fs μ',F ds μ=some (.exc c fs μ')/\ex c fs μ'
def zFw{F:FX}{N:List Str}{p:FS}{ex:Str->List (Str×D)->Mem->Prop}(hF:F=fun ds μ=>zyx (p (zR N ds) μ))(h:WXs p (zR N ds) μ (fun _ μ'=>Q .non μ') Q ex):WXr F ds μ Q ex:=by
 subst hF;obtain⟨o,e,k⟩:=h
 cases o with
 |next δ' μ'=>exact⟨.inl ⟨_,_,by rw[e];rfl,k⟩⟩
 |ret d μ'=>exact⟨.inl ⟨_,_,by rw[e];rfl,k⟩⟩
 |exc c fs μ'=>exact⟨.inr ⟨_,_,_,by rw[e];rfl,k⟩⟩
 |brk _ _=>exact k.elim
 |cont _ _=>exact k.elim
def zrx{c f:Str}{φ:FE}(h:WE φ δ μ fun x μ1=>∃n fs d,x = .loc n/\μ1[n]?=some (.exc c fs)/\fs.lookup f=some d/\Q d μ1):WE (fAt c f φ) δ μ Q:=by
 obtain⟨x,μ1,e1,n,fs,d,rfl,e2,e3,q⟩:=h;exact⟨d,μ1,by simp only[fAt,e1,ym,e2,if_true,e3],q⟩
abbrev zAv(kvs:List (Nat×Nat))(k:Nat):List (Nat×Nat):=kvs.filter fun p=>decide (p.1≠k)
def zKv(k:Nat)(kvs:List (Nat×Nat)):zUw (dkN kvs) (k:Int)=dkN (zAv kvs k):=by
 unfold zUw dkN zAv;rw[List.filter_map]
 congr 1
 refine List.filter_congr fun p _=>?_;show decide (((p.1:Nat):Int)≠(k:Int))=decide (p.1≠k);exact decide_eq_decide.mpr (by omega)
def Sh.ne(s:Sh μ n m r kvs):n≠m:=by
 rintro rfl;have h1:=s.at_;rw[s.dc]at h1;cases h1
def Sh.set{kvs':List (Nat×Nat)}(s:Sh μ n m r kvs)(nd:(kvs'.map (·.1)).Nodup)(few:kvs'.length<=30):Sh (μ.set m (.dct (dkN kvs'))) n m r kvs' where
 at_:=by rw[yR (yF s.ne)];exact s.at_
 dc:=by
  have hm:m<μ.length:=by
   obtain⟨h, -⟩:=List.getElem?_eq_some_iff.mp s.dc;exact h
  rw[yU hm]
 nd:=nd
 few:=few
def Sh.pop(s:Sh μ n m r kvs)(k:Nat):Sh (μ.set m (.dct (dkN (zAv kvs k)))) n m r (zAv kvs k) :=
 s.set (List.Nodup.sublist (List.filter_sublist.map _) s.nd) (yy List.filter_sublist.length_le s.few)
def zXp{φ:FA}{c:Str}{ex:Str->List (Str×D)->Mem->Prop}(h:WA φ δ μ fun _ μ1=>ex c [] μ1):WXs (zOm c φ) δ μ nx rt ex:=by
 obtain⟨ds,μ1,e,k⟩:=h;exact⟨.exc c [] μ1,by simp only[zOm,e,ym],k⟩
def zSi(r:D)(m:Nat):(fsD r m).lookup ("has":Str)=none:=by
 have h1:(("has":Str) == "kept_rule")=false:=by decide +kernel
 have h2:(("has":Str) == "nest_of")=false:=by decide +kernel
 simp only[fsD,lookup_cons,h1,h2,lookup_nil]
def zVx{ex:Str->List (Str×D)->Mem->Prop}(s:Sh μ n m r kvs)(q:∀h:Nat,kvs.lookup k=some h->Q (.int h) (μ.set m (.dct (dkN (zAv kvs k)))))(qe:kvs.lookup k=none->ex "NoKey" [] μ):WXr zof [.loc n, .int k] μ Q ex:=by
 refine zFw rfl ?_;show WXs z0e [some (.loc n),some (.int k)] μ _ _ _;unfold z0e;refine zvf (z9q (zfp (zQ (zA (zSb (zd rfl ⟨n,_,rfl,s.at_,zSi _ m,ze (zd rfl (zx (zZo s ⟨_,rfl,fun hb=>?_,fun hb=>?_⟩)))⟩))))))
 ·have h0:kvs.lookup k=none:=by
   cases e:kvs.lookup k with
   |none=>rfl
   |some v=>rw[e]at hb;cases hb
  exact zXp (ze (w_c (zx (qe h0))))
 ·cases e:kvs.lookup k with
  |none=>rw[e]at hb;cases hb
  |some v=>
   refine zTq (zwb (zTq (zzb (zwr (z9j (zd rfl ⟨n,_, .loc m,rfl,s.at_,zkd r m,m,_,rfl,s.dc,ze (zd rfl (zx (zHx s.dc (by rw[zig,e];rfl) ?_)))⟩))))));rw[zKv];exact q v e
def z1v(h:μ[n]?=some (.ins "Shelf" []))(q:Q .non (μ.set n (.ins "Shelf" (fsD r μ.length))++[.dct []])):WF zV [.loc n,r] μ Q:=by
 have hn:n<μ.length:=(List.getElem?_eq_some_iff.mp h).1;refine zRb rfl ?_;show WS zEc [some (.loc n),some r] μ _ _ _ _;unfold zEc;refine zD (zSs (zd rfl (zd rfl ⟨n,_,rfl,h,by decide,?_⟩)));refine zSs ?_
 repeat walk_at "w"
 have g1:∀(X Y:LObj),(List.set μ n X++[Y])[n]?=some X:=fun X Y=>by rw[yt (by rw[length_set];exact hn),yU hn]
 have h2:¬("kept_rule":Str) = "nest_of":=by decide +kernel
 have e:∀l:Nat,z2h "nest_of" (.loc l) (z2h "kept_rule" r [])=fsD r l:=fun l=>by simp only[z2h,h2,if_false]
 refine⟨n,_,rfl,g1 _ _,by simp[z2h],?_⟩;rw[e,length_set,List.set_append_left _ _ (by rw[length_set];exact hn),List.set_set];exact q
def zUy:Sh ((μ++[LObj.ins "Shelf" []]).set μ.length (.ins "Shelf" (fsD r (μ++[LObj.ins "Shelf" []]).length))++[.dct []]) μ.length (μ++[LObj.ins "Shelf" []]).length r [] where
 at_:=by rw[yt (by simp),yU (by simp)]
 dc:=by rw[yL (by simp)];simp[dkN]
 nd:=List.nodup_nil
 few:=Yq _
def zUt{φ:FA}{c f:Str}{ex:Str->List (Str×D)->Mem->Prop}(h:WA φ δ μ fun ds μ1=>∃(n:Nat)(ns:List Int),ds=[.loc n]/\μ1[n]?=some (.lst (ns.map D.int))/\zAg ns/\ex c [(f, .loc μ1.length)] (μ1++[.lst (ns.map D.int)])):WXs (zse c f φ) δ μ nx rt ex:=by
 obtain⟨ds,μ1,e,n,ns,rfl,hm,hs,k⟩:=h;exact⟨Out.exc c [(f,D.loc μ1.length)] (μ1++[LObj.lst (ns.map D.int)]),by simp only[zse,e,ym,hm,zXg,decide_eq_true hs,cond_true],k⟩
def z2o(T:List Nat):nat T=(T.map fun(k:Nat)=>(k:Int)).map D.int:=by rw[map_map];rfl
def zlv{xs:List Nat}(nd:xs.Nodup):∃T:List Nat,T.Perm xs/\T.Pairwise (· < ·):=by
 have e:(xs.map fun x=>(x,0)).map (·.1)=xs:=by rw[map_map];exact List.map_id' xs
 obtain⟨T,h⟩:=Keys.ex (kvs:=xs.map fun x=>(x,0)) (by rw[e];exact nd);exact⟨T,by have:=h.pm;rw[e]at this;exact this,h.pw⟩
def Keys.not(K:Keys kvs S){k:Nat}(h:kvs.lookup k=none):k∉S:=fun hm=>by
 obtain⟨v,hv⟩:=K.look hm;rw[h]at hv;cases hv
def Keys.nd(K:Keys kvs S){k:Nat}(h:kvs.lookup k=none):(S++[k]).Nodup:=by
 rw[nodup_append];refine⟨K.pw.imp fun h=>yw h,by simp,fun a ha b hb e=>K.not h ?_⟩;rw[List.mem_singleton]at hb;subst hb e;exact ha
def zLr{φ:FA}{ex:Str->List (Str×D)->Mem->Prop}(h:WA φ δ μ fun ds μ1=>∃(l:Nat)(T:List Nat),ds=[.loc l]/\μ1[l]?=some (.lst (nat T))/\T.length<=31/\(∀x∈T,x<10^60)/\ex "Full" [("some", .loc μ1.length)] (μ1++[.lst (nat T)])):WXs (zse "Full" "some" φ) δ μ nx rt ex:=by
 obtain⟨ds,μ1,e,l,T,rfl,hm,hl,hs,k⟩:=h;refine zUt ⟨_,μ1,e,l,T.map fun(k:Nat)=>(k:Int),rfl,by rw[<-z2o];exact hm,⟨by rw[length_map];omega,fun n hn=>?_⟩,by rw[<-z2o];exact k⟩;obtain⟨x,hx,rfl⟩:=List.mem_map.mp hn;have:=hs x hx;omega
def zEz:FS:=(zY (zyc 3 (zB zVe (zf (zB ztd (zf (zLo "Shelf" "kept_rule" (zm 0)) (zf (zm 2) zJ))) (zf (zH zGh (zB zIb (znb "Shelf" "laying" (zm 0) zJ)) (zBk (zf (fC .non) zJ))) (zf (zH zlq (zB zMm (zf (zm 2) zJ)) (fC (.int 1))) zJ))))) (zY (sIf (z5 (zH gEq (zH gIx (zm 3) (fC (.int 0))) (fC (.str "full")))) (zse "Full" "some" (zf (zB zpi (zf (fLC 1 [2] (zLg (zH gIx (zm 3) (fC (.int 1)))) (gN 0) zgk zsd) zJ)) zJ)) zZb) (zY (zyc 4 (fLC 1 [2] (zLg (zH gIx (zm 3) (fC (.int 1)))) (gN 0) zgk zvd)) (zY (z8l (zLg (zm 4)) (gN 5) zCd) (zCc (zm 4))))))
def zQv{ex:Str->List (Str×D)->Mem->Prop}(s:Sh μ n m r kvs)(K:Keys kvs S)(hS:∀x∈S,x<10^60)(hk:k<10^60)
 (qt:∀h:Nat,kvs.lookup k=some h->ex "Twice" [] μ)
 (qf:∀(T:List Nat)(l:Nat)(μ':Mem),kvs.lookup k=none->S.length=30->T.Perm (S++[k])->T.Pairwise (· < ·)->Keep μ μ'->μ.length<=l->μ'[l]?=some (.lst (nat T))->ex "Full" [("some", .loc l)] μ')
 (qb:∀(l:Nat)(μ':Mem),kvs.lookup k=none->S.length<30->Keep μ μ'->μ.length<=l->μ'[l]?=some (.lst (nat (S++[k])))->WXs zEz [some (.loc n),some (.int k),some (.loc l),none,none,none] μ' (fun _ μ''=>Q .non μ'') Q ex):WXr zZd [.loc n, .int k] μ Q ex:=by
 have hf:=s.few;have hl:=K.len;refine zFw rfl ?_;show WXs zlf [some (.loc n),some (.int k),none,none,none,none] μ _ _ _;unfold zlf;refine zvf (z9q (zQ (zA (zSb (zd rfl ⟨n,_,rfl,s.at_,zSi _ m,ze (zd rfl (zx (zZo s ⟨_,rfl,fun hb=>?_,fun hb=>?_⟩)))⟩)))))
 ·cases e:kvs.lookup k with
  |none=>rw[e]at hb;cases hb
  |some v=>exact zXp (ze (w_c (zx (qt v e))))
 ·have h0:kvs.lookup k=none:=by
   cases e:kvs.lookup k with
   |none=>rfl
   |some v=>rw[e]at hb;cases hb
  refine zTq (zwb ?_);have g1:((μ++[LObj.lst (nat S)])++[LObj.lst [D.int k]])[μ.length]?=some (.lst (nat S)):=by rw[yt (by simp)];exact zC
  refine zvf (zTq (zhb (zt (zA (zSb (zd rfl ⟨n,_,rfl,s.at_,z2d _ m,zx (zbc s K (zBh (ze (zd rfl (zx (zkv g1 zC ?_ ?_))))))⟩))))))
  ·simp;omega
  ·have e1:nat S++[D.int k]=nat (S++[k]):=by simp[nat]
   have e2:(nat (S++[k])).length=S.length+1:=by rw[length_map,length_append,length_singleton]
   rw[e1];refine zvf (z9q (zQ (zt (zA (ze (zd rfl (zx (zIh (zE zC) (w_c (zQm ⟨_,rfl,fun hb=>?_,fun hb=>?_⟩))))))))))
   ·have hb':=of_decide_eq_true hb;rw[e2]at hb';obtain⟨T,hT,pT⟩:=zlv (K.nd h0);have lT:=hT.length_eq;rw[length_append,length_singleton]at lT;refine zLr (ze (zA (ze (zd rfl (zx (zns zC hT pT ?_ (zx ⟨_,T,rfl,zC,?_,fun x hx=>?_,?_⟩)))))))
    ·rw[length_append,length_singleton];omega
    ·omega
    ·rcases List.mem_append.mp (hT.mem_iff.mp hx) with h | h
     ·exact hS x h
     ·rw[List.mem_singleton]at h;subst h;exact hk
    ·refine qf T _ _ h0 (by omega) hT pT ?_ ?_ zC
     ·exact(((Keep.app.trans Keep.app).trans Keep.app).trans Keep.app).trans Keep.app
     ·simp
   ·have hb':=of_decide_eq_false hb;rw[e2]at hb';refine zTq (zwb ?_);exact qb _ _ h0 (by omega) ((Keep.app.trans Keep.app).trans Keep.app) (by simp) zC
def z6w:FS:=(zY (sIf (z5 (zH gEq (zH gIx (zm 3) (fC (.int 0))) (fC (.str "full")))) (zse "Full" "some" (zf (zB zpi (zf (fLC 1 [2] (zLg (zH gIx (zm 3) (fC (.int 1)))) (gN 0) zgk zsd) zJ)) zJ)) zZb) (zY (zyc 4 (fLC 1 [2] (zLg (zH gIx (zm 3) (fC (.int 1)))) (gN 0) zgk zvd)) (zY (z8l (zLg (zm 4)) (gN 5) zCd) (zCc (zm 4)))))
def zOy{ex:Str->List (Str×D)->Mem->Prop}(h:Rl R ts)(s:Sh μ n m (rlN R ts) kvs)(K:Keys kvs S)(h30:S.length<30)(hl:μ[l]?=some (.lst (nat (S++[k]))))
 (q1:∀(row:List (Nat×Nat)) (l':Nat) (μ':Mem),RowOk (zKp R ts (S++[k])) ((S.map fun x=>kvs.lookup x)++[none]) S.length row->((S.map fun x=>kvs.lookup x)++[none]).count (some (row.getD (row.length-1) (0,0)).2)<R.getD (row.getD (row.length-1) (0,0)).2 0->row.length<=10->Keep μ μ'->μ'[l']?=some (.lst (row.map pD))->WXs z6w [some (.loc n),some (.int k),some (.loc l),some (.tup [.str "put", .loc l']),none,none] μ' nx rt ex)
 (q2:∀(T:List Nat)(l':Nat)(μ':Mem),T.Sublist (yA (S.length+1))->S.length∈T->Shut R (zKp R ts (S++[k])) ((S.map fun x=>kvs.lookup x)++[none]) T->Keep μ μ'->μ'[l']?=some (.lst (nat T))->WXs z6w [some (.loc n),some (.int k),some (.loc l),some (.tup [.str "full", .loc l']),none,none] μ' nx rt ex) :
 WXs zEz [some (.loc n),some (.int k),some (.loc l),none,none,none] μ nx rt ex:=by
 have hlen:(S++[k]).length=S.length+1:=by simp
 have hK:(zKp R ts (S++[k])).length=S.length+1:=by rw[length_map,hlen]
 have hy:((S.map fun x=>kvs.lookup x)++[none]).length=S.length+1:=by simp
 unfold zEz;refine zvf (zTq (zhb (zA (ze (zA (ze (z9j (zd rfl ⟨n,_,rlN R ts,rfl,s.at_,rfl,ze (zd rfl (zx (zSl h hl (by omega) fun μ1 k1=>?_)))⟩))))))));have s1:=s.keep k1;refine ze (zt (zA (zSb (zd rfl ⟨n,_,rfl,s1.at_,z5o _ m,zx (zfn s1 K fun l2 μ2 k2 g2 e2=>zBh (ze (w_c (zx (zkv (Keep.app _ _ e2) zC ?_ ?_)))))⟩))))
 ·simp;omega
 ·have e3:(S.map fun x=>onD (kvs.lookup x))++[D.non]=((S.map fun x=>kvs.lookup x)++[none]).map onD:=by rw[map_append,map_map];rfl
  rw[e3];have kk:Keep μ ((μ2++[LObj.lst [D.non]])++[LObj.lst (((S.map fun x=>kvs.lookup x)++[none]).map onD)]):=((k1.trans k2).trans Keep.app).trans Keep.app;refine ze (zt (zA (ze (zd rfl (zx (zIh (zE (kk _ _ hl)) (w_c (zKr (zx ?_)))))))));have e4:(((nat (S++[k])).length:Nat):Int)-1=((S.length:Nat):Int):=by rw[length_map,hlen];omega
  rw[e4];refine z9o (L:=30) (h.wb (by omega)) (by rw[hK,hy]) (by omega) zC (by omega) (by simp) (fun row l' μ' ro hr r10 k' _ e'=>?_) (fun T l' μ' sb hm sh k' _ e'=>?_)
  ·exact q1 row l' μ' ro hr r10 (kk.trans k') e'
  ·exact q2 T l' μ' (by rw[hK]at sb;exact sb) hm sh (kk.trans k') e'
def zFy{l':Nat}{T:List Nat}{ex:Str->List (Str×D)->Mem->Prop}(hS:∀x∈S++[k],x<10^60)(nd:(S++[k]).Nodup)(h30:S.length<30)(hl:μ[l]?=some (.lst (nat (S++[k]))))(sb:T.Sublist (yA (S.length+1)))(hm:S.length∈T)(hl':μ[l']?=some (.lst (nat T)))
 (q:∀(V:List Nat)(l2:Nat)(μ':Mem),V.Pairwise (· < ·)->k∈V->V.Perm (T.map fun i=>(S++[k]).getD i 0)->Keep μ μ'->μ.length<=l2->μ'[l2]?=some (.lst (nat V))->ex "Full" [("some", .loc l2)] μ') :
 WXs z6w [some (.loc n),some (.int k),some (.loc l),some (.tup [.str "full", .loc l']),none,none] μ nx rt ex:=by
 have hlen:(S++[k]).length=S.length+1:=by simp
 have lT:T.length<=S.length+1:=by have:=sb.length_le;rw[length_range]at this;exact this
 have hT:∀i∈T,i<(S++[k]).length:=fun i hi=>by have:=List.mem_range.mp (sb.subset hi);omega
 have g:∀(i:Nat)(h:i<(S++[k]).length),(S++[k]).getD i 0=(S++[k])[i]:=fun i h=>by rw[getD_eq_getElem?_getD,yM h,Option.getD_some]
 have hc:yI (.str ("full":Str)) (.str ("full":Str))=true:=by decide +kernel
 unfold z6w;refine zvf (z9q (zQ (zt (zt (zd rfl (w_c (z5b rfl rfl (w_c (zAc ⟨_,rfl,fun _=>?_,fun hb=>?_⟩)))))))))
 ·have ndV:(T.map fun i=>(S++[k]).getD i 0).Nodup:=by
   rw[List.Nodup,pairwise_map];refine List.Pairwise.imp_of_mem (fun{a b} ha hb hab e=>?_) (List.Nodup.sublist sb List.nodup_range);have h1:=hT a ha;have h2:=hT b hb;rw[g a h1,g b h2]at e;exact hab ((List.getElem?_inj h1 nd).mp (by rw[yM h1,yM h2,e]))
  obtain⟨V,hV,pV⟩:=zlv ndV;have lV:=hV.length_eq;rw[length_map]at lV;refine zLr (ze (zA (ze (zMq (zBf (zt (zd rfl (w_c (z5b rfl rfl (.inr (.inr ⟨_,_,rfl,hl',z3c (by rw[length_map];omega),?_⟩)))))))))));refine zCf (fun(x:Nat)=>D.int x) T (fun i=>D.int ((S++[k]).getD i 0:Nat)) (fun μ' k=>zob hl' k) (fun i hi μ' kp=>?_) (fun μ' kp=>?_)
  ·refine zdf ?_;unfold zsd;exact zt (zd rfl (zd rfl (z5b (zE (kp _ _ hl)) (z1i (hT i hi)) ⟨rfl,kp,kp⟩)))
  ·have e:(T.map fun i=>D.int ((S++[k]).getD i 0:Nat))=nat (T.map fun i=>(S++[k]).getD i 0):=by rw[zbi]
   rw[e];refine zx (zns zC hV pV (by rw[length_map];omega) (zx ⟨_,V,rfl,zC,by omega,fun x hx=>?_,?_⟩))
   ·obtain⟨i,hi,rfl⟩:=List.mem_map.mp (hV.mem_iff.mp hx);have:=hT i hi;rw[g i this];exact hS _ (getElem_mem this)
   ·refine q V _ _ pV ?_ hV ((kp.to.trans Keep.app).trans Keep.app) ?_ zC
    ·refine hV.mem_iff.mpr (List.mem_map.mpr ⟨S.length,hm,by simp⟩)
    ·have:=kp.len;simp;omega
 ·rw[hc]at hb;cases hb
def zPt(kvs:List (Nat×Nat))(k h:Nat):List (Nat×Nat):=if k∈kvs.map (·.1) then kvs.map (fun p=>if p.1=k then(p.1,h) else p) else kvs++[(k,h)]
def zGs(k h:Nat)(kvs:List (Nat×Nat)):zfq (dkN kvs) (k:Int) (.int (h:Nat))=dkN (zPt kvs k h):=by
 have e:((dkN kvs).any fun p=>decide (p.1=(k:Int)))=decide (k∈kvs.map (·.1)):=by
  unfold dkN;rw[any_map];apply Bool.eq_iff_iff.mpr;rw[any_eq_true,decide_eq_true_iff,mem_map];constructor
  ·rintro⟨p,hp,h⟩;have h:((p.1:Nat):Int)=k:=of_decide_eq_true h;exact⟨p,hp,by omega⟩
  ·rintro⟨p,hp,h⟩;refine⟨p,hp,decide_eq_true (show((p.1:Nat):Int)=k from ?_)⟩;omega
 unfold zfq zPt;rw[e]
 by_cases hk:k∈kvs.map (·.1)
 ·rw[if_pos (decide_eq_true hk),if_pos hk];unfold dkN;rw[map_map,map_map];refine List.map_congr_left fun p _=>?_;show(if((p.1:Nat):Int)=k then _ else _)=_
  by_cases hp:p.1=k
  ·rw[if_pos (by omega)];show _=((((if p.1=k then(p.1,h) else p).1:Nat):Int),D.int ((if p.1=k then(p.1,h) else p).2:Nat));rw[if_pos hp]
  ·rw[if_neg (by omega)];show _=((((if p.1=k then(p.1,h) else p).1:Nat):Int),D.int ((if p.1=k then(p.1,h) else p).2:Nat));rw[if_neg hp]
 ·rw[if_neg (by rw[decide_eq_true_iff];exact hk),if_neg hk];unfold dkN;rw[map_append];rfl
def zKn(kvs:List (Nat×Nat))(k h:Nat):(zPt kvs k h).map (·.1)=if k∈kvs.map (·.1) then kvs.map (·.1) else kvs.map (·.1)++[k]:=by
 unfold zPt
 by_cases hk:k∈kvs.map (·.1)
 ·rw[if_pos hk,if_pos hk,map_map];refine List.map_congr_left fun p _=>?_;show(if p.1=k then(p.1,h) else p).1=p.1
  by_cases hp:p.1=k
  ·rw[if_pos hp]
  ·rw[if_neg hp]
 ·rw[if_neg hk,if_neg hk,map_append];rfl
def zVw(nd:(kvs.map (·.1)).Nodup):((zPt kvs k h).map (·.1)).Nodup:=by
 rw[zKn]
 by_cases hk:k∈kvs.map (·.1)
 ·rw[if_pos hk];exact nd
 ·rw[if_neg hk,nodup_append];refine⟨nd,by simp,fun a ha b hb e=>hk ?_⟩;rw[List.mem_singleton]at hb;subst hb e;exact ha
def zMu{x:Nat}:x∈(zPt kvs k h).map (·.1)↔x∈kvs.map (·.1)\/x=k:=by
 rw[zKn]
 by_cases hk:k∈kvs.map (·.1)
 ·rw[if_pos hk];exact⟨.inl,fun h=>h.elim id fun h=>h▸hk⟩
 ·rw[if_neg hk,mem_append,List.mem_singleton]
def zEg(kvs row:List (Nat×Nat)):List (Nat×Nat):=row.foldl (fun kv p=>zPt kv p.1 p.2) kvs
def zen(kvs row:List (Nat×Nat))(p:Nat×Nat):zEg kvs (row++[p])=zPt (zEg kvs row) p.1 p.2:=by
 unfold zEg;rw[List.foldl_append];rfl
def zmo(row:List (Nat×Nat)):∀kvs:List (Nat×Nat),(kvs.map (·.1)).Nodup->((zEg kvs row).map (·.1)).Nodup:=by
 induction row with
 |nil=>exact fun _ h=>h
 |cons p row ih=>exact fun kvs h=>ih _ (zVw h)
def zLl(row:List (Nat×Nat)):∀(kvs:List (Nat×Nat)) (x:Nat),x∈(zEg kvs row).map (·.1)↔x∈kvs.map (·.1)\/x∈row.map (·.1):=by
 induction row with
 |nil=>intro kvs x;simp[zEg]
 |cons p row ih=>
  intro kvs x;show x∈(zEg (zPt kvs p.1 p.2) row).map (·.1)↔_;rw[ih,zMu,map_cons,mem_cons,or_assoc]
def zkp{A:List Nat}(nd:(kvs.map (·.1)).Nodup)(h1:∀x∈kvs.map (·.1),x∈A)(h2:∀x∈row.map (·.1),x∈A):(zEg kvs row).length<=A.length:=by
 have h:((zEg kvs row).map (·.1)).length<=A.length:=by
  refine zze (zmo row kvs nd) fun x hx=>?_;rcases(zLl row kvs x).mp hx with h | h
  ·exact h1 x h
  ·exact h2 x h
 rw[length_map]at h;exact h
abbrev zJo(A:List Nat)(row:List (Nat×Nat)):List (Nat×Nat):=row.map fun p=>(A.getD p.1 0,p.2)
def zGp{A:List Nat}(hm:∀p∈row,p.1<A.length):∀p∈zJo A row,p.1∈A:=fun p hp=>by
 obtain⟨q,hq,rfl⟩:=List.mem_map.mp hp;have h:=hm q hq;show A.getD q.1 0∈A;rw[getD_eq_getElem?_getD,yM h,Option.getD_some];exact getElem_mem h
abbrev JPt(n m k l l' lr:Nat)(r:D)(kvs rw_:List (Nat×Nat))(μ:Mem):Nat->M.Loc->Mem->Prop:=fun i δ μ'=>∃x5:Option D,δ=[some (.loc n),some (.int k),some (.loc l),some (.tup [.str "put", .loc l']),some (.loc lr),x5]/\KB [m] μ μ'/\Sh μ' n m r (zEg kvs (rw_.take i))
def zxx{l':Nat}{ex:Str->List (Str×D)->Mem->Prop}(s:Sh μ n m r kvs)(K:Keys kvs S)(h30:S.length<30)(hl:μ[l]?=some (.lst (nat (S++[k]))))(hm:∀p∈row,p.1<S.length+1)(r10:row.length<=10)(hl':μ[l']?=some (.lst (row.map pD)))
 (q:∀(lr:Nat)(μ':Mem),KB [m] μ μ'->μ.length<=lr->μ'[lr]?=some (.lst ((zJo (S++[k]) row).map pD))->Sh μ' n m r (zEg kvs (zJo (S++[k]) row))->rt (.loc lr) μ') :
 WXs z6w [some (.loc n),some (.int k),some (.loc l),some (.tup [.str "put", .loc l']),none,none] μ nx rt ex:=by
 have hlen:(S++[k]).length=S.length+1:=by simp
 have hm':∀p∈row,p.1<(S++[k]).length:=fun p hp=>by have:=hm p hp;omega
 have hc:yI (.str ("put":Str)) (.str ("full":Str))=false:=by decide +kernel
 have hmm:=zG s.dc;unfold z6w;refine zvf (z9q (zQ (zt (zt (zd rfl (w_c (z5b rfl rfl (w_c (zAc ⟨_,rfl,fun hb=>?_,fun _=>?_⟩)))))))))
 ·rw[hc]at hb;cases hb
 refine zTq (zwb ?_);refine zvf (zTq (zhb (zMq (zBf (zt (zd rfl (w_c (z5b rfl rfl (.inr (.inr ⟨_,_,rfl,hl',z3c (by rw[length_map];omega),?_⟩))))))))));refine zCf pD row (fun p=>pD ((S++[k]).getD p.1 0,p.2)) (fun μ' k=>zob hl' k) (fun p hp μ' kp=>?_) (fun μ' kp=>?_)
 ·refine zdf ?_;unfold zvd;refine zPf (ze (zt (zd rfl (zt (zd rfl (w_c (z5b (x:=pD p) rfl (show atI [D.int (p.1:Nat),D.int (p.2:Nat)] 0=some (D.int (p.1:Nat)) from rfl) (z5b (zE (kp _ _ hl)) (z1i (hm' p hp)) ?_))))))));exact ze (zt (zd rfl (w_c (z5b (x:=pD p) rfl (show atI [D.int (p.1:Nat),D.int (p.2:Nat)] 1=some (D.int (p.2:Nat)) from rfl) (zx ⟨rfl,kp,kp⟩)))))
 ·have e:(row.map fun p=>pD ((S++[k]).getD p.1 0,p.2))=(zJo (S++[k]) row).map pD:=by rw[map_map];rfl
  rw[e];have k2:Keep μ (μ'++[LObj.lst ((zJo (S++[k]) row).map pD)]):=kp.to;have gl:(μ'++[LObj.lst ((zJo (S++[k]) row).map pD)])[μ'.length]?=some (.lst ((zJo (S++[k]) row).map pD)):=zC;have hle:=kp.len;have rl:(zJo (S++[k]) row).length<=10:=by rw[length_map];exact r10
  have rm:=zGp hm';generalize zJo (S++[k]) row=rw_ at k2 gl rl rm q;generalize μ'++[LObj.lst (rw_.map pD)]=μ2 at k2 gl;generalize μ'.length=lr at gl hle;have hne:lr≠m:=by omega
  refine zTq (zD (zmi (zBf (zd rfl (.inr (.inr ⟨_,_,rfl,gl,?_⟩))))));refine z7c (JPt n m k l l' lr r kvs rw_ μ2) ⟨_,rfl, .refl,s.keep k2⟩ ?_ ?_ ?_
  ·rintro i δ μ3 ⟨x5,rfl,k3,s3⟩;exact stays_iff.mpr (k3.at_ _ _ (by simp;exact hne) gl)
  ·rintro i x δ μ3 hx ⟨x5,rfl,k3,s3⟩;rw[yn]at hx
   cases hp:rw_[i]? with
   |none=>rw[hp]at hx;cases hx
   |some p=>
    rw[hp]at hx;obtain rfl:pD p=x:=by simpa using hx
    refine zdf ?_;unfold zCd;refine zOh (zt (zd rfl (w_c (z5b (x:=pD p) rfl (show atI [D.int (p.1:Nat),D.int (p.2:Nat)] 1=some (D.int (p.2:Nat)) from rfl) (zpp (z9j (zd rfl ⟨n,_, .loc m,rfl,s3.at_,zkd r m,?_⟩)))))));have ht:rw_.take (i+1)=rw_.take i++[p]:=by rw[List.take_add_one,hp];rfl
    have ekv:=zen kvs (rw_.take i) p;rw[<-ht]at ekv;refine zt (zd rfl (w_c (z5b (x:=pD p) rfl (show atI [D.int (p.1:Nat),D.int (p.2:Nat)] 0=some (D.int (p.1:Nat)) from rfl) ⟨m,_,_,rfl,rfl,s3.dc,?_,_,rfl,k3.trans (KB.refl.set (.inl (by simp))),?_⟩)))
    ·have:=s3.few;unfold dkN;rw[length_map];omega
    ·rw[zGs,<-ekv];refine s3.set (zmo _ _ s.nd) ?_;refine yy (zkp (A:=S++[k]) s.nd (fun x hx=>mem_append_left _ (K.pm.mem_iff.mpr hx)) fun x hx=>?_) (by omega);obtain⟨y,hy,rfl⟩:=List.mem_map.mp hx;exact rm y (List.mem_of_mem_take hy)
  ·rintro δ μ3 ⟨x5,rfl,k3,s3⟩;rw[length_map,take_length]at s3;have k4:=(KB.of_keep (L:=[m]) k2).trans k3;exact zzb (zd rfl (q lr μ3 k4 hle (k3.at_ _ _ (by simp;exact hne) gl) s3))
abbrev Can(R:List Nat)(ts:List (Nat×Nat))(kvs:List (Nat×Nat))(S:List Nat)(k:Nat)(row:List (Nat×Nat)):Prop:=RowOk (zKp R ts (S++[k])) ((S.map fun x=>kvs.lookup x)++[none]) S.length row/\((S.map fun x=>kvs.lookup x)++[none]).count (some (row.getD (row.length-1) (0,0)).2)<R.getD (row.getD (row.length-1) (0,0)).2 0
abbrev zTz(R:List Nat)(ts kvs:List (Nat×Nat))(S:List Nat)(k:Nat)(V:List Nat):Prop:=∃T:List Nat,T.Sublist (yA (S.length+1))/\S.length∈T/\Shut R (zKp R ts (S++[k])) ((S.map fun x=>kvs.lookup x)++[none]) T/\V.Perm (T.map fun i=>(S++[k]).getD i 0)
def zSy{ex:Str->List (Str×D)->Mem->Prop}(h:Rl R ts)(s:Sh μ n m (rlN R ts) kvs)(K:Keys kvs S)(hS:∀x∈S,x<10^60)(hk:k<10^60)
 (qt:∀h:Nat,kvs.lookup k=some h->ex "Twice" [] μ)
 (qf:∀(V:List Nat)(l:Nat)(μ':Mem),kvs.lookup k=none->V.Pairwise (· < ·)->k∈V->(S.length=30/\V.Perm (S++[k])\/S.length<30/\zTz R ts kvs S k V)->Keep μ μ'->μ.length<=l->μ'[l]?=some (.lst (nat V))->ex "Full" [("some", .loc l)] μ')
 (q:∀(row:List (Nat×Nat)) (lr:Nat) (μ':Mem),kvs.lookup k=none->S.length<30->Can R ts kvs S k row->KB [m] μ μ'->μ.length<=lr->μ'[lr]?=some (.lst ((zJo (S++[k]) row).map pD))->Sh μ' n m (rlN R ts) (zEg kvs (zJo (S++[k]) row))->Q (.loc lr) μ'):WXr zZd [.loc n, .int k] μ Q ex:=by
 refine zQv s K hS hk qt (fun T l μ' h0 h30 hT pT k' g e=>qf T l μ' h0 pT (hT.mem_iff.mpr (by simp)) (.inl ⟨h30,hT⟩) k' g e) fun l μ1 h0 h30 k1 g1 e1=>?_
 have hSk:∀x∈S++[k],x<10^60:=fun x hx=>by
  rcases List.mem_append.mp hx with hx | hx
  ·exact hS x hx
  ·rw[List.mem_singleton.mp hx];exact hk
 refine zOy h (s.keep k1) K h30 e1 (fun row l' μ2 ro hr r10 k2 e2=>?_) (fun T l' μ2 sb hm sh k2 e2=>?_)
 ·refine zxx (s.keep (k1.trans k2)) K h30 (k2 _ _ e1) (fun p hp=>?_) r10 e2 fun lr μ3 k3 g3 e3 s3=>?_
  ·have:=(ro.mem p hp).1;rw[length_map,length_append,length_singleton]at this;exact this
  ·exact q row lr μ3 h0 h30 ⟨ro,hr⟩ ((KB.of_keep (k1.trans k2)).trans k3) (yy (k1.trans k2).len g3) e3 s3
 ·exact zFy hSk (K.nd h0) h30 (k2 _ _ e1) sb hm e2 fun V l2 μ3 pV hV pm k3 g3 e3=>qf V l2 μ3 h0 pV hV (.inr ⟨h30,T,sb,hm,sh,pm⟩) ((k1.trans k2).trans k3) (yy (k1.trans k2).len g3) e3
def z6l{x:Nat}(K:Keys kvs S)(ro:RowOk (zKp R ts (S++[k])) ((S.map fun x=>kvs.lookup x)++[none]) S.length row):x∈(zEg kvs (zJo (S++[k]) row)).map (·.1)↔x∈S\/x=k:=by
 have hm:∀p∈row,p.1<(S++[k]).length:=fun p hp=>by
  have:=(ro.mem p hp).1;rw[length_map]at this;exact this
 rw[zLl];constructor
 ·rintro(h | h)
  ·exact .inl (K.pm.mem_iff.mpr h)
  ·obtain⟨p,hp,rfl⟩:=List.mem_map.mp h;simpa using zGp hm p hp
 ·rintro(h | rfl)
  ·exact .inl (K.pm.mem_iff.mp h)
  ·obtain⟨h,r,e⟩:=ro.first
   refine .inr ?_;rw[e];simp
def pick4:∀v:Nat,v<4->∃s:Nat,atI [D.int 2, .int 3, .int 3, .int 10] (v:Int)=some (.int (s:Nat))/\0<s/\s<=1000
 |0,_=>⟨2,zW (j:=0) rfl,by decide,by decide⟩
 |1,_=>⟨3,zW (j:=1) rfl,by decide,by decide⟩
 |2,_=>⟨3,zW (j:=2) rfl,by decide,by decide⟩
 |3,_=>⟨10,zW (j:=3) rfl,by decide,by decide⟩
 |v+4,h=>absurd h (by omega)
def pick3:∀v:Nat,v<3->∃s:Nat,atI [D.int 10007, .int 10007, .int 12] (v:Int)=some (.int (s:Nat))/\0<s/\s<=10007
 |0,_=>⟨10007,zW (j:=0) rfl,by decide,by decide⟩
 |1,_=>⟨10007,zW (j:=1) rfl,by decide,by decide⟩
 |2,_=>⟨12,zW (j:=2) rfl,by decide,by decide⟩
 |v+3,h=>absurd h (by omega)
section
variable {ns:List Int}
def zIg(hp:PenC ns μ l B)(hB:B<=100000)(q:∀(R:List Nat)(ts:List (Nat×Nat)) (μ':Mem),Rl R ts->KB [l] μ μ'->PenC ns μ' l (B+30)->Q (rlN R ts) μ'):WF zJc [.loc l] μ Q:=by
 refine zRb rfl ?_;show WS zmf [some (.loc l),none,none,none,none] μ _ _ _ _;unfold zmf;refine zD (zhb (zt (w_c (zA (ze (zd rfl (ze (w_c (zx (zoc (s:=6) hp (by omega) (by decide) (by decide) fun v1 μ1 b1 k1 p1=>zQh ?_))))))))))
 have rest:∀(N:Nat)(ν:Mem),1<=N->N<=10->KB [l] μ ν->PenC ns ν l (B+3)->WS (zY (zyc 2 (zH gIx (zBk (zf (fC (.int 2)) (zf (fC (.int 3)) (zf (fC (.int 3)) (zf (fC (.int 10)) zJ))))) (zB zL (zf (zm 0) (zf (fC (.int 4)) zJ))))) (zY (zyc 3 (zB zFg (zf (fLC 1 [0,2] (zBg (zf (zm 1) zJ)) (gN 0) zgk zpf) zJ))) (zY (zyc 4 (zH gIx (zBk (zf (fC (.int 10007)) (zf (fC (.int 10007)) (zf (fC (.int 12)) zJ)))) (zB zL (zf (zm 0) (zf (fC (.int 3)) zJ))))) (zCc (zNk (zf (zm 3) (zf (zB zFg (zf (fLC 1 [0,4] (zBg (zf (zH zGh (fC (.int 2)) (zB zL (zf (zm 0) (zf (fC (.int 2)) zJ)))) zJ)) (gN 0) zgk zaf) zJ)) zJ))))))) [some (.loc l),some (.int (N:Nat)),none,none,none] ν (fun _ μ'=>Q .non μ') Q (fun _ _=>False) (fun _ _=>False):=fun N ν hN1 hN k0 p0=>by
  have hlc:l≠ν.length:=yw p0.lt;refine zD (zhb (zt (zBh (ze (w_c (ze (w_c (ze (w_c (ze (w_c (zx ?_))))))))))));refine zA (ze (zd rfl (ze (w_c (zx (zoc (s:=4) p0.app (by omega) (by decide) (by decide) fun v2 μ2 b2 k2 p2=>?_))))));obtain⟨s,es,hs1,hs2⟩:=pick4 v2 b2;refine z5b (zE (k2.at_ _ _ (nin1 hlc) zC)) es ?_;have k02:KB [l] μ μ2:=(k0.app).trans k2;refine zD (zhb (zA (ze (zMq (zHj (ze (zd rfl (zx ⟨_,rfl,by omega,by omega,z3c (by simp;omega),?_⟩)))))))) ;rw[Ys];refine z4t (s:=s) p2 (fun j μ' Q' hj p' k' hq=>?_) fun R μ3 hl hR k3 p3=>?_
  ·unfold zpf;exact zA (ze (zd rfl (ze (zd rfl (zx (zoc p' (by omega) hs1 hs2 fun v μ'' b k'' p''=>hq _ _ (by omega) (by omega) k'' p''))))))
  refine zx (zKj (zE zC) ?_);have p4:=(p3.up (B':=B+14) (by omega)).app (g:=[LObj.lst (nat R)]);have k4:KB [l] μ (μ3++[LObj.lst (nat R)]):=(k02.trans k3).app;generalize μ3++[LObj.lst (nat R)]=μ4 at p4 k4;have hlc4:l≠μ4.length:=yw p4.lt;refine zD (zhb (zt (zBh (ze (w_c (ze (w_c (ze (w_c (zx ?_))))))))));refine zA (ze (zd rfl (ze (w_c (zx (zoc (s:=3) p4.app (by omega) (by decide) (by decide) fun v5 μ5 b5 k5 p5=>?_))))));obtain⟨f,ef,hf1,hf2⟩:=pick3 v5 b5;refine z5b (zE (k5.at_ _ _ (nin1 hlc4) zC)) ef ?_;have k05:KB [l] μ μ5:=(k4.app).trans k5;refine zzb (zPf (ze (zd rfl (ze (zA (ze (zMq (zHj (ze (zt (w_c (zA (ze (zd rfl (ze (w_c (zx (zoc (s:=2) p5 (by omega) (by decide) (by decide) fun v6 μ6 b6 k6 p6=>zQh (zx ?_)))))))))))))))))));have e4:(2:Int)+(v6:Nat)=((2+v6:Nat):Int):=by omega
  rw[e4];refine⟨_,rfl,by omega,by omega,z3c (by simp;omega),?_⟩;rw[Ys];refine zum (fun i ys μ'=>∃ts:List (Nat×Nat),ys=ts.map pr2/\ts.length=i/\(∀t∈ts,t.1<=10006/\t.2<=10006)/\KB [l] μ6 μ'/\PenC ns μ' l (B+16+2*i)) ⟨[],rfl,rfl,by simp, .refl,p6⟩ (fun _ _ _ _=>rfl) ?_ ?_
  ·rintro i x ys μ' hx ⟨ts,rfl,hl,hS,k,p⟩;obtain⟨hi,rfl⟩:=z8i hx;refine zdf (zzt ⟨fun _=>?_,fun hf=>(by cases hf)⟩);unfold zaf;refine zPf (ze (zA (ze (zd rfl (ze (zd rfl (zx (zWl p (by omega) (by omega) (by omega) fun v7 μ7 a7 b7 k7 _ p7=>?_))))))));refine ze (zA (ze (zd rfl (ze (zd rfl (zx (zWl p7 (by omega) (by omega) (by omega) fun v8 μ8 a8 b8 k8 _ p8=>zx ?_)))))));obtain⟨v7,rfl⟩:=xI a7;obtain⟨v8,rfl⟩:=xI a8;refine⟨ts++[(v7,v8)],by rw[map_append];rfl,by simp[hl],fun t ht=>?_,k.trans (k7.trans k8),p8.up (by omega)⟩;rcases List.mem_append.mp ht with ht | ht
   ·exact hS t ht
   ·rw[List.mem_singleton.mp ht];exact⟨by show v7<=10006;omega,by show v8<=10006;omega⟩
  ·rintro ys μ' ⟨ts,rfl,ht,hS,k,p⟩;simp only[length_map,length_range]at ht p;refine zx (zKj (zE zC) (zx ?_));exact q R ts _ ⟨by omega,by omega,hS⟩ ((k05.trans (k6.trans k)).app) ((p.up (by omega)).app)
 refine zD (zCg (zQ (zt (zA (ze (zd rfl (ze (w_c (zx (zoc (s:=8) p1 (by omega) (by decide) (by decide) fun v2 μ2 b2 k2 p2=>w_c (zPi ⟨_,rfl,fun _=>?_,fun _=>zwb ?_⟩)))))))))))
 ·refine zhb (zt (w_c (zA (ze (zd rfl (ze (w_c (zx (zoc (s:=6) p2 (by omega) (by decide) (by decide) fun v3 μ3 b3 k3 p3=>zQh ?_)))))))));have e:(5:Int)+(v3:Nat)=((5+v3:Nat):Int):=by omega
  rw[e];exact rest (5+v3) μ3 (by omega) (by omega) (k1.trans (k2.trans k3)) p3
 ·have e:(1:Int)+(v1:Nat)=((1+v1:Nat):Int):=by omega
  rw[e];exact rest (1+v1) μ2 (by omega) (by omega) (k1.trans k2) (p2.up (by omega))
end
section
variable {μ:Mem}{n m:Nat}{r:D}{kvs:List (Nat×Nat)}{S:List Nat}{Q:D->Mem->Prop}
abbrev inN(kvs:List (Nat×Nat))(S:List Nat)(h:Nat):List Nat:=S.filter fun x=>decide (kvs.lookup x=some h)
def z1r(s:Sh μ n m r kvs)(k:Keys kvs S)(q:∀l μ',Keep μ μ'->μ.length<=l->μ'[l]?=some (.lst (nat (inN kvs S h)))->Q (.loc l) μ'):WF zUb [.loc n, .int h] μ Q:=by
 have hf:=s.few;have hl:=k.len;refine zRb rfl ?_;show WS z3d [some (.loc n),some (.int h)] μ _ _ _ _;unfold z3d;refine zzb (zMq (zBf (zA (zSb (zd rfl ⟨n,_,rfl,s.at_,z2d r m,zx (zbc s k (.inr (.inr ⟨_,_,rfl,zC,z3c (by rw[length_map];omega),?_⟩)))⟩)))));refine zjk (fun(x:Nat)=>D.int x) S (fun x=>D.int (x:Nat)) (fun x=>decide (kvs.lookup x=some h)) (fun μ' k=>zob zC k) (fun x hx μ' kp=>?_) (fun μ' kp=>?_)
 ·have s':=s.keep (Keep.app.trans kp);obtain⟨v,hv⟩:=k.look hx;refine zdf ?_;unfold zvg;refine zQ (zt (zt (z9j (zd rfl ⟨n,_, .loc m,rfl,s'.at_,zkd r m,zd rfl (zqt (z4c s'.dc) (by rw[zig,hv];rfl) (zd rfl (zPi ⟨_,rfl,?_,kp,fun _=>?_⟩)))⟩))))
  ·rw[hv];apply Bool.eq_iff_iff.mpr;rw[decide_eq_true_iff,beq_iff_eq,xC];omega
  ·unfold zpg;exact zd rfl ⟨rfl,kp⟩
 ·exact q _ _ (Keep.app.trans kp.to) (yy (by simp) kp.len) zC
end
def z8x{hs:List Nat}(e:lay=hs.map some)(hi:hs[i]?=some h):atI (lay.map onD) (i:Int)=some (.int (h:Nat)):=zW (by rw[e,yn,yn,hi];rfl)
abbrev JRn(n m a l:Nat)(r:D)(S:List Nat)(kvs rw_:List (Nat×Nat))(μ:Mem):Nat->M.Loc->Mem->Prop:=fun i δ μ'=>∃x4 x5:Option D,δ=[some (.loc n),some r,some (.loc a),some (.tup [.str "fits", .loc l]),x4,x5]/\KB [n,m] μ μ'/\Sh μ' n m r (zEg kvs (rw_.take i))
def zSt{ex:Str->List (Str×D)->Mem->Prop}(h:Rl R' ts')(s:Sh μ n m r kvs)(K:Keys kvs S)(hS:∀x∈S,x<10^60)
 (qf:∀(T:List Nat)(l:Nat)(μ':Mem),T.Sublist (yA S.length)->zLf R' (zKp R' ts' S) T=true->zOc R' (zKp R' ts' S) T=none->Keep μ μ'->μ.length<=l->μ'[l]?=some (.lst (nat (T.map fun i=>S.getD i 0)))->ex "Full" [("some", .loc l)] μ')
 (q:∀(hs:List Nat)(μ':Mem),hs.length=S.length->RightL R' (zKp R' ts' S) (hs.map some)->KB [n,m] μ μ'->Sh μ' n m (rlN R' ts') (zEg kvs (S.zip hs))->Q .non μ'):WXr zBd [.loc n,rlN R' ts'] μ Q ex:=by
 have hf:=s.few;have hl:=K.len;have hK:(zKp R' ts' S).length=S.length:=by rw[length_map]
 have hcc:yI (.str ("crowd":Str)) (.str ("crowd":Str))=true:=by decide +kernel
 have hfc:yI (.str ("fits":Str)) (.str ("crowd":Str))=false:=by decide +kernel
 refine zFw rfl ?_;show WXs zud [some (.loc n),some (rlN R' ts'),none,none,none,none] μ _ _ _;unfold zud;refine zvf (zTq (zhb (zA (zSb (zd rfl ⟨n,_,rfl,s.at_,z2d _ m,zx (zbc s K ?_)⟩)))));have e0:(μ++[LObj.lst (nat S)])[μ.length]?=some (.lst (nat S)):=zC;have k0:Keep μ (μ++[LObj.lst (nat S)]):=Keep.app;generalize μ++[LObj.lst (nat S)]=μ0 at e0 k0;refine zvf (zTq (zhb (zA (ze (zA (ze (zd rfl (ze (zd rfl (zx (zSl h e0 (by omega) fun μ1 k1=>zx ?_)))))))))));have k01:=k0.trans k1;refine zXr (L:=30) (h.wb (by omega)) (by omega) (fun lay l μ2 rt hsm k2 g2 e2=>?_) (fun T l μ2 sb hc hsp k2 g2 e2=>?_)
 ·refine zvf (z9q (zQ (zt (zt (zd rfl (w_c (z5b rfl rfl (w_c (zAc ⟨_,rfl,fun hb=>?_,fun _=>zTq (zwb ?_)⟩)))))))))
  ·rw[hfc]at hb;cases hb
  have hlay:lay.length=S.length:=by rw[rt.len,hK]
  have elay:lay=(lay.map fun o=>o.getD 0).map some:=by
   rw[map_map];refine ext_getElem? fun i=>?_;rw[yn]
   by_cases hi:i<lay.length
   ·have:=hsm i (by omega);rw[getD_eq_getElem?_getD]at this
    cases e:lay[i]? with
    |none=>rfl
    |some o=>
     rw[e]at this
     cases o with
     |none=>cases this
     |some v=>rfl
   ·rw[Yx (by omega)];rfl
  have hhs:(lay.map fun o=>o.getD 0).length=S.length:=by rw[length_map,hlay]
  have k02:=k01.trans k2;have s2:=s.keep k02;have ea:=k2 _ _ (k1 _ _ e0);have q':=q (lay.map fun o=>o.getD 0);generalize (lay.map fun o=>o.getD 0)=hs at hhs elay q';have rt':RightL R' (zKp R' ts' S) (hs.map some):=by rw[<-elay];exact rt
  refine zTq (zD (zSs (zd rfl (zd rfl ⟨n,_,rfl,s2.at_,by simp[fsD],?_⟩))));have h2:z2h "kept_rule" (rlN R' ts') (fsD r m)=fsD (rlN R' ts') m:=by simp only[z2h,if_true]
  rw[h2];have hne:=s2.ne;have kn:KB [n,m] μ2 (μ2.set n (.ins "Shelf" (fsD (rlN R' ts') m))):=KB.refl.set (.inl (by simp));have s3:Sh (μ2.set n (.ins "Shelf" (fsD (rlN R' ts') m))) n m (rlN R' ts') kvs:=⟨zRo s2.at_,by rw[yR hne];exact s2.dc,s2.nd,s2.few⟩
  have al:μ.length≠n:=yO (zG s.at_);have am:μ.length≠m:=yO (zG s.dc);have ln:l≠n:=by have:=zG s.at_;have:=k01.len;omega
  have lm:l≠m:=by have:=zG s.dc;have:=k01.len;omega
  have ea3:=kn.at_ _ _ (by simp;exact⟨al,am⟩) ea;have el3:=kn.at_ _ _ (by simp;exact⟨ln,lm⟩) e2;have k03:KB [n,m] μ (μ2.set n (.ins "Shelf" (fsD (rlN R' ts') m))):=(KB.of_keep k02).trans kn;generalize μ2.set n (.ins "Shelf" (fsD (rlN R' ts') m))=μ3 at s3 ea3 el3 k03;have zl:(S.zip hs).length=S.length:=by rw[List.length_zip,hhs,Nat.min_self]
  have zk:∀x∈(S.zip hs).map (·.1),x∈S:=fun x hx=>by
   obtain⟨p,hp,rfl⟩:=List.mem_map.mp hx;exact(of_mem_zip hp).1
  refine zmi (zzi (zd rfl (.inr (.inr ⟨_,_,rfl,ea3,?_⟩))));rw[zCs];refine z7c (JRn n m μ.length l (rlN R' ts') S kvs (S.zip hs) μ3) ⟨_,_,rfl, .refl,s3⟩ ?_ ?_ ?_
  ·rintro i δ μ4 ⟨x4,x5,rfl,k4,s4⟩;exact stays_iff.mpr (k4.at_ _ _ (by simp;exact⟨al,am⟩) ea3)
  ·rintro i x δ μ4 hx ⟨x4,x5,rfl,k4,s4⟩;rw[yn,Xl]at hx
   cases hp:S[i]? with
   |none=>rw[hp]at hx;cases hx
   |some key=>
    rw[hp]at hx;have hi:i<hs.length:=by rw[hhs];exact(List.getElem?_eq_some_iff.mp hp).1
    obtain⟨v,hv⟩:∃v,hs[i]?=some v:=⟨_,yM hi⟩
    have hz:(S.zip hs)[i]?=some (key,v):=by rw[List.getElem?_zip_eq_some];exact⟨hp,hv⟩
    simp only[Option.map_some,xC,Nat.zero_add]at hx;subst hx;refine zvn (zZe (zdf (zZe (zdf (zUl ?_)))));unfold zUf;refine zOh (zt (zt (zd rfl (w_c (z5b rfl rfl (zd rfl (z5b (zE (k4.at_ _ _ (by simp;exact⟨ln,lm⟩) el3)) (z8x elay hv) ?_)))))));refine zpp (z9j (zd rfl ⟨n,_, .loc m,rfl,s4.at_,zkd _ m,?_⟩));have ht:(S.zip hs).take (i+1)=(S.zip hs).take i++[(key,v)]:=by rw[List.take_add_one,hz];rfl
    have ekv:=zen kvs ((S.zip hs).take i) (key,v);rw[<-ht]at ekv;refine zd rfl ⟨m,_,_,rfl,rfl,s4.dc,?_,_,_,rfl,k4.trans (KB.refl.set (.inl (by simp))),?_⟩
    ·have:=s4.few;unfold dkN;rw[length_map];omega
    ·rw[zGs];show Sh _ _ _ _ (zEg kvs (List.take (i+1) (S.zip hs)));rw[ekv];refine s4.set (by rw[<-ekv];exact zmo _ _ s.nd) ?_;rw[<-ekv];refine yy (zkp (A:=S) s.nd (fun x hx=>K.pm.mem_iff.mpr hx) fun x hx=>?_) (by omega);obtain⟨y,hy,rfl⟩:=List.mem_map.mp hx;exact zk _ (List.mem_map.mpr ⟨y,List.mem_of_mem_take hy,rfl⟩)
  ·rintro δ μ4 ⟨x4,x5,rfl,k4,s4⟩;rw[length_map,List.length_zipIdx,<-zl,take_length]at s4;exact q' μ4 hhs rt' (k03.trans k4) s4
 ·refine zvf (z9q (zQ (zt (zt (zd rfl (w_c (z5b rfl rfl (w_c (zAc ⟨_,rfl,fun _=>?_,fun hb=>?_⟩)))))))))
  ·rw[hK]at sb;have lT:T.length<=S.length:=by have:=sb.length_le;rw[length_range]at this;exact this
   have hT:∀i∈T,i<S.length:=fun i hi=>List.mem_range.mp (sb.subset hi);refine zLr (ze (zMq (zBf (zt (zd rfl (w_c (z5b rfl rfl (.inr (.inr ⟨_,_,rfl,e2,z3c (by rw[length_map];omega),?_⟩)))))))));have ea:=k2 _ _ (k1 _ _ e0);refine zCf (fun(x:Nat)=>D.int x) T (fun i=>D.int (S.getD i 0:Nat)) (fun μ' k=>zob e2 k) (fun i hi μ' kp=>?_) (fun μ' kp=>?_)
   ·refine zdf ?_;unfold zWf;exact zt (zd rfl (zd rfl (z5b (zE (kp _ _ ea)) (z1i (hT i hi)) ⟨rfl,kp,kp⟩)))
   ·have e:(T.map fun i=>D.int (S.getD i 0:Nat))=nat (T.map fun i=>S.getD i 0):=by rw[zbi]
    rw[e];refine zx ⟨_,_,rfl,zC,by rw[length_map];omega,fun x hx=>?_,?_⟩
    ·obtain⟨i,hi,rfl⟩:=List.mem_map.mp hx;have:=hT i hi;rw[getD_eq_getElem?_getD,yM this,Option.getD_some];exact hS _ (getElem_mem this)
    ·refine qf T _ _ sb hc hsp (((k01.trans k2).trans kp.to).trans Keep.app) ?_ zC;have:=(k01.trans (k2.trans kp)).len;simp;omega
  ·rw[hcc]at hb;cases hb
structure WH(η:FH)(c:Str)(fs:List (Str×D))(δ:M.Loc)(μ:Mem)(nx:M.Loc->Mem->Prop)(rt:D->Mem->Prop):Prop where
 ex:∃o,η c fs δ μ=some o/\zYz nx rt (fun _ _ _=>False) o
section
variable {p q:FS}{i:Nat}{tb:List (Str×Bool)}{η:FH}{c:Str}{fs:List (Str×D)}{δ:M.Loc}{μ:Mem}{nx:M.Loc->Mem->Prop}{rt:D->Mem->Prop}{bk ct:M.Loc->Mem->Prop}{ex:Str->List (Str×D)->Mem->Prop}
def zaw(h:WXs p δ μ nx rt (fun c fs μ'=>WH η c fs δ μ' nx rt)):WS (znt p η) δ μ nx rt bk ct:=by
 obtain⟨o,e,k⟩:=h
 cases o with
 |next δ' μ'=>exact⟨.next δ' μ',by simp only[znt,e],k⟩
 |ret d μ'=>exact⟨.ret d μ',by simp only[znt,e],k⟩
 |brk _ _=>exact k.elim
 |cont _ _=>exact k.elim
 |exc c fs μ'=>
  obtain⟨o,e3,k⟩:=k
  cases o with
  |next δ' μ2=>exact⟨.next δ' μ2,by simp only[znt,e,e3],k⟩
  |ret d μ2=>exact⟨.ret d μ2,by simp only[znt,e,e3],k⟩
  |brk _ _=>exact k.elim
  |cont _ _=>exact k.elim
  |exc _ _ _=>exact k.elim
def z4z(ht:tb.lookup c=some true)(h:WS q (δ.set i (some (.loc μ.length))) (μ++[.exc c fs]) (fun δ' μ'=>nx (δ'.set i none) μ') rt (fun _ _=>False) (fun _ _=>False)):WH (hAs i tb q η) c fs δ μ nx rt:=by
 obtain⟨o,e,k⟩:=h
 cases o with
 |next δ' μ2=>exact⟨.next _ μ2,by simp only[hAs,ht,e,behind],k⟩
 |ret d μ2=>exact⟨.ret d μ2,by simp only[hAs,ht,e,behind],k⟩
 |brk _ _=>exact k.elim
 |cont _ _=>exact k.elim
 |exc _ _ _=>exact k.elim
def zXx(ht:tb.lookup c=some false)(h:WH η c fs δ μ nx rt):WH (hAs i tb q η) c fs δ μ nx rt:=by
 obtain⟨o,e,k⟩:=h;exact⟨o,by simp only[hAs,ht,e],k⟩
def z8u(ht:tb.lookup c=some true)(h:WS q δ μ nx rt (fun _ _=>False) (fun _ _=>False)):WH (z3j tb q η) c fs δ μ nx rt:=by
 obtain⟨o,e,k⟩:=h
 cases o with
 |next δ' μ2=>exact⟨.next _ μ2,by simp only[z3j,ht,e],k⟩
 |ret d μ2=>exact⟨.ret d μ2,by simp only[z3j,ht,e],k⟩
 |brk _ _=>exact k.elim
 |cont _ _=>exact k.elim
 |exc _ _ _=>exact k.elim
def zKw(ht:tb.lookup c=some false)(h:WH η c fs δ μ nx rt):WH (z3j tb q η) c fs δ μ nx rt:=by
 obtain⟨o,e,k⟩:=h;exact⟨o,by simp only[z3j,ht,e],k⟩
def zKs{F:FX}{φ:FA}(h:WA φ δ μ fun ds μ1=>WXr F ds μ1 (fun d μ'=>nx (δ.set i (some d)) μ') ex):WXs (zjr i F φ) δ μ nx rt ex:=by
 obtain⟨ds,μ1,e1,⟨d,μ',e2,k⟩ | ⟨c,fs,μ',e2,k⟩⟩:=h
 ·exact⟨.next _ μ',by simp[e1,e2],k⟩
 ·exact⟨.exc c fs μ',by simp[e1,e2],k⟩
end
def zik(r:D)(m:Nat)(x:Str)(h1:(x == "kept_rule")=false)(h2:(x == "nest_of")=false):(fsD r m).lookup x=none:=by
 simp only[fsD,lookup_cons,h1,h2,lookup_nil]
def zTt(r:D)(m:Nat):(fsD r m).lookup ("put":Str)=none:=zik r m _ (by decide +kernel) (by decide +kernel)
def zxu(r:D)(m:Nat):(fsD r m).lookup ("out":Str)=none:=zik r m _ (by decide +kernel) (by decide +kernel)
def zBq(r:D)(m:Nat):(fsD r m).lookup ("renew":Str)=none:=zik r m _ (by decide +kernel) (by decide +kernel)
def zvq(r:D)(m:Nat):(fsD r m).lookup ("where":Str)=none:=zik r m _ (by decide +kernel) (by decide +kernel)
def zWg(r:D)(m:Nat):(fsD r m).lookup ("left":Str)=none:=zik r m _ (by decide +kernel) (by decide +kernel)
def zEn(r:D)(m:Nat):(fsD r m).lookup ("rule":Str)=none:=zik r m _ (by decide +kernel) (by decide +kernel)
def zhl(r:D)(m:Nat):(fsD r m).lookup ("nest":Str)=none:=zik r m _ (by decide +kernel) (by decide +kernel)
def StandE(lo hi:Nat)(μ:Mem)(d:D)(R:List Nat)(ts kvs:List (Nat×Nat))(S:List Nat):Prop:=∃(a b g c:Nat)(ls:List Nat),d = .tup [.loc a, .loc b, .loc g, .loc c,rlN R ts]/\(∀x∈a::b::g::c::ls,lo<=x/\x<hi)/\μ[a]?=some (.lst (nat S))/\μ[b]?=some (.lst ((S.map fun x=>kvs.lookup x).map onD))/\μ[g]?=some (.lst (ls.map .loc))/\ls.length=R.length/\(∀i l:Nat,ls[i]?=some l->μ[l]?=some (.lst (nat (inN kvs S i))))/\μ[c]?=some (.lst ((zrk R (S.map fun x=>kvs.lookup x)).map .int))
def StandE.kb{μ:Mem}{L:List Nat}(h:StandE lo hi μ d R ts kvs S)(k:KB L μ μ')(hL:∀i∈L,lo<=i->i<hi->∀ds,μ[i]?≠some (.lst ds)):StandE lo hi μ' d R ts kvs S:=by
 obtain⟨a,b,g,c,ls,e,hb,e1,e2,e3,e4,e5,e6⟩:=h;have nin:∀x ds,x∈a::b::g::c::ls->μ[x]?=some (.lst ds)->μ'[x]?=some (.lst ds):=fun x ds hx ex=>k.at_ _ _ (fun hm=>hL x hm (hb x hx).1 (hb x hx).2 ds ex) ex;exact⟨a,b,g,c,ls,e,hb,nin _ _ (by simp) e1,nin _ _ (by simp) e2,nin _ _ (by simp) e3,e4,fun i l hl=>nin _ _ (by simp[mem_of_getElem? hl]) (e5 i l hl),nin _ _ (by simp) e6⟩
def StandE.keep{μ:Mem}(h:StandE lo hi μ d R ts kvs S)(k:Keep μ μ'):StandE lo hi μ' d R ts kvs S:=h.kb (L:=[]) (KB.of_keep k) (by simp)
def zel{α:Type}[Enc α]{n:Nat}(f:Nat)(as:List α)(e:μ[n]?=some (.lst (as.map Enc.d)))(h:Enc.dep α<=f):toP μ (f+1) (.loc n)=some (.list (as.map Enc.p)):=by
 show(match μ[n]? with
  |some (.lst ds)=>(ds.mapM (toP μ f)).bind fun ps=>some (PyData.list ps)
  |_=>none)=_
 rw[e];show((as.map Enc.d).mapM (toP μ f)).bind (fun ps=>some (PyData.list ps))=_;have:=rdAll μ (f-Enc.dep α) as;rw[Nat.sub_add_cancel h]at this;rw[this];rfl
def zhv{μ:Mem}{f:Nat}(P:Nat->xn):∀(ls:List Nat)(off:Nat),(∀i l,ls[i]?=some l->toP μ f (.loc l)=some (P (off+i)))->(ls.map D.loc).mapM (toP μ f)=some ((List.range' off ls.length).map P)
 |[],_,_=>rfl
 |l::ls,off,h=>by
  have h0:=h 0 l rfl
  have ih:=zhv P ls (off+1) fun i l hl=>by
   have:=h (i+1) l (by simpa using hl);rw[show off+(i+1)=off+1+i by omega]at this;exact this
  rw[map_cons,mapM_cons,h0,ih];rfl
def zas(f:Nat)(R:List Nat)(ts:List (Nat×Nat)):toP μ (f+4) (rlN R ts)=some (.tuple [Enc.p R,Enc.p (ts.map fun t=>[t.1,t.2])]):=by
 have h4:toP μ (f+3) (tn R)=some (Enc.p R):=Enc.rd μ (f+1) R
 have h5:toP μ (f+3) (.tup (ts.map pr2))=some (Enc.p (ts.map fun t=>[t.1,t.2])):=by
  have e:(D.tup (ts.map pr2))=Enc.d (ts.map fun t=>[t.1,t.2]):=by
   show _=D.tup ((ts.map fun t=>[t.1,t.2]).map Enc.d);rw[map_map];rfl
  rw[e];exact Enc.rd μ f (ts.map fun t=>[t.1,t.2])
 show([tn R,D.tup (ts.map pr2)].mapM (toP μ (f+3))).bind (fun ps=>some (PyData.tuple ps))=_;simp only[mapM_cons,List.mapM_nil,h4,h5];rfl
def zxy(R:List Nat)(ts kvs:List (Nat×Nat))(S:List Nat):xn := .tuple [.list (S.map Enc.p), .list ((S.map fun x=>kvs.lookup x).map Enc.p), .list ((List.range' 0 R.length).map fun h => .list ((inN kvs S h).map Enc.p)), .list ((zrk R (S.map fun x=>kvs.lookup x)).map Enc.p), .tuple [Enc.p R,Enc.p (ts.map fun t=>[t.1,t.2])]]
def zdg(h:StandE lo hi μ d R ts kvs S):toP μ 8 d=some (zxy R ts kvs S):=by
 obtain⟨a,b,g,c,ls,rfl,hb,e1,e2,e3,e4,e5,e6⟩:=h;have h1:=zel (α:=Nat) 6 S e1 (by decide);have h2:=zel (α:=Option Nat) 6 (S.map fun x=>kvs.lookup x) e2 (by decide);have h3:=zel (α:=Int) 6 (zrk R (S.map fun x=>kvs.lookup x)) e6 (by decide)
 have hs:=zhv (μ:=μ) (f:=6) (fun h => .list ((inN kvs S h).map Enc.p)) ls 0 fun i l hl=>by
  rw[Nat.zero_add];exact zel (α:=Nat) 5 (inN kvs S i) (e5 i l hl) (by decide)
 have h4:toP μ 7 (.loc g)=some (.list ((List.range' 0 R.length).map fun h => .list ((inN kvs S h).map Enc.p))):=by
  show(match μ[g]? with
   |some (.lst ds)=>(ds.mapM (toP μ 6)).bind fun ps=>some (PyData.list ps)
   |_=>none)=_
  rw[e3];show((ls.map D.loc).mapM (toP μ 6)).bind (fun ps=>some (PyData.list ps))=_;rw[hs,e4];rfl
 have h6:=zas (μ:=μ) 3 R ts;show([D.loc a, .loc b, .loc g, .loc c,rlN R ts].mapM (toP μ 7)).bind (fun ps=>some (PyData.tuple ps))=_;simp only[mapM_cons,List.mapM_nil,h1,h2,h3,h4,h6];rfl
section
variable {μ:Mem}{n m k:Nat}{R:List Nat}{ts kvs:List (Nat×Nat)}{S:List Nat}{Q:D->Mem->Prop}
def zxh(h:Rl R ts)(s:Sh μ n m (rlN R ts) kvs)(K:Keys kvs S)(q:∀d μ',Keep μ μ'->StandE μ.length μ'.length μ' d R ts kvs S->Q d μ'):WF zfb [.loc n] μ Q:=by
 have hf:=s.few;have hl:=K.len;have hrl:=h.rl;refine zRb rfl ?_;show WS z5d [some (.loc n),none,none] μ _ _ _ _;unfold z5d;refine zD (zhb (zA (zSb (zd rfl ⟨n,_,rfl,s.at_,z2d _ m,zx (zbc s K ?_)⟩))));have e0:(μ++[LObj.lst (nat S)])[μ.length]?=some (.lst (nat S)):=zC;have s0:=s.keep (μ':=μ++[LObj.lst (nat S)]) Keep.app;have k0:Keep μ (μ++[LObj.lst (nat S)]):=Keep.app;generalize μ++[LObj.lst (nat S)]=μ0 at e0 s0 k0;refine zD (zhb (zMq (zHj (ze (zA (ze (zA (zSb (zd rfl ⟨n,_,rfl,s0.at_,zWg _ m,zx (zhh h s0 K fun l1 μ1 k1 g1 e1=>zx (zIh (zE e1) (zx ?_)))⟩)))))))));have ll:((zrk R (S.map fun x=>kvs.lookup x)).map D.int).length=R.length:=by simp[zrk]
 rw[ll];refine⟨_,rfl,by omega,by omega,z3c (by simp;omega),?_⟩;rw[Ys];have s1:=s0.keep k1;have k01:=k0.trans k1;refine zum (fun i ys μ'=>∃ls:List Nat,ys=ls.map D.loc/\ls.length=i/\(∀l∈ls,μ.length<=l)/\(∀j l:Nat,ls[j]?=some l->μ'[l]?=some (.lst (nat (inN kvs S j))))/\Keep μ1 μ') ⟨[],rfl,rfl,by simp,by simp,Keep.refl⟩ (fun _ _ _ _=>rfl) ?_ ?_
 ·rintro i x ys μ' hx ⟨ls,rfl,hli,hls,he,kp⟩;obtain⟨hi,rfl⟩:=z8i hx;refine zdf (zzt ⟨fun _=>?_,fun hf=>(by cases hf)⟩);unfold ztg;have s':=s1.keep kp;refine zA (zSb (zd rfl ⟨n,_,rfl,s'.at_,zhl _ m,ze (zd rfl (zx (z1r s' K fun l μ2 k2 g2 e2=>?_)))⟩));refine⟨ls++[l],by rw[map_append];rfl,by simp[hli],fun x hx=>?_,fun j x hx=>?_,kp.trans k2⟩
  ·rcases List.mem_append.mp hx with hx | hx
   ·exact hls x hx
   ·rw[List.mem_singleton.mp hx];have:=(k01.trans kp).len;omega
  ·by_cases hj:j<ls.length
   ·rw[yt hj]at hx;exact k2 _ _ (he j x hx)
   ·rw[yL (by omega)]at hx
    have hj2:j-ls.length=0:=by
     have:=(List.getElem?_eq_some_iff.mp hx).1;simp at this;omega
    rw[hj2]at hx;obtain rfl:l=x:=by simpa using hx
    rw[show j=i by omega];exact e2
 ·rintro ys μ' ⟨ls,rfl,hli,hls,he,kp⟩;simp only[length_map,length_range]at hli;have eg:(μ'++[LObj.lst (ls.map D.loc)])[μ'.length]?=some (.lst (ls.map D.loc)):=zC;have k2:Keep μ1 (μ'++[LObj.lst (ls.map D.loc)]):=kp.to;have he2:∀j l:Nat,ls[j]?=some l->(μ'++[LObj.lst (ls.map D.loc)])[l]?=some (.lst (nat (inN kvs S j))):=fun j l hl=>Keep.app _ _ (he j l hl);have gg:μ.length<=μ'.length:=(k01.trans kp).len;generalize μ'++[LObj.lst (ls.map D.loc)]=μ2 at eg k2 he2;generalize μ'.length=g at eg gg;have k02:=k01.trans k2;have e02:=k2 _ _ (k1 _ _ e0);refine zzb (zPf (ze (zd rfl (ze (zMq (zBf (zd rfl (.inr (.inr ⟨_,_,rfl,e02,z3c (by rw[length_map];omega),?_⟩)))))))));have s2:=s.keep k02;refine zCf (fun(x:Nat)=>D.int x) S (fun x=>onD (kvs.lookup x)) (fun μ' k=>zob e02 k) (fun x hx μ' kp=>?_) (fun μ3 kp3=>?_)
  ·have s':=s2.keep kp;refine zdf ?_;unfold zxg;exact zA (zSb (zd rfl ⟨n,_,rfl,s'.at_,zvq _ m,ze (zd rfl (zx (zeu s' ⟨rfl,kp,kp⟩)))⟩))
  ·have e3:(S.map fun x=>onD (kvs.lookup x))=(S.map fun x=>kvs.lookup x).map onD:=by rw[map_map];rfl
   rw[e3];have eb:(μ3++[LObj.lst ((S.map fun x=>kvs.lookup x).map onD)])[μ3.length]?=some (.lst ((S.map fun x=>kvs.lookup x).map onD)):=zC;have k3:Keep μ2 (μ3++[LObj.lst ((S.map fun x=>kvs.lookup x).map onD)]):=kp3.to;have gb:μ.length<=μ3.length:=(k02.trans kp3).len;generalize μ3++[LObj.lst ((S.map fun x=>kvs.lookup x).map onD)]=μ4 at eb k3;generalize μ3.length=b at eb gb;have s4:=s2.keep k3;refine ze (zd rfl ?_);refine ze (zA (zSb (zd rfl ⟨n,_,rfl,s4.at_,zWg _ m,zx (zhh h s4 K fun l5 μ5 k5 g5 e5=>?_)⟩)));have s5:=s4.keep k5;refine ze (zA (zSb (zd rfl ⟨n,_,rfl,s5.at_,zEn _ m,zx (zOp s5 (zx ?_))⟩)));have k05:=k02.trans (k3.trans k5);have k25:=k3.trans k5;have gl5:μ.length<=l5:=yy (k02.trans k3).len g5;refine q _ _ k05 ⟨_,_,_,_,ls,rfl,fun x hx=>?_,k25 _ _ e02,k5 _ _ eb,k25 _ _ eg,hli,fun i l hl=>k25 _ _ (he2 i l hl),e5⟩;simp only[mem_cons]at hx;rcases hx with rfl | rfl | rfl | rfl | hx
   ·exact⟨yh _,zG (k25 _ _ e02)⟩
   ·exact⟨gb,zG (k5 _ _ eb)⟩
   ·exact⟨gg,zG (k25 _ _ eg)⟩
   ·exact⟨gl5,zG e5⟩
   ·obtain⟨j,hj⟩:=List.mem_iff_getElem?.mp hx;exact⟨hls x hx,zG (k25 _ _ (he2 j x hj))⟩
end
section
variable {μ:Mem}{n m k:Nat}{R:List Nat}{ts kvs:List (Nat×Nat)}{S:List Nat}{Q:D->Mem->Prop}
def zru(h:Rl R ts)(s:Sh μ n m (rlN R ts) kvs)(K:Keys kvs S)(hS:∀x∈S,x<10^60)(hk:k<10^60)
 (qt:∀v:Nat,kvs.lookup k=some v->Q (.str "twice") μ)
 (qf:∀(V:List Nat)(l:Nat)(μ':Mem),kvs.lookup k=none->Keep μ μ'->μ.length<=l->μ'[l]?=some (.lst (nat V))->Q (.tup [.str "full", .loc l]) μ')
 (q:∀(row:List (Nat×Nat)) (lr:Nat) (μ':Mem),Can R ts kvs S k row->KB [m] μ μ'->μ.length<=lr->μ'[lr]?=some (.lst ((zJo (S++[k]) row).map pD))->Sh μ' n m (rlN R ts) (zEg kvs (zJo (S++[k]) row))->Q (.loc lr) μ'):WF z8b [.loc n, .tup [.str "put", .int k]] μ Q:=by
 have hp:yI (.str ("put":Str)) (.str ("put":Str))=true:=by decide +kernel
 refine zRb rfl ?_;show WS zmc [some (.loc n),some (.tup [.str "put", .int k]),none,none,none,none] μ _ _ _ _;unfold zmc;refine zD (zOh (zd rfl (zvn (zZe (zdf (zZe (zdf (zUl ?_))))))));refine zD (zhb (w_c ?_));refine zD (zaw (z9q (zQ (zt (zd rfl (w_c (zAc ⟨_,rfl,fun _=>?_,fun hb=>?_⟩)))))))
 ·refine zKs (zSb (zd rfl ⟨n,_,rfl,s.at_,zTt _ m,ze (zd rfl (zx (zSy h s K hS hk (fun v e=>?_) (fun V l μ1 e pV hV hc k1 g1 e1=>?_) fun row lr μ1 e h30 c k1 g1 e1 s1=>?_)))⟩))
  ·refine zXx (by decide +kernel) (z8u (by decide +kernel) (zhb (w_c (zzb (zd rfl (qt v e))))))
  ·refine z4z (by decide +kernel) (zhb (zPf (ze (w_c (ze (zrx (zd rfl ⟨_,_,_,rfl,zC,rfl,zx (zzb (zd rfl ?_))⟩)))))));exact qf V l _ e (k1.to) g1 (Keep.app _ _ e1)
  ·exact zzb (zd rfl (q row lr μ1 c k1 g1 e1 s1))
 ·rw[hp]at hb;cases hb
def zLu(s:Sh μ n m (rlN R ts) kvs)
 (qn:kvs.lookup k=none->Q (.str "none") μ)
 (q:∀(v:Nat)(μ':Mem),KB [m] μ μ'->Sh μ' n m (rlN R ts) (zAv kvs k)->Q (.int (v:Nat)) μ'):WF z8b [.loc n, .tup [.str "out", .int k]] μ Q:=by
 have hp:yI (.str ("out":Str)) (.str ("put":Str))=false:=by decide +kernel
 have ho:yI (.str ("out":Str)) (.str ("out":Str))=true:=by decide +kernel
 refine zRb rfl ?_;show WS zmc [some (.loc n),some (.tup [.str "out", .int k]),none,none,none,none] μ _ _ _ _;unfold zmc;refine zD (zOh (zd rfl (zvn (zZe (zdf (zZe (zdf (zUl ?_))))))));refine zD (zhb (w_c ?_));refine zD (zaw (z9q (zQ (zt (zd rfl (w_c (zAc ⟨_,rfl,fun hb=>?_,fun _=>?_⟩)))))))
 ·rw[hp]at hb;cases hb
 refine z9q (zQ (zt (zd rfl (w_c (zAc ⟨_,rfl,fun _=>?_,fun hb=>?_⟩)))))
 ·refine zKs (zSb (zd rfl ⟨n,_,rfl,s.at_,zxu _ m,ze (zd rfl (zx (zVx s (fun v e=>?_) fun e=>?_)))⟩))
  ·exact zzb (zd rfl (q v _ (KB.refl.set (.inl (by simp))) (s.pop k)))
  ·exact zXx (by decide +kernel) (zKw (by decide +kernel) (z8u (by decide +kernel) (zhb (w_c (zzb (zd rfl (qn e)))))))
 ·rw[ho]at hb;cases hb
def zDu(h:Rl R' ts')(s:Sh μ n m (rlN R ts) kvs)(K:Keys kvs S)(hS:∀x∈S,x<10^60)
 (qf:∀(V:List Nat)(l:Nat)(μ':Mem),Keep μ μ'->μ.length<=l->μ'[l]?=some (.lst (nat V))->Q (.tup [.str "full", .loc l]) μ')
 (q:∀(hs:List Nat)(μ':Mem),hs.length=S.length->KB [n,m] μ μ'->Sh μ' n m (rlN R' ts') (zEg kvs (S.zip hs))->Q .non μ'):WF z8b [.loc n, .tup [.str "renew",rlN R' ts']] μ Q:=by
 have hp:yI (.str ("renew":Str)) (.str ("put":Str))=false:=by decide +kernel
 have ho:yI (.str ("renew":Str)) (.str ("out":Str))=false:=by decide +kernel
 refine zRb rfl ?_;show WS zmc [some (.loc n),some (.tup [.str "renew",rlN R' ts']),none,none,none,none] μ _ _ _ _;unfold zmc;refine zD (zOh (zd rfl (zvn (zZe (zdf (zZe (zdf (zUl ?_))))))));refine zD (zhb (w_c ?_));refine zD (zaw (z9q (zQ (zt (zd rfl (w_c (zAc ⟨_,rfl,fun hb=>?_,fun _=>?_⟩)))))))
 ·rw[hp]at hb;cases hb
 refine z9q (zQ (zt (zd rfl (w_c (zAc ⟨_,rfl,fun hb=>?_,fun _=>?_⟩)))))
 ·rw[ho]at hb;cases hb
 ·refine zKs (zSb (zd rfl ⟨n,_,rfl,s.at_,zBq _ m,ze (zd rfl (zx (zSt h s K hS (fun T l μ1 _ _ _ k1 g1 e1=>?_) fun hs μ1 hl _ k1 s1=>?_)))⟩))
  ·refine z4z (by decide +kernel) (zhb (zPf (ze (w_c (ze (zrx (zd rfl ⟨_,_,_,rfl,zC,rfl,zx (zzb (zd rfl ?_))⟩)))))));exact qf _ l _ (k1.to) g1 (Keep.app _ _ e1)
  ·exact zzb (zd rfl (q hs μ1 hl k1 s1))
end
inductive Ans(μ:Mem)(lo hi:Nat):D->Prop
 |row {l:Nat} {row:List (Nat×Nat)}:lo<=l->l<hi->μ[l]?=some (.lst (row.map pD))->Ans μ lo hi (.loc l)
 |str {s:Str}:xB s=true->Ans μ lo hi (.str s)
 |full {l:Nat} {V:List Nat}:lo<=l->l<hi->μ[l]?=some (.lst (nat V))->Ans μ lo hi (.tup [.str "full", .loc l])
 |int {i:Int}:Ans μ lo hi (.int i)
 |non:Ans μ lo hi .non
def Ans.keep{μ:Mem}(a:Ans μ lo hi d)(k:Keep μ μ'):Ans μ' lo hi d:=by
 cases a with
 |row h1 h2 e=>exact .row h1 h2 (k _ _ e)
 |str h=>exact .str h
 |full h1 h2 e=>exact .full h1 h2 (k _ _ e)
 |int=>exact .int
 |non=>exact .non
section
variable {μ:Mem}{n m k:Nat}{R:List Nat}{ts kvs:List (Nat×Nat)}{S:List Nat}{Q:D->Mem->Prop}
def zsw(e:μ[l]?=some (.lst (row.map pD))):toP μ 8 (.loc l)=some (.list ((row.map fun p=>[p.1,p.2]).map Enc.p)):=by
 refine zel (α:=List Nat) 7 _ ?_ (by decide);rw[e,map_map];rfl
def z5t{V:List Nat}(e:μ[l]?=some (.lst (nat V))):toP μ 8 (.tup [.str "full", .loc l])=some (.tuple [.str "full", .list (V.map Enc.p)]):=by
 have h1:toP μ 7 (.str "full")=some (.str "full"):=by
  show(bif xB ("full":Str) then some (PyData.str "full") else none)=_;rw[show xB ("full":Str)=true by decide +kernel];rfl
 have h2:=zel (α:=Nat) 6 V e (by decide);show([D.str "full", .loc l].mapM (toP μ 7)).bind (fun ps=>some (PyData.tuple ps))=_;simp only[mapM_cons,List.mapM_nil,h1,h2];rfl
def zWe{word:Str}{x:D}(hw:xB word=true)(h:WS (zY (sIf (z5 (zH gEq (zm 3) (fC (.str "put")))) (zCc (zH gEq (zB zxb (znb "Shelf" "has" (zm 0) (zf (zm 4) zJ))) (fOr (zH gEq (zm 2) (fC (.str "twice"))) (zB (zOs .lst) (zf (zm 2) (zf (fC (.ty "list")) zJ)))))) zZb) (zY (sIf (z5 (zH gEq (zm 3) (fC (.str "out")))) (zCc (z1y (zB zxb (znb "Shelf" "has" (zm 0) (zf (zm 4) zJ))))) zZb) (zCc (fOr (zH zqg (zm 2) (fC .non)) (zH gEq (zB z9b (znb "Shelf" "rule" (zm 0) zJ)) (zm 4)))))) [some (.loc n),some (.tup [.str word,x]),some d,some (.str word),some x] μ (fun _ μ'=>Q .non μ') Q (fun _ _=>False) (fun _ _=>False)):WF z8 [.loc n, .tup [.str word,x],d] μ Q:=by
 refine zRb rfl ?_;show WS zVc [some (.loc n),some (.tup [.str word,x]),some d,none,none] μ _ _ _ _;unfold zVc;exact zD (zOh (zd rfl (zvn (zZe (zdf (zZe (zdf (zUl h))))))))
def zXf(b:Bool)(s:Sh μ n m (rlN R ts) kvs)(hb:(kvs.lookup k).isSome=b)(hd:∃p,toP μ 8 d=some p/\((yI p (.str "twice")=true/\b=true)\/(yI p (.str "twice")=false/\∃t,z4w μ d=some t/\z2w t .lst=b)))(q:Q (.bl true) μ):WF z8 [.loc n, .tup [.str "put", .int k],d] μ Q:=by
 have hp:yI (.str ("put":Str)) (.str ("put":Str))=true:=by decide +kernel
 obtain⟨p,e,hd⟩:=hd;refine zWe (by decide +kernel) (zD (zCg (zQ (zt (zd rfl (w_c (zAc ⟨_,rfl,fun _=>?_,fun hb=>?_⟩)))))))
 ·refine zzb (zt (zA (zSb (zd rfl ⟨n,_,rfl,s.at_,zSi _ m,ze (zd rfl (zx (zZo s ?_)))⟩))));rw[hb];refine zAy (zt (zd rfl (w_c (zVy e (z1l (by decide +kernel)) ⟨_,rfl,fun h1=>?_,fun h1=>?_⟩))))
  ·rcases hd with ⟨h2,_⟩ | ⟨h2,t,et,ht⟩
   ·rw[h2]at h1;cases h1
   ·refine zA (ze (zd rfl (ze (w_c (zx (zko (c := .lst) et ?_))))));rw[ht];exact zSr b b (by rw[decide_eq_true rfl];exact q)
  ·rcases hd with ⟨h2,h3⟩ | ⟨h2,t,et,ht⟩
   ·rw[h3];exact zSr true true (by rw[decide_eq_true rfl];exact q)
   ·rw[h2]at h1;cases h1
 ·rw[hp]at hb;cases hb
def zqi(s:Sh μ n m (rlN R ts) kvs)(hb:kvs.lookup k=none)(q:Q (.bl true) μ):WF z8 [.loc n, .tup [.str "out", .int k],d] μ Q:=by
 have hp:yI (.str ("out":Str)) (.str ("put":Str))=false:=by decide +kernel
 have ho:yI (.str ("out":Str)) (.str ("out":Str))=true:=by decide +kernel
 refine zWe (by decide +kernel) (zD (zCg (zQ (zt (zd rfl (w_c (zAc ⟨_,rfl,fun hb=>?_,fun _=>zwb ?_⟩)))))))
 ·rw[hp]at hb;cases hb
 refine zD (zCg (zQ (zt (zd rfl (w_c (zAc ⟨_,rfl,fun _=>?_,fun hb=>?_⟩))))))
 ·refine zzb (w_not (zA (zSb (zd rfl ⟨n,_,rfl,s.at_,zSi _ m,ze (zd rfl (zx (zZo s ⟨_,rfl,?_⟩)))⟩))));rw[hb];exact q
 ·rw[ho]at hb;cases hb
def zwg(s:Sh μ n m (rlN R ts) kvs)(hd:(d = .non/\R=R'/\ts=ts')\/∃ds,d = .tup ds)(q:Q (.bl true) μ):WF z8 [.loc n, .tup [.str "renew",rlN R' ts'],d] μ Q:=by
 have hp:yI (.str ("renew":Str)) (.str ("put":Str))=false:=by decide +kernel
 have ho:yI (.str ("renew":Str)) (.str ("out":Str))=false:=by decide +kernel
 refine zWe (by decide +kernel) (zD (zCg (zQ (zt (zd rfl (w_c (zAc ⟨_,rfl,fun hb=>?_,fun _=>zwb ?_⟩)))))))
 ·rw[hp]at hb;cases hb
 refine zD (zCg (zQ (zt (zd rfl (w_c (zAc ⟨_,rfl,fun hb=>?_,fun _=>zwb ?_⟩))))))
 ·rw[ho]at hb;cases hb
 rcases hd with ⟨rfl,rfl,rfl⟩ | ⟨ds,rfl⟩
 ·refine zzb (zAy (zt (zd rfl (w_c ⟨.bl false,_,rfl,_,rfl,fun _=>?_,fun hb=>(by cases hb)⟩))));refine zt (zA (zSb (zd rfl ⟨n,_,rfl,s.at_,zEn _ m,zx (zOp s (zd rfl ?_))⟩)));exact zaz (zas 4 R ts) (zas 4 R ts) q
 ·exact zzb (zAy (zt (zd rfl (w_c ⟨.bl true,_,rfl,_,rfl,fun hb=>(by cases hb),fun _=>q⟩))))
def zpu(h:Rl R ts)(s:Sh μ n m (rlN R ts) kvs)(K:Keys kvs S)(a:Ans μ lo hi d)(q:∀L μ',(∀i∈L,lo<=i/\i<hi/\∃ds,μ[i]?=some (.lst ds))->KB L μ μ'->Q .non μ'):WF znd [.loc n,d] μ Q:=by
 have hf:=s.few;have hl:=K.len;refine zRb rfl ?_;show WS zae [some (.loc n),some d] μ _ _ _ _;unfold zae
 have tail:∀L μ1,(∀i∈L,lo<=i/\i<hi/\∃ds,μ[i]?=some (.lst ds))->KB L μ μ1->Sh μ1 n m (rlN R ts) kvs->WS (zY (zLd (zAf zod (zB zz (znb "Shelf" "all_there" (zm 0) zJ)) (zf (z2u (fC (.int 1))) zJ))) (zY (zLd (zsg zGf (zB z9 (znb "Shelf" "left" (zm 0) zJ)))) (zLd (zAf zod (zB zUb (znb "Shelf" "nest" (zm 0) (zf (fC (.int 0)) zJ))) (zf (z2u (fC (.int 1))) zJ))))) [some (.loc n),some d] μ1 (fun _ μ'=>Q .non μ') Q (fun _ _=>False) (fun _ _=>False):=fun L μ1 hL k1 s1=>by
  have old:∀{ν:Mem} {x:Nat} {o:LObj},Sh ν n m (rlN R ts) kvs->μ1.length<=x->Keep μ1 ν->Sh (ν.set x o) n m (rlN R ts) kvs:=fun{ν x o} sν hx kν=>by
   have h1:=zG s1.at_;have h2:=zG s1.dc;exact⟨zS sν.at_ (by omega),zS sν.dc (by omega),sν.nd,sν.few⟩
  refine zD (zHf (znk (zA (zSb (zd rfl ⟨n,_,rfl,s1.at_,z2d _ m,zx (zbc s1 K ⟨_,_,rfl,zC,ze (z4v (w_c ⟨_,rfl,zx (zfj zC (by rw[length_map];omega) ?_)⟩))⟩)⟩)))));have s2:=old (x:=μ1.length) (o := .lst (nat S++[D.int (-1)])) (s1.keep (μ':=μ1++[LObj.lst (nat S)]) Keep.app) (yh _) Keep.app;have k2:Keep μ1 ((μ1++[LObj.lst (nat S)]).set μ1.length (.lst (nat S++[D.int (-1)]))):=fun y o ey=>zS (Keep.app _ _ ey) (yO (zG ey));generalize (μ1++[LObj.lst (nat S)]).set μ1.length (.lst (nat S++[D.int (-1)]))=μ2 at s2 k2;refine zD (zHf (z4n (zA (zSb (zd rfl ⟨n,_,rfl,s2.at_,zWg _ m,zx (zhh h s2 K fun l3 μ3 k3 g3 e3=>⟨_,_,rfl,e3,zWo e3 ?_⟩)⟩)))));have g3':=yy k2.len g3;have s4:=old (x:=l3) (o := .lst []) (s2.keep k3) g3' (k2.trans k3);have k4:Keep μ1 (μ3.set l3 (.lst [])):=fun y o ey=>zS (k3 _ _ (k2 _ _ ey)) (yO (yq (zG ey) g3'));generalize μ3.set l3 (.lst [])=μ4 at s4 k4;refine zHf (znk (zA (zSb (zd rfl ⟨n,_,rfl,s4.at_,zhl _ m,ze (w_c (zx (z1r (h:=0) s4 K fun l5 μ5 k5 g5 e5=>⟨_,_,rfl,e5,ze (z4v (w_c ⟨_,rfl,zx (zfj e5 ?_ ?_)⟩))⟩)))⟩))))
  ·rw[length_map];exact yy (List.length_filter_le _ _) (by omega)
  ·have g5':=yy k4.len g5;have k6:Keep μ1 (μ5.set l5 (.lst (nat (inN kvs S 0)++[D.int (-1)]))):=fun y o ey=>zS (k5 _ _ (k4 _ _ ey)) (yO (yq (zG ey) g5'));exact q L _ hL (k1.trans (KB.of_keep k6))
 have none_:∀t,z4w μ d=some t->z2w t .lst=false->z2w t .tup=false->WS (zY (sIf (z5 (zB (zOs .lst) (zf (zm 1) (zf (fC (.ty "list")) zJ)))) (zLd (zsg zGf (zm 1))) zZb) (zY (sIf (z5 (zB (zOs .tup) (zf (zm 1) (zf (fC (.ty "tuple")) zJ)))) (zLd (zsg zGf (zH gIx (zm 1) (fC (.int 1))))) zZb) (zY (zLd (zAf zod (zB zz (znb "Shelf" "all_there" (zm 0) zJ)) (zf (z2u (fC (.int 1))) zJ))) (zY (zLd (zsg zGf (zB z9 (znb "Shelf" "left" (zm 0) zJ)))) (zLd (zAf zod (zB zUb (znb "Shelf" "nest" (zm 0) (zf (fC (.int 0)) zJ))) (zf (z2u (fC (.int 1))) zJ))))))) [some (.loc n),some d] μ (fun _ μ'=>Q .non μ') Q (fun _ _=>False) (fun _ _=>False):=fun t et h1 h2=>by
  refine zD (zCg (zQ (zA (ze (zd rfl (ze (w_c (zx (zko (c := .lst) et ⟨_,rfl,fun hb=>?_,fun _=>zwb ?_⟩)))))))))
  ·rw[h1]at hb;cases hb
  refine zD (zCg (zQ (zA (ze (zd rfl (ze (w_c (zx (zko (c := .tup) et ⟨_,rfl,fun hb=>?_,fun _=>zwb ?_⟩)))))))))
  ·rw[h2]at hb;cases hb
  exact tail [] μ (by simp) .refl s
 have ne:∀{l:Nat} {ds:List D},μ[l]?=some (.lst ds)->Sh (μ.set l (.lst [])) n m (rlN R ts) kvs:=fun{l ds} e=>by
  have h1:l≠n:=by rintro rfl;have:=s.at_;rw[e]at this;cases this
  have h2:l≠m:=by rintro rfl;have:=s.dc;rw[e]at this;cases this
  exact⟨zS s.at_ h1,zS s.dc h2,s.nd,s.few⟩
 cases a with
 |@row l row h1 h2 e=>
  refine zD (zCg (zQ (zA (ze (zd rfl (ze (w_c (zx (zBy e ⟨_,rfl,fun _=>?_,fun hb=>(by cases hb)⟩)))))))));refine zHf (z4n (zd rfl ⟨_,_,rfl,e,zWo e ?_⟩));have e':(μ.set l (LObj.lst []))[l]?=some (.lst []):=zRo e;refine zD (zCg (zQ (zA (ze (zd rfl (ze (w_c (zx (zko (c := .tup) (t := .lst) (by simp[e']) ⟨_,rfl,fun hb=>(by cases hb),fun _=>zwb ?_⟩)))))))));exact tail [l] _ (fun i hi=>by rw[List.mem_singleton.mp hi];exact⟨h1,h2,_,e⟩) (KB.refl.set (.inl (by simp))) (ne e)
 |str _=>exact none_ .str rfl rfl rfl
 |@full l V h1 h2 e=>
  refine zD (zCg (zQ (zA (ze (zd rfl (ze (w_c (zx (zko (c := .lst) (t := .tup) rfl ⟨_,rfl,fun hb=>(by cases hb),fun _=>zwb ?_⟩)))))))));refine zD (zCg (zQ (zA (ze (zd rfl (ze (w_c (zx (zko (c := .tup) (t := .tup) rfl ⟨_,rfl,fun _=>?_,fun hb=>(by cases hb)⟩)))))))));refine zHf (z4n (zt (zd rfl (w_c (z5b rfl rfl ⟨_,_,rfl,e,zWo e ?_⟩)))));exact tail [l] _ (fun i hi=>by rw[List.mem_singleton.mp hi];exact⟨h1,h2,_,e⟩) (KB.refl.set (.inl (by simp))) (ne e)
 |int=>exact none_ .int rfl rfl rfl
 |non=>exact none_ .non rfl rfl rfl
end
abbrev l7:List D:=[.str "put", .str "put", .str "put", .str "put", .str "out", .str "out", .str "put"]
def pick7:∀v:Nat,v<7->atI l7 (v:Int)=some (.str "put")\/atI l7 (v:Int)=some (.str "out")
 |0,_ => .inl (zW (j:=0) rfl)
 |1,_ => .inl (zW (j:=1) rfl)
 |2,_ => .inl (zW (j:=2) rfl)
 |3,_ => .inl (zW (j:=3) rfl)
 |4,_ => .inr (zW (j:=4) rfl)
 |5,_ => .inr (zW (j:=5) rfl)
 |6,_ => .inl (zW (j:=6) rfl)
 |v+7,h=>absurd h (by omega)
def zxq{ns:List Int}(hp:PenC ns μ l B)(hB:B<=90000)
 (q1:∀(k:Nat)(μ':Mem),k<20->KB [l] μ μ'->PenC ns μ' l (B+31)->Q (.tup [.str "put", .int (k:Nat)]) μ')
 (q2:∀(k:Nat)(μ':Mem),k<20->KB [l] μ μ'->PenC ns μ' l (B+31)->Q (.tup [.str "out", .int (k:Nat)]) μ')
 (q3:∀(R:List Nat)(ts:List (Nat×Nat)) (μ':Mem),Rl R ts->KB [l] μ μ'->PenC ns μ' l (B+31)->Q (.tup [.str "renew",rlN R ts]) μ'):WF zce [.loc l] μ Q:=by
 refine zRb rfl ?_;show WS z6d [some (.loc l),none] μ _ _ _ _;unfold z6d;refine zD (zhb (zA (ze (zd rfl (ze (w_c (zx (zoc (s:=8) hp (by omega) (by decide) (by decide) fun v1 μ1 b1 k1 p1=>?_))))))));refine zD (zCg (zQ (zt (zd rfl (w_c (zPi ⟨_,rfl,fun _=>?_,fun hb=>zwb ?_⟩))))))
 ·exact zzb (zPf (ze (w_c (ze (zA (ze (zd rfl (zx (zIg p1 (by omega) fun R ts μ2 hr k2 p2=>zx (q3 R ts μ2 hr (k1.trans k2) p2))))))))))
 ·have hv:v1<7:=by
   have:¬((v1:Nat):Int)=7:=by
    intro e;rw[e]at hb;cases hb
   omega
  refine zzb (zPf (ze (zt (zBh (ze (w_c (ze (w_c (ze (w_c (ze (w_c (ze (w_c (ze (w_c (ze (w_c (zx (zd rfl ?_))))))))))))))))))));rcases pick7 v1 hv with e | e
  ·refine z5b (zE zC) e (ze (zA (ze (zd rfl (ze (w_c (zx (zoc (s:=20) p1.app (by omega) (by decide) (by decide) fun v2 μ2 b2 k2 p2=>zx ?_))))))));exact q1 v2 μ2 b2 ((k1.app).trans k2) (p2.up (by omega))
  ·refine z5b (zE zC) e (ze (zA (ze (zd rfl (ze (w_c (zx (zoc (s:=20) p1.app (by omega) (by decide) (by decide) fun v2 μ2 b2 k2 p2=>zx ?_))))))));exact q2 v2 μ2 b2 ((k1.app).trans k2) (p2.up (by omega))
structure One(μ:Mem)(n m:Nat)(R:List Nat)(ts kvs:List (Nat×Nat)):Prop where
 rl:Rl R ts
 sh:Sh μ n m (rlN R ts) kvs
 bd:∀x∈kvs.map (·.1),x<10^60
section
variable {μ μ':Mem}{n m k:Nat}{R:List Nat}{ts kvs:List (Nat×Nat)}{S:List Nat}
def One.keep(o:One μ n m R ts kvs)(k:Keep μ μ'):One μ' n m R ts kvs:=⟨o.rl,o.sh.keep k,o.bd⟩
def One.kb{L:List Nat}(o:One μ n m R ts kvs)(k:KB L μ μ')(h1:n∉L)(h2:m∉L):One μ' n m R ts kvs:=⟨o.rl,⟨k.at_ _ _ h1 o.sh.at_,k.at_ _ _ h2 o.sh.dc,o.sh.nd,o.sh.few⟩,o.bd⟩
def One.notlst(o:One μ n m R ts kvs){x:Nat}{ds:List D}(e:μ[x]?=some (.lst ds)):n≠x/\m≠x:=by
 constructor
 ·rintro rfl;have:=o.sh.at_;rw[e]at this;cases this
 ·rintro rfl;have:=o.sh.dc;rw[e]at this;cases this
def One.key(o:One μ n m R ts kvs)(K:Keys kvs S):∀x∈S,x<10^60:=fun x hx=>o.bd x (K.pm.mem_iff.mp hx)
def zco{x:Nat}(h:x∈kvs.map (·.1)):(kvs.lookup x).isSome=true:=by
 cases e:kvs.lookup x with
 |some v=>rfl
 |none=>
  rw[List.lookup_eq_none_iff]at e;obtain⟨p,hp,rfl⟩:=List.mem_map.mp h;exact absurd (e p hp) (by simp)
def zHt:(zAv kvs k).lookup k=none:=by
 rw[List.lookup_eq_none_iff];intro p hp;apply bne_iff_ne.mpr;rintro rfl;have:=(List.mem_filter.mp hp).2;simp at this
def zpn(dd:D)(μ:Mem)(n m:Nat):Prop:=∀Q:D->Mem->Prop,(∀(d:D)(μ2:Mem)(R':List Nat)(ts' kvs':List (Nat×Nat)),KB [n,m] μ μ2->One μ2 n m R' ts' kvs'->Ans μ2 μ.length μ2.length d->(∀(μ3:Mem)(Q3:D->Mem->Prop),Keep μ2 μ3->Q3 (.bl true) μ3->WF z8 [.loc n,dd,d] μ3 Q3)->Q d μ2)->WF z8b [.loc n,dd] μ Q
def kb2{μ:Mem}(k:KB [m] μ μ'):KB [n,m] μ μ':=k.sub fun i hi => .inl (by rw[List.mem_singleton.mp hi];simp)
def z1t(o:One μ n m R ts kvs)(hk:k<20):zpn (.tup [.str "put", .int (k:Nat)]) μ n m:=fun Q q=>by
 obtain⟨S,K⟩:=Keys.ex o.sh.nd;have ht:yI (.str ("twice":Str)) (.str ("twice":Str))=true:=by decide +kernel
 have hk60:k<10^60:=by omega
 refine zru o.rl o.sh K (o.key K) hk60 (fun v e=>?_) (fun V l μ1 e k1 g1 e1=>?_) fun row lr μ1 c k1 g1 e1 s1=>?_
 ·refine q _ _ R ts kvs .refl o (.str (by decide +kernel)) fun μ3 Q3 k3 q3=>?_;exact zXf true (o.sh.keep k3) (by rw[e];rfl) ⟨_,z1l (by decide +kernel), .inl ⟨ht,rfl⟩⟩ q3
 ·refine q _ _ R ts kvs (KB.of_keep k1) (o.keep k1) (.full g1 (zG e1) e1) fun μ3 Q3 k3 q3=>?_;exact zXf false ((o.sh.keep k1).keep k3) (by rw[e];rfl) ⟨_,z5t (k3 _ _ e1), .inr ⟨rfl, .tup,rfl,rfl⟩⟩ q3
 ·have hkey:∀{x:Nat},x∈(zEg kvs (zJo (S++[k]) row)).map (·.1)↔x∈S\/x=k:=fun{x}=>z6l K c.1;refine q _ _ R ts _ (kb2 k1) ⟨o.rl,s1,fun x hx=>?_⟩ (.row g1 (zG e1) e1) fun μ3 Q3 k3 q3=>?_
  ·rcases hkey.mp hx with hx | rfl
   ·exact o.key K x hx
   ·exact hk60
  ·exact zXf true (s1.keep k3) (zco (hkey.mpr (.inr rfl))) ⟨_,zsw (k3 _ _ e1), .inr ⟨rfl, .lst,by simp[k3 _ _ e1],rfl⟩⟩ q3
def zvu(o:One μ n m R ts kvs):zpn (.tup [.str "out", .int (k:Nat)]) μ n m:=fun Q q=>by
 refine zLu o.sh (fun e=>?_) fun v μ1 k1 s1=>?_
 ·exact q _ _ R ts kvs .refl o (.str (by decide +kernel)) fun μ3 Q3 k3 q3=>zqi (o.sh.keep k3) e q3
 ·exact q _ _ R ts _ (kb2 k1) ⟨o.rl,s1,fun x hx=>o.bd x ((List.filter_sublist.map _).subset hx)⟩ .int fun μ3 Q3 k3 q3=>zqi (s1.keep k3) zHt q3
def zsq(o:One μ n m R ts kvs)(h:Rl R' ts'):zpn (.tup [.str "renew",rlN R' ts']) μ n m:=fun Q q=>by
 obtain⟨S,K⟩:=Keys.ex o.sh.nd;refine zDu h o.sh K (o.key K) (fun V l μ1 k1 g1 e1=>?_) fun hs μ1 hl k1 s1=>?_
 ·exact q _ _ R ts kvs (KB.of_keep k1) (o.keep k1) (.full g1 (zG e1) e1) fun μ3 Q3 k3 q3=>zwg ((o.sh.keep k1).keep k3) (.inr ⟨_,rfl⟩) q3
 ·refine q _ _ R' ts' _ k1 ⟨h,s1,fun x hx=>?_⟩ .non fun μ3 Q3 k3 q3=>zwg (s1.keep k3) (.inl ⟨rfl,rfl,rfl⟩) q3;rcases(zLl _ _ x).mp hx with hx | hx
  ·exact o.bd x hx
  ·obtain⟨p,hp,rfl⟩:=List.mem_map.mp hx;exact o.key K _ (of_mem_zip hp).1
end
def zjw:FS:=(zY (zyc 7 (zB zfb (zf (zH gIx (zm 3) (zH zlq (fC (.int 1)) (zm 5))) zJ))) (zY (zyc 8 (zB z8b (zf (zH gIx (zm 3) (zm 5)) (zf (zm 6) zJ)))) (zY (zyc 9 (zB zfb (zf (zH gIx (zm 3) (zm 5)) zJ))) (zY (sIf (zAq (z5 (zB z8 (zf (zH gIx (zm 3) (zm 5)) (zf (zm 6) (zf (zm 8) zJ)))))) (zCc (fC (.bl false))) zZb) (zY (zLd (zB znd (zf (zH gIx (zm 3) (zm 5)) (zf (zm 8) zJ)))) (sIf (zov (z5 (zH gNe (zB zfb (zf (zH gIx (zm 3) (zm 5)) zJ)) (zm 9))) (z5 (zH gNe (zB zfb (zf (zH gIx (zm 3) (zH zlq (fC (.int 1)) (zm 5))) zJ)) (zm 7)))) (zCc (fC (.bl false))) zZb))))))
def z3r{v bl n0 n1 na ma nb mb:Nat}{dd:D}{Ra Rb:List Nat}{tsa kvsa tsb kvsb:List (Nat×Nat)}{x0 x1 x2 x4 x7 x8 x9 x10:Option D}{bk ct:M.Loc->Mem->Prop}
 (oa:One μ na ma Ra tsa kvsa) (ob:One μ nb mb Rb tsb kvsb) (hn:na≠nb) (hm:ma≠mb) (hb:μ[bl]?=some (.lst [.loc n0, .loc n1])) (ea:atI [D.loc n0, .loc n1] (v:Int)=some (.loc na)) (eb:atI [D.loc n0, .loc n1] (1-(v:Int))=some (.loc nb)) (hd:∀μ1,Keep μ μ1->zpn dd μ1 na ma)
 (q:∀(y7 y8 y9:Option D)(R':List Nat)(ts' kvs':List (Nat×Nat)) (μ':Mem),One μ' na ma R' ts' kvs'->One μ' nb mb Rb tsb kvsb->(∀i o,i≠na->i≠ma->μ[i]?=some o->μ'[i]?=some o)->nx [x0,x1,x2,some (.loc bl),x4,some (.int (v:Nat)),some dd,y7,y8,y9,x10] μ') :
 WS zjw [x0,x1,x2,some (.loc bl),x4,some (.int (v:Nat)),some dd,x7,x8,x9,x10] μ nx rt bk ct:=by
 obtain⟨Sb,Kb⟩:=Keys.ex ob.sh.nd
 have hnm:na≠mb:=by
  rintro rfl;have:=oa.sh.at_;rw[ob.sh.dc]at this;cases this
 have hmn:ma≠nb:=by
  rintro rfl;have:=oa.sh.dc;rw[ob.sh.at_]at this;cases this
 unfold zjw;refine zD (zhb (zA (ze (zt (zd rfl (zt (w_c (zd rfl (zKr (z5b (zE hb) eb (zx (zxh ob.rl ob.sh Kb fun d7 μ1 k1 st7=>?_))))))))))));refine zD (zhb (zA (ze (zt (zd rfl (zd rfl (z5b (zE (k1 _ _ hb)) ea (ze (zd rfl (zx (hd μ1 k1 _ fun d μ2 R' ts' kvs' k2 o2 an ha=>?_)))))))))));have oa1:=oa.keep k1;have ob1:=ob.keep k1
 have nl:∀x ds,μ1[x]?=some (.lst ds)->x∉[na,ma]:=fun x ds e hx=>by
  have:=oa1.notlst e;simp only[mem_cons,not_mem_nil,or_false]at hx;rcases hx with rfl | rfl
  ·exact this.1 rfl
  ·exact this.2 rfl
 have hb2:=k2.at_ _ _ (nl _ _ (k1 _ _ hb)) (k1 _ _ hb);have ob2:One μ2 nb mb Rb tsb kvsb:=ob1.kb k2 (by simp;exact⟨yF hn,yF hmn⟩) (by simp;exact⟨yF hnm,yF hm⟩);have st2:=st7.kb k2 fun i hi _ _ ds e=>nl i ds e hi;obtain⟨Sa,Ka⟩:=Keys.ex o2.sh.nd;refine zD (zhb (zA (ze (zt (zd rfl (zd rfl (z5b (zE hb2) ea (zx (zxh o2.rl o2.sh Ka fun d9 μ3 k3 st9=>?_)))))))));have hb3:=k3 _ _ hb2;refine zD (zCg (zfp (zQ (zA (ze (zt (zd rfl (zd rfl (z5b (zE hb3) ea (ze (zd rfl (ze (zd rfl (zx (ha μ3 _ k3 ⟨_,rfl,fun hb=>(by cases hb),fun _=>zwb ?_⟩)))))))))))))));refine zD (zHf (zA (ze (zt (zd rfl (zd rfl (z5b (zE hb3) ea (ze (zd rfl (zx (zpu o2.rl (o2.sh.keep k3) Ka (an.keep k3) fun L μ4 hL k4=>?_)))))))))));have low:∀x o,x<μ1.length->μ3[x]?=some o->μ4[x]?=some o:=fun x o hx e=>k4.at_ _ _ (fun hm=>by have:=(hL x hm).1;omega) e;have l1:∀{x o},μ1[x]?=some o->x<μ1.length:=fun e=>zG e;have oa4:One μ4 na ma R' ts' kvs':=⟨o2.rl,⟨low _ _ (l1 oa1.sh.at_) (k3 _ _ o2.sh.at_),low _ _ (l1 oa1.sh.dc) (k3 _ _ o2.sh.dc),o2.sh.nd,o2.sh.few⟩,o2.bd⟩
 have ob4:One μ4 nb mb Rb tsb kvsb:=⟨ob.rl,⟨low _ _ (l1 ob1.sh.at_) (k3 _ _ ob2.sh.at_),low _ _ (l1 ob1.sh.dc) (k3 _ _ ob2.sh.dc),ob2.sh.nd,ob2.sh.few⟩,ob.bd⟩
 have hb4:=low _ _ (l1 (k1 _ _ hb)) hb3;have st9':=st9.kb k4 fun i hi h1 _ ds _=>by have:=(hL i hi).2.1;omega
 have st7':=(st2.keep k3).kb k4 fun i hi _ h2 ds _=>by have:=(hL i hi).1;omega
 refine zCg (zdq (zQ (zt (zA (ze (zt (zd rfl (zd rfl (z5b (zE hb4) ea (zx (zxh oa4.rl oa4.sh Ka fun d5 μ5 k5 st5=>zd rfl (zKx (zdg st5) (zdg (st9'.keep k5)) ⟨_,rfl,fun _=>?_,fun hb=>(by cases hb)⟩))))))))))));have ob5:=ob4.keep k5;refine zQ (zt (zA (ze (zt (zd rfl (zt (w_c (zd rfl (zKr (z5b (zE (k5 _ _ hb4)) eb (zx (zxh ob5.rl ob5.sh Kb fun d6 μ6 k6 st6=>zd rfl (zKx (zdg st6) (zdg ((st7'.keep k5).keep k6)) ⟨_,rfl,fun hb=>(by cases hb),fun _=>zwb ?_⟩)))))))))))));refine q _ _ _ R' ts' kvs' μ6 ((oa4.keep k5).keep k6) (ob5.keep k6) fun i o h1 h2 e=>k6 _ _ (k5 _ _ (low _ _ (l1 (k1 _ _ e)) (k3 _ _ (k2.at_ _ _ ?_ (k1 _ _ e)))));simp;exact⟨h1,h2⟩
structure Two(ns:List Int)(μ:Mem)(pl rl bl B n0 m0 n1 m1:Nat)(r0 r1:D):Prop where
 a:∃R ts kvs,One μ n0 m0 R ts kvs
 b:∃R ts kvs,One μ n1 m1 R ts kvs
 pn:PenC ns μ pl B
 ru:μ[rl]?=some (.lst [r0,r1])
 bo:μ[bl]?=some (.lst [.loc n0, .loc n1])
 nn:n0≠n1
 mm:m0≠m1
 p1:pl≠rl
 p2:pl≠bl
section
variable {ns:List Int}{μ μ':Mem}{pl rl bl B B' n0 m0 n1 m1:Nat}{r0 r1:D}
def Two.take(t:Two ns μ pl rl bl B n0 m0 n1 m1 r0 r1)(k:KB [pl] μ μ')(p:PenC ns μ' pl B'):Two ns μ' pl rl bl B' n0 m0 n1 m1 r0 r1:=by
 obtain⟨R,ts,kvs,a⟩:=t.a;obtain⟨R1,ts1,kvs1,b⟩:=t.b;obtain⟨c,j,r,_,e⟩:=t.pn;have ha:=a.notlst e;have hb:=b.notlst e;exact⟨⟨R,ts,kvs,a.kb k (by simp;exact ha.1) (by simp;exact ha.2)⟩,⟨R1,ts1,kvs1,b.kb k (by simp;exact hb.1) (by simp;exact hb.2)⟩,p,k.at_ _ _ (nin1 t.p1) t.ru,k.at_ _ _ (nin1 t.p2) t.bo,t.nn,t.mm,t.p1,t.p2⟩
variable {x0 x4 x5 x6 x7 x8 x9 x10:Option D}{nx:M.Loc->Mem->Prop}{rt:D->Mem->Prop}{bk ct:M.Loc->Mem->Prop}
def zEs{v:Nat}{dd:D}(hv:v<2)(t:Two ns μ pl rl bl B n0 m0 n1 m1 r0 r1)(hd:∀n m R ts kvs μ1,One μ1 n m R ts kvs->zpn dd μ1 n m)
 (q:∀(y7 y8 y9:Option D)(μ':Mem),Two ns μ' pl rl bl B n0 m0 n1 m1 r0 r1->nx [x0,some (.loc pl),some (.loc rl),some (.loc bl),x4,some (.int (v:Nat)),some dd,y7,y8,y9,x10] μ') :
 WS zjw [x0,some (.loc pl),some (.loc rl),some (.loc bl),x4,some (.int (v:Nat)),some dd,x7,x8,x9,x10] μ nx rt bk ct:=by
 obtain⟨R,ts,kvs,a⟩:=t.a;obtain⟨R1,ts1,kvs1,b⟩:=t.b;obtain⟨c,j,r,hj,ep⟩:=t.pn;have a1:=a.notlst ep;have b1:=b.notlst ep;have a2:=a.notlst t.ru;have b2:=b.notlst t.ru;have a3:=a.notlst t.bo;have b3:=b.notlst t.bo
 match v,hv with
 |0,_=>exact z3r a b t.nn t.mm t.bo (zW (j:=0) rfl) (zW (j:=1) rfl) (fun μ1 k1=>hd _ _ _ _ _ _ (a.keep k1)) fun y7 y8 y9 R' ts' kvs' μ' oa ob kp=>q y7 y8 y9 μ' ⟨⟨_,_,_,oa⟩,⟨_,_,_,ob⟩,⟨c,j,r,hj,kp _ _ (yF a1.1) (yF a1.2) ep⟩,kp _ _ (yF a2.1) (yF a2.2) t.ru,kp _ _ (yF a3.1) (yF a3.2) t.bo,t.nn,t.mm,t.p1,t.p2⟩
 |1,_=>exact z3r b a (yF t.nn) (yF t.mm) t.bo (zW (j:=1) rfl) (zW (j:=0) rfl) (fun μ1 k1=>hd _ _ _ _ _ _ (b.keep k1)) fun y7 y8 y9 R' ts' kvs' μ' oa ob kp=>q y7 y8 y9 μ' ⟨⟨_,_,_,ob⟩,⟨_,_,_,oa⟩,⟨c,j,r,hj,kp _ _ (yF b1.1) (yF b1.2) ep⟩,kp _ _ (yF b2.1) (yF b2.2) t.ru,kp _ _ (yF b3.1) (yF b3.2) t.bo,t.nn,t.mm,t.p1,t.p2⟩
 |v+2,h=>exact absurd h (by omega)
def zYt(t:Two ns μ pl rl bl B n0 m0 n1 m1 r0 r1)(hB:B<=10000)
 (q:∀(y5 y6 y7 y8 y9:Option D)(μ':Mem),Two ns μ' pl rl bl (B+32) n0 m0 n1 m1 r0 r1->nx [x0,some (.loc pl),some (.loc rl),some (.loc bl),x4,y5,y6,y7,y8,y9,x10] μ') :
 WS znm [x0,some (.loc pl),some (.loc rl),some (.loc bl),x4,x5,x6,x7,x8,x9,x10] μ nx rt bk ct:=by
 unfold znm;refine zD (zhb (zA (ze (zd rfl (ze (w_c (zx (zoc (s:=2) t.pn (by omega) (by decide) (by decide) fun v μ1 hv k1 p1=>?_))))))));have t1:=t.take k1 p1;refine zD (zhb (zA (ze (zd rfl (zx (zxq p1 (by omega) (fun k μ2 hk k2 p2=>?_) (fun k μ2 hk k2 p2=>?_) fun R ts μ2 hr k2 p2=>?_))))))
 ·exact zEs hv (t1.take k2 p2) (fun n m R ts kvs μ1 o=>z1t o hk) fun y7 y8 y9 μ3 t3=>q _ _ y7 y8 y9 μ3 t3
 ·exact zEs hv (t1.take k2 p2) (fun n m R ts kvs μ1 o=>zvu o) fun y7 y8 y9 μ3 t3=>q _ _ y7 y8 y9 μ3 t3
 ·exact zEs hv (t1.take k2 p2) (fun n m R' ts' kvs μ1 o=>zsq o hr) fun y7 y8 y9 μ3 t3=>q _ _ y7 y8 y9 μ3 t3
end
def zXo{ψ:FA}(h:WA ψ δ μ fun ds μ1=>∃r,ds=[r]/\∀n m μ',Keep μ1 μ'->μ1.length<=n->μ1.length<=m->n<μ'.length->m<μ'.length->Sh μ' n m r []->Q (.loc n) μ'):WE (z2j "Shelf" zV ψ) δ μ Q:=by
 obtain⟨ds,μ1,e,r,rfl,q⟩:=h;refine zJy ⟨_,μ1,e,z1v zC ⟨rfl,?_⟩⟩;refine q μ1.length (μ1++[LObj.ins "Shelf" []]).length _ (fun i o ei=>?_) (yh _) (by simp) (by simp) (by simp) zUy;exact Keep.app _ _ (zS (Keep.app _ _ ei) (yO (zG ei)))
def z7t(R:List Nat):zrk R []=R.map fun(k:Nat)=>(k:Int):=by
 unfold zrk;refine ext_getElem? fun i=>?_;rw[yn,yn]
 by_cases hi:i<R.length
 ·rw[List.getElem?_range hi,yM hi];simp[hi]
 ·rw[Yx (by simp;omega),Yx (by omega)];rfl
def zBu(ns:List Int)(_hn:ns.length<=63):∃μ',zaq [.fz (ns.map .int)] []=some (.bl true,μ'):=by
 have main:WF zaq [.fz (ns.map .int)] [] fun d _=>d = .bl true:=by
  refine zRb rfl ?_;show WS zot [some (.fz (ns.map .int)),none,none,none,none,none,none,none,none,none,none] [] _ _ _ _;unfold zot;refine zD (zhb (zA (ze (zd rfl (zx (zuw fun μ1 k1 p1 _=>?_))))));generalize ([]:Mem).length=pl at p1;refine zD (zhb (zBh (ze (zA (ze (zd rfl (zx (zIg p1 (by omega) fun R0 ts0 μ2 hr0 k2 p2=>?_))))))));refine ze (zA (ze (zd rfl (zx (zIg p2 (by omega) fun R1 ts1 μ3 hr1 k3 p3=>zx ?_)))));have ru:(μ3++[LObj.lst [rlN R0 ts0,rlN R1 ts1]])[μ3.length]?=some (.lst [rlN R0 ts0,rlN R1 ts1]):=zC;have p4:=p3.app (g:=[LObj.lst [rlN R0 ts0,rlN R1 ts1]]);have hpr:pl≠μ3.length:=yw p3.lt;generalize μ3++[LObj.lst [rlN R0 ts0,rlN R1 ts1]]=μ4 at ru p4;generalize μ3.length=rl at ru hpr
  have rest:∀(R1:List Nat)(ts1:List (Nat×Nat)) (μ5:Mem),Rl R1 ts1->PenC ns μ5 pl 61->μ5[rl]?=some (.lst [rlN R0 ts0,rlN R1 ts1])->WS (zY (zyc 3 (zBk (zf (z2j "Shelf" zV (zf (zH gIx (zm 2) (fC (.int 0))) zJ)) (zf (z2j "Shelf" zV (zf (zH gIx (zm 2) (fC (.int 1))) zJ)) zJ)))) (zY (z8l (zBg (zf (zB zL (zf (zm 1) (zf (fC (.int 25)) zJ))) zJ)) (gN 4) znm) (zY (zyc 10 (z2j "Shelf" zV (zf (zH gIx (zm 2) (fC (.int 0))) zJ))) (zCc (zWy (zH gEq (zB zz (znb "Shelf" "all_there" (zm 10) zJ)) (zBk zJ)) (zH gEq (zB z9 (znb "Shelf" "left" (zm 10) zJ)) (zB zso (zf (zH gIx (zH gIx (zm 2) (fC (.int 0))) (fC (.int 0))) zJ)))))))) [some (.fz (ns.map .int)),some (.loc pl),some (.loc rl),none,none,none,none,none,none,none,none] μ5 (fun _ μ'=>(fun d _=>d=D.bl true) .non μ') (fun d _=>d = .bl true) (fun _ _=>False) (fun _ _=>False):=fun R1 ts1 μ5 hr1 p5 ru5=>by
   refine zD (zhb (zBh (ze (zXo (ze (zt (zd rfl (w_c (z5b (zE ru5) (zW (j:=0) rfl) (zx ⟨_,rfl,fun n0 m0 μ6 k6 _ _ g0 g0' s0=>?_⟩))))))))));refine ze (zXo (ze (zt (zd rfl (w_c (z5b (zE (k6 _ _ ru5)) (zW (j:=1) rfl) (zx ⟨_,rfl,fun n1 m1 μ7 k7 g1 g1' _ _ s1=>zx ?_⟩)))))));have t8:Two ns (μ7++[LObj.lst [.loc n0, .loc n1]]) pl rl μ7.length 61 n0 m0 n1 m1 (rlN R0 ts0) (rlN R1 ts1):=⟨⟨R0,ts0,[],hr0,(s0.keep k7).keep Keep.app,by simp⟩,⟨R1,ts1,[],hr1,s1.keep Keep.app,by simp⟩,(p5.keep (k6.trans k7)).app,Keep.app _ _ (k7 _ _ (k6 _ _ ru5)),zC,by omega,by omega,hpr,yw (p5.keep (k6.trans k7)).lt⟩
   generalize μ7++[LObj.lst [.loc n0, .loc n1]]=μ8 at t8;generalize μ7.length=bl at t8;refine zD (zmi (zHj (ze (zA (ze (zd rfl (ze (w_c (zx (zoc (s:=25) t8.pn (by omega) (by decide) (by decide) fun v μ9 hv k9 p9=>zx ⟨_,rfl,by omega,by omega,?_⟩))))))))));rw[Ys];have t9:=t8.take k9 p9;refine z7c (fun i δ μ=>∃(x4 x5 x6 x7 x8 x9:Option D),δ=[some (.fz (ns.map .int)),some (.loc pl),some (.loc rl),some (.loc bl),x4,x5,x6,x7,x8,x9,none]/\Two ns μ pl rl bl (62+32*i) n0 m0 n1 m1 (rlN R0 ts0) (rlN R1 ts1)) ⟨_,_,_,_,_,_,rfl,t9⟩ (fun _ _ _ _=>rfl) ?_ ?_
   ·rintro i x δ μ hx ⟨x4,x5,x6,x7,x8,x9,rfl,t⟩;obtain⟨hi,rfl⟩:=z8i hx;refine zdf ?_;exact zYt t (by omega) fun y5 y6 y7 y8 y9 μ' t'=>⟨_,_,_,_,_,_,rfl,t'⟩
   ·rintro δ μ ⟨x4,x5,x6,x7,x8,x9,rfl,t⟩;have ruE:=t.ru;refine zD (zhb (zXo (ze (zt (zd rfl (w_c (z5b (zE ruE) (zW (j:=0) rfl) (zx ⟨_,rfl,fun n m μA kA _ _ _ _ sA=>?_⟩))))))));have KA:Keys [] []:=⟨List.Perm.refl _,List.Pairwise.nil⟩
    refine zzb (zzx (zt (zA (zSb (zd rfl ⟨n,_,rfl,sA.at_,z2d _ m,zx (zbc sA KA (zBh (zx (zkw (α:=Nat) [] [] (Keep.app _ _ zC) zC ⟨_,rfl,fun _=>?_,fun hb=>(by cases hb)⟩))))⟩)))));have kB:Keep μA ((μA++[LObj.lst (nat [])])++[LObj.lst []]):=Keep.app.trans Keep.app;have sB:=sA.keep kB;refine zt (zA (zSb (zd rfl ⟨n,_,rfl,sB.at_,zWg _ m,zx (zhh hr0 sB KA fun l2 μC kC gC eC=>?_)⟩)));have ruC:=kC _ _ (kB _ _ (kA _ _ ruE));refine zA (ze (zt (zt (zd rfl (w_c (z5b (zE ruC) (zW (j:=0) rfl) (w_c (z5b rfl (zW (j:=0) rfl) (zx (zcp rfl ?_))))))))));rw[map_nil,z7t]at eC;refine zkw (α:=Int) (R0.map fun(k:Nat)=>(k:Int)) (R0.map fun(k:Nat)=>(k:Int)) (Keep.app _ _ eC) (by rw[zC,map_map];rfl) ?_;rw[decide_eq_true rfl]
  refine zD (zCg (zQ (zt (zA (ze (zd rfl (ze (w_c (zx (zoc (s:=2) p4 (by omega) (by decide) (by decide) fun v μ5 hv k5 p5=>w_c (zPi ⟨_,rfl,fun _=>?_,fun _=>zwb ?_⟩)))))))))))
  ·have ru5:=k5.at_ _ _ (nin1 hpr) ru;refine zOh (zt (zd rfl (w_c (z5b (zE ru5) (zW (j:=0) rfl) (zOu (zd rfl (w_c ⟨_,_,_,rfl,rfl,ru5,⟨by omega,by simp⟩,?_⟩)))))));exact rest R0 ts0 _ hr0 (p5.set (yF hpr)) (zRo ru5)
  ·exact rest R1 ts1 _ hr1 p5 (k5.at_ _ _ (nin1 hpr) ru)
 obtain⟨d,μ',e,rfl⟩:=main;exact⟨μ',e⟩
end P
namespace P
open PySem PySem.Spec PyProof.Rows L2 M
set_option maxHeartbeats 4000000
def ln1{α:Type}:∀{us:List α},us.length=1->∃a0,us=[a0]
 |[a0],_=>⟨a0,rfl⟩
def fa1{K:yr}{mg:Str->Option Value}{h:yT}{x p0:Str}{st:Stmt}{f:Addr}{fd:yf}(X:K.In h)(G:h.Ns yj mg)(a:Yg K yj x=some (some (.ref f)))(u:Fun K x x st f fd)
 (b:∀(kV doc pm:Value)(an:Option Addr)(cdv ct a0:Value),bindArgs (W.fnOf x x (zqd st) (zGc st) (zy st) .none kV doc pm an cdv ct) ⟨[a0],[]⟩=pure [(p0,a0)]):FnAt K mg x st [p0] f fd :=
 ⟨u,xu X G a,u.binds fun kV doc pm an cdv ct us hl=>by obtain⟨a0,rfl⟩:=ln1 hl;exact b kV doc pm an cdv ct a0⟩
def ln2{α:Type}:∀{us:List α},us.length=2->∃a0 a1,us=[a0,a1]
 |[a0,a1],_=>⟨a0,a1,rfl⟩
def fa2{K:yr}{mg:Str->Option Value}{h:yT}{x p0 p1:Str}{st:Stmt}{f:Addr}{fd:yf}(X:K.In h)(G:h.Ns yj mg)(a:Yg K yj x=some (some (.ref f)))(u:Fun K x x st f fd)
 (b:∀(kV doc pm:Value)(an:Option Addr)(cdv ct a0 a1:Value),bindArgs (W.fnOf x x (zqd st) (zGc st) (zy st) .none kV doc pm an cdv ct) ⟨[a0,a1],[]⟩=pure [(p0,a0),(p1,a1)]):FnAt K mg x st [p0,p1] f fd :=
 ⟨u,xu X G a,u.binds fun kV doc pm an cdv ct us hl=>by obtain⟨a0,a1,rfl⟩:=ln2 hl;exact b kV doc pm an cdv ct a0 a1⟩
def ln3{α:Type}:∀{us:List α},us.length=3->∃a0 a1 a2,us=[a0,a1,a2]
 |[a0,a1,a2],_=>⟨a0,a1,a2,rfl⟩
def fa3{K:yr}{mg:Str->Option Value}{h:yT}{x p0 p1 p2:Str}{st:Stmt}{f:Addr}{fd:yf}(X:K.In h)(G:h.Ns yj mg)(a:Yg K yj x=some (some (.ref f)))(u:Fun K x x st f fd)
 (b:∀(kV doc pm:Value)(an:Option Addr)(cdv ct a0 a1 a2:Value),bindArgs (W.fnOf x x (zqd st) (zGc st) (zy st) .none kV doc pm an cdv ct) ⟨[a0,a1,a2],[]⟩=pure [(p0,a0),(p1,a1),(p2,a2)]):FnAt K mg x st [p0,p1,p2] f fd :=
 ⟨u,xu X G a,u.binds fun kV doc pm an cdv ct us hl=>by obtain⟨a0,a1,a2,rfl⟩:=ln3 hl;exact b kV doc pm an cdv ct a0 a1 a2⟩
def ln4{α:Type}:∀{us:List α},us.length=4->∃a0 a1 a2 a3,us=[a0,a1,a2,a3]
 |[a0,a1,a2,a3],_=>⟨a0,a1,a2,a3,rfl⟩
def fa4{K:yr}{mg:Str->Option Value}{h:yT}{x p0 p1 p2 p3:Str}{st:Stmt}{f:Addr}{fd:yf}(X:K.In h)(G:h.Ns yj mg)(a:Yg K yj x=some (some (.ref f)))(u:Fun K x x st f fd)
 (b:∀(kV doc pm:Value)(an:Option Addr)(cdv ct a0 a1 a2 a3:Value),bindArgs (W.fnOf x x (zqd st) (zGc st) (zy st) .none kV doc pm an cdv ct) ⟨[a0,a1,a2,a3],[]⟩=pure [(p0,a0),(p1,a1),(p2,a2),(p3,a3)]):FnAt K mg x st [p0,p1,p2,p3] f fd :=
 ⟨u,xu X G a,u.binds fun kV doc pm an cdv ct us hl=>by obtain⟨a0,a1,a2,a3,rfl⟩:=ln4 hl;exact b kV doc pm an cdv ct a0 a1 a2 a3⟩
def all_of{l:W.OpenLaw}{w:yE}{K:yr}{h:yT}{mg:Str->Option Value}{fa:Addr}(X:K.In h)(G:h.Ns yj mg)(hfa:mg "law" = some (.ref fa))(e:Hd.obs K=Hd.good)
 : ∃fd:yf,(∀(s:yc)(v:Value),BindsTo s fd ⟨[v],[]⟩ [("_law_script",v)])/\∀base:yT,K.In base->base.Ns yj mg->FnOk l.prog w K mg base CX0 9 fa fd ["_law_script"] (spM K 1 zaq):=by
 have e_fn:=congrArg (·.1) e;have e_vv:=congrArg (·.2.1) e;have e_it:=congrArg (·.2.2.1) e;have e_bb:=congrArg (·.2.2.2.1) e;have e_ob:=congrArg (·.2.2.2.2.1) e;have e_ov:=congrArg (·.2.2.2.2.2.1) e;have e_cf:=congrArg (·.2.2.2.2.2.2.1) e;have e_ex:=congrArg (·.2.2.2.2.2.2.2) e;obtain⟨⟨_,_,a0,u0⟩,e_fn⟩:=fnc e_fn;have zkg:FnAt K mg "_law_pen" zcg zbd _ _:=fa1 X G a0 u0 fun _ _ _ _ _ _ _=>rfl;obtain⟨pn_Shelf,e_vv⟩:=yb e_vv;obtain⟨pg_Shelf,e_bb⟩:=yb e_bb;obtain⟨ph_Shelf,e_bb⟩:=yb e_bb;obtain⟨po_Shelf,e_bb⟩:=yb e_bb;obtain⟨ps0_Shelf,e_vv⟩:=yb e_vv;have cl_Shelf:Cls K 285:=⟨pg_Shelf,ph_Shelf,po_Shelf,ps0_Shelf⟩
 obtain⟨na,e_vv⟩:=yb e_vv;have fl_Shelf_nest_of:zSq K "Shelf" "nest_of":=fun C h=>by rw[pn_Shelf]at h;cases h;exact⟨cl_Shelf,na⟩
 obtain⟨na,e_vv⟩:=yb e_vv;have fl_Shelf_kept_rule:zSq K "Shelf" "kept_rule":=fun C h=>by rw[pn_Shelf]at h;cases h;exact⟨cl_Shelf,na⟩
 obtain⟨ma,e_vv⟩:=yb e_vv;obtain⟨mb,e_bb⟩:=yb e_bb;obtain⟨_,_,_,_,_,_,_,_,_,ml,mc,mk⟩:=zuc (yb e_fn).1;replace e_fn:=(yb e_fn).2;have u1:=zWd (st:=z2b) ml mc mk;obtain⟨mm,e_bb⟩:=yb e_bb;obtain⟨mq,e_bb⟩:=yb e_bb;have zAb:MakeAt K mg "Shelf" z2b zbb _ _ _:=⟨pn_Shelf,xu X G pn_Shelf,⟨mm,ma,mb,mq⟩,u1,(u1.binds (ps:=zbb) fun _ _ _ _ _ _ us hl=>by obtain⟨_,_,rfl⟩:=ln2 hl;rfl)⟩
 obtain⟨⟨_,_,a2,u2⟩,e_fn⟩:=fnc e_fn;have zge:FnAt K mg "_law_mixed" zne zqc _ _:=fa2 X G a2 u2 fun _ _ _ _ _ _ _ _=>rfl;obtain⟨⟨_,_,a3,u3⟩,e_fn⟩:=fnc e_fn;have zO:FnAt K mg "_law_take" z5c zqb _ _:=fa2 X G a3 u3 fun _ _ _ _ _ _ _ _=>rfl;obtain⟨⟨_,_,a4,u4⟩,e_fn⟩:=fnc e_fn;have zec:FnAt K mg "_law_rule" zTd zVb _ _:=fa1 X G a4 u4 fun _ _ _ _ _ _ _=>rfl;obtain⟨⟨_,_,a5,u5⟩,e_fn⟩:=fnc e_fn;have zde:FnAt K mg "_law_drawn" z8d ztc _ _:=fa1 X G a5 u5 fun _ _ _ _ _ _ _=>rfl;obtain⟨ma,e_vv⟩:=yb e_vv;obtain⟨mb,e_bb⟩:=yb e_bb;obtain⟨_,_,_,_,_,_,_,_,_,ml,mc,mk⟩:=zuc (yb e_fn).1;replace e_fn:=(yb e_fn).2;have u6:=zWd (st:=zN) ml mc mk;have zo:MethAt K "Shelf" "all_there" "Shelf.all_there" zN zw _ _ _:=⟨pn_Shelf,cl_Shelf,⟨ma,mb,mk⟩,u6,(u6.binds (ps:=zw) fun _ _ _ _ _ _ us hl=>by obtain⟨_,rfl⟩:=ln1 hl;rfl)⟩
 obtain⟨ma,e_vv⟩:=yb e_vv;obtain⟨mb,e_bb⟩:=yb e_bb;obtain⟨_,_,_,_,_,_,_,_,_,ml,mc,mk⟩:=zuc (yb e_fn).1;replace e_fn:=(yb e_fn).2;have u7:=zWd (st:=zLc) ml mc mk;have zic:MethAt K "Shelf" "nest" "Shelf.nest" zLc zmb _ _ _:=⟨pn_Shelf,cl_Shelf,⟨ma,mb,mk⟩,u7,(u7.binds (ps:=zmb) fun _ _ _ _ _ _ us hl=>by obtain⟨_,_,rfl⟩:=ln2 hl;rfl)⟩
 obtain⟨⟨_,_,a8,u8⟩,e_fn⟩:=fnc e_fn;have B_left:FnAt K mg "left" zpl zpe _ _:=fa2 X G a8 u8 fun _ _ _ _ _ _ _ _=>rfl;obtain⟨⟨_,_,a9,u9⟩,e_fn⟩:=fnc e_fn;have zBm:FnAt K mg "homes" zdm z8f _ _:=fa2 X G a9 u9 fun _ _ _ _ _ _ _ _=>rfl;obtain⟨⟨_,_,a10,u10⟩,e_fn⟩:=fnc e_fn;have zcd:FnAt K mg "web_of" z9f zBc _ _:=fa2 X G a10 u10 fun _ _ _ _ _ _ _ _=>rfl;obtain⟨ma,e_vv⟩:=yb e_vv;obtain⟨mb,e_bb⟩:=yb e_bb;obtain⟨_,_,_,_,_,_,_,_,_,ml,mc,mk⟩:=zuc (yb e_fn).1;replace e_fn:=(yb e_fn).2;have u11:=zWd (st:=z4b) ml mc mk;have zJb:MethAt K "Shelf" "laying" "Shelf.laying" z4b z6 _ _ _:=⟨pn_Shelf,cl_Shelf,⟨ma,mb,mk⟩,u11,(u11.binds (ps:=z6) fun _ _ _ _ _ _ us hl=>by obtain⟨_,rfl⟩:=ln1 hl;rfl)⟩
 obtain⟨ma,e_vv⟩:=yb e_vv;obtain⟨mb,e_bb⟩:=yb e_bb;obtain⟨_,_,_,_,_,_,_,_,_,ml,mc,mk⟩:=zuc (yb e_fn).1;replace e_fn:=(yb e_fn).2;have u12:=zWd (st:=zcc) ml mc mk;have zeb:MethAt K "Shelf" "left" "Shelf.left" zcc z7 _ _ _:=⟨pn_Shelf,cl_Shelf,⟨ma,mb,mk⟩,u12,(u12.binds (ps:=z7) fun _ _ _ _ _ _ us hl=>by obtain⟨_,rfl⟩:=ln1 hl;rfl)⟩
 obtain⟨ma,e_vv⟩:=yb e_vv;obtain⟨mb,e_bb⟩:=yb e_bb;obtain⟨_,_,_,_,_,_,_,_,_,ml,mc,mk⟩:=zuc (yb e_fn).1;replace e_fn:=(yb e_fn).2;have u13:=zWd (st:=zNc) ml mc mk;have zgc:MethAt K "Shelf" "rule" "Shelf.rule" zNc zpb _ _ _:=⟨pn_Shelf,cl_Shelf,⟨ma,mb,mk⟩,u13,(u13.binds (ps:=zpb) fun _ _ _ _ _ _ us hl=>by obtain⟨_,rfl⟩:=ln1 hl;rfl)⟩
 obtain⟨ma,e_vv⟩:=yb e_vv;obtain⟨mb,e_bb⟩:=yb e_bb;obtain⟨_,_,_,_,_,_,_,_,_,ml,mc,mk⟩:=zuc (yb e_fn).1;replace e_fn:=(yb e_fn).2;have u14:=zWd (st:=zUc) ml mc mk;have zwd:MethAt K "Shelf" "where" "Shelf.where" zUc zHb _ _ _:=⟨pn_Shelf,cl_Shelf,⟨ma,mb,mk⟩,u14,(u14.binds (ps:=zHb) fun _ _ _ _ _ _ us hl=>by obtain⟨_,_,rfl⟩:=ln2 hl;rfl)⟩
 obtain⟨⟨_,_,a15,u15⟩,e_fn⟩:=fnc e_fn;have zac:FnAt K mg "_law_stand" zhe zwc _ _:=fa1 X G a15 u15 fun _ _ _ _ _ _ _=>rfl;obtain⟨ma,e_vv⟩:=yb e_vv;obtain⟨mb,e_bb⟩:=yb e_bb;obtain⟨_,_,_,_,_,_,_,_,_,ml,mc,mk⟩:=zuc (yb e_fn).1;replace e_fn:=(yb e_fn).2;have u16:=zWd (st:=zHc) ml mc mk;have zyb:MethAt K "Shelf" "has" "Shelf.has" zHc zgb _ _ _:=⟨pn_Shelf,cl_Shelf,⟨ma,mb,mk⟩,u16,(u16.binds (ps:=zgb) fun _ _ _ _ _ _ us hl=>by obtain⟨_,_,rfl⟩:=ln2 hl;rfl)⟩
 obtain⟨⟨_,_,a17,u17⟩,e_fn⟩:=fnc e_fn;have ztm:FnAt K mg "lying" zkm z4f _ _:=fa2 X G a17 u17 fun _ _ _ _ _ _ _ _=>rfl;obtain⟨⟨_,_,a18,u18⟩,e_fn⟩:=fnc e_fn;have zef:FnAt K mg "pushes_to" zUe zQc _ _:=fa3 X G a18 u18 fun _ _ _ _ _ _ _ _ _=>rfl;obtain⟨⟨_,_,a19,u19⟩,e_fn⟩:=fnc e_fn;have zej:FnAt K mg "row_to" zXi zFe _ _:=fa2 X G a19 u19 fun _ _ _ _ _ _ _ _=>rfl;obtain⟨⟨_,_,a20,u20⟩,e_fn⟩:=fnc e_fn;have zkf:FnAt K mg "put_in" zeh zid _ _:=fa3 X G a20 u20 fun _ _ _ _ _ _ _ _ _=>rfl;obtain⟨ma,e_vv⟩:=yb e_vv;obtain⟨mb,e_bb⟩:=yb e_bb;obtain⟨_,_,_,_,_,_,_,_,_,ml,mc,mk⟩:=zuc (yb e_fn).1;replace e_fn:=(yb e_fn).2;have u21:=zWd (st:=zQd) ml mc mk;have zXe:MethAt K "Shelf" "put" "Shelf.put" zQd zhc _ _ _:=⟨pn_Shelf,cl_Shelf,⟨ma,mb,mk⟩,u21,(u21.binds (ps:=zhc) fun _ _ _ _ _ _ us hl=>by obtain⟨_,_,rfl⟩:=ln2 hl;rfl)⟩
 obtain⟨ma,e_vv⟩:=yb e_vv;obtain⟨mb,e_bb⟩:=yb e_bb;obtain⟨_,_,_,_,_,_,_,_,_,ml,mc,mk⟩:=zuc (yb e_fn).1;replace e_fn:=(yb e_fn).2;have u22:=zWd (st:=zYd) ml mc mk;have zrf:MethAt K "Shelf" "out" "Shelf.out" zYd z6b _ _ _:=⟨pn_Shelf,cl_Shelf,⟨ma,mb,mk⟩,u22,(u22.binds (ps:=z6b) fun _ _ _ _ _ _ us hl=>by obtain⟨_,_,rfl⟩:=ln2 hl;rfl)⟩
 obtain⟨⟨_,_,a23,u23⟩,e_fn⟩:=fnc e_fn;have zZl:FnAt K mg "fault" zEm zag _ _:=fa2 X G a23 u23 fun _ _ _ _ _ _ _ _=>rfl;obtain⟨⟨_,_,a24,u24⟩,e_fn⟩:=fnc e_fn;have zth:FnAt K mg "is_push" zlh zId _ _:=fa4 X G a24 u24 fun _ _ _ _ _ _ _ _ _ _=>rfl;obtain⟨⟨_,_,a25,u25⟩,e_fn⟩:=fnc e_fn;have zXh:FnAt K mg "follows" zZg zJd _ _:=fa4 X G a25 u25 fun _ _ _ _ _ _ _ _ _ _=>rfl;obtain⟨⟨_,_,a26,u26⟩,e_fn⟩:=fnc e_fn;have z6i:FnAt K mg "pushed" zdj zIe _ _:=fa4 X G a26 u26 fun _ _ _ _ _ _ _ _ _ _=>rfl;obtain⟨⟨_,_,a27,u27⟩,e_fn⟩:=fnc e_fn;have zsf:FnAt K mg "laid_more" zTe zKc _ _:=fa3 X G a27 u27 fun _ _ _ _ _ _ _ _ _=>rfl;obtain⟨⟨_,_,a28,u28⟩,e_fn⟩:=fnc e_fn;have zGd:FnAt K mg "laid_at_all" zyd z3b _ _:=fa1 X G a28 u28 fun _ _ _ _ _ _ _=>rfl;obtain⟨⟨_,_,a29,u29⟩,e_fn⟩:=fnc e_fn;have z3g:FnAt K mg "room_of" zYh zKd _ _:=fa2 X G a29 u29 fun _ _ _ _ _ _ _ _=>rfl;obtain⟨⟨_,_,a30,u30⟩,e_fn⟩:=fnc e_fn;have zeg:FnAt K mg "homes_of" zhg z6c _ _:=fa2 X G a30 u30 fun _ _ _ _ _ _ _ _=>rfl;obtain⟨⟨_,_,a31,u31⟩,e_fn⟩:=fnc e_fn;have zfg:FnAt K mg "is_crowd" zmg z9c _ _:=fa2 X G a31 u31 fun _ _ _ _ _ _ _ _=>rfl;obtain⟨⟨_,_,a32,u32⟩,e_fn⟩:=fnc e_fn;have zUd:FnAt K mg "spare_key" znf zPc _ _:=fa2 X G a32 u32 fun _ _ _ _ _ _ _ _=>rfl;obtain⟨⟨_,_,a33,u33⟩,e_fn⟩:=fnc e_fn;have zTg:FnAt K mg "trimmed" znh zHd _ _:=fa2 X G a33 u33 fun _ _ _ _ _ _ _ _=>rfl;obtain⟨⟨_,_,a34,u34⟩,e_fn⟩:=fnc e_fn;have z3i:FnAt K mg "fitted" zcj zCe _ _:=fa1 X G a34 u34 fun _ _ _ _ _ _ _=>rfl;obtain⟨ma,e_vv⟩:=yb e_vv;obtain⟨mb,e_bb⟩:=yb e_bb;obtain⟨_,_,_,_,_,_,_,_,_,ml,mc,mk⟩:=zuc (yb e_fn).1;replace e_fn:=(yb e_fn).2;have u35:=zWd (st:=z0c) ml mc mk;have zxd:MethAt K "Shelf" "renew" "Shelf.renew" z0c zGb _ _ _:=⟨pn_Shelf,cl_Shelf,⟨ma,mb,mk⟩,u35,(u35.binds (ps:=zGb) fun _ _ _ _ _ _ us hl=>by obtain⟨_,_,rfl⟩:=ln2 hl;rfl)⟩
 obtain⟨⟨_,_,a36,u36⟩,e_fn⟩:=fnc e_fn;have zff:FnAt K mg "_law_deed" zbf zMc _ _:=fa2 X G a36 u36 fun _ _ _ _ _ _ _ _=>rfl;obtain⟨⟨_,_,a37,u37⟩,e_fn⟩:=fnc e_fn;have z0d:FnAt K mg "_law_spoil" zfe zvc _ _:=fa2 X G a37 u37 fun _ _ _ _ _ _ _ _=>rfl;obtain⟨⟨_,_,a38,u38⟩,e_fn⟩:=fnc e_fn;have zXc:FnAt K mg "_law_answered" zYc zBb _ _:=fa3 X G a38 u38 fun _ _ _ _ _ _ _ _ _=>rfl;obtain⟨⟨f39,oc39,od39,sl39,kV39,dc39,pm39,an39,cd39,ct39,a39,l39,c39,k39⟩,e_fn⟩:=fnl e_fn;have u39:=zWd (st:=z1n) l39 c39 k39;have zlz:FnAt K mg "law" z1n z7o _ _:=fa1 X G a39 u39 fun _ _ _ _ _ _ _=>rfl;have e:=hfa.symm.trans (xu X G a39);cases e;obtain⟨za,e_vv⟩:=yb e_vv;obtain⟨zc,e_vv⟩:=yb e_vv;have al_left_layings:mg "left_layings" = mg "left":=(xu X G za).trans (xu X G zc).symm;obtain⟨zao,e_vv⟩:=yb e_vv;obtain⟨zin,e_vv⟩:=yb e_vv;obtain⟨zoz,e_vv⟩:=yb e_vv;obtain⟨zYx,e_vv⟩:=yb e_vv;obtain⟨ztw,e_vv⟩:=yb e_vv;obtain⟨zEq,e_vv⟩:=yb e_vv;obtain⟨z6y,e_vv⟩:=yb e_vv;obtain⟨zMt,e_vv⟩:=yb e_vv;obtain⟨zuz,e_vv⟩:=yb e_vv;obtain⟨z7v,e_vv⟩:=yb e_vv;obtain⟨t_DIVISOR,v_DIVISOR⟩:=zIn (yb e_it).1;replace e_it:=(yb e_it).2;obtain⟨t_MOST_KEYS,v_MOST_KEYS⟩:=zIn (yb e_it).1;replace e_it:=(yb e_it).2;obtain⟨zEf,e_vv⟩:=yb e_vv;obtain⟨zFl,e_bb⟩:=yb e_bb;obtain⟨zYf,e_vv⟩:=yb e_vv;obtain⟨zan,e_bb⟩:=yb e_bb;obtain⟨zSe,e_vv⟩:=yb e_vv;obtain⟨z4i,e_bb⟩:=yb e_bb;obtain⟨zOe,e_vv⟩:=yb e_vv;obtain⟨z5i,e_bb⟩:=yb e_bb;obtain⟨xe_Twice,e_bb⟩:=yb e_bb;obtain⟨zwk,e_ob⟩:=yb e_ob;obtain⟨zRk,e_ob⟩:=yb e_ob;obtain⟨zam,e_ob⟩:=yb e_ob;obtain⟨zFm,e_ob⟩:=yb e_ob;obtain⟨zIm,e_ob⟩:=yb e_ob;obtain⟨zyn,e_ob⟩:=yb e_ob;obtain⟨xe_NoKey,e_bb⟩:=yb e_bb;obtain⟨zIk,e_ob⟩:=yb e_ob;obtain⟨zyk,e_ob⟩:=yb e_ob;obtain⟨zCl,e_ob⟩:=yb e_ob;obtain⟨i4,e_bb⟩:=yb e_bb;obtain⟨i7,e_vv⟩:=yb e_vv;obtain⟨i8,e_bb⟩:=yb e_bb;obtain⟨i9,e_cf⟩:=yb e_cf;obtain⟨_,_,_,_,_,_,_,_,_,_,_,_,_,_,zvv⟩:=z2t (yb e_ex).1;replace e_ex:=(yb e_ex).2;obtain⟨zGv,e_vv⟩:=yb e_vv;obtain⟨zZw,e_ov⟩:=yb e_ov;obtain⟨zEw,e_vv⟩:=yb e_vv;obtain⟨zZr,e_vv⟩:=yb e_vv;obtain⟨zNv,e_bb⟩:=yb e_bb;obtain⟨_,_,_,_,_,_,_,_,_,zBs,zvr,z9r⟩:=zuc (yb e_fn).1;replace e_fn:=(yb e_fn).2;obtain⟨_,zAw⟩:=zys (yb e_bb).1;replace e_bb:=(yb e_bb).2;obtain⟨zzw,e_vv⟩:=yb e_vv;obtain⟨zxv,e_vv⟩:=yb e_vv;obtain⟨zew,e_ob⟩:=yb e_ob;obtain⟨zIv,e_vv⟩:=yb e_vv;obtain⟨zpw,e_ob⟩:=yb e_ob;obtain⟨q4,e_vv⟩:=yb e_vv;obtain⟨q5,e_ob⟩:=yb e_ob;have T:Txt K mg:=⟨⟨68,zEf,xu X G zEf,zFl⟩,⟨24,zYf,xu X G zYf,zan⟩,⟨37,zSe,xu X G zSe,z4i⟩,⟨49,zOe,xu X G zOe,z5i⟩,(fun C h=>by rw[zSe]at h;cases h;exact xe_Twice),(fun C h=>by rw[zOe]at h;cases h;exact xe_NoKey),(fun C h=>by rw[zOe]at h;cases h;exact(Subs.cons zSe z4i zwk (Subs.cons zEf zFl zFm (Subs.cons zOe z5i zIk Subs.nil)))),(fun C h=>by rw[zSe]at h;cases h;exact(Subs.cons zSe z4i zRk (Subs.cons zEf zFl zIm (Subs.cons zOe z5i zyk Subs.nil)))),(fun C h=>by rw[zEf]at h;cases h;exact(Subs.cons zSe z4i zam (Subs.cons zEf zFl zyn (Subs.cons zOe z5i zCl Subs.nil)))),fl_Shelf_nest_of,fl_Shelf_kept_rule,al_left_layings,⟨fun C h=>by rw[zEf]at h;cases h;exact⟨⟨by rw[zAw];rfl,zzw,zxv,zew,zIv,q4,q5,zpw⟩,zZr,zNv⟩⟩,xk X G zao,xk X G zin,xk X G zoz,xk X G zYx,xk X G ztw,xk X G zEq,xk X G z6y,xk X G zMt,xk X G zuz,xk X G z7v,⟨t_DIVISOR,xu X G v_DIVISOR⟩,⟨t_MOST_KEYS,xu X G v_MOST_KEYS⟩⟩
 refine⟨W.fnOf "law" "law" (zqd z1n) (zGc z1n) (zy z1n) .none kV39 dc39 pm39 an39 cd39 ct39,fun s v => .of_eq rfl,fun base _ _=>?_⟩;have B_init_Full:IniAt K mg "Full" "some" "Full.__init__" zIc ztb _ _ _ _:=⟨zEf,xu X G zYf,⟨⟨_,_,_,_,_,_,_,_,_,_,_,_,_,_,zvv⟩,zGv,zZw,i4,zEw,zZr,i7,i8,i9⟩,(zWd (st:=zIc) zBs zvr z9r),(zWd (st:=zIc) zBs zvr z9r).binds (ps:=ztb) fun _ _ _ _ _ _ us hl=>by obtain⟨_,_,rfl⟩:=ln2 hl;rfl⟩
 have ok_init_Full:=zxm (P:=l.prog) (w:=w) (base:=base) T B_init_Full;have zPg:=zUn (P:=l.prog) (w:=w) (base:=base) T zkg;have zOb:=z9g (P:=l.prog) (w:=w) (base:=base) T zAb;have z1e:=zMk (P:=l.prog) (w:=w) (base:=base) T zge;have zM:=zOl T zge z1e zO;have zdc:=zzl T zO zM zec;have zRe:=zxk T zO zM zec zdc zde;have zn:=zQg (P:=l.prog) (w:=w) (base:=base) T zo;have zrc:=zCk T zo zn zic;have zPe:=zbu (P:=l.prog) (w:=w) (base:=base) T B_left;have zQl:=zHr (P:=l.prog) (w:=w) (base:=base) T zBm;have zSc:=zhq T zBm zQl zcd;have zNb:=zOi T zo zn zJb;have zdb:=zJk T B_left zPe zcd zSc zJb zNb zo zn zeb;have zpc:=zEk (P:=l.prog) (w:=w) (base:=base) T zgc;have zwe:=ztj (P:=l.prog) (w:=w) (base:=base) T zwd;have znc:=zLk T zo zn zic zrc zeb zdb zgc zpc zwd zwe zac;have zsb:=zJm (P:=l.prog) (w:=w) (base:=base) T zyb;have zyl:=zkr (P:=l.prog) (w:=w) (base:=base) T ztm;have zQf:=zlm T ztm zyl zef;have znj:=zpq (P:=l.prog) (w:=w) (base:=base) T zej;have zKe:=zDq T zef zQf B_left zPe zej znj zkf;have zSf:=zsm T zyb zsb zkf zKe zo zn zcd zSc zJb zNb B_init_Full ok_init_Full zXe;have z0f:=zEl T zyb zsb zrf;have zDm:=zxs T B_left zPe zZl;have zei:=z2n (P:=l.prog) (w:=w) (base:=base) T zth;have z8h:=zbo (P:=l.prog) (w:=w) (base:=base) T zXh;have zxj:=zuq T zZl zDm zth zei zXh z8h z6i;have zNf:=zvm T zkf zKe z6i zxj zsf;have zqe:=zhj T zsf zNf zGd;have zhi:=zoo (P:=l.prog) (w:=w) (base:=base) T z3g;have zNg:=zxn (P:=l.prog) (w:=w) (base:=base) T zeg;have zMg:=zMn T z3g zhi zeg zNg zfg;have zle:=zem T zfg zMg zUd;have zci:=zho T zUd zle zTg;have zIj:=z4p T zGd zqe zTg zci z3i;have zue:=zuj T zo zn z3i zIj zcd zSc B_init_Full ok_init_Full zxd;have zTf:=zRl T zXe zSf zrf z0f zxd zue zff;have z4e:=zAk T zo zn zeb zdb zic zrc z0d;have zpd:=zgi T zyb zsb zgc zpc zXc;exact zhw T zkg zPg zAb zOb zec zdc zO zM zde zRe zac znc zff zTf z0d z4e zXc zpd zo zn zeb zdb zlz
def walk{l:W.OpenLaw}{q:yv}{loose:List Str}{XP:(Str->Option Value)->yT->Prop}{YP:yE->yT->Prop}{d:DefRec}{K:Params->yr}(hn:l.most=some 63)(hdf:d.params.defaults=[])
 (hY:∀(w:yE)(h:yT),YP w h->(K w.params).In h)
 (F:∀(w:yE)(mg:Str->Option Value)(fa:Addr)(h:yT),(K w.params).In h->h.Ns yj mg->mg d.name=some (.ref fa) ->
  ∃fd:yf,(∀(s:yc)(u:Value),BindsTo s fd ⟨[u],[]⟩ [("_law_script",u)])/\∀base:yT,(K w.params).In base->base.Ns yj mg->FnOk l.prog w (K w.params) mg base CX0 9 fa fd ["_law_script"] (spM (K w.params) 1 zaq)) :
 W.WalkO q loose XP YP l.row.toRowW d [] (fun f vs=>PySem.call f vs) :=
 L2.walk_of (n:=63) (k:=9) (x:="_law_script") (CX:=fun _=>CX0) (sp:=fun w=>spM (K w.params) 1 zaq) hn (by decide) hdf (by first | exact⟨rfl,by decide,by decide,rfl⟩ | exact⟨rfl,by decide,by decide⟩) hY F (fun _ _ a ns hl hO hS=>zgx (zBu ns hl) hO hS) fun _ _ _ _ _ z=>z
end P
open PySem PySem.W PyProof.Rows
set_option maxRecDepth 100000 in
set_option maxHeartbeats 0 in
theorem PySem.Challenge.cw_keynests_k54_shelves_side_by_side_holds : PySem.Challenge.rw_keynests_k54_shelves_side_by_side.Holds := by
 refine M.own_head (l:=xl) (q:=Hd.qv) (loose:=Hd.lse) (d:=Hd.dl) (obs:=Hd.obs) (good:=Hd.good) (N:=60000) Hd.hd1 Hd.hd2 Hd.hd3 Hd.hd4 Hd.hd5 Hd.hd6 Hd.hd7 ?hw fun K e=>?_
 case hw=>w_witness2
 exact P.walk (l:=xl) (K:=fun _=>K) (by rfl) (by rfl) (fun w h Y=>Y) fun w mg fa h KX G hmg=>P.all_of KX G hmg e
